import PyProof.Rows.All
import Wide.All
import OpenK.AllK
import Wide.FinOn
import Lean
import PyProof.EqAt
import PyProof.EqKinds
import PyProof.TupleCall
import KE.KLam
import KE.KNestM
import KE.KSortKey
import KE.KLam
import KE.KNestM
import PySem.Challenge.RW_onecurve_k49_places_refused
open PySem renaming Addr → aa, Value → ac, wpAny_bind → ad, Shared → ae, sizeLine → af, FuncData → ag, wpAny_pure → ah, Program → ai, mainGlobals → aj, wpAny → am, model → ao, starEach → aq, World → ar, Heap → au, SetTable → av, Around → aw, wpAny_holding → ax, bootBuiltins → ay, wpAny_mono → az, Scope → aB, eval → aD, rawInt → aE, wpAny_Call_Name_kw → aG, compareOp → aH, wpAny_passesOwn → aI, sizeLine_eq → aJ, codeAny_mono → aK, wpAny_field → aL, wpAny_setState_of → aM, backTo → aN, wpAny_execs_nil → aO, codeAny → aR, Stmt → aS, bindArgs → aT, IsPair → aU, wpAny_standAt → aV, codeAny_builtin → aX, assignEach → aY, Arguments → aZ, foldedSetIterable → bi, wpAny_attempt → bj, binaryOp → bo, letOwnedTupleGo → br, wpAny_updateSeq → bv, builtinsNs → bA, carriedByValue → bH, wpAny_truthy_bool → bI, wpAny_newObj_type → bJ, Keyword → bK, ofAClassStatement → bL, sliceBounds → bM, behindInMarks → bO, pyNext → bP, attributeBase → bQ, NameKind → bS, codeAmong → bT, call_meets → bU, ZipApart → bV
open PyProof.Rows renaming seqObj → aA, AllBare → aW, IntsAre → bz, assignInOrder_cons → bE, listUpdate_at → bR
open Option renaming some → TU
open PySem.W renaming methodObj → TV,hideAll → U1,of_hideAll → U3,Frag → U5,findIn → Uq,specialIn → Ur,keepIn → Us,mroIn → Ut,fnOf → UK,codeIn → UL,kitOne → VC,nsIn → VG,excIn → VH,mg_of → VI,envX → Wk,kla_fn → Wm,codeHdIn → Wn,tabObj → Wo,codeHd_of_K → Wq,kla_obj → Wr,exmOne → Wt,OpenLaw → WK,kitAny → X3,mg_none_of → X7
open Nat renaming lt_of_lt_of_le → TX,lt_irrefl → TY,ne_of_lt → TZ,le_trans → U6,le_of_lt → U7,ne_of_gt → Uj,le_refl → Uk,zero_le → Uo,min_eq_left → UN,min_eq_right → UO,lt_of_le_of_lt → UY,lt_trans → UZ,add_zero → Vc,lt_succ_self → Vv,lt_succ_of_lt → Vw,pow_le_pow_right → VA,add_mul → VD,one_mul → VE,mul_le_mul_right → VF,sub_zero → VL,mul_add → VO,succ_pos → VR,sub_self → VX,le_add_right → W2,zero_add → W5,add_le_add_right → Wj,lt_or_ge → Ww,add_sub_cancel → Wx,le_of_eq → Wz,lt_trichotomy → WE,not_lt_zero → WI,mul_le_mul → WQ,mul_le_mul_left → X0
open List renaming range → U0,mem_filter → U2,mem_range → U4,filterMap_cons → U8,mem_cons_self → U9,mem_cons_of_mem → Ua,mem_cons → Ub,mem_append → Uc,mem_append_left → Ud,getElem?_eq_some_iff → Ue,getElem?_set_self → Ug,getElem?_set_ne → Uh,mem_filterMap → Ul,mem_append_right → Um,append_nil → Uu,nodup_cons → Uv,of_mem_zip → Uw,replicate → Ux,length_take → Uy,getElem?_append_right → Uz,getElem?_replicate → UA,getElem?_append_left → UB,getElem?_map → UC,getElem?_take_of_lt → UD,take_sublist → UE,mem_of_getElem? → UG,length_append → UH,length_map → UI,length_replicate → UJ,length_drop → UP,size_toArray → UQ,length_set → UR,replicate_succ → US,flatten_cons → UT,append_assoc → UU,length_singleton → UW,map_cons → UX,nodup_nil → V0,length_pos_iff → Vf,length_cons → Vg,getElem?_cons_succ → Vh,map_set → Vi,take_add_one → Vj,map_append → Vk,take_length → Vl,eq_nil_of_length_eq_zero → Vm,forIn_cons → Vo,lookup_cons → Vp,lookup → Vq,all_eq_true → Vr,getD_eq_getElem?_getD → Vs,ext_getElem? → Vt,getElem?_drop → Vu,mem_singleton → Vx,getElem?_eq_getElem → Vy,getElem_mem → Vz,drop_zero → VJ,getElem?_eq_none → VS,range_succ → VT,mem_map → VU,take_of_length_le → VW,take_zero → VY,drop_eq_nil_of_le → VZ,length_range → W7,getElem?_range → Wa,getElem?_of_mem → Wc,getElem_range → Wd,filterMap_cons_some → Wf,length_eq_zero_iff → Wi,mem_map_of_mem → Wl,getElem?_take → Wv,getElem_of_mem → Wy,length_zip → WA,pairwise_map → WC,pairwise_singleton → WD,getElem?_zip_eq_some → WG,map_congr_left → WL,mem_of_mem_take → WN,mem_replicate → WR,eq_of_mem_replicate → WV,filter_cons_of_pos → WX,filter_cons_of_neg → WY,filter_append → WZ,nodup_append → X1,map_take → X4,mem_of_mem_drop → X5,map_fst_zip → X6
open Array renaming length_toList → Ui,getElem?_eq_none → W0,getElem?_toList → W6,forIn_toList → W8,getD_eq_getD_getElem? → W9,getElem?_setIfInBounds_ne → Wb,getElem?_eq_getElem → We,replicate → Wg,size_push → Wh,toList_append → Ws,getElem?_eq_some_iff → WH,getElem?_setIfInBounds → WJ
open Int renaming toNat_natCast → UM,gcd → V1,mul_fdiv_cancel_left → V2,gcd_dvd_left → V4,one_mul → V5,gcd_dvd_right → V6,mul_ne_zero → V9,sub_eq_add_neg → VB,pow_zero → VM,pow_succ → VN,emod_nonneg → W3,emod_lt_of_pos → W4,mul_zero → WM,fdiv_eq_ediv_of_nonneg → WW,natCast_nonneg → X2
open Rat renaming divInt → V3,divInt_eq_div → V7,div_mul_cancel → V8,intCast_mul → Va,intCast_sub → Vb,pow_zero → Vd,pow_succ → Ve,mul_eq_zero → Vn,mul_assoc → VP,mul_one → VQ,mul_zero → Wu,intCast_zero → WS,num_intCast → WT,den_intCast → WU
set_option Elab.async false
set_option linter.all false
set_option maxRecDepth 100000
theorem Z.{u}{Y:Sort u}{a:Y}:a=a:=rfl
namespace L2
open PySem PySem.Spec PyProof.Rows
abbrev Key:=Sum Int Str
def HV:Key->ac->Bool
 | .inl k,v=>Value.isInt k v
 | .inr x,v=>Value.isStrOf x v
def Ru(w:ar):Key->Int
 | .inl k=>hashInt k
 | .inr x=>hashStr w x
theorem Bo:∀{k:Key} {v:ac},HV k v=true->(∃i t,k=Sum.inl i/\v=Value.int i t)\/(∃x t,k=Sum.inr x/\v=Value.str x t)
 | .inl i,v,h=>by
   obtain⟨t,e⟩:=Value.isInt_shape (k:=i) (v:=v) h;exact .inl ⟨i,t,Z,e⟩
 | .inr x,v,h=>by
   obtain⟨t,e⟩:=Value.isStrOf_shape (x:=x) (v:=v) h;exact .inr ⟨x,t,Z,e⟩
theorem Mf(i:Int)(t:Tok):HV (.inl i) (.int i t)=true:=by simp[HV,Value.isInt]
theorem Me(x:Str)(t:Tok):HV (.inr x) (.str x t)=true:=by simp[HV,Value.isStrOf]
theorem Q5(a b:Int):decide ((Sum.inl a:Key)=Sum.inl b)=(a == b):=by
 by_cases e:a=b
 ·subst e;simp
 ·have h:¬(Sum.inl a:Key)=Sum.inl b:=fun q=>e (Sum.inl.inj q);rw[decide_eq_false h];exact(beq_eq_false_iff_ne.mpr e).symm
theorem Q0(a b:Str):decide ((Sum.inr a:Key)=Sum.inr b)=decide (a=b):=by
 by_cases e:a=b
 ·subst e;simp
 ·have h:¬(Sum.inr a:Key)=Sum.inr b:=fun q=>e (Sum.inr.inj q);rw[decide_eq_false h,decide_eq_false e]
theorem Q4(a:Int)(b:Str):decide ((Sum.inl a:Key)=Sum.inr b)=false:=decide_eq_false (fun q=>nomatch q)
theorem Q3(a:Str)(b:Int):decide ((Sum.inr a:Key)=Sum.inl b)=false:=decide_eq_false (fun q=>nomatch q)
def D7(prog:ai)(w:ar):PySem.KeyKind prog w Key where
 is:=HV
 hash:=Ru w
 inj:=fun v a b ha hb=>by
  rcases Bo ha with ⟨i,t,rfl,rfl⟩ | ⟨x,t,rfl,rfl⟩
  ·rcases Bo hb with ⟨j,u,rfl,e⟩ | ⟨y,u,rfl,e⟩
   ·injection e with e1 _;rw[e1]
   ·exact nomatch e
  ·rcases Bo hb with ⟨j,u,rfl,e⟩ | ⟨y,u,rfl,e⟩
   ·exact nomatch e
   ·injection e with e1 _;rw[e1]
 byValue:=fun k v h=>by
  rcases Bo h with ⟨i,t,rfl,rfl⟩ | ⟨x,t,rfl,rfl⟩<;>rfl
 pyHash:=fun hv h=>by
  rcases Bo hv with ⟨i,t,rfl,rfl⟩ | ⟨x,t,rfl,rfl⟩
  ·exact wpAny_pyHash_int h
  ·exact wpAny_pyHash_str h
 eqBool:=fun hu hv h=>by
  rcases Bo hu with ⟨i,t,rfl,rfl⟩ | ⟨x,t,rfl,rfl⟩
  ·rcases Bo hv with ⟨j,u,rfl,rfl⟩ | ⟨y,u,rfl,rfl⟩
   ·rw[Q5]at h;exact wpAny_eqBool_int h
   ·rw[Q4]at h;exact SeqAt.EqAt.int_str i t y u _ _ _ _ h
  ·rcases Bo hv with ⟨j,u,rfl,rfl⟩ | ⟨y,u,rfl,rfl⟩
   ·rw[Q3]at h;exact SeqAt.EqAt.str_int x t j u _ _ _ _ h
   ·rw[Q0]at h;exact wpAny_eqBool_str h
 «strs»:=fun k x t v h=>by
  rcases Bo h with ⟨i,u,rfl,e⟩ | ⟨y,u,rfl,e⟩
  ·exact nomatch e
  ·injection e with e1 _
   subst e1;cases v<;>rfl
theorem JE(prog:ai)(w:ar)(i:Int)(t:Tok):(D7 prog w).is (.inl i) (.int i t)=true:=Mf i t
theorem JD(prog:ai)(w:ar)(x:Str)(t:Tok):(D7 prog w).is (.inr x) (.str x t)=true:=Me x t
inductive V where
 | non | bl (b:Bool) | int (i:Int) | str (x:Str) | byt (b:Array UInt8) | flt (b:UInt64) | ref (a:aa) | ty (n:String)
 deriving DecidableEq
def AR:V->ac->Prop
 | .non,u=>u=Value.none
 | .bl b,u=>u=Value.bool b
 | .int i,u=>∃t,u=Value.int i t
 | .str x,u=>∃t,u=Value.str x t
 | .byt b,u=>∃t,u=Value.bytes b t
 | .flt b,u=>∃t,u=Value.float b t
 | .ref a,u=>u=Value.ref a
 | .ty n,u=>u=Value.type n
abbrev AI:List V->List ac->Prop:=Paired AR
theorem AI.length{xs:List V}{us:List ac}(r:AI xs us):xs.length=us.length:=Paired.length r
theorem AI.get:∀{xs:List V} {us:List ac} {i:Nat} {x:V},AI xs us->xs[i]? = some x->∃u,us[i]? = some u/\AR x u
 | _,_,_,_,.nil,e=>by simp at e
 | _,_,0,_,.cons r _,e=>by simp at e;subst e;exact⟨_,Z,r⟩
 | _,_,i+1,x,.cons _ t,e=>by
   obtain⟨u,h1,h2⟩:=AI.get (i:=i) (x:=x) t (by simpa using e)
   exact⟨u,by simpa using h1,h2⟩
theorem AI.set{x:V}{u:ac}(r:AR x u):∀{xs:List V} {us:List ac} (i:Nat),AI xs us->AI (xs.set i x) (us.set i u)
 | _,_,_,.nil=>.nil
 | _,_,0,.cons _ t=>.cons r t
 | _,_,i+1,.cons q t=>.cons q (AI.set r i t)
theorem AI.append{xs ys:List V}{us ws:List ac}(a:AI xs us)(b:AI ys ws):AI (xs++ys) (us++ws):=by
 induction a with
 | nil=>exact b
 | cons r t ih=>exact .cons r ih
theorem AI.take:∀{xs:List V} {us:List ac} (n:Nat),AI xs us->AI (xs.take n) (us.take n)
 | _,_,0,_=>.nil
 | _,_,_+1,.nil=>.nil
 | _,_,n+1,.cons r t=>.cons r (AI.take n t)
theorem AI.drop:∀{xs:List V} {us:List ac} (n:Nat),AI xs us->AI (xs.drop n) (us.drop n)
 | _,_,0,r=>r
 | _,_,_+1,.nil=>.nil
 | _,_,n+1,.cons _ t=>AI.drop n t
def Ra:Option V->Option ac->Prop
 | some v,some u=>AR v u
 | none,none=>True
 | _,_=>False
def KV{κ:Type}:List (κ×V)->List (κ×ac)->Prop:=Paired fun(p:κ×V) (q:κ×ac)=>p.1=q.1/\AR p.2 q.2
def kV:Key->V
 | .inl i=>.int i
 | .inr x=>.str x
inductive HO where
 | lst (xs:List V)
 | tup (xs:List V)
 | dK (kvs:List (Key×V)) | dT (kvs:List (List Key×V))
 | set (S:Int->Bool) (n:Nat)
 | ins (C dx:aa) (fs:List (Str×V))
 | own (x:aa)
 | xd (fs:List (Str×V))
 | met (f x:aa)
 | rng (lo hi:Int)
 | frz (o:Obj) (u:HO)
 | tbl (ps:Array ac)
 | ext (φ:au->Prop)
abbrev Hp:=aa->Option HO
def upd(H:Hp)(a:aa)(o:HO):Hp:=fun b=>if b=a then some o else H b
theorem Aa{H:Hp}{a:aa}{o:HO}:upd H a o a=some o:=by unfold upd;rw[if_pos rfl]
theorem Am{H:Hp}{a b:aa}{o:HO}(h:b≠a):upd H a o b=H b:=by unfold upd;rw[if_neg h]
theorem NY{H:Hp}{a:aa}{o u:HO}:upd (upd H a o) a u=upd H a u:=by
 funext b;unfold upd;split<;>rfl
theorem Gf{H:Hp}{a b:aa}{o u:HO}(h:H a=some o)(h':H b=some u)(d:o≠u):a≠b:=by
 intro e;subst e;rw[h]at h';exact d (TU.inj h')
theorem Av{H:Hp}{a b:aa}{o:HO}(h:H a=some o)(h':H b=none):a≠b:=by
 intro e;subst e;rw[h]at h';cases h'
section
variable (P:ai)(w:ar)
def BW(H:Hp)(h:au)(a:aa):HO->Prop
 | .lst xs=>xs.length<=af/\∃(its:List ac) (n:Nat),AI xs its/\h.get? a=some { cls:=.type "list",data:=.seq its.toArray n }
 | .tup xs=>xs.length<=af/\∃its:List ac,AI xs its/\IsTup h a its.toArray
 | .dK kvs=>kvs.length<=af/\(a == sysModules)=false/\∃vs,KV kvs vs/\h.DictOf (D7 P w) a vs
 | .dT kvs=>kvs.length<=af/\(a == sysModules)=false/\∃xs:List (List Key×aa×ac),
  Paired (fun(p:List Key×V) (q:List Key×aa×ac)=>p.1=q.1/\H q.2.1=some (.tup (p.1.map kV))/\AR p.2 q.2.2) kvs xs /\
  ∃o es ep,h.get? a=some o/\o.ExactDict/\o.data = .dict es ep/\es.toList=xs.map (entryOfKey (tupleKind (D7 P w)))/\(xs.map (·.1)).Nodup
 | .set S n=>h.SetOf (intKind P w) a S n
 | .ins C dx fs=>H dx=some (.own a)/\fs.length<=1000/\dx≠a/\h.get? a=some (PySem.W.instObj C dx) /\
  ∃mA,h.Ns1 dx mA/\(∀f,Ra (fs.lookup f) (mA f))/\PySem.Within mA (fs.map (·.1))
 | .own _=>∃o,h.get? a=some o
 | .xd fs=>∃mA,h.Ns1 a mA/\∀f,Ra (fs.lookup f) (mA f)
 | .rng lo hi=>∃t u v,h.get? a=some { cls:=.type "range",data:=.fields #[.int lo t,.int hi u,.int 1 v] }
 | .frz o u=>h.get? a=some o/\BW H h a u
 | .tbl ps=>h.get? a=some { cls:=.none,data:=.fields ps }
 | .met f x=>h.get? a=some (TV (.ref f) (.ref x))
 | .ext φ=>φ h/\(∃o,h.get? a=some o)/\∀h1 h2:au,φ h1->(∀o,h1.get? a=some o->h2.get? a=some o)->φ h2
def HOk(H:Hp)(h:au):Prop:=∀a o,H a=some o->BW P w H h a o
end
section
variable {P:ai}{w:ar}{H H':Hp}{h h':au}{a:aa}{o:HO}
theorem BW.lt(x:BW P w H h a o):a<h.objs.size:=by
 cases o with
 | lst xs=>obtain⟨_,_,_,_,e⟩:=x;exact Heap.lt_size e
 | tup xs=>obtain⟨_,_,_,p⟩:=x;exact p.lt
 | dK kvs=>obtain⟨_,_,_,_,o,_,_,e,_⟩:=x;exact Heap.lt_size e
 | dT kvs=>obtain⟨_,_,_,_,o,_,_,e,_⟩:=x;exact Heap.lt_size e
 | set S n=>obtain⟨o,_,_,_,e,_⟩:=x;exact Heap.lt_size e
 | ins C dx fs=>obtain⟨_,_,_,e,_⟩:=x;exact Heap.lt_size e
 | own y=>obtain⟨_,e⟩:=x;exact Heap.lt_size e
 | xd fs=>obtain⟨_,⟨_,_,_,e,_⟩,_⟩:=x;exact Heap.lt_size e
 | rng lo hi=>obtain⟨_,_,_,e⟩:=x;exact Heap.lt_size e
 | frz ob u=>obtain⟨e,_⟩:=x;exact Heap.lt_size e
 | tbl ps=>exact Heap.lt_size (show h.get? a=some _ from x)
 | met f y=>exact Heap.lt_size (show h.get? a=some _ from x)
 | ext φ=>obtain⟨_,⟨_,e⟩,_⟩:=x;exact Heap.lt_size e
theorem Paired.mapP{O W:Type}{F G:O->W->Prop}{l₁:List O}{Y:List W}(h:Paired F l₁ Y)(f:∀a b,F a b->G a b):Paired G l₁ Y:=by
 induction h with
 | nil=>exact .nil
 | cons r t ih=>exact .cons (f _ _ r) ih
theorem BW.stay(x:BW P w H h a o)(k:∀b u,(b=a\/H b=some (.own a))->h.get? b=some u->h'.get? b=some u)
 (ho:∀b,H b=some (.own a)->H' b=some (.own a)) (ht:∀b xs,H b=some (.tup xs)->H' b=some (.tup xs)):BW P w H' h' a o:=by
 induction o with
 | lst xs=>obtain⟨z,W,n,r,e⟩:=x;exact⟨z,W,n,r,k _ _ (.inl rfl) e⟩
 | tup xs=>obtain⟨z,W,r,Y,e,c⟩:=x;exact⟨z,W,r,Y,k _ _ (.inl rfl) e,c⟩
 | dK kvs=>obtain⟨z,y,vs,r,Y,es,ep,e,c⟩:=x;exact⟨z,y,vs,r,Y,es,ep,k _ _ (.inl rfl) e,c⟩
 | dT kvs =>
   obtain⟨z,y,xs,r,Y,es,ep,e,c⟩:=x;exact⟨z,y,xs,Paired.mapP r fun p q z=>⟨z.1,ht _ _ z.2.1,z.2.2⟩,Y,es,ep,k _ _ (.inl rfl) e,c⟩
 | set S n=>obtain⟨Y,es,ep,t,e,c⟩:=x;exact⟨Y,es,ep,t,k _ _ (.inl rfl) e,c⟩
 | ins C dx fs =>
   obtain⟨d,z,ne,e,mA,⟨O,es,ep,J,c⟩,r⟩:=x;exact⟨ho _ d,z,ne,k _ _ (.inl rfl) e,mA,⟨O,es,ep,k _ _ (.inr d) J,c⟩,r⟩
 | own y=>obtain⟨Y,e⟩:=x;exact⟨Y,k _ _ (.inl rfl) e⟩
 | xd fs=>obtain⟨mA,⟨O,es,ep,e,c⟩,r⟩:=x;exact⟨mA,⟨O,es,ep,k _ _ (.inl rfl) e,c⟩,r⟩
 | rng lo hi=>obtain⟨t,u,v,e⟩:=x;exact⟨t,u,v,k _ _ (.inl rfl) e⟩
 | frz Y u ih=>obtain⟨e,q⟩:=x;exact⟨k _ _ (.inl rfl) e,ih q⟩
 | tbl ps =>
   have e:h.get? a=some { cls:=.none,data:=.fields ps }:=x;show h'.get? a=some { cls:=.none,data:=.fields ps };exact k a _ (.inl rfl) e
 | met f y =>
   have e:h.get? a=some (TV (.ref f) (.ref y)):=x;show h'.get? a=some (TV (.ref f) (.ref y));exact k a _ (.inl rfl) e
 | ext φ=>obtain⟨p,⟨o,e⟩,st⟩:=x;exact⟨st _ _ p fun o q=>k _ _ (.inl rfl) q,⟨o,k _ _ (.inl rfl) e⟩,st⟩
theorem HOk.lt(x:HOk P w H h)(e:H a=some o):a<h.objs.size:=(x a o e).lt
theorem HOk.fresh(x:HOk P w H h)(e:h.objs.size<=a):H a=none:=by
 cases q:H a with
 | none=>rfl
 | some u=>exact absurd (TX (x.lt q) e) (TY _)
theorem HOk.kept(x:HOk P w H h)(k:∀b u,h.get? b=some u->h'.get? b=some u):HOk P w H h':=fun a o e =>
 (x a o e).stay (fun b u _ q=>k b u q) (fun _ q=>q) fun _ _ q=>q
theorem HOk.laid(x:HOk P w H h)(k:∀b u,h.get? b=some u->h'.get? b=some u)(O:h.objs.size<=a)(Y:BW P w (upd H a o) h' a o):HOk P w (upd H a o) h':=fun b u e=>by
 have W:=x.fresh O;by_cases hb:b=a
 ·subst hb;rw[Aa]at e;cases e;exact Y
 ·rw[Am hb]at e;exact(x b u e).stay (fun c v _ q=>k c v q) (fun c q=>by rw[Am (Av q W)];exact q) fun c xs q=>by rw[Am (Av q W)];exact q
end
def Rd(H:Hp)(a:aa)(u:HO):Prop:=H a=some u\/∃o,H a=some (.frz o u)
theorem Rd.ok{P:ai}{w:ar}{H:Hp}{h:au}{a:aa}{u:HO}(r:Rd H a u)(x:HOk P w H h):BW P w H h a u:=by
 rcases r with r | ⟨o,r⟩
 ·exact x a u r
 ·obtain⟨_,q⟩:=x a _ r;exact q
def Mut:Option HO->Prop
 | some (.lst _)=>True
 | some (.dK _)=>True
 | some (.dT _)=>True
 | some (.set _ _)=>True
 | some (.ins _ _ _)=>True
 | some (.ext _)=>True
 | _=>False
section
variable {P:ai}{w:ar}{H:Hp}{h h':au}{x e:aa}{o':HO}
theorem HOk.write(ok:HOk P w H h)(mu:Mut (H x))(he:e=x\/H e=some (.own x))(k:∀b u,b≠e->h.get? b=some u->h'.get? b=some u)(J:∃u,h'.get? e=some u)
 (ak:BW P w (upd H x o') h' x o'):HOk P w (upd H x o') h':=fun b u q=>by
 have Y:∀c y,H c=some (.own y)->c≠x:=fun c y r z=>by subst z;rw[r]at mu;exact mu
 have W:∀c xs,H c=some (.tup xs)->c≠x:=fun c xs r z=>by subst z;rw[r]at mu;exact mu
 by_cases hb:b=x
 ·subst hb;rw[Aa]at q;cases q;exact ak
 ·rw[Am hb]at q;by_cases hbe:b=e
  ·have q':H b=some (.own x):=by
    rcases he with z | z
    ·exact absurd (hbe.trans z) hb
    ·rw[hbe];exact z
   rw[q]at q';cases q';obtain⟨v,hv⟩:=J;exact⟨v,by rw[hbe];exact hv⟩
  ·refine(ok b u q).stay (fun c v O r=>k c v ?_ r) (fun c r=>by rw[Am (Y c b r)];exact r) fun c xs r=>by rw[Am (W c xs r)];exact r
   rcases O with rfl | O
   ·exact hbe
   ·rintro rfl
    rcases he with z | z
    ·exact Y c b O z
    ·rw[O]at z;cases z;exact hb rfl
end
structure Un(fs ex:List aa)(H H':Hp)(h h':au):Prop where
 keep:∀b o,h.get? b=some o->H b=none->b∉fs->b∉ex->h'.get? b=some o
 slot:∀b o,h.get? b=some o->H b=none->b∈fs->b∉ex->∃sl,h'.get? b=some { o with slots:=sl }
 free:∀b o,h.get? b=some o->H b=none->b∉ex->H' b=none
 there:∀b o,h.get? b=some o->b∉ex->∃o',h'.get? b=some o'
 tups:∀b xs,H b=some (.tup xs)->H' b=some (.tup xs)
 frzs:∀b o u,H b=some (.frz o u)->H' b=some (.frz o u)
 tbls:∀b ps,H b=some (.tbl ps)->∃more,H' b=some (.tbl (ps++more))
section
variable {fs fs' ex ex':List aa}{H H1 H2:Hp}{h h1 h2 h':au}{a x e:aa}{o:HO}
theorem Un.any(u:Un fs ex H H1 h h1){b:aa}{Y:Obj}(q:h.get? b=some Y)(n:H b=none)(W:b∉ex):∃O,h1.get? b=some { Y with slots:=O }:=by
 by_cases hb:b∈fs
 ·exact u.slot b Y q n hb W
 ·exact⟨Y.slots,u.keep b Y q n hb W⟩
theorem Un.kept(k:∀b u,h.get? b=some u->h'.get? b=some u):Un fs ex H H h h' :=
 ⟨fun b Y q _ _ _=>k b Y q,fun b Y q _ _ _=>⟨Y.slots,k b Y q⟩,fun _ _ _ n _=>n,fun b Y q _=>⟨Y,k b Y q⟩,fun _ _ q=>q,fun _ _ _ q=>q,fun _ ps q=>⟨#[],by rw[q];simp⟩⟩
theorem Un.refl:Un fs ex H H h h:=Un.kept fun _ _ q=>q
theorem Un.laid(k:∀b u,h.get? b=some u->h'.get? b=some u)(W:h.objs.size<=a)(Y:H a=none):Un fs ex H (upd H a o) h h' where
 keep:=fun b u q _ _ _=>k b u q
 slot:=fun b u q _ _ _=>⟨u.slots,k b u q⟩
 free:=fun b u q n _=>by rw[Am (TZ (TX (Heap.lt_size q) W))];exact n
 there:=fun b u q _=>⟨u,k b u q⟩
 tups:=fun b xs q=>by rw[Am (Av q Y)];exact q
 frzs:=fun b u xs q=>by rw[Am (Av q Y)];exact q
 tbls:=fun b ps q=>⟨#[],by rw[Am (Av q Y),q];simp⟩
theorem Un.write(mu:Mut (H x))(he:e=x\/H e=some (.own x))(k:∀b u,b≠e->h.get? b=some u->h'.get? b=some u)(W:∃u,h'.get? e=some u):Un fs ex H (upd H x o) h h':=by
 have O:∀b,H b=none->b≠x:=fun b n z=>by subst z;rw[n]at mu;exact mu
 have J:∀b,H b=none->b≠e:=fun b n z=>by
  subst z
  rcases he with r | r
  ·exact O b n r
  ·rw[n]at r;cases r
 have Y:∀b u,H b=some u->¬Mut (some u)->b≠x:=fun b u q nm z=>by subst z;rw[q]at mu;exact nm mu
 refine⟨fun b u q n _ _=>k b u (J b n) q,fun b u q n _ _=>⟨u.slots,k b u (J b n) q⟩,fun b u q n _=>by rw[Am (O b n)];exact n,fun b u q _=>?_,
  fun b xs q=>by rw[Am (Y b _ q fun z=>z)];exact q,fun b u xs q=>by rw[Am (Y b _ q fun z=>z)];exact q,fun b ps q=>⟨#[],by rw[Am (Y b _ q fun z=>z),q];simp⟩⟩
 by_cases hbe:b=e
 ·subst hbe;exact W
 ·exact⟨u,k b u hbe q⟩
end
def trk(h:au)(H:Hp):List aa:=(U0 h.objs.size).filter fun a=>(H a).isSome
def Hi(h:au)(H:Hp):au:=U1 h (trk h H)
theorem Mh(h:au)(H:Hp):(Hi h H).objs.size=h.objs.size:=PySem.W.hideAll_size _ _
theorem Nd{h:au}{H:Hp}{b:aa}{o:Obj}(e:h.get? b=some o)(n:H b=none):(Hi h H).get? b=some o :=
 PySem.W.hideAll_get _ e fun Y=>by
  have q:(H b).isSome=true:=(U2.mp Y).2;rw[n]at q;simp at q
theorem Oi{h:au}{H:Hp}{b:aa}{o:Obj}(e:(Hi h H).get? b=some o):h.get? b=some o/\H b=none:=by
 have Y:h.get? b=some o:=U3 (trk h H) e;refine⟨Y,?_⟩;cases q:H b with
 | none=>rfl
 | some x =>
   have O:b∈trk h H:=U2.mpr ⟨U4.mpr (Heap.lt_size Y),by simp[q]⟩
   have z:(Hi h H).get? b=none:=PySem.W.hideAll_none (trk h H) O;rw[z]at e;cases e
def OG(g h:au)(L:aa):List (aa×Obj):=(U0 h.objs.size).filterMap fun a=>if a=L\/(g.get? a).isSome=true then none else (h.get? a).map fun o=>(a,o)
def BD(g h:au)(L d:aa):List (aa×Obj):=(OG g h L).filter fun p=>decide (p.1≠d)
structure Mod(K:U5)(mg:Str->Option ac)(base:au):Prop where
 kin:K.In base
 glob:base.Ns aj mg
 blt:∃mb,base.Ns bA mb/\∀x:Str,x ≠ "__name__" -> mb x=ay x
 nolimit:base.NoLimit
 seer:base.NoSeer
structure Cx where
 prog:ai
 w:ar
 K:U5
 mg:Str->Option ac
 base:au
 A:aw
 N:List Str
 s₀:ae
 H₀:Hp
 env:Env
 outer:List Env
 stack:List Env
 ex:List aa
 fn:Str->Bool
 calm:Bool
 pn:List (aa×Obj)
 xe:ac->ae->Prop
def frs(l:List Env):List aa:=l.filterMap (·.frame)
abbrev Cx.fs(X:Cx):List aa:=frs X.outer
def Vis(sc:aB)(x:Str):Prop:=sc.names.lookup x=some .local\/sc.names.lookup x=some .cell\/sc.names.lookup x=some .free
def Loc(sc:aB)(x:Str):Prop:=sc.names.lookup x=some .local\/sc.names.lookup x=some .cell
def Rf(env:Env)(h:au)(m:Str->Option ac)(x:Str)(u:ac):Prop :=
 (env.kindOf x=some .local/\m x=some u)\/((env.kindOf x=some .cell\/env.kindOf x=some .free)/\∃c,env.cells.lookup x=some c/\h.IsCell c (some u))
structure Cx.Ok(X:Cx):Prop where
 mod:Mod X.K X.mg X.base
 kind:X.env.scope.kind = .function
 glob:X.env.globals=aj
 blt:X.env.builtins=bA
 above:X.s₀.heap.objs.size<=X.env.locals
 inj:∀x y c,X.env.cells.lookup x=some c->X.env.cells.lookup y=some c->x=y
 has:∀x,(X.env.kindOf x=some .cell\/X.env.kindOf x=some .free)->∃c,X.env.cells.lookup x=some c
 cab:∀x c,X.fn x=true->X.env.cells.lookup x=some c->X.s₀.heap.objs.size<=c
 hd:X.calm=true->X.A.handled=none
 frames:X.A.frames=some X.stack
 stk:X.stack=X.outer\/(X.stack=X.env::X.outer/\X.env.frame=some X.env.locals)
 exf:∀b∈X.ex,b≠X.env.locals/\∀x c,X.env.cells.lookup x=some c->c≠b
 bs:∀b o,X.base.get? b=some o->X.s₀.heap.get? b=some o/\X.H₀ b=none
 bsz:X.base.objs.size<=X.s₀.heap.objs.size
 noex:∀b o,X.base.get? b=some o->b∉X.ex
 exfs:∀b∈X.ex,b∉X.fs
 funs:X.s₀.heap.FunFrames X.base X.outer
 frf:∀b∈X.fs,X.H₀ b=none
structure Inv(X:Cx)(pins:List (aa×Obj))(σ:List (Option V))(H:Hp)(s:ae):Prop where
 ok:X.Ok
 os:s.os=X.s₀.os
 bare:aW s.gens
 base:Un X.fs X.ex X.H₀ H X.s₀.heap s.heap
 loc:∃m,s.heap.Ns X.env.locals m/\∀(i:Nat) (x:Str) (v:V),X.N[i]? = some x->σ[i]? = some (some v)->Vis X.env.scope x->∃u,AR v u/\Rf X.env s.heap m x u
 cell:∀x c,X.env.cells.lookup x=some c->∃v,s.heap.IsCell c v
 free:H X.env.locals=none
 freeC:∀x c,X.env.cells.lookup x=some c->H c=none
 pin:∀p∈X.pn++pins,s.heap.get? p.1=some p.2/\H p.1=none/\p.1≠X.env.locals/\p.1∉X.fs/\∀v,p.2.data ≠ .cell v
 hok:HOk X.prog X.w H s.heap
 len:σ.length=X.N.length
section
variable {X:Cx}{pins:List (aa×Obj)}{σ:List (Option V)}{H H':Hp}{s:ae}{h':au}
theorem Cx.Ok.nofr(W:X.Ok){b:aa}{o:Obj}(e:X.base.get? b=some o):b∉X.fs:=fun Y=>by
 have:=(W.funs.mem Y).1;rw[e]at this;cases this
theorem Inv.bs(I:Inv X pins σ H s):∀b o,X.base.get? b=some o->s.heap.get? b=some o/\H b=none:=fun b o e =>
 ⟨I.base.keep b o (I.ok.bs b o e).1 (I.ok.bs b o e).2 (I.ok.nofr e) (I.ok.noex b o e),I.base.free b o (I.ok.bs b o e).1 (I.ok.bs b o e).2 (I.ok.noex b o e)⟩
theorem Inv.bk(I:Inv X pins σ H s):∀b o,X.base.get? b=some o->s.heap.get? b=some o:=fun b o e=>(I.bs b o e).1
theorem Inv.mod(I:Inv X pins σ H s):Mod X.K X.mg X.base:=I.ok.mod
theorem Inv.kIn(I:Inv X pins σ H s):X.K.In s.heap:=I.ok.mod.kin.keeps I.bk
theorem Inv.nolimit(I:Inv X pins σ H s):s.heap.NoLimit:=I.ok.mod.nolimit.keeps I.bk
theorem Inv.lt(I:Inv X pins σ H s):X.env.locals<s.heap.objs.size:=let ⟨_,hn,_⟩:=I.loc;hn.lt
theorem Inv.sz(I:Inv X pins σ H s):X.s₀.heap.objs.size<=s.heap.objs.size:=U6 I.ok.above (U7 I.lt)
theorem Inv.nofs(I:Inv X pins σ H s){a:aa}(h:s.heap.objs.size<=a):a∉X.fs:=fun Y=>by
 obtain⟨_,o,W,_⟩:=I.ok.funs.mem Y;exact absurd (TX (Heap.lt_size W) (U6 I.sz h)) (TY _)
theorem Inv.cne(I:Inv X pins σ H s):∀x c,X.env.cells.lookup x=some c->c≠X.env.locals:=fun x c e z=>by
 obtain⟨v,o,O,J⟩:=I.cell x c e;obtain⟨m,⟨o',es,ep,Y,W,_⟩,_⟩:=I.loc;rw[z,Y]at O;cases O;rw[W]at J;cases J
theorem Inv.funs(I:Inv X pins σ H s):s.heap.FunFrames X.base X.outer:=by
 have J:∀(l:List Env),(∀b∈frs l,b∈X.fs)->X.s₀.heap.FunFrames X.base l->s.heap.FunFrames X.base l:=by
  intro l
  induction l with
  | nil=>intro _ _;trivial
  | cons env r ih =>
    intro hs hl;obtain⟨hk,⟨L,o,O,hn,ho,hd⟩,hr⟩:=hl;have Y:L∈X.fs:=hs L (by unfold frs;rw[U8,O];exact U9)
    obtain⟨sl,e⟩:=I.base.slot L o ho (I.ok.frf L Y) Y fun z=>I.ok.exfs L z Y;exact⟨hk,⟨L,_,O,hn,e,hd⟩,ih (fun b W=>hs b (by unfold frs;rw[U8,O];exact Ua _ W)) hr⟩
 exact J X.outer (fun _ W=>W) I.ok.funs
theorem Inv.stack(I:Inv X pins σ H s):s.heap.FunFrames X.base X.stack:=by
 rcases I.ok.stk with e | ⟨e,W⟩
 ·rw[e];exact I.funs
 ·rw[e];obtain⟨m,Y,_⟩:=I.loc;refine .cons (by rw[I.ok.kind];decide) W Y ?_ I.funs
  exact Heap.get?_none_of_le (U6 I.ok.bsz I.ok.above)
theorem Inv.stkSub(I:Inv X pins σ H s):∀b∈frs X.stack,b∈X.env.locals::X.fs:=fun b Y=>by
 rcases I.ok.stk with e | ⟨e,W⟩
 ·rw[e]at Y;exact Ua _ Y
 ·rw[e]at Y;unfold frs at Y;rw[U8,W]at Y;exact Y
theorem Inv.stkFree(I:Inv X pins σ H s):∀b∈frs X.stack,H b=none:=fun b Y=>by
 rcases Ub.mp (I.stkSub b Y) with e | Y
 ·rw[e];exact I.free
 ·obtain⟨_,o,W,_⟩:=I.ok.funs.mem Y;exact I.base.free b o W (I.ok.frf b Y) fun z=>I.ok.exfs b z Y
theorem Inv.step{g':Array GenState}{t':Nat}{d':Drawn}{ch:List aa}(I:Inv X pins σ H s)
 (O:∀b∈ch,(b∈X.ex\/X.s₀.heap.objs.size<=b)/\b≠X.env.locals/\(∀x c,X.env.cells.lookup x=some c->c≠b)/\∀p∈X.pn++pins,p.1≠b)
 (ak:∀b o,b≠X.env.locals->b∉X.fs->b∉ch->s.heap.get? b=some o->H b=none->h'.get? b=some o)
 (ap:∀b o,b≠X.env.locals->b∈X.fs->b∉ch->s.heap.get? b=some o->H b=none->∃sl,h'.get? b=some { o with slots:=sl }) (W:∀b o,b∉ch->s.heap.get? b=some o->H b=none->H' b=none)
 (as:∀b o,b∉ch->s.heap.get? b=some o->∃o',h'.get? b=some o')
 (aP:∀b xs,H b=some (.tup xs)->H' b=some (.tup xs)) (aF:∀b o u,H b=some (.frz o u)->H' b=some (.frz o u)) (a0:∀b ps,H b=some (.tbl ps)->∃more,H' b=some (.tbl (ps++more)))
 (ns:∀m,s.heap.Ns X.env.locals m->h'.Ns X.env.locals m) (bb:HOk X.prog X.w H' h') (hg:aW g') :
 Inv X pins σ H' { s with heap:=h',gens:=g',drawn:=d',toks:=t' }:=by
 have aC:∀b o,X.s₀.heap.get? b=some o->b≠X.env.locals:=fun b o e=>TZ (TX (Heap.lt_size e) I.ok.above)
 have an:∀b o,X.s₀.heap.get? b=some o->b∉X.ex->b∉ch:=fun b o e Y hb=>by
  rcases(O b hb).1 with z | z
  ·exact Y z
  ·exact absurd (TX (Heap.lt_size e) z) (TY _)
 have al:∀x c,X.env.cells.lookup x=some c->∀v,s.heap.IsCell c v->h'.IsCell c v:=fun x c e v ⟨o,ho,hd⟩=>by
  have J:c∉ch:=fun z=>(O c z).2.2.1 x c e rfl;by_cases hc:c∈X.fs
  ·obtain⟨sl,q⟩:=ap c o (I.cne x c e) hc J ho (I.freeC x c e);exact⟨_,q,hd⟩
  ·exact⟨o,ak c o (I.cne x c e) hc J ho (I.freeC x c e),hd⟩
 refine⟨I.ok,I.os,hg,⟨fun b o e n hb Y=>?_,fun b o e n hb Y=>?_,fun b o e n Y=>?_,fun b o e Y=>?_,fun b xs e=>aP b xs (I.base.tups b xs e),fun b o xs e=>aF b o xs (I.base.frzs b o xs e),fun b ps e=>?_⟩,?_,fun x c e=>?_,?_,fun x c e=>?_,fun p hp=>?_,bb,I.len⟩
 ·exact ak b o (aC b o e) hb (an b o e Y) (I.base.keep b o e n hb Y) (I.base.free b o e n Y)
 ·obtain⟨sl,e1⟩:=I.base.slot b o e n hb Y;obtain⟨ba,e2⟩:=ap b _ (aC b o e) hb (an b o e Y) e1 (I.base.free b o e n Y);exact⟨ba,e2⟩
 ·obtain⟨o',e1⟩:=I.base.there b o e Y;exact W b o' (an b o e Y) e1 (I.base.free b o e n Y)
 ·obtain⟨o',e1⟩:=I.base.there b o e Y;exact as b o' (an b o e Y) e1
 ·obtain⟨m1,e1⟩:=I.base.tbls b ps e;obtain⟨m2,e2⟩:=a0 b _ e1;exact⟨m1++m2,by rw[e2,Array.append_assoc]⟩
 ·obtain⟨m,hn,hl⟩:=I.loc;refine⟨m,ns m hn,fun i x v e1 e2 e3=>?_⟩;obtain⟨u,r,l⟩:=hl i x v e1 e2 e3;refine⟨u,r,?_⟩
  rcases l with l | ⟨k,c,e,z⟩
  ·exact .inl l
  ·exact .inr ⟨k,c,e,al x c e _ z⟩
 ·obtain⟨v,z⟩:=I.cell x c e;exact⟨v,al x c e v z⟩
 ·obtain⟨m,⟨o,_,_,ho,_⟩,_⟩:=I.loc;exact W _ o (fun z=>(O _ z).2.1 rfl) ho I.free
 ·obtain⟨v,o,ho,hd⟩:=I.cell x c e;exact W c o (fun z=>(O c z).2.2.1 x c e rfl) ho (I.freeC x c e)
 ·obtain⟨e,n,ne,nf,d⟩:=I.pin p hp;have J:p.1∉ch:=fun z=>(O p.1 z).2.2.2 p hp rfl;exact⟨ak p.1 p.2 ne nf J e n,W p.1 p.2 J e n,ne,nf,d⟩
theorem Inv.un{t':Nat}(I:Inv X pins σ H s)(u:Un X.fs [] H H' s.heap h')(O:HOk X.prog X.w H' h'):Inv X pins σ H' { s with heap:=h',toks:=t' }:=by
 obtain⟨m,⟨o,es,ep,J,r⟩,_⟩:=id I.loc;obtain⟨sl,hL⟩:=u.any J I.free (by simp)
 exact I.step (g':=s.gens) (d':=s.drawn) (ch:=[]) (fun _ z=>nomatch z) (fun b o _ W _ e n=>u.keep b o e n W (by simp)) (fun b o _ W _ e n=>u.slot b o e n W (by simp)) (fun b o _ e n=>u.free b o e n (by simp)) (fun b o _ e=>u.there b o e (by simp)) u.tups u.frzs u.tbls (fun m' hm=>by
  obtain⟨o',es',ep',Y,r'⟩:=hm;rw[J]at Y;cases Y;exact⟨_,es',ep',hL,r'⟩) O I.bare
theorem Inv.call{g':Array GenState}{t':Nat}{d':Drawn}{ch:List aa}(I:Inv X pins σ H s)(u:Un (frs X.stack) ch H H' s.heap h')(ak:HOk X.prog X.w H' h')(hg:aW g')
 (W:∀b∈ch,(b∈X.ex\/X.s₀.heap.objs.size<=b)/\b≠X.env.locals/\(∀x c,X.env.cells.lookup x=some c->c≠b)/\∀p∈X.pn++pins,p.1≠b) :
 Inv X pins σ H' { s with heap:=h',gens:=g',drawn:=d',toks:=t' }:=by
 obtain⟨m,⟨o,es,ep,ho,r⟩,_⟩:=id I.loc;obtain⟨sl,J⟩:=u.any ho I.free fun z=>(W _ z).2.1 rfl
 exact I.step (ch:=ch) W (fun b o J hb Y e n=>u.keep b o e n (fun z=>(Ub.mp (I.stkSub b z)).elim J hb) Y) (fun b o _ _ Y e n=>u.any e n Y) (fun b o Y e n=>u.free b o e n Y) (fun b o Y e=>u.there b o e Y) u.tups u.frzs u.tbls (fun m' hm=>by
  obtain⟨o',es',ep',O,r'⟩:=hm;rw[ho]at O;cases O;exact⟨_,es',ep',J,r'⟩) ak hg
theorem Inv.turned{t':Nat}{it:aa}(I:Inv X pins σ H s)(k:∀b o,b≠it->s.heap.get? b=some o->h'.get? b=some o)(hn:H it=none)(O:it≠X.env.locals)
 (h1:it∈X.ex\/X.s₀.heap.objs.size<=it) (h2:∀x c,X.env.cells.lookup x=some c->c≠it) (J:∀p∈X.pn++pins,p.1≠it):Inv X pins σ H { s with heap:=h',toks:=t' }:=by
 have W:∀b u,H b=some u->b≠it:=fun b u e z=>by rw[z,hn]at e;cases e
 refine I.step (g':=s.gens) (d':=s.drawn) (ch:=[it]) (fun b hb=>?_) (fun b o _ _ Y e _=>k b o (fun z=>Y (by simp[z])) e) (fun b o _ _ Y e _=>⟨o.slots,k b o (fun z=>Y (by simp[z])) e⟩) (fun _ _ _ _ n=>n)
  (fun b o Y e=>⟨o,k b o (fun z=>Y (by simp[z])) e⟩) (fun _ _ e=>e) (fun _ _ _ e=>e) (fun b ps e=>⟨#[],by rw[e];simp⟩) (fun m hm=>?_) (fun b u e=>?_) I.bare
 ·have e:b=it:=by simpa using hb
  subst e;exact⟨h1,O,h2,J⟩
 ·obtain⟨o,es,ep,ho,r⟩:=hm;exact⟨o,es,ep,k _ o (Ne.symm O) ho,r⟩
 ·refine(I.hok b u e).stay (fun c v Y q=>k c v ?_ q) (fun _ q=>q) fun _ _ q=>q
  rcases Y with z | z
  ·rw[z];exact W b u e
  ·exact W c _ z
theorem Inv.tok(I:Inv X pins σ H s)(t:Nat):Inv X pins σ H { s with toks:=t }:=I.un (h':=s.heap) (t':=t) Un.refl I.hok
theorem Inv.kept{t':Nat}(I:Inv X pins σ H s)(k:∀b u,s.heap.get? b=some u->h'.get? b=some u):Inv X pins σ H { s with heap:=h',toks:=t' }:=I.un (Un.kept k) (I.hok.kept k)
theorem Inv.laid{a:aa}{o:HO}{t':Nat}(I:Inv X pins σ H s)(k:∀b u,s.heap.get? b=some u->h'.get? b=some u)(Y:s.heap.objs.size<=a)(W:BW X.prog X.w (upd H a o) h' a o) :
 Inv X pins σ (upd H a o) { s with heap:=h',toks:=t' }:=I.un (Un.laid k Y (I.hok.fresh Y)) (I.hok.laid k Y W)
theorem Inv.write{x e:aa}{o:HO}{t':Nat}(I:Inv X pins σ H s)(mu:Mut (H x))(O:e=x\/H e=some (.own x))(k:∀b u,b≠e->s.heap.get? b=some u->h'.get? b=some u)(Y:∃u,h'.get? e=some u)
 (W:BW X.prog X.w (upd H x o) h' x o):Inv X pins σ (upd H x o) { s with heap:=h',toks:=t' }:=I.un (Un.write mu O k Y) (I.hok.write mu O k Y W)
theorem Inv.weak{Y:List (Option V)}(I:Inv X pins σ H s)(W:Y.length=σ.length)(w:∀(i:Nat) v,Y[i]? = some (some v)->σ[i]? = some (some v)):Inv X pins Y H s :=
 ⟨I.ok,I.os,I.bare,I.base,let ⟨m,hn,hl'⟩:=I.loc;⟨m,hn,fun i x v e1 O J=>hl' i x v e1 (w i v O) J⟩,I.cell,I.free,I.freeC,I.pin,I.hok,W.trans I.len⟩
theorem Inv.pins_of{pins':List (aa×Obj)}(I:Inv X pins σ H s)(h:∀p∈pins',s.heap.get? p.1=some p.2/\H p.1=none/\p.1≠X.env.locals/\p.1∉X.fs/\∀v,p.2.data ≠ .cell v):Inv X pins' σ H s :=
 ⟨I.ok,I.os,I.bare,I.base,I.loc,I.cell,I.free,I.freeC,fun p Y=>(Uc.mp Y).elim (fun z=>I.pin p (Ud _ z)) (h p),I.hok,I.len⟩
theorem Ha{N:List Str}(W:N.Nodup){i j:Nat}{x:Str}(a:N[i]? = some x)(b:N[j]? = some x):i=j:=by
 obtain⟨h1,e1⟩:=Ue.mp a;obtain⟨h2,Y⟩:=Ue.mp b;exact(List.getElem_inj W).mp (e1.trans Y.symm)
theorem HK{M:Model}{A:aw}{E:ac->ae->Prop}{i:Nat}{x:Str}{v:V}{u:ac}{Q:Unit->ae->Prop}(I:Inv X pins σ H s)(hN:X.N.Nodup)(hi:X.N[i]? = some x)(O:Loc X.env.scope x)(r:AR v u)
 (h:∀s',Inv X pins (σ.set i (some v)) H s'->(∃a,Heap.SameBut a s.heap s'.heap/\(a=X.env.locals\/X.env.cells.lookup x=some a))->Q () s') (hf:X.fn x=true\/X.env.scope.names.lookup x=some .local:=by first | exact .inl rfl | exact .inr rfl | assumption):am M A (storeName X.env x u) Q E s:=by
 obtain⟨m,hn,hl⟩:=id I.loc;have aF:(X.env.scope.kind == .class||(X.env.scope.kind == .module&&X.env.locals != X.env.globals))=false:=by rw[I.ok.kind];rfl
 have ak:i<σ.length:=by rw[I.len];exact(Ue.mp hi).1
 have an:=I.cne
 have Y:∀{a:aa} {h':au},(∃o,s.heap.get? a=some o/\H a=none)->Heap.SameBut a s.heap h'->HOk X.prog X.w H h':=fun{a h'} ha hs b ob e=>by
  obtain⟨_,_,J⟩:=ha;refine(I.hok b ob e).stay (fun c w' W q=>(hs.2 c ?_).trans q) (fun _ q=>q) fun _ _ q=>q;rintro rfl
  rcases W with rfl | W
  ·rw[J]at e;cases e
  ·rw[J]at W;cases W
 rcases O with hk | hk
 ·refine wpAny_storeName_local hk hn (fun h' aP hs=>?_) aF;obtain⟨oL,_,_,a0,_⟩:=id hn;refine h _ ⟨I.ok,I.os,I.bare,⟨fun b o e n hb O=>?_,fun b o e n hb O=>?_,I.base.free,fun b o e O=>?_,I.base.tups,I.base.frzs,I.base.tbls⟩,⟨_,aP,fun j y v' e1 e2 e3=>?_⟩,fun y c e=>?_,I.free,I.freeC,fun p hp=>?_,Y ⟨oL,a0,I.free⟩ hs,by simpa using I.len⟩ ⟨_,hs,.inl rfl⟩
  ·exact(hs.2 b (TZ (TX (Heap.lt_size e) I.ok.above))).trans (I.base.keep b o e n hb O)
  ·obtain⟨sl,e1⟩:=I.base.slot b o e n hb O;exact⟨sl,(hs.2 b (TZ (TX (Heap.lt_size e) I.ok.above))).trans e1⟩
  ·obtain⟨o',e1⟩:=I.base.there b o e O;exact⟨o',(hs.2 b (TZ (TX (Heap.lt_size e) I.ok.above))).trans e1⟩
  ·by_cases hj:j=i
   ·subst hj;rw[hi]at e1;cases e1;rw[Ug ak]at e2;cases e2;exact⟨u,r,.inl ⟨hk,by simp⟩⟩
   ·rw[Uh (Ne.symm hj)]at e2;obtain⟨u',r',q⟩:=hl j y v' e1 e2 e3;refine⟨u',r',?_⟩
    rcases q with ⟨k,e⟩ | ⟨k,c,e,z⟩
    ·refine .inl ⟨k,?_⟩;have:y≠x:=fun e=>hj (Ha hN e1 (e ▸ hi));simp[this,e]
    ·exact .inr ⟨k,c,e,z.sameBut hs (an y c e)⟩
  ·obtain⟨w',z⟩:=I.cell y c e;exact⟨w',z.sameBut hs (an y c e)⟩
  ·obtain⟨e,n,ne,nf,d⟩:=I.pin p hp;exact⟨(hs.2 p.1 ne).trans e,n,ne,nf,d⟩
 ·have al:X.fn x=true:=by
   rcases hf with z | z
   ·exact z
   ·rw[z]at hk;cases hk
  obtain⟨c,W⟩:=I.ok.has x (.inl hk);obtain⟨w',z⟩:=I.cell x c W;refine wpAny_storeName_cell I.ok.kind hk W z (fun h' ap hs=>?_);obtain⟨oc,aC,as⟩:=id z;refine h { s with heap:=h' } ⟨I.ok,I.os,I.bare,⟨fun b o e n hb O=>?_,fun b o e n hb O=>?_,I.base.free,fun b o e O=>?_,I.base.tups,I.base.frzs,I.base.tbls⟩,⟨m,hn.sameBut hs (Ne.symm (an x c W)),fun j y v' e1 e2 e3=>?_⟩,fun y c' e=>?_,I.free,I.freeC,fun p hp=>?_,Y ⟨oc,aC,I.freeC x c W⟩ hs,by simpa using I.len⟩ ⟨c,hs,.inr W⟩
  ·exact(hs.2 b (TZ (TX (Heap.lt_size e) (I.ok.cab x c al W)))).trans (I.base.keep b o e n hb O)
  ·obtain⟨sl,e1⟩:=I.base.slot b o e n hb O;exact⟨sl,(hs.2 b (TZ (TX (Heap.lt_size e) (I.ok.cab x c al W)))).trans e1⟩
  ·obtain⟨o',e1⟩:=I.base.there b o e O;exact⟨o',(hs.2 b (TZ (TX (Heap.lt_size e) (I.ok.cab x c al W)))).trans e1⟩
  ·by_cases hj:j=i
   ·subst hj;rw[hi]at e1;cases e1;rw[Ug ak]at e2;cases e2;exact⟨u,r,.inr ⟨.inl hk,c,W,ap⟩⟩
   ·rw[Uh (Ne.symm hj)]at e2;obtain⟨u',r',q⟩:=hl j y v' e1 e2 e3;refine⟨u',r',?_⟩
    rcases q with q | ⟨k,c',e,z'⟩
    ·exact .inl q
    ·refine .inr ⟨k,c',e,z'.sameBut hs ?_⟩;rintro rfl;exact hj (Ha hN e1 (I.ok.inj _ _ _ e W ▸ hi))
  ·by_cases hcc:c'=c
   ·subst hcc;exact⟨_,ap⟩
   ·obtain⟨w2,z2⟩:=I.cell y c' e;exact⟨w2,z2.sameBut hs hcc⟩
  ·obtain⟨e,n,ne,nf,d⟩:=I.pin p hp;refine⟨(hs.2 p.1 ?_).trans e,n,ne,nf,d⟩;intro q;rw[q,aC]at e;have q':oc=p.2:=TU.inj e;exact d w' (by rw[<- q'];exact as)
theorem DV{M:Model}{A:aw}{E:ac->ae->Prop}{i:Nat}{x:Str}{v:V}{u:ac}{Q:Unit->ae->Prop}(I:Inv X pins σ H s)(W:X.N.Nodup)(hi:X.N[i]? = some x)(Y:Loc X.env.scope x)(r:AR v u)
 (h:∀s',Inv X pins (σ.set i (some v)) H s'->Q () s') (O:X.fn x=true\/X.env.scope.names.lookup x=some .local:=by first | exact .inl rfl | exact .inr rfl | assumption):am M A (storeName X.env x u) Q E s :=
 HK I W hi Y r (fun s' J _=>h s' J) O
theorem Inv.call'{s':ae}{ch:List aa}(I:Inv X pins σ H s)(O:s'.os=s.os)(u:Un (frs X.stack) ch H H' s.heap s'.heap)(W:HOk X.prog X.w H' s'.heap)(J:aW s'.gens)
 (Y:∀b∈ch,(b∈X.ex\/X.s₀.heap.objs.size<=b)/\b≠X.env.locals/\(∀x c,X.env.cells.lookup x=some c->c≠b)/\∀p∈X.pn++pins,p.1≠b):Inv X pins σ H' s':=by
 obtain⟨h',g',d',t',o'⟩:=s';have e:o'=s.os:=O;subst e;exact I.call (g':=g') (t':=t') (d':=d') u W J Y
end
abbrev XK:=ac->Option aa->Hp->Prop
abbrev St:=List (Option V)
abbrev VK:=V->Hp->Prop
abbrev TE:=St->Hp->VK->Prop
abbrev TT:=St->Hp->(Bool->Hp->Prop)->Prop
abbrev TA:=St->Hp->(List V->Hp->Prop)->Prop
structure DA where
 nx:St->Hp->Prop
 rt:VK
 bk:St->Hp->Prop:=fun _ _=>False
 ct:St->Hp->Prop:=fun _ _=>False
abbrev TS:=DA->St->Hp->Prop
inductive EP(X:Cx)(pins:List (aa×Obj))(σ:St)(Q:VK)(u:ac)(s':ae):Prop
 | mk (v:_) (H':_) (h1:Inv X pins σ H' s') (h2:AR v u) (h3:Q v H'):EP X pins σ Q u s'
def TP(X:Cx)(pins:List (aa×Obj))(σ:St)(Q:Bool->Hp->Prop)(b:Bool)(s':ae):Prop:=∃H',Inv X pins σ H' s'/\Q b H'
inductive AP(X:Cx)(pins:List (aa×Obj))(σ:St)(Q:List V->Hp->Prop)(us:List ac)(s':ae):Prop
 | mk (vs:_) (H':_) (h1:Inv X pins σ H' s') (h2:AI vs us) (h3:Q vs H'):AP X pins σ Q us s'
def SP(X:Cx)(pins:List (aa×Obj))(D:DA)(f:Flow)(s':ae):Prop :=
 match f with
 | .next=>∃σ' H',Inv X pins σ' H' s'/\D.nx σ' H'
 | .brk=>∃σ' H',Inv X pins σ' H' s'/\D.bk σ' H'
 | .cont=>∃σ' H',Inv X pins σ' H' s'/\D.ct σ' H'
 | .ret u=>∃v σ' H',Inv X pins σ' H' s'/\AR v u/\D.rt v H'
def PE(X:Cx)(e:Expr)(t:TE):Prop :=
 ∀(pins:List (aa×Obj)) (s:ae) (σ:St) (H:Hp) (Q:VK),Inv X pins σ H s->t σ H Q->am (ao X.prog X.w) X.A (aD e X.env) (EP X pins σ Q) X.xe s
def PT(X:Cx)(e:Expr)(t:TT):Prop :=
 ∀(pins:List (aa×Obj)) (s:ae) (σ:St) (H:Hp) (Q:Bool->Hp->Prop),Inv X pins σ H s->t σ H Q->am (ao X.prog X.w) X.A (isTrue e X.env (aD e X.env)) (TP X pins σ Q) X.xe s
def PW(X:Cx)(e:Expr)(t:TT):Prop :=
 ∀(whole:Sem ac) (pins:List (aa×Obj)) (s:ae) (σ:St) (H:Hp) (Q:Bool->Hp->Prop),Inv X pins σ H s->t σ H Q->am (ao X.prog X.w) X.A (isTrue e X.env whole) (TP X pins σ Q) X.xe s
theorem PW.pt{X:Cx}{e:Expr}{t:TT}(h:PW X e t):PT X e t:=h _
def PA(X:Cx)(es:List Expr)(t:TA):Prop :=
 ∀(pos:Pos) (pins:List (aa×Obj)) (s:ae) (σ:St) (H:Hp) (Q:List V->Hp->Prop),Inv X pins σ H s->t σ H Q->am (ao X.prog X.w) X.A (spliced (aN pos (aq es X.env))) (AP X pins σ Q) X.xe s
def PS(X:Cx)(st:aS)(t:TS):Prop :=
 ∀(pins:List (aa×Obj)) (s:ae) (σ:St) (H:Hp) (D:DA),Inv X pins σ H s->t D σ H->am (ao X.prog X.w) X.A (exec st X.env) (SP X pins D) X.xe s
def PSs(X:Cx)(st:List aS)(t:TS):Prop :=
 ∀(pins:List (aa×Obj)) (s:ae) (σ:St) (H:Hp) (D:DA),Inv X pins σ H s->t D σ H->am (ao X.prog X.w) X.A (execs st X.env) (SP X pins D) X.xe s
theorem thn{Y:Type}{t:Sem Y}{Q W:Y->ae->Prop}{M:Model}{A:aw}{E:ac->ae->Prop}{s:ae}(h:am M A t Q E s)(O:∀a s,Q a s->W a s):am M A t W E s:=az h O fun _ _ x=>x
section
variable {X:Cx}
inductive LU(i:Nat)(σ:St)(H:Hp)(Q:VK):Prop
 | mk (v:_) (h1:σ[i]? = some (some v)) (h2:Q v H):LU i σ H Q
def tC(v:V):TE:=fun _ H Q=>Q v H
theorem Po{i:Nat}{x:Str}{pos:Pos}(hN:X.N[i]? = some x)(hv:Vis X.env.scope x)(hd:(x == ("__debug__" : Str))=false:=by decide)(J:(x == ("__classdict__" : Str))=false:=by decide):PE X (.Name x pos) (LU i):=by
 intro pins s σ H Q I h;obtain⟨v,e,h⟩:=h;obtain⟨m,hn,hl⟩:=I.loc;obtain⟨u,r,l⟩:=hl i x v hN e hv;have W:EP X pins σ Q u s:=⟨v,H,I,r,h⟩
 rcases l with ⟨O,hm⟩ | ⟨O,c,hc,Y⟩
 ·exact wpAny_Name (wpAny_loadName_local I.ok.kind O hn hm W) hd
 ·rcases O with O | O
  ·exact wpAny_Name (wpAny_loadName_cell I.ok.kind O hc Y W) hd
  ·exact wpAny_Name (wpAny_loadName_free I.ok.kind O hc Y W J) hd
theorem Ac{i j pos}:PE X (.Constant (.int i) j pos) (tC (.int i)):=fun _ _ _ H _ I h=>wpAny_Constant_int ⟨.int i,H,I.tok _,⟨_,Z⟩,h⟩
theorem GR{b j pos}:PE X (.Constant (.bool b) j pos) (tC (.bl b)):=fun _ _ _ H _ I h=>Constant_bool ⟨.bl b,H,I,Z,h⟩
theorem MS{j pos}:PE X (.Constant .none j pos) (tC .non):=fun _ _ _ H _ I h=>Constant_none ⟨.non,H,I,Z,h⟩
theorem AO{x j pos}:PE X (.Constant (.str x) j pos) (tC (.str x)):=fun _ _ _ H _ I h=>Calls.Constant_str ⟨.str x,H,I.tok _,⟨_,Z⟩,h⟩
def Gl(X:Cx)(x:Str):Prop:=X.env.kindOf x=some .globalImplicit
theorem Fl{E:ac->ae->Prop}{pins:List (aa×Obj)}{s:ae}{σ:St}{H:Hp}{x:Str}{u:ac}{pos:Pos}{Q:ac->ae->Prop}(I:Inv X pins σ H s)(O:Gl X x)(W:X.mg x=some u)(h:Q u s)
 (Y:(x == ("__debug__" : Str))=false:=by decide):am (ao X.prog X.w) X.A (aD (.Name x pos) X.env) Q E s :=
 Calls.Name_function_global I.ok.kind O (Calls.loadGlobal_global (by rw[I.ok.glob];exact I.mod.glob.keeps I.bk) W h) Y
theorem Df{E:ac->ae->Prop}{pins:List (aa×Obj)}{s:ae}{σ:St}{H:Hp}{x:Str}{u:ac}{pos:Pos}{Q:ac->ae->Prop}(I:Inv X pins σ H s)(J:Gl X x)(Y:X.mg x=none)(W:ay x=some u)(h:Q u s)
 (O:x ≠ "__name__":=by decide) (hd:(x == ("__debug__" : Str))=false:=by decide):am (ao X.prog X.w) X.A (aD (.Name x pos) X.env) Q E s:=by
 obtain⟨mb,h1,h2⟩:=I.mod.blt;exact Calls.Name_function_global I.ok.kind J (Calls.loadGlobal_builtin (by rw[I.ok.glob];exact I.mod.glob.keeps I.bk) Y (by rw[I.ok.blt];exact h1.keeps I.bk) ((h2 x O).trans W) h) hd
theorem AZ{x:Str}{v:V}{u:ac}{pos:Pos}(O:Gl X x)(W:X.mg x=some u)(r:AR v u)(Y:(x == ("__debug__" : Str))=false:=by decide):PE X (.Name x pos) (tC v) :=
 fun _ _ _ H _ I h=>Fl I O W ⟨v,H,I,r,h⟩ Y
theorem Og{x:Str}{v:V}{u:ac}{pos:Pos}(J:Gl X x)(Y:X.mg x=none)(W:ay x=some u)(r:AR v u)(O:x ≠ "__name__":=by decide)(hd:(x == ("__debug__" : Str))=false:=by decide):PE X (.Name x pos) (tC v) :=
 fun _ _ _ H _ I h=>Df I J Y W ⟨v,H,I,r,h⟩ O hd
variable {a b:Expr}{ta tb:TE}{pos:Pos}
def tB(t:TE):TT:=fun σ H Q=>t σ H fun x H1=>∃c,x = .bl c/\Q c H1
theorem GK{e:Expr}{t:TE}(h:PE X e t)(W:∀Y,isTrue e X.env Y=(do let v <- Y;standAt e.pos;holding [v] (truthy v)):=by intro _;rfl):PT X e (tB t):=by
 intro pins s σ H Q I hw;refine isTrue_plain (thn (h pins s σ H _ I hw) fun v s1 ⟨x,H1,O,r1,J⟩=>?_) (W _);obtain⟨d,rfl,q⟩:=J;cases r1;exact bI ⟨H1,O,q⟩
variable {tA tB':TT}{BD:List Expr}
def Rq(t u:TT):TT:=fun σ H Q=>t σ H fun c H1=>if c=true then u σ H1 Q else Q false H1
def tOr(t u:TT):TT:=fun σ H Q=>t σ H fun c H1=>if c=true then Q true H1 else u σ H1 Q
def Ro(t:TT):TT:=fun σ H Q=>t σ H fun c H1=>Q (!c) H1
theorem ID(Y:PT X a tA):PW X (.BoolOp .And [a] pos) tA:=by
 intro O pins s σ H Q I h;refine isTrue_and (thn (Y pins s σ H Q I h) fun c W e=>?_);cases c with
 | true=>exact isTrue_and_nil e
 | false=>exact e
theorem EG(Y:PT X a tA):PW X (.BoolOp .Or [a] pos) tA:=by
 intro O pins s σ H Q I h;refine isTrue_or (thn (Y pins s σ H Q I h) fun c W e=>?_);cases c with
 | false=>exact isTrue_or_nil e
 | true=>exact e
theorem Kg(O:PT X a tA)(hb:PW X (.BoolOp .And (b::BD) pos) tB'):PW X (.BoolOp .And (a::b::BD) pos) (Rq tA tB'):=by
 intro wh pins s σ H Q I h;refine isTrue_and (thn (O pins s σ H _ I h) fun c J ⟨H1,Y,W⟩=>?_);cases c with
 | true=>exact hb wh pins J σ H1 Q Y W
 | false=>exact⟨H1,Y,W⟩
theorem GJ(O:PT X a tA)(hb:PW X (.BoolOp .Or (b::BD) pos) tB'):PW X (.BoolOp .Or (a::b::BD) pos) (tOr tA tB'):=by
 intro wh pins s σ H Q I h;refine isTrue_or (thn (O pins s σ H _ I h) fun c J ⟨H1,Y,W⟩=>?_);cases c with
 | true=>exact⟨H1,Y,W⟩
 | false=>exact hb wh pins J σ H1 Q Y W
theorem IE(Y:PT X a tA):PT X (.UnaryOp .Not a pos) (Ro tA):=by
 intro pins s σ H Q I h;exact isTrue_not (Y pins s σ H (fun c H1=>Q (!c) H1) I h)
def Qz(ta tb:TE):TE:=fun σ H Q=>ta σ H fun x H1=>∃c,x = .bl c/\if c=true then tb σ H1 Q else Q (.bl false) H1
theorem Pp{op}{t:TE}(h:PE X a t):PE X (.BoolOp op [a] pos) t:=fun pins s σ H Q I hw=>BoolOp_one (h pins s σ H Q I hw)
theorem Pr(O:PE X a ta)(hb:PE X (.BoolOp .And (b::BD) pos) tb):PE X (.BoolOp .And (a::b::BD) pos) (Qz ta tb):=by
 intro pins s σ H Q I h;refine BoolOp_and (thn (O pins s σ H _ I h) fun v J ⟨x,H1,W,r1,Y⟩=>?_);obtain⟨c,rfl,Y⟩:=Y;cases r1;refine bI ?_;cases c with
 | true=>exact hb pins J σ H1 Q W Y
 | false=>exact⟨.bl false,H1,W,Z,Y⟩
def tIf(t:TT)(ta tb:TE):TE:=fun σ H Q=>t σ H fun c H1=>if c=true then ta σ H1 Q else tb σ H1 Q
theorem GQ{c:Expr}(hc:PT X c tA)(J:PE X a ta)(hb:PE X b tb):PE X (.IfExp c a b pos) (tIf tA ta tb):=by
 intro pins s σ H Q I h;refine wpAny_IfExp (thn (hc pins s σ H _ I h) fun d O ⟨H1,Y,W⟩=>?_);cases d with
 | true=>exact J pins O σ H1 Q Y W
 | false=>exact hb pins O σ H1 Q Y W
end
def SqL(K:U5)(H:Hp)(a:aa)(xs:List V):Prop :=
 Rd H a (.lst xs) \/
  ∃(o:Obj) (its:Array ac) (n:Nat),K.lookup a=some o/\o.cls = .type "list" /\ o.dict=none/\o.data = .seq its n/\its.size<=af/\AI xs its.toList
def SqT(K:U5)(H:Hp)(a:aa)(xs:List V):Prop :=
 Rd H a (.tup xs) \/
  ∃(o:Obj) (its:Array ac) (n:Nat),K.lookup a=some o/\o.cls = .type "tuple" /\ o.data = .seq its n/\its.size<=af/\AI xs its.toList
def Mo:ac->Option V
 | .none=>some .non
 | .bool b=>some (.bl b)
 | .int i _=>some (.int i)
 | .str x _=>some (.str x)
 | .bytes b _=>some (.byt b)
 | .float b _=>some (.flt b)
 | .ref a=>some (.ref a)
 | .type n=>some (.ty n)
 | _=>none
theorem AR.abs{x:V}{u:ac}(r:AR x u):Mo u=some x:=by
 cases x with
 | non=>cases r;rfl
 | bl _=>cases r;rfl
 | int _=>obtain⟨t,rfl⟩:=r;rfl
 | str _=>obtain⟨t,rfl⟩:=r;rfl
 | byt _=>obtain⟨t,rfl⟩:=r;rfl
 | flt _=>obtain⟨t,rfl⟩:=r;rfl
 | ref _=>cases r;rfl
 | ty _=>cases r;rfl
theorem AR.inj{x y:V}{u:ac}(r:AR x u)(q:AR y u):x=y:=TU.inj (r.abs.symm.trans q.abs)
theorem AI.inj{xs ys:List V}{us:List ac}(a:AI xs us)(b:AI ys us):xs=ys:=by
 induction a generalizing ys with
 | nil=>cases b;rfl
 | cons r t ih=>cases b with | cons r' t'=>rw[r.inj r',ih t']
section
variable {X:Cx}{pins:List (aa×Obj)}{σ:St}{H:Hp}{s:ae}{a:aa}{xs ys:List V}
theorem SqL.of{K:U5}(h:H a=some (.lst xs)):SqL K H a xs:=.inl (.inl h)
theorem SqT.of{K:U5}(h:H a=some (.tup xs)):SqT K H a xs:=.inl (.inl h)
theorem Inv.list(I:Inv X pins σ H s)(h:SqL X.K H a xs):∃Y:List ac,AI xs Y/\PlainL s.heap a Y.toArray/\xs.length<=af:=by
 rcases h with h | ⟨o,Y,n,W,O,J,hs,hz,r⟩
 ·obtain⟨z,Y,n,r,e⟩:=h.ok I.hok;exact⟨Y,r,⟨_,n,e,Z,Z,Z⟩,z⟩
 ·refine⟨Y.toList,r,⟨o,n,I.kIn a o W,O,J,by simpa using hs⟩,?_⟩
  have e:=r.length;simp only[Ui]at e
  lia
theorem Inv.tuple(I:Inv X pins σ H s)(h:SqT X.K H a xs):∃Y:List ac,AI xs Y/\IsTup s.heap a Y.toArray/\xs.length<=af:=by
 rcases h with h | ⟨o,Y,n,W,O,hs,hz,r⟩
 ·obtain⟨z,Y,r,p⟩:=h.ok I.hok;exact⟨Y,r,p,z⟩
 ·refine⟨Y.toList,r,⟨o,I.kIn a o W,O,n,by simpa using hs⟩,?_⟩
  have e:=r.length;simp only[Ui]at e
  lia
theorem Inv.list_inj(I:Inv X pins σ H s)(h:SqL X.K H a xs)(h':SqL X.K H a ys):xs=ys:=by
 obtain⟨Y,r,⟨o,n,e,_,_,d⟩,_⟩:=I.list h;obtain⟨its',O,⟨o',J,W,_,_,d'⟩,_⟩:=I.list h';rw[e]at W;cases W;rw[d]at d'
 injection d' with d1 _
 have:Y=its':=by simpa using congrArg Array.toList d1
 subst this;exact r.inj O
theorem Inv.tuple_inj(I:Inv X pins σ H s)(h:SqT X.K H a xs)(h':SqT X.K H a ys):xs=ys:=by
 obtain⟨Y,r,⟨o,e,_,n,d⟩,_⟩:=I.tuple h;obtain⟨its',O,⟨o',W,_,J,d'⟩,_⟩:=I.tuple h';rw[e]at W;cases W;rw[d]at d'
 injection d' with d1 _
 have:Y=its':=by simpa using congrArg Array.toList d1
 subst this;exact r.inj O
end
abbrev Cx.wish(X:Cx)(E:ac->ae->Prop):Cx:={ X with xe:=E }
abbrev Cx.nox(X:Cx):Cx:=X.wish fun _ _=>False
theorem Cx.Ok.wish{X:Cx}(Y:X.Ok)(E:ac->ae->Prop):(X.wish E).Ok :=
 ⟨Y.mod,Y.kind,Y.glob,Y.blt,Y.above,Y.inj,Y.has,Y.cab,Y.hd,Y.frames,Y.stk,Y.exf,Y.bs,Y.bsz,Y.noex,Y.exfs,Y.funs,Y.frf⟩
theorem Cx.Ok.unwish{X:Cx}{E:ac->ae->Prop}(Y:(X.wish E).Ok):X.Ok :=
 ⟨Y.mod,Y.kind,Y.glob,Y.blt,Y.above,Y.inj,Y.has,Y.cab,Y.hd,Y.frames,Y.stk,Y.exf,Y.bs,Y.bsz,Y.noex,Y.exfs,Y.funs,Y.frf⟩
section
variable {X:Cx}{pins:List (aa×Obj)}{σ:St}{H:Hp}{s:ae}{E:ac->ae->Prop}
theorem Inv.wish(I:Inv X pins σ H s)(E:ac->ae->Prop):Inv (X.wish E) pins σ H s:=⟨I.ok.wish E,I.os,I.bare,I.base,I.loc,I.cell,I.free,I.freeC,I.pin,I.hok,I.len⟩
theorem Inv.unwish(I:Inv (X.wish E) pins σ H s):Inv X pins σ H s:=⟨I.ok.unwish,I.os,I.bare,I.base,I.loc,I.cell,I.free,I.freeC,I.pin,I.hok,I.len⟩
theorem SP.unwish{D:DA}{f:Flow}{s':ae}(h:SP (X.wish E) pins D f s'):SP X pins D f s':=by
 cases f with
 | next=>obtain⟨Y,H',I,q⟩:=h;exact⟨Y,H',I.unwish,q⟩
 | brk=>obtain⟨Y,H',I,q⟩:=h;exact⟨Y,H',I.unwish,q⟩
 | cont=>obtain⟨Y,H',I,q⟩:=h;exact⟨Y,H',I.unwish,q⟩
 | ret u=>obtain⟨v,Y,H',I,r,q⟩:=h;exact⟨v,Y,H',I.unwish,r,q⟩
theorem PSs.nox{st:List aS}{t:TS}(h:PSs X.nox st t):PSs X st t:=fun pins s σ H D I hw =>
 az (h pins s σ H D (I.wish _) hw) (fun _ _ q=>q.unwish) fun _ _ z=>False.elim z
end
section
variable {X:Cx}{st:aS}{BD:List aS}{t u:TS}{e:Expr}{te:TE}{pos:Pos}
def Qw:TS:=fun D σ H=>D.nx σ H
@[reducible] def DA.to(D:DA)(n:St->Hp->Prop):DA:={ D with nx:=n }
def O1(t u:TS):TS:=fun D σ H=>t (D.to (u D)) σ H
theorem Az:PSs X [] Qw:=fun _ _ σ H _ I h=>aO ⟨σ,H,I,h⟩
theorem BJ(h1:PS X st t)(h2:PSs X BD u):PSs X (st::BD) (O1 t u):=by
 intro pins s σ H D I h;refine wpAny_execs_cons (thn (h1 pins s σ H { D with nx:=u D } I h) fun f W q=>?_)
 cases f with
 | next =>
   obtain⟨Y,H',O,q⟩:=q;exact h2 pins W Y H' D O q
 | ret v=>exact q
 | brk=>exact q
 | cont=>exact q
theorem Ag(h1:PS X st t):PSs X [st] t:=by
 intro pins s σ H D I h;refine wpAny_execs_cons (thn (h1 pins s σ H D I h) fun f Y q=>?_);cases f with
 | next=>exact aO q
 | ret v=>exact q
 | brk=>exact q
 | cont=>exact q
theorem Inv.quiet{pins:List (aa×Obj)}{σ:St}{H:Hp}{s:ae}(I:Inv X pins σ H s):interactive X.env=false:=by simp[interactive,I.ok.kind]
def Qy(te:TE):TS:=fun D σ H=>te σ H fun _ H1=>D.nx σ H1
theorem BG(Y:PE X e te)(hs:swapsWith e none pos.line X.env=pure false:=by rfl):PS X (.Expr e pos) (Qy te):=by
 intro pins s σ H D I h;exact wpAny_Expr_any (thn (Y pins s σ H _ I h) fun v J ⟨x,H1,W,r1,O⟩=>⟨σ,H1,W,O⟩) I.quiet hs
def Rm(te:TE):TS:=fun D σ H=>te σ H D.rt
theorem Ar(Y:PE X e te):PS X (.Return (some e) pos) (Rm te):=by
 intro pins s σ H D I h;exact wpAny_Return_some (thn (Y pins s σ H _ I h) fun v J ⟨x,H1,W,r1,O⟩=>⟨x,σ,H1,W,r1,O⟩)
def LV(c:TT)(t u:TS):TS:=fun D σ H=>c σ H fun b H1=>if b=true then t D σ H1 else u D σ H1
theorem QF{c:Expr}{a b:List aS}{tc:TT}(hc:PT X c tc)(J:PSs X a t)(hb:PSs X b u):PS X (.If c a b pos) (LV tc t u):=by
 intro pins s σ H D I h;refine wpAny_If (thn (hc pins s σ H _ I h) fun d O ⟨H1,Y,W⟩=>?_);cases d with
 | true=>exact J pins O σ H1 D Y W
 | false=>exact hb pins O σ H1 D Y W
def Mx:TS:=fun _ _ _=>False
theorem Ca:PS X st Mx:=fun _ _ _ _ _ _ h=>h.elim
theorem Dp{Y:List aS}:PSs X Y Mx:=fun _ _ _ _ _ _ h=>h.elim
end
abbrev TG:=V->St->Hp->(St->Hp->Prop)->Prop
abbrev TGs:=List V->St->Hp->(St->Hp->Prop)->Prop
def PG(X:Cx)(target:Expr)(t:TG):Prop :=
 ∀ (pins:List (aa×Obj)) (s:ae) (σ:St) (H:Hp) (v:V) (u:ac) (Q:St->Hp->Prop),Inv X pins σ H s->AR v u->t v σ H Q ->
   am (ao X.prog X.w) X.A (assign target X.env u) (fun _ s'=>∃σ' H',Inv X pins σ' H' s'/\Q σ' H') X.xe s
def PGs(X:Cx)(ts:List Expr)(t:TGs):Prop :=
 ∀ (pins:List (aa×Obj)) (s:ae) (σ:St) (H:Hp) (vs:List V) (us:List ac) (Q:St->Hp->Prop),Inv X pins σ H s->AI vs us->t vs σ H Q ->
   am (ao X.prog X.w) X.A (assignInOrder ((aY ts X.env).map (·.2)) us) (fun _ s'=>∃σ' H',Inv X pins σ' H' s'/\Q σ' H') X.xe s
abbrev Qm:=V->V->V->Hp->(Hp->Prop)->Prop
def Rb(X:Cx)(t:Qm):Prop :=
 ∀ (pins:List (aa×Obj)) (s:ae) (σ:St) (H:Hp) (o i v:V) (ov iv u:ac) (Q:Hp->Prop),Inv X pins σ H s->AR o ov->AR i iv->AR v u->t o i v H Q ->
   am (ao X.prog X.w) X.A (setItem ov iv u) (fun _ s'=>∃H',Inv X pins σ H' s'/\Q H') X.xe s
section
variable {X:Cx}{pos:Pos}
def Cq(i:Nat):TG:=fun v σ H Q=>Q (σ.set i (some v)) H
theorem Ax{i:Nat}{x:Str}(W:X.N.Nodup)(hi:X.N[i]? = some x)(Y:Loc X.env.scope x)(O:X.fn x=true\/X.env.scope.names.lookup x=some .local:=by first | exact .inl rfl | exact .inr rfl | assumption):PG X (.Name x pos) (Cq i):=by
 intro pins s σ H v u Q I r h;exact wpAny_assign_Name (DV I W hi Y r (fun s' J=>⟨_,H,J,h⟩) O)
def Ni:TGs:=fun vs σ H Q=>vs=[]/\Q σ H
inductive Fo(t:TG)(u:TGs)(vs:List V)(σ:St)(H:Hp)(Q:(St->Hp->Prop)):Prop
 | mk (v:_) (r:_) (h1:vs=v::r) (h2:t v σ H fun σ' H'=>u r σ' H' Q):Fo t u vs σ H Q
theorem Gp:PGs X [] Ni:=by
 intro pins s σ H vs us Q I r h;obtain⟨e,h⟩:=h;subst e;cases r;exact assignInOrder_nil ⟨σ,H,I,h⟩
theorem CA{e:Expr}{es:List Expr}{t:TG}{u:TGs}(h1:PG X e t)(h2:PGs X es u)
 (hs:(aY (e::es) X.env).map (·.2)=assign e X.env::(aY es X.env).map (·.2):=by rfl):PGs X (e::es) (Fo t u):=by
 intro pins s σ H vs us Q I r h;obtain⟨v,vr,e1,h⟩:=h;subst e1;cases r with
 | cons r rr =>
   rw[hs];refine bE (thn (h1 pins s σ H _ _ _ I r h) fun _ J ⟨Y,H1,W,O⟩=>?_);exact h2 pins J Y H1 _ _ Q W rr O
inductive KD(K:U5)(n:Nat)(t:TGs)(v:V)(σ:St)(H:Hp)(Q:(St->Hp->Prop)):Prop
 | mk (a:_) (xs:_) (h1:v = .ref a) (h2:SqT K H a xs) (h3:xs.length=n) (h4:t xs σ H Q):KD K n t v σ H Q
theorem Pn{es:List Expr}{k:Nat}{t:TGs}{n:Nat}(hc:X.calm=true)(h:PGs X es t)
 (hn:(aY es X.env).length=n:=by rfl) (Y:(aY es X.env).findIdx? (·.1)=none:=by rfl):PG X (.Tuple es k pos) (KD X.K n t):=by
 intro pins s σ H v u Q I r hw;obtain⟨a,xs,e1,hq,J,hw⟩:=hw;subst e1;cases r;obtain⟨ak,W,ht,hz⟩:=I.tuple hq;refine assign_Tuple_tuple (I.ok.hd hc) ht (by simp[hn,<- J,W.length]) Y fun h' hx=>?_
 have O:Inv X pins σ H { s with heap:=h' }:=I.kept (t':=s.toks) fun b o e=>hx b o (TZ (Heap.lt_size e)) e
 exact h pins _ σ H xs _ Q O (by simpa using W) hw
def Rw(to ti:TE)(t:Qm):TG:=fun v σ H Q=>to σ H fun o H1=>ti σ H1 fun i H2=>t o i v H2 fun H3=>Q σ H3
theorem FI{o i:Expr}{to O:TE}{t:Qm}(ho:PE X o to)(hi:PE X i O)(hs:Rb X t)
 (ha:∀v,assign (.Subscript o i pos) X.env v=(do
  let Y <- holding [v] (aD o X.env)
  let W <- holding [v,Y] (aD i X.env)
  standAt pos
  holding [v,Y,W] (setItem Y W v)
  release [v,Y,W] []):=by intro _;rfl):PG X (.Subscript o i pos) (Rw to O t):=by
 intro pins s σ H v u Q I r h;rw[ha];refine ad (ax (thn (ho pins s σ H _ I h) fun Y s1 ⟨x,H1,I1,r1,q1⟩=>?_));refine ad (ax (thn (hi pins s1 σ H1 _ I1 q1) fun W s2 ⟨y,H2,I2,r2,q2⟩=>?_));refine ad (aV (ad (ax (thn (hs pins s2 σ H2 x y v Y W u _ I2 r1 r2 r q2) fun _ s3 ⟨H3,I3,J⟩=>?_))));exact wpAny_release ⟨σ,H3,I3,J⟩
def P7(te:TE)(g:TG):TS:=fun D σ H=>te σ H fun x H1=>g x σ H1 D.nx
theorem FH{tg e:Expr}{te:TE}{g:TG}(Y:PE X e te)(hg:PG X tg g)(hs:swapsWithSole [tg] e pos.line X.env=pure false:=by rfl)(hw:swappedStores [tg] e X.env=pure none:=by rfl)
 (h1:(aY [tg] X.env).map (·.2)=[assign tg X.env]:=by rfl):PS X (.Assign [tg] e pos) (P7 te g):=by
 intro pins s σ H D I h;refine wpAny_Assign_stores (thn (Y pins s σ H _ I h) fun v J ⟨x,H1,W,r1,O⟩=>?_) hs hw;rw[h1];exact thn (hg pins J σ H1 x v _ W r1 O) fun _ s2 q=>q
theorem Ai{i:Nat}{x:Str}{e:Expr}{te:TE}{pos':Pos}(hN:X.N.Nodup)(hi:X.N[i]? = some x)(hx:Loc X.env.scope x)(Y:PE X e te)(hs:swapsWith e (some (.Name x pos')) pos.line X.env=pure false:=by rfl)(O:X.fn x=true\/X.env.scope.names.lookup x=some .local:=by first | exact .inl rfl | exact .inr rfl | assumption) :
 PS X (.Assign [.Name x pos'] e pos) (P7 te (Cq i)):=by
 intro pins s σ H D I h;refine wpAny_Assign_Name (thn (Y pins s σ H _ I h) fun v s1 ⟨y,H1,I1,r1,J⟩=>?_) hs;exact DV I1 hN hi hx r1 (fun s2 W=>⟨_,H1,W,J⟩) O
def Rn(i j:Nat)(ta:TA):TS:=fun D σ H=>ta σ H fun vs H1=>∃v w,vs=[v,w]/\D.nx ((σ.set i (some v)).set j (some w)) H1
theorem Pj{i j:Nat}{x y:Str}{a b:Expr}{ta:TA}{px py pt:Pos}{kt k2 pt2}(hc:X.calm=true)(hN:X.N.Nodup)(hi:X.N[i]? = some x)(hj:X.N[j]? = some y)(al:i≠j)
 (hx:X.env.scope.names.lookup x=some .local) (hy:X.env.scope.names.lookup y=some .local) (ha:PA X [a,b] ta)
 (hw:swappedStores [.Tuple [.Name x px,.Name y py] kt pt] (.Tuple [a,b] k2 pt2) X.env=pure (some [x,y]))
 (hs:swapsWithSole [.Tuple [.Name x px,.Name y py] kt pt] (.Tuple [a,b] k2 pt2) pos.line X.env=pure false:=by rfl) :
 PS X (.Assign [.Tuple [.Name x px,.Name y py] kt pt] (.Tuple [a,b] k2 pt2) pos) (Rn i j ta):=by
 intro pins s σ H D I h;rw[exec_Assign_arm];refine ad (aV ?_);rw[hs];refine ad (ah ?_);rw[if_neg (by decide)]
 refine ad (Tuple_ (thn (ha _ pins s σ H _ I h) fun us W ⟨vs,H1,I1,r1,q1⟩=>?_));obtain⟨v,w,e1,q1⟩:=q1;subst e1
 obtain⟨Y,O,rfl,rv,ak⟩:∃Y O,us=[Y,O]/\AR v Y/\AR w O:=by
  cases r1 with
  | cons p q =>
    cases q with
    | cons p' q' =>
      cases q';exact⟨_,_,Z,p,p'⟩
 refine bJ ?_ (by show 2<=af;decide)
 have I2:Inv X pins σ H1 { W with heap:=W.heap.push { cls:=.type "tuple",data:=.seq [Y,O].toArray } }:=I1.kept (t':=W.toks) fun b o e=>Heap.get?_push_of_some _ e
 rw[hw];refine ad (ah ?_);show am (ao X.prog X.w) X.A (do rule "assign.swapped-stores";let items <- unpackItems (.ref W.heap.objs.size) 2 none;assignInOrder [fun v=>bindName X.env y v,fun v=>bindName X.env x v] items.reverse;pure Flow.next) _ _ _
 refine ad (wpAny_rule (ad (unpackItems_tuple (items:=#[Y,O]) (I.ok.hd hc) (IsTup.new W.heap _) fun h' J=>?_)));have I3:=I2.kept (h':=h') (t':=W.toks) fun b o e=>J b o (TZ (Heap.lt_size e)) e;show am _ _ (assignInOrder [fun v=>bindName X.env y v,fun v=>bindName X.env x v] [O,Y] >>= fun _=>pure Flow.next) _ _ _;refine ad (bE (wpAny_bindName (DV I3 hN hj (.inl hy) ak (fun s2 I4=>?_) (.inr hy))));refine bE (wpAny_bindName (DV I4 hN hi (.inl hx) rv (fun s3 I5=>assignInOrder_nil (ah ?_)) (.inr hx)));rw[List.set_comm _ _ (Ne.symm al)]at I5;exact⟨_,H1,I5,q1⟩
end
section
variable {X:Cx}{pos:Pos}
def K7(c:TT)(tb:TS):TS:=fun D σ H=>∃W:Nat->St->Hp->Prop,(∃m,W m σ H)/\∀m σ H,W m σ H ->
 c σ H fun b H1=>if b=true then ∃N:St->Hp->Prop,(∀σ' H',N σ' H'->∃m',m'<m/\W m' σ' H')/\tb { D with nx:=N,ct:=N,bk:=D.nx } σ H1 else D.nx σ H1
theorem F0{c:Expr}{body:List aS}{tc:TT}{tb:TS}(hp:PassesOwn (ao X.prog X.w) X.A X.env X.xe)(hc:PT X c tc)(hb:PSs X body tb):PS X (.While c body [] pos) (K7 tc tb):=by
 intro pins s σ H D I h;obtain⟨W,⟨m0,w0⟩,ak⟩:=h;refine wpAny_While (codeAny_whileLoop (fun n s'=>∃J H',Inv X pins J H' s'/\W n J H') ?_ m0 ⟨σ,H,I,w0⟩);rintro n s1 ⟨O,H1,I1,w1⟩;refine aI hp (thn (hc pins s1 O H1 _ I1 (ak n O H1 w1)) fun b s2 ⟨H2,I2,q2⟩=>?_);cases b with
 | true =>
   obtain⟨N,hN,q2⟩:=q2;rw[if_pos rfl];refine aI hp (thn (hb pins s2 O H2 _ I2 q2) fun f s3 q3=>?_);cases f with
   | next =>
     obtain⟨Y,H3,I3,n3⟩:=q3;obtain⟨m',hm,w3⟩:=hN Y H3 n3;exact⟨m',hm,Y,H3,I3,w3⟩
   | cont =>
     obtain⟨Y,H3,I3,n3⟩:=q3;obtain⟨m',hm,w3⟩:=hN Y H3 n3;exact⟨m',hm,Y,H3,I3,w3⟩
   | brk=>exact q3
   | ret v=>exact q3
 | false =>
   rw[if_neg Bool.false_ne_true];exact aO ⟨O,H2,I2,q2⟩
end
structure It where
 go:Nat->Hp->Prop
 yld:Nat->Hp->V->Hp->Prop
 stop:Nat->Hp->Prop
def Ei(X:Cx)(pins:List (aa×Obj))(H:Hp)(b:aa):Prop :=
 H b=none/\b≠X.env.locals/\b∉X.fs/\(b∈X.ex\/X.s₀.heap.objs.size<=b)/\(∀x c,X.env.cells.lookup x=some c->c≠b)/\∀p∈X.pn++pins,p.1≠b
theorem Inv.fpOk{X:Cx}{pins:List (aa×Obj)}{σ:St}{H H':Hp}{s:ae}{b:aa}(I:Inv X pins σ H s)(Y:s.heap.objs.size<=b)(W:H' b=none):Ei X pins H' b:=by
 refine⟨W,Uj (TX I.lt Y),I.nofs Y,.inr (U6 I.sz Y),fun x c e z=>?_,fun p O z=>?_⟩
 ·obtain⟨v,q⟩:=I.cell x c e;exact absurd (TX q.lt (by rw[z];exact Y)) (TY _)
 ·exact absurd (TX (Heap.lt_size (I.pin p O).1) (by rw[z];exact Y)) (TY _)
structure JZ(P:ai)(w:ar)(K:U5)(tg:Expr)(J:It)(fp:List aa)(it:aa)(tn:Nat->au->Prop):Prop where
 mem:it∈fp
 obj:∀i h,tn i h->∀b∈fp,∃o,h.get? b=some o/\∀v,o.data ≠ .cell v
 keep:∀i h h',tn i h->(∀b∈fp,∀o,h.get? b=some o->h'.get? b=some o)->tn i h'
 item:∀(X:Cx),X.prog=P->X.w=w->X.K=K->X.calm=true->∀(i:Nat) (pins:List (aa×Obj)) (s:ae) (σ:St) (H:Hp) (E:ac->ae->Prop),Inv X pins σ H s->(∀b∈fp,Ei X pins H b)->tn i s.heap->J.go i H ->
  am (ao P w) X.A (bP (.ref it)) (fun r s1=>∃u,r=some u /\
   am (ao P w) X.A (br tg (.ref it) u) (fun _ s2=>∃x H',Inv X pins σ H' s2/\AR x u/\J.yld i H x H'/\tn (i+1) s2.heap/\∀b∈fp,H' b=none) E s1) E s
 done:∀(X:Cx),X.prog=P->X.w=w->X.K=K->X.calm=true->∀(i:Nat) (pins:List (aa×Obj)) (s:ae) (σ:St) (H:Hp) (E:ac->ae->Prop),Inv X pins σ H s->(∀b∈fp,Ei X pins H b)->tn i s.heap->J.stop i H ->
  am (ao P w) X.A (bP (.ref it)) (fun r s1=>r=none/\Inv X pins σ H s1) E s
 self:∀(A:aw) (i:Nat) (s:ae) (Q:ac->ae->Prop) (E:ac->ae->Prop),tn i s.heap->Q (.ref it) s->am (ao P w) A (pyIter (.ref it)) Q E s
abbrev TI:=St->Hp->(It->Hp->Prop)->Prop
def PIE(X:Cx)(pins:List (aa×Obj))(σ:St)(tg:Expr)(R:It->Hp->Prop)(itv:ac)(s2:ae):Prop :=
 ∃(it:aa) (fp:List aa) (tn:Nat->au->Prop) (J:It) (H':Hp),itv = .ref it/\Inv X pins σ H' s2/\JZ X.prog X.w X.K tg J fp it tn/\tn 0 s2.heap/\(∀b∈fp,Ei X pins H' b)/\R J H'
def PI(X:Cx)(tg iter:Expr)(wi:TI):Prop :=
 ∀ (pins:List (aa×Obj)) (s:ae) (σ:St) (H:Hp) (R:It->Hp->Prop),Inv X pins σ H s->wi σ H R ->
   am (ao X.prog X.w) X.A (aD iter X.env) (fun v s1=>am (ao X.prog X.w) X.A (pyIter v) (PIE X pins σ tg R) X.xe s1) X.xe s
theorem JL{M:Model}{A:aw}{E:ac->ae->Prop}{s:ae}{tg:Expr}{it:aa}{u:ac}{o:Obj}{n:String}{vs:Array ac}{Q:Unit->ae->Prop}(W:s.heap.get? it=some o)(hc:o.cls = .type n)(J:o.data = .fields vs)
 (O:["enumerate","zip","dict_itemiterator","dict_reverseitemiterator","odict_iterator","itertools.zip_longest","itertools.pairwise"].contains n=false) (Y:Q () s):am M A (br tg (.ref it) u) Q E s:=by
 unfold br
 cases tg<;>first
  | exact ah Y
  | (cases u<;>first
   | exact ah Y
   | (refine ad (wpAny_load W ?_)
      rw[hc,J];show am M A (if (["enumerate","zip","dict_itemiterator","dict_reverseitemiterator","odict_iterator","itertools.zip_longest","itertools.pairwise"].contains n&&vs[0]? == some (aE _))=true then _ else _) Q E s;rw[if_neg (by intro h;rw[O,Bool.false_and]at h;cases h)]
      exact ah Y))
def Itl(K:U5)(a:aa):It :=
 ⟨fun i H=>∃xs x,SqL K H a xs/\xs[i]? = some x,fun i H x H'=>H'=H/\∀xs,SqL K H a xs->xs[i]? = some x,fun i H=>∃xs,SqL K H a xs/\xs.length<=i⟩
def Itt(K:U5)(a:aa):It :=
 ⟨fun i H=>∃xs x,SqT K H a xs/\xs[i]? = some x,fun i H x H'=>H'=H/\∀xs,SqT K H a xs->xs[i]? = some x,fun i H=>∃xs,SqT K H a xs/\xs.length<=i⟩
def Itr(lo:Int)(n:Nat):It:=⟨fun i _=>i<n,fun i H x H'=>H'=H/\x = .int (lo+i),fun i _=>n<=i⟩
theorem LM{P:ai}{w:ar}{K:U5}{tg:Expr}(a it:aa):JZ P w K tg (Itl K a) [it] it (fun i h=>h.IsListIter it a i) where
 mem:=by simp
 obj:=fun i h st b Y=>by
  have e:b=it:=by simpa using Y
  subst e;obtain⟨o,e,c,d⟩:=st;exact⟨o,e,fun v z=>by rw[d]at z;cases z⟩
 keep:=fun i h h' st k=>st.at fun o e=>k it (by simp) o e
 item:=by
  intro X hP hw hK hc i pins s σ H E I J st hg;subst hP hw hK;obtain⟨xs,x,O,hx⟩:=hg;obtain⟨ak,rv,p,hz⟩:=I.list O;obtain⟨u,hu,ru⟩:=rv.get hx;obtain⟨f0,f1,f2,f3,f4,f5⟩:=J it (by simp)
  refine wpAny_pyNext_list_item st p.isList (x:=u) (by simpa using hu) fun h' W sb=>?_
  have I1:Inv X pins σ H { s with heap:=h' }:=I.turned (t':=s.toks) (fun b o Y e=>(sb.2 b Y).trans e) f0 f1 f3 f4 f5
  obtain⟨o,e,c,d⟩:=id W;exact⟨u,Z,JL (s:={ s with heap:=h' }) e c d (by decide) ⟨x,H,I1,ru,⟨rfl,fun ys hy=>by rw[I.list_inj hy O];exact hx⟩,W,fun b Y=>(J b Y).1⟩⟩
 done:=by
  intro X hP hw hK hc i pins s σ H E I J st hg;subst hP hw hK;obtain⟨xs,O,hx⟩:=hg;obtain⟨ak,rv,p,hz⟩:=I.list O;obtain⟨f0,f1,f2,f3,f4,f5⟩:=J it (by simp)
  have hl:=rv.length;exact wpAny_pyNext_list_end (I.ok.hd hc) st p.isList (by simp;lia) fun h' eb=>⟨Z,I.turned (t':=s.toks) (fun b o Y e=>eb b o Y e) f0 f1 f3 f4 f5⟩
 self:=fun _ _ _ _ _ st h=>wpAny_pyIter_listiter st h
theorem K4{P:ai}{w:ar}{K:U5}{tg:Expr}(a it:aa):JZ P w K tg (Itt K a) [it] it (fun i h=>h.IsTupleIter it a i) where
 mem:=by simp
 obj:=fun i h st b Y=>by
  have e:b=it:=by simpa using Y
  subst e;obtain⟨o,e,c,d⟩:=st;exact⟨o,e,fun v z=>by rw[d]at z;cases z⟩
 keep:=fun i h h' st k=>st.at fun o e=>k it (by simp) o e
 item:=by
  intro X hP hw hK hc i pins s σ H E I hf st hg;subst hP hw hK;obtain⟨xs,x,J,hx⟩:=hg;obtain⟨W,rv,p,hz⟩:=I.tuple J;obtain⟨u,hu,ru⟩:=rv.get hx;obtain⟨f0,f1,f2,f3,f4,f5⟩:=hf it (by simp)
  refine wpAny_pyNext_tuple_item st (show s.heap.IsTuple a W.toArray from p) (x:=u) (by simpa using hu) fun h' O sb=>?_
  have I1:Inv X pins σ H { s with heap:=h' }:=I.turned (t':=s.toks) (fun b o Y e=>(sb.2 b Y).trans e) f0 f1 f3 f4 f5
  obtain⟨o,e,c,d⟩:=id O;exact⟨u,Z,JL (s:={ s with heap:=h' }) e c d (by decide) ⟨x,H,I1,ru,⟨rfl,fun ys hy=>by rw[I.tuple_inj hy J];exact hx⟩,O,fun b Y=>(hf b Y).1⟩⟩
 done:=by
  intro X hP hw hK hc i pins s σ H E I hf st hg;subst hP hw hK;obtain⟨xs,J,hx⟩:=hg;obtain⟨W,rv,p,hz⟩:=I.tuple J;obtain⟨f0,f1,f2,f3,f4,f5⟩:=hf it (by simp)
  have hl:=rv.length;exact wpAny_pyNext_tuple_end (I.ok.hd hc) st (show s.heap.IsTuple a W.toArray from p) (by simp;lia) fun h' eb=>⟨Z,I.turned (t':=s.toks) (fun b o Y e=>eb b o Y e) f0 f1 f3 f4 f5⟩
 self:=fun _ _ _ _ _ st h=>wpAny_pyIter_tupleiter st h
theorem K5{P:ai}{w:ar}{K:U5}{tg:Expr}(it:aa)(lo:Int)(n:Nat):JZ P w K tg (Itr lo n) [it] it (fun i h=>IsRangeIter h it (lo+(i:Nat)*1) ((n:Int)-(i:Nat)) 1) where
 mem:=by simp
 obj:=fun i h st b Y=>by
  have e:b=it:=by simpa using Y
  subst e
  exact⟨_,st,fun v z=>by
   have z':Data.fields _=Data.cell v:=z;cases z'⟩
 keep:=fun i h h' st k=>k it (by simp) _ st
 item:=by
  intro X hP hw hK hc i pins s σ H E I J st hg;subst hP hw hK;obtain⟨f0,f1,f2,f3,f4,f5⟩:=J it (by simp)
  have W:=Walks.range (prog:=X.prog) (w:=X.w) (I.ok.hd hc) it lo 1 n;refine W.item i s _ _ hg st fun v h' tk hv O kk=>?_;obtain⟨t,rfl⟩:=hv;have I1:Inv X pins σ H { s with heap:=h',toks:=tk }:=I.turned (fun b o Y e=>kk b o (by simpa using Y) e) f0 f1 f3 f4 f5
  refine⟨_,Z,JL (s:={ s with heap:=h',toks:=tk }) (n:="range_iterator") O rfl rfl (by decide) ⟨.int (lo+i),H,I1,⟨t,?_⟩,⟨rfl,rfl⟩,O,fun b Y=>(J b Y).1⟩⟩
  rw[Int.mul_one]
 done:=by
  intro X hP hw hK hc i pins s σ H E I J st hg;subst hP hw hK;obtain⟨f0,f1,f2,f3,f4,f5⟩:=J it (by simp)
  exact wpAny_pyNext_range_end (I.ok.hd hc) st (by have:n<=i:=hg;lia) fun h' eb=>⟨Z,I.turned (t':=s.toks) (fun b o Y e=>eb b o Y e) f0 f1 f3 f4 f5⟩
 self:=fun _ _ _ _ _ st h=>wpAny_pyIter_rangeiter st h
section
variable {X:Cx}{tg:Expr}
def Nc(K:U5)(tl:TE):TI:=fun σ H R=>tl σ H fun x H1=>∃a,x = .ref a/\(∃xs,SqL K H1 a xs)/\R (Itl K a) H1
def Qa(K:U5)(tl:TE):TI:=fun σ H R=>tl σ H fun x H1=>∃a,x = .ref a/\(∃xs,SqT K H1 a xs)/\R (Itt K a) H1
theorem Lb{l:Expr}{tl:TE}(J:PE X l tl):PI X tg l (Nc X.K tl):=by
 intro pins s σ H R I h;refine thn (J pins s σ H _ I h) fun v W ⟨x,H1,Y,r1,O⟩=>?_;obtain⟨a,e,⟨xs,hq⟩,q⟩:=O;subst e;cases r1;obtain⟨ak,rv,p,hz⟩:=Y.list hq;refine wpAny_pyIter_list p.isList ?_;refine⟨W.heap.objs.size,[W.heap.objs.size],_,_,H1,Z,Y.kept (t':=W.toks) fun b o e=>Heap.get?_push_of_some _ e,LM a _,⟨_,Heap.get?_push_size _ rfl,Z,Z⟩,fun b hb=>?_,q⟩;have e:b=W.heap.objs.size:=by simpa using hb
 subst e;exact Y.fpOk (Uk _) (Y.hok.fresh (Uk _))
theorem MP{l:Expr}{tl:TE}(hl:PE X l tl):PI X tg l (Qa X.K tl):=by
 intro pins s σ H R I h;refine thn (hl pins s σ H _ I h) fun v Y ⟨x,H1,W,r1,J⟩=>?_;obtain⟨a,e,⟨xs,hq⟩,q⟩:=J;subst e;cases r1;obtain⟨O,rv,p,hz⟩:=W.tuple hq;refine wpAny_pyIter_tuple (show Y.heap.IsTuple a O.toArray from p) ?_;refine⟨Y.heap.objs.size,[Y.heap.objs.size],_,_,H1,Z,W.kept (t':=Y.toks) fun b o e=>Heap.get?_push_of_some _ e,K4 a _,⟨_,Heap.get?_push_size _ rfl,Z,Z⟩,fun b hb=>?_,q⟩;have e:b=Y.heap.objs.size:=by simpa using hb
 subst e;exact W.fpOk (Uk _) (W.hok.fresh (Uk _))
theorem MK{pins:List (aa×Obj)}{σ:St}{H:Hp}{s:ae}{R:It->Hp->Prop}{E:ac->ae->Prop}{lo hi:Int}{t u v:Tok}{tk:Nat}(I:Inv X pins σ H s)(h1 : -(2 ^ 62)<=lo)(h2:lo<2 ^ 62)(W : -(2 ^ 62)<=hi)(J:hi<2 ^ 62)
 (q:R (Itr lo (hi-lo).toNat) H):am (ao X.prog X.w) X.A (pyIter (.ref s.heap.objs.size)) (PIE X pins σ tg R) E { s with heap:=s.heap.push { cls:=.type "range",data:=.fields #[.int lo t,.int hi u,.int 1 v] },toks:=tk }:=by
 refine wpAny_pyIter_range (IsRange.new ..) (small_one h1 h2 W J) ?_;have Y:Inv X pins σ H { s with heap:=s.heap.push { cls:=.type "range",data:=.fields #[.int lo t,.int hi u,.int 1 v] },toks:=tk }:=I.kept fun b o e=>Heap.get?_push_of_some _ e
 refine⟨(s.heap.push { cls:=.type "range",data:=.fields #[.int lo t,.int hi u,.int 1 v] }).objs.size,[(s.heap.push { cls:=.type "range",data:=.fields #[.int lo t,.int hi u,.int 1 v] }).objs.size],_,_,H,Z,
  Y.kept (t':=tk) fun b o e=>Heap.get?_push_of_some _ e,K5 _ lo (hi-lo).toNat,?_,fun b hb=>?_,q⟩
 ·have e1:lo+((0:Nat):Int)*1=lo:=by simp
  have O:(((hi-lo).toNat:Nat):Int)-((0:Nat):Int)=Builtin.Range.rangeSize lo hi 1:=by rw[rangeSize_one];split<;>lia
  show IsRangeIter _ _ (lo+((0:Nat):Int)*1) ((((hi-lo).toNat:Nat):Int)-((0:Nat):Int)) 1;rw[e1,O];exact Heap.get?_push_size _ rfl
 ·have e:b=(s.heap.push { cls:=.type "range",data:=.fields #[.int lo t,.int hi u,.int 1 v] }).objs.size:=by simpa using hb
  subst e;exact Y.fpOk (Uk _) (Y.hok.fresh (Uk _))
def QX(ta:TA):TI:=fun σ H R=>ta σ H fun vs H1=>∃j:Int,vs=[.int j] /\ -(2 ^ 62)<=j/\j<2 ^ 62/\R (Itr 0 j.toNat) H1
theorem Bj{a:Expr}{ta:TA}{p pos:Pos}(hg:Gl X "range")(hm:X.mg "range" = none)(W:PA X [a] ta)(hs:aq [a] X.env=[(false,aD a X.env)]:=by rfl):PI X tg (.Call (.Name "range" p) [a] [] pos) (QX ta):=by
 intro pins s σ H R I h;refine Call_ (Df I hg hm boot_range (PyProof.Rows.callWith_type1 (thn (W pos pins s σ H _ I h) fun us s1 ⟨vs,H1,J,r1,Y⟩=>?_) hs rfl));obtain⟨j,e,Y,O,q⟩:=Y;subst e;cases r1 with
 | cons r rr =>
   cases rr;obtain⟨t,rfl⟩:=r;exact call_range_1 (MK J (by lia) (by lia) Y O (by simpa using q))
def P4(wi:TI)(g:TG)(tb:TS):TS:=fun D σ H=>wi σ H fun J H1=>∃W:Nat->Nat->St->Hp->Prop,(∃m,W 0 m σ H1)/\∀i m σ H,W i m σ H ->
 (J.stop i H/\D.nx σ H)\/(J.go i H/\∃N:St->Hp->Prop,(∀σ' H',N σ' H'->∃m',m'<m/\W (i+1) m' σ' H')/\∀x H',J.yld i H x H'->g x σ H' fun σ2 H2=>tb { D with nx:=N,ct:=N,bk:=D.nx } σ2 H2)
def GP(fp:List aa)(h:au):List (aa×Obj):=fp.filterMap fun b=>(h.get? b).map fun o=>(b,o)
theorem DK{fp:List aa}{h:au}{b:aa}{o:Obj}(Y:b∈fp)(e:h.get? b=some o):(b,o)∈GP fp h:=Ul.mpr ⟨b,Y,by rw[e];rfl⟩
theorem M6{fp:List aa}{h:au}{p:aa×Obj}(W:p∈GP fp h):p.1∈fp/\h.get? p.1=some p.2:=by
 obtain⟨b,Y,e⟩:=Ul.mp W;cases q:h.get? b with
 | none=>rw[q]at e;cases e
 | some o =>
   rw[q]at e;have O:(b,o)=p:=TU.inj e;subst O;exact⟨Y,q⟩
theorem Inv.pinned{pins:List (aa×Obj)}{σ:St}{H:Hp}{s:ae}{fp:List aa}(I:Inv X pins σ H s)(hf:∀b∈fp,Ei X pins H b)(ho:∀b∈fp,∃o,s.heap.get? b=some o/\∀v,o.data ≠ .cell v):Inv X (pins++GP fp s.heap) σ H s :=
 I.pins_of fun p hp=>(Uc.mp hp).elim (fun z=>I.pin p (Um _ z)) fun z=>by
  obtain⟨W,e⟩:=M6 z;obtain⟨O,f1,J,_⟩:=hf p.1 W;obtain⟨o,Y,d⟩:=ho p.1 W;rw[e]at Y;cases Y;exact⟨e,O,f1,J,d⟩
theorem Inv.unpinned{pins W:List (aa×Obj)}{σ:St}{H:Hp}{s:ae}(I:Inv X (pins++W) σ H s):Inv X pins σ H s:=I.pins_of fun p Y=>I.pin p (Um _ (Ud _ Y))
theorem Pk{iter:Expr}{body:List aS}{wi:TI}{g:TG}{tb:TS}{pos:Pos}(hp:PassesOwn (ao X.prog X.w) X.A X.env X.xe)(hc:X.calm=true)(hi:PI X tg iter wi)(hg:PG X tg g)(hb:PSs X body tb)
 (hs:∀x,bi iter X.env x=pure x:=by intro _;rfl):PS X (.For tg iter body [] pos) (P4 wi g tb):=by
 intro pins s σ H D I h;refine wpAny_For (thn (hi pins s σ H _ I h) fun v s1 h1=>thn h1 fun bd s2 h2=>?_) hs;obtain⟨it,fp,tn,J,H2,e,I2,T,bb,f2,W,⟨m0,w0⟩,aP⟩:=h2;subst e
 -- what stays true of the iterator's objects through the loop
 have al:∀{H':Hp},(∀b∈fp,H' b=none)->∀b∈fp,Ei X pins H' b:=fun hn b hb=>⟨hn b hb,(f2 b hb).2⟩;refine codeAny_forLoop_any (fun n s'=>∃i O H',Inv X pins O H' s'/\tn i s'.heap/\(∀b∈fp,H' b=none)/\W i n O H') ?_ m0 ⟨0,σ,H2,I2,bb,fun b hb=>(f2 b hb).1,w0⟩;rintro n s3 ⟨i,an,H3,I3,as,aF,w3⟩
 rcases aP i n an H3 w3 with ⟨aC,qn⟩ | ⟨go,N,hN,step⟩
 ·refine aI hp (thn (T.done X rfl rfl rfl hc i pins s3 an H3 X.xe I3 (al aF) as aC) fun r s4 ⟨hr,I4⟩=>?_);subst hr;exact aO ⟨an,H3,I4,qn⟩
 ·refine aI hp (thn (T.item X rfl rfl rfl hc i pins s3 an H3 X.xe I3 (al aF) as go) fun r s4 ⟨u,hr,h4⟩=>?_);subst hr;refine aI hp (thn h4 fun _ s5 ⟨x,H5,I5,r5,y5,ap,a0⟩=>?_);have bc:=I5.pinned (al a0) (T.obj _ _ ap);refine aI hp (thn (hg _ s5 an H5 x u _ bc r5 (step x H5 y5)) fun _ s6 ⟨ba,H6,I6,q6⟩=>?_);refine aI hp (thn (hb _ s6 ba H6 _ I6 q6) fun f s7 q7=>?_)
  have ak:∀{Y:St} {H7:Hp},Inv X (pins++GP fp s5.heap) Y H7 s7->N Y H7->∃m,m<n/\∃i O H',Inv X pins O H' s7/\tn i s7.heap/\(∀b∈fp,H' b=none)/\W i m O H':=fun{Y H7} I7 n7=>by
   obtain⟨m',hm,w7⟩:=hN Y H7 n7;refine⟨m',hm,i+1,Y,H7,I7.unpinned,T.keep _ _ _ ap fun b hb o e=>(I7.pin (b,o) (Um _ (Um _ (DK hb e)))).1,fun b hb=>?_,w7⟩;obtain⟨o,e,d⟩:=T.obj _ _ ap b hb;exact(I7.pin (b,o) (Um _ (Um _ (DK hb e)))).2.1
  cases f with
  | next=>obtain⟨Y,H7,I7,n7⟩:=q7;exact ak I7 n7
  | cont=>obtain⟨Y,H7,I7,n7⟩:=q7;exact ak I7 n7
  | brk=>obtain⟨Y,H7,I7,q7⟩:=q7;exact⟨Y,H7,I7.unpinned,q7⟩
  | ret v=>obtain⟨x7,Y,H7,I7,r7,q7⟩:=q7;exact⟨x7,Y,H7,I7.unpinned,r7,q7⟩
end
theorem Hk{K:U5}{a:aa}{xs:List V}{g:TG}{tb:TS}{D:DA}{σ:St}{H:Hp}(Y:Nat->St->Hp->Prop)(h0:Y 0 σ H)(hl:∀i σ H,i<=xs.length->Y i σ H->SqL K H a xs)
 (hs:∀i x σ H,xs[i]? = some x->Y i σ H->g x σ H fun O H2=>tb { D with nx:=Y (i+1),ct:=Y (i+1),bk:=D.nx } O H2) (hd:∀σ H,Y xs.length σ H->D.nx σ H) :
 ∃ W:Nat->Nat->St->Hp->Prop,(∃m,W 0 m σ H)/\∀i m σ H,W i m σ H ->
   ((Itl K a).stop i H/\D.nx σ H)\/((Itl K a).go i H/\∃N:St->Hp->Prop,(∀J H',N J H'->∃m',m'<m/\W (i+1) m' J H')/\∀x H',(Itl K a).yld i H x H'->g x σ H' fun O H2=>tb { D with nx:=N,ct:=N,bk:=D.nx } O H2):=by
 refine⟨fun i m σ H=>m=xs.length-i/\i<=xs.length/\Y i σ H,⟨xs.length,by simp,Uo _,h0⟩,?_⟩
 rintro i m σ H ⟨rfl,hi,p⟩;have q:=hl i σ H hi p;by_cases hlt:i<xs.length
 ·refine .inr ⟨⟨xs,xs[i],q,by simp[hlt]⟩,Y (i+1),fun J H' p'=>⟨xs.length-(i+1),by lia,Z,hlt,p'⟩,fun x H' y=>?_⟩
  obtain⟨e,y⟩:=y;subst e;exact hs i x σ _ (y xs q) p
 ·have e:i=xs.length:=by lia
  subst e;exact .inl ⟨⟨xs,q,Uk _⟩,hd σ H p⟩
theorem Gr{K:U5}{a:aa}{xs:List V}{g:TG}{tb:TS}{D:DA}{σ:St}{H:Hp}(Y:Nat->St->Hp->Prop)(h0:Y 0 σ H)(hl:∀i σ H,i<=xs.length->Y i σ H->SqT K H a xs)
 (hs:∀i x σ H,xs[i]? = some x->Y i σ H->g x σ H fun O H2=>tb { D with nx:=Y (i+1),ct:=Y (i+1),bk:=D.nx } O H2) (hd:∀σ H,Y xs.length σ H->D.nx σ H) :
 ∃ W:Nat->Nat->St->Hp->Prop,(∃m,W 0 m σ H)/\∀i m σ H,W i m σ H ->
   ((Itt K a).stop i H/\D.nx σ H)\/((Itt K a).go i H/\∃N:St->Hp->Prop,(∀J H',N J H'->∃m',m'<m/\W (i+1) m' J H')/\∀x H',(Itt K a).yld i H x H'->g x σ H' fun O H2=>tb { D with nx:=N,ct:=N,bk:=D.nx } O H2):=by
 refine⟨fun i m σ H=>m=xs.length-i/\i<=xs.length/\Y i σ H,⟨xs.length,by simp,Uo _,h0⟩,?_⟩
 rintro i m σ H ⟨rfl,hi,p⟩;have q:=hl i σ H hi p;by_cases hlt:i<xs.length
 ·refine .inr ⟨⟨xs,xs[i],q,by simp[hlt]⟩,Y (i+1),fun J H' p'=>⟨xs.length-(i+1),by lia,Z,hlt,p'⟩,fun x H' y=>?_⟩
  obtain⟨e,y⟩:=y;subst e;exact hs i x σ _ (y xs q) p
 ·have e:i=xs.length:=by lia
  subst e;exact .inl ⟨⟨xs,q,Uk _⟩,hd σ H p⟩
theorem C5{lo:Int}{n:Nat}{g:TG}{tb:TS}{D:DA}{σ:St}{H:Hp}(J:Nat->St->Hp->Prop)(h0:J 0 σ H)
 (hs:∀i σ H,i<n->J i σ H->g (.int (lo+i)) σ H fun Y H2=>tb { D with nx:=J (i+1),ct:=J (i+1),bk:=D.nx } Y H2) (hd:∀σ H,J n σ H->D.nx σ H) :
 ∃ W:Nat->Nat->St->Hp->Prop,(∃m,W 0 m σ H)/\∀i m σ H,W i m σ H ->
   ((Itr lo n).stop i H/\D.nx σ H)\/((Itr lo n).go i H/\∃N:St->Hp->Prop,(∀O H',N O H'->∃m',m'<m/\W (i+1) m' O H')/\∀x H',(Itr lo n).yld i H x H'->g x σ H' fun Y H2=>tb { D with nx:=N,ct:=N,bk:=D.nx } Y H2):=by
 refine⟨fun i m σ H=>m=n-i/\i<=n/\J i σ H,⟨n,by simp,Uo _,h0⟩,?_⟩
 rintro i m σ H ⟨rfl,hi,p⟩;by_cases hlt:i<n
 ·refine .inr ⟨hlt,J (i+1),fun O H' p'=>⟨n-(i+1),by lia,Z,hlt,p'⟩,fun x H' y=>?_⟩
  obtain⟨e,y⟩:=y;subst e y;exact hs i σ _ hlt p
 ·have e:i=n:=by lia
  subst e;exact .inl ⟨Uk _,hd σ H p⟩
theorem Jf{c:TT}{tb:TS}{D:DA}{σ:St}{H:Hp}(O:St->Hp->Prop)(J:St->Hp->Nat)(h0:O σ H)
 (hs:∀σ H,O σ H->c σ H fun b H1=>if b=true then tb { D with nx:=fun Y H'=>O Y H'/\J Y H'<J σ H,ct:=fun Y H'=>O Y H'/\J Y H'<J σ H,bk:=D.nx } σ H1 else D.nx σ H1)
 (W:∀σ H Q Q',(∀b H1,Q b H1->Q' b H1)->c σ H Q->c σ H Q'):K7 c tb D σ H:=by
 refine⟨fun m σ H=>m=J σ H/\O σ H,⟨_,Z,h0⟩,?_⟩;rintro m σ H ⟨rfl,p⟩;refine W σ H _ _ (fun b H1 q=>?_) (hs σ H p);cases b with
 | true=>exact⟨_,fun Y H' ⟨p',l⟩=>⟨_,l,Z,p'⟩,q⟩
 | false=>exact q
abbrev R2:=V->V->Hp->VK->Prop
def OpR(X:Cx)(f:ac->ac->Sem ac)(r:R2):Prop :=
 ∀ (pins:List (aa×Obj)) (s:ae) (σ:St) (H:Hp) (x y:V) (v u:ac) (Q:VK),Inv X pins σ H s->AR x v->AR y u->r x y H Q ->
   am (ao X.prog X.w) X.A (f v u) (EP X pins σ Q) X.xe s
def UnR(X:Cx)(f:ac->Sem ac)(r:V->Hp->VK->Prop):Prop :=
 ∀ (pins:List (aa×Obj)) (s:ae) (σ:St) (H:Hp) (x:V) (v:ac) (Q:VK),Inv X pins σ H s->AR x v->r x H Q ->
   am (ao X.prog X.w) X.A (f v) (EP X pins σ Q) X.xe s
def CV(X:Cx)(f:ac)(r:List V->Hp->VK->Prop):Prop :=
 ∀ (pins:List (aa×Obj)) (s:ae) (σ:St) (H:Hp) (xs:List V) (us:List ac) (Q:VK),Inv X pins σ H s->AI xs us->r xs H Q ->
   am (ao X.prog X.w) X.A (call f us) (EP X pins σ Q) X.xe s
def tOp(r:R2)(ta tb:TE):TE:=fun σ H Q=>ta σ H fun x H1=>tb σ H1 fun y H2=>r x y H2 Q
def tUn(r:V->Hp->VK->Prop)(ta:TE):TE:=fun σ H Q=>ta σ H fun x H1=>r x H1 Q
inductive rI(C:Int->Int->Prop)(g:Int->Int->V)(x:V)(y:V)(H:Hp)(Q:VK):Prop
 | mk (i:_) (j:_) (h1:x = .int i) (h2:y = .int j) (h3:C i j) (h4:Q (g i j) H):rI C g x y H Q
inductive rI0(g:Int->Int->V)(x:V)(y:V)(H:Hp)(Q:VK):Prop
 | mk (i:_) (j:_) (h1:x = .int i) (h2:y = .int j) (h3:Q (g i j) H):rI0 g x y H Q
inductive rU(g:Int->V)(x:V)(H:Hp)(Q:VK):Prop
 | mk (i:_) (h1:x = .int i) (h2:Q (g i) H):rU g x H Q
section
variable {X:Cx}{a b c:Expr}{ta tb tc:TE}{pos:Pos}
theorem Qi(ha:PE X a ta)(hb:PE X b tb){pins:List (aa×Obj)}{s:ae}{σ:St}{H:Hp}{R:V->V->Hp->Prop}(I:Inv X pins σ H s)
 (h:ta σ H fun x H1=>tb σ H1 fun y H2=>R x y H2) {Q:ac->ae->Prop} {f:ac->ac->Sem ac}
 (hf:∀v u O x y H2,Inv X pins σ H2 O->AR x v->AR y u->R x y H2->am (ao X.prog X.w) X.A (f v u) Q X.xe O) :
 am (ao X.prog X.w) X.A (aD a X.env) (fun v W=>am (ao X.prog X.w) X.A (aD b X.env) (fun u Y=>am (ao X.prog X.w) X.A (f v u) Q X.xe Y) X.xe W) X.xe s:=by
 refine thn (ha pins s σ H _ I h) fun v s1 ⟨x,H1,I1,r1,q1⟩=>?_;refine thn (hb pins s1 σ H1 _ I1 q1) fun u O ⟨y,H2,J,r2,q2⟩=>?_;exact hf v u O x y H2 J r1 r2 q2
theorem Ah{Y:Operator}{r:R2}(ho:OpR X (bo Y) r)(ha:PE X a ta)(hb:PE X b tb):PE X (.BinOp a Y b pos) (tOp r ta tb):=by
 intro pins s σ H Q I h;exact wpAny_BinOp (Qi ha hb I h fun v u s2 x y H2 J W O q=>ho pins s2 σ H2 x y v u Q J W O q)
theorem E5{Y:UnaryOp}{r:V->Hp->VK->Prop}(ho:UnR X (unaryOp Y) r)(W:PE X a ta):PE X (.UnaryOp Y a pos) (tUn r ta):=by
 intro pins s σ H Q I h;exact UnaryOp_ (thn (W pins s σ H _ I h) fun v s1 ⟨x,H1,O,r1,J⟩=>ho pins s1 σ H1 x v Q O r1 J)
theorem opI{f:ac->ac->Sem ac}{C:Int->Int->Prop}{g:Int->Int->Int}
 (Y:∀(i j:Int) (t u:Tok) (s:ae) (Q:ac->ae->Prop) (E:ac->ae->Prop),C i j->Q (.int (g i j) s.toks) { s with toks:=s.toks+1 }->am (ao X.prog X.w) X.A (f (.int i t) (.int j u)) Q E s) :
 OpR X f (rI C fun i j=>.int (g i j)):=by
 intro pins s σ H x y v u Q I W O h;obtain⟨i,j,rfl,rfl,J,q⟩:=h;obtain⟨t,rfl⟩:=W;obtain⟨t',rfl⟩:=O;exact Y i j t t' s _ _ J ⟨.int (g i j),H,I.tok _,⟨_,Z⟩,q⟩
theorem QJ{f:ac->ac->Sem ac}{g:Int->Int->Int}
 (Y:∀(i j:Int) (t u:Tok) (s:ae) (Q:ac->ae->Prop) (E:ac->ae->Prop),Q (.int (g i j) s.toks) { s with toks:=s.toks+1 }->am (ao X.prog X.w) X.A (f (.int i t) (.int j u)) Q E s) :
 OpR X f (rI0 fun i j=>.int (g i j)):=by
 intro pins s σ H x y v u Q I W O h;obtain⟨i,j,rfl,rfl,q⟩:=h;obtain⟨t,rfl⟩:=W;obtain⟨t',rfl⟩:=O;exact Y i j t t' s _ _ ⟨.int (g i j),H,I.tok _,⟨_,Z⟩,q⟩
theorem PF{f:ac->ac->Sem ac}{g:Int->Int->Bool}
 (Y:∀(i j:Int) (t u:Tok) (s:ae) (Q:ac->ae->Prop) (E:ac->ae->Prop),Q (.bool (g i j)) s->am (ao X.prog X.w) X.A (f (.int i t) (.int j u)) Q E s) :
 OpR X f (rI0 fun i j=>.bl (g i j)):=by
 intro pins s σ H x y v u Q I W O h;obtain⟨i,j,rfl,rfl,q⟩:=h;obtain⟨t,rfl⟩:=W;obtain⟨t',rfl⟩:=O;exact Y i j t t' s _ _ ⟨.bl (g i j),H,I,Z,q⟩
def Jc(i j:Int):Prop:=0<=j/\j<=1000000/\i.natAbs<2 ^ 64
theorem AF:OpR X (bo .Add) (rI0 fun i j=>.int (i+j)):=QJ fun _ _ _ _ _ _ _ q=>add_int q
theorem AS:OpR X (bo .Sub) (rI0 fun i j=>.int (i-j)):=QJ fun _ _ _ _ _ _ _ q=>sub_int q
theorem CC:OpR X (bo .Mod) (rI (fun _ j=>0<j) fun i j=>.int (i % j)):=opI fun i j _ _ _ _ _ Y q=>by
 have h1:(0:Int)<j:=Y;exact mod_int' (by lia) (by rw[Int.fmod_eq_emod_of_nonneg i (by lia)];exact q)
theorem FJ:OpR X (bo .Pow) (rI Jc fun i j=>.int (i ^ j.toNat)):=opI fun _ _ _ _ _ _ _ Y q=>pow_int_small Y.1 Y.2.1 Y.2.2 q
theorem unI{f:ac->Sem ac}{g:Int->Int}
 (Y:∀(i:Int) (t:Tok) (s:ae) (Q:ac->ae->Prop) (E:ac->ae->Prop),Q (.int (g i) s.toks) { s with toks:=s.toks+1 }->am (ao X.prog X.w) X.A (f (.int i t)) Q E s) :
 UnR X f (rU fun i=>.int (g i)):=by
 intro pins s σ H x v Q I W h;obtain⟨i,rfl,q⟩:=h;obtain⟨t,rfl⟩:=W;exact Y i t s _ _ ⟨.int (g i),H,I.tok _,⟨_,Z⟩,q⟩
theorem CP:UnR X (unaryOp .USub) (rU fun i=>.int (-i)):=unI fun _ _ _ _ _ q=>neg_int q
end
def QA:V->V->Bool
 | .non,.non=>true | .non,.int _=>true | .int _,.non=>true | .non,.bl _=>true | .bl _,.non=>true | .non,.str _=>true | .str _,.non=>true
 | .int _,.int _=>true | .bl _,.bl _=>true | .str _,.str _=>true | .byt _,.byt _=>true
 | .int _,.str _=>true | .str _,.int _=>true | .bl _,.str _=>true | .str _,.bl _=>true
 | _,_=>false
def rEq:R2:=fun x y H Q=>QA x y=true/\Q (.bl (decide (x=y))) H
def rNe:R2:=fun x y H Q=>QA x y=true/\Q (.bl (!decide (x=y))) H
theorem LB{i j:Int}:decide (V.int i=V.int j)=(i == j):=by
 rw[Bool.eq_iff_iff];simp
theorem Nv{i j:Bool}:decide (V.bl i=V.bl j)=(i == j):=by
 rw[Bool.eq_iff_iff];simp
theorem LA{i j:Str}:decide (V.str i=V.str j)=(i == j):=by
 rw[Bool.eq_iff_iff];simp
theorem LC{i j:Array UInt8}:decide (V.byt i=V.byt j)=(i.toList == j.toList):=by
 rw[Bool.eq_iff_iff];cases i;cases j;simp
section
variable {X:Cx}{a b c:Expr}{ta tb tc:TE}{pos:Pos}
theorem AQ{pins:List (aa×Obj)}{σ:St}{H:Hp}{s:ae}{Q:VK}{k Y:Bool}(I:Inv X pins σ H s)(q:Q (.bl k) H)(e:k=Y):EP X pins σ Q (.bool Y) s:=by
 subst e;exact⟨.bl k,H,I,Z,q⟩
theorem Ex:OpR X (aH .Eq) rEq:=by
 intro pins s σ H x y v u Q I O Y h;obtain⟨hs,q⟩:=h;cases x with
 | non =>
   cases O;cases y with
   | non=>cases Y;exact PySem.EqNone.eq_none_none (AQ I q (by simp))
   | bl j=>cases Y;exact PySem.EqNone.eq_none_bool (AQ I q (by simp))
   | int j=>obtain⟨t',rfl⟩:=Y;exact PySem.EqNone.eq_none_int (AQ I q (by simp))
   | str j=>obtain⟨t',rfl⟩:=Y;exact PySem.EqNone.eq_none_str (AQ I q (by simp))
   | _=>exact absurd (show false=true from hs) Bool.false_ne_true
 | bl i =>
   cases O;cases y with
   | non=>cases Y;exact PySem.EqNone.eq_bool_none (AQ I q (by simp))
   | bl j=>cases Y;exact eq_bool (AQ I q Nv)
   | str j=>obtain⟨t',rfl⟩:=Y;exact PySem.EqMixed.eq_bool_str (AQ I q (by simp))
   | _=>exact absurd (show false=true from hs) Bool.false_ne_true
 | int i =>
   obtain⟨t,rfl⟩:=O;cases y with
   | non=>cases Y;exact PySem.EqNone.eq_int_none (AQ I q (by simp))
   | int j=>obtain⟨t',rfl⟩:=Y;exact eq_int (AQ I q LB)
   | str j=>obtain⟨t',rfl⟩:=Y;exact PySem.EqMixed.eq_int_str (AQ I q (by simp))
   | _=>exact absurd (show false=true from hs) Bool.false_ne_true
 | str i =>
   obtain⟨t,rfl⟩:=O;cases y with
   | non=>cases Y;exact PySem.EqNone.eq_str_none (AQ I q (by simp))
   | bl j=>cases Y;exact PySem.EqMixed.eq_str_bool (AQ I q (by simp))
   | int j=>obtain⟨t',rfl⟩:=Y;exact PySem.EqMixed.eq_str_int (AQ I q (by simp))
   | str j=>obtain⟨t',rfl⟩:=Y;exact eq_str (AQ I q LA)
   | _=>exact absurd (show false=true from hs) Bool.false_ne_true
 | byt i =>
   obtain⟨t,rfl⟩:=O;cases y with
   | byt j=>obtain⟨t',rfl⟩:=Y;exact PySem.W.eq_bytes (AQ I q LC)
   | _=>exact absurd (show false=true from hs) Bool.false_ne_true
 | _=>cases y<;>exact absurd (show false=true from hs) Bool.false_ne_true
theorem E8:OpR X (aH .NotEq) rNe:=by
 intro pins s σ H x y v u Q I O Y h;obtain⟨hs,q⟩:=h;cases x with
 | non =>
   cases O;cases y with
   | non=>cases Y;exact PySem.EqNone.ne_none_none (AQ I q (by simp))
   | bl j=>cases Y;exact PySem.EqNone.ne_none_bool (AQ I q (by simp))
   | int j=>obtain⟨t',rfl⟩:=Y;exact PySem.EqNone.ne_none_int (AQ I q (by simp))
   | str j=>obtain⟨t',rfl⟩:=Y;exact PySem.EqNone.ne_none_str (AQ I q (by simp))
   | _=>exact absurd (show false=true from hs) Bool.false_ne_true
 | bl i =>
   cases O;cases y with
   | non=>cases Y;exact PySem.EqNone.ne_bool_none (AQ I q (by simp))
   | bl j=>cases Y;exact ne_bool (AQ I q (congrArg not Nv))
   | str j=>obtain⟨t',rfl⟩:=Y;exact PySem.EqMixed.ne_bool_str (AQ I q (by simp))
   | _=>exact absurd (show false=true from hs) Bool.false_ne_true
 | int i =>
   obtain⟨t,rfl⟩:=O;cases y with
   | non=>cases Y;exact PySem.EqNone.ne_int_none (AQ I q (by simp))
   | int j=>obtain⟨t',rfl⟩:=Y;exact ne_int (AQ I q (congrArg not LB))
   | str j=>obtain⟨t',rfl⟩:=Y;exact PySem.EqMixed.ne_int_str (AQ I q (by simp))
   | _=>exact absurd (show false=true from hs) Bool.false_ne_true
 | str i =>
   obtain⟨t,rfl⟩:=O;cases y with
   | non=>cases Y;exact PySem.EqNone.ne_str_none (AQ I q (by simp))
   | bl j=>cases Y;exact PySem.EqMixed.ne_str_bool (AQ I q (by simp))
   | int j=>obtain⟨t',rfl⟩:=Y;exact PySem.EqMixed.ne_str_int (AQ I q (by simp))
   | str j=>obtain⟨t',rfl⟩:=Y;exact ne_str (AQ I q (congrArg not LA))
   | _=>exact absurd (show false=true from hs) Bool.false_ne_true
 | byt i =>
   obtain⟨t,rfl⟩:=O;cases y with
   | byt j=>obtain⟨t',rfl⟩:=Y;exact PySem.W.ne_bytes (AQ I q (congrArg not LC))
   | _=>exact absurd (show false=true from hs) Bool.false_ne_true
 | _=>cases y<;>exact absurd (show false=true from hs) Bool.false_ne_true
theorem E9:OpR X (aH .Lt) (rI0 fun i j=>.bl (decide (i<j))):=PF fun _ _ _ _ _ _ _ q=>lt_int q
theorem D4:OpR X (aH .Gt) (rI0 fun i j=>.bl (decide (j<i))):=PF fun _ _ _ _ _ _ _ q=>gt_int q
theorem Lf:OpR X (aH .GtE) (rI0 fun i j=>.bl (decide (j<=i))):=PF fun _ _ _ _ _ _ _ q=>ge_int q
theorem Py:OpR X (aH .Is) (fun x y H Q=>y = .non/\Q (.bl (decide (x = .non))) H):=by
 intro pins s σ H x y v u Q I Y W h;obtain⟨rfl,q⟩:=h;cases W;refine is_none_gen (AQ I q ?_)
 cases x<;>first
  | (cases Y;rfl)
  | (obtain⟨t,rfl⟩:=Y;rfl)
theorem As(b:Expr){Y:CmpOp}(h:Y ≠ .In:=by decide)(h2:Y ≠ .NotIn:=by decide):bO Y b=false:=by
 have e1:(Y == CmpOp.In)=false:=by cases Y<;>first | rfl | exact absurd rfl h
 have W:(Y == CmpOp.NotIn)=false:=by cases Y<;>first | rfl | exact absurd rfl h2
 cases b<;>simp[bO,e1,W]
theorem DI{Y:CmpOp}{r:R2}(ho:OpR X (aH Y) r)(ha:PE X a ta)(hb:PE X b tb)(hm:bO Y b=false):PE X (.Compare a [Y] [b] pos) (tOp r ta tb):=by
 intro pins s σ H Q I h;exact wpAny_Compare1 (Qi ha hb I h fun v u s2 x y H2 J W O q=>ho pins s2 σ H2 x y v u Q J W O q) hm
def Qs(t:TE):TT:=fun σ H Q=>t σ H fun x H'=>∃k,x = .bl k/\Q k H'
theorem Ap{Y:CmpOp}{r:R2}(ho:OpR X (aH Y) r)(J:PE X a ta)(hb:PE X b tb)(hm:bO Y b=false):PT X (.Compare a [Y] [b] pos) (Qs (tOp r ta tb)):=by
 intro pins s σ H Q I h
 refine wpAny_isTrue_Compare1 (thn (J pins s σ H _ I h) fun v s1 ⟨x,H1,I1,r1,q1⟩=>thn (hb pins s1 σ H1 _ I1 q1) fun u s2 ⟨y,H2,O,r2,q2⟩ =>
  thn (ho pins s2 σ H2 x y v u _ O r1 r2 q2) fun c s3 ⟨z,H3,I3,r3,k,e,W⟩=>?_) hm
 subst e;cases r3;exact bI ⟨H3,I3,W⟩
theorem IY:(af:Nat)<2 ^ 63:=by rw[aJ];decide
theorem ER{x:V}{us:List ac}(r:AI [x] us):∃u,us=[u]/\AR x u:=by
 cases r with
 | cons r1 r2=>cases r2;exact⟨_,Z,r1⟩
theorem Mr{x y:V}{us:List ac}(r:AI [x,y] us):∃u Y,us=[u,Y]/\AR x u/\AR y Y:=by
 cases r with
 | cons r1 r2 =>
   cases r2 with
   | cons r3 r4=>cases r4;exact⟨_,_,Z,r1,r3⟩
theorem Fu:CV X (.builtin "abs") (fun xs H Q=>∃i,xs=[.int i]/\Q (.int (if i<0 then -i else i)) H):=by
 intro pins s σ H xs us Q I r h;obtain⟨i,rfl,q⟩:=h;obtain⟨u,rfl,t,rfl⟩:=ER r;exact call_abs_int fun u tk=>⟨.int (if i<0 then -i else i),H,I.tok _,⟨_,Z⟩,q⟩
theorem Eo:CV X (.type "int") (fun xs H Q=>(∃i,xs=[.int i]/\Q (.int i) H)\/∃k,xs=[.bl k]/\Q (.int (if k then 1 else 0)) H):=by
 intro pins s σ H xs us Q I r h
 rcases h with ⟨i,rfl,q⟩ | ⟨k,rfl,q⟩
 ·obtain⟨u,rfl,t,rfl⟩:=ER r;exact call_int_int ⟨.int i,H,I,⟨_,Z⟩,q⟩
 ·obtain⟨u,rfl,r1⟩:=ER r;cases r1;exact call_int_bool ⟨.int (if k then 1 else 0),H,I.tok _,⟨_,Z⟩,q⟩
end
structure ObjM(h:au)(x dx C:aa)(mA:Str->Option ac):Prop where
 obj:h.get? x=some (PySem.W.instObj C dx)
 ns:h.Ns1 dx mA
 ne:dx≠x
section
variable {prog:ai}{w:ar}{A:aw}{E:ac->ae->Prop}{s:ae}{K:U5}{x dx C f:aa}{mA:Str->Option ac}{name:Str}{v:ac}
end
section
variable {P:ai}{w:ar}{H H':Hp}{h h':au}{a C dx:aa}{fs fs':List (Str×V)}
end
structure Cls(K:U5)(C:aa):Prop where
 pg:PySem.W.plainGet K C Str.empty=true
 hd:PySem.W.hasDictIn K C=true
 po:PySem.W.plainOver K C=true
 sa:Uq K (.ref C) "__setattr__" = some (some (.builtin "object.__setattr__"))
structure Con(K:U5)(C:aa)(f:Str)(v:V)(u:ac):Prop where
 at_:Uq K (.ref C) f=some (some u)
 rel:AR v u
 get:Ur K u "__get__" = some none
 cp:PySem.W.copiedNames.contains f=false
structure Meth(K:U5)(C:aa)(m:Str)(f:aa):Prop where
 at_:Uq K (.ref C) m=some (some (.ref f))
 fn:PySem.W.isFn K (.ref f)=true
 kp:Us K (.ref f)=true
section
variable {X:Cx}{pins:List (aa×Obj)}{σ:St}{H:Hp}{s:ae}{a C dx:aa}{fs:List (Str×V)}{f:Str}{v:V}{A:aw}{E:ac->ae->Prop}
end
section
variable {X:Cx}{o e value:Expr}{f:Str}{pos pos' tpos:Pos}{ta tv:TE}
end
section
variable {X:Cx}{pins:List (aa×Obj)}{σ:St}{H:Hp}{s:ae}{A:aw}{E:ac->ae->Prop}{Q:ac->ae->Prop}{c:ac}{b:Bool}
inductive Gm(K:U5)(H:Hp):V->ac->Prop where
 | non:Gm K H .non (.type "NoneType")
 | bl (x:Bool):Gm K H (.bl x) (.type "bool")
 | int (i:Int):Gm K H (.int i) (.type "int")
 | str (x:Str):Gm K H (.str x) (.type "str")
 | flt (x:UInt64):Gm K H (.flt x) (.type "float")
 | lst {a:aa} {xs:List V} (e:H a=some (.lst xs)):Gm K H (.ref a) (.type "list")
 | frz {a:aa} {o:Obj} {xs:List V} (e:H a=some (.frz o (.lst xs))):Gm K H (.ref a) (.type "list")
 | tup {a:aa} {xs:List V} (e:H a=some (.tup xs)):Gm K H (.ref a) (.type "tuple")
 | dK {a:aa} {kvs:List (Key×V)} (e:H a=some (.dK kvs)):Gm K H (.ref a) (.type "dict")
 | dT {a:aa} {kvs:List (List Key×V)} (e:H a=some (.dT kvs)):Gm K H (.ref a) (.type "dict")
 | ins {a C dx:aa} {fs:List (Str×V)} (e:H a=some (.ins C dx fs)) (cl:Cls K C) (ha:Uq K (.ref C) "__class__" = some (some (.builtin "object.__class__")))
  (hn:Ur K (.builtin "object.__class__") "__get__" = some (some (.builtin "getset_descriptor.__get__"))) (htk:PySem.W.takesIn K (.builtin "object.__class__")=some true)
  (hm:Ut K C (.type "object")=some true):Gm K H (.ref a) (.ref C)
end
structure BM(k:Nat)(A:aw):Prop where
 hd:A.handled=none
 dp:A.depth+3*k+5<recursionLimit
 un:A.units+16*k+200<cLine
theorem BM.mono{j k:Nat}{A:aw}(r:BM k A)(h:j<=k):BM j A:=⟨r.hd,by have:=r.dp;lia,by have:=r.un;lia⟩
theorem BM.deeper{k:Nat}{A:aw}(r:BM (k+1) A)(env:Env):BM k (A.deeper env) :=
 ⟨r.hd,by have:=r.dp;show A.depth+1+3*k+5<_;lia,by have:=r.un;show A.units+3+16*k+200<_;lia⟩
theorem BM.in1{k:Nat}{A:aw}(r:BM (k+1) A):BM k A.in1 :=
 ⟨r.hd,by have:=r.dp;show A.depth+3*k+5<_;lia,by have:=r.un;show A.units+1+16*k+200<_;lia⟩
theorem BM.depth{k:Nat}{A:aw}(r:BM k A):A.depth<recursionLimit:=by have:=r.dp;lia
theorem BM.units{k:Nat}{A:aw}(r:BM k A):A.units+64<cLine:=by have:=r.un;lia
def Qv:TA:=fun _ H Q=>Q [] H
def OL(ta:TE)(tr:TA):TA:=fun σ H Q=>ta σ H fun x H1=>tr σ H1 fun xs H2=>Q (x::xs) H2
section
variable {X:Cx}{e:Expr}{es:List Expr}{te:TE}{t:TA}{pos:Pos}
theorem Ab:PA X [] Qv:=fun _ _ _ _ H Q I h=>Calls.spliced_nil ⟨[],H,I,.nil,h⟩
theorem A0(ha:PE X e te)(W:PA X es t)(hs:aq (e::es) X.env=(false,aD e X.env)::aq es X.env:=by rfl):PA X (e::es) (OL te t):=by
 intro pos pins s σ H Q I h;rw[hs];show am _ _ (spliced ((false,aD e X.env)::aN pos (aq es X.env))) _ _ s;refine Calls.spliced_cons (thn (ha pins s σ H _ I h) fun u s1 ⟨x,H1,O,r1,J⟩=>?_);exact thn (W pos pins s1 σ H1 _ O J) fun us s2 ⟨xs,H2,Y,r2,q2⟩=>⟨x::xs,H2,Y,.cons r1 r2,q2⟩
def Rl(t:TA):TE:=fun σ H Q=>t σ H fun xs H1=>xs.length<=af/\∀p,H1 p=none->Q (.ref p) (upd H1 p (.tup xs))
def Rp(t:TA):TE:=fun σ H Q=>t σ H fun xs H1=>xs.length<=af/\∀p,H1 p=none->Q (.ref p) (upd H1 p (.lst xs))
theorem AL{x1}(h:PA X es t):PE X (.Tuple es x1 pos) (Rl t):=by
 intro pins s σ H Q I J;refine wpAny_Tuple_spliced (thn (h pos pins s σ H _ I J) fun us Y ⟨xs,H1,W,r,z,q⟩=>⟨by rw[<- r.length];exact z,?_⟩)
 have O:H1 Y.heap.objs.size=none:=W.hok.fresh (Uk _);refine⟨.ref Y.heap.objs.size,upd H1 Y.heap.objs.size (.tup xs),W.laid (t':=Y.toks) (fun b u e=>Heap.get?_push_of_some _ e) (Uk _) ?_,Z,q _ O⟩;exact⟨z,us,r,⟨_,Heap.get?_push_size _ rfl,Z,_,Z⟩⟩
theorem AE(h:PA X es t):PE X (.List es pos) (Rp t):=by
 intro pins s σ H Q I J;refine wpAny_List_spliced (thn (h pos pins s σ H _ I J) fun us Y ⟨xs,H1,W,r,z,q⟩=>⟨by rw[<- r.length];exact z,?_⟩)
 have O:H1 Y.heap.objs.size=none:=W.hok.fresh (Uk _);refine⟨.ref Y.heap.objs.size,upd H1 Y.heap.objs.size (.lst xs),W.laid (t':=Y.toks) (fun b u e=>Heap.get?_push_of_some _ e) (Uk _) ?_,Z,q _ O⟩;exact⟨z,us,0,r,Heap.get?_push_size _ rfl⟩
end
abbrev Sp:=List V->Hp->VK->XK->Prop
abbrev CXT:=List Env->Hp->ae->XK->ac->ae->Prop
structure K1(P:ai)(w:ar)(K:U5)(mg:Str->Option ac)(base:au)(A:aw)(outer:List Env)(s:ae)(H:Hp):Prop where
 frames:A.frames=some outer
 mod:Mod K mg base
 bs:∀b o,base.get? b=some o->s.heap.get? b=some o/\H b=none
 bsz:base.objs.size<=s.heap.objs.size
 funs:s.heap.FunFrames base outer
 frf:∀b∈frs outer,H b=none
 hok:HOk P w H s.heap
 bare:aW s.gens
def CE(outer:List Env)(P:ai)(w:ar)(H:Hp)(s:ae)(Q:VK)(u:ac)(s':ae):Prop :=
 ∃v H',s'.os=s.os/\aW s'.gens/\Un (frs outer) [] H H' s.heap s'.heap/\HOk P w H' s'.heap/\AR v u/\Q v H'
def CR(CX:CXT)(outer:List Env)(P:ai)(w:ar)(H:Hp)(s:ae)(Q:VK)(E:XK)(r:Result)(s':ae):Prop :=
 match r with
 | .ok (.ret u)=>CE outer P w H s Q u s'
 | .ok _=>False
 | .error e=>CX outer H s E e s'
structure Ay(P:ai)(w:ar)(K:U5)(mg:Str->Option ac)(base:au)(CX:CXT)(k:Nat)(f:aa)(fd:ag)(ps:List Str)(sp:Sp):Prop where
 len:∀vs H Q E,sp vs H Q E->vs.length=ps.length
 run:∀(A:aw) (outer:List Env) (s:ae) (H:Hp) (args:Args) (us:List ac) (vs:List V) (Q:VK) (E:XK),BM k A->K1 P w K mg base A outer s H->BindsTo s fd args (ps.zip us)->AI vs us->sp vs H Q E ->
  aR (ao P w) A (.call (.ref f) args) (CR CX outer P w H s Q E) s
section
variable {X:Cx}{pins:List (aa×Obj)}{σ:St}{H:Hp}{s s':ae}
theorem Inv.env0(I:Inv X pins σ H s):K1 X.prog X.w X.K X.mg X.base X.A X.stack s H :=
 ⟨I.ok.frames,I.ok.mod,I.bs,U6 I.ok.bsz I.sz,I.stack,I.stkFree,I.hok,I.bare⟩
theorem Inv.after{Q:VK}{u:ac}(I:Inv X pins σ H s)(h:CE X.stack X.prog X.w H s Q u s'):EP X pins σ Q u s':=by
 obtain⟨v,H',J,Y,un,O,r,q⟩:=h;obtain⟨hh,g,d,t,W⟩:=s';obtain rfl:W=s.os:=J;exact⟨v,H',I.call (h':=hh) (g':=g) (d':=d) (t':=t) (ch:=[]) un O Y (fun b z=>absurd z (by simp)),r,q⟩
end
def KS(sp:Sp)(dvs:List V)(E:XK)(t:TA):TE:=fun σ H Q=>t σ H fun vs H1=>sp (vs++dvs) H1 Q E
def Bv(K:U5)(fd:ag)(ps:List Str)(ds:List ac):Prop :=
 ∀(s:ae) (us:List ac),K.In s.heap->(us++ds).length=ps.length->BindsTo s fd ⟨us,[]⟩ (ps.zip (us++ds))
theorem Bv.all{K:U5}{fd:ag}{ps:List Str}(h:∀us:List ac,us.length=ps.length->aT fd ⟨us,[]⟩=pure (ps.zip us)):Bv K fd ps []:=fun s us _ Y=>by
 rw[Uu]at Y ⊢;exact .of_eq (h us Y)
def EL(CX:CXT)(X:Cx)(E:XK):Prop:=∀(pins:List (aa×Obj)) (σ:St) (H:Hp) (s:ae) (e:ac) (s':ae),Inv X pins σ H s->CX X.stack H s E e s'->X.xe e s'
section
variable {X:Cx}{CX:CXT}{k:Nat}{f C:aa}{fd:ag}{ps:List Str}{sp:Sp}{dvs:List V}{ds:List ac}{E:XK}{x m:Str}{p pos apos:Pos}{e o:Expr}{es:List Expr}{ta:TE}{t:TA}
theorem Pa{pins:List (aa×Obj)}{σ:St}{H:Hp}{s:ae}{Q:VK}{us:List ac}{vs:List V}(F:Ay X.prog X.w X.K X.mg X.base CX k f fd ps sp)(W:BM k X.A)(hb:Bv X.K fd ps ds)(hd:AI dvs ds)(J:EL CX X E)
 (I:Inv X pins σ H s) (r:AI vs us) (h:sp (vs++dvs) H Q E):am (ao X.prog X.w) X.A (call (.ref f) us) (EP X pins σ Q) X.xe s:=by
 have r2:AI (vs++dvs) (us++ds):=r.append hd;have O:(us++ds).length=ps.length:=by rw[<- r2.length];exact F.len _ _ _ _ h
 refine wpAny_call (aK (F.run X.A X.stack s H ⟨us,[]⟩ (us++ds) (vs++dvs) Q E W I.env0 (hb s us I.kIn O) r2 h) fun r s' Y=>?_);cases r with
 | error e=>exact J pins σ H s e s' I Y
 | ok fl =>
   cases fl with
   | ret u=>exact I.after Y
   | next=>exact False.elim Y
   | brk=>exact False.elim Y
   | cont=>exact False.elim Y
theorem II(F:Ay X.prog X.w X.K X.mg X.base CX k f fd ps sp)(hr:BM k X.A)(hg:Gl X x)(hm:X.mg x=some (.ref f))(hk:Us X.K (.ref f)=true)(hb:Bv X.K fd ps ds)(hd:AI dvs ds)(hx:EL CX X E)
 (ha:PA X (e::es) t) (O:(x == ("__debug__" : Str))=false:=by decide) (he:aq (e::es) X.env=(false,aD e X.env)::aq es X.env:=by rfl) (Y:(aN pos (aq es X.env)).any (·.1)=false:=by rfl) :
 PE X (.Call (.Name x p) (e::es) [] pos) (KS sp dvs E t):=by
 intro pins s σ H Q I h;refine aG (Fl I hg hm ?_ O);refine PySem.W.callWith_K (h₀:=X.base) I.ok.mod.kin hk (thn (ha pos pins s σ H _ I h) fun us s1 ⟨vs,H1,J,r,q⟩=>⟨J.kIn,?_⟩) he Y;exact Pa F hr hb hd hx J r q
structure Mk(K:U5)(C f:aa):Prop where
 makes:PySem.W.makesIn K C=true
 init:Uq K (.ref C) "__init__" = some (some (.ref f))
 fn:PySem.W.isFn K (.ref f)=true
 kp:Us K (.ref C)=true
end
section
variable {X:Cx}{CX:CXT}{k:Nat}{f C:aa}{fd:ag}{ps ks:List Str}{sp:Sp}{E:XK}{x m:Str}{p pos apos kpos:Pos}{e o:Expr}{es:List Expr}{kws:List bK}{te ta:TE}{t tk:TA}{nm:Option Str}
structure RE(K:U5)(fd:ag)(ps ks:List Str)(g:List ac->List ac->List ac)(gV:List V->List V->List V):Prop where
 to:∀(s:ae) (us ws:List ac),K.In s.heap->(g us ws).length=ps.length->BindsTo s fd ⟨us,ks.zip ws⟩ (ps.zip (g us ws))
 rel:∀{vs:List V} {us:List ac} {zs:List V} {ws:List ac},AI vs us->AI zs ws->AI (gV vs zs) (g us ws)
variable {g:List ac->List ac->List ac}{gV:List V->List V->List V}
end
structure Ao(N P:List Str)(sc:aB):Prop where
 kind:sc.kind = .function
 co:sc.isCoroutine=false
 gen:sc.isGenerator=false
 nd:N.Nodup
 pre:N.take P.length=P
 par:∀x∈P,sc.names.lookup x=some .local\/sc.names.lookup x=some .cell
 nofree:∀y∈sc.names,y.2 ≠ .free
theorem Ic{W:Str->Option bS}{x:Str}:∀{Y:List (Str×ac)} {m:Str->Option ac},(∀v,(x,v)∉Y)->bindL W Y m x=m x
 | [],_,_=>rfl
 | (n,v)::r,m,h=>by
   unfold bindL;rw[Ic fun w hw=>h w (Ua _ hw)]
   split
   ·have:x≠n:=by rintro rfl;exact h v U9
    simp[this]
   ·rfl
theorem Ig{W:Str->Option bS}{x:Str}:∀{Y:List (Str×ac)} {m:Str->Option ac},(∀v,(x,v)∉Y)->bindC W Y m x=m x
 | [],_,_=>rfl
 | (n,v)::r,m,h=>by
   unfold bindC;rw[Ig fun w hw=>h w (Ua _ hw)]
   split
   ·rfl
   ·have:x≠n:=by rintro rfl;exact h v U9
    simp[this]
theorem Ie{kindOf:Str->Option bS}{x:Str}{v:ac}:∀{P:List Str} {vs:List ac} {i:Nat} {m:Str->Option ac},P.Nodup->P[i]? = some x->vs[i]? = some v->kindOf x=some .local ->
 bindL kindOf (P.zip vs) m x=some v
 | [],_,_,_,_,h,_,_=>by simp at h
 | _::_,[],_,_,_,_,h,_=>by simp at h
 | p::P,w::vs,0,m,nd,h1,h2,hk=>by
   simp at h1 h2;subst h1;subst h2;show bindL kindOf ((p,w)::P.zip vs) m p=_;unfold bindL;rw[Ic fun v hv=>(Uv.mp nd).1 (Uw hv).1,if_pos hk];simp
 | p::P,w::vs,i+1,m,nd,h1,h2,hk=>by
   show bindL kindOf ((p,w)::P.zip vs) m x=_;unfold bindL;exact Ie (i:=i) (Uv.mp nd).2 (by simpa using h1) (by simpa using h2) hk
theorem Ih{kindOf:Str->Option bS}{x:Str}{v:ac}:∀{P:List Str} {vs:List ac} {i:Nat} {m:Str->Option ac},P.Nodup->P[i]? = some x->vs[i]? = some v->kindOf x≠some .local ->
 bindC kindOf (P.zip vs) m x=some v
 | [],_,_,_,_,h,_,_=>by simp at h
 | _::_,[],_,_,_,_,h,_=>by simp at h
 | p::P,w::vs,0,m,nd,h1,h2,hk=>by
   simp at h1 h2;subst h1;subst h2;show bindC kindOf ((p,w)::P.zip vs) m p=_;unfold bindC;rw[Ig fun v hv=>(Uv.mp nd).1 (Uw hv).1,if_neg hk];simp
 | p::P,w::vs,i+1,m,nd,h1,h2,hk=>by
   show bindC kindOf ((p,w)::P.zip vs) m x=_;unfold bindC;exact Ih (i:=i) (Uv.mp nd).2 (by simpa using h1) (by simpa using h2) hk
def Et(N:List Str)(vs:List V):St:=vs.map some++Ux (N.length-vs.length) none
def Ft(CX:CXT)(P:ai)(w:ar)(K:U5)(mg:Str->Option ac)(base:au)(N:List Str)(qual:Str)(scope:aB)(f:aa)(cd:ac)(A:aw)(outer:List Env)(s:ae)(H:Hp)(E:XK):Cx where
 prog:=P
 w:=w
 K:=K
 mg:=mg
 base:=base
 A:=A.deeper (envOfC qual scope s.heap.objs.size f cd)
 N:=N
 s₀:=s
 H₀:=H
 env:=envOfC qual scope s.heap.objs.size f cd
 outer:=outer
 stack:=envOfC qual scope s.heap.objs.size f cd::outer
 ex:=[]
 calm:=true
 fn:=fun _=>true
 pn:=[]
 xe:=fun e s'=>am (ao P w) (A.deeper (envOfC qual scope s.heap.objs.size f cd)) (leaving (envOfC qual scope s.heap.objs.size f cd) e) (fun _ s''=>CX outer H s E e s'') (fun e' s''=>CX outer H s E e' s'') s'
theorem JU{sc:aB}{n:Nat}{x:Str}(h:sc.names.lookup x=some .cell):∃c,(cellsFrom n sc.names []).lookup x=some c:=by
 have q:=PySem.W.cellsFrom_some sc.names n [] (.inl h);exact Option.isSome_iff_exists.mp q
theorem Mg{CX:CXT}{P:ai}{w:ar}{K:U5}{mg:Str->Option ac}{base:au}{N ps:List Str}{qual:Str}{scope:aB}{f:aa}{cd:ac}{A:aw}{outer:List Env}{s s1:ae}{H:Hp}{E:XK}{us:List ac}{vs:List V}
 (S:Ao N ps scope) (hd:A.handled=none) (Y:K1 P w K mg base A outer s H) (hl:vs.length=ps.length) (r:AI vs us)
 (x:InCallC s s.heap.objs.size (bindL (envOfC qual scope s.heap.objs.size f cd).kindOf (ps.zip us) fun _=>none) (cellsFrom (s.heap.objs.size+1) scope.names []) (bindC (envOfC qual scope s.heap.objs.size f cd).kindOf (ps.zip us) fun _=>none) s1) :
 Inv (Ft CX P w K mg base N qual scope f cd A outer s H E) [] (Et N vs) H s1:=by
 have ak:ps.length<=N.length:=by have:=congrArg List.length S.pre;rw[Uy]at this;lia
 obtain⟨h1,tk,rfl,hk⟩:=x.done;have W:∀b:aa,b∉(Ft CX P w K mg base N qual scope f cd A outer s H E).ex:=fun b z=>absurd (show b∈([]:List aa) from z) (by simp)
 refine⟨⟨Y.mod,S.kind,Z,Z,Uk _,fun y z c h1 h2=>?_,fun y O=>?_,fun y c _ h=>?_,fun _=>hd,Around.frames_deeper Y.frames,.inr ⟨Z,Z⟩,fun b z=>absurd z (W b),Y.bs,Y.bsz,fun b _ _=>W b,fun b z=>absurd z (W b),Y.funs,Y.frf⟩,
  rfl,Y.bare,Un.kept hk,⟨_,x.toInCall.ns,fun i y v h1 h2 h3=>?_⟩,fun y c h=>⟨_,x.cell y c h⟩,Y.hok.fresh (Uk _),fun y c h=>?_,fun p hp=>absurd (show p∈([]:List (aa×Obj)) from hp) (by simp),Y.hok.kept hk,?_⟩
 ·exact name_of_addr x.apart (PySem.mem_of_lookup h1) (PySem.mem_of_lookup h2)
 ·have O:scope.names.lookup y=some .cell\/scope.names.lookup y=some .free:=O
  rcases O with O | O
  ·exact JU O
  ·exact absurd rfl (S.nofree _ (PySem.mem_of_lookup O))
 ·exact U7 (x.above y c (PySem.mem_of_lookup h))
 ·have hi:i<vs.length:=by
   unfold Et at h2;by_cases hi:i<vs.length
   ·exact hi
   ·rw[Uz (by simpa using hi)]at h2
    rw[UA]at h2
    split at h2<;>cases h2
  have ha:vs[i]? = some v:=by
   unfold Et at h2;rw[UB (by simpa using hi),UC]at h2
   cases e:vs[i]? with
   | none=>rw[e]at h2;cases h2
   | some a=>rw[e]at h2;cases h2;rfl
  obtain⟨u,hu,rv⟩:=r.get ha
  have hp:ps[i]? = some y:=by
   rw[<- S.pre,UD (by lia)];exact h1
  have J:ps.Nodup:=by rw[<- S.pre];exact S.nd.sublist (UE _ _)
  refine⟨u,rv,?_⟩
  rcases S.par y (UG hp) with k | k
  ·exact .inl ⟨k,Ie J hp hu k⟩
  ·obtain⟨c,e⟩:=JU (n:=s.heap.objs.size+1) k;refine .inr ⟨.inl k,c,e,?_⟩;have q:=x.cell y c e;rw[Ih J hp hu (by show scope.names.lookup y≠_;rw[k];decide)]at q
   exact q
 ·exact Y.hok.fresh (U7 (x.above y c (PySem.mem_of_lookup h)))
 ·unfold Et;show _=N.length;rw[UH,UI,UJ]
  lia
theorem Nk{CX:CXT}{P:ai}{w:ar}{K:U5}{mg:Str->Option ac}{base:au}{k:Nat}{f:aa}{name qual:Str}{O:aZ}{body:List aS}{scope:aB}{dV kV aF pm Y ct oc:ac}{an od:Option aa}
 {bb:Array (Option ac)} {N ps:List Str} {sp:Sp} (lk:K.lookup f=some ⟨oc,od,.func (UK name qual O body scope dV kV aF pm an Y ct),bb⟩) (a0:UL K Y qual=true) (S:Ao N ps scope)
 (aP:∀vs H Q E,sp vs H Q E->vs.length=ps.length)
 (al:∀(A:aw) (outer:List Env) (s:ae) (H:Hp) (vs:List V) (Q:VK) (E:XK),BM k (A.deeper (envOfC qual scope s.heap.objs.size f Y))->sp vs H Q E ->
  ∃t,PSs (Ft CX P w K mg base N qual scope f Y A outer s H E) body t/\t { nx:=fun _ H'=>Q .non H',rt:=Q } (Et N vs) H) :
 Ay P w K mg base CX (k+1) f (UK name qual O body scope dV kV aF pm an Y ct) ps sp:=by
 refine⟨aP,fun A outer s H args us vs Q E hr e0 hb r aC=>?_⟩;have hl:=aP _ _ _ _ aC;have KX:K.In s.heap:=e0.mod.kin.keeps fun b o e=>(e0.bs b o e).1;have ba:s.heap.NoLimit:=e0.mod.nolimit.keeps fun b o e=>(e0.bs b o e).1
 have ap:∀y∈ps.zip us,scope.names.lookup y.1=some .local\/(scope.names.lookup y.1=some .cell/\((cellsFrom (s.heap.objs.size+1) scope.names []).lookup y.1).isSome=true):=fun⟨n,v⟩ hy=>by
  rcases S.par n (Uw hy).1 with q | q
  ·exact .inl q
  ·exact .inr ⟨q,PySem.W.cellsFrom_some _ _ _ (.inl q)⟩
 refine codeAny_call_function hr.depth (KX _ _ lk) rfl S.co S.gen rfl (PySem.W.codeRec_of KX a0) (hb _ _ _ _ ?_);refine wpAny_newFunctionEnv_cells S.kind ap fun env he s1 x=>?_;subst he;refine⟨ba.keeps x.toInCall.keep,codeAny_func ?_⟩;obtain⟨t,ht,hq⟩:=al A outer s H vs Q E (hr.deeper _) aC;have I:Inv (Ft CX P w K mg base N qual scope f Y A outer s H E) [] (Et N vs) H s1:=Mg S hr.hd e0 hl r x;refine az (ht [] s1 (Et N vs) H _ I hq) (fun fl s' hs=>?_) fun e s' hs=>hs
 have as:∀{ak:St} {H':Hp} {v:V} {u:ac},Inv (Ft CX P w K mg base N qual scope f Y A outer s H E) [] ak H' s'->AR v u->Q v H'->CE outer P w H s Q u s' :=
  fun{ak H' v u} J rv q=>⟨v,H',J.os,J.bare,J.base,J.hok,rv,q⟩
 cases fl with
 | ret u =>
   obtain⟨v,ak,H',J,rv,q⟩:=hs;exact as J rv q
 | next =>
   obtain⟨ak,H',J,q⟩:=hs;exact as (v:=V.non) (u:=Value.none) J rfl q
 | brk =>
   obtain⟨_,_,_,q⟩:=hs;exact False.elim q
 | cont =>
   obtain⟨_,_,_,q⟩:=hs;exact False.elim q
section
variable {X:Cx}{x:Str}{p pos:Pos}{e:Expr}{es:List Expr}{t:TA}{id T:String}{r:List V->Hp->VK->Prop}
def tCB(r:List V->Hp->VK->Prop)(t:TA):TE:=fun σ H Q=>t σ H fun vs H1=>r vs H1 Q
theorem Ak(hc:CV X (.builtin id) r)(hg:Gl X x)(hm:X.mg x=none)(hv:ay x=some (.builtin id))(J:PA X (e::es) t)(hn:x ≠ "__name__":=by decide)(W:(x == ("__debug__" : Str))=false:=by decide)
 (O:aq (e::es) X.env=(false,aD e X.env)::aq es X.env:=by rfl) (Y:(aN pos (aq es X.env)).any (·.1)=false:=by rfl):PE X (.Call (.Name x p) (e::es) [] pos) (tCB r t):=by
 intro pins s σ H Q I h;refine aG (Df I hg hm hv ?_ hn W);exact PyProof.Rows.callWith_builtin1 (thn (J pos pins s σ H _ I h) fun us s1 ⟨vs,H1,I1,r1,q1⟩=>hc pins s1 σ H1 vs us Q I1 r1 q1) O Y
theorem Ck(hc:CV X (.type T) r)(hg:Gl X x)(hm:X.mg x=none)(hv:ay x=some (.type T))(J:PA X (e::es) t)(hn:x ≠ "__name__":=by decide)(W:(x == ("__debug__" : Str))=false:=by decide)
 (O:aq (e::es) X.env=(false,aD e X.env)::aq es X.env:=by rfl) (Y:(aN pos (aq es X.env)).any (·.1)=false:=by rfl):PE X (.Call (.Name x p) (e::es) [] pos) (tCB r t):=by
 intro pins s σ H Q I h;refine aG (Df I hg hm hv ?_ hn W);exact PyProof.Rows.callWith_type1 (thn (J pos pins s σ H _ I h) fun us s1 ⟨vs,H1,I1,r1,q1⟩=>hc pins s1 σ H1 vs us Q I1 r1 q1) O Y
end
end L2
namespace HT
open PySem PyProof.Rows
section
open PySem.SeqAt
open PySem.AutoSeq1 (wpAny_loadPart')
open PySem.MeetsSeq PySem.MeetsSeq2 PySem.MeetsSeq3
end
section
variable {prog:ai}{w:ar}{A:aw}{E:ac->ae->Prop}{s:ae}
def sIx(n d:Nat):Option Int->Nat
 | none=>d
 | some v=>if v<0 then (v+(n:Int)).toNat else min v.toNat n
theorem sIx_nat(n d k:Nat):sIx n d (some (k:Int))=min k n:=by
 show(if (k:Int)<0 then ((k:Int)+(n:Int)).toNat else min (k:Int).toNat n)=min k n;rw[if_neg (by lia),UM]
theorem clip_eq(v:Int)(n d:Nat):(if v<0 then max (v+(n:Int)) 0 else min v (n:Int))=((sIx n d (some v):Nat):Int):=by
 show(if v<0 then max (v+(n:Int)) 0 else min v (n:Int))=(((if v<0 then (v+(n:Int)).toNat else min v.toNat n):Nat):Int);by_cases hv:v<0
 ·rw[if_pos hv,if_pos hv,Int.toNat_eq_max]
 ·rw[if_neg hv,if_neg hv];obtain⟨k,rfl⟩:=Int.eq_ofNat_of_zero_le (Int.not_lt.mp hv);rw[UM]
  rcases Nat.le_total k n with h | h
  ·rw[UN h,Int.min_eq_left (Int.ofNat_le.mpr h)]
  ·rw[UO h,Int.min_eq_right (Int.ofNat_le.mpr h)]
end
end HT
namespace L2
open PySem PySem.Spec PyProof.Rows
abbrev TO:=St->Hp->(Option Int->Hp->Prop)->Prop
def PO(X:Cx)(e:Option Expr)(t:TO):Prop :=
 ∀ (pins:List (aa×Obj)) (s:ae) (σ:St) (H:Hp) (Q:Option Int->Hp->Prop),Inv X pins σ H s->t σ H Q ->
   am (ao X.prog X.w) X.A (evalPart e X.env) (fun u s'=>∃o H',Inv X pins σ H' s'/\IsPart u o/\Q o H') X.xe s
def O2:TO:=fun _ H Q=>Q none H
def Qu(t:TE):TO:=fun σ H Q=>t σ H fun x H1=>∃i,x = .int i/\Q (some i) H1
section
variable {X:Cx}{e:Expr}{te:TE}{lo hi:Option Expr}{tl th:TO}{pos p2:Pos}
theorem Be:PO X none O2:=by
 intro pins s σ H Q I h;rw[evalPart_none];exact ah ⟨none,H,I,.none,h⟩
theorem Bc(h:PE X e te):PO X (some e) (Qu te):=by
 intro pins s σ H Q I hw;rw[evalPart_some];refine thn (h pins s σ H _ I hw) fun u O ⟨x,H1,Y,r1,W⟩=>?_;obtain⟨i,rfl,q⟩:=W;obtain⟨t,rfl⟩:=r1;exact⟨some i,H1,Y,.int i t,q⟩
def SlR(X:Cx)(r:V->Option Int->Option Int->Hp->VK->Prop):Prop :=
 ∀ (pins:List (aa×Obj)) (s:ae) (σ:St) (H:Hp) (x:V) (v vl vu:ac) (lo hi:Option Int) (sl:aa) (Q:VK),Inv X pins σ H s->AR x v->s.heap.IsSliceOf sl vl vu .none->IsPart vl lo->IsPart vu hi->r x lo hi H Q ->
   ∃T id,typeLookup (.type T) "__getitem__" = pure (some (.builtin id))/\s.TypeIs v T/\am (ao X.prog X.w) X.A (getItem v (.ref sl)) (EP X pins σ Q) X.xe s
def tSl(r:V->Option Int->Option Int->Hp->VK->Prop)(te:TE)(tl th:TO):TE:=fun σ H Q=>te σ H fun x H1=>tl σ H1 fun l H2=>th σ H2 fun u H3=>r x l u H3 Q
theorem AU{r:V->Option Int->Option Int->Hp->VK->Prop}(hr:SlR X r)(he:PE X e te)(hl:PO X lo tl)(hu:PO X hi th):PE X (.Subscript e (.Slice lo hi none p2) pos) (tSl r te tl th):=by
 intro pins s σ H Q I h;refine Subscript_ (thn (he pins s σ H _ I h) fun v s1 ⟨x,H1,I1,r1,q1⟩=>?_);refine wpAny_Slice (thn (hl pins s1 σ H1 _ I1 q1) fun W s2 ⟨l,H2,I2,pl,q2⟩=>thn (hu pins s2 σ H2 _ I2 q2) fun vu Y ⟨u,O,I3,J,q3⟩=>?_);rw[evalPart_none];refine ah ?_;have I4:Inv X pins σ O { Y with heap:=Y.heap.push { cls:=.type "slice",data:=.fields #[W,vu,.none] } }:=I3.kept (t':=Y.toks) fun b ob q=>Heap.get?_push_of_some _ q
 obtain⟨T,id,hT,ht,hg⟩:=hr pins { Y with heap:=Y.heap.push { cls:=.type "slice",data:=.fields #[W,vu,.none] } } σ O x v W vu l u Y.heap.objs.size Q I4 r1 (Heap.IsSliceOf.new ..) pl J q3
 show am (ao X.prog X.w) X.A (subscriptTail e (.Slice lo hi none p2) v (.ref Y.heap.objs.size)) (EP X pins σ Q) X.xe { Y with heap:=Y.heap.push { cls:=.type "slice",data:=.fields #[W,vu,.none] } }
 exact tail_any (ops:=[.ref Y.heap.objs.size,v]) ht hT hg (by with_unfolding_all rfl)
def Cs(xs:List V)(lo hi:Option Int):List V:=(xs.drop (HT.sIx xs.length 0 lo)).take (HT.sIx xs.length xs.length hi-HT.sIx xs.length 0 lo)
theorem JP(xs:List V)(lo hi:Option Int):(Cs xs lo hi).length<=xs.length:=by
 unfold Cs;rw[Uy,UP];exact U6 (Nat.min_le_right _ _) (Nat.sub_le _ _)
end
def ixN(n:Nat)(i:Int):Option Nat:=if 0<=i then (if i<n then some i.toNat else none) else if -(n:Int)<=i then some (i+n).toNat else none
def atI{α:Type}(xs:List α)(i:Int):Option α:=(ixN xs.length i).bind fun j=>xs[j]?
theorem Lo{n:Nat}{i:Int}{j:Nat}(h:ixN n i=some j):seqIndex? i n=some j/\j<n /\ -(n:Int)<=i/\i<n:=by
 unfold ixN at h;by_cases h0:0<=i
 ·rw[if_pos h0]at h;by_cases h1:i<n
  ·rw[if_pos h1]at h;have e:i.toNat=j:=TU.inj h;exact⟨by rw[seqIndex_of h0 h1,e],by lia,by lia,h1⟩
  ·rw[if_neg h1]at h;cases h
 ·rw[if_neg h0]at h;by_cases h1 : -(n:Int)<=i
  ·rw[if_pos h1]at h;have e:(i+n).toNat=j:=TU.inj h;exact⟨by rw[seqIndex_neg (by lia) h1,e],by lia,h1,by lia⟩
  ·rw[if_neg h1]at h;cases h
theorem LI{Y:Type}{xs:List Y}{i:Int}{v:Y}(h:atI xs i=some v):∃j,seqIndex? i xs.length=some j/\xs[j]? = some v/\j<xs.length /\ -(xs.length:Int)<=i/\i<xs.length:=by
 unfold atI at h;cases e:ixN xs.length i with
 | none=>rw[e]at h;cases h
 | some j =>
   rw[e]at h;obtain⟨h1,h2,W,O⟩:=Lo e;exact⟨j,h1,h,h2,W,O⟩
theorem Bg{Y:Type}{xs:List Y}{j:Nat}{v:Y}(h:xs[j]? = some v):atI xs (j:Int)=some v:=by
 have W:j<xs.length:=(Ue.mp h).1
 have e:ixN xs.length (j:Int)=some j:=by
  unfold ixN;rw[if_pos (by lia),if_pos (by lia)];simp
 unfold atI;rw[e];exact h
def OK(b:Expr):Prop:=∀o i,subscripted b false o i=operate [o,i] (getItem o i)
def IxR(X:Cx)(r:R2):Prop :=
 ∀ (value slice:Expr) (pins:List (aa×Obj)) (s:ae) (σ:St) (H:Hp) (x y:V) (v u:ac) (Q:VK),Inv X pins σ H s->AR x v->AR y u->r x y H Q ->
   subscripted slice false v u=operate [v,u] (getItem v u)->am (ao X.prog X.w) X.A (subscriptTail value slice v u) (EP X pins σ Q) X.xe s
def MtR(X:Cx)(id:String)(r:V->List V->Hp->VK->Prop):Prop :=
 ∀ (pins:List (aa×Obj)) (s:ae) (σ:St) (H:Hp) (x:V) (xs:List V) (v:ac) (us:List ac) (Q:VK),Inv X pins σ H s->AR x v->AI xs us->r x xs H Q ->
   am (ao X.prog X.w) X.A (call (.builtin id) (v::us)) (EP X pins σ Q) X.xe s
section
variable {X:Cx}{a b:Expr}{ta tb:TE}{pos:Pos}
theorem Aj{r:R2}(J:IxR X r)(ha:PE X a ta)(hb:PE X b tb)(hs:OK b):PE X (.Subscript a b pos) (tOp r ta tb):=by
 intro pins s σ H Q I h;exact Subscript_ (Qi ha hb I h fun v u s2 x y H2 O Y W q=>J a b pins s2 σ H2 x y v u Q O Y W q (hs _ _))
inductive Pg(K:U5)(x:V)(y:V)(H:Hp)(Q:VK):Prop
 | mk (p:_) (xs:_) (i:_) (v:_) (h1:x = .ref p) (h2:y = .int i) (h3:SqL K H p xs) (h4:atI xs i=some v) (h5:Q v H):Pg K x y H Q
inductive Pe(K:U5)(x:V)(y:V)(H:Hp)(Q:VK):Prop
 | mk (p:_) (xs:_) (i:_) (v:_) (h1:x = .ref p) (h2:y = .int i) (h3:SqT K H p xs) (h4:atI xs i=some v) (h5:Q v H):Pe K x y H Q
theorem Ow:IxR X (Pg X.K):=by
 intro value J pins s σ H x y v u Q I rx ry h hs;obtain⟨p,xs,i,z,rfl,rfl,hq,he,q⟩:=h;cases rx;obtain⟨t,rfl⟩:=ry;obtain⟨ak,r,W,hz⟩:=I.list hq;obtain⟨j,h1,h2,h3,h4,h5⟩:=LI he;obtain⟨w,ew,O⟩:=r.get h2;have hl:=r.length;have hn:=IY;have Y:EP X pins σ Q w s:=⟨z,H,I,O,q⟩;by_cases h0:0<=i
 ·have hj:i.toNat=j:=by
   rw[seqIndex_of h0 h5]at h1;exact TU.inj h1
  exact item_listR W.isList h0 (by lia) (by rw[hj];simpa using ew) Y hs
 ·have hj:(i+(ak.toArray.size:Int)).toNat=j:=by
   rw[seqIndex_neg (by lia) h4]at h1
   rw[UQ,<- hl];exact TU.inj h1
  exact subscriptTail_builtinR (x:=w) W.isList.typeIs slot_list_getitem.lookup
   (wpAny_getItem_list_neg (Q:=fun r s'=>r=w/\EP X pins σ Q r s') W.isList (by lia) (by rw[UQ]<;>lia) (by lia) (by rw[hj];simpa using ew) ⟨Z,Y⟩) hs
theorem Q7:IxR X (Pe X.K):=by
 intro value O pins s σ H x y v u Q I rx ry h hs;obtain⟨p,xs,i,z,rfl,rfl,hq,he,q⟩:=h;cases rx;obtain⟨t,rfl⟩:=ry;obtain⟨ak,r,J,hz⟩:=I.tuple hq;obtain⟨j,h1,h2,h3,h4,h5⟩:=LI he;obtain⟨w,ew,W⟩:=r.get h2;have hl:=r.length;have hn:=IY;have Y:EP X pins σ Q w s:=⟨z,H,I,W,q⟩
 exact subscriptTail_builtinR (x:=w) J.typeIs slot_tuple_getitem.lookup
  (getItem_tuple (j:=j) (Q:=fun r s'=>r=w/\EP X pins σ Q r s') J (by lia) (by lia) (by rw[UQ,<- hl];exact h1) (by simpa using ew) ⟨Z,Y⟩) hs
theorem Kv(Y:List ac)(n j:Nat)(u:ac):Obj.mapSeq (·.setIfInBounds j u) { cls:=.type "list",data:=.seq Y.toArray n }={ cls:=.type "list",data:=.seq (Y.set j u).toArray n }:=by
 simp[Obj.mapSeq]
theorem Inv.lst{pins:List (aa×Obj)}{σ:St}{H:Hp}{s:ae}{p:aa}{xs:List V}(I:Inv X pins σ H s)(h:H p=some (.lst xs)) :
 ∃(Y:List ac) (n:Nat),AI xs Y/\s.heap.get? p=some { cls:=.type "list",data:=.seq Y.toArray n }/\xs.length<=af:=by
 obtain⟨z,Y,n,r,e⟩:=I.hok p _ h;exact⟨Y,n,r,e,z⟩
theorem Inv.lstUpd{pins:List (aa×Obj)}{σ:St}{H:Hp}{s:ae}{p:aa}{xs ys:List V}{Y its':List ac}{n W:Nat}{f:Obj->Obj}(I:Inv X pins σ H s)(h:H p=some (.lst xs))
 (J:s.heap.get? p=some { cls:=.type "list",data:=.seq Y.toArray n }) (O:f { cls:=.type "list",data:=.seq Y.toArray n }={ cls:=.type "list",data:=.seq its'.toArray W }) (r:AI ys its') (hz:ys.length<=af) (t:Nat) :
 Inv X pins σ (upd H p (.lst ys)) { s with heap:=s.heap.update p f,toks:=t }:=by
 have e:(s.heap.update p f).get? p=some { cls:=.type "list",data:=.seq its'.toArray W }:=by
  rw[Heap.get?_update_self f J (by rw[O]<;>rfl),O]
 refine I.write (x:=p) (e:=p) (by rw[h];trivial) (.inl rfl) (fun b u hb q=>(Heap.get?_update_other _ _ (Ne.symm hb)).trans q) ⟨_,e⟩ ?_
 exact⟨hz,its',W,r,e⟩
inductive OM(o:V)(i:V)(v:V)(H:Hp)(Q:(Hp->Prop)):Prop
 | mk (p:_) (xs:_) (k:_) (j:_) (h1:o = .ref p) (h2:i = .int k) (h3:H p=some (.lst xs)) (h4:ixN xs.length k=some j) (h5:Q (upd H p (.lst (xs.set j v)))):OM o i v H Q
theorem Dj:Rb X OM:=by
 intro pins s σ H o i v ov iv u Q I ro ri rv h;obtain⟨p,xs,k,j,rfl,rfl,hp,hj,q⟩:=h;cases ro;obtain⟨t,rfl⟩:=ri;obtain⟨Y,n,r,O,hz⟩:=I.lst hp;obtain⟨h1,h2,h3,h4⟩:=Lo hj;have J:=r.length;have hn:=IY
 have I':Inv X pins σ (upd H p (.lst (xs.set j v))) { s with heap:=s.heap.update p (Obj.mapSeq (·.setIfInBounds j u)) } :=
  I.lstUpd hp O (Kv Y n j u) (r.set rv j) (by rw[UR];exact hz) s.toks
 by_cases h0:0<=k
 ·have hk:k.toNat=j:=by
   rw[seqIndex_of h0 h4]at h1;exact TU.inj h1
  exact PySem.W.ki_setAt O h0 (by lia) (by rw[UQ,<- J];exact h4) (by rw[hk];exact⟨_,I',q⟩)
 ·have hk:(k+(Y.toArray.size:Int)).toNat=j:=by
   rw[seqIndex_neg (by lia) h3]at h1
   rw[UQ,<- J];exact TU.inj h1
  exact PySem.W.ki_setBack O (by lia) (by rw[UQ,<- J];exact h3) (by lia) (by rw[hk];exact⟨_,I',q⟩)
theorem Iz(lo hi:Option Int)(n:Nat):(bM lo hi none n).1=((HT.sIx n 0 lo:Nat):Int)/\(bM lo hi none n).2.1=((HT.sIx n n hi:Nat):Int)/\(bM lo hi none n).2.2=1:=by
 have key:∀(i:Int) (d:Nat),max 0 (min (if i<0 then i+(n:Int) else i) (n:Int))=((HT.sIx n d (some i):Nat):Int):=by
  intro i d;rw[<- HT.clip_eq];by_cases h:i<0
  ·rw[if_pos h,if_pos h,Int.min_eq_left (by lia),Int.max_comm]
  ·rw[if_neg h,if_neg h,Int.max_eq_right (Int.le_min.mpr ⟨by lia,by lia⟩)]
 refine⟨?_,?_,Z⟩
 ·cases lo with
  | none=>simp[bM,HT.sIx]
  | some i=>exact key i 0
 ·cases hi with
  | none=>simp[bM,HT.sIx]
  | some i=>exact key i n
theorem Hs(Y:List ac)(lo hi:Option Int):slicePick Y.toArray lo hi none=((Y.drop (HT.sIx Y.length 0 lo)).take (HT.sIx Y.length Y.length hi-HT.sIx Y.length 0 lo)).toArray:=by
 obtain⟨h1,h2,W⟩:=Iz lo hi Y.toArray.size;unfold slicePick;rw[h1,h2,W];simp only[sliceRange_one,pick_run,UQ]<;>rfl
inductive Pd(K:U5)(x:V)(lo:Option Int)(hi:Option Int)(H:Hp)(Q:VK):Prop
 | mk (a:_) (xs:_) (h1:x = .ref a) (h2:SqL K H a xs) (h3:∀p,H p=none->Q (.ref p) (upd H p (.lst (Cs xs lo hi)))):Pd K x lo hi H Q
theorem O6:SlR X (Pd X.K):=by
 intro pins s σ H x v vl vu lo hi sl Q I J hs pl O h;obtain⟨a,xs,rfl,hx,q⟩:=h;cases J;obtain⟨ak,r,W,hz⟩:=I.list hx;have Y:=r.length;refine⟨"list",_,slot_list_getitem.lookup,W.isList.typeIs,?_⟩;refine wpAny_getItem_list_slice W.isList hs pl O .none (by simp) ?_ (by rw[UQ]<;>lia)
 rw[Hs,<- Y];refine⟨.ref s.heap.objs.size,_,I.laid (t':=s.toks) (o:=.lst (Cs xs lo hi)) (fun b ob q=>Heap.get?_push_of_some _ q) (Uk _) ?_,Z,q _ (I.hok.fresh (Uk _))⟩;exact⟨U6 (JP xs lo hi) hz,_,0,(r.drop (HT.sIx xs.length 0 lo)).take (HT.sIx xs.length xs.length hi-HT.sIx xs.length 0 lo),Heap.get?_push_size _ rfl⟩
theorem J7:CV X (.builtin "len") (fun xs H Q=>∃p ys,xs=[.ref p]/\(SqL X.K H p ys\/SqT X.K H p ys)/\Q (.int ys.length) H):=by
 intro pins s σ H xs us Q I r h;obtain⟨p,ys,rfl,W,q⟩:=h;obtain⟨u,rfl,rx⟩:=ER r;cases rx;have hn:=IY
 rcases W with W | W
 ·obtain⟨ak,J,O,hz⟩:=I.list W;have Y:=J.length;exact Calls.call_len_list O.isList (by simp only[UQ]<;>lia) ⟨.int ys.length,H,I.tok _,⟨s.toks+1,by rw[UQ,Y]⟩,q⟩
 ·obtain⟨ak,J,O,hz⟩:=I.tuple W;have Y:=J.length;exact len_tuple O (by simp only[UQ]<;>lia) ⟨.int ys.length,H,I.tok _,⟨s.toks+1,by rw[UQ,Y]⟩,q⟩
theorem J6:CV X (.type "list") (fun xs H Q=>∃p ys,xs=[.ref p]/\(SqL X.K H p ys\/SqT X.K H p ys)/\∀l,H l=none->Q (.ref l) (upd H l (.lst ys))):=by
 intro pins s σ H xs us Q I r h;obtain⟨p,ys,rfl,hq,q⟩:=h;obtain⟨u,rfl,rx⟩:=ER r;cases rx
 have J:∀(Y:List ac),AI ys Y->ys.length<=af->∀(h':au) (O:Nat),(∀b o',s.heap.get? b=some o'->h'.get? b=some o') ->
  h'.get? s.heap.objs.size=some { cls:=.type "list",dict:=none,data:=.seq Y.toArray O,slots:=#[] }->EP X pins σ Q (.ref s.heap.objs.size) { s with heap:=h' }:=fun Y W hz h' O kp e =>
  ⟨.ref s.heap.objs.size,_,I.laid (t':=s.toks) kp (Uk _) (show BW X.prog X.w _ h' _ (.lst ys) from⟨hz,Y,O,W,e⟩),Z,q _ (I.hok.fresh (Uk _))⟩
 rcases hq with hq | hq
 ·obtain⟨Y,W,pl,hz⟩:=I.list hq;have ak:=W.length;obtain⟨o,ho,hc,n,hd⟩:=pl.isList;exact call_list_seq p (.inl rfl) ho hc hd (fun h' O kp e=>J Y W hz h' O kp e) (by simp only[UQ]<;>lia)
 ·obtain⟨Y,W,pl,hz⟩:=I.tuple hq;have ak:=W.length;obtain⟨o,ho,hc,n,hd⟩:=pl;exact call_list_seq p (.inr rfl) ho hc hd (fun h' O kp e=>J Y W hz h' O kp e) (by simp only[UQ]<;>lia)
theorem HC:CV X (.type "tuple") (fun xs H Q=>∃p ys,xs=[.ref p]/\((SqL X.K H p ys/\∀l,H l=none->Q (.ref l) (upd H l (.tup ys)))\/(SqT X.K H p ys/\Q (.ref p) H))):=by
 intro pins s σ H xs us Q I r h;obtain⟨p,ys,rfl,h⟩:=h;obtain⟨u,rfl,rx⟩:=ER r;cases rx
 rcases h with ⟨O,q⟩ | ⟨O,q⟩
 ·obtain⟨Y,J,W,hz⟩:=I.list O;have ak:=J.length;refine call_tuple_list W.isList (fun h' kp=>?_) (by simp only[UQ]<;>lia)
  have I1:Inv X pins σ H { s with heap:=h' }:=I.kept (t':=s.toks) kp
  have I2:Inv X pins σ (upd H h'.objs.size (.tup ys)) { s with heap:=h'.push { cls:=.type "tuple",data:=.seq Y.toArray } } :=
   I1.laid (t':=s.toks) (fun b o e=>Heap.get?_push_of_some _ e) (Uk _) (show BW X.prog X.w _ _ _ (.tup ys) from⟨hz,Y,J,IsTup.new _ _⟩)
  exact⟨.ref h'.objs.size,_,I2,Z,q _ (I1.hok.fresh (Uk _))⟩
 ·obtain⟨Y,J,W,hz⟩:=I.tuple O;exact call_tuple_same W ⟨.ref p,H,I,Z,q⟩
def tyV(K:U5)(T:String)(x:V)(H:Hp):Prop:=match x with
 | .str _=>T = "str"
 | .int _=>T = "int"
 | .ref p=>(T = "list" /\ ∃xs,SqL K H p xs)\/(T = "tuple" /\ ∃o,K.lookup p=some o/\o.cls = .type "tuple" /\ o.dict=none) \/
  (T = "dict" /\ ((∃kvs,H p=some (.dK kvs))\/∃kvs,H p=some (.dT kvs)))\/(T = "set" /\ ∃S n,H p=some (.set S n))
 | _=>False
theorem OW{pins:List (aa×Obj)}{σ:St}{H:Hp}{s:ae}{T:String}{x:V}{v:ac}(I:Inv X pins σ H s)(r:AR x v)(ty:tyV X.K T x H) :
 s.TypeIs v T/\∀a,v = .ref a->∃ob,s.heap.get? a=some ob/\ob.dict=none:=by
 cases x with
 | str z =>
   obtain⟨t,rfl⟩:=r;cases (show T = "str" from ty);exact⟨typeIs_str s z t,fun _ e=>nomatch e⟩
 | int i =>
   obtain⟨t,rfl⟩:=r;cases (show T = "int" from ty);exact⟨typeIs_int s i t,fun _ e=>nomatch e⟩
 | ref p =>
   cases r
   rcases ty with ⟨rfl,xs,hq⟩ | ⟨rfl,o,Y,hc,O⟩ | ⟨rfl,Y⟩ | ⟨rfl,S,n,Y⟩
   ·obtain⟨ak,_,J,_⟩:=I.list hq;refine⟨J.isList.typeIs,fun a e=>?_⟩;cases e;obtain⟨o,n,e,c,O,_⟩:=J;exact⟨o,e,O⟩
   ·refine⟨⟨o,I.kIn p o Y,hc⟩,fun a e=>?_⟩;cases e;exact⟨o,I.kIn _ o Y,O⟩
   ·have z:∃o,s.heap.get? p=some o/\o.ExactDict:=by
     rcases Y with ⟨kvs,Y⟩ | ⟨kvs,Y⟩
     ·obtain⟨_,_,_,_,o,_,_,e,ex,_⟩:=I.hok p _ Y;exact⟨o,e,ex⟩
     ·obtain⟨_,_,_,_,o,_,_,e,ex,_⟩:=I.hok p _ Y;exact⟨o,e,ex⟩
    obtain⟨o,e,ex⟩:=z;refine⟨⟨o,e,ex.1⟩,fun a W=>?_⟩;cases W;exact⟨o,e,ex.2.1⟩
   ·obtain⟨o,_,_,_,e,ex,_⟩:=I.hok p _ Y;refine⟨⟨o,e,ex.1⟩,fun a W=>?_⟩;cases W;exact⟨o,e,ex.2.1⟩
 | _=>exact False.elim ty
def tBM(K:U5)(T:String)(r:V->List V->Hp->VK->Prop)(to:TE)(t:TA):TE:=fun σ H Q=>to σ H fun x H1=>tyV K T x H1/\t σ H1 fun xs H2=>r x xs H2 Q
variable {o e:Expr}{es:List Expr}{to:TE}{t:TA}{name:Str}{apos cpos:Pos}{T id:String}{r:V->List V->Hp->VK->Prop}
theorem QH(pa:PlainAttrs T)(J:Slot T name id)(al:typeOf (.builtin id)=pure (.type "method_descriptor"))(hm:MtR X id r)(ho:PE X o to)(ha:PA X (e::es) t)
 (W:bQ o name X.env (aD o X.env)=aD o X.env:=by rfl)
 (ak:((aN cpos (aq (e::es) X.env)).all (fun x=>!x.1)&&(backToKw cpos (keywordEach [] X.env)).all (fun x=>x.1.isSome)
  && decide ((e::es).length+([]:List bK).length+(if ([]:List bK).isEmpty then 0 else 1)<30))=true:=by rfl)
 (O:(apos.endLine == cpos.line)=true:=by rfl) (hs:aq (e::es) X.env=(false,aD e X.env)::aq es X.env:=by rfl) (Y:(aN cpos (aq es X.env)).any (·.1)=false:=by rfl) {K:U5} (eK:X.K=K:=by rfl) :
 PE X (.Call (.Attribute o name apos) (e::es) [] cpos) (tBM K T r to t):=by
 subst eK;intro pins s σ H Q I h;refine wpAny_Call_method_late W ak O rfl (thn (ho pins s σ H _ I h) fun v s1 ⟨x,H1,I1,r1,ty,q1⟩=>?_);obtain⟨h1,h2⟩:=OW I1 r1 ty;refine⟨T,id,pa,J,al,h1,h2,?_⟩;have hA:=ha cpos pins s1 σ H1 _ I1 q1;rw[hs]at hA ⊢;refine Calls.callWith_builtin (by show(false||(aN cpos (aq es X.env)).any (·.1))=false;rw[Y]<;>rfl) (Calls.evalArgs_plain ?_)
 exact thn hA fun us s2 ⟨vs,H2,I2,r2,q2⟩=>hm pins s2 σ H2 x vs v us Q I2 r1 r2 q2
end
def MtM(X:Cx)(id:String)(r:V->List V->Hp->VK->Prop):Prop :=
 ∀ (pins:List (aa×Obj)) (s:ae) (σ:St) (H:Hp) (x:V) (xs:List V) (v:ac) (us:List ac) (Q:VK),Inv X pins σ H s->AR x v->AI xs us->r x xs H Q ->
   am (ao X.prog X.w) X.A (call (.builtin id) (v::us)) (EP X pins σ Q) X.xe s
theorem AI.one{x:V}{us:List ac}(h:AI [x] us):∃u,us=[u]/\AR x u:=by
 cases h with
 | cons r t=>cases t;exact⟨_,Z,r⟩
theorem AI.rep{xs:List V}{us:List ac}(h:AI xs us):∀k:Nat,AI (Ux k xs).flatten (Ux k us).flatten
 | 0=>.nil
 | k+1=>by
   rw[US,US,UT,UT];exact AI.append h (AI.rep h k)
theorem HZ(W:List ac):∀(k:Nat) (Y:List ac),
 List.foldl (fun J x2=>J++x2) Y.toArray (Ux k W.toArray)=(Y++(Ux k W).flatten).toArray
 | 0,Y=>by simp
 | k+1,Y=>by
   have e:Y.toArray++W.toArray=(Y++W).toArray:=by simp
   have O:(Y++W)++(Ux k W).flatten=Y++(Ux (k+1) W).flatten:=by
    rw[US,UT,UU]
   rw[<- O,<- HZ W k (Y++W),<- e,US,List.foldl_cons]
section
variable {X:Cx}{pins:List (aa×Obj)}{σ:St}{H:Hp}{s:ae}{l b:aa}{xs ys zs:List V}
theorem Inv.lset{Y its':List ac}{n:Nat}{f:Array ac->Array ac}{t':Nat}(I:Inv X pins σ H s)(W:H l=some (.lst xs))
 (e:s.heap.get? l=some { cls:=.type "list",data:=.seq Y.toArray n }) (hf:f Y.toArray=its'.toArray) (O:AI ys its') (hz:ys.length<=af) :
 Inv X pins σ (upd H l (.lst ys)) { s with heap:=s.heap.update l (Obj.mapSeq f),toks:=t' }:=by
 have q:=PySem.IsL.update e f;rw[hf]at q;refine I.write (x:=l) (e:=l) (by rw[W];exact trivial) (.inl rfl) (fun b' u hb J=>(Heap.get?_update_other s.heap (Obj.mapSeq f) (Ne.symm hb)).trans J) ⟨_,q⟩ ?_
 exact⟨hz,its',_,O,q⟩
theorem Inv.lnew{Y:List ac}{t':Nat}(I:Inv X pins σ H s)(W:AI ys Y)(hz:ys.length<=af) :
 Inv X pins σ (upd H s.heap.objs.size (.lst ys)) { s with heap:=s.heap.push { cls:=.type "list",data:=.seq Y.toArray },toks:=t' } :=
 I.laid (fun _ _ q=>Heap.get?_push_of_some _ q) (Uk _) ⟨hz,Y,0,W,Heap.get?_push_size _ rfl⟩
theorem Inv.fresh(I:Inv X pins σ H s):H s.heap.objs.size=none:=I.hok.fresh (Uk _)
theorem Inv.lstM(I:Inv X pins σ H s)(W:H l=some (.lst xs)):xs.length<=af/\∃(Y:List ac) (n:Nat),AI xs Y/\xs.length=Y.length/\s.heap.get? l=some { cls:=.type "list",data:=.seq Y.toArray n }:=by
 obtain⟨z,Y,n,r,e⟩:=I.hok l _ W;exact⟨z,Y,n,r,r.length,e⟩
theorem Jz{n:Nat}(h:n<=af):Builtin.List.listTooLong n=false:=by
 unfold Builtin.List.listTooLong;exact decide_eq_false (by lia)
end
section
variable {X:Cx}
inductive KZ(x:V)(vs:List V)(H:Hp)(Q:VK):Prop
 | mk (l:_) (xs:_) (y:_) (h1:x = .ref l) (h2:vs=[y]) (h3:H l=some (.lst xs)) (h4:xs.length<af) (h5:Q .non (upd H l (.lst (xs++[y])))):KZ x vs H Q
theorem CM:MtM X "list.append" KZ:=by
 intro pins s σ H x vs v us Q I O rv h;obtain⟨l,xs,y,rfl,rfl,W,hz,q⟩:=h;cases O;obtain⟨u,rfl,J⟩:=rv.one;obtain⟨z,Y,n,r,hl,e⟩:=I.lstM W;refine bU F.slot_list_append ⟨_,e,Z⟩ F.entry_list_append (F.args_list_append_2 _ _) (PySem.list_append l Y.toArray n u (by rw[UQ];lia)) ⟨e,?_⟩
 refine⟨.non,_,I.lset (its':=Y++[u]) W e (by simp) (r.append (.cons J .nil)) ?_,Z,q⟩
 rw[UH,UW]
 lia
inductive KY(x:V)(vs:List V)(H:Hp)(Q:VK):Prop
 | mk (l:_) (b:_) (xs:_) (zs:_) (h1:x = .ref l) (h2:vs=[.ref b]) (h3:H l=some (.lst xs)) (h4:H b=some (.lst zs)) (h5:xs.length+zs.length<=af) (h6:Q .non (upd H l (.lst (xs++zs)))):KY x vs H Q
theorem Ma:MtM X "list.extend" KY:=by
 intro pins s σ H x vs v us Q I rx rv h;obtain⟨l,b,xs,zs,rfl,rfl,J,hB,hz,q⟩:=h;cases rx;obtain⟨u,rfl,ru⟩:=rv.one;cases ru;obtain⟨z,W,n,r,hl,e⟩:=I.lstM J;obtain⟨z2,Y,n2,r2,ak,e2⟩:=I.lstM hB;have hsz:W.toArray.size+Y.toArray.size<=af:=by rw[UQ,UQ];lia
 have O:¬(!W.toArray.isEmpty&&Builtin.List.listTooLong (W.toArray.size+Y.toArray.size))=true:=by
  rw[Jz hsz,Bool.and_false];exact Bool.false_ne_true
 refine bU F.slot_list_extend ⟨_,e,Z⟩ F.entry_list_extend (F.args_list_extend_2 _ _)
  (AutoSeq1.list_extend_list_list_0 l W.toArray n b Y.toArray n2 O (by rw[UQ];lia) (by lia)) ⟨e,e2,?_⟩
 refine⟨.non,_,I.lset (its':=W++Y) J e (by simp) (r.append r2) ?_,Z,q⟩
 rw[UH]
 lia
inductive QE(x:V)(y:V)(H:Hp)(Q:VK):Prop
 | mk (l:_) (b:_) (xs:_) (zs:_) (h1:x = .ref l) (h2:y = .ref b) (h3:H l=some (.lst xs)) (h4:H b=some (.lst zs)) (h5:xs.length+zs.length<=af) (h6:∀p,H p=none->Q (.ref p) (upd H p (.lst (xs++zs)))):QE x y H Q
theorem Cp:OpR X (bo .Add) QE:=by
 intro pins s σ H x y v u Q I rx ry h;obtain⟨l,b,xs,zs,rfl,rfl,J,hB,hz,q⟩:=h;cases rx;cases ry;obtain⟨z,W,n,r,hl,e⟩:=I.lstM J;obtain⟨z2,Y,n2,r2,ak,O⟩:=I.lstM hB;refine PySem.P.add_list e O ?_ (by rw[UQ,UQ];lia)
 have ea:W.toArray++Y.toArray=(W++Y).toArray:=by simp
 rw[ea];exact⟨.ref _,_,I.lnew (t':=s.toks) (r.append r2) (by rw[UH];lia),Z,q _ I.fresh⟩
inductive QD(x:V)(y:V)(H:Hp)(Q:VK):Prop
 | mk (l:_) (k:_) (xs:_) (h1:x = .ref l) (h2:y = .int k) (h3:H l=some (.lst xs)) (h4 : -(2 ^ 63)<=k) (h5:k<2 ^ 63) (h6:xs.length*k.toNat<=af) (h7:∀p,H p=none->Q (.ref p) (upd H p (.lst (Ux k.toNat xs).flatten))):QD x y H Q
theorem Lj{Y:Type}(xs:List Y)(k:Nat):(Ux k xs).flatten.length=k*xs.length:=by
 induction k with
 | zero=>simp
 | succ k ih=>rw[US,UT,UH,ih,Nat.succ_mul,Nat.add_comm]
theorem E7:OpR X (bo .Mult) QD:=by
 intro pins s σ H x y v u Q I rx ry h;obtain⟨l,k,xs,rfl,rfl,hH,h1,h2,hz,q⟩:=h;cases rx;obtain⟨t,rfl⟩:=ry;obtain⟨z,Y,n,r,hl,e⟩:=I.lstM hH;have ak:Y.toArray.size*k.toNat<=af:=by rw[UQ,<- hl];exact hz
 have J:¬Y.toArray.size*k.toNat > (2 ^ 63-1) / 8:=by
  have:(af:Nat)<=(2 ^ 63-1) / 8:=by decide
  lia
 have al:¬(!Builtin.List.listFitsIndex k)=true:=by
  rw[fitsIndex_both h1 h2];exact Bool.false_ne_true
 have W:¬Builtin.List.listTooLong (Y.toArray.size*k.toNat)=true:=by
  rw[Jz ak];exact Bool.false_ne_true
 have O:List.foldl (fun x1 x2=>x1++x2) #[] (Ux (if Y.toArray.isEmpty=true then 0 else k.toNat) Y.toArray)=(Ux k.toNat Y).flatten.toArray:=by
  have f0:∀m:Nat,List.foldl (fun x1 x2=>x1++x2) #[] (Ux m Y.toArray)=(Ux m Y).flatten.toArray:=fun m=>by
   have:=HZ Y m [];rw[List.nil_append]at this;exact this
  rw[f0];cases Y with
  | nil=>simp
  | cons a r'=>rw[if_neg (by simp)]
 refine wpAny_binaryOp_repeat_ref (T:="list") (U:="int") (by decide) ⟨_,e,Z⟩ (fun s'=>typeIs_int s' k t) noFill_list_mul F.fills_int_mul F.slot_int_rmul repeat_list F.slot_int_index.lookup
  (bU F.slot_int_rmul (typeIs_int s k t) F.entry_int_rmul (F.args_int_rmul_2 _ _) (int___rmul___int_list k t l Y.toArray n)
   ⟨e,Z,⟨_,e,Z⟩,bU F.slot_list_mul ⟨_,e,Z⟩ F.entry_list_mul (F.args_list_mul_2 _ _) (AutoListH.list___mul___list_int_3 l Y.toArray n k t al J W) ⟨e,?_⟩⟩)
 rw[O];exact⟨.ref _,_,I.lnew (t':=s.toks) (r.rep k.toNat) (by rw[Lj,Nat.mul_comm];exact hz),Z,q _ I.fresh⟩
end
section
variable {prog:ai}{w:ar}{A:aw}{E:ac->ae->Prop}{s:ae}
set_option maxRecDepth 100000 in
end
section
variable {X:Cx}
end
end L2
namespace Att
open PySem PySem.W PySem.Calls PyProof.Rows
theorem ints_of_wellAll{P:Params}{h:au}:∀(Y:List Int) (vs:List ac),WellAll P h vs (Y.map WData.int)->bz vs Y:=by
 intro Y
 induction Y with
 | nil =>
   intro vs w;rw[List.map_nil]at w;cases w;exact .nil
 | cons n Y ih =>
   intro vs w;rw[UX]at w;cases w with
   | cons a b =>
     cases a;exact .cons _ _ (ih _ b)
theorem script_of{l:OpenLaw}{n:Nat}(hn:l.most=some n){P:Params}{h:au}{args:List WData}{O:List ac}
 (W:l.row.toRowW.claim.pre args=true) (al:WellAll P h O args) :
 ∃a vs Y,O=[Value.ref a]/\args=[WData.list (Y.map WData.int)]/\h.get? a=some { cls:=.type "list",data:=.seq vs.toArray }/\bz vs Y/\Y.length<=n:=by
 have ak:WShape.hasAll [] args [.list .int]=true:=(pre_splitW W).1;have hc:l.pre.holds [] { args:=args }=true:=(pre_splitW W).2;obtain⟨d,r,rfl,h1,h2⟩:=hasAllW_cons ak;obtain rfl:=hasAllW_nil h2;obtain⟨xs,rfl,h3⟩:=hasW_list h1;obtain⟨Y,rfl⟩:=items_int h3
 have J:Y.length<=n:=by
  unfold OpenLaw.pre at hc
  have h4:(WTm.not (.lt (.lit (.int (n:Int))) (.len (.arg 0)))).holds [] { args:=[.list (Y.map .int)] }=true:=by
   have h4:=(holds_andW hc).1;rw[hn]at h4;exact h4
  have h5:=condW_of h4 (w_not (w_lt w_lit (w_len_list (w_arg rfl))));rw[UI]at h5;refine Nat.le_of_not_lt fun q=>?_;have q':(n:Int)<((Y.length:Nat):Int):=by lia
  first
   | (rw[decide_eq_true q']at h5;exact absurd h5 (by decide))
   | (simp at h5;lia)
 cases al with
 | cons w1 w2 =>
   cases w2;cases w1 with
   | list ho hall=>exact⟨_,_,Y,Z,Z,ho,ints_of_wellAll Y _ hall,J⟩
theorem post_true(l:OpenLaw)(args:List WData):l.row.toRowW.claim.post args (.bool true) args=true :=
 postW_of (r:=l.row.toRowW) (X:=(true == true))
  (show WShape.has [] (.bool true) .bool=true by first | rfl | decide | simp[WShape.has,WShape.arms,WShape.armsAll])
  (show(WTm.eq .res (.lit (.bool true))).value [] { args:=args,res:=some (.bool true),after:=args }=some (.bool (true == true)) from w_eq_bool (w_res rfl) w_lit) rfl
theorem attach_call{l:OpenLaw}{n:Nat}{q:ai}{O:List Str}{XP:(Str->Option ac)->au->Prop}{YP:ar->au->Prop}{d:DefRec}
 (hn:l.most=some n) (aF:d.params.defaults=[])
 (aC:∀(w:ar) (s₀ W:ae) (mg mb:Str->Option ac) (fa:aa) (o:Obj) (pm cd J:ac) (a:aa) (vs:List ac) (ns:List Int),
  Ground q O [] XP w s₀ mg mb W.heap->YP w W.heap ->
  W.heap.get? fa=some o->o.data = .func (docDef d.name d.params d.body d.scope pm cd J)->W.heap.CodeRec cd d.name->mg d.name=some (.ref fa) ->
  W.heap.get? a=some { cls:=.type "list",data:=.seq vs.toArray }->bz vs ns->ns.length<=n->W.gens = #[] ->
  aR (ao l.prog w) callerA (.call (.ref fa) ⟨[.ref a],[]⟩) (fun r s'=>r = .ok (.ret (.bool true))/\OldK W.heap s'.heap/\s'.os=W.os/\aW s'.gens) W) :
 WalkO q O XP YP l.row.toRowW d [] (fun f vs=>PySem.call f vs):=by
 intro w s₀ W mg mb G Y fa o pm cd J dV kV ho hd a0 hD aP hg args bc as an bb bd ba be;obtain rfl:dV = .none:=Dflts.none hD aF;obtain rfl:kV = .none:=Dflts.noKw hD;obtain⟨a,vs,ns,rfl,rfl,al,ak,ap⟩:=script_of hn an ba;refine enter_call (aK (aC w s₀ W mg mb fa o pm cd J a vs ns G Y ho (fd_plain hd) a0 aP al ak ap hg) fun r s' hq=>?_);obtain⟨rfl,h2,h3,h4⟩:=hq;exact⟨.inl ⟨.bool true,.bool true,[],Z,fun _=>rfl,.bool true,post_true l _,fun _=>⟨List.Pairwise.nil,fun _ hm=>(nomatch hm)⟩⟩,h2,h3,h4⟩
section
variable {prog:ai}{w:ar}{A:aw}{E:ac->ae->Prop}{s:ae}{K:Frag}
end
end Att
namespace L2
open PySem PySem.Spec PyProof.Rows
theorem LL{vs:List ac}{Y:List Int}(h:bz vs Y):AI (Y.map V.int) vs:=by
 induction h with
 | nil=>exact .nil
 | cons n t h ih=>exact .cons ⟨t,Z⟩ ih
def BH(s:aS):aZ:=match s with
 | .FunctionDef _ a _ _ _ _ _ _ _ _=>a
 | _=>{ posonlyargs:=[],args:=[],vararg:=none,kwonlyargs:=[],kw_defaults:=[],kwarg:=none,defaults:=[] }
def Bf(s:aS):List aS:=match s with
 | .FunctionDef _ _ b _ _ _ _ _ _ _=>b
 | _=>[]
def Af(s:aS):aB:=match s with
 | .FunctionDef _ _ _ _ _ _ sc _ _ _=>sc
 | _=>{ kind:=.function,names:=[],isGenerator:=false,isCoroutine:=false }
abbrev CX0:CXT:=fun _ _ _ _ _ _=>False
abbrev E0:XK:=fun _ _ _=>False
theorem QI{X:Cx}:EL CX0 X E0:=fun _ _ _ _ _ _ _ h=>h.elim
structure Fun(K:U5)(x qual:Str)(st:aS)(f:aa)(fd:ag):Prop where
 ex:∃(oc:ac) (od:Option aa) (kV doc pm:ac) (an:Option aa) (cdv ct:ac) (osl:Array (Option ac)),
  fd=UK x qual (BH st) (Bf st) (Af st) .none kV doc pm an cdv ct/\K.lookup f=some ⟨oc,od,.func fd,osl⟩/\UL K cdv qual=true
 kp:Us K (.ref f)=true
section
variable {P:ai}{w:ar}{K:U5}{mg:Str->Option ac}{base:au}
theorem Fun.ok{x qual:Str}{st:aS}{f:aa}{fd:ag}{N ps:List Str}{k:Nat}{sp:Sp}(F:Fun K x qual st f fd)(S:Ao N ps (Af st))(O:∀vs H Q E,sp vs H Q E->vs.length=ps.length)
 (W:∀(Y:ac) (A:aw) (outer:List Env) (s:ae) (H:Hp) (vs:List V) (Q:VK) (E:XK),BM k (A.deeper (envOfC qual (Af st) s.heap.objs.size f Y))->sp vs H Q E ->
  ∃t,PSs (Ft CX0 P w K mg base N qual (Af st) f Y A outer s H E).nox (Bf st) t/\t { nx:=fun _ H'=>Q .non H',rt:=Q } (Et N vs) H):Ay P w K mg base CX0 (k+1) f fd ps sp:=by
 obtain⟨oc,od,kV,al,pm,an,Y,ct,ap,rfl,lk,J⟩:=F.ex;refine Nk lk J S O fun A outer s H vs Q E hr ak=>?_;obtain⟨t,h,q⟩:=W Y A outer s H vs Q E hr ak;exact⟨t,h.nox,q⟩
theorem Fun.binds{x qual:Str}{st:aS}{f:aa}{fd:ag}{ps:List Str}(F:Fun K x qual st f fd)
 (h:∀(kV W O:ac) (J:Option aa) (Y ct:ac) (us:List ac),us.length=ps.length->aT (UK x qual (BH st) (Bf st) (Af st) .none kV W O J Y ct) ⟨us,[]⟩=pure (ps.zip us)):Bv K fd ps []:=by
 obtain⟨oc,od,kV,W,O,J,Y,ct,ak,rfl,lk,al⟩:=F.ex;exact .all (h kV W O J Y ct)
theorem Hj{x qual:Str}{st:aS}{f:aa}{oc:ac}{od an:Option aa}{O:Array (Option ac)}{kV W J Y ct:ac}(l:K.lookup f=some ⟨oc,od,.func (UK x qual (BH st) (Bf st) (Af st) .none kV W J an Y ct),O⟩)
 (c:UL K Y qual=true) (k:Us K (.ref f)=true):Fun K x qual st f (UK x qual (BH st) (Bf st) (Af st) .none kV W J an Y ct):=⟨⟨oc,od,kV,W,J,an,Y,ct,O,Z,l,c⟩,k⟩
end
theorem AA{n:Nat}(h:n<=1000):n<af:=UY h (by decide)
section
variable {X:Cx}
theorem pv(i:Nat){x:Str}{pos:Pos}(J:X.N[i]? = some x:=by rfl)(W:Vis X.env.scope x:=by first | exact Or.inl rfl | exact Or.inr (Or.inl rfl) | exact Or.inr (Or.inr rfl))(O:(x == ("__debug__" : Str))=false:=by decide)
 (Y:(x == ("__classdict__" : Str))=false:=by decide):PE X (.Name x pos) (LU i):=Po J W O Y
end
theorem EJ{A B:Prop}(h:B):if false=true then A else B:=by
 rw[if_neg Bool.false_ne_true];exact h
theorem Ox{A B:Prop}(h:A):if true=true then A else B:=by
 rw[if_pos rfl];exact h
theorem KC{c A B:Prop}[Decidable c](h1:c->A)(h2:¬c->B):if c then A else B:=by
 by_cases h:c
 ·rw[if_pos h];exact h1 h
 ·rw[if_neg h];exact h2 h
def Ae(H H':Hp):Prop:=∀b o,H b=some o->H' b=some o
theorem Ae.refl(H:Hp):Ae H H:=fun _ _ h=>h
theorem Ae.trans{H H1 H2:Hp}(a:Ae H H1)(b:Ae H1 H2):Ae H H2:=fun c o h=>b c o (a c o h)
theorem Ae.free{H H':Hp}(e:Ae H H'){l:aa}(h:H' l=Option.none):H l=Option.none:=by
 cases q:H l with
 | none=>rfl
 | some o =>
   rw[e l o q]at h;cases h
theorem Ae.seq{K:U5}{H H':Hp}{a:aa}{xs:List V}(e:Ae H H')(h:SqL K H a xs):SqL K H' a xs:=by
 rcases h with (h | ⟨o,h⟩) | h
 ·exact .inl (.inl (e _ _ h))
 ·exact .inl (.inr ⟨o,e _ _ h⟩)
 ·exact .inr h
section
variable {κ:Type}[DecidableEq κ]
end
theorem QU{P:ai}{w:ar}{k:Key}{u:ac}(r:AR (kV k) u):(D7 P w).is k u=true:=by
 cases k with
 | inl i=>obtain⟨t,e⟩:=(show ∃t,u=Value.int i t from r);subst e;exact JE P w i t
 | inr x=>obtain⟨t,e⟩:=(show ∃t,u=Value.str x t from r);subst e;exact JD P w x t
theorem HW{P:ai}{w:ar}:∀{ks:List Key} {us:List ac},AI (ks.map kV) us->ItemsAre (D7 P w) ks us
 | [],_,r=>by rw[List.map_nil]at r;cases r;exact .nil
 | k::ks,_,r=>by
   rw[UX]at r;cases r with
   | cons h t=>exact .cons (QU h) (HW t)
section
variable {P:ai}{w:ar}{H:Hp}{h:au}{a:aa}
end
section
variable {X:Cx}{pins:List (aa×Obj)}{σ:St}{H:Hp}{s:ae}{a:aa}{y v:V}{u r:ac}{o:Option V}{A:aw}{E:ac->ae->Prop}
theorem Inv.big(I:Inv X pins σ H s):sysModules<s.heap.objs.size:=by
 have h:aj<s.heap.objs.size:=(I.mod.glob.keeps I.bk).lt;exact UZ (by decide) h
end
section
variable {X:Cx}{pins:List (aa×Obj)}{σ:St}{H:Hp}{s:ae}{a:aa}{kvs:List (Key×V)}{k:Key}{u:ac}{A:aw}{E:ac->ae->Prop}
end
section
variable {X:Cx}{o i e value:Expr}{pos pos' tpos:Pos}{td ty tv:TE}
end
theorem Nq{P:ai}{w:ar}{H:Hp}(h:au)(Y:sysModules<h.objs.size):BW P w H (h.push { cls:=.type "dict",data:=.dict #[] }) h.objs.size (.dT []) :=
 ⟨Uo _,beq_eq_false_iff_ne.mpr (Ne.symm (TZ Y)),[],.nil,_,#[],0,Heap.get?_push_size _ rfl,⟨Z,Z,Z⟩,Z,Z,V0⟩
def P5:TE:=fun _ H Q=>∀p,H p=none->Q (.ref p) (upd H p (.dT []))
section
variable {X:Cx}{pos:Pos}
theorem MT:PE X (.Dict [] [] pos) P5:=fun pins s σ H Q I h =>
 wpAny_Dict_empty ⟨.ref s.heap.objs.size,_,I.laid (a:=s.heap.objs.size) (o:=.dT []) (t':=s.toks) (fun _ _ q=>Heap.get?_push_of_some _ q) (Uk _) (Nq s.heap I.big),Z,h _ (I.hok.fresh (Uk _))⟩
end
structure M1(X:Cx)(o:Expr)(m:Str)(apos:Pos)(e:Expr)(cpos:Pos):Prop where
 base:bQ o m X.env (aD o X.env)=aD o X.env
 few:((aN cpos (aq [e] X.env)).all (fun x=>!x.1)&&(backToKw cpos (keywordEach [] X.env)).all (fun x=>x.1.isSome)
  && decide (([e]:List Expr).length+([]:List bK).length+(if ([]:List bK).isEmpty then 0 else 1)<30))=true
 line:(apos.endLine == cpos.line)=true
 trees:aN cpos (aq [e] X.env)=[(false,aD e X.env)]
structure M2(X:Cx)(o:Expr)(m:Str)(apos:Pos)(e f:Expr)(cpos:Pos):Prop where
 base:bQ o m X.env (aD o X.env)=aD o X.env
 few:((aN cpos (aq [e,f] X.env)).all (fun x=>!x.1)&&(backToKw cpos (keywordEach [] X.env)).all (fun x=>x.1.isSome)
  && decide (([e,f]:List Expr).length+([]:List bK).length+(if ([]:List bK).isEmpty then 0 else 1)<30))=true
 line:(apos.endLine == cpos.line)=true
 trees:aN cpos (aq [e,f] X.env)=[(false,aD e X.env),(false,aD f X.env)]
section
variable {X:Cx}{pins:List (aa×Obj)}{σ:St}{H:Hp}{s:ae}{a:aa}{y d:V}{u r:ac}{o:Option V}{A:aw}{E:ac->ae->Prop}
end
section
variable {X:Cx}{o e f:Expr}{apos cpos:Pos}{td ty tx:TE}
end
section
variable {X:Cx}{pins:List (aa×Obj)}{σ:St}{H:Hp}{s:ae}{a:aa}{kvs:List (Key×V)}{A:aw}{E:ac->ae->Prop}
end
section
variable {X:Cx}{pins:List (aa×Obj)}{σ:St}{H:Hp}{s:ae}{a:aa}{y:V}{u:ac}{A:aw}{E:ac->ae->Prop}
end
end L2
namespace Nm
def msr(a b:Int):Int:=if b<0 then -(V1 a b:Int) else (V1 a b:Int)
theorem gcd_pos{a b:Int}(Y:b≠0):0<V1 a b:=Nat.pos_of_ne_zero fun h=>Y (Int.gcd_eq_zero_iff.mp h).2
theorem msr_ne{a b:Int}(Y:b≠0):msr a b≠0:=by
 have:=gcd_pos (a:=a) Y;unfold msr;split<;>lia
theorem fdiv_neg_dvd{a g:Int}(h:g∣a):a.fdiv (-g) = -(a / g):=by
 obtain⟨k,rfl⟩:=h;by_cases hg:g=0
 ·subst hg;simp
 ·rw[Int.mul_ediv_cancel_left _ hg,show g*k = -g * -k by rw[Int.neg_mul_neg],V2 _ (by lia)]
theorem fdiv_dvd{a g:Int}(h:g∣a):a.fdiv g=a / g:=by
 obtain⟨k,rfl⟩:=h;by_cases hg:g=0
 ·subst hg;simp
 ·rw[Int.mul_ediv_cancel_left _ hg,V2 _ hg]
theorem top_msr{a b:Int}(Y:b≠0):a.fdiv (msr a b)=(V3 a b).num:=by
 rw[Rat.num_divInt,Int.gcd_comm b a];have d:(V1 a b:Int)∣a:=V4 ..;unfold msr
 split
 ·rename_i h
  rw[fdiv_neg_dvd d,Int.sign_eq_neg_one_of_neg h,Int.neg_mul,V5,Int.neg_ediv_of_dvd d]
 ·rw[fdiv_dvd d,Int.sign_eq_one_of_pos (by lia),V5]
theorem bottom_msr{a b:Int}(Y:b≠0):b.fdiv (msr a b)=(V3 a b).den:=by
 rw[Rat.den_divInt,if_neg Y,Int.gcd_comm b a];have d:(V1 a b:Int)∣b:=V6 ..;rw[Int.natCast_ediv];unfold msr
 split
 ·rename_i h
  rw[fdiv_neg_dvd d,<- Int.neg_ediv_of_dvd d,Int.ofNat_natAbs_of_nonpos (by lia)]
 ·rw[fdiv_dvd d,Int.natAbs_of_nonneg (by lia)]
theorem gcd_turn(x y:Int):V1 y (x % y)=V1 x y:=by
 have e:x % y+y*(x / y)=x:=Int.emod_add_mul_ediv x y;have h:V1 (x % y+y*(x / y)) y=V1 (x % y) y:=Int.gcd_add_mul_left_left ..;rw[e]at h;rw[h,Int.gcd_comm]
theorem abs_if(i:Int):(if i<0 then -i else i)=(i.natAbs:Int):=by split<;>lia
theorem num_mul(q:Rat):((q.num:Int):Rat)=q*((q.den:Int):Rat):=by
 have Y:((q.den:Nat):Int)≠0:=by have:=q.den_pos;lia
 have h1:q=(q.num:Rat) / ((q.den:Int):Rat):=by
  have:=Rat.num_divInt_den q;rw[V7]at this;exact this.symm
 have W:(((q.den:Int)):Rat)≠0:=fun z=>Y (by exact_mod_cast z)
 conv=>rhs;lhs;rw[h1]
 rw[V8 W]
theorem den_ne(q:Rat):((q.den:Nat):Int)≠0:=by have:=q.den_pos;lia
theorem cast_ne{a:Int}(h:a≠0):(a:Rat)≠0:=fun z=>h (by exact_mod_cast z)
theorem div_eq{t b:Int}{q:Rat}(Y:b≠0)(h:(t:Rat)=q*(b:Rat)):V3 t b=q:=by
 rw[V7,h,Rat.mul_div_cancel (cast_ne Y)]
theorem plus_eq(p q:Rat):V3 (p.num*q.den+q.num*p.den) (p.den*q.den)=p+q :=
 div_eq (V9 (den_ne p) (den_ne q)) (by rw[Rat.intCast_add,Va,Va,Va,num_mul p,num_mul q];grind)
theorem minus_eq(p q:Rat):V3 (p.num*q.den-q.num*p.den) (p.den*q.den)=p-q :=
 div_eq (V9 (den_ne p) (den_ne q)) (by rw[Vb,Va,Va,Va,num_mul p,num_mul q];grind)
theorem times_eq(p q:Rat):V3 (p.num*q.num) (p.den*q.den)=p*q :=
 div_eq (V9 (den_ne p) (den_ne q)) (by rw[Va,Va,num_mul p,num_mul q];grind)
theorem pow_add(x:Rat)(m:Nat):∀n:Nat,x ^ (m+n)=x ^ m*x ^ n
 | 0=>by rw[Vc,Vd];grind
 | n+1=>by rw[<- Nat.add_assoc,Ve,Ve,pow_add x m n];grind
end Nm
namespace Cv
def ev:List Rat->Rat->Rat
 | [],_=>0
 | q::r,x=>q+x*ev r x
def strip:List Rat->List Rat
 | []=>[]
 | q::r=>if strip r=[]/\q=0 then [] else q::strip r
theorem ev_strip(x:Rat):∀qs,ev (strip qs) x=ev qs x
 | []=>rfl
 | q::r=>by
   have ih:=ev_strip x r;unfold strip
   split
   ·rename_i h
    rw[h.1]at ih;show(0:Rat)=q+x*ev r x;rw[<- ih,h.2];show(0:Rat)=0+x*0;grind
   ·show q+x*ev (strip r) x=_;rw[ih];rfl
theorem strip_length:∀qs,(strip qs).length<=qs.length
 | []=>Uk _
 | q::r=>by
   have ih:=strip_length r;unfold strip
   split
   ·exact Uo _
   ·exact Nat.succ_le_succ ih
theorem strip_last:∀qs,strip qs≠[]->(strip qs)[(strip qs).length-1]? ≠ some 0
 | [],h=>absurd rfl h
 | q::r,h=>by
   have ih:=strip_last r;unfold strip at h ⊢
   split at h
   ·exact absurd rfl h
   ·rename_i Y
    rw[if_neg Y];by_cases e:strip r=[]
    ·rw[e];intro z;have W:q=0:=by simpa using z
     exact Y ⟨e,W⟩
    ·have O:0<(strip r).length:=Vf.mpr e;rw[Vg,show(strip r).length+1-1=((strip r).length-1)+1 by lia,Vh]
     exact ih e
theorem strip_mem:∀qs q,q∈strip qs->q∈qs
 | [],_,h=>h
 | p::r,q,h=>by
   unfold strip at h
   split at h
   ·cases h
   ·rcases Ub.mp h with e | e
    ·exact e ▸ U9
    ·exact Ua _ (strip_mem r q e)
theorem take_strip:∀(qs:List Rat) (w:Nat),(∀j q,w<=j->qs[j]? = some q->q=0)->(w=0\/∃q,qs[w-1]? = some q/\q≠0)->qs.take w=strip qs
 | [],w,_,_=>by simp[strip]
 | p::r,0,h,_=>by
   have Y:=take_strip r 0 (fun j q _ e=>h (j+1) q (by lia) (by simpa using e)) (.inl rfl)
   have hp:p=0:=h 0 p (Uk _) rfl;unfold strip;rw[<- Y,if_pos ⟨Z,hp⟩];rfl
 | p::r,w+1,h,h2=>by
   have hz:∀j q,w<=j->r[j]? = some q->q=0:=fun j q hj e=>h (j+1) q (by lia) (by simpa using e)
   by_cases hw:w=0
   ·subst hw;have Y:=take_strip r 0 hz (.inl rfl)
    rcases h2 with z | ⟨q,e,W⟩
    ·exact absurd z (by lia)
    ·have e':p=q:=by simpa using e
     subst e';unfold strip;rw[<- Y,if_neg (fun z=>W z.2)];rfl
   ·have Y:=take_strip r w hz (by
     rcases h2 with z | ⟨q,e,W⟩
     ·exact absurd z (by lia)
     ·refine .inr ⟨q,?_,W⟩;rw[show w+1-1=(w-1)+1 by lia,Vh]at e
      exact e)
    have O:strip r≠[]:=by
     rw[<- Y]
     rcases h2 with z | ⟨q,e,W⟩
     ·exact absurd z (by lia)
     ·rw[show w+1-1=(w-1)+1 by lia,Vh]at e
      intro z
      have J:0<(r.take w).length:=by
       rw[Uy];have:=(Ue.mp e).1
       lia
      rw[z]at J;simp at J
    unfold strip;rw[<- Y,if_neg (fun z=>O (by rw[<- Y];exact z.1))];rfl
def pw:List Rat->Rat->Rat->Rat
 | [],_,_=>0
 | q::r,x,p=>q*p+pw r x (p*x)
theorem ev_scale(c x:Rat):∀qs,ev (qs.map (· * c)) x=ev qs x*c
 | []=>by show(0:Rat)=0*c;grind
 | q::r=>by
   show q*c+x*ev (r.map (· * c)) x=(q+x*ev r x)*c;rw[ev_scale c x r];grind
theorem ev_snoc(x q:Rat):∀l:List Rat,ev (l++[q]) x=ev l x+q*x ^ l.length
 | []=>by show q+x*0=0+q*x ^ 0;rw[Vd];grind
 | p::r=>by
   show p+x*ev (r++[q]) x=(p+x*ev r x)+q*x ^ (r.length+1);rw[ev_snoc x q r,Ve];grind
theorem strip_zeros:∀(qs:List Rat) (n:Nat),strip (qs++Ux n 0)=strip qs
 | [],0=>rfl
 | [],n+1=>by
   have Y:=strip_zeros [] n;show strip (0::Ux n 0)=[];unfold strip;have e:strip (Ux n 0)=[]:=by simpa [strip] using Y
   rw[if_pos ⟨e,Z⟩]
 | q::r,n=>by
   have Y:=strip_zeros r n;show strip (q::(r++Ux n 0))=strip (q::r);unfold strip;rw[Y]
theorem ev_set(x d:Rat):∀(l:List Rat) (i:Nat) (v:Rat),l[i]? = some v->ev (l.set i (v+d)) x=ev l x+d*x ^ i
 | [],_,_,h=>by simp at h
 | q::r,0,v,h=>by
   have e:q=v:=by simpa using h
   subst e;show(q+d)+x*ev r x=(q+x*ev r x)+d*x ^ 0;rw[Vd];grind
 | q::r,i+1,v,h=>by
   show q+x*ev (r.set i (v+d)) x=(q+x*ev r x)+d*x ^ (i+1);rw[ev_set x d r i v (by simpa using h),Ve];grind
theorem ev_zeros(x:Rat):∀n,ev (Ux n 0) x=0
 | 0=>rfl
 | n+1=>by
   show(0:Rat)+x*ev (Ux n 0) x=0;rw[ev_zeros x n];grind
def evI(ts:List Int)(x:Rat):Rat:=ev (ts.map fun t:Int=>(t:Rat)) x
theorem evI_set(x:Rat)(l:List Int)(i:Nat)(v d:Int)(h:l[i]? = some v):evI (l.set i (v+d)) x=evI l x+(d:Rat)*x ^ i:=by
 unfold evI;rw[Vi,Rat.intCast_add];exact ev_set x _ _ i _ (by rw[UC,h];rfl)
theorem evI_zeros(x:Rat)(n:Nat):evI (Ux n 0) x=0:=by
 unfold evI;rw[List.map_replicate];exact ev_zeros x n
theorem evI_take_succ(x:Rat)(l:List Int)(i:Nat)(v:Int)(h:l[i]? = some v):evI (l.take (i+1)) x=evI (l.take i) x+(v:Rat)*x ^ i:=by
 have hi:i<l.length:=(Ue.mp h).1;unfold evI;rw[Vj,h];show ev ((l.take i++[v]).map _) x=_;rw[Vk];show ev (_++[(v:Rat)]) x=_;rw[ev_snoc,UI,Uy,UN (by lia)]
theorem evI_cons(x:Rat)(t:Int)(l:List Int):evI (t::l) x=(t:Rat)+x*evI l x:=rfl
theorem evI_scale(x:Rat)(c:Int)(l:List Int):evI (l.map (c * ·)) x=(c:Rat)*evI l x:=by
 induction l with
 | nil=>show(0:Rat)=_*0;grind
 | cons t l ih=>rw[UX,evI_cons,evI_cons,ih,Va];grind
theorem evI_last(x:Rat)(l:List Int)(t:Int)(h:l[l.length-1]? = some t):evI l x=evI (l.take (l.length-1)) x+(t:Rat)*x ^ (l.length-1):=by
 have Y:l.length-1<l.length:=(Ue.mp h).1;have:=evI_take_succ x l (l.length-1) t h;rw[show l.length-1+1=l.length by lia,Vl]at this
 exact this
def quot(c:Rat):List Rat->List Rat
 | []=>[]
 | [_]=>[]
 | _::b::l=>ev (b::l) c::quot c (b::l)
theorem quot_ev(c x:Rat):∀l:List Rat,ev l x=ev l c+(x-c)*ev (quot c l) x
 | []=>by show(0:Rat)=0+_*0;grind
 | [a]=>by show a+x*0=a+c*0+(x-c)*0;grind
 | a::b::l=>by
   have h:=quot_ev c x (b::l);show a+x*ev (b::l) x=a+c*ev (b::l) c+(x-c)*(ev (b::l) c+x*ev (quot c (b::l)) x);rw[h];grind
theorem quot_length(c:Rat):∀l:List Rat,(quot c l).length=l.length-1
 | []=>rfl
 | [_]=>rfl
 | _::b::l=>by
   show(quot c (b::l)).length+1=_;rw[quot_length c (b::l)];simp
theorem ev_none(x:Rat):∀l:List Rat,(∀q∈l,q=0)->ev l x=0
 | [],_=>rfl
 | a::l,h=>by
   show a+x*ev l x=0;rw[h a U9,ev_none x l fun q hq=>h q (Ua _ hq)]
   grind
theorem ident:∀(n:Nat) (l:List Rat),l.length<=n->∀s:Nat,(∀k:Nat,s<=k->ev l (k:Rat)=0)->∀q∈l,q=0
 | 0,l,hl,_,_=>by
   have e:l=[]:=Vm (by lia)
   rw[e];exact fun q h=>nomatch h
 | n+1,[],_,_,_=>fun q h=>nomatch h
 | n+1,a::t,hl,s,h=>by
   have hs:=h s (Uk _)
   have hq:∀q∈quot (s:Rat) (a::t),q=0:=ident n _ (by rw[quot_length];simp at hl ⊢;lia) (s+1) fun k hk=>by
    have e:=quot_ev (s:Rat) (k:Rat) (a::t);rw[h k (by lia),hs]at e
    have W:((k:Rat)-(s:Rat))*ev (quot (s:Rat) (a::t)) (k:Rat)=0:=by grind
    rcases Vn.mp W with z | z
    ·have z2:(k:Rat)=(s:Rat):=by grind
     have z3:k=s:=by exact_mod_cast z2
     lia
    ·exact z
   have Y:∀x,ev (a::t) x=0:=fun x=>by
    rw[quot_ev (s:Rat) x (a::t),hs,ev_none x _ hq];grind
   have J:a=0:=by
    have:=Y 0;show a=0;have e:ev (a::t) 0=a+0*ev t 0:=rfl;rw[e]at this
    grind
   have ht:∀q∈t,q=0:=ident n t (by simp at hl;lia) 1 fun k hk=>by
    have e:=Y (k:Rat);have e1:ev (a::t) (k:Rat)=a+(k:Rat)*ev t (k:Rat):=rfl;rw[e1,J]at e;have W:(k:Rat)*ev t (k:Rat)=0:=by grind
    rcases Vn.mp W with z | z
    ·have z3:k=0:=by exact_mod_cast z
     lia
    ·exact z
   intro q O
   rcases Ub.mp O with z | z
   ·rw[z];exact J
   ·exact ht q z
def dif:List Rat->List Rat->List Rat
 | [],m=>m.map (· * (-1))
 | a::l,m=>(a-m.headD 0)::dif l m.tail
theorem ev_head(x:Rat)(m:List Rat):ev m x=m.headD 0+x*ev m.tail x:=by
 cases m with
 | nil=>show(0:Rat)=0+x*0;grind
 | cons b m=>rfl
theorem dif_ev(x:Rat):∀l m:List Rat,ev (dif l m) x=ev l x-ev m x
 | [],m=>by
   show ev (m.map (· * (-1))) x=0-ev m x;rw[ev_scale];grind
 | a::l,m=>by
   show(a-m.headD 0)+x*ev (dif l m.tail) x=(a+x*ev l x)-ev m x;rw[dif_ev x l m.tail,ev_head x m];grind
theorem dif_none:∀l m:List Rat,l.length=m.length->(∀q∈dif l m,q=0)->l=m
 | [],[],_,_=>rfl
 | [],_::_,e,_=>nomatch e
 | _::_,[],e,_=>nomatch e
 | a::l,b::m,e,h=>by
   have h1:a-b=0:=h _ U9;have h2:=dif_none l m (by simpa using e) fun q Y=>h q (Ua _ Y)
   rw[h2,show a=b by grind]
theorem same_of(l m:List Rat)(e:l.length=m.length)(h:∀x,ev l x=ev m x):l=m :=
 dif_none l m e (ident _ _ (Uk _) 0 fun k _=>by rw[dif_ev,h];grind)
end Cv
namespace L2
open PySem PySem.Spec PyProof.Rows
theorem DO{env:Env}:∀(names:List (Str×bS)) (Y:List (Str×aa)),(∀x∈names,x.2 = .free->∃c,env.cells.lookup x.1=some c) ->
 ∃cl:List (Str×aa),(forIn (m:=Sem) names Y fun x r=>do
  if x.2 == .free then pure (ForInStep.yield ((x.1,<- cellOf env x.1)::r)) else pure (ForInStep.yield r))=pure cl /\
  (∀p∈cl,p∈Y\/env.cells.lookup p.1=some p.2)/\(∀p∈Y,p∈cl)/\∀x∈names,x.2 = .free->∃c,(x.1,c)∈cl
 | [],Y,_=>⟨Y,Z,fun _ h=>.inl h,fun _ h=>h,fun _ h=>nomatch h⟩
 | x::r,Y,h=>by
   by_cases hk:x.2 = .free
   ·obtain⟨c,hc⟩:=h x U9 hk;obtain⟨cl,e,h1,h2,h3⟩:=DO r ((x.1,c)::Y) fun y W=>h y (Ua _ W);refine⟨cl,?_,fun p hp=>?_,fun p hp=>h2 p (Ua _ hp),fun y W J=>?_⟩
    ·rw[Vo];have z:(x.2 == NameKind.free)=true:=by rw[hk];rfl
     have O:cellOf env x.1=pure c:=by unfold cellOf;rw[hc]
     simp only[z,if_true,O];exact e
    ·rcases h1 p hp with q | q
     ·rcases Ub.mp q with rfl | q
      ·exact .inr hc
      ·exact .inl q
     ·exact .inr q
    ·rcases Ub.mp W with rfl | W
     ·exact⟨c,h2 _ U9⟩
     ·exact h3 y W J
   ·obtain⟨cl,e,h1,h2,h3⟩:=DO r Y fun y W=>h y (Ua _ W);refine⟨cl,?_,h1,h2,fun y W J=>?_⟩
    ·rw[Vo]
     have z:(x.2 == NameKind.free)=false:=by
      cases e:x.2<;>first | rfl | exact absurd e hk
     simp only[z,Bool.false_eq_true,if_false];exact e
    ·rcases Ub.mp W with rfl | W
     ·exact absurd J hk
     ·exact h3 y W J
theorem Ey{x:Str}{c:aa}:∀{cl:List (Str×aa)},(x,c)∈cl->∃Y,cl.lookup x=some Y
 | [],h=>nomatch h
 | (y,d)::r,h=>by
   by_cases e:x=y
   ·subst e;exact⟨d,by simp⟩
   ·rcases Ub.mp h with q | q
    ·cases q;exact absurd rfl e
    ·obtain⟨Y,q'⟩:=Ey q;refine⟨Y,?_⟩;have:(x == y)=false:=by simpa using e
     rw[Vp,this];exact q'
theorem Ez{scope:aB}{env:Env}(h:∀x∈scope.names,x.2 = .free->∃c,env.cells.lookup x.1=some c) :
 ∃cl:List (Str×aa),closureFor scope env=pure cl/\(∀x c,cl.lookup x=some c->env.cells.lookup x=some c)/\∀x∈scope.names,x.2 = .free->∃c,cl.lookup x.1=some c:=by
 obtain⟨cl,e,h1,_,Y⟩:=DO scope.names [] h;refine⟨cl,?_,fun x c q=>?_,fun x W O=>?_⟩
 ·unfold closureFor;simp only[bind_pure];exact e
 ·rcases h1 _ (PySem.mem_of_lookup q) with z | z
  ·exact nomatch z
  ·exact z
 ·obtain⟨c,J⟩:=Y x W O;exact Ey J
theorem CG{env:Env}:∀{names:List (Str×bS)} {x:Str},names.lookup x=some .free ->
 (names.map fun(n,k)=>if (k == NameKind.free&&env.scope.kind == .function&&env.kindOf n == some .cell) then (n,NameKind.cell) else (n,k)).lookup x=some .cell \/
 (names.map fun(n,k)=>if (k == NameKind.free&&env.scope.kind == .function&&env.kindOf n == some .cell) then (n,NameKind.cell) else (n,k)).lookup x=some .free
 | [],_,h=>by simp at h
 | (n,k)::r,x,h=>by
   have ih:=@CG env r x;show Vq x ((if (k == NameKind.free&&env.scope.kind == .function&&env.kindOf n == some .cell)=true then (n,NameKind.cell) else (n,k))::_)=_\/Vq x ((if (k == NameKind.free&&env.scope.kind == .function&&env.kindOf n == some .cell)=true then (n,NameKind.cell) else (n,k))::_)=_;cases hx:x == n with
   | true =>
     simp only[Vp,hx]at h;cases h;by_cases hc:(NameKind.free == NameKind.free&&env.scope.kind == .function&&env.kindOf n == some .cell)=true
     ·rw[if_pos hc];simp[Vp,hx]
     ·rw[if_neg hc];simp[Vp,hx]
   | false =>
     simp only[Vp,hx]at h;by_cases hc:(k == NameKind.free&&env.scope.kind == .function&&env.kindOf n == some .cell)=true
     ·rw[if_pos hc];simp only[Vp,hx];exact ih h
     ·rw[if_neg hc];simp only[Vp,hx];exact ih h
theorem EZ{env:Env}{x:Str}:∀{names:List (Str×bS)},(∀y∈names,y.2 ≠ .cell) ->
 ((names.map fun(n,k)=>if (k == NameKind.free&&env.scope.kind == .function&&env.kindOf n == some .cell) then (n,NameKind.cell) else (n,k)).lookup x=some .cell \/
  (names.map fun(n,k)=>if (k == NameKind.free&&env.scope.kind == .function&&env.kindOf n == some .cell) then (n,NameKind.cell) else (n,k)).lookup x=some .free)->(x,NameKind.free)∈names
 | [],_,h=>by simp at h
 | (n,k)::r,hc,h=>by
   have ih:=@EZ env x r fun y Y=>hc y (Ua _ Y);have W:k ≠ .cell:=hc (n,k) U9;change Vq x ((if (k == NameKind.free&&env.scope.kind == .function&&env.kindOf n == some .cell)=true then (n,NameKind.cell) else (n,k))::_)=_\/Vq x ((if (k == NameKind.free&&env.scope.kind == .function&&env.kindOf n == some .cell)=true then (n,NameKind.cell) else (n,k))::_)=_ at h;cases hx:x == n with
   | true =>
     have e:x=n:=by simpa using hx
     subst e;by_cases hq:(k == NameKind.free&&env.scope.kind == .function&&env.kindOf x == some .cell)=true
     ·have:k = .free:=by
       cases k<;>first | rfl | (simp at hq)
      subst this;exact U9
     ·rw[if_neg hq]at h;simp only[Vp,hx]at h
      rcases h with h | h
      ·cases h;exact absurd rfl W
      ·cases h;exact U9
   | false =>
     refine Ua _ (ih ?_);by_cases hq:(k == NameKind.free&&env.scope.kind == .function&&env.kindOf n == some .cell)=true
     ·rw[if_pos hq]at h;simpa only[Vp,hx] using h
     ·rw[if_neg hq]at h;simpa only[Vp,hx] using h
def BP(X:Cx)(N:List Str)(scope:aB)(cl:List (Str×aa))(C:aa)(s:ae)(H:Hp)(fp:List aa):Cx :=
 { prog:=X.prog,w:=X.w,K:=X.K,mg:=X.mg,base:=X.base,A:=X.A,N:=N,s₀:=s,H₀:=H,env:=compEnvC scope cl C X.env,outer:=X.stack,stack:=X.stack,ex:=fp,
   fn:=fun _=>false,calm:=X.calm,pn:=[],xe:=fun _ _=>False }
def cS(nt:Nat)(js:List Nat)(σ:St):St:=Ux nt none++js.map fun i=>σ.getD i none
abbrev Fj(ys:List ac):Obj:={ cls:=.type "list",data:=.seq ys.toArray ys.length }
theorem J3{prog:ai}{w:ar}{A:aw}{R:Result->ae->Prop}{s:ae}{elt Y iter:Expr}{ifs:List Expr}{scope:aB}{pos:Pos}{it as:ac}{env:Env}(I:Nat->ae->Prop)
 (aF:∀n s,I n s->am (ao prog w) A (bP it) (fun r J=>match r with
  | none=>R (.ok .next) J
  | some v=>am (ao prog w) A (br Y it v) (fun _ W=>am (ao prog w) A (assign Y env v) (fun _ ak =>
   am (ao prog w) A (forIn ifs true fun c r=>if r=true then do let ok <- isTrue c env (aD c env);pure (ForInStep.yield ok) else pure (ForInStep.yield r)) (fun ok O =>
    if ok=true then am (ao prog w) A (aD elt env) (fun x ap =>
     am (ao prog w) A (call (.builtin "list.append") [as,x]) (fun _ al=>∃m,m<n/\I m al) (fun _ _=>False) ap) (fun _ _=>False) O
    else ∃m,m<n/\I m O) (fun _ _=>False) ak) (fun _ _=>False) W) (fun _ _=>False) J) (fun _ _=>False) s)
 (n:Nat) (h:I n s) :
 aR (ao prog w) A (.compLoop (.ListComp elt [⟨Y,iter,ifs,0⟩] scope pos) 0 it as env) R s:=by
 refine codeAny_loop rfl I (fun n s hI=>?_) n h;show am _ A ((compTurn (.ListComp elt [⟨Y,iter,ifs,0⟩] scope pos) 0 it as env).onRaise (fun x=>do noteFrame x env;theTreesLotGoes x)) _ _ s
 refine wpAny_noted ?_;rw[compTurn_list];refine ad (aV (ad (az (aF n s hI) (fun r J h₁=>?_) fun _ _ h'=>h'.elim)));cases r with
 | none=>exact ah h₁
 | some v =>
   refine ad (az h₁ (fun _ W aC=>?_) fun _ _ h'=>h'.elim);refine ad (az aC (fun _ ak aP=>ad (az aP (fun ok O an=>?_) fun _ _ h'=>h'.elim)) fun _ _ h'=>h'.elim);cases ok with
   | false=>exact ah ⟨Z,an⟩
   | true =>
     exact ad (ad (az an (fun x ap ba=>ad (az ba (fun _ al a0=>ah (ah ⟨Z,a0⟩)) fun _ _ h'=>h'.elim)) fun _ _ h'=>h'.elim))
def PTs(X:Cx)(ifs:List Expr)(t:TT):Prop :=
 ∀ (pins:List (aa×Obj)) (s:ae) (σ:St) (H:Hp) (Q:Bool->Hp->Prop),Inv X pins σ H s->t σ H Q ->
   am (ao X.prog X.w) X.A (forIn ifs true fun c r=>if r=true then do let ok <- isTrue c X.env (aD c X.env);pure (ForInStep.yield ok) else pure (ForInStep.yield r)) (TP X pins σ Q) X.xe s
def LS:TT:=fun _ H Q=>Q true H
theorem Bz{X:Cx}:PTs X [] LS:=fun _ _ _ H _ I h=>wpAny_tests_nil ⟨H,I,h⟩
theorem Gn{X:Cx}{c:Expr}{t:TT}(h:PT X c t):PTs X [c] t:=fun pins s σ H Q I q=>wpAny_tests_one (h pins s σ H Q I q)
structure LcW(J:It)(n nt:Nat)(js:List Nat)(σ:St)(g:TG)(tc:TT)(te:TE)(Fin:List V->Hp->Prop)(W:Nat->List V->Hp->Prop):Prop where
 go:∀i zs H,i<n->W i zs H->J.go i H/\zs.length<af
 step:∀i zs H x H',i<n->W i zs H->J.yld i H x H'->g x (cS nt js σ) H' fun σ2 H2=>tc σ2 H2 fun b H3=>if b=true then te σ2 H3 fun y H4=>W (i+1) (zs++[y]) H4 else W (i+1) zs H3
 stop:∀zs H,W n zs H->J.stop n H/\zs.length<=af/\Fin zs H
@[irreducible] def tLC(wi:TI)(nt:Nat)(js:List Nat)(g:TG)(tc:TT)(te:TE):TE:=fun σ H Q=>wi σ H fun J H1 =>
 ∃(n:Nat) (W:Nat->List V->Hp->Prop),W 0 [] H1/\LcW J n nt js σ g tc te (fun zs H'=>∀p,H' p=none->Q (.ref p) (upd H' p (.lst zs))) W
theorem Cb{wi:TI}{nt:Nat}{js:List Nat}{g:TG}{tc:TT}{te:TE}{σ:St}{H:Hp}{Q:VK}
 (h:wi σ H fun J H1=>∃(n:Nat) (W:Nat->List V->Hp->Prop),W 0 [] H1/\LcW J n nt js σ g tc te (fun zs H'=>∀p,H' p=none->Q (.ref p) (upd H' p (.lst zs))) W):tLC wi nt js g tc te σ H Q:=by
 unfold tLC;exact h
theorem ON{wi:TI}{nt:Nat}{js:List Nat}{g:TG}{tc:TT}{te:TE}{σ:St}{H:Hp}{Q:VK}(h:tLC wi nt js g tc te σ H Q) :
 wi σ H fun J H1=>∃(n:Nat) (W:Nat->List V->Hp->Prop),W 0 [] H1/\LcW J n nt js σ g tc te (fun zs H'=>∀p,H' p=none->Q (.ref p) (upd H' p (.lst zs))) W:=by
 unfold tLC at h;exact h
structure AW(X:Cx)(N:List Str)(nt:Nat)(js:List Nat)(scope:aB):Prop where
 kind:scope.kind = .function
 nocell:∀y∈scope.names,y.2 ≠ .cell
 names:∀y∈scope.names,y.2 = .local->scope.names.lookup y.1=some .local
 free:∀y∈scope.names,y.2 = .free->X.env.kindOf y.1=some .cell\/X.env.kindOf y.1=some .free
 len:N.length=nt+js.length
 outer:∀j i,js[j]? = some i->∃x,N[nt+j]? = some x/\X.N[i]? = some x/\scope.names.lookup x=some .free
def LD(NX:List Str)(sc:aB)(N:List Str)(nt:Nat)(js:List Nat)(scope:aB):Bool :=
 decide (scope.kind = .function)&&scope.names.all (fun y=>decide (y.2 ≠ .cell))&&scope.names.all (fun y=>decide (y.2 ≠ .local)||decide (scope.names.lookup y.1=some .local)) &&
 scope.names.all (fun y=>decide (y.2 ≠ .free)||(decide (sc.names.lookup y.1=some .cell)||decide (sc.names.lookup y.1=some .free)))&&decide (N.length=nt+js.length) &&
 (U0 js.length).all fun j=>match js[j]?,N[nt+j]? with
  | some i,some x=>decide (NX[i]? = some x)&&decide (scope.names.lookup x=some .free)
  | _,_=>false
theorem AW.look{X:Cx}{NX N:List Str}{sc scope:aB}{nt:Nat}{js:List Nat}(hN:X.N=NX)(hs:X.env.scope=sc)(h:LD NX sc N nt js scope=true):AW X N nt js scope:=by
 unfold LD at h;simp only[Bool.and_eq_true,Vr,Bool.or_eq_true,decide_eq_true_eq]at h;obtain⟨⟨⟨⟨⟨h1,h2⟩,W⟩,h4⟩,h5⟩,h6⟩:=h;refine⟨h1,h2,fun y Y J=>(W y Y).resolve_left fun z=>z J,fun y Y O=>?_,h5,fun j i e=>?_⟩
 ·have q:=(h4 y Y).resolve_left fun z=>z O;rw[<- hs]at q;exact q
 ·have hj:j<js.length:=(Ue.mp e).1;have q:=h6 j (U4.mpr hj);rw[e]at q;cases en:N[nt+j]? with
  | none=>rw[en]at q;cases q
  | some x =>
    rw[en]at q;simp only[Bool.and_eq_true,decide_eq_true_eq]at q;exact⟨x,Z,by rw[hN];exact q.1,q.2⟩
section
variable {X:Cx}{N:List Str}{nt:Nat}{js:List Nat}{scope:aB}{cl:List (Str×aa)}
theorem HOk.track{P:ai}{w:ar}{H:Hp}{h:au}{a:aa}{o:HO}(x:HOk P w H h)(W:H a=none)(Y:BW P w (upd H a o) h a o):HOk P w (upd H a o) h:=fun b u e=>by
 by_cases hb:b=a
 ·subst hb;rw[Aa]at e;cases e;exact Y
 ·rw[Am hb]at e;exact(x b u e).stay (fun c v _ q=>q) (fun c q=>by rw[Am (Av q W)];exact q) fun c xs q=>by rw[Am (Av q W)];exact q
theorem Na{pins:List (aa×Obj)}{σ:St}{H:Hp}{s:ae}{C D:aa}{h':au}{tk:Nat}{fp:List aa}{m:Str->Option ac}(I:Inv X pins σ H s)(ok:AW X N nt js scope)
 (Y:∀x c,cl.lookup x=some c->X.env.cells.lookup x=some c) (O:∀x∈scope.names,x.2 = .free->∃c,cl.lookup x.1=some c)
 (hf:∀b∈fp,Ei X pins H b) (ho:∀b∈fp,∃o,s.heap.get? b=some o/\∀v,o.data ≠ .cell v)
 (hD:s.heap.objs.size<=D) (hC:s.heap.objs.size<=C) (as:D≠C) (k:∀b o,s.heap.get? b=some o->h'.get? b=some o) (hn:h'.Ns C m) (hd:h'.get? D=some (Fj [])) :
 Inv (BP X N scope cl C s H fp) [(D,Fj [])] (cS nt js σ) H { s with heap:=h',toks:=tk }:=by
 have lt:∀b∈fp,b<s.heap.objs.size:=fun b W=>by obtain⟨o,e,_⟩:=ho b W;exact Heap.lt_size e
 have an:∀b∈frs X.stack,b<s.heap.objs.size:=fun b W=>by
  obtain⟨_,o,e,_⟩:=I.stack.mem W;exact Heap.lt_size e
 refine⟨⟨I.ok.mod,ok.kind,I.ok.glob,I.ok.blt,hC,fun x y c h1 h2=>I.ok.inj x y c (Y x c h1) (Y y c h2),fun x hx=>?_,fun x c hx=>absurd hx Bool.false_ne_true,I.ok.hd,I.ok.frames,.inl rfl,fun b W=>⟨?_,fun x c e=>(hf b W).2.2.2.2.1 x c (Y x c e)⟩,I.bs,
  U6 I.ok.bsz I.sz,fun b o e W=>?_,fun b W hs=>?_,I.stack,I.stkFree⟩,Z,I.bare,Un.kept k,⟨m,hn,fun j x v h1 h2 h3=>?_⟩,fun x c e=>?_,I.hok.fresh hC,fun x c e=>I.freeC x c (Y x c e),fun p hp=>?_,I.hok.kept k,?_⟩
 ·obtain⟨c,hc⟩:=O (x,.free) (EZ ok.nocell hx) rfl;exact⟨c,hc⟩
 ·exact TZ (TX (lt b W) hC)
 ·rcases(hf b W).2.2.2.1 with z | z
  ·exact I.ok.noex b o e z
  ·exact absurd (TX (Heap.lt_size e) (U6 I.ok.bsz z)) (TY _)
 ·rcases Ub.mp (I.stkSub b hs) with z | z
  ·exact(hf b W).2.1 z
  ·exact(hf b W).2.2.1 z
 ·change N[j]? = some x at h1;unfold cS at h2;by_cases hj:j<nt
  ·rw[UB (by simpa using hj),UA]at h2
   rw[if_pos hj]at h2;cases h2
  ·rw[Uz (by simpa using Nat.not_lt.mp hj),UJ,UC]at h2
   cases ei:js[j-nt]? with
   | none=>rw[ei]at h2;cases h2
   | some i =>
     rw[ei]at h2;obtain⟨y,e1,e2,e3⟩:=ok.outer _ i ei;rw[show nt+(j-nt)=j by lia,h1]at e1
     cases e1
     have hv:σ[i]? = some (some v):=by
      simp only[Option.map_some,TU.injEq]at h2;rw[Vs]at h2;cases eσ:σ[i]? with
      | none=>rw[eσ]at h2;cases h2
      | some z=>rw[eσ]at h2;simp at h2;rw[h2]
     obtain⟨aC,_,hl⟩:=I.loc;have kf:=ok.free (x,.free) (PySem.mem_of_lookup e3) rfl;obtain⟨u,r,l⟩:=hl i x v e2 hv (kf.elim (fun z=>.inr (.inl z)) fun z=>.inr (.inr z));refine⟨u,r,.inr ⟨CG e3,?_⟩⟩
     rcases l with ⟨kl,_⟩ | ⟨_,c,ec,⟨oc,ak,J⟩⟩
     ·rcases kf with z | z<;>(rw[z]at kl;cases kl)
     ·obtain⟨c',al⟩:=O (x,.free) (PySem.mem_of_lookup e3) rfl;have e':=Y x c' al;rw[ec]at e';cases e';exact⟨c,al,oc,k _ _ ak,J⟩
 ·obtain⟨v,oc,ak,J⟩:=I.cell x c (Y x c e);exact⟨v,oc,k _ _ ak,J⟩
 ·have e:p=(D,Fj []):=by
   have ap:p∈[(D,Fj [])]:=hp
   simpa using ap
  subst e;refine⟨hd,I.hok.fresh hD,as,fun W=>absurd (TX (an D W) hD) (TY _),fun v z=>by cases z⟩
 ·show(cS nt js σ).length=N.length;unfold cS;rw[UH,UJ,UI,ok.len]
end
def K0(g:TG)(nt:Nat):Prop:=∀x σ H Q,g x σ H Q->g x σ H fun σ2 H2=>(σ2.length=σ.length/\σ2.drop nt=σ.drop nt)/\Q σ2 H2
theorem AJ{i nt:Nat}(h:i<nt):K0 (Cq i) nt:=fun x σ H Q q=>⟨⟨UR,by
 apply Vt;intro k;rw[Vu,Vu,Uh (by lia)]⟩,q⟩
section
variable {X:Cx}{N:List Str}{nt:Nat}{js:List Nat}{scope:aB}{elt iter tg:Expr}{ifs:List Expr}{pos:Pos}{g:TG}{tc:TT}{te:TE}{wi:TI}
theorem LF{σ Y:St}(O:Y.length=(cS nt js σ).length)(W:Y.drop nt=(cS nt js σ).drop nt):∀(i:Nat) v,(cS nt js σ)[i]? = some (some v)->Y[i]? = some (some v):=fun i v e=>by
 by_cases hi:i<nt
 ·unfold cS at e;rw[UB (by simpa using hi),UA,if_pos hi]at e
  cases e
 ·have q:((cS nt js σ).drop nt)[i-nt]? = some (some v):=by rw[Vu,show nt+(i-nt)=i by lia];exact e
  rw[<- W,Vu,show nt+(i-nt)=i by lia]at q
  exact q
set_option maxHeartbeats 4000000 in
theorem JQ{pins:List (aa×Obj)}{σ:St}{H:Hp}{Y:ae}{cl:List (Str×aa)}{J:It}{fp:List aa}{it:aa}{tn:Nat->au->Prop}{E:ac->ae->Prop}{bD:List V->Hp->Prop}{W:Nat->List V->Hp->Prop}{nn:Nat}
 {RR:ac->aa->Result->ae->Prop} (aF:X.calm=true) (ok:AW X N nt js scope)
 (bp:∀x c,cl.lookup x=some c->X.env.cells.lookup x=some c) (bB:∀x∈scope.names,x.2 = .free->∃c,cl.lookup x.1=some c)
 (hg:∀cl C s H fp,PG (BP X N scope cl C s H fp) tg g) (hk:K0 g nt) (hc:∀cl C s H fp,PTs (BP X N scope cl C s H fp) ifs tc) (he:∀cl C s H fp,PE (BP X N scope cl C s H fp) elt te)
 (I:Inv X pins σ H Y) (T:JZ X.prog X.w X.K tg J fp it tn) (st:tn 0 Y.heap) (hf:∀b∈fp,Ei X pins H b) (w0:W 0 [] H) (lw:LcW J nn nt js σ g tc te bD W)
 (b3:∀D C s' H' zs m,Inv X pins σ (upd H' D (.lst zs)) s'->s'.heap.Ns C m->H' D=none->(upd H' D (.lst zs)) C=none->C≠X.env.locals->X.s₀.heap.objs.size<=C->(∀x c,X.env.cells.lookup x=some c->c≠C) ->
  (∀p∈X.pn++pins,p.1≠C)->bD zs H'->RR (.ref D) C (.ok .next) s') :
 am (ao X.prog X.w) X.A (newList []) (fun bx as=>am (ao X.prog X.w) X.A (newFunctionEnv scope X.env.globals cl [] X.env.qual none .none (some X.env)) (fun bb bW =>
  aR (ao X.prog X.w) X.A (.compStart (.ListComp elt [⟨tg,iter,ifs,0⟩] scope pos) 0 (.ref it) bx { bb with scope:=relabel scope X.env }) (RR bx bb.locals) bW) E as) E Y:=by
 refine bJ (wpAny_newFunctionEnv ok.nocell (by intro y hy;simp at hy) (fun h₁ al ak=>?_) ok.kind)
 dsimp only at al ak ⊢;generalize bg:Y.heap.push { cls:=.type "list",dict:=none,data:=.seq ([]:List ac).toArray }=H2 at al ak ⊢;have hC:H2.objs.size=Y.heap.objs.size+1:=by rw[<- bg,Heap.size_push]
 have aC:Y.heap.objs.size≠H2.objs.size:=by rw[hC];exact TZ (Vv _)
 have ap:Y.heap.objs.size<=H2.objs.size:=by rw[hC];exact Nat.le_succ _
 have an:∀b,b<Y.heap.objs.size->b≠H2.objs.size/\b≠Y.heap.objs.size:=fun b O=>⟨by rw[hC];exact TZ (Vw O),TZ O⟩
 have be:∀b o,Y.heap.get? b=some o->h₁.get? b=some o:=fun b o e=>ak.extBut b o (an b (Heap.lt_size e)).1 (Heap.get?_push_of_some _ (bg ▸ Heap.get?_push_of_some _ e));have bt:h₁.get? Y.heap.objs.size=some (Fj []):=ak.extBut _ _ aC (Heap.get?_push_of_some _ (bg ▸ Heap.get?_push_size _ rfl));have ho:=T.obj 0 _ st;have lt:∀b∈fp,b<Y.heap.objs.size:=fun b O=>by obtain⟨o,e,_⟩:=ho b O;exact Heap.lt_size e
 have a0:∀as:ae,as={ Y with heap:=h₁,toks:=Y.toks+([]:List (Str×ac)).length } ->
  aR (ao X.prog X.w) X.A (.compLoop (.ListComp elt [⟨tg,iter,ifs,0⟩] scope pos) 0 (.ref it) (.ref Y.heap.objs.size) (compEnvC scope cl H2.objs.size X.env)) (RR (.ref Y.heap.objs.size) H2.objs.size) as:=by
  rintro as rfl
  have I0:Inv (BP X N scope cl H2.objs.size Y H fp) [(Y.heap.objs.size,Fj [])] (cS nt js σ) H { Y with heap:=h₁,toks:=Y.toks+([]:List (Str×ac)).length } :=
   Na I ok bp bB hf ho (Uk _) ap aC be al bt
  have bf:∀{H':Hp} {ys:List ac},(∀b∈fp,H' b=none)->∀b∈fp,Ei (BP X N scope cl H2.objs.size Y H fp) [(Y.heap.objs.size,Fj ys)] H' b:=fun{H' ys} hn b O =>
   ⟨hn b O,(an b (lt b O)).1,I0.ok.exfs b O,.inl O,(I0.ok.exf b O).2,fun p hp=>by
    have bY:p∈[(Y.heap.objs.size,Fj ys)]:=hp;have e:p=(Y.heap.objs.size,Fj ys):=by simpa using bY
    rw[e];exact Ne.symm (an b (lt b O)).2⟩
  refine J3 (fun n s'=>∃i zs ys H',n=nn-i/\i<=nn/\Inv (BP X N scope cl H2.objs.size Y H fp) [(Y.heap.objs.size,Fj ys)] (cS nt js σ) H' s'/\AI zs ys/\tn i s'.heap/\(∀b∈fp,H' b=none)/\W i zs H') ?_ nn
   ⟨0,[],[],H,Z,Uo _,I0,.nil,T.keep 0 _ _ st (fun b _ o e=>be b o e),fun b O=>(hf b O).1,w0⟩
  rintro n s' ⟨i,zs,ys,H',bn,bF,I',rv,bd,bw,w'⟩;by_cases hlt:i<nn
  case neg =>
   have b1:i=nn:=Nat.le_antisymm bF (Nat.not_lt.mp hlt);rw[b1]at w' bd;obtain⟨bl,zl,b0⟩:=lw.stop zs H' w';refine thn (T.done (BP X N scope cl H2.objs.size Y H fp) rfl rfl rfl aF nn _ s' _ H' (fun _ _=>False) I' (bf bw) bd bl) fun r s4 ⟨hr,I4⟩=>?_;subst hr;have zD:=(I4.pin (Y.heap.objs.size,Fj ys) (Um _ (Vx.mpr rfl)));have u:=I4.base
   have u2:Un (frs X.stack) fp H (upd H' Y.heap.objs.size (.lst zs)) Y.heap s4.heap :=
    ⟨u.keep,u.slot,fun b o q n hx=>by rw[Am (TZ (Heap.lt_size q))];exact u.free b o q n hx,u.there,fun b xs q=>by rw[Am (Av (u.tups b xs q) zD.2.1)];exact u.tups b xs q,
     fun b o xs q=>by rw[Am (Av (u.frzs b o xs q) zD.2.1)];exact u.frzs b o xs q,fun b ps q=>by
      obtain⟨more,e⟩:=u.tbls b ps q;exact⟨more,by rw[Am (Av e zD.2.1)];exact e⟩⟩
   have bC:HOk X.prog X.w (upd H' Y.heap.objs.size (.lst zs)) s4.heap:=HOk.track I4.hok zD.2.1 ⟨zl,ys,_,rv,zD.1⟩;have I5:Inv X pins σ (upd H' Y.heap.objs.size (.lst zs)) s4:=I.call' I4.os u2 bC I4.bare fun b O=>⟨(hf b O).2.2.2.1,(hf b O).2.1,(hf b O).2.2.2.2.1,(hf b O).2.2.2.2.2⟩;obtain⟨m,hn,_⟩:=I4.loc;refine b3 _ _ s4 H' zs m I5 hn zD.2.1 ?_ ?_ (U6 I.sz ap) ?_ ?_ b0
   ·rw[Am (Ne.symm aC)];exact I4.free
   ·exact Uj (TX I.lt ap)
   ·intro x c e z;obtain⟨v,q⟩:=I.cell x c e;exact absurd (TX q.lt (by rw[z];exact ap)) (TY _)
   ·intro p hp z;exact absurd (TX (Heap.lt_size (I.pin p hp).1) (by rw[z];exact ap)) (TY _)
  case pos =>
   obtain⟨go,zl⟩:=lw.go i zs H' hlt w';have step:=lw.step i zs H';refine thn (T.item (BP X N scope cl H2.objs.size Y H fp) rfl rfl rfl aF i _ s' _ H' (fun _ _=>False) I' (bf bw) bd go) fun r s4 ⟨u,hr,h4⟩=>?_;subst hr;refine thn h4 fun _ s5 ⟨x,H5,I5,r5,y5,bc,bX⟩=>?_;have bZ:=I5.pinned (bf bX) (T.obj _ _ bc);refine thn (hg cl _ Y H fp _ s5 _ H5 x u _ bZ r5 (hk _ _ _ _ (step x H5 hlt w' y5))) fun _ s6 ⟨bN,H6,I6,⟨aP,bq⟩,q6⟩=>?_;refine thn (hc cl _ Y H fp _ s6 bN H6 _ I6 q6) fun b5 s7 ⟨H7,I7,q7⟩=>?_
   have ba:∀{H8:Hp} {bG:St} {s8:ae},Inv (BP X N scope cl H2.objs.size Y H fp) ([(Y.heap.objs.size,Fj ys)]++GP fp s5.heap) bG H8 s8->tn (i+1) s8.heap/\∀b∈fp,H8 b=none:=fun{H8 bG s8} I8 =>
    ⟨T.keep _ _ _ bc fun b O o e=>(I8.pin (b,o) (Um _ (Um _ (DK O e)))).1,fun b O=>by
     obtain⟨o,e,d⟩:=T.obj _ _ bc b O;exact(I8.pin (b,o) (Um _ (Um _ (DK O e)))).2.1⟩
   cases b5 with
   | false =>
     rw[if_neg Bool.false_ne_true]at q7 ⊢;obtain⟨a1,a2⟩:=ba I7;exact⟨nn-(i+1),by rw[bn];exact Nat.sub_lt_sub_left hlt (Vv i),i+1,zs,ys,H7,Z,hlt,I7.unpinned.weak (by rw[aP]) (LF aP bq),rv,a1,a2,q7⟩
   | true =>
     rw[if_pos rfl]at q7 ⊢;refine thn (he cl _ Y H fp _ s7 bN H7 _ I7 q7) fun v s8 ⟨y,H8,I8,r8,q8⟩=>?_;have zD:=(I8.pin (Y.heap.objs.size,Fj ys) (Um _ (Ud _ (Vx.mpr rfl))));have bu:ys.length<af:=by rw[<- rv.length];exact zl
     obtain⟨a1,a2⟩:=ba I8;refine append_at (hsz:=by rw[UQ];exact U7 bu) zD.1 fun h9 bh b4=>?_
     have b2:Inv (BP X N scope cl H2.objs.size Y H fp) [] (cS nt js σ) H8 s8:=(I8.pins_of (pins':=[]) fun p hp=>nomatch hp).weak (by rw[aP]) (LF aP bq)
     have I9:Inv (BP X N scope cl H2.objs.size Y H fp) [] (cS nt js σ) H8 { s8 with heap:=h9 }:=b2.turned (t':=s8.toks) (it:=Y.heap.objs.size) (fun b o O e=>bh.extBut b o O e) zD.2.1 aC (.inr (Uk _))
      (fun x c e z=>by
       obtain⟨v,q⟩:=I.cell x c (bp x c e);exact absurd (TX q.lt (by rw[z];exact Uk _)) (TY _)) (fun p hp=>nomatch hp)
     refine⟨nn-(i+1),by rw[bn];exact Nat.sub_lt_sub_left hlt (Vv i),i+1,zs++[y],ys++[v],H8,Z,hlt,I9.pins_of (fun p hp=>?_),rv.snoc r8,T.keep _ _ _ a1 fun b O o e=>bh.extBut b o (an b (lt b O)).2 e,a2,q8⟩
     have e:p=(Y.heap.objs.size,Fj (ys++[v])):=by simpa using hp
     subst e;refine⟨?_,zD.2.1,aC,zD.2.2.2.1,fun v z=>by cases z⟩
     rw[b4];show some ({ cls:=.type "list",data:=.seq (ys.toArray.push v) (ys.length+1) }:Obj)=some { cls:=.type "list",data:=.seq (ys++[v]).toArray (ys++[v]).length };rw[UH,UW,List.push_toArray]
 exact codeAny_compStart_list (a0 _ rfl) (T.self _ 0 _ _ _ (T.keep 0 _ _ st (fun b _ o e=>be b o e)) (a0 _ rfl))
theorem CB(O:X.calm=true)(ok:AW X N nt js scope)(hi:PI X tg iter wi)(hg:∀cl C s H fp,PG (BP X N scope cl C s H fp) tg g)(hk:K0 g nt)(hc:∀cl C s H fp,PTs (BP X N scope cl C s H fp) ifs tc)
 (he:∀cl C s H fp,PE (BP X N scope cl C s H fp) elt te) (hs:∀x,bi iter X.env x=pure x:=by intro _;rfl):PE X (.ListComp elt [⟨tg,iter,ifs,0⟩] scope pos) (tLC wi nt js g tc te):=by
 intro pins s σ H Q I h;obtain⟨cl,Y,aF,al⟩:=Ez (scope:=scope) (env:=X.env) fun x hx hf=>I.ok.has x.1 (ok.free x hx hf);rw[eval_ListComp];refine wpAny_comprehension_free (use:=none) rfl hs Y ok.kind ok.names ?_;refine thn (hi pins s σ H _ I (ON h)) fun v s1 h1=>thn h1 fun bd s2 h2=>?_;obtain⟨it,fp,tn,J,H2,e,I2,T,ba,f2,nn,W,w0,lw⟩:=h2;subst e;refine JQ (RR:=fun bb C=>compPost (ao X.prog X.w) X.A X.xe none (EP X pins σ Q) bb C) O ok aF al hg hk hc he I2 T ba f2 w0 lw ?_;intro D C s' H' zs m I3 hn a0 aC ap aP bc an as;exact⟨m,hn,fun be ak=>⟨.ref D,_,I3.turned (t':=s'.toks) (it:=C) (fun b o hb e=>ak.extBut b o hb e) aC ap (.inr aP) bc an,Z,as D a0⟩⟩
theorem MO{i:Nat}{y:Str}{py O:Pos}(an:X.calm=true)(hN:X.N.Nodup)(a0:X.N[i]? = some y)(hy:X.env.kindOf y=some .local)(ok:AW X N nt js scope)(hi:PI X tg iter wi)(hg:∀cl C s H fp,PG (BP X N scope cl C s H fp) tg g)(hk:K0 g nt)
 (hc:∀cl C s H fp,PTs (BP X N scope cl C s H fp) ifs tc) (he:∀cl C s H fp,PE (BP X N scope cl C s H fp) elt te)
 (bl:swapsWith (.ListComp elt [⟨tg,iter,ifs,0⟩] scope pos) (some (.Name y py)) O.line X.env=pure true) (hs:∀x,bi iter X.env x=pure x:=by intro _;rfl) :
 PS X (.Assign [.Name y py] (.ListComp elt [⟨tg,iter,ifs,0⟩] scope pos) O) (P7 (tLC wi nt js g tc te) (Cq i)):=by
 intro pins s σ H Y I h;obtain⟨cl,ak,bd,aF⟩:=Ez (scope:=scope) (env:=X.env) fun x hx hf=>I.ok.has x.1 (ok.free x hx hf);rw[exec_Assign_Name_used _ _ _ _ bl];refine ad (aV (ad ?_));show am _ X.A (do let _ <- comprehension (.ListComp elt [⟨tg,iter,ifs,0⟩] scope pos) scope X.env _ (newList []) false (aD iter X.env) (some (assign (.Name y py) X.env))) _ _ s
 refine ad (az (wpAny_comprehension_free (use:=some (assign (.Name y py) X.env)) (Q:=fun _ s'=>SP X pins Y .next s') rfl hs ak ok.kind ok.names
  (thn (hi pins s σ H _ I (ON (show tLC wi nt js g tc te σ H fun x H1=>Cq i x σ H1 Y.nx from h))) fun v s1 h1=>thn h1 fun bn s2 h2=>?_)) (fun _ s' hq=>ah (ah hq)) fun _ _ e=>e)
 obtain⟨it,fp,tn,J,H2,e,I2,T,bg,f2,nn,W,w0,lw⟩:=h2;subst e;refine JQ (RR:=fun bh C=>compPost (ao X.prog X.w) X.A X.xe (some (assign (.Name y py) X.env)) (fun _ s'=>SP X pins Y .next s') bh C) an ok bd aF hg hk hc he I2 T bg f2 w0 lw ?_;intro D C s' H' zs m I3 hn bf bc ap be aC ba bb;show am _ X.A (assign (.Name y py) X.env (.ref D)) _ _ _;refine wpAny_assign_Name (HK (v:=.ref D) I3 hN a0 (.inl hy) rfl (fun s3 I4 al=>?_) (.inr hy));obtain⟨a,al,ha⟩:=al
 have aP:C≠a:=by
  rcases ha with z | z
  ·rw[z];exact ap
  ·exact Ne.symm (aC y a z)
 refine⟨m,hn.sameBut al aP,fun bp as=>?_⟩;exact⟨_,_,I4.turned (t':=s3.toks) (it:=C) (fun b o hb e=>as.extBut b o hb e) bc ap (.inr be) aC ba,bb D bf⟩
end
def Bd(n:Nat)(x:Int):Prop:=x.natAbs<2 ^ n
theorem Bd.bits{n:Nat}{x:Int}(h:Bd n x):Builtin.Int.intBits x<=n:=PySem.intBits_le_iff.mpr h
def NS(i j:Int):Prop:=∃m n,Bd m i/\Bd n j/\m+n<=134217728
theorem NS.ok{i j:Int}(h:NS i j):IntMulOk i j:=by
 obtain⟨m,n,h1,h2,Y⟩:=h;exact PySem.IntMulOk.of_le h1.bits h2.bits Y
section
variable {X:Cx}
theorem BA{k:Nat}(hr:BM k X.A)(hT:X.prog.given.tree=none)(hk:32<=k:=by decide)
 (Y:∃(env:Env) (l:List Env),X.stack=env::l/\env.scope.isGenerator=false/\env.scope.isCoroutine=false/\env.builtins=bA/\env.globals=aj:=by exact⟨_,_,Z,Z,Z,Z,Z⟩) :
 OpR X (bo .FloorDiv) (rI (fun _ j=>j≠0) fun i j=>.int (i.fdiv j)):=by
 intro pins s σ H x y v u Q I J O h;obtain⟨i,j,rfl,rfl,hc,q⟩:=h;obtain⟨t,rfl⟩:=J;obtain⟨t',rfl⟩:=O;obtain⟨env,l,e1,W,e3,e4,e5⟩:=Y
 have hd:X.A.depth+Builtin.pylongFrames<recursionLimit:=by
  have:=hr.dp;have e:Builtin.pylongFrames<=101:=by decide
  lia
 refine floordiv_int hc ⟨.int (i.fdiv j),H,I.tok _,⟨_,Z⟩,q⟩ (.inr (PySem.PylongRoom.of I.nolimit hd (PySem.SeerAt.of (I.ok.mod.seer.keeps I.bk) hT (by rw[I.ok.frames,e1]) W e3 e4 e5)))
end
structure Fd(P:ai)(w:ar)(K:U5)(mg:Str->Option ac)(base:au)(n:Nat)(x:Str)(ps:List Str)(sp:Sp):Prop where
 ex:∃(f:aa) (fd:ag),Ay P w K mg base CX0 n f fd ps sp/\Bv K fd ps []/\Us K (.ref f)=true/\mg x=some (.ref f)
theorem Al{X:Cx}{n k:Nat}{x:Str}{ps:List Str}{sp:Sp}{e:Expr}{es:List Expr}{t:TA}{p pos:Pos}(F:Fd X.prog X.w X.K X.mg X.base n x ps sp)(J:BM k X.A)(hg:Gl X x)(ha:PA X (e::es) t)(hn:n<=k:=by decide)
 (W:(x == ("__debug__" : Str))=false:=by decide) (O:aq (e::es) X.env=(false,aD e X.env)::aq es X.env:=by rfl) (Y:(aN pos (aq es X.env)).any (·.1)=false:=by rfl) :
 PE X (.Call (.Name x p) (e::es) [] pos) (KS sp [] E0 t):=by
 obtain⟨f,fd,F1,F2,F3,F4⟩:=F.ex;exact II F1 (J.mono hn) hg F4 F3 F2 .nil QI ha W O Y
inductive Rds(K:U5)(H:Hp):V->PyData->Prop where
 | non:Rds K H .non .none
 | bl (b:Bool):Rds K H (.bl b) (.bool b)
 | int (i:Int):Rds K H (.int i) (.int i)
 | str (x:Str):Rds K H (.str x) (.str x)
 | lst {a:aa} {xs:List V} {ds:List PyData}:SqL K H a xs->xs.length=ds.length->(∀(i:Nat) x d,xs[i]? = some x->ds[i]? = some d->Rds K H x d)->Rds K H (.ref a) (.list ds)
 | tup {a:aa} {xs:List V} {ds:List PyData}:SqT K H a xs->xs.length=ds.length->(∀(i:Nat) x d,xs[i]? = some x->ds[i]? = some d->Rds K H x d)->Rds K H (.ref a) (.tuple ds)
theorem E4{h:au}:∀{us:List ac} {xs:List V} {ds:List PyData},AI xs us->xs.length=ds.length->(∀(i:Nat) x d u,xs[i]? = some x->ds[i]? = some d->AR x u->∃Y,Reads h u d Y)->∃Y,ReadsAll h us ds Y
 | [],_,[],.nil,_,_=>⟨[],.nil⟩
 | [],_,_::_,.nil,hl,_=>by simp at hl
 | _::_,_,[],.cons _ _,hl,_=>by simp at hl
 | u::us,x::xs,d::ds,.cons r t,hl,hr=>by
   obtain⟨a1,r1⟩:=hr 0 x d u rfl rfl r;obtain⟨a2,r2⟩:=E4 (us:=us) (xs:=xs) (ds:=ds) t (by simpa using hl) fun i J d' W e1 O q=>hr (i+1) J d' W (by simpa using e1) (by simpa using O) q
   exact⟨_,.cons r1 r2⟩
theorem Cz{X:Cx}{pins:List (aa×Obj)}{σ:St}{H:Hp}{s:ae}(I:Inv X pins σ H s){x:V}{d:PyData}(r:Rds X.K H x d):∀{u:ac},AR x u->∃as,Reads s.heap u d as:=by
 induction r with
 | non=>intro u Y;cases Y;exact⟨_,.none⟩
 | bl b=>intro u Y;cases Y;exact⟨_,.bool b⟩
 | int i=>intro u Y;obtain⟨t,rfl⟩:=Y;exact⟨_,.int i t⟩
 | str z=>intro u Y;obtain⟨t,rfl⟩:=Y;exact⟨_,.str z t⟩
 | lst q hl _ ih =>
   intro u Y;cases Y;obtain⟨ak,rv,⟨o,n,e,c,_,dd⟩,_⟩:=I.list q;obtain⟨as,O⟩:=E4 rv hl fun i x d u e1 W J=>ih i x d e1 W J;exact⟨_,.list e c dd (by simpa using O)⟩
 | tup q hl _ ih =>
   intro u Y;cases Y;obtain⟨ak,rv,⟨o,e,c,n,dd⟩,_⟩:=I.tuple q;obtain⟨as,O⟩:=E4 rv hl fun i x d u e1 W J=>ih i x d e1 W J;exact⟨_,.tuple e c dd (by simpa using O)⟩
section
variable {X:Cx}
@[irreducible] def Hy(K:U5)(neg:Bool):R2:=fun x y H Q=>∃d e,Rds K H x d/\Rds K H y e/\SeqAt.shaped d=true/\SeqAt.shaped e=true/\Q (.bl (if neg then !PyData.eqv d e else PyData.eqv d e)) H
theorem Np{K:U5}{neg:Bool}{x y:V}{H:Hp}{Q:VK}(h:∃d e,Rds K H x d/\Rds K H y e/\SeqAt.shaped d=true/\SeqAt.shaped e=true/\Q (.bl (if neg then !PyData.eqv d e else PyData.eqv d e)) H):Hy K neg x y H Q:=by
 unfold Hy;exact h
theorem Pz(hu:X.A.units+64<cLine):OpR X (aH .Eq) (Hy X.K false):=by
 intro pins s σ H x y v u Q I Y W h;unfold Hy at h;obtain⟨d,e,r1,r2,h1,h2,q⟩:=h;obtain⟨as,J⟩:=Cz I r1 Y;obtain⟨bs,O⟩:=Cz I r2 W;exact SeqAt.compareEq_shaped J O h1 h2 hu ⟨.bl _,H,I,Z,q⟩
theorem Px(hu:X.A.units+64<cLine):OpR X (aH .NotEq) (Hy X.K true):=by
 intro pins s σ H x y v u Q I Y W h;unfold Hy at h;obtain⟨d,e,r1,r2,h1,h2,q⟩:=h;obtain⟨as,J⟩:=Cz I r1 Y;obtain⟨bs,O⟩:=Cz I r2 W;exact SeqAt.compareNe_shaped J O h1 h2 hu ⟨.bl _,H,I,Z,q⟩
end
theorem AB:ay "len" = some (.builtin "len"):=by decide +kernel
theorem J9:ay "abs" = some (.builtin "abs"):=by decide +kernel
theorem Cc:ay "isinstance" = some (.builtin "isinstance"):=by decide +kernel
theorem Qg:ay "sum" = some (.builtin "sum"):=by decide +kernel
theorem LG:ay "list" = some (.type "list"):=by decide +kernel
theorem JV:ay "tuple" = some (.type "tuple"):=by decide +kernel
theorem J8:ay "int" = some (.type "int"):=by decide +kernel
theorem JW:ay "reversed" = some (.type "reversed"):=by decide +kernel
def Fx(H:Hp)(L:List (aa×HO)):Prop:=∀p∈L,H p.1=some p.2
def Mv(a:aa)(H H':Hp):Prop:=∀b o,b≠a->H b=some o->H' b=some o
theorem Mv.refl(a:aa)(H:Hp):Mv a H H:=fun _ _ _ h=>h
theorem Mv.trans{a:aa}{H H1 H2:Hp}(x:Mv a H H1)(y:Mv a H1 H2):Mv a H H2:=fun b o n h=>y b o n (x b o n h)
theorem Mv.new{a p:aa}{H:Hp}{o:HO}(h:H p=none):Mv a H (upd H p o):=fun b u _ q=>by rw[Am (Av q h)];exact q
theorem LH{Y:List Int}{k:Int}(J:0<=k)(h:k<(Y.length:Int)):∃v:Int,atI (Y.map V.int) k=some (.int v):=by
 have W:k.toNat<Y.length:=by lia
 have O:k=((k.toNat:Nat):Int):=by lia
 have q:atI (Y.map V.int) ((k.toNat:Nat):Int)=some (.int Y[k.toNat]):=Bg (by rw[UC,Vy W]<;>rfl)
 rw[<- O]at q;exact⟨_,q⟩
def nT(q:Rat):HO:=.tup [.int q.num,.int q.den]
def Pen(H:Hp)(a:aa):Prop:=∃c0 c1 c2:Int,H a=some (.lst [.int c0,.int c1,.int c2])
theorem Pen.same{H:Hp}{a p:aa}{o:HO}(x:Pen H a)(h:H p=none):Pen (upd H p o) a:=by
 obtain⟨Y,c1,c2,e⟩:=x;exact⟨Y,c1,c2,by rw[Am (Av e h)];exact e⟩
theorem Pen.put{H:Hp}{a:aa}{Y c1 c2:Int}:Pen (upd H a (.lst [.int Y,.int c1,.int c2])) a:=⟨Y,c1,c2,Aa⟩
def Bx(i j:Int):Prop:=(-(2 ^ 64)<i/\i<2 ^ 64)\/(-(2 ^ 64)<j/\j<2 ^ 64)\/NS i j
theorem Bx.ok{i j:Int}(h:Bx i j):IntMulOk i j:=by
 rcases h with ⟨h1,h2⟩ | ⟨h1,h2⟩ | h
 ·exact .of_left (intBits_le_64 h1 h2)
 ·exact .of_right (intBits_le_64 h1 h2)
 ·exact h.ok
theorem Aq{X:Cx}:OpR X (bo .Mult) (rI Bx fun i j=>.int (i*j)):=opI fun _ _ _ _ _ _ _ Y q=>mul_int q Y.ok
def BQ(a:aa)(H H':Hp):Prop:=∀b,b≠a->H' b=H b
theorem BQ.mv{a:aa}{H H':Hp}(x:BQ a H H'):Mv a H H':=fun b o n h=>by rw[x b n];exact h
theorem BQ.put{a:aa}{H:Hp}{o:HO}:BQ a H (upd H a o):=fun b n=>Am n
theorem Pen.ne{H:Hp}{a p:aa}{o:HO}(x:Pen H a)(h:H p=some o)(W:∀Y c1 c2:Int,o ≠ .lst [.int Y,.int c1,.int c2]):p≠a:=by
 obtain⟨Y,c1,c2,e⟩:=x;exact Gf h e (W Y c1 c2)
structure Lg(a:aa)(H:Hp)(L:List (aa×HO)):Prop where
 fx:Fx H L
 ne:∀x∈L,x.1≠a
 pen:Pen H a
theorem QR(q:Rat):∀Y c1 c2:Int,nT q ≠ .lst [.int Y,.int c1,.int c2]:=fun _ _ _ z=>by cases z
theorem OF{xs:List Int}{i:Int}(O:0<=i)(h:i<(xs.length:Int)):∃v:Int,atI (xs.map V.int) i=some (.int v)/\v∈xs:=by
 have Y:i.toNat<xs.length:=by lia
 have W:i=((i.toNat:Nat):Int):=by lia
 have q:atI (xs.map V.int) ((i.toNat:Nat):Int)=some (.int xs[i.toNat]):=Bg (by rw[UC,Vy Y]<;>rfl)
 rw[<- W]at q;exact⟨_,q,Vz Y⟩
theorem MA{K:U5}{H:Hp}{a p:aa}{xs:List V}{o:HO}(Y:SqL K H a xs)(W:H p=none):SqL K (upd H p o) a xs:=by
 have st:∀u,H a=some u->upd H p o a=some u:=fun u e=>by rw[Am (Av e W)];exact e
 rcases Y with (h | ⟨o,h⟩) | h
 ·exact .inl (.inl (st _ h))
 ·exact .inl (.inr ⟨o,st _ h⟩)
 ·exact .inr h
inductive Iw(vs:List V)(H:Hp)(Q:VK)(E_3:XK):Prop
 | mk (a:aa) (m:Int) (h1:vs=[.ref a,.int m]) (h2:Pen H a) (h3:1<=m) (h4:m<1073741824) (h5:∀(d:Int) (H':Hp),0<=d->d<m->BQ a H H'->Pen H' a->Q (.int d) H'):Iw vs H Q E_3
inductive MC(K:U5)(vs:List V)(H:Hp)(Q:VK)(E_3:XK):Prop
 | mk (a:aa) (ns:List Int) (k:Int) (h1:vs=[.ref a,.int k]) (h2:SqL K H a (ns.map V.int)) (h3:ns.length<=63) (h4:0<=k) (h5:k<2 ^ 62) (h6:∀(p:aa) (c0 c1:Int),H p=none->Q (.ref p) (upd H p (.lst [.int c0,.int c1,.int 0]))):MC K vs H Q E_3
inductive Eu(vs:List V)(H:Hp)(Q:VK)(E_3:XK):Prop
 | mk (t b:Int) (h1:vs=[.int t,.int b]) (h2:b≠0) (h3:∀p,H p=none->Q (.ref p) (upd H p (nT (V3 t b)))):Eu vs H Q E_3
inductive Ji(vs:List V)(H:Hp)(Q:VK)(E_3:XK):Prop
 | mk (a b:Int) (h1:vs=[.int a,.int b]) (h2:Q (.int (V1 a b)) H):Ji vs H Q E_3
inductive MD(n:Nat)(vs:List V)(H:Hp)(Q:VK)(E_3:XK):Prop
 | mk (a:_) (h1:vs=[.ref a]) (h2:Pen H a) (h3:∀(q:Rat) (r:aa) (H':Hp),Mv a H H'->Pen H' a->H' r=some (nT q)->Bd n q.num->Bd n q.den->Q (.ref r) H'):MD n vs H Q E_3
def mu(i:Nat)(σ:St):Nat:=match σ[i]? with | some (some (.int y))=>y.toNat | _=>0
theorem Bd.mono{m n:Nat}{x:Int}(h:Bd m x)(Y:m<=n):Bd n x:=TX h (VA (by decide) Y)
theorem Bd.num{n:Nat}{t b:Int}(h:Bd n t):Bd n (V3 t b).num:=by
 unfold Bd at *;by_cases hb:b=0
 ·subst hb;simp;exact Nat.pos_of_ne_zero (by simp)
 ·rw[<- Nm.top_msr hb];exact UY (PySem.natAbs_fdiv_le t _) h
theorem Bd.den{n:Nat}{t b:Int}(Y:b≠0)(h:Bd n b):Bd n (V3 t b).den:=by
 unfold Bd at *;rw[<- Nm.bottom_msr Y];exact UY (PySem.natAbs_fdiv_le b _) h
def Ij(K:U5)(a:aa)(xs:List V):It :=
 ⟨fun i H=>SqL K H a xs/\i<xs.length,fun i H x H'=>H'=H/\xs[xs.length-1-i]? = some x,fun i _=>xs.length=i⟩
theorem Mt{P:ai}{w:ar}{K:U5}{tg:Expr}(a it:aa)(xs:List V):JZ P w K tg (Ij K a xs) [it] it (fun i h=>i<=xs.length/\h.IsRevIter it a ((xs.length:Int)-1-(i:Int))) where
 mem:=by simp
 obj:=fun i h st b O=>by
  have e:b=it:=by simpa using O
  subst e;obtain⟨_,o,e,c,d⟩:=st;exact⟨o,e,fun v z=>by rw[d]at z;cases z⟩
 keep:=fun i h h' st k=>⟨st.1,st.2.at fun o e=>k it (by simp) o e⟩
 item:=by
  intro X hP hw hK hc i pins s σ H E I J st hg;subst hP hw hK;obtain⟨hq,hi⟩:=hg;obtain⟨al,rv,p,hz⟩:=I.list hq;have hl:=rv.length;have hx:xs[xs.length-1-i]? = some (xs[xs.length-1-i]'(by lia)):=Vy (by lia)
  obtain⟨u,hu,ru⟩:=rv.get hx;obtain⟨f0,f1,f2,f3,f4,f5⟩:=J it (by simp)
  have e:(xs.length:Int)-1-(i:Int)=((xs.length-1-i:Nat):Int):=by lia
  have Y:=st.2;rw[e]at Y;refine wpAny_pyNext_rev_item Y p.isList (x:=u) (by simpa using hu) fun h' W sb=>?_
  have I1:Inv X pins σ H { s with heap:=h' }:=I.turned (t':=s.toks) (fun b o O e=>(sb.2 b O).trans e) f0 f1 f3 f4 f5
  obtain⟨o,e',c,d⟩:=id W;have e2:((xs.length-1-i:Nat):Int)-1=(xs.length:Int)-1-((i+1:Nat):Int):=by lia
  rw[e2]at W;exact⟨u,Z,JL (s:={ s with heap:=h' }) e' c d (by decide) ⟨_,H,I1,ru,⟨rfl,hx⟩,⟨hi,W⟩,fun b O=>(J b O).1⟩⟩
 done:=by
  intro X hP hw hK hc i pins s σ H E I J st hg;subst hP hw hK;obtain⟨f0,f1,f2,f3,f4,f5⟩:=J it (by simp)
  have ak:xs.length=i:=hg;have Y:=st.2;rw[show(xs.length:Int)-1-(i:Int) = -1 by lia]at Y
  exact wpAny_pyNext_rev_end (I.ok.hd hc) Y fun h' eb=>⟨Z,I.turned (t':=s.toks) (fun b o O e=>eb b o O e) f0 f1 f3 f4 f5⟩
 self:=fun _ _ _ _ _ st h=>wpAny_pyIter_revIter st.2 h
section
variable {X:Cx}{tg:Expr}
def QY(K:U5)(tl:TE):TI:=fun σ H R=>tl σ H fun x H1=>∃v,[x]=[v]/\∃a xs,v = .ref a/\SqL K H1 a xs/\R (Ij K a xs) H1
theorem Pm{l:Expr}{tl:TE}{p pos:Pos}(hg:Gl X "reversed")(hm:X.mg "reversed" = none)(hl:PE X l tl)(hs:aq [l] X.env=[(false,aD l X.env)]:=by rfl):PI X tg (.Call (.Name "reversed" p) [l] [] pos) (QY X.K tl):=by
 intro pins s σ H R I h;have ha:PA X [l] (OL tl Qv):=A0 hl Ab (by rw[hs];rfl)
 refine Call_ (Df I hg hm JW (PyProof.Rows.callWith_type1 (thn (ha pos pins s σ H (fun vs H1=>∃x,vs=[x]/\∃a xs,x = .ref a/\SqL X.K H1 a xs/\R (Ij X.K a xs) H1) I h) fun us Y ⟨vs,H1,O,r1,q1⟩=>?_) hs rfl));obtain⟨x,e0,a,xs,e,hq,q⟩:=q1;subst e0;subst e;cases r1 with
 | cons r rr =>
   cases rr;cases r;obtain⟨W,rv,p,hz⟩:=O.list hq;refine call_reversed_list p.isList ?_;have J:Inv X pins σ H1 { Y with heap:=Y.heap.push (revObj a ((W.toArray.size:Int)-1)) }:=O.kept (t':=Y.toks) fun b o e=>Heap.get?_push_of_some _ e
   have st:({ Y with heap:=Y.heap.push (revObj a ((W.toArray.size:Int)-1)) }:ae).heap.IsRevIter Y.heap.objs.size a ((xs.length:Int)-1-((0:Nat):Int)):=by
    refine⟨_,Heap.get?_push_size _ rfl,Z,?_⟩;have e:((W.toArray.size:Nat):Int)-1=(xs.length:Int)-1-((0:Nat):Int):=by rw[UQ,<- rv.length];simp
    show Data.fields #[.ref a,aE _]=_;rw[e]
   refine wpAny_pyIter_revIter st ?_;refine⟨Y.heap.objs.size,[Y.heap.objs.size],_,_,H1,Z,J,Mt a _ xs,⟨Uo _,st⟩,fun b hb=>?_,q⟩;have e:b=Y.heap.objs.size:=by simpa using hb
   subst e;exact O.fpOk (Uk _) (O.hok.fresh (Uk _))
end
theorem OA{K:U5}{a:aa}{xs:List V}{g:TG}{tb:TS}{D:DA}{σ:St}{H:Hp}(Y:Nat->St->Hp->Prop)(h0:Y 0 σ H)(hl:∀i σ H,i<=xs.length->Y i σ H->SqL K H a xs)
 (hs:∀i x σ H,i<xs.length->xs[xs.length-1-i]? = some x->Y i σ H->g x σ H fun O H2=>tb { D with nx:=Y (i+1),ct:=Y (i+1),bk:=D.nx } O H2) (hd:∀σ H,Y xs.length σ H->D.nx σ H) :
 ∃ W:Nat->Nat->St->Hp->Prop,(∃m,W 0 m σ H)/\∀i m σ H,W i m σ H ->
   ((Ij K a xs).stop i H/\D.nx σ H)\/((Ij K a xs).go i H/\∃N:St->Hp->Prop,(∀J H',N J H'->∃m',m'<m/\W (i+1) m' J H')/\∀x H',(Ij K a xs).yld i H x H'->g x σ H' fun O H2=>tb { D with nx:=N,ct:=N,bk:=D.nx } O H2):=by
 refine⟨fun i m σ H=>m=xs.length-i/\i<=xs.length/\Y i σ H,⟨xs.length,by simp,Uo _,h0⟩,?_⟩
 rintro i m σ H ⟨rfl,hi,p⟩;have q:=hl i σ H hi p;by_cases hlt:i<xs.length
 ·refine .inr ⟨⟨q,hlt⟩,Y (i+1),fun J H' p'=>⟨xs.length-(i+1),by lia,Z,hlt,p'⟩,fun x H' y=>?_⟩
  obtain⟨e,y⟩:=y;subst e;exact hs i x σ _ hlt y p
 ·have e:i=xs.length:=by lia
  subst e;exact .inl ⟨Z,hd σ H p⟩
theorem SqT.same{K:U5}{H H':Hp}{a:aa}{xs:List V}(h:SqT K H a xs)(e:Ae H H'):SqT K H' a xs:=by
 rcases h with (h | ⟨o,h⟩) | h
 ·exact .inl (.inl (e _ _ h))
 ·exact .inl (.inr ⟨o,e _ _ h⟩)
 ·exact .inr h
theorem Ae.new{H:Hp}{p:aa}{o:HO}(h:H p=none):Ae H (upd H p o):=fun b u q=>by rw[Am (Av q h)];exact q
theorem Ae.mv{H H':Hp}{a:aa}(h:Ae H H'):Mv a H H':=fun b o _ q=>h b o q
theorem Paired.get{W O:Type}{F:W->O->Prop}:∀{l₁:List W} {Y:List O} {i:Nat} {a:W},Paired F l₁ Y->l₁[i]? = some a->∃b,Y[i]? = some b/\F a b
 | _,_,_,_,.nil,e=>by simp at e
 | _,_,0,_,.cons h _,e=>by simp at e;subst e;exact⟨_,Z,h⟩
 | _,_,i+1,_,.cons _ t,e=>by
   obtain⟨b,h1,h2⟩:=Paired.get (i:=i) t (by simpa using e)
   exact⟨b,by simpa using h1,h2⟩
theorem Paired.get'{O W:Type}{F:O->W->Prop}:∀{l₁:List O} {Y:List W} {i:Nat} {b:W},Paired F l₁ Y->Y[i]? = some b->∃a,l₁[i]? = some a/\F a b
 | _,_,_,_,.nil,e=>by simp at e
 | _,_,0,_,.cons h _,e=>by simp at e;subst e;exact⟨_,Z,h⟩
 | _,_,i+1,_,.cons _ t,e=>by
   obtain⟨b,h1,h2⟩:=Paired.get' (i:=i) t (by simpa using e)
   exact⟨b,by simpa using h1,h2⟩
theorem Paired.take{α β:Type}{F:α->β->Prop}:∀{l₁:List α} {l₂:List β} (n:Nat),Paired F l₁ l₂->Paired F (l₁.take n) (l₂.take n)
 | _,_,0,_=>by simp;exact .nil
 | _,_,_+1,.nil=>.nil
 | _,_,n+1,.cons h t=>.cons h (Paired.take n t)
theorem Paired.append{α J:Type}{F:α->J->Prop}{l₁ Y:List α}{O W:List J}(a:Paired F l₁ O)(b:Paired F Y W):Paired F (l₁++Y) (O++W):=by
 induction a with
 | nil=>exact b
 | cons h t ih=>exact .cons h ih
def AD(K:U5)(H:Hp)(x:V)(q:Rat):Prop:=∃r,x = .ref r/\SqT K H r [.int q.num,.int q.den]
abbrev Au(K:U5)(H:Hp):List V->List Rat->Prop:=Paired (AD K H)
theorem AD.of{K:U5}{H:Hp}{r:aa}{q:Rat}(h:H r=some (nT q)):AD K H (.ref r) q:=⟨r,Z,SqT.of h⟩
theorem AD.same{K:U5}{H H':Hp}{x:V}{q:Rat}(h:AD K H x q)(e:Ae H H'):AD K H' x q:=by
 obtain⟨r,rfl,h⟩:=h;exact⟨r,Z,h.same e⟩
theorem Au.same{K:U5}{H H':Hp}{xs:List V}{qs:List Rat}(h:Au K H xs qs)(e:Ae H H'):Au K H' xs qs:=Paired.mapP h fun _ _ z=>z.same e
theorem SqT.mv{K:U5}{H H':Hp}{a p:aa}{xs:List V}(h:SqT K H a xs)(pn:Pen H p)(m:Mv p H H'):SqT K H' a xs:=by
 obtain⟨Y,c1,c2,e⟩:=pn
 rcases h with (h | ⟨o,h⟩) | h
 ·exact .inl (.inl (m _ _ (Gf h e (fun z=>by cases z)) h))
 ·exact .inl (.inr ⟨o,m _ _ (Gf h e (fun z=>by cases z)) h⟩)
 ·exact .inr h
theorem AD.mv{K:U5}{H H':Hp}{x:V}{q:Rat}{p:aa}(h:AD K H x q)(pn:Pen H p)(m:Mv p H H'):AD K H' x q:=by
 obtain⟨r,rfl,h⟩:=h;exact⟨r,Z,h.mv pn m⟩
theorem Au.mv{K:U5}{H H':Hp}{xs:List V}{qs:List Rat}{p:aa}(h:Au K H xs qs)(pn:Pen H p)(m:Mv p H H'):Au K H' xs qs:=Paired.mapP h fun _ _ z=>z.mv pn m
theorem SqT.put{K:U5}{H:Hp}{a p:aa}{xs ys:List V}{o:HO}(h:SqT K H a xs)(Y:H p=some (.lst ys)):SqT K (upd H p o) a xs:=by
 rcases h with (h | ⟨u,h⟩) | h
 ·exact .inl (.inl (by rw[Am (Gf h Y (fun z=>by cases z))];exact h))
 ·exact .inl (.inr ⟨u,by rw[Am (Gf h Y (fun z=>by cases z))];exact h⟩)
 ·exact .inr h
theorem AD.put{K:U5}{H:Hp}{x:V}{q:Rat}{p:aa}{ys:List V}{o:HO}(h:AD K H x q)(Y:H p=some (.lst ys)):AD K (upd H p o) x q:=by
 obtain⟨r,rfl,h⟩:=h;exact⟨r,Z,h.put Y⟩
theorem Au.put{K:U5}{H:Hp}{xs:List V}{qs:List Rat}{p:aa}{ys:List V}{o:HO}(h:Au K H xs qs)(Y:H p=some (.lst ys)):Au K (upd H p o) xs qs:=Paired.mapP h fun _ _ z=>z.put Y
def Crv(K:U5)(H:Hp)(r:aa)(qs:List Rat):Prop:=∃xs,SqT K H r xs/\Au K H xs qs
theorem Crv.same{K:U5}{H H':Hp}{r:aa}{qs:List Rat}(h:Crv K H r qs)(e:Ae H H'):Crv K H' r qs:=let ⟨xs,a,b⟩:=h;⟨xs,a.same e,b.same e⟩
def nD(q:Rat):PyData:=.tuple [.int q.num,.int q.den]
theorem AD.rds{K:U5}{H:Hp}{x:V}{q:Rat}(h:AD K H x q):Rds K H x (nD q):=by
 obtain⟨r,rfl,h⟩:=h;refine .tup h rfl fun i x d e1 Y=>?_
 match i with
 | 0=>simp at e1 Y;subst e1;subst Y;exact .int _
 | 1=>simp at e1 Y;subst e1;subst Y;exact .int _
 | i+2=>simp at e1
theorem N3(p q:Rat):PyData.eqv (nD p) (nD q)=decide (p=q):=by
 show(p.num == q.num&&(((p.den:Int) == (q.den:Int))&&true))=_;rw[Bool.and_true,Bool.eq_iff_iff];simp only[Bool.and_eq_true,beq_iff_eq,decide_eq_true_eq]
 constructor
 ·rintro⟨h1,h2⟩;exact Rat.ext h1 (Int.ofNat.inj h2)
 ·rintro rfl;exact⟨Z,Z⟩
theorem FP(q:Rat):SeqAt.shaped (nD q)=true:=by rfl
theorem Au.rds{K:U5}{H:Hp}{xs:List V}{qs:List Rat}(h:Au K H xs qs):∀(i:Nat) x d,xs[i]? = some x->(qs.map nD)[i]? = some d->Rds K H x d:=fun i x d e1 Y=>by
 obtain⟨q,O,W⟩:=Paired.get h e1;rw[UC,O]at Y;cases Y;exact W.rds
theorem Au.rdsL{K:U5}{H:Hp}{r:aa}{xs:List V}{qs:List Rat}(h:Au K H xs qs)(s:SqL K H r xs):Rds K H (.ref r) (.list (qs.map nD)):=.lst s (by rw[h.length,UI]) h.rds
theorem Li:∀qs:List Rat,PyData.canLayAll0 (qs.map nD)=true
 | []=>rfl
 | q::r=>by
   show(PyData.canLay0 (nD q)&&PyData.canLayAll0 (r.map nD))=true;rw[Li r];rfl
theorem HU:∀qs:List Rat,PyData.depthAll (qs.map nD)<=1
 | []=>Uo _
 | q::r=>by
   have ih:=HU r;show max (PyData.depth (nD q)) (PyData.depthAll (r.map nD))<=1;exact Nat.max_le.mpr ⟨Uk _,ih⟩
theorem Oq(qs:List Rat):SeqAt.shaped (.list (qs.map nD))=true:=by
 show(PyData.canLayAll0 (qs.map nD)&&decide (PyData.depthAll (qs.map nD)+1<=64))=true;rw[Li,Bool.true_and];exact decide_eq_true (by have:=HU qs;lia)
theorem eqN{K:U5}{H:Hp}{x y:V}{p q:Rat}{Q:VK}{neg:Bool}(h1:AD K H x p)(h2:AD K H y q)(h:Q (.bl (if neg then !decide (p=q) else decide (p=q))) H):Hy K neg x y H Q :=
 Np ⟨_,_,h1.rds,h2.rds,FP _,FP _,by rw[N3];exact h⟩
theorem Qp{c:TT}{tb:TS}{D:DA}{σ:St}{H:Hp}(W:St->Hp->Prop)(O:St->Hp->Nat)(h0:W σ H)
 (hs:∀σ H,W σ H->c σ H fun b H1=>if b=true then ∃N:St->Hp->Prop,(∀Y H',N Y H'->∃J,J<O σ H/\(J=O Y H'/\W Y H'))/\tb { D with nx:=N,ct:=N,bk:=D.nx } σ H1 else D.nx σ H1):K7 c tb D σ H:=by
 refine⟨fun m σ H=>m=O σ H/\W σ H,⟨_,Z,h0⟩,?_⟩;rintro m σ H ⟨rfl,p⟩;exact hs σ H p
theorem Qo{tb:TS}{D:DA}{σ:St}{H1:Hp}{m:Nat}{W:St->Hp->Prop}{O:St->Hp->Nat}
 (h:tb { D with nx:=fun Y H'=>W Y H'/\O Y H'<m,ct:=fun Y H'=>W Y H'/\O Y H'<m,bk:=D.nx } σ H1) :
 ∃N:St->Hp->Prop,(∀Y H',N Y H'->∃J,J<m/\(J=O Y H'/\W Y H'))/\tb { D with nx:=N,ct:=N,bk:=D.nx } σ H1 :=
 ⟨_,fun _ _ ⟨p,l⟩=>⟨_,l,Z,p⟩,h⟩
def RB(n:Nat)(q:Rat):Prop:=Bd n q.num/\Bd n (q.den:Int)
theorem Bd.mul{m n:Nat}{x y:Int}(h1:Bd m x)(h2:Bd n y):Bd (m+n) (x*y):=by
 unfold Bd at *;rw[Int.natAbs_mul,Nat.pow_add];exact Nat.mul_lt_mul'' h1 h2
theorem Bd.add{n:Nat}{x y:Int}(h1:Bd n x)(h2:Bd n y):Bd (n+1) (x+y):=by
 unfold Bd at *;rw[Nat.pow_succ,Nat.mul_two];exact UY (Int.natAbs_add_le x y) (Nat.add_lt_add h1 h2)
theorem Bd.sub{n:Nat}{x y:Int}(h1:Bd n x)(h2:Bd n y):Bd (n+1) (x-y):=by
 rw[VB];exact Bd.add h1 (by unfold Bd;rw[Int.natAbs_neg];exact h2)
theorem Bd.fdiv{n:Nat}{x y:Int}(h:Bd n x):Bd n (x.fdiv y):=UY (PySem.natAbs_fdiv_le x y) h
theorem Bx.bd{m n:Nat}{x y:Int}(h1:Bd m x)(h2:Bd n y)(h:m+n<=134217728:=by lia):Bx x y:=.inr (.inr ⟨m,n,h1,h2,h⟩)
theorem RB.mono{m n:Nat}{q:Rat}(h:RB m q)(Y:m<=n):RB n q:=⟨h.1.mono Y,h.2.mono Y⟩
theorem RB.div{m n:Nat}{t b:Int}(h1:Bd n t)(h2:Bd n b)(Y:b≠0):RB n (V3 t b):=⟨Bd.num h1,Bd.den Y h2⟩
theorem Jg:∀{us:List ac} {xs:List V},us.map Mo=xs.map some->(∀u∈us,∀x,Mo u=some x->AR x u)->AI xs us
 | [],[],_,_=>.nil
 | [],_::_,e,_=>by simp at e
 | _::_,[],e,_=>by simp at e
 | u::us,x::xs,e,h=>by
   simp only[UX,List.cons.injEq]at e;exact .cons (h u U9 x e.1) (Jg e.2 fun v hv=>h v (Ua _ hv))
theorem NM{u:ac}{x:V}(h:Mo u=some x):AR x u:=by
 cases u<;>first | (cases h;rfl) | (cases h;exact⟨_,Z⟩) | cases h
theorem Mj{K:U5}{H:Hp}{a:aa}{o:Obj}{vs:Array ac}{n:Nat}{q:Rat}(W:K.lookup a=some o)(O:o.cls = .type "tuple")(J:o.data = .seq vs n)(e:vs.toList.map Mo=[some (.int q.num),some (.int (q.den:Int))]):SqT K H a [.int q.num,.int q.den]:=by
 refine .inr ⟨o,vs,n,W,O,J,?_,Jg e fun u _ x h=>NM h⟩;have Y:=congrArg List.length e;simp at Y;rw[Y];decide
theorem RB.plus{m n:Nat}{p q:Rat}(h1:RB m p)(h2:RB n q):RB (m+n+1) (p+q):=by
 rw[<- Nm.plus_eq];refine⟨Bd.num (Bd.add (h1.1.mul h2.2) ((h2.1.mul h1.2).mono (by lia))),Bd.den (V9 (Nm.den_ne p) (Nm.den_ne q)) ((h1.2.mul h2.2).mono (by lia))⟩
theorem RB.minus{m n:Nat}{p q:Rat}(h1:RB m p)(h2:RB n q):RB (m+n+1) (p-q):=by
 rw[<- Nm.minus_eq];refine⟨Bd.num (Bd.sub (h1.1.mul h2.2) ((h2.1.mul h1.2).mono (by lia))),Bd.den (V9 (Nm.den_ne p) (Nm.den_ne q)) ((h1.2.mul h2.2).mono (by lia))⟩
theorem RB.times{m n:Nat}{p q:Rat}(h1:RB m p)(h2:RB n q):RB (m+n) (p*q):=by
 rw[<- Nm.times_eq];exact⟨Bd.num (h1.1.mul h2.1),Bd.den (V9 (Nm.den_ne p) (Nm.den_ne q)) (h1.2.mul h2.2)⟩
theorem RB.zero{n:Nat}(h:1<=n):RB n 0:=⟨(show Bd 1 0 by unfold Bd;decide).mono h,(show Bd 1 1 by unfold Bd;decide).mono h⟩
theorem RB.one{n:Nat}(h:1<=n):RB n 1:=⟨(show Bd 1 1 by unfold Bd;decide).mono h,(show Bd 1 1 by unfold Bd;decide).mono h⟩
inductive FX(K:U5)(g:Rat->Rat->Rat)(vs:List V)(H:Hp)(Q:VK)(E_3:XK):Prop
 | mk (x y:V) (p q:Rat) (m n:Nat) (h1:vs=[x,y]) (h2:AD K H x p) (h3:AD K H y q) (h4:RB m p) (h5:RB n q) (h6:m+n<=100000000) (h7:∀r,H r=none->Q (.ref r) (upd H r (nT (g p q)))):FX K g vs H Q E_3
def Sq(b:Bool)(K:U5)(H:Hp)(a:aa)(xs:List V):Prop:=match b with
 | true=>SqL K H a xs
 | false=>SqT K H a xs
theorem M0{X:Cx}{tg l:Expr}{Y W:TI}(h1:PI X tg l Y)(h2:PI X tg l W):PI X tg l (fun σ H R=>Y σ H R\/W σ H R):=fun pins s σ H R I h=>by
 rcases h with h | h
 ·exact h1 pins s σ H R I h
 ·exact h2 pins s σ H R I h
abbrev Qb(K:U5)(tl:TE):TI:=fun σ H R=>Nc K tl σ H R\/Qa K tl σ H R
theorem Oz{K:U5}{b:Bool}{a:aa}{n:Nat}{xs:List V}{g:TG}{tb:TS}{D:DA}{σ:St}{H:Hp}(W:σ[n]? = some (some (.ref a)))(Y:Nat->St->Hp->Prop)(J:Y 0 σ H)(hl:∀i σ H,i<=xs.length->Y i σ H->Sq b K H a xs)
 (hs:∀i x σ H,xs[i]? = some x->Y i σ H->g x σ H fun O H2=>tb { D with nx:=Y (i+1),ct:=Y (i+1),bk:=D.nx } O H2) (hd:∀σ H,Y xs.length σ H->D.nx σ H) :
 P4 (Qb K (LU n)) g tb D σ H:=by
 have q:=hl 0 σ H (Uo _) J;cases b with
 | true=>exact .inl ⟨_,W,a,Z,⟨xs,q⟩,Hk Y J hl hs hd⟩
 | false=>exact .inr ⟨_,W,a,Z,⟨xs,q⟩,Gr Y J hl hs hd⟩
theorem N7{K:U5}{b:Bool}{a:aa}{n:Nat}{js:List Nat}{xs:List V}{te:TE}{σ:St}{H:Hp}{Q:VK}(ak:σ[n]? = some (some (.ref a)))(W:Nat->List V->Hp->Prop)(h0:W 0 [] H)
 (O:∀i zs H,i<=xs.length->W i zs H->Sq b K H a xs/\zs.length=i) (hz:xs.length<=af)
 (hs:∀i x zs H,xs[i]? = some x->W i zs H->te ((cS 1 js σ).set 0 (some x)) H fun y H4=>W (i+1) (zs++[y]) H4) (J:∀zs H',W xs.length zs H'->∀p,H' p=none->Q (.ref p) (upd H' p (.lst zs))) :
 tLC (Qb K (LU n)) 1 js (Cq 0) LS te σ H Q:=by
 have q:=(O 0 [] H (Uo _) h0).1;cases b with
 | true =>
   refine Cb (.inl ⟨_,ak,a,Z,⟨xs,q⟩,xs.length,W,h0,⟨?_,?_,?_⟩⟩)
   ·intro i zs H' hi p;have Y:=U7 hi;obtain⟨h1,h2⟩:=O i zs H' Y p;exact⟨⟨xs,xs[i],h1,by simp[hi]⟩,by lia⟩
   ·rintro i zs H' x H1 hi p ⟨rfl,y⟩;have Y:=U7 hi;have hx:=y xs (O i zs _ Y p).1;exact hs i x zs _ hx p
   ·intro zs H' p;have Y:=Uk xs.length;obtain⟨h1,h2⟩:=O _ zs H' Y p;exact⟨⟨xs,h1,Uk _⟩,by lia,J zs H' p⟩
 | false =>
   refine Cb (.inr ⟨_,ak,a,Z,⟨xs,q⟩,xs.length,W,h0,⟨?_,?_,?_⟩⟩)
   ·intro i zs H' hi p;have Y:=U7 hi;obtain⟨h1,h2⟩:=O i zs H' Y p;exact⟨⟨xs,xs[i],h1,by simp[hi]⟩,by lia⟩
   ·rintro i zs H' x H1 hi p ⟨rfl,y⟩;have Y:=U7 hi;have hx:=y xs (O i zs _ Y p).1;exact hs i x zs _ hx p
   ·intro zs H' p;have Y:=Uk xs.length;obtain⟨h1,h2⟩:=O _ zs H' Y p;exact⟨⟨xs,h1,Uk _⟩,by lia,J zs H' p⟩
section
variable {X:Cx}(K:U5)
theorem ixT(e:X.K=K:=by rfl):IxR X (Pe K):=by subst e;exact Q7
theorem ixL(e:X.K=K:=by rfl):IxR X (Pg K):=by subst e;exact Ow
theorem eqD(Y:X.A.units+64<cLine)(e:X.K=K:=by rfl):OpR X (aH .Eq) (Hy K false):=by subst e;exact Pz Y
theorem neD(Y:X.A.units+64<cLine)(e:X.K=K:=by rfl):OpR X (aH .NotEq) (Hy K true):=by subst e;exact Px Y
theorem slL(e:X.K=K:=by rfl):SlR X (Pd K):=by subst e;exact O6
inductive TyX(K:U5)(H:Hp):V->ac->Prop where
 | of {x:V} {t:ac} (h:Gm K H x t):TyX K H x t
 | tup {a:aa} {xs:List V} (h:SqT K H a xs):TyX K H (.ref a) (.type "tuple")
 | lst {a:aa} {xs:List V} (h:SqL K H a xs):TyX K H (.ref a) (.type "list")
inductive R6(xs:List V)(H:Hp)(Q:VK):Prop
 | mk (p:_) (ys:_) (h1:xs=[.ref p]) (h2:(SqL K H p ys\/SqT K H p ys)) (h3:Q (.int ys.length) H):R6 xs H Q
theorem Bw(e:X.K=K:=by rfl):CV X (.builtin "len") (R6 K):=by subst e;exact fun pins s σ H xs us Q I r ⟨p,ys,h1,h2,Y⟩=>J7 pins s σ H xs us Q I r ⟨p,ys,h1,h2,Y⟩
inductive OP(xs:List V)(H:Hp)(Q:VK):Prop
 | mk (p:_) (ys:_) (h1:xs=[.ref p]) (h2:(SqL K H p ys\/SqT K H p ys)) (h3:∀l,H l=none->Q (.ref l) (upd H l (.lst ys))):OP xs H Q
theorem QT(e:X.K=K:=by rfl):CV X (.type "list") (OP K):=by subst e;exact fun pins s σ H xs us Q I r ⟨p,ys,h1,h2,Y⟩=>J6 pins s σ H xs us Q I r ⟨p,ys,h1,h2,Y⟩
inductive NB(xs:List V)(H:Hp)(Q:VK):Prop
 | mk (p:_) (ys:_) (h1:xs=[.ref p]) (h2:((SqL K H p ys/\∀l,H l=none->Q (.ref l) (upd H l (.tup ys)))\/(SqT K H p ys/\Q (.ref p) H))):NB xs H Q
theorem Mu(e:X.K=K:=by rfl):CV X (.type "tuple") (NB K):=by subst e;exact fun pins s σ H xs us Q I r ⟨p,ys,h1,h2⟩=>HC pins s σ H xs us Q I r ⟨p,ys,h1,h2⟩
variable {tg l:Expr}{tl:TE}
theorem piL(Y:PE X l tl)(e:X.K=K:=by rfl):PI X tg l (Nc K tl):=by subst e;exact Lb Y
theorem piT(Y:PE X l tl)(e:X.K=K:=by rfl):PI X tg l (Qa K tl):=by subst e;exact MP Y
theorem piS(Y:PE X l tl)(e:X.K=K:=by rfl):PI X tg l (Qb K tl):=by subst e;exact M0 (Lb Y) (MP Y)
theorem QG{p pos:Pos}(W:Gl X "reversed")(Y:X.mg "reversed" = none)(O:PE X l tl)(hs:aq [l] X.env=[(false,aD l X.env)]:=by rfl)(e:X.K=K:=by rfl):PI X tg (.Call (.Name "reversed" p) [l] [] pos) (QY K tl):=by subst e;exact Pm W Y O hs
theorem pgT{es:List Expr}{k:Nat}{t:TGs}{n:Nat}{pos:Pos}(O:X.calm=true)(h:PGs X es t)(W:(aY es X.env).length=n:=by rfl)(Y:(aY es X.env).findIdx? (·.1)=none:=by rfl)(e:X.K=K:=by rfl):PG X (.Tuple es k pos) (KD K n t):=by subst e;exact Pn O h W Y
end
inductive NO(K:U5)(H:Hp):V->Bool->Prop where
 | int (i:Int):NO K H (.int i) true
 | bl (b:Bool):NO K H (.bl b) false
 | oth {x:V} {t:ac} (ty:TyX K H x t) (h:VC K t (.type "int")=some false):NO K H x false
theorem Kx{lo:Int}{n:Nat}{js:List Nat}{te:TE}{σ:St}{H:Hp}{O:List V->Hp->Prop}(Y:Nat->List V->Hp->Prop)(h0:Y 0 [] H)(hl:∀i zs H,i<=n->Y i zs H->zs.length=i)(hz:n<=af)
 (hs:∀i zs H,i<n->Y i zs H->te ((cS 1 js σ).set 0 (some (.int (lo+i)))) H fun y H4=>Y (i+1) (zs++[y]) H4) (J:∀zs H',Y n zs H'->O zs H') :
 ∃(n':Nat) (W:Nat->List V->Hp->Prop),W 0 [] H/\LcW (Itr lo n) n' 1 js σ (Cq 0) LS te O W:=by
 refine⟨n,Y,h0,⟨?_,?_,?_⟩⟩
 ·intro i zs H' hi p;have:=hl i zs H' (U7 hi) p;exact⟨hi,by lia⟩
 ·rintro i zs H' x H1 hi p ⟨rfl,rfl⟩;exact hs i zs _ hi p
 ·intro zs H' p;have:=hl n zs H' (Uk _) p;exact⟨Uk _,by lia,J zs H' p⟩
theorem Eg{Y:Type}{xs:List Y}{v:Y}(h:xs[xs.length-1]? = some v):atI xs (-1)=some v:=by
 have W:xs.length-1<xs.length:=(Ue.mp h).1
 have e:ixN xs.length (-1)=some (xs.length-1):=by
  unfold ixN;rw[if_neg (by decide),if_pos (by lia)]
  congr 1
  lia
 unfold atI;rw[e];exact h
def BE(qs:List Rat):Prop:=qs=[]\/∃q,qs[qs.length-1]? = some q/\q≠0
theorem Bs(qs:List Rat):BE (Cv.strip qs):=by
 by_cases h:Cv.strip qs=[]
 ·exact .inl h
 ·have Y:0<(Cv.strip qs).length:=Vf.mpr h;have e:=Vy (l:=Cv.strip qs) (i:=(Cv.strip qs).length-1) (by lia)
  refine .inr ⟨_,e,fun z=>Cv.strip_last qs h ?_⟩;rw[e,z]
theorem Pen.sm{H H':Hp}{p:aa}(h:Pen H p)(e:Ae H H'):Pen H' p:=let ⟨c0,c1,c2,z⟩:=h;⟨c0,c1,c2,e _ _ z⟩
theorem EY{K:U5}{H:Hp}{x:V}{q:Rat}(h:AD K H x q):∀n:Nat,Au K H (Ux n [x]).flatten (Ux n q)
 | 0=>.nil
 | n+1=>by
   rw[US,UT,US];exact .cons h (EY h n)
theorem DP{Y:List Int}{i:Nat}{t:Int}{k:Int}(h:Y[i]? = some t)(e:k=(i:Int)):atI (Y.map V.int) k=some (.int t):=by
 subst e;exact Bg (by rw[UC,h];rfl)
theorem Hf{n i:Nat}{k:Int}(h:i<n)(e:k=(i:Int)):ixN n k=some i:=by
 subst e;unfold ixN;rw[if_pos (by lia),if_pos (by lia),UM]
theorem Ae.put{H H':Hp}{p:aa}{o:HO}(h:Ae H H')(Y:H p=none):Ae H (upd H' p o):=fun b u q=>by rw[Am (Av q Y)];exact h b u q
def Up(c M:Nat)(t:Int):Prop:=t.natAbs<=c*2 ^ M
theorem Up.bd{c k M:Nat}{t:Int}(h:Up c M t)(Y:c<2 ^ k):Bd (M+k) t:=by
 unfold Up at h;unfold Bd;rw[Nat.pow_add,Nat.mul_comm (2 ^ M)];exact UY h (Nat.mul_lt_mul_of_pos_right Y (Nat.pow_pos (by decide)))
theorem Up.add{c M:Nat}{t d:Int}(h:Up c M t)(Y:Bd M d):Up (c+1) M (t+d):=by
 unfold Up at *;unfold Bd at Y;rw[VD,VE];exact U6 (Int.natAbs_add_le t d) (Nat.add_le_add h (U7 Y))
theorem Up.mono{c Y M:Nat}{t:Int}(h:Up c M t)(W:c<=Y):Up Y M t:=U6 h (VF _ W)
def CX1(P:ai)(w:ar):CXT:=fun outer H s E e s'=>∃(ea:aa) (cls a0:ac) (B:au) (H':Hp),e = .ref ea/\s'.os=s.os/\aW s'.gens/\Un (frs outer) [] H H' s.heap s'.heap/\HOk P w H' s'.heap /\
 Heap.FlyingW B outer ea cls a0 s'.heap/\(∀b o,s.heap.get? b=some o->b∉frs outer->∃o',B.get? b=some o')/\(∀b u,H' b=some u->∃o',B.get? b=some o')/\E cls none H'
theorem BW.got{P:ai}{w:ar}{H:Hp}{h:au}{a:aa}{o:HO}(x:BW P w H h a o):∃Y,h.get? a=some Y:=by
 induction o with
 | lst xs=>obtain⟨_,_,_,_,e⟩:=x;exact⟨_,e⟩
 | tup xs=>obtain⟨_,_,_,Y,e,_⟩:=x;exact⟨_,e⟩
 | dK kvs=>obtain⟨_,_,_,_,Y,_,_,e,_⟩:=x;exact⟨_,e⟩
 | dT kvs=>obtain⟨_,_,_,_,Y,_,_,e,_⟩:=x;exact⟨_,e⟩
 | set S n=>obtain⟨Y,_,_,_,e,_⟩:=x;exact⟨_,e⟩
 | ins C dx fs=>obtain⟨_,_,_,e,_⟩:=x;exact⟨_,e⟩
 | own y=>exact x
 | xd fs=>obtain⟨_,⟨Y,_,_,e,_⟩,_⟩:=x;exact⟨_,e⟩
 | met f y=>exact⟨_,x⟩
 | rng lo hi=>obtain⟨_,_,_,e⟩:=x;exact⟨_,e⟩
 | frz Y u ih=>exact⟨_,x.1⟩
 | tbl ps=>exact⟨_,x⟩
 | ext φ=>exact x.2.1
section
variable {X:Cx}{pins:List (aa×Obj)}{σ:St}{H H':Hp}{s s':ae}{B:au}
theorem Inv.flown{h2:au}{toks:Nat}(I:Inv X pins σ H s)(Y:Un (frs X.stack) [] H H' s.heap s'.heap)(ak:HOk X.prog X.w H' s'.heap)(os:s'.os=s.os)(W:aW s'.gens)
 (hs:∀b o,B.get? b=some o->s'.heap.get? b=some o) (k1:∀b o,s.heap.get? b=some o->b∉frs X.stack->∃o',B.get? b=some o') (k2:∀b u,H' b=some u->∃o',B.get? b=some o')
 (al:∀b o,B.get? b=some o->h2.get? b=some o) (sl:∀b o,b∈frs X.stack->s'.heap.get? b=some o->∃z,h2.get? b=some { o with slots:=z }):Inv X pins σ H' { s' with heap:=h2,toks:=toks }:=by
 have key:∀b o,s'.heap.get? b=some o->(∃o',B.get? b=some o')->h2.get? b=some o:=fun b o e ⟨o',q⟩=>by
  have:=hs b o' q;rw[e]at this;cases this;exact al b o q
 refine I.call' (ch:=[]) os ⟨fun b o e n O nx=>key b o (Y.keep b o e n O nx) (k1 b o e O),fun b o e n O nx=>?_,Y.free,fun b o e nx=>?_,Y.tups,Y.frzs,Y.tbls⟩ (fun b u e=>?_) W (fun _ z=>nomatch z)
 ·obtain⟨z,q⟩:=Y.slot b o e n O nx;obtain⟨z',J⟩:=sl b _ O q;exact⟨z',J⟩
 ·obtain⟨o',q⟩:=Y.there b o e nx;by_cases hb:b∈frs X.stack
  ·obtain⟨z',J⟩:=sl b _ hb q;exact⟨_,J⟩
  ·exact⟨_,key b o' q (k1 b o e hb)⟩
 ·refine(ak b u e).stay (fun c v hc q=>key c v q ?_) (fun _ q=>q) fun _ _ q=>q
  rcases hc with rfl | z
  ·exact k2 _ u e
  ·exact k2 c _ z
theorem Oy(h:au)(l:List Env):∀env∈l,∀b,env.frame=some b->b∈frs l:=fun env Y b W=>Ul.mpr ⟨env,Y,W⟩
theorem Inv.slots{h2:au}(O:s'.heap.FunFrames B X.stack)(u:s'.heap.UpToSlots h2):∀b o,b∈frs X.stack->s'.heap.get? b=some o->∃z,h2.get? b=some { o with slots:=z }:=fun b o W e=>by
 obtain⟨_,o',Y,J⟩:=O.mem W;rw[e]at Y;cases Y;exact u b o e J
end
section
variable {P:ai}{w:ar}{K:U5}{mg:Str->Option ac}{base:au}{N:List Str}{qual:Str}{scope:aB}{f:aa}{cd:ac}{A:aw}{outer:List Env}{s:ae}{H:Hp}{E:XK}
end
structure Ja(K:U5)(x:Str)(C:aa):Prop where
 ns:VG K aj x=some (some (.ref C))
 ob:∃bm N nm q bs hdct sn sub ab col dd k0 k1 k2 k3 k5,K.lookup C=some (excClassObj nm q C N bs bm hdct sn sub ab col dd k0 k1 k2 k3 k5 "ValueError.__new__")
 ex:VH K C [.type "ValueError",.type "Exception",.type "BaseException",.type "object"] "ValueError.__new__" = true
def OZ(E:XK)(C:aa)(t:TA):TS:=fun _ σ H=>t σ H fun xs H1=>xs.length<=af/\E (.ref C) none H1
def OR(X:Cx)(E:XK):Prop:=∀(pins:List (aa×Obj)) (σ:St) (H1:Hp) (s1:ae) (h2:au) (ea:aa) (cls:ac) (vs:List ac),Inv X pins σ H1 s1->Heap.MadeExcOf s1.heap h2 ea cls vs->E cls none H1->X.xe (.ref ea) { s1 with heap:=h2 }
theorem Pw{K:U5}{h:au}{mg:Str->Option ac}{x:Str}{C:aa}(X:K.In h)(g:h.Ns aj mg)(c:Ja K x C):OwnCls x C [.type "ValueError",.type "Exception",.type "BaseException",.type "object"] "ValueError.__new__" mg h:=by
 obtain⟨bm,N,nm,q,bs,hdct,sn,sub,ab,col,dd,k0,k1,k2,k3,k5,l⟩:=c.ob;have ex:=c.ex;unfold VH at ex;rw[l]at ex;simp only[excClassObj,Bool.and_eq_true,beq_iff_eq]at ex;exact⟨VI X g c.ns,bm,N,nm,q,bs,hdct,sn,sub,ab,col,dd,k0,k1,k2,k3,k5,_,X _ _ l,.of_isNs (PySem.W.isNs_of_in X ex.1.2),PySem.W.nsMap_none_of_in X ex.1.2 ex.2,PySem.W.tail_of_in X ex.1.1.2⟩
theorem Dq{X:Cx}{E:XK}{x:Str}{C:aa}{np cpos pos:Pos}{Y:Expr}{BD:List Expr}{t:TA}(c:Ja X.K x C)(hg:Gl X x)(hM:OR X E)(hc:X.calm=true)(ha:PA X (Y::BD) t)
 (al:(x == ("__debug__" : Str))=false:=by decide) (J:aq (Y::BD) X.env=(false,aD Y X.env)::aq BD X.env:=by rfl) (ak:(aN cpos (aq BD X.env)).any (·.1)=false:=by rfl) :
 PS X (.Raise (some (.Call (.Name x np) (Y::BD) [] cpos)) none pos) (OZ E C t):=by
 intro pins s σ H D I h;have O:=Pw I.mod.kin I.mod.glob c;obtain⟨tl,N,nm,q,bs,hdct,sn,sub,ab,col,dd,k0,k1,k2,k3,k5,mN,hC,hN,an,T⟩:=O.obj;have FB:=PySem.F.excBase_ValueError
 refine wpAny_Raise_call_subT (C:=C) (nm:=nm) (q:=q) (N:=N) (bs:=bs) (bm:=tl) (hdct:=hdct) (sn:=sn) (sub:=sub) (ab:=ab) (col:=col) (dd:=dd) (k0:=k0) (k1:=k1) (k2:=k2) (k3:=k3) (k5:=k5)
  FB (mN:=mN) (T.hasType FB.hasBase) (I.ok.hd hc) (by rw[J];show(false||(aN cpos (aq BD X.env)).any (·.1))=false;rw[ak];rfl) an (Fl I hg O.bound ⟨Z,?_⟩ al)
 rw[J];refine Calls.evalArgs_plain ?_;have z:=ha cpos pins s σ H _ I h;rw[J]at z;refine thn z fun us s2 ⟨xs,H1,W,r,hz,hE⟩=>⟨Z,by rw[<- r.length];exact hz,W.bk _ _ hC,hN.keeps W.bk,T.keeps W.bk,fun h' e hx=>hM pins σ H1 s2 h' e _ _ W hx hE⟩
def hoX(a:aa)(cls:ac):HO:=.ext fun h=>∃o,h.get? a=some o/\o.cls=cls
theorem Qc{P:ai}{w:ar}{H:Hp}{h:au}{a:aa}{o:Obj}(e:h.get? a=some o):BW P w H h a (hoX a o.cls):=⟨⟨o,e,Z⟩,⟨o,e⟩,fun _ _ ⟨Y,e1,c1⟩ k=>⟨Y,k Y e1,c1⟩⟩
abbrev Cx.marked(X:Cx)(ea:aa):Cx:={ X with A:=X.A.mark (some (.ref ea)),calm:=false,xe:=fun _ _=>False }
section
variable {X:Cx}{pins:List (aa×Obj)}{σ:St}{H H':Hp}{s s':ae}{B:au}
theorem Cx.Ok.marked(Y:X.Ok)(ea:aa):(X.marked ea).Ok :=
 ⟨Y.mod,Y.kind,Y.glob,Y.blt,Y.above,Y.inj,Y.has,Y.cab,(fun z=>nomatch z),Y.frames,Y.stk,Y.exf,Y.bs,Y.bsz,Y.noex,Y.exfs,Y.funs,Y.frf⟩
theorem Inv.marked(I:Inv X pins σ H s)(ea:aa):Inv (X.marked ea) pins σ H s:=⟨I.ok.marked ea,I.os,I.bare,I.base,I.loc,I.cell,I.free,I.freeC,I.pin,I.hok,I.len⟩
theorem Inv.caught{h2:au}{toks:Nat}{ea:aa}{cls a0:ac}(I:Inv X pins σ H s)(O:Un (frs X.stack) [] H H' s.heap s'.heap)(aF:HOk X.prog X.w H' s'.heap)(os:s'.os=s.os)(al:aW s'.gens)
 (hs:∀b o,B.get? b=some o->s'.heap.get? b=some o) (k1:∀b o,s.heap.get? b=some o->b∉frs X.stack->∃o',B.get? b=some o') (k2:∀b u,H' b=some u->∃o',B.get? b=some o')
 (W:Heap.FlyingW B X.stack ea cls a0 h2) (sl:∀b o,b∈frs X.stack->s'.heap.get? b=some o->∃z,h2.get? b=some { o with slots:=z }):Inv X pins σ (upd H' ea (hoX ea cls)) { s' with heap:=h2,toks:=toks }:=by
 have ak:∀b o,B.get? b=some o->b≠ea:=fun b o e z=>by rw[z,W.2.1]at e;cases e
 obtain⟨oe,vs,an,aC,as,_⟩:=W.first
 have ap:∀b o,s.heap.get? b=some o->b≠ea:=fun b o e z=>by
  by_cases hb:b∈frs X.stack
  ·obtain⟨_,o',e',nf⟩:=W.2.2.1.mem hb;rw[z,an]at e';cases e';exact nf _ as
  ·obtain⟨o',q⟩:=k1 b o e hb;exact ak b o' q z
 have Y:∀b u,H' b=some u->b≠ea:=fun b u e=>let ⟨o',q⟩:=k2 b u e;ak b o' q
 have key:∀b o,s'.heap.get? b=some o->(∃o',B.get? b=some o')->h2.get? b=some o:=fun b o e ⟨o',q⟩=>by
  have:=hs b o' q;rw[e]at this;cases this;exact W.1 b o q
 refine I.call' (ch:=[]) os ⟨fun b o e n J nx=>key b o (O.keep b o e n J nx) (k1 b o e J),fun b o e n J nx=>?_,fun b o e n nx=>?_,fun b o e nx=>?_,fun b xs e=>?_,fun b o u e=>?_,fun b ps e=>?_⟩ (fun b u e=>?_) al (fun _ z=>nomatch z)
 ·obtain⟨z,q⟩:=O.slot b o e n J nx;obtain⟨z',q'⟩:=sl b _ J q;exact⟨z',q'⟩
 ·rw[Am (ap b o e)];exact O.free b o e n nx
 ·obtain⟨o',q⟩:=O.there b o e nx;by_cases hb:b∈frs X.stack
  ·obtain⟨z',q'⟩:=sl b _ hb q;exact⟨_,q'⟩
  ·exact⟨_,key b o' q (k1 b o e hb)⟩
 ·have z:=O.tups b xs e;rw[Am (Y b _ z)];exact z
 ·have z:=O.frzs b o u e;rw[Am (Y b _ z)];exact z
 ·obtain⟨more,z⟩:=O.tbls b ps e;exact⟨more,by rw[Am (Y b _ z)];exact z⟩
 ·by_cases hb:b=ea
  ·subst hb;rw[Aa]at e;cases e;rw[<- aC];exact Qc an
  ·rw[Am hb]at e;refine(aF b u e).stay (fun c v hc q=>key c v q ?_) (fun c q=>by rw[Am (Y c _ q)];exact q) fun c xs q=>by rw[Am (Y c _ q)];exact q
   rcases hc with rfl | z
   ·exact k2 _ u e
   ·exact k2 c _ z
theorem Inv.gone{h2:au}{toks:Nat}{i:Nat}{n:Str}{v:Option ac}{m:Str->Option ac}(I:Inv X pins σ H s)(hN:X.N.Nodup)(hi:X.N[i]? = some n)
 (hl:∀(j:Nat) (x:Str) (v:V),X.N[j]? = some x->σ[j]? = some (some v)->Vis X.env.scope x->∃u,AR v u/\Rf X.env s.heap m x u)
 (hn:h2.Ns X.env.locals fun x=>if x=n then v else m x) (sb:Heap.SameBut X.env.locals s.heap h2):Inv X pins (σ.set i none) H { s with heap:=h2,toks:=toks }:=by
 have kp:∀b o,b≠X.env.locals->s.heap.get? b=some o->h2.get? b=some o:=fun b o nb e=>(sb.2 b nb).trans e;have W:∀b o,X.s₀.heap.get? b=some o->b≠X.env.locals:=fun b o e=>TZ (TX (Heap.lt_size e) I.ok.above);have Y:∀x c,X.env.cells.lookup x=some c->∀v,s.heap.IsCell c v->h2.IsCell c v:=fun x c e v ⟨o,ho,hd⟩=>⟨o,kp c o (I.cne x c e) ho,hd⟩;refine⟨I.ok,I.os,I.bare,⟨fun b o e nn hb O=>kp b o (W b o e) (I.base.keep b o e nn hb O),fun b o e nn hb O=>?_,I.base.free,fun b o e O=>?_,I.base.tups,I.base.frzs,I.base.tbls⟩,⟨_,hn,fun j x v' e1 J e3=>?_⟩,fun x c e=>?_,I.free,I.freeC,fun p hp=>?_,fun b u e=>?_,by rw[UR];exact I.len⟩
 ·obtain⟨sl,q⟩:=I.base.slot b o e nn hb O;exact⟨sl,kp b _ (W b o e) q⟩
 ·obtain⟨o',q⟩:=I.base.there b o e O;exact⟨o',kp b _ (W b o e) q⟩
 ·by_cases hij:i=j
  ·subst hij;rw[List.getElem?_set]at J
   split at J
   ·split at J<;>cases J
   ·exact absurd rfl (by assumption)
  ·rw[Uh hij]at J;obtain⟨u,r,l⟩:=hl j x v' e1 J e3;have O:x≠n:=fun z=>hij (Ha hN hi (by rw[<- z];exact e1))
   refine⟨u,r,?_⟩
   rcases l with ⟨k,l⟩ | ⟨k,c,e,z⟩
   ·exact .inl ⟨k,by show(if x=n then v else m x)=_;rw[if_neg O];exact l⟩
   ·exact .inr ⟨k,c,e,Y x c e _ z⟩
 ·obtain⟨v,z⟩:=I.cell x c e;exact⟨v,Y x c e v z⟩
 ·obtain⟨e,nn,ne,nf,d⟩:=I.pin p hp;exact⟨kp _ _ ne e,nn,ne,nf,d⟩
 ·refine(I.hok b u e).stay (fun c v hc q=>kp c v ?_ q) (fun _ q=>q) fun _ _ q=>q
  rcases hc with rfl | z
  ·intro y;rw[y,I.free]at e;cases e
  ·intro y;rw[y,I.free]at z;cases z
end
section
open PySem.W PySem.Builtin PySem.Builtin.ObjectAttr PySem.Builtin.Getset_descriptor
variable {prog:ai}{w:ar}{A:aw}{E:ac->ae->Prop}{s:ae}{K:U5}{x D:aa}
structure XTy(K:U5)(D:aa):Prop where
 ga:findIn K (.ref D) "__getattribute__" = some (some (.builtin "BaseException.__getattribute__"))
 gt:findIn K (.ref D) "__getattr__" = some none
 ca:findIn K (.ref D) "__class__" = some (some (.builtin "object.__class__"))
 gg:specialIn K (.builtin "object.__class__") "__get__" = some (some (.builtin "getset_descriptor.__get__"))
 tk:takesIn K (.builtin "object.__class__")=some true
 ob:mroIn K D (.type "object")=some true
 be:mroIn K D (.type "BaseException")=some true
 cl:∃c d cd sl,K.lookup D=some ⟨c,d,.cls cd,sl⟩
theorem Mc(X:K.In s.heap)(T:XTy K D):Looks (ao prog w) s.heap (find (.ref x) (.ref D) "__class__") (.bind (.builtin "getset_descriptor.__get__") (.builtin "object.__class__")):=by
 have L1:=looks_findIn (M:=ao prog w) X T.ca;have L2:Looks (ao prog w) s.heap (getOf (some (.builtin "object.__class__"))) (some (.builtin "getset_descriptor.__get__")):=looks_specialIn X T.gg;have L3:=looks_takesIn (M:=ao prog w) X T.tk;exact L1.andThen (L2.andThen ((show Looks (ao prog w) s.heap (dataDescriptor? (some (.builtin "object.__class__")) (some (.builtin "getset_descriptor.__get__"))) (some (.builtin "getset_descriptor.__get__",.builtin "object.__class__")) from L3.andThen .now).andThen (Looks.tag .now)))
theorem Mi{Q:Option ac->ae->Prop}(X:K.In s.heap)(W:Looks (ao prog w) s.heap (typeOf (.ref x)) (.ref D))(T:XTy K D)(h:Q (some (.ref D)) { s with toks:=s.toks+1 }):am (ao prog w) A (getAttr? (.ref x) "__class__") Q E s:=by
 have L1:=looks_findIn (M:=ao prog w) X T.ga;have L2:=Mc (prog:=prog) (w:=w) (x:=x) X T;have L3:=looks_findIn (M:=ao prog w) X T.gt;have L4:=looks_mroIn (M:=ao prog w) X T.ob;obtain⟨hh,g,d,t,os⟩:=s;unfold getAttr? getAttrBy? getAttrBy;have L5:=looks_mroIn (M:=ao prog w) X T.be;refine ad (wpAny_mkText (ad (bj (ax (ad (W.at (ad (L1.at ?_))))))));have O:(Value.builtin "BaseException.__getattribute__" == Value.builtin "object.__getattribute__")=false:=by decide +kernel
 dsimp only;rw[O,Bool.and_false,if_neg (by decide)]
 have hk:builtinKind "BaseException.__getattribute__" = some .slot:=by decide +kernel
 have Y:splitId "BaseException.__getattribute__" = some ("BaseException","__getattribute__"):=by decide +kernel
 have J:=F.args_bexc_ga (.ref x) (.str "__class__" t);unfold getAttrByItsOwn hookBefore;refine ad ?_;show am _ _ (typeLookup (.ref D) "__getattr__") _ _ _;refine L3.at (ad (bj (ax ?_)));show am _ _ (boundAndCalled (.builtin "BaseException.__getattribute__") (.ref x) _) _ _ _;unfold boundAndCalled;rw[F.excAttr_ValueError.ga.bind (.ref x)];refine ad (ah ?_)
 first | refine wpAny_call (codeAny_call_builtin F.excAttr_ValueError.ga.plain F.entry_bexc_ga ?_) | refine ax (wpAny_call (codeAny_call_builtin F.excAttr_ValueError.ga.plain F.entry_bexc_ga ?_))
 simp only[checkBuiltinCall,hk,Y];unfold isInstance;show am _ _ (do let b <- (do let tp <- typeOf (.ref x);isSubtype tp (.type "BaseException"));_) _ _ _
 refine ad (ad (W.at (L5.at ?_)));rw[if_neg (by decide)]
 unfold argsOk at J;refine wpAny_of_eq J ?_;show am _ _ (Builtin.«object.__getattribute__» ⟨[.ref x,.str "__class__" t],[]⟩) _ _ _;unfold Builtin.«object.__getattribute__»;refine ad (wpAny_of_eq (show slotArgs "__getattribute__" 1 ⟨[.ref x,.str "__class__" t],[]⟩=pure (.ref x,[.str "__class__" t]) from by kernel_rfl) ?_)
 refine ad (wpAny_of_eq (show attrName (.str "__class__" t)=pure "__class__" from by kernel_rfl) ?_)
 refine ad (W.at (ad (L2.at ?_)));unfold bindTo;show am _ _ (holding [Value.builtin "object.__class__"] (call (.builtin "getset_descriptor.__get__") [.builtin "object.__class__",.ref x,.ref D]) >>= ret) _ _ _;refine ad (ax (wpAny_call ?_));refine codeAny_call_builtin KF.slot_gs.plain KF.entry_gs (KF.slot_gs.check _ _ _ _ _ _ _ _ KF.type_class (KF.args_gs _ _ _) ?_);unfold Builtin.«getset_descriptor.__get__» descrGet;rw[dga_obj];refine ad (ah ?_);unfold descrGetter descrCheckInstance descrNameAndClass isInstance;simp only[KF.owner_class]
 repeat lk
 refine⟨Code.quiet_builtin _ (by decide +kernel),aX KF.entry_class ?_⟩
 unfold Builtin.«object.__class__» shownTypeOf
 repeat lk
 exact h
def Qn(x D:aa)(h:au):Prop:=∃o,h.get? x=some o/\o.cls = .ref D
theorem Lv{M:Model}{h:au}(p:Qn x D h):Looks M h (typeOf (.ref x)) (.ref D):=by
 obtain⟨o,h1,h2⟩:=p;exact h2 ▸ (Looks.ld h1).andThen .now
theorem JH(T:XTy K D):KitX K (.ref x) (.ref D) (Qn x D) where
 ty:=fun _ _ _ p=>Lv p
 it:=fun _ _ X _=>by
  obtain⟨c,d,cd,J,Y⟩:=T.cl;intro A' Q' E' s' k q;unfold isType loadHead;exact ad (wpAny_loadPart (k _ _ (X _ _ Y)) (ah q))
 ne:=fun h tp dd ak n J X W=>by
  obtain⟨c,d,cd,O,Y⟩:=T.cl;refine Bool.eq_false_iff.mpr fun q=>?_;have e:D=tp:=Value.ref.inj (beq_iff_eq.mp q);subst e;have z:=(X _ _ Y).symm.trans W;cases z
 ca:=fun X p k=>Mi X (Lv p) T k
def OE:V->Option ac
 | .ref a=>some (.ref a)
 | .ty T=>some (.type T)
 | _=>none
theorem JT{y:V}{u c:ac}(r:AR y u)(e:OE y=some c):u=c:=by
 cases y<;>cases e<;>exact r
theorem Ib:∀{ys:List V} {us cs:List ac},AI ys us->ys.map OE=cs.map some->us=cs
 | _,_,[],.nil,_=>rfl
 | _,_,_::_,.nil,e=>nomatch e
 | _,_,[],.cons _ _,e=>nomatch e
 | _,_,c::cs,.cons r rs,e=>by
   injection e with e1 e2
   rw[JT r e1,Ib rs e2]
end
section
open PySem.W
variable {X:Cx}(K:U5)
inductive OQ(xs:List V)(H:Hp)(Q:VK):Prop
 | mk (ea:_) (D:_) (b:_) (h1:H ea=some (hoX ea (.ref D))) (h2:XTy K D) (h3:((∃y c,xs=[.ref ea,y]/\OE y=some c/\kitOne K (.ref D) c=some b)\/∃t ys cs,xs=[.ref ea,.ref t]/\H t=some (.tup ys)/\ys.map OE=cs.map some/\kitAny K (.ref D) cs=some b)) (h4:Q (.bl b) H):OQ xs H Q
theorem N9(e:X.K=K:=by rfl):CV X (.builtin "isinstance") (OQ K):=by
 subst e;intro pins s σ H xs us Q I r h;obtain⟨ea,D,b,hH,T,hc,q⟩:=h;have hx:Qn ea D s.heap:=(I.hok ea _ hH).1
 rcases hc with ⟨y,c,rfl,hy,hk⟩ | ⟨t,ys,cs,rfl,ht,J,hk⟩
 ·obtain⟨u,w',rfl,O,W⟩:=Mr r;cases O;rw[JT W hy];exact kia_one (JH T) I.kIn hx hk (fun z=>nomatch z) fun tk=>⟨.bl b,H,I.tok _,Z,q⟩
 ·obtain⟨u,w',rfl,O,W⟩:=Mr r;cases O;cases W;obtain⟨_,ak,rv,⟨cc,dd,dt,sl⟩,e1,Y,n,e3⟩:=(I.hok t _ ht);have Y:cc = .type "tuple":=Y;have e3:dt = .seq ak.toArray n:=e3;subst Y e3;rw[Ib rv J]at e1;exact kia_tup (JH T) I.kIn hx e1 hk (fun z=>nomatch z) fun tk=>⟨.bl b,H,I.tok _,Z,q⟩
end
section
variable {P:ai}{w:ar}{K:U5}{mg:Str->Option ac}{base:au}
end
structure FdX(P:ai)(w:ar)(K:U5)(mg:Str->Option ac)(base:au)(n:Nat)(x:Str)(ps:List Str)(sp:Sp):Prop where
 ex:∃(f:aa) (fd:ag),Ay P w K mg base (CX1 P w) n f fd ps sp/\Bv K fd ps []/\Us K (.ref f)=true/\mg x=some (.ref f)
end L2
namespace L2
open PySem PySem.Spec PyProof.Rows
def Itd(lo:Int)(n:Nat):It:=⟨fun i _=>i<n,fun i H x H'=>H'=H/\x = .int (lo-i),fun i _=>n<=i⟩
theorem LO{P:ai}{w:ar}{K:U5}{tg:Expr}(it:aa)(lo:Int)(n:Nat):JZ P w K tg (Itd lo n) [it] it (fun i h=>IsRangeIter h it (lo+(i:Nat)*(-1)) ((n:Int)-(i:Nat)) (-1)) where
 mem:=by simp
 obj:=fun i h st b Y=>by
  have e:b=it:=by simpa using Y
  subst e
  exact⟨_,st,fun v z=>by
   have z':Data.fields _=Data.cell v:=z;cases z'⟩
 keep:=fun i h h' st k=>k it (by simp) _ st
 item:=by
  intro X hP hw hK hc i pins s σ H E I O st hg;subst hP hw hK;obtain⟨J,f1,f2,f3,f4,f5⟩:=O it (by simp)
  refine(Walks.range (prog:=X.prog) (w:=X.w) (I.ok.hd hc) it lo (-1) n).item i s _ _ hg st fun v h' tk hv W kk=>?_;obtain⟨t,rfl⟩:=hv;have I1:Inv X pins σ H { s with heap:=h',toks:=tk }:=I.turned (fun b o Y e=>kk b o (by simpa using Y) e) J f1 f3 f4 f5
  refine⟨_,Z,JL (s:={ s with heap:=h',toks:=tk }) (n:="range_iterator") W rfl rfl (by decide) ⟨.int (lo-i),H,I1,⟨t,?_⟩,⟨rfl,rfl⟩,W,fun b Y=>(O b Y).1⟩⟩
  rw[show lo+(i:Int) * -1=lo-i by lia]
 done:=by
  intro X hP hw hK hc i pins s σ H E I O st hg;subst hP hw hK;obtain⟨J,f1,f2,f3,f4,f5⟩:=O it (by simp)
  exact wpAny_pyNext_range_end (I.ok.hd hc) st (by have:n<=i:=hg;lia) fun h' eb=>⟨Z,I.turned (t':=s.toks) (fun b o Y e=>eb b o Y e) J f1 f3 f4 f5⟩
 self:=fun _ _ _ _ _ st h=>wpAny_pyIter_rangeiter st h
theorem HM(a b:Int):Builtin.Range.rangeSize a b (-1)=(((a-b).toNat:Nat):Int):=by
 unfold Builtin.Range.rangeSize;rw[if_neg (by decide)]
 split
 ·rw[show -(-1:Int)=1 by decide,Int.ediv_one];lia
 ·lia
section
variable {X:Cx}{tg:Expr}
def QZ(ta:TA):TI:=fun σ H R=>ta σ H fun vs H1=>∃i j:Int,vs=[.int i,.int j,.int (-1)]/\(-1000000<=i/\i<=1000000 /\ -1000000<=j/\j<=1000000)/\R (Itd i (i-j).toNat) H1
theorem Lc{a b c:Expr}{ta:TA}{p pos:Pos}(hg:Gl X "range")(hm:X.mg "range" = none)(ha:PA X [a,b,c] ta)(hs:aq [a,b,c] X.env=[(false,aD a X.env),(false,aD b X.env),(false,aD c X.env)]:=by rfl)
 (Y:aq [b,c] X.env=[(false,aD b X.env),(false,aD c X.env)]:=by rfl):PI X tg (.Call (.Name "range" p) [a,b,c] [] pos) (QZ ta):=by
 intro pins s σ H R I h;refine Call_ (Df I hg hm boot_range (PyProof.Rows.callWith_type1 (thn (ha pos pins s σ H _ I h) fun us W ⟨vs,H1,I1,r1,J⟩=>?_) (by rw[hs,Y]) (by rw[Y];rfl)))
 obtain⟨i,j,e,⟨J,q2,q3,q4⟩,q⟩:=J;subst e;cases r1 with
 | cons r rr =>
   cases rr with
   | cons r' rr =>
     cases rr with
     | cons r3 rr =>
       cases rr;obtain⟨t,rfl⟩:=r;obtain⟨t',rfl⟩:=r';obtain⟨t3,rfl⟩:=r3
       have sm:Builtin.Range.small i j (-1)=true:=by
        unfold Builtin.Range.small;rw[HM];simp only[Builtin.Range.rangeFitsLong,Bool.and_eq_true,Bool.or_eq_true,decide_eq_true_eq,beq_iff_eq];rw[if_neg (by decide)]
        simp only[Bool.and_eq_true,decide_eq_true_eq]
        lia
       refine call_range_3 (by decide) ?_ (.inl (PyProof.noPylong_small (by lia)))
       refine wpAny_pyIter_range (IsRange.new ..) sm ?_;have O:Inv X pins σ H1 { W with heap:=W.heap.push { cls:=.type "range",data:=.fields #[.int i t,.int j t',.int (-1) t3] },toks:=W.toks }:=I1.kept fun b o e=>Heap.get?_push_of_some _ e
       refine⟨_,[_],_,_,H1,Z,O.kept (t':=W.toks) fun b o e=>Heap.get?_push_of_some _ e,LO _ i (i-j).toNat,?_,fun b hb=>?_,q⟩
       ·show IsRangeIter _ _ (i+((0:Nat):Int)*(-1)) ((((i-j).toNat:Nat):Int)-((0:Nat):Int)) (-1);rw[show i+((0:Nat):Int)*(-1)=i by lia,show(((i-j).toNat:Nat):Int)-((0:Nat):Int)=Builtin.Range.rangeSize i j (-1) by rw[HM];lia]
        exact Heap.get?_push_size _ rfl
       ·have e:=Vx.mp hb;subst e;exact O.fpOk (Uk _) (O.hok.fresh (Uk _))
end
theorem JM{lo:Int}{n:Nat}{g:TG}{tb:TS}{D:DA}{σ:St}{H:Hp}(J:Nat->St->Hp->Prop)(h0:J 0 σ H)
 (hs:∀i σ H,i<n->J i σ H->g (.int (lo-i)) σ H fun Y H2=>tb { D with nx:=J (i+1),ct:=J (i+1),bk:=D.nx } Y H2) (hd:∀σ H,J n σ H->D.nx σ H) :
 ∃ W:Nat->Nat->St->Hp->Prop,(∃m,W 0 m σ H)/\∀i m σ H,W i m σ H ->
   ((Itd lo n).stop i H/\D.nx σ H)\/((Itd lo n).go i H/\∃N:St->Hp->Prop,(∀O H',N O H'->∃m',m'<m/\W (i+1) m' O H')/\∀x H',(Itd lo n).yld i H x H'->g x σ H' fun Y H2=>tb { D with nx:=N,ct:=N,bk:=D.nx } Y H2):=by
 refine⟨fun i m σ H=>m=n-i/\i<=n/\J i σ H,⟨n,by simp,Uo _,h0⟩,?_⟩
 rintro i m σ H ⟨rfl,hi,p⟩;by_cases hlt:i<n
 ·refine .inr ⟨hlt,J (i+1),fun O H' p'=>⟨n-(i+1),by lia,Z,hlt,p'⟩,fun x H' y=>?_⟩
  obtain⟨rfl,rfl⟩:=y;exact hs i σ _ hlt p
 ·have e:i=n:=by lia
  subst e;exact .inl ⟨Uk _,hd σ H p⟩
theorem Dg{K:U5}{a:aa}{js:List Nat}{xs:List V}{te:TE}{σ:St}{H:Hp}{O:List V->Hp->Prop}(Y:Nat->List V->Hp->Prop)(h0:Y 0 [] H)
 (hl:∀i zs H,i<=xs.length->Y i zs H->SqL K H a xs/\zs.length=i) (hz:xs.length<=af)
 (hs:∀i x zs H,xs[i]? = some x->Y i zs H->te ((cS 1 js σ).set 0 (some x)) H fun y H4=>Y (i+1) (zs++[y]) H4) (J:∀zs H',Y xs.length zs H'->O zs H') :
 ∃(n':Nat) (W:Nat->List V->Hp->Prop),W 0 [] H/\LcW (Itl K a) n' 1 js σ (Cq 0) LS te O W:=by
 refine⟨xs.length,Y,h0,⟨?_,?_,?_⟩⟩
 ·intro i zs H' hi p;obtain⟨h1,h2⟩:=hl i zs H' (U7 hi) p;exact⟨⟨xs,xs[i],h1,by simp[hi]⟩,by lia⟩
 ·rintro i zs H' x H1 hi p ⟨rfl,y⟩;exact hs i x zs _ (y xs (hl i zs _ (U7 hi) p).1) p
 ·intro zs H' p;obtain⟨h1,h2⟩:=hl _ zs H' (Uk _) p;exact⟨⟨xs,h1,Uk _⟩,by lia,J zs H' p⟩
theorem Nx(xs:List V):Cs xs none (some (-1))=xs.take (xs.length-1):=by
 unfold Cs;have e1:HT.sIx xs.length 0 none=0:=rfl
 have Y:HT.sIx xs.length xs.length (some (-1))=xs.length-1:=by
  show(if (-1:Int)<0 then ((-1:Int)+(xs.length:Int)).toNat else min (-1:Int).toNat xs.length)=xs.length-1;rw[if_pos (by decide)]
  lia
 rw[e1,Y,VJ,VL]
theorem Bd.pow{L:Nat}{b:Int}(h:Bd L b):∀n:Nat,Bd (L*n+1) (b ^ n)
 | 0=>by rw[VM];exact(show Bd 1 1 by unfold Bd;decide).mono (by lia)
 | n+1=>by
   rw[VN];exact((Bd.pow h n).mul h).mono (by rw[VO];lia)
theorem Hh{lead:Int}{ts:List Int}(i:Nat){t:Int}(h:ts[i]? = some t):(((ts.take i).map (lead * ·)).map V.int)++[V.int (lead*t)]=((ts.take (i+1)).map (lead * ·)).map V.int:=by
 rw[Vj,h,Vk,Vk]
 rfl
theorem HE:ay "ValueError" = some (.type "ValueError"):=by decide +kernel
theorem Jj{s BD:TS}{D:DA}{σ:St}{H:Hp}(W:St->Hp->Prop)(h:∀nx:St->Hp->Prop,(∀Y H',W Y H'->nx Y H')->s { D with nx:=nx } σ H)(k:∀Y H',W Y H'->BD D Y H'):O1 s BD D σ H:=h _ k
theorem LW{i:Nat}{v:V}{c:TT}{t u BD:TS}{D:DA}{σ:St}{H:Hp}(W:St->Hp->Prop)(h:∀nx:St->Hp->Prop,(∀Y H',W Y H'->nx Y H')->LV c t u { D with nx:=nx } (σ.set i (some v)) H)(k:∀Y H',W Y H'->BD D Y H'):Cq i v σ H (O1 (LV c t u) BD D):=h _ k
theorem Bd.neg{n:Nat}{x:Int}(h:Bd n x):Bd n (-x):=by unfold Bd at *;rw[Int.natAbs_neg];exact h
theorem Od{a c b:Rat}(Y:b≠0)(h:a*b=c*b):a=c:=by
 have h2:a*b*b⁻¹=c*b*b⁻¹:=by rw[h]
 rw[VP,VP,Rat.mul_inv_cancel _ Y,VQ,VQ]at h2;exact h2
theorem Nr{b:Int}(Y:b≠0)(t:Int):V3 t b*(b:Rat)=(t:Rat):=by
 rw[V7];exact V8 (Nm.cast_ne Y)
theorem Lw{b:Int}(Y:b≠0)(x:Rat):∀ts:List Int,Cv.ev (ts.map fun t=>V3 t b) x*(b:Rat)=Cv.evI ts x
 | []=>by show(0:Rat)*_=0;grind
 | t::ts=>by
   have ih:=Lw Y x ts;have e:=Nr Y t;show(V3 t b+x*Cv.ev (ts.map fun t=>V3 t b) x)*(b:Rat)=(t:Rat)+x*Cv.evI ts x;rw[<- ih,<- e]
   grind
theorem J2{W:Type}{l:List W}{n i:Nat}{v:W}(O:l.length=n)(hi:i<n)(h:l[n-1-i]? = some v):l.drop (n-(i+1))=v::l.drop (n-i):=by
 have Y:n-(i+1)<l.length:=by rw[O];exact Nat.sub_lt (UY (Uo _) hi) (VR i)
 rw[List.drop_eq_getElem_cons Y,show n-(i+1)+1=n-i from Nat.succ_pred_eq_of_pos (Nat.sub_pos_of_lt hi)]
 congr 1
 have e:l[n-(i+1)]? = some v:=by rw[show n-(i+1)=n-1-i by rw[Nat.sub_sub,Nat.add_comm]];exact h
 rw[Vy Y]at e;exact TU.inj e
theorem Mv.put'{a l:aa}{H H':Hp}{o:HO}(m:Mv a H H')(Y:H l=none):Mv a H (upd H' l o):=fun b u n q=>by rw[Am (Av q Y)];exact m b u n q
theorem Pen.put'{H:Hp}{a l:aa}{o:HO}(h:Pen H a)(Y:l≠a):Pen (upd H l o) a:=let ⟨x0,x1,x2,ex⟩:=h;⟨x0,x1,x2,by rw[Am (Ne.symm Y)];exact ex⟩
theorem Pen.ne'{H:Hp}{a l:aa}(h:Pen H a)(Y:H l=none):l≠a:=let ⟨_,_,_,ex⟩:=h;(Av ex Y).symm
def RC(K:U5)(H:Hp)(x:V)(rs:List Rat):Prop:=∃a ys,x = .ref a/\SqL K H a ys/\Au K H ys rs
abbrev Rows(K:U5)(H:Hp):List V->List (List Rat)->Prop:=Paired (RC K H)
section
variable {X:Cx}
@[irreducible] def MM(K:U5)(neg:Bool):R2:=fun x y H Q=>∃p ds d,y = .ref p/\Rds K H (.ref p) (.list ds)/\Rds K H x d/\SeqAt.shaped (.list ds)=true/\SeqAt.shaped d=true/\Q (.bl (if neg then !(ds.any fun y=>PyData.eqv y d) else ds.any fun y=>PyData.eqv y d)) H
theorem Q9{K:U5}{neg:Bool}{x y:V}{H:Hp}{Q:VK}(h:∃p ds d,y = .ref p/\Rds K H (.ref p) (.list ds)/\Rds K H x d/\SeqAt.shaped (.list ds)=true/\SeqAt.shaped d=true/\Q (.bl (if neg then !(ds.any fun y=>PyData.eqv y d) else ds.any fun y=>PyData.eqv y d)) H):MM K neg x y H Q:=by
 unfold MM;exact h
theorem inD(K:U5){k:Nat}(O:BM k X.A)(e:X.K=K:=by rfl):OpR X (aH .In) (MM K false):=by
 subst e;intro pins s σ H x y v u Q I Y W h;unfold MM at h;obtain⟨p,ds,d,rfl,r1,r2,h1,h2,q⟩:=h;cases W;obtain⟨as,q1⟩:=Cz I r1 (u:=.ref p) rfl;obtain⟨bs,J⟩:=Cz I r2 Y;exact SeqAt.in_list_reads q1 J (SeqAt.canLay_of_shaped h1) (SeqAt.canLay_of_shaped h2) (PyProof.Rows.room_in_shaped h2 (by have:=O.un;lia)) ⟨.bl _,H,I,Z,q⟩
end
theorem NI(q:Rat):∀qs:List Rat,((qs.map nD).any fun y=>PyData.eqv y (nD q))=decide (q∈qs)
 | []=>by simp
 | c::r=>by
   rw[UX,List.any_cons,N3,NI q r,Bool.eq_iff_iff];simp only[Bool.or_eq_true,decide_eq_true_eq,Ub]
   constructor
   ·rintro(h | h)
    ·exact .inl h.symm
    ·exact .inr h
   ·rintro(h | h)
    ·exact .inl h.symm
    ·exact .inr h
theorem inN{K:U5}{H:Hp}{x:V}{a:aa}{xs:List V}{q:Rat}{qs:List Rat}{Q:VK}{neg:Bool}(h1:AD K H x q)(W:SqL K H a xs)(Y:Au K H xs qs)(h:Q (.bl (if neg then !decide (q∈qs) else decide (q∈qs))) H):MM K neg x (.ref a) H Q :=
 Q9 ⟨a,_,_,Z,Y.rdsL W,h1.rds,Oq _,FP _,by rw[NI];exact h⟩
def PtV(K:U5)(H:Hp)(x:V)(ps:List Rat):Prop:=∃a,x = .ref a/\Crv K H a ps
abbrev Pts(K:U5)(H:Hp):List V->List (List Rat)->Prop:=Paired (PtV K H)
structure Hn where
 x:Rat
 k:Int
 n:Rat
deriving DecidableEq
section
variable {X:Cx}{e:Expr}{te:TE}
end
def Jb(t:TGs)(nt:Nat):Prop:=∀(vs:List V) (σ:St) (H:Hp) (Q:St->Hp->Prop) (σ0:St),(σ.length=σ0.length/\σ.drop nt=σ0.drop nt)->t vs σ H Q->t vs σ H fun σ2 H2=>(σ2.length=σ0.length/\σ2.drop nt=σ0.drop nt)/\Q σ2 H2
theorem EB{nt:Nat}:Jb Ni nt:=fun _ _ _ _ _ r ⟨e,q⟩=>⟨e,r,q⟩
theorem Cg{i nt:Nat}{u:TGs}(h:i<nt)(O:Jb u nt):Jb (Fo (Cq i) u) nt:=fun vs σ H Q Y r ⟨v,W,e,q⟩=>⟨v,W,e,O W (σ.set i (some v)) H Q Y ⟨by rw[UR];exact r.1,by
 rw[<- r.2];apply Vt;intro k;rw[Vu,Vu,Uh (by lia)]⟩ q⟩
theorem FA{K:U5}{n nt:Nat}{t:TGs}(h:Jb t nt):K0 (KD K n t) nt:=fun _ σ H Q ⟨a,xs,e,s,l,q⟩=>⟨a,xs,e,s,l,h xs σ H Q σ ⟨Z,Z⟩ q⟩
end L2
namespace L2
def Bh:List Rat->List Rat->List Rat
 | [],m=>m
 | a::l,[]=>a::l
 | a::l,b::m=>(a+b)::Bh l m
theorem JX(l:List Rat):Bh l []=l:=by cases l<;>rfl
theorem C6(x:Rat):∀l m,Cv.ev (Bh l m) x=Cv.ev l x+Cv.ev m x
 | [],m=>by show _=0+_;grind [Bh]
 | a::l,[]=>by show _=_+0;rw[Bh];grind
 | a::l,b::m=>by
   have ih:=C6 x l m;show(a+b)+x*Cv.ev (Bh l m) x=(a+x*Cv.ev l x)+(b+x*Cv.ev m x);rw[ih];grind
theorem Bp:∀l m,(Bh l m).length=max l.length m.length
 | [],m=>by show m.length=max 0 m.length;lia
 | a::l,[]=>by show l.length+1=max (l.length+1) 0;lia
 | a::l,b::m=>by
   have ih:=Bp l m;show(Bh l m).length+1=max (l.length+1) (m.length+1)
   lia
theorem JY:∀(l m:List Rat) (i:Nat),l.length<=i->(Bh l m)[i]? = m[i]?
 | [],m,i,_=>rfl
 | a::l,[],i,h=>by rw[JX,VS h];rfl
 | a::l,b::m,0,h=>by simp at h
 | a::l,b::m,i+1,h=>by
   have ih:=JY l m i (by simpa using h)
   show(Bh l m)[i]? = m[i]?;exact ih
def Ef:List Rat->List Rat->List Rat
 | [],_=>[]
 | a::l,m=>Bh (m.map (· * a)) (0::Ef l m)
theorem Fs(x:Rat)(m:List Rat):∀l,Cv.ev (Ef l m) x=Cv.ev l x*Cv.ev m x
 | []=>by show(0:Rat)=0*_;grind
 | a::l=>by
   have ih:=Fs x m l;show Cv.ev (Bh (m.map (· * a)) (0::Ef l m)) x=(a+x*Cv.ev l x)*_;rw[C6,Cv.ev_scale];show _+(0+x*Cv.ev (Ef l m) x)=_;rw[ih];grind
theorem D6(m:List Rat)(Y:1<=m.length):∀l,1<=l.length->(Ef l m).length=l.length+m.length-1
 | [],h=>by simp at h
 | [a],_=>by
   show(Bh (m.map (· * a)) [0]).length=1+m.length-1;rw[Bp,UI];show max m.length 1=_
   lia
 | a::b::l,_=>by
   have ih:=D6 m Y (b::l) (by simp)
   show(Bh (m.map (· * a)) (0::Ef (b::l) m)).length=l.length+1+1+m.length-1;rw[Bp,UI];show max m.length ((Ef (b::l) m).length+1)=_;rw[ih];show max m.length (l.length+1+m.length-1+1)=_
   lia
theorem FQ(m:List Rat)(u:Rat)(W:m[m.length-1]? = some u):∀(l:List Rat) (v:Rat),l[l.length-1]? = some v->(Ef l m)[l.length+m.length-2]? = some (u*v)
 | [],v,h=>by simp at h
 | [a],v,h=>by
   have J:m.length-1<m.length:=(Ue.mp W).1;have e:a=v:=by simpa using h
   subst e;show(Bh (m.map (· * a)) [0])[1+m.length-2]? = _;cases m with
   | nil=>simp at J
   | cons b m' =>
     rw[show 1+(b::m').length-2=m'.length by simp only[Vg];lia]
     have Y:(b::m')[m'.length]? = some u:=W;cases m' with
     | nil =>
       have e:b=u:=by simpa using Y
       subst e;show some (b*a+0)=some (b*a)
       congr 1;grind
     | cons c m'' =>
       show(Bh ((c::m'').map (· * a)) [])[m''.length]? = _;rw[JX,UC];have O:(c::m'')[m''.length]? = some u:=Y;rw[O];rfl
 | a::b::l,v,h=>by
   have J:m.length-1<m.length:=(Ue.mp W).1;have ih:=FQ m u W (b::l) v h;show(Bh (m.map (· * a)) (0::Ef (b::l) m))[l.length+1+1+m.length-2]? = _;rw[JY _ _ _ (by rw[UI];lia)]
   rw[show l.length+1+1+m.length-2=(l.length+1+m.length-2)+1 by lia]
   exact ih
theorem Ng{l m:List Rat}(hl:BE l)(J:BE m)(Y:l≠[])(nm:m≠[]):BE (Ef l m):=by
 rcases hl with h | ⟨v,hv,O⟩
 ·exact absurd h Y
 rcases J with h | ⟨u,hu,W⟩
 ·exact absurd h nm
 have l1:1<=l.length:=Vf.mpr Y;have m1:1<=m.length:=Vf.mpr nm;refine .inr ⟨u*v,?_,fun z=>?_⟩
 ·rw[D6 m m1 l l1,show l.length+m.length-1-1=l.length+m.length-2 by lia]
  exact FQ m u hu l v hv
 ·rcases Vn.mp z with z | z
  ·exact W z
  ·exact O z
theorem Ls{l m:List Rat}(Y:BE m)(J:l.length<=m.length)(h:∀x,Cv.ev l x=Cv.ev m x):l=m:=by
 have e:l++Ux (m.length-l.length) 0=m:=by
  refine Cv.same_of _ _ (by rw[UH,UJ];lia) fun x=>?_
  rw[<- Cv.ev_strip,Cv.strip_zeros,Cv.ev_strip];exact h x
 by_cases hlt:l.length<m.length
 ·rcases Y with Y | ⟨q,W,O⟩
  ·rw[Y]at hlt;simp at hlt
  ·exfalso;rw[<- e,UH,UJ,Uz (by lia),UA,if_pos (by lia)]at W
   exact O (TU.inj W).symm
 ·rw[show m.length-l.length=0 by lia,List.replicate_zero,Uu]at e
  exact e
theorem Dv{l m:List Rat}(W:BE l)(Y:BE m)(h:∀x,Cv.ev l x=Cv.ev m x):l=m:=by
 by_cases hle:l.length<=m.length
 ·exact Ls Y hle h
 ·exact(Ls W (by lia) fun x=>(h x).symm).symm
theorem div_one{ps O J Y W:List Rat}(hp:BE ps)(np:ps≠[])(ho:BE O)(al:BE Y)(hr:BE J)(ak:BE W)(l:J.length<ps.length)(l':W.length<ps.length)
 (h:∀x,Cv.ev O x*Cv.ev ps x+Cv.ev J x=Cv.ev Y x*Cv.ev ps x+Cv.ev W x):O=Y/\J=W:=by
 have key:Cv.strip (Bh O (Y.map (· * (-1))))=[]:=by
  by_cases hD:Cv.strip (Bh O (Y.map (· * (-1))))=[]
  ·exact hD
  exfalso;have gD:=Bs (Bh O (Y.map (· * (-1))));have gM:=Ng gD hp hD np;have gE:=Bs (Bh W (J.map (· * (-1))))
  have e:=Dv gM gE fun x=>by
   rw[Fs,Cv.ev_strip,Cv.ev_strip,C6,C6,Cv.ev_scale,Cv.ev_scale];have:=h x
   grind
  have p1:1<=ps.length:=Vf.mpr np;have d1:1<=(Cv.strip (Bh O (Y.map (· * (-1))))).length:=Vf.mpr hD;have an:=D6 ps p1 _ d1;rw[e]at an;have le:=Cv.strip_length (Bh W (J.map (· * (-1))));rw[Bp,UI]at le
  lia
 have eo:O=Y:=Dv ho al fun x=>by
  have z:Cv.ev (Cv.strip (Bh O (Y.map (· * (-1))))) x=0:=by rw[key];rfl
  rw[Cv.ev_strip,C6,Cv.ev_scale]at z
  grind
 subst eo;refine⟨Z,Dv hr ak fun x=>?_⟩;have:=h x
 grind
open PySem PySem.Spec PyProof.Rows
theorem PU{K:U5}{a:aa}{js:List Nat}{xs:List V}{te:TE}{σ:St}{H:Hp}{O:List V->Hp->Prop}(Y:Nat->List V->Hp->Prop)(h0:Y 0 [] H)
 (hl:∀i zs H,i<=xs.length->Y i zs H->SqT K H a xs/\zs.length=i) (hz:xs.length<=af)
 (hs:∀i x zs H,xs[i]? = some x->Y i zs H->te ((cS 1 js σ).set 0 (some x)) H fun y H4=>Y (i+1) (zs++[y]) H4) (J:∀zs H',Y xs.length zs H'->O zs H') :
 ∃(n':Nat) (W:Nat->List V->Hp->Prop),W 0 [] H/\LcW (Itt K a) n' 1 js σ (Cq 0) LS te O W:=by
 refine⟨xs.length,Y,h0,⟨?_,?_,?_⟩⟩
 ·intro i zs H' hi p;obtain⟨h1,h2⟩:=hl i zs H' (U7 hi) p;exact⟨⟨xs,xs[i],h1,by simp[hi]⟩,by lia⟩
 ·rintro i zs H' x H1 hi p ⟨rfl,y⟩;exact hs i x zs _ (y xs (hl i zs _ (U7 hi) p).1) p
 ·intro zs H' p;obtain⟨h1,h2⟩:=hl _ zs H' (Uk _) p;exact⟨⟨xs,h1,Uk _⟩,by lia,J zs H' p⟩
end L2
namespace L2
def ch:Nat->Nat->Nat
 | _,0=>1
 | 0,_+1=>0
 | n+1,k+1=>ch n k+ch n (k+1)
def aQ(l:List Rat):List Rat:=(U0 (l.length-1)).map fun j=>l.getD j 0+l.getD (j+1) 0
def aQN:Nat->List Rat->List Rat
 | 0,l=>l
 | n+1,l=>aQ (aQN n l)
def Pu(al:List Rat):List Rat:=(U0 al.length).map fun k=>al.getD k 0 / ((ch (al.length-1) k:Nat):Rat)
def Rv(al:List Rat):List Rat:=(U0 al.length).map fun j=>(aQN j (Pu al)).getD 0 0
def goL(a b:Rat):Rat->List Rat->List Rat
 | p,[]=>[a*p]
 | p,c::r=>(a*p+b*c)::goL a b c r
def Nz(a b:Rat):List Rat->List Rat
 | []=>[]
 | q::r=>match Nz a b r with
   | []=>[q]
   | c::s=>(q+b*c)::goL a b c s
def hts(cs:List Rat)(lo hi:Rat):List Rat:=if cs=[] then [0] else Rv (Nz (hi-lo) lo cs)
end L2
namespace L2
def sd:List Rat->List Rat
 | []=>[]
 | [_]=>[]
 | _::p::r=>Bh (0::sd (p::r)) (Nz 1 1 (p::r))
end L2
namespace L2
open PySem PySem.Spec PyProof.Rows PySem.SeqAt
theorem JI:∀{W:List Int} {Y:List ac},AI (W.map V.int) Y->bz Y W
 | [],_,.nil=>.nil
 | n::W,_,.cons r rs=>by
   obtain⟨t,rfl⟩:=r;exact .cons n t (JI rs)
end L2
namespace L2
def dL:List Rat->List Rat
 | []=>[]
 | _::r=>Bh r (0::dL r)
def ty(x:Rat):List Rat->List Rat
 | []=>[]
 | q::r=>Bh (q::ty x r) ((ty x r).map (· * x))
theorem CN:∀(l m:List Rat) (k:Nat),(Bh l m).getD k 0=l.getD k 0+m.getD k 0
 | [],m,k=>by show m.getD k 0=0+m.getD k 0;grind
 | a::l,[],k=>by show(a::l).getD k 0=(a::l).getD k 0+0;grind
 | a::l,b::m,0=>rfl
 | a::l,b::m,k+1=>CN l m k
theorem C0(y:Rat)(l:List Rat)(k:Nat):(l.map (· * y)).getD k 0=l.getD k 0*y:=by
 rw[Vs,Vs,UC];cases l[k]? with
 | none=>show(0:Rat)=0*y;grind
 | some t=>rfl
theorem JR{l m:List Rat}(h:∀k:Nat,Cv.ev l ((k:Nat):Rat)=Cv.ev m ((k:Nat):Rat))(k:Nat):l.getD k 0=m.getD k 0:=by
 have z:=Cv.ident _ (Bh l (m.map (· * (-1)))) (Uk _) 0 fun k _=>by
  rw[C6,Cv.ev_scale,h k];grind
 have e:(Bh l (m.map (· * (-1)))).getD k 0=0:=by
  rw[Vs];cases q:(Bh l (m.map (· * (-1))))[k]? with
  | none=>rfl
  | some t=>exact z t (UG q)
 rw[CN,C0]at e
 grind
def quo(c:Rat):List Rat->List Rat
 | []=>[]
 | _::r=>Bh r ((quo c r).map (· * c))
theorem Kf(c x:Rat):∀l,Cv.ev l x=Cv.ev l c+(x-c)*Cv.ev (quo c l) x
 | []=>by show(0:Rat)=0+_*0;grind
 | q::r=>by
   have ih:=Kf c x r;show q+x*Cv.ev r x=(q+c*Cv.ev r c)+(x-c)*Cv.ev (Bh r ((quo c r).map (· * c))) x;rw[C6,Cv.ev_scale];have h:(x-c)*(Cv.ev r x+Cv.ev (quo c r) x*c)=x*Cv.ev r x-c*(Cv.ev r x-(x-c)*Cv.ev (quo c r) x):=by grind
   rw[h,show Cv.ev r x-(x-c)*Cv.ev (quo c r) x=Cv.ev r c by grind]
   grind
theorem GI(c:Rat):∀l,(quo c l).length=l.length-1
 | []=>rfl
 | q::r=>by
   have ih:=GI c r;show(Bh r ((quo c r).map (· * c))).length=r.length;rw[Bp,UI,ih]
   lia
end L2
namespace L2
def prL:List Rat->List Rat
 | []=>[1]
 | o::os=>Ef [-o,1] (prL os)
def prV(x:Rat):List Rat->Rat
 | []=>1
 | o::os=>(x-o)*prV x os
theorem GN(x:Rat):∀os,Cv.ev (prL os) x=prV x os
 | []=>by show(1:Rat)+x*0=1;grind
 | o::os=>by
   show Cv.ev (Ef [-o,1] (prL os)) x=_;rw[Fs,GN x os];show(-o+x*(1+x*0))*prV x os=(x-o)*prV x os
   grind
theorem Kh{x:Rat}:∀{os:List Rat},x∈os->prV x os=0
 | o::os,h=>by
   show(x-o)*prV x os=0
   rcases Ub.mp h with e | e
   ·rw[e];grind
   ·rw[Kh e];grind
end L2
namespace L2
open PySem PySem.Spec PyProof.Rows
theorem Ll{K:U5}{a:aa}{js:List Nat}{xs:List V}{tc:TT}{te:TE}{σ:St}{H:Hp}{O:List V->Hp->Prop}(Y:Nat->List V->Hp->Prop)(h0:Y 0 [] H)
 (hl:∀i zs H,i<=xs.length->Y i zs H->SqL K H a xs/\zs.length<=i) (hz:xs.length<=af)
 (hs:∀i x zs H,xs[i]? = some x->Y i zs H->tc ((cS 1 js σ).set 0 (some x)) H fun b H3=>if b=true then te ((cS 1 js σ).set 0 (some x)) H3 fun y H4=>Y (i+1) (zs++[y]) H4 else Y (i+1) zs H3) (J:∀zs H',Y xs.length zs H'->O zs H') :
 ∃(n':Nat) (W:Nat->List V->Hp->Prop),W 0 [] H/\LcW (Itl K a) n' 1 js σ (Cq 0) tc te O W:=by
 refine⟨xs.length,Y,h0,⟨?_,?_,?_⟩⟩
 ·intro i zs H' hi p;obtain⟨h1,h2⟩:=hl i zs H' (U7 hi) p;exact⟨⟨xs,xs[i],h1,by simp[hi]⟩,by lia⟩
 ·rintro i zs H' x H1 hi p ⟨rfl,y⟩;exact hs i x zs _ (y xs (hl i zs _ (U7 hi) p).1) p
 ·intro zs H' p;obtain⟨h1,h2⟩:=hl _ zs H' (Uk _) p;exact⟨⟨xs,h1,Uk _⟩,by lia,J zs H' p⟩
end L2
namespace PySem
open Sem (wp)
open Builtin
set_option maxRecDepth 100000
end PySem
namespace L2
open PySem PySem.Spec PyProof.Rows
variable {X:Cx}
end L2
namespace L2
open PySem PySem.Spec PyProof.Rows
def kQ(q:Rat):List Key:=[.inl q.num,.inl (q.den:Int)]
theorem Q6{p q:Rat}(h:kQ p=kQ q):p=q:=by
 unfold kQ at h
 injection h with h1 h2
 injection h2 with h2 _
 injection h1 with h1
 injection h2 with h2
 exact Rat.ext h1 (Int.ofNat.inj h2)
def Fw(H:Hp)(x:V)(q:Rat):Prop:=∃r,x = .ref r/\H r=some (nT q)
abbrev Aw(H:Hp):List V->List Rat->Prop:=Paired (Fw H)
theorem Fw.num{K:U5}{H:Hp}{x:V}{q:Rat}(h:Fw H x q):AD K H x q:=let ⟨r,e,h⟩:=h;⟨r,e,SqT.of h⟩
theorem Fw.same{H H':Hp}{x:V}{q:Rat}(h:Fw H x q)(e:Ae H H'):Fw H' x q:=let ⟨r,z,h⟩:=h;⟨r,z,e _ _ h⟩
theorem Fw.mv{H H':Hp}{x:V}{q:Rat}{p:aa}(h:Fw H x q)(pn:Pen H p)(m:Mv p H H'):Fw H' x q:=let ⟨r,z,h⟩:=h;⟨r,z,m r _ (pn.ne h (QR q)) h⟩
theorem Fw.put{H:Hp}{x:V}{q:Rat}{p:aa}{ys:List V}{o:HO}(h:Fw H x q)(Y:H p=some (.lst ys)):Fw (upd H p o) x q:=let ⟨r,z,h⟩:=h;⟨r,z,by rw[Am (Gf h Y (fun z=>by cases z))];exact h⟩
theorem Aw.nums{K:U5}{H:Hp}{xs:List V}{qs:List Rat}(h:Aw H xs qs):Au K H xs qs:=Paired.mapP h fun _ _ z=>z.num
theorem Aw.same{H H':Hp}{xs:List V}{qs:List Rat}(h:Aw H xs qs)(e:Ae H H'):Aw H' xs qs:=Paired.mapP h fun _ _ z=>z.same e
theorem Aw.mv{H H':Hp}{xs:List V}{qs:List Rat}{p:aa}(h:Aw H xs qs)(pn:Pen H p)(m:Mv p H H'):Aw H' xs qs:=Paired.mapP h fun _ _ z=>z.mv pn m
theorem Aw.put{H:Hp}{xs:List V}{qs:List Rat}{p:aa}{ys:List V}{o:HO}(h:Aw H xs qs)(Y:H p=some (.lst ys)):Aw (upd H p o) xs qs:=Paired.mapP h fun _ _ z=>z.put Y
def PtT(K:U5)(H:Hp)(x:V)(ps:List Rat):Prop:=∃a us p,x = .ref a/\SqT K H a us/\Au K H us ps/\us[0]? = some (.ref p)/\H p=some (nT (ps.getD 0 0))
abbrev CW(K:U5)(H:Hp):List V->List (List Rat)->Prop:=Paired (PtT K H)
section
variable {K:U5}{H H':Hp}{x:V}{ps:List Rat}{xs:List V}{pss:List (List Rat)}{p:aa}{ys:List V}{o:HO}
theorem PtT.same(h:PtT K H x ps)(e:Ae H H'):PtT K H' x ps:=let ⟨a,us,b,z,h1,h2,h3,h4⟩:=h;⟨a,us,b,z,h1.same e,h2.same e,h3,e _ _ h4⟩
theorem CW.same(h:CW K H xs pss)(e:Ae H H'):CW K H' xs pss:=Paired.mapP h fun _ _ z=>z.same e
end
def TlT(K:U5)(H:Hp)(v:V)(t:Hn):Prop:=∃a p rn,v = .ref a/\SqT K H a [.ref p,.int t.k,rn]/\H p=some (nT t.x)/\AD K H rn t.n
abbrev Ho(K:U5)(H:Hp):List V->List Hn->Prop:=Paired (TlT K H)
section
variable {K:U5}{H H':Hp}{x:V}{t:Hn}{xs:List V}{ts:List Hn}{p:aa}{ys:List V}{o:HO}
theorem TlT.same(h:TlT K H x t)(e:Ae H H'):TlT K H' x t:=let ⟨a,b,rn,z,h1,h2,h3⟩:=h;⟨a,b,rn,z,h1.same e,e _ _ h2,h3.same e⟩
theorem TlT.put(h:TlT K H x t)(Y:H p=some (.lst ys)):TlT K (upd H p o) x t:=let ⟨a,b,rn,z,h1,h2,h3⟩:=h;⟨a,b,rn,z,h1.put Y,by rw[Am (Gf h2 Y (fun z=>by cases z))];exact h2,h3.put Y⟩
theorem Ho.same(h:Ho K H xs ts)(e:Ae H H'):Ho K H' xs ts:=Paired.mapP h fun _ _ z=>z.same e
theorem Ho.put(h:Ho K H xs ts)(Y:H p=some (.lst ys)):Ho K (upd H p o) xs ts:=Paired.mapP h fun _ _ z=>z.put Y
end
end L2
namespace L2
theorem CS:∀Y,(prL Y).length=Y.length+1
 | []=>rfl
 | o::Y=>by
   have ih:=CS Y;show(Bh ((prL Y).map (· * -o)) (0::Bh ((prL Y).map (· * 1)) (0::Ef [] (prL Y)))).length=_;have e:Ef [] (prL Y)=[]:=rfl;rw[Bp,UI,Vg,Bp,UI,e,ih];simp only[Vg,List.length_nil]
   lia
def nwT(T:Nat->Nat->Rat)(x:Nat->Rat)(j:Nat):Nat->List Rat
 | 0=>[]
 | n+1=>Bh (nwT T x j n) ((prL ((U0 n).map fun i=>x (j+i))).map (· * T n j))
def prF(x:Nat->Rat)(j n:Nat)(X:Rat):Rat:=prV X ((U0 n).map fun i=>x (j+i))
theorem La(X:Rat):∀(l m:List Rat),prV X (l++m)=prV X l*prV X m
 | [],m=>by show prV X m=1*prV X m;grind
 | a::l,m=>by
   show(X-a)*prV X (l++m)=(X-a)*prV X l*prV X m;rw[La X l m];grind
theorem GO(x:Nat->Rat)(j n:Nat)(X:Rat):prF x j (n+1) X=prF x j n X*(X-x (j+n)):=by
 unfold prF;rw[VT,Vk,La];show _*((X-x (j+n))*1)=_
 grind
theorem HR(x:Nat->Rat)(j:Nat)(X:Rat):∀n,prF x j (n+1) X=(X-x j)*prF x (j+1) n X
 | 0=>by show(X-x (j+0))*1=(X-x j)*1;rw[Vc]
 | n+1=>by
   rw[GO,HR x j X n,GO,show j+(n+1)=j+1+n by lia];grind
theorem FO(T:Nat->Nat->Rat)(x:Nat->Rat)(j n:Nat)(X:Rat):Cv.ev (nwT T x j (n+1)) X=Cv.ev (nwT T x j n) X+T n j*prF x j n X:=by
 show Cv.ev (Bh _ _) X=_;rw[C6,Cv.ev_scale,GN];show _+prV X _*_=_+_*prV X _
 grind
def NP(T:Nat->Nat->Rat)(x:Nat->Rat)(N:Nat):Prop:=∀k j,j+k+1<N->T (k+1) j*(x (j+k+1)-x j)=T k (j+1)-T k j
theorem Jx{T:Nat->Nat->Rat}{x:Nat->Rat}{N:Nat}(h:NP T x N)(X:Rat):∀n j,j+n<N->Cv.ev (nwT T x j (n+1)) X=Cv.ev (nwT T x (j+1) n) X+T n j*prF x (j+1) n X
 | 0,j,_=>by
   rw[FO];show Cv.ev [] X+T 0 j*1=Cv.ev [] X+T 0 j*1
   rfl
 | n+1,j,hj=>by
   have ih:=Jx h X n j (by lia)
   have Y:=h n j (by lia)
   rw[FO,ih,FO T x (j+1) n,HR,GO x (j+1) n,show j+1+n=j+n+1 by lia]
   grind
theorem MW{T:Nat->Nat->Rat}{x:Nat->Rat}{N:Nat}(h:NP T x N):∀n j i,j+n<=N->i<n->Cv.ev (nwT T x j n) (x (j+i))=T 0 (j+i)
 | n+1,j,i,hj,hi=>by
   have IH:=MW h n;by_cases hin:i<n
   ·rw[FO,IH j i (by lia) hin]
    have:prF x j n (x (j+i))=0:=Kh (VU.mpr ⟨i,U4.mpr hin,Z⟩);rw[this];grind
   ·have e:i=n:=by lia
    subst e
    match i,hj,IH with
    | 0,_,_ =>
      rw[FO];show(0:Rat)+T 0 j*1=T 0 j
      grind
    | i+1,hj,IH =>
      rw[Jx h _ (i+1) j (by lia)]
      have Y:=IH (j+1) i (by lia) (by lia)
      rw[show j+1+i=j+(i+1) by lia]at Y
      rw[Y];have:prF x (j+1) (i+1) (x (j+(i+1)))=0:=Kh (VU.mpr ⟨i,U4.mpr (by lia),by show x (j+1+i)=_;rw[show j+1+i=j+(i+1) by lia]⟩)
      rw[this];grind
end L2
namespace HT
open PySem PyProof.Rows
open PySem.SeqAt
open PySem.AutoSeq1 (wpAny_loadPart')
open PySem.MeetsSeq PySem.MeetsSeq2 PySem.MeetsSeq3
end HT
namespace L2
open PySem PySem.Spec PyProof.Rows
section
variable {X:Cx}{K:U5}
end
theorem CD(xs:List V)(v:Nat):Cs xs none (some (v:Int))=xs.take v:=by
 unfold Cs;have e1:HT.sIx xs.length 0 none=0:=rfl;have Y:HT.sIx xs.length xs.length (some (v:Int))=min v xs.length:=HT.sIx_nat _ _ v;rw[e1,Y,VJ,VL];by_cases h:v<=xs.length
 ·rw[UN h]
 ·rw[UO (by lia),VW (Uk _),VW (by lia)]
end L2
namespace L2
open PySem PySem.Spec PyProof.Rows PySem.SeqAt
theorem Ml{X:Cx}(hc:X.calm=true):CV X (.builtin "sum") (fun xs H Q=>∃(l:aa) (Y:List Int),xs=[.ref l]/\H l=some (.lst (Y.map V.int))/\Q (.int Y.sum) H):=by
 intro pins s σ H xs us Q I r h;obtain⟨l,Y,rfl,hH,q⟩:=h;obtain⟨u,rfl,rfl⟩:=ER r;obtain⟨z,O,n,rv,hl,e⟩:=I.lstM hH;have hi:=JI rv;have J:s.heap.IsList l O.toArray:=⟨_,e,Z,n,Z⟩;obtain⟨xs,e⟩:=hi.allInts.items;have W:Y=xs.toList.map (·.1):=by rw[<- hi.numsOf,<- nums_intItems,<- e]
 rw[e]at J;refine sum_intListG (I.ok.hd hc) J fun h' tk t' hk=>?_;refine⟨.int _,H,I.kept hk,⟨_,Z⟩,?_⟩;rw[preSum_eq,VW (by simp),<- W];exact q
section
variable {X:Cx}
end
theorem Dy(xs:List V)(v:Nat):Cs xs (some (v:Int)) none=xs.drop v:=by
 unfold Cs;have e1:HT.sIx xs.length 0 (some (v:Int))=min v xs.length:=HT.sIx_nat _ _ v;have Y:HT.sIx xs.length xs.length none=xs.length:=rfl;rw[e1,Y];by_cases h:v<=xs.length
 ·rw[UN h,VW (by rw[UP];exact Uk _)]
 ·rw[UO (by lia),VX,VY,VZ (by lia)]
end L2
namespace L2
open PySem PySem.Spec PyProof.Rows
theorem NC:ay "zip" = some (.type "zip"):=by decide +kernel
section
variable {X:Cx}{pins:List (aa×Obj)}{σ:List (Option V)}{H:Hp}{s:ae}{h':au}
theorem Inv.turnedL{t':Nat}{ch:List aa}(I:Inv X pins σ H s)(k:∀b o,b∉ch->s.heap.get? b=some o->h'.get? b=some o)(O:∀b∈ch,Ei X pins H b):Inv X pins σ H { s with heap:=h',toks:=t' }:=by
 have W:∀b u,H b=some u->b∉ch:=fun b u e z=>by rw[(O b z).1]at e;cases e
 refine I.step (g':=s.gens) (d':=s.drawn) (ch:=ch) (fun b hb=>?_) (fun b o _ _ Y e _=>k b o Y e) (fun b o _ _ Y e _=>⟨o.slots,k b o Y e⟩) (fun _ _ _ _ n=>n)
  (fun b o Y e=>⟨o,k b o Y e⟩) (fun _ _ e=>e) (fun _ _ _ e=>e) (fun b ps e=>⟨#[],by rw[e];simp⟩) (fun m hm=>?_) (fun b u e=>?_) I.bare
 ·obtain⟨_,hL,_,h1,h2,J⟩:=O b hb;exact⟨h1,hL,h2,J⟩
 ·obtain⟨o,es,ep,ho,r⟩:=hm;exact⟨o,es,ep,k _ o (fun z=>(O _ z).2.1 rfl) ho,r⟩
 ·refine(I.hok b u e).stay (fun c v Y q=>k c v ?_ q) (fun _ q=>q) fun _ _ q=>q
  rcases Y with z | z
  ·rw[z];exact W b u e
  ·exact W c _ z
end
def Itz(K:U5)(a b:aa)(xs ys:List V):It :=
 ⟨fun i H=>SqL K H a xs/\SqL K H b ys/\i<min xs.length ys.length,
  fun i H x H'=>∃T x1 y1,xs[i]? = some x1/\ys[i]? = some y1/\H T=none/\x = .ref T/\H'=upd H T (.tup [x1,y1]),
  fun i H=>SqL K H a xs/\SqL K H b ys/\min xs.length ys.length<=i⟩
theorem Ms{P:ai}{w:ar}{K:U5}{aP:List Expr}{kk}{pos:Pos}{a b z TI TO i1 i2:aa}(D:bV z TI TO i1 i2 a b)(xs ys:List V) :
 JZ P w K (.Tuple aP kk pos) (Itz K a b xs ys) [z,TI,TO,i1,i2] z (fun i h=>IsZip h z TI TO .none/\aU h TI (.ref i1) (.ref i2)/\(∃u v,aU h TO u v)/\h.IsListIter i1 a i/\h.IsListIter i2 b i) where
 mem:=by simp
 obj:=fun i h st c hc=>by
  obtain⟨hz,W,⟨u,v,O⟩,⟨o1,e1,_,d1⟩,⟨o2,e2,_,d2⟩⟩:=st;have J:c=z\/c=TI\/c=TO\/c=i1\/c=i2:=by simpa using hc
  rcases J with rfl | rfl | rfl | rfl | rfl
  ·exact⟨_,hz,fun v z=>by cases z⟩
  ·exact⟨_,W,fun v z=>by cases z⟩
  ·exact⟨_,O,fun v z=>by cases z⟩
  ·exact⟨o1,e1,fun v z=>by rw[d1]at z;cases z⟩
  ·exact⟨o2,e2,fun v z=>by rw[d2]at z;cases z⟩
 keep:=fun i h h' st k=>by
  obtain⟨hz,W,⟨u,v,O⟩,h1,h2⟩:=st;exact⟨k z (by simp) _ hz,k TI (by simp) _ W,⟨u,v,k TO (by simp) _ O⟩,h1.at fun o e=>k i1 (by simp) o e,h2.at fun o e=>k i2 (by simp) o e⟩
 item:=by
  intro X hP hw hK hc i pins s σ H E I hf st hg;subst hP hw hK;obtain⟨ap,as,hi⟩:=hg;obtain⟨aC,ak,p1,_⟩:=I.list ap;obtain⟨a0,al,p2,_⟩:=I.list as;have hx:xs[i]? = some (xs[i]'(by lia)):=Vy (by lia)
  have hy:ys[i]? = some (ys[i]'(by lia)):=Vy (by lia)
  obtain⟨u1,bf,aF⟩:=ak.get hx;obtain⟨u2,bd,ba⟩:=al.get hy;generalize xs[i]'(by lia)=x1 at hx aF
  generalize ys[i]'(by lia)=y1 at hy ba
  obtain⟨hz,W,⟨ta,tb,O⟩,h1,h2⟩:=st;refine wpAny_pyNext_zip_item D hz W O h1 h2 p1.isList p2.isList (x:=u1) (y:=u2) (by simpa using bf) (by simpa using bd) fun h' a1 a2 a3 a4 a5 a6 a7=>?_
  refine⟨_,Z,wpAny_letOwnedTupleGo_zip (s:={ s with heap:=h' }) a1 fun bc b1 b2=>?_⟩
  have lz:z<s.heap.objs.size:=Heap.lt_size hz;have bh:TI<s.heap.objs.size:=Heap.lt_size W;have bg:TO<s.heap.objs.size:=Heap.lt_size O;have l1:i1<s.heap.objs.size:=by obtain⟨_,e,_⟩:=h1;exact Heap.lt_size e
  have l2:i2<s.heap.objs.size:=by obtain⟨_,e,_⟩:=h2;exact Heap.lt_size e
  have I1:Inv X pins σ (upd H s.heap.objs.size (.tup [x1,y1])) { s with heap:=s.heap.push { cls:=.type "tuple",data:=.seq #[u1,u2] } } :=
   I.laid (t':=s.toks) (o:=.tup [x1,y1]) (fun b ob q=>Heap.get?_push_of_some _ q) (Uk _) ⟨by show 2<=af;decide,[u1,u2],.cons aF (.cons ba .nil),IsTup.new _ _⟩
  have bb:∀c∈[z,TI,TO,i1,i2],Ei X pins (upd H s.heap.objs.size (.tup [x1,y1])) c:=fun c hc=>by
   obtain⟨f0,fr⟩:=hf c hc
   have be:c<s.heap.objs.size:=by
    have J:c=z\/c=TI\/c=TO\/c=i1\/c=i2:=by simpa using hc
    rcases J with rfl | rfl | rfl | rfl | rfl<;>assumption
   exact⟨by rw[Am (TZ be)];exact f0,fr⟩
  have I2:=I1.turnedL (h':=bc) (t':=s.toks) (ch:=[z,TO,i1,i2]) (fun c o an e=>by
   have Y:c≠z/\c≠TO/\c≠i1/\c≠i2:=by simpa using an
   obtain⟨c1,c2,c3,c4⟩:=Y;refine b2.extBut _ _ c1 ?_;by_cases hcs:c=s.heap.objs.size
   ·subst hcs;have e':(s.heap.push { cls:=.type "tuple",data:=.seq #[u1,u2] }).get? s.heap.objs.size=some o:=e;rw[Heap.get?_push_size _ rfl]at e';cases e';exact a5
   ·have e':(s.heap.push { cls:=.type "tuple",data:=.seq #[u1,u2] }).get? c=some o:=e;refine a7 c o c1 c2 c3 c4 ?_;rw[Heap.get?_push_ne _ _ _ hcs]at e'
    exact e') (fun c hc=>bb c (by
     have J:c=z\/c=TO\/c=i1\/c=i2:=by simpa using hc
     rcases J with rfl | rfl | rfl | rfl<;>simp))
  refine⟨.ref s.heap.objs.size,upd H s.heap.objs.size (.tup [x1,y1]),I2,Z,⟨_,x1,y1,hx,hy,I.hok.fresh (Uk _),Z,Z⟩,⟨b1,?_,⟨_,_,b2.extBut _ _ D.TOz a2⟩,a3.extBut b2.extBut D.i1z,a4.extBut b2.extBut D.i2z⟩,fun c hc=>(bb c hc).1⟩;exact b2.extBut _ _ D.TIz (a7 _ _ D.TIz D.TITO D.TIi1 D.TIi2 W)
 done:=by
  intro X hP hw hK hc i pins s σ H E I hf st hg;subst hP hw hK;obtain⟨ap,as,hi⟩:=hg;obtain⟨aC,ak,p1,_⟩:=I.list ap;obtain⟨a0,al,p2,_⟩:=I.list as;have e1:=ak.length;have e2:=al.length;obtain⟨hz,W,⟨ta,tb,O⟩,h1,h2⟩:=st
  refine wpAny_pyNext_zip_end (I.ok.hd hc) D hz W O h1 h2 p1.isList p2.isList ?_ fun h' k=>⟨Z,I.turnedL (t':=s.toks) (ch:=[z,TO,i1,i2]) (fun c o an e=>by
   have Y:c≠z/\c≠TO/\c≠i1/\c≠i2:=by simpa using an
   exact k c o Y.1 Y.2.1 Y.2.2.1 Y.2.2.2 e) fun c hc=>hf c (by
    have J:c=z\/c=TO\/c=i1\/c=i2:=by simpa using hc
    rcases J with rfl | rfl | rfl | rfl<;>simp)⟩
  by_cases h:xs.length<=i
  ·exact .inl (by rw[W0];simp;lia)
  ·exact .inr (by rw[W0];simp;lia)
 self:=fun _ _ _ _ _ st h=>wpAny_pyIter_zip st.1 h
section
variable {X:Cx}
def QW(K:U5)(ta:TA):TI:=fun σ H R=>ta σ H fun vs H1=>∃a b xs ys,vs=[.ref a,.ref b]/\SqL K H1 a xs/\SqL K H1 b ys/\R (Itz K a b xs ys) H1
theorem Pl{ak:List Expr}{kk}{pos':Pos}{e1 W:Expr}{ta:TA}{p pos:Pos}(hg:Gl X "zip")(hm:X.mg "zip" = none)(ha:PA X [e1,W] ta)(hs:aq [e1,W] X.env=[(false,aD e1 X.env),(false,aD W X.env)]:=by rfl)(J:aq [W] X.env=[(false,aD W X.env)]:=by rfl) :
 PI X (.Tuple ak kk pos') (.Call (.Name "zip" p) [e1,W] [] pos) (QW X.K ta):=by
 intro pins s σ H R I h;refine Call_ (Df I hg hm NC (PyProof.Rows.callWith_type1 (thn (ha pos pins s σ H _ I h) fun us Y ⟨vs,H1,I1,r1,q1⟩=>?_) (by rw[hs,J]) (by rw[J];rfl)))
 obtain⟨a,b,xs,ys,e,ap,aC,q⟩:=q1;subst e;cases r1 with
 | cons r rr =>
   cases rr with
   | cons r' rr =>
     cases rr;cases r;cases r';obtain⟨a0,bb,p1,_⟩:=I1.list ap;obtain⟨ba,bc,p2,_⟩:=I1.list aC;have la:a<Y.heap.objs.size:=by obtain⟨_,e,_⟩:=p1.isList;exact Heap.lt_size e
     have lb:b<Y.heap.objs.size:=by obtain⟨_,e,_⟩:=p2.isList;exact Heap.lt_size e
     refine call_zip_2 p1.isList p2.isList fun h' hz aP as aF al hsz hk=>?_;refine wpAny_pyIter_zip (s:={ Y with heap:=h' }) hz ?_
     have D:=zipApart_new la lb;refine⟨Y.heap.objs.size+4,[Y.heap.objs.size+4,Y.heap.objs.size+2,Y.heap.objs.size+3,Y.heap.objs.size,Y.heap.objs.size+1],_,_,H1,Z,I1.kept (t':=Y.toks) hk,Ms D xs ys,⟨hz,aP,⟨_,_,as⟩,aF,al⟩,fun c hc=>?_,q⟩
     have O:Y.heap.objs.size<=c:=by
      have an:c=Y.heap.objs.size+4\/c=Y.heap.objs.size+2\/c=Y.heap.objs.size+3\/c=Y.heap.objs.size\/c=Y.heap.objs.size+1:=by simpa using hc
      rcases an with rfl | rfl | rfl | rfl | rfl
      ·exact W2 _ _
      ·exact W2 _ _
      ·exact W2 _ _
      ·exact Uk _
      ·exact W2 _ _
     exact I1.fpOk O (I1.hok.fresh O)
theorem MQ(K:U5){W:List Expr}{kk}{pos':Pos}{e1 Y:Expr}{ta:TA}{p pos:Pos}(hg:Gl X "zip")(hm:X.mg "zip" = none)(J:PA X [e1,Y] ta)(hs:aq [e1,Y] X.env=[(false,aD e1 X.env),(false,aD Y X.env)]:=by rfl)(O:aq [Y] X.env=[(false,aD Y X.env)]:=by rfl)(e:X.K=K:=by rfl) :
 PI X (.Tuple W kk pos') (.Call (.Name "zip" p) [e1,Y] [] pos) (QW K ta):=by subst e;exact Pl hg hm J hs O
end
theorem Lu{K:U5}{a b:aa}{xs ys:List V}{g:TG}{tb:TS}{D:DA}{σ:St}{H:Hp}(Y:Nat->St->Hp->Prop)(h0:Y 0 σ H)(hl:∀i σ H,i<=min xs.length ys.length->Y i σ H->SqL K H a xs/\SqL K H b ys)
 (hs:∀i x y T σ H,xs[i]? = some x->ys[i]? = some y->H T=none->Y i σ H->g (.ref T) σ (upd H T (.tup [x,y])) fun O H2=>tb { D with nx:=Y (i+1),ct:=Y (i+1),bk:=D.nx } O H2) (hd:∀σ H,Y (min xs.length ys.length) σ H->D.nx σ H) :
 ∃ W:Nat->Nat->St->Hp->Prop,(∃m,W 0 m σ H)/\∀i m σ H,W i m σ H ->
   ((Itz K a b xs ys).stop i H/\D.nx σ H)\/((Itz K a b xs ys).go i H/\∃N:St->Hp->Prop,(∀J H',N J H'->∃m',m'<m/\W (i+1) m' J H')/\∀x H',(Itz K a b xs ys).yld i H x H'->g x σ H' fun O H2=>tb { D with nx:=N,ct:=N,bk:=D.nx } O H2):=by
 refine⟨fun i m σ H=>m=min xs.length ys.length-i/\i<=min xs.length ys.length/\Y i σ H,⟨min xs.length ys.length,by simp,Uo _,h0⟩,?_⟩
 rintro i m σ H ⟨rfl,hi,p⟩;obtain⟨q1,q2⟩:=hl i σ H hi p;by_cases hlt:i<min xs.length ys.length
 ·refine .inr ⟨⟨q1,q2,hlt⟩,Y (i+1),fun J H' p'=>⟨min xs.length ys.length-(i+1),by lia,Z,hlt,p'⟩,fun x H' y=>?_⟩
  obtain⟨T,x1,y1,hx,hy,hT,rfl,rfl⟩:=y;exact hs i x1 y1 T σ _ hx hy hT p
 ·have e:i=min xs.length ys.length:=by lia
  subst e;exact .inl ⟨⟨q1,q2,Uk _⟩,hd σ H p⟩
namespace St
open SetTable
def it(mask:Nat):Nat->Nat->Nat
 | 0,i=>i
 | n+1,i=>it mask n ((i*5+1) % (mask+1))
theorem cover7:∀i:Fin 8,∀e:Fin 8,∃m:Fin 8,it 7 m.val i.val=e.val:=by decide +kernel
theorem cover31:∀i:Fin 32,∀e:Fin 32,∃m:Fin 32,it 31 m.val i.val=e.val:=by decide +kernel
theorem cover{mask:Nat}(W:mask=7\/mask=31){i e:Nat}(hi:i<mask+1)(Y:e<mask+1):∃m,m<=mask/\it mask m i=e:=by
 rcases W with rfl | rfl
 ·obtain⟨m,h⟩:=cover7 ⟨i,hi⟩ ⟨e,Y⟩;exact⟨m.val,by lia,h⟩
 ·obtain⟨m,h⟩:=cover31 ⟨i,hi⟩ ⟨e,Y⟩;exact⟨m.val,by lia,h⟩
def bs(mask:Nat)(b:Nat):Nat->Nat×Nat
 | 0=>(b % (mask+1),b)
 | n+1=>leap mask (bs mask b n).1 (bs mask b n).2
theorem bs_pert(mask b:Nat):∀n,(bs mask b n).2=b / 32 ^ n
 | 0=>by show b=b / 1;rw[Nat.div_one]
 | n+1=>by
   show(bs mask b n).2 / 32=_;rw[bs_pert mask b n,Nat.div_div_eq_div_mul,Nat.pow_succ]
theorem bs_lt(mask b:Nat):∀n,(bs mask b n).1<mask+1
 | 0=>Nat.mod_lt _ (VR _)
 | _+1=>Nat.mod_lt _ (VR _)
theorem bits_lt(h:Int):bits h<2 ^ 64:=by
 unfold bits;have h1:(0:Int)<=h % 2 ^ 64:=W3 _ (by decide)
 have h2:h % 2 ^ 64<2 ^ 64:=W4 _ (by decide)
 lia
theorem bs_late{mask b n:Nat}(W:b<2 ^ 64)(Y:13<=n):(bs mask b n).2=0:=by
 rw[bs_pert];refine Nat.div_eq_of_lt (TX W ?_);exact U6 (by decide:2 ^ 64<=32 ^ 13) (VA (by decide) Y)
theorem bs_cyc{mask b:Nat}(Y:b<2 ^ 64):∀m n,13<=n->(bs mask b (n+m)).1=it mask m (bs mask b n).1
 | 0,n,_=>rfl
 | m+1,n,hn=>by
   have ih:=bs_cyc (mask:=mask) Y m (n+1) (by lia)
   rw[show n+(m+1)=n+1+m by lia,ih]
   show it mask m (leap mask (bs mask b n).1 (bs mask b n).2).1=it mask m (((bs mask b n).1*5+1) % (mask+1));rw[bs_late Y hn]
   rfl
theorem bs_hits{mask b e:Nat}(O:mask=7\/mask=31)(W:b<2 ^ 64)(Y:e<mask+1):∃n,n<=13+mask/\(bs mask b n).1=e:=by
 obtain⟨m,h1,h2⟩:=cover O (bs_lt mask b 13) Y;exact⟨13+m,by lia,by rw[bs_cyc W m 13 (Uk _)];exact h2⟩
def base(mask i pert:Nat):Probe:={ j:=i,more:=runEnd mask i-i,i,perturb:=pert,dummy:=none }
def advs(t:av):Nat->Probe->Probe
 | 0,p=>p
 | n+1,p=>advs t n (t.advance p)
theorem advs_add(t:av):∀m n p,advs t (m+n) p=advs t n (advs t m p)
 | 0,n,p=>by rw[W5];rfl
 | m+1,n,p=>by rw[show m+1+n=(m+n)+1 by lia];exact advs_add t m n _
theorem run_le(mask i:Nat):runEnd mask i-i<=9:=by unfold runEnd;split<;>lia
theorem advs_run(t:av):∀(r j i Y:Nat),advs t (r+1) { j:=j,more:=r,i:=i,perturb:=Y,dummy:=none }=base t.mask (leap t.mask i Y).1 (leap t.mask i Y).2
 | 0,j,i,Y=>rfl
 | r+1,j,i,Y=>by
   have ih:=advs_run t r (j+1) i Y;show advs t (r+1) (t.advance { j:=j,more:=r+1,i:=i,perturb:=Y,dummy:=none })=_;rw[<- ih]
   rfl
theorem reach(t:av)(h:Int):∀n,∃k,k<=10*n/\advs t k (t.probeStart h)=base t.mask (bs t.mask (bits h) n).1 (bs t.mask (bits h) n).2
 | 0=>⟨0,Uk _,Z⟩
 | n+1=>by
   obtain⟨k,hk,e⟩:=reach t h n;refine⟨k+(runEnd t.mask (bs t.mask (bits h) n).1-(bs t.mask (bits h) n).1+1),?_,?_⟩
   ·have:=run_le t.mask (bs t.mask (bits h) n).1
    lia
   ·rw[advs_add,e];exact advs_run t _ _ _ _
theorem slot_empty{t:av}(W:t.dummies = #[]){e:Nat}(Y:∀i:Nat,t.place[i]? ≠ some e):t.slot e = .empty:=by
 unfold slot
 have h1:(t.place[below t.place e]? == some e)=false:=by
  rw[beq_eq_false_iff_ne];exact Y _
 have h2:has t.dummies e=false:=by
  rw[W];unfold has;rfl
 simp only[h1,h2]
 rfl
theorem slot_cases{t:av}(Y:t.dummies = #[])(j:Nat):t.slot j = .empty\/∃i,t.slot j = .live i/\t.place[i]? = some j:=by
 by_cases h:t.place[below t.place j]? = some j
 ·refine .inr ⟨below t.place j,?_,h⟩;unfold slot;have h1:(t.place[below t.place j]? == some j)=true:=by rw[h];exact beq_self_eq_true _
  simp only[h1]
  rfl
 ·refine .inl ?_;unfold slot;have h1:(t.place[below t.place j]? == some j)=false:=by rw[beq_eq_false_iff_ne];exact h
  have h2:has t.dummies j=false:=by rw[Y];unfold has;rfl
  simp only[h1,h2]
  rfl
def Hit(t:av)(k:Nat)(p:Probe):Prop:=t.slot (advs t k p).j = .empty
theorem adv_dummy(t:av){p:Probe}(h:p.dummy=none):(t.advance p).dummy=none:=by
 unfold advance
 split
 ·exact h
 ·exact h
theorem nd_le:∀{l m:List Nat},l.Nodup->(∀x,x∈l->x∈m)->l.length<=m.length
 | [],m,_,_=>Uo _
 | a::l,m,hn,hs=>by
   rw[Uv]at hn;have ha:=hs a U9;have W:=nd_le (l:=l) (m:=m.erase a) hn.2 fun x Y=>(List.mem_erase_of_ne (fun e:x=a=>hn.1 (e ▸ Y))).mpr (hs x (Ua _ Y));rw[List.length_erase_of_mem ha]at W;have:=List.length_pos_of_mem ha;rw[Vg];lia
theorem start_hit{t:av}(hm:t.mask=7\/t.mask=31)(hd:t.dummies = #[])(hs:t.place.size<=t.mask)(h:Int):∃k,k<10*turns t.mask/\Hit t k (t.probeStart h):=by
 have Y:∃e,e<t.mask+1/\∀i:Nat,t.place[i]? ≠ some e:=by
  refine Classical.byContradiction fun hn=>?_
  have O:∀e,e<t.mask+1->e∈t.place.toList:=fun e Y=>by
   refine Classical.byContradiction fun ak=>hn ⟨e,Y,fun i hi=>ak ?_⟩;exact UG (by rw[W6];exact hi)
  have W:(U0 (t.mask+1)).Subset t.place.toList:=fun e Y=>O e (U4.mp Y);have J:=nd_le (List.nodup_range (n:=t.mask+1)) W;rw[W7,Ui]at J
  lia
 obtain⟨e,al,an⟩:=Y;obtain⟨n,hn,hb⟩:=bs_hits (b:=bits h) hm (bits_lt h) al;obtain⟨k,hk,hr⟩:=reach t h n;refine⟨k,?_,?_⟩
 ·unfold turns;lia
 ·unfold Hit;rw[hr];show t.slot (bs t.mask (bits h) n).1=_;rw[hb];exact slot_empty hd an
end St
end L2
namespace L2
open PySem PySem.Spec PyProof.Rows
namespace St
open SetTable
section
variable {prog:ai}{w:ar}{K:Type}[DecidableEq K](knd:KeyKind prog w K)
def IsN(h:au)(ks:List K)(a:aa):Prop:=∃o items n,h.get? a=some o/\o.cls = .type "tuple" /\ o.data = .seq items n/\ItemsAre knd ks items.toList/\∀v∈items.toList,∃k t,v = .int k t
variable {knd}
theorem IsN.key{h:au}{ks:List K}{a:aa}(x:IsN knd h ks a):IsTupleKey knd h ks a:=let ⟨o,i,n,h1,h2,h3,h4,_⟩:=x;⟨o,i,n,h1,h2,h3,h4⟩
theorem IsN.keep{h h':au}{ks:List K}{a:aa}(x:IsN knd h ks a)(k:∀o,h.get? a=some o->h'.get? a=some o):IsN knd h' ks a:=let ⟨o,i,n,h1,h2⟩:=x;⟨o,i,n,k o h1,h2⟩
variable {A:aw}{E:ac->ae->Prop}{s:ae}
theorem wpAny_seqItemsQ{M:Model}{a:aa}{o:Obj}{items n}{Q:Option (Array ac)->ae->Prop}(Y:s.heap.get? a=some o)(W:o.data = .seq items n)(h:Q (some items) s):am M A (seqItems? (.ref a)) Q E s:=by
 unfold seqItems?;refine ad (wpAny_load Y ?_);rw[W];exact ah h
theorem hashByValue_n{ks:List K}{a:aa}{Q:Bool->ae->Prop}(J:IsN knd s.heap ks a)(h:Q true s):am (ao prog w) A (hashByValue 8 (.ref a)) Q E s:=by
 have hT:=J.key.typeIs;obtain⟨o,items,n,ho,_,hd,hi,Y⟩:=J;unfold hashByValue;refine ad (wpAny_specialOf hT F.slot_tuple_hash.lookup ?_);show am _ _ (seqItems? (.ref a) >>= _) _ _ s;refine ad (wpAny_seqItemsQ ho hd ?_);refine ad ?_;show am _ _ (forIn items _ _) _ _ s;rw[<- W8];refine wpAny_forIn_list _ (fun BD r s'=>r.1=none/\s'=s/\∀v∈BD,∃k t,v=Value.int k t) _ ?_ ?_ _ _ ⟨Z,Z,Y⟩
 ·rintro v BD r s' ⟨W,rfl,Y⟩;obtain⟨k,t,rfl⟩:=Y v U9;refine ad (m:=hashByValue 7 (.int k t)) (ah ?_);simp only[Bool.not_true,Bool.false_eq_true,if_false];exact ah ⟨Z,Z,fun u O=>Y u (Ua _ O)⟩
 ·rintro⟨r1,r2⟩ s' ⟨W,rfl,_⟩;simp only at W;subst W;exact ah h
theorem ofClass_n{ks:List K}{a:aa}{Q:Bool->ae->Prop}(J:IsN knd s.heap ks a)(h:Q false s):am (ao prog w) A (bL 8 (.ref a)) Q E s:=by
 have hT:=J.key.typeIs;obtain⟨o,items,n,ho,_,hd,hi,Y⟩:=J;unfold bL;refine ad (wpAny_typeOf hT ?_);refine ad (m:=pure true) (ah ?_);simp only[Bool.not_true,Bool.false_eq_true,if_false];refine ad (wpAny_seqItemsQ ho hd ?_);refine ad ?_;show am _ _ (forIn items _ _) _ _ s;rw[<- W8];refine wpAny_forIn_list _ (fun BD r s'=>r.1=none/\s'=s/\∀v∈BD,∃k t,v=Value.int k t) _ ?_ ?_ _ _ ⟨Z,Z,Y⟩
 ·rintro v BD r s' ⟨W,rfl,Y⟩;obtain⟨k,t,rfl⟩:=Y v U9;refine ad (m:=bL 7 (.int k t)) (ah ?_);simp only[Bool.false_eq_true,if_false];exact ah ⟨Z,Z,fun u O=>Y u (Ua _ O)⟩
 ·rintro⟨r1,r2⟩ s' ⟨W,rfl,_⟩;simp only at W;subst W;exact ah h
def Ns(knd:KeyKind prog w K)(h:au)(l:List ac)(ks:List K):Prop:=∀v∈l,∃b k',v = .ref b/\IsN knd h k' b/\k'≠ks
end
end St
end L2
namespace L2
open PySem PySem.Spec PyProof.Rows
namespace St
open SetTable
theorem free_ok{owner:Array (Option Nat)}{b e:Nat}(O:owner.getD e (some 0)=none):∀(Y m n:Nat),m<Y->(bs 31 b (n+m)).1=e ->
 ∃j,layClean.free 31 owner Y (bs 31 b n).1 (bs 31 b n).2=some j/\owner.getD j (some 0)=none
 | Y+1,m,n,hm,hb=>by
   unfold layClean.free
   split
   ·next k W =>
    have:=List.find?_some W;exact⟨_,Z,Option.isNone_iff_eq_none.mp this⟩
   ·next W =>
    cases m with
    | zero =>
      exfalso;rw[List.find?_eq_none]at W;have J:(0:Nat)∈U0 (runEnd 31 (bs 31 b n).1+1-(bs 31 b n).1):=U4.mpr (by unfold runEnd;split<;>lia)
      have h1:=W 0 J;rw[Vc]at hb h1;rw[hb,O]at h1;exact h1 rfl
    | succ m =>
      obtain⟨j,h1,h2⟩:=free_ok O Y m (n+1) (by lia) (by rw[show n+1+m=n+(m+1) by lia];exact hb)
      exact⟨j,h1,h2⟩
def lv(owner:Array (Option Nat))(j:Nat):Option (Nat×Nat):=(owner.getD j none).map (j,·)
theorem lv_set{owner:Array (Option Nat)}{j k:Nat}(hj:owner.getD j (some 0)=none)(hs:owner.size=32):(((U0 32).filterMap (lv (owner.setIfInBounds j (some k)))).map (·.2)).Perm (k::((U0 32).filterMap (lv owner)).map (·.2))/\j<32:=by
 have J:j<32:=by
  refine Nat.lt_of_not_le fun aP=>?_;rw[W9,W0 (by lia)]at hj
  cases hj
 refine⟨?_,J⟩
 have W:U0 32=U0 j++j::(U0 32).drop (j+1):=by
  have h1:(U0 32)[j]? = some j:=Wa J;obtain⟨O,hg⟩:=Ue.mp h1;have h2:=(List.take_append_drop j (U0 32)).symm;rw[List.drop_eq_getElem_cons O,hg,List.take_range,UN (by lia)]at h2
  exact h2
 have an:∀a∈U0 j,lv (owner.setIfInBounds j (some k)) a=lv owner a:=fun a ha=>by
  have:a≠j:=by have:=U4.mp ha;lia
  unfold lv;rw[W9,W9,Wb (Ne.symm this)]
 have al:∀a∈(U0 32).drop (j+1),lv (owner.setIfInBounds j (some k)) a=lv owner a:=fun a ha=>by
  have:a≠j:=by
   obtain⟨i,hi⟩:=Wc ha;rw[Vu]at hi;have as:=(Ue.mp hi);obtain⟨hl,aF⟩:=as;rw[Wd]at aF
   lia
  unfold lv;rw[W9,W9,Wb (Ne.symm this)]
 have ak:lv (owner.setIfInBounds j (some k)) j=some (j,k):=by
  unfold lv;rw[W9,Array.getElem?_setIfInBounds_self_of_lt (by lia)];rfl
 have ap:lv owner j=none:=by
  unfold lv;rw[W9]at hj ⊢;have O:j<owner.size:=by lia
  rw[We O]at hj ⊢;show(owner[j]).map _=none;have aC:owner[j]=none:=hj;rw[aC];rfl
 have Y:∀{l:List Nat},(∀a∈l,lv (owner.setIfInBounds j (some k)) a=lv owner a)->l.filterMap (lv (owner.setIfInBounds j (some k)))=l.filterMap (lv owner):=fun{l} h=>by
  induction l with
  | nil=>rfl
  | cons a l ih =>
    rw[U8,U8,h a U9,ih fun b hb=>h b (Ua _ hb)]
 rw[W,List.filterMap_append,List.filterMap_append,Wf ak,List.filterMap_cons_none ap,Y an,Y al,Vk,Vk,UX];exact List.perm_middle
def Own(owner:Array (Option Nat))(k:Nat):Prop:=owner.size=32/\(((U0 32).filterMap (lv owner)).map (·.2)).Perm (U0 k)
theorem own_free{owner:Array (Option Nat)}{k:Nat}(ho:Own owner k)(hk:k<32):∃e,e<32/\owner.getD e (some 0)=none:=by
 refine Classical.byContradiction fun hn=>?_;have O:∀e,e<32->owner.getD e (some 0)≠none:=fun e he z=>hn ⟨e,he,z⟩;have Y:=ho.2.length_eq;rw[UI,W7]at Y
 have W:∀a∈U0 32,(lv owner a).isSome=true:=fun a ha=>by
  have J:=U4.mp ha;have h1:=O a J;unfold lv;rw[W9]at h1 ⊢;have ak:a<owner.size:=by rw[ho.1];exact J
  rw[We ak]at h1 ⊢;cases hc:owner[a] with
  | none=>rw[hc]at h1;exact absurd rfl h1
  | some v=>show((some v).map (fun x=>(a,x))).isSome=true;rfl
 have al:∀{l:List Nat},(∀a∈l,(lv owner a).isSome=true)->(l.filterMap (lv owner)).length=l.length:=fun{l} h=>by
  induction l with
  | nil=>rfl
  | cons a l ih =>
    obtain⟨v,hv⟩:=Option.isSome_iff_exists.mp (h a U9);rw[Wf hv,Vg,Vg,ih fun b hb=>h b (Ua _ hb)]
 rw[al W,W7]at Y
 lia
def stp(acc:Option (Array (Option Nat)×Nat))(h:Int):Option (Array (Option Nat)×Nat):=do
 let (owner,k) <- acc
 let j <- layClean.free 31 owner (turns 31) (bits h % (31+1)) (bits h)
 pure (owner.setIfInBounds j (some k),k+1)
theorem stp_ok{owner:Array (Option Nat)}{k:Nat}(O:Own owner k)(hk:k<32)(h:Int):∃Y,stp (some (owner,k)) h=some (Y,k+1)/\Own Y (k+1):=by
 obtain⟨e,he,hn⟩:=own_free O hk;obtain⟨n,an,ak⟩:=bs_hits (mask:=31) (b:=bits h) (.inr rfl) (bits_lt h) (show e<31+1 by lia)
 obtain⟨j,J,al⟩:=free_ok (owner:=owner) (b:=bits h) hn (turns 31) n 0 (by unfold turns;lia) (by rw[W5];exact ak)
 have hp:=lv_set (k:=k) al O.1;refine⟨owner.setIfInBounds j (some k),?_,?_,?_⟩
 ·have W:layClean.free 31 owner (turns 31) (bits h % (31+1)) (bits h)=some j:=J;show(do let j <- layClean.free 31 owner (turns 31) (bits h % (31+1)) (bits h);pure (owner.setIfInBounds j (some k),k+1))=_
  rw[W];rfl
 ·rw[Array.size_setIfInBounds];exact O.1
 ·refine hp.1.trans ?_;rw[show U0 (k+1)=U0 k++[k] from VT];exact(List.Perm.cons k O.2).trans (List.perm_append_comm (l₁:=[k]))
theorem own_none:Own (Wg 32 none) 0:=by
 refine⟨Array.size_replicate,?_⟩;have:(U0 32).filterMap (lv (Wg 32 none))=[]:=by decide +kernel
 rw[this];exact List.Perm.refl _
end St
end L2
namespace L2
open PySem PySem.Spec PyProof.Rows
namespace St
open SetTable
section
variable {prog:ai}{w:ar}{K:Type}[DecidableEq K](knd:KeyKind prog w K)(G:aa->Prop)
variable {knd}{G}
variable {A:aw}{E:ac->ae->Prop}{s:ae}
theorem insert_size{Y:Type}(xs:Array Y)(p:Nat)(x:Y):(insertAt xs p x).size=xs.size+1:=by
 have h:=(SetTable.insertAt_perm xs p x).length_eq;rw[Ui,Ui,Wh]at h;exact h
end
end St
end L2
namespace L2
open PySem PySem.Spec PyProof.Rows
namespace St
section
variable {prog:ai}{w:ar}{K:Type}[DecidableEq K]{knd:KeyKind prog w K}{G:aa->Prop}{A:aw}{R:Result->ae->Prop}{I:aa}{fp wr:List aa}{GG:Array GenState->Array GenState->Prop}{n:Nat}{P:Nat->ac->Prop}{St:Nat->ae->Prop}
theorem turn_of{S:aa}{s:ae} (hz:am (ao prog w) A.in1 (Builtin.«set.update.loop» ⟨[.ref S,.ref I],[]⟩)
 (fun Y s'=>match Y with | .done f=>R (.ok f) s' | .again c'=>c'.quiet=true/\aR (ao prog w) A c' R s') (fun e s'=>R (.error e) s') s) :
 aR (ao prog w) A (.builtin "set.update.loop" ⟨[.ref S,.ref I],[]⟩) R s :=
 aX F.entry_set_update_loop ((Around.under_plainId F.plain_set_update_loop (A:=A) ⟨[.ref S,.ref I],[]⟩).symm ▸ hz)
end
section
variable {prog:ai}{w:ar}{K:Type}[DecidableEq K]{knd:KeyKind prog w K}{A:aw}{E:ac->ae->Prop}{s:ae}
abbrev nS(led:Bool):Obj:={ cls:=.type "set",dict:=none,data:=.set #[] 0 (.fresh 0 0 led) }
abbrev nI(l:aa):Obj:={ cls:=.type "list_iterator",data:=.fields #[.ref l,.int 0 0] }
end
end St
theorem Qh:ay "set" = some (.type "set"):=by decide +kernel
def NR(p:aa)(n:Nat):HO:=.ext fun h=>∃o es ep t,h.get? p=some o/\o.ExactSet/\o.data = .set es ep t/\SetTable.fits t es.size=true/\es.size=n
theorem Q8{P:ai}{w:ar}{H:Hp}{h:au}{a:aa}{q:Rat}(J:HOk P w H h)(e:H a=some (nT q)):St.IsN (D7 P w) h (kQ q) a:=by
 obtain⟨_,Y,O,o,ho,hc,n,hd⟩:=J a _ e;refine⟨o,Y.toArray,n,ho,hc,hd,HW (ks:=kQ q) O,fun v hv=>?_⟩;have W:v∈Y:=by simpa using hv
 cases O with
 | cons r1 rr =>
   cases rr with
   | cons r2 rr =>
     cases rr;obtain⟨t1,rfl⟩:=r1;obtain⟨t2,rfl⟩:=r2
     rcases Ub.mp W with z | z
     ·exact⟨_,_,z⟩
     ·exact⟨_,_,Vx.mp z⟩
section
variable {X:Cx}
theorem Mn:CV X (.builtin "len") (fun xs H Q=>∃(p:aa) (n:Nat),xs=[.ref p]/\H p=some (NR p n)/\n<=1000/\Q (.int (n:Int)) H):=by
 intro pins s σ H xs us Q I r h;obtain⟨p,n,rfl,O,hn,q⟩:=h;obtain⟨u,rfl,rfl⟩:=ER r;obtain⟨⟨o,es,ep,t,h1,h2,Y,W,J⟩,_⟩:=I.hok p _ O;subst J;exact call_len_set h1 h2 Y W (by lia) ⟨.int _,H,I.tok _,⟨_,Z⟩,q⟩
end
section
open PySem.W
variable {X:Cx}(K:U5)
end
end L2
namespace L2
open PySem PySem.Spec PyProof.Rows
structure Rj(X:Cx)(N:List Str)(nt:Nat)(js:List Nat)(scope:aB)(x:Str):Prop where
 kind:scope.kind = .function
 split:∃pre post,scope.names=pre++(x,.cell)::post/\(∀y∈pre,y.2 ≠ .cell)/\∀y∈post,y.2 ≠ .cell
 only:∀y∈scope.names,y.2 = .cell->y.1=x
 lx:scope.names.lookup x=some .cell
 names:∀y∈scope.names,y.2 = .local->scope.names.lookup y.1=some .local
 free:∀y∈scope.names,y.2 = .free->X.env.kindOf y.1=some .cell\/X.env.kindOf y.1=some .free
 len:N.length=nt+js.length
 outer:∀j i,js[j]? = some i->∃x,N[nt+j]? = some x/\X.N[i]? = some x/\scope.names.lookup x=some .free
section
variable {X:Cx}{N:List Str}{nt:Nat}{js:List Nat}{scope:aB}{cl:List (Str×aa)}{x:Str}{c:aa}
end
section
variable {X:Cx}{N:List Str}{nt:Nat}{js:List Nat}{scope:aB}{elt iter tg:Expr}{ifs:List Expr}{pos:Pos}{g:TG}{tc:TT}{te:TE}{wi:TI}{xn:Str}
end
@[reducible] def Cl(u:U5->TS)(K:U5):TS:=u K
theorem Ad{X:Cx}{st:aS}{BD:List aS}{t v:TS}{K:U5}{u:U5->TS}(h1:PS X st t)(h2:PSs X BD v)(e:v=u K):PSs X (st::BD) (O1 t (Cl u K)):=by
 subst e;exact BJ h1 h2
section
variable {X:Cx}{o e:Expr}{es:List Expr}{to:TE}{t:TA}{name:Str}{apos cpos:Pos}{T id:String}{r:V->List V->Hp->VK->Prop}
theorem E6(K:U5)(pa:PlainAttrs T)(J:Slot T name id)(al:typeOf (.builtin id)=pure (.type "method_descriptor"))(hm:MtR X id r)(ho:PE X o to)(ha:PA X (e::es) t)
 (W:bQ o name X.env (aD o X.env)=aD o X.env:=by rfl)
 (ak:((aN cpos (aq (e::es) X.env)).all (fun x=>!x.1)&&(backToKw cpos (keywordEach [] X.env)).all (fun x=>x.1.isSome)
  && decide ((e::es).length+([]:List bK).length+(if ([]:List bK).isEmpty then 0 else 1)<30))=true:=by rfl)
 (O:(apos.endLine == cpos.line)=true:=by rfl) (hs:aq (e::es) X.env=(false,aD e X.env)::aq es X.env:=by rfl) (Y:(aN cpos (aq es X.env)).any (·.1)=false:=by rfl) (eK:X.K=K:=by rfl) :
 PE X (.Call (.Attribute o name apos) (e::es) [] cpos) (tBM K T r to t):=QH pa J al hm ho ha W ak O hs Y eK
end
theorem AV{c:Bool}{A B:Prop}(e:c=true)(h:A):if c=true then A else B:=by
 rw[if_pos e];exact h
theorem AK{c:Bool}{A B:Prop}(e:c=false)(h:B):if c=true then A else B:=by
 rw[if_neg (by rw[e];decide)];exact h
theorem BK{Y:Type}{l:List Y}{n:Nat}(h:l.length=n+1):∃a r,l=a::r/\r.length=n:=by
 cases l with
 | nil=>cases h
 | cons a r=>exact⟨a,r,Z,Nat.succ.inj h⟩
theorem Fun.binds1{K:U5}{x qual:Str}{st:aS}{f:aa}{fd:ag}(p1:Str)(F:Fun K x qual st f fd)
 (h:∀(kV W O:ac) (J:Option aa) (Y ct a1:ac),aT (UK x qual (BH st) (Bf st) (Af st) .none kV W O J Y ct) ⟨[a1],[]⟩=pure [(p1,a1)]):Bv K fd [p1] [] :=
 F.binds fun kV W O J Y ct us l0=>by
  obtain⟨a1,r1,rfl,l1⟩:=BK l0;cases Wi.mp l1;exact h kV W O J Y ct a1
theorem Fun.binds2{K:U5}{x qual:Str}{st:aS}{f:aa}{fd:ag}(p1 p2:Str)(F:Fun K x qual st f fd)
 (h:∀(kV W O:ac) (J:Option aa) (Y ct a1 a2:ac),aT (UK x qual (BH st) (Bf st) (Af st) .none kV W O J Y ct) ⟨[a1,a2],[]⟩=pure [(p1,a1),(p2,a2)]):Bv K fd [p1,p2] [] :=
 F.binds fun kV W O J Y ct us l0=>by
  obtain⟨a1,r1,rfl,l1⟩:=BK l0;obtain⟨a2,r2,rfl,l2⟩:=BK l1;cases Wi.mp l2;exact h kV W O J Y ct a1 a2
theorem Fun.binds3{K:U5}{x qual:Str}{st:aS}{f:aa}{fd:ag}(p1 p2 p3:Str)(F:Fun K x qual st f fd)
 (h:∀(kV W O:ac) (J:Option aa) (Y ct a1 a2 a3:ac),aT (UK x qual (BH st) (Bf st) (Af st) .none kV W O J Y ct) ⟨[a1,a2,a3],[]⟩=pure [(p1,a1),(p2,a2),(p3,a3)]):Bv K fd [p1,p2,p3] [] :=
 F.binds fun kV W O J Y ct us l0=>by
  obtain⟨a1,r1,rfl,l1⟩:=BK l0;obtain⟨a2,r2,rfl,l2⟩:=BK l1;obtain⟨a3,r3,rfl,l3⟩:=BK l2;cases Wi.mp l3;exact h kV W O J Y ct a1 a2 a3
theorem Fun.binds4{K:U5}{x qual:Str}{st:aS}{f:aa}{fd:ag}(p1 p2 p3 p4:Str)(F:Fun K x qual st f fd)
 (h:∀(kV W O:ac) (J:Option aa) (Y ct a1 a2 a3 a4:ac),aT (UK x qual (BH st) (Bf st) (Af st) .none kV W O J Y ct) ⟨[a1,a2,a3,a4],[]⟩=pure [(p1,a1),(p2,a2),(p3,a3),(p4,a4)]):Bv K fd [p1,p2,p3,p4] [] :=
 F.binds fun kV W O J Y ct us l0=>by
  obtain⟨a1,r1,rfl,l1⟩:=BK l0;obtain⟨a2,r2,rfl,l2⟩:=BK l1;obtain⟨a3,r3,rfl,l3⟩:=BK l2;obtain⟨a4,r4,rfl,l4⟩:=BK l3;cases Wi.mp l4;exact h kV W O J Y ct a1 a2 a3 a4
@[reducible] def L1{α1:Type}{δ:Type}(x1:α1)(u:α1->δ):δ:=u x1
@[reducible] def L2{α1 α2:Type}{δ:Type}(x1:α1)(x2:α2)(u:α1->α2->δ):δ:=u x1 x2
@[reducible] def L3{α1 α2 α3:Type}{δ:Type}(x1:α1)(x2:α2)(x3:α3)(u:α1->α2->α3->δ):δ:=u x1 x2 x3
@[reducible] def L4{α1 α2 α3 α4:Type}{δ:Type}(x1:α1)(x2:α2)(x3:α3)(x4:α4)(u:α1->α2->α3->α4->δ):δ:=u x1 x2 x3 x4
@[reducible] def L5{α1 α2 α3 α4 α5:Type}{δ:Type}(x1:α1)(x2:α2)(x3:α3)(x4:α4)(x5:α5)(u:α1->α2->α3->α4->α5->δ):δ:=u x1 x2 x3 x4 x5
@[reducible] def L6{α1 α2 α3 α4 α5 α6:Type}{δ:Type}(x1:α1)(x2:α2)(x3:α3)(x4:α4)(x5:α5)(x6:α6)(u:α1->α2->α3->α4->α5->α6->δ):δ:=u x1 x2 x3 x4 x5 x6
@[reducible] def L7{α1 α2 α3 α4 α5 α6 α7:Type}{δ:Type}(x1:α1)(x2:α2)(x3:α3)(x4:α4)(x5:α5)(x6:α6)(x7:α7)(u:α1->α2->α3->α4->α5->α6->α7->δ):δ:=u x1 x2 x3 x4 x5 x6 x7
@[reducible] def L8{α1 α2 α3 α4 α5 α6 α7 α8:Type}{δ:Type}(x1:α1)(x2:α2)(x3:α3)(x4:α4)(x5:α5)(x6:α6)(x7:α7)(x8:α8)(u:α1->α2->α3->α4->α5->α6->α7->α8->δ):δ:=u x1 x2 x3 x4 x5 x6 x7 x8
@[reducible] def L9{α1 α2 α3 α4 α5 α6 α7 α8 α9:Type}{δ:Type}(x1:α1)(x2:α2)(x3:α3)(x4:α4)(x5:α5)(x6:α6)(x7:α7)(x8:α8)(x9:α9)(u:α1->α2->α3->α4->α5->α6->α7->α8->α9->δ):δ:=u x1 x2 x3 x4 x5 x6 x7 x8 x9
@[reducible] def L10{α1 α2 α3 α4 α5 α6 α7 α8 α9 α10:Type}{δ:Type}(x1:α1)(x2:α2)(x3:α3)(x4:α4)(x5:α5)(x6:α6)(x7:α7)(x8:α8)(x9:α9)(x10:α10)(u:α1->α2->α3->α4->α5->α6->α7->α8->α9->α10->δ):δ:=u x1 x2 x3 x4 x5 x6 x7 x8 x9 x10
@[reducible] def L11{α1 α2 α3 α4 α5 α6 α7 α8 α9 α10 α11:Type}{δ:Type}(x1:α1)(x2:α2)(x3:α3)(x4:α4)(x5:α5)(x6:α6)(x7:α7)(x8:α8)(x9:α9)(x10:α10)(x11:α11)(u:α1->α2->α3->α4->α5->α6->α7->α8->α9->α10->α11->δ):δ:=u x1 x2 x3 x4 x5 x6 x7 x8 x9 x10 x11
@[reducible] def L12{α1 α2 α3 α4 α5 α6 α7 α8 α9 α10 α11 α12:Type}{δ:Type}(x1:α1)(x2:α2)(x3:α3)(x4:α4)(x5:α5)(x6:α6)(x7:α7)(x8:α8)(x9:α9)(x10:α10)(x11:α11)(x12:α12)(u:α1->α2->α3->α4->α5->α6->α7->α8->α9->α10->α11->α12->δ):δ:=u x1 x2 x3 x4 x5 x6 x7 x8 x9 x10 x11 x12
@[reducible] def L13{α1 α2 α3 α4 α5 α6 α7 α8 α9 α10 α11 α12 α13:Type}{δ:Type}(x1:α1)(x2:α2)(x3:α3)(x4:α4)(x5:α5)(x6:α6)(x7:α7)(x8:α8)(x9:α9)(x10:α10)(x11:α11)(x12:α12)(x13:α13)(u:α1->α2->α3->α4->α5->α6->α7->α8->α9->α10->α11->α12->α13->δ):δ:=u x1 x2 x3 x4 x5 x6 x7 x8 x9 x10 x11 x12 x13
@[reducible] def L14{α1 α2 α3 α4 α5 α6 α7 α8 α9 α10 α11 α12 α13 α14:Type}{δ:Type}(x1:α1)(x2:α2)(x3:α3)(x4:α4)(x5:α5)(x6:α6)(x7:α7)(x8:α8)(x9:α9)(x10:α10)(x11:α11)(x12:α12)(x13:α13)(x14:α14)(u:α1->α2->α3->α4->α5->α6->α7->α8->α9->α10->α11->α12->α13->α14->δ):δ:=u x1 x2 x3 x4 x5 x6 x7 x8 x9 x10 x11 x12 x13 x14
@[reducible] def L15{α1 α2 α3 α4 α5 α6 α7 α8 α9 α10 α11 α12 α13 α14 α15:Type}{δ:Type}(x1:α1)(x2:α2)(x3:α3)(x4:α4)(x5:α5)(x6:α6)(x7:α7)(x8:α8)(x9:α9)(x10:α10)(x11:α11)(x12:α12)(x13:α13)(x14:α14)(x15:α15)(u:α1->α2->α3->α4->α5->α6->α7->α8->α9->α10->α11->α12->α13->α14->α15->δ):δ:=u x1 x2 x3 x4 x5 x6 x7 x8 x9 x10 x11 x12 x13 x14 x15
@[reducible] def L16{α1 α2 α3 α4 α5 α6 α7 α8 α9 α10 α11 α12 α13 α14 α15 α16:Type}{δ:Type}(x1:α1)(x2:α2)(x3:α3)(x4:α4)(x5:α5)(x6:α6)(x7:α7)(x8:α8)(x9:α9)(x10:α10)(x11:α11)(x12:α12)(x13:α13)(x14:α14)(x15:α15)(x16:α16)(u:α1->α2->α3->α4->α5->α6->α7->α8->α9->α10->α11->α12->α13->α14->α15->α16->δ):δ:=u x1 x2 x3 x4 x5 x6 x7 x8 x9 x10 x11 x12 x13 x14 x15 x16
@[reducible] def L17{α1 α2 α3 α4 α5 α6 α7 α8 α9 α10 α11 α12 α13 α14 α15 α16 α17:Type}{δ:Type}(x1:α1)(x2:α2)(x3:α3)(x4:α4)(x5:α5)(x6:α6)(x7:α7)(x8:α8)(x9:α9)(x10:α10)(x11:α11)(x12:α12)(x13:α13)(x14:α14)(x15:α15)(x16:α16)(x17:α17)(u:α1->α2->α3->α4->α5->α6->α7->α8->α9->α10->α11->α12->α13->α14->α15->α16->α17->δ):δ:=u x1 x2 x3 x4 x5 x6 x7 x8 x9 x10 x11 x12 x13 x14 x15 x16 x17
@[reducible] def L18{α1 α2 α3 α4 α5 α6 α7 α8 α9 α10 α11 α12 α13 α14 α15 α16 α17 α18:Type}{δ:Type}(x1:α1)(x2:α2)(x3:α3)(x4:α4)(x5:α5)(x6:α6)(x7:α7)(x8:α8)(x9:α9)(x10:α10)(x11:α11)(x12:α12)(x13:α13)(x14:α14)(x15:α15)(x16:α16)(x17:α17)(x18:α18)(u:α1->α2->α3->α4->α5->α6->α7->α8->α9->α10->α11->α12->α13->α14->α15->α16->α17->α18->δ):δ:=u x1 x2 x3 x4 x5 x6 x7 x8 x9 x10 x11 x12 x13 x14 x15 x16 x17 x18
@[reducible] def L19{α1 α2 α3 α4 α5 α6 α7 α8 α9 α10 α11 α12 α13 α14 α15 α16 α17 α18 α19:Type}{δ:Type}(x1:α1)(x2:α2)(x3:α3)(x4:α4)(x5:α5)(x6:α6)(x7:α7)(x8:α8)(x9:α9)(x10:α10)(x11:α11)(x12:α12)(x13:α13)(x14:α14)(x15:α15)(x16:α16)(x17:α17)(x18:α18)(x19:α19)(u:α1->α2->α3->α4->α5->α6->α7->α8->α9->α10->α11->α12->α13->α14->α15->α16->α17->α18->α19->δ):δ:=u x1 x2 x3 x4 x5 x6 x7 x8 x9 x10 x11 x12 x13 x14 x15 x16 x17 x18 x19
@[reducible] def L20{α1 α2 α3 α4 α5 α6 α7 α8 α9 α10 α11 α12 α13 α14 α15 α16 α17 α18 α19 α20:Type}{δ:Type}(x1:α1)(x2:α2)(x3:α3)(x4:α4)(x5:α5)(x6:α6)(x7:α7)(x8:α8)(x9:α9)(x10:α10)(x11:α11)(x12:α12)(x13:α13)(x14:α14)(x15:α15)(x16:α16)(x17:α17)(x18:α18)(x19:α19)(x20:α20)(u:α1->α2->α3->α4->α5->α6->α7->α8->α9->α10->α11->α12->α13->α14->α15->α16->α17->α18->α19->α20->δ):δ:=u x1 x2 x3 x4 x5 x6 x7 x8 x9 x10 x11 x12 x13 x14 x15 x16 x17 x18 x19 x20
@[reducible] def L21{α1 α2 α3 α4 α5 α6 α7 α8 α9 α10 α11 α12 α13 α14 α15 α16 α17 α18 α19 α20 α21:Type}{δ:Type}(x1:α1)(x2:α2)(x3:α3)(x4:α4)(x5:α5)(x6:α6)(x7:α7)(x8:α8)(x9:α9)(x10:α10)(x11:α11)(x12:α12)(x13:α13)(x14:α14)(x15:α15)(x16:α16)(x17:α17)(x18:α18)(x19:α19)(x20:α20)(x21:α21)(u:α1->α2->α3->α4->α5->α6->α7->α8->α9->α10->α11->α12->α13->α14->α15->α16->α17->α18->α19->α20->α21->δ):δ:=u x1 x2 x3 x4 x5 x6 x7 x8 x9 x10 x11 x12 x13 x14 x15 x16 x17 x18 x19 x20 x21
@[reducible] def L22{α1 α2 α3 α4 α5 α6 α7 α8 α9 α10 α11 α12 α13 α14 α15 α16 α17 α18 α19 α20 α21 α22:Type}{δ:Type}(x1:α1)(x2:α2)(x3:α3)(x4:α4)(x5:α5)(x6:α6)(x7:α7)(x8:α8)(x9:α9)(x10:α10)(x11:α11)(x12:α12)(x13:α13)(x14:α14)(x15:α15)(x16:α16)(x17:α17)(x18:α18)(x19:α19)(x20:α20)(x21:α21)(x22:α22)(u:α1->α2->α3->α4->α5->α6->α7->α8->α9->α10->α11->α12->α13->α14->α15->α16->α17->α18->α19->α20->α21->α22->δ):δ:=u x1 x2 x3 x4 x5 x6 x7 x8 x9 x10 x11 x12 x13 x14 x15 x16 x17 x18 x19 x20 x21 x22
@[reducible] def L23{α1 α2 α3 α4 α5 α6 α7 α8 α9 α10 α11 α12 α13 α14 α15 α16 α17 α18 α19 α20 α21 α22 α23:Type}{δ:Type}(x1:α1)(x2:α2)(x3:α3)(x4:α4)(x5:α5)(x6:α6)(x7:α7)(x8:α8)(x9:α9)(x10:α10)(x11:α11)(x12:α12)(x13:α13)(x14:α14)(x15:α15)(x16:α16)(x17:α17)(x18:α18)(x19:α19)(x20:α20)(x21:α21)(x22:α22)(x23:α23)(u:α1->α2->α3->α4->α5->α6->α7->α8->α9->α10->α11->α12->α13->α14->α15->α16->α17->α18->α19->α20->α21->α22->α23->δ):δ:=u x1 x2 x3 x4 x5 x6 x7 x8 x9 x10 x11 x12 x13 x14 x15 x16 x17 x18 x19 x20 x21 x22 x23
@[reducible] def L24{α1 α2 α3 α4 α5 α6 α7 α8 α9 α10 α11 α12 α13 α14 α15 α16 α17 α18 α19 α20 α21 α22 α23 α24:Type}{δ:Type}(x1:α1)(x2:α2)(x3:α3)(x4:α4)(x5:α5)(x6:α6)(x7:α7)(x8:α8)(x9:α9)(x10:α10)(x11:α11)(x12:α12)(x13:α13)(x14:α14)(x15:α15)(x16:α16)(x17:α17)(x18:α18)(x19:α19)(x20:α20)(x21:α21)(x22:α22)(x23:α23)(x24:α24)(u:α1->α2->α3->α4->α5->α6->α7->α8->α9->α10->α11->α12->α13->α14->α15->α16->α17->α18->α19->α20->α21->α22->α23->α24->δ):δ:=u x1 x2 x3 x4 x5 x6 x7 x8 x9 x10 x11 x12 x13 x14 x15 x16 x17 x18 x19 x20 x21 x22 x23 x24
theorem AG{X:Cx}{c:Expr}{a b:List aS}{pos:Pos}{tc:TT}{O Y:TS}{K:U5}{J W:U5->TS}(hc:PT X c tc)(ha:PSs X a O)(hb:PSs X b Y)(e1:O=J K)(e2:Y=W K):PS X (.If c a b pos) (LV tc (Cl J K) (Cl W K)):=by
 subst e1;subst e2;exact QF hc ha hb
theorem Ba{X:Cx}{tg iter:Expr}{body:List aS}{wi:TI}{g:TG}{v:TS}{pos:Pos}{K:U5}{u:U5->TS}(O:PassesOwn (ao X.prog X.w) X.A X.env X.xe)(Y:X.calm=true)(hi:PI X tg iter wi)(J:PG X tg g)(W:PSs X body v)(e:v=u K)
 (hs:∀x,bi iter X.env x=pure x:=by intro _;rfl):PS X (.For tg iter body [] pos) (P4 wi g (Cl u K)):=by
 subst e;exact Pk O Y hi J W hs
theorem MZ{a b c d:Nat}(h1:a=c)(h2:b=d):((a:Int)-(b:Int)).toNat=c-d:=by rw[h1,h2];exact Int.toNat_sub c d
theorem Ee{a b:Nat}(h:a=b):((a:Int)-1).toNat=b-1:=MZ (b:=1) h rfl
theorem M8{a b c d:Nat}(h1:a=c)(h2:b=d)(_h:1<=d):((a:Int)+(b:Int)-1).toNat=c+d-1:=by
 rw[h1,h2,<- Int.natCast_add];exact Ee rfl
theorem MY{a b:Nat}(h:1<=b):((a:Int)+(b:Int)-1).toNat=a+b-1:=M8 rfl rfl h
theorem M7{a b m:Nat}(h1:a<=m)(h2:b<=m):((a:Int)+(b:Int)-1).toNat<=2*m:=by
 rw[<- Int.natCast_add,Ee rfl,Nat.two_mul];exact U6 (Nat.sub_le _ _) (Nat.add_le_add h1 h2)
theorem N0{a b i:Nat}(h:a=b)(hi:i<b):(a:Int)-1-(i:Int)=((b-1-i:Nat):Int):=by
 rw[h,Int.ofNat_sub (show i<=b-1 from Nat.le_pred_of_lt hi),Int.ofNat_sub (show 1<=b from UY (Uo i) hi)]
 rfl
theorem PL{b i:Nat}(hi:i<b):b-1-i<b:=UY (Nat.sub_le _ _) (Nat.sub_lt (UY (Uo i) hi) Nat.one_pos)
theorem Ol{a b:Nat}(h:a=b):((a:Int)-1 - -1).toNat=b:=by
 rw[h,Int.sub_neg,Int.sub_add_cancel];exact UM b
theorem Oo{a k m t b:Nat}(J:a<=200)(Y:k<m-1)(O:m=2\/m=3)(e:a=t):t+min k b<=204:=by
 rw[<- e]
 have W:k<=4:=by
  rcases O with rfl | rfl
  ·exact U6 (U7 Y) (by decide)
  ·exact U6 (U7 Y) (by decide)
 exact Nat.add_le_add J (U6 (Nat.min_le_left _ _) W)
theorem Om{a m:Nat}(Y:a<=200)(W:m=2\/m=3):a+(m-1)*1<=300:=by
 rcases W with rfl | rfl
 ·exact U6 (Wj Y _) (by decide)
 ·exact U6 (Wj Y _) (by decide)
theorem Oj{a m:Nat}(h:a=m)(Y:m=2\/m=3):((a:Int)-1).toNat<=2:=by
 rw[Ee h]
 rcases Y with rfl | rfl<;>decide
theorem PM{i j a b n:Nat}(hi:i<a)(Y:j<b)(h:n=a+b-1):i+j<n:=by
 rw[h];refine Nat.lt_sub_of_add_lt ?_;rw[Nat.add_right_comm];exact Nat.add_lt_add_of_le_of_lt hi Y
def Er(f:aa)(fd:ag):HO:=.ext fun h=>h.get? f=some { cls:=.type "function",data:=.func fd }
def EO(c:aa)(o:Obj):HO:=.ext fun h=>h.get? c=some o
def HI(c:aa)(q:Str):HO:=.ext fun h=>h.CodeRec (.ref c) q
def offC(cs:List aa)(H:Hp):Hp:=fun b=>if b∈cs then none else H b
def onC(cs:List aa)(H0 H:Hp):Hp:=fun b=>if b∈cs then H0 b else H b
theorem Ec{cs:List aa}{H:Hp}{b:aa}(h:b∈cs):offC cs H b=none:=if_pos h
theorem BV{cs:List aa}{H:Hp}{b:aa}(h:b∉cs):offC cs H b=H b:=if_neg h
theorem Fb{cs:List aa}{Y H:Hp}{b:aa}(h:b∈cs):onC cs Y H b=Y b:=if_pos h
theorem De{cs:List aa}{Y H:Hp}{b:aa}(h:b∉cs):onC cs Y H b=H b:=if_neg h
theorem Eb{cs:List aa}{H:Hp}{b:aa}(h:H b=none):offC cs H b=none:=by
 unfold offC;split
 ·rfl
 ·exact h
section
variable {P:ai}{w:ar}{fs cs:List aa}{H H':Hp}{h h':au}
theorem Un.onC(u:Un fs [] (offC cs H) H' h h')(hc:∀c∈cs,∃o,H c=some (EO c o)):Un fs [] H (onC cs H H') h h':=by
 have no:∀{b:aa} {o:HO},H b=some o->(∀c W,o≠EO c W)->b∉cs:=fun{b o} e J Y=>by
  obtain⟨W,q⟩:=hc b Y;rw[e]at q;exact J b W (TU.inj q)
 refine⟨fun b o e n Y O=>u.keep b o e (Eb n) Y O,fun b o e n Y O=>u.slot b o e (Eb n) Y O,fun b o e n O=>?_,u.there,fun b xs e=>?_,fun b o v e=>?_,fun b ps e=>?_⟩
 ·have Y:b∉cs:=fun z=>by obtain⟨W,q⟩:=hc b z;rw[n]at q;cases q
  rw[De Y];exact u.free b o e (Eb n) O
 ·have Y:=no e fun c W z=>by cases z
  rw[De Y];exact u.tups b xs (by rw[BV Y];exact e)
 ·have Y:=no e fun c W z=>by cases z
  rw[De Y];exact u.frzs b o v (by rw[BV Y];exact e)
 ·have Y:=no e fun c W z=>by cases z
  rw[De Y];exact u.tbls b ps (by rw[BV Y];exact e)
theorem HOk.onC(ok:HOk P w H h)(u:Un fs [] (offC cs H) H' h h')(Y:HOk P w H' h')(hc:∀c∈cs,∃o,H c=some (EO c o))(hn:∀c∈cs,H' c=none)(J:∀c∈cs,c∉fs):HOk P w (onC cs H H') h':=fun b o e=>by
 by_cases hb:b∈cs
 ·rw[Fb hb]at e;obtain⟨W,q⟩:=hc b hb;rw[q]at e;cases e;obtain⟨p,_,st⟩:=ok b _ q;have p':h.get? b=some W:=p;have k:=u.keep b W p' (Ec hb) (J b hb) (by simp)
  exact⟨k,⟨W,k⟩,st⟩
 ·rw[De hb]at e;have O:∀{c:aa} {v:HO},H' c=some v->c∉cs:=fun{c v} q z=>by rw[hn c z]at q;cases q
  exact(Y b o e).stay (fun _ _ _ q=>q) (fun c q=>by rw[De (O q)];exact q) fun c xs q=>by rw[De (O q)];exact q
theorem HOk.offC(ok:HOk P w H h)(hc:∀c∈cs,∃o,H c=some (EO c o)):HOk P w (offC cs H) h:=fun b o e=>by
 by_cases hb:b∈cs
 ·rw[Ec hb]at e;cases e
 ·rw[BV hb]at e
  have J:∀{c:aa} {v:HO},H c=some v->(∀d Y,v≠EO d Y)->c∉cs:=fun{c v} q W z=>by
   obtain⟨Y,O⟩:=hc c z;rw[q]at O;exact W c Y (TU.inj O)
  exact(ok b o e).stay (fun _ _ _ q=>q) (fun c q=>by rw[BV (J q fun d Y z=>by cases z)];exact q) fun c xs q=>by rw[BV (J q fun d Y z=>by cases z)];exact q
end
def Hm(CX:CXT)(P:ai)(w:ar)(K:U5)(mg:Str->Option ac)(base:au)(N:List Str)(qual:Str)(scope:aB)(f:aa)(cd:ac)(cl:List (Str×aa))(A:aw)(outer:List Env)(s:ae)(H:Hp)(E:XK):Cx where
 prog:=P
 w:=w
 K:=K
 mg:=mg
 base:=base
 A:=A.deeper (Wk qual scope s.heap.objs.size f cd cl)
 N:=N
 s₀:=s
 H₀:=H
 env:=Wk qual scope s.heap.objs.size f cd cl
 outer:=outer
 stack:=Wk qual scope s.heap.objs.size f cd cl::outer
 ex:=[]
 calm:=true
 fn:=fun _=>false
 pn:=[]
 xe:=fun e s'=>am (ao P w) (A.deeper (Wk qual scope s.heap.objs.size f cd cl)) (leaving (Wk qual scope s.heap.objs.size f cd cl) e) (fun _ s''=>CX outer H s E e s'') (fun e' s''=>CX outer H s E e' s'') s'
structure Ii(H:Hp)(scope:aB)(N ps:List Str)(cl:List (Str×aa))(σ:St)(vs:List V):Prop where
 kind:scope.kind = .function
 co:scope.isCoroutine=false
 gen:scope.isGenerator=false
 nocell:∀x∈scope.names,x.2 ≠ .cell
 par:∀p∈ps,scope.names.lookup p=some .local
 inj:∀x y c,cl.lookup x=some c->cl.lookup y=some c->x=y
 has:∀x,scope.names.lookup x=some .free->∃c,cl.lookup x=some c
 len:σ.length=N.length
 cel:∀p∈cl,∃(o:Obj) (v:Option ac),H p.2=some (EO p.2 o)/\o.data = .cell v
 val:∀(i:Nat) (x:Str) (v:V),N[i]? = some x->σ[i]? = some (some v) ->
  (scope.names.lookup x=some .local/\∃j:Nat,ps[j]? = some x/\vs[j]? = some v)\/(scope.names.lookup x=some .free/\∃c o u,cl.lookup x=some c/\H c=some (EO c o)/\o.data = .cell (some u)/\AR v u)
theorem Ii.cells{H:Hp}{scope:aB}{N ps:List Str}{cl:List (Str×aa)}{σ:St}{vs:List V}(S:Ii H scope N ps cl σ vs):∀c∈cl.map (·.2),∃o,H c=some (EO c o):=fun c W=>by
 obtain⟨p,Y,rfl⟩:=VU.mp W;obtain⟨o,v,e,_⟩:=S.cel p Y;exact⟨o,e⟩
theorem Lp{CX:CXT}{P:ai}{w:ar}{K:U5}{mg:Str->Option ac}{base:au}{N ps:List Str}{qual:Str}{scope:aB}{f:aa}{cd:ac}{cl:List (Str×aa)}{A:aw}{outer:List Env}{s:ae}{H:Hp}{E:XK}{us:List ac}{vs:List V}{σ:St}{h1:au}
 (S:Ii H scope N ps cl σ vs) (hd:A.handled=none) (W:K1 P w K mg base A outer s H) (r:AI vs us) (ak:∀(j:Nat) (x:Str) (u:ac),ps[j]? = some x->us[j]? = some u->(ps.zip us).reverse.lookup x=some u)
 (an:h1.Ns s.heap.objs.size fun x=>(ps.zip us).reverse.lookup x) (hk:∀b o,s.heap.get? b=some o->h1.get? b=some o) (tk:Nat) :
 Inv (Hm CX P w K mg base N qual scope f cd cl A outer s (offC (cl.map (·.2)) H) E) [] σ (offC (cl.map (·.2)) H) { s with heap:=h1,toks:=tk }:=by
 have ap:=S.cells;have J:=W.hok.offC ap;have O:∀b:aa,b∉(Hm CX P w K mg base N qual scope f cd cl A outer s (offC (cl.map (·.2)) H) E).ex:=fun b z=>absurd (show b∈([]:List aa) from z) (by simp)
 have al:∀{x:Str} {c:aa},cl.lookup x=some c->c∈cl.map (·.2):=fun h=>Wl (f:=(·.2)) (PySem.mem_of_lookup h)
 have Y:∀{x:Str} {c:aa},cl.lookup x=some c->∀o,H c=some (EO c o)->h1.get? c=some o:=fun{x c} h o q=>by
  obtain⟨p,_,_⟩:=W.hok c _ q;exact hk c o p
 refine⟨⟨W.mod,S.kind,Z,Z,Uk _,S.inj,fun y hy=>?_,fun y c h=>?_,fun _=>hd,Around.frames_deeper W.frames,.inr ⟨Z,Z⟩,fun b z=>absurd z (O b),fun b o e=>⟨(W.bs b o e).1,Eb (W.bs b o e).2⟩,W.bsz,fun b _ _=>O b,fun b z=>absurd z (O b),W.funs,fun b hb=>Eb (W.frf b hb)⟩,
  rfl,W.bare,Un.kept hk,⟨_,an,fun i y v h1 h2 h3=>?_⟩,fun y c h=>?_,J.fresh (Uk _),fun y c h=>Ec (al h),fun p hp=>absurd (show p∈([]:List (aa×Obj)) from hp) (by simp),J.kept hk,S.len⟩
 ·rcases hy with hy | hy
  ·exact absurd rfl (S.nocell _ (PySem.mem_of_lookup hy))
  ·exact S.has y hy
 ·cases h
 ·rcases S.val i y v h1 h2 with ⟨hl,j,hp,hv⟩ | ⟨hl,c,o,u,hc,ho,hd,rv⟩
  ·obtain⟨u,hu,rv⟩:=r.get hv;exact⟨u,rv,.inl ⟨hl,ak j y u hp hu⟩⟩
  ·exact⟨u,rv,.inr ⟨.inr hl,c,hc,o,Y hc o ho,hd⟩⟩
 ·obtain⟨o,v,ho,hd⟩:=S.cel (y,c) (PySem.mem_of_lookup h);exact⟨v,o,Y h o ho,hd⟩
theorem PX{CX:CXT}{P:ai}{w:ar}{K:U5}{mg:Str->Option ac}{base:au}{k:Nat}{f O:aa}{name qual:Str}{Y:aZ}{body:Expr}{scope:aB}{cl:List (Str×aa)}{pm as:ac}{N ps:List Str}{sp:Sp}
 (aC:∀vs H Q E,sp vs H Q E->vs.length=ps.length)
 (aF:∀us:List ac,us.length=ps.length->∀(j:Nat) (x:Str) (u:ac),ps[j]? = some x->us[j]? = some u->(ps.zip us).reverse.lookup x=some u)
 (ak:∀(A:aw) (outer:List Env) (s:ae) (H:Hp) (vs:List V) (Q:VK) (E:XK),BM k (A.deeper (Wk qual scope s.heap.objs.size f (.ref O) cl))->sp vs H Q E ->
  H f=some (Er f (Wm name qual Y body scope cl pm (.ref O) as))/\H O=some (HI O qual)/\∃σ,Ii H scope N ps cl σ vs /\
  ∃t,PE (Hm CX P w K mg base N qual scope f (.ref O) cl A outer s (offC (cl.map (·.2)) H) E) body t/\t σ (offC (cl.map (·.2)) H) (fun v H'=>(∀c∈cl.map (·.2),H' c=none)->Q v (onC (cl.map (·.2)) H H')) /\
  ∀e s',CX outer (offC (cl.map (·.2)) H) s E e s'->CX outer H s E e s') :
 Ay P w K mg base CX (k+1) f (Wm name qual Y body scope cl pm (.ref O) as) ps sp:=by
 refine⟨aC,fun A outer s H args us vs Q E hr e0 hb r ap=>?_⟩;have hl:=aC _ _ _ _ ap;obtain⟨hf,al,σ,S,t,ht,hq,an⟩:=ak A outer s H vs Q E (hr.deeper _) ap;have aP:s.heap.NoLimit:=e0.mod.nolimit.keeps fun b o e=>(e0.bs b o e).1;obtain⟨bc,_,_⟩:=e0.hok f _ hf;obtain⟨bb,_,_⟩:=e0.hok O _ al;have be:us.length=ps.length:=by rw[<- r.length];exact hl
 refine PySem.W.kla_callFunE hr.depth bc rfl S.co S.gen rfl bb (hb _ _ _ _ ?_);refine wpAny_newFunctionEnv S.nocell (fun y hy=>S.par _ (Uw hy).1) (fun h1 bd ba=>?_) S.kind;have hk:∀b o,s.heap.get? b=some o->h1.get? b=some o:=fun b o e=>ba.extBut b o (TZ (Heap.lt_size e)) (Heap.get?_push_of_some _ e);refine⟨aP.keeps hk,?_⟩;show aR _ _ (.expr body (Wk qual scope s.heap.objs.size f (.ref O) cl)) _ _;have I:=Lp (CX:=CX) (qual:=qual) (f:=f) (cd:=.ref O) (E:=E) S hr.hd e0 r (aF us be) bd hk (s.toks+(ps.zip us).length);refine PySem.W.kla_codeExpr (az (ht [] _ _ _ _ I hq) (fun u s' hs=>?_) fun e s' hs=>?_)
 ·obtain⟨v,H',J,rv,q⟩:=hs
  have hn:∀c∈cl.map (·.2),H' c=none:=fun c hc=>by
   obtain⟨p,hp,rfl⟩:=VU.mp hc;obtain⟨o,v,e,_⟩:=S.cel p hp;obtain⟨p',_,_⟩:=e0.hok _ _ e;exact J.base.free _ o p' (Ec hc) (by intro z;cases z)
  have ub:Un (frs outer) [] (offC (cl.map (·.2)) H) H' s.heap s'.heap:=J.base;refine⟨v,onC (cl.map (·.2)) H H',J.os,J.bare,Un.onC ub S.cells,HOk.onC e0.hok ub J.hok S.cells hn fun c hc hz=>?_,rv,q hn⟩;obtain⟨o,e⟩:=S.cells c hc;have z:H c=none:=e0.frf c hz;rw[z]at e;cases e
 ·exact az hs (fun _ a0 h=>an _ _ h) fun _ a0 h=>an _ _ h
section
variable {X:Cx}{CX:CXT}{k i:Nat}{E:XK}{x:Str}{p pos:Pos}{e:Expr}{es:List Expr}{t:TA}
theorem PZ{pins:List (aa×Obj)}{σ:St}{H:Hp}{s:ae}{f:aa}{fd:ag}(I:Inv X pins σ H s)(h:H f=some (Er f fd)):PySem.W.FnAt f s.heap:=by
 obtain⟨q,_,_⟩:=I.hok f _ h;exact⟨_,_,_,_,q⟩
end
def Di(cs:List aa)(os:aa->Obj)(H:Hp):Hp:=fun b=>if b∈cs then some (EO b (os b)) else H b
theorem Dd{cs:List aa}{Y:aa->Obj}{H:Hp}{b:aa}(h:b∈cs):Di cs Y H b=some (EO b (Y b)):=if_pos h
theorem BR{cs:List aa}{Y:aa->Obj}{H:Hp}{b:aa}(h:b∉cs):Di cs Y H b=H b:=if_neg h
structure Hq(env:Env)(cl:List (Str×aa)):Prop where
 sub:∀x c,(x,c)∈cl->env.cells.lookup x=some c
 inj:∀x y c,(x,c)∈cl->(y,c)∈cl->x=y
def K2(N:List Str)(σ:St)(sc:aB)(cl:List (Str×aa))(os:aa->Obj):Prop:=∀x c,(x,c)∈cl->(∃v,(os c).data = .cell v) /\
 ∀(i:Nat) (v:V),N[i]? = some x->σ[i]? = some (some v)->sc.names.lookup x=some .cell->∃u,(os c).data = .cell (some u)/\AR v u
theorem Hq.look{env:Env}{cl:List (Str×aa)}(C:Hq env cl){x:Str}{c:aa}(h:(x,c)∈cl):cl.lookup x=some c:=by
 cases e:cl.lookup x with
 | none =>
   have:=List.lookup_eq_none_iff.mp e (x,c) h;simp at this
 | some d =>
   have h2:=C.sub x d (PySem.mem_of_lookup e);rw[C.sub x c h]at h2;exact congrArg some (TU.inj h2).symm
def P6(env:Env)(N:List Str)(sp:Sp)(E:XK)(t:TA):TE:=fun σ H Q=>t σ H fun vs H1=>∃cl,Hq env cl/\∀os,(∀c∈cl.map (·.2),H1 c=none)->K2 N σ env.scope cl os ->
 sp vs (Di (cl.map (·.2)) os H1) (fun v H2=>(∀c∈cl.map (·.2),H2 c=some (EO c (os c)))/\Q v (offC (cl.map (·.2)) H2)) E
section
variable {X:Cx}{CX:CXT}{k:Nat}{f:aa}{fd:ag}{ps:List Str}{sp:Sp}{E:XK}{x:Str}{p pos:Pos}{e:Expr}{es:List Expr}{t:TA}
theorem KU{pins:List (aa×Obj)}{σ:St}{H:Hp}{s:ae}{Q:VK}{us:List ac}{vs:List V}{cl:List (Str×aa)}(F:Ay X.prog X.w X.K X.mg X.base CX k f fd ps sp)(hr:BM k X.A)(W:Bv X.K fd ps [])
 (be:∀y,X.fn y=true) (hx:∀(e:ac) (H':Hp) (s':ae),Inv X pins σ H s->CX X.stack H' s E e s'->X.xe e s') (I:Inv X pins σ H s) (r:AI vs us) (C:Hq X.env cl)
 (h:∀J,(∀c∈cl.map (·.2),H c=none)->K2 X.N σ X.env.scope cl J->sp vs (Di (cl.map (·.2)) J H) (fun v H2=>(∀c∈cl.map (·.2),H2 c=some (EO c (J c)))/\Q v (offC (cl.map (·.2)) H2)) E) :
 am (ao X.prog X.w) X.A (call (.ref f) us) (EP X pins σ Q) X.xe s:=by
 obtain⟨J,as⟩:∃J:aa->Obj,∀c∈cl.map (·.2),s.heap.get? c=some (J c)/\∃v,(J c).data = .cell v:=by
  refine⟨fun c=>(s.heap.get? c).getD { cls:=.none,data:=.plain },fun c O=>?_⟩;obtain⟨⟨y,c⟩,hp,rfl⟩:=VU.mp O;obtain⟨v,o,ho,hd⟩:=I.cell y c (C.sub y c hp);have e:((s.heap.get? c).getD { cls:=.none,data:=.plain })=o:=by rw[ho];rfl
  exact⟨by show s.heap.get? c=some ((s.heap.get? c).getD { cls:=.none,data:=.plain });rw[e];exact ho,v,by show((s.heap.get? c).getD { cls:=.none,data:=.plain }).data=_;rw[e];exact hd⟩
 have al:∀c∈cl.map (·.2),H c=none:=fun c O=>by
  obtain⟨⟨y,c⟩,hp,rfl⟩:=VU.mp O;exact I.freeC y c (C.sub y c hp)
 have aC:∀c∈cl.map (·.2),X.s₀.heap.objs.size<=c:=fun c O=>by
  obtain⟨⟨y,c⟩,hp,rfl⟩:=VU.mp O;exact I.ok.cab y c (be y) (C.sub y c hp)
 have aP:∀b∈frs X.stack,b∉cl.map (·.2):=fun b W O=>by
  rcases Ub.mp (I.stkSub b W) with z | z
  ·obtain⟨⟨y,c⟩,hp,e⟩:=VU.mp O;exact I.cne y c (C.sub y c hp) (by rw[<- z];exact e)
  ·obtain⟨_,o,ho,_⟩:=I.ok.funs.mem z;exact absurd (TX (Heap.lt_size ho) (aC b O)) (TY _)
 have bd:K2 X.N σ X.env.scope cl J:=fun y c hp=>by
  obtain⟨h1,v0,h2⟩:=as c (Wl (f:=(·.2)) hp);refine⟨⟨v0,h2⟩,fun i v hN bf hk=>?_⟩;obtain⟨m,hn,hl⟩:=I.loc;obtain⟨u,ru,lk⟩:=hl i y v hN bf (.inr (.inl hk))
  rcases lk with ⟨ba,_⟩ | ⟨_,c2,an,o,ho,hd⟩
  ·rw[show X.env.kindOf y=some .cell from hk]at ba;cases ba
  ·rw[C.sub y c hp]at an;cases an;rw[h1]at ho;cases ho;exact⟨u,hd,ru⟩
 have q:=h J al bd;have e0:=I.env0
 have aF:HOk X.prog X.w (Di (cl.map (·.2)) J H) s.heap:=fun b o e=>by
  by_cases W:b∈cl.map (·.2)
  ·rw[Dd W]at e;cases e;have g:=(as b W).1;exact⟨g,⟨_,g⟩,fun h1 h2 z st=>st _ z⟩
  ·rw[BR W]at e;have no:∀{c:aa} {v:HO},H c=some v->c∉cl.map (·.2):=fun{c v} q z=>by rw[al c z]at q;cases q
   exact(I.hok b o e).stay (fun _ _ _ q=>q) (fun c q=>by rw[BR (no q)];exact q) fun c xs q=>by rw[BR (no q)];exact q
 have eT:K1 X.prog X.w X.K X.mg X.base X.A X.stack s (Di (cl.map (·.2)) J H):=⟨e0.frames,e0.mod,fun b o e=>⟨(e0.bs b o e).1,by
  have W:b∉cl.map (·.2):=fun O=>absurd (TX (Heap.lt_size e) (U6 I.ok.bsz (aC b O))) (TY _);rw[BR W];exact(e0.bs b o e).2⟩,e0.bsz,e0.funs,fun b W=>by rw[BR (aP b W)];exact e0.frf b W,aF,e0.bare⟩
 have hl:us.length=ps.length:=by rw[<- r.length];exact F.len _ _ _ _ q
 have a0:=W s us I.kIn (by rw[Uu];exact hl)
 rw[Uu]at a0;refine wpAny_call (aK (F.run X.A X.stack s _ ⟨us,[]⟩ us vs _ E hr eT a0 r q) fun rr s' hq=>?_);cases rr with
 | error e=>exact hx e _ s' I hq
 | ok fl =>
   cases fl with
   | next=>exact False.elim hq
   | brk=>exact False.elim hq
   | cont=>exact False.elim hq
   | ret u =>
     obtain⟨v,H2,bc,bb,un,ap,rv,an,qv⟩:=hq;refine I.after ⟨v,offC (cl.map (·.2)) H2,bc,bb,⟨fun b o e n W ak=>?_,fun b o e n W ak=>?_,fun b o e n ak=>?_,un.there,fun b xs e=>?_,fun b o w' e=>?_,fun b pp e=>?_⟩,HOk.offC ap (fun c O=>⟨_,an c O⟩),rv,qv⟩
     ·by_cases Y:b∈cl.map (·.2)
      ·obtain⟨g,_,_⟩:=ap b _ (an b Y);have g':s'.heap.get? b=some (J b):=g;rw[(as b Y).1]at e;cases e;exact g'
      ·exact un.keep b o e (by rw[BR Y];exact n) W ak
     ·exact un.slot b o e (by rw[BR (aP b W)];exact n) W ak
     ·by_cases Y:b∈cl.map (·.2)
      ·exact Ec Y
      ·rw[BV Y];exact un.free b o e (by rw[BR Y];exact n) ak
     ·have Y:b∉cl.map (·.2):=fun z=>by rw[al b z]at e;cases e
      rw[BV Y];exact un.tups b xs (by rw[BR Y];exact e)
     ·have Y:b∉cl.map (·.2):=fun z=>by rw[al b z]at e;cases e
      rw[BV Y];exact un.frzs b o w' (by rw[BR Y];exact e)
     ·have Y:b∉cl.map (·.2):=fun z=>by rw[al b z]at e;cases e
      rw[BV Y];exact un.tbls b pp (by rw[BR Y];exact e)
end
section
variable {K:U5}{cs:List aa}{H H':Hp}
theorem Ae.trk{W:aa->Obj}(Y:∀c∈cs,H c=none):Ae H (Di cs W H):=fun b o e=>by
 have O:b∉cs:=fun z=>by rw[Y b z]at e;cases e
 rw[BR O];exact e
theorem Ae.untrk{O:aa->Obj}(s:Ae (Di cs O H) H')(W:∀c∈cs,H c=none):Ae H (offC cs H'):=fun b o e=>by
 have Y:b∉cs:=fun z=>by rw[W b z]at e;cases e
 rw[BV Y];exact s b o (by rw[BR Y];exact e)
end
def Bm(mg:Str->Option ac)(base:au):Prop:=∃bm ob,mg "__builtins__" = some (.ref bm)/\bm≠bA/\base.get? bm=some ob/\ob.cls = .type "module" /\ ob.dict=some bA/\ob.data = .plain
def BX(Pt:aa)(q:Str)(H:Hp):Prop:=∃ps:Array ac,H Pt=some (.tbl ps)/\TriplesOk ps.toList/\∀pos cv,bT pos ps.toList=some cv->∃c',cv = .ref c'/\H c'=some (HI c' q)
theorem HB{pos:Pos}{a b:Int}{c Y:ac}(l:List ac)(h:TriplesOk l)(e:bT pos (l++[aE a,aE b,c])=some Y):bT pos l=some Y\/Y=c:=by
 fun_induction TriplesOk l with
 | case1 =>
   simp only[List.nil_append,aE,bT]at e
   split at e
   ·exact .inr (TU.inj e).symm
   ·cases e
 | case2 a' t b' u x BD ih =>
   simp only[List.cons_append,bT]at e ⊢
   split at e
   ·rename_i W;rw[if_pos W];exact .inl e
   ·rename_i W;rw[if_neg W];exact ih h e
 | case3 l h1 h2=>exact h.elim
structure EM(H H':Hp)(Pt:aa)(q:Str)(f c':aa)(fd:ag):Prop where
 new:H f=none
 lam:H' f=some (Er f fd)
 cod:H' c'=some (HI c' q)
 tab:BX Pt q H'
 old:∀b o,b≠Pt->H b=some o->H' b=some o
def Qx(env:Env)(mg:Str->Option ac)(Pt:aa)(q:Str)(params:aZ)(body:Expr)(scope:aB):TE:=fun _ H Q=>BX Pt q H/\∀f c' cl ctv H',Hq env cl->(∀x∈scope.names,x.2 = .free->∃c,(x.1,c)∈cl) ->
 EM H H' Pt q f c' (Wm "<lambda>" q params body scope cl ((mg "__name__").getD .none) (.ref c') ctv)->Q (.ref f) H'
theorem Pq{X:Cx}{Y:aZ}{body:Expr}{scope:aB}{pos:Pos}{c Pt:aa}(hc:X.env.code = .ref c)(bh:Wn X.K c Pt=true)(bW:Bm X.mg X.base)
 (bt:defaultsOf Y X.env=([],[]):=by rfl) (be:∀x∈scope.names,x.2 = .free->X.env.kindOf x.1=some .cell\/X.env.kindOf x.1=some .free) :
 PE X (.Lambda Y body scope pos) (Qx X.env X.mg Pt (X.env.qual ++ "<lambda>") Y body scope):=by
 intro pins s σ H Q I h;obtain⟨⟨ps,hP,ht,an⟩,h⟩:=h;have bb:s.heap.get? Pt=some (Wo ps):=I.hok Pt _ hP;have bc:∀x∈scope.names,x.2 = .free->∃c,X.env.cells.lookup x.1=some c:=fun x hx hf=>I.ok.has _ (be x hx hf);obtain⟨cl,e1,h1,_,h3⟩:=DO scope.names [] bc
 have bl:closureFor scope X.env=pure cl:=by
  unfold closureFor;simp only[bind_pure];exact e1
 have C:Hq X.env cl:=⟨fun x c hp=>by
  rcases h1 _ hp with z | z
  ·exact nomatch z
  ·exact z,fun x y c hx hy=>I.ok.inj x y c (by
   rcases h1 _ hx with z | z
   ·exact nomatch z
   ·exact z) (by
   rcases h1 _ hy with z | z
   ·exact nomatch z
   ·exact z)⟩
 have ba:s.heap.Ns aj X.mg:=I.mod.glob.keeps I.bk;obtain⟨bm,ob,b1,b2,b3,b4,b5,b6⟩:=bW;have as:s.heap.get? bm=some ob:=I.bk _ _ b3
 have b0:aj≠Pt:=fun q=>by
  obtain⟨o,es,ep,e,hd,_⟩:=ba;rw[q,bb]at e;cases e;cases hd
 have bB:bm≠Pt:=fun q=>by rw[q,bb]at as;cases as;cases b4
 have bF:bm≠aj:=fun q=>by
  obtain⟨o,es,ep,e,hd,_⟩:=ba;rw[q,e]at as;cases as;rw[hd]at b6;cases b6
 refine PySem.W.kla_eval bt ?_;have hB:s.heap.BuiltinsAt X.mg Pt:=⟨bm,ob,b1,b2,bF,bB,as,b4,b5,b6⟩;cases hf:bT pos ps.toList with
 | none =>
   refine PySem.W.kla_makeFunction (mg:=X.mg) bl I.ok.glob ba hc (Wq I.kIn bh) bb ht hf b0 hB fun O ak h' tk hx bd bp bu bg=>?_;have bq:H O=none:=I.hok.fresh bd;have hsz:s.heap.objs.size<=h'.objs.size:=U6 bd (U7 bp);have ap:H h'.objs.size=none:=I.hok.fresh hsz;have bZ:O≠h'.objs.size:=TZ bp;have bN:Pt≠O:=Av hP bq;have bx:Pt≠h'.objs.size:=Av hP ap;have a0:∀b,b≠Pt->b≠O->b≠h'.objs.size->upd (upd (upd H Pt (.tbl (ps ++ #[aE pos.line,aE pos.col,.ref O]))) O (HI O (X.env.qual ++ "<lambda>"))) h'.objs.size (Er h'.objs.size (Wm "<lambda>" (X.env.qual ++ "<lambda>") Y body scope cl ((X.mg "__name__").getD .none) (.ref O) ak)) b=H b:=fun b n1 n2 n3=>by rw[Am n3,Am n2,Am n1]
   have aP:upd (upd (upd H Pt (.tbl (ps ++ #[aE pos.line,aE pos.col,.ref O]))) O (HI O (X.env.qual ++ "<lambda>"))) h'.objs.size (Er h'.objs.size (Wm "<lambda>" (X.env.qual ++ "<lambda>") Y body scope cl ((X.mg "__name__").getD .none) (.ref O) ak)) Pt=some (.tbl (ps ++ #[aE pos.line,aE pos.col,.ref O])):=by rw[Am bx,Am bN];exact Aa
   have aC:upd (upd (upd H Pt (.tbl (ps ++ #[aE pos.line,aE pos.col,.ref O]))) O (HI O (X.env.qual ++ "<lambda>"))) h'.objs.size (Er h'.objs.size (Wm "<lambda>" (X.env.qual ++ "<lambda>") Y body scope cl ((X.mg "__name__").getD .none) (.ref O) ak)) O=some (HI O (X.env.qual ++ "<lambda>")):=by rw[Am bZ];exact Aa
   have aF:upd (upd (upd H Pt (.tbl (ps ++ #[aE pos.line,aE pos.col,.ref O]))) O (HI O (X.env.qual ++ "<lambda>"))) h'.objs.size (Er h'.objs.size (Wm "<lambda>" (X.env.qual ++ "<lambda>") Y body scope cl ((X.mg "__name__").getD .none) (.ref O) ak)) h'.objs.size=some (Er h'.objs.size (Wm "<lambda>" (X.env.qual ++ "<lambda>") Y body scope cl ((X.mg "__name__").getD .none) (.ref O) ak)):=Aa;generalize upd (upd (upd H Pt (.tbl (ps ++ #[aE pos.line,aE pos.col,.ref O]))) O (HI O (X.env.qual ++ "<lambda>"))) h'.objs.size (Er h'.objs.size (Wm "<lambda>" (X.env.qual ++ "<lambda>") Y body scope cl ((X.mg "__name__").getD .none) (.ref O) ak))=H' at a0 aP aC aF;have al:∀b o,b≠Pt->H b=some o->H' b=some o:=fun b o n e=>by rw[a0 b n (Av e bq) (Av e ap)];exact e
   have bn:∀{b:aa} {o:Obj},s.heap.get? b=some o->b≠O/\b≠h'.objs.size:=fun e=>⟨TZ (TX (Heap.lt_size e) bd),TZ (TX (Heap.lt_size e) hsz)⟩;have kp:∀b o,b≠Pt->s.heap.get? b=some o->(h'.push (Wr "<lambda>" (X.env.qual ++ "<lambda>") Y body scope cl ((X.mg "__name__").getD .none) O ak)).get? b=some o:=fun b o n e=>Heap.get?_push_of_some _ (hx b o n e);have nP:∀{b:aa},H b=none->b≠Pt:=fun n z=>by rw[z,hP]at n;cases n
   refine I.after ⟨.ref h'.objs.size,H',Z,I.bare,⟨fun b o e n _ _=>kp b o (nP n) e,fun b o e n _ _=>⟨o.slots,kp b o (nP n) e⟩,fun b o e n _=>by rw[a0 b (nP n) (bn e).1 (bn e).2];exact n,fun b o e _=>?_,fun b xs e=>al b _ (fun z=>by rw[z,hP]at e;cases e) e,fun b o u e=>al b _ (fun z=>by rw[z,hP]at e;cases e) e,fun b pp e=>?_⟩,fun b o e=>?_,rfl,?_⟩
   ·by_cases n:b=Pt
    ·subst n;exact⟨_,Heap.get?_push_of_some _ bg⟩
    ·exact⟨o,kp b o n e⟩
   ·by_cases n:b=Pt
    ·subst n;rw[hP]at e;cases e;exact⟨_,aP⟩
    ·exact⟨#[],by rw[al b _ n e];simp⟩
   ·by_cases n3:b=h'.objs.size
    ·subst n3;rw[aF]at e;cases e;have g:(h'.push (Wr "<lambda>" (X.env.qual ++ "<lambda>") Y body scope cl ((X.mg "__name__").getD .none) O ak)).get? h'.objs.size=some (Wr "<lambda>" (X.env.qual ++ "<lambda>") Y body scope cl ((X.mg "__name__").getD .none) O ak):=Heap.get?_push_size _ rfl;exact⟨g,⟨_,g⟩,fun h1 h2 z st=>st _ z⟩
    ·by_cases n2:b=O
     ·subst n2;rw[aC]at e;cases e;obtain⟨c2,oc,vs,t,e2,bC,hd,hv⟩:=bu;cases e2;have g:=Heap.get?_push_of_some (Wr "<lambda>" (X.env.qual ++ "<lambda>") Y body scope cl ((X.mg "__name__").getD .none) b ak) bC;exact⟨⟨_,oc,vs,t,Z,g,hd,hv⟩,⟨_,g⟩,fun h1 h2 ⟨c3,bD,bX,t3,e3,bf,bG,bw⟩ st=>by cases e3;exact⟨_,bD,bX,t3,Z,st _ bf,bG,bw⟩⟩
     ·by_cases n1:b=Pt
      ·subst n1;rw[aP]at e;cases e;show(h'.push _).get? b=some _;exact Heap.get?_push_of_some _ bg
      ·rw[a0 b n1 n2 n3]at e
       exact(I.hok b o e).stay (fun d u hd q=>kp d u (fun z=>by
        rcases hd with hd | hd
        ·exact n1 (by rw[<- hd];exact z)
        ·rw[z,hP]at hd;cases hd) q) (fun d q=>al d _ (fun z=>by rw[z,hP]at q;cases q) q) fun d xs q=>al d _ (fun z=>by rw[z,hP]at q;cases q) q
   ·refine h h'.objs.size O cl ak H' C h3 ⟨ap,aF,aC,⟨_,aP,?_,fun pos' cv q=>?_⟩,al⟩
    ·rw[Ws];exact TriplesOk_snoc _ _ _ _ ht
    ·rw[Ws]at q
     rcases HB _ ht q with z | z
     ·obtain⟨c2,e2,k2⟩:=an pos' cv z;exact⟨c2,e2,al c2 _ (fun z=>by rw[z,hP]at k2;cases k2) k2⟩
     ·exact⟨O,z,aC⟩
 | some cv =>
   obtain⟨O,rfl,bY⟩:=an pos cv hf;refine PySem.W.kla_makeFunctionHit (mg:=X.mg) bl I.ok.glob ba hc (Wq I.kIn bh) bb ht hf hB fun ak h' tk hk hsz=>?_;have ap:H h'.objs.size=none:=I.hok.fresh hsz
   have J:=I.laid (t':=tk) (h':=h'.push { cls:=.type "function",data:=.func (Wm "<lambda>" (X.env.qual ++ "<lambda>") Y body scope cl ((X.mg "__name__").getD .none) (.ref O) ak) }) (a:=h'.objs.size) (o:=Er h'.objs.size (Wm "<lambda>" (X.env.qual ++ "<lambda>") Y body scope cl ((X.mg "__name__").getD .none) (.ref O) ak)) (fun b ob q=>Heap.get?_push_of_some _ (hk b ob q)) hsz (by
    have g:(h'.push { cls:=.type "function",data:=.func (Wm "<lambda>" (X.env.qual ++ "<lambda>") Y body scope cl ((X.mg "__name__").getD .none) (.ref O) ak) }).get? h'.objs.size=some { cls:=.type "function",data:=.func (Wm "<lambda>" (X.env.qual ++ "<lambda>") Y body scope cl ((X.mg "__name__").getD .none) (.ref O) ak) }:=Heap.get?_push_size _ rfl;exact⟨g,⟨_,g⟩,fun h1 h2 z st=>st _ z⟩)
   have al:∀b o,H b=some o->upd H h'.objs.size (Er h'.objs.size (Wm "<lambda>" (X.env.qual ++ "<lambda>") Y body scope cl ((X.mg "__name__").getD .none) (.ref O) ak)) b=some o:=fun b o e=>by rw[Am (Av e ap)];exact e
   exact⟨.ref h'.objs.size,_,J,Z,h _ O cl ak _ C h3 ⟨ap,Aa,al _ _ bY,⟨ps,al _ _ hP,ht,fun pos' cv q=>by
    obtain⟨c2,e2,k2⟩:=an pos' cv q;exact⟨c2,e2,al _ _ k2⟩⟩,fun b o _ e=>al b o e⟩⟩
theorem EI{X:Cx}{n k:Nat}{x:Str}{ps:List Str}{sp:Sp}{e:Expr}{es:List Expr}{t:TA}{p pos:Pos}(F:Fd X.prog X.w X.K X.mg X.base n x ps sp)(hr:BM k X.A)(hg:Gl X x)(ha:PA X (e::es) t)(J:∀y,X.fn y=true:=by intro _;rfl)(hn:n<=k:=by decide)
 (O:(x == ("__debug__" : Str))=false:=by decide) (he:aq (e::es) X.env=(false,aD e X.env)::aq es X.env:=by rfl) (Y:(aN pos (aq es X.env)).any (·.1)=false:=by rfl) :
 PE X (.Call (.Name x p) (e::es) [] pos) (P6 X.env X.N sp E0 t):=by
 obtain⟨f,fd,F1,F2,F3,F4⟩:=F.ex;intro pins s σ H Q I h;refine aG (Fl I hg F4 ?_ O);refine PySem.W.callWith_K (h₀:=X.base) I.ok.mod.kin F3 (thn (ha pos pins s σ H _ I h) fun us s1 ⟨vs,H1,I1,r,cl,C,q⟩=>⟨I1.kIn,?_⟩) he Y;exact KU F1 (hr.mono hn) F2 J (fun _ _ _ _ z=>z.elim) I1 r C q
def Dh(K:U5)(f Pt:aa):Bool:=match K.lookup f with
 | some ⟨_,_,.func fd,_⟩=>(match fd.code with | .ref c=>Wn K c Pt | _=>false)
 | _=>false
theorem Fun.okL{P:ai}{w:ar}{K:U5}{mg:Str->Option ac}{base:au}{x qual:Str}{st:aS}{f Pt:aa}{fd:ag}{N ps:List Str}{k:Nat}{sp:Sp}(F:Fun K x qual st f fd)(W:Dh K f Pt=true)(S:Ao N ps (Af st))(J:∀vs H Q E,sp vs H Q E->vs.length=ps.length)
 (Y:∀(c:aa) (A:aw) (outer:List Env) (s:ae) (H:Hp) (vs:List V) (Q:VK) (E:XK),Wn K c Pt=true->BM k (A.deeper (envOfC qual (Af st) s.heap.objs.size f (.ref c)))->sp vs H Q E ->
  ∃t,PSs (Ft CX0 P w K mg base N qual (Af st) f (.ref c) A outer s H E).nox (Bf st) t/\t { nx:=fun _ H'=>Q .non H',rt:=Q } (Et N vs) H):Ay P w K mg base CX0 (k+1) f fd ps sp:=by
 obtain⟨oc,od,kV,ap,pm,an,O,ct,as,rfl,lk,ak⟩:=F.ex;refine Nk lk ak S J fun A outer s H vs Q E hr al=>?_;unfold Dh at W;rw[lk]at W;cases O with
 | ref c =>
   obtain⟨t,h,q⟩:=Y c A outer s H vs Q E W hr al;exact⟨t,h.nox,q⟩
 | _=>cases W
def Lm(sc scope:aB):Bool:=scope.names.all fun x=>decide (x.2 ≠ .free)||decide (sc.names.lookup x.1=some .cell)
theorem D0{X:Cx}{Y:aZ}{body:Expr}{scope sc:aB}{pos:Pos}{c Pt:aa}(ak:Wn X.K c Pt=true)(O:Bm X.mg X.base)(hc:X.env.code = .ref c:=by rfl)(hs:X.env.scope=sc:=by rfl)(hf:Lm sc scope=true:=by decide +kernel)
 (W:defaultsOf Y X.env=([],[]):=by rfl):PE X (.Lambda Y body scope pos) (Qx X.env X.mg Pt (X.env.qual ++ "<lambda>") Y body scope) :=
 Pq hc ak O W fun x hx J=>.inl (by
  unfold Lm at hf;have h:=Vr.mp hf x hx;rw[Bool.or_eq_true,decide_eq_true_eq,decide_eq_true_eq]at h
  rcases h with h | h
  ·exact absurd J h
  ·show X.env.scope.names.lookup x.1=_;rw[hs];exact h)
def spT(ps:List Str)(Pre:List V->Prop)(Ans:List V->V->Hp->Prop)(H0:Hp):Sp:=fun vs H Q _=>vs.length=ps.length/\Pre vs/\Ae H0 H/\∀r H',Ae H H'->Ans vs r H'->Q r H'
structure Tells(P:ai)(w:ar)(K:U5)(mg:Str->Option ac)(base:au)(k:Nat)(H:Hp)(f:aa)(ps:List Str)(Pre:List V->Prop)(Ans:List V->V->Hp->Prop):Prop where
 ex:∃fd,Ay P w K mg base CX0 k f fd ps (spT ps Pre Ans H)/\Bv K fd ps []/\H f=some (Er f fd)
inductive Cap(sc scope:aB)(N:List Str)(σ:St):List Str->List V->Prop
 | nil:Cap sc scope N σ [] []
 | cons {y:Str} {v:V} {fr:List Str} {ws:List V} (i:Nat) (h1:scope.names.lookup y=some .free) (h2:sc.names.lookup y=some .cell) (hN:N[i]? = some y) (hσ:σ[i]? = some (some v)) (t:Cap sc scope N σ fr ws):Cap sc scope N σ (y::fr) (v::ws)
theorem Cap.length{sc scope:aB}{N:List Str}{σ:St}{fr:List Str}{ws:List V}(h:Cap sc scope N σ fr ws):fr.length=ws.length:=by
 induction h with
 | nil=>rfl
 | cons i h1 h2 hN hσ t ih=>exact congrArg (· + 1) ih
theorem Cap.get{sc scope:aB}{N:List Str}{σ:St}{fr:List Str}{ws:List V}(h:Cap sc scope N σ fr ws):∀{j:Nat} {y:Str} {v:V},fr[j]? = some y->(ws.map some)[j]? = some (some v)->scope.names.lookup y=some .free/\sc.names.lookup y=some .cell/\∃i:Nat,N[i]? = some y/\σ[i]? = some (some v):=by
 induction h with
 | nil=>intro j y v e;cases e
 | cons i h1 h2 hN hσ t ih =>
   intro j y v e1 Y;cases j with
   | zero=>cases e1;cases Y;exact⟨h1,h2,i,hN,hσ⟩
   | succ j=>exact ih e1 Y
structure NT(scope:aB)(ps:List Str):Prop where
 kind:scope.kind = .function
 co:scope.isCoroutine=false
 gen:scope.isGenerator=false
 nocell:(scope.names.all fun x=>decide (x.2 ≠ .cell))=true
 par:(ps.all fun p=>decide (scope.names.lookup p=some .local))=true
theorem JG{env:Env}{N:List Str}{σ:St}{scope:aB}{cl:List (Str×aa)}{O:aa->Obj}{H2 H':Hp}{ps fr:List Str}{vs ws:List V}(S:NT scope ps)(C:Hq env cl)(W:∀x∈scope.names,x.2 = .free->∃c,(x.1,c)∈cl)
 (J:K2 N σ env.scope cl O) (al:Cap env.scope scope N σ fr ws) (hl:vs.length=ps.length) (hm:Ae (Di (cl.map (·.2)) O H2) H'):Ii H' scope (ps++fr) ps cl (vs.map some++ws.map some) vs:=by
 have ap:∀{x:Str} {c:aa},(x,c)∈cl->c∈cl.map (·.2):=fun h=>Wl (f:=(·.2)) h;have an:∀{x:Str} {c:aa},(x,c)∈cl->H' c=some (EO c (O c)):=fun h=>hm _ _ (Dd (ap h));refine⟨S.kind,S.co,S.gen,fun x hx=>?_,fun p hp=>?_,fun x y c h1 h2=>C.inj x y c (PySem.mem_of_lookup h1) (PySem.mem_of_lookup h2),fun x hx=>?_,?_,fun p hp=>?_,fun i x v hN Y=>?_⟩
 ·exact of_decide_eq_true (Vr.mp S.nocell x hx)
 ·exact of_decide_eq_true (Vr.mp S.par p hp)
 ·obtain⟨c,hc⟩:=W _ (PySem.mem_of_lookup hx) rfl;exact⟨c,C.look hc⟩
 ·rw[UH,UH,UI,UI,hl,al.length]
 ·obtain⟨⟨v,hv⟩,_⟩:=J p.1 p.2 hp;exact⟨O p.2,v,an (x:=p.1) hp,hv⟩
 ·by_cases hi:i<ps.length
  ·rw[UB hi]at hN;rw[UB (by rw[UI,hl];exact hi),UC]at Y
   refine .inl ⟨of_decide_eq_true (Vr.mp S.par x (UG hN)),i,hN,?_⟩;cases e:vs[i]? with
   | none=>rw[e]at Y;cases Y
   | some u=>rw[e]at Y;cases Y;rfl
  ·have ak:ps.length<=i:=Nat.le_of_not_lt hi;rw[Uz ak]at hN;rw[Uz (by rw[UI,hl];exact ak),UI,hl]at Y
   obtain⟨h1,h2,j,hj,hs⟩:=al.get hN Y;obtain⟨c,hc⟩:=W _ (PySem.mem_of_lookup h1) rfl;obtain⟨_,hv⟩:=J x c hc;obtain⟨u,hu,r⟩:=hv j v hj hs h2;exact .inr ⟨h1,c,O c,u,C.look hc,an hc,hu,r⟩
theorem lk1(p:Str)(us:List ac)(h:us.length=[p].length)(j:Nat)(x:Str)(u:ac)(h1:[p][j]? = some x)(h2:us[j]? = some u):([p].zip us).reverse.lookup x=some u:=by
 obtain⟨a,r,rfl,l1⟩:=BK h;cases Wi.mp l1;cases j with
 | zero=>cases h1;cases h2;show(match p == p with | true=>some u | false=>none)=some u;rw[beq_self_eq_true]
 | succ j=>cases h1
theorem lk0(us:List ac)(h:us.length=([]:List Str).length)(j:Nat)(x:Str)(u:ac)(h1:([]:List Str)[j]? = some x)(h2:us[j]? = some u):(([]:List Str).zip us).reverse.lookup x=some u:=by cases h1
theorem Md{K:U5}{fd:ag}{p:Str}(h:∀a:ac,aT fd ⟨[a],[]⟩=pure [(p,a)]):Bv K fd [p] []:=.all fun us Y=>by
 obtain⟨a1,r1,rfl,l1⟩:=BK Y;cases Wi.mp l1;exact h a1
def Br(Pt:aa)(H H':Hp):Prop:=∀b o,b≠Pt->H b=some o->H' b=some o
theorem Br.trans{Pt:aa}{H H' Y:Hp}(a:Br Pt H H')(b:Br Pt H' Y):Br Pt H Y:=fun c o n e=>b c o n (a c o n e)
theorem Ae.b{Pt:aa}{H H':Hp}(a:Ae H H'):Br Pt H H':=fun b o _ e=>a b o e
theorem BX.same{Pt:aa}{q:Str}{H H':Hp}(h:BX Pt q H)(m:Ae H H'):BX Pt q H':=by
 obtain⟨ps,e,t,c⟩:=h;refine⟨ps,m _ _ e,t,fun pos W z=>?_⟩;obtain⟨J,O,Y⟩:=c pos W z;exact⟨J,O,m _ _ Y⟩
section
variable {K:U5}{Pt:aa}{q:Str}{H H':Hp}
theorem SqT.but{r:aa}{xs:List V}(h:SqT K H r xs)(c:BX Pt q H)(m:Br Pt H H'):SqT K H' r xs:=by
 obtain⟨ps,e,_⟩:=c;have Y:∀{b:aa} {o:HO},H b=some o->(∀p,o ≠ .tbl p)->b≠Pt:=fun z n y=>by rw[y,e]at z;exact n _ (TU.inj z).symm
 rcases h with (h | ⟨o,h⟩) | h
 ·exact .inl (.inl (m _ _ (Y h fun p z=>by cases z) h))
 ·exact .inl (.inr ⟨o,m _ _ (Y h fun p z=>by cases z) h⟩)
 ·exact .inr h
theorem AD.but{x:V}{y:Rat}(h:AD K H x y)(c:BX Pt q H)(m:Br Pt H H'):AD K H' x y:=let ⟨r,e,h⟩:=h;⟨r,e,h.but c m⟩
theorem Crv.but{r:aa}{qs:List Rat}(h:Crv K H r qs)(c:BX Pt q H)(m:Br Pt H H'):Crv K H' r qs:=let ⟨xs,a,b⟩:=h;⟨xs,a.but c m,Paired.mapP b fun _ _ z=>z.but c m⟩
end
theorem IX{K:U5}{Y:List aa}{b:aa}(h:Y=K.map (·.1))(n:Y.contains b=false):K.lookup b=none:=by
 subst h;refine List.lookup_eq_none_iff.mpr fun p W=>?_;have z:b∉K.map (·.1):=fun O=>by rw[List.contains_iff_mem.mpr O]at n;cases n
 rw[bne_iff_ne];exact fun e=>z (by rw[e];exact Wl (f:=(·.1)) W)
theorem FV{K:U5}{f Pt:aa}(h:Dh K f Pt=true):∃c,Wn K c Pt=true:=by
 unfold Dh at h
 split at h
 ·split at h
  ·exact⟨_,h⟩
  ·cases h
 ·cases h
section
variable {P:ai}{w:ar}{K:U5}{mg:Str->Option ac}{base:au}{N:List Str}{qual:Str}{scope:aB}{f:aa}{cd:ac}{cl:List (Str×aa)}{A:aw}{outer:List Env}{s:ae}{H:Hp}{E:XK}
theorem GS:EL (CX1 P w) (Hm (CX1 P w) P w K mg base N qual scope f cd cl A outer s H E) E:=by
 rintro pins σ H1 s1 e s2 I ⟨ea,cls,a0,B,H',rfl,os,Y,un,ak,O,k1,k2,hE⟩;refine wpAny_leaves_onW (base:=B) (outer:=outer) I.ok.frames rfl O fun h' W us=>?_;have J:=I.flown (toks:=s2.toks) un ak os Y O.1 k1 k2 W.1 (Inv.slots O.2.2.1 us);refine⟨ea,cls,a0,B,H',Z,os.trans I.os,Y,J.base,J.hok,W,fun b o e n=>?_,k2,hE⟩;obtain⟨o1,q⟩:=I.base.there b o e (fun z=>nomatch z);refine k1 b o1 q fun z=>?_
 rcases Ub.mp (I.stkSub b z) with e1 | z
 ·exact TZ (TX (Heap.lt_size e) I.ok.above) e1
 ·exact n z
end
theorem Nw{P:ai}{w:ar}{K:U5}{mg:Str->Option ac}{base:au}{A:aw}{outer:List Env}{s s':ae}{H:Hp}{cs:List aa}{E E':XK}{e:ac}(e0:K1 P w K mg base A outer s H)(hc:∀c∈cs,∃o,H c=some (EO c o))
 (hE:∀cls x H',(∀c∈cs,H' c=none)->E' cls x H'->E cls x (onC cs H H')) (h:CX1 P w outer (offC cs H) s E' e s'):CX1 P w outer H s E e s':=by
 obtain⟨ea,cls,a0,B,H',rfl,os,O,J,al,ak,k1,k2,q⟩:=h
 have W:∀c∈cs,∃o,s.heap.get? c=some o/\c∉frs outer:=fun c Y=>by
  obtain⟨o,z⟩:=hc c Y;obtain⟨p,_,_⟩:=e0.hok c _ z;refine⟨o,p,fun y=>?_⟩;rw[e0.frf c y]at z;cases z
 have hn:∀c∈cs,H' c=none:=fun c Y=>by
  obtain⟨o,p,_⟩:=W c Y;exact J.free c o p (Ec Y) (by intro z;cases z)
 refine⟨ea,cls,a0,B,onC cs H H',Z,os,O,Un.onC J hc,HOk.onC e0.hok J al hc hn fun c Y=>?_,ak,k1,fun b u z=>?_,hE cls none H' hn q⟩
 ·obtain⟨o,_,nf⟩:=W c Y;exact nf
 ·by_cases hb:b∈cs
  ·obtain⟨o,p,nf⟩:=W b hb;exact k1 b o p nf
  ·rw[De hb]at z;exact k2 b u z
theorem Ou{P:ai}{w:ar}{K:U5}{mg:Str->Option ac}{base:au}{k:Nat}{f c':aa}{name qual:Str}{Y:aZ}{body:Expr}{scope:aB}{cl:List (Str×aa)}{pm ap:ac}{N ps:List Str}{sp:Sp}
 (as:∀vs H Q E,sp vs H Q E->vs.length=ps.length)
 (aC:∀us:List ac,us.length=ps.length->∀(j:Nat) (x:Str) (u:ac),ps[j]? = some x->us[j]? = some u->(ps.zip us).reverse.lookup x=some u)
 (ak:∀(A:aw) (outer:List Env) (s:ae) (H:Hp) (vs:List V) (Q:VK) (E:XK),BM k (A.deeper (Wk qual scope s.heap.objs.size f (.ref c') cl))->sp vs H Q E ->
  H f=some (Er f (Wm name qual Y body scope cl pm (.ref c') ap))/\H c'=some (HI c' qual)/\∃σ,Ii H scope N ps cl σ vs /\
  ∃t E',PE (Hm (CX1 P w) P w K mg base N qual scope f (.ref c') cl A outer s (offC (cl.map (·.2)) H) E') body t/\t σ (offC (cl.map (·.2)) H) (fun v H'=>(∀c∈cl.map (·.2),H' c=none)->Q v (onC (cl.map (·.2)) H H')) /\
  ∀cls x H',(∀c∈cl.map (·.2),H' c=none)->E' cls x H'->E cls x (onC (cl.map (·.2)) H H')) :
 Ay P w K mg base (CX1 P w) (k+1) f (Wm name qual Y body scope cl pm (.ref c') ap) ps sp:=by
 refine⟨as,fun A outer s H args us vs Q E hr O hb r an=>?_⟩;have hl:=as _ _ _ _ an;obtain⟨hf,al,σ,S,t,E',ht,hq,hE⟩:=ak A outer s H vs Q E (hr.deeper _) an;have aF:s.heap.NoLimit:=O.mod.nolimit.keeps fun b o e=>(O.bs b o e).1;obtain⟨bb,_,_⟩:=O.hok f _ hf;obtain⟨ba,_,_⟩:=O.hok c' _ al;have bd:us.length=ps.length:=by rw[<- r.length];exact hl
 refine PySem.W.kla_callFunE hr.depth bb rfl S.co S.gen rfl ba (hb _ _ _ _ ?_);refine wpAny_newFunctionEnv S.nocell (fun y hy=>S.par _ (Uw hy).1) (fun h1 bc a0=>?_) S.kind;have hk:∀b o,s.heap.get? b=some o->h1.get? b=some o:=fun b o e=>a0.extBut b o (TZ (Heap.lt_size e)) (Heap.get?_push_of_some _ e);refine⟨aF.keeps hk,?_⟩;show aR _ _ (.expr body (Wk qual scope s.heap.objs.size f (.ref c') cl)) _ _;have I:=Lp (CX:=CX1 P w) (qual:=qual) (f:=f) (cd:=.ref c') (E:=E') S hr.hd O r (aC us bd) bc hk (s.toks+(ps.zip us).length);refine PySem.W.kla_codeExpr (az (ht [] _ _ _ _ I hq) (fun u s' hs=>?_) fun e s' hs=>?_)
 ·obtain⟨v,H',J,rv,q⟩:=hs
  have hn:∀c∈cl.map (·.2),H' c=none:=fun c hc=>by
   obtain⟨p,hp,rfl⟩:=VU.mp hc;obtain⟨o,v,e,_⟩:=S.cel p hp;obtain⟨p',_,_⟩:=O.hok _ _ e;exact J.base.free _ o p' (Ec hc) (by intro z;cases z)
  have ub:Un (frs outer) [] (offC (cl.map (·.2)) H) H' s.heap s'.heap:=J.base;refine⟨v,onC (cl.map (·.2)) H H',J.os,J.bare,Un.onC ub S.cells,HOk.onC O.hok ub J.hok S.cells hn fun c hc hz=>?_,rv,q hn⟩;obtain⟨o,e⟩:=S.cells c hc;have z:H c=none:=O.frf c hz;rw[z]at e;cases e
 ·exact az hs (fun _ aP h=>Nw O S.cells hE h) fun _ aP h=>Nw O S.cells hE h
def Qr(P:ai)(w:ar)(K:U5)(mg:Str->Option ac)(base:au)(k j:Nat)(CE:aa)(i:Nat)(ts:TS):TS:=fun D σ H =>
 ∃ f fd,σ[j]? = some (some (.ref f))/\H f=some (Er f fd)/\∃ps sp,Ay P w K mg base (CX1 P w) k f fd ps sp/\Bv K fd ps []/\sp [] H (fun _ H2=>D.nx σ H2) fun cls _ H2=>Wt K cls (.ref CE)=some true /\
   ∀ea,H2 ea=none->ts { nx:=fun σ' H3=>D.nx (σ'.set i none) H3,rt:=fun _ _=>False } (σ.set i (some (.ref ea))) (upd H2 ea (hoX ea cls))
theorem Of{X:Cx}{k j:Nat}{CE:aa}{x y n:Str}{i:Nat}{p cpos as yp be pos:Pos}{ap:aS}{ak:List aS}{ts:TS}
 (hr:BM k X.A) (hv:PE X.nox (.Name x p) (LU j)) (bC:Gl X y) (bB:X.mg y=some (.ref CE)) (nd:X.N.Nodup) (hi:X.N[i]? = some n) (hl:X.env.scope.names.lookup n=some .local) (aF:X.stack=X.env::X.outer) (bw:X.env.frame=some X.env.locals)
 (al:∀ea,PSs (X.marked ea) (ap::ak) ts) (hs:swapsWith (.Call (.Name x p) [] [] cpos) none as.line X.env=pure false:=by rfl) (bt:(y == ("__debug__" : Str))=false:=by decide) :
 PS X (.Try [.Expr (.Call (.Name x p) [] [] cpos) as] [.ExceptHandler (some (.Name y yp)) (some n) (ap::ak) be] [] [] pos) (Qr X.prog X.w X.K X.mg X.base k j CE i ts):=by
 intro pins s σ H D I h;obtain⟨f,fd,bu,hf,ps,sp,F,hb,q⟩:=h;refine wpAny_Try_except (wpAny_execs_cons (wpAny_Expr_any (aG ?_) I.quiet hs));refine az (hv pins s σ H (fun v H1=>v = .ref f/\H1=H) (I.wish _) ⟨_,bu,Z,Z⟩) (fun u s1 ⟨v,H0,I0,r0,ev,eH⟩=>?_) fun _ _ z=>False.elim z;subst ev;subst eH;cases r0;have I1:=I0.unwish;refine PySem.W.callWith_F0 (PZ I1 hf) ?_;have bb:([]:List ac).length=ps.length:=F.len _ _ _ _ q;have bd:=hb s1 [] I1.kIn (by rw[Uu];exact bb)
 rw[Uu]at bd;refine wpAny_call (aK (F.run X.A X.stack s1 H0 ⟨[],[]⟩ [] [] _ _ hr I1.env0 bd .nil q) fun r s2 hq=>?_);cases r with
 | ok fl =>
   cases fl with
   | ret u =>
     obtain⟨_,H2,I2,_,q2⟩:=I1.after hq;exact aO (aO ⟨σ,H2,I2,q2⟩)
   | next=>exact False.elim hq
   | brk=>exact False.elim hq
   | cont=>exact False.elim hq
 | error ex =>
   obtain⟨ea,cls,a0,B,H2,rfl,os,aC,un,bc,Y,k1,k2,bn,hts⟩:=hq
   have bq:H2 ea=none:=by
    cases z:H2 ea with
    | none=>rfl
    | some u=>obtain⟨o',q'⟩:=k2 ea u z;rw[Y.2.1]at q';cases q'
   have hts:=hts ea bq;have hA:X.A.frames=some (X.env::X.outer):=by rw[<- aF];exact I.ok.frames
   have ff:=Y.2.2.1;rw[aF]at Y;refine wpAny_looks_onW (base:=B) hA bw Y fun h3 held bf=>?_;refine wpAny_landsW held fun h4 J bx=>?_;have u4:=bf.trans bx;have J4:=I1.flown (toks:=s2.toks) un bc os aC Y.1 k1 k2 J.1 (Inv.slots ff u4);refine wpAny_handleBy_cons (codeAny_handlers_test ?_) (by intro q;cases q)
   refine Fl (X:=X.marked ea) (J4.marked ea) bC bB ?_ bt;obtain⟨ob,bl,bp⟩:=J.there;have LT:PySem.W.Looks (ao X.prog X.w) h4 (typeOf (.ref ea)) cls:=by subst bp;exact(PySem.W.Looks.ld bl).andThen .now
   refine(PySem.W.exm_one J4.kIn LT bn).here ?_;refine codeAny_handlers_suite_as ?_;refine lands_againW J fun h5 ba bh=>?_;have aP:Heap.FlyingW B X.stack ea cls a0 h5:=by rw[aF];exact ba
   have J5:=I1.caught (toks:=s2.toks) un bc os aC Y.1 k1 k2 aP (Inv.slots ff (u4.trans bh));refine DV (X:=X.marked ea) (J5.marked ea) nd hi (.inl hl) (v:=.ref ea) rfl (fun s6 I6=>?_) (.inr hl);refine az (al ea pins s6 _ _ _ I6 hts) (fun fl s7 an=>?_) fun _ _ z=>False.elim z;cases fl with
   | next =>
     obtain⟨bg,H7,O,q7⟩:=an;obtain⟨m,hn,bF⟩:=id O.loc;refine wpAny_nameGoes_keeps hl hn (by rw[I.ok.kind];rfl) fun h8 v bD sb=>?_
     have I8:Inv X pins bg H7 s7:=⟨I.ok,O.os,O.bare,O.base,O.loc,O.cell,O.free,O.freeC,O.pin,O.hok,O.len⟩;exact⟨_,_,I8.gone nd hi bF bD sb,q7⟩
   | ret u=>obtain⟨_,_,_,_,_,q7⟩:=an;exact q7.elim
   | brk=>obtain⟨_,_,_,q7⟩:=an;exact q7.elim
   | cont=>obtain⟨_,_,_,q7⟩:=an;exact q7.elim
section
variable {X:Cx}
inductive KW(K:U5)(x:V)(vs:List V)(H:Hp)(Q:VK):Prop
 | mk (l:_) (v:_) (ds:_) (d:_) (j:_) (h1:x = .ref l) (h2:vs=[v]) (h3:Rds K H (.ref l) (.list ds)) (h4:Rds K H v d) (h5:PyData.canLayAll0 ds=true) (h6:d.canLay0=true) (h7:min (PyData.depthAll ds) d.depth<=1) (h8:(∃e,ds[j]? = some e/\PyData.eqv e d=true)) (h9:(∀i e,i<j->ds[i]? = some e->PyData.eqv e d=false)) (h10:j<=1000) (h11:Q (.int ((j:Nat):Int)) H):KW K x vs H Q
open PySem.SeqAt in
theorem M9(K:U5){k:Nat}(hr:BM k X.A)(e0:X.K=K:=by rfl):MtM X "list.index" (KW K):=by
 subst e0;intro pins s σ H x vs v us Q I rx rv h;obtain⟨l,w,ds,d,j,rfl,rfl,hS,hq,ak,hd,ba,⟨ej,hj,ap⟩,aC,aF,k⟩:=h;cases rx;obtain⟨u,rfl,ru⟩:=rv.one;obtain⟨as,r1⟩:=Cz I hS (u:=.ref l) rfl;obtain⟨bs,r2⟩:=Cz I hq ru
 have hu:X.A.units+1+min (PyData.depthAll ds) d.depth<cLine:=by
  have:=hr.un
  lia
 cases r1 with
 | list h1 h2 h3 h4 =>
   rename_i o Y n' a0
   obtain⟨cls,dd,data,sl⟩:=o
   try simp only at h2 h3
   subst h2 h3;have W:=readsAll_map _ _ _ ak h4
   have J:Y.toList.length=ds.length:=by
    have:=congrArg List.length W
    rwa [UI]at this
   have hsz:Y.size=ds.length:=by rw[<- Ui];exact J
   obtain⟨aP,an⟩:=Ue.mp hj
   have O:∀(i:Nat) (hi:i<Y.size),readOf s.heap Y[i]=(ds[i]'(by lia)):=fun i hi=>by
    have e1:(Y.toList.map (readOf s.heap))[i]? = ds[i]?:=by rw[W]
    rw[UC,Vy (by lia),Vy (by lia)]at e1
    simpa using e1
   refine bU PySem.F.slot_list_index ⟨_,h1,Z⟩ PySem.F.entry_list_index (PySem.F.args_list_index_2 _ _)
    (list_indexAt l Y n' dd sl u (fun y=>PyData.eqv (readOf s.heap y) d) j (by lia) (by lia) ?_ ?_) ⟨h1,items_eqAt h4 r2 ak hd hu,?_⟩
   ·show PyData.eqv (readOf s.heap Y[j]) d=true;rw[O j (by lia),an];exact ap
   ·intro m hm al;show PyData.eqv (readOf s.heap Y[m]) d=false;rw[O m hm];exact aC m _ al (Vy (by lia))
   ·exact⟨.int _,H,I.tok _,⟨_,Z⟩,k⟩
end
theorem EH{X:Cx}{n k:Nat}{x:Str}{ps:List Str}{sp:Sp}{E:XK}{e:Expr}{es:List Expr}{t:TA}{p pos:Pos}(F:FdX X.prog X.w X.K X.mg X.base n x ps sp)(J:BM k X.A)(hg:Gl X x)(hp:EL (CX1 X.prog X.w) X E)(ha:PA X (e::es) t)(hn:n<=k:=by decide)
 (W:(x == ("__debug__" : Str))=false:=by decide) (O:aq (e::es) X.env=(false,aD e X.env)::aq es X.env:=by rfl) (Y:(aN pos (aq es X.env)).any (·.1)=false:=by rfl) :
 PE X (.Call (.Name x p) (e::es) [] pos) (KS sp [] E t):=by
 obtain⟨f,fd,F1,F2,F3,F4⟩:=F.ex;exact II F1 (J.mono hn) hg F4 F3 F2 .nil hp ha W O Y
structure RD(P:ai)(w:ar)(K:U5)(mg:Str->Option ac)(base:au)(k:Nat)(H:Hp)(f C:aa):Prop where
 ex:∃fd sp,Ay P w K mg base (CX1 P w) k f fd [] sp/\Bv K fd [] []/\H f=some (Er f fd)/\∀(Q:VK) (E:XK),(∀H',Ae H H'->E (.ref C) none H')->sp [] H Q E
theorem Cr{K:U5}{fd:ag}(h:aT fd ⟨[],[]⟩=pure []):Bv K fd [] []:=.all fun us Y=>by
 cases Wi.mp Y;exact h
end L2
namespace Dt
def skip(i a:Nat):Nat:=if a<i then a else a+1
def sg(i:Nat):Int:=if i % 2=0 then 1 else -1
def sumN(f:Nat->Int):Nat->Int
 | 0=>0
 | n+1=>sumN f n+f n
def det:Nat->(Nat->Nat->Int)->Nat->Int
 | 0,M,j=>M 0 j
 | n+1,M,j=>sumN (fun i=>sg i*(M i 0*det n (fun a b=>M (skip i a) (b+1)) j)) (n+2)
def put(M:Nat->Nat->Int)(p:Nat)(u:Nat->Int):Nat->Nat->Int:=fun a b=>if a=p then u b else M a b
def low(i p:Nat):Nat:=if p<i then p else p-1
def sh(i:Nat)(v:Nat->Int):Nat->Int:=fun b=>if b<i then 0 else v (b-i)
def syl(p:Nat)(g f:Nat->Int):Nat->Nat->Int:=fun a=>if a<p then sh a g else sh (a-p) f
def sub(m n k:Nat)(f g:Nat->Int)(j:Nat):Int:=det (m-k+(n-k)-1) (syl (m-k) g f) j
end Dt
namespace Dt
structure Srs(S:Nat->Nat->Int)(m n:Nat)(f g:Nat->Int)(lead held:Int):Prop where
 le:n<=m
 g0:g 0≠0
 l0:lead≠0
 h0:held≠0
 one:n<m\/(lead=1/\held=1)
 is:∀k,k<=n->∃s:Int,(s=1\/s = -1)/\∀j,lead ^ (n-k)*held ^ (m-k-1)*S k j=s*sub m n k f g j
section
variable {S:Nat->Nat->Int}{m n:Nat}{f g r:Nat->Int}{e:Nat->Int}{lead held:Int}
end
end Dt
namespace L2
open Dt
def tf(l:List Int):Nat->Int:=fun b=>if b<l.length then l.getD (l.length-1-b) 0 else 0
structure LR(S:Nat->Nat->Int)(fs gs:List Int)(lead held:Int):Prop where
 fp:1<=fs.length
 srs:1<=gs.length->Srs S (fs.length-1) (gs.length-1) (tf fs) (tf gs) lead held
end L2
namespace L2
def KO(d p:List Rat):Prop:=∃q:List Rat,∀x,Cv.ev p x=Cv.ev q x*Cv.ev d x
def Com(A B F G:List Rat):Prop:=∀d,(KO d A/\KO d B)↔(KO d F/\KO d G)
abbrev cst(l:List Int):List Rat:=l.map fun t:Int=>(t:Rat)
structure Part(A B p:List Rat):Prop where
 good:BE p
 mono:p[p.length-1]? = some 1
 is:∀d,(KO d A/\KO d B)↔KO d p
end L2
namespace L2
open Dt
def OI(l:List Int):Prop:=∀t,l[l.length-1]? = some t->t≠0
def PD(l:List Int):Prop:=∃D:Nat->Int,D 0≠0/\(∀j,Bd 45100 (D j))/\∀j,tf l j*D 0=D j*tf l 0
structure LRI(S:Nat->Nat->Int)(fs gs fs' gs':List Int)(lead held:Int)(B d0:Nat):Prop where
 lr:LR S fs' gs' lead held
 le:gs'.length<=fs'.length
 l8:fs'.length<=8
 t1:OI fs'
 t2:OI gs'
 com:Com (cst fs) (cst gs) (cst fs') (cst gs')
 bf:∀t∈fs',Bd B t
 bg:∀t∈gs',Bd B t
 bl:Bd (B+1) lead
 bh:Bd (B*d0+1) held
 d8:d0+fs'.length<=8
 bb:B+1<=3 ^ (9-fs'.length)*3001
 b3:fs'.length=gs'.length->B<=3000
 pd:PD fs'
section
variable {S:Nat->Nat->Int}{fs gs fs' gs':List Int}{lead held:Int}{B d0:Nat}
end
end L2
namespace L2
open Dt
structure LRJ(S:Nat->Nat->Int)(fs gs fs' gs':List Int)(lead held:Int)(X:Nat):Prop where
 lr:LR S fs' gs' lead held
 le:gs'.length<=fs'.length
 l10:fs'.length<=10
 t1:OI fs'
 t2:OI gs'
 com:Com (cst fs) (cst gs) (cst fs') (cst gs')
 bf:∀t∈fs',Bd X t
 bg:∀t∈gs',Bd X t
 bl:Bd X lead
 bh:Bd X held
section
variable {S:Nat->Nat->Int}{fs gs fs' gs':List Int}{lead held:Int}{X:Nat}
end
end L2
namespace L2
theorem Jm:∀Y:List Rat,(prL Y).getD Y.length 0=1
 | []=>rfl
 | o::Y=>by
   have ih:=Jm Y;show(Bh ((prL Y).map (· * -o)) (0::Bh ((prL Y).map (· * 1)) (0::[]))).getD (Y.length+1) 0=1;rw[CN,C0]
   have e1:(prL Y).getD (Y.length+1) 0=0:=by
    rw[Vs,VS (by rw[CS];lia)];rfl
   show _+(Bh ((prL Y).map (· * 1)) (0::[])).getD Y.length 0=1;rw[CN,C0,e1,ih];have e:([0]:List Rat).getD Y.length 0=0:=by match Y.length with | 0=>rfl | k+1=>rfl
   rw[e];grind
end L2
namespace L2
def Cop(A B:List Rat):Prop:=∃u v,∀x,Cv.ev u x*Cv.ev A x+Cv.ev v x*Cv.ev B x=1
def pw(d:List Rat):Nat->List Rat
 | 0=>[1]
 | n+1=>Ef (pw d n) d
end L2
namespace L2
structure Kn(f l g:List Rat):Prop where
 gg:BE g
 mono:g[g.length-1]? = some 1
 fe:∀x,Cv.ev f x=Cv.ev l x*Cv.ev g x
 un:∃u,(∀x,Cv.ev (dL f) x=Cv.ev g x*Cv.ev u x)/\Cop l u
end L2
namespace L2
open PySem PySem.Spec PyProof.Rows
section
variable {X:Cx}{e:Expr}{es:List Expr}{te:TE}{t:TA}{pos:Pos}
@[irreducible] def PEk(X:Cx)(e:Expr)(te:TE):Prop:=PE X e te
@[irreducible] def PAk(X:Cx)(es:List Expr)(t:TA):Prop:=PA X es t
theorem pek(h:PE X e te):PEk X e te:=by unfold PEk;exact h
end
end L2
namespace L2
theorem CO:∀(qs:List Rat) {l:List Rat},qs.Nodup->l.length<=qs.length->(∀q∈qs,Cv.ev l q=0)->∀x,Cv.ev l x=0
 | [],l,_,hl,_,x=>by
   have:l=[]:=Vm (Nat.le_zero.mp hl);rw[this];rfl
 | c::r,l,hn,hl,h,x=>by
   rw[Uv]at hn;have O:=h c (U9 ..);have e:∀x,Cv.ev l x=(x-c)*Cv.ev (quo c l) x:=fun x=>by rw[Kf c x l,O,Rat.zero_add]
   have J:l.length<=r.length+1:=hl
   have ih:=CO r (l:=quo c l) hn.2 (by rw[GI];lia) fun q W=>by
    have Y:=h q (Ua _ W);rw[e q]at Y
    rcases Vn.mp Y with z | z
    ·exact absurd (show q=c by grind) fun z=>hn.1 (z ▸ W)
    ·exact z
   rw[e x,ih x,Wu]
theorem EK:∀(l:List Rat) (a:Nat),(∀j,a<=j->l.getD j 0=0)->∀x,Cv.ev (l.take a) x=Cv.ev l x
 | [],a,_,x=>by rw[List.take_nil]
 | q::r,0,h,x=>by
   show(0:Rat)=q+x*Cv.ev r x;have h0:q=0:=h 0 (Uk _);have Y:=EK r 0 (fun j _=>h (j+1) (Uo _)) x;rw[VY]at Y;have Y:(0:Rat)=Cv.ev r x:=Y;rw[h0,<- Y,Wu,Rat.add_zero]
 | q::r,a+1,h,x=>by
   show q+x*Cv.ev (r.take a) x=q+x*Cv.ev r x;rw[EK r a (fun j W=>h (j+1) (Nat.succ_le_succ W)) x]
theorem GL{N D:List Rat}{a b k:Nat}(O:∀j,a<=j->N.getD j 0=0)(J:∀j,b<=j->D.getD j 0=0)(h:a=0\/b=0\/a+b<=k+1):∃l:List Rat,l.length<=k/\∀x,Cv.ev l x=Cv.ev N x*Cv.ev D x:=by
 have Y:=EK N a O;have W:=EK D b J;by_cases z:(N.take a).length=0\/(D.take b).length=0
 ·refine⟨[],Uo _,fun x=>?_⟩;show(0:Rat)=_
  rcases z with z | z
  ·rw[<- Y,Vm z];show _=0*_;rw[Rat.zero_mul]
  ·rw[<- W,Vm z];show _=_*0;rw[Wu]
 ·have h1:(N.take a).length<=a:=by rw[Uy];lia
  have h2:(D.take b).length<=b:=by rw[Uy];lia
  refine⟨Ef (N.take a) (D.take b),?_,fun x=>by rw[Fs,Y,W]⟩
  rw[D6 _ (by lia) _ (by lia)]
  lia
def DU(w v r:Int)(N D:List Rat):Prop:=(∀j:Nat,r<2*((j:Int)+1-w)->N.getD j 0=0)/\(∀j:Nat,r<2*((j:Int)+1-v)+1->D.getD j 0=0)
def Dc(w v r:Int)(N D:List Rat):Prop:=(∃j:Nat,2*((j:Int)+1-w)=r/\N.getD j 0≠0)\/(∃j:Nat,2*((j:Int)+1-v)+1=r/\D.getD j 0≠0)
theorem HQ{w v r1 r2:Int}{N D:List Rat}{n k:Nat}(W:∀j:Nat,r1<2*((j:Int)+1-w)->N.getD j 0=0)(O:∀j:Nat,r2<2*((j:Int)+1-v)+1->D.getD j 0=0)(hw:w+v=n+1)(J:r1+r2<=2*(k:Int)-2*n+2):∃l:List Rat,l.length<=k/\∀x,Cv.ev l x=Cv.ev N x*Cv.ev D x:=by
 refine GL (a:=(r1 / 2+w).toNat) (b:=((r2-1) / 2+v).toNat) (fun j Y=>W j ?_) (fun j Y=>O j ?_) ?_
 ·lia
 ·lia
 ·lia
theorem Nt{w v r1 r2:Int}{N1 D1 N2 D2 qs:List Rat}{n:Nat}(h1:DU w v r1 N1 D1)(h2:DU w v r2 N2 D2)(hw:w+v=n+1)(J:r1+r2<=2*(qs.length:Int)-2*n+2)(hn:qs.Nodup)(h:∀q∈qs,Cv.ev N1 q*Cv.ev D2 q=Cv.ev N2 q*Cv.ev D1 q)(x:Rat):Cv.ev N1 x*Cv.ev D2 x=Cv.ev N2 x*Cv.ev D1 x:=by
 obtain⟨l1,W,e1⟩:=HQ (k:=qs.length) h1.1 h2.2 hw J;obtain⟨l2,O,Y⟩:=HQ (k:=qs.length) h2.1 h1.2 hw (by lia)
 have e:∀x,Cv.ev (Bh l1 (l2.map (· * (-1)))) x=Cv.ev N1 x*Cv.ev D2 x-Cv.ev N2 x*Cv.ev D1 x:=fun x=>by
  rw[C6,Cv.ev_scale,e1,Y];grind
 have:=CO qs (l:=Bh l1 (l2.map (· * (-1)))) hn (by rw[Bp,UI];lia) (fun q hq=>by rw[e,h q hq];grind) x
 rw[e]at this
 grind
theorem HX{l:List Rat}{a j:Nat}(h:j<a):(l.take a).getD j 0=l.getD j 0:=by
 rw[Vs,Vs,Wv,if_pos h]
theorem KP{l:List Rat}{j:Nat}(h:l.getD j 0≠0):j<l.length:=by
 rcases Ww j l.length with z | z
 ·exact z
 ·exact absurd (by rw[Vs,VS z];rfl) h
theorem Lk{N1 D2 N2 D1:List Rat}{j i a b:Nat}(hj:N1.getD j 0≠0)(hi:D2.getD i 0≠0)(h1:∀t,j<t->N1.getD t 0=0)(h2:∀t,i<t->D2.getD t 0=0)(ha:∀t,a<=t->N2.getD t 0=0)(hb:∀t,b<=t->D1.getD t 0=0)(W:a=0\/b=0\/a+b<=j+i+1):¬ ∀x,Cv.ev N1 x*Cv.ev D2 x=Cv.ev N2 x*Cv.ev D1 x:=fun h=>by
 obtain⟨l,hl,el⟩:=GL (k:=j+i) ha hb W;have lj:=KP hj;have li:=KP hi;have O:(N1.take (j+1)).length=j+1:=by rw[Uy];lia
 have n2:(D2.take (i+1)).length=i+1:=by rw[Uy];lia
 have g:∀{q:List Rat} {t:Nat},t<q.length->q[t]? = some (q.getD t 0):=fun{q t} Y=>by rw[Vs,Vy Y];rfl
 have J:=FQ (D2.take (i+1)) (D2.getD i 0) (by rw[n2,Wx,g (by lia),HX (by lia)]) (N1.take (j+1)) (N1.getD j 0) (by rw[O,Wx,g (by lia),HX (by lia)])
 have e:=JR (l:=Ef (N1.take (j+1)) (D2.take (i+1))) (m:=l) (fun k=>by rw[el,<- h,Fs,EK N1 (j+1) fun t Y=>h1 t (by lia),EK D2 (i+1) fun t Y=>h2 t (by lia)]) (j+i)
 have e2:l.getD (j+i) 0=0:=by rw[Vs,VS hl];rfl
 rw[O,n2,show j+1+(i+1)-2=j+i by lia]at J
 rw[e2,Vs,J]at e
 rcases Vn.mp (show D2.getD i 0*N1.getD j 0=0 from e) with z | z
 ·exact hi z
 ·exact hj z
theorem Nu{w v r1 r2:Int}{N1 D1 N2 D2:List Rat}(h1:DU w v r1 N1 D1)(h2:DU w v r2 N2 D2)(t1:Dc w v r1 N1 D1)(J:Dc w v r2 N2 D2)(hp:(r1+r2) % 2=1):¬ ∀x,Cv.ev N1 x*Cv.ev D2 x=Cv.ev N2 x*Cv.ev D1 x:=by
 rcases t1 with ⟨j,ej,O⟩ | ⟨j,ej,O⟩
 ·rcases J with ⟨i,W,hi⟩ | ⟨i,W,hi⟩
  ·lia
  ·exact Lk (a:=(r2 / 2+w).toNat) (b:=((r1-1) / 2+v).toNat) O hi (fun t Y=>h1.1 t (by lia)) (fun t Y=>h2.2 t (by lia)) (fun t Y=>h2.1 t (by lia)) (fun t Y=>h1.2 t (by lia)) (by lia)
 ·rcases J with ⟨i,W,hi⟩ | ⟨i,W,hi⟩
  ·exact fun h=>Lk (a:=(r1 / 2+w).toNat) (b:=((r2-1) / 2+v).toNat) hi O (fun t Y=>h2.1 t (by lia)) (fun t Y=>h1.2 t (by lia)) (fun t Y=>h1.1 t (by lia)) (fun t Y=>h2.2 t (by lia)) (by lia) fun x=>(h x).symm
  ·lia
structure DQ(w v:Int)(n:Nat)(ps:List (Rat×Rat))(r1 r2:Int)(N1 D1 N2 D2:List Rat):Prop where
 le1:DU w v r1 N1 D1
 top1:Dc w v r1 N1 D1
 le2:DU w v r2 N2 D2
 top2:Dc w v r2 N2 D2
 lt:r1<r2
 sum:r1+r2=2*(ps.length:Int)-2*n+3
 on1:∀q∈ps,Cv.ev N1 q.1=q.2*Cv.ev D1 q.1
 on2:∀q∈ps,Cv.ev N2 q.1=q.2*Cv.ev D2 q.1
section
variable {w v:Int}{n:Nat}{ps:List (Rat×Rat)}{r1 r2:Int}{N1 D1 N2 D2:List Rat}
theorem DQ.ne(I:DQ w v n ps r1 r2 N1 D1 N2 D2):¬ ∀x,Cv.ev N1 x*Cv.ev D2 x=Cv.ev N2 x*Cv.ev D1 x:=Nu I.le1 I.le2 I.top1 I.top2 (by have:=I.sum;lia)
theorem DQ.some(I:DQ w v n ps r1 r2 N1 D1 N2 D2)(hw:w+v=n+1){x y:Rat}(Y:((ps++[(x,y)]).map Prod.fst).Nodup):¬(Cv.ev N1 x=y*Cv.ev D1 x/\Cv.ev N2 x=y*Cv.ev D2 x):=fun⟨h1,h2⟩=>by
 refine I.ne fun t=>Nt (qs:=(ps++[(x,y)]).map Prod.fst) I.le1 I.le2 hw ?_ Y (fun q W=>?_) t
 ·have:=I.sum;rw[UI,UH,UW]
  lia
 ·obtain⟨p,O,rfl⟩:=VU.mp W
  rcases Uc.mp O with z | z
  ·rw[I.on1 p z,I.on2 p z];grind
  ·rw[Vx.mp z];show Cv.ev N1 x*Cv.ev D2 x=Cv.ev N2 x*Cv.ev D1 x;rw[h1,h2];grind
end
theorem J1:∀{l m:List Rat},(∀j,l.getD j 0=m.getD j 0)->∀x,Cv.ev l x=Cv.ev m x
 | [],m,h,x=>by
   show(0:Rat)=_;rw[Cv.ev_none];intro q Y;obtain⟨j,W,rfl⟩:=Wy Y;have:=h j;rw[Vs,Vs,Vy W]at this;exact this.symm
 | a::l,[],h,x=>by
   show _=(0:Rat);rw[Cv.ev_none];intro q Y;obtain⟨j,W,rfl⟩:=Wy Y;have:=h j;rw[Vs,Vs,Vy W]at this;exact this
 | a::l,b::m,h,x=>by
   show a+x*Cv.ev l x=b+x*Cv.ev m x;rw[show a=b from h 0,J1 (l:=l) (m:=m) (fun j=>h (j+1)) x]
def Shf(c d:Rat)(L L':List Rat):Prop:=∀j:Nat,L'.getD j 0=d*(if j=0 then 0 else L.getD (j-1) 0)-c*L.getD j 0
theorem Shf.ev{c d:Rat}{L Y:List Rat}(h:Shf c d L Y)(x:Rat):Cv.ev Y x=(d*x-c)*Cv.ev L x:=by
 have e:Cv.ev Y x=Cv.ev (Bh ((0::L).map (· * d)) (L.map (· * (-c)))) x:=J1 (fun j=>by
  rw[h j,CN,C0,C0];cases j with
  | zero=>show d*(if 0=0 then 0 else _)-c*_=0*d+_;rw[if_pos rfl];grind
  | succ j=>show d*(if j+1=0 then 0 else L.getD (j+1-1) 0)-c*_=L.getD j 0*d+_;rw[if_neg (by lia),Wx];grind) x
 rw[e,C6,Cv.ev_scale,Cv.ev_scale];show(0+x*Cv.ev L x)*d+_=_
 grind
def Mix(m a b:Rat)(A B L':List Rat):Prop:=∀j:Nat,m*L'.getD j 0=a*B.getD j 0-b*A.getD j 0
theorem Mix.ev{m a b:Rat}{A B Y:List Rat}(h:Mix m a b A B Y)(x:Rat):m*Cv.ev Y x=a*Cv.ev B x-b*Cv.ev A x:=by
 have e:Cv.ev (Y.map (· * m)) x=Cv.ev (Bh (B.map (· * a)) (A.map (· * (-b)))) x:=J1 (fun j=>by
  rw[C0,CN,C0,C0];have:=h j
  grind) x
 rw[C6,Cv.ev_scale,Cv.ev_scale,Cv.ev_scale]at e
 grind
theorem DU.shift{w v r:Int}{c d:Rat}{N D N' D':List Rat}(h:DU w v r N D)(Y:Shf c d N N')(O:Shf c d D D'):DU w v (r+2) N' D':=by
 refine⟨fun j W=>?_,fun j W=>?_⟩
 ·rw[Y j,h.1 j (by lia)]
  by_cases z:j=0
  ·rw[if_pos z];grind
  ·rw[if_neg z,h.1 (j-1) (by lia)];grind
 ·rw[O j,h.2 j (by lia)]
  by_cases z:j=0
  ·rw[if_pos z];grind
  ·rw[if_neg z,h.2 (j-1) (by lia)];grind
theorem Dc.shift{w v r:Int}{c d:Rat}{N D N' D':List Rat}(h:Dc w v r N D)(Y:DU w v r N D)(hd:d≠0)(hN:Shf c d N N')(O:Shf c d D D'):Dc w v (r+2) N' D':=by
 have key:∀{y:Rat},y≠0->d*y-c*0≠0:=fun{y} J e=>by
  have:d*y=0:=by grind
  rcases Vn.mp this with z | z
  ·exact hd z
  ·exact J z
 rcases h with ⟨j,e,W⟩ | ⟨j,e,W⟩
 ·refine .inl ⟨j+1,by lia,?_⟩
  rw[hN (j+1),if_neg (by lia),Wx,Y.1 (j+1) (by lia)]
  exact key W
 ·refine .inr ⟨j+1,by lia,?_⟩
  rw[O (j+1),if_neg (by lia),Wx,Y.2 (j+1) (by lia)]
  exact key W
theorem Mix.zero{m a b:Rat}{A B Y:List Rat}(h:Mix m a b A B Y)(O:m≠0){j:Nat}(J:A.getD j 0=0)(W:B.getD j 0=0):Y.getD j 0=0:=by
 have:=h j;rw[J,W]at this
 rcases Vn.mp (show m*Y.getD j 0=0 by grind) with z | z
 ·exact absurd z O
 ·exact z
theorem DU.mix{w v r1 r2:Int}{m a b:Rat}{N1 D1 N2 D2 N' D':List Rat}(h1:DU w v r1 N1 D1)(h2:DU w v r2 N2 D2)(O:r1<r2)(W:m≠0)(hN:Mix m a b N1 N2 N')(J:Mix m a b D1 D2 D'):DU w v r2 N' D' :=
 ⟨fun j Y=>hN.zero W (h1.1 j (by lia)) (h2.1 j Y),fun j Y=>J.zero W (h1.2 j (by lia)) (h2.2 j Y)⟩
theorem Dc.mix{w v r1 r2:Int}{m a b:Rat}{N1 D1 N2 D2 N' D':List Rat}(J:Dc w v r2 N2 D2)(h1:DU w v r1 N1 D1)(W:r1<r2)(O:a≠0)(hN:Mix m a b N1 N2 N')(hD:Mix m a b D1 D2 D'):Dc w v r2 N' D':=by
 have key:∀{y z:Rat},y≠0->m*z=a*y-b*0->z≠0:=fun{y z} hy e hz=>by
  have:a*y=0:=by rw[hz]at e;grind
  rcases Vn.mp this with q | q
  ·exact O q
  ·exact hy q
 rcases J with ⟨j,e,Y⟩ | ⟨j,e,Y⟩
 ·have:=hN j;rw[h1.1 j (by lia)]at this
  exact .inl ⟨j,e,key Y this⟩
 ·have:=hD j;rw[h1.2 j (by lia)]at this
  exact .inr ⟨j,e,key Y this⟩
structure PUn(w v:Int)(n:Nat)(ps:List (Rat×Rat))(r1 r2:Int)(N1 D1 N2 D2:List Rat):Prop where
 le1:DU w v r1 N1 D1
 top1:Dc w v r1 N1 D1
 le2:DU w v r2 N2 D2
 top2:Dc w v r2 N2 D2
 sum:r1+r2=2*(ps.length:Int)-2*n+3
 on1:∀q∈ps,Cv.ev N1 q.1=q.2*Cv.ev D1 q.1
 on2:∀q∈ps,Cv.ev N2 q.1=q.2*Cv.ev D2 q.1
section
variable {w v:Int}{n:Nat}{ps:List (Rat×Rat)}{r1 r2:Int}{N1 D1 N2 D2 N1' D1' N2' D2':List Rat}{x y:Rat}
theorem PUn.inv(h:PUn w v n ps r1 r2 N1 D1 N2 D2)(Y:r1<r2):DQ w v n ps r1 r2 N1 D1 N2 D2:=⟨h.le1,h.top1,h.le2,h.top2,Y,h.sum,h.on1,h.on2⟩
theorem PUn.turn(h:PUn w v n ps r1 r2 N1 D1 N2 D2)(Y:¬r1<r2):DQ w v n ps r2 r1 N2 D2 N1 D1:=⟨h.le2,h.top2,h.le1,h.top1,by have:=h.sum;lia,by have:=h.sum;lia,h.on2,h.on1⟩
theorem Gq{N D:List Rat}(h:∀q∈ps,Cv.ev N q.1=q.2*Cv.ev D q.1)(Y:Cv.ev N x=y*Cv.ev D x):∀q∈ps++[(x,y)],Cv.ev N q.1=q.2*Cv.ev D q.1:=fun q W=>by
 rcases Uc.mp W with z | z
 ·exact h q z
 ·rw[Vx.mp z];exact Y
theorem GU{c d:Rat}{N D N' D':List Rat}(h:∀q∈ps,Cv.ev N q.1=q.2*Cv.ev D q.1)(Y:Shf c d N N')(W:Shf c d D D')(O:d*x=c):∀q∈ps++[(x,y)],Cv.ev N' q.1=q.2*Cv.ev D' q.1:=Gq (fun q J=>by rw[Y.ev,W.ev,h q J];grind) (by rw[Y.ev,W.ev,O];grind)
theorem DQ.stepA{c d:Rat}(I:DQ w v n ps r1 r2 N1 D1 N2 D2)(hd:d≠0)(J:d*x=c)(O:Cv.ev N1 x=y*Cv.ev D1 x)(W:Shf c d N2 N2')(Y:Shf c d D2 D2'):PUn w v n (ps++[(x,y)]) r1 (r2+2) N1 D1 N2' D2' :=
 ⟨I.le1,I.top1,I.le2.shift W Y,I.top2.shift I.le2 hd W Y,by have:=I.sum;rw[UH,UW];lia,Gq I.on1 O,GU I.on2 W Y J⟩
theorem DQ.stepB{c d:Rat}(I:DQ w v n ps r1 r2 N1 D1 N2 D2)(hd:d≠0)(J:d*x=c)(O:Cv.ev N2 x=y*Cv.ev D2 x)(W:Shf c d N1 N1')(Y:Shf c d D1 D1'):PUn w v n (ps++[(x,y)]) (r1+2) r2 N1' D1' N2 D2 :=
 ⟨I.le1.shift W Y,I.top1.shift I.le1 hd W Y,I.le2,I.top2,by have:=I.sum;rw[UH,UW];lia,GU I.on1 W Y J,Gq I.on2 O⟩
theorem DQ.stepC{c d m a b s:Rat}(I:DQ w v n ps r1 r2 N1 D1 N2 D2)(hd:d≠0)(hx:d*x=c)(ha:a≠0)(hm:m≠0)(ea:a=s*(Cv.ev N1 x-y*Cv.ev D1 x))(eb:b=s*(Cv.ev N2 x-y*Cv.ev D2 x))(J:Shf c d N1 N1')(O:Shf c d D1 D1')(W:Mix m a b N1 N2 N2')(Y:Mix m a b D1 D2 D2'):PUn w v n (ps++[(x,y)]) (r1+2) r2 N1' D1' N2' D2':=by
 refine⟨I.le1.shift J O,I.top1.shift I.le1 hd J O,DU.mix I.le1 I.le2 I.lt hm W Y,Dc.mix I.top2 I.le1 I.lt ha W Y,by have:=I.sum;rw[UH,UW];lia,GU I.on1 J O hx,?_⟩
 have ak:∀{p q:Rat},m*p=m*q->p=q:=fun{p q} h=>by
  rcases Vn.mp (show m*(p-q)=0 by grind) with z | z
  ·exact absurd z hm
  ·grind
 refine Gq (fun q hq=>ak ?_) (ak ?_)
 ·have e1:=W.ev q.1;have e2:=Y.ev q.1;rw[I.on1 q hq,I.on2 q hq]at e1;rw[e1,show m*(q.2*Cv.ev D2' q.1)=q.2*(m*Cv.ev D2' q.1) by grind,e2]
  grind
 ·have e1:=W.ev x;have e2:=Y.ev x;rw[e1,show m*(y*Cv.ev D2' x)=y*(m*Cv.ev D2' x) by grind,e2,ea,eb]
  grind
theorem DQ.fin(I:DQ w v n ps r1 r2 N1 D1 N2 D2)(Y:ps.length=n):r1<=1:=by
 have:=I.sum;have:=I.lt
 lia
theorem DQ.below(I:DQ w v n ps r1 r2 N1 D1 N2 D2)(J:ps.length=n)(O:w<=n)(hn:(ps.map Prod.fst).Nodup):Cv.strip D1≠[]:=fun z=>by
 have hr:=I.fin J;have W:∀x,Cv.ev D1 x=0:=fun x=>by rw[<- Cv.ev_strip,z];rfl
 have Y:=EK N1 n fun j hj=>I.le1.1 j (by lia)
 have zN:∀x,Cv.ev N1 x=0:=fun x=>by
  rw[<- Y];refine CO (ps.map Prod.fst) hn (by rw[UI,Uy];lia) (fun q hq=>?_) x
  obtain⟨p,hp,rfl⟩:=VU.mp hq;rw[Y,I.on1 p hp,W,Wu]
 exact I.ne fun x=>by rw[W x,zN x,Wu,Rat.zero_mul]
end
end L2
namespace L2
section
variable {w v:Int}{n:Nat}{ps:List (Rat×Rat)}{r1 r2:Int}{N1 D1 N2 D2:List Rat}
theorem JF:∀(qs:List Rat) {L:List Rat},qs.Nodup->(∀q∈qs,Cv.ev L q=0)->∃M:List Rat,∀x,Cv.ev L x=prV x qs*Cv.ev M x
 | [],L,_,_=>⟨L,fun x=>by show _=1*_;rw[Rat.one_mul]⟩
 | c::r,L,hn,h=>by
   rw[Uv]at hn;have h0:=h c (U9 ..);have e:∀x,Cv.ev L x=(x-c)*Cv.ev (quo c L) x:=fun x=>by rw[Kf c x L,h0,Rat.zero_add]
   obtain⟨M,O⟩:=JF r (L:=quo c L) hn.2 fun q W=>by
    have Y:=h q (Ua _ W);rw[e q]at Y
    rcases Vn.mp Y with z | z
    ·exact absurd (show q=c by grind) fun z=>hn.1 (z ▸ W)
    ·exact z
   exact⟨M,fun x=>by rw[e x,O x];show _=(x-c)*prV x r*_;grind⟩
end
end L2
namespace L2
open PySem PySem.Spec PyProof.Rows
theorem Gb{α β:Type}{F:α->β->Prop}{l' m':List β}(h:l'.Perm m'):∀{l:List α},Paired F l l'->∃m,m.Perm l/\Paired F m m':=by
 induction h with
 | nil=>exact fun{l} p=>⟨l,List.Perm.refl _,p⟩
 | cons x _ ih =>
   intro l p;cases p with
   | @cons a _ as _ h t =>
     obtain⟨m,Y,O⟩:=ih t;exact⟨a::m,Y.cons a,.cons h O⟩
 | swap x y l =>
   intro k p;cases p with
   | @cons a _ as _ h t =>
     cases t with
     | @cons b _ bs _ h2 t2=>exact⟨b::a::bs,List.Perm.swap ..,.cons h2 (.cons h t2)⟩
 | trans _ _ i1 i2 =>
   intro l p;obtain⟨m,Y,O⟩:=i1 p;obtain⟨m2,W,J⟩:=i2 O;exact⟨m2,W.trans Y,J⟩
section
variable {prog:ai}{w:ar}{A:aw}{E:ac->ae->Prop}{s:ae}{a kS:aa}{vs:List ac}{kz:List Int}{keys:Array ac}{e e1:Nat}{P:PySem.Fin->ae->Prop}
set_option maxHeartbeats 4000000 in
theorem Jh{st:SortSt}(nk:s.heap.get? kS=some (aA "list" keys e))(na:s.heap.get? a=some (aA "list" #[] e1))(ak:kS≠a)
 (hk:bz keys.toList kz) (ap:kz.length=vs.length) (as:vs.length<64) (hp:(arrOf st).Perm (keys.zip vs.toArray)) (hs:SortedTo (arrOf st) (arrOf st).size) (al:failedOf st=none)
 (h:∀h' W c,(∀b o,b≠kS->b≠a->s.heap.get? b=some o->h'.get? b=some o)->h'.get? a=some (aA "list" W c)->KskOut false kz vs W.toList->P (.done (.ret .none)) { s with heap:=h' }) :
 am (ao prog w) A (ksk_tail a false e1 (.ref kS) st) P E s:=by
 have hsz:keys.size=vs.length:=by
  have h1:=hk.length;rw[Ui]at h1
  lia
 have J:(arrOf st).size=vs.length:=by rw[hp.size_eq,Array.size_zip,hsz,UQ,Nat.min_self]
 have O:((arrOf st).map (·.2)).size=vs.length:=by rw[Array.size_map];exact J
 have s1:=Heap.SameBut.update s.heap kS (Obj.mapSeq fun _=>(#[]:Array ac));have Y:(s.heap.update kS (Obj.mapSeq fun _=>(#[]:Array ac))).get? a=some (aA "list" #[] e1):=(s1.2 a ak.symm).trans na;have s2:=Heap.SameBut.update (s.heap.update kS (Obj.mapSeq fun _=>(#[]:Array ac))) a (Obj.mapSeq fun _=>(arrOf st).map (·.2));obtain⟨c2,an⟩:∃c2,((s.heap.update kS (Obj.mapSeq fun _=>(#[]:Array ac))).update a (Obj.mapSeq fun _=>(arrOf st).map (·.2))).get? a=some (aA "list" ((arrOf st).map (·.2)) c2):=⟨_,get?_update_seq Y fun _=>(arrOf st).map (·.2)⟩;unfold ksk_tail
 try dsimp only
 refine ad (bR nk rfl ?_ (by rw[hsz,aJ];lia) (Uo _))
 refine ad (wpAny_letGo ?_);refine ad (seqEpoch_at Y rfl ?_);refine ad (bR Y rfl ?_ (Uo _) (U6 (Wz O) (by rw[aJ];lia)))
 rw[al];simp only[bne_self_eq_false,Bool.false_eq_true,if_false];exact ah (h _ _ c2 (fun b o h1 h2 q=>(s2.2 b h2).trans ((s1.2 b h1).trans q)) an (ksk_out (b:=false) hk hp hs))
set_option maxHeartbeats 4000000 in
theorem O4(nk:s.heap.get? kS=some (aA "list" keys e))(na:s.heap.get? a=some (aA "list" #[] e1))(al:kS≠a)
 (hk:bz keys.toList kz) (W:kz.length=vs.length) (O:vs.length<64)
 (h:∀h' ak c,(∀b o,b≠kS->b≠a->s.heap.get? b=some o->h'.get? b=some o)->h'.get? a=some (aA "list" ak c)->KskOut false kz vs ak.toList->P (.done (.ret .none)) { s with heap:=h' }) :
 am (ao prog w) A (ksk_end a false vs.toArray e1 (.ref kS) keys) P E s:=by
 have hsz:keys.size=vs.length:=by
  have h1:=hk.length;rw[Ui]at h1
  lia
 have J:(keys.zip vs.toArray).size=vs.length:=by rw[Array.size_zip,hsz,UQ,Nat.min_self]
 unfold ksk_end
 try dsimp only
 simp only[Bool.false_eq_true,if_false];by_cases h2:vs.toArray.size<2
 ·rw[if_pos h2,if_pos h2];refine ad (ah ?_);rw[StateT.run_pure];refine ad (ah ?_)
  try dsimp only
  refine Jh (st:=SortSt.mk' general' (keys.zip vs.toArray) #[] 7 none) nk na al hk W O (Array.Perm.refl _) ?_ rfl h;intro i j ap hj;have an:j<(keys.zip vs.toArray).size:=hj;rw[J]at an;rw[UQ]at h2;have:i=j:=by lia
  subst this;exact Int.le_refl _
 ·rw[if_neg h2,if_neg h2];rw[UQ]at h2;rw[ksk_kind hk (by rw[hsz];lia)]
  refine ad (ah ?_)
  refine ad (az (wpS_sortRuns (a₀:=keys.zip vs.toArray) (st:=SortSt.mk' oneType' (keys.zip vs.toArray) #[] 7 none)
   (Q:=fun _ Y=>(arrOf Y).Perm (keys.zip vs.toArray)/\failedOf Y=none/\SortedTo (arrOf Y) (keys.zip vs.toArray).size)
   (ksk_intKeys hk) ⟨Array.Perm.refl _,Z,Z,Z⟩ (by rw[J];lia) (by rw[J];exact O) fun Y a1 a2 a3=>⟨a1,a2,a3⟩) ?_ fun _ _ e=>e)
  rintro⟨⟨⟩,Y⟩ s' ⟨rfl,hp,hf,hs⟩
  try dsimp only
  exact Jh nk na al hk W O hp (by rw[hp.size_eq];exact hs) hf h
end
section
variable {X:Cx}{pins:List (aa×Obj)}{σ:St}{H:Hp}{A:aw}{E:ac->ae->Prop}{a kS:aa}{vs:List ac}{kz:List Int}{e1:Nat}{P:PySem.Fin->ae->Prop}{f:ac}
set_option maxHeartbeats 4000000 in
theorem Mz{s:ae}(fa:Ei X pins H a)(fk:Ei X pins H kS)(ap:kS≠a)(I:Inv X (pins++[(a,aA "list" #[] e1),(kS,aA "list" #[] 0)]) σ H s)(as:kz.length=vs.length)(aP:vs.length<64)
 (aC:∀(i:Nat) (v:ac) (k:Int),vs[i]? = some v->kz[i]? = some k->∀(pins':List (aa×Obj)) (s':ae),Inv X pins' σ H s'->am (ao X.prog X.w) A (call f [v]) (fun u Y=>(∃t,u = .int k t)/\Inv X pins' σ H Y) (fun _ _=>False) s')
 (h:∀s' O c,Inv X pins σ H s'->s'.heap.get? a=some (aA "list" O c)->KskOut false kz vs O.toList->P (.done (.ret .none)) s') :
 am (ao X.prog X.w) A (ksk_rest a f false vs.toArray e1 (.ref kS)) P E s:=by
 unfold ksk_rest;refine ad (wpAny_rule ?_)
 first
  | rw[List.forIn_toArray]
  | (rw[<- W8];simp only[List.toList_toArray])
  | rw[<- W8]
 have aF:∀{W:Array ac} {e:Nat} {s':ae},Inv X (pins++[(a,aA "list" #[] e1),(kS,aA "list" W e)]) σ H s'->Inv X pins σ H s'/\s'.heap.get? a=some (aA "list" #[] e1)/\s'.heap.get? kS=some (aA "list" W e):=fun{W e s'} J =>
  ⟨J.pins_of fun p hp=>J.pin p (Um _ (Ud _ hp)),(J.pin (a,aA "list" #[] e1) (Um _ (Um _ (.head _)))).1,(J.pin (kS,aA "list" W e) (Um _ (Um _ (.tail _ (.head _))))).1⟩
 refine ad (ksk_fold (fun i s'=>∃W e,Inv X (pins++[(a,aA "list" #[] e1),(kS,aA "list" W e)]) σ H s'/\bz W.toList (kz.take i)) vs 0 s ⟨#[],0,I,by simpa using IntsAre.nil⟩ ?step ?done)
 case step =>
  rintro j x s' hx ⟨W,e,I',hk⟩;simp only[W5]at hk ⊢;have hj:j<vs.length:=(Ue.mp hx).1;obtain⟨k,al⟩:∃k,kz[j]? = some k:=⟨_,Vy (by lia)⟩
  have hz:W.size<=vs.length:=by
   have h1:=hk.length;rw[Ui,Uy]at h1
   lia
  refine ad (bj (az (aC j x k hx al _ s' I') (fun v Y he=>?_) fun _ _ hF=>hF.elim));obtain⟨⟨t2,rfl⟩,I2⟩:=he;obtain⟨I3,pa,pk⟩:=aF I2
  try dsimp only
  have s1:=Heap.SameBut.update Y.heap kS (Obj.mapSeq (·.push (.int k t2)));obtain⟨c2,a0⟩:∃c2,(Y.heap.update kS (Obj.mapSeq (·.push (.int k t2)))).get? kS=some (aA "list" (W.push (.int k t2)) c2):=⟨_,get?_update_seq pk (·.push (.int k t2))⟩;have ek:kz.take (j+1)=kz.take j++[k]:=by rw[Vj,al];simp
  have ea:(W.push (Value.int k t2)).toList=W.toList++[Value.int k t2]:=by simp
  refine ad (bR pk rfl ?_ (by rw[aJ];lia) (U6 (Wz (Wh ..)) (by rw[aJ];lia)))
  refine ah ⟨Z,W.push (.int k t2),c2,?_,by rw[ea,ek];exact ksk_snoc hk⟩
  have I4:Inv X pins σ H { Y with heap:=Y.heap.update kS (Obj.mapSeq (·.push (.int k t2))),toks:=Y.toks }:=I3.turned (it:=kS) (fun b o hb q=>(s1.2 b hb).trans q) fk.1 fk.2.1 fk.2.2.2.1 fk.2.2.2.2.1 fk.2.2.2.2.2
  refine I4.pins_of fun p hp=>?_
  rcases Uc.mp hp with z | z
  ·exact I4.pin p (Um _ z)
  ·rcases Ub.mp z with rfl | z
   ·exact⟨(s1.2 a ap.symm).trans pa,fa.1,fa.2.1,fa.2.2.1,fun v z=>by cases z⟩
   ·rw[Vx.mp z];exact⟨a0,fk.1,fk.2.1,fk.2.2.1,fun v z=>by cases z⟩
 case done =>
  rintro s' ⟨W,e,I',hk⟩
  have ba:bz W.toList kz:=by
   have e3:kz.take (0+vs.length)=kz:=VW (by lia)
   rw[e3]at hk;exact hk
  obtain⟨I3,pa,pk⟩:=aF I'
  try dsimp only
  refine ad (listItems_at pk rfl ?_);refine O4 pk pa ap ba as aP fun h' O c an ak ko=>h _ O c ?_ ak ko
  exact I3.turnedL (t':=s'.toks) (ch:=[kS,a]) (fun b o hb q=>an b o (fun z=>hb (by rw[z];simp)) (fun z=>hb (by rw[z];simp)) q) fun b hb=>by
   rcases Ub.mp hb with rfl | hb
   ·exact fk
   ·rw[Vx.mp hb];exact fa
end
theorem Kj{xs:List V}{us:List ac}(r:AI xs us):∀kz:List Int,Paired (fun(p:Int×V) (q:Int×ac)=>p.1=q.1/\AR p.2 q.2) (kz.zip xs) (kz.zip us):=by
 induction r with
 | nil=>intro kz;rw[List.zip_nil_right,List.zip_nil_right];exact .nil
 | cons h _ ih =>
   intro kz;cases kz with
   | nil=>exact .nil
   | cons k kz=>exact .cons ⟨Z,h⟩ (ih kz)
theorem Kl{zs:List (Int×V)}{ps:List (Int×ac)}(h:Paired (fun(p:Int×V) (q:Int×ac)=>p.1=q.1/\AR p.2 q.2) zs ps):zs.map Prod.fst=ps.map Prod.fst:=by
 induction h with
 | nil=>rfl
 | cons h _ ih=>rw[UX,UX,ih,h.1]
theorem Kk{zs:List (Int×V)}{ps:List (Int×ac)}(h:Paired (fun(p:Int×V) (q:Int×ac)=>p.1=q.1/\AR p.2 q.2) zs ps):AI (zs.map Prod.snd) (ps.map Prod.snd):=by
 induction h with
 | nil=>exact .nil
 | cons h _ ih=>exact .cons h.2 ih
theorem Inv.own{X:Cx}{pins:List (aa×Obj)}{σ:St}{H:Hp}{s:ae}{D:aa}{o:HO}(J:Inv X pins σ H s)(fp:Ei X pins H D)(Y:BW X.prog X.w (upd H D o) s.heap D o):Inv X pins σ (upd H D o) s:=by
 have nD:∀{b:aa} {u:HO},H b=some u->b≠D:=fun{b u} e z=>by rw[z,fp.1]at e;cases e
 refine J.step (g':=s.gens) (d':=s.drawn) (t':=s.toks) (h':=s.heap) (ch:=[D]) (fun b W=>?_) (fun b o _ _ _ e _=>e) (fun b o _ _ _ e _=>⟨o.slots,e⟩) (fun b o hc e n=>by rw[Am (fun z=>hc (by simp[z]))];exact n)
  (fun b o _ e=>⟨o,e⟩) (fun b xs e=>by rw[Am (nD e)];exact e) (fun b o u e=>by rw[Am (nD e)];exact e) (fun b ps e=>⟨#[],by rw[Am (nD e),e];simp⟩) (fun m O=>O) (fun b u e=>?_) J.bare
 ·rw[Vx.mp W];exact⟨fp.2.2.2.1,fp.2.1,fp.2.2.2.2.1,fp.2.2.2.2.2⟩
 ·by_cases z:b=D
  ·subst z;rw[Aa]at e;cases e;exact Y
  ·rw[Am z]at e;exact(J.hok b u e).stay (fun _ _ _ q=>q) (fun c q=>by rw[Am (nD q)];exact q) fun c xs q=>by rw[Am (nD q)];exact q
section
variable {X:Cx}{pins:List (aa×Obj)}{σ:St}{H:Hp}{E:ac->ae->Prop}{kz:List Int}{f:aa}{s:ae}{l:aa}{xs:List V}{Q:VK}
set_option maxHeartbeats 4000000 in
theorem K8(I:Inv X pins σ H s)(hl:SqL X.K H l xs)(bn:kz.length=xs.length)(bp:xs.length<64)
 (bc:∀(i:Nat) (x:V) (k:Int) (v:ac),xs[i]? = some x->kz[i]? = some k->AR x v->∀(pins':List (aa×Obj)) (s':ae),Inv X pins' σ H s'->am (ao X.prog X.w) X.A.in1.in1 (call (.ref f) [v]) (fun u bf=>(∃t,u = .int k t)/\Inv X pins' σ H bf) (fun _ _=>False) s')
 (q:∀p ys,H p=none->(∃zs:List (Int×V),zs.Perm (kz.zip xs)/\ys=zs.map Prod.snd/\zs.Pairwise fun p q=>p.1<=q.1)->Q (.ref p) (upd H p (.lst ys))) :
 am (ao X.prog X.w) X.A (call (.builtin "sorted") [.ref l] [(Str.ofString "key",.ref f)]) (EP X pins σ Q) E s:=by
 obtain⟨vs,r,ht,hz⟩:=I.list hl;have bq:vs.length=xs.length:=r.length.symm;refine call_function_entry_kw kind_sorted plain_sorted entry_sorted (ksk_s1 _ _) ?_;unfold Builtin.«sorted»;refine ad (m:=checkCount "sorted" 1 1 _) (ah ?_);refine ad (collect_list ht.isList ?_ (by rw[aJ];lia))
 refine ad (wpAny_newList ?_ (by rw[aJ];lia))
 have hsz:((s.heap.push (aA "list" #[] 0)).update s.heap.objs.size (Obj.mapSeq (· ++ vs.toArray))).objs.size=s.heap.objs.size+1:=by
  rw[Heap.size_update,size_push']
 have Y:(((s.heap.push (aA "list" #[] 0)).update s.heap.objs.size (Obj.mapSeq (· ++ vs.toArray))).push (aA "list" vs.toArray 0)).get? (s.heap.objs.size+1)=some (aA "list" vs.toArray 0):=by
  rw[<- hsz];exact Heap.get?_push_size _ rfl
 have aC:∀b o,s.heap.get? b=some o->(((s.heap.push (aA "list" #[] 0)).update s.heap.objs.size (Obj.mapSeq (· ++ vs.toArray))).push (aA "list" vs.toArray 0)).get? b=some o:=fun b o q=>by
  have ap:b<s.heap.objs.size:=Heap.lt_size q;rw[Heap.get?_push_ne _ _ _ (by rw[hsz];exact TZ (Vw ap)),Heap.get?_update_ne _ _ _ _ (TZ ap),Heap.get?_push_ne _ _ _ (TZ ap)]
  exact q
 show am _ _ _ _ _ { s with heap:=((s.heap.push (aA "list" #[] 0)).update s.heap.objs.size (Obj.mapSeq (· ++ vs.toArray))).push (aA "list" vs.toArray 0) }
 rw[hsz];have I1:Inv X pins σ H { s with heap:=((s.heap.push (aA "list" #[] 0)).update s.heap.objs.size (Obj.mapSeq (· ++ vs.toArray))).push (aA "list" vs.toArray 0),toks:=s.toks }:=I.kept aC
 have bb:H (s.heap.objs.size+1)=none:=I.hok.fresh (Nat.le_succ _);have O:Ei X pins H (s.heap.objs.size+1):=I.fpOk (Nat.le_succ _) bb;refine ad (ax (wpAny_call_entry_kw slot_list_sort ⟨_,Y,Z⟩ entry_list_sort ?body (ksk_l1 _ _)))
 case body =>
  show am (ao X.prog X.w) X.A.in1.in1 (Builtin.«list.sort» ⟨[.ref (s.heap.objs.size+1)],[(Str.ofString "key",.ref f)]⟩) _ _ _;rw[ksk_t1];generalize((s.heap.push (aA "list" #[] 0)).update s.heap.objs.size (Obj.mapSeq (· ++ vs.toArray))).push (aA "list" vs.toArray 0)=h2 at Y I1 ⊢;have s1:=Heap.SameBut.update h2 (s.heap.objs.size+1) (Obj.mapSeq fun _=>(#[]:Array ac));obtain⟨e1,an⟩:∃e1,(h2.update (s.heap.objs.size+1) (Obj.mapSeq fun _=>(#[]:Array ac))).get? (s.heap.objs.size+1)=some (aA "list" #[] e1):=⟨_,get?_update_seq Y fun _=>#[]⟩;unfold ksk_tree;refine ad (listItems_at Y rfl ?_);refine ad (bR Y rfl ?_ (by rw[UQ,aJ];lia) (Uo _))
  refine ad (seqEpoch_at an rfl ?_);refine ad (wpAny_newTuple ?_ (by show vs.length<=_;rw[aJ];lia))
  refine ad (wpAny_newList ?_ (Uo _));refine ax ?_;have I2:=I1.turned (it:=s.heap.objs.size+1) (t':=s.toks) (h':=h2.update (s.heap.objs.size+1) (Obj.mapSeq fun _=>(#[]:Array ac))) (fun b o hb q=>(s1.2 b hb).trans q) O.1 O.2.1 O.2.2.2.1 O.2.2.2.2.1 O.2.2.2.2.2;have I2:Inv X pins σ H { s with heap:=h2.update (s.heap.objs.size+1) (Obj.mapSeq fun _=>(#[]:Array ac)),toks:=s.toks }:=I2
  generalize h2.update (s.heap.objs.size+1) (Obj.mapSeq fun _=>(#[]:Array ac))=h3 at an I2 ⊢;have I3:Inv X pins σ H { s with heap:=h3.push (aA "tuple" vs.toArray 0),toks:=s.toks }:=I2.kept fun b o q=>Heap.get?_push_of_some _ q
  have ak:(h3.push (aA "tuple" vs.toArray 0)).get? (s.heap.objs.size+1)=some (aA "list" #[] e1):=Heap.get?_push_of_some _ an;show am _ _ _ _ _ { s with heap:=(h3.push (aA "tuple" vs.toArray 0)).push (aA "list" #[] 0) }
  generalize h3.push (aA "tuple" vs.toArray 0)=h4 at I3 ak ⊢;have bg:H h4.objs.size=none:=I3.hok.fresh (Uk _);have fk:Ei X pins H h4.objs.size:=I3.fpOk (Uk _) bg;have bh:h4.objs.size≠s.heap.objs.size+1:=Uj (Heap.lt_size ak);have I4:Inv X pins σ H { s with heap:=h4.push (aA "list" #[] 0),toks:=s.toks }:=I3.kept fun b o q=>Heap.get?_push_of_some _ q
  refine Mz (a:=s.heap.objs.size+1) (kS:=h4.objs.size) (e1:=e1) (kz:=kz) (vs:=vs) O fk bh (I4.pins_of fun p hp=>?_) (by lia) (by lia) (fun i v k hv hk pins' s' I'=>?_) fun s' bd c J as ko=>⟨_,Z,?_⟩
  ·rcases Uc.mp hp with z | z
   ·exact I4.pin p (Um _ z)
   ·rcases Ub.mp z with rfl | z
    ·exact⟨Heap.get?_push_of_some _ ak,O.1,O.2.1,O.2.2.1,fun v z=>by cases z⟩
    ·rw[Vx.mp z];exact⟨Heap.get?_push_size _ rfl,fk.1,fk.2.1,fk.2.2.1,fun v z=>by cases z⟩
  ·have hi:i<xs.length:=by have:=(Ue.mp hv).1;lia
   have hx:xs[i]? = some xs[i]:=Vy hi;obtain⟨u,hu,ru⟩:=r.get hx;rw[hv]at hu;cases hu;exact bc i _ k v hx hk ru pins' s' I'
  ·refine ah ⟨_,Z,?_⟩;obtain⟨ps,al,ba,W⟩:=ko;obtain⟨zs,aP,aF⟩:=Gb al.symm (Kj r kz);have a0:=Kk aF;rw[<- ba]at a0
   have bl:(zs.map Prod.snd).length<=af:=by
    rw[UI,aP.length_eq,WA,aJ];lia
   have be:zs.Pairwise fun p q=>p.1<=q.1:=by
    have h1:(zs.map Prod.fst).Pairwise (· <= ·):=by
     rw[Kl aF];exact WC.mpr (W.imp fun h=>by simpa using h)
    exact WC.mp h1
   refine⟨.ref (s.heap.objs.size+1),upd H (s.heap.objs.size+1) (.lst (zs.map Prod.snd)),J.own O ⟨bl,bd.toList,c,a0,?_⟩,Z,q _ _ bb ⟨zs,aP,Z,be⟩⟩;rw[as]
end
theorem PH{cs:List aa}{H:Hp}:onC cs H (offC cs H)=H:=by
 funext b
 by_cases h:b∈cs
 ·rw[Fb h]
 ·rw[De h,BV h]
theorem Lh{cs:List aa}{W:aa->Obj}{H:Hp}(Y:∀c∈cs,H c=none):offC cs (Di cs W H)=H:=by
 funext b
 by_cases h:b∈cs
 ·rw[Ec h,Y b h]
 ·rw[BV h,BR h]
theorem PY{P:ai}{w:ar}{K:U5}{mg:Str->Option ac}{base:au}{k:Nat}{f c' Pt:aa}{q:Str}{Y:aZ}{body:Expr}{scope:aB}{cl:List (Str×aa)}{pm al:ac}{env:Env}{N ps fr:List Str}{σ:St}{os:aa->Obj}{H1 H2:Hp}{ws:List V}{Ok:List V->V->Prop}
 (LN:EM H1 H2 Pt q f c' (Wm "<lambda>" q Y body scope cl pm (.ref c') al)) (C:Hq env cl) (O:∀x∈scope.names,x.2 = .free->∃c,(x.1,c)∈cl) (ak:∀c∈cl.map (·.2),H2 c=none) (aC:K2 N σ env.scope cl os)
 (S:NT scope ps) (ap:∀us:List ac,us.length=ps.length->∀(j:Nat) (x:Str) (u:ac),ps[j]? = some x->us[j]? = some u->(ps.zip us).reverse.lookup x=some u)
 (aF:Cap env.scope scope N σ fr ws)
 (W:∀(A:aw) (outer:List Env) (s:ae) (E:XK) (vs:List V) (r:V) (H':Hp) (Q:VK),BM k (A.deeper (Wk q scope s.heap.objs.size f (.ref c') cl))->vs.length=ps.length->Ok vs r->Ae H2 H'->Q r H' ->
  ∃t,PE (Hm CX0 P w K mg base (ps++fr) q scope f (.ref c') cl A outer s H' E) body t/\t (vs.map some++ws.map some) H' Q) :
 Ay P w K mg base CX0 (k+1) f (Wm "<lambda>" q Y body scope cl pm (.ref c') al) ps (fun vs H Q _=>vs.length=ps.length/\Ae (Di (cl.map (·.2)) os H2) H/\∃r,Ok vs r/\Q r H):=by
 have as:Ae H2 (Di (cl.map (·.2)) os H2):=Ae.trk ak;refine PX (N:=ps++fr) (fun vs H Q E h=>h.1) ap fun A outer s H vs Q E hr h=>?_;obtain⟨hl,hm,r,ho,hq⟩:=h;have J:=as.trans hm;have L:=JG S C O aC aF hl hm;have an:Ae H2 (offC (cl.map (·.2)) H):=Ae.untrk hm ak;obtain⟨t,h1,h2⟩:=W A outer s E vs r (offC (cl.map (·.2)) H) (fun v H'=>(∀c∈cl.map (·.2),H' c=none)->Q v (onC (cl.map (·.2)) H H')) hr hl ho an fun _=>by rw[PH];exact hq
 exact⟨J _ _ LN.lam,J _ _ LN.cod,_,L,t,h1,h2,fun e s' z=>z.elim⟩
abbrev Cx.deep(X:Cx)(A:aw):Cx:={ X with A:=A }
theorem Inv.deep{X:Cx}{pins:List (aa×Obj)}{σ:St}{H:Hp}{s:ae}{A:aw}(I:Inv X pins σ H s)(h1:A.handled=X.A.handled)(h2:A.frames=X.A.frames):Inv (X.deep A) pins σ H s :=
 ⟨⟨I.ok.mod,I.ok.kind,I.ok.glob,I.ok.blt,I.ok.above,I.ok.inj,I.ok.has,I.ok.cab,fun z=>by rw[show(X.deep A).A.handled=A.handled from rfl,h1];exact I.ok.hd z,by rw[show(X.deep A).A.frames=A.frames from rfl,h2];exact I.ok.frames,I.ok.stk,I.ok.exf,I.ok.bs,I.ok.bsz,I.ok.noex,I.ok.exfs,I.ok.funs,I.ok.frf⟩,I.os,I.bare,I.base,I.loc,I.cell,I.free,I.freeC,I.pin,I.hok,I.len⟩
theorem Inv.undeep{X:Cx}{pins:List (aa×Obj)}{σ:St}{H:Hp}{s:ae}{A:aw}(I:Inv (X.deep A) pins σ H s)(h1:A.handled=X.A.handled)(h2:A.frames=X.A.frames):Inv X pins σ H s :=
 ⟨⟨I.ok.mod,I.ok.kind,I.ok.glob,I.ok.blt,I.ok.above,I.ok.inj,I.ok.has,I.ok.cab,fun z=>by rw[<- h1];exact I.ok.hd z,by rw[<- h2];exact I.ok.frames,I.ok.stk,I.ok.exf,I.ok.bs,I.ok.bsz,I.ok.noex,I.ok.exfs,I.ok.funs,I.ok.frf⟩,I.os,I.bare,I.base,I.loc,I.cell,I.free,I.freeC,I.pin,I.hok,I.len⟩
theorem Oa{X:Cx}{pins:List (aa×Obj)}{σ:St}{H:Hp}{s:ae}{A:aw}{k:Nat}{f:aa}{fd:ag}{ps:List Str}{us:List ac}{vs:List V}{cl:List (Str×aa)}{kk:Int}(O:A.handled=X.A.handled)(W:A.frames=X.A.frames)(hr:BM k A)(hb:Bv X.K fd ps [])(ak:∀y,X.fn y=true)(I:Inv X pins σ H s)(r:AI vs us)(C:Hq X.env cl)
 (h:∀Y,(∀c∈cl.map (·.2),H c=none)->K2 X.N σ X.env.scope cl Y->∃sp,Ay X.prog X.w X.K X.mg X.base CX0 k f fd ps sp/\∀Q:VK,Q (.int kk) (Di (cl.map (·.2)) Y H)->sp vs (Di (cl.map (·.2)) Y H) Q (fun _ _ _=>False)) :
 am (ao X.prog X.w) A (call (.ref f) us) (fun u s'=>(∃t,u = .int kk t)/\Inv X pins σ H s') (fun _ _=>False) s:=by
 have F:Ay X.prog X.w X.K X.mg X.base CX0 k f fd ps (fun vs H Q E=>∃sp,Ay X.prog X.w X.K X.mg X.base CX0 k f fd ps sp/\sp vs H Q E) :=
  ⟨fun vs H Q E ⟨sp,F,h⟩=>F.len vs H Q E h,fun A outer s H args us vs Q E hr he hb hv ⟨sp,F,h⟩=>F.run A outer s H args us vs Q E hr he hb hv h⟩
 have J:Inv ((X.nox).deep A) pins σ H s:=(I.wish _).deep O W;refine az (KU (X:=(X.nox).deep A) (CX:=CX0) (E:=fun _ _ _=>False) (Q:=fun v H'=>v = .int kk/\H'=H) F hr hb ak (fun e H' s' _ z=>z.elim) J r C fun Y hn hi=>?_) (fun u s' ⟨v,H',I',rv,ev,eH⟩=>?_) fun _ _ z=>z
 ·obtain⟨sp,F1,q⟩:=h Y hn hi;exact⟨sp,F1,q _ ⟨fun c hc=>Dd hc,Z,Lh hn⟩⟩
 ·subst ev;subst eH;obtain⟨t,rfl⟩:=rv;exact⟨⟨t,Z⟩,(I'.undeep O W).unwish⟩
theorem Ep{M:Model}{A:aw}{E:ac->ae->Prop}{s:ae}{pos:Pos}{id:String}{first:List ac}{args:List (Bool×Sem ac)}{Y:List (Option Str×Sem ac)}{Q:ac->ae->Prop}(W:(args.any (·.1)||Y.any (·.1.isNone))=false)
 (h:am M A (evalArgs (.builtin id) true args Y) (fun a O=>am M A (call (.builtin id) (first++a.pos) a.kw) Q E O) E s) :
 am M A (callWith pos (.builtin id) first args Y) Q E s:=by
 unfold callWith;refine ad (ax (az h (fun a O h₁=>ad (aV ?_)) fun _ _ x=>x));simp only[W];refine ad (ah ?_);exact ad (az h₁ (fun r J hr=>ad (ax (wpAny_point (ah hr)))) fun _ _ x=>x)
def Qt(env:Env)(N:List Str)(P:ai)(w:ar)(K:U5)(mg:Str->Option ac)(base:au)(k:Nat)(te tk:TE):TE:=fun σ H Q=>te σ H fun x H1=>∃l,x = .ref l/\tk σ H1 fun y H2=>∃(f:aa) (fd:ag) (ps:List Str) (cl:List (Str×aa)) (xs:List V) (kz:List Int),y = .ref f/\SqL K H2 l xs/\kz.length=xs.length/\xs.length<64/\Bv K fd ps []/\Hq env cl /\
 (∀os,(∀c∈cl.map (·.2),H2 c=none)->K2 N σ env.scope cl os->∃sp,Ay P w K mg base CX0 k f fd ps sp/\∀(i:Nat) (x:V) (kk:Int),xs[i]? = some x->kz[i]? = some kk->∀Q':VK,Q' (.int kk) (Di (cl.map (·.2)) os H2)->sp [x] (Di (cl.map (·.2)) os H2) Q' (fun _ _ _=>False)) /\
 ∀(p:aa) (ys:List V),H2 p=none->(∃zs:List (Int×V),zs.Perm (kz.zip xs)/\ys=zs.map Prod.snd/\zs.Pairwise fun p q=>p.1<=q.1)->Q (.ref p) (upd H2 p (.lst ys))
theorem MR(K:U5){X:Cx}{e W:Expr}{te tk:TE}{k m:Nat}{p pos kp:Pos}(hr:BM m X.A)(ak:∀y,X.fn y=true)(hg:Gl X "sorted")(hm:X.mg "sorted" = none)(he:PE X e te)(hk:PE X W tk)(an:k+2<=m:=by decide)(hs:aq [e] X.env=[(false,aD e X.env)]:=by rfl)(e0:X.K=K:=by rfl) :
 PE X (.Call (.Name "sorted" p) [e] [⟨some "key",W,kp⟩] pos) (Qt X.env X.N X.prog X.w K X.mg X.base k te tk):=by
 subst e0;intro pins s σ H Q I h;refine aG (Df I hg hm (show ay "sorted" = some (.builtin "sorted") by with_unfolding_all rfl) ?_ (by decide) (by decide))
 rw[hs];show am _ _ (callWith pos (.builtin "sorted") [] [(false,aD e X.env)] [(some "key",do let v <- aD W X.env;standAt pos;pure v)]) _ _ s
 refine Ep rfl (evalArgs_kw rfl ?_);refine Calls.spliced_cons (thn (he pins s σ H _ I h) fun u s1 ⟨x,H1,I1,r1,J⟩=>Calls.spliced_nil ?_);obtain⟨l,rfl,J⟩:=J;cases r1;show am _ _ (evalAll [do let v <- aD W X.env;standAt pos;pure v]) _ _ s1
 refine wpAny_evalAll_cons (ad (thn (hk pins s1 σ H1 _ I1 J) fun u s2 ⟨y,H2,I2,r2,q2⟩=>ad (aV (ah (wpAny_evalAll_nil ?_)))));obtain⟨f,fd,ps,cl,xs,kz,rfl,hl,Y,O,hb,C,hF,q⟩:=q2;cases r2;show am _ _ (call (.builtin "sorted") [.ref l] [(Str.ofString "key",.ref f)]) _ _ s2;exact K8 I2 hl Y O (fun i x kk v hx al rv pins' s' I'=>Oa rfl rfl (hr.mono an).in1.in1 hb ak I' (.cons rv .nil) C fun os hn hi=>let ⟨sp,F,qq⟩:=hF os hn hi;⟨sp,F,fun Q' hq=>qq i x kk hx al Q' hq⟩) q
abbrev EN(h:au)(z TI TO a:aa)(f:Bool):Prop :=
 h.get? z=some { cls:=.type "zip",dict:=none,data:=.fields #[aE a,.bool f,.bool false,.ref TI,.ref TO],slots:=#[] }
section
variable {prog:ai}{w:ar}{A:aw}{E:ac->ae->Prop}{s:ae}
theorem NW{a:aa}{o:Obj}{Q:Option Obj->ae->Prop}(Y:s.heap.get? a=some o)(h:Q (some o) s):am (ao prog w) A (loadIfAlive a) Q E s:=by
 have h':Q (s.heap.get? a) s:=by rw[Y];exact h
 exact fun _ _ _=>h'
theorem Mp{z TI TO a:aa}{f:Bool}{oa:Obj}{Q:Bool->ae->Prop}(hz:EN s.heap z TI TO a f)(ha:s.heap.get? a=some oa)
 (J:∀h',EN h' z TI TO a true->Heap.SameBut z s.heap h'->Q false { s with heap:=h' }):am (ao prog w) A (Builtin.SmallTypes.ownedTupleIsFree (.ref z)) Q E s:=by
 unfold Builtin.SmallTypes.ownedTupleIsFree;refine ad (aL hz rfl (x:=aE a) rfl ?_);show am _ _ (loadIfAlive ((a:Int).toNat) >>= _) _ _ _;rw[UM];refine ad (NW ha ?_);simp only[Option.isNone_some,Bool.false_eq_true,if_false];refine ad (aL hz rfl (x:=.bool f) rfl ?_);cases f with
 | true =>
   rw[if_neg (show ¬((Value.bool true != Value.bool true)=true) from Bool.false_ne_true)];exact ah (J _ hz (Heap.SameBut.refl _ _))
 | false =>
   rw[if_pos (show(Value.bool false != Value.bool true)=true from rfl)];refine ad (wpAny_setField_rec hz (by simp) fun O Y W=>?_)
   exact ah (J O Y W)
theorem Ik{z TI TO a i1 i2 l1 l2:aa}{f:Bool}{oa:Obj}{k1 k2:Nat}{xs ys:Array ac}{x y:ac}{Q:ac->ae->Prop}(D:bV z TI TO i1 i2 l1 l2)
 (hz:EN s.heap z TI TO a f) (ha:s.heap.get? a=some oa) (ba:aU s.heap TI (.ref i1) (.ref i2))
 (h1:s.heap.IsListIter i1 l1 k1) (h2:s.heap.IsListIter i2 l2 k2) (a0:s.heap.IsList l1 xs) (aP:s.heap.IsList l2 ys) (hx:xs[k1]? = some x) (hy:ys[k2]? = some y)
 (hQ:∀h',EN h' z TI TO a true->h'.IsListIter i1 l1 (k1+1)->h'.IsListIter i2 l2 (k2+1)->aU h' s.heap.objs.size x y->h'.objs.size=s.heap.objs.size+1 ->
  (∀c o,c≠z->c≠i1->c≠i2->s.heap.get? c=some o->h'.get? c=some o)->Q (.ref s.heap.objs.size) { s with heap:=h' }) :
 am (ao prog w) A (Builtin.«zip.__next__» ⟨[.ref z],[]⟩) (fun aF s'=>∃v,aF = .done (.ret v)/\Q v s') E s:=by
 show am _ _ (field (.ref z) 2 >>= _) _ _ _;refine ad (aL hz rfl (x:=.bool false) rfl ?_);show am _ _ (field (.ref z) 3 >>= _) _ _ _;refine ad (aL hz rfl (x:=.ref TI) rfl ?_);refine ad (wpAny_seqItems ba rfl ?_);show am _ _ (Builtin.SmallTypes.ownedTupleIsFree (.ref z) >>= _) _ _ _;refine ad (Mp hz ha fun h₁ ap Y=>?_);simp only[Bool.false_eq_true,if_false];refine ad ?_;simp only[<- W8,Vo,List.forIn_nil];refine ad (ad (ax ?_));show am _ _ (Builtin.SmallTypes.nextOf (.ref i1) >>= _) _ _ _;refine ad (wpAny_nextOf_list_item (h1.extBut Y.extBut D.i1z) (a0.extBut Y.extBut D.l1z) hx fun bb as W=>ah ?_);refine ah ?_;refine ad (ad (ax ?_));show am _ _ (Builtin.SmallTypes.nextOf (.ref i2) >>= _) _ _ _
 refine ad (wpAny_nextOf_list_item ((h2.extBut Y.extBut D.i2z).extBut W.extBut D.i12.symm)
  ((aP.extBut Y.extBut D.l2z).extBut W.extBut D.l2i1) hy fun O ak J=>ah ?_)
 refine ah (ah ?_);show am _ _ (newTuple [x,y] >>= _) _ _ _;refine ad (wpAny_newTuple ?_);have hsz:O.objs.size=s.heap.objs.size:=by rw[J.1,W.1,Y.1]
 have aC:EN O z TI TO a true:=J.extBut _ _ D.i2z.symm (W.extBut _ _ D.i1z.symm ap);have al:∀c o,c≠z->c≠i1->c≠i2->s.heap.get? c=some o->O.get? c=some o:=fun c o c1 c3 c4 e=>J.extBut _ _ c4 (W.extBut _ _ c3 (Y.extBut _ _ c1 e));have an:O.IsListIter i1 l1 (k1+1):=as.extBut J.extBut D.i12;refine ah ⟨_,Z,?_⟩;show Q (.ref O.objs.size) _;have hT:aU (O.push { cls:=.type "tuple",data:=.seq #[x,y] }) O.objs.size x y:=Heap.get?_push_size _ rfl;rw[hsz]at hT ⊢;exact hQ _ (Heap.get?_push_of_some _ aC) (an.at fun o e=>Heap.get?_push_of_some _ e) (ak.at fun o e=>Heap.get?_push_of_some _ e) hT (by rw[Heap.size_push,hsz]) fun c o c1 c2 c3 e=>Heap.get?_push_of_some _ (al c o c1 c2 c3 e)
theorem Je{z TI TO a i1 i2 l1 l2:aa}{f:Bool}{oa:Obj}{k1:Nat}{xs:Array ac}{Q:Fin->ae->Prop}(hh:A.handled=none)(D:bV z TI TO i1 i2 l1 l2)
 (hz:EN s.heap z TI TO a f) (ha:s.heap.get? a=some oa) (ak:aU s.heap TI (.ref i1) (.ref i2))
 (h1:s.heap.IsListIter i1 l1 k1) (J:s.heap.IsList l1 xs) (hx:xs[k1]? = none)
 (hE:∀h' e,(∀c o,c≠z->c≠i1->s.heap.get? c=some o->h'.get? c=some o)->(∃o,h'.get? e=some o/\o.cls = .type "StopIteration")->E (.ref e) { s with heap:=h' }) :
 am (ao prog w) A (Builtin.«zip.__next__» ⟨[.ref z],[]⟩) Q E s:=by
 show am _ _ (field (.ref z) 2 >>= _) _ _ _;refine ad (aL hz rfl (x:=.bool false) rfl ?_);show am _ _ (field (.ref z) 3 >>= _) _ _ _;refine ad (aL hz rfl (x:=.ref TI) rfl ?_);refine ad (wpAny_seqItems ak rfl ?_);show am _ _ (Builtin.SmallTypes.ownedTupleIsFree (.ref z) >>= _) _ _ _;refine ad (Mp hz ha fun h₁ al Y=>?_);simp only[Bool.false_eq_true,if_false];refine ad ?_;simp only[<- W8,Vo,List.forIn_nil];refine ad (ad (ax ?_));show am _ _ (Builtin.SmallTypes.nextOf (.ref i1) >>= _) _ _ _;refine ad (wpAny_nextOf_list_end hh (h1.extBut Y.extBut D.i1z) (J.extBut Y.extBut D.l1z) hx fun O e W he=>?_);exact hE O e (fun c o c1 c3 x=>W _ _ c3 (Y.extBut _ _ c1 x)) he
def ZSt(h:au)(z TI TO S:aa):Prop:=(IsZip h z TI TO .none/\∃a b,aU h TO a b)\/∃a f oa,EN h z TI TO a f/\h.get? a=some oa/\S<a
theorem OU{z TI TO S i1 i2 l1 l2:aa}{k1 k2:Nat}{xs ys:Array ac}{x y:ac}{Q:Option ac->ae->Prop}(D:bV z TI TO i1 i2 l1 l2)
 (hz:ZSt s.heap z TI TO S) (hS:S<s.heap.objs.size) (W:z<S/\TO<S/\i1<S/\i2<S) (ak:aU s.heap TI (.ref i1) (.ref i2))
 (h1:s.heap.IsListIter i1 l1 k1) (h2:s.heap.IsListIter i2 l2 k2) (O:s.heap.IsList l1 xs) (J:s.heap.IsList l2 ys) (hx:xs[k1]? = some x) (hy:ys[k2]? = some y)
 (hQ:∀h',ZSt h' z TI TO S->h'.IsListIter i1 l1 (k1+1)->h'.IsListIter i2 l2 (k2+1)->aU h' s.heap.objs.size x y->h'.objs.size=s.heap.objs.size+1 ->
  (∀c o,c≠z->c≠TO->c≠i1->c≠i2->s.heap.get? c=some o->h'.get? c=some o)->Q (some (.ref s.heap.objs.size)) { s with heap:=h' }) :
 am (ao prog w) A (bP (.ref z)) Q E s:=by
 rcases hz with ⟨hz,a,b,al⟩ | ⟨a,f,oa,hz,ha,Y⟩
 ·refine wpAny_pyNext_zip_item D hz ak al h1 h2 O J hx hy fun h' a1 a2 a3 a4 a5 a6 a7=>?_;exact hQ h' (.inr ⟨_,false,_,a1,a5,hS⟩) a3 a4 a5 a6 a7
 ·have hT:s.TypeIs (.ref z) "zip":=⟨_,hz,Z⟩;unfold bP
  exact ad (bj (wpAny_callSpecial?_slot (name:=Str.ofString "__next__") hT F.slot_zip_next
   (wpAny_call_entry F.slot_zip_next hT F.entry_zip_next
    (Ik D hz ha ak h1 h2 O J hx hy fun h' a1 a3 a4 a5 a6 a7=>ah (hQ h' (.inr ⟨a,true,oa,a1,a7 a oa (Uj (UZ W.1 Y)) (Uj (UZ W.2.2.1 Y)) (Uj (UZ W.2.2.2 Y)) ha,Y⟩) a3 a4 a5 a6 fun c o c1 _ c3 c4 e=>a7 c o c1 c3 c4 e)) (F.args_zip_next_1 _))))
theorem OV{z TI TO S i1 i2 l1 l2:aa}{k1 k2:Nat}{xs ys:Array ac}{Q:Option ac->ae->Prop}(hh:A.handled=none)(D:bV z TI TO i1 i2 l1 l2)
 (hz:ZSt s.heap z TI TO S) (W:aU s.heap TI (.ref i1) (.ref i2))
 (h1:s.heap.IsListIter i1 l1 k1) (h2:s.heap.IsListIter i2 l2 k2) (Y:s.heap.IsList l1 xs) (O:s.heap.IsList l2 ys) (hx:xs[k1]? = none)
 (hQ:∀h',(∀c o,c≠z->c≠TO->c≠i1->c≠i2->s.heap.get? c=some o->h'.get? c=some o)->Q none { s with heap:=h' }):am (ao prog w) A (bP (.ref z)) Q E s:=by
 rcases hz with ⟨hz,a,b,J⟩ | ⟨a,f,oa,hz,ha,ak⟩
 ·exact wpAny_pyNext_zip_end hh D hz W J h1 h2 Y O (.inl hx) hQ
 ·have hT:s.TypeIs (.ref z) "zip":=⟨_,hz,Z⟩;unfold bP
  refine ad (bj (wpAny_callSpecial?_slot (name:=Str.ofString "__next__") hT F.slot_zip_next
   (wpAny_call_entry F.slot_zip_next hT F.entry_zip_next (Je hh D hz ha W h1 Y hx fun h' e hk he=>?_) (F.args_zip_next_1 _))))
  obtain⟨o,ho,hc⟩:=he;refine ad (wpAny_isInstance (T:="StopIteration") (b:=true) ⟨o,ho,hc⟩ isSubtype_stop ?_);exact ah (hQ _ fun c o c1 _ c3 _ e=>hk c o c1 c3 e)
theorem ZSt.keep{h h':au}{z TI TO S:aa}(x:ZSt h z TI TO S)(W:∀b o,b≠S->h.get? b=some o->h'.get? b=some o)(h1:z≠S)(h2:TO≠S):ZSt h' z TI TO S:=by
 rcases x with ⟨hz,a,b,O⟩ | ⟨a,f,J,hz,ha,Y⟩
 ·exact .inl ⟨W _ _ h1 hz,a,b,W _ _ h2 O⟩
 ·exact .inr ⟨a,f,J,W _ _ h1 hz,W _ _ (Uj Y) ha,Y⟩
structure ZG(xs ys:Array ac)(S:aa)(h:au)(as:List aa):Prop where
 rise:as.Pairwise (· < ·)
 above:∀a∈as,S<a
 pairs:∀(j:Nat) (a:aa),as[j]? = some a->∃x y,xs[j]? = some x/\ys[j]? = some y/\aU h a x y
theorem ZG.there{xs ys:Array ac}{S:aa}{h:au}{Y:List aa}(g:ZG xs ys S h Y){a:aa}(O:a∈Y):a<h.objs.size:=by
 obtain⟨j,W⟩:=List.mem_iff_getElem?.mp O;obtain⟨_,_,_,_,e⟩:=g.pairs j a W;exact Heap.lt_size e
end
section
variable {prog:ai}{w:ar}{A:aw}{s:ae}{R:Result->ae->Prop}{xs ys:Array ac}{S z TI TO i1 i2 l1 l2 lo:aa}
structure NN(z TI TO i1 i2 l1 l2 lo S:aa):Prop where
 ap:bV z TI TO i1 i2 l1 l2
 z1:lo<=z
 TO1:lo<=TO
 i11:lo<=i1
 i21:lo<=i2
 z2:z<S
 TI2:TI<S
 TO2:TO<S
 i12:i1<S
 i22:i2<S
 l1:l1<S
 l2:l2<S
 lS:lo<=S
theorem OT(hh:A.handled=none)(D:NN z TI TO i1 i2 l1 l2 lo S)(bn:xs.size=ys.size)(hn:xs.size<=af)(res:ac){h₁:au}
 (hR:∀h' tk J c as,(∀b o,b<lo->h₁.get? b=some o->h'.get? b=some o)->h'.get? S=some { cls:=.type "list",dict:=none,data:=.seq J c,slots:=#[] }->as.length=xs.size->ZG xs ys S h' as ->
  J.toList=as.map Value.ref->R (.ok (.ret res)) { s with heap:=h',toks:=tk }) :
 ∀ (k i:Nat) (h:au) (tk c:Nat) (J:Array ac) (as:List aa),xs.size-i=k->i<=xs.size->ZSt h z TI TO S->aU h TI (.ref i1) (.ref i2)->h.IsListIter i1 l1 i->h.IsListIter i2 l2 i->h.IsList l1 xs->h.IsList l2 ys->(∀b o,b<lo->h₁.get? b=some o->h.get? b=some o) ->
   h.get? S=some { cls:=.type "list",dict:=none,data:=.seq J c,slots:=#[] }->J.toList=as.map Value.ref->as.length=i->ZG xs ys S h as->S<h.objs.size ->
   aR (ao prog w) A (.builtin "list.extend.loop" ⟨[.ref S,.ref z,res],[]⟩) R { s with heap:=h,toks:=tk }:=by
 have W:∀b,b<lo->b≠z/\b≠TO/\b≠i1/\b≠i2/\b≠S:=fun b O=>⟨TZ (TX O D.z1),TZ (TX O D.TO1),TZ (TX O D.i11),TZ (TX O D.i21),TZ (TX O D.lS)⟩;have bb:∀b,S<b->b≠z/\b≠TO/\b≠i1/\b≠i2:=fun b O=>⟨Uj (UZ D.z2 O),Uj (UZ D.TO2 O),Uj (UZ D.i12 O),Uj (UZ D.i22 O)⟩;have Y:=D.ap;intro k
 induction k with
 | zero =>
   intro i h tk c J as hk hi bc ba h1 h2 a0 aP al hS an aF hG aC;refine aX PySem.F.entry_extend_loop ?_;rw[Around.under_plainId PySem.F.plain_extend_loop _];show am _ A.in1 (bP (.ref z) >>= _) _ _ _;refine ad (OV (s:={ s with heap:=h,toks:=tk }) (A:=A.in1) hh Y bc ba h1 h2 a0 aP (W0 (by lia)) fun h' he=>?_)
   refine ah (hR h' tk J c as (fun b o O e=>he b o (W b O).1 (W b O).2.1 (W b O).2.2.1 (W b O).2.2.2.1 (al b o O e)) (he S _ (Uj D.z2) (Uj D.TO2) (Uj D.i12) (Uj D.i22) hS) (by lia) ⟨hG.rise,hG.above,fun j a hj=>?_⟩ an)
   obtain⟨x,y,e1,e2,e3⟩:=hG.pairs j a hj;have p:=bb a (hG.above a (UG hj));exact⟨x,y,e1,e2,he a _ p.1 p.2.1 p.2.2.1 p.2.2.2 e3⟩
 | succ k ih =>
   intro i h tk c J as hk hi bc ba h1 h2 a0 aP al hS an aF hG aC;have bf:i<xs.size:=by lia
   have hx:xs[i]? = some xs[i]:=We bf;have hy:ys[i]? = some (ys[i]'(by lia)):=We (by lia)
   generalize xs[i]=x at hx;generalize ys[i]'(by lia)=y at hy
   have hsz:J.size=i:=by rw[<- Ui,an,UI,aF]
   refine aX PySem.F.entry_extend_loop ?_;rw[Around.under_plainId PySem.F.plain_extend_loop _];show am _ A.in1 (bP (.ref z) >>= _) _ _ _;refine ad (OU (s:={ s with heap:=h,toks:=tk }) (S:=S) Y bc aC ⟨D.z2,D.TO2,D.i12,D.i22⟩ ba h1 h2 a0 aP hx hy fun h' be bl bh ht hz ak=>?_)
   dsimp only at ht hz ak ⊢;have bg:=ak S _ (Uj D.z2) (Uj D.TO2) (Uj D.i12) (Uj D.i22) hS;have up:∀b o,b≠S->h'.get? b=some o->(h'.update S (Obj.mapSeq (·.push (Value.ref h.objs.size)))).get? b=some o:=fun b o O e=>(Heap.get?_update_other _ _ (Ne.symm O)).trans e;show am _ A.in1 (updateSeq S (·.push (Value.ref h.objs.size)) >>= _) _ _ _;refine ad ?_
   refine bv bg rfl (ah ⟨plainId_quiet PySem.F.plain_extend_loop _,ih (i+1) _ tk _ (J.push (Value.ref h.objs.size)) (as++[h.objs.size]) (by lia) bf (be.keep up (TZ D.z2) (TZ D.TO2))
    (up _ _ (TZ D.TI2) (ak _ _ Y.TIz Y.TITO Y.TIi1 Y.TIi2 ba)) (bl.at fun o e=>up _ o (TZ D.i12) e) (bh.at fun o e=>up _ o (TZ D.i22) e)
    (a0.at fun o e=>up _ o (TZ D.l1) (ak _ o Y.l1z Y.l1TO Y.l1i1 Y.l1i2 e)) (aP.at fun o e=>up _ o (TZ D.l2) (ak _ o Y.l2z Y.l2TO Y.l2i1 Y.l2i2 e))
    (fun b o O e=>up b o (W b O).2.2.2.2 (ak b o (W b O).1 (W b O).2.1 (W b O).2.2.1 (W b O).2.2.2.1 (al b o O e))) (Heap.get?_update_self _ bg rfl) (by rw[Array.toList_push,an,Vk];rfl) (by rw[UH,aF];rfl) ⟨?_,?_,?_⟩ ?_⟩) (by rw[hsz];lia) (by show(J.push (Value.ref h.objs.size)).size<=af+1;rw[Wh,hsz];lia)
   ·refine List.pairwise_append.mpr ⟨hG.rise,WD _ _,fun a ha b O=>?_⟩;rw[Vx.mp O];exact hG.there ha
   ·intro a ha
    rcases Uc.mp ha with ha | ha
    ·exact hG.above a ha
    ·rw[Vx.mp ha];exact aC
   ·intro j b hj
    rcases WE j as.length with q1 | q1 | q1
    ·rw[UB q1]at hj;obtain⟨x',y',e1,e2,e3⟩:=hG.pairs j b hj;have O:=hG.above b (UG hj);have p:=bb b O;exact⟨x',y',e1,e2,up b _ (Uj O) (ak b _ p.1 p.2.1 p.2.2.1 p.2.2.2 e3)⟩
    ·subst q1;have O:h.objs.size=b:=by simpa using hj
     subst O;exact⟨x,y,by rw[aF];exact hx,by rw[aF];exact hy,up _ _ (Uj aC) ht⟩
    ·have bd:(as++[h.objs.size])[j]? = none:=VS (by rw[UH,UW];lia)
     rw[bd]at hj;cases hj
   ·have e:(h'.update S (Obj.mapSeq (·.push (Value.ref h.objs.size)))).get? h.objs.size=_:=up _ _ (Uj aC) ht;exact UZ aC (Heap.lt_size e)
theorem K3:typeLookup (.type "zip") "__len__" = pure none:=by rw[typeLookup_type,builtinLookup_eq_fast];kernel_rfl
theorem Jd:typeLookup (.type "zip") "__length_hint__" = pure none:=by rw[typeLookup_type,builtinLookup_eq_fast];kernel_rfl
structure ZGo(h:au)(xs ys:Array ac)(z TI TO i1 i2 l1 l2:aa):Prop where
 zip:IsZip h z TI TO .none
 own:∃a b,aU h TO a b
 its:aU h TI (.ref i1) (.ref i2)
 it1:h.IsListIter i1 l1 0
 it2:h.IsListIter i2 l2 0
 ls1:h.IsList l1 xs
 ls2:h.IsList l2 ys
theorem ZGo.keep{h h':au}(g:ZGo h xs ys z TI TO i1 i2 l1 l2)(D:NN z TI TO i1 i2 l1 l2 lo S)(Y:∀b o,b≠S->h.get? b=some o->h'.get? b=some o):ZGo h' xs ys z TI TO i1 i2 l1 l2 :=
 ⟨Y _ _ (TZ D.z2) g.zip,let ⟨a,b,e⟩:=g.own;⟨a,b,Y _ _ (TZ D.TO2) e⟩,Y _ _ (TZ D.TI2) g.its,g.it1.at fun o e=>Y _ o (TZ D.i12) e,g.it2.at fun o e=>Y _ o (TZ D.i22) e,g.ls1.at fun o e=>Y _ o (TZ D.l1) e,g.ls2.at fun o e=>Y _ o (TZ D.l2) e⟩
theorem Mq(hh:A.handled=none)(D:NN z TI TO i1 i2 l1 l2 lo S)(g:ZGo s.heap xs ys z TI TO i1 i2 l1 l2)(aP:xs.size=ys.size)(hn:xs.size<=af)(res:ac)(an:Nat)(hS:s.heap.get? S=some { cls:=.type "list",data:=.seq #[] an })
 (hR:∀h' tk O c as,(∀b o,b<lo->s.heap.get? b=some o->h'.get? b=some o)->h'.get? S=some { cls:=.type "list",dict:=none,data:=.seq O c,slots:=#[] }->as.length=xs.size->ZG xs ys S h' as ->
  O.toList=as.map Value.ref->R (.ok (.ret res)) { s with heap:=h',toks:=tk }) :
 am (ao prog w) A.in1 (Builtin.List.listExtendWith (.ref S) (.ref z) res)
  (fun aF s'=>match aF with | .done f=>R (.ok f) s' | .again c'=>c'.quiet=true/\aR (ao prog w) A c' R s') (fun e s'=>R (.error e) s') s:=by
 have hT:s.TypeIs (.ref z) "zip":=⟨_,g.zip,Z⟩;have ap:S≠z:=Uj D.z2;unfold Builtin.List.listExtendWith;refine ad (wpAny_typeOf hT ?_);have h1:Builtin.List.listSameRef (.ref S) (.ref z)=false:=by simp[Builtin.List.listSameRef,ap]
 have h2:(Value.type "zip" == Value.type "list")=false:=by decide
 have h3:(Value.type "zip" == Value.type "tuple")=false:=by decide
 simp only[h1,h2,h3,Bool.or_false,Bool.false_eq_true,if_false];refine ad (wpAny_pyIter_zip g.zip ?_);refine ad (ax ?_);unfold Builtin.List.listLengthHint;refine ad (wpAny_specialOf hT K3 ?_);show am _ A.in1 (specialOf (Value.ref z) (Str.ofString "__length_hint__") >>= _) _ _ _;refine ad (wpAny_specialOf hT Jd ?_);refine ah ?_
 show am _ A.in1 (rule "list.extend.makes-room" >>= fun _=>Builtin.List.listTouch (.ref S) >>= fun _ =>
  again (.builtin "list.extend.loop" ⟨[.ref S,.ref z,res],[]⟩)) _ _ _
 refine ad (wpAny_rule ?_);refine ad ?_;show am _ A.in1 (updateSeq S (·.push .none) >>= fun _=>updateSeq S (·.pop)) _ _ _;refine ad (bv hS rfl ?_);have Y:=Heap.get?_update_self (Obj.mapSeq (·.push Value.none)) hS rfl;refine bv (hz:=by seq_fits) Y rfl ?_
 have W:=Heap.get?_update_self (Obj.mapSeq (·.pop)) Y rfl
 have al:∀b o,b≠S->s.heap.get? b=some o->((s.heap.update S (Obj.mapSeq (·.push Value.none))).update S (Obj.mapSeq (·.pop))).get? b=some o :=
  fun b o hb e=>(Heap.get?_update_other _ _ (Ne.symm hb)).trans ((Heap.get?_update_other _ _ (Ne.symm hb)).trans e)
 have g':=g.keep D al;have J:∀b,b<lo->b≠S:=fun b hb=>TZ (TX hb D.lS)
 refine ah ⟨plainId_quiet F.plain_extend_loop _,OT (s:=s) hh D aP hn res (h₁:=(s.heap.update S (Obj.mapSeq (·.push Value.none))).update S (Obj.mapSeq (·.pop))) (fun h' tk O c as hk a0 aC hG ak=>hR h' tk O c as (fun b o hb e=>hk b o hb (al b o (J b hb) e)) a0 aC hG ak) xs.size 0 _ s.toks _ _ [] rfl (Uo _)
  (.inl ⟨g'.zip,g'.own⟩) g'.its g'.it1 g'.it2 g'.ls1 g'.ls2 (fun b o _ e=>e) W rfl rfl ⟨.nil,(fun _ h=>nomatch h),fun j a e=>by simp at e⟩ (Heap.lt_size W)⟩
end
section
variable {prog:ai}{w:ar}{A:aw}{E:ac->ae->Prop}{s:ae}{xs ys:Array ac}{z TI TO i1 i2 l1 l2 lo:aa}
theorem HD{Q:ac->ae->Prop}(hh:A.handled=none)(D:NN z TI TO i1 i2 l1 l2 lo s.heap.objs.size)(g:ZGo s.heap xs ys z TI TO i1 i2 l1 l2)(aC:xs.size=ys.size)(hn:xs.size<=af)
 (hQ:∀h' tk Y c as,(∀b o,b<lo->s.heap.get? b=some o->h'.get? b=some o)->h'.get? s.heap.objs.size=some { cls:=.type "list",dict:=none,data:=.seq Y c,slots:=#[] }->as.length=xs.size->ZG xs ys s.heap.objs.size h' as ->
  Y.toList=as.map Value.ref->Q (.ref s.heap.objs.size) { s with heap:=h',toks:=tk }) :
 am (ao prog w) A (call (.type "list") [.ref z]) Q E s:=by
 refine callType_codes (Q₁:=fun ak W=>ak = .ref s.heap.objs.size/\W={ s with heap:=s.heap.push { cls:=.type "list",data:=.seq #[] } }) F.called_list (F.typeCall_list_1 _) F.entry_list_init
  (code_list_new _ ⟨Z,Z⟩) fun ak W h₁=>?_
 obtain⟨rfl,rfl⟩:=h₁;have hS:(s.heap.push { cls:=.type "list",data:=.seq #[] }).get? s.heap.objs.size=some { cls:=.type "list",data:=.seq #[] }:=Heap.get?_push_size _ rfl;refine⟨⟨_,hS,Z⟩,F.args_list_init_2 _ _,?_⟩;show am _ A.in1.in1 (do let old <- Builtin.List.listItems (.ref s.heap.objs.size);Builtin.List.listUpdate (.ref s.heap.objs.size) (fun _=>#[]);letGo old.toList.reverse;Builtin.List.listExtendWith (.ref s.heap.objs.size) (.ref z) .none) _ _ _
 refine ad ?_;unfold Builtin.List.listItems;refine ad (wpAny_seqItems hS rfl (ah ?_));show am _ A.in1.in1 (updateSeq s.heap.objs.size (fun _=>#[]) >>= fun _=>letGo (#[]:Array ac).toList.reverse >>= fun _=>Builtin.List.listExtendWith (.ref s.heap.objs.size) (.ref z) .none) _ _ _;refine ad (bv hS rfl ?_);have O:=Heap.get?_update_self (Obj.mapSeq (fun _=>(#[]:Array ac))) hS rfl
 have J:∀b o,b≠s.heap.objs.size->s.heap.get? b=some o->((s.heap.push { cls:=.type "list",data:=.seq #[] }).update s.heap.objs.size (Obj.mapSeq (fun _=>(#[]:Array ac)))).get? b=some o :=
  fun b o hb e=>(Heap.get?_update_other _ _ (Ne.symm hb)).trans (Heap.get?_push_of_some _ e)
 refine ad (wpAny_letGo ?_);refine Mq (A:=A.in1) hh D (g.keep D J) aC hn .none _ O fun h' tk Y c as hk an ap hG al=>?_;exact⟨Z,hQ h' tk Y c as (fun b o hb e=>hk b o hb (J b o (TZ (TX hb D.lS)) e)) an ap hG al⟩
end
theorem En{α β:Type}{F:α->β->Prop}:∀{l₁:List α} {l₂:List β},l₁.length=l₂.length->(∀(j:Nat) a b,l₁[j]? = some a->l₂[j]? = some b->F a b)->Paired F l₁ l₂
 | [],[],_,_=>.nil
 | a::r,b::t,hl,h=>.cons (h 0 a b rfl rfl) (En (Nat.succ.inj hl) fun j x y e1 e2=>h (j+1) x y (by simpa using e1) (by simpa using e2))
section
variable {X:Cx}
theorem Inv.tracked{pins:List (aa×Obj)}{σ:St}{H:Hp}{s:ae}{a:aa}{o:HO}(I:Inv X pins σ H s)(f:Ei X pins H a)(O:BW X.prog X.w (upd H a o) s.heap a o):Inv X pins σ (upd H a o) s:=by
 have Y:∀b u,H b=some u->b≠a:=fun b u e z=>by rw[z,f.1]at e;cases e
 have ho:=HOk.track I.hok f.1 O;obtain⟨hp,J,dd,tk,os⟩:=s;refine I.step (H':=upd H a o) (h':=hp) (g':=J) (t':=tk) (d':=dd) (ch:=[a]) ?_ ?_ ?_ ?_ ?_ ?_ ?_ ?_ ?_ ho I.bare
 ·intro b W;have e:b=a:=by simpa using W
  subst e;exact⟨f.2.2.2.1,f.2.1,f.2.2.2.2.1,f.2.2.2.2.2⟩
 ·intro b u _ _ _ e _;exact e
 ·intro b u _ _ _ e _;exact⟨u.slots,e⟩
 ·intro b u W _ n;rw[Am (fun z=>W (by simp[z]))];exact n
 ·intro b u _ e;exact⟨u,e⟩
 ·intro b us e;rw[Am (Y b _ e)];exact e
 ·intro b u v e;rw[Am (Y b _ e)];exact e
 ·intro b ps e;exact⟨#[],by rw[Am (Y b _ e),e];simp⟩
 ·intro m hm;exact hm
abbrev OH(H:Hp)(v:V)(p:V×V):Prop:=∃t,v = .ref t/\H t=some (.tup [p.1,p.2])
theorem LP{pins:List (aa×Obj)}{σ:St}{H0:Hp}{s0 s:ae}(I0:Inv X pins σ H0 s0):∀(Y:List aa) (ps:List (V×V)) (H:Hp),Inv X pins σ H s->(∀a∈Y,s0.heap.objs.size<=a/\H a=none)->Y.Nodup ->
 Paired (fun a (p:V×V)=>∃u v,AR p.1 u/\AR p.2 v/\aU s.heap a u v) Y ps->∃H',Inv X pins σ H' s/\Ae H H'/\(∀b,b∉Y->H' b=H b)/\Paired (OH H') (Y.map V.ref) ps:=by
 intro Y
 induction Y with
 | nil =>
   intro ps H I hn hd O;cases O;exact⟨H,I,Ae.refl _,fun _ _=>rfl,.nil⟩
 | cons a Y ih =>
   intro ps H I hn hd O
   obtain⟨p,W,rfl,⟨u,v,ru,rv,O⟩,t⟩:∃p W,ps=p::W/\(∃u v,AR p.1 u/\AR p.2 v/\aU s.heap a u v)/\Paired (fun a (p:V×V)=>∃u v,AR p.1 u/\AR p.2 v/\aU s.heap a u v) Y W:=by
    cases O with
    | cons h t=>exact⟨_,_,Z,h,t⟩
   have ha:=hn a U9;have ak:=Uv.mp hd;have al:BW X.prog X.w (upd H a (.tup [p.1,p.2])) s.heap a (.tup [p.1,p.2]):=⟨by show 2<=af;decide,[u,v],.cons ru (.cons rv .nil),⟨_,O,Z,0,Z⟩⟩
   have I1:Inv X pins σ (upd H a (.tup [p.1,p.2])) s:=Inv.tracked I (I0.fpOk ha.1 ha.2) al;obtain⟨H',I',s',k',q'⟩:=ih W _ I1 (fun b hb=>⟨(hn b (Ua _ hb)).1,by rw[Am (fun z:b=a=>ak.1 (z ▸ hb))];exact(hn b (Ua _ hb)).2⟩) ak.2 t
   refine⟨H',I',(Ae.new ha.2).trans s',fun b hb=>?_,.cons ⟨a,Z,s' _ _ Aa⟩ q'⟩;have J:b≠a/\b∉Y:=by simpa using hb
   rw[k' b J.2,Am J.1]
def R9(s s1:ae)(xs ys:Array ac)(l1 l2:aa)(u:ac):Prop :=
 ∃ h',u = .ref (s.heap.objs.size+4)/\s1={ s with heap:=h' }/\ZGo h' xs ys (s.heap.objs.size+4) (s.heap.objs.size+2) (s.heap.objs.size+3) s.heap.objs.size (s.heap.objs.size+1) l1 l2 /\
   NN (s.heap.objs.size+4) (s.heap.objs.size+2) (s.heap.objs.size+3) s.heap.objs.size (s.heap.objs.size+1) l1 l2 s.heap.objs.size h'.objs.size/\∀c o,s.heap.get? c=some o->h'.get? c=some o
theorem OS{P:ai}{w:ar}{A:aw}{E:ac->ae->Prop}{s:ae}{l1 l2:aa}{xs ys:Array ac}{Q:ac->ae->Prop}(Y:s.heap.IsList l1 xs)(W:s.heap.IsList l2 ys)(h:∀u s1,R9 s s1 xs ys l1 l2 u->Q u s1) :
 am (ao P w) A (call (.type "zip") [.ref l1,.ref l2]) Q E s:=by
 have la:l1<s.heap.objs.size:=by obtain⟨_,e,_⟩:=Y;exact Heap.lt_size e
 have lb:l2<s.heap.objs.size:=by obtain⟨_,e,_⟩:=W;exact Heap.lt_size e
 refine call_zip_2 Y W fun h' hz al an ak O hsz J=>h _ _ ⟨h',Z,Z,⟨hz,⟨_,_,an⟩,al,ak,O,Y.at fun o e=>J _ o e,W.at fun o e=>J _ o e⟩,?_,J⟩;rw[hsz];have p:∀a b:Nat,a<=b->s.heap.objs.size+a<=s.heap.objs.size+b:=fun a b h=>Nat.add_le_add_left h _;exact⟨zipApart_new la lb,W2 _ _,W2 _ _,Uk _,W2 _ _,p 5 5 (Uk _),p 3 5 (by decide),p 4 5 (by decide),p 1 5 (by decide),p 2 5 (by decide),TX la (W2 _ _),TX lb (W2 _ _),W2 _ _⟩
theorem NV{pins:List (aa×Obj)}{σ:St}{H:Hp}{s s':ae}{xs ys:List V}{Y W:List ac}{S:aa}{J:List aa}(I:Inv X pins σ H s)(hk:∀b o,s.heap.get? b=some o->s'.heap.get? b=some o)(al:∃h' tk,s'={ s with heap:=h',toks:=tk })(hS:s.heap.objs.size<=S)
 (r1:AI xs Y) (r2:AI ys W) (ap:J.length=xs.length) (aC:xs.length=ys.length) (hG:ZG Y.toArray W.toArray S s'.heap J):∃H',Inv X pins σ H' s'/\Ae H H'/\(∀b,b∉J->H' b=H b)/\Paired (OH H') (J.map V.ref) (xs.zip ys):=by
 obtain⟨h',tk,rfl⟩:=al;have I':Inv X pins σ H { s with heap:=h',toks:=tk }:=I.kept (t':=tk) hk
 refine LP I J (xs.zip ys) H I' (fun a ha=>?_) (hG.rise.imp fun h=>TZ h) ?_
 ·have O:=U6 hS (U7 (hG.above a ha));exact⟨O,I.hok.fresh O⟩
 ·refine En (by rw[WA];lia) fun j a p hj hp=>?_
  obtain⟨x,y,e1,e2,e3⟩:=hG.pairs j a hj;obtain⟨an,ak⟩:=WG.mp hp;obtain⟨u1,q1,q2⟩:=r1.get an;obtain⟨u2,q3,q4⟩:=r2.get ak;rw[List.getElem?_toArray]at e1 e2;rw[e1]at q1;cases q1;rw[e2]at q3;cases q3;exact⟨x,y,q2,q4,e3⟩
def tLZ(K:U5)(ta:TA):TE:=fun σ H Q=>ta σ H fun vs H1=>∃a b xs ys,vs=[.ref a,.ref b]/\SqL K H1 a xs/\SqL K H1 b ys/\xs.length=ys.length /\
 ∀l us H',Ae H1 H'->H1 l=none->H' l=some (.lst us)->Paired (OH H') us (xs.zip ys)->Q (.ref l) H'
theorem Ki(K:U5)(J:X.calm=true){e1 W:Expr}{ta:TA}{p p2 pos al:Pos}(bl:Gl X "list")(bc:X.mg "list" = none)(hg:Gl X "zip")(hm:X.mg "zip" = none)(ha:PA X [e1,W] ta)
 (hs:aq [e1,W] X.env=[(false,aD e1 X.env),(false,aD W X.env)]:=by rfl) (an:aq [W] X.env=[(false,aD W X.env)]:=by rfl)
 (hs0:aq [.Call (.Name "zip" p) [e1,W] [] pos] X.env=[(false,aD (.Call (.Name "zip" p) [e1,W] [] pos) X.env)]:=by rfl) (e:X.K=K:=by rfl) :
 PE X (.Call (.Name "list" p2) [.Call (.Name "zip" p) [e1,W] [] pos] [] al) (tLZ K ta):=by
 subst e;intro pins s σ H Q I h;refine Call_ (Df I bl bc LG (PyProof.Rows.callWith_type1 ?_ hs0 rfl));rw[hs0];refine Calls.spliced_cons (Q:=_) ?_;refine Call_ (Df I hg hm NC (PyProof.Rows.callWith_type1 (thn (ha pos pins s σ H _ I h) fun us s1 ⟨vs,H1,I1,r1,q1⟩=>?_) (by rw[hs,an]) (by rw[an];rfl)))
 obtain⟨a,b,xs,ys,e,bg,bh,bd,q⟩:=q1;subst e;obtain⟨u,u',rfl,ra,rb⟩:=Mr r1;cases ra;cases rb;obtain⟨bn,ap,p1,z1⟩:=I1.list bg;obtain⟨bp,aC,p2,_⟩:=I1.list bh;have n1:=ap.length;have n2:=aC.length;refine OS p1.isList p2.isList fun u s2 hM=>?_;obtain⟨h',rfl,rfl,g,D,hk⟩:=hM;refine Calls.spliced_nil ?_;refine HD (s:={ s1 with heap:=h' }) (I1.ok.hd J) D g (by simp;lia) (by simp;lia) fun h2 tk bq c O a0 hS ak hG aF=>?_
 have bf:∀b o,s1.heap.get? b=some o->h2.get? b=some o:=fun b o e=>a0 b o (Heap.lt_size e) (hk b o e);obtain⟨H',I',sm,ko,hp⟩:=NV (s':={ s1 with heap:=h2,toks:=tk }) I1 bf ⟨h2,tk,rfl⟩ D.lS ap aC (by rw[ak];simp;lia) bd hG
 have aP:H1 h'.objs.size=none:=I1.hok.fresh D.lS;have bb:h'.objs.size∉O:=fun z=>TY _ (hG.above _ z);have Y:H' h'.objs.size=none:=by rw[ko _ bb];exact aP
 have ba:AI (O.map V.ref) (O.map Value.ref):=En (by simp) fun j v u hv hu=>by
  rw[UC]at hv hu;cases z:O[j]? with
  | none=>rw[z]at hv;cases hv
  | some t=>rw[z]at hv hu;cases hv;cases hu;exact rfl
 have be:BW X.prog X.w (upd H' h'.objs.size (.lst (O.map V.ref))) h2 h'.objs.size (.lst (O.map V.ref)):=⟨by rw[UI,ak];simp;lia,O.map Value.ref,c,ba,by rw[<- aF];exact hS⟩
 exact⟨.ref h'.objs.size,_,Inv.tracked I' (I1.fpOk D.lS Y) be,Z,q _ _ _ (sm.trans (Ae.new Y)) aP Aa (Paired.mapP hp fun v p ⟨t,e,z⟩=>⟨t,e,by rw[Am (Av z Y)];exact z⟩)⟩
end
def Fy(B:au)(l:List Env)(e:aa)(c a0 m:ac)(h:au):Prop :=
 B.StaysIn h/\B.get? e=none/\h.FunFrames B l/\∃(o:Obj) (v:Array ac) (T:aa) (oT:Obj) (ts:Array ac),h.get? e=some o/\o.cls=c/\o.data = .fields v/\v[0]? = some a0/\v[2]? = some .none /\
  v[1]? = some (.ref T)/\B.get? T=none/\T≠e/\h.get? T=some oT/\oT.data = .fields ts/\ts[3]? = some m
theorem Fy.fly{B h:au}{l:List Env}{e:aa}{c Y:ac}(x:Fy B l e c Y .none h):Heap.FlyingW B l e c Y h:=by
 obtain⟨b1,b2,b3,o,v,T,oT,ts,J,O,W,q4,_,q6⟩:=x;exact⟨b1,b2,b3,o,v,T,oT,ts,J,⟨O,q4⟩,W,q6⟩
def Rh(o:Obj):Prop:=∃v,o.data = .fields v/\v[2]? = some .none
section
variable {M:Model}{A:aw}{E:ac->ae->Prop}{s:ae}{B:au}{env:Env}{outer:List Env}{L e:aa}
theorem GZ{o:Obj}{v:Array ac}{J a0:ac}{an:Bool}{Q:Unit->ae->Prop}(hA:A.frames=some (env::outer))(hF:s.heap.FunFrames B (env::outer))(hL:env.frame=some L)
 (he:s.heap.get? e=some o) (hB:B.StaysIn s.heap) (hn:B.get? e=none) (hv:o.data = .fields v) (z1:1<v.size) (z0:v[0]? = some a0) (z2:v[2]? = some .none)
 (k:∀h',Fy B (env::outer) e o.cls a0 (aE L) h'->s.heap.UpToSlots h'->Q () { s with heap:=h' }) :
 am M A (do let fr <- frameOf env;let ps <- entryPlaceOf L an;let en <- EntryCells.newEntry J fr .none (aE L) .none ps;setField (.ref e) 1 en) Q E s:=by
 have al:e∉(env::outer).filterMap (·.frame):=fun z=>by
  obtain⟨_,o',e',nf⟩:=hF.mem z;rw[he]at e';cases e';exact nf v hv
 refine ad (wpAny_frameOf_fun hA hF hL fun g sg=>ad (wpAny_entryPlaceOf fun ps hp=>?_));unfold EntryCells.newEntry newFields;refine ad (bJ ?_ (hp.sizeOk5 _ _ _ _ _));generalize ak:({ cls:=.type "traceback",dict:=none,data:=.fields ([J,.ref L,.none,aE L,.none]++(if ps.isEmpty then Ux 6 Value.none else ps)).toArray }:Obj)=ob;have hg:g.get? e=some o:=(sg.2.1 e al).trans he;have gB:B.StaysIn g:=fun b u q=>(sg.2.1 b fun z=>by rw[(hF.mem z).1]at q;cases q).trans (hB b u q)
 have nT:g.objs.size≠e:=Uj (Heap.lt_size hg);have O:(g.push ob).get? e=some o:=Heap.get?_push_of_some _ hg;refine wpAny_setField O hv z1 (k _ ?_ ?_)
 ·have d1:=Obj.data_mapFields hv (·.setIfInBounds 1 (Value.ref g.objs.size))
  have W:∀b u,b≠e->g.get? b=some u->((g.push ob).update e (Obj.mapFields (·.setIfInBounds 1 (Value.ref g.objs.size)))).get? b=some u:=fun b u n q=>by
   rw[Heap.get?_update_other _ _ (Ne.symm n)];exact Heap.get?_push_of_some _ q
  have Y:ob.isFreed=false:=by rw[<- ak];rfl
  refine⟨fun b u q=>W b u (fun z=>by rw[z,hn]at q;cases q) (gB b u q),hn,hF.of_keeps fun b u q nf=>?_,_,_,g.objs.size,ob,_,Heap.get?_update_self _ O (Obj.isFreed_of_fields d1),Obj.cls_mapFields _ _,d1,?_,?_,?_,gB.fresh,nT,?_,by rw[<- ak],?_⟩
  ·obtain⟨sl,q'⟩:=sg.2.2 b u q;exact⟨_,W b _ (fun z=>by rw[z,he]at q;cases q;exact nf v hv) q',Z⟩
  ·rw[Wb (by decide)];exact z0
  ·rw[Wb (by decide)];exact z2
  ·simp[z1]
  ·rw[Heap.get?_update_other _ _ (Ne.symm nT)];exact Heap.get?_push_size g Y
  ·rcases hp with rfl | ⟨_,_,_,_,_,_,_,rfl⟩<;>simp
 ·intro b u q nf;obtain⟨sl,q'⟩:=sg.2.2 b u q;refine⟨sl,?_⟩;rw[Heap.get?_update_other _ _ (fun z=>by rw[<- z,he]at q;cases q;exact nf v hv)]
  exact Heap.get?_push_of_some _ q'
theorem QM{c a0:ac}{Q:Unit->ae->Prop}(hA:A.frames=some (env::outer))(hL:env.frame=some L)(x:Fy B (env::outer) e c a0 .none s.heap)
 (k:∀h',Fy B (env::outer) e c a0 (aE L) h'->s.heap.UpToSlots h'->Q () { s with heap:=h' }):am M A (noteFrame (.ref e) env) Q E s:=by
 obtain⟨b1,b2,b3,o,v,T,oT,ts,q1,q2,q3,q4,q5,q6,q7,q8,q9,Y,O⟩:=x;subst q2;unfold noteFrame;simp only[hL];refine ad (aL q1 q3 q6 ?_);rw[if_pos (by simp)]
 refine ad (aL q9 Y O ?_);rw[if_neg (by simp[aE])]
 refine ad (wpAny_setField q9 Y (WH.mp O).1 ?_)
 have no:∀b u,s.heap.get? b=some u->(∀w,u.data ≠ .fields w)->b≠T:=fun b u q W z=>by
  rw[z,q9]at q;cases q;exact W ts Y
 have J:∀b u,b≠T->s.heap.get? b=some u->(s.heap.update T (Obj.mapFields (·.setIfInBounds 3 Value.none))).get? b=some u:=fun b u n q=>(Heap.get?_update_other _ _ (Ne.symm n)).trans q;refine GZ hA (b3.of_keeps fun b u q W=>⟨u,J b u (no b u q W) q,Z⟩) hL (J e o (Ne.symm q8) q1) (fun b u q=>J b u (fun z=>by rw[z,q7]at q;cases q) (b1 b u q)) b2 q3 (WH.mp q6).1 q4 q5 fun h' f us=>k h' f fun b u q W=>?_
 exact us b u (J b u (no b u q W) q) W
theorem OO{l:List Env}{c a0 m:ac}{Q:Unit->ae->Prop}(x:Fy B l e c a0 m s.heap)(k:∀h',Fy B l e c a0 .none h'->s.heap.UpToSlots h'->Q () { s with heap:=h' }):am M A (setFlight (.ref e) none) Q E s:=by
 obtain⟨b1,b2,b3,o,v,T,oT,ts,q1,q2,q3,q4,q5,q6,q7,q8,q9,Y,J⟩:=x;have z3:3<ts.size:=(WH.mp J).1;unfold setFlight;refine ad (aL q1 q3 q6 ?_);rw[if_pos (by simp)]
 refine wpAny_setField q9 Y z3 ?_
 have no:∀b u,s.heap.get? b=some u->(∀w,u.data ≠ .fields w)->b≠T:=fun b u q W z=>by
  rw[z,q9]at q;cases q;exact W ts Y
 have O:∀b u,b≠T->s.heap.get? b=some u->(s.heap.update T (Obj.mapFields (·.setIfInBounds 3 ((none:Option aa).elim Value.none fun f=>aE f)))).get? b=some u:=fun b u n q=>(Heap.get?_update_other _ _ (Ne.symm n)).trans q;have d1:=Obj.data_mapFields Y (·.setIfInBounds 3 ((none:Option aa).elim Value.none fun f=>aE f))
 exact k _ ⟨fun b u q=>O b u (fun z=>by rw[z,q7]at q;cases q) (b1 b u q),b2,b3.of_keeps fun b u q W=>⟨u,O b u (no b u q W) q,rfl⟩,o,v,T,_,_,O e o (Ne.symm q8) q1,q2,q3,q4,q5,q6,q7,q8,Heap.get?_update_self _ q9 (Obj.isFreed_of_fields d1),d1,by simp[z3]⟩
  fun b u q W=>⟨u.slots,O b u (no b u q W) q⟩
theorem Fy.up{c Y m:ac}{h:au}(x:Fy B (env::outer) e c Y m h):Fy B outer e c Y m h:=by
 obtain⟨O,W,⟨_,_,J⟩,r⟩:=x;exact⟨O,W,J,r⟩
theorem PN{c Y:ac}{Q:Unit->ae->Prop}(hA:A.frames=some (env::outer))(J:env.frame=some L)(x:Fy B (env::outer) e c Y .none s.heap)
 (k:∀h',Fy B outer e c Y .none h'->s.heap.UpToSlots h'->Q () { s with heap:=h' }):am M A (leaving env (.ref e)) Q E s:=by
 unfold leaving;exact ad (QM hA J x fun h1 O u1=>OO (s:={ s with heap:=h1 }) O fun h2 W u2=>k h2 W.up (u1.trans u2))
theorem QS{h:au}{c:ac}{vs:List ac}{Q:Unit->ae->Prop}(hA:A.frames=some (env::outer))(J:env.frame=some L)(hB:B.StaysIn h)(hF:h.FunFrames B (env::outer))(W:Heap.MadeExcOf h s.heap e c vs)
 (k:∀h' a0,Fy B outer e c a0 .none h'->s.heap.UpToSlots h'->Q () { s with heap:=h' }):am M A (leaving env (.ref e)) Q E s:=by
 obtain⟨t,O,_,_⟩:=W.there
 have Y:B.get? e=none:=by
  cases q:B.get? e with
  | none=>rfl
  | some u=>have:=hB e u q;rw[W.new]at this;cases this
 unfold leaving noteFrame;simp only[J];refine ad (ad (aL O rfl (x:=.none) rfl ?_));rw[if_neg (by decide)]
 exact GZ hA (hF.of_keeps fun b u q _=>⟨u,W.keeps b u q,Z⟩) J O (fun b u q=>W.keeps b u (hB b u q)) Y rfl (show 1<6 by decide) rfl rfl
  fun h1 f1 u1=>OO (s:={ s with heap:=h1 }) f1 fun h2 f2 u2=>k h2 _ f2.up (u1.trans u2)
end
section
variable {prog:ai}{w:ar}{A:aw}{E:ac->ae->Prop}{s:ae}{ea:aa}{oe:Obj}
end
structure Hx(X:Cx)(ea:aa)(oe:Obj):Prop where
 hd:X.A.handled=some (.ref ea)
 ct:Rh oe
 ob:X.s₀.heap.get? ea=some oe
 fr:X.H₀ ea=none
 nf:ea∉X.fs
 nx:ea∉X.ex
section
variable {X:Cx}{pins:List (aa×Obj)}{σ:St}{H:Hp}{s:ae}{ea:aa}{oe:Obj}
end
section
variable {X:Cx}{N:List Str}{nt:Nat}{js:List Nat}{scope:aB}{elt iter tg:Expr}{ifs:List Expr}{pos:Pos}{g:TG}{tc:TT}{te tl:TE}{ea:aa}{oe:Obj}
end
def CX2(P:ai)(w:ar):CXT:=fun outer H s E e s'=>∃(ea:aa) (cls a0:ac) (B:au) (H':Hp),e = .ref ea/\s'.os=s.os/\aW s'.gens/\Un (frs outer) [] H H' s.heap s'.heap/\HOk P w H' s'.heap /\
 Fy B outer ea cls a0 .none s'.heap/\(∀b o,s.heap.get? b=some o->b∉frs outer->∃o',B.get? b=some o')/\(∀b u,H' b=some u->∃o',B.get? b=some o')/\E cls none H'
section
variable {P:ai}{w:ar}{K:U5}{mg:Str->Option ac}{base:au}{N:List Str}{qual:Str}{scope:aB}{f:aa}{cd:ac}{A:aw}{outer:List Env}{s:ae}{H:Hp}{E:XK}
theorem FT:OR (Ft (CX2 P w) P w K mg base N qual scope f cd A outer s H E) E:=by
 intro pins σ H1 Y h2 ea cls vs I hx hE;have k1:∀b o,Y.heap.get? b=some o->b∉frs (Ft (CX2 P w) P w K mg base N qual scope f cd A outer s H E).stack->∃o',(U1 Y.heap (frs (Ft (CX2 P w) P w K mg base N qual scope f cd A outer s H E).stack)).get? b=some o':=fun b o e n=>⟨o,PySem.W.hideAll_get _ e n⟩
 have k2:∀b u,H1 b=some u->∃o',(U1 Y.heap (frs (Ft (CX2 P w) P w K mg base N qual scope f cd A outer s H E).stack)).get? b=some o':=fun b u e=>by
  obtain⟨o,q⟩:=(I.hok b u e).got;exact k1 b o q fun z=>by rw[I.stkFree b z]at e;cases e
 refine QS (B:=U1 Y.heap (frs (Ft (CX2 P w) P w K mg base N qual scope f cd A outer s H E).stack)) (h:=Y.heap) (outer:=outer) I.ok.frames rfl (fun b o q=>U3 _ q) (PySem.W.funFrames_hide I.stack (Oy Y.heap _)) hx fun h' t O us=>?_;have ak:Y.heap.UpToSlots h':=(Heap.UpToSlots.of_keeps hx.keeps).trans us;have J:=I.flown (s':=Y) (toks:=Y.toks) Un.refl I.hok rfl I.bare (fun b o q=>U3 _ q) k1 k2 O.1 (Inv.slots I.stack ak);refine⟨ea,cls,_,_,H1,Z,I.os,I.bare,J.base,J.hok,O,fun b o e n=>?_,k2,hE⟩;obtain⟨o1,q⟩:=I.base.there b o e (fun z=>nomatch z);refine k1 b o1 q fun z=>?_
 rcases Ub.mp (I.stkSub b z) with e1 | z
 ·exact TZ (TX (Heap.lt_size e) I.ok.above) e1
 ·exact n z
theorem Ld:EL (CX2 P w) (Ft (CX2 P w) P w K mg base N qual scope f cd A outer s H E) E:=by
 rintro pins σ H1 s1 e s2 I ⟨ea,cls,a0,B,H',rfl,os,Y,un,ak,O,k1,k2,hE⟩;refine PN (B:=B) (outer:=outer) I.ok.frames rfl O fun h' W us=>?_;have J:=I.flown (toks:=s2.toks) un ak os Y O.1 k1 k2 W.1 (Inv.slots O.2.2.1 us);refine⟨ea,cls,a0,B,H',Z,os.trans I.os,Y,J.base,J.hok,W,fun b o e n=>?_,k2,hE⟩;obtain⟨o1,q⟩:=I.base.there b o e (fun z=>nomatch z);refine k1 b o1 q fun z=>?_
 rcases Ub.mp (I.stkSub b z) with e1 | z
 ·exact TZ (TX (Heap.lt_size e) I.ok.above) e1
 ·exact n z
theorem Fun.okY{x:Str}{st:aS}{fd:ag}{ps:List Str}{k:Nat}{sp:Sp}(F:Fun K x qual st f fd)(S:Ao N ps (Af st))(O:∀vs H Q E,sp vs H Q E->vs.length=ps.length)
 (W:∀(Y:ac) (A:aw) (outer:List Env) (s:ae) (H:Hp) (vs:List V) (Q:VK) (E:XK),BM k (A.deeper (envOfC qual (Af st) s.heap.objs.size f Y))->sp vs H Q E ->
  ∃t,PSs (Ft (CX2 P w) P w K mg base N qual (Af st) f Y A outer s H E) (Bf st) t/\t { nx:=fun _ H'=>Q .non H',rt:=Q } (Et N vs) H):Ay P w K mg base (CX2 P w) (k+1) f fd ps sp:=by
 obtain⟨oc,od,kV,al,pm,an,Y,ct,ap,rfl,lk,J⟩:=F.ex;exact Nk lk J S O fun A outer s H vs Q E hr ak=>W Y A outer s H vs Q E hr ak
theorem Ay.calm{fd:ag}{ps:List Str}{k:Nat}{sp:Sp}{CX:CXT}(F:Ay P w K mg base CX0 k f fd ps sp):Ay P w K mg base CX k f fd ps sp :=
 ⟨F.len,fun A outer s H args us vs Q E J W O Y hs=>aK (F.run A outer s H args us vs Q E J W O Y hs) fun r s' q=>by
  cases r with
  | ok fl=>cases fl<;>exact q
  | error e=>exact False.elim q⟩
theorem Ay.or{fd:ag}{ps:List Str}{k:Nat}{sp Y:Sp}{CX:CXT}(F:Ay P w K mg base CX k f fd ps sp)(G:Ay P w K mg base CX k f fd ps Y):Ay P w K mg base CX k f fd ps (fun vs H Q E=>sp vs H Q E\/Y vs H Q E) :=
 ⟨fun vs H Q E h=>h.elim (F.len vs H Q E) (G.len vs H Q E),fun A outer s H args us vs Q E O W hb J hs=>hs.elim (F.run A outer s H args us vs Q E O W hb J) (G.run A outer s H args us vs Q E O W hb J)⟩
end
structure FdY(P:ai)(w:ar)(K:U5)(mg:Str->Option ac)(base:au)(n:Nat)(x:Str)(ps:List Str)(sp:Sp):Prop where
 ex:∃(f:aa) (fd:ag),Ay P w K mg base (CX2 P w) n f fd ps sp/\Bv K fd ps []/\Us K (.ref f)=true/\mg x=some (.ref f)
theorem IG{X:Cx}{n k:Nat}{x:Str}{ps:List Str}{sp:Sp}{E:XK}{e:Expr}{es:List Expr}{t:TA}{p pos:Pos}(F:FdY X.prog X.w X.K X.mg X.base n x ps sp)(J:BM k X.A)(hg:Gl X x)(hp:EL (CX2 X.prog X.w) X E)(ha:PA X (e::es) t)(hn:n<=k:=by decide)
 (W:(x == ("__debug__" : Str))=false:=by decide) (O:aq (e::es) X.env=(false,aD e X.env)::aq es X.env:=by rfl) (Y:(aN pos (aq es X.env)).any (·.1)=false:=by rfl) :
 PE X (.Call (.Name x p) (e::es) [] pos) (KS sp [] E t):=by
 obtain⟨f,fd,F1,F2,F3,F4⟩:=F.ex;exact II F1 (J.mono hn) hg F4 F3 F2 .nil hp ha W O Y
section
variable {X:Cx}{n k:Nat}{x:Str}{ps:List Str}{sp:Sp}{e:Expr}{es:List Expr}{t:TA}{p pos:Pos}
end
abbrev SpH:=ac->aa->Hp->VK->Prop
structure FnH(P:ai)(w:ar)(K:U5)(mg:Str->Option ac)(base:au)(k:Nat)(f:aa)(fd:ag)(x:Str)(sp:SpH):Prop where
 run:∀(A:aw) (outer:List Env) (s:ae) (H:Hp) (ea:aa) (oe:Obj) (Q:VK),BM k A->K1 P w K mg base (A.mark (some (.ref ea))) outer s H->BindsTo s fd ⟨[.ref ea],[]⟩ [(x,.ref ea)]->s.heap.get? ea=some oe->Rh oe->H ea=none->ea∉frs outer->sp oe.cls ea H Q ->
  aR (ao P w) (A.mark (some (.ref ea))) (.call (.ref f) ⟨[.ref ea],[]⟩) (CR CX0 outer P w H s Q E0) s
section
variable {P:ai}{w:ar}{K:U5}{mg:Str->Option ac}{base:au}
end
structure FdH(P:ai)(w:ar)(K:U5)(mg:Str->Option ac)(base:au)(n:Nat)(x y:Str)(sp:SpH):Prop where
 ex:∃(f:aa) (fd:ag),FnH P w K mg base n f fd y sp/\Bv K fd [y] []/\Us K (.ref f)=true/\mg x=some (.ref f)
abbrev Cx.kept(X:Cx)(ea:aa)(oe:Obj):Cx:={ X.marked ea with pn:=(ea,oe)::X.pn }
section
variable {X:Cx}{pins:List (aa×Obj)}{σ:St}{H:Hp}{s:ae}{ea:aa}{oe:Obj}
end
section
open PySem.W
variable {X:Cx}(K:U5)
end
end L2
namespace L2
open PySem PySem.Spec PyProof.Rows PySem.W
structure OJ(K:Frag)(D:aa)(cs:List aa)(n:Nat):Prop where
 ty:XTy K D
 ve:kitOne K (.ref D) (.type "ValueError")=some true
 of:∀i c,cs[i]? = some c->kitOne K (.ref D) (.ref c)=some (i == n)
end L2
namespace L2
open PySem PySem.Spec PyProof.Rows
section
variable {prog:ai}{w:ar}{A:aw}{E:ac->ae->Prop}
end
namespace St
open SetTable
abbrev Ris(xs:Array Nat):Prop:=xs.toList.Pairwise (· < ·)
theorem Ris.lt{xs:Array Nat}(h:Ris xs){i k x y:Nat}(hi:xs[i]? = some x)(Y:xs[k]? = some y)(O:i<k):x<y:=by
 rw[<- W6]at hi Y;obtain⟨h1,e1⟩:=Ue.mp hi;obtain⟨h2,W⟩:=Ue.mp Y;rw[<- e1,<- W];exact List.pairwise_iff_getElem.mp h i k h1 h2 O
theorem below_go{xs:Array Nat}(hr:Ris xs)(j:Nat):∀(Y lo hi:Nat),hi<=xs.size->lo<=hi->hi-lo<=Y->(∀i x,i<lo->xs[i]? = some x->x<j)->(∀i x,hi<=i->xs[i]? = some x->j<=x) ->
 ∃p,below.go xs j Y lo hi=p/\p<=xs.size/\(∀i x,i<p->xs[i]? = some x->x<j)/\∀i x,p<=i->xs[i]? = some x->j<=x:=by
 intro Y
 induction Y with
 | zero =>
   intro lo hi h1 h2 h3 hA J;exact⟨lo,Z,by lia,hA,fun i x W=>J i x (by lia)⟩
 | succ Y ih =>
   intro lo hi h1 h2 h3 hA J;unfold below.go;by_cases hl:lo<hi
   ·rw[if_pos hl];have hm:(lo+hi) / 2<xs.size:=by lia
    have g:xs[(lo+hi) / 2]? = some xs[(lo+hi) / 2]:=We hm;have gd:xs.getD ((lo+hi) / 2) j=xs[(lo+hi) / 2]:=by rw[W9,g];rfl
    dsimp only;rw[gd];by_cases hc:xs[(lo+hi) / 2]<j
    ·rw[if_pos hc];refine ih ((lo+hi) / 2+1) hi h1 (by lia) (by lia) (fun i x W O=>?_) J
     rcases Ww i ((lo+hi) / 2) with z | z
     ·exact UZ (hr.lt O g z) hc
     ·have e:i=(lo+hi) / 2:=by lia
      subst e;rw[g]at O;cases O;exact hc
    ·rw[if_neg hc];refine ih lo ((lo+hi) / 2) (by lia) (by lia) (by lia) hA (fun i x W O=>?_)
     rcases Ww ((lo+hi) / 2) i with z | z
     ·exact U6 (Nat.not_lt.mp hc) (U7 (hr.lt g O z))
     ·have e:i=(lo+hi) / 2:=by lia
      subst e;rw[g]at O;cases O;exact Nat.not_lt.mp hc
   ·rw[if_neg hl];exact⟨lo,Z,by lia,hA,fun i x W=>J i x (by lia)⟩
theorem below_ok{xs:Array Nat}(W:Ris xs)(j:Nat):below xs j<=xs.size/\(∀i x,i<below xs j->xs[i]? = some x->x<j)/\∀i x,below xs j<=i->xs[i]? = some x->j<=x:=by
 obtain⟨p,e,h⟩:=below_go W j xs.size 0 xs.size (Uk _) (Uo _) (by lia) (fun i x h=>absurd h (WI _)) (fun i x h Y=>by
  have:=(WH.mp Y).1
  lia)
 unfold below;rw[e];exact h
theorem slot_live{t:av}(Y:Ris t.place){i j:Nat}(h:t.place[i]? = some j):t.slot j = .live i:=by
 obtain⟨_,W,O⟩:=below_ok Y j
 have e:below t.place j=i:=by
  rcases WE (below t.place j) i with z | z | z
  ·have hs:i<t.place.size:=(WH.mp h).1;have g:t.place[below t.place j]? = some t.place[below t.place j]:=We (by lia)
   have h1:=O _ _ (Uk _) g;have h2:=Y.lt g h z
   lia
  ·exact z
  ·exact absurd (W i j z h) (TY _)
 unfold slot;rw[e];dsimp only;rw[h];simp
theorem insert_list{Y:Type}(xs:Array Y)(p:Nat)(x:Y):(insertAt xs p x).toList=xs.toList.take p++x::xs.toList.drop p:=by
 unfold insertAt;simp[Ws,Array.toList_push,Array.toList_extract,List.extract_eq_drop_take];exact VW (by rw[UP,Ui];exact Uk _)
theorem insert_at{W:Type}{xs:Array W}{p:Nat}{x:W}(J:p<=xs.size){i:Nat}:(insertAt xs p x)[i]? = if i<p then xs[i]? else if i=p then some x else xs[i-1]?:=by
 rw[<- W6,insert_list];have Y:(xs.toList.take p).length=p:=by rw[Uy,Ui];lia
 by_cases h1:i<p
 ·rw[if_pos h1,UB (by rw[Y];exact h1),UD h1,W6]
 ·rw[if_neg h1,Uz (by rw[Y];lia),Y]
  by_cases h2:i=p
  ·subst h2;rw[if_pos rfl,VX]
   rfl
  ·rw[if_neg h2];obtain⟨k,O⟩:∃k,i-p=k+1:=⟨i-p-1,by lia⟩
   rw[O,Vh,Vu,W6]
   congr 1
   lia
theorem Ris.put{xs:Array Nat}(W:Ris xs){j:Nat}(hn:∀i:Nat,xs[i]? ≠ some j):Ris (insertAt xs (below xs j) j):=by
 obtain⟨b1,b2,J⟩:=below_ok W j;show List.Pairwise _ _;rw[insert_list,List.pairwise_append];refine⟨W.sublist (UE _ _),?_,?_⟩
 ·rw[List.pairwise_cons];refine⟨fun y hy=>?_,W.sublist (List.drop_sublist _ _)⟩;obtain⟨i,hi⟩:=Wc hy;rw[Vu,W6]at hi;have h1:=J _ y (W2 _ _) hi;have h2:y≠j:=fun z=>hn _ (z ▸ hi)
  lia
 ·intro a ha b hb;obtain⟨i,hi⟩:=Wc ha
  have Y:i<below xs j:=by
   have:=(Ue.mp hi).1;rw[Uy]at this
   lia
  rw[UD Y,W6]at hi;have h1:=b2 i a Y hi
  rcases Ub.mp hb with z | z
  ·rw[z];exact h1
  ·obtain⟨k,O⟩:=Wc z;rw[Vu,W6]at O;have:=J _ b (W2 _ _) O
   lia
theorem adv_mask{t u:av}(h:t.mask=u.mask)(p:Probe):t.advance p=u.advance p:=by unfold advance;rw[h]
theorem advs_mask{t u:av}(h:t.mask=u.mask):∀n p,advs t n p=advs u n p
 | 0,_=>rfl
 | n+1,p=>by show advs t n (t.advance p)=advs u n (u.advance p);rw[adv_mask h,advs_mask h n]
theorem start_mask{t u:av}(h:t.mask=u.mask)(x:Int):t.probeStart x=u.probeStart x:=by unfold probeStart;rw[h]
def Way(t:av)(occ:Nat->Prop)(p:Probe)(j:Nat):Prop:=∃m,(advs t m p).j=j/\∀i,i<m->occ (advs t i p).j
theorem Way.mono{t:av}{Y W:Nat->Prop}{p:Probe}{j:Nat}(h:Way t Y p j)(k:∀s,Y s->W s):Way t W p j:=let ⟨m,e,a⟩:=h;⟨m,e,fun i hi=>k _ (a i hi)⟩
theorem Way.mask{t u:av}{o:Nat->Prop}{p:Probe}{j:Nat}(h:Way t o p j)(e:t.mask=u.mask):Way u o p j:=by
 obtain⟨m,e1,a⟩:=h;exact⟨m,by rw[<- advs_mask e];exact e1,fun i hi=>by rw[<- advs_mask e];exact a i hi⟩
theorem advs_in(t:av):∀(c j r i Y:Nat),c<=r->advs t c { j:=j,more:=r,i:=i,perturb:=Y,dummy:=none }={ j:=j+c,more:=r-c,i:=i,perturb:=Y,dummy:=none }
 | 0,j,r,i,Y,_=>rfl
 | c+1,j,r,i,Y,h=>by
   show advs t c (t.advance _)=_
   have e:t.advance { j:=j,more:=r,i:=i,perturb:=Y,dummy:=none }={ j:=j+1,more:=r-1,i:=i,perturb:=Y,dummy:=none }:=by
    unfold advance;rw[if_pos (by show 0<r;lia)]
   rw[e,advs_in t c (j+1) (r-1) i Y (by lia)]
   congr 1<;>lia
theorem way_run{t:av}{W:Nat->Prop}{i Y c:Nat}(J:c<=runEnd t.mask i-i)(h:∀d,d<c->W (i+d)):Way t W (base t.mask i Y) (i+c) :=
 ⟨c,by unfold base;rw[advs_in t c i _ i Y J],fun d O=>by unfold base;rw[advs_in t d i _ i Y (by lia)];exact h d O⟩
theorem way_on{t:av}{W:Nat->Prop}{i Y j:Nat}(h:∀d,d<=runEnd t.mask i-i->W (i+d))(k:Way t W (base t.mask (leap t.mask i Y).1 (leap t.mask i Y).2) j):Way t W (base t.mask i Y) j:=by
 obtain⟨m,e,a⟩:=k;have O:advs t (runEnd t.mask i-i+1) (base t.mask i Y)=base t.mask (leap t.mask i Y).1 (leap t.mask i Y).2:=advs_run t _ _ _ _;refine⟨runEnd t.mask i-i+1+m,by rw[advs_add,O];exact e,fun d J=>?_⟩
 rcases Ww d (runEnd t.mask i-i+1) with z | z
 ·have:=h d (by lia)
  unfold base;rw[advs_in t d i _ i Y (by lia)]
  exact this
 ·obtain⟨c,rfl⟩:∃c,d=runEnd t.mask i-i+1+c:=⟨d-(runEnd t.mask i-i+1),by lia⟩
  rw[advs_add,O];exact a c (by lia)
theorem run_31{i:Nat}(h:i<32):i<=runEnd 31 i/\runEnd 31 i<32:=by unfold runEnd;split<;>lia
def Tk(owner:Array (Option Nat))(s:Nat):Prop:=s<32/\owner.getD s (some 0)≠none
theorem free_way{t:av}(hm:t.mask=31){owner:Array (Option Nat)}:∀(W i Y j:Nat),i<32->layClean.free 31 owner W i Y=some j->Way t (Tk owner) (base t.mask i Y) j:=by
 intro W
 induction W with
 | zero=>intro i Y j _ h;cases h
 | succ W ih =>
   intro i Y j hi h;have al:=run_31 hi;unfold layClean.free at h
   split at h
   ·next k J =>
    cases h;have ak:=List.mem_of_find?_eq_some J;have an:=U4.mp ak;refine way_run (by rw[hm];lia) fun d hd=>⟨by lia,?_⟩
    have:=List.find?_eq_some_iff_getElem.mp J;obtain⟨_,n,hn,e,O⟩:=this;rw[Wd]at e;subst e;have:=O d hd;rw[Wd]at this;intro z;rw[z]at this;cases this
   ·next J =>
    refine way_on (fun d hd=>?_) ?_
    ·rw[List.find?_eq_none]at J;rw[hm]at hd;have:=J d (U4.mpr (by lia))
     refine⟨by lia,fun z=>?_⟩
     rw[z]at this;exact this rfl
    ·have h':layClean.free 31 owner W (leap 31 i Y).1 (leap 31 i Y).2=some j:=h;have:=ih _ _ _ (Nat.mod_lt _ (by decide)) h'
     rw[hm]at this ⊢;exact this
def WO(t:av)(hs:List Int)(owner:Array (Option Nat)):Prop:=∀j i,owner.getD j none=some i->∃h,hs[i]? = some h/\Way t (Tk owner) (base t.mask (bits h % 32) (bits h)) j
theorem tk_set{owner:Array (Option Nat)}{j k s:Nat}(h:Tk owner s):Tk (owner.setIfInBounds j (some k)) s:=by
 refine⟨h.1,fun z=>?_⟩;rw[W9,WJ]at z
 split at z
 ·split at z<;>cases z
 ·rw[<- W9]at z;exact h.2 z
theorem stp_way{t:av}(hm:t.mask=31){hs:List Int}{owner Y:Array (Option Nat)}{k J:Nat}{h:Int}(w:WO t hs owner)(hk:hs[k]? = some h)(e:stp (some (owner,k)) h=some (Y,J)):WO t hs Y:=by
 have O:(do let j <- layClean.free 31 owner (turns 31) (bits h % (31+1)) (bits h);pure (owner.setIfInBounds j (some k),k+1))=some (Y,J):=e
 cases ef:layClean.free 31 owner (turns 31) (bits h % (31+1)) (bits h) with
 | none=>rw[ef]at O;cases O
 | some j =>
   rw[ef]at O;have e2:some (owner.setIfInBounds j (some k),k+1)=some (Y,J):=O;cases e2;intro s i W;rw[W9,WJ]at W;by_cases hjs:j=s
   ·rw[if_pos hjs]at W
    split at W
    ·have ei:some k=some i:=W;cases ei;refine⟨h,hk,?_⟩;subst hjs;exact(free_way hm _ _ _ _ (Nat.mod_lt _ (by decide)) ef).mono fun _=>tk_set
    ·cases W
   ·rw[if_neg hjs,<- W9]at W;obtain⟨g,g1,g2⟩:=w s i W;exact⟨g,g1,g2.mono fun _=>tk_set⟩
theorem fold_way{t:av}(O:t.mask=31){hs0:List Int}:∀(hs:List Int) {owner:Array (Option Nat)} {k:Nat},Own owner k->WO t hs0 owner->(∀i h,hs[i]? = some h->hs0[k+i]? = some h)->k+hs.length<=32 ->
 ∃Y,hs.foldl stp (some (owner,k))=some (Y,k+hs.length)/\Own Y (k+hs.length)/\WO t hs0 Y
 | [],owner,k,ho,w,_,_=>⟨owner,Z,ho,w⟩
 | h::hs,owner,k,ho,w,hh,hl=>by
   rw[Vg]at hl;obtain⟨o1,e1,ho1⟩:=stp_ok ho (by lia) h
   have w1:=stp_way O w (hh 0 h rfl) e1;obtain⟨o2,J,W,w2⟩:=fold_way O hs ho1 w1 (fun i g hg=>by rw[show k+1+i=k+(i+1) by lia];exact hh (i+1) g hg) (by lia)
   refine⟨o2,?_,?_,w2⟩
   ·rw[List.foldl_cons,e1,J,Vg,show k+1+hs.length=k+(hs.length+1) by lia]
   ·rw[Vg,show k+(hs.length+1)=k+1+hs.length by lia];exact W
theorem wo_none(t:av)(hs:List Int):WO t hs (Wg 32 none):=fun j i h=>by
 rw[W9,Array.getElem?_replicate]at h
 split at h<;>cases h
theorem lv_first(owner:Array (Option Nat)):∀l:List Nat,(l.filterMap (lv owner)).map (·.1)=l.filter fun j=>(owner.getD j none).isSome
 | []=>rfl
 | a::l=>by
   rw[U8,List.filter_cons];cases e:owner.getD a none with
   | none =>
     have:lv owner a=none:=by unfold lv;rw[e];rfl
     rw[this];simp only[Option.isSome_none,Bool.false_eq_true,if_false];exact lv_first owner l
   | some v =>
     have:lv owner a=some (a,v):=by unfold lv;rw[e];rfl
     rw[this];simp only[Option.isSome_some,if_true,UX];rw[lv_first owner l]
theorem laid_way(Y:Array Int)(hn:Y.size<=32)(finger moves:Nat)(led plain:Bool):∃t W,laid 31 finger moves led plain Y=some (t,W)/\t.mask=31/\t.dummies = #[]/\t.place.size=Y.size/\W.toList.Perm (U0 Y.size)/\Ris t.place /\
 ∀i k:Nat,W[i]? = some k->∃(j:Nat) (h:Int),t.place[i]? = some j/\Y[k]? = some h/\Way t (fun s=>∃q:Nat,t.place[q]? = some s) (t.probeStart h) j:=by
 have aF:(SetTable.fresh 0 0 false).mask=7:=rfl;obtain⟨t0,ak⟩:∃t0:av,t0.mask=31:=⟨{ (SetTable.fresh 0 0 false) with mask:=31 },rfl⟩
 obtain⟨owner,e,ho,w⟩:=fold_way ak Y.toList (hs0:=Y.toList) own_none (wo_none t0 _) (fun i h hh=>by rw[W5];exact hh) (by rw[Ui];lia)
 have hc:layClean 31 Y=some owner:=by
  unfold layClean;have e':Y.foldl stp (some (Wg 32 none,0))=some (owner,0+Y.toList.length):=by rw[<- Array.foldl_toList];exact e
  have e2:Y.foldl (init:=some (Wg (31+1) none,0)) (fun as h=>do
   let (owner,k) <- as
   let j <- layClean.free 31 owner (turns 31) (bits h % (31+1)) (bits h)
   pure (owner.setIfInBounds j (some k),k+1))=some (owner,0+Y.toList.length):=e'
  rw[e2];rfl
 have hp:=ho.2;rw[W5,Ui]at hp;obtain⟨t,ht⟩:∃t:av,t={ mask:=31,place:=(((U0 32).filterMap (lv owner)).map (·.1)).toArray,dummies:=#[],finger,led,moves,plain }:=⟨_,Z⟩;have al:t.mask=31:=by rw[ht]
 have J:t.place.toList=((U0 32).filterMap (lv owner)).map (·.1):=by rw[ht]
 have aC:∀s,Tk owner s->∃q:Nat,t.place[q]? = some s:=fun s hs=>by
  have h1:∃v,owner.getD s none=some v:=by
   have h2:=hs.2;rw[W9]at h2;have an:s<owner.size:=by rw[ho.1];exact hs.1
   rw[We an]at h2;cases hv:owner[s] with
   | none=>rw[hv]at h2;exact absurd rfl h2
   | some v=>exact⟨v,by rw[W9,We an,hv];rfl⟩
  obtain⟨v,hv⟩:=h1
  have ap:s∈t.place.toList:=by
   rw[J,lv_first];exact U2.mpr ⟨U4.mpr hs.1,by rw[hv];rfl⟩
  obtain⟨q,hq⟩:=Wc ap;exact⟨q,by rw[<- W6];exact hq⟩
 refine⟨t,(((U0 32).filterMap (lv owner)).map (·.2)).toArray,?_,al,by rw[ht],?_,hp,?_,fun i k hk=>?_⟩
 ·unfold laid;rw[hc,ht]
  rfl
 ·have:=hp.length_eq;rw[UI,W7]at this;rw[<- Ui,J,UI];exact this
 ·show List.Pairwise _ _;rw[J,lv_first];exact List.Pairwise.sublist List.filter_sublist List.pairwise_lt_range
 ·rw[<- W6]at hk;have hk:(((U0 32).filterMap (lv owner)).map (·.2))[i]? = some k:=hk;rw[UC]at hk;cases hg:((U0 32).filterMap (lv owner))[i]? with
  | none=>rw[hg]at hk;cases hk
  | some x =>
    obtain⟨j,k'⟩:=x;rw[hg]at hk;have ek:k'=k:=TU.inj hk;obtain⟨j',_,O⟩:=Ul.mp (UG hg);unfold lv at O;cases hv:owner.getD j' none with
    | none=>rw[hv]at O;cases O
    | some v =>
      rw[hv]at O;have e3:(j',v)=(j,k'):=TU.inj O;have ej:j'=j:=congrArg Prod.fst e3;have ev:v=k:=(congrArg Prod.snd e3).trans ek;rw[ej,ev]at hv;obtain⟨h,h1,h2⟩:=w j k hv;refine⟨j,h,?_,by rw[<- W6];exact h1,?_⟩
      ·rw[<- W6,J,UC,hg];rfl
      ·have h3:=(h2.mono aC).mask (u:=t) (by rw[al];exact ak)
       rw[ak]at h3;unfold probeStart;rw[al];exact h3
end St
end L2
namespace L2
open PySem PySem.Spec PyProof.Rows
namespace St
open SetTable
abbrev Occ(t:av)(s:Nat):Prop:=∃q:Nat,t.place[q]? = some s
theorem go_way{t:av}(hd:t.dummies = #[]){ha:Nat->Int}{h:Int}:∀(Y k:Nat) (p:Probe),k<Y->p.dummy=none->Hit t k p ->
 (∃c j,probe.go t ha h Y p=some (.empty j none)/\(advs t c p).j=j/\t.slot j = .empty/\∀l,l<c->Occ t (advs t l p).j) \/
 ∃c j i O,probe.go t ha h Y p=some (.candidate j i (advs t (c+1) p))/\t.slot j = .live i/\t.place[i]? = some j/\(advs t (c+1) p).dummy=none/\Hit t O (advs t (c+1) p)/\O<k/\∀l,l<c+1->Occ t (advs t l p).j
 | Y+1,k,p,hk,hp,hh=>by
   unfold probe.go
   rcases slot_cases hd p.j with z | ⟨i,z,zp⟩
   ·rw[z];exact .inl ⟨0,p.j,by simp only[hp],Z,z,fun l hl=>absurd hl (WI _)⟩
   ·rw[z]
    have hk0:∃O,k=O+1:=by
     cases k with
     | zero=>unfold Hit at hh;rw[show advs t 0 p=p from rfl,z]at hh;cases hh
     | succ O=>exact⟨O,Z⟩
    obtain⟨O,rfl⟩:=hk0;have J:Hit t O (t.advance p):=hh;by_cases hq:(ha i == h)=true
    ·refine .inr ⟨0,p.j,i,O,?_,z,zp,adv_dummy t hp,J,by lia,fun l hl=>?_⟩
     ·simp only[hq]
      rfl
     ·obtain rfl:l=0:=by lia
      exact⟨i,zp⟩
    ·have ak:(ha i == h)=false:=by simpa using hq
     simp only[ak]
     have W:∀{c:Nat},(∀l,l<c->Occ t (advs t l (t.advance p)).j)->∀l,l<c+1->Occ t (advs t l p).j:=fun{c} hc l hl=>by
      cases l with
      | zero=>exact⟨i,zp⟩
      | succ l=>exact hc l (by lia)
     rcases go_way hd Y O (t.advance p) (by lia) (adv_dummy t hp) J with ⟨c,j,e,r0,r1,r2⟩ | ⟨c,j,i',k2,e,r1,r2,r3,r4,r5,r6⟩
     ·exact .inl ⟨c+1,j,e,r0,r1,W r2⟩
     ·exact .inr ⟨c+1,j,i',k2,e,r1,r2,r3,r4,by lia,W r6⟩
theorem go_there{t:av}(hr:Ris t.place){ha:Nat->Int}{h:Int}{W j0:Nat}(h0:t.place[W]? = some j0)(hh:(ha W == h)=true):∀(fuel r:Nat) (p:Probe),r<fuel->p.dummy=none->(advs t r p).j=j0->(∀l,l<r->Occ t (advs t l p).j) ->
 ∃j i next,probe.go t ha h fuel p=some (.candidate j i next)/\t.slot j = .live i/\t.place[i]? = some j/\(i=W\/∃J,J<r/\next.dummy=none/\(advs t J next).j=j0/\∀l,l<J->Occ t (advs t l next).j)
 | fuel+1,0,p,_,hp,Y,_=>by
   have Y:p.j=j0:=Y;have z:t.slot p.j = .live W:=by rw[Y];exact slot_live hr h0
   unfold probe.go;rw[z];refine⟨p.j,W,t.advance p,?_,z,by rw[Y];exact h0,.inl rfl⟩
   simp only[hh]
   rfl
 | fuel+1,r+1,p,hk,hp,Y,ho=>by
   obtain⟨i,hi⟩:=ho 0 (VR _);have hi:t.place[i]? = some p.j:=hi;have z:t.slot p.j = .live i:=slot_live hr hi;unfold probe.go;rw[z];have O:∀l,l<r->Occ t (advs t l (t.advance p)).j:=fun l hl=>ho (l+1) (by lia)
   by_cases hq:(ha i == h)=true
   ·refine⟨p.j,i,t.advance p,?_,z,hi,.inr ⟨r,Vv _,adv_dummy t hp,Y,O⟩⟩;simp only[hq]
    rfl
   ·have ak:(ha i == h)=false:=by simpa using hq
    simp only[ak];obtain⟨j,i',next,e,r1,r2,r3⟩:=go_there hr h0 hh fuel r (t.advance p) (by lia) (adv_dummy t hp) Y O
    refine⟨j,i',next,e,r1,r2,?_⟩
    rcases r3 with z | ⟨J,q1,q2⟩
    ·exact .inl z
    ·exact .inr ⟨J,by lia,q2⟩
section
variable {prog:ai}{w:ar}{K:Type}[DecidableEq K]{knd:KeyKind prog w K}{A:aw}{E:ac->ae->Prop}{s:ae}
def Nms(knd:KeyKind prog w K)(h:au)(l:List ac):Prop:=∀v∈l,∃b k',v = .ref b/\IsN knd h k' b
theorem unseen2{ks:List K}{x:aa}{Q:Bool->ae->Prop}(hx:IsN knd s.heap ks x){l:List ac}(hl:Nms knd s.heap l)(h:Q false s):am (ao prog w) A (searchCouldBeSeen (.ref x) l) Q E s:=by
 unfold searchCouldBeSeen;refine ad ?_;refine wpAny_forIn_list _ (fun BD r s'=>r.1=none/\s'=s/\Nms knd s.heap BD) _ ?_ ?_ _ _ ⟨Z,Z,hl⟩
 ·rintro v BD r s' ⟨O,rfl,W⟩;obtain⟨b,k',rfl,hb⟩:=W v U9;have Y:Nms knd s'.heap BD:=fun u J=>W u (Ua _ J)
  have hc:((match (Value.ref x),(Value.ref b) with | .ref a,.ref b=>a == b | _,_=>false)||(bH (.ref x)&&bH (.ref b)))=(x == b):=by
   show((x == b)||(false&&false))=_
   simp
  show am _ _ (if ((match (Value.ref x),(Value.ref b) with | .ref a,.ref b=>a == b | _,_=>false)||(bH (.ref x)&&bH (.ref b)))=true then _ else _) _ _ _
  rw[hc];by_cases hxb:(x == b)=true
  ·rw[if_pos hxb];exact ah ⟨Z,Z,Y⟩
  rw[if_neg hxb];refine ad (wpAny_eqIsQuiet_tuple hx.key ?_);simp only[Bool.not_true,Bool.false_eq_true,if_false];refine ad (wpAny_eqIsQuiet_tuple hb.key ?_);simp only[Bool.not_true,Bool.false_eq_true,if_false];refine ad (ofClass_n hx ?_);simp only[Bool.false_eq_true,if_false];refine ad (ofClass_n hb ?_);simp only[Bool.false_eq_true,if_false];exact ah ⟨Z,Z,Y⟩
 ·rintro⟨r1,r2⟩ s' ⟨O,rfl,_⟩;simp only at O;subst O;exact ah h
variable {S:aa}{o:Obj}{es:Array (Int×ac)}{ep:Nat}{t:av}
theorem nms_of{ks:List K}(W:∀e∈es.toList,∃b O,e.2=Value.ref b/\IsN knd s.heap O b){h:Int}:Nms knd s.heap (List.map (fun x=>x.snd) (Array.filter (fun x=>x.fst == h) es).toList):=fun v J=>by
 obtain⟨e0,Y,rfl⟩:=VU.mp J;rw[Array.toList_filter]at Y;exact W e0 (U2.mp Y).1
theorem same_self(t:av):t.sameMemory t.moves t.mask=some true:=by unfold sameMemory;rw[if_pos (beq_self_eq_true _)]
theorem look_one(ho:s.heap.get? S=some o)(hd:o.data = .set es ep t)(hf:t.fits es.size=true){x b:aa}{ks W:List K}(hx:IsN knd s.heap ks x)(hb:IsN knd s.heap W b)(O:∀e∈es.toList,∃b k',e.2=Value.ref b/\IsN knd s.heap k' b)
 (hu:A.units<cLine) {h h1:Int} {F j i:Nat} {next:Probe} (r1:t.slot j = .live i) (Y:es[i]? = some (h1,Value.ref b)) {Q:SetFound->ae->Prop} (ak:W=ks->Q (.there none) s) (no:W≠ks->am (ao prog w) A (setSearchFrom S (.ref x) h true F (some next)) Q E s) :
 am (ao prog w) A (do
  if !t.led then
   if <- searchCouldBeSeen (.ref x) ((es.filter (·.1 == h)).toList.map (·.2)) then unsupported "set:the-search-would-show-the-table"
  let some (_,y):=es[i]? | unsupported "internal:set-entry"
  let equal <- holding [y] (eqBool y (.ref x))
  let (es',_,t') <- setState S
  if true&&equal then return .there none
  let some same:=t'.sameMemory t.moves t.mask | unsupported "set.changed-during-lookup:is-the-new-block-at-the-old-address"
  let still <- match (if same then t'.slot j else .empty) with
   | .live i'=>match es'[i']? with
     | some (_,y')=>do pure (if <- isSame y' y then some i' else none)
     | none=>pure none
   | _=>pure none
  match still with
  | none=>rule "set.search.anew";setSearchFrom S (.ref x) h true F none
  | some i'=>if equal then return .there (some i') else setSearchFrom S (.ref x) h true F (some next)) Q E s:=by
 have BD:am (ao prog w) A (do
  let some (_,y):=es[i]? | unsupported "internal:set-entry"
  let equal <- holding [y] (eqBool y (.ref x))
  let (es',_,t') <- setState S
  if true&&equal then return .there none
  let some same:=t'.sameMemory t.moves t.mask | unsupported "set.changed-during-lookup:is-the-new-block-at-the-old-address"
  let still <- match (if same then t'.slot j else .empty) with
   | .live i'=>match es'[i']? with
     | some (_,y')=>do pure (if <- isSame y' y then some i' else none)
     | none=>pure none
   | _=>pure none
  match still with
  | none=>rule "set.search.anew";setSearchFrom S (.ref x) h true F none
  | some i'=>if equal then return .there (some i') else setSearchFrom S (.ref x) h true F (some next)) Q E s:=by
  rw[Y];dsimp only;refine ad (ax (wpAny_eqBool_tuple hu hb.key hx.key ?_));refine ad (aM ho hd hf ?_);by_cases hk:W=ks
  ·rw[decide_eq_true hk];simp only[Bool.and_self,if_true];exact ah (ak hk)
  ·rw[decide_eq_false hk];simp only[Bool.and_false,Bool.false_eq_true,if_false,same_self,if_true,r1,Y];refine ad (wpAny_isSame_ref_self ?_);simp only[if_true];refine ad (ah ?_);simp only[Bool.false_eq_true,if_false];exact no hk
 rcases Bool.eq_false_or_eq_true t.led with J | J
 ·simp only[J,Bool.not_true,Bool.false_eq_true,if_false];exact BD
 ·simp only[J,Bool.not_false,if_true];refine ad (unseen2 hx (nms_of (ks:=ks) O) ?_);simp only[Bool.false_eq_true,if_false];exact BD
theorem search_new(ho:s.heap.get? S=some o)(hd:o.data = .set es ep t)(hf:t.fits es.size=true)(hm:t.mask=7\/t.mask=31)(aC:t.dummies = #[]){x:aa}{ks:List K}(hx:IsN knd s.heap ks x)
 (al:∀e∈es.toList,∃b O,e.2=Value.ref b/\IsN knd s.heap O b/\O≠ks) (hu:A.units<cLine) {h:Int} {Q:SetFound->ae->Prop} (hQ:∀j,t.slot j = .empty->Way t (Occ t) (t.probeStart h) j->Q (.free j false) s) :
 ∀(k F J:Nat) (Y:Option Probe),k<F->k<10*turns t.mask->Y.getD (t.probeStart h)=advs t J (t.probeStart h)->(∀l,l<J->Occ t (advs t l (t.probeStart h)).j)->(Y.getD (t.probeStart h)).dummy=none->Hit t k (Y.getD (t.probeStart h))->am (ao prog w) A (setSearchFrom S (.ref x) h true F Y) Q E s:=by
 have ap:∀e∈es.toList,∃b O,e.2=Value.ref b/\IsN knd s.heap O b:=fun e he=>let ⟨b,O,q1,q2,_⟩:=al e he;⟨b,O,q1,q2⟩
 have bc:t.place.size=es.size:=by
  unfold fits at hf;rw[Bool.and_eq_true]at hf;exact eq_of_beq hf.1
 intro k
 induction k using Nat.strongRecOn with
 | ind k ih =>
   intro F J Y hF hk ak aP as hh;obtain⟨F',rfl⟩:∃F',F=F'+1:=⟨F-1,by lia⟩
   unfold setSearchFrom;refine ad (aM ho hd hf ?_);dsimp only
   have a0:t.gaveWay=false:=by
    unfold gaveWay
    rcases hm with z | z<;>rw[z]<;>rfl
   rw[a0];simp only[Bool.false_eq_true,if_false]
   have more:∀{c:Nat},(∀l,l<c->Occ t (advs t l (Y.getD (t.probeStart h))).j)->∀l,l<J+c->Occ t (advs t l (t.probeStart h)).j:=fun{c} hc l hl=>by
    rcases Ww l J with z | z
    ·exact aP l z
    ·obtain⟨d,rfl⟩:∃d,l=J+d:=⟨l-J,by lia⟩
     have:=hc d (by lia)
     rw[ak,<- advs_add]at this;exact this
   split
   ·next bb W =>
    rcases go_way aC (10*turns t.mask) k _ hk as hh with ⟨c,j,e,r0,r1,r2⟩ | ⟨c,j,i,O,e,r1,r2,r3,r4,r5,r6⟩
    ·have e2:=TU.inj (e.symm.trans W);subst e2;refine ah (hQ j r1 ⟨J+c,?_,more r2⟩);rw[advs_add,<- ak];exact r0
    ·have e2:=TU.inj (e.symm.trans W);subst e2;dsimp only
     have aF:i<es.size:=by
      have:=(WH.mp r2).1
      lia
     obtain⟨h0,y,an⟩:∃h0 y,es[i]? = some (h0,y):=⟨es[i].1,es[i].2,We aF⟩;obtain⟨b,kb,eb,hb,ba⟩:=al (h0,y) (UG (by rw[W6];exact an))
     have eb:y = .ref b:=eb;subst eb;refine look_one ho hd hf hx hb ap hu r1 an (fun z=>absurd z ba) fun _=>?_;refine ih O r5 F' (J+(c+1)) (some _) (by lia) (by lia) ?_ (more r6) r3 r4
     show advs t (c+1) (Y.getD (t.probeStart h))=_;rw[ak,<- advs_add]
   ·next W =>
    exfalso
    rcases go_way aC (10*turns t.mask) k _ hk as hh with ⟨c,j,e,_⟩ | ⟨c,j,i,O,e,_⟩
    ·exact W _ e
    ·exact W _ e
theorem search_old(ho:s.heap.get? S=some o)(hd:o.data = .set es ep t)(hf:t.fits es.size=true)(hm:t.mask=7\/t.mask=31)(hr:Ris t.place){x:aa}{ks:List K}(hx:IsN knd s.heap ks x)
 (J:∀e∈es.toList,∃b k',e.2=Value.ref b/\IsN knd s.heap k' b) (hu:A.units<cLine) {h:Int} {i0 j0:Nat} {b0:aa} (h0:t.place[i0]? = some j0) (ak:es[i0]? = some (h,Value.ref b0)) (aF:IsN knd s.heap ks b0) {Q:SetFound->ae->Prop} (hQ:Q (.there none) s) :
 ∀(r F:Nat) (Y:Option Probe),r<F->r<10*turns t.mask->(Y.getD (t.probeStart h)).dummy=none->(advs t r (Y.getD (t.probeStart h))).j=j0->(∀l,l<r->Occ t (advs t l (Y.getD (t.probeStart h))).j)->am (ao prog w) A (setSearchFrom S (.ref x) h true F Y) Q E s:=by
 have a0:t.place.size=es.size:=by
  unfold fits at hf;rw[Bool.and_eq_true]at hf;exact eq_of_beq hf.1
 intro r
 induction r using Nat.strongRecOn with
 | ind r ih =>
   intro F Y hF hk an hj al;obtain⟨F',rfl⟩:∃F',F=F'+1:=⟨F-1,by lia⟩
   unfold setSearchFrom;refine ad (aM ho hd hf ?_);dsimp only
   have as:t.gaveWay=false:=by
    unfold gaveWay
    rcases hm with z | z<;>rw[z]<;>rfl
   rw[as];simp only[Bool.false_eq_true,if_false]
   have hh:∀{ha:Nat->Int},(∀i,ha i=(es[i]?.map (·.1)).getD 0)->(ha i0 == h)=true:=fun{ha} e=>by
    rw[e,ak];simp
   split
   ·next aP O =>
    obtain⟨j,i,next,e,r1,r2,r3⟩:=go_there hr h0 (hh fun _=>rfl) (10*turns t.mask) r _ hk an hj al;have e2:=TU.inj (e.symm.trans O);subst e2;dsimp only
    have ap:i<es.size:=by
     have:=(WH.mp r2).1
     lia
    obtain⟨h1,y,W⟩:∃h1 y,es[i]? = some (h1,y):=⟨es[i].1,es[i].2,We ap⟩;obtain⟨b,kb,eb,hb⟩:=J (h1,y) (UG (by rw[W6];exact W))
    have eb:y = .ref b:=eb;subst eb;refine look_one ho hd hf hx hb J hu r1 W (fun _=>hQ) fun aC=>?_
    rcases r3 with z | ⟨r',q1,q2,q3,q4⟩
    ·subst z;rw[ak]at W;cases W;exact absurd (hb.key.inj aF.key) aC
    ·exact ih r' q1 F' (some next) (by lia) (by lia) q2 q3 q4
   ·next O =>
    exfalso;obtain⟨j,i,next,e,_⟩:=go_there hr h0 (hh fun _=>rfl) (10*turns t.mask) r _ hk an hj al;exact O _ e
end
end St
end L2
namespace L2
open PySem PySem.Spec PyProof.Rows
namespace St
open SetTable
theorem fm_at{Y W:Type}{f:Y->Option W}:∀{l:List Y} {i:Nat},(∀x∈l,∃y,f x=some y)->(l.filterMap f)[i]? = l[i]?.bind f
 | [],i,_=>by simp
 | a::l,i,h=>by
   obtain⟨y,hy⟩:=h a U9;rw[Wf hy];cases i with
   | zero=>rw[List.getElem?_cons_zero,List.getElem?_cons_zero];exact hy.symm
   | succ i=>rw[Vh,Vh];exact fm_at fun x O=>h x (Ua _ O)
section
variable {prog:ai}{w:ar}{K:Type}[DecidableEq K](knd:KeyKind prog w K)(G:aa->Prop)
structure Bdy(h:au)(keys:List (List K))(es:Array (Int×ac))(t:av):Prop where
 dm:t.dummies = #[]
 ps:t.place.size=es.size
 len:es.size=keys.length
 ris:Ris t.place
 ent:∀(i:Nat) (e:Int×ac),es[i]? = some e->∃(b:aa) (k:List K) (j:Nat),e=(tupleKeyHash knd k,Value.ref b)/\IsN knd h k b/\k∈keys/\G b/\t.place[i]? = some j/\Way t (Occ t) (t.probeStart e.1) j
 key:∀k∈keys,∃(i:Nat) (b:aa),es[i]? = some (tupleKeyHash knd k,Value.ref b)/\IsN knd h k b
def SetM(h:au)(S:aa)(keys:List (List K)):Prop:=∃o es ep t,h.get? S=some o/\o.ExactSet/\o.data = .set es ep t/\(t.mask=7/\es.size<=4\/t.mask=31)/\Bdy knd G h keys es t
variable {knd}{G}
theorem Bdy.keep{h h':au}{keys:List (List K)}{es:Array (Int×ac)}{t:av}(x:Bdy knd G h keys es t)(k:∀b o ks,IsN knd h ks b->h.get? b=some o->h'.get? b=some o):Bdy knd G h' keys es t :=
 ⟨x.dm,x.ps,x.len,x.ris,fun i e W=>let ⟨b,ks,j,q1,q2,q3⟩:=x.ent i e W;⟨b,ks,j,q1,q2.keep fun o Y=>k b o ks q2 Y,q3⟩,fun ks O=>let ⟨i,b,q1,q2⟩:=x.key ks O;⟨i,b,q1,q2.keep fun o Y=>k b o ks q2 Y⟩⟩
theorem Bdy.nums{h:au}{keys:List (List K)}{es:Array (Int×ac)}{t:av}(x:Bdy knd G h keys es t):∀e∈es.toList,∃b Y,e.2=Value.ref b/\IsN knd h Y b/\Y∈keys:=fun e O=>by
 obtain⟨i,hi⟩:=Wc O;rw[W6]at hi;obtain⟨b,k,j,rfl,J,W,_⟩:=x.ent i e hi;exact⟨b,k,Z,J,W⟩
variable {A:aw}{E:ac->ae->Prop}{s:ae}
theorem Bdy.again{h:au}{keys:List (List K)}{es O:Array (Int×ac)}{t t2:av}{Y:Array Nat}(x:Bdy knd G h keys es t)(eo:Y.toList.Perm (U0 es.size))(e2:O=Y.filterMap (es[·]?))(d2:t2.dummies = #[])(p2:t2.place.size=es.size)(r2:Ris t2.place)
 (w2:∀i k:Nat,Y[i]? = some k->∃(j:Nat) (g:Int),t2.place[i]? = some j/\(es.map (·.1))[k]? = some g/\Way t2 (Occ t2) (t2.probeStart g) j):O.toList.Perm es.toList/\Bdy knd G h keys O t2:=by
 have an:∀k∈Y.toList,∃y,es[k]? = some y:=fun k hk=>⟨_,We (U4.mp (eo.mem_iff.mp hk))⟩
 have ap:∀i:Nat,O[i]? = Y[i]?.bind (es[·]?):=fun i=>by
  rw[<- W6,e2,Array.toList_filterMap,fm_at an,W6]
 have W:O.toList.Perm es.toList:=by
  rw[e2,Array.toList_filterMap];have:=eo.filterMap (fun i=>es[i]?);rw[filterMap_getElem?_range]at this;exact this
 have hsz:O.size=es.size:=by
  have:=W.length_eq;rw[Ui,Ui]at this;exact this
 refine⟨W,d2,by rw[p2,hsz],by rw[hsz];exact x.len,r2,fun i e J=>?_,fun k hk=>?_⟩
 ·rw[ap]at J;cases ho:Y[i]? with
  | none=>rw[ho]at J;cases J
  | some k =>
    rw[ho]at J;have J:es[k]? = some e:=J;obtain⟨b,ks,_,q1,q2,q3,q4,_⟩:=x.ent k e J;obtain⟨j,g,w1,al,w3⟩:=w2 i k ho;rw[Array.getElem?_map,J]at al;have eg:e.1=g:=TU.inj al;exact⟨b,ks,j,q1,q2,q3,q4,w1,by rw[eg];exact w3⟩
 ·obtain⟨i,b,q1,q2⟩:=x.key k hk;have hm:(tupleKeyHash knd k,Value.ref b)∈O.toList:=W.mem_iff.mpr (UG (by rw[W6];exact q1))
  obtain⟨i2,ak⟩:=Wc hm;rw[W6]at ak;exact⟨i2,b,ak,q2⟩
theorem Bdy.more{h:au}{keys:List (List K)}{es:Array (Int×ac)}{t t1:av}{x:aa}{ks:List K}{j p:Nat}(B:Bdy knd G h keys es t)(hx:IsN knd h ks x)(hG:G x)(O:t.slot j = .empty)(hw:Way t (Occ t) (t.probeStart (tupleKeyHash knd ks)) j)(e1:t1=(t.put j).1)(ep:p=(t.put j).2) :
 t1.mask=t.mask/\Bdy knd G h (ks::keys) (insertAt es p (tupleKeyHash knd ks,Value.ref x)) t1:=by
 have W:t1={ t with place:=insertAt t.place (below t.place j) j }:=by
  rw[e1];unfold put;have hz:has t.dummies j=false:=by rw[B.dm];unfold has;rfl
  simp only[hz,Bool.false_eq_true,if_false]
 have ep:p=below t.place j:=by rw[ep];rfl
 have hn:∀i:Nat,t.place[i]? ≠ some j:=fun i z=>by rw[slot_live B.ris z]at O;cases O
 have J:p<=t.place.size:=by rw[ep];exact(below_ok B.ris j).1
 have Y:p<=es.size:=by rw[<- B.ps];exact J
 have ak:t1.mask=t.mask:=by rw[W]
 have pl:∀i:Nat,t1.place[i]? = if i<p then t.place[i]? else if i=p then some j else t.place[i-1]?:=fun i=>by
  rw[W];show(insertAt t.place (below t.place j) j)[i]? = _;rw[<- ep,insert_at J]
 have up:∀s,Occ t s->Occ t1 s:=fun s ⟨q,hq⟩=>by
  rcases Ww q p with z | z
  ·exact⟨q,by rw[pl,if_pos z];exact hq⟩
  ·exact⟨q+1,by rw[pl,if_neg (by lia),if_neg (by lia)];exact hq⟩
 have mv:∀{g:Int} {r:Nat},Way t (Occ t) (t.probeStart g) r->Way t1 (Occ t1) (t1.probeStart g) r:=fun{g r} z=>by
  have:=(z.mono up).mask (u:=t1) ak.symm;rw[start_mask ak.symm g]at this;exact this
 refine⟨ak,?_,?_,?_,?_,fun i e O=>?_,fun k hk=>?_⟩
 ·rw[W];exact B.dm
 ·rw[W];show(insertAt _ _ _).size=_;rw[insert_size,insert_size,B.ps]
 ·rw[insert_size,B.len];rfl
 ·rw[W];exact B.ris.put hn
 ·rw[insert_at Y]at O
  rcases WE i p with z | z | z
  ·rw[if_pos z]at O;obtain⟨b,k,r,q1,q2,q3,q4,q5,q6⟩:=B.ent i e O;exact⟨b,k,r,q1,q2,Ua _ q3,q4,by rw[pl,if_pos z];exact q5,mv q6⟩
  ·rw[if_neg (by lia),if_pos z]at O
   cases O;exact⟨x,ks,j,Z,hx,U9,hG,by rw[pl,if_neg (by lia),if_pos z],mv hw⟩
  ·rw[if_neg (by lia),if_neg (by lia)]at O
   obtain⟨b,k,r,q1,q2,q3,q4,q5,q6⟩:=B.ent (i-1) e O;exact⟨b,k,r,q1,q2,Ua _ q3,q4,by rw[pl,if_neg (by lia),if_neg (by lia)];exact q5,mv q6⟩
 ·rcases Ub.mp hk with z | z
  ·subst z;exact⟨p,x,by rw[insert_at Y,if_neg (TY _),if_pos rfl],hx⟩
  ·obtain⟨i,b,q1,q2⟩:=B.key k z
   rcases Ww i p with y | y
   ·exact⟨i,b,by rw[insert_at Y,if_pos y];exact q1,q2⟩
   ·exact⟨i+1,b,by rw[insert_at Y,if_neg (by lia),if_neg (by lia)];exact q1,q2⟩
theorem add_tail2{S:aa}{o:Obj}{es:Array (Int×ac)}{ep:Nat}{t:av}(ho:s.heap.get? S=some o)(ba:o.ExactSet)(hd:o.data = .set es ep t){es1:Array (Int×ac)}{t1:av}{keys:List (List K)}
 (bd:t1.mask=7/\es1.size<=5\/t1.mask=31) (B:Bdy knd G s.heap keys es1 t1) (a0:es1.size<=17) {m:Nat} (hm:m=es1.size) {Q:Bool->ae->Prop}
 (h:∀h',Heap.SameBut S s.heap h'->SetM knd G h' S keys->Q true { s with heap:=h' }) :
 am (ao prog w) A (do storeSet S es1 t1;if (!false&&t1.tooFull)=true then do { setRelay S (grown m);pure true } else pure true) Q E s:=by
 refine ad (wpAny_storeSet_of ho hd ?_ (U6 a0 (by decide)))
 have O:(s.heap.update S (Obj.putSet es1 t1)).get? S=some { o with data:=.set es1 (ep+1) t1 }:=by
  have:=Heap.get?_update_self (Obj.putSet es1 t1) ho (by rw[putSet_of _ _ hd];rfl)
  rw[putSet_of _ _ hd]at this;exact this
 have an:Heap.SameBut S s.heap (s.heap.update S (Obj.putSet es1 t1)):=Heap.SameBut.update ..;generalize s.heap.update S (Obj.putSet es1 t1)=h1 at O an ⊢
 have J:∀{g g':au} {o':Obj} {es' ep' t'},g.get? S=some o'->o'.data = .set es' ep' t'->Heap.SameBut S g g'->∀b oo ks,IsN knd g ks b->g.get? b=some oo->g'.get? b=some oo:=fun{g g' o' es' ep' t'} e1 e2 sb b oo ks hN e=>by
  have bp:b≠S:=by
   rintro rfl;obtain⟨o2,items,n,q1,q2,q3,_⟩:=hN;rw[e1]at q1;cases q1;rw[e2]at q3;cases q3
  exact(sb.2 b bp).trans e
 have B1:Bdy knd G h1 keys es1 t1:=B.keep (J ho hd an);have aC:SetTable.fill t1=es1.size:=by unfold SetTable.fill;rw[B.dm,B.ps];rfl
 by_cases hfull:t1.tooFull=true
 ·have bb:es1.size*5 ≥ t1.mask*3:=by
   unfold tooFull at hfull;rw[aC]at hfull;exact of_decide_eq_true hfull
  have aP:t1.mask=7/\es1.size=5:=by
   rcases bd with z | z
   ·rw[z.1]at bb;exact⟨z.1,by lia⟩
   ·rw[z]at bb;lia
  simp only[hfull,Bool.not_false,Bool.and_self,if_true];refine ad ?_;unfold setRelay
  have as:t1.fits es1.size=true:=by
   unfold fits;rw[aC,B.ps,aP.1,aP.2];rfl
  refine ad (aM (s:={ s with heap:=h1 }) (o:={ o with data:=.set es1 (ep+1) t1 }) O rfl as ?_)
  dsimp only;have bn:grown m=20:=by rw[hm,aP.2];rfl
  have bc:sizeAbove 20=32:=by decide
  rw[bn,bc,if_neg (by decide)]
  have bh:t1.relaid (es1.map (·.1)) 20=laid 31 t1.finger (t1.movedTo 31) t1.led t1.plain (es1.map (·.1)):=by
   unfold relaid;rw[bc]
  obtain⟨t2,W,el,bg,bf,be,eo,er,ew⟩:=laid_way (es1.map (·.1)) (by rw[Array.size_map];lia) t1.finger (t1.movedTo 31) t1.led t1.plain
  rw[Array.size_map]at be eo;obtain⟨ak,B2⟩:=B1.again eo rfl bf be er ew
  have al:(W.filterMap (es1[·]?)).size=es1.size:=by
   have:=ak.length_eq;rw[Ui,Ui]at this;exact this
  rw[bh,el];refine ad ?_;show am _ _ (if ((W.filterMap (es1[·]?)).size != es1.size)=true then _ else pure (W.filterMap (es1[·]?),t2)) _ _ _;rw[if_neg (by rw[al];simp)]
  refine ah ?_;generalize W.filterMap (es1[·]?)=ap at ak al B2 ⊢;refine wpAny_storeSet_of (s:={ s with heap:=h1 }) (o:={ o with data:=.set es1 (ep+1) t1 }) O rfl ?_ (by rw[al];exact U6 a0 (by decide))
  have bl:(h1.update S (Obj.putSet ap t2)).get? S=some { o with data:=.set ap (ep+1+1) t2 }:=by
   have:=Heap.get?_update_self (Obj.putSet ap t2) O (by rw[putSet_of (es:=es1) (ep:=ep+1) (t:=t1) _ _ rfl];rfl)
   rw[putSet_of (es:=es1) (ep:=ep+1) (t:=t1) _ _ rfl]at this;exact this
  have aF:Heap.SameBut S h1 (h1.update S (Obj.putSet ap t2)):=Heap.SameBut.update ..;exact ah (h (h1.update S (Obj.putSet ap t2)) ⟨aF.1.trans an.1,fun b hb=>(aF.2 b hb).trans (an.2 b hb)⟩ ⟨_,_,_,_,bl,ba,Z,.inr bg,B2.keep (J (es':=es1) (ep':=ep+1) (t':=t1) O rfl aF)⟩)
 ·have Y:t1.tooFull=false:=by simpa using hfull
  simp only[Y,Bool.and_false,Bool.false_eq_true,if_false];refine ah (h h1 an ⟨_,_,_,_,O,ba,Z,?_,B1⟩)
  rcases bd with z | z
  ·refine .inl ⟨z.1,?_⟩;unfold tooFull at Y;rw[aC,z.1]at Y;have bq:=of_decide_eq_false Y
   lia
  ·exact .inr z
def kAdd(ks:List K)(keys:List (List K)):List (List K):=if ks∈keys then keys else ks::keys
theorem add_m{S x:aa}{ks:List K}{keys:List (List K)}{Q:Bool->ae->Prop}(hS:SetM knd G s.heap S keys)(hx:IsN knd s.heap ks x)(aP:G x)(hl:keys.length<=16)(hu:A.units<cLine)
 (h:∀b h',Heap.SameBut S s.heap h'->SetM knd G h' S (kAdd ks keys)->Q b { s with heap:=h' }):am (ao prog w) A (setAddHashed S (.ref x) (tupleKeyHash knd ks)) Q E s:=by
 obtain⟨o,es,ep,t,ho,aF,hd,an,B⟩:=id hS;have hn:=B.len;have hm:t.mask=7\/t.mask=31:=an.elim (fun z=>.inl z.1) .inr;have hsz:es.size<=t.mask:=by rcases an with z | z<;>lia
 have aC:SetTable.fill t=es.size:=by unfold SetTable.fill;rw[B.dm,B.ps];rfl
 have Y:t.fits es.size=true:=by
  unfold fits;rw[aC,B.ps];simp;exact hsz
 unfold setAddHashed setAddHashedIn;refine ax (ad (aM ho hd Y ?_));dsimp only;have bb:byScan (.ref x) es=false:=rfl;rw[bb];simp only[Bool.false_eq_true,if_false];obtain⟨k,al,W⟩:=start_hit hm B.dm (by rw[B.ps];exact hsz) (tupleKeyHash knd ks)
 have ba:k<100000:=by
  unfold turns at al
  rcases hm with z | z<;>rw[z]at al<;>lia
 by_cases hin:ks∈keys
 ·obtain⟨i0,b0,ap,a0⟩:=B.key ks hin;obtain⟨b,k',j0,q1,q2,q3,q4,q5,q6⟩:=B.ent i0 _ ap;obtain⟨m,m1,m2⟩:=q6
  have bc:m<k:=by
   refine Nat.lt_of_not_le fun bd=>?_;unfold Hit at W
   rcases Ww k m with z | z
   ·obtain⟨q,hq⟩:=m2 k z;rw[slot_live B.ris hq]at W;cases W
   ·have e:k=m:=by lia
    rw[e,m1,slot_live B.ris q5]at W;cases W
  refine ad (m:=setSearch S (.ref x) (tupleKeyHash knd ks) true) (search_old ho hd Y hm B.ris hx (fun e he=>let ⟨b,k',q1,q2,_⟩:=B.nums e he;⟨b,k',q1,q2⟩) hu q5 ap a0 ?_ m 100000 none (by lia) (by lia) rfl m1 m2)
  dsimp only;refine ah (h false s.heap (Heap.SameBut.refl ..) ?_);unfold kAdd;rw[if_pos hin];exact hS
 ·have as:∀e∈es.toList,∃b k',e.2=Value.ref b/\IsN knd s.heap k' b/\k'≠ks:=fun e he=>by
   obtain⟨b,k,q1,q2,q3⟩:=B.nums e he;exact⟨b,k,q1,q2,fun z=>hin (z ▸ q3)⟩
  refine ad (m:=setSearch S (.ref x) (tupleKeyHash knd ks) true) (search_new ho hd Y hm B.dm hx as hu (fun j hj hw=>?_) k 100000 0 none ba al rfl (fun l hl=>absurd hl (WI _)) rfl W);dsimp only;refine ad (aM ho hd Y ?_);dsimp only;obtain⟨J,B1⟩:=B.more hx aP hj hw rfl rfl;generalize(t.put j).1=t1 at J B1 ⊢;generalize(t.put j).2=p at B1 ⊢;have O:(insertAt es p (tupleKeyHash knd ks,Value.ref x)).size=es.size+1:=insert_size _ _ _;have ak:=add_tail2 (knd:=knd) (G:=G) (A:=A) (E:=E) (Q:=Q) ho aF hd (es1:=insertAt es p (tupleKeyHash knd ks,Value.ref x)) (t1:=t1) (keys:=ks::keys) (by rw[J,O];rcases an with z | z;exact .inl ⟨z.1,by lia⟩;exact .inr z) B1 (by rw[O];lia) (m:=es.size+1) (by rw[O]) (fun h' sb hM=>h true h' sb (by unfold kAdd;rw[if_neg hin];exact hM))
  split
  ·refine ad (hashByValue_n hx ?_);simp only[if_true];exact ak
  ·refine ad (ah ?_);simp only[if_true];exact ak
end
end St
end L2
namespace L2
open PySem PySem.Spec PyProof.Rows
namespace St
section
variable {prog:ai}{w:ar}{K:Type}[DecidableEq K]{knd:KeyKind prog w K}{G:aa->Prop}{A:aw}{R:Result->ae->Prop}{I:aa}{fp wr:List aa}{GG:Array GenState->Array GenState->Prop}{n:Nat}{P:Nat->ac->Prop}{St:Nat->ae->Prop}
theorem SetM.stay{h h':au}{S:aa}{keys:List (List K)}(x:SetM knd G h S keys)(k:∀b o,b=S\/G b->h.get? b=some o->h'.get? b=some o):SetM knd G h' S keys:=by
 obtain⟨o,es,ep,t,h1,h2,h3,h4,B⟩:=x;refine⟨o,es,ep,t,k _ _ (.inl rfl) h1,h2,h3,h4,B.dm,B.ps,B.len,B.ris,fun i e he=>?_,fun ks hk=>?_⟩
 ·obtain⟨b,ks,j,Y,O,q3,W,q5⟩:=B.ent i e he;exact⟨b,ks,j,Y,O.keep fun o J=>k b o (.inr W) J,q3,W,q5⟩
 ·obtain⟨i,b,Y,O⟩:=B.key ks hk;obtain⟨b',_,_,e,_,_,W,_⟩:=B.ent i _ Y;have eb:b=b':=Value.ref.inj (congrArg Prod.snd e);exact⟨i,b,Y,O.keep fun o J=>k b o (.inr (eb ▸ W)) J⟩
def kD(key:Nat->List K):Nat->List (List K)
 | 0=>[]
 | i+1=>kAdd (key i) (kD key i)
theorem kD_length(key:Nat->List K):∀i,(kD key i).length<=i
 | 0=>Uk _
 | i+1=>by
   have:=kD_length key i;show(kAdd _ _).length<=_;unfold kAdd
   split
   ·lia
   ·rw[Vg];lia
theorem kD_mem{key:Nat->List K}{k:List K}:∀{i},k∈kD key i↔∃j,j<i/\key j=k
 | 0=>⟨(fun h=>nomatch h),(fun⟨_,h,_⟩=>absurd h (WI _))⟩
 | i+1=>by
   show k∈kAdd (key i) (kD key i)↔_;unfold kAdd
   split
   ·next h =>
    rw[kD_mem (i:=i)];refine⟨fun⟨j,h1,h2⟩=>⟨j,by lia,h2⟩,fun⟨j,h1,h2⟩=>?_⟩
    rcases Ww j i with z | z
    ·exact⟨j,z,h2⟩
    ·obtain rfl:j=i:=by lia
     rw[<- h2];exact kD_mem.mp h
   ·rw[Ub,kD_mem (i:=i)];refine⟨fun h=>?_,fun⟨j,h1,h2⟩=>?_⟩
    ·rcases h with z | ⟨j,h1,h2⟩
     ·exact⟨i,Vv _,z.symm⟩
     ·exact⟨j,by lia,h2⟩
    ·rcases Ww j i with z | z
     ·exact .inr ⟨j,z,h2⟩
     ·obtain rfl:j=i:=by lia
      exact .inl h2.symm
theorem kD_all{key:Nat->List K}:∀{n},(kD key n).length=n↔∀i j,i<n->j<n->key i=key j->i=j
 | 0=>⟨fun _ i _ h=>absurd h (WI _),fun _=>rfl⟩
 | n+1=>by
   have hl:=kD_length key n;have Y:=kD_all (key:=key) (n:=n);show(kAdd (key n) (kD key n)).length=n+1↔_;unfold kAdd
   split
   ·next h =>
    refine⟨fun z=>by lia,fun z=>?_⟩
    obtain⟨j,h1,h2⟩:=kD_mem.mp h;have:=z j n (by lia) (Vv _) h2
    lia
   ·next h =>
    rw[Vg];refine⟨fun z i j hi O e=>?_,fun z=>?_⟩
    ·have W:=Y.mp (by lia)
     rcases Ww i n with a | a
     ·rcases Ww j n with b | b
      ·exact W i j a b e
      ·obtain rfl:j=n:=by lia
       exact absurd (kD_mem.mpr ⟨i,a,e⟩) h
     ·obtain rfl:i=n:=by lia
      rcases Ww j i with b | b
      ·exact absurd (kD_mem.mpr ⟨j,b,e.symm⟩) h
      ·lia
    ·have:=Y.mpr fun i j hi O e=>z i j (by lia) (by lia) e
     lia
theorem loop_m(W:WalksS prog w A.in1 I fp wr GG n P St)(S:aa)(aC:S∉fp)(key:Nat->List K)(O:Nat->aa)(aP:∀i v,P i v->v=Value.ref (O i))(hG:∀i,i<n->G (O i))(aF:∀b,G b->b∉wr/\b≠S)
 (hn:n<=17) (hu:A.units+1<cLine) (left i:Nat) (s:ae) (hk:i+left=n) (as:St i s) (hN:∀j,j<n->IsN knd s.heap (key j) (O j)) (hS:SetM knd G s.heap S (kD key i))
 (hR:∀s',Moved (S::wr) GG s s'->SetM knd G s'.heap S (kD key n)->R (.ok (.ret .none)) s'):aR (ao prog w) A (.builtin "set.update.loop" ⟨[.ref S,.ref I],[]⟩) R s:=by
 have al:∀{a b:ae},Moved wr GG a b->Moved (S::wr) GG a b:=fun m=>m.mono fun _=>Ua _;have J:∀{a b:ae},Moved wr GG a b->∀c o,c=S\/G c->a.heap.get? c=some o->b.heap.get? c=some o:=fun m c o hc=>m.heap c o (hc.elim (fun z=>z ▸ mt (W.sub _) aC) fun z=>(aF c z).1)
 induction left generalizing i s with
 | zero =>
   obtain rfl:i=n:=by lia
   refine turn_of (show am (ao prog w) A.in1 (bP (Value.ref I) >>= _) _ _ s from ad (W.done s _ _ as fun s' m=>?_));exact ah (hR s' (al m) (hS.stay (J m)))
 | succ left ih =>
   have ak:i<n:=by lia
   refine turn_of (show am (ao prog w) A.in1 (bP (Value.ref I) >>= _) _ _ s from ad (W.item i s _ _ ak as fun v s' hP ap m=>?_));obtain rfl:=aP i v hP;have an:∀j,j<n->IsN knd s'.heap (key j) (O j):=fun j hj=>(hN j hj).keep fun o e=>J m _ o (.inr (hG j hj)) e;have bc:SetM knd G s'.heap S (kD key i):=hS.stay (J m);refine ad (m:=holding [Value.ref (O i)] (setAdd S (Value.ref (O i)))) (ax ?_);unfold setAdd;refine ax (ad (wpAny_pyHash_tuple hu (an i ak).key ?_));refine add_m (knd:=knd) (G:=G) (s:={ s' with toks:=s'.toks+((key i).length+1) }) bc (an i ak) (hG i ak) (by have:=kD_length key i;lia) hu fun bb h' sb bd=>?_
   have Y:∀c o,c≠S->s'.heap.get? c=some o->h'.get? c=some o:=fun c o hc e=>(sb.2 c hc).trans e;refine ah ⟨plainId_quiet F.plain_set_update_loop _,ih (i+1) _ (by lia) (W.frame _ s' _ _ ap (W2 _ _) fun b hb o e=>Y b o (fun z=>aC (z ▸ hb)) e) (fun j hj=>(an j hj).keep fun o e=>Y _ o (aF _ (hG j hj)).2 e) bd fun ba m2 a0=>?_⟩
   exact hR ba (((al m).then_heap (W2 _ _) fun b o hb e=>Y b o (fun z=>hb (z ▸ U9)) e).trans W.gtrans m2) a0
end
section
variable {prog:ai}{w:ar}{K:Type}[DecidableEq K]{knd:KeyKind prog w K}{A:aw}{E:ac->ae->Prop}{s:ae}
theorem init_m{l:aa}{items:Array ac}(Y:Bool)(key:Nat->List K)(W:Nat->aa)(hh:A.handled=none)(hl:s.heap.IsList l items)(hv:∀(i:Nat) (v:ac),items[i]? = some v->v=Value.ref (W i))(hN:∀j,j<items.size->IsN knd s.heap (key j) (W j))
 (hb:items.size<=17) (hu:A.units+20<cLine) {Q:Fin->ae->Prop} {E':ac->ae->Prop}
 (h:∀(h':au) (tk:Nat),SetM knd (fun b=>b<s.heap.objs.size) h' s.heap.objs.size (kD key items.size)->(∀b o,s.heap.get? b=some o->h'.get? b=some o)->Q (.done (.ret .none)) { s with heap:=h',toks:=tk }) :
 am (ao prog w) A (Builtin.«set.__init__» ⟨[.ref s.heap.objs.size,.ref l],[]⟩) Q E' { s with heap:=s.heap.push (nS Y) }:=by
 have lS:l<s.heap.objs.size:=by obtain⟨_,e,_⟩:=hl;exact Heap.lt_size e
 obtain⟨⟨_,od,_,as⟩,el,hc,nl,hd⟩:=id hl;simp only at hc hd;subst hc hd;have an:(s.heap.push (nS Y)).get? l=some { cls:=.type "list",dict:=od,data:=.seq items nl,slots:=as }:=Heap.get?_push_of_some _ el;have eS:(s.heap.push (nS Y)).get? s.heap.objs.size=some (nS Y):=Heap.get?_push_size _ rfl;have ak:(s.heap.push (nS Y)).IsList l items:=⟨_,an,Z,nl,Z⟩;have t1:=F.sub_list_set;have t2:=F.sub_list_frozenset;have t3:(Value.type "list" == Value.type "dict")=false:=by decide
 unfold Builtin.«set.__init__» noKeywords Builtin.Frozenset.updateFrom;generalize al:pyIter=PI;wp_walk;subst al;have zS:(s.heap.push (nS Y)).objs.size=s.heap.objs.size+1:=Heap.size_push ..;refine wpAny_pyIter_list ak (ad (wpAny_runValue ?_));have up:∀b o,s.heap.get? b=some o->((s.heap.push (nS Y)).push (nI l)).get? b=some o:=fun b o e=>Heap.get?_push_of_some _ (Heap.get?_push_of_some _ e);have lI:l≠(s.heap.push (nS Y)).objs.size:=by rw[zS];exact TZ (Vw lS)
 have O:Bdy knd (fun b=>b<s.heap.objs.size) ((s.heap.push (nS Y)).push (nI l)) (kD key 0) #[] (.fresh 0 0 Y):=⟨Z,Z,Z,List.Pairwise.nil,fun i e he=>by simp at he,fun k hk=>nomatch hk⟩
 refine loop_m (knd:=knd) (G:=fun b=>b<s.heap.objs.size) ((Walks.list (A:=A.in1) hh _ l lI items).toS) s.heap.objs.size ?_ key W (fun i v hP=>hv i v hP) (fun i hi=>?_) (fun b hb=>⟨?_,TZ hb⟩) hb (by lia) items.size 0 _ (W5 _)
  ⟨⟨_,Heap.get?_push_size _ rfl,Z,Z⟩,ak.push _⟩ (fun j hj=>(hN j hj).keep fun o e=>up _ _ e) ⟨_,_,_,_,Heap.get?_push_of_some _ eS,⟨Z,Z,Z⟩,Z,.inl ⟨Z,Uo _⟩,O⟩ ?_
 ·rw[zS];intro J
  rcases Ub.mp J with z | z
  ·exact absurd z (TZ (Vv _))
  ·exact absurd (Vx.mp z) (Uj lS)
 ·obtain⟨_,_,_,e,_⟩:=hN i hi;exact Heap.lt_size e
 ·rw[zS];intro J;exact absurd (Vx.mp J) (TZ (Vw hb))
 rintro⟨h',g',d',aF,aC⟩ m ap;obtain rfl:g'=s.gens:=m.gens;obtain rfl:d'=s.drawn:=m.drawn;obtain rfl:aC=s.os:=m.os;refine ah (ah (h h' aF ap fun b o e=>?_));have lb:=Heap.lt_size e;refine m.heap b o (fun J=>?_) (up b o e);rw[zS]at J
 rcases Ub.mp J with z | z
 ·exact absurd z (TZ lb)
 ·exact absurd (Vx.mp z) (TZ (Vw lb))
theorem call_setM{l:aa}{items:Array ac}{Q:ac->ae->Prop}(key:Nat->List K)(ak:Nat->aa)(hh:A.handled=none)(hl:s.heap.IsList l items)(hv:∀(i:Nat) (v:ac),items[i]? = some v->v=Value.ref (ak i))(hN:∀j,j<items.size->IsN knd s.heap (key j) (ak j))
 (hb:items.size<=17) (hu:A.units+40<cLine)
 (h:∀(h':au) (tk:Nat),SetM knd (fun b=>b<s.heap.objs.size) h' s.heap.objs.size (kD key items.size)->(∀b o,s.heap.get? b=some o->h'.get? b=some o)->Q (.ref s.heap.objs.size) { s with heap:=h',toks:=tk }) :
 am (ao prog w) A (call (.type "set") [.ref l]) Q E s:=by
 obtain⟨_,_,ap⟩:=F.called_set.mro;have m1:=F.called_set.made;have m2:=F.called_set.sub;have m3:=F.called_set.notType;have m4:=F.called_set.canCreate;have m5:=F.typeCall_set_1 (.ref l);refine wpAny_call (codeAny_of_tree (show am _ _ (callAny (.type "set") _) _ _ _ from ah ⟨Code.quiet_builtin _ (by decide +kernel),aX F.entry_type_call ?_⟩))
 rw[Around.under_plain (weight_type_call_type "set" [.ref l] []) rfl]
 repeat any_goals first | assumption | wp_step
 refine aK (code_set_new_1 (.ref l) (E:=E) (Q₁:=fun v J=>v = .ref s.heap.objs.size/\∃W,J={ s with heap:=s.heap.push (nS W) }) fun W=>⟨rfl,W,rfl⟩) fun r J hr=>?_
 rcases r with e | fl
 ·exact hr
 cases fl with
 | ret v =>
   obtain⟨e1,W,e2⟩:=hr;subst e1 e2;have hT:Shared.TypeIs { s with heap:=s.heap.push (nS W) } (.ref s.heap.objs.size) "set":=⟨_,Heap.get?_push_size _ rfl,rfl⟩
   have m6:=F.called_set.init.lookup;have m7:=F.called_set.init.bind (.ref s.heap.objs.size)
   repeat any_goals first | assumption | wp_step
   refine aK (codeAny_call_builtin (R:=wants (fun r O=>r = .none/\Q (.ref s.heap.objs.size) O) E) F.called_set.init.plain F.entry_set_init (check_set_init_1 hT ?_)) fun an O Y=>?_
   ·refine init_m (knd:=knd) W key ak ?_ hl hv hN hb ?_ fun h' tk hS hk=>?_
    ·simp[hh]
    ·simp only[Around.in1];lia
    ·exact⟨Z,h h' tk hS hk⟩
   ·rcases an with e | al
    ·exact Y
    cases al with
    | ret _ =>
      obtain⟨e3,q⟩:=Y;subst e3
      repeat any_goals first | assumption | wp_step
    | _=>exact Y.elim
 | _=>exact hr.elim
end
end St
section
variable {X:Cx}
inductive ML(K:U5)(xs:List V)(H:Hp)(Q:VK):Prop
 | mk (l:aa) (ys:List V) (qs:List Rat) (h1:xs=[.ref l]) (h2:SqL K H l ys) (h3:Aw H ys qs) (h4:qs.length<=17) (h5:∀p n,n<=qs.length->(n=qs.length↔qs.Nodup)->H p=none->Q (.ref p) (upd H p (NR p n))):ML K xs H Q
theorem Mm(hc:X.calm=true)(hu:X.A.units+64<cLine):CV X (.type "set") (ML X.K):=by
 intro pins s σ H xs us Q I r h;obtain⟨l,ys,qs,rfl,hq,hn,aF,q⟩:=h;obtain⟨u,rfl,rfl⟩:=ER r;obtain⟨Y,rv,p,hz⟩:=I.list hq;have hl:=rv.length;have ba:=hn.length;have hsz:Y.toArray.size=qs.length:=by rw[UQ];lia
 let adr:Nat->aa:=fun j=>match ys[j]? with | some (.ref r)=>r | _=>0
 have al:∀j,j<qs.length->∃r,ys[j]? = some (.ref r)/\adr j=r/\H r=some (nT (qs.getD j 0)):=fun j W=>by
  have g:qs[j]? = some (qs.getD j 0):=by rw[Vs,Vy W];rfl
  obtain⟨y,hy,r,rfl,J⟩:=Paired.get' hn g;exact⟨r,hy,by show(match ys[j]? with | some (.ref r)=>r | _=>0)=r;rw[hy],J⟩
 refine St.call_setM (knd:=D7 X.prog X.w) (fun j=>kQ (qs.getD j 0)) adr (I.ok.hd hc) p.isList (fun i v hv=>?_) (fun j W=>?_) (by lia) (by lia) fun h' tk hS hk=>?_
 ·have an:Y[i]? = some v:=by simpa using hv
  have hi:i<Y.length:=(Ue.mp an).1;obtain⟨r,hy,J,_⟩:=al i (by lia)
  obtain⟨u,ak,ru⟩:=rv.get hy;rw[an]at ak;cases ak;rw[J];exact ru
 ·rw[hsz]at W;obtain⟨r,_,J,hH⟩:=al j W;rw[J];exact Q8 I.hok hH
 ·have O:(St.kD (fun j=>kQ (qs.getD j 0)) Y.toArray.size).length=qs.length↔qs.Nodup:=by
   rw[hsz,St.kD_all];refine⟨fun z=>?_,fun z i j hi W e=>?_⟩
   ·refine List.pairwise_iff_getElem.mpr fun i j hi W a0 e=>?_;have:=z i j hi W (by rw[Vs,Vs,Vy hi,Vy W,e])
    lia
   ·have e':=Q6 e;have g1:qs[i]? = some (qs.getD i 0):=by rw[Vs,Vy hi];rfl
    have g2:qs[j]? = some (qs.getD j 0):=by rw[Vs,Vy W];rfl
    exact(List.getElem?_inj hi z).mp (by rw[g1,g2,e'])
  have as:=St.kD_length (fun j=>kQ (qs.getD j 0)) Y.toArray.size;generalize aP:St.kD (fun j=>kQ (qs.getD j 0)) Y.toArray.size=kk at hS O as;obtain⟨o,es,ep,t,h1,h2,h3,h4,B⟩:=hS;have h7:=B.len
  have ap:SetTable.fits t es.size=true:=by
   unfold SetTable.fits SetTable.fill;rw[B.dm,B.ps]
   rcases h4 with z | z<;>simp<;>lia
  have aC:BW X.prog X.w (upd H s.heap.objs.size (NR s.heap.objs.size kk.length)) h' s.heap.objs.size (NR s.heap.objs.size kk.length):=by
   refine⟨⟨o,es,ep,t,h1,h2,h3,ap,h7⟩,⟨o,h1⟩,fun g1 g2 hg hk=>?_⟩;obtain⟨o,es,ep,t,k1,k2,k3,k4,k5⟩:=hg;exact⟨o,es,ep,t,hk o k1,k2,k3,k4,k5⟩
  exact⟨.ref s.heap.objs.size,_,I.laid (t':=tk) hk (Uk _) aC,Z,q _ _ (by lia) O (I.hok.fresh (Uk _))⟩
theorem Rr(K:U5)(W:X.calm=true)(Y:X.A.units+64<cLine)(e:X.K=K:=by rfl):CV X (.type "set") (ML K):=by subst e;exact Mm W Y
end
section
open PySem.W
variable {X:Cx}(K:U5)
inductive TyP(K:U5)(H:Hp):V->ac->Prop where
 | non:TyP K H .non (.type "NoneType")
 | bl (x:Bool):TyP K H (.bl x) (.type "bool")
 | int (i:Int):TyP K H (.int i) (.type "int")
 | str (x:Str):TyP K H (.str x) (.type "str")
 | lst {a:aa} {xs:List V} (e:SqL K H a xs):TyP K H (.ref a) (.type "list")
 | tup {a:aa} {xs:List V} (e:SqT K H a xs):TyP K H (.ref a) (.type "tuple")
 | dK {a:aa} {kvs:List (Key×V)} (e:H a=some (.dK kvs)):TyP K H (.ref a) (.type "dict")
 | dT {a:aa} {kvs:List (List Key×V)} (e:H a=some (.dT kvs)):TyP K H (.ref a) (.type "dict")
end
end L2
namespace L2
open PySem PySem.Spec PyProof.Rows
def KN(Pts:List aa)(H:Hp):Prop:=∀b,b∉Pts->H b=none\/∃o xs,H b=some (.frz o (.lst xs))
theorem Ky{P:ai}{w:ar}{K:U5}{mg mb:Str->Option ac}{CX:CXT}{k:Nat}{fa a:aa}{Pts:List aa}{fd:ag}{x:Str}{sp:Sp}{Y:ae}{vs:List ac}{ns:List Int}
 (KX:K.In Y.heap) (be:Y.heap.Ns aj mg) (hb:Y.heap.Ns bA mb) (bh:∀x:Str,x ≠ "__name__" -> mb x=ay x) (bd:Y.heap.NoLimit) (J:Y.heap.NoSeer) (bB:Bm mg Y.heap) (hg:Y.gens = #[])
 (ak:∀Pt∈Pts,Y.heap.get? Pt=some (Wo #[])) (bx:∀Pt∈Pts,K.lookup Pt=none) (bp:∀Pt∈Pts,∃c,Wn K c Pt=true)
 (ha:Y.heap.get? a=some { cls:=.type "list",data:=.seq vs.toArray }) (hi:bz vs ns) (hl:ns.length<=af) (hr:BM k callerA)
 (F:∀base:au,K.In base->base.Ns aj mg->Bm mg base->Ay P w K mg base CX k fa fd [x] sp) (aC:∀(s:ae) (u:ac),BindsTo s fd ⟨[u],[]⟩ [(x,u)])
 (bq:∀H:Hp,KN Pts H->SqL K H a (ns.map V.int)->(∀Pt∈Pts,H Pt=some (.tbl #[]))->sp [.ref a] H (fun v _=>v = .bl true) fun _ _ _=>False)
 (bn:∀H e s',CX [] H Y (fun _ _ _=>False) e s'->False) :
 aR (ao P w) callerA (.call (.ref fa) ⟨[.ref a],[]⟩) (fun r s'=>r = .ok (.ret (.bool true))/\OldK Y.heap s'.heap/\s'.os=Y.os/\aW s'.gens) Y:=by
 have rv:=LL hi;have ba:=hi.length;have aP:a∉Pts:=fun z=>by rw[ak a z]at ha;cases ha
 have ap:∀H:Hp,KN Pts H->(∀Pt∈Pts,H Pt=some (.tbl #[]))->SqL K H a (ns.map V.int)->HOk P w H Y.heap->(∀b,H b≠none->b=a\/b∈Pts)->(H a≠none->K.lookup a=none) ->
  aR (ao P w) callerA (.call (.ref fa) ⟨[.ref a],[]⟩) (fun r s'=>r = .ok (.ret (.bool true))/\OldK Y.heap s'.heap/\s'.os=Y.os/\aW s'.gens) Y:=by
  intro H hO a0 hS bb hA hK;have W:∀{b:aa} {o:Obj},Y.heap.get? b=some o->H b=none->(Hi Y.heap H).get? b=some o:=fun e n=>Nd e n
  have bt:∀{b:aa} {o:Obj} {es:Array DictEntry} {ep:Nat},Y.heap.get? b=some o->o.data = .dict es ep->H b=none:=fun{b o es ep} e d=>by
   cases q:H b with
   | none=>rfl
   | some u =>
     rcases hA b (by rw[q];simp) with e' | e'
     ·subst e';rw[ha]at e;cases e;have d':Data.seq vs.toArray _=Data.dict es ep:=d;cases d'
     ·rw[ak b e']at e;cases e;have d':Data.fields #[]=Data.dict es ep:=d;cases d'
  have O:∀{b:aa} {m:Str->Option ac},Y.heap.Ns b m->(Hi Y.heap H).Ns b m:=fun{b m} ⟨o,es,ep,e,d,r⟩=>⟨o,es,ep,W e (bt e d),d,r⟩
  have aF:K.In (Hi Y.heap H):=fun b o e=>W (KX b o e) (by
   cases q:H b with
   | none=>rfl
   | some u =>
     rcases hA b (by rw[q];simp) with e' | e'
     ·subst e';rw[hK (by rw[q];simp)]at e;cases e
     ·rw[bx b e']at e;cases e)
  have al:∀{bm:aa} {ob:Obj},Y.heap.get? bm=some ob->ob.cls = .type "module" -> H bm=none:=fun{bm ob} z u=>by
   cases q:H bm with
   | none=>rfl
   | some o =>
     rcases hA bm (by rw[q];simp) with e' | e'
     ·subst e';rw[ha]at z;cases z;have u':Value.type "list" = Value.type "module":=u;exact absurd u' (by decide)
     ·rw[ak bm e']at z;cases z;cases u
  have as:(Hi Y.heap H).NoSeer:=⟨let ⟨mc,x,y⟩:=J.statics;⟨mc,O x,y⟩,let ⟨mm,x,y⟩:=J.mods;⟨mm,O x,y⟩,let ⟨mi,x,y⟩:=J.imp;⟨mi,O x,y⟩,by
   obtain⟨bu,bm,ob,x,y,z,u,v⟩:=J.main;exact⟨bu,bm,ob,O x,y,W z (al z u),u,v⟩⟩
  have bw:Bm mg (Hi Y.heap H):=by
   obtain⟨bm,ob,x,y,z,u,v,t⟩:=bB;exact⟨bm,ob,x,y,W z (al z u),u,v,t⟩
  have hM:Mod K mg (Hi Y.heap H):=⟨aF,O be,⟨mb,O hb,bh⟩,let ⟨mc,h1,h2⟩:=bd;⟨mc,O h1,h2⟩,as⟩;have e0:K1 P w K mg (Hi Y.heap H) callerA [] Y H:=⟨Z,hM,fun b o e=>Oi e,Wz (Mh _ _),trivial,fun b hb=>absurd (show b∈([]:List aa) from hb) (by simp),bb,.of_eq hg⟩
  refine aK ((F _ aF (O be) bw).run callerA [] Y H ⟨[.ref a],[]⟩ [.ref a] [.ref a] _ _ hr e0 (aC Y (.ref a)) (.cons rfl .nil) (bq H hO hS a0)) fun r s' h=>?_;cases r with
  | error e=>exact(bn H e s' h).elim
  | ok fl =>
    cases fl with
    | next=>exact False.elim h
    | brk=>exact False.elim h
    | cont=>exact False.elim h
    | ret u =>
      obtain⟨v,H',os,bc,un,an,r',q⟩:=h;have q':v = .bl true:=q;subst q';obtain rfl:u=Value.bool true:=r'
      have gP:∀Pt∈Pts,∃more,s'.heap.get? Pt=some (Wo (#[]++more)):=fun Pt hm=>by
       obtain⟨more,bg⟩:=un.tbls Pt _ (a0 Pt hm);exact⟨more,an Pt _ bg⟩
      have kp:∀b o,b∉Pts->Y.heap.get? b=some o->s'.heap.get? b=some o:=fun b o n e=>by
       cases q:H b with
       | none=>exact un.keep b o e q (by intro z;exact absurd (show b∈([]:List aa) from z) (by simp)) (by simp)
       | some u =>
         rcases hO b n with z | ⟨ob,xs,z⟩
         ·rw[q]at z;cases z
         ·have z2:=un.frzs b ob _ z;obtain⟨e1,_⟩:=bb b _ z;obtain⟨e2,_⟩:=an b _ z2;rw[e]at e1;cases e1;exact e2
      refine⟨Z,⟨fun b o e=>?_,fun b o e=>?_⟩,os,bc⟩
      ·by_cases n:b∈Pts
       ·obtain⟨more,gp⟩:=gP b n;obtain⟨c,hc⟩:=bp b n;obtain⟨oc,bf,_,_,_,_,_,_,_,g1,g2,g3,g4,_⟩:=Wq KX hc;rw[ak b n]at e;cases e;exact .inr (.inl ⟨⟨c,oc,bf,g1,g2,g3,g4⟩,Z,#[],more,Z,gp⟩)
       ·exact .inl (kp b o n e)
      ·by_cases n:b∈Pts
       ·obtain⟨more,gp⟩:=gP b n;exact⟨_,gp⟩
       ·exact⟨o,kp b o n e⟩
 cases hk:K.lookup a with
 | some o =>
   have e:=KX a o hk;rw[ha]at e;cases e;refine ap (fun b=>if b∈Pts then some (.tbl #[]) else none) (fun b n=>.inl (if_neg n)) (fun Pt hm=>if_pos hm) (.inr ⟨_,vs.toArray,_,hk,Z,Z,Z,by rw[UQ,ba];exact hl,by simpa using rv⟩) (fun b u z=>?_) (fun b z=>?_) fun z=>absurd (if_neg aP) z
   ·by_cases n:b∈Pts
    ·have z':=(if_pos n).symm.trans z;cases z';exact ak b n
    ·have z':=(if_neg n).symm.trans z;cases z'
   ·by_cases n:b∈Pts
    ·exact .inr n
    ·exact absurd (if_neg n) z
 | none =>
   refine ap (fun b=>if b=a then some (.frz { cls:=.type "list",data:=.seq vs.toArray } (.lst (ns.map V.int))) else if b∈Pts then some (.tbl #[]) else none) (fun b n=>?_) (fun Pt hm=>by show(if Pt=a then _ else if Pt∈Pts then some (HO.tbl #[]) else none)=_;rw[if_neg (fun z:Pt=a=>aP (by rw[<- z];exact hm)),if_pos hm]) (.inl (.inr ⟨{ cls:=.type "list",data:=.seq vs.toArray },if_pos rfl⟩)) (fun b u z=>?_) (fun b z=>?_) fun _=>hk
   ·by_cases hb:b=a
    ·exact .inr ⟨_,_,if_pos hb⟩
    ·exact .inl (by show(if b=a then _ else if b∈Pts then _ else none)=none;rw[if_neg hb,if_neg n])
   ·by_cases hb:b=a
    ·have z':=(if_pos hb).symm.trans z;cases z';subst hb;exact⟨ha,by rw[UI];exact hl,vs,_,rv,ha⟩
    ·by_cases n:b∈Pts
     ·have z':some (HO.tbl #[])=some u:=by rw[<- z];show _=(if b=a then _ else if b∈Pts then some (HO.tbl #[]) else none);rw[if_neg hb,if_pos n]
      cases z';exact ak b n
     ·have z':(none:Option HO)=some u:=by rw[<- z];show _=(if b=a then _ else if b∈Pts then some (HO.tbl #[]) else none);rw[if_neg hb,if_neg n]
      cases z'
   ·by_cases hb:b=a
    ·exact .inl hb
    ·by_cases n:b∈Pts
     ·exact .inr n
     ·exact absurd (by show(if b=a then _ else if b∈Pts then _ else none)=none;rw[if_neg hb,if_neg n]) z
theorem LK{l:WK}{n k:Nat}{q:ai}{J:List Str}{XP:(Str->Option ac)->au->Prop}{YP:ar->au->Prop}{d:DefRec}{K:Params->U5}{CX:ar->CXT}{sp:ar->Sp}{x:Str}{Pts:List aa}
 (hI:importsNone q=true) (hn:l.most=some n) (aP:n<=af) (as:d.params.defaults=[]) (hr:BM k callerA)
 (hY:∀(w:ar) (h:au),YP w h->(K w.params).In h/\∀Pt∈Pts,h.get? Pt=some (Wo #[])/\(K w.params).lookup Pt=none)
 (F:∀(w:ar) (mg:Str->Option ac) (fa:aa) (h:au),(K w.params).In h->h.Ns aj mg->mg d.name=some (.ref fa) ->
  ∃ (fd:ag),(∀Pt∈Pts,∃c,Wn (K w.params) c Pt=true)/\(∀(s:ae) (u:ac),BindsTo s fd ⟨[u],[]⟩ [(x,u)]) /\
    ∀base:au,(K w.params).In base->base.Ns aj mg->Bm mg base->Ay l.prog w (K w.params) mg base (CX w) k fa fd [x] (sp w))
 (a0:∀(w:ar) (H:Hp) (a:aa) (ns:List Int),ns.length<=n->KN Pts H->SqL (K w.params) H a (ns.map V.int)->(∀Pt∈Pts,H Pt=some (.tbl #[]))->sp w [.ref a] H (fun v _=>v = .bl true) fun _ _ _=>False)
 (aF:∀(w:ar) (H:Hp) (s:ae) (e:ac) (s':ae),CX w [] H s (fun _ _ _=>False) e s'->False) :
 PySem.W.WalkO q J XP YP l.row.toRowW d [] (fun f vs=>PySem.call f vs):=by
 refine Att.attach_call hn as fun w s₀ ap mg mb fa o pm cd bb a vs ns G Y ho hd ba aC al ak O hg=>?_;obtain⟨KX,an⟩:=hY w _ Y;obtain⟨fd,hc,hb,hF⟩:=F w mg fa _ KX G.T.g aC;exact Ky KX G.T.g G.T.b G.T.builtins G.T.nolimit (G.T.seer hI) G.T.bmain hg (fun Pt hm=>(an Pt hm).1) (fun Pt hm=>(an Pt hm).2) hc al ak (U6 O aP) hr hF hb (fun H hO hS hP=>a0 w H a ns O hO hS hP) fun H e s'=>aF w H ap e s'
theorem OD{P:ai}{w:ar}{outer:List Env}{H:Hp}{s s':ae}{E:XK}{e:ac}(h:CX2 P w outer H s E e s'):CX1 P w outer H s E e s':=by
 obtain⟨ea,cls,O,B,H',h1,h2,Y,h4,h5,h6,J,h8,W⟩:=h;exact⟨ea,cls,O,B,H',h1,h2,Y,h4,h5,h6.fly,J,h8,W⟩
theorem Ay.y1{P:ai}{w:ar}{K:U5}{mg:Str->Option ac}{base:au}{k:Nat}{f:aa}{fd:ag}{ps:List Str}{sp:Sp}(F:Ay P w K mg base (CX2 P w) k f fd ps sp):Ay P w K mg base (CX1 P w) k f fd ps sp :=
 ⟨F.len,fun A outer s H args us vs Q E O Y W r h=>aK (F.run A outer s H args us vs Q E O Y W r h) fun r s' hs=>by
  cases r with
  | error e=>exact OD hs
  | ok fl=>cases fl<;>exact hs⟩
theorem FdY.x1{P:ai}{w:ar}{K:U5}{mg:Str->Option ac}{base:au}{n:Nat}{x:Str}{ps:List Str}{sp:Sp}(F:FdY P w K mg base n x ps sp):FdX P w K mg base n x ps sp:=by
 obtain⟨f,fd,W,O,Y,J⟩:=F.ex;exact⟨f,fd,W.y1,O,Y,J⟩
def Kt(H H':Hp):Prop:=∀b o,(∀ps,o≠HO.tbl ps)->H b=some o->H' b=some o
theorem Kt.trans{H H' Y:Hp}(a:Kt H H')(b:Kt H' Y):Kt H Y:=fun c o n e=>b c o n (a c o n e)
theorem Ae.kt{H H':Hp}(a:Ae H H'):Kt H H':=fun b o _ e=>a b o e
theorem Br.kt{Pt:aa}{q:Str}{H H':Hp}(a:Br Pt H H')(c:BX Pt q H):Kt H H':=fun b o n e=>a b o (fun z=>by obtain⟨ps,ep,_⟩:=c;rw[z]at e;exact n ps (TU.inj (e.symm.trans ep))) e
theorem BX.other{Pt Y:aa}{q:Str}{H H':Hp}(c:BX Y q H)(m:Br Pt H H')(J:Y≠Pt)(ht:∃ps,H Pt=some (.tbl ps)):BX Y q H':=by
 obtain⟨ps,e,t,c⟩:=c;obtain⟨ak,O⟩:=ht;refine⟨ps,m _ _ J e,t,fun pos cv z=>?_⟩;obtain⟨c',e1,W⟩:=c pos cv z;exact⟨c',e1,m _ _ (fun y=>by rw[y,O]at W;cases W) W⟩
theorem BX.tb{Pt:aa}{q:Str}{H:Hp}(c:BX Pt q H):∃ps,H Pt=some (.tbl ps):=let ⟨ps,e,_⟩:=c;⟨ps,e⟩
def Rc(cs:List aa)(R:Hp->Hp->Prop)(H X:Hp):Prop:=∃H'',X=onC cs H H''/\(∀c∈cs,H'' c=none)/\R (offC cs H) H''
theorem Rc.off{cs:List aa}{J:aa->Obj}{R:Hp->Hp->Prop}{H2 X H':Hp}(h:∀c∈cs,H2 c=none)(r:Rc cs R (Di cs J H2) X)(s:Ae X H'):∃Y,R H2 Y/\Ae Y (offC cs H'):=by
 obtain⟨Y,rfl,O,r⟩:=r;rw[Lh h]at r;refine⟨Y,r,fun b o e=>?_⟩;have W:b∉cs:=fun z=>by rw[O b z]at e;cases e
 rw[BV W];exact s b o (by rw[De W];exact e)
structure Ri(P:ai)(w:ar)(K:U5)(mg:Str->Option ac)(base:au)(k:Nat)(R:Hp->Hp->Prop)(H:Hp)(f:aa)(o:Option aa):Prop where
 ex:∃fd sp,Ay P w K mg base (CX1 P w) k f fd [] sp/\Bv K fd [] []/\H f=some (Er f fd)/\∀(Q:VK) (E:XK),(∀r H',R H H'->o=none->Q r H')->(∀C H',R H H'->o=some C->E (.ref C) none H')->sp [] H Q E
theorem CT{P:ai}{w:ar}{K:U5}{mg:Str->Option ac}{base:au}{k:Nat}{f c' Pt:aa}{o:Option aa}{R:Hp->Hp->Prop}{q:Str}{W:aZ}{body:Expr}{scope:aB}{cl:List (Str×aa)}{pm ap:ac}{env:Env}{N fr:List Str}{σ:St}{os:aa->Obj}{H1 H2:Hp}{ws:List V}
 (LN:EM H1 H2 Pt q f c' (Wm "<lambda>" q W body scope cl pm (.ref c') ap)) (C:Hq env cl) (J:∀x∈scope.names,x.2 = .free->∃c,(x.1,c)∈cl) (an:∀c∈cl.map (·.2),H2 c=none) (aC:K2 N σ env.scope cl os)
 (S:NT scope []) (hb:Bv K (Wm "<lambda>" q W body scope cl pm (.ref c') ap) [] []) (aF:Cap env.scope scope N σ fr ws)
 (O:∀(A:aw) (outer:List Env) (s:ae) (E:XK) (H':Hp) (Q:VK),BM k (A.deeper (Wk q scope s.heap.objs.size f (.ref c') cl))->Ae H2 H'->(∀r Y,R H' Y->o=none->Q r Y)->(∀C Y,R H' Y->o=some C->E (.ref C) none Y) ->
  ∃t,PE (Hm (CX1 P w) P w K mg base fr q scope f (.ref c') cl A outer s H' E) body t/\t (ws.map some) H' Q) :
 Ri P w K mg base (k+1) (Rc (cl.map (·.2)) R) (Di (cl.map (·.2)) os H2) f o:=by
 have ak:Ae H2 (Di (cl.map (·.2)) os H2):=Ae.trk an;refine⟨_,fun vs H Q E=>vs=[]/\Ae (Di (cl.map (·.2)) os H2) H/\(∀r H',Rc (cl.map (·.2)) R H H'->o=none->Q r H')/\∀C H',Rc (cl.map (·.2)) R H H'->o=some C->E (.ref C) none H',Ou (N:=fr) (fun vs H Q E h=>by rw[h.1];rfl) lk0 fun A outer s H vs Q E hr h=>?_,hb,ak _ _ LN.lam,fun Q E h g=>⟨Z,Ae.refl _,h,g⟩⟩
 obtain⟨rfl,hm,hq,he⟩:=h;have al:=ak.trans hm;have L:=JG (ps:=[]) (vs:=[]) S C J aC aF rfl hm;have as:Ae H2 (offC (cl.map (·.2)) H):=Ae.untrk hm an;obtain⟨t,h1,h2⟩:=O A outer s (fun cls x H'=>∃C,cls = .ref C/\x=none/\o=some C/\R (offC (cl.map (·.2)) H) H') (offC (cl.map (·.2)) H) (fun v H'=>(∀c∈cl.map (·.2),H' c=none)->Q v (onC (cl.map (·.2)) H H')) hr as (fun r Y m ho hn=>hq _ _ ⟨Y,Z,hn,m⟩ ho) fun C Y m ho=>⟨C,Z,Z,ho,m⟩;exact⟨al _ _ LN.lam,al _ _ LN.cod,_,L,t,_,h1,h2,fun cls x H' hn ⟨C,e1,e2,e3,m⟩=>by subst e1;subst e2;exact he C _ ⟨H',Z,hn,m⟩ e3⟩
end L2
namespace Pf
set_option maxHeartbeats 4000000
open PySem L2
def top(i:Nat):aS:=PySem.Challenge.pw_onecurve_k49_places_refused.main.body.getD i (.Pass ⟨0,0,0,0⟩)
theorem DN{a1:Type}{p:a1->Prop}{G:Prop}(h:∃Y,p Y)(f:∀Y,p Y->G):G:=Exists.elim h f
theorem CK{a1 a2:Type}{p:a1->a2->Prop}{G:Prop}(h:∃Y W,p Y W)(f:∀Y W,p Y W->G):G:=Exists.elim h fun Y h=>DN h (f Y)
theorem Gk{a1 a2 a3:Type}{p:a1->a2->a3->Prop}{G:Prop}(h:∃Y W O,p Y W O)(f:∀Y W O,p Y W O->G):G:=Exists.elim h fun Y h=>CK h (f Y)
theorem Nl{a1 a2 a3 a4:Type}{p:a1->a2->a3->a4->Prop}{G:Prop}(h:∃Y O J W,p Y O J W)(f:∀Y O J W,p Y O J W->G):G:=Exists.elim h fun Y h=>Gk h (f Y)
theorem R3{a1 a2 a3 a4 a5:Type}{p:a1->a2->a3->a4->a5->Prop}{G:Prop}(h:∃Y W x3 J O,p Y W x3 J O)(f:∀Y W x3 J O,p Y W x3 J O->G):G:=Exists.elim h fun Y h=>Nl h (f Y)
theorem Ry{a1 a2 a3 a4 a5 a6:Type}{p:a1->a2->a3->a4->a5->a6->Prop}{G:Prop}(h:∃Y W x3 x4 O J,p Y W x3 x4 O J)(f:∀Y W x3 x4 O J,p Y W x3 x4 O J->G):G:=Exists.elim h fun Y h=>R3 h (f Y)
theorem Qd{a1 a2 a3 a4 a5 a6 a7:Type}{p:a1->a2->a3->a4->a5->a6->a7->Prop}{G:Prop}(h:∃Y W x3 x4 O J x7,p Y W x3 x4 O J x7)(f:∀Y W x3 x4 O J x7,p Y W x3 x4 O J x7->G):G:=Exists.elim h fun Y h=>Ry h (f Y)
theorem Rx{a1 a2 a3 a4 a5 a6 a7 a8:Type}{p:a1->a2->a3->a4->a5->a6->a7->a8->Prop}{G:Prop}(h:∃Y W x3 x4 O J x7 x8,p Y W x3 x4 O J x7 x8)(f:∀Y W x3 x4 O J x7 x8,p Y W x3 x4 O J x7 x8->G):G:=Exists.elim h fun Y h=>Qd h (f Y)
theorem OB{a1 a2 a3 a4 a5 a6 a7 a8 a9:Type}{p:a1->a2->a3->a4->a5->a6->a7->a8->a9->Prop}{G:Prop}(h:∃Y W x3 x4 O J x7 x8 x9,p Y W x3 x4 O J x7 x8 x9)(f:∀Y W x3 x4 O J x7 x8 x9,p Y W x3 x4 O J x7 x8 x9->G):G:=Exists.elim h fun Y h=>Rx h (f Y)
theorem C7{W Y G:Prop}(h:W/\Y)(f:W->Y->G):G:=f h.1 h.2
theorem C2{W Y O G:Prop}(h:W/\Y/\O)(f:W->Y->O->G):G:=C7 h.2 (f h.1)
theorem HH{O Y W J G:Prop}(h:O/\Y/\W/\J)(f:O->Y->W->J->G):G:=C2 h.2 (f h.1)
theorem Eh{Y J A3 O W G:Prop}(h:Y/\J/\A3/\O/\W)(f:Y->J->A3->O->W->G):G:=HH h.2 (f h.1)
theorem NK{Y A2 A3 J W O G:Prop}(h:Y/\A2/\A3/\J/\W/\O)(f:Y->A2->A3->J->W->O->G):G:=Eh h.2 (f h.1)
theorem Qj{Y A2 A3 A4 W O J G:Prop}(h:Y/\A2/\A3/\A4/\W/\O/\J)(f:Y->A2->A3->A4->W->O->J->G):G:=NK h.2 (f h.1)
theorem RA{Y A2 A3 A4 W O J A8 G:Prop}(h:Y/\A2/\A3/\A4/\W/\O/\J/\A8)(f:Y->A2->A3->A4->W->O->J->A8->G):G:=Qj h.2 (f h.1)
theorem Rz{Y A2 A3 A4 W O J A8 A9 G:Prop}(h:Y/\A2/\A3/\A4/\W/\O/\J/\A8/\A9)(f:Y->A2->A3->A4->W->O->J->A8->A9->G):G:=RA h.2 (f h.1)
theorem NL{W A2 A3 A4 O J A7 A8 A9 Y G:Prop}(h:W/\A2/\A3/\A4/\O/\J/\A7/\A8/\A9/\Y)(f:W->A2->A3->A4->O->J->A7->A8->A9->Y->G):G:=Rz h.2 (f h.1)
theorem R7{O A2 A3 A4 J A6 A7 A8 A9 Y W G:Prop}(h:O/\A2/\A3/\A4/\J/\A6/\A7/\A8/\A9/\Y/\W)(f:O->A2->A3->A4->J->A6->A7->A8->A9->Y->W->G):G:=NL h.2 (f h.1)
def AN(B:Int)(q:Rat):Int:=q.num*B.fdiv q.den
theorem Fz{B:Int}{q:Rat}(h:(q.den:Int)∣B):((AN B q:Int):Rat)=q*(B:Rat):=by
 obtain⟨k,rfl⟩:=h;have e:(((q.den:Int)*k).fdiv (q.den:Int))=k:=V2 _ (Nm.den_ne q);unfold AN;rw[e,Va,Va,Nm.num_mul q]
 grind
theorem Il{B:Int}{qs:List Rat}(h:∀q∈qs,(q.den:Int)∣B)(x:Rat):Cv.ev ((qs.map (AN B)).map fun t:Int=>(t:Rat)) x=Cv.ev qs x*(B:Rat):=by
 rw[<- Cv.ev_scale,List.map_map]
 congr 1
 exact WL fun q Y=>Fz (h q Y)
inductive HL(K:U5)(vs:List V)(H:Hp)(Q:VK)(E_3:XK):Prop
 | mk (b:Bool) (r:aa) (xs:List V) (qs:List Rat) (n:Nat) (h1:vs=[.ref r]) (h2:Sq b K H r xs) (h3:Au K H xs qs) (h4:(∀q∈qs,Bd n (q.den:Int))) (h5:n*(qs.length+2)<=60000000) (h6:∀B:Int,0<B->(∀q∈qs,(q.den:Int)∣B)->Bd (n*qs.length+1) B->Q (.int B) H):HL K vs H Q E_3
inductive Gs(K:U5)(vs:List V)(H:Hp)(Q:VK)(E_3:XK):Prop
 | mk (b:Bool) (r:aa) (xs:List V) (qs:List Rat) (B:Int) (m n:Nat) (h1:vs=[.ref r,.int B]) (h2:Sq b K H r xs) (h3:Au K H xs qs) (h4:Bd m B) (h5:(∀q∈qs,Bd n q.num)) (h6:m+n<=134217728) (h7:qs.length<=1000) (h8:∀p,H p=none->Q (.ref p) (upd H p (.lst ((qs.map (AN B)).map V.int)))):Gs K vs H Q E_3
inductive El(K:U5)(vs:List V)(H:Hp)(Q:VK)(E_3:XK):Prop
 | mk (r:aa) (xs:List V) (qs:List Rat) (h1:vs=[.ref r]) (h2:SqL K H r xs) (h3:Au K H xs qs) (h4:qs.length<=1000) (h5:∀p H',Ae H H'->Crv K H' p (Cv.strip qs)->Q (.ref p) H'):El K vs H Q E_3
inductive O5(K:U5)(vs:List V)(H:Hp)(Q:VK)(E_3:XK):Prop
 | mk (l rx:aa) (ts:List Int) (x:Rat) (m n:Nat) (h1:vs=[.ref l,.ref rx]) (h2:SqL K H l (ts.map V.int)) (h3:AD K H (.ref rx) x) (h4:(∀t∈ts,Bd m t)) (h5:RB n x) (h6:m+(n+1)*(ts.length+4)<=100000000) (h7:∀(h s:Int) (p:aa),s=(x.den:Int) ^ ts.length->s≠0->(h:Rat)=Cv.evI ts x*(s:Rat)->Bd (m+(n+1)*(ts.length+2)) h->Bd (n*ts.length+1) s->H p=none->Q (.ref p) (upd H p (.tup [.int h,.int s]))):O5 K vs H Q E_3
theorem N6{b d:Int}(hb:0<b)(hd:0<d):0<b*d.fdiv (V1 b d:Int)/\b∣b*d.fdiv (V1 b d:Int)/\d∣b*d.fdiv (V1 b d:Int):=by
 have J:(0:Int)<(V1 b d:Int):=by have:=Nm.gcd_pos (a:=b) (b:=d) (by lia);lia
 obtain⟨k,W⟩:(V1 b d:Int)∣d:=V6 ..;obtain⟨j,O⟩:(V1 b d:Int)∣b:=V4 ..;generalize(V1 b d:Int)=g at *;subst W;subst O;have e:(g*k).fdiv g=k:=V2 _ (by lia)
 rw[e]
 have Y:0<k:=by
  rcases Int.lt_trichotomy k 0 with z | z | z
  ·have:g*k<0:=Int.mul_neg_of_pos_of_neg J z
   lia
  ·rw[z,WM]at hd;lia
  ·exact z
 exact⟨Int.mul_pos hb Y,⟨k,Z⟩,⟨j,by grind⟩⟩
inductive Ka(K:U5)(vs:List V)(H:Hp)(Q:VK)(E_3:XK):Prop
 | mk (f g:aa) (fs gs:List Int) (m n:Nat) (h1:vs=[.ref f,.ref g]) (h2:SqL K H f (fs.map V.int)) (h3:SqL K H g (gs.map V.int)) (h4:1<=gs.length) (h5:fs.length<=1000) (h6:gs.length<=1000) (h7:(∀t∈fs,Bd m t)) (h8:(∀t∈gs,Bd n t)) (h9:m+n<=60000000) (h10:∀(p:aa) (H':Hp) (ps:List Int),Ae H H'->H p=none->H' p=some (.lst (ps.map V.int))->ps.length=fs.length+gs.length-1->(∀x,Cv.evI ps x=Cv.evI fs x*Cv.evI gs x)->(∀t∈ps,Bd (m+n+20) t)->Q (.ref p) H'):Ka K vs H Q E_3
inductive Cu(K:U5)(vs:List V)(H:Hp)(Q:VK)(E_3:XK):Prop
 | mk (l:aa) (ts:List Int) (b:Int) (h1:vs=[.ref l,.int b]) (h2:SqL K H l (ts.map V.int)) (h3:b≠0) (h4:ts.length<=1000) (h5:∀p H',Ae H H'->Crv K H' p (Cv.strip (ts.map fun t=>V3 t b))->Q (.ref p) H'):Cu K vs H Q E_3
def Bb:List Rat->List Rat->Rat->Rat
 | k::ks,s::ss,x=>s+(x-k)*Bb ks ss x
 | _,_,_=>0
inductive CL(K:U5)(vs:List V)(H:Hp)(Q:VK)(E_3:XK):Prop
 | mk (rk rst:aa) (xs ys:List V) (ks ss:List Rat) (n:Nat) (h1:vs=[.ref rk,.ref rst]) (h2:SqL K H rk xs) (h3:Au K H xs ks) (h4:SqL K H rst ys) (h5:Au K H ys ss) (h6:ks.length=ss.length) (h7:ks.length<=13) (h8:(∀q∈ks,RB n q)) (h9:(∀q∈ss,RB n q)) (h10:n<=2048000) (h11:∀p H' cs,Ae H H'->Crv K H' p cs->cs.length<=ks.length->BE cs->(∀q∈cs,RB (2*(n*ks.length)+21*ks.length+2*n+30) q)->(∀x,Cv.ev cs x=Bb ks ss x)->Q (.ref p) H'):CL K vs H Q E_3
theorem Nn(c x:Rat):Cv.evI [-c.num,(c.den:Int)] x=(x-c)*((c.den:Int):Rat):=by
 show((-c.num:Int):Rat)+x*(((c.den:Int):Rat)+x*0)=_;rw[Rat.intCast_neg,Nm.num_mul c]
 grind
theorem Le(p q:Rat)(Y:q≠0):V3 (p.num*q.den) (p.den*q.num)=p / q:=by
 have W:q.num≠0:=fun z=>Y (Rat.num_eq_zero.mp z);apply Nm.div_eq (V9 (Nm.den_ne p) W);rw[Va,Va,Nm.num_mul p,Nm.num_mul q];have e:p / q*q=p:=V8 Y;have h:p / q*(((p.den:Int):Rat)*(q*((q.den:Int):Rat)))=(p / q*q)*(((p.den:Int):Rat)*((q.den:Int):Rat)):=by grind
 rw[h,e]
 grind
inductive Iv(K:U5)(vs:List V)(H:Hp)(Q:VK)(E_3:XK):Prop
 | mk (x y:V) (p q:Rat) (m n:Nat) (h1:vs=[x,y]) (h2:AD K H x p) (h3:AD K H y q) (h4:q≠0) (h5:RB m p) (h6:RB n q) (h7:m+n<=100000000) (h8:∀r,H r=none->Q (.ref r) (upd H r (nT (p / q)))):Iv K vs H Q E_3
theorem RB.over{m n:Nat}{p q:Rat}(h1:RB m p)(h2:RB n q)(Y:q≠0):RB (m+n) (p / q):=by
 have W:q.num≠0:=fun z=>Y (Rat.num_eq_zero.mp z);rw[<- Le p q Y];exact⟨Bd.num (h1.1.mul h2.2),Bd.den (V9 (Nm.den_ne p) W) (h1.2.mul h2.1)⟩
theorem D3{α β:Type}{F:α->β->Prop}:∀{l₁:List α} {l₂:List β} (i:Nat),Paired F l₁ l₂->Paired F (l₁.drop i) (l₂.drop i)
 | _,_,i,.nil=>by rw[List.drop_nil,List.drop_nil];exact .nil
 | _,_,0,.cons h t=>.cons h t
 | _,_,i+1,.cons _ t=>D3 i t
def C9(ps:List Rat):List Hn:=(U0 (ps.length-1)).map fun k:Nat=>(⟨ps.getD 0 0,(k:Int),ps.getD (k+1) 0⟩:Hn)
def AX(pss:List (List Rat)):List Hn:=(pss.map C9).flatten
theorem Bk(ps:List Rat):(C9 ps).length=ps.length-1:=by unfold C9;rw[UI,W7]
theorem LQ(pss:List (List Rat))(ps:List Rat):AX (pss++[ps])=AX pss++C9 ps:=by
 unfold AX;rw[Vk,List.flatten_append];simp
theorem Cm:∀pss:List (List Rat),(∀ps∈pss,ps.length<=3)->(AX pss).length<=2*pss.length
 | [],_=>Uk _
 | p::r,h=>by
   have ih:=Cm r fun ps Y=>h ps (Ua _ Y);have Y:=h p U9;have e:AX (p::r)=C9 p++AX r:=rfl;rw[e,UH,Bk,Vg]
   lia
def P23(pss:List (List Rat)):Prop:=∀ps∈pss,ps.length=2\/ps.length=3
theorem P23.take{pss:List (List Rat)}(h:P23 pss)(i:Nat):∀ps∈pss.take i,ps.length<=3:=fun ps Y=>by
 have:=h ps (WN Y);lia
theorem BC{l:List Rat}{i:Nat}(h:i<l.length):l[i]? = some (l.getD i 0):=by rw[Vs,Vy h];rfl
def cnt(x:Rat):List Rat->Nat
 | []=>0
 | y::r=>(if x<=y then 1 else 0)+cnt x r
theorem NA(x:Rat):∀l,cnt x l<=l.length
 | []=>Uk _
 | y::r=>by
   have:=NA x r;show(if x<=y then 1 else 0)+cnt x r<=r.length+1
   split<;>lia
theorem MJ(x:Rat):x<=x+1:=by grind
theorem Pc(x:Rat):¬x+1<=x:=by grind
theorem JS(x:Rat):∀l,cnt (x+1) l<=cnt x l
 | []=>Uk _
 | y::r=>by
   have:=JS x r;show(if x+1<=y then 1 else 0)+cnt (x+1) r<=(if x<=y then 1 else 0)+cnt x r;by_cases h:x+1<=y
   ·rw[if_pos h,if_pos (Rat.le_trans (MJ x) h)];lia
   ·rw[if_neg h];lia
theorem KI{x:Rat}:∀{l},x∈l->cnt (x+1) l<cnt x l
 | y::r,h=>by
   show(if x+1<=y then 1 else 0)+cnt (x+1) r<(if x<=y then 1 else 0)+cnt x r
   rcases Ub.mp h with z | z
   ·subst z;have:=JS x r;rw[if_neg (Pc x),if_pos Rat.le_refl];lia
   ·have:=KI z;by_cases h:x+1<=y
    ·rw[if_pos h,if_pos (Rat.le_trans (MJ x) h)];lia
    ·rw[if_neg h];lia
theorem Pb{j:Nat}(h:j<=100):RB 7 ((j:Nat):Rat):=⟨by rw[Rat.num_natCast];unfold Bd;lia,by rw[Rat.den_natCast];unfold Bd;decide⟩
inductive FE(K:U5)(n:Nat)(vs:List V)(H:Hp)(Q:VK)(E_3:XK):Prop
 | mk (a:aa) (m:Int) (h1:vs=[.ref a,.int m]) (h2:Pen H a) (h3:0<=m) (h4:m<=100) (h5:∀(l:aa) (H':Hp) (zs:List V) (qs:List Rat),Mv a H H'->Pen H' a->H l=none->H' l=some (.lst zs)->Aw H' zs qs->(qs.length:Int)=m->qs.Nodup->(∀q∈qs,RB (n+8) q)->Q (.ref l) H'):FE K n vs H Q E_3
inductive Im(K:U5)(vs:List V)(H:Hp)(Q:VK)(E_3:XK):Prop
 | mk (r:aa) (xs:List V) (pss:List (List Rat)) (h1:vs=[.ref r]) (h2:SqT K H r xs) (h3:CW K H xs pss) (h4:P23 pss) (h5:pss.length<=100) (h6:∀(p:aa) (H':Hp) (ys:List V),Ae H H'->H p=none->H' p=some (.lst ys)->Ho K H' ys (AX pss)->Q (.ref p) H'):Im K vs H Q E_3
inductive EV(K:U5)(vs:List V)(H:Hp)(Q:VK)(E_3:XK):Prop
 | mk (r:aa) (xs:List V) (pss:List (List Rat)) (h1:vs=[.ref r]) (h2:SqT K H r xs) (h3:CW K H xs pss) (h4:P23 pss) (h5:pss.length<=100) (h6:∀(p:aa) (H':Hp) (ys:List V),Ae H H'->H p=none->H' p=some (.lst ys)->Aw H' ys ((AX pss).map Hn.x)->Q (.ref p) H'):EV K vs H Q E_3
def P2(pss:List (List Rat)):Prop:=∀ps∈pss,ps.length=2
theorem P2.p23{pss:List (List Rat)}(h:P2 pss):P23 pss:=fun ps Y=>.inl (h ps Y)
inductive FC(K:U5)(vs:List V)(H:Hp)(Q:VK)(E_3:XK):Prop
 | mk (r:aa) (xs:List V) (pss:List (List Rat)) (h1:vs=[.ref r]) (h2:SqT K H r xs) (h3:CW K H xs pss) (h4:P2 pss) (h5:pss.length<=100) (h6:∀(d:aa) (H':Hp),Ae H H'->Q (.ref d) H'):FC K vs H Q E_3
def Dl(pss:List (List Rat)):List Rat:=(pss.map fun ps=>Ux (ps.length-1) (ps.getD 1 0)).flatten
theorem LY(pss:List (List Rat))(ps:List Rat):Dl (pss++[ps])=Dl pss++Ux (ps.length-1) (ps.getD 1 0):=by
 unfold Dl;rw[Vk,List.flatten_append];simp
theorem E3:∀pss,(Dl pss).length=(AX pss).length
 | []=>rfl
 | p::r=>by
   have e:AX (p::r)=C9 p++AX r:=rfl;have Y:Dl (p::r)=Ux (p.length-1) (p.getD 1 0)++Dl r:=rfl;rw[e,Y,UH,UH,UJ,Bk,E3 r]
inductive K9(K:U5)(vs:List V)(H:Hp)(Q:VK)(E_3:XK):Prop
 | mk (r:aa) (xs:List V) (pss:List (List Rat)) (h1:vs=[.ref r]) (h2:SqT K H r xs) (h3:CW K H xs pss) (h4:P23 pss) (h5:pss.length<=100) (h6:∀(p:aa) (H':Hp) (ys:List V),Ae H H'->H p=none->H' p=some (.lst ys)->Au K H' ys (Dl pss)->Q (.ref p) H'):K9 K vs H Q E_3
def kn(pss:List (List Rat)):List Rat:=(AX pss).map Hn.x
theorem BO(pss:List (List Rat)):(kn pss).length=(AX pss).length:=UI _
def O8(pss:List (List Rat))(x:Rat):Rat :=
 match pss.find? (fun ps=>decide (ps.length=3)&&decide (ps.getD 0 0=x)) with
 | some ps=>ps.getD 2 0
 | none=>0
def Ds(A kn:List Rat)(sl:Rat->Rat)(k:Nat):List Rat :=
 (U0 (kn.length-k)).map fun j=>if kn.getD (j+k) 0=kn.getD j 0 then sl (kn.getD j 0) else (A.getD (j+1) 0-A.getD j 0) / (kn.getD (j+k) 0-kn.getD j 0)
theorem DJ(A kn:List Rat)(Y:Rat->Rat)(k:Nat):(Ds A kn Y k).length=kn.length-k:=by unfold Ds;rw[UI,W7]
theorem Hb{A kn:List Rat}{Y:Rat->Rat}{k j:Nat}(h:j<kn.length-k):(Ds A kn Y k).getD j 0=if kn.getD (j+k) 0=kn.getD j 0 then Y (kn.getD j 0) else (A.getD (j+1) 0-A.getD j 0) / (kn.getD (j+k) 0-kn.getD j 0):=by
 unfold Ds;rw[Vs,UC,Wa h];rfl
theorem BL{l:List Rat}{i:Nat}(h:i<l.length):l.getD i 0∈l:=UG (BC h)
theorem MX{A kn:List Rat}{W:Rat->Rat}{k m n:Nat}(hA:∀q∈A,RB m q)(O:∀q∈kn,RB n q)(hs:∀x,RB (2*m+2*n+2) (W x))(h1:1<=k)(hl:A.length+k=kn.length+1):∀q∈Ds A kn W k,RB (2*m+2*n+2) q:=fun q J=>by
 unfold Ds at J;obtain⟨j,hj,rfl⟩:=VU.mp J;have hj:=U4.mp hj
 split
 ·exact hs _
 ·next Y =>
  have a1:=hA _ (BL (l:=A) (i:=j+1) (by lia))
  have a0:=hA _ (BL (l:=A) (i:=j) (by lia))
  have k1:=O _ (BL (l:=kn) (i:=j+k) (by lia))
  have k0:=O _ (BL (l:=kn) (i:=j) (by lia))
  exact(RB.over (a1.minus a0) (k1.minus k0) (fun z=>Y (by grind))).mono (by lia)
def tab(pss:List (List Rat)):Nat->List Rat
 | 0=>Dl pss
 | k+1=>Ds (tab pss k) (kn pss) (O8 pss) (k+1)
theorem DB(pss:List (List Rat)):∀k,k<=(AX pss).length->(tab pss k).length=(AX pss).length-k
 | 0,_=>E3 pss
 | k+1,_=>by rw[tab,DJ,BO]
def bnd(h n:Nat):Nat->Nat
 | 0=>h
 | k+1=>2*bnd h n k+2*n+2
theorem NH(h n:Nat):∀k,bnd h n k+(2*n+2)=2 ^ k*(h+2*n+2)
 | 0=>by show h+(2*n+2)=1*_;lia
 | k+1=>by
   have:=NH h n k;rw[Nat.pow_succ,Nat.mul_comm (2 ^ k) 2,Nat.mul_assoc,<- this];show 2*bnd h n k+2*n+2+_=_
   lia
theorem KJ{h n k m c:Nat}(Y:h+2*n+2<=c)(W:k<=m):bnd h n k<=2 ^ m*c:=by
 have h1:=NH h n k;have h2:2 ^ k<=2 ^ m:=VA (by decide) W
 have O:2 ^ k*(h+2*n+2)<=2 ^ m*c:=WQ h2 Y
 lia
theorem KL(h n:Nat):∀k,h<=bnd h n k
 | 0=>Uk _
 | k+1=>by have:=KL h n k;show h<=2*bnd h n k+2*n+2;lia
theorem NF(h n k:Nat):bnd h n k<=bnd h n (k+1):=by show _<=2*bnd h n k+2*n+2;lia
theorem NG(h n:Nat){j k:Nat}(Y:j<=k):bnd h n j<=bnd h n k:=by
 induction Y with
 | refl=>exact Uk _
 | step _ ih=>exact U6 ih (NF h n _)
theorem O0{ps:List Rat}:∀t∈C9 ps,t.x=ps.getD 0 0:=fun t Y=>by
 unfold C9 at Y;obtain⟨k,_,rfl⟩:=VU.mp Y
 rfl
theorem IZ(p:List Rat)(r:List (List Rat)):kn (p::r)=Ux (p.length-1) (p.getD 0 0)++kn r:=by
 have e:AX (p::r)=C9 p++AX r:=rfl;unfold kn;rw[e,Vk]
 congr 1
 refine List.eq_replicate_iff.mpr ⟨by rw[UI,Bk],fun x Y=>?_⟩
 obtain⟨t,W,rfl⟩:=VU.mp Y;exact O0 t W
theorem KA:∀{pss:List (List Rat)} {x:Rat},x∈kn pss->∃ps∈pss,ps.getD 0 0=x
 | p::r,x,h=>by
   rw[IZ]at h
   rcases Uc.mp h with z | z
   ·exact⟨p,U9,(WR.mp z).2.symm⟩
   ·obtain⟨ps,h1,h2⟩:=KA z;exact⟨ps,Ua _ h1,h2⟩
theorem N8{pss:List (List Rat)}{n:Nat}(Y:∀ps∈pss,RB n (ps.getD 0 0)):∀x∈kn pss,RB n x:=fun x W=>by
 obtain⟨ps,h1,rfl⟩:=KA W;exact Y ps h1
theorem Ob{pss:List (List Rat)}{n:Nat}(W:P23 pss)(O:∀ps∈pss,∀q∈ps,RB n q):∀x∈Dl pss,RB n x:=fun x Y=>by
 unfold Dl at Y;obtain⟨l,J,Y⟩:=List.mem_flatten.mp Y;obtain⟨ps,h1,rfl⟩:=VU.mp J;rw[(WR.mp Y).2];exact O ps h1 _ (BL (by have:=W ps h1;lia))
theorem O7{pss:List (List Rat)}{n:Nat}(h1:1<=n)(W:∀ps∈pss,∀q∈ps,RB n q)(x:Rat):RB n (O8 pss x):=by
 unfold O8
 split
 ·next ps h =>
  have h2:=List.mem_of_find?_eq_some h;have Y:=List.find?_some h;rw[Bool.and_eq_true,decide_eq_true_eq,decide_eq_true_eq]at Y;exact W ps h2 _ (BL (by lia))
 ·exact RB.zero h1
theorem K6{pss:List (List Rat)}{h n:Nat}(h23:P23 pss)(hn:1<=h)(hb:∀ps∈pss,∀q∈ps,RB h q)(hbk:∀ps∈pss,RB n (ps.getD 0 0)):∀k,k<=(AX pss).length->∀q∈tab pss k,RB (bnd h n k) q
 | 0,_=>Ob h23 hb
 | k+1,hk=>by
   rw[tab];exact MX (K6 h23 hn hb hbk k (by lia)) (N8 hbk) (fun x=>(O7 hn hb x).mono (U6 (KL h n k) (by lia))) (by lia) (by rw[DB _ _ (by lia),BO];lia)
theorem He:∀{pss:List (List Rat)},P23 pss->(pss.map fun ps=>ps.getD 0 0).Nodup->∀{j k:Nat},1<=k->j+k<(AX pss).length->(kn pss).getD (j+k) 0=(kn pss).getD j 0 ->
 k=1/\∃ps∈pss,ps.length=3/\ps.getD 0 0=(kn pss).getD j 0/\((AX pss).map Hn.n).getD (j+1) 0=ps.getD 2 0/\(Dl pss).getD (j+1) 0=(Dl pss).getD j 0
 | p::r,h23,hnd,j,k,h1,hjk,he=>by
   rw[UX,Uv]at hnd
   have hout:∀i,i<(kn r).length->(kn r).getD i 0≠p.getD 0 0:=fun i hi e=>by
    obtain⟨ps,h1,h2⟩:=KA (BL hi);exact hnd.1 (e ▸ h2 ▸ Wl (f:=fun ps:List Rat=>ps.getD 0 0) h1)
   have et:AX (p::r)=C9 p++AX r:=rfl;have er:Dl (p::r)=Ux (p.length-1) (p.getD 1 0)++Dl r:=rfl;have ih:=@He r (fun ps h=>h23 ps (Ua _ h)) hnd.2;have ak:=BO r;rw[IZ]at he ⊢;rw[et,UH,Bk]at hjk
   rcases h23 p U9 with Y | Y
   ·have e1:Ux (p.length-1) (p.getD 0 0)=[p.getD 0 0]:=by rw[Y];rfl
    have O:C9 p=[⟨p.getD 0 0,0,p.getD 1 0⟩]:=by unfold C9;rw[Y];rfl
    have e3:Ux (p.length-1) (p.getD 1 0)=[p.getD 1 0]:=by rw[Y];rfl
    rw[e1]at he ⊢;rw[et,er,O,e3]
    match j with
    | 0 =>
      obtain⟨k',rfl⟩:∃k',k=k'+1:=⟨k-1,by lia⟩
      rw[W5]at he;exact absurd he (hout k' (by lia))
    | j'+1 =>
      rw[show j'+1+k=(j'+k)+1 by lia]at he
      obtain⟨z1,ps,W,z3,z4,z5,J⟩:=ih (j:=j') (k:=k) h1 (by lia) he
      exact⟨z1,ps,Ua _ W,z3,z4,z5,J⟩
   ·have e1:Ux (p.length-1) (p.getD 0 0)=[p.getD 0 0,p.getD 0 0]:=by rw[Y];rfl
    have O:C9 p=[⟨p.getD 0 0,0,p.getD 1 0⟩,⟨p.getD 0 0,1,p.getD 2 0⟩]:=by unfold C9;rw[Y];rfl
    have e3:Ux (p.length-1) (p.getD 1 0)=[p.getD 1 0,p.getD 1 0]:=by rw[Y];rfl
    rw[e1]at he ⊢;rw[et,er,O,e3]
    match j with
    | 0 =>
      match k,h1 with
      | 1,_=>exact⟨Z,p,U9,Y,Z,Z,Z⟩
      | k'+2,_ =>
        rw[W5]at he;exact absurd he (hout k' (by lia))
    | 1 =>
      obtain⟨k',rfl⟩:∃k',k=k'+1:=⟨k-1,by lia⟩
      rw[show 1+(k'+1)=k'+2 by lia]at he
      exact absurd he (hout k' (by lia))
    | j'+2 =>
      rw[show j'+2+k=(j'+k)+2 by lia]at he
      obtain⟨z1,ps,W,z3,z4,z5,J⟩:=ih (j:=j') (k:=k) h1 (by lia) he
      exact⟨z1,ps,Ua _ W,z3,z4,z5,J⟩
def FR(K:U5)(H:Hp)(p:aa)(H':Hp)(x:V)(rs:List Rat):Prop:=∃a zs,x = .ref a/\a≠p/\H a=none/\H' a=some (.lst zs)/\Au K H' zs rs
theorem FR.same{K:U5}{H H1 H2:Hp}{p:aa}{x:V}{Y:List Rat}(h:FR K H p H1 x Y)(e:Ae H1 H2):FR K H p H2 x Y:=let ⟨a,zs,h1,h2,h3,h4,h5⟩:=h;⟨a,zs,h1,h2,h3,e _ _ h4,Au.same h5 e⟩
theorem FR.put{K:U5}{H H1:Hp}{p:aa}{x:V}{Y:List Rat}{ys:List V}{o:HO}(h:FR K H p H1 x Y)(e:H1 p=some (.lst ys)):FR K H p (upd H1 p o) x Y:=let ⟨a,zs,h1,h2,h3,h4,h5⟩:=h;⟨a,zs,h1,h2,h3,by rw[Am h2];exact h4,Au.put h5 e⟩
theorem Kz{Y:Type}(f:Nat->Y)(i:Nat):((U0 (i+1)).map f)[i]? = some (f i):=by
 rw[UC,Wa (by lia)];rfl
inductive Ip(K:U5)(vs:List V)(H:Hp)(Q:VK)(E_3:XK):Prop
 | mk (r:aa) (xs:List V) (pss:List (List Rat)) (hh n:Nat) (h1:vs=[.ref r]) (h2:SqT K H r xs) (h3:CW K H xs pss) (h4:P2 pss) (h5:pss.length<=100) (h6:(pss.map fun ps=>ps.getD 0 0).Nodup) (h7:(AX pss).length<=12) (h8:(∀ps∈pss,∀q∈ps,RB hh q)) (h9:(∀ps∈pss,RB n (ps.getD 0 0))) (h10:1<=hh) (h11:hh+9*n+2<=400) (h12:∀(p:aa) (H':Hp) (ys:List V),Ae H H'->H p=none->H' p=some (.lst ys)->Paired (FR K H p H') ys ((U0 (AX pss).length).map (tab pss))->Q (.ref p) H'):Ip K vs H Q E_3
def C3(pss:List (List Rat)):List Rat:=(U0 (AX pss).length).map fun k=>(tab pss k).getD 0 0
theorem DW(pss:List (List Rat)):(C3 pss).length=(AX pss).length:=by unfold C3;rw[UI,W7]
inductive Iq(K:U5)(vs:List V)(H:Hp)(Q:VK)(E_3:XK):Prop
 | mk (r:aa) (xs:List V) (pss:List (List Rat)) (hh n:Nat) (h1:vs=[.ref r]) (h2:SqT K H r xs) (h3:CW K H xs pss) (h4:P2 pss) (h5:pss.length<=100) (h6:(pss.map fun ps=>ps.getD 0 0).Nodup) (h7:(AX pss).length<=12) (h8:(∀ps∈pss,∀q∈ps,RB hh q)) (h9:(∀ps∈pss,RB n (ps.getD 0 0))) (h10:1<=hh) (h11:hh+9*n+2<=400) (h12:∀(p:aa) (H':Hp) (zs:List V),Ae H H'->H p=none->H' p=some (.lst zs)->Au K H' zs (C3 pss)->Q (.ref p) H'):Iq K vs H Q E_3
theorem My{pss:List (List Rat)}{Y n:Nat}(O:P23 pss)(hb:∀ps∈pss,∀q∈ps,RB Y q)(W:∀ps∈pss,RB n (ps.getD 0 0))(h1:1<=Y)(ak:(AX pss).length<=12):∀q∈C3 pss,RB (bnd Y n 11) q:=fun q hq=>by
 unfold C3 at hq;obtain⟨k,J,rfl⟩:=VU.mp hq;have J:=U4.mp J;have hl:=DB pss k (by lia)
 exact(K6 O h1 hb W k (by lia) _ (BL (by lia))).mono (NG Y n (by lia))
inductive Io(K:U5)(vs:List V)(H:Hp)(Q:VK)(E_3:XK):Prop
 | mk (r:aa) (xs:List V) (pss:List (List Rat)) (hh n:Nat) (h1:vs=[.ref r]) (h2:SqT K H r xs) (h3:CW K H xs pss) (h4:P2 pss) (h5:pss.length<=100) (h6:(pss.map fun ps=>ps.getD 0 0).Nodup) (h7:(AX pss).length<=12) (h8:(∀ps∈pss,∀q∈ps,RB hh q)) (h9:(∀ps∈pss,RB n (ps.getD 0 0))) (h10:1<=hh) (h11:hh+9*n+2<=400) (h12:∀(p:aa) (H':Hp) (cs:List Rat),Ae H H'->Crv K H' p cs->cs.length<=(AX pss).length->BE cs->(∀q∈cs,RB (26*bnd hh n 11+300) q)->(∀x,Cv.ev cs x=Bb (kn pss) (C3 pss) x)->Q (.ref p) H'):Io K vs H Q E_3
inductive ED(K:U5)(vs:List V)(H:Hp)(Q:VK)(E_3:XK):Prop
 | mk (ra rk d:aa) (as ks:List V) (A kn:List Rat) (sl:Rat->Rat) (k m n:Nat) (h1:vs=[.ref ra,.ref rk,.ref d,.int (k:Int)]) (h2:SqL K H ra as) (h3:Au K H as A) (h4:SqL K H rk ks) (h5:Aw H ks kn) (h6:(∀j,j+k<kn.length->kn.getD (j+k) 0≠kn.getD j 0)) (h7:1<=k) (h8:k<=kn.length) (h9:A.length+k=kn.length+1) (h10:kn.length<=100) (h11:(∀q∈A,RB m q)) (h12:(∀q∈kn,RB n q)) (h13:m<=2000000) (h14:n<=1000) (h15:∀(p:aa) (H':Hp) (zs:List V),Ae H H'->H p=none->H' p=some (.lst zs)->Au K H' zs (Ds A kn sl k)->Q (.ref p) H'):ED K vs H Q E_3
theorem Ge(X k s:Rat):∀(ks Y:List Rat),ks.length=Y.length->Bb (ks++[k]) (Y++[s]) X=Bb ks Y X+s*L2.prV X ks
 | [],[],_=>by show s+(X-k)*0=0+s*1;grind
 | a::ks,b::Y,h=>by
   have ih:=Ge X k s ks Y (by simpa using h)
   show b+(X-a)*Bb (ks++[k]) (Y++[s]) X=(b+(X-a)*Bb ks Y X)+s*((X-a)*L2.prV X ks);rw[ih];grind
theorem Hc(T:Nat->Nat->Rat)(x:Nat->Rat)(X:Rat):∀n,Bb ((U0 n).map x) ((U0 n).map fun k=>T k 0) X=Cv.ev (L2.nwT T x 0 n) X
 | 0=>rfl
 | n+1=>by
   rw[VT,Vk,Vk,L2.FO,<- Hc T x X n];show Bb (_++[x n]) (_++[T n 0]) X=_;rw[Ge _ _ _ _ _ (by rw[UI,UI])]
   unfold L2.prF;have e:(U0 n).map x=(U0 n).map fun i=>x (0+i):=WL fun i _=>by rw[W5]
   rw[e]
theorem Kw(l:List Rat):l=(U0 l.length).map fun i=>l.getD i 0:=by
 refine Vt fun i=>?_;rw[UC];by_cases h:i<l.length
 ·rw[Wa h];exact BC h
 ·rw[VS (by lia),VS (by rw[W7];lia)];rfl
def tT(pss:List (List Rat))(k j:Nat):Rat:=(tab pss k).getD j 0
def xT(pss:List (List Rat))(j:Nat):Rat:=(kn pss).getD j 0
theorem NZ(pss:List (List Rat))(X:Rat):Bb (kn pss) (C3 pss) X=Cv.ev (L2.nwT (tT pss) (xT pss) 0 (AX pss).length) X:=by
 rw[<- Hc];have e:=Kw (kn pss);rw[BO]at e;show Bb (kn pss) _ X=Bb ((U0 (AX pss).length).map fun i=>(kn pss).getD i 0) _ X;rw[<- e];rfl
theorem OY{pss:List (List Rat)}(O:P23 pss)(Y:(pss.map fun ps=>ps.getD 0 0).Nodup):L2.NP (tT pss) (xT pss) (AX pss).length:=fun k j hj=>by
 unfold tT xT;rw[tab,Hb (by rw[BO];lia),show j+(k+1)=j+k+1 by lia]
 by_cases he:(kn pss).getD (j+k+1) 0=(kn pss).getD j 0
 ·rw[if_pos he,he];obtain⟨hk,ps,_,_,_,_,J⟩:=He O Y (j:=j) (k:=k+1) (by lia) (by lia) he
  have W:k=0:=by lia
  subst W;show _=(Dl pss).getD (j+1) 0-(Dl pss).getD j 0;rw[J];grind
 ·rw[if_neg he];have hd:(kn pss).getD (j+k+1) 0-(kn pss).getD j 0≠0:=fun z=>he (by grind)
  exact V8 hd
theorem MN:∀{pss:List (List Rat)} {ps:List Rat},P23 pss->ps∈pss->∃i,i<(AX pss).length/\(kn pss).getD i 0=ps.getD 0 0/\(Dl pss).getD i 0=ps.getD 1 0/\(ps.length=3->i+1<(AX pss).length/\(kn pss).getD (i+1) 0=ps.getD 0 0)
 | p::r,ps,h23,hm=>by
   have et:AX (p::r)=C9 p++AX r:=rfl;have J:Dl (p::r)=Ux (p.length-1) (p.getD 1 0)++Dl r:=rfl;have Y:=h23 p U9;rw[et,J,IZ,UH,Bk]
   rcases Ub.mp hm with z | z
   ·subst z
    rcases Y with Y | Y
    ·rw[Y];exact⟨0,by lia,Z,Z,fun z=>by lia⟩
    ·rw[Y];exact⟨0,by lia,Z,Z,fun _=>⟨by lia,Z⟩⟩
   ·obtain⟨i,h1,h2,O,W⟩:=MN (pss:=r) (fun q hq=>h23 q (Ua _ hq)) z
    rcases Y with Y | Y
    ·rw[Y];exact⟨i+1,by lia,h2,O,fun z=>⟨by have:=(W z).1;lia,(W z).2⟩⟩
    ·rw[Y];exact⟨i+2,by lia,h2,O,fun z=>⟨by have:=(W z).1;lia,(W z).2⟩⟩
theorem Mw{pss:List (List Rat)}(h2:P2 pss)(Y:(pss.map fun ps=>ps.getD 0 0).Nodup){cs:List Rat}(h:∀X,Cv.ev cs X=Bb (kn pss) (C3 pss) X):∀ps∈pss,Cv.ev cs (ps.getD 0 0)=ps.getD 1 0:=fun ps J=>by
 have O:=OY h2.p23 Y;obtain⟨i,h1,W,e3,h4⟩:=MN h2.p23 J;have e:=L2.MW O (AX pss).length 0 i (by lia) h1
 rw[W5]at e;rw[h,NZ,<- W,<- e3];exact e
theorem KQ:∀{pss:List (List Rat)},P2 pss->(AX pss).length=pss.length
 | [],_=>rfl
 | p::r,h=>by
   have ih:=KQ (pss:=r) fun ps W=>h ps (Ua _ W);have Y:AX (p::r)=C9 p++AX r:=rfl;rw[Y,UH,Bk,h p U9,ih,Vg]
   lia
theorem Km{pss:List (List Rat)}(h2:P2 pss)(Y:(pss.map fun ps=>ps.getD 0 0).Nodup){c d:List Rat}(hc:c.length<=(AX pss).length)(hd:d.length<=(AX pss).length)(J:∀ps∈pss,Cv.ev c (ps.getD 0 0)=ps.getD 1 0)(O:∀ps∈pss,Cv.ev d (ps.getD 0 0)=ps.getD 1 0)(X:Rat):Cv.ev c X=Cv.ev d X:=by
 rw[KQ h2]at hc hd
 have:=L2.CO (pss.map fun ps=>ps.getD 0 0) (l:=L2.Bh c (d.map (· * -1))) Y (by rw[L2.Bp,UI,UI];lia) (fun q hq=>by
  obtain⟨ps,W,rfl⟩:=VU.mp hq;rw[L2.C6,Cv.ev_scale,J ps W,O ps W];grind) X
 rw[L2.C6,Cv.ev_scale]at this
 grind
def ic(ts:List Int):List Rat:=ts.map fun t:Int=>(t:Rat)
theorem B0(ts:List Int)(j:Nat):(ic ts).getD j 0=((ts.getD j 0:Int):Rat):=by
 unfold ic;rw[Vs,Vs,UC];cases ts[j]? with
 | none=>rfl
 | some t=>rfl
inductive Kb(K:U5)(vs:List V)(H:Hp)(Q:VK)(E_3:XK):Prop
 | mk (l rx ry:aa) (ts:List Int) (x y:Rat) (R m nx ny:Nat) (h1:vs=[.ref l,.ref rx,.ref ry]) (h2:SqL K H l (ts.map V.int)) (h3:ts.length=2*R) (h4:AD K H (.ref rx) x) (h5:AD K H (.ref ry) y) (h6:(∀t∈ts,Bd m t)) (h7:RB nx x) (h8:RB ny y) (h9:m+(nx+1)*(R+4)+ny<=100000000) (h10:∀(L:Int) (H':Hp),Ae H H'->(L:Rat)=(((y.den:Int)*(x.den:Int) ^ R:Int):Rat)*(Cv.evI (ts.take R) x-y*Cv.evI (ts.drop R) x)->Bd (m+(nx+1)*(R+2)+ny+1) L->Q (.int L) H'):Kb K vs H Q E_3
def shI(c d:Int)(ts:List Int):List Int:=(U0 ts.length).map fun k=>d*(if k=0 then 0 else ts.getD (k-1) 0)-c*ts.getD k 0
inductive Ir(K:U5)(vs:List V)(H:Hp)(Q:VK)(E_3:XK):Prop
 | mk (l rx:aa) (ts:List Int) (x:Rat) (m n:Nat) (h1:vs=[.ref l,.ref rx]) (h2:SqL K H l (ts.map V.int)) (h3:AD K H (.ref rx) x) (h4:1<=ts.length) (h5:ts.length<=100) (h6:ts.getD (ts.length-1) 0=0) (h7:(∀t∈ts,Bd m t)) (h8:RB n x) (h9:m+n<=100000000) (h10:∀(p:aa) (H':Hp),Ae H H'->H' p=some (.lst ((shI x.num x.den ts).map V.int))->(∀t∈shI x.num x.den ts,Bd (m+n+1) t)->Q (.ref p) H'):Ir K vs H Q E_3
inductive MB(K:U5)(vs:List V)(H:Hp)(Q:VK)(E_3:XK):Prop
 | mk (l:aa) (ts:List Int) (m:Nat) (h1:vs=[.ref l]) (h2:SqL K H l (ts.map V.int)) (h3:(∃t∈ts,t≠0)) (h4:ts.length<=100) (h5:(∀t∈ts,Bd m t)) (h6:∀(p:aa) (H':Hp) (g:Int) (us:List Int),Ae H H'->H' p=some (.lst (us.map V.int))->g≠0->us.length=ts.length->(∀j,g*us.getD j 0=ts.getD j 0)->(∀t∈us,Bd m t)->Q (.ref p) H'):MB K vs H Q E_3
theorem HY{ts:List Int}{j:Nat}(h:j<ts.length):ts.getD j 0∈ts:=by
 rw[Vs,Vy h];exact Vz h
theorem D9{ts:List Int}{m:Nat}(h:∀t∈ts,Bd m t)(j:Nat):Bd m (ts.getD j 0):=by
 rcases Ww j ts.length with z | z
 ·exact h _ (HY z)
 ·rw[Vs,VS z];show Bd m 0;unfold Bd;exact Nat.pow_pos (by decide)
theorem PQ{K:U5}{a b:aa}{js:List Nat}{xs ys:List V}{te:TE}{σ:St}{H:Hp}{O:List V->Hp->Prop}(Y:Nat->List V->Hp->Prop)(h0:Y 0 [] H)
 (hl:∀i zs H,i<=min xs.length ys.length->Y i zs H->SqL K H a xs/\SqL K H b ys/\zs.length=i) (hz:min xs.length ys.length<=af)
 (hs:∀i x y T zs H,xs[i]? = some x->ys[i]? = some y->H T=none->Y i zs H->te (((cS 2 js σ).set 0 (some x)).set 1 (some y)) (upd H T (.tup [x,y])) fun y H4=>Y (i+1) (zs++[y]) H4) (J:∀zs H',Y (min xs.length ys.length) zs H'->O zs H') :
 ∃(n':Nat) (W:Nat->List V->Hp->Prop),W 0 [] H/\LcW (Itz K a b xs ys) n' 2 js σ (KD K 2 (Fo (Cq 0) (Fo (Cq 1) Ni))) LS te O W:=by
 refine⟨min xs.length ys.length,Y,h0,⟨?_,?_,?_⟩⟩
 ·intro i zs H' hi p;obtain⟨h1,h2,h3⟩:=hl i zs H' (U7 hi) p;exact⟨⟨h1,h2,hi⟩,by lia⟩
 ·rintro i zs H' x H1 hi p ⟨T,x1,y1,hx,hy,hT,rfl,rfl⟩;exact⟨T,_,Z,SqT.of Aa,Z,x1,_,Z,y1,_,Z,Z,hs i x1 y1 T zs H' hx hy hT p⟩
 ·intro zs H' p;obtain⟨h1,h2,h3⟩:=hl _ zs H' (Uk _) p;exact⟨⟨h1,h2,Uk _⟩,by lia,J zs H' p⟩
def Rpr(K:U5)(H:Hp)(v:V)(r:Int)(ts:List Int):Prop:=∃p l,v = .ref p/\SqT K H p [.int r,.ref l]/\SqL K H l (ts.map V.int)
theorem Rpr.same{K:U5}{H H':Hp}{v:V}{r:Int}{ts:List Int}(h:Rpr K H v r ts)(e:Ae H H'):Rpr K H' v r ts:=let ⟨p,l,z,h1,h2⟩:=h;⟨p,l,z,h1.same e,Ae.seq e h2⟩
structure PSt(w v:Int)(n R:Nat)(ps:List (Rat×Rat))(A S:Nat)(r1:Int)(ts1:List Int)(r2:Int)(ts2:List Int):Prop where
 inv:DQ w v n ps r1 r2 (ic (ts1.take R)) (ic (ts1.drop R)) (ic (ts2.take R)) (ic (ts2.drop R))
 l1:ts1.length=2*R
 l2:ts2.length=2*R
 z1:∀j,ps.length+1<=j->j<R->ts1.getD j 0=0/\ts1.getD (R+j) 0=0
 z2:∀j,ps.length+1<=j->j<R->ts2.getD j 0=0/\ts2.getD (R+j) 0=0
 bd:∃a1 a2,(∀t∈ts1,Bd a1 t)/\(∀t∈ts2,Bd a2 t)/\a1<=A/\a2<=A/\a1+a2<=S
inductive Kd(K:U5)(vs:List V)(H:Hp)(Q:VK)(E_3:XK):Prop
 | mk (b rx ry:aa) (v1 v2:V) (r1 r2:Int) (ts1 ts2:List Int) (w v:Int) (n R:Nat) (ps:List (Rat×Rat)) (A S C nx ny:Nat) (x y:Rat) (h1:vs=[.ref b,.ref rx,.ref ry]) (h2:SqT K H b [v1,v2]) (h3:Rpr K H v1 r1 ts1) (h4:Rpr K H v2 r2 ts2) (h5:PSt w v n R ps A S r1 ts1 r2 ts2) (h6:R=n+1) (h7:w+v=n+1) (h8:AD K H (.ref rx) x) (h9:AD K H (.ref ry) y) (h10:RB nx x) (h11:RB ny y) (h12:((ps++[(x,y)]).map Prod.fst).Nodup) (h13:ps.length<n) (h14:n<=12) (h15:(nx+1)*(R+2)+ny+2<=C) (h16:A+3*C<=50000000) (h17:S+3*C<=50000000) (h18:∀(b':aa) (H':Hp) (v1' v2':V) (r1' r2':Int) (us1 us2:List Int),Ae H H'->SqT K H' b' [v1',v2']->Rpr K H' v1' r1' us1->Rpr K H' v2' r2' us2->PSt w v n R (ps++[(x,y)]) (S+C) (A+S+2*C) r1' us1 r2' us2->Q (.ref b') H'):Kd K vs H Q E_3
theorem EW(c d:Int)(ts:List Int)(k:Nat):(shI c d ts).getD k 0=if k<ts.length then d*(if k=0 then 0 else ts.getD (k-1) 0)-c*ts.getD k 0 else 0:=by
 unfold shI;rw[Vs,UC];by_cases h:k<ts.length
 ·rw[if_pos h,Wa h];rfl
 ·rw[if_neg h,VS (by rw[W7];lia)];rfl
theorem EF(c d:Int)(ts:List Int):(shI c d ts).length=ts.length:=by unfold shI;rw[UI,W7]
theorem Bt(ts:List Int)(R j:Nat):(ts.take R).getD j 0=if j<R then ts.getD j 0 else 0:=by
 rw[Vs,Wv,Vs]
 split<;>rfl
theorem Bu(ts:List Int)(R j:Nat):(ts.drop R).getD j 0=ts.getD (R+j) 0:=by
 rw[Vs,Vu,Vs]
theorem Dw{ts:List Int}{j:Nat}(h:ts.length<=j):ts.getD j 0=0:=by rw[Vs,VS h];rfl
theorem Gw{c d:Int}{ts:List Int}{R:Nat}(W:ts.length=2*R)(Y:1<=R)(h1:ts.getD (R-1) 0=0):Shf (c:Rat) (d:Rat) (ic (ts.take R)) (ic ((shI c d ts).take R)):=fun j=>by
 rw[B0,B0,B0,Bt,Bt,Bt,EW];by_cases h:j<R
 ·rw[if_pos h,if_pos (by lia),if_pos h]
  by_cases z:j=0
  ·rw[if_pos z,if_pos z,Vb,Va,Va];rfl
  ·rw[if_neg z,if_neg z,if_pos (by lia),Vb,Va,Va]
 ·rw[if_neg h,if_neg h,if_neg (by lia)]
  by_cases z:j-1<R
  ·rw[if_pos z,show j-1=R-1 by lia,h1]
   show(0:Rat)=(d:Rat)*0-(c:Rat)*0
   grind
  ·rw[if_neg z];show(0:Rat)=(d:Rat)*0-(c:Rat)*0
   grind
theorem Gx{c d:Int}{ts:List Int}{R:Nat}(W:ts.length=2*R)(Y:1<=R)(h1:ts.getD (R-1) 0=0)(h2:ts.getD (R+(R-1)) 0=0):Shf (c:Rat) (d:Rat) (ic (ts.drop R)) (ic ((shI c d ts).drop R)):=fun j=>by
 rw[B0,B0,B0,Bu,Bu,Bu,EW];by_cases h:R+j<ts.length
 ·rw[if_pos h,if_neg (by lia)]
  by_cases z:j=0
  ·subst z;rw[if_pos rfl,Vc,h1,Vb,Va,Va];rfl
  ·rw[if_neg z,show R+j-1=R+(j-1) by lia,Vb,Va,Va]
 ·rw[if_neg h,if_neg (by lia),Dw (show ts.length<=R+j by lia)]
  by_cases z:j-1=R-1
  ·rw[z,h2];show(0:Rat)=(d:Rat)*0-(c:Rat)*0
   grind
  ·rw[Dw (show ts.length<=R+(j-1) by lia)]
   show(0:Rat)=(d:Rat)*0-(c:Rat)*0
   grind
theorem Gy{c d:Int}{ts:List Int}{R k:Nat}(z:∀j,k+1<=j->j<R->ts.getD j 0=0/\ts.getD (R+j) 0=0):∀j,k+1+1<=j->j<R->(shI c d ts).getD j 0=0/\(shI c d ts).getD (R+j) 0=0:=fun j h1 h2=>by
 have a:=z j (by lia) h2
 have b:=z (j-1) (by lia) (by lia)
 constructor
 ·rw[EW];by_cases hh:j<ts.length
  ·rw[if_pos hh,if_neg (by lia),a.1,b.1,WM,WM];rfl
  ·rw[if_neg hh]
 ·rw[EW];by_cases hh:R+j<ts.length
  ·rw[if_pos hh,if_neg (by lia),a.2,show R+j-1=R+(j-1) by lia,b.2,WM,WM];rfl
  ·rw[if_neg hh]
theorem JB{g a b:Int}{t1 Y us:List Int}(R:Nat)(h:∀j,g*us.getD j 0=a*Y.getD j 0-b*t1.getD j 0):Mix (g:Rat) (a:Rat) (b:Rat) (ic (t1.take R)) (ic (Y.take R)) (ic (us.take R)):=fun j=>by
 rw[B0,B0,B0,Bt,Bt,Bt]
 split
 ·rw[<- Va,h j,Vb,Va,Va]
 ·show(g:Rat)*0=(a:Rat)*0-(b:Rat)*0
  grind
theorem JC{g a b:Int}{t1 Y us:List Int}(R:Nat)(h:∀j,g*us.getD j 0=a*Y.getD j 0-b*t1.getD j 0):Mix (g:Rat) (a:Rat) (b:Rat) (ic (t1.drop R)) (ic (Y.drop R)) (ic (us.drop R)):=fun j=>by
 rw[B0,B0,B0,Bu,Bu,Bu,<- Va,h (R+j),Vb,Va,Va]
theorem JA{g a b:Int}{t1 Y us:List Int}{j:Nat}(J:g≠0)(h:∀j,g*us.getD j 0=a*Y.getD j 0-b*t1.getD j 0)(O:t1.getD j 0=0)(W:Y.getD j 0=0):us.getD j 0=0:=by
 have:=h j;rw[O,W,WM,WM]at this
 rcases Int.mul_eq_zero.mp (show g*us.getD j 0=0 from this) with z | z
 ·exact absurd z J
 ·exact z
theorem Fm{L:Int}{s a:Rat}(hs:s≠0)(h:(L:Rat)=s*a):L=0↔a=0:=by
 constructor
 ·intro z;rw[z]at h
  rcases Vn.mp (show s*a=0 from h.symm) with q | q
  ·exact absurd q hs
  ·exact q
 ·intro z;rw[z,Wu]at h;exact Rat.intCast_inj.mp (h.trans WS.symm)
theorem O3{a b:Rat}(h:a-b=0):a=b:=by grind
theorem JJ{L:Int}(h:L≠0):(L:Rat)≠0:=fun z=>h (Rat.intCast_inj.mp (z.trans WS.symm))
def gAS(C:Nat):Nat->Nat×Nat
 | 0=>(1,2)
 | k+1=>((gAS C k).2+C,(gAS C k).1+(gAS C k).2+2*C)
theorem J0(C:Nat):∀k,(gAS C k).1<=(gAS C k).2
 | 0=>by show 1<=2;decide
 | k+1=>by show(gAS C k).2+C<=(gAS C k).1+(gAS C k).2+2*C;lia
theorem Dx(C:Nat){i:Nat}:∀{n},i<=n->(gAS C i).2<=(gAS C n).2
 | 0,h=>by rw[Nat.le_zero.mp h];exact Uk _
 | n+1,h=>by
   rcases Ww i (n+1) with z | z
   ·have:=Dx C (i:=i) (n:=n) (by lia)
    show _<=(gAS C n).1+(gAS C n).2+2*C
    lia
   ·rw[show i=n+1 by lia];exact Uk _
theorem Oc:∀k:Nat,(Ux k [V.int 0]).flatten=(Ux k (0:Int)).map V.int
 | 0=>rfl
 | k+1=>by rw[US,UT,Oc k,US];rfl
theorem Nb(ts:List Int):(ts.map fun t=>V3 t 1)=ic ts:=by
 unfold ic;refine WL fun t _=>?_;have e:=Rat.num_divInt_den ((t:Int):Rat);rw[WT,WU]at e;exact e
def DM(R:Nat):List Int:=1::Ux (2*R-1) 0
def BS(R:Nat):List Int:=Ux R 0++[1]++Ux (R-1) 0
theorem Nh(k j:Nat):(Ux k (0:Int)).getD j 0=0:=by
 rw[Vs,UA]
 split<;>rfl
theorem CU(R j:Nat):(DM R).getD j 0=if j=0 then 1 else 0:=by
 cases j with
 | zero=>rfl
 | succ j=>rw[if_neg (by lia)];exact Nh _ j
theorem Cw(R j:Nat):(BS R).getD j 0=if j=R then 1 else 0:=by
 unfold BS;rw[UU,Vs]
 rcases Ww j R with z | z
 ·rw[UB (by rw[UJ];exact z),if_neg (by lia),UA,if_pos z];rfl
 ·rw[Uz (by rw[UJ];exact z),UJ]
  by_cases e:j=R
  ·rw[if_pos e,show j-R=0 by lia];rfl
  ·rw[if_neg e];obtain⟨k,Y⟩:∃k,j-R=k+1:=⟨j-R-1,by lia⟩
   rw[Y,List.singleton_append,Vh,UA]
   split<;>rfl
theorem Rt{W n:Nat}(J:1<=W)(O:W<=n):PUn (W:Int) ((n:Int)+1-W) n [] (2*(1-(W:Int))) (2*(1-((n:Int)+1-W))+1) (ic ((DM (n+1)).take (n+1))) (ic ((DM (n+1)).drop (n+1))) (ic ((BS (n+1)).take (n+1))) (ic ((BS (n+1)).drop (n+1))):=by
 refine⟨⟨fun j Y=>?_,fun j Y=>?_⟩,.inl ⟨0,by lia,?_⟩,⟨fun j Y=>?_,fun j Y=>?_⟩,.inr ⟨0,by lia,?_⟩,by rw[List.length_nil];lia,(fun _ h=>nomatch h),fun _ h=>nomatch h⟩
 ·rw[B0,Bt,CU,if_neg (show ¬j=0 by lia)]
  split<;>rfl
 ·rw[B0,Bu,CU,if_neg (by lia)];rfl
 ·rw[B0,Bt,CU,if_pos (by lia),if_pos rfl];decide
 ·rw[B0,Bt,Cw]
  split
  ·rw[if_neg (by lia)];rfl
  ·rfl
 ·rw[B0,Bu,Cw,if_neg (by lia)];rfl
 ·rw[B0,Bu,Cw,if_pos (by lia)];decide
theorem JN(R:Nat):∀t∈DM R,Bd 1 t:=fun t Y=>by
 rcases Ub.mp Y with z | z
 ·rw[z];unfold Bd;decide
 ·rw[WV z];unfold Bd;decide
theorem HN(R:Nat):∀t∈BS R,Bd 1 t:=fun t Y=>by
 rcases Uc.mp Y with z | z
 ·rcases Uc.mp z with z | z
  ·rw[WV z];unfold Bd;decide
  ·rw[Vx.mp z];unfold Bd;decide
 ·rw[WV z];unfold Bd;decide
theorem Fp(n:Nat):(DM (n+1)).length=2*(n+1):=by unfold DM;rw[Vg,UJ];lia
theorem Ew(n:Nat):(BS (n+1)).length=2*(n+1):=by unfold BS;rw[UH,UH,UJ,UJ,UW];lia
theorem Hl(n:Nat):∀j,0+1<=j->j<n+1->(DM (n+1)).getD j 0=0/\(DM (n+1)).getD (n+1+j) 0=0:=fun j h _=>⟨by rw[CU,if_neg (by lia)],by rw[CU,if_neg (by lia)]⟩
theorem FY(n:Nat):∀j,0+1<=j->j<n+1->(BS (n+1)).getD j 0=0/\(BS (n+1)).getD (n+1+j) 0=0:=fun j h _=>⟨by rw[Cw,if_neg (by lia)],by rw[Cw,if_neg (by lia)]⟩
inductive FF(K:U5)(vs:List V)(H:Hp)(Q:VK)(E_3:XK):Prop
 | mk (lp lh:aa) (zs ys:List V) (qs hs:List Rat) (W n nx ny C:Nat) (h1:vs=[.ref lp,.ref lh,.int (W:Int)]) (h2:SqL K H lp zs) (h3:Au K H zs qs) (h4:SqL K H lh ys) (h5:Au K H ys hs) (h6:qs.length=n) (h7:hs.length=n) (h8:1<=n) (h9:n<=12) (h10:qs.Nodup) (h11:1<=W) (h12:W<=n) (h13:(∀c∈qs,RB nx c)) (h14:(∀c∈hs,RB ny c)) (h15:(nx+1)*(n+3)+ny+2<=C) (h16:(gAS C n).2+3*C<=50000000) (h17:∀(t pN pD:aa) (H':Hp) (r1 r2:Int) (N D N2 D2:List Rat),Ae H H'->SqT K H' t [.ref pN,.ref pD]->Crv K H' pN (Cv.strip N)->Crv K H' pD (Cv.strip D)->(∀c∈N,Bd ((gAS C n).2+1) c.num/\Bd 1 (c.den:Int))->(∀c∈D,Bd ((gAS C n).2+1) c.num/\Bd 1 (c.den:Int))->DQ (W:Int) ((n:Int)+1-W) n (qs.zip hs) r1 r2 N D N2 D2->Q (.ref t) H'):FF K vs H Q E_3
theorem Lq{ts:List Int}{m k:Nat}(h:∀t∈ts,Bd m t)(Y:m<=k):∀c∈ic ts,Bd k c.num/\Bd 1 (c.den:Int):=fun c W=>by
 obtain⟨t,O,rfl⟩:=VU.mp W;exact⟨by rw[WT];exact(h t O).mono Y,by rw[WU];unfold Bd;decide⟩
def Dm:Str:="rising.<locals>.<lambda>"
def FU(B:Int)(q:Rat):Int:=q.num*B.fdiv (q.den:Int)
theorem Ln{B:Int}{q:Rat}(Y:(q.den:Int)∣B):((FU B q:Int):Rat)=q*(B:Rat):=by
 unfold FU;have W:(0:Int)<=(q.den:Int):=by lia
 rw[WW _ W,Va,Nm.num_mul q];have e:(q.den:Int)*(B / (q.den:Int))=B:=Int.mul_ediv_cancel' Y;have O:((q.den:Int):Rat)*((B / (q.den:Int):Int):Rat)=(B:Rat):=by rw[<- Va,e]
 grind
theorem Ov{B:Int}(O:0<B){p q:Rat}(hp:(p.den:Int)∣B)(J:(q.den:Int)∣B)(h:FU B p<=FU B q):p<=q:=by
 have h':((FU B p:Int):Rat)<=((FU B q:Int):Rat):=Rat.intCast_le_intCast.mpr h;rw[Ln hp,Ln J]at h'
 have Y:(0:Rat)<(B:Rat):=by
  have:=Rat.intCast_lt_intCast.mpr O;rw[WS]at this;exact this
 by_cases z:p<=q
 ·exact z
 ·exfalso;have W:q<p:=Rat.not_le.mp z;have:=Rat.mul_lt_mul_of_pos_right W Y
  grind
theorem MF{K:U5}{Pt:aa}{q:Str}{H H':Hp}{r:aa}{xs:List V}(h:SqL K H r xs)(c:BX Pt q H)(m:Br Pt H H'):SqL K H' r xs:=by
 obtain⟨ps,e,_⟩:=c;have Y:∀{b:aa} {o:HO},H b=some o->(∀p,o ≠ .tbl p)->b≠Pt:=fun z n y=>by rw[y,e]at z;exact n _ (TU.inj z).symm
 rcases h with (h | ⟨o,h⟩) | h
 ·exact .inl (.inl (m _ _ (Y h fun p z=>by cases z) h))
 ·exact .inl (.inr ⟨o,m _ _ (Y h fun p z=>by cases z) h⟩)
 ·exact .inr h
theorem Jn{O W:Type}{F:O->W->Prop}{l:List O}{Y:List W}(h:Paired F l Y):Paired (fun b a=>F a b) Y l:=by
 induction h with
 | nil=>exact .nil
 | cons h _ ih=>exact .cons h ih
theorem Nj{Pt:aa}{q:Str}{H H':Hp}{p:aa}(c:BX Pt q H')(m:Br Pt H H')(h:H' p=none):H p=none:=by
 cases e:H p with
 | none=>rfl
 | some o =>
   exfalso;by_cases z:p=Pt
   ·obtain⟨ps,Y,_⟩:=c;rw[z,Y]at h;cases h
   ·rw[m p o z e]at h;cases h
theorem MI{K:U5}{H:Hp}{B:Int}{xs:List V}{qs:List Rat}(h:Au K H xs qs):Paired (fun(z:Int×V) (c:Rat)=>z.1=FU B c/\AD K H z.2 c) ((qs.map (FU B)).zip xs) qs:=by
 induction h with
 | nil=>exact .nil
 | cons h _ ih=>exact .cons ⟨Z,h⟩ ih
theorem LZ{K:U5}{H:Hp}{B:Int}{zs:List (Int×V)}{Y:List Rat}(h:Paired (fun(c:Rat) (z:Int×V)=>z.1=FU B c/\AD K H z.2 c) Y zs):Y.map (FU B)=zs.map Prod.fst/\Au K H (zs.map Prod.snd) Y:=by
 induction h with
 | nil=>exact⟨Z,.nil⟩
 | cons h _ ih=>exact⟨by rw[UX,UX,ih.1,h.1],.cons h.2 ih.2⟩
inductive FD(K:U5)(Pt:aa)(vs:List V)(H:Hp)(Q:VK)(E_3:XK):Prop
 | mk (l:aa) (xs:List V) (qs:List Rat) (n:Nat) (h1:vs=[.ref l]) (h2:SqL K H l xs) (h3:Au K H xs qs) (h4:(∀q∈qs,RB n q)) (h5:n<=1000000) (h6:qs.length<=20) (h7:BX Pt Dm H) (h8:∀(p:aa) (H':Hp) (ys:List V) (rs:List Rat),Br Pt H H'->BX Pt Dm H'->H p=none->H' p=some (.lst ys)->Au K H' ys rs->rs.Perm qs->rs.Pairwise (· <= ·)->Q (.ref p) H'):FD K Pt vs H Q E_3
inductive Ci(K:U5)(vs:List V)(H:Hp)(Q:VK)(E_3:XK):Prop
 | mk (r rx:aa) (qs:List Rat) (x:Rat) (g d m:Nat) (h1:vs=[.ref r,.ref rx]) (h2:Crv K H r qs) (h3:AD K H (.ref rx) x) (h4:(∀q∈qs,Bd g q.num/\Bd d (q.den:Int))) (h5:RB m x) (h6:g+d*(qs.length+2)+(m+1)*(qs.length+4)<=50000000) (h7:qs.length<=1000) (h8:∀p H',Ae H H'->H' p=some (nT (Cv.ev qs x))->RB (g+d*(qs.length+2)+(m+1)*(qs.length+4)) (Cv.ev qs x)->Q (.ref p) H'):Ci K vs H Q E_3
inductive CH(K:U5)(vs:List V)(H:Hp)(Q:VK)(E_3:XK):Prop
 | mk (l:aa) (few:Int) (ys:List V) (qs:List Rat) (h1:vs=[.ref l,.int few]) (h2:SqL K H l ys) (h3:Aw H ys qs) (h4:qs.Nodup) (h5:qs.length<=12) (h6:few<=qs.length) (h7:∀H',Ae H H'->Q .non H'):CH K vs H Q E_3
section
variable {X:Cx}
end
inductive Gv(vs:List V)(H:Hp)(Q:VK)(E_3:XK):Prop
 | mk (b:Int) (n L:Nat) (h1:vs=[.int b,.int n]) (h2:n<=1000) (h3:Bd L b) (h4:L*n+L<=100000000) (h5:Q (.int (b ^ n)) H):Gv vs H Q E_3
structure Rg(fs gs os rs:List Int)(lead:Int)(B:Nat):Prop where
 ol:os.length=fs.length+1-gs.length
 rl:rs.length=min fs.length (gs.length-1)
 ev:∀x,Cv.evI fs x*((lead ^ os.length:Int):Rat)=Cv.evI os x*Cv.evI gs x+Cv.evI rs x
 ob:∀t∈os,Bd B t
 rb:∀t∈rs,Bd B t
 top:os≠[]->∃t,fs[fs.length-1]? = some t/\os[os.length-1]? = some (lead ^ (os.length-1)*t)
inductive ME(K:U5)(vs:List V)(H:Hp)(Q:VK)(E_3:XK):Prop
 | mk (f g:aa) (fs gs:List Int) (lead:Int) (M L:Nat) (h1:vs=[.ref f,.ref g]) (h2:SqL K H f (fs.map V.int)) (h3:SqL K H g (gs.map V.int)) (h4:gs[gs.length-1]? = some lead) (h5:fs.length<=1000) (h6:gs.length<=1000) (h7:(∀t∈fs,Bd M t)) (h8:(∀t∈gs,Bd L t)) (h9:M+fs.length*(L+1)+L<=100000000) (h10:L<=100000000) (h11:∀(p pa pb:aa) (H':Hp) (os rs:List Int),Ae H H'->H' p=some (.tup [.ref pa,.ref pb])->H' pa=some (.lst (os.map V.int))->H' pb=some (.lst (rs.map V.int))->Rg fs gs os rs lead (M+os.length*(L+1))->Q (.ref p) H'):ME K vs H Q E_3
theorem EA{l:List Rat}(h:BE l):Cv.strip l=l:=by
 have e:=Cv.take_strip l l.length (fun j q Y e=>absurd (Ue.mp e).1 (by lia)) (by
  rcases h with h | h
  ·left;rw[h];rfl
  ·right;exact h)
 rw[Vl]at e;exact e.symm
theorem OX{B:Int}{q:Rat}(W:0<B)(h:(q.den:Int)∣B)(Y:q≠0):AN B q≠0:=fun z=>by
 have e:=Fz h;rw[z,WS]at e
 rcases Vn.mp e.symm with y | y
 ·exact Y y
 ·exact Nm.cast_ne (show B≠0 by lia) y
theorem HJ{B:Int}{qs:List Rat}(h:BE qs)(Y:qs≠[])(W:0<B)(O:∀q∈qs,(q.den:Int)∣B):∃t,(qs.map (AN B))[(qs.map (AN B)).length-1]? = some t/\t≠0:=by
 rcases h with h | ⟨q,e,J⟩
 ·exact absurd h Y
 ·exact⟨AN B q,by rw[UI,UC,e];rfl,OX W (O q (UG e)) J⟩
theorem Qf{t c:Int}(Y:t≠0)(W:c≠0):V3 t c≠0:=fun z=>by
 rw[V7,Rat.div_def]at z
 rcases Vn.mp z with y | y
 ·exact Nm.cast_ne Y y
 ·have h1:=Rat.mul_inv_cancel _ (Nm.cast_ne W);rw[y,Wu]at h1;exact absurd h1 (by decide)
theorem Lz(ts:List Int)(c:Int)(Y:c≠0)(x:Rat):Cv.ev (ts.map fun t=>V3 t c) x*(c:Rat)=Cv.evI ts x:=by
 have e:(ts.map fun t=>V3 t c)=(ts.map fun t:Int=>(t:Rat)).map (· * (c:Rat)⁻¹):=by
  rw[List.map_map];refine WL fun t _=>?_;show V3 t c=(t:Rat)*(c:Rat)⁻¹;rw[V7,Rat.div_def]
 rw[e,Cv.ev_scale,VP,Rat.inv_mul_cancel _ (Nm.cast_ne Y),VQ]
 rfl
theorem Qq{Pt p:aa}{ps:Array ac}{H H':Hp}(e:H Pt=some (.tbl ps))(pn:Pen H p)(m:Mv p H H'):H' Pt=some (.tbl ps):=m _ _ (pn.ne e fun _ _ _ z=>by cases z) e
theorem KH{Pt:aa}{q:Str}{H:Hp}(e:H Pt=some (.tbl #[])):BX Pt q H:=⟨#[],e,trivial,fun pos Y z=>by cases z⟩
theorem Ku(k:Int):nT ((k:Int):Rat) = .tup [.int k,.int 1]:=by
 unfold nT;rw[WT,WU]
 rfl
theorem Lr{a b:Int}(h:((a:Int):Rat)=((b:Int):Rat)):a=b:=by
 have:=congrArg Rat.num h;rw[WT,WT]at this;exact this
theorem JO{U qs:List Rat}(O:BE U)(J:U≠[])(Y:qs.Nodup):(qs.filter fun x=>decide (Cv.ev U x=0)).length+1<=U.length:=by
 rcases Ww (qs.filter fun x=>decide (Cv.ev U x=0)).length U.length with z | z
 ·exact z
 ·exfalso;have:=CO (qs.filter fun x=>decide (Cv.ev U x=0)) (l:=U) (Y.filter _) z fun q W=>by simpa using(U2.mp W).2
  exact J (Dv O (.inl rfl) fun x=>this x)
theorem Fq(f:Rat->Bool):∀qs:List Rat,(qs.filter f).length+(qs.filter fun x=>!f x).length=qs.length
 | []=>rfl
 | q::r=>by
   have ih:=Fq f r;cases h:f q with
   | true=>rw[WX h,WY (by rw[h];decide),Vg,Vg];lia
   | false=>rw[WY (by rw[h];decide),WX (by rw[h];rfl),Vg,Vg];lia
theorem Ny{Pt p:aa}{q:Str}{H H':Hp}(c:BX Pt q H)(pn:Pen H p)(m:Mv p H H'):BX Pt q H':=by
 obtain⟨ps,e,t,c⟩:=c;refine⟨ps,Qq e pn m,t,fun pos W z=>?_⟩;obtain⟨J,O,Y⟩:=c pos W z;exact⟨J,O,m _ _ (pn.ne Y fun _ _ _ z=>by cases z) Y⟩
theorem Fn(Y:List Rat):BE (prL Y):=by
 right;refine⟨1,?_,by decide⟩
 have W:=CS Y;have:=Jm Y;rw[Vs,Vy (by lia)]at this
 rw[show(prL Y).length-1=Y.length by lia,Vy (by lia)]
 exact congrArg some this
theorem DL{l:List Rat}{w:Rat}(Y:BE l)(hw:w≠0):BE (l.map (· * w)):=by
 rcases Y with h | ⟨q,h1,h2⟩
 ·left;rw[h];rfl
 ·right;refine⟨q*w,by rw[UI,UC,h1];rfl,fun z=>?_⟩
  rcases Vn.mp z with z | z
  ·exact h2 z
  ·exact hw z
theorem ES{L:List Rat}{a:Nat}(h:∀j,a<=j->L.getD j 0=0):(Cv.strip L).length<=a:=by
 rcases Ww a (Cv.strip L).length with z | z
 ·exfalso;have Y:Cv.strip L≠[]:=fun e=>by rw[e]at z;cases z
  have O:=Cv.strip_last L Y;have W:=JR (l:=Cv.strip L) (m:=L) (fun k=>Cv.ev_strip _ L) ((Cv.strip L).length-1);rw[h _ (by lia),Vs,Vy (by lia)]at W
  exact O (by rw[Vy (by lia)];exact congrArg some W)
 ·exact z
inductive Co(K:U5)(vs:List V)(H:Hp)(Q:VK)(E_3:XK):Prop
 | mk (lp lh:aa) (zs ys:List V) (qs:List Rat) (h1:vs=[.ref lp,.ref lh]) (h2:SqL K H lp zs) (h3:Aw H zs qs) (h4:qs.Nodup) (h5:1<=qs.length) (h6:qs.length<=12) (h7:SqL K H lh ys) (h8:ys.length=zs.length) (h9:∀H',Ae H H'->Q .non H'):Co K vs H Q E_3
theorem NU{n:Nat}{qs hs:List Rat}(W:qs.length=n)(Y:hs.length=n){i:Nat}(h:i<n):(qs[i]'(by lia),hs[i]'(by lia))∈qs.zip hs:=by
 have:(qs.zip hs)[i]'(by rw[WA];lia)=(qs[i]'(by lia),hs[i]'(by lia)):=List.getElem_zip ..
 rw[<- this];exact Vz _
theorem Oe{K:U5}{H:Hp}{us zs ys:List V}{qs hs:List Rat}(hp:Paired (OH H) us (zs.zip ys))(hz:Aw H zs qs)(hy:Au K H ys hs):CW K H us ((qs.zip hs).map fun p=>[p.1,p.2]):=by
 have l1:=hp.length;have l2:=hz.length;have l3:=hy.length;refine En (by rw[l1,UI,WA,WA,l2,l3]) fun j v ps hv W=>?_
 obtain⟨pr,al,tt,rfl,ht⟩:=Paired.get hp hv;obtain⟨ak,O⟩:=WG.mp al;obtain⟨x,hx,rx,er,Y⟩:=Paired.get hz ak;obtain⟨y,an,J⟩:=Paired.get hy O;rw[UC,(WG (z:=(x,y))).mpr ⟨hx,an⟩]at W;cases W;exact⟨tt,_,rx,Z,SqT.of ht,.cons ⟨rx,er,SqT.of Y⟩ (.cons J .nil),by rw[er];rfl,Y⟩
theorem KR:∀l:List (Rat×Rat),(AX (l.map fun p=>[p.1,p.2])).length=l.length
 | []=>rfl
 | a::r=>by
   have:=KR r;show((C9 [a.1,a.2])++AX (r.map fun p=>[p.1,p.2])).length=r.length+1;rw[UH,this];show 1+r.length=_
   lia
def bad(c:List Rat)(p:Rat×Rat):Bool:=!decide (Cv.ev c p.1=p.2)
def D8(qs hs c:List Rat):List Rat:=((qs.zip hs).filter (bad c)).map Prod.fst
theorem N5{qs hs c:List Rat}:(D8 qs hs c).length=((qs.zip hs).filter (bad c)).length:=by unfold D8;rw[UI]
theorem PR{K:U5}{a:aa}{js:List Nat}{xs:List V}{tc:TT}{te:TE}{σ:St}{H:Hp}{O:List V->Hp->Prop}(Y:Nat->List V->Hp->Prop)(h0:Y 0 [] H)
 (hl:∀i zs H,i<=xs.length->Y i zs H->SqL K H a xs/\zs.length<=i) (hz:xs.length<=af)
 (hs:∀i v zs H,xs[i]? = some v->Y i zs H->∃t x y,v = .ref t/\SqT K H t [x,y]/\tc (((cS 2 js σ).set 0 (some x)).set 1 (some y)) H fun b H3=>if b=true then te (((cS 2 js σ).set 0 (some x)).set 1 (some y)) H3 fun y H4=>Y (i+1) (zs++[y]) H4 else Y (i+1) zs H3) (J:∀zs H',Y xs.length zs H'->O zs H') :
 ∃(n':Nat) (W:Nat->List V->Hp->Prop),W 0 [] H/\LcW (Itl K a) n' 2 js σ (KD K 2 (Fo (Cq 0) (Fo (Cq 1) Ni))) tc te O W:=by
 refine⟨xs.length,Y,h0,⟨?_,?_,?_⟩⟩
 ·intro i zs H' hi p;obtain⟨h1,h2⟩:=hl i zs H' (U7 hi) p;exact⟨⟨xs,xs[i],h1,by simp[hi]⟩,by lia⟩
 ·rintro i zs H' x H1 hi p ⟨rfl,y⟩;have hx:=y xs (hl i zs _ (U7 hi) p).1;obtain⟨t,u,v,rfl,ak,h⟩:=hs i x zs _ hx p;exact⟨t,_,Z,ak,Z,_,_,Z,_,_,Z,Z,h⟩
 ·intro zs H' p;obtain⟨h1,h2⟩:=hl _ zs H' (Uk _) p;exact⟨⟨xs,h1,Uk _⟩,by lia,J zs H' p⟩
theorem Mb{qs hs c:List Rat}{i:Nat}{x y:Rat}(O:hs.length=qs.length)(W:qs[i]? = some x)(Y:hs[i]? = some y):D8 (qs.take (i+1)) (hs.take (i+1)) c=D8 (qs.take i) (hs.take i) c++if Cv.ev c x=y then [] else [x]:=by
 unfold D8;rw[Vj,Vj,W,Y,List.zip_append (by rw[Uy,Uy];lia),WZ,Vk]
 congr 1
 show(([(x,y)]:List (Rat×Rat)).filter (bad c)).map Prod.fst=_;by_cases z:Cv.ev c x=y
 ·rw[if_pos z,WY (by unfold bad;rw[decide_eq_true z];decide)];rfl
 ·rw[if_neg z,WX (by unfold bad;rw[decide_eq_false z];rfl)];rfl
theorem N4{qs hs c:List Rat}{x:Rat}(h:x∈D8 qs hs c):x∈qs:=by
 unfold D8 at h;obtain⟨W,Y,rfl⟩:=VU.mp h;exact(Uw (show(W.1,W.2)∈qs.zip hs from(U2.mp Y).1)).1
structure Cs7(K:U5)(p l rc:aa)(zs:List V)(qs cs:List Rat)(G:Hp):Prop where
 pen:Pen G p
 lp:l≠p
 el:G l=some (.lst zs)
 nz:Aw G zs qs
 cc:Crv K G rc cs
theorem KG{Pt l:aa}{q:Str}{H:Hp}{xs ys:List V}(c:BX Pt q H)(e:H l=some (.lst xs)):BX Pt q (upd H l (.lst ys)):=by
 obtain⟨ps,e1,t,c⟩:=c;refine⟨ps,by rw[Am (fun z=>by rw[z,e]at e1;cases e1)];exact e1,t,fun pos W z=>?_⟩
 obtain⟨J,O,Y⟩:=c pos W z;exact⟨J,O,by rw[Am (fun y=>by rw[y,e]at Y;cases Y)];exact Y⟩
structure Lp7(K:U5)(Pt l1 l2 lg lh td lm rc:aa)(zs ys us:List V)(qs hs rs:List Rat)(G:Hp):Prop where
 eh:G lh=some (.lst ys)
 ny:Au K G ys hs
 td:SqT K G td [.str "one",.ref rc,.ref lm]
 em:G lm=some (.lst us)
 nm:Au K G us rs
 eg:G lg=some (.lst [.ref l1,.ref l2])
 e1:G l1=some (.lst zs)
 e2:G l2=some (.lst ys)
 ct:BX Pt Dm G
inductive Ct(K:U5)(Pt:aa)(vs:List V)(H:Hp)(Q:VK)(E_3:XK):Prop
 | mk (lp lh:aa) (zs ys:List V) (qs hs:List Rat) (W e n nx ny mc C:Nat) (h1:vs=[.ref lp,.ref lh,.int (W:Int),.int (e:Int)]) (h2:SqL K H lp zs) (h3:Aw H zs qs) (h4:SqL K H lh ys) (h5:Au K H ys hs) (h6:qs.length=n) (h7:hs.length=n) (h8:n<=12) (h9:qs.Nodup) (h10:1<=W) (h11:W<=12) (h12:2*e+W<=n) (h13:(∀x∈qs,RB nx x)) (h14:(∀y∈hs,RB ny y)) (h15:1<=nx) (h16:nx<=20) (h17:nx<=ny) (h18:ny<=200) (h19:(nx+1)*(n+3)+ny+2<=C) (h20:(gAS C n).2+3*C<=2000000) (h21:BX Pt Dm H) (h22:26*(2048*(ny+2*nx+2))+300<=mc) (h23:mc*(W+4)<=49000000) (h24:(∀(t pc lw:aa) (H':Hp) (us:List V) (rs c:List Rat),Br Pt H H'->BX Pt Dm H'->SqT K H' t [.str "one",.ref pc,.ref lw]->Crv K H' pc c->BE c->c.length<=W->(∀x∈c,RB mc x)->H lw=none->H' lw=some (.lst us)->Au K H' us rs->rs.Perm (D8 qs hs c)->rs.Pairwise (· <= ·)->(D8 qs hs c).length<=e->Q (.ref t) H')) (h25:(∀(t pD pN:aa) (H':Hp) (N D c:List Rat),Br Pt H H'->BX Pt Dm H'->SqT K H' t [.str "none",.ref pD,.ref pN]->Crv K H' pD D->Crv K H' pN N->BE D->BE N->D≠[]->D.length<=e+1->N.length<=e+W->(∀x∈D,Bd ((gAS C (2*e+W)).2+1) x.num/\Bd 1 (x.den:Int))->(∀x∈N,Bd ((gAS C (2*e+W)).2+1) x.num/\Bd 1 (x.den:Int))->(∀i (h:i<2*e+W) (h1:i<qs.length) (h2:i<hs.length),Cv.ev N qs[i]=hs[i]*Cv.ev D qs[i])->e<(D8 qs hs c).length->(∀f:List Rat,f.length<=W->(∀x,Cv.ev N x=Cv.ev f x*Cv.ev D x)->∀x,Cv.ev f x=Cv.ev c x)->Q (.ref t) H')):Ct K Pt vs H Q E_3
structure S8(K:U5)(Pt p l:aa)(zs:List V)(qs:List Rat)(G:Hp):Prop where
 pen:Pen G p
 lp:l≠p
 el:G l=some (.lst zs)
 nz:Aw G zs qs
 tb:G Pt=some (.tbl #[])
structure H8s(K:U5)(p lh:aa)(ys:List V)(hs:List Rat)(n ny:Nat)(G:Hp):Prop where
 hp:lh≠p
 eh:G lh=some (.lst ys)
 nh:Au K G ys hs
 len:hs.length=n
 rb:∀y∈hs,RB ny y
inductive Iy(K:U5)(vs:List V)(H:Hp)(Q:VK)(E_3:XK):Prop
 | mk (r u:aa) (qs ps:List Rat) (g d L:Nat) (h1:vs=[.ref r,.ref u]) (h2:Crv K H r qs) (h3:Crv K H u ps) (h4:BE qs) (h5:ps≠[]) (h6:BE ps) (h7:(∀q∈qs,Bd g q.num/\Bd d (q.den:Int))) (h8:(∀q∈ps,RB L q)) (h9:g+13*d+400*L+1000<=50000000) (h10:qs.length<=13) (h11:ps.length<=13) (h12:∀(p a b:aa) (H':Hp) (os rs:List Rat),Ae H H'->H' p=some (.tup [.ref a,.ref b])->Crv K H' a os->Crv K H' b rs->BE os->BE rs->os.length=qs.length+1-ps.length->rs.length<ps.length->(∀x,Cv.ev qs x=Cv.ev os x*Cv.ev ps x+Cv.ev rs x)->(∀q∈os,RB (g+13*d+400*L+1000) q)->Q (.ref p) H'):Iy K vs H Q E_3
inductive Gu(K:U5)(vs:List V)(H:Hp)(Q:VK)(E_3:XK):Prop
 | mk (r u:aa) (qs:List Rat) (y:Rat) (m n:Nat) (h1:vs=[.ref r,.ref u]) (h2:Crv K H r qs) (h3:AD K H (.ref u) y) (h4:(∀q∈qs,RB m q)) (h5:RB n y) (h6:m+n<=50000000) (h7:qs.length<=1000) (h8:∀p H',Ae H H'->Crv K H' p (Cv.strip (qs.map (· * y)))->Q (.ref p) H'):Gu K vs H Q E_3
theorem Fi(x:Rat):∀os:List Rat,Bb (os++[0]) (Ux os.length 0++[1]) x=prV x os
 | []=>by show 1+(x-0)*0=(1:Rat);grind
 | o::os=>by
   show 0+(x-o)*Bb (os++[0]) (Ux os.length 0++[1]) x=(x-o)*prV x os;rw[Fi x os];grind
theorem QB(v:V):∀k:Nat,(Ux k [v]).flatten=Ux k v
 | 0=>rfl
 | k+1=>by rw[US,UT,QB v k,US];rfl
theorem Jy{K:U5}{H:Hp}{v:V}{q:Rat}(h:AD K H v q):∀k:Nat,Au K H (Ux k v) (Ux k q)
 | 0=>.nil
 | k+1=>.cons h (Jy h k)
inductive EC(K:U5)(vs:List V)(H:Hp)(Q:VK)(E_3:XK):Prop
 | mk (l:aa) (zs:List V) (qs:List Rat) (n:Nat) (h1:vs=[.ref l]) (h2:H l=some (.lst zs)) (h3:Au K H zs qs) (h4:(∀q∈qs,RB n q)) (h5:1<=n) (h6:n<=1000) (h7:qs.length<=12) (h8:∀(p:aa) (H':Hp),Ae H H'->Crv K H' p (prL qs)->(∀q∈prL qs,RB (28*n+400) q)->Q (.ref p) H'):EC K vs H Q E_3
theorem Ia{D W J S:List Rat}(gD:BE D)(go:BE W)(gr:BE J)(ak:J.length<(prL S).length)(Y:∀x,Cv.ev D x=Cv.ev W x*Cv.ev (prL S) x+Cv.ev J x)(hn:S.Nodup)(hz:∀q∈S,Cv.ev D q=0):∀x,Cv.ev D x=prV x S*Cv.ev W x:=by
 obtain⟨M,hM⟩:=JF S hn hz;have O:=CS S;have h2:∀x,Cv.ev D x=Cv.ev (Cv.strip M) x*Cv.ev (prL S) x+Cv.ev [] x:=fun x=>by rw[hM x,Cv.ev_strip,GN];show _=_+0;grind
 have:=div_one (Fn S) (fun z=>by rw[z]at O;cases O) go (Bs M) gr (.inl rfl) ak (by rw[O];exact VR _) (fun x=>by rw[<- Y x,<- h2 x])
 intro x;rw[Y x,this.2,GN];show _+0=_
 grind
inductive ET(K:U5)(vs:List V)(H:Hp)(Q:VK)(E_3:XK):Prop
 | mk (t lp pN pD:aa) (zs:List V) (qs N D:List Rat) (G nx:Nat) (h1:vs=[.ref t,.ref lp]) (h2:SqT K H t [.ref pN,.ref pD]) (h3:Crv K H pN N) (h4:Crv K H pD D) (h5:BE N) (h6:BE D) (h7:D≠[]) (h8:SqL K H lp zs) (h9:Au K H zs qs) (h10:qs.Nodup) (h11:qs.length<=12) (h12:N.length<=13) (h13:D.length<=13) (h14:(∀c∈N,Bd G c.num/\Bd 1 (c.den:Int))) (h15:(∀c∈D,Bd G c.num/\Bd 1 (c.den:Int))) (h16:(∀q∈qs,RB nx q)) (h17:1<=nx) (h18:nx<=1000) (h19:G<=5000000) (h20:(∀q∈qs,Cv.ev D q=0->Cv.ev N q=0)) (h21:∀(p a b:aa) (H':Hp) (n' d':List Rat) (c:Rat),Ae H H'->H' p=some (.tup [.ref a,.ref b])->Crv K H' a n'->Crv K H' b d'->BE n'->BE d'->d'[d'.length-1]? = some 1->c≠0->(∀x,Cv.ev N x=c*prV x (qs.filter fun q=>decide (Cv.ev D q=0))*Cv.ev n' x)->(∀x,Cv.ev D x=c*prV x (qs.filter fun q=>decide (Cv.ev D q=0))*Cv.ev d' x)->n'.length<=N.length->d'.length<=D.length->(∀q∈n',RB (2*(G+13+400*(28*nx+400)+1000)+2) q)->(∀q∈d',RB (2*(G+13+400*(28*nx+400)+1000)+2) q)->Q (.ref p) H'):ET K vs H Q E_3
inductive Ek(K:U5)(vs:List V)(H:Hp)(Q:VK)(E_3:XK):Prop
 | mk (t rx ry pn pd:aa) (n' d':List Rat) (x y:Rat) (E nx ny:Nat) (h1:vs=[.ref t,.ref rx,.ref ry]) (h2:SqT K H t [.ref pn,.ref pd]) (h3:Crv K H pn n') (h4:Crv K H pd d') (h5:(∀c∈n',RB E c)) (h6:(∀c∈d',RB E c)) (h7:n'.length<=13) (h8:d'.length<=13) (h9:AD K H (.ref rx) x) (h10:AD K H (.ref ry) y) (h11:RB nx x) (h12:RB ny y) (h13:E<=3000000) (h14:nx<=1000) (h15:ny<=1000000) (h16:∀H',Ae H H'->Q (.bl (decide (Cv.ev d' x≠0/\Cv.ev n' x=y*Cv.ev d' x))) H'):Ek K vs H Q E_3
theorem Ot{K:U5}{a b:aa}{js:List Nat}{xs ys:List V}{tc:TT}{te:TE}{σ:St}{H:Hp}{O:List V->Hp->Prop}(Y:Nat->List V->Hp->Prop)(h0:Y 0 [] H)
 (hl:∀i zs H,i<=min xs.length ys.length->Y i zs H->SqL K H a xs/\SqL K H b ys/\zs.length<=i) (hz:min xs.length ys.length<=af)
 (hs:∀i x y T zs H,xs[i]? = some x->ys[i]? = some y->H T=none->Y i zs H->tc (((cS 2 js σ).set 0 (some x)).set 1 (some y)) (upd H T (.tup [x,y])) fun b H3=>if b=true then te (((cS 2 js σ).set 0 (some x)).set 1 (some y)) H3 fun y H4=>Y (i+1) (zs++[y]) H4 else Y (i+1) zs H3) (J:∀zs H',Y (min xs.length ys.length) zs H'->O zs H') :
 ∃(n':Nat) (W:Nat->List V->Hp->Prop),W 0 [] H/\LcW (Itz K a b xs ys) n' 2 js σ (KD K 2 (Fo (Cq 0) (Fo (Cq 1) Ni))) tc te O W:=by
 refine⟨min xs.length ys.length,Y,h0,⟨?_,?_,?_⟩⟩
 ·intro i zs H' hi p;obtain⟨h1,h2,h3⟩:=hl i zs H' (U7 hi) p;exact⟨⟨h1,h2,hi⟩,by lia⟩
 ·rintro i zs H' x H1 hi p ⟨T,x1,y1,hx,hy,hT,rfl,rfl⟩;exact⟨T,_,Z,SqT.of Aa,Z,_,_,Z,_,_,Z,Z,hs i x1 y1 T zs _ hx hy hT p⟩
 ·intro zs H' p;obtain⟨h1,h2,h3⟩:=hl _ zs H' (Uk _) p;exact⟨⟨h1,h2,Uk _⟩,by lia,J zs H' p⟩
def Du(qs hs n' d':List Rat):List Rat:=((qs.zip hs).filter fun p=>!decide (Cv.ev d' p.1≠0/\Cv.ev n' p.1=p.2*Cv.ev d' p.1)).map Prod.fst
inductive FW(K:U5)(Pt:aa)(vs:List V)(H:Hp)(Q:VK)(E_3:XK):Prop
 | mk (lp lh:aa) (zs ys:List V) (qs hs:List Rat) (W n nx ny C:Nat) (h1:vs=[.ref lp,.ref lh,.int (W:Int)]) (h2:SqL K H lp zs) (h3:Aw H zs qs) (h4:SqL K H lh ys) (h5:Au K H ys hs) (h6:qs.length=n) (h7:hs.length=n) (h8:1<=n) (h9:n<=12) (h10:qs.Nodup) (h11:1<=W) (h12:W<=n) (h13:(∀c∈qs,RB nx c)) (h14:(∀c∈hs,RB ny c)) (h15:1<=nx) (h16:nx<=50) (h17:ny<=1000000) (h18:(nx+1)*(n+3)+ny+2<=C) (h19:(gAS C n).2+3*C<=700000) (h20:BX Pt Dm H) (h21:∀(t a b l:aa) (H':Hp) (r1 r2:Int) (N D N2 D2 n' d' rs:List Rat) (ls:List V) (c:Rat),Br Pt H H'->BX Pt Dm H'->SqT K H' t [.ref a,.ref b,.ref l]->Crv K H' a n'->Crv K H' b d'->BE n'->BE d'->d'[d'.length-1]? = some 1->c≠0->DQ (W:Int) ((n:Int)+1-W) n (qs.zip hs) r1 r2 N D N2 D2->Cv.strip D≠[]->(∀x,Cv.ev N x=c*prV x (qs.filter fun q=>decide (Cv.ev D q=0))*Cv.ev n' x)->(∀x,Cv.ev D x=c*prV x (qs.filter fun q=>decide (Cv.ev D q=0))*Cv.ev d' x)->n'.length<=W->d'.length<=n+1-W->H' l=some (.lst ls)->Au K H' ls rs->rs.Perm (Du qs hs n' d')->rs.Pairwise (· <= ·)->(∀q∈n',RB 3000000 q)->(∀q∈d',RB 3000000 q)->Q (.ref t) H'):FW K Pt vs H Q E_3
theorem Ed(X:Rat)(rk rs:List Rat):∀os:List Rat,Bb (os++rk) (Ux os.length 0++rs) X=L2.prV X os*Bb rk rs X
 | []=>by show Bb rk rs X=1*Bb rk rs X;grind
 | o::os=>by
   show 0+(X-o)*Bb (os++rk) (Ux os.length 0++rs) X=(X-o)*L2.prV X os*Bb rk rs X;rw[Ed X rk rs os];grind
def R5(qs os:List Rat)(st:Nat):List Rat:=Ux st 0++(qs.drop st).map fun x=>Cv.ev os x
inductive CY(K:U5)(vs:List V)(H:Hp)(Q:VK)(E_3:XK):Prop
 | mk (l:aa) (ys:List V) (qs:List Rat) (wd:Nat) (h1:vs=[.ref l,.int (wd:Int)]) (h2:SqL K H l ys) (h3:Aw H ys qs) (h4:qs.Nodup) (h5:qs.length<=12) (h6:1<=wd) (h7:wd<qs.length) (h8:(∀q∈qs,RB 24 q)) (h9:∀(t hl one oth:aa) (H':Hp) (hv:List V) (os:List Rat),Ae H H'->SqT K H' t [.ref hl,.ref one,.ref oth]->H hl=none->H' hl=some (.lst hv)->Au K H' hv (R5 qs os (qs.length-((qs.length-wd) / 2+1)))->SqT K H' one []->Crv K H' oth os->BE os->os.length<=wd->(∀q∈os,RB 1000 q)->(∀X,Cv.ev os X=L2.prV X (qs.take (wd-1)))->Q (.ref t) H'):CY K vs H Q E_3
def Es(few:Int)(qs:List Rat):Prop:=(qs.length:Int)<few\/12<qs.length\/¬qs.Nodup
def DR(qs:List Rat)(m:Nat):Prop:=Es 1 qs\/m≠qs.length
inductive Ej(K:U5)(vs:List V)(H:Hp)(Q:VK)(E_3:XK):Prop
 | mk (l:aa) (ys:List V) (qs:List Rat) (h1:vs=[.ref l]) (h2:SqL K H l ys) (h3:Aw H ys qs) (h4:qs.length<=17) (h5:∀H',Ae H H'->Q (.bl (decide qs.Nodup)) H'):Ej K vs H Q E_3
inductive EE(K:U5)(C:aa)(vs:List V)(H:Hp)(E_2:VK)(E:XK):Prop
 | mk (l:aa) (few:Int) (ys:List V) (qs:List Rat) (h1:vs=[.ref l,.int few]) (h2:SqL K H l ys) (h3:Aw H ys qs) (h4:qs.length<=17) (h5:Es few qs) (h6:∀H',Ae H H'->E (.ref C) none H'):EE K C vs H E_2 E
inductive DC(K:U5)(C:aa)(vs:List V)(H:Hp)(E_2:VK)(E:XK):Prop
 | mk (l lh:aa) (zs ys:List V) (qs:List Rat) (h1:vs=[.ref l,.ref lh]) (h2:SqL K H l zs) (h3:Aw H zs qs) (h4:SqL K H lh ys) (h5:qs.length<=17) (h6:DR qs ys.length) (h7:∀H',Ae H H'->E (.ref C) none H'):DC K C vs H E_2 E
inductive DY(K:U5)(cN cF:aa)(vs:List V)(H:Hp)(E_2:VK)(E:XK):Prop
 | mk (l lh:aa) (zs ys:List V) (qs:List Rat) (W e:Int) (h1:vs=[.ref l,.ref lh,.int W,.int e]) (h2:SqL K H l zs) (h3:Aw H zs qs) (h4:SqL K H lh ys) (h5:qs.length<=17) (h6:((DR qs ys.length/\∀H',Ae H H'->E (.ref cN) none H')\/(¬DR qs ys.length/\(qs.length:Int)<2*e+W/\∀H',Ae H H'->E (.ref cF) none H'))):DY K cN cF vs H E_2 E
inductive DZ(K:U5)(cN cF:aa)(vs:List V)(H:Hp)(E_2:VK)(E:XK):Prop
 | mk (l:aa) (zs:List V) (qs:List Rat) (W:Int) (h1:vs=[.ref l,.int W]) (h2:SqL K H l zs) (h3:Aw H zs qs) (h4:qs.length<=17) (h5:((Es 2 qs/\∀H',Ae H H'->E (.ref cN) none H')\/(¬Es 2 qs/\(W<1\/(qs.length:Int)<=W)/\∀H',Ae H H'->E (.ref cF) none H'))):DZ K cN cF vs H E_2 E
inductive DX(K:U5)(cN cF:aa)(vs:List V)(H:Hp)(E_2:VK)(E:XK):Prop
 | mk (l lh:aa) (zs ys:List V) (qs:List Rat) (W:Int) (h1:vs=[.ref l,.ref lh,.int W]) (h2:SqL K H l zs) (h3:Aw H zs qs) (h4:SqL K H lh ys) (h5:qs.length<=17) (h6:((DR qs ys.length/\∀H',Ae H H'->E (.ref cN) none H')\/(¬DR qs ys.length/\(W<1\/(qs.length:Int)<W)/\∀H',Ae H H'->E (.ref cF) none H'))):DX K cN cF vs H E_2 E
theorem Dz{Y:Int}{qs:List Rat}(h:¬Es Y qs):Y<=(qs.length:Int)/\qs.length<=12/\qs.Nodup:=by
 unfold Es at h;refine⟨?_,?_,?_⟩
 ·by_cases z:(qs.length:Int)<Y
  ·exact absurd (.inl z) h
  ·lia
 ·by_cases z:12<qs.length
  ·exact absurd (.inr (.inl z)) h
  ·lia
 ·by_cases z:qs.Nodup
  ·exact z
  ·exact absurd (.inr (.inr z)) h
theorem Fv{qs:List Rat}{m:Nat}(h:¬DR qs m):1<=qs.length/\qs.length<=12/\qs.Nodup/\m=qs.length:=by
 have h1:¬Es 1 qs:=fun z=>h (.inl z);obtain⟨a,b,c⟩:=Dz h1;refine⟨by lia,b,c,?_⟩
 by_cases z:m=qs.length
 ·exact z
 ·exact absurd (.inr z) h
inductive Iu(P:ai)(w:ar)(K:U5)(mg:Str->Option ac)(base:au)(k:Nat)(cN cF:aa)(vs:List V)(H:Hp)(Q:VK)(E_3:XK):Prop
 | mk (f:aa) (o:Option aa) (t:Str) (R:Hp->Hp->Prop) (h1:vs=[.ref f]) (h2:Ri P w K mg base k R H f o) (h3:((o=none/\t = "told")\/(o=some cN/\t = "points")\/(o=some cF/\t = "few"))) (h4:∀X H',R H X->Ae X H'->Q (.str t) H'):Iu P w K mg base k cN cF vs H Q E_3
def Ql:Str:="_law_all" ++ ".<locals>." ++ "<lambda>"
def PV:Str:="law" ++ ".<locals>." ++ "<lambda>"
def R0(H H':Hp):Prop:=Br 268 H H'/\BX 268 Dm H'
structure T9(H:Hp):Prop where
 r:BX 268 Dm H
 a:BX 449 Ql H
 l:BX 463 PV H
theorem T9.same{H H':Hp}(h:T9 H)(s:Ae H H'):T9 H':=⟨h.r.same s,h.a.same s,h.l.same s⟩
theorem T9.r0{H H':Hp}(h:T9 H)(r:R0 H H'):T9 H'/\Kt H H':=⟨⟨r.2,h.a.other r.1 (by decide) h.r.tb,h.l.other r.1 (by decide) h.r.tb⟩,r.1.kt h.r⟩
theorem T9.askA{H H2 Y O:Hp}{f c':aa}{fd:ag}(h:T9 H)(W:EM H H2 449 Ql f c' fd)(r:R0 H2 Y)(s:Ae Y O):T9 O/\Kt H O:=by
 have t2:T9 H2:=⟨h.r.other W.old (by decide) h.a.tb,W.tab,h.l.other W.old (by decide) h.a.tb⟩
 obtain⟨J,k3⟩:=t2.r0 r;exact⟨J.same s,((Br.kt W.old h.a).trans k3).trans s.kt⟩
theorem T9.askL{H H2 Y O:Hp}{f c':aa}{fd:ag}(h:T9 H)(W:EM H H2 463 PV f c' fd)(r:R0 H2 Y)(s:Ae Y O):T9 O/\Kt H O:=by
 have t2:T9 H2:=⟨h.r.other W.old (by decide) h.l.tb,h.a.other W.old (by decide) h.l.tb,W.tab⟩
 obtain⟨J,k3⟩:=t2.r0 r;exact⟨J.same s,((Br.kt W.old h.l).trans k3).trans s.kt⟩
theorem T9.newA{H H2:Hp}{f W:aa}{fd:ag}(h:T9 H)(Y:EM H H2 449 Ql f W fd):T9 H2/\Kt H H2:=⟨⟨h.r.other Y.old (by decide) h.a.tb,Y.tab,h.l.other Y.old (by decide) h.a.tb⟩,Br.kt Y.old h.a⟩
theorem T9.newL{H H2:Hp}{f W:aa}{fd:ag}(h:T9 H)(Y:EM H H2 463 PV f W fd):T9 H2/\Kt H H2:=⟨⟨h.r.other Y.old (by decide) h.l.tb,h.a.other Y.old (by decide) h.l.tb,Y.tab⟩,Br.kt Y.old h.l⟩
theorem CQ{K:U5}{H H':Hp}{r:aa}{xs:List V}(h:SqL K H r xs)(k:Kt H H'):SqL K H' r xs:=by
 rcases h with (h | ⟨o,h⟩) | h
 ·exact .inl (.inl (k _ _ (fun _ z=>by cases z) h))
 ·exact .inl (.inr ⟨o,k _ _ (fun _ z=>by cases z) h⟩)
 ·exact .inr h
theorem P9{K:U5}{H H':Hp}{r:aa}{xs:List V}(h:SqT K H r xs)(k:Kt H H'):SqT K H' r xs:=by
 rcases h with (h | ⟨o,h⟩) | h
 ·exact .inl (.inl (k _ _ (fun _ z=>by cases z) h))
 ·exact .inl (.inr ⟨o,k _ _ (fun _ z=>by cases z) h⟩)
 ·exact .inr h
theorem BB{H H':Hp}{xs:List V}{qs:List Rat}(h:Aw H xs qs)(k:Kt H H'):Aw H' xs qs:=Paired.mapP h fun _ _ z=>let ⟨r,e,h⟩:=z;⟨r,e,k _ _ (fun _ z=>by cases z) h⟩
theorem D5{K:U5}{H H':Hp}{xs:List V}{qs:List Rat}(h:Au K H xs qs)(k:Kt H H'):Au K H' xs qs:=Paired.mapP h fun _ _ z=>let ⟨r,e,h⟩:=z;⟨r,e,P9 h k⟩
theorem IF{H H':Hp}{p:aa}(h:Pen H p)(k:Kt H H'):Pen H' p:=let ⟨a,b,c,e⟩:=h;⟨a,b,c,k _ _ (fun _ z=>by cases z) e⟩
def o9(cN cF:aa):Nat->Option aa
 | 0=>none
 | 1=>some cN
 | _=>some cF
def t9:Nat->Str
 | 0=>"told"
 | 1=>"points"
 | _=>"few"
theorem GY(cN cF:aa):∀n,(o9 cN cF n=none/\t9 n = "told")\/(o9 cN cF n=some cN/\t9 n = "points")\/(o9 cN cF n=some cF/\t9 n = "few")
 | 0=>.inl ⟨Z,Z⟩
 | 1=>.inr (.inl ⟨Z,Z⟩)
 | _+2=>.inr (.inr ⟨Z,Z⟩)
def NJ(qs:List Rat)(m:Nat)(W e:Int)(n:Nat):Prop:=(n=1/\DR qs m)\/(n=2/\¬DR qs m/\(qs.length:Int)<2*e+W)\/(n=0/\¬DR qs m/\2*e+W<=(qs.length:Int))
def ND(qs:List Rat)(W:Int)(n:Nat):Prop:=(n=1/\Es 2 qs)\/(n=2/\¬Es 2 qs/\(W<1\/(qs.length:Int)<=W))\/(n=0/\¬Es 2 qs/\1<=W/\W<(qs.length:Int))
def NQ(qs:List Rat)(m:Nat)(W:Int)(n:Nat):Prop:=(n=1/\DR qs m)\/(n=2/\¬DR qs m/\(W<1\/(qs.length:Int)<W))\/(n=0/\¬DR qs m/\1<=W/\W<=(qs.length:Int))
theorem QO(qs:List Rat)(m:Nat)(W e:Int):∃n,NJ qs m W e n:=by
 by_cases h:DR qs m
 ·exact⟨1,.inl ⟨Z,h⟩⟩
 by_cases h2:(qs.length:Int)<2*e+W
 ·exact⟨2,.inr (.inl ⟨Z,h,h2⟩)⟩
 ·exact⟨0,.inr (.inr ⟨Z,h,by lia⟩)⟩
theorem QQ(qs:List Rat)(W:Int):∃n,ND qs W n:=by
 by_cases h:Es 2 qs
 ·exact⟨1,.inl ⟨Z,h⟩⟩
 by_cases h2:W<1\/(qs.length:Int)<=W
 ·exact⟨2,.inr (.inl ⟨Z,h,h2⟩)⟩
 ·exact⟨0,.inr (.inr ⟨Z,h,by lia,by lia⟩)⟩
theorem QL(qs:List Rat)(m:Nat)(W:Int):∃n,NQ qs m W n:=by
 by_cases h:DR qs m
 ·exact⟨1,.inl ⟨Z,h⟩⟩
 by_cases h2:W<1\/(qs.length:Int)<W
 ·exact⟨2,.inr (.inl ⟨Z,h,h2⟩)⟩
 ·exact⟨0,.inr (.inr ⟨Z,h,by lia,by lia⟩)⟩
structure Bq(qs hs:List Rat):Prop where
 q:∀c∈qs,RB 16 c
 h:∀c∈hs,RB 7 c
 f:qs.Nodup->qs.length<=5\/∀c∈qs,RB 7 c
theorem Bq.nx{qs hs:List Rat}(h:Bq qs hs)(J:qs.Nodup)(Y:qs.length<=12):∃nx C,7<=nx/\nx<=16/\(∀c∈qs,RB nx c)/\(nx+1)*(qs.length+3)+nx+2<=C/\(gAS C qs.length).2+3*C<=700000/\∀W,W<=qs.length->(26*(2048*(nx+2*nx+2))+300)*(W+4)<=49000000:=by
 rcases h.f J with z | z
 ·refine⟨16,154,by decide,by decide,h.q,by lia,U6 (Wj (Dx 154 z) _) (by decide),fun W O=>?_⟩
  exact U6 (X0 _ (show W+4<=9 by lia)) (by decide)
 ·refine⟨7,129,by decide,by decide,z,by lia,U6 (Wj (Dx 129 Y) _) (by decide),fun W O=>?_⟩
  exact U6 (X0 _ (show W+4<=16 by lia)) (by decide)
theorem QV{K:U5}{H:Hp}{l Y cN cF:aa}{zs ys:List V}{qs hs:List Rat}{W e:Int}{n:Nat}{Q:VK}{E:XK}(hS:SqL K H l zs)(hN:Aw H zs qs)(hH:SqL K H Y ys)(hY:Au K H ys hs)(O:qs.length<=17)(hb:Bq qs hs)(hW:1<=W)(he:0<=e)(ct:BX 268 Dm H)(hn:NJ qs ys.length W e n)
 (hQ:∀r H',R0 H H'->o9 cN cF n=none->Q r H') (hE:∀C H',R0 H H'->o9 cN cF n=some C->E (.ref C) none H'):(Ct K 268:Sp) [.ref l,.ref Y,.int W,.int e] H Q E\/(DY K cN cF:Sp) [.ref l,.ref Y,.int W,.int e] H Q E:=by
 have an:=hY.length
 rcases hn with ⟨rfl,J⟩ | ⟨rfl,J,ak⟩ | ⟨rfl,J,al⟩
 ·exact .inr ⟨l,Y,zs,ys,qs,W,e,Z,hS,hN,hH,O,.inl ⟨J,fun H' s=>hE cN H' ⟨s.b,ct.same s⟩ rfl⟩⟩
 ·exact .inr ⟨l,Y,zs,ys,qs,W,e,Z,hS,hN,hH,O,.inr ⟨J,ak,fun H' s=>hE cF H' ⟨s.b,ct.same s⟩ rfl⟩⟩
 ·obtain⟨b1,b2,b3,b4⟩:=Fv J;obtain⟨w,rfl⟩:∃w:Nat,W=(w:Int):=⟨W.toNat,by lia⟩
  obtain⟨m,rfl⟩:∃m:Nat,e=(m:Int):=⟨e.toNat,by lia⟩
  obtain⟨nx,C,n1,n2,n3,n4,n5,n6⟩:=hb.nx b3 b2;exact .inl ⟨l,Y,zs,ys,qs,hs,w,m,qs.length,nx,nx,_,C,Z,hS,hN,hH,hY,Z,by lia,b2,b3,by lia,by lia,by lia,n3,fun y hy=>(hb.h y hy).mono (by lia),by lia,by lia,by lia,by lia,n4,by lia,ct,Uk _,n6 w (by lia),fun t pc lw H' us rs c s1 c1 _ _ _ _ _ _ _ _ _ _ _=>hQ _ H' ⟨s1,c1⟩ rfl,fun t pD pN H' N D c s1 c1 _ _ _ _ _ _ _ _ _ _ _ _ _=>hQ _ H' ⟨s1,c1⟩ rfl⟩
theorem R4{K:U5}{H:Hp}{l cN cF:aa}{zs:List V}{qs hs:List Rat}{W:Int}{n:Nat}{Q:VK}{E:XK}(hS:SqL K H l zs)(hN:Aw H zs qs)(Y:qs.length<=17)(hb:Bq qs hs)(ct:BX 268 Dm H)(hn:ND qs W n)
 (hQ:∀r H',R0 H H'->o9 cN cF n=none->Q r H') (hE:∀C H',R0 H H'->o9 cN cF n=some C->E (.ref C) none H'):(CY K:Sp) [.ref l,.int W] H Q E\/(DZ K cN cF:Sp) [.ref l,.int W] H Q E:=by
 rcases hn with ⟨rfl,J⟩ | ⟨rfl,J,O⟩ | ⟨rfl,J,al,O⟩
 ·exact .inr ⟨l,zs,qs,W,Z,hS,hN,Y,.inl ⟨J,fun H' s=>hE cN H' ⟨s.b,ct.same s⟩ rfl⟩⟩
 ·exact .inr ⟨l,zs,qs,W,Z,hS,hN,Y,.inr ⟨J,O,fun H' s=>hE cF H' ⟨s.b,ct.same s⟩ rfl⟩⟩
 ·obtain⟨b1,b2,b3⟩:=Dz J;obtain⟨w,rfl⟩:∃w:Nat,W=(w:Int):=⟨W.toNat,by lia⟩
  exact .inl ⟨l,zs,qs,w,Z,hS,hN,b3,b2,by lia,by lia,fun y hy=>(hb.q y hy).mono (by decide),fun t hl ak an H' hv os s1 _ _ _ _ _ _ _ _ _ _=>hQ _ H' ⟨s1.b,ct.same s1⟩ rfl⟩
theorem Ph{K:U5}{H:Hp}{l Y cN cF:aa}{zs ys:List V}{qs hs:List Rat}{W:Int}{n:Nat}{Q:VK}{E:XK}(hS:SqL K H l zs)(hN:Aw H zs qs)(hH:SqL K H Y ys)(hY:Au K H ys hs)(O:qs.length<=17)(hb:Bq qs hs)(ct:BX 268 Dm H)(hn:NQ qs ys.length W n)
 (hQ:∀r H',R0 H H'->o9 cN cF n=none->Q r H') (hE:∀C H',R0 H H'->o9 cN cF n=some C->E (.ref C) none H'):(FW K 268:Sp) [.ref l,.ref Y,.int W] H Q E\/(DX K cN cF:Sp) [.ref l,.ref Y,.int W] H Q E:=by
 have al:=hY.length
 rcases hn with ⟨rfl,hx⟩ | ⟨rfl,hx,J⟩ | ⟨rfl,hx,ak,J⟩
 ·exact .inr ⟨l,Y,zs,ys,qs,W,Z,hS,hN,hH,O,.inl ⟨hx,fun H' s=>hE cN H' ⟨s.b,ct.same s⟩ rfl⟩⟩
 ·exact .inr ⟨l,Y,zs,ys,qs,W,Z,hS,hN,hH,O,.inr ⟨hx,J,fun H' s=>hE cF H' ⟨s.b,ct.same s⟩ rfl⟩⟩
 ·obtain⟨b1,b2,b3,b4⟩:=Fv hx;obtain⟨w,rfl⟩:∃w:Nat,W=(w:Int):=⟨W.toNat,by lia⟩
  obtain⟨nx,C,n1,n2,n3,n4,n5,n6⟩:=hb.nx b3 b2;exact .inl ⟨l,Y,zs,ys,qs,hs,w,qs.length,nx,nx,C,Z,hS,hN,hH,hY,Z,by lia,b1,b2,b3,by lia,by lia,n3,fun y hy=>(hb.h y hy).mono (by lia),by lia,by lia,by lia,n4,n5,ct,fun t a b l' H' r1 r2 N D N2 D2 n' d' rs ls c s1 c1 _ _ _ _ _ _ _ _ _ _ _ _ _ _ _ _ _ _ _=>hQ _ H' ⟨s1,c1⟩ rfl⟩
inductive Ke(K:U5)(vs:List V)(H:Hp)(Q:VK)(E_3:XK):Prop
 | mk (l lh:aa) (zs ys:List V) (qs hs:List Rat) (W e:Int) (h1:vs=[.ref l,.ref lh,.int W,.int e]) (h2:SqL K H l zs) (h3:Aw H zs qs) (h4:SqL K H lh ys) (h5:Au K H ys hs) (h6:qs.length<=17) (h7:Bq qs hs) (h8:1<=W) (h9:0<=e) (h10:T9 H) (h11:∀(p:aa) (H':Hp) (a b c:Nat),Kt H H'->T9 H'->NJ qs ys.length W e a->ND qs W b->NQ qs ys.length W c->H' p=some (.lst [.str (t9 a),.str (t9 b),.str (t9 c)])->Q (.ref p) H'):Ke K vs H Q E_3
theorem P8:∀n,t9 n = "told" \/ t9 n = "points" \/ t9 n = "few"
 | 0=>.inl rfl
 | 1=>.inr (.inl rfl)
 | _+2=>.inr (.inr rfl)
theorem sh9(a b c:Nat):SeqAt.shaped (.list [.str (t9 a),.str (t9 b),.str (t9 c)])=true:=by
 rcases P8 a with h | h | h<;>rcases P8 b with h' | h' | h'<;>rcases P8 c with Y | Y | Y<;>rw[h,h',Y]<;>decide +kernel
theorem QC{K:U5}{H:Hp}{p:aa}{x y z:Str}(s:SqL K H p [.str x,.str y,.str z]):Rds K H (.ref p) (.list [.str x,.str y,.str z]):=.lst s rfl fun i x d h1 h2=>by
 rcases i with _ | _ | _ | i
 ·cases h1;cases h2;exact .str _
 ·cases h1;cases h2;exact .str _
 ·cases h1;cases h2;exact .str _
 ·cases h1
theorem Qe{K:U5}{H:Hp}{p p2:aa}{a b c:Nat}{Q:VK}{neg:Bool}(Y:SqL K H p [.str (t9 a),.str (t9 b),.str (t9 c)])(W:SqL K H p2 [.str (t9 a),.str (t9 b),.str (t9 c)])(h:Q (.bl (!neg)) H):Hy K neg (.ref p) (.ref p2) H Q:=by
 refine Np ⟨_,_,QC Y,QC W,sh9 a b c,sh9 a b c,?_⟩
 have e:PyData.eqv (.list [.str (t9 a),.str (t9 b),.str (t9 c)]) (.list [.str (t9 a),.str (t9 b),.str (t9 c)])=true:=by
  show((t9 a == t9 a)&&((t9 b == t9 b)&&((t9 c == t9 c)&&true)))=true;simp
 rw[e];cases neg<;>exact h
inductive Kc(K:U5)(vs:List V)(H:Hp)(Q:VK)(E_3:XK):Prop
 | mk (n W e:Int) (h1:vs=[.int n,.int W,.int e]) (h2:∀p H',Ae H H'->H' p=some (.lst [.str (t9 (if n<2*e+W then 2 else 0)),.str (t9 (if n=1 then 1 else if n<=W then 2 else 0)),.str (t9 (if n<W then 2 else 0))])->Q (.ref p) H'):Kc K vs H Q E_3
theorem at9(b:Bool):atI [V.str "told",.str "few"] (if b then 1 else 0)=some (.str (t9 (if b then 2 else 0))):=by cases b<;>rfl
inductive EU(K:U5)(vs:List V)(H:Hp)(Q:VK)(E_3:XK):Prop
 | mk (a:aa) (ns:List Int) (h1:vs=[.ref a]) (h2:SqL K H a (ns.map V.int)) (h3:ns.length<=63) (h4:H 268=some (.tbl #[])) (h5:H 449=some (.tbl #[])) (h6:H 463=some (.tbl #[])) (h7:∀H',Q (.bl true) H'):EU K vs H Q E_3
theorem T9.mv{H H':Hp}{p:aa}(h:T9 H)(pn:Pen H p)(m:Mv p H H'):T9 H':=⟨Ny h.r pn m,Ny h.a pn m,Ny h.l pn m⟩
theorem QN{qs:List Rat}{m a:Nat}{W e:Int}(h:NJ qs m W e a)(Y:¬DR qs m):a=if (qs.length:Int)<2*e+W then 2 else 0:=by
 rcases h with ⟨_,z⟩ | ⟨rfl,_,z⟩ | ⟨rfl,_,z⟩
 ·exact absurd z Y
 ·rw[if_pos z]
 ·rw[if_neg (by lia)]
theorem QP{qs:List Rat}{a:Nat}{W:Int}(h:ND qs W a)(Y:qs.Nodup)(h1:1<=qs.length)(O:qs.length<=12)(J:1<=W):a=if (qs.length:Int)=1 then 1 else if (qs.length:Int)<=W then 2 else 0:=by
 rcases h with ⟨rfl,z⟩ | ⟨rfl,z,y⟩ | ⟨rfl,z,y,x⟩
 ·rcases z with z | z | z
  ·rw[if_pos (by lia)]
  ·lia
  ·exact absurd Y z
 ·have:=(Dz z).1;rw[if_neg (by lia),if_pos (by lia)]
 ·have:=(Dz z).1;rw[if_neg (by lia),if_neg (by lia)]
theorem QK{qs:List Rat}{m a:Nat}{W:Int}(h:NQ qs m W a)(Y:¬DR qs m)(O:1<=W):a=if (qs.length:Int)<W then 2 else 0:=by
 rcases h with ⟨_,z⟩ | ⟨rfl,_,z⟩ | ⟨rfl,_,_,z⟩
 ·exact absurd z Y
 ·rw[if_pos (by lia)]
 ·rw[if_neg (by lia)]
theorem LJ{qs:List Rat}{m a b c:Nat}{W e:Int}(O:Es 1 qs)(hj:NJ qs m W e a)(hd:ND qs W b)(J:NQ qs m W c):a=1/\b=1/\c=1:=by
 have Y:DR qs m:=.inl O
 have h2:Es 2 qs:=by
  rcases O with z | z | z
  ·exact .inl (by lia)
  ·exact .inr (.inl z)
  ·exact .inr (.inr z)
 refine⟨?_,?_,?_⟩
 ·rcases hj with ⟨z,_⟩ | ⟨_,z,_⟩ | ⟨_,z,_⟩
  ·exact z
  ·exact absurd Y z
  ·exact absurd Y z
 ·rcases hd with ⟨z,_⟩ | ⟨_,z,_⟩ | ⟨_,z,_⟩
  ·exact z
  ·exact absurd h2 z
  ·exact absurd h2 z
 ·rcases J with ⟨z,_⟩ | ⟨_,z,_⟩ | ⟨_,z,_⟩
  ·exact z
  ·exact absurd Y z
  ·exact absurd Y z
theorem JK{qs:List Rat}(Y:qs.Nodup)(h1:1<=qs.length)(O:qs.length<=12){m:Nat}(W:m=qs.length):¬DR qs m:=fun z=>by
 rcases z with (z | z | z) | z
 ·lia
 ·lia
 ·exact z Y
 ·exact z W
theorem R8{P:aa->Prop}{a b c:aa}(h1:P a)(h2:P b)(Y:P c):∀x∈[a,b,c],P x:=fun x W=>by
 rcases Ub.mp W with z | z
 ·rw[z];exact h1
 rcases Ub.mp z with z | z
 ·rw[z];exact h2
 rw[Vx.mp z];exact Y
theorem Nf{qs:List Rat}(Y:qs.Nodup)(h1:2<=qs.length)(W:qs.length<=12):¬Es 2 qs:=fun z=>by
 rcases z with z | z | z
 ·lia
 ·lia
 ·exact z Y
theorem OC{qs:List Rat}{t s:Nat}{x:Rat}(W:qs[s]? = some x):¬(qs.take t++[x]++qs.drop t).Nodup:=fun h=>by
 have Y:x∈qs:=UG W;rw[<- List.take_append_drop t qs]at Y;rw[UU]at h
 rcases Uc.mp Y with z | z
 ·exact(X1.mp h).2.2 x z x (Uc.mpr (.inl (Vx.mpr rfl))) rfl
 ·have h2:=(X1.mp h).2.1;exact(Uv.mp h2).1 z
theorem fl9{n:Nat}:0<=((n:Nat):Int).fdiv 2/\((n:Nat):Int).fdiv 2<=(n:Int):=by
 rw[WW _ (by decide)]
 lia
section
variable {P:ai}{w:ar}{K:U5}{mg:Str->Option ac}{base:au}
theorem fsc{N P:List Str}{sc:aB}(h1:sc.kind = .function:=by rfl)(h2:sc.isCoroutine=false:=by rfl)(Y:sc.isGenerator=false:=by rfl)(O:N.Nodup:=by decide +kernel)(h5:N.take P.length=P:=by rfl)(J:∀x∈P,sc.names.lookup x=some .local\/sc.names.lookup x=some .cell:=by decide +kernel)(W:∀y∈sc.names,y.2 ≠ .free:=by decide +kernel):Ao N P sc:=⟨h1,h2,Y,O,h5,J,W⟩
theorem CZ:Ao ["_law_script","_law_k","_law_cell"] ["_law_script","_law_k"] (Af (top 63)):=fsc
theorem Ju{f:aa}{fd:ag}(F:Fun K "_law_pen" "_law_pen" (top 63) f fd)(RF:mg "len" = none)(hT:P.given.tree=none) :
 Ay P w K mg base CX0 33 f fd ["_law_script","_law_k"] (MC K):=by
 refine F.ok CZ (fun vs H Q E h=>?_) (fun an A outer s H vs Q E hr h=>?_)
 ·obtain⟨_,_,_,rfl,_⟩:=h;rfl
 refine⟨_,(Ad (K:=K) (Ai (i:=2) CZ.nd rfl (Or.inl rfl) (Ah AF (Ah Aq Ac (pv 1)) Ac))
  (Ad (K:=K) (AG (K:=K) (Ap E9 (pv 1) (Ak (Bw K) rfl RF AB (A0 (pv 0) Ab)) (As _)) (Ag (Ai (i:=2) CZ.nd rfl (Or.inl rfl) (Aj (ixL K) (pv 0) (pv 1) (fun u v=>rfl)))) (Ag (AG (K:=K) (Ap D4 (Ak (Bw K) rfl RF AB (A0 (pv 0) Ab)) Ac (As _)) (Ag (Ai (i:=2) CZ.nd rfl (Or.inl rfl) (Ah AF (Aj (ixL K) (pv 0) (Ah CC (pv 1) (Ak (Bw K) rfl RF AB (A0 (pv 0) Ab))) (fun u v=>rfl)) (Ah Aq Ac (pv 1))))) Az (by rfl) (by rfl))) (by rfl) (by rfl))
  (Ad (K:=K) (AG (K:=K) (Ap Lf (pv 2) (Ah FJ Ac Ac) (As _)) (Ag (Ar (AE (A0 (Ah AS (pv 2) (Ah FJ Ac Ac)) (A0 (Ah CC (pv 2) Ac) (A0 Ac Ab)))))) Az (by rfl) (by rfl))
  (Ag (Ar (AE (A0 Ac (A0 (Ah AF (Ah CC (pv 2) Ac) (Ah Aq Ac (pv 1))) (A0 Ac Ab)))))) (by rfl)) (by rfl)) (by rfl)),?_⟩
 obtain⟨a,W,k,rfl,hS,ap,h0,as,q⟩:=h;have hl:(W.map V.int).length=W.length:=UI _;have O:3<=af:=by decide
 have J:Jc 10 18:=by unfold Jc;decide
 refine⟨_,Z,_,_,Z,Z,.inl ⟨by decide,by decide⟩,_,_,Z,Z,?_⟩
 refine⟨_,Z,_,Z,a,_,Z,.inl hS,_,_,Z,Z,_,Z,?_⟩;rw[hl];have al:k<(W.length:Int)->∃v:Int,atI (W.map V.int) k=some (.int v):=fun c=>LH h0 c;have ak:0<(W.length:Int)->∃v:Int,atI (W.map V.int) (k % (W.length:Int))=some (.int v):=fun c=>LH (W3 _ (by lia)) (W4 _ c)
 refine KC (fun c=>?_) (fun c=>?_)
 ·obtain⟨v,hv⟩:=(al (of_decide_eq_true c));refine⟨_,Z,_,Z,a,_,_,_,Z,Z,hS,hv,?_⟩;refine⟨_,Z,_,_,Z,Z,J,_,_,Z,Z,_,Z,?_⟩;refine KC (fun c=>?_) (fun c=>?_)
  ·exact⟨_,Z,_,_,Z,Z,J,_,_,Z,Z,_,Z,_,_,Z,Z,(by first | decide | (dsimp only;decide)),O,fun p Y=>q p _ _ Y⟩
  ·exact⟨_,Z,_,_,Z,Z,(by first | decide | (dsimp only;decide)),_,rfl,_,_,rfl,rfl,.inl ⟨by decide,by decide⟩,_,_,rfl,rfl,O,fun p Y=>q p _ _ Y⟩
 ·refine⟨_,Z,a,_,Z,.inl hS,_,_,Z,Z,_,Z,?_⟩;rw[hl];refine KC (fun c=>?_) (fun c=>?_)
  ·obtain⟨v,hv⟩:=(ak (of_decide_eq_true c));have c':0<(((W.map V.int).length:Nat):Int):=by rw[hl];exact of_decide_eq_true c
   rw[<- hl]at hv;refine⟨_,Z,_,Z,_,Z,a,_,Z,.inl hS,_,_,Z,Z,c',a,_,_,_,Z,Z,hS,hv,_,Z,_,_,Z,Z,.inl ⟨by decide,by decide⟩,_,_,Z,Z,?_⟩
   refine⟨_,Z,_,_,Z,Z,J,_,_,Z,Z,_,Z,?_⟩;refine KC (fun c=>?_) (fun c=>?_)
   ·exact⟨_,Z,_,_,Z,Z,J,_,_,Z,Z,_,Z,_,_,Z,Z,(by first | decide | (dsimp only;decide)),O,fun p Y=>q p _ _ Y⟩
   ·exact⟨_,Z,_,_,Z,Z,(by first | decide | (dsimp only;decide)),_,rfl,_,_,rfl,rfl,.inl ⟨by decide,by decide⟩,_,_,rfl,rfl,O,fun p Y=>q p _ _ Y⟩
  ·refine⟨_,Z,_,_,Z,Z,J,_,_,Z,Z,_,Z,?_⟩;refine KC (fun c=>?_) (fun c=>?_)
   ·exact⟨_,Z,_,_,Z,Z,J,_,_,Z,Z,_,Z,_,_,Z,Z,(by first | decide | (dsimp only;decide)),O,fun p Y=>q p _ _ Y⟩
   ·exact⟨_,Z,_,_,Z,Z,(by first | decide | (dsimp only;decide)),_,rfl,_,_,rfl,rfl,.inl ⟨by decide,by decide⟩,_,_,rfl,rfl,O,fun p Y=>q p _ _ Y⟩
theorem BZ:Ao ["_law_top","_law_bottom","_law_one","_law_other"] ["_law_top","_law_bottom"] (Af (top 65)):=fsc
theorem GX{f:aa}{fd:ag}(F:Fun K "_law_lowest" "_law_lowest" (top 65) f fd)(RN:mg "abs" = none)(hT:P.given.tree=none) :
 Ay P w K mg base CX0 33 f fd ["_law_top","_law_bottom"] (Eu):=by
 refine F.ok BZ (fun vs H Q E h=>?_) (fun aC A outer s H vs Q E hr h=>?_)
 ·obtain⟨_,_,rfl,_⟩:=h;rfl
 refine⟨_,(Ad (K:=K) (Ai (i:=2) BZ.nd rfl (Or.inl rfl) (Ak Fu rfl RN J9 (A0 (pv 0) Ab)))
  (Ad (K:=K) (Ai (i:=3) BZ.nd rfl (Or.inl rfl) (Ak Fu rfl RN J9 (A0 (pv 1) Ab)))
  (Ad (K:=K) (F0 PassesOwn.never (Ap D4 (pv 3) Ac (As _)) (Ag (Pj (i:=2) (j:=3) rfl BZ.nd rfl rfl (by decide) rfl rfl (A0 (pv 3) (A0 (Ah CC (pv 2) (pv 3)) Ab)) (by with_unfolding_all rfl))))
  (Ad (K:=K) (AG (K:=K) (Ap E9 (pv 1) Ac (As _)) (Ag (Ai (i:=2) BZ.nd rfl (Or.inl rfl) (Ah AS Ac (pv 2)))) Az (by rfl) (by rfl))
  (Ag (Ar (AL (A0 (Ah (BA hr hT) (pv 0) (pv 2)) (A0 (Ah (BA hr hT) (pv 1) (pv 2)) Ab))))) (by rfl)) (by rfl)) (by rfl)) (by rfl)),?_⟩
 obtain⟨a,b,rfl,hb,q⟩:=h;refine⟨_,Z,a,Z,?_⟩;refine⟨_,Z,b,Z,?_⟩
 refine Jf (L3 H a b fun H a b σ H'=>H'=H/\∃(x y:Int),σ=[some (.int a),some (.int b),some (.int x),some (.int y)]/\0<=x/\0<=y/\V1 x y=V1 a b) (fun σ _=>mu 3 σ)
  ⟨Z,_,_,Z,?_,?_,?_⟩ ?_ ?_
 ·rw[Nm.abs_if];exact X2 _
 ·rw[Nm.abs_if];exact X2 _
 ·rw[Nm.abs_if,Nm.abs_if];rfl
 ·rintro σ H' an;refine C7 an fun ap ak=>?_;refine CK ak fun x y W=>?_;clear ak;refine HH W fun as hx hy hg=>?_;clear W;obtain rfl:=ap;obtain rfl:=as
  try clear an
  refine⟨_,Z,_,_,Z,Z,_,Z,?_⟩;by_cases hy0:y=0
  ·subst hy0;refine EJ ?_;have e:(V1 a b:Int)=x:=by rw[<- hg,Int.gcd_zero];lia
   subst e;refine⟨_,Z,_,_,Z,Z,_,Z,?_⟩;have hd:Nm.msr a b≠0:=Nm.msr_ne hb
   have Y:∀p,H' p=none->Q (.ref p) (upd H' p (.tup [.int (a.fdiv (Nm.msr a b)),.int (b.fdiv (Nm.msr a b))])):=fun p hp=>by
    rw[Nm.top_msr hb,Nm.bottom_msr hb];exact q p hp
   by_cases hb0:b<0
   ·have J:Nm.msr a b=0-(V1 a b:Int):=by unfold Nm.msr;rw[if_pos hb0];lia
    rw[J]at hd Y;refine AV (by rw[decide_eq_true hb0]<;>rfl) ⟨_,Z,_,_,Z,Z,?_⟩
    exact⟨_,Z,_,Z,_,_,Z,Z,hd,_,Z,_,Z,_,_,Z,Z,hd,(by decide:2<=af),Y⟩
   ·have J:Nm.msr a b=(V1 a b:Int):=by unfold Nm.msr;rw[if_neg hb0]
    rw[J]at hd Y;refine AK (by rw[decide_eq_false hb0]<;>rfl) ?_
    exact⟨_,Z,_,Z,_,_,Z,Z,hd,_,Z,_,Z,_,_,Z,Z,hd,(by decide:2<=af),Y⟩
  ·have O:0<y:=by lia
   refine AV (by rw[decide_eq_true O]<;>rfl) ?_
   refine⟨_,Z,_,Z,_,Z,_,_,Z,Z,O,_,_,Z,⟨Z,y,x % y,Z,hy,W3 _ hy0,?_⟩,?_⟩
   ·rw[Nm.gcd_turn];exact hg
   ·show(x % y).toNat<y.toNat;have:=W4 x O
    lia
 ·rintro σ H' Q1 Q2 hm al;obtain⟨v,e,i,j,e1,e2,k,ek,q1⟩:=al
  try clear al
  exact⟨v,e,i,j,e1,e2,k,ek,hm _ _ q1⟩
theorem CJ:Ao ["_law_pen_here","_law_many","_law_drawn","_law_number_here"] ["_law_pen_here","_law_many"] (Af (top 64)):=fsc
theorem IW{f:aa}{fd:ag}(F:Fun K "_law_draw" "_law_draw" (top 64) f fd)(hT:P.given.tree=none) :
 Ay P w K mg base CX0 33 f fd ["_law_pen_here","_law_many"] (Iw):=by
 refine F.ok CJ (fun vs H Q E h=>?_) (fun ak A outer s H vs Q E hr h=>?_)
 ·obtain⟨_,_,rfl,_⟩:=h;rfl
 refine⟨_,(Ad (K:=K) (FH (Ah AF (Aj (ixL K) (pv 0) Ac (fun u v=>rfl)) Ac) (FI (pv 0) Ac Dj))
  (Ad (K:=K) (AG (K:=K) (Ap D4 (Aj (ixL K) (pv 0) Ac (fun u v=>rfl)) Ac (As _)) (Ad (K:=K) (Ai (i:=2) CJ.nd rfl (Or.inl rfl) (Ah CC (Aj (ixL K) (pv 0) Ac (fun u v=>rfl)) (pv 1)))
  (Ad (K:=K) (FH (Ah (BA hr hT) (Aj (ixL K) (pv 0) Ac (fun u v=>rfl)) (pv 1)) (FI (pv 0) Ac Dj))
  (Ag (Ar (pv 2))) (by rfl)) (by rfl)) Az (by rfl) (by rfl))
  (Ad (K:=K) (Ai (i:=3) CJ.nd rfl (Or.inl rfl) (Ah CC (Ah Aq (Ah AF (Ah AF (Aj (ixL K) (pv 0) Ac (fun u v=>rfl)) (Ah Aq Ac (Aj (ixL K) (pv 0) Ac (fun u v=>rfl)))) Ac) Ac) Ac))
  (Ad (K:=K) (Ai (i:=3) CJ.nd rfl (Or.inl rfl) (Ah CC (Ah Aq (pv 3) (Ah AF (Ah AF (Ah CC (pv 3) Ac) (Aj (ixL K) (pv 0) Ac (fun u v=>rfl))) Ac)) Ac))
  (Ag (Ar (Ah CC (Ah (BA hr hT) (Ah CC (Ah Aq (pv 3) (Ah AF (Ah CC (pv 3) Ac) Ac)) Ac) Ac) (pv 1)))) (by rfl)) (by rfl)) (by rfl)) (by rfl)),?_⟩
 obtain⟨a,m,rfl,⟨c0,c1,c2,hp⟩,h1,h2,q0⟩:=h;have q:∀d W Y:Int,0<=d->d<m->Q (.int d) (upd H a (.lst [.int W,.int c1,.int Y])):=fun d _ _ O J=>q0 d _ O J .put .put;have hm:m≠0:=by lia
 have q':∀(o:HO) (d W Y:Int),0<=d->d<m->Q (.int d) (upd (upd H a o) a (.lst [.int W,.int c1,.int Y])):=fun o d W Y O J=>by rw[NY];exact q d W Y O J
 refine⟨_,Z,a,_,_,_,Z,Z,SqL.of hp,Z,_,_,Z,Z,_,Z,a,_,_,_,Z,Z,hp,Z,?_⟩;refine⟨_,Z,a,_,_,_,Z,Z,SqL.of Aa,Z,_,_,Z,Z,_,Z,?_⟩;refine KC (fun c=>?_) (fun c=>?_)
 ·refine⟨_,Z,a,_,_,_,Z,Z,SqL.of Aa,Z,_,Z,_,_,Z,Z,(by lia:0<m),?_⟩
  refine⟨_,Z,a,_,_,_,Z,Z,SqL.of Aa,Z,_,Z,_,_,Z,Z,hm,_,Z,a,_,_,_,Z,Z,Aa,Z,?_⟩;refine⟨_,Z,?_⟩;exact q' _ _ _ _ (W3 _ (by lia)) (W4 _ (by lia))
 ·have cl:∀z:Int,0<z->(0:Int)<z:=fun _ h=>h;refine⟨_,Z,a,_,_,_,Z,Z,SqL.of Aa,Z,_,Z,a,_,_,_,Z,Z,SqL.of Aa,Z,_,_,Z,Z,.inl ⟨by decide,by decide⟩,_,_,Z,Z,_,_,Z,Z,_,_,Z,Z,.inr (.inl ⟨by decide,by decide⟩),_,_,Z,Z,(by first | decide | (dsimp only;decide)),?_⟩
  have n1:=W3 ((c1+40503*(c2+1)+1)*48271) (show(2147483647:Int)≠0 by decide)
  have n2:=W4 ((c1+40503*(c2+1)+1)*48271) (show(0:Int)<2147483647 by decide)
  generalize hN:(c1+40503*(c2+1)+1)*48271 % 2147483647=N at n1 n2;refine⟨_,Z,_,Z,_,_,Z,Z,(by first | decide | (dsimp only;decide)),_,Z,a,_,_,_,Z,Z,SqL.of Aa,Z,_,_,Z,Z,_,_,Z,Z,_,_,Z,Z,.inl ?_,_,_,Z,Z,(by first | decide | (dsimp only;decide)),?_⟩
  ·(try rw[hN]);lia
  try rw[hN]
  have n3:=W3 (N*(N % 65521+(c2+1)+3)) (show(2147483629:Int)≠0 by decide)
  have n4:=W4 (N*(N % 65521+(c2+1)+3)) (show(0:Int)<2147483629 by decide)
  generalize N*(N % 65521+(c2+1)+3) % 2147483629=M at n3 n4;refine⟨_,Z,_,Z,_,_,Z,Z,(by first | decide | (dsimp only;decide)),_,_,Z,Z,_,_,Z,Z,.inl ⟨by lia,by lia⟩,_,_,Z,Z,(by first | decide | (dsimp only;decide)),_,_,Z,Z,(by first | decide | (dsimp only;decide)),_,Z,_,_,Z,Z,(by lia:0<m),?_⟩
  exact q _ _ _ (W3 _ (by lia)) (W4 _ (by lia))
theorem GH:Ao ["_law_pen_here"] ["_law_pen_here"] (Af (top 67)):=fsc
theorem GW{f:aa}{fd:ag}(F:Fun K "_law_number" "_law_number" (top 67) f fd)(Sa:Fd P w K mg base 33 "_law_lowest" ["_law_top","_law_bottom"] (Eu))(W:Fd P w K mg base 33 "_law_draw" ["_law_pen_here","_law_many"] (Iw))(hT:P.given.tree=none) :
 Ay P w K mg base CX0 34 f fd ["_law_pen_here"] (MD 8):=by
 refine F.ok GH (fun vs H Q E h=>?_) (fun al A outer s H vs Q E Y h=>?_)
 ·obtain⟨_,rfl,_⟩:=h;rfl
 refine⟨_,(Ad (K:=K) (AG (K:=K) (Ap D4 (Al W Y rfl (A0 (pv 0) (A0 Ac Ab))) Ac (As _)) (Ag (Ar (Al Sa Y rfl (A0 (Ah AS (Al W Y rfl (A0 (pv 0) (A0 Ac Ab))) Ac) (A0 (Ah AF Ac (Al W Y rfl (A0 (pv 0) (A0 (Aj (ixL K) (AE (A0 Ac (A0 Ac Ab))) (Al W Y rfl (A0 (pv 0) (A0 Ac Ab))) (fun u v=>rfl)) Ab)))) Ab))))) Az (by rfl) (by rfl))
  (Ag (Ar (Al Sa Y rfl (A0 (Ah AS (Al W Y rfl (A0 (pv 0) (A0 Ac Ab))) Ac) (A0 (Ah AF Ac (Al W Y rfl (A0 (pv 0) (A0 Ac Ab)))) Ab))))) (by rfl)),?_⟩
 obtain⟨a,rfl,pn,q⟩:=h;have J:∀x:Int,-200<x->x<200->Bd 8 x:=fun x h1 h2=>by unfold Bd;lia
 refine⟨_,Z,a,6,Z,pn,by decide,by decide,fun w H1 w0 w1 o1 p1=>⟨_,_,Z,Z,_,Z,?_⟩⟩
 refine KC (fun c=>?_) (fun c=>?_)
 ·refine⟨_,Z,a,19,Z,p1,by decide,by decide,fun d H2 d0 d1 o2 p2=>⟨_,_,Z,Z,?_⟩⟩
  refine⟨_,Z,(by decide:2<=af),fun l hl=>?_⟩
  refine⟨_,Z,a,2,Z,p2.same hl,by decide,by decide,fun e H3 e0 e1 O p3=>?_⟩
  obtain⟨v,hv,hm⟩:=(OF (xs:=[1,4]) (i:=e) e0 e1);have an:1<=v/\v<=4:=by simp at hm;lia
  have ak:H3 l=some (.lst [.int 1,.int 4]):=by
   refine Gk p2 fun x0 x1 x2 ex=>?_;rw[O l (Av ex hl).symm];exact Aa
  refine⟨l,_,_,_,Z,Z,SqL.of ak,hv,a,v,Z,p3,by lia,by lia,fun g H4 g0 g1 o4 p4=>⟨_,_,Z,Z,_,_,Z,by lia,fun r Y=>?_⟩⟩
  exact q _ r _ (o1.mv.trans (o2.mv.trans ((Mv.new hl).trans (O.mv.trans (o4.mv.trans (Mv.new Y)))))) (p4.same Y) Aa (Bd.num (J _ (by lia) (by lia))) (Bd.den (by lia) (J _ (by lia) (by lia)))
 ·refine⟨_,Z,a,199,Z,p1,by decide,by decide,fun d H2 d0 d1 o2 p2=>⟨_,_,Z,Z,?_⟩⟩
  refine⟨_,Z,a,9,Z,p2,by decide,by decide,fun e H3 e0 e1 O p3=>⟨_,_,Z,Z,_,_,Z,by lia,fun r Y=>?_⟩⟩
  exact q _ r _ (o1.mv.trans (o2.mv.trans (O.mv.trans (Mv.new Y)))) (p3.same Y) Aa (Bd.num (J _ (by lia) (by lia))) (Bd.den (by lia) (J _ (by lia) (by lia)))
theorem IC:Ao ["_law_a","_law_b"] ["_law_a","_law_b"] (Af (top 66)):=fsc
theorem IV{f:aa}{fd:ag}(F:Fun K "_law_plus" "_law_plus" (top 66) f fd)(Sa:Fd P w K mg base 33 "_law_lowest" ["_law_top","_law_bottom"] (Eu))(hT:P.given.tree=none) :
 Ay P w K mg base CX0 34 f fd ["_law_a","_law_b"] (FX K (· + ·)):=by
 refine F.ok IC (fun vs H Q E h=>?_) (fun ak A outer s H vs Q E Y h=>?_)
 ·obtain⟨_,_,_,_,_,_,rfl,_⟩:=h;rfl
 refine⟨_,(Ag (Ar (Al Sa Y rfl (A0 (Ah AF (Ah Aq (Aj (ixT K) (pv 0) Ac (fun u v=>rfl)) (Aj (ixT K) (pv 1) Ac (fun u v=>rfl))) (Ah Aq (Aj (ixT K) (pv 1) Ac (fun u v=>rfl)) (Aj (ixT K) (pv 0) Ac (fun u v=>rfl)))) (A0 (Ah Aq (Aj (ixT K) (pv 0) Ac (fun u v=>rfl)) (Aj (ixT K) (pv 1) Ac (fun u v=>rfl))) Ab))))),?_⟩;obtain⟨x,y,p,q,m,n,rfl,⟨r,rfl,Y⟩,⟨u,rfl,W⟩,J,O,al,k⟩:=h;refine⟨_,Z,r,_,_,_,Z,Z,Y,Z,_,Z,u,_,_,_,Z,Z,W,Z,_,_,Z,Z,Bx.bd J.1 O.2,_,Z,u,_,_,_,Z,Z,W,Z,_,Z,r,_,_,_,Z,Z,Y,Z,_,_,Z,Z,Bx.bd O.1 J.2,_,_,Z,Z,?_⟩;refine⟨_,Z,r,_,_,_,Z,Z,Y,Z,_,Z,u,_,_,_,Z,Z,W,Z,_,_,Z,Z,Bx.bd J.2 O.2,?_⟩;refine⟨_,_,Z,V9 (Nm.den_ne p) (Nm.den_ne q),fun z hz=>?_⟩;have e:=k z hz
 try dsimp only at e
 rw[<- Nm.plus_eq]at e;exact e
theorem BY:Ao ["_law_pen_here","_law_many","_law_found","_law_k","_law_x"] ["_law_pen_here","_law_many"] (Af (top 68)):=fsc
theorem GV{f:aa}{fd:ag}(F:Fun K "_law_places" "_law_places" (top 68) f fd)(SU:Fd P w K mg base 34 "_law_number" ["_law_pen_here"] (MD 8))(SV:Fd P w K mg base 34 "_law_plus" ["_law_a","_law_b"] (FX K (· + ·)))(RG:mg "range" = none)(hT:P.given.tree=none) :
 Ay P w K mg base CX0 35 f fd ["_law_pen_here","_law_many"] (FE K 8):=by
 refine F.ok BY (fun vs H Q E h=>?_) (fun bt A outer s H vs Q E hr h=>?_)
 ·obtain⟨_,_,rfl,_⟩:=h;rfl
 refine⟨_,(Ad (K:=K) (Ai (i:=2) BY.nd rfl (Or.inl rfl) (AE Ab))
  (Ad (K:=K) (Ba (K:=K) PassesOwn.never rfl (Bj rfl RG (A0 (pv 1) Ab)) (Ax (i:=3) BY.nd rfl (Or.inl rfl)) (Ad (K:=K) (Ai (i:=4) BY.nd rfl (Or.inl rfl) (Al SU hr rfl (A0 (pv 0) Ab)))
  (Ad (K:=K) (F0 PassesOwn.never (Ap (inD K hr) (pv 4) (pv 2) (by with_unfolding_all rfl)) (Ag (Ai (i:=4) BY.nd rfl (Or.inl rfl) (Al SV hr rfl (A0 (pv 4) (A0 (AL (A0 Ac (A0 Ac Ab))) Ab))))))
  (Ag (BG (E6 K PySem.F.plainAttrs_list PySem.F.slot_list_append PySem.F.type_list_append CM (pv 2) (A0 (pv 4) Ab)))) (by rfl)) (by rfl)) (by rfl))
  (Ag (Ar (pv 2))) (by rfl)) (by rfl)),?_⟩
 obtain⟨a,m,rfl,pn,h0,bp,q⟩:=h;have P0:0<=af:=by decide
 have P2:2<=af:=by decide
 refine⟨P0,fun l hl=>?_⟩;have la:l≠a:=pn.ne' hl;obtain⟨M,hM⟩:∃M:Nat,(M:Int)=m:=⟨m.toNat,by lia⟩
 subst hM;refine⟨_,Z,(M:Int),Z,by lia,by lia,?_⟩
 rw[UM];refine C5 (n:=M) (L4 a H M l fun a H M l i σ H'=>Mv a H H'/\Pen H' a/\∃zs qs z3 z4,σ=[some (.ref a),some (.int (M:Int)),some (.ref l),z3,z4]/\H' l=some (.lst zs)/\Aw H' zs qs/\qs.length=i/\qs.Nodup/\∀q∈qs,RB (8+8) q) ⟨Mv.new hl,pn.same hl,[],[],none,none,Z,Aa,.nil,Z,V0,(fun _ h=>nomatch h)⟩ ?_ ?_
 ·rintro i σ H' hi bf;refine C2 bf fun mv O bc=>?_;refine Nl bc fun zs qs z3 z4 ak=>?_;clear bc;refine NK ak fun bg el hz aC ap hb=>?_;clear ak;obtain rfl:=bg
  try clear bf
  refine⟨_,Z,a,Z,O,fun x0 r H3 m3 p3 hr bn bd=>?_⟩;have a0:=m3 _ _ la el;have bb:=Aw.mv hz O m3;have bq:=hz.length
  refine⟨fun μ σ H4=>Ae H3 H4/\∃(r:aa) (x:Rat) (j:Nat),σ=[some (.ref a),some (.int (M:Int)),some (.ref l),some (.int (0+(i:Int))),some (.ref r)]/\H4 r=some (nT x)/\x=x0+(j:Rat)/\μ=cnt x qs/\j+cnt x qs<=qs.length,
   ⟨_,Ae.refl _,r,x0,0,Z,hr,(by have z:((0:Nat):Rat)=0:=rfl;rw[z];grind),Z,by have:=NA x0 qs;lia⟩,?_⟩
  rintro μ σ H4 be;refine C7 be fun s4 an=>?_;refine Gk an fun r' x j W=>?_;clear an;refine Eh W fun bl as hx bh hj=>?_;clear W;obtain rfl:=bl;obtain rfl:=bh
  try clear be
  have aF:RB (8+8) x:=by
   rw[hx];exact(RB.plus ⟨bn,bd⟩ (Pb (j:=j) (by lia))).mono (by lia)
  refine⟨_,Z,_,Z,?_⟩;refine inN (AD.of as) (SqL.of (s4 _ _ a0)) (Aw.same bb s4).nums ?_;refine⟨_,Z,?_⟩;by_cases hin:x∈qs
  ·refine AV (by rw[decide_eq_true hin]<;>rfl) ⟨_,fun _ _ h=>h,?_⟩
   refine⟨_,Z,P2,fun t ht=>⟨_,_,_,_,8+8,1,Z,AD.of ((Ae.new ht) _ _ as),AD.of (Aa (o:=nT 1)),aF,RB.one (by decide),by lia,fun u hu=>?_⟩⟩
   refine⟨_,KI hin,(s4.trans (Ae.new ht)).trans (Ae.new hu),u,x+1,j+1,Z,Aa,?_,Z,by have:=KI hin;lia⟩
   rw[hx,Rat.natCast_add];have z:((1:Nat):Rat)=1:=rfl;rw[z];grind
  ·refine AK (by rw[decide_eq_false hin]<;>rfl) ?_
   have J:=s4 _ _ a0;refine⟨_,Z,.inl ⟨Z,_,SqL.of J⟩,_,Z,l,zs,.ref r',Z,Z,J,TX (show zs.length<300 by lia) (by decide),?_⟩
   refine⟨Mv.put' ((mv.trans m3).trans s4.mv) hl,(p3.sm s4).put' la,zs++[.ref r'],qs++[x],_,_,Z,Aa,Paired.snoc (Aw.put (Aw.same bb s4) J) (Fw.put ⟨_,Z,as⟩ J),by simp[aC],?_,fun c hc=>?_⟩
   ·rw[X1];exact⟨ap,by simp,fun b hb c hc=>by rw[Vx.mp hc];exact fun z=>hin (z ▸ hb)⟩
   ·rcases Uc.mp hc with z | z
    ·exact hb c z
    ·rw[Vx.mp z];exact aF
 ·rintro σ H' aP;refine C2 aP fun mv O al=>?_;refine Nl al fun zs qs z3 z4 Y=>?_;clear al;refine NK Y fun ba el hz aC ap hb=>?_;clear Y;obtain rfl:=ba
  try clear aP
  exact⟨_,Z,q l H' zs qs mv O hl el hz (by rw[aC]) ap hb⟩
theorem BI:Ao ["_law_asked","_law_error","e","_law_marks"] ["_law_asked"] (Af (top 69)):=fsc
theorem Gj{f:aa}{fd:ag}(F:Fun K "_law_refused" "_law_refused" (top 69) f fd){a0 J Y ak aP an W al O as aF:aa}(bb:mg "CurveError" = some (.ref a0))(bp:mg "TooMany" = some (.ref J))(bd:mg "NoPoints" = some (.ref Y))(bh:mg "NoPoint" = some (.ref ak))(be:mg "NoNumber" = some (.ref aP))(bn:mg "NoCurve" = some (.ref an))(bc:mg "NoStretch" = some (.ref W))(bf:mg "TooDeep" = some (.ref al))(bt:mg "TooFew" = some (.ref O))(bq:mg "NoText" = some (.ref as))(bx:mg "NoRow" = some (.ref aF))(xm_NoPoints:Wt K (.ref Y) (.ref a0)=some true)(ap:OJ K Y [J,Y,ak,aP,an,W,al,O,as,aF] 1)(ka_NoPoints:X3 K (.ref Y) [.ref an,.ref ak,.ref aF,.ref W,.ref as,.ref al,.ref J]=some false)(xm_TooFew:Wt K (.ref O) (.ref a0)=some true)(aC:OJ K O [J,Y,ak,aP,an,W,al,O,as,aF] 7)(ka_TooFew:X3 K (.ref O) [.ref an,.ref ak,.ref aF,.ref W,.ref as,.ref al,.ref J]=some false)(RT:mg "isinstance" = none)(Se:mg "ValueError" = none)(bF:mg "sum" = none)(RO:mg "int" = none)(hT:P.given.tree=none) :
 Ay P w K mg base CX0 48 f fd ["_law_asked"] (Iu P w K mg base 47 Y O):=by
 refine F.ok BI (fun vs H Q E h=>?_) (fun bG A outer s H vs Q E hr h=>?_)
 ·obtain⟨_,_,_,_,rfl,_⟩:=h;rfl
 refine⟨_,(Ad (K:=K) (Ai (i:=1) BI.nd rfl (Or.inl rfl) MS)
  (Ad (K:=K) (Of hr (pv 0) rfl bb BI.nd (i:=2) rfl rfl rfl rfl (fun _=>(Ag (Ai (i:=1) BI.nd rfl (Or.inl rfl) (pv 2)))))
  (Ad (K:=K) (AG (K:=K) (Ap Py (pv 1) MS (As _)) (Ag (Ar AO)) Az (by rfl) (by rfl))
  (Ad (K:=K) (AG (K:=K) (GK (Ak (N9 K) rfl RT Cc (A0 (pv 1) (A0 (AL (A0 (AZ (v:=.ref an) rfl bn rfl) (A0 (AZ (v:=.ref ak) rfl bh rfl) (A0 (AZ (v:=.ref aF) rfl bx rfl) (A0 (AZ (v:=.ref W) rfl bc rfl) (A0 (AZ (v:=.ref as) rfl bq rfl) (A0 (AZ (v:=.ref al) rfl bf rfl) (A0 (AZ (v:=.ref J) rfl bp rfl) Ab)))))))) Ab)))) (Ag (Ar AO)) Az (by rfl) (by rfl))
  (Ad (K:=K) (Ai (i:=3) BI.nd rfl (Or.inl rfl) (AE (A0 (Ak (N9 K) rfl RT Cc (A0 (pv 1) (A0 (AZ (v:=.ref aP) rfl be rfl) Ab))) (A0 (Ak (N9 K) rfl RT Cc (A0 (pv 1) (A0 (AZ (v:=.ref Y) rfl bd rfl) Ab))) (A0 (Ak (N9 K) rfl RT Cc (A0 (pv 1) (A0 (AZ (v:=.ref O) rfl bt rfl) Ab))) Ab)))))
  (Ad (K:=K) (AG (K:=K) (PW.pt (GJ (IE (GK (Ak (N9 K) rfl RT Cc (A0 (pv 1) (A0 (Og (v:=.ty "ValueError") rfl Se HE rfl) Ab))))) (EG (Ap E8 (Ak (Ml rfl) rfl bF Qg (A0 (CB rfl (N:=["_law_one"]) (nt:=1) (js:=[]) (AW.look (NX:=["_law_asked","_law_error","e","_law_marks"]) (sc:=Af (top 69)) rfl rfl (by decide +kernel)) (piL K (pv 3)) (fun u1 u2 u3 u4 u5=>(Ax (i:=0) (show List.Nodup (["_law_one"]:List Str) from by decide +kernel) rfl (Or.inl rfl))) (AJ (by decide)) (fun u1 u2 u3 u4 u5=>Bz) (fun u1 u2 u3 u4 u5=>(Ck Eo rfl RO J8 (A0 (pv 0) Ab)))) Ab)) Ac (As _))))) (Ag (Ar AO)) Az (by rfl) (by rfl))
  (Ag (Ar (Aj (ixL K) (AE (A0 AO (A0 AO (A0 AO Ab)))) (E6 K PySem.F.plainAttrs_list PySem.F.slot_list_index PySem.F.type_list_index (M9 K hr) (pv 3) (A0 GR Ab)) (fun u v=>rfl)))) (by rfl)) (by rfl)) (by rfl)) (by rfl)) (by rfl)) (by rfl)),?_⟩
 obtain⟨f,o,t,R,rfl,⟨fd,sp,F,B,hf,hL⟩,hw,q⟩:=h;refine⟨f,fd,Z,hf,_,_,F,B,hL _ _ (fun r H1 m1 ho=>?_) fun C H1 m1 ho=>?_⟩
 ·rcases hw with ⟨_,rfl⟩ | ⟨z,_⟩ | ⟨z,_⟩
  ·exact⟨_,Z,Z,_,Z,AV (decide_eq_true rfl) (q _ _ m1 (Ae.refl _))⟩
  ·rw[z]at ho;cases ho
  ·rw[z]at ho;cases ho
 rcases hw with ⟨z,_⟩ | ⟨z,rfl⟩ | ⟨z,rfl⟩
 ·rw[z]at ho;cases ho
 ·cases z.symm.trans ho;refine⟨xm_NoPoints,fun ea bD=>?_⟩;have s1:Ae H1 (upd H1 ea (hoX ea (.ref Y))):=Ae.new bD;have ex:(upd H1 ea (hoX ea (.ref Y))) ea=some (hoX ea (.ref Y)):=Aa;generalize upd H1 ea (hoX ea (.ref Y))=H2 at s1 ex ⊢;refine⟨_,Z,?_⟩;refine⟨_,Z,Z,_,Z,AK (decide_eq_false fun z=>by cases z) ?_⟩
  refine⟨_,Z,(by decide:7<=af),fun t ht=>?_⟩
  have s2:=s1.trans (Ae.new (o:=.tup [.ref an,.ref ak,.ref aF,.ref W,.ref as,.ref al,.ref J]) ht);have ba:=(Ae.new (o:=.tup [.ref an,.ref ak,.ref aF,.ref W,.ref as,.ref al,.ref J]) ht) _ _ ex;refine⟨ea,Y,false,ba,ap.ty,.inr ⟨t,_,_,Z,Aa,Z,ka_NoPoints⟩,_,Z,EJ ?_⟩;clear ex s1;generalize upd H2 t (.tup [.ref an,.ref ak,.ref aF,.ref W,.ref as,.ref al,.ref J])=H3 at s2 ba ⊢;refine⟨_,Z,ea,Y,false,ba,ap.ty,.inl ⟨_,_,Z,Z,ap.of 3 _ rfl⟩,_,Z,ea,Y,true,ba,ap.ty,.inl ⟨_,_,Z,Z,ap.of 1 _ rfl⟩,_,Z,ea,Y,false,ba,ap.ty,.inl ⟨_,_,Z,Z,ap.of 7 _ rfl⟩,(by decide:3<=af),fun l hl=>?_⟩
  have s4:=s2.trans (Ae.new (o:=.lst [.bl false,.bl true,.bl false]) hl);have bC:=(Ae.new (o:=.lst [.bl false,.bl true,.bl false]) hl) _ _ ba;have el:(upd H3 l (.lst [.bl false,.bl true,.bl false])) l=some (.lst [.bl false,.bl true,.bl false]):=Aa;generalize upd H3 l (.lst [.bl false,.bl true,.bl false])=H4 at s4 bC el ⊢;refine⟨_,Z,ea,Y,true,bC,ap.ty,.inl ⟨_,_,Z,Z,ap.ve⟩,_,Z,EJ ?_⟩;refine Cb ⟨_,Z,l,Z,⟨_,SqL.of el⟩,?_⟩;refine Dg (xs:=[.bl false,.bl true,.bl false]) (fun i zs H'=>H'=H4/\zs=[V.int 0,V.int 1,V.int 0].take i) ⟨Z,Z⟩ (fun i zs H' hi h=>⟨by rw[h.1];exact SqL.of el,by rw[h.2,Uy];exact UN hi⟩) (by decide) ?_ ?_
  ·rintro i x zs H' hx ⟨rfl,rfl⟩
   rcases i with _ | _ | _ | i
   ·cases hx;exact⟨_,Z,.inr ⟨_,Z,Z,Z⟩⟩
   ·cases hx;exact⟨_,Z,.inr ⟨_,Z,Z,Z⟩⟩
   ·cases hx;exact⟨_,Z,.inr ⟨_,Z,Z,Z⟩⟩
   ·cases hx
  rintro zs H' ⟨rfl,rfl⟩ p hp;have s5:=s4.trans (Ae.new (o:=.lst [.int 0,.int 1,.int 0]) hp);have bu:=(Ae.new (o:=.lst [.int 0,.int 1,.int 0]) hp) _ _ el;have ep:(upd H' p (.lst [.int 0,.int 1,.int 0])) p=some (.lst [.int 0,.int 1,.int 0]):=Aa;clear el;rw[show List.take ([.bl false,.bl true,.bl false]:List V).length [V.int 0,V.int 1,V.int 0]=[V.int 0,V.int 1,V.int 0] from rfl];generalize upd H' p (.lst [.int 0,.int 1,.int 0])=H5 at s5 bu ep ⊢;refine⟨p,[0,1,0],Z,ep,Z,_,Z,EJ ?_⟩;refine⟨(by decide:3<=af),fun l2 bw=>?_⟩
  have s6:=s5.trans (Ae.new (o:=.lst [.str "number",.str "points",.str "few"]) bw);have bg:=(Ae.new (o:=.lst [.str "number",.str "points",.str "few"]) bw) _ _ bu;have bB:(upd H5 l2 (.lst [.str "number",.str "points",.str "few"])) l2=some (.lst [.str "number",.str "points",.str "few"]):=Aa;generalize upd H5 l2 (.lst [.str "number",.str "points",.str "few"])=H6 at s6 bg bB ⊢;refine⟨_,Z,.inl ⟨Z,_,SqL.of bg⟩,l,.bl true,[.bool false,.bool true,.bool false],.bool true,1,Z,Z,?_,.bl true,Z,Z,by decide,⟨_,Z,Z⟩,fun i e h he=>by rcases i with _ | _ | i<;>first | (cases he;rfl) | lia,by decide,?_⟩
  ·refine .lst (SqL.of bg) rfl fun i x d h1 h2=>?_
   rcases i with _ | _ | _ | i
   ·cases h1;cases h2;exact .bl false
   ·cases h1;cases h2;exact .bl true
   ·cases h1;cases h2;exact .bl false
   ·cases h1
  exact⟨l2,_,_,_,Z,Z,SqL.of bB,Z,q _ _ m1 s6⟩
 ·cases z.symm.trans ho;refine⟨xm_TooFew,fun ea bD=>?_⟩;have s1:Ae H1 (upd H1 ea (hoX ea (.ref O))):=Ae.new bD;have ex:(upd H1 ea (hoX ea (.ref O))) ea=some (hoX ea (.ref O)):=Aa;generalize upd H1 ea (hoX ea (.ref O))=H2 at s1 ex ⊢;refine⟨_,Z,?_⟩;refine⟨_,Z,Z,_,Z,AK (decide_eq_false fun z=>by cases z) ?_⟩
  refine⟨_,Z,(by decide:7<=af),fun t ht=>?_⟩
  have s2:=s1.trans (Ae.new (o:=.tup [.ref an,.ref ak,.ref aF,.ref W,.ref as,.ref al,.ref J]) ht);have ba:=(Ae.new (o:=.tup [.ref an,.ref ak,.ref aF,.ref W,.ref as,.ref al,.ref J]) ht) _ _ ex;refine⟨ea,O,false,ba,aC.ty,.inr ⟨t,_,_,Z,Aa,Z,ka_TooFew⟩,_,Z,EJ ?_⟩;clear ex s1;generalize upd H2 t (.tup [.ref an,.ref ak,.ref aF,.ref W,.ref as,.ref al,.ref J])=H3 at s2 ba ⊢;refine⟨_,Z,ea,O,false,ba,aC.ty,.inl ⟨_,_,Z,Z,aC.of 3 _ rfl⟩,_,Z,ea,O,false,ba,aC.ty,.inl ⟨_,_,Z,Z,aC.of 1 _ rfl⟩,_,Z,ea,O,true,ba,aC.ty,.inl ⟨_,_,Z,Z,aC.of 7 _ rfl⟩,(by decide:3<=af),fun l hl=>?_⟩
  have s4:=s2.trans (Ae.new (o:=.lst [.bl false,.bl false,.bl true]) hl);have bC:=(Ae.new (o:=.lst [.bl false,.bl false,.bl true]) hl) _ _ ba;have el:(upd H3 l (.lst [.bl false,.bl false,.bl true])) l=some (.lst [.bl false,.bl false,.bl true]):=Aa;generalize upd H3 l (.lst [.bl false,.bl false,.bl true])=H4 at s4 bC el ⊢;refine⟨_,Z,ea,O,true,bC,aC.ty,.inl ⟨_,_,Z,Z,aC.ve⟩,_,Z,EJ ?_⟩;refine Cb ⟨_,Z,l,Z,⟨_,SqL.of el⟩,?_⟩;refine Dg (xs:=[.bl false,.bl false,.bl true]) (fun i zs H'=>H'=H4/\zs=[V.int 0,V.int 0,V.int 1].take i) ⟨Z,Z⟩ (fun i zs H' hi h=>⟨by rw[h.1];exact SqL.of el,by rw[h.2,Uy];exact UN hi⟩) (by decide) ?_ ?_
  ·rintro i x zs H' hx ⟨rfl,rfl⟩
   rcases i with _ | _ | _ | i
   ·cases hx;exact⟨_,Z,.inr ⟨_,Z,Z,Z⟩⟩
   ·cases hx;exact⟨_,Z,.inr ⟨_,Z,Z,Z⟩⟩
   ·cases hx;exact⟨_,Z,.inr ⟨_,Z,Z,Z⟩⟩
   ·cases hx
  rintro zs H' ⟨rfl,rfl⟩ p hp;have s5:=s4.trans (Ae.new (o:=.lst [.int 0,.int 0,.int 1]) hp);have bu:=(Ae.new (o:=.lst [.int 0,.int 0,.int 1]) hp) _ _ el;have ep:(upd H' p (.lst [.int 0,.int 0,.int 1])) p=some (.lst [.int 0,.int 0,.int 1]):=Aa;clear el;rw[show List.take ([.bl false,.bl false,.bl true]:List V).length [V.int 0,V.int 0,V.int 1]=[V.int 0,V.int 0,V.int 1] from rfl];generalize upd H' p (.lst [.int 0,.int 0,.int 1])=H5 at s5 bu ep ⊢;refine⟨p,[0,0,1],Z,ep,Z,_,Z,EJ ?_⟩;refine⟨(by decide:3<=af),fun l2 bw=>?_⟩
  have s6:=s5.trans (Ae.new (o:=.lst [.str "number",.str "points",.str "few"]) bw);have bg:=(Ae.new (o:=.lst [.str "number",.str "points",.str "few"]) bw) _ _ bu;have bB:(upd H5 l2 (.lst [.str "number",.str "points",.str "few"])) l2=some (.lst [.str "number",.str "points",.str "few"]):=Aa;generalize upd H5 l2 (.lst [.str "number",.str "points",.str "few"])=H6 at s6 bg bB ⊢;refine⟨_,Z,.inl ⟨Z,_,SqL.of bg⟩,l,.bl true,[.bool false,.bool false,.bool true],.bool true,2,Z,Z,?_,.bl true,Z,Z,by decide,⟨_,Z,Z⟩,fun i e h he=>by rcases i with _ | _ | i<;>first | (cases he;rfl) | lia,by decide,?_⟩
  ·refine .lst (SqL.of bg) rfl fun i x d h1 h2=>?_
   rcases i with _ | _ | _ | i
   ·cases h1;cases h2;exact .bl false
   ·cases h1;cases h2;exact .bl false
   ·cases h1;cases h2;exact .bl true
   ·cases h1
  exact⟨l2,_,_,_,Z,Z,SqL.of bB,Z,q _ _ m1 s6⟩
theorem Hv:Ao ["places"] ["places"] (Af (top 30)):=fsc
theorem HA{f:aa}{fd:ag}(F:Fun K "are_unlike" "are_unlike" (top 30) f fd)(RF:mg "len" = none)(Y:mg "set" = none)(hT:P.given.tree=none) :
 Ay P w K mg base CX0 33 f fd ["places"] (Ej K):=by
 refine F.ok Hv (fun vs H Q E h=>?_) (fun ak A outer s H vs Q E hr h=>?_)
 ·obtain⟨_,_,_,rfl,_⟩:=h;rfl
 refine⟨_,(Ag (Ar (DI Ex (Ak Mn rfl RF AB (A0 (Ck (Rr K rfl hr.units) rfl Y Qh (A0 (pv 0) Ab)) Ab)) (Ak (Bw K) rfl RF AB (A0 (pv 0) Ab)) (As _)))),?_⟩;obtain⟨l,ys,qs,rfl,hS,hn,O,q⟩:=h;have J:=hn.length;refine⟨_,Z,l,ys,qs,Z,hS,hn,O,fun p n al W hp=>⟨p,n,Z,Aa,by lia,?_⟩⟩
 have s1:Ae H (upd H p (NR p n)):=Ae.new hp;refine⟨_,Z,l,ys,Z,.inl (Ae.seq s1 hS),Z,?_⟩
 have e:decide (V.int ((n:Nat):Int)=V.int ((ys.length:Nat):Int))=decide qs.Nodup:=by
  by_cases h:qs.Nodup
  ·rw[decide_eq_true h,decide_eq_true (by rw[J,W.mpr h])]
  ·rw[decide_eq_false h,decide_eq_false (fun z=>h (W.mp (by injection z with z;rw[J]at z;exact Int.ofNat.inj z)))]
 rw[e];exact q _ s1
theorem DS:Ao ["places","fewest"] ["places","fewest"] (Af (top 31)):=fsc
theorem DT{f:aa}{fd:ag}(F:Fun K "check_places" "check_places" (top 31) f fd)(Sf:Fd P w K mg base 33 "are_unlike" ["places"] (Ej K))(RF:mg "len" = none){Y:Tok}(W:mg "MOST_TOLD" = some (.int 12 Y))(hT:P.given.tree=none) :
 Ay P w K mg base CX0 34 f fd ["places","fewest"] (CH K):=by
 refine F.ok DS (fun vs H Q E h=>?_) (fun ak A outer s H vs Q E hr h=>?_)
 ·obtain⟨_,_,_,_,rfl,_⟩:=h;rfl
 refine⟨_,(Ad (K:=K) (AG (K:=K) (PW.pt (GJ (Ap E9 (Ak (Bw K) rfl RF AB (A0 (pv 0) Ab)) (pv 1) (As _)) (EG (Ap D4 (Ak (Bw K) rfl RF AB (A0 (pv 0) Ab)) (AZ (v:=.int 12) rfl W ⟨_,Z⟩) (As _))))) (Ag Ca) Az (by rfl) (by rfl))
  (Ag (AG (K:=K) (IE (GK (Al Sf hr rfl (A0 (pv 0) Ab)))) (Ag Ca) Az (by rfl) (by rfl))) (by rfl)),?_⟩
 obtain⟨l,J,ys,qs,rfl,hS,hn,O,al,hf,q⟩:=h;have hl:=hn.length;refine⟨_,Z,l,ys,Z,.inl hS,_,Z,_,_,Z,Z,_,Z,?_⟩;refine AK (by rw[decide_eq_false (show ¬((ys.length:Int)<J) by lia)]<;>rfl) ?_
 refine⟨_,Z,l,ys,Z,.inl hS,_,_,Z,Z,_,Z,?_⟩;refine AK (by rw[decide_eq_false (show ¬((12:Int)<(ys.length:Int)) by lia)]<;>rfl) ?_
 exact⟨_,Z,l,ys,qs,Z,hS,hn,by lia,fun H' s=>⟨_,Z,AK (by rw[decide_eq_true O];rfl) (q H' s)⟩⟩
theorem FK{f:aa}{fd:ag}(F:Fun K "check_places" "check_places" (top 31) f fd){Y:aa}(W:Ja K "NoPoints" Y)(Sf:Fd P w K mg base 33 "are_unlike" ["places"] (Ej K))(RF:mg "len" = none){O:Tok}(J:mg "MOST_TOLD" = some (.int 12 O))(hT:P.given.tree=none) :
 Ay P w K mg base (CX2 P w) 34 f fd ["places","fewest"] (EE K Y):=by
 refine F.okY DS (fun vs H Q E h=>?_) (fun ap A outer s H vs Q E hr h=>?_)
 ·obtain⟨_,_,_,_,rfl,_⟩:=h;rfl
 refine⟨_,(BJ (AG (K:=K) (PW.pt (GJ (Ap E9 (Ak (Bw K) rfl RF AB (A0 (pv 0) Ab)) (pv 1) (As _)) (EG (Ap D4 (Ak (Bw K) rfl RF AB (A0 (pv 0) Ab)) (AZ (v:=.int 12) rfl J ⟨_,Z⟩) (As _))))) (Ag (Dq W rfl FT rfl (A0 AO Ab))) Az (by rfl) (by rfl))
  (BJ (AG (K:=K) (IE (GK (Al Sf hr rfl (A0 (pv 0) Ab)))) (Ag (Dq W rfl FT rfl (A0 AO Ab))) Az (by rfl) (by rfl))
  Dp)),?_⟩
 obtain⟨l,an,ys,qs,rfl,hS,hn,al,bad,q⟩:=h;have P1:1<=af:=by decide
 have hl:=hn.length;refine⟨_,Z,l,ys,Z,.inl hS,_,Z,_,_,Z,Z,_,Z,?_⟩;by_cases h0:(ys.length:Int)<an
 ·exact AV (decide_eq_true h0) (Ox ⟨P1,q H (Ae.refl _)⟩)
 refine AK (decide_eq_false h0) ?_;refine⟨_,Z,l,ys,Z,.inl hS,_,_,Z,Z,_,Z,?_⟩;by_cases h1:12<ys.length
 ·exact AV (decide_eq_true (by lia)) ⟨P1,q H (Ae.refl _)⟩
 refine AK (decide_eq_false (by lia)) ?_
 have ak:¬qs.Nodup:=by
  rcases bad with z | z | z
  ·lia
  ·lia
  ·exact z
 exact⟨_,Z,l,ys,qs,Z,hS,hn,al,fun H' s=>⟨_,Z,AV (by rw[decide_eq_false ak];rfl) ⟨P1,q H' s⟩⟩⟩
theorem Dk:Ao ["places","heights"] ["places","heights"] (Af (top 35)):=fsc
theorem Dr{f:aa}{fd:ag}(F:Fun K "check_heights" "check_heights" (top 35) f fd)(S2:Fd P w K mg base 34 "check_places" ["places","fewest"] (CH K))(J:mg "len" = none)(hT:P.given.tree=none) :
 Ay P w K mg base CX0 35 f fd ["places","heights"] (Co K):=by
 refine F.ok Dk (fun vs H Q E h=>?_) (fun ak A outer s H vs Q E hr h=>?_)
 ·obtain⟨_,_,_,_,_,rfl,_⟩:=h;rfl
 refine⟨_,(Ad (K:=K) (BG (Al S2 hr rfl (A0 (pv 0) (A0 Ac Ab))))
  (Ag (AG (K:=K) (Ap E8 (Ak (Bw K) rfl J AB (A0 (pv 1) Ab)) (Ak (Bw K) rfl J AB (A0 (pv 0) Ab)) (As _)) (Ag Ca) Az (by rfl) (by rfl))) (by rfl)),?_⟩
 obtain⟨lp,lh,zs,ys,qs,rfl,hS,hN,Y,h1,W,hH,hl,q⟩:=h;refine⟨_,Z,lp,1,zs,qs,Z,hS,hN,Y,W,by lia,fun H1 O=>?_⟩
 exact⟨_,Z,lh,ys,Z,.inl (Ae.seq O hH),_,Z,lp,zs,Z,.inl (Ae.seq O hS),Z,_,Z,AK (by rw[hl,decide_eq_true rfl];rfl) (q H1 O)⟩
theorem Fc{f:aa}{fd:ag}(F:Fun K "check_heights" "check_heights" (top 35) f fd){Y:aa}(O:Ja K "NoPoints" Y)(W:FdY P w K mg base 34 "check_places" ["places","fewest"] (fun vs H Q E=>(CH K:Sp) vs H Q E\/(EE K Y:Sp) vs H Q E))(S2:Fd P w K mg base 34 "check_places" ["places","fewest"] (CH K))(RF:mg "len" = none)(hT:P.given.tree=none) :
 Ay P w K mg base (CX2 P w) 35 f fd ["places","heights"] (DC K Y):=by
 refine F.okY Dk (fun vs H Q E h=>?_) (fun ak A outer s H vs Q E hr h=>?_)
 ·obtain⟨_,_,_,_,_,rfl,_⟩:=h;rfl
 refine⟨_,(BJ (BG (IG W hr rfl Ld (A0 (pv 0) (A0 Ac Ab))))
  (BJ (AG (K:=K) (Ap E8 (Ak (Bw K) rfl RF AB (A0 (pv 1) Ab)) (Ak (Bw K) rfl RF AB (A0 (pv 0) Ab)) (As _)) (Ag (Dq O rfl FT rfl (A0 AO Ab))) Az (by rfl) (by rfl))
  Dp)),?_⟩
 obtain⟨l,lh,zs,ys,qs,rfl,hS,hn,hH,J,bad,q⟩:=h;have P1:1<=af:=by decide
 have hl:=hn.length;by_cases hb:Es 1 qs
 ·exact⟨_,Z,.inr ⟨l,1,zs,qs,Z,hS,hn,J,hb,q⟩⟩
 obtain⟨b1,b2,b3⟩:=Dz hb;have al:ys.length≠qs.length:=bad.resolve_left hb;refine⟨_,Z,.inl ⟨l,1,zs,qs,Z,hS,hn,b3,b2,b1,fun H1 s1=>?_⟩⟩;exact⟨_,Z,lh,ys,Z,.inl (Ae.seq s1 hH),_,Z,l,zs,Z,.inl (Ae.seq s1 hS),Z,_,Z,AV (by rw[decide_eq_false (show ¬V.int ((ys.length:Nat):Int)=V.int ((zs.length:Nat):Int) from fun z=>by have:=V.int.inj z;lia)];rfl) ⟨P1,q H1 s1⟩⟩
theorem Bi:Ao ["tops","x","height","scale","top"] ["tops","x"] (Af (top 24)):=fsc
theorem Gg{f:aa}{fd:ag}(F:Fun K "whole_height" "whole_height" (top 24) f fd)(Sg:mg "reversed" = none)(hT:P.given.tree=none) :
 Ay P w K mg base CX0 33 f fd ["tops","x"] (O5 K):=by
 refine F.ok Bi (fun vs H Q E h=>?_) (fun bh A outer s H vs Q E hr h=>?_)
 ·obtain⟨_,_,_,_,_,_,rfl,_⟩:=h;rfl
 refine⟨_,(Ad (K:=K) (Ai (i:=2) Bi.nd rfl (Or.inl rfl) Ac)
  (Ad (K:=K) (Ai (i:=3) Bi.nd rfl (Or.inl rfl) Ac)
  (Ad (K:=K) (Ba (K:=K) PassesOwn.never rfl (QG K rfl Sg (pv 0)) (Ax (i:=4) Bi.nd rfl (Or.inl rfl)) (Ad (K:=K) (Ai (i:=2) Bi.nd rfl (Or.inl rfl) (Ah AF (Ah Aq (pv 2) (Aj (ixT K) (pv 1) Ac (fun u v=>rfl))) (Ah Aq (pv 4) (pv 3))))
  (Ag (Ai (i:=3) Bi.nd rfl (Or.inl rfl) (Ah Aq (pv 3) (Aj (ixT K) (pv 1) Ac (fun u v=>rfl))))) (by rfl)) (by rfl))
  (Ag (Ar (AL (A0 (Ah Aq (pv 2) (Aj (ixT K) (pv 1) Ac (fun u v=>rfl))) (A0 (pv 3) Ab))))) (by rfl)) (by rfl)) (by rfl)),?_⟩
 obtain⟨l,rx,ts,x,m,n,rfl,hS,⟨_,bc,hx⟩,hB,W,hz,q⟩:=h;cases bc;have tl:(ts.map V.int).length=ts.length:=UI _
 have bg:m+n*ts.length+4*n+ts.length+4<=100000000:=by
  have e:(n+1)*(ts.length+4)=n*ts.length+4*n+ts.length+4:=by rw[VD,VO];lia
  lia
 have P2:2<=af:=by decide
 refine⟨_,Z,_,Z,l,_,Z,hS,?_⟩
 refine OA (L7 H l rx x ts m n fun H l rx x ts m n i σ H'=>H'=H/\∃(h s:Int) (z:Option V),σ=[some (.ref l),some (.ref rx),some (.int h),some (.int s),z]/\s=(x.den:Int) ^ i/\s≠0 /\
  (h:Rat)*((x.den:Int):Rat)=Cv.evI (ts.drop (ts.length-i)) x*(s:Rat)/\Bd (m+n*i+i+2) h/\Bd (n*i+1) s)
  ⟨Z,0,1,none,Z,Z,by decide,?_,?_,?_⟩ (fun i σ H' _ p=>by rw[p.1];exact hS) ?_ ?_
 ·rw[VL,VZ (Uk _)];show((0:Int):Rat)*_=0*_;rw[WS];grind
 ·exact(show Bd 1 0 by unfold Bd;decide).mono (by lia)
 ·exact(show Bd 1 1 by unfold Bd;decide).mono (by lia)
 ·rintro i v σ H' hi hv bb;refine C7 bb fun as al=>?_;refine Gk al fun h s z J=>?_;clear al;refine NK J fun aC es hs0 he O Y=>?_;clear J;obtain rfl:=as;obtain rfl:=aC
  try clear bb
  rw[tl]at hi hv;have hj:ts.length-1-i<ts.length:=by lia
  have ap:ts[ts.length-1-i]? = some ts[ts.length-1-i]:=Vy hj;have a0:ts[ts.length-1-i]∈ts:=Vz hj;rw[UC,ap]at hv;cases hv;generalize ts[ts.length-1-i]=t at ap a0;have bt:=hB _ a0;have bf:n*i<=n*ts.length:=X0 n (by lia)
  have be:n*(i+1)=n*i+n:=by rw[VO,Nat.mul_one]
  refine⟨_,Z,_,Z,rx,_,_,_,Z,Z,hx,Z,_,_,Z,Z,Bx.bd O W.1 (by lia),_,Z,_,Z,_,_,Z,Z,Bx.bd bt Y (by lia),_,_,Z,Z,?_⟩
  refine⟨_,Z,_,Z,rx,_,_,_,Z,Z,hx,Z,_,_,Z,Z,Bx.bd Y W.2 (by lia),⟨Z,_,_,_,Z,?_,V9 hs0 (Nm.den_ne x),?_,?_,?_⟩⟩
  ·rw[es,VN]
  ·rw[J2 rfl hi ap,Cv.evI_cons,Rat.intCast_add,Va,Va,Va,Nm.num_mul x]
   grind
  ·have b1:=O.mul W.1;have b2:=bt.mul Y;exact(Bd.add (b1.mono (n:=m+n*i+i+2+n) (by lia)) (b2.mono (by lia))).mono (by lia)
  ·exact(Y.mul W.2).mono (by lia)
 ·rintro σ H' ba;refine C7 ba fun aF an=>?_;refine Gk an fun h s z ak=>?_;clear an;refine NK ak fun aP es hs0 he O Y=>?_;clear ak;obtain rfl:=aF;obtain rfl:=aP
  try clear ba
  rw[tl]at es he O Y;rw[VX,VJ]at he;refine⟨_,Z,_,Z,rx,_,_,_,Z,Z,hx,Z,_,_,Z,Z,Bx.bd O W.2 (by lia),_,Z,P2,fun p hp=>?_⟩
  exact q _ _ p es hs0 (by rw[Va];exact he) ((O.mul W.2).mono (by rw[VD,VO];lia)) Y hp
theorem GF:Ao ["pair","x","y","room"] ["pair","x","y"] (Af (top 37)):=fsc
theorem Kr{f:aa}{fd:ag}(F:Fun K "lack_at" "lack_at" (top 37) f fd)(Sb:Fd P w K mg base 33 "whole_height" ["tops","x"] (O5 K))(RF:mg "len" = none)(hT:P.given.tree=none) :
 Ay P w K mg base CX0 34 f fd ["pair","x","y"] (Kb K):=by
 refine F.ok GF (fun vs H Q E h=>?_) (fun a0 A outer s H vs Q E hr h=>?_)
 ·obtain⟨_,_,_,_,_,_,_,_,_,_,rfl,_⟩:=h;rfl
 refine⟨_,(Ad (K:=K) (Ai (i:=3) GF.nd rfl (Or.inl rfl) (Ah (BA hr hT) (Ak (Bw K) rfl RF AB (A0 (pv 0) Ab)) Ac))
  (Ag (Ar (Ah AS (Ah Aq (Aj (ixT K) (pv 2) Ac (fun u v=>rfl)) (Aj (ixT K) (Al Sb hr rfl (A0 (AU (slL K) (pv 0) Be (Bc (pv 3))) (A0 (pv 1) Ab))) Ac (fun u v=>rfl))) (Ah Aq (Aj (ixT K) (pv 2) Ac (fun u v=>rfl)) (Aj (ixT K) (Al Sb hr rfl (A0 (AU (slL K) (pv 0) (Bc (pv 3)) Be) (A0 (pv 1) Ab))) Ac (fun u v=>rfl)))))) (by rfl)),?_⟩
 obtain⟨l,rx,ry,ts,x,y,R,m,nx,ny,rfl,hS,hl,hx,⟨_,al,hy⟩,hB,bx,Y,hz,q⟩:=h;cases al;have aP:(nx+1)*(R+4)=(nx+1)*(R+2)+(nx+1)*2:=by rw[<- VO]
 generalize hP:(nx+1)*(R+2)=P at *;refine⟨_,Z,l,_,Z,.inl hS,_,_,Z,Z,by decide,?_⟩
 have eR:(((ts.map V.int).length:Nat):Int).fdiv 2=(R:Int):=by
  rw[UI,hl,WW _ (by decide)];lia
 rw[eR];have W:(ts.take R).length=R:=by rw[Uy];lia
 have O:(ts.drop R).length=R:=by rw[UP];lia
 refine⟨_,Z,ry,_,_,_,Z,Z,hy,Z,_,Z,_,Z,_,Z,l,_,Z,hS,fun p1 h1=>?_⟩;have c1:Cs (ts.map V.int) none (some (R:Int))=(ts.take R).map V.int:=by rw[CD,X4]
 rw[c1];have n1:=Ae.new (o:=.lst ((ts.take R).map V.int)) h1;have e1:(upd H p1 (.lst ((ts.take R).map V.int))) p1=some (.lst ((ts.take R).map V.int)):=Aa;generalize upd H p1 (.lst ((ts.take R).map V.int))=H1 at n1 e1 ⊢;refine⟨_,Z,p1,rx,ts.take R,x,m,nx,Z,SqL.of e1,hx.same n1,fun t ht=>hB t (WN ht),bx,by rw[W];lia,fun hN s p2 es hs0 an bN bs as=>?_⟩
 rw[W]at es bN bs;have n2:=Ae.new (o:=.tup [.int hN,.int s]) as;refine⟨p2,_,_,_,Z,Z,SqT.of Aa,Z,_,_,Z,Z,Bx.bd Y.2 bN (by lia),?_⟩
 have J:=n1.trans n2;generalize upd H1 p2 (.tup [.int hN,.int s])=H2 at J ⊢;refine⟨_,Z,ry,_,_,_,Z,Z,hy.same J,Z,_,Z,_,Z,_,Z,l,_,Z,Ae.seq J hS,fun p3 h3=>?_⟩;have c2:Cs (ts.map V.int) (some (R:Int)) none=(ts.drop R).map V.int:=by rw[Dy,List.map_drop]
 rw[c2];have n3:=J.trans (Ae.new (o:=.lst ((ts.drop R).map V.int)) h3);have e3:(upd H2 p3 (.lst ((ts.drop R).map V.int))) p3=some (.lst ((ts.drop R).map V.int)):=Aa;generalize upd H2 p3 (.lst ((ts.drop R).map V.int))=H3 at n3 e3 ⊢;refine⟨_,Z,p3,rx,ts.drop R,x,m,nx,Z,SqL.of e3,hx.same n3,fun t ht=>hB t (X5 ht),bx,by rw[O];lia,fun hD s' p4 es' aF ap bD ak aC=>?_⟩
 rw[O]at es' bD ak;have n4:=Ae.new (o:=.tup [.int hD,.int s']) aC;refine⟨p4,_,_,_,Z,Z,SqT.of Aa,Z,_,_,Z,Z,Bx.bd Y.1 bD (by lia),_,_,Z,Z,?_⟩
 refine q _ _ (n3.trans n4) ?_ ?_
 ·rw[Vb,Va,Va,an,ap,es',<- es,Va,Nm.num_mul y]
  grind
 ·exact Bd.sub (n:=m+P+ny) ((Y.2.mul bN).mono (by lia)) ((Y.1.mul bD).mono (by lia))
theorem EX:Ao ["pair","x"] ["pair","x"] (Af (top 38)):=fsc
theorem Ff{f:aa}{fd:ag}(F:Fun K "with_nought_at" "with_nought_at" (top 38) f fd)(RG:mg "range" = none)(RF:mg "len" = none)(hT:P.given.tree=none) :
 Ay P w K mg base CX0 33 f fd ["pair","x"] (Ir K):=by
 refine F.ok EX (fun vs H Q E h=>?_) (fun an A outer s H vs Q E hr h=>?_)
 ·obtain⟨_,_,_,_,_,_,rfl,_⟩:=h;rfl
 refine⟨_,(Ag (Ar (CB rfl (N:=["k","pair","x"]) (nt:=1) (js:=[0,1]) (AW.look (NX:=["pair","x"]) (sc:=Af (top 38)) rfl rfl (by decide +kernel)) (Bj rfl RG (A0 (Ak (Bw K) rfl RF AB (A0 (pv 0) Ab)) Ab)) (fun u1 u2 u3 u4 u5=>(Ax (i:=0) (show List.Nodup (["k","pair","x"]:List Str) from by decide +kernel) rfl (Or.inl rfl))) (AJ (by decide)) (fun u1 u2 u3 u4 u5=>Bz) (fun u1 u2 u3 u4 u5=>(Ah AS (Ah Aq (Aj (ixT K) (pv 2) Ac (fun u v=>rfl)) (Aj (ixL K) (pv 1) (Ah AS (pv 0) Ac) (fun u v=>rfl))) (Ah Aq (Aj (ixT K) (pv 2) Ac (fun u v=>rfl)) (Aj (ixL K) (pv 1) (pv 0) (fun u v=>rfl)))))))),?_⟩
 obtain⟨l,rx,ts,x,m,n,rfl,hS,⟨_,ak,hx⟩,h1,al,Y,hB,J,hz,q⟩:=h;cases ak;have tl:(ts.map V.int).length=ts.length:=UI _;refine Cb ⟨_,Z,l,_,Z,.inl hS,_,Z,by rw[tl];lia,by rw[tl];lia,?_⟩
 rw[UM,tl];refine Kx (L3 H x ts fun H x ts i zs G=>G=H/\zs=((U0 i).map fun k=>(x.den:Int)*(if k=0 then 0 else ts.getD (k-1) 0)-x.num*ts.getD k 0).map V.int) ⟨Z,Z⟩ (fun i zs G _ h=>by rw[h.2,UI,UI,W7]) (U7 (AA (by lia))) ?_ ?_
 ·rintro i zs G hi ⟨rfl,rfl⟩
  have W:atI (ts.map V.int) (0+(i:Int))=some (.int (ts.getD i 0)):=by
   rw[Int.zero_add];refine Bg ?_;rw[UC,Vy hi,Vs,Vy hi];rfl
  have O:atI (ts.map V.int) (0+(i:Int)-1)=some (.int (if i=0 then 0 else ts.getD (i-1) 0)):=by
   by_cases z:i=0
   ·subst z;rw[if_pos rfl]
    have:atI (ts.map V.int) (-1)=some (.int 0):=Eg (by
     rw[tl,UC,Vy (by lia)]
     rw[Vs,Vy (by lia)]at Y
     exact congrArg (fun t=>some (V.int t)) Y)
    exact this
   ·rw[if_neg z,show(0:Int)+(i:Int)-1=((i-1:Nat):Int) by lia]
    refine Bg ?_;rw[UC,Vy (by lia),Vs,Vy (by lia)];rfl
  have bp:Bd m (if i=0 then 0 else ts.getD (i-1) 0):=by
   split
   ·exact(show Bd 0 0 by unfold Bd;decide).mono (by lia)
   ·exact D9 hB _
  refine⟨_,Z,rx,_,_,_,Z,Z,hx,Z,_,Z,_,Z,_,_,Z,Z,l,_,_,_,Z,Z,hS,O,_,_,Z,Z,Bx.bd J.2 bp (by lia),?_⟩
  refine⟨_,Z,rx,_,_,_,Z,Z,hx,Z,_,Z,_,Z,l,_,_,_,Z,Z,hS,W,_,_,Z,Z,Bx.bd J.1 (D9 hB i) (by lia),_,_,Z,Z,Z,?_⟩
  rw[VT,Vk,Vk]
  rfl
 rintro zs G ⟨hG,rfl⟩ p hp;obtain rfl:H=G:=hG.symm;refine q p _ (Ae.new hp) Aa fun t ht=>?_;unfold shI at ht;obtain⟨k,_,rfl⟩:=(VU.mp ht)
 have bp:Bd m (if k=0 then 0 else ts.getD (k-1) 0):=by
  split
  ·exact(show Bd 0 0 by unfold Bd;decide).mono (by lia)
  ·exact D9 hB _
 exact Bd.sub (n:=m+n) ((J.2.mul bp).mono (by lia)) ((J.1.mul (D9 hB k)).mono (by lia))
theorem AY:Ao ["one","other","great","small","rest"] ["one","other"] (Af (top 13)):=fsc
theorem Fh{f:aa}{fd:ag}(F:Fun K "common_measure" "common_measure" (top 13) f fd)(RN:mg "abs" = none)(hT:P.given.tree=none) :
 Ay P w K mg base CX0 33 f fd ["one","other"] (Ji):=by
 refine F.ok AY (fun vs H Q E h=>?_) (fun ap A outer s H vs Q E hr h=>?_)
 ·obtain⟨_,_,rfl,_⟩:=h;rfl
 refine⟨_,(Ad (K:=K) (Ai (i:=2) AY.nd rfl (Or.inl rfl) (Ak Fu rfl RN J9 (A0 (pv 0) Ab)))
  (Ad (K:=K) (Ai (i:=3) AY.nd rfl (Or.inl rfl) (Ak Fu rfl RN J9 (A0 (pv 1) Ab)))
  (Ad (K:=K) (F0 PassesOwn.never (Ap E8 (pv 3) Ac (As _)) (Ad (K:=K) (Ai (i:=4) AY.nd rfl (Or.inl rfl) (Ah CC (pv 2) (pv 3)))
  (Ad (K:=K) (Ai (i:=2) AY.nd rfl (Or.inl rfl) (pv 3))
  (Ag (Ai (i:=3) AY.nd rfl (Or.inl rfl) (pv 4))) (by rfl)) (by rfl)))
  (Ag (Ar (pv 2))) (by rfl)) (by rfl)) (by rfl)),?_⟩
 obtain⟨a,b,rfl,q⟩:=h;refine⟨_,Z,a,Z,?_⟩;refine⟨_,Z,b,Z,?_⟩
 refine Jf (L3 H a b fun H a b σ H'=>H'=H/\∃(x y:Int) (r:Option V),σ=[some (.int a),some (.int b),some (.int x),some (.int y),r]/\0<=x/\0<=y/\V1 x y=V1 a b) (fun σ _=>mu 3 σ)
  ⟨Z,_,_,none,Z,?_,?_,?_⟩ ?_ ?_
 ·rw[Nm.abs_if];exact X2 _
 ·rw[Nm.abs_if];exact X2 _
 ·rw[Nm.abs_if,Nm.abs_if];rfl
 ·rintro σ H' an;refine C7 an fun O W=>?_;refine Gk W fun x y r Y=>?_;clear W;refine HH Y fun ak hx hy hg=>?_;clear Y;obtain rfl:=O;obtain rfl:=ak
  try clear an
  refine⟨_,Z,Z,_,Z,?_⟩;by_cases hy0:y=0
  ·subst hy0;refine AK (by rw[decide_eq_true rfl]<;>rfl) ⟨_,Z,?_⟩
   have e:(V1 a b:Int)=x:=by rw[<- hg,Int.gcd_zero];lia
   rw[e]at q;exact q
  ·refine AV (by rw[decide_eq_false (fun z=>hy0 (V.int.inj z))]<;>rfl) ?_
   have J:0<y:=by lia
   refine⟨_,Z,_,Z,_,_,Z,Z,J,?_⟩;refine⟨_,Z,_,Z,⟨Z,y,x % y,_,Z,hy,W3 _ hy0,?_⟩,?_⟩
   ·rw[Nm.gcd_turn];exact hg
   ·show(x % y).toNat<y.toNat;have:=W4 x J
    lia
 ·rintro σ H' Q1 Q2 hm al;obtain⟨v,e,s1,k,ek,q1⟩:=al
  try clear al
  exact⟨v,e,s1,k,ek,hm _ _ q1⟩
theorem BU:Ao ["tops","measure","top"] ["tops"] (Af (top 39)):=fsc
theorem Fe{f:aa}{fd:ag}(F:Fun K "without_common" "without_common" (top 39) f fd)(S3:Fd P w K mg base 33 "common_measure" ["one","other"] (Ji))(hT:P.given.tree=none) :
 Ay P w K mg base CX0 34 f fd ["tops"] (MB K):=by
 refine F.ok BU (fun vs H Q E h=>?_) (fun bc A outer s H vs Q E hr h=>?_)
 ·obtain⟨_,_,_,rfl,_⟩:=h;rfl
 refine⟨_,(Ad (K:=K) (Ai (i:=1) BU.nd rfl (Or.inr rfl) Ac)
  (Ad (K:=K) (Ba (K:=K) PassesOwn.never rfl (piL K (pv 0)) (Ax (i:=2) BU.nd rfl (Or.inl rfl)) (Ag (Ai (i:=1) BU.nd rfl (Or.inr rfl) (Al S3 hr rfl (A0 (pv 1) (A0 (pv 2) Ab))))) (by rfl))
  (Ag (Ar (CB rfl (N:=["top","measure"]) (nt:=1) (js:=[1]) (AW.look (NX:=["tops","measure","top"]) (sc:=Af (top 39)) rfl rfl (by decide +kernel)) (piL K (pv 0)) (fun u1 u2 u3 u4 u5=>(Ax (i:=0) (show List.Nodup (["top","measure"]:List Str) from by decide +kernel) rfl (Or.inl rfl))) (AJ (by decide)) (fun u1 u2 u3 u4 u5=>Bz) (fun u1 u2 u3 u4 u5=>(Ah (BA hr hT) (pv 0) (pv 1)))))) (by rfl)) (by rfl)),?_⟩
 obtain⟨l,ts,m,rfl,hS,ba,bb,hB,q⟩:=h;have tl:(ts.map V.int).length=ts.length:=UI _;refine⟨_,Z,l,Z,⟨_,hS⟩,Hk (xs:=ts.map V.int) (L3 H l ts fun H l ts i σ G=>G=H/\∃(g:Int) (z:Option V),σ=[some (.ref l),some (.int g),z]/\0<=g/\(∀t∈ts.take i,g∣t)/\(g=0->∀t∈ts.take i,t=0)) ⟨Z,0,none,Z,by decide,(fun _ h=>nomatch h),fun _ _ h=>nomatch h⟩ (fun i σ G _ h=>by rw[h.1];exact hS) ?_ ?_⟩
 ·rintro i v σ G O a0;refine C7 a0 fun ap al=>?_;refine CK al fun g z J=>?_;clear al;refine HH J fun aC g0 hg ak=>?_;clear J;obtain rfl:=ap;obtain rfl:=aC
  try clear a0
  rw[UC]at O;cases Y:ts[i]? with
  | none=>rw[Y]at O;cases O
  | some t =>
    rw[Y]at O;cases O;refine⟨_,Z,_,Z,g,t,Z,Z,_,_,Z,by lia,fun u hu=>?_,fun z u hu=>?_⟩
    ·rw[Vj,Y]at hu
     rcases Uc.mp hu with w | w
     ·exact Int.dvd_trans (V4 ..) (hg u w)
     ·rw[show u=t from Vx.mp w];exact V6 ..
    ·have z':V1 g t=0:=by lia
     rw[Int.gcd_eq_zero_iff]at z';rw[Vj,Y]at hu
     rcases Uc.mp hu with w | w
     ·exact ak z'.1 u w
     ·rw[show u=t from Vx.mp w];exact z'.2
 rintro σ G aP;refine C7 aP fun hG an=>?_;refine CK an fun g z W=>?_;clear an;refine HH W fun as g0 hg ak=>?_;clear W;obtain rfl:=as
 try clear aP
 obtain rfl:H=G:=hG.symm;rw[tl,Vl]at hg ak
 have aF:g≠0:=fun z=>by
  obtain⟨t,Y,hn⟩:=ba;exact hn (ak z t Y)
 refine Cb ⟨_,Z,l,Z,⟨_,hS⟩,?_⟩;refine Dg (xs:=ts.map V.int) (fun i zs G=>G=H/\zs=((ts.take i).map fun t=>t.fdiv g).map V.int) ⟨Z,Z⟩ (fun i zs G hi h=>⟨by rw[h.1];exact hS,by rw[h.2,UI,UI,Uy];lia⟩) (U7 (AA (by lia))) ?_ ?_
 ·rintro i v zs G O ⟨rfl,rfl⟩;rw[UC]at O;cases Y:ts[i]? with
  | none=>rw[Y]at O;cases O
  | some t =>
    rw[Y]at O;cases O;refine⟨_,Z,_,Z,_,_,Z,Z,aF,Z,?_⟩;rw[Vj,Y,Vk,Vk]
    rfl
 rintro zs G ⟨hG,rfl⟩ p hp;obtain rfl:H=G:=hG.symm;rw[tl,Vl];refine q p _ g _ (Ae.new hp) Aa aF (by rw[UI]) (fun j=>?_) fun t Y=>?_
 ·rw[Vs,Vs,UC];cases Y:ts[j]? with
  | none=>exact WM _
  | some t =>
    show g*t.fdiv g=t;rw[WW _ g0];exact Int.mul_ediv_cancel' (hg t (UG Y))
 ·obtain⟨u,hu,rfl⟩:=(VU.mp Y);rw[WW _ g0];have b:=hB u hu;unfold Bd at b ⊢;exact UY (Int.natAbs_ediv_le_natAbs ..) b
theorem Bl:Ao ["both","x","y","low","high","lack","other"] ["both","x","y"] (Af (top 40)):=fsc
theorem IU{f:aa}{fd:ag}(F:Fun K "both_with" "both_with" (top 40) f fd)(Sx:Fd P w K mg base 34 "lack_at" ["pair","x","y"] (Kb K))(Sy:Fd P w K mg base 33 "with_nought_at" ["pair","x"] (Ir K))(SW:Fd P w K mg base 34 "without_common" ["tops"] (MB K))(RI:mg "zip" = none)(hT:P.given.tree=none) :
 Ay P w K mg base CX0 35 f fd ["both","x","y"] (Kd K):=by
 refine F.ok Bl (fun vs H Q E h=>?_) (fun cn A outer s H vs Q E hr h=>?_)
 ·obtain⟨_,_,_,_,_,_,_,_,_,_,_,_,_,_,_,_,_,_,_,_,_,rfl,_⟩:=h;rfl
 refine⟨_,(Ad (K:=K) (Ai (i:=3) Bl.nd rfl (Or.inl rfl) (Aj (ixT K) (pv 0) Ac (fun u v=>rfl)))
  (Ad (K:=K) (Ai (i:=4) Bl.nd rfl (Or.inl rfl) (Aj (ixT K) (pv 0) Ac (fun u v=>rfl)))
  (Ad (K:=K) (Ai (i:=5) Bl.nd rfl (Or.inr rfl) (Al Sx hr rfl (A0 (Aj (ixT K) (pv 3) Ac (fun u v=>rfl)) (A0 (pv 1) (A0 (pv 2) Ab)))))
  (Ad (K:=K) (Ai (i:=6) Bl.nd rfl (Or.inr rfl) (Al Sx hr rfl (A0 (Aj (ixT K) (pv 4) Ac (fun u v=>rfl)) (A0 (pv 1) (A0 (pv 2) Ab)))))
  (Ad (K:=K) (AG (K:=K) (PW.pt (Kg (Ap Ex (pv 5) Ac (As _)) (ID (Ap E8 (pv 6) Ac (As _))))) (Ag (Ai (i:=4) Bl.nd rfl (Or.inl rfl) (AL (A0 (Ah AF (Aj (ixT K) (pv 4) Ac (fun u v=>rfl)) Ac) (A0 (Al Sy hr rfl (A0 (Aj (ixT K) (pv 4) Ac (fun u v=>rfl)) (A0 (pv 1) Ab))) Ab))))) Az (by rfl) (by rfl))
  (Ad (K:=K) (AG (K:=K) (PW.pt (Kg (Ap E8 (pv 5) Ac (As _)) (ID (Ap E8 (pv 6) Ac (As _))))) (Ag (Ai (i:=4) Bl.nd rfl (Or.inl rfl) (AL (A0 (Aj (ixT K) (pv 4) Ac (fun u v=>rfl)) (A0 (Al SW hr rfl (A0 (CB rfl (N:=["a","b","lack","other"]) (nt:=2) (js:=[5,6]) (AW.look (NX:=["both","x","y","low","high","lack","other"]) (sc:=Af (top 40)) rfl rfl (by decide +kernel)) (MQ K rfl RI (A0 (Aj (ixT K) (pv 3) Ac (fun u v=>rfl)) (A0 (Aj (ixT K) (pv 4) Ac (fun u v=>rfl)) Ab))) (fun u1 u2 u3 u4 u5=>(pgT K (n:=2) rfl (CA (Ax (i:=0) (show List.Nodup (["a","b","lack","other"]:List Str) from by decide +kernel) rfl (Or.inl rfl)) (CA (Ax (i:=1) (show List.Nodup (["a","b","lack","other"]:List Str) from by decide +kernel) rfl (Or.inl rfl)) Gp)))) (FA (Cg (by decide) (Cg (by decide) EB))) (fun u1 u2 u3 u4 u5=>Bz) (fun u1 u2 u3 u4 u5=>(Ah AS (Ah Aq (pv 2) (pv 1)) (Ah Aq (pv 3) (pv 0))))) Ab)) Ab))))) Az (by rfl) (by rfl))
  (Ad (K:=K) (AG (K:=K) (Ap E8 (pv 5) Ac (As _)) (Ag (Ai (i:=3) Bl.nd rfl (Or.inl rfl) (AL (A0 (Ah AF (Aj (ixT K) (pv 3) Ac (fun u v=>rfl)) Ac) (A0 (Al Sy hr rfl (A0 (Aj (ixT K) (pv 3) Ac (fun u v=>rfl)) (A0 (pv 1) Ab))) Ab))))) Az (by rfl) (by rfl))
  (Ag (Ar (GQ (Ap E9 (Aj (ixT K) (pv 3) Ac (fun u v=>rfl)) (Aj (ixT K) (pv 4) Ac (fun u v=>rfl)) (As _)) (AL (A0 (pv 3) (A0 (pv 4) Ab))) (AL (A0 (pv 4) (A0 (pv 3) Ab)))))) (by rfl)) (by rfl)) (by rfl)) (by rfl)) (by rfl)) (by rfl)) (by rfl)),?_⟩
 obtain⟨b,rx,ry,v1,v2,r1,r2,Y,W,w,v,n,R,ps,A,S,C,nx,ny,x,y,rfl,hb,⟨p1,l1,rfl,aP,be⟩,⟨p2,l2,rfl,bb,bh⟩,I,eR,hw,hx,hy,bx,b2,cc,hk,cm,hC,hA,cu,q⟩:=h;have P2:2<=af:=by decide
 refine CK I.bd fun a1 a2 bt=>?_;refine Eh bt fun bf bp co cp cr=>?_;clear bt;have ci:(nx+1)*(R+4)=(nx+1)*(R+2)+(nx+1)*2:=by rw[<- VO]
 have ce:(nx+1)*2<=(nx+1)*(R+2):=X0 _ (by lia)
 obtain⟨c0,cj⟩:∃c0,c0=(nx+1)*(R+2)+ny:=⟨_,Z⟩;have cw:c0+2<=C:=by lia
 have cx:nx+1<=C:=by lia
 have bg:1<=R:=by lia
 have bN:Y.getD (R-1) 0=0:=(I.z1 (R-1) (by lia) (by lia)).1
 have bZ:Y.getD (R+(R-1)) 0=0:=(I.z1 (R-1) (by lia) (by lia)).2
 have b1:W.getD (R-1) 0=0:=(I.z2 (R-1) (by lia) (by lia)).1
 have b6:W.getD (R+(R-1)) 0=0:=(I.z2 (R-1) (by lia) (by lia)).2
 have bn:Y.getD (Y.length-1) 0=0:=by rw[I.l1,show 2*R-1=R+(R-1) by lia];exact bZ
 have bW:W.getD (W.length-1) 0=0:=by rw[I.l2,show 2*R-1=R+(R-1) by lia];exact b6
 have bq:(((x.den:Int)):Rat)≠0:=JJ (Nm.den_ne x);have bw:(((x.den:Int)):Rat)*x=((x.num:Int):Rat):=by rw[Nm.num_mul x];grind
 have hs:(((y.den:Int)*(x.den:Int) ^ R:Int):Rat)≠0:=JJ (V9 (Nm.den_ne y) (Int.pow_ne_zero (Nm.den_ne x)));refine⟨_,Z,b,_,_,_,Z,Z,hb,Z,_,Z,b,_,_,_,Z,Z,hb,Z,?_⟩;refine⟨_,Z,p1,_,_,_,Z,Z,aP,Z,_,Z,_,Z,l1,rx,ry,Y,x,y,R,a1,nx,ny,Z,be,I.l1,hx,hy,bf,bx,b2,by lia,fun L1 H1 s1 bu bB=>?_⟩
 refine⟨_,Z,p2,_,_,_,Z,Z,bb.same s1,Z,_,Z,_,Z,l2,rx,ry,W,x,y,R,a2,nx,ny,Z,Ae.seq s1 bh,I.l2,hx.same s1,hy.same s1,bp,bx,b2,by lia,fun L2 H2 s2 bl bC=>?_⟩
 have s2:=s1.trans s2;have bB:Bd (a1+(c0+1)) L1:=bB.mono (by lia)
 have bC:Bd (a2+(c0+1)) L2:=bC.mono (by lia)
 have bu:(L1:Rat)=(((y.den:Int)*(x.den:Int) ^ R:Int):Rat)*(Cv.ev (ic (Y.take R)) x-y*Cv.ev (ic (Y.drop R)) x):=bu;have bl:(L2:Rat)=(((y.den:Int)*(x.den:Int) ^ R:Int):Rat)*(Cv.ev (ic (W.take R)) x-y*Cv.ev (ic (W.drop R)) x):=bl;clear ci ce s1 hC cj hb;by_cases h1:L1=0
 ·by_cases h2:L2=0
  ·exact absurd ⟨O3 ((Fm hs bu).mp h1),O3 ((Fm hs bl).mp h2)⟩ (I.inv.some hw cc)
  ·-- lack=0,other≠0
   have cg:Cv.ev (ic (Y.take R)) x=y*Cv.ev (ic (Y.drop R)) x:=by have:=(Fm hs bu).mp h1;exact O3 this
   refine⟨_,Z,Z,_,Z,AV (decide_eq_true (by rw[h1])) ⟨_,Z,Z,_,Z,AV (by rw[decide_eq_false fun z=>h2 (V.int.inj z)];rfl) ?_⟩⟩
   refine⟨_,Z,p2,_,_,_,Z,Z,bb.same s2,Z,_,_,Z,Z,_,Z,p2,_,_,_,Z,Z,bb.same s2,Z,_,Z,?_⟩;refine⟨l2,rx,W,x,a2,nx,Z,Ae.seq s2 bh,hx.same s2,by rw[I.l2];lia,by rw[I.l2];lia,bW,bp,bx,by lia,fun l9 G9 J e9 b9=>⟨P2,fun p9 a0=>?_⟩⟩
   have J:=s2.trans J;have O:=Ae.new (o:=.tup [.int (r2+2),.ref l9]) a0;have ak:(upd G9 p9 (.tup [.int (r2+2),.ref l9])) p9=some (.tup [.int (r2+2),.ref l9]):=Aa;have e9:=O _ _ e9;have J:=J.trans O;generalize upd G9 p9 (.tup [.int (r2+2),.ref l9])=G at ak e9 J ⊢;clear O a0;refine⟨_,Z,Z,_,Z,AK (by rw[decide_eq_true (by rw[h1])];rfl) (EJ ?_)⟩
   refine⟨_,Z,Z,_,Z,AK (by rw[decide_eq_true (by rw[h1])];rfl) ?_⟩
   have un:=I.inv.stepA (y:=y) bq bw cg (Gw I.l2 bg b1) (Gx I.l2 bg b1 b6);have al:=I.l1;have ap:=(EF x.num x.den W).trans I.l2;have an:∀j,(ps++[(x,y)]).length+1<=j->j<R->Y.getD j 0=0/\Y.getD (R+j) 0=0:=fun j h=>I.z1 j (by rw[UH]at h;lia)
   have as:∀j,(ps++[(x,y)]).length+1<=j->j<R->(shI x.num x.den W).getD j 0=0/\(shI x.num x.den W).getD (R+j) 0=0:=by rw[UH];exact Gy (c:=x.num) (d:=x.den) I.z2
   have bc:=bf;have ba:=b9;refine⟨_,Z,p1,_,_,_,Z,Z,aP.same J,Z,_,Z,p9,_,_,_,Z,Z,SqT.of ak,Z,_,_,Z,Z,_,Z,?_⟩;by_cases hlt:r1<r2+2
   ·refine AV (decide_eq_true hlt) ⟨_,Z,_,Z,P2,fun t9 aC=>?_⟩;have O:=Ae.new (o:=.tup [.ref p1,.ref p9]) aC;exact q t9 _ _ _ _ _ _ _ (J.trans O) (SqT.of Aa) ⟨p1,_,Z,(aP.same J).same O,Ae.seq O (Ae.seq J be)⟩ ⟨p9,_,Z,(SqT.of ak).same O,Ae.seq O (SqL.of e9)⟩ ⟨un.inv hlt,al,ap,an,as,_,_,bc,ba,by lia,by lia,by lia⟩
   ·refine AK (decide_eq_false hlt) ⟨_,Z,_,Z,P2,fun t9 aC=>?_⟩;have O:=Ae.new (o:=.tup [.ref p9,.ref p1]) aC;exact q t9 _ _ _ _ _ _ _ (J.trans O) (SqT.of Aa) ⟨p9,_,Z,(SqT.of ak).same O,Ae.seq O (SqL.of e9)⟩ ⟨p1,_,Z,(aP.same J).same O,Ae.seq O (Ae.seq J be)⟩ ⟨un.turn hlt,ap,al,as,an,_,_,ba,bc,by lia,by lia,by lia⟩
 ·by_cases h2:L2=0
  ·-- lack≠0,other=0
   have ck:Cv.ev (ic (W.take R)) x=y*Cv.ev (ic (W.drop R)) x:=by have:=(Fm hs bl).mp h2;exact O3 this
   refine⟨_,Z,Z,_,Z,AK (decide_eq_false fun z=>h1 (V.int.inj z)) (EJ ?_)⟩;refine⟨_,Z,Z,_,Z,AV (by rw[decide_eq_false fun z=>h1 (V.int.inj z)];rfl) ⟨_,Z,Z,_,Z,AK (by rw[decide_eq_true (by rw[h2])];rfl) ?_⟩⟩
   refine⟨_,Z,Z,_,Z,AV (by rw[decide_eq_false fun z=>h1 (V.int.inj z)];rfl) ?_⟩
   refine⟨_,Z,p1,_,_,_,Z,Z,aP.same s2,Z,_,_,Z,Z,_,Z,p1,_,_,_,Z,Z,aP.same s2,Z,_,Z,?_⟩;refine⟨l1,rx,Y,x,a1,nx,Z,Ae.seq s2 be,hx.same s2,by rw[I.l1];lia,by rw[I.l1];lia,bn,bf,bx,by lia,fun l9 G9 J e9 b9=>⟨P2,fun p9 a0=>?_⟩⟩
   have J:=s2.trans J;have O:=Ae.new (o:=.tup [.int (r1+2),.ref l9]) a0;have ak:(upd G9 p9 (.tup [.int (r1+2),.ref l9])) p9=some (.tup [.int (r1+2),.ref l9]):=Aa;have e9:=O _ _ e9;have J:=J.trans O;generalize upd G9 p9 (.tup [.int (r1+2),.ref l9])=G at ak e9 J ⊢;clear O a0;have un:=I.inv.stepB (y:=y) bq bw ck (Gw I.l1 bg bN) (Gx I.l1 bg bN bZ);have al:=(EF x.num x.den Y).trans I.l1;have ap:=I.l2;have as:∀j,(ps++[(x,y)]).length+1<=j->j<R->W.getD j 0=0/\W.getD (R+j) 0=0:=fun j h=>I.z2 j (by rw[UH]at h;lia)
   have an:∀j,(ps++[(x,y)]).length+1<=j->j<R->(shI x.num x.den Y).getD j 0=0/\(shI x.num x.den Y).getD (R+j) 0=0:=by rw[UH];exact Gy (c:=x.num) (d:=x.den) I.z1
   have bc:=b9;have ba:=bp;refine⟨_,Z,p9,_,_,_,Z,Z,SqT.of ak,Z,_,Z,p2,_,_,_,Z,Z,bb.same J,Z,_,_,Z,Z,_,Z,?_⟩;by_cases hlt:r1+2<r2
   ·refine AV (decide_eq_true hlt) ⟨_,Z,_,Z,P2,fun t9 aC=>?_⟩;have O:=Ae.new (o:=.tup [.ref p9,.ref p2]) aC;exact q t9 _ _ _ _ _ _ _ (J.trans O) (SqT.of Aa) ⟨p9,_,Z,(SqT.of ak).same O,Ae.seq O (SqL.of e9)⟩ ⟨p2,_,Z,(bb.same J).same O,Ae.seq O (Ae.seq J bh)⟩ ⟨un.inv hlt,al,ap,an,as,_,_,bc,ba,by lia,by lia,by lia⟩
   ·refine AK (decide_eq_false hlt) ⟨_,Z,_,Z,P2,fun t9 aC=>?_⟩;have O:=Ae.new (o:=.tup [.ref p2,.ref p9]) aC;exact q t9 _ _ _ _ _ _ _ (J.trans O) (SqT.of Aa) ⟨p2,_,Z,(bb.same J).same O,Ae.seq O (Ae.seq J bh)⟩ ⟨p9,_,Z,(SqT.of ak).same O,Ae.seq O (SqL.of e9)⟩ ⟨un.turn hlt,ap,al,as,an,_,_,ba,bc,by lia,by lia,by lia⟩
  ·-- both
   refine⟨_,Z,Z,_,Z,AK (decide_eq_false fun z=>h1 (V.int.inj z)) (EJ ?_)⟩;refine⟨_,Z,Z,_,Z,AV (by rw[decide_eq_false fun z=>h1 (V.int.inj z)];rfl) ⟨_,Z,Z,_,Z,AV (by rw[decide_eq_false fun z=>h2 (V.int.inj z)];rfl) ?_⟩⟩
   refine⟨_,Z,p2,_,_,_,Z,Z,bb.same s2,Z,?_⟩;refine Cb ⟨_,Z,p1,_,_,_,Z,Z,aP.same s2,Z,_,Z,p2,_,_,_,Z,Z,bb.same s2,Z,l1,l2,Y.map V.int,W.map V.int,Z,Ae.seq s2 be,Ae.seq s2 bh,?_⟩;have cq:(Y.map V.int).length=2*R:=by rw[UI];exact I.l1
   have cv:(W.map V.int).length=2*R:=by rw[UI];exact I.l2
   have b7:min (Y.map V.int).length (W.map V.int).length=2*R:=by lia
   refine PQ (xs:=Y.map V.int) (ys:=W.map V.int) (L5 H2 L1 W L2 Y fun H2 L1 W L2 Y i zs G=>Ae H2 G/\zs=((U0 i).map fun k=>L1*W.getD k 0-L2*Y.getD k 0).map V.int) ⟨Ae.refl _,Z⟩ (fun i zs G _ h=>⟨Ae.seq (s2.trans h.1) be,Ae.seq (s2.trans h.1) bh,by rw[h.2,UI,UI,W7]⟩) (U7 (AA (by lia))) ?_ ?_
   ·rintro i u1 u2 T zs G bX ca hT ⟨sg,rfl⟩;have hi:i<2*R:=by have:=(Ue.mp bX).1;lia
    have g1:Y[i]? = some (Y.getD i 0):=by rw[Vs,Vy (by have:=I.l1;lia)];rfl
    have g2:W[i]? = some (W.getD i 0):=by rw[Vs,Vy (by have:=I.l2;lia)];rfl
    rw[UC,g1]at bX;rw[UC,g2]at ca;cases bX;cases ca;refine⟨_,Z,_,Z,_,_,Z,Z,Bx.bd bB (D9 bp i) (by lia),_,Z,_,Z,_,_,Z,Z,Bx.bd bC (D9 bf i) (by lia),_,_,Z,Z,sg.trans (Ae.new hT),?_⟩
    rw[VT,Vk,Vk]
    rfl
   rintro zs G ⟨sg,rfl⟩ m9 b4;rw[b7];generalize bF:((U0 (2*R)).map fun k=>L1*W.getD k 0-L2*Y.getD k 0)=ms;have bY:ms.length=2*R:=by rw[<- bF,UI,W7]
   have bD:∀j,ms.getD j 0=L1*W.getD j 0-L2*Y.getD j 0:=fun j=>by
    rcases Ww j (2*R) with z | z
    ·rw[<- bF,Vs,UC,Wa z];rfl
    ·rw[Dw (by lia),Dw (by have:=I.l2;lia),Dw (by have:=I.l1;lia),WM,WM];rfl
   have b5:∀t∈ms,Bd (a1+a2+(c0+2)) t:=fun t ht=>by
    rw[<- bF]at ht;obtain⟨k,_,rfl⟩:=(VU.mp ht);exact Bd.sub (n:=a1+a2+(c0+1)) ((bB.mul (D9 bp k)).mono (by lia)) ((bC.mul (D9 bf k)).mono (by lia))
   have cb:∃t∈ms,t≠0:=by
    have top:=Dc.mix (m:=1) (a:=(L1:Rat)) (b:=(L2:Rat)) I.inv.top2 I.inv.le1 I.inv.lt (JJ h1) (N':=ic (ms.take R)) (D':=ic (ms.drop R)) (JB (g:=1) R fun j=>by rw[V5,bD]) (JC (g:=1) R fun j=>by rw[V5,bD])
    have key:∀j,((ms.getD j 0:Int):Rat)≠0->∃t∈ms,t≠0:=fun j hj=>by
     have h0:ms.getD j 0≠0:=fun z=>hj (by rw[z];exact WS)
     rcases Ww j ms.length with z | z
     ·exact⟨_,HY z,h0⟩
     ·exact absurd (Dw z) h0
    rcases top with ⟨j,_,hj⟩ | ⟨j,_,hj⟩
    ·rw[B0,Bt]at hj
     split at hj
     ·exact key j hj
     ·exact absurd WS hj
    ·rw[B0,Bu]at hj;exact key _ hj
   refine⟨m9,ms,a1+a2+(c0+2),Z,SqL.of Aa,cb,by rw[bY];lia,b5,fun l8 G8 g us s8 e8 g0 b0 aF cf=>⟨P2,fun p8 b8=>?_⟩⟩
   have s8:=((s2.trans sg).trans (Ae.new (o:=.lst (ms.map V.int)) b4)).trans s8;have n8:=Ae.new (o:=.tup [.int r2,.ref l8]) b8;have bG:(upd G8 p8 (.tup [.int r2,.ref l8])) p8=some (.tup [.int r2,.ref l8]):=Aa;have e8:=n8 _ _ e8;have s8:=s8.trans n8;generalize upd G8 p8 (.tup [.int r2,.ref l8])=G7 at bG e8 s8 ⊢;have aF:∀j,g*us.getD j 0=L1*W.getD j 0-L2*Y.getD j 0:=fun j=>by rw[aF j,bD j]
   have b0:us.length=2*R:=b0.trans bY;clear n8 b8 cb b5 bD bF bY sg b4;refine⟨_,Z,Z,_,Z,AV (by rw[decide_eq_false fun z=>h1 (V.int.inj z)];rfl) ?_⟩
   refine⟨_,Z,p1,_,_,_,Z,Z,aP.same s8,Z,_,_,Z,Z,_,Z,p1,_,_,_,Z,Z,aP.same s8,Z,_,Z,?_⟩;refine⟨l1,rx,Y,x,a1,nx,Z,Ae.seq s8 be,hx.same s8,by rw[I.l1];lia,by rw[I.l1];lia,bn,bf,bx,by lia,fun l9 G9 J e9 b9=>⟨P2,fun p9 a0=>?_⟩⟩
   have b3:=J.trans (Ae.new (o:=.tup [.int (r1+2),.ref l9]) a0);have J:=s8.trans J;have O:=Ae.new (o:=.tup [.int (r1+2),.ref l9]) a0;have ak:(upd G9 p9 (.tup [.int (r1+2),.ref l9])) p9=some (.tup [.int (r1+2),.ref l9]):=Aa;have e9:=O _ _ e9;have J:=J.trans O;generalize upd G9 p9 (.tup [.int (r1+2),.ref l9])=G at ak e9 J b3 ⊢;clear O a0;have un:=I.inv.stepC (y:=y) (s:=(((y.den:Int)*(x.den:Int) ^ R:Int):Rat)) bq bw (JJ h1) (JJ g0) bu bl (Gw I.l1 bg bN) (Gx I.l1 bg bN bZ) (JB R aF) (JC R aF);have al:=(EF x.num x.den Y).trans I.l1;have ap:=b0;have an:∀j,(ps++[(x,y)]).length+1<=j->j<R->(shI x.num x.den Y).getD j 0=0/\(shI x.num x.den Y).getD (R+j) 0=0:=by rw[UH];exact Gy (c:=x.num) (d:=x.den) I.z1
   have as:∀j,(ps++[(x,y)]).length+1<=j->j<R->us.getD j 0=0/\us.getD (R+j) 0=0:=fun j h hj=>by
    rw[UH]at h;have q1:=I.z1 j (by lia) hj
    have q2:=I.z2 j (by lia) hj
    exact⟨JA g0 aF q1.1 q2.1,JA g0 aF q1.2 q2.2⟩
   have bc:=b9;have ba:=cf;have sG:Ae G7 G:=b3;refine⟨_,Z,p9,_,_,_,Z,Z,SqT.of ak,Z,_,Z,p8,_,_,_,Z,Z,(SqT.of (K:=K) bG).same sG,Z,_,_,Z,Z,_,Z,?_⟩;by_cases hlt:r1+2<r2
   ·refine AV (decide_eq_true hlt) ⟨_,Z,_,Z,P2,fun t9 aC=>?_⟩;have O:=Ae.new (o:=.tup [.ref p9,.ref p8]) aC;exact q t9 _ _ _ _ _ _ _ (J.trans O) (SqT.of Aa) ⟨p9,_,Z,(SqT.of ak).same O,Ae.seq O (SqL.of e9)⟩ ⟨p8,_,Z,((SqT.of (K:=K) bG).same sG).same O,Ae.seq O (Ae.seq sG (SqL.of (K:=K) e8))⟩ ⟨un.inv hlt,al,ap,an,as,_,_,bc,ba,by lia,by lia,by lia⟩
   ·refine AK (decide_eq_false hlt) ⟨_,Z,_,Z,P2,fun t9 aC=>?_⟩;have O:=Ae.new (o:=.tup [.ref p8,.ref p9]) aC;exact q t9 _ _ _ _ _ _ _ (J.trans O) (SqT.of Aa) ⟨p8,_,Z,((SqT.of (K:=K) bG).same sG).same O,Ae.seq O (Ae.seq sG (SqL.of (K:=K) e8))⟩ ⟨p9,_,Z,(SqT.of ak).same O,Ae.seq O (SqL.of e9)⟩ ⟨un.turn hlt,ap,al,as,an,_,_,ba,bc,by lia,by lia,by lia⟩
theorem E2:Ao ["numbers","width"] ["numbers"] (Af (top 20)):=fsc
theorem Js{f:aa}{fd:ag}(F:Fun K "curve_of" "curve_of" (top 20) f fd)(RF:mg "len" = none)(RK:mg "tuple" = none){Y:aa}(W:mg "NOUGHT" = some (.ref Y))(O:∀H:Hp,AD K H (.ref Y) (0))(hT:P.given.tree=none) :
 Ay P w K mg base CX0 33 f fd ["numbers"] (El K):=by
 refine F.ok E2 (fun vs H Q E h=>?_) (fun bb A outer s H vs Q E hr h=>?_)
 ·obtain⟨_,_,_,rfl,_⟩:=h;rfl
 refine⟨_,(Ad (K:=K) (Ai (i:=1) E2.nd rfl (Or.inl rfl) (Ak (Bw K) rfl RF AB (A0 (pv 0) Ab)))
  (Ad (K:=K) (F0 PassesOwn.never (PW.pt (Kg (Ap D4 (pv 1) Ac (As _)) (ID (Ap (eqD K hr.units) (Aj (ixL K) (pv 0) (Ah AS (pv 1) Ac) (fun u v=>rfl)) (AZ (v:=.ref Y) rfl W rfl) (As _))))) (Ag (Ai (i:=1) E2.nd rfl (Or.inl rfl) (Ah AS (pv 1) Ac))))
  (Ag (Ar (Ck (Mu K) rfl RK JV (A0 (AU (slL K) (pv 0) Be (Bc (pv 1))) Ab)))) (by rfl)) (by rfl)),?_⟩
 obtain⟨r,xs,qs,rfl,hS,hn,hz,q⟩:=h;have hl:=hn.length;refine⟨_,Z,r,xs,Z,.inl hS,?_⟩;refine Qp (L3 H r qs fun H r qs σ H'=>H'=H/\∃(v:Nat),σ=[some (.ref r),some (.int (v:Int))]/\v<=qs.length/\∀j q,v<=j->qs[j]? = some q->q=0) (fun σ _=>mu 1 σ) ⟨Z,qs.length,by rw[<- hl];rfl,Uk _,fun j q hj e=>absurd (Ue.mp e).1 (by lia)⟩ ?_
 rintro σ H' aF;refine C7 aF fun aC al=>?_;refine DN al fun v J=>?_;clear al;refine C2 J fun ap hv an=>?_;clear J;obtain rfl:=aC;obtain rfl:=ap
 try clear aF
 have as:(v=0\/∃q,qs[v-1]? = some q/\q≠0)->∀p,H' p=none->∀p',upd H' p (.lst (Cs xs none (some (v:Int)))) p'=none->Q (.ref p') (upd (upd H' p (.lst (Cs xs none (some (v:Int))))) p' (.tup (Cs xs none (some (v:Int))))):=fun hc p hp p' ak=>by
  have e:Cs xs none (some (v:Int))=xs.take v:=by
   unfold Cs;have e1:HT.sIx xs.length 0 none=0:=rfl;have e2:HT.sIx xs.length xs.length (some (v:Int))=min v xs.length:=HT.sIx_nat _ _ v;rw[e1,e2,VJ,VL];apply Vt;intro i;rw[Wv,Wv]
   split<;>split<;>first | rfl | lia | (rename_i h1 h2;exact(VS (by lia)).symm) | (rename_i h1 h2;exact VS (by lia))
  have sm:Ae H' (upd (upd H' p (.lst (Cs xs none (some (v:Int))))) p' (.tup (Cs xs none (some (v:Int))))):=(Ae.new hp).trans (Ae.new ak);refine q p' _ sm ⟨xs.take v,SqT.of (by rw[e];exact Aa),?_⟩
  rw[<- Cv.take_strip qs v an hc];exact Paired.take v (Au.same hn sm)
 refine⟨_,Z,_,_,Z,Z,_,Z,?_⟩;by_cases hv0:v=0
 ·subst hv0;refine EJ (EJ ?_);exact⟨_,Z,_,Z,_,Z,r,xs,Z,hS,fun p hp=>⟨p,_,Z,.inl ⟨SqL.of Aa,fun p' ak=>as (.inl rfl) p hp p' ak⟩⟩⟩
 ·refine AV (by rw[decide_eq_true (show(0:Int)<(v:Int) by lia)]<;>rfl) ?_
  have ba:v-1<qs.length:=by lia
  have hq:qs[v-1]? = some qs[v-1]:=Vy ba;obtain⟨x,hx,aP⟩:=(Paired.get' hn hq)
  have a0:atI xs ((v:Int)-1)=some x:=by
   rw[show(v:Int)-1=((v-1:Nat):Int) by lia]
   exact Bg hx
  refine⟨_,Z,_,Z,_,_,Z,Z,r,xs,_,x,Z,Z,hS,a0,?_⟩;refine eqN aP (O _) ?_;refine⟨_,Z,?_⟩;by_cases hq0:qs[v-1]=0
  ·refine AV (by rw[decide_eq_true hq0]<;>rfl) (Qo ?_)
   refine⟨_,Z,_,_,Z,Z,⟨Z,v-1,?_,by lia,fun j q' hj e=>?_⟩,?_⟩
   ·show[some (V.ref r),some (V.int ((v:Int)-1))]=[some (V.ref r),some (V.int ((v-1:Nat):Int))];rw[show(v:Int)-1=((v-1:Nat):Int) by lia]
   ·by_cases hjv:v<=j
    ·exact an j q' hjv e
    ·have:j=v-1:=by lia
     subst this;rw[hq]at e;cases e;exact hq0
   ·show((v:Int)-1).toNat<(v:Int).toNat
    lia
  ·refine AK (by rw[decide_eq_false hq0]<;>rfl) ?_
   exact⟨_,Z,_,Z,_,Z,r,xs,Z,hS,fun p hp=>⟨p,_,Z,.inl ⟨SqL.of Aa,fun p' ak=>as (.inr ⟨_,hq,hq0⟩) p hp p' ak⟩⟩⟩
theorem DF:Ao ["top","bottom","measure"] ["top","bottom"] (Af (top 14)):=fsc
theorem IM{f:aa}{fd:ag}(F:Fun K "number_of" "number_of" (top 14) f fd)(S3:Fd P w K mg base 33 "common_measure" ["one","other"] (Ji))(hT:P.given.tree=none) :
 Ay P w K mg base CX0 34 f fd ["top","bottom"] (Eu):=by
 refine F.ok DF (fun vs H Q E h=>?_) (fun ak A outer s H vs Q E hr h=>?_)
 ·obtain⟨_,_,rfl,_⟩:=h;rfl
 refine⟨_,(Ad (K:=K) (AG (K:=K) (Ap Ex (pv 1) Ac (As _)) (Ag Ca) Az (by rfl) (by rfl))
  (Ad (K:=K) (Ai (i:=2) DF.nd rfl (Or.inl rfl) (Al S3 hr rfl (A0 (pv 0) (A0 (pv 1) Ab))))
  (Ad (K:=K) (AG (K:=K) (Ap E9 (pv 1) Ac (As _)) (Ag (Ai (i:=2) DF.nd rfl (Or.inl rfl) (E5 CP (pv 2)))) Az (by rfl) (by rfl))
  (Ag (Ar (AL (A0 (Ah (BA hr hT) (pv 0) (pv 2)) (A0 (Ah (BA hr hT) (pv 1) (pv 2)) Ab))))) (by rfl)) (by rfl)) (by rfl)),?_⟩
 obtain⟨a,b,rfl,J,q⟩:=h;refine⟨_,Z,Z,_,Z,?_⟩;refine AK (by rw[decide_eq_false (fun z=>J (V.int.inj z))]<;>rfl) ?_
 refine⟨_,Z,_,Z,a,b,Z,?_⟩;refine⟨_,Z,_,_,Z,Z,_,Z,?_⟩;have O:Nm.msr a b≠0:=Nm.msr_ne J
 have Y:∀p,H p=none->Q (.ref p) (upd H p (.tup [.int (a.fdiv (Nm.msr a b)),.int (b.fdiv (Nm.msr a b))])):=fun p hp=>by
  rw[Nm.top_msr J,Nm.bottom_msr J];exact q p hp
 by_cases hb0:b<0
 ·have W:Nm.msr a b = -(V1 a b:Int):=by unfold Nm.msr;rw[if_pos hb0]
  rw[W]at O Y;refine AV (by rw[decide_eq_true hb0]<;>rfl) ⟨_,Z,_,Z,?_⟩
  exact⟨_,Z,_,Z,_,_,Z,Z,O,_,Z,_,Z,_,_,Z,Z,O,(by decide:2<=af),Y⟩
 ·have W:Nm.msr a b=(V1 a b:Int):=by unfold Nm.msr;rw[if_neg hb0]
  rw[W]at O Y;refine AK (by rw[decide_eq_false hb0]<;>rfl) ?_
  exact⟨_,Z,_,Z,_,_,Z,Z,O,_,Z,_,Z,_,_,Z,Z,O,(by decide:2<=af),Y⟩
theorem Hu:Ao ["tops","bottom"] ["tops","bottom"] (Af (top 23)):=fsc
theorem Hz{f:aa}{fd:ag}(F:Fun K "curve_over" "curve_over" (top 23) f fd)(Sh:Fd P w K mg base 33 "curve_of" ["numbers"] (El K))(RL:Fd P w K mg base 34 "number_of" ["top","bottom"] (Eu))(hT:P.given.tree=none) :
 Ay P w K mg base CX0 35 f fd ["tops","bottom"] (Cu K):=by
 refine F.ok Hu (fun vs H Q E h=>?_) (fun ak A outer s H vs Q E hr h=>?_)
 ·obtain⟨_,_,_,rfl,_⟩:=h;rfl
 refine⟨_,(Ag (Ar (Al Sh hr rfl (A0 (CB rfl (N:=["top","bottom"]) (nt:=1) (js:=[1]) (AW.look (NX:=["tops","bottom"]) (sc:=Af (top 23)) rfl rfl (by decide +kernel)) (piS K (pv 0)) (fun u1 u2 u3 u4 u5=>(Ax (i:=0) (show List.Nodup (["top","bottom"]:List Str) from by decide +kernel) rfl (Or.inl rfl))) (AJ (by decide)) (fun u1 u2 u3 u4 u5=>Bz) (fun u1 u2 u3 u4 u5=>(Al RL hr rfl (A0 (pv 0) (A0 (pv 1) Ab))))) Ab)))),?_⟩
 obtain⟨l,ts,b,rfl,hS,hb,hz,q⟩:=h;have ll:(ts.map V.int).length=ts.length:=UI _;refine N7 (b:=true) (a:=l) (xs:=ts.map V.int) rfl (L4 H K ts b fun H K ts b i zs H'=>Ae H H'/\zs.length=i/\Au K H' zs ((ts.take i).map fun t=>V3 t b)) ⟨Ae.refl _,Z,.nil⟩ (fun i zs H' _ p=>⟨Ae.seq p.1 hS,p.2.1⟩) (by rw[ll];exact U7 (AA hz)) ?_ ?_
 ·rintro i x zs H' W ⟨J,hl,O⟩;rw[UC]at W;cases et:ts[i]? with
  | none=>rw[et]at W;cases W
  | some t =>
    rw[et]at W;cases W;refine⟨_,Z,_,Z,t,b,Z,hb,fun p Y=>⟨J.trans (Ae.new Y),by simp[hl],?_⟩⟩
    rw[Vj,et,Vk];exact Paired.snoc (Au.same O (Ae.new Y)) (AD.of Aa)
 ·rintro zs H' ⟨J,hl,O⟩ p Y;rw[ll,Vl]at O;refine⟨p,zs,_,Z,SqL.of Aa,Au.same O (Ae.new Y),by rw[UI];exact hz,fun r H2 s2 c=>q r H2 ((J.trans (Ae.new Y)).trans s2) c⟩
theorem AM:Ao ["places","heights","width","room","first","second","both","x","y","tops"] ["places","heights","width"] (Af (top 41)):=fsc
theorem Gh{f:aa}{fd:ag}(F:Fun K "pair_through" "pair_through" (top 41) f fd)(SX:Fd P w K mg base 35 "both_with" ["both","x","y"] (Kd K))(RU:Fd P w K mg base 35 "curve_over" ["tops","bottom"] (Cu K))(RI:mg "zip" = none)(RF:mg "len" = none)(hT:P.given.tree=none) :
 Ay P w K mg base CX0 36 f fd ["places","heights","width"] (FF K):=by
 refine F.ok AM (fun vs H Q E h=>?_) (fun cT A outer s H vs Q E hr h=>?_)
 ·obtain⟨_,_,_,_,_,_,_,_,_,_,_,rfl,_⟩:=h;rfl
 refine⟨_,(Ad (K:=K) (Ai (i:=3) AM.nd rfl (Or.inl rfl) (Ah AF (Ak (Bw K) rfl RF AB (A0 (pv 0) Ab)) Ac))
  (Ad (K:=K) (Ai (i:=4) AM.nd rfl (Or.inl rfl) (AL (A0 (Ah Aq Ac (Ah AS Ac (pv 2))) (A0 (Ah Cp (AE (A0 Ac Ab)) (Ah E7 (AE (A0 Ac Ab)) (Ah AS (Ah Aq Ac (pv 3)) Ac))) Ab))))
  (Ad (K:=K) (Ai (i:=5) AM.nd rfl (Or.inl rfl) (AL (A0 (Ah AF (Ah Aq Ac (Ah AS Ac (Ah AS (pv 3) (pv 2)))) Ac) (A0 (Ah Cp (Ah Cp (Ah E7 (AE (A0 Ac Ab)) (pv 3)) (AE (A0 Ac Ab))) (Ah E7 (AE (A0 Ac Ab)) (Ah AS (pv 3) Ac))) Ab))))
  (Ad (K:=K) (Ai (i:=6) AM.nd rfl (Or.inl rfl) (GQ (Ap E9 (Aj (ixT K) (pv 4) Ac (fun u v=>rfl)) (Aj (ixT K) (pv 5) Ac (fun u v=>rfl)) (As _)) (AL (A0 (pv 4) (A0 (pv 5) Ab))) (AL (A0 (pv 5) (A0 (pv 4) Ab)))))
  (Ad (K:=K) (Ba (K:=K) PassesOwn.never rfl (MQ K rfl RI (A0 (pv 0) (A0 (pv 1) Ab))) (pgT K (n:=2) rfl (CA (Ax (i:=7) AM.nd rfl (Or.inl rfl)) (CA (Ax (i:=8) AM.nd rfl (Or.inl rfl)) Gp))) (Ag (Ai (i:=6) AM.nd rfl (Or.inl rfl) (Al SX hr rfl (A0 (pv 6) (A0 (pv 7) (A0 (pv 8) Ab)))))) (by rfl))
  (Ad (K:=K) (Ai (i:=9) AM.nd rfl (Or.inl rfl) (Aj (ixT K) (Aj (ixT K) (pv 6) Ac (fun u v=>rfl)) Ac (fun u v=>rfl)))
  (Ag (Ar (AL (A0 (Al RU hr rfl (A0 (AU (slL K) (pv 9) Be (Bc (pv 3))) (A0 Ac Ab))) (A0 (Al RU hr rfl (A0 (AU (slL K) (pv 9) (Bc (pv 3)) Be) (A0 Ac Ab))) Ab))))) (by rfl)) (by rfl)) (by rfl)) (by rfl)) (by rfl)) (by rfl)),?_⟩
 obtain⟨lp,lh,zs,ys,qs,hs,W,n,nx,ny,C,rfl,hP,hZ,hH,hY,cU,cV,cW,bC,cb,cB,cP,bq,bh,hC,hG,q⟩:=h;have P1:1<=af:=by decide
 have P2:2<=af:=by decide
 have aC:60<=af:=by decide
 have cX:=hZ.length;refine⟨_,Z,lp,_,Z,.inl hP,_,_,Z,Z,?_⟩;have eR:((zs.length:Nat):Int)+1=((n+1:Nat):Int):=by lia
 rw[eR];refine⟨_,Z,_,_,Z,Z,_,_,Z,Z,.inl ⟨by decide,by decide⟩,P1,fun o1 cy=>⟨P1,fun o2 cp=>?_⟩⟩
 have n1:=Ae.new (o:=.lst [.int 1]) cy;have n2:=Ae.new (o:=.lst [.int 0]) cp;refine⟨_,Z,_,_,Z,Z,.inl ⟨by decide,by decide⟩,_,_,Z,Z,o2,_,[.int 0],Z,Z,Aa,by lia,by lia,U6 (show _<=60 by show 1*_<=60;lia) aC,fun o3 cx=>?_⟩
 have e3:(Ux (2*((n+1:Nat):Int)-1).toNat [V.int 0]).flatten=(Ux (2*(n+1)-1) (0:Int)).map V.int:=by rw[show(2*((n+1:Nat):Int)-1).toNat=2*(n+1)-1 by lia,Oc]
 rw[e3];have n3:=Ae.new (o:=.lst ((Ux (2*(n+1)-1) (0:Int)).map V.int)) cx;refine⟨o1,o3,[.int 1],_,Z,Z,n3 _ _ (n2 _ _ Aa),Aa,U6 (show _<=60 by rw[UW,UI,UJ];lia) aC,fun k1 cq=>⟨P2,fun f1 cA=>?_⟩⟩
 have n4:=Ae.new (o:=.lst ([V.int 1]++(Ux (2*(n+1)-1) (0:Int)).map V.int)) cq;have n5:=Ae.new (o:=.tup [.int (2*(1-(W:Int))),.ref k1]) cA;have sF:=(((n1.trans n2).trans n3).trans n4).trans n5;have an:=n5 _ _ (Aa (H:=upd (upd (upd H o1 (.lst [.int 1])) o2 (.lst [.int 0])) o3 (.lst ((Ux (2*(n+1)-1) (0:Int)).map V.int))) (a:=k1) (o:=.lst ([V.int 1]++(Ux (2*(n+1)-1) (0:Int)).map V.int)));have as:=Aa (H:=upd (upd (upd (upd H o1 (.lst [.int 1])) o2 (.lst [.int 0])) o3 (.lst ((Ux (2*(n+1)-1) (0:Int)).map V.int))) k1 (.lst ([V.int 1]++(Ux (2*(n+1)-1) (0:Int)).map V.int))) (a:=f1) (o:=.tup [.int (2*(1-(W:Int))),.ref k1]);generalize upd (upd (upd (upd (upd H o1 (.lst [.int 1])) o2 (.lst [.int 0])) o3 (.lst ((Ux (2*(n+1)-1) (0:Int)).map V.int))) k1 (.lst ([V.int 1]++(Ux (2*(n+1)-1) (0:Int)).map V.int))) f1 (.tup [.int (2*(1-(W:Int))),.ref k1])=HF at sF an as ⊢;have an:HF k1=some (.lst ((DM (n+1)).map V.int)):=an;clear n1 n2 n3 n4 n5 e3 cy cp cx cq cA;refine⟨_,Z,_,Z,_,_,Z,Z,_,_,Z,Z,_,_,Z,Z,.inl ⟨by decide,by decide⟩,_,_,Z,Z,P1,fun o5 cI=>?_⟩
 have O:=Ae.new (o:=.lst [.int 0]) cI;have e5:=Aa (H:=HF) (a:=o5) (o:=.lst [.int 0]);generalize upd HF o5 (.lst [.int 0])=A1 at O e5 ⊢;refine⟨_,Z,o5,_,[.int 0],Z,Z,e5,by lia,by lia,U6 (show _<=60 by show 1*_<=60;lia) aC,fun o6 cQ=>?_⟩
 rw[UM,Oc];have O:=O.trans (Ae.new (o:=.lst ((Ux (n+1) (0:Int)).map V.int)) cQ);have e6:=Aa (H:=A1) (a:=o6) (o:=.lst ((Ux (n+1) (0:Int)).map V.int));generalize upd A1 o6 (.lst ((Ux (n+1) (0:Int)).map V.int))=A2 at O e6 ⊢;refine⟨P1,fun o7 cE=>?_⟩;have n3:=Ae.new (o:=.lst [.int 1]) cE;have e7:=Aa (H:=A2) (a:=o7) (o:=.lst [.int 1]);have e6:=n3 _ _ e6;have O:=O.trans n3;generalize upd A2 o7 (.lst [.int 1])=A3 at O e6 e7 ⊢;refine⟨o6,o7,_,_,Z,Z,e6,e7,U6 (show _<=60 by rw[UW,UI,UJ];lia) aC,fun o8 cF=>?_⟩
 have O:=O.trans (Ae.new (o:=.lst ((Ux (n+1) (0:Int)).map V.int++[V.int 1])) cF);have e8:=Aa (H:=A3) (a:=o8) (o:=.lst ((Ux (n+1) (0:Int)).map V.int++[V.int 1]));generalize upd A3 o8 (.lst ((Ux (n+1) (0:Int)).map V.int++[V.int 1]))=A4 at O e8 ⊢;refine⟨P1,fun o9 cK=>?_⟩;have n5:=Ae.new (o:=.lst [.int 0]) cK;have e9:=Aa (H:=A4) (a:=o9) (o:=.lst [.int 0]);have e8:=n5 _ _ e8;have O:=O.trans n5;generalize upd A4 o9 (.lst [.int 0])=A5 at O e8 e9 ⊢;refine⟨_,Z,_,_,Z,Z,o9,_,[.int 0],Z,Z,e9,by lia,by lia,U6 (show _<=60 by show 1*_<=60;lia) aC,fun bW cw=>?_⟩
 have cg:(Ux (((n+1:Nat):Int)-1).toNat [V.int 0]).flatten=(Ux (n+1-1) (0:Int)).map V.int:=by rw[show(((n+1:Nat):Int)-1).toNat=n+1-1 by lia,Oc]
 rw[cg];have n6:=Ae.new (o:=.lst ((Ux (n+1-1) (0:Int)).map V.int)) cw;have e8:=n6 _ _ e8;have ea:=Aa (H:=A5) (a:=bW) (o:=.lst ((Ux (n+1-1) (0:Int)).map V.int));have O:=O.trans n6;generalize upd A5 bW (.lst ((Ux (n+1-1) (0:Int)).map V.int))=A6 at O e8 ea ⊢;refine⟨o8,bW,_,_,Z,Z,e8,ea,U6 (show _<=60 by rw[UH,UW,UI,UJ,UI,UJ];lia) aC,fun k2 cG=>?_⟩
 have bx:(Ux (n+1) (0:Int)).map V.int++[V.int 1]++(Ux (n+1-1) (0:Int)).map V.int=(BS (n+1)).map V.int:=by unfold BS;rw[Vk,Vk];rfl
 rw[bx];have O:=O.trans (Ae.new (o:=.lst ((BS (n+1)).map V.int)) cG);have ap:=Aa (H:=A6) (a:=k2) (o:=.lst ((BS (n+1)).map V.int));generalize upd A6 k2 (.lst ((BS (n+1)).map V.int))=A7 at O ap ⊢;refine⟨P2,fun f2 cM=>?_⟩;have n8:=Ae.new (o:=.tup [.int (2*(1-(((n+1:Nat):Int)-(W:Int)))+1),.ref k2]) cM;have a0:=Aa (H:=A7) (a:=f2) (o:=.tup [.int (2*(1-(((n+1:Nat):Int)-(W:Int)))+1),.ref k2]);have ap:=n8 _ _ ap;have O:=O.trans n8;generalize upd A7 f2 (.tup [.int (2*(1-(((n+1:Nat):Int)-(W:Int)))+1),.ref k2])=HG at O ap a0 ⊢;have sG:=sF.trans O;have as:=O _ _ as;have an:=O _ _ an;clear n3 n5 n6 n8 bx cg sF O;have cO:(2*(1-(((n+1:Nat):Int)-(W:Int)))+1)=2*(1-((n:Int)+1-W))+1:=by lia
 rw[cO]at a0;have un:=Rt (n:=n) cB cP;refine⟨_,Z,f1,_,_,_,Z,Z,SqT.of as,Z,_,Z,f2,_,_,_,Z,Z,SqT.of a0,Z,_,_,Z,Z,_,Z,?_⟩;by_cases hlt:2*(1-(W:Int))<2*(1-((n:Int)+1-W))+1
 ·refine AV (decide_eq_true hlt) ⟨_,Z,_,Z,P2,fun b0 ak=>?_⟩;have nb:=Ae.new (o:=.tup [.ref f1,.ref f2]) ak
  obtain⟨va,vb,ra,rb,Y,Tb,ak,R1,R2,S0⟩:∃(va vb:V) (ra rb:Int) (Y Tb:List Int),SqT K (upd HG b0 (.tup [.ref f1,.ref f2])) b0 [va,vb]/\Rpr K (upd HG b0 (.tup [.ref f1,.ref f2])) va ra Y/\Rpr K (upd HG b0 (.tup [.ref f1,.ref f2])) vb rb Tb/\PSt (W:Int) ((n:Int)+1-W) n (n+1) ((qs.zip hs).take 0) (gAS C 0).1 (gAS C 0).2 ra Y rb Tb :=
   ⟨_,_,_,_,_,_,SqT.of Aa,⟨f1,k1,Z,SqT.of (nb _ _ as),SqL.of (nb _ _ an)⟩,⟨f2,k2,Z,SqT.of (nb _ _ a0),SqL.of (nb _ _ ap)⟩,⟨un.inv hlt,Fp n,Ew n,Hl n,FY n,1,1,JN _,HN _,Uk 1,Uk 1,Uk 2⟩⟩
  have sB:=sG.trans nb;generalize upd HG b0 (.tup [.ref f1,.ref f2])=H0 at sB ak R1 R2 ⊢;refine⟨_,Z,_,Z,lp,lh,zs,ys,Z,Ae.seq sB hP,Ae.seq sB hH,Lu (xs:=zs) (ys:=ys) (L11 H lp lh W n f1 f2 K qs hs C fun H lp lh W n f1 f2 K qs hs C i σ G=>Ae H G/\∃(b:aa) (va vb:V) (ra rb:Int) (Y Tb:List Int) (z7 z8:Option V),σ=[some (.ref lp),some (.ref lh),some (.int (W:Int)),some (.int ((n+1:Nat):Int)),some (.ref f1),some (.ref f2),some (.ref b),z7,z8,none]/\SqT K G b [va,vb]/\Rpr K G va ra Y/\Rpr K G vb rb Tb/\PSt (W:Int) ((n:Int)+1-W) n (n+1) ((qs.zip hs).take i) (gAS C i).1 (gAS C i).2 ra Y rb Tb) ⟨sB,b0,va,vb,ra,rb,Y,Tb,none,none,Z,ak,R1,R2,S0⟩ (fun i σ G _ h=>⟨Ae.seq h.1 hP,Ae.seq h.1 hH⟩) ?_ ?_⟩
  ·rintro i x y T σ G hx hy hT cu;refine C7 cu fun sg bG=>?_;refine OB bG fun b va vb ra rb Y Tb z7 z8 bn=>?_;clear bG;refine Eh bn fun cz hb R1 R2 S=>?_;clear bn;obtain rfl:=cz
   try clear cu
   obtain⟨qx,al,rx,rfl,b9⟩:=(Paired.get hZ hx);obtain⟨hv,bc,ry,rfl,b1⟩:=(Paired.get hY hy);have hi:i<n:=by have:=(Ue.mp al).1;lia
   have nT:=Ae.new (o:=.tup [.ref rx,.ref ry]) hT;have sT:=sg.trans nT;refine⟨T,_,Z,SqT.of Aa,Z,_,_,Z,_,_,Z,Z,?_⟩;have bp:(qs.zip hs)[i]? = some (qx,hv):=by rw[WG];exact⟨al,bc⟩
   have J:(qs.zip hs).take (i+1)=(qs.zip hs).take i++[(qx,hv)]:=by rw[Vj,bp];rfl
   have cn:((qs.zip hs).take i).length=i:=by rw[Uy,WA];lia
   have hm:=Dx C (i:=i) (n:=n) (by lia)
   have hl:=J0 C i;refine⟨_,Z,_,Z,_,Z,b,rx,ry,va,vb,ra,rb,Y,Tb,(W:Int),(n:Int)+1-W,n,n+1,(qs.zip hs).take i,(gAS C i).1,(gAS C i).2,C,nx,ny,qx,hv,Z,hb.same nT,R1.same nT,R2.same nT,S,Z,by lia,AD.same ⟨rx,Z,b9⟩ sT,AD.same ⟨ry,Z,b1⟩ sT,bq qx (UG al),bh hv (UG bc),?_,by lia,bC,hC,by lia,by lia,fun b' G' b4 b5 bN bZ bY b6 s' b3 bX b2 S'=>?_⟩
   ·rw[<- J,X4,X6 (by lia)]
    exact(UE _ _).nodup cb
   ·refine⟨sT.trans s',b',b4,b5,bN,bZ,bY,b6,_,_,Z,b3,bX,b2,?_⟩;rw[J];exact S'
  rintro σ G cv;refine C7 cv fun sg bB=>?_;refine OB bB fun b va vb ra rb Y Tb z7 z8 bl=>?_;clear bB;refine Eh bl fun co hb cc R2 S=>?_;clear bl;obtain rfl:=co;refine CK cc fun pa la bg=>?_;refine C2 bg fun cj b8 bu=>?_;clear bg;obtain rfl:=cj
  try clear cv
  have bt:min zs.length ys.length=n:=by rw[hZ.length,hY.length];lia
  rw[bt,VW (by rw[WA];lia)]at S
  have hR:=S.l1;refine CK S.bd fun a1 a2 be=>?_;refine Eh be fun aP cL cC cH cJ=>?_;clear be;have cR:=J0 C n;refine⟨_,Z,b,_,_,_,Z,Z,hb,Z,pa,_,_,_,Z,Z,b8,Z,?_⟩;refine⟨_,Z,_,Z,_,Z,la,_,Z,bu,fun s1 ca=>?_⟩;have c1:Cs (Y.map V.int) none (some ((n+1:Nat):Int))=(Y.take (n+1)).map V.int:=by rw[CD,X4]
  rw[c1];have n1:=Ae.new (o:=.lst ((Y.take (n+1)).map V.int)) ca;refine⟨s1,Y.take (n+1),1,Z,SqL.of Aa,by decide,by rw[Uy];lia,fun pN G1 sN cN=>?_⟩
  have aF:=n1.trans sN;refine⟨_,Z,_,Z,_,Z,la,_,Z,Ae.seq aF bu,fun s2 b7=>?_⟩;have c2:Cs (Y.map V.int) (some ((n+1:Nat):Int)) none=(Y.drop (n+1)).map V.int:=by rw[Dy,List.map_drop]
  rw[c2];have n2:=Ae.new (o:=.lst ((Y.drop (n+1)).map V.int)) b7;refine⟨s2,Y.drop (n+1),1,Z,SqL.of Aa,by decide,by rw[UP];lia,fun pD G2 sD cD=>⟨P2,fun t ht=>?_⟩⟩
  have n3:=Ae.new (o:=.tup [.ref pN,.ref pD]) ht;rw[Nb]at cN cD;refine q t pN pD _ ra rb _ _ _ _ ((((sg.trans aF).trans n2).trans sD).trans n3) (SqT.of Aa) (((cN.same n2).same sD).same n3) (cD.same n3) ?_ ?_ S.inv
  ·exact Lq (fun t ht=>aP t (WN ht)) (by lia)
  ·exact Lq (fun t ht=>aP t (X5 ht)) (by lia)
 ·refine AK (decide_eq_false hlt) ⟨_,Z,_,Z,P2,fun b0 ak=>?_⟩;have nb:=Ae.new (o:=.tup [.ref f2,.ref f1]) ak
  obtain⟨va,vb,ra,rb,Y,Tb,ak,R1,R2,S0⟩:∃(va vb:V) (ra rb:Int) (Y Tb:List Int),SqT K (upd HG b0 (.tup [.ref f2,.ref f1])) b0 [va,vb]/\Rpr K (upd HG b0 (.tup [.ref f2,.ref f1])) va ra Y/\Rpr K (upd HG b0 (.tup [.ref f2,.ref f1])) vb rb Tb/\PSt (W:Int) ((n:Int)+1-W) n (n+1) ((qs.zip hs).take 0) (gAS C 0).1 (gAS C 0).2 ra Y rb Tb :=
   ⟨_,_,_,_,_,_,SqT.of Aa,⟨f2,k2,Z,SqT.of (nb _ _ a0),SqL.of (nb _ _ ap)⟩,⟨f1,k1,Z,SqT.of (nb _ _ as),SqL.of (nb _ _ an)⟩,⟨un.turn hlt,Ew n,Fp n,FY n,Hl n,1,1,HN _,JN _,Uk 1,Uk 1,Uk 2⟩⟩
  have sB:=sG.trans nb;generalize upd HG b0 (.tup [.ref f2,.ref f1])=H0 at sB ak R1 R2 ⊢;refine⟨_,Z,_,Z,lp,lh,zs,ys,Z,Ae.seq sB hP,Ae.seq sB hH,Lu (xs:=zs) (ys:=ys) (L11 H lp lh W n f1 f2 K qs hs C fun H lp lh W n f1 f2 K qs hs C i σ G=>Ae H G/\∃(b:aa) (va vb:V) (ra rb:Int) (Y Tb:List Int) (z7 z8:Option V),σ=[some (.ref lp),some (.ref lh),some (.int (W:Int)),some (.int ((n+1:Nat):Int)),some (.ref f1),some (.ref f2),some (.ref b),z7,z8,none]/\SqT K G b [va,vb]/\Rpr K G va ra Y/\Rpr K G vb rb Tb/\PSt (W:Int) ((n:Int)+1-W) n (n+1) ((qs.zip hs).take i) (gAS C i).1 (gAS C i).2 ra Y rb Tb) ⟨sB,b0,va,vb,ra,rb,Y,Tb,none,none,Z,ak,R1,R2,S0⟩ (fun i σ G _ h=>⟨Ae.seq h.1 hP,Ae.seq h.1 hH⟩) ?_ ?_⟩
  ·rintro i x y T σ G hx hy hT cf;refine C7 cf fun sg bF=>?_;refine OB bF fun b va vb ra rb Y Tb z7 z8 bw=>?_;clear bF;refine Eh bw fun ci hb R1 R2 S=>?_;clear bw;obtain rfl:=ci
   try clear cf
   obtain⟨qx,al,rx,rfl,b9⟩:=(Paired.get hZ hx);obtain⟨hv,bc,ry,rfl,b1⟩:=(Paired.get hY hy);have hi:i<n:=by have:=(Ue.mp al).1;lia
   have nT:=Ae.new (o:=.tup [.ref rx,.ref ry]) hT;have sT:=sg.trans nT;refine⟨T,_,Z,SqT.of Aa,Z,_,_,Z,_,_,Z,Z,?_⟩;have bp:(qs.zip hs)[i]? = some (qx,hv):=by rw[WG];exact⟨al,bc⟩
   have J:(qs.zip hs).take (i+1)=(qs.zip hs).take i++[(qx,hv)]:=by rw[Vj,bp];rfl
   have cn:((qs.zip hs).take i).length=i:=by rw[Uy,WA];lia
   have hm:=Dx C (i:=i) (n:=n) (by lia)
   have hl:=J0 C i;refine⟨_,Z,_,Z,_,Z,b,rx,ry,va,vb,ra,rb,Y,Tb,(W:Int),(n:Int)+1-W,n,n+1,(qs.zip hs).take i,(gAS C i).1,(gAS C i).2,C,nx,ny,qx,hv,Z,hb.same nT,R1.same nT,R2.same nT,S,Z,by lia,AD.same ⟨rx,Z,b9⟩ sT,AD.same ⟨ry,Z,b1⟩ sT,bq qx (UG al),bh hv (UG bc),?_,by lia,bC,hC,by lia,by lia,fun b' G' b4 b5 bN bZ bY b6 s' b3 bX b2 S'=>?_⟩
   ·rw[<- J,X4,X6 (by lia)]
    exact(UE _ _).nodup cb
   ·refine⟨sT.trans s',b',b4,b5,bN,bZ,bY,b6,_,_,Z,b3,bX,b2,?_⟩;rw[J];exact S'
  rintro σ G ce;refine C7 ce fun sg bD=>?_;refine OB bD fun b va vb ra rb Y Tb z7 z8 ba=>?_;clear bD;refine Eh ba fun cr hb cm R2 S=>?_;clear ba;obtain rfl:=cr;refine CK cm fun pa la bf=>?_;refine C2 bf fun ck b8 bu=>?_;clear bf;obtain rfl:=ck
  try clear ce
  have bt:min zs.length ys.length=n:=by rw[hZ.length,hY.length];lia
  rw[bt,VW (by rw[WA];lia)]at S
  have hR:=S.l1;refine CK S.bd fun a1 a2 bb=>?_;refine Eh bb fun aP cL cC cH cJ=>?_;clear bb;have cR:=J0 C n;refine⟨_,Z,b,_,_,_,Z,Z,hb,Z,pa,_,_,_,Z,Z,b8,Z,?_⟩;refine⟨_,Z,_,Z,_,Z,la,_,Z,bu,fun s1 ca=>?_⟩;have c1:Cs (Y.map V.int) none (some ((n+1:Nat):Int))=(Y.take (n+1)).map V.int:=by rw[CD,X4]
  rw[c1];have n1:=Ae.new (o:=.lst ((Y.take (n+1)).map V.int)) ca;refine⟨s1,Y.take (n+1),1,Z,SqL.of Aa,by decide,by rw[Uy];lia,fun pN G1 sN cN=>?_⟩
  have aF:=n1.trans sN;refine⟨_,Z,_,Z,_,Z,la,_,Z,Ae.seq aF bu,fun s2 b7=>?_⟩;have c2:Cs (Y.map V.int) (some ((n+1:Nat):Int)) none=(Y.drop (n+1)).map V.int:=by rw[Dy,List.map_drop]
  rw[c2];have n2:=Ae.new (o:=.lst ((Y.drop (n+1)).map V.int)) b7;refine⟨s2,Y.drop (n+1),1,Z,SqL.of Aa,by decide,by rw[UP];lia,fun pD G2 sD cD=>⟨P2,fun t ht=>?_⟩⟩
  have n3:=Ae.new (o:=.tup [.ref pN,.ref pD]) ht;rw[Nb]at cN cD;refine q t pN pD _ ra rb _ _ _ _ ((((sg.trans aF).trans n2).trans sD).trans n3) (SqT.of Aa) (((cN.same n2).same sD).same n3) (cD.same n3) ?_ ?_ S.inv
  ·exact Lq (fun t ht=>aP t (WN ht)) (by lia)
  ·exact Lq (fun t ht=>aP t (X5 ht)) (by lia)
theorem CI:Ao ["numbers","bottom","number"] ["numbers"] (Af (top 21)):=fsc
theorem IT{f:aa}{fd:ag}(F:Fun K "bottom_of" "bottom_of" (top 21) f fd)(S3:Fd P w K mg base 33 "common_measure" ["one","other"] (Ji))(hT:P.given.tree=none) :
 Ay P w K mg base CX0 34 f fd ["numbers"] (HL K):=by
 refine F.ok CI (fun vs H Q E h=>?_) (fun bg A outer s H vs Q E hr h=>?_)
 ·obtain⟨_,_,_,_,_,rfl,_⟩:=h;rfl
 refine⟨_,(Ad (K:=K) (Ai (i:=1) CI.nd rfl (Or.inl rfl) Ac)
  (Ad (K:=K) (Ba (K:=K) PassesOwn.never rfl (piS K (pv 0)) (Ax (i:=2) CI.nd rfl (Or.inl rfl)) (Ag (Ai (i:=1) CI.nd rfl (Or.inl rfl) (Ah Aq (pv 1) (Ah (BA hr hT) (Aj (ixT K) (pv 2) Ac (fun u v=>rfl)) (Al S3 hr rfl (A0 (pv 1) (A0 (Aj (ixT K) (pv 2) Ac (fun u v=>rfl)) Ab))))))) (by rfl))
  (Ag (Ar (pv 1))) (by rfl)) (by rfl)),?_⟩
 obtain⟨b,r,xs,qs,n,rfl,hS,hn,hB,hz,q⟩:=h;have hl:=hn.length;refine Oz (b:=b) (a:=r) (xs:=xs) rfl (L4 H r qs n fun H r qs n i σ H'=>H'=H/\∃(B:Int) (z:Option V),σ=[some (.ref r),some (.int B),z]/\0<B/\(∀q∈qs.take i,(q.den:Int)∣B)/\Bd (n*i+1) B) ⟨Z,1,none,Z,by decide,fun q hq=>by simp at hq,by unfold Bd;rw[Nat.mul_zero];decide⟩ (fun i σ H' _ p=>by rw[p.1];exact hS) ?_ ?_
 ·rintro i x σ H' hx bb;refine C7 bb fun a0 ak=>?_;refine CK ak fun B z Y=>?_;clear ak;refine HH Y fun aC an J W=>?_;clear Y;obtain rfl:=a0;obtain rfl:=aC
  try clear bb
  obtain⟨c,hc,r',rfl,hr⟩:=(Paired.get hn hx);have hi:i<qs.length:=(Ue.mp hc).1;have bc:c∈qs:=UG hc;have be:0<(c.den:Int):=by have:=c.den_pos;lia
  obtain⟨l1,l2,l3⟩:=(N6 an be);have g0:(V1 B c.den:Int)≠0:=by have:=Nm.gcd_pos (a:=B) (b:=c.den) (by lia);lia
  have as:Bd n (Int.fdiv c.den (V1 B c.den:Int)):=(hB c bc).fdiv;have bf:n*i<=n*qs.length:=X0 n (by lia)
  have bh:n*(qs.length+2)=n*qs.length+2*n:=by rw[VO];lia
  refine⟨_,Z,_,Z,r',_,_,_,Z,Z,hr,Z,_,Z,_,Z,r',_,_,_,Z,Z,hr,Z,_,_,Z,_,_,Z,Z,g0,_,_,Z,Z,Bx.bd W as (by lia),?_⟩
  refine⟨Z,_,_,Z,l1,fun q' ap=>?_,?_⟩
  ·rw[Vj,hc]at ap
   rcases Uc.mp ap with z | z
   ·exact Int.dvd_trans (J q' z) l2
   ·have:q'=c:=by simpa using z
    subst this;exact l3
  ·have:=W.mul as;rw[VO,Nat.mul_one,show n*i+n+1=n*i+1+n by lia]
   exact this
 ·rintro σ H' ba;refine C7 ba fun aP al=>?_;refine CK al fun B z O=>?_;clear al;refine HH O fun aF an J W=>?_;clear O;obtain rfl:=aP;obtain rfl:=aF
  try clear ba
  rw[hl,Vl]at J;rw[hl]at W;exact⟨_,Z,q B an J W⟩
theorem IA:Ao ["numbers","bottom"] ["numbers","bottom"] (Af (top 22)):=fsc
theorem IK{f:aa}{fd:ag}(F:Fun K "tops_over" "tops_over" (top 22) f fd)(hT:P.given.tree=none) :
 Ay P w K mg base CX0 33 f fd ["numbers","bottom"] (Gs K):=by
 refine F.ok IA (fun vs H Q E h=>?_) (fun an A outer s H vs Q E Y h=>?_)
 ·obtain⟨_,_,_,_,_,_,_,rfl,_⟩:=h;rfl
 refine⟨_,(Ag (Ar (CB rfl (N:=["number","bottom"]) (nt:=1) (js:=[1]) (AW.look (NX:=["numbers","bottom"]) (sc:=Af (top 22)) rfl rfl (by decide +kernel)) (piS K (pv 0)) (fun u1 u2 u3 u4 u5=>(Ax (i:=0) (show List.Nodup (["number","bottom"]:List Str) from by decide +kernel) rfl (Or.inl rfl))) (AJ (by decide)) (fun u1 u2 u3 u4 u5=>Bz) (fun u1 u2 u3 u4 u5=>(Ah Aq (Aj (ixT K) (pv 0) Ac (fun u v=>rfl)) (Ah (BA Y hT) (pv 1) (Aj (ixT K) (pv 0) Ac (fun u v=>rfl)))))))),?_⟩
 obtain⟨b,r,xs,qs,B,m,n,rfl,hS,hn,J,ak,al,hz,q⟩:=h;have hl:=hn.length;refine N7 (b:=b) (a:=r) (xs:=xs) rfl (fun i zs H'=>H'=H/\zs=((qs.take i).map (AN B)).map V.int) ⟨Z,Z⟩ (fun i zs H' hi p=>⟨by rw[p.1];exact hS,by rw[p.2,UI,UI,Uy];lia⟩) (by rw[hl];exact U7 (AA hz)) ?_ ?_
 ·rintro i x zs H' hx ⟨rfl,rfl⟩;obtain⟨c,hc,r',rfl,Y⟩:=(Paired.get hn hx);have W:c∈qs:=UG hc;have O:(c.den:Int)≠0:=by have:=c.den_pos;lia
  refine⟨_,Z,r',_,_,_,Z,Z,Y,Z,_,Z,_,Z,r',_,_,_,Z,Z,Y,Z,_,_,Z,Z,O,_,_,Z,Z,Bx.bd (ak c W) (J.fdiv (y:=c.den)) (by lia),Z,?_⟩
  rw[Vj,hc,Vk,Vk]
  rfl
 ·rintro zs H' ⟨rfl,rfl⟩ p hp;rw[hl,Vl];exact q p hp
theorem C4:Ao ["first","second","product","k","j"] ["first","second"] (Af (top 26)):=fsc
theorem FL{f:aa}{fd:ag}(F:Fun K "whole_product" "whole_product" (top 26) f fd)(RG:mg "range" = none)(RF:mg "len" = none)(hT:P.given.tree=none) :
 Ay P w K mg base CX0 33 f fd ["first","second"] (Ka K):=by
 refine F.ok C4 (fun vs H Q E h=>?_) (fun b2 A outer s H vs Q E hr h=>?_)
 ·obtain⟨_,_,_,_,_,_,rfl,_⟩:=h;rfl
 refine⟨_,(Ad (K:=K) (Ai (i:=2) C4.nd rfl (Or.inl rfl) (Ah E7 (AE (A0 Ac Ab)) (Ah AS (Ah AF (Ak (Bw K) rfl RF AB (A0 (pv 0) Ab)) (Ak (Bw K) rfl RF AB (A0 (pv 1) Ab))) Ac)))
  (Ad (K:=K) (Ba (K:=K) PassesOwn.never rfl (Bj rfl RG (A0 (Ak (Bw K) rfl RF AB (A0 (pv 0) Ab)) Ab)) (Ax (i:=3) C4.nd rfl (Or.inl rfl)) (Ag (Ba (K:=K) PassesOwn.never rfl (Bj rfl RG (A0 (Ak (Bw K) rfl RF AB (A0 (pv 1) Ab)) Ab)) (Ax (i:=4) C4.nd rfl (Or.inl rfl)) (Ag (FH (Ah AF (Aj (ixL K) (pv 2) (Ah AF (pv 3) (pv 4)) (fun u v=>rfl)) (Ah Aq (Aj (ixL K) (pv 0) (pv 3) (fun u v=>rfl)) (Aj (ixL K) (pv 1) (pv 4) (fun u v=>rfl)))) (FI (pv 2) (Ah AF (pv 3) (pv 4)) Dj))) (by rfl))) (by rfl))
  (Ag (Ar (pv 2))) (by rfl)) (by rfl)),?_⟩
 obtain⟨f,g,fs,gs,m,n,rfl,hf,hg,bX,W,O,bn,bD,b1,q⟩:=h;have lf:(fs.map V.int).length=fs.length:=UI _;have lg:(gs.map V.int).length=gs.length:=UI _;have P1:1<=af:=by decide
 have b0:fs.length*gs.length<=1000*1000:=WQ W O;refine⟨P1,fun o ho=>?_⟩;have bZ:SqL K (upd H o (.lst [.int 0])) f (fs.map V.int):=MA hf ho;have bY:SqL K (upd H o (.lst [.int 0])) g (gs.map V.int):=MA hg ho;refine⟨_,Z,f,_,Z,.inl bZ,_,Z,g,_,Z,.inl bY,_,_,Z,Z,_,_,Z,Z,o,_,_,Z,Z,Aa,?_,?_,?_,fun p hp=>?_⟩
 ·rw[lf,lg];lia
 ·rw[lf,lg];lia
 ·show 1*(((fs.map V.int).length:Int)+((gs.map V.int).length:Int)-1).toNat<=af;rw[lf,lg,VE];exact U6 (M7 W O) (by decide:2*1000<=af)
 have bF:H p=none:=by
  cases z:H p with
  | none=>rfl
  | some u=>rw[(Ae.new ho) p u z]at hp;cases hp
 have eL:(((fs.map V.int).length:Int)+((gs.map V.int).length:Int)-1).toNat=fs.length+gs.length-1:=by rw[lf,lg];exact MY bX
 rw[eL];have s0:Ae H (upd (upd H o (.lst [.int 0])) p (.lst (Ux (fs.length+gs.length-1) [V.int 0]).flatten)):=(Ae.new ho).trans (Ae.new hp);have e0:(Ux (fs.length+gs.length-1) [V.int 0]).flatten=(Ux (fs.length+gs.length-1) (0:Int)).map V.int:=by rw[List.flatten_replicate_singleton,List.map_replicate]
 rw[e0]at s0 ⊢;refine⟨_,Z,f,_,Z,.inl (Ae.seq s0 hf),_,Z,by rw[lf];lia,by rw[lf];lia,?_⟩
 rw[lf,UM]
 refine C5 (n:=fs.length) (L8 H f g p fs gs m n fun H f g p fs gs m n i σ H'=>Ae H H'/\∃(ps:List Int) (z3 z4:Option V),σ=[some (.ref f),some (.ref g),some (.ref p),z3,z4]/\H' p=some (.lst (ps.map V.int))/\ps.length=fs.length+gs.length-1/\(∀x,Cv.evI ps x=Cv.evI (fs.take i) x*Cv.evI gs x)/\∀t∈ps,Up (i*gs.length) (m+n) t)
  ⟨s0,_,none,none,Z,Aa,UJ,fun x=>?_,fun t ht=>?_⟩ ?_ ?_
 ·rw[Cv.evI_zeros,VY];show(0:Rat)=0*_
  grind
 ·rw[(WR.mp ht).2];exact Uo _
 ·rintro i σ H' hi bN;refine C7 bN fun sm bb=>?_;refine Gk bb fun ps z3 z4 an=>?_;clear bb;refine Eh an fun bu ep bf be bg=>?_;clear an;obtain rfl:=bu
  try clear bN
  have bC:fs[i]? = some fs[i]:=Vy hi;refine⟨_,Z,g,_,Z,.inl (Ae.seq sm hg),_,Z,by rw[lg];lia,by rw[lg];lia,?_⟩
  rw[lg,UM]
  refine C5 (n:=gs.length) (fun j σ H'=>Ae H H'/\∃(ps:List Int) (z4:Option V),σ=[some (.ref f),some (.ref g),some (.ref p),some (.int (0+(i:Int))),z4]/\H' p=some (.lst (ps.map V.int))/\ps.length=fs.length+gs.length-1/\(∀x,Cv.evI ps x=Cv.evI (fs.take i) x*Cv.evI gs x+(fs[i]:Rat)*x ^ i*Cv.evI (gs.take j) x)/\∀t∈ps,Up (i*gs.length+j) (m+n) t)
   ⟨sm,ps,z4,Z,ep,bf,fun x=>?_,bg⟩ ?_ ?_
  ·rw[be x,VY];show _=_+_*(0:Rat)
   grind
  ·rintro j σ H2 hj bG;refine C7 bG fun al a0=>?_;refine CK a0 fun Y bW as=>?_;clear a0;refine Eh as fun bt aP ak aF J=>?_;clear as;obtain rfl:=bt
   try clear bG
   have bx:gs[j]? = some gs[j]:=Vy hj;have bh:i+j<Y.length:=PM hi hj ak;have bw:Y[i+j]? = some Y[i+j]:=Vy bh;have bm:Bx fs[i] gs[j]:=Bx.bd (bn _ (Vz hi)) (bD _ (Vz hj)) (by lia)
   refine⟨_,Z,_,Z,_,Z,_,_,Z,Z,p,_,_,_,Z,Z,SqL.of aP,DP bw (by lia),_,Z,_,Z,f,_,_,_,Z,Z,Ae.seq al hf,DP bC (by lia),_,Z,_,Z,g,_,_,_,Z,Z,Ae.seq al hg,DP bx (by lia),_,_,Z,Z,bm,_,_,Z,Z,?_⟩
   refine⟨_,Z,_,Z,_,Z,_,_,Z,Z,p,_,_,i+j,Z,Z,aP,Hf (by rw[UI];exact bh) (by lia),?_⟩
   refine⟨al.put bF,Y.set (i+j) (Y[i+j]+fs[i]*gs[j]),_,Z,?_,by rw[UR];exact ak,fun x=>?_,fun t ht=>?_⟩
   ·rw[Aa,Vi]
   ·rw[Cv.evI_set x Y (i+j) _ _ bw,aF x,Cv.evI_take_succ x gs j _ bx,Va,Nm.pow_add]
    grind
   ·rcases List.mem_or_eq_of_mem_set ht with z | z
    ·exact(J t z).mono (by lia)
    ·subst z;exact(J _ (Vz bh)).add ((bn _ (Vz hi)).mul (bD _ (Vz hj)))
  ·rintro σ H2 bq;refine C7 bq fun al ba=>?_;refine CK ba fun Y bW aC=>?_;clear ba;refine Eh aC fun bl aP ak aF J=>?_;clear aC;obtain rfl:=bl
   try clear bq
   refine⟨al,Y,_,_,Z,aP,ak,fun x=>?_,fun t ht=>?_⟩
   ·rw[aF x,Vl,Cv.evI_take_succ x fs i _ bC]
    grind
   ·have:=J t ht;rw[VD,VE];exact this
 ·rintro σ H' bp;refine C7 bp fun sm bc=>?_;refine Gk bc fun ps z3 z4 ap=>?_;clear bc;refine Eh ap fun bB ep bf be bg=>?_;clear ap;obtain rfl:=bB
  try clear bp
  refine⟨_,Z,q p H' ps sm bF ep bf (fun x=>?_) (fun t ht=>?_)⟩
  ·rw[be x,Vl]
  ·exact(bg t ht).bd (k:=20) (by lia)
theorem BF:Ao ["knots","steps","bottom","step_tops","tops","scale","k"] ["knots","steps"] (Af (top 48)):=fsc
theorem Jt{f:aa}{fd:ag}(F:Fun K "by_steps" "by_steps" (top 48) f fd)(RP:Fd P w K mg base 34 "bottom_of" ["numbers"] (HL K))(RV:Fd P w K mg base 33 "tops_over" ["numbers","bottom"] (Gs K))(RU:Fd P w K mg base 35 "curve_over" ["tops","bottom"] (Cu K))(SY:Fd P w K mg base 33 "whole_product" ["first","second"] (Ka K))(RG:mg "range" = none)(RF:mg "len" = none)(hT:P.given.tree=none) :
 Ay P w K mg base CX0 36 f fd ["knots","steps"] (CL K):=by
 refine F.ok BF (fun vs H Q E h=>?_) (fun cn A outer s H vs Q E hr h=>?_)
 ·obtain⟨_,_,_,_,_,_,_,rfl,_⟩:=h;rfl
 refine⟨_,(Ad (K:=K) (Ai (i:=2) BF.nd rfl (Or.inl rfl) (Al RP hr rfl (A0 (pv 1) Ab)))
  (Ad (K:=K) (Ai (i:=3) BF.nd rfl (Or.inl rfl) (Al RV hr rfl (A0 (pv 1) (A0 (pv 2) Ab))))
  (Ad (K:=K) (Ai (i:=4) BF.nd rfl (Or.inl rfl) (AE Ab))
  (Ad (K:=K) (Ai (i:=5) BF.nd rfl (Or.inl rfl) Ac)
  (Ad (K:=K) (Ba (K:=K) PassesOwn.never rfl (Lc rfl RG (A0 (Ah AS (Ak (Bw K) rfl RF AB (A0 (pv 0) Ab)) Ac) (A0 (E5 CP Ac) (A0 (E5 CP Ac) Ab)))) (Ax (i:=6) BF.nd rfl (Or.inl rfl)) (Ad (K:=K) (Ai (i:=4) BF.nd rfl (Or.inl rfl) (Al SY hr rfl (A0 (pv 4) (A0 (AE (A0 (E5 CP (Aj (ixT K) (Aj (ixL K) (pv 0) (pv 6) (fun u v=>rfl)) Ac (fun u v=>rfl))) (A0 (Aj (ixT K) (Aj (ixL K) (pv 0) (pv 6) (fun u v=>rfl)) Ac (fun u v=>rfl)) Ab))) Ab))))
  (Ad (K:=K) (Ai (i:=5) BF.nd rfl (Or.inl rfl) (Ah Aq (pv 5) (Aj (ixT K) (Aj (ixL K) (pv 0) (pv 6) (fun u v=>rfl)) Ac (fun u v=>rfl))))
  (Ag (FH (Ah AF (Aj (ixL K) (pv 4) Ac (fun u v=>rfl)) (Ah Aq (Aj (ixL K) (pv 3) (pv 6) (fun u v=>rfl)) (pv 5))) (FI (pv 4) Ac Dj))) (by rfl)) (by rfl)) (by rfl))
  (Ag (Ar (Al RU hr rfl (A0 (pv 4) (A0 (Ah Aq (pv 2) (pv 5)) Ab))))) (by rfl)) (by rfl)) (by rfl)) (by rfl)) (by rfl)),?_⟩
 obtain⟨rk,al,xs,ys,ks,Y,n,rfl,hk,bW,hs,bn,aP,cf,aC,bh,ce,q⟩:=h;have bF:=bW.length;have cr:=bn.length;have P0:0<=af:=by decide
 have P2:2<=af:=by decide
 have cq:n*ks.length<=2048000*13:=WQ ce cf;have cm:n*Y.length=n*ks.length:=by rw[aP]
 refine⟨_,Z,true,al,ys,Y,n,Z,hs,bn,(fun c hc=>(bh c hc).2),by rw[VO];lia,fun B cp b9 ap=>?_⟩
 refine⟨_,Z,_,Z,true,al,ys,Y,B,n*Y.length+1,n,Z,hs,bn,ap,(fun c hc=>(bh c hc).1),by lia,by lia,fun st h1=>?_⟩
 refine⟨P0,fun tp h2=>?_⟩;have s2:Ae H (upd (upd H st (.lst ((Y.map (AN B)).map V.int))) tp (.lst [])):=(Ae.new h1).trans (Ae.new h2);have b8:(upd (upd H st (.lst ((Y.map (AN B)).map V.int))) tp (.lst [])) st=some (.lst ((Y.map (AN B)).map V.int)):=(Ae.new h2) _ _ Aa;have b0:(upd (upd H st (.lst ((Y.map (AN B)).map V.int))) tp (.lst [])) tp=some (.lst (([]:List Int).map V.int)):=Aa;generalize upd (upd H st (.lst ((Y.map (AN B)).map V.int))) tp (.lst [])=H2 at s2 b8 b0 ⊢;refine⟨_,Z,rk,xs,Z,.inl (Ae.seq s2 hk),_,_,Z,Z,_,Z,_,Z,_,_,Z,⟨by lia,by lia,by decide,by decide⟩,?_⟩
 have eT:((xs.length:Int)-1 - -1).toNat=ks.length:=Ol bF;rw[eT]
 refine JM (n:=ks.length) (L8 H2 rk al B st ks Y n fun H2 rk al B st ks Y n i σ H'=>Ae H2 H'/\∃(tp:aa) (ts:List Int) (s:Int) (z:Option V),σ=[some (.ref rk),some (.ref al),some (.int B),some (.ref st),some (.ref tp),some (.int s),z]/\H' tp=some (.lst (ts.map V.int))/\ts.length=i/\s≠0 /\
  (∀x,Cv.evI ts x=Bb (ks.drop (ks.length-i)) (Y.drop (ks.length-i)) x*((B:Rat)*(s:Rat)))/\(∀t∈ts,Bd (n*ks.length+n*i+21*i+2*n+30) t)/\Bd (n*i+1) s)
  ⟨Ae.refl _,tp,[],1,none,Z,b0,Z,by decide,fun x=>?_,(fun _ h=>nomatch h),?_⟩ ?_ ?_
 ·rw[VL,VZ (Uk _)];show(0:Rat)=0*_
  grind
 ·exact(show Bd 1 1 by unfold Bd;decide).mono (by lia)
 ·rintro i σ H' hi b5;refine C7 b5 fun sm bc=>?_;refine Nl bc fun bu ts s z O=>?_;clear bc;refine Qj O fun bG J b4 hs0 he bp W=>?_;clear O;obtain rfl:=bG
  try clear b5
  have hj:ks.length-1-i<ks.length:=PL hi;have b7:ks.length-1-i<Y.length:=by lia
  have bl:ks[ks.length-1-i]? = some ks[ks.length-1-i]:=Vy hj;have bw:Y[ks.length-1-i]? = some Y[ks.length-1-i]:=Vy b7;have an:ks[ks.length-1-i]∈ks:=Vz hj;have bg:Y[ks.length-1-i]∈Y:=Vz b7;generalize ks[ks.length-1-i]=c at bl an;generalize Y[ks.length-1-i]=d at bw bg;obtain⟨xk,cc,aF,rfl,bY⟩:=(Paired.get' bW bl);have ei:(xs.length:Int)-1-(i:Int)=((ks.length-1-i:Nat):Int):=N0 bF hi;have bf:atI xs ((xs.length:Int)-1-(i:Int))=some (.ref aF):=by rw[ei];exact Bg cc
  have bC:atI ((Y.map (AN B)).map V.int) ((xs.length:Int)-1-(i:Int))=some (.int (AN B d)):=DP (by rw[UC,bw];rfl) ei
  have co:n*i<=n*ks.length:=X0 n (by lia)
  have ck:n*(i+1)=n*i+n:=by rw[VO,Nat.mul_one]
  have bt:Bd (n*ks.length+n+1) (AN B d):=((bh d bg).1.mul (ap.fdiv (y:=d.den))).mono (by lia)
  have sH:=s2.trans sm;have a0:=bY.same sH;refine⟨_,Z,_,Z,_,Z,rk,xs,_,_,Z,Z,Ae.seq sH hk,bf,aF,_,_,_,Z,Z,a0,Z,_,Z,_,Z,_,Z,rk,xs,_,_,Z,Z,Ae.seq sH hk,bf,aF,_,_,_,Z,Z,a0,Z,P2,fun g hg=>?_⟩;have sg:Ae H' (upd H' g (.lst [.int (-c.num),.int (c.den:Int)])):=Ae.new hg;have eg:(upd H' g (.lst [.int (-c.num),.int (c.den:Int)])) g=some (.lst ([-c.num,(c.den:Int)].map V.int)):=Aa;generalize upd H' g (.lst [.int (-c.num),.int (c.den:Int)])=Hg at sg eg ⊢
  have bD:∀t∈[-c.num,(c.den:Int)],Bd n t:=fun t ht=>by
   rcases Ub.mp ht with z | z
   ·subst z;exact(aC c an).1.neg
   ·rw[Vx.mp z];exact(aC c an).2
  refine⟨bu,g,ts,[-c.num,(c.den:Int)],n*ks.length+n*i+21*i+2*n+30,n,Z,SqL.of (sg _ _ J),SqL.of eg,(show 1<=2 by decide),by lia,(show 2<=1000 by decide),bp,bD,by lia,fun pr H6 ps s6 cj bB ci cg bZ=>?_⟩
  have be:ps.length=i+1:=by rw[ci,b4];rfl
  have bx:0<ps.length:=by rw[be];exact VR i
  have h0:ps[0]? = some ps[0]:=Vy bx;have bN:=sg.trans s6;have b6:=sH.trans bN;have ms:Bx s (c.den:Int):=Bx.bd W (aC c an).2 (by lia)
  have bq:Bd (n*(i+1)+1) (s*(c.den:Int)):=(W.mul (aC c an).2).mono (by lia)
  refine⟨_,Z,_,Z,_,Z,rk,xs,_,_,Z,Z,Ae.seq b6 hk,bf,aF,_,_,_,Z,Z,bY.same b6,Z,_,_,Z,Z,ms,?_⟩;refine⟨_,Z,pr,_,_,_,Z,Z,SqL.of bB,DP h0 rfl,_,Z,_,Z,st,_,_,_,Z,Z,SqL.of (bN _ _ (sm _ _ b8)),bC,_,Z,_,_,Z,Z,Bx.bd bt bq (by lia),_,_,Z,Z,?_⟩
  refine⟨_,Z,pr,_,_,0,Z,Z,bB,Hf (by rw[UI];lia) rfl,?_⟩
  have ca:Ae H2 (upd H6 pr (.lst ((ps.map V.int).set 0 (.int (ps[0]+AN B d*(s*(c.den:Int))))))):=fun bb u zz=>by
   have z1:=sg _ _ (sm bb u zz);rw[Am (Av z1 cj)];exact s6 bb u z1
  refine⟨ca,pr,ps.set 0 (ps[0]+AN B d*(s*(c.den:Int))),s*(c.den:Int),_,Z,?_,by rw[UR];exact be,V9 hs0 (Nm.den_ne c),fun x=>?_,fun t ht=>?_,bq⟩
  ·rw[Aa,Vi]
  ·rw[Cv.evI_set x ps 0 _ _ h0,cg x,Nn,he x,Vd,J2 rfl hi bl,J2 aP.symm hi bw];show _=(d+(x-c)*Bb _ _ x)*_;rw[Va,Va,Fz (b9 d bg)]
   grind
  ·rcases List.mem_or_eq_of_mem_set ht with zz | zz
   ·exact(bZ t zz).mono (by lia)
   ·subst zz;have b1:=(bZ _ (Vz bx)).mono (n:=n*ks.length+n*i+21*i+2*n+30+n+20) (by lia)
    have b2:=(bt.mul bq).mono (n:=n*ks.length+n*i+21*i+2*n+30+n+20) (by lia)
    exact(Bd.add b1 b2).mono (by lia)
 ·rintro σ H' b3;refine C7 b3 fun sm ba=>?_;refine Nl ba fun bu ts s z ak=>?_;clear ba;refine Qj ak fun bX J b4 hs0 he bp W=>?_;clear ak;obtain rfl:=bX
  try clear b3
  have as:B*s≠0:=V9 (by lia) hs0
  refine⟨_,Z,_,Z,_,Z,_,_,Z,Z,Bx.bd ap W (by lia),bu,ts,B*s,Z,SqL.of J,as,by lia,fun p H6 s6 c6=>?_⟩
  refine q p H6 _ ((s2.trans sm).trans s6) c6 (by have:=Cv.strip_length (ts.map fun t=>V3 t (B*s));rw[UI]at this;lia) (Bs _) (fun c hc=>?_) fun x=>?_
  ·have cb:=Cv.strip_mem _ c hc;obtain⟨t,ht,rfl⟩:=(VU.mp cb);exact RB.div (m:=0) ((bp t ht).mono (by lia)) ((ap.mul W).mono (by lia)) as
  rw[Cv.ev_strip];have h7:=Lw as x ts;rw[he x,VX,VJ,VJ,<- Va]at h7;exact Od (Nm.cast_ne as) h7
theorem DD:Ao ["points","told","point","k"] ["points"] (Af (top 32)):=fsc
theorem Kp{f:aa}{fd:ag}(F:Fun K "told_in" "told_in" (top 32) f fd)(RG:mg "range" = none)(RF:mg "len" = none)(hT:P.given.tree=none) :
 Ay P w K mg base CX0 33 f fd ["points"] (Im K):=by
 refine F.ok DD (fun vs H Q E h=>?_) (fun b0 A outer s H vs Q E hr h=>?_)
 ·obtain⟨_,_,_,rfl,_⟩:=h;rfl
 refine⟨_,(Ad (K:=K) (Ai (i:=1) DD.nd rfl (Or.inl rfl) (AE Ab))
  (Ad (K:=K) (Ba (K:=K) PassesOwn.never rfl (piT K (pv 0)) (Ax (i:=2) DD.nd rfl (Or.inl rfl)) (Ag (Ba (K:=K) PassesOwn.never rfl (Bj rfl RG (A0 (Ah AS (Ak (Bw K) rfl RF AB (A0 (pv 2) Ab)) Ac) Ab)) (Ax (i:=3) DD.nd rfl (Or.inl rfl)) (Ag (BG (E6 K PySem.F.plainAttrs_list PySem.F.slot_list_append PySem.F.type_list_append CM (pv 1) (A0 (AL (A0 (Aj (ixT K) (pv 2) Ac (fun u v=>rfl)) (A0 (pv 3) (A0 (Aj (ixT K) (pv 2) (Ah AF (pv 3) Ac) (fun u v=>rfl)) Ab)))) Ab)))) (by rfl))) (by rfl))
  (Ag (Ar (pv 1))) (by rfl)) (by rfl)),?_⟩
 obtain⟨r,xs,pss,rfl,hS,hp,be,bZ,q⟩:=h;have P0:0<=af:=by decide
 have P3:3<=af:=by decide
 have bF:=hp.length;refine⟨P0,fun p aF=>?_⟩;refine⟨_,Z,r,Z,⟨_,SqT.same hS (Ae.new aF)⟩,Gr (xs:=xs) (L5 H r p K pss fun H r p K pss i σ H'=>Ae H H'/\∃ys z2 z3,σ=[some (.ref r),some (.ref p),z2,z3]/\H' p=some (.lst ys)/\Ho K H' ys (AX (pss.take i))) ⟨Ae.new aF,[],none,none,Z,Aa,.nil⟩ (fun i σ H' _ h=>hS.same h.1) ?_ ?_⟩
 ·rintro i v σ H' hv bu;refine C7 bu fun sm a0=>?_;refine Gk a0 fun ys z2 z3 ap=>?_;clear a0;refine C2 ap fun bd ep al=>?_;clear ap;obtain rfl:=bd
  try clear bu
  obtain⟨ps,bl,a,zs,pp,rfl,bc,bf,bG,bB⟩:=(Paired.get hp hv);have bx:=be ps (UG bl);have bX:=bf.length
  have bW:ys.length<=200:=by
   have h1:=Cm (pss.take i) (be.take i);rw[Uy]at h1;rw[al.length];lia
  refine⟨_,Z,a,zs,Z,.inr (bc.same sm),_,_,Z,Z,_,Z,by lia,by lia,?_⟩
  rw[show(((zs.length:Nat):Int)-1).toNat=ps.length-1 from Ee bX];refine C5 (n:=ps.length-1) (L8 H r p a K pss i ps fun H r p a K pss i ps k σ H2=>Ae H H2/\∃Y z3,σ=[some (.ref r),some (.ref p),some (.ref a),z3]/\H2 p=some (.lst Y)/\Ho K H2 Y (AX (pss.take i)++(C9 ps).take k)) ⟨sm,ys,z3,Z,ep,by rw[VY,Uu];exact al⟩ ?_ ?_
  ·rintro k σ H2 hk bp;refine C7 bp fun J bb=>?_;refine CK bb fun Y bw as=>?_;clear bb;refine C2 as fun bt O W=>?_;clear as;obtain rfl:=bt
   try clear bp
   have g0:=BC (l:=ps) (i:=0) (by lia)
   have gk:=BC (l:=ps) (i:=k+1) (by lia)
   obtain⟨xk,bC,bD⟩:=(Paired.get' bf gk);have ak:atI zs (0+(k:Int)+1)=some xk:=by rw[show 0+(k:Int)+1=((k+1:Nat):Int) by lia];exact Bg bC
   have bY:Y.length<=204:=by
    have h1:=al.length;have h2:=Bk ps;rw[W.length,UH,Uy];exact Oo bW hk bx h1
   refine⟨_,Z,.inl ⟨Z,_,SqL.of O⟩,_,Z,a,zs,_,.ref pp,Z,Z,bc.same J,Bg (j:=0) bG,_,Z,_,Z,_,Z,_,_,Z,Z,a,zs,_,xk,Z,Z,bc.same J,ak,P3,fun t ht=>?_⟩;have s3:Ae H2 (upd H2 t (.tup [.ref pp,.int (0+(k:Int)),xk])):=Ae.new ht;have tp:t≠p:=(Av O ht).symm
   have bN:(upd (upd H2 t (.tup [.ref pp,.int (0+(k:Int)),xk])) p (.lst (Y++[.ref t]))) pp=some (nT (ps.getD 0 0)):=by
    have z:=s3 _ _ (J _ _ bB);rw[Am (Gf z (s3 _ _ O) (fun z=>by cases z))];exact z
   refine⟨p,Y,.ref t,Z,Z,s3 _ _ O,TX (show Y.length<300 by lia) (by decide),(J.trans s3).put aF,Y++[.ref t],_,Z,Aa,?_⟩
   have gt:(C9 ps)[k]? = some ⟨ps.getD 0 0,(k:Int),ps.getD (k+1) 0⟩:=by
    unfold C9;rw[UC,Wa hk];rfl
   rw[Vj,gt,<- UU];refine Paired.snoc (Ho.put (Ho.same W s3) (s3 _ _ O)) ⟨t,pp,xk,Z,SqT.of ?_,bN,((bD.same J).same s3).put (s3 _ _ O)⟩;rw[Am tp,Aa,Int.zero_add]
  ·rintro σ H2 bh;refine C7 bh fun J ba=>?_;refine CK ba fun Y bw an=>?_;clear ba;refine C2 an fun bn O W=>?_;clear an;obtain rfl:=bn
   try clear bh
   refine⟨J,Y,_,_,Z,O,?_⟩;have e:pss.take (i+1)=pss.take i++[ps]:=by rw[Vj,bl];rfl
   rw[e,LQ];have et:(C9 ps).take (ps.length-1)=C9 ps:=VW (by rw[Bk];exact Uk _)
   rw[et]at W;exact W
 ·rintro σ H' bg;refine C7 bg fun sm aP=>?_;refine Gk aP fun ys z2 z3 aC=>?_;clear aP;refine C2 aC fun bq ep al=>?_;clear aC;obtain rfl:=bq
  try clear bg
  rw[bF,Vl]at al;exact⟨_,Z,q p H' ys sm aF ep al⟩
theorem Jl:Ao ["points"] ["points"] (Af (top 33)):=fsc
theorem Jr{f:aa}{fd:ag}(F:Fun K "knots_of" "knots_of" (top 33) f fd)(T1:Fd P w K mg base 33 "told_in" ["points"] (Im K))(hT:P.given.tree=none) :
 Ay P w K mg base CX0 34 f fd ["points"] (EV K):=by
 refine F.ok Jl (fun vs H Q E h=>?_) (fun an A outer s H vs Q E hr h=>?_)
 ·obtain⟨_,_,_,rfl,_⟩:=h;rfl
 refine⟨_,(Ag (Ar (CB rfl (N:=["told"]) (nt:=1) (js:=[]) (AW.look (NX:=["points"]) (sc:=Af (top 33)) rfl rfl (by decide +kernel)) (piL K (Al T1 hr rfl (A0 (pv 0) Ab))) (fun u1 u2 u3 u4 u5=>(Ax (i:=0) (show List.Nodup (["told"]:List Str) from by decide +kernel) rfl (Or.inl rfl))) (AJ (by decide)) (fun u1 u2 u3 u4 u5=>Bz) (fun u1 u2 u3 u4 u5=>(Aj (ixT K) (pv 0) Ac (fun u v=>rfl)))))),?_⟩
 obtain⟨r,xs,pss,rfl,hS,hp,J,ak,q⟩:=h;refine Cb ⟨_,Z,r,xs,pss,Z,hS,hp,J,ak,fun w Hw ws sw hw ew O=>⟨w,Z,⟨_,SqL.of ew⟩,?_⟩⟩
 have ap:ws.length<=200:=by
  have h1:=Cm pss fun ps hp=>by have:=J ps hp;lia
  rw[O.length];lia
 refine Dg (xs:=ws) (L2 Hw pss fun Hw pss i zs H'=>H'=Hw/\zs.length=i/\Aw Hw zs (((AX pss).take i).map Hn.x)) ⟨Z,Z,.nil⟩ (fun i zs H' _ h=>⟨by rw[h.1];exact SqL.of ew,h.2.1⟩) (U7 (AA (by lia))) ?_ ?_
 ·rintro i v zs H' hv ⟨rfl,al,Y⟩;obtain⟨t,ht,a,rx,rn,rfl,ha,hx,_⟩:=(Paired.get O hv);have hx:Fw H' (.ref rx) t.x:=⟨_,Z,hx⟩;refine⟨_,Z,a,_,_,_,Z,Z,ha,Z,Z,by simp[al],?_⟩
  rw[Vj,ht,Vk];exact Paired.snoc Y hx
 rintro zs H' ⟨rfl,al,Y⟩ p W;rw[O.length,Vl]at Y;exact q p _ zs (sw.trans (Ae.new W)) (sw.free W) Aa (Aw.same Y (Ae.new W))
theorem DE:Ao ["points","slopes","point"] ["points"] (Af (top 44)):=fsc
theorem IL{f:aa}{fd:ag}(F:Fun K "slopes_in" "slopes_in" (top 44) f fd)(RF:mg "len" = none)(hT:P.given.tree=none) :
 Ay P w K mg base CX0 33 f fd ["points"] (FC K):=by
 refine F.ok DE (fun vs H Q E h=>?_) (fun an A outer s H vs Q E hr h=>?_)
 ·obtain⟨_,_,_,rfl,_⟩:=h;rfl
 refine⟨_,(Ad (K:=K) (Ai (i:=1) DE.nd rfl (Or.inl rfl) MT)
  (Ad (K:=K) (Ba (K:=K) PassesOwn.never rfl (piT K (pv 0)) (Ax (i:=2) DE.nd rfl (Or.inl rfl)) (Ag (AG (K:=K) (Ap Ex (Ak (Bw K) rfl RF AB (A0 (pv 2) Ab)) Ac (As _)) (Ag Ca) Az (by rfl) (by rfl))) (by rfl))
  (Ag (Ar (pv 1))) (by rfl)) (by rfl)),?_⟩
 obtain⟨r,xs,pss,rfl,hS,hp,h2,al,q⟩:=h;refine fun d hd=>?_;refine⟨_,Z,r,Z,⟨_,SqT.same hS (Ae.new hd)⟩,Gr (xs:=xs) (fun i σ H'=>Ae H H'/\∃W,σ=[some (.ref r),some (.ref d),W]) ⟨Ae.new hd,none,Z⟩ (fun i σ H' _ h=>hS.same h.1) ?_ ?_⟩
 ·rintro i v σ H' hv ⟨Y,W,rfl⟩;obtain⟨ps,ak,a,us,p,rfl,J,O,aF,aC⟩:=(Paired.get hp hv);have as:=h2 ps (UG ak);have ap:=O.length;refine⟨_,Z,a,us,Z,.inr (J.same Y),Z,_,Z,?_⟩;exact AK (decide_eq_false (show ¬V.int (us.length:Int)=V.int 3 from fun z=>by have:=V.int.inj z;lia)) ⟨Y,_,Z⟩
 ·rintro σ H' ⟨Y,W,rfl⟩;exact⟨_,Z,q d H' Y⟩
theorem DH:Ao ["points","row","point"] ["points"] (Af (top 43)):=fsc
theorem IS{f:aa}{fd:ag}(F:Fun K "first_row" "first_row" (top 43) f fd)(RF:mg "len" = none)(hT:P.given.tree=none) :
 Ay P w K mg base CX0 33 f fd ["points"] (K9 K):=by
 refine F.ok DH (fun vs H Q E h=>?_) (fun bp A outer s H vs Q E hr h=>?_)
 ·obtain⟨_,_,_,rfl,_⟩:=h;rfl
 refine⟨_,(Ad (K:=K) (Ai (i:=1) DH.nd rfl (Or.inl rfl) (AE Ab))
  (Ad (K:=K) (Ba (K:=K) PassesOwn.never rfl (piT K (pv 0)) (Ax (i:=2) DH.nd rfl (Or.inl rfl)) (Ag (BG (E6 K PySem.F.plainAttrs_list PySem.F.slot_list_extend PySem.F.type_list_extend Ma (pv 1) (A0 (Ah E7 (AE (A0 (Aj (ixT K) (pv 2) Ac (fun u v=>rfl)) Ab)) (Ah AS (Ak (Bw K) rfl RF AB (A0 (pv 2) Ab)) Ac)) Ab)))) (by rfl))
  (Ag (Ar (pv 1))) (by rfl)) (by rfl)),?_⟩
 obtain⟨r,xs,pss,rfl,hS,hp,ap,bl,q⟩:=h;have P0:0<=af:=by decide
 have P1:1<=af:=by decide
 have bf:=hp.length;refine⟨P0,fun p J=>?_⟩;refine⟨_,Z,r,Z,⟨_,SqT.same hS (Ae.new J)⟩,Gr (xs:=xs) (L5 H r p K pss fun H r p K pss i σ H'=>Ae H H'/\∃ys z2,σ=[some (.ref r),some (.ref p),z2]/\H' p=some (.lst ys)/\Au K H' ys (Dl (pss.take i))) ⟨Ae.new J,[],none,Z,Aa,.nil⟩ (fun i σ H' _ h=>hS.same h.1) ?_ ?_⟩
 ·rintro i v σ H' hv bd;refine C7 bd fun sm an=>?_;refine CK an fun ys z2 O=>?_;clear an;refine C2 O fun aC ep W=>?_;clear O;obtain rfl:=aC
  try clear bd
  obtain⟨ps,a0,a,us,pp,rfl,bb,ba,bq,bn⟩:=(Paired.get hp hv);have aF:=ap ps (UG a0);have as:=ba.length;have e:pss.take (i+1)=pss.take i++[ps]:=by rw[Vj,a0];rfl
  have g1:=BC (l:=ps) (i:=1) (by lia)
  obtain⟨x1,be,bg⟩:=(Paired.get' ba g1)
  have bh:ys.length<=200:=by
   have h1:=Cm (pss.take i) (ap.take i);rw[Uy]at h1;rw[W.length,E3];lia
  refine⟨_,Z,.inl ⟨Z,_,SqL.of ep⟩,_,Z,a,us,_,x1,Z,Z,bb.same sm,Bg (j:=1) be,P1,fun l hl=>?_⟩;have s1:Ae H' (upd H' l (.lst [x1])):=Ae.new hl;refine⟨_,Z,a,us,Z,.inr ((bb.same sm).same s1),_,_,Z,Z,l,_,[x1],Z,Z,Aa,by lia,by lia,?_,fun m hm=>?_⟩
  ·have z:(((us.length:Nat):Int)-1).toNat<=2:=Oj as aF;exact U6 (WQ (Uk _) z) (by show 2<=af;decide)
  have s2:=s1.trans (Ae.new (o:=.lst (Ux (((us.length:Nat):Int)-1).toNat [x1]).flatten) hm);have en:(((us.length:Nat):Int)-1).toNat=ps.length-1:=Ee as;have ak:=s2 _ _ ep;refine⟨p,m,ys,_,Z,Z,ak,Aa,?_,?_⟩
  ·rw[Lj,en];exact U6 (show ys.length+(ps.length-1)*1<=300 from Om bh aF) (by decide)
  refine⟨(sm.trans s2).put J,_,_,Z,Aa,?_⟩;rw[e,LY,en];have hr:Au K (upd (upd H' l (.lst [x1])) m (.lst (Ux (((us.length:Nat):Int)-1).toNat [x1]).flatten)) (Ux (ps.length-1) [x1]).flatten (Ux (ps.length-1) (ps.getD 1 0)):=EY ((bg.same sm).same s2) _;rw[en]at hr ak s2;exact Paired.append (Au.put (Au.same W s2) ak) (Au.put hr ak)
 ·rintro σ H' bc;refine C7 bc fun sm al=>?_;refine CK al fun ys z2 Y=>?_;clear al;refine C2 Y fun aP ep W=>?_;clear Y;obtain rfl:=aP
  try clear bc
  rw[bf,Vl]at W;exact⟨_,Z,q p H' ys sm J ep W⟩
theorem O9:Ao ["a","b"] ["a","b"] (Af (top 17)):=fsc
theorem Oh{f:aa}{fd:ag}(F:Fun K "over" "over" (top 17) f fd)(RL:Fd P w K mg base 34 "number_of" ["top","bottom"] (Eu))(hT:P.given.tree=none) :
 Ay P w K mg base CX0 35 f fd ["a","b"] (Iv K):=by
 refine F.ok O9 (fun vs H Q E h=>?_) (fun ak A outer s H vs Q E hr h=>?_)
 ·obtain⟨_,_,_,_,_,_,rfl,_⟩:=h;rfl
 refine⟨_,(Ag (Ar (Al RL hr rfl (A0 (Ah Aq (Aj (ixT K) (pv 0) Ac (fun u v=>rfl)) (Aj (ixT K) (pv 1) Ac (fun u v=>rfl))) (A0 (Ah Aq (Aj (ixT K) (pv 0) Ac (fun u v=>rfl)) (Aj (ixT K) (pv 1) Ac (fun u v=>rfl))) Ab))))),?_⟩;obtain⟨x,y,p,q,m,n,rfl,⟨r,rfl,Y⟩,⟨u,rfl,O⟩,W,hp,J,al,k⟩:=h;have hn:q.num≠0:=fun z=>W (Rat.num_eq_zero.mp z);refine⟨_,Z,r,_,_,_,Z,Z,Y,Z,_,Z,u,_,_,_,Z,Z,O,Z,_,_,Z,Z,Bx.bd hp.1 J.2,?_⟩;refine⟨_,Z,r,_,_,_,Z,Z,Y,Z,_,Z,u,_,_,_,Z,Z,O,Z,_,_,Z,Z,Bx.bd hp.2 J.1,?_⟩;refine⟨_,_,Z,V9 (Nm.den_ne p) hn,fun z hz=>?_⟩;have e:=k z hz;rw[<- Le p q W]at e;exact e
theorem MH:Ao ["a","b"] ["a","b"] (Af (top 15)):=fsc
theorem MV{f:aa}{fd:ag}(F:Fun K "minus" "minus" (top 15) f fd)(RL:Fd P w K mg base 34 "number_of" ["top","bottom"] (Eu))(hT:P.given.tree=none) :
 Ay P w K mg base CX0 35 f fd ["a","b"] (FX K (· - ·)):=by
 refine F.ok MH (fun vs H Q E h=>?_) (fun ak A outer s H vs Q E Y h=>?_)
 ·obtain⟨_,_,_,_,_,_,rfl,_⟩:=h;rfl
 refine⟨_,(Ag (Ar (Al RL Y rfl (A0 (Ah AS (Ah Aq (Aj (ixT K) (pv 0) Ac (fun u v=>rfl)) (Aj (ixT K) (pv 1) Ac (fun u v=>rfl))) (Ah Aq (Aj (ixT K) (pv 1) Ac (fun u v=>rfl)) (Aj (ixT K) (pv 0) Ac (fun u v=>rfl)))) (A0 (Ah Aq (Aj (ixT K) (pv 0) Ac (fun u v=>rfl)) (Aj (ixT K) (pv 1) Ac (fun u v=>rfl))) Ab))))),?_⟩;obtain⟨x,y,p,q,m,n,rfl,⟨r,rfl,Y⟩,⟨u,rfl,W⟩,J,O,al,k⟩:=h;refine⟨_,Z,r,_,_,_,Z,Z,Y,Z,_,Z,u,_,_,_,Z,Z,W,Z,_,_,Z,Z,Bx.bd J.1 O.2,_,Z,u,_,_,_,Z,Z,W,Z,_,Z,r,_,_,_,Z,Z,Y,Z,_,_,Z,Z,Bx.bd O.1 J.2,_,_,Z,Z,?_⟩;refine⟨_,Z,r,_,_,_,Z,Z,Y,Z,_,Z,u,_,_,_,Z,Z,W,Z,_,_,Z,Z,Bx.bd J.2 O.2,?_⟩;refine⟨_,_,Z,V9 (Nm.den_ne p) (Nm.den_ne q),fun z hz=>?_⟩;have e:=k z hz
 try dsimp only at e
 rw[<- Nm.minus_eq]at e;exact e
theorem E1:Ao ["ahead","knots","slopes","k","row","j"] ["ahead","knots","slopes","k"] (Af (top 45)):=fsc
theorem Jq{f:aa}{fd:ag}(F:Fun K "next_row" "next_row" (top 45) f fd)(Si:Fd P w K mg base 35 "over" ["a","b"] (Iv K))(Sz:Fd P w K mg base 35 "minus" ["a","b"] (FX K (· - ·)))(RG:mg "range" = none)(RF:mg "len" = none)(hT:P.given.tree=none) :
 Ay P w K mg base CX0 36 f fd ["ahead","knots","slopes","k"] (ED K):=by
 refine F.ok E1 (fun vs H Q E h=>?_) (fun b1 A outer s H vs Q E hr h=>?_)
 ·obtain⟨_,_,_,_,_,_,_,_,_,_,_,rfl,_⟩:=h;rfl
 refine⟨_,(Ad (K:=K) (Ai (i:=4) E1.nd rfl (Or.inl rfl) (AE Ab))
  (Ad (K:=K) (Ba (K:=K) PassesOwn.never rfl (Bj rfl RG (A0 (Ah AS (Ak (Bw K) rfl RF AB (A0 (pv 1) Ab)) (pv 3)) Ab)) (Ax (i:=5) E1.nd rfl (Or.inl rfl)) (Ag (AG (K:=K) (Ap (eqD K hr.units) (Aj (ixL K) (pv 1) (Ah AF (pv 5) (pv 3)) (fun u v=>rfl)) (Aj (ixL K) (pv 1) (pv 5) (fun u v=>rfl)) (As _)) (Ag Ca) (Ag (BG (E6 K PySem.F.plainAttrs_list PySem.F.slot_list_append PySem.F.type_list_append CM (pv 4) (A0 (Al Si hr rfl (A0 (Al Sz hr rfl (A0 (Aj (ixL K) (pv 0) (Ah AF (pv 5) Ac) (fun u v=>rfl)) (A0 (Aj (ixL K) (pv 0) (pv 5) (fun u v=>rfl)) Ab))) (A0 (Al Sz hr rfl (A0 (Aj (ixL K) (pv 1) (Ah AF (pv 5) (pv 3)) (fun u v=>rfl)) (A0 (Aj (ixL K) (pv 1) (pv 5) (fun u v=>rfl)) Ab))) Ab))) Ab)))) (by rfl) (by rfl))) (by rfl))
  (Ag (Ar (pv 4))) (by rfl)) (by rfl)),?_⟩
 obtain⟨ra,rk,d,as,ks,A,kn,sl,k,m,n,rfl,hA,bd,hK,aC,bC,h1,b2,bY,bW,bn,bh,hm,hn,q⟩:=h;have P0:0<=af:=by decide
 have bZ:=bd.length;have bX:=aC.length;refine⟨P0,fun p ap=>?_⟩;have s0:Ae H (upd H p (.lst [])):=Ae.new ap;refine⟨_,Z,rk,ks,Z,.inl (Ae.seq s0 hK),_,Z,_,_,Z,Z,_,Z,by lia,by lia,?_⟩
 rw[show(((ks.length:Nat):Int)-(k:Int)).toNat=kn.length-k by lia]
 refine C5 (n:=kn.length-k) (L10 H ra rk d k p K A kn sl fun H ra rk d k p K A kn sl i σ H'=>Ae H H'/\∃zs z5,σ=[some (.ref ra),some (.ref rk),some (.ref d),some (.int (k:Int)),some (.ref p),z5]/\H' p=some (.lst zs)/\zs.length=i/\Au K H' zs ((Ds A kn sl k).take i)) ⟨s0,[],none,Z,Aa,Z,.nil⟩ ?_ ?_
 ·rintro j σ H' hj bg;refine C7 bg fun sm O=>?_;refine CK O fun zs z5 Y=>?_;clear O;refine HH Y fun aF ep bf al=>?_;clear Y;obtain rfl:=aF
  try clear bg
  have gk:=BC (l:=kn) (i:=j+k) (by lia)
  have g0:=BC (l:=kn) (i:=j) (by lia)
  have ga:=BC (l:=A) (i:=j+1) (by lia)
  have gb:=BC (l:=A) (i:=j) (by lia)
  obtain⟨xk,bu,ak,rfl,bN⟩:=(Paired.get' aC gk);obtain⟨x0,bw,a0,rfl,bp⟩:=(Paired.get' aC g0);obtain⟨xa,bG,bt⟩:=(Paired.get' bd ga);obtain⟨xb,bB,bq⟩:=(Paired.get' bd gb);have ek:atI ks (0+(j:Int)+(k:Int))=some (.ref ak):=by rw[show 0+(j:Int)+(k:Int)=((j+k:Nat):Int) by lia];exact Bg bu
  have e0:atI ks (0+(j:Int))=some (.ref a0):=by rw[show 0+(j:Int)=((j:Nat):Int) by lia];exact Bg bw
  have ea:atI as (0+(j:Int)+1)=some xa:=by rw[show 0+(j:Int)+1=((j+1:Nat):Int) by lia];exact Bg bG
  have eb:atI as (0+(j:Int))=some xb:=by rw[show 0+(j:Int)=((j:Nat):Int) by lia];exact Bg bB
  have an:=Ae.seq sm hK;have bl:=Ae.seq sm hA;have nk:AD K H' (.ref ak) (kn.getD (j+k) 0):=AD.of (sm _ _ bN);have n0:AD K H' (.ref a0) (kn.getD j 0):=AD.of (sm _ _ bp);have bF:j<(Ds A kn sl k).length:=by rw[DJ];exact hj
  have et:(Ds A kn sl k).take (j+1)=(Ds A kn sl k).take j++[(Ds A kn sl k).getD j 0]:=by rw[Vj,BC bF];rfl
  have bx:zs.length<af:=TX (show zs.length<300 by lia) (by decide)
  refine⟨_,Z,_,Z,_,Z,_,_,Z,Z,rk,ks,_,_,Z,Z,an,ek,_,Z,_,Z,rk,ks,_,_,Z,Z,an,e0,?_⟩;refine eqN nk n0 ?_;refine⟨_,Z,?_⟩;by_cases he:kn.getD (j+k) 0=kn.getD j 0
  ·exact absurd he (bC j (by lia))
  ·refine AK (by rw[decide_eq_false he]<;>rfl) ?_
   have ba:=bn _ (BL (l:=A) (i:=j+1) (by lia))
   have bb:=bn _ (BL (l:=A) (i:=j) (by lia))
   have bk:=bh _ (BL (l:=kn) (i:=j+k) (by lia))
   have b0:=bh _ (BL (l:=kn) (i:=j) (by lia))
   refine⟨_,Z,.inl ⟨Z,_,SqL.of ep⟩,_,Z,_,Z,_,_,Z,Z,ra,as,_,_,Z,Z,bl,ea,_,Z,_,Z,ra,as,_,_,Z,Z,bl,eb,_,_,_,_,m,m,Z,bt.same sm,bq.same sm,ba,bb,by lia,fun t ht=>?_⟩
   have s1:Ae H' (upd H' t (nT (A.getD (j+1) 0-A.getD j 0))):=Ae.new ht;refine⟨_,Z,_,Z,_,Z,_,_,Z,Z,rk,ks,_,_,Z,Z,Ae.seq s1 an,ek,_,Z,_,Z,rk,ks,_,_,Z,Z,Ae.seq s1 an,e0,_,_,_,_,n,n,Z,nk.same s1,n0.same s1,bk,b0,by lia,fun u hu=>?_⟩
   have s2:=s1.trans (Ae.new (o:=nT (kn.getD (j+k) 0-kn.getD j 0)) hu);refine⟨_,_,_,_,m+m+1,n+n+1,Z,AD.of ((Ae.new hu) _ _ Aa),AD.of Aa,(fun z=>he (by grind)),ba.minus bb,bk.minus b0,by lia,fun r bD=>?_⟩
   have s3:=s2.trans (Ae.new (o:=nT ((A.getD (j+1) 0-A.getD j 0) / (kn.getD (j+k) 0-kn.getD j 0))) bD);have aP:=s3 _ _ ep;refine⟨p,zs,.ref r,Z,Z,aP,bx,(sm.trans s3).put ap,_,_,Z,Aa,by simp[bf],?_⟩
   rw[et,Hb hj,if_neg he];exact Paired.snoc (Au.put (Au.same al s3) aP) ((AD.of Aa).put aP)
 ·rintro σ H' be;refine C7 be fun sm J=>?_;refine CK J fun zs z5 W=>?_;clear J;refine HH W fun bc ep bf al=>?_;clear W;obtain rfl:=bc
  try clear be
  rw[VW (by rw[DJ];exact Uk _)]at al
  exact⟨_,Z,q p H' zs sm ap ep al⟩
theorem Cy:Ao ["points","knots","slopes","table","k"] ["points"] (Af (top 46)):=fsc
theorem Jo{f:aa}{fd:ag}(F:Fun K "table_of" "table_of" (top 46) f fd)(Sj:Fd P w K mg base 34 "knots_of" ["points"] (EV K))(T7:Fd P w K mg base 33 "slopes_in" ["points"] (FC K))(T8:Fd P w K mg base 33 "first_row" ["points"] (K9 K))(Tc:Fd P w K mg base 36 "next_row" ["ahead","knots","slopes","k"] (ED K))(RG:mg "range" = none)(RF:mg "len" = none)(hT:P.given.tree=none) :
 Ay P w K mg base CX0 37 f fd ["points"] (Ip K):=by
 refine F.ok Cy (fun vs H Q E h=>?_) (fun bF A outer s H vs Q E hr h=>?_)
 ·obtain⟨_,_,_,_,_,rfl,_⟩:=h;rfl
 refine⟨_,(Ad (K:=K) (Ai (i:=1) Cy.nd rfl (Or.inl rfl) (Al Sj hr rfl (A0 (pv 0) Ab)))
  (Ad (K:=K) (Ai (i:=2) Cy.nd rfl (Or.inl rfl) (Al T7 hr rfl (A0 (pv 0) Ab)))
  (Ad (K:=K) (Ai (i:=3) Cy.nd rfl (Or.inl rfl) (AE Ab))
  (Ad (K:=K) (Ba (K:=K) PassesOwn.never rfl (Bj rfl RG (A0 (Ak (Bw K) rfl RF AB (A0 (pv 1) Ab)) Ab)) (Ax (i:=4) Cy.nd rfl (Or.inl rfl)) (Ag (BG (E6 K PySem.F.plainAttrs_list PySem.F.slot_list_append PySem.F.type_list_append CM (pv 3) (A0 (GQ (Ap Ex (pv 4) Ac (As _)) (Al T8 hr rfl (A0 (pv 0) Ab)) (Al Tc hr rfl (A0 (Aj (ixL K) (pv 3) (Ah AS (pv 4) Ac) (fun u v=>rfl)) (A0 (pv 1) (A0 (pv 2) (A0 (pv 4) Ab)))))) Ab)))) (by rfl))
  (Ag (Ar (pv 3))) (by rfl)) (by rfl)) (by rfl)) (by rfl)),?_⟩
 obtain⟨r,xs,pss,hh,n,rfl,hS,hp,ak,ap,bp,bG,hb,bg,bx,bC,q⟩:=h;have P0:0<=af:=by decide
 refine⟨_,Z,r,xs,pss,Z,hS,hp,ak.p23,ap,fun w Hw ws sw hw ew be=>?_⟩;refine⟨_,Z,r,xs,pss,Z,hS.same sw,CW.same hp sw,ak,ap,fun d Hd sd=>?_⟩;refine⟨P0,fun p aF=>?_⟩;have s0:Ae Hd (upd Hd p (.lst [])):=Ae.new aF;have sH:Ae H Hd:=sw.trans sd;have bw:H p=none:=sH.free aF;have bN:ws.length=(AX pss).length:=by rw[be.length,UI]
 have bd:=sd _ _ ew;have bB:Aw Hd ws (kn pss):=Aw.same be sd;refine⟨_,Z,w,ws,Z,.inl (SqL.of (s0 _ _ bd)),_,Z,by lia,by lia,?_⟩
 rw[show((ws.length:Nat):Int).toNat=(AX pss).length by lia]
 refine C5 (n:=(AX pss).length) (L8 Hd r w d p K H pss fun Hd r w d p K H pss i σ H'=>Ae Hd H'/\∃ys z,σ=[some (.ref r),some (.ref w),some (.ref d),some (.ref p),z]/\H' p=some (.lst ys)/\Paired (FR K H p H') ys ((U0 i).map (tab pss))) ⟨s0,[],none,Z,Aa,.nil⟩ ?_ ?_
 ·rintro i σ H' hi bn;refine C7 bn fun sm as=>?_;refine CK as fun ys z O=>?_;clear as;refine C2 O fun aP ep Y=>?_;clear O;obtain rfl:=aP
  try clear bn
  have bb:ys.length=i:=by rw[Y.length,UI,W7]
  have a0:=sH.trans sm;have bh:ys.length<af:=TX (show ys.length<300 by lia) (by decide)
  have er:(U0 (i+1)).map (tab pss)=(U0 i).map (tab pss)++[tab pss i]:=by rw[VT,Vk];rfl
  have al:∀(l:aa) (H3:Hp) (zs:List V),Ae H' H3->H' l=none->H3 l=some (.lst zs)->Au K H3 zs (tab pss i)->Ae Hd (upd H3 p (.lst (ys++[.ref l])))/\∃bf z,[some (V.ref r),some (.ref w),some (.ref d),some (.ref p),some (.int (0+(i:Int)))]=[some (.ref r),some (.ref w),some (.ref d),some (.ref p),z]/\(upd H3 p (.lst (ys++[.ref l]))) p=some (.lst bf)/\Paired (FR K H p (upd H3 p (.lst (ys++[.ref l])))) bf ((U0 (i+1)).map (tab pss)):=fun l H3 zs s3 hl el hn=>by
   have bc:=s3 _ _ ep;have lp:l≠p:=(Av ep hl).symm;refine⟨(sm.trans s3).put aF,_,_,Z,Aa,?_⟩;rw[er];exact Paired.snoc (Paired.mapP Y fun _ _ z=>(z.same s3).put bc) (FR.put ⟨l,zs,Z,lp,a0.free hl,el,hn⟩ bc)
  refine⟨_,Z,.inl ⟨Z,_,SqL.of ep⟩,_,Z,Z,_,Z,?_⟩
  match i,hi,al,Y,bb with
  | 0,hi,al,Y,bb =>
    refine Ox ?_;refine⟨_,Z,r,xs,pss,Z,hS.same a0,CW.same hp a0,ak.p23,ap,fun l H3 zs s3 hl el hn=>?_⟩;exact⟨p,ys,.ref l,Z,Z,s3 _ _ ep,bh,al l H3 zs s3 hl el hn⟩
  | i+1,hi,al,Y,bb =>
    refine AK (by rw[decide_eq_false (show ¬V.int (0+((i+1:Nat):Int))=V.int 0 from fun z=>by have:=V.int.inj z;lia)]<;>rfl) ?_
    obtain⟨xv,bt,a,zs,rfl,bD,bX,ha,bq⟩:=(Paired.get' Y (Kz (tab pss) i));have ea:atI ys (0+((i+1:Nat):Int)-1)=some (.ref a):=by rw[show 0+((i+1:Nat):Int)-1=((i:Nat):Int) by lia];exact Bg bt
    have bW:=KJ (show hh+2*n+2<=400 by lia) (show i<=11 by lia)
    refine⟨_,Z,_,Z,_,_,Z,Z,p,ys,_,_,Z,Z,SqL.of ep,ea,_,Z,_,Z,_,Z,a,w,d,zs,ws,tab pss i,kn pss,O8 pss,i+1,bnd hh n i,n,by rw[Int.zero_add];rfl,SqL.of ha,bq,SqL.of (sm _ _ bd),Aw.same bB sm,?_,by lia,by rw[BO];lia,by rw[DB _ _ (by lia),BO];lia,by rw[BO];lia,K6 ak.p23 bx hb bg i (by lia),N8 bg,by lia,by lia,fun l H3 bu s3 hl el hn=>?_⟩
    ·intro j hj he;rw[BO]at hj;refine C7 (He ak.p23 bp (by lia) hj he) fun _ aC=>?_
     refine DN aC fun ps J=>?_;clear aC;refine C2 J fun h1 h2 _=>?_;clear J;have:=ak ps h1
     lia
    ·exact⟨p,ys,.ref l,Z,Z,s3 _ _ ep,bh,al l H3 bu s3 hl el hn⟩
 ·rintro σ H' bl;refine C7 bl fun sm an=>?_;refine CK an fun ys z W=>?_;clear an;refine C2 W fun ba ep Y=>?_;clear W;obtain rfl:=ba
  try clear bl
  exact⟨_,Z,q p H' ys (sH.trans sm) bw ep Y⟩
theorem Jk:Ao ["points"] ["points"] (Af (top 47)):=fsc
theorem Jp{f:aa}{fd:ag}(F:Fun K "steps_of" "steps_of" (top 47) f fd)(Td:Fd P w K mg base 37 "table_of" ["points"] (Ip K))(hT:P.given.tree=none) :
 Ay P w K mg base CX0 38 f fd ["points"] (Iq K):=by
 refine F.ok Jk (fun vs H Q E h=>?_) (fun bf A outer s H vs Q E hr h=>?_)
 ·obtain⟨_,_,_,_,_,rfl,_⟩:=h;rfl
 refine⟨_,(Ag (Ar (CB rfl (N:=["row"]) (nt:=1) (js:=[]) (AW.look (NX:=["points"]) (sc:=Af (top 47)) rfl rfl (by decide +kernel)) (piL K (Al Td hr rfl (A0 (pv 0) Ab))) (fun u1 u2 u3 u4 u5=>(Ax (i:=0) (show List.Nodup (["row"]:List Str) from by decide +kernel) rfl (Or.inl rfl))) (AJ (by decide)) (fun u1 u2 u3 u4 u5=>Bz) (fun u1 u2 u3 u4 u5=>(Aj (ixL K) (pv 0) Ac (fun u v=>rfl)))))),?_⟩
 obtain⟨r,xs,pss,hh,n,rfl,hS,hp,as,al,ap,aF,hb,bc,bb,ak,q⟩:=h;refine Cb ⟨_,Z,r,xs,pss,hh,n,Z,hS,hp,as,al,ap,aF,hb,bc,bb,ak,fun w Hw ws sw hw ew J=>⟨w,Z,⟨_,SqL.of ew⟩,?_⟩⟩;have ba:ws.length=(AX pss).length:=by rw[J.length,UI,W7]
 refine Dg (xs:=ws) (L3 Hw K pss fun Hw K pss i zs H'=>H'=Hw/\zs.length=i/\Au K Hw zs ((C3 pss).take i)) ⟨Z,Z,.nil⟩ (fun i zs H' _ h=>⟨by rw[h.1];exact SqL.of ew,h.2.1⟩) (U7 (AA (by lia))) ?_ ?_
 ·rintro i v zs H' hv ⟨rfl,an,Y⟩;have hi:i<ws.length:=(Ue.mp hv).1;obtain⟨rs,O,a,us,rfl,be,bg,ha,a0⟩:=(Paired.get J hv)
  have aP:rs=tab pss i:=by
   rw[UC,Wa (by lia)]at O
   exact(TU.inj O).symm
  subst aP;have hl:=DB pss i (by lia)
  obtain⟨x0,bd,aC⟩:=(Paired.get' a0 (BC (l:=tab pss i) (i:=0) (by lia)))
  refine⟨_,Z,a,us,_,x0,Z,Z,SqL.of ha,Bg (j:=0) bd,Z,by simp[an],?_⟩
  have e:(C3 pss).take (i+1)=(C3 pss).take i++[(tab pss i).getD 0 0]:=by
   rw[Vj]
   congr 1
   unfold C3;rw[UC,Wa (by lia)];rfl
  rw[e];exact Paired.snoc Y aC
 rintro zs H' ⟨rfl,an,Y⟩ p W;rw[ba,<- DW,Vl]at Y;exact q p _ zs (sw.trans (Ae.new W)) (sw.free W) Aa (Au.same Y (Ae.new W))
theorem FG:Ao ["points"] ["points"] (Af (top 49)):=fsc
theorem FN{f:aa}{fd:ag}(F:Fun K "curve_through" "curve_through" (top 49) f fd)(RW:Fd P w K mg base 36 "by_steps" ["knots","steps"] (CL K))(Sj:Fd P w K mg base 34 "knots_of" ["points"] (EV K))(Te:Fd P w K mg base 38 "steps_of" ["points"] (Iq K))(hT:P.given.tree=none) :
 Ay P w K mg base CX0 39 f fd ["points"] (Io K):=by
 refine F.ok FG (fun vs H Q E h=>?_) (fun bd A outer s H vs Q E hr h=>?_)
 ·obtain⟨_,_,_,_,_,rfl,_⟩:=h;rfl
 refine⟨_,(Ag (Ar (Al RW hr rfl (A0 (Al Sj hr rfl (A0 (pv 0) Ab)) (A0 (Al Te hr rfl (A0 (pv 0) Ab)) Ab))))),?_⟩;obtain⟨r,xs,pss,Y,n,rfl,hS,hp,O,W,ap,ak,hb,J,an,al,q⟩:=h;refine⟨_,Z,r,xs,pss,Z,hS,hp,O.p23,W,fun w Hw ws sw hw ew a0=>?_⟩;refine⟨_,Z,r,xs,pss,Y,n,Z,hS.same sw,CW.same hp sw,O,W,ap,ak,hb,J,an,al,fun t Ht zs st ht et aF=>?_⟩;have be:=KJ (show Y+2*n+2<=400 by lia) (Uk 11)
 have bb:n<=bnd Y n 11:=by
  have:=KL Y n 10;show n<=2*bnd Y n 10+2*n+2
  lia
 have aC:=BO pss;refine⟨w,t,ws,zs,kn pss,C3 pss,bnd Y n 11,Z,SqL.of (st _ _ ew),(Aw.same a0 st).nums,SqL.of et,aF,by rw[DW];exact aC,by lia,fun c hc=>(N8 J c hc).mono bb,My O.p23 hb J an ak,by lia,fun p Hp cs ba hc bc hg aP as=>?_⟩
 have hm:bnd Y n 11*(kn pss).length<=bnd Y n 11*12:=X0 _ (by lia)
 exact q p Hp cs ((sw.trans st).trans ba) hc (by lia) hg (fun c hc=>(aP c hc).mono (by lia)) as
theorem HP:Ao ["places","bottom"] ["places"] (Af (top 36)):=fsc
theorem M4{f:aa}{fd:ag}(F:Fun K "rising" "rising" (top 36) f fd)(RP:Fd P w K mg base 34 "bottom_of" ["numbers"] (HL K))(Sk:mg "sorted" = none)(hT:P.given.tree=none)(bx:Bm mg base)(hl:Dh K f 268=true) :
 Ay P w K mg base CX0 38 f fd ["places"] (FD K 268):=by
 refine F.okL hl HP (fun vs H Q E h=>?_) (fun bG A outer s H vs Q E bh hr h=>?_)
 ·obtain⟨_,_,_,_,rfl,_⟩:=h;rfl
 refine⟨_,(Ad (K:=K) (Ai (i:=1) HP.nd rfl (Or.inr rfl) (Al RP hr rfl (A0 (pv 0) Ab)))
  (Ag (Ar (MR K (k:=33) hr (fun _=>rfl) rfl Sk (pv 0) (D0 (sc:=Af (top 36)) bh bx)))) (by rfl)),?_⟩
 obtain⟨l,xs,qs,n,rfl,hS,hN,hb,bc,bt,O,q⟩:=h;have bN:=hN.length;have bF:n*(qs.length+2)<=1000000*22:=WQ bc (by lia)
 have bD:n*qs.length<=1000000*20:=WQ bc bt;refine⟨_,Z,true,l,xs,qs,n,Z,hS,hN,fun q hq=>(hb q hq).2,by lia,fun B hB hd bB=>?_⟩
 refine⟨_,Z,l,Z,O,fun f c' cl bW H2 C aF J=>?_⟩;have bC:=MF hS O J.old;refine⟨f,_,["place"],cl,xs,qs.map (FU B),Z,bC,by rw[UI];lia,by lia,Md fun a=>rfl,C,fun os bp bg=>⟨_,PY (k:=32) (fr:=["bottom"]) (ws:=[.int B]) (Ok:=fun vs r=>∃x q,vs=[x]/\q∈qs/\AD K H2 x q/\r = .int (FU B q)) J C aF bp bg ⟨Z,Z,Z,by decide +kernel,by decide +kernel⟩ (lk1 _) (.cons 1 rfl rfl rfl rfl .nil) (fun A outer s E vs r H' Q hr bX ho hm hQ=>?_),fun i x kk hx aP Q' hQ=>?_⟩,fun p ys hp hz=>?_⟩
 ·refine CK ho fun x c W=>?_;refine HH W fun ap hc an ak=>?_;clear W;obtain rfl:=ap;obtain⟨rx,rfl,bn⟩:=an;obtain rfl:=ak;refine⟨_,(Ah Aq (Aj (ixT K) (pv 0) Ac (fun u v=>rfl)) (Ah (BA hr hT) (pv 1) (Aj (ixT K) (pv 0) Ac (fun u v=>rfl)))),?_⟩;have bb:=bn.same hm;have bf:(c.den:Int)≠0:=Nm.den_ne c
  have bq:Bd (n*qs.length+1) (B.fdiv (c.den:Int)):=by
   rw[WW _ (by lia)]
   unfold Bd at bB ⊢;exact UY (Int.natAbs_ediv_le_natAbs ..) bB
  exact⟨_,Z,rx,_,_,_,Z,Z,bb,Z,_,Z,_,Z,rx,_,_,_,Z,Z,bb,Z,_,_,Z,Z,bf,_,_,Z,Z,Bx.bd (hb c hc).1 bq (by lia),hQ⟩
 ·rw[UC]at aP;obtain⟨c,hc,ba⟩:=(Paired.get hN hx);rw[hc]at aP;cases aP;exact⟨Z,Ae.refl _,_,⟨x,c,Z,UG hc,ba.but O J.old,Z⟩,hQ⟩
 ·refine DN hz fun zs Y=>?_;refine C2 Y fun aC al a0=>?_;clear Y;obtain rfl:=al;have bu:=MI (B:=B) (show Au K H2 xs qs from Paired.mapP hN fun _ _ z=>z.but O J.old);obtain⟨rs,as,bl⟩:=(Gb aC.symm (Jn bu));obtain⟨ek,be⟩:=(LZ bl);have nN:=Ae.new (o:=.lst (zs.map Prod.snd)) hp;refine q p _ _ rs (Br.trans J.old nN.b) (J.tab.same nN) (Nj J.tab J.old hp) Aa (Au.same be nN) as ?_
  have h1:(rs.map (FU B)).Pairwise (· <= ·):=by
   rw[ek];exact WC.mpr a0
  refine List.Pairwise.imp_of_mem (fun{a b} ha bw h=>?_) (WC.mp h1);exact Ov hB (hd a (as.mem_iff.mp ha)) (hd b (as.mem_iff.mp bw)) h
theorem DG:Ao ["curve","x","bottom","told"] ["curve","x"] (Af (top 25)):=fsc
theorem IQ{f:aa}{fd:ag}(F:Fun K "height_at" "height_at" (top 25) f fd)(RP:Fd P w K mg base 34 "bottom_of" ["numbers"] (HL K))(Sb:Fd P w K mg base 33 "whole_height" ["tops","x"] (O5 K))(RL:Fd P w K mg base 34 "number_of" ["top","bottom"] (Eu))(RV:Fd P w K mg base 33 "tops_over" ["numbers","bottom"] (Gs K))(hT:P.given.tree=none) :
 Ay P w K mg base CX0 35 f fd ["curve","x"] (Ci K):=by
 refine F.ok DG (fun vs H Q E h=>?_) (fun a0 A outer s H vs Q E hr h=>?_)
 ·obtain⟨_,_,_,_,_,_,_,rfl,_⟩:=h;rfl
 refine⟨_,(Ad (K:=K) (Ai (i:=2) DG.nd rfl (Or.inl rfl) (Al RP hr rfl (A0 (pv 0) Ab)))
  (Ad (K:=K) (Ai (i:=3) DG.nd rfl (Or.inl rfl) (Al Sb hr rfl (A0 (Al RV hr rfl (A0 (pv 0) (A0 (pv 2) Ab))) (A0 (pv 1) Ab))))
  (Ag (Ar (Al RL hr rfl (A0 (Aj (ixT K) (pv 3) Ac (fun u v=>rfl)) (A0 (Ah Aq (pv 2) (Aj (ixT K) (pv 3) Ac (fun u v=>rfl))) Ab))))) (by rfl)) (by rfl)),?_⟩
 obtain⟨r,rx,qs,x,g,d,m,rfl,⟨xs,hS,hn⟩,⟨_,as,hx⟩,hB,ap,hz,O,q⟩:=h;cases as;have hl:=hn.length;have e1:d*(qs.length+2)=d*qs.length+d*2:=VO ..;have e2:(m+1)*(qs.length+4)=m*qs.length+qs.length+(m+1)*4:=by rw[VO,VD,VE]
 refine⟨_,Z,false,r,xs,qs,d,Z,hS,hn,(fun q hq=>(hB q hq).2),by lia,fun B aP aF Y=>?_⟩
 refine⟨_,Z,_,Z,false,r,xs,qs,B,d*qs.length+1,g,Z,hS,hn,Y,(fun q hq=>(hB q hq).1),by lia,O,fun l ak=>?_⟩
 have tl:(qs.map (AN B)).length=qs.length:=UI _;have an:SqT K (upd H l (.lst ((qs.map (AN B)).map V.int))) rx [.int x.num,.int x.den]:=SqT.same hx (Ae.new ak)
 have tB:∀t∈qs.map (AN B),Bd (g+(d*qs.length+1)) t:=fun t ht=>by
  obtain⟨c,hc,rfl⟩:=(VU.mp ht);exact((hB c hc).1.mul (Y.fdiv (y:=c.den))).mono (by lia)
 refine⟨_,Z,l,rx,qs.map (AN B),x,g+(d*qs.length+1),m,Z,SqL.of Aa,⟨rx,Z,an⟩,tB,ap,by rw[tl];lia,fun h s p es hs0 he al J hp=>?_⟩
 rw[tl]at J;have ep:SqT K (upd (upd H l (.lst ((qs.map (AN B)).map V.int))) p (.tup [.int h,.int s])) p [.int h,.int s]:=SqT.of Aa;have W:B*s≠0:=V9 (by lia) hs0
 refine⟨_,Z,p,_,_,_,Z,Z,ep,Z,_,Z,_,Z,p,_,_,_,Z,Z,ep,Z,_,_,Z,Z,Bx.bd Y J (by lia),_,_,Z,W,fun u hu=>?_⟩
 have ev:=Il aF x
 have e:V3 h (B*s)=Cv.ev qs x:=Nm.div_eq W (by
  have aC:(h:Rat)=Cv.ev ((qs.map (AN B)).map fun t:Int=>(t:Rat)) x*(s:Rat):=he;rw[aC,ev,Va];grind)
 rw[tl]at al;have e3:(m+1)*(qs.length+2)=m*qs.length+qs.length+(m+1)*2:=by rw[VO,VD,VE]
 have d1:1<=d\/qs.length=0:=by
  cases qs with
  | nil=>exact .inr rfl
  | cons c r =>
    left;have:=(hB c (U9 ..)).2;unfold Bd at this
    rcases Nat.eq_zero_or_pos d with z | z
    ·rw[z]at this;have:=c.den_pos
     lia
    ·exact z
 refine q u _ (((Ae.new ak).trans (Ae.new hp)).trans (Ae.new hu)) ?_ ?_
 ·rw[<- e];exact Aa
 ·rw[<- e];exact RB.div (m:=0) (al.mono (by lia)) ((Y.mul J).mono (by lia)) W
theorem BN:Ao ["places","heights","width","most","many","pair","lock","points","sure","curve","wrong"] ["places","heights","width","most"] (Af (top 51)):=fsc
theorem HS{f:aa}{fd:ag}(F:Fun K "judged" "judged" (top 51) f fd)(S4:Fd P w K mg base 35 "check_heights" ["places","heights"] (Co K))(S5:Fd P w K mg base 36 "pair_through" ["places","heights","width"] (FF K))(SA:Fd P w K mg base 39 "curve_through" ["points"] (Io K))(S6:Fd P w K mg base 38 "rising" ["places"] (FD K 268))(RJ:Fd P w K mg base 35 "height_at" ["curve","x"] (Ci K))(RM:mg "list" = none)(RF:mg "len" = none)(RI:mg "zip" = none)(RK:mg "tuple" = none){ak:aa}(aP:mg "NOUGHT" = some (.ref ak))(aF:∀H:Hp,AD K H (.ref ak) (0))(hT:P.given.tree=none) :
 Ay P w K mg base CX0 40 f fd ["places","heights","width","most"] (Ct K 268):=by
 refine F.ok BN (fun vs H Q E h=>?_) (fun df A outer s H vs Q E hr h=>?_)
 ·obtain⟨_,_,_,_,_,_,_,_,_,_,_,_,_,rfl,_⟩:=h;rfl
 refine⟨_,(Ad (K:=K) (BG (Al S4 hr rfl (A0 (pv 0) (A0 (pv 1) Ab))))
  (Ad (K:=K) (Ai (i:=4) BN.nd rfl (Or.inl rfl) (Ah AF (Ah Aq Ac (pv 3)) (pv 2)))
  (Ad (K:=K) (AG (K:=K) (Ap D4 (pv 4) (Ak (Bw K) rfl RF AB (A0 (pv 0) Ab)) (As _)) (Ag Ca) Az (by rfl) (by rfl))
  (Ad (K:=K) (Ai (i:=5) BN.nd rfl (Or.inl rfl) (Al S5 hr rfl (A0 (AU (slL K) (pv 0) Be (Bc (pv 4))) (A0 (AU (slL K) (pv 1) Be (Bc (pv 4))) (A0 (Ah AF (pv 3) (pv 2)) Ab)))))
  (Ad (K:=K) (Ai (i:=6) BN.nd rfl (Or.inr rfl) (Aj (ixT K) (pv 5) Ac (fun u v=>rfl)))
  (Ad (K:=K) (Ai (i:=7) BN.nd rfl (Or.inl rfl) (Ki K rfl rfl RM rfl RI (A0 (pv 0) (A0 (pv 1) Ab))))
  (Ad (K:=K) (MO (i:=8) rfl BN.nd rfl rfl (N:=["point","lock"]) (nt:=1) (js:=[6]) (AW.look (NX:=["places","heights","width","most","many","pair","lock","points","sure","curve","wrong"]) (sc:=Af (top 51)) rfl rfl (by decide +kernel)) (piL K (AU (slL K) (pv 7) Be (Bc (pv 4)))) (fun u1 u2 u3 u4 u5=>(Ax (i:=0) (show List.Nodup (["point","lock"]:List Str) from by decide +kernel) rfl (Or.inl rfl))) (AJ (by decide)) (fun u1 u2 u3 u4 u5=>Gn (Ap (neD K hr.units) (Al RJ hr rfl (A0 (pv 1) (A0 (Aj (ixT K) (pv 0) Ac (fun u v=>rfl)) Ab))) (AZ (v:=.ref ak) rfl aP rfl) (As _))) (fun u1 u2 u3 u4 u5=>(pv 0)) rfl)
  (Ad (K:=K) (Ai (i:=9) BN.nd rfl (Or.inr rfl) (Al SA hr rfl (A0 (Ck (Mu K) rfl RK JV (A0 (AU (slL K) (pv 8) Be (Bc (pv 2))) Ab)) Ab)))
  (Ad (K:=K) (Ai (i:=10) BN.nd rfl (Or.inl rfl) (Al S6 hr rfl (A0 (CB rfl (N:=["x","y","curve"]) (nt:=2) (js:=[9]) (AW.look (NX:=["places","heights","width","most","many","pair","lock","points","sure","curve","wrong"]) (sc:=Af (top 51)) rfl rfl (by decide +kernel)) (piL K (pv 7)) (fun u1 u2 u3 u4 u5=>(pgT K (n:=2) rfl (CA (Ax (i:=0) (show List.Nodup (["x","y","curve"]:List Str) from by decide +kernel) rfl (Or.inl rfl)) (CA (Ax (i:=1) (show List.Nodup (["x","y","curve"]:List Str) from by decide +kernel) rfl (Or.inl rfl)) Gp)))) (FA (Cg (by decide) (Cg (by decide) EB))) (fun u1 u2 u3 u4 u5=>Gn (Ap (neD K hr.units) (Al RJ hr rfl (A0 (pv 2) (A0 (pv 0) Ab))) (pv 1) (As _))) (fun u1 u2 u3 u4 u5=>(pv 0))) Ab)))
  (Ad (K:=K) (AG (K:=K) (Ap D4 (Ak (Bw K) rfl RF AB (A0 (pv 10) Ab)) (pv 3) (As _)) (Ag (Ar (AL (A0 AO (A0 (pv 6) (A0 (Aj (ixT K) (pv 5) Ac (fun u v=>rfl)) Ab)))))) Az (by rfl) (by rfl))
  (Ag (Ar (AL (A0 AO (A0 (pv 9) (A0 (pv 10) Ab)))))) (by rfl)) (by rfl)) (by rfl)) (by rfl)) (by rfl)) (by rfl)) (by rfl)) (by rfl)) (by rfl)) (by rfl)),?_⟩
 obtain⟨lp,lh,zs,ys,qs,hs,W,e,n,nx,ny,mc,C,rfl,hP,b1,hH,hY,dn,dp,c0,bG,de,dj,hm,bq,bh,db,dy,cy,dk,hC,hG,bf,dm,dg,q1,q2⟩:=h;have P3:3<=af:=by decide
 have hZ:Au K H zs qs:=b1.nums;have dw:=hZ.length;have du:=hY.length;refine⟨_,Z,_,Z,lp,lh,zs,ys,qs,Z,hP,b1,bG,by lia,by lia,hH,by lia,fun H1 s1=>?_⟩
 obtain⟨m,cJ⟩:∃m,m=2*e+W:=⟨_,Z⟩;refine⟨_,Z,_,_,Z,Z,.inl ⟨by decide,by decide⟩,_,Z,_,_,Z,Z,?_⟩
 rw[show(2:Int)*(e:Int)+(W:Int)=(m:Int) by lia]
 refine⟨_,Z,_,Z,lp,zs,Z,.inl (Ae.seq s1 hP),_,_,Z,Z,_,Z,AK (decide_eq_false (by lia)) ?_⟩
 refine⟨_,Z,_,Z,_,Z,lp,zs,Z,Ae.seq s1 hP,fun o1 h1=>?_⟩;rw[CD];have w1:=Ae.new (o:=.lst (zs.take m)) h1;refine⟨_,Z,_,Z,_,Z,lh,ys,Z,Ae.seq (s1.trans w1) hH,fun o2 h2=>?_⟩;rw[CD];have w2:=Ae.new (o:=.lst (ys.take m)) h2;have s2:=(s1.trans w1).trans w2;have e1:=w2 _ _ (Aa (H:=H1) (a:=o1) (o:=.lst (zs.take m)));have e2:=Aa (H:=upd H1 o1 (.lst (zs.take m))) (a:=o2) (o:=.lst (ys.take m));generalize upd (upd H1 o1 (.lst (zs.take m))) o2 (.lst (ys.take m))=H2 at s2 e1 e2 ⊢;have co:(qs.take m).length=m:=by rw[Uy];lia
 have cj:(hs.take m).length=m:=by rw[Uy];lia
 have bb:(qs.take m).Nodup:=bG.sublist (UE _ _)
 have cp:(nx+1)*(m+3)+ny+2<=C:=by
  have:=X0 (nx+1) (show m+3<=n+3 by lia)
  lia
 have dr:(gAS C m).2+3*C<=2000000:=U6 (Wj (Dx C (show m<=n by lia)) _) hG
 refine⟨_,Z,_,Z,_,_,Z,Z,?_⟩;rw[show(e:Int)+(W:Int)=((e+W:Nat):Int) by lia]
 refine⟨o1,o2,_,_,qs.take m,hs.take m,e+W,m,nx,ny,C,Z,SqL.of e1,Paired.take _ (Au.same hZ s2),SqL.of e2,Paired.take _ (Au.same hY s2),co,cj,by lia,by lia,bb,by lia,by lia,fun x hx=>bq x (WN hx),fun x hx=>bh x (WN hx),cp,by lia,fun t pN pD H3 r1 r2 N D N2 D2 s3 hT cN cD bN bD I=>?_⟩
 have bB:((qs.take m).zip (hs.take m)).length=m:=by rw[WA];lia
 have bw:=I.below bB (by lia) (by rw[X6 (by lia)];exact bb)
 have dv:=I.fin bB;have cH:(Cv.strip D).length<=e+1:=ES fun j hj=>I.le1.2 j (by lia)
 have bY:=s2.trans s3;clear w1 w2 h1 h2 e1 e2 s1 s2 cp;refine⟨_,Z,t,_,_,_,Z,Z,hT,Z,?_⟩;refine⟨_,Z,_,Z,lp,lh,zs,ys,Z,Ae.seq bY hP,Ae.seq bY hH,by lia,fun ca us H4 s4 cb ba ck=>?_⟩
 have b8:=bY.trans s4;have an:CW K H4 us ((qs.zip hs).map fun p=>[p.1,p.2]):=Oe ck (Aw.same b1 b8) (Au.same hY b8);have cK:us.length=n:=by rw[an.length,UI,WA];lia
 have dh:(qs.zip hs).length=n:=by rw[WA];lia
 have cc:∀c∈Cv.strip D,Bd ((gAS C m).2+1) c.num/\Bd 1 (c.den:Int):=fun c hc=>bD c (Cv.strip_mem _ _ hc);refine Cb ⟨_,Z,_,Z,_,Z,ca,us,Z,SqL.of ba,fun o5 h5=>?_⟩;rw[CD];have w5:=Ae.new (o:=.lst (us.take m)) h5;have e5:=Aa (H:=H4) (a:=o5) (o:=.lst (us.take m));have b7:=(cD.same s4).same w5;have b4:=b8.trans w5;have an:=CW.same an w5;generalize upd H4 o5 (.lst (us.take m))=H5 at w5 e5 b7 b4 an ⊢;refine⟨o5,Z,⟨_,SqL.of e5⟩,?_⟩;have cZ:(nx+1)*((Cv.strip D).length+4)<=41*17:=WQ (by lia) (by lia)
 refine Ll (xs:=us.take m) (L5 H5 K qs hs D fun H5 K qs hs D i ws G=>Ae H5 G/\ws.length<=i/\CW K G ws ((((qs.zip hs).take i).filter fun p=>!decide (Cv.ev D p.1=0)).map fun p=>[p.1,p.2])) ⟨Ae.refl _,Uk _,.nil⟩ (fun i ws G _ h=>⟨SqL.of (h.1 _ _ e5),h.2.1⟩) (U7 (AA (by rw[Uy];lia))) ?_ ?_
 ·rintro i v ws G hv ⟨sg,b0,al⟩
  have hi:i<m:=by
   have:=(Ue.mp hv).1;rw[Uy]at this;lia
  rw[Wv,if_pos hi]at hv;obtain⟨ps,J,pt⟩:=(Paired.get an hv);rw[UC]at J
  obtain⟨⟨x,y⟩,O,rfl⟩:∃Y,(qs.zip hs)[i]? = some Y/\ps=[Y.1,Y.2]:=by
   cases z:(qs.zip hs)[i]? with
   | none=>rw[z]at J;cases J
   | some Y=>rw[z]at J;cases J;exact⟨Y,Z,Z⟩
  refine Gk (id pt) fun ta tu px as=>?_;refine Eh as fun bZ cO dt cG cV=>?_;clear as;obtain rfl:=bZ;have cB:x∈qs:=(Uw (UG O)).1;refine⟨_,Z,_,Z,ta,tu,_,_,Z,Z,cO.same sg,Bg (j:=0) cG,pD,px,Cv.strip D,x,(gAS C m).2+1,1,nx,Z,b7.same sg,AD.of (sg _ _ cV),cc,bq x cB,by lia,by lia,fun p1 G1 s1 e1 _=>?_⟩
  refine eqN (AD.of e1) (aF _) ?_;refine⟨_,Z,?_⟩;rw[Cv.ev_strip];have et:(((qs.zip hs).take (i+1)).filter fun p=>!decide (Cv.ev D p.1=0))=(((qs.zip hs).take i).filter fun p=>!decide (Cv.ev D p.1=0))++([(x,y)].filter fun p=>!decide (Cv.ev D p.1=0)):=by rw[Vj,O,WZ];rfl
  by_cases h0:Cv.ev D x=0
  ·refine AK (by rw[decide_eq_true h0];rfl) ⟨sg.trans s1,by lia,?_⟩
   rw[et,WY (by show ¬(!decide (Cv.ev D x=0))=true;rw[decide_eq_true h0];decide),List.filter_nil,Uu]
   exact CW.same al s1
  ·refine AV (by rw[decide_eq_false h0];rfl) ⟨_,Z,sg.trans s1,by rw[UH,UW];lia,?_⟩
   rw[et,WX (by show(!decide (Cv.ev D x=0))=true;rw[decide_eq_false h0];rfl),Vk]
   exact Paired.snoc (CW.same al s1) (pt.same (sg.trans s1))
 rintro ws G ⟨sg,b0,al⟩ b3 bF;have cP:(us.take m).length=m:=by rw[Uy];lia
 rw[cP]at al b0;have w6:=Ae.new (o:=.lst ws) bF;have cv:=(b4.trans sg).trans w6;have ci:=(w5.trans sg).trans w6;have al:=CW.same al w6;have e6:=Aa (H:=G) (a:=b3) (o:=.lst ws);generalize upd G b3 (.lst ws)=H6 at cv ci al e6 ⊢;clear w6 sg w5 e5 b7 b4 an bF h5;have b9:(qs.zip hs).take m=(qs.take m).zip (hs.take m):=List.take_zipWith (f:=Prod.mk);generalize hL:((qs.zip hs).take m).filter (fun p=>!decide (Cv.ev D p.1=0))=L at al;have bX:List.Sublist L (qs.zip hs):=by rw[<- hL];exact(List.filter_sublist).trans (UE _ _)
 have b5:∀Y∈L,Y∈qs.zip hs:=fun Y O=>bX.subset O
 have bC:∀f:List Rat,(∀x,Cv.ev N x=Cv.ev f x*Cv.ev D x)->∀Y∈L,Cv.ev f Y.1=Y.2:=fun f hf Y O=>by
  rw[<- hL,b9]at O;obtain⟨h1,h2⟩:=(U2.mp O);have h0:Cv.ev D Y.1≠0:=by simpa using h2
  have o1:=I.on1 Y h1;rw[hf Y.1]at o1;have:(Cv.ev f Y.1-Y.2)*Cv.ev D Y.1=0:=by grind
  rcases Vn.mp this with z | z
  ·grind
  ·exact absurd z h0
 have dc:W<=L.length:=by
  have f1:=JO (Bs D) bw bb;have f2:=Fq (fun x=>decide (Cv.ev (Cv.strip D) x=0)) (qs.take m)
  have f3:L.length=((qs.take m).filter fun x=>!decide (Cv.ev (Cv.strip D) x=0)).length:=by
   rw[<- hL,b9];have e:((qs.take m).zip (hs.take m)).map Prod.fst=qs.take m:=X6 (by lia)
   rw[<- e,List.filter_map,UI,e]
   congr 2
   funext p
   show(!decide (Cv.ev D p.1=0))=(!decide (Cv.ev (Cv.strip D) p.1=0));rw[Cv.ev_strip]
  lia
 have bg:P2 ((L.take W).map fun p=>[p.1,p.2]):=fun ps J=>by
  obtain⟨Y,_,rfl⟩:=(VU.mp J)
  rfl
 have aC:(((L.take W).map fun p=>[p.1,p.2]).map fun ps=>ps.getD 0 0).Nodup:=by
  rw[List.map_map];show((L.take W).map Prod.fst).Nodup;have bx:List.Sublist ((L.take W).map Prod.fst) ((qs.zip hs).map Prod.fst):=((UE _ _).trans bX).map _;rw[X6 (by lia)]at bx
  exact bG.sublist bx
 have cg:(L.take W).length=W:=by rw[Uy];lia
 have cm:∀ps∈(L.take W).map (fun p=>[p.1,p.2]),∀z∈ps,RB ny z:=fun ps J z hz=>by
  obtain⟨Y,O,rfl⟩:=(VU.mp J);have:=Uw (show(Y.1,Y.2)∈qs.zip hs from(b5 Y (WN O)))
  rcases Ub.mp hz with y | y
  ·rw[y];exact(bq _ this.1).mono cy
  ·rw[Vx.mp y];exact bh _ this.2
 have cf:∀ps∈(L.take W).map (fun p=>[p.1,p.2]),RB nx (ps.getD 0 0):=fun ps J=>by
  obtain⟨Y,O,rfl⟩:=(VU.mp J);exact bq _ (Uw (show(Y.1,Y.2)∈qs.zip hs from(b5 Y (WN O)))).1
 refine⟨_,Z,_,Z,_,Z,b3,ws,Z,SqL.of e6,fun o6 h6=>?_⟩;rw[CD];have w7:=Ae.new (o:=.lst (ws.take W)) h6;refine⟨o6,ws.take W,Z,.inl ⟨SqL.of Aa,fun o7 h7=>?_⟩⟩;have w8:=Ae.new (o:=.tup (ws.take W)) h7;have bt:=w7.trans w8
 have cu:CW K (upd (upd H6 o6 (.lst (ws.take W))) o7 (.tup (ws.take W))) (ws.take W) ((L.take W).map fun p=>[p.1,p.2]):=by
  have:=Paired.take W (CW.same al bt)
  rwa [<- X4]at this
 refine⟨o7,ws.take W,(L.take W).map fun p=>[p.1,p.2],ny,nx,Z,SqT.of Aa,cu,bg,by rw[UI];lia,aC,by rw[KR];lia,cm,cf,by lia,by lia,fun pc H8 cs s8 cC bl cM cq cr=>?_⟩
 have cQ:cs.length<=W:=by rw[KR,cg]at bl;exact bl
 have only:∀f:List Rat,f.length<=W->(∀x,Cv.ev N x=Cv.ev f x*Cv.ev D x)->∀x,Cv.ev f x=Cv.ev cs x:=fun f hf b2 x=>Km bg aC (by rw[KR,cg];exact hf) bl (fun ps J=>by
  obtain⟨Y,O,rfl⟩:=(VU.mp J);exact bC f b2 Y (WN O)) (Mw bg aC cr) x
 have bc:∀x∈cs,RB mc x:=fun x hx=>(cq x hx).mono (by
  have:=KJ (k:=11) (m:=11) (show ny+2*nx+2<=ny+2*nx+2 from Uk _) (Uk 11)
  lia)
 have bd:=(ci.trans bt).trans s8;have cx:=(cv.trans bt).trans s8;have ba:=bd _ _ ba;clear w7 w8 bt h6 h7 cu cq cr bl cm cf aC bg al e6 b5 bC bX hL b0;refine Cb ⟨_,Z,ca,Z,⟨_,SqL.of ba⟩,?_⟩;have cY:mc*(cs.length+4)<=mc*(W+4):=X0 _ (by lia)
 have da:mc*(cs.length+4)=mc*(cs.length+2)+mc*2:=by rw[<- VO]
 have di:(nx+1)*(cs.length+4)<=41*16:=WQ (by lia) (by lia)
 refine PR (xs:=us) (fun i vs G=>Ae H8 G/\vs.length<=i/\Au K G vs (D8 (qs.take i) (hs.take i) cs)) ⟨Ae.refl _,Uk _,.nil⟩ (fun i vs G _ h=>⟨SqL.of (h.1 _ _ ba),h.2.1⟩) (U7 (AA (by lia))) ?_ ?_
 ·rintro i v vs G hv ⟨sg,cU,be⟩;obtain⟨Y,O,tt,rfl,cI⟩:=(Paired.get ck hv);obtain⟨cE,cL⟩:=(WG.mp O);obtain⟨x,hx,bp⟩:=(Paired.get hZ cE);obtain⟨y,hy,cz⟩:=(Paired.get hY cL);obtain⟨rx,cT,_⟩:=(id bp);have bW:=cx.trans sg;refine⟨tt,Y.1,Y.2,Z,SqT.of (sg _ _ (bd _ _ cI)),?_⟩;rw[cT]at bp ⊢;refine⟨_,Z,_,Z,pc,rx,cs,x,mc,mc,nx,Z,cC.same sg,bp.same bW,bc,bq x (UG hx),by lia,by lia,fun p1 G1 s1 e1 _=>?_⟩
  refine⟨_,Z,?_⟩;refine eqN (AD.of e1) ((cz.same bW).same s1) ?_;refine⟨_,Z,?_⟩;have ms:=Mb (c:=cs) (by lia) hx hy
  by_cases he:Cv.ev cs x=y
  ·refine AK (by rw[decide_eq_true he];rfl) ⟨sg.trans s1,by lia,?_⟩
   rw[ms,if_pos he,Uu];exact Au.same be s1
  ·refine AV (by rw[decide_eq_false he];rfl) ⟨_,Z,sg.trans s1,by rw[UH,UW];lia,?_⟩
   rw[ms,if_neg he];exact Paired.snoc (Au.same be s1) ((bp.same bW).same s1)
 rintro vs G ⟨sg,cU,be⟩ lv cF;rw[cK,VW (by lia),VW (by lia)]at be
 have w9:=Ae.new (o:=.lst vs) cF;have ap:=(cx.trans sg).trans w9
 have dq:(D8 qs hs cs).length<=12:=by
  rw[N5];refine U6 (List.length_filter_le ..) ?_;rw[WA];lia
 refine⟨lv,vs,D8 qs hs cs,nx,Z,SqL.of Aa,Au.same be w9,fun x hx=>bq x (N4 hx),by lia,by lia,bf.same ap,fun Y H9 bn rs m9 cn bu e9 ce a0 cR=>?_⟩
 have dl:bn.length=(D8 qs hs cs).length:=by rw[ce.length,a0.length_eq]
 have cb:H Y=none:=by
  cases z:H Y with
  | none=>rfl
  | some o=>rw[ap _ _ z]at bu;cases bu
 have sB:Br 268 H H9:=Br.trans (Ae.b ap) m9;refine⟨_,Z,Y,bn,Z,.inl (SqL.of e9),_,Z,_,_,Z,Z,_,Z,?_⟩;by_cases hgt:e<bn.length
 ·refine AV (decide_eq_true (by lia)) ?_
  have cA:=((hT.same ((s4.trans bd).trans (sg.trans w9))).but (bf.same ap) m9);refine⟨_,Z,_,Z,t,_,_,_,Z,Z,cA,Z,P3,fun tf b6=>?_⟩;have nf:=Ae.new (o:=.tup [.str "none",.ref pD,.ref pN]) b6;have cW:=(((cD.same ((s4.trans bd).trans (sg.trans w9))).but (bf.same ap) m9).same nf);have cX:=(((cN.same ((s4.trans bd).trans (sg.trans w9))).but (bf.same ap) m9).same nf);subst cJ
  refine q2 tf pD pN _ (Cv.strip N) (Cv.strip D) cs (Br.trans sB nf.b) (cn.same nf) (SqT.of Aa) cW cX (Bs D) (Bs N) bw cH (ES fun j hj=>I.le1.1 j (by lia)) cc (fun x hx=>bN x (Cv.strip_mem _ _ hx)) (fun i hi h1 h2=>?_) (by lia) fun f hf b2=>only f hf fun x=>by
   have:=b2 x
   rwa [Cv.ev_strip,Cv.ev_strip]at this
  have cw:=NU co cj hi;rw[List.getElem_take,List.getElem_take]at cw;rw[Cv.ev_strip,Cv.ev_strip];exact I.on1 _ cw
 ·refine AK (decide_eq_false (by lia)) ?_
  refine⟨_,Z,_,Z,P3,fun tf b6=>?_⟩;have nf:=Ae.new (o:=.tup [.str "one",.ref pc,.ref Y]) b6;exact q1 tf pc Y _ bn rs cs (Br.trans sB nf.b) (cn.same nf) (SqT.of Aa) ((((cC.same sg).same w9).but (bf.same ap) m9).same nf) cM cQ bc cb (nf _ _ e9) (Au.same ce nf) a0 cR (by lia)
theorem Ko{f:aa}{fd:ag}(F:Fun K "judged" "judged" (top 51) f fd){O ak:aa}(al:Ja K "TooFew" ak)(Y:FdY P w K mg base 35 "check_heights" ["places","heights"] (fun vs H Q E=>(Co K:Sp) vs H Q E\/(DC K O:Sp) vs H Q E))(S4:Fd P w K mg base 35 "check_heights" ["places","heights"] (Co K))(S5:Fd P w K mg base 36 "pair_through" ["places","heights","width"] (FF K))(SA:Fd P w K mg base 39 "curve_through" ["points"] (Io K))(S6:Fd P w K mg base 38 "rising" ["places"] (FD K 268))(RJ:Fd P w K mg base 35 "height_at" ["curve","x"] (Ci K))(RM:mg "list" = none)(RF:mg "len" = none)(RI:mg "zip" = none)(RK:mg "tuple" = none){J:aa}(an:mg "NOUGHT" = some (.ref J))(ap:∀H:Hp,AD K H (.ref J) (0))(hT:P.given.tree=none) :
 Ay P w K mg base (CX2 P w) 40 f fd ["places","heights","width","most"] (DY K O ak):=by
 refine F.okY BN (fun vs H Q E h=>?_) (fun aC A outer s H vs Q E hr h=>?_)
 ·obtain⟨_,_,_,_,_,_,_,rfl,_⟩:=h;rfl
 refine⟨_,(BJ (BG (IG Y hr rfl Ld (A0 (pv 0) (A0 (pv 1) Ab))))
  (BJ (Ai (i:=4) BN.nd rfl (Or.inl rfl) (Ah AF (Ah Aq Ac (pv 3)) (pv 2)))
  (BJ (AG (K:=K) (Ap D4 (pv 4) (Ak (Bw K) rfl RF AB (A0 (pv 0) Ab)) (As _)) (Ag (Dq al rfl FT rfl (A0 AO Ab))) Az (by rfl) (by rfl))
  Dp))),?_⟩
 obtain⟨l,lh,zs,ys,qs,W,e,rfl,hS,hn,hH,as,bad⟩:=h;have P1:1<=af:=by decide
 have hl:=hn.length
 rcases bad with ⟨hb,q⟩ | ⟨hb,aF,q⟩
 ·exact⟨_,Z,_,Z,.inr ⟨l,lh,zs,ys,qs,Z,hS,hn,hH,as,hb,q⟩⟩
 obtain⟨b1,b2,b3,b4⟩:=Fv hb;refine⟨_,Z,_,Z,.inl ⟨l,lh,zs,ys,qs,Z,hS,hn,b3,b1,b2,hH,by lia,fun H1 s1=>?_⟩⟩
 refine⟨_,Z,_,_,Z,Z,.inl ⟨by decide,by decide⟩,_,Z,_,_,Z,Z,?_⟩
 exact⟨_,Z,_,Z,l,zs,Z,.inl (Ae.seq s1 hS),_,_,Z,Z,_,Z,AV (decide_eq_true (by lia)) ⟨P1,q H1 s1⟩⟩
theorem Cj:Ao ["places","width","other","many","start","heights"] ["places","width"] (Af (top 52)):=fsc
theorem Gd{f:aa}{fd:ag}(F:Fun K "doubtful" "doubtful" (top 52) f fd)(S2:Fd P w K mg base 34 "check_places" ["places","fewest"] (CH K))(RW:Fd P w K mg base 36 "by_steps" ["knots","steps"] (CL K))(RJ:Fd P w K mg base 35 "height_at" ["curve","x"] (Ci K))(RF:mg "len" = none){Y:aa}(J:mg "NOUGHT" = some (.ref Y))(O:∀H:Hp,AD K H (.ref Y) (0))(hT:P.given.tree=none) :
 Ay P w K mg base CX0 37 f fd ["places","width"] (CY K):=by
 refine F.ok Cj (fun vs H Q E h=>?_) (fun cp A outer s H vs Q E hr h=>?_)
 ·obtain⟨_,_,_,_,rfl,_⟩:=h;rfl
 refine⟨_,(Ad (K:=K) (BG (Al S2 hr rfl (A0 (pv 0) (A0 Ac Ab))))
  (Ad (K:=K) (AG (K:=K) (PW.pt (GJ (Ap E9 (pv 1) Ac (As _)) (EG (Ap Lf (pv 1) (Ak (Bw K) rfl RF AB (A0 (pv 0) Ab)) (As _))))) (Ag Ca) Az (by rfl) (by rfl))
  (Ad (K:=K) (Ai (i:=2) Cj.nd rfl (Or.inr rfl) (Al RW hr rfl (A0 (AU (slL K) (pv 0) Be (Bc (pv 1))) (A0 (Ah Cp (Ah E7 (AE (A0 (AZ (v:=.ref Y) rfl J rfl) Ab)) (Ah AS (pv 1) Ac)) (AE (A0 (AL (A0 Ac (A0 Ac Ab))) Ab))) Ab))))
  (Ad (K:=K) (Ai (i:=3) Cj.nd rfl (Or.inl rfl) (Ah AF (Ah (BA hr hT) (Ah AS (Ak (Bw K) rfl RF AB (A0 (pv 0) Ab)) (pv 1)) Ac) Ac))
  (Ad (K:=K) (Ai (i:=4) Cj.nd rfl (Or.inl rfl) (Ah AS (Ak (Bw K) rfl RF AB (A0 (pv 0) Ab)) (pv 3)))
  (Ad (K:=K) (Ai (i:=5) Cj.nd rfl (Or.inl rfl) (Ah Cp (Ah E7 (AE (A0 (AZ (v:=.ref Y) rfl J rfl) Ab)) (pv 4)) (CB rfl (N:=["x","other"]) (nt:=1) (js:=[2]) (AW.look (NX:=["places","width","other","many","start","heights"]) (sc:=Af (top 52)) rfl rfl (by decide +kernel)) (piL K (AU (slL K) (pv 0) (Bc (pv 4)) Be)) (fun u1 u2 u3 u4 u5=>(Ax (i:=0) (show List.Nodup (["x","other"]:List Str) from by decide +kernel) rfl (Or.inl rfl))) (AJ (by decide)) (fun u1 u2 u3 u4 u5=>Bz) (fun u1 u2 u3 u4 u5=>(Al RJ hr rfl (A0 (pv 1) (A0 (pv 0) Ab)))))))
  (Ag (Ar (AL (A0 (pv 5) (A0 (AL Ab) (A0 (pv 2) Ab)))))) (by rfl)) (by rfl)) (by rfl)) (by rfl)) (by rfl)) (by rfl)),?_⟩
 obtain⟨l,ys,qs,W,rfl,hS,hn,b3,b9,cq,cr,hb,q⟩:=h;have P0:0<=af:=by decide
 have P1:1<=af:=by decide
 have P2:2<=af:=by decide
 have P3:3<=af:=by decide
 have hl:=hn.length;refine⟨_,Z,l,2,ys,qs,Z,hS,hn,b3,b9,by lia,fun H1 s1=>?_⟩
 refine⟨_,Z,_,_,Z,Z,_,Z,?_⟩;refine AK (by rw[decide_eq_false (show ¬((W:Int)<1) by lia)]<;>rfl) ?_
 refine⟨_,Z,_,Z,l,ys,Z,.inl (Ae.seq s1 hS),_,_,Z,Z,_,Z,?_⟩;refine AK (by rw[decide_eq_false (show ¬((ys.length:Int)<=(W:Int)) by lia)]<;>rfl) ?_
 refine⟨_,Z,_,Z,_,Z,l,ys,Z,Ae.seq s1 hS,fun la ck=>?_⟩;rw[CD];have sa:=s1.trans (Ae.new (o:=.lst (ys.take W)) ck);have bf:(upd H1 la (.lst (ys.take W))) la=some (.lst (ys.take W)):=Aa;generalize upd H1 la (.lst (ys.take W))=H2 at sa bf ⊢;refine⟨P1,fun lb b7=>?_⟩;have eW:((W:Int)-1).toNat=W-1:=by lia
 refine⟨_,Z,_,_,Z,Z,lb,_,_,Z,Z,Aa,by lia,by lia,?_,fun lc ca=>?_⟩
 ·show 1*((W:Int)-1).toNat<=af;rw[eW];exact U7 (AA (by lia))
 rw[eW];have sb:=(Ae.new (o:=.lst [.ref Y]) b7).trans (Ae.new (o:=.lst (Ux (W-1) [V.ref Y]).flatten) ca);have nr:=EY (K:=K) (H:=upd (upd H2 lb (.lst [.ref Y])) lc (.lst (Ux (W-1) [V.ref Y]).flatten)) (O _) (W-1);have bu:=nr.length;rw[UJ]at bu;have bd:(upd (upd H2 lb (.lst [.ref Y])) lc (.lst (Ux (W-1) [V.ref Y]).flatten)) lc=some (.lst (Ux (W-1) [V.ref Y]).flatten):=Aa;generalize upd (upd H2 lb (.lst [.ref Y])) lc (.lst (Ux (W-1) [V.ref Y]).flatten)=H3 at sb nr bd ⊢;refine⟨P2,fun t1 b4=>⟨P1,fun ld bn=>?_⟩⟩;have sc:=(Ae.new (o:=.tup [.int 1,.int 1]) b4).trans (Ae.new (o:=.lst [.ref t1]) bn);refine⟨lc,ld,_,[.ref t1],Z,Z,sc _ _ bd,Aa,U6 (show _<=300 by rw[bu];show _+1<=300;lia) (by decide),fun le b0=>?_⟩
 have sd:=sc.trans (Ae.new (o:=.lst ((Ux (W-1) [V.ref Y]).flatten++[V.ref t1])) b0);have bb:Au K (upd (upd (upd H3 t1 (.tup [.int 1,.int 1])) ld (.lst [.ref t1])) le (.lst ((Ux (W-1) [V.ref Y]).flatten++[V.ref t1]))) ((Ux (W-1) [V.ref Y]).flatten++[V.ref t1]) (Ux (W-1) 0++[1]):=Paired.snoc (Au.same nr sd) (AD.of ((Ae.new b0) _ _ ((Ae.new bn) _ _ (Aa (o:=nT 1)))));have aF:(upd (upd (upd H3 t1 (.tup [.int 1,.int 1])) ld (.lst [.ref t1])) le (.lst ((Ux (W-1) [V.ref Y]).flatten++[V.ref t1]))) le=some (.lst ((Ux (W-1) [V.ref Y]).flatten++[V.ref t1])):=Aa;generalize upd (upd (upd H3 t1 (.tup [.int 1,.int 1])) ld (.lst [.ref t1])) le (.lst ((Ux (W-1) [V.ref Y]).flatten++[V.ref t1]))=H4 at sd bb aF ⊢;have aP:=sb.trans sd;have s4:=sa.trans aP;have cg:∀c∈qs.take W,RB 24 c:=fun c hc=>hb c (WN hc);refine⟨la,le,_,_,qs.take W,Ux (W-1) 0++[1],24,Z,SqL.of (aP _ _ bf),Paired.take W (Aw.same hn s4).nums,SqL.of aF,bb,?_,?_,cg,fun c hc=>?_,by decide,fun a0 H5 os s5 bX bB b5 be bY=>?_⟩
 ·rw[Uy,UH,UJ,UW];lia
 ·rw[Uy];lia
 ·rcases Uc.mp hc with z | z
  ·rw[(WR.mp z).2];exact RB.zero (by decide)
  ·rw[Vx.mp z];exact RB.one (by decide)
 have ce:(qs.take W).length=W:=by rw[Uy];lia
 rw[ce]at bB be;have cj:qs[W-1]? = some (qs[W-1]'(by lia)):=Vy _
 have b2:∀X,Cv.ev os X=L2.prV X (qs.take (W-1)):=fun X=>by
  have e1:qs.take W=qs.take (W-1)++[qs[W-1]'(by lia)]:=by
   conv=>lhs;rw[show W=W-1+1 by lia]
   rw[Vj,cj];rfl
  have e2:Ux (W-1) (0:Rat)=Ux (qs.take (W-1)).length 0:=by rw[Uy,UN (by lia)]
  rw[bY,e1,e2,Ed];show _*(1+(X-_)*0)=_
  grind
 have bc:=s4.trans s5;have aC:∀c∈os,RB 1000 c:=fun c hc=>(be c hc).mono (by lia)
 clear bb aF bd nr sd sb sc bf sa aP s4 s5 bY be;have e3:((ys.length:Int)-(W:Int))=(((ys.length-W:Nat)):Int):=by lia
 obtain⟨mn,bN⟩:∃mn,mn=(qs.length-W) / 2+1:=⟨_,Z⟩;rw[<- bN]at q;have co:1<=mn/\mn<=qs.length:=by lia
 refine⟨_,Z,l,ys,Z,.inl (Ae.seq bc hS),_,Z,_,_,Z,Z,_,_,Z,Z,(by first | decide | (dsimp only;decide)),_,_,Z,Z,?_⟩
 have e4:(((ys.length:Int)-(W:Int)).fdiv 2+1)=((mn:Nat):Int):=by
  rw[e3,WW _ (by decide),bN,hl]
  lia
 try dsimp only
 rw[e4];refine⟨_,Z,l,ys,Z,.inl (Ae.seq bc hS),_,Z,_,_,Z,Z,?_⟩;obtain⟨st,cf⟩:∃st,st=qs.length-mn:=⟨_,Z⟩;rw[<- cf]at q;have e5:((ys.length:Int)-((mn:Nat):Int))=((st:Nat):Int):=by lia
 try dsimp only
 rw[e5];refine⟨P1,fun lf cm=>?_⟩;refine⟨_,Z,lf,_,_,Z,Z,Aa,by lia,by lia,?_,fun lg b6=>?_⟩
 ·show 1*((st:Nat):Int).toNat<=af;rw[UM];exact U7 (AA (by lia))
 rw[UM];have sg:=(Ae.new (o:=.lst [.ref Y]) cm).trans (Ae.new (o:=.lst (Ux st [V.ref Y]).flatten) b6);have ng:=EY (K:=K) (H:=upd (upd H5 lf (.lst [.ref Y])) lg (.lst (Ux st [V.ref Y]).flatten)) (O _) st;have bF:=ng.length;rw[UJ]at bF;have bp:(upd (upd H5 lf (.lst [.ref Y])) lg (.lst (Ux st [V.ref Y]).flatten)) lg=some (.lst (Ux st [V.ref Y]).flatten):=Aa;generalize upd (upd H5 lf (.lst [.ref Y])) lg (.lst (Ux st [V.ref Y]).flatten)=H6 at sg ng bp ⊢;have bg:=bc.trans sg;refine Cb ⟨_,Z,_,Z,_,Z,l,ys,Z,Ae.seq bg hS,fun lh cc=>?_⟩;rw[Dy];have sh:Ae H6 (upd H6 lh (.lst (ys.drop st))):=Ae.new cc;have ba:(upd H6 lh (.lst (ys.drop st))) lh=some (.lst (ys.drop st)):=Aa;generalize upd H6 lh (.lst (ys.drop st))=H7 at sh ba ⊢;have ci:(ys.drop st).length=qs.length-st:=by rw[UP];lia
 have bC:=(bX.same sg).same sh;have bh:=bg.trans sh;refine⟨lh,Z,⟨_,SqL.of ba⟩,Dg (xs:=ys.drop st) (L5 H7 K qs st os fun H7 K qs st os i zs H'=>Ae H7 H'/\zs.length=i/\Au K H' zs (((qs.drop st).take i).map fun x=>Cv.ev os x)) ⟨Ae.refl _,Z,.nil⟩ (fun i zs H' _ h=>⟨SqL.of (h.1 _ _ ba),h.2.1⟩) (U7 (AA (by lia))) ?_ ?_⟩
 ·rintro i v zs H' hv ⟨sm,bZ,an⟩;obtain⟨x,hx,xa,rfl,cn⟩:=(Paired.get (D3 st (Aw.same hn bh)) hv);have b8:x∈qs:=X5 (UG hx);have bD:(os.length+4)*(os.length+4)<=16*16:=WQ (by lia) (by lia)
  have cu:(1000+1)*((os.length+4)*(os.length+4))<=30000000:=U6 (X0 _ bD) (by decide)
  refine⟨_,Z,_,Z,a0,xa,os,x,1000,1000,24,Z,bC.same sm,AD.of (sm _ _ cn),aC,hb x b8,by lia,by lia,fun p H8 s8 e8 _=>⟨sm.trans s8,by simp[bZ],?_⟩⟩
  rw[Vj,hx,Vk];exact Paired.snoc (Au.same an s8) (AD.of e8)
 rintro zs H8 ⟨s8,bZ,an⟩ li bx;rw[ci,VW (by rw[UP];lia)]at an
 have si:=s8.trans (Ae.new (o:=.lst zs) bx);have bG:(upd H8 li (.lst zs)) li=some (.lst zs):=Aa;have bq:=Au.same an (Ae.new (o:=.lst zs) bx);generalize upd H8 li (.lst zs)=H9 at si bG bq ⊢;have bw:=sh.trans si;refine⟨lg,li,_,zs,Z,Z,bw _ _ bp,bG,U6 (show _<=300 by rw[bF];lia) (by decide),fun lj bt=>?_⟩
 have sj:Ae H9 (upd H9 lj (.lst ((Ux st [V.ref Y]).flatten++zs))):=Ae.new bt;have as:=bw.trans sj;have nj:Au K (upd H9 lj (.lst ((Ux st [V.ref Y]).flatten++zs))) ((Ux st [V.ref Y]).flatten++zs) (R5 qs os st):=Paired.append (Au.same ng as) (Au.same bq sj);have bW:(upd H9 lj (.lst ((Ux st [V.ref Y]).flatten++zs))) lj=some (.lst ((Ux st [V.ref Y]).flatten++zs)):=Aa;have bl:H lj=none:=((bh.trans si)).free bt;generalize upd H9 lj (.lst ((Ux st [V.ref Y]).flatten++zs))=ap at sj as nj bW ⊢;refine⟨_,Z,P0,fun ak b1=>?_⟩;have sk:Ae ap (upd ap ak (.tup [])):=Ae.new b1;refine⟨_,Z,P3,fun tt cb=>?_⟩;have sl:Ae (upd ap ak (.tup [])) (upd (upd ap ak (.tup [])) tt (.tup [.ref lj,.ref ak,.ref a0])):=Ae.new cb;have al:=sk.trans sl;exact q tt lj ak a0 _ _ os ((bg.trans as).trans al) (SqT.of Aa) bl (al _ _ bW) (Au.same nj al) (SqT.of (sl _ _ Aa)) ((bX.same sg).same (as.trans al)) b5 bB aC b2
theorem IJ{f:aa}{fd:ag}(F:Fun K "doubtful" "doubtful" (top 52) f fd){Y ak:aa}(al:Ja K "TooFew" ak)(O:FdY P w K mg base 34 "check_places" ["places","fewest"] (fun vs H Q E=>(CH K:Sp) vs H Q E\/(EE K Y:Sp) vs H Q E))(S2:Fd P w K mg base 34 "check_places" ["places","fewest"] (CH K))(RW:Fd P w K mg base 36 "by_steps" ["knots","steps"] (CL K))(RJ:Fd P w K mg base 35 "height_at" ["curve","x"] (Ci K))(RF:mg "len" = none){J:aa}(an:mg "NOUGHT" = some (.ref J))(ap:∀H:Hp,AD K H (.ref J) (0))(hT:P.given.tree=none) :
 Ay P w K mg base (CX2 P w) 37 f fd ["places","width"] (DZ K Y ak):=by
 refine F.okY Cj (fun vs H Q E h=>?_) (fun aC A outer s H vs Q E hr h=>?_)
 ·obtain⟨_,_,_,_,rfl,_⟩:=h;rfl
 refine⟨_,(BJ (BG (IG O hr rfl Ld (A0 (pv 0) (A0 Ac Ab))))
  (BJ (AG (K:=K) (PW.pt (GJ (Ap E9 (pv 1) Ac (As _)) (EG (Ap Lf (pv 1) (Ak (Bw K) rfl RF AB (A0 (pv 0) Ab)) (As _))))) (Ag (Dq al rfl FT rfl (A0 AO Ab))) Az (by rfl) (by rfl))
  Dp)),?_⟩
 obtain⟨l,zs,qs,W,rfl,hS,hn,as,bad⟩:=h;have P1:1<=af:=by decide
 have hl:=hn.length
 rcases bad with ⟨hb,q⟩ | ⟨hb,aF,q⟩
 ·exact⟨_,Z,.inr ⟨l,2,zs,qs,Z,hS,hn,as,hb,q⟩⟩
 obtain⟨b1,b2,b3⟩:=Dz hb;refine⟨_,Z,.inl ⟨l,2,zs,qs,Z,hS,hn,b3,b2,b1,fun H1 s1=>?_⟩⟩;refine⟨_,Z,_,_,Z,Z,_,Z,?_⟩;by_cases hw:W<1
 ·exact AV (decide_eq_true hw) (Ox ⟨P1,q H1 s1⟩)
 refine AK (decide_eq_false hw) ?_;exact⟨_,Z,_,Z,l,zs,Z,.inl (Ae.seq s1 hS),_,_,Z,Z,_,Z,AV (decide_eq_true (by lia)) ⟨P1,q H1 s1⟩⟩
theorem IB:Ao ["places"] ["places"] (Af (top 58)):=fsc
theorem IP{f:aa}{fd:ag}(F:Fun K "nought_at" "nought_at" (top 58) f fd)(RW:Fd P w K mg base 36 "by_steps" ["knots","steps"] (CL K))(RF:mg "len" = none){Y:aa}(W:mg "NOUGHT" = some (.ref Y))(O:∀H:Hp,AD K H (.ref Y) (0))(hT:P.given.tree=none) :
 Ay P w K mg base CX0 37 f fd ["places"] (EC K):=by
 refine F.ok IB (fun vs H Q E h=>?_) (fun bc A outer s H vs Q E hr h=>?_)
 ·obtain⟨_,_,_,_,rfl,_⟩:=h;rfl
 refine⟨_,(Ag (Ar (Al RW hr rfl (A0 (Ah Cp (pv 0) (AE (A0 (AZ (v:=.ref Y) rfl W rfl) Ab))) (A0 (Ah Cp (Ah E7 (AE (A0 (AZ (v:=.ref Y) rfl W rfl) Ab)) (Ak (Bw K) rfl RF AB (A0 (pv 0) Ab))) (AE (A0 (AL (A0 Ac (A0 Ac Ab))) Ab))) Ab))))),?_⟩;obtain⟨l,zs,qs,n,rfl,hl,hN,hb,al,hn,bd,q⟩:=h;have P1:1<=af:=by decide
 have P2:2<=af:=by decide
 have ap:60<=af:=by decide
 have ba:=hN.length;refine⟨_,Z,P1,fun o1 h1=>?_⟩;have n1:=Ae.new (o:=.lst [.ref Y]) h1;refine⟨l,o1,zs,[.ref Y],Z,Z,n1 _ _ hl,Aa,U6 (show _<=60 by rw[UW];lia) ap,fun o2 h2=>?_⟩
 have n2:=Ae.new (o:=.lst (zs++[.ref Y])) h2;have s2:=n1.trans n2;have e2:=Aa (H:=upd H o1 (.lst [.ref Y])) (a:=o2) (o:=.lst (zs++[.ref Y]));generalize upd (upd H o1 (.lst [.ref Y])) o2 (.lst (zs++[.ref Y]))=H2 at s2 e2 ⊢;refine⟨P1,fun o3 h3=>?_⟩;have n3:=Ae.new (o:=.lst [.ref Y]) h3;refine⟨_,Z,l,zs,Z,.inl (SqL.of (n3 _ _ (s2 _ _ hl))),o3,_,[.ref Y],Z,Z,Aa,by lia,by lia,U6 (show _<=60 by show 1*_<=60;lia) ap,fun o4 h4=>?_⟩
 rw[UM,QB];have n4:=n3.trans (Ae.new (o:=.lst (Ux zs.length (.ref Y))) h4);have e4:=Aa (H:=upd H2 o3 (.lst [.ref Y])) (a:=o4) (o:=.lst (Ux zs.length (.ref Y)));generalize upd (upd H2 o3 (.lst [.ref Y])) o4 (.lst (Ux zs.length (.ref Y)))=H4 at n4 e4 ⊢;refine⟨P2,fun J h5=>⟨P1,fun o6 h6=>?_⟩⟩;have n5:=Ae.new (o:=.tup [.int 1,.int 1]) h5;have n6:=Ae.new (o:=.lst [.ref J]) h6;have e5:=n6 _ _ (Aa (H:=H4) (a:=J) (o:=.tup [.int 1,.int 1]));refine⟨o4,o6,_,_,Z,Z,n6 _ _ (n5 _ _ e4),Aa,U6 (show _<=60 by rw[UW,UJ];lia) ap,fun o7 h7=>?_⟩
 have n7:=Ae.new (o:=.lst (Ux zs.length (.ref Y)++[.ref J])) h7;have aP:=(n5.trans n6).trans n7;have ak:=n4.trans aP;have e7:=Aa (H:=upd (upd H4 J (.tup [.int 1,.int 1])) o6 (.lst [.ref J])) (a:=o7) (o:=.lst (Ux zs.length (.ref Y)++[.ref J]));have e5:=n7 _ _ e5;generalize upd (upd (upd H4 J (.tup [.int 1,.int 1])) o6 (.lst [.ref J])) o7 (.lst (Ux zs.length (.ref Y)++[.ref J]))=H7 at ak e7 e5 ⊢;have an:RB n (0:Rat):=⟨(show Bd 1 0 by unfold Bd;decide).mono al,(show Bd 1 1 by unfold Bd;decide).mono al⟩
 have as:RB n (1:Rat):=⟨(show Bd 1 1 by unfold Bd;decide).mono al,(show Bd 1 1 by unfold Bd;decide).mono al⟩
 refine⟨o2,o7,_,_,qs++[0],Ux qs.length 0++[1],n,Z,SqL.of (ak _ _ e2),Paired.append (Au.same hN (s2.trans ak)) (.cons (O _) .nil),SqL.of e7,?_,by rw[UH,UH,UJ];rfl,by rw[UH,UW];lia,?_,?_,by lia,fun p H' cs s8 cC bb hg aC aF=>?_⟩
 ·rw[<- ba];exact Paired.append (Jy (O _) _) (.cons ⟨J,Z,SqT.of e5⟩ .nil)
 ·intro c hc
  rcases Uc.mp hc with z | z
  ·exact hb c z
  ·rw[Vx.mp z];exact an
 ·intro c hc
  rcases Uc.mp hc with z | z
  ·rw[WV z];exact an
  ·rw[Vx.mp z];exact as
 have a0:cs=prL qs:=Dv hg (Fn qs) fun x=>by rw[aF x,Fi,GN]
 rw[a0]at cC aC;refine q p H' ((s2.trans ak).trans s8) cC fun c hc=>(aC c hc).mono ?_;have e:(qs++[(0:Rat)]).length=qs.length+1:=by rw[UH,UW]
 have:=X0 n (show qs.length+1<=13 by lia)
 rw[e]
 lia
theorem AH:Ao ["first","second","lead","often","rest","shift","top","k"] ["first","second"] (Af (top 55)):=fsc
theorem Fg{f:aa}{fd:ag}(F:Fun K "whole_division" "whole_division" (top 55) f fd)(RM:mg "list" = none)(RG:mg "range" = none)(RF:mg "len" = none)(hT:P.given.tree=none) :
 Ay P w K mg base CX0 33 f fd ["first","second"] (ME K):=by
 refine F.ok AH (fun vs H Q E h=>?_) (fun cD A outer s H vs Q E hr h=>?_)
 ·obtain⟨_,_,_,_,_,_,_,rfl,_⟩:=h;rfl
 refine⟨_,(Ad (K:=K) (Ai (i:=2) AH.nd rfl (Or.inr rfl) (Aj (ixL K) (pv 1) (E5 CP Ac) (fun u v=>rfl)))
  (Ad (K:=K) (Ai (i:=3) AH.nd rfl (Or.inl rfl) (AE Ab))
  (Ad (K:=K) (Ai (i:=4) AH.nd rfl (Or.inl rfl) (Ck (QT K) rfl RM LG (A0 (pv 0) Ab)))
  (Ad (K:=K) (Ba (K:=K) PassesOwn.never rfl (Lc rfl RG (A0 (Ah AS (Ak (Bw K) rfl RF AB (A0 (pv 0) Ab)) (Ak (Bw K) rfl RF AB (A0 (pv 1) Ab))) (A0 (E5 CP Ac) (A0 (E5 CP Ac) Ab)))) (Ax (i:=5) AH.nd rfl (Or.inl rfl)) (Ad (K:=K) (Ai (i:=6) AH.nd rfl (Or.inl rfl) (Aj (ixL K) (pv 4) (E5 CP Ac) (fun u v=>rfl)))
  (Ad (K:=K) (Ai (i:=3) AH.nd rfl (Or.inl rfl) (Ah Cp (AE (A0 (pv 6) Ab)) (CB rfl (N:=["number","lead"]) (nt:=1) (js:=[2]) (AW.look (NX:=["first","second","lead","often","rest","shift","top","k"]) (sc:=Af (top 55)) rfl rfl (by decide +kernel)) (piL K (pv 3)) (fun u1 u2 u3 u4 u5=>(Ax (i:=0) (show List.Nodup (["number","lead"]:List Str) from by decide +kernel) rfl (Or.inl rfl))) (AJ (by decide)) (fun u1 u2 u3 u4 u5=>Bz) (fun u1 u2 u3 u4 u5=>(Ah Aq (pv 1) (pv 0))))))
  (Ad (K:=K) (MO (i:=4) rfl AH.nd rfl rfl (N:=["number","lead"]) (nt:=1) (js:=[2]) (AW.look (NX:=["first","second","lead","often","rest","shift","top","k"]) (sc:=Af (top 55)) rfl rfl (by decide +kernel)) (piL K (AU (slL K) (pv 4) Be (Bc (E5 CP Ac)))) (fun u1 u2 u3 u4 u5=>(Ax (i:=0) (show List.Nodup (["number","lead"]:List Str) from by decide +kernel) rfl (Or.inl rfl))) (AJ (by decide)) (fun u1 u2 u3 u4 u5=>Bz) (fun u1 u2 u3 u4 u5=>(Ah Aq (pv 1) (pv 0))) rfl)
  (Ag (Ba (K:=K) PassesOwn.never rfl (Bj rfl RG (A0 (Ah AS (Ak (Bw K) rfl RF AB (A0 (pv 1) Ab)) Ac) Ab)) (Ax (i:=7) AH.nd rfl (Or.inl rfl)) (Ag (FH (Ah AS (Aj (ixL K) (pv 4) (Ah AF (pv 7) (pv 5)) (fun u v=>rfl)) (Ah Aq (pv 6) (Aj (ixL K) (pv 1) (pv 7) (fun u v=>rfl)))) (FI (pv 4) (Ah AF (pv 7) (pv 5)) Dj))) (by rfl))) (by rfl)) (by rfl)) (by rfl)) (by rfl))
  (Ag (Ar (AL (A0 (pv 3) (A0 (pv 4) Ab))))) (by rfl)) (by rfl)) (by rfl)) (by rfl)),?_⟩
 obtain⟨f,g,fs,gs,lead,M,L,rfl,hf,hg,ak,ck,cj,cy,bw,hM,hL,q⟩:=h;have P0:0<=af:=by decide
 have P1:1<=af:=by decide
 have P2:2<=af:=by decide
 have lf:(fs.map V.int).length=fs.length:=UI _;have lg:(gs.map V.int).length=gs.length:=UI _;have cE:1<=gs.length:=by have:=(Ue.mp ak).1;lia
 have cq:(gs.map V.int)[(gs.map V.int).length-1]? = some (V.int lead):=by rw[lg,UC,ak];rfl
 have bl:Bd L lead:=bw _ (UG ak);refine⟨_,Z,_,Z,g,_,_,_,Z,Z,hg,Eg cq,?_⟩;refine⟨P0,fun oa cw=>?_⟩;have s1:Ae H (upd H oa (.lst [])):=Ae.new cw;refine⟨_,Z,f,_,Z,.inl (Ae.seq s1 hf),fun ra bq=>?_⟩;have s2:=s1.trans (Ae.new (o:=.lst (fs.map V.int)) bq)
 have cB:H ra=none:=by
  cases z:H ra with
  | none=>rfl
  | some u=>rw[s1 ra u z]at bq;cases bq
 refine⟨_,Z,f,_,Z,.inl (Ae.seq s2 hf),_,Z,g,_,Z,.inl (Ae.seq s2 hg),_,_,Z,Z,_,Z,_,Z,_,_,Z,⟨by rw[lf,lg];lia,by rw[lf,lg];lia,by decide,by decide⟩,?_⟩
 have eT:(((fs.map V.int).length:Int)-((gs.map V.int).length:Int) - -1).toNat=fs.length+1-gs.length:=by rw[lf,lg];lia
 rw[eT];have cu:(upd (upd H oa (.lst [])) ra (.lst (fs.map V.int))) ra=some (.lst (fs.map V.int)):=Aa;have co:(upd (upd H oa (.lst [])) ra (.lst (fs.map V.int))) oa=some (.lst (([]:List Int).map V.int)):=(Ae.new bq) _ _ Aa
 refine JM (n:=fs.length+1-gs.length) (L8 H f g lead fs gs M L fun H f g lead fs gs M L j σ H'=>Ae H H'/\∃(oa ra:aa) (W Y:List Int) (z5 z6 z7:Option V),σ=[some (.ref f),some (.ref g),some (.int lead),some (.ref oa),some (.ref ra),z5,z6,z7]/\H' oa=some (.lst (W.map V.int))/\H' ra=some (.lst (Y.map V.int))/\W.length=j/\Y.length=fs.length-j /\
  (∀x,Cv.evI fs x*((lead ^ j:Int):Rat)=Cv.evI W x*x ^ (fs.length+1-gs.length-j)*Cv.evI gs x+Cv.evI Y x)/\(∀t∈W,Bd (M+j*(L+1)) t)/\(∀t∈Y,Bd (M+j*(L+1)) t)/\(j=0->Y=fs)/\(W≠[]->∃t,fs[fs.length-1]? = some t/\W[W.length-1]? = some (lead ^ (W.length-1)*t)))
  ⟨s2,oa,ra,[],fs,none,none,none,Z,co,cu,Z,Z,fun x=>?_,(fun _ h=>nomatch h),(fun t J=>(cy t J).mono (by lia)),fun _=>rfl,fun h=>absurd rfl h⟩ ?_ ?_
 ·rw[VM];show Cv.evI fs x*((1:Int):Rat)=0*_*_+_;rw[Rat.intCast_one];grind
 ·rintro j σ H' hj ce;refine C7 ce fun sm a0=>?_;refine Qd a0 fun oa ra W Y z5 z6 z7 as=>?_;clear a0;refine NL as fun b0 eo er al ca bW bn be b6 bc=>?_;clear as;obtain rfl:=b0
  try clear ce
  have cF:j*(L+1)<=fs.length*(L+1):=VF _ (by lia)
  have cC:(j+1)*(L+1)=j*(L+1)+L+1:=by rw[VD];lia
  have cb:Y.length-1<Y.length:=by lia
  have aP:Y[Y.length-1]? = some Y[Y.length-1]:=Vy cb;generalize cA:Y[Y.length-1]=O at aP;have bN:Bd (M+j*(L+1)) O:=by rw[<- cA];exact be _ (Vz cb)
  have cz:(Y.map V.int)[(Y.map V.int).length-1]? = some (V.int O):=by rw[UI,UC,aP];rfl
  refine⟨_,Z,_,Z,ra,_,_,_,Z,Z,SqL.of er,Eg cz,?_⟩;refine⟨_,Z,P1,fun t1 cm=>?_⟩;have sa:Ae H' (upd H' t1 (.lst [.int O])):=Ae.new cm;refine Cb ⟨_,Z,oa,Z,⟨_,SqL.of (sa _ _ eo)⟩,?_⟩;refine Dg (xs:=W.map V.int) (L5 H' t1 O W lead fun H' t1 O W lead i zs H2=>H2=upd H' t1 (.lst [.int O])/\zs=((W.take i).map (lead * ·)).map V.int) ⟨Z,Z⟩ (fun i zs H2 hi p=>⟨by rw[p.1];exact SqL.of (sa _ _ eo),by rw[p.2,UI,UI,Uy];rw[UI]at hi;lia⟩) (by rw[UI];exact U7 (AA (by lia))) ?_ ?_
  ·rintro i v zs H2 hv ⟨rfl,rfl⟩;rw[UC]at hv;cases et:W[i]? with
   | none=>rw[et]at hv;cases hv
   | some t =>
     rw[et]at hv;cases hv;exact⟨_,Z,_,Z,_,_,Z,Z,Bx.bd bl (bn t (UG et)) (by lia),Z,Hh i et⟩
  rintro zs H2 ⟨rfl,rfl⟩ l1 cg;rw[show W.take (W.map V.int).length=W by rw[UI,Vl]]
  have sb:=sa.trans (Ae.new (o:=.lst ((W.map (lead * ·)).map V.int)) cg);have cx:=(Ae.new (o:=.lst ((W.map (lead * ·)).map V.int)) cg) _ _ (Aa (H:=H') (a:=t1) (o:=.lst [.int O]));refine⟨t1,l1,_,_,Z,Z,cx,Aa,by rw[UI,UI];exact U7 (AA (by show 1+W.length<=1000;lia)),fun o2 cr=>?_⟩
  have sc:=sb.trans (Ae.new (o:=.lst ([V.int O]++(W.map (lead * ·)).map V.int)) cr);have bu:(upd (upd (upd H' t1 (.lst [.int O])) l1 (.lst ((W.map (lead * ·)).map V.int))) o2 (.lst ([V.int O]++(W.map (lead * ·)).map V.int))) o2=some (.lst ((O::W.map (lead * ·)).map V.int)):=Aa;generalize upd (upd (upd H' t1 (.lst [.int O])) l1 (.lst ((W.map (lead * ·)).map V.int))) o2 (.lst ([V.int O]++(W.map (lead * ·)).map V.int))=H3 at sc bu ⊢;have cp:=sc _ _ er;have b9:=sm.trans sc;have rt:(Y.map V.int).take ((Y.map V.int).length-1)=(Y.take (Y.length-1)).map V.int:=by rw[UI,X4]
  refine Cb ⟨_,Z,_,Z,_,Z,ra,_,Z,SqL.of cp,fun c hc=>?_⟩;rw[Nx,rt];have sd:Ae H3 (upd H3 c (.lst ((Y.take (Y.length-1)).map V.int))):=Ae.new hc;refine⟨c,Z,⟨_,SqL.of Aa⟩,?_⟩;refine Dg (xs:=(Y.take (Y.length-1)).map V.int) (L4 H3 c Y lead fun H3 c Y lead i zs H2=>H2=upd H3 c (.lst ((Y.take (Y.length-1)).map V.int))/\zs=(((Y.take (Y.length-1)).take i).map (lead * ·)).map V.int) ⟨Z,Z⟩ (fun i zs H2 hi p=>⟨by rw[p.1];exact SqL.of Aa,by rw[p.2,UI,UI,Uy];rw[UI]at hi;lia⟩) (by rw[UI,Uy];exact U7 (AA (by lia))) ?_ ?_
  ·rintro i v zs H2 hv ⟨rfl,rfl⟩;rw[UC]at hv;cases et:(Y.take (Y.length-1))[i]? with
   | none=>rw[et]at hv;cases hv
   | some t =>
     rw[et]at hv;cases hv;exact⟨_,Z,_,Z,_,_,Z,Z,Bx.bd bl (be t (WN (UG et))) (by lia),Z,Hh i et⟩
  rintro zs H2 ⟨rfl,rfl⟩ r2 aF;have ez:(Y.take (Y.length-1)).take ((Y.take (Y.length-1)).map V.int).length=Y.take (Y.length-1):=by rw[UI,Vl]
  rw[ez];have se:=sd.trans (Ae.new (o:=.lst (((Y.take (Y.length-1)).map (lead * ·)).map V.int)) aF);have bF:(upd (upd H3 c (.lst ((Y.take (Y.length-1)).map V.int))) r2 (.lst (((Y.take (Y.length-1)).map (lead * ·)).map V.int))) r2=some (.lst (((Y.take (Y.length-1)).map (lead * ·)).map V.int)):=Aa
  have ci:H r2=none:=by
   cases z:H r2 with
   | none=>rfl
   | some u=>rw[sd r2 u (b9 r2 u z)]at aF;cases aF
  have cn:r2≠o2:=fun z=>by rw[z,sd _ _ bu]at aF;cases aF
  have b7:=se _ _ bu;have bG:=b9.trans se;generalize upd (upd H3 c (.lst ((Y.take (Y.length-1)).map V.int))) r2 (.lst (((Y.take (Y.length-1)).map (lead * ·)).map V.int))=H4 at bF b7 bG ⊢;have b5:((Y.take (Y.length-1)).map (lead * ·)).length=fs.length-(j+1):=by rw[UI,Uy];lia
  have b4:∀x,Cv.evI ((Y.take (Y.length-1)).map (lead * ·)) x=(lead:Rat)*(Cv.evI Y x-(O:Rat)*x ^ (Y.length-1)):=fun x=>by
   rw[Cv.evI_scale,Cv.evI_last x Y O aP];grind
  have bC:∀t∈(Y.take (Y.length-1)).map (lead * ·),Bd (M+j*(L+1)+L) t:=fun t J=>by
   obtain⟨u,hu,rfl⟩:=(VU.mp J);exact(bl.mul (be u (WN hu))).mono (by lia)
  generalize(Y.take (Y.length-1)).map (lead * ·)=r4 at bF b5 b4 bC;refine⟨_,Z,g,_,Z,.inl (Ae.seq bG hg),_,_,Z,Z,_,Z,by rw[lg];lia,by rw[lg];lia,?_⟩
  have eN:(((gs.map V.int).length:Int)-1).toNat=gs.length-1:=by rw[lg];lia
  rw[eN];have cf:((fs.map V.int).length:Int)-((gs.map V.int).length:Int)-(j:Int)=((fs.length-gs.length-j:Nat):Int):=by rw[lf,lg];lia
  rw[cf];generalize hS:fs.length-gs.length-j=S at cf ⊢
  refine C5 (n:=gs.length-1) (L15 H o2 O W lead f g r2 S fs j Y gs M L fun H o2 O W lead f g r2 S fs j Y gs M L i σ H5=>Ae H H5/\H5 o2=some (.lst ((O::W.map (lead * ·)).map V.int))/\∃(ps:List Int) (z7:Option V),σ=[some (.ref f),some (.ref g),some (.int lead),some (.ref o2),some (.ref r2),some (.int (S:Int)),some (.int O),z7]/\H5 r2=some (.lst (ps.map V.int))/\ps.length=fs.length-(j+1) /\
   (∀x,Cv.evI ps x=(lead:Rat)*(Cv.evI Y x-(O:Rat)*x ^ (Y.length-1))-(O:Rat)*x ^ S*Cv.evI (gs.take i) x)/\(∀k t,ps[k]? = some t->Bd (if k<S+i then M+j*(L+1)+L+1 else M+j*(L+1)+L) t))
   ⟨bG,b7,r4,_,Z,bF,b5,fun x=>?_,fun k t J=>?_⟩ ?_ ?_
  ·rw[b4 x,VY];show _=_-_*(0:Rat)
   grind
  ·split
   ·exact(bC t (UG J)).mono (by lia)
   ·exact bC t (UG J)
  ·rintro i σ H5 hi cc;refine C2 cc fun bp bt ba=>?_;refine CK ba fun ps cv ap=>?_;clear ba;refine Eh ap fun bZ ep bX bg bh=>?_;clear ap;obtain rfl:=bZ
   try clear cc
   have b8:gs[i]? = some gs[i]:=Vy (by lia)
   have bY:i+S<ps.length:=by lia
   have bx:ps[i+S]? = some ps[i+S]:=Vy bY;have bm:Bx O gs[i]:=Bx.bd bN (bw _ (Vz (by lia))) (by lia)
   refine⟨_,Z,_,Z,_,Z,_,_,Z,Z,r2,_,_,_,Z,Z,SqL.of ep,DP bx (by lia),_,Z,_,Z,_,Z,g,_,_,_,Z,Z,Ae.seq bp hg,DP b8 (by lia),_,_,Z,Z,bm,_,_,Z,Z,?_⟩
   refine⟨_,Z,_,Z,_,Z,_,_,Z,Z,r2,_,_,i+S,Z,Z,ep,Hf (by rw[UI];exact bY) (by lia),?_⟩
   refine⟨bp.put ci,by rw[Am (Ne.symm cn)];exact bt,ps.set (i+S) (ps[i+S] + -(O*gs[i])),_,Z,?_,by rw[UR];exact bX,fun x=>?_,fun k t J=>?_⟩
   ·rw[Aa,Vi,<- VB]
   ·rw[Cv.evI_set x ps (i+S) _ _ bx,bg x,Cv.evI_take_succ x gs i _ b8,Rat.intCast_neg,Va,Nm.pow_add]
    grind
   ·by_cases hk:k=i+S
    ·subst hk;rw[Ug bY]at J;cases J;rw[if_pos (by lia),<- VB]
     have b1:=bh _ _ bx;rw[if_neg (by lia)]at b1
     exact Bd.sub b1 ((bN.mul (bw _ (Vz (by lia)))).mono (by lia))
    ·rw[Uh (fun z=>hk z.symm)]at J;have b1:=bh k t J
     split
     ·split at b1
      ·exact b1
      ·exact b1.mono (by lia)
     ·rw[if_neg (by lia)]at b1;exact b1
  ·rintro σ H5 b3;refine C2 b3 fun bp bt bf=>?_;refine CK bf fun ps cv aC=>?_;clear bf;refine Eh aC fun bB ep bX bg bh=>?_;clear aC;obtain rfl:=bB
   try clear b3
   have cG:gs.take (gs.length-1)=gs.take (gs.length-1):=rfl;refine⟨bp,o2,r2,O::W.map (lead * ·),ps,_,_,_,Z,bt,ep,by rw[Vg,UI];lia,bX,fun x=>?_,fun t J=>?_,fun t J=>?_,fun z=>absurd z (by lia),fun _=>?_⟩
   ·have h1:=bW x;have h2:=bg x;have h3:=Cv.evI_last x gs lead ak;have e1:fs.length+1-gs.length-j=S+1:=by lia
    have e2:fs.length+1-gs.length-(j+1)=S:=by lia
    have e3:Y.length-1=S+(gs.length-1):=by lia
    rw[e1]at h1;rw[e2,h2,Cv.evI_cons,Cv.evI_scale,VN,Va,<- VP,h1,h3,e3,Nm.pow_add,Ve]
    grind
   ·rcases Ub.mp J with z | z
    ·rw[z];exact bN.mono (by lia)
    ·obtain⟨u,hu,rfl⟩:=(VU.mp z);exact(bl.mul (bn u hu)).mono (by lia)
   ·obtain⟨k,hk⟩:=(Wc J);have:=bh k t hk
    split at this<;>exact this.mono (by lia)
   ·by_cases hj0:j=0
    ·have ho:W=[]:=Vm (by lia)
     rw[b6 hj0]at aP;refine⟨O,aP,?_⟩;rw[ho];show some O=some (lead ^ 0*O);rw[VM,V5]
    ·obtain⟨t,J,ho⟩:=bc (fun z=>by rw[z]at al;exact hj0 al.symm)
     refine⟨t,J,?_⟩;rw[Vg,UI,Wx];have e:W.length=(W.length-1)+1:=by lia
     rw[e,Vh,UC,ho];show some (lead*(lead ^ (W.length-1)*t))=some (lead ^ (W.length-1+1)*t);rw[VN]
     congr 1
     grind
 ·rintro σ H' b2;refine C7 b2 fun sm bb=>?_;refine Qd bb fun oa ra W Y z5 z6 z7 an=>?_;clear bb;refine NL an fun bD eo er al ca bW bn be b6 bc=>?_;clear an;obtain rfl:=bD
  try clear b2
  refine⟨_,Z,_,Z,P2,fun p hp=>?_⟩;have s9:Ae H' (upd H' p (.tup [.ref oa,.ref ra])):=Ae.new hp;refine q p oa ra _ W Y (sm.trans s9) Aa (s9 _ _ eo) (s9 _ _ er) ⟨al,?_,fun x=>?_,(fun t J=>by rw[al];exact bn t J),(fun t J=>by rw[al];exact be t J),bc⟩
  ·rw[ca];lia
  ·have:=bW x;rw[VX,Vd,VQ]at this;rw[al];exact this
theorem Em:Ao ["base","many","power","turn"] ["base","many"] (Af (top 54)):=fsc
theorem M5{f:aa}{fd:ag}(F:Fun K "raised" "raised" (top 54) f fd)(J:mg "range" = none)(hT:P.given.tree=none) :
 Ay P w K mg base CX0 33 f fd ["base","many"] (Gv):=by
 refine F.ok Em (fun vs H Q E h=>?_) (fun W A outer s H vs Q E hr h=>?_)
 ·obtain⟨_,_,_,rfl,_⟩:=h;rfl
 refine⟨_,(Ad (K:=K) (Ai (i:=2) Em.nd rfl (Or.inl rfl) Ac)
  (Ad (K:=K) (Ba (K:=K) PassesOwn.never rfl (Bj rfl J (A0 (pv 1) Ab)) (Ax (i:=3) Em.nd rfl (Or.inl rfl)) (Ag (Ai (i:=2) Em.nd rfl (Or.inl rfl) (Ah Aq (pv 2) (pv 0)))) (by rfl))
  (Ag (Ar (pv 2))) (by rfl)) (by rfl)),?_⟩
 obtain⟨b,n,L,rfl,hn,Y,hL,q⟩:=h;refine⟨_,Z,_,Z,by lia,by lia,?_⟩
 rw[UM];refine C5 (n:=n) (L3 H b n fun H b n i σ H'=>H'=H/\∃z,σ=[some (.int b),some (.int n),some (.int (b ^ i)),z]) ⟨Z,none,by rw[VM];rfl⟩ ?_ ?_
 ·rintro i σ H' hi ⟨rfl,z,rfl⟩;have O:L*i<=L*n:=X0 _ (by lia)
  exact⟨_,Z,_,Z,_,_,Z,Z,Bx.bd (Bd.pow Y i) Y (by lia),Z,some (.int (0+(i:Int))),by rw[VN];rfl⟩
 ·rintro σ H' ⟨rfl,z,rfl⟩;exact⟨_,Z,q⟩
theorem Cf:Ao ["one","other","bottom","under","second","parts","scale","often"] ["one","other"] (Af (top 56)):=fsc
theorem Ks{f:aa}{fd:ag}(F:Fun K "divided" "divided" (top 56) f fd)(RP:Fd P w K mg base 34 "bottom_of" ["numbers"] (HL K))(RV:Fd P w K mg base 33 "tops_over" ["numbers","bottom"] (Gs K))(Tf:Fd P w K mg base 33 "whole_division" ["first","second"] (ME K))(RU:Fd P w K mg base 35 "curve_over" ["tops","bottom"] (Cu K))(al:Fd P w K mg base 33 "raised" ["base","many"] (Gv))(RF:mg "len" = none)(hT:P.given.tree=none) :
 Ay P w K mg base CX0 36 f fd ["one","other"] (Iy K):=by
 refine F.ok Cf (fun vs H Q E h=>?_) (fun b0 A outer s H vs Q E hr h=>?_)
 ·obtain⟨_,_,_,_,_,_,_,rfl,_⟩:=h;rfl
 refine⟨_,(Ad (K:=K) (AG (K:=K) (Ap Ex (Ak (Bw K) rfl RF AB (A0 (pv 1) Ab)) Ac (As _)) (Ag Ca) Az (by rfl) (by rfl))
  (Ad (K:=K) (Ai (i:=2) Cf.nd rfl (Or.inl rfl) (Al RP hr rfl (A0 (pv 0) Ab)))
  (Ad (K:=K) (Ai (i:=3) Cf.nd rfl (Or.inr rfl) (Al RP hr rfl (A0 (pv 1) Ab)))
  (Ad (K:=K) (Ai (i:=4) Cf.nd rfl (Or.inl rfl) (Al RV hr rfl (A0 (pv 1) (A0 (pv 3) Ab))))
  (Ad (K:=K) (Ai (i:=5) Cf.nd rfl (Or.inl rfl) (Al Tf hr rfl (A0 (Al RV hr rfl (A0 (pv 0) (A0 (pv 2) Ab))) (A0 (pv 4) Ab))))
  (Ad (K:=K) (Ai (i:=6) Cf.nd rfl (Or.inl rfl) (Ah Aq (pv 2) (Al al hr rfl (A0 (Aj (ixL K) (pv 4) (E5 CP Ac) (fun u v=>rfl)) (A0 (Ak (Bw K) rfl RF AB (A0 (Aj (ixT K) (pv 5) Ac (fun u v=>rfl)) Ab)) Ab)))))
  (Ad (K:=K) (Ai (i:=7) Cf.nd rfl (Or.inl rfl) (Al RU hr rfl (A0 (CB rfl (N:=["top","under"]) (nt:=1) (js:=[3]) (AW.look (NX:=["one","other","bottom","under","second","parts","scale","often"]) (sc:=Af (top 56)) rfl rfl (by decide +kernel)) (piL K (Aj (ixT K) (pv 5) Ac (fun u v=>rfl))) (fun u1 u2 u3 u4 u5=>(Ax (i:=0) (show List.Nodup (["top","under"]:List Str) from by decide +kernel) rfl (Or.inl rfl))) (AJ (by decide)) (fun u1 u2 u3 u4 u5=>Bz) (fun u1 u2 u3 u4 u5=>(Ah Aq (pv 0) (pv 1)))) (A0 (pv 6) Ab))))
  (Ag (Ar (AL (A0 (pv 7) (A0 (Al RU hr rfl (A0 (Aj (ixT K) (pv 5) Ac (fun u v=>rfl)) (A0 (pv 6) Ab))) Ab))))) (by rfl)) (by rfl)) (by rfl)) (by rfl)) (by rfl)) (by rfl)) (by rfl)),?_⟩
 obtain⟨r,u,qs,ps,g,d,L,rfl,⟨xs,hS,hn⟩,⟨ys,bb,hm⟩,gq,bt,gp,hB,hC,b5,bq,bY,q⟩:=h;have P2:2<=af:=by decide
 have hl:=hn.length;have b4:=hm.length;have b2:1<=ps.length:=Vf.mpr bt;have nq:d*qs.length<=d*13:=X0 _ bq;have np:L*ps.length<=L*13:=X0 _ bY;refine⟨_,Z,u,ys,Z,.inr bb,Z,_,Z,?_⟩;refine AK (by rw[decide_eq_false (fun z=>by have:=V.int.inj z;lia)]<;>rfl) ?_
 refine⟨_,Z,false,r,xs,qs,d,Z,hS,hn,(fun c O=>(hB c O).2),by rw[VO];lia,fun B bD bf ap=>?_⟩
 refine⟨_,Z,false,u,ys,ps,L,Z,bb,hm,(fun c O=>(hC c O).2),by rw[VO];lia,fun U bN bn aC=>?_⟩
 refine⟨_,Z,_,Z,false,u,ys,ps,U,L*ps.length+1,L,Z,bb,hm,aC,(fun c O=>(hC c O).1),by lia,by lia,fun se bC=>?_⟩
 have s1:Ae H (upd H se (.lst ((ps.map (AN U)).map V.int))):=Ae.new bC;refine⟨_,Z,_,Z,false,r,xs,qs,B,d*qs.length+1,g,Z,SqT.same hS s1,Au.same hn s1,ap,(fun c O=>(hB c O).1),by lia,by lia,fun fa be=>?_⟩
 have s2:=s1.trans (Ae.new (o:=.lst ((qs.map (AN B)).map V.int)) be);have ba:=(Ae.new (o:=.lst ((qs.map (AN B)).map V.int)) be) _ _ (Aa (H:=H) (a:=se) (o:=.lst ((ps.map (AN U)).map V.int)));have bl:(upd (upd H se (.lst ((ps.map (AN U)).map V.int))) fa (.lst ((qs.map (AN B)).map V.int))) fa=some (.lst ((qs.map (AN B)).map V.int)):=Aa;generalize upd (upd H se (.lst ((ps.map (AN U)).map V.int))) fa (.lst ((qs.map (AN B)).map V.int))=H2 at s2 ba bl ⊢;obtain⟨lead,J,bh⟩:=(HJ gp bt bN bn)
 have bF:∀t∈qs.map (AN B),Bd (g+d*13+1) t:=fun t ht=>by
  obtain⟨c,O,rfl⟩:=(VU.mp ht);exact((hB c O).1.mul (ap.fdiv (y:=c.den))).mono (by lia)
 have bG:∀t∈ps.map (AN U),Bd (L*14+1) t:=fun t ht=>by
  obtain⟨c,O,rfl⟩:=(VU.mp ht);exact((hC c O).1.mul (aC.fdiv (y:=c.den))).mono (by lia)
 refine⟨_,Z,fa,se,qs.map (AN B),ps.map (AN U),lead,g+d*13+1,L*14+1,Z,SqL.of bl,SqL.of ba,J,by rw[UI];lia,by rw[UI];lia,bF,bG,by rw[UI];have:=VF (L*14+1+1) bq;lia,by lia,fun pt pa pb H3 W rs s3 aP a0 bu dv=>?_⟩
 have bg:=s3 _ _ ba;have bx:W.length=qs.length+1-ps.length:=by have:=dv.ol;rw[UI,UI]at this;exact this
 have bp:W.length<=13:=by lia
 have b1:W.length*(L*14+1+1)<=13*(L*14+1+1):=VF _ bp;have b3:(L*14+1)*W.length<=(L*14+1)*13:=X0 _ bp;have bB:((ps.map (AN U)).map V.int)[((ps.map (AN U)).map V.int).length-1]? = some (V.int lead):=by rw[UI,UC,J];rfl
 have an:Bd (L*14+1) lead:=bG _ (UG J);have lo:(W.map V.int).length=W.length:=UI _;have aF:Bd ((L*14+1)*W.length+1) (lead ^ W.length):=Bd.pow an _;refine⟨_,Z,_,Z,_,Z,se,_,_,_,Z,Z,SqL.of bg,Eg bB,_,Z,pt,_,_,_,Z,Z,SqT.of aP,Z,pa,_,Z,.inl (SqL.of a0),lead,W.length,L*14+1,by rw[lo];rfl,by lia,an,by lia,_,_,Z,Z,Bx.bd ap aF (by lia),?_⟩
 have ak:B*lead ^ W.length≠0:=V9 (by lia) (Int.pow_ne_zero bh)
 refine Cb ⟨_,Z,pt,_,_,_,Z,Z,SqT.of aP,Z,pa,Z,⟨_,SqL.of a0⟩,?_⟩;refine Dg (xs:=W.map V.int) (fun i zs H4=>H4=H3/\zs=((W.take i).map (· * U)).map V.int) ⟨Z,Z⟩ (fun i zs H4 hi p=>⟨by rw[p.1];exact SqL.of a0,by rw[p.2,UI,UI,Uy];rw[UI]at hi;lia⟩) (by rw[lo];exact U7 (AA (by lia))) ?_ ?_
 ·rintro i v zs H4 hv ⟨rfl,rfl⟩;rw[UC]at hv;cases et:W[i]? with
  | none=>rw[et]at hv;cases hv
  | some t =>
    rw[et]at hv;cases hv;refine⟨_,Z,_,Z,_,_,Z,Z,Bx.bd (dv.ob t (UG et)) aC (by lia),Z,?_⟩
    rw[Vj,et,Vk,Vk]
    rfl
 rintro zs H4 ⟨rfl,rfl⟩ l1 bZ;rw[show W.take (W.map V.int).length=W by rw[lo,Vl]]
 have s4:Ae H4 (upd H4 l1 (.lst ((W.map (· * U)).map V.int))):=Ae.new bZ;refine⟨_,Z,l1,W.map (· * U),_,Z,SqL.of Aa,ak,by rw[UI];lia,fun a H5 s5 ca=>?_⟩
 have bc:=s4.trans s5;refine⟨_,Z,_,Z,pt,_,_,_,Z,Z,SqT.of (bc _ _ aP),Z,_,Z,pb,rs,_,Z,SqL.of (bc _ _ bu),ak,by rw[dv.rl,UI,UI];lia,fun b H6 s6 cb=>?_⟩
 refine⟨P2,fun p hp=>?_⟩;have s7:Ae H6 (upd H6 p (.tup [.ref a,.ref b])):=Ae.new hp
 have go:BE ((W.map (· * U)).map fun t=>V3 t (B*lead ^ W.length)):=by
  by_cases h0:W=[]
  ·left;rw[h0];rfl
  ·obtain⟨t,ht,ho⟩:=(dv.top h0);have bX:qs≠[]:=fun z=>by rw[z]at ht;cases ht
   obtain⟨t',as,bw⟩:=(HJ gq bX bD bf);rw[ht]at as;cases as;right;refine⟨_,by rw[UI,UI,UC,UC,ho];rfl,fun z=>?_⟩
   have z2:(lead ^ (W.length-1)*t*U)≠0:=V9 (V9 (Int.pow_ne_zero bh) bw) (by lia)
   exact Qf z2 ak z
 rw[EA go]at ca;have bW:=Cv.strip_length (rs.map fun t=>V3 t (B*lead ^ W.length));refine q p a b _ _ _ (((((s2.trans s3).trans bc).trans s6).trans s7)) Aa (ca.same (s6.trans s7)) (cb.same s7) go (Bs _) (by rw[UI,UI];exact bx) ?_ (fun x=>?_) fun c O=>?_
 ·rw[UI,dv.rl,UI,UI]at bW
  lia
 ·rw[Cv.ev_strip];have h1:=dv.ev x;have h2:=Lz (W.map (· * U)) _ ak x;have h3:=Lz rs _ ak x
  have h4:Cv.evI (W.map (· * U)) x=Cv.evI W x*(U:Rat):=by
   have:=Cv.evI_scale x U W;rw[show W.map (· * U)=W.map (U * ·) from WL fun t _=>Int.mul_comm t U,this,Rat.mul_comm]
  have h5:Cv.evI (qs.map (AN B)) x=Cv.ev qs x*(B:Rat):=Il bf x;have h6:Cv.evI (ps.map (AN U)) x=Cv.ev ps x*(U:Rat):=Il bn x;have O:((B*lead ^ W.length:Int):Rat)≠0:=Nm.cast_ne ak;have h7:((B*lead ^ W.length:Int):Rat)=(B:Rat)*((lead ^ W.length:Int):Rat):=Va ..;generalize Cv.ev ((W.map (· * U)).map fun t=>V3 t (B*lead ^ W.length)) x=X at h2 ⊢;generalize Cv.ev (rs.map fun t=>V3 t (B*lead ^ W.length)) x=Y at h3 ⊢;generalize((B*lead ^ W.length:Int):Rat)=C at *
  have h8:(Cv.ev qs x-(X*Cv.ev ps x+Y))*C=0:=by
   rw[h5,h6]at h1;rw[h4]at h2;have:Cv.ev qs x*C=(X*C)*Cv.ev ps x+Y*C:=by rw[h2,h3,h7];grind
   grind
  rcases Vn.mp h8 with z | z
  ·grind
  ·exact absurd z O
 ·obtain⟨t',as,rfl⟩:=(VU.mp O);obtain⟨t,ht,rfl⟩:=(VU.mp as);exact RB.div (m:=0) (((dv.ob t ht).mul aC).mono (by lia)) ((ap.mul aF).mono (by lia)) ak
theorem MG:Ao ["a","b"] ["a","b"] (Af (top 16)):=fsc
theorem MU{f:aa}{fd:ag}(F:Fun K "times" "times" (top 16) f fd)(RL:Fd P w K mg base 34 "number_of" ["top","bottom"] (Eu))(hT:P.given.tree=none) :
 Ay P w K mg base CX0 35 f fd ["a","b"] (FX K (· * ·)):=by
 refine F.ok MG (fun vs H Q E h=>?_) (fun ak A outer s H vs Q E Y h=>?_)
 ·obtain⟨_,_,_,_,_,_,rfl,_⟩:=h;rfl
 refine⟨_,(Ag (Ar (Al RL Y rfl (A0 (Ah Aq (Aj (ixT K) (pv 0) Ac (fun u v=>rfl)) (Aj (ixT K) (pv 1) Ac (fun u v=>rfl))) (A0 (Ah Aq (Aj (ixT K) (pv 0) Ac (fun u v=>rfl)) (Aj (ixT K) (pv 1) Ac (fun u v=>rfl))) Ab))))),?_⟩;obtain⟨x,y,p,q,m,n,rfl,⟨r,rfl,Y⟩,⟨u,rfl,W⟩,J,O,al,k⟩:=h;refine⟨_,Z,r,_,_,_,Z,Z,Y,Z,_,Z,u,_,_,_,Z,Z,W,Z,_,_,Z,Z,Bx.bd J.1 O.1,?_⟩;refine⟨_,Z,r,_,_,_,Z,Z,Y,Z,_,Z,u,_,_,_,Z,Z,W,Z,_,_,Z,Z,Bx.bd J.2 O.2,?_⟩;refine⟨_,_,Z,V9 (Nm.den_ne p) (Nm.den_ne q),fun z hz=>?_⟩;have e:=k z hz
 try dsimp only at e
 rw[<- Nm.times_eq]at e;exact e
theorem LX:Ao ["curve","number"] ["curve","number"] (Af (top 27)):=fsc
theorem M3{f:aa}{fd:ag}(F:Fun K "scaled" "scaled" (top 27) f fd)(Sh:Fd P w K mg base 33 "curve_of" ["numbers"] (El K))(Sl:Fd P w K mg base 35 "times" ["a","b"] (FX K (· * ·)))(hT:P.given.tree=none) :
 Ay P w K mg base CX0 36 f fd ["curve","number"] (Gu K):=by
 refine F.ok LX (fun vs H Q E h=>?_) (fun an A outer s H vs Q E hr h=>?_)
 ·obtain⟨_,_,_,_,_,_,rfl,_⟩:=h;rfl
 refine⟨_,(Ag (Ar (Al Sh hr rfl (A0 (CB rfl (N:=["each","number"]) (nt:=1) (js:=[1]) (AW.look (NX:=["curve","number"]) (sc:=Af (top 27)) rfl rfl (by decide +kernel)) (piT K (pv 0)) (fun u1 u2 u3 u4 u5=>(Ax (i:=0) (show List.Nodup (["each","number"]:List Str) from by decide +kernel) rfl (Or.inl rfl))) (AJ (by decide)) (fun u1 u2 u3 u4 u5=>Bz) (fun u1 u2 u3 u4 u5=>(Al Sl hr rfl (A0 (pv 0) (A0 (pv 1) Ab))))) Ab)))),?_⟩
 obtain⟨r,u,qs,y,m,n,rfl,⟨xs,hS,hn⟩,hy,hB,hb,al,hz,q⟩:=h;have hl:=hn.length;refine Cb ⟨_,Z,r,Z,⟨_,hS⟩,?_⟩;refine PU (xs:=xs) (L4 H K qs y fun H K qs y i zs H'=>Ae H H'/\zs.length=i/\Au K H' zs ((qs.take i).map (· * y))) ⟨Ae.refl _,Z,.nil⟩ (fun i zs H' _ p=>⟨hS.same p.1,p.2.1⟩) (by rw[hl];exact U7 (AA hz)) ?_ ?_
 ·rintro i x zs H' hx ⟨O,J,Y⟩;obtain⟨c,hc,ak⟩:=(Paired.get hn hx);refine⟨_,Z,_,Z,_,_,c,y,m,n,Z,ak.same O,hy.same O,hB c (UG hc),hb,by lia,fun p W=>⟨O.trans (Ae.new W),by simp[J],?_⟩⟩
  rw[Vj,hc,Vk];exact Paired.snoc (Au.same Y (Ae.new W)) (AD.of Aa)
 ·rintro zs H' ⟨O,J,Y⟩ p W;rw[hl,Vl]at Y;exact⟨p,zs,_,Z,SqL.of Aa,Au.same Y (Ae.new W),by rw[UI];exact hz,fun r H2 s2 c=>q r H2 ((O.trans (Ae.new W)).trans s2) c⟩
theorem Cd:Ao ["pair","places","common","under","turned"] ["pair","places"] (Af (top 59)):=fsc
theorem Gi{f:aa}{fd:ag}(F:Fun K "lowest_terms" "lowest_terms" (top 59) f fd)(Tg:Fd P w K mg base 37 "nought_at" ["places"] (EC K))(Si:Fd P w K mg base 35 "over" ["a","b"] (Iv K))(SD:Fd P w K mg base 36 "divided" ["one","other"] (Iy K))(SE:Fd P w K mg base 36 "scaled" ["curve","number"] (Gu K))(RJ:Fd P w K mg base 35 "height_at" ["curve","x"] (Ci K)){Y:aa}(ak:mg "NOUGHT" = some (.ref Y))(J:∀H:Hp,AD K H (.ref Y) (0))(hT:P.given.tree=none) :
 Ay P w K mg base CX0 38 f fd ["pair","places"] (ET K):=by
 refine F.ok Cd (fun vs H Q E h=>?_) (fun cp A outer s H vs Q E hr h=>?_)
 ·obtain⟨_,_,_,_,_,_,_,_,_,_,rfl,_⟩:=h;rfl
 refine⟨_,(Ad (K:=K) (Ai (i:=2) Cd.nd rfl (Or.inl rfl) (Al Tg hr rfl (A0 (CB rfl (N:=["x","pair"]) (nt:=1) (js:=[0]) (AW.look (NX:=["pair","places","common","under","turned"]) (sc:=Af (top 59)) rfl rfl (by decide +kernel)) (piL K (pv 1)) (fun u1 u2 u3 u4 u5=>(Ax (i:=0) (show List.Nodup (["x","pair"]:List Str) from by decide +kernel) rfl (Or.inl rfl))) (AJ (by decide)) (fun u1 u2 u3 u4 u5=>Gn (Ap (eqD K hr.units) (Al RJ hr rfl (A0 (Aj (ixT K) (pv 1) Ac (fun u v=>rfl)) (A0 (pv 0) Ab))) (AZ (v:=.ref Y) rfl ak rfl) (As _))) (fun u1 u2 u3 u4 u5=>(pv 0))) Ab)))
  (Ad (K:=K) (Ai (i:=3) Cd.nd rfl (Or.inl rfl) (Aj (ixT K) (Al SD hr rfl (A0 (Aj (ixT K) (pv 0) Ac (fun u v=>rfl)) (A0 (pv 2) Ab))) Ac (fun u v=>rfl)))
  (Ad (K:=K) (Ai (i:=4) Cd.nd rfl (Or.inl rfl) (Al Si hr rfl (A0 (AL (A0 Ac (A0 Ac Ab))) (A0 (Aj (ixT K) (pv 3) (E5 CP Ac) (fun u v=>rfl)) Ab))))
  (Ag (Ar (AL (A0 (Al SE hr rfl (A0 (Aj (ixT K) (Al SD hr rfl (A0 (Aj (ixT K) (pv 0) Ac (fun u v=>rfl)) (A0 (pv 2) Ab))) Ac (fun u v=>rfl)) (A0 (pv 4) Ab))) (A0 (Al SE hr rfl (A0 (pv 3) (A0 (pv 4) Ab))) Ab))))) (by rfl)) (by rfl)) (by rfl)),?_⟩
 obtain⟨t,lp,pN,pD,zs,qs,N,D,G,nx,rfl,hT,cN,cD,gN,gD,b5,hS,hZ,b4,b8,ci,b9,bN,bD,bq,bX,cn,hG,hz,q⟩:=h;have P2:2<=af:=by decide
 have ck:=hZ.length;obtain⟨L,hL⟩:∃L,L=28*nx+400:=⟨_,Z⟩;obtain⟨E0,hE⟩:∃E0,E0=G+13+400*L+1000:=⟨_,Z⟩;have co:(nx+1)*(D.length+4)<=1001*17:=WQ (by lia) (by lia)
 refine Cb ⟨_,Z,lp,Z,⟨_,hS⟩,?_⟩;refine Ll (xs:=zs) (L4 H K qs D fun H K qs D i us W=>Ae H W/\us.length<=i/\Au K W us ((qs.take i).filter fun q=>decide (Cv.ev D q=0))) ⟨Ae.refl _,Uk _,.nil⟩ (fun i us W _ h=>⟨Ae.seq h.1 hS,h.2.1⟩) (U7 (AA (by lia))) ?_ ?_
 ·rintro i v us W hv ⟨sw,bB,O⟩;obtain⟨x,hx,rx,rfl,bY⟩:=(Paired.get hZ hv);refine⟨_,Z,t,_,_,_,Z,Z,hT.same sw,Z,_,Z,pD,rx,D,x,G,1,nx,Z,cD.same sw,AD.same ⟨rx,Z,bY⟩ sw,bD,bq x (UG hx),by lia,by lia,fun p1 W1 s1 e1 _=>?_⟩
  refine eqN (AD.of e1) (J _) ?_;refine⟨_,Z,?_⟩;have et:(qs.take (i+1)).filter (fun q=>decide (Cv.ev D q=0))=(qs.take i).filter (fun q=>decide (Cv.ev D q=0))++[x].filter (fun q=>decide (Cv.ev D q=0)):=by rw[Vj,hx,WZ];rfl
  by_cases h0:Cv.ev D x=0
  ·refine AV (decide_eq_true h0) ⟨_,Z,sw.trans s1,by rw[UH,UW];lia,?_⟩
   rw[et,WX (by exact decide_eq_true h0)]
   exact Paired.snoc (Au.same O s1) (AD.same ⟨rx,Z,bY⟩ (sw.trans s1))
  ·refine AK (decide_eq_false h0) ⟨sw.trans s1,by lia,?_⟩
   rw[et,WY (by simpa using h0),List.filter_nil,Uu]
   exact Au.same O s1
 rintro us W ⟨sw,bB,O⟩ l1 b3;rw[ck,Vl]at O;generalize bb:qs.filter (fun q=>decide (Cv.ev D q=0))=S at O q;have bZ:S.Nodup:=by rw[<- bb];exact b4.filter _
 have an:∀x∈S,x∈qs/\Cv.ev D x=0:=fun x hx=>by
  rw[<- bb]at hx;exact⟨(U2.mp hx).1,by simpa using(U2.mp hx).2⟩
 have cf:S.length<=12:=by rw[<- bb];exact U6 (List.length_filter_le ..) b8
 have n1:=Ae.new (o:=.lst us) b3;refine⟨l1,us,S,nx,Z,Aa,Au.same O n1,fun x hx=>bq x (an x hx).1,bX,cn,cf,fun pc H2 s2 cC bC=>?_⟩;have sA:=(sw.trans n1).trans s2;have bG:=CS S;have bd:prL S≠[]:=fun z=>by rw[z]at bG;cases bG
 rw[<- hL]at bC;clear n1 s2 b3 bB O sw;refine⟨_,Z,t,_,_,_,Z,Z,hT.same sA,Z,_,Z,pD,pc,D,prL S,G,1,L,Z,cD.same sA,cC,gD,bd,Fn S,bD,bC,by lia,b9,by lia,fun p1 a1 b1 H3 os rs s3 e3 ca cb go gr b6 cg cm ba=>?_⟩
 have bg:=Ia gD go gr cg cm bZ fun x hx=>(an x hx).2
 have bx:os≠[]:=fun z=>b5 (by
  have:=Dv gD (.inl rfl) fun x=>by rw[bg x,z];show _*0=(0:Rat);rw[Wu]
  exact this)
 obtain⟨u,hu,al⟩:∃u,os[os.length-1]? = some u/\u≠0:=by
  rcases go with h | h
  ·exact absurd h bx
  ·exact h
 have sB:=sA.trans s3;refine⟨p1,_,_,_,Z,Z,SqT.of e3,Z,P2,fun t5 h5=>?_⟩;have n5:=Ae.new (o:=.tup [.int 1,.int 1]) h5;obtain⟨b7,bf,a0⟩:=(ca.same n5);obtain⟨vu,aP,bn⟩:=(Paired.get' a0 hu);have b0:=a0.length;rw[<- b0]at aP;have bu:=ba u (UG hu);refine⟨_,Z,_,Z,a1,b7,_,_,Z,Z,bf,Eg aP,?_⟩;refine⟨_,_,1,u,1,E0,Z,⟨t5,Z,SqT.of Aa⟩,bn,al,RB.one (by decide),bu.mono (by lia),by lia,fun tw bW=>?_⟩
 have n6:=Ae.new (o:=nT (1 / u)) bW;have bc:=Aa (H:=upd H3 t5 (.tup [.int 1,.int 1])) (a:=tw) (o:=nT (1 / u));have sC:=sB.trans (n5.trans n6);have bF:=(ca.same n5).same n6;have bl:=((cC.same s3).same n5).same n6;generalize upd (upd H3 t5 (.tup [.int 1,.int 1])) tw (nT (1 / u))=H6 at bc sC bF bl ⊢;clear n5 n6 bf a0 aP bn h5 bW b0;refine⟨_,Z,t,_,_,_,Z,Z,hT.same sC,Z,_,Z,pN,pc,N,prL S,G,1,L,Z,cN.same sC,bl,gN,bd,Fn S,bN,bC,by lia,ci,by lia,fun p2 a2 b2 H7 ot rt s7 e7 cj cq aC cc bp bh bt as=>?_⟩
 have be:=Ia gN aC cc bh bt bZ fun x hx=>hz x (an x hx).1 (an x hx).2
 have ap:(1 / u:Rat)≠0:=fun z=>by
  have:(1 / u)*u=1:=V8 al;rw[z,Rat.zero_mul]at this;exact absurd this (by decide)
 have bw:RB (E0+1) (1 / u):=(RB.over (RB.one (n:=1) (by decide)) (bu.mono (Wz hE.symm)) al).mono (by lia)
 refine⟨p2,_,_,_,Z,Z,SqT.of e7,Z,_,Z,a2,tw,ot,1 / u,E0,E0+1,Z,cj,AD.of (s7 _ _ bc),fun c hc=>(as c hc).mono (by lia),bw,by lia,by lia,fun pa H8 s8 cA=>?_⟩
 refine⟨_,Z,_,Z,a1,tw,os,1 / u,E0,E0+1,Z,(bF.same s7).same s8,AD.of (s8 _ _ (s7 _ _ bc)),fun c hc=>(ba c hc).mono (by lia),bw,by lia,by lia,fun pb H9 s9 cB=>⟨P2,fun pf ce=>?_⟩⟩
 have nf:=Ae.new (o:=.tup [.ref pa,.ref pb]) ce;have e1:=EA (DL aC ap);have e2:=EA (DL go ap);rw[e1]at cA;rw[e2]at cB;have aF:u*(1 / u)=1:=by rw[Rat.mul_comm];exact V8 al
 refine q pf pa pb _ _ _ u ((((sC.trans s7).trans s8).trans s9).trans nf) Aa ((cA.same s9).same nf) (cB.same nf) (DL aC ap) (DL go ap) ?_ al (fun x=>?_) (fun x=>?_) ?_ ?_ (fun c hc=>?_) fun c hc=>?_
 ·rw[UI,UC,hu];exact congrArg some aF
 ·rw[be x,Cv.ev_scale];have:u*prV x S*(Cv.ev ot x*(1 / u))=(u*(1 / u))*(prV x S*Cv.ev ot x):=by grind
  rw[this,aF,Rat.one_mul]
 ·rw[bg x,Cv.ev_scale];have:u*prV x S*(Cv.ev os x*(1 / u))=(u*(1 / u))*(prV x S*Cv.ev os x):=by grind
  rw[this,aF,Rat.one_mul]
 ·rw[UI,bp];lia
 ·rw[UI,b6];lia
 ·obtain⟨y,hy,rfl⟩:=(VU.mp hc);exact(((as y hy).mono (Wz hE.symm)).times bw).mono (by lia)
 ·obtain⟨y,hy,rfl⟩:=(VU.mp hc);exact(((ba y hy).mono (Wz hE.symm)).times bw).mono (by lia)
theorem Gz:Ao ["quotient","x","y","below"] ["quotient","x","y"] (Af (top 60)):=fsc
theorem Kq{f:aa}{fd:ag}(F:Fun K "reaches" "reaches" (top 60) f fd)(RJ:Fd P w K mg base 35 "height_at" ["curve","x"] (Ci K))(Sl:Fd P w K mg base 35 "times" ["a","b"] (FX K (· * ·))){Y:aa}(W:mg "NOUGHT" = some (.ref Y))(O:∀H:Hp,AD K H (.ref Y) (0))(hT:P.given.tree=none) :
 Ay P w K mg base CX0 36 f fd ["quotient","x","y"] (Ek K):=by
 refine F.ok Gz (fun vs H Q E h=>?_) (fun as A outer s H vs Q E hr h=>?_)
 ·obtain⟨_,_,_,_,_,_,_,_,_,_,_,_,rfl,_⟩:=h;rfl
 refine⟨_,(Ad (K:=K) (Ai (i:=3) Gz.nd rfl (Or.inl rfl) (Al RJ hr rfl (A0 (Aj (ixT K) (pv 0) Ac (fun u v=>rfl)) (A0 (pv 1) Ab))))
  (Ag (Ar (Pr (DI (neD K hr.units) (pv 3) (AZ (v:=.ref Y) rfl W rfl) (As _)) (Pp (DI (eqD K hr.units) (Al RJ hr rfl (A0 (Aj (ixT K) (pv 0) Ac (fun u v=>rfl)) (A0 (pv 1) Ab))) (Al Sl hr rfl (A0 (pv 2) (A0 (pv 3) Ab))) (As _)))))) (by rfl)),?_⟩
 obtain⟨t,rx,ry,pn,pd,J,d',x,y,E,nx,ny,rfl,hT,cn,cd,bn,bd,ap,an,hx,hy,bx,ak,hE,aC,al,q⟩:=h;have k1:E*(d'.length+2)<=3000000*15:=WQ hE (by lia)
 have k2:(nx+1)*(d'.length+4)<=1001*17:=WQ (by lia) (by lia)
 have k3:E*(J.length+2)<=3000000*15:=WQ hE (by lia)
 have k4:(nx+1)*(J.length+4)<=1001*17:=WQ (by lia) (by lia)
 refine⟨_,Z,t,_,_,_,Z,Z,hT,Z,_,Z,pd,rx,d',x,E,E,nx,Z,cd,hx,bd,bx,by lia,by lia,fun p1 H1 s1 e1 b1=>?_⟩
 refine⟨_,Z,?_⟩;refine eqN (AD.of e1) (O _) ?_;refine⟨_,Z,?_⟩;by_cases h0:Cv.ev d' x=0
 ·refine AK (by rw[decide_eq_true h0];rfl) ?_
  have:=q H1 s1;rw[decide_eq_false (fun z=>z.1 h0)]at this;exact this
 ·refine AV (by rw[decide_eq_false h0];rfl) ?_
  refine⟨_,Z,t,_,_,_,Z,Z,hT.same s1,Z,_,Z,pn,rx,J,x,E,E,nx,Z,cn.same s1,hx.same s1,bn,bx,by lia,by lia,fun p2 H2 s2 e2 b2=>?_⟩
  refine⟨_,Z,_,Z,_,_,y,Cv.ev d' x,ny,_,Z,(hy.same s1).same s2,AD.of (s2 _ _ e1),ak,b1,by lia,fun p3 h3=>?_⟩
  have n3:=Ae.new (o:=nT (y*Cv.ev d' x)) h3;refine eqN (AD.of (n3 _ _ e2)) (AD.of Aa) ?_;have:=q _ ((s1.trans s2).trans n3)
  have e:decide (Cv.ev d' x≠0/\Cv.ev J x=y*Cv.ev d' x)=decide (Cv.ev J x=y*Cv.ev d' x):=by
   by_cases z:Cv.ev J x=y*Cv.ev d' x
   ·rw[decide_eq_true z,decide_eq_true ⟨h0,z⟩]
   ·rw[decide_eq_false z,decide_eq_false fun w=>z w.2]
  rw[e]at this;exact this
theorem By:Ao ["places","heights","width","quotient","left"] ["places","heights","width"] (Af (top 61)):=fsc
theorem CF{f:aa}{fd:ag}(F:Fun K "quotient_through" "quotient_through" (top 61) f fd)(S4:Fd P w K mg base 35 "check_heights" ["places","heights"] (Co K))(SF:Fd P w K mg base 38 "lowest_terms" ["pair","places"] (ET K))(S5:Fd P w K mg base 36 "pair_through" ["places","heights","width"] (FF K))(S6:Fd P w K mg base 38 "rising" ["places"] (FD K 268))(SG:Fd P w K mg base 36 "reaches" ["quotient","x","y"] (Ek K))(RF:mg "len" = none)(RI:mg "zip" = none)(hT:P.given.tree=none) :
 Ay P w K mg base CX0 39 f fd ["places","heights","width"] (FW K 268):=by
 refine F.ok By (fun vs H Q E h=>?_) (fun b8 A outer s H vs Q E hr h=>?_)
 ·obtain⟨_,_,_,_,_,_,_,_,_,_,_,rfl,_⟩:=h;rfl
 refine⟨_,(Ad (K:=K) (BG (Al S4 hr rfl (A0 (pv 0) (A0 (pv 1) Ab))))
  (Ad (K:=K) (AG (K:=K) (PW.pt (GJ (Ap E9 (pv 2) Ac (As _)) (EG (Ap D4 (pv 2) (Ak (Bw K) rfl RF AB (A0 (pv 0) Ab)) (As _))))) (Ag Ca) Az (by rfl) (by rfl))
  (Ad (K:=K) (Ai (i:=3) By.nd rfl (Or.inr rfl) (Al SF hr rfl (A0 (Al S5 hr rfl (A0 (pv 0) (A0 (pv 1) (A0 (pv 2) Ab)))) (A0 (pv 0) Ab))))
  (Ad (K:=K) (MO (i:=4) rfl By.nd rfl rfl (N:=["x","y","quotient"]) (nt:=2) (js:=[3]) (AW.look (NX:=["places","heights","width","quotient","left"]) (sc:=Af (top 61)) rfl rfl (by decide +kernel)) (MQ K rfl RI (A0 (pv 0) (A0 (pv 1) Ab))) (fun u1 u2 u3 u4 u5=>(pgT K (n:=2) rfl (CA (Ax (i:=0) (show List.Nodup (["x","y","quotient"]:List Str) from by decide +kernel) rfl (Or.inl rfl)) (CA (Ax (i:=1) (show List.Nodup (["x","y","quotient"]:List Str) from by decide +kernel) rfl (Or.inl rfl)) Gp)))) (FA (Cg (by decide) (Cg (by decide) EB))) (fun u1 u2 u3 u4 u5=>Gn (IE (GK (Al SG hr rfl (A0 (pv 2) (A0 (pv 0) (A0 (pv 1) Ab))))))) (fun u1 u2 u3 u4 u5=>(pv 0)) rfl)
  (Ag (Ar (AL (A0 (Aj (ixT K) (pv 3) Ac (fun u v=>rfl)) (A0 (Aj (ixT K) (pv 3) Ac (fun u v=>rfl)) (A0 (Al S6 hr rfl (A0 (pv 4) Ab)) Ab)))))) (by rfl)) (by rfl)) (by rfl)) (by rfl)),?_⟩
 obtain⟨lp,lh,zs,ys,qs,hs,W,n,nx,ny,C,rfl,hP,bl,hH,hY,bX,bY,bZ,bt,ak,bB,b0,bq,bh,bw,ck,bG,hC,hG,bu,q⟩:=h;have P3:3<=af:=by decide
 have hZ:Au K H zs qs:=bl.nums;have ce:=hZ.length;have cb:=hY.length;refine⟨_,Z,_,Z,lp,lh,zs,ys,qs,Z,hP,bl,ak,by lia,by lia,hH,by lia,fun H1 s1=>?_⟩
 refine⟨_,Z,_,_,Z,Z,_,Z,AK (decide_eq_false (by lia)) ?_⟩
 refine⟨_,Z,_,Z,lp,zs,Z,.inl (Ae.seq s1 hP),_,_,Z,Z,_,Z,AK (decide_eq_false (by lia)) ?_⟩
 refine⟨_,Z,_,Z,_,Z,lp,lh,zs,ys,qs,hs,W,n,nx,ny,C,Z,Ae.seq s1 hP,Au.same hZ s1,Ae.seq s1 hH,Au.same hY s1,bX,bY,bZ,bt,ak,bB,b0,bq,bh,hC,by lia,fun t pN pD H2 r1 r2 N D N2 D2 s2 hT cN cD bN bD I=>?_⟩
 have bb:=s1.trans s2;have aF:(qs.zip hs).map Prod.fst=qs:=X6 (by lia)
 have as:(qs.zip hs).length=n:=by rw[WA];lia
 have cc:=I.fin as;have ap:=I.below as (by lia) (by rw[aF];exact ak)
 have ca:(Cv.strip N).length<=W:=ES fun j hj=>I.le1.1 j (by lia)
 have b9:(Cv.strip D).length<=n+1-W:=ES fun j hj=>I.le1.2 j (by lia)
 have eS:(qs.filter fun q=>decide (Cv.ev (Cv.strip D) q=0))=qs.filter fun q=>decide (Cv.ev D q=0):=by
  congr 1
  funext q
  rw[Cv.ev_strip]
 refine⟨_,Z,t,lp,pN,pD,zs,qs,Cv.strip N,Cv.strip D,(gAS C n).2+1,nx,Z,hT,cN,cD,Bs N,Bs D,ap,Ae.seq bb hP,Au.same hZ bb,ak,by lia,by lia,by lia,fun c hc=>bN c (Cv.strip_mem _ _ hc),fun c hc=>bD c (Cv.strip_mem _ _ hc),bq,bw,by lia,by lia,fun x hx h0=>?_,fun p a b H3 O d' c s3 ep cn cd gn gd be b1 bg bf cg cf bn bd=>?_⟩
 ·rw[Cv.ev_strip]at h0 ⊢;obtain⟨i,hi,rfl⟩:=(Wy hx)
  have hm:(qs[i],hs[i])∈qs.zip hs:=by
   have:(qs.zip hs)[i]'(by lia)=(qs[i],hs[i]):=List.getElem_zip ..
   rw[<- this];exact Vz _
  have:=I.on1 _ hm;rw[this,h0,Wu]
 rw[eS]at bg bf;have Y:=bb.trans s3;have bn:∀y∈O,RB 3000000 y:=fun y hy=>(bn y hy).mono (by lia)
 have bd:∀y∈d',RB 3000000 y:=fun y hy=>(bd y hy).mono (by lia)
 refine Cb ⟨_,Z,_,Z,lp,lh,zs,ys,Z,Ae.seq Y hP,Ae.seq Y hH,?_⟩;have aC:min zs.length ys.length=n:=by lia
 refine Ot (xs:=zs) (ys:=ys) (fun i us W=>Ae H3 W/\us.length<=i/\Au K W us (Du (qs.take i) (hs.take i) O d')) ⟨Ae.refl _,Uk _,.nil⟩ (fun i us W _ h=>⟨Ae.seq (Y.trans h.1) hP,Ae.seq (Y.trans h.1) hH,h.2.1⟩) (U7 (AA (by lia))) ?_ ?_
 ·rintro i v u T us W hv hu b3 ⟨sw,bp,J⟩;obtain⟨x,hx,rx,rfl,bx⟩:=(Paired.get hZ hv);obtain⟨y,hy,ry,rfl,bW⟩:=(Paired.get hY hu);have nT:=Ae.new (o:=.tup [.ref rx,.ref ry]) b3;have sW:=sw.trans nT;refine⟨_,Z,_,Z,_,Z,p,rx,ry,a,b,O,d',x,y,3000000,nx,ny,Z,SqT.of (sW _ _ ep),cn.same sW,cd.same sW,bn,bd,by lia,by lia,AD.same ⟨rx,Z,bx⟩ (Y.trans sW),AD.same ⟨ry,Z,bW⟩ (Y.trans sW),bq x (UG hx),bh y (UG hy),by lia,by lia,bG,fun W1 bc=>⟨_,Z,?_⟩⟩
  have cj:=(Ue.mp hx).1
  have et:Du (qs.take (i+1)) (hs.take (i+1)) O d'=Du (qs.take i) (hs.take i) O d'++Du [x] [y] O d':=by
   unfold Du;rw[Vj,Vj,hx,hy,List.zip_append (by rw[Uy,Uy];lia),WZ,Vk];rfl
  have aP:=sW.trans bc;rw[et];by_cases h0:Cv.ev d' x≠0/\Cv.ev O x=y*Cv.ev d' x
  ·refine AK (by rw[decide_eq_true h0];rfl) ⟨aP,by lia,?_⟩
   have:Du [x] [y] O d'=[]:=by
    unfold Du;show(([(x,y)]:List (Rat×Rat)).filter _).map Prod.fst=[];rw[WY (by show ¬(!decide (Cv.ev d' x≠0/\Cv.ev O x=y*Cv.ev d' x))=true;rw[decide_eq_true h0];decide)];rfl
   rw[this,Uu];exact Au.same J (nT.trans bc)
  ·refine AV (by rw[decide_eq_false h0];rfl) ⟨_,Z,aP,by rw[UH,UW];lia,?_⟩
   have:Du [x] [y] O d'=[x]:=by
    unfold Du;show(([(x,y)]:List (Rat×Rat)).filter _).map Prod.fst=[x];rw[WX (by show(!decide (Cv.ev d' x≠0/\Cv.ev O x=y*Cv.ev d' x))=true;rw[decide_eq_false h0];rfl)];rfl
   rw[this];exact Paired.snoc (Au.same J (nT.trans bc)) (AD.same ⟨rx,Z,bx⟩ (Y.trans aP))
 rintro us W ⟨sw,bp,J⟩ l1 b6;rw[aC,VW (by lia),VW (by lia)]at J
 rw[aC]at bp;have n1:=Ae.new (o:=.lst us) b6;have sL:=(Y.trans sw).trans n1;have al:=sw.trans n1;have ci:=J.length
 have a0:∀x∈Du qs hs O d',x∈qs:=fun x hx=>by
  unfold Du at hx;obtain⟨pr,b5,rfl⟩:=(VU.mp hx);rw[<- aF];exact Wl (U2.mp b5).1
 refine⟨_,Z,p,_,_,_,Z,Z,SqT.of (al _ _ ep),Z,_,Z,p,_,_,_,Z,Z,SqT.of (al _ _ ep),Z,?_⟩;refine⟨_,Z,l1,us,Du qs hs O d',nx,Z,SqL.of Aa,Au.same J n1,fun x hx=>bq x (a0 x hx),by lia,by lia,bu.same sL,fun pr H5 bC rs m5 bF _ e5 b7 ba b4=>⟨P3,fun tf b2=>?_⟩⟩
 have nf:=Ae.new (o:=.tup [.ref a,.ref b,.ref pr]) b2;have an:=bu.same sL;exact q tf a b pr _ r1 r2 N D N2 D2 O d' rs bC c (Br.trans (Ae.b sL) (Br.trans m5 nf.b)) (bF.same nf) (SqT.of Aa) (((cn.same al).but an m5).same nf) (((cd.same al).but an m5).same nf) gn gd be b1 I ap (fun x=>by rw[<- Cv.ev_strip];exact bg x) (fun x=>by rw[<- Cv.ev_strip];exact bf x) (by lia) (by lia) (nf _ _ e5) (Au.same b7 nf) ba b4 bn bd
theorem Ea{f:aa}{fd:ag}(F:Fun K "quotient_through" "quotient_through" (top 61) f fd){O J:aa}(ak:Ja K "TooFew" J)(Y:FdY P w K mg base 35 "check_heights" ["places","heights"] (fun vs H Q E=>(Co K:Sp) vs H Q E\/(DC K O:Sp) vs H Q E))(S4:Fd P w K mg base 35 "check_heights" ["places","heights"] (Co K))(SF:Fd P w K mg base 38 "lowest_terms" ["pair","places"] (ET K))(S5:Fd P w K mg base 36 "pair_through" ["places","heights","width"] (FF K))(S6:Fd P w K mg base 38 "rising" ["places"] (FD K 268))(SG:Fd P w K mg base 36 "reaches" ["quotient","x","y"] (Ek K))(RF:mg "len" = none)(RI:mg "zip" = none)(hT:P.given.tree=none) :
 Ay P w K mg base (CX2 P w) 39 f fd ["places","heights","width"] (DX K O J):=by
 refine F.okY By (fun vs H Q E h=>?_) (fun an A outer s H vs Q E hr h=>?_)
 ·obtain⟨_,_,_,_,_,_,rfl,_⟩:=h;rfl
 refine⟨_,(BJ (BG (IG Y hr rfl Ld (A0 (pv 0) (A0 (pv 1) Ab))))
  (BJ (AG (K:=K) (PW.pt (GJ (Ap E9 (pv 2) Ac (As _)) (EG (Ap D4 (pv 2) (Ak (Bw K) rfl RF AB (A0 (pv 0) Ab)) (As _))))) (Ag (Dq ak rfl FT rfl (A0 AO Ab))) Az (by rfl) (by rfl))
  Dp)),?_⟩
 obtain⟨l,lh,zs,ys,qs,W,rfl,hS,hn,hH,al,bad⟩:=h;have P1:1<=af:=by decide
 have hl:=hn.length
 rcases bad with ⟨hb,q⟩ | ⟨hb,ap,q⟩
 ·exact⟨_,Z,_,Z,.inr ⟨l,lh,zs,ys,qs,Z,hS,hn,hH,al,hb,q⟩⟩
 obtain⟨b1,b2,b3,b4⟩:=Fv hb;refine⟨_,Z,_,Z,.inl ⟨l,lh,zs,ys,qs,Z,hS,hn,b3,b1,b2,hH,by lia,fun H1 s1=>?_⟩⟩
 refine⟨_,Z,_,_,Z,Z,_,Z,?_⟩;by_cases hw:W<1
 ·exact AV (decide_eq_true hw) (Ox ⟨P1,q H1 s1⟩)
 refine AK (decide_eq_false hw) ?_;exact⟨_,Z,_,Z,l,zs,Z,.inl (Ae.seq s1 hS),_,_,Z,Z,_,Z,AV (decide_eq_true (by lia)) ⟨P1,q H1 s1⟩⟩
theorem Ga:Ao ["_law_places_here","_law_heights","_law_width","_law_most","_law_told"] ["_law_places_here","_law_heights","_law_width","_law_most"] (Af (top 70)):=fsc
theorem Jw{f:aa}{fd:ag}(F:Fun K "_law_all" "_law_all" (top 70) f fd){Y O:aa}(aP:FdY P w K mg base 40 "judged" ["places","heights","width","most"] (fun vs H Q E=>(Ct K 268:Sp) vs H Q E\/(DY K Y O:Sp) vs H Q E))(an:FdY P w K mg base 37 "doubtful" ["places","width"] (fun vs H Q E=>(CY K:Sp) vs H Q E\/(DZ K Y O:Sp) vs H Q E))(J:FdY P w K mg base 39 "quotient_through" ["places","heights","width"] (fun vs H Q E=>(FW K 268:Sp) vs H Q E\/(DX K Y O:Sp) vs H Q E))(RQ:Fd P w K mg base 48 "_law_refused" ["_law_asked"] (Iu P w K mg base 47 Y O))(bf:Fd P w K mg base 40 "judged" ["places","heights","width","most"] (Ct K 268))(Th:Fd P w K mg base 37 "doubtful" ["places","width"] (CY K))(Ti:Fd P w K mg base 39 "quotient_through" ["places","heights","width"] (FW K 268))(hT:P.given.tree=none)(bd:Bm mg base)(hl:Dh K f 449=true) :
 Ay P w K mg base CX0 49 f fd ["_law_places_here","_law_heights","_law_width","_law_most"] (Ke K):=by
 refine F.okL hl Ga (fun vs H Q E h=>?_) (fun bq A outer s H vs Q E bb hr h=>?_)
 ·obtain⟨_,_,_,_,_,_,_,_,rfl,_⟩:=h;rfl
 refine⟨_,(Ad (K:=K) (Ai (i:=4) Ga.nd rfl (Or.inl rfl) (AE (A0 (EI RQ hr rfl (A0 (D0 (sc:=Af (top 70)) bb bd) Ab)) Ab)))
  (Ad (K:=K) (BG (E6 K PySem.F.plainAttrs_list PySem.F.slot_list_append PySem.F.type_list_append CM (pv 4) (A0 (EI RQ hr rfl (A0 (D0 (sc:=Af (top 70)) bb bd) Ab)) Ab)))
  (Ag (Ar (Ah Cp (pv 4) (AE (A0 (EI RQ hr rfl (A0 (D0 (sc:=Af (top 70)) bb bd) Ab)) Ab))))) (by rfl)) (by rfl)),?_⟩
 obtain⟨l,lh,zs,ys,qs,hs,W,e,rfl,hS,hN,hH,hY,a0,hb,hW,he,T,q⟩:=h;have P1:1<=af:=by decide
 obtain⟨nj,hj⟩:=(QO qs ys.length W e);obtain⟨nd,hd⟩:=(QQ qs W);obtain⟨nq,hq⟩:=(QL qs ys.length W);refine⟨T.a,fun f c' cl bg H2 C ak LN=>⟨cl,C,fun os al ap=>?_⟩⟩;obtain⟨T2,k2⟩:=(T.newA LN);refine⟨f,o9 Y O nj,t9 nj,Rc (cl.map (·.2)) R0,Z,?_,GY _ _ nj,fun X H3 r s3=>⟨fun c hc=>?_,P1,fun p hp=>?_⟩⟩
 ·refine CT (k:=46) (fr:=["_law_places_here","_law_heights","_law_width","_law_most"]) (ws:=[.ref l,.ref lh,.int W,.int e]) LN C ak al ap ⟨Z,Z,Z,by decide +kernel,by decide +kernel⟩ (Cr rfl) (.cons 0 rfl rfl rfl rfl (.cons 1 rfl rfl rfl rfl (.cons 2 rfl rfl rfl rfl (.cons 3 rfl rfl rfl rfl .nil)))) fun A outer s E H' Q hr hm hQ hE=>?_
  have km:=k2.trans hm.kt;exact⟨_,(EH aP.x1 hr rfl GS (A0 (pv 0) (A0 (pv 1) (A0 (pv 2) (A0 (pv 3) Ab))))),_,Z,_,Z,_,Z,_,Z,QV (CQ hS km) (BB hN km) (CQ hH km) (D5 hY km) a0 hb hW he (T2.same hm).r hj hQ hE⟩
 ·refine DN (id r) fun bh aC=>?_;refine C2 aC fun ba _ _=>?_;clear aC;obtain rfl:=ba;exact s3 _ _ (by rw[Fb hc];exact Dd hc)
 obtain⟨Hr,r',s'⟩:=(r.off al s3);obtain⟨T3,k3⟩:=(T.askA LN r' s')
 have bl:∀b o,(∀ps,o≠HO.tbl ps)->H b=some o->b≠p:=fun b o hn e z=>by
  have:=k3 b o hn e;rw[z,hp]at this;cases this
 have n1:=Ae.new (o:=.lst [.str (t9 nj)]) hp;have T:=T3.same n1;have k:=k3.trans n1.kt;have ep:=Aa (H:=offC (cl.map (·.2)) H3) (a:=p) (o:=.lst [.str (t9 nj)]);generalize upd (offC (cl.map (·.2)) H3) p (.lst [.str (t9 nj)])=G1 at T k ep ⊢;clear n1 T3 k3 r' s' r s3 hp LN al ap ak C T2 k2;refine⟨_,Z,.inl ⟨Z,_,SqL.of ep⟩,T.a,fun f c' cl bg H2 C ak LN=>⟨cl,C,fun os al ap=>?_⟩⟩;obtain⟨T2,k2⟩:=(T.newA LN);refine⟨f,o9 Y O nd,t9 nd,Rc (cl.map (·.2)) R0,Z,?_,GY _ _ nd,fun X H3 r s3=>⟨fun c hc=>?_,?_⟩⟩
 ·refine CT (k:=46) (fr:=["_law_places_here","_law_width"]) (ws:=[.ref l,.int W]) LN C ak al ap ⟨Z,Z,Z,by decide +kernel,by decide +kernel⟩ (Cr rfl) (.cons 0 rfl rfl rfl rfl (.cons 2 rfl rfl rfl rfl .nil)) fun A outer s E H' Q hr hm hQ hE=>?_
  have km:=k.trans (k2.trans hm.kt);exact⟨_,(EH an.x1 hr rfl GS (A0 (pv 0) (A0 (pv 1) Ab))),_,Z,_,Z,R4 (CQ hS km) (BB hN km) a0 hb (T2.same hm).r hd hQ hE⟩
 ·refine DN (id r) fun bh aF=>?_;refine C2 aF fun be _ _=>?_;clear aF;obtain rfl:=be;exact s3 _ _ (by rw[Fb hc];exact Dd hc)
 obtain⟨Hr,r',s'⟩:=(r.off al s3);obtain⟨T3,k3⟩:=(T.askA LN r' s');have ep:=k3 _ _ (fun _ z=>by cases z) ep
 generalize offC (cl.map (·.2)) H3=G2 at T3 k3 ep s' ⊢;have k:=k.trans k3;clear s' r' r s3 al ap LN C ak T2 k2 T k3;refine⟨p,_,_,Z,Z,ep,(show 1<af by decide),?_⟩
 rw[show([V.str (t9 nj)]++[V.str (t9 nd)]:List V)=[.str (t9 nj),.str (t9 nd)] from rfl];have T:T9 (upd G2 p (.lst [.str (t9 nj),.str (t9 nd)])):=⟨KG T3.r ep,KG T3.a ep,KG T3.l ep⟩;have e2:=Aa (H:=G2) (a:=p) (o:=.lst [.str (t9 nj),.str (t9 nd)]);have k:Kt H (upd G2 p (.lst [.str (t9 nj),.str (t9 nd)])):=fun b o hn e=>by rw[Am (bl b o hn e)];exact k b o hn e
 generalize upd G2 p (.lst [.str (t9 nj),.str (t9 nd)])=G3 at T e2 k ⊢;refine⟨_,Z,T.a,fun f c' cl bg H2 C ak LN=>⟨cl,C,fun os al ap=>?_⟩⟩;obtain⟨T2,k2⟩:=(T.newA LN);refine⟨f,o9 Y O nq,t9 nq,Rc (cl.map (·.2)) R0,Z,?_,GY _ _ nq,fun X H3 r s3=>⟨fun c hc=>?_,P1,fun p2 bp=>?_⟩⟩
 ·refine CT (k:=46) (fr:=["_law_places_here","_law_heights","_law_width"]) (ws:=[.ref l,.ref lh,.int W]) LN C ak al ap ⟨Z,Z,Z,by decide +kernel,by decide +kernel⟩ (Cr rfl) (.cons 0 rfl rfl rfl rfl (.cons 1 rfl rfl rfl rfl (.cons 2 rfl rfl rfl rfl .nil))) fun A outer s E H' Q hr hm hQ hE=>?_
  have km:=k.trans (k2.trans hm.kt);exact⟨_,(EH J.x1 hr rfl GS (A0 (pv 0) (A0 (pv 1) (A0 (pv 2) Ab)))),_,Z,_,Z,_,Z,Ph (CQ hS km) (BB hN km) (CQ hH km) (D5 hY km) a0 hb (T2.same hm).r hq hQ hE⟩
 ·refine DN (id r) fun bh as=>?_;refine C2 as fun bc _ _=>?_;clear as;obtain rfl:=bc;exact s3 _ _ (by rw[Fb hc];exact Dd hc)
 obtain⟨Hr,r',s'⟩:=(r.off al s3);obtain⟨T3,k3⟩:=(T.askA LN r' s');have e3:=k3 _ _ (fun _ z=>by cases z) e2
 have n2:=Ae.new (o:=.lst [.str (t9 nq)]) bp;refine⟨p,p2,_,_,Z,Z,n2 _ _ e3,Aa,(show 3<=af by decide),fun p3 bn=>?_⟩
 have n3:=n2.trans (Ae.new (o:=.lst ([.str (t9 nj),.str (t9 nd)]++[.str (t9 nq)])) bn);exact q p3 _ nj nd nq (k.trans (k3.trans n3.kt)) (T3.same n3) hj hd hq Aa
theorem FZ:Ao ["_law_many","_law_width","_law_most","_law_words"] ["_law_many","_law_width","_law_most"] (Af (top 71)):=fsc
theorem Jv{f:aa}{fd:ag}(F:Fun K "_law_due" "_law_due" (top 71) f fd)(RO:mg "int" = none)(hT:P.given.tree=none) :
 Ay P w K mg base CX0 33 f fd ["_law_many","_law_width","_law_most"] (Kc K):=by
 refine F.ok FZ (fun vs H Q E h=>?_) (fun aC A outer s H vs Q E hr h=>?_)
 ·obtain⟨_,_,_,rfl,_⟩:=h;rfl
 refine⟨_,(Ad (K:=K) (Ai (i:=3) FZ.nd rfl (Or.inl rfl) (AE (A0 (Aj (ixL K) (AE (A0 AO (A0 AO Ab))) (Ck Eo rfl RO J8 (A0 (DI D4 (Ah AF (Ah Aq Ac (pv 2)) (pv 1)) (pv 0) (As _)) Ab)) (fun u v=>rfl)) Ab)))
  (Ad (K:=K) (BG (E6 K PySem.F.plainAttrs_list PySem.F.slot_list_append PySem.F.type_list_append CM (pv 3) (A0 (Aj (ixL K) (AE (A0 AO (A0 AO Ab))) (Ck Eo rfl RO J8 (A0 (DI Lf (pv 1) (pv 0) (As _)) Ab)) (fun u v=>rfl)) Ab)))
  (Ad (K:=K) (AG (K:=K) (Ap Ex (pv 0) Ac (As _)) (Ag (FH AO (FI (pv 3) Ac Dj))) Az (by rfl) (by rfl))
  (Ag (Ar (Ah Cp (pv 3) (AE (A0 (Aj (ixL K) (AE (A0 AO (A0 AO Ab))) (Ck Eo rfl RO J8 (A0 (DI D4 (pv 1) (pv 0) (As _)) Ab)) (fun u v=>rfl)) Ab))))) (by rfl)) (by rfl)) (by rfl)),?_⟩
 obtain⟨n,W,e,rfl,q⟩:=h;have P2:2<=af:=by decide
 have P1:1<=af:=by decide
 refine⟨P2,fun l1 h1=>⟨_,Z,_,_,Z,Z,.inl ⟨by decide,by decide⟩,_,Z,_,_,Z,Z,_,Z,_,_,Z,Z,.inr ⟨_,Z,l1,_,_,_,Z,Z,SqL.of Aa,at9 _,P1,fun p hp=>?_⟩⟩⟩
 have s1:=Ae.new (o:=.lst [.str "told",.str "few"]) h1
 have J:H p=none:=by
  cases z:H p with
  | none=>rfl
  | some o=>rw[s1 _ _ z]at hp;cases hp
 generalize al:decide (n<2*e+W)=Y at *;have s2:=s1.trans (Ae.new (o:=.lst [.str (t9 (if Y=true then 2 else 0))]) hp);have ep:=Aa (H:=upd H l1 (.lst [.str "told",.str "few"])) (a:=p) (o:=.lst [.str (t9 (if Y=true then 2 else 0))]);generalize upd (upd H l1 (.lst [.str "told",.str "few"])) p (.lst [.str (t9 (if Y=true then 2 else 0))])=G1 at s2 ep ⊢;clear s1 h1 hp;refine⟨_,Z,.inl ⟨Z,_,SqL.of ep⟩,P2,fun l2 h2=>⟨_,Z,_,Z,_,_,Z,Z,.inr ⟨_,Z,l2,_,_,_,Z,Z,SqL.of Aa,at9 _,p,_,_,Z,Z,(Ae.new (o:=.lst [.str "told",.str "few"]) h2) _ _ ep,(show 1<af by decide),?_⟩⟩⟩
 generalize as:decide (n<=W)=x2;have s3:=(s2.trans (Ae.new (o:=.lst [.str "told",.str "few"]) h2)).put (o:=.lst ([.str (t9 (if Y=true then 2 else 0))]++[.str (t9 (if x2=true then 2 else 0))])) J;have e3:=Aa (H:=upd G1 l2 (.lst [.str "told",.str "few"])) (a:=p) (o:=.lst ([.str (t9 (if Y=true then 2 else 0))]++[.str (t9 (if x2=true then 2 else 0))]));generalize upd (upd G1 l2 (.lst [.str "told",.str "few"])) p (.lst ([.str (t9 (if Y=true then 2 else 0))]++[.str (t9 (if x2=true then 2 else 0))]))=G2 at s3 e3 ⊢;clear s2 ep h2
 try dsimp only
 refine Jj (s:=LV _ _ _) (L7 n W e p H Y true fun n W e p H Y true O G=>O=[some (.int n),some (.int W),some (.int e),some (.ref p)]/\Ae H G/\G p=some (.lst [.str (t9 (if Y=true then 2 else 0)),.str (t9 (if n=1 then 1 else if n<=W then 2 else 0))])) (fun nx ak=>?_) ?_
 ·refine⟨_,Z,Z,_,Z,?_⟩;by_cases hn1:n=1
  ·refine AV (decide_eq_true (by rw[hn1])) ?_
   refine⟨_,Z,p,_,_,1,Z,Z,e3,Z,?_⟩;refine ak _ _ ⟨Z,s3.put J,?_⟩;rw[if_pos hn1];exact Aa
  ·refine AK (decide_eq_false fun z=>hn1 (V.int.inj z)) (ak _ _ ⟨Z,s3,?_⟩);rw[if_neg hn1,e3,<- as];simp
 rintro O G ⟨rfl,s4,e4⟩;refine⟨_,Z,P2,fun l3 h3=>⟨_,Z,_,Z,_,_,Z,Z,.inr ⟨_,Z,l3,_,_,_,Z,Z,SqL.of Aa,at9 _,P1,fun p2 ap=>?_⟩⟩⟩;have s5:=(Ae.new (o:=.lst [.str "told",.str "few"]) h3).trans (Ae.new (o:=.lst [.str (t9 (if decide (n<W)=true then 2 else 0))]) ap);refine⟨p,p2,_,_,Z,Z,s5 _ _ e4,Aa,(show 3<=af by decide),fun p3 an=>?_⟩
 refine q p3 _ ((s4.trans s5).trans (Ae.new an)) ?_;rw[Aa,<- al];simp
theorem Ce:Ao ["_law_script","_law_pen_here","_law_places_here","_law_heights","_law_many","_law_k","_law_width","_law_most","_law_at","_law_double","_law_far","_law_some"] ["_law_script"] (Af (top 72)):=fsc
theorem PJ{f:aa}{fd:ag}(F:Fun K "law" "law" (top 72) f fd){Y ak:aa}(bX:FdY P w K mg base 40 "judged" ["places","heights","width","most"] (fun vs H Q E=>(Ct K 268:Sp) vs H Q E\/(DY K Y ak:Sp) vs H Q E))(bb:FdY P w K mg base 37 "doubtful" ["places","width"] (fun vs H Q E=>(CY K:Sp) vs H Q E\/(DZ K Y ak:Sp) vs H Q E))(an:FdY P w K mg base 39 "quotient_through" ["places","heights","width"] (fun vs H Q E=>(FW K 268:Sp) vs H Q E\/(DX K Y ak:Sp) vs H Q E))(Tj:Fd P w K mg base 33 "_law_pen" ["_law_script","_law_k"] (MC K))(Tn:Fd P w K mg base 35 "_law_places" ["_law_pen_here","_law_many"] (FE K 8))(RH:Fd P w K mg base 33 "_law_draw" ["_law_pen_here","_law_many"] (Iw))(RQ:Fd P w K mg base 48 "_law_refused" ["_law_asked"] (Iu P w K mg base 47 Y ak))(Sm:Fd P w K mg base 49 "_law_all" ["_law_places_here","_law_heights","_law_width","_law_most"] (Ke K))(To:Fd P w K mg base 33 "_law_due" ["_law_many","_law_width","_law_most"] (Kc K))(Th:Fd P w K mg base 37 "doubtful" ["places","width"] (CY K))(Ti:Fd P w K mg base 39 "quotient_through" ["places","heights","width"] (FW K 268))(cL:Fd P w K mg base 40 "judged" ["places","heights","width","most"] (Ct K 268))(RF:mg "len" = none)(RG:mg "range" = none)(hT:P.given.tree=none)(b9:Bm mg base)(hl:Dh K f 463=true) :
 Ay P w K mg base CX0 50 f fd ["_law_script"] (EU K):=by
 refine F.okL hl Ce (fun vs H Q E h=>?_) (fun dP A outer s H vs Q E ca hr h=>?_)
 ·obtain⟨_,_,rfl,_⟩:=h;rfl
 refine⟨_,(@Ad _ _ _ _ _ K _ (@Ai _ _ 1 _ _ _ _ Ce.nd rfl (Or.inr rfl) (@Al _ _ _ _ _ _ _ _ _ _ _ Tj hr rfl (@A0 _ _ _ _ _ (pv 0) (@A0 _ _ _ _ _ Ac Ab (by rfl)) (by rfl)) (by decide) (by decide) (by rfl) (by rfl)) (by rfl) (by first   | exact .inl rfl   | exact .inr rfl   | assumption)) (@Ad _ _ _ _ _ K _ (@Ai _ _ 2 _ _ _ _ Ce.nd rfl (Or.inr rfl) (@Al _ _ _ _ _ _ _ _ _ _ _ Tn hr rfl (@A0 _ _ _ _ _ (pv 1) (@A0 _ _ _ _ _ (@Ah _ _ _ _ _ _ _ _ AF Ac (@Al _ _ _ _ _ _ _ _ _ _ _ RH hr rfl (@A0 _ _ _ _ _ (pv 1) (@A0 _ _ _ _ _ Ac Ab (by rfl)) (by rfl)) (by decide) (by decide) (by rfl) (by rfl))) Ab (by rfl)) (by rfl)) (by decide) (by decide) (by rfl) (by rfl)) (by rfl) (by first   | exact .inl rfl   | exact .inr rfl   | assumption)) (@Ad _ _ _ _ _ K _ (@AG _ _ _ _ _ _ _ _ K _ _ (@Ap _ _ _ _ _ _ _ _ Ex (@Al _ _ _ _ _ _ _ _ _ _ _ RH hr rfl (@A0 _ _ _ _ _ (pv 1) (@A0 _ _ _ _ _ Ac Ab (by rfl)) (by rfl)) (by decide) (by decide) (by rfl) (by rfl)) Ac (As _)) (@Ag _ _ _ (@Ai _ _ 2 _ _ _ _ Ce.nd rfl (Or.inr rfl) (@CB _ (["_law_k","_law_pen_here"]) 1 ([1]) _ _ _ _ _ _ _ _ _ _ rfl (AW.look (NX:=["_law_script","_law_pen_here","_law_places_here","_law_heights","_law_many","_law_k","_law_width","_law_most","_law_at","_law_double","_law_far","_law_some"]) (sc:=Af (top 72)) rfl rfl (by decide +kernel)) (@Bj _ _ _ _ _ _ rfl RG (@A0 _ _ _ _ _ (@Ah _ _ _ _ _ _ _ _ AF Ac (@Al _ _ _ _ _ _ _ _ _ _ _ RH hr rfl (@A0 _ _ _ _ _ (pv 1) (@A0 _ _ _ _ _ Ac Ab (by rfl)) (by rfl)) (by decide) (by decide) (by rfl) (by rfl))) Ab (by rfl)) (by rfl)) (fun u1 u2 u3 u4 u5=>(@Ax _ _ 0 _ (show List.Nodup (["_law_k","_law_pen_here"]:List Str) from by decide +kernel) rfl (Or.inl rfl) (by first   | exact .inl rfl   | exact .inr rfl   | assumption))) (AJ (by decide)) (fun u1 u2 u3 u4 u5=>Bz) (fun u1 u2 u3 u4 u5=>(@AL _ _ _ _ _ (@A0 _ _ _ _ _ (@Ah _ _ _ _ _ _ _ _ AF (@Al _ _ _ _ _ _ _ _ _ _ _ RH hr rfl (@A0 _ _ _ _ _ (pv 1) (@A0 _ _ _ _ _ Ac Ab (by rfl)) (by rfl)) (by decide) (by decide) (by rfl) (by rfl)) (@Ah _ _ _ _ _ _ _ _ Aq Ac (pv 0))) (@A0 _ _ _ _ _ Ac Ab (by rfl)) (by rfl)))) (by intro _;rfl)) (by rfl) (by first   | exact .inl rfl   | exact .inr rfl   | assumption))) Az (by rfl) (by rfl)) (@Ad _ _ _ _ _ K _ (@Ai _ _ 3 _ _ _ _ Ce.nd rfl (Or.inr rfl) (@CB _ (["_law_x","_law_pen_here"]) 1 ([1]) _ _ _ _ _ _ _ _ _ _ rfl (AW.look (NX:=["_law_script","_law_pen_here","_law_places_here","_law_heights","_law_many","_law_k","_law_width","_law_most","_law_at","_law_double","_law_far","_law_some"]) (sc:=Af (top 72)) rfl rfl (by decide +kernel)) (@piL _ K _ _ _ (pv 2) (by rfl)) (fun u1 u2 u3 u4 u5=>(@Ax _ _ 0 _ (show List.Nodup (["_law_x","_law_pen_here"]:List Str) from by decide +kernel) rfl (Or.inl rfl) (by first   | exact .inl rfl   | exact .inr rfl   | assumption))) (AJ (by decide)) (fun u1 u2 u3 u4 u5=>Bz) (fun u1 u2 u3 u4 u5=>(@AL _ _ _ _ _ (@A0 _ _ _ _ _ (@Al _ _ _ _ _ _ _ _ _ _ _ RH hr rfl (@A0 _ _ _ _ _ (pv 1) (@A0 _ _ _ _ _ Ac Ab (by rfl)) (by rfl)) (by decide) (by decide) (by rfl) (by rfl)) (@A0 _ _ _ _ _ Ac Ab (by rfl)) (by rfl)))) (by intro _;rfl)) (by rfl) (by first   | exact .inl rfl   | exact .inr rfl   | assumption)) (@Ad _ _ _ _ _ K _ (@Ai _ _ 4 _ _ _ _ Ce.nd rfl (Or.inl rfl) (@Ak _ _ _ _ _ _ _ _ _ (Bw K) rfl RF AB (@A0 _ _ _ _ _ (pv 2) Ab (by rfl)) (by decide) (by decide) (by rfl) (by rfl)) (by rfl) (by first   | exact .inl rfl   | exact .inr rfl   | assumption)) (@Ad _ _ _ _ _ K _ (@Ba _ _ _ _ _ _ _ _ K _ PassesOwn.never rfl (@Bj _ _ _ _ _ _ rfl RG (@A0 _ _ _ _ _ Ac Ab (by rfl)) (by rfl)) (@Ax _ _ 5 _ Ce.nd rfl (Or.inl rfl) (by first   | exact .inl rfl   | exact .inr rfl   | assumption)) (@Ad _ _ _ _ _ K _ (@Ai _ _ 6 _ _ _ _ Ce.nd rfl (Or.inr rfl) (@Ah _ _ _ _ _ _ _ _ AF Ac (@Al _ _ _ _ _ _ _ _ _ _ _ RH hr rfl (@A0 _ _ _ _ _ (pv 1) (@A0 _ _ _ _ _ (@Ah _ _ _ _ _ _ _ _ AF (pv 4) Ac) Ab (by rfl)) (by rfl)) (by decide) (by decide) (by rfl) (by rfl))) (by rfl) (by first   | exact .inl rfl   | exact .inr rfl   | assumption)) (@Ad _ _ _ _ _ K _ (@Ai _ _ 7 _ _ _ _ Ce.nd rfl (Or.inr rfl) (@Al _ _ _ _ _ _ _ _ _ _ _ RH hr rfl (@A0 _ _ _ _ _ (pv 1) (@A0 _ _ _ _ _ (@Ah _ _ _ _ _ _ _ _ AF (@Ah _ _ _ _ _ _ _ _ (BA hr hT) (pv 4) Ac) Ac) Ab (by rfl)) (by rfl)) (by decide) (by decide) (by rfl) (by rfl)) (by rfl) (by first   | exact .inl rfl   | exact .inr rfl   | assumption)) (@Ad _ _ _ _ _ K _ (@AG _ _ _ _ _ _ _ _ K _ _ (@Ap _ _ _ _ _ _ _ _ Ex (@Al _ _ _ _ _ _ _ _ _ _ _ RH hr rfl (@A0 _ _ _ _ _ (pv 1) (@A0 _ _ _ _ _ Ac Ab (by rfl)) (by rfl)) (by decide) (by decide) (by rfl) (by rfl)) Ac (As _)) (@Ad _ _ _ _ _ K _ (@Ai _ _ 6 _ _ _ _ Ce.nd rfl (Or.inr rfl) (@Ah _ _ _ _ _ _ _ _ AF Ac (@Ah _ _ _ _ _ _ _ _ Aq (@Al _ _ _ _ _ _ _ _ _ _ _ RH hr rfl (@A0 _ _ _ _ _ (pv 1) (@A0 _ _ _ _ _ (@Ah _ _ _ _ _ _ _ _ FJ Ac Ac) Ab (by rfl)) (by rfl)) (by decide) (by decide) (by rfl) (by rfl)) (@Ah _ _ _ _ _ _ _ _ FJ Ac Ac))) (by rfl) (by first   | exact .inl rfl   | exact .inr rfl   | assumption)) (@Ag _ _ _ (@Ai _ _ 7 _ _ _ _ Ce.nd rfl (Or.inr rfl) (@Ah _ _ _ _ _ _ _ _ Aq (@Al _ _ _ _ _ _ _ _ _ _ _ RH hr rfl (@A0 _ _ _ _ _ (pv 1) (@A0 _ _ _ _ _ (@Ah _ _ _ _ _ _ _ _ FJ Ac Ac) Ab (by rfl)) (by rfl)) (by decide) (by decide) (by rfl) (by rfl)) (@Ah _ _ _ _ _ _ _ _ FJ Ac Ac)) (by rfl) (by first   | exact .inl rfl   | exact .inr rfl   | assumption))) (by rfl)) Az (by rfl) (by rfl)) (@Ad _ _ _ _ _ K _ (@AG _ _ _ _ _ _ _ _ K _ _ (@Ap _ _ _ _ _ _ _ _ (neD K hr.units) (@Al _ _ _ _ _ _ _ _ _ _ _ Sm hr rfl (@A0 _ _ _ _ _ (pv 2) (@A0 _ _ _ _ _ (pv 3) (@A0 _ _ _ _ _ (pv 6) (@A0 _ _ _ _ _ (pv 7) Ab (by rfl)) (by rfl)) (by rfl)) (by rfl)) (by decide) (by decide) (by rfl) (by rfl)) (@Al _ _ _ _ _ _ _ _ _ _ _ To hr rfl (@A0 _ _ _ _ _ (pv 4) (@A0 _ _ _ _ _ (pv 6) (@A0 _ _ _ _ _ (pv 7) Ab (by rfl)) (by rfl)) (by rfl)) (by decide) (by decide) (by rfl) (by rfl)) (As _)) (@Ag _ _ _ (@Ar _ _ _ _ GR)) Az (by rfl) (by rfl)) (@Ad _ _ _ _ _ K _ (@Ai _ _ 8 _ _ _ _ Ce.nd rfl (Or.inl rfl) (@Al _ _ _ _ _ _ _ _ _ _ _ RH hr rfl (@A0 _ _ _ _ _ (pv 1) (@A0 _ _ _ _ _ (@Ah _ _ _ _ _ _ _ _ AF (pv 4) Ac) Ab (by rfl)) (by rfl)) (by decide) (by decide) (by rfl) (by rfl)) (by rfl) (by first   | exact .inl rfl   | exact .inr rfl   | assumption)) (@Ad _ _ _ _ _ K _ (@Ai _ _ 9 _ _ _ _ Ce.nd rfl (Or.inl rfl) (@Ah _ _ _ _ _ _ _ _ Cp (@Ah _ _ _ _ _ _ _ _ Cp (@AU _ _ _ _ _ _ _ _ _ _ (slL K) (pv 2) Be (@Bc _ _ _ (pv 8))) (@AE _ _ _ _ (@A0 _ _ _ _ _ (@Aj _ _ _ _ _ _ _ (ixL K) (pv 2) (@Al _ _ _ _ _ _ _ _ _ _ _ RH hr rfl (@A0 _ _ _ _ _ (pv 1) (@A0 _ _ _ _ _ (pv 4) Ab (by rfl)) (by rfl)) (by decide) (by decide) (by rfl) (by rfl)) (fun u v=>rfl)) Ab (by rfl)))) (@AU _ _ _ _ _ _ _ _ _ _ (slL K) (pv 2) (@Bc _ _ _ (pv 8)) Be)) (by rfl) (by first   | exact .inl rfl   | exact .inr rfl   | assumption)) (@Ad _ _ _ _ _ K _ (@AG _ _ _ _ _ _ _ _ K _ _ (@Ap _ _ _ _ _ _ _ _ (neD K hr.units) (@Al _ _ _ _ _ _ _ _ _ _ _ Sm hr rfl (@A0 _ _ _ _ _ (pv 9) (@A0 _ _ _ _ _ (@Ah _ _ _ _ _ _ _ _ Cp (pv 3) (@AE _ _ _ _ (@A0 _ _ _ _ _ (@AL _ _ _ _ _ (@A0 _ _ _ _ _ Ac (@A0 _ _ _ _ _ Ac Ab (by rfl)) (by rfl))) Ab (by rfl)))) (@A0 _ _ _ _ _ (pv 6) (@A0 _ _ _ _ _ (pv 7) Ab (by rfl)) (by rfl)) (by rfl)) (by rfl)) (by decide) (by decide) (by rfl) (by rfl)) (@AE _ _ _ _ (@A0 _ _ _ _ _ AO (@A0 _ _ _ _ _ AO (@A0 _ _ _ _ _ AO Ab (by rfl)) (by rfl)) (by rfl))) (As _)) (@Ag _ _ _ (@Ar _ _ _ _ GR)) Az (by rfl) (by rfl)) (@Ad _ _ _ _ _ K _ (@AG _ _ _ _ _ _ _ _ K _ _ (@Ap _ _ _ _ _ _ _ _ E8 (@EI _ _ _ _ _ _ _ _ _ _ _ RQ hr rfl (@A0 _ _ _ _ _ (@D0 _ _ _ _ (Af (top 72)) _ _ _ ca b9 (by rfl) (by rfl) (by decide +kernel) (by rfl)) Ab (by rfl)) (by intro _;rfl) (by decide) (by decide) (by rfl) (by rfl)) AO (As _)) (@Ag _ _ _ (@Ar _ _ _ _ GR)) Az (by rfl) (by rfl)) (@Ag _ _ _ (@AG _ _ _ _ _ _ _ _ K _ _ (@Ap _ _ _ _ _ _ _ _ E8 (@EI _ _ _ _ _ _ _ _ _ _ _ RQ hr rfl (@A0 _ _ _ _ _ (@D0 _ _ _ _ (Af (top 72)) _ _ _ ca b9 (by rfl) (by rfl) (by decide +kernel) (by rfl)) Ab (by rfl)) (by intro _;rfl) (by decide) (by decide) (by rfl) (by rfl)) AO (As _)) (@Ag _ _ _ (@Ar _ _ _ _ GR)) Az (by rfl) (by rfl))) (by rfl)) (by rfl)) (by rfl)) (by rfl)) (by rfl)) (by rfl)) (by rfl)) (by rfl)) (by rfl) (by intro _;rfl)) (@Ad _ _ _ _ _ K _ (@Ai _ _ 10 _ _ _ _ Ce.nd rfl (Or.inr rfl) (@CB _ (["_law_k"]) 1 ([]) _ _ _ _ _ _ _ _ _ _ rfl (AW.look (NX:=["_law_script","_law_pen_here","_law_places_here","_law_heights","_law_many","_law_k","_law_width","_law_most","_law_at","_law_double","_law_far","_law_some"]) (sc:=Af (top 72)) rfl rfl (by decide +kernel)) (@Bj _ _ _ _ _ _ rfl RG (@A0 _ _ _ _ _ Ac Ab (by rfl)) (by rfl)) (fun u1 u2 u3 u4 u5=>(@Ax _ _ 0 _ (show List.Nodup (["_law_k"]:List Str) from by decide +kernel) rfl (Or.inl rfl) (by first   | exact .inl rfl   | exact .inr rfl   | assumption))) (AJ (by decide)) (fun u1 u2 u3 u4 u5=>Bz) (fun u1 u2 u3 u4 u5=>(@AL _ _ _ _ _ (@A0 _ _ _ _ _ (pv 0) (@A0 _ _ _ _ _ Ac Ab (by rfl)) (by rfl)))) (by intro _;rfl)) (by rfl) (by first   | exact .inl rfl   | exact .inr rfl   | assumption)) (@Ad _ _ _ _ _ K _ (@Ba _ _ _ _ _ _ _ _ K _ PassesOwn.never rfl (@piL _ K _ _ _ (@AE _ _ _ _ (@A0 _ _ _ _ _ (pv 10) (@A0 _ _ _ _ _ (@AE _ _ _ _ Ab) Ab (by rfl)) (by rfl))) (by rfl)) (@Ax _ _ 11 _ Ce.nd rfl (Or.inl rfl) (by first   | exact .inl rfl   | exact .inr rfl   | assumption)) (@Ag _ _ _ (@AG _ _ _ _ _ _ _ _ K _ _ (@Ap _ _ _ _ _ _ _ _ (neD K hr.units) (@Al _ _ _ _ _ _ _ _ _ _ _ Sm hr rfl (@A0 _ _ _ _ _ (pv 11) (@A0 _ _ _ _ _ (pv 11) (@A0 _ _ _ _ _ Ac (@A0 _ _ _ _ _ Ac Ab (by rfl)) (by rfl)) (by rfl)) (by rfl)) (by decide) (by decide) (by rfl) (by rfl)) (@AE _ _ _ _ (@A0 _ _ _ _ _ AO (@A0 _ _ _ _ _ AO (@A0 _ _ _ _ _ AO Ab (by rfl)) (by rfl)) (by rfl))) (As _)) (@Ag _ _ _ (@Ar _ _ _ _ GR)) Az (by rfl) (by rfl))) (by rfl) (by intro _;rfl)) (@Ad _ _ _ _ _ K _ (@AG _ _ _ _ _ _ _ _ K _ _ (@Ap _ _ _ _ _ _ _ _ E8 (@EI _ _ _ _ _ _ _ _ _ _ _ RQ hr rfl (@A0 _ _ _ _ _ (@D0 _ _ _ _ (Af (top 72)) _ _ _ ca b9 (by rfl) (by rfl) (by decide +kernel) (by rfl)) Ab (by rfl)) (by intro _;rfl) (by decide) (by decide) (by rfl) (by rfl)) AO (As _)) (@Ag _ _ _ (@Ar _ _ _ _ GR)) Az (by rfl) (by rfl)) (@Ag _ _ _ (@Ar _ _ _ _ (@DI _ _ _ _ _ _ _ _ Ex (@EI _ _ _ _ _ _ _ _ _ _ _ RQ hr rfl (@A0 _ _ _ _ _ (@D0 _ _ _ _ (Af (top 72)) _ _ _ ca b9 (by rfl) (by rfl) (by decide +kernel) (by rfl)) Ab (by rfl)) (by intro _;rfl) (by decide) (by decide) (by rfl) (by rfl)) AO (As _)))) (by rfl)) (by rfl)) (by rfl)) (by rfl)) (by rfl)) (by rfl)) (by rfl)) (by rfl)) (by rfl)),?_⟩
 obtain⟨a0,ns,rfl,hS,dp,cQ,cX,cR,q⟩:=h;have P0:0<=af:=by decide
 have P1:1<=af:=by decide
 have P2:2<=af:=by decide
 have P3:3<=af:=by decide
 refine⟨_,Z,a0,ns,0,Z,hS,dp,by decide,by decide,fun p c0 c1 hp=>?_⟩
 have pn:Pen (upd H p (.lst [.int c0,.int c1,.int 0])) p:=.put;have T:T9 (upd H p (.lst [.int c0,.int c1,.int 0])):=⟨KH ((Ae.new hp) _ _ cQ),KH ((Ae.new hp) _ _ cX),KH ((Ae.new hp) _ _ cR)⟩;generalize upd H p (.lst [.int c0,.int c1,.int 0])=H1 at pn T ⊢;clear hS hp cQ cX cR;refine⟨_,Z,_,Z,p,5,Z,pn,by decide,by decide,fun d H2 d0 d1 o2 p2=>⟨_,_,Z,Z,p,_,Z,p2,by lia,by lia,fun l H3 zs qs m3 p3 hl el hz dD bY hb=>?_⟩⟩
 have lp:l≠p:=p2.ne' hl;have T:=T.mv pn ((BQ.mv o2).trans m3);clear m3 hl p2 o2 pn
 try dsimp only
 refine LW (L2 a0 p fun a0 p bZ G=>∃(l:aa) (zs:List V) (qs:List Rat),bZ=[some (.ref a0),some (.ref p),some (.ref l),none,none,none,none,none,none,none,none,none]/\Pen G p/\l≠p/\G l=some (.lst zs)/\Aw G zs qs/\qs.Nodup/\(∀c∈qs,RB 16 c)/\(qs.length<=5\/∀c∈qs,RB 7 c)/\1<=qs.length/\qs.length<=12/\T9 G) (fun nx b4=>?_) ?_
 ·refine⟨_,Z,p,4,Z,p3,by decide,by decide,fun e H5 e0 e1 o5 p5=>?_⟩
  have m5:=BQ.mv o5;have T5:=T.mv p3 m5;refine⟨Z,_,Z,?_⟩;by_cases he:e=0
  ·refine AV (decide_eq_true (by rw[he])) ?_
   refine Cb ⟨_,Z,p,12,Z,p5,by decide,by decide,fun d5 H6 f0 f1 o6 p6=>?_⟩
   obtain⟨N,rfl⟩:∃N:Nat,d5=(N:Int):=⟨d5.toNat,by lia⟩
   have m6:=BQ.mv o6;have T6:=T5.mv p5 m6;refine⟨_,_,Z,Z,_,Z,by lia,by lia,?_⟩
   rw[show(1+(N:Int)).toNat=1+N by lia]
   refine Kx (n:=1+N) (L2 p H6 fun p H6 i ys G=>Mv p H6 G/\Pen G p/\ys.length=i/\∃rs,Aw G ys rs/\rs.Nodup/\∀c∈rs,∃z:Int,c=(z:Rat)/\0<=z/\z<9*(i:Int)) ⟨Mv.refl _ _,p6,Z,[],.nil,V0,(fun _ h=>nomatch h)⟩ (fun i ys G _ h=>h.2.2.1) (U7 (AA (by lia))) ?_ ?_
   ·rintro i ys G hi dg;obtain⟨mg,pg,cG,rs,al,bd,aP⟩:=dg
    try clear dg
    refine⟨_,Z,p,9,Z,pg,by decide,by decide,fun v G1 v0 v1 og dE=>⟨_,Z,_,_,Z,Z,.inl ⟨by decide,by decide⟩,_,_,Z,Z,P2,fun t ht=>?_⟩⟩
    have nt:=Ae.new (o:=.tup [.int (v+9*(0+(i:Int))),.int 1]) ht;refine⟨(mg.trans (BQ.mv og)).trans nt.mv,dE.sm nt,by simp[cG],rs++[((v+9*(0+(i:Int)):Int):Rat)],Paired.snoc (Aw.same (Aw.mv al pg (BQ.mv og)) nt) ⟨t,Z,by rw[Ku];exact Aa⟩,?_,fun c hc=>?_⟩
    ·rw[X1];refine⟨bd,WD ..,fun c hc d hd e=>?_⟩;refine DN (aP c hc) fun z bw=>?_;refine C2 bw fun cA z1 z2=>?_;clear bw;obtain rfl:=cA;rw[Vx.mp hd]at e;have:=Lr e
     lia
    ·rcases Uc.mp hc with z | z
     ·refine DN (aP c z) fun w bC=>?_;refine C2 bC fun cr w1 w2=>?_;clear bC;obtain rfl:=cr;exact⟨w,Z,w1,by lia⟩
     ·rw[Vx.mp z];exact⟨_,Z,by lia,by lia⟩
   rintro cT G dh l2 dj;obtain⟨mg,pg,cG,rs,al,bd,aP⟩:=dh
   try clear dh
   have n2:=Ae.new (o:=.lst cT) dj;have dC:=al.length
   have h7:∀c∈rs,RB 7 c:=fun c hc=>by
    refine DN (aP c hc) fun z bx=>?_;refine C2 bx fun cw z1 z2=>?_;clear bx;obtain rfl:=cw;exact⟨by rw[WT];unfold Bd;lia,by rw[WU];unfold Bd;decide⟩
   exact b4 _ _ ⟨l2,cT,rs,Z,pg.sm n2,pg.ne' dj,Aa,Aw.same al n2,bd,fun c hc=>(h7 c hc).mono (by decide),.inr h7,by lia,by lia,(T6.mv p6 mg).same n2⟩
  ·refine AK (decide_eq_false fun z=>he (V.int.inj z)) ?_;exact b4 _ _ ⟨l,zs,qs,Z,p5,lp,m5 _ _ lp el,Aw.mv hz p3 m5,bY,hb,.inl (by lia),by lia,by lia,T5⟩
 clear el hz dD bY hb lp T p3;rintro bZ G0 cN;refine Gk cN fun l zs qs bG=>?_;refine R7 bG fun cv pG lp el hz bY hb hf dm cc T=>?_;clear bG;obtain rfl:=cv
 try clear cN
 have dG:=hz.length;refine Cb ⟨_,Z,l,Z,⟨_,SqL.of el⟩,?_⟩;refine Dg (xs:=zs) (L3 p G0 K fun p G0 K i vs W=>Mv p G0 W/\Pen W p/\vs.length=i/\∃hs,Au K W vs hs/\∀c∈hs,RB 7 c) ⟨Mv.refl _ _,pG,Z,[],.nil,(fun _ h=>nomatch h)⟩ (fun i vs W _ h=>⟨SqL.of (h.1 _ _ lp el),h.2.2.1⟩) (U7 (AA (by lia))) ?_ ?_
 ·rintro i v vs W hv cM;obtain⟨mw,pw,cK,hs,dB,dJ⟩:=cM
  try clear cM
  refine⟨_,Z,p,3,Z,pw,by decide,by decide,fun d G1 d0 d1 o2 p2=>⟨P2,fun t ht=>?_⟩⟩
  have m2:=BQ.mv o2;have nt:=Ae.new (o:=.tup [.int d,.int 1]) ht;refine⟨(mw.trans m2).trans nt.mv,p2.sm nt,by simp[cK],hs++[((d:Int):Rat)],Paired.snoc (Au.same (Au.mv dB pw m2) nt) (AD.of (by rw[Ku];exact Aa)),fun c hc=>?_⟩
  rcases Uc.mp hc with z | z
  ·exact dJ c z
  ·rw[Vx.mp z];exact⟨by rw[WT];unfold Bd;lia,by rw[WU];unfold Bd;decide⟩
 rintro ys W db lh cF;obtain⟨mw,pw,cG,hs,O,cz⟩:=db
 try clear db
 have n3:=Ae.new (o:=.lst ys) cF;have b7:=pw.ne' cF;have T:=(T.mv pG mw).same n3;have el:=n3 _ _ (mw _ _ lp el);have hz:=Aw.same (Aw.mv hz pG mw) n3;have J:=Aa (H:=W) (a:=lh) (o:=.lst ys);have O:=Au.same O n3;have pG:=pw.sm n3;generalize upd W lh (.lst ys)=G1 at T el hz J O pG ⊢;clear n3 cF mw pw;have dO:=O.length;refine⟨_,Z,l,zs,Z,.inl (SqL.of el),?_⟩;have dq:Bq qs hs:=⟨hb,cz,fun _=>hf⟩;refine⟨3,Z,by decide,by decide,C5 (n:=3) (L9 p l zs qs lh ys K hs a0 fun p l zs qs lh ys K hs a0 _ σ G=>Pen G p/\T9 G/\G l=some (.lst zs)/\Aw G zs qs/\G lh=some (.lst ys)/\Au K G ys hs/\∃z5 z6 z7 z8 z9,σ=[some (.ref a0),some (.ref p),some (.ref l),some (.ref lh),some (.int ((zs.length:Nat):Int)),z5,z6,z7,z8,z9,none,none]) ⟨pG,T,el,hz,J,O,none,none,none,none,none,Z⟩ ?_ ?_⟩
 ·rintro i σ G hi dk;obtain⟨pG,T,el,hz,J,O,z5,z6,z7,z8,z9,rfl⟩:=dk
  try clear dk
  refine⟨_,Z,_,Z,_,_,Z,Z,p,_,Z,pG,by lia,by lia,fun d G1 d0 d1 o1 p1=>⟨_,_,Z,Z,?_⟩⟩
  have dv:=fl9 (n:=zs.length);refine⟨_,Z,_,Z,_,_,Z,Z,by decide,_,_,Z,Z,p,_,Z,p1,by lia,by lia,fun d2 G2 e0 e1 o2 p2=>?_⟩
  have bN:=(BQ.mv o1).trans (BQ.mv o2);have T:=T.mv pG bN;have el:=bN _ _ lp el;have J:=bN _ _ b7 J;have hz:=Aw.mv hz pG bN;have O:=Au.mv O pG bN;clear o1 o2 p1 pG bN;have C8:Jc 10 8:=by unfold Jc;decide
  have dr:Jc 10 49:=by unfold Jc;decide
  have dw:Jc 10 50:=by unfold Jc;decide
  try dsimp only
  refine Jj (s:=LV _ _ _) (L6 a0 p l lh zs G2 fun a0 p l lh zs G2 bZ G=>∃(W e:Int) (z5 z8 z9:Option V),bZ=[some (.ref a0),some (.ref p),some (.ref l),some (.ref lh),some (.int ((zs.length:Nat):Int)),z5,some (.int W),some (.int e),z8,z9,none,none]/\1<=W/\0<=e/\Mv p G2 G/\Pen G p) (fun nx b4=>?_) ?_
  ·refine⟨_,Z,p,6,Z,p2,by decide,by decide,fun x H5 x0 x1 o5 p5=>?_⟩
   have m5:=BQ.mv o5;refine⟨Z,_,Z,?_⟩;by_cases he:x=0
   ·refine AV (decide_eq_true (by rw[he])) ?_
    refine⟨_,Z,_,_,Z,Z,C8,p,_,Z,p5,by decide,by decide,fun y H6 y0 y1 o6 p6=>⟨_,_,Z,Z,dw,_,_,Z,Z,.inl ?_,_,_,Z,Z,?_⟩⟩
    ·change y<10 ^ 8 at y1;lia
    refine⟨_,Z,_,_,Z,Z,C8,p,_,Z,p6,by decide,by decide,fun u H7 u0 u1 o7 p7=>⟨_,_,Z,Z,dr,_,_,Z,Z,.inl ?_,?_⟩⟩
    ·change u<10 ^ 8 at u1;lia
    exact b4 _ _ ⟨_,_,_,_,_,Z,by lia,by lia,m5.trans ((BQ.mv o6).trans (BQ.mv o7)),p7⟩
   ·refine AK (decide_eq_false fun z=>he (V.int.inj z)) ?_;exact b4 _ _ ⟨_,_,_,_,_,Z,by lia,by lia,m5,p5⟩
  rintro bZ G3 di;refine R3 di fun W e z5 z8 z9 bD=>?_;refine Eh bD fun cx hW he m3 pG=>?_;clear bD;obtain rfl:=cx
  try clear di
  have T:=T.mv p2 m3;have el:=m3 _ _ lp el;have J:=m3 _ _ b7 J;have hz:=Aw.mv hz p2 m3;have O:=Au.mv O p2 m3;clear m3 p2;refine⟨_,Z,_,Z,_,Z,_,Z,l,lh,zs,ys,qs,hs,W,e,Z,SqL.of el,hz,SqL.of J,O,by lia,dq,hW,he,T,fun pa G4 na nb nc k4 T4 hj hd hq bf=>?_⟩
  refine⟨_,Z,_,Z,_,Z,_,W,e,Z,fun pd G5 s5 ck=>?_⟩;have b1:¬DR qs ys.length:=JK bY dm cc (by lia)
  have ea:=QN hj b1;have eb:=QP hd bY dm cc hW;have ec:=QK hq b1 hW;rw[<- dG]at ea eb ec;rw[<- ea,<- eb,<- ec]at ck;refine Qe (SqL.of (s5 _ _ bf)) (SqL.of ck) ⟨_,Z,AK rfl ?_⟩;have k5:=k4.trans s5.kt;have T:=T4.same s5;have el:=k5 _ _ (fun _ z=>by cases z) el
  have J:=k5 _ _ (fun _ z=>by cases z) J
  have hz:=BB hz k5;have O:=D5 O k5;have pG:=IF pG k5;clear k5 k4 T4 s5 bf ck ea eb ec hj hd hq;refine⟨_,Z,_,Z,_,_,Z,Z,p,_,Z,pG,by lia,by lia,fun da G6 t0 t1 o6 p6=>?_⟩
  obtain⟨t,rfl⟩:∃t:Nat,da=(t:Int):=⟨da.toNat,by lia⟩
  have m6:=BQ.mv o6;have T:=T.mv pG m6;have el:=m6 _ _ lp el;have J:=m6 _ _ b7 J;have hz:=Aw.mv hz pG m6;have O:=Au.mv O pG m6;clear m6 o6 pG;refine⟨_,Z,_,Z,_,Z,l,zs,Z,SqL.of el,fun l5 h5=>?_⟩;rw[CD];have n5:=Ae.new (o:=.lst (zs.take t)) h5;have e5:=Aa (H:=G6) (a:=l5) (o:=.lst (zs.take t));have dy:=p6.ne' h5;have T:=T.same n5;have el:=n5 _ _ el;have J:=n5 _ _ J;have hz:=Aw.same hz n5;have O:=Au.same O n5;have p6:=p6.sm n5;generalize upd G6 l5 (.lst (zs.take t))=G7 at e5 T el J hz O p6 ⊢;clear n5 h5;refine⟨_,Z,_,Z,_,Z,p,_,Z,p6,by lia,by lia,fun sp G8 u0 u1 o8 p8=>?_⟩
  obtain⟨S,rfl⟩:∃S:Nat,sp=(S:Int):=⟨sp.toNat,by lia⟩
  have m8:=BQ.mv o8;have T:=T.mv p6 m8;have el:=m8 _ _ lp el;have J:=m8 _ _ b7 J;have e5:=m8 _ _ dy e5;have hz:=Aw.mv hz p6 m8;have O:=Au.mv O p6 m8;clear m8 o8 p6;have dc:S<qs.length:=by lia
  obtain⟨vx,dt,rx,rfl,b3⟩:=(Paired.get' hz (Vy dc));have cI:qs[S]? = some qs[S]:=Vy dc;generalize qs[S]=x at b3 cI;refine⟨l,zs,_,_,Z,Z,SqL.of el,Bg dt,P1,fun l6 h6=>?_⟩;have n6:=Ae.new (o:=.lst [.ref rx]) h6;refine⟨l5,l6,_,_,Z,Z,n6 _ _ e5,Aa,U7 (AA (by rw[Uy,UW];lia)),fun l7 h7=>?_⟩
  have n7:=n6.trans (Ae.new (o:=.lst (zs.take t++[.ref rx])) h7);have e7:=Aa (H:=upd G8 l6 (.lst [.ref rx])) (a:=l7) (o:=.lst (zs.take t++[.ref rx]));generalize upd (upd G8 l6 (.lst [.ref rx])) l7 (.lst (zs.take t++[.ref rx]))=G9 at n7 e7 ⊢;refine⟨_,Z,_,Z,_,Z,l,zs,Z,SqL.of (n7 _ _ el),fun l8 h8=>?_⟩;rw[Dy];have n8:=n7.trans (Ae.new (o:=.lst (zs.drop t)) h8);refine⟨l7,l8,_,_,Z,Z,(Ae.new (o:=.lst (zs.drop t)) h8) _ _ e7,Aa,U7 (AA (by rw[UH,Uy,UW,UP];lia)),fun l9 h9=>?_⟩
  have n9:=n8.trans (Ae.new (o:=.lst (zs.take t++[.ref rx]++zs.drop t)) h9);have e9:=Aa (H:=upd G9 l8 (.lst (zs.drop t))) (a:=l9) (o:=.lst (zs.take t++[.ref rx]++zs.drop t));have T:=T.same n9;have el:=n9 _ _ el;have J:=n9 _ _ J;have hz:=Aw.same hz n9;have O:=Au.same O n9;have b3:=n9 _ _ b3;have p8:=p8.sm n9;generalize upd (upd G9 l8 (.lst (zs.drop t))) l9 (.lst (zs.take t++[.ref rx]++zs.drop t))=GA at T el J hz O b3 p8 e9 ⊢;clear n6 n7 n8 n9 h6 h7 h8 h9 e7 e5;have b5:Aw GA (zs.take t++[.ref rx]++zs.drop t) (qs.take t++[x]++qs.drop t):=Paired.append (Paired.append (Paired.take t hz) (.cons ⟨rx,Z,b3⟩ .nil)) (D3 t hz);have cH:=OC (t:=t) cI;have dH:(qs.take t++[x]++qs.drop t).length=qs.length+1:=by rw[UH,UH,Uy,UW,UP];lia
  have cO:∀c∈qs.take t++[x]++qs.drop t,RB 16 c:=fun c hc=>by
   rcases Uc.mp hc with z | z
   ·rcases Uc.mp z with z | z
    ·exact hb c (WN z)
    ·rw[Vx.mp z];exact hb x (UG cI)
   ·exact hb c (X5 z)
  generalize zs.take t++[V.ref rx]++zs.drop t=dz at b5 e9;generalize qs.take t++[x]++qs.drop t=ds at b5 cH dH cO;refine⟨_,Z,_,Z,P2,fun t1 h1=>⟨P1,fun l10 bW=>?_⟩⟩;have nA:=(Ae.new (o:=.tup [.int 1,.int 1]) h1).trans (Ae.new (o:=.lst [.ref t1]) bW);have bc:=(Ae.new (o:=.lst [.ref t1]) bW) _ _ (Aa (H:=GA) (a:=t1) (o:=.tup [.int 1,.int 1]));refine⟨lh,l10,_,_,Z,Z,nA _ _ J,Aa,U7 (AA (by rw[UW];lia)),fun l11 b6=>?_⟩
  have nB:=Ae.new (o:=.lst (ys++[.ref t1])) b6;have cP:=Aa (H:=upd (upd GA t1 (.tup [.int 1,.int 1])) l10 (.lst [.ref t1])) (a:=l11) (o:=.lst (ys++[.ref t1]));have nC:=nA.trans nB;have bc:=nB _ _ bc;have de:Au K _ (ys++[.ref t1]) (hs++[1]):=Paired.snoc (Au.same O nC) (AD.of (show _=some (nT 1) from bc))
  have dn:∀c∈hs++[1],RB 7 c:=fun c hc=>by
   rcases Uc.mp hc with z | z
   ·exact cz c z
   ·rw[Vx.mp z];exact RB.one (by decide)
  refine⟨_,Z,_,Z,l9,l11,dz,ys++[.ref t1],ds,hs++[1],W,e,Z,SqL.of (nC _ _ e9),Aw.same b5 nC,SqL.of cP,de,by lia,⟨cO,dn,fun z=>absurd z cH⟩,hW,he,T.same nC,fun pa GB na nb nc k4 T4 hj hd hq bf=>?_⟩
  obtain⟨rfl,rfl,rfl⟩:=(LJ (.inr (.inr cH)) hj hd hq);refine⟨P3,fun l12 b8=>?_⟩;have nD:=Ae.new (o:=.lst [.str "points",.str "points",.str "points"]) b8;refine Qe (a:=1) (b:=1) (c:=1) (SqL.of (nD _ _ bf)) (SqL.of Aa) ⟨_,Z,AK rfl ?_⟩;have kA:=(nC.kt.trans k4).trans nD.kt;have T:=T4.same nD;have el:=kA _ _ (fun _ z=>by cases z) el
  have J:=kA _ _ (fun _ z=>by cases z) J
  have hz:=BB hz kA;have O:=D5 O kA;have pG:=IF p8 kA;generalize upd GB l12 (.lst [.str "points",.str "points",.str "points"])=GC at T el J hz O pG ⊢;clear kA nD T4 k4 nC nB nA bc de cP e9 b5 hj hd hq bf h1 bW b6 b8 p8;have dK:ys.length=qs.length:=by lia
  refine⟨T.l,fun f c' cl cE H2 C as LN=>⟨cl,C,fun os aF ba=>?_⟩⟩;obtain⟨T2,k2⟩:=(T.newL LN);refine⟨f,o9 Y ak 1,t9 1,Rc (cl.map (·.2)) R0,Z,?_,GY _ _ 1,fun X H3 r s3=>⟨fun c hc=>?_,Z,_,Z,EJ ?_⟩⟩
  ·refine CT (k:=46) (fr:=["_law_places_here","_law_heights","_law_width","_law_most"]) (ws:=[.ref l,.ref lh,.int W,.int e]) LN C as aF ba ⟨Z,Z,Z,by decide +kernel,by decide +kernel⟩ (Cr rfl) (.cons 2 rfl rfl rfl rfl (.cons 3 rfl rfl rfl rfl (.cons 6 rfl rfl rfl rfl (.cons 7 rfl rfl rfl rfl .nil)))) fun A outer s E H' Q hr hm hQ hE=>?_
   have km:=k2.trans hm.kt;refine⟨_,(EH bX.x1 hr rfl GS (A0 (pv 0) (A0 (AU (slL K) (pv 1) (Bc Ac) Be) (A0 (pv 2) (A0 (pv 3) Ab))))),_,Z,_,Z,_,Z,lh,ys,Z,CQ (SqL.of J) km,fun l13 du=>?_⟩;rw[show Cs ys (some (1:Int)) none=ys.drop 1 from Dy ys 1];have cb:=Ae.new (o:=.lst (ys.drop 1)) du;have bg:=km.trans cb.kt;exact⟨_,Z,_,Z,QV (hs:=hs.drop 1) (n:=1) (CQ (SqL.of el) bg) (BB hz bg) (SqL.of Aa) (D3 1 (D5 O bg)) (by lia) ⟨hb,fun c hc=>cz c (X5 hc),fun _=>hf⟩ hW he ((T2.same hm).same cb).r (.inl ⟨Z,.inr (by rw[UP];lia)⟩) (fun r ap r0 ho=>hQ r ap ⟨cb.b.trans r0.1,r0.2⟩ ho) fun C ap r0 ho=>hE C ap ⟨cb.b.trans r0.1,r0.2⟩ ho⟩
  ·refine DN (id r) fun ap bq=>?_;refine C2 bq fun cp _ _=>?_;clear bq;obtain rfl:=cp;exact s3 _ _ (by rw[Fb hc];exact Dd hc)
  obtain⟨Hr,r',s'⟩:=(r.off aF s3);obtain⟨T3,k3⟩:=(T.askL LN r' s');have el:=k3 _ _ (fun _ z=>by cases z) el
  have J:=k3 _ _ (fun _ z=>by cases z) J
  have hz:=BB hz k3;have O:=D5 O k3;have pG:=IF pG k3;generalize offC (cl.map (·.2)) H3=GD at T3 el J hz O pG ⊢;clear s' r' r s3 aF ba LN C as T2 k2 T k3;refine⟨T3.l,fun f c' cl cE H2 C as LN=>⟨cl,C,fun os aF ba=>?_⟩⟩;obtain⟨T2,k2⟩:=(T3.newL LN);refine⟨f,o9 Y ak 1,t9 1,Rc (cl.map (·.2)) R0,Z,?_,GY _ _ 1,fun X H3 r s3=>⟨fun c hc=>?_,Z,_,Z,EJ ?_⟩⟩
  ·refine CT (k:=46) (fr:=["_law_places_here","_law_heights","_law_width"]) (ws:=[.ref l,.ref lh,.int W]) LN C as aF ba ⟨Z,Z,Z,by decide +kernel,by decide +kernel⟩ (Cr rfl) (.cons 2 rfl rfl rfl rfl (.cons 3 rfl rfl rfl rfl (.cons 6 rfl rfl rfl rfl .nil))) fun A outer s E H' Q hr hm hQ hE=>?_
   have km:=k2.trans hm.kt;refine⟨_,(EH an.x1 hr rfl GS (A0 (pv 0) (A0 (Ah Cp (pv 1) (AE (A0 (AL (A0 Ac (A0 Ac Ab))) Ab))) (A0 (pv 2) Ab)))),_,Z,_,Z,P2,fun t1 h1=>⟨P1,fun l10 bW=>?_⟩⟩;have nA:=(Ae.new (o:=.tup [.int 1,.int 1]) h1).trans (Ae.new (o:=.lst [.ref t1]) bW);have bc:=(Ae.new (o:=.lst [.ref t1]) bW) _ _ (Aa (H:=H') (a:=t1) (o:=.tup [.int 1,.int 1]));refine⟨lh,l10,_,_,Z,Z,nA _ _ (km _ _ (fun _ z=>by cases z) J),Aa,U7 (AA (by rw[UW];lia)),fun l11 b6=>?_⟩
   have nB:=Ae.new (o:=.lst (ys++[.ref t1])) b6;have nC:=nA.trans nB;have kC:=km.trans nC.kt;have bc:=nB _ _ bc;exact⟨_,Z,Ph (hs:=hs++[1]) (n:=1) (CQ (SqL.of el) kC) (BB hz kC) (SqL.of Aa) (Paired.snoc (D5 O kC) (AD.of (show _=some (nT 1) from bc))) (by lia) ⟨hb,dn,fun _=>hf⟩ ((T2.same hm).same nC).r (.inl ⟨Z,.inr (by rw[UH,UW];lia)⟩) (fun r ap r0 ho=>hQ r ap ⟨nC.b.trans r0.1,r0.2⟩ ho) fun C ap r0 ho=>hE C ap ⟨nC.b.trans r0.1,r0.2⟩ ho⟩
  ·refine DN (id r) fun ap bh=>?_;refine C2 bh fun cm _ _=>?_;clear bh;obtain rfl:=cm;exact s3 _ _ (by rw[Fb hc];exact Dd hc)
  obtain⟨Hr,r',s'⟩:=(r.off aF s3);obtain⟨T4,k4⟩:=(T3.askL LN r' s');exact⟨IF pG k4,T4,k4 _ _ (fun _ z=>by cases z) el,BB hz k4,k4 _ _ (fun _ z=>by cases z) J,D5 O k4,_,_,_,_,_,rfl⟩
 clear T el hz J O pG;rintro σ G cY;obtain⟨pG,T,el,hz,J,O,z5,z6,z7,z8,z9,rfl⟩:=cY
 try clear cY
 refine Cb ⟨13,Z,by decide,by decide,?_⟩
 refine Kx (n:=13) (L1 G fun G i vs W=>Ae G W/\vs.length=i/\∃rs,Aw W vs rs/\rs.Nodup/\∀c∈rs,∃z:Int,c=(z:Rat)/\0<=z/\z<(i:Int)) ⟨Ae.refl _,Z,[],.nil,V0,(fun _ h=>nomatch h)⟩ (fun i ys G _ h=>h.2.1) (by decide) ?_ ?_
 ·rintro i vs W hi cZ;refine C2 cZ fun sw cK b2=>?_;refine DN b2 fun rs bu=>?_;clear b2;refine C2 bu fun al bd aP=>?_;clear bu
  try clear cZ
  refine⟨_,Z,P2,fun t ht=>?_⟩;have nt:=Ae.new (o:=.tup [.int (0+(i:Int)),.int 1]) ht;refine⟨sw.trans nt,by simp[cK],rs++[((0+(i:Int):Int):Rat)],Paired.snoc (Aw.same al nt) ⟨t,Z,by rw[Ku];exact Aa⟩,?_,fun c hc=>?_⟩
  ·rw[X1];refine⟨bd,WD ..,fun c hc d hd e=>?_⟩;refine DN (aP c hc) fun z bB=>?_;refine C2 bB fun cJ z1 z2=>?_;clear bB;obtain rfl:=cJ;rw[Vx.mp hd]at e;have:=Lr e
   lia
  ·rcases Uc.mp hc with z | z
   ·refine DN (aP c z) fun w bn=>?_;refine C2 bn fun cj w1 w2=>?_;clear bn;obtain rfl:=cj;exact⟨w,Z,w1,by lia⟩
   ·rw[Vx.mp z];exact⟨_,Z,by lia,by lia⟩
 rintro fz W ci lf dl;refine C2 ci fun sw dv b0=>?_;refine DN b0 fun rs bp=>?_;clear b0;refine C2 bp fun al bd aP=>?_;clear bp
 try clear ci
 have n1:=Ae.new (o:=.lst fz) dl
 have h7:∀c∈rs,RB 7 c:=fun c hc=>by
  refine DN (aP c hc) fun z bl=>?_;refine C2 bl fun cB z1 z2=>?_;clear bl;obtain rfl:=cB;exact⟨by rw[WT];unfold Bd;lia,by rw[WU];unfold Bd;decide⟩
 have dM:∀c∈rs,RB 16 c:=fun c hc=>(h7 c hc).mono (by decide)
 have T:=(T.same sw).same n1;have al:=Aw.same al n1;have aC:=Aa (H:=W) (a:=lf) (o:=.lst fz);have dC:=al.length;generalize upd W lf (.lst fz)=G1 at T al aC ⊢;clear n1 dl sw el hz J O pG;refine⟨_,Z,P0,fun l0 h0=>⟨P2,fun lL hL=>?_⟩⟩;have n2:=(Ae.new (o:=.lst []) h0).trans (Ae.new (o:=.lst [.ref lf,.ref l0]) hL);have e0:=(Ae.new (o:=.lst [.ref lf,.ref l0]) hL) _ _ (Aa (H:=G1) (a:=l0) (o:=.lst []));have eL:=Aa (H:=upd G1 l0 (.lst [])) (a:=lL) (o:=.lst [.ref lf,.ref l0]);have T:=T.same n2;have al:=Aw.same al n2;have aC:=n2 _ _ aC;generalize upd (upd G1 l0 (.lst [])) lL (.lst [.ref lf,.ref l0])=G2 at T al aC e0 eL ⊢;clear n2 h0 hL;refine⟨lL,Z,⟨_,SqL.of eL⟩,Hk (xs:=[.ref lf,.ref l0]) (L15 lf fz rs l0 lL a0 p l lh zs z5 z6 z7 z8 z9 fun lf fz rs l0 lL a0 p l lh zs z5 z6 z7 z8 z9 _ σ W=>T9 W/\W lf=some (.lst fz)/\Aw W fz rs/\W l0=some (.lst [])/\W lL=some (.lst [.ref lf,.ref l0])/\∃cC,σ=[some (.ref a0),some (.ref p),some (.ref l),some (.ref lh),some (.int ((zs.length:Nat):Int)),z5,z6,z7,z8,z9,some (.ref lf),cC]) ⟨T,aC,al,e0,eL,none,Z⟩ (fun i σ W _ h=>SqL.of h.2.2.2.2.1) ?_ ?_⟩
 ·rintro i v σ W hv cf;obtain⟨T,aC,al,e0,eL,cC,rfl⟩:=cf
  try clear cf
  obtain⟨la,za,qa,rfl,ea,cW,dA,cD,cU⟩:∃la za qa,v = .ref la/\W la=some (.lst za)/\Aw W za qa/\Es 1 qa/\(∀c∈qa,RB 7 c)/\qa.length<=17:=by
   rcases i with _ | _ | i
   ·cases hv;exact⟨lf,fz,rs,Z,aC,al,.inr (.inl (by lia)),h7,by lia⟩
   ·cases hv;exact⟨l0,[],[],Z,e0,.nil,.inl (by decide),(fun _ h=>nomatch h),by decide⟩
   ·cases hv
  refine⟨_,Z,_,Z,la,la,za,za,qa,qa,1,0,Z,SqL.of ea,cW,SqL.of ea,cW.nums,cU,⟨fun c hc=>(cD c hc).mono (by decide),cD,fun _=>.inr cD⟩,by decide,by decide,T,fun pa GB na nb nc k4 T4 hj hd hq bf=>?_⟩
  obtain⟨rfl,rfl,rfl⟩:=(LJ dA hj hd hq);refine⟨P3,fun l12 b8=>?_⟩;have nD:=Ae.new (o:=.lst [.str "points",.str "points",.str "points"]) b8;refine Qe (a:=1) (b:=1) (c:=1) (SqL.of (nD _ _ bf)) (SqL.of Aa) ⟨_,Z,AK rfl ?_⟩;have kA:=k4.trans nD.kt;exact⟨T4.same nD,kA _ _ (fun _ z=>by cases z) aC,BB al kA,kA _ _ (fun _ z=>by cases z) e0,kA _ _ (fun _ z=>by cases z) eL,_,rfl⟩
 clear T aC al e0 eL;rintro σ W ce;obtain⟨T,aC,al,e0,eL,cC,rfl⟩:=ce
 try clear ce
 have dN:(rs.take 3).length=3:=by rw[Uy];lia
 have df:(rs.take 3).Nodup:=bd.sublist (UE 3 rs);have cu:∀c∈rs.take 3,RB 7 c:=fun c hc=>h7 c (WN hc);have cg:∀hs:List Rat,(∀c∈hs,RB 7 c)->Bq (rs.take 3) hs:=fun hs hh=>⟨fun c hc=>(cu c hc).mono (by decide),hh,fun _=>.inr cu⟩
 refine⟨T.l,fun f c' cl cE H2 C as LN=>⟨cl,C,fun os aF ba=>?_⟩⟩;obtain⟨T2,k2⟩:=(T.newL LN);refine⟨f,o9 Y ak 2,t9 2,Rc (cl.map (·.2)) R0,Z,?_,GY _ _ 2,fun X H3 r s3=>⟨fun c hc=>?_,Z,_,Z,EJ ?_⟩⟩
 ·refine CT (k:=46) (fr:=["_law_far"]) (ws:=[.ref lf]) LN C as aF ba ⟨Z,Z,Z,by decide +kernel,by decide +kernel⟩ (Cr rfl) (.cons 10 rfl rfl rfl rfl .nil) fun A outer s E H' Q hr hm hQ hE=>?_
  have km:=k2.trans hm.kt;refine⟨_,(EH bb.x1 hr rfl GS (A0 (AU (slL K) (pv 0) Be (Bc Ac)) (A0 Ac Ab))),_,Z,_,Z,lf,fz,Z,CQ (SqL.of aC) km,fun l14 cn=>?_⟩;rw[show Cs fz none (some (3:Int))=fz.take 3 from CD fz 3];have be:=Ae.new (o:=.lst (fz.take 3)) cn;have bg:=km.trans be.kt;exact R4 (n:=2) (SqL.of Aa) (Paired.take 3 (BB al bg)) (by lia) (cg [] fun _ h=>nomatch h) ((T2.same hm).same be).r (.inr (.inl ⟨Z,Nf df (by lia) (by lia),.inl (by decide)⟩)) (fun r ap r0 ho=>hQ r ap ⟨be.b.trans r0.1,r0.2⟩ ho) fun C ap r0 ho=>hE C ap ⟨be.b.trans r0.1,r0.2⟩ ho
 ·refine DN (id r) fun ap bt=>?_;refine C2 bt fun cq _ _=>?_;clear bt;obtain rfl:=cq;exact s3 _ _ (by rw[Fb hc];exact Dd hc)
 obtain⟨Hr,r',s'⟩:=(r.off aF s3);obtain⟨T3,k3⟩:=(T.askL LN r' s');have aC:=k3 _ _ (fun _ z=>by cases z) aC
 have al:=BB al k3;generalize offC (cl.map (·.2)) H3=GD at T3 aC al ⊢;clear s' r' r s3 aF ba LN C as T2 k2 T k3;refine⟨T3.l,fun f c' cl cE H2 C as LN=>⟨cl,C,fun os aF ba=>?_⟩⟩;obtain⟨T2,k2⟩:=(T3.newL LN);refine⟨f,o9 Y ak 2,t9 2,Rc (cl.map (·.2)) R0,Z,?_,GY _ _ 2,fun X H3 r s3=>⟨fun c hc=>?_,Z,?_⟩⟩
 ·refine CT (k:=46) (fr:=["_law_far"]) (ws:=[.ref lf]) LN C as aF ba ⟨Z,Z,Z,by decide +kernel,by decide +kernel⟩ (Cr rfl) (.cons 10 rfl rfl rfl rfl .nil) fun A outer s E H' Q hr hm hQ hE=>?_
  have km:=k2.trans hm.kt;refine⟨_,(EH an.x1 hr rfl GS (A0 (AU (slL K) (pv 0) Be (Bc Ac)) (A0 (AU (slL K) (pv 0) Be (Bc Ac)) (A0 Ac Ab)))),_,Z,_,Z,lf,fz,Z,CQ (SqL.of aC) km,fun l14 cn=>?_⟩;rw[show Cs fz none (some (3:Int))=fz.take 3 from CD fz 3];have be:=Ae.new (o:=.lst (fz.take 3)) cn;refine⟨_,Z,_,Z,lf,fz,Z,CQ (SqL.of aC) (km.trans be.kt),fun l15 dI=>?_⟩;rw[show Cs fz none (some (3:Int))=fz.take 3 from CD fz 3];have cV:=Ae.new (o:=.lst (fz.take 3)) dI;have nE:=be.trans cV;have bg:=km.trans nE.kt;have dF:=cV _ _ (Aa (H:=H') (a:=l14) (o:=.lst (fz.take 3)));have cy:=Paired.take 3 (BB al bg);exact Ph (n:=2) (hs:=rs.take 3) (SqL.of dF) cy (SqL.of Aa) (Aw.nums cy) (by lia) (cg _ cu) ((T2.same hm).same nE).r (.inr (.inl ⟨Z,JK df (by lia) (by lia) (by have:=cy.length;lia),.inl (by decide)⟩)) (fun r ap r0 ho=>hQ r ap ⟨nE.b.trans r0.1,r0.2⟩ ho) fun C ap r0 ho=>hE C ap ⟨nE.b.trans r0.1,r0.2⟩ ho
 ·refine DN (id r) fun ap bF=>?_;refine C2 bF fun co _ _=>?_;clear bF;obtain rfl:=co;exact s3 _ _ (by rw[Fb hc];exact Dd hc)
 rw[show decide (V.str (t9 2)=V.str (Str.ofString "few"))=true from decide_eq_true rfl];exact q _
end
inductive FnAt(K:U5)(x:Str)(st:aS)(f:aa):Prop
 | mk {oc kV dc pm cd ct:ac} {od an:Option aa} {sl:Array (Option ac)} (a:VG K aj x=some (some (.ref f))) (l:K.lookup f=some ⟨oc,od,.func (UK x x (BH st) (Bf st) (Af st) .none kV dc pm an cd ct),sl⟩) (c:UL K cd x=true) (k:Us K (.ref f)=true):FnAt K x st f
theorem FnAt.b1{K:U5}{x:Str}{st:aS}{f:aa}{h:au}{mg:Str->Option ac}(q:FnAt K x st f)(X:K.In h)(G:h.Ns aj mg)(O:Str)(hb:∀(kV W J:ac) (an:Option aa) (Y ct a1:ac),aT (UK x x (BH st) (Bf st) (Af st) .none kV W J an Y ct) ⟨[a1],[]⟩=pure [(O,a1)]:=by intros;rfl):∃fd,Fun K x x st f fd/\Bv K fd [O] []/\Us K (.ref f)=true/\mg x=some (.ref f):=by
 obtain⟨a,l,c,k⟩:=q;have F:=Hj (st:=st) l c k;exact⟨_,F,Fun.binds1 O F hb,k,VI X G a⟩
theorem FnAt.b2{K:U5}{x:Str}{st:aS}{f:aa}{h:au}{mg:Str->Option ac}(q:FnAt K x st f)(X:K.In h)(G:h.Ns aj mg)(O p2:Str)(hb:∀(kV W J:ac) (an:Option aa) (Y ct a1 a2:ac),aT (UK x x (BH st) (Bf st) (Af st) .none kV W J an Y ct) ⟨[a1,a2],[]⟩=pure [(O,a1),(p2,a2)]:=by intros;rfl):∃fd,Fun K x x st f fd/\Bv K fd [O,p2] []/\Us K (.ref f)=true/\mg x=some (.ref f):=by
 obtain⟨a,l,c,k⟩:=q;have F:=Hj (st:=st) l c k;exact⟨_,F,Fun.binds2 O p2 F hb,k,VI X G a⟩
theorem FnAt.b3{K:U5}{x:Str}{st:aS}{f:aa}{h:au}{mg:Str->Option ac}(q:FnAt K x st f)(X:K.In h)(G:h.Ns aj mg)(J p2 O:Str)(hb:∀(kV W pm:ac) (an:Option aa) (Y ct a1 a2 a3:ac),aT (UK x x (BH st) (Bf st) (Af st) .none kV W pm an Y ct) ⟨[a1,a2,a3],[]⟩=pure [(J,a1),(p2,a2),(O,a3)]:=by intros;rfl):∃fd,Fun K x x st f fd/\Bv K fd [J,p2,O] []/\Us K (.ref f)=true/\mg x=some (.ref f):=by
 obtain⟨a,l,c,k⟩:=q;have F:=Hj (st:=st) l c k;exact⟨_,F,Fun.binds3 J p2 O F hb,k,VI X G a⟩
theorem FnAt.b4{K:U5}{x:Str}{st:aS}{f:aa}{h:au}{mg:Str->Option ac}(q:FnAt K x st f)(X:K.In h)(G:h.Ns aj mg)(p1 p2 O J:Str)(hb:∀(kV W pm:ac) (an:Option aa) (Y ct a1 a2 a3 a4:ac),aT (UK x x (BH st) (Bf st) (Af st) .none kV W pm an Y ct) ⟨[a1,a2,a3,a4],[]⟩=pure [(p1,a1),(p2,a2),(O,a3),(J,a4)]:=by intros;rfl):∃fd,Fun K x x st f fd/\Bv K fd [p1,p2,O,J] []/\Us K (.ref f)=true/\mg x=some (.ref f):=by
 obtain⟨a,l,c,k⟩:=q;have F:=Hj (st:=st) l c k;exact⟨_,F,Fun.binds4 p1 p2 O J F hb,k,VI X G a⟩
theorem fdm{P:ai}(w:ar){K:U5}{mg:Str->Option ac}(base:au){n:Nat}{x:Str}{ps:List Str}{sp:Sp}{f:aa}{fd:ag}(a:Ay P w K mg base CX0 n f fd ps sp)(b:Bv K fd ps [])(c:Us K (.ref f)=true)(d:mg x=some (.ref f)):Fd P w K mg base n x ps sp:=⟨_,_,a,b,c,d⟩
theorem Qk{l:WK}{w:ar}{K:U5}{h:au}{mg:Str->Option ac}{fa f1 f2 f3 f4 f5 f6 f7 f8 f9 fT fw fj dy ej cO d5 gh eS eZ dQ e6 fm dP cQ dh eE dE fz gk fB dn d6 dz dA cJ d7 eM cT fg dW fi eW en fJ dc fL du cI eI cj:aa}(hT:l.prog.given.tree=none)(X:K.In h)(G:h.Ns aj mg)(fO:mg "law" = some (.ref fa))
 { od50 an50:Option aa} { sl50:Array (Option ac)} { oc50 kV50 dc50 pm50 cd50 ct50:ac}
  (q1:FnAt K "_law_pen" (top 63) f1)
  (q2:FnAt K "_law_lowest" (top 65) f2)
  (q3:FnAt K "_law_draw" (top 64) f3)
  (q4:FnAt K "_law_number" (top 67) f4)
  (q5:FnAt K "_law_plus" (top 66) f5)
  (q6:FnAt K "_law_places" (top 68) f6)
  (q7:FnAt K "_law_refused" (top 69) f7)
  (q8:FnAt K "are_unlike" (top 30) f8)
  (q9:FnAt K "check_places" (top 31) f9)
  (fC:FnAt K "check_heights" (top 35) fT)
  (cP:FnAt K "whole_height" (top 24) fw)
  (eF:FnAt K "lack_at" (top 37) fj)
  (fM:FnAt K "with_nought_at" (top 38) dy)
  (ey:FnAt K "common_measure" (top 13) ej)
  (dJ:FnAt K "without_common" (top 39) cO)
  (eH:FnAt K "both_with" (top 40) d5)
  (fD:FnAt K "curve_of" (top 20) gh)
  (fx:FnAt K "number_of" (top 14) eS)
  (eP:FnAt K "curve_over" (top 23) eZ)
  (dR:FnAt K "pair_through" (top 41) dQ)
  (eV:FnAt K "bottom_of" (top 21) e6)
  (ec:FnAt K "tops_over" (top 22) fm)
  (fv:FnAt K "whole_product" (top 26) dP)
  (dY:FnAt K "by_steps" (top 48) cQ)
  (eY:FnAt K "told_in" (top 32) dh)
  (de:FnAt K "knots_of" (top 33) eE)
  (gc:FnAt K "slopes_in" (top 44) dE)
  (fQ:FnAt K "first_row" (top 43) fz)
  (gf:FnAt K "over" (top 17) gk)
  (fW:FnAt K "minus" (top 15) fB)
  (dl:FnAt K "next_row" (top 45) dn)
  (eT:FnAt K "table_of" (top 46) d6)
  (gn:FnAt K "steps_of" (top 47) dz)
  (di:FnAt K "curve_through" (top 49) dA)
  (cR:FnAt K "rising" (top 36) cJ)
  (dU:FnAt K "height_at" (top 25) d7)
  (dH:FnAt K "judged" (top 51) eM)
  (dG:FnAt K "doubtful" (top 52) cT)
  (ft:FnAt K "nought_at" (top 58) fg)
  (d4:FnAt K "whole_division" (top 55) dW)
  (e7:FnAt K "raised" (top 54) fi)
  (eN:FnAt K "divided" (top 56) eW)
  (fq:FnAt K "times" (top 16) en)
  (gb:FnAt K "scaled" (top 27) fJ)
  (eD:FnAt K "lowest_terms" (top 59) dc)
  (eu:FnAt K "reaches" (top 60) fL)
  (dX:FnAt K "quotient_through" (top 61) du)
  (fG:FnAt K "_law_all" (top 70) cI)
  (e3:FnAt K "_law_due" (top 71) eI)
   (a50:VG K aj "law" = some (some (.ref cj))) (l50:K.lookup cj=some ⟨oc50,od50,.func (UK "law" "law" (BH (top 72)) (Bf (top 72)) (Af (top 72)) .none kV50 dc50 pm50 an50 cd50 ct50),sl50⟩) (c50:UL K cd50 "law" = true) (k50:Us K (.ref cj)=true)
   (z_len:VG K aj "len" = some none)
   (z_abs:VG K aj "abs" = some none)
   (z_range:VG K aj "range" = some none)
   (z_isinstance:VG K aj "isinstance" = some none)
   (z_ValueError:VG K aj "ValueError" = some none)
   (z_sum:VG K aj "sum" = some none)
   (z_int:VG K aj "int" = some none)
   (z_set:VG K aj "set" = some none)
   (z_reversed:VG K aj "reversed" = some none)
   (z_zip:VG K aj "zip" = some none)
   (z_tuple:VG K aj "tuple" = some none)
   (z_sorted:VG K aj "sorted" = some none)
   (z_list:VG K aj "list" = some none)
 {bF:Tok} (x_MOST_TOLD:VG K aj "MOST_TOLD" = some (some (.int 12 bF)))
 {bp:aa} {bq:Obj} {bB:Array ac} {cb:Nat} (x_NOUGHT:VG K aj "NOUGHT" = some (some (.ref bp))) (y_NOUGHT:K.lookup bp=some bq) (w_NOUGHT:bq.cls = .type "tuple") (d_NOUGHT:bq.data = .seq bB cb) (e_NOUGHT:bB.toList.map Mo=[some (.int (0:Rat).num),some (.int ((0:Rat).den:Int))])
 {bd:aa} (nx_CurveError:VG K aj "CurveError" = some (some (.ref bd)))
 {ap:aa} (nx_TooMany:VG K aj "TooMany" = some (some (.ref ap)))
 {Y:aa} (nx_NoPoints:VG K aj "NoPoints" = some (some (.ref Y)))
 {as:aa} (nx_NoPoint:VG K aj "NoPoint" = some (some (.ref as)))
 {a0:aa} (nx_NoNumber:VG K aj "NoNumber" = some (some (.ref a0)))
 {aC:aa} (nx_NoCurve:VG K aj "NoCurve" = some (some (.ref aC)))
 {J:aa} (nx_NoStretch:VG K aj "NoStretch" = some (some (.ref J)))
 {an:aa} (nx_TooDeep:VG K aj "TooDeep" = some (some (.ref an)))
 {O:aa} (nx_TooFew:VG K aj "TooFew" = some (some (.ref O)))
 {aF:aa} (nx_NoText:VG K aj "NoText" = some (some (.ref aF)))
 {bb:aa} (nx_NoRow:VG K aj "NoRow" = some (some (.ref bb)))
 {bm0NoPoints N0NoPoints nm0NoPoints q0NoPoints bs0NoPoints hd0NoPoints sn0NoPoints sub0NoPoints ab0NoPoints col0NoPoints dd0NoPoints j0NoPoints j1NoPoints j2NoPoints j3NoPoints j5NoPoints} (xl_NoPoints:K.lookup Y=some (PySem.excClassObj nm0NoPoints q0NoPoints Y N0NoPoints bs0NoPoints bm0NoPoints hd0NoPoints sn0NoPoints sub0NoPoints ab0NoPoints col0NoPoints dd0NoPoints j0NoPoints j1NoPoints j2NoPoints j3NoPoints j5NoPoints "ValueError.__new__"))
  (xex_NoPoints:VH K Y [.type "ValueError",.type "Exception",.type "BaseException",.type "object"] "ValueError.__new__" = true)
  (xga_NoPoints:Uq K (.ref Y) "__getattribute__" = some (some (.builtin "BaseException.__getattribute__"))) (xgt_NoPoints:Uq K (.ref Y) "__getattr__" = some none) (xca_NoPoints:Uq K (.ref Y) "__class__" = some (some (.builtin "object.__class__")))
  (xob_NoPoints:Ut K Y (.type "object")=some true) (xbe_NoPoints:Ut K Y (.type "BaseException")=some true)
  (xm_NoPoints:Wt K (.ref Y) (.ref bd)=some true) (xv_NoPoints:VC K (.ref Y) (.type "ValueError")=some true)
  (ka_NoPoints:X3 K (.ref Y) [.ref aC,.ref as,.ref bb,.ref J,.ref aF,.ref an,.ref ap]=some false)
  (xk_NoPoints_0:VC K (.ref Y) (.ref ap)=some false)
  (xk_NoPoints_1:VC K (.ref Y) (.ref Y)=some true)
  (xk_NoPoints_2:VC K (.ref Y) (.ref as)=some false)
  (xk_NoPoints_3:VC K (.ref Y) (.ref a0)=some false)
  (xk_NoPoints_4:VC K (.ref Y) (.ref aC)=some false)
  (xk_NoPoints_5:VC K (.ref Y) (.ref J)=some false)
  (xk_NoPoints_6:VC K (.ref Y) (.ref an)=some false)
  (xk_NoPoints_7:VC K (.ref Y) (.ref O)=some false)
  (xk_NoPoints_8:VC K (.ref Y) (.ref aF)=some false)
  (xk_NoPoints_9:VC K (.ref Y) (.ref bb)=some false)
 {bm0TooFew N0TooFew nm0TooFew q0TooFew bs0TooFew hd0TooFew sn0TooFew sub0TooFew ab0TooFew col0TooFew dd0TooFew j0TooFew j1TooFew j2TooFew j3TooFew j5TooFew} (xl_TooFew:K.lookup O=some (PySem.excClassObj nm0TooFew q0TooFew O N0TooFew bs0TooFew bm0TooFew hd0TooFew sn0TooFew sub0TooFew ab0TooFew col0TooFew dd0TooFew j0TooFew j1TooFew j2TooFew j3TooFew j5TooFew "ValueError.__new__"))
  (xex_TooFew:VH K O [.type "ValueError",.type "Exception",.type "BaseException",.type "object"] "ValueError.__new__" = true)
  (xga_TooFew:Uq K (.ref O) "__getattribute__" = some (some (.builtin "BaseException.__getattribute__"))) (xgt_TooFew:Uq K (.ref O) "__getattr__" = some none) (xca_TooFew:Uq K (.ref O) "__class__" = some (some (.builtin "object.__class__")))
  (xob_TooFew:Ut K O (.type "object")=some true) (xbe_TooFew:Ut K O (.type "BaseException")=some true)
  (xm_TooFew:Wt K (.ref O) (.ref bd)=some true) (xv_TooFew:VC K (.ref O) (.type "ValueError")=some true)
  (ka_TooFew:X3 K (.ref O) [.ref aC,.ref as,.ref bb,.ref J,.ref aF,.ref an,.ref ap]=some false)
  (xk_TooFew_0:VC K (.ref O) (.ref ap)=some false)
  (xk_TooFew_1:VC K (.ref O) (.ref Y)=some false)
  (xk_TooFew_2:VC K (.ref O) (.ref as)=some false)
  (xk_TooFew_3:VC K (.ref O) (.ref a0)=some false)
  (xk_TooFew_4:VC K (.ref O) (.ref aC)=some false)
  (xk_TooFew_5:VC K (.ref O) (.ref J)=some false)
  (xk_TooFew_6:VC K (.ref O) (.ref an)=some false)
  (xk_TooFew_7:VC K (.ref O) (.ref O)=some true)
  (xk_TooFew_8:VC K (.ref O) (.ref aF)=some false)
  (xk_TooFew_9:VC K (.ref O) (.ref bb)=some false)
  (xgg:Ur K (.builtin "object.__class__") "__get__" = some (some (.builtin "getset_descriptor.__get__"))) (xtk:PySem.W.takesIn K (.builtin "object.__class__")=some true)
  (h35:Dh K cJ 268=true)
  (h48:Dh K cI 449=true)
  (h50:Dh K cj 463=true) :
 ∃(fd:ag),(∀Pt∈([449,268,463]:List aa),∃c,Wn K c Pt=true)/\(∀(s:ae) (v:ac),BindsTo s fd ⟨[v],[]⟩ [("_law_script",v)])/\∀base:au,K.In base->base.Ns aj mg->Bm mg base->Ay l.prog w K mg base CX0 50 fa fd ["_law_script"] (EU K):=by
 obtain⟨_,F1,B1,k1,m1⟩:=q1.b2 X G "_law_script" "_law_k";obtain⟨_,F2,B2,k2,m2⟩:=q2.b2 X G "_law_top" "_law_bottom";obtain⟨_,F3,B3,k3,m3⟩:=q3.b2 X G "_law_pen_here" "_law_many";obtain⟨_,F4,B4,k4,m4⟩:=q4.b1 X G "_law_pen_here";obtain⟨_,F5,B5,k5,m5⟩:=q5.b2 X G "_law_a" "_law_b";obtain⟨_,F6,B6,k6,m6⟩:=q6.b2 X G "_law_pen_here" "_law_many";obtain⟨_,F7,B7,k7,m7⟩:=q7.b1 X G "_law_asked";obtain⟨_,F8,B8,k8,m8⟩:=q8.b1 X G "places";obtain⟨_,F9,B9,k9,m9⟩:=q9.b2 X G "places" "fewest";obtain⟨_,cF,cn,k10,cv⟩:=fC.b2 X G "places" "heights";obtain⟨_,cY,eC,k11,df⟩:=cP.b2 X G "tops" "x";obtain⟨_,eG,ei,k12,eU⟩:=eF.b3 X G "pair" "x" "y";obtain⟨_,eX,fR,k13,e0⟩:=fM.b2 X G "pair" "x";obtain⟨_,ef,dv,k14,fc⟩:=ey.b2 X G "one" "other";obtain⟨_,fY,fu,k15,eJ⟩:=dJ.b1 X G "tops";obtain⟨_,ff,dD,k16,et⟩:=eH.b3 X G "both" "x" "y";obtain⟨_,cM,dC,k17,eO⟩:=fD.b1 X G "numbers";obtain⟨_,er,fe,k18,fV⟩:=fx.b2 X G "top" "bottom";obtain⟨_,dj,dF,k19,gd⟩:=eP.b2 X G "tops" "bottom";obtain⟨_,ee,gj,k20,eK⟩:=dR.b3 X G "places" "heights" "width";obtain⟨_,f0,cV,k21,fk⟩:=eV.b1 X G "numbers";obtain⟨_,dN,fh,k22,eB⟩:=ec.b2 X G "numbers" "bottom";obtain⟨_,fl,dk,k23,ew⟩:=fv.b2 X G "first" "second";obtain⟨_,dS,ez,k24,d3⟩:=dY.b2 X G "knots" "steps";obtain⟨_,fS,e2,k25,d2⟩:=eY.b1 X G "points";obtain⟨_,dZ,cU,k26,fE⟩:=de.b1 X G "points";obtain⟨_,eL,da,k27,fI⟩:=gc.b1 X G "points";obtain⟨_,fy,c0,k28,dt⟩:=fQ.b1 X G "points";obtain⟨_,eb,ga,k29,dO⟩:=gf.b2 X G "a" "b";obtain⟨_,fX,cW,k30,cZ⟩:=fW.b2 X G "a" "b";obtain⟨_,eQ,fb,k31,fo⟩:=dl.b4 X G "ahead" "knots" "slopes" "k";obtain⟨_,go,e8,k32,dq⟩:=eT.b1 X G "points";obtain⟨_,ek,dB,k33,fA⟩:=gn.b1 X G "points";obtain⟨_,gl,cN,k34,eo⟩:=di.b1 X G "points";obtain⟨_,eq,eh,k35,fN⟩:=cR.b1 X G "places";obtain⟨_,fU,el,k36,fH⟩:=dU.b2 X G "curve" "x";obtain⟨_,co,cw,k37,cp⟩:=dH.b4 X G "places" "heights" "width" "most";obtain⟨_,cr,cC,k38,cB⟩:=dG.b2 X G "places" "width";obtain⟨_,fK,dw,k39,dT⟩:=ft.b1 X G "places";obtain⟨_,dV,eR,k40,dK⟩:=d4.b2 X G "first" "second";obtain⟨_,eA,ed,k41,em⟩:=e7.b2 X G "base" "many";obtain⟨_,d9,fF,k42,gg⟩:=eN.b2 X G "one" "other";obtain⟨_,d1,dM,k43,dp⟩:=fq.b2 X G "a" "b";obtain⟨_,e5,dI,k44,e4⟩:=gb.b2 X G "curve" "number";obtain⟨_,dg,eg,k45,fZ⟩:=eD.b2 X G "pair" "places";obtain⟨_,e9,fP,k46,gm⟩:=eu.b3 X G "quotient" "x" "y";obtain⟨_,cu,cz,k47,cx⟩:=dX.b3 X G "places" "heights" "width";obtain⟨_,gi,dm,k48,ge⟩:=fG.b4 X G "_law_places_here" "_law_heights" "_law_width" "_law_most";obtain⟨_,db,dr,k49,d8⟩:=e3.b3 X G "_law_many" "_law_width" "_law_most";obtain⟨cL,cD⟩:=FV h35;obtain⟨cK,cm⟩:=FV h48;obtain⟨cH,cy⟩:=FV h50;have e:=fO.symm.trans (VI X G a50);cases e;have RF:=X7 X G z_len;have RN:=X7 X G z_abs;have RG:=X7 X G z_range;have RT:=X7 X G z_isinstance;have Se:=X7 X G z_ValueError;have cE:=X7 X G z_sum;have RO:=X7 X G z_int;have cq:=X7 X G z_set;have Sg:=X7 X G z_reversed;have RI:=X7 X G z_zip;have RK:=X7 X G z_tuple;have Sk:=X7 X G z_sorted;have RM:=X7 X G z_list;have bg:=VI X G x_MOST_TOLD;have ak:=VI X G x_NOUGHT;have al:∀H:Hp,AD K H (.ref bp) (0):=fun H=>⟨_,Z,Mj y_NOUGHT w_NOUGHT d_NOUGHT e_NOUGHT⟩;have cX:=Hj (st:=top 72) l50 c50 k50;refine⟨UK "law" "law" (BH (top 72)) (Bf (top 72)) (Af (top 72)) .none kV50 dc50 pm50 an50 cd50 ct50,R8 ⟨cK,cm⟩ ⟨cL,cD⟩ ⟨cH,cy⟩,fun s v=>.of_eq rfl,fun base _ _ cA=>?_⟩;have bx:=VI X G nx_CurveError;have b6:=VI X G nx_TooMany;have bW:=VI X G nx_NoPoints;have b0:=VI X G nx_NoPoint;have bN:=VI X G nx_NoNumber;have bZ:=VI X G nx_NoCurve;have bG:=VI X G nx_NoStretch;have bY:=VI X G nx_TooDeep;have ca:=VI X G nx_TooFew;have b9:=VI X G nx_NoText;have ci:=VI X G nx_NoRow;have bt:Ja K "NoPoints" Y:=⟨nx_NoPoints,⟨_,_,_,_,_,_,_,_,_,_,_,_,_,_,_,_,xl_NoPoints⟩,xex_NoPoints⟩;have bD:OJ K Y [ap,Y,as,a0,aC,J,an,O,aF,bb] 1:=⟨⟨xga_NoPoints,xgt_NoPoints,xca_NoPoints,xgg,xtk,xob_NoPoints,xbe_NoPoints,⟨_,_,_,_,xl_NoPoints⟩⟩,xv_NoPoints,fun i c h=>match i,h with | 0,h=>by cases h;exact xk_NoPoints_0 | 1,h=>by cases h;exact xk_NoPoints_1 | 2,h=>by cases h;exact xk_NoPoints_2 | 3,h=>by cases h;exact xk_NoPoints_3 | 4,h=>by cases h;exact xk_NoPoints_4 | 5,h=>by cases h;exact xk_NoPoints_5 | 6,h=>by cases h;exact xk_NoPoints_6 | 7,h=>by cases h;exact xk_NoPoints_7 | 8,h=>by cases h;exact xk_NoPoints_8 | 9,h=>by cases h;exact xk_NoPoints_9 | i+10,h=>nomatch h⟩
 have bn:Ja K "TooFew" O:=⟨nx_TooFew,⟨_,_,_,_,_,_,_,_,_,_,_,_,_,_,_,_,xl_TooFew⟩,xex_TooFew⟩;have b5:OJ K O [ap,Y,as,a0,aC,J,an,O,aF,bb] 7:=⟨⟨xga_TooFew,xgt_TooFew,xca_TooFew,xgg,xtk,xob_TooFew,xbe_TooFew,⟨_,_,_,_,xl_TooFew⟩⟩,xv_TooFew,fun i c h=>match i,h with | 0,h=>by cases h;exact xk_TooFew_0 | 1,h=>by cases h;exact xk_TooFew_1 | 2,h=>by cases h;exact xk_TooFew_2 | 3,h=>by cases h;exact xk_TooFew_3 | 4,h=>by cases h;exact xk_TooFew_4 | 5,h=>by cases h;exact xk_TooFew_5 | 6,h=>by cases h;exact xk_TooFew_6 | 7,h=>by cases h;exact xk_TooFew_7 | 8,h=>by cases h;exact xk_TooFew_8 | 9,h=>by cases h;exact xk_TooFew_9 | i+10,h=>nomatch h⟩
 have Tp:=fdm w base (Ju F1 RF hT) B1 k1 (m1);have SH:=fdm w base (GX F2 RN hT) B2 k2 (m2);have SI:=fdm w base (IW F3 hT) B3 k3 (m3);have Tq:=fdm w base (GW F4 SH SI hT) B4 k4 (m4);have Tr:=fdm w base (IV F5 SH hT) B5 k5 (m5);have Ts:=fdm w base (GV F6 Tq Tr RG hT) B6 k6 (m6);have SJ:=fdm w base (Gj F7 bx b6 bW b0 bN bZ bG bY ca b9 ci  xm_NoPoints bD ka_NoPoints xm_TooFew b5 ka_TooFew RT Se cE RO hT) B7 k7 (m7);have Sn:=fdm w base (HA F8 RF cq hT) B8 k8 (m8);have RX:=fdm w base (DT F9 Sn RF bg hT) B9 k9 (m9);have be:Ay l.prog w K mg base (CX2 l.prog w) 34 _ _ ["places","fewest"] (EE K Y):=FK (base:=base) (w:=w) F9 bt Sn RF bg hT;have cf:FdY l.prog w K mg base 34 "check_places" ["places","fewest"] (EE K Y):=⟨_,_,be,B9,k9,m9⟩;have bh:FdY l.prog w K mg base 34 "check_places" ["places","fewest"] (fun vs H Q E=>(CH K:Sp) vs H Q E\/(EE K Y:Sp) vs H Q E):=⟨_,_,(DT F9 Sn RF bg hT).calm.or be,B9,k9,m9⟩;have RY:=fdm w base (Dr cF RX RF hT) cn k10 (cv);have bc:Ay l.prog w K mg base (CX2 l.prog w) 35 _ _ ["places","heights"] (DC K Y):=Fc (base:=base) (w:=w) cF bt bh RX RF hT;have ce:FdY l.prog w K mg base 35 "check_heights" ["places","heights"] (DC K Y):=⟨_,_,bc,cn,k10,cv⟩;have bf:FdY l.prog w K mg base 35 "check_heights" ["places","heights"] (fun vs H Q E=>(Co K:Sp) vs H Q E\/(DC K Y:Sp) vs H Q E):=⟨_,_,(Dr cF RX RF hT).calm.or bc,cn,k10,cv⟩;have SK:=fdm w base (Gg cY Sg hT) eC k11 (df);have Tt:=fdm w base (Kr eG SK RF hT) ei k12 (eU);have Tu:=fdm w base (Ff eX RG RF hT) fR k13 (e0);have So:=fdm w base (Fh ef RN hT) dv k14 (fc);have Tv:=fdm w base (Fe fY So hT) fu k15 (eJ);have Tw:=fdm w base (IU ff Tt Tu Tv RI hT) dD k16 (et);have SM:=fdm w base (Js cM RF RK ak al hT) dC k17 (eO);have S7:=fdm w base (IM er So hT) fe k18 (fV);have Sr:=fdm w base (Hz dj SM S7 hT) dF k19 (gd);have RZ:=fdm w base (Gh ee Tw Sr RI RF hT) gj k20 (eK);have Sd:=fdm w base (IT f0 So hT) cV k21 (fk);have Ss:=fdm w base (IK dN hT) fh k22 (eB);have Tx:=fdm w base (FL fl RG RF hT) dk k23 (ew);have S9:=fdm w base (Jt dS Sd Ss Sr Tx RG RF hT) ez k24 (d3);have Tz:=fdm w base (Kp fS RG RF hT) e2 k25 (d2);have SN:=fdm w base (Jr dZ Tz hT) cU k26 (fE);have TC:=fdm w base (IL eL RF hT) da k27 (fI);have TF:=fdm w base (IS fy RF hT) c0 k28 (dt);have b7:=fdm w base (Oh eb S7 hT) ga k29 (dO);have cg:=fdm w base (MV fX S7 hT) cW k30 (cZ);have TH:=fdm w base (Jq eQ b7 cg RG RF hT) fb k31 (fo);have TJ:=fdm w base (Jo go SN TC TF TH RG RF hT) e8 k32 (dq);have TK:=fdm w base (Jp ek TJ hT) dB k33 (fA);have Su:=fdm w base (FN gl S9 SN TK hT) cN k34 (eo);have S1:=fdm w base (M4 eq Sd Sk hT cA h35) eh k35 (fN);have RS:=fdm w base (IQ fU Sd SK S7 Ss hT) el k36 (fH);have SO:=fdm w base (HS co RY RZ Su S1 RS RM RF RI RK ak al hT) cw k37 (cp);have bw:Ay l.prog w K mg base (CX2 l.prog w) 40 _ _ ["places","heights","width","most"] (DY K Y O):=Ko (base:=base) (w:=w) co bn bf RY RZ Su S1 RS RM RF RI RK ak al hT;have cG:FdY l.prog w K mg base 40 "judged" ["places","heights","width","most"] (DY K Y O):=⟨_,_,bw,cw,k37,cp⟩;have bC:FdY l.prog w K mg base 40 "judged" ["places","heights","width","most"] (fun vs H Q E=>(Ct K 268:Sp) vs H Q E\/(DY K Y O:Sp) vs H Q E):=⟨_,_,(HS co RY RZ Su S1 RS RM RF RI RK ak al hT).calm.or bw,cw,k37,cp⟩;have SQ:=fdm w base (Gd cr RX S9 RS RF ak al hT) cC k38 (cB);have bl:Ay l.prog w K mg base (CX2 l.prog w) 37 _ _ ["places","width"] (DZ K Y O):=IJ (base:=base) (w:=w) cr bn bh RX S9 RS RF ak al hT;have ck:FdY l.prog w K mg base 37 "doubtful" ["places","width"] (DZ K Y O):=⟨_,_,bl,cC,k38,cB⟩;have bu:FdY l.prog w K mg base 37 "doubtful" ["places","width"] (fun vs H Q E=>(CY K:Sp) vs H Q E\/(DZ K Y O:Sp) vs H Q E):=⟨_,_,(Gd cr RX S9 RS RF ak al hT).calm.or bl,cC,k38,cB⟩;have TL:=fdm w base (IP fK S9 RF ak al hT) dw k39 (dT);have TM:=fdm w base (Fg dV RM RG RF hT) eR k40 (dK);have cc:=fdm w base (M5 eA RG hT) ed k41 (em);have TN:=fdm w base (Ks d9 Sd Ss TM Sr cc RF hT) fF k42 (gg);have SR:=fdm w base (MU d1 S7 hT) dM k43 (dp);have b8:=fdm w base (M3 e5 SM SR hT) dI k44 (e4);have Sv:=fdm w base (Gi dg TL b7 TN b8 RS ak al hT) eg k45 (fZ);have Sw:=fdm w base (Kq e9 RS SR ak al hT) fP k46 (gm);have SS:=fdm w base (CF cu RY Sv RZ S1 Sw RF RI hT) cz k47 (cx);have aP:Ay l.prog w K mg base (CX2 l.prog w) 39 _ _ ["places","heights","width"] (DX K Y O):=Ea (base:=base) (w:=w) cu bn bf RY Sv RZ S1 Sw RF RI hT;have bX:FdY l.prog w K mg base 39 "quotient_through" ["places","heights","width"] (DX K Y O):=⟨_,_,aP,cz,k47,cx⟩;have ba:FdY l.prog w K mg base 39 "quotient_through" ["places","heights","width"] (fun vs H Q E=>(FW K 268:Sp) vs H Q E\/(DX K Y O:Sp) vs H Q E):=⟨_,_,(CF cu RY Sv RZ S1 Sw RF RI hT).calm.or aP,cz,k47,cx⟩;have TQ:=fdm w base (Jw gi bC bu ba SJ SO SQ SS hT cA h48) dm k48 (ge);have TR:=fdm w base (Jv db RO hT) dr k49 (d8);exact PJ cX bC bu ba Tp Ts SI SJ TQ TR SQ SS SO RF RG hT cA h50
theorem Rk{l:WK}{q:ai}{J:List Str}{XP:(Str->Option ac)->au->Prop}{d:DefRec}{K:Params->U5}{as:List aa}{e:∀P,as=(K P).map (·.1)}(hI:PyProof.Rows.importsNone q=true)(hn:l.most=some 63)(ak:d.params.defaults=[])(O:(as.contains 449||as.contains 268||as.contains 463)=false)
 (F:∀(w:ar) (mg:Str->Option ac) (fa:aa) (h:au),(K w.params).In h->h.Ns aj mg->mg d.name=some (.ref fa) ->
  ∃(fd:ag),(∀Pt∈([449,268,463]:List aa),∃c,Wn (K w.params) c Pt=true)/\(∀(s:ae) (u:ac),BindsTo s fd ⟨[u],[]⟩ [("_law_script",u)])/\∀base:au,(K w.params).In base->base.Ns aj mg->Bm mg base->Ay l.prog w (K w.params) mg base CX0 50 fa fd ["_law_script"] ((fun(K:U5)=>(EU K:Sp)) (K w.params))) :
 PySem.W.WalkO q J XP (PySem.W.kmHook K as e [449,268,463]).says l.row.toRowW d [] (fun f vs=>PySem.call f vs):=by
 rw[Bool.or_eq_false_iff,Bool.or_eq_false_iff]at O;exact L2.LK (n:=63) (k:=50) (x:="_law_script") (Pts:=[449,268,463]) (CX:=fun _=>CX0) (sp:=fun w=>(fun(K:U5)=>(EU K:Sp)) (K w.params)) hI hn (by decide) ak ⟨Z,by decide,by decide⟩ (fun w h Y=>⟨PySem.W.km_in_of Y,fun Pt hm=>⟨PySem.W.km_tabs_of Y _ hm,R8 (P:=fun Pt=>(K w.params).lookup Pt=none) (IX (e _) O.1.1) (IX (e _) O.1.2) (IX (e _) O.2) Pt hm⟩⟩) F (fun _ _ a ns hl _ hS hP=>⟨a,ns,Z,hS,hl,hP 268 (by decide),hP 449 (by decide),hP 463 (by decide),fun _=>rfl⟩) fun _ _ _ _ _ z=>z
end Pf
inductive PySem.W.Fast:Prop
 | tw7741008312602138793 | tw11481885130423361493 | tw14366108272458786912 | tw13451726404020821352 | tw9832456796946080560 | tw9296918033717635645 | tw6462942494681691137 | tw10441260289898322749
 | tw5996405249095445232 | tw7794461839951903103 | tw6111064970695808262 | tw11030382951374048591 | tw14974826835115796679 | tw10101671337462240390 | tw13363856560614862364 | tw6764588820777138815
 | tw16533776429703431668 | tw5445074430234109526 | tw15369457034543002803 | tw13318899662720169176 | tw9720496725043511555 | tw13924371760795703111 | tw10315733477547272105 | tw7508806217484142145
 | tw4921021279572859179 | tw6768447794682663120 | tw11937170133976044779 | tw10617609525465153881 | tw2887676254811720291 | tw14316339469209705245 | tw16032505964028152397 | tw4998451037435422727
 | tw5454011139547469867 | tw3929794225434069257 | tw17001927951316677554 | tw15792981790855703821 | tw9934272899985877550 | tw17156287557029381925 | tw8716372061139727069 | tw17448640442752942059
 | tw11881217879190509325 | tw9667250745090212610 | tw9551285263656735442 | tw17620840924794556993 | tw16903710178063482582 | tw12743519977143219804 | tw16073769632988597560 | tw468430252686194640
 | tw18092553389736036186 | tw8028839794079770093 | tw11817195496011680815 | tw16044317965083760358 | tw9338633066704663701 | tw1957077152143014164 | tw9041848119809984060 | tw5732542024660781327
 | tw16186069115044394324 | tw6994588063195672546 | tw5816383684345691924 | tw9483680454155580447 | tw17027759782285544295 | tw15790561783056460616 | tw10605073595461618951 | tw6112779588468465110
 | tw6386609819850851640 | tw2029693422584365886 | tw1407468499740963232 | tw15298592376168239202 | tw12274070214581323785 | tw12962152173145777804 | tw9522710763437870005 | tw5921241296549518214
 | tw15266120642154658920 | tw414837309904917966 | tw17954155768729645049 | tw7959479339241996854 | tw11419240023461056414 | tw533184516917171092 | tw14688823793105593832 | tw6841632595703064014
 | tw5122945675974304841 | tw4534097737810631380 | tw4969627587331370018 | tw2299666867915494426 | tw10075387511854766042 | tw7967480747119755598 | tw9267595385237663402 | tw5105316884345964273
 | tw6826236214503093955 | tw15115437311950447866 | tw5080908623818317393 | tw5937541079131887127 | tw8869493470356070690 | tw17531099715692753017 | tw2321586878544005809 | tw12207320159849752217
 | tw18144314180791946688 | tw6917434713918809953 | tw10159328224627852085 | tw9645620495543603449 | tw17982912479303835634 | tw14720270136451496547 | tw14556728674875934320 | tw15521562213655638368
 | tw885163956253341760 | tw13813403635800701510 | tw3036218806414722387 | tw11631808975027293345 | tw6700625442479513537 | tw9589755927124201198 | tw18235039395601432073 | tw7414717836250847484
 | tw4017797347825427785
open PySem PySem.W PyProof.Rows
set_option maxRecDepth 100000 in
set_option maxHeartbeats 0 in
theorem PySem.Challenge.cw_onecurve_k49_places_refused_holds : PySem.Challenge.rw_onecurve_k49_places_refused.Holds := by
 w_on;o_law;k_head;(case hw=>w_witness2)
 k_fill
 refine Pf.Rk (l:=PySem.Challenge.rw_onecurve_k49_places_refused) (by decide +kernel) rfl rfl rfl ?F
 case F =>
  intro w mg fa h KX G hmg
  refine' Pf.Qk rfl KX G hmg (.mk ?a1 ?l1 ?c1 ?k1) (.mk ?a2 ?l2 ?c2 ?k2) (.mk ?a3 ?l3 ?c3 ?k3) (.mk ?a4 ?l4 ?c4 ?k4) (.mk ?a5 ?l5 ?c5 ?k5) (.mk ?a6 ?l6 ?c6 ?k6) (.mk ?a7 ?l7 ?c7 ?k7) (.mk ?a8 ?l8 ?c8 ?k8) (.mk ?a9 ?l9 ?c9 ?k9) (.mk ?a10 ?l10 ?c10 ?k10) (.mk ?a11 ?l11 ?c11 ?k11) (.mk ?a12 ?l12 ?c12 ?k12) (.mk ?a13 ?l13 ?c13 ?k13) (.mk ?a14 ?l14 ?c14 ?k14) (.mk ?a15 ?l15 ?c15 ?k15) (.mk ?a16 ?l16 ?c16 ?k16) (.mk ?a17 ?l17 ?c17 ?k17) (.mk ?a18 ?l18 ?c18 ?k18) (.mk ?a19 ?l19 ?c19 ?k19) (.mk ?a20 ?l20 ?c20 ?k20) (.mk ?a21 ?l21 ?c21 ?k21) (.mk ?a22 ?l22 ?c22 ?k22) (.mk ?a23 ?l23 ?c23 ?k23) (.mk ?a24 ?l24 ?c24 ?k24) (.mk ?a25 ?l25 ?c25 ?k25) (.mk ?a26 ?l26 ?c26 ?k26) (.mk ?a27 ?l27 ?c27 ?k27) (.mk ?a28 ?l28 ?c28 ?k28) (.mk ?a29 ?l29 ?c29 ?k29) (.mk ?a30 ?l30 ?c30 ?k30) (.mk ?a31 ?l31 ?c31 ?k31) (.mk ?a32 ?l32 ?c32 ?k32) (.mk ?a33 ?l33 ?c33 ?k33) (.mk ?a34 ?l34 ?c34 ?k34) (.mk ?a35 ?l35 ?c35 ?k35) (.mk ?a36 ?l36 ?c36 ?k36) (.mk ?a37 ?l37 ?c37 ?k37) (.mk ?a38 ?l38 ?c38 ?k38) (.mk ?a39 ?l39 ?c39 ?k39) (.mk ?a40 ?l40 ?c40 ?k40) (.mk ?a41 ?l41 ?c41 ?k41) (.mk ?a42 ?l42 ?c42 ?k42) (.mk ?a43 ?l43 ?c43 ?k43) (.mk ?a44 ?l44 ?c44 ?k44) (.mk ?a45 ?l45 ?c45 ?k45) (.mk ?a46 ?l46 ?c46 ?k46) (.mk ?a47 ?l47 ?c47 ?k47) (.mk ?a48 ?l48 ?c48 ?k48) (.mk ?a49 ?l49 ?c49 ?k49) ?a50 ?l50 ?c50 ?k50 ?z_len ?z_abs ?z_range ?z_isinstance ?z_ValueError ?z_sum ?z_int ?z_set ?z_reversed ?z_zip ?z_tuple ?z_sorted ?z_list ?x_MOST_TOLD ?x_NOUGHT ?y_NOUGHT ?w_NOUGHT ?d_NOUGHT ?e_NOUGHT ?nx_CurveError ?nx_TooMany ?nx_NoPoints ?nx_NoPoint ?nx_NoNumber ?nx_NoCurve ?nx_NoStretch ?nx_TooDeep ?nx_TooFew ?nx_NoText ?nx_NoRow ?xl_NoPoints ?xex_NoPoints ?xga_NoPoints ?xgt_NoPoints ?xca_NoPoints ?xob_NoPoints ?xbe_NoPoints ?xm_NoPoints ?xv_NoPoints ?ka_NoPoints ?xk_NoPoints_0 ?xk_NoPoints_1 ?xk_NoPoints_2 ?xk_NoPoints_3 ?xk_NoPoints_4 ?xk_NoPoints_5 ?xk_NoPoints_6 ?xk_NoPoints_7 ?xk_NoPoints_8 ?xk_NoPoints_9 ?xl_TooFew ?xex_TooFew ?xga_TooFew ?xgt_TooFew ?xca_TooFew ?xob_TooFew ?xbe_TooFew ?xm_TooFew ?xv_TooFew ?ka_TooFew ?xk_TooFew_0 ?xk_TooFew_1 ?xk_TooFew_2 ?xk_TooFew_3 ?xk_TooFew_4 ?xk_TooFew_5 ?xk_TooFew_6 ?xk_TooFew_7 ?xk_TooFew_8 ?xk_TooFew_9 ?xgg ?xtk ?h35 ?h48 ?h50
  case a1 | l1 | c1 | k1 | a2 | l2 | c2 | k2 | a3 | l3 | c3 | k3 | a4 | l4 | c4 | k4 | a5 | l5 | c5 | k5 | a6 | l6 | c6 | k6 | a7 | l7 | c7 | k7 | a8 | l8 | c8 | k8 | a9 | l9 | c9 | k9 | a10 | l10 | c10 | k10 | a11 | l11 | c11 | k11 | a12 | l12 | c12 | k12 | a13 | l13 | c13 | k13 | a14 | l14 | c14 | k14 | a15 | l15 | c15 | k15 | a16 | l16 | c16 | k16 | a17 | l17 | c17 | k17 | a18 | l18 | c18 | k18 | a19 | l19 | c19 | k19 | a20 | l20 | c20 | k20 | a21 | l21 | c21 | k21 | a22 | l22 | c22 | k22 | a23 | l23 | c23 | k23 | a24 | l24 | c24 | k24 | a25 | l25 | c25 | k25 | a26 | l26 | c26 | k26 | a27 | l27 | c27 | k27 | a28 | l28 | c28 | k28 | a29 | l29 | c29 | k29 | a30 | l30 | c30 | k30 | a31 | l31 | c31 | k31 | a32 | l32 | c32 | k32 | a33 | l33 | c33 | k33 | a34 | l34 | c34 | k34 | a35 | l35 | c35 | k35 | a36 | l36 | c36 | k36 | a37 | l37 | c37 | k37 | a38 | l38 | c38 | k38 | a39 | l39 | c39 | k39 | a40 | l40 | c40 | k40 | a41 | l41 | c41 | k41 | a42 | l42 | c42 | k42 | a43 | l43 | c43 | k43 | a44 | l44 | c44 | k44 | a45 | l45 | c45 | k45 | a46 | l46 | c46 | k46 | a47 | l47 | c47 | k47 | a48 | l48 | c48 | k48 | a49 | l49 | c49 | k49 | a50 | l50 | c50 | k50 | z_len | z_abs | z_range | z_isinstance | z_ValueError | z_sum | z_int | z_set | z_reversed | z_zip | z_tuple | z_sorted | z_list | x_MOST_TOLD | x_NOUGHT | y_NOUGHT=>k_is
  case w_NOUGHT | d_NOUGHT | e_NOUGHT=>rfl
  case nx_CurveError | nx_TooMany | nx_NoPoints | nx_NoPoint | nx_NoNumber | nx_NoCurve | nx_NoStretch | nx_TooDeep | nx_TooFew | nx_NoText | nx_NoRow | xl_NoPoints=>k_is
  case xex_NoPoints=>k_exc
  case xga_NoPoints | xgt_NoPoints | xca_NoPoints | xob_NoPoints | xbe_NoPoints=>k_is
  case xm_NoPoints=>kts_exm
  case xv_NoPoints | ka_NoPoints | xk_NoPoints_0 | xk_NoPoints_1 | xk_NoPoints_2 | xk_NoPoints_3 | xk_NoPoints_4 | xk_NoPoints_5 | xk_NoPoints_6 | xk_NoPoints_7 | xk_NoPoints_8 | xk_NoPoints_9=>kit_is
  case xl_TooFew=>k_is
  case xex_TooFew=>k_exc
  case xga_TooFew | xgt_TooFew | xca_TooFew | xob_TooFew | xbe_TooFew=>k_is
  case xm_TooFew=>kts_exm
  case xv_TooFew | ka_TooFew | xk_TooFew_0 | xk_TooFew_1 | xk_TooFew_2 | xk_TooFew_3 | xk_TooFew_4 | xk_TooFew_5 | xk_TooFew_6 | xk_TooFew_7 | xk_TooFew_8 | xk_TooFew_9=>kit_is
  case xgg | xtk=>k_is
  case h35 | h48 | h50=>first | rfl | with_unfolding_all rfl
#print axioms PySem.Challenge.cw_onecurve_k49_places_refused_holds
