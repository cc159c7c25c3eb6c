import PyProof.Rows.All
import Lean
import PyProof.EqAt
import PyProof.EqKinds
import PyProof.TupleCall
import KE.KSortKey
import KE.KDictList
import KE.KLam
import KE.KNestM
import KE.RegKIsAll
import KE.RegKTryMore
import OpenK.KOwn
import KE.KRevIter
import KE.KRevSl
import KE.IntBitsLaws
import PySem.Challenge.RW_onecurve_k44_whole_curves_within_their_p
open PySem renaming Addr->ce,Value->cr,Shared->db,sizeLine->dl,FuncData->fT,starEach->fU,Program->fV,wpAny_bind->fW,mainGlobals->fX,World->fY,Around->fZ,wpAny->ge,model->gh,Heap->gi,wpAny_pure->gj,wpAny_mono->gn,eval->gu,bootBuiltins->gv,compareOp->gy,backTo->gC,wpAny_execs_nil->gF,wpAny_passesOwn->gG,Scope->gH,Stmt->gI,sysModules->gJ,SetTable->gK,attributeBase->gL,assignEach->gN,wpAny_Call_Name_kw->gO,foldedSetIterable->gQ,bindArgs->gR,behindInMarks->gS,binaryOp->gT,letOwnedTupleGo->gU,codeAny_mono->gW,wpAny_truthy_bool->gY,wpAny_newObj_type->gZ,Keyword->g4,sliceBounds->g5,wpAny_standAt->g6,NameKind->g7,codeAny->g8,call_meets->g9,rawInt->hG
open PyProof.Rows renaming AllBare->gP,assignInOrder_cons->gX
open Option renaming some->Zu,map_some->cg
open PySem.W renaming methodObj->Zv,hideAll->ZA,of_hideAll->ZC,Frag->ZE,findIn->ZV,specialIn->ZW,keepIn->ZX,fnOf->bK,codeIn->bM,OpenLaw->c3,kitOne->df,nsIn->dk,mg_of->dq,exmOne->eV,mg_none_of->fS
open Nat renaming lt_of_lt_of_le->Zw,lt_irrefl->Zx,ne_of_lt->Zy,le_trans->ZF,le_of_lt->ZH,le_refl->ZR,zero_le->ZU,min_eq_left->bO,mul_comm->bY,lt_of_le_of_lt->c5,lt_succ_self->cX,pow_le_pow_right->d5,pow_add->d7,pow_succ->d9,add_mul->dg,one_mul->dh,mul_le_mul_right->dj,sub_zero->du,mul_add->dA,one_le_two_pow->dF,zero_add->dJ,add_sub_cancel->dW,sub_self->dZ,mul_le_mul->eE,mul_one->eS,mul_le_mul_left->fG
open List renaming range->Zz,mem_range->ZD,filterMap_cons->ZI,mem_cons_self->ZJ,mem_cons_of_mem->ZK,mem_cons->ZL,mem_append->ZM,mem_append_left->ZN,getElem?_eq_some_iff->ZO,getElem?_set_self->ZP,getElem?_set_ne->ZQ,mem_filterMap->ZS,mem_append_right->ZT,append_nil->ZY,nodup_cons->ZZ,of_mem_zip->b5,replicate->b6,length->b7,length_take->b9,getElem?_append_right->bj,getElem?_replicate->bq,getElem?_append_left->bw,getElem?_map->bA,take_sublist->bC,mem_of_getElem?->bD,length_append->bH,length_map->bI,length_replicate->bJ,size_toArray->bQ,length_set->bR,replicate_succ->bS,flatten_cons->bU,append_assoc->bV,length_singleton->bW,map_cons->bZ,find?_cons->c7,any_cons->c8,length_cons->ck,length_nil->cq,length_pos_iff->cI,getElem?_cons_succ->cJ,map_set->cK,take_add_one->cL,map_append->cM,take_length->cN,eq_nil_of_length_eq_zero->cO,lookup_cons->cR,lookup->cT,getD_eq_getElem?_getD->cU,ext_getElem?->cV,getElem?_drop->cW,mem_singleton->cY,getElem?_eq_getElem->cZ,getElem_mem->d4,drop_zero->dt,getElem?_eq_none->dE,length_range->dH,getElem?_range->dI,map_map->dN,map_congr_left->dO,take_of_length_le->dQ,length_eq_zero_iff->dR,mem_map->eJ,getElem?_of_mem->eM,mem_of_mem_take->eO,range_succ->fm,filter_cons_of_neg->fq,filter_cons_of_pos->ft,mem_map_of_mem->fD,mem_replicate->fE,mem_flatten->fF,getElem_map->fH,take_zero->fO,mem_or_eq_of_mem_set->fP,drop_eq_nil_of_le->fQ,reverse_reverse->fR
open Int renaming toNat_natCast->bN,gcd->cu,mul_fdiv_cancel_left->cw,sign_eq_neg_one_of_neg->cy,one_mul->cz,sign_eq_one_of_pos->cA,mul_ne_zero->cD,natAbs_mul->d6,natAbs_add_le->da,sub_eq_add_neg->de,pow_zero->dw,pow_succ->dz,mul_comm->dS,mul_assoc->dU,eq_of_mul_eq_mul_left->dX,pow_ne_zero->dY,one_pow->e8,pow_mul->ee,pow_add->eA,mul_zero->eB,fdiv->eI,mul_neg_of_pos_of_neg->eX,mul_pos->eY,zero_mul->fu,le_refl->fB,natAbs_dvd_natAbs->fI,zero_add->fJ,emod_nonneg->fL,emod_lt_of_pos->fM,natCast_nonneg->fN
open Rat renaming divInt->cx,divInt_eq_div->cB,div_mul_cancel->cC,intCast_add->cE,intCast_mul->cF,pow_zero->cG,pow_succ->cH,mul_eq_zero->cP,mul_assoc->dB,mul_inv_cancel->dC,mul_one->dD,natCast_add->dG,mul_comm->dM,one_mul->dP,intCast_zero->eC,intCast_inj->eD,zero_mul->eR,div_def->fc,le_refl->fg,num_natCast->fh,den_natCast->fi,num_eq_zero->fj,num_nonneg->fk,mul_pos->fo,intCast_lt_intCast->fv,le_of_lt->fw,mul_nonneg->fz,inv_pos->fA,neg_num->fC,num->fK
open Array renaming getElem?_setIfInBounds_ne->eP,getElem?_eq_some_iff->eQ
theorem Z.{u}{Y:Sort u}{a:Y}:a=a:=rfl
theorem Yl{p:Prop}(h:p:=by lia):p:=h
theorem Yd{p:Prop}(h:p:=by decide):p:=h
theorem Yk{p:Prop}(h:p:=by decide +kernel):p:=h
theorem Yr{p:Prop}(h:p:=by rfl):p:=h
set_option Elab.async false
set_option linter.all false
set_option maxRecDepth 100000
namespace L2
open PySem PySem.Spec PyProof.Rows
abbrev Key:=Sum Int Str
def Mh:Key->cr->Bool
 | .inl k,v=>Value.isInt k v
 | .inr x,v=>Value.isStrOf x v
def Xa(w:fY):Key->Int
 | .inl k=>hashInt k
 | .inr x=>hashStr w x
theorem FF:∀{k:Key} {v:cr},Mh k v=true->(∃i t,k=Sum.inl i/\v=Value.int i t)\/(∃x t,k=Sum.inr x/\v=Value.str x t)
 | .inl i,v,h=>by
   obtain⟨t,e⟩:=Value.isInt_shape (k:=i) (v:=v) h;exact .inl ⟨i,t,Z,e⟩
 | .inr x,v,h=>by
   obtain⟨t,e⟩:=Value.isStrOf_shape (x:=x) (v:=v) h;exact .inr ⟨x,t,Z,e⟩
theorem Rp(i:Int)(t:Tok):Mh (.inl i) (.int i t)=true:=by simp[Mh,Value.isInt]
theorem Ro(x:Str)(t:Tok):Mh (.inr x) (.str x t)=true:=by simp[Mh,Value.isStrOf]
theorem VR(a b:Int):decide ((Sum.inl a:Key)=Sum.inl b)=(a == b):=by
 by_cases e:a=b
 ·subst e;simp
 ·have h:¬(Sum.inl a:Key)=Sum.inl b:=λq=>e (Sum.inl.inj q);rw[decide_eq_false h];exact(beq_eq_false_iff_ne.mpr e).symm
theorem VN(a b:Str):decide ((Sum.inr a:Key)=Sum.inr b)=decide (a=b):=by
 by_cases e:a=b
 ·subst e;simp
 ·have h:¬(Sum.inr a:Key)=Sum.inr b:=λq=>e (Sum.inr.inj q);rw[decide_eq_false h,decide_eq_false e]
theorem VP(a:Int)(b:Str):decide ((Sum.inl a:Key)=Sum.inr b)=false:=decide_eq_false (λq=>nomatch q)
theorem VO(a:Str)(b:Int):decide ((Sum.inr a:Key)=Sum.inl b)=false:=decide_eq_false (λq=>nomatch q)
def Gr(prog:fV)(w:fY):PySem.KeyKind prog w Key where
 is:=Mh
 hash:=Xa w
 inj:=λv a b ha hb=>by
  rcases FF ha with ⟨i,t,rfl,rfl⟩ | ⟨x,t,rfl,rfl⟩
  ·rcases FF hb with ⟨j,u,rfl,e⟩ | ⟨y,u,rfl,e⟩
   ·injection e with e1 _;rw[e1]
   ·exact nomatch e
  ·rcases FF hb with ⟨j,u,rfl,e⟩ | ⟨y,u,rfl,e⟩
   ·exact nomatch e
   ·injection e with e1 _;rw[e1]
 byValue:=λk v h=>by
  rcases FF h with ⟨i,t,rfl,rfl⟩ | ⟨x,t,rfl,rfl⟩<;>rfl
 pyHash:=λhv h=>by
  rcases FF hv with ⟨i,t,rfl,rfl⟩ | ⟨x,t,rfl,rfl⟩
  ·exact wpAny_pyHash_int h
  ·exact wpAny_pyHash_str h
 eqBool:=λhu hv h=>by
  rcases FF hu with ⟨i,t,rfl,rfl⟩ | ⟨x,t,rfl,rfl⟩
  ·rcases FF hv with ⟨j,u,rfl,rfl⟩ | ⟨y,u,rfl,rfl⟩
   ·rw[VR]at h;exact wpAny_eqBool_int h
   ·rw[VP]at h;exact SeqAt.EqAt.int_str i t y u _ _ _ _ h
  ·rcases FF hv with ⟨j,u,rfl,rfl⟩ | ⟨y,u,rfl,rfl⟩
   ·rw[VO]at h;exact SeqAt.EqAt.str_int x t j u _ _ _ _ h
   ·rw[VN]at h;exact wpAny_eqBool_str h
 «strs»:=λk x t v h=>by
  rcases FF h with ⟨i,u,rfl,e⟩ | ⟨y,u,rfl,e⟩
  ·exact nomatch e
  ·injection e with e1 _
   subst e1;cases v<;>rfl
theorem O8(prog:fV)(w:fY)(i:Int)(t:Tok):(Gr prog w).is (.inl i) (.int i t)=true:=Rp i t
theorem O7(prog:fV)(w:fY)(x:Str)(t:Tok):(Gr prog w).is (.inr x) (.str x t)=true:=Ro x t
inductive V where
 | non | bl (b:Bool) | int (i:Int) | str (x:Str) | byt (b:Array UInt8) | flt (b:UInt64) | ref (a:ce) | ty (n:String)
 deriving DecidableEq
def Fg:V->cr->Prop
 | .non,u=>u=Value.none
 | .bl b,u=>u=Value.bool b
 | .int i,u=>∃t,u=Value.int i t
 | .str x,u=>∃t,u=Value.str x t
 | .byt b,u=>∃t,u=Value.bytes b t
 | .flt b,u=>∃t,u=Value.float b t
 | .ref a,u=>u=Value.ref a
 | .ty n,u=>u=Value.type n
abbrev EN:List V->List cr->Prop:=Paired Fg
theorem EN.length(r:EN xs us):xs.length=us.length:=Paired.length r
theorem EN.get:∀{xs:List V} {us:List cr} {i:Nat} {x:V},EN xs us->xs[i]? = some x->∃u,us[i]? = some u/\Fg x u
 | _,_,_,_,.nil,e=>by simp at e
 | _,_,0,_,.cons r _,e=>by simp at e;subst e;exact⟨_,Z,r⟩
 | _,_,i+1,x,.cons _ t,e=>by
   obtain⟨u,h1,h2⟩:=EN.get (i:=i) (x:=x) t (by simpa using e)
   exact⟨u,by simpa using h1,h2⟩
theorem EN.set(r:Fg x u):∀{xs:List V} {us:List cr} (i:Nat),EN xs us->EN (xs.set i x) (us.set i u)
 | _,_,_,.nil=>.nil
 | _,_,0,.cons _ t=>.cons r t
 | _,_,i+1,.cons q t=>.cons q (EN.set r i t)
theorem EN.append(a:EN xs us)(b:EN ys Y):EN (xs++ys) (us++Y):=by
 induction a with
 | nil=>exact b
 | cons r t ih=>exact .cons r ih
theorem EN.take:∀{xs:List V} {us:List cr} (n:Nat),EN xs us->EN (xs.take n) (us.take n)
 | _,_,0,_=>.nil
 | _,_,_+1,.nil=>.nil
 | _,_,n+1,.cons r t=>.cons r (EN.take n t)
theorem EN.drop:∀{xs:List V} {us:List cr} (n:Nat),EN xs us->EN (xs.drop n) (us.drop n)
 | _,_,0,r=>r
 | _,_,_+1,.nil=>.nil
 | _,_,n+1,.cons _ t=>EN.drop n t
def M3:Option V->Option cr->Prop
 | some v,some u=>Fg v u
 | none,none=>True
 | _,_=>False
def KV{κ:Type}:List (κ×V)->List (κ×cr)->Prop:=Paired fun(p:κ×V) (q:κ×cr)=>p.1=q.1/\Fg p.2 q.2
def kV:Key->V
 | .inl i=>.int i
 | .inr x=>.str x
inductive HO where
 | lst (xs:List V)
 | tup (xs:List V)
 | dK (kvs:List (Key×V)) | dT (kvs:List (List Key×V))
 | set (S:Int->Bool) (n:Nat)
 | ins (C dx:ce) (fs:List (Str×V))
 | own (x:ce)
 | xd (fs:List (Str×V))
 | met (f x:ce)
 | rng (lo hi:Int)
 | frz (o:Obj) (u:HO)
 | tbl (ps:Array cr)
 | ext (φ:gi->Prop)
abbrev Hp:=ce->Option HO
def upd(H:Hp)(a:ce)(o:HO):Hp:=λb=>if b=a then some o else H b
theorem E3:upd H a o a=some o:=by unfold upd;rw[if_pos rfl]
theorem EC(h:b≠a):upd H a o b=H b:=by unfold upd;rw[if_neg h]
theorem TK:upd (upd H a o) a u=upd H a u:=by
 funext b;unfold upd;split<;>rfl
theorem Jf{H:Hp}{a b:ce}{o u:HO}(h:H a=some o)(h':H b=some u)(d:o≠u):a≠b:=by
 intro e;subst e;rw[h]at h';exact d (Zu.inj h')
theorem Ez{H:Hp}{a b:ce}{o:HO}(h:H a=some o)(h':H b=none):a≠b:=by
 intro e;subst e;rw[h]at h';cases h'
section
variable (P:fV)(w:fY)
def G7(H:Hp)(h:gi)(a:ce):HO->Prop
 | .lst xs=>xs.length<=dl/\∃(its:List cr) (n:Nat),EN xs its/\h.get? a=some { cls:=.type "list",data:=.seq its.toArray n }
 | .tup xs=>xs.length<=dl/\∃its:List cr,EN xs its/\IsTup h a its.toArray
 | .dK kvs=>kvs.length<=dl/\(a == gJ)=false/\∃vs,KV kvs vs/\h.DictOf (Gr P w) a vs
 | .dT kvs=>kvs.length<=dl/\(a == gJ)=false/\∃xs:List (List Key×ce×cr),
  Paired (fun(p:List Key×V) (q:List Key×ce×cr)=>p.1=q.1/\H q.2.1=some (.tup (p.1.map kV))/\Fg p.2 q.2.2) kvs xs /\
  ∃o es ep,h.get? a=some o/\o.ExactDict/\o.data = .dict es ep/\es.toList=xs.map (entryOfKey (tupleKind (Gr P w)))/\(xs.map (·.1)).Nodup
 | .set S n=>h.SetOf (intKind P w) a S n
 | .ins C dx fs=>H dx=some (.own a)/\fs.length<=1000/\dx≠a/\h.get? a=some (PySem.W.instObj C dx) /\
  ∃mA,h.Ns1 dx mA/\(∀f,M3 (fs.lookup f) (mA f))/\PySem.Within mA (fs.map (·.1))
 | .own _=>∃o,h.get? a=some o
 | .xd fs=>∃mA,h.Ns1 a mA/\∀f,M3 (fs.lookup f) (mA f)
 | .rng lo hi=>∃t u v,h.get? a=some { cls:=.type "range",data:=.fields #[.int lo t,.int hi u,.int 1 v] }
 | .frz o u=>h.get? a=some o/\G7 H h a u
 | .tbl ps=>h.get? a=some { cls:=.none,data:=.fields ps }
 | .met f x=>h.get? a=some (Zv (.ref f) (.ref x))
 | .ext φ=>φ h/\(∃o,h.get? a=some o)/\∀h1 h2:gi,φ h1->(∀o,h1.get? a=some o->h2.get? a=some o)->φ h2
def HOk(H:Hp)(h:gi):Prop:=∀a o,H a=some o->G7 P w H h a o
end
section
variable {P:fV}{w:fY}{H H':Hp}{h h':gi}{a:ce}{o:HO}
theorem G7.lt(x:G7 P w H h a o):a<h.objs.size:=by
 cases o with
 | lst xs=>obtain⟨_,_,_,_,e⟩:=x;exact Heap.lt_size e
 | tup xs=>obtain⟨_,_,_,p⟩:=x;exact p.lt
 | dK kvs=>obtain⟨_,_,_,_,o,_,_,e,_⟩:=x;exact Heap.lt_size e
 | dT kvs=>obtain⟨_,_,_,_,o,_,_,e,_⟩:=x;exact Heap.lt_size e
 | set S n=>obtain⟨o,_,_,_,e,_⟩:=x;exact Heap.lt_size e
 | ins C dx fs=>obtain⟨_,_,_,e,_⟩:=x;exact Heap.lt_size e
 | own y=>obtain⟨_,e⟩:=x;exact Heap.lt_size e
 | xd fs=>obtain⟨_,⟨_,_,_,e,_⟩,_⟩:=x;exact Heap.lt_size e
 | rng lo hi=>obtain⟨_,_,_,e⟩:=x;exact Heap.lt_size e
 | frz ob u=>obtain⟨e,_⟩:=x;exact Heap.lt_size e
 | tbl ps=>exact Heap.lt_size (show h.get? a=some _ from x)
 | met f y=>exact Heap.lt_size (show h.get? a=some _ from x)
 | ext φ=>obtain⟨_,⟨_,e⟩,_⟩:=x;exact Heap.lt_size e
theorem Paired.mapP(h:Paired F Y O)(f:∀a b,F a b->G a b):Paired G Y O:=by
 induction h with
 | nil=>exact .nil
 | cons r t ih=>exact .cons (f _ _ r) ih
theorem G7.stay(x:G7 P w H h a o)(k:∀b u,(b=a\/H b=some (.own a))->h.get? b=some u->h'.get? b=some u)
 (ho:∀b,H b=some (.own a)->H' b=some (.own a)) (J:∀b xs,H b=some (.tup xs)->H' b=some (.tup xs)):G7 P w H' h' a o:=by
 induction o with
 | lst xs=>obtain⟨z,O,n,r,e⟩:=x;exact⟨z,O,n,r,k _ _ (.inl rfl) e⟩
 | tup xs=>obtain⟨z,O,r,Y,e,c⟩:=x;exact⟨z,O,r,Y,k _ _ (.inl rfl) e,c⟩
 | dK kvs=>obtain⟨z,y,vs,r,Y,es,ep,e,c⟩:=x;exact⟨z,y,vs,r,Y,es,ep,k _ _ (.inl rfl) e,c⟩
 | dT kvs =>
   obtain⟨z,y,xs,r,Y,es,ep,e,c⟩:=x;exact⟨z,y,xs,Paired.mapP r λp q z=>⟨z.1,J _ _ z.2.1,z.2.2⟩,Y,es,ep,k _ _ (.inl rfl) e,c⟩
 | set S n=>obtain⟨Y,es,ep,t,e,c⟩:=x;exact⟨Y,es,ep,t,k _ _ (.inl rfl) e,c⟩
 | ins C dx fs =>
   obtain⟨d,z,ne,e,mA,⟨od,es,ep,e2,c⟩,r⟩:=x;exact⟨ho _ d,z,ne,k _ _ (.inl rfl) e,mA,⟨od,es,ep,k _ _ (.inr d) e2,c⟩,r⟩
 | own y=>obtain⟨Y,e⟩:=x;exact⟨Y,k _ _ (.inl rfl) e⟩
 | xd fs=>obtain⟨mA,⟨od,es,ep,e,c⟩,r⟩:=x;exact⟨mA,⟨od,es,ep,k _ _ (.inl rfl) e,c⟩,r⟩
 | rng lo hi=>obtain⟨t,u,v,e⟩:=x;exact⟨t,u,v,k _ _ (.inl rfl) e⟩
 | frz Y u ih=>obtain⟨e,q⟩:=x;exact⟨k _ _ (.inl rfl) e,ih q⟩
 | tbl ps =>
   have e:h.get? a=some { cls:=.none,data:=.fields ps }:=x;show h'.get? a=some { cls:=.none,data:=.fields ps };exact k a _ (.inl rfl) e
 | met f y =>
   have e:h.get? a=some (Zv (.ref f) (.ref y)):=x;show h'.get? a=some (Zv (.ref f) (.ref y));exact k a _ (.inl rfl) e
 | ext φ=>obtain⟨p,⟨o,e⟩,st⟩:=x;exact⟨st _ _ p λo q=>k _ _ (.inl rfl) q,⟨o,k _ _ (.inl rfl) e⟩,st⟩
theorem HOk.lt(x:HOk P w H h)(e:H a=some o):a<h.objs.size:=(x a o e).lt
theorem HOk.fresh(x:HOk P w H h)(e:h.objs.size<=a):H a=none:=by
 cases q:H a with
 | none=>rfl
 | some u=>exact absurd (Zw (x.lt q) e) (Zx _)
theorem HOk.kept(x:HOk P w H h)(k:∀b u,h.get? b=some u->h'.get? b=some u):HOk P w H h':=λa o e =>
 (x a o e).stay (λb u _ q=>k b u q) (λ_ q=>q) λ_ _ q=>q
theorem HOk.laid(x:HOk P w H h)(k:∀b u,h.get? b=some u->h'.get? b=some u)(J:h.objs.size<=a)(Y:G7 P w (upd H a o) h' a o):HOk P w (upd H a o) h':=λb u e=>by
 have O:=x.fresh J;by_cases hb:b=a
 ·subst hb;rw[E3]at e;cases e;exact Y
 ·rw[EC hb]at e;exact(x b u e).stay (λc v _ q=>k c v q) (λc q=>by rw[EC (Ez q O)];exact q) λc xs q=>by rw[EC (Ez q O)];exact q
end
def Rd(H:Hp)(a:ce)(u:HO):Prop:=H a=some u\/∃o,H a=some (.frz o u)
theorem Rd.ok(r:Rd H a u)(x:HOk P w H h):G7 P w H h a u:=by
 rcases r with r | ⟨o,r⟩
 ·exact x a u r
 ·obtain⟨_,q⟩:=x a _ r;exact q
def Mut:Option HO->Prop
 | some (.lst _)=>True
 | some (.dK _)=>True
 | some (.dT _)=>True
 | some (.set _ _)=>True
 | some (.ins _ _ _)=>True
 | some (.ext _)=>True
 | _=>False
section
variable {P:fV}{w:fY}{H:Hp}{h h':gi}{x e:ce}{o':HO}
theorem HOk.write(ok:HOk P w H h)(mu:Mut (H x))(he:e=x\/H e=some (.own x))(k:∀b u,b≠e->h.get? b=some u->h'.get? b=some u)(ac:∃u,h'.get? e=some u)
 (aa:G7 P w (upd H x o') h' x o'):HOk P w (upd H x o') h':=λb u q=>by
 have Y:∀c y,H c=some (.own y)->c≠x:=λc y r z=>by subst z;rw[r]at mu;exact mu
 have O:∀c xs,H c=some (.tup xs)->c≠x:=λc xs r z=>by subst z;rw[r]at mu;exact mu
 by_cases hb:b=x
 ·subst hb;rw[E3]at q;cases q;exact aa
 ·rw[EC hb]at q;by_cases hbe:b=e
  ·have q':H b=some (.own x):=by
    rcases he with z | z
    ·exact absurd (hbe.trans z) hb
    ·rw[hbe];exact z
   rw[q]at q';cases q';obtain⟨v,hv⟩:=ac;exact⟨v,by rw[hbe];exact hv⟩
  ·refine(ok b u q).stay (λc v J r=>k c v ?_ r) (λc r=>by rw[EC (Y c b r)];exact r) λc xs r=>by rw[EC (O c xs r)];exact r
   rcases J with rfl | J
   ·exact hbe
   ·rintro rfl
    rcases he with z | z
    ·exact Y c b J z
    ·rw[J]at z;cases z;exact hb rfl
end
structure Un(fs ex:List ce)(H H':Hp)(h h':gi):Prop where
 keep:∀b o,h.get? b=some o->H b=none->b∉fs->b∉ex->h'.get? b=some o
 slot:∀b o,h.get? b=some o->H b=none->b∈fs->b∉ex->∃sl,h'.get? b=some { o with slots:=sl }
 free:∀b o,h.get? b=some o->H b=none->b∉ex->H' b=none
 there:∀b o,h.get? b=some o->b∉ex->∃o',h'.get? b=some o'
 tups:∀b xs,H b=some (.tup xs)->H' b=some (.tup xs)
 frzs:∀b o u,H b=some (.frz o u)->H' b=some (.frz o u)
 tbls:∀b ps,H b=some (.tbl ps)->∃more,H' b=some (.tbl (ps++more))
section
variable {fs fs' ex ex':List ce}{H H1 H2:Hp}{h h1 h2 h':gi}{a x e:ce}{o:HO}
theorem Un.any(u:Un fs ex H H1 h h1)(q:h.get? b=some Y)(n:H b=none)(O:b∉ex):∃J,h1.get? b=some { Y with slots:=J }:=by
 by_cases hb:b∈fs
 ·exact u.slot b Y q n hb O
 ·exact⟨Y.slots,u.keep b Y q n hb O⟩
theorem Un.kept(k:∀b u,h.get? b=some u->h'.get? b=some u):Un fs ex H H h h' :=
 ⟨λb Y q _ _ _=>k b Y q,λb Y q _ _ _=>⟨Y.slots,k b Y q⟩,λ_ _ _ n _=>n,λb Y q _=>⟨Y,k b Y q⟩,λ_ _ q=>q,λ_ _ _ q=>q,λ_ ps q=>⟨#[],by rw[q];simp⟩⟩
theorem Un.refl:Un fs ex H H h h:=Un.kept λ_ _ q=>q
theorem Un.laid(k:∀b u,h.get? b=some u->h'.get? b=some u)(O:h.objs.size<=a)(Y:H a=none):Un fs ex H (upd H a o) h h' where
 keep:=λb u q _ _ _=>k b u q
 slot:=λb u q _ _ _=>⟨u.slots,k b u q⟩
 free:=λb u q n _=>by rw[EC (Zy (Zw (Heap.lt_size q) O))];exact n
 there:=λb u q _=>⟨u,k b u q⟩
 tups:=λb xs q=>by rw[EC (Ez q Y)];exact q
 frzs:=λb u xs q=>by rw[EC (Ez q Y)];exact q
 tbls:=λb ps q=>⟨#[],by rw[EC (Ez q Y),q];simp⟩
theorem Un.write(mu:Mut (H x))(he:e=x\/H e=some (.own x))(k:∀b u,b≠e->h.get? b=some u->h'.get? b=some u)(O:∃u,h'.get? e=some u):Un fs ex H (upd H x o) h h':=by
 have J:∀b,H b=none->b≠x:=λb n z=>by subst z;rw[n]at mu;exact mu
 have hb:∀b,H b=none->b≠e:=λb n z=>by
  subst z
  rcases he with r | r
  ·exact J b n r
  ·rw[n]at r;cases r
 have Y:∀b u,H b=some u->¬Mut (some u)->b≠x:=λb u q nm z=>by subst z;rw[q]at mu;exact nm mu
 refine⟨λb u q n _ _=>k b u (hb b n) q,λb u q n _ _=>⟨u.slots,k b u (hb b n) q⟩,λb u q n _=>by rw[EC (J b n)];exact n,λb u q _=>?_,
  λb xs q=>by rw[EC (Y b _ q λz=>z)];exact q,λb u xs q=>by rw[EC (Y b _ q λz=>z)];exact q,λb ps q=>⟨#[],by rw[EC (Y b _ q λz=>z),q];simp⟩⟩
 by_cases hbe:b=e
 ·subst hbe;exact O
 ·exact⟨u,k b u hbe q⟩
end
def trk(h:gi)(H:Hp):List ce:=(Zz h.objs.size).filter λa=>(H a).isSome
def LY(h:gi)(H:Hp):gi:=ZA h (trk h H)
theorem Rt(h:gi)(H:Hp):(LY h H).objs.size=h.objs.size:=PySem.W.hideAll_size _ _
theorem SO(e:h.get? b=some o)(n:H b=none):(LY h H).get? b=some o :=
 PySem.W.hideAll_get _ e λY=>by
  have q:(H b).isSome=true:=(List.mem_filter.mp Y).2;rw[n]at q;simp at q
theorem Ue(e:(LY h H).get? b=some o):h.get? b=some o/\H b=none:=by
 have Y:h.get? b=some o:=ZC (trk h H) e;refine⟨Y,?_⟩;cases q:H b with
 | none=>rfl
 | some x =>
   have O:b∈trk h H:=List.mem_filter.mpr ⟨ZD.mpr (Heap.lt_size Y),by simp[q]⟩
   have z:(LY h H).get? b=none:=PySem.W.hideAll_none (trk h H) O;rw[z]at e;cases e
def UD(g h:gi)(L:ce):List (ce×Obj):=(Zz h.objs.size).filterMap λa=>if a=L\/(g.get? a).isSome=true then none else (h.get? a).map λo=>(a,o)
def rest(g h:gi)(L d:ce):List (ce×Obj):=(UD g h L).filter λp=>decide (p.1≠d)
structure Mod(K:ZE)(mg:Str->Option cr)(base:gi):Prop where
 kin:K.In base
 glob:base.Ns fX mg
 blt:∃mb,base.Ns builtinsNs mb/\∀x:Str,x ≠ "__name__" -> mb x=gv x
 nolimit:base.NoLimit
 seer:base.NoSeer
structure Cx where
 prog:fV
 w:fY
 K:ZE
 mg:Str->Option cr
 base:gi
 A:fZ
 N:List Str
 s₀:db
 H₀:Hp
 env:Env
 outer:List Env
 stack:List Env
 ex:List ce
 fn:Str->Bool
 calm:Bool
 pn:List (ce×Obj)
 xe:cr->db->Prop
def frs(l:List Env):List ce:=l.filterMap (·.frame)
abbrev Cx.fs(X:Cx):List ce:=frs X.outer
def Vis(sc:gH)(x:Str):Prop:=sc.names.lookup x=some .local\/sc.names.lookup x=some .cell\/sc.names.lookup x=some .free
def Loc(sc:gH)(x:Str):Prop:=sc.names.lookup x=some .local\/sc.names.lookup x=some .cell
def Xo(env:Env)(h:gi)(m:Str->Option cr)(x:Str)(u:cr):Prop :=
 (env.kindOf x=some .local/\m x=some u)\/((env.kindOf x=some .cell\/env.kindOf x=some .free)/\∃c,env.cells.lookup x=some c/\h.IsCell c (some u))
structure Cx.Ok(X:Cx):Prop where
 mod:Mod X.K X.mg X.base
 kind:X.env.scope.kind = .function
 glob:X.env.globals=fX
 blt:X.env.builtins=builtinsNs
 above:X.s₀.heap.objs.size<=X.env.locals
 inj:∀x y c,X.env.cells.lookup x=some c->X.env.cells.lookup y=some c->x=y
 has:∀x,(X.env.kindOf x=some .cell\/X.env.kindOf x=some .free)->∃c,X.env.cells.lookup x=some c
 cab:∀x c,X.fn x=true->X.env.cells.lookup x=some c->X.s₀.heap.objs.size<=c
 hd:X.calm=true->X.A.handled=none
 frames:X.A.frames=some X.stack
 stk:X.stack=X.outer\/(X.stack=X.env::X.outer/\X.env.frame=some X.env.locals)
 exf:∀b∈X.ex,b≠X.env.locals/\∀x c,X.env.cells.lookup x=some c->c≠b
 bs:∀b o,X.base.get? b=some o->X.s₀.heap.get? b=some o/\X.H₀ b=none
 bsz:X.base.objs.size<=X.s₀.heap.objs.size
 noex:∀b o,X.base.get? b=some o->b∉X.ex
 exfs:∀b∈X.ex,b∉X.fs
 funs:X.s₀.heap.FunFrames X.base X.outer
 frf:∀b∈X.fs,X.H₀ b=none
structure Inv(X:Cx)(pins:List (ce×Obj))(σ:List (Option V))(H:Hp)(s:db):Prop where
 ok:X.Ok
 os:s.os=X.s₀.os
 bare:gP s.gens
 base:Un X.fs X.ex X.H₀ H X.s₀.heap s.heap
 loc:∃m,s.heap.Ns X.env.locals m/\∀(i:Nat) (x:Str) (v:V),X.N[i]? = some x->σ[i]? = some (some v)->Vis X.env.scope x->∃u,Fg v u/\Xo X.env s.heap m x u
 cell:∀x c,X.env.cells.lookup x=some c->∃v,s.heap.IsCell c v
 free:H X.env.locals=none
 freeC:∀x c,X.env.cells.lookup x=some c->H c=none
 pin:∀p∈X.pn++pins,s.heap.get? p.1=some p.2/\H p.1=none/\p.1≠X.env.locals/\p.1∉X.fs/\∀v,p.2.data ≠ .cell v
 hok:HOk X.prog X.w H s.heap
 len:σ.length=X.N.length
section
variable {X:Cx}{pins:List (ce×Obj)}{σ:List (Option V)}{H H':Hp}{s:db}{h':gi}
theorem Cx.Ok.nofr(O:X.Ok)(e:X.base.get? b=some o):b∉X.fs:=λY=>by
 have:=(O.funs.mem Y).1;rw[e]at this;cases this
theorem Inv.bs(I:Inv X pins σ H s):∀b o,X.base.get? b=some o->s.heap.get? b=some o/\H b=none:=λb o e =>
 ⟨I.base.keep b o (I.ok.bs b o e).1 (I.ok.bs b o e).2 (I.ok.nofr e) (I.ok.noex b o e),I.base.free b o (I.ok.bs b o e).1 (I.ok.bs b o e).2 (I.ok.noex b o e)⟩
theorem Inv.bk(I:Inv X pins σ H s):∀b o,X.base.get? b=some o->s.heap.get? b=some o:=λb o e=>(I.bs b o e).1
theorem Inv.mod(I:Inv X pins σ H s):Mod X.K X.mg X.base:=I.ok.mod
theorem Inv.kIn(I:Inv X pins σ H s):X.K.In s.heap:=I.ok.mod.kin.keeps I.bk
theorem Inv.nolimit(I:Inv X pins σ H s):s.heap.NoLimit:=I.ok.mod.nolimit.keeps I.bk
theorem Inv.lt(I:Inv X pins σ H s):X.env.locals<s.heap.objs.size:=let ⟨_,hn,_⟩:=I.loc;hn.lt
theorem Inv.sz(I:Inv X pins σ H s):X.s₀.heap.objs.size<=s.heap.objs.size:=ZF I.ok.above (ZH I.lt)
theorem Inv.nofs(I:Inv X pins σ H s)(h:s.heap.objs.size<=a):a∉X.fs:=λY=>by
 obtain⟨_,o,O,_⟩:=I.ok.funs.mem Y;exact absurd (Zw (Heap.lt_size O) (ZF I.sz h)) (Zx _)
theorem Inv.cne(I:Inv X pins σ H s):∀x c,X.env.cells.lookup x=some c->c≠X.env.locals:=λx c e z=>by
 obtain⟨v,o,J,hd⟩:=I.cell x c e;obtain⟨m,⟨o',es,ep,O,Y,_⟩,_⟩:=I.loc;rw[z,O]at J;cases J;rw[Y]at hd;cases hd
theorem Inv.funs(I:Inv X pins σ H s):s.heap.FunFrames X.base X.outer:=by
 have J:∀(l:List Env),(∀b∈frs l,b∈X.fs)->X.s₀.heap.FunFrames X.base l->s.heap.FunFrames X.base l:=by
  intro l
  induction l with
  | nil=>intro _ _;trivial
  | cons env r ih =>
    intro hs hl;obtain⟨hk,⟨L,o,hf,hn,ho,hd⟩,hr⟩:=hl;have Y:L∈X.fs:=hs L (by unfold frs;rw[ZI,hf];exact ZJ)
    obtain⟨sl,e⟩:=I.base.slot L o ho (I.ok.frf L Y) Y λz=>I.ok.exfs L z Y;exact⟨hk,⟨L,_,hf,hn,e,hd⟩,ih (λb O=>hs b (by unfold frs;rw[ZI,hf];exact ZK _ O)) hr⟩
 exact J X.outer (λ_ O=>O) I.ok.funs
theorem Inv.stack(I:Inv X pins σ H s):s.heap.FunFrames X.base X.stack:=by
 rcases I.ok.stk with e | ⟨e,hf⟩
 ·rw[e];exact I.funs
 ·rw[e];obtain⟨m,Y,_⟩:=I.loc;refine .cons (by rw[I.ok.kind];decide) hf Y ?_ I.funs
  exact Heap.get?_none_of_le (ZF I.ok.bsz I.ok.above)
theorem Inv.stkSub(I:Inv X pins σ H s):∀b∈frs X.stack,b∈X.env.locals::X.fs:=λb Y=>by
 rcases I.ok.stk with e | ⟨e,hf⟩
 ·rw[e]at Y;exact ZK _ Y
 ·rw[e]at Y;unfold frs at Y;rw[ZI,hf]at Y;exact Y
theorem Inv.stkFree(I:Inv X pins σ H s):∀b∈frs X.stack,H b=none:=λb Y=>by
 rcases ZL.mp (I.stkSub b Y) with e | Y
 ·rw[e];exact I.free
 ·obtain⟨_,o,O,_⟩:=I.ok.funs.mem Y;exact I.base.free b o O (I.ok.frf b Y) λz=>I.ok.exfs b z Y
theorem Inv.step{ch:List ce}(I:Inv X pins σ H s)
 (ac:∀b∈ch,(b∈X.ex\/X.s₀.heap.objs.size<=b)/\b≠X.env.locals/\(∀x c,X.env.cells.lookup x=some c->c≠b)/\∀p∈X.pn++pins,p.1≠b)
 (ad:∀b o,b≠X.env.locals->b∉X.fs->b∉ch->s.heap.get? b=some o->H b=none->h'.get? b=some o)
 (af:∀b o,b≠X.env.locals->b∈X.fs->b∉ch->s.heap.get? b=some o->H b=none->∃sl,h'.get? b=some { o with slots:=sl }) (O:∀b o,b∉ch->s.heap.get? b=some o->H b=none->H' b=none)
 (ag:∀b o,b∉ch->s.heap.get? b=some o->∃o',h'.get? b=some o')
 (aj:∀b xs,H b=some (.tup xs)->H' b=some (.tup xs)) (ah:∀b o u,H b=some (.frz o u)->H' b=some (.frz o u)) (ai:∀b ps,H b=some (.tbl ps)->∃more,H' b=some (.tbl (ps++more)))
 (ns:∀m,s.heap.Ns X.env.locals m->h'.Ns X.env.locals m) (am:HOk X.prog X.w H' h') (hg:gP g') :
 Inv X pins σ H' { s with heap:=h',gens:=g',drawn:=d',toks:=t' }:=by
 have ak:∀b o,X.s₀.heap.get? b=some o->b≠X.env.locals:=λb o e=>Zy (Zw (Heap.lt_size e) I.ok.above)
 have ae:∀b o,X.s₀.heap.get? b=some o->b∉X.ex->b∉ch:=λb o e Y hb=>by
  rcases(ac b hb).1 with z | z
  ·exact Y z
  ·exact absurd (Zw (Heap.lt_size e) z) (Zx _)
 have aa:∀x c,X.env.cells.lookup x=some c->∀v,s.heap.IsCell c v->h'.IsCell c v:=λx c e v ⟨o,ho,hd⟩=>by
  have J:c∉ch:=λz=>(ac c z).2.2.1 x c e rfl;by_cases hc:c∈X.fs
  ·obtain⟨sl,q⟩:=af c o (I.cne x c e) hc J ho (I.freeC x c e);exact⟨_,q,hd⟩
  ·exact⟨o,ad c o (I.cne x c e) hc J ho (I.freeC x c e),hd⟩
 refine⟨I.ok,I.os,hg,⟨λb o e n hb Y=>?_,λb o e n hb Y=>?_,λb o e n Y=>?_,λb o e Y=>?_,λb xs e=>aj b xs (I.base.tups b xs e),λb o xs e=>ah b o xs (I.base.frzs b o xs e),λb ps e=>?_⟩,?_,λx c e=>?_,?_,λx c e=>?_,λp hp=>?_,am,I.len⟩
 ·exact ad b o (ak b o e) hb (ae b o e Y) (I.base.keep b o e n hb Y) (I.base.free b o e n Y)
 ·obtain⟨sl,e1⟩:=I.base.slot b o e n hb Y;obtain⟨al,e2⟩:=af b _ (ak b o e) hb (ae b o e Y) e1 (I.base.free b o e n Y);exact⟨al,e2⟩
 ·obtain⟨o',e1⟩:=I.base.there b o e Y;exact O b o' (ae b o e Y) e1 (I.base.free b o e n Y)
 ·obtain⟨o',e1⟩:=I.base.there b o e Y;exact ag b o' (ae b o e Y) e1
 ·obtain⟨m1,e1⟩:=I.base.tbls b ps e;obtain⟨m2,e2⟩:=ai b _ e1;exact⟨m1++m2,by rw[e2,Array.append_assoc]⟩
 ·obtain⟨m,hn,hl⟩:=I.loc;refine⟨m,ns m hn,λi x v e1 e2 e3=>?_⟩;obtain⟨u,r,l⟩:=hl i x v e1 e2 e3;refine⟨u,r,?_⟩
  rcases l with l | ⟨k,c,e,z⟩
  ·exact .inl l
  ·exact .inr ⟨k,c,e,aa x c e _ z⟩
 ·obtain⟨v,z⟩:=I.cell x c e;exact⟨v,aa x c e v z⟩
 ·obtain⟨m,⟨o,_,_,ho,_⟩,_⟩:=I.loc;exact O _ o (λz=>(ac _ z).2.1 rfl) ho I.free
 ·obtain⟨v,o,ho,hd⟩:=I.cell x c e;exact O c o (λz=>(ac c z).2.2.1 x c e rfl) ho (I.freeC x c e)
 ·obtain⟨e,n,ne,nf,d⟩:=I.pin p hp;have J:p.1∉ch:=λz=>(ac p.1 z).2.2.2 p hp rfl;exact⟨ad p.1 p.2 ne nf J e n,O p.1 p.2 J e n,ne,nf,d⟩
theorem Inv.un(I:Inv X pins σ H s)(u:Un X.fs [] H H' s.heap h')(aa:HOk X.prog X.w H' h'):Inv X pins σ H' { s with heap:=h',toks:=t' }:=by
 obtain⟨m,⟨o,es,ep,ho,r⟩,_⟩:=id I.loc;obtain⟨sl,hL⟩:=u.any ho I.free (by simp)
 exact I.step (g':=s.gens) (d':=s.drawn) (ch:=[]) (λ_ z=>nomatch z) (λb o _ J _ e n=>u.keep b o e n J (by simp)) (λb o _ J _ e n=>u.slot b o e n J (by simp)) (λb o _ e n=>u.free b o e n (by simp)) (λb o _ e=>u.there b o e (by simp)) u.tups u.frzs u.tbls (λm' hm=>by
  obtain⟨o',ac,O,Y,r'⟩:=hm;rw[ho]at Y;cases Y;exact⟨_,ac,O,hL,r'⟩) aa I.bare
theorem Inv.call{ch:List ce}(I:Inv X pins σ H s)(u:Un (frs X.stack) ch H H' s.heap h')(ac:HOk X.prog X.w H' h')(hg:gP g')
 (O:∀b∈ch,(b∈X.ex\/X.s₀.heap.objs.size<=b)/\b≠X.env.locals/\(∀x c,X.env.cells.lookup x=some c->c≠b)/\∀p∈X.pn++pins,p.1≠b) :
 Inv X pins σ H' { s with heap:=h',gens:=g',drawn:=d',toks:=t' }:=by
 obtain⟨m,⟨o,es,ep,ho,r⟩,_⟩:=id I.loc;obtain⟨sl,hL⟩:=u.any ho I.free λz=>(O _ z).2.1 rfl
 exact I.step (ch:=ch) O (λb o hL hb Y e n=>u.keep b o e n (λz=>(ZL.mp (I.stkSub b z)).elim hL hb) Y) (λb o _ _ Y e n=>u.any e n Y) (λb o Y e n=>u.free b o e n Y) (λb o Y e=>u.there b o e Y) u.tups u.frzs u.tbls (λm' hm=>by
  obtain⟨o',ad,aa,J,r'⟩:=hm;rw[ho]at J;cases J;exact⟨_,ad,aa,hL,r'⟩) ac hg
theorem Inv.turned{it:ce}(I:Inv X pins σ H s)(k:∀b o,b≠it->s.heap.get? b=some o->h'.get? b=some o)(hn:H it=none)(J:it≠X.env.locals)
 (h1:it∈X.ex\/X.s₀.heap.objs.size<=it) (h2:∀x c,X.env.cells.lookup x=some c->c≠it) (h3:∀p∈X.pn++pins,p.1≠it):Inv X pins σ H { s with heap:=h',toks:=t' }:=by
 have O:∀b u,H b=some u->b≠it:=λb u e z=>by rw[z,hn]at e;cases e
 refine I.step (g':=s.gens) (d':=s.drawn) (ch:=[it]) (λb hb=>?_) (λb o _ _ Y e _=>k b o (λz=>Y (by simp[z])) e) (λb o _ _ Y e _=>⟨o.slots,k b o (λz=>Y (by simp[z])) e⟩) (λ_ _ _ _ n=>n)
  (λb o Y e=>⟨o,k b o (λz=>Y (by simp[z])) e⟩) (λ_ _ e=>e) (λ_ _ _ e=>e) (λb ps e=>⟨#[],by rw[e];simp⟩) (λm hm=>?_) (λb u e=>?_) I.bare
 ·have e:b=it:=by simpa using hb
  subst e;exact⟨h1,J,h2,h3⟩
 ·obtain⟨o,es,ep,ho,r⟩:=hm;exact⟨o,es,ep,k _ o (Ne.symm J) ho,r⟩
 ·refine(I.hok b u e).stay (λc v Y q=>k c v ?_ q) (λ_ q=>q) λ_ _ q=>q
  rcases Y with z | z
  ·rw[z];exact O b u e
  ·exact O c _ z
theorem Inv.tok(I:Inv X pins σ H s)(t:Nat):Inv X pins σ H { s with toks:=t }:=I.un (h':=s.heap) (t':=t) Un.refl I.hok
theorem Inv.kept(I:Inv X pins σ H s)(k:∀b u,s.heap.get? b=some u->h'.get? b=some u):Inv X pins σ H { s with heap:=h',toks:=t' }:=I.un (Un.kept k) (I.hok.kept k)
theorem Inv.laid(I:Inv X pins σ H s)(k:∀b u,s.heap.get? b=some u->h'.get? b=some u)(O:s.heap.objs.size<=a)(Y:G7 X.prog X.w (upd H a o) h' a o) :
 Inv X pins σ (upd H a o) { s with heap:=h',toks:=t' }:=I.un (Un.laid k O (I.hok.fresh O)) (I.hok.laid k O Y)
theorem Inv.write(I:Inv X pins σ H s)(mu:Mut (H x))(J:e=x\/H e=some (.own x))(k:∀b u,b≠e->s.heap.get? b=some u->h'.get? b=some u)(Y:∃u,h'.get? e=some u)
 (O:G7 X.prog X.w (upd H x o) h' x o):Inv X pins σ (upd H x o) { s with heap:=h',toks:=t' }:=I.un (Un.write mu J k Y) (I.hok.write mu J k Y O)
theorem Inv.weak(I:Inv X pins σ H s)(hl:Y.length=σ.length)(w:∀(i:Nat) v,Y[i]? = some (some v)->σ[i]? = some (some v)):Inv X pins Y H s :=
 ⟨I.ok,I.os,I.bare,I.base,let ⟨m,hn,hl'⟩:=I.loc;⟨m,hn,λi x v e1 O J=>hl' i x v e1 (w i v O) J⟩,I.cell,I.free,I.freeC,I.pin,I.hok,hl.trans I.len⟩
theorem Inv.pins_of(I:Inv X pins σ H s)(h:∀p∈pins',s.heap.get? p.1=some p.2/\H p.1=none/\p.1≠X.env.locals/\p.1∉X.fs/\∀v,p.2.data ≠ .cell v):Inv X pins' σ H s :=
 ⟨I.ok,I.os,I.bare,I.base,I.loc,I.cell,I.free,I.freeC,λp Y=>(ZM.mp Y).elim (λz=>I.pin p (ZN _ z)) (h p),I.hok,I.len⟩
theorem O4{N:List Str}(O:N.Nodup){i j:Nat}{x:Str}(a:N[i]? = some x)(b:N[j]? = some x):i=j:=by
 obtain⟨h1,e1⟩:=ZO.mp a;obtain⟨h2,Y⟩:=ZO.mp b;exact(List.getElem_inj O).mp (e1.trans Y.symm)
theorem M6(I:Inv X pins σ H s)(hN:X.N.Nodup)(hi:X.N[i]? = some x)(J:Loc X.env.scope x)(r:Fg v u)
 (h:∀s',Inv X pins (σ.set i (some v)) H s'->(∃a,Heap.SameBut a s.heap s'.heap/\(a=X.env.locals\/X.env.cells.lookup x=some a))->Q () s') (hf:X.fn x=true\/X.env.scope.names.lookup x=some .local:=by first | exact .inl rfl | exact .inr rfl | assumption):ge M A (storeName X.env x u) Q E s:=by
 obtain⟨m,hn,hl⟩:=id I.loc;have ai:(X.env.scope.kind == .class||(X.env.scope.kind == .module&&X.env.locals != X.env.globals))=false:=by rw[I.ok.kind];rfl
 have ac:i<σ.length:=by rw[I.len];exact(ZO.mp hi).1
 have ae:=I.cne
 have Y:∀{a:ce} {h':gi},(∃o,s.heap.get? a=some o/\H a=none)->Heap.SameBut a s.heap h'->HOk X.prog X.w H h':=fun{a h'} ha hs b ob e=>by
  obtain⟨_,_,aa⟩:=ha;refine(I.hok b ob e).stay (λc w' O q=>(hs.2 c ?_).trans q) (λ_ q=>q) λ_ _ q=>q;rintro rfl
  rcases O with rfl | O
  ·rw[aa]at e;cases e
  ·rw[aa]at O;cases O
 rcases J with hk | hk
 ·refine wpAny_storeName_local hk hn (λh' ak hs=>?_) ai;obtain⟨oL,_,_,aj,_⟩:=id hn;refine h _ ⟨I.ok,I.os,I.bare,⟨λb o e n hb J=>?_,λb o e n hb J=>?_,I.base.free,λb o e J=>?_,I.base.tups,I.base.frzs,I.base.tbls⟩,⟨_,ak,λj y v' e1 e2 e3=>?_⟩,λy c e=>?_,I.free,I.freeC,λp hp=>?_,Y ⟨oL,aj,I.free⟩ hs,by simpa using I.len⟩ ⟨_,hs,.inl rfl⟩
  ·exact(hs.2 b (Zy (Zw (Heap.lt_size e) I.ok.above))).trans (I.base.keep b o e n hb J)
  ·obtain⟨sl,e1⟩:=I.base.slot b o e n hb J;exact⟨sl,(hs.2 b (Zy (Zw (Heap.lt_size e) I.ok.above))).trans e1⟩
  ·obtain⟨o',e1⟩:=I.base.there b o e J;exact⟨o',(hs.2 b (Zy (Zw (Heap.lt_size e) I.ok.above))).trans e1⟩
  ·by_cases hj:j=i
   ·subst hj;rw[hi]at e1;cases e1;rw[ZP ac]at e2;cases e2;exact⟨u,r,.inl ⟨hk,by simp⟩⟩
   ·rw[ZQ (Ne.symm hj)]at e2;obtain⟨u',r',q⟩:=hl j y v' e1 e2 e3;refine⟨u',r',?_⟩
    rcases q with ⟨k,e⟩ | ⟨k,c,e,z⟩
    ·refine .inl ⟨k,?_⟩;have:y≠x:=λe=>hj (O4 hN e1 (e ▸ hi));simp[this,e]
    ·exact .inr ⟨k,c,e,z.sameBut hs (ae y c e)⟩
  ·obtain⟨w',z⟩:=I.cell y c e;exact⟨w',z.sameBut hs (ae y c e)⟩
  ·obtain⟨e,n,ne,nf,d⟩:=I.pin p hp;exact⟨(hs.2 p.1 ne).trans e,n,ne,nf,d⟩
 ·have ad:X.fn x=true:=by
   rcases hf with z | z
   ·exact z
   ·rw[z]at hk;cases hk
  obtain⟨c,O⟩:=I.ok.has x (.inl hk);obtain⟨w',z⟩:=I.cell x c O;refine wpAny_storeName_cell I.ok.kind hk O z (λh' af hs=>?_);obtain⟨oc,ag,ah⟩:=id z;refine h { s with heap:=h' } ⟨I.ok,I.os,I.bare,⟨λb o e n hb J=>?_,λb o e n hb J=>?_,I.base.free,λb o e J=>?_,I.base.tups,I.base.frzs,I.base.tbls⟩,⟨m,hn.sameBut hs (Ne.symm (ae x c O)),λj y v' e1 e2 e3=>?_⟩,λy c' e=>?_,I.free,I.freeC,λp hp=>?_,Y ⟨oc,ag,I.freeC x c O⟩ hs,by simpa using I.len⟩ ⟨c,hs,.inr O⟩
  ·exact(hs.2 b (Zy (Zw (Heap.lt_size e) (I.ok.cab x c ad O)))).trans (I.base.keep b o e n hb J)
  ·obtain⟨sl,e1⟩:=I.base.slot b o e n hb J;exact⟨sl,(hs.2 b (Zy (Zw (Heap.lt_size e) (I.ok.cab x c ad O)))).trans e1⟩
  ·obtain⟨o',e1⟩:=I.base.there b o e J;exact⟨o',(hs.2 b (Zy (Zw (Heap.lt_size e) (I.ok.cab x c ad O)))).trans e1⟩
  ·by_cases hj:j=i
   ·subst hj;rw[hi]at e1;cases e1;rw[ZP ac]at e2;cases e2;exact⟨u,r,.inr ⟨.inl hk,c,O,af⟩⟩
   ·rw[ZQ (Ne.symm hj)]at e2;obtain⟨u',r',q⟩:=hl j y v' e1 e2 e3;refine⟨u',r',?_⟩
    rcases q with q | ⟨k,c',e,z'⟩
    ·exact .inl q
    ·refine .inr ⟨k,c',e,z'.sameBut hs ?_⟩;rintro rfl;exact hj (O4 hN e1 (I.ok.inj _ _ _ e O ▸ hi))
  ·by_cases hcc:c'=c
   ·subst hcc;exact⟨_,af⟩
   ·obtain⟨w2,z2⟩:=I.cell y c' e;exact⟨w2,z2.sameBut hs hcc⟩
  ·obtain⟨e,n,ne,nf,d⟩:=I.pin p hp;refine⟨(hs.2 p.1 ?_).trans e,n,ne,nf,d⟩;intro q;rw[q,ag]at e;have q':oc=p.2:=Zu.inj e;exact d w' (by rw[<- q'];exact ah)
theorem IE(I:Inv X pins σ H s)(J:X.N.Nodup)(hi:X.N[i]? = some x)(O:Loc X.env.scope x)(r:Fg v u)
 (h:∀s',Inv X pins (σ.set i (some v)) H s'->Q () s') (hf:X.fn x=true\/X.env.scope.names.lookup x=some .local:=by first | exact .inl rfl | exact .inr rfl | assumption):ge M A (storeName X.env x u) Q E s :=
 M6 I J hi O r (λs' Y _=>h s' Y) hf
theorem Inv.call'{ch:List ce}(I:Inv X pins σ H s)(J:s'.os=s.os)(u:Un (frs X.stack) ch H H' s.heap s'.heap)(Y:HOk X.prog X.w H' s'.heap)(hg:gP s'.gens)
 (O:∀b∈ch,(b∈X.ex\/X.s₀.heap.objs.size<=b)/\b≠X.env.locals/\(∀x c,X.env.cells.lookup x=some c->c≠b)/\∀p∈X.pn++pins,p.1≠b):Inv X pins σ H' s':=by
 obtain⟨h',g',d',t',o'⟩:=s';have e:o'=s.os:=J;subst e;exact I.call (g':=g') (t':=t') (d':=d') u Y hg O
end
abbrev XK:=cr->Option ce->Hp->Prop
abbrev St:=List (Option V)
abbrev VK:=V->Hp->Prop
abbrev TE:=St->Hp->VK->Prop
abbrev TT:=St->Hp->(Bool->Hp->Prop)->Prop
abbrev TA:=St->Hp->(List V->Hp->Prop)->Prop
structure IA where
 nx:St->Hp->Prop
 rt:VK
 bk:St->Hp->Prop:=λ_ _=>False
 ct:St->Hp->Prop:=λ_ _=>False
abbrev TS:=IA->St->Hp->Prop
inductive EP(X:Cx)(pins:List (ce×Obj))(σ:St)(Q:VK)(u:cr)(s':db):Prop
 | mk(v:_)(H':_)(_:Inv X pins σ H' s')(_:Fg v u)(_:Q v H')
def TP(X:Cx)(pins:List (ce×Obj))(σ:St)(Q:Bool->Hp->Prop)(b:Bool)(s':db):Prop:=∃H',Inv X pins σ H' s'/\Q b H'
inductive AP(X:Cx)(pins:List (ce×Obj))(σ:St)(Q:List V->Hp->Prop)(us:List cr)(s':db):Prop
 | mk(vs:_)(H':_)(_:Inv X pins σ H' s')(_:EN vs us)(_:Q vs H')
def SP(X:Cx)(pins:List (ce×Obj))(D:IA)(f:Flow)(s':db):Prop :=
 match f with
 | .next=>∃σ' H',Inv X pins σ' H' s'/\D.nx σ' H'
 | .brk=>∃σ' H',Inv X pins σ' H' s'/\D.bk σ' H'
 | .cont=>∃σ' H',Inv X pins σ' H' s'/\D.ct σ' H'
 | .ret u=>∃v σ' H',Inv X pins σ' H' s'/\Fg v u/\D.rt v H'
def PE(X:Cx)(e:Expr)(t:TE):Prop :=
 ∀(pins:List (ce×Obj)) (s:db) (σ:St) (H:Hp) (Q:VK),Inv X pins σ H s->t σ H Q->ge (gh X.prog X.w) X.A (gu e X.env) (EP X pins σ Q) X.xe s
def PT(X:Cx)(e:Expr)(t:TT):Prop :=
 ∀(pins:List (ce×Obj)) (s:db) (σ:St) (H:Hp) (Q:Bool->Hp->Prop),Inv X pins σ H s->t σ H Q->ge (gh X.prog X.w) X.A (isTrue e X.env (gu e X.env)) (TP X pins σ Q) X.xe s
def PW(X:Cx)(e:Expr)(t:TT):Prop :=
 ∀(whole:Sem cr) (pins:List (ce×Obj)) (s:db) (σ:St) (H:Hp) (Q:Bool->Hp->Prop),Inv X pins σ H s->t σ H Q->ge (gh X.prog X.w) X.A (isTrue e X.env whole) (TP X pins σ Q) X.xe s
theorem PW.pt(h:PW X e t):PT X e t:=h _
def PA(X:Cx)(es:List Expr)(t:TA):Prop :=
 ∀(pos:Pos) (pins:List (ce×Obj)) (s:db) (σ:St) (H:Hp) (Q:List V->Hp->Prop),Inv X pins σ H s->t σ H Q->ge (gh X.prog X.w) X.A (spliced (gC pos (fU es X.env))) (AP X pins σ Q) X.xe s
def PS(X:Cx)(st:gI)(t:TS):Prop :=
 ∀(pins:List (ce×Obj)) (s:db) (σ:St) (H:Hp) (D:IA),Inv X pins σ H s->t D σ H->ge (gh X.prog X.w) X.A (exec st X.env) (SP X pins D) X.xe s
def PSs(X:Cx)(st:List gI)(t:TS):Prop :=
 ∀(pins:List (ce×Obj)) (s:db) (σ:St) (H:Hp) (D:IA),Inv X pins σ H s->t D σ H->ge (gh X.prog X.w) X.A (execs st X.env) (SP X pins D) X.xe s
theorem thn(h:ge M A t Q E s)(J:∀a s,Q a s->O a s):ge M A t O E s:=gn h J λ_ _ x=>x
section
variable {X:Cx}
inductive LH(i:Nat)(σ:St)(H:Hp)(Q:VK):Prop
 | mk(v:_)(_:σ[i]? = some (some v))(_:Q v H)
def tC(v:V):TE:=λ_ H Q=>Q v H
theorem Vp(hN:X.N[i]? = some x)(hv:Vis X.env.scope x)(hd:(x == ("__debug__" : Str))=false:=by decide)(J:(x == ("__classdict__" : Str))=false:=by decide):PE X (.Name x pos) (LH i):=by
 intro pins s σ H Q I h;obtain⟨v,e,h⟩:=h;obtain⟨m,hn,hl⟩:=I.loc;obtain⟨u,r,l⟩:=hl i x v hN e hv;have O:EP X pins σ Q u s:=⟨v,H,I,r,h⟩
 rcases l with ⟨hk,hm⟩ | ⟨hk,c,hc,Y⟩
 ·exact wpAny_Name (wpAny_loadName_local I.ok.kind hk hn hm O) hd
 ·rcases hk with hk | hk
  ·exact wpAny_Name (wpAny_loadName_cell I.ok.kind hk hc Y O) hd
  ·exact wpAny_Name (wpAny_loadName_free I.ok.kind hk hc Y O J) hd
theorem E2{i j pos}:PE X (.Constant (.int i) j pos) (tC (.int i)):=λ_ _ _ H _ I h=>wpAny_Constant_int ⟨.int i,H,I.tok _,⟨_,Z⟩,h⟩
theorem Mb{b j pos}:PE X (.Constant (.bool b) j pos) (tC (.bl b)):=λ_ _ _ H _ I h=>Constant_bool ⟨.bl b,H,I,Z,h⟩
theorem La{j pos}:PE X (.Constant .none j pos) (tC .non):=λ_ _ _ H _ I h=>Constant_none ⟨.non,H,I,Z,h⟩
theorem Vq{x j pos}:PE X (.Constant (.str x) j pos) (tC (.str x)):=λ_ _ _ H _ I h=>Calls.Constant_str ⟨.str x,H,I.tok _,⟨_,Z⟩,h⟩
def Gl(X:Cx)(x:Str):Prop:=X.env.kindOf x=some .globalImplicit
theorem JJ(I:Inv X pins σ H s)(Y:Gl X x)(O:X.mg x=some u)(h:Q u s)
 (hd:(x == ("__debug__" : Str))=false:=by decide):ge (gh X.prog X.w) X.A (gu (.Name x pos) X.env) Q E s :=
 Calls.Name_function_global I.ok.kind Y (Calls.loadGlobal_global (by rw[I.ok.glob];exact I.mod.glob.keeps I.bk) O h) hd
theorem Ka(I:Inv X pins σ H s)(Y:Gl X x)(O:X.mg x=none)(hv:gv x=some u)(h:Q u s)
 (J:x ≠ "__name__":=by decide) (hd:(x == ("__debug__" : Str))=false:=by decide):ge (gh X.prog X.w) X.A (gu (.Name x pos) X.env) Q E s:=by
 obtain⟨mb,h1,h2⟩:=I.mod.blt;exact Calls.Name_function_global I.ok.kind Y (Calls.loadGlobal_builtin (by rw[I.ok.glob];exact I.mod.glob.keeps I.bk) O (by rw[I.ok.blt];exact h1.keeps I.bk) ((h2 x J).trans hv) h) hd
theorem Jz(Y:Gl X x)(O:X.mg x=some u)(r:Fg v u)(hd:(x == ("__debug__" : Str))=false:=by decide):PE X (.Name x pos) (tC v) :=
 λ_ _ _ H _ I h=>JJ I Y O ⟨v,H,I,r,h⟩ hd
variable {a b:Expr}{ta tb:TE}{pos:Pos}
def tB(t:TE):TT:=λσ H Q=>t σ H λx H1=>∃c,x = .bl c/\Q c H1
theorem OX(h:PE X e t)(he:∀Y,isTrue e X.env Y=(do let v <- Y;standAt e.pos;holding [v] (truthy v)):=by intro _;rfl):PT X e (tB t):=by
 intro pins s σ H Q I hw;refine isTrue_plain (thn (h pins s σ H _ I hw) λv s1 ⟨x,H1,O,r1,J⟩=>?_) (he _);obtain⟨d,rfl,q⟩:=J;cases r1;exact gY ⟨H1,O,q⟩
variable {tA tB':TT}{rest:List Expr}
def X9(t u:TT):TT:=λσ H Q=>t σ H λc H1=>if c=true then u σ H1 Q else Q false H1
def tOr(t u:TT):TT:=λσ H Q=>t σ H λc H1=>if c=true then Q true H1 else u σ H1 Q
def Wj(t:TT):TT:=λσ H Q=>t σ H λc H1=>Q (!c) H1
theorem Ir(Y:PT X a tA):PW X (.BoolOp .And [a] pos) tA:=by
 intro J pins s σ H Q I h;refine isTrue_and (thn (Y pins s σ H Q I h) λc O e=>?_);cases c with
 | true=>exact isTrue_and_nil e
 | false=>exact e
theorem MW(Y:PT X a tA):PW X (.BoolOp .Or [a] pos) tA:=by
 intro J pins s σ H Q I h;refine isTrue_or (thn (Y pins s σ H Q I h) λc O e=>?_);cases c with
 | false=>exact isTrue_or_nil e
 | true=>exact e
theorem Jj(ha:PT X a tA)(hb:PW X (.BoolOp .And (b::rest) pos) tB'):PW X (.BoolOp .And (a::b::rest) pos) (X9 tA tB'):=by
 intro J pins s σ H Q I h;refine isTrue_and (thn (ha pins s σ H _ I h) λc s1 ⟨H1,Y,O⟩=>?_);cases c with
 | true=>exact hb J pins s1 σ H1 Q Y O
 | false=>exact⟨H1,Y,O⟩
theorem Q6(ha:PT X a tA)(hb:PW X (.BoolOp .Or (b::rest) pos) tB'):PW X (.BoolOp .Or (a::b::rest) pos) (tOr tA tB'):=by
 intro J pins s σ H Q I h;refine isTrue_or (thn (ha pins s σ H _ I h) λc s1 ⟨H1,Y,O⟩=>?_);cases c with
 | true=>exact⟨H1,Y,O⟩
 | false=>exact hb J pins s1 σ H1 Q Y O
theorem S9(Y:PT X a tA):PT X (.UnaryOp .Not a pos) (Wj tA):=by
 intro pins s σ H Q I h;exact isTrue_not (Y pins s σ H (λc H1=>Q (!c) H1) I h)
def Wo(ta tb:TE):TE:=λσ H Q=>ta σ H λx H1=>∃c,x = .bl c/\if c=true then tb σ H1 Q else Q (.bl false) H1
theorem Vr{op}(h:PE X a t):PE X (.BoolOp op [a] pos) t:=λpins s σ H Q I hw=>BoolOp_one (h pins s σ H Q I hw)
theorem Vt(ha:PE X a ta)(hb:PE X (.BoolOp .And (b::rest) pos) tb):PE X (.BoolOp .And (a::b::rest) pos) (Wo ta tb):=by
 intro pins s σ H Q I h;refine BoolOp_and (thn (ha pins s σ H _ I h) λv J ⟨x,H1,O,r1,Y⟩=>?_);obtain⟨c,rfl,Y⟩:=Y;cases r1;refine gY ?_;cases c with
 | true=>exact hb pins J σ H1 Q O Y
 | false=>exact⟨.bl false,H1,O,Z,Y⟩
def tIf(t:TT)(ta tb:TE):TE:=λσ H Q=>t σ H λc H1=>if c=true then ta σ H1 Q else tb σ H1 Q
theorem Se(hc:PT X c tA)(ha:PE X a ta)(hb:PE X b tb):PE X (.IfExp c a b pos) (tIf tA ta tb):=by
 intro pins s σ H Q I h;refine wpAny_IfExp (thn (hc pins s σ H _ I h) λd Y ⟨H1,O,J⟩=>?_);cases d with
 | true=>exact ha pins Y σ H1 Q O J
 | false=>exact hb pins Y σ H1 Q O J
end
def SqL(K:ZE)(H:Hp)(a:ce)(xs:List V):Prop :=
 Rd H a (.lst xs) \/
  ∃(o:Obj) (its:Array cr) (n:Nat),K.lookup a=some o/\o.cls = .type "list" /\ o.dict=none/\o.data = .seq its n/\its.size<=dl/\EN xs its.toList
def SqT(K:ZE)(H:Hp)(a:ce)(xs:List V):Prop :=
 Rd H a (.tup xs) \/
  ∃(o:Obj) (its:Array cr) (n:Nat),K.lookup a=some o/\o.cls = .type "tuple" /\ o.data = .seq its n/\its.size<=dl/\EN xs its.toList
def RE:cr->Option V
 | .none=>some .non
 | .bool b=>some (.bl b)
 | .int i _=>some (.int i)
 | .str x _=>some (.str x)
 | .bytes b _=>some (.byt b)
 | .float b _=>some (.flt b)
 | .ref a=>some (.ref a)
 | .type n=>some (.ty n)
 | _=>none
theorem Fg.abs(r:Fg x u):RE u=some x:=by
 cases x with
 | non=>cases r;rfl
 | bl _=>cases r;rfl
 | int _=>obtain⟨t,rfl⟩:=r;rfl
 | str _=>obtain⟨t,rfl⟩:=r;rfl
 | byt _=>obtain⟨t,rfl⟩:=r;rfl
 | flt _=>obtain⟨t,rfl⟩:=r;rfl
 | ref _=>cases r;rfl
 | ty _=>cases r;rfl
theorem Fg.inj(r:Fg x u)(q:Fg y u):x=y:=Zu.inj (r.abs.symm.trans q.abs)
theorem EN.inj(a:EN xs us)(b:EN ys us):xs=ys:=by
 induction a generalizing ys with
 | nil=>cases b;rfl
 | cons r t ih=>cases b with | cons r' t'=>rw[r.inj r',ih t']
section
variable {X:Cx}{pins:List (ce×Obj)}{σ:St}{H:Hp}{s:db}{a:ce}{xs ys:List V}
theorem SqL.of{K:ZE}(h:H a=some (.lst xs)):SqL K H a xs:=.inl (.inl h)
theorem SqT.of{K:ZE}(h:H a=some (.tup xs)):SqT K H a xs:=.inl (.inl h)
theorem Inv.list(I:Inv X pins σ H s)(h:SqL X.K H a xs):∃Y:List cr,EN xs Y/\PlainL s.heap a Y.toArray/\xs.length<=dl:=by
 rcases h with h | ⟨o,Y,n,hk,O,hd,hs,J,r⟩
 ·obtain⟨z,Y,n,r,e⟩:=h.ok I.hok;exact⟨Y,r,⟨_,n,e,Z,Z,Z⟩,z⟩
 ·refine⟨Y.toList,r,⟨o,n,I.kIn a o hk,O,hd,by simpa using hs⟩,?_⟩
  have e:=r.length;simp only[Array.length_toList]at e
  lia
theorem Inv.tuple(I:Inv X pins σ H s)(h:SqT X.K H a xs):∃Y:List cr,EN xs Y/\IsTup s.heap a Y.toArray/\xs.length<=dl:=by
 rcases h with h | ⟨o,Y,n,hk,O,hs,J,r⟩
 ·obtain⟨z,Y,r,p⟩:=h.ok I.hok;exact⟨Y,r,p,z⟩
 ·refine⟨Y.toList,r,⟨o,I.kIn a o hk,O,n,by simpa using hs⟩,?_⟩
  have e:=r.length;simp only[Array.length_toList]at e
  lia
theorem Inv.list_inj(I:Inv X pins σ H s)(h:SqL X.K H a xs)(h':SqL X.K H a ys):xs=ys:=by
 obtain⟨Y,r,⟨o,n,e,_,_,d⟩,_⟩:=I.list h;obtain⟨its',J,⟨o',n',O,_,_,d'⟩,_⟩:=I.list h';rw[e]at O;cases O;rw[d]at d'
 injection d' with d1 _
 have:Y=its':=by simpa using congrArg Array.toList d1
 subst this;exact r.inj J
theorem Inv.tuple_inj(I:Inv X pins σ H s)(h:SqT X.K H a xs)(h':SqT X.K H a ys):xs=ys:=by
 obtain⟨Y,r,⟨o,e,_,n,d⟩,_⟩:=I.tuple h;obtain⟨its',J,⟨o',O,_,n',d'⟩,_⟩:=I.tuple h';rw[e]at O;cases O;rw[d]at d'
 injection d' with d1 _
 have:Y=its':=by simpa using congrArg Array.toList d1
 subst this;exact r.inj J
end
abbrev Cx.wish(X:Cx)(E:cr->db->Prop):Cx:={ X with xe:=E }
abbrev Cx.nox(X:Cx):Cx:=X.wish λ_ _=>False
theorem Cx.Ok.wish{X:Cx}(Y:X.Ok)(E:cr->db->Prop):(X.wish E).Ok :=
 ⟨Y.mod,Y.kind,Y.glob,Y.blt,Y.above,Y.inj,Y.has,Y.cab,Y.hd,Y.frames,Y.stk,Y.exf,Y.bs,Y.bsz,Y.noex,Y.exfs,Y.funs,Y.frf⟩
theorem Cx.Ok.unwish{X:Cx}{E:cr->db->Prop}(Y:(X.wish E).Ok):X.Ok :=
 ⟨Y.mod,Y.kind,Y.glob,Y.blt,Y.above,Y.inj,Y.has,Y.cab,Y.hd,Y.frames,Y.stk,Y.exf,Y.bs,Y.bsz,Y.noex,Y.exfs,Y.funs,Y.frf⟩
section
variable {X:Cx}{pins:List (ce×Obj)}{σ:St}{H:Hp}{s:db}{E:cr->db->Prop}
theorem Inv.wish(I:Inv X pins σ H s)(E:cr->db->Prop):Inv (X.wish E) pins σ H s:=⟨I.ok.wish E,I.os,I.bare,I.base,I.loc,I.cell,I.free,I.freeC,I.pin,I.hok,I.len⟩
theorem Inv.unwish(I:Inv (X.wish E) pins σ H s):Inv X pins σ H s:=⟨I.ok.unwish,I.os,I.bare,I.base,I.loc,I.cell,I.free,I.freeC,I.pin,I.hok,I.len⟩
theorem SP.unwish(h:SP (X.wish E) pins D f s'):SP X pins D f s':=by
 cases f with
 | next=>obtain⟨Y,H',I,q⟩:=h;exact⟨Y,H',I.unwish,q⟩
 | brk=>obtain⟨Y,H',I,q⟩:=h;exact⟨Y,H',I.unwish,q⟩
 | cont=>obtain⟨Y,H',I,q⟩:=h;exact⟨Y,H',I.unwish,q⟩
 | ret u=>obtain⟨v,Y,H',I,r,q⟩:=h;exact⟨v,Y,H',I.unwish,r,q⟩
theorem PSs.nox{st:List gI}{t:TS}(h:PSs X.nox st t):PSs X st t:=λpins s σ H D I hw =>
 gn (h pins s σ H D (I.wish _) hw) (λ_ _ q=>q.unwish) λ_ _ z=>False.elim z
end
section
variable {X:Cx}{st:gI}{rest:List gI}{t u:TS}{e:Expr}{te:TE}{pos:Pos}
def Wk:TS:=λD σ H=>D.nx σ H
@[reducible] def IA.to(D:IA)(n:St->Hp->Prop):IA:={ D with nx:=n }
def RL(t u:TS):TS:=λD σ H=>t (D.to (u D)) σ H
theorem EK:PSs X [] Wk:=λ_ _ σ H _ I h=>gF ⟨σ,H,I,h⟩
theorem NQ(h1:PS X st t)(h2:PSs X rest u):PSs X (st::rest) (RL t u):=by
 intro pins s σ H D I h;refine wpAny_execs_cons (thn (h1 pins s σ H { D with nx:=u D } I h) λf O q=>?_)
 cases f with
 | next =>
   obtain⟨Y,H',J,q⟩:=q;exact h2 pins O Y H' D J q
 | ret v=>exact q
 | brk=>exact q
 | cont=>exact q
theorem E5(h1:PS X st t):PSs X [st] t:=by
 intro pins s σ H D I h;refine wpAny_execs_cons (thn (h1 pins s σ H D I h) λf Y q=>?_);cases f with
 | next=>exact gF q
 | ret v=>exact q
 | brk=>exact q
 | cont=>exact q
theorem Inv.quiet(I:Inv X pins σ H s):interactive X.env=false:=by simp[interactive,I.ok.kind]
def Wl(te:TE):TS:=λD σ H=>te σ H λ_ H1=>D.nx σ H1
theorem Gq(J:PE X e te)(hs:swapsWith e none pos.line X.env=pure false:=by rfl):PS X (.Expr e pos) (Wl te):=by
 intro pins s σ H D I h;exact wpAny_Expr_any (thn (J pins s σ H _ I h) λv s1 ⟨x,H1,O,r1,Y⟩=>⟨σ,H1,O,Y⟩) I.quiet hs
def X6(te:TE):TS:=λD σ H=>te σ H D.rt
theorem Er(J:PE X e te):PS X (.Return (some e) pos) (X6 te):=by
 intro pins s σ H D I h;exact wpAny_Return_some (thn (J pins s σ H _ I h) λv s1 ⟨x,H1,O,r1,Y⟩=>⟨x,σ,H1,O,r1,Y⟩)
def ON(c:TT)(t u:TS):TS:=λD σ H=>c σ H λb H1=>if b=true then t D σ H1 else u D σ H1
theorem WC(hc:PT X c tc)(ha:PSs X a t)(hb:PSs X b u):PS X (.If c a b pos) (ON tc t u):=by
 intro pins s σ H D I h;refine wpAny_If (thn (hc pins s σ H _ I h) λd Y ⟨H1,O,J⟩=>?_);cases d with
 | true=>exact ha pins Y σ H1 D O J
 | false=>exact hb pins Y σ H1 D O J
def RM:TS:=λ_ _ _=>False
theorem Ie:PS X st RM:=λ_ _ _ _ _ _ h=>h.elim
theorem Ra:PSs X Y RM:=λ_ _ _ _ _ _ h=>h.elim
end
abbrev TG:=V->St->Hp->(St->Hp->Prop)->Prop
abbrev TGs:=List V->St->Hp->(St->Hp->Prop)->Prop
def PG(X:Cx)(target:Expr)(t:TG):Prop :=
 ∀ (pins:List (ce×Obj)) (s:db) (σ:St) (H:Hp) (v:V) (u:cr) (Q:St->Hp->Prop),Inv X pins σ H s->Fg v u->t v σ H Q ->
   ge (gh X.prog X.w) X.A (assign target X.env u) (λ_ s'=>∃σ' H',Inv X pins σ' H' s'/\Q σ' H') X.xe s
def PGs(X:Cx)(ts:List Expr)(t:TGs):Prop :=
 ∀ (pins:List (ce×Obj)) (s:db) (σ:St) (H:Hp) (vs:List V) (us:List cr) (Q:St->Hp->Prop),Inv X pins σ H s->EN vs us->t vs σ H Q ->
   ge (gh X.prog X.w) X.A (assignInOrder ((gN ts X.env).map (·.2)) us) (λ_ s'=>∃σ' H',Inv X pins σ' H' s'/\Q σ' H') X.xe s
abbrev Wc:=V->V->V->Hp->(Hp->Prop)->Prop
def WW(X:Cx)(t:Wc):Prop :=
 ∀ (pins:List (ce×Obj)) (s:db) (σ:St) (H:Hp) (o i v:V) (ov iv u:cr) (Q:Hp->Prop),Inv X pins σ H s->Fg o ov->Fg i iv->Fg v u->t o i v H Q ->
   ge (gh X.prog X.w) X.A (setItem ov iv u) (λ_ s'=>∃H',Inv X pins σ H' s'/\Q H') X.xe s
section
variable {X:Cx}{pos:Pos}
def HH(i:Nat):TG:=λv σ H Q=>Q (σ.set i (some v)) H
theorem Eu(J:X.N.Nodup)(hi:X.N[i]? = some x)(O:Loc X.env.scope x)(hf:X.fn x=true\/X.env.scope.names.lookup x=some .local:=by first | exact .inl rfl | exact .inr rfl | assumption):PG X (.Name x pos) (HH i):=by
 intro pins s σ H v u Q I r h;exact wpAny_assign_Name (IE I J hi O r (λs' Y=>⟨_,H,Y,h⟩) hf)
def Xc:TGs:=λvs σ H Q=>vs=[]/\Q σ H
inductive UW(t:TG)(u:TGs)(vs:List V)(σ:St)(H:Hp)(Q:(St->Hp->Prop)):Prop
 | mk(v:_)(r:_)(_:vs=v::r)(_:t v σ H λσ' H'=>u r σ' H' Q)
theorem MZ:PGs X [] Xc:=by
 intro pins s σ H vs us Q I r h;obtain⟨e,h⟩:=h;subst e;cases r;exact assignInOrder_nil ⟨σ,H,I,h⟩
theorem HE(h1:PG X e t)(h2:PGs X es u)
 (hs:(gN (e::es) X.env).map (·.2)=assign e X.env::(gN es X.env).map (·.2):=by rfl):PGs X (e::es) (UW t u):=by
 intro pins s σ H vs us Q I r h;obtain⟨v,vr,e1,h⟩:=h;subst e1;cases r with
 | cons r rr =>
   rw[hs];refine gX (thn (h1 pins s σ H _ _ _ I r h) λ_ O ⟨Y,H1,J,q1⟩=>?_);exact h2 pins O Y H1 _ _ Q J rr q1
inductive VZ(K:ZE)(n:Nat)(t:TGs)(v:V)(σ:St)(H:Hp)(Q:(St->Hp->Prop)):Prop
 | mk(a:_)(xs:_)(_:v = .ref a)(_:SqT K H a xs)(_:xs.length=n)(_:t xs σ H Q)
theorem Vo(hc:X.calm=true)(h:PGs X es t)
 (J:(gN es X.env).length=n:=by rfl) (Y:(gN es X.env).findIdx? (·.1)=none:=by rfl):PG X (.Tuple es k pos) (VZ X.K n t):=by
 intro pins s σ H v u Q I r hw;obtain⟨a,xs,e1,hq,hl,hw⟩:=hw;subst e1;cases r;obtain⟨aa,O,ht,hz⟩:=I.tuple hq;refine assign_Tuple_tuple (I.ok.hd hc) ht (by simp[J,<- hl,O.length]) Y λh' hx=>?_
 have I1:Inv X pins σ H { s with heap:=h' }:=I.kept (t':=s.toks) λb o e=>hx b o (Zy (Heap.lt_size e)) e
 exact h pins _ σ H xs _ Q I1 (by simpa using O) hw
def Xb(to ti:TE)(t:Wc):TG:=λv σ H Q=>to σ H λo H1=>ti σ H1 λi H2=>t o i v H2 λH3=>Q σ H3
theorem K5(ho:PE X o to)(hi:PE X i J)(hs:WW X t)
 (ha:∀v,assign (.Subscript o i pos) X.env v=(do
  let Y <- holding [v] (gu o X.env)
  let O <- holding [v,Y] (gu i X.env)
  standAt pos
  holding [v,Y,O] (setItem Y O v)
  release [v,Y,O] []):=by intro _;rfl):PG X (.Subscript o i pos) (Xb to J t):=by
 intro pins s σ H v u Q I r h;rw[ha];refine fW (wpAny_holding (thn (ho pins s σ H _ I h) λY s1 ⟨x,H1,I1,r1,q1⟩=>?_));refine fW (wpAny_holding (thn (hi pins s1 σ H1 _ I1 q1) λO s2 ⟨y,H2,I2,r2,q2⟩=>?_));refine fW (g6 (fW (wpAny_holding (thn (hs pins s2 σ H2 x y v Y O u _ I2 r1 r2 r q2) λ_ s3 ⟨H3,I3,q3⟩=>?_))));exact wpAny_release ⟨σ,H3,I3,q3⟩
def RN(te:TE)(g:TG):TS:=λD σ H=>te σ H λx H1=>g x σ H1 D.nx
theorem Iu(he:PE X e te)(hg:PG X tg g)(hs:swapsWithSole [tg] e pos.line X.env=pure false:=by rfl)(hw:swappedStores [tg] e X.env=pure none:=by rfl)
 (h1:(gN [tg] X.env).map (·.2)=[assign tg X.env]:=by rfl):PS X (.Assign [tg] e pos) (RN te g):=by
 intro pins s σ H D I h;refine wpAny_Assign_stores (thn (he pins s σ H _ I h) λv Y ⟨x,H1,O,r1,J⟩=>?_) hs hw;rw[h1];exact thn (hg pins Y σ H1 x v _ O r1 J) λ_ s2 q=>q
theorem HD(Y:X.N.Nodup)(hi:X.N[i]? = some x)(hx:Loc X.env.scope x)(he:PE X e te)(hs:swapsWith e (some (.Name x pos')) pos.line X.env=pure false:=by rfl)(hf:X.fn x=true\/X.env.scope.names.lookup x=some .local:=by first | exact .inl rfl | exact .inr rfl | assumption) :
 PS X (.Assign [.Name x pos'] e pos) (RN te (HH i)):=by
 intro pins s σ H D I h;refine wpAny_Assign_Name (thn (he pins s σ H _ I h) λv s1 ⟨y,H1,O,r1,J⟩=>?_) hs;exact IE O Y hi hx r1 (λs2 I2=>⟨_,H1,I2,J⟩) hf
def X7(i j:Nat)(ta:TA):TS:=λD σ H=>ta σ H λvs H1=>∃v w,vs=[v,w]/\D.nx ((σ.set i (some v)).set j (some w)) H1
theorem OY{kt k2 pt2}(hc:X.calm=true)(hN:X.N.Nodup)(hi:X.N[i]? = some x)(hj:X.N[j]? = some y)(ad:i≠j)
 (hx:X.env.scope.names.lookup x=some .local) (hy:X.env.scope.names.lookup y=some .local) (ha:PA X [a,b] ta)
 (hw:swappedStores [.Tuple [.Name x px,.Name y py] kt pt] (.Tuple [a,b] k2 pt2) X.env=pure (some [x,y]))
 (hs:swapsWithSole [.Tuple [.Name x px,.Name y py] kt pt] (.Tuple [a,b] k2 pt2) pos.line X.env=pure false:=by rfl) :
 PS X (.Assign [.Tuple [.Name x px,.Name y py] kt pt] (.Tuple [a,b] k2 pt2) pos) (X7 i j ta):=by
 intro pins s σ H D I h;rw[exec_Assign_arm];refine fW (g6 ?_);rw[hs];refine fW (gj ?_);rw[if_neg Yd];refine fW (Tuple_ (thn (ha _ pins s σ H _ I h) λus O ⟨vs,H1,I1,r1,q1⟩=>?_));obtain⟨v,w,e1,q1⟩:=q1;subst e1
 obtain⟨J,Y,rfl,rv,ac⟩:∃J Y,us=[J,Y]/\Fg v J/\Fg w Y:=by
  cases r1 with
  | cons p q =>
    cases q with
    | cons p' q' =>
      cases q';exact⟨_,_,Z,p,p'⟩
 refine gZ ?_ (by show 2<=dl;decide)
 have I2:Inv X pins σ H1 { O with heap:=O.heap.push { cls:=.type "tuple",data:=.seq [J,Y].toArray } }:=I1.kept (t':=O.toks) λb o e=>Heap.get?_push_of_some _ e
 rw[hw];refine fW (gj ?_);show ge (gh X.prog X.w) X.A (do rule "assign.swapped-stores";let items <- unpackItems (.ref O.heap.objs.size) 2 none;assignInOrder [λv=>bindName X.env y v,λv=>bindName X.env x v] items.reverse;pure Flow.next) _ _ _
 refine fW (wpAny_rule (fW (unpackItems_tuple (items:=#[J,Y]) (I.ok.hd hc) (IsTup.new O.heap _) λh' aa=>?_)));have I3:=I2.kept (h':=h') (t':=O.toks) λb o e=>aa b o (Zy (Heap.lt_size e)) e;show ge _ _ (assignInOrder [λv=>bindName X.env y v,λv=>bindName X.env x v] [Y,J] >>= λ_=>pure Flow.next) _ _ _;refine fW (gX (wpAny_bindName (IE I3 hN hj (.inl hy) ac (λs2 I4=>?_) (.inr hy))));refine gX (wpAny_bindName (IE I4 hN hi (.inl hx) rv (λs3 I5=>assignInOrder_nil (gj ?_)) (.inr hx)));rw[List.set_comm _ _ (Ne.symm ad)]at I5;exact⟨_,H1,I5,q1⟩
end
section
variable {X:Cx}{pos:Pos}
def OL(c:TT)(tb:TS):TS:=λD σ H=>∃W:Nat->St->Hp->Prop,(∃m,W m σ H)/\∀m σ H,W m σ H ->
 c σ H λb H1=>if b=true then ∃N:St->Hp->Prop,(∀σ' H',N σ' H'->∃m',m'<m/\W m' σ' H')/\tb { D with nx:=N,ct:=N,bk:=D.nx } σ H1 else D.nx σ H1
theorem GK(hp:PassesOwn (gh X.prog X.w) X.A X.env X.xe)(hc:PT X c tc)(hb:PSs X J tb):PS X (.While c J [] pos) (OL tc tb):=by
 intro pins s σ H D I h;obtain⟨W,⟨m0,w0⟩,aa⟩:=h;refine wpAny_While (codeAny_whileLoop (λn s'=>∃ac H',Inv X pins ac H' s'/\W n ac H') ?_ m0 ⟨σ,H,I,w0⟩);rintro n s1 ⟨O,H1,I1,w1⟩;refine gG hp (thn (hc pins s1 O H1 _ I1 (aa n O H1 w1)) λb s2 ⟨H2,I2,q2⟩=>?_);cases b with
 | true =>
   obtain⟨N,hN,q2⟩:=q2;rw[if_pos rfl];refine gG hp (thn (hb pins s2 O H2 _ I2 q2) λf s3 q3=>?_);cases f with
   | next =>
     obtain⟨Y,H3,I3,n3⟩:=q3;obtain⟨m',hm,w3⟩:=hN Y H3 n3;exact⟨m',hm,Y,H3,I3,w3⟩
   | cont =>
     obtain⟨Y,H3,I3,n3⟩:=q3;obtain⟨m',hm,w3⟩:=hN Y H3 n3;exact⟨m',hm,Y,H3,I3,w3⟩
   | brk=>exact q3
   | ret v=>exact q3
 | false =>
   rw[if_neg Bool.false_ne_true];exact gF ⟨O,H2,I2,q2⟩
end
structure It where
 go:Nat->Hp->Prop
 yld:Nat->Hp->V->Hp->Prop
 stop:Nat->Hp->Prop
def NA(X:Cx)(pins:List (ce×Obj))(H:Hp)(b:ce):Prop :=
 H b=none/\b≠X.env.locals/\b∉X.fs/\(b∈X.ex\/X.s₀.heap.objs.size<=b)/\(∀x c,X.env.cells.lookup x=some c->c≠b)/\∀p∈X.pn++pins,p.1≠b
theorem Inv.fpOk(I:Inv X pins σ H s)(Y:s.heap.objs.size<=b)(J:H' b=none):NA X pins H' b:=by
 refine⟨J,Nat.ne_of_gt (Zw I.lt Y),I.nofs Y,.inr (ZF I.sz Y),λx c e z=>?_,λp O z=>?_⟩
 ·obtain⟨v,q⟩:=I.cell x c e;exact absurd (Zw q.lt (by rw[z];exact Y)) (Zx _)
 ·exact absurd (Zw (Heap.lt_size (I.pin p O).1) (by rw[z];exact Y)) (Zx _)
structure Px(P:fV)(w:fY)(K:ZE)(tg:Expr)(J:It)(fp:List ce)(it:ce)(tn:Nat->gi->Prop):Prop where
 mem:it∈fp
 obj:∀i h,tn i h->∀b∈fp,∃o,h.get? b=some o/\∀v,o.data ≠ .cell v
 keep:∀i h h',tn i h->(∀b∈fp,∀o,h.get? b=some o->h'.get? b=some o)->tn i h'
 item:∀(X:Cx),X.prog=P->X.w=w->X.K=K->X.calm=true->∀(i:Nat) (pins:List (ce×Obj)) (s:db) (σ:St) (H:Hp) (E:cr->db->Prop),Inv X pins σ H s->(∀b∈fp,NA X pins H b)->tn i s.heap->J.go i H ->
  ge (gh P w) X.A (pyNext (.ref it)) (λr s1=>∃u,r=some u /\
   ge (gh P w) X.A (gU tg (.ref it) u) (λ_ s2=>∃x H',Inv X pins σ H' s2/\Fg x u/\J.yld i H x H'/\tn (i+1) s2.heap/\∀b∈fp,H' b=none) E s1) E s
 done:∀(X:Cx),X.prog=P->X.w=w->X.K=K->X.calm=true->∀(i:Nat) (pins:List (ce×Obj)) (s:db) (σ:St) (H:Hp) (E:cr->db->Prop),Inv X pins σ H s->(∀b∈fp,NA X pins H b)->tn i s.heap->J.stop i H ->
  ge (gh P w) X.A (pyNext (.ref it)) (λr s1=>r=none/\Inv X pins σ H s1) E s
 self:∀(A:fZ) (i:Nat) (s:db) (Q:cr->db->Prop) (E:cr->db->Prop),tn i s.heap->Q (.ref it) s->ge (gh P w) A (pyIter (.ref it)) Q E s
abbrev TI:=St->Hp->(It->Hp->Prop)->Prop
def PIE(X:Cx)(pins:List (ce×Obj))(σ:St)(tg:Expr)(R:It->Hp->Prop)(itv:cr)(s2:db):Prop :=
 ∃(it:ce) (fp:List ce) (tn:Nat->gi->Prop) (J:It) (H':Hp),itv = .ref it/\Inv X pins σ H' s2/\Px X.prog X.w X.K tg J fp it tn/\tn 0 s2.heap/\(∀b∈fp,NA X pins H' b)/\R J H'
def PI(X:Cx)(tg iter:Expr)(wi:TI):Prop :=
 ∀ (pins:List (ce×Obj)) (s:db) (σ:St) (H:Hp) (R:It->Hp->Prop),Inv X pins σ H s->wi σ H R ->
   ge (gh X.prog X.w) X.A (gu iter X.env) (λv s1=>ge (gh X.prog X.w) X.A (pyIter v) (PIE X pins σ tg R) X.xe s1) X.xe s
theorem Od{it:ce}(O:s.heap.get? it=some o)(J:o.cls = .type n)(hd:o.data = .fields vs)
 (hn:["enumerate","zip","dict_itemiterator","dict_reverseitemiterator","odict_iterator","itertools.zip_longest","itertools.pairwise"].contains n=false) (Y:Q () s):ge M A (gU tg (.ref it) u) Q E s:=by
 unfold gU
 cases tg<;>first
  | exact gj Y
  | (cases u<;>first
   | exact gj Y
   | (refine fW (wpAny_load O ?_)
      rw[J,hd];show ge M A (if (["enumerate","zip","dict_itemiterator","dict_reverseitemiterator","odict_iterator","itertools.zip_longest","itertools.pairwise"].contains n&&vs[0]? == some (hG _))=true then _ else _) Q E s;rw[if_neg (by intro h;rw[hn,Bool.false_and]at h;cases h)]
      exact gj Y))
def Itl(K:ZE)(a:ce):It :=
 ⟨λi H=>∃xs x,SqL K H a xs/\xs[i]? = some x,λi H x H'=>H'=H/\∀xs,SqL K H a xs->xs[i]? = some x,λi H=>∃xs,SqL K H a xs/\xs.length<=i⟩
def Itt(K:ZE)(a:ce):It :=
 ⟨λi H=>∃xs x,SqT K H a xs/\xs[i]? = some x,λi H x H'=>H'=H/\∀xs,SqT K H a xs->xs[i]? = some x,λi H=>∃xs,SqT K H a xs/\xs.length<=i⟩
def Itr(lo:Int)(n:Nat):It:=⟨λi _=>i<n,λi H x H'=>H'=H/\x = .int (lo+i),λi _=>n<=i⟩
theorem R3{P:fV}{w:fY}{K:ZE}{tg:Expr}(a it:ce):Px P w K tg (Itl K a) [it] it (λi h=>h.IsListIter it a i) where
 mem:=by simp
 obj:=λi h st b Y=>by
  have e:b=it:=by simpa using Y
  subst e;obtain⟨o,e,c,d⟩:=st;exact⟨o,e,λv z=>by rw[d]at z;cases z⟩
 keep:=λi h h' st k=>st.at λo e=>k it (by simp) o e
 item:=by
  intro X hP hw hK hc i pins s σ H E I hf st hg;subst hP hw hK;obtain⟨xs,x,J,hx⟩:=hg;obtain⟨aa,rv,p,hz⟩:=I.list J;obtain⟨u,hu,ru⟩:=rv.get hx;obtain⟨f0,f1,f2,f3,f4,f5⟩:=hf it (by simp)
  refine wpAny_pyNext_list_item st p.isList (x:=u) (by simpa using hu) λh' O sb=>?_
  have I1:Inv X pins σ H { s with heap:=h' }:=I.turned (t':=s.toks) (λb o Y e=>(sb.2 b Y).trans e) f0 f1 f3 f4 f5
  obtain⟨o,e,c,d⟩:=id O;exact⟨u,Z,Od (s:={ s with heap:=h' }) e c d Yd ⟨x,H,I1,ru,⟨rfl,λys hy=>by rw[I.list_inj hy J];exact hx⟩,O,λb Y=>(hf b Y).1⟩⟩
 done:=by
  intro X hP hw hK hc i pins s σ H E I hf st hg;subst hP hw hK;obtain⟨xs,J,hx⟩:=hg;obtain⟨aa,rv,p,hz⟩:=I.list J;obtain⟨f0,f1,f2,f3,f4,f5⟩:=hf it (by simp)
  have hl:=rv.length;exact wpAny_pyNext_list_end (I.ok.hd hc) st p.isList (by simp;lia) λh' eb=>⟨Z,I.turned (t':=s.toks) (λb o Y e=>eb b o Y e) f0 f1 f3 f4 f5⟩
 self:=λ_ _ _ _ _ st h=>wpAny_pyIter_listiter st h
theorem OG{P:fV}{w:fY}{K:ZE}{tg:Expr}(a it:ce):Px P w K tg (Itt K a) [it] it (λi h=>h.IsTupleIter it a i) where
 mem:=by simp
 obj:=λi h st b Y=>by
  have e:b=it:=by simpa using Y
  subst e;obtain⟨o,e,c,d⟩:=st;exact⟨o,e,λv z=>by rw[d]at z;cases z⟩
 keep:=λi h h' st k=>st.at λo e=>k it (by simp) o e
 item:=by
  intro X hP hw hK hc i pins s σ H E I hf st hg;subst hP hw hK;obtain⟨xs,x,hq,hx⟩:=hg;obtain⟨O,rv,p,hz⟩:=I.tuple hq;obtain⟨u,hu,ru⟩:=rv.get hx;obtain⟨f0,f1,f2,f3,f4,f5⟩:=hf it (by simp)
  refine wpAny_pyNext_tuple_item st (show s.heap.IsTuple a O.toArray from p) (x:=u) (by simpa using hu) λh' J sb=>?_
  have I1:Inv X pins σ H { s with heap:=h' }:=I.turned (t':=s.toks) (λb o Y e=>(sb.2 b Y).trans e) f0 f1 f3 f4 f5
  obtain⟨o,e,c,d⟩:=id J;exact⟨u,Z,Od (s:={ s with heap:=h' }) e c d Yd ⟨x,H,I1,ru,⟨rfl,λys hy=>by rw[I.tuple_inj hy hq];exact hx⟩,J,λb Y=>(hf b Y).1⟩⟩
 done:=by
  intro X hP hw hK hc i pins s σ H E I hf st hg;subst hP hw hK;obtain⟨xs,hq,hx⟩:=hg;obtain⟨O,rv,p,hz⟩:=I.tuple hq;obtain⟨f0,f1,f2,f3,f4,f5⟩:=hf it (by simp)
  have hl:=rv.length;exact wpAny_pyNext_tuple_end (I.ok.hd hc) st (show s.heap.IsTuple a O.toArray from p) (by simp;lia) λh' eb=>⟨Z,I.turned (t':=s.toks) (λb o Y e=>eb b o Y e) f0 f1 f3 f4 f5⟩
 self:=λ_ _ _ _ _ st h=>wpAny_pyIter_tupleiter st h
theorem OH{P:fV}{w:fY}{K:ZE}{tg:Expr}(it:ce)(lo:Int)(n:Nat):Px P w K tg (Itr lo n) [it] it (λi h=>IsRangeIter h it (lo+(i:Nat)*1) ((n:Int)-(i:Nat)) 1) where
 mem:=by simp
 obj:=λi h st b Y=>by
  have e:b=it:=by simpa using Y
  subst e
  exact⟨_,st,λv z=>by
   have z':Data.fields _=Data.cell v:=z;cases z'⟩
 keep:=λi h h' st k=>k it (by simp) _ st
 item:=by
  intro X hP hw hK hc i pins s σ H E I hf st hg;subst hP hw hK;obtain⟨f0,f1,f2,f3,J,f5⟩:=hf it (by simp)
  have W:=Walks.range (prog:=X.prog) (w:=X.w) (I.ok.hd hc) it lo 1 n;refine W.item i s _ _ hg st λv h' tk hv O kk=>?_;obtain⟨t,rfl⟩:=hv;have I1:Inv X pins σ H { s with heap:=h',toks:=tk }:=I.turned (λb o Y e=>kk b o (by simpa using Y) e) f0 f1 f3 J f5
  refine⟨_,Z,Od (s:={ s with heap:=h',toks:=tk }) (n:="range_iterator") O rfl rfl Yd ⟨.int (lo+i),H,I1,⟨t,?_⟩,⟨rfl,rfl⟩,O,λb Y=>(hf b Y).1⟩⟩
  rw[Int.mul_one]
 done:=by
  intro X hP hw hK hc i pins s σ H E I hf st hg;subst hP hw hK;obtain⟨f0,f1,f2,f3,J,f5⟩:=hf it (by simp)
  exact wpAny_pyNext_range_end (I.ok.hd hc) st (by have:n<=i:=hg;lia) λh' eb=>⟨Z,I.turned (t':=s.toks) (λb o Y e=>eb b o Y e) f0 f1 f3 J f5⟩
 self:=λ_ _ _ _ _ st h=>wpAny_pyIter_rangeiter st h
section
variable {X:Cx}{tg:Expr}
def Qs(K:ZE)(tl:TE):TI:=λσ H R=>tl σ H λx H1=>∃a,x = .ref a/\(∃xs,SqL K H1 a xs)/\R (Itl K a) H1
def VW(K:ZE)(tl:TE):TI:=λσ H R=>tl σ H λx H1=>∃a,x = .ref a/\(∃xs,SqT K H1 a xs)/\R (Itt K a) H1
theorem Q8(hl:PE X l tl):PI X tg l (Qs X.K tl):=by
 intro pins s σ H R I h;refine thn (hl pins s σ H _ I h) λv Y ⟨x,H1,O,r1,q1⟩=>?_;obtain⟨a,e,⟨xs,hq⟩,q⟩:=q1;subst e;cases r1;obtain⟨aa,rv,p,hz⟩:=O.list hq;refine wpAny_pyIter_list p.isList ?_;refine⟨Y.heap.objs.size,[Y.heap.objs.size],_,_,H1,Z,O.kept (t':=Y.toks) λb o e=>Heap.get?_push_of_some _ e,R3 a _,⟨_,Heap.get?_push_size _ rfl,Z,Z⟩,λb J=>?_,q⟩;have e:b=Y.heap.objs.size:=by simpa using J
 subst e;exact O.fpOk (ZR _) (O.hok.fresh (ZR _))
theorem Sd(hl:PE X l tl):PI X tg l (VW X.K tl):=by
 intro pins s σ H R I h;refine thn (hl pins s σ H _ I h) λv Y ⟨x,H1,O,r1,q1⟩=>?_;obtain⟨a,e,⟨xs,hq⟩,q⟩:=q1;subst e;cases r1;obtain⟨J,rv,p,hz⟩:=O.tuple hq;refine wpAny_pyIter_tuple (show Y.heap.IsTuple a J.toArray from p) ?_;refine⟨Y.heap.objs.size,[Y.heap.objs.size],_,_,H1,Z,O.kept (t':=Y.toks) λb o e=>Heap.get?_push_of_some _ e,OG a _,⟨_,Heap.get?_push_size _ rfl,Z,Z⟩,λb hb=>?_,q⟩;have e:b=Y.heap.objs.size:=by simpa using hb
 subst e;exact O.fpOk (ZR _) (O.hok.fresh (ZR _))
theorem NO{lo hi:Int}{tk:Nat}(I:Inv X pins σ H s)(h1 : -(2 ^ 62)<=lo)(h2:lo<2 ^ 62)(J : -(2 ^ 62)<=hi)(h4:hi<2 ^ 62)
 (q:R (Itr lo (hi-lo).toNat) H):ge (gh X.prog X.w) X.A (pyIter (.ref s.heap.objs.size)) (PIE X pins σ tg R) E { s with heap:=s.heap.push { cls:=.type "range",data:=.fields #[.int lo t,.int hi u,.int 1 v] },toks:=tk }:=by
 refine wpAny_pyIter_range (IsRange.new ..) (small_one h1 h2 J h4) ?_;have Y:Inv X pins σ H { s with heap:=s.heap.push { cls:=.type "range",data:=.fields #[.int lo t,.int hi u,.int 1 v] },toks:=tk }:=I.kept λb o e=>Heap.get?_push_of_some _ e
 refine⟨(s.heap.push { cls:=.type "range",data:=.fields #[.int lo t,.int hi u,.int 1 v] }).objs.size,[(s.heap.push { cls:=.type "range",data:=.fields #[.int lo t,.int hi u,.int 1 v] }).objs.size],_,_,H,Z,
  Y.kept (t':=tk) λb o e=>Heap.get?_push_of_some _ e,OH _ lo (hi-lo).toNat,?_,λb hb=>?_,q⟩
 ·have e1:lo+((0:Nat):Int)*1=lo:=by simp
  have O:(((hi-lo).toNat:Nat):Int)-((0:Nat):Int)=Builtin.Range.rangeSize lo hi 1:=by rw[rangeSize_one];split<;>lia
  show IsRangeIter _ _ (lo+((0:Nat):Int)*1) ((((hi-lo).toNat:Nat):Int)-((0:Nat):Int)) 1;rw[e1,O];exact Heap.get?_push_size _ rfl
 ·have e:b=(s.heap.push { cls:=.type "range",data:=.fields #[.int lo t,.int hi u,.int 1 v] }).objs.size:=by simpa using hb
  subst e;exact Y.fpOk (ZR _) (Y.hok.fresh (ZR _))
def WL(ta:TA):TI:=λσ H R=>ta σ H λvs H1=>∃j:Int,vs=[.int j] /\ -(2 ^ 62)<=j/\j<2 ^ 62/\R (Itr 0 j.toNat) H1
def WK(ta:TA):TI:=λσ H R=>ta σ H λvs H1=>∃i j:Int,vs=[.int i,.int j]/\(-(2 ^ 62)<=i/\i<2 ^ 62 /\ -(2 ^ 62)<=j/\j<2 ^ 62)/\R (Itr i (j-i).toNat) H1
theorem FD(hg:Gl X "range")(O:X.mg "range" = none)(ha:PA X [a] ta)(hs:fU [a] X.env=[(false,gu a X.env)]:=by rfl):PI X tg (.Call (.Name "range" p) [a] [] pos) (WL ta):=by
 intro pins s σ H R I h;refine Call_ (Ka I hg O boot_range (PyProof.Rows.callWith_type1 (thn (ha pos pins s σ H _ I h) λus s1 ⟨vs,H1,J,r1,Y⟩=>?_) hs rfl));obtain⟨j,e,Y,q2,q⟩:=Y;subst e;cases r1 with
 | cons r rr =>
   cases rr;obtain⟨t,rfl⟩:=r;exact call_range_1 (NO J Yl Yl Y q2 (by simpa using q))
theorem Ma(hg:Gl X "range")(hm:X.mg "range" = none)(ha:PA X [a,b] ta)(hs:fU [a,b] X.env=[(false,gu a X.env),(false,gu b X.env)]:=by rfl)(Y:fU [b] X.env=[(false,gu b X.env)]:=by rfl) :
 PI X tg (.Call (.Name "range" p) [a,b] [] pos) (WK ta):=by
 intro pins s σ H R I h;refine Call_ (Ka I hg hm boot_range (PyProof.Rows.callWith_type1 (thn (ha pos pins s σ H _ I h) λus s1 ⟨vs,H1,I1,r1,O⟩=>?_) (by rw[hs,Y]) (by rw[Y];rfl)))
 obtain⟨i,j,e,⟨O,q2,J,q4⟩,q⟩:=O;subst e;cases r1 with
 | cons r rr =>
   cases rr with
   | cons r' rr =>
     cases rr;obtain⟨t,rfl⟩:=r;obtain⟨t',rfl⟩:=r';exact call_range_2 (NO I1 O q2 J q4 q)
def Va(wi:TI)(g:TG)(tb:TS):TS:=λD σ H=>wi σ H λJ H1=>∃W:Nat->Nat->St->Hp->Prop,(∃m,W 0 m σ H1)/\∀i m σ H,W i m σ H ->
 (J.stop i H/\D.nx σ H)\/(J.go i H/\∃N:St->Hp->Prop,(∀σ' H',N σ' H'->∃m',m'<m/\W (i+1) m' σ' H')/\∀x H',J.yld i H x H'->g x σ H' λσ2 H2=>tb { D with nx:=N,ct:=N,bk:=D.nx } σ2 H2)
def L0(fp:List ce)(h:gi):List (ce×Obj):=fp.filterMap λb=>(h.get? b).map λo=>(b,o)
theorem Iy(Y:b∈fp)(e:h.get? b=some o):(b,o)∈L0 fp h:=ZS.mpr ⟨b,Y,by rw[e];rfl⟩
theorem Rh(J:p∈L0 fp h):p.1∈fp/\h.get? p.1=some p.2:=by
 obtain⟨b,Y,e⟩:=ZS.mp J;cases q:h.get? b with
 | none=>rw[q]at e;cases e
 | some o =>
   rw[q]at e;have O:(b,o)=p:=Zu.inj e;subst O;exact⟨Y,q⟩
theorem Inv.pinned(I:Inv X pins σ H s)(hf:∀b∈fp,NA X pins H b)(ho:∀b∈fp,∃o,s.heap.get? b=some o/\∀v,o.data ≠ .cell v):Inv X (pins++L0 fp s.heap) σ H s :=
 I.pins_of λp hp=>(ZM.mp hp).elim (λz=>I.pin p (ZT _ z)) λz=>by
  obtain⟨O,e⟩:=Rh z;obtain⟨f0,J,f2,_⟩:=hf p.1 O;obtain⟨o,Y,d⟩:=ho p.1 O;rw[e]at Y;cases Y;exact⟨e,f0,J,f2,d⟩
theorem Inv.unpinned(I:Inv X (pins++Y) σ H s):Inv X pins σ H s:=I.pins_of λp O=>I.pin p (ZT _ (ZN _ O))
theorem Vm(hp:PassesOwn (gh X.prog X.w) X.A X.env X.xe)(hc:X.calm=true)(hi:PI X tg iter wi)(hg:PG X tg g)(hb:PSs X af tb)
 (hs:∀x,gQ iter X.env x=pure x:=by intro _;rfl):PS X (.For tg iter af [] pos) (Va wi g tb):=by
 intro pins s σ H D I h;refine wpAny_For (thn (hi pins s σ H _ I h) λv s1 h1=>thn h1 λaq s2 h2=>?_) hs;obtain⟨it,fp,tn,J,H2,e,I2,T,an,f2,W,⟨m0,w0⟩,aj⟩:=h2;subst e
 -- what stays true of the iterator's objects through the loop
 have ae:∀{H':Hp},(∀b∈fp,H' b=none)->∀b∈fp,NA X pins H' b:=λhn b hb=>⟨hn b hb,(f2 b hb).2⟩;refine codeAny_forLoop_any (λn s'=>∃i ad H',Inv X pins ad H' s'/\tn i s'.heap/\(∀b∈fp,H' b=none)/\W i n ad H') ?_ m0 ⟨0,σ,H2,I2,an,λb hb=>(f2 b hb).1,w0⟩;rintro n s3 ⟨i,ac,H3,I3,ah,ak,w3⟩
 rcases aj i n ac H3 w3 with ⟨al,qn⟩ | ⟨go,N,hN,ai⟩
 ·refine gG hp (thn (T.done X rfl rfl rfl hc i pins s3 ac H3 X.xe I3 (ae ak) ah al) λr s4 ⟨hr,I4⟩=>?_);subst hr;exact gF ⟨ac,H3,I4,qn⟩
 ·refine gG hp (thn (T.item X rfl rfl rfl hc i pins s3 ac H3 X.xe I3 (ae ak) ah go) λr s4 ⟨u,hr,h4⟩=>?_);subst hr;refine gG hp (thn h4 λ_ s5 ⟨x,H5,I5,r5,y5,ag,am⟩=>?_);have ao:=I5.pinned (ae am) (T.obj _ _ ag);refine gG hp (thn (hg _ s5 ac H5 x u _ ao r5 (ai x H5 y5)) λ_ s6 ⟨ap,H6,I6,q6⟩=>?_);refine gG hp (thn (hb _ s6 ap H6 _ I6 q6) λf s7 q7=>?_)
  have aa:∀{Y:St} {H7:Hp},Inv X (pins++L0 fp s5.heap) Y H7 s7->N Y H7->∃m,m<n/\∃i ad H',Inv X pins ad H' s7/\tn i s7.heap/\(∀b∈fp,H' b=none)/\W i m ad H':=fun{Y H7} O n7=>by
   obtain⟨m',hm,w7⟩:=hN Y H7 n7;refine⟨m',hm,i+1,Y,H7,O.unpinned,T.keep _ _ _ ag λb hb o e=>(O.pin (b,o) (ZT _ (ZT _ (Iy hb e)))).1,λb hb=>?_,w7⟩;obtain⟨o,e,d⟩:=T.obj _ _ ag b hb;exact(O.pin (b,o) (ZT _ (ZT _ (Iy hb e)))).2.1
  cases f with
  | next=>obtain⟨Y,H7,O,n7⟩:=q7;exact aa O n7
  | cont=>obtain⟨Y,H7,O,n7⟩:=q7;exact aa O n7
  | brk=>obtain⟨Y,H7,O,q7⟩:=q7;exact⟨Y,H7,O.unpinned,q7⟩
  | ret v=>obtain⟨x7,Y,H7,O,r7,q7⟩:=q7;exact⟨x7,Y,H7,O.unpinned,r7,q7⟩
end
theorem JM{K:ZE}{a:ce}{xs:List V}{g:TG}{tb:TS}{D:IA}{σ:St}{H:Hp}(Y:Nat->St->Hp->Prop)(h0:Y 0 σ H)(hl:∀i σ H,i<=xs.length->Y i σ H->SqL K H a xs)
 (hs:∀i x σ H,xs[i]? = some x->Y i σ H->g x σ H λO H2=>tb { D with nx:=Y (i+1),ct:=Y (i+1),bk:=D.nx } O H2) (hd:∀σ H,Y xs.length σ H->D.nx σ H) :
 ∃ W:Nat->Nat->St->Hp->Prop,(∃m,W 0 m σ H)/\∀i m σ H,W i m σ H ->
   ((Itl K a).stop i H/\D.nx σ H)\/((Itl K a).go i H/\∃N:St->Hp->Prop,(∀J H',N J H'->∃m',m'<m/\W (i+1) m' J H')/\∀x H',(Itl K a).yld i H x H'->g x σ H' λO H2=>tb { D with nx:=N,ct:=N,bk:=D.nx } O H2):=by
 refine⟨λi m σ H=>m=xs.length-i/\i<=xs.length/\Y i σ H,⟨xs.length,by simp,ZU _,h0⟩,?_⟩
 rintro i m σ H ⟨rfl,hi,p⟩;have q:=hl i σ H hi p;by_cases hlt:i<xs.length
 ·refine .inr ⟨⟨xs,xs[i],q,by simp[hlt]⟩,Y (i+1),λJ H' p'=>⟨xs.length-(i+1),Yl,Z,hlt,p'⟩,λx H' y=>?_⟩
  obtain⟨e,y⟩:=y;subst e;exact hs i x σ _ (y xs q) p
 ·have e:i=xs.length:=by lia
  subst e;exact .inl ⟨⟨xs,q,ZR _⟩,hd σ H p⟩
theorem KD{K:ZE}{a:ce}{xs:List V}{g:TG}{tb:TS}{D:IA}{σ:St}{H:Hp}(Y:Nat->St->Hp->Prop)(h0:Y 0 σ H)(hl:∀i σ H,i<=xs.length->Y i σ H->SqT K H a xs)
 (hs:∀i x σ H,xs[i]? = some x->Y i σ H->g x σ H λO H2=>tb { D with nx:=Y (i+1),ct:=Y (i+1),bk:=D.nx } O H2) (hd:∀σ H,Y xs.length σ H->D.nx σ H) :
 ∃ W:Nat->Nat->St->Hp->Prop,(∃m,W 0 m σ H)/\∀i m σ H,W i m σ H ->
   ((Itt K a).stop i H/\D.nx σ H)\/((Itt K a).go i H/\∃N:St->Hp->Prop,(∀J H',N J H'->∃m',m'<m/\W (i+1) m' J H')/\∀x H',(Itt K a).yld i H x H'->g x σ H' λO H2=>tb { D with nx:=N,ct:=N,bk:=D.nx } O H2):=by
 refine⟨λi m σ H=>m=xs.length-i/\i<=xs.length/\Y i σ H,⟨xs.length,by simp,ZU _,h0⟩,?_⟩
 rintro i m σ H ⟨rfl,hi,p⟩;have q:=hl i σ H hi p;by_cases hlt:i<xs.length
 ·refine .inr ⟨⟨xs,xs[i],q,by simp[hlt]⟩,Y (i+1),λJ H' p'=>⟨xs.length-(i+1),Yl,Z,hlt,p'⟩,λx H' y=>?_⟩
  obtain⟨e,y⟩:=y;subst e;exact hs i x σ _ (y xs q) p
 ·have e:i=xs.length:=by lia
  subst e;exact .inl ⟨⟨xs,q,ZR _⟩,hd σ H p⟩
theorem G4{lo:Int}{n:Nat}{g:TG}{tb:TS}{D:IA}{σ:St}{H:Hp}(J:Nat->St->Hp->Prop)(h0:J 0 σ H)
 (hs:∀i σ H,i<n->J i σ H->g (.int (lo+i)) σ H λY H2=>tb { D with nx:=J (i+1),ct:=J (i+1),bk:=D.nx } Y H2) (hd:∀σ H,J n σ H->D.nx σ H) :
 ∃ W:Nat->Nat->St->Hp->Prop,(∃m,W 0 m σ H)/\∀i m σ H,W i m σ H ->
   ((Itr lo n).stop i H/\D.nx σ H)\/((Itr lo n).go i H/\∃N:St->Hp->Prop,(∀O H',N O H'->∃m',m'<m/\W (i+1) m' O H')/\∀x H',(Itr lo n).yld i H x H'->g x σ H' λY H2=>tb { D with nx:=N,ct:=N,bk:=D.nx } Y H2):=by
 refine⟨λi m σ H=>m=n-i/\i<=n/\J i σ H,⟨n,by simp,ZU _,h0⟩,?_⟩
 rintro i m σ H ⟨rfl,hi,p⟩;by_cases hlt:i<n
 ·refine .inr ⟨hlt,J (i+1),λO H' p'=>⟨n-(i+1),Yl,Z,hlt,p'⟩,λx H' y=>?_⟩;obtain⟨e,y⟩:=y;subst e y;exact hs i σ _ hlt p
 ·have e:i=n:=by lia
  subst e;exact .inl ⟨ZR _,hd σ H p⟩
theorem NF(Pv:St->Hp->Prop)(O:St->Hp->Nat)(h0:Pv σ H)
 (hs:∀σ H,Pv σ H->c σ H λb H1=>if b=true then tb { D with nx:=λY H'=>Pv Y H'/\O Y H'<O σ H,ct:=λY H'=>Pv Y H'/\O Y H'<O σ H,bk:=D.nx } σ H1 else D.nx σ H1)
 (J:∀σ H Q Q',(∀b H1,Q b H1->Q' b H1)->c σ H Q->c σ H Q'):OL c tb D σ H:=by
 refine⟨λm σ H=>m=O σ H/\Pv σ H,⟨_,Z,h0⟩,?_⟩;rintro m σ H ⟨rfl,p⟩;refine J σ H _ _ (λb H1 q=>?_) (hs σ H p);cases b with
 | true=>exact⟨_,λY H' ⟨p',l⟩=>⟨_,l,Z,p'⟩,q⟩
 | false=>exact q
abbrev R2:=V->V->Hp->VK->Prop
def OpR(X:Cx)(f:cr->cr->Sem cr)(r:R2):Prop :=
 ∀ (pins:List (ce×Obj)) (s:db) (σ:St) (H:Hp) (x y:V) (v u:cr) (Q:VK),Inv X pins σ H s->Fg x v->Fg y u->r x y H Q ->
   ge (gh X.prog X.w) X.A (f v u) (EP X pins σ Q) X.xe s
def UnR(X:Cx)(f:cr->Sem cr)(r:V->Hp->VK->Prop):Prop :=
 ∀ (pins:List (ce×Obj)) (s:db) (σ:St) (H:Hp) (x:V) (v:cr) (Q:VK),Inv X pins σ H s->Fg x v->r x H Q ->
   ge (gh X.prog X.w) X.A (f v) (EP X pins σ Q) X.xe s
def IX(X:Cx)(f:cr)(r:List V->Hp->VK->Prop):Prop :=
 ∀ (pins:List (ce×Obj)) (s:db) (σ:St) (H:Hp) (xs:List V) (us:List cr) (Q:VK),Inv X pins σ H s->EN xs us->r xs H Q ->
   ge (gh X.prog X.w) X.A (call f us) (EP X pins σ Q) X.xe s
def tOp(r:R2)(ta tb:TE):TE:=λσ H Q=>ta σ H λx H1=>tb σ H1 λy H2=>r x y H2 Q
def tUn(r:V->Hp->VK->Prop)(ta:TE):TE:=λσ H Q=>ta σ H λx H1=>r x H1 Q
inductive rI(C:Int->Int->Prop)(g:Int->Int->V)(x:V)(y:V)(H:Hp)(Q:VK):Prop
 | mk(i:_)(j:_)(_:x = .int i)(_:y = .int j)(_:C i j)(_:Q (g i j) H)
inductive rI0(g:Int->Int->V)(x:V)(y:V)(H:Hp)(Q:VK):Prop
 | mk(i:_)(j:_)(_:x = .int i)(_:y = .int j)(_:Q (g i j) H)
inductive rU(g:Int->V)(x:V)(H:Hp)(Q:VK):Prop
 | mk(i:_)(_:x = .int i)(_:Q (g i) H)
section
variable {X:Cx}{a b c:Expr}{ta tb tc:TE}{pos:Pos}
theorem Wa(ha:PE X a ta)(hb:PE X b tb){pins:List (ce×Obj)}{s:db}{σ:St}{H:Hp}{R:V->V->Hp->Prop}(I:Inv X pins σ H s)
 (h:ta σ H λx H1=>tb σ H1 λy H2=>R x y H2) {Q:cr->db->Prop} {f:cr->cr->Sem cr}
 (hf:∀v u J x y H2,Inv X pins σ H2 J->Fg x v->Fg y u->R x y H2->ge (gh X.prog X.w) X.A (f v u) Q X.xe J) :
 ge (gh X.prog X.w) X.A (gu a X.env) (λv Y=>ge (gh X.prog X.w) X.A (gu b X.env) (λu O=>ge (gh X.prog X.w) X.A (f v u) Q X.xe O) X.xe Y) X.xe s:=by
 refine thn (ha pins s σ H _ I h) λv s1 ⟨x,H1,I1,r1,q1⟩=>?_;refine thn (hb pins s1 σ H1 _ I1 q1) λu J ⟨y,H2,I2,r2,q2⟩=>?_;exact hf v u J x y H2 I2 r1 r2 q2
theorem Em(O:OpR X (gT Y) r)(ha:PE X a ta)(hb:PE X b tb):PE X (.BinOp a Y b pos) (tOp r ta tb):=by
 intro pins s σ H Q I h;exact wpAny_BinOp (Wa ha hb I h λv u J x y H2 I2 rx ry q=>O pins J σ H2 x y v u Q I2 rx ry q)
theorem HF(O:UnR X (unaryOp Y) r)(ha:PE X a ta):PE X (.UnaryOp Y a pos) (tUn r ta):=by
 intro pins s σ H Q I h;exact UnaryOp_ (thn (ha pins s σ H _ I h) λv J ⟨x,H1,I1,r1,q1⟩=>O pins J σ H1 x v Q I1 r1 q1)
theorem opI{f:cr->cr->Sem cr}{C:Int->Int->Prop}{g:Int->Int->Int}
 (Y:∀(i j:Int) (t u:Tok) (s:db) (Q:cr->db->Prop) (E:cr->db->Prop),C i j->Q (.int (g i j) s.toks) { s with toks:=s.toks+1 }->ge (gh X.prog X.w) X.A (f (.int i t) (.int j u)) Q E s) :
 OpR X f (rI C λi j=>.int (g i j)):=by
 intro pins s σ H x y v u Q I rx O h;obtain⟨i,j,rfl,rfl,J,q⟩:=h;obtain⟨t,rfl⟩:=rx;obtain⟨t',rfl⟩:=O;exact Y i j t t' s _ _ J ⟨.int (g i j),H,I.tok _,⟨_,Z⟩,q⟩
theorem WH{f:cr->cr->Sem cr}{g:Int->Int->Int}
 (Y:∀(i j:Int) (t u:Tok) (s:db) (Q:cr->db->Prop) (E:cr->db->Prop),Q (.int (g i j) s.toks) { s with toks:=s.toks+1 }->ge (gh X.prog X.w) X.A (f (.int i t) (.int j u)) Q E s) :
 OpR X f (rI0 λi j=>.int (g i j)):=by
 intro pins s σ H x y v u Q I J O h;obtain⟨i,j,rfl,rfl,q⟩:=h;obtain⟨t,rfl⟩:=J;obtain⟨t',rfl⟩:=O;exact Y i j t t' s _ _ ⟨.int (g i j),H,I.tok _,⟨_,Z⟩,q⟩
theorem VC{f:cr->cr->Sem cr}{g:Int->Int->Bool}
 (Y:∀(i j:Int) (t u:Tok) (s:db) (Q:cr->db->Prop) (E:cr->db->Prop),Q (.bool (g i j)) s->ge (gh X.prog X.w) X.A (f (.int i t) (.int j u)) Q E s) :
 OpR X f (rI0 λi j=>.bl (g i j)):=by
 intro pins s σ H x y v u Q I J O h;obtain⟨i,j,rfl,rfl,q⟩:=h;obtain⟨t,rfl⟩:=J;obtain⟨t',rfl⟩:=O;exact Y i j t t' s _ _ ⟨.bl (g i j),H,I,Z,q⟩
def Wf(i j:Int):Prop:=0<=j/\j<=1000000/\i.natAbs<2 ^ 64
theorem EH:OpR X (gT .Add) (rI0 λi j=>.int (i+j)):=WH λ_ _ _ _ _ _ _ q=>add_int q
theorem EV:OpR X (gT .Sub) (rI0 λi j=>.int (i-j)):=WH λ_ _ _ _ _ _ _ q=>sub_int q
theorem Hj:OpR X (gT .Mod) (rI (λ_ j=>0<j) λi j=>.int (i % j)):=opI λi j _ _ _ _ _ Y q=>by
 have h1:(0:Int)<j:=Y;exact mod_int' Yl (by rw[Int.fmod_eq_emod_of_nonneg i Yl];exact q)
theorem Sr:OpR X (gT .Pow) (rI Wf λi j=>.int (i ^ j.toNat)):=opI λ_ _ _ _ _ _ _ Y q=>pow_int_small Y.1 Y.2.1 Y.2.2 q
theorem unI{f:cr->Sem cr}{g:Int->Int}
 (Y:∀(i:Int) (t:Tok) (s:db) (Q:cr->db->Prop) (E:cr->db->Prop),Q (.int (g i) s.toks) { s with toks:=s.toks+1 }->ge (gh X.prog X.w) X.A (f (.int i t)) Q E s) :
 UnR X f (rU λi=>.int (g i)):=by
 intro pins s σ H x v Q I O h;obtain⟨i,rfl,q⟩:=h;obtain⟨t,rfl⟩:=O;exact Y i t s _ _ ⟨.int (g i),H,I.tok _,⟨_,Z⟩,q⟩
theorem GB:UnR X (unaryOp .USub) (rU λi=>.int (-i)):=unI λ_ _ _ _ _ q=>neg_int q
end
def Ws:V->V->Bool
 | .non,.non=>true | .non,.int _=>true | .int _,.non=>true | .non,.bl _=>true | .bl _,.non=>true | .non,.str _=>true | .str _,.non=>true
 | .int _,.int _=>true | .bl _,.bl _=>true | .str _,.str _=>true | .byt _,.byt _=>true
 | .int _,.str _=>true | .str _,.int _=>true | .bl _,.str _=>true | .str _,.bl _=>true
 | _,_=>false
def rEq:R2:=λx y H Q=>Ws x y=true/\Q (.bl (decide (x=y))) H
def rNe:R2:=λx y H Q=>Ws x y=true/\Q (.bl (!decide (x=y))) H
theorem QE:decide (V.int i=V.int j)=(i == j):=by
 rw[Bool.eq_iff_iff];simp
theorem T5:decide (V.bl i=V.bl j)=(i == j):=by
 rw[Bool.eq_iff_iff];simp
theorem QD:decide (V.str i=V.str j)=(i == j):=by
 rw[Bool.eq_iff_iff];simp
theorem QF:decide (V.byt i=V.byt j)=(i.toList == j.toList):=by
 rw[Bool.eq_iff_iff];cases i;cases j;simp
section
variable {X:Cx}{a b c:Expr}{ta tb tc:TE}{pos:Pos}
theorem EX(I:Inv X pins σ H s)(q:Q (.bl k) H)(e:k=Y):EP X pins σ Q (.bool Y) s:=by
 subst e;exact⟨.bl k,H,I,Z,q⟩
theorem Hf:OpR X (gy .Eq) rEq:=by
 intro pins s σ H x y v u Q I O Y h;obtain⟨hs,q⟩:=h;cases x with
 | non =>
   cases O;cases y with
   | non=>cases Y;exact PySem.EqNone.eq_none_none (EX I q (by simp))
   | bl j=>cases Y;exact PySem.EqNone.eq_none_bool (EX I q (by simp))
   | int j=>obtain⟨t',rfl⟩:=Y;exact PySem.EqNone.eq_none_int (EX I q (by simp))
   | str j=>obtain⟨t',rfl⟩:=Y;exact PySem.EqNone.eq_none_str (EX I q (by simp))
   | _=>exact absurd (show false=true from hs) Bool.false_ne_true
 | bl i =>
   cases O;cases y with
   | non=>cases Y;exact PySem.EqNone.eq_bool_none (EX I q (by simp))
   | bl j=>cases Y;exact eq_bool (EX I q T5)
   | str j=>obtain⟨t',rfl⟩:=Y;exact PySem.EqMixed.eq_bool_str (EX I q (by simp))
   | _=>exact absurd (show false=true from hs) Bool.false_ne_true
 | int i =>
   obtain⟨t,rfl⟩:=O;cases y with
   | non=>cases Y;exact PySem.EqNone.eq_int_none (EX I q (by simp))
   | int j=>obtain⟨t',rfl⟩:=Y;exact eq_int (EX I q QE)
   | str j=>obtain⟨t',rfl⟩:=Y;exact PySem.EqMixed.eq_int_str (EX I q (by simp))
   | _=>exact absurd (show false=true from hs) Bool.false_ne_true
 | str i =>
   obtain⟨t,rfl⟩:=O;cases y with
   | non=>cases Y;exact PySem.EqNone.eq_str_none (EX I q (by simp))
   | bl j=>cases Y;exact PySem.EqMixed.eq_str_bool (EX I q (by simp))
   | int j=>obtain⟨t',rfl⟩:=Y;exact PySem.EqMixed.eq_str_int (EX I q (by simp))
   | str j=>obtain⟨t',rfl⟩:=Y;exact eq_str (EX I q QD)
   | _=>exact absurd (show false=true from hs) Bool.false_ne_true
 | byt i =>
   obtain⟨t,rfl⟩:=O;cases y with
   | byt j=>obtain⟨t',rfl⟩:=Y;exact PySem.W.eq_bytes (EX I q QF)
   | _=>exact absurd (show false=true from hs) Bool.false_ne_true
 | _=>cases y<;>exact absurd (show false=true from hs) Bool.false_ne_true
theorem NT:OpR X (gy .NotEq) rNe:=by
 intro pins s σ H x y v u Q I O Y h;obtain⟨hs,q⟩:=h;cases x with
 | non =>
   cases O;cases y with
   | non=>cases Y;exact PySem.EqNone.ne_none_none (EX I q (by simp))
   | bl j=>cases Y;exact PySem.EqNone.ne_none_bool (EX I q (by simp))
   | int j=>obtain⟨t',rfl⟩:=Y;exact PySem.EqNone.ne_none_int (EX I q (by simp))
   | str j=>obtain⟨t',rfl⟩:=Y;exact PySem.EqNone.ne_none_str (EX I q (by simp))
   | _=>exact absurd (show false=true from hs) Bool.false_ne_true
 | bl i =>
   cases O;cases y with
   | non=>cases Y;exact PySem.EqNone.ne_bool_none (EX I q (by simp))
   | bl j=>cases Y;exact ne_bool (EX I q (congrArg not T5))
   | str j=>obtain⟨t',rfl⟩:=Y;exact PySem.EqMixed.ne_bool_str (EX I q (by simp))
   | _=>exact absurd (show false=true from hs) Bool.false_ne_true
 | int i =>
   obtain⟨t,rfl⟩:=O;cases y with
   | non=>cases Y;exact PySem.EqNone.ne_int_none (EX I q (by simp))
   | int j=>obtain⟨t',rfl⟩:=Y;exact ne_int (EX I q (congrArg not QE))
   | str j=>obtain⟨t',rfl⟩:=Y;exact PySem.EqMixed.ne_int_str (EX I q (by simp))
   | _=>exact absurd (show false=true from hs) Bool.false_ne_true
 | str i =>
   obtain⟨t,rfl⟩:=O;cases y with
   | non=>cases Y;exact PySem.EqNone.ne_str_none (EX I q (by simp))
   | bl j=>cases Y;exact PySem.EqMixed.ne_str_bool (EX I q (by simp))
   | int j=>obtain⟨t',rfl⟩:=Y;exact PySem.EqMixed.ne_str_int (EX I q (by simp))
   | str j=>obtain⟨t',rfl⟩:=Y;exact ne_str (EX I q (congrArg not QD))
   | _=>exact absurd (show false=true from hs) Bool.false_ne_true
 | byt i =>
   obtain⟨t,rfl⟩:=O;cases y with
   | byt j=>obtain⟨t',rfl⟩:=Y;exact PySem.W.ne_bytes (EX I q (congrArg not QF))
   | _=>exact absurd (show false=true from hs) Bool.false_ne_true
 | _=>cases y<;>exact absurd (show false=true from hs) Bool.false_ne_true
theorem Lc:OpR X (gy .Lt) (rI0 λi j=>.bl (decide (i<j))):=VC λ_ _ _ _ _ _ _ q=>lt_int q
theorem GQ:OpR X (gy .Gt) (rI0 λi j=>.bl (decide (j<i))):=VC λ_ _ _ _ _ _ _ q=>gt_int q
theorem UQ:OpR X (gy .GtE) (rI0 λi j=>.bl (decide (j<=i))):=VC λ_ _ _ _ _ _ _ q=>ge_int q
theorem Ss:OpR X (gy .Is) (λx y H Q=>y = .non/\Q (.bl (decide (x = .non))) H):=by
 intro pins s σ H x y v u Q I Y O h;obtain⟨rfl,q⟩:=h;cases O;refine is_none_gen (EX I q ?_)
 cases x<;>first
  | (cases Y;rfl)
  | (obtain⟨t,rfl⟩:=Y;rfl)
theorem FP(b:Expr)(h:Y ≠ .In:=by decide)(h2:Y ≠ .NotIn:=by decide):gS Y b=false:=by
 have e1:(Y == CmpOp.In)=false:=by cases Y<;>first | rfl | exact absurd rfl h
 have O:(Y == CmpOp.NotIn)=false:=by cases Y<;>first | rfl | exact absurd rfl h2
 cases b<;>simp[gS,e1,O]
theorem Ho(O:OpR X (gy Y) r)(ha:PE X a ta)(hb:PE X b tb)(J:gS Y b=false):PE X (.Compare a [Y] [b] pos) (tOp r ta tb):=by
 intro pins s σ H Q I h;exact wpAny_Compare1 (Wa ha hb I h λv u s2 x y H2 I2 rx ry q=>O pins s2 σ H2 x y v u Q I2 rx ry q) J
def UI(t:TE):TT:=λσ H Q=>t σ H λx H'=>∃k,x = .bl k/\Q k H'
theorem G6(ho:OpR X (gy Y) r)(ha:PE X a ta)(hb:PE X b tb)(hm:gS Y b=false):PT X (.Compare a [Y] [b] pos) (UI (tOp r ta tb)):=by
 intro pins s σ H Q I h
 refine wpAny_isTrue_Compare1 (thn (ha pins s σ H _ I h) λv O ⟨x,H1,I1,r1,q1⟩=>thn (hb pins O σ H1 _ I1 q1) λu s2 ⟨y,H2,I2,r2,q2⟩ =>
  thn (ho pins s2 σ H2 x y v u _ I2 r1 r2 q2) λc s3 ⟨z,H3,J,r3,k,e,q3⟩=>?_) hm
 subst e;cases r3;exact gY ⟨H3,J,q3⟩
theorem Ni:(dl:Nat)<2 ^ 63:=by rw[sizeLine_eq];decide
theorem KJ(r:EN [x] us):∃u,us=[u]/\Fg x u:=by
 cases r with
 | cons r1 r2=>cases r2;exact⟨_,Z,r1⟩
theorem JS:IX X (.builtin "abs") (λxs H Q=>∃i,xs=[.int i]/\Q (.int (if i<0 then -i else i)) H):=by
 intro pins s σ H xs us Q I r h;obtain⟨i,rfl,q⟩:=h;obtain⟨u,rfl,t,rfl⟩:=KJ r;exact call_abs_int λu tk=>⟨.int (if i<0 then -i else i),H,I.tok _,⟨_,Z⟩,q⟩
theorem RC:IX X (.type "int") (λxs H Q=>(∃i,xs=[.int i]/\Q (.int i) H)\/∃k,xs=[.bl k]/\Q (.int (if k then 1 else 0)) H):=by
 intro pins s σ H xs us Q I r h
 rcases h with ⟨i,rfl,q⟩ | ⟨k,rfl,q⟩
 ·obtain⟨u,rfl,t,rfl⟩:=KJ r;exact call_int_int ⟨.int i,H,I,⟨_,Z⟩,q⟩
 ·obtain⟨u,rfl,r1⟩:=KJ r;cases r1;exact call_int_bool ⟨.int (if k then 1 else 0),H,I.tok _,⟨_,Z⟩,q⟩
end
structure ObjM(h:gi)(x dx C:ce)(mA:Str->Option cr):Prop where
 obj:h.get? x=some (PySem.W.instObj C dx)
 ns:h.Ns1 dx mA
 ne:dx≠x
section
variable {prog:fV}{w:fY}{A:fZ}{E:cr->db->Prop}{s:db}{K:ZE}{x dx C f:ce}{mA:Str->Option cr}{name:Str}{v:cr}
end
theorem M3.some_of(r:M3 (some v) o):∃u,o=some u/\Fg v u:=by
 cases o with
 | none=>exact(show False from r).elim
 | some u=>exact⟨u,Z,r⟩
section
variable {P:fV}{w:fY}{H H':Hp}{h h':gi}{a C dx:ce}{fs fs':List (Str×V)}
end
structure Cls(K:ZE)(C:ce):Prop where
 pg:PySem.W.plainGet K C Str.empty=true
 hd:PySem.W.hasDictIn K C=true
 po:PySem.W.plainOver K C=true
 sa:ZV K (.ref C) "__setattr__" = some (some (.builtin "object.__setattr__"))
structure Con(K:ZE)(C:ce)(f:Str)(v:V)(u:cr):Prop where
 at_:ZV K (.ref C) f=some (some u)
 rel:Fg v u
 get:ZW K u "__get__" = some none
 cp:PySem.W.copiedNames.contains f=false
structure Xn(K:ZE)(C:ce)(m:Str)(f:ce):Prop where
 at_:ZV K (.ref C) m=some (some (.ref f))
 fn:PySem.W.isFn K (.ref f)=true
 kp:ZX K (.ref f)=true
section
variable {X:Cx}{pins:List (ce×Obj)}{σ:St}{H:Hp}{s:db}{a C dx:ce}{fs:List (Str×V)}{f:Str}{v:V}{A:fZ}{E:cr->db->Prop}
end
section
variable {X:Cx}{o e value:Expr}{f:Str}{pos pos' tpos:Pos}{ta tv:TE}
end
section
variable {X:Cx}{pins:List (ce×Obj)}{σ:St}{H:Hp}{s:db}{A:fZ}{E:cr->db->Prop}{Q:cr->db->Prop}{c:cr}{b:Bool}
inductive Kv(K:ZE)(H:Hp):V->cr->Prop where
 | non:Kv K H .non (.type "NoneType")
 | bl (x:Bool):Kv K H (.bl x) (.type "bool")
 | int (i:Int):Kv K H (.int i) (.type "int")
 | str (x:Str):Kv K H (.str x) (.type "str")
 | flt (x:UInt64):Kv K H (.flt x) (.type "float")
 | lst {a:ce} {xs:List V} (e:H a=some (.lst xs)):Kv K H (.ref a) (.type "list")
 | frz {a:ce} {o:Obj} {xs:List V} (e:H a=some (.frz o (.lst xs))):Kv K H (.ref a) (.type "list")
 | tup {a:ce} {xs:List V} (e:H a=some (.tup xs)):Kv K H (.ref a) (.type "tuple")
 | dK {a:ce} {kvs:List (Key×V)} (e:H a=some (.dK kvs)):Kv K H (.ref a) (.type "dict")
 | dT {a:ce} {kvs:List (List Key×V)} (e:H a=some (.dT kvs)):Kv K H (.ref a) (.type "dict")
 | ins {a C dx:ce} {fs:List (Str×V)} (e:H a=some (.ins C dx fs)) (cl:Cls K C) (ha:ZV K (.ref C) "__class__" = some (some (.builtin "object.__class__")))
  (hn:ZW K (.builtin "object.__class__") "__get__" = some (some (.builtin "getset_descriptor.__get__"))) (htk:PySem.W.takesIn K (.builtin "object.__class__")=some true)
  (hm:PySem.W.mroIn K C (.type "object")=some true):Kv K H (.ref a) (.ref C)
end
structure Gx(k:Nat)(A:fZ):Prop where
 hd:A.handled=none
 dp:A.depth+3*k+5<recursionLimit
 un:A.units+16*k+200<cLine
theorem Gx.mono(r:Gx k A)(h:j<=k):Gx j A:=⟨r.hd,by have:=r.dp;lia,by have:=r.un;lia⟩
theorem Gx.deeper(r:Gx (k+1) A)(env:Env):Gx k (A.deeper env) :=
 ⟨r.hd,by have:=r.dp;show A.depth+1+3*k+5<_;lia,by have:=r.un;show A.units+3+16*k+200<_;lia⟩
theorem Gx.depth(r:Gx k A):A.depth<recursionLimit:=by have:=r.dp;lia
theorem Gx.units(r:Gx k A):A.units+64<cLine:=by have:=r.un;lia
def OM:TA:=λ_ H Q=>Q [] H
def ID(ta:TE)(tr:TA):TA:=λσ H Q=>ta σ H λx H1=>tr σ H1 λxs H2=>Q (x::xs) H2
section
variable {X:Cx}{e:Expr}{es:List Expr}{te:TE}{t:TA}{pos:Pos}
theorem E8:PA X [] OM:=λ_ _ _ _ H Q I h=>Calls.spliced_nil ⟨[],H,I,.nil,h⟩
theorem E1(ha:PE X e te)(Y:PA X es t)(hs:fU (e::es) X.env=(false,gu e X.env)::fU es X.env:=by rfl):PA X (e::es) (ID te t):=by
 intro pos pins s σ H Q I h;rw[hs];show ge _ _ (spliced ((false,gu e X.env)::gC pos (fU es X.env))) _ _ s;refine Calls.spliced_cons (thn (ha pins s σ H _ I h) λu O ⟨x,H1,J,r1,q1⟩=>?_);exact thn (Y pos pins O σ H1 _ J q1) λus s2 ⟨xs,H2,I2,r2,q2⟩=>⟨x::xs,H2,I2,.cons r1 r2,q2⟩
def X5(t:TA):TE:=λσ H Q=>t σ H λxs H1=>xs.length<=dl/\∀p,H1 p=none->Q (.ref p) (upd H1 p (.tup xs))
def X8(t:TA):TE:=λσ H Q=>t σ H λxs H1=>xs.length<=dl/\∀p,H1 p=none->Q (.ref p) (upd H1 p (.lst xs))
theorem EU{x1}(h:PA X es t):PE X (.Tuple es x1 pos) (X5 t):=by
 intro pins s σ H Q I J;refine wpAny_Tuple_spliced (thn (h pos pins s σ H _ I J) λus Y ⟨xs,H1,O,r,z,q⟩=>⟨by rw[<- r.length];exact z,?_⟩)
 have hf:H1 Y.heap.objs.size=none:=O.hok.fresh (ZR _);refine⟨.ref Y.heap.objs.size,upd H1 Y.heap.objs.size (.tup xs),O.laid (t':=Y.toks) (λb u e=>Heap.get?_push_of_some _ e) (ZR _) ?_,Z,q _ hf⟩;exact⟨z,us,r,⟨_,Heap.get?_push_size _ rfl,Z,_,Z⟩⟩
theorem ER(h:PA X es t):PE X (.List es pos) (X8 t):=by
 intro pins s σ H Q I J;refine wpAny_List_spliced (thn (h pos pins s σ H _ I J) λus Y ⟨xs,H1,O,r,z,q⟩=>⟨by rw[<- r.length];exact z,?_⟩)
 have hf:H1 Y.heap.objs.size=none:=O.hok.fresh (ZR _);refine⟨.ref Y.heap.objs.size,upd H1 Y.heap.objs.size (.lst xs),O.laid (t':=Y.toks) (λb u e=>Heap.get?_push_of_some _ e) (ZR _) ?_,Z,q _ hf⟩;exact⟨z,us,0,r,Heap.get?_push_size _ rfl⟩
end
abbrev Sp:=List V->Hp->VK->XK->Prop
abbrev CXT:=List Env->Hp->db->XK->cr->db->Prop
structure Tw(P:fV)(w:fY)(K:ZE)(mg:Str->Option cr)(base:gi)(A:fZ)(outer:List Env)(s:db)(H:Hp):Prop where
 frames:A.frames=some outer
 mod:Mod K mg base
 bs:∀b o,base.get? b=some o->s.heap.get? b=some o/\H b=none
 bsz:base.objs.size<=s.heap.objs.size
 funs:s.heap.FunFrames base outer
 frf:∀b∈frs outer,H b=none
 hok:HOk P w H s.heap
 bare:gP s.gens
def CE(outer:List Env)(P:fV)(w:fY)(H:Hp)(s:db)(Q:VK)(u:cr)(s':db):Prop :=
 ∃v H',s'.os=s.os/\gP s'.gens/\Un (frs outer) [] H H' s.heap s'.heap/\HOk P w H' s'.heap/\Fg v u/\Q v H'
def CR(CX:CXT)(outer:List Env)(P:fV)(w:fY)(H:Hp)(s:db)(Q:VK)(E:XK)(r:Result)(s':db):Prop :=
 match r with
 | .ok (.ret u)=>CE outer P w H s Q u s'
 | .ok _=>False
 | .error e=>CX outer H s E e s'
structure EF(P:fV)(w:fY)(K:ZE)(mg:Str->Option cr)(base:gi)(CX:CXT)(k:Nat)(f:ce)(fd:fT)(ps:List Str)(sp:Sp):Prop where
 len:∀vs H Q E,sp vs H Q E->vs.length=ps.length
 run:∀(A:fZ) (outer:List Env) (s:db) (H:Hp) (args:Args) (us:List cr) (vs:List V) (Q:VK) (E:XK),Gx k A->Tw P w K mg base A outer s H->BindsTo s fd args (ps.zip us)->EN vs us->sp vs H Q E ->
  g8 (gh P w) A (.call (.ref f) args) (CR CX outer P w H s Q E) s
section
variable {X:Cx}{pins:List (ce×Obj)}{σ:St}{H:Hp}{s s':db}
theorem Inv.env0(I:Inv X pins σ H s):Tw X.prog X.w X.K X.mg X.base X.A X.stack s H :=
 ⟨I.ok.frames,I.ok.mod,I.bs,ZF I.ok.bsz I.sz,I.stack,I.stkFree,I.hok,I.bare⟩
theorem Inv.after(I:Inv X pins σ H s)(h:CE X.stack X.prog X.w H s Q u s'):EP X pins σ Q u s':=by
 obtain⟨v,H',os,Y,un,O,r,q⟩:=h;obtain⟨hh,g,d,t,J⟩:=s';obtain rfl:J=s.os:=os;exact⟨v,H',I.call (h':=hh) (g':=g) (d':=d) (t':=t) (ch:=[]) un O Y (λb z=>absurd z (by simp)),r,q⟩
end
def KN(sp:Sp)(dvs:List V)(E:XK)(t:TA):TE:=λσ H Q=>t σ H λvs H1=>sp (vs++dvs) H1 Q E
def Gs(K:ZE)(fd:fT)(ps:List Str)(ds:List cr):Prop :=
 ∀(s:db) (us:List cr),K.In s.heap->(us++ds).length=ps.length->BindsTo s fd ⟨us,[]⟩ (ps.zip (us++ds))
theorem Gs.all{K:ZE}{fd:fT}{ps:List Str}(h:∀us:List cr,us.length=ps.length->gR fd ⟨us,[]⟩=pure (ps.zip us)):Gs K fd ps []:=λs us _ Y=>by
 rw[ZY]at Y ⊢;exact .of_eq (h us Y)
def Kg(CX:CXT)(X:Cx)(E:XK):Prop:=∀(pins:List (ce×Obj)) (σ:St) (H:Hp) (s:db) (e:cr) (s':db),Inv X pins σ H s->CX X.stack H s E e s'->X.xe e s'
section
variable {X:Cx}{CX:CXT}{k:Nat}{f C:ce}{fd:fT}{ps:List Str}{sp:Sp}{dvs:List V}{ds:List cr}{E:XK}{x m:Str}{p pos apos:Pos}{e o:Expr}{es:List Expr}{ta:TE}{t:TA}
theorem Ve(F:EF X.prog X.w X.K X.mg X.base CX k f fd ps sp)(O:Gx k X.A)(hb:Gs X.K fd ps ds)(hd:EN dvs ds)(hx:Kg CX X E)
 (I:Inv X pins σ H s) (r:EN vs us) (h:sp (vs++dvs) H Q E):ge (gh X.prog X.w) X.A (call (.ref f) us) (EP X pins σ Q) X.xe s:=by
 have r2:EN (vs++dvs) (us++ds):=r.append hd;have J:(us++ds).length=ps.length:=by rw[<- r2.length];exact F.len _ _ _ _ h
 refine wpAny_call (gW (F.run X.A X.stack s H ⟨us,[]⟩ (us++ds) (vs++dvs) Q E O I.env0 (hb s us I.kIn J) r2 h) λr s' Y=>?_);cases r with
 | error e=>exact hx pins σ H s e s' I Y
 | ok fl =>
   cases fl with
   | ret u=>exact I.after Y
   | next=>exact False.elim Y
   | brk=>exact False.elim Y
   | cont=>exact False.elim Y
theorem Qa(F:EF X.prog X.w X.K X.mg X.base CX k f fd ps sp)(hr:Gx k X.A)(hg:Gl X x)(hm:X.mg x=some (.ref f))(hk:ZX X.K (.ref f)=true)(hb:Gs X.K fd ps ds)(hd:EN dvs ds)(hx:Kg CX X E)
 (ha:PA X (e::es) t) (O:(x == ("__debug__" : Str))=false:=by decide) (he:fU (e::es) X.env=(false,gu e X.env)::fU es X.env:=by rfl) (Y:(gC pos (fU es X.env)).any (·.1)=false:=by rfl) :
 PE X (.Call (.Name x p) (e::es) [] pos) (KN sp dvs E t):=by
 intro pins s σ H Q I h;refine gO (JJ I hg hm ?_ O);refine PySem.W.callWith_K (h₀:=X.base) I.ok.mod.kin hk (thn (ha pos pins s σ H _ I h) λus s1 ⟨vs,H1,J,r,q⟩=>⟨J.kIn,?_⟩) he Y;exact Ve F hr hb hd hx J r q
structure Mk(K:ZE)(C f:ce):Prop where
 makes:PySem.W.makesIn K C=true
 init:ZV K (.ref C) "__init__" = some (some (.ref f))
 fn:PySem.W.isFn K (.ref f)=true
 kp:ZX K (.ref C)=true
end
section
variable {X:Cx}{CX:CXT}{k:Nat}{f C:ce}{fd:fT}{ps ks:List Str}{sp:Sp}{E:XK}{x m:Str}{p pos apos kpos:Pos}{e o:Expr}{es:List Expr}{kws:List g4}{te ta:TE}{t tk:TA}{nm:Option Str}
structure Xq(K:ZE)(fd:fT)(ps ks:List Str)(g:List cr->List cr->List cr)(gV:List V->List V->List V):Prop where
 to:∀(s:db) (us ws:List cr),K.In s.heap->(g us ws).length=ps.length->BindsTo s fd ⟨us,ks.zip ws⟩ (ps.zip (g us ws))
 rel:∀{vs:List V} {us:List cr} {zs:List V} {ws:List cr},EN vs us->EN zs ws->EN (gV vs zs) (g us ws)
variable {g:List cr->List cr->List cr}{gV:List V->List V->List V}
end
structure Eo(N P:List Str)(sc:gH):Prop where
 kind:sc.kind = .function
 co:sc.isCoroutine=false
 gen:sc.isGenerator=false
 nd:N.Nodup
 pre:N.take P.length=P
 par:∀x∈P,sc.names.lookup x=some .local\/sc.names.lookup x=some .cell
 nofree:∀y∈sc.names,y.2 ≠ .free
theorem Mu:∀{Y:List (Str×cr)} {m:Str->Option cr},(∀v,(x,v)∉Y)->bindL O Y m x=m x
 | [],_,_=>rfl
 | (n,v)::r,m,h=>by
   unfold bindL;rw[Mu λw hw=>h w (ZK _ hw)]
   split
   ·have:x≠n:=by rintro rfl;exact h v ZJ
    simp[this]
   ·rfl
theorem Mx:∀{Y:List (Str×cr)} {m:Str->Option cr},(∀v,(x,v)∉Y)->bindC O Y m x=m x
 | [],_,_=>rfl
 | (n,v)::r,m,h=>by
   unfold bindC;rw[Mx λw hw=>h w (ZK _ hw)]
   split
   ·rfl
   ·have:x≠n:=by rintro rfl;exact h v ZJ
    simp[this]
theorem Mw{kindOf:Str->Option g7}{x:Str}{v:cr}:∀{P:List Str} {vs:List cr} {i:Nat} {m:Str->Option cr},P.Nodup->P[i]? = some x->vs[i]? = some v->kindOf x=some .local ->
 bindL kindOf (P.zip vs) m x=some v
 | [],_,_,_,_,h,_,_=>by simp at h
 | _::_,[],_,_,_,_,h,_=>by simp at h
 | p::P,w::vs,0,m,nd,h1,h2,hk=>by
   simp at h1 h2;subst h1;subst h2;show bindL kindOf ((p,w)::P.zip vs) m p=_;unfold bindL;rw[Mu λv hv=>(ZZ.mp nd).1 (b5 hv).1,if_pos hk];simp
 | p::P,w::vs,i+1,m,nd,h1,h2,hk=>by
   show bindL kindOf ((p,w)::P.zip vs) m x=_;unfold bindL;exact Mw (i:=i) (ZZ.mp nd).2 (by simpa using h1) (by simpa using h2) hk
theorem My{kindOf:Str->Option g7}{x:Str}{v:cr}:∀{P:List Str} {vs:List cr} {i:Nat} {m:Str->Option cr},P.Nodup->P[i]? = some x->vs[i]? = some v->kindOf x≠some .local ->
 bindC kindOf (P.zip vs) m x=some v
 | [],_,_,_,_,h,_,_=>by simp at h
 | _::_,[],_,_,_,_,h,_=>by simp at h
 | p::P,w::vs,0,m,nd,h1,h2,hk=>by
   simp at h1 h2;subst h1;subst h2;show bindC kindOf ((p,w)::P.zip vs) m p=_;unfold bindC;rw[Mx λv hv=>(ZZ.mp nd).1 (b5 hv).1,if_neg hk];simp
 | p::P,w::vs,i+1,m,nd,h1,h2,hk=>by
   show bindC kindOf ((p,w)::P.zip vs) m x=_;unfold bindC;exact My (i:=i) (ZZ.mp nd).2 (by simpa using h1) (by simpa using h2) hk
def start(N:List Str)(vs:List V):St:=vs.map some++b6 (N.length-vs.length) none
def JP(CX:CXT)(P:fV)(w:fY)(K:ZE)(mg:Str->Option cr)(base:gi)(N:List Str)(qual:Str)(scope:gH)(f:ce)(cd:cr)(A:fZ)(outer:List Env)(s:db)(H:Hp)(E:XK):Cx where
 prog:=P
 w:=w
 K:=K
 mg:=mg
 base:=base
 A:=A.deeper (envOfC qual scope s.heap.objs.size f cd)
 N:=N
 s₀:=s
 H₀:=H
 env:=envOfC qual scope s.heap.objs.size f cd
 outer:=outer
 stack:=envOfC qual scope s.heap.objs.size f cd::outer
 ex:=[]
 calm:=true
 fn:=λ_=>true
 pn:=[]
 xe:=λe s'=>ge (gh P w) (A.deeper (envOfC qual scope s.heap.objs.size f cd)) (leaving (envOfC qual scope s.heap.objs.size f cd) e) (λ_ s''=>CX outer H s E e s'') (λe' s''=>CX outer H s E e' s'') s'
theorem Ow{Y:gH}{n:Nat}{x:Str}(h:Y.names.lookup x=some .cell):∃c,(cellsFrom n Y.names []).lookup x=some c:=by
 have q:=PySem.W.cellsFrom_some Y.names n [] (.inl h);exact Option.isSome_iff_exists.mp q
theorem Rq{P:fV}{w:fY}{K:ZE}{mg:Str->Option cr}{base:gi}{N ps:List Str}{qual:Str}{scope:gH}{f:ce}{cd:cr}{A:fZ}{outer:List Env}{s s1:db}{H:Hp}{E:XK}{us:List cr}{vs:List V}
 (S:Eo N ps scope) (hd:A.handled=none) (Y:Tw P w K mg base A outer s H) (hl:vs.length=ps.length) (r:EN vs us)
 (x:InCallC s s.heap.objs.size (bindL (envOfC qual scope s.heap.objs.size f cd).kindOf (ps.zip us) λ_=>none) (cellsFrom (s.heap.objs.size+1) scope.names []) (bindC (envOfC qual scope s.heap.objs.size f cd).kindOf (ps.zip us) λ_=>none) s1) :
 Inv (JP CX P w K mg base N qual scope f cd A outer s H E) [] (start N vs) H s1:=by
 have ac:ps.length<=N.length:=by have:=congrArg b7 S.pre;rw[b9]at this;lia
 obtain⟨h1,tk,rfl,hk⟩:=x.done;have J:∀b:ce,b∉(JP CX P w K mg base N qual scope f cd A outer s H E).ex:=λb z=>absurd (show b∈([]:List ce) from z) (by simp)
 refine⟨⟨Y.mod,S.kind,Z,Z,ZR _,λy z c h1 h2=>?_,λy O=>?_,λy c _ h=>?_,λ_=>hd,Around.frames_deeper Y.frames,.inr ⟨Z,Z⟩,λb z=>absurd z (J b),Y.bs,Y.bsz,λb _ _=>J b,λb z=>absurd z (J b),Y.funs,Y.frf⟩,
  rfl,Y.bare,Un.kept hk,⟨_,x.toInCall.ns,λi y v h1 h2 h3=>?_⟩,λy c h=>⟨_,x.cell y c h⟩,Y.hok.fresh (ZR _),λy c h=>?_,λp hp=>absurd (show p∈([]:List (ce×Obj)) from hp) (by simp),Y.hok.kept hk,?_⟩
 ·exact name_of_addr x.apart (PySem.mem_of_lookup h1) (PySem.mem_of_lookup h2)
 ·have O:scope.names.lookup y=some .cell\/scope.names.lookup y=some .free:=O
  rcases O with O | O
  ·exact Ow O
  ·exact absurd rfl (S.nofree _ (PySem.mem_of_lookup O))
 ·exact ZH (x.above y c (PySem.mem_of_lookup h))
 ·have hi:i<vs.length:=by
   unfold start at h2;by_cases hi:i<vs.length
   ·exact hi
   ·rw[bj (by simpa using hi)]at h2
    rw[bq]at h2
    split at h2<;>cases h2
  have ha:vs[i]? = some v:=by
   unfold start at h2;rw[bw (by simpa using hi),bA]at h2
   cases e:vs[i]? with
   | none=>rw[e]at h2;cases h2
   | some a=>rw[e]at h2;cases h2;rfl
  obtain⟨u,hu,rv⟩:=r.get ha
  have hp:ps[i]? = some y:=by
   rw[<- S.pre,List.getElem?_take_of_lt Yl];exact h1
  have aa:ps.Nodup:=by rw[<- S.pre];exact S.nd.sublist (bC _ _)
  refine⟨u,rv,?_⟩
  rcases S.par y (bD hp) with k | k
  ·exact .inl ⟨k,Mw aa hp hu k⟩
  ·obtain⟨c,e⟩:=Ow (n:=s.heap.objs.size+1) k;refine .inr ⟨.inl k,c,e,?_⟩;have q:=x.cell y c e;rw[My aa hp hu (by show scope.names.lookup y≠_;rw[k];decide)]at q
   exact q
 ·exact Y.hok.fresh (ZH (x.above y c (PySem.mem_of_lookup h)))
 ·unfold start;show _=N.length;rw[bH,bI,bJ]
  lia
theorem UX{P:fV}{w:fY}{K:ZE}{mg:Str->Option cr}{base:gi}{k:Nat}{f:ce}{name qual:Str}{O:Arguments}{aa:List gI}{scope:gH}{dV kV ai pm Y ct oc:cr}{an od:Option ce}
 {al:Array (Option cr)} {N ps:List Str} {sp:Sp} (lk:K.lookup f=some ⟨oc,od,.func (bK name qual O aa scope dV kV ai pm an Y ct),al⟩) (aj:bM K Y qual=true) (S:Eo N ps scope)
 (ag:∀vs H Q E,sp vs H Q E->vs.length=ps.length)
 (ae:∀(A:fZ) (outer:List Env) (s:db) (H:Hp) (vs:List V) (Q:VK) (E:XK),Gx k (A.deeper (envOfC qual scope s.heap.objs.size f Y))->sp vs H Q E ->
  ∃t,PSs (JP CX P w K mg base N qual scope f Y A outer s H E) aa t/\t { nx:=λ_ H'=>Q .non H',rt:=Q } (start N vs) H) :
 EF P w K mg base CX (k+1) f (bK name qual O aa scope dV kV ai pm an Y ct) ps sp:=by
 refine⟨ag,λA outer s H args us vs Q E hr e0 hb r ah=>?_⟩;have hl:=ag _ _ _ _ ah;have KX:K.In s.heap:=e0.mod.kin.keeps λb o e=>(e0.bs b o e).1;have ak:s.heap.NoLimit:=e0.mod.nolimit.keeps λb o e=>(e0.bs b o e).1
 have ad:∀y∈ps.zip us,scope.names.lookup y.1=some .local\/(scope.names.lookup y.1=some .cell/\((cellsFrom (s.heap.objs.size+1) scope.names []).lookup y.1).isSome=true):=fun⟨n,v⟩ hy=>by
  rcases S.par n (b5 hy).1 with q | q
  ·exact .inl q
  ·exact .inr ⟨q,PySem.W.cellsFrom_some _ _ _ (.inl q)⟩
 refine codeAny_call_function hr.depth (KX _ _ lk) rfl S.co S.gen rfl (PySem.W.codeRec_of KX aj) (hb _ _ _ _ ?_);refine wpAny_newFunctionEnv_cells S.kind ad λenv he s1 x=>?_;subst he;refine⟨ak.keeps x.toInCall.keep,codeAny_func ?_⟩;obtain⟨t,ht,hq⟩:=ae A outer s H vs Q E (hr.deeper _) ah;have I:Inv (JP CX P w K mg base N qual scope f Y A outer s H E) [] (start N vs) H s1:=Rq S hr.hd e0 hl r x;refine gn (ht [] s1 (start N vs) H _ I hq) (λfl s' hs=>?_) λe s' hs=>hs
 have af:∀{ac:St} {H':Hp} {v:V} {u:cr},Inv (JP CX P w K mg base N qual scope f Y A outer s H E) [] ac H' s'->Fg v u->Q v H'->CE outer P w H s Q u s' :=
  fun{ac H' v u} J rv q=>⟨v,H',J.os,J.bare,J.base,J.hok,rv,q⟩
 cases fl with
 | ret u =>
   obtain⟨v,ac,H',J,rv,q⟩:=hs;exact af J rv q
 | next =>
   obtain⟨ac,H',J,q⟩:=hs;exact af (v:=V.non) (u:=Value.none) J rfl q
 | brk =>
   obtain⟨_,_,_,q⟩:=hs;exact False.elim q
 | cont =>
   obtain⟨_,_,_,q⟩:=hs;exact False.elim q
section
variable {X:Cx}{x:Str}{p pos:Pos}{e:Expr}{es:List Expr}{t:TA}{id T:String}{r:List V->Hp->VK->Prop}
def tCB(r:List V->Hp->VK->Prop)(t:TA):TE:=λσ H Q=>t σ H λvs H1=>r vs H1 Q
theorem Hc(hc:IX X (.builtin id) r)(hg:Gl X x)(hm:X.mg x=none)(hv:gv x=some (.builtin id))(ha:PA X (e::es) t)(J:x ≠ "__name__":=by decide)(O:(x == ("__debug__" : Str))=false:=by decide)
 (he:fU (e::es) X.env=(false,gu e X.env)::fU es X.env:=by rfl) (Y:(gC pos (fU es X.env)).any (·.1)=false:=by rfl):PE X (.Call (.Name x p) (e::es) [] pos) (tCB r t):=by
 intro pins s σ H Q I h;refine gO (Ka I hg hm hv ?_ J O);exact PyProof.Rows.callWith_builtin1 (thn (ha pos pins s σ H _ I h) λus s1 ⟨vs,H1,I1,r1,q1⟩=>hc pins s1 σ H1 vs us Q I1 r1 q1) he Y
theorem Hy(hc:IX X (.type T) r)(hg:Gl X x)(hm:X.mg x=none)(hv:gv x=some (.type T))(ha:PA X (e::es) t)(J:x ≠ "__name__":=by decide)(O:(x == ("__debug__" : Str))=false:=by decide)
 (he:fU (e::es) X.env=(false,gu e X.env)::fU es X.env:=by rfl) (Y:(gC pos (fU es X.env)).any (·.1)=false:=by rfl):PE X (.Call (.Name x p) (e::es) [] pos) (tCB r t):=by
 intro pins s σ H Q I h;refine gO (Ka I hg hm hv ?_ J O);exact PyProof.Rows.callWith_type1 (thn (ha pos pins s σ H _ I h) λus s1 ⟨vs,H1,I1,r1,q1⟩=>hc pins s1 σ H1 vs us Q I1 r1 q1) he Y
end
end L2
namespace HT
open PySem PyProof.Rows
section
open PySem.SeqAt
open PySem.AutoSeq1 (wpAny_loadPart')
open PySem.MeetsSeq PySem.MeetsSeq2 PySem.MeetsSeq3
end
section
variable {prog:fV}{w:fY}{A:fZ}{E:cr->db->Prop}{s:db}
def sIx(n d:Nat):Option Int->Nat
 | none=>d
 | some v=>if v<0 then (v+(n:Int)).toNat else min v.toNat n
theorem sIx_nat(n d k:Nat):sIx n d (some (k:Int))=min k n:=by
 show(if (k:Int)<0 then ((k:Int)+(n:Int)).toNat else min (k:Int).toNat n)=min k n;rw[if_neg Yl,bN]
theorem clip_eq(v:Int)(n d:Nat):(if v<0 then max (v+(n:Int)) 0 else min v (n:Int))=((sIx n d (some v):Nat):Int):=by
 show(if v<0 then max (v+(n:Int)) 0 else min v (n:Int))=(((if v<0 then (v+(n:Int)).toNat else min v.toNat n):Nat):Int);by_cases hv:v<0
 ·rw[if_pos hv,if_pos hv,Int.toNat_eq_max]
 ·rw[if_neg hv,if_neg hv];obtain⟨k,rfl⟩:=Int.eq_ofNat_of_zero_le (Int.not_lt.mp hv);rw[bN]
  rcases Nat.le_total k n with h | h
  ·rw[bO h,Int.min_eq_left (Int.ofNat_le.mpr h)]
  ·rw[Nat.min_eq_right h,Int.min_eq_right (Int.ofNat_le.mpr h)]
end
end HT
namespace L2
open PySem PySem.Spec PyProof.Rows
abbrev TO:=St->Hp->(Option Int->Hp->Prop)->Prop
def PO(X:Cx)(e:Option Expr)(t:TO):Prop :=
 ∀ (pins:List (ce×Obj)) (s:db) (σ:St) (H:Hp) (Q:Option Int->Hp->Prop),Inv X pins σ H s->t σ H Q ->
   ge (gh X.prog X.w) X.A (evalPart e X.env) (λu s'=>∃o H',Inv X pins σ H' s'/\IsPart u o/\Q o H') X.xe s
def TM:TO:=λ_ H Q=>Q none H
def Wi(t:TE):TO:=λσ H Q=>t σ H λx H1=>∃i,x = .int i/\Q (some i) H1
section
variable {X:Cx}{e:Expr}{te:TE}{lo hi:Option Expr}{tl th:TO}{pos p2:Pos}
theorem MY:PO X none TM:=by
 intro pins s σ H Q I h;rw[evalPart_none];exact gj ⟨none,H,I,.none,h⟩
theorem Jx(h:PE X e te):PO X (some e) (Wi te):=by
 intro pins s σ H Q I hw;rw[evalPart_some];refine thn (h pins s σ H _ I hw) λu J ⟨x,H1,O,r1,Y⟩=>?_;obtain⟨i,rfl,q⟩:=Y;obtain⟨t,rfl⟩:=r1;exact⟨some i,H1,O,.int i t,q⟩
def SlR(X:Cx)(r:V->Option Int->Option Int->Hp->VK->Prop):Prop :=
 ∀ (pins:List (ce×Obj)) (s:db) (σ:St) (H:Hp) (x:V) (v vl vu:cr) (lo hi:Option Int) (sl:ce) (Q:VK),Inv X pins σ H s->Fg x v->s.heap.IsSliceOf sl vl vu .none->IsPart vl lo->IsPart vu hi->r x lo hi H Q ->
   ∃T id,typeLookup (.type T) "__getitem__" = pure (some (.builtin id))/\s.TypeIs v T/\ge (gh X.prog X.w) X.A (getItem v (.ref sl)) (EP X pins σ Q) X.xe s
def tSl(r:V->Option Int->Option Int->Hp->VK->Prop)(te:TE)(tl th:TO):TE:=λσ H Q=>te σ H λx H1=>tl σ H1 λl H2=>th σ H2 λu H3=>r x l u H3 Q
theorem Jy(hr:SlR X r)(he:PE X e te)(hl:PO X lo tl)(hu:PO X hi th):PE X (.Subscript e (.Slice lo hi none p2) pos) (tSl r te tl th):=by
 intro pins s σ H Q I h;refine Subscript_ (thn (he pins s σ H _ I h) λv s1 ⟨x,H1,I1,r1,q1⟩=>?_);refine wpAny_Slice (thn (hl pins s1 σ H1 _ I1 q1) λvl s2 ⟨l,H2,I2,pl,q2⟩=>thn (hu pins s2 σ H2 _ I2 q2) λvu Y ⟨u,O,J,pu,q3⟩=>?_);rw[evalPart_none];refine gj ?_;have I4:Inv X pins σ O { Y with heap:=Y.heap.push { cls:=.type "slice",data:=.fields #[vl,vu,.none] } }:=J.kept (t':=Y.toks) λb ob q=>Heap.get?_push_of_some _ q
 obtain⟨T,id,hT,ht,hg⟩:=hr pins { Y with heap:=Y.heap.push { cls:=.type "slice",data:=.fields #[vl,vu,.none] } } σ O x v vl vu l u Y.heap.objs.size Q I4 r1 (Heap.IsSliceOf.new ..) pl pu q3
 show ge (gh X.prog X.w) X.A (subscriptTail e (.Slice lo hi none p2) v (.ref Y.heap.objs.size)) (EP X pins σ Q) X.xe { Y with heap:=Y.heap.push { cls:=.type "slice",data:=.fields #[vl,vu,.none] } }
 exact tail_any (ops:=[.ref Y.heap.objs.size,v]) ht hT hg (by with_unfolding_all rfl)
def IV(xs:List V)(lo hi:Option Int):List V:=(xs.drop (HT.sIx xs.length 0 lo)).take (HT.sIx xs.length xs.length hi-HT.sIx xs.length 0 lo)
theorem Ol(xs:List V)(lo hi:Option Int):(IV xs lo hi).length<=xs.length:=by
 unfold IV;rw[b9,List.length_drop];exact ZF (Nat.min_le_right _ _) (Nat.sub_le _ _)
end
def ixN(n:Nat)(i:Int):Option Nat:=if 0<=i then (if i<n then some i.toNat else none) else if -(n:Int)<=i then some (i+n).toNat else none
def atI{α:Type}(xs:List α)(i:Int):Option α:=(ixN xs.length i).bind λj=>xs[j]?
theorem Qr(h:ixN n i=some j):seqIndex? i n=some j/\j<n /\ -(n:Int)<=i/\i<n:=by
 unfold ixN at h;by_cases h0:0<=i
 ·rw[if_pos h0]at h;by_cases h1:i<n
  ·rw[if_pos h1]at h;have e:i.toNat=j:=Zu.inj h;exact⟨by rw[seqIndex_of h0 h1,e],Yl,Yl,h1⟩
  ·rw[if_neg h1]at h;cases h
 ·rw[if_neg h0]at h;by_cases h1 : -(n:Int)<=i
  ·rw[if_pos h1]at h;have e:(i+n).toNat=j:=Zu.inj h;exact⟨by rw[seqIndex_neg Yl h1,e],Yl,h1,Yl⟩
  ·rw[if_neg h1]at h;cases h
theorem QS(h:atI xs i=some v):∃j,seqIndex? i xs.length=some j/\xs[j]? = some v/\j<xs.length /\ -(xs.length:Int)<=i/\i<xs.length:=by
 unfold atI at h;cases e:ixN xs.length i with
 | none=>rw[e]at h;cases h
 | some j =>
   rw[e]at h;obtain⟨h1,h2,O,J⟩:=Qr e;exact⟨j,h1,h,h2,O,J⟩
theorem Ew{Y:Type}{xs:List Y}{j:Nat}{v:Y}(h:xs[j]? = some v):atI xs (j:Int)=some v:=by
 have O:j<xs.length:=(ZO.mp h).1
 have e:ixN xs.length (j:Int)=some j:=by
  unfold ixN;rw[if_pos Yl,if_pos Yl];simp
 unfold atI;rw[e];exact h
def QX(b:Expr):Prop:=∀o i,subscripted b false o i=operate [o,i] (getItem o i)
def IxR(X:Cx)(r:R2):Prop :=
 ∀ (value slice:Expr) (pins:List (ce×Obj)) (s:db) (σ:St) (H:Hp) (x y:V) (v u:cr) (Q:VK),Inv X pins σ H s->Fg x v->Fg y u->r x y H Q ->
   subscripted slice false v u=operate [v,u] (getItem v u)->ge (gh X.prog X.w) X.A (subscriptTail value slice v u) (EP X pins σ Q) X.xe s
def MtR(X:Cx)(id:String)(r:V->List V->Hp->VK->Prop):Prop :=
 ∀ (pins:List (ce×Obj)) (s:db) (σ:St) (H:Hp) (x:V) (xs:List V) (v:cr) (us:List cr) (Q:VK),Inv X pins σ H s->Fg x v->EN xs us->r x xs H Q ->
   ge (gh X.prog X.w) X.A (call (.builtin id) (v::us)) (EP X pins σ Q) X.xe s
section
variable {X:Cx}{a b:Expr}{ta tb:TE}{pos:Pos}
theorem Jd(Y:IxR X r)(J:PE X a ta)(hb:PE X b tb)(hs:QX b):PE X (.Subscript a b pos) (tOp r ta tb):=by
 intro pins s σ H Q I h;exact Subscript_ (Wa J hb I h λv u O x y H2 I2 rx ry q=>Y a b pins O σ H2 x y v u Q I2 rx ry q (hs _ _))
inductive U4(K:ZE)(x:V)(y:V)(H:Hp)(Q:VK):Prop
 | mk(p:_)(xs:_)(i:_)(v:_)(_:x = .ref p)(_:y = .int i)(_:SqL K H p xs)(_:atI xs i=some v)(_:Q v H)
inductive Vk(K:ZE)(x:V)(y:V)(H:Hp)(Q:VK):Prop
 | mk(p:_)(xs:_)(i:_)(v:_)(_:x = .ref p)(_:y = .int i)(_:SqT K H p xs)(_:atI xs i=some v)(_:Q v H)
theorem Us:IxR X (U4 X.K):=by
 intro value J pins s σ H x y v u Q I rx ry h hs;obtain⟨p,xs,i,z,rfl,rfl,hq,he,q⟩:=h;cases rx;obtain⟨t,rfl⟩:=ry;obtain⟨ac,r,O,hz⟩:=I.list hq;obtain⟨j,h1,h2,h3,h4,h5⟩:=QS he;obtain⟨w,ew,aa⟩:=r.get h2;have hl:=r.length;have hn:=Ni;have Y:EP X pins σ Q w s:=⟨z,H,I,aa,q⟩;by_cases h0:0<=i
 ·have hj:i.toNat=j:=by
   rw[seqIndex_of h0 h5]at h1;exact Zu.inj h1
  exact item_listR O.isList h0 Yl (by rw[hj];simpa using ew) Y hs
 ·have hj:(i+(ac.toArray.size:Int)).toNat=j:=by
   rw[seqIndex_neg Yl h4]at h1;rw[bQ,<- hl];exact Zu.inj h1
  exact subscriptTail_builtinR (x:=w) O.isList.typeIs slot_list_getitem.lookup
   (wpAny_getItem_list_neg (Q:=λr s'=>r=w/\EP X pins σ Q r s') O.isList Yl (by rw[bQ]<;>lia) Yl (by rw[hj];simpa using ew) ⟨Z,Y⟩) hs
theorem VU:IxR X (Vk X.K):=by
 intro value Y pins s σ H x y v u Q I rx ry h hs;obtain⟨p,xs,i,z,rfl,rfl,hq,he,q⟩:=h;cases rx;obtain⟨t,rfl⟩:=ry;obtain⟨aa,r,pl,hz⟩:=I.tuple hq;obtain⟨j,h1,h2,h3,h4,h5⟩:=QS he;obtain⟨w,ew,J⟩:=r.get h2;have hl:=r.length;have hn:=Ni;have O:EP X pins σ Q w s:=⟨z,H,I,J,q⟩
 exact subscriptTail_builtinR (x:=w) pl.typeIs slot_tuple_getitem.lookup
  (getItem_tuple (j:=j) (Q:=λr s'=>r=w/\EP X pins σ Q r s') pl Yl Yl (by rw[bQ,<- hl];exact h1) (by simpa using ew) ⟨Z,O⟩) hs
theorem Pe(Y:List cr)(n j:Nat)(u:cr):Obj.mapSeq (·.setIfInBounds j u) { cls:=.type "list",data:=.seq Y.toArray n }={ cls:=.type "list",data:=.seq (Y.set j u).toArray n }:=by
 simp[Obj.mapSeq]
theorem Inv.lst(I:Inv X pins σ H s)(h:H p=some (.lst xs)) :
 ∃(Y:List cr) (n:Nat),EN xs Y/\s.heap.get? p=some { cls:=.type "list",data:=.seq Y.toArray n }/\xs.length<=dl:=by
 obtain⟨z,Y,n,r,e⟩:=I.hok p _ h;exact⟨Y,n,r,e,z⟩
theorem Inv.lstUpd{σ:St}{H:Hp}{s:db}{p:ce}{xs ys:List V}{Y its':List cr}{n O:Nat}{f:Obj->Obj}(I:Inv X pins σ H s)(h:H p=some (.lst xs))
 (ho:s.heap.get? p=some { cls:=.type "list",data:=.seq Y.toArray n }) (hf:f { cls:=.type "list",data:=.seq Y.toArray n }={ cls:=.type "list",data:=.seq its'.toArray O }) (r:EN ys its') (J:ys.length<=dl) (t:Nat) :
 Inv X pins σ (upd H p (.lst ys)) { s with heap:=s.heap.update p f,toks:=t }:=by
 have e:(s.heap.update p f).get? p=some { cls:=.type "list",data:=.seq its'.toArray O }:=by
  rw[Heap.get?_update_self f ho (by rw[hf]<;>rfl),hf]
 refine I.write (x:=p) (e:=p) (by rw[h];trivial) (.inl rfl) (λb u hb q=>(Heap.get?_update_other _ _ (Ne.symm hb)).trans q) ⟨_,e⟩ ?_
 exact⟨J,its',O,r,e⟩
inductive UK(o:V)(i:V)(v:V)(H:Hp)(Q:(Hp->Prop)):Prop
 | mk(p:_)(xs:_)(k:_)(j:_)(_:o = .ref p)(_:i = .int k)(_:H p=some (.lst xs))(_:ixN xs.length k=some j)(_:Q (upd H p (.lst (xs.set j v))))
theorem Ib:WW X UK:=by
 intro pins s σ H o i v ov iv u Q I ro ri rv h;obtain⟨p,xs,k,j,rfl,rfl,hp,hj,q⟩:=h;cases ro;obtain⟨t,rfl⟩:=ri;obtain⟨Y,n,r,O,hz⟩:=I.lst hp;obtain⟨h1,h2,h3,h4⟩:=Qr hj;have J:=r.length;have hn:=Ni
 have I':Inv X pins σ (upd H p (.lst (xs.set j v))) { s with heap:=s.heap.update p (Obj.mapSeq (·.setIfInBounds j u)) } :=
  I.lstUpd hp O (Pe Y n j u) (r.set rv j) (by rw[bR];exact hz) s.toks
 by_cases h0:0<=k
 ·have hk:k.toNat=j:=by
   rw[seqIndex_of h0 h4]at h1;exact Zu.inj h1
  exact PySem.W.ki_setAt O h0 Yl (by rw[bQ,<- J];exact h4) (by rw[hk];exact⟨_,I',q⟩)
 ·have hk:(k+(Y.toArray.size:Int)).toNat=j:=by
   rw[seqIndex_neg Yl h3]at h1;rw[bQ,<- J];exact Zu.inj h1
  exact PySem.W.ki_setBack O Yl (by rw[bQ,<- J];exact h3) Yl (by rw[hk];exact⟨_,I',q⟩)
theorem MR(lo hi:Option Int)(n:Nat):(g5 lo hi none n).1=((HT.sIx n 0 lo:Nat):Int)/\(g5 lo hi none n).2.1=((HT.sIx n n hi:Nat):Int)/\(g5 lo hi none n).2.2=1:=by
 have Y:∀(i:Int) (d:Nat),max 0 (min (if i<0 then i+(n:Int) else i) (n:Int))=((HT.sIx n d (some i):Nat):Int):=by
  intro i d;rw[<- HT.clip_eq];by_cases h:i<0
  ·rw[if_pos h,if_pos h,Int.min_eq_left Yl,Int.max_comm]
  ·rw[if_neg h,if_neg h,Int.max_eq_right (Int.le_min.mpr ⟨Yl,Yl⟩)]
 refine⟨?_,?_,Z⟩
 ·cases lo with
  | none=>simp[g5,HT.sIx]
  | some i=>exact Y i 0
 ·cases hi with
  | none=>simp[g5,HT.sIx]
  | some i=>exact Y i n
theorem LI(Y:List cr)(lo hi:Option Int):slicePick Y.toArray lo hi none=((Y.drop (HT.sIx Y.length 0 lo)).take (HT.sIx Y.length Y.length hi-HT.sIx Y.length 0 lo)).toArray:=by
 obtain⟨h1,h2,O⟩:=MR lo hi Y.toArray.size;unfold slicePick;rw[h1,h2,O];simp only[sliceRange_one,pick_run,bQ]<;>rfl
inductive Vj(K:ZE)(x:V)(lo:Option Int)(hi:Option Int)(H:Hp)(Q:VK):Prop
 | mk(a:_)(xs:_)(_:x = .ref a)(_:SqL K H a xs)(_:∀p,H p=none->Q (.ref p) (upd H p (.lst (IV xs lo hi))))
theorem TU:SlR X (Vj X.K):=by
 intro pins s σ H x v vl vu lo hi sl Q I rx hs pl pu h;obtain⟨a,xs,rfl,hx,q⟩:=h;cases rx;obtain⟨aa,r,O,J⟩:=I.list hx;have Y:=r.length;refine⟨"list",_,slot_list_getitem.lookup,O.isList.typeIs,?_⟩;refine wpAny_getItem_list_slice O.isList hs pl pu .none (by simp) ?_ (by rw[bQ]<;>lia)
 rw[LI,<- Y];refine⟨.ref s.heap.objs.size,_,I.laid (t':=s.toks) (o:=.lst (IV xs lo hi)) (λb ob q=>Heap.get?_push_of_some _ q) (ZR _) ?_,Z,q _ (I.hok.fresh (ZR _))⟩;exact⟨ZF (Ol xs lo hi) J,_,0,(r.drop (HT.sIx xs.length 0 lo)).take (HT.sIx xs.length xs.length hi-HT.sIx xs.length 0 lo),Heap.get?_push_size _ rfl⟩
theorem Ny:IX X (.builtin "len") (λxs H Q=>∃p ys,xs=[.ref p]/\(SqL X.K H p ys\/SqT X.K H p ys)/\Q (.int ys.length) H):=by
 intro pins s σ H xs us Q I r h;obtain⟨p,ys,rfl,O,q⟩:=h;obtain⟨u,rfl,rx⟩:=KJ r;cases rx;have hn:=Ni
 rcases O with O | O
 ·obtain⟨aa,J,pl,hz⟩:=I.list O;have Y:=J.length;exact Calls.call_len_list pl.isList (by simp only[bQ]<;>lia) ⟨.int ys.length,H,I.tok _,⟨s.toks+1,by rw[bQ,Y]⟩,q⟩
 ·obtain⟨aa,J,pl,hz⟩:=I.tuple O;have Y:=J.length;exact len_tuple pl (by simp only[bQ]<;>lia) ⟨.int ys.length,H,I.tok _,⟨s.toks+1,by rw[bQ,Y]⟩,q⟩
theorem Nx:IX X (.type "list") (λxs H Q=>∃p ys,xs=[.ref p]/\(SqL X.K H p ys\/SqT X.K H p ys)/\∀l,H l=none->Q (.ref l) (upd H l (.lst ys))):=by
 intro pins s σ H xs us Q I r h;obtain⟨p,ys,rfl,hq,q⟩:=h;obtain⟨u,rfl,rx⟩:=KJ r;cases rx
 have ac:∀(Y:List cr),EN ys Y->ys.length<=dl->∀(h':gi) (J:Nat),(∀b o',s.heap.get? b=some o'->h'.get? b=some o') ->
  h'.get? s.heap.objs.size=some { cls:=.type "list",dict:=none,data:=.seq Y.toArray J,slots:=#[] }->EP X pins σ Q (.ref s.heap.objs.size) { s with heap:=h' }:=λY O hz h' J kp e =>
  ⟨.ref s.heap.objs.size,_,I.laid (t':=s.toks) kp (ZR _) (show G7 X.prog X.w _ h' _ (.lst ys) from⟨hz,Y,J,O,e⟩),Z,q _ (I.hok.fresh (ZR _))⟩
 rcases hq with hq | hq
 ·obtain⟨Y,O,pl,hz⟩:=I.list hq;have aa:=O.length;obtain⟨o,ho,hc,n,hd⟩:=pl.isList;exact call_list_seq p (.inl rfl) ho hc hd (λh' J kp e=>ac Y O hz h' J kp e) (by simp only[bQ]<;>lia)
 ·obtain⟨Y,O,pl,hz⟩:=I.tuple hq;have aa:=O.length;obtain⟨o,ho,hc,n,hd⟩:=pl;exact call_list_seq p (.inr rfl) ho hc hd (λh' J kp e=>ac Y O hz h' J kp e) (by simp only[bQ]<;>lia)
theorem M0:IX X (.type "tuple") (λxs H Q=>∃p ys,xs=[.ref p]/\((SqL X.K H p ys/\∀l,H l=none->Q (.ref l) (upd H l (.tup ys)))\/(SqT X.K H p ys/\Q (.ref p) H))):=by
 intro pins s σ H xs us Q I r h;obtain⟨p,ys,rfl,h⟩:=h;obtain⟨u,rfl,rx⟩:=KJ r;cases rx
 rcases h with ⟨hq,q⟩ | ⟨hq,q⟩
 ·obtain⟨Y,O,J,hz⟩:=I.list hq;have aa:=O.length;refine call_tuple_list J.isList (λh' kp=>?_) (by simp only[bQ]<;>lia)
  have I1:Inv X pins σ H { s with heap:=h' }:=I.kept (t':=s.toks) kp
  have I2:Inv X pins σ (upd H h'.objs.size (.tup ys)) { s with heap:=h'.push { cls:=.type "tuple",data:=.seq Y.toArray } } :=
   I1.laid (t':=s.toks) (λb o e=>Heap.get?_push_of_some _ e) (ZR _) (show G7 X.prog X.w _ _ _ (.tup ys) from⟨hz,Y,O,IsTup.new _ _⟩)
  exact⟨.ref h'.objs.size,_,I2,Z,q _ (I1.hok.fresh (ZR _))⟩
 ·obtain⟨Y,O,J,hz⟩:=I.tuple hq;exact call_tuple_same J ⟨.ref p,H,I,Z,q⟩
def tyV(K:ZE)(T:String)(x:V)(H:Hp):Prop:=match x with
 | .str _=>T = "str"
 | .int _=>T = "int"
 | .ref p=>(T = "list" /\ ∃xs,SqL K H p xs)\/(T = "tuple" /\ ∃o,K.lookup p=some o/\o.cls = .type "tuple" /\ o.dict=none) \/
  (T = "dict" /\ ((∃kvs,H p=some (.dK kvs))\/∃kvs,H p=some (.dT kvs)))\/(T = "set" /\ ∃S n,H p=some (.set S n))
 | _=>False
theorem RI(I:Inv X pins σ H s)(r:Fg x v)(ty:tyV X.K T x H) :
 s.TypeIs v T/\∀a,v = .ref a->∃J,s.heap.get? a=some J/\J.dict=none:=by
 cases x with
 | str z =>
   obtain⟨t,rfl⟩:=r;cases (show T = "str" from ty);exact⟨typeIs_str s z t,λ_ e=>nomatch e⟩
 | int i =>
   obtain⟨t,rfl⟩:=r;cases (show T = "int" from ty);exact⟨typeIs_int s i t,λ_ e=>nomatch e⟩
 | ref p =>
   cases r
   rcases ty with ⟨rfl,xs,hq⟩ | ⟨rfl,o,hk,hc,hd⟩ | ⟨rfl,hk⟩ | ⟨rfl,S,n,hk⟩
   ·obtain⟨aa,_,O,_⟩:=I.list hq;refine⟨O.isList.typeIs,λa e=>?_⟩;cases e;obtain⟨o,n,e,c,hd,_⟩:=O;exact⟨o,e,hd⟩
   ·refine⟨⟨o,I.kIn p o hk,hc⟩,λa e=>?_⟩;cases e;exact⟨o,I.kIn _ o hk,hd⟩
   ·have z:∃o,s.heap.get? p=some o/\o.ExactDict:=by
     rcases hk with ⟨kvs,hk⟩ | ⟨kvs,hk⟩
     ·obtain⟨_,_,_,_,o,_,_,e,ex,_⟩:=I.hok p _ hk;exact⟨o,e,ex⟩
     ·obtain⟨_,_,_,_,o,_,_,e,ex,_⟩:=I.hok p _ hk;exact⟨o,e,ex⟩
    obtain⟨o,e,ex⟩:=z;refine⟨⟨o,e,ex.1⟩,λa Y=>?_⟩;cases Y;exact⟨o,e,ex.2.1⟩
   ·obtain⟨o,_,_,_,e,ex,_⟩:=I.hok p _ hk;refine⟨⟨o,e,ex.1⟩,λa Y=>?_⟩;cases Y;exact⟨o,e,ex.2.1⟩
 | _=>exact False.elim ty
def Wn(K:ZE)(T:String)(r:V->List V->Hp->VK->Prop)(to:TE):TE:=λσ H Q=>to σ H λx H1=>tyV K T x H1/\r x [] H1 Q
def tBM(K:ZE)(T:String)(r:V->List V->Hp->VK->Prop)(to:TE)(t:TA):TE:=λσ H Q=>to σ H λx H1=>tyV K T x H1/\t σ H1 λxs H2=>r x xs H2 Q
variable {o e:Expr}{es:List Expr}{to:TE}{t:TA}{name:Str}{apos cpos:Pos}{T id:String}{r:V->List V->Hp->VK->Prop}
theorem Vs(pa:PlainAttrs T)(J:Slot T name id)(aa:typeOf (.builtin id)=pure (.type "method_descriptor"))(hm:MtR X id r)(ho:PE X o to)
 (Y:gL o name X.env (gu o X.env)=gu o X.env:=by rfl) (O:(apos.endLine == cpos.line)=true:=by rfl) {K:ZE} (eK:X.K=K:=by rfl):PE X (.Call (.Attribute o name apos) [] [] cpos) (Wn K T r to):=by
 subst eK;intro pins s σ H Q I h;refine wpAny_Call_method0_late Y O (thn (ho pins s σ H _ I h) λv s1 ⟨x,H1,I1,r1,ty,q1⟩=>?_);obtain⟨h1,h2⟩:=RI I1 r1 ty;exact⟨T,id,pa,J,aa,h1,h2,Calls.callWith_builtin rfl (PySem.evalArgs_none (hm pins s1 σ H1 x [] v [] Q I1 r1 .nil q1))⟩
theorem WD(pa:PlainAttrs T)(ac:Slot T name id)(ad:typeOf (.builtin id)=pure (.type "method_descriptor"))(hm:MtR X id r)(ho:PE X o to)(ha:PA X (e::es) t)
 (O:gL o name X.env (gu o X.env)=gu o X.env:=by rfl)
 (aa:((gC cpos (fU (e::es) X.env)).all (λx=>!x.1)&&(backToKw cpos (keywordEach [] X.env)).all (λx=>x.1.isSome)
  && decide ((e::es).length+([]:List g4).length+(if ([]:List g4).isEmpty then 0 else 1)<30))=true:=by rfl)
 (J:(apos.endLine == cpos.line)=true:=by rfl) (hs:fU (e::es) X.env=(false,gu e X.env)::fU es X.env:=by rfl) (Y:(gC cpos (fU es X.env)).any (·.1)=false:=by rfl) {K:ZE} (eK:X.K=K:=by rfl) :
 PE X (.Call (.Attribute o name apos) (e::es) [] cpos) (tBM K T r to t):=by
 subst eK;intro pins s σ H Q I h;refine wpAny_Call_method_late O aa J rfl (thn (ho pins s σ H _ I h) λv s1 ⟨x,H1,I1,r1,ty,q1⟩=>?_);obtain⟨h1,h2⟩:=RI I1 r1 ty;refine⟨T,id,pa,ac,ad,h1,h2,?_⟩;have hA:=ha cpos pins s1 σ H1 _ I1 q1;rw[hs]at hA ⊢;refine Calls.callWith_builtin (by show(false||(gC cpos (fU es X.env)).any (·.1))=false;rw[Y]<;>rfl) (Calls.evalArgs_plain ?_)
 exact thn hA λus s2 ⟨vs,H2,I2,r2,q2⟩=>hm pins s2 σ H2 x vs v us Q I2 r1 r2 q2
end
def MtM(X:Cx)(id:String)(r:V->List V->Hp->VK->Prop):Prop :=
 ∀ (pins:List (ce×Obj)) (s:db) (σ:St) (H:Hp) (x:V) (xs:List V) (v:cr) (us:List cr) (Q:VK),Inv X pins σ H s->Fg x v->EN xs us->r x xs H Q ->
   ge (gh X.prog X.w) X.A (call (.builtin id) (v::us)) (EP X pins σ Q) X.xe s
theorem EN.one(h:EN [x] us):∃u,us=[u]/\Fg x u:=by
 cases h with
 | cons r t=>cases t;exact⟨_,Z,r⟩
theorem EN.zero:∀{us:List cr},EN [] us->us=[]
 | _,.nil=>rfl
theorem EN.dropLast(h:EN xs us):EN xs.dropLast us.dropLast:=by
 induction h with
 | nil=>exact .nil
 | cons r t ih =>
   cases t with
   | nil=>exact .nil
   | cons q t'=>exact .cons r ih
theorem EN.rep(h:EN xs us):∀k:Nat,EN (b6 k xs).flatten (b6 k us).flatten
 | 0=>.nil
 | k+1=>by
   rw[bS,bS,bU,bU];exact EN.append h (EN.rep h k)
theorem Po{Y:Type}(l:List Y):l.eraseIdx (l.length-1)=l.dropLast:=by
 induction l with
 | nil=>rfl
 | cons a r ih =>
   cases r with
   | nil=>rfl
   | cons b r =>
     have e:(a::b::r).length-1=((b::r).length-1)+1:=by
      have h1:(a::b::r).length=r.length+2:=rfl;have h2:(b::r).length=r.length+1:=rfl
      lia
     rw[e,List.eraseIdx_cons_succ,ih]
     all_goals rfl
theorem Ml(O:List cr):∀(k:Nat) (Y:List cr),
 List.foldl (λx1 x2=>x1++x2) Y.toArray (b6 k O.toArray)=(Y++(b6 k O).flatten).toArray
 | 0,Y=>by simp
 | k+1,Y=>by
   have e:Y.toArray++O.toArray=(Y++O).toArray:=by simp
   have J:(Y++O)++(b6 k O).flatten=Y++(b6 (k+1) O).flatten:=by
    rw[bS,bU,bV]
   rw[<- J,<- Ml O k (Y++O),<- e,bS,List.foldl_cons]
section
variable {X:Cx}{pins:List (ce×Obj)}{σ:St}{H:Hp}{s:db}{l b:ce}{xs ys zs:List V}
theorem Inv.lset{Y its':List cr}{n:Nat}{f:Array cr->Array cr}{t':Nat}(I:Inv X pins σ H s)(hH:H l=some (.lst xs))
 (e:s.heap.get? l=some { cls:=.type "list",data:=.seq Y.toArray n }) (hf:f Y.toArray=its'.toArray) (hv:EN ys its') (O:ys.length<=dl) :
 Inv X pins σ (upd H l (.lst ys)) { s with heap:=s.heap.update l (Obj.mapSeq f),toks:=t' }:=by
 have q:=PySem.IsL.update e f;rw[hf]at q;refine I.write (x:=l) (e:=l) (by rw[hH];exact trivial) (.inl rfl) (λb' u hb J=>(Heap.get?_update_other s.heap (Obj.mapSeq f) (Ne.symm hb)).trans J) ⟨_,q⟩ ?_
 exact⟨O,its',_,hv,q⟩
theorem Inv.lnew(I:Inv X pins σ H s)(hv:EN ys Y)(O:ys.length<=dl) :
 Inv X pins σ (upd H s.heap.objs.size (.lst ys)) { s with heap:=s.heap.push { cls:=.type "list",data:=.seq Y.toArray },toks:=t' } :=
 I.laid (λ_ _ q=>Heap.get?_push_of_some _ q) (ZR _) ⟨O,Y,0,hv,Heap.get?_push_size _ rfl⟩
theorem Inv.fresh(I:Inv X pins σ H s):H s.heap.objs.size=none:=I.hok.fresh (ZR _)
theorem Inv.lstM(I:Inv X pins σ H s)(O:H l=some (.lst xs)):xs.length<=dl/\∃(Y:List cr) (n:Nat),EN xs Y/\xs.length=Y.length/\s.heap.get? l=some { cls:=.type "list",data:=.seq Y.toArray n }:=by
 obtain⟨z,Y,n,r,e⟩:=I.hok l _ O;exact⟨z,Y,n,r,r.length,e⟩
theorem O3(h:n<=dl):Builtin.List.listTooLong n=false:=by
 unfold Builtin.List.listTooLong;exact decide_eq_false Yl
end
section
variable {X:Cx}
inductive Q5(x:V)(vs:List V)(H:Hp)(Q:VK):Prop
 | mk(l:_)(xs:_)(y:_)(_:x = .ref l)(_:vs=[y])(_:H l=some (.lst xs))(_:xs.length<dl)(_:Q .non (upd H l (.lst (xs++[y]))))
theorem FQ:MtM X "list.append" Q5:=by
 intro pins s σ H x vs v us Q I rx rv h;obtain⟨l,xs,y,rfl,rfl,O,hz,q⟩:=h;cases rx;obtain⟨u,rfl,J⟩:=rv.one;obtain⟨z,Y,n,r,hl,e⟩:=I.lstM O;refine g9 F.slot_list_append ⟨_,e,Z⟩ F.entry_list_append (F.args_list_append_2 _ _) (PySem.list_append l Y.toArray n u (by rw[bQ];lia)) ⟨e,?_⟩
 refine⟨.non,_,I.lset (its':=Y++[u]) O e (by simp) (r.append (.cons J .nil)) ?_,Z,q⟩
 rw[bH,bW]
 lia
inductive Q4(x:V)(vs:List V)(H:Hp)(Q:VK):Prop
 | mk(l:_)(b:_)(xs:_)(zs:_)(_:x = .ref l)(_:vs=[.ref b])(_:H l=some (.lst xs))(_:H b=some (.lst zs))(_:xs.length+zs.length<=dl)(_:Q .non (upd H l (.lst (xs++zs))))
theorem Mg:MtM X "list.extend" Q4:=by
 intro pins s σ H x vs v us Q I rx rv h;obtain⟨l,b,xs,zs,rfl,rfl,hH,hB,hz,q⟩:=h;cases rx;obtain⟨u,rfl,ru⟩:=rv.one;cases ru;obtain⟨z,O,n,r,hl,e⟩:=I.lstM hH;obtain⟨z2,Y,n2,r2,aa,e2⟩:=I.lstM hB;have hsz:O.toArray.size+Y.toArray.size<=dl:=by rw[bQ,bQ];lia
 have J:¬(!O.toArray.isEmpty&&Builtin.List.listTooLong (O.toArray.size+Y.toArray.size))=true:=by
  rw[O3 hsz,Bool.and_false];exact Bool.false_ne_true
 refine g9 F.slot_list_extend ⟨_,e,Z⟩ F.entry_list_extend (F.args_list_extend_2 _ _)
  (AutoSeq1.list_extend_list_list_0 l O.toArray n b Y.toArray n2 J (by rw[bQ];lia) Yl) ⟨e,e2,?_⟩
 refine⟨.non,_,I.lset (its':=O++Y) hH e (by simp) (r.append r2) ?_,Z,q⟩
 rw[bH]
 lia
inductive Wy(x:V)(vs:List V)(H:Hp)(Q:VK):Prop
 | mk(l:_)(xs:_)(y:_)(_:x = .ref l)(_:vs=[])(_:H l=some (.lst xs))(_:xs[xs.length-1]? = some y)(_:Q y (upd H l (.lst xs.dropLast)))
theorem VH:MtM X "list.pop" Wy:=by
 intro pins s σ H x vs v us Q I rx rv h;obtain⟨l,xs,y,rfl,rfl,hH,hy,q⟩:=h;cases rx;have O:=rv.zero;subst O;obtain⟨z,Y,n,r,hl,e⟩:=I.lstM hH;obtain⟨u,hu,ru⟩:=r.get hy
 have J:Y.toArray[Y.toArray.size-1]? = some u:=by
  show Y.toArray[Y.length-1]? = some u;rw[<- Array.getElem?_toList,<- hl];exact hu
 refine g9 F.slot_list_pop ⟨_,e,Z⟩ F.entry_list_pop (F.args_list_pop_1 _) (MeetsSeq.list_pop_last l Y.toArray n u J (by rw[bQ];lia)) ⟨e,?_⟩
 refine⟨y,_,I.lset (its':=Y.dropLast) hH e ?_ r.dropLast ?_,ru,q⟩
 ·show Y.toArray.eraseIdxIfInBounds (Y.toArray.size-1)=Y.dropLast.toArray;rw[bQ,List.eraseIdxIfInBounds_toArray,Po]
 ·rw[List.length_dropLast]
  lia
inductive Wz(x:V)(y:V)(H:Hp)(Q:VK):Prop
 | mk(l:_)(b:_)(xs:_)(zs:_)(_:x = .ref l)(_:y = .ref b)(_:H l=some (.lst xs))(_:H b=some (.lst zs))(_:xs.length+zs.length<=dl)(_:∀p,H p=none->Q (.ref p) (upd H p (.lst (xs++zs))))
theorem N3:OpR X (gT .Add) Wz:=by
 intro pins s σ H x y v u Q I J ry h;obtain⟨l,b,xs,zs,rfl,rfl,hH,hB,hz,q⟩:=h;cases J;cases ry;obtain⟨z,O,n,r,hl,e⟩:=I.lstM hH;obtain⟨z2,Y,n2,r2,aa,e2⟩:=I.lstM hB;refine PySem.P.add_list e e2 ?_ (by rw[bQ,bQ];lia)
 have ea:O.toArray++Y.toArray=(O++Y).toArray:=by simp
 rw[ea];exact⟨.ref _,_,I.lnew (t':=s.toks) (r.append r2) (by rw[bH];lia),Z,q _ I.fresh⟩
inductive Wx(x:V)(y:V)(H:Hp)(Q:VK):Prop
 | mk(l:_)(k:_)(xs:_)(_:x = .ref l)(_:y = .int k)(_:H l=some (.lst xs))(h4 : -(2 ^ 63)<=k)(_:k<2 ^ 63)(_:xs.length*k.toNat<=dl)(_:∀p,H p=none->Q (.ref p) (upd H p (.lst (b6 k.toNat xs).flatten)))
theorem Qm{Y:Type}(xs:List Y)(k:Nat):(b6 k xs).flatten.length=k*xs.length:=by
 induction k with
 | zero=>simp
 | succ k ih=>rw[bS,bU,bH,ih,Nat.succ_mul,Nat.add_comm]
theorem So:OpR X (gT .Mult) Wx:=by
 intro pins s σ H x y v u Q I rx ry h;obtain⟨l,k,xs,rfl,rfl,hH,h1,h2,hz,q⟩:=h;cases rx;obtain⟨t,rfl⟩:=ry;obtain⟨z,Y,n,r,hl,e⟩:=I.lstM hH;have ac:Y.toArray.size*k.toNat<=dl:=by rw[bQ,<- hl];exact hz
 have ad:¬Y.toArray.size*k.toNat > (2 ^ 63-1) / 8:=by
  have:(dl:Nat)<=(2 ^ 63-1) / 8:=by decide
  lia
 have J:¬(!Builtin.List.listFitsIndex k)=true:=by
  rw[fitsIndex_both h1 h2];exact Bool.false_ne_true
 have O:¬Builtin.List.listTooLong (Y.toArray.size*k.toNat)=true:=by
  rw[O3 ac];exact Bool.false_ne_true
 have aa:List.foldl (λx1 x2=>x1++x2) #[] (b6 (if Y.toArray.isEmpty=true then 0 else k.toNat) Y.toArray)=(b6 k.toNat Y).flatten.toArray:=by
  have f0:∀m:Nat,List.foldl (λx1 x2=>x1++x2) #[] (b6 m Y.toArray)=(b6 m Y).flatten.toArray:=λm=>by
   have:=Ml Y m [];rw[List.nil_append]at this;exact this
  rw[f0];cases Y with
  | nil=>simp
  | cons a r'=>rw[if_neg (by simp)]
 refine wpAny_binaryOp_repeat_ref (T:="list") (U:="int") Yd ⟨_,e,Z⟩ (λs'=>typeIs_int s' k t) noFill_list_mul F.fills_int_mul F.slot_int_rmul repeat_list F.slot_int_index.lookup
  (g9 F.slot_int_rmul (typeIs_int s k t) F.entry_int_rmul (F.args_int_rmul_2 _ _) (int___rmul___int_list k t l Y.toArray n)
   ⟨e,Z,⟨_,e,Z⟩,g9 F.slot_list_mul ⟨_,e,Z⟩ F.entry_list_mul (F.args_list_mul_2 _ _) (AutoListH.list___mul___list_int_3 l Y.toArray n k t J ad O) ⟨e,?_⟩⟩)
 rw[aa];exact⟨.ref _,_,I.lnew (t':=s.toks) (r.rep k.toNat) (by rw[Qm,bY];exact hz),Z,q _ I.fresh⟩
end
section
variable {prog:fV}{w:fY}{A:fZ}{E:cr->db->Prop}{s:db}
set_option maxRecDepth 100000 in
end
section
variable {X:Cx}
end
end L2
namespace Att
open PySem PySem.W PySem.Calls PyProof.Rows
theorem ints_of_wellAll:∀(Y:List Int) (vs:List cr),WellAll P h vs (Y.map WData.int)->IntsAre vs Y:=by
 intro Y
 induction Y with
 | nil =>
   intro vs w;rw[List.map_nil]at w;cases w;exact .nil
 | cons n Y ih =>
   intro vs w;rw[bZ]at w;cases w with
   | cons a b =>
     cases a;exact .cons _ _ (ih _ b)
theorem script_of{l:OpenLaw}{n:Nat}(hn:l.most=some n){P:Params}{h:gi}{args:List WData}{J:List cr}
 (O:l.row.toRowW.claim.pre args=true) (ac:WellAll P h J args) :
 ∃a vs Y,J=[Value.ref a]/\args=[WData.list (Y.map WData.int)]/\h.get? a=some { cls:=.type "list",data:=.seq vs.toArray }/\IntsAre vs Y/\Y.length<=n:=by
 have ad:WShape.hasAll [] args [.list .int]=true:=(pre_splitW O).1;have hc:l.pre.holds [] { args:=args }=true:=(pre_splitW O).2;obtain⟨d,r,rfl,h1,h2⟩:=hasAllW_cons ad;obtain rfl:=hasAllW_nil h2;obtain⟨xs,rfl,h3⟩:=hasW_list h1;obtain⟨Y,rfl⟩:=items_int h3
 have aa:Y.length<=n:=by
  unfold OpenLaw.pre at hc
  have h4:(WTm.not (.lt (.lit (.int (n:Int))) (.len (.arg 0)))).holds [] { args:=[.list (Y.map .int)] }=true:=by
   have h4:=(holds_andW hc).1;rw[hn]at h4;exact h4
  have h5:=condW_of h4 (w_not (w_lt w_lit (w_len_list (w_arg rfl))));rw[bI]at h5;refine Nat.le_of_not_lt λq=>?_;have q':(n:Int)<((Y.length:Nat):Int):=by lia
  first
   | (rw[decide_eq_true q']at h5;exact absurd h5 Yd)
   | (simp at h5;lia)
 cases ac with
 | cons w1 w2 =>
   cases w2;cases w1 with
   | list ho hall=>exact⟨_,_,Y,Z,Z,ho,ints_of_wellAll Y _ hall,aa⟩
theorem post_true(l:OpenLaw)(args:List WData):l.row.toRowW.claim.post args (.bool true) args=true :=
 postW_of (r:=l.row.toRowW) (X:=(true == true))
  (by first | rfl | decide | simp[WShape.has,WShape.arms,WShape.armsAll]:WShape.has [] (.bool true) .bool=true)
  (show(WTm.eq .res (.lit (.bool true))).value [] { args:=args,res:=some (.bool true),after:=args }=some (.bool (true == true)) from w_eq_bool (w_res rfl) w_lit) rfl
theorem attach_call{l:OpenLaw}{n:Nat}{q:fV}{J:List Str}{XP:(Str->Option cr)->gi->Prop}{YP:fY->gi->Prop}{d:DefRec}
 (hn:l.most=some n) (ak:d.params.defaults=[])
 (af:∀(w:fY) (s₀ O:db) (mg mb:Str->Option cr) (fa:ce) (o:Obj) (pm cd ac:cr) (a:ce) (vs:List cr) (ns:List Int),
  Ground q J [] XP w s₀ mg mb O.heap->YP w O.heap ->
  O.heap.get? fa=some o->o.data = .func (docDef d.name d.params d.body d.scope pm cd ac)->O.heap.CodeRec cd d.name->mg d.name=some (.ref fa) ->
  O.heap.get? a=some { cls:=.type "list",data:=.seq vs.toArray }->IntsAre vs ns->ns.length<=n->O.gens = #[] ->
  g8 (gh l.prog w) callerA (.call (.ref fa) ⟨[.ref a],[]⟩) (λr s'=>r = .ok (.ret (.bool true))/\OldK O.heap s'.heap/\s'.os=O.os/\gP s'.gens) O) :
 WalkO q J XP YP l.row.toRowW d [] (λf vs=>PySem.call f vs):=by
 intro w s₀ O mg mb G Y fa o pm cd ac dV kV ho hd ai hD aj hg args al as ag am ao ah an;obtain rfl:dV = .none:=Dflts.none hD ak;obtain rfl:kV = .none:=Dflts.noKw hD;obtain⟨a,vs,ns,rfl,rfl,ad,aa,ae⟩:=script_of hn ag ah;refine enter_call (gW (af w s₀ O mg mb fa o pm cd ac a vs ns G Y ho (fd_plain hd) ai aj ad aa ae hg) λr s' hq=>?_);obtain⟨rfl,h2,h3,h4⟩:=hq;exact⟨.inl ⟨.bool true,.bool true,[],Z,λ_=>rfl,.bool true,post_true l _,λ_=>⟨List.Pairwise.nil,λ_ hm=>(nomatch hm)⟩⟩,h2,h3,h4⟩
section
variable {prog:fV}{w:fY}{A:fZ}{E:cr->db->Prop}{s:db}{K:Frag}
end
end Att
namespace L2
open PySem PySem.Spec PyProof.Rows
theorem R0(h:IntsAre vs Y):EN (Y.map V.int) vs:=by
 induction h with
 | nil=>exact .nil
 | cons n t h ih=>exact .cons ⟨t,Z⟩ ih
def Wd(H:Hp):Prop:=∀b,H b=none\/∃o xs,H b=some (.frz o (.lst xs))
theorem SH{w:fY}{K:ZE}{mg mb:Str->Option cr}{CX:CXT}{k:Nat}{fa a:ce}{fd:fT}{x:Str}{sp:Sp}{Y:db}{vs:List cr}{ns:List Int}
 (KX:K.In Y.heap) (af:Y.heap.Ns fX mg) (hb:Y.heap.Ns builtinsNs mb) (ao:∀x:Str,x ≠ "__name__" -> mb x=gv x) (ak:Y.heap.NoLimit) (aa:Y.heap.NoSeer) (hg:Y.gens = #[])
 (ha:Y.heap.get? a=some { cls:=.type "list",data:=.seq vs.toArray }) (hi:IntsAre vs ns) (hl:ns.length<=dl) (hr:Gx k callerA)
 (F:∀base:gi,K.In base->base.Ns fX mg->EF P w K mg base CX k fa fd [x] sp) (ad:∀(s:db) (u:cr),BindsTo s fd ⟨[u],[]⟩ [(x,u)])
 (ar:∀H:Hp,Wd H->SqL K H a (ns.map V.int)->sp [.ref a] H (λv _=>v = .bl true) λ_ _ _=>False)
 (am:∀H e s',CX [] H Y (λ_ _ _=>False) e s'->False) :
 g8 (gh P w) callerA (.call (.ref fa) ⟨[.ref a],[]⟩) (λr s'=>r = .ok (.ret (.bool true))/\OldK Y.heap s'.heap/\s'.os=Y.os/\gP s'.gens) Y:=by
 have rv:=R0 hi;have ag:=hi.length
 -- from an abstract heap in which nothing but the script may be tracked
 have ac:∀H:Hp,Wd H->SqL K H a (ns.map V.int)->HOk P w H Y.heap->(∀b,H b≠none->b=a)->(H a≠none->K.lookup a=none) ->
  g8 (gh P w) callerA (.call (.ref fa) ⟨[.ref a],[]⟩) (λr s'=>r = .ok (.ret (.bool true))/\OldK Y.heap s'.heap/\s'.os=Y.os/\gP s'.gens) Y:=by
  intro H hO hS ai hA hK;have O:∀{b:ce} {o:Obj},Y.heap.get? b=some o->H b=none->(LY Y.heap H).get? b=some o:=λe n=>SO e n
  have ap:∀{b:ce} {o:Obj} {es:Array DictEntry} {ep:Nat},Y.heap.get? b=some o->o.data = .dict es ep->H b=none:=fun{b o es ep} e d=>by
   cases q:H b with
   | none=>rfl
   | some u =>
     have e':b=a:=hA b (by rw[q];simp)
     subst e';rw[ha]at e;cases e;have d':Data.seq vs.toArray _=Data.dict es ep:=d;cases d'
  have J:∀{b:ce} {m:Str->Option cr},Y.heap.Ns b m->(LY Y.heap H).Ns b m:=fun{b m} ⟨o,es,ep,e,d,r⟩=>⟨o,es,ep,O e (ap e d),d,r⟩
  have ah:K.In (LY Y.heap H):=λb o e=>O (KX b o e) (by
   cases q:H b with
   | none=>rfl
   | some u =>
     have e':b=a:=hA b (by rw[q];simp)
     subst e';rw[hK (by rw[q];simp)]at e;cases e)
  have ae:(LY Y.heap H).NoSeer:=⟨let ⟨mc,x,y⟩:=aa.statics;⟨mc,J x,y⟩,let ⟨mm,x,y⟩:=aa.mods;⟨mm,J x,y⟩,let ⟨mi,x,y⟩:=aa.imp;⟨mi,J x,y⟩,by
   obtain⟨aq,bm,ob,x,y,z,u,v⟩:=aa.main;refine⟨aq,bm,ob,J x,y,O z ?_,u,v⟩;cases q:H bm with
   | none=>rfl
   | some o =>
     have e':bm=a:=hA bm (by rw[q];simp)
     subst e';rw[ha]at z;cases z;have u':Value.type "list" = Value.type "module":=u;exact absurd u' Yd⟩
  have hM:Mod K mg (LY Y.heap H):=⟨ah,J af,⟨mb,J hb,ao⟩,let ⟨mc,h1,h2⟩:=ak;⟨mc,J h1,h2⟩,ae⟩;have e0:Tw P w K mg (LY Y.heap H) callerA [] Y H:=⟨Z,hM,λb o e=>Ue e,Nat.le_of_eq (Rt _ _),trivial,λb hb=>absurd (show b∈([]:List ce) from hb) (by simp),ai,.of_eq hg⟩
  refine gW ((F _ ah (J af)).run callerA [] Y H ⟨[.ref a],[]⟩ [.ref a] [.ref a] _ _ hr e0 (ad Y (.ref a)) (.cons rfl .nil) (ar H hO hS)) λr s' h=>?_;cases r with
  | error e=>exact(am H e s' h).elim
  | ok fl =>
    cases fl with
    | next=>exact False.elim h
    | brk=>exact False.elim h
    | cont=>exact False.elim h
    | ret u =>
      obtain⟨v,H',os,aj,un,al,r',q⟩:=h;have q':v = .bl true:=q;subst q';obtain rfl:u=Value.bool true:=r';refine⟨Z,OldK.of_keep λb o e=>?_,os,aj⟩;cases q:H b with
      | none=>exact un.keep b o e q (by intro z;exact absurd (show b∈([]:List ce) from z) (by simp)) (by simp)
      | some u =>
        rcases hO b with z | ⟨ob,xs,z⟩
        ·rw[q]at z;cases z
        ·have z2:=un.frzs b ob _ z;obtain⟨e1,_⟩:=ai b _ z;obtain⟨e2,_⟩:=al b _ z2;rw[e]at e1;cases e1;exact e2
 cases hk:K.lookup a with
 | some o =>
   -- the script is one of the module's own objects
   have e:=KX a o hk;rw[ha]at e;cases e;refine ac (λ_=>none) (λ_=>.inl rfl) (.inr ⟨_,vs.toArray,_,hk,Z,Z,Z,by rw[bQ,ag];exact hl,by simpa using rv⟩) (λb u z=>by have z':(none:Option HO)=some u:=z;cases z') (λb z=>absurd rfl z) λz=>absurd rfl z
 | none =>
   refine ac (λb=>if b=a then some (.frz { cls:=.type "list",data:=.seq vs.toArray } (.lst (ns.map V.int))) else none) (λb=>?_) (.inl (.inr ⟨{ cls:=.type "list",data:=.seq vs.toArray },if_pos rfl⟩)) (λb u z=>?_) (λb z=>?_) λ_=>hk
   ·by_cases hb:b=a
    ·exact .inr ⟨_,_,if_pos hb⟩
    ·exact .inl (if_neg hb)
   ·by_cases hb:b=a
    ·have z':=(if_pos hb).symm.trans z;cases z';subst hb;exact⟨ha,by rw[bI];exact hl,vs,_,rv,ha⟩
    ·have z':=(if_neg hb).symm.trans z;cases z'
   ·by_cases hb:b=a
    ·exact hb
    ·exact absurd (if_neg hb) z
theorem TH{l:c3}{n k:Nat}{q:fV}{J:List Str}{XP:(Str->Option cr)->gi->Prop}{YP:fY->gi->Prop}{d:DefRec}{K:Params->ZE}{CX:fY->CXT}{sp:fY->Sp}{x:Str}
 (hI:importsNone q=true) (hn:l.most=some n) (ae:n<=dl) (ah:d.params.defaults=[]) (hr:Gx k callerA)
 (hY:∀(w:fY) (h:gi),YP w h->(K w.params).In h)
 (F:∀(w:fY) (mg:Str->Option cr) (fa:ce) (h:gi),(K w.params).In h->h.Ns fX mg->mg d.name=some (.ref fa) ->
  ∃ fd:fT,(∀(s:db) (u:cr),BindsTo s fd ⟨[u],[]⟩ [(x,u)]) /\
    ∀base:gi,(K w.params).In base->base.Ns fX mg->EF l.prog w (K w.params) mg base (CX w) k fa fd [x] (sp w))
 (ai:∀(w:fY) (H:Hp) (a:ce) (ns:List Int),ns.length<=n->Wd H->SqL (K w.params) H a (ns.map V.int)->sp w [.ref a] H (λv _=>v = .bl true) λ_ _ _=>False)
 (af:∀(w:fY) (H:Hp) (s:db) (e:cr) (s':db),CX w [] H s (λ_ _ _=>False) e s'->False) :
 PySem.W.WalkO q J XP YP l.row.toRowW d [] (λf vs=>PySem.call f vs):=by
 refine Att.attach_call hn ah λw s₀ ac mg mb fa o pm cd ak a vs ns G Y ho hd aj ag ad aa O hg=>?_;have KX:=hY w _ Y;obtain⟨fd,hb,hF⟩:=F w mg fa _ KX G.T.g ag;exact SH KX G.T.g G.T.b G.T.builtins G.T.nolimit (G.T.seer hI) hg ad aa (ZF O ae) hr hF hb (λH hO hS=>ai w H a ns O hO hS) λH e s'=>af w H ac e s'
def FX(s:gI):Arguments:=match s with
 | .FunctionDef _ a _ _ _ _ _ _ _ _=>a
 | _=>{ posonlyargs:=[],args:=[],vararg:=none,kwonlyargs:=[],kw_defaults:=[],kwarg:=none,defaults:=[] }
def Fy(s:gI):List gI:=match s with
 | .FunctionDef _ _ b _ _ _ _ _ _ _=>b
 | _=>[]
def El(s:gI):gH:=match s with
 | .FunctionDef _ _ _ _ _ _ sc _ _ _=>sc
 | _=>{ kind:=.function,names:=[],isGenerator:=false,isCoroutine:=false }
abbrev CX0:CXT:=λ_ _ _ _ _ _=>False
abbrev E0:XK:=λ_ _ _=>False
theorem WE:Kg CX0 X E0:=λ_ _ _ _ _ _ _ h=>h.elim
structure Fun(K:ZE)(x qual:Str)(st:gI)(f:ce)(fd:fT):Prop where
 ex:∃(oc:cr) (od:Option ce) (kV doc pm:cr) (an:Option ce) (cdv ct:cr) (osl:Array (Option cr)),
  fd=bK x qual (FX st) (Fy st) (El st) .none kV doc pm an cdv ct/\K.lookup f=some ⟨oc,od,.func fd,osl⟩/\bM K cdv qual=true
 kp:ZX K (.ref f)=true
section
variable {P:fV}{w:fY}{K:ZE}{mg:Str->Option cr}{base:gi}
theorem Fun.ok{x qual:Str}{st:gI}{f:ce}{fd:fT}{N ps:List Str}{k:Nat}{sp:Sp}(F:Fun K x qual st f fd)(S:Eo N ps (El st))(aa:∀vs H Q E,sp vs H Q E->vs.length=ps.length)
 (O:∀(Y:cr) (A:fZ) (outer:List Env) (s:db) (H:Hp) (vs:List V) (Q:VK) (E:XK),Gx k (A.deeper (envOfC qual (El st) s.heap.objs.size f Y))->sp vs H Q E ->
  ∃t,PSs (JP CX0 P w K mg base N qual (El st) f Y A outer s H E).nox (Fy st) t/\t { nx:=λ_ H'=>Q .non H',rt:=Q } (start N vs) H):EF P w K mg base CX0 (k+1) f fd ps sp:=by
 obtain⟨oc,od,kV,ae,pm,an,Y,ct,ad,rfl,lk,J⟩:=F.ex;refine UX lk J S aa λA outer s H vs Q E hr ac=>?_;obtain⟨t,h,q⟩:=O Y A outer s H vs Q E hr ac;exact⟨t,h.nox,q⟩
theorem Fun.binds{x qual:Str}{st:gI}{f:ce}{fd:fT}{ps:List Str}(F:Fun K x qual st f fd)
 (h:∀(kV O pm:cr) (J:Option ce) (Y ct:cr) (us:List cr),us.length=ps.length->gR (bK x qual (FX st) (Fy st) (El st) .none kV O pm J Y ct) ⟨us,[]⟩=pure (ps.zip us)):Gs K fd ps []:=by
 obtain⟨oc,od,kV,O,pm,J,Y,ct,ac,rfl,lk,aa⟩:=F.ex;exact .all (h kV O pm J Y ct)
theorem Ls{x qual:Str}{st:gI}{f:ce}{oc:cr}{od an:Option ce}{J:Array (Option cr)}{kV O pm Y ct:cr}(l:K.lookup f=some ⟨oc,od,.func (bK x qual (FX st) (Fy st) (El st) .none kV O pm an Y ct),J⟩)
 (c:bM K Y qual=true) (k:ZX K (.ref f)=true):Fun K x qual st f (bK x qual (FX st) (Fy st) (El st) .none kV O pm an Y ct):=⟨⟨oc,od,kV,O,pm,an,Y,ct,J,Z,l,c⟩,k⟩
end
theorem ET(h:n<=1000):n<dl:=c5 h Yd
section
variable {X:Cx}
theorem pv(i:Nat)(O:X.N[i]? = some x:=by rfl)(hv:Vis X.env.scope x:=by first | exact Or.inl rfl | exact Or.inr (Or.inl rfl) | exact Or.inr (Or.inr rfl))(hd:(x == ("__debug__" : Str))=false:=by decide)
 (Y:(x == ("__classdict__" : Str))=false:=by decide):PE X (.Name x pos) (LH i):=Vp O hv hd Y
end
theorem IB{A B:Prop}(h:B):if false=true then A else B:=by
 rw[if_neg Bool.false_ne_true];exact h
theorem LX{A B:Prop}(h:A):if true=true then A else B:=by
 rw[if_pos rfl];exact h
theorem Nj{c A B:Prop}[Decidable c](h1:c->A)(h2:¬c->B):if c then A else B:=by
 by_cases h:c
 ·rw[if_pos h];exact h1 h
 ·rw[if_neg h];exact h2 h
def E4(H H':Hp):Prop:=∀b o,H b=some o->H' b=some o
theorem E4.refl(H:Hp):E4 H H:=λ_ _ h=>h
theorem E4.trans(a:E4 H H1)(b:E4 H1 H2):E4 H H2:=λc o h=>b c o (a c o h)
theorem E4.free(e:E4 H H')(h:H' l=Option.none):H l=Option.none:=by
 cases q:H l with
 | none=>rfl
 | some o =>
   rw[e l o q]at h;cases h
theorem E4.seq{K:ZE}{H H':Hp}{a:ce}{xs:List V}(e:E4 H H')(h:SqL K H a xs):SqL K H' a xs:=by
 rcases h with (h | ⟨o,h⟩) | h
 ·exact .inl (.inl (e _ _ h))
 ·exact .inl (.inr ⟨o,e _ _ h⟩)
 ·exact .inr h
section
variable {κ:Type}[DecidableEq κ]
def HM(kvs:List (κ×V))(k:κ):Option V:=(kvs.find? λkv=>decide (kv.1=k)).map (·.2)
def Jw(kvs:List (κ×V))(k:κ)(v:V):List (κ×V) :=
 if (kvs.any λkv=>decide (kv.1=k))=true then kvs.map (λkv=>if kv.1=k then (kv.1,v) else kv) else kvs++[(k,v)]
theorem G9{p:κ×V}{r:List (κ×V)}{k:κ}(e:p.1=k):HM (p::r) k=some p.2:=by simp[HM,c7,e]
theorem Ga{p:κ×V}{r:List (κ×V)}{k:κ}(e:¬p.1=k):HM (p::r) k=HM r k:=by simp[HM,c7,e]
theorem Jo(k:κ):∀kvs:List (κ×V),(kvs.any λkv=>decide (kv.1=k))=(HM kvs k).isSome
 | []=>rfl
 | p::r=>by
   rw[c8];by_cases e:p.1=k
   ·simp only[G9 e,decide_eq_true e,Bool.true_or,Option.isSome_some]
   ·rw[Ga e,decide_eq_false e,Bool.false_or];exact Jo k r
theorem NI(k j:κ)(y:V):∀kvs:List (κ×V),HM (kvs.map λY=>if Y.1=k then (Y.1,y) else Y) j=(HM kvs j).map λx=>if j=k then y else x
 | []=>rfl
 | p::r=>by
   have ih:=NI k j y r;rw[bZ];by_cases h:p.1=k
   ·rw[if_pos h];by_cases e:p.1=j
    ·rw[G9 (p:=(p.1,y)) e,G9 e,cg,if_pos (e.symm.trans h)]
    ·rw[Ga (p:=(p.1,y)) e,Ga e,ih]
   ·rw[if_neg h];by_cases e:p.1=j
    ·rw[G9 (p:=p) e,G9 e,cg,if_neg (λz=>h (e.trans z))]
    ·rw[Ga (p:=p) e,Ga e,ih]
theorem M5(k j:κ)(y:V):∀kvs:List (κ×V),HM kvs k=none->HM (kvs++[(k,y)]) j=if j=k then some y else HM kvs j
 | [],_=>by
   by_cases e:k=j
   ·rw[if_pos e.symm];exact G9 (p:=(k,y)) e
   ·rw[if_neg (λz=>e z.symm)];exact Ga (p:=(k,y)) e
 | p::r,hn=>by
   rw[List.cons_append];have hk:¬p.1=k:=λz=>by rw[G9 z]at hn;cases hn
   rw[Ga hk]at hn;have Y:=M5 k j y r hn;by_cases e:p.1=j
   ·rw[G9 e,G9 e,if_neg (λz=>hk (e.trans z))]
   ·rw[Ga e,Ga e,Y]
theorem RG(kvs:List (κ×V))(k j:κ)(y:V):HM (Jw kvs k y) j=if j=k then some y else HM kvs j:=by
 unfold Jw;by_cases a:(kvs.any λY=>decide (Y.1=k))=true
 ·rw[if_pos a,NI];rw[Jo]at a;by_cases e:j=k
  ·obtain⟨x,O⟩:=Option.isSome_iff_exists.mp a;rw[if_pos e,e,O,cg,if_pos rfl]
  ·rw[if_neg e];cases HM kvs j with
   | none=>rfl
   | some x=>rw[cg,if_neg e]
 ·rw[if_neg a];refine M5 k j y kvs ?_;rw[Jo]at a;cases q:HM kvs k with
  | none=>rfl
  | some x=>rw[q]at a;exact(a rfl).elim
theorem IS(kvs:List (κ×V))(k:κ)(v:V):(Jw kvs k v).length<=kvs.length+1:=by
 unfold Jw
 split
 ·rw[bI];lia
 ·rw[bH,ck,cq];lia
theorem M3.isSome_eq(r:M3 o u):o.isSome=u.isSome:=by
 cases o with
 | none=>cases u with
   | none=>rfl
   | some _=>exact(show False from r).elim
 | some _=>cases u with
   | none=>exact(show False from r).elim
   | some _=>rfl
theorem KV.val(r:KV kvs vs)(k:κ):M3 (HM kvs k) (valueAt vs k):=by
 unfold KV at r
 induction r with
 | nil=>exact True.intro
 | @cons p q ps qs h t O =>
   obtain⟨h1,h2⟩:=h;by_cases e:p.1=k
   ·have Y:q.1=k:=h1.symm.trans e;have b:valueAt (q::qs) k=some q.2:=by simp[valueAt,c7,Y]
    rw[G9 e,b];exact h2
   ·have Y:¬q.1=k:=λz=>e (h1.trans z);have b:valueAt (q::qs) k=valueAt qs k:=by simp[valueAt,c7,Y]
    rw[Ga e,b];exact O
theorem KV.any(r:KV kvs vs)(k:κ):(kvs.any λY=>decide (Y.1=k))=vs.any λY=>decide (Y.1=k):=by
 unfold KV at r
 induction r with
 | nil=>rfl
 | cons h t ih=>rw[c8,c8,ih,h.1]
theorem KV.repl(r:KV kvs vs)(k:κ)(O:Fg y u) :
 KV (kvs.map λY=>if Y.1=k then (Y.1,y) else Y) (vs.map λY=>if Y.1=k then (Y.1,u) else Y):=by
 unfold KV at r ⊢
 induction r with
 | nil=>exact .nil
 | @cons p q ps qs h t ih =>
   rw[bZ,bZ];refine .cons ?_ ih;obtain⟨h1,h2⟩:=h;by_cases e:p.1=k
   ·rw[if_pos e,if_pos (h1.symm.trans e)];exact⟨h1,O⟩
   ·rw[if_neg e,if_neg (λz=>e (h1.trans z))];exact⟨h1,h2⟩
theorem KV.put(r:KV kvs vs)(k:κ)(Y:Fg y u):KV (Jw kvs k y) (stored vs k u):=by
 unfold Jw stored;rw[r.any k];by_cases e:(vs.any λO=>decide (O.1=k))=true
 ·rw[if_pos e,if_pos e];exact r.repl k Y
 ·rw[if_neg e,if_neg e];exact Paired.snoc r ⟨Z,Y⟩
theorem KV.length{kvs:List (κ×V)}{vs:List (κ×cr)}(r:KV kvs vs):kvs.length=vs.length:=Paired.length r
end
theorem SI(r:Fg (kV k) u):(Gr P w).is k u=true:=by
 cases k with
 | inl i=>obtain⟨t,e⟩:=(show ∃t,u=Value.int i t from r);subst e;exact O8 P w i t
 | inr x=>obtain⟨t,e⟩:=(show ∃t,u=Value.str x t from r);subst e;exact O7 P w x t
theorem Mi:∀{ks:List Key} {us:List cr},EN (ks.map kV) us->ItemsAre (Gr P w) ks us
 | [],_,r=>by rw[List.map_nil]at r;cases r;exact .nil
 | k::ks,_,r=>by
   rw[bZ]at r;cases r with
   | cons h t=>exact .cons (SI h) (Mi t)
abbrev KT(H:Hp):List (List Key×V)->List (List Key×ce×cr)->Prop:=Paired λp q=>p.1=q.1/\H q.2.1=some (.tup (p.1.map kV))/\Fg p.2 q.2.2
theorem KT.val(r:KT H kvs xs)(k:List Key):M3 (HM kvs k) ((atKey xs k).map (·.2)):=by
 induction r with
 | nil=>exact True.intro
 | @cons p q ps qs h t O =>
   obtain⟨h1,_,h2⟩:=h;by_cases e:p.1=k
   ·have Y:q.1=k:=h1.symm.trans e;have b:atKey (q::qs) k=some q.2:=by simp[atKey,c7,Y]
    rw[G9 e,b];exact h2
   ·have Y:¬q.1=k:=λz=>e (h1.trans z);have b:atKey (q::qs) k=atKey qs k:=by simp[atKey,c7,Y]
    rw[Ga e,b];exact O
theorem KT.repl(r:KT H kvs xs)(k:List Key)(O:Fg y u) :
 KT H (kvs.map λY=>if Y.1=k then (Y.1,y) else Y) (xs.map (putAt k u)):=by
 induction r with
 | nil=>exact .nil
 | @cons p q ps qs h t ih =>
   rw[bZ,bZ];refine .cons ?_ ih;obtain⟨h1,h2,J⟩:=h;unfold putAt;by_cases e:p.1=k
   ·rw[if_pos e,if_pos (h1.symm.trans e)];exact⟨h1,h2,O⟩
   ·rw[if_neg e,if_neg (λz=>e (h1.trans z))];exact⟨h1,h2,J⟩
theorem KT.put(r:KT H kvs xs)(k:List Key)(O:H b=some (.tup (k.map kV)))(Y:Fg y u) :
 KT H (Jw kvs k y) (storedH xs k b u):=by
 have e:(kvs.any λJ=>decide (J.1=k))=(atKey xs k).isSome:=by
  rw[Jo,(r.val k).isSome_eq,Option.isSome_map]
 unfold Jw storedH;rw[e];by_cases q:(atKey xs k).isSome=true
 ·rw[if_pos q,if_pos q];exact r.repl k Y
 ·rw[if_neg q,if_neg q];exact Paired.snoc r ⟨Z,O,Y⟩
theorem KT.keeps(r:KT H kvs xs)(Y:∀b ys,H b=some (.tup ys)->H' b=some (.tup ys)):KT H' kvs xs :=
 Paired.mapP r λ_ _ z=>⟨z.1,Y _ _ z.2.1,z.2.2⟩
section
variable {P:fV}{w:fY}{H:Hp}{h:gi}{a:ce}
theorem UJ(Y:HOk P w H h)(e:Rd H a u):G7 P w H h a u:=e.ok Y
theorem SY(Y:HOk P w H h)(e:Rd H a (.dK kvs)):kvs.length<=dl/\(a == gJ)=false/\∃vs,KV kvs vs/\h.DictOf (Gr P w) a vs :=
 show G7 P w H h a (.dK kvs) from UJ Y e
theorem WR(Y:HOk P w H h)(e:H a=some (.dK kvs)):kvs.length<=dl/\(a == gJ)=false/\∃vs,KV kvs vs/\h.DictOf (Gr P w) a vs:=SY Y (.inl e)
theorem Pk(J:HOk P w H h)(e:H a=some (.tup (ks.map kV))):(tupleKind (Gr P w)).is h ks a:=by
 obtain⟨_,Y,r,o,h1,h2,n,O⟩:=(show G7 P w H h a (.tup (ks.map kV)) from J a _ e);exact⟨o,Y.toArray,n,h1,h2,O,by simpa using Mi r⟩
theorem SW(J:HOk P w H h)(e:Rd H a (.dT kvs)):kvs.length<=dl/\(a == gJ)=false /\
 ∃xs,KT H kvs xs/\h.DictOfH (tupleKind (Gr P w)) a xs:=by
 obtain⟨z,y,xs,r,o,es,ep,h1,h2,h3,h4,h5⟩:=(show G7 P w H h a (.dT kvs) from UJ J e);refine⟨z,y,xs,r,o,es,ep,h1,h2,h3,h4,λx Y=>?_,h5⟩
 have O:∀{l:List (List Key×V)} {m:List (List Key×ce×cr)},KT H l m->∀x∈m,(tupleKind (Gr P w)).is h x.1 x.2.1:=by
  intro l m q
  induction q with
  | nil=>intro x Y;exact nomatch Y
  | @cons p q ps qs hq t ih =>
    intro x Y
    rcases ZL.mp Y with e | Y
    ·subst e;exact Pk J (by rw[<- hq.1];exact hq.2.1)
    ·exact ih x Y
 exact O r x Y
theorem WQ(Y:HOk P w H h)(e:H a=some (.dT kvs)):kvs.length<=dl/\(a == gJ)=false /\
 ∃xs,KT H kvs xs/\h.DictOfH (tupleKind (Gr P w)) a xs:=SW Y (.inl e)
end
def RF(H:Hp)(a:ce)(y:V)(r:Option V):Prop :=
 (∃kvs k,Rd H a (.dK kvs)/\y=kV k/\r=HM kvs k)\/∃kvs k b,Rd H a (.dT kvs)/\y = .ref b/\H b=some (.tup (k.map kV))/\r=HM kvs k
def Tx(H:Hp)(a:ce)(y v:V)(H':Hp):Prop :=
 (∃kvs k,H a=some (.dK kvs)/\y=kV k/\kvs.length<dl/\H'=upd H a (.dK (Jw kvs k v))) \/
 ∃kvs k b,H a=some (.dT kvs)/\y = .ref b/\H b=some (.tup (k.map kV))/\kvs.length<dl/\H'=upd H a (.dT (Jw kvs k v))
theorem RF.t(e:H a=some (.dT kvs))(Y:H b=some (.tup (k.map kV))):RF H a (.ref b) (HM kvs k):=.inr ⟨kvs,k,b,.inl e,Z,Y,Z⟩
theorem Tx.t(e:H a=some (.dT kvs))(O:H b=some (.tup (k.map kV)))(Y:kvs.length<dl) :
 Tx H a (.ref b) v (upd H a (.dT (Jw kvs k v))):=.inr ⟨kvs,k,b,e,Z,O,Y,Z⟩
section
variable {X:Cx}{pins:List (ce×Obj)}{σ:St}{H:Hp}{s:db}{a:ce}{y v:V}{u r:cr}{o:Option V}{A:fZ}{E:cr->db->Prop}
theorem Inv.big(I:Inv X pins σ H s):gJ<s.heap.objs.size:=by
 have h:fX<s.heap.objs.size:=(I.mod.glob.keeps I.bk).lt;exact Nat.lt_trans Yd h
theorem Rx(hu:A.units+1<cLine)(I:Inv X pins σ H s)(g:RF H a y (some v))(ry:Fg y u)(h:∀J s',Inv X pins σ H s'->Fg v J->Q J s') :
 ge (gh X.prog X.w) A (getItem (.ref a) u) Q E s:=by
 rcases g with ⟨kvs,k,e,ey,l⟩ | ⟨kvs,k,b,e,ey,eb,l⟩
 ·subst ey;obtain⟨z,hd,vs,Y,dd⟩:=SY I.hok e;obtain⟨J,hw,O⟩:=M3.some_of (v:=v) (o:=valueAt vs k) (by rw[l];exact Y.val k)
  exact wpAny_getItem_of (SI ry) dd.mapOf hw (h J _ (I.tok _) O)
 ·subst ey;cases (show u=Value.ref b from ry);obtain⟨z,hd,xs,Y,dd⟩:=SW I.hok e;obtain⟨J,hw,O⟩:=M3.some_of (v:=v) (o:=(atKey xs k).map (·.2)) (by rw[l];exact Y.val k)
  obtain⟨p,hp,aa⟩:=Option.map_eq_some_iff.mp hw;refine wpAny_getItem_heap (tupleKind_room_in1 hu) (Pk I.hok eb) dd hp ?_;rw[aa];exact h J _ (I.tok _) O
theorem QG(I:Inv X pins σ H s)(mu:Mut (H a))(hs:Heap.SameBut a s.heap h')(he:∃q,h'.get? a=some q)(Y:G7 X.prog X.w (upd H a O) h' a O) :
 Inv X pins σ (upd H a O) { s with heap:=h',toks:=t' } :=
 I.write (x:=a) (e:=a) mu (.inl rfl) (λb q J z=>(hs.2 b J).trans z) he Y
theorem W3(z:kvs.length<=dl)(hd:(a == gJ)=false)(Y:KV kvs vs)(dd:h'.DictOf (Gr P w) a vs) :
 G7 P w H' h' a (.dK kvs):=⟨z,hd,vs,Y,dd⟩
theorem Rw(hu:A.units+1<cLine)(I:Inv X pins σ H s)(g:Tx H a y v H')(ry:Fg y u)(rv:Fg v r)(h:∀s',Inv X pins σ H' s'->Q () s') :
 ge (gh X.prog X.w) A (setItem (.ref a) u r) Q E s:=by
 rcases g with ⟨kvs,k,e,ey,l,eH⟩ | ⟨kvs,k,b,e,ey,eb,l,eH⟩
 ·subst ey eH;obtain⟨z,hd,vs,Y,dd⟩:=WR I.hok e;have hz:vs.length<=dl:=by rw[<- Y.length];exact z
  have hl:(Jw kvs k v).length<=dl:=by have:=IS kvs k v;lia
  refine wpAny_setItem_pairs (hsz:=hz) (SI ry) dd λh' O hs=>h _ ?_;have he:∃q,h'.get? a=some q:=let ⟨q,_,_,J,_⟩:=O;⟨q,J⟩;exact QG I (by rw[e];exact True.intro) hs he (W3 hl hd (Y.put k rv) O)
 ·subst ey eH;cases (show u=Value.ref b from ry);obtain⟨z,hd,xs,Y,dd⟩:=WQ I.hok e;have hz:xs.length<=dl:=by rw[<- Paired.length Y];exact z
  have hl:(Jw kvs k v).length<=dl:=by have:=IS kvs k v;lia
  refine wpAny_setItem_heap (hsz:=hz) (tupleKind_room_in1 hu) (Pk I.hok eb) dd λh' O hs=>h _ ?_;obtain⟨q,es,ep,J,h2,h3,h4,_,h5⟩:=O;refine QG I (by rw[e];exact True.intro) hs ⟨q,J⟩ ⟨hl,hd,_,(Y.put k eb rv).keeps λc ys ec=>?_,q,es,ep,J,h2,h3,h4,h5⟩
  rw[EC (Jf ec e (λz=>nomatch z))];exact ec
end
section
variable {X:Cx}{pins:List (ce×Obj)}{σ:St}{H:Hp}{s:db}{a:ce}{kvs:List (Key×V)}{k:Key}{u:cr}{A:fZ}{E:cr->db->Prop}
end
def WX(i:Expr):Prop:=∀ov iv,subscripted i false ov iv=operate [ov,iv] (getItem ov iv)
theorem TN{prog:fV}{w:fY}{A:fZ}{E:cr->db->Prop}{s:db}{env:Env}{value Y:Expr}{pos:Pos}{T id:String}{Q:cr->db->Prop}
 (hl:typeLookup (.type T) "__getitem__" = pure (some (.builtin id))) (hs:WX Y)
 (h:ge (gh prog w) A (gu value env) (λo aa=>ge (gh prog w) A (gu Y env) (λi O=>O.TypeIs o T/\ge (gh prog w) A (getItem o i) Q E O) E aa) E s) :
 ge (gh prog w) A (gu (.Subscript value Y pos) env) Q E s:=by
 refine Subscript_ (gn h (λo aa ae=>gn ae (λi O J=>?_) λ_ _ x=>x) λ_ _ x=>x);obtain⟨hT,J⟩:=J;unfold subscriptTail;refine fW ?_;rw[getitemInPython_of_ne hT.not_modules];refine fW (wpAny_specialOf hT hl ?_)
 have ad:ge (gh prog w) A (subscripted Y false o i) (λr ac=>ge (gh prog w) A (letTemporaryGo value o r >>= λ_=>pure r) Q E ac) E O:=by
  rw[hs o i];exact wpAny_operating (gn J (λr ac af=>fW (wpAny_letTemporaryGo (gj af))) λ_ _ x=>x)
 first
  | exact gj (fW ad)
  | exact fW (gj (fW ad))
  | exact fW ad
theorem Oi(I:Inv X pins σ H s)(g:RF H a y o):s.TypeIs (.ref a) "dict":=by
 rcases g with ⟨kvs,k,e,_,_⟩ | ⟨kvs,k,b,e,_,_,_⟩
 ·obtain⟨_,_,vs,_,dd⟩:=SY I.hok e;exact dd.typeIs
 ·obtain⟨_,_,xs,_,dd⟩:=SW I.hok e;exact dd.typeIs
def Wm(td ty:TE):TE:=λσ H Q=>td σ H λx H1=>ty σ H1 λy H2=>∃a v,x = .ref a/\RF H2 a y (some v)/\Q v H2
def Wu(td ty tv:TE):TS:=λD σ H=>tv σ H λv H1=>td σ H1 λx H2=>ty σ H2 λy H3=>∃a H4,x = .ref a/\Tx H3 a y v H4/\D.nx σ H4
section
variable {X:Cx}{o i e value:Expr}{pos pos' tpos:Pos}{td ty tv:TE}
theorem U7(hu:X.A.units+1<cLine)(ho:PE X o td)(hi:PE X i ty)(hs:WX i):PE X (.Subscript o i pos) (Wm td ty):=by
 intro pins s σ H Q I h;refine TN PySem.F.slot_dict_getitem.lookup hs (thn (ho pins s σ H _ I h) λu s1 ⟨x,H1,I1,rx,q1⟩=>thn (hi pins s1 σ H1 _ I1 q1) λiv s2 ⟨y,H2,O,ry,a,v,ex,g,q2⟩=>?_);subst ex;obtain rfl:u=Value.ref a:=rx;exact⟨Oi O g,Rx hu O g ry λw' s3 J Y=>⟨v,H2,J,Y,q2⟩⟩
theorem U6(J:X.A.units+1<cLine)(ho:PE X o td)(hi:PE X i ty)(hv:PE X value tv)(hs:swapsWith value (some (.Subscript o i pos')) pos.line X.env=pure false) :
 PS X (.Assign [.Subscript o i pos'] value pos) (Wu td ty tv):=by
 intro pins s σ H D I h;refine wpAny_Assign_Subscript (thn (hv pins s σ H _ I h) λr s1 ⟨v,H1,I1,rv,q1⟩=>thn (ho pins s1 σ H1 _ I1 q1) λu s2 ⟨x,H2,I2,rx,q2⟩=>thn (hi pins s2 σ H2 _ I2 q2) λiv s3 ⟨y,H3,Y,ry,a,O,ex,g,q3⟩=>?_) hs;subst ex;obtain rfl:u=Value.ref a:=rx;exact Rw J Y g ry rv λs4 I4=>⟨σ,O,I4,q3⟩
end
theorem SX(h:gi)(Y:gJ<h.objs.size):G7 P w H (h.push { cls:=.type "dict",data:=.dict #[] }) h.objs.size (.dT []) :=
 ⟨ZU _,beq_eq_false_iff_ne.mpr (Ne.symm (Zy Y)),[],.nil,_,#[],0,Heap.get?_push_size _ rfl,⟨Z,Z,Z⟩,Z,Z,List.nodup_nil⟩
def Vb:TE:=λ_ H Q=>∀p,H p=none->Q (.ref p) (upd H p (.dT []))
section
variable {X:Cx}{pos:Pos}
theorem Sf:PE X (.Dict [] [] pos) Vb:=λpins s σ H Q I h =>
 wpAny_Dict_empty ⟨.ref s.heap.objs.size,_,I.laid (a:=s.heap.objs.size) (o:=.dT []) (t':=s.toks) (λ_ _ q=>Heap.get?_push_of_some _ q) (ZR _) (SX s.heap I.big),Z,h _ (I.hok.fresh (ZR _))⟩
end
structure M1(X:Cx)(o:Expr)(m:Str)(apos:Pos)(e:Expr)(cpos:Pos):Prop where
 base:gL o m X.env (gu o X.env)=gu o X.env
 few:((gC cpos (fU [e] X.env)).all (λx=>!x.1)&&(backToKw cpos (keywordEach [] X.env)).all (λx=>x.1.isSome)
  && decide (([e]:List Expr).length+([]:List g4).length+(if ([]:List g4).isEmpty then 0 else 1)<30))=true
 line:(apos.endLine == cpos.line)=true
 trees:gC cpos (fU [e] X.env)=[(false,gu e X.env)]
structure M2(X:Cx)(o:Expr)(m:Str)(apos:Pos)(e f:Expr)(cpos:Pos):Prop where
 base:gL o m X.env (gu o X.env)=gu o X.env
 few:((gC cpos (fU [e,f] X.env)).all (λx=>!x.1)&&(backToKw cpos (keywordEach [] X.env)).all (λx=>x.1.isSome)
  && decide (([e,f]:List Expr).length+([]:List g4).length+(if ([]:List g4).isEmpty then 0 else 1)<30))=true
 line:(apos.endLine == cpos.line)=true
 trees:gC cpos (fU [e,f] X.env)=[(false,gu e X.env),(false,gu f X.env)]
section
variable {X:Cx}{pins:List (ce×Obj)}{σ:St}{H:Hp}{s:db}{a:ce}{y d:V}{u r:cr}{o:Option V}{A:fZ}{E:cr->db->Prop}
end
section
variable {X:Cx}{o e f:Expr}{apos cpos:Pos}{td ty tx:TE}
end
section
variable {X:Cx}{pins:List (ce×Obj)}{σ:St}{H:Hp}{s:db}{a:ce}{kvs:List (Key×V)}{A:fZ}{E:cr->db->Prop}
end
section
variable {X:Cx}{pins:List (ce×Obj)}{σ:St}{H:Hp}{s:db}{a:ce}{y:V}{u:cr}{A:fZ}{E:cr->db->Prop}
end
end L2
abbrev kg:=List (List Rat)
abbrev kh:=List Rat
abbrev ki:=List Int
abbrev kj:=List Nat
abbrev km:=List PySem.Str
abbrev ko:=List L2.V
abbrev kG(P:PySem.Program):Prop:=P.given.tree=none
abbrev kH:List PySem.Str:=["a","b"]
abbrev kI:List PySem.Str:=["points"]
abbrev kJ:List PySem.Str:=["_law_a","_law_b"]
abbrev kK:List PySem.Str:=["curve","low","high"]
abbrev kL:List PySem.Str:=["numbers"]
abbrev kM:List PySem.Str:=["one","other"]
abbrev kN:List PySem.Str:=["numbers","bottom"]
abbrev kO:List PySem.Str:=["piece"]
abbrev kP:List PySem.Str:=["_law_pen_here","_law_many"]
abbrev kR:List PySem.Str:=["top","bottom"]
abbrev kT:List PySem.Str:=["_law_pen_here"]
abbrev kU:List PySem.Str:=["first","second"]
abbrev kW:List PySem.Str:=["tops","bottom"]
abbrev kX:List PySem.Str:=["_law_top","_law_bottom"]
abbrev kY:List PySem.Str:=["_law_curve","_law_x"]
abbrev kZ:List PySem.Str:=["_law_pen_here","_law_points_here"]
abbrev lc:List PySem.Str:=["_law_curve","_law_low","_law_high"]
namespace Nm
def msr(a b:Int):Int:=if b<0 then -(cu a b:Int) else (cu a b:Int)
theorem gcd_pos(Y:b≠0):0<cu a b:=Nat.pos_of_ne_zero λh=>Y (Int.gcd_eq_zero_iff.mp h).2
theorem msr_ne(Y:b≠0):msr a b≠0:=by
 have:=gcd_pos (a:=a) Y;unfold msr;split<;>lia
theorem fdiv_neg_dvd(h:g∣a):a.fdiv (-g) = -(a / g):=by
 obtain⟨k,rfl⟩:=h;by_cases hg:g=0
 ·subst hg;simp
 ·rw[Int.mul_ediv_cancel_left _ hg,show g*k = -g * -k by rw[Int.neg_mul_neg],cw _ Yl]
theorem fdiv_dvd{a g:Int}(h:g∣a):a.fdiv g=a / g:=by
 obtain⟨k,rfl⟩:=h;by_cases hg:g=0
 ·subst hg;simp
 ·rw[Int.mul_ediv_cancel_left _ hg,cw _ hg]
theorem top_msr(Y:b≠0):a.fdiv (msr a b)=(cx a b).num:=by
 rw[Rat.num_divInt,Int.gcd_comm b a];have d:(cu a b:Int)∣a:=Int.gcd_dvd_left ..;unfold msr
 split
 ·rename_i h
  rw[fdiv_neg_dvd d,cy h,Int.neg_mul,cz,Int.neg_ediv_of_dvd d]
 ·rw[fdiv_dvd d,cA Yl,cz]
theorem bottom_msr(Y:b≠0):b.fdiv (msr a b)=(cx a b).den:=by
 rw[Rat.den_divInt,if_neg Y,Int.gcd_comm b a];have d:(cu a b:Int)∣b:=Int.gcd_dvd_right ..;rw[Int.natCast_ediv];unfold msr
 split
 ·rename_i h
  rw[fdiv_neg_dvd d,<- Int.neg_ediv_of_dvd d,Int.ofNat_natAbs_of_nonpos Yl]
 ·rw[fdiv_dvd d,Int.natAbs_of_nonneg Yl]
theorem gcd_turn(x y:Int):cu y (x % y)=cu x y:=by
 have e:x % y+y*(x / y)=x:=Int.emod_add_mul_ediv x y;have h:cu (x % y+y*(x / y)) y=cu (x % y) y:=Int.gcd_add_mul_left_left ..;rw[e]at h;rw[h,Int.gcd_comm]
theorem abs_if(i:Int):(if i<0 then -i else i)=(i.natAbs:Int):=by split<;>lia
theorem num_mul(q:Rat):((q.num:Int):Rat)=q*((q.den:Int):Rat):=by
 have hd:((q.den:Nat):Int)≠0:=by have:=q.den_pos;lia
 have h1:q=(q.num:Rat) / ((q.den:Int):Rat):=by
  have:=Rat.num_divInt_den q;rw[cB]at this;exact this.symm
 have Y:(((q.den:Int)):Rat)≠0:=λz=>hd (by exact_mod_cast z)
 conv=>rhs;lhs;rw[h1]
 rw[cC Y]
theorem den_ne(q:Rat):((q.den:Nat):Int)≠0:=by have:=q.den_pos;lia
theorem cast_ne{a:Int}(h:a≠0):(a:Rat)≠0:=λz=>h (by exact_mod_cast z)
theorem div_eq{t b:Int}{q:Rat}(Y:b≠0)(h:(t:Rat)=q*(b:Rat)):cx t b=q:=by
 rw[cB,h,Rat.mul_div_cancel (cast_ne Y)]
theorem plus_eq(p q:Rat):cx (p.num*q.den+q.num*p.den) (p.den*q.den)=p+q :=
 div_eq (cD (den_ne p) (den_ne q)) (by rw[cE,cF,cF,cF,num_mul p,num_mul q];grind)
theorem minus_eq(p q:Rat):cx (p.num*q.den-q.num*p.den) (p.den*q.den)=p-q :=
 div_eq (cD (den_ne p) (den_ne q)) (by rw[Rat.intCast_sub,cF,cF,cF,num_mul p,num_mul q];grind)
theorem times_eq(p q:Rat):cx (p.num*q.num) (p.den*q.den)=p*q :=
 div_eq (cD (den_ne p) (den_ne q)) (by rw[cF,cF,num_mul p,num_mul q];grind)
theorem pow_add(x:Rat)(m:Nat):∀n:Nat,x ^ (m+n)=x ^ m*x ^ n
 | 0=>by rw[Nat.add_zero,cG];grind
 | n+1=>by rw[<- Nat.add_assoc,cH,cH,pow_add x m n];grind
end Nm
namespace Cv
def ev:kh->Rat->Rat
 | [],_=>0
 | q::r,x=>q+x*ev r x
def strip:kh->kh
 | []=>[]
 | q::r=>if strip r=[]/\q=0 then [] else q::strip r
theorem ev_strip(x:Rat):∀qs,ev (strip qs) x=ev qs x
 | []=>rfl
 | q::r=>by
   have ih:=ev_strip x r;unfold strip
   split
   ·rename_i h
    rw[h.1]at ih;show(0:Rat)=q+x*ev r x;rw[<- ih,h.2];show(0:Rat)=0+x*0;grind
   ·show q+x*ev (strip r) x=_;rw[ih];rfl
theorem strip_length:∀qs,(strip qs).length<=qs.length
 | []=>ZR _
 | q::r=>by
   have ih:=strip_length r;unfold strip
   split
   ·exact ZU _
   ·exact Nat.succ_le_succ ih
theorem strip_last:∀qs,strip qs≠[]->(strip qs)[(strip qs).length-1]? ≠ some 0
 | [],h=>absurd rfl h
 | q::r,h=>by
   have ih:=strip_last r;unfold strip at h ⊢
   split at h
   ·exact absurd rfl h
   ·rename_i Y
    rw[if_neg Y];by_cases e:strip r=[]
    ·rw[e];intro z;have O:q=0:=by simpa using z
     exact Y ⟨e,O⟩
    ·have J:0<(strip r).length:=cI.mpr e;rw[ck,show(strip r).length+1-1=((strip r).length-1)+1 by lia,cJ]
     exact ih e
theorem strip_mem:∀qs q,q∈strip qs->q∈qs
 | [],_,h=>h
 | p::r,q,h=>by
   unfold strip at h
   split at h
   ·cases h
   ·rcases ZL.mp h with e | e
    ·exact e ▸ ZJ
    ·exact ZK _ (strip_mem r q e)
theorem take_strip:∀(qs:kh) (w:Nat),(∀j q,w<=j->qs[j]? = some q->q=0)->(w=0\/∃q,qs[w-1]? = some q/\q≠0)->qs.take w=strip qs
 | [],w,_,_=>by simp[strip]
 | p::r,0,h,_=>by
   have Y:=take_strip r 0 (λj q _ e=>h (j+1) q Yl (by simpa using e)) (.inl rfl)
   have hp:p=0:=h 0 p (ZR _) rfl;unfold strip;rw[<- Y,if_pos ⟨Z,hp⟩];rfl
 | p::r,w+1,h,h2=>by
   have hz:∀j q,w<=j->r[j]? = some q->q=0:=λj q hj e=>h (j+1) q Yl (by simpa using e)
   by_cases hw:w=0
   ·subst hw;have Y:=take_strip r 0 hz (.inl rfl)
    rcases h2 with z | ⟨q,e,O⟩
    ·exact absurd z Yl
    ·have e':p=q:=by simpa using e
     subst e';unfold strip;rw[<- Y,if_neg (λz=>O z.2)];rfl
   ·have Y:=take_strip r w hz (by
     rcases h2 with z | ⟨q,e,O⟩
     ·exact absurd z Yl
     ·refine .inr ⟨q,?_,O⟩;rw[show w+1-1=(w-1)+1 by lia,cJ]at e
      exact e)
    have J:strip r≠[]:=by
     rw[<- Y]
     rcases h2 with z | ⟨q,e,O⟩
     ·exact absurd z Yl
     ·rw[show w+1-1=(w-1)+1 by lia,cJ]at e
      intro z
      have hl:0<(r.take w).length:=by
       rw[b9];have:=(ZO.mp e).1
       lia
      rw[z]at hl;simp at hl
    unfold strip;rw[<- Y,if_neg (λz=>J (by rw[<- Y];exact z.1))];rfl
def pw:kh->Rat->Rat->Rat
 | [],_,_=>0
 | q::r,x,p=>q*p+pw r x (p*x)
theorem ev_scale(c x:Rat):∀qs,ev (qs.map (· * c)) x=ev qs x*c
 | []=>by show(0:Rat)=0*c;grind
 | q::r=>by
   show q*c+x*ev (r.map (· * c)) x=(q+x*ev r x)*c;rw[ev_scale c x r];grind
theorem ev_snoc(x q:Rat):∀l:kh,ev (l++[q]) x=ev l x+q*x ^ l.length
 | []=>by show q+x*0=0+q*x ^ 0;rw[cG];grind
 | p::r=>by
   show p+x*ev (r++[q]) x=(p+x*ev r x)+q*x ^ (r.length+1);rw[ev_snoc x q r,cH];grind
theorem strip_zeros:∀(qs:kh) (n:Nat),strip (qs++b6 n 0)=strip qs
 | [],0=>rfl
 | [],n+1=>by
   have Y:=strip_zeros [] n;show strip (0::b6 n 0)=[];unfold strip;have e:strip (b6 n 0)=[]:=by simpa [strip] using Y
   rw[if_pos ⟨e,Z⟩]
 | q::r,n=>by
   have Y:=strip_zeros r n;show strip (q::(r++b6 n 0))=strip (q::r);unfold strip;rw[Y]
theorem ev_set(x d:Rat):∀(l:kh) (i:Nat) (v:Rat),l[i]? = some v->ev (l.set i (v+d)) x=ev l x+d*x ^ i
 | [],_,_,h=>by simp at h
 | q::r,0,v,h=>by
   have e:q=v:=by simpa using h
   subst e;show(q+d)+x*ev r x=(q+x*ev r x)+d*x ^ 0;rw[cG];grind
 | q::r,i+1,v,h=>by
   show q+x*ev (r.set i (v+d)) x=(q+x*ev r x)+d*x ^ (i+1);rw[ev_set x d r i v (by simpa using h),cH];grind
theorem ev_zeros(x:Rat):∀n,ev (b6 n 0) x=0
 | 0=>rfl
 | n+1=>by
   show(0:Rat)+x*ev (b6 n 0) x=0;rw[ev_zeros x n];grind
def evI(ts:ki)(x:Rat):Rat:=ev (ts.map λt:Int=>(t:Rat)) x
theorem evI_set(x:Rat)(l:ki)(i:Nat)(v d:Int)(h:l[i]? = some v):evI (l.set i (v+d)) x=evI l x+(d:Rat)*x ^ i:=by
 unfold evI;rw[cK,cE];exact ev_set x _ _ i _ (by rw[bA,h];rfl)
theorem evI_zeros(x:Rat)(n:Nat):evI (b6 n 0) x=0:=by
 unfold evI;rw[List.map_replicate];exact ev_zeros x n
theorem evI_take_succ(x:Rat)(l:ki)(i:Nat)(v:Int)(h:l[i]? = some v):evI (l.take (i+1)) x=evI (l.take i) x+(v:Rat)*x ^ i:=by
 have hi:i<l.length:=(ZO.mp h).1;unfold evI;rw[cL,h];show ev ((l.take i++[v]).map _) x=_;rw[cM];show ev (_++[(v:Rat)]) x=_;rw[ev_snoc,bI,b9,bO Yl]
theorem evI_cons(x:Rat)(t:Int)(l:ki):evI (t::l) x=(t:Rat)+x*evI l x:=rfl
theorem evI_scale(x:Rat)(c:Int)(l:ki):evI (l.map (c * ·)) x=(c:Rat)*evI l x:=by
 induction l with
 | nil=>show(0:Rat)=_*0;grind
 | cons t l ih=>rw[bZ,evI_cons,evI_cons,ih,cF];grind
theorem evI_last(x:Rat)(l:ki)(t:Int)(h:l[l.length-1]? = some t):evI l x=evI (l.take (l.length-1)) x+(t:Rat)*x ^ (l.length-1):=by
 have Y:l.length-1<l.length:=(ZO.mp h).1;have:=evI_take_succ x l (l.length-1) t h;rw[show l.length-1+1=l.length by lia,cN]at this
 exact this
def quot(c:Rat):kh->kh
 | []=>[]
 | [_]=>[]
 | _::b::l=>ev (b::l) c::quot c (b::l)
theorem quot_ev(c x:Rat):∀l:kh,ev l x=ev l c+(x-c)*ev (quot c l) x
 | []=>by show(0:Rat)=0+_*0;grind
 | [a]=>by show a+x*0=a+c*0+(x-c)*0;grind
 | a::b::l=>by
   have h:=quot_ev c x (b::l);show a+x*ev (b::l) x=a+c*ev (b::l) c+(x-c)*(ev (b::l) c+x*ev (quot c (b::l)) x);rw[h];grind
theorem quot_length(c:Rat):∀l:kh,(quot c l).length=l.length-1
 | []=>rfl
 | [_]=>rfl
 | _::b::l=>by
   show(quot c (b::l)).length+1=_;rw[quot_length c (b::l)];simp
theorem ev_none(x:Rat):∀l:kh,(∀q∈l,q=0)->ev l x=0
 | [],_=>rfl
 | a::l,h=>by
   show a+x*ev l x=0;rw[h a ZJ,ev_none x l λq hq=>h q (ZK _ hq)]
   grind
theorem ident:∀(n:Nat) (l:kh),l.length<=n->∀s:Nat,(∀k:Nat,s<=k->ev l (k:Rat)=0)->∀q∈l,q=0
 | 0,l,hl,_,_=>by
   have e:l=[]:=cO Yl;rw[e];exact λq h=>nomatch h
 | n+1,[],_,_,_=>λq h=>nomatch h
 | n+1,a::t,hl,s,h=>by
   have hs:=h s (ZR _)
   have hq:∀q∈quot (s:Rat) (a::t),q=0:=ident n _ (by rw[quot_length];simp at hl ⊢;lia) (s+1) λk hk=>by
    have e:=quot_ev (s:Rat) (k:Rat) (a::t);rw[h k Yl,hs]at e;have O:((k:Rat)-(s:Rat))*ev (quot (s:Rat) (a::t)) (k:Rat)=0:=by grind
    rcases cP.mp O with z | z
    ·have z2:(k:Rat)=(s:Rat):=by grind
     have z3:k=s:=by exact_mod_cast z2
     lia
    ·exact z
   have Y:∀x,ev (a::t) x=0:=λx=>by
    rw[quot_ev (s:Rat) x (a::t),hs,ev_none x _ hq];grind
   have ha:a=0:=by
    have:=Y 0;show a=0;have e:ev (a::t) 0=a+0*ev t 0:=rfl;rw[e]at this
    grind
   have ht:∀q∈t,q=0:=ident n t (by simp at hl;lia) 1 λk hk=>by
    have e:=Y (k:Rat);have e1:ev (a::t) (k:Rat)=a+(k:Rat)*ev t (k:Rat):=rfl;rw[e1,ha]at e;have O:(k:Rat)*ev t (k:Rat)=0:=by grind
    rcases cP.mp O with z | z
    ·have z3:k=0:=by exact_mod_cast z
     lia
    ·exact z
   intro q J
   rcases ZL.mp J with z | z
   ·rw[z];exact ha
   ·exact ht q z
def dif:kh->kh->kh
 | [],m=>m.map (· * (-1))
 | a::l,m=>(a-m.headD 0)::dif l m.tail
theorem ev_head(x:Rat)(m:kh):ev m x=m.headD 0+x*ev m.tail x:=by
 cases m with
 | nil=>show(0:Rat)=0+x*0;grind
 | cons b m=>rfl
theorem dif_ev(x:Rat):∀l m:kh,ev (dif l m) x=ev l x-ev m x
 | [],m=>by
   show ev (m.map (· * (-1))) x=0-ev m x;rw[ev_scale];grind
 | a::l,m=>by
   show(a-m.headD 0)+x*ev (dif l m.tail) x=(a+x*ev l x)-ev m x;rw[dif_ev x l m.tail,ev_head x m];grind
theorem dif_none:∀l m:kh,l.length=m.length->(∀q∈dif l m,q=0)->l=m
 | [],[],_,_=>rfl
 | [],_::_,e,_=>nomatch e
 | _::_,[],e,_=>nomatch e
 | a::l,b::m,e,h=>by
   have h1:a-b=0:=h _ ZJ;have h2:=dif_none l m (by simpa using e) λq Y=>h q (ZK _ Y)
   rw[h2,show a=b by grind]
theorem same_of(l m:kh)(e:l.length=m.length)(h:∀x,ev l x=ev m x):l=m :=
 dif_none l m e (ident _ _ (ZR _) 0 λk _=>by rw[dif_ev,h];grind)
end Cv
namespace L2
open PySem PySem.Spec PyProof.Rows
theorem Jl:∀(names:List (Str×g7)) (Y:List (Str×ce)),(∀x∈names,x.2 = .free->∃c,env.cells.lookup x.1=some c) ->
 ∃cl:List (Str×ce),(forIn (m:=Sem) names Y λx r=>do
  if x.2 == .free then pure (ForInStep.yield ((x.1,<- cellOf env x.1)::r)) else pure (ForInStep.yield r))=pure cl /\
  (∀p∈cl,p∈Y\/env.cells.lookup p.1=some p.2)/\(∀p∈Y,p∈cl)/\∀x∈names,x.2 = .free->∃c,(x.1,c)∈cl
 | [],Y,_=>⟨Y,Z,λ_ h=>.inl h,λ_ h=>h,λ_ h=>nomatch h⟩
 | x::r,Y,h=>by
   by_cases hk:x.2 = .free
   ·obtain⟨c,hc⟩:=h x ZJ hk;obtain⟨cl,e,h1,h2,h3⟩:=Jl r ((x.1,c)::Y) λy O=>h y (ZK _ O);refine⟨cl,?_,λp hp=>?_,λp hp=>h2 p (ZK _ hp),λy O hf=>?_⟩
    ·rw[List.forIn_cons];have z:(x.2 == NameKind.free)=true:=by rw[hk];rfl
     have J:cellOf env x.1=pure c:=by unfold cellOf;rw[hc]
     simp only[z,if_true,J];exact e
    ·rcases h1 p hp with q | q
     ·rcases ZL.mp q with rfl | q
      ·exact .inr hc
      ·exact .inl q
     ·exact .inr q
    ·rcases ZL.mp O with rfl | O
     ·exact⟨c,h2 _ ZJ⟩
     ·exact h3 y O hf
   ·obtain⟨cl,e,h1,h2,h3⟩:=Jl r Y λy O=>h y (ZK _ O);refine⟨cl,?_,h1,h2,λy O hf=>?_⟩
    ·rw[List.forIn_cons]
     have z:(x.2 == NameKind.free)=false:=by
      cases e:x.2<;>first | rfl | exact absurd e hk
     simp only[z,Bool.false_eq_true,if_false];exact e
    ·rcases ZL.mp O with rfl | O
     ·exact absurd hf hk
     ·exact h3 y O hf
theorem Jg:∀{cl:List (Str×ce)},(x,c)∈cl->∃Y,cl.lookup x=some Y
 | [],h=>nomatch h
 | (y,d)::r,h=>by
   by_cases e:x=y
   ·subst e;exact⟨d,by simp⟩
   ·rcases ZL.mp h with q | q
    ·cases q;exact absurd rfl e
    ·obtain⟨Y,q'⟩:=Jg q;refine⟨Y,?_⟩;have:(x == y)=false:=by simpa using e
     rw[cR,this];exact q'
theorem Jh(h:∀x∈scope.names,x.2 = .free->∃c,env.cells.lookup x.1=some c) :
 ∃cl:List (Str×ce),closureFor scope env=pure cl/\(∀x c,cl.lookup x=some c->env.cells.lookup x=some c)/\∀x∈scope.names,x.2 = .free->∃c,cl.lookup x.1=some c:=by
 obtain⟨cl,e,h1,_,Y⟩:=Jl scope.names [] h;refine⟨cl,?_,λx c q=>?_,λx O hf=>?_⟩
 ·unfold closureFor;simp only[bind_pure];exact e
 ·rcases h1 _ (PySem.mem_of_lookup q) with z | z
  ·exact nomatch z
  ·exact z
 ·obtain⟨c,J⟩:=Y x O hf;exact Jg J
theorem Hk{env:Env}:∀{names:List (Str×g7)} {x:Str},names.lookup x=some .free ->
 (names.map fun(n,k)=>if (k == NameKind.free&&env.scope.kind == .function&&env.kindOf n == some .cell) then (n,NameKind.cell) else (n,k)).lookup x=some .cell \/
 (names.map fun(n,k)=>if (k == NameKind.free&&env.scope.kind == .function&&env.kindOf n == some .cell) then (n,NameKind.cell) else (n,k)).lookup x=some .free
 | [],_,h=>by simp at h
 | (n,k)::r,x,h=>by
   have ih:=@Hk env r x;show cT x ((if (k == NameKind.free&&env.scope.kind == .function&&env.kindOf n == some .cell)=true then (n,NameKind.cell) else (n,k))::_)=_\/cT x ((if (k == NameKind.free&&env.scope.kind == .function&&env.kindOf n == some .cell)=true then (n,NameKind.cell) else (n,k))::_)=_;cases hx:x == n with
   | true =>
     simp only[cR,hx]at h;cases h;by_cases hc:(NameKind.free == NameKind.free&&env.scope.kind == .function&&env.kindOf n == some .cell)=true
     ·rw[if_pos hc];simp[cR,hx]
     ·rw[if_neg hc];simp[cR,hx]
   | false =>
     simp only[cR,hx]at h;by_cases hc:(k == NameKind.free&&env.scope.kind == .function&&env.kindOf n == some .cell)=true
     ·rw[if_pos hc];simp only[cR,hx];exact ih h
     ·rw[if_neg hc];simp only[cR,hx];exact ih h
theorem Ju{env:Env}{x:Str}:∀{names:List (Str×g7)},(∀y∈names,y.2 ≠ .cell) ->
 ((names.map fun(n,k)=>if (k == NameKind.free&&env.scope.kind == .function&&env.kindOf n == some .cell) then (n,NameKind.cell) else (n,k)).lookup x=some .cell \/
  (names.map fun(n,k)=>if (k == NameKind.free&&env.scope.kind == .function&&env.kindOf n == some .cell) then (n,NameKind.cell) else (n,k)).lookup x=some .free)->(x,NameKind.free)∈names
 | [],_,h=>by simp at h
 | (n,k)::r,hc,h=>by
   have ih:=@Ju env x r λy Y=>hc y (ZK _ Y);have hk:k ≠ .cell:=hc (n,k) ZJ;change cT x ((if (k == NameKind.free&&env.scope.kind == .function&&env.kindOf n == some .cell)=true then (n,NameKind.cell) else (n,k))::_)=_\/cT x ((if (k == NameKind.free&&env.scope.kind == .function&&env.kindOf n == some .cell)=true then (n,NameKind.cell) else (n,k))::_)=_ at h;cases hx:x == n with
   | true =>
     have e:x=n:=by simpa using hx
     subst e;by_cases hq:(k == NameKind.free&&env.scope.kind == .function&&env.kindOf x == some .cell)=true
     ·have:k = .free:=by
       cases k<;>first | rfl | (simp at hq)
      subst this;exact ZJ
     ·rw[if_neg hq]at h;simp only[cR,hx]at h
      rcases h with h | h
      ·cases h;exact absurd rfl hk
      ·cases h;exact ZJ
   | false =>
     refine ZK _ (ih ?_);by_cases hq:(k == NameKind.free&&env.scope.kind == .function&&env.kindOf n == some .cell)=true
     ·rw[if_pos hq]at h;simpa only[cR,hx] using h
     ·rw[if_neg hq]at h;simpa only[cR,hx] using h
def G5(X:Cx)(N:km)(scope:gH)(cl:List (Str×ce))(C:ce)(s:db)(H:Hp)(fp:List ce):Cx :=
 { prog:=X.prog,w:=X.w,K:=X.K,mg:=X.mg,base:=X.base,A:=X.A,N:=N,s₀:=s,H₀:=H,env:=compEnvC scope cl C X.env,outer:=X.stack,stack:=X.stack,ex:=fp,
   fn:=λ_=>false,calm:=X.calm,pn:=[],xe:=λ_ _=>False }
def cS(nt:Nat)(js:kj)(σ:St):St:=b6 nt none++js.map λi=>σ.getD i none
abbrev JH(ys:List cr):Obj:={ cls:=.type "list",data:=.seq ys.toArray ys.length }
theorem Nv{it ah:cr}(I:Nat->db->Prop)
 (aj:∀n s,I n s->ge (gh prog w) A (pyNext it) (λr O=>match r with
  | none=>R (.ok .next) O
  | some v=>ge (gh prog w) A (gU Y it v) (λ_ J=>ge (gh prog w) A (assign Y env v) (λ_ ag =>
   ge (gh prog w) A (forIn ifs true λc r=>if r=true then do let ok <- isTrue c env (gu c env);pure (ForInStep.yield ok) else pure (ForInStep.yield r)) (λok aa =>
    if ok=true then ge (gh prog w) A (gu elt env) (λx ad =>
     ge (gh prog w) A (call (.builtin "list.append") [ah,x]) (λ_ af=>∃m,m<n/\I m af) (λ_ _=>False) ad) (λ_ _=>False) aa
    else ∃m,m<n/\I m aa) (λ_ _=>False) ag) (λ_ _=>False) J) (λ_ _=>False) O) (λ_ _=>False) s)
 (n:Nat) (h:I n s) :
 g8 (gh prog w) A (.compLoop (.ListComp elt [⟨Y,iter,ifs,0⟩] scope pos) 0 it ah env) R s:=by
 refine codeAny_loop rfl I (λn s hI=>?_) n h;show ge _ A ((compTurn (.ListComp elt [⟨Y,iter,ifs,0⟩] scope pos) 0 it ah env).onRaise (λx=>do noteFrame x env;theTreesLotGoes x)) _ _ s
 refine wpAny_noted ?_;rw[compTurn_list];refine fW (g6 (fW (gn (aj n s hI) (λr O ac=>?_) λ_ _ h'=>h'.elim)));cases r with
 | none=>exact gj ac
 | some v =>
   refine fW (gn ac (λ_ J ai=>?_) λ_ _ h'=>h'.elim);refine fW (gn ai (λ_ ag am=>fW (gn am (λok aa ae=>?_) λ_ _ h'=>h'.elim)) λ_ _ h'=>h'.elim);cases ok with
   | false=>exact gj ⟨Z,ae⟩
   | true =>
     exact fW (fW (gn ae (λx ad ak=>fW (gn ak (λ_ af al=>gj (gj ⟨Z,al⟩)) λ_ _ h'=>h'.elim)) λ_ _ h'=>h'.elim))
def PTs(X:Cx)(ifs:List Expr)(t:TT):Prop :=
 ∀ (pins:List (ce×Obj)) (s:db) (σ:St) (H:Hp) (Q:Bool->Hp->Prop),Inv X pins σ H s->t σ H Q ->
   ge (gh X.prog X.w) X.A (forIn ifs true λc r=>if r=true then do let ok <- isTrue c X.env (gu c X.env);pure (ForInStep.yield ok) else pure (ForInStep.yield r)) (TP X pins σ Q) X.xe s
def R5:TT:=λ_ H Q=>Q true H
theorem Fw:PTs X [] R5:=λ_ _ _ H _ I h=>wpAny_tests_nil ⟨H,I,h⟩
theorem MX(h:PT X c t):PTs X [c] t:=λpins s σ H Q I q=>wpAny_tests_one (h pins s σ H Q I q)
structure LcW(J:It)(n nt:Nat)(js:kj)(σ:St)(g:TG)(tc:TT)(te:TE)(Fin:ko->Hp->Prop)(W:Nat->ko->Hp->Prop):Prop where
 go:∀i zs H,i<n->W i zs H->J.go i H/\zs.length<dl
 step:∀i zs H x H',i<n->W i zs H->J.yld i H x H'->g x (cS nt js σ) H' λσ2 H2=>tc σ2 H2 λb H3=>if b=true then te σ2 H3 λy H4=>W (i+1) (zs++[y]) H4 else W (i+1) zs H3
 stop:∀zs H,W n zs H->J.stop n H/\zs.length<=dl/\Fin zs H
@[irreducible] def tLC(wi:TI)(nt:Nat)(js:kj)(g:TG)(tc:TT)(te:TE):TE:=λσ H Q=>wi σ H λJ H1 =>
 ∃(n:Nat) (W:Nat->ko->Hp->Prop),W 0 [] H1/\LcW J n nt js σ g tc te (λzs H'=>∀p,H' p=none->Q (.ref p) (upd H' p (.lst zs))) W
theorem GL
 (h:wi σ H λJ H1=>∃(n:Nat) (W:Nat->ko->Hp->Prop),W 0 [] H1/\LcW J n nt js σ g tc te (λzs H'=>∀p,H' p=none->Q (.ref p) (upd H' p (.lst zs))) W):tLC wi nt js g tc te σ H Q:=by
 unfold tLC;exact h
theorem UT(h:tLC wi nt js g tc te σ H Q) :
 wi σ H λJ H1=>∃(n:Nat) (W:Nat->ko->Hp->Prop),W 0 [] H1/\LcW J n nt js σ g tc te (λzs H'=>∀p,H' p=none->Q (.ref p) (upd H' p (.lst zs))) W:=by
 unfold tLC at h;exact h
structure IW(X:Cx)(N:km)(nt:Nat)(js:kj)(scope:gH):Prop where
 kind:scope.kind = .function
 nocell:∀y∈scope.names,y.2 ≠ .cell
 names:∀y∈scope.names,y.2 = .local->scope.names.lookup y.1=some .local
 free:∀y∈scope.names,y.2 = .free->X.env.kindOf y.1=some .cell\/X.env.kindOf y.1=some .free
 len:N.length=nt+js.length
 outer:∀j i,js[j]? = some i->∃x,N[nt+j]? = some x/\X.N[i]? = some x/\scope.names.lookup x=some .free
def Nu(NX:km)(sc:gH)(N:km)(nt:Nat)(js:kj)(scope:gH):Bool :=
 decide (scope.kind = .function)&&scope.names.all (λy=>decide (y.2 ≠ .cell))&&scope.names.all (λy=>decide (y.2 ≠ .local)||decide (scope.names.lookup y.1=some .local)) &&
 scope.names.all (λy=>decide (y.2 ≠ .free)||(decide (sc.names.lookup y.1=some .cell)||decide (sc.names.lookup y.1=some .free)))&&decide (N.length=nt+js.length) &&
 (Zz js.length).all λj=>match js[j]?,N[nt+j]? with
  | some i,some x=>decide (NX[i]? = some x)&&decide (scope.names.lookup x=some .free)
  | _,_=>false
theorem IW.look(hN:X.N=J)(hs:X.env.scope=O)(h:Nu J O N nt js scope=true):IW X N nt js scope:=by
 unfold Nu at h;simp only[Bool.and_eq_true,List.all_eq_true,Bool.or_eq_true,decide_eq_true_eq]at h;obtain⟨⟨⟨⟨⟨h1,h2⟩,h3⟩,h4⟩,h5⟩,h6⟩:=h;refine⟨h1,h2,λy Y hl=>(h3 y Y).resolve_left λz=>z hl,λy Y hf=>?_,h5,λj i e=>?_⟩
 ·have q:=(h4 y Y).resolve_left λz=>z hf;rw[<- hs]at q;exact q
 ·have hj:j<js.length:=(ZO.mp e).1;have q:=h6 j (ZD.mpr hj);rw[e]at q;cases en:N[nt+j]? with
  | none=>rw[en]at q;cases q
  | some x =>
    rw[en]at q;simp only[Bool.and_eq_true,decide_eq_true_eq]at q;exact⟨x,Z,by rw[hN];exact q.1,q.2⟩
section
variable {X:Cx}{N:km}{nt:Nat}{js:kj}{scope:gH}{cl:List (Str×ce)}
theorem HOk.track(x:HOk P w H h)(O:H a=none)(Y:G7 P w (upd H a o) h a o):HOk P w (upd H a o) h:=λb u e=>by
 by_cases hb:b=a
 ·subst hb;rw[E3]at e;cases e;exact Y
 ·rw[EC hb]at e;exact(x b u e).stay (λc v _ q=>q) (λc q=>by rw[EC (Ez q O)];exact q) λc xs q=>by rw[EC (Ez q O)];exact q
theorem SJ(I:Inv X pins σ H s)(ok:IW X N nt js scope)
 (O:∀x c,cl.lookup x=some c->X.env.cells.lookup x=some c) (J:∀x∈scope.names,x.2 = .free->∃c,cl.lookup x.1=some c)
 (hf:∀b∈fp,NA X pins H b) (ho:∀b∈fp,∃o,s.heap.get? b=some o/\∀v,o.data ≠ .cell v)
 (hD:s.heap.objs.size<=D) (hC:s.heap.objs.size<=C) (ag:D≠C) (k:∀b o,s.heap.get? b=some o->h'.get? b=some o) (hn:h'.Ns C m) (hd:h'.get? D=some (JH [])) :
 Inv (G5 X N scope cl C s H fp) [(D,JH [])] (cS nt js σ) H { s with heap:=h',toks:=tk }:=by
 have lt:∀b∈fp,b<s.heap.objs.size:=λb Y=>by obtain⟨o,e,_⟩:=ho b Y;exact Heap.lt_size e
 have ad:∀b∈frs X.stack,b<s.heap.objs.size:=λb Y=>by
  obtain⟨_,o,e,_⟩:=I.stack.mem Y;exact Heap.lt_size e
 refine⟨⟨I.ok.mod,ok.kind,I.ok.glob,I.ok.blt,hC,λx y c h1 h2=>I.ok.inj x y c (O x c h1) (O y c h2),λx hx=>?_,λx c hx=>absurd hx Bool.false_ne_true,I.ok.hd,I.ok.frames,.inl rfl,λb Y=>⟨?_,λx c e=>(hf b Y).2.2.2.2.1 x c (O x c e)⟩,I.bs,
  ZF I.ok.bsz I.sz,λb o e Y=>?_,λb Y hs=>?_,I.stack,I.stkFree⟩,Z,I.bare,Un.kept k,⟨m,hn,λj x v h1 h2 h3=>?_⟩,λx c e=>?_,I.hok.fresh hC,λx c e=>I.freeC x c (O x c e),λp hp=>?_,I.hok.kept k,?_⟩
 ·obtain⟨c,hc⟩:=J (x,.free) (Ju ok.nocell hx) rfl;exact⟨c,hc⟩
 ·exact Zy (Zw (lt b Y) hC)
 ·rcases(hf b Y).2.2.2.1 with z | z
  ·exact I.ok.noex b o e z
  ·exact absurd (Zw (Heap.lt_size e) (ZF I.ok.bsz z)) (Zx _)
 ·rcases ZL.mp (I.stkSub b hs) with z | z
  ·exact(hf b Y).2.1 z
  ·exact(hf b Y).2.2.1 z
 ·change N[j]? = some x at h1;unfold cS at h2;by_cases hj:j<nt
  ·rw[bw (by simpa using hj),bq]at h2
   rw[if_pos hj]at h2;cases h2
  ·rw[bj (by simpa using Nat.not_lt.mp hj),bJ,bA]at h2
   cases ei:js[j-nt]? with
   | none=>rw[ei]at h2;cases h2
   | some i =>
     rw[ei]at h2;obtain⟨y,e1,e2,e3⟩:=ok.outer _ i ei;rw[show nt+(j-nt)=j by lia,h1]at e1
     cases e1
     have hv:σ[i]? = some (some v):=by
      simp only[cg,Zu.injEq]at h2;rw[cU]at h2;cases eσ:σ[i]? with
      | none=>rw[eσ]at h2;cases h2
      | some z=>rw[eσ]at h2;simp at h2;rw[h2]
     obtain⟨ah,_,hl⟩:=I.loc;have kf:=ok.free (x,.free) (PySem.mem_of_lookup e3) rfl;obtain⟨u,r,l⟩:=hl i x v e2 hv (kf.elim (λz=>.inr (.inl z)) λz=>.inr (.inr z));refine⟨u,r,.inr ⟨Hk e3,?_⟩⟩
     rcases l with ⟨kl,_⟩ | ⟨_,c,ec,⟨oc,ac,aa⟩⟩
     ·rcases kf with z | z<;>(rw[z]at kl;cases kl)
     ·obtain⟨c',ae⟩:=J (x,.free) (PySem.mem_of_lookup e3) rfl;have e':=O x c' ae;rw[ec]at e';cases e';exact⟨c,ae,oc,k _ _ ac,aa⟩
 ·obtain⟨v,oc,ac,aa⟩:=I.cell x c (O x c e);exact⟨v,oc,k _ _ ac,aa⟩
 ·have e:p=(D,JH []):=by
   have af:p∈[(D,JH [])]:=hp
   simpa using af
  subst e;refine⟨hd,I.hok.fresh hD,ag,λY=>absurd (Zw (ad D Y) hD) (Zx _),λv z=>by cases z⟩
 ·show(cS nt js σ).length=N.length;unfold cS;rw[bH,bJ,bI,ok.len]
end
def QV(g:TG)(nt:Nat):Prop:=∀x σ H Q,g x σ H Q->g x σ H λσ2 H2=>(σ2.length=σ.length/\σ2.drop nt=σ.drop nt)/\Q σ2 H2
theorem EG(h:i<nt):QV (HH i) nt:=λx σ H Q q=>⟨⟨bR,by
 apply cV;intro k;rw[cW,cW,ZQ Yl]⟩,q⟩
section
variable {X:Cx}{N:km}{nt:Nat}{js:kj}{scope:gH}{elt iter tg:Expr}{ifs:List Expr}{pos:Pos}{g:TG}{tc:TT}{te:TE}{wi:TI}
theorem QM{σ Y:St}(O:Y.length=(cS nt js σ).length)(hd:Y.drop nt=(cS nt js σ).drop nt):∀(i:Nat) v,(cS nt js σ)[i]? = some (some v)->Y[i]? = some (some v):=λi v e=>by
 by_cases hi:i<nt
 ·unfold cS at e;rw[bw (by simpa using hi),bq,if_pos hi]at e
  cases e
 ·have q:((cS nt js σ).drop nt)[i-nt]? = some (some v):=by rw[cW,show nt+(i-nt)=i by lia];exact e
  rw[<- hd,cW,show nt+(i-nt)=i by lia]at q
  exact q
set_option maxHeartbeats 4000000 in
theorem Om{σ:St}{H:Hp}{Y:db}{cl:List (Str×ce)}{J:It}{fp:List ce}{it:ce}{tn:Nat->gi->Prop}{E:cr->db->Prop}{av:ko->Hp->Prop}{W:Nat->ko->Hp->Prop}{nn:Nat}
 {RR:cr->ce->Result->db->Prop} (ah:X.calm=true) (ok:IW X N nt js scope)
 (aD:∀x c,cl.lookup x=some c->X.env.cells.lookup x=some c) (aF:∀x∈scope.names,x.2 = .free->∃c,cl.lookup x.1=some c)
 (hg:∀cl C s H fp,PG (G5 X N scope cl C s H fp) tg g) (hk:QV g nt) (hc:∀cl C s H fp,PTs (G5 X N scope cl C s H fp) ifs tc) (he:∀cl C s H fp,PE (G5 X N scope cl C s H fp) elt te)
 (I:Inv X pins σ H Y) (T:Px X.prog X.w X.K tg J fp it tn) (st:tn 0 Y.heap) (hf:∀b∈fp,NA X pins H b) (w0:W 0 [] H) (lw:LcW J nn nt js σ g tc te av W)
 (aO:∀D C s' H' zs m,Inv X pins σ (upd H' D (.lst zs)) s'->s'.heap.Ns C m->H' D=none->(upd H' D (.lst zs)) C=none->C≠X.env.locals->X.s₀.heap.objs.size<=C->(∀x c,X.env.cells.lookup x=some c->c≠C) ->
  (∀p∈X.pn++pins,p.1≠C)->av zs H'->RR (.ref D) C (.ok .next) s') :
 ge (gh X.prog X.w) X.A (newList []) (λas af=>ge (gh X.prog X.w) X.A (newFunctionEnv scope X.env.globals cl [] X.env.qual none .none (some X.env)) (λam aK =>
  g8 (gh X.prog X.w) X.A (.compStart (.ListComp elt [⟨tg,iter,ifs,0⟩] scope pos) 0 (.ref it) as { am with scope:=relabel scope X.env }) (RR as am.locals) aK) E af) E Y:=by
 refine gZ (wpAny_newFunctionEnv ok.nocell (by intro y hy;simp at hy) (λag ac aa=>?_) ok.kind)
 dsimp only at ac aa ⊢;generalize an:Y.heap.push { cls:=.type "list",dict:=none,data:=.seq ([]:List cr).toArray }=H2 at ac aa ⊢;have hC:H2.objs.size=Y.heap.objs.size+1:=by rw[<- an,Heap.size_push]
 have ai:Y.heap.objs.size≠H2.objs.size:=by rw[hC];exact Zy (cX _)
 have ae:Y.heap.objs.size<=H2.objs.size:=by rw[hC];exact Nat.le_succ _
 have ad:∀b,b<Y.heap.objs.size->b≠H2.objs.size/\b≠Y.heap.objs.size:=λb O=>⟨by rw[hC];exact Zy (Nat.lt_succ_of_lt O),Zy O⟩
 have ap:∀b o,Y.heap.get? b=some o->ag.get? b=some o:=λb o e=>aa.extBut b o (ad b (Heap.lt_size e)).1 (Heap.get?_push_of_some _ (an ▸ Heap.get?_push_of_some _ e));have ax:ag.get? Y.heap.objs.size=some (JH []):=aa.extBut _ _ ai (Heap.get?_push_of_some _ (an ▸ Heap.get?_push_size _ rfl));have ho:=T.obj 0 _ st;have lt:∀b∈fp,b<Y.heap.objs.size:=λb O=>by obtain⟨o,e,_⟩:=ho b O;exact Heap.lt_size e
 have ak:∀af:db,af={ Y with heap:=ag,toks:=Y.toks+([]:List (Str×cr)).length } ->
  g8 (gh X.prog X.w) X.A (.compLoop (.ListComp elt [⟨tg,iter,ifs,0⟩] scope pos) 0 (.ref it) (.ref Y.heap.objs.size) (compEnvC scope cl H2.objs.size X.env)) (RR (.ref Y.heap.objs.size) H2.objs.size) af:=by
  rintro af rfl
  have I0:Inv (G5 X N scope cl H2.objs.size Y H fp) [(Y.heap.objs.size,JH [])] (cS nt js σ) H { Y with heap:=ag,toks:=Y.toks+([]:List (Str×cr)).length } :=
   SJ I ok aD aF hf ho (ZR _) ae ai ap ac ax
  have aq:∀{H':Hp} {ys:List cr},(∀b∈fp,H' b=none)->∀b∈fp,NA (G5 X N scope cl H2.objs.size Y H fp) [(Y.heap.objs.size,JH ys)] H' b:=fun{H' ys} hn b O =>
   ⟨hn b O,(ad b (lt b O)).1,I0.ok.exfs b O,.inl O,(I0.ok.exf b O).2,λp hp=>by
    have aM:p∈[(Y.heap.objs.size,JH ys)]:=hp;have e:p=(Y.heap.objs.size,JH ys):=by simpa using aM
    rw[e];exact Ne.symm (ad b (lt b O)).2⟩
  refine Nv (λn s'=>∃i zs ys H',n=nn-i/\i<=nn/\Inv (G5 X N scope cl H2.objs.size Y H fp) [(Y.heap.objs.size,JH ys)] (cS nt js σ) H' s'/\EN zs ys/\tn i s'.heap/\(∀b∈fp,H' b=none)/\W i zs H') ?_ nn
   ⟨0,[],[],H,Z,ZU _,I0,.nil,T.keep 0 _ _ st (λb _ o e=>ap b o e),λb O=>(hf b O).1,w0⟩
  rintro n s' ⟨i,zs,ys,H',ay,aA,I',rv,ao,au,w'⟩;by_cases hlt:i<nn
  case neg =>
   have aL:i=nn:=Nat.le_antisymm aA (Nat.not_lt.mp hlt);rw[aL]at w' ao;obtain⟨aB,zl,aU⟩:=lw.stop zs H' w';refine thn (T.done (G5 X N scope cl H2.objs.size Y H fp) rfl rfl rfl ah nn _ s' _ H' (λ_ _=>False) I' (aq au) ao aB) λr s4 ⟨hr,I4⟩=>?_;subst hr;have zD:=(I4.pin (Y.heap.objs.size,JH ys) (ZT _ (cY.mpr rfl)));have u:=I4.base
   have u2:Un (frs X.stack) fp H (upd H' Y.heap.objs.size (.lst zs)) Y.heap s4.heap :=
    ⟨u.keep,u.slot,λb o q n hx=>by rw[EC (Zy (Heap.lt_size q))];exact u.free b o q n hx,u.there,λb xs q=>by rw[EC (Ez (u.tups b xs q) zD.2.1)];exact u.tups b xs q,
     λb o xs q=>by rw[EC (Ez (u.frzs b o xs q) zD.2.1)];exact u.frzs b o xs q,λb ps q=>by
      obtain⟨more,e⟩:=u.tbls b ps q;exact⟨more,by rw[EC (Ez e zD.2.1)];exact e⟩⟩
   have aw:HOk X.prog X.w (upd H' Y.heap.objs.size (.lst zs)) s4.heap:=HOk.track I4.hok zD.2.1 ⟨zl,ys,_,rv,zD.1⟩;have I5:Inv X pins σ (upd H' Y.heap.objs.size (.lst zs)) s4:=I.call' I4.os u2 aw I4.bare λb O=>⟨(hf b O).2.2.2.1,(hf b O).2.1,(hf b O).2.2.2.2.1,(hf b O).2.2.2.2.2⟩;obtain⟨m,hn,_⟩:=I4.loc;refine aO _ _ s4 H' zs m I5 hn zD.2.1 ?_ ?_ (ZF I.sz ae) ?_ ?_ aU
   ·rw[EC (Ne.symm ai)];exact I4.free
   ·exact Nat.ne_of_gt (Zw I.lt ae)
   ·intro x c e z;obtain⟨v,q⟩:=I.cell x c e;exact absurd (Zw q.lt (by rw[z];exact ae)) (Zx _)
   ·intro p hp z;exact absurd (Zw (Heap.lt_size (I.pin p hp).1) (by rw[z];exact ae)) (Zx _)
  case pos =>
   obtain⟨go,zl⟩:=lw.go i zs H' hlt w';have aG:=lw.step i zs H';refine thn (T.item (G5 X N scope cl H2.objs.size Y H fp) rfl rfl rfl ah i _ s' _ H' (λ_ _=>False) I' (aq au) ao go) λr s4 ⟨u,hr,h4⟩=>?_;subst hr;refine thn h4 λ_ s5 ⟨x,H5,I5,r5,y5,ar,aR⟩=>?_;have aT:=I5.pinned (aq aR) (T.obj _ _ ar);refine thn (hg cl _ Y H fp _ s5 _ H5 x u _ aT r5 (hk _ _ _ _ (aG x H5 hlt w' y5))) λ_ s6 ⟨az,H6,I6,⟨aj,aE⟩,q6⟩=>?_;refine thn (hc cl _ Y H fp _ s6 az H6 _ I6 q6) λaP s7 ⟨H7,I7,q7⟩=>?_
   have al:∀{H8:Hp} {aC:St} {s8:db},Inv (G5 X N scope cl H2.objs.size Y H fp) ([(Y.heap.objs.size,JH ys)]++L0 fp s5.heap) aC H8 s8->tn (i+1) s8.heap/\∀b∈fp,H8 b=none:=fun{H8 aC s8} I8 =>
    ⟨T.keep _ _ _ ar λb O o e=>(I8.pin (b,o) (ZT _ (ZT _ (Iy O e)))).1,λb O=>by
     obtain⟨o,e,d⟩:=T.obj _ _ ar b O;exact(I8.pin (b,o) (ZT _ (ZT _ (Iy O e)))).2.1⟩
   cases aP with
   | false =>
     rw[if_neg Bool.false_ne_true]at q7 ⊢;obtain⟨a1,a2⟩:=al I7;exact⟨nn-(i+1),by rw[ay];exact Nat.sub_lt_sub_left hlt (cX i),i+1,zs,ys,H7,Z,hlt,I7.unpinned.weak (by rw[aj]) (QM aj aE),rv,a1,a2,q7⟩
   | true =>
     rw[if_pos rfl]at q7 ⊢;refine thn (he cl _ Y H fp _ s7 az H7 _ I7 q7) λv s8 ⟨y,H8,I8,r8,q8⟩=>?_;have zD:=(I8.pin (Y.heap.objs.size,JH ys) (ZT _ (ZN _ (cY.mpr rfl))));have aH:ys.length<dl:=by rw[<- rv.length];exact zl
     obtain⟨a1,a2⟩:=al I8;refine append_at (hsz:=by rw[bQ];exact ZH aH) zD.1 λh9 aJ aS=>?_
     have aN:Inv (G5 X N scope cl H2.objs.size Y H fp) [] (cS nt js σ) H8 s8:=(I8.pins_of (pins':=[]) λp hp=>nomatch hp).weak (by rw[aj]) (QM aj aE)
     have I9:Inv (G5 X N scope cl H2.objs.size Y H fp) [] (cS nt js σ) H8 { s8 with heap:=h9 }:=aN.turned (t':=s8.toks) (it:=Y.heap.objs.size) (λb o O e=>aJ.extBut b o O e) zD.2.1 ai (.inr (ZR _))
      (λx c e z=>by
       obtain⟨v,q⟩:=I.cell x c (aD x c e);exact absurd (Zw q.lt (by rw[z];exact ZR _)) (Zx _)) (λp hp=>nomatch hp)
     refine⟨nn-(i+1),by rw[ay];exact Nat.sub_lt_sub_left hlt (cX i),i+1,zs++[y],ys++[v],H8,Z,hlt,I9.pins_of (λp hp=>?_),rv.snoc r8,T.keep _ _ _ a1 λb O o e=>aJ.extBut b o (ad b (lt b O)).2 e,a2,q8⟩
     have e:p=(Y.heap.objs.size,JH (ys++[v])):=by simpa using hp
     subst e;refine⟨?_,zD.2.1,ai,zD.2.2.2.1,λv z=>by cases z⟩
     rw[aS];show some ({ cls:=.type "list",data:=.seq (ys.toArray.push v) (ys.length+1) }:Obj)=some { cls:=.type "list",data:=.seq (ys++[v]).toArray (ys++[v]).length };rw[bH,bW,List.push_toArray]
 exact codeAny_compStart_list (ak _ rfl) (T.self _ 0 _ _ _ (T.keep 0 _ _ st (λb _ o e=>ap b o e)) (ak _ rfl))
theorem GP(Y:X.calm=true)(ok:IW X N nt js scope)(hi:PI X tg iter wi)(hg:∀cl C s H fp,PG (G5 X N scope cl C s H fp) tg g)(hk:QV g nt)(hc:∀cl C s H fp,PTs (G5 X N scope cl C s H fp) ifs tc)
 (he:∀cl C s H fp,PE (G5 X N scope cl C s H fp) elt te) (hs:∀x,gQ iter X.env x=pure x:=by intro _;rfl):PE X (.ListComp elt [⟨tg,iter,ifs,0⟩] scope pos) (tLC wi nt js g tc te):=by
 intro pins s σ H Q I h;obtain⟨cl,O,al,aa⟩:=Jh (scope:=scope) (env:=X.env) λx hx hf=>I.ok.has x.1 (ok.free x hx hf);rw[eval_ListComp];refine wpAny_comprehension_free (use:=none) rfl hs O ok.kind ok.names ?_;refine thn (hi pins s σ H _ I (UT h)) λv s1 h1=>thn h1 λan s2 h2=>?_;obtain⟨it,fp,tn,J,H2,e,I2,T,ag,f2,nn,W,w0,lw⟩:=h2;subst e;refine Om (RR:=λad C=>compPost (gh X.prog X.w) X.A X.xe none (EP X pins σ Q) ad C) Y ok al aa hg hk hc he I2 T ag f2 w0 lw ?_;intro D C s' H' zs m I3 hn am ae af ai ah ak aj;exact⟨m,hn,λao ac=>⟨.ref D,_,I3.turned (t':=s'.toks) (it:=C) (λb o hb e=>ac.extBut b o hb e) ae af (.inr ai) ah ak,Z,aj D am⟩⟩
theorem Sb(aa:X.calm=true)(hN:X.N.Nodup)(ak:X.N[i]? = some y)(hy:X.env.kindOf y=some .local)(ok:IW X N nt js scope)(hi:PI X tg iter wi)(hg:∀cl C s H fp,PG (G5 X N scope cl C s H fp) tg g)(hk:QV g nt)
 (hc:∀cl C s H fp,PTs (G5 X N scope cl C s H fp) ifs tc) (he:∀cl C s H fp,PE (G5 X N scope cl C s H fp) elt te)
 (an:swapsWith (.ListComp elt [⟨tg,iter,ifs,0⟩] scope pos) (some (.Name y py)) O.line X.env=pure true) (hs:∀x,gQ iter X.env x=pure x:=by intro _;rfl) :
 PS X (.Assign [.Name y py] (.ListComp elt [⟨tg,iter,ifs,0⟩] scope pos) O) (RN (tLC wi nt js g tc te) (HH i)):=by
 intro pins s σ H Y I h;obtain⟨cl,ac,ar,ae⟩:=Jh (scope:=scope) (env:=X.env) λx hx hf=>I.ok.has x.1 (ok.free x hx hf);rw[exec_Assign_Name_used _ _ _ _ an];refine fW (g6 (fW ?_));show ge _ X.A (do let _ <- comprehension (.ListComp elt [⟨tg,iter,ifs,0⟩] scope pos) scope X.env _ (newList []) false (gu iter X.env) (some (assign (.Name y py) X.env))) _ _ s
 refine fW (gn (wpAny_comprehension_free (use:=some (assign (.Name y py) X.env)) (Q:=λ_ s'=>SP X pins Y .next s') rfl hs ac ok.kind ok.names
  (thn (hi pins s σ H _ I (UT (show tLC wi nt js g tc te σ H λx H1=>HH i x σ H1 Y.nx from h))) λv s1 h1=>thn h1 λau s2 h2=>?_)) (λ_ s' hq=>gj (gj hq)) λ_ _ e=>e)
 obtain⟨it,fp,tn,J,H2,e,I2,T,al,f2,nn,W,w0,lw⟩:=h2;subst e;refine Om (RR:=λai C=>compPost (gh X.prog X.w) X.A X.xe (some (assign (.Name y py) X.env)) (λ_ s'=>SP X pins Y .next s') ai C) aa ok ar ae hg hk hc he I2 T al f2 w0 lw ?_;intro D C s' H' zs m I3 hn as aj af am ag aq ap;show ge _ X.A (assign (.Name y py) X.env (.ref D)) _ _ _;refine wpAny_assign_Name (M6 (v:=.ref D) I3 hN ak (.inl hy) rfl (λs3 I4 ad=>?_) (.inr hy));obtain⟨a,ad,ha⟩:=ad
 have ao:C≠a:=by
  rcases ha with z | z
  ·rw[z];exact af
  ·exact Ne.symm (ag y a z)
 refine⟨m,hn.sameBut ad ao,λav ah=>?_⟩;exact⟨_,_,I4.turned (t':=s3.toks) (it:=C) (λb o hb e=>ah.extBut b o hb e) aj af (.inr am) ag aq,ap D as⟩
end
def Bd(n:Nat)(x:Int):Prop:=x.natAbs<2 ^ n
theorem Bd.bits(h:Bd n x):Builtin.Int.intBits x<=n:=PySem.intBits_le_iff.mpr h
def Tv(i j:Int):Prop:=∃m n,Bd m i/\Bd n j/\m+n<=134217728
theorem Tv.ok(h:Tv i j):IntMulOk i j:=by
 obtain⟨m,n,h1,h2,Y⟩:=h;exact PySem.IntMulOk.of_le h1.bits h2.bits Y
section
variable {X:Cx}
theorem Gn(hr:Gx k X.A)(hT:X.prog.given.tree=none)(hk:32<=k:=by decide)
 (Y:∃(env:Env) (l:List Env),X.stack=env::l/\env.scope.isGenerator=false/\env.scope.isCoroutine=false/\env.builtins=builtinsNs/\env.globals=fX:=by exact⟨_,_,Z,Z,Z,Z,Z⟩) :
 OpR X (gT .FloorDiv) (rI (λ_ j=>j≠0) λi j=>.int (i.fdiv j)):=by
 intro pins s σ H x y v u Q I rx ry h;obtain⟨i,j,rfl,rfl,hc,q⟩:=h;obtain⟨t,rfl⟩:=rx;obtain⟨t',rfl⟩:=ry;obtain⟨env,l,e1,e2,O,e4,J⟩:=Y
 have hd:X.A.depth+Builtin.pylongFrames<recursionLimit:=by
  have:=hr.dp;have e:Builtin.pylongFrames<=101:=by decide
  lia
 refine floordiv_int hc ⟨.int (i.fdiv j),H,I.tok _,⟨_,Z⟩,q⟩ (.inr (PySem.PylongRoom.of I.nolimit hd (PySem.SeerAt.of (I.ok.mod.seer.keeps I.bk) hT (by rw[I.ok.frames,e1]) e2 O e4 J)))
end
structure Fd(P:fV)(w:fY)(K:ZE)(mg:Str->Option cr)(base:gi)(n:Nat)(x:Str)(ps:km)(sp:Sp):Prop where
 ex:∃(f:ce) (fd:fT),EF P w K mg base CX0 n f fd ps sp/\Gs K fd ps []/\ZX K (.ref f)=true/\mg x=some (.ref f)
theorem Fz(F:Fd X.prog X.w X.K X.mg X.base n x ps sp)(hr:Gx k X.A)(hg:Gl X x)(ha:PA X (e::es) t)(J:n<=k:=by decide)
 (O:(x == ("__debug__" : Str))=false:=by decide) (he:fU (e::es) X.env=(false,gu e X.env)::fU es X.env:=by rfl) (Y:(gC pos (fU es X.env)).any (·.1)=false:=by rfl) :
 PE X (.Call (.Name x p) (e::es) [] pos) (KN sp [] E0 t):=by
 obtain⟨f,fd,F1,F2,F3,F4⟩:=F.ex;exact Qa F1 (hr.mono J) hg F4 F3 F2 .nil WE ha O he Y
inductive Rds(K:ZE)(H:Hp):V->PyData->Prop where
 | non:Rds K H .non .none
 | bl (b:Bool):Rds K H (.bl b) (.bool b)
 | int (i:Int):Rds K H (.int i) (.int i)
 | str (x:Str):Rds K H (.str x) (.str x)
 | lst {a:ce} {xs:ko} {ds:List PyData}:SqL K H a xs->xs.length=ds.length->(∀(i:Nat) x d,xs[i]? = some x->ds[i]? = some d->Rds K H x d)->Rds K H (.ref a) (.list ds)
 | tup {a:ce} {xs:ko} {ds:List PyData}:SqT K H a xs->xs.length=ds.length->(∀(i:Nat) x d,xs[i]? = some x->ds[i]? = some d->Rds K H x d)->Rds K H (.ref a) (.tuple ds)
theorem IK:∀{us:List cr} {xs:ko} {ds:List PyData},EN xs us->xs.length=ds.length->(∀(i:Nat) x d u,xs[i]? = some x->ds[i]? = some d->Fg x u->∃Y,Reads h u d Y)->∃Y,ReadsAll h us ds Y
 | [],_,[],.nil,_,_=>⟨[],.nil⟩
 | [],_,_::_,.nil,hl,_=>by simp at hl
 | _::_,_,[],.cons _ _,hl,_=>by simp at hl
 | u::us,x::xs,d::ds,.cons r t,hl,hr=>by
   obtain⟨a1,r1⟩:=hr 0 x d u rfl rfl r;obtain⟨a2,r2⟩:=IK (us:=us) (xs:=xs) (ds:=ds) t (by simpa using hl) λi J d' u' e1 O q=>hr (i+1) J d' u' (by simpa using e1) (by simpa using O) q
   exact⟨_,.cons r1 r2⟩
theorem Hb(I:Inv X pins σ H s)(r:Rds X.K H x d):∀{u:cr},Fg x u->∃O,Reads s.heap u d O:=by
 induction r with
 | non=>intro u Y;cases Y;exact⟨_,.none⟩
 | bl b=>intro u Y;cases Y;exact⟨_,.bool b⟩
 | int i=>intro u Y;obtain⟨t,rfl⟩:=Y;exact⟨_,.int i t⟩
 | str z=>intro u Y;obtain⟨t,rfl⟩:=Y;exact⟨_,.str z t⟩
 | lst q hl _ ih =>
   intro u Y;cases Y;obtain⟨aa,rv,⟨o,n,e,c,_,dd⟩,_⟩:=I.list q;obtain⟨O,J⟩:=IK rv hl λi x d u e1 e2 rr=>ih i x d e1 e2 rr;exact⟨_,.list e c dd (by simpa using J)⟩
 | tup q hl _ ih =>
   intro u Y;cases Y;obtain⟨aa,rv,⟨o,e,c,n,dd⟩,_⟩:=I.tuple q;obtain⟨O,J⟩:=IK rv hl λi x d u e1 e2 rr=>ih i x d e1 e2 rr;exact⟨_,.tuple e c dd (by simpa using J)⟩
section
variable {X:Cx}
@[irreducible] def LM(K:ZE)(neg:Bool):R2:=λx y H Q=>∃d e,Rds K H x d/\Rds K H y e/\SeqAt.shaped d=true/\SeqAt.shaped e=true/\Q (.bl (if neg then !PyData.eqv d e else PyData.eqv d e)) H
theorem SV{K:ZE}{neg:Bool}{x y:V}{H:Hp}{Q:VK}(h:∃d e,Rds K H x d/\Rds K H y e/\SeqAt.shaped d=true/\SeqAt.shaped e=true/\Q (.bl (if neg then !PyData.eqv d e else PyData.eqv d e)) H):LM K neg x y H Q:=by
 unfold LM;exact h
theorem VB(Y:X.A.units+64<cLine):OpR X (gy .Eq) (LM X.K false):=by
 intro pins s σ H x y v u Q I rx ry h;unfold LM at h;obtain⟨d,e,r1,r2,h1,h2,q⟩:=h;obtain⟨as,J⟩:=Hb I r1 rx;obtain⟨bs,O⟩:=Hb I r2 ry;exact SeqAt.compareEq_shaped J O h1 h2 Y ⟨.bl _,H,I,Z,q⟩
theorem VA(Y:X.A.units+64<cLine):OpR X (gy .NotEq) (LM X.K true):=by
 intro pins s σ H x y v u Q I rx ry h;unfold LM at h;obtain⟨d,e,r1,r2,h1,h2,q⟩:=h;obtain⟨as,J⟩:=Hb I r1 rx;obtain⟨bs,O⟩:=Hb I r2 ry;exact SeqAt.compareNe_shaped J O h1 h2 Y ⟨.bl _,H,I,Z,q⟩
end
theorem Tg:gv "len" = some (.builtin "len"):=by decide +kernel
theorem Nz:gv "abs" = some (.builtin "abs"):=by decide +kernel
theorem Tf:gv "sum" = some (.builtin "sum"):=by decide +kernel
theorem QO:gv "list" = some (.type "list"):=by decide +kernel
theorem LA:gv "tuple" = some (.type "tuple"):=by decide +kernel
theorem W9:gv "int" = some (.type "int"):=by decide +kernel
theorem Ox:gv "reversed" = some (.type "reversed"):=by decide +kernel
def Fx(H:Hp)(L:List (ce×HO)):Prop:=∀p∈L,H p.1=some p.2
def Mv(a:ce)(H H':Hp):Prop:=∀b o,b≠a->H b=some o->H' b=some o
theorem Mv.refl(a:ce)(H:Hp):Mv a H H:=λ_ _ _ h=>h
theorem Mv.trans(x:Mv a H H1)(y:Mv a H1 H2):Mv a H H2:=λb o n h=>y b o n (x b o n h)
theorem Mv.new(h:H p=none):Mv a H (upd H p o):=λb u _ q=>by rw[EC (Ez q h)];exact q
theorem QR{Y:ki}{k:Int}(J:0<=k)(h:k<(Y.length:Int)):∃v:Int,atI (Y.map V.int) k=some (.int v):=by
 have hk:k.toNat<Y.length:=by lia
 have O:k=((k.toNat:Nat):Int):=by lia
 have q:atI (Y.map V.int) ((k.toNat:Nat):Int)=some (.int Y[k.toNat]):=Ew (by rw[bA,cZ hk]<;>rfl)
 rw[<- O]at q;exact⟨_,q⟩
def nT(q:Rat):HO:=.tup [.int q.num,.int q.den]
def Pen(H:Hp)(a:ce):Prop:=∃c0 c1 c2:Int,H a=some (.lst [.int c0,.int c1,.int c2])
theorem Pen.same(x:Pen H a)(h:H p=none):Pen (upd H p o) a:=by
 obtain⟨Y,O,J,e⟩:=x;exact⟨Y,O,J,by rw[EC (Ez e h)];exact e⟩
theorem Pen.put:Pen (upd H a (.lst [.int Y,.int O,.int J])) a:=⟨Y,O,J,E3⟩
def Fh(i j:Int):Prop:=(-(2 ^ 64)<i/\i<2 ^ 64)\/(-(2 ^ 64)<j/\j<2 ^ 64)\/Tv i j
theorem Fh.ok(h:Fh i j):IntMulOk i j:=by
 rcases h with ⟨h1,h2⟩ | ⟨h1,h2⟩ | h
 ·exact .of_left (intBits_le_64 h1 h2)
 ·exact .of_right (intBits_le_64 h1 h2)
 ·exact h.ok
theorem Es:OpR X (gT .Mult) (rI Fh λi j=>.int (i*j)):=opI λ_ _ _ _ _ _ _ Y q=>mul_int q Y.ok
def LF(a:ce)(H H':Hp):Prop:=∀b,b≠a->H' b=H b
theorem LF.mv(x:LF a H H'):Mv a H H':=λb o n h=>by rw[x b n];exact h
theorem LF.put:LF a H (upd H a o):=λb n=>EC n
theorem Pen.ne(x:Pen H a)(h:H p=some o)(hd:∀Y O J:Int,o ≠ .lst [.int Y,.int O,.int J]):p≠a:=by
 obtain⟨Y,O,J,e⟩:=x;exact Jf h e (hd Y O J)
structure Lg(a:ce)(H:Hp)(L:List (ce×HO)):Prop where
 fx:Fx H L
 ne:∀x∈L,x.1≠a
 pen:Pen H a
theorem Me(q:Rat):∀Y O J:Int,nT q ≠ .lst [.int Y,.int O,.int J]:=λ_ _ _ z=>by cases z
theorem UC{xs:ki}{i:Int}(O:0<=i)(h:i<(xs.length:Int)):∃v:Int,atI (xs.map V.int) i=some (.int v)/\v∈xs:=by
 have hk:i.toNat<xs.length:=by lia
 have Y:i=((i.toNat:Nat):Int):=by lia
 have q:atI (xs.map V.int) ((i.toNat:Nat):Int)=some (.int xs[i.toNat]):=Ew (by rw[bA,cZ hk]<;>rfl)
 rw[<- Y]at q;exact⟨_,q,d4 hk⟩
theorem RU{K:ZE}{H:Hp}{a p:ce}{xs:ko}{o:HO}(Y:SqL K H a xs)(O:H p=none):SqL K (upd H p o) a xs:=by
 have st:∀u,H a=some u->upd H p o a=some u:=λu e=>by rw[EC (Ez e O)];exact e
 rcases Y with (h | ⟨o,h⟩) | h
 ·exact .inl (.inl (st _ h))
 ·exact .inl (.inr ⟨o,st _ h⟩)
 ·exact .inr h
inductive Ji(vs:ko)(H:Hp)(Q:VK)(E:XK):Prop
 | mk(a:ce)(m:Int)(_:vs=[.ref a,.int m])(_:Pen H a)(_:1<=m)(_:m<1073741824)(_:∀(d:Int) (H':Hp),0<=d->d<m->LF a H H'->Pen H' a->Q (.int d) H')
inductive RZ(K:ZE)(vs:ko)(H:Hp)(Q:VK)(E:XK):Prop
 | mk(a:ce)(ns:ki)(k:Int)(_:vs=[.ref a,.int k])(_:SqL K H a (ns.map V.int))(_:ns.length<=63)(_:0<=k)(_:k<2 ^ 62)(_:∀(p:ce) (c0 c1:Int),H p=none->Q (.ref p) (upd H p (.lst [.int c0,.int c1,.int 0])))
inductive HB(vs:ko)(H:Hp)(Q:VK)(E:XK):Prop
 | mk(t b:Int)(_:vs=[.int t,.int b])(_:b≠0)(_:∀p,H p=none->Q (.ref p) (upd H p (nT (cx t b))))
inductive PR(vs:ko)(H:Hp)(Q:VK)(E:XK):Prop
 | mk(a b:Int)(_:vs=[.int a,.int b])(_:Q (.int (cu a b)) H)
inductive NJ(n:Nat)(vs:ko)(H:Hp)(Q:VK)(E:XK):Prop
 | mk(a:_)(_:vs=[.ref a])(_:Pen H a)(_:∀(q:Rat) (r:ce) (H':Hp),Mv a H H'->Pen H' a->H' r=some (nT q)->Bd n q.num->Bd n q.den->Q (.ref r) H')
inductive NK(K:ZE)(vs:ko)(H:Hp)(Q:VK)(E:XK):Prop
 | mk(a:ce)(ns:ki)(_:vs=[.ref a])(_:SqL K H a (ns.map V.int))(_:ns.length<=63)(_:∀H',Q (.bl true) H')
def mu(i:Nat)(σ:St):Nat:=match σ[i]? with | some (some (.int y))=>y.toNat | _=>0
theorem Bd.mono(h:Bd m x)(Y:m<=n):Bd n x:=Zw h (d5 Yd Y)
theorem Bd.num(h:Bd n t):Bd n (cx t b).num:=by
 unfold Bd at *;by_cases hb:b=0
 ·subst hb;simp;exact Nat.pos_of_ne_zero (by simp)
 ·rw[<- Nm.top_msr hb];exact c5 (PySem.natAbs_fdiv_le t _) h
theorem Bd.den(Y:b≠0)(h:Bd n b):Bd n (cx t b).den:=by
 unfold Bd at *;rw[<- Nm.bottom_msr Y];exact c5 (PySem.natAbs_fdiv_le b _) h
def MB(K:ZE)(a:ce)(xs:ko):It :=
 ⟨λi H=>SqL K H a xs/\i<xs.length,λi H x H'=>H'=H/\xs[xs.length-1-i]? = some x,λi _=>xs.length=i⟩
theorem RJ{P:fV}{w:fY}{K:ZE}{tg:Expr}(a it:ce)(xs:ko):Px P w K tg (MB K a xs) [it] it (λi h=>i<=xs.length/\h.IsRevIter it a ((xs.length:Int)-1-(i:Int))) where
 mem:=by simp
 obj:=λi h st b O=>by
  have e:b=it:=by simpa using O
  subst e;obtain⟨_,o,e,c,d⟩:=st;exact⟨o,e,λv z=>by rw[d]at z;cases z⟩
 keep:=λi h h' st k=>⟨st.1,st.2.at λo e=>k it (by simp) o e⟩
 item:=by
  intro X hP hw hK hc i pins s σ H E I hf st hg;subst hP hw hK;obtain⟨hq,hi⟩:=hg;obtain⟨ac,rv,p,hz⟩:=I.list hq;have hl:=rv.length;have hx:xs[xs.length-1-i]? = some (xs[xs.length-1-i]'Yl):=cZ Yl;obtain⟨u,hu,ru⟩:=rv.get hx;obtain⟨f0,f1,f2,f3,f4,f5⟩:=hf it (by simp)
  have e:(xs.length:Int)-1-(i:Int)=((xs.length-1-i:Nat):Int):=by lia
  have Y:=st.2;rw[e]at Y;refine wpAny_pyNext_rev_item Y p.isList (x:=u) (by simpa using hu) λh' J sb=>?_
  have I1:Inv X pins σ H { s with heap:=h' }:=I.turned (t':=s.toks) (λb o O e=>(sb.2 b O).trans e) f0 f1 f3 f4 f5
  obtain⟨o,e',c,d⟩:=id J;have e2:((xs.length-1-i:Nat):Int)-1=(xs.length:Int)-1-((i+1:Nat):Int):=by lia
  rw[e2]at J;exact⟨u,Z,Od (s:={ s with heap:=h' }) e' c d Yd ⟨_,H,I1,ru,⟨rfl,hx⟩,⟨hi,J⟩,λb O=>(hf b O).1⟩⟩
 done:=by
  intro X hP hw hK hc i pins s σ H E I hf st hg;subst hP hw hK;obtain⟨f0,f1,f2,f3,f4,f5⟩:=hf it (by simp)
  have aa:xs.length=i:=hg;have Y:=st.2;rw[show(xs.length:Int)-1-(i:Int) = -1 by lia]at Y
  exact wpAny_pyNext_rev_end (I.ok.hd hc) Y λh' eb=>⟨Z,I.turned (t':=s.toks) (λb o O e=>eb b o O e) f0 f1 f3 f4 f5⟩
 self:=λ_ _ _ _ _ st h=>wpAny_pyIter_revIter st.2 h
section
variable {X:Cx}{tg:Expr}
def WM(K:ZE)(tl:TE):TI:=λσ H R=>tl σ H λx H1=>∃v,[x]=[v]/\∃a xs,v = .ref a/\SqL K H1 a xs/\R (MB K a xs) H1
theorem Vn(hg:Gl X "reversed")(hm:X.mg "reversed" = none)(hl:PE X l tl)(hs:fU [l] X.env=[(false,gu l X.env)]:=by rfl):PI X tg (.Call (.Name "reversed" p) [l] [] pos) (WM X.K tl):=by
 intro pins s σ H R I h;have ha:PA X [l] (ID tl OM):=E1 hl E8 (by rw[hs];rfl)
 refine Call_ (Ka I hg hm Ox (PyProof.Rows.callWith_type1 (thn (ha pos pins s σ H (λvs H1=>∃x,vs=[x]/\∃a xs,x = .ref a/\SqL X.K H1 a xs/\R (MB X.K a xs) H1) I h) λus Y ⟨vs,H1,J,r1,q1⟩=>?_) hs rfl));obtain⟨x,e0,a,xs,e,hq,q⟩:=q1;subst e0;subst e;cases r1 with
 | cons r rr =>
   cases rr;cases r;obtain⟨O,rv,p,hz⟩:=J.list hq;refine call_reversed_list p.isList ?_;have I2:Inv X pins σ H1 { Y with heap:=Y.heap.push (revObj a ((O.toArray.size:Int)-1)) }:=J.kept (t':=Y.toks) λb o e=>Heap.get?_push_of_some _ e
   have st:({ Y with heap:=Y.heap.push (revObj a ((O.toArray.size:Int)-1)) }:db).heap.IsRevIter Y.heap.objs.size a ((xs.length:Int)-1-((0:Nat):Int)):=by
    refine⟨_,Heap.get?_push_size _ rfl,Z,?_⟩;have e:((O.toArray.size:Nat):Int)-1=(xs.length:Int)-1-((0:Nat):Int):=by rw[bQ,<- rv.length];simp
    show Data.fields #[.ref a,hG _]=_;rw[e]
   refine wpAny_pyIter_revIter st ?_;refine⟨Y.heap.objs.size,[Y.heap.objs.size],_,_,H1,Z,I2,RJ a _ xs,⟨ZU _,st⟩,λb hb=>?_,q⟩;have e:b=Y.heap.objs.size:=by simpa using hb
   subst e;exact J.fpOk (ZR _) (J.hok.fresh (ZR _))
end
theorem Qz{K:ZE}{a:ce}{xs:ko}{g:TG}{tb:TS}{D:IA}{σ:St}{H:Hp}(Y:Nat->St->Hp->Prop)(h0:Y 0 σ H)(hl:∀i σ H,i<=xs.length->Y i σ H->SqL K H a xs)
 (hs:∀i x σ H,i<xs.length->xs[xs.length-1-i]? = some x->Y i σ H->g x σ H λO H2=>tb { D with nx:=Y (i+1),ct:=Y (i+1),bk:=D.nx } O H2) (hd:∀σ H,Y xs.length σ H->D.nx σ H) :
 ∃ W:Nat->Nat->St->Hp->Prop,(∃m,W 0 m σ H)/\∀i m σ H,W i m σ H ->
   ((MB K a xs).stop i H/\D.nx σ H)\/((MB K a xs).go i H/\∃N:St->Hp->Prop,(∀J H',N J H'->∃m',m'<m/\W (i+1) m' J H')/\∀x H',(MB K a xs).yld i H x H'->g x σ H' λO H2=>tb { D with nx:=N,ct:=N,bk:=D.nx } O H2):=by
 refine⟨λi m σ H=>m=xs.length-i/\i<=xs.length/\Y i σ H,⟨xs.length,by simp,ZU _,h0⟩,?_⟩
 rintro i m σ H ⟨rfl,hi,p⟩;have q:=hl i σ H hi p;by_cases hlt:i<xs.length
 ·refine .inr ⟨⟨q,hlt⟩,Y (i+1),λJ H' p'=>⟨xs.length-(i+1),Yl,Z,hlt,p'⟩,λx H' y=>?_⟩;obtain⟨e,y⟩:=y;subst e;exact hs i x σ _ hlt y p
 ·have e:i=xs.length:=by lia
  subst e;exact .inl ⟨Z,hd σ H p⟩
theorem SqT.same{K:ZE}{H H':Hp}{a:ce}{xs:ko}(h:SqT K H a xs)(e:E4 H H'):SqT K H' a xs:=by
 rcases h with (h | ⟨o,h⟩) | h
 ·exact .inl (.inl (e _ _ h))
 ·exact .inl (.inr ⟨o,e _ _ h⟩)
 ·exact .inr h
theorem E4.new(h:H p=none):E4 H (upd H p o):=λb u q=>by rw[EC (Ez q h)];exact q
theorem E4.mv(h:E4 H H'):Mv a H H':=λb o _ q=>h b o q
theorem Paired.get:∀{Y:List J} {O:List β} {i:Nat} {a:J},Paired F Y O->Y[i]? = some a->∃b,O[i]? = some b/\F a b
 | _,_,_,_,.nil,e=>by simp at e
 | _,_,0,_,.cons h _,e=>by simp at e;subst e;exact⟨_,Z,h⟩
 | _,_,i+1,_,.cons _ t,e=>by
   obtain⟨b,h1,h2⟩:=Paired.get (i:=i) t (by simpa using e)
   exact⟨b,by simpa using h1,h2⟩
theorem Paired.get':∀{Y:List α} {O:List J} {i:Nat} {b:J},Paired F Y O->O[i]? = some b->∃a,Y[i]? = some a/\F a b
 | _,_,_,_,.nil,e=>by simp at e
 | _,_,0,_,.cons h _,e=>by simp at e;subst e;exact⟨_,Z,h⟩
 | _,_,i+1,_,.cons _ t,e=>by
   obtain⟨b,h1,h2⟩:=Paired.get' (i:=i) t (by simpa using e)
   exact⟨b,by simpa using h1,h2⟩
theorem Paired.take:∀{l₁:List α} {l₂:List β} (n:Nat),Paired F l₁ l₂->Paired F (l₁.take n) (l₂.take n)
 | _,_,0,_=>by simp;exact .nil
 | _,_,_+1,.nil=>.nil
 | _,_,n+1,.cons h t=>.cons h (Paired.take n t)
theorem Paired.append(a:Paired F J aa)(b:Paired F Y O):Paired F (J++Y) (aa++O):=by
 induction a with
 | nil=>exact b
 | cons h t ih=>exact .cons h ih
def Et(K:ZE)(H:Hp)(x:V)(q:Rat):Prop:=∃r,x = .ref r/\SqT K H r [.int q.num,.int q.den]
abbrev ED(K:ZE)(H:Hp):ko->kh->Prop:=Paired (Et K H)
theorem Et.of{K:ZE}{H:Hp}{r:ce}{q:Rat}(h:H r=some (nT q)):Et K H (.ref r) q:=⟨r,Z,SqT.of h⟩
theorem Et.same{K:ZE}{H H':Hp}{x:V}{q:Rat}(h:Et K H x q)(e:E4 H H'):Et K H' x q:=by
 obtain⟨r,rfl,h⟩:=h;exact⟨r,Z,h.same e⟩
theorem ED.same{K:ZE}{H H':Hp}{xs:ko}{qs:kh}(h:ED K H xs qs)(e:E4 H H'):ED K H' xs qs:=Paired.mapP h λ_ _ z=>z.same e
theorem SqT.mv{K:ZE}{H H':Hp}{a p:ce}{xs:ko}(h:SqT K H a xs)(pn:Pen H p)(m:Mv p H H'):SqT K H' a xs:=by
 obtain⟨Y,O,J,e⟩:=pn
 rcases h with (h | ⟨o,h⟩) | h
 ·exact .inl (.inl (m _ _ (Jf h e (λz=>by cases z)) h))
 ·exact .inl (.inr ⟨o,m _ _ (Jf h e (λz=>by cases z)) h⟩)
 ·exact .inr h
theorem Et.mv{K:ZE}{H H':Hp}{x:V}{q:Rat}{p:ce}(h:Et K H x q)(pn:Pen H p)(m:Mv p H H'):Et K H' x q:=by
 obtain⟨r,rfl,h⟩:=h;exact⟨r,Z,h.mv pn m⟩
theorem ED.mv{K:ZE}{H H':Hp}{xs:ko}{qs:kh}{p:ce}(h:ED K H xs qs)(pn:Pen H p)(m:Mv p H H'):ED K H' xs qs:=Paired.mapP h λ_ _ z=>z.mv pn m
theorem SqT.put{K:ZE}{H:Hp}{a p:ce}{xs ys:ko}{o:HO}(h:SqT K H a xs)(Y:H p=some (.lst ys)):SqT K (upd H p o) a xs:=by
 rcases h with (h | ⟨u,h⟩) | h
 ·exact .inl (.inl (by rw[EC (Jf h Y (λz=>by cases z))];exact h))
 ·exact .inl (.inr ⟨u,by rw[EC (Jf h Y (λz=>by cases z))];exact h⟩)
 ·exact .inr h
theorem Et.put{K:ZE}{H:Hp}{x:V}{q:Rat}{p:ce}{ys:ko}{o:HO}(h:Et K H x q)(Y:H p=some (.lst ys)):Et K (upd H p o) x q:=by
 obtain⟨r,rfl,h⟩:=h;exact⟨r,Z,h.put Y⟩
theorem ED.put{K:ZE}{H:Hp}{xs:ko}{qs:kh}{p:ce}{ys:ko}{o:HO}(h:ED K H xs qs)(Y:H p=some (.lst ys)):ED K (upd H p o) xs qs:=Paired.mapP h λ_ _ z=>z.put Y
def Crv(K:ZE)(H:Hp)(r:ce)(qs:kh):Prop:=∃xs,SqT K H r xs/\ED K H xs qs
theorem Crv.same{K:ZE}{H H':Hp}{r:ce}{qs:kh}(h:Crv K H r qs)(e:E4 H H'):Crv K H' r qs:=let ⟨xs,a,b⟩:=h;⟨xs,a.same e,b.same e⟩
theorem Crv.mv{K:ZE}{H H':Hp}{r p:ce}{qs:kh}(h:Crv K H r qs)(pn:Pen H p)(m:Mv p H H'):Crv K H' r qs:=let ⟨xs,a,b⟩:=h;⟨xs,a.mv pn m,b.mv pn m⟩
def nD(q:Rat):PyData:=.tuple [.int q.num,.int q.den]
theorem Et.rds{K:ZE}{H:Hp}{x:V}{q:Rat}(h:Et K H x q):Rds K H x (nD q):=by
 obtain⟨r,rfl,h⟩:=h;refine .tup h rfl λi x d e1 Y=>?_
 match i with
 | 0=>simp at e1 Y;subst e1;subst Y;exact .int _
 | 1=>simp at e1 Y;subst e1;subst Y;exact .int _
 | i+2=>simp at e1
theorem Pd(p q:Rat):PyData.eqv (nD p) (nD q)=decide (p=q):=by
 show(p.num == q.num&&(((p.den:Int) == (q.den:Int))&&true))=_;rw[Bool.and_true,Bool.eq_iff_iff];simp only[Bool.and_eq_true,beq_iff_eq,decide_eq_true_eq]
 constructor
 ·rintro⟨h1,h2⟩;exact Rat.ext h1 (Int.ofNat.inj h2)
 ·rintro rfl;exact⟨Z,Z⟩
theorem Qi:∀ps qs:kh,PyData.eqvAll (ps.map nD) (qs.map nD)=decide (ps=qs)
 | [],[]=>rfl
 | [],_::_=>rfl
 | _::_,[]=>rfl
 | p::ps,q::qs=>by
   show(PyData.eqv (nD p) (nD q)&&PyData.eqvAll (ps.map nD) (qs.map nD))=_;rw[Pd,Qi ps qs,Bool.eq_iff_iff];simp
theorem K9(q:Rat):SeqAt.shaped (nD q)=true:=by rfl
theorem ED.rds{K:ZE}{H:Hp}{xs:ko}{qs:kh}(h:ED K H xs qs):∀(i:Nat) x d,xs[i]? = some x->(qs.map nD)[i]? = some d->Rds K H x d:=λi x d e1 Y=>by
 obtain⟨q,O,J⟩:=Paired.get h e1;rw[bA,O]at Y;cases Y;exact J.rds
theorem ED.rdsT{K:ZE}{H:Hp}{r:ce}{xs:ko}{qs:kh}(h:ED K H xs qs)(s:SqT K H r xs):Rds K H (.ref r) (.tuple (qs.map nD)):=.tup s (by rw[h.length,bI]) h.rds
theorem ED.rdsL{K:ZE}{H:Hp}{r:ce}{xs:ko}{qs:kh}(h:ED K H xs qs)(s:SqL K H r xs):Rds K H (.ref r) (.list (qs.map nD)):=.lst s (by rw[h.length,bI]) h.rds
theorem Qh:∀qs:kh,PyData.canLayAll0 (qs.map nD)=true
 | []=>rfl
 | q::r=>by
   show(PyData.canLay0 (nD q)&&PyData.canLayAll0 (r.map nD))=true;rw[Qh r];rfl
theorem Mf:∀qs:kh,PyData.depthAll (qs.map nD)<=1
 | []=>ZU _
 | q::r=>by
   have ih:=Mf r;show max (PyData.depth (nD q)) (PyData.depthAll (r.map nD))<=1;exact Nat.max_le.mpr ⟨ZR _,ih⟩
theorem Qg(qs:kh):SeqAt.shaped (.list (qs.map nD))=true:=by
 show(PyData.canLayAll0 (qs.map nD)&&decide (PyData.depthAll (qs.map nD)+1<=64))=true;rw[Qh,Bool.true_and];exact decide_eq_true (by have:=Mf qs;lia)
theorem Qf(qs:kh):SeqAt.shaped (.tuple (qs.map nD))=true:=Qg qs
theorem eqN{K:ZE}{H:Hp}{x y:V}{p q:Rat}{Q:VK}{neg:Bool}(h1:Et K H x p)(h2:Et K H y q)(h:Q (.bl (if neg then !decide (p=q) else decide (p=q))) H):LM K neg x y H Q :=
 SV ⟨_,_,h1.rds,h2.rds,K9 _,K9 _,by rw[Pd];exact h⟩
theorem eqT{K:ZE}{H:Hp}{a b:ce}{ps qs:kh}{Q:VK}{neg:Bool}(h1:Crv K H a ps)(h2:Crv K H b qs)(h:Q (.bl (if neg then !decide (ps=qs) else decide (ps=qs))) H):LM K neg (.ref a) (.ref b) H Q:=by
 obtain⟨xs,O,Y⟩:=h1;obtain⟨ys,J,n2⟩:=h2;refine SV ⟨_,_,Y.rdsT O,n2.rdsT J,Qf _,Qf _,?_⟩;have e:PyData.eqv (.tuple (ps.map nD)) (.tuple (qs.map nD))=decide (ps=qs):=Qi ps qs;rw[e];exact h
theorem PL(O:St->Hp->Prop)(J:St->Hp->Nat)(h0:O σ H)
 (hs:∀σ H,O σ H->c σ H λb H1=>if b=true then ∃N:St->Hp->Prop,(∀Y H',N Y H'->∃m',m'<J σ H/\(m'=J Y H'/\O Y H'))/\tb { D with nx:=N,ct:=N,bk:=D.nx } σ H1 else D.nx σ H1):OL c tb D σ H:=by
 refine⟨λm σ H=>m=J σ H/\O σ H,⟨_,Z,h0⟩,?_⟩;rintro m σ H ⟨rfl,p⟩;exact hs σ H p
theorem PJ{tb:TS}{D:IA}{σ:St}{H1:Hp}{m:Nat}{J:St->Hp->Prop}{O:St->Hp->Nat}
 (h:tb { D with nx:=λY H'=>J Y H'/\O Y H'<m,ct:=λY H'=>J Y H'/\O Y H'<m,bk:=D.nx } σ H1) :
 ∃N:St->Hp->Prop,(∀Y H',N Y H'->∃m',m'<m/\(m'=O Y H'/\J Y H'))/\tb { D with nx:=N,ct:=N,bk:=D.nx } σ H1 :=
 ⟨_,λ_ _ ⟨p,l⟩=>⟨_,l,Z,p⟩,h⟩
def RB(n:Nat)(q:Rat):Prop:=Bd n q.num/\Bd n (q.den:Int)
theorem Bd.mul(h1:Bd m x)(h2:Bd n y):Bd (m+n) (x*y):=by
 unfold Bd at *;rw[d6,d7];exact Nat.mul_lt_mul'' h1 h2
theorem Bd.add(h1:Bd n x)(h2:Bd n y):Bd (n+1) (x+y):=by
 unfold Bd at *;rw[d9,Nat.mul_two];exact c5 (da x y) (Nat.add_lt_add h1 h2)
theorem Bd.sub(h1:Bd n x)(h2:Bd n y):Bd (n+1) (x-y):=by
 rw[de];exact Bd.add h1 (by unfold Bd;rw[Int.natAbs_neg];exact h2)
theorem Bd.fdiv(h:Bd n x):Bd n (x.fdiv y):=c5 (PySem.natAbs_fdiv_le x y) h
theorem Fh.bd(h1:Bd m x)(h2:Bd n y)(h:m+n<=134217728:=by lia):Fh x y:=.inr (.inr ⟨m,n,h1,h2,h⟩)
theorem RB.mono(h:RB m q)(Y:m<=n):RB n q:=⟨h.1.mono Y,h.2.mono Y⟩
theorem RB.div{m n:Nat}{t b:Int}(h1:Bd n t)(h2:Bd n b)(Y:b≠0):RB n (cx t b):=⟨Bd.num h1,Bd.den Y h2⟩
theorem NH:∀{us:List cr} {xs:ko},us.map RE=xs.map some->(∀u∈us,∀x,RE u=some x->Fg x u)->EN xs us
 | [],[],_,_=>.nil
 | [],_::_,e,_=>by simp at e
 | _::_,[],e,_=>by simp at e
 | u::us,x::xs,e,h=>by
   simp only[bZ,List.cons.injEq]at e;exact .cons (h u ZJ x e.1) (NH e.2 λv hv=>h v (ZK _ hv))
theorem Tt(h:RE u=some x):Fg x u:=by
 cases u<;>first | (cases h;rfl) | (cases h;exact⟨_,Z⟩) | cases h
theorem Ry{K:ZE}{H:Hp}{a:ce}{o:Obj}{vs:Array cr}{n:Nat}{q:Rat}(hk:K.lookup a=some o)(O:o.cls = .type "tuple")(hd:o.data = .seq vs n)(e:vs.toList.map RE=[some (.int q.num),some (.int (q.den:Int))]):SqT K H a [.int q.num,.int q.den]:=by
 refine .inr ⟨o,vs,n,hk,O,hd,?_,NH e λu _ x h=>Tt h⟩;have Y:=congrArg b7 e;simp at Y;rw[Y];decide
theorem RB.plus(h1:RB m p)(h2:RB n q):RB (m+n+1) (p+q):=by
 rw[<- Nm.plus_eq];refine⟨Bd.num (Bd.add (h1.1.mul h2.2) ((h2.1.mul h1.2).mono Yl)),Bd.den (cD (Nm.den_ne p) (Nm.den_ne q)) ((h1.2.mul h2.2).mono Yl)⟩
theorem RB.minus(h1:RB m p)(h2:RB n q):RB (m+n+1) (p-q):=by
 rw[<- Nm.minus_eq];refine⟨Bd.num (Bd.sub (h1.1.mul h2.2) ((h2.1.mul h1.2).mono Yl)),Bd.den (cD (Nm.den_ne p) (Nm.den_ne q)) ((h1.2.mul h2.2).mono Yl)⟩
theorem RB.times(h1:RB m p)(h2:RB n q):RB (m+n) (p*q):=by
 rw[<- Nm.times_eq];exact⟨Bd.num (h1.1.mul h2.1),Bd.den (cD (Nm.den_ne p) (Nm.den_ne q)) (h1.2.mul h2.2)⟩
theorem RB.zero(h:1<=n):RB n 0:=⟨(by unfold Bd;decide:Bd 1 0).mono h,(by unfold Bd;decide:Bd 1 1).mono h⟩
theorem RB.one(h:1<=n):RB n 1:=⟨(by unfold Bd;decide:Bd 1 1).mono h,(by unfold Bd;decide:Bd 1 1).mono h⟩
inductive Ge(K:ZE)(g:Rat->Rat->Rat)(vs:ko)(H:Hp)(Q:VK)(E:XK):Prop
 | mk(x y:V)(p q:Rat)(m n:Nat)(_:vs=[x,y])(_:Et K H x p)(_:Et K H y q)(_:RB m p)(_:RB n q)(_:m+n<=100000000)(_:∀r,H r=none->Q (.ref r) (upd H r (nT (g p q))))
def Sq(b:Bool)(K:ZE)(H:Hp)(a:ce)(xs:ko):Prop:=match b with
 | true=>SqL K H a xs
 | false=>SqT K H a xs
theorem Sq.same{b:Bool}{K:ZE}{H H':Hp}{a:ce}{xs:ko}(h:Sq b K H a xs)(e:E4 H H'):Sq b K H' a xs:=by
 cases b
 ·exact SqT.same h e
 ·exact e.seq h
theorem Rb(h1:PI X tg l O)(h2:PI X tg l Y):PI X tg l (λσ H R=>O σ H R\/Y σ H R):=λpins s σ H R I h=>by
 rcases h with h | h
 ·exact h1 pins s σ H R I h
 ·exact h2 pins s σ H R I h
abbrev VX(K:ZE)(tl:TE):TI:=λσ H R=>Qs K tl σ H R\/VW K tl σ H R
theorem Qy{K:ZE}{b:Bool}{a:ce}{n:Nat}{xs:ko}{g:TG}{tb:TS}{D:IA}{σ:St}{H:Hp}(O:σ[n]? = some (some (.ref a)))(Y:Nat->St->Hp->Prop)(h0:Y 0 σ H)(hl:∀i σ H,i<=xs.length->Y i σ H->Sq b K H a xs)
 (hs:∀i x σ H,xs[i]? = some x->Y i σ H->g x σ H λJ H2=>tb { D with nx:=Y (i+1),ct:=Y (i+1),bk:=D.nx } J H2) (hd:∀σ H,Y xs.length σ H->D.nx σ H) :
 Va (VX K (LH n)) g tb D σ H:=by
 have q:=hl 0 σ H (ZU _) h0;cases b with
 | true=>exact .inl ⟨_,O,a,Z,⟨xs,q⟩,JM Y h0 hl hs hd⟩
 | false=>exact .inr ⟨_,O,a,Z,⟨xs,q⟩,KD Y h0 hl hs hd⟩
theorem Pg{K:ZE}{b:Bool}{a:ce}{n:Nat}{js:kj}{xs:ko}{te:TE}{σ:St}{H:Hp}{Q:VK}(ac:σ[n]? = some (some (.ref a)))(O:Nat->ko->Hp->Prop)(h0:O 0 [] H)
 (J:∀i zs H,i<=xs.length->O i zs H->Sq b K H a xs/\zs.length=i) (hz:xs.length<=dl)
 (hs:∀i x zs H,xs[i]? = some x->O i zs H->te ((cS 1 js σ).set 0 (some x)) H λy H4=>O (i+1) (zs++[y]) H4) (aa:∀zs H',O xs.length zs H'->∀p,H' p=none->Q (.ref p) (upd H' p (.lst zs))) :
 tLC (VX K (LH n)) 1 js (HH 0) R5 te σ H Q:=by
 have q:=(J 0 [] H (ZU _) h0).1;cases b with
 | true =>
   refine GL (.inl ⟨_,ac,a,Z,⟨xs,q⟩,xs.length,O,h0,⟨?_,?_,?_⟩⟩)
   ·intro i zs H' hi p;have Y:=ZH hi;obtain⟨h1,h2⟩:=J i zs H' Y p;exact⟨⟨xs,xs[i],h1,by simp[hi]⟩,Yl⟩
   ·rintro i zs H' x H1 hi p ⟨rfl,y⟩;have Y:=ZH hi;have hx:=y xs (J i zs _ Y p).1;exact hs i x zs _ hx p
   ·intro zs H' p;have Y:=ZR xs.length;obtain⟨h1,h2⟩:=J _ zs H' Y p;exact⟨⟨xs,h1,ZR _⟩,Yl,aa zs H' p⟩
 | false =>
   refine GL (.inr ⟨_,ac,a,Z,⟨xs,q⟩,xs.length,O,h0,⟨?_,?_,?_⟩⟩)
   ·intro i zs H' hi p;have Y:=ZH hi;obtain⟨h1,h2⟩:=J i zs H' Y p;exact⟨⟨xs,xs[i],h1,by simp[hi]⟩,Yl⟩
   ·rintro i zs H' x H1 hi p ⟨rfl,y⟩;have Y:=ZH hi;have hx:=y xs (J i zs _ Y p).1;exact hs i x zs _ hx p
   ·intro zs H' p;have Y:=ZR xs.length;obtain⟨h1,h2⟩:=J _ zs H' Y p;exact⟨⟨xs,h1,ZR _⟩,Yl,aa zs H' p⟩
section
variable {X:Cx}(K:ZE)
theorem ixT(e:X.K=K:=by rfl):IxR X (Vk K):=by subst e;exact VU
theorem ixL(e:X.K=K:=by rfl):IxR X (U4 K):=by subst e;exact Us
theorem eqD(Y:X.A.units+64<cLine)(e:X.K=K:=by rfl):OpR X (gy .Eq) (LM K false):=by subst e;exact VB Y
theorem neD(Y:X.A.units+64<cLine)(e:X.K=K:=by rfl):OpR X (gy .NotEq) (LM K true):=by subst e;exact VA Y
theorem slL(e:X.K=K:=by rfl):SlR X (Vj K):=by subst e;exact TU
inductive TyX(K:ZE)(H:Hp):V->cr->Prop where
 | of {x:V} {t:cr} (h:Kv K H x t):TyX K H x t
 | tup {a:ce} {xs:ko} (h:SqT K H a xs):TyX K H (.ref a) (.type "tuple")
 | lst {a:ce} {xs:ko} (h:SqL K H a xs):TyX K H (.ref a) (.type "list")
inductive W8(xs:ko)(H:Hp)(Q:VK):Prop
 | mk(p:_)(ys:_)(_:xs=[.ref p])(_:(SqL K H p ys\/SqT K H p ys))(_:Q (.int ys.length) H)
theorem WJ(e:X.K=K:=by rfl):IX X (.builtin "len") (W8 K):=by subst e;exact λpins s σ H xs us Q I r ⟨p,ys,h1,h2,Y⟩=>Ny pins s σ H xs us Q I r ⟨p,ys,h1,h2,Y⟩
inductive V2(xs:ko)(H:Hp)(Q:VK):Prop
 | mk(p:_)(ys:_)(_:xs=[.ref p])(_:(SqL K H p ys\/SqT K H p ys))(_:∀l,H l=none->Q (.ref l) (upd H l (.lst ys)))
theorem US(e:X.K=K:=by rfl):IX X (.type "list") (V2 K):=by subst e;exact λpins s σ H xs us Q I r ⟨p,ys,h1,h2,Y⟩=>Nx pins s σ H xs us Q I r ⟨p,ys,h1,h2,Y⟩
inductive Te(xs:ko)(H:Hp)(Q:VK):Prop
 | mk(p:_)(ys:_)(_:xs=[.ref p])(_:((SqL K H p ys/\∀l,H l=none->Q (.ref l) (upd H l (.tup ys)))\/(SqT K H p ys/\Q (.ref p) H)))
theorem OI(e:X.K=K:=by rfl):IX X (.type "tuple") (Te K):=by subst e;exact λpins s σ H xs us Q I r ⟨p,ys,h1,h2⟩=>M0 pins s σ H xs us Q I r ⟨p,ys,h1,h2⟩
variable {tg l:Expr}{tl:TE}
theorem piL(Y:PE X l tl)(e:X.K=K:=by rfl):PI X tg l (Qs K tl):=by subst e;exact Q8 Y
theorem piT(Y:PE X l tl)(e:X.K=K:=by rfl):PI X tg l (VW K tl):=by subst e;exact Sd Y
theorem piS(Y:PE X l tl)(e:X.K=K:=by rfl):PI X tg l (VX K tl):=by subst e;exact Rb (Q8 Y) (Sd Y)
theorem UM{p pos:Pos}(O:Gl X "reversed")(J:X.mg "reversed" = none)(Y:PE X l tl)(hs:fU [l] X.env=[(false,gu l X.env)]:=by rfl)(e:X.K=K:=by rfl):PI X tg (.Call (.Name "reversed" p) [l] [] pos) (WM K tl):=by subst e;exact Vn O J Y hs
theorem pgT{es:List Expr}{k:Nat}{t:TGs}{n:Nat}{pos:Pos}(O:X.calm=true)(h:PGs X es t)(J:(gN es X.env).length=n:=by rfl)(Y:(gN es X.env).findIdx? (·.1)=none:=by rfl)(e:X.K=K:=by rfl):PG X (.Tuple es k pos) (VZ K n t):=by subst e;exact Vo O h J Y
end
inductive TR(K:ZE)(vs:ko)(H:Hp)(Q:VK)(E:XK):Prop
 | mk(b:Bool)(r rx:ce)(xs:ko)(qs:kh)(x:Rat)(n:Nat)(_:vs=[.ref r,.ref rx])(_:Sq b K H r xs)(_:ED K H xs qs)(_:Et K H (.ref rx) x)(_:(∀q∈qs,RB n q))(_:RB n x)(_:(n+2)*((qs.length+2)*(qs.length+2))<=30000000)(_:∀p H',E4 H H'->H' p=some (nT (Cv.ev qs x))->RB ((n+2)*((qs.length+2)*(qs.length+2))) (Cv.ev qs x)->Q (.ref p) H')
inductive Tu(K:ZE)(H:Hp):V->Bool->Prop where
 | int (i:Int):Tu K H (.int i) true
 | bl (b:Bool):Tu K H (.bl b) false
 | oth {x:V} {t:cr} (ty:TyX K H x t) (h:df K t (.type "int")=some false):Tu K H x false
theorem Ph{lo:Int}{n:Nat}(Y:Nat->ko->Hp->Prop)(h0:Y 0 [] H)(hl:∀i zs H,i<=n->Y i zs H->zs.length=i)(hz:n<=dl)
 (hs:∀i zs H,i<n->Y i zs H->te ((cS 1 js σ).set 0 (some (.int (lo+i)))) H λy H4=>Y (i+1) (zs++[y]) H4) (J:∀zs H',Y n zs H'->O zs H') :
 ∃(n':Nat) (W:Nat->ko->Hp->Prop),W 0 [] H/\LcW (Itr lo n) n' 1 js σ (HH 0) R5 te O W:=by
 refine⟨n,Y,h0,⟨?_,?_,?_⟩⟩
 ·intro i zs H' hi p;have:=hl i zs H' (ZH hi) p;exact⟨hi,Yl⟩
 ·rintro i zs H' x H1 hi p ⟨rfl,rfl⟩;exact hs i zs _ hi p
 ·intro zs H' p;have:=hl n zs H' (ZR _) p;exact⟨ZR _,Yl,J zs H' p⟩
theorem HL(h:xs[xs.length-1]? = some v):atI xs (-1)=some v:=by
 have O:xs.length-1<xs.length:=(ZO.mp h).1
 have e:ixN xs.length (-1)=some (xs.length-1):=by
  unfold ixN;rw[if_neg Yd,if_pos Yl]
  congr 1
  lia
 unfold atI;rw[e];exact h
def EI(qs:kh):Prop:=qs=[]\/∃q,qs[qs.length-1]? = some q/\q≠0
theorem EL(qs:kh):EI (Cv.strip qs):=by
 by_cases h:Cv.strip qs=[]
 ·exact .inl h
 ·have Y:0<(Cv.strip qs).length:=cI.mpr h;have e:=cZ (l:=Cv.strip qs) (i:=(Cv.strip qs).length-1) Yl;refine .inr ⟨_,e,λz=>Cv.strip_last qs h ?_⟩;rw[e,z]
theorem Pen.sm(h:Pen H p)(e:E4 H H'):Pen H' p:=let ⟨c0,c1,c2,z⟩:=h;⟨c0,c1,c2,e _ _ z⟩
theorem NN{K:ZE}{H:Hp}{x:V}{q:Rat}(h:Et K H x q):∀n:Nat,ED K H (b6 n [x]).flatten (b6 n q)
 | 0=>.nil
 | n+1=>by
   rw[bS,bU,bS];exact .cons h (NN h n)
theorem GA{Y:ki}{i:Nat}{t:Int}{k:Int}(h:Y[i]? = some t)(e:k=(i:Int)):atI (Y.map V.int) k=some (.int t):=by
 subst e;exact Ew (by rw[bA,h];rfl)
theorem JK{n i:Nat}{k:Int}(h:i<n)(e:k=(i:Int)):ixN n k=some i:=by
 subst e;unfold ixN;rw[if_pos Yl,if_pos Yl,bN]
theorem E4.put(h:E4 H H')(Y:H p=none):E4 H (upd H' p o):=λb u q=>by rw[EC (Ez q Y)];exact h b u q
def Up(c M:Nat)(t:Int):Prop:=t.natAbs<=c*2 ^ M
theorem Up.bd(h:Up c M t)(Y:c<2 ^ k):Bd (M+k) t:=by
 unfold Up at h;unfold Bd;rw[d7,bY (2 ^ M)];exact c5 h (Nat.mul_lt_mul_of_pos_right Y (Nat.pow_pos Yd))
theorem Up.add(h:Up c M t)(hd:Bd M d):Up (c+1) M (t+d):=by
 unfold Up at *;unfold Bd at hd;rw[dg,dh];exact ZF (da t d) (Nat.add_le_add h (ZH hd))
theorem Up.mono(h:Up c M t)(O:c<=Y):Up Y M t:=ZF h (dj _ O)
def CX1(P:fV)(w:fY):CXT:=λouter H s E e s'=>∃(ea:ce) (cls a0:cr) (B:gi) (H':Hp),e = .ref ea/\s'.os=s.os/\gP s'.gens/\Un (frs outer) [] H H' s.heap s'.heap/\HOk P w H' s'.heap /\
 Heap.FlyingW B outer ea cls a0 s'.heap/\(∀b o,s.heap.get? b=some o->b∉frs outer->∃o',B.get? b=some o')/\(∀b u,H' b=some u->∃o',B.get? b=some o')/\E cls none H'
theorem G7.got(x:G7 P w H h a o):∃Y,h.get? a=some Y:=by
 induction o with
 | lst xs=>obtain⟨_,_,_,_,e⟩:=x;exact⟨_,e⟩
 | tup xs=>obtain⟨_,_,_,Y,e,_⟩:=x;exact⟨_,e⟩
 | dK kvs=>obtain⟨_,_,_,_,Y,_,_,e,_⟩:=x;exact⟨_,e⟩
 | dT kvs=>obtain⟨_,_,_,_,Y,_,_,e,_⟩:=x;exact⟨_,e⟩
 | set S n=>obtain⟨Y,_,_,_,e,_⟩:=x;exact⟨_,e⟩
 | ins C dx fs=>obtain⟨_,_,_,e,_⟩:=x;exact⟨_,e⟩
 | own y=>exact x
 | xd fs=>obtain⟨_,⟨Y,_,_,e,_⟩,_⟩:=x;exact⟨_,e⟩
 | met f y=>exact⟨_,x⟩
 | rng lo hi=>obtain⟨_,_,_,e⟩:=x;exact⟨_,e⟩
 | frz Y u ih=>exact⟨_,x.1⟩
 | tbl ps=>exact⟨_,x⟩
 | ext φ=>exact x.2.1
section
variable {X:Cx}{pins:List (ce×Obj)}{σ:St}{H H':Hp}{s s':db}{B:gi}
theorem Inv.flown(I:Inv X pins σ H s)(Y:Un (frs X.stack) [] H H' s.heap s'.heap)(ac:HOk X.prog X.w H' s'.heap)(os:s'.os=s.os)(aa:gP s'.gens)
 (hs:∀b o,B.get? b=some o->s'.heap.get? b=some o) (k1:∀b o,s.heap.get? b=some o->b∉frs X.stack->∃o',B.get? b=some o') (k2:∀b u,H' b=some u->∃o',B.get? b=some o')
 (ad:∀b o,B.get? b=some o->h2.get? b=some o) (sl:∀b o,b∈frs X.stack->s'.heap.get? b=some o->∃z,h2.get? b=some { o with slots:=z }):Inv X pins σ H' { s' with heap:=h2,toks:=toks }:=by
 have O:∀b o,s'.heap.get? b=some o->(∃o',B.get? b=some o')->h2.get? b=some o:=λb o e ⟨o',q⟩=>by
  have:=hs b o' q;rw[e]at this;cases this;exact ad b o q
 refine I.call' (ch:=[]) os ⟨λb o e n J nx=>O b o (Y.keep b o e n J nx) (k1 b o e J),λb o e n J nx=>?_,Y.free,λb o e nx=>?_,Y.tups,Y.frzs,Y.tbls⟩ (λb u e=>?_) aa (λ_ z=>nomatch z)
 ·obtain⟨z,q⟩:=Y.slot b o e n J nx;obtain⟨z',q'⟩:=sl b _ J q;exact⟨z',q'⟩
 ·obtain⟨o',q⟩:=Y.there b o e nx;by_cases hb:b∈frs X.stack
  ·obtain⟨z',q'⟩:=sl b _ hb q;exact⟨_,q'⟩
  ·exact⟨_,O b o' q (k1 b o e hb)⟩
 ·refine(ac b u e).stay (λc v hc q=>O c v q ?_) (λ_ q=>q) λ_ _ q=>q
  rcases hc with rfl | z
  ·exact k2 _ u e
  ·exact k2 c _ z
theorem Uu(h:gi)(l:List Env):∀env∈l,∀b,env.frame=some b->b∈frs l:=λenv O b Y=>ZS.mpr ⟨env,O,Y⟩
theorem Inv.slots(hf:s'.heap.FunFrames B X.stack)(u:s'.heap.UpToSlots h2):∀b o,b∈frs X.stack->s'.heap.get? b=some o->∃z,h2.get? b=some { o with slots:=z }:=λb o O e=>by
 obtain⟨_,o',Y,J⟩:=hf.mem O;rw[e]at Y;cases Y;exact u b o e J
end
section
variable {P:fV}{w:fY}{K:ZE}{mg:Str->Option cr}{base:gi}{N:km}{qual:Str}{scope:gH}{f:ce}{cd:cr}{A:fZ}{outer:List Env}{s:db}{H:Hp}{E:XK}
end
structure UE(K:ZE)(x:Str)(C:ce):Prop where
 ns:dk K fX x=some (some (.ref C))
 ob:∃bm N nm q bs hdct sn sub ab col dd k0 k1 k2 k3 k5,K.lookup C=some (excClassObj nm q C N bs bm hdct sn sub ab col dd k0 k1 k2 k3 k5 "ValueError.__new__")
 ex:PySem.W.excIn K C [.type "ValueError",.type "Exception",.type "BaseException",.type "object"] "ValueError.__new__" = true
def V9(E:XK)(C:ce)(t:TA):TS:=λ_ σ H=>t σ H λxs H1=>xs.length<=dl/\E (.ref C) none H1
def V4(X:Cx)(E:XK):Prop:=∀(pins:List (ce×Obj)) (σ:St) (H1:Hp) (s1:db) (h2:gi) (ea:ce) (cls:cr) (vs:List cr),Inv X pins σ H1 s1->Heap.MadeExcOf s1.heap h2 ea cls vs->E cls none H1->X.xe (.ref ea) { s1 with heap:=h2 }
theorem Vw{K:ZE}{h:gi}{mg:Str->Option cr}{x:Str}{C:ce}(X:K.In h)(g:h.Ns fX mg)(c:UE K x C):OwnCls x C [.type "ValueError",.type "Exception",.type "BaseException",.type "object"] "ValueError.__new__" mg h:=by
 obtain⟨bm,N,nm,q,bs,hdct,sn,sub,ab,col,dd,k0,k1,k2,k3,k5,l⟩:=c.ob;have ex:=c.ex;unfold PySem.W.excIn at ex;rw[l]at ex;simp only[excClassObj,Bool.and_eq_true,beq_iff_eq]at ex;exact⟨dq X g c.ns,bm,N,nm,q,bs,hdct,sn,sub,ab,col,dd,k0,k1,k2,k3,k5,_,X _ _ l,.of_isNs (PySem.W.isNs_of_in X ex.1.2),PySem.W.nsMap_none_of_in X ex.1.2 ex.2,PySem.W.tail_of_in X ex.1.1.2⟩
theorem Sa{rest:List Expr}(c:UE X.K x C)(hg:Gl X x)(hM:V4 X E)(hc:X.calm=true)(ha:PA X (Y::rest) t)
 (ad:(x == ("__debug__" : Str))=false:=by decide) (he:fU (Y::rest) X.env=(false,gu Y X.env)::fU rest X.env:=by rfl) (aa:(gC cpos (fU rest X.env)).any (·.1)=false:=by rfl) :
 PS X (.Raise (some (.Call (.Name x np) (Y::rest) [] cpos)) none pos) (V9 E C t):=by
 intro pins s σ H D I h;have O:=Vw I.mod.kin I.mod.glob c;obtain⟨tl,N,nm,q,bs,hdct,sn,sub,ab,col,dd,k0,k1,k2,k3,k5,mN,hC,hN,ac,T⟩:=O.obj;have FB:=PySem.F.excBase_ValueError
 refine wpAny_Raise_call_subT (C:=C) (nm:=nm) (q:=q) (N:=N) (bs:=bs) (bm:=tl) (hdct:=hdct) (sn:=sn) (sub:=sub) (ab:=ab) (col:=col) (dd:=dd) (k0:=k0) (k1:=k1) (k2:=k2) (k3:=k3) (k5:=k5)
  FB (mN:=mN) (T.hasType FB.hasBase) (I.ok.hd hc) (by rw[he];show(false||(gC cpos (fU rest X.env)).any (·.1))=false;rw[aa];rfl) ac (JJ I hg O.bound ⟨Z,?_⟩ ad)
 rw[he];refine Calls.evalArgs_plain ?_;have z:=ha cpos pins s σ H _ I h;rw[he]at z;refine thn z λus s2 ⟨xs,H1,J,r,hz,hE⟩=>⟨Z,by rw[<- r.length];exact hz,J.bk _ _ hC,hN.keeps J.bk,T.keeps J.bk,λh' e hx=>hM pins σ H1 s2 h' e _ _ J hx hE⟩
abbrev Cx.marked(X:Cx)(ea:ce):Cx:={ X with A:=X.A.mark (some (.ref ea)),calm:=false,xe:=λ_ _=>False }
section
variable {X:Cx}{pins:List (ce×Obj)}{σ:St}{H H':Hp}{s s':db}{B:gi}
theorem Cx.Ok.marked(Y:X.Ok)(ea:ce):(X.marked ea).Ok :=
 ⟨Y.mod,Y.kind,Y.glob,Y.blt,Y.above,Y.inj,Y.has,Y.cab,(λz=>nomatch z),Y.frames,Y.stk,Y.exf,Y.bs,Y.bsz,Y.noex,Y.exfs,Y.funs,Y.frf⟩
theorem Inv.marked(I:Inv X pins σ H s)(ea:ce):Inv (X.marked ea) pins σ H s:=⟨I.ok.marked ea,I.os,I.bare,I.base,I.loc,I.cell,I.free,I.freeC,I.pin,I.hok,I.len⟩
end
section
open PySem.W PySem.Builtin PySem.Builtin.ObjectAttr PySem.Builtin.Getset_descriptor
variable {prog:fV}{w:fY}{A:fZ}{E:cr->db->Prop}{s:db}{K:ZE}{x D:ce}
structure XTy(K:ZE)(D:ce):Prop where
 ga:findIn K (.ref D) "__getattribute__" = some (some (.builtin "BaseException.__getattribute__"))
 gt:findIn K (.ref D) "__getattr__" = some none
 ca:findIn K (.ref D) "__class__" = some (some (.builtin "object.__class__"))
 gg:specialIn K (.builtin "object.__class__") "__get__" = some (some (.builtin "getset_descriptor.__get__"))
 tk:takesIn K (.builtin "object.__class__")=some true
 ob:mroIn K D (.type "object")=some true
 be:mroIn K D (.type "BaseException")=some true
 cl:∃c d cd sl,K.lookup D=some ⟨c,d,.cls cd,sl⟩
end
section
open PySem.W
variable {X:Cx}(K:ZE)
end
section
variable {P:fV}{w:fY}{K:ZE}{mg:Str->Option cr}{base:gi}
end
structure FdX(P:fV)(w:fY)(K:ZE)(mg:Str->Option cr)(base:gi)(n:Nat)(x:Str)(ps:km)(sp:Sp):Prop where
 ex:∃(f:ce) (fd:fT),EF P w K mg base (CX1 P w) n f fd ps sp/\Gs K fd ps []/\ZX K (.ref f)=true/\mg x=some (.ref f)
end L2
namespace L2
open PySem PySem.Spec PyProof.Rows
def Itd(lo:Int)(n:Nat):It:=⟨λi _=>i<n,λi H x H'=>H'=H/\x = .int (lo-i),λi _=>n<=i⟩
theorem R4{P:fV}{w:fY}{K:ZE}{tg:Expr}(it:ce)(lo:Int)(n:Nat):Px P w K tg (Itd lo n) [it] it (λi h=>IsRangeIter h it (lo+(i:Nat)*(-1)) ((n:Int)-(i:Nat)) (-1)) where
 mem:=by simp
 obj:=λi h st b Y=>by
  have e:b=it:=by simpa using Y
  subst e
  exact⟨_,st,λv z=>by
   have z':Data.fields _=Data.cell v:=z;cases z'⟩
 keep:=λi h h' st k=>k it (by simp) _ st
 item:=by
  intro X hP hw hK hc i pins s σ H E I hf st hg;subst hP hw hK;obtain⟨f0,f1,f2,f3,J,f5⟩:=hf it (by simp)
  refine(Walks.range (prog:=X.prog) (w:=X.w) (I.ok.hd hc) it lo (-1) n).item i s _ _ hg st λv h' tk hv O kk=>?_;obtain⟨t,rfl⟩:=hv;have I1:Inv X pins σ H { s with heap:=h',toks:=tk }:=I.turned (λb o Y e=>kk b o (by simpa using Y) e) f0 f1 f3 J f5
  refine⟨_,Z,Od (s:={ s with heap:=h',toks:=tk }) (n:="range_iterator") O rfl rfl Yd ⟨.int (lo-i),H,I1,⟨t,?_⟩,⟨rfl,rfl⟩,O,λb Y=>(hf b Y).1⟩⟩
  rw[show lo+(i:Int) * -1=lo-i by lia]
 done:=by
  intro X hP hw hK hc i pins s σ H E I hf st hg;subst hP hw hK;obtain⟨f0,f1,f2,f3,J,f5⟩:=hf it (by simp)
  exact wpAny_pyNext_range_end (I.ok.hd hc) st (by have:n<=i:=hg;lia) λh' eb=>⟨Z,I.turned (t':=s.toks) (λb o Y e=>eb b o Y e) f0 f1 f3 J f5⟩
 self:=λ_ _ _ _ _ st h=>wpAny_pyIter_rangeiter st h
theorem M8(a b:Int):Builtin.Range.rangeSize a b (-1)=(((a-b).toNat:Nat):Int):=by
 unfold Builtin.Range.rangeSize;rw[if_neg Yd]
 split
 ·rw[show -(-1:Int)=1 by decide,Int.ediv_one];lia
 ·lia
section
variable {X:Cx}{tg:Expr}
def WN(ta:TA):TI:=λσ H R=>ta σ H λvs H1=>∃i j:Int,vs=[.int i,.int j,.int (-1)]/\(-1000000<=i/\i<=1000000 /\ -1000000<=j/\j<=1000000)/\R (Itd i (i-j).toNat) H1
theorem Q9(hg:Gl X "range")(hm:X.mg "range" = none)(ha:PA X [a,b,c] ta)(hs:fU [a,b,c] X.env=[(false,gu a X.env),(false,gu b X.env),(false,gu c X.env)]:=by rfl)
 (Y:fU [b,c] X.env=[(false,gu b X.env),(false,gu c X.env)]:=by rfl):PI X tg (.Call (.Name "range" p) [a,b,c] [] pos) (WN ta):=by
 intro pins s σ H R I h;refine Call_ (Ka I hg hm boot_range (PyProof.Rows.callWith_type1 (thn (ha pos pins s σ H _ I h) λus O ⟨vs,H1,I1,r1,q1⟩=>?_) (by rw[hs,Y]) (by rw[Y];rfl)))
 obtain⟨i,j,e,⟨q1,q2,q3,q4⟩,q⟩:=q1;subst e;cases r1 with
 | cons r rr =>
   cases rr with
   | cons r' rr =>
     cases rr with
     | cons r3 rr =>
       cases rr;obtain⟨t,rfl⟩:=r;obtain⟨t',rfl⟩:=r';obtain⟨t3,rfl⟩:=r3
       have sm:Builtin.Range.small i j (-1)=true:=by
        unfold Builtin.Range.small;rw[M8];simp only[Builtin.Range.rangeFitsLong,Bool.and_eq_true,Bool.or_eq_true,decide_eq_true_eq,beq_iff_eq];rw[if_neg Yd];simp only[Bool.and_eq_true,decide_eq_true_eq]
        lia
       refine call_range_3 Yd ?_ (.inl (PyProof.noPylong_small Yl));refine wpAny_pyIter_range (IsRange.new ..) sm ?_;have J:Inv X pins σ H1 { O with heap:=O.heap.push { cls:=.type "range",data:=.fields #[.int i t,.int j t',.int (-1) t3] },toks:=O.toks }:=I1.kept λb o e=>Heap.get?_push_of_some _ e
       refine⟨_,[_],_,_,H1,Z,J.kept (t':=O.toks) λb o e=>Heap.get?_push_of_some _ e,R4 _ i (i-j).toNat,?_,λb hb=>?_,q⟩
       ·show IsRangeIter _ _ (i+((0:Nat):Int)*(-1)) ((((i-j).toNat:Nat):Int)-((0:Nat):Int)) (-1);rw[show i+((0:Nat):Int)*(-1)=i by lia,show(((i-j).toNat:Nat):Int)-((0:Nat):Int)=Builtin.Range.rangeSize i j (-1) by rw[M8];lia]
        exact Heap.get?_push_size _ rfl
       ·have e:=cY.mp hb;subst e;exact J.fpOk (ZR _) (J.hok.fresh (ZR _))
end
theorem Oe{lo:Int}{n:Nat}{g:TG}{tb:TS}{D:IA}{σ:St}{H:Hp}(J:Nat->St->Hp->Prop)(h0:J 0 σ H)
 (hs:∀i σ H,i<n->J i σ H->g (.int (lo-i)) σ H λY H2=>tb { D with nx:=J (i+1),ct:=J (i+1),bk:=D.nx } Y H2) (hd:∀σ H,J n σ H->D.nx σ H) :
 ∃ W:Nat->Nat->St->Hp->Prop,(∃m,W 0 m σ H)/\∀i m σ H,W i m σ H ->
   ((Itd lo n).stop i H/\D.nx σ H)\/((Itd lo n).go i H/\∃N:St->Hp->Prop,(∀O H',N O H'->∃m',m'<m/\W (i+1) m' O H')/\∀x H',(Itd lo n).yld i H x H'->g x σ H' λY H2=>tb { D with nx:=N,ct:=N,bk:=D.nx } Y H2):=by
 refine⟨λi m σ H=>m=n-i/\i<=n/\J i σ H,⟨n,by simp,ZU _,h0⟩,?_⟩
 rintro i m σ H ⟨rfl,hi,p⟩;by_cases hlt:i<n
 ·refine .inr ⟨hlt,J (i+1),λO H' p'=>⟨n-(i+1),Yl,Z,hlt,p'⟩,λx H' y=>?_⟩;obtain⟨rfl,rfl⟩:=y;exact hs i σ _ hlt p
 ·have e:i=n:=by lia
  subst e;exact .inl ⟨ZR _,hd σ H p⟩
theorem HX{K:ZE}{a:ce}{js:kj}{xs:ko}{te:TE}{σ:St}{H:Hp}{O:ko->Hp->Prop}(Y:Nat->ko->Hp->Prop)(h0:Y 0 [] H)
 (hl:∀i zs H,i<=xs.length->Y i zs H->SqL K H a xs/\zs.length=i) (hz:xs.length<=dl)
 (hs:∀i x zs H,xs[i]? = some x->Y i zs H->te ((cS 1 js σ).set 0 (some x)) H λy H4=>Y (i+1) (zs++[y]) H4) (J:∀zs H',Y xs.length zs H'->O zs H') :
 ∃(n':Nat) (W:Nat->ko->Hp->Prop),W 0 [] H/\LcW (Itl K a) n' 1 js σ (HH 0) R5 te O W:=by
 refine⟨xs.length,Y,h0,⟨?_,?_,?_⟩⟩
 ·intro i zs H' hi p;obtain⟨h1,h2⟩:=hl i zs H' (ZH hi) p;exact⟨⟨xs,xs[i],h1,by simp[hi]⟩,Yl⟩
 ·rintro i zs H' x H1 hi p ⟨rfl,y⟩;exact hs i x zs _ (y xs (hl i zs _ (ZH hi) p).1) p
 ·intro zs H' p;obtain⟨h1,h2⟩:=hl _ zs H' (ZR _) p;exact⟨⟨xs,h1,ZR _⟩,Yl,J zs H' p⟩
theorem T7(xs:ko):IV xs none (some (-1))=xs.take (xs.length-1):=by
 unfold IV;have e1:HT.sIx xs.length 0 none=0:=rfl
 have Y:HT.sIx xs.length xs.length (some (-1))=xs.length-1:=by
  show(if (-1:Int)<0 then ((-1:Int)+(xs.length:Int)).toNat else min (-1:Int).toNat xs.length)=xs.length-1;rw[if_pos Yd]
  lia
 rw[e1,Y,dt,du]
theorem Bd.pow(h:Bd L b):∀n:Nat,Bd (L*n+1) (b ^ n)
 | 0=>by rw[dw];exact(by unfold Bd;decide:Bd 1 1).mono Yl
 | n+1=>by
   rw[dz];exact((Bd.pow h n).mul h).mono (by rw[dA];lia)
theorem Lq{lead:Int}{ts:ki}(i:Nat){t:Int}(h:ts[i]? = some t):(((ts.take i).map (lead * ·)).map V.int)++[V.int (lead*t)]=((ts.take (i+1)).map (lead * ·)).map V.int:=by
 rw[cL,h,cM,cM]
 rfl
theorem NM{s rest:TS}(O:St->Hp->Prop)(h:∀nx:St->Hp->Prop,(∀Y H',O Y H'->nx Y H')->s { D with nx:=nx } σ H)(k:∀Y H',O Y H'->rest D Y H'):RL s rest D σ H:=h _ k
theorem J1{t u rest:TS}(O:St->Hp->Prop)(h:∀nx:St->Hp->Prop,(∀Y H',O Y H'->nx Y H')->ON c t u { D with nx:=nx } (σ.set i (some v)) H)(k:∀Y H',O Y H'->rest D Y H'):HH i v σ H (RL (ON c t u) rest D):=h _ k
theorem Bd.neg(h:Bd n x):Bd n (-x):=by unfold Bd at *;rw[Int.natAbs_neg];exact h
theorem U3{a c b:Rat}(Y:b≠0)(h:a*b=c*b):a=c:=by
 have h2:a*b*b⁻¹=c*b*b⁻¹:=by rw[h]
 rw[dB,dB,dC _ Y,dD,dD]at h2;exact h2
theorem JO(Y:b≠0)(t:Int):cx t b*(b:Rat)=(t:Rat):=by
 rw[cB];exact cC (Nm.cast_ne Y)
theorem Nk(Y:b≠0)(x:Rat):∀ts:ki,Cv.ev (ts.map λt=>cx t b) x*(b:Rat)=Cv.evI ts x
 | []=>by show(0:Rat)*_=0;grind
 | t::ts=>by
   have ih:=Nk Y x ts;have e:=JO Y t;show(cx t b+x*Cv.ev (ts.map λt=>cx t b) x)*(b:Rat)=(t:Rat)+x*Cv.evI ts x;rw[<- ih,<- e]
   grind
theorem Nr{O:Type}{l:List O}{n i:Nat}{v:O}(J:l.length=n)(hi:i<n)(h:l[n-1-i]? = some v):l.drop (n-(i+1))=v::l.drop (n-i):=by
 have Y:n-(i+1)<l.length:=by rw[J];exact Nat.sub_lt (c5 (ZU _) hi) (Nat.succ_pos i)
 rw[List.drop_eq_getElem_cons Y,show n-(i+1)+1=n-i from Nat.succ_pred_eq_of_pos (Nat.sub_pos_of_lt hi)]
 congr 1
 have e:l[n-(i+1)]? = some v:=by rw[show n-(i+1)=n-1-i by rw[Nat.sub_sub,Nat.add_comm]];exact h
 rw[cZ Y]at e;exact Zu.inj e
theorem Mv.free(m:Mv a H H')(Y:l≠a)(h:H' l=none):H l=none:=by
 cases z:H l with
 | none=>rfl
 | some u=>rw[m l u Y z]at h;cases h
theorem Pen.put'(h:Pen H a)(Y:l≠a):Pen (upd H l o) a:=let ⟨x0,x1,x2,ex⟩:=h;⟨x0,x1,x2,by rw[EC (Ne.symm Y)];exact ex⟩
theorem Pen.ne'(h:Pen H a)(Y:H l=none):l≠a:=let ⟨_,_,_,ex⟩:=h;(Ez ex Y).symm
def Xk(K:ZE)(H:Hp)(x:V)(rs:kh):Prop:=∃a ys,x = .ref a/\SqL K H a ys/\ED K H ys rs
abbrev Rows(K:ZE)(H:Hp):ko->kg->Prop:=Paired (Xk K H)
section
variable {X:Cx}
@[irreducible] def OW(K:ZE)(neg:Bool):R2:=λx y H Q=>∃p ds d,y = .ref p/\Rds K H (.ref p) (.list ds)/\Rds K H x d/\SeqAt.shaped (.list ds)=true/\SeqAt.shaped d=true/\Q (.bl (if neg then !(ds.any λy=>PyData.eqv y d) else ds.any λy=>PyData.eqv y d)) H
theorem SK{K:ZE}{neg:Bool}{x y:V}{H:Hp}{Q:VK}(h:∃p ds d,y = .ref p/\Rds K H (.ref p) (.list ds)/\Rds K H x d/\SeqAt.shaped (.list ds)=true/\SeqAt.shaped d=true/\Q (.bl (if neg then !(ds.any λy=>PyData.eqv y d) else ds.any λy=>PyData.eqv y d)) H):OW K neg x y H Q:=by
 unfold OW;exact h
theorem inD(K:ZE)(Y:Gx k X.A)(e:X.K=K:=by rfl):OpR X (gy .In) (OW K false):=by
 subst e;intro pins s σ H x y v u Q I rx ry h;unfold OW at h;obtain⟨p,ds,d,rfl,r1,r2,h1,h2,q⟩:=h;cases ry;obtain⟨as,J⟩:=Hb I r1 (u:=.ref p) rfl;obtain⟨bs,O⟩:=Hb I r2 rx;exact SeqAt.in_list_reads J O (SeqAt.canLay_of_shaped h1) (SeqAt.canLay_of_shaped h2) (PyProof.Rows.room_in_shaped h2 (by have:=Y.un;lia)) ⟨.bl _,H,I,Z,q⟩
theorem Sx(K:ZE)(Y:Gx k X.A)(e:X.K=K:=by rfl):OpR X (gy .NotIn) (OW K true):=by
 subst e;intro pins s σ H x y v u Q I rx ry h;unfold OW at h;obtain⟨p,ds,d,rfl,r1,r2,h1,h2,q⟩:=h;cases ry;obtain⟨as,J⟩:=Hb I r1 (u:=.ref p) rfl;obtain⟨bs,O⟩:=Hb I r2 rx;exact SeqAt.notIn_list_reads J O (SeqAt.canLay_of_shaped h1) (SeqAt.canLay_of_shaped h2) (PyProof.Rows.room_in_shaped h2 (by have:=Y.un;lia)) ⟨.bl _,H,I,Z,q⟩
end
theorem Tq(q:Rat):∀qs:kh,((qs.map nD).any λy=>PyData.eqv y (nD q))=decide (q∈qs)
 | []=>by simp
 | c::r=>by
   rw[bZ,c8,Pd,Tq q r,Bool.eq_iff_iff];simp only[Bool.or_eq_true,decide_eq_true_eq,ZL]
   constructor
   ·rintro(h | h)
    ·exact .inl h.symm
    ·exact .inr h
   ·rintro(h | h)
    ·exact .inl h.symm
    ·exact .inr h
theorem inN{K:ZE}{H:Hp}{x:V}{a:ce}{xs:ko}{q:Rat}{qs:kh}{Q:VK}{neg:Bool}(h1:Et K H x q)(Y:SqL K H a xs)(O:ED K H xs qs)(h:Q (.bl (if neg then !decide (q∈qs) else decide (q∈qs))) H):OW K neg x (.ref a) H Q :=
 SK ⟨a,_,_,Z,O.rdsL Y,h1.rds,Qg _,K9 _,by rw[Tq];exact h⟩
structure Kw where
 x:Rat
 k:Int
 n:Rat
deriving DecidableEq
section
variable {X:Cx}{e:Expr}{te:TE}
end
end L2
namespace L2
def Fe:kh->kh->kh
 | [],m=>m
 | a::l,[]=>a::l
 | a::l,b::m=>(a+b)::Fe l m
theorem OB(l:kh):Fe l []=l:=by cases l<;>rfl
theorem FK(x:Rat):∀l m,Cv.ev (Fe l m) x=Cv.ev l x+Cv.ev m x
 | [],m=>by show _=0+_;grind [Fe]
 | a::l,[]=>by show _=_+0;rw[Fe];grind
 | a::l,b::m=>by
   have ih:=FK x l m;show(a+b)+x*Cv.ev (Fe l m) x=(a+x*Cv.ev l x)+(b+x*Cv.ev m x);rw[ih];grind
theorem Hi:∀l m,(Fe l m).length=max l.length m.length
 | [],m=>by show m.length=max 0 m.length;lia
 | a::l,[]=>by show l.length+1=max (l.length+1) 0;lia
 | a::l,b::m=>by
   have ih:=Hi l m;show(Fe l m).length+1=max (l.length+1) (m.length+1)
   lia
theorem OC:∀(l m:kh) (i:Nat),l.length<=i->(Fe l m)[i]? = m[i]?
 | [],m,i,_=>rfl
 | a::l,[],i,h=>by rw[OB,dE h];rfl
 | a::l,b::m,0,h=>by simp at h
 | a::l,b::m,i+1,h=>by
   have ih:=OC l m i (by simpa using h)
   show(Fe l m)[i]? = m[i]?;exact ih
def Fm:kh->kh->kh
 | [],_=>[]
 | a::l,m=>Fe (m.map (· * a)) (0::Fm l m)
theorem Ey(x:Rat)(m:kh):∀l,Cv.ev (Fm l m) x=Cv.ev l x*Cv.ev m x
 | []=>by show(0:Rat)=0*_;grind
 | a::l=>by
   have ih:=Ey x m l;show Cv.ev (Fe (m.map (· * a)) (0::Fm l m)) x=(a+x*Cv.ev l x)*_;rw[FK,Cv.ev_scale];show _+(0+x*Cv.ev (Fm l m) x)=_;rw[ih];grind
theorem FV(m:kh)(Y:1<=m.length):∀l,1<=l.length->(Fm l m).length=l.length+m.length-1
 | [],h=>by simp at h
 | [a],_=>by
   show(Fe (m.map (· * a)) [0]).length=1+m.length-1;rw[Hi,bI];show max m.length 1=_
   lia
 | a::b::l,_=>by
   have ih:=FV m Y (b::l) (by simp)
   show(Fe (m.map (· * a)) (0::Fm (b::l) m)).length=l.length+1+1+m.length-1;rw[Hi,bI];show max m.length ((Fm (b::l) m).length+1)=_;rw[ih];show max m.length (l.length+1+m.length-1+1)=_
   lia
theorem Ih(m:kh)(u:Rat)(O:m[m.length-1]? = some u):∀(l:kh) (v:Rat),l[l.length-1]? = some v->(Fm l m)[l.length+m.length-2]? = some (u*v)
 | [],v,h=>by simp at h
 | [a],v,h=>by
   have hm:m.length-1<m.length:=(ZO.mp O).1;have e:a=v:=by simpa using h
   subst e;show(Fe (m.map (· * a)) [0])[1+m.length-2]? = _;cases m with
   | nil=>simp at hm
   | cons b m' =>
     rw[show 1+(b::m').length-2=m'.length by simp only[ck];lia]
     have Y:(b::m')[m'.length]? = some u:=O;cases m' with
     | nil =>
       have e:b=u:=by simpa using Y
       subst e;show some (b*a+0)=some (b*a)
       congr 1;grind
     | cons c m'' =>
       show(Fe ((c::m'').map (· * a)) [])[m''.length]? = _;rw[OB,bA];have J:(c::m'')[m''.length]? = some u:=Y;rw[J];rfl
 | a::b::l,v,h=>by
   have hm:m.length-1<m.length:=(ZO.mp O).1;have ih:=Ih m u O (b::l) v h;show(Fe (m.map (· * a)) (0::Fm (b::l) m))[l.length+1+1+m.length-2]? = _;rw[OC _ _ _ (by rw[bI];lia)]
   rw[show l.length+1+1+m.length-2=(l.length+1+m.length-2)+1 by lia]
   exact ih
theorem HG(hl:EI l)(hm:EI m)(Y:l≠[])(nm:m≠[]):EI (Fm l m):=by
 rcases hl with h | ⟨v,hv,v0⟩
 ·exact absurd h Y
 rcases hm with h | ⟨u,J,u0⟩
 ·exact absurd h nm
 have O:1<=l.length:=cI.mpr Y;have m1:1<=m.length:=cI.mpr nm;refine .inr ⟨u*v,?_,λz=>?_⟩
 ·rw[FV m m1 l O,show l.length+m.length-1-1=l.length+m.length-2 by lia]
  exact Ih m u J l v hv
 ·rcases cP.mp z with z | z
  ·exact u0 z
  ·exact v0 z
theorem Qw(Y:EI m)(aa:l.length<=m.length)(h:∀x,Cv.ev l x=Cv.ev m x):l=m:=by
 have e:l++b6 (m.length-l.length) 0=m:=by
  refine Cv.same_of _ _ (by rw[bH,bJ];lia) λx=>?_
  rw[<- Cv.ev_strip,Cv.strip_zeros,Cv.ev_strip];exact h x
 by_cases hlt:l.length<m.length
 ·rcases Y with Y | ⟨q,O,J⟩
  ·rw[Y]at hlt;simp at hlt
  ·exfalso;rw[<- e,bH,bJ,bj Yl,bq,if_pos Yl]at O;exact J (Zu.inj O).symm
 ·rw[show m.length-l.length=0 by lia,List.replicate_zero,ZY]at e
  exact e
theorem EO(Y:EI l)(O:EI m)(h:∀x,Cv.ev l x=Cv.ev m x):l=m:=by
 by_cases hle:l.length<=m.length
 ·exact Qw O hle h
 ·exact(Qw Y Yl λx=>(h x).symm).symm
theorem Nt(hp:EI ps)(np:ps≠[])(ho:EI os)(ac:EI Y)(hr:EI rs)(O:EI rs')(l:rs.length<ps.length)(l':rs'.length<ps.length)
 (h:∀x,Cv.ev os x*Cv.ev ps x+Cv.ev rs x=Cv.ev Y x*Cv.ev ps x+Cv.ev rs' x):os=Y/\rs=rs':=by
 have aa:Cv.strip (Fe os (Y.map (· * (-1))))=[]:=by
  by_cases hD:Cv.strip (Fe os (Y.map (· * (-1))))=[]
  ·exact hD
  exfalso;have gD:=EL (Fe os (Y.map (· * (-1))));have gM:=HG gD hp hD np;have gE:=EL (Fe rs' (rs.map (· * (-1))))
  have e:=EO gM gE λx=>by
   rw[Ey,Cv.ev_strip,Cv.ev_strip,FK,FK,Cv.ev_scale,Cv.ev_scale];have:=h x
   grind
  have p1:1<=ps.length:=cI.mpr np;have d1:1<=(Cv.strip (Fe os (Y.map (· * (-1))))).length:=cI.mpr hD;have J:=FV ps p1 _ d1;rw[e]at J;have le:=Cv.strip_length (Fe rs' (rs.map (· * (-1))));rw[Hi,bI]at le
  lia
 have eo:os=Y:=EO ho ac λx=>by
  have z:Cv.ev (Cv.strip (Fe os (Y.map (· * (-1))))) x=0:=by rw[aa];rfl
  rw[Cv.ev_strip,FK,Cv.ev_scale]at z
  grind
 subst eo;refine⟨Z,EO hr O λx=>?_⟩;have:=h x
 grind
open PySem PySem.Spec PyProof.Rows
theorem VM{K:ZE}{a:ce}{js:kj}{xs:ko}{te:TE}{σ:St}{H:Hp}{O:ko->Hp->Prop}(Y:Nat->ko->Hp->Prop)(h0:Y 0 [] H)
 (hl:∀i zs H,i<=xs.length->Y i zs H->SqT K H a xs/\zs.length=i) (hz:xs.length<=dl)
 (hs:∀i x zs H,xs[i]? = some x->Y i zs H->te ((cS 1 js σ).set 0 (some x)) H λy H4=>Y (i+1) (zs++[y]) H4) (J:∀zs H',Y xs.length zs H'->O zs H') :
 ∃(n':Nat) (W:Nat->ko->Hp->Prop),W 0 [] H/\LcW (Itt K a) n' 1 js σ (HH 0) R5 te O W:=by
 refine⟨xs.length,Y,h0,⟨?_,?_,?_⟩⟩
 ·intro i zs H' hi p;obtain⟨h1,h2⟩:=hl i zs H' (ZH hi) p;exact⟨⟨xs,xs[i],h1,by simp[hi]⟩,Yl⟩
 ·rintro i zs H' x H1 hi p ⟨rfl,y⟩;exact hs i x zs _ (y xs (hl i zs _ (ZH hi) p).1) p
 ·intro zs H' p;obtain⟨h1,h2⟩:=hl _ zs H' (ZR _) p;exact⟨⟨xs,h1,ZR _⟩,Yl,J zs H' p⟩
end L2
namespace L2
def ch:Nat->Nat->Nat
 | _,0=>1
 | 0,_+1=>0
 | n+1,k+1=>ch n k+ch n (k+1)
theorem HU(n:Nat):ch n 0=1:=by cases n<;>rfl
theorem KG:∀n k,(k+1)*ch n (k+1)+k*ch n k=n*ch n k
 | 0,0=>rfl
 | 0,k+1=>by show(k+2)*0+(k+1)*0=0*0;lia
 | n+1,0=>by
   have ih:=KG n 0;rw[show ch (n+1) (0+1)=ch n 0+ch n (0+1) from rfl,HU,HU];rw[HU]at ih
   lia
 | n+1,k+1=>by
   have Y:=KG n (k+1);have O:=KG n k;show(k+1+1)*(ch n (k+1)+ch n (k+1+1))+(k+1)*(ch n k+ch n (k+1))=(n+1)*(ch n k+ch n (k+1));generalize ch n k=a at *;generalize ch n (k+1)=b at *;generalize ch n (k+1+1)=c at *;simp only[dg,dA,dh]at *
   lia
theorem Lv:∀n k,k<=n->0<ch n k
 | n,0,_=>by rw[HU];decide
 | 0,k+1,h=>by lia
 | n+1,k+1,h=>by
   have:=Lv n k Yl;show 0<ch n k+ch n (k+1)
   lia
theorem Nw:∀n k,n<k->ch n k=0
 | n,0,h=>by lia
 | 0,k+1,_=>rfl
 | n+1,k+1,h=>by
   have h1:=Nw n k Yl;have h2:=Nw n (k+1) Yl;show ch n k+ch n (k+1)=0
   lia
theorem UA(hk:k<=n):(((ch n k:Nat):Int)*((n:Int)-(k:Int))).fdiv ((k:Int)+1)=((ch n (k+1):Nat):Int):=by
 have h:=KG n k
 have h2:ch n k*(n-k)=ch n (k+1)*(k+1):=by
  rw[Nat.mul_sub];have e1:ch n k*n=n*ch n k:=bY _ _;have O:ch n k*k=k*ch n k:=bY _ _;have J:ch n (k+1)*(k+1)=(k+1)*ch n (k+1):=bY _ _
  lia
 have Y:((ch n k:Nat):Int)*((n:Int)-(k:Int))=((ch n (k+1):Nat):Int)*((k:Int)+1):=by
  have:=congrArg (λz:Nat=>(z:Int)) h2;simp only[Int.natCast_mul]at this;rw[show((n-k:Nat):Int)=(n:Int)-(k:Int) by lia]at this
  rw[this];rfl
 rw[Y];exact Int.mul_fdiv_cancel _ Yl
theorem QL:∀n k,ch n k<=2 ^ n
 | n,0=>by rw[HU];exact dF
 | 0,k+1=>ZU _
 | n+1,k+1=>by
   have h1:=QL n k;have h2:=QL n (k+1);show ch n k+ch n (k+1)<=2 ^ (n+1);rw[d9];lia
def An:Nat->(Nat->Rat)->Nat->Rat
 | 0,f,i=>f i
 | k+1,f,i=>An k f i+An k f (i+1)
def Cn(t:Rat):Nat->(Nat->Rat)->Nat->Rat
 | 0,f,i=>f i
 | k+1,f,i=>Cn t k f i*(1-t)+Cn t k f (i+1)*t
def Bn(t:Rat):Nat->(Nat->Rat)->Nat->Rat
 | 0,f,i=>f i
 | k+1,f,i=>Bn t k f i+t*Bn t k f (i+1)
theorem PF(t:Rat)(f:Nat->Rat):∀k n,An k (λm=>f m+t*f (m+1)) n=An k f n+t*An k f (n+1)
 | 0,_=>rfl
 | k+1,n=>by
   show An k _ n+An k _ (n+1)=(An k f n+An k f (n+1))+t*(An k f (n+1)+An k f (n+1+1));rw[PF t f k n,PF t f k (n+1)]
   grind
theorem JG(t:Rat)(f:Nat->Rat):∀k i,Cn t k (λj=>An j f 0) i=An i (λm=>Bn t k f m) 0
 | 0,_=>rfl
 | k+1,i=>by
   show Cn t k _ i*(1-t)+Cn t k _ (i+1)*t=An i (λm=>Bn t k f m+t*Bn t k f (m+1)) 0;rw[JG t f k i,JG t f k (i+1),PF t (λm=>Bn t k f m) i 0];show An i _ 0*(1-t)+(An i (λm=>Bn t k f m) 0+An i (λm=>Bn t k f m) (0+1))*t=_
   grind
def evF(f:Nat->Rat)(t:Rat):Nat->Rat
 | 0=>0
 | k+1=>evF f t k+f k*t ^ k
theorem IU(f:Nat->Rat)(t:Rat):∀k,evF f t (k+1)=f 0+t*evF (λi=>f (i+1)) t k
 | 0=>by show 0+f 0*t ^ 0=f 0+t*0;rw[cG];grind
 | k+1=>by
   have ih:=IU f t k;show evF f t (k+1)+f (k+1)*t ^ (k+1)=f 0+t*(evF (λi=>f (i+1)) t k+f (k+1)*t ^ k);rw[ih,cH]
   grind
theorem QC(f g:Nat->Rat)(t:Rat):∀k,evF (λi=>f i+g i) t k=evF f t k+evF g t k
 | 0=>by show(0:Rat)=0+0;grind
 | k+1=>by
   show evF _ t k+(f k+g k)*t ^ k=(evF f t k+f k*t ^ k)+(evF g t k+g k*t ^ k);rw[QC f g t k];grind
theorem GX(t:Rat):∀k,(∀i,i<k->f i=g i)->evF f t k=evF g t k
 | 0,_=>rfl
 | k+1,h=>by
   show evF f t k+f k*t ^ k=evF g t k+g k*t ^ k;rw[GX t k λi hi=>h i Yl,h k Yl]
theorem W2(t:Rat):∀l:kh,Cv.ev l t=evF (λi=>l.getD i 0) t l.length
 | []=>rfl
 | a::l=>by
   show a+t*Cv.ev l t=evF _ t (l.length+1);rw[IU,W2 t l]
   rfl
theorem MC(t:Rat)(f:Nat->Rat):∀n m,Bn t n f m=evF (λi=>((ch n i:Nat):Rat)*f (m+i)) t (n+1)
 | 0,m=>by
   show f m=0+((1:Nat):Rat)*f (m+0)*t ^ 0;have z:((1:Nat):Rat)=1:=rfl;rw[cG,Nat.add_zero,z];grind
 | n+1,m=>by
   have h1:=MC t f n m;have h2:=MC t f n (m+1);have z:((1:Nat):Rat)=1:=rfl;show Bn t n f m+t*Bn t n f (m+1)=_
   have e1:evF (λi=>((ch n i:Nat):Rat)*f (m+i)) t (n+1)=evF (λi=>((ch n i:Nat):Rat)*f (m+i)) t (n+1+1):=by
    show _=evF (λi=>((ch n i:Nat):Rat)*f (m+i)) t (n+1)+((ch n (n+1):Nat):Rat)*f (m+(n+1))*t ^ (n+1);rw[Nw n (n+1) Yl];have z0:((0:Nat):Rat)=0:=rfl;rw[z0];grind
   rw[e1,IU]at h1;rw[IU (λi=>((ch (n+1) i:Nat):Rat)*f (m+i))]
   have Y:evF (λi=>((ch (n+1) (i+1):Nat):Rat)*f (m+(i+1))) t (n+1)=evF (λi=>((ch n i:Nat):Rat)*f (m+1+i)) t (n+1)+evF (λi=>((ch n (i+1):Nat):Rat)*f (m+(i+1))) t (n+1):=by
    rw[<- QC];refine GX t _ λi _=>?_;show((ch n i+ch n (i+1):Nat):Rat)*f (m+(i+1))=_;rw[dG,show m+1+i=m+(i+1) by lia]
    grind
   rw[Y,h1,h2,HU,HU]
   grind
def aI(l:ki):ki:=(Zz (l.length-1)).map λj=>l.getD j 0+l.getD (j+1) 0
def aIN:Nat->ki->ki
 | 0,l=>l
 | n+1,l=>aI (aIN n l)
def aQ(l:kh):kh:=(Zz (l.length-1)).map λj=>l.getD j 0+l.getD (j+1) 0
def aQN:Nat->kh->kh
 | 0,l=>l
 | n+1,l=>aQ (aQN n l)
def cQ(t:Rat)(l:kh):kh:=(Zz (l.length-1)).map λj=>l.getD j 0*(1-t)+l.getD (j+1) 0*t
def cQN(t:Rat):Nat->kh->kh
 | 0,l=>l
 | n+1,l=>cQ t (cQN t n l)
theorem J8(l:ki):∀n,(aIN n l).length=l.length-n
 | 0=>rfl
 | n+1=>by
   show(aI (aIN n l)).length=_;unfold aI;rw[bI,dH,J8 l n];lia
theorem Mz(l:kh):∀n,(aQN n l).length=l.length-n
 | 0=>rfl
 | n+1=>by
   show(aQ (aQN n l)).length=_;unfold aQ;rw[bI,dH,Mz l n];lia
theorem Ms(t:Rat)(l:kh):∀n,(cQN t n l).length=l.length-n
 | 0=>rfl
 | n+1=>by
   show(cQ t (cQN t n l)).length=_;unfold cQ;rw[bI,dH,Ms t l n];lia
theorem QT(l:kh):∀k j,j+k<l.length->(aQN k l).getD j 0=An k (λn=>l.getD n 0) j
 | 0,_,_=>rfl
 | k+1,j,h=>by
   have h1:=QT l k (j+1) Yl;have Y:=QT l k j Yl;show(aQ (aQN k l)).getD j 0=An k _ j+An k _ (j+1);rw[<- h1,<- Y];have O:=Mz l k;unfold aQ;rw[cU,bA,dI Yl]
   rfl
theorem QN(t:Rat)(l:kh):∀k j,j+k<l.length->(cQN t k l).getD j 0=Cn t k (λn=>l.getD n 0) j
 | 0,_,_=>rfl
 | k+1,j,h=>by
   have h1:=QN t l k (j+1) Yl;have Y:=QN t l k j Yl;show(cQ t (cQN t k l)).getD j 0=Cn t k _ j*(1-t)+Cn t k _ (j+1)*t;rw[<- h1,<- Y];have O:=Ms t l k;unfold cQ;rw[cU,bA,dI Yl]
   rfl
theorem GO(t:Rat):∀k n,(∀j,j<=k->f (n+j)=g (n+j))->Cn t k f n=Cn t k g n
 | 0,n,h=>h 0 (ZR _)
 | k+1,n,h=>by
   show Cn t k f n*(1-t)+Cn t k f (n+1)*t=Cn t k g n*(1-t)+Cn t k g (n+1)*t
   rw[GO t (f:=f) (g:=g) k (n+1) λj hj=>by
    have:=h (j+1) Yl;rw[show n+1+j=n+(j+1) by lia];exact this,
    GO t (f:=f) (g:=g) k n λj hj=>h j Yl]
def Gm(al:kh):kh:=(Zz al.length).map λk=>al.getD k 0 / ((ch (al.length-1) k:Nat):Rat)
def Lr(al:kh):kh:=(Zz al.length).map λj=>(aQN j (Gm al)).getD 0 0
theorem IT(Y:kh):(Lr Y).length=Y.length:=by unfold Lr;rw[bI,dH]
theorem HW(Y:kh):(Gm Y).length=Y.length:=by unfold Gm;rw[bI,dH]
theorem SF(Y:kh)(h1:1<=Y.length)(t:Rat):(cQN t (Y.length-1) (Lr Y)).getD 0 0=Cv.ev Y t:=by
 rw[QN t _ _ _ (by rw[IT];lia)]
 have e:Cn t (Y.length-1) (λn=>(Lr Y).getD n 0) 0=Cn t (Y.length-1) (λj=>An j (λn=>(Gm Y).getD n 0) 0) 0:=by
  refine GO t _ _ λj J=>?_;show(Lr Y).getD (0+j) 0=An (0+j) _ 0;rw[dJ,<- QT _ _ _ (by rw[HW];lia)]
  unfold Lr;rw[cU,bA,dI Yl]
  rfl
 rw[e,JG];show Bn t (Y.length-1) (λn=>(Gm Y).getD n 0) 0=_;rw[MC,W2,show Y.length-1+1=Y.length by lia]
 refine GX t _ λi hi=>?_;show((ch (Y.length-1) i:Nat):Rat)*(Gm Y).getD (0+i) 0=Y.getD i 0
 have g:(Gm Y).getD (0+i) 0=Y.getD i 0 / ((ch (Y.length-1) i:Nat):Rat):=by
  unfold Gm;rw[dJ,cU,bA,dI hi]
  rfl
 have O:((ch (Y.length-1) i:Nat):Rat)≠0:=λz=>by
  have hp:=Lv (Y.length-1) i Yl;have:ch (Y.length-1) i=0:=by exact_mod_cast z
  lia
 rw[g,dM];exact cC O
def goL(a b:Rat):Rat->kh->kh
 | p,[]=>[a*p]
 | p,c::r=>(a*p+b*c)::goL a b c r
def GF(a b:Rat):kh->kh
 | []=>[]
 | q::r=>match GF a b r with
   | []=>[q]
   | c::s=>(q+b*c)::goL a b c s
theorem UZ(a b x:Rat):∀(l:kh) (p:Rat),Cv.ev (goL a b p l) x=a*p+(a*x+b)*Cv.ev l x
 | [],p=>by show a*p+x*0=a*p+(a*x+b)*0;grind
 | c::r,p=>by
   show(a*p+b*c)+x*Cv.ev (goL a b c r) x=a*p+(a*x+b)*(c+x*Cv.ev r x);rw[UZ a b x r c];grind
theorem Kc(a b:Rat):∀(l:kh) (p:Rat),(goL a b p l).length=l.length+1
 | [],_=>rfl
 | c::r,p=>by show(goL a b c r).length+1=r.length+1+1;rw[Kc a b r c]
theorem Qx(a b:Rat):∀(l:kh) (p u:Rat),(p::l)[l.length]? = some u->(goL a b p l)[l.length]? = some (a*u)
 | [],p,u,h=>by
   have e:p=u:=by simpa using h
   subst e;rfl
 | c::r,p,u,h=>Qx a b r c u h
theorem JN(a b x:Rat):∀l,Cv.ev (GF a b l) x=Cv.ev l (a*x+b)
 | []=>rfl
 | q::r=>by
   have ih:=JN a b x r;show Cv.ev (match GF a b r with | []=>[q] | c::s=>(q+b*c)::goL a b c s) x=q+(a*x+b)*Cv.ev r (a*x+b)
   rw[<- ih];cases GF a b r with
   | nil=>show q+x*0=q+(a*x+b)*0;grind
   | cons c s =>
     show(q+b*c)+x*Cv.ev (goL a b c s) x=q+(a*x+b)*(c+x*Cv.ev s x);rw[UZ];grind
theorem GD(a b:Rat):∀l,(GF a b l).length=l.length
 | []=>rfl
 | q::r=>by
   have ih:=GD a b r;show(match GF a b r with | []=>[q] | c::s=>(q+b*c)::goL a b c s).length=r.length+1
   rw[<- ih];cases GF a b r with
   | nil=>rfl
   | cons c s=>show(goL a b c s).length+1=s.length+1+1;rw[Kc]
theorem Mq(ha:a≠0):∀{l},EI l->EI (GF a b l)
 | [],_=>.inl rfl
 | [q],h=>h
 | q::p::r,h=>by
   have g:EI (p::r):=by
    rcases h with h | ⟨u,J,u0⟩
    ·cases h
    ·exact .inr ⟨u,J,u0⟩
   have O:=Mq (b:=b) ha g;have Y:=GD a b (p::r);show EI (match GF a b (p::r) with | []=>[q] | c::s=>(q+b*c)::goL a b c s)
   cases e:GF a b (p::r) with
   | nil=>rw[e]at Y;simp at Y
   | cons c s =>
     rw[e]at O
     rcases O with O | ⟨u,J,u0⟩
     ·cases O
     ·refine .inr ⟨a*u,?_,λz=>?_⟩
      ·show((q+b*c)::goL a b c s)[(goL a b c s).length+1-1]? = _;rw[Kc];exact Qx a b s c u J
      ·rcases cP.mp z with z | z
       ·exact ha z
       ·exact u0 z
def hts(cs:kh)(lo hi:Rat):kh:=if cs=[] then [0] else Lr (GF (hi-lo) lo cs)
theorem Rr(cs:kh)(lo hi t:Rat):(cQN t ((hts cs lo hi).length-1) (hts cs lo hi)).getD 0 0=Cv.ev cs (lo+(hi-lo)*t):=by
 unfold hts;by_cases h:cs=[]
 ·rw[if_pos h,h];rfl
 ·rw[if_neg h,IT,SF _ (by rw[GD];exact cI.mpr h),JN]
  congr 1;grind
theorem FH(cs:kh)(lo hi:Rat):(hts cs lo hi).length=max 1 cs.length:=by
 unfold hts;by_cases h:cs=[]
 ·rw[if_pos h,h];rfl
 ·rw[if_neg h,IT,GD];have:=cI.mpr h
  lia
end L2
namespace L2
def sd:kh->kh
 | []=>[]
 | [_]=>[]
 | _::p::r=>Fe (0::sd (p::r)) (GF 1 1 (p::r))
theorem RA(n:Nat):((n+1:Nat):Rat)=((n:Nat):Rat)+1:=by rw[dG];rfl
def nw(c:Nat->Rat)(x:Rat):Nat->Nat->Rat
 | _,0=>0
 | j,n+1=>c j+(x-((j:Nat):Rat))*nw c x (j+1) n
end L2
namespace L2
open PySem PySem.Spec PyProof.Rows PySem.SeqAt
theorem Ob:∀{O:ki} {Y:List cr},EN (O.map V.int) Y->IntsAre Y O
 | [],_,.nil=>.nil
 | n::O,_,.cons r rs=>by
   obtain⟨t,rfl⟩:=r;exact .cons n t (Ob rs)
end L2
namespace L2
def dL:kh->kh
 | []=>[]
 | _::r=>Fe r (0::dL r)
theorem Mn(q:Rat)(r:kh)(x:Rat):Cv.ev (dL (q::r)) x=Cv.ev r x+x*Cv.ev (dL r) x:=by
 show Cv.ev (Fe r (0::dL r)) x=_;rw[FK];show _+(0+x*Cv.ev (dL r) x)=_
 grind
def wL(l:kh)(c:Nat):kh:=(Zz l.length).map λj=>l.getD j 0*((j+c:Nat):Rat)
theorem TJ(a:Rat)(r:kh)(c:Nat):wL (a::r) c=a*((c:Nat):Rat)::wL r (c+1):=by
 unfold wL;show(Zz (r.length+1)).map _=_;rw[List.range_succ_eq_map,bZ,dN];refine congr (congrArg List.cons ?_) ?_
 ·show a*((0+c:Nat):Rat)=_;rw[dJ]
 ·refine dO λj _=>?_;show r.getD j 0*((j+1+c:Nat):Rat)=r.getD j 0*((j+(c+1):Nat):Rat);rw[show j+1+c=j+(c+1) by lia]
theorem UY(x:Rat):∀(l:kh) (c:Nat),Cv.ev (wL l c) x=((c:Nat):Rat)*Cv.ev l x+x*Cv.ev (dL l) x
 | [],c=>by show(0:Rat)=_*0+x*0;grind
 | a::r,c=>by
   rw[TJ,Mn];show a*((c:Nat):Rat)+x*Cv.ev (wL r (c+1)) x=((c:Nat):Rat)*(a+x*Cv.ev r x)+_;rw[UY x r (c+1),RA]
   grind
theorem FL(x:Rat):∀l:kh,Cv.ev ((Zz (l.length-1)).map λj=>l.getD (j+1) 0*((j+1:Nat):Rat)) x=Cv.ev (dL l) x
 | []=>rfl
 | q::r=>by
   rw[Mn];have h:=UY x r 1;have e:((1:Nat):Rat)=1:=rfl;rw[e,dP]at h;rw[<- h]
   rfl
def ty(x:Rat):kh->kh
 | []=>[]
 | q::r=>Fe (q::ty x r) ((ty x r).map (· * x))
theorem Mm(x h:Rat):∀l,Cv.ev (ty x l) h=Cv.ev l (x+h)
 | []=>rfl
 | q::r=>by
   have ih:=Mm x h r;show Cv.ev (Fe (q::ty x r) ((ty x r).map (· * x))) h=q+(x+h)*Cv.ev r (x+h);rw[FK,Cv.ev_scale];show(q+h*Cv.ev (ty x r) h)+_=_;rw[ih];grind
theorem FE:∀(l m:kh) (k:Nat),(Fe l m).getD k 0=l.getD k 0+m.getD k 0
 | [],m,k=>by show m.getD k 0=0+m.getD k 0;grind
 | a::l,[],k=>by show(a::l).getD k 0=(a::l).getD k 0+0;grind
 | a::l,b::m,0=>rfl
 | a::l,b::m,k+1=>FE l m k
theorem Fp(y:Rat)(l:kh)(k:Nat):(l.map (· * y)).getD k 0=l.getD k 0*y:=by
 rw[cU,cU,bA];cases l[k]? with
 | none=>show(0:Rat)=0*y;grind
 | some t=>rfl
theorem Kx(x:Rat):∀l,(ty x l).getD 0 0=Cv.ev l x
 | []=>rfl
 | q::r=>by
   have ih:=Kx x r;show(Fe (q::ty x r) ((ty x r).map (· * x))).getD 0 0=q+x*Cv.ev r x;rw[FE,Fp,ih];show q+_=_
   grind
theorem JV(x:Rat):∀l,(ty x l).getD 1 0=Cv.ev (dL l) x
 | []=>rfl
 | q::r=>by
   have ih:=JV x r;have Y:=Kx x r;rw[Mn];show(Fe (q::ty x r) ((ty x r).map (· * x))).getD 1 0=_;rw[FE,Fp,ih];show(ty x r).getD 0 0+_=_;rw[Y];grind
theorem HJ(h:∀k:Nat,Cv.ev l ((k:Nat):Rat)=Cv.ev m ((k:Nat):Rat))(k:Nat):l.getD k 0=m.getD k 0:=by
 have z:=Cv.ident _ (Fe l (m.map (· * (-1)))) (ZR _) 0 λk _=>by
  rw[FK,Cv.ev_scale,h k];grind
 have e:(Fe l (m.map (· * (-1)))).getD k 0=0:=by
  rw[cU];cases q:(Fe l (m.map (· * (-1))))[k]? with
  | none=>rfl
  | some t=>exact z t (bD q)
 rw[FE,Fp]at e
 grind
theorem R8(h:∀x,Cv.ev l x=Cv.ev m x)(x:Rat):Cv.ev (dL l) x=Cv.ev (dL m) x:=by
 rw[<- JV,<- JV];exact HJ (λk=>by rw[Mm,Mm,h]) 1
theorem Rv(a b:kh):(Fm a b).getD 0 0=a.getD 0 0*b.getD 0 0:=by
 cases a with
 | nil=>show(0:Rat)=0*_;grind
 | cons a l =>
   show(Fe (b.map (· * a)) (0::Fm l b)).getD 0 0=a*_;rw[FE,Fp];show _+0=_
   grind
theorem Ru(a b:kh):(Fm a b).getD 1 0=a.getD 0 0*b.getD 1 0+a.getD 1 0*b.getD 0 0:=by
 cases a with
 | nil=>show(0:Rat)=0*_+0*_;grind
 | cons a l =>
   show(Fe (b.map (· * a)) (0::Fm l b)).getD 1 0=a*_+l.getD 0 0*_;rw[FE,Fp];show _+(Fm l b).getD 0 0=_;rw[Rv];grind
theorem K3(h:∀x,Cv.ev l x=Cv.ev a x*Cv.ev b x)(x:Rat):Cv.ev (dL l) x=Cv.ev a x*Cv.ev (dL b) x+Cv.ev (dL a) x*Cv.ev b x:=by
 rw[<- JV,<- JV,<- JV,<- Kx,<- Kx,<- Ru];exact HJ (λk=>by rw[Mm,Ey,Mm,Mm,h]) 1
theorem NL(c x:Rat):Cv.ev (dL [c]) x=0:=by
 rw[Mn];show(0:Rat)+x*0=0;grind
theorem OT(c d x:Rat):Cv.ev (dL [c,d]) x=d:=by
 rw[Mn,Mn];show(d+x*0)+x*(0+x*0)=d;grind
def quo(c:Rat):kh->kh
 | []=>[]
 | _::r=>Fe r ((quo c r).map (· * c))
theorem KZ(c x:Rat):∀l,Cv.ev l x=Cv.ev l c+(x-c)*Cv.ev (quo c l) x
 | []=>by show(0:Rat)=0+_*0;grind
 | q::r=>by
   have ih:=KZ c x r;show q+x*Cv.ev r x=(q+c*Cv.ev r c)+(x-c)*Cv.ev (Fe r ((quo c r).map (· * c))) x;rw[FK,Cv.ev_scale];have h:(x-c)*(Cv.ev r x+Cv.ev (quo c r) x*c)=x*Cv.ev r x-c*(Cv.ev r x-(x-c)*Cv.ev (quo c r) x):=by grind
   rw[h,show Cv.ev r x-(x-c)*Cv.ev (quo c r) x=Cv.ev r c by grind]
   grind
theorem Iq(c:Rat):∀l,(quo c l).length=l.length-1
 | []=>rfl
 | q::r=>by
   have ih:=Iq c r;show(Fe r ((quo c r).map (· * c))).length=r.length;rw[Hi,bI,ih]
   lia
end L2
namespace L2
end L2
namespace L2
open PySem PySem.Spec PyProof.Rows
theorem Qn{K:ZE}{a:ce}{js:kj}{xs:ko}{tc:TT}{te:TE}{σ:St}{H:Hp}{O:ko->Hp->Prop}(Y:Nat->ko->Hp->Prop)(h0:Y 0 [] H)
 (hl:∀i zs H,i<=xs.length->Y i zs H->SqL K H a xs/\zs.length<=i) (hz:xs.length<=dl)
 (hs:∀i x zs H,xs[i]? = some x->Y i zs H->tc ((cS 1 js σ).set 0 (some x)) H λb H3=>if b=true then te ((cS 1 js σ).set 0 (some x)) H3 λy H4=>Y (i+1) (zs++[y]) H4 else Y (i+1) zs H3) (J:∀zs H',Y xs.length zs H'->O zs H') :
 ∃(n':Nat) (W:Nat->ko->Hp->Prop),W 0 [] H/\LcW (Itl K a) n' 1 js σ (HH 0) tc te O W:=by
 refine⟨xs.length,Y,h0,⟨?_,?_,?_⟩⟩
 ·intro i zs H' hi p;obtain⟨h1,h2⟩:=hl i zs H' (ZH hi) p;exact⟨⟨xs,xs[i],h1,by simp[hi]⟩,Yl⟩
 ·rintro i zs H' x H1 hi p ⟨rfl,y⟩;exact hs i x zs _ (y xs (hl i zs _ (ZH hi) p).1) p
 ·intro zs H' p;obtain⟨h1,h2⟩:=hl _ zs H' (ZR _) p;exact⟨⟨xs,h1,ZR _⟩,Yl,J zs H' p⟩
end L2
namespace PySem
open Sem (wp)
open Builtin
set_option maxRecDepth 100000
end PySem
namespace L2
open PySem PySem.Spec PyProof.Rows
variable {X:Cx}
end L2
namespace L2
open PySem PySem.Spec PyProof.Rows
theorem Gx.units1(r:Gx k A):A.units+1<cLine:=by have:=r.un;lia
def kQ(q:Rat):List Key:=[.inl q.num,.inl (q.den:Int)]
theorem VS(h:kQ p=kQ q):p=q:=by
 unfold kQ at h
 injection h with h1 h2
 injection h2 with h2 _
 injection h1 with h1
 injection h2 with h2
 exact Rat.ext h1 (Int.ofNat.inj h2)
def Jm(H:Hp)(x:V)(q:Rat):Prop:=∃r,x = .ref r/\H r=some (nT q)
abbrev Fu(H:Hp):ko->kh->Prop:=Paired (Jm H)
theorem Jm.num{K:ZE}{H:Hp}{x:V}{q:Rat}(h:Jm H x q):Et K H x q:=let ⟨r,e,h⟩:=h;⟨r,e,SqT.of h⟩
theorem Jm.same(h:Jm H x q)(e:E4 H H'):Jm H' x q:=let ⟨r,z,h⟩:=h;⟨r,z,e _ _ h⟩
theorem Jm.mv(h:Jm H x q)(pn:Pen H p)(m:Mv p H H'):Jm H' x q:=let ⟨r,z,h⟩:=h;⟨r,z,m r _ (pn.ne h (Me q)) h⟩
theorem Jm.put(h:Jm H x q)(Y:H p=some (.lst ys)):Jm (upd H p o) x q:=let ⟨r,z,h⟩:=h;⟨r,z,by rw[EC (Jf h Y (λz=>by cases z))];exact h⟩
theorem Fu.nums{K:ZE}{H:Hp}{xs:ko}{qs:kh}(h:Fu H xs qs):ED K H xs qs:=Paired.mapP h λ_ _ z=>z.num
theorem Fu.same(h:Fu H xs qs)(e:E4 H H'):Fu H' xs qs:=Paired.mapP h λ_ _ z=>z.same e
theorem Fu.mv(h:Fu H xs qs)(pn:Pen H p)(m:Mv p H H'):Fu H' xs qs:=Paired.mapP h λ_ _ z=>z.mv pn m
theorem Fu.put(h:Fu H xs qs)(Y:H p=some (.lst ys)):Fu (upd H p o) xs qs:=Paired.mapP h λ_ _ z=>z.put Y
def PtT(K:ZE)(H:Hp)(x:V)(ps:kh):Prop:=∃a us p,x = .ref a/\SqT K H a us/\ED K H us ps/\us[0]? = some (.ref p)/\H p=some (nT (ps.getD 0 0))
abbrev Gu(K:ZE)(H:Hp):ko->kg->Prop:=Paired (PtT K H)
section
variable {K:ZE}{H H':Hp}{x:V}{ps:kh}{xs:ko}{pss:kg}{p:ce}{ys:ko}{o:HO}
theorem PtT.same(h:PtT K H x ps)(e:E4 H H'):PtT K H' x ps:=let ⟨a,us,b,z,h1,h2,h3,h4⟩:=h;⟨a,us,b,z,h1.same e,h2.same e,h3,e _ _ h4⟩
theorem PtT.mv(h:PtT K H x ps)(pn:Pen H p)(m:Mv p H H'):PtT K H' x ps:=let ⟨a,us,b,z,h1,h2,h3,h4⟩:=h;⟨a,us,b,z,h1.mv pn m,h2.mv pn m,h3,m b _ (pn.ne h4 (Me _)) h4⟩
theorem PtT.put(h:PtT K H x ps)(Y:H p=some (.lst ys)):PtT K (upd H p o) x ps:=let ⟨a,us,b,z,h1,h2,h3,h4⟩:=h;⟨a,us,b,z,h1.put Y,h2.put Y,h3,by rw[EC (Jf h4 Y (λz=>by cases z))];exact h4⟩
theorem Gu.same(h:Gu K H xs pss)(e:E4 H H'):Gu K H' xs pss:=Paired.mapP h λ_ _ z=>z.same e
theorem Gu.mv(h:Gu K H xs pss)(pn:Pen H p)(m:Mv p H H'):Gu K H' xs pss:=Paired.mapP h λ_ _ z=>z.mv pn m
theorem Gu.put(h:Gu K H xs pss)(Y:H p=some (.lst ys)):Gu K (upd H p o) xs pss:=Paired.mapP h λ_ _ z=>z.put Y
end
def TlT(K:ZE)(H:Hp)(v:V)(t:Kw):Prop:=∃a p rn,v = .ref a/\SqT K H a [.ref p,.int t.k,rn]/\H p=some (nT t.x)/\Et K H rn t.n
abbrev LC(K:ZE)(H:Hp):ko->List Kw->Prop:=Paired (TlT K H)
section
variable {K:ZE}{H H':Hp}{x:V}{t:Kw}{xs:ko}{ts:List Kw}{p:ce}{ys:ko}{o:HO}
theorem TlT.same(h:TlT K H x t)(e:E4 H H'):TlT K H' x t:=let ⟨a,b,rn,z,h1,h2,h3⟩:=h;⟨a,b,rn,z,h1.same e,e _ _ h2,h3.same e⟩
theorem TlT.put(h:TlT K H x t)(Y:H p=some (.lst ys)):TlT K (upd H p o) x t:=let ⟨a,b,rn,z,h1,h2,h3⟩:=h;⟨a,b,rn,z,h1.put Y,by rw[EC (Jf h2 Y (λz=>by cases z))];exact h2,h3.put Y⟩
theorem LC.same(h:LC K H xs ts)(e:E4 H H'):LC K H' xs ts:=Paired.mapP h λ_ _ z=>z.same e
theorem LC.put(h:LC K H xs ts)(Y:H p=some (.lst ys)):LC K (upd H p o) xs ts:=Paired.mapP h λ_ _ z=>z.put Y
end
end L2
namespace L2
end L2
namespace HT
open PySem PyProof.Rows
open PySem.SeqAt
open PySem.AutoSeq1 (wpAny_loadPart')
open PySem.MeetsSeq PySem.MeetsSeq2 PySem.MeetsSeq3
end HT
namespace L2
open PySem PySem.Spec PyProof.Rows
section
variable {X:Cx}{K:ZE}
end
theorem W5(xs:ko)(v:Nat):IV xs none (some (v:Int))=xs.take v:=by
 unfold IV;have e1:HT.sIx xs.length 0 none=0:=rfl;have Y:HT.sIx xs.length xs.length (some (v:Int))=min v xs.length:=HT.sIx_nat _ _ v;rw[e1,Y,dt,du];by_cases h:v<=xs.length
 ·rw[bO h]
 ·rw[Nat.min_eq_right Yl,dQ (ZR _),dQ Yl]
end L2
namespace L2
open PySem PySem.Spec PyProof.Rows PySem.SeqAt
theorem Mr(hc:X.calm=true):IX X (.builtin "sum") (λxs H Q=>∃(l:ce) (Y:ki),xs=[.ref l]/\H l=some (.lst (Y.map V.int))/\Q (.int Y.sum) H):=by
 intro pins s σ H xs us Q I r h;obtain⟨l,Y,rfl,hH,q⟩:=h;obtain⟨u,rfl,rfl⟩:=KJ r;obtain⟨z,J,n,rv,hl,e⟩:=I.lstM hH;have hi:=Ob rv;have hL:s.heap.IsList l J.toArray:=⟨_,e,Z,n,Z⟩;obtain⟨xs,e⟩:=hi.allInts.items;have O:Y=xs.toList.map (·.1):=by rw[<- hi.numsOf,<- nums_intItems,<- e]
 rw[e]at hL;refine sum_intListG (I.ok.hd hc) hL λh' tk t' hk=>?_;refine⟨.int _,H,I.kept hk,⟨_,Z⟩,?_⟩;rw[preSum_eq,dQ (by simp),<- O];exact q
section
variable {X:Cx}
end
end L2
namespace L2
open PySem PySem.Spec PyProof.Rows
section
variable {X:Cx}{pins:List (ce×Obj)}{σ:List (Option V)}{H:Hp}{s:db}{h':gi}
end
section
variable {X:Cx}
end
namespace St
open SetTable
def it(mask:Nat):Nat->Nat->Nat
 | 0,i=>i
 | n+1,i=>it mask n ((i*5+1) % (mask+1))
def bs(mask:Nat)(b:Nat):Nat->Nat×Nat
 | 0=>(b % (mask+1),b)
 | n+1=>leap mask (bs mask b n).1 (bs mask b n).2
def base(mask i pert:Nat):Probe:={ j:=i,more:=runEnd mask i-i,i,perturb:=pert,dummy:=none }
def advs(t:gK):Nat->Probe->Probe
 | 0,p=>p
 | n+1,p=>advs t n (t.advance p)
end St
end L2
namespace L2
open PySem PySem.Spec PyProof.Rows
namespace St
open SetTable
section
variable {prog:fV}{w:fY}{K:Type}[DecidableEq K](knd:KeyKind prog w K)
def IsN(h:gi)(ks:List K)(a:ce):Prop:=∃o items n,h.get? a=some o/\o.cls = .type "tuple" /\ o.data = .seq items n/\ItemsAre knd ks items.toList/\∀v∈items.toList,∃k t,v = .int k t
variable {knd}
variable {A:fZ}{E:cr->db->Prop}{s:db}
def Ns(knd:KeyKind prog w K)(h:gi)(l:List cr)(ks:List K):Prop:=∀v∈l,∃b k',v = .ref b/\IsN knd h k' b/\k'≠ks
end
end St
end L2
namespace L2
open PySem PySem.Spec PyProof.Rows
namespace St
open SetTable
end St
end L2
namespace L2
open PySem PySem.Spec PyProof.Rows
namespace St
open SetTable
section
variable {prog:fV}{w:fY}{K:Type}[DecidableEq K](knd:KeyKind prog w K)(G:ce->Prop)
variable {knd}{G}
variable {A:fZ}{E:cr->db->Prop}{s:db}
end
end St
end L2
namespace L2
open PySem PySem.Spec PyProof.Rows
namespace St
section
variable {prog:fV}{w:fY}{K:Type}[DecidableEq K]{knd:KeyKind prog w K}{G:ce->Prop}{A:fZ}{R:Result->db->Prop}{I:ce}{fp wr:List ce}{GG:Array GenState->Array GenState->Prop}{n:Nat}{P:Nat->cr->Prop}{St:Nat->db->Prop}
end
section
variable {prog:fV}{w:fY}{K:Type}[DecidableEq K]{knd:KeyKind prog w K}{A:fZ}{E:cr->db->Prop}{s:db}
end
end St
section
variable {X:Cx}
end
section
open PySem.W
variable {X:Cx}(K:ZE)
end
end L2
namespace L2
open PySem PySem.Spec PyProof.Rows
structure X2(X:Cx)(N:km)(nt:Nat)(js:kj)(scope:gH)(x:Str):Prop where
 kind:scope.kind = .function
 split:∃pre post,scope.names=pre++(x,.cell)::post/\(∀y∈pre,y.2 ≠ .cell)/\∀y∈post,y.2 ≠ .cell
 only:∀y∈scope.names,y.2 = .cell->y.1=x
 lx:scope.names.lookup x=some .cell
 names:∀y∈scope.names,y.2 = .local->scope.names.lookup y.1=some .local
 free:∀y∈scope.names,y.2 = .free->X.env.kindOf y.1=some .cell\/X.env.kindOf y.1=some .free
 len:N.length=nt+js.length
 outer:∀j i,js[j]? = some i->∃x,N[nt+j]? = some x/\X.N[i]? = some x/\scope.names.lookup x=some .free
section
variable {X:Cx}{N:km}{nt:Nat}{js:kj}{scope:gH}{cl:List (Str×ce)}{x:Str}{c:ce}
end
section
variable {X:Cx}{N:km}{nt:Nat}{js:kj}{scope:gH}{elt iter tg:Expr}{ifs:List Expr}{pos:Pos}{g:TG}{tc:TT}{te:TE}{wi:TI}{xn:Str}
end
@[reducible] def Cl(u:ZE->TS)(K:ZE):TS:=u K
theorem EJ{X:Cx}{st:gI}{rest:List gI}{t v:TS}{K:ZE}{u:ZE->TS}(h1:PS X st t)(h2:PSs X rest v)(e:v=u K):PSs X (st::rest) (RL t (Cl u K)):=by
 subst e;exact NQ h1 h2
section
variable {X:Cx}{o e:Expr}{es:List Expr}{to:TE}{t:TA}{name:Str}{apos cpos:Pos}{T id:String}{r:V->ko->Hp->VK->Prop}
theorem U8(K:ZE)(pa:PlainAttrs T)(J:Slot T name id)(aa:typeOf (.builtin id)=pure (.type "method_descriptor"))(hm:MtR X id r)(ho:PE X o to)
 (Y:gL o name X.env (gu o X.env)=gu o X.env:=by rfl) (O:(apos.endLine == cpos.line)=true:=by rfl) (eK:X.K=K:=by rfl):PE X (.Call (.Attribute o name apos) [] [] cpos) (Wn K T r to):=Vs pa J aa hm ho Y O eK
theorem GW(K:ZE)(pa:PlainAttrs T)(aa:Slot T name id)(ad:typeOf (.builtin id)=pure (.type "method_descriptor"))(hm:MtR X id r)(ho:PE X o to)(ha:PA X (e::es) t)
 (O:gL o name X.env (gu o X.env)=gu o X.env:=by rfl)
 (ac:((gC cpos (fU (e::es) X.env)).all (λx=>!x.1)&&(backToKw cpos (keywordEach [] X.env)).all (λx=>x.1.isSome)
  && decide ((e::es).length+([]:List g4).length+(if ([]:List g4).isEmpty then 0 else 1)<30))=true:=by rfl)
 (J:(apos.endLine == cpos.line)=true:=by rfl) (hs:fU (e::es) X.env=(false,gu e X.env)::fU es X.env:=by rfl) (Y:(gC cpos (fU es X.env)).any (·.1)=false:=by rfl) (eK:X.K=K:=by rfl) :
 PE X (.Call (.Attribute o name apos) (e::es) [] cpos) (tBM K T r to t):=WD pa aa ad hm ho ha O ac J hs Y eK
end
theorem Ft{c:Bool}{A B:Prop}(e:c=true)(h:A):if c=true then A else B:=by
 rw[if_pos e];exact h
theorem F0{c:Bool}{A B:Prop}(e:c=false)(h:B):if c=true then A else B:=by
 rw[if_neg (by rw[e];decide)];exact h
theorem Gw{Y:Type}{l:List Y}{n:Nat}(h:l.length=n+1):∃a r,l=a::r/\r.length=n:=by
 cases l with
 | nil=>cases h
 | cons a r=>exact⟨a,r,Z,Nat.succ.inj h⟩
theorem Fun.binds1{K:ZE}{x qual:Str}{st:gI}{f:ce}{fd:fT}(p1:Str)(F:Fun K x qual st f fd)
 (h:∀(kV O pm:cr) (an:Option ce) (Y ct J:cr),gR (bK x qual (FX st) (Fy st) (El st) .none kV O pm an Y ct) ⟨[J],[]⟩=pure [(p1,J)]):Gs K fd [p1] [] :=
 F.binds λkV O pm an Y ct us l0=>by
  obtain⟨J,r1,rfl,l1⟩:=Gw l0;cases dR.mp l1;exact h kV O pm an Y ct J
theorem Fun.binds2{K:ZE}{x qual:Str}{st:gI}{f:ce}{fd:fT}(p1 p2:Str)(F:Fun K x qual st f fd)
 (h:∀(kV O pm:cr) (an:Option ce) (Y ct a1 J:cr),gR (bK x qual (FX st) (Fy st) (El st) .none kV O pm an Y ct) ⟨[a1,J],[]⟩=pure [(p1,a1),(p2,J)]):Gs K fd [p1,p2] [] :=
 F.binds λkV O pm an Y ct us l0=>by
  obtain⟨a1,r1,rfl,l1⟩:=Gw l0;obtain⟨J,r2,rfl,l2⟩:=Gw l1;cases dR.mp l2;exact h kV O pm an Y ct a1 J
theorem Fun.binds3{K:ZE}{x qual:Str}{st:gI}{f:ce}{fd:fT}(p1 p2 p3:Str)(F:Fun K x qual st f fd)
 (h:∀(kV O pm:cr) (an:Option ce) (Y ct a1 J a3:cr),gR (bK x qual (FX st) (Fy st) (El st) .none kV O pm an Y ct) ⟨[a1,J,a3],[]⟩=pure [(p1,a1),(p2,J),(p3,a3)]):Gs K fd [p1,p2,p3] [] :=
 F.binds λkV O pm an Y ct us l0=>by
  obtain⟨a1,r1,rfl,l1⟩:=Gw l0;obtain⟨J,r2,rfl,l2⟩:=Gw l1;obtain⟨a3,r3,rfl,l3⟩:=Gw l2;cases dR.mp l3;exact h kV O pm an Y ct a1 J a3
theorem Fun.binds4{K:ZE}{x qual:Str}{st:gI}{f:ce}{fd:fT}(p1 p2 p3 p4:Str)(F:Fun K x qual st f fd)
 (h:∀(kV O pm:cr) (an:Option ce) (Y ct a1 J a3 a4:cr),gR (bK x qual (FX st) (Fy st) (El st) .none kV O pm an Y ct) ⟨[a1,J,a3,a4],[]⟩=pure [(p1,a1),(p2,J),(p3,a3),(p4,a4)]):Gs K fd [p1,p2,p3,p4] [] :=
 F.binds λkV O pm an Y ct us l0=>by
  obtain⟨a1,r1,rfl,l1⟩:=Gw l0;obtain⟨J,r2,rfl,l2⟩:=Gw l1;obtain⟨a3,r3,rfl,l3⟩:=Gw l2;obtain⟨a4,r4,rfl,l4⟩:=Gw l3;cases dR.mp l4;exact h kV O pm an Y ct a1 J a3 a4
@[reducible] def L2(x1:α1)(x2:α2)(u:α1->α2->δ):δ:=u x1 x2
@[reducible] def L3(x1:α1)(x2:α2)(x3:α3)(u:α1->α2->α3->δ):δ:=u x1 x2 x3
@[reducible] def L4(x1:α1)(x2:α2)(x3:α3)(x4:α4)(u:α1->α2->α3->α4->δ):δ:=u x1 x2 x3 x4
@[reducible] def L5(x1:α1)(x2:α2)(x3:α3)(x4:α4)(x5:α5)(u:α1->α2->α3->α4->α5->δ):δ:=u x1 x2 x3 x4 x5
@[reducible] def L6(x1:α1)(x2:α2)(x3:α3)(x4:α4)(x5:α5)(x6:α6)(u:α1->α2->α3->α4->α5->α6->δ):δ:=u x1 x2 x3 x4 x5 x6
@[reducible] def L7(x1:α1)(x2:α2)(x3:α3)(x4:α4)(x5:α5)(x6:α6)(x7:α7)(u:α1->α2->α3->α4->α5->α6->α7->δ):δ:=u x1 x2 x3 x4 x5 x6 x7
@[reducible] def L8(x1:α1)(x2:α2)(x3:α3)(x4:α4)(x5:α5)(x6:α6)(x7:α7)(x8:α8)(u:α1->α2->α3->α4->α5->α6->α7->α8->δ):δ:=u x1 x2 x3 x4 x5 x6 x7 x8
@[reducible] def L9(x1:α1)(x2:α2)(x3:α3)(x4:α4)(x5:α5)(x6:α6)(x7:α7)(x8:α8)(x9:α9)(u:α1->α2->α3->α4->α5->α6->α7->α8->α9->δ):δ:=u x1 x2 x3 x4 x5 x6 x7 x8 x9
@[reducible] def L10(x1:α1)(x2:α2)(x3:α3)(x4:α4)(x5:α5)(x6:α6)(x7:α7)(x8:α8)(x9:α9)(x10:α10)(u:α1->α2->α3->α4->α5->α6->α7->α8->α9->α10->δ):δ:=u x1 x2 x3 x4 x5 x6 x7 x8 x9 x10
@[reducible] def L11(x1:α1)(x2:α2)(x3:α3)(x4:α4)(x5:α5)(x6:α6)(x7:α7)(x8:α8)(x9:α9)(x10:α10)(x11:α11)(u:α1->α2->α3->α4->α5->α6->α7->α8->α9->α10->α11->δ):δ:=u x1 x2 x3 x4 x5 x6 x7 x8 x9 x10 x11
@[reducible] def L12(x1:α1)(x2:α2)(x3:α3)(x4:α4)(x5:α5)(x6:α6)(x7:α7)(x8:α8)(x9:α9)(x10:α10)(x11:α11)(x12:α12)(u:α1->α2->α3->α4->α5->α6->α7->α8->α9->α10->α11->α12->δ):δ:=u x1 x2 x3 x4 x5 x6 x7 x8 x9 x10 x11 x12
@[reducible] def L15(x1:α1)(x2:α2)(x3:α3)(x4:α4)(x5:α5)(x6:α6)(x7:α7)(x8:α8)(x9:α9)(x10:α10)(x11:α11)(x12:α12)(x13:α13)(x14:α14)(x15:α15)(u:α1->α2->α3->α4->α5->α6->α7->α8->α9->α10->α11->α12->α13->α14->α15->δ):δ:=u x1 x2 x3 x4 x5 x6 x7 x8 x9 x10 x11 x12 x13 x14 x15
@[reducible] def L16(x1:α1)(x2:α2)(x3:α3)(x4:α4)(x5:α5)(x6:α6)(x7:α7)(x8:α8)(x9:α9)(x10:α10)(x11:α11)(x12:α12)(x13:α13)(x14:α14)(x15:α15)(x16:α16)(u:α1->α2->α3->α4->α5->α6->α7->α8->α9->α10->α11->α12->α13->α14->α15->α16->δ):δ:=u x1 x2 x3 x4 x5 x6 x7 x8 x9 x10 x11 x12 x13 x14 x15 x16
theorem IL{X:Cx}{c:Expr}{a b:List gI}{pos:Pos}{tc:TT}{J v2:TS}{K:ZE}{O Y:ZE->TS}(hc:PT X c tc)(ha:PSs X a J)(hb:PSs X b v2)(e1:J=O K)(e2:v2=Y K):PS X (.If c a b pos) (ON tc (Cl O K) (Cl Y K)):=by
 subst e1;subst e2;exact WC hc ha hb
theorem Ff{X:Cx}{tg iter:Expr}{Y:List gI}{wi:TI}{g:TG}{v:TS}{pos:Pos}{K:ZE}{u:ZE->TS}(hp:PassesOwn (gh X.prog X.w) X.A X.env X.xe)(O:X.calm=true)(hi:PI X tg iter wi)(J:PG X tg g)(hb:PSs X Y v)(e:v=u K)
 (hs:∀x,gQ iter X.env x=pure x:=by intro _;rfl):PS X (.For tg iter Y [] pos) (Va wi g (Cl u K)):=by
 subst e;exact Vm hp O hi J hb hs
theorem SA{a b c d:Nat}(h1:a=c)(h2:b=d):((a:Int)-(b:Int)).toNat=c-d:=by rw[h1,h2];exact Int.toNat_sub c d
theorem IQ{a b:Nat}(h:a=b):((a:Int)-1).toNat=b-1:=SA (b:=1) h rfl
theorem Rk{a b c d:Nat}(h1:a=c)(h2:b=d)(_h:1<=d):((a:Int)+(b:Int)-1).toNat=c+d-1:=by
 rw[h1,h2,<- Int.natCast_add];exact IQ rfl
theorem Sz{a b:Nat}(h:1<=b):((a:Int)+(b:Int)-1).toNat=a+b-1:=Rk rfl rfl h
theorem Rj{a b m:Nat}(h1:a<=m)(h2:b<=m):((a:Int)+(b:Int)-1).toNat<=2*m:=by
 rw[<- Int.natCast_add,IQ rfl,Nat.two_mul];exact ZF (Nat.sub_le _ _) (Nat.add_le_add h1 h2)
theorem SD{a b i:Nat}(h:a=b)(hi:i<b):(a:Int)-1-(i:Int)=((b-1-i:Nat):Int):=by
 rw[h,Int.ofNat_sub (show i<=b-1 from Nat.le_pred_of_lt hi),Int.ofNat_sub (show 1<=b from c5 (ZU i) hi)]
 rfl
theorem VE(hi:i<b):b-1-i<b:=c5 (Nat.sub_le _ _) (Nat.sub_lt (c5 (ZU i) hi) Nat.one_pos)
theorem Uk{a b:Nat}(h:a=b):((a:Int)-1 - -1).toNat=b:=by
 rw[h,Int.sub_neg,Int.sub_add_cancel];exact bN b
theorem Um(J:a<=200)(hk:k<m-1)(Y:m=2\/m=3)(e:a=t):t+min k b<=204:=by
 rw[<- e]
 have O:k<=4:=by
  rcases Y with rfl | rfl
  ·exact ZF (ZH hk) Yd
  ·exact ZF (ZH hk) Yd
 exact Nat.add_le_add J (ZF (Nat.min_le_left _ _) O)
theorem Ul(Y:a<=200)(O:m=2\/m=3):a+(m-1)*1<=300:=by
 rcases O with rfl | rfl
 ·exact ZF (Nat.add_le_add_right Y _) Yd
 ·exact ZF (Nat.add_le_add_right Y _) Yd
theorem Uj{a m:Nat}(h:a=m)(Y:m=2\/m=3):((a:Int)-1).toNat<=2:=by
 rw[IQ h]
 rcases Y with rfl | rfl<;>decide
theorem VF(hi:i<a)(Y:j<b)(h:n=a+b-1):i+j<n:=by
 rw[h];refine Nat.lt_sub_of_add_lt ?_;rw[Nat.add_right_comm];exact Nat.add_lt_add_of_le_of_lt hi Y
end L2
namespace Dt
def skip(i a:Nat):Nat:=if a<i then a else a+1
def sg(i:Nat):Int:=if i % 2=0 then 1 else -1
def sumN(f:Nat->Int):Nat->Int
 | 0=>0
 | n+1=>sumN f n+f n
def det:Nat->(Nat->Nat->Int)->Nat->Int
 | 0,M,j=>M 0 j
 | n+1,M,j=>sumN (λi=>sg i*(M i 0*det n (λa b=>M (skip i a) (b+1)) j)) (n+2)
theorem sg_succ(i:Nat):sg (i+1) = - sg i:=by
 unfold sg
 rcases Nat.mod_two_eq_zero_or_one i with h | h
 ·rw[if_neg Yl,if_pos h]
 ·rw[if_pos Yl,if_neg Yl];rfl
theorem sum_congr:∀{n},(∀i,i<n->f i=g i)->sumN f n=sumN g n
 | 0,_=>rfl
 | n+1,h=>by
   show sumN f n+f n=sumN g n+g n;rw[sum_congr (λi hi=>h i Yl),h n Yl]
theorem sum_zero:∀{n},(∀i,i<n->f i=0)->sumN f n=0
 | 0,_=>rfl
 | n+1,h=>by
   show sumN f n+f n=0;rw[sum_zero (λi hi=>h i Yl),h n Yl];rfl
theorem sum_lin:∀{n},(∀i,i<n->f i=x*g i+y*h i)->sumN f n=x*sumN g n+y*sumN h n
 | 0,_=>by show(0:Int)=x*0+y*0;grind
 | n+1,e=>by
   show sumN f n+f n=x*(sumN g n+g n)+y*(sumN h n+h n);rw[sum_lin (λi hi=>e i Yl),e n Yl];grind
theorem sum_two(h2:f p+f (p+1)=0):∀{n},p+1<n->(∀i,i<n->i≠p->i≠p+1->f i=0)->sumN f n=0
 | 0,h,_=>absurd h Yl
 | n+1,h,hz=>by
   show sumN f n+f n=0;by_cases e:p+1=n
   ·subst e;show sumN f p+f p+f (p+1)=0;rw[sum_zero (λi hi=>hz i Yl Yl Yl)];grind
   ·rw[sum_two h2 (n:=n) Yl (λi hi=>hz i Yl),hz n Yl Yl Yl];rfl
theorem sum_first:∀{n},(∀i,1<=i->i<n+1->f i=0)->sumN f (n+1)=f 0
 | 0,_=>by show 0+f 0=f 0;grind
 | n+1,h=>by
   show sumN f (n+1)+f (n+1)=f 0;rw[sum_first (n:=n) (λi h1 h2=>h i h1 Yl),h (n+1) Yl Yl];grind
theorem skip_le(h:a<=n):skip i a<=n+1:=by unfold skip;split<;>lia
theorem skip_ne(i a:Nat):skip i a≠i:=by unfold skip;split<;>lia
theorem det_congr:∀{n:Nat} {M M':Nat->Nat->Int} {j:Nat},(∀a,a<=n->∀b,M a b=M' a b)->det n M j=det n M' j
 | 0,M,M',j,h=>h 0 (ZR _) j
 | n+1,M,M',j,h=>sum_congr λi hi=>by
   rw[h i Yl 0,det_congr (n:=n) λa ha b=>h _ (skip_le ha) (b+1)]
def put(M:Nat->Nat->Int)(p:Nat)(u:Nat->Int):Nat->Nat->Int:=λa b=>if a=p then u b else M a b
theorem put_at(M:Nat->Nat->Int)(p:Nat)(u:Nat->Int)(b:Nat):put M p u p b=u b:=if_pos rfl
theorem put_ne(h:a≠p)(b:Nat):put M p u a b=M a b:=if_neg h
def low(i p:Nat):Nat:=if p<i then p else p-1
theorem skip_iff(h:i≠p):skip i a=p↔a=low i p:=by unfold skip low;split<;>split<;>lia
theorem low_le(h:i≠p)(Y:p<=n+1)(hi:i<=n+1):low i p<=n:=by unfold low;split<;>lia
theorem minor_put(h:i≠p):(λa b=>put M p u (skip i a) (b+1))=put (λa b=>M (skip i a) (b+1)) (low i p) λb=>u (b+1):=by
 funext a b
 unfold put;by_cases e:skip i a=p
 ·rw[if_pos e,if_pos ((skip_iff h).mp e)]
 ·rw[if_neg e,if_neg (λz=>e ((skip_iff h).mpr z))]
theorem minor_own:(λa b=>put M p u (skip p a) (b+1))=λa b=>M (skip p a) (b+1):=by
 funext a b
 exact put_ne (skip_ne p a) _
theorem det_lin:∀{n:Nat} {M:Nat->Nat->Int} {p:Nat} {u v:Nat->Int} {x y:Int} {j:Nat},p<=n->det n (put M p λb=>x*u b+y*v b) j=x*det n (put M p u) j+y*det n (put M p v) j
 | 0,M,p,u,v,x,y,j,h=>by
   obtain rfl:p=0:=by lia
   rfl
 | n+1,M,p,u,v,x,y,j,h=>sum_lin λi hi=>by
   by_cases e:i=p
   ·subst e;rw[put_at,put_at,put_at,minor_own,minor_own,minor_own];grind
   ·rw[put_ne e,put_ne e,put_ne e,minor_put e,minor_put e,minor_put e,det_lin (low_le e h Yl)];grind
theorem det_adj:∀{n:Nat} {M:Nat->Nat->Int} {p j:Nat},p+1<=n->(∀b,M p b=M (p+1) b)->det n M j=0
 | 0,_,_,_,h,_=>absurd h Yl
 | n+1,M,p,j,h,he=>by
   refine sum_two (p:=p) ?_ Yl λi hi h1 h2=>?_
   ·rw[sg_succ,<- he 0]
    have e:det n (λa b=>M (skip (p+1) a) (b+1)) j=det n (λa b=>M (skip p a) (b+1)) j:=det_congr λa O b=>by
     unfold skip;by_cases h1:a<p
     ·rw[if_pos h1,if_pos Yl]
     ·by_cases h2:a=p
      ·subst h2;rw[if_pos Yl,if_neg Yl];exact he _
      ·rw[if_neg Yl,if_neg h1]
    rw[e];grind
   ·have z:det n (λa b=>M (skip i a) (b+1)) j=0:=by
     by_cases hlt:i<p
     ·obtain⟨q,rfl⟩:∃q,p=q+1:=⟨p-1,Yl⟩;refine det_adj (p:=q) Yl λb=>?_;show M (skip i q) _=M (skip i (q+1)) _;have e1:skip i q=q+1:=by unfold skip;rw[if_neg Yl]
      have Y:skip i (q+1)=q+1+1:=by unfold skip;rw[if_neg Yl]
      rw[e1,Y];exact he _
     ·refine det_adj (p:=p) Yl λb=>?_;show M (skip i p) _=M (skip i (p+1)) _;have e1:skip i p=p:=by unfold skip;rw[if_pos Yl]
      have Y:skip i (p+1)=p+1:=by unfold skip;rw[if_pos Yl]
      rw[e1,Y];exact he _
    rw[z];grind
def swp(M:Nat->Nat->Int)(p:Nat):Nat->Nat->Int:=put (put M p (M (p+1))) (p+1) (M p)
theorem put_comm(M:Nat->Nat->Int)(h:p≠q)(u v:Nat->Int):put (put M p u) q v=put (put M q v) p u:=by
 funext a b;unfold put;split<;>split<;>first | rfl | lia
theorem put_self(M:Nat->Nat->Int)(p:Nat):put M p (M p)=M:=by
 funext a b;unfold put;split
 ·subst_vars;rfl
 ·rfl
theorem det_add(h:p<=n):det n (put M p λb=>u b+v b) j=det n (put M p u) j+det n (put M p v) j:=by
 have:=det_lin (M:=M) (u:=u) (v:=v) (x:=1) (y:=1) (j:=j) h;rw[cz,cz]at this;rw[<- this]
 congr 2
 funext b
 rw[cz,cz]
theorem det_swp(h:p+1<=n):det n (swp M p) j = - det n M j:=by
 have z:∀u:Nat->Int,det n (put (put M p u) (p+1) u) j=0:=λu=>det_adj h λb=>by
  rw[put_at,put_ne Yl,put_at]
 have bi:∀u v O Y:Nat->Int,det n (put (put M p λb=>u b+v b) (p+1) λb=>O b+Y b) j =
  det n (put (put M p u) (p+1) O) j+det n (put (put M p v) (p+1) O) j+(det n (put (put M p u) (p+1) Y) j+det n (put (put M p v) (p+1) Y) j):=λu v O Y=>by
  have c:∀u w,put (put M p u) (p+1) w=put (put M (p+1) w) p u:=λu w=>put_comm M Yl u w;rw[det_add h,c _ O,c _ Y,det_add Yl,det_add Yl,c,c,c,c]
 have J:=z λb=>M p b+M (p+1) b;rw[bi,z,z]at J;have e:put (put M p (M p)) (p+1) (M (p+1))=M:=by rw[put_self,put_self]
 rw[e]at J;unfold swp
 grind
theorem det_two:∀(d:Nat) {n:Nat} {M:Nat->Nat->Int} {p j:Nat},p+1+d<=n->(∀b,M p b=M (p+1+d) b)->det n M j=0
 | 0,n,M,p,j,h,he=>det_adj h he
 | d+1,n,M,p,j,h,he=>by
   have s:=det_swp (M:=M) (p:=p+1+d) (j:=j) (n:=n) Yl
   have z:det n (swp M (p+1+d)) j=0:=det_two d (p:=p) Yl λb=>by
    unfold swp;rw[put_ne Yl,put_ne Yl,put_ne Yl,put_at];exact he b
   lia
theorem det_eq(hp:p<=n)(J:q<=n)(Y:p≠q)(O:∀b,M p b=M q b):det n M j=0:=by
 rcases Nat.lt_or_gt_of_ne Y with h | h
 ·obtain⟨d,rfl⟩:∃d,q=p+1+d:=⟨q-p-1,Yl⟩;exact det_two d J O
 ·obtain⟨d,rfl⟩:∃d,p=q+1+d:=⟨p-q-1,Yl⟩;exact det_two d hp λb=>(O b).symm
theorem det_scale(h:p<=n):det n (put M p λb=>c*u b) j=c*det n (put M p u) j:=by
 have:=det_lin (M:=M) (u:=u) (v:=u) (x:=c) (y:=0) (j:=j) h;have e:(λb=>c*u b+0*u b)=λb=>c*u b:=by funext b;grind
 rw[e]at this;rw[this];grind
theorem det_more(Y:p<=n)(O:q<=n)(h:p≠q):det n (put M p λb=>u b+c*M q b) j=det n (put M p u) j:=by
 rw[det_add Y,det_scale Y,det_eq (M:=put M p (M q)) Y O h (λb=>by rw[put_at,put_ne (Ne.symm h)])];grind
theorem det_mores{n:Nat}{p:Nat}{u:Nat->Int}{c:Nat->Int}{r:Nat->Nat}{j:Nat}(Y:p<=n):∀t,(∀i,i<t->r i<=n/\r i≠p)->det n (put M p λb=>u b+sumN (λi=>c i*M (r i) b) t) j=det n (put M p u) j
 | 0,_=>by
   have e:(λb=>u b+sumN (λi=>c i*M (r i) b) 0)=u:=by funext b;show u b+0=u b;lia
   rw[e]
 | t+1,h=>by
   have e:(λb=>u b+sumN (λi=>c i*M (r i) b) (t+1))=λb=>(u b+sumN (λi=>c i*M (r i) b) t)+c t*M (r t) b:=by
    funext b;show u b+(_+_)=_;grind
   rw[e,det_more Y (h t Yl).1 (Ne.symm (h t Yl).2)];exact det_mores Y t λi hi=>h i Yl
theorem det_peel(h:∀i,1<=i->i<=n+1->M i 0=0):det (n+1) M j=M 0 0*det n (λa b=>M (a+1) (b+1)) j:=by
 show sumN _ (n+1+1)=_;rw[sum_first λi h1 h2=>by rw[h i h1 Yl];grind]
 have e:det n (λa b=>M (skip 0 a) (b+1)) j=det n (λa b=>M (a+1) (b+1)) j:=rfl;rw[e];show sg 0*_=_;have:sg 0=1:=rfl;rw[this];grind
def sh(i:Nat)(v:Nat->Int):Nat->Int:=λb=>if b<i then 0 else v (b-i)
def syl(p:Nat)(g f:Nat->Int):Nat->Nat->Int:=λa=>if a<p then sh a g else sh (a-p) f
theorem syl_less{p q:Nat}{c:Int}{e:Nat->Int}{d j:Nat}(hd:d+q<=p+1)(hf:∀b,c*f b=r b+sumN (λt=>e t*sh t g b) d)(hq:0<q) :
 c ^ q*det (p+q-1) (syl p g f) j=det (p+q-1) (syl p g r) j:=by
 -- the first t rows of f are changed
 have aa:∀t,t<=q->c ^ t*det (p+q-1) (syl p g f) j=det (p+q-1) (λa=>if a<p then sh a g else if a-p<t then sh (a-p) r else sh (a-p) f) j:=by
  intro t
  induction t with
  | zero =>
    intro _;rw[dw,cz];refine det_congr λa _ b=>?_;unfold syl;by_cases h:a<p
    ·rw[if_pos h,if_pos h]
    ·rw[if_neg h,if_neg h,if_neg Yl]
  | succ t Y =>
    intro ht;have Y:=Y Yl;rw[dz,dS (c ^ t) c,dU,Y];generalize hM:(λa=>if a<p then sh a g else if a-p<t then sh (a-p) r else sh (a-p) f)=M;have ac:M (p+t)=sh t f:=by rw[<- hM];show(if p+t<p then _ else if p+t-p<t then _ else sh (p+t-p) f)=_;rw[if_neg Yl,if_neg Yl,Nat.add_sub_cancel_left]
    have O:∀i,i<p->M i=sh i g:=λi hi=>by rw[<- hM];exact if_pos hi
    have e1:det (p+q-1) M j=det (p+q-1) (put M (p+t) (sh t f)) j:=by rw[<- ac,put_self]
    rw[e1,<- det_scale Yl]
    have e2:(λb=>c*sh t f b)=λb=>sh t r b+sumN (λi=>e i*M (i+t) b) d:=by
     funext b
     have e3:sumN (λi=>e i*M (i+t) b) d=sumN (λi=>e i*sh (i+t) g b) d:=sum_congr λi hi=>by rw[O _ Yl]
     rw[e3];unfold sh;by_cases hb:b<t
     ·rw[if_pos hb,if_pos hb,sum_zero λi _=>by rw[if_pos Yl];grind];grind
     ·rw[if_neg hb,if_neg hb,hf (b-t)]
      congr 1
      refine sum_congr λi _=>?_;unfold sh;by_cases h2:b-t<i
      ·rw[if_pos h2,if_pos Yl]
      ·rw[if_neg h2,if_neg Yl,show b-t-i=b-(i+t) by lia]
    rw[e2,det_mores (r:=λi=>i+t) (c:=e) Yl d λi hi=>⟨Yl,Yl⟩];refine det_congr λa _ b=>?_;unfold put;by_cases J:a=p+t
    ·rw[if_pos J,if_neg Yl,if_pos Yl,show a-p=t by lia]
    ·rw[if_neg J,<- hM];dsimp only;by_cases h:a<p
     ·rw[if_pos h,if_pos h]
     ·rw[if_neg h,if_neg h];by_cases h2:a-p<t
      ·rw[if_pos h2,if_pos Yl]
      ·rw[if_neg h2,if_neg Yl]
 rw[aa q (ZR _)];refine det_congr λa J b=>?_;unfold syl;by_cases h:a<p
 ·rw[if_pos h,if_pos h]
 ·rw[if_neg h,if_neg h,if_pos Yl]
theorem syl_peel(hf:f 0=0)(J:1<=p+q):det (p+q) (syl (p+1) g f) j=g 0*det (p+q-1) (syl p g λb=>f (b+1)) j:=by
 obtain⟨n,Y⟩:∃n,p+q=n+1:=⟨p+q-1,Yl⟩;rw[Y,dW];rw[det_peel λi h1 h2=>?_]
 ·have O:syl (p+1) g f 0 0=g 0:=by unfold syl;rw[if_pos Yl];rfl
  rw[O]
  congr 1
  refine det_congr λa _ b=>?_;unfold syl;by_cases h:a<p
  ·rw[if_pos h,if_pos Yl];unfold sh;by_cases h2:b<a
   ·rw[if_pos h2,if_pos Yl]
   ·rw[if_neg h2,if_neg Yl,show b+1-(a+1)=b-a by lia]
  ·rw[if_neg h,if_neg Yl,show a+1-(p+1)=a-p by lia]
   unfold sh;by_cases h2:b<a-p
   ·rw[if_pos h2];by_cases h3:b+1<a-p
    ·rw[if_pos h3]
    ·rw[if_neg h3,show b+1-(a-p)=0 by lia];exact hf
   ·rw[if_neg h2,if_neg Yl,show b+1-(a-p)=b-(a-p)+1 by lia]
 ·unfold syl;by_cases h:i<p+1
  ·rw[if_pos h];unfold sh;rw[if_pos Yl]
  ·rw[if_neg h];unfold sh;by_cases h3:0<i-(p+1)
   ·rw[if_pos h3]
   ·rw[if_neg h3,Nat.zero_sub];exact hf
theorem syl_peels:∀(t p:Nat) {f:Nat->Int},(∀i,i<t->f i=0)->1<=p+q->det (p+t+q-1) (syl (p+t) g f) j=g 0 ^ t*det (p+q-1) (syl p g λb=>f (b+t)) j
 | 0,p,f,_,_=>by
   rw[dw,cz];rfl
 | t+1,p,f,h,hn=>by
   have e:=syl_peel (p:=p+t) (q:=q) (g:=g) (f:=f) (j:=j) (h 0 Yl) Yl;rw[show p+(t+1)+q-1=p+t+q by lia,show p+(t+1)=p+t+1 by lia,e]
   rw[syl_peels t p (f:=λb=>f (b+1)) (λi hi=>h (i+1) Yl) hn,dz];have Y:(λb=>f (b+t+1))=λb=>f (b+(t+1)):=rfl;rw[Y];grind
theorem det_down:∀(d:Nat) {M:Nat->Nat->Int} {p:Nat},p+d<=n->∃s:Int,(s=1\/s = -1)/\∀j,det n (λa=>if a<p then M a else if a<p+d then M (a+1) else if a=p+d then M p else M a) j=s*det n M j
 | 0,M,p,h=>⟨1,.inl rfl,λj=>by
   rw[cz];refine det_congr λa _ b=>?_;by_cases h1:a<p
   ·rw[if_pos h1]
   ·rw[if_neg h1,if_neg Yl];by_cases h2:a=p+0
    ·rw[if_pos h2,h2];rfl
    ·rw[if_neg h2]⟩
 | d+1,M,p,h=>by
   obtain⟨s,hs,e⟩:=det_down (n:=n) d (M:=M) (p:=p) Yl;refine⟨-s,Yl,λj=>?_⟩;have Y:=det_swp (M:=λa=>if a<p then M a else if a<p+d then M (a+1) else if a=p+d then M p else M a) (p:=p+d) (j:=j) (n:=n) Yl;rw[e]at Y;rw[Int.neg_mul,<- Y];refine det_congr λa _ b=>?_;unfold swp put;dsimp only;by_cases h1:a=p+d+1
   ·rw[if_pos h1,if_neg Yl,if_neg Yl,if_pos Yl,if_neg Yl,if_neg Yl,if_pos rfl]
   ·rw[if_neg h1];by_cases h2:a=p+d
    ·rw[if_pos h2,if_neg Yl,if_pos Yl,if_neg Yl,if_neg Yl,if_neg Yl,h2]
    ·rw[if_neg h2];by_cases h3:a<p
     ·rw[if_pos h3,if_pos h3]
     ·rw[if_neg h3,if_neg h3];by_cases h4:a<p+d
      ·rw[if_pos h4,if_pos Yl]
      ·rw[if_neg h4,if_neg Yl,if_neg Yl,if_neg h2]
theorem det_round:∀t,t<=n+1->∃s:Int,(s=1\/s = -1)/\∀j,det n (λa=>if a+t<=n then M (a+t) else M (a+t-(n+1))) j=s*det n M j
 | 0,_=>⟨1,.inl rfl,λj=>by
   rw[cz];refine det_congr λa J b=>?_;rw[if_pos Yl];rfl⟩
 | t+1,h=>by
   obtain⟨s,hs,e⟩:=det_round (n:=n) (M:=M) t Yl;obtain⟨s',Y,O⟩:=det_down n (M:=λa=>if a+t<=n then M (a+t) else M (a+t-(n+1))) (p:=0) (n:=n) Yl;refine⟨s'*s,by rcases hs with rfl | rfl<;>rcases Y with rfl | rfl<;>decide,λj=>?_⟩
   rw[dU,<- e,<- O];refine det_congr λa J b=>?_;rw[if_neg (by lia:¬a<0)]
   by_cases h1:a<0+n
   ·rw[if_pos h1];by_cases h2:a+(t+1)<=n
    ·rw[if_pos h2,if_pos Yl,show a+1+t=a+(t+1) by lia]
    ·rw[if_neg h2,if_neg Yl,show a+1+t=a+(t+1) by lia]
   ·obtain rfl:a=n:=by lia
    rw[if_neg h1,if_pos (by lia:a=0+a),if_pos (by lia:0+t<=a),if_neg (by lia:¬a+(t+1)<=a),show a+(t+1)-(a+1)=0+t by lia]
theorem syl_round(h:1<=p+q):∃s:Int,(s=1\/s = -1)/\∀j,det (p+q-1) (syl q f g) j=s*det (p+q-1) (syl p g f) j:=by
 obtain⟨s,hs,e⟩:=det_round (n:=p+q-1) (M:=syl p g f) p Yl;refine⟨s,hs,λj=>?_⟩;rw[<- e];refine det_congr λa Y b=>?_;unfold syl;by_cases h1:a<q
 ·rw[if_pos h1,if_pos Yl,if_neg Yl,dW]
 ·rw[if_neg h1,if_neg Yl,if_pos Yl,show a+p-(p+q-1+1)=a-q by lia]
def sub(m n k:Nat)(f g:Nat->Int)(j:Nat):Int:=det (m-k+(n-k)-1) (syl (m-k) g f) j
theorem sub_step{m n l k:Nat}{f g r:Nat->Int}{e:Nat->Int}(ac:n<=m)(aa:l<n)(J:k<=l)(Y:∀i,i<m-l->r i=0)
 (hf:∀b,g 0 ^ (m-n+1)*f b=r b+sumN (λt=>e t*sh t g b) (m-n+1)) :
 ∃s:Int,(s=1\/s = -1)/\∀j,(g 0 ^ (m-n+1)) ^ (n-k)*sub m n k f g j=s*(g 0 ^ (m-l)*sub n l k g (λb=>r (b+(m-l))) j):=by
 obtain⟨s,hs,e1⟩:=syl_round (p:=l-k) (q:=n-k) (g:=g) (f:=λb=>r (b+(m-l))) Yl;refine⟨s,hs,λj=>?_⟩;unfold sub;rw[syl_less (q:=n-k) Yl hf Yl];have O:=syl_peels (q:=n-k) (g:=g) (j:=j) (m-l) (l-k) (f:=r) Y Yl;rw[show l-k+(m-l)+(n-k)-1=m-k+(n-k)-1 by lia,show l-k+(m-l)=m-k by lia]at O
 rw[O,show n-k+(l-k)-1=l-k+(n-k)-1 by lia,e1]
 rcases hs with rfl | rfl<;>grind
theorem sub_rest{m n:Nat}{f g r:Nat->Int}{e:Nat->Int}{j:Nat}(aa:n<=m)(hn:0<n)(hg:g 0≠0)(Y:∀i,i<m-n+1->r i=0)
 (hf:∀b,g 0 ^ (m-n+1)*f b=r b+sumN (λt=>e t*sh t g b) (m-n+1)):sub m n (n-1) f g j=r (j+(m-n+1)):=by
 have e1:=syl_less (p:=m-(n-1)) (q:=n-(n-1)) (j:=j) Yl hf Yl;have O:=syl_peels (q:=n-(n-1)) (g:=g) (j:=j) (m-n+1) 0 (f:=r) Y Yl;rw[show 0+(m-n+1)=m-(n-1) by lia]at O
 rw[O,show n-(n-1)=1 by lia,Int.pow_one]at e1
 have J:det (0+1-1) (syl 0 g λb=>r (b+(m-n+1))) j=r (j+(m-n+1)):=rfl;rw[J]at e1;unfold sub;rw[show n-(n-1)=1 by lia]
 exact dX (dY hg) e1
theorem sub_one(h:n<m):sub m n n f g j=g 0 ^ (m-n-1)*g j:=by
 unfold sub;rw[dZ,Nat.add_zero]
 have Y:∀t,det t (syl (t+1) g f) j=g 0 ^ t*g j:=by
  intro t
  induction t with
  | zero =>
    rw[dw,cz];show syl 1 g f 0 j=_;unfold syl sh;rw[if_pos Yl];rfl
  | succ t ih =>
    rw[det_peel λi h1 h2=>by unfold syl;rw[if_pos Yl];unfold sh;rw[if_pos Yl]]
    have O:syl (t+1+1) g f 0 0=g 0:=by unfold syl;rw[if_pos Yl];rfl
    have e1:det t (λa b=>syl (t+1+1) g f (a+1) (b+1)) j=det t (syl (t+1) g f) j:=det_congr λa J b=>by
     unfold syl;rw[if_pos Yl,if_pos Yl];unfold sh;by_cases h2:b<a
     ·rw[if_pos h2,if_pos Yl]
     ·rw[if_neg h2,if_neg Yl,show b+1-(a+1)=b-a by lia]
    rw[O,e1,ih,dz];grind
 have:=Y (m-n-1);rw[show m-n-1+1=m-n by lia]at this
 exact this
theorem sub_scale(h:k<m):sub m n k f (λb=>c*g b) j=c ^ (m-k)*sub m n k f g j:=by
 unfold sub
 have O:∀t,t<=m-k->det (m-k+(n-k)-1) (λa=>if a<t then sh a (λb=>c*g b) else syl (m-k) g f a) j=c ^ t*det (m-k+(n-k)-1) (syl (m-k) g f) j:=by
  intro t
  induction t with
  | zero =>
    intro _;rw[dw,cz];exact det_congr λa _ b=>by rw[if_neg Yl]
  | succ t ih =>
    intro ht;rw[dz,dS (c ^ t) c,dU,<- ih Yl];generalize J:(λa=>if a<t then sh a (λb=>c*g b) else syl (m-k) g f a)=M;have Y:M t=sh t g:=by rw[<- J];show(if t<t then _ else syl (m-k) g f t)=_;rw[if_neg Yl];exact if_pos Yl
    have e1:det (m-k+(n-k)-1) M j=det (m-k+(n-k)-1) (put M t (sh t g)) j:=by rw[<- Y,put_self]
    rw[e1,<- det_scale Yl];refine det_congr λa _ b=>?_;unfold put;by_cases h1:a=t
    ·rw[if_pos Yl,if_pos h1,h1];unfold sh;split<;>grind
    ·rw[if_neg h1,<- J];dsimp only;by_cases h2:a<t
     ·rw[if_pos h2,if_pos Yl]
     ·rw[if_neg h2,if_neg Yl]
 rw[<- O (m-k) (ZR _)];refine det_congr λa _ b=>?_;unfold syl;by_cases h1:a<m-k
 ·rw[if_pos h1,if_pos h1]
 ·rw[if_neg h1,if_neg h1,if_neg h1]
end Dt
namespace Dt
structure Srs(S:Nat->Nat->Int)(m n:Nat)(f g:Nat->Int)(lead held:Int):Prop where
 le:n<=m
 g0:g 0≠0
 l0:lead≠0
 h0:held≠0
 one:n<m\/(lead=1/\held=1)
 is:∀k,k<=n->∃s:Int,(s=1\/s = -1)/\∀j,lead ^ (n-k)*held ^ (m-k-1)*S k j=s*sub m n k f g j
theorem Srs.first(h:n<=m)(Y:g 0≠0):Srs (λk j=>sub m n k f g j) m n f g 1 1 :=
 ⟨h,Y,Yd,Yd,.inr ⟨Z,Z⟩,λk _=>⟨1,.inl rfl,λj=>by rw[e8,e8];grind⟩⟩
section
variable {S:Nat->Nat->Int}{m n:Nat}{f g r:Nat->Int}{e:Nat->Int}{lead held:Int}
theorem Srs.next(I:Srs S m n f g lead held)(aa:l<n)(af:∀i,i<m-l->r i=0)
 (hf:∀b,g 0 ^ (m-n+1)*f b=r b+sumN (λt=>e t*sh t g b) (m-n+1)) (hr:∀b,r (b+(m-l))=lead*held ^ (m-n)*h b) (ad:h 0≠0)
 (hh:(n<m/\g 0 ^ (m-n)=held ^ (m-n-1)*held')\/(m=n/\held'=held)) (ac:held'≠0):Srs S n l g h (g 0) held':=by
 refine⟨Yl,ad,I.g0,ac,.inl aa,λk hk=>?_⟩;have ae:=I.le;obtain⟨J,ag,e1⟩:=I.is k Yl;obtain⟨s2,ah,e2⟩:=sub_step ae aa hk af hf;refine⟨J*s2,by rcases ag with rfl | rfl<;>rcases ah with rfl | rfl<;>decide,λj=>?_⟩
 replace e1:=e1 j
 replace e2:=e2 j
 have er:(λb=>r (b+(m-l)))=λb=>lead*held ^ (m-n)*h b:=funext hr;rw[er,sub_scale Yl]at e2;obtain⟨a,ha⟩:∃a,n-k=a+1:=⟨n-k-1,Yl⟩;obtain⟨d,hd⟩:∃d,m=n+d:=⟨m-n,Yl⟩
 have Y:lead ^ (a+1)*held ^ (a+d)*S k j=J*sub m n k f g j:=by
  rw[ha,show m-k-1=a+d by lia]at e1;exact e1
 have O:(g 0 ^ (d+1)) ^ (a+1)*sub m n k f g j=s2*(g 0 ^ (m-l)*((lead*held ^ d) ^ (a+1)*sub n l k g h j)):=by
  rw[ha,show m-n=d by lia]at e2;exact e2
 generalize sub m n k f g j=D at Y O;generalize sub n l k g h j=D' at O;generalize S k j=T at Y
 -- together
 have e3:(g 0 ^ (d+1)) ^ (a+1)*(lead ^ (a+1)*held ^ (a+d)*T)=J*s2*(g 0 ^ (m-l)*((lead*held ^ d) ^ (a+1)*D')):=by
  rw[Y];have:(g 0 ^ (d+1)) ^ (a+1)*(J*D)=J*((g 0 ^ (d+1)) ^ (a+1)*D):=by grind
  rw[this,O];grind
 rw[show n-k-1=a by lia]
 have z1:lead ^ (a+1)≠0:=dY I.l0;have z2:g 0 ^ (m-l)≠0:=dY I.g0;have z3:held ^ (d*(a+1))≠0:=dY I.h0;have eF:(lead*held ^ d) ^ (a+1)=lead ^ (a+1)*held ^ (d*(a+1)):=by rw[Int.mul_pow,<- ee]
 rw[eF]at e3;refine dX (a:=lead ^ (a+1)) z1 (dX (a:=g 0 ^ (m-l)) z2 (dX (a:=held ^ (d*(a+1))) z3 ?_))
 have eG:(g 0 ^ (d+1)) ^ (a+1)=g 0 ^ (m-l)*g 0 ^ (l-k)*g 0 ^ (d*a):=by
  rw[<- ee,<- eA,<- eA]
  congr 1
  have:(d+1)*(a+1)=d*a+d+a+1:=by rw[dg,dA];lia
  lia
 rw[eG]at e3
 have eH:held ^ (d*(a+1))*held' ^ a=held ^ (a+d)*g 0 ^ (d*a):=by
  rcases hh with ⟨ai,hh⟩ | ⟨he,hh⟩
  ·obtain⟨d',rfl⟩:∃d',d=d'+1:=⟨d-1,Yl⟩;rw[show m-n=d'+1 by lia,show d'+1-1=d' by lia]at hh
   rw[ee (a:=g 0),hh,Int.mul_pow,<- ee];have x1:(d'+1)*(a+1)=(a+(d'+1))+d'*a:=by rw[dg,dA];lia
   rw[x1,eA];grind
  ·obtain rfl:d=0:=by lia
   subst hh
   rcases I.one with z | ⟨_,z⟩
   ·lia
   ·rw[z,e8,e8,e8,Nat.zero_mul,dw]
 have:held ^ (d*(a+1))*(g 0 ^ (m-l)*(lead ^ (a+1)*(g 0 ^ (l-k)*held' ^ a*T)))=g 0 ^ (m-l)*lead ^ (a+1)*g 0 ^ (l-k)*T*(held ^ (d*(a+1))*held' ^ a):=by grind
 rw[this,eH];have:held ^ (d*(a+1))*(g 0 ^ (m-l)*(lead ^ (a+1)*(J*s2*D')))=J*s2*(g 0 ^ (m-l)*(lead ^ (a+1)*held ^ (d*(a+1))*D')):=by grind
 rw[this,<- e3];grind
end
theorem sum_abs:∀{n},(∀i,i<n->(f i).natAbs<=X)->(sumN f n).natAbs<=n*X
 | 0,_=>by show(0:Int).natAbs<=0*X;simp
 | n+1,h=>by
   have ih:=sum_abs (f:=f) (X:=X) (n:=n) λi hi=>h i Yl;have Y:=h n Yl;show(sumN f n+f n).natAbs<=_;have:=da (sumN f n) (f n);rw[dg,dh]
   lia
end Dt
namespace L2
open Dt
theorem JW(f:Nat->Int):∀n,sumN f (n+1)=f 0+sumN (λt=>f (t+1)) n
 | 0=>by show 0+f 0=f 0+0;lia
 | n+1=>by
   have ih:=JW f n;show sumN f (n+1)+f (n+1)=f 0+(sumN (λt=>f (t+1)) n+f (n+1));rw[ih];lia
theorem PQ(f:Nat->Int):∀n,sumN f n=sumN (λt=>f (n-1-t)) n
 | 0=>rfl
 | n+1=>by
   have ih:=PQ f n;rw[JW (λt=>f (n+1-1-t)) n];show sumN f n+f n=f (n+1-1-0)+_;rw[ih,show n+1-1-0=n by lia]
   have e:sumN (λt=>f (n+1-1-(t+1))) n=sumN (λt=>f (n-1-t)) n:=sum_congr λt _=>by rw[show n+1-1-(t+1)=n-1-t by lia]
   rw[e];lia
theorem Ii(l:ki)(i:Nat):(l.map λt:Int=>(t:Rat)).getD i 0=((l.getD i 0:Int):Rat):=by
 rw[cU,cU,bA];cases l[i]? <;> rfl
def cvI(l m:ki)(i:Nat):Int:=sumN (λt=>l.getD t 0*(if t<=i then m.getD (i-t) 0 else 0)) l.length
theorem T6(m:ki):∀(l:ki) (i:Nat),(Fm (l.map λt:Int=>(t:Rat)) (m.map λt:Int=>(t:Rat))).getD i 0=((cvI l m i:Int):Rat)
 | [],i=>by
   show([]:kh).getD i 0=_;cases i<;>rfl
 | a::l,i=>by
   have ih:=T6 m l
   have e1:cvI (a::l) m i=a*m.getD i 0+(match i with | 0=>0 | j+1=>cvI l m j):=by
    unfold cvI;rw[ck,JW]
    congr 1
    match i with
    | 0=>exact sum_zero λt _=>by rw[if_neg Yl];exact eB _
    | j+1 =>
      refine sum_congr λt _=>?_;show l.getD t 0*_=l.getD t 0*_;by_cases h:t<=j
      ·rw[if_pos h,if_pos Yl,show j+1-(t+1)=j-t by lia]
      ·rw[if_neg h,if_neg Yl]
   show(Fe ((m.map λt:Int=>(t:Rat)).map (· * (a:Rat))) (0::Fm (l.map λt:Int=>(t:Rat)) (m.map λt:Int=>(t:Rat)))).getD i 0=_;rw[FE,Fp,Ii,e1,cE,cF]
   match i with
   | 0 =>
     show _+(0:Rat)=_+((0:Int):Rat);rw[eC];grind
   | j+1 =>
     show _+(Fm _ _).getD j 0=_+((cvI l m j:Int):Rat);rw[ih j];grind
theorem T3(h:∀x,Cv.evI fs x*((c:Int):Rat)=Cv.evI os x*Cv.evI gs x+Cv.evI rs x)(i:Nat):c*fs.getD i 0=cvI os gs i+rs.getD i 0:=by
 have e:=HJ (l:=(fs.map λt:Int=>(t:Rat)).map (· * ((c:Int):Rat))) (m:=Fe (Fm (os.map λt:Int=>(t:Rat)) (gs.map λt:Int=>(t:Rat))) (rs.map λt:Int=>(t:Rat))) (λk=>by
  rw[Cv.ev_scale,FK,Ey];exact h _) i
 rw[Fp,FE,T6,Ii,Ii,<- cF,<- cE]at e;have:=eD.mp e;rw[<- this];exact dS _ _
def tf(l:ki):Nat->Int:=λb=>if b<l.length then l.getD (l.length-1-b) 0 else 0
def rf(m:Nat)(rs:ki):Nat->Int:=λb=>if b<=m then rs.getD (m-b) 0 else 0
theorem Oh(hm:fs.length=m+1)(hn:gs.length=n+1)(O:n<=m)(ho:os.length=m-n+1)(hr:rs.length=n)
 (h:∀x,Cv.evI fs x*((c:Int):Rat)=Cv.evI os x*Cv.evI gs x+Cv.evI rs x) (b:Nat) :
 c*tf fs b=rf m rs b+sumN (λt=>os.getD (m-n-t) 0*sh t (tf gs) b) (m-n+1):=by
 by_cases hb:b<=m
 ·have e:=T3 h (m-b);unfold cvI at e;rw[ho,PQ]at e;have e1:tf fs b=fs.getD (m-b) 0:=by unfold tf;rw[if_pos Yl,hm,show m+1-1-b=m-b by lia]
  have Y:rf m rs b=rs.getD (m-b) 0:=if_pos hb;rw[e1,Y,e,Int.add_comm]
  congr 1
  refine sum_congr λt J=>?_;rw[show m-n+1-1-t=m-n-t by lia]
  congr 1
  unfold sh tf;by_cases h1:b<t
  ·rw[if_pos h1,if_pos Yl,cU,dE Yl];rfl
  ·rw[if_neg h1];by_cases h2:b-t<gs.length
   ·rw[if_pos h2,if_pos Yl,show gs.length-1-(b-t)=m-b-(m-n-t) by lia]
   ·rw[if_neg h2,if_neg Yl]
 ·have e1:tf fs b=0:=if_neg Yl;have Y:rf m rs b=0:=if_neg hb;rw[e1,Y,sum_zero λt J=>?_]
  ·lia
  ·unfold sh tf;rw[if_neg Yl,if_neg Yl];lia
theorem Vg(O:rs.length=n)(hi:i<m-n+1)(Y:n<=m):rf m rs i=0:=by
 unfold rf;rw[if_pos Yl,cU,dE Yl];rfl
structure LR(S:Nat->Nat->Int)(fs gs:ki)(lead held:Int):Prop where
 fp:1<=fs.length
 srs:1<=gs.length->Srs S (fs.length-1) (gs.length-1) (tf fs) (tf gs) lead held
theorem KL(h:l[l.length-1]? = some t):tf l 0=t:=by
 have Y:=(ZO.mp h).1;unfold tf;rw[if_pos Yl,du,cU,h];rfl
theorem LR.first(hf:1<=fs.length)(Y:gs.length<=fs.length)(O:∀t,gs[gs.length-1]? = some t->t≠0):LR (λk j=>sub (fs.length-1) (gs.length-1) k (tf fs) (tf gs) j) fs gs 1 1 :=
 ⟨hf,λh1=>Srs.first Yl (by
  have e:gs[gs.length-1]? = some (gs[gs.length-1]'Yl):=cZ _;rw[KL e];exact O _ e)⟩
theorem LR.next(I:LR S fs gs lead held)(hg:gs[gs.length-1]? = some g)(ae:gs.length<=fs.length)(ho:os.length=fs.length+1-gs.length)(hr:rs.length=gs.length-1)
 (h:∀x,Cv.evI fs x*((g ^ os.length:Int):Rat)=Cv.evI os x*Cv.evI gs x+Cv.evI rs x) (hw:w<=rs.length) (hz:∀j,w<=j->rs.getD j 0=0) (Y:1<=w->rs.getD (w-1) 0≠0)
 (hh:hs.length=w) (he:∀j,rs.getD j 0=lead*held ^ (fs.length-gs.length)*hs.getD j 0)
 (hd:(gs.length<fs.length/\g ^ (fs.length-gs.length)=held ^ (fs.length-gs.length-1)*held')\/(fs.length=gs.length/\held'=held)) (ac:held'≠0):LR S gs hs g held':=by
 have hl:=(ZO.mp hg).1;refine⟨Yl,λh1=>?_⟩;obtain⟨m,hm⟩:∃m,fs.length=m+1:=⟨fs.length-1,Yl⟩;obtain⟨n,O⟩:∃n,gs.length=n+1:=⟨gs.length-1,Yl⟩;obtain⟨l,ad⟩:∃l,hs.length=l+1:=⟨hs.length-1,Yl⟩;have s:=I.srs Yl;rw[hm,O,dW,dW]at s;rw[O,ad,dW,dW];have J:=Oh hm O Yl Yl Yl h;have e0:=KL hg;have aa:=s.next (l:=l) (h:=tf hs) (held':=held') (r:=rf m rs) (e:=λt=>os.getD (m-n-t) 0) Yl (λi hi=>?_) (λb=>?_) (λb=>?_) ?_ ?_ ac
 ·rw[e0]at aa;exact aa
 ·unfold rf;by_cases him:i<=m
  ·rw[if_pos him,hz _ Yl]
  ·exact if_neg him
 ·have:=J b;rw[show os.length=m-n+1 by lia]at this
  rw[e0];exact this
 ·rw[hm,O,show m+1-(n+1)=m-n by lia]at he
  unfold rf tf;by_cases hb:b<=l
  ·rw[if_pos Yl,if_pos Yl,he,show hs.length-1-b=m-(b+(m-l)) by lia]
  ·rw[if_neg Yl,if_neg Yl,eB]
 ·intro z;unfold tf at z;rw[if_pos Yl,du]at z;have:=Y Yl;rw[he,show w-1=hs.length-1 by lia,z,eB]at this
  exact this rfl
 ·rw[e0]
  rcases hd with ⟨d1,d2⟩ | ⟨d1,d2⟩
  ·left;rw[hm,O,show m+1-(n+1)=m-n by lia]at d2
   exact⟨Yl,d2⟩
  ·exact .inr ⟨Yl,d2⟩
theorem OJ(h:∀t∈l,t.natAbs<=X)(b:Nat):(tf l b).natAbs<=X:=by
 unfold tf
 split
 ·rw[cU,cZ Yl];exact h _ (d4 _)
 ·exact ZU _
end L2
namespace L2
def FA(d p:kh):Prop:=∃q:kh,∀x,Cv.ev p x=Cv.ev q x*Cv.ev d x
theorem FA.refl(d:kh):FA d d:=⟨[1],λx=>by show _=(1+x*0)*_;grind⟩
theorem FA.nil(d:kh):FA d []:=⟨[],λx=>by show(0:Rat)=0*_;grind⟩
theorem FA.of(h1:FA d p)(h2:FA d q)(h:∀x,Cv.ev r x=Cv.ev a x*Cv.ev p x+Cv.ev b x*Cv.ev q x):FA d r:=by
 obtain⟨u,Y⟩:=h1;obtain⟨v,hv⟩:=h2;exact⟨Fe (Fm a u) (Fm b v),λx=>by rw[h,Y,hv,FK,Ey,Ey];grind⟩
theorem FA.less(Y:c≠0)(h1:FA d p)(h:∀x,Cv.ev r x*c=Cv.ev p x):FA d r:=by
 obtain⟨u,O⟩:=h1;refine⟨u.map (· * c⁻¹),λx=>?_⟩;have e:=dC _ Y;have:Cv.ev r x=Cv.ev r x*c*c⁻¹:=by rw[dB,e,dD]
 rw[this,h,O,Cv.ev_scale];grind
theorem FA.rest(h:FA d p)(J:EI d)(Y:d≠[])(go:EI os)(O:EI rs)(hl:rs.length<d.length)(he:∀x,Cv.ev p x=Cv.ev os x*Cv.ev d x+Cv.ev rs x):rs=[]:=by
 obtain⟨u,hu⟩:=h
 exact(Nt J Y go (EL u) O (.inl rfl) hl (by have:=cI.mpr Y;simpa using this) λx=>by
  rw[<- he,Cv.ev_strip,hu];show _=_+(0:Rat);grind).2
theorem SE(gp:EI p)(Y:EI q)(lp:p[p.length-1]? = some 1)(lq:q[q.length-1]? = some 1)(h1:FA p q)(h2:FA q p):p=q:=by
 have O:p≠[]:=λz=>by rw[z]at lp;cases lp
 have nq:q≠[]:=λz=>by rw[z]at lq;cases lq
 have aa:∀{p q:kh},EI p->EI q->p≠[]->q≠[]->FA p q->∃a:kh,EI a/\a≠[]/\q=Fm a p/\q.length=a.length+p.length-1:=by
  intro p q gp Y O nq h;obtain⟨u,hu⟩:=h
  have J:Cv.strip u≠[]:=λz=>by
   have:q=[]:=EO Y (.inl rfl) λx=>by rw[hu,<- Cv.ev_strip,z];show(0:Rat)*_=0;grind
   exact nq this
  have eq:q=Fm (Cv.strip u) p:=EO Y (HG (EL u) gp J O) λx=>by rw[Ey,Cv.ev_strip,hu]
  refine⟨_,EL u,J,eq,?_⟩;have l1:=cI.mpr J;have l2:=cI.mpr O;rw[eq,FV p l2 _ l1]
 obtain⟨a,ga,J,ea,la⟩:=aa gp Y O nq h1;obtain⟨b,_,nb,_,lb⟩:=aa Y gp nq O h2;have l1:=cI.mpr J;have l2:=cI.mpr nb;have l3:=cI.mpr O
 match a,l1,la,lb,ea with
 | [c],_,la,_,ea =>
   have e:=Ih p 1 lp [c] c rfl;have hl:q.length-1=[c].length+p.length-2:=by rw[la];simp only[ck,cq];lia
   rw[<- ea,<- hl,lq]at e;have hc:c=1:=by have:=Zu.inj e;grind
   refine EO gp Y λx=>?_;rw[ea,Ey,hc];show _=(1+x*0)*_
   grind
 | c::c'::a,_,la,lb,_=>exact absurd lb (by simp only[ck]at la;lia)
def Com(A B F G:kh):Prop:=∀d,(FA d A/\FA d B)↔(FA d F/\FA d G)
theorem Com.refl(A B:kh):Com A B A B:=λ_=>Iff.rfl
theorem Com.turn(A B:kh):Com A B B A:=λ_=>And.comm
theorem Com.trans(h1:Com A B F G)(h2:Com F G P Q):Com A B P Q:=λd=>(h1 d).trans (h2 d)
abbrev cst(l:ki):kh:=l.map λt:Int=>(t:Rat)
theorem Com.step(hc:c≠0)(O:φ≠0)(h:∀x,Cv.evI fs x*((c:Int):Rat)=Cv.evI os x*Cv.evI gs x+Cv.evI rs x)(hr:∀x,Cv.evI rs x=((φ:Int):Rat)*Cv.evI hs x):Com (cst fs) (cst gs) (cst gs) (cst hs):=λd=>by
 have J:=Nm.cast_ne hc;have Y:=Nm.cast_ne O
 constructor
 ·rintro⟨h1,h2⟩;refine⟨h2,?_⟩
  have i1:FA d (cst rs):=FA.of (a:=[(c:Rat)]) (b:=(cst os).map (· * (-1))) h1 h2 λx=>by
   have:=h x;show Cv.evI rs x=((c:Rat)+x*0)*Cv.evI fs x+_;rw[Cv.ev_scale];show Cv.evI rs x=((c:Rat)+x*0)*Cv.evI fs x+Cv.evI os x * -1*Cv.evI gs x
   grind
  exact FA.less Y i1 λx=>by
   have:=hr x;show Cv.evI hs x*(φ:Rat)=Cv.evI rs x
   grind
 ·rintro⟨h1,h2⟩;refine⟨?_,h1⟩
  have i1:FA d (Fm [(c:Rat)] (cst fs)):=FA.of (a:=cst os) (b:=[(φ:Rat)]) h1 h2 λx=>by
   have e1:=h x;have e2:=hr x;rw[Ey];show((c:Rat)+x*0)*Cv.evI fs x=Cv.evI os x*Cv.evI gs x+((φ:Rat)+x*0)*Cv.evI hs x
   grind
  exact FA.less J i1 λx=>by
   rw[Ey];show Cv.evI fs x*(c:Rat)=((c:Rat)+x*0)*Cv.evI fs x
   grind
theorem Com.scale(ha:a≠0)(hb:b≠0)(h1:∀x,Cv.ev A' x=Cv.ev A x*a)(h2:∀x,Cv.ev O x=Cv.ev B x*b):Com A B A' O:=λd=>by
 have J:∀{P Y:kh} {c:Rat},(∀x,Cv.ev Y x=Cv.ev P x*c)->FA d P->FA d Y:=fun{P Y c} h ⟨u,hu⟩=>⟨u.map (· * c),λx=>by rw[h,hu,Cv.ev_scale];grind⟩
 exact⟨fun⟨x,y⟩=>⟨J h1 x,J h2 y⟩,fun⟨x,y⟩=>⟨FA.less ha x λz=>(h1 z).symm,FA.less hb y λz=>(h2 z).symm⟩⟩
structure Kh(A B p:kh):Prop where
 good:EI p
 mono:p[p.length-1]? = some 1
 is:∀d,(FA d A/\FA d B)↔FA d p
theorem Kh.into(h:Kh A B p):FA p A/\FA p B:=(h.is p).mpr (FA.refl p)
theorem Kh.one(h1:Kh A B p)(h2:Kh O Y q)(c:Com A B O Y):p=q :=
 SE h1.good h2.good h1.mono h2.mono ((h2.is p).mp ((c p).mp h1.into)) ((h1.is q).mp ((c q).mpr h2.into))
theorem Kh.ne(h:Kh A B p):p≠[]:=λz=>by have:=h.mono;rw[z]at this;cases this
theorem Kh.of(Y:c≠0)(h:Com A B F [])(g:EI p)(m:p[p.length-1]? = some 1)(e:∀x,Cv.ev p x*c=Cv.ev F x):Kh A B p :=
 ⟨g,m,λd=>(h d).trans ⟨fun⟨x,_⟩=>FA.less Y x e,λx=>⟨FA.of (a:=[c]) (b:=[]) x (FA.nil d) λz=>by
  rw[<- e];show _=(c+z*0)*_+0*_
  grind,FA.nil d⟩⟩⟩
end L2
namespace L2
open Dt
def Ja(l:ki):Prop:=∀t,l[l.length-1]? = some t->t≠0
def PD(l:ki):Prop:=∃D:Nat->Int,D 0≠0/\(∀j,Bd 45100 (D j))/\∀j,tf l j*D 0=D j*tf l 0
structure LRI(S:Nat->Nat->Int)(fs gs fs' gs':ki)(lead held:Int)(B d0:Nat):Prop where
 lr:LR S fs' gs' lead held
 le:gs'.length<=fs'.length
 l8:fs'.length<=8
 t1:Ja fs'
 t2:Ja gs'
 com:Com (cst fs) (cst gs) (cst fs') (cst gs')
 bf:∀t∈fs',Bd B t
 bg:∀t∈gs',Bd B t
 bl:Bd (B+1) lead
 bh:Bd (B*d0+1) held
 d8:d0+fs'.length<=8
 bb:B+1<=3 ^ (9-fs'.length)*3001
 b3:fs'.length=gs'.length->B<=3000
 pd:PD fs'
section
variable {S:Nat->Nat->Int}{fs gs fs' gs':ki}{lead held:Int}{B d0:Nat}
theorem Nl(x:Rat):∀(l m:kh),(∀j,l.getD j 0=m.getD j 0)->Cv.ev l x=Cv.ev m x
 | [],[],_=>rfl
 | [],b::m,h=>by
   have Y:=Nl x [] m λj=>by have:=h (j+1);simpa using this
   have O:=h 0;have e:(0:Rat)=b:=by simpa using O
   show(0:Rat)=b+x*Cv.ev m x;rw[<- Y,<- e];show(0:Rat)=0+x*0;grind
 | a::l,[],h=>by
   have Y:=Nl x l [] λj=>by have:=h (j+1);simpa using this
   have O:=h 0;have e:a=(0:Rat):=by simpa using O
   show a+x*Cv.ev l x=0;rw[Y,e];show(0:Rat)+x*0=0;grind
 | a::l,b::m,h=>by
   have Y:=Nl x l m λj=>by have:=h (j+1);simpa using this
   have O:=h 0;have e:a=b:=by simpa using O
   show a+x*Cv.ev l x=b+x*Cv.ev m x;rw[Y,e]
end
end L2
namespace L2
open Dt
theorem Oj:∀{n:Nat} {M:Nat->Nat->Int} {W j:Nat},n+1<=31->(∀a b,(M a b).natAbs<=2 ^ W)->(det n M j).natAbs<=2 ^ ((n+1)*(W+5))
 | 0,M,W,j,_,h=>by
   show(M 0 j).natAbs<=_;exact ZF (h 0 j) (d5 Yd Yl)
 | n+1,M,W,j,hn,h=>by
   have e:(det (n+1) M j).natAbs<=(n+2)*(2 ^ W*2 ^ ((n+1)*(W+5))):=sum_abs λi hi=>by
    have Y:=Oj (n:=n) (M:=λa b=>M (skip i a) (b+1)) (W:=W) (j:=j) Yl λa b=>h _ _;have O:(sg i).natAbs=1:=by unfold sg;split<;>rfl
    rw[d6,d6,O,dh];exact eE (h i 0) Y
   refine ZF e ?_;have p:(n+1+1)*(W+5)=5+(W+(n+1)*(W+5)):=by rw[dg (n+1) 1];lia
   rw[p,d7,<- d7 2 W];exact dj _ Yl
theorem Vc(h:fs.length<=10)(aa:gs.length<=fs.length)(bf:∀t∈fs,Bd W t)(J:∀t∈gs,Bd W t)(hX:18*(W+5)+1<=X)(k j:Nat):Bd X (sub (fs.length-1) (gs.length-1) k (tf fs) (tf gs) j):=by
 unfold sub;have O:(0:Int).natAbs<=2 ^ W:=ZU _;have hf:=OJ (l:=fs) (X:=2 ^ W) λt Y=>ZH (bf t Y);have hg:=OJ (l:=gs) (X:=2 ^ W) λt Y=>ZH (J t Y)
 have e:=Oj (n:=fs.length-1-k+(gs.length-1-k)-1) (M:=syl (fs.length-1-k) (tf gs) (tf fs)) (W:=W) (j:=j) Yl λa b=>by
  unfold syl
  split
  ·unfold sh;split
   ·exact O
   ·exact hg _
  ·unfold sh;split
   ·exact O
   ·exact hf _
 have q:(fs.length-1-k+(gs.length-1-k)-1+1)*(W+5)<=18*(W+5):=dj _ Yl;exact c5 e (Nat.pow_lt_pow_right Yd Yl)
def PDX(X:Nat)(l:ki):Prop:=∃D:Nat->Int,D 0≠0/\(∀j,Bd X (D j))/\∀j,tf l j*D 0=D j*tf l 0
structure LRJ(S:Nat->Nat->Int)(fs gs fs' gs':ki)(lead held:Int)(X:Nat):Prop where
 lr:LR S fs' gs' lead held
 le:gs'.length<=fs'.length
 l10:fs'.length<=10
 t1:Ja fs'
 t2:Ja gs'
 com:Com (cst fs) (cst gs) (cst fs') (cst gs')
 bf:∀t∈fs',Bd X t
 bg:∀t∈gs',Bd X t
 bl:Bd X lead
 bh:Bd X held
theorem U9(h1:1<=l.length)(Y:Ja l)(O:∀t∈l,Bd X t):PDX X l:=by
 have e:l[l.length-1]? = some (l[l.length-1]'Yl):=cZ _;refine⟨tf l,by rw[KL e];exact Y _ e,λj=>?_,λj=>rfl⟩
 have J:0<2 ^ X:=Nat.pow_pos Yd;have:=OJ (l:=l) (X:=2 ^ X-1) (λt Y=>by have:=O t Y;unfold Bd at this;lia) j
 unfold Bd
 lia
theorem LRJ.first(h1:1<=fs.length)(Y:gs.length<=fs.length)(h8:fs.length<=10)(t1:Ja fs)(J:Ja gs)(bf:∀t∈fs,Bd W t)(bg:∀t∈gs,Bd W t)(hX:18*(W+5)+1<=X) :
 LRJ (λk j=>sub (fs.length-1) (gs.length-1) k (tf fs) (tf gs) j) fs gs fs gs 1 1 X :=
 ⟨LR.first h1 Y J,Y,h8,t1,J,Com.refl _ _,(λt O=>(bf t O).mono Yl),(λt O=>(bg t O).mono Yl),(by unfold Bd;decide:Bd 1 1).mono Yl,(by unfold Bd;decide:Bd 1 1).mono Yl⟩
section
variable {S:Nat->Nat->Int}{fs gs fs' gs':ki}{lead held:Int}{X:Nat}
theorem _root_.Dt.Srs.rest_is{m n:Nat}{f g r:Nat->Int}{e:Nat->Int}{lead held:Int}(I:Srs S m n f g lead held)(O:0<n)(Y:∀i,i<m-n+1->r i=0)(hf:∀b,g 0 ^ (m-n+1)*f b=r b+sumN (λt=>e t*sh t g b) (m-n+1))(j:Nat) :
 ∃c:Int,r (j+(m-n+1))=lead*held ^ (m-n)*c/\(c=S (n-1) j\/c = - S (n-1) j):=by
 obtain⟨s,hs,h⟩:=I.is (n-1) Yl
 replace h:=h j
 rw[sub_rest I.le O I.g0 Y hf,show n-(n-1)=1 by lia,Int.pow_one,show m-(n-1)-1=m-n by have:=I.le;lia]at h
 rcases hs with rfl | rfl
 ·exact⟨S (n-1) j,by grind,.inl rfl⟩
 ·exact⟨- S (n-1) j,by grind,.inr rfl⟩
theorem _root_.Dt.Srs.more_is(I:Srs S m n f g lead held)(h:n<m):∃q:Int,g 0 ^ (m-n)=held ^ (m-n-1)*q/\q≠0/\(q=S n 0\/q = - S n 0):=by
 obtain⟨s,hs,e⟩:=I.is n (ZR _)
 replace e:=e 0
 rw[sub_one h,dZ,dw,cz,<- dz,show(m-n-1).succ=m-n by lia]at e
 have Y:g 0 ^ (m-n)=held ^ (m-n-1)*(s*S n 0):=by rcases hs with rfl | rfl<;>grind
 refine⟨_,Y,λz=>?_,by rcases hs with rfl | rfl<;>grind⟩
 rw[z,eB]at Y;exact absurd Y (dY I.g0)
theorem QQ(h:Bd X d)(e:c=d\/c = -d):Bd X c:=by
 unfold Bd at *
 rcases e with rfl | rfl
 ·exact h
 ·rw[Int.natAbs_neg];exact h
theorem LRJ.next(I:LRJ S fs gs fs' gs' lead held X)(hS:∀k j,Bd X (S k j))(hg:gs'[gs'.length-1]? = some g)(ho:os.length=fs'.length+1-gs'.length)(hr:rs.length=gs'.length-1)
 (ad:∀x,Cv.evI fs' x*((g ^ os.length:Int):Rat)=Cv.evI os x*Cv.evI gs' x+Cv.evI rs x) (hw:w<=rs.length) (hz:∀j,w<=j->rs.getD j 0=0) (O:1<=w->rs.getD (w-1) 0≠0)
 (hh:(gs'.length<fs'.length/\held'=eI (g ^ (fs'.length-gs'.length)) (held ^ (fs'.length-gs'.length-1)))\/(fs'.length=gs'.length/\held'=held)) :
 lead*held ^ (fs'.length-gs'.length)≠0/\LRJ S fs gs gs' ((rs.take w).map λt=>eI t (lead*held ^ (fs'.length-gs'.length))) g held' X/\(gs'.length<fs'.length->PDX X gs'):=by
 have hl:=(ZO.mp hg).1;have s:=I.lr.srs Yl;have ak:=I.le;have an:=I.l10;have ac:lead*held ^ (fs'.length-gs'.length)≠0:=cD s.l0 (dY s.h0);refine⟨ac,?_⟩
 -- each number of the rest
 have dv:∀i,i<rs.length->∃c:Int,rs.getD i 0=lead*held ^ (fs'.length-gs'.length)*c/\Bd X c:=λi hi=>by
  obtain⟨m,hm⟩:∃m,fs'.length=m+1:=⟨fs'.length-1,Yl⟩;obtain⟨n,hn⟩:∃n,gs'.length=n+1:=⟨gs'.length-1,Yl⟩;rw[hm,hn,dW,dW]at s;have ag:=Oh hm hn Yl Yl Yl ad;have e0:=KL hg
  obtain⟨c,J,al⟩:=s.rest_is (r:=rf m rs) (e:=λt=>os.getD (m-n-t) 0) Yl (λi hi=>Vg (n:=n) Yl hi Yl) (λb=>by
   have:=ag b;rw[show os.length=m-n+1 by lia]at this
   rw[e0];exact this) (n-1-i)
  have e1:rf m rs (n-1-i+(m-n+1))=rs.getD i 0:=by
   unfold rf;rw[if_pos Yl,show m-(n-1-i+(m-n+1))=i by lia]
  rw[e1]at J;refine⟨c,?_,QQ (hS _ _) al⟩;rw[hm,hn,show m+1-(n+1)=m-n by lia]
  exact J
 generalize hF:lead*held ^ (fs'.length-gs'.length)=φ at *
 have ae:∀t∈(rs.take w).map λt=>eI t φ,Bd X t:=λt ht=>by
  obtain⟨u,hu,rfl⟩:=eJ.mp ht;obtain⟨i,hi⟩:=eM (eO hu);obtain⟨c,J,bc⟩:=dv i (ZO.mp hi).1;rw[cU,hi]at J;have J:u=φ*c:=J;rw[J,cw _ ac];exact bc
 have hs:∀j,rs.getD j 0=φ*((rs.take w).map λt=>eI t φ).getD j 0:=λj=>by
  by_cases hj:j<w
  ·have e1:rs[j]? = some (rs[j]'Yl):=cZ _;obtain⟨c,J,_⟩:=dv j Yl;have aa:=J;rw[cU,e1]at aa;have aa:rs[j]'Yl=φ*c:=aa;rw[J,cU,bA,List.getElem?_take_of_lt hj,e1,aa];show φ*c=φ*eI (φ*c) φ;rw[cw _ ac]
  ·rw[hz j Yl,cU,dE (by rw[bI,b9];lia)]
   show(0:Int)=φ*0
   lia
 generalize hH:((rs.take w).map λt=>eI t φ)=Y at hs ae;have af:Y.length=w:=by rw[<- hH,bI,b9];lia
 have aj:g≠0:=I.t2 g hg;have bg:Bd X g:=I.bg _ (bD hg)
 have hd:((gs'.length<fs'.length/\g ^ (fs'.length-gs'.length)=held ^ (fs'.length-gs'.length-1)*held')\/(fs'.length=gs'.length/\held'=held))/\held'≠0/\Bd X held':=by
  rcases hh with ⟨h1,h2⟩ | ⟨h1,h2⟩
  ·obtain⟨q,hq,ah,ai⟩:=s.more_is Yl;rw[KL hg,show fs'.length-1-(gs'.length-1)=fs'.length-gs'.length by lia]at hq
   have:held'=q:=by rw[h2,hq,cw _ (dY s.h0)]
   rw[this];exact⟨.inl ⟨h1,hq⟩,ah,QQ (hS _ _) ai⟩
  ·exact⟨.inr ⟨h1,h2⟩,by rw[h2];exact s.h0,by rw[h2];exact I.bh⟩
 have nx:LR S gs' Y g held':=I.lr.next hg ak ho hr ad hw hz O af (λj=>by rw[hF];exact hs j) hd.1 hd.2.1
 have com:Com (cst fs') (cst gs') (cst gs') (cst Y):=Com.step (c:=g ^ os.length) (φ:=φ) (dY aj) ac ad λx=>by
  have e:Cv.ev (cst rs) x=Cv.ev ((cst Y).map (· * (φ:Rat))) x:=Nl x _ _ λj=>by
   rw[Fp,Ii,Ii,hs j,cF,dM]
  show Cv.ev (cst rs) x=_;rw[e,Cv.ev_scale,dM];rfl
 have t2:Ja Y:=λt ht z=>by
  have am:=(ZO.mp ht).1;have:=O Yl;rw[hs,cU,<- af,ht,z]at this;exact this (eB _)
 exact⟨⟨nx,Yl,Yl,I.t2,t2,I.com.trans com,I.bg,ae,bg,hd.2.2⟩,λ_=>U9 Yl I.t2 I.bg⟩
end
end L2
namespace L2
theorem Kp(h:∀x,(x-p)*Cv.ev A x=(x-p)*Cv.ev B x)(x:Rat):Cv.ev A x=Cv.ev B x:=by
 have Y:Cv.strip (Fe A (B.map (· * (-1))))=[]:=by
  by_cases hD:Cv.strip (Fe A (B.map (· * (-1))))=[]
  ·exact hD
  exfalso;have O:EI (Fm [-p,1] (Cv.strip (Fe A (B.map (· * (-1)))))):=HG (.inr ⟨1,Z,Yd⟩) (EL _) (by simp) hD
  have e:=EO O (.inl rfl:EI []) λx=>by
   rw[Ey,Cv.ev_strip,FK,Cv.ev_scale];have:=h x;show(-p+x*(1+x*0))*_=0
   grind
  have l:=FV (Cv.strip (Fe A (B.map (· * (-1))))) (cI.mpr hD) [-p,1] (by simp)
  rw[e]at l;have:=cI.mpr hD;simp only[cq,ck]at l
  lia
 have z:Cv.ev (Cv.strip (Fe A (B.map (· * (-1))))) x=0:=by rw[Y];rfl
 rw[Cv.ev_strip,FK,Cv.ev_scale]at z
 grind
end L2
namespace L2
open PySem PySem.Spec PyProof.Rows
def JT(B:gi)(l:List Env)(e:ce)(c a0 m:cr)(h:gi):Prop :=
 B.StaysIn h/\B.get? e=none/\h.FunFrames B l/\∃(o:Obj) (v:Array cr) (T:ce) (oT:Obj) (ts:Array cr),h.get? e=some o/\o.cls=c/\o.data = .fields v/\v[0]? = some a0/\v[2]? = some .none /\
  v[1]? = some (.ref T)/\B.get? T=none/\T≠e/\h.get? T=some oT/\oT.data = .fields ts/\ts[3]? = some m
def UH(o:Obj):Prop:=∃v,o.data = .fields v/\v[2]? = some .none
theorem JT.obj(x:JT B l e c a0 m h):∃o,h.get? e=some o/\o.cls=c/\UH o:=by
 obtain⟨_,_,_,o,v,_,_,_,J,O,Y,_,q5,_⟩:=x;exact⟨o,J,O,v,Y,q5⟩
section
variable {M:Model}{A:fZ}{E:cr->db->Prop}{s:db}{B:gi}{env:Env}{outer:List Env}{L e:ce}
theorem Ll(hA:A.frames=some (env::outer))(hF:s.heap.FunFrames B (env::outer))(hL:env.frame=some L)
 (he:s.heap.get? e=some o) (hB:B.StaysIn s.heap) (hn:B.get? e=none) (hv:o.data = .fields v) (z1:1<v.size) (z0:v[0]? = some a0) (z2:v[2]? = some .none)
 (k:∀h',JT B (env::outer) e o.cls a0 (hG L) h'->s.heap.UpToSlots h'->Q () { s with heap:=h' }) :
 ge M A (do let fr <- frameOf env;let ps <- entryPlaceOf L ae;let en <- EntryCells.newEntry O fr .none (hG L) .none ps;setField (.ref e) 1 en) Q E s:=by
 have ad:e∉(env::outer).filterMap (·.frame):=λz=>by
  obtain⟨_,o',e',nf⟩:=hF.mem z;rw[he]at e';cases e';exact nf v hv
 refine fW (wpAny_frameOf_fun hA hF hL λg sg=>fW (wpAny_entryPlaceOf λps hp=>?_));unfold EntryCells.newEntry newFields;refine fW (gZ ?_ (hp.sizeOk5 _ _ _ _ _));generalize ac:({ cls:=.type "traceback",dict:=none,data:=.fields ([O,.ref L,.none,hG L,.none]++(if ps.isEmpty then b6 6 Value.none else ps)).toArray }:Obj)=ob;have hg:g.get? e=some o:=(sg.2.1 e ad).trans he;have gB:B.StaysIn g:=λb u q=>(sg.2.1 b λz=>by rw[(hF.mem z).1]at q;cases q).trans (hB b u q)
 have nT:g.objs.size≠e:=Nat.ne_of_gt (Heap.lt_size hg);have J:(g.push ob).get? e=some o:=Heap.get?_push_of_some _ hg;refine wpAny_setField J hv z1 (k _ ?_ ?_)
 ·have d1:=Obj.data_mapFields hv (·.setIfInBounds 1 (Value.ref g.objs.size))
  have aa:∀b u,b≠e->g.get? b=some u->((g.push ob).update e (Obj.mapFields (·.setIfInBounds 1 (Value.ref g.objs.size)))).get? b=some u:=λb u n q=>by
   rw[Heap.get?_update_other _ _ (Ne.symm n)];exact Heap.get?_push_of_some _ q
  have Y:ob.isFreed=false:=by rw[<- ac];rfl
  refine⟨λb u q=>aa b u (λz=>by rw[z,hn]at q;cases q) (gB b u q),hn,hF.of_keeps λb u q nf=>?_,_,_,g.objs.size,ob,_,Heap.get?_update_self _ J (Obj.isFreed_of_fields d1),Obj.cls_mapFields _ _,d1,?_,?_,?_,gB.fresh,nT,?_,by rw[<- ac],?_⟩
  ·obtain⟨sl,q'⟩:=sg.2.2 b u q;exact⟨_,aa b _ (λz=>by rw[z,he]at q;cases q;exact nf v hv) q',Z⟩
  ·rw[eP Yd];exact z0
  ·rw[eP Yd];exact z2
  ·simp[z1]
  ·rw[Heap.get?_update_other _ _ (Ne.symm nT)];exact Heap.get?_push_size g Y
  ·rcases hp with rfl | ⟨_,_,_,_,_,_,_,rfl⟩<;>simp
 ·intro b u q nf;obtain⟨sl,q'⟩:=sg.2.2 b u q;refine⟨sl,?_⟩;rw[Heap.get?_update_other _ _ (λz=>by rw[<- z,he]at q;cases q;exact nf v hv)]
  exact Heap.get?_push_of_some _ q'
theorem UR(hA:A.frames=some (env::outer))(hL:env.frame=some L)(x:JT B (env::outer) e c a0 .none s.heap)
 (k:∀h',JT B (env::outer) e c a0 (hG L) h'->s.heap.UpToSlots h'->Q () { s with heap:=h' }):ge M A (noteFrame (.ref e) env) Q E s:=by
 obtain⟨b1,b2,b3,o,v,T,oT,ts,q1,q2,q3,q4,q5,q6,q7,q8,q9,Y,J⟩:=x;subst q2;unfold noteFrame;simp only[hL];refine fW (wpAny_field q1 q3 q6 ?_);rw[if_pos (by simp)]
 refine fW (wpAny_field q9 Y J ?_);rw[if_neg (by simp[hG])]
 refine fW (wpAny_setField q9 Y (eQ.mp J).1 ?_)
 have no:∀b u,s.heap.get? b=some u->(∀w,u.data ≠ .fields w)->b≠T:=λb u q O z=>by
  rw[z,q9]at q;cases q;exact O ts Y
 have ot:∀b u,b≠T->s.heap.get? b=some u->(s.heap.update T (Obj.mapFields (·.setIfInBounds 3 Value.none))).get? b=some u:=λb u n q=>(Heap.get?_update_other _ _ (Ne.symm n)).trans q;refine Ll hA (b3.of_keeps λb u q O=>⟨u,ot b u (no b u q O) q,Z⟩) hL (ot e o (Ne.symm q8) q1) (λb u q=>ot b u (λz=>by rw[z,q7]at q;cases q) (b1 b u q)) b2 q3 (eQ.mp q6).1 q4 q5 λh' f us=>k h' f λb u q O=>?_
 exact us b u (ot b u (no b u q O) q) O
theorem Qo(x:JT B l e c a0 m s.heap)(k:∀h',JT B l e c a0 .none h'->s.heap.UpToSlots h'->Q () { s with heap:=h' }):ge M A (setFlight (.ref e) none) Q E s:=by
 obtain⟨b1,b2,b3,o,v,T,oT,ts,q1,q2,q3,q4,q5,q6,q7,q8,q9,Y,aa⟩:=x;have z3:3<ts.size:=(eQ.mp aa).1;unfold setFlight;refine fW (wpAny_field q1 q3 q6 ?_);rw[if_pos (by simp)]
 refine wpAny_setField q9 Y z3 ?_
 have no:∀b u,s.heap.get? b=some u->(∀w,u.data ≠ .fields w)->b≠T:=λb u q O z=>by
  rw[z,q9]at q;cases q;exact O ts Y
 have J:∀b u,b≠T->s.heap.get? b=some u->(s.heap.update T (Obj.mapFields (·.setIfInBounds 3 ((none:Option ce).elim Value.none λf=>hG f)))).get? b=some u:=λb u n q=>(Heap.get?_update_other _ _ (Ne.symm n)).trans q;have d1:=Obj.data_mapFields Y (·.setIfInBounds 3 ((none:Option ce).elim Value.none λf=>hG f))
 exact k _ ⟨λb u q=>J b u (λz=>by rw[z,q7]at q;cases q) (b1 b u q),b2,b3.of_keeps λb u q O=>⟨u,J b u (no b u q O) q,rfl⟩,o,v,T,_,_,J e o (Ne.symm q8) q1,q2,q3,q4,q5,q6,q7,q8,Heap.get?_update_self _ q9 (Obj.isFreed_of_fields d1),d1,by simp[z3]⟩
  λb u q O=>⟨u.slots,J b u (no b u q O) q⟩
theorem JT.up(x:JT B (env::outer) e c Y m h):JT B outer e c Y m h:=by
 obtain⟨J,b2,⟨_,_,O⟩,r⟩:=x;exact⟨J,b2,O,r⟩
theorem VL(hA:A.frames=some (env::outer))(J:env.frame=some L)(x:JT B (env::outer) e c Y .none s.heap)
 (k:∀h',JT B outer e c Y .none h'->s.heap.UpToSlots h'->Q () { s with heap:=h' }):ge M A (leaving env (.ref e)) Q E s:=by
 unfold leaving;exact fW (UR hA J x λh1 f1 u1=>Qo (s:={ s with heap:=h1 }) f1 λh2 f2 O=>k h2 f2.up (u1.trans O))
theorem WI(hA:A.frames=some (env::outer))(J:env.frame=some L)(hB:B.StaysIn h)(hF:h.FunFrames B (env::outer))(O:Heap.MadeExcOf h s.heap e c vs)
 (k:∀h' a0,JT B outer e c a0 .none h'->s.heap.UpToSlots h'->Q () { s with heap:=h' }):ge M A (leaving env (.ref e)) Q E s:=by
 obtain⟨t,he,_,_⟩:=O.there
 have Y:B.get? e=none:=by
  cases q:B.get? e with
  | none=>rfl
  | some u=>have:=hB e u q;rw[O.new]at this;cases this
 unfold leaving noteFrame;simp only[J];refine fW (fW (wpAny_field he rfl (x:=.none) rfl ?_));rw[if_neg Yd]
 exact Ll hA (hF.of_keeps λb u q _=>⟨u,O.keeps b u q,Z⟩) J he (λb u q=>O.keeps b u (hB b u q)) Y rfl (by decide:1<6) rfl rfl
  λh1 f1 u1=>Qo (s:={ s with heap:=h1 }) f1 λh2 f2 u2=>k h2 _ f2.up (u1.trans u2)
end
section
variable {prog:fV}{w:fY}{A:fZ}{E:cr->db->Prop}{s:db}{ea:ce}{oe:Obj}
end
structure Hx(X:Cx)(ea:ce)(oe:Obj):Prop where
 hd:X.A.handled=some (.ref ea)
 ct:UH oe
 ob:X.s₀.heap.get? ea=some oe
 fr:X.H₀ ea=none
 nf:ea∉X.fs
 nx:ea∉X.ex
section
variable {X:Cx}{pins:List (ce×Obj)}{σ:St}{H:Hp}{s:db}{ea:ce}{oe:Obj}
end
section
variable {X:Cx}{N:km}{nt:Nat}{js:kj}{scope:gH}{elt iter tg:Expr}{ifs:List Expr}{pos:Pos}{g:TG}{tc:TT}{te tl:TE}{ea:ce}{oe:Obj}
end
def CX2(P:fV)(w:fY):CXT:=λouter H s E e s'=>∃(ea:ce) (cls a0:cr) (B:gi) (H':Hp),e = .ref ea/\s'.os=s.os/\gP s'.gens/\Un (frs outer) [] H H' s.heap s'.heap/\HOk P w H' s'.heap /\
 JT B outer ea cls a0 .none s'.heap/\(∀b o,s.heap.get? b=some o->b∉frs outer->∃o',B.get? b=some o')/\(∀b u,H' b=some u->∃o',B.get? b=some o')/\E cls none H'
section
variable {P:fV}{w:fY}{K:ZE}{mg:Str->Option cr}{base:gi}{N:km}{qual:Str}{scope:gH}{f:ce}{cd:cr}{A:fZ}{outer:List Env}{s:db}{H:Hp}{E:XK}
theorem VJ:V4 (JP (CX2 P w) P w K mg base N qual scope f cd A outer s H E) E:=by
 intro pins σ H1 Y h2 ea cls vs I hx hE;have k1:∀b o,Y.heap.get? b=some o->b∉frs (JP (CX2 P w) P w K mg base N qual scope f cd A outer s H E).stack->∃o',(ZA Y.heap (frs (JP (CX2 P w) P w K mg base N qual scope f cd A outer s H E).stack)).get? b=some o':=λb o e n=>⟨o,PySem.W.hideAll_get _ e n⟩
 have k2:∀b u,H1 b=some u->∃o',(ZA Y.heap (frs (JP (CX2 P w) P w K mg base N qual scope f cd A outer s H E).stack)).get? b=some o':=λb u e=>by
  obtain⟨o,q⟩:=(I.hok b u e).got;exact k1 b o q λz=>by rw[I.stkFree b z]at e;cases e
 refine WI (B:=ZA Y.heap (frs (JP (CX2 P w) P w K mg base N qual scope f cd A outer s H E).stack)) (h:=Y.heap) (outer:=outer) I.ok.frames rfl (λb o q=>ZC _ q) (PySem.W.funFrames_hide I.stack (Uu Y.heap _)) hx λh' t O us=>?_;have aa:Y.heap.UpToSlots h':=(Heap.UpToSlots.of_keeps hx.keeps).trans us;have J:=I.flown (s':=Y) (toks:=Y.toks) Un.refl I.hok rfl I.bare (λb o q=>ZC _ q) k1 k2 O.1 (Inv.slots I.stack aa);refine⟨ea,cls,_,_,H1,Z,I.os,I.bare,J.base,J.hok,O,λb o e n=>?_,k2,hE⟩;obtain⟨o1,q⟩:=I.base.there b o e (λz=>nomatch z);refine k1 b o1 q λz=>?_
 rcases ZL.mp (I.stkSub b z) with e1 | z
 ·exact Zy (Zw (Heap.lt_size e) I.ok.above) e1
 ·exact n z
theorem UO:Kg (CX2 P w) (JP (CX2 P w) P w K mg base N qual scope f cd A outer s H E) E:=by
 rintro pins σ H1 s1 e s2 I ⟨ea,cls,a0,B,H',rfl,os,O,un,ac,aa,k1,k2,hE⟩;refine VL (B:=B) (outer:=outer) I.ok.frames rfl aa λh' Y us=>?_;have J:=I.flown (toks:=s2.toks) un ac os O aa.1 k1 k2 Y.1 (Inv.slots aa.2.2.1 us);refine⟨ea,cls,a0,B,H',Z,os.trans I.os,O,J.base,J.hok,Y,λb o e n=>?_,k2,hE⟩;obtain⟨o1,q⟩:=I.base.there b o e (λz=>nomatch z);refine k1 b o1 q λz=>?_
 rcases ZL.mp (I.stkSub b z) with e1 | z
 ·exact Zy (Zw (Heap.lt_size e) I.ok.above) e1
 ·exact n z
theorem Fun.okY{x:Str}{st:gI}{fd:fT}{ps:km}{k:Nat}{sp:Sp}(F:Fun K x qual st f fd)(S:Eo N ps (El st))(aa:∀vs H Q E,sp vs H Q E->vs.length=ps.length)
 (O:∀(Y:cr) (A:fZ) (outer:List Env) (s:db) (H:Hp) (vs:ko) (Q:VK) (E:XK),Gx k (A.deeper (envOfC qual (El st) s.heap.objs.size f Y))->sp vs H Q E ->
  ∃t,PSs (JP (CX2 P w) P w K mg base N qual (El st) f Y A outer s H E) (Fy st) t/\t { nx:=λ_ H'=>Q .non H',rt:=Q } (start N vs) H):EF P w K mg base (CX2 P w) (k+1) f fd ps sp:=by
 obtain⟨oc,od,kV,ae,pm,an,Y,ct,ad,rfl,lk,J⟩:=F.ex;exact UX lk J S aa λA outer s H vs Q E hr ac=>O Y A outer s H vs Q E hr ac
theorem EF.calm(F:EF P w K mg base CX0 k f fd ps sp):EF P w K mg base CX k f fd ps sp :=
 ⟨F.len,λA outer s H args us vs Q E J O Y hv hs=>gW (F.run A outer s H args us vs Q E J O Y hv hs) λr s' q=>by
  cases r with
  | ok fl=>cases fl<;>exact q
  | error e=>exact False.elim q⟩
theorem EF.or(F:EF P w K mg base CX k f fd ps sp)(G:EF P w K mg base CX k f fd ps Y):EF P w K mg base CX k f fd ps (λvs H Q E=>sp vs H Q E\/Y vs H Q E) :=
 ⟨λvs H Q E h=>h.elim (F.len vs H Q E) (G.len vs H Q E),λA outer s H args us vs Q E hr J O hv hs=>hs.elim (F.run A outer s H args us vs Q E hr J O hv) (G.run A outer s H args us vs Q E hr J O hv)⟩
end
structure FdY(P:fV)(w:fY)(K:ZE)(mg:Str->Option cr)(base:gi)(n:Nat)(x:Str)(ps:km)(sp:Sp):Prop where
 ex:∃(f:ce) (fd:fT),EF P w K mg base (CX2 P w) n f fd ps sp/\Gs K fd ps []/\ZX K (.ref f)=true/\mg x=some (.ref f)
theorem OZ(F:FdY X.prog X.w X.K X.mg X.base n x ps sp)(hr:Gx k X.A)(hg:Gl X x)(hp:Kg (CX2 X.prog X.w) X E)(ha:PA X (e::es) t)(J:n<=k:=by decide)
 (O:(x == ("__debug__" : Str))=false:=by decide) (he:fU (e::es) X.env=(false,gu e X.env)::fU es X.env:=by rfl) (Y:(gC pos (fU es X.env)).any (·.1)=false:=by rfl) :
 PE X (.Call (.Name x p) (e::es) [] pos) (KN sp [] E t):=by
 obtain⟨f,fd,F1,F2,F3,F4⟩:=F.ex;exact Qa F1 (hr.mono J) hg F4 F3 F2 .nil hp ha O he Y
abbrev TB:=(St->Hp->Prop)->XK->St->Hp->Prop
def PB(X:Cx)(body:List gI)(t:TB):Prop:=∀(pins:List (ce×Obj)) (s:db) (σ:St) (H:Hp) (nx:St->Hp->Prop) (E:XK),Inv X pins σ H s->t nx E σ H ->
 ge (gh X.prog X.w) X.A (execs body X.env) (λfl s1=>fl = .next/\∃σ' H',Inv X pins σ' H' s1/\nx σ' H') (λe s2=>∃H1 s1,Inv X pins σ H1 s1/\CX2 X.prog X.w X.stack H1 s1 E e s2) s
def tBa(sp:Sp)(t:TA)(j:Nat):TB:=λnx E σ H=>t σ H λvs H1=>sp vs H1 (λv H2=>nx (σ.set j (some v)) H2) E
section
variable {X:Cx}{n k:Nat}{x:Str}{ps:km}{sp:Sp}{e:Expr}{es:List Expr}{t:TA}{p pos:Pos}
theorem Wv(F:FdY X.prog X.w X.K X.mg X.base n x ps sp)(hr:Gx k X.A)(hg:Gl X x)(ha:PA X.nox (e::es) t)(I:Inv X pins σ H s)(h:t σ H λvs H1=>sp vs H1 Q E)(hn:n<=k)
 (ad:(x == ("__debug__" : Str))=false) (he:fU (e::es) X.env=(false,gu e X.env)::fU es X.env) (ac:(gC pos (fU es X.env)).any (·.1)=false) :
 ge (gh X.prog X.w) X.A (gu (.Call (.Name x p) (e::es) [] pos) X.env) (EP X pins σ Q) (λe s2=>∃H1 O,Inv X pins σ H1 O/\CX2 X.prog X.w X.stack H1 O E e s2) s:=by
 obtain⟨f,fd,F1,F2,F3,F4⟩:=F.ex;refine gO (JJ I hg F4 ?_ ad);refine PySem.W.callWith_K (h₀:=X.base) I.ok.mod.kin F3 (gn (ha pos pins s σ H _ (I.wish _) h) (λus O ⟨vs,H1,Y,r,q⟩=>⟨Y.unwish.kIn,?_⟩) λ_ _ z=>False.elim z) he ac;have Y:=Y.unwish;have aa:us.length=ps.length:=by rw[<- r.length];exact F1.len _ _ _ _ q
 have J:=F2 O us Y.kIn (by rw[ZY];exact aa)
 rw[ZY]at J;refine wpAny_call (gW (F1.run X.A X.stack O H1 ⟨us,[]⟩ us vs _ _ (hr.mono hn) Y.env0 J r q) λr s2 hq=>?_);cases r with
 | error e=>exact⟨H1,O,Y,hq⟩
 | ok fl =>
   cases fl with
   | ret u=>exact Y.after hq
   | next=>exact False.elim hq
   | brk=>exact False.elim hq
   | cont=>exact False.elim hq
theorem Vu(F:FdY X.prog X.w X.K X.mg X.base n x ps sp)(hr:Gx k X.A)(hg:Gl X x)(ha:PA X.nox (e::es) t)(nd:X.N.Nodup)(hj:X.N[j]? = some y)(hy:Loc X.env.scope y)(hn:n<=k:=by decide)
 (hs:swapsWith (.Call (.Name x p) (e::es) [] pos) (some (.Name y yp)) Y.line X.env=pure false:=by rfl) (hf:X.fn y=true\/X.env.scope.names.lookup y=some .local:=by first | exact .inl rfl | exact .inr rfl | assumption)
 (J:(x == ("__debug__" : Str))=false:=by decide) (he:fU (e::es) X.env=(false,gu e X.env)::fU es X.env:=by rfl) (O:(gC pos (fU es X.env)).any (·.1)=false:=by rfl) :
 PB X [.Assign [.Name y yp] (.Call (.Name x p) (e::es) [] pos) Y] (tBa sp t j):=by
 intro pins s σ H nx E I h;exact wpAny_execs_cons (wpAny_Assign_Name (thn (Wv F hr hg ha I h hn J he O) λv s1 ⟨z,H1,I1,r1,q1⟩=>IE I1 nd hj hy r1 (λs2 I2=>gF ⟨Z,_,H1,I2,q1⟩) hf) hs)
end
abbrev SpH:=cr->ce->Hp->VK->Prop
structure FnH(P:fV)(w:fY)(K:ZE)(mg:Str->Option cr)(base:gi)(k:Nat)(f:ce)(fd:fT)(x:Str)(sp:SpH):Prop where
 run:∀(A:fZ) (outer:List Env) (s:db) (H:Hp) (ea:ce) (oe:Obj) (Q:VK),Gx k A->Tw P w K mg base (A.mark (some (.ref ea))) outer s H->BindsTo s fd ⟨[.ref ea],[]⟩ [(x,.ref ea)]->s.heap.get? ea=some oe->UH oe->H ea=none->ea∉frs outer->sp oe.cls ea H Q ->
  g8 (gh P w) (A.mark (some (.ref ea))) (.call (.ref f) ⟨[.ref ea],[]⟩) (CR CX0 outer P w H s Q E0) s
section
variable {P:fV}{w:fY}{K:ZE}{mg:Str->Option cr}{base:gi}
end
structure FdH(P:fV)(w:fY)(K:ZE)(mg:Str->Option cr)(base:gi)(n:Nat)(x y:Str)(sp:SpH):Prop where
 ex:∃(f:ce) (fd:fT),FnH P w K mg base n f fd y sp/\Gs K fd [y] []/\ZX K (.ref f)=true/\mg x=some (.ref f)
abbrev Cx.kept(X:Cx)(ea:ce)(oe:Obj):Cx:={ X.marked ea with pn:=(ea,oe)::X.pn }
section
variable {X:Cx}{pins:List (ce×Obj)}{σ:St}{H:Hp}{s:db}{ea:ce}{oe:Obj}
theorem Inv.kept2(I:Inv X pins σ H s)(h1:s.heap.get? ea=some oe)(h2:H ea=none)(Y:ea≠X.env.locals)(J:ea∉X.fs)(h5:UH oe):Inv (X.kept ea oe) pins σ H s :=
 ⟨⟨I.ok.mod,I.ok.kind,I.ok.glob,I.ok.blt,I.ok.above,I.ok.inj,I.ok.has,I.ok.cab,(λz=>nomatch z),I.ok.frames,I.ok.stk,I.ok.exf,I.ok.bs,I.ok.bsz,I.ok.noex,I.ok.exfs,I.ok.funs,I.ok.frf⟩,I.os,I.bare,I.base,I.loc,I.cell,I.free,I.freeC,λp O=>by
   rcases ZL.mp (show p∈(ea,oe)::(X.pn++pins) from O) with e | z
   ·subst e;obtain⟨v,hv,_⟩:=h5;exact⟨h1,h2,Y,J,λw z=>by rw[hv]at z;cases z⟩
   ·exact I.pin p z,I.hok,I.len⟩
theorem Inv.unkept(J:Inv (X.kept ea oe) pins σ H s)(O:X.Ok):Inv X pins σ H s:=⟨O,J.os,J.bare,J.base,J.loc,J.cell,J.free,J.freeC,λp Y=>J.pin p (ZK _ Y),J.hok,J.len⟩
end
section
open PySem.W
variable {X:Cx}(K:ZE)
end
end L2
namespace L2
open PySem PySem.Spec PyProof.Rows PySem.W
structure Xl(K:Frag)(D:ce)(cs:List ce)(n:Nat):Prop where
 ty:XTy K D
 ve:kitOne K (.ref D) (.type "ValueError")=some true
 of:∀i c,cs[i]? = some c->kitOne K (.ref D) (.ref c)=some (i == n)
end L2
namespace L2
open PySem PySem.Spec PyProof.Rows
section
variable {prog:fV}{w:fY}{A:fZ}{E:cr->db->Prop}
end
end L2
namespace L2
def Cop(A B:kh):Prop:=∃u v,∀x,Cv.ev u x*Cv.ev A x+Cv.ev v x*Cv.ev B x=1
def pw(d:kh):Nat->kh
 | 0=>[1]
 | n+1=>Fm (pw d n) d
end L2
namespace L2
structure Kn(f l g:kh):Prop where
 gg:EI g
 mono:g[g.length-1]? = some 1
 fe:∀x,Cv.ev f x=Cv.ev l x*Cv.ev g x
 un:∃u,(∀x,Cv.ev (dL f) x=Cv.ev g x*Cv.ev u x)/\Cop l u
end L2
namespace L2
open PySem PySem.Spec PyProof.Rows
section
variable {X:Cx}{e:Expr}{es:List Expr}{te:TE}{t:TA}{pos:Pos}
@[irreducible] def PEk(X:Cx)(e:Expr)(te:TE):Prop:=PE X e te
@[irreducible] def PAk(X:Cx)(es:List Expr)(t:TA):Prop:=PA X es t
theorem pek(h:PE X e te):PEk X e te:=by unfold PEk;exact h
end
section
variable {prog:fV}{w:fY}{A:fZ}{E:cr->db->Prop}{s:db}{it d:ce}{i ep:Nat}{od:Obj}{es:Array DictEntry}
end
section
variable {X:Cx}{pins:List (ce×Obj)}{σ:List (Option V)}{H:Hp}{s:db}
end
section
variable {X:Cx}{pins:List (ce×Obj)}{σ:List (Option V)}{H:Hp}{s:db}
end
section
variable {prog:fV}{w:fY}{A:fZ}{E:cr->db->Prop}{s:db}
end
section
variable {X:Cx}{tg:Expr}
end
section
variable {X:Cx}{pins:List (ce×Obj)}{σ:List (Option V)}{H:Hp}{s:db}
end
section
variable {prog:fV}{w:fY}{d:ce}{od:Obj}{es:Array DictEntry}{ep:Nat}
end
section
variable {X:Cx}
end
def We(f:ce)(fd:fT):HO:=.ext λh=>h.get? f=some { cls:=.type "function",data:=.func fd }
def X0(c:ce)(o:Obj):HO:=.ext λh=>h.get? c=some o
def WZ(c:ce)(q:Str):HO:=.ext λh=>h.CodeRec (.ref c) q
section
variable {P:fV}{w:fY}{fs cs:List ce}{H H':Hp}{h h':gi}
end
structure LamOk(H:Hp)(scope:gH)(N ps:km)(cl:List (Str×ce))(σ:St)(vs:ko):Prop where
 kind:scope.kind = .function
 co:scope.isCoroutine=false
 gen:scope.isGenerator=false
 nocell:∀x∈scope.names,x.2 ≠ .cell
 par:∀p∈ps,scope.names.lookup p=some .local
 inj:∀x y c,cl.lookup x=some c->cl.lookup y=some c->x=y
 has:∀x,scope.names.lookup x=some .free->∃c,cl.lookup x=some c
 len:σ.length=N.length
 cel:∀p∈cl,∃(o:Obj) (v:Option cr),H p.2=some (X0 p.2 o)/\o.data = .cell v
 val:∀(i:Nat) (x:Str) (v:V),N[i]? = some x->σ[i]? = some (some v) ->
  (scope.names.lookup x=some .local/\∃j:Nat,ps[j]? = some x/\vs[j]? = some v)\/(scope.names.lookup x=some .free/\∃c o u,cl.lookup x=some c/\H c=some (X0 c o)/\o.data = .cell (some u)/\Fg v u)
section
variable {X:Cx}{CX:CXT}{k i:Nat}{E:XK}{x:Str}{p pos:Pos}{e:Expr}{es:List Expr}{t:TA}
end
structure ClOk(env:Env)(cl:List (Str×ce)):Prop where
 sub:∀x c,(x,c)∈cl->env.cells.lookup x=some c
 inj:∀x y c,(x,c)∈cl->(y,c)∈cl->x=y
section
variable {X:Cx}{CX:CXT}{k:Nat}{f:ce}{fd:fT}{ps:km}{sp:Sp}{E:XK}{x:Str}{p pos:Pos}{e:Expr}{es:List Expr}{t:TA}
end
section
variable {K:ZE}{cs:List ce}{H H':Hp}
end
def Xr(Pt:ce)(q:Str)(H:Hp):Prop:=∃ps:Array cr,H Pt=some (.tbl ps)/\TriplesOk ps.toList/\∀pos cv,codeAmong pos ps.toList=some cv->∃c',cv = .ref c'/\H c'=some (WZ c' q)
structure Xp(H H':Hp)(Pt:ce)(q:Str)(f c':ce)(fd:fT):Prop where
 new:H f=none
 lam:H' f=some (We f fd)
 cod:H' c'=some (WZ c' q)
 tab:Xr Pt q H'
 old:∀b o,b≠Pt->H b=some o->H' b=some o
def spT(ps:km)(Pre:ko->Prop)(Ans:ko->V->Hp->Prop)(H0:Hp):Sp:=λvs H Q _=>vs.length=ps.length/\Pre vs/\E4 H0 H/\∀r H',E4 H H'->Ans vs r H'->Q r H'
structure Tells(P:fV)(w:fY)(K:ZE)(mg:Str->Option cr)(base:gi)(k:Nat)(H:Hp)(f:ce)(ps:km)(Pre:ko->Prop)(Ans:ko->V->Hp->Prop):Prop where
 ex:∃fd,EF P w K mg base CX0 k f fd ps (spT ps Pre Ans H)/\Gs K fd ps []/\H f=some (We f fd)
inductive Cap(sc scope:gH)(N:km)(σ:St):km->ko->Prop
 | nil:Cap sc scope N σ [] []
 | cons {y:Str} {v:V} {fr:km} {ws:ko} (i:Nat) (h1:scope.names.lookup y=some .free) (h2:sc.names.lookup y=some .cell) (hN:N[i]? = some y) (hσ:σ[i]? = some (some v)) (t:Cap sc scope N σ fr ws):Cap sc scope N σ (y::fr) (v::ws)
structure LamSc(scope:gH)(ps:km):Prop where
 kind:scope.kind = .function
 co:scope.isCoroutine=false
 gen:scope.isGenerator=false
 nocell:(scope.names.all λx=>decide (x.2 ≠ .cell))=true
 par:(ps.all λp=>decide (scope.names.lookup p=some .local))=true
section
variable {K:ZE}{Pt:ce}{q:Str}{H H':Hp}
end
section
variable {P:fV}{w:fY}{K:ZE}{mg:Str->Option cr}{base:gi}{N:km}{qual:Str}{scope:gH}{f:ce}{cd:cr}{cl:List (Str×ce)}{A:fZ}{outer:List Env}{s:db}{H:Hp}{E:XK}
end
section
variable {X:Cx}
end
structure Xm(P:fV)(w:fY)(K:ZE)(mg:Str->Option cr)(base:gi)(k:Nat)(H:Hp)(f C:ce):Prop where
 ex:∃fd sp,EF P w K mg base (CX1 P w) k f fd [] sp/\Gs K fd [] []/\H f=some (We f fd)/\∀(Q:VK) (E:XK),(∀H',E4 H H'->E (.ref C) none H')->sp [] H Q E
end L2
namespace L2
def UG(w v r:Int)(N D:kh):Prop:=(∀j:Nat,r<2*((j:Int)+1-w)->N.getD j 0=0)/\(∀j:Nat,r<2*((j:Int)+1-v)+1->D.getD j 0=0)
def QW(w v r:Int)(N D:kh):Prop:=(∃j:Nat,2*((j:Int)+1-w)=r/\N.getD j 0≠0)\/(∃j:Nat,2*((j:Int)+1-v)+1=r/\D.getD j 0≠0)
structure PInv(w v:Int)(n:Nat)(ps:List (Rat×Rat))(r1 r2:Int)(N1 D1 N2 D2:kh):Prop where
 le1:UG w v r1 N1 D1
 top1:QW w v r1 N1 D1
 le2:UG w v r2 N2 D2
 top2:QW w v r2 N2 D2
 lt:r1<r2
 sum:r1+r2=2*(ps.length:Int)-2*n+3
 on1:∀q∈ps,Cv.ev N1 q.1=q.2*Cv.ev D1 q.1
 on2:∀q∈ps,Cv.ev N2 q.1=q.2*Cv.ev D2 q.1
section
variable {w v:Int}{n:Nat}{ps:List (Rat×Rat)}{r1 r2:Int}{N1 D1 N2 D2:kh}
end
structure PUn(w v:Int)(n:Nat)(ps:List (Rat×Rat))(r1 r2:Int)(N1 D1 N2 D2:kh):Prop where
 le1:UG w v r1 N1 D1
 top1:QW w v r1 N1 D1
 le2:UG w v r2 N2 D2
 top2:QW w v r2 N2 D2
 sum:r1+r2=2*(ps.length:Int)-2*n+3
 on1:∀q∈ps,Cv.ev N1 q.1=q.2*Cv.ev D1 q.1
 on2:∀q∈ps,Cv.ev N2 q.1=q.2*Cv.ev D2 q.1
section
variable {w v:Int}{n:Nat}{ps:List (Rat×Rat)}{r1 r2:Int}{N1 D1 N2 D2 N1' D1' N2' D2':kh}{x y:Rat}
end
end L2
namespace L2
section
variable {w v:Int}{n:Nat}{ps:List (Rat×Rat)}{r1 r2:Int}{N1 D1 N2 D2:kh}
end
end L2
namespace L2
open PySem PySem.Spec PyProof.Rows
section
variable {prog:fV}{w:fY}{A:fZ}{E:cr->db->Prop}{s:db}{a kS:ce}{vs:List cr}{kz:ki}{keys:Array cr}{e e1:Nat}{P:PySem.Fin->db->Prop}
end
section
variable {X:Cx}{pins:List (ce×Obj)}{σ:St}{H:Hp}{A:fZ}{E:cr->db->Prop}{a kS:ce}{vs:List cr}{kz:ki}{e1:Nat}{P:PySem.Fin->db->Prop}{f:cr}
end
section
variable {X:Cx}{pins:List (ce×Obj)}{σ:St}{H:Hp}{E:cr->db->Prop}{kz:ki}{f:ce}{s:db}{l:ce}{xs:ko}{Q:VK}
end
abbrev Cx.deep(X:Cx)(A:fZ):Cx:={ X with A:=A }
end L2
namespace L2
open Dt
structure LRK(S:Nat->Nat->Int)(fs gs fs' gs':ki)(lead held:Int)(X:Nat):Prop where
 lr:LR S fs' gs' lead held
 le:gs'.length<=fs'.length
 l10:fs'.length<=12
 t1:Ja fs'
 t2:Ja gs'
 com:Com (cst fs) (cst gs) (cst fs') (cst gs')
 bf:∀t∈fs',Bd X t
 bg:∀t∈gs',Bd X t
 bl:Bd X lead
 bh:Bd X held
section
variable {S:Nat->Nat->Int}{fs gs fs' gs':ki}{lead held:Int}{X:Nat}
end
end L2
namespace L2
open PySem PySem.Spec PyProof.Rows
structure Ov(L:Int)(W:Nat)(cs:kh):Prop where
 ne:L≠0
 is:∀q∈cs,∃t:Int,Bd W t/\q*(L:Rat)=(t:Rat)
theorem Vy{c:Rat}{L t:Int}(h:c*(L:Rat)=(t:Rat)):(c.den:Int)∣L:=by
 have e:c.num*L=t*c.den:=eD.mp (by rw[cF,cF,Nm.num_mul,<- h];grind)
 have Y:c.den∣c.num.natAbs*L.natAbs:=by
  rw[<- d6,e,d6];exact Nat.dvd_mul_left ..
 exact Int.ofNat_dvd_left.mpr (Nat.Coprime.dvd_of_dvd_mul_left c.reduced.symm Y)
theorem WG{c:Rat}{L B t T:Int}{W:Nat}(J:L≠0)(Y:B∣L)(e:c*(L:Rat)=(t:Rat))(eT:(T:Rat)=c*(B:Rat))(O:Bd W t):Bd W T:=by
 obtain⟨k,rfl⟩:=Y;have e2:t=T*k:=eD.mp (by rw[cF,eT,<- e,cF];grind)
 have k0:k≠0:=λz=>J (by rw[z,eB])
 unfold Bd at *;rw[e2,d6]at O;exact c5 (Nat.le_mul_of_pos_right _ (Int.natAbs_pos.mpr k0)) O
theorem Iz:Bd W 0:=by unfold Bd;exact Nat.pow_pos Yd
theorem UP{L u v:Int}{W nx:Nat}{s:Rat}(Y:Bd nx u)(hv:Bd nx v)(hs:s*(v:Rat)=(u:Rat)):∀{r:kh},(∀q∈r,∃t:Int,Bd W t/\q*(L:Rat)=(t:Rat))->∃t:Int,Bd (W+r.length*(nx+1)+1) t/\Cv.ev r s*((L*v ^ r.length:Int):Rat)=(t:Rat)
 | [],_=>⟨0,Iz,by show(0:Rat)*_=((0:Int):Rat);rw[eR];rfl⟩
 | a::r,h=>by
   obtain⟨t1,b1,e1⟩:=h a ZJ;obtain⟨t2,b2,J⟩:=UP Y hv hs (r:=r) λq hq=>h q (ZK _ hq);refine⟨t1*v ^ (r.length+1)+u*t2,?_,?_⟩
   ·have O:=b1.mul (hv.pow (r.length+1));have p2:=Y.mul b2;rw[ck,dg,dh];have m1:nx*(r.length+1)=r.length*nx+nx:=by rw[dA,eS,bY]
    have m2:r.length*(nx+1)=r.length*nx+r.length:=by rw[dA,eS]
    exact(Bd.add (O.mono (n:=W+r.length*(nx+1)+nx+1) Yl) (p2.mono Yl)).mono Yl
   ·show(a+s*Cv.ev r s)*((L*v ^ (r.length+1):Int):Rat)=_;rw[dz,cE,cF,cF,cF,cF,cF,<- e1,<- hs,<- J,cF]
    grind
theorem QA(s:Rat):∀(r:kh) (k:Nat),Cv.ev (r.drop k) s=r.getD k 0+s*Cv.ev (r.drop (k+1)) s
 | [],k=>by rw[List.drop_nil,List.drop_nil];show(0:Rat)=0+s*0;grind
 | q::r,0=>rfl
 | q::r,k+1=>QA s r k
theorem NP(s:Rat):∀(a:kh) (k:Nat),(quo s a).getD k 0=Cv.ev (a.drop (k+1)) s
 | [],k=>by cases k<;>rfl
 | q::r,k=>by
   show(Fe r ((quo s r).map (· * s))).getD k 0=Cv.ev (r.drop k) s;rw[FE,Fp,NP s r k,QA s r k,dM]
theorem Vx(h:Ov L W a)(Y:v≠0)(hu:Bd nx u)(hv:Bd nx v)(hs:s*(v:Rat)=(u:Rat))(ha:a.length<=m):Ov (L*v ^ m) (W+(m*(nx+1)+2)) (quo s a):=by
 refine⟨cD h.ne (dY Y),λq O=>?_⟩;obtain⟨k,hk⟩:=eM O;have e:q=Cv.ev (a.drop (k+1)) s:=by rw[<- NP,cU,hk];rfl
 obtain⟨t,bt,et⟩:=UP (L:=L) (W:=W) hu hv hs (r:=a.drop (k+1)) λq O=>h.is q (List.mem_of_mem_drop O);obtain⟨n,J⟩:∃n,n=(a.drop (k+1)).length:=⟨_,Z⟩;have aa:n<=m:=by rw[J,List.length_drop];lia
 rw[<- J]at bt et;refine⟨t*v ^ (m-n),?_,?_⟩
 ·have p:=bt.mul (hv.pow (m-n));have m1:m*(nx+1)=n*(nx+1)+(m-n)*(nx+1):=by rw[<- dg];congr 1;lia
  have m2:(m-n)*(nx+1)=nx*(m-n)+(m-n):=by rw[dA,eS,bY]
  exact p.mono Yl
 ·have em:L*v ^ m=L*v ^ n*v ^ (m-n):=by rw[dU,<- eA,show n+(m-n)=m by lia]
  rw[e,em,cF (L*v ^ n),cF t,<- et,dB]
theorem Vl(h:∀x,Cv.ev a x=(x-s)*Cv.ev b x)(x:Rat):Cv.ev (quo s a) x=Cv.ev b x:=by
 refine Kp (p:=s) (λx=>?_) x;have e:=KZ s x a;have Y:Cv.ev a s=0:=by rw[h,Rat.sub_self,eR]
 rw[<- h,e,Y];grind
namespace St
open SetTable
abbrev Ris(xs:Array Nat):Prop:=xs.toList.Pairwise (· < ·)
def Way(t:gK)(occ:Nat->Prop)(p:Probe)(j:Nat):Prop:=∃m,(advs t m p).j=j/\∀i,i<m->occ (advs t i p).j
end St
end L2
namespace L2
open PySem PySem.Spec PyProof.Rows
namespace St
open SetTable
abbrev Occ(t:gK)(s:Nat):Prop:=∃q:Nat,t.place[q]? = some s
section
variable {prog:fV}{w:fY}{K:Type}[DecidableEq K]{knd:KeyKind prog w K}{A:fZ}{E:cr->db->Prop}{s:db}
variable {S:ce}{o:Obj}{es:Array (Int×cr)}{ep:Nat}{t:gK}
end
end St
end L2
namespace L2
open PySem PySem.Spec PyProof.Rows
namespace St
open SetTable
section
variable {prog:fV}{w:fY}{K:Type}[DecidableEq K](knd:KeyKind prog w K)(G:ce->Prop)
structure Bdy(h:gi)(keys:List (List K))(es:Array (Int×cr))(t:gK):Prop where
 dm:t.dummies = #[]
 ps:t.place.size=es.size
 len:es.size=keys.length
 ris:Ris t.place
 ent:∀(i:Nat) (e:Int×cr),es[i]? = some e->∃(b:ce) (k:List K) (j:Nat),e=(tupleKeyHash knd k,Value.ref b)/\IsN knd h k b/\k∈keys/\G b/\t.place[i]? = some j/\Way t (Occ t) (t.probeStart e.1) j
 key:∀k∈keys,∃(i:Nat) (b:ce),es[i]? = some (tupleKeyHash knd k,Value.ref b)/\IsN knd h k b
variable {knd}{G}
variable {A:fZ}{E:cr->db->Prop}{s:db}
end
end St
end L2
namespace L2
open PySem PySem.Spec PyProof.Rows
namespace St
section
variable {prog:fV}{w:fY}{K:Type}[DecidableEq K]{knd:KeyKind prog w K}{G:ce->Prop}{A:fZ}{R:Result->db->Prop}{I:ce}{fp wr:List ce}{GG:Array GenState->Array GenState->Prop}{n:Nat}{P:Nat->cr->Prop}{St:Nat->db->Prop}
end
section
variable {prog:fV}{w:fY}{K:Type}[DecidableEq K]{knd:KeyKind prog w K}{A:fZ}{E:cr->db->Prop}{s:db}
end
end St
section
variable {X:Cx}
end
section
open PySem.W
variable {X:Cx}(K:ZE)
inductive TyP(K:ZE)(H:Hp):V->cr->Prop where
 | non:TyP K H .non (.type "NoneType")
 | bl (x:Bool):TyP K H (.bl x) (.type "bool")
 | int (i:Int):TyP K H (.int i) (.type "int")
 | str (x:Str):TyP K H (.str x) (.type "str")
 | lst {a:ce} {xs:ko} (e:SqL K H a xs):TyP K H (.ref a) (.type "list")
 | tup {a:ce} {xs:ko} (e:SqT K H a xs):TyP K H (.ref a) (.type "tuple")
 | dK {a:ce} {kvs:List (Key×V)} (e:H a=some (.dK kvs)):TyP K H (.ref a) (.type "dict")
 | dT {a:ce} {kvs:List (List Key×V)} (e:H a=some (.dT kvs)):TyP K H (.ref a) (.type "dict")
end
end L2
namespace L2
open PySem PySem.Spec PyProof.Rows
section
variable {X:Cx}{e k:Expr}{te tk:TE}
end
def sg(x:Str):kj:=x.cps.toList
def vl(l:kj)(a:Nat):Nat:=l.foldl (λa c=>a*10+(c-48)) a
def txI(i:Int):Str:=Str.ofString (toString i)
def tx(x:Rat):Str:=if x.den=1 then txI x.num else txI x.num++Str.ofString "/" ++ txI x.den
section
variable {X:Cx}
end
open Lean in
local macro_rules
 | `(tactic| trivial)=>do
   let p:Name:=.num (.str (.str (.str (.str (.str .anonymous "_private") "PySem") "Builtin") "Int") "W0All") 0
   let n:=mkIdent (p ++ `PySem.Builtin.isBlank)
   `(tactic| unfold $n:ident)
open Lean in
local macro_rules
 | `(tactic| trivial)=>do
   let p:Name:=.num (.str (.str (.str (.str (.str .anonymous "_private") "PySem") "Builtin") "Int") "W0All") 0
   let n:=mkIdent (p ++ `PySem.Builtin.digitValue?)
   `(tactic| unfold $n:ident)
open Lean in
local macro_rules
 | `(tactic| trivial)=>do
   let p:Name:=.num (.str (.str (.str (.str (.str .anonymous "_private") "PySem") "Builtin") "Int") "W0All") 0
   let n:=mkIdent (p ++ `PySem.Builtin.numeralDigits?)
   `(tactic| unfold $n:ident)
open Lean in
local macro_rules
 | `(tactic| trivial)=>do
   let p:Name:=.num (.str (.str (.str (.str (.str .anonymous "_private") "PySem") "Builtin") "Int") "W0All") 0
   let n:=mkIdent (p ++ `PySem.Builtin.prefixBase?)
   `(tactic| unfold $n:ident)
open Lean in
local macro_rules
 | `(tactic| trivial)=>do
   let p:Name:=.num (.str (.str (.str (.str (.str .anonymous "_private") "PySem") "Builtin") "Int") "W0All") 0
   let n:=mkIdent (p ++ `PySem.Builtin.readNumeral)
   `(tactic| unfold $n:ident)
section
variable {X:Cx}
end
section
variable {X:Cx}
end
section
variable {X:Cx}{pins:List (ce×Obj)}{σ:St}{H:Hp}{s:db}{a:ce}{y v:V}{u r:cr}{A:fZ}{E:cr->db->Prop}{kvs:List (Key×V)}{k:Key}
end
section
variable {X:Cx}{pins:List (ce×Obj)}{σ:St}{H:Hp}{s:db}{a:ce}{v d:V}{u r:cr}{A:fZ}{E:cr->db->Prop}{kvs:List (Key×V)}{k:Key}
end
section
variable {X:Cx}{CX:CXT}{n:Nat}{E:XK}{p pos apos cpos:Pos}{e f o i:Expr}{es:List Expr}{td ty tx tv:TE}{t:TA}
end
structure FdM(CX:CXT)(P:fV)(w:fY)(K:ZE)(mg:Str->Option cr)(base:gi)(n:Nat)(C:ce)(m:Str)(ps:km)(sp:Sp):Prop where
 ex:∃(f:ce) (fd:fT),EF P w K mg base CX n f fd ps sp/\Gs K fd ps []/\Xn K C m f
structure FdI(CX:CXT)(P:fV)(w:fY)(K:ZE)(mg:Str->Option cr)(base:gi)(n:Nat)(C:ce)(x:Str)(ps:km)(sp:Sp):Prop where
 ex:∃(f:ce) (fd:fT),EF P w K mg base CX n f fd ps sp/\Gs K fd ps []/\Mk K C f/\mg x=some (.ref C)
section
variable {X:Cx}{CX:CXT}{n k:Nat}{C:ce}{ps:km}{sp:Sp}{E:XK}{x m:Str}{p pos apos:Pos}{e o:Expr}{es:List Expr}{ta:TE}{t:TA}
end
section
variable {X:Cx}{o value:Expr}{f:Str}{pos pos':Pos}{ta tv:TE}
end
section
variable {prog:fV}{w:fY}{A:fZ}{E:cr->db->Prop}{s:db}
end
section
variable {prog:fV}{w:fY}{A:fZ}{E:cr->db->Prop}{s:db}
end
section
variable {X:Cx}{n k:Nat}{C:ce}{ps:km}{sp:Sp}{E:XK}{x m:Str}{p pos apos:Pos}{e o:Expr}{es:List Expr}{ta:TE}{t:TA}
end
section
variable {X:Cx}
end
inductive Ww(x:V)(lo:Option Int)(hi:Option Int)(H:Hp)(Q:VK):Prop
 | to (y:Str) (k:Nat) (h1:x = .str y) (h2:lo=none) (h3:hi=some (k:Nat)) (h5:y.length<=dl) (h6:Q (.str ⟨((sg y).take k).toArray⟩) H):Ww x lo hi H Q
 | frm (y:Str) (k:Nat) (h1:x = .str y) (h2:lo=some (k:Nat)) (h3:hi=none) (h5:y.length<=dl) (h6:Q (.str ⟨((sg y).drop k).toArray⟩) H):Ww x lo hi H Q
@[irreducible] def UL(K:ZE):R2:=λx y H Q=>∃p ds d,y = .ref p/\Rds K H (.ref p) (.tuple ds)/\Rds K H x d/\SeqAt.shaped (.tuple ds)=true/\SeqAt.shaped d=true/\Q (.bl (ds.any λy=>PyData.eqv y d)) H
theorem X1{K:ZE}{x y:V}{H:Hp}{Q:VK}(h:∃p ds d,y = .ref p/\Rds K H (.ref p) (.tuple ds)/\Rds K H x d/\SeqAt.shaped (.tuple ds)=true/\SeqAt.shaped d=true/\Q (.bl (ds.any λy=>PyData.eqv y d)) H):UL K x y H Q:=by
 unfold UL;exact h
def pI:ki->Int
 | []=>1
 | u::r=>u*pI r
theorem Sh:∀{us:ki},(∀u∈us,u≠0)->pI us≠0
 | [],_=>by decide
 | u::r,h=>cD (h u ZJ) (Sh λx hx=>h x (ZK _ hx))
theorem NS:∀{us:ki},(∀u∈us,Bd n u)->Bd (n*us.length+1) (pI us)
 | [],_=>by unfold Bd;rw[cq,Nat.mul_zero];decide
 | u::r,h=>by
   have ih:=NS (us:=r) λx Y=>h x (ZK _ Y);refine((h u ZJ).mul ih).mono ?_;rw[ck,dA];lia
theorem P5:∀{us:ki} {u:Int},u∈us->(∀u∈us,Bd n u)->∃r,pI us=u*r/\Bd (n*us.length+1) r
 | x::r,u,hu,h=>by
   have hr:∀y∈r,Bd n y:=λy Y=>h y (ZK _ Y)
   rcases ZL.mp hu with z | z
   ·exact⟨pI r,by rw[z];rfl,(NS hr).mono (by rw[ck,dA];lia)⟩
   ·obtain⟨w,e,b⟩:=P5 z hr;refine⟨x*w,by show x*pI r=_;rw[e];grind,((h x ZJ).mul b).mono ?_⟩
    rw[ck,dA];lia
theorem P6{L:Int}{W dv n:Nat}(hL:L≠0)(J:∀u∈us,u≠0)(hu:∀u∈us,Bd n u)
 (hq:∀q∈ql,(∃t:Int,Bd W t/\q*(L:Rat)=(t:Rat))\/∃Y O u v:Int,Bd W Y/\Bd W O/\u∈us/\Bd dv v/\q*(u:Rat)*(L:Rat)=((Y-O:Int):Rat)*(v:Rat)):Ov (L*pI us) (W+dv+n*us.length+2) ql:=by
 refine⟨cD hL (Sh J),λq aa=>?_⟩
 rcases hq q aa with ⟨t,bt,e⟩ | ⟨Y,O,u,v,b1,b2,um,bv,e⟩
 ·refine⟨t*pI us,(bt.mul (NS hu)).mono Yl,?_⟩;rw[cF,cF,<- dB,e]
 ·obtain⟨r,er,br⟩:=P5 um hu;refine⟨(Y-O)*v*r,?_,?_⟩
  ·have hs:Bd (W+1) (Y-O):=by
    have:=b1.add b2.neg
    rwa [<- de]at this
   exact((hs.mul bv).mul br).mono Yl
  ·rw[er,cF,cF u,cF ((Y-O)*v),cF (Y-O),<- e]
   grind
theorem Ov.rb(h:Ov L W cs)(Y:Bd n L)(J:q∈cs):Bd W q.num/\Bd n (q.den:Int):=by
 obtain⟨t,O,e⟩:=h.is q J;have hd:=Vy e;refine⟨WG h.ne hd e ?_ O,?_⟩
 ·rw[Nm.num_mul]
 ·obtain⟨k,hk⟩:=hd;have k0:k≠0:=λz=>h.ne (by rw[hk,z,eB])
  unfold Bd at *;rw[hk,d6]at Y;exact c5 (Nat.le_mul_of_pos_right _ (Int.natAbs_pos.mpr k0)) Y
def KP(k s:Rat)(r:kh):kh:=Fe [s] (Fm [-k,1] r)
theorem RT(k s:Rat)(r:kh)(x:Rat):Cv.ev (KP k s r) x=s+(x-k)*Cv.ev r x:=by
 unfold KP;rw[FK,Ey];show(s+x*0)+(-k+x*(1+x*0))*_=_
 grind
theorem OO(k s:Rat)(r:kh)(i:Nat):(KP k s r).getD i 0=(if i=0 then s else r.getD (i-1) 0)-k*r.getD i 0:=by
 unfold KP;show(Fe [s] (Fe (r.map (· * (-k))) (0::Fe (r.map (· * 1)) (0::[])))).getD i 0=_;rw[FE,FE,Fp]
 match i with
 | 0=>show s+(r.getD 0 0*(-k)+0)=s-k*r.getD 0 0;grind
 | i+1 =>
   show 0+(r.getD (i+1) 0*(-k)+(Fe (r.map (· * 1)) [0]).getD i 0)=_;rw[FE,Fp,if_neg Yl,dW];have z:([0]:kh).getD i 0=0:=by cases i<;>rfl
   rw[z];grind
theorem Ub(o:Ov L W r)(hs:∃t:Int,Bd W t/\s*(L:Rat)=(t:Rat))(O:v≠0)(hu:Bd n u)(hv:Bd n v)(hk:k*(v:Rat)=(u:Rat)):Ov (L*v) (W+n+1) (KP k s r):=by
 refine⟨cD o.ne O,λq hq=>?_⟩;obtain⟨i,hi⟩:=eM hq;have e:q=(if i=0 then s else r.getD (i-1) 0)-k*r.getD i 0:=by rw[<- OO,cU,hi];rfl
 have Y:∀j,∃t:Int,Bd W t/\r.getD j 0*(L:Rat)=(t:Rat):=λj=>by
  cases z:r[j]? with
  | none=>exact⟨0,Iz,by rw[cU,z];show(0:Rat)*_=((0:Int):Rat);rw[eR];rfl⟩
  | some y =>
    have:r.getD j 0=y:=by rw[cU,z];rfl
    rw[this];exact o.is y (bD z)
 obtain⟨t2,b2,J⟩:=Y i
 obtain⟨t1,b1,e1⟩:∃t:Int,Bd W t/\(if i=0 then s else r.getD (i-1) 0)*(L:Rat)=(t:Rat):=by
  by_cases z:i=0
  ·rw[if_pos z];exact hs
  ·rw[if_neg z];exact Y (i-1)
 refine⟨t1*v-u*t2,?_,?_⟩
 ·have:=(b1.mul hv).add ((hu.mul b2).mono (by lia:n+W<=W+n)).neg
  rwa [<- de]at this
 ·rw[e,Rat.intCast_sub,cF,cF,cF,<- e1,<- J,<- hk];generalize(if i=0 then s else r.getD (i-1) 0)=A;generalize r.getD i 0=B
  grind
section
variable {X:Cx}
end
def Wh(K:ZE)(CE:ce)(j:Nat)(te:TE)(tb:TB):TS:=λD σ H=>tb D.nx (λcls _ H2=>eV K cls (.ref CE)=some true/\te σ H2 λv H3=>D.nx (σ.set j (some v)) H3) σ H
theorem U5{CE:ce}{y a:Str}{j:Nat}{ap aa yp ag pos:Pos}{e:Expr}{te:TE}{ad:List gI}{tb:TB}(hb:PB X ad tb)(he:∀ea oe,PE (X.kept ea oe) e te)
 (aq:Gl X y) (ay:X.mg y=some (.ref CE)) (nd:X.N.Nodup) (hj:X.N[j]? = some a) (aj:X.env.scope.names.lookup a=some .local) (ai:X.stack=X.env::X.outer) (af:X.env.frame=some X.env.locals)
 (hs:swapsWith e (some (.Name a ap)) aa.line X.env=pure false:=by rfl) (ax:(y == ("__debug__" : Str))=false:=by decide) :
 PS X (.Try ad [.ExceptHandler (some (.Name y yp)) none [.Assign [.Name a ap] e aa] ag] [] [] pos) (Wh X.K CE j te tb):=by
 intro pins s σ H D I h;refine wpAny_Try_except (gn (hb pins s σ H _ _ I h) (λfl s1 ⟨ef,al,H',I1,q⟩=>?_) λex s2 ⟨H1,s1,I1,hq⟩=>?_)
 ·subst ef;exact gF ⟨al,H',I1,q⟩
 obtain⟨ea,cls,a0,B,H2,rfl,os,ae,un,ak,Y,k1,k2,ar,hts⟩:=hq
 have av:H2 ea=none:=by
  cases z:H2 ea with
  | none=>rfl
  | some u=>obtain⟨o',q'⟩:=k2 ea u z;rw[Y.2.1]at q';cases q'
 have hA:X.A.frames=some (X.env::X.outer):=by rw[<- ai];exact I.ok.frames
 have ff:=Y.2.2.1;rw[ai]at Y;refine UR (B:=B) hA af Y λh3 held aw=>?_;refine Qo (s:={ s2 with heap:=h3 }) held λh4 O ao=>?_
 have u4:=aw.trans ao;have J4:=I1.flown (toks:=s2.toks) un ak os ae Y.1 k1 k2 O.1 (Inv.slots ff u4);refine wpAny_handleBy_cons (codeAny_handlers_test ?_) (by intro q;cases q)
 refine JJ (X:=X.marked ea) (J4.marked ea) aq ay ?_ ax;obtain⟨ob,aA,az,_⟩:=O.obj;have LT:PySem.W.Looks (gh X.prog X.w) h4 (typeOf (.ref ea)) cls:=by subst az;exact(PySem.W.Looks.ld aA).andThen .now
 refine(PySem.W.exm_one J4.kIn LT ar).here ?_;refine codeAny_handlers_suite ?_;refine Qo (s:={ s2 with heap:=h4 }) O λh5 J au=>?_
 obtain⟨oe,am,aB,ah⟩:=J.obj;have J5:=I1.flown (toks:=s2.toks) un ak os ae Y.1 k1 k2 J.1 (Inv.slots ff (u4.trans au))
 have p5:ea∉(X.env::X.outer).filterMap (·.frame):=λz=>by
  obtain⟨_,o',e',nf⟩:=J.2.2.1.mem z;rw[am]at e';cases e';obtain⟨v,hv,_⟩:=ah;exact nf v hv
 rw[ZI,af]at p5;have p3:ea≠X.env.locals:=λz=>p5 (z ▸ ZJ);have p4:ea∉X.fs:=λz=>p5 (ZK _ z);have J6:Inv (X.kept ea oe) pins σ H2 { s2 with heap:=h5 }:=J5.kept2 am av p3 p4 ah
 have as:PS (X.kept ea oe) (.Assign [.Name a ap] e aa) _:=HD nd hj (.inl aj) (he ea oe) hs (.inr aj);have an:RN te (HH j) { nx:=D.nx,rt:=λ_ _=>False } σ H2:=hts;refine wpAny_execs_cons (gn (as pins _ _ _ _ J6 an) (λfl s7 ac=>?_) λ_ _ z=>False.elim z);cases fl with
 | next =>
   obtain⟨al,H7,I7,q7⟩:=ac;exact gF ⟨_,_,I7.unkept I.ok,q7⟩
 | ret u=>obtain⟨_,_,_,_,_,q7⟩:=ac;exact q7.elim
 | brk=>obtain⟨_,_,_,q7⟩:=ac;exact q7.elim
 | cont=>obtain⟨_,_,_,q7⟩:=ac;exact q7.elim
end L2
namespace Pf
set_option maxHeartbeats 4000000
open PySem L2
open L2.Paired renaming mapP->kq,get->kB,get'->kC
open L2.SqL renaming of->ku
open L2.SqT renaming of->kw,same->ky
open L2.E4 renaming seq->kx,new->kA
open L2.Et renaming of->kD
open L2.ED renaming same->kE
open L2.Fh renaming bd->kF
def top(i:Nat):gI:=PySem.Challenge.pw_onecurve_k44_whole_curves_within_their_p.main.body.getD i (.Pass ⟨0,0,0,0⟩)
theorem SR{O:Type}{p:O->Prop}{G:Prop}(h:∃Y,p Y)(f:∀Y,p Y->G):G:=Exists.elim h f
theorem HI{a1 J:Type}{p:a1->J->Prop}{G:Prop}(h:∃Y O,p Y O)(f:∀Y O,p Y O->G):G:=Exists.elim h λY h=>SR h (f Y)
theorem Kd{a1 a2 a3:Type}{p:a1->a2->a3->Prop}{G:Prop}(h:∃Y O J,p Y O J)(f:∀Y O J,p Y O J->G):G:=Exists.elim h λY h=>HI h (f Y)
theorem LZ{a1 a2 a3 a4:Type}{p:a1->a2->a3->a4->Prop}{G:Prop}(h:∃Y J x3 O,p Y J x3 O)(f:∀Y J x3 O,p Y J x3 O->G):G:=Exists.elim h λY h=>Kd h (f Y)
theorem Xg{a1 a2 a3 a4 a5:Type}{p:a1->a2->a3->a4->a5->Prop}{G:Prop}(h:∃Y x2 x3 J O,p Y x2 x3 J O)(f:∀Y x2 x3 J O,p Y x2 x3 J O->G):G:=Exists.elim h λY h=>LZ h (f Y)
theorem Xf{a1 a2 a3 a4 a5 a6:Type}{p:a1->a2->a3->a4->a5->a6->Prop}{G:Prop}(h:∃Y x2 x3 J O x6,p Y x2 x3 J O x6)(f:∀Y x2 x3 J O x6,p Y x2 x3 J O x6->G):G:=Exists.elim h λY h=>Xg h (f Y)
theorem W0{a1 a2 a3 a4 a5 a6 a7:Type}{p:a1->a2->a3->a4->a5->a6->a7->Prop}{G:Prop}(h:∃Y x2 x3 J O x6 x7,p Y x2 x3 J O x6 x7)(f:∀Y x2 x3 J O x6 x7,p Y x2 x3 J O x6 x7->G):G:=Exists.elim h λY h=>Xf h (f Y)
theorem Xe{a1 a2 a3 a4 a5 a6 a7 a8:Type}{p:a1->a2->a3->a4->a5->a6->a7->a8->Prop}{G:Prop}(h:∃Y x2 x3 J O x6 x7 x8,p Y x2 x3 J O x6 x7 x8)(f:∀Y x2 x3 J O x6 x7 x8,p Y x2 x3 J O x6 x7 x8->G):G:=Exists.elim h λY h=>W0 h (f Y)
theorem Xd{a1 a2 a3 a4 a5 a6 a7 a8 a9:Type}{p:a1->a2->a3->a4->a5->a6->a7->a8->a9->Prop}{G:Prop}(h:∃Y x2 x3 x4 O x6 x7 x8 J,p Y x2 x3 x4 O x6 x7 x8 J)(f:∀Y x2 x3 x4 O x6 x7 x8 J,p Y x2 x3 x4 O x6 x7 x8 J->G):G:=Exists.elim h λY h=>Xe h (f Y)
theorem FI{A1 A2 G:Prop}(h:A1/\A2)(f:A1->A2->G):G:=f h.1 h.2
theorem IC{A1 A2 A3 G:Prop}(h:A1/\A2/\A3)(f:A1->A2->A3->G):G:=FI h.2 (f h.1)
theorem Kf{A1 A2 A3 A4 G:Prop}(h:A1/\A2/\A3/\A4)(f:A1->A2->A3->A4->G):G:=IC h.2 (f h.1)
theorem LB{A1 A2 A3 A4 A5 G:Prop}(h:A1/\A2/\A3/\A4/\A5)(f:A1->A2->A3->A4->A5->G):G:=Kf h.2 (f h.1)
theorem Pq{A1 A2 A3 A4 A5 A6 G:Prop}(h:A1/\A2/\A3/\A4/\A5/\A6)(f:A1->A2->A3->A4->A5->A6->G):G:=LB h.2 (f h.1)
theorem RD{A1 A2 A3 A4 A5 A6 A7 G:Prop}(h:A1/\A2/\A3/\A4/\A5/\A6/\A7)(f:A1->A2->A3->A4->A5->A6->A7->G):G:=Pq h.2 (f h.1)
theorem WV{A1 A2 A3 A4 A5 A6 A7 A8 G:Prop}(h:A1/\A2/\A3/\A4/\A5/\A6/\A7/\A8)(f:A1->A2->A3->A4->A5->A6->A7->A8->G):G:=RD h.2 (f h.1)
theorem Xi{A1 A2 A3 A4 A5 A6 A7 A8 A9 G:Prop}(h:A1/\A2/\A3/\A4/\A5/\A6/\A7/\A8/\A9)(f:A1->A2->A3->A4->A5->A6->A7->A8->A9->G):G:=WV h.2 (f h.1)
theorem V3{A1 A2 A3 A4 A5 A6 A7 A8 A9 Y G:Prop}(h:A1/\A2/\A3/\A4/\A5/\A6/\A7/\A8/\A9/\Y)(f:A1->A2->A3->A4->A5->A6->A7->A8->A9->Y->G):G:=Xi h.2 (f h.1)
def Ep(B:Int)(q:Rat):Int:=q.num*B.fdiv q.den
theorem GR(h:(q.den:Int)∣B):((Ep B q:Int):Rat)=q*(B:Rat):=by
 obtain⟨k,rfl⟩:=h;have e:(((q.den:Int)*k).fdiv (q.den:Int))=k:=cw _ (Nm.den_ne q);unfold Ep;rw[e,cF,cF,Nm.num_mul q]
 grind
theorem HQ(h:∀q∈qs,(q.den:Int)∣B)(x:Rat):Cv.ev ((qs.map (Ep B)).map λt:Int=>(t:Rat)) x=Cv.ev qs x*(B:Rat):=by
 rw[<- Cv.ev_scale,dN]
 congr 1
 exact dO λq Y=>GR (h q Y)
inductive IG(K:ZE)(vs:ko)(H:Hp)(Q:VK)(E:XK):Prop
 | mk(b:Bool)(r:ce)(xs:ko)(qs:kh)(n:Nat)(_:vs=[.ref r])(_:Sq b K H r xs)(_:ED K H xs qs)(_:(∀q∈qs,Bd n (q.den:Int)))(_:n*(qs.length+2)<=60000000)(_:∀B:Int,0<B->(∀q∈qs,(q.den:Int)∣B)->Bd (n*qs.length+1) B->Q (.int B) H)
inductive HA(K:ZE)(vs:ko)(H:Hp)(Q:VK)(E:XK):Prop
 | mk(b:Bool)(r:ce)(xs:ko)(qs:kh)(B:Int)(m n:Nat)(_:vs=[.ref r,.int B])(_:Sq b K H r xs)(_:ED K H xs qs)(_:Bd m B)(_:(∀q∈qs,Bd n q.num))(_:m+n<=134217728)(_:qs.length<=1000)(_:∀p,H p=none->Q (.ref p) (upd H p (.lst ((qs.map (Ep B)).map V.int))))
inductive J0(K:ZE)(vs:ko)(H:Hp)(Q:VK)(E:XK):Prop
 | mk(r:ce)(xs:ko)(qs:kh)(_:vs=[.ref r])(_:SqL K H r xs)(_:ED K H xs qs)(_:qs.length<=1000)(_:∀p H',E4 H H'->Crv K H' p (Cv.strip qs)->Q (.ref p) H')
inductive Vd(K:ZE)(vs:ko)(H:Hp)(Q:VK)(E:XK):Prop
 | mk(l rx:ce)(ts:ki)(x:Rat)(m n:Nat)(_:vs=[.ref l,.ref rx])(_:SqL K H l (ts.map V.int))(_:Et K H (.ref rx) x)(_:(∀t∈ts,Bd m t))(_:RB n x)(_:m+(n+1)*(ts.length+4)<=100000000)(_:∀(h s:Int) (p:ce),s=(x.den:Int) ^ ts.length->s≠0->(h:Rat)=Cv.evI ts x*(s:Rat)->Bd (m+(n+1)*(ts.length+2)) h->Bd (n*ts.length+1) s->H p=none->Q (.ref p) (upd H p (.tup [.int h,.int s])))
inductive Jr(K:ZE)(vs:ko)(H:Hp)(Q:VK)(E:XK):Prop
 | mk(r rx:ce)(qs:kh)(x:Rat)(n:Nat)(_:vs=[.ref r,.ref rx])(_:Crv K H r qs)(_:Et K H (.ref rx) x)(_:(∀q∈qs,RB n q))(_:RB n x)(_:(n+1)*((qs.length+4)*(qs.length+4))<=30000000)(_:qs.length<=1000)(_:∀p H',E4 H H'->H' p=some (nT (Cv.ev qs x))->Q (.ref p) H')
theorem SG{b d:Int}(J:0<b)(hd:0<d):0<b*d.fdiv (cu b d:Int)/\b∣b*d.fdiv (cu b d:Int)/\d∣b*d.fdiv (cu b d:Int):=by
 have O:(0:Int)<(cu b d:Int):=by have:=Nm.gcd_pos (a:=b) (b:=d) Yl;lia
 obtain⟨k,hk⟩:(cu b d:Int)∣d:=Int.gcd_dvd_right ..;obtain⟨j,hj⟩:(cu b d:Int)∣b:=Int.gcd_dvd_left ..;generalize(cu b d:Int)=g at *;subst hk;subst hj;have e:(g*k).fdiv g=k:=cw _ Yl;rw[e]
 have Y:0<k:=by
  rcases Int.lt_trichotomy k 0 with z | z | z
  ·have:g*k<0:=eX O z
   lia
  ·rw[z,eB]at hd;lia
  ·exact z
 exact⟨eY J Y,⟨k,Z⟩,⟨j,by grind⟩⟩
inductive KS(K:ZE)(vs:ko)(H:Hp)(Q:VK)(E:XK):Prop
 | mk(f g:ce)(fs gs:ki)(m n:Nat)(_:vs=[.ref f,.ref g])(_:SqL K H f (fs.map V.int))(_:SqL K H g (gs.map V.int))(_:1<=gs.length)(_:fs.length<=1000)(_:gs.length<=1000)(_:(∀t∈fs,Bd m t))(_:(∀t∈gs,Bd n t))(_:m+n<=60000000)(_:∀(p:ce) (H':Hp) (ps:ki),E4 H H'->H p=none->H' p=some (.lst (ps.map V.int))->ps.length=fs.length+gs.length-1->(∀x,Cv.evI ps x=Cv.evI fs x*Cv.evI gs x)->(∀t∈ps,Bd (m+n+20) t)->Q (.ref p) H')
inductive Gd(K:ZE)(vs:ko)(H:Hp)(Q:VK)(E:XK):Prop
 | mk(l:ce)(ts:ki)(b:Int)(_:vs=[.ref l,.int b])(_:SqL K H l (ts.map V.int))(_:b≠0)(_:ts.length<=1000)(_:∀p H',E4 H H'->Crv K H' p (Cv.strip (ts.map λt=>cx t b))->Q (.ref p) H')
def EW(qs:kh):kh:=(Zz (qs.length-1)).map λj=>qs.getD (j+1) 0*((j+1:Nat):Rat)
inductive Ky(K:ZE)(vs:ko)(H:Hp)(Q:VK)(E:XK):Prop
 | mk(r:ce)(qs:kh)(n:Nat)(_:vs=[.ref r])(_:Crv K H r qs)(_:qs.length<=1000)(_:(∀q∈qs,RB n q))(_:n<=10000000)(_:∀p H',E4 H H'->Crv K H' p (EW qs)->Q (.ref p) H')
theorem Mv.put'(m:Mv a H H')(Y:H l=none):Mv a H (upd H' l o):=λb u n q=>by rw[EC (Ez q Y)];exact m b u n q
inductive OQ(K:ZE)(vs:ko)(H:Hp)(Q:VK)(E:XK):Prop
 | mk(r ra rb:ce)(qs:kh)(a b:Rat)(n:Nat)(_:vs=[.ref r,.ref ra,.ref rb])(_:Crv K H r qs)(_:Et K H (.ref ra) a)(_:Et K H (.ref rb) b)(_:(∀q∈qs,RB n q))(_:RB n a)(_:RB n b)(_:n<=6250)(_:qs.length<=16)(_:∀p H' rs,E4 H H'->Crv K H' p rs->rs.length<=qs.length->EI rs->(∀q∈rs,RB (4*(n*qs.length)+23*qs.length+5*n+12) q)->(∀x,Cv.ev rs x=Cv.ev qs (a*x+b))->Q (.ref p) H')
inductive KR(K:ZE)(vs:ko)(H:Hp)(Q:VK)(E:XK):Prop
 | mk(r u:ce)(qs:kh)(y:Rat)(m n:Nat)(_:vs=[.ref r,.ref u])(_:Crv K H r qs)(_:Et K H (.ref u) y)(_:(∀q∈qs,RB m q))(_:RB n y)(_:m+n<=1000000)(_:qs.length<=1000)(_:∀p H',E4 H H'->Crv K H' p (Cv.strip (qs.map (· * y)))->Q (.ref p) H')
inductive Jp(vs:ko)(H:Hp)(Q:VK)(E:XK):Prop
 | mk(b:Int)(n L:Nat)(_:vs=[.int b,.int n])(_:n<=1000)(_:Bd L b)(_:L*n+L<=100000000)(_:Q (.int (b ^ n)) H)
structure WY(fs gs os rs:ki)(lead:Int)(B:Nat):Prop where
 ol:os.length=fs.length+1-gs.length
 rl:rs.length=min fs.length (gs.length-1)
 ev:∀x,Cv.evI fs x*((lead ^ os.length:Int):Rat)=Cv.evI os x*Cv.evI gs x+Cv.evI rs x
 ob:∀t∈os,Bd B t
 rb:∀t∈rs,Bd B t
 top:os≠[]->∃t,fs[fs.length-1]? = some t/\os[os.length-1]? = some (lead ^ (os.length-1)*t)
inductive PU(K:ZE)(vs:ko)(H:Hp)(Q:VK)(E:XK):Prop
 | mk(f g:ce)(fs gs:ki)(lead:Int)(M L:Nat)(_:vs=[.ref f,.ref g])(_:SqL K H f (fs.map V.int))(_:SqL K H g (gs.map V.int))(_:gs[gs.length-1]? = some lead)(_:fs.length<=1000)(_:gs.length<=1000)(_:(∀t∈fs,Bd M t))(_:(∀t∈gs,Bd L t))(_:M+fs.length*(L+1)+L<=100000000)(_:L<=100000000)(_:∀(p pa pb:ce) (H':Hp) (os rs:ki),E4 H H'->H' p=some (.tup [.ref pa,.ref pb])->H' pa=some (.lst (os.map V.int))->H' pb=some (.lst (rs.map V.int))->WY fs gs os rs lead (M+os.length*(L+1))->Q (.ref p) H')
theorem KO(h:EI l):Cv.strip l=l:=by
 have e:=Cv.take_strip l l.length (λj q Y e=>absurd (ZO.mp e).1 Yl) (by
  rcases h with h | h
  ·left;rw[h];rfl
  ·right;exact h)
 rw[cN]at e;exact e.symm
theorem V8(O:0<B)(h:(q.den:Int)∣B)(Y:q≠0):Ep B q≠0:=λz=>by
 have e:=GR h;rw[z,eC]at e
 rcases cP.mp e.symm with y | y
 ·exact Y y
 ·exact Nm.cast_ne (by lia:B≠0) y
theorem IY(h:EI qs)(Y:qs≠[])(O:0<B)(hd:∀q∈qs,(q.den:Int)∣B):∃t,(qs.map (Ep B))[(qs.map (Ep B)).length-1]? = some t/\t≠0:=by
 rcases h with h | ⟨q,e,J⟩
 ·exact absurd h Y
 ·exact⟨Ep B q,by rw[bI,bA,e];rfl,V8 O (hd q (bD e)) J⟩
theorem W4(Y:t≠0)(O:c≠0):cx t c≠0:=λz=>by
 rw[cB,fc]at z
 rcases cP.mp z with y | y
 ·exact Nm.cast_ne Y y
 ·have h1:=dC _ (Nm.cast_ne O);rw[y,Rat.mul_zero]at h1;exact absurd h1 Yd
theorem Nn(ts:ki)(c:Int)(Y:c≠0)(x:Rat):Cv.ev (ts.map λt=>cx t c) x*(c:Rat)=Cv.evI ts x:=by
 have e:(ts.map λt=>cx t c)=(ts.map λt:Int=>(t:Rat)).map (· * (c:Rat)⁻¹):=by
  rw[dN];refine dO λt _=>?_;show cx t c=(t:Rat)*(c:Rat)⁻¹;rw[cB,fc]
 rw[e,Cv.ev_scale,dB,Rat.inv_mul_cancel _ (Nm.cast_ne Y),dD]
 rfl
def GC(ps:kh):List Kw:=(Zz (ps.length-1)).map λk:Nat=>(⟨ps.getD 0 0,(k:Int),ps.getD (k+1) 0⟩:Kw)
def EY(pss:kg):List Kw:=(pss.map GC).flatten
theorem Fi(ps:kh):(GC ps).length=ps.length-1:=by unfold GC;rw[bI,dH]
theorem IZ(pss:kg)(ps:kh):EY (pss++[ps])=EY pss++GC ps:=by
 unfold EY;rw[cM,List.flatten_append];simp
theorem Gb:∀pss:kg,(∀ps∈pss,ps.length<=3)->(EY pss).length<=2*pss.length
 | [],_=>ZR _
 | p::r,h=>by
   have ih:=Gb r λps Y=>h ps (ZK _ Y);have Y:=h p ZJ;have e:EY (p::r)=GC p++EY r:=rfl;rw[e,bH,Fi,ck]
   lia
def P23(pss:kg):Prop:=∀ps∈pss,ps.length=2\/ps.length=3
theorem P23.take(h:P23 pss)(i:Nat):∀ps∈pss.take i,ps.length<=3:=λps Y=>by
 have:=h ps (eO Y);lia
theorem Fv{l:kh}{i:Nat}(h:i<l.length):l[i]? = some (l.getD i 0):=by rw[cU,cZ h];rfl
def cnt(x:Rat):kh->Nat
 | []=>0
 | y::r=>(if x<=y then 1 else 0)+cnt x r
theorem Ta(x:Rat):∀l,cnt x l<=l.length
 | []=>ZR _
 | y::r=>by
   have:=Ta x r;show(if x<=y then 1 else 0)+cnt x r<=r.length+1
   split<;>lia
theorem S6(x:Rat):x<=x+1:=by grind
theorem Vi(x:Rat):¬x+1<=x:=by grind
theorem Oo(x:Rat):∀l,cnt (x+1) l<=cnt x l
 | []=>ZR _
 | y::r=>by
   have:=Oo x r;show(if x+1<=y then 1 else 0)+cnt (x+1) r<=(if x<=y then 1 else 0)+cnt x r;by_cases h:x+1<=y
   ·rw[if_pos h,if_pos (Rat.le_trans (S6 x) h)];lia
   ·rw[if_neg h];lia
theorem Pp:∀{l},x∈l->cnt (x+1) l<cnt x l
 | y::r,h=>by
   show(if x+1<=y then 1 else 0)+cnt (x+1) r<(if x<=y then 1 else 0)+cnt x r
   rcases ZL.mp h with z | z
   ·subst z;have:=Oo x r;rw[if_neg (Vi x),if_pos fg];lia
   ·have:=Pp z;by_cases h:x+1<=y
    ·rw[if_pos h,if_pos (Rat.le_trans (S6 x) h)];lia
    ·rw[if_neg h];lia
theorem Vh(h:j<=100):RB 7 ((j:Nat):Rat):=⟨by rw[fh];unfold Bd;lia,by rw[fi];unfold Bd;decide⟩
inductive JZ(K:ZE)(n:Nat)(vs:ko)(H:Hp)(Q:VK)(E:XK):Prop
 | mk(a:ce)(m:Int)(_:vs=[.ref a,.int m])(_:Pen H a)(_:0<=m)(_:m<=100)(_:∀(l:ce) (H':Hp) (zs:ko) (qs:kh),Mv a H H'->Pen H' a->H l=none->H' l=some (.lst zs)->Fu H' zs qs->(qs.length:Int)=m->qs.Nodup->(∀q∈qs,RB (n+8) q)->Q (.ref l) H')
inductive JY(K:ZE)(n:Nat)(vs:ko)(H:Hp)(Q:VK)(E:XK):Prop
 | mk(a:ce)(most:Int)(_:vs=[.ref a,.int most])(_:Pen H a)(_:1<=most)(_:most<=100)(_:∀(r:ce) (H':Hp) (xs:ko) (pss:kg),Mv a H H'->Pen H' a->SqT K H' r xs->Gu K H' xs pss->P23 pss->(∀ps∈pss,∀q∈ps,RB (n+8) q)->1<=pss.length->(pss.length:Int)<=most->((EY pss).length:Int)<=most->(pss.map λps=>ps.getD 0 0).Nodup->Q (.ref r) H')
inductive MH(K:ZE)(vs:ko)(H:Hp)(Q:VK)(E:XK):Prop
 | mk(r:ce)(xs:ko)(pss:kg)(_:vs=[.ref r])(_:SqT K H r xs)(_:Gu K H xs pss)(_:P23 pss)(_:pss.length<=100)(_:∀(p:ce) (H':Hp) (ys:ko),E4 H H'->H p=none->H' p=some (.lst ys)->LC K H' ys (EY pss)->Q (.ref p) H')
inductive Jq(K:ZE)(vs:ko)(H:Hp)(Q:VK)(E:XK):Prop
 | mk(r:ce)(xs:ko)(pss:kg)(_:vs=[.ref r])(_:SqT K H r xs)(_:Gu K H xs pss)(_:P23 pss)(_:pss.length<=100)(_:∀(p:ce) (H':Hp) (ys:ko),E4 H H'->H p=none->H' p=some (.lst ys)->Fu H' ys ((EY pss).map Kw.x)->Q (.ref p) H')
theorem GI(cs:kh):(EW cs).length=cs.length-1:=by unfold EW;rw[bI,dH]
def pb(n:Nat):Nat->Nat
 | 0=>1
 | k+1=>2*pb n k+n+1
def ml(i:Nat)(σ:St)(H:Hp):Nat:=match σ[i]? with
 | some (some (.ref r))=>(match H r with | some (.lst xs)=>xs.length | _=>0)
 | _=>0
inductive RW(K:ZE)(vs:ko)(H:Hp)(Q:VK)(E:XK):Prop
 | mk(l:ce)(ts:ki)(_:vs=[.ref l])(_:SqL K H l (ts.map V.int))(_:∀(p:ce) (H':Hp) (w:Nat),w<=ts.length->(∀j,w<=j->ts.getD j 0=0)->(1<=w->ts.getD (w-1) 0≠0)->E4 H H'->H' p=some (.lst ((ts.take w).map V.int))->Q (.ref p) H')
inductive MN(K:ZE)(vs:ko)(H:Hp)(Q:VK)(E:XK):Prop
 | mk(f g:ce)(fs gs:ki)(W X:Nat)(_:vs=[.ref f,.ref g])(_:SqL K H f (fs.map V.int))(_:H g=some (.lst (gs.map V.int)))(_:1<=fs.length)(_:gs.length<=fs.length)(_:fs.length<=10)(_:Ja fs)(_:Ja gs)(_:(∀t∈fs,Bd W t))(_:(∀t∈gs,Bd W t))(_:18*(W+5)+1<=X)(_:X<=8000000)(_:∀(p:ce) (H':Hp) (hs:ki),E4 H H'->SqL K H' p (hs.map V.int)->1<=hs.length->hs.length<=fs.length->Ja hs->Com (cst fs) (cst gs) (cst hs) []->(∀t∈hs,Bd X t)->Q (.ref p) H')
theorem Jk(h:EI qs):EI (EW qs):=by
 rcases h with h | ⟨q,e,Y⟩
 ·left;rw[h];rfl
 ·have J:=(ZO.mp e).1;by_cases h1:qs.length=1
  ·left;unfold EW;rw[h1];rfl
  ·right;refine⟨q*((qs.length-1:Nat):Rat),?_,λz=>?_⟩
   ·unfold EW;rw[bI,dH,bA,dI Yl];show some (qs.getD (qs.length-1-1+1) 0*((qs.length-1-1+1:Nat):Rat))=_;rw[show qs.length-1-1+1=qs.length-1 by lia,cU,e];rfl
   ·rcases cP.mp z with y | y
    ·exact Y y
    ·have O:((qs.length-1:Nat):Rat)=((0:Nat):Rat):=y;have:=Rat.natCast_inj.mp O
     lia
theorem atV{i:Nat}{x:V}{k:Int}(h:xs[i]? = some x)(e:k=(i:Int)):atI xs k=some x:=by subst e;exact Ew h
inductive OR(K:ZE)(vs:ko)(H:Hp)(Q:VK)(E:XK):Prop
 | mk(r u:ce)(qs ps:kh)(n N:Nat)(_:vs=[.ref r,.ref u])(_:Crv K H r qs)(_:Crv K H u ps)(_:EI qs)(_:EI ps)(_:(qs≠[]\/ps≠[]))(_:(∀q∈qs,RB n q))(_:(∀q∈ps,RB n q))(_:n<=40000)(_:N<=10)(_:qs.length<=N)(_:ps.length<=N)(_:∀(p:ce) (H':Hp) (cs:kh),E4 H H'->Crv K H' p cs->Kh qs ps cs->cs.length<=N->(∀q∈cs,RB (18*(n*N+n+6)+1) q)->Q (.ref p) H')
inductive MQ(K:ZE)(vs:ko)(H:Hp)(Q:VK)(E:XK):Prop
 | mk(r u:ce)(qs ps:kh)(m L C:Nat)(_:vs=[.ref r,.ref u])(_:Crv K H r qs)(_:Crv K H u ps)(_:EI qs)(_:ps≠[])(_:EI ps)(_:(∀q∈qs,RB m q))(_:(∀q∈ps,RB L q))(_:m<=100000)(_:L<=1000000)(_:m*qs.length+m+(qs.length+1-ps.length)*(L*ps.length+L+1+1)+L*ps.length+20<=C)(_:qs.length<=8)(_:ps.length<=8)(_:∀(p a b:ce) (H':Hp) (os rs:kh),E4 H H'->H' p=some (.tup [.ref a,.ref b])->Crv K H' a os->Crv K H' b rs->EI os->EI rs->os.length=qs.length+1-ps.length->rs.length<ps.length->(∀x,Cv.ev qs x=Cv.ev os x*Cv.ev ps x+Cv.ev rs x)->(∀q∈os,RB C q)->Q (.ref p) H')
theorem R7(hl:cs.length<=8)(O:1<=n)(h:∀q∈cs,RB n q):∀q∈EW cs,RB (n+3) q:=λq Y=>by
 unfold EW at Y;obtain⟨j,J,rfl⟩:=eJ.mp Y;have aa:=ZD.mp J
 have g:RB n (cs.getD (j+1) 0):=by
  rw[cU];cases e:cs[j+1]? with
  | none=>exact RB.zero O
  | some t=>exact h t (bD e)
 exact g.times ⟨by rw[fh];unfold Bd;lia,by rw[fi];unfold Bd;decide⟩
def CDg(l:kh)(D:Int)(B:Nat):Prop:=∀j,∃p:Int,l.getD j 0*(D:Rat)=(p:Rat)/\p.natAbs<=B
def CD(l:kh):Prop:=∃D:Int,0<D/\D<=2 ^ (8*l.length)/\CDg l D (2 ^ (9*l.length))
def lb:Nat->Nat
 | 0=>8 | 1=>8 | 2=>18 | 3=>55 | 4=>193 | _=>809
structure KnF(f l xs:kh):Prop where
 kn:∃g,Kn f l g
 gf:EI f
 gl:EI l
 nf:f≠[]
 nl:l≠[]
 le:l.length<=f.length
 l5:f.length<=5
 bf:∀q∈f,RB (lb f.length) q
 bl:∀q∈l,RB (lb l.length) q
 rt:∀x∈xs,Cv.ev l x=0
 bx:∀x∈xs,RB 8 x
 cd:CD l
 sg:∀x y,(∀r∈xs,0<(x-r)*(y-r))->0<Cv.ev l x*Cv.ev l y
 nz:∀x,x∉xs->Cv.ev f x≠0
 nd:xs.Nodup
structure KnI(f l xs:kh):Prop where
 k:KnF f l xs
 cop:∀B,(∀x∈xs,Cv.ev B x≠0)->Cop l B
structure K39(K:ZE)(a d:ce)(H G:Hp)(c l:ce)(fs ls xs:kh)(kvs:List (List Key×V)):Prop where
 mv:Mv a H G
 pn:Pen G a
 cc:Crv K G c fs
 cl:Crv K G l ls
 dd:G d=some (.dT kvs)
 ks:kvs.map (·.1)=xs.map kQ
theorem Qb(p q:Rat)(Y:q≠0):cx (p.num*q.den) (p.den*q.num)=p / q:=by
 have O:q.num≠0:=λz=>Y (fj.mp z);apply Nm.div_eq (cD (Nm.den_ne p) O);rw[cF,cF,Nm.num_mul p,Nm.num_mul q];have e:p / q*q=p:=cC Y;have h:p / q*(((p.den:Int):Rat)*(q*((q.den:Int):Rat)))=(p / q*q)*(((p.den:Int):Rat)*((q.den:Int):Rat)):=by grind
 rw[h,e]
 grind
inductive K0(K:ZE)(vs:ko)(H:Hp)(Q:VK)(E:XK):Prop
 | mk(x y:V)(p q:Rat)(m n:Nat)(_:vs=[x,y])(_:Et K H x p)(_:Et K H y q)(_:q≠0)(_:RB m p)(_:RB n q)(_:m+n<=100000000)(_:∀r,H r=none->Q (.ref r) (upd H r (nT (p / q))))
theorem RB.over(h1:RB m p)(h2:RB n q)(Y:q≠0):RB (m+n) (p / q):=by
 have O:q.num≠0:=λz=>Y (fj.mp z);rw[<- Qb p q Y];exact⟨Bd.num (h1.1.mul h2.2),Bd.den (cD (Nm.den_ne p) O) (h1.2.mul h2.1)⟩
inductive KW(K:ZE)(vs:ko)(H:Hp)(Q:VK)(E:XK):Prop
 | mk(x y:V)(p q:Rat)(m n:Nat)(_:vs=[x,y])(_:Et K H x p)(_:Et K H y q)(_:RB m p)(_:RB n q)(_:m+n<=100000000)(_:Q (.bl (decide (p<q))) H)
theorem Ql(p q:Rat):decide (p.num*q.den<q.num*p.den)=decide (p<q):=by
 rw[Bool.eq_iff_iff];simp only[decide_eq_true_eq];exact(Rat.lt_iff p q).symm
inductive ML(K:ZE)(vs:ko)(H:Hp)(Q:VK)(E:XK):Prop
 | mk(r:ce)(al:kh)(n:Nat)(_:vs=[.ref r])(_:Crv K H r al)(_:1<=al.length)(_:al.length<=20)(_:(∀q∈al,RB n q))(_:n<=130000)(_:1<=n)(_:∀(p:ce) (H':Hp) (zs:ko),E4 H H'->H' p=some (.lst zs)->ED K H' zs (Gm al)->(∀q∈Gm al,RB (n+22) q)->Q (.ref p) H')
theorem V1(h:k<=n):((ch n k:Nat):Rat)≠0:=λz=>by
 have Y:=Lv n k h;have:ch n k=0:=by exact_mod_cast z
 lia
theorem V0(Y:n<=20):RB 22 ((ch n k:Nat):Rat):=by
 have h1:=QL n k;have h2:2 ^ n<=2 ^ 20:=d5 Yd Y;exact⟨by rw[fh];unfold Bd;lia,by rw[fi];unfold Bd;decide⟩
theorem Sg(hl:Y.length<=20)(h1:1<=n)(h:∀q∈Y,RB n q):∀q∈Gm Y,RB (n+22) q:=λq O=>by
 unfold Gm at O;obtain⟨k,hk,rfl⟩:=eJ.mp O;have J:=ZD.mp hk
 have g:RB n (Y.getD k 0):=by
  rw[cU];cases e:Y[k]? with
  | none=>exact RB.zero h1
  | some t=>exact h t (bD e)
 exact RB.over g (V0 Yl) (V1 Yl)
theorem VG(k:Nat):nT ((k:Nat):Rat) = .tup [.int (k:Int),.int 1]:=by
 unfold nT;rw[fh,fi]
 rfl
theorem Fo{l:ki}{i:Nat}(h:i<l.length):l[i]? = some (l.getD i 0):=by rw[cU,cZ h];rfl
theorem Xh(Y:b≠0)(s t:Int):cx (s+t) b=cx s b+cx t b:=by
 apply Nm.div_eq Y;have h1:=JO Y s;have h2:=JO Y t;rw[cE,<- h1,<- h2]
 grind
theorem SQ(l:ki)(j:Nat):(l.map λt=>cx t b).getD j 0=cx (l.getD j 0) b:=by
 rw[cU,cU,bA];cases l[j]? with
 | none=>exact(Rat.zero_divInt b).symm
 | some t=>rfl
theorem QU(hb:b≠0)(l:ki):∀n,aQN n (l.map λt=>cx t b)=(aIN n l).map λt=>cx t b
 | 0=>rfl
 | n+1=>by
   show aQ (aQN n _)=(aI (aIN n l)).map _;rw[QU hb l n];unfold aQ aI;rw[bI,dN];refine dO λj _=>?_;show _+_=cx _ b;rw[SQ,SQ,Xh hb]
theorem Wg{B:Int}{qs:kh}(Y:B≠0)(h:∀q∈qs,(q.den:Int)∣B):(qs.map (Ep B)).map (λt=>cx t B)=qs:=by
 rw[dN]
 conv=>rhs;rw[<- List.map_id qs]
 refine dO λq O=>?_;exact Nm.div_eq Y (GR (h q O))
theorem Pw(h:∀t∈l,Bd M t):∀i,∀t∈aIN i l,Bd (M+i) t
 | 0=>h
 | i+1=>λt Y=>by
   have ih:=Pw h i
   have g:∀j,Bd (M+i) ((aIN i l).getD j 0):=λj=>by
    rw[cU];cases e:(aIN i l)[j]? with
    | none=>exact(by unfold Bd;decide:Bd 0 0).mono (ZU _)
    | some t=>exact ih t (bD e)
   change t∈aI (aIN i l) at Y;unfold aI at Y;obtain⟨j,_,rfl⟩:=eJ.mp Y;exact(g _).add (g _)
inductive RX(K:ZE)(vs:ko)(H:Hp)(Q:VK)(E:XK):Prop
 | mk(a:ce)(_:vs=[.ref a])(_:Pen H a)(_:∀(t rl rh:ce) (lo hi:Rat) (H':Hp),Mv a H H'->Pen H' a->H' t=some (.tup [.ref rl,.ref rh])->Et K H' (.ref rl) lo->Et K H' (.ref rh) hi->lo<hi->RB 20 lo->RB 20 hi->Q (.ref t) H')
theorem HC{q:Rat}(h:0<=q.num):0<=q:=fk.mp h
theorem Uo{a b:Rat}(h:0<b):a<a+b:=by grind
theorem Jv{q:Rat}(Y:0<=q)(h:q.num≠0):0<q:=by
 have:q≠0:=λz=>h (by rw[z];rfl)
 grind
section
variable {X:Cx}
end
def hf:Rat:=⟨1,2,Yd,Yd⟩
theorem hf2:hf+hf=1:=by decide +kernel
theorem Pm:1-hf=hf:=by have:=hf2;grind
theorem KH(t:Rat)(f:Nat->Rat):∀k i,L2.Cn t (k+1) f i=L2.Cn t k (λj=>f j*(1-t)+f (j+1)*t) i
 | 0,_=>rfl
 | k+1,i=>by
   show L2.Cn t (k+1) f i*(1-t)+L2.Cn t (k+1) f (i+1)*t=L2.Cn t k _ i*(1-t)+L2.Cn t k _ (i+1)*t;rw[KH t f k i,KH t f k (i+1)]
theorem NB(t:Rat)(f:Nat->Rat)(o:Nat):∀k i,L2.Cn t k f (o+i)=L2.Cn t k (λj=>f (o+j)) i
 | 0,_=>rfl
 | k+1,i=>by
   have h1:=NB t f o k (i+1);show L2.Cn t k f (o+i)*(1-t)+L2.Cn t k f (o+i+1)*t=L2.Cn t k _ i*(1-t)+L2.Cn t k _ (i+1)*t;rw[NB t f o k i,show o+i+1=o+(i+1) by lia,h1]
theorem NC(u a b:Rat)(f:Nat->Rat):∀k i,L2.Cn u k (λj=>f j*a+f (j+1)*b) i=L2.Cn u k f i*a+L2.Cn u k f (i+1)*b
 | 0,_=>rfl
 | k+1,i=>by
   show L2.Cn u k _ i*(1-u)+L2.Cn u k _ (i+1)*u=(L2.Cn u k f i*(1-u)+L2.Cn u k f (i+1)*u)*a+(L2.Cn u k f (i+1)*(1-u)+L2.Cn u k f (i+1+1)*u)*b;rw[NC u a b f k i,NC u a b f k (i+1)];grind
theorem Lo(t:Rat):∀n f o,L2.Cn t n (λi=>L2.Cn hf i f o) 0=L2.Cn (t*hf) n f o
 | 0,_,_=>rfl
 | n+1,f,o=>by
   have h0:=Lo t n f o;have h1:=Lo t n (λj=>f j*(1-hf)+f (j+1)*hf) o;show L2.Cn t n (λi=>L2.Cn hf i f o) 0*(1-t)+L2.Cn t n (λi=>L2.Cn hf i f o) (0+1)*t=L2.Cn (t*hf) n f o*(1-t*hf)+L2.Cn (t*hf) n f (o+1)*(t*hf)
   have e:L2.Cn t n (λi=>L2.Cn hf i f o) (0+1)=L2.Cn t n (λi=>L2.Cn hf i (λj=>f j*(1-hf)+f (j+1)*hf) o) 0:=by
    rw[show 0+1=1+0 from rfl,NB];refine L2.GO t _ _ λj _=>?_;show L2.Cn hf (1+(0+j)) f o=_;rw[show 1+(0+j)=(0+j)+1 by lia,KH]
   rw[e,h0,h1,NC,Pm];have:=hf2
   grind
theorem MF(t:Rat):∀n f o,L2.Cn t n (λi=>L2.Cn hf (n-i) f (o+i)) 0=L2.Cn (hf+t*hf) n f o
 | 0,_,_=>rfl
 | n+1,f,o=>by
   have h0:=MF t n (λj=>f j*(1-hf)+f (j+1)*hf) o;have h1:=MF t n f (o+1);show L2.Cn t n (λi=>L2.Cn hf (n+1-i) f (o+i)) 0*(1-t)+L2.Cn t n (λi=>L2.Cn hf (n+1-i) f (o+i)) (0+1)*t=L2.Cn (hf+t*hf) n f o*(1-(hf+t*hf))+L2.Cn (hf+t*hf) n f (o+1)*(hf+t*hf)
   have O:L2.Cn t n (λi=>L2.Cn hf (n+1-i) f (o+i)) 0=L2.Cn t n (λi=>L2.Cn hf (n-i) (λj=>f j*(1-hf)+f (j+1)*hf) (o+i)) 0:=by
    refine L2.GO t _ _ λj Y=>?_;show L2.Cn hf (n+1-(0+j)) f _=L2.Cn hf (n-(0+j)) _ _;rw[show n+1-(0+j)=(n-(0+j))+1 by lia,KH]
   have e1:L2.Cn t n (λi=>L2.Cn hf (n+1-i) f (o+i)) (0+1)=L2.Cn t n (λi=>L2.Cn hf (n-i) f (o+1+i)) 0:=by
    rw[show 0+1=1+0 from rfl,NB];refine L2.GO t _ _ λj Y=>?_;show L2.Cn hf (n+1-(1+(0+j))) f (o+(1+(0+j)))=L2.Cn hf (n-(0+j)) f (o+1+(0+j));rw[show n+1-(1+(0+j))=n-(0+j) by lia,show o+(1+(0+j))=o+1+(0+j) by lia]
   rw[O,e1,h0,h1,NC,Pm];have:=hf2
   grind
def En:Nat->(Nat->Rat)->Nat->Rat
 | 0,f,i=>f i
 | k+1,f,i=>En k f (i+1)-En k f i
theorem Py(a b:Nat->Rat):∀k i,L2.An k (λm=>a m-b m) i=L2.An k a i-L2.An k b i
 | 0,_=>rfl
 | k+1,i=>by
   show L2.An k _ i+L2.An k _ (i+1)=(L2.An k a i+L2.An k a (i+1))-(L2.An k b i+L2.An k b (i+1));rw[Py a b k i,Py a b k (i+1)];grind
theorem ND(g:Nat->Rat):∀k i,L2.An k (λm=>g (m+1)) i=L2.An k g (i+1)
 | 0,_=>rfl
 | k+1,i=>by
   show L2.An k _ i+L2.An k _ (i+1)=L2.An k g (i+1)+L2.An k g (i+1+1);rw[ND g k i,ND g k (i+1)]
theorem QY(f:Nat->Rat):∀j i,L2.An j (λm=>En m f i) 0=f (i+j)
 | 0,_=>rfl
 | j+1,i=>by
   show L2.An j (λm=>En m f i) 0+L2.An j (λm=>En m f i) (0+1)=_;rw[<- ND (λm=>En m f i) j 0];show L2.An j (λm=>En m f i) 0+L2.An j (λm=>En m f (i+1)-En m f i) 0=_;rw[Py,QY f j (i+1),show i+(j+1)=i+1+j by lia];grind
theorem JU:∀k n,(∀j,j<=k->f (n+j)=g (n+j))->L2.An k f n=L2.An k g n
 | 0,n,h=>h 0 (ZR _)
 | k+1,n,h=>by
   show L2.An k f n+L2.An k f (n+1)=L2.An k g n+L2.An k g (n+1)
   rw[JU (f:=f) (g:=g) k (n+1) λj hj=>by
    have:=h (j+1) Yl;rw[show n+1+j=n+(j+1) by lia];exact this,
    JU (f:=f) (g:=g) k n λj hj=>h j Yl]
theorem QP(n:Nat)(f:Nat->Rat)(t:Rat):L2.Cn t n f 0=Cv.ev ((Zz (n+1)).map λi=>((L2.ch n i:Nat):Rat)*En i f 0) t:=by
 have e1:L2.Cn t n f 0=L2.Cn t n (λj=>L2.An j (λm=>En m f 0) 0) 0:=L2.GO t _ _ λj _=>by
  show f (0+j)=L2.An (0+j) _ 0;rw[QY,dJ,dJ]
 rw[e1,L2.JG];show L2.Bn t n (λm=>En m f 0) 0=_;rw[L2.MC,L2.W2,bI,dH];refine L2.GX t _ λi hi=>?_;show _*En (0+i) f 0=_;rw[cU,bA,dI hi,dJ];rfl
theorem W7(h:k<=n):((L2.ch n k:Nat):Rat)≠0:=λz=>by
 have Y:=L2.Lv n k h;have:L2.ch n k=0:=by exact_mod_cast z
 lia
theorem Oy(h:∀t,L2.Cn t n f 0=L2.Cn t n g 0):∀j,j<=n->f j=g j:=λj hj=>by
 have J:∀m,m<=n->En m f 0=En m g 0:=λm Y=>by
  have e:=L2.HJ (l:=(Zz (n+1)).map λi=>((L2.ch n i:Nat):Rat)*En i f 0) (m:=(Zz (n+1)).map λi=>((L2.ch n i:Nat):Rat)*En i g 0) (λk=>by rw[<- QP,<- QP,h]) m
  rw[cU,cU,bA,bA,dI Yl]at e;have e:((L2.ch n m:Nat):Rat)*En m f 0=((L2.ch n m:Nat):Rat)*En m g 0:=e;have h0:=W7 Y;have O:((L2.ch n m:Nat):Rat)*(En m f 0-En m g 0)=0:=by grind
  rcases cP.mp O with z | z
  ·exact absurd z h0
  ·grind
 have a:=QY f j 0;have b:=QY g j 0;rw[dJ]at a b;rw[<- a,<- b];exact JU j 0 λm Y=>by rw[dJ];exact J m Yl
def LW(hs:kh):kh:=(Zz hs.length).map λi=>L2.Cn hf i (λk=>hs.getD k 0) 0
def upL(hs:kh):kh:=(Zz hs.length).map λi=>L2.Cn hf (hs.length-1-i) (λk=>hs.getD k 0) i
theorem O9(hs:kh):(LW hs).length=hs.length:=by unfold LW;rw[bI,dH]
theorem OF(hs:kh):(upL hs).length=hs.length:=by unfold upL;rw[bI,dH]
theorem Uq(h:i<hs.length):(LW hs).getD i 0=L2.Cn hf i (λk=>hs.getD k 0) 0:=by
 unfold LW;rw[cU,bA,dI h];rfl
theorem V7(h:i<hs.length):(upL hs).getD i 0=L2.Cn hf (hs.length-1-i) (λk=>hs.getD k 0) i:=by
 unfold upL;rw[cU,bA,dI h];rfl
theorem Qk{l m:kh}(Y:l.length=m.length)(h:∀j,j<l.length->l.getD j 0=m.getD j 0):l=m:=by
 apply cV;intro i;by_cases hi:i<l.length
 ·have:=h i hi;rw[cU,cU,cZ hi,cZ Yl]at this;rw[cZ hi,cZ Yl];exact congrArg some this
 ·rw[dE Yl,dE Yl]
theorem Kb(cs:kh)(lo hi t:Rat):L2.Cn t ((L2.hts cs lo hi).length-1) (λk=>(L2.hts cs lo hi).getD k 0) 0=Cv.ev cs (lo+(hi-lo)*t):=by
 rw[<- L2.Rr,L2.QN _ _ _ _ (by rw[L2.FH];lia)]
theorem Ut(cs:kh)(lo hi:Rat):L2.hts cs lo ((lo+hi)*hf)=LW (L2.hts cs lo hi):=by
 have J:=L2.FH cs lo ((lo+hi)*hf);have l2:=L2.FH cs lo hi;refine Qk (by rw[O9];lia) λj hj=>?_
 refine Oy (n:=(L2.hts cs lo hi).length-1) (f:=λk=>(L2.hts cs lo ((lo+hi)*hf)).getD k 0) (g:=λk=>(LW (L2.hts cs lo hi)).getD k 0) (λt=>?_) j Yl;have e1:=Kb cs lo ((lo+hi)*hf) t;rw[show(L2.hts cs lo ((lo+hi)*hf)).length-1=(L2.hts cs lo hi).length-1 by lia]at e1
 rw[e1]
 have O:L2.Cn t ((L2.hts cs lo hi).length-1) (λk=>(LW (L2.hts cs lo hi)).getD k 0) 0=L2.Cn t ((L2.hts cs lo hi).length-1) (λi=>L2.Cn hf i (λk=>(L2.hts cs lo hi).getD k 0) 0) 0:=L2.GO t _ _ λi Y=>by
  show(LW (L2.hts cs lo hi)).getD (0+i) 0=L2.Cn hf (0+i) _ 0;exact Uq Yl
 rw[O,Lo,Kb]
 congr 1
 have:=hf2
 grind
theorem VY(cs:kh)(lo hi:Rat):L2.hts cs ((lo+hi)*hf) hi=upL (L2.hts cs lo hi):=by
 have J:=L2.FH cs ((lo+hi)*hf) hi;have l2:=L2.FH cs lo hi;refine Qk (by rw[OF];lia) λj hj=>?_
 refine Oy (n:=(L2.hts cs lo hi).length-1) (f:=λk=>(L2.hts cs ((lo+hi)*hf) hi).getD k 0) (g:=λk=>(upL (L2.hts cs lo hi)).getD k 0) (λt=>?_) j Yl;have e1:=Kb cs ((lo+hi)*hf) hi t;rw[show(L2.hts cs ((lo+hi)*hf) hi).length-1=(L2.hts cs lo hi).length-1 by lia]at e1
 rw[e1]
 have O:L2.Cn t ((L2.hts cs lo hi).length-1) (λk=>(upL (L2.hts cs lo hi)).getD k 0) 0=L2.Cn t ((L2.hts cs lo hi).length-1) (λi=>L2.Cn hf ((L2.hts cs lo hi).length-1-i) (λk=>(L2.hts cs lo hi).getD k 0) (0+i)) 0:=L2.GO t _ _ λi Y=>by
  show(upL (L2.hts cs lo hi)).getD (0+i) 0=L2.Cn hf (_-(0+i)) _ (0+(0+i));rw[V7 Yl,dJ,dJ]
 rw[O,MF,Kb]
 congr 1
 have:=hf2
 grind
theorem PH(ts:ki):∀k i,i+k<ts.length->(((L2.aIN k ts).getD i 0:Int):Rat)=L2.An k (λn=>((ts.getD n 0:Int):Rat)) i
 | 0,_,_=>rfl
 | k+1,i,h=>by
   have h0:=PH ts k i Yl;have h1:=PH ts k (i+1) Yl;have Y:=L2.J8 ts k;show(((L2.aI (L2.aIN k ts)).getD i 0:Int):Rat)=L2.An k _ i+L2.An k _ (i+1);rw[<- h0,<- h1,<- cE]
   congr 1
   unfold L2.aI;rw[cU,bA,dI Yl];rfl
theorem LG(b:Rat)(f:Nat->Rat):∀k i,L2.An k (λn=>f n*b) i=L2.An k f i*b
 | 0,_=>rfl
 | k+1,i=>by
   show L2.An k _ i+L2.An k _ (i+1)=(L2.An k f i+L2.An k f (i+1))*b;rw[LG b f k i,LG b f k (i+1)];grind
theorem TC(f:Nat->Rat):∀k i,L2.Cn hf k f i*(2:Rat) ^ k=L2.An k f i
 | 0,i=>by show f i*2 ^ 0=f i;rw[cG];grind
 | k+1,i=>by
   show(L2.Cn hf k f i*(1-hf)+L2.Cn hf k f (i+1)*hf)*2 ^ (k+1)=L2.An k f i+L2.An k f (i+1);rw[Pm,<- TC f k i,<- TC f k (i+1),cH];have e:hf*2=1:=by have:=hf2;grind
   have Y:∀a b c:Rat,(a*hf+b*hf)*(c*2)=(a*c+b*c)*(hf*2):=λa b c=>by grind
   rw[Y,e,dD]
def mb(n:Nat):Nat->Nat
 | 0=>n
 | k+1=>2*mb n k+3
def HN(ts:ki)(i:Nat):ki:=(Zz i).map λj=>2 ^ (i-1-j)*(L2.aIN j ts).getD 0 0
def upI(ts:ki)(i:Nat):ki:=(Zz i).map λj=>2 ^ j*(L2.aIN (i-1-j) ts).getD (ts.length-1-(i-1-j)) 0
theorem Rm(ts:ki)(i:Nat):(HN ts i).map (λz=>2*z)++[(L2.aIN i ts).getD 0 0]=HN ts (i+1):=by
 unfold HN;rw[fm,cM,dN]
 congr 1
 ·refine dO λj Y=>?_;have Y:=ZD.mp Y;show 2*(2 ^ (i-1-j)*_)=2 ^ (i+1-1-j)*_;rw[show i+1-1-j=(i-1-j)+1 by lia,dz,<- dU,dS 2]
 ·show[_]=[2 ^ (i+1-1-i)*_];rw[show i+1-1-i=0 by lia,dw,cz]
theorem RH(ts:ki)(i:Nat):[(L2.aIN i ts).getD (ts.length-1-i) 0]++(upI ts i).map (λz=>2*z)=upI ts (i+1):=by
 unfold upI;rw[List.range_succ_eq_map,bZ,dN,dN];show _::_=(2 ^ 0*(L2.aIN (i+1-1-0) ts).getD (ts.length-1-(i+1-1-0)) 0)::_;rw[dw,cz,show i+1-1-0=i by lia]
 congr 1
 refine dO λj Y=>?_;have Y:=ZD.mp Y;show 2*(2 ^ j*_)=2 ^ (j+1)*(L2.aIN (i+1-1-(j+1)) ts).getD (ts.length-1-(i+1-1-(j+1))) 0;rw[show i+1-1-(j+1)=i-1-j by lia,dz,<- dU,dS 2]
inductive MG(K:ZE)(vs:ko)(H:Hp)(Q:VK)(E:XK):Prop
 | mk(l:ce)(ts:ki)(_:vs=[.ref l])(_:SqL K H l (ts.map V.int))(_:ts.length<=20)(_:∀(t la lb:ce) (H':Hp),E4 H H'->H' t=some (.tup [.ref la,.ref lb])->H' la=some (.lst ((HN ts ts.length).map V.int))->H' lb=some (.lst ((upI ts ts.length).map V.int))->Q (.ref t) H')
theorem VI(h:lo<hi):lo<(lo+hi)*hf/\(lo+hi)*hf<hi:=by
 have e:=hf2;have O:(0:Rat)<hf:=by decide
 have d:0<hi-lo:=by grind
 have m:0<(hi-lo)*hf:=fo d O;have e1:(lo+hi)*hf=lo+(hi-lo)*hf:=by grind
 have Y:(lo+hi)*hf=hi-(hi-lo)*hf:=by grind
 generalize(hi-lo)*hf=z at m e1 Y;exact⟨by rw[e1];grind,by rw[Y];grind⟩
def chF:Int->ki->Nat
 | _,[]=>0
 | l,t::r=>if t=0 then chF l r else (if l*t<0 then 1 else 0)+chF t r
def adj:ki->Nat
 | a::b::r=>(if (decide (0<b) != decide (0<a))=true then 1 else 0)+adj (b::r)
 | _=>0
theorem Pr(l:Int)(hl:l≠0):∀ts:ki,chF l ts=adj (l::ts.filter (λt=>decide (t≠0)))
 | []=>rfl
 | t::r=>by
   unfold chF;by_cases h:t=0
   ·rw[if_pos h,Pr l hl r,fq (by simp[h])]
   ·rw[if_neg h,Pr t h r,ft (by simp[h])]
    show _=(if (decide (0<t) != decide (0<l))=true then 1 else 0)+adj (t::r.filter λt=>decide (t≠0))
    congr 1
    by_cases h1:0<t
    ·by_cases h2:0<l
     ·rw[decide_eq_true h1,decide_eq_true h2,if_neg (by have:=eY h2 h1;lia)];rfl
     ·rw[decide_eq_true h1,decide_eq_false h2,if_pos (Int.mul_neg_of_neg_of_pos Yl h1)];rfl
    ·by_cases h2:0<l
     ·rw[decide_eq_false h1,decide_eq_true h2,if_pos (eX h2 Yl)];rfl
     ·rw[decide_eq_false h1,decide_eq_false h2,if_neg (by have:=Int.mul_pos_of_neg_of_neg (by lia:l<0) (by lia:t<0);lia)];rfl
theorem Ts:∀ts:ki,chF 0 ts=adj (ts.filter (λt=>decide (t≠0)))
 | []=>rfl
 | t::r=>by
   unfold chF;by_cases h:t=0
   ·rw[if_pos h,Ts r,fq (by simp[h])]
   ·rw[if_neg h,Pr t h r,ft (by simp[h]),fu,if_neg Yd,dJ]
theorem OA(a b:Int):∀l:ki,adj (l++[a,b])=adj (l++[a])+(if (decide (0<b) != decide (0<a))=true then 1 else 0)
 | []=>by show _+adj [b]=adj [a]+_;rw[Nat.add_comm];rfl
 | [c]=>by
   show _+(_+adj [b])=(_+adj [a])+_;show _+(_+0)=(_+0)+_
   lia
 | c::d::r=>by
   have ih:=OA a b (d::r);show _+adj ((d::r)++[a,b])=(_+adj ((d::r)++[a]))+_;rw[ih];lia
theorem Q3{a b c d:Int}(h1:a.sign=c.sign)(h2:b.sign=d.sign):(a*b<0)↔(c*d<0):=by
 rw[<- Int.sign_eq_neg_one_iff_neg,<- Int.sign_eq_neg_one_iff_neg,Int.sign_mul,Int.sign_mul,h1,h2]
theorem JR:∀{ts us:ki} {l m:Int},l.sign=m.sign->Paired (λa b:Int=>a.sign=b.sign) ts us->chF l ts=chF m us
 | _,_,_,_,_,.nil=>rfl
 | _,_,l,m,h,.cons (a:=a) (b:=b) h1 t=>by
   unfold chF;have e:(a=0)↔(b=0):=by rw[<- Int.sign_eq_zero_iff_zero,h1,Int.sign_eq_zero_iff_zero]
   by_cases ha:a=0
   ·rw[if_pos ha,if_pos (e.mp ha)];exact JR h t
   ·rw[if_neg ha,if_neg (λz=>ha (e.mpr z)),JR h1 t];by_cases hm:l*a<0
    ·rw[if_pos hm,if_pos ((Q3 h h1).mp hm)]
    ·rw[if_neg hm,if_neg λz=>hm ((Q3 h h1).mpr z)]
def VQ(hs:kh):Nat:=chF 0 (hs.map (·.num))
theorem S0{t:Int}{q B:Rat}(hB:0<B)(h:(t:Rat)=q*B):t.sign=q.num.sign:=by
 rcases Int.lt_trichotomy q.num 0 with z | z | z
 ·have J:q<0:=by
   have:¬0<=q:=λh=>by have:=fk.mpr h;lia
   grind
  have:q*B<0:=by
   have:=fo (a:=-q) (b:=B) (by grind) hB
   grind
  have Y:t<0:=by
   have O:(t:Rat)<((0:Int):Rat):=by rw[h];exact this
   exact fv.mp O
  rw[cy Y,cy z]
 ·have J:q=0:=fj.mp z;rw[J,eR]at h
  have Y:t=0:=by
   have O:(t:Rat)=((0:Int):Rat):=h;exact eD.mp O
  rw[Y,z]
 ·have J:0<q:=Jv (fk.mp Yl) Yl
  have Y:0<t:=by
   have O:((0:Int):Rat)<(t:Rat):=by rw[h];exact fo J hB
   exact fv.mp O
  rw[cA Y,cA z]
def Tp(ts:ki)(hs:kh):Prop:=∃B:Rat,0<B/\Paired (fun(t:Int) (q:Rat)=>(t:Rat)=q*B) ts hs
theorem Lb{α β γ:Type}{F:α->β->Prop}{G:α->γ->Prop}{f:β->γ}(h:∀a b,F a b->G a (f b)):∀{l:List α} {m:List β},Paired F l m->Paired G l (m.map f)
 | _,_,.nil=>.nil
 | _,_,.cons x t=>.cons (h _ _ x) (Lb h t)
theorem Tp.chg(h:Tp ts hs):chF 0 ts=VQ hs:=by
 obtain⟨B,Y,p⟩:=h;exact JR rfl (Lb (G:=fun(a b:Int)=>a.sign=b.sign) (f:=λq:Rat=>q.num) (λa b e=>S0 Y e) p)
theorem JC(n:Nat)(h:∀j,j<n->F (f j) (g j)):Paired F ((Zz n).map f) ((Zz n).map g):=by
 induction n with
 | zero=>exact .nil
 | succ n ih =>
   rw[fm,cM,cM];exact Paired.snoc (ih λj J=>h j Yl) (h n Yl)
theorem Tp.at(p:Paired (fun(t:Int) (q:Rat)=>(t:Rat)=q*B) ts hs)(Y:j<ts.length):((ts.getD j 0:Int):Rat)=hs.getD j 0*B:=by
 obtain⟨q,O,e⟩:=kB p (Fo Y);rw[cU (l:=hs),O];exact e
theorem NR(n:Nat):(0:Rat)<2 ^ n:=by
 induction n with
 | zero=>rw[cG];decide
 | succ n ih=>rw[cH];exact fo ih Yd
theorem Qv(Y:∀j,j<ts.length->((ts.getD j 0:Int):Rat)=f j*B)(h:i+k<ts.length)(O:N=e+k):((2 ^ e*(L2.aIN k ts).getD i 0:Int):Rat)=L2.Cn hf k f i*(B*2 ^ N):=by
 rw[cF,PH ts k i h]
 have e1:L2.An k (λn=>((ts.getD n 0:Int):Rat)) i=L2.An k f i*B:=by
  rw[<- LG];exact JU k i λj J=>Y (i+j) Yl
 rw[e1,<- TC f k i,O,Rat.intCast_pow,Nm.pow_add];have z:((2:Int):Rat)=2:=rfl;rw[z];grind
theorem Tp.low(h:Tp ts hs):Tp (HN ts ts.length) (LW hs):=by
 obtain⟨B,J,p⟩:=h;have O:=p.length;refine⟨B*2 ^ (ts.length-1),fo J (NR _),?_⟩;unfold HN LW;rw[<- O];exact JC _ λj Y=>Qv (f:=λk=>hs.getD k 0) (λj Y=>Tp.at p Y) Yl Yl
theorem Tp.up(h:Tp ts hs):Tp (upI ts ts.length) (upL hs):=by
 obtain⟨B,J,p⟩:=h;have O:=p.length;refine⟨B*2 ^ (ts.length-1),fo J (NR _),?_⟩;unfold upI upL;rw[<- O]
 exact JC _ λj Y=>by
  rw[show ts.length-1-(ts.length-1-j)=j by lia]
  exact Qv (f:=λk=>hs.getD k 0) (λj Y=>Tp.at p Y) Yl Yl
abbrev Pc:=Rat×Rat×Nat
def one(cs:kh)(lo hi:Rat):Pc:=(lo,hi,VQ (L2.hts cs lo hi))
def pcs(cs:kh):Nat->Rat->Rat->Option (List Pc)
 | 0,lo,hi=>if VQ (L2.hts cs lo hi)<2 then some [one cs lo hi] else none
 | n+1,lo,hi=>if VQ (L2.hts cs lo hi)<2 then some [one cs lo hi] else
   match pcs cs n lo ((lo+hi)*hf) with
   | none=>none
   | some a=>match pcs cs n ((lo+hi)*hf) hi with
     | none=>none
     | some b=>some (a++b)
theorem KC(h:VQ (L2.hts cs lo hi)<2):pcs cs n lo hi=some [one cs lo hi]:=by cases n<;>(unfold pcs;rw[if_pos h])
theorem JA(h:¬VQ (L2.hts cs lo hi)<2):pcs cs 0 lo hi=none:=by unfold pcs;rw[if_neg h]
theorem JB{cs:kh}{n:Nat}{lo hi:Rat}(h:¬VQ (L2.hts cs lo hi)<2):pcs cs (n+1) lo hi=match pcs cs n lo ((lo+hi)*hf) with
 | none=>none
 | some a=>match pcs cs n ((lo+hi)*hf) hi with
   | none=>none
   | some b=>some (a++b):=by rw[pcs,if_neg h]
theorem KA(cs:kh):∀(n:Nat) (lo hi:Rat) (l:List Pc),pcs cs n lo hi=some l->1<=l.length/\l.length<=2 ^ n
 | n,lo,hi,l=>λe=>by
   by_cases h:VQ (L2.hts cs lo hi)<2
   ·rw[KC h]at e;cases e;exact⟨ZR _,dF⟩
   ·cases n with
    | zero=>rw[JA h]at e;cases e
    | succ n =>
      rw[JB h]at e;cases ha:pcs cs n lo ((lo+hi)*hf) with
      | none=>rw[ha]at e;cases e
      | some a =>
        cases hb:pcs cs n ((lo+hi)*hf) hi with
        | none=>rw[ha,hb]at e;cases e
        | some b =>
          rw[ha,hb]at e;cases e;have h1:=KA cs n _ _ a ha;have h2:=KA cs n _ _ b hb;rw[bH,d9]
          lia
abbrev Wt:=Rat×Rat×Nat
def com(cs:kh):List Wt->Option (List Pc)
 | []=>some []
 | t::r=>match pcs cs (16-t.2.2) t.1 t.2.1 with
   | none=>none
   | some a=>match com cs r with
     | none=>none
     | some b=>some (a++b)
theorem Uy(h:VQ (L2.hts cs lo hi)<2):com cs ((lo,hi,d)::r)=(com cs r).map ([one cs lo hi] ++ ·):=by
 show(match pcs cs (16-d) lo hi with | none=>none | some a=>match com cs r with | none=>none | some b=>some (a++b))=_
 rw[KC h];cases com cs r<;>rfl
theorem T8(h:¬VQ (L2.hts cs lo hi)<2):com cs ((lo,hi,16)::r)=none:=by
 show(match pcs cs 0 lo hi with | none=>none | some a=>match com cs r with | none=>none | some b=>some (a++b))=none
 rw[JA h]
theorem T9(hd:d<16)(h:¬VQ (L2.hts cs lo hi)<2):com cs ((lo,hi,d)::r)=com cs ((lo,(lo+hi)*hf,d+1)::((lo+hi)*hf,hi,d+1)::r):=by
 obtain⟨n,O⟩:∃n,16-d=n+1:=⟨15-d,Yl⟩;have Y:16-(d+1)=n:=by lia
 show(match pcs cs (16-d) lo hi with | none=>none | some a=>match com cs r with | none=>none | some b=>some (a++b))=(match pcs cs (16-(d+1)) lo ((lo+hi)*hf) with | none=>none | some a=>match (match pcs cs (16-(d+1)) ((lo+hi)*hf) hi with | none=>none | some a=>match com cs r with | none=>none | some b=>some (a++b)) with | none=>none | some b=>some (a++b))
 rw[O,Y,JB h];cases pcs cs n lo ((lo+hi)*hf) with
 | none=>rfl
 | some a =>
   cases pcs cs n ((lo+hi)*hf) hi with
   | none=>rfl
   | some b =>
     cases com cs r with
     | none=>rfl
     | some c=>show some (a++b++c)=some (a++(b++c));rw[bV]
def wgt:List Wt->Nat
 | []=>0
 | t::r=>2 ^ (18-t.2.2)-1+wgt r
def Dy(D:Int)(d:Nat)(x:Rat):Prop:=∃p:Int,x*((D:Rat)*2 ^ d)=(p:Rat)/\p.natAbs<=2 ^ (150+d)
theorem Dy.next(h:Dy D d x):Dy D (d+1) x:=by
 obtain⟨p,e,b⟩:=h;refine⟨p*2,?_,?_⟩
 ·rw[cF,<- e,cH];have z:((2:Int):Rat)=2:=rfl;rw[z];grind
 ·rw[d6,show 150+(d+1)=150+d+1 by lia,d9]
  exact eE b Yd
theorem Dy.mid(h1:Dy D d x)(h2:Dy D d y):Dy D (d+1) ((x+y)*hf):=by
 obtain⟨p,e,b⟩:=h1;obtain⟨q,Y,J⟩:=h2;refine⟨p+q,?_,?_⟩
 ·rw[cE,<- e,<- Y,cH];have:hf*2=1:=by have:=hf2;grind
  have O:(x+y)*hf*((D:Rat)*(2 ^ d*2))=(x+y)*((D:Rat)*2 ^ d)*(hf*2):=by grind
  rw[O,this];grind
 ·rw[show 150+(d+1)=150+d+1 by lia,d9]
  lia
theorem Dy.rb(h:Dy D d x)(O:0<D)(h1:D<=2 ^ 140)(hd:d<=17):RB 170 x:=by
 obtain⟨p,e,b⟩:=h;have J:(2:Nat) ^ (60+d)<=2 ^ 167:=d5 Yd Yl
 have p2:(2:Int) ^ d<=2 ^ 17:=by
  have:(2:Nat) ^ d<=2 ^ 17:=d5 Yd hd
  exact_mod_cast this
 have Y:(0:Int)<2 ^ d:=Int.pow_pos Yd;have p4:D*2 ^ d<=2 ^ 140*2 ^ 17:=Int.mul_le_mul h1 p2 Yl Yd;have p5:0<D*2 ^ d:=eY O Y;have z:x=cx p (D*2 ^ d):=(Nm.div_eq Yl (by rw[<- e,cF,Rat.intCast_pow];rfl)).symm
 rw[z];exact RB.div (m:=0) (by unfold Bd;lia) (by unfold Bd;lia) Yl
theorem Dy.start(h1:RB 70 x)(h2:RB 70 y):∃D:Int,0<D/\D<=2 ^ 140/\Dy D 0 x/\Dy D 0 y:=by
 have a1:x.num.natAbs<2 ^ 70:=h1.1;have a2:((x.den:Int)).natAbs<2 ^ 70:=h1.2;have b1:y.num.natAbs<2 ^ 70:=h2.1;have J:((y.den:Int)).natAbs<2 ^ 70:=h2.2;have hd:0<x.den:=x.den_pos;have he:0<y.den:=y.den_pos;have m1:(x.den:Int)*(y.den:Int)<=2 ^ 70*2 ^ 70:=Int.mul_le_mul Yl Yl Yl Yd;have Y:=Nm.num_mul x;have O:=Nm.num_mul y;refine⟨(x.den:Int)*(y.den:Int),eY Yl Yl,Yl,⟨x.num*(y.den:Int),?_,?_⟩,⟨y.num*(x.den:Int),?_,?_⟩⟩
 ·rw[cG,dD,cF,cF,Y];grind
 ·rw[d6];exact ZF (eE (by lia:_<=2 ^ 70) (by lia:_<=2 ^ 70)) Yd
 ·rw[cG,dD,cF,cF,O];grind
 ·rw[d6];exact ZF (eE (by lia:_<=2 ^ 70) (by lia:_<=2 ^ 70)) Yd
theorem Ur(Y:Nat->ko->Hp->Prop)(h0:Y 0 [] H)(hl:∀i zs H,i<=n->Y i zs H->zs.length<=i)(hz:n<=dl)
 (hs:∀i zs H,i<n->Y i zs H->tc ((cS 1 js σ).set 0 (some (.int (lo+i)))) H λb H3=>if b=true then te ((cS 1 js σ).set 0 (some (.int (lo+i)))) H3 λy H4=>Y (i+1) (zs++[y]) H4 else Y (i+1) zs H3) (J:∀zs H',Y n zs H'->O zs H') :
 ∃(n':Nat) (W:Nat->ko->Hp->Prop),W 0 [] H/\LcW (Itr lo n) n' 1 js σ (HH 0) tc te O W:=by
 refine⟨n,Y,h0,⟨?_,?_,?_⟩⟩
 ·intro i zs H' hi p;have:=hl i zs H' (ZH hi) p;exact⟨hi,Yl⟩
 ·rintro i zs H' x H1 hi p ⟨rfl,rfl⟩;exact hs i zs _ hi p
 ·intro zs H' p;have:=hl n zs H' (ZR _) p;exact⟨ZR _,Yl,J zs H' p⟩
theorem Tr{l:ki}{i:Nat}(h:i+1<l.length):adj (l.take (i+2))=adj (l.take (i+1))+(if (decide (0<l.getD (i+1) 0) != decide (0<l.getD i 0))=true then 1 else 0):=by
 have e1:l.take (i+1)=l.take i++[l.getD i 0]:=by rw[cL,Fo Yl];rfl
 have Y:l.take (i+2)=l.take i++[l.getD i 0,l.getD (i+1) 0]:=by rw[cL,e1,Fo h];simp
 rw[e1,Y,OA]
inductive RY(K:ZE)(vs:ko)(H:Hp)(Q:VK)(E:XK):Prop
 | mk(l:ce)(ts:ki)(_:vs=[.ref l])(_:SqL K H l (ts.map V.int))(_:ts.length<=1000)(_:∀H',E4 H H'->Q (.int ((chF 0 ts:Nat):Int)) H')
inductive Ia(K:ZE)(vs:ko)(H:Hp)(Q:VK)(E:XK):Prop
 | mk(p rl rh rt:ce)(lo hi:Rat)(ts:ki)(d:Nat)(_:vs=[.ref p])(_:SqT K H p [.ref rl,.ref rh,.ref rt,.int (d:Int)])(_:Et K H (.ref rl) lo)(_:Et K H (.ref rh) hi)(_:RB 170 lo)(_:RB 170 hi)(_:H rt=some (.lst (ts.map V.int)))(_:ts.length<=20)(_:d≠16)(_:∀(u p1 p2 rm la lb:ce) (H':Hp),E4 H H'->H' u=some (.lst [.ref p1,.ref p2])->SqT K H' p1 [.ref rm,.ref rh,.ref lb,.int ((d+1:Nat):Int)]->SqT K H' p2 [.ref rl,.ref rm,.ref la,.int ((d+1:Nat):Int)]->Et K H' (.ref rm) ((lo+hi)*hf)->H' la=some (.lst ((HN ts ts.length).map V.int))->H' lb=some (.lst ((upI ts ts.length).map V.int))->Q (.ref u) H')
inductive Hr(K:ZE)(C:ce)(vs:ko)(H:Hp)(E_2:VK)(E:XK):Prop
 | mk(p:ce)(x y z:V)(_:vs=[.ref p])(_:SqT K H p [x,y,z,.int 16])(_:E (.ref C) none H)
def PcV(K:ZE)(H:Hp)(v:V)(t:Pc):Prop:=∃p rl rh:ce,v = .ref p/\SqT K H p [.ref rl,.ref rh,.int ((t.2.2:Nat):Int)]/\Et K H (.ref rl) t.1/\Et K H (.ref rh) t.2.1
abbrev Pcs(K:ZE)(H:Hp):ko->List Pc->Prop:=Paired (PcV K H)
theorem PcV.same(h:PcV K H v t)(s:E4 H H'):PcV K H' v t:=let ⟨p,a,b,e,h1,h2,h3⟩:=h;⟨p,a,b,e,h1.same s,h2.same s,h3.same s⟩
theorem PcV.put(h:PcV K H v t)(Y:H p=some (.lst ys)):PcV K (upd H p o) v t:=let ⟨p,a,b,e,h1,h2,h3⟩:=h;⟨p,a,b,e,h1.put Y,h2.put Y,h3.put Y⟩
theorem Pcs.same(h:Pcs K H ys ts)(s:E4 H H'):Pcs K H' ys ts:=kq h λ_ _ z=>z.same s
theorem Pcs.put(h:Pcs K H ys ts)(Y:H p=some (.lst xs)):Pcs K (upd H p o) ys ts:=kq h λ_ _ z=>z.put Y
theorem Uh{H:Hp}{w a:ce}{O:ko}{Y:ki}(h1:H w=some (.lst O))(h2:H a=some (.lst (Y.map V.int)))(J:∀v∈O,∃r,v = .ref r)(hn:Y≠[]):a≠w:=λz=>by
 rw[z,h1]at h2;have e:O=Y.map V.int:=HO.lst.inj (Zu.inj h2);cases Y with
 | nil=>exact hn rfl
 | cons t r =>
   obtain⟨r,J⟩:=J (.int t) (by rw[e];exact ZJ)
   cases J
def PcI(K:ZE)(cs:kh)(D:Int)(H:Hp)(v:V)(t:Wt):Prop:=∃(p rl rh rt:ce) (ts:ki),v = .ref p/\SqT K H p [.ref rl,.ref rh,.ref rt,.int ((t.2.2:Nat):Int)]/\Et K H (.ref rl) t.1/\Et K H (.ref rh) t.2.1/\H rt=some (.lst (ts.map V.int))/\ts≠[]/\ts.length<=20/\Tp ts (L2.hts cs t.1 t.2.1)/\Dy D t.2.2 t.1/\Dy D t.2.2 t.2.1/\t.2.2<=16
theorem PcI.same(h:PcI K cs D H v t)(s:E4 H H'):PcI K cs D H' v t:=let ⟨p,a,b,c,ts,e,h1,h2,h3,h4,h5⟩:=h;⟨p,a,b,c,ts,e,h1.same s,h2.same s,h3.same s,s _ _ h4,h5⟩
theorem PcI.put(h:PcI K cs D H v t)(hw:H w=some (.lst Y))(hr:∀v∈Y,∃r,v = .ref r):PcI K cs D (upd H w o) v t:=by
 obtain⟨p,a,b,c,ts,e,h1,h2,h3,O,J,h6⟩:=h;exact⟨p,a,b,c,ts,e,h1.put hw,h2.put hw,h3.put hw,by rw[EC (Uh hw O hr J)];exact O,J,h6⟩
theorem PcI.refs(h:Paired (PcI K cs D H) Y st):∀v∈Y,∃r,v = .ref r:=λv hv=>by
 obtain⟨i,hi⟩:=eM hv;obtain⟨t,_,p,_,_,_,_,e,_⟩:=kB h hi;exact⟨p,e⟩
theorem Pcs.refs(h:Pcs K H ys ts):∀v∈ys,∃r,v = .ref r:=λv hv=>by
 obtain⟨i,hi⟩:=eM hv;obtain⟨t,_,p,_,_,e,_⟩:=kB h hi;exact⟨p,e⟩
theorem Km:∀l:List β,(∀b∈l,F (f b) b)->Paired F (l.map f) l
 | [],_=>.nil
 | b::r,h=>.cons (h b ZJ) (Km r λc hc=>h c (ZK _ hc))
theorem PM:∀st:List Wt,(∀t∈st,t.2.2<=16)->st.length<=wgt st
 | [],_=>ZR _
 | t::r,h=>by
   have ih:=PM r λc Y=>h c (ZK _ Y);have O:=h t ZJ;have h2:2 ^ 2<=2 ^ (18-t.2.2):=d5 Yd Yl;show r.length+1<=2 ^ (18-t.2.2)-1+wgt r
   lia
theorem PcI.deep(h:Paired (PcI K cs D H) Y st):∀t∈st,t.2.2<=16:=λt O=>by
 obtain⟨i,hi⟩:=eM O;obtain⟨v,_,_,_,_,_,_,_,_,_,_,_,_,_,_,_,_,hd⟩:=kC h hi;exact hd
theorem TF(d:Nat)(h:d<16):2 ^ (18-(d+1))-1+(2 ^ (18-(d+1))-1)<2 ^ (18-d)-1:=by
 rw[show 18-d=18-(d+1)+1 by lia,d9]
 have:1<=2 ^ (18-(d+1)):=dF
 lia
theorem Rz(cs:kh)(lo hi:Rat):pcs cs 16 lo hi=(com cs [(lo,hi,0)]).map ([] ++ ·):=by
 show _=(match pcs cs 16 lo hi with | none=>none | some a=>some (a++[])).map ([] ++ ·)
 cases pcs cs 16 lo hi with
 | none=>rfl
 | some a=>show _=some ([]++(a++[]));rw[ZY,List.nil_append]
theorem map_map{o:Option (List Pc)}{f g:List Pc}:(o.map (g ++ ·)).map (f ++ ·)=o.map ((f++g) ++ ·):=by
 cases o with
 | none=>rfl
 | some a=>show some (f++(g++a))=some (f++g++a);rw[bV]
theorem Gk{u:Rat}(h:0<u):∀k:Nat,0<u ^ k
 | 0=>by rw[cG];decide
 | k+1=>by rw[cH];exact fo (Gk h k) h
theorem S8{u v:Rat}(h:0<u)(Y:u<v):∀k:Nat,u ^ k<=v ^ k
 | 0=>by rw[cG,cG];exact fg
 | k+1=>by
   have ih:=S8 h Y k;have p:=Gk h k;rw[cH,cH];have h1:=Rat.mul_le_mul_of_nonneg_right ih (fw h);have h2:=fz (a:=v ^ k) (b:=v-u) (Rat.le_trans (fw p) ih) (by grind)
   grind
theorem WA{u v:Rat}(h:0<u)(Y:u<v)(k:Nat):u ^ (k+1)<v ^ (k+1):=by
 have O:=S8 h Y k;have p:=Gk h k;rw[cH,cH];have h1:=fo (a:=u ^ k) (b:=v-u) p (by grind)
 have h2:=fz (a:=v ^ k-u ^ k) (b:=v) (by grind) (by grind)
 grind
theorem S7{u:Rat}(h:0<u)(h1:u<=1):∀k:Nat,u ^ k<=1
 | 0=>by rw[cG];exact fg
 | k+1=>by
   have ih:=S7 h h1 k;rw[cH];have:=fz (a:=1-u ^ k) (b:=u) (by grind) (fw h)
   grind
theorem Pn(Y:0<u):∀N,(∀i,i<N->0<=c i)->0<=L2.evF c u N
 | 0,_=>by show(0:Rat)<=0;exact fg
 | N+1,h=>by
   show 0<=L2.evF c u N+c N*u ^ N;have a:=Pn Y N λi hi=>h i Yl;have b:=fz (h N Yl) (fw (Gk Y N))
   grind
theorem Nq(Y:0<u):∀N,(∀i,i<N->0<=c i)->j<N->0<c j->0<L2.evF c u N
 | 0,_,hj,_=>by lia
 | N+1,h,hj,hc=>by
   show 0<L2.evF c u N+c N*u ^ N;by_cases e:j=N
   ·subst e;have a:=Pn Y j λi hi=>h i Yl;have b:=fo hc (Gk Y j)
    grind
   ·have a:=Nq Y N (λi hi=>h i Yl) Yl hc;have b:=fz (h N Yl) (fw (Gk Y N))
    grind
theorem J3:∀N,L2.evF (λi=>-c i) u N = -L2.evF c u N
 | 0=>by show(0:Rat) = -0;grind
 | N+1=>by
   show L2.evF (λi=>-c i) u N + -c N*u ^ N = -(L2.evF c u N+c N*u ^ N);rw[J3 N];grind
theorem Np(J:0<u)(Y:u<v):∀N,(∀i,i<N->i<m->0<=c i)->(∀i,i<N->m<=i->c i<=0) ->
 0<=L2.evF c u N*v ^ m-L2.evF c v N*u ^ m/\((∃j,j<N/\j<m/\0<c j)->0<L2.evF c u N*v ^ m-L2.evF c v N*u ^ m)
 | 0,_,_=>⟨by show(0:Rat)<=0*_-0*_;grind,fun⟨j,hj,_⟩=>by lia⟩
 | N+1,h1,h2=>by
   obtain⟨ih1,ih2⟩:=Np (c:=c) (m:=m) J Y N (λi hi=>h1 i Yl) λi hi=>h2 i Yl;have hv:0<v:=by grind
   have e:L2.evF c u (N+1)*v ^ m-L2.evF c v (N+1)*u ^ m=(L2.evF c u N*v ^ m-L2.evF c v N*u ^ m)+c N*(u ^ N*v ^ m-v ^ N*u ^ m):=by
    show(L2.evF c u N+c N*u ^ N)*v ^ m-(L2.evF c v N+c N*v ^ N)*u ^ m=_
    grind
   rw[e];by_cases hm:N<m
   ·have p1:0<u ^ N*v ^ m-v ^ N*u ^ m:=by
     obtain⟨k,rfl⟩:∃k,m=N+(k+1):=⟨m-N-1,Yl⟩;have a:=fo (Gk J N) (Gk hv N);have b:=WA J Y k;have:=fo a (by grind:0<v ^ (k+1)-u ^ (k+1))
     rw[Nm.pow_add v N (k+1),Nm.pow_add u N (k+1)];generalize u ^ N=A at this ⊢;generalize v ^ N=B at this ⊢;generalize u ^ (k+1)=C at this ⊢;generalize v ^ (k+1)=D at this ⊢
     grind
    have c0:=h1 N Yl hm;have t0:=fz c0 (fw p1);refine⟨by grind,fun⟨j,hj,O,hc⟩=>?_⟩
    by_cases ej:j=N
    ·subst ej;have:=fo hc p1
     grind
    ·have:=ih2 ⟨j,Yl,O,hc⟩
     grind
   ·have p1:u ^ N*v ^ m-v ^ N*u ^ m<=0:=by
     obtain⟨k,rfl⟩:∃k,N=m+k:=⟨N-m,Yl⟩;have a:=fo (Gk J m) (Gk hv m);have b:=S8 J Y k;have:=fz (fw a) (by grind:0<=v ^ k-u ^ k)
     rw[Nm.pow_add u m k,Nm.pow_add v m k];generalize u ^ m=A at this ⊢;generalize v ^ m=B at this ⊢;generalize u ^ k=C at this ⊢;generalize v ^ k=D at this ⊢
     grind
    have c0:=h2 N Yl Yl;have t0:=fz (a:=-c N) (b:=-(u ^ N*v ^ m-v ^ N*u ^ m)) (by grind) (by grind)
    refine⟨by grind,fun⟨j,hj,O,hc⟩=>?_⟩
    have:=ih2 ⟨j,Yl,O,hc⟩
    grind
def abF(c:Nat->Rat):Nat->Rat
 | 0=>0
 | N+1=>abF c N+(if 0<=c N then c N else -c N)
theorem Pu(c:Nat->Rat):∀N,0<=abF c N
 | 0=>by show(0:Rat)<=0;exact fg
 | N+1=>by
   have:=Pu c N;show 0<=abF c N+(if 0<=c N then c N else -c N)
   split<;>grind
theorem Og(Y:0<u)(h1:u<=1):∀N,(∀i,i<N->i<=j->0<=c i)->j<N->c j*u ^ j-abF c N*u ^ (j+1)<=L2.evF c u N
 | 0,_,hj=>by lia
 | N+1,h,hj=>by
   show _-(abF c N+(if 0<=c N then c N else -c N))*u ^ (j+1)<=L2.evF c u N+c N*u ^ N;have pj:=Gk Y (j+1);by_cases e:j=N
   ·subst e;have a:=Pn Y j λi hi=>h i Yl Yl;have b:=fz (Pu c j) (fw pj);have d:0<=(if 0<=c j then c j else -c j)*u ^ (j+1):=by split<;>(refine fz ?_ (fw pj);grind)
    grind
   ·have ih:=Og (c:=c) (j:=j) Y h1 N (λi hi=>h i Yl) Yl
    have aa:u ^ N<=u ^ (j+1):=by
     obtain⟨k,rfl⟩:∃k,N=j+1+k:=⟨N-j-1,Yl⟩;rw[Nm.pow_add u (j+1) k];have:=S7 Y h1 k;have:=fz (fw pj) (by grind:0<=1-u ^ k)
     grind
    have J:=Gk Y N
    have d : -((if 0<=c N then c N else -c N)*u ^ (j+1))<=c N*u ^ N:=by
     split
     ·rename_i O
      have:=fz O (fw pj);have:=fz O (fw J)
      grind
     ·rename_i O
      have:=fz (a:=-c N) (b:=u ^ (j+1)-u ^ N) (by grind) (by grind)
      grind
    grind
theorem O5(h:∀i,i<N->i<=j->0<=c i)(hj:j<N)(O:0<c j):∃u:Rat,0<u/\0<L2.evF c u N:=by
 have ha:=Pu c N;have hs:0<abF c N+c j:=by grind
 have hi:=dC _ (by grind:abF c N+c j≠0)
 have J:0<(abF c N+c j)⁻¹:=by
  have:=fA.mpr hs;exact this
 refine⟨c j*(abF c N+c j)⁻¹,fo O J,?_⟩;have Y:=fo O J;generalize hU:c j*(abF c N+c j)⁻¹=u at Y ⊢;have eU:u*(abF c N+c j)=c j:=by rw[<- hU,dB,dM (abF c N+c j)⁻¹,hi,dD]
 have u1:u<=1:=by
  have:=fz ha (fw J);have e:u+abF c N*(abF c N+c j)⁻¹=1:=by rw[<- hU,<- Rat.add_mul,Rat.add_comm (c j),hi]
  grind
 have k:=Og Y u1 N h hj;have p:=Gk Y j
 have q:c j*u ^ j-abF c N*u ^ (j+1)=(u*c j)*u ^ j:=by
  rw[cH];have:c j=u*abF c N+u*c j:=by rw[<- Rat.mul_add];exact eU.symm
  have e2:c j*u ^ j-abF c N*(u ^ j*u)=(c j-u*abF c N)*u ^ j:=by grind
  rw[e2]
  congr 1
  grind
 have:=fo (fo Y O) p
 grind
theorem J7:∀(ts:ki) (l:Int),chF (-l) (ts.map λt=>-t)=chF l ts
 | [],_=>rfl
 | t::r,l=>by
   show(if -t=0 then chF (-l) (r.map λt=>-t) else (if -l * -t<0 then 1 else 0)+chF (-t) (r.map λt=>-t))=if t=0 then chF l r else (if l*t<0 then 1 else 0)+chF t r;rw[J7 r l,J7 r t,Int.neg_mul_neg];by_cases h:t=0
   ·rw[if_pos Yl,if_pos h]
   ·rw[if_neg Yl,if_neg h]
theorem ch0:∀(ts:ki) (l:Int),0<l->chF l ts=0->∀t∈ts,0<=t
 | [],_,_,_=>λ_ h=>nomatch h
 | t::r,l,hl,h=>by
   have h:(if t=0 then chF l r else (if l*t<0 then 1 else 0)+chF t r)=0:=h
   have Y:0<=t/\∀s∈r,0<=s:=by
    by_cases h0:t=0
    ·rw[if_pos h0]at h;exact⟨Yl,ch0 r l hl h⟩
    ·rw[if_neg h0]at h;have O:¬l*t<0:=λz=>by rw[if_pos z]at h;lia
     rw[if_neg O]at h
     have J:0<t:=by
      have:¬t<0:=λz=>O (eX hl z)
      lia
     exact⟨Yl,ch0 r t J Yl⟩
   intro s hs
   rcases ZL.mp hs with z | z
   ·rw[z];exact Y.1
   ·exact Y.2 s z
theorem JL(ts:ki)(i:Nat):(ts.map λt=>-t).getD i 0 = -ts.getD i 0:=by
 rw[cU,cU,bA];cases ts[i]? with
 | none=>rfl
 | some t=>rfl
theorem Oz{ts:ki}(h:∀t∈ts,0<=t)(i:Nat):0<=ts.getD i 0:=by
 rw[cU];cases e:ts[i]? with
 | none=>exact fB _
 | some t=>exact h t (bD e)
theorem WT(ts:ki)(l:Int)(Y:l<0)(h:chF l ts=0)(i:Nat):ts.getD i 0<=0:=by
 have e:=J7 ts l;rw[h]at e;have:=Oz (ch0 _ (-l) Yl e) i;rw[JL]at this
 lia
theorem ch1:∀(ts:ki) (l:Int),0<l->chF l ts=1->∃m,m<ts.length/\ts.getD m 0<0/\(∀i,i<m->0<=ts.getD i 0)/\∀i,m<=i->ts.getD i 0<=0
 | [],_,_,h=>by cases h
 | t::r,l,hl,h=>by
   have h:(if t=0 then chF l r else (if l*t<0 then 1 else 0)+chF t r)=1:=h
   have J:∀m,0<=t->(m<r.length/\r.getD m 0<0/\(∀i,i<m->0<=r.getD i 0)/\∀i,m<=i->r.getD i 0<=0)->∃m,m<(t::r).length/\(t::r).getD m 0<0/\(∀i,i<m->0<=(t::r).getD i 0)/\∀i,m<=i->(t::r).getD i 0<=0:=λm Y ⟨h1,h2,h3,h4⟩=>⟨m+1,by simpa using h1,h2,λi hi=>by
    cases i with
    | zero=>exact Y
    | succ i=>exact h3 i Yl,λi hi=>by
    cases i with
    | zero=>lia
    | succ i=>exact h4 i Yl⟩
   by_cases h0:t=0
   ·rw[if_pos h0]at h;obtain⟨m,O⟩:=ch1 r l hl h;exact J m Yl O
   ·rw[if_neg h0]at h;by_cases hn:l*t<0
    ·rw[if_pos hn]at h
     have Y:t<0:=by
      have:¬0<t:=λz=>by have:=eY hl z;lia
      lia
     have hr:=WT r t Y Yl
     exact⟨0,by simp,Y,λi hi=>by lia,λi _=>by
      cases i with
      | zero=>exact Int.le_of_lt Y
      | succ i=>exact hr i⟩
    ·rw[if_neg hn]at h
     have Y:0<t:=by
      have:¬t<0:=λz=>hn (eX hl z)
      lia
     obtain⟨m,O⟩:=ch1 r t Y Yl;exact J m Yl O
def Chg(ts:ki):Prop:=∃j m,j<m/\m<ts.length/\0<ts.getD j 0/\ts.getD m 0<0/\(∀i,i<m->0<=ts.getD i 0)/\∀i,m<=i->ts.getD i 0<=0
theorem Chg.cons(h:Chg ts):Chg (0::ts):=by
 obtain⟨j,m,h1,h2,Y,O,h5,J⟩:=h;refine⟨j+1,m+1,Yl,by simpa using h2,Y,O,λi hi=>?_,λi hi=>?_⟩
 ·cases i with
  | zero=>exact fB _
  | succ i=>exact h5 i Yl
 ·cases i with
  | zero=>lia
  | succ i=>exact J i Yl
theorem QK(Y:0<t)(h:chF t r=1):Chg (t::r):=by
 obtain⟨m,h1,h2,O,J⟩:=ch1 r t Y h;refine⟨0,m+1,Yl,by simpa using h1,Y,h2,λi hi=>?_,λi hi=>?_⟩
 ·cases i with
  | zero=>exact Int.le_of_lt Y
  | succ i=>exact O i Yl
 ·cases i with
  | zero=>lia
  | succ i=>exact J i Yl
theorem sg1:∀ts:ki,chF 0 ts=1->Chg ts\/Chg (ts.map λt=>-t)
 | [],h=>by cases h
 | t::r,h=>by
   have h:(if t=0 then chF 0 r else (if 0*t<0 then 1 else 0)+chF t r)=1:=h;by_cases h0:t=0
   ·rw[if_pos h0]at h;subst h0
    rcases sg1 r h with z | z
    ·exact .inl z.cons
    ·exact .inr z.cons
   ·rw[if_neg h0,fu,if_neg Yd,dJ]at h;by_cases ht:0<t
    ·exact .inl (QK ht h)
    ·refine .inr (QK (t:=-t) Yl ?_);rw[J7];exact h
theorem sg0:∀ts:ki,chF 0 ts=0->(∀i,0<=ts.getD i 0)\/∀i,ts.getD i 0<=0
 | [],_=>.inl λi=>fB _
 | t::r,h=>by
   have h:(if t=0 then chF 0 r else (if 0*t<0 then 1 else 0)+chF t r)=0:=h;by_cases h0:t=0
   ·rw[if_pos h0]at h;subst h0
    rcases sg0 r h with z | z
    ·exact .inl λi=>by
      cases i with
      | zero=>exact fB _
      | succ i=>exact z i
    ·exact .inr λi=>by
      cases i with
      | zero=>exact fB _
      | succ i=>exact z i
   ·rw[if_neg h0,fu,if_neg Yd,dJ]at h;by_cases ht:0<t
    ·have:=ch0 r t ht h
     exact .inl λi=>by
      cases i with
      | zero=>exact Int.le_of_lt ht
      | succ i=>exact Oz this i
    ·have:=WT r t Yl h
     exact .inr λi=>by
      cases i with
      | zero=>show t<=0;lia
      | succ i=>exact this i
theorem Tz(h:u*(1-t)=t)(f:Nat->Rat):∀n i,L2.Cn t n f i=(1-t) ^ n*L2.Bn u n f i
 | 0,i=>by show f i=_*f i;rw[cG,dP]
 | n+1,i=>by
   show L2.Cn t n f i*(1-t)+L2.Cn t n f (i+1)*t=(1-t) ^ (n+1)*(L2.Bn u n f i+u*L2.Bn u n f (i+1));rw[Tz h f n i,Tz h f n (i+1),cH];generalize(1-t) ^ n=A;generalize L2.Bn u n f i=B;generalize L2.Bn u n f (i+1)=C;have e:A*C*t=A*C*(u*(1-t)):=by rw[h]
   rw[e];grind
def wtd(hs:kh)(i:Nat):Rat:=((L2.ch (hs.length-1) i:Nat):Rat)*hs.getD i 0
theorem SS(cs:kh)(lo hi:Rat)(aa:lo<hi)(hx:x<hi)(hu:u*(hi-x)=x-lo):∃k:Rat,0<k/\Cv.ev cs x=k*L2.evF (wtd (L2.hts cs lo hi)) u (L2.hts cs lo hi).length:=by
 have hl:=L2.FH cs lo hi;have d0:0<hi-lo:=by grind
 have di:=dC _ (by grind:hi-lo≠0)
 have J:0<(hi-lo)⁻¹:=fA.mpr d0;obtain⟨t,Y⟩:∃t,t=(x-lo)*(hi-lo)⁻¹:=⟨_,Z⟩;have e1:1-t=(hi-x)*(hi-lo)⁻¹:=by rw[Y];grind
 have e2:u*(1-t)=t:=by rw[e1,<- dB,hu,Y]
 have ex:lo+(hi-lo)*t=x:=by rw[Y];grind
 have O:0<1-t:=by rw[e1];exact fo (by grind) J
 refine⟨(1-t) ^ ((L2.hts cs lo hi).length-1),Gk O _,?_⟩;have h:=Kb cs lo hi t;rw[ex,Tz e2,L2.MC]at h;rw[<- h];rw[show(L2.hts cs lo hi).length-1+1=(L2.hts cs lo hi).length by lia]
 congr 1
 exact L2.GX u _ λi _=>by show _*(L2.hts cs lo hi).getD (0+i) 0=_;rw[dJ];rfl
theorem UB(h1:lo<x)(h2:x<hi):∃u:Rat,0<u/\u*(hi-x)=x-lo:=by
 have O:=dC _ (by grind:hi-x≠0)
 have Y:0<(hi-x)⁻¹:=fA.mpr (by grind)
 refine⟨(x-lo)*(hi-x)⁻¹,fo (by grind) Y,?_⟩
 rw[dB,dM (hi-x)⁻¹,O,dD]
theorem X4{lo hi x y u v:Rat}(h1:lo<x)(h2:x<y)(O:y<hi)(Y:0<v)(J:u*(hi-x)=x-lo)(hv:v*(hi-y)=y-lo):u<v:=by
 have e:(1+u)*(hi-x)=(1+v)*(hi-y):=by grind
 have a:0<(1+v)*(y-x):=fo (by grind) (by grind)
 have b:(v-u)*(hi-x)=(1+v)*(y-x):=by grind
 have c:0<(v-u)*(hi-x):=by rw[b];exact a
 have:¬v<=u:=λz=>by
  have:=fz (a:=u-v) (b:=hi-x) (by grind) (by grind)
  grind
 grind
theorem WU(aa:lo<hi)(J:0<u):∃x:Rat,lo<x/\x<hi/\u*(hi-x)=x-lo:=by
 have Y:=dC _ (by grind:1+u≠0)
 have O:0<(1+u)⁻¹:=fA.mpr (by grind)
 have a:0<(hi-lo)*(1+u)⁻¹:=fo (by grind) O
 have b:0<u*((hi-lo)*(1+u)⁻¹):=fo J a;refine⟨hi-(hi-lo)*(1+u)⁻¹,?_,by grind,?_⟩
 ·have:(1+u)*((hi-lo)*(1+u)⁻¹)=hi-lo:=by rw[dM (hi-lo),<- dB,Y,dP]
  grind
 ·have:(1+u)*((hi-lo)*(1+u)⁻¹)=hi-lo:=by rw[dM (hi-lo),<- dB,Y,dP]
  grind
theorem QB(d:Nat->Rat)(hw:v*w=1):∀n,L2.evF (λi=>d (n-i)) w (n+1)=w ^ n*L2.evF d v (n+1)
 | 0=>by show 0+d 0*w ^ 0=w ^ 0*(0+d 0*v ^ 0);rw[cG,cG];grind
 | n+1=>by
   have ih:=QB d hw n;rw[L2.IU];have e:L2.evF (λi=>d (n+1-(i+1))) w (n+1)=L2.evF (λi=>d (n-i)) w (n+1):=L2.GX w _ λi _=>by rw[show n+1-(i+1)=n-i by lia]
   rw[e,ih];show d (n+1-0)+w*(w ^ n*L2.evF d v (n+1))=w ^ (n+1)*(L2.evF d v (n+1)+d (n+1)*v ^ (n+1))
   have p:w ^ (n+1)*v ^ (n+1)=1:=by
    have:∀k:Nat,w ^ k*v ^ k=1:=λk=>by
     induction k with
     | zero=>rw[cG,cG,dP]
     | succ k ih =>
       rw[cH,cH];have:w ^ k*w*(v ^ k*v)=(w ^ k*v ^ k)*(v*w):=by grind
       rw[this,ih,hw,dP]
    exact this _
   rw[du];have q:w ^ (n+1)=w ^ n*w:=cH ..;generalize L2.evF d v (n+1)=S;generalize v ^ (n+1)=B at p ⊢;generalize w ^ (n+1)=W at p q ⊢;have:W*(S+d (n+1)*B)=W*S+d (n+1)*(W*B):=by grind
   rw[this,p,q];grind
def inN(xs:kh)(lo hi:Rat):Nat:=(xs.filter λr=>decide (lo<r)&&decide (r<hi)).length
structure Rts(l xs:kh):Prop where
 gl:EI l
 nl:l≠[]
 rt:∀r∈xs,Cv.ev l r=0
 sg:∀x y,(∀r∈xs,0<(x-r)*(y-r))->0<Cv.ev l x*Cv.ev l y
 nd:xs.Nodup
theorem Hh(hs:kh)(i:Nat):(hs.map (·.num)).getD i 0=(hs.getD i 0).num:=by
 rw[cU,cU,bA];cases hs[i]? with
 | none=>rfl
 | some t=>rfl
theorem OE(h:0<=(hs.getD i 0).num):0<=wtd hs i:=by
 unfold wtd;refine fz ?_ (fk.mp h)
 exact_mod_cast ZU _
theorem OD(h:(hs.getD i 0).num<=0):wtd hs i<=0:=by
 have:0 <= -wtd hs i:=by
  unfold wtd;have h1:0 <= -(hs.getD i 0):=fk.mp (by rw[fC];lia)
  have:=fz (show(0:Rat)<=((L2.ch (hs.length-1) i:Nat):Rat) by exact_mod_cast ZU _) h1
  grind
 grind
theorem WS(h:i<=n):(0:Rat)<((L2.ch n i:Nat):Rat):=by
 have:=L2.Lv n i h
 exact_mod_cast this
theorem MD(hi:i<hs.length)(h:0<(hs.getD i 0).num):0<wtd hs i:=by
 unfold wtd;exact fo (WS Yl) (Jv (fk.mp Yl) Yl)
theorem ME(hi:i<hs.length)(h:(hs.getD i 0).num<0):wtd hs i<0:=by
 have:0 < -wtd hs i:=by
  unfold wtd;have h1:0 < -(hs.getD i 0):=Jv (fk.mp (by rw[fC];lia)) (by rw[fC];lia)
  have:=fo (WS (n:=hs.length-1) (i:=i) Yl) h1
  grind
 grind
theorem SM(gl:EI l)(Y:l≠[])(O:lo<hi):∃j,j<(L2.hts l lo hi).length/\(L2.hts l lo hi).getD j 0≠0:=by
 by_cases h:∃j,j<(L2.hts l lo hi).length/\(L2.hts l lo hi).getD j 0≠0
 ·exact h
 exfalso;have hl:=L2.FH l lo hi
 have z:∀i,(L2.hts l lo hi).getD i 0=0:=λi=>by
  by_cases hi':i<(L2.hts l lo hi).length
  ·by_cases e:(L2.hts l lo hi).getD i 0=0
   ·exact e
   ·exact absurd ⟨i,hi',e⟩ h
  ·rw[cU,dE Yl];rfl
 apply Y;refine EO gl (.inl rfl) λx=>?_;have d0:hi-lo≠0:=by grind
 have di:=dC _ d0;have e:=Kb l lo hi ((x-lo)*(hi-lo)⁻¹);have ex:lo+(hi-lo)*((x-lo)*(hi-lo)⁻¹)=x:=by grind
 rw[ex]at e
 have J:∀t n i,L2.Cn t n (λ_=>(0:Rat)) i=0:=λt n=>by
  induction n with
  | zero=>intro i;rfl
  | succ n ih=>intro i;show L2.Cn t n _ i*(1-t)+L2.Cn t n _ (i+1)*t=0;rw[ih,ih];grind
 rw[<- e,show(λk=>(L2.hts l lo hi).getD k 0)=λ_=>(0:Rat) from funext z,J]
 rfl
theorem Ou(Y:j<m)(hm:m<N)(J:0<c j)(cm:c m<0)(h1:∀i,i<m->0<=c i)(h2:∀i,m<=i->c i<=0) :
 (∀u v,0<u->u<v->L2.evF c u N=0->L2.evF c v N=0->False)/\(∃u,0<u/\0<L2.evF c u N)/\∃u,0<u/\L2.evF c u N<0:=by
 refine⟨λu v hu O e1 e2=>?_,O5 (λi _ hi=>h1 i Yl) Yl J,?_⟩
 ·have:=(Np (c:=c) (m:=m) hu O N (λi _=>h1 i) λi _=>h2 i).2 ⟨j,Yl,Y,J⟩;rw[e1,e2]at this
  grind
 ·obtain⟨n,rfl⟩:∃n,N=n+1:=⟨N-1,Yl⟩;obtain⟨w,hw,pw⟩:=O5 (c:=λi=>-c (n-i)) (j:=n-m) (N:=n+1) (λi _ hi=>by have:=h2 (n-i) Yl;grind) Yl (by rw[show n-(n-m)=m by lia];grind)
  have iw:=dC _ (by grind:w≠0)
  refine⟨w⁻¹,fA.mpr hw,?_⟩;have e:=QB (λi=>-c i) (w:=w) (v:=w⁻¹) (by rw[dM];exact iw) n
  rw[e,J3]at pw;have hp:=Gk hw n
  have:¬0<=L2.evF c w⁻¹ (n+1):=λz=>by
   have:=fz (fw hp) z
   grind
  grind
def HZ:List Pc->Nat
 | []=>0
 | t::r=>t.2.2+HZ r
theorem RQ(a b:List Pc):HZ (a++b)=HZ a+HZ b:=by
 induction a with
 | nil=>show HZ b=0+HZ b;lia
 | cons t r ih=>show t.2.2+HZ (r++b)=t.2.2+HZ r+HZ b;lia
theorem N0(d0:0<D)(d1:D<=2 ^ 140):∀(n d:Nat) (lo hi:Rat) (ps:List Pc),d+n<=17->Dy D d lo->Dy D d hi->pcs l n lo hi=some ps->∀t∈ps,RB 170 t.1/\RB 170 t.2.1
 | n,d,lo,hi,ps,hd,O,Y,e=>by
   by_cases h:VQ (L2.hts l lo hi)<2
   ·rw[KC h]at e;cases e;intro t ht;rw[cY.mp ht];exact⟨O.rb d0 d1 Yl,Y.rb d0 d1 Yl⟩
   ·cases n with
    | zero=>rw[JA h]at e;cases e
    | succ n =>
      rw[JB h]at e;cases J:pcs l n lo ((lo+hi)*hf) with
      | none=>rw[J]at e;cases e
      | some a =>
        cases hb:pcs l n ((lo+hi)*hf) hi with
        | none=>rw[J,hb]at e;cases e
        | some b =>
          rw[J,hb]at e;cases e;have a1:=N0 d0 d1 n (d+1) _ _ a Yl O.next (O.mid Y) J;have b1:=N0 d0 d1 n (d+1) _ _ b Yl (O.mid Y) Y.next hb;intro t ht
          rcases ZM.mp ht with z | z
          ·exact a1 t z
          ·exact b1 t z
theorem RO:∀ps:List Pc,(ps.map λt=>((t.2.2:Nat):Int)).sum=((HZ ps:Nat):Int)
 | []=>rfl
 | t::r=>by
   rw[bZ,List.sum_cons,RO r];show _=((t.2.2+HZ r:Nat):Int)
   lia
structure E42(K:ZE)(a l:ce)(us:ko)(xs:kh)(rl rh:ce)(lo hi:Rat)(H G:Hp):Prop where
 mv:Mv a H G
 pn:Pen G a
 el:G l=some (.lst us)
 hu:ED K G us xs
 nl:Et K G (.ref rl) lo
 nh:Et K G (.ref rh) hi
 lt:lo<hi
 b1:RB 20 lo
 b2:RB 20 hi
def IP:kh->kh->Rat->Rat
 | k::ks,s::ss,x=>s+(x-k)*IP ks ss x
 | _,_,_=>0
inductive K2(K:ZE)(vs:ko)(H:Hp)(Q:VK)(E:XK):Prop
 | mk(rk rst:ce)(xs ys:ko)(ks ss:kh)(n:Nat)(_:vs=[.ref rk,.ref rst])(_:SqL K H rk xs)(_:ED K H xs ks)(_:SqL K H rst ys)(_:ED K H ys ss)(_:ks.length=ss.length)(_:ks.length<=12)(_:(∀q∈ks,RB n q))(_:(∀q∈ss,RB n q))(_:n<=2048000)(_:∀p H' cs,E4 H H'->Crv K H' p cs->cs.length<=ks.length->EI cs->(∀q∈cs,RB (2*(n*ks.length)+21*ks.length+2*n+30) q)->(∀x,Cv.ev cs x=IP ks ss x)->Q (.ref p) H')
theorem SU(c x:Rat):Cv.evI [-c.num,(c.den:Int)] x=(x-c)*((c.den:Int):Rat):=by
 show((-c.num:Int):Rat)+x*(((c.den:Int):Rat)+x*0)=_;rw[Rat.intCast_neg,Nm.num_mul c]
 grind
theorem Ui{pss:kg}{f:kh->Rat}{i:Nat}{ps:kh}(O:(pss.map f).Nodup)(h:pss[i]? = some ps):∀Y∈pss.take i,f Y≠f ps:=λY J e=>by
 have h1:((pss.take (i+1)).map f).Nodup:=((bC _ _).map f).nodup O;rw[cL,h,cM,List.nodup_append]at h1;exact h1.2.2 _ (fD J) _ (by simp) e
def SlD(K:ZE)(H:Hp)(kvs:List (List Key×V))(pss:kg):Prop:=∀ps∈pss,ps.length=3->∃v,HM kvs (kQ (ps.getD 0 0))=some v/\Et K H v (ps.getD 2 0)
theorem SlD.same(h:SlD K H kvs pss)(e:E4 H H'):SlD K H' kvs pss:=λps O Y=>let ⟨v,h1,h2⟩:=h ps O Y;⟨v,h1,h2.same e⟩
inductive KQ(K:ZE)(vs:ko)(H:Hp)(Q:VK)(E:XK):Prop
 | mk(r:ce)(xs:ko)(pss:kg)(_:vs=[.ref r])(_:SqT K H r xs)(_:Gu K H xs pss)(_:P23 pss)(_:pss.length<=100)(_:(pss.map λps=>ps.getD 0 0).Nodup)(_:∀(d:ce) (H':Hp) (kvs:List (List Key×V)),E4 H H'->H d=none->H' d=some (.dT kvs)->SlD K H' kvs pss->Q (.ref d) H')
def Ip(pss:kg):kh:=(pss.map λps=>b6 (ps.length-1) (ps.getD 1 0)).flatten
theorem R9(pss:kg)(ps:kh):Ip (pss++[ps])=Ip pss++b6 (ps.length-1) (ps.getD 1 0):=by
 unfold Ip;rw[cM,List.flatten_append];simp
theorem IJ:∀pss,(Ip pss).length=(EY pss).length
 | []=>rfl
 | p::r=>by
   have e:EY (p::r)=GC p++EY r:=rfl;have Y:Ip (p::r)=b6 (p.length-1) (p.getD 1 0)++Ip r:=rfl;rw[e,Y,bH,bH,bJ,Fi,IJ r]
inductive OP(K:ZE)(vs:ko)(H:Hp)(Q:VK)(E:XK):Prop
 | mk(r:ce)(xs:ko)(pss:kg)(_:vs=[.ref r])(_:SqT K H r xs)(_:Gu K H xs pss)(_:P23 pss)(_:pss.length<=100)(_:∀(p:ce) (H':Hp) (ys:ko),E4 H H'->H p=none->H' p=some (.lst ys)->ED K H' ys (Ip pss)->Q (.ref p) H')
def kn(pss:kg):kh:=(EY pss).map Kw.x
theorem FZ(pss:kg):(kn pss).length=(EY pss).length:=bI _
def OU(pss:kg)(x:Rat):Rat :=
 match pss.find? (λps=>decide (ps.length=3)&&decide (ps.getD 0 0=x)) with
 | some ps=>ps.getD 2 0
 | none=>0
def HS(A kn:kh)(sl:Rat->Rat)(k:Nat):kh :=
 (Zz (kn.length-k)).map λj=>if kn.getD (j+k) 0=kn.getD j 0 then sl (kn.getD j 0) else (A.getD (j+1) 0-A.getD j 0) / (kn.getD (j+k) 0-kn.getD j 0)
theorem Iw(A kn:kh)(Y:Rat->Rat)(k:Nat):(HS A kn Y k).length=kn.length-k:=by unfold HS;rw[bI,dH]
theorem Lm{A kn:kh}(h:j<kn.length-k):(HS A kn Y k).getD j 0=if kn.getD (j+k) 0=kn.getD j 0 then Y (kn.getD j 0) else (A.getD (j+1) 0-A.getD j 0) / (kn.getD (j+k) 0-kn.getD j 0):=by
 unfold HS;rw[cU,bA,dI h];rfl
theorem EZ{l:kh}{i:Nat}(h:i<l.length):l.getD i 0∈l:=bD (Fv h)
theorem Sy{A kn:kh}(O:∀q∈A,RB m q)(hk:∀q∈kn,RB n q)(hs:∀x,RB (2*m+2*n+2) (J x))(h1:1<=k)(hl:A.length+k=kn.length+1):∀q∈HS A kn J k,RB (2*m+2*n+2) q:=λq hq=>by
 unfold HS at hq;obtain⟨j,hj,rfl⟩:=eJ.mp hq;have hj:=ZD.mp hj
 split
 ·exact hs _
 ·next Y =>
  have a1:=O _ (EZ (l:=A) (i:=j+1) Yl);have a0:=O _ (EZ (l:=A) (i:=j) Yl);have k1:=hk _ (EZ (l:=kn) (i:=j+k) Yl);have k0:=hk _ (EZ (l:=kn) (i:=j) Yl);exact(RB.over (a1.minus a0) (k1.minus k0) (λz=>Y (by grind))).mono Yl
def tab(pss:kg):Nat->kh
 | 0=>Ip pss
 | k+1=>HS (tab pss k) (kn pss) (OU pss) (k+1)
theorem GS(pss:kg):∀k,k<=(EY pss).length->(tab pss k).length=(EY pss).length-k
 | 0,_=>IJ pss
 | k+1,_=>by rw[tab,Iw,FZ]
def bnd(h n:Nat):Nat->Nat
 | 0=>h
 | k+1=>2*bnd h n k+2*n+2
theorem To(h n:Nat):∀k,bnd h n k+(2*n+2)=2 ^ k*(h+2*n+2)
 | 0=>by show h+(2*n+2)=1*_;lia
 | k+1=>by
   have:=To h n k;rw[d9,bY (2 ^ k) 2,Nat.mul_assoc,<- this];show 2*bnd h n k+2*n+2+_=_
   lia
theorem Th(Y:h+2*n+2<=c)(hk:k<=m):bnd h n k<=2 ^ m*c:=by
 have h1:=To h n k;have h2:2 ^ k<=2 ^ m:=d5 Yd hk;have O:2 ^ k*(h+2*n+2)<=2 ^ m*c:=eE h2 Y
 lia
theorem Tn(h n:Nat):∀k,h<=bnd h n k
 | 0=>ZR _
 | k+1=>by have:=Tn h n k;show h<=2*bnd h n k+2*n+2;lia
theorem Ti(h n k:Nat):bnd h n k<=bnd h n (k+1):=by show _<=2*bnd h n k+2*n+2;lia
theorem Tj(h n:Nat)(Y:j<=k):bnd h n j<=bnd h n k:=by
 induction Y with
 | refl=>exact ZR _
 | step _ ih=>exact ZF ih (Ti h n _)
theorem TL:∀t∈GC ps,t.x=ps.getD 0 0:=λt Y=>by
 unfold GC at Y;obtain⟨k,_,rfl⟩:=eJ.mp Y
 rfl
theorem Qq(p:kh)(r:kg):kn (p::r)=b6 (p.length-1) (p.getD 0 0)++kn r:=by
 have e:EY (p::r)=GC p++EY r:=rfl;unfold kn;rw[e,cM]
 congr 1
 refine List.eq_replicate_iff.mpr ⟨by rw[bI,Fi],λx O=>?_⟩
 obtain⟨t,Y,rfl⟩:=eJ.mp O;exact TL t Y
theorem Lp:∀{pss:kg} {x:Rat},x∈kn pss->∃ps∈pss,ps.getD 0 0=x
 | p::r,x,h=>by
   rw[Qq]at h
   rcases ZM.mp h with z | z
   ·exact⟨p,ZJ,(fE.mp z).2.symm⟩
   ·obtain⟨ps,h1,h2⟩:=Lp z;exact⟨ps,ZK _ h1,h2⟩
theorem Qp(Y:∀ps∈pss,RB n (ps.getD 0 0)):∀x∈kn pss,RB n x:=λx O=>by
 obtain⟨ps,h1,rfl⟩:=Lp O;exact Y ps h1
theorem TZ(O:P23 pss)(hb:∀ps∈pss,∀q∈ps,RB n q):∀x∈Ip pss,RB n x:=λx Y=>by
 unfold Ip at Y;obtain⟨l,J,Y⟩:=fF.mp Y;obtain⟨ps,h1,rfl⟩:=eJ.mp J;rw[(fE.mp Y).2];exact hb ps h1 _ (EZ (by have:=O ps h1;lia))
theorem TV(h1:1<=n)(Y:∀ps∈pss,∀q∈ps,RB n q)(x:Rat):RB n (OU pss x):=by
 unfold OU
 split
 ·next ps h =>
  have h2:=List.mem_of_find?_eq_some h;have O:=List.find?_some h;rw[Bool.and_eq_true,decide_eq_true_eq,decide_eq_true_eq]at O;exact Y ps h2 _ (EZ Yl)
 ·exact RB.zero h1
theorem PX:∀{pss:kg} {ps:kh},(pss.map λps=>ps.getD 0 0).Nodup->ps∈pss->ps.length=3->OU pss (ps.getD 0 0)=ps.getD 2 0
 | p::r,ps,hnd,hm,h3=>by
   rw[bZ,ZZ]at hnd;unfold OU;rw[c7]
   rcases ZL.mp hm with z | z
   ·subst z;rw[decide_eq_true h3,decide_eq_true rfl];rfl
   ·have hne:¬p.getD 0 0=ps.getD 0 0:=λe=>hnd.1 (e ▸ fD (f:=λps:kh=>ps.getD 0 0) z);rw[decide_eq_false hne,Bool.and_false];exact PX hnd.2 z h3
theorem OK(h23:P23 pss)(hn:1<=h)(hb:∀ps∈pss,∀q∈ps,RB h q)(hbk:∀ps∈pss,RB n (ps.getD 0 0)):∀k,k<=(EY pss).length->∀q∈tab pss k,RB (bnd h n k) q
 | 0,_=>TZ h23 hb
 | k+1,hk=>by
   rw[tab];exact Sy (OK h23 hn hb hbk k Yl) (Qp hbk) (λx=>(TV hn hb x).mono (ZF (Tn h n k) Yl)) Yl (by rw[GS _ _ Yl,FZ];lia)
theorem Oa:∀{pss:kg},P23 pss->(pss.map λps=>ps.getD 0 0).Nodup->∀{j k:Nat},1<=k->j+k<(EY pss).length->(kn pss).getD (j+k) 0=(kn pss).getD j 0 ->
 k=1/\∃ps∈pss,ps.length=3/\ps.getD 0 0=(kn pss).getD j 0/\((EY pss).map Kw.n).getD (j+1) 0=ps.getD 2 0/\(Ip pss).getD (j+1) 0=(Ip pss).getD j 0
 | p::r,h23,hnd,j,k,h1,hjk,he=>by
   rw[bZ,ZZ]at hnd
   have hout:∀i,i<(kn r).length->(kn r).getD i 0≠p.getD 0 0:=λi hi e=>by
    obtain⟨ps,h1,h2⟩:=Lp (EZ hi);exact hnd.1 (e ▸ h2 ▸ fD (f:=λps:kh=>ps.getD 0 0) h1)
   have et:EY (p::r)=GC p++EY r:=rfl;have er:Ip (p::r)=b6 (p.length-1) (p.getD 1 0)++Ip r:=rfl;have ih:=@Oa r (λps h=>h23 ps (ZK _ h)) hnd.2;have aa:=FZ r;rw[Qq]at he ⊢;rw[et,bH,Fi]at hjk
   rcases h23 p ZJ with Y | Y
   ·have e1:b6 (p.length-1) (p.getD 0 0)=[p.getD 0 0]:=by rw[Y];rfl
    have e2:GC p=[⟨p.getD 0 0,0,p.getD 1 0⟩]:=by unfold GC;rw[Y];rfl
    have O:b6 (p.length-1) (p.getD 1 0)=[p.getD 1 0]:=by rw[Y];rfl
    rw[e1]at he ⊢;rw[et,er,e2,O]
    match j with
    | 0 =>
      obtain⟨k',rfl⟩:∃k',k=k'+1:=⟨k-1,Yl⟩;rw[dJ]at he;exact absurd he (hout k' Yl)
    | j'+1 =>
      rw[show j'+1+k=(j'+k)+1 by lia]at he
      obtain⟨z1,ps,z2,z3,J,z5,z6⟩:=ih (j:=j') (k:=k) h1 Yl he;exact⟨z1,ps,ZK _ z2,z3,J,z5,z6⟩
   ·have e1:b6 (p.length-1) (p.getD 0 0)=[p.getD 0 0,p.getD 0 0]:=by rw[Y];rfl
    have e2:GC p=[⟨p.getD 0 0,0,p.getD 1 0⟩,⟨p.getD 0 0,1,p.getD 2 0⟩]:=by unfold GC;rw[Y];rfl
    have O:b6 (p.length-1) (p.getD 1 0)=[p.getD 1 0,p.getD 1 0]:=by rw[Y];rfl
    rw[e1]at he ⊢;rw[et,er,e2,O]
    match j with
    | 0 =>
      match k,h1 with
      | 1,_=>exact⟨Z,p,ZJ,Y,Z,Z,Z⟩
      | k'+2,_ =>
        rw[dJ]at he;exact absurd he (hout k' Yl)
    | 1 =>
      obtain⟨k',rfl⟩:∃k',k=k'+1:=⟨k-1,Yl⟩;rw[show 1+(k'+1)=k'+2 by lia]at he
      exact absurd he (hout k' Yl)
    | j'+2 =>
      rw[show j'+2+k=(j'+k)+2 by lia]at he
      obtain⟨z1,ps,z2,z3,J,z5,z6⟩:=ih (j:=j') (k:=k) h1 Yl he;exact⟨z1,ps,ZK _ z2,z3,J,z5,z6⟩
inductive K1(K:ZE)(vs:ko)(H:Hp)(Q:VK)(E:XK):Prop
 | mk(ra rk d:ce)(as ks:ko)(A kn:kh)(kvs:List (List Key×V))(sl:Rat->Rat)(k m n:Nat)(_:vs=[.ref ra,.ref rk,.ref d,.int (k:Int)])(_:SqL K H ra as)(_:ED K H as A)(_:SqL K H rk ks)(_:Fu H ks kn)(_:H d=some (.dT kvs))(_:(∀j,j+k<kn.length->kn.getD (j+k) 0=kn.getD j 0->∃v,HM kvs (kQ (kn.getD j 0))=some v/\Et K H v (sl (kn.getD j 0))))(_:1<=k)(_:k<=kn.length)(_:A.length+k=kn.length+1)(_:kn.length<=100)(_:(∀q∈A,RB m q))(_:(∀q∈kn,RB n q))(_:m<=2000000)(_:n<=1000)(_:∀(p:ce) (H':Hp) (zs:ko),E4 H H'->H p=none->H' p=some (.lst zs)->ED K H' zs (HS A kn sl k)->Q (.ref p) H')
def FR(K:ZE)(H:Hp)(p:ce)(H':Hp)(x:V)(rs:kh):Prop:=∃a zs,x = .ref a/\a≠p/\H a=none/\H' a=some (.lst zs)/\ED K H' zs rs
theorem FR.same(h:FR K H p H1 x rs)(e:E4 H1 H2):FR K H p H2 x rs:=let ⟨a,zs,h1,h2,h3,h4,h5⟩:=h;⟨a,zs,h1,h2,h3,e _ _ h4,kE h5 e⟩
theorem FR.put(h:FR K H p H1 x rs)(e:H1 p=some (.lst ys)):FR K H p (upd H1 p o) x rs:=let ⟨a,zs,h1,h2,h3,h4,h5⟩:=h;⟨a,zs,h1,h2,h3,by rw[EC h2];exact h4,ED.put h5 e⟩
theorem Pj{Y:Type}(f:Nat->Y)(i:Nat):((Zz (i+1)).map f)[i]? = some (f i):=by
 rw[bA,dI Yl];rfl
inductive MJ(K:ZE)(vs:ko)(H:Hp)(Q:VK)(E:XK):Prop
 | mk(r:ce)(xs:ko)(pss:kg)(hh n:Nat)(_:vs=[.ref r])(_:SqT K H r xs)(_:Gu K H xs pss)(_:P23 pss)(_:pss.length<=100)(_:(pss.map λps=>ps.getD 0 0).Nodup)(_:(EY pss).length<=12)(_:(∀ps∈pss,∀q∈ps,RB hh q))(_:(∀ps∈pss,RB n (ps.getD 0 0)))(_:1<=hh)(_:hh+2*n+2<=1000)(_:∀(p:ce) (H':Hp) (ys:ko),E4 H H'->H p=none->H' p=some (.lst ys)->Paired (FR K H p H') ys ((Zz (EY pss).length).map (tab pss))->Q (.ref p) H')
def FJ(pss:kg):kh:=(Zz (EY pss).length).map λk=>(tab pss k).getD 0 0
theorem IF(pss:kg):(FJ pss).length=(EY pss).length:=by unfold FJ;rw[bI,dH]
inductive MK(K:ZE)(vs:ko)(H:Hp)(Q:VK)(E:XK):Prop
 | mk(r:ce)(xs:ko)(pss:kg)(hh n:Nat)(_:vs=[.ref r])(_:SqT K H r xs)(_:Gu K H xs pss)(_:P23 pss)(_:pss.length<=100)(_:(pss.map λps=>ps.getD 0 0).Nodup)(_:(EY pss).length<=12)(_:(∀ps∈pss,∀q∈ps,RB hh q))(_:(∀ps∈pss,RB n (ps.getD 0 0)))(_:1<=hh)(_:hh+2*n+2<=1000)(_:∀(p:ce) (H':Hp) (zs:ko),E4 H H'->H p=none->H' p=some (.lst zs)->ED K H' zs (FJ pss)->Q (.ref p) H')
def hk(cs:kh)(t:Kw):Rat:=if t.k=1 then Cv.ev (EW cs) t.x else Cv.ev cs t.x
inductive MI(K:ZE)(vs:ko)(H:Hp)(Q:VK)(E:XK):Prop
 | mk(r:ce)(xs:ko)(pss:kg)(hh n m:Nat)(_:vs=[.ref r])(_:SqT K H r xs)(_:Gu K H xs pss)(_:P23 pss)(_:pss.length<=100)(_:(pss.map λps=>ps.getD 0 0).Nodup)(_:(EY pss).length<=12)(_:(∀ps∈pss,∀q∈ps,RB hh q))(_:(∀ps∈pss,RB n (ps.getD 0 0)))(_:1<=hh)(_:hh+2*n+2<=1000)(_:(∀q∈FJ pss,RB m q))(_:n<=m)(_:m<=2048000)(_:∀(p:ce) (H':Hp) (cs:kh),E4 H H'->Crv K H' p cs->cs.length<=(EY pss).length->EI cs->(∀q∈cs,RB (26*m+300) q)->(∀x,Cv.ev cs x=IP (kn pss) (FJ pss) x)->Q (.ref p) H')
theorem R6(O:P23 pss)(hb:∀ps∈pss,∀q∈ps,RB hh q)(Y:∀ps∈pss,RB n (ps.getD 0 0))(h1:1<=hh)(hN:(EY pss).length<=N):∀q∈FJ pss,RB (bnd hh n N) q:=λq J=>by
 unfold FJ at J;obtain⟨k,hk,rfl⟩:=eJ.mp J;have hk:=ZD.mp hk;have hl:=GS pss k Yl;exact(OK O h1 hb Y k Yl _ (EZ Yl)).mono (Tj hh n Yl)
theorem Vz(h:∀q∈Y,Bd hh q.num/\Bd hd (q.den:Int)):Ov (pI (Y.map λq=>(q.den:Int))) (hh+(hd*Y.length+1)) Y/\Bd (hd*Y.length+1) (pI (Y.map λq=>(q.den:Int))):=by
 have O:∀u∈Y.map (λq=>(q.den:Int)),Bd hd u:=λu O=>by
  obtain⟨q,J,rfl⟩:=eJ.mp O;exact(h q J).2
 have h0:∀u∈Y.map (λq=>(q.den:Int)),u≠0:=λu O=>by
  obtain⟨q,_,rfl⟩:=eJ.mp O;exact Nm.den_ne q
 have hl:(Y.map λq=>(q.den:Int)).length=Y.length:=bI _;refine⟨⟨Sh h0,λq J=>?_⟩,by have:=NS O;rwa [hl]at this⟩
 obtain⟨r,er,br⟩:=P5 (eJ.mpr ⟨q,J,Z⟩) O;rw[hl]at br;refine⟨q.num*r,(h q J).1.mul br,?_⟩;rw[er,cF,cF,<- dB,<- Nm.num_mul]
theorem RK(h:∀q∈pss.flatten,Bd hh q.num/\Bd hd (q.den:Int))(hk:∀a∈kn pss,∀b∈kn pss,Bd n (a-b).num/\Bd dv ((a-b).den:Int))(hn:1<=n)(ac:∀q∈Ip pss,q∈pss.flatten):∀k,k<=(EY pss).length->∃L,Bd (hd*pss.flatten.length+1+k*(n*(EY pss).length+1)) L/\Ov L (hh+(hd*pss.flatten.length+1)+k*(dv+n*(EY pss).length+2)) (tab pss k)/\Ov L (hh+(hd*pss.flatten.length+1)+k*(dv+n*(EY pss).length+2)) pss.flatten/\∀i,i<=k->Ov L (hh+(hd*pss.flatten.length+1)+k*(dv+n*(EY pss).length+2)) (tab pss i)
 | 0,_=>by
   obtain⟨o,b⟩:=Vz h;have o0:Ov (pI (pss.flatten.map λq=>(q.den:Int))) (hh+(hd*pss.flatten.length+1)) (tab pss 0):=⟨o.ne,λq O=>o.is q (ac q O)⟩;rw[Nat.zero_mul,Nat.zero_mul];exact⟨_,b,o0,o,λi hi=>by cases Nat.le_zero.mp hi;exact o0⟩
 | k+1,hm=>by
   obtain⟨L,bL,oA,oF,oI⟩:=RK h hk hn ac k Yl;obtain⟨m,em⟩:∃m,m=(EY pss).length:=⟨_,Z⟩;have ah:(kn pss).length=m:=by rw[em];exact FZ pss
   have ak:(tab pss k).length=m-k:=by rw[em];exact GS pss k Yl
   rw[<- em]at bL oA oF oI hm ⊢;obtain⟨us,aa⟩:∃us:ki,us=(Zz (m-(k+1))).map λj=>if (kn pss).getD (j+(k+1)) 0-(kn pss).getD j 0=0 then 1 else ((kn pss).getD (j+(k+1)) 0-(kn pss).getD j 0).num:=⟨_,Z⟩;have ai:us.length<=m:=by rw[aa,bI,dH];lia
   have Y:∀j,j<m->(kn pss).getD j 0∈kn pss:=λj hj=>EZ Yl
   have ad:∀u∈us,u≠0:=λu hu=>by
    rw[aa]at hu;obtain⟨j,hj,rfl⟩:=eJ.mp hu;by_cases z:(kn pss).getD (j+(k+1)) 0-(kn pss).getD j 0=0
    ·rw[if_pos z];decide
    ·rw[if_neg z];exact λy=>z (fj.mp y)
   have J:∀u∈us,Bd n u:=λu hu=>by
    rw[aa]at hu;obtain⟨j,hj,rfl⟩:=eJ.mp hu;have af:=ZD.mp hj;by_cases z:(kn pss).getD (j+(k+1)) 0-(kn pss).getD j 0=0
    ·rw[if_pos z];exact(by unfold Bd;decide:Bd 1 1).mono hn
    ·rw[if_neg z];exact(hk _ (Y _ Yl) _ (Y _ Yl)).1
   have al:n*us.length<=n*m:=fG _ ai;have e1:hh+(hd*pss.flatten.length+1)+(k+1)*(dv+n*m+2)=hh+(hd*pss.flatten.length+1)+k*(dv+n*m+2)+dv+n*m+2:=by rw[dg];lia
   have e2:hd*pss.flatten.length+1+(k+1)*(n*m+1)=hd*pss.flatten.length+1+k*(n*m+1)+(n*m+1):=by rw[dg];lia
   rw[e1,e2];have up:∀{ql:kh},Ov (L*pI us) (hh+(hd*pss.flatten.length+1)+k*(dv+n*m+2)+dv+n*us.length+2) ql->Ov (L*pI us) (hh+(hd*pss.flatten.length+1)+k*(dv+n*m+2)+dv+n*m+2) ql:=λo=>⟨o.ne,λq O=>let ⟨t,bt,e⟩:=o.is q O;⟨t,bt.mono Yl,e⟩⟩
   suffices top:Ov (L*pI us) (hh+(hd*pss.flatten.length+1)+k*(dv+n*m+2)+dv+n*m+2) (tab pss (k+1)) by
    exact⟨L*pI us,(bL.mul (NS J)).mono Yl,top,up (P6 (dv:=dv) oF.ne ad J λq O=>.inl (oF.is q O)),λi hi=>by
     by_cases z:i=k+1
     ·rw[z];exact top
     ·exact up (P6 (dv:=dv) oF.ne ad J λq O=>.inl ((oI i Yl).is q O))⟩
   refine up (P6 (dv:=dv) oA.ne ad J λq O=>?_);rw[tab]at O;unfold HS at O;obtain⟨j,hj,rfl⟩:=eJ.mp O;have af:=ZD.mp hj;rw[ah]at af;by_cases z:(kn pss).getD (j+(k+1)) 0=(kn pss).getD j 0
   ·left;rw[if_pos z];unfold OU
    split
    ·rename_i ps ag
     have aj:=List.mem_of_find?_eq_some ag;have h3:=List.find?_some ag;rw[Bool.and_eq_true,decide_eq_true_eq]at h3;exact oF.is _ (fF.mpr ⟨ps,aj,EZ Yl⟩)
    ·exact⟨0,Iz,by rw[eR];rfl⟩
   ·right;rw[if_neg z];obtain⟨t1,b1,f1⟩:=oA.is _ (EZ (l:=tab pss k) (i:=j+1) Yl);obtain⟨t2,b2,f2⟩:=oA.is _ (EZ (l:=tab pss k) (i:=j) Yl);have ae:(kn pss).getD (j+(k+1)) 0-(kn pss).getD j 0≠0:=λy=>z (by grind)
    refine⟨t1,t2,((kn pss).getD (j+(k+1)) 0-(kn pss).getD j 0).num,(((kn pss).getD (j+(k+1)) 0-(kn pss).getD j 0).den:Int),b1,b2,?_,(hk _ (Y _ Yl) _ (Y _ Yl)).2,?_⟩
    ·rw[aa];exact eJ.mpr ⟨j,ZD.mpr af,by rw[if_neg ae]⟩
    ·generalize(kn pss).getD (j+(k+1)) 0-(kn pss).getD j 0=d at ae;rw[Nm.num_mul d,Rat.intCast_sub,<- f1,<- f2];generalize(tab pss k).getD (j+1) 0=A;generalize(tab pss k).getD j 0=B;have O:(A-B) / d*d=A-B:=by rw[fc,dB,Rat.inv_mul_cancel _ ae,dD]
     generalize(A-B) / d=Q0 at O;generalize((d.den:Int):Rat)=D;generalize(L:Rat)=L';have e3:Q0*(d*D)*L'=Q0*d*(D*L'):=by grind
     rw[e3,O]
     grind
theorem RS(h:∀q∈pss.flatten,Bd hh q.num/\Bd hd (q.den:Int))(hk:∀a∈kn pss,∀b∈kn pss,Bd n (a-b).num/\Bd dv ((a-b).den:Int))(hn:1<=n)(Y:∀q∈Ip pss,q∈pss.flatten):∃L:Int,L≠0/\Bd (hd*pss.flatten.length+1+(EY pss).length*(n*(EY pss).length+1)) L/\∀s∈FJ pss,∃t:Int,Bd (hh+(hd*pss.flatten.length+1)+(EY pss).length*(dv+n*(EY pss).length+2)) t/\s*(L:Rat)=(t:Rat):=by
 obtain⟨L,bL,_,oF,oI⟩:=RK h hk hn Y (EY pss).length (ZR _);refine⟨L,oF.ne,bL,λs hs=>?_⟩;unfold FJ at hs;obtain⟨k,O,rfl⟩:=eJ.mp hs;have J:=ZD.mp O;have hl:=GS pss k Yl;exact(oI k Yl).is _ (EZ Yl)
def nwL:kh->kh->kh
 | k::ks,s::ss=>KP k s (nwL ks ss)
 | _,_=>[]
theorem Sw(x:Rat):∀ks ss,Cv.ev (nwL ks ss) x=IP ks ss x
 | [],_=>rfl
 | _::_,[]=>rfl
 | k::ks,s::ss=>by
   show Cv.ev (KP k s (nwL ks ss)) x=s+(x-k)*IP ks ss x;rw[RT,Sw x ks ss]
theorem Sk{L:Int}{W n:Nat}(J:L≠0):∀ks O:kh,(∀s∈O,∃t:Int,Bd W t/\s*(L:Rat)=(t:Rat))->(∀k∈ks,RB n k)->∃P:Int,P≠0/\Bd (n*ks.length+1) P/\Ov (L*P) (W+(ks.length*(n+2)+1)) (nwL ks O)
 | [],_,_,_=>⟨1,Yd,by unfold Bd;rw[cq,Nat.mul_zero];decide,by rw[Int.mul_one];exact⟨J,λ_ h=>nomatch h⟩⟩
 | k::ks,[],_,_=>⟨1,Yd,(by unfold Bd;decide:Bd 1 1).mono Yl,by rw[Int.mul_one];exact⟨J,λ_ h=>nomatch h⟩⟩
 | k::ks,s::O,hs,hk=>by
   obtain⟨P,p0,bP,o⟩:=Sk J ks O (λx hx=>hs x (ZK _ hx)) λx hx=>hk x (ZK _ hx);obtain⟨t,bt,et⟩:=hs s ZJ;have Y:=hk k ZJ;have m1:n*(ks.length+1)=n*ks.length+n:=by rw[dA,eS]
   have m2:(ks.length+1)*(n+2)=ks.length*(n+2)+(n+2):=by rw[dg,dh]
   have m3:ks.length*(n+2)=n*ks.length+ks.length*2:=by rw[dA,bY n]
   have o2:=Ub (s:=s) o ⟨t*P,(bt.mul bP).mono Yl,by rw[cF,cF,<- dB,et]⟩ (Nm.den_ne k) Y.1 Y.2 (Nm.num_mul k).symm
   refine⟨P*(k.den:Int),cD p0 (Nm.den_ne k),(bP.mul Y.2).mono (by rw[ck];lia),?_⟩
   rw[<- dU];refine⟨o2.ne,λq hq=>?_⟩;obtain⟨t',b',e'⟩:=o2.is q hq;exact⟨t',b'.mono (by rw[ck];lia),e'⟩
theorem Sm(o:Ov L W r)(h:∀x,Cv.ev cs x=Cv.ev r x):Ov L W cs:=by
 refine⟨o.ne,λq Y=>?_⟩;obtain⟨k,hk⟩:=eM Y;have e:q=r.getD k 0:=by rw[<- HJ (l:=cs) (m:=r) (λj=>h _) k,cU,hk];rfl
 cases z:r[k]? with
 | none=>exact⟨0,Iz,by rw[e,cU,z];show(0:Rat)*_=((0:Int):Rat);rw[eR];rfl⟩
 | some y =>
   have:q=y:=by rw[e,cU,z];rfl
   rw[this];exact o.is y (bD z)
def Cts(f:Rat->Rat):Prop:=∀m,∃C:Rat,0<C/\∀d x,0<=d->d<=1->m-d<=x->x<=m+d->f m-C*d<=f x/\f x<=f m+C*d
theorem Qj{x u A B:Rat}(h1 : -A<=x)(h2:x<=A)(Y : -B<=u)(O:u<=B) : -(A*B)<=x*u/\x*u<=A*B:=by
 have a:=fz (a:=A-x) (b:=B+u) (by grind) (by grind)
 have b:=fz (a:=A+x) (b:=B-u) (by grind) (by grind)
 have c:=fz (a:=A-x) (b:=B-u) (by grind) (by grind)
 have d:=fz (a:=A+x) (b:=B+u) (by grind) (by grind)
 constructor<;>grind
theorem Ki(x:Rat):0<=x*x:=by
 rcases(by grind:0<=x\/0 <= -x) with h | h
 ·exact fz h h
 ·have:=fz h h;grind
theorem RV(x:Rat) : -(x*x+1)<=x/\x<=x*x+1:=by
 have a:=Ki (x-1);have b:=Ki (x+1)
 constructor<;>grind
theorem GN:∀l:kh,Cts (Cv.ev l)
 | []=>λm=>⟨1,Yd,λd x h0 h1 _ _=>by show(0:Rat)-1*d<=0/\(0:Rat)<=0+1*d;constructor<;>grind⟩
 | c::l=>λm=>by
   obtain⟨C,hC,ih⟩:=GN l m;have s1:=Ki m;have s2:=Ki (Cv.ev l m);have b1:=RV m;have J:=RV (Cv.ev l m);refine⟨(m*m+2)*C+(Cv.ev l m*Cv.ev l m+1),?_,λd x h0 h1 h2 h3=>?_⟩
   ·have:=fo (a:=m*m+2) (b:=C) (by grind) hC
    grind
   obtain⟨i1,i2⟩:=ih d x h0 h1 h2 h3;show(c+m*Cv.ev l m)-_<=c+x*Cv.ev l x/\c+x*Cv.ev l x<=(c+m*Cv.ev l m)+_;generalize Cv.ev l x=O at i1 i2;generalize Cv.ev l m=Y at *;have u:=Qj (x:=x) (u:=O-Y) (A:=m*m+2) (B:=C*d) (by grind) (by grind) (by grind) (by grind)
   have v:=Qj (x:=x-m) (u:=Y) (A:=d) (B:=Y*Y+1) (by grind) (by grind) J.1 J.2
   have e1:(m*m+2)*(C*d)=(m*m+2)*C*d:=by grind
   have e2:d*(Y*Y+1)=(Y*Y+1)*d:=by grind
   have e3:((m*m+2)*C+(Y*Y+1))*d=(m*m+2)*C*d+(Y*Y+1)*d:=by grind
   have e4:x*(O-Y)+(x-m)*Y=x*O-m*Y:=by grind
   rw[e1]at u;rw[e2]at v;rw[e3]
   constructor<;>grind
theorem Cts.mulc(h:Cts f)(hs:s=1\/s = -1):Cts λx=>s*f x:=λm=>by
 obtain⟨C,J,k⟩:=h m;refine⟨C,J,λd x O h1 h2 Y=>?_⟩;obtain⟨a,b⟩:=k d x O h1 h2 Y
 rcases hs with rfl | rfl<;>constructor<;>grind
theorem Cts.near(h:Cts f)(J:0<f m):∃e,0<e/\∀x,m-e<=x->x<=m+e->0<f x:=by
 obtain⟨C,O,k⟩:=h m;have hi:=fA.mpr O;have Y:=dC _ (by grind:C≠0)
 obtain⟨e,e0,e1,e2⟩:∃e:Rat,0<e/\e<=1/\C*e<f m:=by
  have hq:=fo (a:=f m) (b:=C⁻¹) J hi;by_cases z:f m*C⁻¹*(1/2)<=1
  ·refine⟨f m*C⁻¹*(1/2),by grind,z,?_⟩
   have:C*(f m*C⁻¹*(1/2))=f m*(C*C⁻¹)*(1/2):=by grind
   rw[this,Y];grind
  ·refine⟨1,Yd,fg,?_⟩;have h1:1<f m*C⁻¹*(1/2):=by grind
   have:=fo (a:=f m*C⁻¹*(1/2)-1) (b:=C) (by grind) O
   have e:f m*C⁻¹*(1/2)*C=f m*(C*C⁻¹)*(1/2):=by grind
   rw[Y]at e
   grind
 refine⟨e,e0,λx h1 h2=>?_⟩;have:=(k e x (by grind) e1 h1 h2).1
 grind
theorem Cts.low(h:Cts f)(O:lo<hi)(Y:∀x,lo<x->x<hi->0<f x):0<=f lo:=by
 by_cases z:0<=f lo
 ·exact z
 exfalso;obtain⟨e,J,k⟩:=(h.mulc (.inr rfl)).near (m:=lo) (by grind:0 < -1*f lo)
 by_cases y:lo+e<hi
 ·have a:=k (lo+e) (by grind) fg
  have b:=Y (lo+e) (by grind) y
  grind
 ·have a:=k (lo+(hi-lo)*(1/2)) (by grind) (by grind)
  have b:=Y (lo+(hi-lo)*(1/2)) (by grind) (by grind)
  grind
theorem Cts.upp(h:Cts f)(O:lo<hi)(Y:∀x,lo<x->x<hi->0<f x):0<=f hi:=by
 by_cases z:0<=f hi
 ·exact z
 exfalso;obtain⟨e,J,k⟩:=(h.mulc (.inr rfl)).near (m:=hi) (by grind:0 < -1*f hi)
 by_cases y:lo<hi-e
 ·have a:=k (hi-e) fg (by grind)
  have b:=Y (hi-e) y (by grind)
  grind
 ·have a:=k (lo+(hi-lo)*(1/2)) (by grind) (by grind)
  have b:=Y (lo+(hi-lo)*(1/2)) (by grind) (by grind)
  grind
theorem Qe{lo hi e:Rat}(Y:lo<hi)(O:0<e):∃x,lo<x/\x<hi/\x<=lo+e/\lo-e<=x:=by
 by_cases y:lo+e<hi
 ·exact⟨lo+e,by grind,y,fg,by grind⟩
 ·exact⟨lo+(hi-lo)*(1/2),by grind,by grind,by grind,by grind⟩
theorem Ug{lo hi e:Rat}(Y:lo<hi)(O:0<e):∃x,lo<x/\x<hi/\hi-e<=x/\x<=hi+e:=by
 by_cases y:lo<hi-e
 ·exact⟨hi-e,y,by grind,fg,by grind⟩
 ·exact⟨lo+(hi-lo)*(1/2),by grind,by grind,by grind,by grind⟩
def Xs(f:Rat->Rat)(s lo hi:Rat):Prop:=∀x,lo<x->x<hi->0<s*f x
def Con(f:Rat->Rat)(lo hi:Rat):Prop:=∃s:Rat,(s=1\/s = -1)/\Xs f s lo hi
structure Xj(f:Rat->Rat)(s lo hi:Rat):Prop where
 mono:∀x y,lo<x->x<y->y<hi->s*f x<=0->s*f y<0
 pos:∃x,lo<x/\x<hi/\0<s*f x
 neg:∃x,lo<x/\x<hi/\s*f x<0
def Swi(f:Rat->Rat)(lo hi:Rat):Prop:=∃s:Rat,(s=1\/s = -1)/\Xj f s lo hi
def z0(f:Rat->Rat)(x:Rat):Nat:=if f x=0 then 1 else 0
theorem KI(f:Rat->Rat)(x:Rat):z0 f x<=1:=by unfold z0;split<;>lia
theorem G8(h:f x≠0):z0 f x=0:=if_neg h
theorem HY(h:f x=0):z0 f x=1:=if_pos h
inductive Fq(f:Rat->Rat):Rat->Rat->Nat->Prop
 | con {lo hi:Rat} (h:lo<hi) (c:Con f lo hi):Fq f lo hi (z0 f hi)
 | swi {lo hi:Rat} (h:lo<hi) (c:Swi f lo hi):Fq f lo hi (1+z0 f hi)
 | app {lo m hi:Rat} {a b:Nat} (h1:Fq f lo m a) (h2:Fq f m hi b):Fq f lo hi (a+b)
theorem Fq.lt(h:Fq f lo hi n):lo<hi:=by
 induction h with
 | con h _=>exact h
 | swi h _=>exact h
 | app _ _ i1 i2=>grind
theorem Con.cut(h:Con f lo hi)(h1:lo<m)(h2:m<hi):Con f lo m/\Con f m hi/\f m≠0:=by
 obtain⟨s,hs,k⟩:=h;exact⟨⟨s,hs,λx a b=>k x a (by grind)⟩,⟨s,hs,λx a b=>k x (by grind) b⟩,λz=>by have:=k m h1 h2;rw[z]at this;grind⟩
theorem Swi.cut(hc:Cts f)(h:Swi f lo hi)(h1:lo<m)(h2:m<hi):(Con f lo m/\Swi f m hi/\f m≠0)\/(Con f lo m/\Con f m hi/\f m=0)\/(Swi f lo m/\Con f m hi/\f m≠0):=by
 obtain⟨s,hs,k,⟨p,p1,p2,p3⟩,q,q1,q2,q3⟩:=h;have Y : -s=1 \/ -s = -1:=by rcases hs with rfl | rfl<;>grind
 by_cases hm:0<s*f m
 ·left;obtain⟨e,e0,O⟩:=(hc.mulc hs).near hm;obtain⟨y,y1,J,y3,y4⟩:=Qe h2 e0;refine⟨⟨s,hs,λx a b=>?_⟩,⟨s,hs,λx y a b c d=>k x y (by grind) b c d,⟨y,y1,J,O y y4 y3⟩,?_⟩,λz=>by rw[z]at hm;grind⟩
  ·by_cases z:0<s*f x
   ·exact z
   ·have:=k x m a b h2 (by grind);grind
  ·refine⟨q,?_,q2,q3⟩;by_cases z:m<q
   ·exact z
   ·by_cases z2:q=m
    ·rw[z2]at q3;grind
    ·have:=k q m q1 (by grind) h2 (by grind);grind
 ·right;have kr:Con f m hi:=⟨-s,Y,λx a b=>by have:=k m x h1 a b (by grind);grind⟩
  by_cases hm0:f m=0
  ·left;refine⟨⟨s,hs,λx a b=>?_⟩,kr,hm0⟩;by_cases z:0<s*f x
   ·exact z
   ·have:=k x m a b h2 (by grind);rw[hm0]at this;grind
  ·right
   have hn:s*f m<0:=by
    have:s*f m≠0:=λz=>by rcases cP.mp z with y | y<;>grind
    grind
   obtain⟨e,e0,O⟩:=(hc.mulc Y).near (m:=m) (by grind:0 < -s*f m)
   obtain⟨y,y1,J,y3,y4⟩:=Ug h1 e0;refine⟨⟨s,hs,λx y a b c d=>k x y a b (by grind) d,⟨p,p1,?_,p3⟩,⟨y,y1,J,by have:=O y y3 y4;grind⟩⟩,kr,hm0⟩
   by_cases z:p<m
   ·exact z
   ·by_cases z2:p=m
    ·rw[z2]at p3;grind
    ·have:=k m p h1 (by grind) p2 (by grind);grind
theorem Con.swi(h:Con f lo hi)(k:Swi f lo hi):False:=by
 obtain⟨s,hs,h⟩:=h;obtain⟨t,O,_,⟨p,Y,p2,p3⟩,q,q1,J,q3⟩:=k;have a:=h p Y p2;have b:=h q q1 J
 rcases hs with rfl | rfl<;>rcases O with rfl | rfl<;>grind
theorem Fq.split(hc:Cts f)(h:Fq f lo hi n)(h1:lo<m)(h2:m<hi):∃a b,Fq f lo m a/\Fq f m hi b/\a+b=n:=by
 induction h with
 | con h c =>
   obtain⟨Y,O,e⟩:=c.cut h1 h2;exact⟨_,_,.con h1 Y,.con h2 O,by rw[G8 e];lia⟩
 | swi h c =>
   rcases c.cut hc h1 h2 with ⟨Y,O,e⟩ | ⟨Y,O,e⟩ | ⟨Y,O,e⟩
   ·exact⟨_,_,.con h1 Y,.swi h2 O,by rw[G8 e];lia⟩
   ·exact⟨_,_,.con h1 Y,.con h2 O,by rw[HY e]⟩
   ·exact⟨_,_,.swi h1 Y,.con h2 O,by rw[G8 e]⟩
 | @app lo m' hi a b g1 g2 i1 i2 =>
   rcases(by grind:m<m'\/m=m'\/m'<m) with z | z | z
   ·obtain⟨J,b1,Y,O,e⟩:=i1 h1 z;exact⟨J,b1+b,Y,.app O g2,Yl⟩
   ·subst z;exact⟨a,b,g1,g2,Z⟩
   ·obtain⟨J,b1,Y,O,e⟩:=i2 z h2;exact⟨a+J,b1,.app g1 Y,O,Yl⟩
theorem Fq.of_con(h:Fq f lo hi n)(c:Con f lo hi):n=z0 f hi:=by
 induction h with
 | con _ _=>rfl
 | swi _ k=>exact(c.swi k).elim
 | app g1 g2 i1 i2 =>
   obtain⟨Y,O,e⟩:=c.cut g1.lt g2.lt;rw[i1 Y,i2 O,G8 e];lia
theorem Fq.of_swi(J:Cts f)(h:Fq f lo hi n)(c:Swi f lo hi):n=1+z0 f hi:=by
 induction h with
 | con _ k=>exact(k.swi c).elim
 | swi _ _=>rfl
 | app g1 g2 i1 i2 =>
   rcases c.cut J g1.lt g2.lt with ⟨O,Y,e⟩ | ⟨O,Y,e⟩ | ⟨O,Y,e⟩
   ·rw[g1.of_con O,i2 Y,G8 e];lia
   ·rw[g1.of_con O,g2.of_con Y,HY e]
   ·rw[i1 O,g2.of_con Y,G8 e]
theorem Fq.one(Y:Cts f)(h:Fq f lo hi n)(g:Fq f lo hi k):k=n:=by
 induction h generalizing k with
 | con _ c=>exact g.of_con c
 | swi _ c=>exact g.of_swi Y c
 | app g1 g2 i1 i2 =>
   obtain⟨a,b,J,O,e⟩:=g.split Y g1.lt g2.lt;rw[<- e,i1 J,i2 O]
theorem Fq.some(h:Fq f lo hi n)(h1:lo<r)(h2:r<=hi)(Y:f r=0):1<=n:=by
 induction h with
 | @con lo hi _ c =>
   by_cases z:r=hi
   ·rw[<- z,HY Y];lia
   ·obtain⟨s,_,k⟩:=c;have:=k r h1 (by grind)
    rw[Y]at this;grind
 | swi _ _=>lia
 | @app lo m hi a b g1 g2 i1 i2 =>
   by_cases z:r<=m
   ·have:=i1 h1 z;lia
   ·have:=i2 (by grind) h2;lia
inductive Two(f g:Rat->Rat):Rat->Rat->Nat->Nat->Prop
 | base {lo hi:Rat} {n m:Nat} (h:lo<hi) (c:Con f lo hi/\n=z0 f hi\/Swi f lo hi/\n=1+z0 f hi) (d:Con g lo hi/\m=z0 g hi\/Swi g lo hi/\m=1+z0 g hi):Two f g lo hi n m
 | app {lo x hi:Rat} {a b c d:Nat} (h1:Two f g lo x a c) (h2:Two f g x hi b d):Two f g lo hi (a+b) (c+d)
theorem PN(hf:Cts f)(h:Fq g lo hi m):∀n,(Con f lo hi/\n=z0 f hi\/Swi f lo hi/\n=1+z0 f hi)->Two f g lo hi n m:=by
 induction h with
 | con h c=>exact λn k=>.base h k (.inl ⟨c,Z⟩)
 | swi h c=>exact λn k=>.base h k (.inr ⟨c,Z⟩)
 | app g1 g2 i1 i2 =>
   intro n k
   rcases k with ⟨k,rfl⟩ | ⟨k,rfl⟩
   ·obtain⟨Y,O,e⟩:=k.cut g1.lt g2.lt;have:=Two.app (i1 _ (.inl ⟨Y,Z⟩)) (i2 _ (.inl ⟨O,Z⟩))
    rwa [G8 e,dJ]at this
   ·rcases k.cut hf g1.lt g2.lt with ⟨Y,O,e⟩ | ⟨Y,O,e⟩ | ⟨Y,O,e⟩
    ·have:=Two.app (i1 _ (.inl ⟨Y,Z⟩)) (i2 _ (.inr ⟨O,Z⟩))
     rwa [G8 e,dJ]at this
    ·have:=Two.app (i1 _ (.inl ⟨Y,Z⟩)) (i2 _ (.inl ⟨O,Z⟩))
     rwa [HY e]at this
    ·have:=Two.app (i1 _ (.inr ⟨Y,Z⟩)) (i2 _ (.inl ⟨O,Z⟩))
     rwa [G8 e]at this
theorem R1(hf:Cts f)(Y:Cts g)(h:Fq f lo hi n)(k:Fq g lo hi m):Two f g lo hi n m:=by
 induction h generalizing m with
 | con _ c=>exact PN hf k _ (.inl ⟨c,Z⟩)
 | swi _ c=>exact PN hf k _ (.inr ⟨c,Z⟩)
 | app g1 g2 i1 i2 =>
   obtain⟨a,b,k1,k2,e⟩:=k.split Y g1.lt g2.lt;rw[<- e];exact .app (i1 k1) (i2 k2)
def MA(f g:Rat->Rat):Prop:=∀d x y,(d=1\/d = -1)->x<y->(∀z,x<z->z<y->0<d*g z)->0<d*(f y-f x)
def Rl(f g:Rat->Rat)(e:Rat)(A B:Nat):Prop:=A<=B+1/\(A=B+1->∃s:Rat,(s=1\/s = -1)/\0<=s*f e/\0<s*g e)
theorem Js(h:v≠0):∃s:Rat,(s=1\/s = -1)/\0<s*v:=by
 rcases(by grind:0<v\/v<0) with z | z
 ·exact⟨1,.inl rfl,by grind⟩
 ·exact⟨-1,.inr rfl,by grind⟩
theorem PZ{s d v:Rat}(hs:s=1\/s = -1)(hd:d=1\/d = -1)(h1:0<s*v)(h2:0<d*v):s=d:=by
 rcases hs with rfl | rfl<;>rcases hd with rfl | rfl<;>grind
theorem Ln{d:Rat}(h:d=1\/d = -1) : -d=1 \/ -d = -1:=by rcases h with rfl | rfl<;>grind
theorem MS{d v:Rat}(h:d=1\/d = -1)(hv:v≠0):d*v≠0:=by rcases h with rfl | rfl<;>grind
theorem Swi.both(h:Swi f lo hi)(hd:d=1\/d = -1):(∃x,lo<x/\x<hi/\0<d*f x)/\∃x,lo<x/\x<hi/\d*f x<0:=by
 obtain⟨s,hs,_,⟨p,Y,p2,p3⟩,q,J,O,q3⟩:=h
 rcases(show d=s\/d = -s by rcases hs with rfl | rfl<;>rcases hd with rfl | rfl<;>grind) with z | z
 ·subst z;exact⟨⟨p,Y,p2,p3⟩,q,J,O,q3⟩
 ·subst z;exact⟨⟨q,J,O,by grind⟩,p,Y,p2,by grind⟩
theorem S3(f g:Rat->Rat)(e:Rat):Rl f g e (z0 f e) (z0 g e):=by
 have h1:=KI f e;refine⟨Yl,λh=>?_⟩;have hf:z0 f e=1:=by lia
 have O:z0 g e=0:=by lia
 have J:f e=0:=by
  by_cases z:f e=0
  ·exact z
  ·rw[G8 z]at hf;lia
 have Y:g e≠0:=λz=>by rw[HY z]at O;lia
 obtain⟨s,hs,k⟩:=Js Y;exact⟨s,hs,by rw[J];grind,k⟩
theorem U2(hg:Cts g)(hr:MA f g)(O:lo<hi)(c:Con f lo hi/\n=z0 f hi\/Swi f lo hi/\n=1+z0 f hi)(dd:Con g lo hi/\m=z0 g hi\/Swi g lo hi/\m=1+z0 g hi)(h:Rl f g lo A B):Rl f g hi (A+n) (B+m):=by
 obtain⟨ae,aa⟩:=h;have zf:=KI f hi;have zg:=KI g hi
 have f0:z0 f hi=1->f hi=0:=λz=>by
  by_cases y:f hi=0
  ·exact y
  ·rw[G8 y]at z;lia
 have g0:z0 g hi=0->g hi≠0:=λz y=>by rw[HY y]at z;lia
 rcases dd with ⟨⟨d,hd,k⟩,rfl⟩ | ⟨⟨d,hd,Y,⟨p,p1,p2,p3⟩,q,q1,q2,q3⟩,rfl⟩
 ·-- g keeps its sign: f rises by d
  have up:∀x y,lo<=x->x<y->y<=hi->0<d*(f y-f x):=λx y a b c=>hr d x y hd b λz z1 z2=>k z (by grind) (by grind)
  have ac:0<=d*g hi:=(hg.mulc hd).upp O k;have af:0<=d*g lo:=(hg.mulc hd).low O k;by_cases hA:A=B+1
  ·obtain⟨s,hs,s1,s2⟩:=aa hA
   have e:s=d:=by
    have gz:g lo≠0:=λz=>by rw[z]at s2;grind
    have:=MS hd gz;exact PZ hs hd s2 (by grind)
   subst e;have pos:∀x,lo<x->x<=hi->0<s*f x:=λx a b=>by have:=up lo x fg a b;grind
   have ad:f hi≠0:=λz=>by have:=pos hi O fg;rw[z]at this;grind
   have n0:n=0:=by
    rcases c with ⟨_,rfl⟩ | ⟨c,_⟩
    ·exact G8 ad
    ·obtain⟨_,x,x1,x2,x3⟩:=c.both hs;have:=pos x x1 (by grind);grind
   refine⟨Yl,λz=>⟨s,hs,by have:=pos hi O fg;grind,?_⟩⟩
   have:=MS hs (g0 Yl)
   grind
  ·have n1:n<=1:=by
    rcases c with ⟨_,rfl⟩ | ⟨c,rfl⟩
    ·exact zf
    ·by_cases z:f hi=0
     ·obtain⟨⟨x,x1,x2,x3⟩,_⟩:=c.both hd;have:=up x hi (by grind) x2 fg
      rw[z]at this;grind
     ·rw[G8 z];lia
   refine⟨Yl,λz=>⟨d,hd,?_,?_⟩⟩
   ·rcases c with ⟨_,e⟩ | ⟨c,e⟩
    ·rw[f0 Yl];grind
    ·obtain⟨⟨x,x1,x2,x3⟩,_⟩:=c.both hd;have:=up x hi (by grind) x2 fg
     grind
   ·have:=MS hd (g0 Yl)
    grind
 ·-- g changes: f rises by d,then falls
  have n2:n<=2:=by rcases c with ⟨_,e⟩ | ⟨_,e⟩<;>lia
  have after:∀x,q<=x->x<hi->d*g x<0:=λx a b=>by
   by_cases z:q=x
   ·rw[<- z];exact q3
   ·exact Y q x q1 (by grind) b (by grind)
  have ac:d*g hi<=0:=by
   have:=(hg.mulc (Ln hd)).upp (lo:=q) (hi:=hi) q2 λx a b=>by have:=after x (by grind) b;grind
   grind
  by_cases hA:A=B+1
  ·obtain⟨s,hs,s1,s2⟩:=aa hA
   have e:s=d:=by
    obtain⟨e,e0,ke⟩:=(hg.mulc hs).near s2;obtain⟨y,y1,y2,y3,y4⟩:=Qe (hi:=p) p1 e0;have a:=ke y y4 y3;by_cases z:0<d*g y
    ·exact PZ hs hd a z
    ·have:=Y y p y1 y2 p2 (by grind);grind
   subst e
   -- once below nought it stays so
   have J:∀y,lo<y->y<hi->s*f y<0->s*f hi<0:=λy a b c=>by
    have:∃z,lo<z/\z<y/\s*g z<=0:=by
     by_cases w:∃z,lo<z/\z<y/\s*g z<=0
     ·exact w
     ·exfalso
      have:=hr s lo y hs a λz z1 z2=>by
       by_cases v:0<s*g z
       ·exact v
       ·exact absurd ⟨z,z1,z2,by grind⟩ w
      grind
    obtain⟨z,z1,z2,z3⟩:=this;have:=hr (-s) y hi (Ln hs) b λx x1 x2=>by have:=Y z x z1 (by grind) x2 z3;grind
    grind
   have n1:n<=1:=by
    rcases c with ⟨_,rfl⟩ | ⟨c,rfl⟩
    ·exact zf
    ·obtain⟨_,y,y1,y2,y3⟩:=c.both hs;have:=J y y1 y2 y3;have:f hi≠0:=λz=>by rw[z]at this;grind
     rw[G8 this];lia
   refine⟨Yl,λz=>⟨-s,Ln hs,?_,?_⟩⟩
   ·rcases c with ⟨_,e⟩ | ⟨c,e⟩
    ·rw[f0 Yl];grind
    ·obtain⟨_,y,y1,y2,y3⟩:=c.both hs;have:=J y y1 y2 y3
     grind
   ·have:=MS hs (g0 Yl)
    grind
  ·refine⟨Yl,λz=>?_⟩;obtain⟨s,hs,ks⟩:=Js (g0 Yl);refine⟨s,hs,?_,ks⟩;have:z0 f hi=1:=by rcases c with ⟨_,e⟩ | ⟨_,e⟩<;>lia
   rw[f0 this];grind
theorem Vf(O:Cts g)(Y:MA f g)(h:Two f g lo hi n m):∀A B,Rl f g lo A B->Rl f g hi (A+n) (B+m):=by
 induction h with
 | base h c d=>exact λA B k=>U2 O Y h c d k
 | app _ _ i1 i2 =>
   intro A B k;have:=i2 _ _ (i1 _ _ k)
   rwa [Nat.add_assoc,Nat.add_assoc]at this
theorem rolle(hf:Cts f)(Y:Cts g)(O:MA f g)(h:Fq f lo hi n)(k:Fq g lo hi m):z0 f lo+n<=z0 g lo+m+1 :=
 (Vf Y O (R1 hf Y h k) _ _ (S3 f g lo)).1
theorem V6(gl:EI l)(nl:l≠[])(O:lo<hi)(h:VQ (L2.hts l lo hi)=0):Con (Cv.ev l) lo hi:=by
 obtain⟨j,hj,ac⟩:=SM gl nl O;have aa:=λx u (h2:x<hi) (Y:u*(hi-x)=x-lo)=>SS l lo hi O h2 Y;generalize L2.hts l lo hi=hs at *;have ad:(hs.getD j 0).num≠0:=λz=>ac (fj.mp z)
 rcases sg0 _ h with z | z
 ·have z':∀i,0<=(hs.getD i 0).num:=λi=>by have:=z i;rw[Hh]at this;exact this
  refine⟨1,.inl rfl,λx x1 J=>?_⟩;obtain⟨u,hu,Y⟩:=UB x1 J;obtain⟨k,hk,ek⟩:=aa x u J Y;have:=Nq (c:=wtd hs) hu (j:=j) hs.length (λi _=>OE (z' i)) hj (MD hj (by have:=z' j;lia))
  have:=fo hk this;rw[ek];grind
 ·have z':∀i,(hs.getD i 0).num<=0:=λi=>by have:=z i;rw[Hh]at this;exact this
  refine⟨-1,.inr rfl,λx x1 J=>?_⟩;obtain⟨u,hu,Y⟩:=UB x1 J;obtain⟨k,hk,ek⟩:=aa x u J Y;have:=Nq (c:=λi=>-wtd hs i) hu (j:=j) hs.length (λi _=>by have:=OD (z' i);grind) hj (by have:=ME hj (by have:=z' j;lia);grind)
  rw[J3]at this;have:=fo hk this;rw[ek];grind
theorem QJ(Y:j<m)(hm:m<N)(cj:0<c j)(cm:c m<0)(h1:∀i,i<m->0<=c i)(h2:∀i,m<=i->c i<=0):∀u v,0<u->u<v->L2.evF c u N<=0->L2.evF c v N<0:=λu v J O e=>by
 have:=(Np (c:=c) (m:=m) J O N (λi _=>h1 i) λi _=>h2 i).2 ⟨j,Yl,Y,cj⟩;have pu:=Gk J m;have pv:=Gk (by grind:0<v) m
 have a:=fz (a:=-L2.evF c u N) (b:=v ^ m) (by grind) (by grind)
 have b:0 < -L2.evF c v N*u ^ m:=by grind
 by_cases z:L2.evF c v N<0
 ·exact z
 ·have:=fz (a:=L2.evF c v N) (b:=u ^ m) (by grind) (by grind)
  grind
theorem V5(aa:lo<hi)(h:VQ (L2.hts l lo hi)=1):Swi (Cv.ev l) lo hi:=by
 have O:=λx u (h2:x<hi) (eu:u*(hi-x)=x-lo)=>SS l lo hi aa h2 eu
 obtain⟨s,hs,k1,⟨u,Y,k2⟩,v,hv,k3⟩:∃s:Rat,(s=1\/s = -1)/\(∀u v,0<u->u<v->s*L2.evF (wtd (L2.hts l lo hi)) u (L2.hts l lo hi).length<=0->s*L2.evF (wtd (L2.hts l lo hi)) v (L2.hts l lo hi).length<0)/\(∃u,0<u/\0<s*L2.evF (wtd (L2.hts l lo hi)) u (L2.hts l lo hi).length)/\∃u,0<u/\s*L2.evF (wtd (L2.hts l lo hi)) u (L2.hts l lo hi).length<0:=by
  generalize L2.hts l lo hi=hs at *
  rcases sg1 _ h with ⟨j,m,h1,h2,h3,h4,h5,h6⟩ | ⟨j,m,h1,h2,h3,h4,h5,h6⟩
  ·rw[bI]at h2;rw[Hh]at h3 h4;have a:=MD (hs:=hs) (i:=j) Yl h3;have b:=ME h2 h4;have c:=λi (hi:i<m)=>OE (hs:=hs) (i:=i) (by have:=h5 i hi;rw[Hh]at this;exact this)
   have d:=λi (hi:m<=i)=>OD (hs:=hs) (i:=i) (by have:=h6 i hi;rw[Hh]at this;exact this)
   obtain⟨_,⟨u,Y,k2⟩,v,hv,k3⟩:=Ou h1 h2 a b c d;exact⟨1,.inl rfl,λu v Y J e=>by have:=QJ h1 h2 a b c d u v Y J (by grind);grind,⟨u,Y,by grind⟩,v,hv,by grind⟩
  ·rw[bI,bI]at h2;rw[JL,Hh]at h3 h4;have a:0 < -wtd hs j:=by have:=ME (hs:=hs) (i:=j) Yl Yl;grind
   have b : -wtd hs m<0:=by have:=MD (hs:=hs) (i:=m) h2 Yl;grind
   have c:∀i,i<m->0 <= -wtd hs i:=λi hi=>by
    have:=h5 i hi;rw[JL,Hh]at this;have:=OD (hs:=hs) (i:=i) Yl
    grind
   have d:∀i,m<=i -> -wtd hs i<=0:=λi hi=>by
    have:=h6 i hi;rw[JL,Hh]at this;have:=OE (hs:=hs) (i:=i) Yl
    grind
   obtain⟨_,⟨u,Y,k2⟩,v,hv,k3⟩:=Ou (c:=λi=>-wtd hs i) (N:=hs.length) h1 h2 a b c d;rw[J3]at k2 k3;refine⟨-1,.inr rfl,λu v Y J e=>?_,⟨u,Y,by grind⟩,v,hv,by grind⟩
   have:=QJ (c:=λi=>-wtd hs i) (N:=hs.length) h1 h2 a b c d u v Y J (by rw[J3];grind)
   rw[J3]at this
   grind
 generalize wtd (L2.hts l lo hi)=c at *;generalize(L2.hts l lo hi).length=N at *;refine⟨s,hs,λx y x1 xy y2 e=>?_,?_,?_⟩
 ·obtain⟨a,ha,ea⟩:=UB x1 (by grind:x<hi)
  obtain⟨b,hb,eb⟩:=UB (by grind:lo<y) y2
  obtain⟨p,hp,ep⟩:=O x a (by grind) ea
  obtain⟨q,hq,eq⟩:=O y b y2 eb
  have z:s*L2.evF c a N<=0:=by
   by_cases w:0<s*L2.evF c a N
   ·have:=fo hp w;rw[ep]at e;grind
   ·grind
  have:=k1 a b ha (X4 x1 xy y2 hb ea eb) z;have:=fo hq (by grind:0 < -(s*L2.evF c b N))
  rw[eq];grind
 ·obtain⟨x,x1,x2,ex⟩:=WU aa Y;obtain⟨p,hp,ep⟩:=O x u x2 ex;exact⟨x,x1,x2,by rw[ep];have:=fo hp k2;grind⟩
 ·obtain⟨x,x1,x2,ex⟩:=WU aa hv;obtain⟨p,hp,ep⟩:=O x v x2 ex;exact⟨x,x1,x2,by rw[ep];have:=fo hp (by grind:0 < -(s*L2.evF c v N));grind⟩
def Hl(f:Rat->Rat):List Pc->Nat
 | []=>0
 | t::r=>z0 f t.2.1+Hl f r
theorem RP(f:Rat->Rat)(a b:List Pc):Hl f (a++b)=Hl f a+Hl f b:=by
 induction a with
 | nil=>show Hl f b=0+Hl f b;lia
 | cons t r ih=>show z0 f t.2.1+Hl f (r++b)=z0 f t.2.1+Hl f r+Hl f b;lia
inductive HV:Rat->Rat->List Pc->Prop
 | one {t:Pc}:HV t.1 t.2.1 [t]
 | cons {t:Pc} {hi:Rat} {r:List Pc} (h:HV t.2.1 hi r):HV t.1 hi (t::r)
theorem HV.app(h1:HV lo m a)(h2:HV m hi b):HV lo hi (a++b):=by
 induction h1 with
 | one=>exact .cons h2
 | cons _ ih=>exact .cons (ih h2)
theorem He(gl:EI l)(J:l≠[]):∀(n:Nat) (lo hi:Rat) (ps:List Pc),lo<hi->pcs l n lo hi=some ps->Fq (Cv.ev l) lo hi (HZ ps+Hl (Cv.ev l) ps)/\HV lo hi ps/\∀t∈ps,t.1<t.2.1/\(t.2.2=0/\Con (Cv.ev l) t.1 t.2.1\/t.2.2=1)
 | n,lo,hi,ps,hlt,e=>by
   by_cases h:VQ (L2.hts l lo hi)<2
   ·rw[KC h]at e;cases e;have h01:VQ (L2.hts l lo hi)=0\/VQ (L2.hts l lo hi)=1:=by lia
    rcases h01 with Y | Y
    ·have c:=V6 gl J hlt Y;refine⟨?_,.one (t:=one l lo hi),λt O=>?_⟩
     ·show Fq _ lo hi ((VQ (L2.hts l lo hi)+0)+(z0 _ hi+0));rw[Y,show 0+0+(z0 (Cv.ev l) hi+0)=z0 (Cv.ev l) hi by lia]
      exact .con hlt c
     ·rw[cY.mp O];exact⟨hlt,.inl ⟨Y,c⟩⟩
    ·refine⟨?_,.one (t:=one l lo hi),λt O=>?_⟩
     ·show Fq _ lo hi ((VQ (L2.hts l lo hi)+0)+(z0 _ hi+0));rw[Y,show 1+0+(z0 (Cv.ev l) hi+0)=1+z0 (Cv.ev l) hi by lia]
      exact .swi hlt (V5 hlt Y)
     ·rw[cY.mp O];exact⟨hlt,.inr Y⟩
   ·cases n with
    | zero=>rw[JA h]at e;cases e
    | succ n =>
      rw[JB h]at e;obtain⟨m1,m2⟩:=VI hlt;cases ha:pcs l n lo ((lo+hi)*hf) with
      | none=>rw[ha]at e;cases e
      | some a =>
        cases hb:pcs l n ((lo+hi)*hf) hi with
        | none=>rw[ha,hb]at e;cases e
        | some b =>
          rw[ha,hb]at e;cases e;obtain⟨a1,a2,a3⟩:=He gl J n _ _ a m1 ha;obtain⟨b1,b2,b3⟩:=He gl J n _ _ b m2 hb;refine⟨?_,a2.app b2,λt O=>?_⟩
          ·have:=Fq.app a1 b1;rw[RQ,RP]
           rwa [show HZ a+HZ b+(Hl (Cv.ev l) a+Hl (Cv.ev l) b)=HZ a+Hl (Cv.ev l) a+(HZ b+Hl (Cv.ev l) b) by lia]
          ·rcases ZM.mp O with z | z
           ·exact a3 t z
           ·exact b3 t z
theorem JI:∀k:Nat,(∀x,(x-p) ^ k*Cv.ev A x=(x-p) ^ k*Cv.ev B x)->∀x,Cv.ev A x=Cv.ev B x
 | 0,h=>λx=>by have:=h x;rw[cG,dP,dP]at this;exact this
 | k+1,h=>by
   refine JI (p:=p) k λx=>?_
   have ek:∀(C:kh) (k:Nat),∃Y,∀x,Cv.ev Y x=(x-p) ^ k*Cv.ev C x:=λC k=>by
    induction k with
    | zero=>exact⟨C,λx=>by rw[cG,dP]⟩
    | succ k ih =>
      obtain⟨Y,hC⟩:=ih;refine⟨Fm [-p,1] Y,λx=>?_⟩;rw[Ey,hC,cH];show(-p+x*(1+x*0))*_=_
      grind
   obtain⟨A',O⟩:=ek A k;obtain⟨B',J⟩:=ek B k;rw[<- O,<- J];refine L2.Kp (p:=p) (λx=>?_) x;have:=h x;rw[cH]at this;rw[O,J];grind
theorem Ko:∀(k:Nat) (A:kh),(∀x,Cv.ev A x=(x-p) ^ k*Cv.ev u x)->∀x,(x-p)*Cv.ev (dL A) x=(k:Rat)*Cv.ev A x+(x-p) ^ (k+1)*Cv.ev (dL u) x
 | 0,A,h=>λx=>by
   have e:=R8 (l:=A) (m:=u) (λx=>by rw[h,cG,dP]) x
   rw[e,cH,cG,show((0:Nat):Rat)=0 from rfl];grind
 | k+1,A,h=>λx=>by
   obtain⟨B,J⟩:∃B:kh,∀x,Cv.ev B x=(x-p) ^ k*Cv.ev u x:=by
    clear h
    induction k with
    | zero=>exact⟨u,λx=>by rw[cG,dP]⟩
    | succ k O =>
      obtain⟨C',hC⟩:=O;refine⟨Fm [-p,1] C',λx=>?_⟩;rw[Ey,hC,cH];show(-p+x*(1+x*0))*_=_
      grind
   have O:=Ko k B J x
   have Y:∀x,Cv.ev A x=Cv.ev [-p,1] x*Cv.ev B x:=λx=>by
    rw[h,J,cH];show _=(-p+x*(1+x*0))*_
    grind
   have e:=K3 Y x;rw[OT]at e;rw[e,Y,show Cv.ev [-p,1] x=x-p by show -p+x*(1+x*0)=_;grind]
   rw[show((k+1:Nat):Rat)=(k:Rat)+1 by rw[dG];rfl,cH (x-p) (k+1)]
   grind
theorem Rn(P:Kh fs (EW fs) g)(h:∀x,Cv.ev fs x=Cv.ev ls x*Cv.ev g x)(r:Rat):Cv.ev fs r=0↔Cv.ev ls r=0:=by
 refine⟨λz=>?_,λz=>by rw[h,z];grind⟩
 by_cases y:Cv.ev ls r=0
 ·exact y
 exfalso
 have g0:Cv.ev g r=0:=by
  rw[h]at z
  rcases cP.mp z with w | w
  ·exact absurd w y
  ·exact w
 obtain⟨q,hq⟩:=P.into.2
 have Y:∀k,k<g.length->∃h':kh,(∀x,Cv.ev g x=(x-r) ^ (k+1)*Cv.ev h' x)/\h'.length=g.length-(k+1):=λk=>by
  induction k with
  | zero =>
    intro hk;refine⟨quo r g,λx=>?_,by rw[Iq]⟩
    rw[KZ r x g,g0,cH,cG];grind
  | succ k ih =>
    intro hk;obtain⟨h',e,J⟩:=ih Yl
    have hz:Cv.ev h' r=0:=by
     have O:∀x,Cv.ev fs x=(x-r) ^ (k+1)*Cv.ev (Fm ls h') x:=λx=>by rw[h,e,Ey];grind
     have sl:=Ko (k+1) fs O;have hd:∀x,Cv.ev (dL fs) x=Cv.ev q x*Cv.ev g x:=λx=>by rw[<- L2.FL];exact hq x
     have hh:=JI (A:=Fm [-r,1] (Fm q h')) (B:=Fe ((Fm ls h').map (· * ((k+1:Nat):Rat))) (Fm [-r,1] (dL (Fm ls h')))) (p:=r) (k+1) λx=>by
      have a:=sl x;rw[hd,e,O]at a;rw[FK,Cv.ev_scale,Ey x (Fm q h') [-r,1],Ey x (dL (Fm ls h')) [-r,1],Ey x h' q,show Cv.ev [-r,1] x=x-r by show -r+x*(1+x*0)=_;grind]
      rw[cH (x-r) (k+1)]at a
      grind
     have:=hh r;rw[FK,Cv.ev_scale,Ey,Ey r (dL (Fm ls h')) [-r,1],show Cv.ev [-r,1] r=0 by show -r+r*(1+r*0)=_;grind,Ey r h' ls]at this
     have k0:((k+1:Nat):Rat)≠0:=by
      intro w;have:(k+1:Nat)=0:=by exact_mod_cast w
      lia
     have t:Cv.ev ls r*Cv.ev h' r*((k+1:Nat):Rat)=0:=by grind
     rcases cP.mp t with w | w
     ·rcases cP.mp w with w | w
      ·exact absurd w y
      ·exact w
     ·exact absurd w k0
    refine⟨quo r h',λx=>?_,by rw[Iq,J];lia⟩
    rw[e,KZ r x h',hz,cH (x-r) (k+1)];grind
 have gl:=cI.mpr P.ne;obtain⟨h',e,J⟩:=Y (g.length-1) Yl;have h0:h'=[]:=dR.mp Yl;exact P.ne (EO P.good (.inl rfl) λx=>by rw[e,h0];show _*(0:Rat)=0;grind)
theorem ev4(h:F.length<=4):∃f0 Y f2 O:Rat,∀x,Cv.ev F x=f0+x*(Y+x*(f2+x*O))/\Cv.ev (dL F) x=Y+x*(2*f2+x*(3*O)):=by
 have e1:((0+1:Nat):Rat)=1:=rfl;have J:((1+1:Nat):Rat)=2:=rfl;have e3:((2+1:Nat):Rat)=3:=rfl
 match F,h with
 | [],_=>exact⟨0,0,0,0,λx=>⟨by show(0:Rat)=_;grind,by rw[<- FL];show(0:Rat)=_;grind⟩⟩
 | [a],_=>exact⟨a,0,0,0,λx=>⟨by show a+x*0=_;grind,by rw[<- FL];show(0:Rat)=_;grind⟩⟩
 | [a,b],_=>exact⟨a,b,0,0,λx=>⟨by show a+x*(b+x*0)=_;grind,by rw[<- FL];show b*((0+1:Nat):Rat)+x*0=_;rw[e1];grind⟩⟩
 | [a,b,c],_=>exact⟨a,b,c,0,λx=>⟨by show a+x*(b+x*(c+x*0))=_;grind,by rw[<- FL];show b*((0+1:Nat):Rat)+x*(c*((1+1:Nat):Rat)+x*0)=_;rw[e1,J];grind⟩⟩
 | [a,b,c,d],_=>exact⟨a,b,c,d,λx=>⟨by show a+x*(b+x*(c+x*(d+x*0)))=_;grind,by rw[<- FL];show b*((0+1:Nat):Rat)+x*(c*((1+1:Nat):Rat)+x*(d*((2+1:Nat):Rat)+x*0))=_;rw[e1,J,e3];grind⟩⟩
theorem PY(h:F.length<=4)(x y:Rat):6*(Cv.ev F y-Cv.ev F x)=(y-x)*(Cv.ev (dL F) x+4*Cv.ev (dL F) ((x+y)*(1/2))+Cv.ev (dL F) y):=by
 obtain⟨O,f1,J,Y,k⟩:=ev4 h;rw[(k y).1,(k x).1,(k x).2,(k _).2,(k y).2]
 grind
theorem S5(h:F.length<=4):MA (Cv.ev F) (Cv.ev (dL F)):=λd x y hd Y k=>by
 have s:=PY h x y;have a:=(Cts.mulc (GN (dL F)) hd).low Y k;have b:=(Cts.mulc (GN (dL F)) hd).upp Y k;have c:=k ((x+y)*(1/2)) (by grind) (by grind)
 have e:=fo (a:=y-x) (b:=d*Cv.ev (dL F) x+4*(d*Cv.ev (dL F) ((x+y)*(1/2)))+d*Cv.ev (dL F) y) (by grind) (by grind)
 generalize Cv.ev (dL F) x=dx at *;generalize Cv.ev (dL F) y=dy at *;generalize Cv.ev (dL F) ((x+y)*(1/2))=O at *;generalize Cv.ev F y=fy at *;generalize Cv.ev F x=J at *
 rcases hd with rfl | rfl<;>grind
theorem S4(h:F.length<=4)(Y:∀x,Cv.ev (dL F) x=c*((x-a)*(x-a))):MA (Cv.ev F) λ_=>c:=λd x y hd O k=>by
 have s:=PY h x y;have J:0<d*c:=k ((x+y)*(1/2)) (by grind) (by grind)
 rw[Y,Y,Y]at s;have q1:=Ki (x-a);have q2:=Ki ((x+y)*(1/2)-a);have q3:=Ki (y-a)
 have q4:0<(x-a)*(x-a)+4*(((x+y)*(1/2)-a)*((x+y)*(1/2)-a))+(y-a)*(y-a):=by
  have:=fo (a:=y-x) (b:=y-x) (by grind) (by grind)
  have:=Ki (x+y-2*a)
  grind
 have e:=fo (a:=y-x) (b:=d*c*((x-a)*(x-a)+4*(((x+y)*(1/2)-a)*((x+y)*(1/2)-a))+(y-a)*(y-a))) (by grind) (fo J q4)
 generalize(x-a)*(x-a)=t1 at *;generalize((x+y)*(1/2)-a)*((x+y)*(1/2)-a)=t2 at *;generalize(y-a)*(y-a)=t3 at *;generalize Cv.ev F y=fy at *;generalize Cv.ev F x=fx at *
 rcases hd with rfl | rfl<;>grind
theorem Mp(c:Rat):Cts λ_=>c:=λm=>⟨1,Yd,λd x Y _ _ _=>by constructor<;>grind⟩
theorem HK(Y:c≠0)(h:lo<hi):Fq (λ_=>c) lo hi 0:=by
 obtain⟨s,hs,k⟩:=Js Y;have:=Fq.con (f:=λ_=>c) h ⟨s,hs,λx _ _=>k⟩
 rwa [G8 Y]at this
theorem GH(h:Fq f lo hi n)(e:∀x,g x=f x):Fq g lo hi n:=by
 have:g=f:=funext e;rw[this];exact h
theorem Jn(e:∀x,g x=f x)(x:Rat):z0 g x=z0 f x:=by unfold z0;rw[e]
theorem Ke(Y:b≠0)(h:Fq (λx=>a+b*x) lo hi n):z0 (λx=>a+b*x) lo+n<=1:=by
 have J:Cts λx:Rat=>a+b*x:=by
  have:=GN [a,b];have e:(λx:Rat=>a+b*x)=Cv.ev [a,b]:=funext λx=>by show _=a+x*(b+x*0);grind
  rw[e];exact this
 have O:MA (λx=>a+b*x) λ_=>b:=λd x y hd aa k=>by
  have:=k ((x+y)*(1/2)) (by grind) (by grind)
  have:=fo this (by grind:0<y-x)
  grind
 have:=rolle J (Mp b) O h (HK Y h.lt);rw[G8 (f:=λ_=>b) Y]at this;exact this
theorem Lz(hb:b≠0)(h:lo<hi):∃n,Fq (λx=>a+b*x) lo hi n:=by
 have bi:=dC _ hb;obtain⟨s,hs,k⟩:=Js hb;obtain⟨r,hr⟩:∃r:Rat,b*r = -a:=⟨-a*b⁻¹,by grind⟩
 have ea:∀x,a+b*x=b*(x-r):=λx=>by rw[show a = -(b*r) by grind];grind
 have J:∀O Y,r<=O->Con (λx=>a+b*x) O Y:=λO Y z=>⟨s,hs,λx x1 x2=>by have:=fo k (by grind:0<x-r);dsimp only;rw[ea x];grind⟩
 have dn:∀O Y,Y<=r->Con (λx=>a+b*x) O Y:=λO Y z=>⟨-s,Ln hs,λx x1 x2=>by have:=fo k (by grind:0<r-x);dsimp only;rw[ea x];grind⟩
 by_cases h1:r<=lo
 ·exact⟨_,.con h (J lo hi h1)⟩
 ·by_cases h2:hi<=r
  ·exact⟨_,.con h (dn lo hi h2)⟩
  ·exact⟨_,.app (.con (by grind:lo<r) (dn lo r fg)) (.con (by grind:r<hi) (J r hi fg))⟩
theorem Td(Y:EI l)(nl:l≠[])(h3:l.length<=3)(h:Fq (Cv.ev l) lo hi n):z0 (Cv.ev l) lo+n<=2:=by
 have O:=h.lt
 match l,nl,h3,Y with
 | [a],_,_,Y =>
   have a0:a≠0:=by
    rcases Y with z | ⟨q,z,y⟩
    ·cases z
    ·cases z;exact y
   have e:∀x,Cv.ev [a] x=a:=λx=>by show a+x*0=_;grind
   have c:=GH (HK a0 O) e;rw[Fq.one (GN [a]) c h];have:=KI (Cv.ev [a]) lo
   lia
 | [a,b],_,_,Y =>
   have b0:b≠0:=by
    rcases Y with z | ⟨q,z,y⟩
    ·cases z
    ·cases z;exact y
   have e:∀x,a+b*x=Cv.ev [a,b] x:=λx=>by show _=a+x*(b+x*0);grind
   have c:=Ke b0 (GH (g:=λx=>a+b*x) h e);rw[Jn (g:=λx=>a+b*x) e]at c
   lia
 | [a,b,c],_,_,Y =>
   have c0:c≠0:=by
    rcases Y with z | ⟨q,z,y⟩
    ·cases z
    ·cases z;exact y
   have e:∀x,b+2*c*x=Cv.ev (dL [a,b,c]) x:=λx=>by
    rw[<- FL];show _=b*((0+1:Nat):Rat)+x*(c*((1+1:Nat):Rat)+x*0);rw[show((0+1:Nat):Rat)=1 from rfl,show((1+1:Nat):Rat)=2 from rfl];grind
   have c2:2*c≠0:=by grind
   obtain⟨m,hm⟩:=Lz (a:=b) c2 O;have k1:=Ke c2 hm;have J:Fq (Cv.ev (dL [a,b,c])) lo hi m:=GH hm λx=>(e x).symm;have k2:=rolle (GN _) (GN _) (S5 (show[a,b,c].length<=4 by show 3<=4;decide)) h J
   rw[<- Jn (g:=λx=>b+2*c*x) e]at k2
   lia
theorem Tc{f p k:Rat->Rat}{s lo hi:Rat}(hs:s=1\/s = -1)(hp:∀x,lo<=x->x<=hi->0<s*p x)(e:∀x,f x=p x*k x){n:Nat}(h:Fq f lo hi n):Fq k lo hi n:=by
 have nz:∀x,lo<=x->x<=hi->(z0 f x=z0 k x):=λx a b=>by
  have:=hp x a b;unfold z0;rw[e];by_cases y:k x=0
  ·rw[if_pos (by rw[y];grind),if_pos y]
  ·rw[if_neg (λw=>by
    rcases cP.mp w with w | w
    ·rw[w]at this;grind
    ·exact y w),if_neg y]
 have sg:∀t x,lo<=x->x<=hi->((0<t*f x↔0<t*s*k x)/\(t*f x<0↔t*s*k x<0)):=λt x a b=>by
  have h1:=hp x a b;have h2:t*f x=(s*p x)*(t*s*k x):=by rw[e];rcases hs with rfl | rfl<;>grind
  rw[h2];generalize t*s*k x=v;generalize s*p x=u at h1;refine⟨⟨λz=>?_,λz=>fo h1 z⟩,λz=>?_,λz=>by have:=fo h1 (by grind:0 < -v);grind⟩
  ·by_cases w:0<v
   ·exact w
   ·have:=fz (a:=u) (b:=-v) (by grind) (by grind);grind
  ·by_cases w:v<0
   ·exact w
   ·have:=fz (a:=u) (b:=v) (by grind) (by grind);grind
 have ts:∀t:Rat,(t=1\/t = -1)->(t*s=1\/t*s = -1):=λt Y=>by rcases Y with rfl | rfl<;>rcases hs with rfl | rfl<;>grind
 have go:∀{a b n},Fq f a b n->lo<=a->b<=hi->Fq k a b n:=fun{a b n} h=>by
  induction h with
  | @con a b h c =>
    intro J O;obtain⟨t,Y,c⟩:=c;have:=Fq.con (f:=k) h ⟨t*s,ts t Y,λx x1 x2=>((sg t x (by grind) (by grind)).1).mp (c x x1 x2)⟩
    rwa [<- nz b (by grind) O]at this
  | @swi a b h c =>
    intro J O;obtain⟨t,Y,mo,⟨x,x1,x2,x3⟩,y,y1,y2,y3⟩:=c;have:=Fq.swi (f:=k) h ⟨t*s,ts t Y,λu v u1 uv v2 z=>?_,⟨x,x1,x2,((sg t x (by grind) (by grind)).1).mp x3⟩,y,y1,y2,((sg t y (by grind) (by grind)).2).mp y3⟩
    ·rwa [<- nz b (by grind) O]at this
    ·refine((sg t v (by grind) (by grind)).2).mp (mo u v u1 uv v2 ?_)
     by_cases w:t*f u<=0
     ·exact w
     ·have:=((sg t u (by grind) (by grind)).1).mp (by grind);grind
  | app g1 g2 i1 i2 =>
    intro J O;have l1:=g1.lt;have l2:=g2.lt;exact .app (i1 J (by grind)) (i2 (by grind) O)
 exact go h fg fg
theorem IM(J:EI fs)(gl:EI ls)(gg:EI g)(Y:ls≠[])(O:g≠[])(h:∀x,Cv.ev fs x=Cv.ev ls x*Cv.ev g x):fs.length=ls.length+g.length-1:=by
 have e:fs=Fm ls g:=EO J (HG gl gg Y O) λx=>by rw[h,Ey]
 rw[e,FV g (cI.mpr O) ls (cI.mpr Y)]
structure Lon(fs ls g:kh):Prop where
 gf:EI fs
 nf:fs≠[]
 gl:EI ls
 P:Kh fs (EW fs) g
 h:∀x,Cv.ev fs x=Cv.ev ls x*Cv.ev g x
theorem Lon.nl(L:Lon fs ls g):ls≠[]:=λz=>L.nf (EO L.gf (.inl rfl) λx=>by rw[L.h,z];show(0:Rat)*_=0;grind)
theorem Lon.len(L:Lon fs ls g):fs.length=ls.length+g.length-1:=IM L.gf L.gl L.P.good L.nl L.P.ne L.h
theorem Lon.z(L:Lon fs ls g)(r:Rat):Cv.ev fs r=0↔Cv.ev ls r=0:=Rn L.P L.h r
theorem Lon.z0(L:Lon fs ls g)(r:Rat):Pf.z0 (Cv.ev fs) r=Pf.z0 (Cv.ev ls) r:=by
 unfold Pf.z0;by_cases y:Cv.ev ls r=0
 ·rw[if_pos y,if_pos ((L.z r).mpr y)]
 ·rw[if_neg y,if_neg λw=>y ((L.z r).mp w)]
theorem Lon.two(L:Lon fs ls g)(h:2<=fs.length):2<=ls.length:=by
 have J:=L.len;have O:=cI.mpr L.nl;have Y:=cI.mpr L.P.ne;by_cases z:2<=ls.length
 ·exact z
 exfalso;have gs:EI (EW fs):=Jk L.gf;have e:=FA.rest (os:=[]) (rs:=EW fs) L.P.into.2 L.P.good L.P.ne (.inl rfl) gs (by rw[GI];lia) λx=>by show _=(0:Rat)*_+_;grind
 have:=GI fs;rw[e]at this;simp at this
 lia
theorem Lon.forms(L:Lon fs ls g)(h4:fs.length<=4):(∀x,Cv.ev g x=1)\/∃r,Cv.ev ls r=0/\Cv.ev g r=0/\((∀x,Cv.ev g x=x-r)\/∀x,Cv.ev g x=(x-r)*(x-r)):=by
 have hl:=L.len;have l1:=cI.mpr L.nl;have g1:=cI.mpr L.P.ne;have m:=L.P.mono;by_cases h2:2<=fs.length
 ·have l2:=L.two h2;have g3:g.length=1\/g.length=2\/g.length=3:=by lia
  rcases g3 with z | z | z
  ·left
   match g,z with
   | [a],_ =>
     cases m;intro x;show(1:Rat)+x*0=1
     grind
  ·right
   match g,z with
   | [a,b],_ =>
     cases m;have e:∀x,Cv.ev [a,1] x=x - -a:=λx=>by show a+x*(1+x*0)=_;grind
     have Y:Cv.ev [a,1] (-a)=0:=by rw[e];grind
     exact⟨-a,(L.z _).mp (by rw[L.h,Y];grind),Y,.inl e⟩
  ·right;have lz:ls.length=2:=by lia
   match g,z,ls,lz with
   | [q,p,t],_,[a,b],_ =>
     cases m
     have J:b≠0:=by
      rcases L.gl with z | ⟨q,z,y⟩
      ·cases z
      ·cases z;exact y
     have ef:fs=[a*q,a*p+b*q,a+b*p,b]:=by
      refine EO L.gf (.inr ⟨b,Z,J⟩) λx=>?_;rw[L.h];show(a+x*(b+x*0))*(q+x*(p+x*(1+x*0)))=a*q+x*((a*p+b*q)+x*((a+b*p)+x*(b+x*0)))
      grind
     have es:∀x,Cv.ev (EW fs) x=(a*p+b*q)+x*(2*(a+b*p)+x*(3*b)):=λx=>by
      rw[ef];show(a*p+b*q)*((0+1:Nat):Rat)+x*((a+b*p)*((1+1:Nat):Rat)+x*(b*((2+1:Nat):Rat)+x*0))=_;rw[show((0+1:Nat):Rat)=1 from rfl,show((1+1:Nat):Rat)=2 from rfl,show((2+1:Nat):Rat)=3 from rfl]
      grind
     have er:=FA.rest (os:=[3*b]) (rs:=Cv.strip [a*p-2*b*q,2*a-b*p]) L.P.into.2 L.P.good L.P.ne (.inr ⟨3*b,Z,by grind⟩) (EL _) (c5 (Cv.strip_length _) (by decide:2<3)) λx=>by
      rw[es,Cv.ev_strip];show _=(3*b+x*0)*(q+x*(p+x*(1+x*0)))+((a*p-2*b*q)+x*((2*a-b*p)+x*0))
      grind
     have ez:∀x,(a*p-2*b*q)+x*((2*a-b*p)+x*0)=0:=λx=>by
      have:=Cv.ev_strip x [a*p-2*b*q,2*a-b*p];rw[er]at this;exact this.symm
     have e1:a*p=2*b*q:=by have:=ez 0;grind
     have e2:b*p=2*a:=by have:=ez 1;grind
     have bi:=dC _ J;obtain⟨r,hr⟩:∃r:Rat,a = -(b*r):=⟨-(a*b⁻¹),by grind⟩
     have O:∀u v:Rat,b*u=b*v->u=v:=λu v w=>by
      have:b⁻¹*(b*u)=b⁻¹*(b*v):=by rw[w]
      have c:b⁻¹*b=1:=by grind
      rw[<- dB,<- dB,c,dP,dP]at this;exact this
     have hp:p = -2*r:=O _ _ (by grind)
     have hq:q=r*r:=by
      have h1:b*(2*q)=b*(2*(r*r)):=by
       have : -(b*r)*p=2*b*q:=by rw[<- hr];exact e1
       rw[hp]at this
       grind
      have:=O _ _ h1
      grind
     have e:∀x,Cv.ev [q,p,1] x=(x-r)*(x-r):=λx=>by
      show q+x*(p+x*(1+x*0))=_;rw[hq,hp];grind
     have Y:Cv.ev [q,p,1] r=0:=by rw[e];grind
     refine⟨r,?_,Y,.inr e⟩;show a+r*(b+r*0)=0
     grind
 ·left;have:g.length=1:=by lia
  match g,this with
  | [a],_ =>
    cases m;intro x;show(1:Rat)+x*0=1
    grind
theorem Lon.con(L:Lon fs ls g)(h4:fs.length<=4)(c:Con (Cv.ev ls) lo hi):Con (Cv.ev fs) lo hi:=by
 obtain⟨s,hs,k⟩:=c
 rcases L.forms h4 with z | ⟨r,r1,_,z⟩
 ·exact⟨s,hs,λx O Y=>by rw[L.h,z];have:=k x O Y;grind⟩
 have J:r<=lo\/hi<=r:=by
  by_cases w:lo<r/\r<hi
  ·have:=k r w.1 w.2;rw[r1]at this;grind
  ·grind
 rcases z with z | z
 ·rcases J with o | o
  ·exact⟨s,hs,λx O Y=>by rw[L.h,z];have:=fo (k x O Y) (by grind:0<x-r);grind⟩
  ·exact⟨-s,Ln hs,λx O Y=>by rw[L.h,z];have:=fo (k x O Y) (by grind:0<r-x);grind⟩
 ·refine⟨s,hs,λx O Y=>?_⟩;rw[L.h,z]
  have q:0<(x-r)*(x-r):=by
   rcases J with o | o
   ·exact fo (by grind) (by grind)
   ·have:=fo (a:=r-x) (b:=r-x) (by grind) (by grind);grind
  have:=fo (k x O Y) q
  grind
theorem Lon.slopes(L:Lon fs ls g)(h4:fs.length<=4)(M:Lon ds Y O)(hd:∀x,Cv.ev ds x=Cv.ev (dL fs) x)(d3:ds.length<=3)(h:Fq (Cv.ev ls) lo hi n)(k:Fq (Cv.ev Y) lo hi m):Pf.z0 (Cv.ev ls) lo+n<=Pf.z0 (Cv.ev Y) lo+m+1:=by
 have J:=h.lt;have aa:=L.len;have g1:=cI.mpr L.P.ne
 rcases L.forms h4 with z | ⟨r,r1,r2,zz⟩
 ·-- the curve is its own lone part
  have ef:∀x,Cv.ev fs x=Cv.ev ls x:=λx=>by rw[L.h,z];grind
  have hF:=GH h ef;rw[<- Jn ef lo]
  rcases M.forms Yl with w | ⟨a,a1,a2,w⟩
  ·have ed:∀x,Cv.ev (dL fs) x=Cv.ev Y x:=λx=>by rw[<- hd,M.h,w];grind
   have:=rolle (GN fs) (GN (dL fs)) (S5 h4) hF (GH k ed)
   rwa [Jn ed lo]at this
  ·-- a slope that is nought twice at one place
   have l2:Y.length=2/\∀x,Cv.ev O x=x-a:=by
    have ml:=M.len;have t:=M.two
    have ac:2<=O.length:=by
     by_cases y:2<=O.length
     ·exact y
     ·exfalso;have:O.length=1:=by have:=cI.mpr M.P.ne;lia
      match O,this,M.P.mono with
      | [u],_,mm =>
        cases mm;have:Cv.ev [1] a=1:=by show(1:Rat)+a*0=1;grind
        rw[this]at a2;grind
    have l1:=cI.mpr M.nl;have ad:=t Yl;refine⟨Yl,?_⟩
    rcases w with w | w
    ·exact w
    ·exfalso;have:O.length=2:=by lia
     match O,this,M.P.mono with
     | [u,v],_,mm =>
       cases mm;have h0:=w a;have h1:=w (a+1);have h2:=w (a+2);have e0:Cv.ev [u,1] a=u+a:=by show u+a*(1+a*0)=_;grind
       have e1:Cv.ev [u,1] (a+1)=u+(a+1):=by show u+(a+1)*(1+(a+1)*0)=_;grind
       have e2:Cv.ev [u,1] (a+2)=u+(a+2):=by show u+(a+2)*(1+(a+2)*0)=_;grind
       rw[e0]at h0;rw[e1]at h1;rw[e2]at h2
       grind
   obtain⟨l2,w⟩:=l2
   match Y,l2,M with
   | [u,v],_,M =>
     have v0:v≠0:=by
      rcases M.gl with z | ⟨q,z,y⟩
      ·cases z
      ·cases z;exact y
     have eu:u = -(v*a):=by
      have:u+a*(v+a*0)=0:=a1
      grind
     have hD:∀x,Cv.ev (dL fs) x=v*((x-a)*(x-a)):=λx=>by
      rw[<- hd,M.h,w];show(u+x*(v+x*0))*_=_;rw[eu];grind
     have:=rolle (GN fs) (Mp v) (S4 h4 hD) hF (HK v0 J);rw[G8 (f:=λ_=>v) v0]at this
     lia
 ·-- twice nought at r
  have dr:Cv.ev Y r=0:=by
   refine(M.z r).mp ?_;rw[hd];obtain⟨q,hq⟩:=L.P.into.2;have:Cv.ev (EW fs) r=0:=by rw[hq,r2];grind
   rw[<- FL];exact this
  have ae:2<=g.length:=by
   by_cases y:2<=g.length
   ·exact y
   ·exfalso;have:g.length=1:=by lia
    match g,this,L.P.mono with
    | [u],_,mm =>
      cases mm;have:Cv.ev [1] r=1:=by show(1:Rat)+r*0=1;grind
      rw[this]at r2;grind
  have b2:=Td L.gl L.nl Yl h;by_cases hin:lo<=r/\r<=hi
  ·have one:1<=Pf.z0 (Cv.ev Y) lo+m:=by
    by_cases y:r=lo
    ·rw[<- y,HY dr];lia
    ·have:=k.some (by grind:lo<r) hin.2 dr
     lia
   lia
  ·-- r lies outside
   have eq:∀x,Cv.ev ls x=(x-r)*Cv.ev (quo r ls) x:=λx=>by rw[KZ r x ls,r1];grind
   have hk:∃s:Rat,(s=1\/s = -1)/\∀x,lo<=x->x<=hi->0<s*(x-r):=by
    by_cases y:r<lo
    ·exact⟨1,.inl rfl,λx x1 x2=>by grind⟩
    ·exact⟨-1,.inr rfl,λx x1 x2=>by grind⟩
   obtain⟨s,hs,hp⟩:=hk;have c:=Tc (p:=λx=>x-r) (k:=Cv.ev (quo r ls)) hs hp eq h
   have zz:Pf.z0 (Cv.ev ls) lo=Pf.z0 (Cv.ev (quo r ls)) lo:=by
    have:=hp lo fg (by grind)
    unfold Pf.z0;rw[eq];by_cases y:Cv.ev (quo r ls) lo=0
    ·rw[if_pos (by rw[y];grind),if_pos y]
    ·rw[if_neg (λw=>by
      rcases cP.mp w with w | w
      ·rw[w]at this;grind
      ·exact y w),if_neg y]
   have ql:=Iq r ls
   have nq:∃x,Cv.ev (quo r ls) x≠0:=by
    by_cases y:∃x,Cv.ev (quo r ls) x≠0
    ·exact y
    ·exfalso;refine L.nl (EO L.gl (.inl rfl) λx=>?_)
     have:Cv.ev (quo r ls) x=0:=by
      by_cases w:Cv.ev (quo r ls) x=0
      ·exact w
      ·exact absurd ⟨x,w⟩ y
     rw[eq,this];show _=(0:Rat);grind
   have l3:ls.length<=3:=by lia
   have:(quo r ls).length<=2:=by lia
   have l1:Pf.z0 (Cv.ev (quo r ls)) lo+n<=1:=by
    generalize quo r ls=qs at c nq this
    match qs,this with
    | [],_=>obtain⟨x,hx⟩:=nq;exact absurd rfl hx
    | [a],_ =>
      have e:∀x,Cv.ev [a] x=a:=λx=>by show a+x*0=_;grind
      have a0:a≠0:=by obtain⟨x,hx⟩:=nq;rwa [e]at hx
      rw[Fq.one (GN [a]) (GH (HK a0 J) e) c];have:=KI (Cv.ev [a]) lo
      lia
    | [a,b],_ =>
      have e:∀x,a+b*x=Cv.ev [a,b] x:=λx=>by show _=a+x*(b+x*0);grind
      by_cases b0:b=0
      ·have e':∀x,Cv.ev [a,b] x=a:=λx=>by rw[<- e,b0];grind
       have a0:a≠0:=by obtain⟨x,hx⟩:=nq;rwa [e']at hx
       rw[Fq.one (GN [a,b]) (GH (HK a0 J) e') c];have:=KI (Cv.ev [a,b]) lo
       lia
      ·have c:=Ke b0 (GH (g:=λx=>a+b*x) c e)
       rwa [Jn (g:=λx=>a+b*x) e]at c
   lia
theorem Pz(f:Nat->Rat):∀k i,L2.An k f i=L2.Bn 1 k f i
 | 0,_=>rfl
 | k+1,i=>by
   show L2.An k f i+L2.An k f (i+1)=L2.Bn 1 k f i+1*L2.Bn 1 k f (i+1);rw[Pz f k i,Pz f k (i+1),dP]
theorem SN(Y:cs≠[])(hj:j<cs.length):(L2.hts cs lo hi).getD j 0=L2.evF (λi=>((L2.ch j i:Nat):Rat)*((L2.GF (hi-lo) lo cs).getD i 0 / ((L2.ch (cs.length-1) i:Nat):Rat))) 1 (j+1):=by
 have J:=L2.GD (hi-lo) lo cs;unfold L2.hts;rw[if_neg Y];unfold L2.Lr;rw[cU,bA,dI Yl];show(L2.aQN j (L2.Gm _)).getD 0 0=_;rw[L2.QT _ _ _ (by rw[L2.HW];lia),Pz,L2.MC]
 refine L2.GX 1 _ λi O=>?_;show _*(L2.Gm _).getD (0+i) 0=_
 have g:(L2.Gm (L2.GF (hi-lo) lo cs)).getD (0+i) 0=(L2.GF (hi-lo) lo cs).getD i 0 / ((L2.ch (cs.length-1) i:Nat):Rat):=by
  unfold L2.Gm;rw[dJ,cU,bA,dI Yl,J]
  rfl
 rw[g]
theorem Mo(k:Rat)(c d:Nat->Rat)(u:Rat):∀N,(∀i,i<N->d i=k*c i)->L2.evF d u N=k*L2.evF c u N
 | 0,_=>by show(0:Rat)=k*0;grind
 | N+1,h=>by
   have ih:=Mo k c d u N λi hi=>h i Yl;show L2.evF d u N+d N*u ^ N=k*(L2.evF c u N+c N*u ^ N);rw[ih,h N Yl];grind
theorem Mj(nl:l≠[])(O:Y.length=l.length)(h:∀x,Cv.ev Y x=k*Cv.ev l x)(lo hi:Rat):L2.hts Y lo hi=(L2.hts l lo hi).map (k * ·):=by
 have p1:=cI.mpr nl;have J:Y≠[]:=λz=>by rw[z]at O;simp at O;lia
 have l1:=L2.FH l lo hi;have l2:=L2.FH Y lo hi
 have hc:∀i,(GF (hi-lo) lo Y).getD i 0=k*(GF (hi-lo) lo l).getD i 0:=λi=>by
  have:=HJ (l:=GF (hi-lo) lo Y) (m:=(GF (hi-lo) lo l).map (· * k)) (λj=>by rw[Cv.ev_scale,JN,JN,h];grind) i
  rw[this,Fp];grind
 apply List.ext_getElem (by rw[bI,l1,l2,O])
 intro j h1 h2;have hj:j<l.length:=by lia
 have a:=SN (lo:=lo) (hi:=hi) nl hj;have b:=SN (lo:=lo) (hi:=hi) J (by lia:j<Y.length)
 rw[Mo k _ _ 1 (j+1) (λi aa=>?_),<- a]at b
 ·rw[fH];rw[cU,cU,cZ h1,cZ (by rw[bI]at h2;exact h2)]at b
  exact b
 ·rw[hc,O,fc,fc];grind
theorem Md{q k:Rat}(hk:0<k):(k*q).num.sign=q.num.sign:=by
 have h1:(((k*q).num:Int):Rat)=q*(k*(((k*q).den:Int):Rat)):=by
  have:=Nm.num_mul (k*q)
  grind
 have hd:(0:Rat)<(((k*q).den:Int):Rat):=by
  have:=(k*q).den_pos
  exact_mod_cast this
 exact S0 (fo hk hd) h1
theorem NG(hk:k≠0):VQ (hs.map (k * ·))=VQ hs:=by
 unfold VQ;rw[dN]
 rcases(by grind:0<k\/0 < -k) with z | z
 ·refine JR rfl ?_
  induction hs with
  | nil=>exact .nil
  | cons q r ih=>exact .cons (Md z) ih
 ·rw[<- J7 (hs.map (·.num)) 0,dN];refine JR rfl ?_
  induction hs with
  | nil=>exact .nil
  | cons q r ih =>
    refine .cons ?_ ih;show(k*q).num.sign=(-q.num).sign;have e:k*q = -k * -q:=by grind
    rw[e,Md z,fC]
theorem K6(J:l≠[])(O:Y.length=l.length)(hk:k≠0)(h:∀x,Cv.ev Y x=k*Cv.ev l x):∀n lo hi,pcs Y n lo hi=pcs l n lo hi
 | 0,lo,hi=>by
   have e:VQ (L2.hts Y lo hi)=VQ (L2.hts l lo hi):=by rw[Mj J O h,NG hk]
   unfold pcs one;rw[e]
 | n+1,lo,hi=>by
   have e:VQ (L2.hts Y lo hi)=VQ (L2.hts l lo hi):=by rw[Mj J O h,NG hk]
   unfold pcs one;rw[e,K6 J O hk h n,K6 J O hk h n]
theorem Lon.scaled(L:Lon fs ls g)(M:Lon fs' Y g')(hk:k≠0)(h:∀x,Cv.ev fs' x=Cv.ev fs x*k):∀x,Cv.ev Y x=k*Cv.ev ls x:=by
 have hs:∀x,Cv.ev (EW fs') x=Cv.ev (EW fs) x*k:=λx=>by
  have a:Cv.ev (EW fs') x=Cv.ev (dL fs') x:=FL x fs';have b:Cv.ev (EW fs) x=Cv.ev (dL fs) x:=FL x fs;rw[a,b,K3 (l:=fs') (a:=fs) (b:=[k]) (λx=>by rw[h];show _=_*(k+x*0);grind),NL]
  show _*0+_*(k+x*0)=_
  grind
 have O:g=g':=L.P.one M.P (Com.scale hk hk h hs);subst O
 have:Y=ls.map (· * k):=by
  have e:=Nt L.P.good L.P.ne M.gl (show EI (ls.map (· * k)) from ?_) (rs:=[]) (rs':=[]) (.inl rfl) (.inl rfl) (cI.mpr L.P.ne) (cI.mpr L.P.ne) (λx=>by
   rw[<- M.h,h,L.h,Cv.ev_scale];show _+(0:Rat)=_+(0:Rat);grind)
  ·exact e.1
  ·rcases L.gl with z | ⟨q,z,y⟩
   ·exact .inl (by rw[z];rfl)
   ·refine .inr ⟨q*k,?_,λw=>by rcases cP.mp w with w | w;exact y w;exact hk w⟩
    rw[bI,bA,z];rfl
 intro x;rw[this,Cv.ev_scale];grind
theorem Lon.squared(L:Lon fs ls g)(M:Lon fs' O g')(h:∀x,Cv.ev fs' x=Cv.ev fs x*Cv.ev fs x):∃k:Rat,k≠0/\O.length=ls.length/\∀x,Cv.ev O x=k*Cv.ev ls x:=by
 have hs:∀x,Cv.ev (EW fs') x=2*(Cv.ev fs x*Cv.ev (EW fs) x):=λx=>by
  have a:Cv.ev (EW fs') x=Cv.ev (dL fs') x:=FL x fs';have b:Cv.ev (EW fs) x=Cv.ev (dL fs) x:=FL x fs;rw[a,b,K3 h];grind
 have Y:∀{A B C:kh},A≠[]->EI A->(∀x,Cv.ev A x*Cv.ev B x=Cv.ev A x*Cv.ev C x)->∀x,Cv.ev B x=Cv.ev C x:=fun{A B C} nA gA e x=>by
  have:=Nt gA nA (EL B) (EL C) (rs:=[]) (rs':=[]) (.inl rfl) (.inl rfl) (cI.mpr nA) (cI.mpr nA) (λx=>by
   rw[Cv.ev_strip,Cv.ev_strip];have:=e x;show _+(0:Rat)=_+(0:Rat)
   grind)
  rw[<- Cv.ev_strip x B,this.1,Cv.ev_strip]
 obtain⟨q,hq⟩:=L.P.into.2
 -- the curve times its common part divides both
 have J:FA (Fm fs g) g':=(M.P.is _).mp ⟨⟨ls,λx=>by rw[h,Ey,L.h];grind⟩,⟨q.map (· * 2),λx=>by rw[hs,Ey,Cv.ev_scale,hq];grind⟩⟩
 obtain⟨w,hw⟩:=J
 have e1:∀x,Cv.ev fs x=Cv.ev (Fm O (Fm g w)) x:=Y L.nf L.gf λx=>by
  have:=M.h x;rw[h,hw,Ey]at this;rw[Ey,Ey];grind
 have e2:∀x,Cv.ev ls x=Cv.ev (Fm O w) x:=Y L.P.ne L.P.good λx=>by
  have:=e1 x;rw[L.h,Ey,Ey]at this;rw[Ey];grind
 obtain⟨q',aa⟩:=M.P.into.2
 have e3:∀x,Cv.ev (EW fs) x=Cv.ev ((Fm q' (Fm g w)).map (· * (1/2))) x:=Y L.nf L.gf λx=>by
  have:=aa x;rw[hs,hw,Ey]at this;rw[Cv.ev_scale,Ey,Ey];grind
 have gw:FA (Fm g w) g:=(L.P.is _).mp ⟨⟨O,λx=>by rw[e1,Ey]⟩,⟨q'.map (· * (1/2)),λx=>by rw[e3,Cv.ev_scale,Cv.ev_scale,Ey];grind⟩⟩
 obtain⟨v,hv⟩:=gw
 have e4:∀x,Cv.ev [1] x=Cv.ev (Fm v w) x:=Y L.P.ne L.P.good λx=>by
  have:=hv x;rw[Ey]at this;rw[Ey,show Cv.ev [1] x=1 by show(1:Rat)+x*0=1;grind];grind
 -- so w is a single number
 have nw:Cv.strip w≠[]:=λz=>by
  have:=e4 0;rw[Ey,<- Cv.ev_strip 0 w,z]at this;have:(1:Rat)+0*0=Cv.ev v 0*0:=this
  grind
 have nv:Cv.strip v≠[]:=λz=>by
  have:=e4 0;rw[Ey,<- Cv.ev_strip 0 v,z]at this;have:(1:Rat)+0*0=0*Cv.ev w 0:=this
  grind
 have l1:=IM (fs:=[1]) (ls:=Cv.strip v) (g:=Cv.strip w) (.inr ⟨1,Z,Yd⟩) (EL v) (EL w) nv nw λx=>by rw[e4,Ey,Cv.ev_strip,Cv.ev_strip]
 have p1:=cI.mpr nw;have p2:=cI.mpr nv
 have lw:(Cv.strip w).length=1:=by
  have:([1]:kh).length=1:=rfl
  lia
 have gw:=EL w;have ew:∀x,Cv.ev w x=Cv.ev (Cv.strip w) x:=λx=>(Cv.ev_strip x w).symm;generalize Cv.strip w=ws at lw gw ew nw
 match ws,lw with
 | [c],_ =>
   have c0:c≠0:=by
    rcases gw with z | ⟨q,z,y⟩
    ·cases z
    ·cases z;exact y
   have ci:=dC _ c0;have ec:∀x,Cv.ev ls x=Cv.ev O x*Cv.ev [c] x:=λx=>by rw[e2,Ey,ew]
   have hl:=IM L.gl M.gl gw M.nl nw ec;refine⟨c⁻¹,λz=>by rw[z]at ci;grind,by rw[hl];show _=O.length+1-1;lia,λx=>?_⟩
   rw[ec];show _=c⁻¹*(_*(c+x*0))
   grind
theorem Lon.same(L:Lon fs ls g)(M:Lon fs' Y g')(hk:k≠0)(h:∀x,Cv.ev Y x=k*Cv.ev ls x)(n:Nat)(lo hi:Rat):pcs Y n lo hi=pcs ls n lo hi:=by
 have e:Y=ls.map (· * k):=EO M.gl (by
  rcases L.gl with z | ⟨q,z,y⟩
  ·exact .inl (by rw[z];rfl)
  ·refine .inr ⟨q*k,?_,λw=>by rcases cP.mp w with w | w;exact y w;exact hk w⟩
   rw[bI,bA,z];rfl) λx=>by rw[h,Cv.ev_scale];grind
 exact K6 L.nl (by rw[e,bI]) hk h n lo hi
def hv(p q:Int):ki->Int
 | []=>0
 | t::l=>t*q ^ l.length+p*hv p q l
theorem UU{p q:Int}{r:Rat}(h:r*(q:Rat)=(p:Rat)):∀ts:ki,((hv p q ts:Int):Rat)*(q:Rat)=Cv.ev (ts.map λt:Int=>(t:Rat)) r*(q:Rat) ^ ts.length
 | []=>by show((0:Int):Rat)*_=0*_;grind
 | t::l=>by
   have ih:=UU h l;show((t*q ^ l.length+p*hv p q l:Int):Rat)*(q:Rat)=((t:Rat)+r*Cv.ev (l.map λt:Int=>(t:Rat)) r)*(q:Rat) ^ (l.length+1);rw[cE,cF,cF,Rat.intCast_pow,cH,<- h]
   grind
theorem Qu(p q:Int):∀(l:ki) (z:Int),∃c:Int,hv p q (l++[z])=z*p ^ l.length+q*c
 | [],z=>⟨0,by show z*q ^ 0+p*0=z*p ^ 0+q*0;rw[dw,dw];lia⟩
 | t::l,z=>by
   obtain⟨c,e⟩:=Qu p q l z;refine⟨t*q ^ l.length+p*c,?_⟩;show t*q ^ (l++[z]).length+p*hv p q (l++[z])=z*p ^ (l.length+1)+_;rw[e,bH,show l.length+[z].length=l.length+1 from rfl,dz,dz]
   grind
theorem Uw(h:Nat.Coprime p.natAbs q)(d:(q:Int)∣z*p ^ k):(q:Int)∣z:=by
 have d':q∣z.natAbs*p.natAbs ^ k:=by
  have:=fI.mpr d;rw[d6,Int.natAbs_pow]at this;exact this
 have:=Nat.Coprime.dvd_of_dvd_mul_right (Nat.Coprime.pow_right k h.symm) d';exact fI.mp this
theorem Oc(h:Nat.Coprime p.natAbs q)(O:q≠0):∀ts:ki,(∀t∈ts,Bd W t)->(∃t∈ts,t≠0)->hv p (q:Int) ts=0->Bd W p
 | [],_,⟨_,hm,_⟩,_=>nomatch hm
 | t::l,hb,⟨z,hz,z0⟩,e=>by
   have e':t*(q:Int) ^ l.length+p*hv p q l=0:=e;by_cases t0:t=0
   ·subst t0;have:p*hv p q l=0:=by rw[fu,fJ]at e';exact e'
    rcases Int.mul_eq_zero.mp this with w | w
    ·rw[w];exact Iz
    ·refine Oc h O l (λt Y=>hb t (ZK _ Y)) ⟨z,?_,z0⟩ w
     rcases ZL.mp hz with y | y
     ·exact absurd y z0
     ·exact y
   ·have d:p∣t*(q:Int) ^ l.length:=⟨-hv p q l,by grind⟩
    have J:p∣t:=by
     have d':p.natAbs∣t.natAbs*q ^ l.length:=by
      have:=fI.mpr d;rw[d6,Int.natAbs_pow]at this;exact this
     exact fI.mp (Nat.Coprime.dvd_of_dvd_mul_right (Nat.Coprime.pow_right _ h) d')
    have bt:=hb t ZJ;have le:=Nat.le_of_dvd Yl (fI.mpr J);unfold Bd at bt ⊢
    lia
theorem Ua(o:Ov L W cs):∃ts:ki,(∀t∈ts,Bd W t)/\cs.map (· * (L:Rat))=ts.map λt:Int=>(t:Rat):=by
 obtain⟨l0,h⟩:=o
 induction cs with
 | nil=>exact⟨[],(λ_ h=>nomatch h),Z⟩
 | cons c r ih =>
   obtain⟨ts,b,e⟩:=ih λq J=>h q (ZK _ J);obtain⟨t,O,et⟩:=h c ZJ;refine⟨t::ts,λu Y=>?_,by rw[bZ,bZ,e,et]⟩
   rcases ZL.mp Y with z | z
   ·rw[z];exact O
   ·exact b u z
theorem U1(o:Ov L W fs)(gf:EI fs)(nf:fs≠[])(h:Cv.ev fs r=0):Bd W r.num/\Bd W (r.den:Int):=by
 obtain⟨ts,bt,e⟩:=Ua o;have l0:(L:Rat)≠0:=λz=>o.ne (eD.mp z);have aa:Cv.ev (ts.map λt:Int=>(t:Rat)) r=0:=by rw[<- e,Cv.ev_scale,h];grind
 have hr:r*(((r.den:Nat):Int):Rat)=(r.num:Rat):=(Nm.num_mul r).symm;have q0:(((r.den:Nat):Int):Rat)≠0:=λz=>Nm.den_ne r (eD.mp z)
 have hz:hv r.num (r.den:Int) ts=0:=by
  have:=UU hr ts;rw[aa,eR]at this
  rcases cP.mp this with w | w
  ·exact eD.mp w
  ·exact absurd w q0
 have hl:ts.length=fs.length:=by have:=congrArg b7 e;rw[bI,bI]at this;exact this.symm
 obtain⟨c,hc,c0⟩:∃c,fs[fs.length-1]? = some c/\c≠0:=by
  rcases gf with z | z
  ·exact absurd z nf
  ·exact z
 have p1:=cI.mpr nf
 obtain⟨z,O,Y⟩:∃z:Int,ts[ts.length-1]? = some z/\z≠0:=by
  have e1:(ts.map λt:Int=>(t:Rat))[fs.length-1]? = some (c*(L:Rat)):=by rw[<- e,bA,hc];rfl
  rw[bA]at e1;obtain⟨z,O,Y⟩:=Option.map_eq_some_iff.mp e1;refine⟨z,by rw[hl];exact O,λw=>?_⟩
  rw[w]at Y
  rcases cP.mp Y.symm with y | y
  ·exact c0 y
  ·exact l0 y
 have J:z∈ts:=bD O;refine⟨Oc r.reduced r.den_nz ts bt ⟨z,J,Y⟩ hz,?_⟩;have ne:ts≠[]:=λw=>by rw[w]at J;cases J
 have es:ts=ts.dropLast++[z]:=by
  have:=List.dropLast_concat_getLast ne
  have gl:ts.getLast ne=z:=by
   rw[List.getLast_eq_getElem];have:=ZO.mp O;exact this.2
  rw[gl]at this;exact this.symm
 obtain⟨k,ek⟩:=Qu r.num (r.den:Int) ts.dropLast z;rw[<- es,hz]at ek;have d:=Uw (z:=z) (k:=ts.dropLast.length) r.reduced ⟨-k,by grind⟩
 have le:=Nat.le_of_dvd Yl (fI.mpr d);have bz:=bt z J;unfold Bd at bz ⊢
 lia
theorem Iv{W V:Nat}(o:Ov L W cs)(h:W<=V):Ov L V cs:=⟨o.ne,λq Y=>let ⟨t,b,e⟩:=o.is q Y;⟨t,b.mono h,e⟩⟩
theorem Qd(o:Ov L W r)(O:EI cs)(h:∀x,Cv.ev cs x=Cv.ev r x):Ov L W cs:=by
 refine⟨o.ne,λq Y=>?_⟩;obtain⟨k,hk⟩:=eM Y;have e:q=r.getD k 0:=by rw[<- HJ (l:=cs) (m:=r) (λj=>h _) k,cU,hk];rfl
 cases z:r[k]? with
 | none=>exact⟨0,Iz,by rw[e,cU,z];show(0:Rat)*_=((0:Int):Rat);rw[eR];rfl⟩
 | some y =>
   have:q=y:=by rw[e,cU,z];rfl
   rw[this];exact o.is y (bD z)
theorem Lon.ov(L:Lon fs ls g)(h4:fs.length<=4)(o:Ov D W fs)(hD:Bd n D):∃E:Int,Bd (n+(W*4+1)) E/\Ov E (W+(4*(W+1)+2)) ls:=by
 rcases L.forms h4 with z | ⟨r,r1,r2,Y⟩
 ·exact⟨D,hD.mono Yl,Iv (Qd o L.gl λx=>by rw[L.h,z];grind) Yl⟩
 obtain⟨b1,O⟩:=U1 o L.gf L.nf ((L.z r).mpr r1)
 rcases Y with Y | Y
 ·have q:=Vx (m:=4) o (Nm.den_ne r) b1 O (Nm.num_mul r).symm h4;refine⟨_,hD.mul (O.pow 4),Qd q L.gl λx=>?_⟩;exact(Vl (s:=r) (λx=>by rw[L.h,Y];grind) x).symm
 ·-- ls is a line through r
  have hl:=L.len
  have gl:g.length=3:=by
   have m:=L.P.mono;have p:=cI.mpr L.P.ne;have t3:g=[r*r,-2*r,1]:=EO L.P.good (.inr ⟨1,Z,Yd⟩) λx=>by rw[Y];show _=r*r+x*(-2*r+x*(1+x*0));grind
   rw[t3];rfl
  have l2:ls.length=2:=by
   have t:=L.two (by have:=cI.mpr L.nl;lia)
   lia
  have J:∃b∈fs,ls=[-(b*r),b]:=by
   match ls,l2,L with
   | [a,b],_,L =>
     have b0:b≠0:=by
      rcases L.gl with z | ⟨q,z,y⟩
      ·cases z
      ·cases z;exact y
     have ea:a = -(b*r):=by
      have:a+r*(b+r*0)=0:=r1
      grind
     refine⟨b,?_,by rw[ea]⟩
     have ef:fs=[a*(r*r),a*(-2*r)+b*(r*r),a+b*(-2*r),b]:=by
      refine EO L.gf (.inr ⟨b,Z,b0⟩) λx=>?_;rw[L.h,Y];show(a+x*(b+x*0))*_=a*(r*r)+x*((a*(-2*r)+b*(r*r))+x*((a+b*(-2*r))+x*(b+x*0)))
      grind
     rw[ef];simp
  obtain⟨b,J,el⟩:=J;obtain⟨t,bt,et⟩:=o.is b J;refine⟨D*(r.den:Int),(hD.mul O).mono Yl,⟨cD o.ne (Nm.den_ne r),λq hq=>?_⟩⟩;rw[el]at hq;have hr:=Nm.num_mul r
  rcases ZL.mp hq with z | z
  ·refine⟨-(t*r.num),(Bd.neg (bt.mul b1)).mono Yl,?_⟩;rw[z,Rat.intCast_neg,cF,cF,<- et,hr];grind
  ·refine⟨t*(r.den:Int),(bt.mul O).mono Yl,?_⟩;rw[cY.mp z,cF,cF,<- et];grind
theorem Lon.lead(L:Lon fs ls g):fs[fs.length-1]? = ls[ls.length-1]?:=by
 have e:fs=Fm ls g:=EO L.gf (HG L.gl L.P.good L.nl L.P.ne) λx=>by rw[L.h,Ey]
 have O:=cI.mpr L.nl;have Y:=cI.mpr L.P.ne;obtain⟨v,hv⟩:∃v,ls[ls.length-1]? = some v:=⟨_,cZ Yl⟩;have:=Ih g 1 L.P.mono ls v hv;rw[hv,L.len,show ls.length+g.length-1-1=ls.length+g.length-2 by lia,e,this,dP]
theorem Lon.ovsq(L:Lon fs ls g)(M:Lon fs' Y g')(h:∀x,Cv.ev fs' x=Cv.ev fs x*Cv.ev fs x)(h4:fs.length<=4)(o:Ov D W fs)(hD:Bd n D):∃E:Int,Bd (n+(n+(W*4+1))) E/\Ov E (W+(W+(4*(W+1)+2))) Y:=by
 obtain⟨k,k0,hl,hk⟩:=L.squared M h;obtain⟨E,bE,oE⟩:=L.ov h4 o hD
 obtain⟨c,O,c0⟩:∃c,fs[fs.length-1]? = some c/\c≠0:=by
  rcases L.gf with z | z
  ·exact absurd z L.nf
  ·exact z
 have l1:=cI.mpr L.nf;have e2:fs'=Fm fs fs:=EO M.gf (HG L.gf L.gf L.nf L.nf) λx=>by rw[h,Ey]
 have c2:fs'[fs'.length-1]? = some (c*c):=by
  have:=Ih fs c O fs c O;rw[e2,FV fs l1 fs l1,show fs.length+fs.length-1-1=fs.length+fs.length-2 by lia]
  exact this
 have J:Y=ls.map (· * k):=EO M.gl (by
  rcases L.gl with z | ⟨q,z,y⟩
  ·exact .inl (by rw[z];rfl)
  ·refine .inr ⟨q*k,?_,λw=>by rcases cP.mp w with w | w;exact y w;exact k0 w⟩
   rw[bI,bA,z];rfl) λx=>by rw[hk,Cv.ev_scale];grind
 have kc:k=c:=by
  have a:=M.lead;rw[c2,J,bI,bA,<- L.lead,O]at a;have:c*c=c*k:=Zu.inj a;have ci:=dC _ c0;have:c⁻¹*(c*c)=c⁻¹*(c*k):=by rw[this]
  have e:c⁻¹*c=1:=by grind
  rw[<- dB,<- dB,e,dP,dP]at this;exact this.symm
 obtain⟨t,bt,et⟩:=o.is c (bD O);refine⟨D*E,hD.mul bE,⟨cD o.ne oE.ne,λq hq=>?_⟩⟩;rw[J]at hq;obtain⟨x,hx,rfl⟩:=eJ.mp hq;obtain⟨u,bu,eu⟩:=oE.is x hx;refine⟨t*u,bt.mul bu,?_⟩;rw[cF,cF,<- et,<- eu,kc];grind
def nct(fs:kh)(lo:Rat)(ps:List Pc):Nat:=z0 (Cv.ev fs) lo+Hl (Cv.ev fs) ps+HZ ps
theorem JX(h:∀x,z0 f x=z0 g x):∀ps:List Pc,Hl f ps=Hl g ps
 | []=>rfl
 | t::r=>by show z0 f t.2.1+Hl f r=z0 g t.2.1+Hl g r;rw[h,JX h r]
theorem Lon.nx(L:Lon fs ls g)(lo:Rat)(ps:List Pc)   : Pf.nct fs lo ps=Pf.z0 (Cv.ev ls) lo+(HZ ps+Hl (Cv.ev ls) ps):=by
 unfold Pf.nct;rw[L.z0,JX L.z0];lia
theorem Lon.parts(L:Lon fs ls g)(h1:lo<m)(h2:m<hi){ps Y bs:List Pc}(hp:pcs ls 16 lo hi=some ps)(ha:pcs ls 16 lo m=some Y)(hb:pcs ls 16 m hi=some bs):nct fs lo Y+nct fs m bs=nct fs lo ps+Pf.z0 (Cv.ev fs) m:=by
 obtain⟨c,_⟩:=He L.gl L.nl 16 lo hi ps (by grind) hp
 obtain⟨O,_⟩:=He L.gl L.nl 16 lo m Y h1 ha;obtain⟨J,_⟩:=He L.gl L.nl 16 m hi bs h2 hb;have:=Fq.one (GN ls) (.app O J) c;rw[L.nx,L.nx,L.nx,L.z0];lia
theorem Lon.rolle(L:Lon fs ls g)(h4:fs.length<=4)(M:Lon ds O J)(hd:∀x,Cv.ev ds x=Cv.ev (dL fs) x)(d3:ds.length<=3)(Y:lo<hi)(hp:pcs ls 16 lo hi=some ps)(hq:pcs O 16 lo hi=some qs):nct fs lo ps<=nct ds lo qs+1:=by
 obtain⟨c,_⟩:=He L.gl L.nl 16 lo hi ps Y hp;obtain⟨d,_⟩:=He M.gl M.nl 16 lo hi qs Y hq;have:=L.slopes h4 M hd d3 c d;rw[L.nx,M.nx];lia
theorem Of:∀{pss:kg},P23 pss->pss.flatten.length<=2*(EY pss).length
 | [],_=>ZU _
 | p::r,h=>by
   have ih:=Of (pss:=r) λps Y=>h ps (ZK _ Y);have Y:=h p ZJ;have e:EY (p::r)=GC p++EY r:=rfl;rw[e,bH,Fi,bU,bH]
   lia
theorem U0(h:P23 pss):∀q∈Ip pss,q∈pss.flatten:=λq O=>by
 unfold Ip at O;obtain⟨l,J,O⟩:=fF.mp O;obtain⟨ps,Y,rfl⟩:=eJ.mp J;have e:=List.eq_of_mem_replicate O;have h2:=h ps Y;exact fF.mpr ⟨ps,Y,by rw[e];exact EZ Yl⟩
theorem Si(o:Ov L W cs)(hc:cs.length<=8):Ov L (W+3) (EW cs):=by
 refine⟨o.ne,λq Y=>?_⟩;unfold EW at Y;obtain⟨j,O,rfl⟩:=eJ.mp Y;have aa:=ZD.mp O;obtain⟨t,J,e⟩:=o.is _ (EZ (l:=cs) (i:=j+1) Yl);refine⟨t*((j+1:Nat):Int),J.mul (by unfold Bd;lia),?_⟩
 rw[cF,<- e,Rat.intCast_natCast]
 grind
inductive Kz(K:ZE)(vs:ko)(H:Hp)(Q:VK)(E:XK):Prop
 | mk(r:ce)(qs:kh)(n:Nat)(_:vs=[.ref r])(_:Crv K H r qs)(_:EI qs)(_:qs≠[])(_:(∀q∈qs,RB n q))(_:1<=n)(_:n<=2000)(_:qs.length<=7)(_:∀(p:ce) (H':Hp) (g os:kh),E4 H H'->Crv K H' p os->Lon qs os g->Q (.ref p) H')
inductive MO(K:ZE)(vs:ko)(H:Hp)(Q:VK)(E:XK):Prop
 | mk(c rl rh:ce)(cs:kh)(lo hi:Rat)(_:vs=[.ref c,.ref rl,.ref rh])(_:Crv K H c cs)(_:EI cs)(_:Et K H (.ref rl) lo)(_:Et K H (.ref rh) hi)(_:lo<hi)(_:(∀q∈cs,RB 6000 q))(_:RB 100 lo)(_:RB 100 hi)(_:cs.length<=4)(_:∀(p:ce) (H':Hp) (zs:ko),E4 H H'->H p=none->H' p=some (.lst zs)->ED K H' zs (hts cs lo hi)->(∀q∈hts cs lo hi,RB 640000 q)->Q (.ref p) H')
inductive KU(K:ZE)(C:ce)(vs:ko)(H:Hp)(Q:VK)(E:XK):Prop
 | mk(r rl rh:ce)(fs:kh)(lo hi:Rat)(n:Nat)(_:vs=[.ref r,.ref rl,.ref rh])(_:Crv K H r fs)(_:EI fs)(_:fs≠[])(_:(∀q∈fs,RB n q))(_:1<=n)(_:n<=2000)(_:fs.length<=7)(_:Et K H (.ref rl) lo)(_:Et K H (.ref rh) hi)(_:lo<hi)(_:RB 70 lo)(_:RB 70 hi)(_:∀ls g,Lon fs ls g->(∀q∈ls,RB 6000 q)/\ls.length<=4/\(∀(ps:List Pc) (p:ce) (H':Hp) (ys:ko),pcs ls 16 lo hi=some ps->E4 H H'->H p=none->H' p=some (.lst ys)->Pcs K H' ys ps->Q (.ref p) H')/\(∀H',pcs ls 16 lo hi=none->E4 H H'->E (.ref C) none H'))
def JQ(f:Rat->Rat):kh->Nat
 | []=>0
 | e::r=>z0 f e+JQ f r
theorem Oq(f:Rat->Rat)(a b:kh):JQ f (a++b)=JQ f a+JQ f b:=by
 induction a with
 | nil=>show JQ f b=0+JQ f b;lia
 | cons e r ih=>show z0 f e+JQ f (r++b)=z0 f e+JQ f r+JQ f b;lia
theorem QI(f:Rat->Rat):∀ps:List Pc,JQ f (ps.map λt=>t.2.1)=Hl f ps
 | []=>rfl
 | t::r=>by show z0 f t.2.1+_=_;rw[QI f r];rfl
theorem QH(f:Rat->Rat):∀es:kh,JQ f es<=es.length
 | []=>ZR _
 | e::r=>by
   have:=QH f r;have:=KI f e;show z0 f e+JQ f r<=r.length+1
   lia
inductive M7(K:ZE)(C:ce)(vs:ko)(H:Hp)(Q:VK)(E:XK):Prop
 | mk(r rl rh:ce)(fs:kh)(lo hi:Rat)(n:Nat)(_:vs=[.ref r,.ref rl,.ref rh])(_:Crv K H r fs)(_:EI fs)(_:fs≠[])(_:(∀q∈fs,RB n q))(_:1<=n)(_:n<=2000)(_:fs.length<=7)(_:Et K H (.ref rl) lo)(_:Et K H (.ref rh) hi)(_:lo<hi)(_:RB 70 lo)(_:RB 70 hi)(_:∀ls g,Lon fs ls g->(∀q∈ls,RB 6000 q)/\ls.length<=4/\(∀(ps:List Pc) (H':Hp),pcs ls 16 lo hi=some ps->E4 H H'->Q (.int ((nct fs lo ps:Nat):Int)) H')/\(∀H',pcs ls 16 lo hi=none->E4 H H'->E (.ref C) none H'))
inductive OS(K:ZE)(vs:ko)(H:Hp)(Q:VK)(E:XK):Prop
 | mk(l:ce)(xs:ko)(qs:kh)(_:vs=[.ref l])(_:SqL K H l xs)(_:ED K H xs qs)(_:qs.length<=1000)(_:∀H',E4 H H'->Q (.int ((chF 0 (qs.map fK):Nat):Int)) H')
inductive PV(K:ZE)(vs:ko)(H:Hp)(Q:VK)(E:XK):Prop
 | mk(r rl rh:ce)(fs:kh)(lo hi:Rat)(n:Nat)(_:vs=[.ref r,.ref rl,.ref rh])(_:Crv K H r fs)(_:EI fs)(_:fs≠[])(_:(∀q∈fs,RB n q))(_:1<=n)(_:n<=2000)(_:fs.length<=7)(_:Et K H (.ref rl) lo)(_:Et K H (.ref rh) hi)(_:lo<hi)(_:RB 70 lo)(_:RB 70 hi)(_:∀ls g,Lon fs ls g->(∀q∈ls,RB 6000 q)/\ls.length<=4/\(∀(ps:List Pc) (H':Hp),pcs ls 16 lo hi=some ps->E4 H H'->Q (.int ((nct fs lo ps:Nat):Int)) H')/\(∀H',pcs ls 16 lo hi=none->E4 H H'->Q .non H'))
inductive MP(K:ZE)(vs:ko)(H:Hp)(Q:VK)(E:XK):Prop
 | mk(a r:ce)(xs:ko)(pss:kg)(_:vs=[.ref a,.ref r])(_:Pen H a)(_:SqT K H r xs)(_:Gu K H xs pss)(_:(pss.map λps=>ps.getD 0 0).Nodup)(_:(∀ps∈pss,RB 20 (ps.getD 0 0)))(_:∀(t rl rh:ce) (lo hi:Rat) (H':Hp),Mv a H H'->Pen H' a->H' t=some (.tup [.ref rl,.ref rh])->Et K H' (.ref rl) lo->Et K H' (.ref rh) hi->lo<hi->RB 20 lo->RB 20 hi->Q (.ref t) H')
theorem Vv:Kg (CX2 P w) X E0:=λ_ _ _ _ _ _ _ ⟨_,_,_,_,_,_,_,_,_,_,_,_,_,h⟩=>h.elim
theorem Ri(h1:RB 16 p)(h2:RB 16 q):Bd 33 (p-q).num/\Bd 32 ((p-q).den:Int):=by
 rw[<- Nm.minus_eq];exact⟨Bd.num (Bd.sub (h1.1.mul h2.2) (h2.1.mul h1.2)),Bd.den (cD (Nm.den_ne p) (Nm.den_ne q)) (h1.2.mul h2.2)⟩
theorem W6(O:P23 pss)(h4:(EY pss).length<=4)(hb:∀ps∈pss,∀q∈ps,RB 16 q)(Y:∀ps∈pss,RB 16 (ps.getD 0 0))(hc:∀x,Cv.ev cs x=IP (kn pss) (FJ pss) x):∃L:Int,Bd 740 L/\Ov L 900 cs:=by
 have hl:=Of O
 obtain⟨L,l0,bL,is⟩:=RS (hh:=16) (hd:=16) (n:=33) (dv:=32) (λq hq=>by
  obtain⟨ps,aa,hq⟩:=fF.mp hq;exact hb ps aa q hq) (λa ha b J=>by
  obtain⟨p1,m1,rfl⟩:=Lp ha;obtain⟨p2,m2,rfl⟩:=Lp J;exact Ri (Y p1 m1) (Y p2 m2)) Yd (U0 O)
 have m1:(EY pss).length*(33*(EY pss).length+1)<=4*(33*4+1):=eE h4 Yl;have m2:(EY pss).length*(32+33*(EY pss).length+2)<=4*(32+33*4+2):=eE h4 Yl;obtain⟨P,p0,bP,o⟩:=Sk (n:=16) l0 (kn pss) (FJ pss) is (Qp Y);have hl:=FZ pss;have o2:=Sm o λx=>by rw[hc,Sw]
 exact⟨L*P,(bL.mul bP).mono Yl,Iv o2 Yl⟩
theorem Qc(o:Ov L W cs)(Y:Bd n L)(h1:W<=m)(h2:n<=m):∀q∈cs,RB m q:=λq O=>let ⟨a,b⟩:=o.rb Y O;⟨a.mono h1,b.mono h2⟩
theorem Lon.le(L:Lon fs ls g):ls.length<=fs.length:=by
 have:=L.len;have:=cI.mpr L.P.ne
 lia
theorem Sn:∀{a b:kh},Ov L W a->Ov L W b->Ov L (W+1) (L2.Fe a b)
 | [],b,_,ob=>by
   have e:L2.Fe [] b=b:=by cases b<;>rfl
   rw[e];exact Iv ob Yl
 | x::a,[],oa,_=>Iv oa Yl
 | x::a,y::b,oa,ob=>by
   have O:=Sn (a:=a) (b:=b) ⟨oa.ne,λq Y=>oa.is q (ZK _ Y)⟩ ⟨ob.ne,λq Y=>ob.is q (ZK _ Y)⟩;refine⟨oa.ne,λq Y=>?_⟩
   rcases ZL.mp (show q∈(x+y)::L2.Fe a b from Y) with z | z
   ·obtain⟨t,bt,et⟩:=oa.is x ZJ;obtain⟨u,bu,J⟩:=ob.is y ZJ;exact⟨t+u,Bd.add bt bu,by rw[z,cE,<- et,<- J];grind⟩
   ·exact O.is q z
theorem Sl{W V:Nat}(O:Ov M V m):∀{l:kh},Ov L W l->Ov (L*M) (W+V+l.length) (Fm l m)
 | [],ol=>⟨cD ol.ne O.ne,λ_ h=>nomatch h⟩
 | a::l,ol=>by
   have ih:=Sl O (l:=l) ⟨ol.ne,λq Y=>ol.is q (ZK _ Y)⟩;obtain⟨t,bt,et⟩:=ol.is a ZJ
   have o1:Ov (L*M) (W+V+l.length) (m.map (· * a)):=⟨ih.ne,λq Y=>by
    obtain⟨x,hx,rfl⟩:=eJ.mp Y;obtain⟨u,bu,J⟩:=O.is x hx;exact⟨t*u,(bt.mul bu).mono Yl,by rw[cF,cF,<- et,<- J];grind⟩⟩
   have o2:Ov (L*M) (W+V+l.length) (0::Fm l m):=⟨ih.ne,λq Y=>by
    rcases ZL.mp Y with z | z
    ·exact⟨0,Iz,by rw[z,eR];rfl⟩
    ·exact ih.is q z⟩
   exact Sn o1 o2
structure Cf(fs:kh):Prop where
 gf:EI fs
 nf:fs≠[]
 h4:fs.length<=4
 ov:∃L:Int,Bd 760 L/\Ov L 910 fs
theorem Cf.rb(c:Cf fs):∀q∈fs,RB 910 q:=by
 obtain⟨L,b,o⟩:=c.ov;exact Qc o b (ZR _) Yd
theorem Cf.lone(c:Cf fs)(l:Lon fs ls g):(∀q∈ls,RB 6000 q)/\ls.length<=4:=by
 obtain⟨L,b,o⟩:=c.ov;obtain⟨E,Y,O⟩:=l.ov c.h4 o b;exact⟨Qc O Y Yd Yd,ZF l.le c.h4⟩
theorem Cf.square(c:Cf fs)(l:Lon fs ls g)(h:∀x,Cv.ev fs' x=Cv.ev fs x*Cv.ev fs x)(m:Lon fs' Y g'):(∀q∈Y,RB 6000 q)/\Y.length<=4:=by
 obtain⟨L,b,o⟩:=c.ov;obtain⟨E,J,O⟩:=l.ovsq m h c.h4 o b;obtain⟨k,k0,hl,_⟩:=l.squared m h;exact⟨Qc O J Yd Yd,by have:=(c.lone l).2;lia⟩
theorem Cf.sq(c:Cf fs)(g:EI fs')(h:∀x,Cv.ev fs' x=Cv.ev fs x*Cv.ev fs x):fs'≠[]/\fs'.length<=7/\∀q∈fs',RB 2000 q:=by
 have Y:=cI.mpr c.nf;have e:fs'=Fm fs fs:=EO g (HG c.gf c.gf c.nf c.nf) λx=>by rw[h,Ey]
 have O:fs'.length=fs.length+fs.length-1:=by rw[e,FV fs Y fs Y]
 have h4:=c.h4;refine⟨λz=>by rw[z]at O;simp at O;lia,Yl,?_⟩
 obtain⟨L,b,o⟩:=c.ov;have J:Ov (L*L) (910+910+4) fs':=by rw[e];exact Iv (Sl o o) Yl
 exact Qc J (b.mul b) Yd Yd
theorem QZ(hk:k≠0)(h:∀x,Y x=f x*k)(x:Rat):z0 Y x=z0 f x:=by
 by_cases e:f x=0
 ·rw[HY e,HY (by rw[h,e,eR])]
 ·rw[G8 e,G8 λz=>by rw[h]at z;rcases cP.mp z with y | y;exact e y;exact hk y]
theorem O6(h:∀x,z0 (Cv.ev fs') x=z0 (Cv.ev fs) x)(lo:Rat)(ps:List Pc):nct fs' lo ps=nct fs lo ps:=by
 unfold nct;rw[h,JX h]
theorem Lon.one(L:Lon fs ls g)(M:Lon fs Y g')(lo hi:Rat):pcs Y 16 lo hi=pcs ls 16 lo hi :=
 L.same M (k:=1) Yd (L.scaled M Yd λx=>by rw[dD]) 16 lo hi
theorem HV.first(h:HV lo hi ps):∃t,ps[0]? = some t/\t.1=lo:=by
 cases h with
 | one=>exact⟨_,Z,Z⟩
 | cons h=>exact⟨_,Z,Z⟩
theorem HV.last(h:HV lo hi ps):∃t,ps[ps.length-1]? = some t/\t.2.1=hi:=by
 induction h with
 | one=>exact⟨_,Z,Z⟩
 | @cons t hi r h ih =>
   obtain⟨u,Y,e⟩:=ih;refine⟨u,?_,e⟩
   have O:r.length≠0:=λz=>by
    rw[cO z]at Y;cases Y
   rw[ck,show r.length+1-1=(r.length-1)+1 by lia,cJ]
   exact Y
theorem HV.next(h:HV lo hi ps):∀(i:Nat) (t u:Pc),ps[i]? = some t->ps[i+1]? = some u->u.1=t.2.1:=by
 induction h with
 | one =>
   intro i t u _ h2;rw[cJ]at h2;cases h2
 | @cons t hi r h ih =>
   intro i a b h1 h2;cases i with
   | zero =>
     obtain⟨v,hv,e⟩:=h.first;rw[cJ,hv]at h2;cases h1;cases h2;exact e
   | succ i=>exact ih i a b h1 h2
structure Ot(fs ls:kh)(lo hi:Rat)(fs':kh):Prop where
 gf:EI fs'
 nf:fs'≠[]
 h7:fs'.length<=7
 rb:∀q∈fs',RB 2000 q
 ln:∀ls' g',Lon fs' ls' g'->(∀q∈ls',RB 6000 q)/\ls'.length<=4/\pcs ls' 16 lo hi=pcs ls 16 lo hi
 ct:∀ps,nct fs' lo ps=nct fs lo ps
theorem Cf.ot(c:Cf fs)(l:Lon fs ls g)(lo hi:Rat):Ot fs ls lo hi fs :=
 ⟨c.gf,c.nf,ZF c.h4 Yd,λq Y=>(c.rb q Y).mono Yd,λO g' m=>⟨(c.lone m).1,(c.lone m).2,l.one m lo hi⟩,λ_=>rfl⟩
theorem Cf.ot_sq(c:Cf fs)(l:Lon fs ls g)(lo hi:Rat)(g':EI fs')(h:∀x,Cv.ev fs' x=Cv.ev fs x*Cv.ev fs x):Ot fs ls lo hi fs':=by
 obtain⟨n,Y,rb⟩:=c.sq g' h;refine⟨g',n,Y,rb,λJ O m=>?_,λps=>O6 (λx=>?_) lo ps⟩
 ·obtain⟨k,k0,_,e⟩:=l.squared m h;exact⟨(c.square l h m).1,(c.square l h m).2,l.same m k0 e 16 lo hi⟩
 ·by_cases e:Cv.ev fs x=0
  ·rw[HY e,HY (by rw[h,e,eR])]
  ·rw[G8 e,G8 λz=>by rw[h]at z;rcases cP.mp z with y | y<;>exact e y]
def K37:Rat:=⟨-3,7,Yd,Yd⟩
theorem Sj(o:Ov L W cs):Ov (L*7) (W+2) (cs.map (· * K37)):=by
 refine⟨cD o.ne Yd,λq hq=>?_⟩;obtain⟨x,O,rfl⟩:=eJ.mp hq;obtain⟨t,Y,J⟩:=o.is x O;refine⟨t*(-3),Y.mul (by unfold Bd;decide),?_⟩
 have k:K37*((7:Int):Rat)=((-3:Int):Rat):=(Nm.num_mul K37).symm;rw[cF,cF,<- J,<- k]
 grind
theorem Rc(gf:EI fs)(J:fs≠[])(h4:fs.length<=4)(O:Bd 740 L)(oL:Ov L 900 fs)(l:Lon fs ls g)(lo hi:Rat):Ot fs ls lo hi (Cv.strip (fs.map (· * K37))):=by
 have k0:K37≠0:=by decide
 have e:∀x,Cv.ev (Cv.strip (fs.map (· * K37))) x=Cv.ev fs x*K37:=λx=>by rw[Cv.ev_strip,Cv.ev_scale]
 have sl:=Cv.strip_length (fs.map (· * K37));rw[bI]at sl;have o:=Sj oL;have b:Bd (740+3) (L*7):=O.mul (by unfold Bd;decide)
 have c:Cf (Cv.strip (fs.map (· * K37))):=⟨EL _,λz=>J (EO gf (.inl rfl) λx=>by
  have:=e x;rw[z]at this
  rcases cP.mp this.symm with y | y
  ·rw[y];rfl
  ·exact absurd y k0),Yl,_,b.mono Yd,⟨o.ne,λq Y=>let ⟨t,bt,et⟩:=o.is q (Cv.strip_mem _ q Y);⟨t,bt.mono Yd,et⟩⟩⟩
 refine⟨c.gf,c.nf,ZF c.h4 Yd,λq Y=>(c.rb q Y).mono Yd,λaa g' m=>⟨(c.lone m).1,(c.lone m).2,l.same m k0 (l.scaled m k0 e) 16 lo hi⟩,λps=>O6 (QZ k0 e) lo ps⟩
def Cn(fs ls:kh)(lo hi:Rat)(v:V):Prop:=(∃ps,pcs ls 16 lo hi=some ps/\v = .int ((nct fs lo ps:Nat):Int))\/pcs ls 16 lo hi=none/\v = .non
theorem Lu(C:Ot fs ls lo hi fs')(hc:Crv K H r fs')(ac:Et K H (.ref J) lo)(ad:Et K H (.ref O) hi)(aa:lo<hi)(b1:RB 70 lo)(b2:RB 70 hi)(h:∀v H',Cn fs ls lo hi v->E4 H H'->Q v H'):PV K [.ref r,.ref J,.ref O] H Q E :=
 ⟨r,J,O,fs',lo,hi,2000,Z,hc,C.gf,C.nf,C.rb,Yd,Yd,C.h7,ac,ad,aa,b1,b2,λY g' m=>⟨(C.ln Y g' m).1,(C.ln Y g' m).2.1,λps H' e s=>by
  rw[(C.ln Y g' m).2.2]at e;rw[C.ct];exact h _ H' (.inl ⟨ps,e,Z⟩) s,λH' e s=>by
  rw[(C.ln Y g' m).2.2]at e;exact h _ H' (.inr ⟨e,Z⟩) s⟩⟩
inductive MM(K:ZE)(vs:ko)(H:Hp)(Q:VK)(E:XK):Prop
 | mk(ra rb:ce)(qs rs:kh)(n:Nat)(_:vs=[.ref ra,.ref rb])(_:Crv K H ra qs)(_:Crv K H rb rs)(_:(∀q∈qs,RB n q))(_:(∀q∈rs,RB n q))(_:n<=100000)(_:qs.length<=20)(_:rs.length<=20)(_:1<=rs.length)(_:∀p H' cs,E4 H H'->Crv K H' p cs->EI cs->(∀X,Cv.ev cs X=Cv.ev qs X*Cv.ev rs X)->Q (.ref p) H')
theorem Cn.is(h:Cn fs ls lo hi v)(e:pcs ls 16 lo hi=some ps):v = .int ((nct fs lo ps:Nat):Int):=by
 rcases h with ⟨O,Y,rfl⟩ | ⟨Y,_⟩
 ·rw[e]at Y;obtain rfl:=Zu.inj Y
  rfl
 ·rw[e]at Y;cases Y
theorem VT:RB 3 K37:=⟨by unfold Bd;decide,by unfold Bd;decide⟩
theorem d11(O:0<=d)(h1:d<9):0<cx (1+d) 11/\cx (1+d) 11<1:=by
 have e:=JO (b:=11) Yd (1+d);have e1:((1:Int):Rat)<=((1+d:Int):Rat):=Rat.intCast_le_intCast.mpr Yl;have Y:((1+d:Int):Rat)<=((9:Int):Rat):=Rat.intCast_le_intCast.mpr Yl;rw[<- e]at e1 Y;have a:((1:Int):Rat)=1:=rfl;have b:((9:Int):Rat)=9:=rfl;have c:((11:Int):Rat)=11:=rfl;rw[a,c]at e1;rw[b,c]at Y
 constructor<;>grind
def cnD:V->PyData
 | .int i=>.int i
 | _=>.none
theorem Cn.rds(h:Cn fs ls lo hi v):Rds K H v (cnD v):=by
 rcases h with ⟨ps,_,rfl⟩ | ⟨_,rfl⟩
 ·exact .int _
 ·exact .non
theorem Uz(v w:V):SeqAt.shaped (.list [cnD v,cnD w])=true:=by
 cases v<;>cases w<;>rfl
theorem Tb(h1:Rds K H v (cnD v))(h2:Rds K H w (cnD w))(e:H l=some (.lst [v,w])):Rds K H (.ref l) (.list [cnD v,cnD w]):=.lst (ku e) rfl λi x d e1 Y=>by
 match i,e1,Y with
 | 0,e1,Y=>cases e1;cases Y;exact h1
 | 1,e1,Y=>cases e1;cases Y;exact h2
 | i+2,e1,Y=>simp at e1
theorem Cf.slope(J:EI fs)(h4:fs.length<=4)(Y:Bd 740 L)(O:Ov L 900 fs)(n:EW fs≠[]):Cf (EW fs) :=
 ⟨Jk J,n,by rw[GI];lia,L,Y.mono Yd,Iv (Si O Yl) Yd⟩
inductive TQ(K:ZE)(vs:ko)(H:Hp)(Q:VK)(E:XK):Prop
 | mk(r p rl rh:ce)(fs:kh)(lo hi:Rat)(v n:Nat)(_:vs=[.ref r,.ref p])(_:Crv K H r fs)(_:fs.length<=4)(_:(∀q∈fs,RB n q))(_:n<=1000)(_:SqT K H p [.ref rl,.ref rh,.int ((v:Nat):Int)])(_:Et K H (.ref rl) lo)(_:Et K H (.ref rh) hi)(_:lo<hi)(_:RB 170 lo)(_:RB 170 hi)(_:v<=1)(_:(v=0->Con (Cv.ev fs) lo hi))(_:∀H',E4 H H'->Q (.bl true) H')
def T13:Rat:=⟨1,3,Yd,Yd⟩
def T34:Rat:=⟨3,4,Yd,Yd⟩
def T4:kh:=[0,T13,T34,1]
theorem Pl{lo hi t:Rat}(h:lo<hi)(Y:0<t)(h1:t<1):lo<lo+(hi-lo)*t/\lo+(hi-lo)*t<hi:=by
 have a:=fo (by grind:0<hi-lo) Y
 have b:=fo (by grind:0<hi-lo) (by grind:0<1-t)
 constructor<;>grind
theorem Wr(f:Rat->Rat)(lo hi:Rat):(T4.map λt=>f (lo+(hi-lo)*t))=[f lo,f (lo+(hi-lo)*T13),f (lo+(hi-lo)*T34),f hi]:=by
 show[f (lo+(hi-lo)*0),f (lo+(hi-lo)*T13),f (lo+(hi-lo)*T34),f (lo+(hi-lo)*1)]=_;rw[show lo+(hi-lo)*0=lo by grind,show lo+(hi-lo)*1=hi by grind]
theorem Uv{Y:Type}{l:List Y}(h:l.length=4):∃a b c d,l=[a,b,c,d]:=by
 match l,h with
 | [a,b,c,d],_=>exact⟨a,b,c,d,Z⟩
theorem Wq:∀t∈T4,RB 4 t:=λt Y=>by
 unfold T4 at Y;simp only[ZL,List.not_mem_nil,or_false]at Y
 rcases Y with rfl | rfl | rfl | rfl<;>exact⟨by unfold Bd;decide,by unfold Bd;decide⟩
theorem Lw:∀(ts:ki) (l:Int),0<=l->(∀t∈ts,0<=t)->chF l ts=0
 | [],_,_,_=>rfl
 | t::r,l,hl,h=>by
   have ht:=h t ZJ;have Y:=λu O=>h u (ZK _ O);unfold chF;by_cases z:t=0
   ·rw[if_pos z];exact Lw r l hl Y
   ·rw[if_neg z,Lw r t ht Y,if_neg (by have:=Int.mul_nonneg hl ht;lia)]
theorem Q7(O:Cts f)(Y:lo<hi)(c:∀x,lo<x->x<hi->0<f x)(x1:lo<x)(x2:x<hi)(y1:lo<y)(y2:y<hi):chF 0 ([f lo,f x,f y,f hi].map fK)=0:=by
 refine Lw _ 0 Yd λt ht=>?_;obtain⟨q,J,rfl⟩:=eJ.mp ht;refine fk.mpr ?_;simp only[ZL,List.not_mem_nil,or_false]at J
 rcases J with rfl | rfl | rfl | rfl
 ·exact O.low Y c
 ·exact fw (c x x1 x2)
 ·exact fw (c y y1 y2)
 ·exact O.upp Y c
theorem Ux(hc:Cts f)(Y:lo<hi)(c:Con f lo hi)(x1:lo<x)(x2:x<hi)(J:lo<y)(O:y<hi):chF 0 ([f lo,f x,f y,f hi].map fK)=0/\f x≠0/\f y≠0:=by
 obtain⟨s,hs,h⟩:=c;refine⟨?_,λz=>?_,λz=>?_⟩
 ·rcases hs with rfl | rfl
  ·exact Q7 hc Y (λx a b=>by have:=h x a b;grind) x1 x2 J O
  ·have e:=Q7 (hc.mulc (.inr rfl)) Y (λx a b=>h x a b) x1 x2 J O;have n1:∀q:Rat,(-1*q).num = -q.num:=λq=>by rw[show -1*q = -q by grind,fC]
   have e2:([-1*f lo,-1*f x,-1*f y,-1*f hi].map fK)=([f lo,f x,f y,f hi].map fK).map λt=>-t:=by
    simp only[bZ,List.map_nil,n1]
   rw[e2]at e;have e3:=J7 ([f lo,f x,f y,f hi].map fK) 0;rw[<- e3];exact e
 ·have:=h x x1 x2;rw[z]at this;grind
 ·have:=h y J O;rw[z]at this;grind
section
variable {P:fV}{w:fY}{K:ZE}{mg:Str->Option cr}{base:gi}
theorem E7{N P:km}{Y:gH}{pos:Pos}{i:Nat}{x:Str}{e:Expr}{te:TE}{pos':Pos}(J:Eo N P Y)(he:PE X e te)(h1:X.N=N:=by rfl)(h2:X.N[i]? = some x:=by rfl)(O:L2.Loc X.env.scope x:=by first | exact .inl rfl | exact .inr rfl)(h4:swapsWith e (some (Expr.Name x pos')) pos.line X.env=pure false:=by rfl)(h5:X.fn x=true\/cT x X.env.scope.names=some NameKind.local:=by first | exact .inl rfl | exact .inr rfl | assumption):PS X (Stmt.Assign [Expr.Name x pos'] e pos) (RN te (HH i)):=HD (h1 ▸ J.nd) h2 O he h4 h5
theorem E9(Y:IxR X r)(J:PE X a ta)(O:PE X b tb)(h:QX b:=by exact λ_ _=>rfl):PE X (a.Subscript b pos) (tOp r ta tb):=Jd Y J O h
theorem EA(O:OpR X (gy Y) r)(ha:PE X a ta)(J:PE X b tb)(h:gS Y b=false:=by exact FP _):PT X (a.Compare [Y] [b] pos) (UI (tOp r ta tb)):=G6 O ha J h
theorem E6{rest:List gI}(K:ZE)(h1:PS X st t)(h2:PSs X rest v)(h:v=u K:=by rfl):PSs X (st::rest) (RL t (Cl u K)):=EJ h1 h2 h
theorem FU(K:ZE)(h1:PT X c tc)(h2:PSs X a J)(h3:PSs X b v2)(e1:J=O K:=by rfl)(e2:v2=Y K:=by rfl):PS X (Stmt.If c a b pos) (ON tc (Cl O K) (Cl Y K)):=IL h1 h2 h3 e1 e2
theorem Gv{Y P N:km}{O scope:gH}{nt:Nat}{js:kj}(J:Eo Y P O)(h1:X.N=Y:=by rfl)(h2:X.env.scope=O:=by rfl)(h:Nu Y O N nt js scope=true:=by decide +kernel):IW X N nt js scope:=IW.look h1 h2 h
theorem EB(K:ZE)(b:X.mg "len" = none)(O:PE X e te)(h1:Gl X "len":=by rfl)(h2:fU [e] X.env=(false,gu e X.env)::fU [] X.env:=by rfl)(Y:((gC pos (fU [] X.env)).any λx=>x.fst)=false:=by rfl)(J:X.K=K:=by rfl):PE X ((Expr.Name "len" p).Call [e] [] pos) (tCB (W8 K) (ID te OM)):=Hc (WJ K J) h1 b Tg (E1 O E8 h2) Yd Yr h2 Y
theorem Fl(F:Fd X.prog X.w X.K X.mg X.base n x ps sp)(J:Gx k X.A)(h1:PE X e1 O)(g:Gl X x:=by rfl)(l:n<=k:=by decide)(d:(x == Str.ofString "__debug__")=false:=by rfl)(Y:fU [e1] X.env=(false,gu e1 X.env)::fU [] X.env:=by rfl)(b:((gC pos (fU [] X.env)).any λx=>x.fst)=false:=by rfl):PE X ((Expr.Name x p).Call [e1] [] pos) (KN sp [] E0 (ID O OM)):=Fz F J g (E1 h1 E8 Y) l d Y b
theorem Ex(F:Fd X.prog X.w X.K X.mg X.base n x ps sp)(hr:Gx k X.A)(h1:PE X e1 J)(h2:PE X Y t2)(g:Gl X x:=by rfl)(l:n<=k:=by decide)(d:(x == Str.ofString "__debug__")=false:=by rfl)(O:fU [e1,Y] X.env=(false,gu e1 X.env)::fU [Y] X.env:=by rfl)(s2:fU [Y] X.env=(false,gu Y X.env)::fU [] X.env:=by rfl)(b:((gC pos (fU [Y] X.env)).any λx=>x.fst)=false:=by rfl):PE X ((Expr.Name x p).Call [e1,Y] [] pos) (KN sp [] E0 (ID J (ID t2 OM))):=Fz F hr g (E1 h1 (E1 h2 E8 s2) O) l d O b
theorem UN(F:Fd X.prog X.w X.K X.mg X.base n x ps sp)(hr:Gx k X.A)(h1:PE X e1 t1)(h2:PE X O t2)(h3:PE X Y J)(g:Gl X x:=by rfl)(l:n<=k:=by decide)(d:(x == Str.ofString "__debug__")=false:=by rfl)(s1:fU [e1,O,Y] X.env=(false,gu e1 X.env)::fU [O,Y] X.env:=by rfl)(s2:fU [O,Y] X.env=(false,gu O X.env)::fU [Y] X.env:=by rfl)(s3:fU [Y] X.env=(false,gu Y X.env)::fU [] X.env:=by rfl)(b:((gC pos (fU [O,Y] X.env)).any λx=>x.fst)=false:=by rfl):PE X ((Expr.Name x p).Call [e1,O,Y] [] pos) (KN sp [] E0 (ID t1 (ID t2 (ID J OM)))):=Fz F hr g (E1 h1 (E1 h2 (E1 h3 E8 s3) s2) s1) l d s1 b
theorem okA{base:gi}(F:Fun K x qual st f fd)(S:Eo N ps (El st))
 (Y:∀(O:cr) (A:fZ) (outer:List Env) (s:db) (H:Hp) (vs:ko) (Q:VK) (E:XK),Gx k (A.deeper (PyProof.Rows.envOfC qual (El st) s.heap.objs.size f O))->sp vs H Q E ->
  ∃t,PSs (JP CX0 P w K mg base N qual (El st) f O A outer s H E).nox (Fy st) t/\t { nx:=λ_ H'=>Q .non H',rt:=Q } (start N vs) H) (J:∀vs H Q E,sp vs H Q E->vs.length=ps.length:=by intro _ _ _ _ h;cases h;subst_vars;rfl):EF P w K mg base CX0 (k+1) f fd ps sp:=F.ok S J Y
theorem nd1(a:Str):List.Nodup [a]:=List.pairwise_singleton ..
theorem fsc{N P:km}{Y:gH}(h1:Y.kind = .function:=by rfl)(h2:Y.isCoroutine=false:=by rfl)(O:Y.isGenerator=false:=by rfl)(J:N.Nodup:=by decide +kernel)(h5:N.take P.length=P:=by rfl)(h6:∀x∈P,Y.names.lookup x=some .local\/Y.names.lookup x=some .cell:=by decide +kernel)(h7:∀y∈Y.names,y.2 ≠ .free:=by decide +kernel):Eo N P Y:=⟨h1,h2,O,J,h5,h6,h7⟩
theorem HR:Eo ["_law_script","_law_k","_law_cell"] ["_law_script","_law_k"] (El (top 58)):=fsc
theorem O2(F:Fun K "_law_pen" "_law_pen" (top 58) f fd)(Xt:mg "len" = none)(hT:kG P) :
 EF P w K mg base CX0 33 f fd ["_law_script","_law_k"] (RZ K):=by
 refine okA F HR λaf A outer s H vs Q E hr h=>?_
 refine⟨_,(E6 K (E7 (i:=2) HR (Em EH (Em Es E2 (pv 1)) E2))
  (E6 K (FU K (EA Lc (pv 1) (EB K Xt (pv 0))) (E5 (E7 (i:=2) HR (E9 (ixL K) (pv 0) (pv 1)))) (E5 (FU K (EA GQ (EB K Xt (pv 0)) E2) (E5 (E7 (i:=2) HR (Em EH (E9 (ixL K) (pv 0) (Em Hj (pv 1) (EB K Xt (pv 0)))) (Em Es E2 (pv 1))))) EK)))
  (E6 K (FU K (EA UQ (pv 2) (Em Sr E2 E2)) (E5 (Er (ER (E1 (Em EV (pv 2) (Em Sr E2 E2)) (E1 (Em Hj (pv 2) E2) (E1 E2 E8)))))) EK)
  (E5 (Er (ER (E1 E2 (E1 (Em EH (Em Hj (pv 2) E2) (Em Es E2 (pv 1))) (E1 E2 E8))))))))),?_⟩
 obtain⟨a,O,k,rfl,hS,ad,h0,ae,q⟩:=h;have hl:(O.map V.int).length=O.length:=bI _;have J:3<=dl:=by decide
 have C1:Wf 10 18:=by unfold Wf;decide
 refine⟨_,Z,_,_,Z,Z,.inl ⟨Yd,Yd⟩,_,_,Z,Z,?_⟩;refine⟨_,Z,_,Z,a,_,Z,.inl hS,_,_,Z,Z,_,Z,?_⟩;rw[hl];have ac:k<(O.length:Int)->∃v:Int,atI (O.map V.int) k=some (.int v):=λc=>QR h0 c;have aa:0<(O.length:Int)->∃v:Int,atI (O.map V.int) (k % (O.length:Int))=some (.int v):=λc=>QR (fL _ Yl) (fM _ c);refine Nj (λc=>?_) (λc=>?_)
 ·obtain⟨v,hv⟩:=(ac (of_decide_eq_true c));refine⟨_,Z,_,Z,a,_,_,_,Z,Z,hS,hv,?_⟩;refine⟨_,Z,_,_,Z,Z,C1,_,_,Z,Z,_,Z,?_⟩;refine Nj (λc=>?_) (λc=>?_)
  ·exact⟨_,Z,_,_,Z,Z,C1,_,_,Z,Z,_,Z,_,_,Z,Z,(by first | decide | (dsimp only;decide)),J,λp Y=>q p _ _ Y⟩
  ·exact⟨_,Z,_,_,Z,Z,(by first | decide | (dsimp only;decide)),_,rfl,_,_,rfl,rfl,.inl ⟨Yd,Yd⟩,_,_,rfl,rfl,J,λp Y=>q p _ _ Y⟩
 ·refine⟨_,Z,a,_,Z,.inl hS,_,_,Z,Z,_,Z,?_⟩;rw[hl];refine Nj (λc=>?_) (λc=>?_)
  ·obtain⟨v,hv⟩:=(aa (of_decide_eq_true c));have c':0<(((O.map V.int).length:Nat):Int):=by rw[hl];exact of_decide_eq_true c
   rw[<- hl]at hv;refine⟨_,Z,_,Z,_,Z,a,_,Z,.inl hS,_,_,Z,Z,c',a,_,_,_,Z,Z,hS,hv,_,Z,_,_,Z,Z,.inl ⟨Yd,Yd⟩,_,_,Z,Z,?_⟩;refine⟨_,Z,_,_,Z,Z,C1,_,_,Z,Z,_,Z,?_⟩;refine Nj (λc=>?_) (λc=>?_)
   ·exact⟨_,Z,_,_,Z,Z,C1,_,_,Z,Z,_,Z,_,_,Z,Z,(by first | decide | (dsimp only;decide)),J,λp Y=>q p _ _ Y⟩
   ·exact⟨_,Z,_,_,Z,Z,(by first | decide | (dsimp only;decide)),_,rfl,_,_,rfl,rfl,.inl ⟨Yd,Yd⟩,_,_,rfl,rfl,J,λp Y=>q p _ _ Y⟩
  ·refine⟨_,Z,_,_,Z,Z,C1,_,_,Z,Z,_,Z,?_⟩;refine Nj (λc=>?_) (λc=>?_)
   ·exact⟨_,Z,_,_,Z,Z,C1,_,_,Z,Z,_,Z,_,_,Z,Z,(by first | decide | (dsimp only;decide)),J,λp Y=>q p _ _ Y⟩
   ·exact⟨_,Z,_,_,Z,Z,(by first | decide | (dsimp only;decide)),_,rfl,_,_,rfl,rfl,.inl ⟨Yd,Yd⟩,_,_,rfl,rfl,J,λp Y=>q p _ _ Y⟩
theorem Gj:Eo ["_law_top","_law_bottom","_law_one","_law_other"] ["_law_top","_law_bottom"] (El (top 60)):=fsc
theorem Lk(F:Fun K "_law_lowest" "_law_lowest" (top 60) f fd)(XG:mg "abs" = none)(hT:kG P) :
 EF P w K mg base CX0 33 f fd kX (HB):=by
 refine okA F Gj λah A outer s H vs Q E hr h=>?_
 refine⟨_,(E6 K (E7 (i:=2) Gj (Hc JS rfl XG Nz (E1 (pv 0) E8)))
  (E6 K (E7 (i:=3) Gj (Hc JS rfl XG Nz (E1 (pv 1) E8)))
  (E6 K (GK PassesOwn.never (EA GQ (pv 3) E2) (E5 (OY (i:=2) (j:=3) rfl Gj.nd rfl rfl Yd rfl rfl (E1 (pv 3) (E1 (Em Hj (pv 2) (pv 3)) E8)) (by with_unfolding_all rfl))))
  (E6 K (FU K (EA Lc (pv 1) E2) (E5 (E7 (i:=2) Gj (Em EV E2 (pv 2)))) EK)
  (E5 (Er (EU (E1 (Em (Gn hr hT) (pv 0) (pv 2)) (E1 (Em (Gn hr hT) (pv 1) (pv 2)) E8))))))))),?_⟩
 obtain⟨a,b,rfl,hb,q⟩:=h;refine⟨_,Z,a,Z,?_⟩;refine⟨_,Z,b,Z,?_⟩
 refine NF (L3 H a b λH a b σ H'=>H'=H/\∃(x y:Int),σ=[some (.int a),some (.int b),some (.int x),some (.int y)]/\0<=x/\0<=y/\cu x y=cu a b) (λσ _=>mu 3 σ)
  ⟨Z,_,_,Z,?_,?_,?_⟩ ?_ ?_
 ·rw[Nm.abs_if];exact fN _
 ·rw[Nm.abs_if];exact fN _
 ·rw[Nm.abs_if,Nm.abs_if];rfl
 ·rintro σ H' ad;refine FI ad λaf ac=>?_;refine HI ac λx y O=>?_;clear ac;refine Kf O λag hx hy hg=>?_;clear O;obtain rfl:=af;obtain rfl:=ag
  try clear ad
  refine⟨_,Z,_,_,Z,Z,_,Z,?_⟩;by_cases hy0:y=0
  ·subst hy0;refine IB ?_;have e:(cu a b:Int)=x:=by rw[<- hg,Int.gcd_zero];lia
   subst e;refine⟨_,Z,_,_,Z,Z,_,Z,?_⟩;have hd:Nm.msr a b≠0:=Nm.msr_ne hb
   have Y:∀p,H' p=none->Q (.ref p) (upd H' p (.tup [.int (a.fdiv (Nm.msr a b)),.int (b.fdiv (Nm.msr a b))])):=λp hp=>by
    rw[Nm.top_msr hb,Nm.bottom_msr hb];exact q p hp
   by_cases hb0:b<0
   ·have aa:Nm.msr a b=0-(cu a b:Int):=by unfold Nm.msr;rw[if_pos hb0];lia
    rw[aa]at hd Y;refine Ft (by rw[decide_eq_true hb0]<;>rfl) ⟨_,Z,_,_,Z,Z,?_⟩
    exact⟨_,Z,_,Z,_,_,Z,Z,hd,_,Z,_,Z,_,_,Z,Z,hd,(by decide:2<=dl),Y⟩
   ·have aa:Nm.msr a b=(cu a b:Int):=by unfold Nm.msr;rw[if_neg hb0]
    rw[aa]at hd Y;refine F0 (by rw[decide_eq_false hb0]<;>rfl) ?_
    exact⟨_,Z,_,Z,_,_,Z,Z,hd,_,Z,_,Z,_,_,Z,Z,hd,(by decide:2<=dl),Y⟩
  ·have J:0<y:=by lia
   refine Ft (by rw[decide_eq_true J]<;>rfl) ?_
   refine⟨_,Z,_,Z,_,Z,_,_,Z,Z,J,_,_,Z,⟨Z,y,x % y,Z,hy,fL _ hy0,?_⟩,?_⟩
   ·rw[Nm.gcd_turn];exact hg
   ·show(x % y).toNat<y.toNat;have:=fM x J
    lia
 ·rintro σ H' Q1 Q2 hm ae;obtain⟨v,e,i,j,e1,e2,k,ek,q1⟩:=ae
  try clear ae
  exact⟨v,e,i,j,e1,e2,k,ek,hm _ _ q1⟩
theorem Hn:Eo ["_law_pen_here","_law_many","_law_drawn","_law_number_here"] ["_law_pen_here","_law_many"] (El (top 59)):=fsc
theorem Nh(F:Fun K "_law_draw" "_law_draw" (top 59) f fd)(hT:kG P) :
 EF P w K mg base CX0 33 f fd kP (Ji):=by
 refine okA F Hn λaa A outer s H vs Q E hr h=>?_
 refine⟨_,(E6 K (Iu (Em EH (E9 (ixL K) (pv 0) E2) E2) (K5 (pv 0) E2 Ib))
  (E6 K (FU K (EA GQ (E9 (ixL K) (pv 0) E2) E2) (E6 K (E7 (i:=2) Hn (Em Hj (E9 (ixL K) (pv 0) E2) (pv 1)))
  (E6 K (Iu (Em (Gn hr hT) (E9 (ixL K) (pv 0) E2) (pv 1)) (K5 (pv 0) E2 Ib))
  (E5 (Er (pv 2))))) EK)
  (E6 K (E7 (i:=3) Hn (Em Hj (Em Es (Em EH (Em EH (E9 (ixL K) (pv 0) E2) (Em Es E2 (E9 (ixL K) (pv 0) E2))) E2) E2) E2))
  (E6 K (E7 (i:=3) Hn (Em Hj (Em Es (pv 3) (Em EH (Em EH (Em Hj (pv 3) E2) (E9 (ixL K) (pv 0) E2)) E2)) E2))
  (E5 (Er (Em Hj (Em (Gn hr hT) (Em Hj (Em Es (pv 3) (Em EH (Em Hj (pv 3) E2) E2)) E2) E2) (pv 1)))))))),?_⟩
 obtain⟨a,m,rfl,⟨c0,c1,J,hp⟩,h1,h2,q0⟩:=h;have q:∀d O Y:Int,0<=d->d<m->Q (.int d) (upd H a (.lst [.int O,.int c1,.int Y])):=λd _ _ h3 h4=>q0 d _ h3 h4 .put .put;have hm:m≠0:=by lia
 have q':∀(o:HO) (d O Y:Int),0<=d->d<m->Q (.int d) (upd (upd H a o) a (.lst [.int O,.int c1,.int Y])):=λo d O Y h3 h4=>by rw[TK];exact q d O Y h3 h4
 refine⟨_,Z,a,_,_,_,Z,Z,ku hp,Z,_,_,Z,Z,_,Z,a,_,_,_,Z,Z,hp,Z,?_⟩;refine⟨_,Z,a,_,_,_,Z,Z,ku E3,Z,_,_,Z,Z,_,Z,?_⟩;refine Nj (λc=>?_) (λc=>?_)
 ·refine⟨_,Z,a,_,_,_,Z,Z,ku E3,Z,_,Z,_,_,Z,Z,(by lia:0<m),?_⟩
  refine⟨_,Z,a,_,_,_,Z,Z,ku E3,Z,_,Z,_,_,Z,Z,hm,_,Z,a,_,_,_,Z,Z,E3,Z,?_⟩;refine⟨_,Z,?_⟩;exact q' _ _ _ _ (fL _ Yl) (fM _ Yl)
 ·have cl:∀z:Int,0<z->(0:Int)<z:=λ_ h=>h;refine⟨_,Z,a,_,_,_,Z,Z,ku E3,Z,_,Z,a,_,_,_,Z,Z,ku E3,Z,_,_,Z,Z,.inl ⟨Yd,Yd⟩,_,_,Z,Z,_,_,Z,Z,_,_,Z,Z,.inr (.inl ⟨Yd,Yd⟩),_,_,Z,Z,(by first | decide | (dsimp only;decide)),?_⟩
  have n1:=fL ((c1+40503*(J+1)+1)*48271) (show(2147483647:Int)≠0 by decide)
  have n2:=fM ((c1+40503*(J+1)+1)*48271) (show(0:Int)<2147483647 by decide)
  generalize hN:(c1+40503*(J+1)+1)*48271 % 2147483647=N at n1 n2;refine⟨_,Z,_,Z,_,_,Z,Z,(by first | decide | (dsimp only;decide)),_,Z,a,_,_,_,Z,Z,ku E3,Z,_,_,Z,Z,_,_,Z,Z,_,_,Z,Z,.inl ?_,_,_,Z,Z,(by first | decide | (dsimp only;decide)),?_⟩
  ·(try rw[hN]);lia
  try rw[hN]
  have n3:=fL (N*(N % 65521+(J+1)+3)) (show(2147483629:Int)≠0 by decide)
  have n4:=fM (N*(N % 65521+(J+1)+3)) (show(0:Int)<2147483629 by decide)
  generalize N*(N % 65521+(J+1)+3) % 2147483629=M at n3 n4;refine⟨_,Z,_,Z,_,_,Z,Z,(by first | decide | (dsimp only;decide)),_,_,Z,Z,_,_,Z,Z,.inl ⟨Yl,Yl⟩,_,_,Z,Z,(by first | decide | (dsimp only;decide)),_,_,Z,Z,(by first | decide | (dsimp only;decide)),_,Z,_,_,Z,Z,(by lia:0<m),?_⟩
  exact q _ _ _ (fL _ Yl) (fM _ Yl)
theorem KY:Eo kT ["_law_pen_here"] (El (top 64)):=fsc
theorem Lj(F:Fun K "_law_number" "_law_number" (top 64) f fd)(Xz:Fd P w K mg base 33 "_law_lowest" kX (HB))(O:Fd P w K mg base 33 "_law_draw" kP (Ji))(hT:kG P) :
 EF P w K mg base CX0 34 f fd kT (NJ 8):=by
 refine okA F KY λac A outer s H vs Q E Y h=>?_
 refine⟨_,(E6 K (FU K (EA GQ (Ex O Y (pv 0) E2) E2) (E5 (Er (Ex Xz Y (Em EV (Ex O Y (pv 0) E2) E2) (Em EH E2 (Ex O Y (pv 0) (E9 (ixL K) (ER (E1 E2 (E1 E2 E8))) (Ex O Y (pv 0) E2))))))) EK)
  (E5 (Er (Ex Xz Y (Em EV (Ex O Y (pv 0) E2) E2) (Em EH E2 (Ex O Y (pv 0) E2)))))),?_⟩
 obtain⟨a,rfl,pn,q⟩:=h;have b8:∀x:Int,-200<x->x<200->Bd 8 x:=λx h1 h2=>by unfold Bd;lia
 refine⟨_,Z,a,6,Z,pn,Yd,Yd,λw H1 w0 w1 o1 p1=>⟨_,_,Z,Z,_,Z,?_⟩⟩;refine Nj (λc=>?_) (λc=>?_)
 ·refine⟨_,Z,a,19,Z,p1,Yd,Yd,λd H2 d0 d1 o2 p2=>⟨_,_,Z,Z,?_⟩⟩;refine⟨_,Z,(by decide:2<=dl),λl hl=>?_⟩
  refine⟨_,Z,a,2,Z,p2.same hl,Yd,Yd,λe H3 e0 e1 J p3=>?_⟩;obtain⟨v,hv,hm⟩:=(UC (xs:=[1,4]) (i:=e) e0 e1);have ad:1<=v/\v<=4:=by simp at hm;lia
  have aa:H3 l=some (.lst [.int 1,.int 4]):=by
   refine Kd p2 λx0 x1 x2 ex=>?_;rw[J l (Ez ex hl).symm];exact E3
  refine⟨l,_,_,_,Z,Z,ku aa,hv,a,v,Z,p3,Yl,Yl,λg H4 g0 g1 o4 p4=>⟨_,_,Z,Z,_,_,Z,Yl,λr Y=>?_⟩⟩;exact q _ r _ (o1.mv.trans (o2.mv.trans ((Mv.new hl).trans (J.mv.trans (o4.mv.trans (Mv.new Y)))))) (p4.same Y) E3 (Bd.num (b8 _ Yl Yl)) (Bd.den Yl (b8 _ Yl Yl))
 ·refine⟨_,Z,a,199,Z,p1,Yd,Yd,λd H2 d0 d1 o2 p2=>⟨_,_,Z,Z,?_⟩⟩;refine⟨_,Z,a,9,Z,p2,Yd,Yd,λe H3 e0 e1 J p3=>⟨_,_,Z,Z,_,_,Z,Yl,λr Y=>?_⟩⟩;exact q _ r _ (o1.mv.trans (o2.mv.trans (J.mv.trans (Mv.new Y)))) (p3.same Y) E3 (Bd.num (b8 _ Yl Yl)) (Bd.den Yl (b8 _ Yl Yl))
theorem MU:Eo kJ ["_law_a","_law_b"] (El (top 61)):=fsc
theorem Nd(F:Fun K "_law_plus" "_law_plus" (top 61) f fd)(Xz:Fd P w K mg base 33 "_law_lowest" kX (HB))(hT:kG P) :
 EF P w K mg base CX0 34 f fd kJ (Ge K (· + ·)):=by
 refine okA F MU λac A outer s H vs Q E Y h=>?_;refine⟨_,(E5 (Er (Ex Xz Y (Em EH (Em Es (E9 (ixT K) (pv 0) E2) (E9 (ixT K) (pv 1) E2)) (Em Es (E9 (ixT K) (pv 1) E2) (E9 (ixT K) (pv 0) E2))) (Em Es (E9 (ixT K) (pv 0) E2) (E9 (ixT K) (pv 1) E2))))),?_⟩;obtain⟨x,y,p,q,m,n,rfl,⟨r,rfl,Y⟩,⟨u,rfl,O⟩,hp,J,aa,k⟩:=h;refine⟨_,Z,r,_,_,_,Z,Z,Y,Z,_,Z,u,_,_,_,Z,Z,O,Z,_,_,Z,Z,kF hp.1 J.2,_,Z,u,_,_,_,Z,Z,O,Z,_,Z,r,_,_,_,Z,Z,Y,Z,_,_,Z,Z,kF J.1 hp.2,_,_,Z,Z,?_⟩;refine⟨_,Z,r,_,_,_,Z,Z,Y,Z,_,Z,u,_,_,_,Z,Z,O,Z,_,_,Z,Z,kF hp.2 J.2,?_⟩;refine⟨_,_,Z,cD (Nm.den_ne p) (Nm.den_ne q),λz hz=>?_⟩;have e:=k z hz
 try dsimp only at e
 rw[<- Nm.plus_eq]at e;exact e
theorem Gi:Eo ["_law_pen_here","_law_many","_law_found","_law_k","_law_x"] ["_law_pen_here","_law_many"] (El (top 66)):=fsc
theorem Li(F:Fun K "_law_places" "_law_places" (top 66) f fd)(XH:Fd P w K mg base 34 "_law_number" kT (NJ 8))(XD:Fd P w K mg base 34 "_law_plus" kJ (Ge K (· + ·)))(Xu:mg "range" = none)(hT:kG P) :
 EF P w K mg base CX0 35 f fd kP (JZ K 8):=by
 refine okA F Gi λav A outer s H vs Q E hr h=>?_
 refine⟨_,(E6 K (E7 (i:=2) Gi (ER E8))
  (E6 K (Ff (K:=K) PassesOwn.never rfl (FD rfl Xu (E1 (pv 1) E8)) (Eu (i:=3) Gi.nd rfl (Or.inl rfl)) (E6 K (E7 (i:=4) Gi (Fl XH hr (pv 0)))
  (E6 K (GK PassesOwn.never (G6 (inD K hr) (pv 4) (pv 2) (by with_unfolding_all rfl)) (E5 (E7 (i:=4) Gi (Ex XD hr (pv 4) (EU (E1 E2 (E1 E2 E8)))))))
  (E5 (Gq (GW K PySem.F.plainAttrs_list PySem.F.slot_list_append PySem.F.type_list_append FQ (pv 2) (E1 (pv 4) E8)))))) Yr)
  (E5 (Er (pv 2))))),?_⟩
 obtain⟨a,m,rfl,pn,h0,au,q⟩:=h;have P0:0<=dl:=by decide
 have P2:2<=dl:=by decide
 refine⟨P0,λl hl=>?_⟩;have la:l≠a:=pn.ne' hl;obtain⟨M,hM⟩:∃M:Nat,(M:Int)=m:=⟨m.toNat,Yl⟩;subst hM;refine⟨_,Z,(M:Int),Z,Yl,Yl,?_⟩;rw[bN];refine G4 (n:=M) (L4 a H M l λa H M l i σ H'=>Mv a H H'/\Pen H' a/\∃zs qs z3 z4,σ=[some (.ref a),some (.int (M:Int)),some (.ref l),z3,z4]/\H' l=some (.lst zs)/\Fu H' zs qs/\qs.length=i/\qs.Nodup/\∀q∈qs,RB (8+8) q) ⟨Mv.new hl,pn.same hl,[],[],none,none,Z,E3,.nil,Z,List.nodup_nil,(λ_ h=>nomatch h)⟩ ?_ ?_
 ·rintro i σ H' hi am;refine IC am λmv aa ap=>?_;refine LZ ap λzs qs z3 z4 ad=>?_;clear ap;refine Pq ad λar el hz ah af hb=>?_;clear ad;obtain rfl:=ar
  try clear am
  refine⟨_,Z,a,Z,aa,λx0 r H3 m3 p3 hr bn bd=>?_⟩;have aj:=m3 _ _ la el;have ak:=Fu.mv hz aa m3;have aw:=hz.length
  refine⟨λμ σ H4=>E4 H3 H4/\∃(r:ce) (x:Rat) (j:Nat),σ=[some (.ref a),some (.int (M:Int)),some (.ref l),some (.int (0+(i:Int))),some (.ref r)]/\H4 r=some (nT x)/\x=x0+(j:Rat)/\μ=cnt x qs/\j+cnt x qs<=qs.length,
   ⟨_,E4.refl _,r,x0,0,Z,hr,(by have z:((0:Nat):Rat)=0:=rfl;rw[z];grind),Z,by have:=Ta x0 qs;lia⟩,?_⟩
  rintro μ σ H4 ao;refine FI ao λs4 ac=>?_;refine Kd ac λr' x j O=>?_;clear ac;refine LB O λas ag hx aq hj=>?_;clear O;obtain rfl:=as;obtain rfl:=aq
  try clear ao
  have ai:RB (8+8) x:=by
   rw[hx];exact(RB.plus ⟨bn,bd⟩ (Vh (j:=j) Yl)).mono Yl
  refine⟨_,Z,_,Z,?_⟩;refine L2.inN (kD ag) (ku (s4 _ _ aj)) (Fu.same ak s4).nums ?_;refine⟨_,Z,?_⟩;by_cases hin:x∈qs
  ·refine Ft (by rw[decide_eq_true hin]<;>rfl) ⟨_,λ_ _ h=>h,?_⟩
   refine⟨_,Z,P2,λt ht=>⟨_,_,_,_,8+8,1,Z,kD ((kA ht) _ _ ag),kD (E3 (o:=nT 1)),ai,RB.one Yd,Yl,λu hu=>?_⟩⟩;refine⟨_,Pp hin,(s4.trans (kA ht)).trans (kA hu),u,x+1,j+1,Z,E3,?_,Z,by have:=Pp hin;lia⟩
   rw[hx,dG];have z:((1:Nat):Rat)=1:=rfl;rw[z];grind
  ·refine F0 (by rw[decide_eq_false hin]<;>rfl) ?_
   have J:=s4 _ _ aj;refine⟨_,Z,.inl ⟨Z,_,ku J⟩,_,Z,l,zs,.ref r',Z,Z,J,Zw (by lia:zs.length<300) Yd,?_⟩
   refine⟨Mv.put' ((mv.trans m3).trans s4.mv) hl,(p3.sm s4).put' la,zs++[.ref r'],qs++[x],_,_,Z,E3,Paired.snoc (Fu.put (Fu.same ak s4) J) (Jm.put ⟨_,Z,ag⟩ J),by simp[ah],?_,λc hc=>?_⟩
   ·rw[List.nodup_append];exact⟨af,by simp,λb hb c hc=>by rw[cY.mp hc];exact λz=>hin (z ▸ hb)⟩
   ·rcases ZM.mp hc with z | z
    ·exact hb c z
    ·rw[cY.mp z];exact ai
 ·rintro σ H' an;refine IC an λmv aa ae=>?_;refine LZ ae λzs qs z3 z4 Y=>?_;clear ae;refine Pq Y λal el hz ah af hb=>?_;clear Y;obtain rfl:=al
  try clear an
  exact⟨_,Z,q l H' zs qs mv aa hl el hz (by rw[ah]) af hb⟩
theorem FO:Eo ["_law_pen_here","_law_most","_law_room","_law_found","_law_x"] ["_law_pen_here","_law_most"] (El (top 67)):=fsc
theorem Lh(F:Fun K "_law_points" "_law_points" (top 67) f fd)(YE:Fd P w K mg base 35 "_law_places" kP (JZ K 8))(Xx:Fd P w K mg base 33 "_law_draw" kP (Ji))(XH:Fd P w K mg base 34 "_law_number" kT (NJ 8))(XE:mg "tuple" = none)(hT:kG P) :
 EF P w K mg base CX0 36 f fd ["_law_pen_here","_law_most"] (JY K 8):=by
 refine okA F FO λaN A outer s H vs Q E hr h=>?_
 refine⟨_,(E6 K (E7 (i:=2) FO (Em EH E2 (Ex Xx hr (pv 0) (pv 1))))
  (E6 K (E7 (i:=3) FO (ER E8))
  (E6 K (Ff (K:=K) PassesOwn.never rfl (piL K (Ex YE hr (pv 0) (pv 2))) (Eu (i:=4) FO.nd rfl (Or.inl rfl)) (E5 (FU K (PW.pt (Jj (EA GQ (pv 2) E2) (Ir (EA Hf (Ex Xx hr (pv 0) E2) E2)))) (E6 K (Gq (GW K PySem.F.plainAttrs_list PySem.F.slot_list_append PySem.F.type_list_append FQ (pv 3) (E1 (EU (E1 (pv 4) (E1 (Fl XH hr (pv 0)) (E1 (Fl XH hr (pv 0)) E8)))) E8)))
  (E5 (E7 (i:=2) FO (Em EV (pv 2) E2)))) (E5 (FU K (EA GQ (pv 2) E2) (E6 K (Gq (GW K PySem.F.plainAttrs_list PySem.F.slot_list_append PySem.F.type_list_append FQ (pv 3) (E1 (EU (E1 (pv 4) (E1 (Fl XH hr (pv 0)) E8))) E8)))
  (E5 (E7 (i:=2) FO (Em EV (pv 2) E2)))) EK)))) Yr)
  (E5 (Er (Hy (OI K) rfl XE LA (E1 (pv 3) E8))))))),?_⟩
 obtain⟨a,ah,rfl,pn,h1,aJ,q⟩:=h;have P0:0<=dl:=by decide
 have P2:2<=dl:=by decide
 have P3:3<=dl:=by decide
 refine⟨_,Z,_,Z,a,ah,Z,pn,h1,Yl,λd H1 d0 d1 o1 p1=>⟨_,_,Z,Z,?_⟩⟩;refine⟨P0,λl aq=>?_⟩;have la:l≠a:=p1.ne' aq;have hl:H l=none:=Mv.free o1.mv la aq;obtain⟨R,hR⟩:∃R:Nat,(R:Int)=1+d:=⟨(1+d).toNat,Yl⟩;refine⟨_,Z,_,Z,a,1+d,Z,p1.same aq,Yl,Yl,λw Hw ws qs mw pw hw ew hq aO aF hb=>⟨w,Z,⟨_,ku ew⟩,?_⟩⟩;have aP:=hq.length;have wa:w≠a:=(p1.same (o:=.lst []) aq).ne' hw;have wl:w≠l:=(Ez (E3 (H:=H1) (a:=l) (o:=.lst [])) hw).symm
 refine JM (xs:=ws) (L9 a H w ws qs ah l K d λa H w ws qs ah l K d i σ H'=>Mv a H H'/\Pen H' a/\H' w=some (.lst ws)/\Fu H' ws qs/\∃(Y:Int) (ys:ko) (pss:kg) (z4:Option V),σ=[some (.ref a),some (.int ah),some (.int Y),some (.ref l),z4]/\H' l=some (.lst ys)/\Gu K H' ys pss/\P23 pss/\(∀ps∈pss,∀q∈ps,RB (8+8) q)/\(pss.map λps=>ps.getD 0 0)=qs.take pss.length/\pss.length<=i/\((EY pss).length:Int)+Y=1+d/\0<=Y/\(Y=0\/pss.length=i))
  ⟨Mv.put' o1.mv hl |>.trans mw,pw,ew,hq,1+d,[],[],none,rfl,mw _ _ la E3,.nil,(λ_ h=>nomatch h),(λ_ h=>nomatch h),Z,ZR _,by simp[EY],Yl,.inr rfl⟩ (λi σ H' _ h=>ku h.2.2.1) ?_ ?_
 ·rintro i v σ H' hv ax;obtain⟨mv,O,ao,ak,Y,ys,pss,z4,rfl,el,af,ae,ai,ag,aH,aB,az,au⟩:=ax
  try clear ax
  obtain⟨x,hx,vx,rfl,ad⟩:=(kB ak hv);have av:Jm H' (.ref vx) x:=⟨_,Z,ad⟩;have ar:=hb x (bD hx);have aM:i<qs.length:=(ZO.mp hx).1;have aK:=af.length
  have as:∀(ps:kh),ps.getD 0 0=x->pss.length=i->((pss++[ps]).map λps=>ps.getD 0 0)=qs.take (pss++[ps]).length:=λps h0 aa=>by
   rw[cM,ag,bH,bW,aa,cL,hx];show qs.take i++[ps.getD 0 0]=qs.take i++[x];rw[h0]
  refine⟨_,Z,_,_,Z,Z,_,Z,?_⟩;by_cases h2:(1:Int)<Y
  ·refine Ft (by rw[decide_eq_true h2]<;>rfl) ?_
   have aa:pss.length=i:=by lia
   refine⟨_,Z,a,4,Z,O,Yd,Yd,λe H2 e0 e1 o2 p2=>⟨Z,_,Z,?_⟩⟩;have aA:=o2.mv _ _ la el;refine Nj (λc=>?_) (λc=>?_)
   ·refine⟨_,Z,.inl ⟨Z,_,ku aA⟩,_,Z,_,Z,a,Z,p2,λy1 r1 H3 m3 p3 aj an al=>⟨_,Z,a,Z,p3,λy2 r2 H4 m4 p4 aE aG aC=>⟨P3,λt ht=>?_⟩⟩⟩;have M4:=(o2.mv.trans m3).trans m4;have s5:E4 H4 (upd H4 t (.tup [.ref vx,.ref r1,.ref r2])):=kA ht;have et:(upd H4 t (.tup [.ref vx,.ref r1,.ref r2])) t=some (.tup [.ref vx,.ref r1,.ref r2]):=E3;have aw:H4 r1=some (nT y1):=m4 r1 _ (p3.ne aj (Me y1)) aj;have J:=s5 _ _ (M4 _ _ la el);have tn:ED K (upd H4 t (.tup [.ref vx,.ref r1,.ref r2])) [.ref vx,.ref r1,.ref r2] [x,y1,y2]:=.cons (((av.mv O M4).same s5).num) (.cons (kD (s5 _ _ aw)) (.cons (kD (s5 _ _ aE)) .nil));have Mt:=M4.trans s5.mv;have ac:=Mt vx _ (O.ne ad (Me x)) ad;have pt:=p4.sm s5;generalize upd H4 t (.tup [.ref vx,.ref r1,.ref r2])=H5 at s5 et J tn Mt pt ac ⊢;have am:Gu K H5 ys pss:=Gu.mv af O Mt;have ap:PtT K H5 (.ref t) [x,y1,y2]:=⟨t,_,vx,Z,kw et,tn,Z,ac⟩;refine⟨l,ys,.ref t,Z,Z,J,Zw (by lia:ys.length<300) Yd,?_⟩
    refine⟨_,Z,_,_,Z,Z,?_⟩;refine⟨Mv.put' (mv.trans Mt) hl,pt.put' la,by rw[EC wl];exact Mt _ _ wa ao,Fu.put (Fu.mv ak O Mt) J,Y-2,ys++[.ref t],pss++[[x,y1,y2]],some (.ref vx),?_,E3,Paired.snoc (Gu.put am J) (ap.put J),?_,?_,as _ rfl aa,by rw[bH,bW];lia,?_,Yl,.inr (by rw[bH,bW];lia)⟩
    ·rfl
    ·intro ps hp
     rcases ZM.mp hp with z | z
     ·exact ae ps z
     ·rw[cY.mp z];exact .inr rfl
    ·intro ps hp c hc
     rcases ZM.mp hp with z | z
     ·exact ai ps z c hc
     ·rw[cY.mp z]at hc
      rcases ZL.mp hc with z | hc
      ·rw[z];exact ar
      ·rcases ZL.mp hc with z | hc
       ·rw[z];exact RB.mono ⟨an,al⟩ Yl
       ·rw[cY.mp hc];exact RB.mono ⟨aG,aC⟩ Yl
    ·rw[IZ,bH,Fi];show(((EY pss).length+2:Nat):Int)+(Y-2)=1+d
     lia
   ·refine⟨_,Z,_,_,Z,Z,_,Z,?_⟩;refine Ft (by rw[decide_eq_true (show(0:Int)<Y by lia)]<;>rfl) ?_
    refine⟨_,Z,.inl ⟨Z,_,ku aA⟩,_,Z,_,Z,a,Z,p2,λy1 r1 H3 m3 p3 aj an al=>⟨P2,λt ht=>?_⟩⟩;have M4:Mv a H' H3:=o2.mv.trans m3;have s5:E4 H3 (upd H3 t (.tup [.ref vx,.ref r1])):=kA ht;have et:(upd H3 t (.tup [.ref vx,.ref r1])) t=some (.tup [.ref vx,.ref r1]):=E3;have J:=s5 _ _ (M4 _ _ la el);have tn:ED K (upd H3 t (.tup [.ref vx,.ref r1])) [.ref vx,.ref r1] [x,y1]:=.cons (((av.mv O M4).same s5).num) (.cons (kD (s5 _ _ aj)) .nil);have Mt:=M4.trans s5.mv;have ac:=Mt vx _ (O.ne ad (Me x)) ad;have pt:=p3.sm s5;generalize upd H3 t (.tup [.ref vx,.ref r1])=H5 at s5 et J tn Mt pt ac ⊢;have am:Gu K H5 ys pss:=Gu.mv af O Mt;have ap:PtT K H5 (.ref t) [x,y1]:=⟨t,_,vx,Z,kw et,tn,Z,ac⟩;refine⟨l,ys,.ref t,Z,Z,J,Zw (by lia:ys.length<300) Yd,?_⟩
    refine⟨_,Z,_,_,Z,Z,?_⟩;refine⟨Mv.put' (mv.trans Mt) hl,pt.put' la,by rw[EC wl];exact Mt _ _ wa ao,Fu.put (Fu.mv ak O Mt) J,Y-1,ys++[.ref t],pss++[[x,y1]],some (.ref vx),?_,E3,Paired.snoc (Gu.put am J) (ap.put J),?_,?_,as _ rfl aa,by rw[bH,bW];lia,?_,Yl,.inr (by rw[bH,bW];lia)⟩
    ·rfl
    ·intro ps hp
     rcases ZM.mp hp with z | z
     ·exact ae ps z
     ·rw[cY.mp z];exact .inl rfl
    ·intro ps hp c hc
     rcases ZM.mp hp with z | z
     ·exact ai ps z c hc
     ·rw[cY.mp z]at hc
      rcases ZL.mp hc with z | hc
      ·rw[z];exact ar
      ·rw[cY.mp hc];exact RB.mono ⟨an,al⟩ Yl
    ·rw[IZ,bH,Fi];show(((EY pss).length+1:Nat):Int)+(Y-1)=1+d
     lia
  ·refine F0 (by rw[decide_eq_false h2]<;>rfl) (IB ?_)
   refine⟨_,Z,_,_,Z,Z,_,Z,?_⟩;by_cases h0:(0:Int)<Y
   ·refine Ft (by rw[decide_eq_true h0]<;>rfl) ?_
    have aa:pss.length=i:=by lia
    refine⟨_,Z,.inl ⟨Z,_,ku el⟩,_,Z,_,Z,a,Z,O,λy1 r1 H3 m3 p3 aj an al=>⟨P2,λt ht=>?_⟩⟩;have M4:Mv a H' H3:=m3;have s5:E4 H3 (upd H3 t (.tup [.ref vx,.ref r1])):=kA ht;have et:(upd H3 t (.tup [.ref vx,.ref r1])) t=some (.tup [.ref vx,.ref r1]):=E3;have J:=s5 _ _ (M4 _ _ la el);have tn:ED K (upd H3 t (.tup [.ref vx,.ref r1])) [.ref vx,.ref r1] [x,y1]:=.cons (((av.mv O M4).same s5).num) (.cons (kD (s5 _ _ aj)) .nil);have Mt:=M4.trans s5.mv;have ac:=Mt vx _ (O.ne ad (Me x)) ad;have pt:=p3.sm s5;generalize upd H3 t (.tup [.ref vx,.ref r1])=H5 at s5 et J tn Mt pt ac ⊢;have am:Gu K H5 ys pss:=Gu.mv af O Mt;have ap:PtT K H5 (.ref t) [x,y1]:=⟨t,_,vx,Z,kw et,tn,Z,ac⟩;refine⟨l,ys,.ref t,Z,Z,J,Zw (by lia:ys.length<300) Yd,?_⟩
    refine⟨_,Z,_,_,Z,Z,?_⟩;refine⟨Mv.put' (mv.trans Mt) hl,pt.put' la,by rw[EC wl];exact Mt _ _ wa ao,Fu.put (Fu.mv ak O Mt) J,Y-1,ys++[.ref t],pss++[[x,y1]],some (.ref vx),?_,E3,Paired.snoc (Gu.put am J) (ap.put J),?_,?_,as _ rfl aa,by rw[bH,bW];lia,?_,Yl,.inr (by rw[bH,bW];lia)⟩
    ·rfl
    ·intro ps hp
     rcases ZM.mp hp with z | z
     ·exact ae ps z
     ·rw[cY.mp z];exact .inl rfl
    ·intro ps hp c hc
     rcases ZM.mp hp with z | z
     ·exact ai ps z c hc
     ·rw[cY.mp z]at hc
      rcases ZL.mp hc with z | hc
      ·rw[z];exact ar
      ·rw[cY.mp hc];exact RB.mono ⟨an,al⟩ Yl
    ·rw[IZ,bH,Fi];show(((EY pss).length+1:Nat):Int)+(Y-1)=1+d
     lia
   ·exact F0 (by rw[decide_eq_false h0]<;>rfl) ⟨mv,O,ao,ak,Y,ys,pss,_,Z,el,af,ae,ai,ag,Yl,aB,az,.inl Yl⟩
 ·rintro σ H' ay;obtain⟨mv,O,ao,ak,Y,ys,pss,z4,rfl,el,af,ae,ai,ag,aH,aB,az,au⟩:=ay
  try clear ay
  have aD:1<=pss.length:=by
   have h2:=Gb pss λps hp=>by have:=ae ps hp;lia
   lia
  have aL:H' l=some (.lst ys):=el;refine⟨_,Z,l,ys,Z,.inl ⟨ku el,λr hr=>?_⟩⟩;have sr:E4 H' (upd H' r (.tup ys)):=kA hr;refine q r _ ys pss (mv.trans sr.mv) (O.sm sr) (kw E3) (Gu.same af sr) ae ai aD Yl Yl ?_;rw[ag];exact(bC _ _).nodup aF
theorem Fn:Eo ["one","other","great","small","rest"] ["one","other"] (El (top 7)):=fsc
theorem JF(F:Fun K "common_measure" "common_measure" (top 7) f fd)(XG:mg "abs" = none)(hT:kG P) :
 EF P w K mg base CX0 33 f fd kM (PR):=by
 refine okA F Fn λaf A outer s H vs Q E hr h=>?_
 refine⟨_,(E6 K (E7 (i:=2) Fn (Hc JS rfl XG Nz (E1 (pv 0) E8)))
  (E6 K (E7 (i:=3) Fn (Hc JS rfl XG Nz (E1 (pv 1) E8)))
  (E6 K (GK PassesOwn.never (EA NT (pv 3) E2) (E6 K (E7 (i:=4) Fn (Em Hj (pv 2) (pv 3)))
  (E6 K (E7 (i:=2) Fn (pv 3))
  (E5 (E7 (i:=3) Fn (pv 4))))))
  (E5 (Er (pv 2)))))),?_⟩
 obtain⟨a,b,rfl,q⟩:=h;refine⟨_,Z,a,Z,?_⟩;refine⟨_,Z,b,Z,?_⟩
 refine NF (L3 H a b λH a b σ H'=>H'=H/\∃(x y:Int) (r:Option V),σ=[some (.int a),some (.int b),some (.int x),some (.int y),r]/\0<=x/\0<=y/\cu x y=cu a b) (λσ _=>mu 3 σ)
  ⟨Z,_,_,none,Z,?_,?_,?_⟩ ?_ ?_
 ·rw[Nm.abs_if];exact fN _
 ·rw[Nm.abs_if];exact fN _
 ·rw[Nm.abs_if,Nm.abs_if];rfl
 ·rintro σ H' J;refine FI J λaa O=>?_;refine Kd O λx y r Y=>?_;clear O;refine Kf Y λac hx hy hg=>?_;clear Y;obtain rfl:=aa;obtain rfl:=ac
  try clear J
  refine⟨_,Z,Z,_,Z,?_⟩;by_cases hy0:y=0
  ·subst hy0;refine F0 (by rw[decide_eq_true rfl]<;>rfl) ⟨_,Z,?_⟩
   have e:(cu a b:Int)=x:=by rw[<- hg,Int.gcd_zero];lia
   rw[e]at q;exact q
  ·refine Ft (by rw[decide_eq_false (λz=>hy0 (V.int.inj z))]<;>rfl) ?_
   have ae:0<y:=by lia
   refine⟨_,Z,_,Z,_,_,Z,Z,ae,?_⟩;refine⟨_,Z,_,Z,⟨Z,y,x % y,_,Z,hy,fL _ hy0,?_⟩,?_⟩
   ·rw[Nm.gcd_turn];exact hg
   ·show(x % y).toNat<y.toNat;have:=fM x ae
    lia
 ·rintro σ H' Q1 Q2 hm ad;obtain⟨v,e,s1,k,ek,q1⟩:=ad
  try clear ad
  exact⟨v,e,s1,k,ek,hm _ _ q1⟩
theorem Hm:Eo ["numbers","bottom","number"] ["numbers"] (El (top 17)):=fsc
theorem Nc(F:Fun K "bottom_of" "bottom_of" (top 17) f fd)(Y3:Fd P w K mg base 33 "common_measure" kM (PR))(hT:kG P) :
 EF P w K mg base CX0 34 f fd kL (IG K):=by
 refine okA F Hm λaq A outer s H vs Q E hr h=>?_
 refine⟨_,(E6 K (E7 (i:=1) Hm E2)
  (E6 K (Ff (K:=K) PassesOwn.never rfl (piS K (pv 0)) (Eu (i:=2) Hm.nd rfl (Or.inl rfl)) (E5 (E7 (i:=1) Hm (Em Es (pv 1) (Em (Gn hr hT) (E9 (ixT K) (pv 2) E2) (Ex Y3 hr (pv 1) (E9 (ixT K) (pv 2) E2)))))) Yr)
  (E5 (Er (pv 1))))),?_⟩
 obtain⟨b,r,xs,qs,n,rfl,hS,hn,hB,hz,q⟩:=h;have hl:=hn.length;refine Qy (b:=b) (a:=r) (xs:=xs) rfl (L4 H r qs n λH r qs n i σ H'=>H'=H/\∃(B:Int) (z:Option V),σ=[some (.ref r),some (.int B),z]/\0<B/\(∀q∈qs.take i,(q.den:Int)∣B)/\Bd (n*i+1) B) ⟨Z,1,none,Z,Yd,λq hq=>by simp at hq,by unfold Bd;rw[Nat.mul_zero];decide⟩ (λi σ H' _ p=>by rw[p.1];exact hS) ?_ ?_
 ·rintro i x σ H' hx ag;refine FI ag λah ac=>?_;refine HI ac λB z J=>?_;clear ac;refine Kf J λam ae aa O=>?_;clear J;obtain rfl:=ah;obtain rfl:=am
  try clear ag
  obtain⟨c,hc,r',rfl,hr⟩:=(kB hn hx);have hi:i<qs.length:=(ZO.mp hc).1;have an:c∈qs:=bD hc;have ao:0<(c.den:Int):=by have:=c.den_pos;lia
  obtain⟨l1,l2,l3⟩:=(SG ae ao);have g0:(cu B c.den:Int)≠0:=by have:=Nm.gcd_pos (a:=B) (b:=c.den) Yl;lia
  have af:Bd n (eI c.den (cu B c.den:Int)):=(hB c an).fdiv;have ar:n*i<=n*qs.length:=fG n Yl;have ap:n*(qs.length+2)=n*qs.length+2*n:=by rw[dA];lia
  refine⟨_,Z,_,Z,r',_,_,_,Z,Z,hr,Z,_,Z,_,Z,r',_,_,_,Z,Z,hr,Z,_,_,Z,_,_,Z,Z,g0,_,_,Z,Z,kF O af Yl,?_⟩;refine⟨Z,_,_,Z,l1,λq' al=>?_,?_⟩
  ·rw[cL,hc]at al
   rcases ZM.mp al with z | z
   ·exact Int.dvd_trans (aa q' z) l2
   ·have:q'=c:=by simpa using z
    subst this;exact l3
  ·have:=O.mul af;rw[dA,eS,show n*i+n+1=n*i+1+n by lia]
   exact this
 ·rintro σ H' ai;refine FI ai λaj ad=>?_;refine HI ad λB z Y=>?_;clear ad;refine Kf Y λak ae aa O=>?_;clear Y;obtain rfl:=aj;obtain rfl:=ak
  try clear ai
  rw[hl,cN]at aa;rw[hl]at O;exact⟨_,Z,q B ae aa O⟩
theorem Jt:Eo kN ["numbers","bottom"] (El (top 18)):=fsc
theorem N5(F:Fun K "tops_over" "tops_over" (top 18) f fd)(hT:kG P) :
 EF P w K mg base CX0 33 f fd kN (HA K):=by
 refine okA F Jt λae A outer s H vs Q E Y h=>?_;refine⟨_,(E5 (Er (GP rfl (N:=["number","bottom"]) (nt:=1) (js:=[1]) (Gv Jt) (piS K (pv 0)) (λ_ _ _ _ _=>(Eu (i:=0) (show List.Nodup (["number","bottom"]:km) from by decide +kernel) rfl (Or.inl rfl))) (EG Yd) (λ_ _ _ _ _=>Fw) (λ_ _ _ _ _=>(Em Es (E9 (ixT K) (pv 0) E2) (Em (Gn Y hT) (pv 1) (E9 (ixT K) (pv 0) E2))))))),?_⟩
 obtain⟨b,r,xs,qs,B,m,n,rfl,hS,hn,ac,aa,ad,hz,q⟩:=h;have hl:=hn.length;refine Pg (b:=b) (a:=r) (xs:=xs) rfl (λi zs H'=>H'=H/\zs=((qs.take i).map (Ep B)).map V.int) ⟨Z,Z⟩ (λi zs H' hi p=>⟨by rw[p.1];exact hS,by rw[p.2,bI,bI,b9];lia⟩) (by rw[hl];exact ZH (ET hz)) ?_ ?_
 ·rintro i x zs H' hx ⟨rfl,rfl⟩;obtain⟨c,hc,r',rfl,Y⟩:=(kB hn hx);have J:c∈qs:=bD hc;have O:(c.den:Int)≠0:=by have:=c.den_pos;lia
  refine⟨_,Z,r',_,_,_,Z,Z,Y,Z,_,Z,_,Z,r',_,_,_,Z,Z,Y,Z,_,_,Z,Z,O,_,_,Z,Z,kF (aa c J) (ac.fdiv (y:=c.den)) Yl,Z,?_⟩;rw[cL,hc,cM,cM]
  rfl
 ·rintro zs H' ⟨rfl,rfl⟩ p hp;rw[hl,cN];exact q p hp
theorem II:Eo ["numbers","width"] ["numbers"] (El (top 16)):=fsc
theorem O0(F:Fun K "curve_of" "curve_of" (top 16) f fd)(Xt:mg "len" = none)(XE:mg "tuple" = none)(J:mg "NOUGHT" = some (.ref Y))(O:∀H:Hp,Et K H (.ref Y) (0))(hT:kG P) :
 EF P w K mg base CX0 33 f fd kL (J0 K):=by
 refine okA F II λam A outer s H vs Q E hr h=>?_
 refine⟨_,(E6 K (E7 (i:=1) II (EB K Xt (pv 0)))
  (E6 K (GK PassesOwn.never (PW.pt (Jj (EA GQ (pv 1) E2) (Ir (EA (eqD K hr.units) (E9 (ixL K) (pv 0) (Em EV (pv 1) E2)) (Jz (v:=.ref Y) rfl J rfl))))) (E5 (E7 (i:=1) II (Em EV (pv 1) E2))))
  (E5 (Er (Hy (OI K) rfl XE LA (E1 (Jy (slL K) (pv 0) MY (Jx (pv 1))) E8)))))),?_⟩
 obtain⟨r,xs,qs,rfl,hS,hn,hz,q⟩:=h;have hl:=hn.length;refine⟨_,Z,r,xs,Z,.inl hS,?_⟩;refine PL (L3 H r qs λH r qs σ H'=>H'=H/\∃(v:Nat),σ=[some (.ref r),some (.int (v:Int))]/\v<=qs.length/\∀j q,v<=j->qs[j]? = some q->q=0) (λσ _=>mu 1 σ) ⟨Z,qs.length,by rw[<- hl];rfl,ZR _,λj q hj e=>absurd (ZO.mp e).1 Yl⟩ ?_
 rintro σ H' af;refine FI af λai ad=>?_;refine SR ad λv aa=>?_;clear ad;refine IC aa λag hv ae=>?_;clear aa;obtain rfl:=ai;obtain rfl:=ag
 try clear af
 have ah:(v=0\/∃q,qs[v-1]? = some q/\q≠0)->∀p,H' p=none->∀p',upd H' p (.lst (IV xs none (some (v:Int)))) p'=none->Q (.ref p') (upd (upd H' p (.lst (IV xs none (some (v:Int))))) p' (.tup (IV xs none (some (v:Int))))):=λhc p hp p' ac=>by
  have e:IV xs none (some (v:Int))=xs.take v:=by
   unfold IV;have e1:HT.sIx xs.length 0 none=0:=rfl;have e2:HT.sIx xs.length xs.length (some (v:Int))=min v xs.length:=HT.sIx_nat _ _ v;rw[e1,e2,dt,du];apply cV;intro i;rw[List.getElem?_take,List.getElem?_take]
   split<;>split<;>first | rfl | lia | (rename_i h1 h2;exact(dE Yl).symm) | (rename_i h1 h2;exact dE Yl)
  have sm:E4 H' (upd (upd H' p (.lst (IV xs none (some (v:Int))))) p' (.tup (IV xs none (some (v:Int))))):=(kA hp).trans (kA ac);refine q p' _ sm ⟨xs.take v,kw (by rw[e];exact E3),?_⟩
  rw[<- Cv.take_strip qs v ae hc];exact Paired.take v (kE hn sm)
 refine⟨_,Z,_,_,Z,Z,_,Z,?_⟩;by_cases hv0:v=0
 ·subst hv0;refine IB (IB ?_);exact⟨_,Z,_,Z,_,Z,r,xs,Z,hS,λp hp=>⟨p,_,Z,.inl ⟨ku E3,λp' ac=>ah (.inl rfl) p hp p' ac⟩⟩⟩
 ·refine Ft (by rw[decide_eq_true (show(0:Int)<(v:Int) by lia)]<;>rfl) ?_
  have al:v-1<qs.length:=by lia
  have hq:qs[v-1]? = some qs[v-1]:=cZ al;obtain⟨x,hx,ak⟩:=(kC hn hq)
  have aj:atI xs ((v:Int)-1)=some x:=by
   rw[show(v:Int)-1=((v-1:Nat):Int) by lia]
   exact Ew hx
  refine⟨_,Z,_,Z,_,_,Z,Z,r,xs,_,x,Z,Z,hS,aj,?_⟩;refine eqN ak (O _) ?_;refine⟨_,Z,?_⟩;by_cases hq0:qs[v-1]=0
  ·refine Ft (by rw[decide_eq_true hq0]<;>rfl) (PJ ?_)
   refine⟨_,Z,_,_,Z,Z,⟨Z,v-1,?_,Yl,λj q' hj e=>?_⟩,?_⟩
   ·show[some (V.ref r),some (V.int ((v:Int)-1))]=[some (V.ref r),some (V.int ((v-1:Nat):Int))];rw[show(v:Int)-1=((v-1:Nat):Int) by lia]
   ·by_cases hjv:v<=j
    ·exact ae j q' hjv e
    ·have:j=v-1:=by lia
     subst this;rw[hq]at e;cases e;exact hq0
   ·show((v:Int)-1).toNat<(v:Int).toNat
    lia
  ·refine F0 (by rw[decide_eq_false hq0]<;>rfl) ?_
   exact⟨_,Z,_,Z,_,Z,r,xs,Z,hS,λp hp=>⟨p,_,Z,.inl ⟨ku E3,λp' ac=>ah (.inr ⟨_,hq,hq0⟩) p hp p' ac⟩⟩⟩
theorem Il:Eo ["top","bottom","measure"] ["top","bottom"] (El (top 8)):=fsc
theorem N7(F:Fun K "number_of" "number_of" (top 8) f fd)(Y3:Fd P w K mg base 33 "common_measure" kM (PR))(hT:kG P) :
 EF P w K mg base CX0 34 f fd kR (HB):=by
 refine okA F Il λaa A outer s H vs Q E hr h=>?_
 refine⟨_,(E6 K (FU K (EA Hf (pv 1) E2) (E5 Ie) EK)
  (E6 K (E7 (i:=2) Il (Ex Y3 hr (pv 0) (pv 1)))
  (E6 K (FU K (EA Lc (pv 1) E2) (E5 (E7 (i:=2) Il (HF GB (pv 2)))) EK)
  (E5 (Er (EU (E1 (Em (Gn hr hT) (pv 0) (pv 2)) (E1 (Em (Gn hr hT) (pv 1) (pv 2)) E8)))))))),?_⟩
 obtain⟨a,b,rfl,J,q⟩:=h;refine⟨_,Z,Z,_,Z,?_⟩;refine F0 (by rw[decide_eq_false (λz=>J (V.int.inj z))]<;>rfl) ?_
 refine⟨_,Z,_,Z,a,b,Z,?_⟩;refine⟨_,Z,_,_,Z,Z,_,Z,?_⟩;have hd:Nm.msr a b≠0:=Nm.msr_ne J
 have Y:∀p,H p=none->Q (.ref p) (upd H p (.tup [.int (a.fdiv (Nm.msr a b)),.int (b.fdiv (Nm.msr a b))])):=λp hp=>by
  rw[Nm.top_msr J,Nm.bottom_msr J];exact q p hp
 by_cases hb0:b<0
 ·have O:Nm.msr a b = -(cu a b:Int):=by unfold Nm.msr;rw[if_pos hb0]
  rw[O]at hd Y;refine Ft (by rw[decide_eq_true hb0]<;>rfl) ⟨_,Z,_,Z,?_⟩
  exact⟨_,Z,_,Z,_,_,Z,Z,hd,_,Z,_,Z,_,_,Z,Z,hd,(by decide:2<=dl),Y⟩
 ·have O:Nm.msr a b=(cu a b:Int):=by unfold Nm.msr;rw[if_neg hb0]
  rw[O]at hd Y;refine F0 (by rw[decide_eq_false hb0]<;>rfl) ?_
  exact⟨_,Z,_,Z,_,_,Z,Z,hd,_,Z,_,Z,_,_,Z,Z,hd,(by decide:2<=dl),Y⟩
theorem Jb:Eo kW ["tops","bottom"] (El (top 19)):=fsc
theorem LQ(F:Fun K "curve_over" "curve_over" (top 19) f fd)(Y4:Fd P w K mg base 33 "curve_of" kL (J0 K))(Xy:Fd P w K mg base 34 "number_of" kR (HB))(hT:kG P) :
 EF P w K mg base CX0 35 f fd kW (Gd K):=by
 refine okA F Jb λaa A outer s H vs Q E hr h=>?_;refine⟨_,(E5 (Er (Fl Y4 hr (GP rfl (N:= kR) (nt:=1) (js:=[1]) (Gv Jb) (piS K (pv 0)) (λ_ _ _ _ _=>(Eu (i:=0) (show List.Nodup (kR:km) from by decide +kernel) rfl (Or.inl rfl))) (EG Yd) (λ_ _ _ _ _=>Fw) (λ_ _ _ _ _=>(Ex Xy hr (pv 0) (pv 1))))))),?_⟩
 obtain⟨l,ts,b,rfl,hS,hb,hz,q⟩:=h;have ll:(ts.map V.int).length=ts.length:=bI _;refine Pg (b:=true) (a:=l) (xs:=ts.map V.int) rfl (L4 H K ts b λH K ts b i zs H'=>E4 H H'/\zs.length=i/\ED K H' zs ((ts.take i).map λt=>cx t b)) ⟨E4.refl _,Z,.nil⟩ (λi zs H' _ p=>⟨kx p.1 hS,p.2.1⟩) (by rw[ll];exact ZH (ET hz)) ?_ ?_
 ·rintro i x zs H' Y ⟨sm,hl,J⟩;rw[bA]at Y;cases et:ts[i]? with
  | none=>rw[et]at Y;cases Y
  | some t =>
    rw[et]at Y;cases Y;refine⟨_,Z,_,Z,t,b,Z,hb,λp O=>⟨sm.trans (kA O),by simp[hl],?_⟩⟩
    rw[cL,et,cM];exact Paired.snoc (kE J (kA O)) (kD E3)
 ·rintro zs H' ⟨sm,hl,J⟩ p O;rw[ll,cN]at J;refine⟨p,zs,_,Z,ku E3,kE J (kA O),by rw[bI];exact hz,λr H2 s2 c=>q r H2 ((sm.trans (kA O)).trans s2) c⟩
theorem Gp:Eo ["first","second","product","k","j"] ["first","second"] (El (top 22)):=fsc
theorem K7(F:Fun K "whole_product" "whole_product" (top 22) f fd)(Xu:mg "range" = none)(Xt:mg "len" = none)(hT:kG P) :
 EF P w K mg base CX0 33 f fd kU (KS K):=by
 refine okA F Gp λaN A outer s H vs Q E hr h=>?_
 refine⟨_,(E6 K (E7 (i:=2) Gp (Em So (ER (E1 E2 E8)) (Em EV (Em EH (EB K Xt (pv 0)) (EB K Xt (pv 1))) E2)))
  (E6 K (Ff (K:=K) PassesOwn.never rfl (FD rfl Xu (E1 (EB K Xt (pv 0)) E8)) (Eu (i:=3) Gp.nd rfl (Or.inl rfl)) (E5 (Ff (K:=K) PassesOwn.never rfl (FD rfl Xu (E1 (EB K Xt (pv 1)) E8)) (Eu (i:=4) Gp.nd rfl (Or.inl rfl)) (E5 (Iu (Em EH (E9 (ixL K) (pv 2) (Em EH (pv 3) (pv 4))) (Em Es (E9 (ixL K) (pv 0) (pv 3)) (E9 (ixL K) (pv 1) (pv 4)))) (K5 (pv 2) (Em EH (pv 3) (pv 4)) Ib))) Yr)) Yr)
  (E5 (Er (pv 2))))),?_⟩
 obtain⟨f,g,fs,gs,m,n,rfl,hf,hg,aL,aa,J,aC,as,aO,q⟩:=h;have lf:(fs.map V.int).length=fs.length:=bI _;have lg:(gs.map V.int).length=gs.length:=bI _;have P1:1<=dl:=by decide
 have aM:fs.length*gs.length<=1000*1000:=eE aa J;refine⟨P1,λo ho=>?_⟩;have aH:SqL K (upd H o (.lst [.int 0])) f (fs.map V.int):=RU hf ho;have aK:SqL K (upd H o (.lst [.int 0])) g (gs.map V.int):=RU hg ho;refine⟨_,Z,f,_,Z,.inl aH,_,Z,g,_,Z,.inl aK,_,_,Z,Z,_,_,Z,Z,o,_,_,Z,Z,E3,?_,?_,?_,λp hp=>?_⟩
 ·rw[lf,lg];lia
 ·rw[lf,lg];lia
 ·show 1*(((fs.map V.int).length:Int)+((gs.map V.int).length:Int)-1).toNat<=dl;rw[lf,lg,dh];exact ZF (Rj aa J) (by decide:2*1000<=dl)
 have aA:H p=none:=by
  cases z:H p with
  | none=>rfl
  | some u=>rw[(kA ho) p u z]at hp;cases hp
 have eL:(((fs.map V.int).length:Int)+((gs.map V.int).length:Int)-1).toNat=fs.length+gs.length-1:=by rw[lf,lg];exact Sz aL
 rw[eL];have s0:E4 H (upd (upd H o (.lst [.int 0])) p (.lst (b6 (fs.length+gs.length-1) [V.int 0]).flatten)):=(kA ho).trans (kA hp);have e0:(b6 (fs.length+gs.length-1) [V.int 0]).flatten=(b6 (fs.length+gs.length-1) (0:Int)).map V.int:=by rw[List.flatten_replicate_singleton,List.map_replicate]
 rw[e0]at s0 ⊢;refine⟨_,Z,f,_,Z,.inl (kx s0 hf),_,Z,by rw[lf];lia,by rw[lf];lia,?_⟩
 rw[lf,bN]
 refine G4 (n:=fs.length) (L8 H f g p fs gs m n λH f g p fs gs m n i σ H'=>E4 H H'/\∃(ps:ki) (z3 z4:Option V),σ=[some (.ref f),some (.ref g),some (.ref p),z3,z4]/\H' p=some (.lst (ps.map V.int))/\ps.length=fs.length+gs.length-1/\(∀x,Cv.evI ps x=Cv.evI (fs.take i) x*Cv.evI gs x)/\∀t∈ps,Up (i*gs.length) (m+n) t)
  ⟨s0,_,none,none,Z,E3,bJ,λx=>?_,λt ht=>?_⟩ ?_ ?_
 ·rw[Cv.evI_zeros,fO];show(0:Rat)=0*_
  grind
 ·rw[(fE.mp ht).2];exact ZU _
 ·rintro i σ H' hi aw;refine FI aw λsm ak=>?_;refine Kd ak λps z3 z4 ah=>?_;clear ak;refine LB ah λax ep ao aq ap=>?_;clear ah;obtain rfl:=ax
  try clear aw
  have ay:fs[i]? = some fs[i]:=cZ hi;refine⟨_,Z,g,_,Z,.inl (kx sm hg),_,Z,by rw[lg];lia,by rw[lg];lia,?_⟩
  rw[lg,bN]
  refine G4 (n:=gs.length) (λj σ H'=>E4 H H'/\∃(ps:ki) (z4:Option V),σ=[some (.ref f),some (.ref g),some (.ref p),some (.int (0+(i:Int))),z4]/\H' p=some (.lst (ps.map V.int))/\ps.length=fs.length+gs.length-1/\(∀x,Cv.evI ps x=Cv.evI (fs.take i) x*Cv.evI gs x+(fs[i]:Rat)*x ^ i*Cv.evI (gs.take j) x)/\∀t∈ps,Up (i*gs.length+j) (m+n) t)
   ⟨sm,ps,z4,Z,ep,ao,λx=>?_,ap⟩ ?_ ?_
  ·rw[aq x,fO];show _=_+_*(0:Rat)
   grind
  ·rintro j σ H2 hj aB;refine FI aB λag al=>?_;refine HI al λY aJ ad=>?_;clear al;refine LB ad λaD aj ac ae O=>?_;clear ad;obtain rfl:=aD
   try clear aB
   have aE:gs[j]? = some gs[j]:=cZ hj;have ar:i+j<Y.length:=VF hi hj ac;have aF:Y[i+j]? = some Y[i+j]:=cZ ar;have bm:Fh fs[i] gs[j]:=kF (aC _ (d4 hi)) (as _ (d4 hj)) Yl;refine⟨_,Z,_,Z,_,Z,_,_,Z,Z,p,_,_,_,Z,Z,ku aj,GA aF Yl,_,Z,_,Z,f,_,_,_,Z,Z,kx ag hf,GA ay Yl,_,Z,_,Z,g,_,_,_,Z,Z,kx ag hg,GA aE Yl,_,_,Z,Z,bm,_,_,Z,Z,?_⟩;refine⟨_,Z,_,Z,_,Z,_,_,Z,Z,p,_,_,i+j,Z,Z,aj,JK (by rw[bI];exact ar) Yl,?_⟩
   refine⟨ag.put aA,Y.set (i+j) (Y[i+j]+fs[i]*gs[j]),_,Z,?_,by rw[bR];exact ac,λx=>?_,λt ht=>?_⟩
   ·rw[E3,cK]
   ·rw[Cv.evI_set x Y (i+j) _ _ aF,ae x,Cv.evI_take_succ x gs j _ aE,cF,Nm.pow_add]
    grind
   ·rcases fP ht with z | z
    ·exact(O t z).mono Yl
    ·subst z;exact(O _ (d4 ar)).add ((aC _ (d4 hi)).mul (as _ (d4 hj)))
  ·rintro σ H2 az;refine FI az λag an=>?_;refine HI an λY aJ ai=>?_;clear an;refine LB ai λaG aj ac ae O=>?_;clear ai;obtain rfl:=aG
   try clear az
   refine⟨ag,Y,_,_,Z,aj,ac,λx=>?_,λt ht=>?_⟩
   ·rw[ae x,cN,Cv.evI_take_succ x fs i _ ay]
    grind
   ·have:=O t ht;rw[dg,dh];exact this
 ·rintro σ H' av;refine FI av λsm am=>?_;refine Kd am λps z3 z4 af=>?_;clear am;refine LB af λau ep ao aq ap=>?_;clear af;obtain rfl:=au
  try clear av
  refine⟨_,Z,q p H' ps sm aA ep ao (λx=>?_) (λt ht=>?_)⟩
  ·rw[aq x,cN]
  ·exact(ap t ht).bd (k:=20) Yl
theorem FT:Eo ["knots","steps","bottom","step_tops","tops","scale","k"] ["knots","steps"] (El (top 55)):=fsc
theorem O1(F:Fun K "by_steps" "by_steps" (top 55) f fd)(Xv:Fd P w K mg base 34 "bottom_of" kL (IG K))(Xw:Fd P w K mg base 33 "tops_over" kN (HA K))(XA:Fd P w K mg base 35 "curve_over" kW (Gd K))(XR:Fd P w K mg base 33 "whole_product" kU (KS K))(Xu:mg "range" = none)(Xt:mg "len" = none)(hT:kG P) :
 EF P w K mg base CX0 36 f fd ["knots","steps"] (K2 K):=by
 refine okA F FT λa7 A outer s H vs Q E hr h=>?_
 refine⟨_,(E6 K (E7 (i:=2) FT (Fl Xv hr (pv 1)))
  (E6 K (E7 (i:=3) FT (Ex Xw hr (pv 1) (pv 2)))
  (E6 K (E7 (i:=4) FT (ER E8))
  (E6 K (E7 (i:=5) FT E2)
  (E6 K (Ff (K:=K) PassesOwn.never rfl (Q9 rfl Xu (E1 (Em EV (EB K Xt (pv 0)) E2) (E1 (HF GB E2) (E1 (HF GB E2) E8)))) (Eu (i:=6) FT.nd rfl (Or.inl rfl)) (E6 K (E7 (i:=4) FT (Ex XR hr (pv 4) (ER (E1 (HF GB (E9 (ixT K) (E9 (ixL K) (pv 0) (pv 6)) E2)) (E1 (E9 (ixT K) (E9 (ixL K) (pv 0) (pv 6)) E2) E8)))))
  (E6 K (E7 (i:=5) FT (Em Es (pv 5) (E9 (ixT K) (E9 (ixL K) (pv 0) (pv 6)) E2)))
  (E5 (Iu (Em EH (E9 (ixL K) (pv 4) E2) (Em Es (E9 (ixL K) (pv 3) (pv 6)) (pv 5))) (K5 (pv 4) E2 Ib))))) Yr)
  (E5 (Er (Ex XA hr (pv 4) (Em Es (pv 2) (pv 5)))))))))),?_⟩
 obtain⟨rk,J,xs,ys,ks,Y,n,rfl,hk,aB,hs,au,an,a1,ah,aw,a0,q⟩:=h;have aC:=aB.length;have a6:=au.length;have P0:0<=dl:=by decide
 have P2:2<=dl:=by decide
 have a4:n*ks.length<=2048000*12:=eE a0 a1;have a3:n*Y.length=n*ks.length:=by rw[an]
 refine⟨_,Z,true,J,ys,Y,n,Z,hs,au,(λc hc=>(aw c hc).2),by rw[dA];lia,λB a5 aY ag=>?_⟩
 refine⟨_,Z,_,Z,true,J,ys,Y,B,n*Y.length+1,n,Z,hs,au,ag,(λc hc=>(aw c hc).1),Yl,Yl,λst h1=>?_⟩;refine⟨P0,λtp h2=>?_⟩;have s2:E4 H (upd (upd H st (.lst ((Y.map (Ep B)).map V.int))) tp (.lst [])):=(kA h1).trans (kA h2);have az:(upd (upd H st (.lst ((Y.map (Ep B)).map V.int))) tp (.lst [])) st=some (.lst ((Y.map (Ep B)).map V.int)):=(kA h2) _ _ E3;have aD:(upd (upd H st (.lst ((Y.map (Ep B)).map V.int))) tp (.lst [])) tp=some (.lst (([]:ki).map V.int)):=E3;generalize upd (upd H st (.lst ((Y.map (Ep B)).map V.int))) tp (.lst [])=H2 at s2 az aD ⊢;refine⟨_,Z,rk,xs,Z,.inl (kx s2 hk),_,_,Z,Z,_,Z,_,Z,_,_,Z,⟨Yl,Yl,Yd,Yd⟩,?_⟩;have eT:((xs.length:Int)-1 - -1).toNat=ks.length:=Uk aC;rw[eT]
 refine Oe (n:=ks.length) (L8 H2 rk J B st ks Y n λH2 rk J B st ks Y n i σ H'=>E4 H2 H'/\∃(tp:ce) (ts:ki) (s:Int) (z:Option V),σ=[some (.ref rk),some (.ref J),some (.int B),some (.ref st),some (.ref tp),some (.int s),z]/\H' tp=some (.lst (ts.map V.int))/\ts.length=i/\s≠0 /\
  (∀x,Cv.evI ts x=IP (ks.drop (ks.length-i)) (Y.drop (ks.length-i)) x*((B:Rat)*(s:Rat)))/\(∀t∈ts,Bd (n*ks.length+n*i+21*i+2*n+30) t)/\Bd (n*i+1) s)
  ⟨E4.refl _,tp,[],1,none,Z,aD,Z,Yd,λx=>?_,(λ_ h=>nomatch h),?_⟩ ?_ ?_
 ·rw[du,fQ (ZR _)];show(0:Rat)=0*_
  grind
 ·exact(by unfold Bd;decide:Bd 1 1).mono Yl
 ·rintro i σ H' hi aA;refine FI aA λsm al=>?_;refine LZ al λay ts s z ac=>?_;clear al;refine RD ac λaL ae aS av he aq O=>?_;clear ac;obtain rfl:=aL
  try clear aA
  have hj:ks.length-1-i<ks.length:=VE hi;have aO:ks.length-1-i<Y.length:=by lia
  have as:ks[ks.length-1-i]? = some ks[ks.length-1-i]:=cZ hj;have ao:Y[ks.length-1-i]? = some Y[ks.length-1-i]:=cZ aO;have ad:ks[ks.length-1-i]∈ks:=d4 hj;have ax:Y[ks.length-1-i]∈Y:=d4 aO;generalize ks[ks.length-1-i]=c at as ad;generalize Y[ks.length-1-i]=d at ao ax;obtain⟨xk,aW,af,rfl,aG⟩:=(kC aB as);have ei:(xs.length:Int)-1-(i:Int)=((ks.length-1-i:Nat):Int):=SD aC hi;have ap:atI xs ((xs.length:Int)-1-(i:Int))=some (.ref af):=by rw[ei];exact Ew aW
  have aE:atI ((Y.map (Ep B)).map V.int) ((xs.length:Int)-1-(i:Int))=some (.int (Ep B d)):=GA (by rw[bA,ao];rfl) ei
  have a8:n*i<=n*ks.length:=fG n Yl;have a2:n*(i+1)=n*i+n:=by rw[dA,eS]
  have bt:Bd (n*ks.length+n+1) (Ep B d):=((aw d ax).1.mul (ag.fdiv (y:=d.den))).mono Yl;have sH:=s2.trans sm;have ak:=aG.same sH;refine⟨_,Z,_,Z,_,Z,rk,xs,_,_,Z,Z,kx sH hk,ap,af,_,_,_,Z,Z,ak,Z,_,Z,_,Z,_,Z,rk,xs,_,_,Z,Z,kx sH hk,ap,af,_,_,_,Z,Z,ak,Z,P2,λg hg=>?_⟩;have sg:E4 H' (upd H' g (.lst [.int (-c.num),.int (c.den:Int)])):=kA hg;have eg:(upd H' g (.lst [.int (-c.num),.int (c.den:Int)])) g=some (.lst ([-c.num,(c.den:Int)].map V.int)):=E3;generalize upd H' g (.lst [.int (-c.num),.int (c.den:Int)])=Hg at sg eg ⊢
  have aR:∀t∈[-c.num,(c.den:Int)],Bd n t:=λt ht=>by
   rcases ZL.mp ht with z | z
   ·subst z;exact(ah c ad).1.neg
   ·rw[cY.mp z];exact(ah c ad).2
  refine⟨ay,g,ts,[-c.num,(c.den:Int)],n*ks.length+n*i+21*i+2*n+30,n,Z,ku (sg _ _ ae),ku eg,(by decide:1<=2),Yl,(by decide:2<=1000),aq,aR,Yl,λpr H6 ps s6 aZ aP aU aT aF=>?_⟩
  have aj:ps.length=i+1:=by rw[aU,aS];rfl
  have aJ:0<ps.length:=by rw[aj];exact Nat.succ_pos i
  have h0:ps[0]? = some ps[0]:=cZ aJ;have aN:=sg.trans s6;have aH:=sH.trans aN;have ms:Fh s (c.den:Int):=kF O (ah c ad).2 Yl;have ar:Bd (n*(i+1)+1) (s*(c.den:Int)):=(O.mul (ah c ad).2).mono Yl;refine⟨_,Z,_,Z,_,Z,rk,xs,_,_,Z,Z,kx aH hk,ap,af,_,_,_,Z,Z,aG.same aH,Z,_,_,Z,Z,ms,?_⟩;refine⟨_,Z,pr,_,_,_,Z,Z,ku aP,GA h0 rfl,_,Z,_,Z,st,_,_,_,Z,Z,ku (aN _ _ (sm _ _ az)),aE,_,Z,_,_,Z,Z,kF bt ar Yl,_,_,Z,Z,?_⟩;refine⟨_,Z,pr,_,_,0,Z,Z,aP,JK (by rw[bI];lia) rfl,?_⟩
  have aX:E4 H2 (upd H6 pr (.lst ((ps.map V.int).set 0 (.int (ps[0]+Ep B d*(s*(c.den:Int))))))):=λbb u zz=>by
   have z1:=sg _ _ (sm bb u zz);rw[EC (Ez z1 aZ)];exact s6 bb u z1
  refine⟨aX,pr,ps.set 0 (ps[0]+Ep B d*(s*(c.den:Int))),s*(c.den:Int),_,Z,?_,by rw[bR];exact aj,cD av (Nm.den_ne c),λx=>?_,λt ht=>?_,ar⟩
  ·rw[E3,cK]
  ·rw[Cv.evI_set x ps 0 _ _ h0,aT x,SU,he x,cG,Nr rfl hi as,Nr an.symm hi ao];show _=(d+(x-c)*IP _ _ x)*_;rw[cF,cF,GR (aY d ax)]
   grind
  ·rcases fP ht with zz | zz
   ·exact(aF t zz).mono Yl
   ·subst zz;have b1:=(aF _ (d4 aJ)).mono (n:=n*ks.length+n*i+21*i+2*n+30+n+20) Yl;have b2:=(bt.mul ar).mono (n:=n*ks.length+n*i+21*i+2*n+30+n+20) Yl;exact(Bd.add b1 b2).mono Yl
 ·rintro σ H' aK;refine FI aK λsm am=>?_;refine LZ am λay ts s z aa=>?_;clear am;refine RD aa λaM ae aS av he aq O=>?_;clear aa;obtain rfl:=aM
  try clear aK
  have ai:B*s≠0:=cD Yl av;refine⟨_,Z,_,Z,_,Z,_,_,Z,Z,kF ag O Yl,ay,ts,B*s,Z,ku ae,ai,Yl,λp H6 s6 c6=>?_⟩;refine q p H6 _ ((s2.trans sm).trans s6) c6 (by have:=Cv.strip_length (ts.map λt=>cx t (B*s));rw[bI]at this;lia) (EL _) (λc hc=>?_) λx=>?_
  ·have aV:=Cv.strip_mem _ c hc;obtain⟨t,ht,rfl⟩:=(eJ.mp aV);exact RB.div (m:=0) ((aq t ht).mono Yl) ((ag.mul O).mono Yl) ai
  rw[Cv.ev_strip];have h7:=Nk ai x ts;rw[he x,dZ,dt,dt,<- cF]at h7;exact U3 (Nm.cast_ne ai) h7
theorem Ij:Eo ["points","told","point","k"] ["points"] (El (top 47)):=fsc
theorem P8(F:Fun K "told_in" "told_in" (top 47) f fd)(Xu:mg "range" = none)(Xt:mg "len" = none)(hT:kG P) :
 EF P w K mg base CX0 33 f fd kI (MH K):=by
 refine okA F Ij λaN A outer s H vs Q E hr h=>?_
 refine⟨_,(E6 K (E7 (i:=1) Ij (ER E8))
  (E6 K (Ff (K:=K) PassesOwn.never rfl (piT K (pv 0)) (Eu (i:=2) Ij.nd rfl (Or.inl rfl)) (E5 (Ff (K:=K) PassesOwn.never rfl (FD rfl Xu (E1 (Em EV (EB K Xt (pv 2)) E2) E8)) (Eu (i:=3) Ij.nd rfl (Or.inl rfl)) (E5 (Gq (GW K PySem.F.plainAttrs_list PySem.F.slot_list_append PySem.F.type_list_append FQ (pv 1) (E1 (EU (E1 (E9 (ixT K) (pv 2) E2) (E1 (pv 3) (E1 (E9 (ixT K) (pv 2) (Em EH (pv 3) E2)) E8)))) E8)))) Yr)) Yr)
  (E5 (Er (pv 1))))),?_⟩
 obtain⟨r,xs,pss,rfl,hS,hp,ao,aL,q⟩:=h;have P0:0<=dl:=by decide
 have P3:3<=dl:=by decide
 have aK:=hp.length;refine⟨P0,λp ah=>?_⟩;refine⟨_,Z,r,Z,⟨_,ky hS (kA ah)⟩,KD (xs:=xs) (L5 H r p K pss λH r p K pss i σ H'=>E4 H H'/\∃ys z2 z3,σ=[some (.ref r),some (.ref p),z2,z3]/\H' p=some (.lst ys)/\LC K H' ys (EY (pss.take i))) ⟨kA ah,[],none,none,Z,E3,.nil⟩ (λi σ H' _ h=>hS.same h.1) ?_ ?_⟩
 ·rintro i v σ H' hv ap;refine FI ap λsm ai=>?_;refine Kd ai λys z2 z3 ae=>?_;clear ai;refine IC ae λaz ep ac=>?_;clear ae;obtain rfl:=az
  try clear ap
  obtain⟨ps,ax,a,zs,pp,rfl,an,ay,aJ,aC⟩:=(kB hp hv);have aA:=ao ps (bD ax);have aH:=ay.length
  have aD:ys.length<=200:=by
   have h1:=Gb (pss.take i) (ao.take i);rw[b9]at h1;rw[ac.length];lia
  refine⟨_,Z,a,zs,Z,.inr (an.same sm),_,_,Z,Z,_,Z,Yl,Yl,?_⟩;rw[show(((zs.length:Nat):Int)-1).toNat=ps.length-1 from IQ aH];refine G4 (n:=ps.length-1) (L8 H r p a K pss i ps λH r p a K pss i ps k σ H2=>E4 H H2/\∃Y z3,σ=[some (.ref r),some (.ref p),some (.ref a),z3]/\H2 p=some (.lst Y)/\LC K H2 Y (EY (pss.take i)++(GC ps).take k)) ⟨sm,ys,z3,Z,ep,by rw[fO,ZY];exact ac⟩ ?_ ?_
  ·rintro k σ H2 hk aw;refine FI aw λaa am=>?_;refine HI am λY aF af=>?_;clear am;refine IC af λar O J=>?_;clear af;obtain rfl:=ar
   try clear aw
   have g0:=Fv (l:=ps) (i:=0) Yl;have gk:=Fv (l:=ps) (i:=k+1) Yl;obtain⟨xk,aG,aE⟩:=(kC ay gk);have ak:atI zs (0+(k:Int)+1)=some xk:=by rw[show 0+(k:Int)+1=((k+1:Nat):Int) by lia];exact Ew aG
   have aM:Y.length<=204:=by
    have h1:=ac.length;have h2:=Fi ps;rw[J.length,bH,b9];exact Um aD hk aA h1
   refine⟨_,Z,.inl ⟨Z,_,ku O⟩,_,Z,a,zs,_,.ref pp,Z,Z,an.same aa,Ew (j:=0) aJ,_,Z,_,Z,_,Z,_,_,Z,Z,a,zs,_,xk,Z,Z,an.same aa,ak,P3,λt ht=>?_⟩;have s3:E4 H2 (upd H2 t (.tup [.ref pp,.int (0+(k:Int)),xk])):=kA ht;have tp:t≠p:=(Ez O ht).symm
   have aB:(upd (upd H2 t (.tup [.ref pp,.int (0+(k:Int)),xk])) p (.lst (Y++[.ref t]))) pp=some (nT (ps.getD 0 0)):=by
    have z:=s3 _ _ (aa _ _ aC);rw[EC (Jf z (s3 _ _ O) (λz=>by cases z))];exact z
   refine⟨p,Y,.ref t,Z,Z,s3 _ _ O,Zw (by lia:Y.length<300) Yd,(aa.trans s3).put ah,Y++[.ref t],_,Z,E3,?_⟩
   have gt:(GC ps)[k]? = some ⟨ps.getD 0 0,(k:Int),ps.getD (k+1) 0⟩:=by
    unfold GC;rw[bA,dI hk];rfl
   rw[cL,gt,<- bV];refine Paired.snoc (LC.put (LC.same J s3) (s3 _ _ O)) ⟨t,pp,xk,Z,kw ?_,aB,((aE.same aa).same s3).put (s3 _ _ O)⟩;rw[EC tp,E3,fJ]
  ·rintro σ H2 au;refine FI au λaa aj=>?_;refine HI aj λY aF ad=>?_;clear aj;refine IC ad λav O J=>?_;clear ad;obtain rfl:=av
   try clear au
   refine⟨aa,Y,_,_,Z,O,?_⟩;have e:pss.take (i+1)=pss.take i++[ps]:=by rw[cL,ax];rfl
   rw[e,IZ];have et:(GC ps).take (ps.length-1)=GC ps:=dQ (by rw[Fi];exact ZR _)
   rw[et]at J;exact J
 ·rintro σ H' aq;refine FI aq λsm al=>?_;refine Kd al λys z2 z3 ag=>?_;clear al;refine IC ag λas ep ac=>?_;clear ag;obtain rfl:=as
  try clear aq
  rw[aK,cN]at ac;exact⟨_,Z,q p H' ys sm ah ep ac⟩
theorem Kl:Eo kI ["points"] (El (top 48)):=fsc
theorem NZ(F:Fun K "knots_of" "knots_of" (top 48) f fd)(YF:Fd P w K mg base 33 "told_in" kI (MH K))(hT:kG P) :
 EF P w K mg base CX0 34 f fd kI (Jq K):=by
 refine okA F Kl λaf A outer s H vs Q E hr h=>?_;refine⟨_,(E5 (Er (GP rfl (N:=["told"]) (nt:=1) (js:=[]) (Gv Kl) (piL K (Fl YF hr (pv 0))) (λ_ _ _ _ _=>(Eu (i:=0) (nd1 _) rfl (Or.inl rfl))) (EG Yd) (λ_ _ _ _ _=>Fw) (λ_ _ _ _ _=>(E9 (ixT K) (pv 0) E2))))),?_⟩;obtain⟨r,xs,pss,rfl,hS,hp,aa,ac,q⟩:=h;refine GL ⟨_,Z,r,xs,pss,Z,hS,hp,aa,ac,λw Hw ws sw hw ew J=>⟨w,Z,⟨_,ku ew⟩,?_⟩⟩
 have ae:ws.length<=200:=by
  have h1:=Gb pss λps hp=>by have:=aa ps hp;lia
  rw[J.length];lia
 refine HX (xs:=ws) (L2 Hw pss λHw pss i zs H'=>H'=Hw/\zs.length=i/\Fu Hw zs (((EY pss).take i).map Kw.x)) ⟨Z,Z,.nil⟩ (λi zs H' _ h=>⟨by rw[h.1];exact ku ew,h.2.1⟩) (ZH (ET Yl)) ?_ ?_
 ·rintro i v zs H' hv ⟨rfl,ad,Y⟩;obtain⟨t,ht,a,rx,rn,rfl,ha,hx,_⟩:=(kB J hv);have hx:Jm H' (.ref rx) t.x:=⟨_,Z,hx⟩;refine⟨_,Z,a,_,_,_,Z,Z,ha,Z,Z,by simp[ad],?_⟩
  rw[cL,ht,cM];exact Paired.snoc Y hx
 rintro zs H' ⟨rfl,ad,Y⟩ p O;rw[J.length,cN]at Y;exact q p _ zs (sw.trans (kA O)) (sw.free O) E3 (Fu.same Y (kA O))
theorem Ik:Eo ["points","slopes","point"] ["points"] (El (top 51)):=fsc
theorem N6(F:Fun K "slopes_in" "slopes_in" (top 51) f fd)(Xt:mg "len" = none)(hT:kG P) :
 EF P w K mg base CX0 33 f fd kI (KQ K):=by
 refine okA F Ik λaA A outer s H vs Q E hr h=>?_
 refine⟨_,(E6 K (E7 (i:=1) Ik Sf)
  (E6 K (Ff (K:=K) PassesOwn.never rfl (piT K (pv 0)) (Eu (i:=2) Ik.nd rfl (Or.inl rfl)) (E5 (FU K (EA Hf (EB K Xt (pv 2)) E2) (E5 (U6 hr.units1 (pv 1) (E9 (ixT K) (pv 2) E2) (E9 (ixT K) (pv 2) E2) rfl)) EK)) Yr)
  (E5 (Er (pv 1))))),?_⟩
 obtain⟨r,xs,pss,rfl,hS,hp,ao,ay,as,q⟩:=h;have ax:=hp.length;refine λd hd=>?_;refine⟨_,Z,r,Z,⟨_,ky hS (kA hd)⟩,KD (xs:=xs) (L5 H r d K pss λH r d K pss i σ H'=>E4 H H'/\∃kvs z2,σ=[some (.ref r),some (.ref d),z2]/\H' d=some (.dT kvs)/\kvs.length<=i/\SlD K H kvs (pss.take i)) ⟨kA hd,[],none,Z,E3,ZR _,(λ_ h=>nomatch h)⟩ (λi σ H' _ h=>hS.same h.1) ?_ ?_⟩
 ·rintro i v σ H' hv ak;refine FI ak λsm ae=>?_;refine HI ae λkvs z2 O=>?_;clear ae;refine Kf O λai ed an Y=>?_;clear O;obtain rfl:=ai
  try clear ak
  have hi:i<xs.length:=(ZO.mp hv).1;obtain⟨ps,ah,a,us,p,rfl,af,am,ar,au⟩:=(kB hp hv);have az:=ao ps (bD ah);have av:=am.length;have e:pss.take (i+1)=pss.take i++[ps]:=by rw[cL,ah];rfl
  refine⟨_,Z,a,us,Z,.inr (af.same sm),Z,_,Z,?_⟩;by_cases h3:ps.length=3
  ·refine Ft (by rw[decide_eq_true (by rw[av,h3];rfl:V.int (us.length:Int)=V.int 3)]<;>rfl) ?_
   have g2:=Fv (l:=ps) (i:=2) Yl;obtain⟨x2,aw,ap⟩:=(kC am g2);refine⟨_,Z,a,us,_,x2,Z,Z,af.same sm,Ew (j:=2) aw,_,Z,_,Z,a,us,_,.ref p,Z,Z,af.same sm,Ew (j:=0) ar,d,_,Z,Tx.t (k:=kQ (ps.getD 0 0)) ed (sm _ _ au) (Zw (by lia:kvs.length<300) Yd),?_⟩
   refine⟨sm.put hd,Jw kvs (kQ (ps.getD 0 0)) x2,_,Z,E3,ZF (IS _ _ _) Yl,?_⟩;rw[e];intro ac ag J;rw[RG]
   rcases ZM.mp ag with z | z
   ·have aq:=Ui as ah ac z;rw[if_neg (λz=>aq (VS z))];exact Y ac z J
   ·rw[cY.mp z,if_pos rfl];exact⟨x2,Z,ap⟩
  ·refine F0 (by rw[decide_eq_false (show ¬V.int (us.length:Int)=V.int 3 from λz=>h3 (by have:=V.int.inj z;lia))]<;>rfl) ⟨sm,kvs,_,Z,ed,Yl,?_⟩
   rw[e];intro ac ag J
   rcases ZM.mp ag with z | z
   ·exact Y ac z J
   ·rw[cY.mp z]at J;exact absurd J h3
 ·rintro σ H' al;refine FI al λsm ad=>?_;refine HI ad λkvs z2 aa=>?_;clear ad;refine Kf aa λaj ed an Y=>?_;clear aa;obtain rfl:=aj
  try clear al
  rw[ax,cN]at Y;exact⟨_,Z,q d H' kvs sm hd ed (Y.same sm)⟩
theorem Io:Eo ["points","row","point"] ["points"] (El (top 50)):=fsc
theorem Nb(F:Fun K "first_row" "first_row" (top 50) f fd)(Xt:mg "len" = none)(hT:kG P) :
 EF P w K mg base CX0 33 f fd kI (OP K):=by
 refine okA F Io λax A outer s H vs Q E hr h=>?_
 refine⟨_,(E6 K (E7 (i:=1) Io (ER E8))
  (E6 K (Ff (K:=K) PassesOwn.never rfl (piT K (pv 0)) (Eu (i:=2) Io.nd rfl (Or.inl rfl)) (E5 (Gq (GW K PySem.F.plainAttrs_list PySem.F.slot_list_extend PySem.F.type_list_extend Mg (pv 1) (E1 (Em So (ER (E1 (E9 (ixT K) (pv 2) E2) E8)) (Em EV (EB K Xt (pv 2)) E2)) E8)))) Yr)
  (E5 (Er (pv 1))))),?_⟩
 obtain⟨r,xs,pss,rfl,hS,hp,ag,au,q⟩:=h;have P0:0<=dl:=by decide
 have P1:1<=dl:=by decide
 have ar:=hp.length;refine⟨P0,λp aa=>?_⟩;refine⟨_,Z,r,Z,⟨_,ky hS (kA aa)⟩,KD (xs:=xs) (L5 H r p K pss λH r p K pss i σ H'=>E4 H H'/\∃ys z2,σ=[some (.ref r),some (.ref p),z2]/\H' p=some (.lst ys)/\ED K H' ys (Ip (pss.take i))) ⟨kA aa,[],none,Z,E3,.nil⟩ (λi σ H' _ h=>hS.same h.1) ?_ ?_⟩
 ·rintro i v σ H' hv aj;refine FI aj λsm ae=>?_;refine HI ae λys z2 Y=>?_;clear ae;refine IC Y λai ep O=>?_;clear Y;obtain rfl:=ai
  try clear aj
  obtain⟨ps,ao,a,us,pp,rfl,af,an,av,aw⟩:=(kB hp hv);have ah:=ag ps (bD ao);have ak:=an.length;have e:pss.take (i+1)=pss.take i++[ps]:=by rw[cL,ao];rfl
  have g1:=Fv (l:=ps) (i:=1) Yl;obtain⟨x1,as,aq⟩:=(kC an g1)
  have ap:ys.length<=200:=by
   have h1:=Gb (pss.take i) (ag.take i);rw[b9]at h1;rw[O.length,IJ];lia
  refine⟨_,Z,.inl ⟨Z,_,ku ep⟩,_,Z,a,us,_,x1,Z,Z,af.same sm,Ew (j:=1) as,P1,λl hl=>?_⟩;have s1:E4 H' (upd H' l (.lst [x1])):=kA hl;refine⟨_,Z,a,us,Z,.inr ((af.same sm).same s1),_,_,Z,Z,l,_,[x1],Z,Z,E3,Yl,Yl,?_,λm hm=>?_⟩
  ·have z:(((us.length:Nat):Int)-1).toNat<=2:=Uj ak ah;exact ZF (eE (ZR _) z) (by show 2<=dl;decide)
  have s2:=s1.trans (kA (o:=.lst (b6 (((us.length:Nat):Int)-1).toNat [x1]).flatten) hm);have en:(((us.length:Nat):Int)-1).toNat=ps.length-1:=IQ ak;have ac:=s2 _ _ ep;refine⟨p,m,ys,_,Z,Z,ac,E3,?_,?_⟩
  ·rw[Qm,en];exact ZF (show ys.length+(ps.length-1)*1<=300 from Ul ap ah) Yd
  refine⟨(sm.trans s2).put aa,_,_,Z,E3,?_⟩;rw[e,R9,en];have hr:ED K (upd (upd H' l (.lst [x1])) m (.lst (b6 (((us.length:Nat):Int)-1).toNat [x1]).flatten)) (b6 (ps.length-1) [x1]).flatten (b6 (ps.length-1) (ps.getD 1 0)):=NN ((aq.same sm).same s2) _;rw[en]at hr ac s2;exact Paired.append (ED.put (kE O s2) ac) (ED.put hr ac)
 ·rintro σ H' am;refine FI am λsm ad=>?_;refine HI ad λys z2 J=>?_;clear ad;refine IC J λal ep O=>?_;clear J;obtain rfl:=al
  try clear am
  rw[ar,cN]at O;exact⟨_,Z,q p H' ys sm aa ep O⟩
theorem TY:Eo kH ["a","b"] (El (top 12)):=fsc
theorem Ud(F:Fun K "over" "over" (top 12) f fd)(Xy:Fd P w K mg base 34 "number_of" kR (HB))(hT:kG P) :
 EF P w K mg base CX0 35 f fd kH (K0 K):=by
 refine okA F TY λac A outer s H vs Q E hr h=>?_;refine⟨_,(E5 (Er (Ex Xy hr (Em Es (E9 (ixT K) (pv 0) E2) (E9 (ixT K) (pv 1) E2)) (Em Es (E9 (ixT K) (pv 0) E2) (E9 (ixT K) (pv 1) E2))))),?_⟩;obtain⟨x,y,p,q,m,n,rfl,⟨r,rfl,Y⟩,⟨u,rfl,O⟩,J,hp,hq,aa,k⟩:=h;have hn:q.num≠0:=λz=>J (fj.mp z);refine⟨_,Z,r,_,_,_,Z,Z,Y,Z,_,Z,u,_,_,_,Z,Z,O,Z,_,_,Z,Z,kF hp.1 hq.2,?_⟩;refine⟨_,Z,r,_,_,_,Z,Z,Y,Z,_,Z,u,_,_,_,Z,Z,O,Z,_,_,Z,Z,kF hp.2 hq.1,?_⟩;refine⟨_,_,Z,cD (Nm.den_ne p) hn,λz hz=>?_⟩;have e:=k z hz;rw[<- Qb p q J]at e;exact e
theorem S2:Eo kH ["a","b"] (El (top 10)):=fsc
theorem Sv(F:Fun K "minus" "minus" (top 10) f fd)(Xy:Fd P w K mg base 34 "number_of" kR (HB))(hT:kG P) :
 EF P w K mg base CX0 35 f fd kH (Ge K (· - ·)):=by
 refine okA F S2 λac A outer s H vs Q E Y h=>?_;refine⟨_,(E5 (Er (Ex Xy Y (Em EV (Em Es (E9 (ixT K) (pv 0) E2) (E9 (ixT K) (pv 1) E2)) (Em Es (E9 (ixT K) (pv 1) E2) (E9 (ixT K) (pv 0) E2))) (Em Es (E9 (ixT K) (pv 0) E2) (E9 (ixT K) (pv 1) E2))))),?_⟩;obtain⟨x,y,p,q,m,n,rfl,⟨r,rfl,Y⟩,⟨u,rfl,O⟩,hp,J,aa,k⟩:=h;refine⟨_,Z,r,_,_,_,Z,Z,Y,Z,_,Z,u,_,_,_,Z,Z,O,Z,_,_,Z,Z,kF hp.1 J.2,_,Z,u,_,_,_,Z,Z,O,Z,_,Z,r,_,_,_,Z,Z,Y,Z,_,_,Z,Z,kF J.1 hp.2,_,_,Z,Z,?_⟩;refine⟨_,Z,r,_,_,_,Z,Z,Y,Z,_,Z,u,_,_,_,Z,Z,O,Z,_,_,Z,Z,kF hp.2 J.2,?_⟩;refine⟨_,_,Z,cD (Nm.den_ne p) (Nm.den_ne q),λz hz=>?_⟩;have e:=k z hz
 try dsimp only at e
 rw[<- Nm.minus_eq]at e;exact e
theorem IH:Eo ["ahead","knots","slopes","k","row","j"] ["ahead","knots","slopes","k"] (El (top 52)):=fsc
theorem NY(F:Fun K "next_row" "next_row" (top 52) f fd)(XM:Fd P w K mg base 35 "over" kH (K0 K))(XZ:Fd P w K mg base 35 "minus" kH (Ge K (· - ·)))(Xu:mg "range" = none)(Xt:mg "len" = none)(hT:kG P) :
 EF P w K mg base CX0 36 f fd ["ahead","knots","slopes","k"] (K1 K):=by
 refine okA F IH λaM A outer s H vs Q E hr h=>?_
 refine⟨_,(E6 K (E7 (i:=4) IH (ER E8))
  (E6 K (Ff (K:=K) PassesOwn.never rfl (FD rfl Xu (E1 (Em EV (EB K Xt (pv 1)) (pv 3)) E8)) (Eu (i:=5) IH.nd rfl (Or.inl rfl)) (E5 (FU K (EA (eqD K hr.units) (E9 (ixL K) (pv 1) (Em EH (pv 5) (pv 3))) (E9 (ixL K) (pv 1) (pv 5))) (E5 (Gq (GW K PySem.F.plainAttrs_list PySem.F.slot_list_append PySem.F.type_list_append FQ (pv 4) (E1 (U7 hr.units1 (pv 2) (E9 (ixL K) (pv 1) (pv 5)) (λu v=>rfl)) E8)))) (E5 (Gq (GW K PySem.F.plainAttrs_list PySem.F.slot_list_append PySem.F.type_list_append FQ (pv 4) (E1 (Ex XM hr (Ex XZ hr (E9 (ixL K) (pv 0) (Em EH (pv 5) E2)) (E9 (ixL K) (pv 0) (pv 5))) (Ex XZ hr (E9 (ixL K) (pv 1) (Em EH (pv 5) (pv 3))) (E9 (ixL K) (pv 1) (pv 5)))) E8)))))) Yr)
  (E5 (Er (pv 4))))),?_⟩
 obtain⟨ra,rk,d,as,ks,A,kn,kvs,sl,k,m,n,rfl,hA,ah,hK,ai,hd,aC,h1,aN,aK,aH,av,ar,hm,hn,q⟩:=h;have P0:0<=dl:=by decide
 have aL:=ah.length;have aJ:=ai.length;refine⟨P0,λp ad=>?_⟩;have s0:E4 H (upd H p (.lst [])):=kA ad;refine⟨_,Z,rk,ks,Z,.inl (kx s0 hK),_,Z,_,_,Z,Z,_,Z,Yl,Yl,?_⟩;rw[show(((ks.length:Nat):Int)-(k:Int)).toNat=kn.length-k by lia]
 refine G4 (n:=kn.length-k) (L10 H ra rk d k p K A kn sl λH ra rk d k p K A kn sl i σ H'=>E4 H H'/\∃zs z5,σ=[some (.ref ra),some (.ref rk),some (.ref d),some (.int (k:Int)),some (.ref p),z5]/\H' p=some (.lst zs)/\zs.length=i/\ED K H' zs ((HS A kn sl k).take i)) ⟨s0,[],none,Z,E3,Z,.nil⟩ ?_ ?_
 ·rintro j σ H' hj am;refine FI am λY ae=>?_;refine HI ae λzs z5 aa=>?_;clear ae;refine Kf aa λaq ep ag O=>?_;clear aa;obtain rfl:=aq
  try clear am
  have gk:=Fv (l:=kn) (i:=j+k) Yl;have g0:=Fv (l:=kn) (i:=j) Yl;have ga:=Fv (l:=A) (i:=j+1) Yl;have gb:=Fv (l:=A) (i:=j) Yl;obtain⟨xk,aB,ak,rfl,aD⟩:=(kC ai gk);obtain⟨x0,ay,a0,rfl,ao⟩:=(kC ai g0);obtain⟨xa,aF,ax⟩:=(kC ah ga);obtain⟨xb,aw,aE⟩:=(kC ah gb);have ek:atI ks (0+(j:Int)+(k:Int))=some (.ref ak):=by rw[show 0+(j:Int)+(k:Int)=((j+k:Nat):Int) by lia];exact Ew aB
  have e0:atI ks (0+(j:Int))=some (.ref a0):=by rw[show 0+(j:Int)=((j:Nat):Int) by lia];exact Ew ay
  have ea:atI as (0+(j:Int)+1)=some xa:=by rw[show 0+(j:Int)+1=((j+1:Nat):Int) by lia];exact Ew aF
  have eb:atI as (0+(j:Int))=some xb:=by rw[show 0+(j:Int)=((j:Nat):Int) by lia];exact Ew aw
  have J:=kx Y hK;have ap:=kx Y hA;have nk:Et K H' (.ref ak) (kn.getD (j+k) 0):=kD (Y _ _ aD);have n0:Et K H' (.ref a0) (kn.getD j 0):=kD (Y _ _ ao);have aG:j<(HS A kn sl k).length:=by rw[Iw];exact hj
  have et:(HS A kn sl k).take (j+1)=(HS A kn sl k).take j++[(HS A kn sl k).getD j 0]:=by rw[cL,Fv aG];rfl
  have an:zs.length<dl:=Zw (by lia:zs.length<300) Yd
  refine⟨_,Z,_,Z,_,Z,_,_,Z,Z,rk,ks,_,_,Z,Z,J,ek,_,Z,_,Z,rk,ks,_,_,Z,Z,J,e0,?_⟩;refine eqN nk n0 ?_;refine⟨_,Z,?_⟩;by_cases he:kn.getD (j+k) 0=kn.getD j 0
  ·refine Ft (by rw[decide_eq_true he]<;>rfl) ?_
   obtain⟨v,hv,aA⟩:=(aC j Yl he);refine⟨_,Z,.inl ⟨Z,_,ku ep⟩,_,Z,_,Z,_,Z,rk,ks,_,_,Z,Z,J,e0,d,v,Z,?_,?_⟩
   ·rw[<- hv];exact RF.t (k:=kQ (kn.getD j 0)) (Y _ _ hd) (Y _ _ ao)
   refine⟨p,zs,v,Z,Z,ep,an,Y.put ad,_,_,Z,E3,by simp[ag],?_⟩
   rw[et,Lm hj,if_pos he];exact Paired.snoc (ED.put O ep) ((aA.same Y).put ep)
  ·refine F0 (by rw[decide_eq_false he]<;>rfl) ?_
   have ba:=av _ (EZ (l:=A) (i:=j+1) Yl);have bb:=av _ (EZ (l:=A) (i:=j) Yl);have bk:=ar _ (EZ (l:=kn) (i:=j+k) Yl);have b0:=ar _ (EZ (l:=kn) (i:=j) Yl);refine⟨_,Z,.inl ⟨Z,_,ku ep⟩,_,Z,_,Z,_,_,Z,Z,ra,as,_,_,Z,Z,ap,ea,_,Z,_,Z,ra,as,_,_,Z,Z,ap,eb,_,_,_,_,m,m,Z,ax.same Y,aE.same Y,ba,bb,Yl,λt ht=>?_⟩;have s1:E4 H' (upd H' t (nT (A.getD (j+1) 0-A.getD j 0))):=kA ht;refine⟨_,Z,_,Z,_,Z,_,_,Z,Z,rk,ks,_,_,Z,Z,kx s1 J,ek,_,Z,_,Z,rk,ks,_,_,Z,Z,kx s1 J,e0,_,_,_,_,n,n,Z,nk.same s1,n0.same s1,bk,b0,Yl,λu hu=>?_⟩;have s2:=s1.trans (kA (o:=nT (kn.getD (j+k) 0-kn.getD j 0)) hu);refine⟨_,_,_,_,m+m+1,n+n+1,Z,kD ((kA hu) _ _ E3),kD E3,(λz=>he (by grind)),ba.minus bb,bk.minus b0,Yl,λr az=>?_⟩
   have s3:=s2.trans (kA (o:=nT ((A.getD (j+1) 0-A.getD j 0) / (kn.getD (j+k) 0-kn.getD j 0))) az);have aj:=s3 _ _ ep;refine⟨p,zs,.ref r,Z,Z,aj,an,(Y.trans s3).put ad,_,_,Z,E3,by simp[ag],?_⟩
   rw[et,Lm hj,if_neg he];exact Paired.snoc (ED.put (kE O s3) aj) ((kD E3).put aj)
 ·rintro σ H' au;refine FI au λY af=>?_;refine HI af λzs z5 ac=>?_;clear af;refine Kf ac λal ep ag O=>?_;clear ac;obtain rfl:=al
  try clear au
  rw[dQ (by rw[Iw];exact ZR _)]at O
  exact⟨_,Z,q p H' zs Y ad ep O⟩
theorem GZ:Eo ["points","knots","slopes","table","k"] ["points"] (El (top 53)):=fsc
theorem NU(F:Fun K "table_of" "table_of" (top 53) f fd)(Y5:Fd P w K mg base 34 "knots_of" kI (Jq K))(YG:Fd P w K mg base 33 "slopes_in" kI (KQ K))(YH:Fd P w K mg base 33 "first_row" kI (OP K))(YI:Fd P w K mg base 36 "next_row" ["ahead","knots","slopes","k"] (K1 K))(Xu:mg "range" = none)(Xt:mg "len" = none)(hT:kG P) :
 EF P w K mg base CX0 37 f fd kI (MJ K):=by
 refine okA F GZ λaK A outer s H vs Q E hr h=>?_
 refine⟨_,(E6 K (E7 (i:=1) GZ (Fl Y5 hr (pv 0)))
  (E6 K (E7 (i:=2) GZ (Fl YG hr (pv 0)))
  (E6 K (E7 (i:=3) GZ (ER E8))
  (E6 K (Ff (K:=K) PassesOwn.never rfl (FD rfl Xu (E1 (EB K Xt (pv 1)) E8)) (Eu (i:=4) GZ.nd rfl (Or.inl rfl)) (E5 (Gq (GW K PySem.F.plainAttrs_list PySem.F.slot_list_append PySem.F.type_list_append FQ (pv 3) (E1 (Se (EA Hf (pv 4) E2) (Fl YH hr (pv 0)) (Fz YI hr rfl (E1 (E9 (ixL K) (pv 3) (Em EV (pv 4) E2)) (E1 (pv 1) (E1 (pv 2) (E1 (pv 4) E8)))))) E8)))) Yr)
  (E5 (Er (pv 3))))))),?_⟩
 obtain⟨r,xs,pss,hh,n,rfl,hS,hp,J,aa,aj,aJ,hb,ar,aD,as,q⟩:=h;have P0:0<=dl:=by decide
 refine⟨_,Z,r,xs,pss,Z,hS,hp,J,aa,λw Hw ws sw hw ew aq=>?_⟩;refine⟨_,Z,r,xs,pss,Z,hS.same sw,Gu.same hp sw,J,aa,aj,λd Hd kvs sd hd ed aG=>?_⟩;refine⟨P0,λp al=>?_⟩;have s0:E4 Hd (upd Hd p (.lst [])):=kA al;have sH:E4 H Hd:=sw.trans sd;have aE:H p=none:=sH.free al;have aH:ws.length=(EY pss).length:=by rw[aq.length,bI]
 have au:=sd _ _ ew;have aC:Fu Hd ws (kn pss):=Fu.same aq sd;refine⟨_,Z,w,ws,Z,.inl (ku (s0 _ _ au)),_,Z,Yl,Yl,?_⟩;rw[show((ws.length:Nat):Int).toNat=(EY pss).length by lia]
 refine G4 (n:=(EY pss).length) (L8 Hd r w d p K H pss λHd r w d p K H pss i σ H'=>E4 Hd H'/\∃ys z,σ=[some (.ref r),some (.ref w),some (.ref d),some (.ref p),z]/\H' p=some (.lst ys)/\Paired (FR K H p H') ys ((Zz i).map (tab pss))) ⟨s0,[],none,Z,E3,.nil⟩ ?_ ?_
 ·rintro i σ H' hi ao;refine FI ao λsm ai=>?_;refine HI ai λys z ad=>?_;clear ai;refine IC ad λan ep Y=>?_;clear ad;obtain rfl:=an
  try clear ao
  have ak:ys.length=i:=by rw[Y.length,bI,dH]
  have am:=sH.trans sm;have ap:ys.length<dl:=Zw (by lia:ys.length<300) Yd
  have er:(Zz (i+1)).map (tab pss)=(Zz i).map (tab pss)++[tab pss i]:=by rw[fm,cM];rfl
  have ae:∀(l:ce) (O:Hp) (zs:ko),E4 H' O->H' l=none->O l=some (.lst zs)->ED K O zs (tab pss i)->E4 Hd (upd O p (.lst (ys++[.ref l])))/\∃ay z,[some (V.ref r),some (.ref w),some (.ref d),some (.ref p),some (.int (0+(i:Int)))]=[some (.ref r),some (.ref w),some (.ref d),some (.ref p),z]/\(upd O p (.lst (ys++[.ref l]))) p=some (.lst ay)/\Paired (FR K H p (upd O p (.lst (ys++[.ref l])))) ay ((Zz (i+1)).map (tab pss)):=λl O zs s3 hl el hn=>by
   have aw:=s3 _ _ ep;have lp:l≠p:=(Ez ep hl).symm;refine⟨(sm.trans s3).put al,_,_,Z,E3,?_⟩;rw[er];exact Paired.snoc (kq Y λ_ _ z=>(z.same s3).put aw) (FR.put ⟨l,zs,Z,lp,am.free hl,el,hn⟩ aw)
  refine⟨_,Z,.inl ⟨Z,_,ku ep⟩,_,Z,Z,_,Z,?_⟩
  match i,hi,ae,Y,ak with
  | 0,hi,ae,Y,ak =>
    refine LX ?_;refine⟨_,Z,r,xs,pss,Z,hS.same am,Gu.same hp am,J,aa,λl O zs s3 hl el hn=>?_⟩;exact⟨p,ys,.ref l,Z,Z,s3 _ _ ep,ap,ae l O zs s3 hl el hn⟩
  | i+1,hi,ae,Y,ak =>
    refine F0 (by rw[decide_eq_false (show ¬V.int (0+((i+1:Nat):Int))=V.int 0 from λz=>by have:=V.int.inj z;lia)]<;>rfl) ?_
    obtain⟨xv,aF,a,zs,rfl,aN,aM,ha,aB⟩:=(kC Y (Pj (tab pss) i));have ea:atI ys (0+((i+1:Nat):Int)-1)=some (.ref a):=by rw[show 0+((i+1:Nat):Int)-1=((i:Nat):Int) by lia];exact Ew aF
    have aL:=Th as (by lia:i<=10)
    refine⟨_,Z,_,Z,_,_,Z,Z,p,ys,_,_,Z,Z,ku ep,ea,_,Z,_,Z,_,Z,a,w,d,zs,ws,tab pss i,kn pss,kvs,OU pss,i+1,bnd hh n i,n,by rw[fJ];rfl,ku ha,aB,ku (sm _ _ au),Fu.same aC sm,sm _ _ ed,?_,Yl,by rw[FZ];lia,by rw[GS _ _ Yl,FZ];lia,by rw[FZ];lia,OK J aD hb ar i Yl,Qp ar,Yl,Yl,λl O aA s3 hl el hn=>?_⟩
    ·intro j hj he;rw[FZ]at hj;refine FI (Oa J aj Yl hj he) λ_ ah=>?_;refine SR ah λps ac=>?_;clear ah;refine Kf ac λh1 h2 h3 _=>?_;clear ac;obtain⟨v,hv,az⟩:=(aG ps h1 h2);have e4:=PX aj h1 h2;rw[h3]at hv e4;rw[e4];exact⟨v,hv,az.same sm⟩
    ·exact⟨p,ys,.ref l,Z,Z,s3 _ _ ep,ap,ae l O aA s3 hl el hn⟩
 ·rintro σ H' av;refine FI av λsm ag=>?_;refine HI ag λys z af=>?_;clear ag;refine IC af λax ep Y=>?_;clear af;obtain rfl:=ax
  try clear av
  exact⟨_,Z,q p H' ys (sH.trans sm) aE ep Y⟩
theorem Kj:Eo kI ["points"] (El (top 54)):=fsc
theorem NV(F:Fun K "steps_of" "steps_of" (top 54) f fd)(YJ:Fd P w K mg base 37 "table_of" kI (MJ K))(hT:kG P) :
 EF P w K mg base CX0 38 f fd kI (MK K):=by
 refine okA F Kj λap A outer s H vs Q E hr h=>?_;refine⟨_,(E5 (Er (GP rfl (N:=["row"]) (nt:=1) (js:=[]) (Gv Kj) (piL K (Fl YJ hr (pv 0))) (λ_ _ _ _ _=>(Eu (i:=0) (nd1 _) rfl (Or.inl rfl))) (EG Yd) (λ_ _ _ _ _=>Fw) (λ_ _ _ _ _=>(E9 (ixL K) (pv 0) E2))))),?_⟩;obtain⟨r,xs,pss,hh,n,rfl,hS,hp,ah,J,ak,ai,hb,an,al,ac,q⟩:=h;refine GL ⟨_,Z,r,xs,pss,hh,n,Z,hS,hp,ah,J,ak,ai,hb,an,al,ac,λw Hw ws sw hw ew aa=>⟨w,Z,⟨_,ku ew⟩,?_⟩⟩;have af:ws.length=(EY pss).length:=by rw[aa.length,bI,dH]
 refine HX (xs:=ws) (L3 Hw K pss λHw K pss i zs H'=>H'=Hw/\zs.length=i/\ED K Hw zs ((FJ pss).take i)) ⟨Z,Z,.nil⟩ (λi zs H' _ h=>⟨by rw[h.1];exact ku ew,h.2.1⟩) (ZH (ET Yl)) ?_ ?_
 ·rintro i v zs H' hv ⟨rfl,ae,Y⟩;have hi:i<ws.length:=(ZO.mp hv).1;obtain⟨rs,ad,a,us,rfl,ar,aq,ha,ag⟩:=(kB aa hv)
  have ao:rs=tab pss i:=by
   rw[bA,dI Yl]at ad;exact(Zu.inj ad).symm
  subst ao;have hl:=GS pss i Yl;obtain⟨x0,aj,am⟩:=(kC ag (Fv (l:=tab pss i) (i:=0) Yl));refine⟨_,Z,a,us,_,x0,Z,Z,ku ha,Ew (j:=0) aj,Z,by simp[ae],?_⟩
  have e:(FJ pss).take (i+1)=(FJ pss).take i++[(tab pss i).getD 0 0]:=by
   rw[cL]
   congr 1
   unfold FJ;rw[bA,dI Yl];rfl
  rw[e];exact Paired.snoc Y am
 rintro zs H' ⟨rfl,ae,Y⟩ p O;rw[af,<- IF,cN]at Y;exact q p _ zs (sw.trans (kA O)) (sw.free O) E3 (kE Y (kA O))
theorem K4:Eo kI ["points"] (El (top 56)):=fsc
theorem K8(F:Fun K "curve_through" "curve_through" (top 56) f fd)(YK:Fd P w K mg base 36 "by_steps" ["knots","steps"] (K2 K))(Y5:Fd P w K mg base 34 "knots_of" kI (Jq K))(YL:Fd P w K mg base 38 "steps_of" kI (MK K))(hT:kG P) :
 EF P w K mg base CX0 39 f fd kI (MI K):=by
 refine okA F K4 λao A outer s H vs Q E hr h=>?_;refine⟨_,(E5 (Er (Ex YK hr (Fl Y5 hr (pv 0)) (Fl YL hr (pv 0))))),?_⟩;obtain⟨r,xs,pss,hh,n,m,rfl,hS,hp,O,Y,ag,af,hb,ac,aj,aa,al,ae,hm,q⟩:=h;refine⟨_,Z,r,xs,pss,Z,hS,hp,O,Y,λw Hw ws sw hw ew ak=>?_⟩;refine⟨_,Z,r,xs,pss,hh,n,Z,hS.same sw,Gu.same hp sw,O,Y,ag,af,hb,ac,aj,aa,λt Ht zs st ht et ah=>?_⟩;have ad:=FZ pss;refine⟨w,t,ws,zs,kn pss,FJ pss,m,Z,ku (st _ _ ew),(Fu.same ak st).nums,ku et,ah,by rw[IF];exact ad,Yl,λc J=>(Qp ac c J).mono ae,al,Yl,λp Hp cs am J aq hg ai an=>?_⟩
 have ap:m*(kn pss).length<=m*12:=fG _ Yl;exact q p Hp cs ((sw.trans st).trans am) J Yl hg (λc J=>(ai c J).mono Yl) an
theorem FY:Eo ["_law_pen_here","_law_low","_law_wide"] ["_law_pen_here"] (El (top 68)):=fsc
theorem Kt(F:Fun K "_law_stretch" "_law_stretch" (top 68) f fd)(XH:Fd P w K mg base 34 "_law_number" kT (NJ 8))(XD:Fd P w K mg base 34 "_law_plus" kJ (Ge K (· + ·)))(Xx:Fd P w K mg base 33 "_law_draw" kP (Ji))(hT:kG P) :
 EF P w K mg base CX0 35 f fd kT (RX K):=by
 refine okA F FY λaz A outer s H vs Q E hr h=>?_
 refine⟨_,(E6 K (E7 (i:=1) FY (Fl XH hr (pv 0)))
  (E6 K (E7 (i:=2) FY (Fl XH hr (pv 0)))
  (E6 K (FU K (EA Lc (E9 (ixT K) (pv 2) E2) E2) (E5 (E7 (i:=2) FY (EU (E1 (Em EV E2 (E9 (ixT K) (pv 2) E2)) (E1 (E9 (ixT K) (pv 2) E2) E8))))) EK)
  (E6 K (FU K (EA Hf (E9 (ixT K) (pv 2) E2) E2) (E5 (E7 (i:=2) FY (EU (E1 E2 (E1 (Em EH E2 (Ex Xx hr (pv 0) E2)) E8))))) EK)
  (E5 (Er (EU (E1 (pv 1) (E1 (Ex XD hr (pv 1) (pv 2)) E8))))))))),?_⟩
 obtain⟨a,rfl,pn,q⟩:=h;have P2:2<=dl:=by decide
 refine⟨_,Z,a,Z,pn,λlo rl H1 m1 p1 ay ai ah=>?_⟩;refine⟨_,Z,a,Z,p1,λw ad H2 m2 p2 ac ao al=>?_⟩;have ak:Et K H2 (.ref rl) lo:=(kD ay).mv p1 m2
 try dsimp only
 refine J1 (L4 H2 a rl K λH2 a rl K O H'=>E4 H2 H'/\∃(r3:ce) (w3:Rat),O=[some (.ref a),some (.ref rl),some (.ref r3)]/\Et K H' (.ref r3) w3/\0<=w3/\RB 8 w3) (λnx J=>?_) ?_
 ·refine⟨_,Z,ad,_,_,_,Z,Z,kw ac,Z,_,_,Z,Z,_,Z,?_⟩;by_cases hw:w.num<0
  ·refine Ft (by rw[decide_eq_true hw]<;>rfl) ⟨_,Z,ad,_,_,_,Z,Z,kw ac,Z,_,_,Z,Z,_,Z,ad,_,_,_,Z,Z,kw ac,Z,P2,λt ht=>?_⟩
   have e:nT (-w) = .tup [.int (0-w.num),.int (w.den:Int)]:=by
    unfold nT;rw[fC,Rat.neg_den,Int.zero_sub]
   refine J _ _ ⟨kA ht,t,-w,Z,kD (by rw[E3,e]),HC (by rw[fC];lia),?_⟩
   exact⟨by rw[fC];exact Bd.neg ao,by rw[Rat.neg_den];exact al⟩
  ·exact F0 (by rw[decide_eq_false hw]<;>rfl) (J _ _ ⟨E4.refl _,ad,w,Z,kD ac,HC Yl,⟨ao,al⟩⟩)
 rintro O H3 an;refine FI an λs3 ag=>?_;refine HI ag λr3 w3 Y=>?_;clear ag;refine Kf Y λas aq h0 ax=>?_;clear Y;obtain rfl:=as
 try clear an
 have p3:=p2.sm s3;have ar:=ak.same s3;obtain⟨aA,e3,aw⟩:=(id aq);cases e3;refine NM (s:=ON _ _ _) (L4 a H3 rl K λa H3 rl K O H'=>Mv a H3 H'/\Pen H' a/\∃(r4:ce) (w4:Rat),O=[some (.ref a),some (.ref rl),some (.ref r4)]/\Et K H' (.ref r4) w4/\0<w4/\RB 8 w4) (λnx J=>?_) ?_
 ·refine⟨_,Z,r3,_,_,_,Z,Z,aw,Z,Z,_,Z,?_⟩;by_cases hz:w3.num=0
  ·refine Ft (by rw[decide_eq_true (by rw[hz]:V.int w3.num=V.int 0)]<;>rfl) ⟨_,Z,a,9,Z,p3,Yd,Yd,λd H4 d0 d1 o4 p4=>⟨_,_,Z,Z,P2,λt ht=>?_⟩⟩
   have hd:(1:Int)+d≠0:=by lia
   have e:nT (cx 1 (1+d)) = .tup [.int 1,.int (1+d)]:=by
    unfold nT;rw[<- Nm.top_msr hd,<- Nm.bottom_msr hd]
    have m1:Nm.msr 1 (1+d)=1:=by
     unfold Nm.msr;rw[if_neg Yl,Int.gcd_one_left];rfl
    rw[m1,Int.fdiv_one,Int.fdiv_one]
   refine J _ _ ⟨o4.mv.trans (Mv.new ht),p4.same ht,t,cx 1 (1+d),Z,kD (by rw[E3,e]),?_,?_⟩
   ·refine Jv (HC ?_) ?_
    ·have:=congrArg (λo:HO=>match o with | .tup (.int i::_)=>i | _=>0) e
     have e1:(cx 1 (1+d)).num=1:=this;rw[e1];decide
    ·have:=congrArg (λo:HO=>match o with | .tup (.int i::_)=>i | _=>0) e
     have e1:(cx 1 (1+d)).num=1:=this;rw[e1];decide
   ·exact⟨Bd.num (by unfold Bd;decide:Bd 8 1),Bd.den hd (by unfold Bd;lia:Bd 8 (1+d))⟩
  ·exact F0 (by rw[decide_eq_false (show ¬V.int w3.num=V.int 0 from λz=>hz (V.int.inj z))]<;>rfl) (J _ _ ⟨Mv.refl _ _,p3,r3,w3,Z,aq,Jv h0 hz,ax⟩)
 rintro O H4 ap;refine IC ap λm4 p4 ae=>?_;refine HI ae λr4 w4 aa=>?_;clear ae;refine Kf aa λam av aj au=>?_;clear aa;obtain rfl:=am
 try clear ap
 have af:=ar.mv p3 m4;refine⟨_,Z,_,Z,_,Z,_,_,_,_,8,8,Z,af,av,⟨ai,ah⟩,au,Yd,λu hu=>⟨P2,λt ht=>?_⟩⟩;have s5:E4 H4 (upd (upd H4 u (nT (lo+w4))) t (.tup [.ref rl,.ref u])):=(kA hu).trans (kA ht);refine q t rl u lo (lo+w4) _ ((((m1.trans m2).trans s3.mv).trans m4).trans s5.mv) (p4.sm s5) E3 (af.same s5) (kD ((kA ht) _ _ E3)) (Uo aj) (RB.mono ⟨ai,ah⟩ Yd) ((RB.plus ⟨ai,ah⟩ au).mono Yd)
theorem MV:Eo kJ ["_law_a","_law_b"] (El (top 69)):=fsc
theorem Nf(F:Fun K "_law_less" "_law_less" (top 69) f fd)(hT:kG P) :
 EF P w K mg base CX0 33 f fd kJ (KW K):=by
 refine okA F MV λac A outer s H vs Q E hr h=>?_;refine⟨_,(E5 (Er (Ho Lc (Em Es (E9 (ixT K) (pv 0) E2) (E9 (ixT K) (pv 1) E2)) (Em Es (E9 (ixT K) (pv 1) E2) (E9 (ixT K) (pv 0) E2)) (FP _)))),?_⟩;obtain⟨x,y,p,q,m,n,rfl,⟨r,rfl,Y⟩,⟨u,rfl,O⟩,hp,J,aa,k⟩:=h;refine⟨_,Z,r,_,_,_,Z,Z,Y,Z,_,Z,u,_,_,_,Z,Z,O,Z,_,_,Z,Z,kF hp.1 J.2,?_⟩;refine⟨_,Z,u,_,_,_,Z,Z,O,Z,_,Z,r,_,_,_,Z,Z,Y,Z,_,_,Z,Z,kF J.1 hp.2,_,_,Z,Z,?_⟩;have e:=Ql p q;show Q (.bl (decide (p.num*q.den<q.num*p.den))) H;rw[e];exact k
theorem GJ:Eo ["_law_pen_here","_law_points_here","_law_low","_law_high"] ["_law_pen_here","_law_points_here"] (El (top 70)):=fsc
theorem Ng(F:Fun K "_law_ends" "_law_ends" (top 70) f fd)(YM:Fd P w K mg base 35 "_law_stretch" kT (RX K))(YN:Fd P w K mg base 33 "_law_less" kJ (KW K))(Xx:Fd P w K mg base 33 "_law_draw" kP (Ji))(Xt:mg "len" = none)(hT:kG P) :
 EF P w K mg base CX0 36 f fd kZ (MP K):=by
 refine okA F GJ λav A outer s H vs Q E hr h=>?_
 refine⟨_,(E6 K (Iu (Fl YM hr (pv 0)) (pgT K (n:=2) rfl (HE (Eu (i:=2) GJ.nd rfl (Or.inl rfl)) (HE (Eu (i:=3) GJ.nd rfl (Or.inl rfl)) MZ))))
  (E6 K (FU K (PW.pt (Jj (EA GQ (EB K Xt (pv 1)) E2) (Ir (EA Hf (Ex Xx hr (pv 0) E2) E2)))) (E6 K (OY (i:=2) (j:=3) rfl GJ.nd rfl rfl Yd rfl rfl (E1 (E9 (ixT K) (E9 (ixT K) (pv 1) E2) E2) (E1 (E9 (ixT K) (E9 (ixT K) (pv 1) E2) E2) E8)) (by with_unfolding_all rfl))
  (E5 (FU K (OX (Ex YN hr (pv 3) (pv 2))) (E5 (OY (i:=2) (j:=3) rfl GJ.nd rfl rfl Yd rfl rfl (E1 (pv 3) (E1 (pv 2) E8)) (by with_unfolding_all rfl))) EK))) EK)
  (E5 (Er (EU (E1 (pv 2) (E1 (pv 3) E8))))))),?_⟩
 obtain⟨a,r,xs,pss,rfl,pn,hS,hP,nd,bk,q⟩:=h;have P2:2<=dl:=by decide
 refine⟨_,Z,a,Z,pn,λt rl rh lo hi H1 m1 p1 et O ae ad af J=>?_⟩;refine⟨t,_,Z,kw et,Z,_,_,Z,_,_,Z,Z,?_⟩;have aj:=hS.mv pn m1;have ao:=hP.mv pn m1;have hl:=hP.length
 try dsimp only
 refine J1 (L4 a H K r λa H K r al G=>∃(rl rh:ce) (lo hi:Rat),Mv a H G/\Pen G a/\Et K G (.ref rl) lo/\Et K G (.ref rh) hi/\lo<hi/\RB 20 lo/\RB 20 hi/\al=[some (.ref a),some (.ref r),some (.ref rl),some (.ref rh)]) (λnx ag=>?_) ?_
 ·refine⟨_,Z,r,xs,Z,.inr aj,_,_,Z,Z,_,Z,?_⟩;by_cases h2:(1:Int)<((xs.length:Nat):Int)
  case neg =>
   exact F0 (by rw[decide_eq_false h2]<;>rfl) (ag _ _ ⟨rl,rh,lo,hi,m1,p1,O,ae,ad,af,J,Z⟩)
  refine Ft (by rw[decide_eq_true h2]<;>rfl) ⟨_,Z,a,2,Z,p1,Yd,Yd,λd H2 d0 d1 o2 p2=>⟨Z,_,Z,?_⟩⟩
  have mz:=o2.mv;by_cases hd:V.int d=V.int 0
  case neg =>
   exact F0 (by rw[decide_eq_false hd]<;>rfl) (ag _ _ ⟨rl,rh,lo,hi,m1.trans mz,p2,Et.mv O p1 mz,Et.mv ae p1 mz,ad,af,J,Z⟩)
  rw[decide_eq_true hd];have ah:=aj.mv p1 mz;have am:=ao.mv p1 mz;have g0:xs[0]? = some (xs[0]'Yl):=cZ _;have g1:xs[1]? = some (xs[1]'Yl):=cZ _;obtain⟨c0,ac,b0,az,r0,e0,aq,ay,ap,ar⟩:=(kB am g0);obtain⟨c1,aa,b1,aw,r1,e1,as,ax,an,au⟩:=(kB am g1);rw[e0]at g0;rw[e1]at g1
  have ne:c0.getD 0 0≠c1.getD 0 0:=by
   match pss,ac,aa,nd with
   | x::y::l,ac,aa,nd =>
     cases ac;cases aa;rw[bZ,bZ,ZZ]at nd;exact λz=>nd.1 (by rw[z];exact ZJ)
  have k0:=bk c0 (bD ac);have k1:=bk c1 (bD aa);refine LX ?_;refine⟨_,Z,r,_,_,_,Z,Z,ah,Ew (j:=0) g0,b0,_,_,_,Z,Z,aq,Ew (j:=0) ap,_,Z,r,_,_,_,Z,Z,ah,Ew (j:=1) g1,b1,_,_,_,Z,Z,as,Ew (j:=0) an,?_⟩;have n0:Et K H2 (.ref r0) (c0.getD 0 0):=kD ar;have n1:Et K H2 (.ref r1) (c1.getD 0 0):=kD au;refine⟨_,_,Z,_,Z,_,Z,_,_,_,_,20,20,Z,n1,n0,k1,k0,Yd,⟨_,Z,?_⟩⟩;by_cases hlt2:c1.getD 0 0<c0.getD 0 0
  ·refine Ft (by rw[decide_eq_true hlt2]<;>rfl) ⟨_,Z,_,Z,_,_,Z,ag _ _ ⟨r1,r0,_,_,m1.trans mz,p2,n1,n0,hlt2,k1,k0,Z⟩⟩
  ·exact F0 (by rw[decide_eq_false hlt2]<;>rfl) (ag _ _ ⟨r0,r1,_,_,m1.trans mz,p2,n0,n1,by grind,k0,k1,Z⟩)
 rintro al G ai;refine LZ ai λrl rh lo hi Y=>?_;refine WV Y λm2 p2 O ae ad af J ak=>?_;clear Y;obtain rfl:=ak
 try clear ai
 refine⟨_,Z,_,Z,P2,λt ht=>q t rl rh lo hi _ (m2.trans (kA ht).mv) (p2.same ht) E3 (O.same (kA ht)) (ae.same (kA ht)) ad af J⟩
theorem Gf:Eo ["along","parts","ways","k"] ["along"] (El (top 35)):=fsc
theorem Le(F:Fun K "parts_along" "parts_along" (top 35) f fd)(XM:Fd P w K mg base 35 "over" kH (K0 K))(Xu:mg "range" = none)(Xt:mg "len" = none)(hT:kG P) :
 EF P w K mg base CX0 36 f fd ["along"] (ML K):=by
 refine okA F Gf λaq A outer s H vs Q E hr h=>?_
 refine⟨_,(E6 K (E7 (i:=1) Gf (ER E8))
  (E6 K (E7 (i:=2) Gf E2)
  (E6 K (Ff (K:=K) PassesOwn.never rfl (FD rfl Xu (E1 (EB K Xt (pv 0)) E8)) (Eu (i:=3) Gf.nd rfl (Or.inl rfl)) (E6 K (Gq (GW K PySem.F.plainAttrs_list PySem.F.slot_list_append PySem.F.type_list_append FQ (pv 1) (E1 (Ex XM hr (E9 (ixT K) (pv 0) (pv 3)) (EU (E1 (pv 2) (E1 E2 E8)))) E8)))
  (E5 (E7 (i:=2) Gf (Em (Gn hr hT) (Em Es (pv 2) (Em EV (Em EV (EB K Xt (pv 0)) E2) (pv 3))) (Em EH (pv 3) E2))))) Yr)
  (E5 (Er (pv 1)))))),?_⟩
 obtain⟨r,Y,n,rfl,⟨xs,hS,hn⟩,h1,ak,hb,as,ao,q⟩:=h;have P0:0<=dl:=by decide
 have P2:2<=dl:=by decide
 have hl:=hn.length;refine⟨P0,λp hp=>?_⟩;refine⟨_,Z,r,xs,Z,.inr (hS.same (kA hp)),_,Z,Yl,Yl,?_⟩;rw[show((xs.length:Nat):Int).toNat=Y.length by lia]
 refine G4 (n:=Y.length) (L5 H r p Y K λH r p Y K k σ H'=>E4 H H'/\∃zs z,σ=[some (.ref r),some (.ref p),some (.int ((ch (Y.length-1) k:Nat):Int)),z]/\H' p=some (.lst zs)/\ED K H' zs ((Zz k).map λk=>Y.getD k 0 / ((ch (Y.length-1) k:Nat):Rat)))
  ⟨kA hp,[],none,by rw[HU];rfl,E3,.nil⟩ ?_ ?_
 ·rintro k σ H' hk ae;refine FI ae λsm ac=>?_;refine HI ac λzs z J=>?_;clear ac;refine IC J λah ep hz=>?_;clear J;obtain rfl:=ah
  try clear ae
  have ar:zs.length=k:=by rw[hz.length,bI,dH]
  obtain⟨x,hx,am⟩:=(kC hn (Fv hk));have aj:atI xs (0+(k:Int))=some x:=by rw[show 0+(k:Int)=((k:Nat):Int) by lia];exact Ew hx
  have ap:=hS.same sm
  have an : -(2 ^ 64)<((ch (Y.length-1) k:Nat):Int)/\((ch (Y.length-1) k:Nat):Int)<2 ^ 64:=by
   have h1:=QL (Y.length-1) k;have h2:2 ^ (Y.length-1)<=2 ^ 20:=d5 Yd Yl
   lia
  refine⟨_,Z,.inl ⟨Z,_,ku ep⟩,_,Z,_,Z,r,xs,_,x,Z,Z,ap,aj,_,Z,P2,λt ht=>?_⟩;have af:Et K (upd H' t (.tup [.int ((ch (Y.length-1) k:Nat):Int),.int 1])) (.ref t) ((ch (Y.length-1) k:Nat):Rat):=kD (by rw[E3,VG])
  have st:E4 H' (upd H' t (.tup [.int ((ch (Y.length-1) k:Nat):Int),.int 1])):=kA ht;generalize upd H' t (.tup [.int ((ch (Y.length-1) k:Nat):Int),.int 1])=Ht at af st ⊢;refine⟨_,_,_,_,n,22,Z,(am.same sm).same st,af,V1 Yl,hb _ (bD (Fv hk)),V0 Yl,Yl,λu hu=>?_⟩;have su:=st.trans (kA (o:=nT (Y.getD k 0 / ((ch (Y.length-1) k:Nat):Rat))) hu);have eu:(upd Ht u (nT (Y.getD k 0 / ((ch (Y.length-1) k:Nat):Rat)))) u=some (nT (Y.getD k 0 / ((ch (Y.length-1) k:Nat):Rat))):=E3;generalize upd Ht u (nT (Y.getD k 0 / ((ch (Y.length-1) k:Nat):Rat)))=Hu at su eu ⊢;have ai:=su _ _ ep;refine⟨p,zs,.ref u,Z,Z,ai,Zw (by lia:zs.length<300) Yd,?_⟩
  have sP:E4 H (upd Hu p (.lst (zs++[.ref u]))):=(sm.trans su).put hp;refine⟨_,Z,_,Z,r,xs,Z,.inr (hS.same sP),_,_,Z,Z,_,Z,_,_,Z,Z,_,_,Z,Z,.inl an,_,Z,_,_,Z,Z,_,_,Z,Z,(show(0:Int)+(k:Int)+1≠0 by lia),?_⟩
  refine⟨sP,zs++[.ref u],some (.int (0+(k:Int))),?_,E3,?_⟩
  ·have e:=UA (n:=Y.length-1) (k:=k) Yl
   have e2:(((ch (Y.length-1) k:Nat):Int)*((xs.length:Int)-1-(0+(k:Int)))).fdiv (0+(k:Int)+1)=((ch (Y.length-1) (k+1):Nat):Int):=by
    rw[<- e,show(xs.length:Int)-1-(0+(k:Int))=((Y.length-1:Nat):Int)-(k:Int) by lia,show 0+(k:Int)+1=(k:Int)+1 by lia]
   show[some (V.ref r),some (V.ref p),some (V.int ((((ch (Y.length-1) k:Nat):Int)*((xs.length:Int)-1-(0+(k:Int)))).fdiv (0+(k:Int)+1))),some (V.int (0+(k:Int)))]=_;rw[e2]
  ·rw[fm,cM];exact ED.put (Paired.snoc (kE hz su) (kD eu)) ai
 ·rintro σ H' ag;refine FI ag λsm aa=>?_;refine HI aa λzs z O=>?_;clear aa;refine IC O λad ep hz=>?_;clear O;obtain rfl:=ad
  try clear ag
  exact⟨_,Z,q p H' zs sm ep hz (Sg ak ao hb)⟩
theorem OV:Eo kH ["a","b"] (El (top 13)):=fsc
theorem P9(F:Fun K "is_less" "is_less" (top 13) f fd)(hT:kG P) :
 EF P w K mg base CX0 33 f fd kH (KW K):=by
 refine okA F OV λac A outer s H vs Q E hr h=>?_;refine⟨_,(E5 (Er (Ho Lc (Em Es (E9 (ixT K) (pv 0) E2) (E9 (ixT K) (pv 1) E2)) (Em Es (E9 (ixT K) (pv 1) E2) (E9 (ixT K) (pv 0) E2)) (FP _)))),?_⟩;obtain⟨x,y,p,q,m,n,rfl,⟨r,rfl,Y⟩,⟨u,rfl,O⟩,hp,J,aa,k⟩:=h;refine⟨_,Z,r,_,_,_,Z,Z,Y,Z,_,Z,u,_,_,_,Z,Z,O,Z,_,_,Z,Z,kF hp.1 J.2,?_⟩;refine⟨_,Z,u,_,_,_,Z,Z,O,Z,_,Z,r,_,_,_,Z,Z,Y,Z,_,_,Z,Z,kF J.1 hp.2,_,_,Z,Z,?_⟩;have e:=Ql p q;show Q (.bl (decide (p.num*q.den<q.num*p.den))) H;rw[e];exact k
theorem Fj:Eo ["curve","a","b","under","line","bottom","tops","scale","top"] ["curve","a","b"] (El (top 26)):=fsc
theorem N4(F:Fun K "with_line" "with_line" (top 26) f fd)(Xv:Fd P w K mg base 34 "bottom_of" kL (IG K))(Xw:Fd P w K mg base 33 "tops_over" kN (HA K))(XA:Fd P w K mg base 35 "curve_over" kW (Gd K))(XR:Fd P w K mg base 33 "whole_product" kU (KS K))(XN:mg "reversed" = none)(hT:kG P) :
 EF P w K mg base CX0 36 f fd ["curve","a","b"] (OQ K):=by
 refine okA F Fj λa2 A outer s H vs Q E hr h=>?_
 refine⟨_,(E6 K (E7 (i:=3) Fj (Fl Xv hr (ER (E1 (pv 2) (E1 (pv 1) E8)))))
  (E6 K (E7 (i:=4) Fj (Ex Xw hr (ER (E1 (pv 2) (E1 (pv 1) E8))) (pv 3)))
  (E6 K (E7 (i:=5) Fj (Fl Xv hr (pv 0)))
  (E6 K (E7 (i:=6) Fj (ER E8))
  (E6 K (E7 (i:=7) Fj E2)
  (E6 K (Ff (K:=K) PassesOwn.never rfl (UM K rfl XN (Ex Xw hr (pv 0) (pv 5))) (Eu (i:=8) Fj.nd rfl (Or.inl rfl)) (E6 K (E7 (i:=6) Fj (Ex XR hr (pv 6) (pv 4)))
  (E6 K (Iu (Em EH (E9 (ixL K) (pv 6) E2) (Em Es (pv 8) (pv 7))) (K5 (pv 6) E2 Ib))
  (E5 (E7 (i:=7) Fj (Em Es (pv 7) (pv 3)))))) Yr)
  (E5 (Er (Ex XA hr (GP rfl (N:=["top","under"]) (nt:=1) (js:=[3]) (Gv Fj) (piS K (pv 6)) (λ_ _ _ _ _=>(Eu (i:=0) (show List.Nodup (["top","under"]:km) from by decide +kernel) rfl (Or.inl rfl))) (EG Yd) (λ_ _ _ _ _=>Fw) (λ_ _ _ _ _=>(Em Es (pv 0) (pv 1)))) (Em Es (pv 5) (pv 7))))))))))),?_⟩
 obtain⟨r,J,rb,qs,a,b,n,rfl,⟨xs,hS,hn⟩,⟨_,aK,ha⟩,⟨_,aV,hb⟩,hB,aH,aG,aA,ay,q⟩:=h;cases aK;cases aV;have hl:=hn.length;have P2:2<=dl:=by decide
 have bB:∀c∈[b,a],RB n c:=λc O=>by
  rcases ZL.mp O with z | z
  ·rw[z];exact aG
  ·rw[cY.mp z];exact aH
 have aZ:n*qs.length<=6250*16:=eE aA ay;refine⟨_,Z,_,Z,P2,λl1 h1=>?_⟩;have az:ED K (upd H l1 (.lst [.ref rb,.ref J])) [.ref rb,.ref J] [b,a]:=.cons ⟨rb,Z,ky hb (kA h1)⟩ (.cons ⟨J,Z,ky ha (kA h1)⟩ .nil);refine⟨true,l1,_,[b,a],n,Z,ku E3,az,(λc O=>(bB c O).2),by show n*4<=_;lia,λU a1 aw aa=>?_⟩
 have aP:n*([b,a]:kh).length+1=n*2+1:=rfl;rw[aP]at aa;refine⟨_,Z,_,Z,P2,λl2 h2=>?_⟩;have aU:ED K (upd (upd H l1 (.lst [.ref rb,.ref J])) l2 (.lst [.ref rb,.ref J])) [.ref rb,.ref J] [b,a]:=kE az (kA h2);refine⟨_,Z,true,l2,_,[b,a],U,n*2+1,n,Z,ku E3,aU,aa,(λc O=>(bB c O).1),Yl,(by decide:2<=1000),λll h3=>?_⟩
 have s3:E4 H (upd (upd (upd H l1 (.lst [.ref rb,.ref J])) l2 (.lst [.ref rb,.ref J])) ll (.lst (([b,a].map (Ep U)).map V.int))):=((kA h1).trans (kA h2)).trans (kA h3);have ar:(upd (upd (upd H l1 (.lst [.ref rb,.ref J])) l2 (.lst [.ref rb,.ref J])) ll (.lst (([b,a].map (Ep U)).map V.int))) ll=some (.lst (([b,a].map (Ep U)).map V.int)):=E3;generalize upd (upd (upd H l1 (.lst [.ref rb,.ref J])) l2 (.lst [.ref rb,.ref J])) ll (.lst (([b,a].map (Ep U)).map V.int))=H3 at s3 ar ⊢
 have av:∀x,Cv.evI ([b,a].map (Ep U)) x=(a*x+b)*(U:Rat):=λx=>by
  show((Ep U b:Int):Rat)+x*(((Ep U a:Int):Rat)+x*0)=_;rw[GR (aw b ZJ),GR (aw a (ZK _ ZJ))]
  grind
 have aF:∀t∈[b,a].map (Ep U),Bd (n*3+1) t:=λt ht=>by
  obtain⟨c,O,rfl⟩:=(eJ.mp ht);exact((bB c O).1.mul (aa.fdiv (y:=c.den))).mono Yl
 refine⟨_,Z,false,r,xs,qs,n,Z,ky hS s3,kE hn s3,(λc O=>(hB c O).2),by rw[dA];lia,λB a0 aO ah=>?_⟩
 refine⟨(by decide:0<=dl),λtp h4=>?_⟩
 have s4:E4 H (upd H3 tp (.lst [])):=s3.trans (kA h4);refine⟨_,Z,_,Z,false,r,xs,qs,B,n*qs.length+1,n,Z,ky hS s4,kE hn s4,ah,(λc O=>(hB c O).1),Yl,Yl,λl h5=>⟨_,Z,l,_,Z,ku E3,?_⟩⟩
 have a4:H l=none:=by
  cases z:H l with
  | none=>rfl
  | some u=>rw[s4 l u z]at h5;cases h5
 have s5:E4 H (upd (upd H3 tp (.lst [])) l (.lst ((qs.map (Ep B)).map V.int))):=s4.trans (kA h5);have ak:=(kA (o:=.lst ((qs.map (Ep B)).map V.int)) h5) _ _ ((kA (o:=.lst []) h4) _ _ ar);have aj:=(kA (o:=.lst ((qs.map (Ep B)).map V.int)) h5) _ _ (E3 (H:=H3) (a:=tp) (o:=.lst []));have aB:(upd (upd H3 tp (.lst [])) l (.lst ((qs.map (Ep B)).map V.int))) l=some (.lst ((qs.map (Ep B)).map V.int)):=E3;have tl:(List.map V.int (qs.map (Ep B))).length=qs.length:=by rw[bI,bI]
 have tB:∀c∈qs,Bd (n*qs.length+n+1) (Ep B c):=λc O=>((hB c O).1.mul (ah.fdiv (y:=c.den))).mono Yl;generalize a3:upd (upd H3 tp (.lst [])) l (.lst ((qs.map (Ep B)).map V.int))=H5 at s5 ak aj aB ⊢
 refine Qz (L11 H5 r J rb U ll B qs a b n λH5 r J rb U ll B qs a b n i σ H'=>E4 H5 H'/\∃(tp:ce) (ts:ki) (s:Int) (z:Option V),σ=[some (.ref r),some (.ref J),some (.ref rb),some (.int U),some (.ref ll),some (.int B),some (.ref tp),some (.int s),z]/\H' tp=some (.lst (ts.map V.int))/\ts.length=i/\s≠0 /\
  (∀x,Cv.evI ts x*(U:Rat)=Cv.ev (((qs.map (Ep B)).map λt:Int=>(t:Rat)).drop (qs.length-i)) (a*x+b)*(s:Rat))/\(∀t∈ts,Bd (3*(n*i)+22*i+n*qs.length+3*n+10) t)/\Bd (2*(n*i)+i+1) s)
  ⟨E4.refl _,tp,[],1,none,Z,aj,Z,Yd,λx=>?_,(λ_ h=>nomatch h),?_⟩ (λi σ H' _ p=>ku (p.1 _ _ aB)) ?_ ?_
 ·rw[du,fQ (by rw[bI,bI];exact ZR _)]
  show(0:Rat)*_=0*_
  grind
 ·exact(by unfold Bd;decide:Bd 1 1).mono Yl
 ·rintro i v σ H' hi hv as;refine FI as λsm ag=>?_;refine LZ ag λao ts s z ac=>?_;clear ag;refine RD ac λam al ai an he af Y=>?_;clear ac;obtain rfl:=am
  try clear as
  rw[tl]at hi hv;have hj:qs.length-1-i<qs.length:=by lia
  rw[bA,bA,cZ hj]at hv;cases hv;have aR:qs[qs.length-1-i]∈qs:=d4 hj;have bt:=tB _ aR;have a5:n*i<=6250*16:=eE aA Yl;have aY:n*(i+1)=n*i+n:=by rw[dA,eS]
  refine⟨_,Z,_,Z,ao,ll,ts,[b,a].map (Ep U),3*(n*i)+22*i+n*qs.length+3*n+10,n*3+1,Z,ku al,ku (sm _ _ ak),(by decide:1<=2),Yl,(by decide:2<=1000),af,aF,Yl,λpr H6 ps s6 aX aE aL aJ ax=>?_⟩
  have au:ps.length=i+1:=by rw[aL,ai];rfl
  have h0:ps[0]? = some ps[0]:=cZ Yl;have aW:Fh (Ep B qs[qs.length-1-i]) s:=kF bt Y Yl;refine⟨_,Z,pr,_,_,_,Z,Z,ku aE,GA h0 rfl,_,Z,_,Z,_,_,Z,Z,aW,_,_,Z,Z,?_⟩;refine⟨_,Z,pr,_,_,0,Z,Z,aE,JK (by rw[bI];lia) rfl,?_⟩
  refine⟨_,Z,_,Z,_,_,Z,Z,kF Y aa Yl,?_⟩
  have aN:E4 H5 (upd H6 pr (.lst ((ps.map V.int).set 0 (.int (ps[0]+Ep B qs[qs.length-1-i]*s))))):=λbb u zz=>by
   have z1:=sm bb u zz;rw[EC (Ez z1 aX)];exact s6 bb u z1
  refine⟨aN,pr,ps.set 0 (ps[0]+Ep B qs[qs.length-1-i]*s),s*U,_,Z,?_,by rw[bR];exact au,cD an Yl,λx=>?_,λt ht=>?_,?_⟩
  ·rw[E3,cK]
  ·rw[Cv.evI_set x ps 0 _ _ h0,aJ x,av x,cG];have hd:qs.length-i=(qs.length-(i+1))+1:=by lia
   have aD:qs.length-(i+1)<((qs.map (Ep B)).map λt:Int=>(t:Rat)).length:=by rw[bI,bI];lia
   rw[List.drop_eq_getElem_cons aD,<- hd]
   have hg:((qs.map (Ep B)).map λt:Int=>(t:Rat))[qs.length-(i+1)]=((Ep B qs[qs.length-1-i]:Int):Rat):=by
    rw[fH,fH]
    congr 3
    lia
   rw[hg];have h6:=he x;show(Cv.evI ts x*((a*x+b)*(U:Rat))+((Ep B qs[qs.length-1-i]*s:Int):Rat)*1)*(U:Rat)=(_+(a*x+b)*_)*((s*U:Int):Rat);rw[cF,cF]
   grind
  ·rcases fP ht with zz | zz
   ·exact(ax t zz).mono Yl
   ·subst zz;have b1:=(ax _ (d4 (by lia:0<ps.length))).mono (n:=3*(n*i)+22*i+n*qs.length+3*n+10+(n*3+1)+20) Yl
    have b2:=(bt.mul Y).mono (n:=3*(n*i)+22*i+n*qs.length+3*n+10+(n*3+1)+20) Yl;exact(Bd.add b1 b2).mono Yl
  ·exact(Y.mul aa).mono Yl
 ·rintro σ H' aC;refine FI aC λsm ae=>?_;refine LZ ae λao ts s z ad=>?_;clear ae;refine RD ad λaq al ai an he af Y=>?_;clear ad;obtain rfl:=aq
  try clear aC
  rw[tl]at ai he Y af;refine Pg (b:=true) (a:=ao) (xs:=ts.map V.int) rfl (λi zs H2=>H2=H'/\zs=((ts.take i).map (· * U)).map V.int) ⟨Z,Z⟩ (λi zs H2 hi p=>⟨by rw[p.1];exact ku al,by rw[p.2,bI,bI,b9];rw[bI]at hi;lia⟩) (by rw[bI,ai];exact ZH (ET Yl)) ?_ ?_
  ·rintro i v zs H2 hv ⟨rfl,rfl⟩;rw[bA]at hv;cases et:ts[i]? with
   | none=>rw[et]at hv;cases hv
   | some t =>
     rw[et]at hv;cases hv;refine⟨_,Z,_,Z,_,_,Z,Z,kF (af t (bD et)) aa Yl,Z,?_⟩;rw[cL,et,cM,cM]
     rfl
  rintro zs H2 ⟨rfl,rfl⟩ p hp;rw[bI,cN];have ap:B*s≠0:=cD Yl an;refine⟨_,Z,_,Z,_,_,Z,Z,kF ah Y Yl,?_⟩;refine⟨p,ts.map (· * U),B*s,Z,ku E3,ap,by rw[bI];lia,λu H6 s6 c6=>?_⟩
  refine q u H6 _ ((s5.trans (sm.trans (kA hp))).trans s6) c6 (by have:=Cv.strip_length ((ts.map (· * U)).map λt=>cx t (B*s));rw[bI,bI]at this;lia) (EL _) (λc O=>?_) λx=>?_
  ·have aM:=Cv.strip_mem _ c O;obtain⟨t',aT,rfl⟩:=(eJ.mp aM);obtain⟨t,ht,rfl⟩:=(eJ.mp aT);exact RB.div (m:=0) (((af t ht).mul aa).mono Yl) ((ah.mul Y).mono Yl) ap
  rw[Cv.ev_strip]
  have e:((ts.map (· * U)).map λt=>cx t (B*s))=(ts.map λt:Int=>(t:Rat)).map (· * ((U:Rat) / ((B*s:Int):Rat))):=by
   rw[dN,dN];refine dO λt _=>?_;show cx (t*U) (B*s)=(t:Rat)*((U:Rat) / ((B*s:Int):Rat));rw[cB,cF,fc,fc]
   grind
  rw[e,Cv.ev_scale];have h7:=he x;rw[dZ,dt,HQ aO]at h7;show Cv.evI ts x*_=_;have aS:((B*s:Int):Rat)≠0:=Nm.cast_ne ap;have O:((B*s:Int):Rat)=(B:Rat)*(s:Rat):=cF ..;have h8:((B*s:Int):Rat)*((B*s:Int):Rat)⁻¹=1:=dC _ aS;rw[fc,<- dB,h7,dB (Cv.ev qs (a*x+b)),<- O,dB,h8,dD]
theorem FG:Eo ["curve","low","high","parts","bottom","row","heights"] ["curve","low","high"] (El (top 36)):=fsc
theorem LP(F:Fun K "heights_of" "heights_of" (top 36) f fd)(YO:Fd P w K mg base 36 "parts_along" ["along"] (ML K))(Xv:Fd P w K mg base 34 "bottom_of" kL (IG K))(Xw:Fd P w K mg base 33 "tops_over" kN (HA K))(YQ:Fd P w K mg base 33 "is_less" kH (KW K))(YR:Fd P w K mg base 36 "with_line" ["curve","a","b"] (OQ K))(XZ:Fd P w K mg base 35 "minus" kH (Ge K (· - ·)))(Xy:Fd P w K mg base 34 "number_of" kR (HB))(Xt:mg "len" = none)(Xu:mg "range" = none)(aa:mg "NOUGHT" = some (.ref O))(ac:∀H:Hp,Et K H (.ref O) (0))(hT:kG P) :
 EF P w K mg base CX0 37 f fd kK (MO K):=by
 refine okA F FG λa1 A outer s H vs Q E hr h=>?_
 refine⟨_,(E6 K (FU K (S9 (OX (Ex YQ hr (pv 1) (pv 2)))) (E5 Ie) EK)
  (E6 K (FU K (EA Hf (EB K Xt (pv 0)) E2) (E5 (Er (ER (E1 (Jz (v:=.ref O) rfl aa rfl) E8)))) EK)
  (E6 K (E7 (i:=3) FG (Fl YO hr (UN YR hr (pv 0) (Ex XZ hr (pv 2) (pv 1)) (pv 1))))
  (E6 K (E7 (i:=4) FG (Fl Xv hr (pv 3)))
  (E6 K (E7 (i:=5) FG (Ex Xw hr (pv 3) (pv 4)))
  (E6 K (E7 (i:=6) FG (ER E8))
  (E6 K (GK PassesOwn.never (EA GQ (EB K Xt (pv 5)) E2) (E6 K (Gq (GW K PySem.F.plainAttrs_list PySem.F.slot_list_append PySem.F.type_list_append FQ (pv 6) (E1 (Ex Xy hr (E9 (ixL K) (pv 5) E2) (pv 4)) E8)))
  (E5 (E7 (i:=5) FG (GP rfl (N:=["k","row"]) (nt:=1) (js:=[5]) (Gv FG) (FD rfl Xu (E1 (Em EV (EB K Xt (pv 5)) E2) E8)) (λ_ _ _ _ _=>(Eu (i:=0) (show List.Nodup (["k","row"]:km) from by decide +kernel) rfl (Or.inl rfl))) (EG Yd) (λ_ _ _ _ _=>Fw) (λ_ _ _ _ _=>(Em EH (E9 (ixL K) (pv 1) (pv 0)) (E9 (ixL K) (pv 1) (Em EH (pv 0) E2)))))))))
  (E5 (Er (pv 6)))))))))),?_⟩
 obtain⟨c,rl,rh,cs,lo,hi,rfl,hc,gc,ao,aG,aq,aR,ah,au,h7,q⟩:=h;have P0:0<=dl:=by decide
 have P1:1<=dl:=by decide
 refine⟨_,Z,_,Z,_,_,_,_,100,100,Z,ao,aG,ah,au,Yd,⟨_,Z,?_⟩⟩;refine F0 (by rw[decide_eq_true aq]<;>rfl) ?_
 obtain⟨xs,hS,aO⟩:=(id hc);have aS:=aO.length;refine⟨_,Z,c,xs,Z,.inr hS,Z,_,Z,?_⟩;by_cases hnil:cs=[]
 ·rw[decide_eq_true (by rw[aS,hnil];rfl:V.int (xs.length:Int)=V.int 0)]
  have e:hts cs lo hi=[0]:=by unfold hts;rw[if_pos hnil]
  rw[e]at q;refine LX ⟨P1,λp hp=>q p _ [.ref O] (kA hp) hp E3 (.cons (ac _) .nil) λc hc=>?_⟩;rw[cY.mp hc];exact RB.zero Yd
 have aV:0<cs.length:=cI.mpr hnil;refine F0 (by rw[decide_eq_false (show ¬V.int (xs.length:Int)=V.int 0 from λz=>by have:=V.int.inj z;lia)]<;>rfl) ?_
 refine⟨_,Z,_,Z,_,Z,_,_,_,_,100,100,Z,aG,ao,au,ah,Yl,λd hd=>?_⟩;have s1:E4 H (upd H d (nT (hi-lo))):=kA hd;have ay:Et K (upd H d (nT (hi-lo))) (.ref d) (hi-lo):=kD E3;generalize upd H d (nT (hi-lo))=H1 at s1 ay ⊢
 have aP:hi-lo≠0:=λz=>by
  have e:hi=lo:=by grind
  rw[e]at aq;exact absurd aq (Rat.lt_irrefl)
 refine⟨_,Z,c,d,rl,cs,hi-lo,lo,6001,Z,hc.same s1,ay,ao.same s1,λq hq=>(aR q hq).mono Yl,(au.minus ah).mono Yl,ah.mono Yl,Yd,Yl,λal H2 rs s2 aJ aZ hg aH aN=>?_⟩;have aF:rs=GF (hi-lo) lo cs:=EO hg (Mq aP gc) λx=>by rw[aN x,JN]
 have a0:rs.length=cs.length:=by rw[aF,GD]
 have aU:∀q∈rs,RB 126200 q:=λq hq=>(aH q hq).mono Yl;refine⟨al,rs,126200,Z,aJ,Yl,Yl,aU,Yd,Yd,λpt H3 zs s3 aE an ag=>?_⟩;have eh:hts cs lo hi=Lr rs:=by unfold hts;rw[if_neg hnil,aF]
 have pl:=HW rs;obtain⟨ps,aD⟩:∃ps,ps=Gm rs:=⟨_,Z⟩;rw[<- aD]at an ag pl;have aL:ps.length<=4:=by lia
 have as:126222*ps.length<=126222*4:=fG _ aL;refine⟨_,Z,true,pt,zs,ps,126222,Z,ku aE,an,(λc hc=>(ag c hc).2),by rw[dA];lia,λB aX aM ap=>?_⟩
 have hB:B≠0:=by lia
 refine⟨_,Z,_,Z,true,pt,zs,ps,B,126222*ps.length+1,126222,Z,ku aE,an,ap,(λc hc=>(ag c hc).1),Yl,Yl,λr0 aA=>?_⟩;obtain⟨T,aj⟩:∃T,T=ps.map (Ep B):=⟨_,Z⟩;rw[<- aj];have tl:T.length=ps.length:=by rw[aj,bI]
 have tB:∀t∈T,Bd 632000 t:=λt ht=>by
  rw[aj]at ht;obtain⟨c,hc,rfl⟩:=(eJ.mp ht);exact((ag c hc).1.mul (ap.fdiv (y:=c.den))).mono Yl
 have tb:T.map (λt=>cx t B)=ps:=by rw[aj];exact Wg hB aM
 refine⟨P0,λp hp=>?_⟩;have aC:=(s1.trans s2).trans s3;have aB:(upd H3 r0 (.lst (T.map V.int))) r0=some (.lst (T.map V.int)):=E3;have rp:r0≠p:=Ez aB hp;have s4:E4 H (upd (upd H3 r0 (.lst (T.map V.int))) p (.lst [])):=(aC.trans (kA aA)).trans (kA hp);have az:H p=none:=(aC.trans (kA (o:=.lst (T.map V.int)) aA)).free hp
 refine PL (L9 H c rl rh pt B p T K λH c rl rh pt B p T K σ H'=>E4 H H'/\∃(rr:ce) (j:Nat) (ys:ko),σ=[some (.ref c),some (.ref rl),some (.ref rh),some (.ref pt),some (.int B),some (.ref rr),some (.ref p)]/\rr≠p/\H' rr=some (.lst ((aIN j T).map V.int))/\H' p=some (.lst ys)/\ED K H' ys ((Zz j).map λi=>cx ((aIN i T).getD 0 0) B)/\j<=T.length) (λ_ H'=>match H' p with | some (.lst xs)=>1000-xs.length | _=>0)
  ⟨s4,r0,0,[],Z,rp,(kA hp) _ _ aB,E3,.nil,ZU _⟩ ?_
 rintro σ H' av;refine FI av λsm ad=>?_;refine Kd ad λrr j ys J=>?_;clear ad;refine Pq J λar aK er ep ai hj=>?_;clear J;obtain rfl:=ar
 try clear av
 have aW:ys.length=j:=by rw[ai.length,bI,dH]
 have aw:(aIN j T).length=T.length-j:=J8 T j;have aT:=Pw tB j;generalize ak:aIN j T=Y at er aw aT;have a2:(Y.map V.int).length=T.length-j:=by rw[bI];exact aw
 refine⟨_,Z,rr,_,Z,.inl (ku er),_,_,Z,Z,_,Z,?_⟩;by_cases hjc:j<T.length
 ·refine Ft (by rw[decide_eq_true (show(0:Int)<(((Y.map V.int).length:Nat):Int) by lia)]<;>rfl) (PJ ?_)
  have g0:=Fo (l:=Y) (i:=0) Yl;refine⟨_,Z,.inl ⟨Z,_,ku ep⟩,_,Z,rr,_,_,_,Z,Z,ku er,GA g0 rfl,_,Z,Y.getD 0 0,B,Z,hB,λu hu=>?_⟩;have su:E4 H' (upd H' u (nT (cx (Y.getD 0 0) B))):=kA hu;have eu:(upd H' u (nT (cx (Y.getD 0 0) B))) u=some (nT (cx (Y.getD 0 0) B)):=E3;generalize upd H' u (nT (cx (Y.getD 0 0) B))=Hu at su eu ⊢;have ax:=su _ _ ep;refine⟨p,ys,.ref u,Z,Z,ax,Zw (by lia:ys.length<300) Yd,?_⟩
  have sP:E4 H (upd Hu p (.lst (ys++[.ref u]))):=(sm.trans su).put az;have af:(upd Hu p (.lst (ys++[.ref u]))) rr=some (.lst (Y.map V.int)):=by rw[EC aK];exact su _ _ er
  have ae:(upd Hu p (.lst (ys++[.ref u]))) p=some (.lst (ys++[.ref u])):=E3
  have am:ED K (upd Hu p (.lst (ys++[.ref u]))) (ys++[.ref u]) ((Zz (j+1)).map λi=>cx ((aIN i T).getD 0 0) B):=by
   rw[fm,cM];refine ED.put (Paired.snoc (kE ai su) (kD ?_)) ax;show Hu u=some (nT (cx ((aIN j T).getD 0 0) B));rw[ak];exact eu
  generalize upd Hu p (.lst (ys++[.ref u]))=HP at sP af ae am ⊢;refine GL ⟨_,Z,rr,_,Z,.inl (ku af),_,_,Z,Z,_,Z,Yl,Yl,?_⟩;rw[show(((Y.map V.int).length:Int)-1).toNat=Y.length-1 by lia]
  refine Ph (L2 HP Y λHP Y i zs H2=>H2=HP/\zs=((Zz i).map λj=>Y.getD j 0+Y.getD (j+1) 0).map V.int) ⟨Z,Z⟩ (λi zs H2 _ h=>by rw[h.2,bI,bI,dH]) (ZH (ET Yl)) ?_ ?_
  ·rintro i zs H2 hi ⟨rfl,rfl⟩;have g1:=Fo (l:=Y) (i:=i+1) Yl;have g0:=Fo (l:=Y) (i:=i) Yl;refine⟨_,Z,_,Z,rr,_,_,_,Z,Z,ku af,GA g0 Yl,_,Z,_,Z,_,_,Z,Z,rr,_,_,_,Z,Z,ku af,GA g1 Yl,_,_,Z,Z,Z,?_⟩;rw[fm,cM,cM]
   rfl
  rintro zs H2 ⟨rfl,rfl⟩ nl as;have np:nl≠p:=(Ez ae as).symm
  have e0:((Zz (Y.length-1)).map λj=>Y.getD j 0+Y.getD (j+1) 0)=aIN (j+1) T:=by
   show _=aI (aIN j T);rw[ak];rfl
  rw[e0];have sn:E4 H2 (upd H2 nl (.lst ((aIN (j+1) T).map V.int))):=kA as;refine⟨⟨sP.trans sn,nl,j+1,ys++[.ref u],Z,np,E3,sn _ _ ae,kE am sn,Yl⟩,?_⟩;show(match (upd H2 nl (.lst ((aIN (j+1) T).map V.int))) p with | some (.lst xs)=>1000-xs.length | _=>0)<(match H' p with | some (.lst xs)=>1000-xs.length | _=>0)
  rw[sn _ _ ae,ep];show 1000-(ys++[V.ref u]).length<1000-ys.length;rw[bH,bW]
  lia
 ·rw[decide_eq_false (by lia:¬(0:Int)<(((Y.map V.int).length:Nat):Int))]
  have ej:j=T.length:=by lia
  have eq:((Zz j).map λi=>cx ((aIN i T).getD 0 0) B)=Lr rs:=by
   unfold Lr;rw[ej,tl,pl];refine dO λi _=>?_;rw[<- aD,<- tb,QU hB,SQ]
  rw[eq]at ai;rw[eh]at q;refine IB ⟨_,Z,q p H' ys sm az ep ai λc hc=>?_⟩;rw[<- eq]at hc;obtain⟨i,hi,rfl⟩:=(eJ.mp hc);have aY:=ZD.mp hi
  have bt:Bd 640000 ((aIN i T).getD 0 0):=by
   rw[cU];cases e:(aIN i T)[0]? with
   | none=>exact(by unfold Bd;decide:Bd 0 0).mono (ZU _)
   | some t=>exact(Pw tB i t (bD e)).mono Yl
  exact RB.div (m:=0) bt (ap.mono Yl) hB
theorem EE:Eo ["first","second","lead","often","rest","shift","top","k"] ["first","second"] (El (top 29)):=fsc
theorem JD(F:Fun K "whole_division" "whole_division" (top 29) f fd)(XO:mg "list" = none)(Xu:mg "range" = none)(Xt:mg "len" = none)(hT:kG P) :
 EF P w K mg base CX0 33 f fd kU (PU K):=by
 refine okA F EE λbo A outer s H vs Q E hr h=>?_
 refine⟨_,(E6 K (E7 (i:=2) EE (E9 (ixL K) (pv 1) (HF GB E2)))
  (E6 K (E7 (i:=3) EE (ER E8))
  (E6 K (E7 (i:=4) EE (Hy (US K) rfl XO QO (E1 (pv 0) E8)))
  (E6 K (Ff (K:=K) PassesOwn.never rfl (Q9 rfl Xu (E1 (Em EV (EB K Xt (pv 0)) (EB K Xt (pv 1))) (E1 (HF GB E2) (E1 (HF GB E2) E8)))) (Eu (i:=5) EE.nd rfl (Or.inl rfl)) (E6 K (E7 (i:=6) EE (E9 (ixL K) (pv 4) (HF GB E2)))
  (E6 K (E7 (i:=3) EE (Em N3 (ER (E1 (pv 6) E8)) (GP rfl (N:=["number","lead"]) (nt:=1) (js:=[2]) (Gv EE) (piL K (pv 3)) (λ_ _ _ _ _=>(Eu (i:=0) (show List.Nodup (["number","lead"]:km) from by decide +kernel) rfl (Or.inl rfl))) (EG Yd) (λ_ _ _ _ _=>Fw) (λ_ _ _ _ _=>(Em Es (pv 1) (pv 0))))))
  (E6 K (Sb (i:=4) rfl EE.nd rfl rfl (N:=["number","lead"]) (nt:=1) (js:=[2]) (Gv EE) (piL K (Jy (slL K) (pv 4) MY (Jx (HF GB E2)))) (λ_ _ _ _ _=>(Eu (i:=0) (show List.Nodup (["number","lead"]:km) from by decide +kernel) rfl (Or.inl rfl))) (EG Yd) (λ_ _ _ _ _=>Fw) (λ_ _ _ _ _=>(Em Es (pv 1) (pv 0))) rfl)
  (E5 (Ff (K:=K) PassesOwn.never rfl (FD rfl Xu (E1 (Em EV (EB K Xt (pv 1)) E2) E8)) (Eu (i:=7) EE.nd rfl (Or.inl rfl)) (E5 (Iu (Em EV (E9 (ixL K) (pv 4) (Em EH (pv 7) (pv 5))) (Em Es (pv 6) (E9 (ixL K) (pv 1) (pv 7)))) (K5 (pv 4) (Em EH (pv 7) (pv 5)) Ib))) Yr))))) Yr)
  (E5 (Er (EU (E1 (pv 3) (E1 (pv 4) E8))))))))),?_⟩
 obtain⟨f,g,fs,gs,lead,M,L,rfl,hf,hg,J,aZ,a0,bb,aH,hM,hL,q⟩:=h;have P0:0<=dl:=by decide
 have P1:1<=dl:=by decide
 have P2:2<=dl:=by decide
 have lf:(fs.map V.int).length=fs.length:=bI _;have lg:(gs.map V.int).length=gs.length:=bI _;have bh:1<=gs.length:=by have:=(ZO.mp J).1;lia
 have a3:(gs.map V.int)[(gs.map V.int).length-1]? = some (V.int lead):=by rw[lg,bA,J];rfl
 have bl:Bd L lead:=aH _ (bD J);refine⟨_,Z,_,Z,g,_,_,_,Z,Z,hg,HL a3,?_⟩;refine⟨P0,λoa a2=>?_⟩;have s1:E4 H (upd H oa (.lst [])):=kA a2;refine⟨_,Z,f,_,Z,.inl (kx s1 hf),λra aq=>?_⟩;have s2:=s1.trans (kA (o:=.lst (fs.map V.int)) aq)
 have bf:H ra=none:=by
  cases z:H ra with
  | none=>rfl
  | some u=>rw[s1 ra u z]at aq;cases aq
 refine⟨_,Z,f,_,Z,.inl (kx s2 hf),_,Z,g,_,Z,.inl (kx s2 hg),_,_,Z,Z,_,Z,_,Z,_,_,Z,⟨by rw[lf,lg];lia,by rw[lf,lg];lia,Yd,Yd⟩,?_⟩
 have eT:(((fs.map V.int).length:Int)-((gs.map V.int).length:Int) - -1).toNat=fs.length+1-gs.length:=by rw[lf,lg];lia
 rw[eT];have a9:(upd (upd H oa (.lst [])) ra (.lst (fs.map V.int))) ra=some (.lst (fs.map V.int)):=E3;have bc:(upd (upd H oa (.lst [])) ra (.lst (fs.map V.int))) oa=some (.lst (([]:ki).map V.int)):=(kA aq) _ _ E3
 refine Oe (n:=fs.length+1-gs.length) (L8 H f g lead fs gs M L λH f g lead fs gs M L j σ H'=>E4 H H'/\∃(oa ra:ce) (os rs:ki) (z5 z6 z7:Option V),σ=[some (.ref f),some (.ref g),some (.int lead),some (.ref oa),some (.ref ra),z5,z6,z7]/\H' oa=some (.lst (os.map V.int))/\H' ra=some (.lst (rs.map V.int))/\os.length=j/\rs.length=fs.length-j /\
  (∀x,Cv.evI fs x*((lead ^ j:Int):Rat)=Cv.evI os x*x ^ (fs.length+1-gs.length-j)*Cv.evI gs x+Cv.evI rs x)/\(∀t∈os,Bd (M+j*(L+1)) t)/\(∀t∈rs,Bd (M+j*(L+1)) t)/\(j=0->rs=fs)/\(os≠[]->∃t,fs[fs.length-1]? = some t/\os[os.length-1]? = some (lead ^ (os.length-1)*t)))
  ⟨s2,oa,ra,[],fs,none,none,none,Z,bc,a9,Z,Z,λx=>?_,(λ_ h=>nomatch h),(λt O=>(bb t O).mono Yl),λ_=>rfl,λh=>absurd rfl h⟩ ?_ ?_
 ·rw[dw];show Cv.evI fs x*((1:Int):Rat)=0*_*_+_;rw[Rat.intCast_one];grind
 ·rintro j σ H' hj aN;refine FI aN λsm ag=>?_;refine W0 ag λoa ra os rs z5 z6 z7 af=>?_;clear ag;refine V3 af λaB eo er aa aP aD ap ai aO ah=>?_;clear af;obtain rfl:=aB
  try clear aN
  have bn:j*(L+1)<=fs.length*(L+1):=dj _ Yl;have bg:(j+1)*(L+1)=j*(L+1)+L+1:=by rw[dg];lia
  have aY:rs.length-1<rs.length:=by lia
  have am:rs[rs.length-1]? = some rs[rs.length-1]:=cZ aY;generalize ba:rs[rs.length-1]=Y at am;have aE:Bd (M+j*(L+1)) Y:=by rw[<- ba];exact ai _ (d4 aY)
  have be:(rs.map V.int)[(rs.map V.int).length-1]? = some (V.int Y):=by rw[bI,bA,am];rfl
  refine⟨_,Z,_,Z,ra,_,_,_,Z,Z,ku er,HL be,?_⟩;refine⟨_,Z,P1,λt1 a1=>?_⟩;have sa:E4 H' (upd H' t1 (.lst [.int Y])):=kA a1;refine GL ⟨_,Z,oa,Z,⟨_,ku (sa _ _ eo)⟩,?_⟩;refine HX (xs:=os.map V.int) (L5 H' t1 Y os lead λH' t1 Y os lead i zs H2=>H2=upd H' t1 (.lst [.int Y])/\zs=((os.take i).map (lead * ·)).map V.int) ⟨Z,Z⟩ (λi zs H2 hi p=>⟨by rw[p.1];exact ku (sa _ _ eo),by rw[p.2,bI,bI,b9];rw[bI]at hi;lia⟩) (by rw[bI];exact ZH (ET Yl)) ?_ ?_
  ·rintro i v zs H2 hv ⟨rfl,rfl⟩;rw[bA]at hv;cases et:os[i]? with
   | none=>rw[et]at hv;cases hv
   | some t =>
     rw[et]at hv;cases hv;exact⟨_,Z,_,Z,_,_,Z,Z,kF bl (ap t (bD et)) Yl,Z,Lq i et⟩
  rintro zs H2 ⟨rfl,rfl⟩ l1 aS;rw[show os.take (os.map V.int).length=os by rw[bI,cN]]
  have sb:=sa.trans (kA (o:=.lst ((os.map (lead * ·)).map V.int)) aS);have a8:=(kA (o:=.lst ((os.map (lead * ·)).map V.int)) aS) _ _ (E3 (H:=H') (a:=t1) (o:=.lst [.int Y]));refine⟨t1,l1,_,_,Z,Z,a8,E3,by rw[bI,bI];exact ZH (ET (by show 1+os.length<=1000;lia)),λo2 a7=>?_⟩
  have sc:=sb.trans (kA (o:=.lst ([V.int Y]++(os.map (lead * ·)).map V.int)) a7);have aG:(upd (upd (upd H' t1 (.lst [.int Y])) l1 (.lst ((os.map (lead * ·)).map V.int))) o2 (.lst ([V.int Y]++(os.map (lead * ·)).map V.int))) o2=some (.lst ((Y::os.map (lead * ·)).map V.int)):=E3;generalize upd (upd (upd H' t1 (.lst [.int Y])) l1 (.lst ((os.map (lead * ·)).map V.int))) o2 (.lst ([V.int Y]++(os.map (lead * ·)).map V.int))=H3 at sc aG ⊢;have a4:=sc _ _ er;have aL:=sm.trans sc;have rt:(rs.map V.int).take ((rs.map V.int).length-1)=(rs.take (rs.length-1)).map V.int:=by rw[bI,List.map_take]
  refine GL ⟨_,Z,_,Z,_,Z,ra,_,Z,ku a4,λc hc=>?_⟩;rw[T7,rt];have sd:E4 H3 (upd H3 c (.lst ((rs.take (rs.length-1)).map V.int))):=kA hc;refine⟨c,Z,⟨_,ku E3⟩,?_⟩;refine HX (xs:=(rs.take (rs.length-1)).map V.int) (L4 H3 c rs lead λH3 c rs lead i zs H2=>H2=upd H3 c (.lst ((rs.take (rs.length-1)).map V.int))/\zs=(((rs.take (rs.length-1)).take i).map (lead * ·)).map V.int) ⟨Z,Z⟩ (λi zs H2 hi p=>⟨by rw[p.1];exact ku E3,by rw[p.2,bI,bI,b9];rw[bI]at hi;lia⟩) (by rw[bI,b9];exact ZH (ET Yl)) ?_ ?_
  ·rintro i v zs H2 hv ⟨rfl,rfl⟩;rw[bA]at hv;cases et:(rs.take (rs.length-1))[i]? with
   | none=>rw[et]at hv;cases hv
   | some t =>
     rw[et]at hv;cases hv;exact⟨_,Z,_,Z,_,_,Z,Z,kF bl (ai t (eO (bD et))) Yl,Z,Lq i et⟩
  rintro zs H2 ⟨rfl,rfl⟩ r2 aj;have ez:(rs.take (rs.length-1)).take ((rs.take (rs.length-1)).map V.int).length=rs.take (rs.length-1):=by rw[bI,cN]
  rw[ez];have se:=sd.trans (kA (o:=.lst (((rs.take (rs.length-1)).map (lead * ·)).map V.int)) aj);have aJ:(upd (upd H3 c (.lst ((rs.take (rs.length-1)).map V.int))) r2 (.lst (((rs.take (rs.length-1)).map (lead * ·)).map V.int))) r2=some (.lst (((rs.take (rs.length-1)).map (lead * ·)).map V.int)):=E3
  have aM:H r2=none:=by
   cases z:H r2 with
   | none=>rfl
   | some u=>rw[sd r2 u (aL r2 u z)]at aj;cases aj
  have a5:r2≠o2:=λz=>by rw[z,sd _ _ aG]at aj;cases aj
  have aV:=se _ _ aG;have aF:=aL.trans se;generalize upd (upd H3 c (.lst ((rs.take (rs.length-1)).map V.int))) r2 (.lst (((rs.take (rs.length-1)).map (lead * ·)).map V.int))=H4 at aJ aV aF ⊢;have aX:((rs.take (rs.length-1)).map (lead * ·)).length=fs.length-(j+1):=by rw[bI,b9];lia
  have ev4:∀x,Cv.evI ((rs.take (rs.length-1)).map (lead * ·)) x=(lead:Rat)*(Cv.evI rs x-(Y:Rat)*x ^ (rs.length-1)):=λx=>by
   rw[Cv.evI_scale,Cv.evI_last x rs Y am];grind
  have aA:∀t∈(rs.take (rs.length-1)).map (lead * ·),Bd (M+j*(L+1)+L) t:=λt O=>by
   obtain⟨u,hu,rfl⟩:=(eJ.mp O);exact(bl.mul (ai u (eO hu))).mono Yl
  generalize(rs.take (rs.length-1)).map (lead * ·)=r4 at aJ aX ev4 aA;refine⟨_,Z,g,_,Z,.inl (kx aF hg),_,_,Z,Z,_,Z,by rw[lg];lia,by rw[lg];lia,?_⟩
  have eN:(((gs.map V.int).length:Int)-1).toNat=gs.length-1:=by rw[lg];lia
  rw[eN];have aK:((fs.map V.int).length:Int)-((gs.map V.int).length:Int)-(j:Int)=((fs.length-gs.length-j:Nat):Int):=by rw[lf,lg];lia
  rw[aK];generalize hS:fs.length-gs.length-j=S at aK ⊢
  refine G4 (n:=gs.length-1) (L15 H o2 Y os lead f g r2 S fs j rs gs M L λH o2 Y os lead f g r2 S fs j rs gs M L i σ H5=>E4 H H5/\H5 o2=some (.lst ((Y::os.map (lead * ·)).map V.int))/\∃(ps:ki) (z7:Option V),σ=[some (.ref f),some (.ref g),some (.int lead),some (.ref o2),some (.ref r2),some (.int (S:Int)),some (.int Y),z7]/\H5 r2=some (.lst (ps.map V.int))/\ps.length=fs.length-(j+1) /\
   (∀x,Cv.evI ps x=(lead:Rat)*(Cv.evI rs x-(Y:Rat)*x ^ (rs.length-1))-(Y:Rat)*x ^ S*Cv.evI (gs.take i) x)/\(∀k t,ps[k]? = some t->Bd (if k<S+i then M+j*(L+1)+L+1 else M+j*(L+1)+L) t))
   ⟨aF,aV,r4,_,Z,aJ,aX,λx=>?_,λk t O=>?_⟩ ?_ ?_
  ·rw[ev4 x,fO];show _=_-_*(0:Rat)
   grind
  ·split
   ·exact(aA t (bD O)).mono Yl
   ·exact aA t (bD O)
  ·rintro i σ H5 hi aW;refine IC aW λas av ak=>?_;refine HI ak λps a6 ae=>?_;clear ak;refine LB ae λax ep az al ar=>?_;clear ae;obtain rfl:=ax
   try clear aW
   have aT:gs[i]? = some gs[i]:=cZ Yl;have au:i+S<ps.length:=by lia
   have ay:ps[i+S]? = some ps[i+S]:=cZ au;have bm:Fh Y gs[i]:=kF aE (aH _ (d4 Yl)) Yl;refine⟨_,Z,_,Z,_,Z,_,_,Z,Z,r2,_,_,_,Z,Z,ku ep,GA ay Yl,_,Z,_,Z,_,Z,g,_,_,_,Z,Z,kx as hg,GA aT Yl,_,_,Z,Z,bm,_,_,Z,Z,?_⟩;refine⟨_,Z,_,Z,_,Z,_,_,Z,Z,r2,_,_,i+S,Z,Z,ep,JK (by rw[bI];exact au) Yl,?_⟩
   refine⟨as.put aM,by rw[EC (Ne.symm a5)];exact av,ps.set (i+S) (ps[i+S] + -(Y*gs[i])),_,Z,?_,by rw[bR];exact az,λx=>?_,λk t O=>?_⟩
   ·rw[E3,cK,<- de]
   ·rw[Cv.evI_set x ps (i+S) _ _ ay,al x,Cv.evI_take_succ x gs i _ aT,Rat.intCast_neg,cF,Nm.pow_add]
    grind
   ·by_cases hk:k=i+S
    ·subst hk;rw[ZP au]at O;cases O;rw[if_pos Yl,<- de];have b1:=ar _ _ ay;rw[if_neg Yl]at b1;exact Bd.sub b1 ((aE.mul (aH _ (d4 Yl))).mono Yl)
    ·rw[ZQ (λz=>hk z.symm)]at O;have b1:=ar k t O
     split
     ·split at b1
      ·exact b1
      ·exact b1.mono Yl
     ·rw[if_neg Yl]at b1;exact b1
  ·rintro σ H5 aR;refine IC aR λas av an=>?_;refine HI an λps a6 ad=>?_;clear an;refine LB ad λaC ep az al ar=>?_;clear ad;obtain rfl:=aC
   try clear aR
   have bi:gs.take (gs.length-1)=gs.take (gs.length-1):=rfl;refine⟨as,o2,r2,Y::os.map (lead * ·),ps,_,_,_,Z,av,ep,by rw[ck,bI];lia,az,λx=>?_,λt O=>?_,λt O=>?_,λz=>absurd z Yl,λ_=>?_⟩
   ·have h1:=aD x;have h2:=al x;have h3:=Cv.evI_last x gs lead J;have e1:fs.length+1-gs.length-j=S+1:=by lia
    have e2:fs.length+1-gs.length-(j+1)=S:=by lia
    have e3:rs.length-1=S+(gs.length-1):=by lia
    rw[e1]at h1;rw[e2,h2,Cv.evI_cons,Cv.evI_scale,dz,cF,<- dB,h1,h3,e3,Nm.pow_add,cH]
    grind
   ·rcases ZL.mp O with z | z
    ·rw[z];exact aE.mono Yl
    ·obtain⟨u,hu,rfl⟩:=(eJ.mp z);exact(bl.mul (ap u hu)).mono Yl
   ·obtain⟨k,hk⟩:=(eM O);have:=ar k t hk
    split at this<;>exact this.mono Yl
   ·by_cases hj0:j=0
    ·have ho:os=[]:=cO Yl;rw[aO hj0]at am;refine⟨Y,am,?_⟩;rw[ho];show some Y=some (lead ^ 0*Y);rw[dw,cz]
    ·obtain⟨t,O,ho⟩:=ah (λz=>by rw[z]at aa;exact hj0 aa.symm)
     refine⟨t,O,?_⟩;rw[ck,bI,dW];have e:os.length=(os.length-1)+1:=by lia
     rw[e,cJ,bA,ho];show some (lead*(lead ^ (os.length-1)*t))=some (lead ^ (os.length-1+1)*t);rw[dz]
     congr 1
     grind
 ·rintro σ H' aU;refine FI aU λsm ao=>?_;refine W0 ao λoa ra os rs z5 z6 z7 ac=>?_;clear ao;refine V3 ac λaw eo er aa aP aD ap ai aO ah=>?_;clear ac;obtain rfl:=aw
  try clear aU
  refine⟨_,Z,_,Z,P2,λp hp=>?_⟩;have s9:E4 H' (upd H' p (.tup [.ref oa,.ref ra])):=kA hp;refine q p oa ra _ os rs (sm.trans s9) E3 (s9 _ _ eo) (s9 _ _ er) ⟨aa,?_,λx=>?_,(λt O=>by rw[aa];exact ap t O),(λt O=>by rw[aa];exact ai t O),ah⟩
  ·rw[aP];lia
  ·have:=aD x;rw[dZ,cG,dD]at this;rw[aa];exact this
theorem J2:Eo ["base","many","power","turn"] ["base","many"] (El (top 28)):=fsc
theorem Rg(F:Fun K "raised" "raised" (top 28) f fd)(O:mg "range" = none)(hT:kG P) :
 EF P w K mg base CX0 33 f fd ["base","many"] (Jp):=by
 refine okA F J2 λaa A outer s H vs Q E hr h=>?_
 refine⟨_,(E6 K (E7 (i:=2) J2 E2)
  (E6 K (Ff (K:=K) PassesOwn.never rfl (FD rfl O (E1 (pv 1) E8)) (Eu (i:=3) J2.nd rfl (Or.inl rfl)) (E5 (E7 (i:=2) J2 (Em Es (pv 2) (pv 0)))) Yr)
  (E5 (Er (pv 2))))),?_⟩
 obtain⟨b,n,L,rfl,hn,Y,hL,q⟩:=h;refine⟨_,Z,_,Z,Yl,Yl,?_⟩;rw[bN];refine G4 (n:=n) (L3 H b n λH b n i σ H'=>H'=H/\∃z,σ=[some (.int b),some (.int n),some (.int (b ^ i)),z]) ⟨Z,none,by rw[dw];rfl⟩ ?_ ?_
 ·rintro i σ H' hi ⟨rfl,z,rfl⟩;have J:L*i<=L*n:=fG _ Yl;exact⟨_,Z,_,Z,_,_,Z,Z,kF (Bd.pow Y i) Y Yl,Z,some (.int (0+(i:Int))),by rw[dz];rfl⟩
 ·rintro σ H' ⟨rfl,z,rfl⟩;exact⟨_,Z,q⟩
theorem Gg:Eo ["one","other","bottom","under","second","parts","scale","often"] ["one","other"] (El (top 30)):=fsc
theorem Pa(F:Fun K "divided" "divided" (top 30) f fd)(Xv:Fd P w K mg base 34 "bottom_of" kL (IG K))(Xw:Fd P w K mg base 33 "tops_over" kN (HA K))(Y6:Fd P w K mg base 33 "whole_division" kU (PU K))(XA:Fd P w K mg base 35 "curve_over" kW (Gd K))(XS:Fd P w K mg base 33 "raised" ["base","many"] (Jp))(Xt:mg "len" = none)(hT:kG P) :
 EF P w K mg base CX0 36 f fd kM (MQ K):=by
 refine okA F Gg λaM A outer s H vs Q E hr h=>?_
 refine⟨_,(E6 K (FU K (EA Hf (EB K Xt (pv 1)) E2) (E5 Ie) EK)
  (E6 K (E7 (i:=2) Gg (Fl Xv hr (pv 0)))
  (E6 K (E7 (i:=3) Gg (Fl Xv hr (pv 1)))
  (E6 K (E7 (i:=4) Gg (Ex Xw hr (pv 1) (pv 3)))
  (E6 K (E7 (i:=5) Gg (Ex Y6 hr (Ex Xw hr (pv 0) (pv 2)) (pv 4)))
  (E6 K (E7 (i:=6) Gg (Em Es (pv 2) (Ex XS hr (E9 (ixL K) (pv 4) (HF GB E2)) (EB K Xt (E9 (ixT K) (pv 5) E2)))))
  (E6 K (E7 (i:=7) Gg (Ex XA hr (GP rfl (N:=["top","under"]) (nt:=1) (js:=[3]) (Gv Gg) (piL K (E9 (ixT K) (pv 5) E2)) (λ_ _ _ _ _=>(Eu (i:=0) (show List.Nodup (["top","under"]:km) from by decide +kernel) rfl (Or.inl rfl))) (EG Yd) (λ_ _ _ _ _=>Fw) (λ_ _ _ _ _=>(Em Es (pv 0) (pv 1)))) (pv 6)))
  (E5 (Er (EU (E1 (pv 7) (E1 (Ex XA hr (E9 (ixT K) (pv 5) E2) (pv 6)) E8)))))))))))),?_⟩
 obtain⟨r,u,qs,ps,m,L,C,rfl,⟨xs,hS,hn⟩,⟨ys,ah,hm⟩,gq,ap,gp,hB,hC,aG,ay,aC,al,ax,q⟩:=h;have P2:2<=dl:=by decide
 have hl:=hn.length;have aN:=hm.length;have aO:1<=ps.length:=cI.mpr ap;have nq:m*qs.length<=100000*8:=eE aG al;have np:L*ps.length<=1000000*8:=eE ay ax;refine⟨_,Z,u,ys,Z,.inr ah,Z,_,Z,?_⟩;refine F0 (by rw[decide_eq_false (λz=>by have:=V.int.inj z;lia)]<;>rfl) ?_
 refine⟨_,Z,false,r,xs,qs,m,Z,hS,hn,(λc hc=>(hB c hc).2),by rw[dA];lia,λB az au ac=>?_⟩
 refine⟨_,Z,false,u,ys,ps,L,Z,ah,hm,(λc hc=>(hC c hc).2),by rw[dA];lia,λU aH an ad=>?_⟩
 refine⟨_,Z,_,Z,false,u,ys,ps,U,L*ps.length+1,L,Z,ah,hm,ad,(λc hc=>(hC c hc).1),Yl,Yl,λse aA=>?_⟩;have s1:E4 H (upd H se (.lst ((ps.map (Ep U)).map V.int))):=kA aA;refine⟨_,Z,_,Z,false,r,xs,qs,B,m*qs.length+1,m,Z,ky hS s1,kE hn s1,ac,(λc hc=>(hB c hc).1),Yl,Yl,λfa ao=>?_⟩;have s2:=s1.trans (kA (o:=.lst ((qs.map (Ep B)).map V.int)) ao);have ag:=(kA (o:=.lst ((qs.map (Ep B)).map V.int)) ao) _ _ (E3 (H:=H) (a:=se) (o:=.lst ((ps.map (Ep U)).map V.int)));have am:(upd (upd H se (.lst ((ps.map (Ep U)).map V.int))) fa (.lst ((qs.map (Ep B)).map V.int))) fa=some (.lst ((qs.map (Ep B)).map V.int)):=E3;generalize upd (upd H se (.lst ((ps.map (Ep U)).map V.int))) fa (.lst ((qs.map (Ep B)).map V.int))=H2 at s2 ag am ⊢;obtain⟨lead,J,aq⟩:=(IY gp ap aH an)
 have bF:∀t∈qs.map (Ep B),Bd (m*qs.length+m+1) t:=λt ht=>by
  obtain⟨c,hc,rfl⟩:=(eJ.mp ht);exact((hB c hc).1.mul (ac.fdiv (y:=c.den))).mono Yl
 have bG:∀t∈ps.map (Ep U),Bd (L*ps.length+L+1) t:=λt ht=>by
  obtain⟨c,hc,rfl⟩:=(eJ.mp ht);exact((hC c hc).1.mul (ad.fdiv (y:=c.den))).mono Yl
 refine⟨_,Z,fa,se,qs.map (Ep B),ps.map (Ep U),lead,m*qs.length+m+1,L*ps.length+L+1,Z,ku am,ku ag,J,by rw[bI];lia,by rw[bI];lia,bF,bG,by rw[bI];have:=dj (L*ps.length+L+1+1) al;lia,Yl,λpt pa pb H3 os rs s3 ak aj av dv=>?_⟩
 have as:=s3 _ _ ag;have ar:os.length=qs.length+1-ps.length:=by have:=dv.ol;rw[bI,bI]at this;exact this
 have aw:os.length<=8:=by lia
 rw[<- ar]at aC;have aL:os.length*(L*ps.length+L+1+1)<=8*(L*ps.length+L+1+1):=dj _ aw;have aK:(L*ps.length+L+1)*os.length<=os.length*(L*ps.length+L+1+1):=by rw[bY];exact fG _ (Nat.le_succ _)
 have aB:((ps.map (Ep U)).map V.int)[((ps.map (Ep U)).map V.int).length-1]? = some (V.int lead):=by rw[bI,bA,J];rfl
 have aa:Bd (L*ps.length+L+1) lead:=bG _ (bD J);have lo:(os.map V.int).length=os.length:=bI _;have af:Bd ((L*ps.length+L+1)*os.length+1) (lead ^ os.length):=Bd.pow aa _;refine⟨_,Z,_,Z,_,Z,se,_,_,_,Z,Z,ku as,HL aB,_,Z,pt,_,_,_,Z,Z,kw ak,Z,pa,_,Z,.inl (ku aj),lead,os.length,L*ps.length+L+1,by rw[lo];rfl,Yl,aa,Yl,_,_,Z,Z,kF ac af Yl,?_⟩
 have O:B*lead ^ os.length≠0:=cD Yl (dY aq);refine GL ⟨_,Z,pt,_,_,_,Z,Z,kw ak,Z,pa,Z,⟨_,ku aj⟩,?_⟩;refine HX (xs:=os.map V.int) (λi zs H4=>H4=H3/\zs=((os.take i).map (· * U)).map V.int) ⟨Z,Z⟩ (λi zs H4 hi p=>⟨by rw[p.1];exact ku aj,by rw[p.2,bI,bI,b9];rw[bI]at hi;lia⟩) (by rw[lo];exact ZH (ET Yl)) ?_ ?_
 ·rintro i v zs H4 hv ⟨rfl,rfl⟩;rw[bA]at hv;cases et:os[i]? with
  | none=>rw[et]at hv;cases hv
  | some t =>
    rw[et]at hv;cases hv;refine⟨_,Z,_,Z,_,_,Z,Z,kF (dv.ob t (bD et)) ad Yl,Z,?_⟩;rw[cL,et,cM,cM]
    rfl
 rintro zs H4 ⟨rfl,rfl⟩ l1 aE;rw[show os.take (os.map V.int).length=os by rw[lo,cN]]
 have s4:E4 H4 (upd H4 l1 (.lst ((os.map (· * U)).map V.int))):=kA aE;refine⟨_,Z,l1,os.map (· * U),_,Z,ku E3,O,by rw[bI];lia,λa H5 s5 ca=>?_⟩
 have ai:=s4.trans s5;refine⟨_,Z,_,Z,pt,_,_,_,Z,Z,kw (ai _ _ ak),Z,_,Z,pb,rs,_,Z,ku (ai _ _ av),O,by rw[dv.rl,bI,bI];lia,λb H6 s6 cb=>?_⟩
 refine⟨P2,λp hp=>?_⟩;have s7:E4 H6 (upd H6 p (.tup [.ref a,.ref b])):=kA hp
 have go:EI ((os.map (· * U)).map λt=>cx t (B*lead ^ os.length)):=by
  by_cases h0:os=[]
  ·left;rw[h0];rfl
  ·obtain⟨t,ht,ho⟩:=(dv.top h0);have aF:qs≠[]:=λz=>by rw[z]at ht;cases ht
   obtain⟨t',ae,aJ⟩:=(IY gq aF az au);rw[ht]at ae;cases ae;right;refine⟨_,by rw[bI,bI,bA,bA,ho];rfl,λz=>?_⟩
   have z2:(lead ^ (os.length-1)*t*U)≠0:=cD (cD (dY aq) aJ) Yl;exact W4 z2 O z
 rw[KO go]at ca;have aD:=Cv.strip_length (rs.map λt=>cx t (B*lead ^ os.length));refine q p a b _ _ _ (((((s2.trans s3).trans ai).trans s6).trans s7)) E3 (ca.same (s6.trans s7)) (cb.same s7) go (EL _) (by rw[bI,bI];exact ar) ?_ (λx=>?_) λc hc=>?_
 ·rw[bI,dv.rl,bI,bI]at aD
  lia
 ·rw[Cv.ev_strip];have h1:=dv.ev x;have h2:=Nn (os.map (· * U)) _ O x;have h3:=Nn rs _ O x
  have h4:Cv.evI (os.map (· * U)) x=Cv.evI os x*(U:Rat):=by
   have:=Cv.evI_scale x U os;rw[show os.map (· * U)=os.map (U * ·) from dO λt _=>dS t U,this,dM]
  have h5:Cv.evI (qs.map (Ep B)) x=Cv.ev qs x*(B:Rat):=HQ au x;have h6:Cv.evI (ps.map (Ep U)) x=Cv.ev ps x*(U:Rat):=HQ an x;have hc:((B*lead ^ os.length:Int):Rat)≠0:=Nm.cast_ne O;have h7:((B*lead ^ os.length:Int):Rat)=(B:Rat)*((lead ^ os.length:Int):Rat):=cF ..;generalize Cv.ev ((os.map (· * U)).map λt=>cx t (B*lead ^ os.length)) x=X at h2 ⊢;generalize Cv.ev (rs.map λt=>cx t (B*lead ^ os.length)) x=Y at h3 ⊢;generalize((B*lead ^ os.length:Int):Rat)=C at *
  have h8:(Cv.ev qs x-(X*Cv.ev ps x+Y))*C=0:=by
   rw[h5,h6]at h1;rw[h4]at h2;have:Cv.ev qs x*C=(X*C)*Cv.ev ps x+Y*C:=by rw[h2,h3,h7];grind
   grind
  rcases cP.mp h8 with z | z
  ·grind
  ·exact absurd z hc
 ·obtain⟨t',ae,rfl⟩:=(eJ.mp hc);obtain⟨t,ht,rfl⟩:=(eJ.mp ae);exact RB.div (m:=0) (((dv.ob t ht).mul ad).mono Yl) ((ac.mul af).mono Yl) O
theorem FN:Eo ["tops","width"] ["tops"] (El (top 31)):=fsc
theorem Ig(F:Fun K "without_last_noughts" "without_last_noughts" (top 31) f fd)(Xt:mg "len" = none)(hT:kG P) :
 EF P w K mg base CX0 33 f fd ["tops"] (RW K):=by
 refine okA F FN λag A outer s H vs Q E hr h=>?_
 refine⟨_,(E6 K (E7 (i:=1) FN (EB K Xt (pv 0)))
  (E6 K (GK PassesOwn.never (PW.pt (Jj (EA GQ (pv 1) E2) (Ir (EA Hf (E9 (ixL K) (pv 0) (Em EV (pv 1) E2)) E2)))) (E5 (E7 (i:=1) FN (Em EV (pv 1) E2))))
  (E5 (Er (Jy (slL K) (pv 0) MY (Jx (pv 1))))))),?_⟩
 obtain⟨r,ts,rfl,hS,q⟩:=h;have hl:(ts.map V.int).length=ts.length:=bI _;refine⟨_,Z,r,_,Z,.inl hS,?_⟩;refine PL (L3 H r ts λH r ts σ H'=>H'=H/\∃(v:Nat),σ=[some (.ref r),some (.int (v:Int))]/\v<=ts.length/\∀j,v<=j->ts.getD j 0=0) (λσ _=>mu 1 σ) ⟨Z,ts.length,by rw[<- hl];rfl,ZR _,λj hj=>by rw[cU,dE hj];rfl⟩ ?_
 rintro σ H' ad;refine FI ad λac O=>?_;refine SR O λv Y=>?_;clear O;refine IC Y λaa hv J=>?_;clear Y;obtain rfl:=ac;obtain rfl:=aa
 try clear ad
 have ae:(1<=v->ts.getD (v-1) 0≠0)->∀p,H' p=none->Q (.ref p) (upd H' p (.lst (IV (ts.map V.int) none (some (v:Int))))):=λhc p hp=>by
  rw[W5,<- List.map_take];exact q p _ v hv J hc (kA hp) E3
 refine⟨_,Z,_,_,Z,Z,_,Z,?_⟩;by_cases hv0:v=0
 ·subst hv0;refine IB (IB ?_);exact⟨_,Z,_,Z,_,Z,r,_,Z,hS,λp hp=>ae (λh=>absurd h Yl) p hp⟩
 ·refine Ft (by rw[decide_eq_true (show(0:Int)<(v:Int) by lia)]<;>rfl) ?_
  have af:atI (ts.map V.int) ((v:Int)-1)=some (.int (ts.getD (v-1) 0)):=GA (i:=v-1) (by rw[cU,cZ (by lia:v-1<ts.length)];rfl) Yl
  refine⟨_,Z,_,Z,_,_,Z,Z,r,_,_,_,Z,Z,hS,af,Z,_,Z,?_⟩;by_cases hq0:ts.getD (v-1) 0=0
  ·refine Ft (by rw[decide_eq_true (by rw[hq0]:V.int (ts.getD (v-1) 0)=V.int 0)]<;>rfl) (PJ ?_)
   refine⟨_,Z,_,_,Z,Z,⟨Z,v-1,?_,Yl,λj hj=>?_⟩,?_⟩
   ·show[some (V.ref r),some (V.int ((v:Int)-1))]=[some (V.ref r),some (V.int ((v-1:Nat):Int))];rw[show(v:Int)-1=((v-1:Nat):Int) by lia]
   ·by_cases hjv:v<=j
    ·exact J j hjv
    ·rw[show j=v-1 by lia];exact hq0
   ·show((v:Int)-1).toNat<(v:Int).toNat
    lia
  ·refine F0 (by rw[decide_eq_false (show ¬V.int (ts.getD (v-1) 0)=V.int 0 from λz=>hq0 (V.int.inj z))]<;>rfl) ?_
   exact⟨_,Z,_,Z,_,Z,r,_,Z,hS,λp hp=>ae (λ_=>hq0) p hp⟩
theorem Fb:Eo ["great","small","lead","held","drop","factor","rest"] ["great","small"] (El (top 32)):=fsc
theorem N9(F:Fun K "last_rest" "last_rest" (top 32) f fd)(YS:Fd P w K mg base 33 "without_last_noughts" ["tops"] (RW K))(XS:Fd P w K mg base 33 "raised" ["base","many"] (Jp))(Y6:Fd P w K mg base 33 "whole_division" kU (PU K))(Xt:mg "len" = none)(hT:kG P) :
 EF P w K mg base CX0 34 f fd ["great","small"] (MN K):=by
 refine okA F Fb λaB A outer s H vs Q E hr h=>?_
 refine⟨_,(E6 K (E7 (i:=2) Fb E2)
  (E6 K (E7 (i:=3) Fb E2)
  (E6 K (GK PassesOwn.never (EA GQ (EB K Xt (pv 1)) E2) (E6 K (E7 (i:=4) Fb (Em EV (EB K Xt (pv 0)) (EB K Xt (pv 1))))
  (E6 K (E7 (i:=5) Fb (Em Es (pv 2) (Ex XS hr (pv 3) (pv 4))))
  (E6 K (E7 (i:=6) Fb (Fl YS hr (E9 (ixT K) (Ex Y6 hr (pv 0) (pv 1)) E2)))
  (E6 K (E7 (i:=0) Fb (pv 1))
  (E6 K (Sb (i:=1) rfl Fb.nd rfl rfl (N:=["top","factor"]) (nt:=1) (js:=[5]) (Gv Fb) (piL K (pv 6)) (λ_ _ _ _ _=>(Eu (i:=0) (show List.Nodup (["top","factor"]:km) from by decide +kernel) rfl (Or.inl rfl))) (EG Yd) (λ_ _ _ _ _=>Fw) (λ_ _ _ _ _=>(Em (Gn hr hT) (pv 0) (pv 1))) rfl)
  (E6 K (E7 (i:=2) Fb (E9 (ixL K) (pv 0) (HF GB E2)))
  (E5 (FU K (EA GQ (pv 4) E2) (E5 (E7 (i:=3) Fb (Em (Gn hr hT) (Ex XS hr (pv 2) (pv 4)) (Ex XS hr (pv 3) (Em EV (pv 4) E2))))) EK)))))))))
  (E5 (Er (pv 0)))))),?_⟩
 obtain⟨f,g,fs,gs,W,X,rfl,hf,hg,h1,am,h8,t1,t2,an,ak,hX,aD,q⟩:=h;have I0:=LRJ.first h1 am h8 t1 t2 an ak hX;have ao:∀k j,Bd X ((λk j=>Dt.sub (fs.length-1) (gs.length-1) k (tf fs) (tf gs) j) k j):=λk j=>Vc h8 am an ak hX k j;generalize(λk j=>Dt.sub (fs.length-1) (gs.length-1) k (tf fs) (tf gs) j)=S at I0 ao
 refine PL (L6 H K S fs gs X λH K S fs gs X σ H'=>E4 H H'/\∃(f' g':ce) (fs' gs':ki) (lead held:Int) (z4 z5 z6:Option V),σ=[some (.ref f'),some (.ref g'),some (.int lead),some (.int held),z4,z5,z6]/\SqL K H' f' (fs'.map V.int)/\H' g'=some (.lst (gs'.map V.int))/\LRJ S fs gs fs' gs' lead held X/\fs'.length<=fs.length) (ml 1)
  ⟨E4.refl _,f,g,fs,gs,1,1,none,none,none,Z,hf,hg,I0,ZR _⟩ ?_
 rintro σ H' al;refine FI al λsm ad=>?_;refine Xd ad λf' g' fs' gs' lead held z4 z5 z6 Y=>?_;clear ad;refine LB Y λah aj aa I aq=>?_;clear Y;obtain rfl:=ah
 try clear al
 have lf:(fs'.map V.int).length=fs'.length:=bI _;have lg:(gs'.map V.int).length=gs'.length:=bI _;refine⟨_,Z,g',_,Z,.inl (ku aa),_,_,Z,Z,_,Z,?_⟩;by_cases h0:gs'=[]
 ·refine F0 (by rw[decide_eq_false (by rw[h0];decide:¬((0:Int)<((gs'.map V.int).length:Int)))]<;>rfl) ?_
  have c:=I.com;rw[h0]at c;exact⟨_,Z,q f' H' fs' sm aj I.lr.fp aq I.t1 c I.bf⟩
 have av:1<=gs'.length:=cI.mpr h0;refine Ft (by rw[decide_eq_true (show(0:Int)<((gs'.map V.int).length:Int) by rw[lg];lia)]<;>rfl) (PJ ?_)
 have ap:=I.le;have l8:=I.l10;have aC:=I.lr.fp;have ed:((fs'.map V.int).length:Int)-((gs'.map V.int).length:Int)=((fs'.length-gs'.length:Nat):Int):=by rw[lf,lg];lia
 refine⟨_,Z,f',_,Z,.inl aj,_,Z,g',_,Z,.inl (ku aa),_,_,Z,Z,?_⟩;rw[ed]
 have c4:X+fs'.length*(X+1)+X<=100000000:=by
  have:=dj (X+1) l8
  lia
 have c2:X*(fs'.length-gs'.length)+X<=100000000:=by
  have:=fG X (by lia:fs'.length-gs'.length<=10)
  lia
 have bh:=I.bh;have bp:=Bd.pow bh (fs'.length-gs'.length);have ac:gs'[gs'.length-1]? = some (gs'[gs'.length-1]'Yl):=cZ _;generalize gs'[gs'.length-1]'Yl=gl at ac;have az:(gs'.map V.int)[(gs'.map V.int).length-1]? = some (V.int gl):=by rw[lg,bA,ac];rfl
 have ay:Bd X gl:=I.bg _ (bD ac);refine⟨_,Z,_,Z,_,Z,held,fs'.length-gs'.length,X,Z,Yl,bh,c2,_,_,Z,Z,kF I.bl bp Yl,?_⟩;refine⟨_,Z,_,Z,f',g',fs',gs',gl,X,X,Z,aj,ku aa,ac,Yl,Yl,I.bf,I.bg,c4,Yl,λpt pa pb H3 os rs s3 aA aF ar dv=>?_⟩;refine⟨pt,_,_,_,Z,Z,kw aA,Z,pb,rs,Z,ku ar,λrp H4 w hw hz ai s4 e4=>?_⟩;have as:=s3.trans s4;have ho:=dv.ol;have hr:rs.length=gs'.length-1:=by have:=dv.rl;lia
 have O:=λheld'=>LRJ.next (held':=held') I ao ac ho hr dv.ev hw hz ai;generalize hF:lead*held ^ (fs'.length-gs'.length)=φ at O ⊢
 have aw:φ≠0:=by
  rcases Nat.eq_or_lt_of_le ap with z | z
  ·exact(O held (.inr ⟨z.symm,Z⟩)).1
  ·exact(O _ (.inl ⟨z,Z⟩)).1
 refine⟨_,Z,?_⟩;refine GL ⟨_,Z,rp,Z,⟨_,ku e4⟩,?_⟩;have lt:((rs.take w).map V.int).length=w:=by rw[bI,b9];lia
 refine HX (xs:=(rs.take w).map V.int) (L3 H4 rs w λH4 rs w i zs H5=>H5=H4/\zs=(((rs.take w).take i).map λt=>eI t φ).map V.int) ⟨Z,Z⟩ (λi zs H5 hi p=>⟨by rw[p.1];exact ku e4,by rw[p.2,bI,bI,b9,b9];lia⟩) (by rw[lt];exact ZH (ET Yl)) ?_ ?_
 ·rintro i v zs H5 hv ⟨rfl,rfl⟩;rw[bA]at hv;cases et:(rs.take w)[i]? with
  | none=>rw[et]at hv;cases hv
  | some t =>
    rw[et]at hv;cases hv;refine⟨_,Z,_,Z,_,_,Z,Z,aw,Z,?_⟩;rw[cL,et,cM,cM]
    rfl
 rintro zs H5 ⟨rfl,rfl⟩ nl au;rw[show(rs.take w).take ((rs.take w).map V.int).length=rs.take w by rw[lt,dQ (by rw[b9];lia)]]
 generalize hh:((rs.take w).map λt=>eI t φ)=hs at O ⊢;have aE:hs.length=w:=by rw[<- hh,bI,b9];lia
 have s5:E4 H5 (upd H5 nl (.lst (hs.map V.int))):=kA au;have e5:(upd H5 nl (.lst (hs.map V.int))) nl=some (.lst (hs.map V.int)):=E3;have ae:=as.trans s5;generalize upd H5 nl (.lst (hs.map V.int))=H6 at s5 e5 ae ⊢;have ag:=ae _ _ aa;have af:hs.length<gs'.length:=by lia
 refine⟨_,Z,_,Z,g',_,_,_,Z,Z,ku ag,HL az,?_⟩;refine⟨_,Z,_,_,Z,Z,_,Z,?_⟩
 have c6:X*(fs'.length-gs'.length-1)+X<=100000000:=by
  have:=fG X (by lia:fs'.length-gs'.length-1<=10)
  lia
 by_cases hd:gs'.length<fs'.length
 ·refine Ft (by rw[decide_eq_true (show(0:Int)<((fs'.length-gs'.length:Nat):Int) by lia)]<;>rfl) ?_
  have ax:=(I.lr.srs av).h0;refine⟨_,Z,_,Z,gl,fs'.length-gs'.length,X,Z,Yl,ay,c2,_,Z,_,Z,_,_,Z,Z,held,fs'.length-gs'.length-1,X,by rw[show((fs'.length-gs'.length:Nat):Int)-1=((fs'.length-gs'.length-1:Nat):Int) by lia];rfl,Yl,bh,c6,_,_,Z,Z,dY ax,?_⟩
  obtain⟨_,J,_⟩:=(O _ (.inl ⟨hd,Z⟩));refine⟨⟨sm.trans ae,g',nl,gs',hs,gl,_,_,_,_,Z,ku ag,e5,J,Yl⟩,?_⟩;show(match H6 nl with | some (.lst xs)=>xs.length | _=>0)<(match H' g' with | some (.lst xs)=>xs.length | _=>0)
  rw[e5,aa];show(hs.map V.int).length<(gs'.map V.int).length;rw[bI,bI];exact af
 ·refine F0 (by rw[decide_eq_false (by lia:¬(0:Int)<((fs'.length-gs'.length:Nat):Int))]<;>rfl) ?_
  obtain⟨_,J,_⟩:=(O held (.inr ⟨Yl,Z⟩));refine⟨⟨sm.trans ae,g',nl,gs',hs,gl,_,_,_,_,Z,ku ag,e5,J,Yl⟩,?_⟩;show(match H6 nl with | some (.lst xs)=>xs.length | _=>0)<(match H' g' with | some (.lst xs)=>xs.length | _=>0)
  rw[e5,aa];show(hs.map V.int).length<(gs'.map V.int).length;rw[bI,bI];exact af
theorem Gh:Eo ["one","other","first","second","tops"] ["one","other"] (El (top 33)):=fsc
theorem Lf(F:Fun K "common_part" "common_part" (top 33) f fd)(Xw:Fd P w K mg base 33 "tops_over" kN (HA K))(XA:Fd P w K mg base 35 "curve_over" kW (Gd K))(Xv:Fd P w K mg base 34 "bottom_of" kL (IG K))(Yn:Fd P w K mg base 34 "last_rest" ["great","small"] (MN K))(Xt:mg "len" = none)(hT:kG P) :
 EF P w K mg base CX0 36 f fd kM (OR K):=by
 refine okA F Gh λaJ A outer s H vs Q E hr h=>?_
 refine⟨_,(E6 K (FU K (PW.pt (Jj (EA Hf (EB K Xt (pv 0)) E2) (Ir (EA Hf (EB K Xt (pv 1)) E2)))) (E5 Ie) EK)
  (E6 K (E7 (i:=2) Gh (Ex Xw hr (pv 0) (Fl Xv hr (pv 0))))
  (E6 K (E7 (i:=3) Gh (Ex Xw hr (pv 1) (Fl Xv hr (pv 1))))
  (E6 K (FU K (EA Lc (EB K Xt (pv 2)) (EB K Xt (pv 3))) (E5 (E7 (i:=4) Gh (Ex Yn hr (pv 3) (pv 2)))) (E5 (E7 (i:=4) Gh (Ex Yn hr (pv 2) (pv 3)))))
  (E5 (Er (Ex XA hr (pv 4) (E9 (ixL K) (pv 4) (HF GB E2))))))))),?_⟩
 obtain⟨r,u,qs,ps,n,N,rfl,⟨xs,hS,hn⟩,⟨ys,ak,hm⟩,gq,gp,ar,hB,hC,aF,hN,av,aw,q⟩:=h;have nN:n*N<=40000*10:=eE aF hN;have hl:=hn.length;have aK:=hm.length;have nq:n*qs.length<=n*N:=fG _ av;have np:n*ps.length<=n*N:=fG _ aw;refine NM (s:=ON _ _ _) (L3 H r u λH r u ad H'=>H'=H/\ad=[some (.ref r),some (.ref u),none,none,none]) (λnx af=>?_) ?_
 ·refine⟨_,Z,r,xs,Z,.inr hS,Z,_,Z,?_⟩;by_cases hq0:qs=[]
  ·refine Ft (by rw[decide_eq_true (by rw[hl,hq0];rfl:V.int (xs.length:Int)=V.int 0)]<;>rfl) ?_
   refine⟨_,Z,u,ys,Z,.inr ak,Z,_,Z,?_⟩
   have aE:ps≠[]:=by
    rcases ar with z | z
    ·exact absurd hq0 z
    ·exact z
   have aL:=cI.mpr aE;exact F0 (by rw[decide_eq_false (show ¬V.int (ys.length:Int)=V.int 0 from λz=>by have:=V.int.inj z;lia)]<;>rfl) (af _ _ ⟨Z,Z⟩)
  ·have aG:=cI.mpr hq0;exact F0 (by rw[decide_eq_false (show ¬V.int (xs.length:Int)=V.int 0 from λz=>by have:=V.int.inj z;lia)]<;>rfl) (IB (af _ _ ⟨Z,Z⟩))
 rintro ad H' ⟨rfl,rfl⟩;refine⟨_,Z,_,Z,false,r,xs,qs,n,Z,hS,hn,(λc O=>(hB c O).2),by rw[dA];lia,λB ax au ao=>?_⟩
 refine⟨false,r,xs,qs,B,n*qs.length+1,n,Z,hS,hn,ao,(λc O=>(hB c O).1),Yl,Yl,λfa aB=>?_⟩;have s1:E4 H' (upd H' fa (.lst ((qs.map (Ep B)).map V.int))):=kA aB;have am:(upd H' fa (.lst ((qs.map (Ep B)).map V.int))) fa=some (.lst ((qs.map (Ep B)).map V.int)):=E3;generalize upd H' fa (.lst ((qs.map (Ep B)).map V.int))=H1 at s1 am ⊢;refine⟨_,Z,_,Z,false,u,ys,ps,n,Z,ak.same s1,kE hm s1,(λc O=>(hC c O).2),by rw[dA];lia,λU aD aq ap=>?_⟩
 refine⟨false,u,ys,ps,U,n*ps.length+1,n,Z,ak.same s1,kE hm s1,ap,(λc O=>(hC c O).1),Yl,Yl,λfb as=>?_⟩;have s2:=s1.trans (kA (o:=.lst ((ps.map (Ep U)).map V.int)) as);have J:=(kA (o:=.lst ((ps.map (Ep U)).map V.int)) as) _ _ am;have ah:(upd H1 fb (.lst ((ps.map (Ep U)).map V.int))) fb=some (.lst ((ps.map (Ep U)).map V.int)):=E3;generalize upd H1 fb (.lst ((ps.map (Ep U)).map V.int))=H2 at s2 J ah ⊢
 have T1:Ja (qs.map (Ep B)):=λt Y=>by
  by_cases z:qs=[]
  ·rw[z]at Y;cases Y
  ·obtain⟨t',e,h⟩:=(IY gq z ax au);rw[Y]at e;cases e;exact h
 have T2:Ja (ps.map (Ep U)):=λt Y=>by
  by_cases z:ps=[]
  ·rw[z]at Y;cases Y
  ·obtain⟨t',e,h⟩:=(IY gp z aD aq);rw[Y]at e;cases e;exact h
 have bF:∀t∈qs.map (Ep B),Bd (n*N+n+1) t:=λt Y=>by
  obtain⟨c,O,rfl⟩:=(eJ.mp Y);exact((hB c O).1.mul (ao.fdiv (y:=c.den))).mono Yl
 have bG:∀t∈ps.map (Ep U),Bd (n*N+n+1) t:=λt Y=>by
  obtain⟨c,O,rfl⟩:=(eJ.mp Y);exact((hC c O).1.mul (ap.fdiv (y:=c.den))).mono Yl
 have c0:Com qs ps (cst (qs.map (Ep B))) (cst (ps.map (Ep U))):=Com.scale (Nm.cast_ne (by lia:B≠0)) (Nm.cast_ne (by lia:U≠0)) (λx=>HQ au x) (λx=>HQ aq x)
 have lF:(qs.map (Ep B)).length=qs.length:=bI _;have lG:(ps.map (Ep U)).length=ps.length:=bI _;generalize qs.map (Ep B)=F at *;generalize ps.map (Ep U)=G at *;have aH:(F.map V.int).length=F.length:=bI _;have aM:(G.map V.int).length=G.length:=bI _
 try dsimp only
 refine J1 (L10 H2 r u fa fb K N qs ps n λH2 r u fa fb K N qs ps n ad H3=>E4 H2 H3/\∃(tp:ce) (hs:ki),ad=[some (.ref r),some (.ref u),some (.ref fa),some (.ref fb),some (.ref tp)]/\SqL K H3 tp (hs.map V.int)/\1<=hs.length/\hs.length<=N/\Ja hs/\Com qs ps (cst hs) []/\∀t∈hs,Bd (18*(n*N+n+6)+1) t) (λnx af=>?_) ?_
 ·refine⟨_,Z,fa,_,Z,.inl (ku J),_,Z,fb,_,Z,.inl (ku ah),_,_,Z,Z,_,Z,?_⟩;by_cases hlt:F.length<G.length
  ·refine Ft (by rw[decide_eq_true (show((F.map V.int).length:Int)<((G.map V.int).length:Int) by lia)]<;>rfl) ?_
   refine⟨_,Z,_,Z,fb,fa,G,F,n*N+n+1,18*(n*N+n+6)+1,Z,ku ah,J,Yl,Yl,Yl,T2,T1,bG,bF,Yl,Yl,λp H3 hs s3 hp h1 h8 Y O hd=>?_⟩;exact af _ _ ⟨s3,p,hs,Z,hp,h1,Yl,Y,(c0.trans (Com.turn _ _)).trans O,hd⟩
  ·refine F0 (by rw[decide_eq_false (by lia:¬((F.map V.int).length:Int)<((G.map V.int).length:Int))]<;>rfl) ?_
   have aA:1<=F.length:=by
    rcases ar with z | z
    ·have:=cI.mpr z;lia
    ·have:=cI.mpr z;lia
   refine⟨_,Z,_,Z,fa,fb,F,G,n*N+n+1,18*(n*N+n+6)+1,Z,ku J,ah,aA,Yl,Yl,T1,T2,bF,bG,Yl,Yl,λp H3 hs s3 hp h1 h8 Y O hd=>?_⟩;exact af _ _ ⟨s3,p,hs,Z,hp,h1,Yl,Y,c0.trans O,hd⟩
 rintro ad H3 an;refine FI an λs3 ac=>?_;refine HI ac λtp hs aa=>?_;clear ac;refine RD aa λal hp h1 h8 Y O hD=>?_;clear aa;obtain rfl:=al
 try clear an
 have ae:hs[hs.length-1]? = some (hs[hs.length-1]'Yl):=cZ _;generalize hs[hs.length-1]'Yl=la at ae;have ag:=Y la ae;have az:(hs.map V.int)[(hs.map V.int).length-1]? = some (V.int la):=by rw[bI,bA,ae];rfl
 refine⟨_,Z,_,Z,_,Z,tp,_,_,_,Z,Z,hp,HL az,tp,hs,la,Z,hp,ag,Yl,λp H4 s4 cv=>?_⟩
 have e1:cx la la=1:=by
  rw[cB,fc];exact dC _ (Nm.cast_ne ag)
 have aj:(hs.map λt=>cx t la)[(hs.map λt=>cx t la).length-1]? = some 1:=by
  rw[bI,bA,ae];show some (cx la la)=some 1;rw[e1]
 have ai:EI (hs.map λt=>cx t la):=.inr ⟨1,aj,Yd⟩;rw[KO ai]at cv;refine q p H4 _ ((s2.trans s3).trans s4) cv (Kh.of (c:=(la:Rat)) (F:=cst hs) (Nm.cast_ne ag) O ai aj λx=>Nn hs la ag x) (by rw[bI];exact h8) λc aC=>?_
 obtain⟨t,ay,rfl⟩:=(eJ.mp aC);exact RB.div (m:=0) (hD t ay) (hD la (bD ae)) ag
theorem S1:Eo kH ["a","b"] (El (top 11)):=fsc
theorem Su(F:Fun K "times" "times" (top 11) f fd)(Xy:Fd P w K mg base 34 "number_of" kR (HB))(hT:kG P) :
 EF P w K mg base CX0 35 f fd kH (Ge K (· * ·)):=by
 refine okA F S1 λac A outer s H vs Q E Y h=>?_;refine⟨_,(E5 (Er (Ex Xy Y (Em Es (E9 (ixT K) (pv 0) E2) (E9 (ixT K) (pv 1) E2)) (Em Es (E9 (ixT K) (pv 0) E2) (E9 (ixT K) (pv 1) E2))))),?_⟩;obtain⟨x,y,p,q,m,n,rfl,⟨r,rfl,Y⟩,⟨u,rfl,O⟩,hp,J,aa,k⟩:=h;refine⟨_,Z,r,_,_,_,Z,Z,Y,Z,_,Z,u,_,_,_,Z,Z,O,Z,_,_,Z,Z,kF hp.1 J.1,?_⟩;refine⟨_,Z,r,_,_,_,Z,Z,Y,Z,_,Z,u,_,_,_,Z,Z,O,Z,_,_,Z,Z,kF hp.2 J.2,?_⟩;refine⟨_,_,Z,cD (Nm.den_ne p) (Nm.den_ne q),λz hz=>?_⟩;have e:=k z hz
 try dsimp only at e
 rw[<- Nm.times_eq]at e;exact e
theorem Kk:Eo ["curve"] ["curve"] (El (top 25)):=fsc
theorem NW(F:Fun K "slope_of" "slope_of" (top 25) f fd)(Y7:Fd P w K mg base 35 "times" kH (Ge K (· * ·)))(XE:mg "tuple" = none)(Xu:mg "range" = none)(Xt:mg "len" = none)(hT:kG P) :
 EF P w K mg base CX0 36 f fd ["curve"] (Ky K):=by
 refine okA F Kk λaf A outer s H vs Q E hr h=>?_;refine⟨_,(E5 (Er (Hy (OI K) rfl XE LA (E1 (GP rfl (N:=["k","curve"]) (nt:=1) (js:=[0]) (Gv Kk) (Ma rfl Xu (E1 E2 (E1 (EB K Xt (pv 0)) E8))) (λ_ _ _ _ _=>(Eu (i:=0) (show List.Nodup (["k","curve"]:km) from by decide +kernel) rfl (Or.inl rfl))) (EG Yd) (λ_ _ _ _ _=>Fw) (λ_ _ _ _ _=>(Ex Y7 hr (E9 (ixT K) (pv 1) (pv 0)) (EU (E1 (pv 0) (E1 E2 E8)))))) E8)))),?_⟩
 obtain⟨r,qs,n,rfl,⟨xs,hS,hn⟩,hz,hB,ag,q⟩:=h;have hl:=hn.length;have bk:∀k:Nat,k<=1000->RB 11 ((k:Nat):Rat):=λk hk=>⟨by show Bd 11 (((k:Nat):Rat)).num;rw[fh];unfold Bd;lia,by rw[fi];unfold Bd;decide⟩
 refine GL ⟨_,Z,r,xs,Z,.inr hS,1,(xs.length:Int),Z,⟨Yd,Yd,Yl,Yl⟩,?_⟩;have en:((xs.length:Int)-1).toNat=qs.length-1:=by rw[hl];lia
 rw[en];refine Ph (L3 H K qs λH K qs i zs H'=>E4 H H'/\zs.length=i/\ED K H' zs ((Zz i).map λj=>qs.getD (j+1) 0*((j+1:Nat):Rat))) ⟨E4.refl _,Z,.nil⟩ (λi zs H' _ p=>p.2.1) (ZF (Nat.sub_le _ _) (ZH (ET hz))) ?_ ?_
 ·rintro i zs H' hi ⟨sm,aa,Y⟩;have J:i+1<qs.length:=by lia
  have hq:qs[i+1]? = some qs[i+1]:=cZ J;obtain⟨x,hx,ae⟩:=(kC hn hq)
  have ac:atI xs (1+(i:Int))=some x:=by
   rw[show 1+(i:Int)=((i+1:Nat):Int) by lia]
   exact Ew hx
  refine⟨_,Z,_,Z,r,xs,_,x,Z,Z,ky hS sm,ac,_,Z,(by decide:2<=dl),λt ht=>?_⟩
  have ad:Et K (upd H' t (.tup [.int (1+(i:Int)),.int 1])) (.ref t) (((i+1:Nat)):Rat):=kD (by
   rw[E3];unfold nT;rw[fh,fi,show 1+(i:Int)=((i+1:Nat):Int) by lia]
   rfl)
  refine⟨_,_,_,_,n,11,Z,(ae.same sm).same (kA ht),ad,hB _ (d4 J),bk (i+1) Yl,Yl,λp O=>⟨(sm.trans (kA ht)).trans (kA O),by simp[aa],?_⟩⟩
  rw[fm,cM];refine Paired.snoc (kE (kE Y (kA ht)) (kA O)) ?_;have e:qs.getD (i+1) 0=qs[i+1]:=by rw[cU,hq];rfl
  show Et K _ _ (qs.getD (i+1) 0*((i+1:Nat):Rat));rw[e];exact kD E3
 ·rintro zs H' ⟨sm,aa,Y⟩ p O;exact⟨p,zs,Z,.inl ⟨ku E3,λu hu=>q u _ ((sm.trans (kA O)).trans (kA hu)) ⟨zs,kw E3,kE (kE Y (kA O)) (kA hu)⟩⟩⟩
theorem MT:Eo ["curve"] ["curve"] (El (top 40)):=fsc
theorem N8(F:Fun K "lone_part" "lone_part" (top 40) f fd)(YT:Fd P w K mg base 36 "divided" kM (MQ K))(YU:Fd P w K mg base 36 "common_part" kM (OR K))(Y8:Fd P w K mg base 36 "slope_of" ["curve"] (Ky K))(Xt:mg "len" = none)(hT:kG P) :
 EF P w K mg base CX0 37 f fd ["curve"] (Kz K):=by
 refine okA F MT λac A outer s H vs Q E hr h=>?_
 refine⟨_,(E6 K (FU K (EA Hf (EB K Xt (pv 0)) E2) (E5 Ie) EK)
  (E5 (Er (E9 (ixT K) (Ex YT hr (pv 0) (Ex YU hr (pv 0) (Fl Y8 hr (pv 0)))) E2)))),?_⟩
 obtain⟨r,qs,n,rfl,J,gq,Y,hB,aa,ad,h6,q⟩:=h;obtain⟨xs,hS,hn⟩:=(id J);have hl:=hn.length;have ae:=cI.mpr Y;refine⟨_,Z,r,xs,Z,.inr hS,Z,_,Z,F0 (decide_eq_false λz=>by have:=V.int.inj z;lia) ?_⟩
 refine⟨_,Z,_,Z,_,Z,r,qs,n,Z,J,Yl,hB,Yl,λp1 H1 s1 c1=>?_⟩;refine⟨r,p1,qs,EW qs,n+3,7,Z,J.same s1,c1,gq,Jk gq,.inl Y,(λc hm=>(hB c hm).mono Yl),(λc hm=>R7 Yl aa hB c hm),Yl,Yd,h6,by rw[GI];lia,λp2 H2 g s2 c2 P gl gb=>?_⟩
 refine⟨r,p2,qs,g,n,18*((n+3)*7+(n+3)+6)+1,_,Z,J.same (s1.trans s2),c2,gq,P.ne,P.good,hB,gb,Yl,Yl,ZR _,Yl,Yl,λf fa fb H5 os rs s5 ef ha hb go gr lo lr O bo=>?_⟩;have er:rs=[]:=FA.rest P.into.1 P.good P.ne go gr lr O;refine⟨f,_,_,_,Z,Z,kw ef,Z,q fa H5 g os ((s1.trans s2).trans s5) ha ⟨gq,Y,go,P,λx=>?_⟩⟩;have:=O x;rw[er]at this;rw[this];exact Rat.add_zero _
theorem Gy:Eo ["tops","kept"] ["tops"] (El (top 41)):=fsc
theorem Ks(F:Fun K "sign_changes" "sign_changes" (top 41) f fd)(Xt:mg "len" = none)(Xu:mg "range" = none)(hT:kG P) :
 EF P w K mg base CX0 33 f fd ["tops"] (RY K):=by
 refine okA F Gy λaf A outer s H vs Q E hr h=>?_
 refine⟨_,(E6 K (E7 (i:=1) Gy (GP rfl (N:=["top"]) (nt:=1) (js:=[]) (Gv Gy) (piL K (pv 0)) (λ_ _ _ _ _=>(Eu (i:=0) (nd1 _) rfl (Or.inl rfl))) (EG Yd) (λ_ _ _ _ _=>MX (EA NT (pv 0) E2)) (λ_ _ _ _ _=>(pv 0))))
  (E5 (Er (EB K Xt (GP rfl (N:=["k","kept"]) (nt:=1) (js:=[1]) (Gv Gy) (Ma rfl Xu (E1 E2 (E1 (EB K Xt (pv 1)) E8))) (λ_ _ _ _ _=>(Eu (i:=0) (show List.Nodup (["k","kept"]:km) from by decide +kernel) rfl (Or.inl rfl))) (EG Yd) (λ_ _ _ _ _=>MX (EA NT (Ho GQ (E9 (ixL K) (pv 1) (pv 0)) E2 (FP _)) (Ho GQ (E9 (ixL K) (pv 1) (Em EV (pv 0) E2)) E2 (FP _)))) (λ_ _ _ _ _=>(pv 0))))))),?_⟩
 obtain⟨l,ts,rfl,hS,ae,q⟩:=h;refine GL ⟨_,Z,l,Z,⟨_,hS⟩,?_⟩;refine Qn (xs:=ts.map V.int) (L2 H ts λH ts i zs H'=>H'=H/\zs=((ts.take i).filter (λt=>decide (t≠0))).map V.int) ⟨Z,Z⟩ (λi zs H' hi h=>⟨by rw[h.1];exact hS,by rw[h.2,bI];have:=List.length_filter_le (λt=>decide (t≠0)) (ts.take i);rw[b9]at this;lia⟩) (ZH (ET (by rw[bI];lia))) ?_ ?_
 ·rintro i x zs H' J ⟨rfl,rfl⟩;rw[bA]at J;cases ht:ts[i]? with
  | none=>rw[ht]at J;cases J
  | some t =>
    rw[ht]at J;cases J;have e:ts.take (i+1)=ts.take i++[t]:=by rw[cL,ht];rfl
    refine⟨_,Z,Z,_,Z,?_⟩;by_cases Y:t=0
    ·exact F0 (by rw[decide_eq_true (by rw[Y]:V.int t=V.int 0)]<;>rfl) ⟨Z,by rw[e,List.filter_append,fq (by simp[Y]),List.filter_nil,ZY]⟩
    ·exact Ft (by rw[decide_eq_false (show ¬V.int t=V.int 0 from λz=>Y (V.int.inj z))]<;>rfl) ⟨_,Z,Z,by rw[e,List.filter_append,ft (by simp[Y]),List.filter_nil,cM];rfl⟩
 rintro zs H' ⟨rfl,rfl⟩ p hp;rw[bI,cN];have hq:=Ts ts;have ac:(ts.filter (λt=>decide (t≠0))).length<=ts.length:=List.length_filter_le _ _;generalize ts.filter (λt=>decide (t≠0))=ks at hq ac ⊢;have sp:=kA (o:=.lst (ks.map V.int)) hp;have ep:SqL K (upd H' p (.lst (ks.map V.int))) p (ks.map V.int):=ku E3;generalize upd H' p (.lst (ks.map V.int))=H1 at sp ep ⊢;have ag:(ks.map V.int).length=ks.length:=bI ..;refine GL ⟨_,Z,p,_,Z,.inl ep,1,((ks.map V.int).length:Int),Z,⟨Yd,Yd,Yl,Yl⟩,?_⟩;have en:(((ks.map V.int).length:Int)-1).toNat=ks.length-1:=by lia
 rw[en];refine Ur (λi zs H'=>H'=H1/\zs.length=adj (ks.take (i+1))/\zs.length<=i) ⟨Z,by cases ks<;>rfl,ZR _⟩ (λi zs H' _ h=>h.2.2) (ZH (ET Yl)) ?_ ?_
 ·rintro i zs H2 hi ⟨rfl,Y,ad⟩;have g1:(ks.map V.int)[i+1]? = some (.int (ks.getD (i+1) 0)):=by rw[bA,Fo Yl];rfl
  have g0:(ks.map V.int)[i]? = some (.int (ks.getD i 0)):=by rw[bA,Fo Yl];rfl
  have ha:=Tr (l:=ks) (i:=i) Yl;refine⟨_,Z,_,Z,p,_,_,_,Z,Z,ep,atV g1 Yl,_,_,Z,Z,_,Z,_,Z,_,_,Z,Z,p,_,_,_,Z,Z,ep,atV g0 Yl,_,_,Z,Z,Z,_,Z,?_⟩;have e:∀x y:Bool,(!decide (V.bl x=V.bl y))=(x != y):=λx y=>by cases x<;>cases y<;>simp
  refine Nj (λO=>?_) (λO=>?_)
  ·rw[e]at O;rw[O,if_pos rfl]at ha;exact⟨_,Z,Z,by rw[bH,ha,Y];rfl,by rw[bH];show zs.length+1<=_;lia⟩
  ·rw[e]at O;rw[if_neg O]at ha;exact⟨Z,by rw[ha,Y];rfl,Yl⟩
 rintro zs H2 ⟨rfl,Y,ad⟩ r aa;refine⟨r,zs,Z,.inl (ku E3),?_⟩;rw[dQ Yl]at Y;rw[Y,<- hq];exact q _ (sp.trans (kA aa))
theorem EM:Eo ["tops","row","lower","upper"] ["tops"] (El (top 37)):=fsc
theorem Kr(F:Fun K "whole_halves" "whole_halves" (top 37) f fd)(XO:mg "list" = none)(Xt:mg "len" = none)(Xu:mg "range" = none)(hT:kG P) :
 EF P w K mg base CX0 33 f fd ["tops"] (MG K):=by
 refine okA F EM λaz A outer s H vs Q E hr h=>?_
 refine⟨_,(E6 K (E7 (i:=1) EM (Hy (US K) rfl XO QO (E1 (pv 0) E8)))
  (E6 K (E7 (i:=2) EM (ER E8))
  (E6 K (E7 (i:=3) EM (ER E8))
  (E6 K (GK PassesOwn.never (EA GQ (EB K Xt (pv 1)) E2) (E6 K (E7 (i:=2) EM (Em N3 (GP rfl (N:=["top"]) (nt:=1) (js:=[]) (Gv EM) (piL K (pv 2)) (λ_ _ _ _ _=>(Eu (i:=0) (nd1 _) rfl (Or.inl rfl))) (EG Yd) (λ_ _ _ _ _=>Fw) (λ_ _ _ _ _=>(Em Es E2 (pv 0)))) (ER (E1 (E9 (ixL K) (pv 1) E2) E8))))
  (E6 K (E7 (i:=3) EM (Em N3 (ER (E1 (E9 (ixL K) (pv 1) (HF GB E2)) E8)) (GP rfl (N:=["top"]) (nt:=1) (js:=[]) (Gv EM) (piL K (pv 3)) (λ_ _ _ _ _=>(Eu (i:=0) (nd1 _) rfl (Or.inl rfl))) (EG Yd) (λ_ _ _ _ _=>Fw) (λ_ _ _ _ _=>(Em Es E2 (pv 0))))))
  (E5 (E7 (i:=1) EM (GP rfl (N:=["k","row"]) (nt:=1) (js:=[1]) (Gv EM) (FD rfl Xu (E1 (Em EV (EB K Xt (pv 1)) E2) E8)) (λ_ _ _ _ _=>(Eu (i:=0) (show List.Nodup (["k","row"]:km) from by decide +kernel) rfl (Or.inl rfl))) (EG Yd) (λ_ _ _ _ _=>Fw) (λ_ _ _ _ _=>(Em EH (E9 (ixL K) (pv 1) (pv 0)) (E9 (ixL K) (pv 1) (Em EH (pv 0) E2))))))))))
  (E5 (Er (EU (E1 (pv 2) (E1 (pv 3) E8))))))))),?_⟩
 obtain⟨l,ts,rfl,hS,ay,q⟩:=h;have P0:0<=dl:=by decide
 have P1:1<=dl:=by decide
 have P2:2<=dl:=by decide
 refine⟨_,Z,l,_,Z,.inl hS,λO aw=>⟨P0,λl0 ai=>⟨P0,λu0 ad=>?_⟩⟩⟩;have s1:=((kA (o:=.lst (ts.map V.int)) aw).trans (kA (o:=.lst []) ai)).trans (kA (o:=.lst []) ad);have er:(upd (upd (upd H O (.lst (ts.map V.int))) l0 (.lst [])) u0 (.lst [])) O=some (.lst (ts.map V.int)):=(kA ad) _ _ ((kA ai) _ _ E3);have el:(upd (upd (upd H O (.lst (ts.map V.int))) l0 (.lst [])) u0 (.lst [])) l0=some (.lst []):=(kA ad) _ _ E3;have eu:(upd (upd (upd H O (.lst (ts.map V.int))) l0 (.lst [])) u0 (.lst [])) u0=some (.lst []):=E3;generalize upd (upd (upd H O (.lst (ts.map V.int))) l0 (.lst [])) u0 (.lst [])=H1 at s1 er el eu ⊢
 refine⟨λμ σ H'=>E4 H H'/\∃(i:Nat) (r la lb:ce),σ=[some (.ref l),some (.ref r),some (.ref la),some (.ref lb)]/\i<=ts.length/\μ=ts.length-i/\H' r=some (.lst ((L2.aIN i ts).map V.int))/\H' la=some (.lst ((HN ts i).map V.int))/\H' lb=some (.lst ((upI ts i).map V.int)),
  ⟨_,s1,0,O,l0,u0,Z,ZU _,Z,er,el,eu⟩,?_⟩
 rintro μ σ H2 ah;refine FI ah λs2 J=>?_;refine LZ J λi r la lb Y=>?_;clear J;refine Pq Y λaf hi ae aa al an=>?_;clear Y;obtain rfl:=af;obtain rfl:=ae
 try clear ah
 have aA:=L2.J8 ts i;refine⟨_,Z,r,_,Z,.inl (ku aa),_,_,Z,Z,_,Z,?_⟩;by_cases hgo:i<ts.length
 ·refine Ft (by rw[decide_eq_true (show(0:Int)<(((L2.aIN i ts).map V.int).length:Int) by rw[bI];lia)]<;>rfl) ⟨_,λ_ _ h=>h,?_⟩
  have g0:((L2.aIN i ts).map V.int)[0]? = some (.int ((L2.aIN i ts).getD 0 0)):=by rw[bA,Fo Yl];rfl
  have g1:((L2.aIN i ts).map V.int)[((L2.aIN i ts).map V.int).length-1]? = some (.int ((L2.aIN i ts).getD (ts.length-1-i) 0)):=by
   rw[bA,bI,Fo Yl,show(L2.aIN i ts).length-1=ts.length-1-i by lia];rfl
  have as:(HN ts i).length=i:=by unfold HN;rw[bI,dH]
  have ar:(upI ts i).length=i:=by unfold upI;rw[bI,dH]
  have am:∀(a:ce) (H:Hp) (ns:ki),H a=some (.lst (ns.map V.int))->ns.length<=20->∀(Q:VK) (σ:St) (n:Nat),σ[n]? = some (some (.ref a))->(∀p,H p=none->Q (.ref p) (upd H p (.lst ((ns.map λz=>2*z).map V.int))))->tLC (Qs K (LH n)) 1 [] (HH 0) R5 (tOp (rI Fh λi j=>.int (i*j)) (tC (.int 2)) (LH 0)) σ H Q:=λa H ns e hl Q σ n ao k=>by
   refine GL ⟨_,ao,a,Z,⟨_,ku e⟩,?_⟩;refine HX (xs:=ns.map V.int) (λi zs H'=>H'=H/\zs=((ns.take i).map λz=>2*z).map V.int) ⟨Z,Z⟩ (λi zs H' hi h=>⟨by rw[h.1];exact ku e,by rw[h.2,bI,bI,b9];rw[bI]at hi;lia⟩) (ZH (ET (by rw[bI];lia))) ?_ ?_
   ·rintro i v zs H' hv ⟨rfl,rfl⟩;rw[bA]at hv;cases hz:ns[i]? with
    | none=>rw[hz]at hv;simp at hv
    | some z =>
      rw[hz]at hv;cases hv;refine⟨_,Z,_,_,Z,Z,.inl ⟨Yd,Yd⟩,Z,?_⟩;rw[cL,hz];simp
   ·rintro zs H' ⟨rfl,rfl⟩ p hp;rw[bI,cN];exact k p hp
  refine am la H2 (HN ts i) al Yl _ _ 2 rfl λp1 av=>?_;have sa:E4 H2 (upd H2 p1 (.lst (((HN ts i).map λz=>2*z).map V.int))):=kA av;refine⟨_,Z,r,_,_,_,Z,Z,ku (sa _ _ aa),Ew (j:=0) g0,P1,λp2 aj=>?_⟩;have sb:=sa.trans (kA (o:=.lst [.int ((L2.aIN i ts).getD 0 0)]) aj);refine⟨p1,p2,_,_,Z,Z,(kA aj) _ _ E3,E3,ZF (show _<=300 by rw[bI,bI,as];show i+1<=300;lia) Yd,λp3 ap=>?_⟩
  have sc:=sb.trans (kA (o:=.lst (((HN ts i).map λz=>2*z).map V.int++[.int ((L2.aIN i ts).getD 0 0)])) ap)
  have e3:(upd (upd (upd H2 p1 (.lst (((HN ts i).map λz=>2*z).map V.int))) p2 (.lst [.int ((L2.aIN i ts).getD 0 0)])) p3 (.lst (((HN ts i).map λz=>2*z).map V.int++[.int ((L2.aIN i ts).getD 0 0)]))) p3=some (.lst ((HN ts (i+1)).map V.int)):=by
   rw[E3,<- Rm,cM];rfl
  generalize upd (upd (upd H2 p1 (.lst (((HN ts i).map λz=>2*z).map V.int))) p2 (.lst [.int ((L2.aIN i ts).getD 0 0)])) p3 (.lst (((HN ts i).map λz=>2*z).map V.int++[.int ((L2.aIN i ts).getD 0 0)]))=H3 at sc e3 ⊢;refine⟨_,Z,_,Z,r,_,_,_,Z,Z,ku (sc _ _ aa),HL g1,P1,λp4 aq=>?_⟩;have sd:E4 H3 (upd H3 p4 (.lst [.int ((L2.aIN i ts).getD (ts.length-1-i) 0)])):=kA aq;refine am lb _ (upI ts i) (sd _ _ (sc _ _ an)) Yl _ _ 3 rfl λp5 ak=>?_;have se:=sd.trans (kA (o:=.lst (((upI ts i).map λz=>2*z).map V.int)) ak);refine⟨p4,p5,_,_,Z,Z,(kA ak) _ _ E3,E3,ZF (show _<=300 by rw[bI,bI,ar];show 1+i<=300;lia) Yd,λp6 ax=>?_⟩
  have sf:=se.trans (kA (o:=.lst ([.int ((L2.aIN i ts).getD (ts.length-1-i) 0)]++((upI ts i).map λz=>2*z).map V.int)) ax)
  have e6:(upd (upd (upd H3 p4 (.lst [.int ((L2.aIN i ts).getD (ts.length-1-i) 0)])) p5 (.lst (((upI ts i).map λz=>2*z).map V.int))) p6 (.lst ([.int ((L2.aIN i ts).getD (ts.length-1-i) 0)]++((upI ts i).map λz=>2*z).map V.int))) p6=some (.lst ((upI ts (i+1)).map V.int)):=by
   rw[E3,<- RH,cM];rfl
  generalize upd (upd (upd H3 p4 (.lst [.int ((L2.aIN i ts).getD (ts.length-1-i) 0)])) p5 (.lst (((upI ts i).map λz=>2*z).map V.int))) p6 (.lst ([.int ((L2.aIN i ts).getD (ts.length-1-i) 0)]++((upI ts i).map λz=>2*z).map V.int))=H4 at sf e6 ⊢;have ag:=sc.trans sf;have ac:=ag _ _ aa;refine GL ⟨_,Z,r,_,Z,.inl (ku ac),_,_,Z,Z,_,Z,by rw[bI];lia,by rw[bI];lia,?_⟩
  rw[show((((L2.aIN i ts).map V.int).length:Int)-1).toNat=(L2.aIN i ts).length-1 by rw[bI];lia]
  refine Ph (L3 H4 i ts λH4 i ts j zs H'=>H'=H4/\zs=((Zz j).map λj=>(L2.aIN i ts).getD j 0+(L2.aIN i ts).getD (j+1) 0).map V.int) ⟨Z,Z⟩ (λj zs H' _ h=>by rw[h.2,bI,bI,dH]) (ZH (ET Yl)) ?_ ?_
  ·rintro j zs H' hj ⟨rfl,rfl⟩;have k0:((L2.aIN i ts).map V.int)[j]? = some (.int ((L2.aIN i ts).getD j 0)):=by rw[bA,Fo Yl];rfl
   have k1:((L2.aIN i ts).map V.int)[j+1]? = some (.int ((L2.aIN i ts).getD (j+1) 0)):=by rw[bA,Fo Yl];rfl
   refine⟨_,Z,_,Z,r,_,_,_,Z,Z,ku ac,atV k0 Yl,_,Z,_,Z,_,_,Z,Z,r,_,_,_,Z,Z,ku ac,atV k1 Yl,_,_,Z,Z,Z,?_⟩;rw[fm,cM,cM];rfl
  rintro zs Hq ⟨hq,rfl⟩ p7 au;obtain rfl:H4=Hq:=hq.symm;have s7:E4 H4 (upd H4 p7 (.lst (((Zz ((L2.aIN i ts).length-1)).map λj=>(L2.aIN i ts).getD j 0+(L2.aIN i ts).getD (j+1) 0).map V.int))):=kA au;exact⟨ts.length-(i+1),Yl,(s2.trans ag).trans s7,i+1,p7,p3,p6,Z,Yl,Z,E3,s7 _ _ (sf _ _ e3),s7 _ _ e6⟩
 ·refine F0 (by rw[decide_eq_false (by rw[bI];lia:¬((0:Int)<(((L2.aIN i ts).map V.int).length:Int)))]<;>rfl) ?_
  have ei:i=ts.length:=by lia
  subst ei;refine⟨_,Z,_,Z,P2,λt ht=>?_⟩;have s3:E4 H2 (upd H2 t (.tup [.ref la,.ref lb])):=kA ht;exact q t la lb _ (s2.trans s3) E3 (s3 _ _ al) (s3 _ _ an)
theorem TX:Eo kH ["a","b"] (El (top 9)):=fsc
theorem Uc(F:Fun K "plus" "plus" (top 9) f fd)(Xy:Fd P w K mg base 34 "number_of" kR (HB))(hT:kG P) :
 EF P w K mg base CX0 35 f fd kH (Ge K (· + ·)):=by
 refine okA F TX λac A outer s H vs Q E Y h=>?_;refine⟨_,(E5 (Er (Ex Xy Y (Em EH (Em Es (E9 (ixT K) (pv 0) E2) (E9 (ixT K) (pv 1) E2)) (Em Es (E9 (ixT K) (pv 1) E2) (E9 (ixT K) (pv 0) E2))) (Em Es (E9 (ixT K) (pv 0) E2) (E9 (ixT K) (pv 1) E2))))),?_⟩;obtain⟨x,y,p,q,m,n,rfl,⟨r,rfl,Y⟩,⟨u,rfl,O⟩,hp,J,aa,k⟩:=h;refine⟨_,Z,r,_,_,_,Z,Z,Y,Z,_,Z,u,_,_,_,Z,Z,O,Z,_,_,Z,Z,kF hp.1 J.2,_,Z,u,_,_,_,Z,Z,O,Z,_,Z,r,_,_,_,Z,Z,Y,Z,_,_,Z,Z,kF J.1 hp.2,_,_,Z,Z,?_⟩;refine⟨_,Z,r,_,_,_,Z,Z,Y,Z,_,Z,u,_,_,_,Z,Z,O,Z,_,_,Z,Z,kF hp.2 J.2,?_⟩;refine⟨_,_,Z,cD (Nm.den_ne p) (Nm.den_ne q),λz hz=>?_⟩;have e:=k z hz
 try dsimp only at e
 rw[<- Nm.plus_eq]at e;exact e
theorem Ic:Eo ["piece","middle","halves","depth"] ["piece"] (El (top 44)):=fsc
theorem Mc(F:Fun K "halved" "halved" (top 44) f fd)(XM:Fd P w K mg base 35 "over" kH (K0 K))(Yo:Fd P w K mg base 33 "whole_halves" ["tops"] (MG K))(J:Fd P w K mg base 35 "plus" kH (Ge K (· + ·)))(Y:mg "DEEPEST" = some (.int 16 O))(hT:kG P) :
 EF P w K mg base CX0 36 f fd kO (Ia K):=by
 refine okA F Ic λaq A outer s H vs Q E hr h=>?_
 refine⟨_,(E6 K (FU K (EA Hf (E9 (ixT K) (pv 0) E2) (Jz (v:=.int 16) rfl Y ⟨_,Z⟩)) (E5 Ie) EK)
  (E6 K (E7 (i:=1) Ic (Ex XM hr (Ex J hr (E9 (ixT K) (pv 0) E2) (E9 (ixT K) (pv 0) E2)) (EU (E1 E2 (E1 E2 E8)))))
  (E6 K (E7 (i:=2) Ic (Fl Yo hr (E9 (ixT K) (pv 0) E2)))
  (E6 K (E7 (i:=3) Ic (Em EH (E9 (ixT K) (pv 0) E2) E2))
  (E5 (Er (ER (E1 (EU (E1 (pv 1) (E1 (E9 (ixT K) (pv 0) E2) (E1 (E9 (ixT K) (pv 2) E2) (E1 (pv 3) E8))))) (E1 (EU (E1 (E9 (ixT K) (pv 0) E2) (E1 (pv 1) (E1 (E9 (ixT K) (pv 2) E2) (E1 (pv 3) E8))))) E8))))))))),?_⟩
 obtain⟨p,rl,rh,rt,lo,hi,ts,d,rfl,hS,ah,ap,ae,ad,ht,ai,hd,q⟩:=h;have P2:2<=dl:=by decide
 have P4:4<=dl:=by decide
 refine⟨_,Z,p,_,_,_,Z,Z,hS,Ew (j:=3) rfl,Z,_,Z,?_⟩;refine F0 (by rw[decide_eq_false (show ¬V.int (d:Int)=V.int 16 from λz=>hd (by have:=V.int.inj z;lia))]<;>rfl) ?_
 refine⟨_,Z,p,_,_,_,Z,Z,hS,Ew (j:=0) rfl,_,Z,p,_,_,_,Z,Z,hS,Ew (j:=1) rfl,_,_,lo,hi,170,170,Z,ah,ap,ae,ad,Yd,λt1 ag=>⟨P2,λt2 ac=>?_⟩⟩;have o2:HO.tup [.int 2,.int 1]=nT 2:=rfl;have b2:RB 3 (2:Rat):=⟨by unfold Bd;decide,by unfold Bd;decide⟩
 refine⟨_,_,lo+hi,2,341,3,Z,kD ((kA ac) _ _ E3),kD (by rw[E3,o2]),Yd,ae.plus ad,b2,Yd,λrm an=>?_⟩
 have e2:(lo+hi) / 2=(lo+hi)*hf:=by
  have h1:hf*2=1:=by have:=hf2;grind
  rw[fc];have h2:(2:Rat)⁻¹=hf:=by decide +kernel
  rw[h2]
 rw[e2];have s3:E4 H (upd (upd (upd H t1 (nT (lo+hi))) t2 (.tup [.int 2,.int 1])) rm (nT ((lo+hi)*hf))):=((kA ag).trans (kA ac)).trans (kA an);have em:Et K (upd (upd (upd H t1 (nT (lo+hi))) t2 (.tup [.int 2,.int 1])) rm (nT ((lo+hi)*hf))) (.ref rm) ((lo+hi)*hf):=kD E3;generalize upd (upd (upd H t1 (nT (lo+hi))) t2 (.tup [.int 2,.int 1])) rm (nT ((lo+hi)*hf))=H1 at s3 em ⊢;have af:=hS.same s3;refine⟨_,Z,p,_,_,_,Z,Z,af,Ew (j:=2) rfl,rt,ts,Z,ku (s3 _ _ ht),ai,λt la lb H2 s4 et al aj=>?_⟩;have aa:=af.same s4;have ao:=em.same s4;refine⟨_,Z,p,_,_,_,Z,Z,aa,Ew (j:=3) rfl,_,_,Z,Z,?_⟩;refine⟨_,Z,_,Z,p,_,_,_,Z,Z,aa,Ew (j:=1) rfl,_,Z,t,_,_,_,Z,Z,kw et,Ew (j:=1) rfl,_,Z,P4,λp1 ak=>?_⟩;have s5:=kA (o:=.tup [.ref rm,.ref rh,.ref lb,.int ((d:Int)+1)]) ak;refine⟨_,Z,p,_,_,_,Z,Z,aa.same s5,Ew (j:=0) rfl,_,Z,_,Z,t,_,_,_,Z,Z,kw (s5 _ _ et),Ew (j:=0) rfl,_,Z,P4,λp2 am=>⟨P2,λu hu=>?_⟩⟩;have s6:=kA (o:=.tup [.ref rl,.ref rm,.ref la,.int ((d:Int)+1)]) am;have s7:=kA (o:=.lst [.ref p1,.ref p2]) hu;exact q u p1 p2 rm la lb _ (((s3.trans s4).trans s5).trans (s6.trans s7)) E3 (kw (s7 _ _ (s6 _ _ E3))) (kw (s7 _ _ E3)) (ao.same ((s5.trans s6).trans s7)) (s7 _ _ (s6 _ _ (s5 _ _ al))) (s7 _ _ (s6 _ _ (s5 _ _ aj)))
theorem P7(F:Fun K "halved" "halved" (top 44) f fd)(aa:UE K "TooDeep" Y)(XM:Fd P w K mg base 35 "over" kH (K0 K))(Yo:Fd P w K mg base 33 "whole_halves" ["tops"] (MG K))(ac:Fd P w K mg base 35 "plus" kH (Ge K (· + ·)))(J:mg "DEEPEST" = some (.int 16 O))(hT:kG P) :
 EF P w K mg base (CX2 P w) 36 f fd kO (Hr K Y):=by
 refine F.okY Ic (λvs H Q E h=>?_) (λad A outer s H vs Q E hr h=>?_)
 ·obtain⟨_,_,_,_,rfl,_⟩:=h;rfl
 refine⟨_,(NQ (FU K (EA Hf (E9 (ixT K) (pv 0) E2) (Jz (v:=.int 16) rfl J ⟨_,Z⟩)) (E5 (Sa aa rfl VJ rfl (E1 Vq E8))) EK)
  Ra),?_⟩
 obtain⟨p,x,y,z,rfl,hS,q⟩:=h;have P1:1<=dl:=by decide
 refine⟨_,Z,p,_,_,_,Z,Z,hS,Ew (j:=3) rfl,Z,_,Z,Ft (by first | rfl | decide) ⟨P1,q⟩⟩
theorem FW:Eo ["curve","low","high","heights","waiting","pieces","piece","changes"] ["curve","low","high"] (El (top 43)):=fsc
theorem JE(F:Fun K "pieces_of" "pieces_of" (top 43) f fd)(Yp:Fd P w K mg base 37 "heights_of" kK (MO K))(Yq:Fd P w K mg base 37 "lone_part" ["curve"] (Kz K))(Y0:Fd P w K mg base 33 "sign_changes" ["tops"] (RY K))(Xw:Fd P w K mg base 33 "tops_over" kN (HA K))(J:Fd P w K mg base 34 "bottom_of" kL (IG K))(Y:Fd P w K mg base 36 "halved" kO (Ia K))(Xt:mg "len" = none)(hT:kG P) :
 EF P w K mg base CX0 38 f fd kK ((λ_ _ _ _=>False:Sp)):=F.ok FW (λvs H Q E h=>False.elim h) (λO A outer s H vs Q E hr h=>False.elim h)
theorem LN(F:Fun K "pieces_of" "pieces_of" (top 43) f fd)(ad:FdY P w K mg base 36 "halved" kO (λvs H Q E=>(Ia K:Sp) vs H Q E\/(Hr K aa:Sp) vs H Q E))(Yp:Fd P w K mg base 37 "heights_of" kK (MO K))(Yq:Fd P w K mg base 37 "lone_part" ["curve"] (Kz K))(Y0:Fd P w K mg base 33 "sign_changes" ["tops"] (RY K))(Xw:Fd P w K mg base 33 "tops_over" kN (HA K))(Xv:Fd P w K mg base 34 "bottom_of" kL (IG K))(aO:Fd P w K mg base 36 "halved" kO (Ia K))(Xt:mg "len" = none)(hT:kG P) :
 EF P w K mg base (CX2 P w) 38 f fd kK (KU K aa):=by
 refine F.okY FW (λvs H Q E h=>?_) (λbB A outer s H vs Q E hr h=>?_)
 ·obtain⟨_,_,_,_,_,_,_,rfl,_⟩:=h;rfl
 refine⟨_,(E6 K (E7 (i:=3) FW (UN Yp hr (Fl Yq hr (pv 0)) (pv 1) (pv 2)))
  (E6 K (E7 (i:=4) FW (ER (E1 (EU (E1 (pv 1) (E1 (pv 2) (E1 (Ex Xw hr (pv 3) (Fl Xv hr (pv 3))) (E1 E2 E8))))) E8)))
  (E6 K (E7 (i:=5) FW (ER E8))
  (E6 K (GK PassesOwn.leaving (EA GQ (EB K Xt (pv 4)) E2) (E6 K (E7 (i:=6) FW (U8 K PySem.F.plainAttrs_list PySem.F.slot_list_pop PySem.F.type_list_pop VH (pv 4)))
  (E6 K (E7 (i:=7) FW (Fl Y0 hr (E9 (ixT K) (pv 6) E2)))
  (E5 (FU K (EA GQ (pv 7) E2) (E5 (Gq (GW K PySem.F.plainAttrs_list PySem.F.slot_list_extend PySem.F.type_list_extend Mg (pv 4) (E1 (OZ ad hr rfl UO (E1 (pv 6) E8)) E8)))) (E5 (Gq (GW K PySem.F.plainAttrs_list PySem.F.slot_list_append PySem.F.type_list_append FQ (pv 5) (E1 (EU (E1 (E9 (ixT K) (pv 6) E2) (E1 (E9 (ixT K) (pv 6) E2) (E1 (pv 7) E8)))) E8)))))))))
  (E5 (Er (pv 5))))))),?_⟩
 obtain⟨r,rl,rh,fs,lo,hi,n,rfl,hc,gf,nf,bf,bg,bp,lf,aU,a4,bb,aT,aV,qq⟩:=h;have P0:0<=dl:=by decide
 have P1:1<=dl:=by decide
 have P3:3<=dl:=by decide
 have P4:4<=dl:=by decide
 refine⟨_,Z,r,fs,n,Z,hc,gf,nf,bf,bg,bp,lf,λp1 H1 g os s1 c1 LL=>?_⟩;have go:=LL.gl;obtain⟨bl,ll,q1,q2⟩:=qq os g LL;refine⟨_,Z,_,Z,p1,rl,rh,os,lo,hi,Z,c1,go,aU.same s1,a4.same s1,bb,bl,aT.mono Yd,aV.mono Yd,ll,λp2 H2 zs s2 a6 e2 hz bz=>?_⟩;have ae:=s1.trans s2;have bh:=L2.FH os lo hi;obtain⟨hs,aP⟩:∃hs,hs=L2.hts os lo hi:=⟨_,Z⟩;rw[<- aP]at hz bz bh;have be:hs.length<=6:=by lia
 have bo:640000*hs.length<=640000*6:=fG _ be;refine⟨_,Z,_,Z,_,Z,_,Z,true,p2,zs,hs,640000,Z,ku e2,hz,(λc hc=>(bz c hc).2),by rw[dA];lia,λB bu aY aW=>?_⟩
 have hB:B≠0:=by lia
 refine⟨true,p2,zs,hs,B,640000*hs.length+1,640000,Z,ku e2,hz,aW,(λc hc=>(bz c hc).1),Yl,Yl,λr0 aZ=>⟨P4,λp3 aR=>⟨P1,λw hw=>⟨P0,λz aq=>?_⟩⟩⟩⟩;have an:=kA (o:=.lst []) aq;have am:=kA (o:=.lst [.ref p3]) hw;have al:=kA (o:=.tup [.ref rl,.ref rh,.ref r0,.int 0]) aR;have ax:=kA (o:=.lst ((hs.map (Ep B)).map V.int)) aZ;have sA:=((ax.trans al).trans am).trans an;have eW:=an _ _ E3;have eZ:=E3 (H:=upd (upd (upd H2 r0 (.lst ((hs.map (Ep B)).map V.int))) p3 (.tup [.ref rl,.ref rh,.ref r0,.int 0])) w (.lst [.ref p3])) (a:=z) (o:=.lst []);have a3:H w=none:=((ae.trans ax).trans al).free hw;have aS:H z=none:=(((ae.trans ax).trans al).trans am).free aq;have wz:w≠z:=Ez E3 aq;obtain⟨D,d0,d1,y1,y2⟩:=Dy.start aT aV
 have B0:(0:Rat)<(B:Rat):=by
  have:((0:Int):Rat)<(B:Rat):=fv.mpr Yl;exact this
 have k0:PcI K os D (upd (upd (upd (upd H2 r0 (.lst ((hs.map (Ep B)).map V.int))) p3 (.tup [.ref rl,.ref rh,.ref r0,.int 0])) w (.lst [.ref p3])) z (.lst [])) (.ref p3) (lo,hi,0):=⟨p3,rl,rh,r0,hs.map (Ep B),Z,kw (an _ _ (am _ _ E3)),(aU.same ae).same sA,(a4.same ae).same sA,an _ _ (am _ _ (al _ _ E3)),λz=>by have:=congrArg b7 z;rw[bI]at this;simp only[cq]at this;lia,by rw[bI];lia,by rw[<- aP];exact⟨(B:Rat),B0,Km hs λq hq=>GR (aY q hq)⟩,y1,y2,ZU _⟩
 have sH:=ae.trans sA;generalize upd (upd (upd (upd H2 r0 (.lst ((hs.map (Ep B)).map V.int))) p3 (.tup [.ref rl,.ref rh,.ref r0,.int 0])) w (.lst [.ref p3])) z (.lst [])=H3 at k0 sH eW eZ ⊢;clear an am al ax sA hw aq aR aZ hz bz bo e2 s1 s2 ae c1 LL aY aW B0
 refine⟨λμ σ G=>E4 H G/\∃(ws ys:ko) (st:List Wt) (J:List Pc) (z6 z7:Option V),σ=[some (.ref r),some (.ref rl),some (.ref rh),some (.ref p2),some (.ref w),some (.ref z),z6,z7]/\G w=some (.lst ws)/\G z=some (.lst ys)/\Paired (PcI K os D G) ws.reverse st/\Pcs K G ys J/\pcs os 16 lo hi=(com os st).map (J ++ ·)/\μ=wgt st/\J.length+wgt st<=2 ^ 18,
  ⟨_,sH,[.ref p3],[],[(lo,hi,0)],[],none,none,Z,eW,eZ,.cons k0 .nil,.nil,Rz os lo hi,Z,by show 0+(2 ^ 18-1+0)<=2 ^ 18;decide⟩,?_⟩
 clear k0 sH eW eZ;rintro μ σ G ⟨sg,ws,ys,st,J,z6,z7,rfl,ew,ez,ac,av,ap,rfl,bF⟩;have a1:ws.length=st.length:=by rw[<- List.length_reverse,ac.length]
 refine⟨_,Z,w,ws,Z,.inl (ku ew),_,_,Z,Z,_,Z,?_⟩;have aK:=PcI.refs ac;have ba:=PcI.deep ac;have a9:=PM st ba;cases st with
 | nil =>
   rw[decide_eq_false (by rw[a1];decide:¬(0:Int)<((ws.length:Nat):Int))]
   refine IB ⟨_,Z,q1 J z G ys ?_ sg aS ez av⟩;rw[ap];show some (J++[])=some J;rw[ZY]
 | cons t st' =>
 obtain⟨O,Y,d⟩:=t;rw[decide_eq_true (show(0:Int)<((ws.length:Nat):Int) by rw[a1];show(0:Int)<((st'.length+1:Nat):Int);lia)]
 refine LX ⟨_,λ_ _ h=>h,?_⟩
 obtain⟨v,rr,aL⟩:∃v rr,ws.reverse=v::rr:=by
  cases e:ws.reverse with
  | nil=>rw[e]at ac;cases ac
  | cons v rr=>exact⟨v,rr,Z⟩
 have aX:ws=rr.reverse++[v]:=by rw[<- fR ws,aL,List.reverse_cons]
 rw[aL]at ac aK;cases ac with
 | cons hv hrest =>
 have a2:∀x∈ws,∃r,x = .ref r:=λx hx=>aK x (by rw[<- aL];exact List.mem_reverse.mpr hx)
 have bd:=Pcs.refs av;refine⟨_,Z,.inl ⟨Z,_,ku ew⟩,w,ws,v,Z,Z,ew,by rw[aX,bH,bW,show rr.reverse.length+1-1=rr.reverse.length by lia];simp,?_⟩
 rw[show ws.dropLast=rr.reverse by rw[aX,List.dropLast_concat]]
 have sg1:E4 H (upd G w (.lst rr.reverse)):=sg.put a3;have aB:=hv.put (o:=.lst rr.reverse) ew a2;have aG:Paired (PcI K os D (upd G w (.lst rr.reverse))) rr st':=kq hrest λ_ _ z=>z.put ew a2;have aA:=Pcs.put (o:=.lst rr.reverse) av ew;have az:=E3 (H:=G) (a:=w) (o:=.lst rr.reverse);have aH:(upd G w (.lst rr.reverse)) z=some (.lst ys):=by rw[EC wz.symm];exact ez
 generalize upd G w (.lst rr.reverse)=G1 at sg1 aB aG aA az aH ⊢;clear hv hrest av ew ez sg;obtain⟨pp,ak,ah,rt,ts,rfl,hS,af,ai,as,a0,aJ,tp,aw,au,ay⟩:=id aB;have ay:d<=16:=ay;refine⟨_,Z,pp,_,_,_,Z,Z,hS,Ew (j:=2) rfl,rt,ts,Z,ku as,Yl,λG2 s2=>?_⟩;have hV:=tp.chg;rw[hV]
 replace hS:=hS.same s2
 have hf2:=Pcs.same aA s2;have aD:Paired (PcI K os D G2) rr st':=kq aG λ_ _ z=>z.same s2;have aM:=s2 _ _ az;have aN:=s2 _ _ aH
 replace af:=af.same s2
 replace ai:=ai.same s2
 replace as:=s2 _ _ as
 have aC:=sg1.trans s2;clear aB aA aG az aH sg1 s2;refine⟨_,Z,_,_,Z,Z,_,Z,?_⟩;have bE:=hf2.length;have bG:wgt ((O,Y,d)::st')=2 ^ (18-d)-1+wgt st':=rfl;have a6:2 ^ 2<=2 ^ (18-d):=d5 Yd Yl;by_cases hf2':VQ (L2.hts os O Y)<2
 ·rw[decide_eq_false (by lia:¬(1:Int)<((VQ (L2.hts os O Y):Nat):Int))]
  refine IB ⟨_,Z,.inl ⟨Z,_,ku aN⟩,_,Z,pp,_,_,_,Z,Z,hS,Ew (j:=0) rfl,_,Z,pp,_,_,_,Z,Z,hS,Ew (j:=1) rfl,_,Z,P3,λu hu=>?_⟩;have s3:=kA (o:=.tup [.ref ak,.ref ah,.int ((VQ (L2.hts os O Y):Nat):Int)]) hu;have ar:=s3 _ _ aN;refine⟨z,ys,.ref u,Z,Z,ar,Zw (by lia:ys.length<300000) Yd,?_⟩
  have bc:PcV K (upd G2 u (.tup [.ref ak,.ref ah,.int ((VQ (L2.hts os O Y):Nat):Int)])) (.ref u) (one os O Y):=⟨u,ak,ah,Z,kw E3,af.same s3,ai.same s3⟩;refine⟨wgt st',Yl,(aC.trans s3).put aS,rr.reverse,ys++[.ref u],st',J++[one os O Y],_,_,Z,by rw[EC wz];exact s3 _ _ aM,E3,by rw[fR];exact kq aD λ_ _ z=>(z.same s3).put ar bd,Paired.snoc (Pcs.put (Pcs.same hf2 s3) ar) (bc.put ar),?_,Z,by rw[bH,bW];lia⟩
  rw[ap,Uy hf2',map_map]
 ·rw[decide_eq_true (show(1:Int)<((VQ (L2.hts os O Y):Nat):Int) by lia)]
  refine LX ⟨_,Z,.inl ⟨Z,_,ku aM⟩,_,Z,?_⟩;by_cases hd:d=16
  ·subst hd;refine .inr ⟨pp,_,_,_,Z,hS,q2 G2 ?_ aC⟩;rw[ap,T8 hf2'];rfl
  ·have ao:d<16:=by lia
   refine .inl ⟨pp,ak,ah,rt,O,Y,ts,d,Z,hS,af,ai,aw.rb d0 d1 Yl,au.rb d0 d1 Yl,as,aJ,hd,λu aF aE rm la lb G3 s3 eu h1 h2 em a5 br=>?_⟩;have ag:=s3 _ _ aM;have bv:rr.length=st'.length:=aD.length;have bx:st'.length+1<=wgt ((O,Y,d)::st'):=a9;refine⟨w,u,rr.reverse,_,Z,Z,ag,eu,ZF (by rw[List.length_reverse];lia:rr.reverse.length+2<=300000) Yd,?_⟩
   have a7:HN ts ts.length≠[]:=λz=>by
    have:=congrArg b7 z;unfold HN at this;rw[bI,dH]at this;exact a0 (cO this)
   have bn:upI ts ts.length≠[]:=λz=>by
    have:=congrArg b7 z;unfold upI at this;rw[bI,dH]at this;exact a0 (cO this)
   have bi:(HN ts ts.length).length<=20:=by unfold HN;rw[bI,dH];exact aJ
   have a8:(upI ts ts.length).length<=20:=by unfold upI;rw[bI,dH];exact aJ
   have k1:PcI K os D G3 (.ref aE) (O,(O+Y)*hf,d+1):=⟨aE,ak,rm,la,_,Z,h2,af.same s3,em,a5,a7,bi,by show Tp _ (L2.hts os O ((O+Y)*hf));rw[Ut];exact tp.low,aw.next,aw.mid au,ao⟩
   have k2:PcI K os D G3 (.ref aF) ((O+Y)*hf,Y,d+1):=⟨aF,rm,ah,lb,_,Z,h1,em,ai.same s3,br,bn,a8,by show Tp _ (L2.hts os ((O+Y)*hf) Y);rw[VY];exact tp.up,aw.mid au,au.next,ao⟩
   have aj:∀x∈rr.reverse,∃r,x = .ref r:=λx hx=>aK x (ZK _ (List.mem_reverse.mp hx));have hg:=TF d ao;have bt:wgt ((O,(O+Y)*hf,d+1)::((O+Y)*hf,Y,d+1)::st')=2 ^ (18-(d+1))-1+(2 ^ (18-(d+1))-1+wgt st'):=rfl;refine⟨wgt ((O,(O+Y)*hf,d+1)::((O+Y)*hf,Y,d+1)::st'),Yl,(aC.trans s3).put a3,rr.reverse++[.ref aF,.ref aE],ys,(O,(O+Y)*hf,d+1)::((O+Y)*hf,Y,d+1)::st',J,_,_,Z,E3,by rw[EC wz.symm];exact s3 _ _ aN,?_,Pcs.put (Pcs.same hf2 s3) ag,by rw[ap,T9 ao hf2'],Z,Yl⟩
   rw[List.reverse_append,fR];exact .cons (k1.put ag aj) (.cons (k2.put ag aj) (kq aD λ_ _ z=>(z.same s3).put ag aj))
theorem FC:Eo ["tops","x","height","scale","top"] ["tops","x"] (El (top 20)):=fsc
theorem Kq(F:Fun K "whole_height" "whole_height" (top 20) f fd)(XN:mg "reversed" = none)(hT:kG P) :
 EF P w K mg base CX0 33 f fd ["tops","x"] (Vd K):=by
 refine okA F FC λar A outer s H vs Q E hr h=>?_
 refine⟨_,(E6 K (E7 (i:=2) FC E2)
  (E6 K (E7 (i:=3) FC E2)
  (E6 K (Ff (K:=K) PassesOwn.never rfl (UM K rfl XN (pv 0)) (Eu (i:=4) FC.nd rfl (Or.inl rfl)) (E6 K (E7 (i:=2) FC (Em EH (Em Es (pv 2) (E9 (ixT K) (pv 1) E2)) (Em Es (pv 4) (pv 3))))
  (E5 (E7 (i:=3) FC (Em Es (pv 3) (E9 (ixT K) (pv 1) E2))))) Yr)
  (E5 (Er (EU (E1 (Em Es (pv 2) (E9 (ixT K) (pv 1) E2)) (E1 (pv 3) E8)))))))),?_⟩
 obtain⟨l,rx,ts,x,m,n,rfl,hS,⟨_,ao,hx⟩,hB,aa,hz,q⟩:=h;cases ao;have tl:(ts.map V.int).length=ts.length:=bI _
 have aq:m+n*ts.length+4*n+ts.length+4<=100000000:=by
  have e:(n+1)*(ts.length+4)=n*ts.length+4*n+ts.length+4:=by rw[dg,dA];lia
  lia
 have P2:2<=dl:=by decide
 refine⟨_,Z,_,Z,l,_,Z,hS,?_⟩
 refine Qz (L7 H l rx x ts m n λH l rx x ts m n i σ H'=>H'=H/\∃(h s:Int) (z:Option V),σ=[some (.ref l),some (.ref rx),some (.int h),some (.int s),z]/\s=(x.den:Int) ^ i/\s≠0 /\
  (h:Rat)*((x.den:Int):Rat)=Cv.evI (ts.drop (ts.length-i)) x*(s:Rat)/\Bd (m+n*i+i+2) h/\Bd (n*i+1) s)
  ⟨Z,0,1,none,Z,Z,Yd,?_,?_,?_⟩ (λi σ H' _ p=>by rw[p.1];exact hS) ?_ ?_
 ·rw[du,fQ (ZR _)];show((0:Int):Rat)*_=0*_;rw[eC];grind
 ·exact(by unfold Bd;decide:Bd 1 0).mono Yl
 ·exact(by unfold Bd;decide:Bd 1 1).mono Yl
 ·rintro i v σ H' hi hv am;refine FI am λaf ae=>?_;refine Kd ae λh s z J=>?_;clear ae;refine Pq J λai es ag he ac Y=>?_;clear J;obtain rfl:=af;obtain rfl:=ai
  try clear am
  rw[tl]at hi hv;have hj:ts.length-1-i<ts.length:=by lia
  have ak:ts[ts.length-1-i]? = some ts[ts.length-1-i]:=cZ hj;have al:ts[ts.length-1-i]∈ts:=d4 hj;rw[bA,ak]at hv;cases hv;generalize ts[ts.length-1-i]=t at ak al;have bt:=hB _ al;have as:n*i<=n*ts.length:=fG n Yl;have ap:n*(i+1)=n*i+n:=by rw[dA,eS]
  refine⟨_,Z,_,Z,rx,_,_,_,Z,Z,hx,Z,_,_,Z,Z,kF ac aa.1 Yl,_,Z,_,Z,_,_,Z,Z,kF bt Y Yl,_,_,Z,Z,?_⟩;refine⟨_,Z,_,Z,rx,_,_,_,Z,Z,hx,Z,_,_,Z,Z,kF Y aa.2 Yl,⟨Z,_,_,_,Z,?_,cD ag (Nm.den_ne x),?_,?_,?_⟩⟩
  ·rw[es,dz]
  ·rw[Nr rfl hi ak,Cv.evI_cons,cE,cF,cF,cF,Nm.num_mul x]
   grind
  ·have b1:=ac.mul aa.1;have b2:=bt.mul Y;exact(Bd.add (b1.mono (n:=m+n*i+i+2+n) Yl) (b2.mono Yl)).mono Yl
  ·exact(Y.mul aa.2).mono Yl
 ·rintro σ H' an;refine FI an λaj ad=>?_;refine Kd ad λh s z O=>?_;clear ad;refine Pq O λah es ag he ac Y=>?_;clear O;obtain rfl:=aj;obtain rfl:=ah
  try clear an
  rw[tl]at es he ac Y;rw[dZ,dt]at he;refine⟨_,Z,_,Z,rx,_,_,_,Z,Z,hx,Z,_,_,Z,Z,kF ac aa.2 Yl,_,Z,P2,λp hp=>?_⟩;exact q _ _ p es ag (by rw[cF];exact he) ((ac.mul aa.2).mono (by rw[dg,dA];lia)) Y hp
theorem Im:Eo ["curve","x","bottom","told"] ["curve","x"] (El (top 21)):=fsc
theorem Na(F:Fun K "height_at" "height_at" (top 21) f fd)(Xv:Fd P w K mg base 34 "bottom_of" kL (IG K))(YV:Fd P w K mg base 33 "whole_height" ["tops","x"] (Vd K))(Xy:Fd P w K mg base 34 "number_of" kR (HB))(Xw:Fd P w K mg base 33 "tops_over" kN (HA K))(hT:kG P) :
 EF P w K mg base CX0 35 f fd ["curve","x"] (Jr K):=by
 refine okA F Im λal A outer s H vs Q E hr h=>?_
 refine⟨_,(E6 K (E7 (i:=2) Im (Fl Xv hr (pv 0)))
  (E6 K (E7 (i:=3) Im (Ex YV hr (Ex Xw hr (pv 0) (pv 2)) (pv 1)))
  (E5 (Er (Ex Xy hr (E9 (ixT K) (pv 3) E2) (Em Es (pv 2) (E9 (ixT K) (pv 3) E2))))))),?_⟩
 obtain⟨r,rx,qs,x,n,rfl,⟨xs,hS,hn⟩,⟨_,ad,hx⟩,hB,ag,hz,O,q⟩:=h;cases ad;have hl:=hn.length;have ae:(qs.length+4)<=(qs.length+4)*(qs.length+4):=Nat.le_mul_of_pos_left _ Yl;have an:(n+1)*(qs.length+4)<=30000000:=ZF (fG _ ae) hz
 have ak:n*qs.length+4*n+qs.length+4<=30000000:=by
  have e:(n+1)*(qs.length+4)=n*qs.length+4*n+qs.length+4:=by rw[dg,dA];lia
  lia
 refine⟨_,Z,false,r,xs,qs,n,Z,hS,hn,(λq hq=>(hB q hq).2),by rw[dA];lia,λB am ai Y=>?_⟩
 refine⟨_,Z,_,Z,false,r,xs,qs,B,n*qs.length+1,n,Z,hS,hn,Y,(λq hq=>(hB q hq).1),Yl,O,λl J=>?_⟩;have tl:(qs.map (Ep B)).length=qs.length:=bI _;have aj:SqT K (upd H l (.lst ((qs.map (Ep B)).map V.int))) rx [.int x.num,.int x.den]:=ky hx (kA J)
 have tB:∀t∈qs.map (Ep B),Bd (n*qs.length+n+1) t:=λt ht=>by
  obtain⟨c,hc,rfl⟩:=(eJ.mp ht);exact((hB c hc).1.mul (Y.fdiv (y:=c.den))).mono Yl
 refine⟨_,Z,l,rx,qs.map (Ep B),x,n*qs.length+n+1,n,Z,ku E3,⟨rx,Z,aj⟩,tB,ag,by rw[tl];lia,λh s p es af he ao aa hp=>?_⟩
 rw[tl]at aa;have ep:SqT K (upd (upd H l (.lst ((qs.map (Ep B)).map V.int))) p (.tup [.int h,.int s])) p [.int h,.int s]:=kw E3;have ac:B*s≠0:=cD Yl af;refine⟨_,Z,p,_,_,_,Z,Z,ep,Z,_,Z,_,Z,p,_,_,_,Z,Z,ep,Z,_,_,Z,Z,kF Y aa Yl,_,_,Z,ac,λu hu=>?_⟩;have ev:=HQ ai x
 have e:cx h (B*s)=Cv.ev qs x:=Nm.div_eq ac (by
  have ah:(h:Rat)=Cv.ev ((qs.map (Ep B)).map λt:Int=>(t:Rat)) x*(s:Rat):=he;rw[ah,ev,cF];grind)
 refine q u _ (((kA J).trans (kA hp)).trans (kA hu)) ?_;rw[<- e];exact E3
theorem Fs:Eo ["curve","low","high","pieces","ends","at_ends"] ["curve","low","high"] (El (top 45)):=fsc
theorem Je(F:Fun K "noughts_of" "noughts_of" (top 45) f fd)(Ys:Fd P w K mg base 38 "pieces_of" kK ((λ_ _ _ _=>False:Sp)))(Yt:Fd P w K mg base 35 "height_at" ["curve","x"] (Jr K))(Xt:mg "len" = none)(XF:mg "sum" = none)(O:mg "NOUGHT" = some (.ref Y))(J:∀H:Hp,Et K H (.ref Y) (0))(hT:kG P) :
 EF P w K mg base CX0 39 f fd kK ((λ_ _ _ _=>False:Sp)):=F.ok Fs (λvs H Q E h=>False.elim h) (λaa A outer s H vs Q E hr h=>False.elim h)
theorem Ld(F:Fun K "noughts_of" "noughts_of" (top 45) f fd)(J:FdY P w K mg base 38 "pieces_of" kK (λvs H Q E=>((λ_ _ _ _=>False:Sp):Sp) vs H Q E\/(KU K O:Sp) vs H Q E))(Ys:Fd P w K mg base 38 "pieces_of" kK ((λ_ _ _ _=>False:Sp)))(Yt:Fd P w K mg base 35 "height_at" ["curve","x"] (Jr K))(Xt:mg "len" = none)(XF:mg "sum" = none)(ac:mg "NOUGHT" = some (.ref Y))(ad:∀H:Hp,Et K H (.ref Y) (0))(hT:kG P) :
 EF P w K mg base (CX2 P w) 39 f fd kK (M7 K O):=by
 refine F.okY Fs (λvs H Q E h=>?_) (λaR A outer s H vs Q E hr h=>?_)
 ·obtain⟨_,_,_,_,_,_,_,rfl,_⟩:=h;rfl
 refine⟨_,(E6 K (E7 (i:=3) Fs (OZ J hr rfl UO (E1 (pv 0) (E1 (pv 1) (E1 (pv 2) E8)))))
  (E6 K (E7 (i:=4) Fs (Em N3 (ER (E1 (pv 1) E8)) (GP rfl (N:= kO) (nt:=1) (js:=[]) (Gv Fs) (piL K (pv 3)) (λ_ _ _ _ _=>(Eu (i:=0) (nd1 _) rfl (Or.inl rfl))) (EG Yd) (λ_ _ _ _ _=>Fw) (λ_ _ _ _ _=>(E9 (ixT K) (pv 0) E2)))))
  (E6 K (Sb (i:=5) rfl Fs.nd rfl rfl (N:=["end","curve"]) (nt:=1) (js:=[0]) (Gv Fs) (piL K (pv 4)) (λ_ _ _ _ _=>(Eu (i:=0) (show List.Nodup (["end","curve"]:km) from by decide +kernel) rfl (Or.inl rfl))) (EG Yd) (λ_ _ _ _ _=>MX (EA (eqD K hr.units) (Ex Yt hr (pv 1) (pv 0)) (Jz (v:=.ref Y) rfl ac rfl))) (λ_ _ _ _ _=>(pv 0)) rfl)
  (E5 (Er (Em EH (EB K Xt (pv 5)) (Hc (Mr rfl) rfl XF Tf (E1 (GP rfl (N:= kO) (nt:=1) (js:=[]) (Gv Fs) (piL K (pv 3)) (λ_ _ _ _ _=>(Eu (i:=0) (nd1 _) rfl (Or.inl rfl))) (EG Yd) (λ_ _ _ _ _=>Fw) (λ_ _ _ _ _=>(E9 (ixT K) (pv 0) E2))) E8)))))))),?_⟩
 obtain⟨r,rl,rh,fs,lo,hi,n,rfl,hc,gf,nf,bf,aK,aN,lf,av,aO,aJ,an,ax,qq⟩:=h;have P1:1<=dl:=by decide
 refine⟨_,Z,_,Z,_,Z,.inr ⟨r,rl,rh,fs,lo,hi,n,Z,hc,gf,nf,bf,aK,aN,lf,av,aO,aJ,an,ax,λls g LL=>⟨(qq ls g LL).1,(qq ls g LL).2.1,λps p H1 ys e s1 hp ep aA=>?_,(qq ls g LL).2.2.2⟩⟩⟩;have q1:=(qq ls g LL).2.2.1;obtain⟨D,d0,d1,y1,y2⟩:=Dy.start an ax;have aF:=N0 d0 d1 16 0 lo hi ps Yd y1 y2 e;have aP:=(KA ls 16 lo hi ps e).2;have ar:=aA.length;refine⟨_,Z,P1,λla aL=>?_⟩;have s2:=kA (o:=.lst [.ref rl]) aL;refine GL ⟨_,Z,p,Z,⟨_,ku (s2 _ _ ep)⟩,?_⟩;have ah:=Pcs.same aA s2;have ap:=s2 _ _ ep;have as:=E3 (H:=H1) (a:=la) (o:=.lst [.ref rl]);have am:=s1.trans s2;generalize upd H1 la (.lst [.ref rl])=G0 at ah ap as am ⊢;refine HX (xs:=ys) (λi zs H'=>H'=G0/\ED K G0 zs ((ps.take i).map λt=>t.2.1)/\zs.length=i) ⟨Z,.nil,Z⟩ (λi zs H' hi h=>⟨by rw[h.1];exact ku ap,h.2.2⟩) (ZF (by lia:ys.length<=300000) Yd) ?_ ?_
 ·rintro i v zs H' hv ⟨rfl,hz,ag⟩;obtain⟨t,ht,pp,ra,rb,rfl,hS,na,nb⟩:=kB ah hv;refine⟨_,Z,pp,_,_,_,Z,Z,hS,Ew (j:=1) rfl,Z,?_,by rw[bH,ag];rfl⟩
  rw[cL,ht];show ED K _ _ ((ps.take i++[t]).map λt=>t.2.1);rw[cM];exact Paired.snoc hz nb
 rintro zs H' ⟨rfl,hz,ag⟩ p2 aD;rw[ar,cN]at hz;have s3:=kA (o:=.lst zs) aD;refine⟨la,p2,[.ref rl],zs,Z,Z,s3 _ _ as,E3,ZF (by rw[bW];lia:_<=300000) Yd,λen aB=>?_⟩
 have s4:=s3.trans (kA (o:=.lst ([.ref rl]++zs)) aB);have aj:=E3 (H:=upd H' p2 (.lst zs)) (a:=en) (o:=.lst ([.ref rl]++zs));have af:ED K (upd (upd H' p2 (.lst zs)) en (.lst ([.ref rl]++zs))) ([.ref rl]++zs) (lo::ps.map λt=>t.2.1):=.cons ((av.same am).same s4) (kE hz s4);have ao:=am.trans s4;have ak:=Pcs.same ah s4;have aq:=s4 _ _ ap;generalize upd (upd H' p2 (.lst zs)) en (.lst ([.ref rl]++zs))=G1 at aj af ao ak aq ⊢
 have aw:∀e∈(lo::ps.map λt=>t.2.1),RB 2000 e:=λe he=>by
  rcases ZL.mp he with z | z
  ·rw[z];exact an.mono Yd
  ·obtain⟨t,ht,rfl⟩:=eJ.mp z;exact(aF t ht).2.mono Yd
 have aG:(lo::ps.map λt=>t.2.1).length=ps.length+1:=by rw[ck,bI]
 have al:JQ (Cv.ev fs) (lo::ps.map λt=>t.2.1)=z0 (Cv.ev fs) lo+Hl (Cv.ev fs) ps:=by show z0 (Cv.ev fs) lo+_=_;rw[QI]
 generalize(lo::ps.map λt=>t.2.1)=es at af aw aG al;generalize([V.ref rl]++zs)=us at aj af;have aC:=af.length;have hsz:(2000+1)*((fs.length+4)*(fs.length+4))<=2001*(11*11):=fG _ (eE Yl Yl);refine GL ⟨_,Z,en,Z,⟨_,ku aj⟩,?_⟩;refine Qn (xs:=us) (λi aa H'=>E4 G1 H'/\aa.length=JQ (Cv.ev fs) (es.take i)) ⟨E4.refl _,Z⟩ (λi aa H' hi h=>⟨ku (h.1 _ _ aj),by rw[h.2];exact ZF (QH (Cv.ev fs) _) (by rw[b9];lia)⟩) (ZF (by lia:us.length<=300000) Yd) ?_ ?_
 ·rintro i v aa H' hv ⟨sg,ai⟩;obtain⟨x,hx,rx,rfl,aE⟩:=kB af hv;have nx:Et K H' (.ref rx) x:=⟨rx,Z,aE.same sg⟩;have e1:es.take (i+1)=es.take i++[x]:=by rw[cL,hx];rfl
  refine⟨_,Z,_,Z,r,rx,fs,x,2000,Z,(hc.same ao).same sg,nx,(λq hq=>(bf q hq).mono Yl),aw x (bD hx),Yl,Yl,λt G' s' et=>?_⟩;refine eqN (kD et) (ad _) ?_;refine⟨_,Z,?_⟩;by_cases hin:Cv.ev fs x=0
  ·rw[decide_eq_true hin];refine LX ⟨_,Z,sg.trans s',?_⟩;rw[e1,Oq,bH,ai];show _=_+(z0 (Cv.ev fs) x+0);rw[HY hin];rfl
  ·rw[decide_eq_false hin];refine IB ⟨sg.trans s',?_⟩;rw[e1,Oq,ai];show _=_+(z0 (Cv.ev fs) x+0);rw[G8 hin];rfl
 rintro aa H2 ⟨sg,ai⟩ ae aM;rw[aC,cN,al]at ai;have s5:=sg.trans (kA (o:=.lst aa) aM);have ay:=E3 (H:=H2) (a:=ae) (o:=.lst aa);generalize upd H2 ae (.lst aa)=G2 at s5 ay ⊢;refine⟨_,Z,ae,aa,Z,.inl (ku ay),?_⟩;have au:=s5 _ _ aq;have az:=Pcs.same ak s5;refine GL ⟨_,Z,p,Z,⟨_,ku au⟩,?_⟩;refine HX (xs:=ys) (λi zs H'=>H'=G2/\zs=((ps.take i).map λt=>((t.2.2:Nat):Int)).map V.int/\zs.length=i) ⟨Z,Z,Z⟩ (λi zs H' hi h=>⟨by rw[h.1];exact ku au,h.2.2⟩) (ZF (by lia:ys.length<=300000) Yd) ?_ ?_
 ·rintro i v zs H' hv ⟨rfl,hz,ag⟩;obtain⟨t,ht,pp,ra,rb,rfl,hS,na,nb⟩:=kB az hv;refine⟨_,Z,pp,_,_,_,Z,Z,hS,Ew (j:=2) rfl,Z,?_,by rw[bH,ag];rfl⟩
  rw[cL,ht,hz];show _=((ps.take i++[t]).map λt=>((t.2.2:Nat):Int)).map V.int;rw[cM,cM]
  rfl
 rintro zs H' ⟨rfl,hz,ag⟩ sl aH;rw[ar,cN]at hz;refine⟨sl,ps.map λt=>((t.2.2:Nat):Int),Z,by rw[E3,hz],_,_,Z,Z,?_⟩
 rw[RO,ai];have:=q1 ps _ e (ao.trans (s5.trans (kA (o:=.lst zs) aH)));rw[show((z0 (Cv.ev fs) lo+Hl (Cv.ev fs) ps:Nat):Int)+((HZ ps:Nat):Int)=((z0 (Cv.ev fs) lo+Hl (Cv.ev fs) ps+HZ ps:Nat):Int) by lia]
 exact this
theorem Gz:Eo ["_law_curve","_law_low","_law_high","_law_found"] ["_law_curve","_law_low","_law_high"] (El (top 71)):=fsc
theorem Ku(F:Fun K "_law_counted" "_law_counted" (top 71) f fd)(aa:mg "TooDeep" = some (.ref Y))(J:eV K (.ref Y) (.ref Y)=some true)(O:FdY P w K mg base 39 "noughts_of" kK (λvs H Q E=>((λ_ _ _ _=>False:Sp):Sp) vs H Q E\/(M7 K Y:Sp) vs H Q E))(ac:Fd P w K mg base 39 "noughts_of" kK ((λ_ _ _ _=>False:Sp)))(hT:kG P) :
 EF P w K mg base CX0 40 f fd lc (PV K):=by
 refine okA F Gz λak A outer s H vs Q E hr h=>?_
 refine⟨_,(E6 K (E7 (i:=3) Gz La)
  (E6 K (U5 (Vu O hr rfl (E1 (pv 0) (E1 (pv 1) (E1 (pv 2) E8))) Gz.nd (j:=3) rfl (Or.inl rfl)) (λ_ _=>La) rfl aa Gz.nd (j:=3) rfl rfl rfl rfl)
  (E5 (Er (pv 3))))),?_⟩
 obtain⟨r,rl,rh,fs,lo,hi,n,rfl,hc,gf,nf,bf,ag,ad,lf,ae,aj,ah,ai,af,qq⟩:=h;exact⟨_,Z,_,Z,_,Z,.inr ⟨r,rl,rh,fs,lo,hi,n,Z,hc,gf,nf,bf,ag,ad,lf,ae,aj,ah,ai,af,λls g LL=>⟨(qq ls g LL).1,(qq ls g LL).2.1,λps H' e s=>⟨_,Z,(qq ls g LL).2.2.1 ps H' e s⟩,λH' e s=>⟨J,_,Z,(qq ls g LL).2.2.2 H' e s⟩⟩⟩⟩
theorem M9:Eo ["curve","number"] ["curve","number"] (El (top 24)):=fsc
theorem Rf(F:Fun K "scaled" "scaled" (top 24) f fd)(Y4:Fd P w K mg base 33 "curve_of" kL (J0 K))(Y7:Fd P w K mg base 35 "times" kH (Ge K (· * ·)))(hT:kG P) :
 EF P w K mg base CX0 36 f fd ["curve","number"] (KR K):=by
 refine okA F M9 λac A outer s H vs Q E hr h=>?_;refine⟨_,(E5 (Er (Fl Y4 hr (GP rfl (N:=["each","number"]) (nt:=1) (js:=[1]) (Gv M9) (piT K (pv 0)) (λ_ _ _ _ _=>(Eu (i:=0) (show List.Nodup (["each","number"]:km) from by decide +kernel) rfl (Or.inl rfl))) (EG Yd) (λ_ _ _ _ _=>Fw) (λ_ _ _ _ _=>(Ex Y7 hr (pv 0) (pv 1))))))),?_⟩
 obtain⟨r,u,qs,y,m,n,rfl,⟨xs,hS,hn⟩,hy,hB,hb,ad,hz,q⟩:=h;have hl:=hn.length;refine GL ⟨_,Z,r,Z,⟨_,hS⟩,?_⟩;refine VM (xs:=xs) (L4 H K qs y λH K qs y i zs H'=>E4 H H'/\zs.length=i/\ED K H' zs ((qs.take i).map (· * y))) ⟨E4.refl _,Z,.nil⟩ (λi zs H' _ p=>⟨hS.same p.1,p.2.1⟩) (by rw[hl];exact ZH (ET hz)) ?_ ?_
 ·rintro i x zs H' hx ⟨sm,J,Y⟩;obtain⟨c,hc,aa⟩:=(kB hn hx);refine⟨_,Z,_,Z,_,_,c,y,m,n,Z,aa.same sm,hy.same sm,hB c (bD hc),hb,Yl,λp O=>⟨sm.trans (kA O),by simp[J],?_⟩⟩
  rw[cL,hc,cM];exact Paired.snoc (kE Y (kA O)) (kD E3)
 ·rintro zs H' ⟨sm,J,Y⟩ p O;rw[hl,cN]at Y;exact⟨p,zs,_,Z,ku E3,kE Y (kA O),by rw[bI];exact hz,λr H2 s2 c=>q r H2 ((sm.trans (kA O)).trans s2) c⟩
theorem GY:Eo ["one","other","bottom","under","product"] ["one","other"] (El (top 23)):=fsc
theorem LO(F:Fun K "multiplied" "multiplied" (top 23) f fd)(Xv:Fd P w K mg base 34 "bottom_of" kL (IG K))(XR:Fd P w K mg base 33 "whole_product" kU (KS K))(XA:Fd P w K mg base 35 "curve_over" kW (Gd K))(Xw:Fd P w K mg base 33 "tops_over" kN (HA K))(hT:kG P) :
 EF P w K mg base CX0 36 f fd kM (MM K):=by
 refine okA F GY λao A outer s H vs Q E hr h=>?_
 refine⟨_,(E6 K (E7 (i:=2) GY (Fl Xv hr (pv 0)))
  (E6 K (E7 (i:=3) GY (Fl Xv hr (pv 1)))
  (E6 K (E7 (i:=4) GY (Ex XR hr (Ex Xw hr (pv 0) (pv 2)) (Ex Xw hr (pv 1) (pv 3))))
  (E5 (Er (Ex XA hr (pv 4) (Em Es (pv 2) (pv 3)))))))),?_⟩
 obtain⟨ra,rb,qs,rs,n,rfl,⟨xa,af,aa⟩,⟨xb,ag,ac⟩,hq,ad,hn,ak,ai,aq,q⟩:=h;have la:=aa.length;have lb:=ac.length;have nq:n*qs.length<=100000*20:=eE hn ak;have nr:n*rs.length<=100000*20:=eE hn ai;refine⟨_,Z,false,ra,xa,qs,n,Z,af,aa,(λc Y=>(hq c Y).2),by rw[dA];lia,λB ap aj O=>?_⟩
 refine⟨_,Z,false,rb,xb,rs,n,Z,ag,ac,(λc Y=>(ad c Y).2),by rw[dA];lia,λU an am J=>?_⟩
 refine⟨_,Z,_,Z,false,ra,xa,qs,B,n*qs.length+1,n,Z,af,aa,O,(λc Y=>(hq c Y).1),Yl,Yl,λl1 h1=>?_⟩;have s1:E4 H (upd H l1 (.lst ((qs.map (Ep B)).map V.int))):=kA h1;have e1:upd H l1 (.lst ((qs.map (Ep B)).map V.int)) l1=some (.lst ((qs.map (Ep B)).map V.int)):=E3;generalize upd H l1 (.lst ((qs.map (Ep B)).map V.int))=H1 at s1 e1 ⊢;refine⟨_,Z,_,Z,false,rb,xb,rs,U,n*rs.length+1,n,Z,ag.same s1,kE ac s1,J,(λc Y=>(ad c Y).1),Yl,Yl,λl2 h2=>?_⟩;have s2:E4 H1 (upd H1 l2 (.lst ((rs.map (Ep U)).map V.int))):=kA h2;have e2:upd H1 l2 (.lst ((rs.map (Ep U)).map V.int)) l2=some (.lst ((rs.map (Ep U)).map V.int)):=E3;generalize upd H1 l2 (.lst ((rs.map (Ep U)).map V.int))=H2 at s2 e2 ⊢
 have tB:∀t∈qs.map (Ep B),Bd (n*qs.length+n+1) t:=λt ht=>by
  obtain⟨c,Y,rfl⟩:=(eJ.mp ht);exact((hq c Y).1.mul (O.fdiv (y:=c.den))).mono Yl
 have tU:∀t∈rs.map (Ep U),Bd (n*rs.length+n+1) t:=λt ht=>by
  obtain⟨c,Y,rfl⟩:=(eJ.mp ht);exact((ad c Y).1.mul (J.fdiv (y:=c.den))).mono Yl
 refine⟨l1,l2,qs.map (Ep B),rs.map (Ep U),_,_,Z,ku (s2 _ _ e1),ku e2,by rw[bI];lia,by rw[bI];lia,by rw[bI];lia,tB,tU,Yl,λp H3 ps s3 hp ep ah al as=>?_⟩
 rw[bI,bI]at ah;have ae:B*U≠0:=cD Yl Yl;have ar:Bd (n*qs.length+1+(n*rs.length+1)) (B*U):=O.mul J;refine⟨_,Z,_,Z,_,Z,_,_,Z,Z,kF O J Yl,p,ps,B*U,Z,ku ep,ae,Yl,λr H4 s4 Y=>?_⟩;refine q r H4 _ (s1.trans (s2.trans (s3.trans s4))) Y (EL _) (λX=>?_)
 ·rw[Cv.ev_strip];have h0:=L2.Nk ae X ps;rw[al X]at h0;have hb:∀x,Cv.evI (qs.map (Ep B)) x=Cv.ev qs x*(B:Rat):=λx=>HQ aj x;have hu:∀x,Cv.evI (rs.map (Ep U)) x=Cv.ev rs x*(U:Rat):=λx=>HQ am x;rw[hb X,hu X,cF]at h0;have b0:(B:Rat)≠0:=Nm.cast_ne Yl;have u0:(U:Rat)≠0:=Nm.cast_ne Yl
  grind
theorem LJ:Eo kJ ["_law_a","_law_b"] (El (top 63)):=fsc
theorem LU(F:Fun K "_law_times" "_law_times" (top 63) f fd)(Xz:Fd P w K mg base 33 "_law_lowest" kX (HB))(hT:kG P) :
 EF P w K mg base CX0 34 f fd kJ (Ge K (· * ·)):=by
 refine okA F LJ λac A outer s H vs Q E Y h=>?_;refine⟨_,(E5 (Er (Ex Xz Y (Em Es (E9 (ixT K) (pv 0) E2) (E9 (ixT K) (pv 1) E2)) (Em Es (E9 (ixT K) (pv 0) E2) (E9 (ixT K) (pv 1) E2))))),?_⟩;obtain⟨x,y,p,q,m,n,rfl,⟨r,rfl,Y⟩,⟨u,rfl,O⟩,hp,J,aa,k⟩:=h;refine⟨_,Z,r,_,_,_,Z,Z,Y,Z,_,Z,u,_,_,_,Z,Z,O,Z,_,_,Z,Z,kF hp.1 J.1,?_⟩;refine⟨_,Z,r,_,_,_,Z,Z,Y,Z,_,Z,u,_,_,_,Z,Z,O,Z,_,_,Z,Z,kF hp.2 J.2,?_⟩;refine⟨_,_,Z,cD (Nm.den_ne p) (Nm.den_ne q),λz hz=>?_⟩;have e:=k z hz
 try dsimp only at e
 rw[<- Nm.times_eq]at e;exact e
theorem LK:Eo kJ ["_law_a","_law_b"] (El (top 62)):=fsc
theorem LV(F:Fun K "_law_minus" "_law_minus" (top 62) f fd)(Xz:Fd P w K mg base 33 "_law_lowest" kX (HB))(hT:kG P) :
 EF P w K mg base CX0 34 f fd kJ (Ge K (· - ·)):=by
 refine okA F LK λac A outer s H vs Q E Y h=>?_;refine⟨_,(E5 (Er (Ex Xz Y (Em EV (Em Es (E9 (ixT K) (pv 0) E2) (E9 (ixT K) (pv 1) E2)) (Em Es (E9 (ixT K) (pv 1) E2) (E9 (ixT K) (pv 0) E2))) (Em Es (E9 (ixT K) (pv 0) E2) (E9 (ixT K) (pv 1) E2))))),?_⟩;obtain⟨x,y,p,q,m,n,rfl,⟨r,rfl,Y⟩,⟨u,rfl,O⟩,hp,J,aa,k⟩:=h;refine⟨_,Z,r,_,_,_,Z,Z,Y,Z,_,Z,u,_,_,_,Z,Z,O,Z,_,_,Z,Z,kF hp.1 J.2,_,Z,u,_,_,_,Z,Z,O,Z,_,Z,r,_,_,_,Z,Z,Y,Z,_,_,Z,Z,kF J.1 hp.2,_,_,Z,Z,?_⟩;refine⟨_,Z,r,_,_,_,Z,Z,Y,Z,_,Z,u,_,_,_,Z,Z,O,Z,_,_,Z,Z,kF hp.2 J.2,?_⟩;refine⟨_,_,Z,cD (Nm.den_ne p) (Nm.den_ne q),λz hz=>?_⟩;have e:=k z hz
 try dsimp only at e
 rw[<- Nm.minus_eq]at e;exact e
theorem GV:Eo ["_law_curve","_law_x","_law_found","_law_power","_law_number_here"] ["_law_curve","_law_x"] (El (top 65)):=fsc
theorem Pb(F:Fun K "_law_at" "_law_at" (top 65) f fd)(XD:Fd P w K mg base 34 "_law_plus" kJ (Ge K (· + ·)))(XQ:Fd P w K mg base 34 "_law_times" kJ (Ge K (· * ·)))(hT:kG P) :
 EF P w K mg base CX0 35 f fd kY (TR K):=by
 refine okA F GV λam A outer s H vs Q E hr h=>?_
 refine⟨_,(E6 K (E7 (i:=2) GV (EU (E1 E2 (E1 E2 E8))))
  (E6 K (E7 (i:=3) GV (EU (E1 E2 (E1 E2 E8))))
  (E6 K (Ff (K:=K) PassesOwn.never rfl (piS K (pv 0)) (Eu (i:=4) GV.nd rfl (Or.inl rfl)) (E6 K (E7 (i:=2) GV (Ex XD hr (pv 2) (Ex XQ hr (pv 4) (pv 3))))
  (E5 (E7 (i:=3) GV (Ex XQ hr (pv 3) (pv 1))))) Yr)
  (E5 (Er (pv 2)))))),?_⟩
 obtain⟨b,r,rx,xs,qs,x,n,rfl,hS,hn,hx,hB,ag,hz,q⟩:=h;have hl:=hn.length;have hN:(n+2)*((qs.length+2)*(qs.length+2))=(qs.length+2)*((n+2)*(qs.length+2)):=by rw[<- Nat.mul_assoc,<- Nat.mul_assoc,bY (n+2)]
 rw[hN]at hz q;generalize hM:(n+2)*(qs.length+2)=M at hz q;have aq:n*qs.length+2*n+2*qs.length+4=M:=by rw[<- hM,dg,dA];lia
 have ao:M*2<=30000000:=ZF (by rw[bY];exact dj _ Yl) hz
 refine⟨(by decide:2<=dl),λf hf=>?_⟩
 refine⟨(by decide:2<=dl),λg hg=>?_⟩
 have s0:E4 H (upd (upd H f (.tup [.int 0,.int 1])) g (.tup [.int 1,.int 1])):=(kA hf).trans (kA hg)
 refine Qy (b:=b) (a:=r) (xs:=xs) rfl (L7 H r rx qs x M n λH r rx qs x M n i σ H'=>E4 H H'/\∃(f g:ce) (z:Option V),σ=[some (.ref r),some (.ref rx),some (.ref f),some (.ref g),z]/\H' f=some (nT (Cv.ev (qs.take i) x))/\H' g=some (nT (x ^ i))/\RB ((i+1)*M) (Cv.ev (qs.take i) x)/\RB (n*i+1) (x ^ i))
  ⟨s0,f,g,none,Z,(kA hg) _ _ E3,?_,RB.zero Yl,?_⟩ (λi σ H' _ p=>Sq.same hS p.1) ?_ ?_
 ·rw[cG];exact E3
 ·rw[cG];exact RB.one Yl
 ·rintro i v σ H' hv af;refine FI af λsm J=>?_;refine Kd J λf' g' z O=>?_;clear J;refine LB O λad ef eg bf bg=>?_;clear O;obtain rfl:=ad
  try clear af
  obtain⟨c,hc,al⟩:=(kB hn hv);have hi:i<qs.length:=(ZO.mp hc).1;have ae:c∈qs:=bD hc;have ap:n*i<=n*qs.length:=fG n Yl;have aj:n*(i+1)=n*i+n:=by rw[dA,eS]
  have an:(i+1)*M<=(qs.length+2)*M:=dj _ Yl;have ak:(i+1+1)*M=(i+1)*M+M:=by rw[dg,dh]
  have bt:RB (n+(n*i+1)) (c*x ^ i):=(hB c ae).times bg;refine⟨_,Z,_,Z,_,Z,_,_,_,_,n,n*i+1,Z,al.same sm,kD eg,hB c ae,bg,Yl,λt ht=>?_⟩;have s1:E4 H' (upd H' t (nT (c*x ^ i))):=kA ht;refine⟨_,_,_,_,(i+1)*M,n+(n*i+1),Z,kD (s1 _ _ ef),kD E3,bf,bt,Yl,λu hu=>?_⟩;have s2:=s1.trans (kA (o:=nT (Cv.ev (qs.take i) x+c*x ^ i)) hu);refine⟨_,Z,_,Z,_,_,_,_,n*i+1,n,Z,kD (s2 _ _ eg),(hx.same sm).same s2,bg,ag,Yl,λv' ah=>?_⟩;have s3:=s2.trans (kA (o:=nT (x ^ i*x)) ah)
  have e1:Cv.ev (qs.take (i+1)) x=Cv.ev (qs.take i) x+c*x ^ i:=by
   rw[cL,hc];show Cv.ev (qs.take i++[c]) x=_;rw[Cv.ev_snoc,b9,bO Yl]
  refine⟨sm.trans s3,u,v',_,Z,?_,?_,?_,?_⟩
  ·rw[e1];exact(kA ah) _ _ E3
  ·rw[cH];exact E3
  ·rw[e1,ak];exact(bf.plus bt).mono Yl
  ·rw[cH,aj];exact(bg.times ag).mono Yl
 ·rintro σ H' ai;refine FI ai λsm aa=>?_;refine Kd aa λf' g' z Y=>?_;clear aa;refine LB Y λac ef eg bf bg=>?_;clear Y;obtain rfl:=ac
  try clear ai
  rw[hl,cN]at ef bf;exact⟨_,Z,q _ _ sm ef (bf.mono (dj _ Yl))⟩
theorem Jc:Eo ["some"] ["some"] (El (top 42)):=fsc
theorem LS(F:Fun K "changes_in" "changes_in" (top 42) f fd)(Y0:Fd P w K mg base 33 "sign_changes" ["tops"] (RY K))(hT:kG P) :
 EF P w K mg base CX0 34 f fd ["some"] (OS K):=by
 refine okA F Jc λaa A outer s H vs Q E O h=>?_;refine⟨_,(E5 (Er (Fl Y0 O (GP rfl (N:=["number"]) (nt:=1) (js:=[]) (Gv Jc) (piL K (pv 0)) (λ_ _ _ _ _=>(Eu (i:=0) (nd1 _) rfl (Or.inl rfl))) (EG Yd) (λ_ _ _ _ _=>Fw) (λ_ _ _ _ _=>(E9 (ixT K) (pv 0) E2)))))),?_⟩;obtain⟨l,xs,qs,rfl,J,hn,Y,q⟩:=h;have hl:=hn.length;refine GL ⟨_,Z,l,Z,⟨_,J⟩,?_⟩;refine HX (xs:=xs) (λi zs H'=>H'=H/\zs=((qs.take i).map fK).map V.int) ⟨Z,Z⟩ (λi zs H' hi h=>⟨by rw[h.1];exact J,by rw[h.2,bI,bI,b9];lia⟩) (ZH (ET Yl)) ?_ ?_
 ·rintro i x zs H' hx ⟨rfl,rfl⟩;obtain⟨c,hc,r,rfl,O⟩:=(kB hn hx);refine⟨_,Z,r,_,_,_,Z,Z,O,Z,Z,?_⟩;rw[cL,hc,cM,cM]
  rfl
 rintro zs H' ⟨rfl,rfl⟩ p hp;rw[hl,cN];exact⟨p,qs.map fK,Z,ku E3,by rw[bI];exact Y,λH2 s2=>q _ ((kA hp).trans s2)⟩
theorem Fc:Eo ["_law_curve","_law_piece","_law_low","_law_high","_law_changes","_law_some","_law_t"] ["_law_curve","_law_piece"] (El (top 72)):=fsc
theorem J9(F:Fun K "_law_piece_right" "_law_piece_right" (top 72) f fd)(Y9:Fd P w K mg base 35 "_law_at" kY (TR K))(XD:Fd P w K mg base 34 "_law_plus" kJ (Ge K (· + ·)))(YW:Fd P w K mg base 34 "changes_in" ["some"] (OS K))(XQ:Fd P w K mg base 34 "_law_times" kJ (Ge K (· * ·)))(Ya:Fd P w K mg base 34 "_law_minus" kJ (Ge K (· - ·)))(hT:kG P) :
 EF P w K mg base CX0 36 f fd ["_law_curve","_law_piece"] (TQ K):=by
 refine okA F Fc λaF A outer s H vs Q E hr h=>?_;refine⟨_,(@EJ _ _ _ _ _ K _ (@Iu _ _ _ _ _ _ (pv 1) (@pgT _ K _ _ _ 3 _ rfl (HE (@Eu _ _ 2 _ Fc.nd rfl (Or.inl rfl) (by first   | exact .inl rfl   | exact .inr rfl   | assumption)) (HE (@Eu _ _ 3 _ Fc.nd rfl (Or.inl rfl) (by first   | exact .inl rfl   | exact .inr rfl   | assumption)) (HE (@Eu _ _ 4 _ Fc.nd rfl (Or.inl rfl) (by first   | exact .inl rfl   | exact .inr rfl   | assumption)) MZ))) Yr Yr Yr) Yr Yr Yr) (@EJ _ _ _ _ _ K _ (@HD _ _ 5 _ _ _ _ Fc.nd rfl (Or.inl rfl) (@ER _ _ _ _ E8) Yr (by first   | exact .inl rfl   | exact .inr rfl   | assumption)) (@EJ _ _ _ _ _ K _ (@Ff _ _ _ _ _ _ _ _ K _ PassesOwn.never rfl (@piL _ K _ _ _ (@ER _ _ _ _ (@E1 _ _ _ _ _ (@EU _ _ _ _ _ (@E1 _ _ _ _ _ E2 (@E1 _ _ _ _ _ E2 E8 Yr) Yr)) (@E1 _ _ _ _ _ (@EU _ _ _ _ _ (@E1 _ _ _ _ _ E2 (@E1 _ _ _ _ _ E2 E8 Yr) Yr)) (@E1 _ _ _ _ _ (@EU _ _ _ _ _ (@E1 _ _ _ _ _ E2 (@E1 _ _ _ _ _ E2 E8 Yr) Yr)) (@E1 _ _ _ _ _ (@EU _ _ _ _ _ (@E1 _ _ _ _ _ E2 (@E1 _ _ _ _ _ E2 E8 Yr) Yr)) E8 Yr) Yr) Yr) Yr)) Yr) (@Eu _ _ 6 _ Fc.nd rfl (Or.inl rfl) (by first   | exact .inl rfl   | exact .inr rfl   | assumption)) (@E5 _ _ _ (@Gq _ _ _ _ (@GW _ _ _ _ _ _ _ _ _ _ _ _ K PySem.F.plainAttrs_list PySem.F.slot_list_append PySem.F.type_list_append FQ (pv 5) (@E1 _ _ _ _ _ (@Fz _ _ _ _ _ _ _ _ _ _ _ Y9 hr rfl (@E1 _ _ _ _ _ (pv 0) (@E1 _ _ _ _ _ (@Fz _ _ _ _ _ _ _ _ _ _ _ XD hr rfl (@E1 _ _ _ _ _ (pv 2) (@E1 _ _ _ _ _ (@Fz _ _ _ _ _ _ _ _ _ _ _ XQ hr rfl (@E1 _ _ _ _ _ (@Fz _ _ _ _ _ _ _ _ _ _ _ Ya hr rfl (@E1 _ _ _ _ _ (pv 3) (@E1 _ _ _ _ _ (pv 2) E8 Yr) Yr) Yd Yd Yr Yr) (@E1 _ _ _ _ _ (pv 6) E8 Yr) Yr) Yd Yd Yr Yr) E8 Yr) Yr) Yd Yd Yr Yr) E8 Yr) Yr) Yd Yd Yr Yr) E8 Yr) Yr Yr Yr Yr Yr Yr) Yr)) Yr (by intro _;rfl)) (@EJ _ _ _ _ _ K _ (@IL _ _ _ _ _ _ _ _ K _ _ (@G6 _ _ _ _ _ _ _ _ Hf (pv 4) E2 (FP _)) (@E5 _ _ _ (@Er _ _ _ _ (@Vt _ _ _ _ _ _ _ (@Ho _ _ _ _ _ _ _ _ Hf (@Fz _ _ _ _ _ _ _ _ _ _ _ YW hr rfl (@E1 _ _ _ _ _ (pv 5) E8 Yr) Yd Yd Yr Yr) E2 (FP _)) (@Vr _ _ _ _ _ (@Ho _ _ _ _ _ _ _ _ (Sx K hr) (@EU _ _ _ _ _ (@E1 _ _ _ _ _ E2 (@E1 _ _ _ _ _ E2 E8 Yr) Yr)) (@Jy _ _ _ _ _ _ _ _ _ _ (slL K) (pv 5) (@Jx _ _ _ E2) (@Jx _ _ _ E2)) (by with_unfolding_all rfl)))))) EK Yr Yr) (@E5 _ _ _ (@Er _ _ _ _ (@Ho _ _ _ _ _ _ _ _ Hf (pv 4) E2 (FP _)))) Yr) Yr) Yr) Yr),?_⟩
 obtain⟨r,p,rl,rh,fs,lo,hi,v,n,rfl,hc,h4,bf,hn,hS,ah,au,ae,ad,ak,hv,an,q⟩:=h;have P0:0<=dl:=by decide
 have P2:2<=dl:=by decide
 refine⟨_,Z,p,_,Z,hS,Z,_,_,Z,_,_,Z,_,_,Z,Z,?_⟩;have P4:4<=dl:=by decide
 refine⟨P0,λl hl=>⟨P2,λY az=>⟨P2,λO ar=>⟨P2,λt2 aA=>⟨P2,λJ aD=>⟨P4,λtl aq=>?_⟩⟩⟩⟩⟩⟩;have sl:=kA (o:=.lst []) hl;have s0:=kA (o:=.tup [.int 0,.int 1]) az;have s1:=kA (o:=.tup [.int 1,.int 3]) ar;have s2:=kA (o:=.tup [.int 3,.int 4]) aA;have s3:=kA (o:=.tup [.int 1,.int 1]) aD;have s4:=kA (o:=.lst [.ref Y,.ref O,.ref t2,.ref J]) aq
 have hT:ED K (upd (upd (upd (upd (upd (upd H l (.lst [])) Y (.tup [.int 0,.int 1])) O (.tup [.int 1,.int 3])) t2 (.tup [.int 3,.int 4])) J (.tup [.int 1,.int 1])) tl (.lst [.ref Y,.ref O,.ref t2,.ref J])) [.ref Y,.ref O,.ref t2,.ref J] T4 :=
  .cons (kD (s4 _ _ (s3 _ _ (s2 _ _ (s1 _ _ E3))))) (.cons (kD (s4 _ _ (s3 _ _ (s2 _ _ E3)))) (.cons (kD (s4 _ _ (s3 _ _ E3))) (.cons (kD (s4 _ _ E3)) .nil)))
 have el:=s4 _ _ (s3 _ _ (s2 _ _ (s1 _ _ (s0 _ _ (E3 (H:=H) (a:=l) (o:=.lst []))))));have aa:=E3 (H:=upd (upd (upd (upd (upd H l (.lst [])) Y (.tup [.int 0,.int 1])) O (.tup [.int 1,.int 3])) t2 (.tup [.int 3,.int 4])) J (.tup [.int 1,.int 1])) (a:=tl) (o:=.lst [.ref Y,.ref O,.ref t2,.ref J]);have sG:=((((sl.trans s0).trans s1).trans s2).trans s3).trans s4;have aB:l≠tl:=Ez (s3 _ _ (s2 _ _ (s1 _ _ (s0 _ _ (E3 (H:=H) (a:=l) (o:=.lst [])))))) aq;generalize upd (upd (upd (upd (upd (upd H l (.lst [])) Y (.tup [.int 0,.int 1])) O (.tup [.int 1,.int 3])) t2 (.tup [.int 3,.int 4])) J (.tup [.int 1,.int 1])) tl (.lst [.ref Y,.ref O,.ref t2,.ref J])=G at hT el aa sG ⊢;refine⟨tl,Z,⟨_,ku aa⟩,?_⟩;have bT:∀t∈T4,RB 4 t:=Wq;have k3:3+1=T4.length:=rfl
 refine JM (xs:=[.ref Y,.ref O,.ref t2,.ref J]) (L16 H tl Y O t2 J K l fs lo hi r p rl rh v λH tl Y O t2 J K l fs lo hi r p rl rh v j σ H'=>E4 H H'/\H' tl=some (.lst [.ref Y,.ref O,.ref t2,.ref J])/\ED K H' [.ref Y,.ref O,.ref t2,.ref J] T4/\∃zs z6,H' l=some (.lst zs)/\zs.length=j/\ED K H' zs ((T4.take j).map λt=>Cv.ev fs (lo+(hi-lo)*t))/\σ=[some (.ref r),some (.ref p),some (.ref rl),some (.ref rh),some (.int ((v:Nat):Int)),some (.ref l),z6])
  ⟨sG,aa,hT,[],none,el,Z,.nil,Z⟩ (λj σ H' _ h=>ku h.2.1) ?_ ?_
 ·rintro j u σ H' hu aj;obtain⟨sm,aa,hT,zs,z6,el,ac,hz,rfl⟩:=aj
  try clear aj
  obtain⟨T,ap,aC⟩:=(kB hT hu);have bt:=bT T (bD ap);have ao:RB 341 (hi-lo):=(ak.minus ad).mono Yd;have aG:=hl;refine⟨_,Z,.inl ⟨Z,_,ku el⟩,_,Z,_,Z,_,Z,_,Z,_,_,_,_,170,170,Z,au.same sm,ah.same sm,ak,ad,Yd,λu1 ax=>?_⟩;have sa:=kA (o:=nT (hi-lo)) ax;refine⟨_,Z,_,_,_,_,341,4,Z,kD E3,aC.same sa,ao,bt,Yd,λu2 aE=>?_⟩;have sb:=sa.trans (kA (o:=nT ((hi-lo)*T)) aE);have bp:=ao.times bt;refine⟨_,_,_,_,170,345,Z,(ah.same sm).same sb,kD E3,ad,bp,Yd,λu3 as=>?_⟩;have sc:=sb.trans (kA (o:=nT (lo+(hi-lo)*T)) as);have bX:=ad.plus bp;have ai:=E3 (H:=upd (upd H' u1 (nT (hi-lo))) u2 (nT ((hi-lo)*T))) (a:=u3) (o:=nT (lo+(hi-lo)*T));generalize upd (upd (upd H' u1 (nT (hi-lo))) u2 (nT ((hi-lo)*T))) u3 (nT (lo+(hi-lo)*T))=Hx at sc ai ⊢;obtain⟨xd,av,al⟩:=(hc.same (sm.trans sc));have hsz:(1000+2)*((fs.length+2)*(fs.length+2))<=1002*(6*6):=fG _ (eE Yl Yl);refine⟨false,r,u3,xd,fs,lo+(hi-lo)*T,1000,Z,av,al,kD ai,(λq hq=>(bf q hq).mono Yl),bX.mono Yd,Yl,λv' Hv sv ev bv=>?_⟩;have s9:=sc.trans sv;have af:=s9 _ _ el;refine⟨l,zs,.ref v',Z,Z,af,Zw (by have:j<4:=(ZO.mp hu).1;lia:zs.length<300) Yd,?_⟩
  refine⟨(sm.trans s9).put hl,by rw[EC aB.symm];exact s9 _ _ aa,ED.put (kE hT s9) af,zs++[.ref v'],_,E3,by rw[bH,ac];rfl,?_,Z⟩
  rw[cL,ap];show ED K _ _ ((T4.take j++[T]).map _);rw[cM];exact ED.put (Paired.snoc (kE hz s9) (kD ev)) af
 ·rintro σ H' am;obtain⟨sm,aa,hT,zs,z6,el,ac,hz,rfl⟩:=am
  try clear am
  replace hz:ED K H' zs (T4.map λt=>Cv.ev fs (lo+(hi-lo)*t)):=hz
  have ac:zs.length=4:=ac;refine⟨_,Z,Z,_,Z,?_⟩;by_cases h0:v=0
  ·subst h0;refine Ft (by first | rfl | decide) ?_
   rw[Wr (Cv.ev fs)]at hz;obtain⟨x1,x2⟩:=(Pl ae (t:=T13) Yd Yd);obtain⟨y1,y2⟩:=(Pl ae (t:=T34) Yd Yd);obtain⟨e0,nx,ny⟩:=(Ux (GN fs) ae (an rfl) x1 x2 y1 y2);refine LZ (Uv ac) λa0 a1 a2 a3 ag=>?_;obtain rfl:=ag;refine⟨_,Z,l,_,_,Z,ku el,hz,(by decide:4<=1000),λH1 s1=>?_⟩
   rw[e0];refine⟨Z,_,Z,LX ⟨P2,λu hu=>⟨_,Z,1,Z,3,Z,l,_,Z,ku ((kA hu) _ _ (s1 _ _ el)),λpp aw=>?_⟩⟩⟩;have sa:=kA (o:=.tup [.int 0,.int 1]) hu;have sb:=kA (o:=.lst (IV [a0,a1,a2,a3] (some 1) (some 3))) aw;have ay:=kE hz ((s1.trans sa).trans sb);cases ay with
   | cons _ w =>
   cases w with
   | cons w1 w =>
   cases w with
   | cons w2 w =>
   refine L2.inN (q:=0) (qs:=[_,_]) (kD (sb _ _ (show upd H1 u (.tup [.int 0,.int 1]) u=some (nT 0) from E3))) (ku (xs:=[a1,a2]) E3) (.cons w1 (.cons w2 .nil)) ?_
   rw[decide_eq_false (λz=>by
    rcases ZL.mp z with z | z
    ·exact nx z.symm
    ·exact ny (cY.mp z).symm)]
   exact q _ (((sm.trans s1).trans sa).trans sb)
  ·have h1:v=1:=by lia
   subst h1;refine F0 (by first | rfl | decide) ?_
   exact⟨_,Z,Z,q H' sm⟩
theorem GU:Eo ["_law_script","_law_pen_here","_law_points_here","_law_curve","_law_low","_law_high","_law_pieces","_law_k","_law_whole","_law_other","_law_middle","_law_parts","_law_slope"] ["_law_script"] (El (top 73)):=fsc
theorem VD(F:Fun K "law" "law" (top 73) f fd)(aE:mg "TooDeep" = some (.ref aa))(aD:eV K (.ref aa) (.ref aa)=some true)(ad:FdY P w K mg base 38 "pieces_of" kK (λvs H Q E=>((λ_ _ _ _=>False:Sp):Sp) vs H Q E\/(KU K aa:Sp) vs H Q E))(YX:Fd P w K mg base 33 "_law_pen" ["_law_script","_law_k"] (RZ K))(YY:Fd P w K mg base 36 "_law_points" ["_law_pen_here","_law_most"] (JY K 8))(YZ:Fd P w K mg base 39 "curve_through" kI (MI K))(Z0:Fd P w K mg base 36 "_law_ends" kZ (MP K))(Ys:Fd P w K mg base 38 "pieces_of" kK ((λ_ _ _ _=>False:Sp)))(XI:Fd P w K mg base 40 "_law_counted" lc (PV K))(XD:Fd P w K mg base 34 "_law_plus" kJ (Ge K (· + ·)))(Y8:Fd P w K mg base 36 "slope_of" ["curve"] (Ky K))(al:Fd P w K mg base 36 "scaled" ["curve","number"] (KR K))(Z1:Fd P w K mg base 36 "multiplied" kM (MM K))(XQ:Fd P w K mg base 34 "_law_times" kJ (Ge K (· * ·)))(Ya:Fd P w K mg base 34 "_law_minus" kJ (Ge K (· - ·)))(Xz:Fd P w K mg base 33 "_law_lowest" kX (HB))(Z2:Fd P w K mg base 36 "_law_piece_right" ["_law_curve","_law_piece"] (TQ K))(Xx:Fd P w K mg base 33 "_law_draw" kP (Ji))(Y9:Fd P w K mg base 35 "_law_at" kY (TR K))(Xu:mg "range" = none)(Xt:mg "len" = none)(XF:mg "sum" = none)(aL:mg "int" = none)(hT:kG P) :
 EF P w K mg base CX0 41 f fd ["_law_script"] (NK K):=by
 refine okA F GU λco A outer s H vs Q E hr h=>?_;refine⟨_,(@EJ _ _ _ _ _ K _ (@HD _ _ 1 _ _ _ _ GU.nd rfl (Or.inl rfl) (@Fz _ _ _ _ _ _ _ _ _ _ _ YX hr rfl (@E1 _ _ _ _ _ (pv 0) (@E1 _ _ _ _ _ E2 E8 Yr) Yr) Yd Yd Yr Yr) Yr (by first   | exact .inl rfl   | exact .inr rfl   | assumption)) (@EJ _ _ _ _ _ K _ (@HD _ _ 2 _ _ _ _ GU.nd rfl (Or.inl rfl) (@Fz _ _ _ _ _ _ _ _ _ _ _ YY hr rfl (@E1 _ _ _ _ _ (pv 1) (@E1 _ _ _ _ _ E2 E8 Yr) Yr) Yd Yd Yr Yr) Yr (by first   | exact .inl rfl   | exact .inr rfl   | assumption)) (@EJ _ _ _ _ _ K _ (@HD _ _ 3 _ _ _ _ GU.nd rfl (Or.inl rfl) (@Fz _ _ _ _ _ _ _ _ _ _ _ YZ hr rfl (@E1 _ _ _ _ _ (pv 2) E8 Yr) Yd Yd Yr Yr) Yr (by first   | exact .inl rfl   | exact .inr rfl   | assumption)) (@EJ _ _ _ _ _ K _ (@Iu _ _ _ _ _ _ (@Fz _ _ _ _ _ _ _ _ _ _ _ Z0 hr rfl (@E1 _ _ _ _ _ (pv 1) (@E1 _ _ _ _ _ (pv 2) E8 Yr) Yr) Yd Yd Yr Yr) (@pgT _ K _ _ _ 2 _ rfl (HE (@Eu _ _ 4 _ GU.nd rfl (Or.inl rfl) (by first   | exact .inl rfl   | exact .inr rfl   | assumption)) (HE (@Eu _ _ 5 _ GU.nd rfl (Or.inl rfl) (by first   | exact .inl rfl   | exact .inr rfl   | assumption)) MZ)) Yr Yr Yr) Yr Yr Yr) (@EJ _ _ _ _ _ K _ (@IL _ _ _ _ _ _ _ _ K _ _ (@PW.pt _ _ _ (@Q6 _ _ _ _ _ _ _ (@G6 _ _ _ _ _ _ _ _ (eqD K hr.units) (pv 3) (@EU _ _ _ _ _ E8) (FP _)) (@MW _ _ _ _ (@G6 _ _ _ _ _ _ _ _ Ss (@Fz _ _ _ _ _ _ _ _ _ _ _ XI hr rfl (@E1 _ _ _ _ _ (pv 3) (@E1 _ _ _ _ _ (pv 4) (@E1 _ _ _ _ _ (pv 5) E8 Yr) Yr) Yr) Yd Yd Yr Yr) La (FP _))))) (@E5 _ _ _ (@Er _ _ _ _ Mb)) EK Yr Yr) (@EJ _ _ _ _ _ K _ (@HD _ _ 6 _ _ _ _ GU.nd rfl (Or.inl rfl) (@OZ _ _ _ _ _ _ _ _ _ _ _ _ ad hr rfl Vv (@E1 _ _ _ _ _ (pv 3) (@E1 _ _ _ _ _ (pv 4) (@E1 _ _ _ _ _ (pv 5) E8 Yr) Yr) Yr) Yd Yd Yr Yr) Yr (by first   | exact .inl rfl   | exact .inr rfl   | assumption)) (@EJ _ _ _ _ _ K _ (@IL _ _ _ _ _ _ _ _ K _ _ (@PW.pt _ _ _ (@Q6 _ _ _ _ _ _ _ (@G6 _ _ _ _ _ _ _ _ (neD K hr.units) (@Jd _ _ _ _ _ _ _ (ixT K) (@Jd _ _ _ _ _ _ _ (ixL K) (pv 6) E2 (λu v=>rfl)) E2 (λu v=>rfl)) (pv 4) (FP _)) (@MW _ _ _ _ (@G6 _ _ _ _ _ _ _ _ (neD K hr.units) (@Jd _ _ _ _ _ _ _ (ixT K) (@Jd _ _ _ _ _ _ _ (ixL K) (pv 6) (@HF _ _ _ _ _ _ GB E2) (λu v=>rfl)) E2 (λu v=>rfl)) (pv 5) (FP _))))) (@E5 _ _ _ (@Er _ _ _ _ Mb)) EK Yr Yr) (@EJ _ _ _ _ _ K _ (@Ff _ _ _ _ _ _ _ _ K _ PassesOwn.never rfl (@FD _ _ _ _ _ _ rfl Xu (@E1 _ _ _ _ _ (@Hc _ _ _ _ _ _ _ _ _ (WJ K) rfl Xt Tg (@E1 _ _ _ _ _ (pv 6) E8 Yr) Yd Yd Yr Yr) E8 Yr) Yr) (@Eu _ _ 7 _ GU.nd rfl (Or.inl rfl) (by first   | exact .inl rfl   | exact .inr rfl   | assumption)) (@E5 _ _ _ (@IL _ _ _ _ _ _ _ _ K _ _ (@PW.pt _ _ _ (@Q6 _ _ _ _ _ _ _ (@PW.pt _ _ _ (@Jj _ _ _ _ _ _ _ (@G6 _ _ _ _ _ _ _ _ GQ (pv 7) E2 (FP _)) (@Ir _ _ _ _ (@G6 _ _ _ _ _ _ _ _ (neD K hr.units) (@Jd _ _ _ _ _ _ _ (ixT K) (@Jd _ _ _ _ _ _ _ (ixL K) (pv 6) (pv 7) (λu v=>rfl)) E2 (λu v=>rfl)) (@Jd _ _ _ _ _ _ _ (ixT K) (@Jd _ _ _ _ _ _ _ (ixL K) (pv 6) (@Em _ _ _ _ _ _ _ _ EV (pv 7) E2) (λu v=>rfl)) E2 (λu v=>rfl)) (FP _))))) (@MW _ _ _ _ (@S9 _ _ _ _ (@OX _ _ _ (@Fz _ _ _ _ _ _ _ _ _ _ _ Z2 hr rfl (@E1 _ _ _ _ _ (pv 3) (@E1 _ _ _ _ _ (@Jd _ _ _ _ _ _ _ (ixL K) (pv 6) (pv 7) (λu v=>rfl)) E8 Yr) Yr) Yd Yd Yr Yr) (by intro _;rfl)))))) (@E5 _ _ _ (@Er _ _ _ _ Mb)) EK Yr Yr)) Yr (by intro _;rfl)) (@EJ _ _ _ _ _ K _ (@HD _ _ 8 _ _ _ _ GU.nd rfl (Or.inl rfl) (@Fz _ _ _ _ _ _ _ _ _ _ _ XI hr rfl (@E1 _ _ _ _ _ (pv 3) (@E1 _ _ _ _ _ (pv 4) (@E1 _ _ _ _ _ (pv 5) E8 Yr) Yr) Yr) Yd Yd Yr Yr) Yr (by first   | exact .inl rfl   | exact .inr rfl   | assumption)) (@EJ _ _ _ _ _ K _ (@Ff _ _ _ _ _ _ _ _ K _ PassesOwn.never rfl (@piL _ K _ _ _ (@ER _ _ _ _ (@E1 _ _ _ _ _ (@Fz _ _ _ _ _ _ _ _ _ _ _ al hr rfl (@E1 _ _ _ _ _ (pv 3) (@E1 _ _ _ _ _ (@EU _ _ _ _ _ (@E1 _ _ _ _ _ (@HF _ _ _ _ _ _ GB E2) (@E1 _ _ _ _ _ E2 E8 Yr) Yr)) E8 Yr) Yr) Yd Yd Yr Yr) (@E1 _ _ _ _ _ (@Fz _ _ _ _ _ _ _ _ _ _ _ Z1 hr rfl (@E1 _ _ _ _ _ (pv 3) (@E1 _ _ _ _ _ (pv 3) E8 Yr) Yr) Yd Yd Yr Yr) E8 Yr) Yr)) Yr) (@Eu _ _ 9 _ GU.nd rfl (Or.inl rfl) (by first   | exact .inl rfl   | exact .inr rfl   | assumption)) (@E5 _ _ _ (@IL _ _ _ _ _ _ _ _ K _ _ (@G6 _ _ _ _ _ _ _ _ NT (@Fz _ _ _ _ _ _ _ _ _ _ _ XI hr rfl (@E1 _ _ _ _ _ (pv 9) (@E1 _ _ _ _ _ (pv 4) (@E1 _ _ _ _ _ (pv 5) E8 Yr) Yr) Yr) Yd Yd Yr Yr) (pv 8) (FP _)) (@E5 _ _ _ (@Er _ _ _ _ Mb)) EK Yr Yr)) Yr (by intro _;rfl)) (@EJ _ _ _ _ _ K _ (@HD _ _ 10 _ _ _ _ GU.nd rfl (Or.inl rfl) (@Fz _ _ _ _ _ _ _ _ _ _ _ XD hr rfl (@E1 _ _ _ _ _ (pv 4) (@E1 _ _ _ _ _ (@Fz _ _ _ _ _ _ _ _ _ _ _ XQ hr rfl (@E1 _ _ _ _ _ (@Fz _ _ _ _ _ _ _ _ _ _ _ Ya hr rfl (@E1 _ _ _ _ _ (pv 5) (@E1 _ _ _ _ _ (pv 4) E8 Yr) Yr) Yd Yd Yr Yr) (@E1 _ _ _ _ _ (@Fz _ _ _ _ _ _ _ _ _ _ _ Xz hr rfl (@E1 _ _ _ _ _ (@Em _ _ _ _ _ _ _ _ EH E2 (@Fz _ _ _ _ _ _ _ _ _ _ _ Xx hr rfl (@E1 _ _ _ _ _ (pv 1) (@E1 _ _ _ _ _ E2 E8 Yr) Yr) Yd Yd Yr Yr)) (@E1 _ _ _ _ _ E2 E8 Yr) Yr) Yd Yd Yr Yr) E8 Yr) Yr) Yd Yd Yr Yr) E8 Yr) Yr) Yd Yd Yr Yr) Yr (by first   | exact .inl rfl   | exact .inr rfl   | assumption)) (@EJ _ _ _ _ _ K _ (@HD _ _ 11 _ _ _ _ GU.nd rfl (Or.inl rfl) (@ER _ _ _ _ (@E1 _ _ _ _ _ (@Fz _ _ _ _ _ _ _ _ _ _ _ XI hr rfl (@E1 _ _ _ _ _ (pv 3) (@E1 _ _ _ _ _ (pv 4) (@E1 _ _ _ _ _ (pv 10) E8 Yr) Yr) Yr) Yd Yd Yr Yr) (@E1 _ _ _ _ _ (@Fz _ _ _ _ _ _ _ _ _ _ _ XI hr rfl (@E1 _ _ _ _ _ (pv 3) (@E1 _ _ _ _ _ (pv 10) (@E1 _ _ _ _ _ (pv 5) E8 Yr) Yr) Yr) Yd Yd Yr Yr) E8 Yr) Yr)) Yr (by first   | exact .inl rfl   | exact .inr rfl   | assumption)) (@EJ _ _ _ _ _ K _ (@IL _ _ _ _ _ _ _ _ K _ _ (@PW.pt _ _ _ (@Jj _ _ _ _ _ _ _ (@G6 _ _ _ _ _ _ _ _ (Sx K hr) La (pv 11) (by with_unfolding_all rfl)) (@Ir _ _ _ _ (@G6 _ _ _ _ _ _ _ _ NT (@Em _ _ _ _ _ _ _ _ EV (@Hc _ _ _ _ _ _ _ _ _ (Mr rfl) rfl XF Tf (@E1 _ _ _ _ _ (pv 11) E8 Yr) Yd Yd Yr Yr) (@Hy _ _ _ _ _ _ _ _ _ RC rfl aL W9 (@E1 _ _ _ _ _ (@Ho _ _ _ _ _ _ _ _ (eqD K hr.units) (@Fz _ _ _ _ _ _ _ _ _ _ _ Y9 hr rfl (@E1 _ _ _ _ _ (pv 3) (@E1 _ _ _ _ _ (pv 10) E8 Yr) Yr) Yd Yd Yr Yr) (@EU _ _ _ _ _ (@E1 _ _ _ _ _ E2 (@E1 _ _ _ _ _ E2 E8 Yr) Yr)) (FP _)) E8 Yr) Yd Yd Yr Yr)) (pv 8) (FP _))))) (@E5 _ _ _ (@Er _ _ _ _ Mb)) EK Yr Yr) (@EJ _ _ _ _ _ K _ (@HD _ _ 12 _ _ _ _ GU.nd rfl (Or.inl rfl) (@Fz _ _ _ _ _ _ _ _ _ _ _ Y8 hr rfl (@E1 _ _ _ _ _ (pv 3) E8 Yr) Yd Yd Yr Yr) Yr (by first   | exact .inl rfl   | exact .inr rfl   | assumption)) (@EJ _ _ _ _ _ K _ (@IL _ _ _ _ _ _ _ _ K _ _ (@PW.pt _ _ _ (@Q6 _ _ _ _ _ _ _ (@G6 _ _ _ _ _ _ _ _ (eqD K hr.units) (pv 12) (@EU _ _ _ _ _ E8) (FP _)) (@MW _ _ _ _ (@G6 _ _ _ _ _ _ _ _ Ss (@Fz _ _ _ _ _ _ _ _ _ _ _ XI hr rfl (@E1 _ _ _ _ _ (pv 12) (@E1 _ _ _ _ _ (pv 4) (@E1 _ _ _ _ _ (pv 5) E8 Yr) Yr) Yr) Yd Yd Yr Yr) La (FP _))))) (@E5 _ _ _ (@Er _ _ _ _ Mb)) EK Yr Yr) (@E5 _ _ _ (@Er _ _ _ _ (@Ho _ _ _ _ _ _ _ _ UQ (@Fz _ _ _ _ _ _ _ _ _ _ _ XI hr rfl (@E1 _ _ _ _ _ (pv 12) (@E1 _ _ _ _ _ (pv 4) (@E1 _ _ _ _ _ (pv 5) E8 Yr) Yr) Yr) Yd Yd Yr Yr) (@Em _ _ _ _ _ _ _ _ EV (pv 8) E2) (FP _)))) Yr) Yr) Yr) Yr) Yr) Yr) Yr) Yr) Yr) Yr) Yr) Yr) Yr) Yr) Yr),?_⟩
 obtain⟨a,ns,rfl,hS,bF,q⟩:=h;have P0:0<=dl:=by decide
 have P2:2<=dl:=by decide
 refine⟨_,Z,a,ns,0,Z,hS,bF,Yl,Yl,λp c0 c1 hp=>?_⟩;have pn:Pen (upd H p (.lst [.int c0,.int c1,.int 0])) p:=.put;generalize upd H p (.lst [.int c0,.int c1,.int 0])=H1 at pn ⊢;clear hS hp;refine⟨_,Z,p,4,Z,pn,Yd,Yd,λr H2 xs pss m2 p2 hS hP au hb h1 bE aB aS=>?_⟩;have ae:∀ps∈pss,∀q∈ps,RB 16 q:=hb;have ar:∀ps∈pss,RB 16 (ps.getD 0 0):=λps hp=>ae ps hp _ (EZ (by have:=au ps hp;lia))
 have bP:=hP.length;have bh:=Th (h:=16) (n:=16) (k:=4) (m:=4) (c:=50) Yd (ZR _);refine⟨_,Z,r,xs,pss,16,16,800,Z,hS,hP,au,Yl,aS,Yl,ae,ar,Yd,Yd,λc J=>(R6 au ae ar Yd Yl c J).mono bh,Yd,Yd,λcf H3 cs s3 aW b0 hg bB ba=>?_⟩;have p3:=p2.sm s3;refine⟨_,Z,_,Z,p,r,xs,pss,Z,p3,hS.same s3,Gu.same hP s3,aS,(λps hp=>(ar ps hp).mono Yd),λt rl rh lo hi H4 m4 p4 et Y O ac ao aJ=>?_⟩;refine⟨t,_,Z,kw et,Z,_,_,Z,_,_,Z,Z,?_⟩;have J:=aW.mv p3 m4;obtain⟨L,bL,oL⟩:=(W6 au Yl ae ar ba);have ak:cs.length<=4:=by lia
 clear bB ba bh hb ae ar hP hS au aS et m4 m2 p2 p3 s3 aW pn bE aB h1 bP b0;refine⟨_,Z,P0,λe he=>?_⟩;have se:=kA (o:=.tup []) he;refine eqT (J.same se) ⟨[],kw E3,.nil⟩ ?_;refine⟨_,Z,?_⟩;by_cases h0:cs=[]
 ·exact Ft (by rw[decide_eq_true h0]<;>rfl) (LX (q _))
 rw[decide_eq_false h0];have C:Cf cs:=⟨hg,h0,ak,L,bL.mono Yd,Iv oL Yd⟩
 replace J:=J.same se
 replace Y:=Y.same se
 replace O:=O.same se
 replace p4:=p4.sm se
 generalize upd H4 e (.tup [])=H5 at J Y O p4 ⊢;clear se he;have ag:=ao.mono (by decide:20<=70)
 have af:=aJ.mono (by decide:20<=70)
 refine IB ⟨_,Z,_,Z,_,Z,⟨cf,rl,rh,cs,lo,hi,910,Z,J,hg,h0,C.rb,Yd,Yd,Yl,Y,O,ac,ag,af,λls g LL=>⟨(C.lone LL).1,(C.lone LL).2,λps H6 e6 s6=>?_,λH6 e6 s6=>?_⟩⟩⟩
 rotate_left
 ·exact⟨Z,_,Z,Ft (by first | rfl | decide) (q _)⟩
 refine⟨Z,_,Z,F0 (by first | rfl | decide) ?_⟩
 replace J:=J.same s6
 replace Y:=Y.same s6
 replace O:=O.same s6
 replace p4:=p4.sm s6
 clear s6 H5 H4 H3 H2 H1;refine⟨_,Z,_,Z,_,Z,.inr ⟨cf,rl,rh,cs,lo,hi,910,Z,J,hg,h0,C.rb,Yd,Yd,Yl,Y,O,ac,ag,af,λcj g2 L2=>⟨(C.lone L2).1,(C.lone L2).2,λcb pf H7 ys e7 s7 br ef am=>?_,λH7 e7 s7=>by rw[LL.one L2,e6]at e7;cases e7⟩⟩⟩
 rw[LL.one L2,e6]at e7;obtain rfl:ps=cb:=Zu.inj e7
 replace J:=J.same s7
 replace Y:=Y.same s7
 replace O:=O.same s7
 replace p4:=p4.sm s7
 clear s7 e7 L2 br;obtain⟨aP,az,aC⟩:=(He LL.gl LL.nl 16 lo hi ps ac e6);refine SR (Dy.start ag af) λD ah=>?_;refine Kf ah λd0 d1 y1 y2=>?_;clear ah;have a3:=N0 d0 d1 16 0 lo hi ps Yd y1 y2 e6;have aY:=am.length;have bv:=KA ls 16 lo hi ps e6;clear y1 y2 d0 d1 aP;obtain⟨tf,bg,bd⟩:=az.first;obtain⟨te,bn,bf⟩:=az.last;obtain⟨v1,a9,q1,a1,b1,rfl,aZ,aK,bT⟩:=(kC am bg);obtain⟨v2,aG,q2,a2,b2,rfl,a8,a0,ap⟩:=(kC am bn);rw[bd]at aK;rw[bf]at ap;rw[<- aY]at aG;refine⟨_,Z,pf,ys,_,_,Z,Z,ku ef,Ew (j:=0) a9,q1,_,_,_,Z,Z,aZ,Ew (j:=0) rfl,_,Z,eqN aK Y ?_⟩;refine⟨_,Z,F0 (by first | rfl | decide | exact(by rw[decide_eq_true rfl];rfl)) ?_⟩
 refine⟨_,Z,_,Z,pf,ys,_,_,Z,Z,ku ef,HL aG,q2,_,_,_,Z,Z,a8,Ew (j:=1) rfl,_,Z,eqN ap O ?_⟩;refine⟨_,Z,F0 (by first | rfl | decide | exact(by rw[decide_eq_true rfl];rfl)) ?_⟩
 clear aZ a8 aK a0 bT ap a9 aG bg bn bd bf;have bx:(2:Nat) ^ 16=65536:=by decide
 refine⟨_,Z,pf,ys,Z,.inl (ku ef),_,Z,Yl,Yl,?_⟩;rw[bN];refine G4 (n:=ys.length) (L8 H7 a p r cf rl rh pf λH7 a p r cf rl rh pf _ σ G=>E4 H7 G/\∃z7,σ=[some (.ref a),some (.ref p),some (.ref r),some (.ref cf),some (.ref rl),some (.ref rh),some (.ref pf),z7,none,none,none,none,none]) ⟨λ_ _ h=>h,none,Z⟩ ?_ ?_
 ·rintro i σ G hi ⟨sg,z7,rfl⟩;obtain⟨v,hv⟩:∃v,ys[i]? = some v:=⟨_,cZ hi⟩;obtain⟨t',ht,pp,ra,rb,rfl,hS,na,nb⟩:=(kB am hv);obtain⟨t1,t2⟩:=(aC t' (bD ht));obtain⟨b1,b2⟩:=(a3 t' (bD ht));have ei:atI ys (0+(i:Int))=some (.ref pp):=by rw[fJ];exact Ew hv
  have bc:∀{Qt:Bool->Hp->Prop},(∀G',E4 G G'->Qt false G')->Wj (tB (KN (TQ K) [] E0 (ID (LH 3) (ID (tOp (U4 K) (LH 6) (LH 7)) OM)))) [some (.ref a),some (.ref p),some (.ref r),some (.ref cf),some (.ref rl),some (.ref rh),some (.ref pf),some (.int (0+(i:Int))),none,none,none,none,none] G Qt:=fun{Qt} hq =>
   ⟨_,Z,_,Z,_,Z,pf,ys,_,_,Z,Z,ku (sg _ _ ef),ei,cf,pp,ra,rb,cs,t'.1,t'.2.1,t'.2.2,910,Z,J.same sg,ak,C.rb,Yd,hS.same sg,na.same sg,nb.same sg,t1,b1,b2,by rcases t2 with z | z<;>lia,(λz=>by
    rcases t2 with y | y
    ·exact LL.con ak y.2
    ·lia),λG' s'=>⟨_,Z,hq G' s'⟩⟩
  refine⟨_,Z,_,_,Z,Z,_,Z,?_⟩;by_cases hi0:i=0
  ·exact F0 (by rw[decide_eq_false (by lia:¬(0:Int)<0+(i:Int))]<;>rfl) (IB (bc λG' s'=>IB ⟨sg.trans s',_,Z⟩))
  rw[decide_eq_true (show(0:Int)<0+(i:Int) by lia)]
  obtain⟨u,hu⟩:∃u,ys[i-1]? = some u:=⟨_,cZ Yl⟩;obtain⟨bG,b8,a4,ci,cm,rfl,bo,a0,ap⟩:=(kB am hu);have en:=az.next (i-1) bG t' b8 (by rw[show i-1+1=i by lia];exact ht)
  have b3:atI ys (0+(i:Int)-1)=some (.ref a4):=by rw[show 0+(i:Int)-1=((i-1:Nat):Int) by lia];exact Ew hu
  rw[en]at na;refine LX ⟨_,Z,_,Z,pf,ys,_,_,Z,Z,ku (sg _ _ ef),ei,pp,_,_,_,Z,Z,hS.same sg,Ew (j:=0) rfl,_,Z,_,Z,_,_,Z,Z,pf,ys,_,_,Z,Z,ku (sg _ _ ef),b3,a4,_,_,_,Z,Z,bo.same sg,Ew (j:=1) rfl,eqN (na.same sg) (ap.same sg) ?_⟩;refine⟨_,Z,F0 (by rw[decide_eq_true rfl];rfl) (bc λG' s'=>IB ⟨sg.trans s',_,Z⟩)⟩
 rintro σ G ⟨sg,z7,rfl⟩
 replace J:=J.same sg
 replace Y:=Y.same sg
 replace O:=O.same sg
 replace p4:=p4.sm sg
 clear sg am ef aC a3 az aY bv bx;refine⟨_,Z,_,Z,_,Z,Lu (C.ot LL lo hi) J Y O ac ag af λv H8 cn s8=>?_⟩;obtain rfl:=cn.is e6;clear cn
 replace J:=J.same s8
 replace Y:=Y.same s8
 replace O:=O.same s8
 replace p4:=p4.sm s8
 clear s8;have sA:∀{u:ce} (hu:H8 u=none),E4 H8 (upd H8 u (.tup [.int (-3),.int 7])):=λhu=>kA hu;refine⟨_,Z,_,Z,P2,λu1 aj=>⟨cf,u1,cs,K37,910,3,Z,J.same (sA aj),kD (show upd H8 u1 (.tup [.int (-3),.int 7]) u1=some (nT K37) from E3),C.rb,VT,Yd,Yl,λo1 H9 s9 c9=>?_⟩⟩;have aw:=(sA aj).trans s9;refine⟨_,Z,_,Z,cf,cf,cs,cs,910,Z,J.same aw,J.same aw,C.rb,C.rb,Yd,Yl,Yl,cI.mpr h0,λo2 av cc ai a7 be bl=>⟨P2,λtl aB=>?_⟩⟩;have ax:=kA (o:=.lst [.ref o1,.ref o2]) aB;have aN:=Rc hg h0 ak bL oL LL lo hi;have bb:=C.ot_sq LL lo hi be bl;generalize Cv.strip (cs.map (· * K37))=b4 at c9 aN;have hP:Paired (fun(v:V) (f:kh)=>∃o,v = .ref o/\Crv K (upd av tl (.lst [.ref o1,.ref o2])) o f/\Ot cs ls lo hi f) [.ref o1,.ref o2] [b4,cc]:=.cons ⟨o1,Z,(c9.same ai).same ax,aN⟩ (.cons ⟨o2,Z,a7.same ax,bb⟩ .nil);have aA:=E3 (H:=av) (a:=tl) (o:=.lst [.ref o1,.ref o2]);have sB:=(aw.trans ai).trans ax
 replace J:=J.same sB
 replace Y:=Y.same sB
 replace O:=O.same sB
 replace p4:=p4.sm sB
 generalize upd av tl (.lst [.ref o1,.ref o2])=Ha at hP aA J Y O p4 ⊢;clear sB ax ai s9 aw sA aj aB aN bb c9 a7 be bl H8 H9 av;refine⟨tl,Z,⟨_,ku aA⟩,JM (xs:=[.ref o1,.ref o2]) (L12 Ha a p r cf rl rh pf z7 cs lo ps λHa a p r cf rl rh pf z7 cs lo ps _ σ G=>E4 Ha G/\∃z9,σ=[some (.ref a),some (.ref p),some (.ref r),some (.ref cf),some (.ref rl),some (.ref rh),some (.ref pf),z7,some (.int ((nct cs lo ps:Nat):Int)),z9,none,none,none]) ⟨λ_ _ h=>h,none,Z⟩ (λi σ G _ h=>ku (h.1 _ _ aA)) ?_ ?_⟩
 ·rintro i v σ G hv ⟨sg,z9,rfl⟩;obtain⟨f,hf,o,rfl,ca,ot⟩:=(kB hP hv);refine⟨_,Z,_,Z,_,Z,Lu ot (ca.same sg) (Y.same sg) (O.same sg) ac ag af λv G' cn s'=>?_⟩;obtain rfl:=cn.is e6;exact⟨_,Z,Z,_,Z,F0 (by first | rfl | decide | (rw[decide_eq_true rfl];rfl)) ⟨sg.trans s',_,Z⟩⟩
 rintro σ G ⟨sg,z9,rfl⟩
 replace J:=J.same sg
 replace Y:=Y.same sg
 replace O:=O.same sg
 replace p4:=p4.sm sg
 clear sg hP aA Ha;refine⟨_,Z,_,Z,_,Z,_,_,_,_,20,20,Z,O,Y,aJ,ao,Yd,λu1 aj=>?_⟩;have s1:=kA (o:=nT (hi-lo)) aj;refine⟨_,Z,p,9,Z,p4.sm s1,Yd,Yd,λd H2 d0 d1 o2 p2=>⟨_,_,Z,Z,1+d,11,Z,Yd,λu2 aV=>?_⟩⟩;obtain⟨t0,t1⟩:=(d11 d0 d1);have bt:RB 4 (cx (1+d) 11):=RB.div (m:=0) (by unfold Bd;lia) (by unfold Bd;lia) Yl
 obtain⟨aq,an⟩:=(Pl ac t0 t1);generalize cx (1+d) 11=tt at aq an bt aV ⊢;have s2:=kA (o:=nT tt) aV;have aM:Et K (upd H2 u2 (nT tt)) (.ref u1) (hi-lo):=((kD (E3 (H:=G) (a:=u1) (o:=nT (hi-lo)))).mv (p4.sm s1) o2.mv).same s2
 replace J:=((J.same s1).mv (p4.sm s1) o2.mv).same s2
 replace Y:=((Y.same s1).mv (p4.sm s1) o2.mv).same s2
 replace O:=((O.same s1).mv (p4.sm s1) o2.mv).same s2
 have aH:=kD (K:=K) (E3 (H:=H2) (a:=u2) (o:=nT tt));generalize upd H2 u2 (nT tt)=H3 at aM aH J Y O ⊢;have bm:RB 41 (hi-lo):=aJ.minus ao;have bp:=bm.times bt;refine⟨_,_,hi-lo,tt,41,4,Z,aM,aH,bm,bt,Yd,λu3 aX=>?_⟩;have s3:=kA (o:=nT ((hi-lo)*tt)) aX;refine⟨_,_,lo,(hi-lo)*tt,20,45,Z,Y.same s3,kD E3,ao,bp,Yd,λu4 aF=>?_⟩;have s4:=s3.trans (kA (o:=nT (lo+(hi-lo)*tt)) aF);have bX:RB 70 (lo+(hi-lo)*tt):=(ao.plus bp).mono Yd;have nm:=kD (K:=K) (E3 (H:=upd H3 u3 (nT ((hi-lo)*tt))) (a:=u4) (o:=nT (lo+(hi-lo)*tt)));generalize lo+(hi-lo)*tt=m at aq an bX aF s4 nm ⊢
 replace J:=J.same s4
 replace Y:=Y.same s4
 replace O:=O.same s4
 generalize upd (upd H3 u3 (nT ((hi-lo)*tt))) u4 (nT m)=H4 at nm J Y O ⊢;clear s4 s3 s2 s1 aM aH o2 p2 p4 aj aV aX aF bp bm bt t0 t1 d0 d1;refine⟨_,Z,_,Z,_,Z,Lu (C.ot LL lo m) J Y nm aq ag bX λv1 H5 aR s5=>?_⟩;refine⟨_,Z,_,Z,_,Z,Lu (C.ot LL m hi) (J.same s5) (nm.same s5) (O.same s5) an bX af λv2 H6 aT s6=>⟨P2,λlp bi=>?_⟩⟩;have s7:=(s5.trans s6).trans (kA (o:=.lst [v1,v2]) bi);have ay:=E3 (H:=H6) (a:=lp) (o:=.lst [v1,v2])
 replace J:=J.same s7
 replace Y:=Y.same s7
 replace O:=O.same s7
 replace nm:=nm.same s7
 generalize upd H6 lp (.lst [v1,v2])=H7 at ay J Y O nm ⊢;clear s7 s6 s5 bi
 try dsimp only
 refine J1 (L15 H7 a p r cf rl rh pf z7 cs lo ps z9 u4 lp λH7 a p r cf rl rh pf z7 cs lo ps z9 u4 lp a6 G=>E4 H7 G/\a6=[some (.ref a),some (.ref p),some (.ref r),some (.ref cf),some (.ref rl),some (.ref rh),some (.ref pf),z7,some (.int ((nct cs lo ps:Nat):Int)),z9,some (.ref u4),some (.ref lp),none]) (λnx aU=>?_) ?_
 ·refine⟨_,Z,SK ⟨lp,_,_,Z,Tb aR.rds aT.rds ay,.non,Uz _ _,Z,?_⟩⟩;refine⟨_,Z,?_⟩
  rcases aR with ⟨as,ea,rfl⟩ | ⟨_,rfl⟩
  rotate_left
  ·exact F0 rfl (IB (aU _ _ ⟨λ_ _ h=>h,Z⟩))
  rcases aT with ⟨bs,eb,rfl⟩ | ⟨_,rfl⟩
  rotate_left
  ·exact F0 rfl (IB (aU _ _ ⟨λ_ _ h=>h,Z⟩))
  obtain⟨xd,bu,a5⟩:=J;have hsz:(910+2)*((cs.length+2)*(cs.length+2))<=30000000:=ZF (fG _ (eE (by lia:cs.length+2<=6) (by lia:cs.length+2<=6))) Yd
  refine Ft rfl ⟨_,Z,lp,[((nct cs lo as:Nat):Int),((nct cs m bs:Nat):Int)],Z,ay,_,Z,_,Z,false,cf,u4,xd,cs,m,910,Z,bu,a5,nm,C.rb,bX.mono Yd,hsz,λz Hz sz ez bz=>⟨P2,λw hw=>?_⟩⟩;have sw:=kA (o:=.tup [.int 0,.int 1]) hw;refine eqN (q:=0) (kD (sw _ _ ez)) (kD (show upd Hz w (.tup [.int 0,.int 1]) w=some (nT 0) from E3)) ?_;have pt:=LL.parts aq an e6 ea eb;refine .inr ⟨_,Z,_,_,Z,Z,_,Z,Z,_,Z,F0 ?_ (aU _ _ ⟨sz.trans sw,Z⟩)⟩
  have hk:(if (if false=true then !decide (Cv.ev cs m=0) else decide (Cv.ev cs m=0))=true then (1:Int) else 0)=((z0 (Cv.ev cs) m:Nat):Int):=by
   by_cases hz:Cv.ev cs m=0
   ·rw[HY hz,decide_eq_true hz];rfl
   ·rw[G8 hz,decide_eq_false hz];rfl
  rw[hk,List.sum_cons,List.sum_cons,List.sum_nil,decide_eq_true (congrArg V.int Yl)];rfl
 rintro a6 G ⟨sg,rfl⟩
 replace J:=J.same sg
 replace Y:=Y.same sg
 replace O:=O.same sg
 clear aR aT ay nm sg bX aq an;refine⟨_,Z,cf,cs,910,Z,J,Yl,C.rb,Yd,λsf Hs ss aO=>?_⟩;refine⟨_,Z,P0,λe he=>?_⟩;have se:=kA (o:=.tup []) he;refine eqT (aO.same se) ⟨[],kw E3,.nil⟩ ?_;refine⟨_,Z,?_⟩;by_cases h1:EW cs=[]
 ·exact Ft (by rw[decide_eq_true h1]<;>rfl) (LX (q _))
 rw[decide_eq_false h1];have Cs:=Cf.slope hg ak bL oL h1;have sx:=ss.trans se;refine IB ⟨_,Z,_,Z,_,Z,⟨sf,rl,rh,EW cs,lo,hi,910,Z,aO.same se,Cs.gf,h1,Cs.rb,Yd,Yd,by have:=Cs.h4;lia,Y.same sx,O.same sx,ac,ag,af,λld gd LD=>⟨(Cs.lone LD).1,(Cs.lone LD).2,λqs H9 e9 s9=>?_,λH9 e9 s9=>?_⟩⟩⟩
 rotate_left
 ·exact⟨Z,_,Z,Ft (by first | rfl | decide) (q _)⟩
 refine⟨Z,_,Z,F0 (by first | rfl | decide) ?_⟩
 have ai:=sx.trans s9;refine⟨_,Z,_,Z,_,Z,Lu (Cs.ot LD lo hi) ((aO.same se).same s9) (Y.same ai) (O.same ai) ac ag af λv av cn _=>?_⟩;obtain rfl:=cn.is e9;have rr:=LL.rolle ak LD (λx=>L2.FL x cs) (by rw[GI];lia) ac e6 e9
 refine⟨_,Z,_,_,Z,Z,_,_,Z,Z,?_⟩;rw[decide_eq_true Yl];exact q _
end
inductive ES(K:ZE)(x:Str)(st:gI)(f:ce):Prop
 | mk {oc kV dc pm cd ct:cr}{od an:Option ce}{sl:Array (Option cr)}(a:dk K fX x=some (some (.ref f)))(l:K.lookup f=some ⟨oc,od,.func (bK x x (FX st) (Fy st) (El st) .none kV dc pm an cd ct),sl⟩)(c:bM K cd x=true)(k:ZX K (.ref f)=true)
theorem ES.b1(q:ES K x st f)(X:K.In h)(G:h.Ns fX mg)(Y:Str)(hb:∀(kV J pm:cr) (an:Option ce) (O ct a1:cr),gR (bK x x (FX st) (Fy st) (El st) .none kV J pm an O ct) ⟨[a1],[]⟩=pure [(Y,a1)]:=by intros;rfl):∃fd,Fun K x x st f fd/\Gs K fd [Y] []/\ZX K (.ref f)=true/\mg x=some (.ref f):=by
 obtain⟨a,l,c,k⟩:=q;have F:=Ls (st:=st) l c k;exact⟨_,F,Fun.binds1 Y F hb,k,dq X G a⟩
theorem ES.b2(q:ES K x st f)(X:K.In h)(G:h.Ns fX mg)(Y p2:Str)(hb:∀(kV J pm:cr) (an:Option ce) (O ct a1 a2:cr),gR (bK x x (FX st) (Fy st) (El st) .none kV J pm an O ct) ⟨[a1,a2],[]⟩=pure [(Y,a1),(p2,a2)]:=by intros;rfl):∃fd,Fun K x x st f fd/\Gs K fd [Y,p2] []/\ZX K (.ref f)=true/\mg x=some (.ref f):=by
 obtain⟨a,l,c,k⟩:=q;have F:=Ls (st:=st) l c k;exact⟨_,F,Fun.binds2 Y p2 F hb,k,dq X G a⟩
theorem ES.b3(q:ES K x st f)(X:K.In h)(G:h.Ns fX mg)(Y p2 O:Str)(hb:∀(kV aa pm:cr) (an:Option ce) (J ct a1 a2 a3:cr),gR (bK x x (FX st) (Fy st) (El st) .none kV aa pm an J ct) ⟨[a1,a2,a3],[]⟩=pure [(Y,a1),(p2,a2),(O,a3)]:=by intros;rfl):∃fd,Fun K x x st f fd/\Gs K fd [Y,p2,O] []/\ZX K (.ref f)=true/\mg x=some (.ref f):=by
 obtain⟨a,l,c,k⟩:=q;have F:=Ls (st:=st) l c k;exact⟨_,F,Fun.binds3 Y p2 O F hb,k,dq X G a⟩
theorem ES.b4(q:ES K x st f)(X:K.In h)(G:h.Ns fX mg)(Y p2 O J:Str)(hb:∀(kV ac pm:cr) (an:Option ce) (aa ct a1 a2 a3 a4:cr),gR (bK x x (FX st) (Fy st) (El st) .none kV ac pm an aa ct) ⟨[a1,a2,a3,a4],[]⟩=pure [(Y,a1),(p2,a2),(O,a3),(J,a4)]:=by intros;rfl):∃fd,Fun K x x st f fd/\Gs K fd [Y,p2,O,J] []/\ZX K (.ref f)=true/\mg x=some (.ref f):=by
 obtain⟨a,l,c,k⟩:=q;have F:=Ls (st:=st) l c k;exact⟨_,F,Fun.binds4 Y p2 O J F hb,k,dq X G a⟩
theorem fdm(w:fY)(base:gi)(a:EF P w K mg base CX0 n f fd ps sp)(b:Gs K fd ps [])(c:ZX K (.ref f)=true)(d:mg x=some (.ref f)):Fd P w K mg base n x ps sp:=⟨_,_,a,b,c,d⟩
theorem Wb{l:c3}{w:fY}{K:ZE}{h:gi}{mg:Str->Option cr}{fa f1 f2 f3 f4 f5 f6 f7 f8 f9 dK hR h6 hj iA gD et i4 ji ja iM h9 hD gp g3 el j5 jW jQ hP il gq hQ gg c9 g0 iU ez fx g2 c2 hb jX kf kc i9 hm jx ij ig co gM kb jS eb ek eo di bF:ce}(Y:l.prog.given.tree=none)(X:K.In h)(G:h.Ns fX mg)(dV:mg "law" = some (.ref fa))
 { aa ab:Option ce} { ac:Array (Option cr)} { ad ae af ag ah ai:cr}
  (q1:ES K "_law_pen" (top 58) f1)
  (q2:ES K "_law_lowest" (top 60) f2)
  (q3:ES K "_law_draw" (top 59) f3)
  (q4:ES K "_law_number" (top 64) f4)
  (q5:ES K "_law_plus" (top 61) f5)
  (q6:ES K "_law_places" (top 66) f6)
  (q7:ES K "_law_points" (top 67) f7)
  (q8:ES K "common_measure" (top 7) f8)
  (q9:ES K "bottom_of" (top 17) f9)
  (jc:ES K "tops_over" (top 18) dK)
  (eh:ES K "curve_of" (top 16) hR)
  (hZ:ES K "number_of" (top 8) h6)
  (jF:ES K "curve_over" (top 19) hj)
  (i5:ES K "whole_product" (top 22) iA)
  (c6:ES K "by_steps" (top 55) gD)
  (jd:ES K "told_in" (top 47) et)
  (jg:ES K "knots_of" (top 48) i4)
  (e2:ES K "slopes_in" (top 51) ji)
  (bT:ES K "first_row" (top 50) ja)
  (eT:ES K "over" (top 12) iM)
  (jl:ES K "minus" (top 10) h9)
  (hx:ES K "next_row" (top 52) hD)
  (em:ES K "table_of" (top 53) gp)
  (iC:ES K "steps_of" (top 54) g3)
  (jP:ES K "curve_through" (top 56) el)
  (g1:ES K "_law_stretch" (top 68) j5)
  (eK:ES K "_law_less" (top 69) jW)
  (hU:ES K "_law_ends" (top 70) jQ)
  (ga:ES K "parts_along" (top 35) hP)
  (e5:ES K "is_less" (top 13) il)
  (jB:ES K "with_line" (top 26) gq)
  (ec:ES K "heights_of" (top 36) hQ)
  (jz:ES K "whole_division" (top 29) gg)
  (eg:ES K "raised" (top 28) c9)
  (hX:ES K "divided" (top 30) g0)
  (ka:ES K "without_last_noughts" (top 31) iU)
  (iJ:ES K "last_rest" (top 32) ez)
  (ih:ES K "common_part" (top 33) fx)
  (fb:ES K "times" (top 11) g2)
  (hl:ES K "slope_of" (top 25) c2)
  (hB:ES K "lone_part" (top 40) hb)
  (ey:ES K "sign_changes" (top 41) jX)
  (iz:ES K "whole_halves" (top 37) kf)
  (j4:ES K "plus" (top 9) kc)
  (bL:ES K "halved" (top 44) i9)
  (fr:ES K "pieces_of" (top 43) hm)
  (iq:ES K "whole_height" (top 20) jx)
  (eq:ES K "height_at" (top 21) ij)
  (eF:ES K "noughts_of" (top 45) ig)
  (iH:ES K "_law_counted" (top 71) co)
  (hu:ES K "scaled" (top 24) gM)
  (fe:ES K "multiplied" (top 23) kb)
  (ik:ES K "_law_times" (top 63) jS)
  (e7:ES K "_law_minus" (top 62) eb)
  (iE:ES K "_law_at" (top 65) ek)
  (c4:ES K "changes_in" (top 42) eo)
  (ff:ES K "_law_piece_right" (top 72) di)
   (iK:dk K fX "law" = some (some (.ref bF))) (ie:K.lookup bF=some ⟨ad,aa,.func (bK "law" "law" (FX (top 73)) (Fy (top 73)) (El (top 73)) .none ae af ag ab ah ai),ac⟩) (d1:bM K ah "law" = true) (gc:ZX K (.ref bF)=true)
   (aj:dk K fX "len" = some none)
   (ak:dk K fX "abs" = some none)
   (al:dk K fX "range" = some none)
   (am:dk K fX "tuple" = some none)
   (an:dk K fX "reversed" = some none)
   (ao:dk K fX "list" = some none)
   (ap:dk K fX "sum" = some none)
   (aq:dk K fX "int" = some none)
 {ar:Tok} (au:dk K fX "DEEPEST" = some (some (.int 16 ar)))
 {av:ce} {aw:Obj} {ax:Array cr} {ay:Nat} (az:dk K fX "NOUGHT" = some (some (.ref av))) (aA:K.lookup av=some aw) (aB:aw.cls = .type "tuple") (aC:aw.data = .seq ax ay) (aD:ax.toList.map RE=[some (.int (0:Rat).num),some (.int ((0:Rat).den:Int))])
 {aE:ce} (aF:dk K fX "TooDeep" = some (some (.ref aE)))
 {aG aH aI aJ aK aL aM aN aO aP aQ aR aS aT aU aV} (aW:K.lookup aE=some (PySem.excClassObj aI aJ aE aH aK aG aL aM aN aO aP aQ aR aS aT aU aV "ValueError.__new__"))
  (aX:PySem.W.excIn K aE [.type "ValueError",.type "Exception",.type "BaseException",.type "object"] "ValueError.__new__" = true)
  (aY:ZV K (.ref aE) "__getattribute__" = some (some (.builtin "BaseException.__getattribute__"))) (aZ:ZV K (.ref aE) "__getattr__" = some none) (a0:ZV K (.ref aE) "__class__" = some (some (.builtin "object.__class__")))
  (a1:PySem.W.mroIn K aE (.type "object")=some true) (a2:PySem.W.mroIn K aE (.type "BaseException")=some true)
  (a3:eV K (.ref aE) (.ref aE)=some true) (a4:df K (.ref aE) (.type "ValueError")=some true)
  (a5:df K (.ref aE) (.ref aE)=some true)
  (kd:ZW K (.builtin "object.__class__") "__get__" = some (some (.builtin "getset_descriptor.__get__"))) (i0:PySem.W.takesIn K (.builtin "object.__class__")=some true) :
 ∃fd:fT,(∀(s:db) (v:cr),BindsTo s fd ⟨[v],[]⟩ [("_law_script",v)])/\∀base:gi,K.In base->base.Ns fX mg->EF l.prog w K mg base CX0 41 fa fd ["_law_script"] (NK K):=by
 obtain⟨_,F1,B1,k1,m1⟩:=q1.b2 X G "_law_script" "_law_k";obtain⟨_,F2,B2,k2,m2⟩:=q2.b2 X G "_law_top" "_law_bottom";obtain⟨_,F3,B3,k3,m3⟩:=q3.b2 X G "_law_pen_here" "_law_many";obtain⟨_,F4,B4,k4,m4⟩:=q4.b1 X G "_law_pen_here";obtain⟨_,F5,B5,k5,m5⟩:=q5.b2 X G "_law_a" "_law_b";obtain⟨_,F6,B6,k6,m6⟩:=q6.b2 X G "_law_pen_here" "_law_many";obtain⟨_,F7,B7,k7,m7⟩:=q7.b2 X G "_law_pen_here" "_law_most";obtain⟨_,F8,B8,k8,m8⟩:=q8.b2 X G "one" "other";obtain⟨_,F9,B9,k9,m9⟩:=q9.b1 X G "numbers";obtain⟨_,jY,ic,io,hK⟩:=jc.b2 X G "numbers" "bottom";obtain⟨_,jr,jU,cj,jD⟩:=eh.b1 X G "numbers";obtain⟨_,ho,hN,iI,d8⟩:=hZ.b2 X G "top" "bottom";obtain⟨_,hS,jj,hr,ha⟩:=jF.b2 X G "tops" "bottom";obtain⟨_,ke,hO,jt,i1⟩:=i5.b2 X G "first" "second";obtain⟨_,h4,im,jn,e9⟩:=c6.b2 X G "knots" "steps";obtain⟨_,jG,ju,fl,dT⟩:=jd.b1 X G "points";obtain⟨_,eU,hy,iZ,iB⟩:=jg.b1 X G "points";obtain⟨_,gz,jh,h0,jR⟩:=e2.b1 X G "points";obtain⟨_,jf,je,e0,b0⟩:=bT.b1 X G "points";obtain⟨_,jE,d2,j6,jA⟩:=eT.b2 X G "a" "b";obtain⟨_,iw,cm,dp,jm⟩:=jl.b2 X G "a" "b";obtain⟨_,fy,iy,is,gt⟩:=hx.b4 X G "ahead" "knots" "slopes" "k";obtain⟨_,hI,j9,dm,iR⟩:=em.b1 X G "points";obtain⟨_,ii,iN,gd,jC⟩:=iC.b1 X G "points";obtain⟨_,h3,jI,hp,hq⟩:=jP.b1 X G "points";obtain⟨_,eW,j7,jv,i3⟩:=g1.b1 X G "_law_pen_here";obtain⟨_,jT,cf,iX,i6⟩:=eK.b2 X G "_law_a" "_law_b";obtain⟨_,jw,hc,gE,hg⟩:=hU.b2 X G "_law_pen_here" "_law_points_here";obtain⟨_,gw,eG,h7,eZ⟩:=ga.b1 X G "along";obtain⟨_,jL,he,cc,d3⟩:=e5.b2 X G "a" "b";obtain⟨_,iT,f0,ip,iV⟩:=jB.b3 X G "curve" "a" "b";obtain⟨_,jV,iP,jb,j2⟩:=ec.b3 X G "curve" "low" "high";obtain⟨_,iS,eH,e3,c1⟩:=jz.b2 X G "first" "second";obtain⟨_,iu,j3,hA,gl⟩:=eg.b2 X G "base" "many";obtain⟨_,hn,gm,gf,iD⟩:=hX.b2 X G "one" "other";obtain⟨_,e4,jO,cb,ef⟩:=ka.b1 X G "tops";obtain⟨_,iF,j8,hL,jy⟩:=iJ.b2 X G "great" "small";obtain⟨_,c0,eN,ca,jJ⟩:=ih.b2 X G "one" "other";obtain⟨_,cn,jp,gb,hM⟩:=fb.b2 X G "a" "b";obtain⟨_,hJ,i7,bP,jN⟩:=hl.b1 X G "curve";obtain⟨_,ci,b8,dy,hV⟩:=hB.b1 X G "curve";obtain⟨_,ed,gx,er,ew⟩:=ey.b1 X G "tops";obtain⟨_,ix,gA,hz,iL⟩:=iz.b1 X G "tops";obtain⟨_,hC,gk,jq,h5⟩:=j4.b2 X G "a" "b";obtain⟨_,bo,bn,bv,bB⟩:=bL.b1 X G "piece";obtain⟨_,bz,bl,br,bE⟩:=fr.b3 X G "curve" "low" "high";obtain⟨_,eL,iQ,ir,go⟩:=iq.b2 X G "tops" "x";obtain⟨_,ia,jZ,hW,iY⟩:=eq.b2 X G "curve" "x";obtain⟨_,bx,bp,bi,bu⟩:=eF.b3 X G "curve" "low" "high";obtain⟨_,ht,jk,cp,jM⟩:=iH.b3 X G "_law_curve" "_law_low" "_law_high";obtain⟨_,iO,i8,iW,jH⟩:=hu.b2 X G "curve" "number";obtain⟨_,hF,dc,ib,dn⟩:=fe.b2 X G "one" "other";obtain⟨_,cv,hH,hE,e6⟩:=ik.b2 X G "_law_a" "_law_b";obtain⟨_,h8,en,hY,ei⟩:=e7.b2 X G "_law_a" "_law_b";obtain⟨_,i2,eu,dr,j0⟩:=iE.b2 X G "_law_curve" "_law_x";obtain⟨_,ej,gB,jK,jo⟩:=c4.b1 X G "some";obtain⟨_,gr,j1,iG,bX⟩:=ff.b2 X G "_law_curve" "_law_piece";have e:=dV.symm.trans (dq X G iK);cases e;have Xt:=fS X G aj;have XG:=fS X G ak;have Xu:=fS X G al;have XE:=fS X G am;have XN:=fS X G an;have XO:=fS X G ao;have XF:=fS X G ap;have bt:=fS X G aq;have a7:=dq X G au;have O:=dq X G az;have J:∀H:Hp,Et K H (.ref av) (0):=λH=>⟨_,Z,Ry aA aB aC aD⟩;have iv:=Ls (st:=top 73) ie d1 gc;refine⟨bK "law" "law" (FX (top 73)) (Fy (top 73)) (El (top 73)) .none ae af ag ab ah ai,λs v=>.of_eq rfl,λbase _ _=>?_⟩;have a9:=dq X G aF;have bc:UE K "TooDeep" aE:=⟨aF,⟨_,_,_,_,_,_,_,_,_,_,_,_,_,_,_,_,aW⟩,aX⟩;have bh:Xl K aE [aE] 0:=⟨⟨aY,aZ,a0,kd,i0,a1,a2,⟨_,_,_,_,aW⟩⟩,a4,λi c h=>match i,h with | 0,h=>by cases h;exact a5 | i+1,h=>nomatch h⟩
 have Z3:=fdm w base (O2 F1 Xt Y) B1 k1 (m1);have XT:=fdm w base (Lk F2 XG Y) B2 k2 (m2);have XU:=fdm w base (Nh F3 Y) B3 k3 (m3);have Yb:=fdm w base (Lj F4 XT XU Y) B4 k4 (m4);have XW:=fdm w base (Nd F5 XT Y) B5 k5 (m5);have Z4:=fdm w base (Li F6 Yb XW Xu Y) B6 k6 (m6);have Z5:=fdm w base (Lh F7 Z4 XU Yb XE Y) B7 k7 (m7);have Yu:=fdm w base (JF F8 XG Y) B8 k8 (m8);have XB:=fdm w base (Nc F9 Yu Y) B9 k9 (m9);have XC:=fdm w base (N5 jY Y) ic io (hK);have Yv:=fdm w base (O0 jr Xt XE O J Y) jU cj (jD);have XJ:=fdm w base (N7 ho Yu Y) hN iI (d8);have XX:=fdm w base (LQ hS Yv XJ Y) jj hr (ha);have Yc:=fdm w base (K7 ke Xu Xt Y) hO jt (i1);have Z6:=fdm w base (O1 h4 XB XC XX Yc Xu Xt Y) im jn (e9);have Z7:=fdm w base (P8 jG Xu Xt Y) ju fl (dT);have Yw:=fdm w base (NZ eU Z7 Y) hy iZ (iB);have Z8:=fdm w base (N6 gz Xt Y) jh h0 (jR);have Z9:=fdm w base (Nb jf Xt Y) je e0 (b0);have XY:=fdm w base (Ud jE XJ Y) d2 j6 (jA);have Yx:=fdm w base (Sv iw XJ Y) cm dp (jm);have Za:=fdm w base (NY fy XY Yx Xu Xt Y) iy is (gt);have Zb:=fdm w base (NU hI Yw Z8 Z9 Za Xu Xt Y) j9 dm (iR);have Zc:=fdm w base (NV ii Zb Y) iN gd (jC);have Zd:=fdm w base (K8 h3 Z6 Yw Zc Y) jI hp (hq);have Ze:=fdm w base (Kt eW Yb XW XU Y) j7 jv (i3);have Zf:=fdm w base (Nf jT Y) cf iX (i6);have Zg:=fdm w base (Ng jw Ze Zf XU Xt Y) hc gE (hg);have Zh:=fdm w base (Le gw XY Xu Xt Y) eG h7 (eZ);have Zi:=fdm w base (P9 jL Y) he cc (d3);have Zj:=fdm w base (N4 iT XB XC XX Yc XN Y) f0 ip (iV);have Ye:=fdm w base (LP jV Zh XB XC Zi Zj Yx XJ Xt Xu O J Y) iP jb (j2);have Yy:=fdm w base (JD iS XO Xu Xt Y) eH e3 (c1);have Yz:=fdm w base (Rg iu Xu Y) j3 hA (gl);have Zk:=fdm w base (Pa hn XB XC Yy XX Yz Xt Y) gm gf (iD);have Zl:=fdm w base (Ig e4 Xt Y) jO cb (ef);have Zm:=fdm w base (N9 iF Zl Yz Yy Xt Y) j8 hL (jy);have Zn:=fdm w base (Lf c0 XC XX XB Zm Xt Y) eN ca (jJ);have YA:=fdm w base (Su cn XJ Y) jp gb (hM);have YB:=fdm w base (NW hJ YA XE Xu Xt Y) i7 bP (jN);have Yf:=fdm w base (N8 ci Zk Zn YB Xt Y) b8 dy (hV);have Y1:=fdm w base (Ks ed Xt Xu Y) gx er (ew);have Yg:=fdm w base (Kr ix XO Xt Xu Y) gA hz (iL);have Yh:=fdm w base (Uc hC XJ Y) gk jq (h5);have Yi:=fdm w base (Mc bo XY Yg Yh a7 Y) bn bv (bB);have ba:EF l.prog w K mg base (CX2 l.prog w) 36 _ _ kO (Hr K aE):=P7 (base:=base) (w:=w) bo bc XY Yg Yh a7 Y;have bG:FdY l.prog w K mg base 36 "halved" kO (Hr K aE):=⟨_,_,ba,bn,bv,bB⟩;have be:FdY l.prog w K mg base 36 "halved" kO (λvs H Q E=>(Ia K:Sp) vs H Q E\/(Hr K aE:Sp) vs H Q E):=⟨_,_,(Mc bo XY Yg Yh a7 Y).calm.or ba,bn,bv,bB⟩;have Y2:=fdm w base (JE bz Ye Yf Y1 XC XB Yi Xt Y) bl br (bE);have a6:EF l.prog w K mg base (CX2 l.prog w) 38 _ _ kK (KU K aE):=LN (base:=base) (w:=w) bz be Ye Yf Y1 XC XB Yi Xt Y;have bg:FdY l.prog w K mg base 38 "pieces_of" kK (KU K aE):=⟨_,_,a6,bl,br,bE⟩;have a8:FdY l.prog w K mg base 38 "pieces_of" kK (λvs H Q E=>((λ_ _ _ _=>False:Sp):Sp) vs H Q E\/(KU K aE:Sp) vs H Q E):=⟨_,_,(JE bz Ye Yf Y1 XC XB Yi Xt Y).calm.or a6,bl,br,bE⟩;have Zo:=fdm w base (Kq eL XN Y) iQ ir (go);have Yj:=fdm w base (Na ia XB Zo XJ XC Y) jZ hW (iY);have Zp:=fdm w base (Je bx Y2 Yj Xt XF O J Y) bp bi (bu);have as:EF l.prog w K mg base (CX2 l.prog w) 39 _ _ kK (M7 K aE):=Ld (base:=base) (w:=w) bx a8 Y2 Yj Xt XF O J Y;have bf:FdY l.prog w K mg base 39 "noughts_of" kK (M7 K aE):=⟨_,_,as,bp,bi,bu⟩;have bb:FdY l.prog w K mg base 39 "noughts_of" kK (λvs H Q E=>((λ_ _ _ _=>False:Sp):Sp) vs H Q E\/(M7 K aE:Sp) vs H Q E):=⟨_,_,(Je bx Y2 Yj Xt XF O J Y).calm.or as,bp,bi,bu⟩;have Zq:=fdm w base (Ku ht a9 a3 bb Zp Y) jk cp (jM);have bd:=fdm w base (Rf iO Yv YA Y) i8 iW (jH);have Zr:=fdm w base (LO hF XB Yc XX XC Y) dc ib (dn);have Ym:=fdm w base (LU cv XT Y) hH hE (e6);have YC:=fdm w base (LV h8 XT Y) en hY (ei);have YD:=fdm w base (Pb i2 XW Ym Y) eu dr (j0);have Zs:=fdm w base (LS ej Y1 Y) gB jK (jo);have Zt:=fdm w base (J9 gr YD XW Zs Ym YC Y) j1 iG (bX);exact VD iv a9 a3 a8 Z3 Z5 Zd Zg Y2 Zq XW YB bd Zr Ym YC XT Zt XU YD Xu Xt XF bt Y
theorem X3{l:c3}{q:fV}{Y:km}{XP:(Str->Option cr)->gi->Prop}{YP:fY->gi->Prop}{d:DefRec}{K:Params->ZE}(hI:PyProof.Rows.importsNone q=true)(hn:l.most=some 63)(O:d.params.defaults=[])
 (hY:∀(w:fY) (h:gi),YP w h->(K w.params).In h)
 (F:∀(w:fY) (mg:Str->Option cr) (J:ce) (h:gi),(K w.params).In h->h.Ns fX mg->mg d.name=some (.ref J) ->
  ∃fd:fT,(∀(s:db) (u:cr),BindsTo s fd ⟨[u],[]⟩ [("_law_script",u)])/\∀base:gi,(K w.params).In base->base.Ns fX mg->EF l.prog w (K w.params) mg base CX0 41 J fd ["_law_script"] ((fun(K:ZE)=>(NK K:Sp)) (K w.params))) :
 PySem.W.WalkO q Y XP YP l.row.toRowW d [] (λf vs=>PySem.call f vs) :=
 L2.TH (n:=63) (k:=41) (x:="_law_script") (CX:=λ_=>CX0) (sp:=λw=>(fun(K:ZE)=>(NK K:Sp)) (K w.params)) hI hn Yd O ⟨Z,Yd,Yd⟩ hY F (λ_ _ a ns hl _ hS=>⟨a,ns,Z,hS,hl,λ_=>rfl⟩) λ_ _ _ _ _ z=>z
end Pf
inductive PySem.W.Fast:Prop
 | tw16319142345930673257 | tw8337871358008165006 | tw1826827606996982851 | tw9410683169772867301 | tw8953625405634951283 | tw4006040037418050541 | tw11835128769879029865 | tw13823699325616834933
 | tw17499980038362856085 | tw15623476892946842870 | tw18222959114737743613 | tw5639903589890141293 | tw16152054199230895375 | tw3752221318144218178 | tw2078222348230109224 | tw18432999948772548643
 | tw2008984029286074742 | tw17976681477471327527 | tw6780130137067429508 | tw18029678473704581194 | tw10408982015054646691 | tw6311498709142807910 | tw5354413369659050877 | tw3778642459007218400
 | tw15415125121990576570 | tw9728388491443987291 | tw12629905332751883331 | tw11177986227966072812 | tw6237997516422083098 | tw6712387159904623475 | tw17493592469725698826 | tw16091659176431085808
 | tw9142383881470807130 | tw15395098885628648821 | tw4077262914523827138 | tw12567521150220681361 | tw14156183511878140469 | tw14017255456267262934 | tw18290729905377894971 | tw9015663352717030062
 | tw10956027348552689039 | tw3122167152381959662 | tw8227117092482094681 | tw9285515229906559508 | tw13086786373332745081 | tw8180906655413211207 | tw4156448702306719397 | tw15345222219937706338
 | tw3377029112854762328 | tw5919152833235517259 | tw17447041194256111247 | tw15070176721655633820 | tw14915176356399684441 | tw1821201559080249328 | tw906029099786944337 | tw6458124026031347499
 | tw16827878251126579227 | tw546372206080965691 | tw16329928267129649406 | tw8637743624059405899 | tw3329315259095228597 | tw16358650507605501673 | tw2792811625494187727 | tw6071724651478831121
 | tw13978027873003563357 | tw598356438045456002 | tw1739524509777526912 | tw12180181087076013747 | tw12168190991160349572 | tw3376429266636783395 | tw7964377210103724081 | tw8020656959032367743
 | tw14617031073225135596 | tw4736765977239501234 | tw9680226479855012739 | tw7753785242171319105 | tw17221423057934700496 | tw362654473530322336 | tw17493140916920108102 | tw9465033706178314771
 | tw4290897022475409710 | tw4371815989901304201 | tw15807339935106229534 | tw18013129055166891541 | tw10537353287690074006 | tw11567803626032568792 | tw12190422254556673491 | tw14692323747876067576
 | tw10527670287271422705 | tw11383460776206227720 | tw13692896774493798250 | tw12608104704316124766 | tw742247793175727099 | tw9595467505953272417 | tw3076217901746222741 | tw965757603948379553
 | tw6248235603909257529 | tw14845720124201529446 | tw7235873641667349251 | tw12308839247277205854 | tw1155100297522849788 | tw14676653636348114878 | tw8799073136214810846 | tw13247983890846388844
 | tw2454357070176062612 | tw14440391028070642026 | tw17776790982491354254 | tw1112623393025571708 | tw4421282909188228367 | tw4286748450979436193 | tw5459145226355628301 | tw5340568023555338876
 | tw12591683656073943964 | tw17950416276545553330 | tw2356089137849048110
open PySem PySem.W PyProof.Rows
set_option maxRecDepth 100000 in
set_option maxHeartbeats 0 in
theorem PySem.Challenge.cw_onecurve_k44_whole_curves_within_their_p_holds : PySem.Challenge.rw_onecurve_k44_whole_curves_within_their_p.Holds := by
 w_on;o_law;k_head;(case hw=>w_witness2)
 k_fill
 refine Pf.X3 (l:=PySem.Challenge.rw_onecurve_k44_whole_curves_within_their_p) Yk rfl rfl (fun w h Y=>PySem.W.kIn_of Y) ?F
 case F =>
  intro w mg fa h KX G hmg
  refine' Pf.Wb rfl KX G hmg (.mk ?Aa ?Ab ?Ac ?Ad) (.mk ?Ae ?Af ?Ag ?Ah) (.mk ?Ai ?Aj ?Ak ?Al) (.mk ?Am ?An ?Ao ?Ap) (.mk ?Aq ?Ar ?As ?At) (.mk ?Au ?Av ?Aw ?Ax) (.mk ?Ay ?Az ?AA ?AB) (.mk ?AC ?AD ?AE ?AF) (.mk ?AG ?AH ?AI ?AJ) (.mk ?AK ?AL ?AM ?AN) (.mk ?AO ?AP ?AQ ?AR) (.mk ?AS ?AT ?AU ?AV) (.mk ?AW ?AX ?AY ?AZ) (.mk ?A0 ?A1 ?A2 ?A3) (.mk ?A4 ?A5 ?A6 ?A7) (.mk ?A8 ?A9 ?Ba ?Bb) (.mk ?Bc ?Bd ?Be ?Bf) (.mk ?Bg ?Bh ?Bi ?Bj) (.mk ?Bk ?Bl ?Bm ?Bn) (.mk ?Bo ?Bp ?Bq ?Br) (.mk ?Bs ?Bt ?Bu ?Bv) (.mk ?Bw ?Bx ?By ?Bz) (.mk ?BA ?BB ?BC ?BD) (.mk ?BE ?BF ?BG ?BH) (.mk ?BI ?BJ ?BK ?BL) (.mk ?BM ?BN ?BO ?BP) (.mk ?BQ ?BR ?BS ?BT) (.mk ?BU ?BV ?BW ?BX) (.mk ?BY ?BZ ?B0 ?B1) (.mk ?B2 ?B3 ?B4 ?B5) (.mk ?B6 ?B7 ?B8 ?B9) (.mk ?Ca ?Cb ?Cc ?Cd) (.mk ?Ce ?Cf ?Cg ?Ch) (.mk ?Ci ?Cj ?Ck ?Cl) (.mk ?Cm ?Cn ?Co ?Cp) (.mk ?Cq ?Cr ?Cs ?Ct) (.mk ?Cu ?Cv ?Cw ?Cx) (.mk ?Cy ?Cz ?CA ?CB) (.mk ?CC ?CD ?CE ?CF) (.mk ?CG ?CH ?CI ?CJ) (.mk ?CK ?CL ?CM ?CN) (.mk ?CO ?CP ?CQ ?CR) (.mk ?CS ?CT ?CU ?CV) (.mk ?CW ?CX ?CY ?CZ) (.mk ?C0 ?C1 ?C2 ?C3) (.mk ?C4 ?C5 ?C6 ?C7) (.mk ?C8 ?C9 ?Da ?Db) (.mk ?Dc ?Dd ?De ?Df) (.mk ?Dg ?Dh ?Di ?Dj) (.mk ?Dk ?Dl ?Dm ?Dn) (.mk ?Do ?Dp ?Dq ?Dr) (.mk ?Ds ?Dt ?Du ?Dv) (.mk ?Dw ?Dx ?Dy ?Dz) (.mk ?DA ?DB ?DC ?DD) (.mk ?DE ?DF ?DG ?DH) (.mk ?DI ?DJ ?DK ?DL) (.mk ?DM ?DN ?DO ?DP) ?DQ ?DR ?DS ?DT ?DU ?DV ?DW ?DX ?DY ?DZ ?D0 ?D1 ?D2 ?D3 ?D4 ?D5 ?D6 ?D7 ?D8 ?D9 ?Ea ?Eb ?Ec ?Ed ?Ee ?Ef ?Eg ?Eh ?Ei ?Ej ?Ek
  case Aa|Ab|Ac|Ad|Ae|Af|Ag|Ah|Ai|Aj|Ak|Al|Am|An|Ao|Ap|Aq|Ar|As|At|Au|Av|Aw|Ax|Ay|Az|AA|AB|AC|AD|AE|AF|AG|AH|AI|AJ|AK|AL|AM|AN|AO|AP|AQ|AR|AS|AT|AU|AV|AW|AX|AY|AZ|A0|A1|A2|A3|A4|A5|A6|A7|A8|A9|Ba|Bb|Bc|Bd|Be|Bf|Bg|Bh|Bi|Bj|Bk|Bl|Bm|Bn|Bo|Bp|Bq|Br|Bs|Bt|Bu|Bv|Bw|Bx|By|Bz|BA|BB|BC|BD|BE|BF|BG|BH|BI|BJ|BK|BL|BM|BN|BO|BP|BQ|BR|BS|BT|BU|BV|BW|BX|BY|BZ|B0|B1|B2|B3|B4|B5|B6|B7|B8|B9|Ca|Cb|Cc|Cd|Ce|Cf|Cg|Ch|Ci|Cj|Ck|Cl|Cm|Cn|Co|Cp|Cq|Cr|Cs|Ct|Cu|Cv|Cw|Cx|Cy|Cz|CA|CB|CC|CD|CE|CF|CG|CH|CI|CJ|CK|CL|CM|CN|CO|CP|CQ|CR|CS|CT|CU|CV|CW|CX|CY|CZ|C0|C1|C2|C3|C4|C5|C6|C7|C8|C9|Da|Db|Dc|Dd|De|Df|Dg|Dh|Di|Dj|Dk|Dl|Dm|Dn|Do|Dp|Dq|Dr|Ds|Dt|Du|Dv|Dw|Dx|Dy|Dz|DA|DB|DC|DD|DE|DF|DG|DH|DI|DJ|DK|DL|DM|DN|DO|DP|DQ|DR|DS|DT|DU|DV|DW|DX|DY|DZ|D0|D1|D2|D3|D4=> k_is
  case D5|D6|D7=> rfl
  case D8|D9=> k_is
  case Ea=> k_exc
  case Eb|Ec|Ed|Ee|Ef=> k_is
  case Eg=> kts_exm
  case Eh|Ei=> kit_is
  case Ej|Ek=> k_is
#print axioms PySem.Challenge.cw_onecurve_k44_whole_curves_within_their_p_holds
