import PyProof.Rows.All
import Lean
import PyProof.EqAt
import PyProof.EqKinds
import PyProof.TupleCall
import KE.KSortKey
import KE.KLam
import KE.KNestM
import KE.RegKIsAll
import KE.RegKTryMore
import OpenK.KOwn
import KE.KRevIter
import KE.KRevSl
import KE.IntBitsLaws
import PySem.Challenge.RW_onecurve_k65_asked_of_the_curve_at_a_des
open PySem renaming Addr->ge,Value->gl,wpAny_bind->ii,Shared->im,sizeLine->io,FuncData->jp,wpAny_pure->li,starEach->lm,Program->mo,wpAny->na,mainGlobals->pc,model->pi,World->rc,SetTable->re,Heap->rf,Around->sB,sizeLine_eq->sK,eval->tz,bootBuiltins->tD,compareOp->ul,backTo->ut,wpAny_mono->u8,wpAny_newObj_type->vf,sysModules->vg,wpAny_field->vh,Scope->vi,wpAny_holding->vj,binaryOp->vm,wpAny_execs_nil->vn,wpAny_passesOwn->vo,wpAny_truthy_bool->vp,wpAny_setState_of->vq,wpAny_callSpecial?_slot->vt,Stmt->vv,keywordEach->vw,codeAny_mono->vx,attributeBase->vy,behindInMarks->vz,codeAny->vA,assignEach->vB,wpAny_Call_Name_kw->vC,call_meets->vD,wpAny_pyIter_list->vF,foldedSetIterable->vG,bindArgs->vH,builtinLookup_eq_fast->vI,wpAny_call_entry->vJ,wpAny_pyIter_zip->vK,getItem->vL,backToKw->vM,letOwnedTupleGo->vN,typeIs_str->vP,carriedByValue->vQ,wpAny_setField_rec->vR,Keyword->vS,ofAClassStatement->vT,sliceBounds->vU,wpAny_standAt->vV,IsPair->vW,NameKind->vX,wpAny_typeOf->vY,typeLookup->vZ,rawInt->v4
open PyProof.Rows renaming AllBare->vE,assignInOrder_cons->vO
open Option renaming some->pC,isSome_iff_exists->qL,map_some->rN,map_eq_some_iff->rQ,getD_some->t6
open PySem.W renaming instObj->pD,methodObj->pE,hideAll->pL,of_hideAll->pN,Frag->pP,lookIn->qh,plainGet->qi,hasDictIn->qj,findIn->qk,plainGet_of->qm,isFn->qo,plainOver->qp,takerIn->qq,makesIn->qt,emptyDict->qu,specialIn->qx,keepIn->qy,mroIn->qB,kitOne->qC,kia_one->qD,kitx_list->qF,callWith_K->qH,fnOf->qX,codeIn->qY,OpenLaw->rK,nsIn->tE,excIn->tF,mg_of->tG,exmOne->uJ,mg_none_of->vd
open Nat renaming lt_of_lt_of_le->pF,lt_irrefl->pH,ne_of_lt->pJ,le_trans->pQ,le_of_lt->pR,ne_of_gt->qc,le_refl->qd,zero_le->qg,lt_succ_self->qA,min_le_right->rh,min_eq_left->rm,min_eq_right->rp,sub_le->rA,mul_comm->rJ,lt_of_le_of_lt->rL,lt_trans->rP,add_zero->sk,lt_succ_of_lt->sS,pow_le_pow_right->sY,pow_succ->t8,add_mul->tq,one_mul->tu,mul_le_mul_right->tw,mul_add->tH,succ_pos->tJ,zero_add->tO,sub_zero->tW,sub_self->tY,le_add_right->u9,min_le_left->uu,mul_one->uw,lt_or_ge->uz,not_lt_zero->uA,lt_trichotomy->uB,mul_le_mul_left->uH,add_sub_cancel->uI,mul_le_mul->uP
open List renaming range->pK,mem_filter->pM,mem_range->pO,filterMap_cons->pS,mem_cons_self->pT,mem_cons_of_mem->pU,mem_cons->pV,mem_append->pW,mem_append_left->pX,getElem?_eq_some_iff->pY,getElem?_set_self->pZ,getElem?_set_ne->qa,mem_filterMap->qe,mem_append_right->qf,length_cons->qr,lookup->qv,map_cons->qw,length_map->qz,append_nil->qG,nodup_cons->qI,of_mem_zip->qJ,replicate->qK,length->qM,length_take->qN,getElem?_append_right->qO,getElem?_replicate->qP,getElem?_append_left->qQ,getElem?_map->qR,getElem?_take_of_lt->qS,take_sublist->qT,mem_of_getElem?->qU,length_append->qV,length_replicate->qW,size_toArray->qZ,length_drop->rq,length_set->rB,any_cons->rC,replicate_succ->rE,flatten_cons->rF,append_assoc->rG,length_singleton->rH,find?_cons->rM,length_nil->rO,length_pos_iff->su,getElem?_cons_succ->sv,map_set->sx,map_replicate->sy,take_add_one->sC,map_append->sD,eq_nil_of_length_eq_zero->sE,forIn_cons->sJ,lookup_cons->sL,all_eq_true->sM,getD_eq_getElem?_getD->sO,ext_getElem?->sP,getElem?_drop->sQ,mem_singleton->sU,getElem?_eq_getElem->sV,getElem_mem->sW,cons->tj,mem_replicate->tm,drop_eq_getElem_cons->tK,reverse_cons->tL,length_reverse->tM,map_map->tN,map_congr_left->tP,range_succ->tQ,mem_map->tR,getElem?_range->tS,take_append_drop->tU,drop_zero->tV,take_of_length_le->tX,take_zero->tZ,drop_eq_nil_of_le->u6,length_range->ud,find?_some->ue,getElem?_of_mem->uh,getElem_range->uj,filterMap_cons_some->uo,length_eq_zero_iff->ur,pairwise_iff_getElem->uy,mem_of_find?_eq_some->uC,filter_cons->uE,getElem?_cons_zero->uF,flatten_append->uL,mem_of_mem_take->uM,nodup_append->uN,mem_map_of_mem->uO,mem_flatten->uQ,getElem?_eq_none->uR,mem_or_eq_of_mem_set->uW,getElem?_take->uX,pairwise_singleton->uY,map_singleton->uZ,mem_of_mem_drop->v3,set_eq_take_append_cons_drop->v5,zipWith->v7,take_length->va,replicate_succ'->vb,length_filter_le->vc
open Array renaming length_toList->qb,getElem?_eq_none->u7,getElem?_toList->uc,getD_eq_getD_getElem?->uf,getElem?_setIfInBounds_ne->ug,getElem?_eq_getElem->uk,replicate->uq,getElem?_eq_some_iff->ux,getElem?_setIfInBounds->uD,all_eq_true'->uG
open Int renaming toNat_natCast->rg,eq_ofNat_of_zero_le->rj,gcd->rR,mul_fdiv_cancel_left->rS,mul_ne_zero->rZ,natAbs_mul->t7,sub_eq_add_neg->t9,emod_nonneg->ua,emod_lt_of_pos->ub,natCast_nonneg->v9
open Rat renaming divInt->rV,num_divInt_den->rW,divInt_eq_div->rX,div_mul_cancel->rY,intCast_add->se,intCast_mul->si,intCast_sub->sj,pow_zero->so,pow_succ->sq,mul_eq_zero->sF,mul_assoc->tI,zero_mul->uv,num_eq_zero->uK,num_natCast->uS,den_natCast->uT,num_intCast->uU,den_intCast->uV,add_zero->v8
theorem Z.{u}{Y:Sort u}{a:Y}:a=a:=rfl
theorem Yl{p:Prop}(h:p:=by lia):p:=h
theorem Yd{p:Prop}(h:p:=by decide):p:=h
theorem Yk{p:Prop}(h:p:=by decide +kernel):p:=h
theorem Yr{p:Prop}(h:p:=by rfl):p:=h
set_option Elab.async false
set_option linter.all false
set_option maxRecDepth 100000
inductive PySem.W.Fast:Prop
 | tw3440871658299662284 | tw10056725240002758328 | tw3647506103418065830 | tw3325730849503481876 | tw8652606531853447430 | tw12600986460215746521 | tw16156531822901150848 | tw16476309637179774507
 | tw17995831548903249077 | tw4349086225591987104 | tw9708213502780215505 | tw16963355737192293252 | tw14133214668321589594 | tw15907899601189671491 | tw13791088588405483266 | tw11007294475530563535
 | tw18342905134804873781 | tw5802136952342732369 | tw4350815776203002379 | tw17327258937719769749 | tw2971110750642716655 | tw8445394877626628703 | tw12078667196576256192 | tw3087598524068303787
 | tw6907198427832384120 | tw16663665872693583879 | tw45587561405241109 | tw9786901057210549964 | tw11932656125198246662 | tw58727109729296271 | tw10875894179560836994 | tw16187243010738414880
 | tw6700848251746395416 | tw7029062910374691035 | tw17035058623459334709 | tw15278149986580057852 | tw4962163642110340596 | tw10086163200740409125 | tw9760925466902936584 | tw15225585766050671728
 | tw2833580090434496422 | tw6764302976007871798 | tw458424175314854565 | tw12432068121147298089 | tw14180909824943409516 | tw13805201485325413149 | tw10872739280795056216 | tw17870516956767888997
 | tw17298743294678249128 | tw8960253024066001690 | tw7909468246413039282 | tw17047305155303337922 | tw5407672304259924540 | tw17657920585208882906 | tw18259054480742618924 | tw4122762355578813193
 | tw16709762087869717963 | tw5321516735872394032 | tw12444765193489341390 | tw11557597321514647845 | tw15231123294709006171 | tw4305700656662797487 | tw12754430175381394735 | tw12604268014939324214
 | tw8813971360865096443 | tw7998882145499527291 | tw34973819011298372 | tw18077252451504420907 | tw8444485474815169660 | tw15049915579882222966 | tw14083174811912550360 | tw13693151698970425645
 | tw10832372714902493594 | tw475504637203379571 | tw10526450278244441347 | tw1131947718004389158 | tw361988391260621986 | tw1187621738648859521 | tw68583207552925679 | tw1260109841076350968
 | tw12751941453178770398 | tw13768022111668724869 | tw343466167905086371 | tw682118853340491869 | tw12694839693287152077 | tw15514582627573258888 | tw15125249793092713167 | tw14867786009866499097
 | tw7655348549001961377 | tw17523141691240183947 | tw13991153457399694206 | tw4422467980589238027 | tw3854841386772124976 | tw4021553388958230548 | tw2344555252993093685 | tw7679866490473911567
 | tw1794366587606141612 | tw13044712297643904012 | tw16010082561611172176 | tw1738568732085095695 | tw8240843510282647560 | tw4413022062167165213 | tw7402331550376179462 | tw1184046474409959372
 | tw2606605179533921204 | tw13785016668194262028 | tw5768017029299390605 | tw4850474363754552651 | tw17043745881599043918 | tw9011261684028344089 | tw17459055506807565144 | tw16614997268779884555
 | tw1717908055543718119 | tw1209302167439636750 | tw11583934255650758092 | tw9769508752530027236 | tw11715771771521356290 | tw12375956117615057028 | tw14910196054460333845 | tw3181263768780339815
 | tw16561358892256376566 | tw15844479895414721993 | tw3456759982494602791 | tw463922401486805532 | tw8051175819202115056 | tw15852167397033561657 | tw1468626708486099379 | tw2696803057755942406
 | tw621280365857966615 | tw12551272122512833202 | tw2502255005325697731 | tw4389886886427072020 | tw11021576845535984082 | tw10010073308102505051 | tw3560395354772753168 | tw15047622715211203024
 | tw10561614532807449646 | tw6685873950768423580 | tw9077499961655234275 | tw5111963214721469122 | tw15951822209966280781 | tw3206430150598317277 | tw3296228719597986181 | tw9873085400873918191
 | tw17981127900538233253 | tw12883226717174072929 | tw15299441751376522514 | tw14512900130325651676 | tw14351239917468089635 | tw13766890929068508089 | tw13919208668515756219 | tw14080317841664900947
 | tw8082525622098575004 | tw10417207482658295045 | tw17574924007504898019 | tw3033000801795871308 | tw4896991943567978086 | tw11936862169826932937 | tw1573883241084570941 | tw12671635077959887559
 | tw5966370430561559827 | tw6669637016587956254 | tw6470226551375498941 | tw6296442822449079070 | tw1716020845021695711 | tw14676607702438317844 | tw10812323210790656532 | tw14141145716924045246
 | tw993318610756450481 | tw5615041290372728251 | tw3646038578455805271 | tw13745468481787434895 | tw8726136223719687720 | tw16014238922788342806 | tw12712464894885122247 | tw1493195895237328973
 | tw11137717580222743687 | tw9436797506925631088 | tw5644102173096833478 | tw1672430352343407147 | tw5598960901190125371 | tw12711737379761468000 | tw18046769329787935796 | tw2374508889342742352
 | tw5786802440916883519 | tw4252253213113263801 | tw11563222243963900501 | tw15115280993331158948 | tw3779278523833752615 | tw10735498157041466061 | tw5967894683388254108 | tw10608064211566036177
 | tw16696970110862347987 | tw15167467963170242115 | tw17754226604838882737 | tw10288005310680499490 | tw9487412729115586208 | tw17941838207570625409 | tw7052487374083455452 | tw8289436998967072545
 | tw836682315257797775 | tw5731767919134061189 | tw1266551375814185321 | tw18019686006727952325 | tw15524609628809959576 | tw14819705321083490113 | tw8948394456235634372 | tw1075384976922961831
 | tw5221072658367912132 | tw8598008129510287140 | tw12291773697627041310 | tw13439175724170324898 | tw1726650934361328923 | tw8622572040931022249 | tw6566435876232116532 | tw2369676268678431522
 | tw3102304613802082008 | tw3234516348037348279 | tw1991891412052056084 | tw98228648622377046 | tw5577183979937703330 | tw9818848077531319480 | tw15693690533555310053 | tw2464449550956264604
 | tw12583791730926513808 | tw4770844647068181574 | tw11732770032957261708 | tw1235205170296859753 | tw16397586679558622713 | tw3107251899477543632 | tw11443179240108620161 | tw7214506149311207702
 | tw8578183088252433100 | tw15490191427132048272 | tw3668235348581650703 | tw1087128724078904015 | tw17366483908993452237 | tw5626402333611626420 | tw8951669227483769531 | tw17726302008667183110
 | tw11317107572557847266 | tw3844435602250123641 | tw14844654170374437369 | tw9456907927593901006 | tw2844365027694805896 | tw11708839101957030407 | tw8907380731241373628 | tw10569227973438803185
set_option maxRecDepth 100000 in
set_option maxHeartbeats 0 in
open_top zzH for PySem.Challenge.rw_onecurve_k65_asked_of_the_curve_at_a_des
namespace L2
open PySem PySem.Spec PyProof.Rows
abbrev Key:=Sum Int Str
def RM:Key->gl->Bool
 | .inl k,v=>Value.isInt k v
 | .inr x,v=>Value.isStrOf x v
def jT(w:rc):Key->Int
 | .inl k=>hashInt k
 | .inr x=>hashStr w x
theorem Jp:∀{k:Key} {v:gl},RM k v=true->(∃i t,k=Sum.inl i/\v=Value.int i t)\/(∃x t,k=Sum.inr x/\v=Value.str x t)
 | .inl i,v,h=>by
   obtain⟨t,e⟩:=Value.isInt_shape (k:=i) (v:=v) h;exact .inl ⟨i,t,Z,e⟩
 | .inr x,v,h=>by
   obtain⟨t,e⟩:=Value.isStrOf_shape (x:=x) (v:=v) h;exact .inr ⟨x,t,Z,e⟩
theorem WX(i:Int)(t:Tok):RM (.inl i) (.int i t)=true:=by simp[RM,Value.isInt]
theorem WW(x:Str)(t:Tok):RM (.inr x) (.str x t)=true:=by simp[RM,Value.isStrOf]
theorem ip(a b:Int):decide ((Sum.inl a:Key)=Sum.inl b)=(a == b):=by
 by_cases e:a=b
 ·subst e;simp
 ·have h:¬(Sum.inl a:Key)=Sum.inl b:=λq=>e (Sum.inl.inj q);rw[decide_eq_false h];exact(beq_eq_false_iff_ne.mpr e).symm
theorem ij(a b:Str):decide ((Sum.inr a:Key)=Sum.inr b)=decide (a=b):=by
 by_cases e:a=b
 ·subst e;simp
 ·have h:¬(Sum.inr a:Key)=Sum.inr b:=λq=>e (Sum.inr.inj q);rw[decide_eq_false h,decide_eq_false e]
theorem il(a:Int)(b:Str):decide ((Sum.inl a:Key)=Sum.inr b)=false:=decide_eq_false (λq=>nomatch q)
theorem ik(a:Str)(b:Int):decide ((Sum.inr a:Key)=Sum.inl b)=false:=decide_eq_false (λq=>nomatch q)
def J3(prog:mo)(w:rc):PySem.KeyKind prog w Key where
 is:=RM
 hash:=jT w
 inj:=λv a b ha hb=>by
  rcases Jp ha with ⟨i,t,rfl,rfl⟩ | ⟨x,t,rfl,rfl⟩
  ·rcases Jp hb with ⟨j,u,rfl,e⟩ | ⟨y,u,rfl,e⟩
   ·injection e with e1 _;rw[e1]
   ·exact nomatch e
  ·rcases Jp hb with ⟨j,u,rfl,e⟩ | ⟨y,u,rfl,e⟩
   ·exact nomatch e
   ·injection e with e1 _;rw[e1]
 byValue:=λk v h=>by
  rcases Jp h with ⟨i,t,rfl,rfl⟩ | ⟨x,t,rfl,rfl⟩<;>rfl
 pyHash:=λhv h=>by
  rcases Jp hv with ⟨i,t,rfl,rfl⟩ | ⟨x,t,rfl,rfl⟩
  ·exact wpAny_pyHash_int h
  ·exact wpAny_pyHash_str h
 eqBool:=λhu hv h=>by
  rcases Jp hu with ⟨i,t,rfl,rfl⟩ | ⟨x,t,rfl,rfl⟩
  ·rcases Jp hv with ⟨j,u,rfl,rfl⟩ | ⟨y,u,rfl,rfl⟩
   ·rw[ip]at h;exact wpAny_eqBool_int h
   ·rw[il]at h;exact SeqAt.EqAt.int_str i t y u _ _ _ _ h
  ·rcases Jp hv with ⟨j,u,rfl,rfl⟩ | ⟨y,u,rfl,rfl⟩
   ·rw[ik]at h;exact SeqAt.EqAt.str_int x t j u _ _ _ _ h
   ·rw[ij]at h;exact wpAny_eqBool_str h
 «strs»:=λk x t v h=>by
  rcases Jp h with ⟨i,u,rfl,e⟩ | ⟨y,u,rfl,e⟩
  ·exact nomatch e
  ·injection e with e1 _
   subst e1;cases v<;>rfl
theorem Ug(prog:mo)(w:rc)(i:Int)(t:Tok):(J3 prog w).is (.inl i) (.int i t)=true:=WX i t
theorem Ue(prog:mo)(w:rc)(x:Str)(t:Tok):(J3 prog w).is (.inr x) (.str x t)=true:=WW x t
inductive V where
 | non | bl (b:Bool) | int (i:Int) | str (x:Str) | byt (b:Array UInt8) | flt (b:UInt64) | ref (a:ge) | ty (n:String)
 deriving DecidableEq
def Iw:V->gl->Prop
 | .non,u=>u=Value.none
 | .bl b,u=>u=Value.bool b
 | .int i,u=>∃t,u=Value.int i t
 | .str x,u=>∃t,u=Value.str x t
 | .byt b,u=>∃t,u=Value.bytes b t
 | .flt b,u=>∃t,u=Value.float b t
 | .ref a,u=>u=Value.ref a
 | .ty n,u=>u=Value.type n
abbrev Ip:List V->List gl->Prop:=Paired Iw
theorem Ip.length(r:Ip xs us):xs.length=us.length:=Paired.length r
theorem Ip.get:∀{xs:List V} {us:List gl} {i:Nat} {x:V},Ip xs us->xs[i]? = some x->∃u,us[i]? = some u/\Iw x u
 | _,_,_,_,.nil,e=>by simp at e
 | _,_,0,_,.cons r _,e=>by simp at e;subst e;exact⟨_,Z,r⟩
 | _,_,i+1,x,.cons _ t,e=>by
   obtain⟨u,h1,h2⟩:=Ip.get (i:=i) (x:=x) t (by simpa using e)
   exact⟨u,by simpa using h1,h2⟩
theorem Ip.set(r:Iw x u):∀{xs:List V} {us:List gl} (i:Nat),Ip xs us->Ip (xs.set i x) (us.set i u)
 | _,_,_,.nil=>.nil
 | _,_,0,.cons _ t=>.cons r t
 | _,_,i+1,.cons q t=>.cons q (Ip.set r i t)
theorem Ip.append(a:Ip xs us)(b:Ip ys Y):Ip (xs++ys) (us++Y):=by
 induction a with
 | nil=>exact b
 | cons r t ih=>exact .cons r ih
theorem Ip.take:∀{xs:List V} {us:List gl} (n:Nat),Ip xs us->Ip (xs.take n) (us.take n)
 | _,_,0,_=>.nil
 | _,_,_+1,.nil=>.nil
 | _,_,n+1,.cons r t=>.cons r (Ip.take n t)
theorem Ip.drop:∀{xs:List V} {us:List gl} (n:Nat),Ip xs us->Ip (xs.drop n) (us.drop n)
 | _,_,0,r=>r
 | _,_,_+1,.nil=>.nil
 | _,_,n+1,.cons _ t=>Ip.drop n t
def Mh:Option V->Option gl->Prop
 | some v,some u=>Iw v u
 | none,none=>True
 | _,_=>False
def KV{κ:Type}:List (κ×V)->List (κ×gl)->Prop:=Paired fun(p:κ×V) (q:κ×gl)=>p.1=q.1/\Iw p.2 q.2
def kV:Key->V
 | .inl i=>.int i
 | .inr x=>.str x
inductive HO where
 | lst (xs:List V)
 | tup (xs:List V)
 | dK (kvs:List (Key×V)) | dT (kvs:List (List Key×V))
 | set (S:Int->Bool) (n:Nat)
 | ins (C dx:ge) (fs:List (Str×V))
 | own (x:ge)
 | xd (fs:List (Str×V))
 | met (f x:ge)
 | rng (lo hi:Int)
 | frz (o:Obj) (u:HO)
 | tbl (ps:Array gl)
 | ext (φ:rf->Prop)
abbrev Hp:=ge->Option HO
def upd(H:Hp)(a:ge)(o:HO):Hp:=λb=>if b=a then some o else H b
theorem Hu:upd H a o a=some o:=by unfold upd;rw[if_pos rfl]
theorem HZ(h:b≠a):upd H a o b=H b:=by unfold upd;rw[if_neg h]
theorem Zk:upd (upd H a o) a u=upd H a u:=by
 funext b;unfold upd;split<;>rfl
theorem Ku{H:Hp}{a b:ge}{o u:HO}(h:H a=some o)(h':H b=some u)(d:o≠u):a≠b:=by
 intro e;subst e;rw[h]at h';exact d (pC.inj h')
theorem HW{H:Hp}{a b:ge}{o:HO}(h:H a=some o)(h':H b=none):a≠b:=by
 intro e;subst e;rw[h]at h';cases h'
section
variable (P:mo)(w:rc)
def Jb(H:Hp)(h:rf)(a:ge):HO->Prop
 | .lst xs=>xs.length<=io/\∃(its:List gl) (n:Nat),Ip xs its/\h.get? a=some { cls:=.type "list",data:=.seq its.toArray n }
 | .tup xs=>xs.length<=io/\∃its:List gl,Ip xs its/\IsTup h a its.toArray
 | .dK kvs=>kvs.length<=io/\(a == vg)=false/\∃vs,KV kvs vs/\h.DictOf (J3 P w) a vs
 | .dT kvs=>kvs.length<=io/\(a == vg)=false/\∃xs:List (List Key×ge×gl),
  Paired (fun(p:List Key×V) (q:List Key×ge×gl)=>p.1=q.1/\H q.2.1=some (.tup (p.1.map kV))/\Iw p.2 q.2.2) kvs xs /\
  ∃o es ep,h.get? a=some o/\o.ExactDict/\o.data = .dict es ep/\es.toList=xs.map (entryOfKey (tupleKind (J3 P w)))/\(xs.map (·.1)).Nodup
 | .set S n=>h.SetOf (intKind P w) a S n
 | .ins C dx fs=>H dx=some (.own a)/\fs.length<=1000/\dx≠a/\h.get? a=some (pD C dx) /\
  ∃mA,h.Ns1 dx mA/\(∀f,Mh (fs.lookup f) (mA f))/\PySem.Within mA (fs.map (·.1))
 | .own _=>∃o,h.get? a=some o
 | .xd fs=>∃mA,h.Ns1 a mA/\∀f,Mh (fs.lookup f) (mA f)
 | .rng lo hi=>∃t u v,h.get? a=some { cls:=.type "range",data:=.fields #[.int lo t,.int hi u,.int 1 v] }
 | .frz o u=>h.get? a=some o/\Jb H h a u
 | .tbl ps=>h.get? a=some { cls:=.none,data:=.fields ps }
 | .met f x=>h.get? a=some (pE (.ref f) (.ref x))
 | .ext φ=>φ h/\(∃o,h.get? a=some o)/\∀h1 h2:rf,φ h1->(∀o,h1.get? a=some o->h2.get? a=some o)->φ h2
def HOk(H:Hp)(h:rf):Prop:=∀a o,H a=some o->Jb P w H h a o
end
section
variable {P:mo}{w:rc}{H H':Hp}{h h':rf}{a:ge}{o:HO}
theorem Jb.lt(x:Jb P w H h a o):a<h.objs.size:=by
 cases o with
 | lst xs=>obtain⟨_,_,_,_,e⟩:=x;exact Heap.lt_size e
 | tup xs=>obtain⟨_,_,_,p⟩:=x;exact p.lt
 | dK kvs=>obtain⟨_,_,_,_,o,_,_,e,_⟩:=x;exact Heap.lt_size e
 | dT kvs=>obtain⟨_,_,_,_,o,_,_,e,_⟩:=x;exact Heap.lt_size e
 | set S n=>obtain⟨o,_,_,_,e,_⟩:=x;exact Heap.lt_size e
 | ins C dx fs=>obtain⟨_,_,_,e,_⟩:=x;exact Heap.lt_size e
 | own y=>obtain⟨_,e⟩:=x;exact Heap.lt_size e
 | xd fs=>obtain⟨_,⟨_,_,_,e,_⟩,_⟩:=x;exact Heap.lt_size e
 | rng lo hi=>obtain⟨_,_,_,e⟩:=x;exact Heap.lt_size e
 | frz ob u=>obtain⟨e,_⟩:=x;exact Heap.lt_size e
 | tbl ps=>exact Heap.lt_size (show h.get? a=some _ from x)
 | met f y=>exact Heap.lt_size (show h.get? a=some _ from x)
 | ext φ=>obtain⟨_,⟨_,e⟩,_⟩:=x;exact Heap.lt_size e
theorem Paired.mapP(h:Paired F l₁ Y)(f:∀a b,F a b->G a b):Paired G l₁ Y:=by
 induction h with
 | nil=>exact .nil
 | cons r t ih=>exact .cons (f _ _ r) ih
theorem Jb.stay(x:Jb P w H h a o)(k:∀b u,(b=a\/H b=some (.own a))->h.get? b=some u->h'.get? b=some u)
 (ho:∀b,H b=some (.own a)->H' b=some (.own a)) (ht:∀b xs,H b=some (.tup xs)->H' b=some (.tup xs)):Jb P w H' h' a o:=by
 induction o with
 | lst xs=>obtain⟨z,W,n,r,e⟩:=x;exact⟨z,W,n,r,k _ _ (.inl rfl) e⟩
 | tup xs=>obtain⟨z,W,r,Y,e,c⟩:=x;exact⟨z,W,r,Y,k _ _ (.inl rfl) e,c⟩
 | dK kvs=>obtain⟨z,y,vs,r,Y,es,ep,e,c⟩:=x;exact⟨z,y,vs,r,Y,es,ep,k _ _ (.inl rfl) e,c⟩
 | dT kvs =>
   obtain⟨z,y,xs,r,Y,es,ep,e,c⟩:=x;exact⟨z,y,xs,Paired.mapP r λp q z=>⟨z.1,ht _ _ z.2.1,z.2.2⟩,Y,es,ep,k _ _ (.inl rfl) e,c⟩
 | set S n=>obtain⟨Y,es,ep,t,e,c⟩:=x;exact⟨Y,es,ep,t,k _ _ (.inl rfl) e,c⟩
 | ins C dx fs =>
   obtain⟨d,z,J,e,mA,⟨O,es,ep,e2,c⟩,r⟩:=x;exact⟨ho _ d,z,J,k _ _ (.inl rfl) e,mA,⟨O,es,ep,k _ _ (.inr d) e2,c⟩,r⟩
 | own y=>obtain⟨Y,e⟩:=x;exact⟨Y,k _ _ (.inl rfl) e⟩
 | xd fs=>obtain⟨mA,⟨O,es,ep,e,c⟩,r⟩:=x;exact⟨mA,⟨O,es,ep,k _ _ (.inl rfl) e,c⟩,r⟩
 | rng lo hi=>obtain⟨t,u,v,e⟩:=x;exact⟨t,u,v,k _ _ (.inl rfl) e⟩
 | frz Y u ih=>obtain⟨e,q⟩:=x;exact⟨k _ _ (.inl rfl) e,ih q⟩
 | tbl ps =>
   have e:h.get? a=some { cls:=.none,data:=.fields ps }:=x;show h'.get? a=some { cls:=.none,data:=.fields ps };exact k a _ (.inl rfl) e
 | met f y =>
   have e:h.get? a=some (pE (.ref f) (.ref y)):=x;show h'.get? a=some (pE (.ref f) (.ref y));exact k a _ (.inl rfl) e
 | ext φ=>obtain⟨p,⟨o,e⟩,st⟩:=x;exact⟨st _ _ p λo q=>k _ _ (.inl rfl) q,⟨o,k _ _ (.inl rfl) e⟩,st⟩
theorem HOk.lt(x:HOk P w H h)(e:H a=some o):a<h.objs.size:=(x a o e).lt
theorem HOk.fresh(x:HOk P w H h)(e:h.objs.size<=a):H a=none:=by
 cases q:H a with
 | none=>rfl
 | some u=>exact absurd (pF (x.lt q) e) (pH _)
theorem HOk.kept(x:HOk P w H h)(k:∀b u,h.get? b=some u->h'.get? b=some u):HOk P w H h':=λa o e =>
 (x a o e).stay (λb u _ q=>k b u q) (λ_ q=>q) λ_ _ q=>q
theorem HOk.laid(x:HOk P w H h)(k:∀b u,h.get? b=some u->h'.get? b=some u)(O:h.objs.size<=a)(Y:Jb P w (upd H a o) h' a o):HOk P w (upd H a o) h':=λb u e=>by
 have W:=x.fresh O;by_cases hb:b=a
 ·subst hb;rw[Hu]at e;cases e;exact Y
 ·rw[HZ hb]at e;exact(x b u e).stay (λc v _ q=>k c v q) (λc q=>by rw[HZ (HW q W)];exact q) λc xs q=>by rw[HZ (HW q W)];exact q
end
def Rd(H:Hp)(a:ge)(u:HO):Prop:=H a=some u\/∃o,H a=some (.frz o u)
theorem Rd.ok(r:Rd H a u)(x:HOk P w H h):Jb P w H h a u:=by
 rcases r with r | ⟨o,r⟩
 ·exact x a u r
 ·obtain⟨_,q⟩:=x a _ r;exact q
def Mut:Option HO->Prop
 | some (.lst _)=>True
 | some (.dK _)=>True
 | some (.dT _)=>True
 | some (.set _ _)=>True
 | some (.ins _ _ _)=>True
 | some (.ext _)=>True
 | _=>False
section
variable {P:mo}{w:rc}{H:Hp}{h h':rf}{x e:ge}{o':HO}
theorem HOk.write(ok:HOk P w H h)(mu:Mut (H x))(he:e=x\/H e=some (.own x))(k:∀b u,b≠e->h.get? b=some u->h'.get? b=some u)(aa:∃u,h'.get? e=some u)
 (J:Jb P w (upd H x o') h' x o'):HOk P w (upd H x o') h':=λb u q=>by
 have Y:∀c y,H c=some (.own y)->c≠x:=λc y r z=>by subst z;rw[r]at mu;exact mu
 have W:∀c xs,H c=some (.tup xs)->c≠x:=λc xs r z=>by subst z;rw[r]at mu;exact mu
 by_cases hb:b=x
 ·subst hb;rw[Hu]at q;cases q;exact J
 ·rw[HZ hb]at q;by_cases hbe:b=e
  ·have q':H b=some (.own x):=by
    rcases he with z | z
    ·exact absurd (hbe.trans z) hb
    ·rw[hbe];exact z
   rw[q]at q';cases q';obtain⟨v,hv⟩:=aa;exact⟨v,by rw[hbe];exact hv⟩
  ·refine(ok b u q).stay (λc v O r=>k c v ?_ r) (λc r=>by rw[HZ (Y c b r)];exact r) λc xs r=>by rw[HZ (W c xs r)];exact r
   rcases O with rfl | O
   ·exact hbe
   ·rintro rfl
    rcases he with z | z
    ·exact Y c b O z
    ·rw[O]at z;cases z;exact hb rfl
end
structure Un(fs ex:List ge)(H H':Hp)(h h':rf):Prop where
 keep:∀b o,h.get? b=some o->H b=none->b∉fs->b∉ex->h'.get? b=some o
 slot:∀b o,h.get? b=some o->H b=none->b∈fs->b∉ex->∃sl,h'.get? b=some { o with slots:=sl }
 free:∀b o,h.get? b=some o->H b=none->b∉ex->H' b=none
 there:∀b o,h.get? b=some o->b∉ex->∃o',h'.get? b=some o'
 tups:∀b xs,H b=some (.tup xs)->H' b=some (.tup xs)
 frzs:∀b o u,H b=some (.frz o u)->H' b=some (.frz o u)
 tbls:∀b ps,H b=some (.tbl ps)->∃more,H' b=some (.tbl (ps++more))
section
variable {fs fs' ex ex':List ge}{H H1 H2:Hp}{h h1 h2 h':rf}{a x e:ge}{o:HO}
theorem Un.any(u:Un fs ex H H1 h h1)(q:h.get? b=some Y)(n:H b=none)(W:b∉ex):∃O,h1.get? b=some { Y with slots:=O }:=by
 by_cases hb:b∈fs
 ·exact u.slot b Y q n hb W
 ·exact⟨Y.slots,u.keep b Y q n hb W⟩
theorem Un.kept(k:∀b u,h.get? b=some u->h'.get? b=some u):Un fs ex H H h h' :=
 ⟨λb Y q _ _ _=>k b Y q,λb Y q _ _ _=>⟨Y.slots,k b Y q⟩,λ_ _ _ n _=>n,λb Y q _=>⟨Y,k b Y q⟩,λ_ _ q=>q,λ_ _ _ q=>q,λ_ ps q=>⟨#[],by rw[q];simp⟩⟩
theorem Un.refl:Un fs ex H H h h:=Un.kept λ_ _ q=>q
theorem Un.laid(k:∀b u,h.get? b=some u->h'.get? b=some u)(W:h.objs.size<=a)(Y:H a=none):Un fs ex H (upd H a o) h h' where
 keep:=λb u q _ _ _=>k b u q
 slot:=λb u q _ _ _=>⟨u.slots,k b u q⟩
 free:=λb u q n _=>by rw[HZ (pJ (pF (Heap.lt_size q) W))];exact n
 there:=λb u q _=>⟨u,k b u q⟩
 tups:=λb xs q=>by rw[HZ (HW q Y)];exact q
 frzs:=λb u xs q=>by rw[HZ (HW q Y)];exact q
 tbls:=λb ps q=>⟨#[],by rw[HZ (HW q Y),q];simp⟩
theorem Un.write(mu:Mut (H x))(he:e=x\/H e=some (.own x))(k:∀b u,b≠e->h.get? b=some u->h'.get? b=some u)(Y:∃u,h'.get? e=some u):Un fs ex H (upd H x o) h h':=by
 have O:∀b,H b=none->b≠x:=λb n z=>by subst z;rw[n]at mu;exact mu
 have J:∀b,H b=none->b≠e:=λb n z=>by
  subst z
  rcases he with r | r
  ·exact O b n r
  ·rw[n]at r;cases r
 have W:∀b u,H b=some u->¬Mut (some u)->b≠x:=λb u q nm z=>by subst z;rw[q]at mu;exact nm mu
 refine⟨λb u q n _ _=>k b u (J b n) q,λb u q n _ _=>⟨u.slots,k b u (J b n) q⟩,λb u q n _=>by rw[HZ (O b n)];exact n,λb u q _=>?_,
  λb xs q=>by rw[HZ (W b _ q λz=>z)];exact q,λb u xs q=>by rw[HZ (W b _ q λz=>z)];exact q,λb ps q=>⟨#[],by rw[HZ (W b _ q λz=>z),q];simp⟩⟩
 by_cases hbe:b=e
 ·subst hbe;exact Y
 ·exact⟨u,k b u hbe q⟩
end
def trk(h:rf)(H:Hp):List ge:=(pK h.objs.size).filter λa=>(H a).isSome
def Rj(h:rf)(H:Hp):rf:=pL h (trk h H)
theorem X0(h:rf)(H:Hp):(Rj h H).objs.size=h.objs.size:=PySem.W.hideAll_size _ _
theorem YJ(e:h.get? b=some o)(n:H b=none):(Rj h H).get? b=some o :=
 PySem.W.hideAll_get _ e λY=>by
  have q:(H b).isSome=true:=(pM.mp Y).2;rw[n]at q;simp at q
theorem ZL(e:(Rj h H).get? b=some o):h.get? b=some o/\H b=none:=by
 have Y:h.get? b=some o:=pN (trk h H) e;refine⟨Y,?_⟩;cases q:H b with
 | none=>rfl
 | some x =>
   have O:b∈trk h H:=pM.mpr ⟨pO.mpr (Heap.lt_size Y),by simp[q]⟩
   have z:(Rj h H).get? b=none:=PySem.W.hideAll_none (trk h H) O;rw[z]at e;cases e
def fw(g h:rf)(L:ge):List (ge×Obj):=(pK h.objs.size).filterMap λa=>if a=L\/(g.get? a).isSome=true then none else (h.get? a).map λo=>(a,o)
def Ju(g h:rf)(L d:ge):List (ge×Obj):=(fw g h L).filter λp=>decide (p.1≠d)
structure Mod(K:pP)(mg:Str->Option gl)(base:rf):Prop where
 kin:K.In base
 glob:base.Ns pc mg
 blt:∃mb,base.Ns builtinsNs mb/\∀x:Str,x ≠ "__name__" -> mb x=tD x
 nolimit:base.NoLimit
 seer:base.NoSeer
structure Cx where
 prog:mo
 w:rc
 K:pP
 mg:Str->Option gl
 base:rf
 A:sB
 N:List Str
 s₀:im
 H₀:Hp
 env:Env
 outer:List Env
 stack:List Env
 ex:List ge
 fn:Str->Bool
 calm:Bool
 pn:List (ge×Obj)
 xe:gl->im->Prop
def frs(l:List Env):List ge:=l.filterMap (·.frame)
abbrev Cx.fs(X:Cx):List ge:=frs X.outer
def Vis(sc:vi)(x:Str):Prop:=sc.names.lookup x=some .local\/sc.names.lookup x=some .cell\/sc.names.lookup x=some .free
def Loc(sc:vi)(x:Str):Prop:=sc.names.lookup x=some .local\/sc.names.lookup x=some .cell
def kh(env:Env)(h:rf)(m:Str->Option gl)(x:Str)(u:gl):Prop :=
 (env.kindOf x=some .local/\m x=some u)\/((env.kindOf x=some .cell\/env.kindOf x=some .free)/\∃c,env.cells.lookup x=some c/\h.IsCell c (some u))
structure Cx.Ok(X:Cx):Prop where
 mod:Mod X.K X.mg X.base
 kind:X.env.scope.kind = .function
 glob:X.env.globals=pc
 blt:X.env.builtins=builtinsNs
 above:X.s₀.heap.objs.size<=X.env.locals
 inj:∀x y c,X.env.cells.lookup x=some c->X.env.cells.lookup y=some c->x=y
 has:∀x,(X.env.kindOf x=some .cell\/X.env.kindOf x=some .free)->∃c,X.env.cells.lookup x=some c
 cab:∀x c,X.fn x=true->X.env.cells.lookup x=some c->X.s₀.heap.objs.size<=c
 hd:X.calm=true->X.A.handled=none
 frames:X.A.frames=some X.stack
 stk:X.stack=X.outer\/(X.stack=X.env::X.outer/\X.env.frame=some X.env.locals)
 exf:∀b∈X.ex,b≠X.env.locals/\∀x c,X.env.cells.lookup x=some c->c≠b
 bs:∀b o,X.base.get? b=some o->X.s₀.heap.get? b=some o/\X.H₀ b=none
 bsz:X.base.objs.size<=X.s₀.heap.objs.size
 noex:∀b o,X.base.get? b=some o->b∉X.ex
 exfs:∀b∈X.ex,b∉X.fs
 funs:X.s₀.heap.FunFrames X.base X.outer
 frf:∀b∈X.fs,X.H₀ b=none
structure Inv(X:Cx)(pins:List (ge×Obj))(σ:List (Option V))(H:Hp)(s:im):Prop where
 ok:X.Ok
 os:s.os=X.s₀.os
 bare:vE s.gens
 base:Un X.fs X.ex X.H₀ H X.s₀.heap s.heap
 loc:∃m,s.heap.Ns X.env.locals m/\∀(i:Nat) (x:Str) (v:V),X.N[i]? = some x->σ[i]? = some (some v)->Vis X.env.scope x->∃u,Iw v u/\kh X.env s.heap m x u
 cell:∀x c,X.env.cells.lookup x=some c->∃v,s.heap.IsCell c v
 free:H X.env.locals=none
 freeC:∀x c,X.env.cells.lookup x=some c->H c=none
 pin:∀p∈X.pn++pins,s.heap.get? p.1=some p.2/\H p.1=none/\p.1≠X.env.locals/\p.1∉X.fs/\∀v,p.2.data ≠ .cell v
 hok:HOk X.prog X.w H s.heap
 len:σ.length=X.N.length
section
variable {X:Cx}{pins:List (ge×Obj)}{σ:List (Option V)}{H H':Hp}{s:im}{h':rf}
theorem Cx.Ok.nofr(Y:X.Ok)(e:X.base.get? b=some o):b∉X.fs:=λW=>by
 have:=(Y.funs.mem W).1;rw[e]at this;cases this
theorem Inv.bs(I:Inv X pins σ H s):∀b o,X.base.get? b=some o->s.heap.get? b=some o/\H b=none:=λb o e =>
 ⟨I.base.keep b o (I.ok.bs b o e).1 (I.ok.bs b o e).2 (I.ok.nofr e) (I.ok.noex b o e),I.base.free b o (I.ok.bs b o e).1 (I.ok.bs b o e).2 (I.ok.noex b o e)⟩
theorem Inv.bk(I:Inv X pins σ H s):∀b o,X.base.get? b=some o->s.heap.get? b=some o:=λb o e=>(I.bs b o e).1
theorem Inv.mod(I:Inv X pins σ H s):Mod X.K X.mg X.base:=I.ok.mod
theorem Inv.kIn(I:Inv X pins σ H s):X.K.In s.heap:=I.ok.mod.kin.keeps I.bk
theorem Inv.nolimit(I:Inv X pins σ H s):s.heap.NoLimit:=I.ok.mod.nolimit.keeps I.bk
theorem Inv.lt(I:Inv X pins σ H s):X.env.locals<s.heap.objs.size:=let ⟨_,hn,_⟩:=I.loc;hn.lt
theorem Inv.sz(I:Inv X pins σ H s):X.s₀.heap.objs.size<=s.heap.objs.size:=pQ I.ok.above (pR I.lt)
theorem Inv.nofs(I:Inv X pins σ H s)(h:s.heap.objs.size<=a):a∉X.fs:=λW=>by
 obtain⟨_,o,Y,_⟩:=I.ok.funs.mem W;exact absurd (pF (Heap.lt_size Y) (pQ I.sz h)) (pH _)
theorem Inv.cne(I:Inv X pins σ H s):∀x c,X.env.cells.lookup x=some c->c≠X.env.locals:=λx c e z=>by
 obtain⟨v,o,O,hd⟩:=I.cell x c e;obtain⟨m,⟨o',es,ep,W,Y,_⟩,_⟩:=I.loc;rw[z,W]at O;cases O;rw[Y]at hd;cases hd
theorem Inv.funs(I:Inv X pins σ H s):s.heap.FunFrames X.base X.outer:=by
 have Y:∀(l:List Env),(∀b∈frs l,b∈X.fs)->X.s₀.heap.FunFrames X.base l->s.heap.FunFrames X.base l:=by
  intro l
  induction l with
  | nil=>intro _ _;trivial
  | cons env r ih =>
    intro hs hl;obtain⟨hk,⟨L,o,O,hn,ho,hd⟩,hr⟩:=hl;have W:L∈X.fs:=hs L (by unfold frs;rw[pS,O];exact pT)
    obtain⟨sl,e⟩:=I.base.slot L o ho (I.ok.frf L W) W λz=>I.ok.exfs L z W;exact⟨hk,⟨L,_,O,hn,e,hd⟩,ih (λb J=>hs b (by unfold frs;rw[pS,O];exact pU _ J)) hr⟩
 exact Y X.outer (λ_ J=>J) I.ok.funs
theorem Inv.stack(I:Inv X pins σ H s):s.heap.FunFrames X.base X.stack:=by
 rcases I.ok.stk with e | ⟨e,Y⟩
 ·rw[e];exact I.funs
 ·rw[e];obtain⟨m,W,_⟩:=I.loc;refine .cons (by rw[I.ok.kind];decide) Y W ?_ I.funs
  exact Heap.get?_none_of_le (pQ I.ok.bsz I.ok.above)
theorem Inv.stkSub(I:Inv X pins σ H s):∀b∈frs X.stack,b∈X.env.locals::X.fs:=λb Y=>by
 rcases I.ok.stk with e | ⟨e,W⟩
 ·rw[e]at Y;exact pU _ Y
 ·rw[e]at Y;unfold frs at Y;rw[pS,W]at Y;exact Y
theorem Inv.stkFree(I:Inv X pins σ H s):∀b∈frs X.stack,H b=none:=λb Y=>by
 rcases pV.mp (I.stkSub b Y) with e | Y
 ·rw[e];exact I.free
 ·obtain⟨_,o,W,_⟩:=I.ok.funs.mem Y;exact I.base.free b o W (I.ok.frf b Y) λz=>I.ok.exfs b z Y
theorem Inv.step{ch:List ge}(I:Inv X pins σ H s)
 (ac:∀b∈ch,(b∈X.ex\/X.s₀.heap.objs.size<=b)/\b≠X.env.locals/\(∀x c,X.env.cells.lookup x=some c->c≠b)/\∀p∈X.pn++pins,p.1≠b)
 (aa:∀b o,b≠X.env.locals->b∉X.fs->b∉ch->s.heap.get? b=some o->H b=none->h'.get? b=some o)
 (ae:∀b o,b≠X.env.locals->b∈X.fs->b∉ch->s.heap.get? b=some o->H b=none->∃sl,h'.get? b=some { o with slots:=sl }) (W:∀b o,b∉ch->s.heap.get? b=some o->H b=none->H' b=none)
 (af:∀b o,b∉ch->s.heap.get? b=some o->∃o',h'.get? b=some o')
 (ah:∀b xs,H b=some (.tup xs)->H' b=some (.tup xs)) (ag:∀b o u,H b=some (.frz o u)->H' b=some (.frz o u)) (ai:∀b ps,H b=some (.tbl ps)->∃more,H' b=some (.tbl (ps++more)))
 (ns:∀m,s.heap.Ns X.env.locals m->h'.Ns X.env.locals m) (al:HOk X.prog X.w H' h') (hg:vE g') :
 Inv X pins σ H' { s with heap:=h',gens:=g',drawn:=d',toks:=t' }:=by
 have aj:∀b o,X.s₀.heap.get? b=some o->b≠X.env.locals:=λb o e=>pJ (pF (Heap.lt_size e) I.ok.above)
 have ad:∀b o,X.s₀.heap.get? b=some o->b∉X.ex->b∉ch:=λb o e Y hb=>by
  rcases(ac b hb).1 with z | z
  ·exact Y z
  ·exact absurd (pF (Heap.lt_size e) z) (pH _)
 have J:∀x c,X.env.cells.lookup x=some c->∀v,s.heap.IsCell c v->h'.IsCell c v:=λx c e v ⟨o,ho,hd⟩=>by
  have O:c∉ch:=λz=>(ac c z).2.2.1 x c e rfl;by_cases hc:c∈X.fs
  ·obtain⟨sl,q⟩:=ae c o (I.cne x c e) hc O ho (I.freeC x c e);exact⟨_,q,hd⟩
  ·exact⟨o,aa c o (I.cne x c e) hc O ho (I.freeC x c e),hd⟩
 refine⟨I.ok,I.os,hg,⟨λb o e n hb Y=>?_,λb o e n hb Y=>?_,λb o e n Y=>?_,λb o e Y=>?_,λb xs e=>ah b xs (I.base.tups b xs e),λb o xs e=>ag b o xs (I.base.frzs b o xs e),λb ps e=>?_⟩,?_,λx c e=>?_,?_,λx c e=>?_,λp hp=>?_,al,I.len⟩
 ·exact aa b o (aj b o e) hb (ad b o e Y) (I.base.keep b o e n hb Y) (I.base.free b o e n Y)
 ·obtain⟨sl,e1⟩:=I.base.slot b o e n hb Y;obtain⟨ak,e2⟩:=ae b _ (aj b o e) hb (ad b o e Y) e1 (I.base.free b o e n Y);exact⟨ak,e2⟩
 ·obtain⟨o',e1⟩:=I.base.there b o e Y;exact W b o' (ad b o e Y) e1 (I.base.free b o e n Y)
 ·obtain⟨o',e1⟩:=I.base.there b o e Y;exact af b o' (ad b o e Y) e1
 ·obtain⟨m1,e1⟩:=I.base.tbls b ps e;obtain⟨m2,e2⟩:=ai b _ e1;exact⟨m1++m2,by rw[e2,Array.append_assoc]⟩
 ·obtain⟨m,hn,hl⟩:=I.loc;refine⟨m,ns m hn,λi x v e1 e2 e3=>?_⟩;obtain⟨u,r,l⟩:=hl i x v e1 e2 e3;refine⟨u,r,?_⟩
  rcases l with l | ⟨k,c,e,z⟩
  ·exact .inl l
  ·exact .inr ⟨k,c,e,J x c e _ z⟩
 ·obtain⟨v,z⟩:=I.cell x c e;exact⟨v,J x c e v z⟩
 ·obtain⟨m,⟨o,_,_,ho,_⟩,_⟩:=I.loc;exact W _ o (λz=>(ac _ z).2.1 rfl) ho I.free
 ·obtain⟨v,o,ho,hd⟩:=I.cell x c e;exact W c o (λz=>(ac c z).2.2.1 x c e rfl) ho (I.freeC x c e)
 ·obtain⟨e,n,ne,nf,d⟩:=I.pin p hp;have O:p.1∉ch:=λz=>(ac p.1 z).2.2.2 p hp rfl;exact⟨aa p.1 p.2 ne nf O e n,W p.1 p.2 O e n,ne,nf,d⟩
theorem Inv.un(I:Inv X pins σ H s)(u:Un X.fs [] H H' s.heap h')(W:HOk X.prog X.w H' h'):Inv X pins σ H' { s with heap:=h',toks:=t' }:=by
 obtain⟨m,⟨o,es,ep,J,r⟩,_⟩:=id I.loc;obtain⟨sl,hL⟩:=u.any J I.free (by simp)
 exact I.step (g':=s.gens) (d':=s.drawn) (ch:=[]) (λ_ z=>nomatch z) (λb o _ O _ e n=>u.keep b o e n O (by simp)) (λb o _ O _ e n=>u.slot b o e n O (by simp)) (λb o _ e n=>u.free b o e n (by simp)) (λb o _ e=>u.there b o e (by simp)) u.tups u.frzs u.tbls (λm' hm=>by
  obtain⟨o',es',ep',Y,r'⟩:=hm;rw[J]at Y;cases Y;exact⟨_,es',ep',hL,r'⟩) W I.bare
theorem Inv.call{ch:List ge}(I:Inv X pins σ H s)(u:Un (frs X.stack) ch H H' s.heap h')(J:HOk X.prog X.w H' h')(hg:vE g')
 (O:∀b∈ch,(b∈X.ex\/X.s₀.heap.objs.size<=b)/\b≠X.env.locals/\(∀x c,X.env.cells.lookup x=some c->c≠b)/\∀p∈X.pn++pins,p.1≠b) :
 Inv X pins σ H' { s with heap:=h',gens:=g',drawn:=d',toks:=t' }:=by
 obtain⟨m,⟨o,es,ep,ho,r⟩,_⟩:=id I.loc;obtain⟨sl,hL⟩:=u.any ho I.free λz=>(O _ z).2.1 rfl
 exact I.step (ch:=ch) O (λb o hL hb Y e n=>u.keep b o e n (λz=>(pV.mp (I.stkSub b z)).elim hL hb) Y) (λb o _ _ Y e n=>u.any e n Y) (λb o Y e n=>u.free b o e n Y) (λb o Y e=>u.there b o e Y) u.tups u.frzs u.tbls (λm' hm=>by
  obtain⟨o',es',ep',W,r'⟩:=hm;rw[ho]at W;cases W;exact⟨_,es',ep',hL,r'⟩) J hg
theorem Inv.turned{it:ge}(I:Inv X pins σ H s)(k:∀b o,b≠it->s.heap.get? b=some o->h'.get? b=some o)(hn:H it=none)(O:it≠X.env.locals)
 (h1:it∈X.ex\/X.s₀.heap.objs.size<=it) (h2:∀x c,X.env.cells.lookup x=some c->c≠it) (J:∀p∈X.pn++pins,p.1≠it):Inv X pins σ H { s with heap:=h',toks:=t' }:=by
 have W:∀b u,H b=some u->b≠it:=λb u e z=>by rw[z,hn]at e;cases e
 refine I.step (g':=s.gens) (d':=s.drawn) (ch:=[it]) (λb hb=>?_) (λb o _ _ Y e _=>k b o (λz=>Y (by simp[z])) e) (λb o _ _ Y e _=>⟨o.slots,k b o (λz=>Y (by simp[z])) e⟩) (λ_ _ _ _ n=>n)
  (λb o Y e=>⟨o,k b o (λz=>Y (by simp[z])) e⟩) (λ_ _ e=>e) (λ_ _ _ e=>e) (λb ps e=>⟨#[],by rw[e];simp⟩) (λm hm=>?_) (λb u e=>?_) I.bare
 ·have e:b=it:=by simpa using hb
  subst e;exact⟨h1,O,h2,J⟩
 ·obtain⟨o,es,ep,ho,r⟩:=hm;exact⟨o,es,ep,k _ o (Ne.symm O) ho,r⟩
 ·refine(I.hok b u e).stay (λc v Y q=>k c v ?_ q) (λ_ q=>q) λ_ _ q=>q
  rcases Y with z | z
  ·rw[z];exact W b u e
  ·exact W c _ z
theorem Inv.tok(I:Inv X pins σ H s)(t:Nat):Inv X pins σ H { s with toks:=t }:=I.un (h':=s.heap) (t':=t) Un.refl I.hok
theorem Inv.kept(I:Inv X pins σ H s)(k:∀b u,s.heap.get? b=some u->h'.get? b=some u):Inv X pins σ H { s with heap:=h',toks:=t' }:=I.un (Un.kept k) (I.hok.kept k)
theorem Inv.laid(I:Inv X pins σ H s)(k:∀b u,s.heap.get? b=some u->h'.get? b=some u)(Y:s.heap.objs.size<=a)(W:Jb X.prog X.w (upd H a o) h' a o) :
 Inv X pins σ (upd H a o) { s with heap:=h',toks:=t' }:=I.un (Un.laid k Y (I.hok.fresh Y)) (I.hok.laid k Y W)
theorem Inv.write(I:Inv X pins σ H s)(mu:Mut (H x))(O:e=x\/H e=some (.own x))(k:∀b u,b≠e->s.heap.get? b=some u->h'.get? b=some u)(Y:∃u,h'.get? e=some u)
 (W:Jb X.prog X.w (upd H x o) h' x o):Inv X pins σ (upd H x o) { s with heap:=h',toks:=t' }:=I.un (Un.write mu O k Y) (I.hok.write mu O k Y W)
theorem Inv.weak(I:Inv X pins σ H s)(J:Y.length=σ.length)(w:∀(i:Nat) v,Y[i]? = some (some v)->σ[i]? = some (some v)):Inv X pins Y H s :=
 ⟨I.ok,I.os,I.bare,I.base,let ⟨m,hn,hl'⟩:=I.loc;⟨m,hn,λi x v e1 O W=>hl' i x v e1 (w i v O) W⟩,I.cell,I.free,I.freeC,I.pin,I.hok,J.trans I.len⟩
theorem Inv.pins_of(I:Inv X pins σ H s)(h:∀p∈pins',s.heap.get? p.1=some p.2/\H p.1=none/\p.1≠X.env.locals/\p.1∉X.fs/\∀v,p.2.data ≠ .cell v):Inv X pins' σ H s :=
 ⟨I.ok,I.os,I.bare,I.base,I.loc,I.cell,I.free,I.freeC,λp Y=>(pW.mp Y).elim (λz=>I.pin p (pX _ z)) (h p),I.hok,I.len⟩
theorem Uc{N:List Str}(W:N.Nodup){i j:Nat}{x:Str}(a:N[i]? = some x)(b:N[j]? = some x):i=j:=by
 obtain⟨h1,e1⟩:=pY.mp a;obtain⟨h2,Y⟩:=pY.mp b;exact(List.getElem_inj W).mp (e1.trans Y.symm)
theorem Rv(I:Inv X pins σ H s)(hN:X.N.Nodup)(hi:X.N[i]? = some x)(J:Loc X.env.scope x)(r:Iw v u)
 (h:∀s',Inv X pins (σ.set i (some v)) H s'->(∃a,Heap.SameBut a s.heap s'.heap/\(a=X.env.locals\/X.env.cells.lookup x=some a))->Q () s') (hf:X.fn x=true\/X.env.scope.names.lookup x=some .local:=by first | exact .inl rfl | exact .inr rfl | assumption):na M A (storeName X.env x u) Q E s:=by
 obtain⟨m,hn,hl⟩:=id I.loc;have ag:(X.env.scope.kind == .class||(X.env.scope.kind == .module&&X.env.locals != X.env.globals))=false:=by rw[I.ok.kind];rfl
 have ac:i<σ.length:=by rw[I.len];exact(pY.mp hi).1
 have ad:=I.cne
 have W:∀{a:ge} {h':rf},(∃o,s.heap.get? a=some o/\H a=none)->Heap.SameBut a s.heap h'->HOk X.prog X.w H h':=fun{a h'} ha Y b ob e=>by
  obtain⟨_,_,aa⟩:=ha;refine(I.hok b ob e).stay (λc w' O q=>(Y.2 c ?_).trans q) (λ_ q=>q) λ_ _ q=>q;rintro rfl
  rcases O with rfl | O
  ·rw[aa]at e;cases e
  ·rw[aa]at O;cases O
 rcases J with hk | hk
 ·refine wpAny_storeName_local hk hn (λh' aj Y=>?_) ag;obtain⟨oL,_,_,ak,_⟩:=id hn;refine h _ ⟨I.ok,I.os,I.bare,⟨λb o e n hb J=>?_,λb o e n hb J=>?_,I.base.free,λb o e J=>?_,I.base.tups,I.base.frzs,I.base.tbls⟩,⟨_,aj,λj y v' e1 e2 e3=>?_⟩,λy c e=>?_,I.free,I.freeC,λp hp=>?_,W ⟨oL,ak,I.free⟩ Y,by simpa using I.len⟩ ⟨_,Y,.inl rfl⟩
  ·exact(Y.2 b (pJ (pF (Heap.lt_size e) I.ok.above))).trans (I.base.keep b o e n hb J)
  ·obtain⟨sl,e1⟩:=I.base.slot b o e n hb J;exact⟨sl,(Y.2 b (pJ (pF (Heap.lt_size e) I.ok.above))).trans e1⟩
  ·obtain⟨o',e1⟩:=I.base.there b o e J;exact⟨o',(Y.2 b (pJ (pF (Heap.lt_size e) I.ok.above))).trans e1⟩
  ·by_cases hj:j=i
   ·subst hj;rw[hi]at e1;cases e1;rw[pZ ac]at e2;cases e2;exact⟨u,r,.inl ⟨hk,by simp⟩⟩
   ·rw[qa (Ne.symm hj)]at e2;obtain⟨u',r',q⟩:=hl j y v' e1 e2 e3;refine⟨u',r',?_⟩
    rcases q with ⟨k,e⟩ | ⟨k,c,e,z⟩
    ·refine .inl ⟨k,?_⟩;have:y≠x:=λe=>hj (Uc hN e1 (e ▸ hi));simp[this,e]
    ·exact .inr ⟨k,c,e,z.sameBut Y (ad y c e)⟩
  ·obtain⟨w',z⟩:=I.cell y c e;exact⟨w',z.sameBut Y (ad y c e)⟩
  ·obtain⟨e,n,ne,nf,d⟩:=I.pin p hp;exact⟨(Y.2 p.1 ne).trans e,n,ne,nf,d⟩
 ·have ae:X.fn x=true:=by
   rcases hf with z | z
   ·exact z
   ·rw[z]at hk;cases hk
  obtain⟨c,O⟩:=I.ok.has x (.inl hk);obtain⟨w',z⟩:=I.cell x c O;refine wpAny_storeName_cell I.ok.kind hk O z (λh' ai Y=>?_);obtain⟨oc,af,ah⟩:=id z;refine h { s with heap:=h' } ⟨I.ok,I.os,I.bare,⟨λb o e n hb J=>?_,λb o e n hb J=>?_,I.base.free,λb o e J=>?_,I.base.tups,I.base.frzs,I.base.tbls⟩,⟨m,hn.sameBut Y (Ne.symm (ad x c O)),λj y v' e1 e2 e3=>?_⟩,λy c' e=>?_,I.free,I.freeC,λp hp=>?_,W ⟨oc,af,I.freeC x c O⟩ Y,by simpa using I.len⟩ ⟨c,Y,.inr O⟩
  ·exact(Y.2 b (pJ (pF (Heap.lt_size e) (I.ok.cab x c ae O)))).trans (I.base.keep b o e n hb J)
  ·obtain⟨sl,e1⟩:=I.base.slot b o e n hb J;exact⟨sl,(Y.2 b (pJ (pF (Heap.lt_size e) (I.ok.cab x c ae O)))).trans e1⟩
  ·obtain⟨o',e1⟩:=I.base.there b o e J;exact⟨o',(Y.2 b (pJ (pF (Heap.lt_size e) (I.ok.cab x c ae O)))).trans e1⟩
  ·by_cases hj:j=i
   ·subst hj;rw[hi]at e1;cases e1;rw[pZ ac]at e2;cases e2;exact⟨u,r,.inr ⟨.inl hk,c,O,ai⟩⟩
   ·rw[qa (Ne.symm hj)]at e2;obtain⟨u',r',q⟩:=hl j y v' e1 e2 e3;refine⟨u',r',?_⟩
    rcases q with q | ⟨k,c',e,z'⟩
    ·exact .inl q
    ·refine .inr ⟨k,c',e,z'.sameBut Y ?_⟩;rintro rfl;exact hj (Uc hN e1 (I.ok.inj _ _ _ e O ▸ hi))
  ·by_cases hcc:c'=c
   ·subst hcc;exact⟨_,ai⟩
   ·obtain⟨w2,z2⟩:=I.cell y c' e;exact⟨w2,z2.sameBut Y hcc⟩
  ·obtain⟨e,n,ne,nf,d⟩:=I.pin p hp;refine⟨(Y.2 p.1 ?_).trans e,n,ne,nf,d⟩;intro q;rw[q,af]at e;have q':oc=p.2:=pC.inj e;exact d w' (by rw[<- q'];exact ah)
theorem Nx(I:Inv X pins σ H s)(J:X.N.Nodup)(hi:X.N[i]? = some x)(O:Loc X.env.scope x)(r:Iw v u)
 (h:∀s',Inv X pins (σ.set i (some v)) H s'->Q () s') (Y:X.fn x=true\/X.env.scope.names.lookup x=some .local:=by first | exact .inl rfl | exact .inr rfl | assumption):na M A (storeName X.env x u) Q E s :=
 Rv I J hi O r (λs' W _=>h s' W) Y
theorem Inv.call'{ch:List ge}(I:Inv X pins σ H s)(J:s'.os=s.os)(u:Un (frs X.stack) ch H H' s.heap s'.heap)(Y:HOk X.prog X.w H' s'.heap)(O:vE s'.gens)
 (W:∀b∈ch,(b∈X.ex\/X.s₀.heap.objs.size<=b)/\b≠X.env.locals/\(∀x c,X.env.cells.lookup x=some c->c≠b)/\∀p∈X.pn++pins,p.1≠b):Inv X pins σ H' s':=by
 obtain⟨h',g',d',t',o'⟩:=s';have e:o'=s.os:=J;subst e;exact I.call (g':=g') (t':=t') (d':=d') u Y O W
end
abbrev XK:=gl->Option ge->Hp->Prop
abbrev St:=List (Option V)
abbrev VK:=V->Hp->Prop
abbrev TE:=St->Hp->VK->Prop
abbrev TT:=St->Hp->(Bool->Hp->Prop)->Prop
abbrev TA:=St->Hp->(List V->Hp->Prop)->Prop
structure Lj where
 nx:St->Hp->Prop
 rt:VK
 bk:St->Hp->Prop:=λ_ _=>False
 ct:St->Hp->Prop:=λ_ _=>False
abbrev TS:=Lj->St->Hp->Prop
inductive EP(X:Cx)(pins:List (ge×Obj))(σ:St)(Q:VK)(u:gl)(s':im):Prop
 | mk(v:_)(H':_)(_:Inv X pins σ H' s')(_:Iw v u)(_:Q v H')
def TP(X:Cx)(pins:List (ge×Obj))(σ:St)(Q:Bool->Hp->Prop)(b:Bool)(s':im):Prop:=∃H',Inv X pins σ H' s'/\Q b H'
inductive AP(X:Cx)(pins:List (ge×Obj))(σ:St)(Q:List V->Hp->Prop)(us:List gl)(s':im):Prop
 | mk(vs:_)(H':_)(_:Inv X pins σ H' s')(_:Ip vs us)(_:Q vs H')
def SP(X:Cx)(pins:List (ge×Obj))(D:Lj)(f:Flow)(s':im):Prop :=
 match f with
 | .next=>∃σ' H',Inv X pins σ' H' s'/\D.nx σ' H'
 | .brk=>∃σ' H',Inv X pins σ' H' s'/\D.bk σ' H'
 | .cont=>∃σ' H',Inv X pins σ' H' s'/\D.ct σ' H'
 | .ret u=>∃v σ' H',Inv X pins σ' H' s'/\Iw v u/\D.rt v H'
def PE(X:Cx)(e:Expr)(t:TE):Prop :=
 ∀(pins:List (ge×Obj)) (s:im) (σ:St) (H:Hp) (Q:VK),Inv X pins σ H s->t σ H Q->na (pi X.prog X.w) X.A (tz e X.env) (EP X pins σ Q) X.xe s
def PT(X:Cx)(e:Expr)(t:TT):Prop :=
 ∀(pins:List (ge×Obj)) (s:im) (σ:St) (H:Hp) (Q:Bool->Hp->Prop),Inv X pins σ H s->t σ H Q->na (pi X.prog X.w) X.A (isTrue e X.env (tz e X.env)) (TP X pins σ Q) X.xe s
def PW(X:Cx)(e:Expr)(t:TT):Prop :=
 ∀(whole:Sem gl) (pins:List (ge×Obj)) (s:im) (σ:St) (H:Hp) (Q:Bool->Hp->Prop),Inv X pins σ H s->t σ H Q->na (pi X.prog X.w) X.A (isTrue e X.env whole) (TP X pins σ Q) X.xe s
theorem PW.pt(h:PW X e t):PT X e t:=h _
def PA(X:Cx)(es:List Expr)(t:TA):Prop :=
 ∀(pos:Pos) (pins:List (ge×Obj)) (s:im) (σ:St) (H:Hp) (Q:List V->Hp->Prop),Inv X pins σ H s->t σ H Q->na (pi X.prog X.w) X.A (spliced (ut pos (lm es X.env))) (AP X pins σ Q) X.xe s
def PS(X:Cx)(st:vv)(t:TS):Prop :=
 ∀(pins:List (ge×Obj)) (s:im) (σ:St) (H:Hp) (D:Lj),Inv X pins σ H s->t D σ H->na (pi X.prog X.w) X.A (exec st X.env) (SP X pins D) X.xe s
def PSs(X:Cx)(st:List vv)(t:TS):Prop :=
 ∀(pins:List (ge×Obj)) (s:im) (σ:St) (H:Hp) (D:Lj),Inv X pins σ H s->t D σ H->na (pi X.prog X.w) X.A (execs st X.env) (SP X pins D) X.xe s
theorem thn(h:na M A t Q E s)(O:∀a s,Q a s->W a s):na M A t W E s:=u8 h O λ_ _ x=>x
section
variable {X:Cx}
inductive Pg(i:Nat)(σ:St)(H:Hp)(Q:VK):Prop
 | mk(v:_)(_:σ[i]? = some (some v))(_:Q v H)
def tC(v:V):TE:=λ_ H Q=>Q v H
theorem gO(hN:X.N[i]? = some x)(hv:Vis X.env.scope x)(hd:(x == ("__debug__" : Str))=false:=by decide)(O:(x == ("__classdict__" : Str))=false:=by decide):PE X (.Name x pos) (Pg i):=by
 intro pins s σ H Q I h;obtain⟨v,e,h⟩:=h;obtain⟨m,z,hl⟩:=I.loc;obtain⟨u,r,l⟩:=hl i x v hN e hv;have W:EP X pins σ Q u s:=⟨v,H,I,r,h⟩
 rcases l with ⟨hk,hm⟩ | ⟨hk,c,J,Y⟩
 ·exact wpAny_Name (wpAny_loadName_local I.ok.kind hk z hm W) hd
 ·rcases hk with hk | hk
  ·exact wpAny_Name (wpAny_loadName_cell I.ok.kind hk J Y W) hd
  ·exact wpAny_Name (wpAny_loadName_free I.ok.kind hk J Y W O) hd
theorem Hv{i j pos}:PE X (.Constant (.int i) j pos) (tC (.int i)):=λ_ _ _ H _ I h=>wpAny_Constant_int ⟨.int i,H,I.tok _,⟨_,Z⟩,h⟩
theorem Kh{b j pos}:PE X (.Constant (.bool b) j pos) (tC (.bl b)):=λ_ _ _ H _ I h=>Constant_bool ⟨.bl b,H,I,Z,h⟩
theorem K7{j pos}:PE X (.Constant .none j pos) (tC .non):=λ_ _ _ H _ I h=>Constant_none ⟨.non,H,I,Z,h⟩
theorem Ia{x j pos}:PE X (.Constant (.str x) j pos) (tC (.str x)):=λ_ _ _ H _ I h=>Calls.Constant_str ⟨.str x,H,I.tok _,⟨_,Z⟩,h⟩
def Gl(X:Cx)(x:Str):Prop:=X.env.kindOf x=some .globalImplicit
theorem NV(I:Inv X pins σ H s)(Y:Gl X x)(W:X.mg x=some u)(h:Q u s)
 (hd:(x == ("__debug__" : Str))=false:=by decide):na (pi X.prog X.w) X.A (tz (.Name x pos) X.env) Q E s :=
 Calls.Name_function_global I.ok.kind Y (Calls.loadGlobal_global (by rw[I.ok.glob];exact I.mod.glob.keeps I.bk) W h) hd
theorem Mb(I:Inv X pins σ H s)(J:Gl X x)(O:X.mg x=none)(W:tD x=some u)(h:Q u s)
 (Y:x ≠ "__name__":=by decide) (hd:(x == ("__debug__" : Str))=false:=by decide):na (pi X.prog X.w) X.A (tz (.Name x pos) X.env) Q E s:=by
 obtain⟨z,h1,h2⟩:=I.mod.blt;exact Calls.Name_function_global I.ok.kind J (Calls.loadGlobal_builtin (by rw[I.ok.glob];exact I.mod.glob.keeps I.bk) O (by rw[I.ok.blt];exact h1.keeps I.bk) ((h2 x Y).trans W) h) hd
theorem JI(Y:Gl X x)(W:X.mg x=some u)(r:Iw v u)(hd:(x == ("__debug__" : Str))=false:=by decide):PE X (.Name x pos) (tC v) :=
 λ_ _ _ H _ I h=>NV I Y W ⟨v,H,I,r,h⟩ hd
theorem K4(W:Gl X x)(Y:X.mg x=none)(J:tD x=some u)(r:Iw v u)(O:x ≠ "__name__":=by decide)(hd:(x == ("__debug__" : Str))=false:=by decide):PE X (.Name x pos) (tC v) :=
 λ_ _ _ H _ I h=>Mb I W Y J ⟨v,H,I,r,h⟩ O hd
variable {a b:Expr}{ta tb:TE}{pos:Pos}
def PC(X:Cx)(op:CmpOp)(a b:Expr)(t:TE):Prop :=
 ∀ (pins:List (ge×Obj)) (s:im) (σ:St) (H:Hp) (Q:VK),Inv X pins σ H s->t σ H Q ->
   na (pi X.prog X.w) X.A (tz a X.env) (λv s₁=>na (pi X.prog X.w) X.A (tz b X.env) (λu s₂=>na (pi X.prog X.w) X.A (ul op v u) (EP X pins σ Q) X.xe s₂) X.xe s₁) X.xe s
def tB(t:TE):TT:=λσ H Q=>t σ H λx H1=>∃c,x = .bl c/\Q c H1
theorem UW(h:PC X Y a b t)(h1:vz Y b=false:=by first | exact nobehind _ Yd Yd | rfl):PT X (.Compare a [Y] [b] pos) (tB t):=by
 intro pins s σ H Q I hw;refine wpAny_isTrue_Compare1 (thn (h pins s σ H _ I hw) λv J h1=>thn h1 λu s2 h2=>thn h2 λc z ⟨x,H1,W,r1,O⟩=>?_) h1;obtain⟨d,rfl,q⟩:=O;cases r1;exact vp ⟨H1,W,q⟩
theorem Jt(h:PE X e t)(O:∀Y,isTrue e X.env Y=(do let v <- Y;standAt e.pos;holding [v] (truthy v)):=by intro _;rfl):PT X e (tB t):=by
 intro pins s σ H Q I hw;refine isTrue_plain (thn (h pins s σ H _ I hw) λv z ⟨x,H1,W,r1,J⟩=>?_) (O _);obtain⟨d,rfl,q⟩:=J;cases r1;exact vp ⟨H1,W,q⟩
variable {tA tB':TT}{Ju:List Expr}
def j2(t u:TT):TT:=λσ H Q=>t σ H λc H1=>if c=true then u σ H1 Q else Q false H1
def tOr(t u:TT):TT:=λσ H Q=>t σ H λc H1=>if c=true then Q true H1 else u σ H1 Q
def jP(t:TT):TT:=λσ H Q=>t σ H λc H1=>Q (!c) H1
theorem KJ(Y:PT X a tA):PW X (.BoolOp .And [a] pos) tA:=by
 intro W pins s σ H Q I h;refine isTrue_and (thn (Y pins s σ H Q I h) λc O e=>?_);cases c with
 | true=>exact isTrue_and_nil e
 | false=>exact e
theorem K6(Y:PT X a tA):PW X (.BoolOp .Or [a] pos) tA:=by
 intro W pins s σ H Q I h;refine isTrue_or (thn (Y pins s σ H Q I h) λc O e=>?_);cases c with
 | false=>exact isTrue_or_nil e
 | true=>exact e
theorem M3(z:PT X a tA)(hb:PW X (.BoolOp .And (b::Ju) pos) tB'):PW X (.BoolOp .And (a::b::Ju) pos) (j2 tA tB'):=by
 intro O pins s σ H Q I h;refine isTrue_and (thn (z pins s σ H _ I h) λc J ⟨H1,Y,W⟩=>?_);cases c with
 | true=>exact hb O pins J σ H1 Q Y W
 | false=>exact⟨H1,Y,W⟩
theorem Kr(z:PT X a tA)(hb:PW X (.BoolOp .Or (b::Ju) pos) tB'):PW X (.BoolOp .Or (a::b::Ju) pos) (tOr tA tB'):=by
 intro O pins s σ H Q I h;refine isTrue_or (thn (z pins s σ H _ I h) λc J ⟨H1,Y,W⟩=>?_);cases c with
 | true=>exact⟨H1,Y,W⟩
 | false=>exact hb O pins J σ H1 Q Y W
theorem Jy(Y:PT X a tA):PT X (.UnaryOp .Not a pos) (jP tA):=by
 intro pins s σ H Q I h;exact isTrue_not (Y pins s σ H (λc H1=>Q (!c) H1) I h)
def j1(ta tb:TE):TE:=λσ H Q=>ta σ H λx H1=>∃c,x = .bl c/\if c=true then tb σ H1 Q else Q (.bl false) H1
def iV(ta:TE):TE:=λσ H Q=>ta σ H λx H1=>∃c,x = .bl c/\Q (.bl (!c)) H1
theorem UX{op}(h:PE X a t):PE X (.BoolOp op [a] pos) t:=λpins s σ H Q I hw=>BoolOp_one (h pins s σ H Q I hw)
theorem UY(J:PE X a ta)(z:PE X (.BoolOp .And (b::Ju) pos) tb):PE X (.BoolOp .And (a::b::Ju) pos) (j1 ta tb):=by
 intro pins s σ H Q I h;refine BoolOp_and (thn (J pins s σ H _ I h) λv O ⟨x,H1,W,r1,Y⟩=>?_);obtain⟨c,rfl,Y⟩:=Y;cases r1;refine vp ?_;cases c with
 | true=>exact z pins O σ H1 Q W Y
 | false=>exact⟨.bl false,H1,W,Z,Y⟩
theorem gQ(O:PE X a ta):PE X (.UnaryOp .Not a pos) (iV ta):=by
 intro pins s σ H Q I h;refine UnaryOp_ (thn (O pins s σ H _ I h) λv J ⟨x,H1,W,r1,Y⟩=>?_);obtain⟨c,rfl,Y⟩:=Y;cases r1;exact not_of (vp ⟨.bl (!c),H1,W,Z,Y⟩)
def tIf(t:TT)(ta tb:TE):TE:=λσ H Q=>t σ H λc H1=>if c=true then ta σ H1 Q else tb σ H1 Q
theorem NM(J:PT X c tA)(z:PE X a ta)(hb:PE X b tb):PE X (.IfExp c a b pos) (tIf tA ta tb):=by
 intro pins s σ H Q I h;refine wpAny_IfExp (thn (J pins s σ H _ I h) λd Y ⟨H1,W,O⟩=>?_);cases d with
 | true=>exact z pins Y σ H1 Q W O
 | false=>exact hb pins Y σ H1 Q W O
end
def SqL(K:pP)(H:Hp)(a:ge)(xs:List V):Prop :=
 Rd H a (.lst xs) \/
  ∃(o:Obj) (its:Array gl) (n:Nat),K.lookup a=some o/\o.cls = .type "list" /\ o.dict=none/\o.data = .seq its n/\its.size<=io/\Ip xs its.toList
def SqT(K:pP)(H:Hp)(a:ge)(xs:List V):Prop :=
 Rd H a (.tup xs) \/
  ∃(o:Obj) (its:Array gl) (n:Nat),K.lookup a=some o/\o.cls = .type "tuple" /\ o.data = .seq its n/\its.size<=io/\Ip xs its.toList
def MM:gl->Option V
 | .none=>some .non
 | .bool b=>some (.bl b)
 | .int i _=>some (.int i)
 | .str x _=>some (.str x)
 | .bytes b _=>some (.byt b)
 | .float b _=>some (.flt b)
 | .ref a=>some (.ref a)
 | .type n=>some (.ty n)
 | _=>none
theorem Iw.abs(r:Iw x u):MM u=some x:=by
 cases x with
 | non=>cases r;rfl
 | bl _=>cases r;rfl
 | int _=>obtain⟨t,rfl⟩:=r;rfl
 | str _=>obtain⟨t,rfl⟩:=r;rfl
 | byt _=>obtain⟨t,rfl⟩:=r;rfl
 | flt _=>obtain⟨t,rfl⟩:=r;rfl
 | ref _=>cases r;rfl
 | ty _=>cases r;rfl
theorem Iw.inj(r:Iw x u)(q:Iw y u):x=y:=pC.inj (r.abs.symm.trans q.abs)
theorem Ip.inj(a:Ip xs us)(b:Ip ys us):xs=ys:=by
 induction a generalizing ys with
 | nil=>cases b;rfl
 | cons r t ih=>cases b with | cons r' t'=>rw[r.inj r',ih t']
section
variable {X:Cx}{pins:List (ge×Obj)}{σ:St}{H:Hp}{s:im}{a:ge}{xs ys:List V}
theorem SqL.of{K:pP}(h:H a=some (.lst xs)):SqL K H a xs:=.inl (.inl h)
theorem SqT.of{K:pP}(h:H a=some (.tup xs)):SqT K H a xs:=.inl (.inl h)
theorem Inv.list(I:Inv X pins σ H s)(h:SqL X.K H a xs):∃Y:List gl,Ip xs Y/\PlainL s.heap a Y.toArray/\xs.length<=io:=by
 rcases h with h | ⟨o,Y,n,hk,O,hd,W,J,r⟩
 ·obtain⟨z,Y,n,r,e⟩:=h.ok I.hok;exact⟨Y,r,⟨_,n,e,Z,Z,Z⟩,z⟩
 ·refine⟨Y.toList,r,⟨o,n,I.kIn a o hk,O,hd,by simpa using W⟩,?_⟩
  have e:=r.length;simp only[qb]at e
  lia
theorem Inv.tuple(I:Inv X pins σ H s)(h:SqT X.K H a xs):∃Y:List gl,Ip xs Y/\IsTup s.heap a Y.toArray/\xs.length<=io:=by
 rcases h with h | ⟨o,Y,n,hk,O,W,J,r⟩
 ·obtain⟨z,Y,r,p⟩:=h.ok I.hok;exact⟨Y,r,p,z⟩
 ·refine⟨Y.toList,r,⟨o,I.kIn a o hk,O,n,by simpa using W⟩,?_⟩
  have e:=r.length;simp only[qb]at e
  lia
theorem Inv.list_inj(I:Inv X pins σ H s)(h:SqL X.K H a xs)(h':SqL X.K H a ys):xs=ys:=by
 obtain⟨Y,r,⟨o,n,e,_,_,d⟩,_⟩:=I.list h;obtain⟨its',O,⟨o',J,W,_,_,d'⟩,_⟩:=I.list h';rw[e]at W;cases W;rw[d]at d'
 injection d' with d1 _
 have:Y=its':=by simpa using congrArg Array.toList d1
 subst this;exact r.inj O
theorem Inv.tuple_inj(I:Inv X pins σ H s)(h:SqT X.K H a xs)(h':SqT X.K H a ys):xs=ys:=by
 obtain⟨Y,r,⟨o,e,_,n,d⟩,_⟩:=I.tuple h;obtain⟨its',O,⟨o',W,_,J,d'⟩,_⟩:=I.tuple h';rw[e]at W;cases W;rw[d]at d'
 injection d' with d1 _
 have:Y=its':=by simpa using congrArg Array.toList d1
 subst this;exact r.inj O
end
abbrev Cx.wish(X:Cx)(E:gl->im->Prop):Cx:={ X with xe:=E }
abbrev Cx.nox(X:Cx):Cx:=X.wish λ_ _=>False
theorem Cx.Ok.wish{X:Cx}(Y:X.Ok)(E:gl->im->Prop):(X.wish E).Ok :=
 ⟨Y.mod,Y.kind,Y.glob,Y.blt,Y.above,Y.inj,Y.has,Y.cab,Y.hd,Y.frames,Y.stk,Y.exf,Y.bs,Y.bsz,Y.noex,Y.exfs,Y.funs,Y.frf⟩
theorem Cx.Ok.unwish{X:Cx}{E:gl->im->Prop}(Y:(X.wish E).Ok):X.Ok :=
 ⟨Y.mod,Y.kind,Y.glob,Y.blt,Y.above,Y.inj,Y.has,Y.cab,Y.hd,Y.frames,Y.stk,Y.exf,Y.bs,Y.bsz,Y.noex,Y.exfs,Y.funs,Y.frf⟩
section
variable {X:Cx}{pins:List (ge×Obj)}{σ:St}{H:Hp}{s:im}{E:gl->im->Prop}
theorem Inv.wish(I:Inv X pins σ H s)(E:gl->im->Prop):Inv (X.wish E) pins σ H s:=⟨I.ok.wish E,I.os,I.bare,I.base,I.loc,I.cell,I.free,I.freeC,I.pin,I.hok,I.len⟩
theorem Inv.unwish(I:Inv (X.wish E) pins σ H s):Inv X pins σ H s:=⟨I.ok.unwish,I.os,I.bare,I.base,I.loc,I.cell,I.free,I.freeC,I.pin,I.hok,I.len⟩
theorem SP.unwish(h:SP (X.wish E) pins D f s'):SP X pins D f s':=by
 cases f with
 | next=>obtain⟨Y,H',I,q⟩:=h;exact⟨Y,H',I.unwish,q⟩
 | brk=>obtain⟨Y,H',I,q⟩:=h;exact⟨Y,H',I.unwish,q⟩
 | cont=>obtain⟨Y,H',I,q⟩:=h;exact⟨Y,H',I.unwish,q⟩
 | ret u=>obtain⟨v,Y,H',I,r,q⟩:=h;exact⟨v,Y,H',I.unwish,r,q⟩
theorem PSs.nox{st:List vv}{t:TS}(h:PSs X.nox st t):PSs X st t:=λpins s σ H D I hw =>
 u8 (h pins s σ H D (I.wish _) hw) (λ_ _ q=>q.unwish) λ_ _ z=>False.elim z
end
section
variable {X:Cx}{st:vv}{Ju:List vv}{t u:TS}{e:Expr}{te:TE}{pos:Pos}
def fD:TS:=λD σ H=>D.nx σ H
@[reducible] def Lj.to(D:Lj)(n:St->Hp->Prop):Lj:={ D with nx:=n }
def Xs(t u:TS):TS:=λD σ H=>t (D.to (u D)) σ H
theorem HL:PSs X [] fD:=λ_ _ σ H _ I h=>vn ⟨σ,H,I,h⟩
theorem JZ(h1:PS X st t)(h2:PSs X Ju u):PSs X (st::Ju) (Xs t u):=by
 intro pins s σ H D I h;refine wpAny_execs_cons (thn (h1 pins s σ H { D with nx:=u D } I h) λf O q=>?_)
 cases f with
 | next =>
   obtain⟨Y,H',W,q⟩:=q;exact h2 pins O Y H' D W q
 | ret v=>exact q
 | brk=>exact q
 | cont=>exact q
theorem HA(h1:PS X st t):PSs X [st] t:=by
 intro pins s σ H D I h;refine wpAny_execs_cons (thn (h1 pins s σ H D I h) λf Y q=>?_);cases f with
 | next=>exact vn q
 | ret v=>exact q
 | brk=>exact q
 | cont=>exact q
theorem Inv.quiet(I:Inv X pins σ H s):interactive X.env=false:=by simp[interactive,I.ok.kind]
def iY(te:TE):TS:=λD σ H=>te σ H λ_ H1=>D.nx σ H1
theorem JS(O:PE X e te)(Y:swapsWith e none pos.line X.env=pure false:=by rfl):PS X (.Expr e pos) (iY te):=by
 intro pins s σ H D I h;exact wpAny_Expr_any (thn (O pins s σ H _ I h) λv z ⟨x,H1,W,r1,J⟩=>⟨σ,H1,W,J⟩) I.quiet Y
def jN(te:TE):TS:=λD σ H=>te σ H D.rt
theorem HH(Y:PE X e te):PS X (.Return (some e) pos) (jN te):=by
 intro pins s σ H D I h;exact wpAny_Return_some (thn (Y pins s σ H _ I h) λv J ⟨x,H1,W,r1,O⟩=>⟨x,σ,H1,W,r1,O⟩)
def QR(c:TT)(t u:TS):TS:=λD σ H=>c σ H λb H1=>if b=true then t D σ H1 else u D σ H1
theorem jf(J:PT X c tc)(z:PSs X a t)(hb:PSs X b u):PS X (.If c a b pos) (QR tc t u):=by
 intro pins s σ H D I h;refine wpAny_If (thn (J pins s σ H _ I h) λd Y ⟨H1,W,O⟩=>?_);cases d with
 | true=>exact z pins Y σ H1 D W O
 | false=>exact hb pins Y σ H1 D W O
def Xt:TS:=λ_ _ _=>False
theorem Ja:PS X st Xt:=λ_ _ _ _ _ _ h=>h.elim
theorem RD:PSs X Y Xt:=λ_ _ _ _ _ _ h=>h.elim
end
abbrev TG:=V->St->Hp->(St->Hp->Prop)->Prop
abbrev TGs:=List V->St->Hp->(St->Hp->Prop)->Prop
def PG(X:Cx)(target:Expr)(t:TG):Prop :=
 ∀ (pins:List (ge×Obj)) (s:im) (σ:St) (H:Hp) (v:V) (u:gl) (Q:St->Hp->Prop),Inv X pins σ H s->Iw v u->t v σ H Q ->
   na (pi X.prog X.w) X.A (assign target X.env u) (λ_ s'=>∃σ' H',Inv X pins σ' H' s'/\Q σ' H') X.xe s
def PGs(X:Cx)(ts:List Expr)(t:TGs):Prop :=
 ∀ (pins:List (ge×Obj)) (s:im) (σ:St) (H:Hp) (vs:List V) (us:List gl) (Q:St->Hp->Prop),Inv X pins σ H s->Ip vs us->t vs σ H Q ->
   na (pi X.prog X.w) X.A (assignInOrder ((vB ts X.env).map (·.2)) us) (λ_ s'=>∃σ' H',Inv X pins σ' H' s'/\Q σ' H') X.xe s
abbrev iI:=V->V->V->Hp->(Hp->Prop)->Prop
def jE(X:Cx)(t:iI):Prop :=
 ∀ (pins:List (ge×Obj)) (s:im) (σ:St) (H:Hp) (o i v:V) (ov iv u:gl) (Q:Hp->Prop),Inv X pins σ H s->Iw o ov->Iw i iv->Iw v u->t o i v H Q ->
   na (pi X.prog X.w) X.A (setItem ov iv u) (λ_ s'=>∃H',Inv X pins σ H' s'/\Q H') X.xe s
section
variable {X:Cx}{pos:Pos}
def K1(i:Nat):TG:=λv σ H Q=>Q (σ.set i (some v)) H
theorem HM(J:X.N.Nodup)(hi:X.N[i]? = some x)(O:Loc X.env.scope x)(Y:X.fn x=true\/X.env.scope.names.lookup x=some .local:=by first | exact .inl rfl | exact .inr rfl | assumption):PG X (.Name x pos) (K1 i):=by
 intro pins s σ H v u Q I r h;exact wpAny_assign_Name (Nx I J hi O r (λs' W=>⟨_,H,W,h⟩) Y)
def e7:TGs:=λvs σ H Q=>vs=[]/\Q σ H
inductive QJ(t:TG)(u:TGs)(vs:List V)(σ:St)(H:Hp)(Q:(St->Hp->Prop)):Prop
 | mk(v:_)(r:_)(_:vs=v::r)(_:t v σ H λσ' H'=>u r σ' H' Q)
theorem KL:PGs X [] e7:=by
 intro pins s σ H vs us Q I r h;obtain⟨e,h⟩:=h;subst e;cases r;exact assignInOrder_nil ⟨σ,H,I,h⟩
theorem IL(h1:PG X e t)(h2:PGs X es u)
 (J:(vB (e::es) X.env).map (·.2)=assign e X.env::(vB es X.env).map (·.2):=by rfl):PGs X (e::es) (QJ t u):=by
 intro pins s σ H vs us Q I r h;obtain⟨v,vr,e1,h⟩:=h;subst e1;cases r with
 | cons r rr =>
   rw[J];refine vO (thn (h1 pins s σ H _ _ _ I r h) λ_ W ⟨Y,H1,O,z⟩=>?_);exact h2 pins W Y H1 _ _ Q O rr z
inductive X4(K:pP)(n:Nat)(t:TGs)(v:V)(σ:St)(H:Hp)(Q:(St->Hp->Prop)):Prop
 | mk(a:_)(xs:_)(_:v = .ref a)(_:SqT K H a xs)(_:xs.length=n)(_:t xs σ H Q)
theorem gN(J:X.calm=true)(h:PGs X es t)
 (hn:(vB es X.env).length=n:=by rfl) (Y:(vB es X.env).findIdx? (·.1)=none:=by rfl):PG X (.Tuple es k pos) (X4 X.K n t):=by
 intro pins s σ H v u Q I r hw;obtain⟨a,xs,e1,z,hl,hw⟩:=hw;subst e1;cases r;obtain⟨aa,W,ht,hz⟩:=I.tuple z;refine assign_Tuple_tuple (I.ok.hd J) ht (by simp[hn,<- hl,W.length]) Y λh' hx=>?_
 have O:Inv X pins σ H { s with heap:=h' }:=I.kept (t':=s.toks) λb o e=>hx b o (pJ (Heap.lt_size e)) e
 exact h pins _ σ H xs _ Q O (by simpa using W) hw
def jV(to ti:TE)(t:iI):TG:=λv σ H Q=>to σ H λo H1=>ti σ H1 λi H2=>t o i v H2 λH3=>Q σ H3
theorem Oq(ho:PE X o to)(hi:PE X i O)(hs:jE X t)
 (ha:∀v,assign (.Subscript o i pos) X.env v=(do
  let Y <- holding [v] (tz o X.env)
  let W <- holding [v,Y] (tz i X.env)
  standAt pos
  holding [v,Y,W] (setItem Y W v)
  release [v,Y,W] []):=by intro _;rfl):PG X (.Subscript o i pos) (jV to O t):=by
 intro pins s σ H v u Q I r h;rw[ha];refine ii (vj (thn (ho pins s σ H _ I h) λY J ⟨x,H1,z,r1,q1⟩=>?_));refine ii (vj (thn (hi pins J σ H1 _ z q1) λW s2 ⟨y,H2,I2,r2,q2⟩=>?_));refine ii (vV (ii (vj (thn (hs pins s2 σ H2 x y v Y W u _ I2 r1 r2 r q2) λ_ s3 ⟨H3,I3,q3⟩=>?_))));exact wpAny_release ⟨σ,H3,I3,q3⟩
def Xw(te:TE)(g:TG):TS:=λD σ H=>te σ H λx H1=>g x σ H1 D.nx
theorem Nh(J:PE X e te)(z:PG X tg g)(O:swapsWithSole [tg] e pos.line X.env=pure false:=by rfl)(hw:swappedStores [tg] e X.env=pure none:=by rfl)
 (h1:(vB [tg] X.env).map (·.2)=[assign tg X.env]:=by rfl):PS X (.Assign [tg] e pos) (Xw te g):=by
 intro pins s σ H D I h;refine wpAny_Assign_stores (thn (J pins s σ H _ I h) λv Y ⟨x,H1,W,r1,q1⟩=>?_) O hw;rw[h1];exact thn (z pins Y σ H1 x v _ W r1 q1) λ_ s2 q=>q
theorem Om(O:X.N.Nodup)(hi:X.N[i]? = some x)(z:Loc X.env.scope x)(J:PE X e te)(W:swapsWith e (some (.Name x pos')) pos.line X.env=pure false:=by rfl)(hf:X.fn x=true\/X.env.scope.names.lookup x=some .local:=by first | exact .inl rfl | exact .inr rfl | assumption) :
 PS X (.Assign [.Name x pos'] e pos) (Xw te (K1 i)):=by
 intro pins s σ H D I h;refine wpAny_Assign_Name (thn (J pins s σ H _ I h) λv s1 ⟨y,H1,Y,r1,q1⟩=>?_) W;exact Nx Y O hi z r1 (λs2 I2=>⟨_,H1,I2,q1⟩) hf
def jO(i j:Nat)(ta:TA):TS:=λD σ H=>ta σ H λvs H1=>∃v w,vs=[v,w]/\D.nx ((σ.set i (some v)).set j (some w)) H1
theorem gH{kt k2 pt2}(hc:X.calm=true)(hN:X.N.Nodup)(hi:X.N[i]? = some x)(hj:X.N[j]? = some y)(aa:i≠j)
 (hx:X.env.scope.names.lookup x=some .local) (hy:X.env.scope.names.lookup y=some .local) (ha:PA X [a,b] ta)
 (hw:swappedStores [.Tuple [.Name x px,.Name y py] kt pt] (.Tuple [a,b] k2 pt2) X.env=pure (some [x,y]))
 (hs:swapsWithSole [.Tuple [.Name x px,.Name y py] kt pt] (.Tuple [a,b] k2 pt2) pos.line X.env=pure false:=by rfl) :
 PS X (.Assign [.Tuple [.Name x px,.Name y py] kt pt] (.Tuple [a,b] k2 pt2) pos) (jO i j ta):=by
 intro pins s σ H D I h;rw[exec_Assign_arm];refine ii (vV ?_);rw[hs];refine ii (li ?_);rw[if_neg Yd];refine ii (Tuple_ (thn (ha _ pins s σ H _ I h) λus Y ⟨vs,H1,I1,r1,q1⟩=>?_));obtain⟨v,w,e1,q1⟩:=q1;subst e1
 obtain⟨W,O,rfl,rv,J⟩:∃W O,us=[W,O]/\Iw v W/\Iw w O:=by
  cases r1 with
  | cons p q =>
    cases q with
    | cons p' q' =>
      cases q';exact⟨_,_,Z,p,p'⟩
 refine vf ?_ (by show 2<=io;decide)
 have I2:Inv X pins σ H1 { Y with heap:=Y.heap.push { cls:=.type "tuple",data:=.seq [W,O].toArray } }:=I1.kept (t':=Y.toks) λb o e=>Heap.get?_push_of_some _ e
 rw[hw];refine ii (li ?_);show na (pi X.prog X.w) X.A (do rule "assign.swapped-stores";let items <- unpackItems (.ref Y.heap.objs.size) 2 none;assignInOrder [λv=>bindName X.env y v,λv=>bindName X.env x v] items.reverse;pure Flow.next) _ _ _
 refine ii (wpAny_rule (ii (unpackItems_tuple (items:=#[W,O]) (I.ok.hd hc) (IsTup.new Y.heap _) λh' z=>?_)));have I3:=I2.kept (h':=h') (t':=Y.toks) λb o e=>z b o (pJ (Heap.lt_size e)) e;show na _ _ (assignInOrder [λv=>bindName X.env y v,λv=>bindName X.env x v] [O,W] >>= λ_=>pure Flow.next) _ _ _;refine ii (vO (wpAny_bindName (Nx I3 hN hj (.inl hy) J (λs2 I4=>?_) (.inr hy))));refine vO (wpAny_bindName (Nx I4 hN hi (.inl hx) rv (λs3 I5=>assignInOrder_nil (li ?_)) (.inr hx)));rw[List.set_comm _ _ (Ne.symm aa)]at I5;exact⟨_,H1,I5,q1⟩
end
section
variable {X:Cx}{pos:Pos}
def UH(c:TT)(tb:TS):TS:=λD σ H=>∃W:Nat->St->Hp->Prop,(∃m,W m σ H)/\∀m σ H,W m σ H ->
 c σ H λb H1=>if b=true then ∃N:St->Hp->Prop,(∀σ' H',N σ' H'->∃m',m'<m/\W m' σ' H')/\tb { D with nx:=N,ct:=N,bk:=D.nx } σ H1 else D.nx σ H1
theorem MD(hp:PassesOwn (pi X.prog X.w) X.A X.env X.xe)(hc:PT X c tc)(hb:PSs X J tb):PS X (.While c J [] pos) (UH tc tb):=by
 intro pins s σ H D I h;obtain⟨W,⟨m0,w0⟩,z⟩:=h;refine wpAny_While (codeAny_whileLoop (λn s'=>∃aa H',Inv X pins aa H' s'/\W n aa H') ?_ m0 ⟨σ,H,I,w0⟩);rintro n s1 ⟨O,H1,I1,w1⟩;refine vo hp (thn (hc pins s1 O H1 _ I1 (z n O H1 w1)) λb s2 ⟨H2,I2,q2⟩=>?_);cases b with
 | true =>
   obtain⟨N,hN,q2⟩:=q2;rw[if_pos rfl];refine vo hp (thn (hb pins s2 O H2 _ I2 q2) λf s3 q3=>?_);cases f with
   | next =>
     obtain⟨Y,H3,I3,n3⟩:=q3;obtain⟨m',hm,w3⟩:=hN Y H3 n3;exact⟨m',hm,Y,H3,I3,w3⟩
   | cont =>
     obtain⟨Y,H3,I3,n3⟩:=q3;obtain⟨m',hm,w3⟩:=hN Y H3 n3;exact⟨m',hm,Y,H3,I3,w3⟩
   | brk=>exact q3
   | ret v=>exact q3
 | false =>
   rw[if_neg Bool.false_ne_true];exact vn ⟨O,H2,I2,q2⟩
end
structure It where
 go:Nat->Hp->Prop
 yld:Nat->Hp->V->Hp->Prop
 stop:Nat->Hp->Prop
def QO(X:Cx)(pins:List (ge×Obj))(H:Hp)(b:ge):Prop :=
 H b=none/\b≠X.env.locals/\b∉X.fs/\(b∈X.ex\/X.s₀.heap.objs.size<=b)/\(∀x c,X.env.cells.lookup x=some c->c≠b)/\∀p∈X.pn++pins,p.1≠b
theorem Inv.fpOk(I:Inv X pins σ H s)(Y:s.heap.objs.size<=b)(O:H' b=none):QO X pins H' b:=by
 refine⟨O,qc (pF I.lt Y),I.nofs Y,.inr (pQ I.sz Y),λx c e z=>?_,λp W z=>?_⟩
 ·obtain⟨v,q⟩:=I.cell x c e;exact absurd (pF q.lt (by rw[z];exact Y)) (pH _)
 ·exact absurd (pF (Heap.lt_size (I.pin p W).1) (by rw[z];exact Y)) (pH _)
structure Rl(P:mo)(w:rc)(K:pP)(tg:Expr)(J:It)(fp:List ge)(it:ge)(tn:Nat->rf->Prop):Prop where
 mem:it∈fp
 obj:∀i h,tn i h->∀b∈fp,∃o,h.get? b=some o/\∀v,o.data ≠ .cell v
 keep:∀i h h',tn i h->(∀b∈fp,∀o,h.get? b=some o->h'.get? b=some o)->tn i h'
 item:∀(X:Cx),X.prog=P->X.w=w->X.K=K->X.calm=true->∀(i:Nat) (pins:List (ge×Obj)) (s:im) (σ:St) (H:Hp) (E:gl->im->Prop),Inv X pins σ H s->(∀b∈fp,QO X pins H b)->tn i s.heap->J.go i H ->
  na (pi P w) X.A (pyNext (.ref it)) (λr s1=>∃u,r=some u /\
   na (pi P w) X.A (vN tg (.ref it) u) (λ_ s2=>∃x H',Inv X pins σ H' s2/\Iw x u/\J.yld i H x H'/\tn (i+1) s2.heap/\∀b∈fp,H' b=none) E s1) E s
 done:∀(X:Cx),X.prog=P->X.w=w->X.K=K->X.calm=true->∀(i:Nat) (pins:List (ge×Obj)) (s:im) (σ:St) (H:Hp) (E:gl->im->Prop),Inv X pins σ H s->(∀b∈fp,QO X pins H b)->tn i s.heap->J.stop i H ->
  na (pi P w) X.A (pyNext (.ref it)) (λr s1=>r=none/\Inv X pins σ H s1) E s
 self:∀(A:sB) (i:Nat) (s:im) (Q:gl->im->Prop) (E:gl->im->Prop),tn i s.heap->Q (.ref it) s->na (pi P w) A (pyIter (.ref it)) Q E s
abbrev TI:=St->Hp->(It->Hp->Prop)->Prop
def PIE(X:Cx)(pins:List (ge×Obj))(σ:St)(tg:Expr)(R:It->Hp->Prop)(itv:gl)(s2:im):Prop :=
 ∃(it:ge) (fp:List ge) (tn:Nat->rf->Prop) (J:It) (H':Hp),itv = .ref it/\Inv X pins σ H' s2/\Rl X.prog X.w X.K tg J fp it tn/\tn 0 s2.heap/\(∀b∈fp,QO X pins H' b)/\R J H'
def PI(X:Cx)(tg iter:Expr)(wi:TI):Prop :=
 ∀ (pins:List (ge×Obj)) (s:im) (σ:St) (H:Hp) (R:It->Hp->Prop),Inv X pins σ H s->wi σ H R ->
   na (pi X.prog X.w) X.A (tz iter X.env) (λv s1=>na (pi X.prog X.w) X.A (pyIter v) (PIE X pins σ tg R) X.xe s1) X.xe s
theorem RQ{it:ge}(W:s.heap.get? it=some o)(J:o.cls = .type n)(hd:o.data = .fields vs)
 (O:["enumerate","zip","dict_itemiterator","dict_reverseitemiterator","odict_iterator","itertools.zip_longest","itertools.pairwise"].contains n=false) (Y:Q () s):na M A (vN tg (.ref it) u) Q E s:=by
 unfold vN
 cases tg<;>first
  | exact li Y
  | (cases u<;>first
   | exact li Y
   | (refine ii (wpAny_load W ?_)
      rw[J,hd];show na M A (if (["enumerate","zip","dict_itemiterator","dict_reverseitemiterator","odict_iterator","itertools.zip_longest","itertools.pairwise"].contains n&&vs[0]? == some (v4 _))=true then _ else _) Q E s;rw[if_neg (by intro h;rw[O,Bool.false_and]at h;cases h)]
      exact li Y))
def Itl(K:pP)(a:ge):It :=
 ⟨λi H=>∃xs x,SqL K H a xs/\xs[i]? = some x,λi H x H'=>H'=H/\∀xs,SqL K H a xs->xs[i]? = some x,λi H=>∃xs,SqL K H a xs/\xs.length<=i⟩
def Itt(K:pP)(a:ge):It :=
 ⟨λi H=>∃xs x,SqT K H a xs/\xs[i]? = some x,λi H x H'=>H'=H/\∀xs,SqT K H a xs->xs[i]? = some x,λi H=>∃xs,SqT K H a xs/\xs.length<=i⟩
def Itr(lo:Int)(n:Nat):It:=⟨λi _=>i<n,λi H x H'=>H'=H/\x = .int (lo+i),λi _=>n<=i⟩
theorem Wv{P:mo}{w:rc}{K:pP}{tg:Expr}(a it:ge):Rl P w K tg (Itl K a) [it] it (λi h=>h.IsListIter it a i) where
 mem:=by simp
 obj:=λi h st b Y=>by
  have e:b=it:=by simpa using Y
  subst e;obtain⟨o,e,c,d⟩:=st;exact⟨o,e,λv z=>by rw[d]at z;cases z⟩
 keep:=λi h h' st k=>st.at λo e=>k it (by simp) o e
 item:=by
  intro X hP hw hK hc i pins s σ H E I O st hg;subst hP hw hK;obtain⟨xs,x,J,hx⟩:=hg;obtain⟨aa,rv,p,hz⟩:=I.list J;obtain⟨u,hu,ru⟩:=rv.get hx;obtain⟨f0,f1,f2,f3,f4,f5⟩:=O it (by simp)
  refine wpAny_pyNext_list_item st p.isList (x:=u) (by simpa using hu) λh' W sb=>?_
  have I1:Inv X pins σ H { s with heap:=h' }:=I.turned (t':=s.toks) (λb o Y e=>(sb.2 b Y).trans e) f0 f1 f3 f4 f5
  obtain⟨o,e,c,d⟩:=id W;exact⟨u,Z,RQ (s:={ s with heap:=h' }) e c d Yd ⟨x,H,I1,ru,⟨rfl,λys hy=>by rw[I.list_inj hy J];exact hx⟩,W,λb Y=>(O b Y).1⟩⟩
 done:=by
  intro X hP hw hK hc i pins s σ H E I O st hg;subst hP hw hK;obtain⟨xs,J,hx⟩:=hg;obtain⟨aa,rv,p,hz⟩:=I.list J;obtain⟨f0,f1,f2,f3,f4,f5⟩:=O it (by simp)
  have hl:=rv.length;exact wpAny_pyNext_list_end (I.ok.hd hc) st p.isList (by simp;lia) λh' eb=>⟨Z,I.turned (t':=s.toks) (λb o Y e=>eb b o Y e) f0 f1 f3 f4 f5⟩
 self:=λ_ _ _ _ _ st h=>wpAny_pyIter_listiter st h
theorem UD{P:mo}{w:rc}{K:pP}{tg:Expr}(a it:ge):Rl P w K tg (Itt K a) [it] it (λi h=>h.IsTupleIter it a i) where
 mem:=by simp
 obj:=λi h st b W=>by
  have e:b=it:=by simpa using W
  subst e;obtain⟨o,e,c,d⟩:=st;exact⟨o,e,λv z=>by rw[d]at z;cases z⟩
 keep:=λi h h' st k=>st.at λo e=>k it (by simp) o e
 item:=by
  intro X hP hw hK hc i pins s σ H E I J st hg;subst hP hw hK;obtain⟨xs,x,hq,hx⟩:=hg;obtain⟨Y,rv,p,hz⟩:=I.tuple hq;obtain⟨u,hu,ru⟩:=rv.get hx;obtain⟨f0,f1,f2,f3,f4,f5⟩:=J it (by simp)
  refine wpAny_pyNext_tuple_item st (show s.heap.IsTuple a Y.toArray from p) (x:=u) (by simpa using hu) λh' O sb=>?_
  have I1:Inv X pins σ H { s with heap:=h' }:=I.turned (t':=s.toks) (λb o W e=>(sb.2 b W).trans e) f0 f1 f3 f4 f5
  obtain⟨o,e,c,d⟩:=id O;exact⟨u,Z,RQ (s:={ s with heap:=h' }) e c d Yd ⟨x,H,I1,ru,⟨rfl,λys hy=>by rw[I.tuple_inj hy hq];exact hx⟩,O,λb W=>(J b W).1⟩⟩
 done:=by
  intro X hP hw hK hc i pins s σ H E I J st hg;subst hP hw hK;obtain⟨xs,hq,hx⟩:=hg;obtain⟨Y,rv,p,hz⟩:=I.tuple hq;obtain⟨f0,f1,f2,f3,f4,f5⟩:=J it (by simp)
  have hl:=rv.length;exact wpAny_pyNext_tuple_end (I.ok.hd hc) st (show s.heap.IsTuple a Y.toArray from p) (by simp;lia) λh' eb=>⟨Z,I.turned (t':=s.toks) (λb o W e=>eb b o W e) f0 f1 f3 f4 f5⟩
 self:=λ_ _ _ _ _ st h=>wpAny_pyIter_tupleiter st h
theorem UE{P:mo}{w:rc}{K:pP}{tg:Expr}(it:ge)(lo:Int)(n:Nat):Rl P w K tg (Itr lo n) [it] it (λi h=>IsRangeIter h it (lo+(i:Nat)*1) ((n:Int)-(i:Nat)) 1) where
 mem:=by simp
 obj:=λi h st b Y=>by
  have e:b=it:=by simpa using Y
  subst e
  exact⟨_,st,λv z=>by
   have z':Data.fields _=Data.cell v:=z;cases z'⟩
 keep:=λi h h' st k=>k it (by simp) _ st
 item:=by
  intro X hP hw hK hc i pins s σ H E I J st hg;subst hP hw hK;obtain⟨f0,f1,f2,f3,f4,f5⟩:=J it (by simp)
  have W:=Walks.range (prog:=X.prog) (w:=X.w) (I.ok.hd hc) it lo 1 n;refine W.item i s _ _ hg st λv h' tk hv O kk=>?_;obtain⟨t,rfl⟩:=hv;have I1:Inv X pins σ H { s with heap:=h',toks:=tk }:=I.turned (λb o Y e=>kk b o (by simpa using Y) e) f0 f1 f3 f4 f5
  refine⟨_,Z,RQ (s:={ s with heap:=h',toks:=tk }) (n:="range_iterator") O rfl rfl Yd ⟨.int (lo+i),H,I1,⟨t,?_⟩,⟨rfl,rfl⟩,O,λb Y=>(J b Y).1⟩⟩
  rw[Int.mul_one]
 done:=by
  intro X hP hw hK hc i pins s σ H E I J st hg;subst hP hw hK;obtain⟨f0,f1,f2,f3,f4,f5⟩:=J it (by simp)
  exact wpAny_pyNext_range_end (I.ok.hd hc) st (by have:n<=i:=hg;lia) λh' eb=>⟨Z,I.turned (t':=s.toks) (λb o Y e=>eb b o Y e) f0 f1 f3 f4 f5⟩
 self:=λ_ _ _ _ _ st h=>wpAny_pyIter_rangeiter st h
section
variable {X:Cx}{tg:Expr}
def YI(K:pP)(tl:TE):TI:=λσ H R=>tl σ H λx H1=>∃a,x = .ref a/\(∃xs,SqL K H1 a xs)/\R (Itl K a) H1
def ix(K:pP)(tl:TE):TI:=λσ H R=>tl σ H λx H1=>∃a,x = .ref a/\(∃xs,SqT K H1 a xs)/\R (Itt K a) H1
theorem VR(J:PE X l tl):PI X tg l (YI X.K tl):=by
 intro pins s σ H R I h;refine thn (J pins s σ H _ I h) λv Y ⟨x,H1,W,r1,q1⟩=>?_;obtain⟨a,e,⟨xs,O⟩,q⟩:=q1;subst e;cases r1;obtain⟨z,rv,p,hz⟩:=W.list O;refine vF p.isList ?_;refine⟨Y.heap.objs.size,[Y.heap.objs.size],_,_,H1,Z,W.kept (t':=Y.toks) λb o e=>Heap.get?_push_of_some _ e,Wv a _,⟨_,Heap.get?_push_size _ rfl,Z,Z⟩,λb hb=>?_,q⟩;have e:b=Y.heap.objs.size:=by simpa using hb
 subst e;exact W.fpOk (qd _) (W.hok.fresh (qd _))
theorem Y0(z:PE X l tl):PI X tg l (ix X.K tl):=by
 intro pins s σ H R I h;refine thn (z pins s σ H _ I h) λv Y ⟨x,H1,W,r1,q1⟩=>?_;obtain⟨a,e,⟨xs,J⟩,q⟩:=q1;subst e;cases r1;obtain⟨O,rv,p,hz⟩:=W.tuple J;refine wpAny_pyIter_tuple (show Y.heap.IsTuple a O.toArray from p) ?_;refine⟨Y.heap.objs.size,[Y.heap.objs.size],_,_,H1,Z,W.kept (t':=Y.toks) λb o e=>Heap.get?_push_of_some _ e,UD a _,⟨_,Heap.get?_push_size _ rfl,Z,Z⟩,λb hb=>?_,q⟩;have e:b=Y.heap.objs.size:=by simpa using hb
 subst e;exact W.fpOk (qd _) (W.hok.fresh (qd _))
theorem TM{lo hi:Int}{tk:Nat}(I:Inv X pins σ H s)(h1 : -(2 ^ 62)<=lo)(h2:lo<2 ^ 62)(W : -(2 ^ 62)<=hi)(J:hi<2 ^ 62)
 (q:R (Itr lo (hi-lo).toNat) H):na (pi X.prog X.w) X.A (pyIter (.ref s.heap.objs.size)) (PIE X pins σ tg R) E { s with heap:=s.heap.push { cls:=.type "range",data:=.fields #[.int lo t,.int hi u,.int 1 v] },toks:=tk }:=by
 refine wpAny_pyIter_range (IsRange.new ..) (small_one h1 h2 W J) ?_;have Y:Inv X pins σ H { s with heap:=s.heap.push { cls:=.type "range",data:=.fields #[.int lo t,.int hi u,.int 1 v] },toks:=tk }:=I.kept λb o e=>Heap.get?_push_of_some _ e
 refine⟨(s.heap.push { cls:=.type "range",data:=.fields #[.int lo t,.int hi u,.int 1 v] }).objs.size,[(s.heap.push { cls:=.type "range",data:=.fields #[.int lo t,.int hi u,.int 1 v] }).objs.size],_,_,H,Z,
  Y.kept (t':=tk) λb o e=>Heap.get?_push_of_some _ e,UE _ lo (hi-lo).toNat,?_,λb z=>?_,q⟩
 ·have e1:lo+((0:Nat):Int)*1=lo:=by simp
  have O:(((hi-lo).toNat:Nat):Int)-((0:Nat):Int)=Builtin.Range.rangeSize lo hi 1:=by rw[rangeSize_one];split<;>lia
  show IsRangeIter _ _ (lo+((0:Nat):Int)*1) ((((hi-lo).toNat:Nat):Int)-((0:Nat):Int)) 1;rw[e1,O];exact Heap.get?_push_size _ rfl
 ·have e:b=(s.heap.push { cls:=.type "range",data:=.fields #[.int lo t,.int hi u,.int 1 v] }).objs.size:=by simpa using z
  subst e;exact Y.fpOk (qd _) (Y.hok.fresh (qd _))
def jq(ta:TA):TI:=λσ H R=>ta σ H λvs H1=>∃j:Int,vs=[.int j] /\ -(2 ^ 62)<=j/\j<2 ^ 62/\R (Itr 0 j.toNat) H1
def jo(ta:TA):TI:=λσ H R=>ta σ H λvs H1=>∃i j:Int,vs=[.int i,.int j]/\(-(2 ^ 62)<=i/\i<2 ^ 62 /\ -(2 ^ 62)<=j/\j<2 ^ 62)/\R (Itr i (j-i).toNat) H1
theorem J2(hg:Gl X "range")(z:X.mg "range" = none)(J:PA X [a] ta)(O:lm [a] X.env=[(false,tz a X.env)]:=by rfl):PI X tg (.Call (.Name "range" p) [a] [] pos) (jq ta):=by
 intro pins s σ H R I h;refine Call_ (Mb I hg z boot_range (PyProof.Rows.callWith_type1 (thn (J pos pins s σ H _ I h) λus s1 ⟨vs,H1,W,r1,Y⟩=>?_) O rfl));obtain⟨j,e,Y,q2,q⟩:=Y;subst e;cases r1 with
 | cons r rr =>
   cases rr;obtain⟨t,rfl⟩:=r;exact call_range_1 (TM W Yl Yl Y q2 (by simpa using q))
theorem RF(hg:Gl X "range")(hm:X.mg "range" = none)(ha:PA X [a,b] ta)(J:lm [a,b] X.env=[(false,tz a X.env),(false,tz b X.env)]:=by rfl)(Y:lm [b] X.env=[(false,tz b X.env)]:=by rfl) :
 PI X tg (.Call (.Name "range" p) [a,b] [] pos) (jo ta):=by
 intro pins s σ H R I h;refine Call_ (Mb I hg hm boot_range (PyProof.Rows.callWith_type1 (thn (ha pos pins s σ H _ I h) λus s1 ⟨vs,H1,O,r1,W⟩=>?_) (by rw[J,Y]) (by rw[Y];rfl)))
 obtain⟨i,j,e,⟨W,q2,z,q4⟩,q⟩:=W;subst e;cases r1 with
 | cons r rr =>
   cases rr with
   | cons r' rr =>
     cases rr;obtain⟨t,rfl⟩:=r;obtain⟨t',rfl⟩:=r';exact call_range_2 (TM O W q2 z q4 q)
def gp(wi:TI)(g:TG)(tb:TS):TS:=λD σ H=>wi σ H λJ H1=>∃W:Nat->Nat->St->Hp->Prop,(∃m,W 0 m σ H1)/\∀i m σ H,W i m σ H ->
 (J.stop i H/\D.nx σ H)\/(J.go i H/\∃N:St->Hp->Prop,(∀σ' H',N σ' H'->∃m',m'<m/\W (i+1) m' σ' H')/\∀x H',J.yld i H x H'->g x σ H' λσ2 H2=>tb { D with nx:=N,ct:=N,bk:=D.nx } σ2 H2)
def Qj(fp:List ge)(h:rf):List (ge×Obj):=fp.filterMap λb=>(h.get? b).map λo=>(b,o)
theorem Ma(Y:b∈fp)(e:h.get? b=some o):(b,o)∈Qj fp h:=qe.mpr ⟨b,Y,by rw[e];rfl⟩
theorem WQ(W:p∈Qj fp h):p.1∈fp/\h.get? p.1=some p.2:=by
 obtain⟨b,O,e⟩:=qe.mp W;cases q:h.get? b with
 | none=>rw[q]at e;cases e
 | some o =>
   rw[q]at e;have Y:(b,o)=p:=pC.inj e;subst Y;exact⟨O,q⟩
theorem Inv.pinned(I:Inv X pins σ H s)(hf:∀b∈fp,QO X pins H b)(ho:∀b∈fp,∃o,s.heap.get? b=some o/\∀v,o.data ≠ .cell v):Inv X (pins++Qj fp s.heap) σ H s :=
 I.pins_of λp O=>(pW.mp O).elim (λz=>I.pin p (qf _ z)) λz=>by
  obtain⟨W,e⟩:=WQ z;obtain⟨f0,J,f2,_⟩:=hf p.1 W;obtain⟨o,Y,d⟩:=ho p.1 W;rw[e]at Y;cases Y;exact⟨e,f0,J,f2,d⟩
theorem Inv.unpinned(I:Inv X (pins++pl) σ H s):Inv X pins σ H s:=I.pins_of λp Y=>I.pin p (qf _ (pX _ Y))
theorem gI{wi:TI}(hp:PassesOwn (pi X.prog X.w) X.A X.env X.xe)(hc:X.calm=true)(hi:PI X tg iter wi)(hg:PG X tg g)(z:PSs X af tb)
 (hs:∀x,vG iter X.env x=pure x:=by intro _;rfl):PS X (.For tg iter af [] pos) (gp wi g tb):=by
 intro pins s σ H D I h;refine wpAny_For (thn (hi pins s σ H _ I h) λv s1 h1=>thn h1 λaq s2 h2=>?_) hs;obtain⟨it,fp,tn,J,H2,e,I2,T,ap,f2,W,⟨m0,w0⟩,aj⟩:=h2;subst e
 -- what stays true of the iterator's objects through the loop
 have ad:∀{H':Hp},(∀b∈fp,H' b=none)->∀b∈fp,QO X pins H' b:=λhn b z=>⟨hn b z,(f2 b z).2⟩;refine codeAny_forLoop_any (λn s'=>∃i ae H',Inv X pins ae H' s'/\tn i s'.heap/\(∀b∈fp,H' b=none)/\W i n ae H') ?_ m0 ⟨0,σ,H2,I2,ap,λb z=>(f2 b z).1,w0⟩;rintro n s3 ⟨i,aa,H3,I3,ah,ak,w3⟩
 rcases aj i n aa H3 w3 with ⟨al,qn⟩ | ⟨go,N,hN,ai⟩
 ·refine vo hp (thn (T.done X rfl rfl rfl hc i pins s3 aa H3 X.xe I3 (ad ak) ah al) λr s4 ⟨hr,I4⟩=>?_);subst hr;exact vn ⟨aa,H3,I4,qn⟩
 ·refine vo hp (thn (T.item X rfl rfl rfl hc i pins s3 aa H3 X.xe I3 (ad ak) ah go) λr s4 ⟨u,hr,h4⟩=>?_);subst hr;refine vo hp (thn h4 λ_ s5 ⟨x,H5,I5,r5,y5,ag,am⟩=>?_);have ao:=I5.pinned (ad am) (T.obj _ _ ag);refine vo hp (thn (hg _ s5 aa H5 x u _ ao r5 (ai x H5 y5)) λ_ s6 ⟨an,H6,I6,q6⟩=>?_);refine vo hp (thn (z _ s6 an H6 _ I6 q6) λf s7 q7=>?_)
  have ac:∀{Y:St} {O:Hp},Inv X (pins++Qj fp s5.heap) Y O s7->N Y O->∃m,m<n/\∃i ae H',Inv X pins ae H' s7/\tn i s7.heap/\(∀b∈fp,H' b=none)/\W i m ae H':=fun{Y O} I7 n7=>by
   obtain⟨m',hm,w7⟩:=hN Y O n7;refine⟨m',hm,i+1,Y,O,I7.unpinned,T.keep _ _ _ ag λb z o e=>(I7.pin (b,o) (qf _ (qf _ (Ma z e)))).1,λb z=>?_,w7⟩;obtain⟨o,e,d⟩:=T.obj _ _ ag b z;exact(I7.pin (b,o) (qf _ (qf _ (Ma z e)))).2.1
  cases f with
  | next=>obtain⟨Y,O,I7,n7⟩:=q7;exact ac I7 n7
  | cont=>obtain⟨Y,O,I7,n7⟩:=q7;exact ac I7 n7
  | brk=>obtain⟨Y,O,I7,q7⟩:=q7;exact⟨Y,O,I7.unpinned,q7⟩
  | ret v=>obtain⟨x7,Y,O,I7,r7,q7⟩:=q7;exact⟨x7,Y,O,I7.unpinned,r7,q7⟩
end
theorem QK{K:pP}{a:ge}{xs:List V}{g:TG}{tb:TS}{D:Lj}{σ:St}{H:Hp}(Y:Nat->St->Hp->Prop)(h0:Y 0 σ H)(hl:∀i σ H,i<=xs.length->Y i σ H->SqL K H a xs)
 (hs:∀i x σ H,xs[i]? = some x->Y i σ H->g x σ H λO H2=>tb { D with nx:=Y (i+1),ct:=Y (i+1),bk:=D.nx } O H2) (hd:∀σ H,Y xs.length σ H->D.nx σ H) :
 ∃ W:Nat->Nat->St->Hp->Prop,(∃m,W 0 m σ H)/\∀i m σ H,W i m σ H ->
   ((Itl K a).stop i H/\D.nx σ H)\/((Itl K a).go i H/\∃N:St->Hp->Prop,(∀J H',N J H'->∃z,z<m/\W (i+1) z J H')/\∀x H',(Itl K a).yld i H x H'->g x σ H' λO H2=>tb { D with nx:=N,ct:=N,bk:=D.nx } O H2):=by
 refine⟨λi m σ H=>m=xs.length-i/\i<=xs.length/\Y i σ H,⟨xs.length,by simp,qg _,h0⟩,?_⟩
 rintro i m σ H ⟨rfl,hi,p⟩;have q:=hl i σ H hi p;by_cases hlt:i<xs.length
 ·refine .inr ⟨⟨xs,xs[i],q,by simp[hlt]⟩,Y (i+1),λJ H' p'=>⟨xs.length-(i+1),Yl,Z,hlt,p'⟩,λx H' y=>?_⟩
  obtain⟨e,y⟩:=y;subst e;exact hs i x σ _ (y xs q) p
 ·have e:i=xs.length:=by lia
  subst e;exact .inl ⟨⟨xs,q,qd _⟩,hd σ H p⟩
theorem NZ{K:pP}{a:ge}{xs:List V}{g:TG}{tb:TS}{D:Lj}{σ:St}{H:Hp}(Y:Nat->St->Hp->Prop)(h0:Y 0 σ H)(hl:∀i σ H,i<=xs.length->Y i σ H->SqT K H a xs)
 (hs:∀i x σ H,xs[i]? = some x->Y i σ H->g x σ H λO H2=>tb { D with nx:=Y (i+1),ct:=Y (i+1),bk:=D.nx } O H2) (hd:∀σ H,Y xs.length σ H->D.nx σ H) :
 ∃ W:Nat->Nat->St->Hp->Prop,(∃m,W 0 m σ H)/\∀i m σ H,W i m σ H ->
   ((Itt K a).stop i H/\D.nx σ H)\/((Itt K a).go i H/\∃N:St->Hp->Prop,(∀J H',N J H'->∃z,z<m/\W (i+1) z J H')/\∀x H',(Itt K a).yld i H x H'->g x σ H' λO H2=>tb { D with nx:=N,ct:=N,bk:=D.nx } O H2):=by
 refine⟨λi m σ H=>m=xs.length-i/\i<=xs.length/\Y i σ H,⟨xs.length,by simp,qg _,h0⟩,?_⟩
 rintro i m σ H ⟨rfl,hi,p⟩;have q:=hl i σ H hi p;by_cases hlt:i<xs.length
 ·refine .inr ⟨⟨xs,xs[i],q,by simp[hlt]⟩,Y (i+1),λJ H' p'=>⟨xs.length-(i+1),Yl,Z,hlt,p'⟩,λx H' y=>?_⟩
  obtain⟨e,y⟩:=y;subst e;exact hs i x σ _ (y xs q) p
 ·have e:i=xs.length:=by lia
  subst e;exact .inl ⟨⟨xs,q,qd _⟩,hd σ H p⟩
theorem Jv{lo:Int}{n:Nat}{g:TG}{tb:TS}{D:Lj}{σ:St}{H:Hp}(J:Nat->St->Hp->Prop)(h0:J 0 σ H)
 (hs:∀i σ H,i<n->J i σ H->g (.int (lo+i)) σ H λY H2=>tb { D with nx:=J (i+1),ct:=J (i+1),bk:=D.nx } Y H2) (hd:∀σ H,J n σ H->D.nx σ H) :
 ∃ W:Nat->Nat->St->Hp->Prop,(∃m,W 0 m σ H)/\∀i m σ H,W i m σ H ->
   ((Itr lo n).stop i H/\D.nx σ H)\/((Itr lo n).go i H/\∃N:St->Hp->Prop,(∀O H',N O H'->∃z,z<m/\W (i+1) z O H')/\∀x H',(Itr lo n).yld i H x H'->g x σ H' λY H2=>tb { D with nx:=N,ct:=N,bk:=D.nx } Y H2):=by
 refine⟨λi m σ H=>m=n-i/\i<=n/\J i σ H,⟨n,by simp,qg _,h0⟩,?_⟩
 rintro i m σ H ⟨rfl,hi,p⟩;by_cases hlt:i<n
 ·refine .inr ⟨hlt,J (i+1),λO H' p'=>⟨n-(i+1),Yl,Z,hlt,p'⟩,λx H' y=>?_⟩;obtain⟨e,y⟩:=y;subst e y;exact hs i σ _ hlt p
 ·have e:i=n:=by lia
  subst e;exact .inl ⟨qd _,hd σ H p⟩
theorem To(J:St->Hp->Prop)(W:St->Hp->Nat)(h0:J σ H)
 (hs:∀σ H,J σ H->c σ H λb H1=>if b=true then tb { D with nx:=λY H'=>J Y H'/\W Y H'<W σ H,ct:=λY H'=>J Y H'/\W Y H'<W σ H,bk:=D.nx } σ H1 else D.nx σ H1)
 (O:∀σ H Q z,(∀b H1,Q b H1->z b H1)->c σ H Q->c σ H z):UH c tb D σ H:=by
 refine⟨λm σ H=>m=W σ H/\J σ H,⟨_,Z,h0⟩,?_⟩;rintro m σ H ⟨rfl,p⟩;refine O σ H _ _ (λb H1 q=>?_) (hs σ H p);cases b with
 | true=>exact⟨_,λY H' ⟨p',l⟩=>⟨_,l,Z,p'⟩,q⟩
 | false=>exact q
abbrev R2:=V->V->Hp->VK->Prop
def OpR(X:Cx)(f:gl->gl->Sem gl)(r:R2):Prop :=
 ∀ (pins:List (ge×Obj)) (s:im) (σ:St) (H:Hp) (x y:V) (v u:gl) (Q:VK),Inv X pins σ H s->Iw x v->Iw y u->r x y H Q ->
   na (pi X.prog X.w) X.A (f v u) (EP X pins σ Q) X.xe s
def UnR(X:Cx)(f:gl->Sem gl)(r:V->Hp->VK->Prop):Prop :=
 ∀ (pins:List (ge×Obj)) (s:im) (σ:St) (H:Hp) (x:V) (v:gl) (Q:VK),Inv X pins σ H s->Iw x v->r x H Q ->
   na (pi X.prog X.w) X.A (f v) (EP X pins σ Q) X.xe s
def Kb(X:Cx)(f:gl)(r:List V->Hp->VK->Prop):Prop :=
 ∀ (pins:List (ge×Obj)) (s:im) (σ:St) (H:Hp) (xs:List V) (us:List gl) (Q:VK),Inv X pins σ H s->Ip xs us->r xs H Q ->
   na (pi X.prog X.w) X.A (call f us) (EP X pins σ Q) X.xe s
def tOp(r:R2)(ta tb:TE):TE:=λσ H Q=>ta σ H λx H1=>tb σ H1 λy H2=>r x y H2 Q
def tUn(r:V->Hp->VK->Prop)(ta:TE):TE:=λσ H Q=>ta σ H λx H1=>r x H1 Q
inductive rI(C:Int->Int->Prop)(g:Int->Int->V)(x:V)(y:V)(H:Hp)(Q:VK):Prop
 | mk(i:_)(j:_)(_:x = .int i)(_:y = .int j)(_:C i j)(_:Q (g i j) H)
inductive rI0(g:Int->Int->V)(x:V)(y:V)(H:Hp)(Q:VK):Prop
 | mk(i:_)(j:_)(_:x = .int i)(_:y = .int j)(_:Q (g i j) H)
inductive rU(g:Int->V)(x:V)(H:Hp)(Q:VK):Prop
 | mk(i:_)(_:x = .int i)(_:Q (g i) H)
section
variable {X:Cx}{a b c:Expr}{ta tb tc:TE}{pos:Pos}
theorem iF(ha:PE X a ta)(hb:PE X b tb){pins:List (ge×Obj)}{s:im}{σ:St}{H:Hp}{R:V->V->Hp->Prop}(I:Inv X pins σ H s)
 (h:ta σ H λx H1=>tb σ H1 λy H2=>R x y H2) {Q:gl->im->Prop} {f:gl->gl->Sem gl}
 (hf:∀v u O x y H2,Inv X pins σ H2 O->Iw x v->Iw y u->R x y H2->na (pi X.prog X.w) X.A (f v u) Q X.xe O) :
 na (pi X.prog X.w) X.A (tz a X.env) (λv W=>na (pi X.prog X.w) X.A (tz b X.env) (λu Y=>na (pi X.prog X.w) X.A (f v u) Q X.xe Y) X.xe W) X.xe s:=by
 refine thn (ha pins s σ H _ I h) λv J ⟨x,H1,z,r1,q1⟩=>?_;refine thn (hb pins J σ H1 _ z q1) λu O ⟨y,H2,I2,r2,q2⟩=>?_;exact hf v u O x y H2 I2 r1 r2 q2
theorem HG(ho:OpR X (vm Y) r)(O:PE X a ta)(hb:PE X b tb):PE X (.BinOp a Y b pos) (tOp r ta tb):=by
 intro pins s σ H Q I h;exact wpAny_BinOp (iF O hb I h λv u s2 x y H2 J W z q=>ho pins s2 σ H2 x y v u Q J W z q)
theorem RG(z:UnR X (unaryOp Y) r)(J:PE X a ta):PE X (.UnaryOp Y a pos) (tUn r ta):=by
 intro pins s σ H Q I h;exact UnaryOp_ (thn (J pins s σ H _ I h) λv O ⟨x,H1,W,r1,q1⟩=>z pins O σ H1 x v Q W r1 q1)
theorem opI{f:gl->gl->Sem gl}{C:Int->Int->Prop}{g:Int->Int->Int}
 (Y:∀(i j:Int) (t u:Tok) (s:im) (Q:gl->im->Prop) (E:gl->im->Prop),C i j->Q (.int (g i j) s.toks) { s with toks:=s.toks+1 }->na (pi X.prog X.w) X.A (f (.int i t) (.int j u)) Q E s) :
 OpR X f (rI C λi j=>.int (g i j)):=by
 intro pins s σ H x y v u Q I O J h;obtain⟨i,j,rfl,rfl,W,q⟩:=h;obtain⟨t,rfl⟩:=O;obtain⟨t',rfl⟩:=J;exact Y i j t t' s _ _ W ⟨.int (g i j),H,I.tok _,⟨_,Z⟩,q⟩
theorem jj{f:gl->gl->Sem gl}{g:Int->Int->Int}
 (Y:∀(i j:Int) (t u:Tok) (s:im) (Q:gl->im->Prop) (E:gl->im->Prop),Q (.int (g i j) s.toks) { s with toks:=s.toks+1 }->na (pi X.prog X.w) X.A (f (.int i t) (.int j u)) Q E s) :
 OpR X f (rI0 λi j=>.int (g i j)):=by
 intro pins s σ H x y v u Q I W O h;obtain⟨i,j,rfl,rfl,q⟩:=h;obtain⟨t,rfl⟩:=W;obtain⟨t',rfl⟩:=O;exact Y i j t t' s _ _ ⟨.int (g i j),H,I.tok _,⟨_,Z⟩,q⟩
theorem gZ{f:gl->gl->Sem gl}{g:Int->Int->Bool}
 (Y:∀(i j:Int) (t u:Tok) (s:im) (Q:gl->im->Prop) (E:gl->im->Prop),Q (.bool (g i j)) s->na (pi X.prog X.w) X.A (f (.int i t) (.int j u)) Q E s) :
 OpR X f (rI0 λi j=>.bl (g i j)):=by
 intro pins s σ H x y v u Q I W O h;obtain⟨i,j,rfl,rfl,q⟩:=h;obtain⟨t,rfl⟩:=W;obtain⟨t',rfl⟩:=O;exact Y i j t t' s _ _ ⟨.bl (g i j),H,I,Z,q⟩
def iP(i j:Int):Prop:=0<=j/\j<=1000000/\i.natAbs<2 ^ 64
theorem Iu:OpR X (vm .Add) (rI0 λi j=>.int (i+j)):=jj λ_ _ _ _ _ _ _ q=>add_int q
theorem Jf:OpR X (vm .Sub) (rI0 λi j=>.int (i-j)):=jj λ_ _ _ _ _ _ _ q=>sub_int q
theorem Ky:OpR X (vm .Mod) (rI (λ_ j=>0<j) λi j=>.int (i % j)):=opI λi j _ _ _ _ _ Y q=>by
 have h1:(0:Int)<j:=Y;exact mod_int' Yl (by rw[Int.fmod_eq_emod_of_nonneg i Yl];exact q)
theorem Ya:OpR X (vm .Pow) (rI iP λi j=>.int (i ^ j.toNat)):=opI λ_ _ _ _ _ _ _ Y q=>pow_int_small Y.1 Y.2.1 Y.2.2 q
theorem unI{f:gl->Sem gl}{g:Int->Int}
 (Y:∀(i:Int) (t:Tok) (s:im) (Q:gl->im->Prop) (E:gl->im->Prop),Q (.int (g i) s.toks) { s with toks:=s.toks+1 }->na (pi X.prog X.w) X.A (f (.int i t)) Q E s) :
 UnR X f (rU λi=>.int (g i)):=by
 intro pins s σ H x v Q I W h;obtain⟨i,rfl,q⟩:=h;obtain⟨t,rfl⟩:=W;exact Y i t s _ _ ⟨.int (g i),H,I.tok _,⟨_,Z⟩,q⟩
theorem Oa:UnR X (unaryOp .USub) (rU λi=>.int (-i)):=unI λ_ _ _ _ _ q=>neg_int q
end
def j4:V->V->Bool
 | .non,.non=>true | .non,.int _=>true | .int _,.non=>true | .non,.bl _=>true | .bl _,.non=>true | .non,.str _=>true | .str _,.non=>true
 | .int _,.int _=>true | .bl _,.bl _=>true | .str _,.str _=>true | .byt _,.byt _=>true
 | .int _,.str _=>true | .str _,.int _=>true | .bl _,.str _=>true | .str _,.bl _=>true
 | _,_=>false
def rEq:R2:=λx y H Q=>j4 x y=true/\Q (.bl (decide (x=y))) H
def rNe:R2:=λx y H Q=>j4 x y=true/\Q (.bl (!decide (x=y))) H
theorem Wf:decide (V.int i=V.int j)=(i == j):=by
 rw[Bool.eq_iff_iff];simp
theorem YZ:decide (V.bl i=V.bl j)=(i == j):=by
 rw[Bool.eq_iff_iff];simp
theorem We:decide (V.str i=V.str j)=(i == j):=by
 rw[Bool.eq_iff_iff];simp
theorem Wg:decide (V.byt i=V.byt j)=(i.toList == j.toList):=by
 rw[Bool.eq_iff_iff];cases i;cases j;simp
section
variable {X:Cx}{a b c:Expr}{ta tb tc:TE}{pos:Pos}
theorem II(I:Inv X pins σ H s)(q:Q (.bl k) H)(e:k=Y):EP X pins σ Q (.bool Y) s:=by
 subst e;exact⟨.bl k,H,I,Z,q⟩
theorem Jk:OpR X (ul .Eq) rEq:=by
 intro pins s σ H x y v u Q I J Y h;obtain⟨O,q⟩:=h;cases x with
 | non =>
   cases J;cases y with
   | non=>cases Y;exact PySem.EqNone.eq_none_none (II I q (by simp))
   | bl j=>cases Y;exact PySem.EqNone.eq_none_bool (II I q (by simp))
   | int j=>obtain⟨t',rfl⟩:=Y;exact PySem.EqNone.eq_none_int (II I q (by simp))
   | str j=>obtain⟨t',rfl⟩:=Y;exact PySem.EqNone.eq_none_str (II I q (by simp))
   | _=>exact absurd (show false=true from O) Bool.false_ne_true
 | bl i =>
   cases J;cases y with
   | non=>cases Y;exact PySem.EqNone.eq_bool_none (II I q (by simp))
   | bl j=>cases Y;exact eq_bool (II I q YZ)
   | str j=>obtain⟨t',rfl⟩:=Y;exact PySem.EqMixed.eq_bool_str (II I q (by simp))
   | _=>exact absurd (show false=true from O) Bool.false_ne_true
 | int i =>
   obtain⟨t,rfl⟩:=J;cases y with
   | non=>cases Y;exact PySem.EqNone.eq_int_none (II I q (by simp))
   | int j=>obtain⟨t',rfl⟩:=Y;exact eq_int (II I q Wf)
   | str j=>obtain⟨t',rfl⟩:=Y;exact PySem.EqMixed.eq_int_str (II I q (by simp))
   | _=>exact absurd (show false=true from O) Bool.false_ne_true
 | str i =>
   obtain⟨t,rfl⟩:=J;cases y with
   | non=>cases Y;exact PySem.EqNone.eq_str_none (II I q (by simp))
   | bl j=>cases Y;exact PySem.EqMixed.eq_str_bool (II I q (by simp))
   | int j=>obtain⟨t',rfl⟩:=Y;exact PySem.EqMixed.eq_str_int (II I q (by simp))
   | str j=>obtain⟨t',rfl⟩:=Y;exact eq_str (II I q We)
   | _=>exact absurd (show false=true from O) Bool.false_ne_true
 | byt i =>
   obtain⟨t,rfl⟩:=J;cases y with
   | byt j=>obtain⟨t',rfl⟩:=Y;exact PySem.W.eq_bytes (II I q Wg)
   | _=>exact absurd (show false=true from O) Bool.false_ne_true
 | _=>cases y<;>exact absurd (show false=true from O) Bool.false_ne_true
theorem Ml:OpR X (ul .NotEq) rNe:=by
 intro pins s σ H x y v u Q I J Y h;obtain⟨O,q⟩:=h;cases x with
 | non =>
   cases J;cases y with
   | non=>cases Y;exact PySem.EqNone.ne_none_none (II I q (by simp))
   | bl j=>cases Y;exact PySem.EqNone.ne_none_bool (II I q (by simp))
   | int j=>obtain⟨t',rfl⟩:=Y;exact PySem.EqNone.ne_none_int (II I q (by simp))
   | str j=>obtain⟨t',rfl⟩:=Y;exact PySem.EqNone.ne_none_str (II I q (by simp))
   | _=>exact absurd (show false=true from O) Bool.false_ne_true
 | bl i =>
   cases J;cases y with
   | non=>cases Y;exact PySem.EqNone.ne_bool_none (II I q (by simp))
   | bl j=>cases Y;exact ne_bool (II I q (congrArg not YZ))
   | str j=>obtain⟨t',rfl⟩:=Y;exact PySem.EqMixed.ne_bool_str (II I q (by simp))
   | _=>exact absurd (show false=true from O) Bool.false_ne_true
 | int i =>
   obtain⟨t,rfl⟩:=J;cases y with
   | non=>cases Y;exact PySem.EqNone.ne_int_none (II I q (by simp))
   | int j=>obtain⟨t',rfl⟩:=Y;exact ne_int (II I q (congrArg not Wf))
   | str j=>obtain⟨t',rfl⟩:=Y;exact PySem.EqMixed.ne_int_str (II I q (by simp))
   | _=>exact absurd (show false=true from O) Bool.false_ne_true
 | str i =>
   obtain⟨t,rfl⟩:=J;cases y with
   | non=>cases Y;exact PySem.EqNone.ne_str_none (II I q (by simp))
   | bl j=>cases Y;exact PySem.EqMixed.ne_str_bool (II I q (by simp))
   | int j=>obtain⟨t',rfl⟩:=Y;exact PySem.EqMixed.ne_str_int (II I q (by simp))
   | str j=>obtain⟨t',rfl⟩:=Y;exact ne_str (II I q (congrArg not We))
   | _=>exact absurd (show false=true from O) Bool.false_ne_true
 | byt i =>
   obtain⟨t,rfl⟩:=J;cases y with
   | byt j=>obtain⟨t',rfl⟩:=Y;exact PySem.W.ne_bytes (II I q (congrArg not Wg))
   | _=>exact absurd (show false=true from O) Bool.false_ne_true
 | _=>cases y<;>exact absurd (show false=true from O) Bool.false_ne_true
theorem RH:OpR X (ul .Lt) (rI0 λi j=>.bl (decide (i<j))):=gZ λ_ _ _ _ _ _ _ q=>lt_int q
theorem Ke:OpR X (ul .Gt) (rI0 λi j=>.bl (decide (j<i))):=gZ λ_ _ _ _ _ _ _ q=>gt_int q
theorem fQ:OpR X (ul .GtE) (rI0 λi j=>.bl (decide (j<=i))):=gZ λ_ _ _ _ _ _ _ q=>ge_int q
theorem WH:OpR X (ul .In) (λx y H Q=>∃i j,x = .str i/\y = .str j/\Q (.bl (!(Builtin.Str.occurrences j i 0 j.length 1).isEmpty)) H):=by
 intro pins s σ H x y v u Q I Y W h;obtain⟨i,j,rfl,rfl,q⟩:=h;obtain⟨t,rfl⟩:=Y;obtain⟨t',rfl⟩:=W;exact in_str (II I q rfl)
theorem V3:OpR X (ul .Is) (λx y H Q=>y = .non/\Q (.bl (decide (x = .non))) H):=by
 intro pins s σ H x y v u Q I Y W h;obtain⟨rfl,q⟩:=h;cases W;refine is_none_gen (II I q ?_)
 cases x<;>first
  | (cases Y;rfl)
  | (obtain⟨t,rfl⟩:=Y;rfl)
theorem Sw:OpR X (ul .NotIn) (λx y H Q=>∃i j,x = .str i/\y = .str j/\Q (.bl (!(!(Builtin.Str.occurrences j i 0 j.length 1).isEmpty))) H):=by
 intro pins s σ H x y v u Q I Y W h;obtain⟨i,j,rfl,rfl,q⟩:=h;obtain⟨t,rfl⟩:=Y;obtain⟨t',rfl⟩:=W;exact notIn_str (II I q rfl)
theorem LA(b:Expr)(h:Y ≠ .In:=by decide)(h2:Y ≠ .NotIn:=by decide):vz Y b=false:=by
 have e1:(Y == CmpOp.In)=false:=by cases Y<;>first | rfl | exact absurd rfl h
 have W:(Y == CmpOp.NotIn)=false:=by cases Y<;>first | rfl | exact absurd rfl h2
 cases b<;>simp[vz,e1,W]
theorem M4(ho:OpR X (ul Y) r)(O:PE X a ta)(hb:PE X b tb)(z:vz Y b=false):PE X (.Compare a [Y] [b] pos) (tOp r ta tb):=by
 intro pins s σ H Q I h;exact wpAny_Compare1 (iF O hb I h λv u s2 x y H2 J W ry q=>ho pins s2 σ H2 x y v u Q J W ry q) z
def Rt(t:TE):TT:=λσ H Q=>t σ H λx H'=>∃k,x = .bl k/\Q k H'
theorem K3(ho:OpR X (ul Y) r)(ha:PE X a ta)(hb:PE X b tb)(hm:vz Y b=false):PT X (.Compare a [Y] [b] pos) (Rt (tOp r ta tb)):=by
 intro pins s σ H Q I h
 refine wpAny_isTrue_Compare1 (thn (ha pins s σ H _ I h) λv O ⟨x,H1,J,r1,q1⟩=>thn (hb pins O σ H1 _ J q1) λu s2 ⟨y,H2,I2,r2,q2⟩ =>
  thn (ho pins s2 σ H2 x y v u _ I2 r1 r2 q2) λc s3 ⟨z,H3,I3,W,k,e,q3⟩=>?_) hm
 subst e;cases W;exact vp ⟨H3,I3,q3⟩
theorem OD:(io:Nat)<2 ^ 63:=by rw[sK];decide
theorem Il:OpR X (vm .Add) (λx y H Q=>∃i j,x = .str i/\y = .str j/\i.length+j.length<=io/\Q (.str (i++j)) H):=by
 intro pins s σ H x y v u Q I Y O h;obtain⟨i,j,rfl,rfl,W,q⟩:=h;obtain⟨t,rfl⟩:=Y;obtain⟨t',rfl⟩:=O;exact add_str (λt' tk=>⟨.str (i++j),H,I.tok _,⟨_,Z⟩,q⟩) W
theorem Mm(r:Ip [x] us):∃u,us=[u]/\Iw x u:=by
 cases r with
 | cons r1 r2=>cases r2;exact⟨_,Z,r1⟩
theorem Xi(r:Ip [x,y] us):∃u Y,us=[u,Y]/\Iw x u/\Iw y Y:=by
 cases r with
 | cons r1 r2 =>
   cases r2 with
   | cons r3 r4=>cases r4;exact⟨_,_,Z,r1,r3⟩
theorem O5:Kb X (.builtin "abs") (λxs H Q=>∃i,xs=[.int i]/\Q (.int (if i<0 then -i else i)) H):=by
 intro pins s σ H xs us Q I r h;obtain⟨i,rfl,q⟩:=h;obtain⟨u,rfl,t,rfl⟩:=Mm r;exact call_abs_int λu tk=>⟨.int (if i<0 then -i else i),H,I.tok _,⟨_,Z⟩,q⟩
theorem Jc:Kb X (.type "str") (λxs H Q=>∃i,xs=[.int i]/\i.natAbs.log2<1920/\Q (.str (toString i)) H):=by
 intro pins s σ H xs us Q I r h;obtain⟨i,rfl,Y,q⟩:=h;obtain⟨u,rfl,t,rfl⟩:=Mm r;exact PySem.P.str_of_int Y ⟨.str _,H,I.tok _,⟨_,Z⟩,q⟩
end
structure Vu(h:rf)(x dx C:ge)(mA:Str->Option gl):Prop where
 obj:h.get? x=some (pD C dx)
 ns:h.Ns1 dx mA
 ne:dx≠x
theorem WU{h:rf}{dx:ge}{mA:Str->Option gl}(n:h.Ns1 dx mA):∃W,h.get? dx=some W/\∀name,qh name W=some (mA name):=by
 obtain⟨o,es,ep,ho,hd,hk,_,J⟩:=n;refine⟨o,ho,λname=>?_⟩;have e:=J name;unfold nsFind findBy at e;rw[<- Array.find?_toList]at e;unfold qh;rw[hd];dsimp only
 split
 ·rename_i y q
  rw[q]at e;exact congrArg some e
 ·rename_i q
  rw[q]at e
  have a:es.toList.any (·.refKey)=false:=by
   rw[List.any_eq_false];intro y hy;obtain⟨z,t,Y⟩:=hk y (Array.mem_toList_iff.mp hy);simp[DictEntry.refKey,Y]
  have O:¬es.toList.any (·.refKey)=true:=by rw[a];exact Bool.false_ne_true
  rw[if_neg O];exact congrArg some e
theorem Vu.look(I:Vu h x dx C mA):∃Y,PySem.W.InstAt h x (pD C dx) C (some Y)/\∀name,qh name Y=some (mA name) :=
 let ⟨Y,ho,hl⟩:=WU I.ns
 ⟨Y,⟨I.obj,Z,Z,ho⟩,hl⟩
section
variable {prog:mo}{w:rc}{A:sB}{E:gl->im->Prop}{s:im}{K:pP}{x dx C f:ge}{mA:Str->Option gl}{name:Str}{v:gl}
theorem ZZ(X:K.In s.heap)(I:Vu s.heap x dx C mA)(hg:qi K C name=true)(hh:qj K C=true)
 (ha:qk K (.ref C) name=some none) (z:mA name=some v) (O:PySem.W.handedIn v=true) (h:Q v { s with toks:=s.toks+1 }) :
 na (pi prog w) A (getAttr (.ref x) name Y) Q E s:=by
 obtain⟨od,J,hl⟩:=I.look;exact PySem.W.get_value X J (qm hg).1 (PySem.W.findObj_own hh ha rfl (by rw[hl,z])) O h
theorem YK(X:K.In s.heap)(I:Vu s.heap x dx C mA)(Y:qi K C name=true)
 (hf:qk K (.ref C) name=some (some (.ref f))) (ht:qo K (.ref f)=true) (z:mA name=none) (h:Q (.ref f,[.ref x]) s) :
 na (pi prog w) A (getMethod (.ref x) name pl) Q E s:=by
 obtain⟨O,J,hl⟩:=I.look;exact PySem.W.method_fn X J (qm Y).1 (qm Y).2 hf (beq_iff_eq.mp ht) (by show(qh name O).map (·.isSome)=some false;rw[hl,z];rfl) h
theorem Zu(X:K.In s.heap)(I:Vu s.heap x dx C mA)
 (hs:qk K (.ref C) "__setattr__" = some (some (.builtin "object.__setattr__"))) (hp:qp K C=true) (ht:qq K C name=some none) (hh:qj K C=true)
 (hw:PySem.Within mA ns) (hsz:ns.length<=io)
 (h:∀h',Vu h' x dx C (λy=>if y=name then some v else mA y)->Heap.SameBut dx s.heap h'->Q () { s with heap:=h',toks:=s.toks+2 }) :
 na (pi prog w) A (setAttr (.ref x) name v) Q E s:=by
 obtain⟨od,J,hl⟩:=I.look;refine PySem.W.set_plain X J hs (PySem.W.osa_open (s:={ s with toks:=s.toks+1 }) (r:=none) X J hp ht λb=>?_)
 obtain⟨cd,hc,ac⟩:=PySem.W.any_some hh;have hx:s.heap.get? x=some ⟨.ref C,some dx,.plain,#[]⟩:=I.obj;refine ii (li (ii (ii (wpAny_loadPart hx (ii (PySem.W.Looks.here (s:={ s with toks:=s.toks+1 }) (PySem.W.looks_clsIn X hc) ?_))))))
 rw[ac];refine li (a:=some dx) (ii (li (ii ?_)));refine wpAny_nsSet1 (s:={ s with toks:=s.toks+1 }) I.ns λh' Y O=>?_
 obtain⟨oD,af,ae,z,ad,aa⟩:=Y.count (PySem.Within.cons name v hw);refine ii (wpAny_lookBehind z (by rw[ad];exact pastItsLine_dict (pQ aa (by rw[qr];lia))) ?_)
 exact li (h _ ⟨(O.2 _ (Ne.symm I.ne)).trans I.obj,Y,I.ne⟩ O)
theorem Yw(X:K.In s.heap)(J:qt K C=true)
 (hi:qk K (.ref C) "__init__" = some (some (.ref f))) (z:PySem.W.typeIn K (.ref f)=some (.type "function"))
 (h:vA (pi prog w) (A.under (.builtin "type.__call__" ⟨.ref C::vs,O⟩)) (.call (.ref f) ⟨.ref (s.heap.objs.size+1)::vs,O⟩) (PySem.W.InitBack (s.heap.objs.size+1) R)
  { s with heap:=(s.heap.push qu).push (pD C s.heap.objs.size) }) :
 vA (pi prog w) A (.call (.ref C) ⟨vs,O⟩) R s:=by
 obtain⟨hh,g,d,t,os⟩:=s;exact PySem.W.make_core (PySem.W.makes_of X J) (PySem.W.looks_findIn X hi) (λY=>PySem.W.bind_fn X Y z) (.inl rfl) h
end
def MW(f:Str)(v:V):List (Str×V)->List (Str×V)
 | []=>[(f,v)]
 | (g,x)::r=>if g=f then (g,v)::r else (g,x)::MW f v r
theorem P7(f g:Str)(v:V):∀fs:List (Str×V),(MW f v fs).lookup g=if g=f then some v else fs.lookup g
 | []=>by
   show qv g [(f,v)]=_;by_cases h:g=f
   ·have Y:(g == f)=true:=beq_iff_eq.mpr h;simp only[qv,Y,if_pos h]
   ·have Y:(g == f)=false:=beq_eq_false_iff_ne.mpr h;simp only[qv,Y,if_neg h]
 | (k,x)::r=>by
   have W:=P7 f g v r;rw[show MW f v ((k,x)::r)=(if k=f then (k,v)::r else (k,x)::MW f v r) from rfl];by_cases hk:k=f
   ·rw[if_pos hk];by_cases h:g=k
    ·have Y:(g == k)=true:=beq_iff_eq.mpr h;simp only[qv,Y,if_pos (h.trans hk)]
    ·have Y:(g == k)=false:=beq_eq_false_iff_ne.mpr h;simp only[qv,Y,if_neg (λe:g=f=>h (e.trans hk.symm))]
   ·rw[if_neg hk];by_cases h:g=k
    ·have Y:(g == k)=true:=beq_iff_eq.mpr h;simp only[qv,Y,if_neg (λe:g=f=>hk (h.symm.trans e))]
    ·have Y:(g == k)=false:=beq_eq_false_iff_ne.mpr h;simp only[qv,Y];exact W
theorem OH(f:Str)(v:V):∀fs:List (Str×V),f∈(MW f v fs).map (·.1)/\∀g,g∈fs.map (·.1)->g∈(MW f v fs).map (·.1)
 | []=>⟨by simp[MW],λg h=>by simp at h⟩
 | (k,x)::r=>by
   obtain⟨i1,i2⟩:=OH f v r;rw[show MW f v ((k,x)::r)=(if k=f then (k,v)::r else (k,x)::MW f v r) from rfl];by_cases hk:k=f
   ·rw[if_pos hk];subst hk;exact⟨by simp,λg h=>by simpa using h⟩
   ·rw[if_neg hk];refine⟨?_,λg h=>?_⟩
    ·rw[qw];exact pU _ i1
    ·rw[qw]at h ⊢
     rcases pV.mp h with e | e
     ·exact pV.mpr (.inl e)
     ·exact pU _ (i2 g e)
theorem P8(f:Str)(v:V):∀fs:List (Str×V),(MW f v fs).length<=fs.length+1
 | []=>by simp[MW]
 | (k,x)::r=>by
   have ih:=P8 f v r;rw[show MW f v ((k,x)::r)=(if k=f then (k,v)::r else (k,x)::MW f v r) from rfl];by_cases hk:k=f
   ·rw[if_pos hk,qr,qr];lia
   ·rw[if_neg hk,qr,qr];lia
theorem Mh.some_of(r:Mh (some v) o):∃u,o=some u/\Iw v u:=by
 cases o with
 | none=>exact(show False from r).elim
 | some u=>exact⟨u,Z,r⟩
theorem Mh.none_of(r:Mh none o):o=none:=by
 cases o with
 | none=>rfl
 | some u=>exact(show False from r).elim
theorem X1(r:Iw v u):PySem.W.handedIn u=true:=by
 cases v with
 | non=>cases (show u=Value.none from r);rfl
 | bl b=>cases (show u=Value.bool b from r);rfl
 | int i=>obtain⟨t,e⟩:=(show ∃t,u=Value.int i t from r);cases e;rfl
 | str x=>obtain⟨t,e⟩:=(show ∃t,u=Value.str x t from r);cases e;rfl
 | byt b=>obtain⟨t,e⟩:=(show ∃t,u=Value.bytes b t from r);cases e;rfl
 | flt b=>obtain⟨t,e⟩:=(show ∃t,u=Value.float b t from r);cases e;rfl
 | ref a=>cases (show u=Value.ref a from r);rfl
 | ty n=>cases (show u=Value.type n from r);rfl
section
variable {P:mo}{w:rc}{H H':Hp}{h h':rf}{a C dx:ge}{fs fs':List (Str×V)}
theorem Pz(Y:HOk P w H h)(e:H a=some (.ins C dx fs)):∃mA,Vu h a dx C mA/\(∀f,Mh (fs.lookup f) (mA f))/\PySem.Within mA (fs.map (·.1))/\fs.length<=1000/\H dx=some (.own a):=by
 obtain⟨d,z,W,O,mA,n,r,q⟩:=(show Jb P w H h a (.ins C dx fs) from Y a _ e);exact⟨mA,⟨O,n,W⟩,r,q,z,d⟩
end
structure Cls(K:pP)(C:ge):Prop where
 pg:qi K C Str.empty=true
 hd:qj K C=true
 po:qp K C=true
 sa:qk K (.ref C) "__setattr__" = some (some (.builtin "object.__setattr__"))
theorem Cls.get{K:pP}{C:ge}(c:Cls K C)(f:Str):qi K C f=true:=c.pg
def Nt(K:pP)(C:ge)(f:Str):Prop:=qk K (.ref C) f=some none
theorem Nt.taker{K:pP}{C:ge}{f:Str}(n:Nt K C f):qq K C f=some none:=by
 unfold qq;rw[show qk K (.ref C) f=some none from n]
 rfl
structure Con(K:pP)(C:ge)(f:Str)(v:V)(u:gl):Prop where
 at_:qk K (.ref C) f=some (some u)
 rel:Iw v u
 get:qx K u "__get__" = some none
 cp:PySem.W.copiedNames.contains f=false
structure iN(K:pP)(C:ge)(m:Str)(f:ge):Prop where
 at_:qk K (.ref C) m=some (some (.ref f))
 fn:qo K (.ref f)=true
 kp:qy K (.ref f)=true
section
variable {X:Cx}{pins:List (ge×Obj)}{σ:St}{H:Hp}{s:im}{a C dx:ge}{fs:List (Str×V)}{f:Str}{v:V}{A:sB}{E:gl->im->Prop}
theorem Vn(I:Inv X pins σ H s)(e:H a=some (.ins C dx fs))(c:Cls X.K C)(n:Nt X.K C f)(l:fs.lookup f=some v)
 (h:∀u s',Inv X pins σ H s'->Iw v u->Q u s'):na (pi X.prog X.w) A (getAttr (.ref a) f b) Q E s:=by
 obtain⟨mA,O,r,_,_,_⟩:=Pz I.hok e;obtain⟨u,W,Y⟩:=Mh.some_of (v:=v) (o:=mA f) (by rw[<- l];exact r f)
 exact ZZ I.kIn O (c.get f) c.hd n W (X1 Y) (h u _ (I.tok _) Y)
theorem QI(I:Inv X pins σ H s)(e:H a=some (.ins C dx fs))(c:Cls X.K C)(k:iN X.K C m g)(l:fs.lookup m=none)
 (h:Q (.ref g,[.ref a]) s):na (pi X.prog X.w) A (getMethod (.ref a) m pl) Q E s:=by
 obtain⟨mA,O,r,_,_,_⟩:=Pz I.hok e;have Y:mA m=none:=Mh.none_of (by rw[<- l];exact r m)
 exact YK I.kIn O (c.get m) k.at_ k.fn Y h
theorem UP(I:Inv X pins σ H s)(e:H a=some (.ins C dx fs))(c:Cls X.K C)(n:Nt X.K C f)(hl:fs.length<1000)(ry:Iw y u)
 (h:∀s',Inv X pins σ (upd H a (.ins C dx (MW f y fs))) s'->Q () s'):na (pi X.prog X.w) A (setAttr (.ref a) f u) Q E s:=by
 obtain⟨mA,O,r,wi,_,W⟩:=Pz I.hok e;have hz:(fs.map (·.1)).length<=io:=by rw[qz,sK];lia
 refine Zu I.kIn O c.sa c.po n.taker c.hd wi hz λh' Y J=>h _ ?_;have hd:∃o,h'.get? dx=some o:=let ⟨o,_,_,e',_⟩:=Y.ns;⟨o,e'⟩;refine I.write (x:=a) (e:=dx) (by rw[e];exact True.intro) (.inr W) (λb q hb z=>(J.2 b hb).trans z) hd ?_
 refine⟨by rw[HZ O.ne];exact W,?_,O.ne,Y.obj,_,Y.ns,λg=>?_,λg hg=>?_⟩
 ·have:=P8 f y fs;lia
 ·show Mh ((MW f y fs).lookup g) (if g=f then some u else mA g);rw[P7];by_cases q:g=f
  ·rw[if_pos q,if_pos q];exact ry
  ·rw[if_neg q,if_neg q];exact r g
 ·by_cases q:g=f
  ·rw[q];exact(OH f y fs).1
  ·refine(OH f y fs).2 g (wi g λz=>hg ?_);show(if g=f then some u else mA g)=none;rw[if_neg q];exact z
theorem Inv.made(I:Inv X pins σ H s):Inv X pins σ (upd (upd H s.heap.objs.size (.own (s.heap.objs.size+1))) (s.heap.objs.size+1) (.ins C s.heap.objs.size []))
 { s with heap:=(s.heap.push qu).push (pD C s.heap.objs.size) }:=by
 have e1:(s.heap.push qu).get? s.heap.objs.size=some qu:=Heap.get?_push_size s.heap rfl
 have z:((s.heap.push qu).push (pD C s.heap.objs.size)).get? (s.heap.objs.size+1)=some (pD C s.heap.objs.size):=by
  have:=Heap.get?_push_size (s.heap.push qu) (o:=pD C s.heap.objs.size) rfl
  rwa [Heap.size_push]at this
 have J:(s.heap.push qu).Ns s.heap.objs.size (λ_=>none):=⟨qu,#[],_,e1,Z,(λe O=>absurd O (by simp)),λ_=>rfl⟩
 have W:=I.laid (a:=s.heap.objs.size) (o:=.own (s.heap.objs.size+1)) (h':=s.heap.push qu) (t':=s.toks) (λb u q=>Heap.get?_push_of_some _ q) (qd _) ⟨_,e1⟩;refine W.laid (a:=s.heap.objs.size+1) (o:=.ins C s.heap.objs.size []) (t':=s.toks) (λb u q=>Heap.get?_push_of_some _ q) (Nat.le_of_eq (Heap.size_push _ _)) ?_;have Y:s.heap.objs.size≠s.heap.objs.size+1:=pJ (qA _);refine⟨by rw[HZ Y,Hu],qg _,Y,z,λ_=>none,(Heap.Ns1.of_empty J).at λo q=>Heap.get?_push_of_some _ q,λ_=>True.intro,λy hy=>absurd rfl hy⟩
theorem fq(W:vy e f env (tz e env)=tz e env)
 (h:na (pi prog w) A (tz e env) (λo Y=>na (pi prog w) A (getAttr o f true) Q E Y) E s):na (pi prog w) A (tz (.Attribute e f pos) env) Q E s :=
 Attribute_any_ h (by rw[arm_eval_Attribute,W])
end
def iX(K:pP)(ta:TE)(f:Str):TE:=λσ H Q=>ta σ H λx H1=>∃a C dx fs v,x = .ref a/\H1 a=some (.ins C dx fs)/\Cls K C/\Nt K C f/\fs.lookup f=some v/\Q v H1
def j5(K:pP)(ta tv:TE)(f:Str):TS:=λD σ H=>tv σ H λy H1=>ta σ H1 λx H2=>∃a C dx fs,x = .ref a/\H2 a=some (.ins C dx fs)/\Cls K C/\Nt K C f/\fs.length<1000 /\
 D.nx σ (upd H2 a (.ins C dx (MW f y fs)))
section
variable {X:Cx}{o e value:Expr}{f:Str}{pos pos' tpos:Pos}{ta tv:TE}
theorem gR(O:PE X e ta)(hb:vy e f X.env (tz e X.env)=tz e X.env):PE X (.Attribute e f pos) (iX X.K ta f):=by
 intro pins s σ H Q I h;refine fq hb (thn (O pins s σ H _ I h) λu s1 ⟨x,H1,Y,W,a,C,dx,fs,v,ex,ea,c,n,l,q⟩=>?_);subst ex;obtain rfl:u=Value.ref a:=W;exact Vn Y ea c n l λu' s2 J z=>⟨v,H1,J,z,q⟩
theorem gJ(ha:PE X o ta)(hv:PE X value tv)(J:swapsWith value (some (.Attribute o f pos')) pos.line X.env=pure false):PS X (.Assign [.Attribute o f pos'] value pos) (j5 X.K ta tv f):=by
 intro pins s σ H D I h;refine plainObj_wpAny_Assign_Attribute (thn (hv pins s σ H _ I h) λu W ⟨y,H1,O,ry,q⟩=>thn (ha pins W σ H1 _ O q) λY s2 ⟨x,H2,I2,z,a,C,dx,fs,ex,ea,c,n,l,q2⟩=>?_) J;subst ex;obtain rfl:Y=Value.ref a:=z;exact UP I2 ea c n l ry λs3 I3=>⟨σ,_,I3,q2⟩
end
section
variable {X:Cx}{pins:List (ge×Obj)}{σ:St}{H:Hp}{s:im}{A:sB}{E:gl->im->Prop}{Q:gl->im->Prop}{c:gl}{b:Bool}
inductive OQ(K:pP)(H:Hp):V->gl->Prop where
 | non:OQ K H .non (.type "NoneType")
 | bl (x:Bool):OQ K H (.bl x) (.type "bool")
 | int (i:Int):OQ K H (.int i) (.type "int")
 | str (x:Str):OQ K H (.str x) (.type "str")
 | flt (x:UInt64):OQ K H (.flt x) (.type "float")
 | lst {a:ge} {xs:List V} (e:H a=some (.lst xs)):OQ K H (.ref a) (.type "list")
 | frz {a:ge} {o:Obj} {xs:List V} (e:H a=some (.frz o (.lst xs))):OQ K H (.ref a) (.type "list")
 | tup {a:ge} {xs:List V} (e:H a=some (.tup xs)):OQ K H (.ref a) (.type "tuple")
 | dK {a:ge} {kvs:List (Key×V)} (e:H a=some (.dK kvs)):OQ K H (.ref a) (.type "dict")
 | dT {a:ge} {kvs:List (List Key×V)} (e:H a=some (.dT kvs)):OQ K H (.ref a) (.type "dict")
 | ins {a C dx:ge} {fs:List (Str×V)} (e:H a=some (.ins C dx fs)) (cl:Cls K C) (ha:qk K (.ref C) "__class__" = some (some (.builtin "object.__class__")))
  (hn:qx K (.builtin "object.__class__") "__get__" = some (some (.builtin "getset_descriptor.__get__"))) (htk:PySem.W.takesIn K (.builtin "object.__class__")=some true)
  (hm:qB K C (.type "object")=some true):OQ K H (.ref a) (.ref C)
theorem WY(I:Inv X pins σ H s)(Y:Iw x u)(ty:OQ X.K H x t)(e:qC X.K t c=some b)(h:∀tk,Q (.bool b) { s with toks:=tk }) :
 na (pi X.prog X.w) A (call (.builtin "isinstance") [u,c]) Q E s:=by
 cases ty with
 | non=>cases (show u=Value.none from Y);exact qD PySem.W.kitx_none I.kIn True.intro e (λz=>nomatch z) h
 | bl y=>cases (show u=Value.bool y from Y);exact qD PySem.W.kitx_bool I.kIn True.intro e (λz=>nomatch z) h
 | int i=>obtain⟨t,q⟩:=(show ∃t,u=Value.int i t from Y);cases q;exact qD PySem.W.kitx_int I.kIn True.intro e (λz=>nomatch z) h
 | str y=>obtain⟨t,q⟩:=(show ∃t,u=Value.str y t from Y);cases q;exact qD PySem.W.kitx_str I.kIn True.intro e (λz=>nomatch z) h
 | flt y=>obtain⟨t,q⟩:=(show ∃t,u=Value.float y t from Y);cases q;exact qD PySem.W.kitx_float I.kIn True.intro e (λz=>nomatch z) h
 | @lst a xs ea =>
   cases (show u=Value.ref a from Y);obtain⟨_,_,n,_,h1⟩:=(show Jb X.prog X.w H s.heap a (.lst xs) from I.hok a _ ea);exact qD qF I.kIn ⟨_,h1,Z⟩ e (λz=>nomatch z) h
 | @frz a ob xs ea =>
   cases (show u=Value.ref a from Y);obtain⟨_,_,_,n,_,h1⟩:=(show Jb X.prog X.w H s.heap a (.frz ob (.lst xs)) from I.hok a _ ea);exact qD qF I.kIn ⟨_,h1,Z⟩ e (λz=>nomatch z) h
 | @tup a xs ea =>
   cases (show u=Value.ref a from Y);obtain⟨_,_,_,p⟩:=(show Jb X.prog X.w H s.heap a (.tup xs) from I.hok a _ ea);obtain⟨o,h1,h2,_⟩:=p;exact qD PySem.W.kitx_tuple I.kIn ⟨o,h1,h2⟩ e (λz=>nomatch z) h
 | @dK a kvs ea =>
   cases (show u=Value.ref a from Y);obtain⟨_,_,vs,_,p⟩:=(show Jb X.prog X.w H s.heap a (.dK kvs) from I.hok a _ ea);obtain⟨o,es,ep,h1,h2,_⟩:=p;exact qD PySem.W.kitx_dict I.kIn ⟨o,h1,h2.1⟩ e (λz=>nomatch z) h
 | @dT a kvs ea =>
   cases (show u=Value.ref a from Y);obtain⟨_,_,xs,_,o,es,ep,h1,h2,_⟩:=(show Jb X.prog X.w H s.heap a (.dT kvs) from I.hok a _ ea);exact qD PySem.W.kitx_dict I.kIn ⟨o,h1,h2.1⟩ e (λz=>nomatch z) h
 | @ins a C dx fs ea cl ha hn htk hm =>
   cases (show u=Value.ref a from Y);obtain⟨mA,O,_⟩:=Pz I.hok ea;obtain⟨od,J,_⟩:=O.look;exact qD (PySem.W.kitx_own (cl.get _) cl.hd ha hn htk hm) I.kIn J e (λz=>nomatch z) h
end
structure Jw(k:Nat)(A:sB):Prop where
 hd:A.handled=none
 dp:A.depth+3*k+5<recursionLimit
 un:A.units+16*k+200<cLine
theorem Jw.mono(r:Jw k A)(h:j<=k):Jw j A:=⟨r.hd,by have:=r.dp;lia,by have:=r.un;lia⟩
theorem Jw.deeper(r:Jw (k+1) A)(env:Env):Jw k (A.deeper env) :=
 ⟨r.hd,by have:=r.dp;show A.depth+1+3*k+5<_;lia,by have:=r.un;show A.units+3+16*k+200<_;lia⟩
theorem Vf{A:sB}{C:ge}{us:List gl}{Y:List (Str×gl)}:(A.under (.builtin "type.__call__" ⟨.ref C::us,Y⟩)).depth=A.depth+1:=by
 first | rfl | simp[Around.under,Code.weight,Code.isCreation,Code.isGuard,Code.isCaller,Code.frames,Code.isFrame,guardIds]
theorem Ve{A:sB}{C:ge}{us:List gl}{Y:List (Str×gl)}:(A.under (.builtin "type.__call__" ⟨.ref C::us,Y⟩)).units=A.units+1:=by
 first | rfl | simp[Around.under,Code.cUnits,Code.frames,Code.isFrame]
theorem Jw.make(r:Jw (k+1) A)(C:ge)(us:List gl)(Y:List (Str×gl)):Jw k (A.under (.builtin "type.__call__" ⟨.ref C::us,Y⟩)) :=
 ⟨r.hd,by have:=r.dp;rw[Vf];lia,by have:=r.un;rw[Ve];lia⟩
theorem Jw.depth(r:Jw k A):A.depth<recursionLimit:=by have:=r.dp;lia
theorem Jw.units(r:Jw k A):A.units+64<cLine:=by have:=r.un;lia
def QQ:TA:=λ_ H Q=>Q [] H
def LD(ta:TE)(tr:TA):TA:=λσ H Q=>ta σ H λx H1=>tr σ H1 λxs H2=>Q (x::xs) H2
section
variable {X:Cx}{e:Expr}{es:List Expr}{te:TE}{t:TA}{pos:Pos}
theorem HB:PA X [] QQ:=λ_ _ _ _ H Q I h=>Calls.spliced_nil ⟨[],H,I,.nil,h⟩
theorem H9(J:PE X e te)(hr:PA X es t)(O:lm (e::es) X.env=(false,tz e X.env)::lm es X.env:=by rfl):PA X (e::es) (LD te t):=by
 intro pos pins s σ H Q I h;rw[O];show na _ _ (spliced ((false,tz e X.env)::ut pos (lm es X.env))) _ _ s;refine Calls.spliced_cons (thn (J pins s σ H _ I h) λu Y ⟨x,H1,W,r1,q1⟩=>?_);exact thn (hr pos pins Y σ H1 _ W q1) λus s2 ⟨xs,H2,z,r2,q2⟩=>⟨x::xs,H2,z,.cons r1 r2,q2⟩
def jL(t:TA):TE:=λσ H Q=>t σ H λxs H1=>xs.length<=io/\∀p,H1 p=none->Q (.ref p) (upd H1 p (.tup xs))
def iW(t:TA):TE:=λσ H Q=>t σ H λxs H1=>xs.length<=io/\∀p,H1 p=none->Q (.ref p) (upd H1 p (.lst xs))
theorem Ib{x1}(h:PA X es t):PE X (.Tuple es x1 pos) (jL t):=by
 intro pins s σ H Q I J;refine wpAny_Tuple_spliced (thn (h pos pins s σ H _ I J) λus Y ⟨xs,H1,W,r,z,q⟩=>⟨by rw[<- r.length];exact z,?_⟩)
 have O:H1 Y.heap.objs.size=none:=W.hok.fresh (qd _);refine⟨.ref Y.heap.objs.size,upd H1 Y.heap.objs.size (.tup xs),W.laid (t':=Y.toks) (λb u e=>Heap.get?_push_of_some _ e) (qd _) ?_,Z,q _ O⟩;exact⟨z,us,r,⟨_,Heap.get?_push_size _ rfl,Z,_,Z⟩⟩
theorem IJ(h:PA X es t):PE X (.List es pos) (iW t):=by
 intro pins s σ H Q I J;refine wpAny_List_spliced (thn (h pos pins s σ H _ I J) λus Y ⟨xs,H1,W,r,z,q⟩=>⟨by rw[<- r.length];exact z,?_⟩)
 have O:H1 Y.heap.objs.size=none:=W.hok.fresh (qd _);refine⟨.ref Y.heap.objs.size,upd H1 Y.heap.objs.size (.lst xs),W.laid (t':=Y.toks) (λb u e=>Heap.get?_push_of_some _ e) (qd _) ?_,Z,q _ O⟩;exact⟨z,us,0,r,Heap.get?_push_size _ rfl⟩
end
abbrev Sp:=List V->Hp->VK->XK->Prop
abbrev CXT:=List Env->Hp->im->XK->gl->im->Prop
structure UB(P:mo)(w:rc)(K:pP)(mg:Str->Option gl)(base:rf)(A:sB)(outer:List Env)(s:im)(H:Hp):Prop where
 frames:A.frames=some outer
 mod:Mod K mg base
 bs:∀b o,base.get? b=some o->s.heap.get? b=some o/\H b=none
 bsz:base.objs.size<=s.heap.objs.size
 funs:s.heap.FunFrames base outer
 frf:∀b∈frs outer,H b=none
 hok:HOk P w H s.heap
 bare:vE s.gens
def CE(outer:List Env)(P:mo)(w:rc)(H:Hp)(s:im)(Q:VK)(u:gl)(s':im):Prop :=
 ∃v H',s'.os=s.os/\vE s'.gens/\Un (frs outer) [] H H' s.heap s'.heap/\HOk P w H' s'.heap/\Iw v u/\Q v H'
def CR(CX:CXT)(outer:List Env)(P:mo)(w:rc)(H:Hp)(s:im)(Q:VK)(E:XK)(r:Result)(s':im):Prop :=
 match r with
 | .ok (.ret u)=>CE outer P w H s Q u s'
 | .ok _=>False
 | .error e=>CX outer H s E e s'
structure HV(P:mo)(w:rc)(K:pP)(mg:Str->Option gl)(base:rf)(CX:CXT)(k:Nat)(f:ge)(fd:jp)(ps:List Str)(sp:Sp):Prop where
 len:∀vs H Q E,sp vs H Q E->vs.length=ps.length
 run:∀(A:sB) (outer:List Env) (s:im) (H:Hp) (args:Args) (us:List gl) (vs:List V) (Q:VK) (E:XK),Jw k A->UB P w K mg base A outer s H->BindsTo s fd args (ps.zip us)->Ip vs us->sp vs H Q E ->
  vA (pi P w) A (.call (.ref f) args) (CR CX outer P w H s Q E) s
theorem UB.make{P:mo}{w:rc}{K:pP}{mg:Str->Option gl}{base:rf}{A:sB}{outer:List Env}{s:im}{H:Hp}(e:UB P w K mg base A outer s H)(C:ge)(us:List gl)(Y:List (Str×gl)) :
 UB P w K mg base (A.under (.builtin "type.__call__" ⟨.ref C::us,Y⟩)) outer s H:=⟨by first | exact e.frames | (simpa [Around.under,Code.envs,Code.isFrame,pushEnvs] using e.frames),e.mod,e.bs,e.bsz,e.funs,e.frf,e.hok,e.bare⟩
section
variable {X:Cx}{pins:List (ge×Obj)}{σ:St}{H:Hp}{s s':im}
theorem Inv.env0(I:Inv X pins σ H s):UB X.prog X.w X.K X.mg X.base X.A X.stack s H :=
 ⟨I.ok.frames,I.ok.mod,I.bs,pQ I.ok.bsz I.sz,I.stack,I.stkFree,I.hok,I.bare⟩
theorem Inv.after(I:Inv X pins σ H s)(h:CE X.stack X.prog X.w H s Q u s'):EP X pins σ Q u s':=by
 obtain⟨v,H',os,Y,J,O,r,q⟩:=h;obtain⟨hh,g,d,t,W⟩:=s';obtain rfl:W=s.os:=os;exact⟨v,H',I.call (h':=hh) (g':=g) (d':=d) (t':=t) (ch:=[]) J O Y (λb z=>absurd z (by simp)),r,q⟩
end
def PQ(sp:Sp)(dvs:List V)(E:XK)(t:TA):TE:=λσ H Q=>t σ H λvs H1=>sp (vs++dvs) H1 Q E
def fE(C:ge)(m:Str)(sp:Sp)(dvs:List V)(E:XK)(ta:TE)(t:TA):TE:=λσ H Q=>ta σ H λx H1=>∃a dx fs,x = .ref a/\H1 a=some (.ins C dx fs)/\fs.lookup m=none /\
 t σ H1 λvs H2=>sp (x::(vs++dvs)) H2 Q E
def fF(C:ge)(sp:Sp)(dvs:List V)(E:XK)(t:TA):TE:=λσ H Q=>t σ H λvs H1=>∀x dx,H1 x=none->H1 dx=none->dx≠x ->
 sp (.ref x::(vs++dvs)) (upd (upd H1 dx (.own x)) x (.ins C dx [])) (λv H2=>v = .non/\Q (.ref x) H2) E
def Js(K:pP)(fd:jp)(ps:List Str)(ds:List gl):Prop :=
 ∀(s:im) (us:List gl),K.In s.heap->(us++ds).length=ps.length->BindsTo s fd ⟨us,[]⟩ (ps.zip (us++ds))
theorem Js.all{K:pP}{fd:jp}{ps:List Str}(h:∀us:List gl,us.length=ps.length->vH fd ⟨us,[]⟩=pure (ps.zip us)):Js K fd ps []:=λs us _ Y=>by
 rw[qG]at Y ⊢;exact .of_eq (h us Y)
def Lf(CX:CXT)(X:Cx)(E:XK):Prop:=∀(pins:List (ge×Obj)) (σ:St) (H:Hp) (s:im) (e:gl) (s':im),Inv X pins σ H s->CX X.stack H s E e s'->X.xe e s'
section
variable {X:Cx}{CX:CXT}{k:Nat}{f C:ge}{fd:jp}{ps:List Str}{sp:Sp}{dvs:List V}{ds:List gl}{E:XK}{x m:Str}{p pos apos:Pos}{e o:Expr}{es:List Expr}{ta:TE}{t:TA}
theorem UT(F:HV X.prog X.w X.K X.mg X.base CX k f fd ps sp)(J:Jw k X.A)(z:Js X.K fd ps ds)(hd:Ip dvs ds)(W:Lf CX X E)
 (I:Inv X pins σ H s) (r:Ip vs us) (h:sp (vs++dvs) H Q E):na (pi X.prog X.w) X.A (call (.ref f) us) (EP X pins σ Q) X.xe s:=by
 have r2:Ip (vs++dvs) (us++ds):=r.append hd;have O:(us++ds).length=ps.length:=by rw[<- r2.length];exact F.len _ _ _ _ h
 refine wpAny_call (vx (F.run X.A X.stack s H ⟨us,[]⟩ (us++ds) (vs++dvs) Q E J I.env0 (z s us I.kIn O) r2 h) λr s' Y=>?_);cases r with
 | error e=>exact W pins σ H s e s' I Y
 | ok fl =>
   cases fl with
   | ret u=>exact I.after Y
   | next=>exact False.elim Y
   | brk=>exact False.elim Y
   | cont=>exact False.elim Y
theorem VS(F:HV X.prog X.w X.K X.mg X.base CX k f fd ps sp)(hr:Jw k X.A)(hg:Gl X x)(hm:X.mg x=some (.ref f))(hk:qy X.K (.ref f)=true)(hb:Js X.K fd ps ds)(hd:Ip dvs ds)(hx:Lf CX X E)
 (J:PA X (e::es) t) (W:(x == ("__debug__" : Str))=false:=by decide) (z:lm (e::es) X.env=(false,tz e X.env)::lm es X.env:=by rfl) (Y:(ut pos (lm es X.env)).any (·.1)=false:=by rfl) :
 PE X (.Call (.Name x p) (e::es) [] pos) (PQ sp dvs E t):=by
 intro pins s σ H Q I h;refine vC (NV I hg hm ?_ W);refine qH (h₀:=X.base) I.ok.mod.kin hk (thn (J pos pins s σ H _ I h) λus s1 ⟨vs,H1,O,r,q⟩=>⟨O.kIn,?_⟩) z Y;exact UT F hr hb hd hx O r q
theorem ZF(he:PE X o ta)(c:Cls X.K C)(hm:iN X.K C m f)(F:HV X.prog X.w X.K X.mg X.base CX k f fd ps sp)(hr:Jw k X.A)(hb:Js X.K fd ps ds)(hd:Ip dvs ds)(hx:Lf CX X E)(ha:PA X (e::es) t)
 (O:lm (e::es) X.env=(false,tz e X.env)::lm es X.env:=by rfl) (Y:(ut pos (lm es X.env)).any (·.1)=false:=by rfl)
 (ht:tz (.Call (.Attribute o m apos) (e::es) [] pos) X.env=(do
  let ov <- tz o X.env
  standAt apos.atName
  let (f,first) <- holding [ov] (getMethod ov m pl)
  callWith pos f first (ut pos (lm (e::es) X.env)) (vM pos (vw [] X.env))):=by rfl) :
 PE X (.Call (.Attribute o m apos) (e::es) [] pos) (fE C m sp dvs E ta t):=by
 intro pins s σ H Q I h;refine PySem.W.methodCall_KW (pl:=pl) (thn (he pins s σ H _ I h) λu s1 ⟨x,H1,J,rx,a,dx,fs,ex,ea,l,q⟩=>?_) ht;subst ex;obtain rfl:u=Value.ref a:=rx;refine QI J ea c hm l ?_;refine qH (first:=[.ref a]) (h₀:=X.base) I.ok.mod.kin hm.kp (thn (ha pos pins s1 σ H1 _ J q) λus s2 ⟨vs,H2,z,r,q2⟩=>⟨z.kIn,?_⟩) O Y;exact UT (us:=.ref a::us) (vs:=.ref a::vs) F hr hb hd hx z (.cons rfl r) q2
structure Mk(K:pP)(C f:ge):Prop where
 makes:qt K C=true
 init:qk K (.ref C) "__init__" = some (some (.ref f))
 fn:qo K (.ref f)=true
 kp:qy K (.ref C)=true
theorem XM(M:Mk X.K C f)(F:HV X.prog X.w X.K X.mg X.base CX k f fd ps sp)(hr:Jw (k+1) X.A)(hb:Js X.K fd ps ds)(hd:Ip dvs ds)
 (hx:Lf CX X E) (I:Inv X pins σ H s) (r:Ip vs us)
 (h:∀x dx,H x=none->H dx=none->dx≠x->sp (.ref x::(vs++dvs)) (upd (upd H dx (.own x)) x (.ins C dx [])) (λv H2=>v = .non/\Q (.ref x) H2) E) :
 na (pi X.prog X.w) X.A (call (.ref C) us) (EP X pins σ Q) X.xe s:=by
 have O:=h (s.heap.objs.size+1) s.heap.objs.size (I.hok.fresh (Nat.le_succ _)) (I.hok.fresh (qd _)) (pJ (qA _));have W:=Inv.made (C:=C) I;have r2:Ip (V.ref (s.heap.objs.size+1)::(vs++dvs)) (Value.ref (s.heap.objs.size+1)::(us++ds)):=.cons rfl (r.append hd)
 have hl:(Value.ref (s.heap.objs.size+1)::us++ds).length=ps.length:=by
  have e:=r2.length;rw[F.len _ _ _ _ O]at e;exact e.symm
 refine wpAny_call (Yw (f:=f) I.kIn M.makes M.init (beq_iff_eq.mp M.fn) (vx (F.run _ X.stack _ _ ⟨Value.ref (s.heap.objs.size+1)::us,[]⟩ (Value.ref (s.heap.objs.size+1)::(us++ds)) _ _ E (hr.make C us [])
  (W.env0.make C us []) (hb _ (Value.ref (s.heap.objs.size+1)::us) W.kIn hl) r2 O) λr s' Y=>?_))
 cases r with
 | error e=>exact hx pins σ _ _ e s' W Y
 | ok fl =>
   cases fl with
   | ret u =>
     obtain⟨v,H',I3,z,ev,J⟩:=W.after Y;subst ev;exact⟨z,⟨V.ref (s.heap.objs.size+1),H',I3,Z,J⟩⟩
   | next=>exact False.elim Y
   | brk=>exact False.elim Y
   | cont=>exact False.elim Y
theorem ZH(M:Mk X.K C f)(F:HV X.prog X.w X.K X.mg X.base CX k f fd ps sp)(hr:Jw (k+1) X.A)(hg:Gl X x)(hm:X.mg x=some (.ref C))(hb:Js X.K fd ps ds)(hd:Ip dvs ds)(hx:Lf CX X E)
 (J:PA X (e::es) t) (W:(x == ("__debug__" : Str))=false:=by decide) (z:lm (e::es) X.env=(false,tz e X.env)::lm es X.env:=by rfl) (Y:(ut pos (lm es X.env)).any (·.1)=false:=by rfl) :
 PE X (.Call (.Name x p) (e::es) [] pos) (fF C sp dvs E t):=by
 intro pins s σ H Q I h;refine vC (NV I hg hm ?_ W);refine qH (h₀:=X.base) I.ok.mod.kin M.kp (thn (J pos pins s σ H _ I h) λus s1 ⟨vs,H1,O,r,q⟩=>⟨O.kIn,?_⟩) z Y;exact XM M F hr hb hd hx O r q
end
section
variable {X:Cx}{CX:CXT}{k:Nat}{f C:ge}{fd:jp}{ps ks:List Str}{sp:Sp}{E:XK}{x m:Str}{p pos apos kpos:Pos}{e o:Expr}{es:List Expr}{kws:List vS}{te ta:TE}{t tk:TA}{nm:Option Str}
structure kj(K:pP)(fd:jp)(ps ks:List Str)(g:List gl->List gl->List gl)(gV:List V->List V->List V):Prop where
 to:∀(s:im) (us ws:List gl),K.In s.heap->(g us ws).length=ps.length->BindsTo s fd ⟨us,ks.zip ws⟩ (ps.zip (g us ws))
 rel:∀{vs:List V} {us:List gl} {zs:List V} {ws:List gl},Ip vs us->Ip zs ws->Ip (gV vs zs) (g us ws)
variable {g:List gl->List gl->List gl}{gV:List V->List V->List V}
end
structure HJ(N P:List Str)(sc:vi):Prop where
 kind:sc.kind = .function
 co:sc.isCoroutine=false
 gen:sc.isGenerator=false
 nd:N.Nodup
 pre:N.take P.length=P
 par:∀x∈P,sc.names.lookup x=some .local\/sc.names.lookup x=some .cell
 nofree:∀y∈sc.names,y.2 ≠ .free
theorem RX:∀{Y:List (Str×gl)} {m:Str->Option gl},(∀v,(x,v)∉Y)->bindL W Y m x=m x
 | [],_,_=>rfl
 | (n,v)::r,m,h=>by
   unfold bindL;rw[RX λw hw=>h w (pU _ hw)]
   split
   ·have:x≠n:=by rintro rfl;exact h v pT
    simp[this]
   ·rfl
theorem RZ:∀{Y:List (Str×gl)} {m:Str->Option gl},(∀v,(x,v)∉Y)->bindC W Y m x=m x
 | [],_,_=>rfl
 | (n,v)::r,m,h=>by
   unfold bindC;rw[RZ λw hw=>h w (pU _ hw)]
   split
   ·rfl
   ·have:x≠n:=by rintro rfl;exact h v pT
    simp[this]
theorem RY{kindOf:Str->Option vX}{x:Str}{v:gl}:∀{P:List Str} {vs:List gl} {i:Nat} {m:Str->Option gl},P.Nodup->P[i]? = some x->vs[i]? = some v->kindOf x=some .local ->
 bindL kindOf (P.zip vs) m x=some v
 | [],_,_,_,_,h,_,_=>by simp at h
 | _::_,[],_,_,_,_,h,_=>by simp at h
 | p::P,w::vs,0,m,nd,h1,h2,hk=>by
   simp at h1 h2;subst h1;subst h2;show bindL kindOf ((p,w)::P.zip vs) m p=_;unfold bindL;rw[RX λv hv=>(qI.mp nd).1 (qJ hv).1,if_pos hk];simp
 | p::P,w::vs,i+1,m,nd,h1,h2,hk=>by
   show bindL kindOf ((p,w)::P.zip vs) m x=_;unfold bindL;exact RY (i:=i) (qI.mp nd).2 (by simpa using h1) (by simpa using h2) hk
theorem S0{kindOf:Str->Option vX}{x:Str}{v:gl}:∀{P:List Str} {vs:List gl} {i:Nat} {m:Str->Option gl},P.Nodup->P[i]? = some x->vs[i]? = some v->kindOf x≠some .local ->
 bindC kindOf (P.zip vs) m x=some v
 | [],_,_,_,_,h,_,_=>by simp at h
 | _::_,[],_,_,_,_,h,_=>by simp at h
 | p::P,w::vs,0,m,nd,h1,h2,hk=>by
   simp at h1 h2;subst h1;subst h2;show bindC kindOf ((p,w)::P.zip vs) m p=_;unfold bindC;rw[RZ λv hv=>(qI.mp nd).1 (qJ hv).1,if_neg hk];simp
 | p::P,w::vs,i+1,m,nd,h1,h2,hk=>by
   show bindC kindOf ((p,w)::P.zip vs) m x=_;unfold bindC;exact S0 (i:=i) (qI.mp nd).2 (by simpa using h1) (by simpa using h2) hk
def N4(N:List Str)(vs:List V):St:=vs.map some++qK (N.length-vs.length) none
def O4(CX:CXT)(P:mo)(w:rc)(K:pP)(mg:Str->Option gl)(base:rf)(N:List Str)(qual:Str)(scope:vi)(f:ge)(cd:gl)(A:sB)(outer:List Env)(s:im)(H:Hp)(E:XK):Cx where
 prog:=P
 w:=w
 K:=K
 mg:=mg
 base:=base
 A:=A.deeper (envOfC qual scope s.heap.objs.size f cd)
 N:=N
 s₀:=s
 H₀:=H
 env:=envOfC qual scope s.heap.objs.size f cd
 outer:=outer
 stack:=envOfC qual scope s.heap.objs.size f cd::outer
 ex:=[]
 calm:=true
 fn:=λ_=>true
 pn:=[]
 xe:=λe s'=>na (pi P w) (A.deeper (envOfC qual scope s.heap.objs.size f cd)) (leaving (envOfC qual scope s.heap.objs.size f cd) e) (λ_ s''=>CX outer H s E e s'') (λe' s''=>CX outer H s E e' s'') s'
theorem Uw{sc:vi}{n:Nat}{x:Str}(h:sc.names.lookup x=some .cell):∃c,(cellsFrom n sc.names []).lookup x=some c:=by
 have q:=PySem.W.cellsFrom_some sc.names n [] (.inl h);exact qL.mp q
theorem WZ{P:mo}{w:rc}{K:pP}{mg:Str->Option gl}{base:rf}{N ps:List Str}{qual:Str}{scope:vi}{f:ge}{cd:gl}{A:sB}{outer:List Env}{s s1:im}{H:Hp}{E:XK}{us:List gl}{vs:List V}
 (S:HJ N ps scope) (hd:A.handled=none) (Y:UB P w K mg base A outer s H) (hl:vs.length=ps.length) (r:Ip vs us)
 (x:InCallC s s.heap.objs.size (bindL (envOfC qual scope s.heap.objs.size f cd).kindOf (ps.zip us) λ_=>none) (cellsFrom (s.heap.objs.size+1) scope.names []) (bindC (envOfC qual scope s.heap.objs.size f cd).kindOf (ps.zip us) λ_=>none) s1) :
 Inv (O4 CX P w K mg base N qual scope f cd A outer s H E) [] (N4 N vs) H s1:=by
 have ac:ps.length<=N.length:=by have:=congrArg qM S.pre;rw[qN]at this;lia
 obtain⟨h1,tk,rfl,hk⟩:=x.done;have W:∀b:ge,b∉(O4 CX P w K mg base N qual scope f cd A outer s H E).ex:=λb z=>absurd (show b∈([]:List ge) from z) (by simp)
 refine⟨⟨Y.mod,S.kind,Z,Z,qd _,λy z c h1 h2=>?_,λy O=>?_,λy c _ h=>?_,λ_=>hd,Around.frames_deeper Y.frames,.inr ⟨Z,Z⟩,λb z=>absurd z (W b),Y.bs,Y.bsz,λb _ _=>W b,λb z=>absurd z (W b),Y.funs,Y.frf⟩,
  rfl,Y.bare,Un.kept hk,⟨_,x.toInCall.ns,λi y v h1 h2 h3=>?_⟩,λy c h=>⟨_,x.cell y c h⟩,Y.hok.fresh (qd _),λy c h=>?_,λp J=>absurd (show p∈([]:List (ge×Obj)) from J) (by simp),Y.hok.kept hk,?_⟩
 ·exact name_of_addr x.apart (PySem.mem_of_lookup h1) (PySem.mem_of_lookup h2)
 ·have O:scope.names.lookup y=some .cell\/scope.names.lookup y=some .free:=O
  rcases O with O | O
  ·exact Uw O
  ·exact absurd rfl (S.nofree _ (PySem.mem_of_lookup O))
 ·exact pR (x.above y c (PySem.mem_of_lookup h))
 ·have hi:i<vs.length:=by
   unfold N4 at h2;by_cases hi:i<vs.length
   ·exact hi
   ·rw[qO (by simpa using hi)]at h2
    rw[qP]at h2
    split at h2<;>cases h2
  have ha:vs[i]? = some v:=by
   unfold N4 at h2;rw[qQ (by simpa using hi),qR]at h2
   cases e:vs[i]? with
   | none=>rw[e]at h2;cases h2
   | some a=>rw[e]at h2;cases h2;rfl
  obtain⟨u,hu,rv⟩:=r.get ha
  have J:ps[i]? = some y:=by
   rw[<- S.pre,qS Yl];exact h1
  have aa:ps.Nodup:=by rw[<- S.pre];exact S.nd.sublist (qT _ _)
  refine⟨u,rv,?_⟩
  rcases S.par y (qU J) with k | k
  ·exact .inl ⟨k,RY aa J hu k⟩
  ·obtain⟨c,e⟩:=Uw (n:=s.heap.objs.size+1) k;refine .inr ⟨.inl k,c,e,?_⟩;have q:=x.cell y c e;rw[S0 aa J hu (by show scope.names.lookup y≠_;rw[k];decide)]at q
   exact q
 ·exact Y.hok.fresh (pR (x.above y c (PySem.mem_of_lookup h)))
 ·unfold N4;show _=N.length;rw[qV,qz,qW]
  lia
theorem fZ{P:mo}{w:rc}{K:pP}{mg:Str->Option gl}{base:rf}{k:Nat}{f:ge}{name qual:Str}{O:Arguments}{z:List vv}{scope:vi}{dV kV ae pm Y ct oc:gl}{an od:Option ge}
 {aj:Array (Option gl)} {N ps:List Str} {sp:Sp} (lk:K.lookup f=some ⟨oc,od,.func (qX name qual O z scope dV kV ae pm an Y ct),aj⟩) (ai:qY K Y qual=true) (S:HJ N ps scope)
 (ah:∀vs H Q E,sp vs H Q E->vs.length=ps.length)
 (ad:∀(A:sB) (outer:List Env) (s:im) (H:Hp) (vs:List V) (Q:VK) (E:XK),Jw k (A.deeper (envOfC qual scope s.heap.objs.size f Y))->sp vs H Q E ->
  ∃t,PSs (O4 CX P w K mg base N qual scope f Y A outer s H E) z t/\t { nx:=λ_ H'=>Q .non H',rt:=Q } (N4 N vs) H) :
 HV P w K mg base CX (k+1) f (qX name qual O z scope dV kV ae pm an Y ct) ps sp:=by
 refine⟨ah,λA outer s H args us vs Q E hr e0 hb r ag=>?_⟩;have hl:=ah _ _ _ _ ag;have KX:K.In s.heap:=e0.mod.kin.keeps λb o e=>(e0.bs b o e).1;have ak:s.heap.NoLimit:=e0.mod.nolimit.keeps λb o e=>(e0.bs b o e).1
 have ac:∀y∈ps.zip us,scope.names.lookup y.1=some .local\/(scope.names.lookup y.1=some .cell/\((cellsFrom (s.heap.objs.size+1) scope.names []).lookup y.1).isSome=true):=fun⟨n,v⟩ hy=>by
  rcases S.par n (qJ hy).1 with q | q
  ·exact .inl q
  ·exact .inr ⟨q,PySem.W.cellsFrom_some _ _ _ (.inl q)⟩
 refine codeAny_call_function hr.depth (KX _ _ lk) rfl S.co S.gen rfl (PySem.W.codeRec_of KX ai) (hb _ _ _ _ ?_);refine wpAny_newFunctionEnv_cells S.kind ac λenv he s1 x=>?_;subst he;refine⟨ak.keeps x.toInCall.keep,codeAny_func ?_⟩;obtain⟨t,ht,hq⟩:=ad A outer s H vs Q E (hr.deeper _) ag;have I:Inv (O4 CX P w K mg base N qual scope f Y A outer s H E) [] (N4 N vs) H s1:=WZ S hr.hd e0 hl r x;refine u8 (ht [] s1 (N4 N vs) H _ I hq) (λfl s' hs=>?_) λe s' hs=>hs
 have af:∀{aa:St} {H':Hp} {v:V} {u:gl},Inv (O4 CX P w K mg base N qual scope f Y A outer s H E) [] aa H' s'->Iw v u->Q v H'->CE outer P w H s Q u s' :=
  fun{aa H' v u} J rv q=>⟨v,H',J.os,J.bare,J.base,J.hok,rv,q⟩
 cases fl with
 | ret u =>
   obtain⟨v,aa,H',J,rv,q⟩:=hs;exact af J rv q
 | next =>
   obtain⟨aa,H',J,q⟩:=hs;exact af (v:=V.non) (u:=Value.none) J rfl q
 | brk =>
   obtain⟨_,_,_,q⟩:=hs;exact False.elim q
 | cont =>
   obtain⟨_,_,_,q⟩:=hs;exact False.elim q
section
variable {X:Cx}{x:Str}{p pos:Pos}{e:Expr}{es:List Expr}{t:TA}{id T:String}{r:List V->Hp->VK->Prop}
def tCB(r:List V->Hp->VK->Prop)(t:TA):TE:=λσ H Q=>t σ H λvs H1=>r vs H1 Q
theorem ID(z:Kb X (.builtin id) r)(hg:Gl X x)(hm:X.mg x=none)(hv:tD x=some (.builtin id))(ha:PA X (e::es) t)(hn:x ≠ "__name__":=by decide)(Y:(x == ("__debug__" : Str))=false:=by decide)
 (he:lm (e::es) X.env=(false,tz e X.env)::lm es X.env:=by rfl) (W:(ut pos (lm es X.env)).any (·.1)=false:=by rfl):PE X (.Call (.Name x p) (e::es) [] pos) (tCB r t):=by
 intro pins s σ H Q I h;refine vC (Mb I hg hm hv ?_ hn Y);exact PyProof.Rows.callWith_builtin1 (thn (ha pos pins s σ H _ I h) λus O ⟨vs,H1,J,r1,q1⟩=>z pins O σ H1 vs us Q J r1 q1) he W
theorem Ij(z:Kb X (.type T) r)(hg:Gl X x)(hm:X.mg x=none)(hv:tD x=some (.type T))(ha:PA X (e::es) t)(hn:x ≠ "__name__":=by decide)(Y:(x == ("__debug__" : Str))=false:=by decide)
 (he:lm (e::es) X.env=(false,tz e X.env)::lm es X.env:=by rfl) (W:(ut pos (lm es X.env)).any (·.1)=false:=by rfl):PE X (.Call (.Name x p) (e::es) [] pos) (tCB r t):=by
 intro pins s σ H Q I h;refine vC (Mb I hg hm hv ?_ hn Y);exact PyProof.Rows.callWith_type1 (thn (ha pos pins s σ H _ I h) λus O ⟨vs,H1,J,r1,q1⟩=>z pins O σ H1 vs us Q J r1 q1) he W
end
end L2
namespace HT
open PySem PyProof.Rows
section
open PySem.SeqAt
open PySem.AutoSeq1 (wpAny_loadPart')
open PySem.MeetsSeq PySem.MeetsSeq2 PySem.MeetsSeq3
end
section
variable {prog:mo}{w:rc}{A:sB}{E:gl->im->Prop}{s:im}
theorem cat_tup(ht:IsTup s.heap t vs.toArray)(hb:IsTup s.heap b Y.toArray)(hv:vs≠[])
 (h1:Y=[]->Q (.ref t) s) (h2:Y≠[]->Q (.ref s.heap.objs.size) { s with heap:=s.heap.push { cls:=.type "tuple",data:=.seq (vs++Y).toArray } })
 (hsz:vs.length+Y.length<=io):na (pi prog w) A (vm .Add (.ref t) (.ref b)) Q E s:=by
 obtain⟨⟨cls,dd,data,sl⟩,ho,hc,n,hd⟩:=id ht;obtain⟨⟨ad,O,ac,z⟩,W,J,n2,aa⟩:=id hb;simp only at hc hd J aa;subst hc hd J aa;have e:vs.toArray++Y.toArray=(vs++Y).toArray:=by simp
 by_cases hw:Y=[]
 ·exact concat_meets ⟨_,ho,Z⟩ ⟨_,W,Z⟩ noFill_tuple_add seq_tuple_add PySem.F.slot_tuple_add PySem.F.entry_tuple_add (PySem.F.args_tuple_add_2 _ _)
   (tuple_addW1 t b vs.toArray Y.toArray n n2 dd O sl z (by simpa using hv) (by simp[hw])) ⟨ho,W,h1 hw⟩
 ·refine concat_meets ⟨_,ho,Z⟩ ⟨_,W,Z⟩ noFill_tuple_add seq_tuple_add PySem.F.slot_tuple_add PySem.F.entry_tuple_add (PySem.F.args_tuple_add_2 _ _)
   (tuple_addW2 t b vs.toArray Y.toArray n n2 dd O sl z (by simpa using hv) (by simpa using hw) (by rw[qZ,qZ];exact hsz)) ⟨ho,W,?_⟩
  rw[e];exact h2 hw
def sIx(n d:Nat):Option Int->Nat
 | none=>d
 | some v=>if v<0 then (v+(n:Int)).toNat else min v.toNat n
theorem sIx_nat(n d k:Nat):sIx n d (some (k:Int))=min k n:=by
 show(if (k:Int)<0 then ((k:Int)+(n:Int)).toNat else min (k:Int).toNat n)=min k n;rw[if_neg Yl,rg]
theorem sIx_le(n d:Nat)(hd:d<=n)(o:Option Int):sIx n d o<=n:=by
 cases o with
 | none=>exact hd
 | some v =>
   show(if v<0 then (v+(n:Int)).toNat else min v.toNat n)<=n;by_cases hv:v<0
   ·rw[if_pos hv];lia
   ·rw[if_neg hv];exact rh _ _
theorem clip_eq(v:Int)(n d:Nat):(if v<0 then max (v+(n:Int)) 0 else min v (n:Int))=((sIx n d (some v):Nat):Int):=by
 show(if v<0 then max (v+(n:Int)) 0 else min v (n:Int))=(((if v<0 then (v+(n:Int)).toNat else min v.toNat n):Nat):Int);by_cases hv:v<0
 ·rw[if_pos hv,if_pos hv,Int.toNat_eq_max]
 ·rw[if_neg hv,if_neg hv];obtain⟨k,rfl⟩:=rj (Int.not_lt.mp hv);rw[rg]
  rcases Nat.le_total k n with h | h
  ·rw[rm h,Int.min_eq_left (Int.ofNat_le.mpr h)]
  ·rw[rp h,Int.min_eq_right (Int.ofNat_le.mpr h)]
theorem adjust_gen(lo hi:Option Int)(n:Nat):Builtin.Slice.sliceAdjust lo hi 1 (n:Int)=(((sIx n 0 lo:Nat):Int),((sIx n n hi:Nat):Int)):=by
 have h1:¬((1:Int)<0):=by lia
 unfold Builtin.Slice.sliceAdjust;simp only[h1,if_false];refine Prod.ext ?_ ?_
 ·cases lo with
  | none=>rfl
  | some v=>exact clip_eq v n 0
 ·cases hi with
  | none=>rfl
  | some v=>exact clip_eq v n n
theorem places_gen(i j:Nat):Builtin.Slice.slicePlaces (i:Int) (j:Int) 1=j-i:=by
 unfold Builtin.Slice.slicePlaces;have h1:(1:Int) > 0:=by lia
 simp only[h1,if_true,Int.ediv_one]
 split<;>lia
theorem slicePart_(p:IsPart v o)(h:Q o s):na (pi prog w) A (Builtin.Slice.slicePartIndex v) Q E s:=by
 cases p with
 | none=>exact slicePart_none h
 | int i t=>exact slicePart_int h
theorem sliceApplied_gen{vl O:gl}{lo hi:Option Int}{n:Nat}{Q:Int×Int×Nat->im->Prop}(z:s.heap.IsSliceOf J vl O .none)(pl:IsPart vl lo)(pu:IsPart O hi)
 (h:Q (((sIx n 0 lo:Nat):Int),1,sIx n n hi-sIx n 0 lo) s):na (pi prog w) A (Builtin.Slice.sliceApplied (.ref J) (pure (n:Int))) Q E s:=by
 obtain⟨os,W,aa,Y⟩:=id z;unfold Builtin.Slice.sliceApplied Builtin.Slice.sliceFields;refine ii (ii (vh W Y (x:=vl) rfl (ii (vh W Y (x:=O) rfl (ii (vh W Y (x:=.none) rfl (li ?_)))))));refine ii (slicePart_none ?_);show na _ _ (if ((1:Int) == 0)=true then _ else _) _ _ s;rw[if_neg Yd];refine ii (slicePart_ pl (ii (slicePart_ pu (ii (li ?_)))));show na _ _ (match Builtin.Slice.sliceAdjust lo hi 1 (n:Int) with | (lo,hi)=>pure (lo,(1:Int),Builtin.Slice.slicePlaces lo hi 1)) _ _ s
 rw[adjust_gen lo hi n];show na _ _ (pure (((sIx n 0 lo:Nat):Int),(1:Int),Builtin.Slice.slicePlaces ((sIx n 0 lo:Nat):Int) ((sIx n n hi:Nat):Int) 1)) _ _ s;rw[places_gen];exact li h
theorem pick_gen(xs:Array gl)(i k:Nat):((pK k).filterMap fun(m:Nat)=>xs[((i:Int)+(m:Int)*1).toNat]?).toArray=((xs.toList.drop i).take k).toArray:=by
 have e:(fun(m:Nat)=>xs[((i:Int)+(m:Int)*1).toNat]?)=λm=>xs[i+m]?:=by
  funext m
  have:((i:Int)+(m:Int)*1).toNat=i+m:=by lia
  rw[this]
 rw[e];have:=pick_run xs i k;rw[List.filterMap_map]at this;have Y:((λx=>xs[x]?) ∘ λx=>i+x)=λm=>xs[i+m]?:=rfl;rw[Y]at this;rw[this]
theorem getItem_tuple_cut{t sl:ge}{items:Array gl}{vl vu:gl}{lo hi:Option Int}{Q:gl->im->Prop}(W:IsTup s.heap t items)(hs:s.heap.IsSliceOf sl vl vu .none)(pl:IsPart vl lo)(pu:IsPart vu hi)
 (hw:¬(sIx items.size 0 lo=0/\sIx items.size items.size hi=items.size))
 (h:Q (.ref s.heap.objs.size) { s with heap:=s.heap.push { cls:=.type "tuple",data:=.seq ((items.toList.drop (sIx items.size 0 lo)).take (sIx items.size items.size hi-sIx items.size 0 lo)).toArray } })
 (hsz:items.size<=io):na (pi prog w) A (vL (.ref t) (.ref sl)) Q E s:=by
 have Y:sizeOk (.seq ((items.toList.drop (sIx items.size 0 lo)).take (sIx items.size items.size hi-sIx items.size 0 lo)).toArray):=by
  show((items.toList.drop (sIx items.size 0 lo)).take (sIx items.size items.size hi-sIx items.size 0 lo)).toArray.size<=io;rw[qZ,qN,rq,qb];exact pQ (pQ (rh _ _) (rA _ _)) hsz
 have hj:sIx items.size items.size hi<=items.size:=sIx_le _ _ (qd _) hi;obtain⟨os,aa,J,ac⟩:=id hs;have z:s.TypeIs (.ref sl) "slice":=⟨os,aa,J⟩;unfold vL
 try with_reducible refine vj ?_
 first | refine ii (li ?_) | skip
 refine ii (wpAny_sequenceKey W.typeIs Yd ?_)
 refine ii (vt (name:=Str.ofString "__getitem__") W.typeIs PyProof.Rows.slot_tuple_getitem
  (vJ PyProof.Rows.slot_tuple_getitem W.typeIs entry_tuple_getitem ?_ (args_tuple_getitem _ _)))
 show na _ _ (Builtin.Tuple.tupleItemsOf (.ref t) >>= _) _ _ s;refine ii (tupleItemsOf_ W ?_);refine ii (vY z ?_);rw[if_pos Yd];refine ii (sliceApplied_gen hs pl pu ?_)
 have O:¬((((sIx items.size 0 lo:Nat):Int) == 0&&(1:Int) == 1&&(sIx items.size items.size hi-sIx items.size 0 lo) == items.size)=true):=by
  intro q;rw[Bool.and_eq_true,Bool.and_eq_true]at q;have q1:((sIx items.size 0 lo:Nat):Int)=0:=eq_of_beq q.1.1;have q2:sIx items.size items.size hi-sIx items.size 0 lo=items.size:=eq_of_beq q.2;exact hw ⟨Yl,Yl⟩
 show na _ _ (if (((sIx items.size 0 lo:Nat):Int) == 0&&(1:Int) == 1&&(sIx items.size items.size hi-sIx items.size 0 lo) == items.size)=true then _ else _) _ _ s;rw[if_neg O,pick_gen]
 first
  | exact ii (m:=Builtin.Tuple.tupleExact _) (vf (li ⟨_,Z,li h⟩) Y)
  | exact ii (m:=Builtin.Tuple.tupleExact _) (vf (ii (li (li ⟨_,Z,li h⟩))) Y)
  | exact ii (ii (m:=Builtin.Tuple.tupleExact _) (vf (li (li ⟨_,Z,li h⟩)) Y))
  | exact ii (ii (m:=Builtin.Tuple.tupleExact _) (vf (li ⟨_,Z,li h⟩) Y))
end
end HT
namespace L2
open PySem PySem.Spec PyProof.Rows
abbrev TO:=St->Hp->(Option Int->Hp->Prop)->Prop
def PO(X:Cx)(e:Option Expr)(t:TO):Prop :=
 ∀ (pins:List (ge×Obj)) (s:im) (σ:St) (H:Hp) (Q:Option Int->Hp->Prop),Inv X pins σ H s->t σ H Q ->
   na (pi X.prog X.w) X.A (evalPart e X.env) (λu s'=>∃o H',Inv X pins σ H' s'/\IsPart u o/\Q o H') X.xe s
def Zp:TO:=λ_ H Q=>Q none H
def iU(t:TE):TO:=λσ H Q=>t σ H λx H1=>∃i,x = .int i/\Q (some i) H1
section
variable {X:Cx}{e:Expr}{te:TE}{lo hi:Option Expr}{tl th:TO}{pos p2:Pos}
theorem IS:PO X none Zp:=by
 intro pins s σ H Q I h;rw[evalPart_none];exact li ⟨none,H,I,.none,h⟩
theorem IW(h:PE X e te):PO X (some e) (iU te):=by
 intro pins s σ H Q I hw;rw[evalPart_some];refine thn (h pins s σ H _ I hw) λu O ⟨x,H1,Y,r1,W⟩=>?_;obtain⟨i,rfl,q⟩:=W;obtain⟨t,rfl⟩:=r1;exact⟨some i,H1,Y,.int i t,q⟩
def SlR(X:Cx)(r:V->Option Int->Option Int->Hp->VK->Prop):Prop :=
 ∀ (pins:List (ge×Obj)) (s:im) (σ:St) (H:Hp) (x:V) (v vl vu:gl) (lo hi:Option Int) (sl:ge) (Q:VK),Inv X pins σ H s->Iw x v->s.heap.IsSliceOf sl vl vu .none->IsPart vl lo->IsPart vu hi->r x lo hi H Q ->
   ∃T id,vZ (.type T) "__getitem__" = pure (some (.builtin id))/\s.TypeIs v T/\na (pi X.prog X.w) X.A (vL v (.ref sl)) (EP X pins σ Q) X.xe s
theorem SlR.or(h:SlR X r)(h':SlR X z):SlR X (λx lo hi H Q=>r x lo hi H Q\/z x lo hi H Q):=by
 intro pins s σ H x v vl W lo hi J Q I O Y pl pu q
 rcases q with q | q
 ·exact h pins s σ H x v vl W lo hi J Q I O Y pl pu q
 ·exact h' pins s σ H x v vl W lo hi J Q I O Y pl pu q
def tSl(r:V->Option Int->Option Int->Hp->VK->Prop)(te:TE)(tl th:TO):TE:=λσ H Q=>te σ H λx H1=>tl σ H1 λl H2=>th σ H2 λu H3=>r x l u H3 Q
theorem IM(hr:SlR X r)(he:PE X e te)(hl:PO X lo tl)(hu:PO X hi th):PE X (.Subscript e (.Slice lo hi none p2) pos) (tSl r te tl th):=by
 intro pins s σ H Q I h;refine Subscript_ (thn (he pins s σ H _ I h) λv J ⟨x,H1,z,r1,q1⟩=>?_);refine wpAny_Slice (thn (hl pins J σ H1 _ z q1) λvl s2 ⟨l,H2,I2,pl,q2⟩=>thn (hu pins s2 σ H2 _ I2 q2) λvu Y ⟨u,W,I3,pu,q3⟩=>?_);rw[evalPart_none];refine li ?_;have I4:Inv X pins σ W { Y with heap:=Y.heap.push { cls:=.type "slice",data:=.fields #[vl,vu,.none] } }:=I3.kept (t':=Y.toks) λb ob q=>Heap.get?_push_of_some _ q
 obtain⟨T,id,hT,ht,O⟩:=hr pins { Y with heap:=Y.heap.push { cls:=.type "slice",data:=.fields #[vl,vu,.none] } } σ W x v vl vu l u Y.heap.objs.size Q I4 r1 (Heap.IsSliceOf.new ..) pl pu q3
 show na (pi X.prog X.w) X.A (subscriptTail e (.Slice lo hi none p2) v (.ref Y.heap.objs.size)) (EP X pins σ Q) X.xe { Y with heap:=Y.heap.push { cls:=.type "slice",data:=.fields #[vl,vu,.none] } }
 exact tail_any (ops:=[.ref Y.heap.objs.size,v]) ht hT O (by with_unfolding_all rfl)
def Mf(xs:List V)(lo hi:Option Int):List V:=(xs.drop (HT.sIx xs.length 0 lo)).take (HT.sIx xs.length xs.length hi-HT.sIx xs.length 0 lo)
theorem Pa(xs:List V)(lo hi:Option Int):(Mf xs lo hi).length<=xs.length:=by
 unfold Mf;rw[qN,rq];exact pQ (rh _ _) (rA _ _)
inductive gD(K:pP)(x:V)(lo:Option Int)(hi:Option Int)(H:Hp)(Q:VK):Prop
 | mk(a:_)(xs:_)(_:x = .ref a)(_:SqT K H a xs)(_:¬(HT.sIx xs.length 0 lo=0/\HT.sIx xs.length xs.length hi=xs.length))(_:∀p,H p=none->Q (.ref p) (upd H p (.tup (Mf xs lo hi))))
theorem gx:SlR X (gD X.K):=by
 intro pins s σ H x v vl vu lo hi sl Q I rx hs pl z h;obtain⟨a,xs,rfl,hx,hw,q⟩:=h;cases rx;obtain⟨W,r,O,J⟩:=I.tuple hx;have Y:W.toArray.size=xs.length:=by rw[qZ];exact r.length.symm
 refine⟨"tuple",_,PyProof.Rows.slot_tuple_getitem.lookup,O.typeIs,?_⟩;refine HT.getItem_tuple_cut O hs pl z (by rw[Y];exact hw) ?_ (by rw[Y];exact J)
 rw[Y];refine⟨.ref s.heap.objs.size,_,I.laid (t':=s.toks) (o:=.tup (Mf xs lo hi)) (λb ob q=>Heap.get?_push_of_some _ q) (qd _) ?_,Z,q _ (I.hok.fresh (qd _))⟩;exact⟨pQ (Pa xs lo hi) J,_,(r.drop (HT.sIx xs.length 0 lo)).take (HT.sIx xs.length xs.length hi-HT.sIx xs.length 0 lo),IsTup.new _ _⟩
inductive VN(K:pP)(x:V)(y:V)(H:Hp)(Q:VK):Prop
 | mk(a:_)(b:_)(xs:_)(ys:_)(_:x = .ref a)(_:y = .ref b)(_:SqT K H a xs)(_:SqT K H b ys)(_:xs≠[])(_:xs.length+ys.length<=io)(_:(ys=[]->Q (.ref a) H))(_:(ys≠[]->∀p,H p=none->Q (.ref p) (upd H p (.tup (xs++ys)))))
theorem Ip.nil_iff(r:Ip xs us):us=[]↔xs=[]:=by
 cases r with
 | nil=>simp
 | cons _ _=>simp
theorem VX:OpR X (vm .Add) (VN X.K):=by
 intro pins s σ H x y v u Q I O ry h;obtain⟨a,b,xs,ys,rfl,rfl,ha,hb,hx,W,q1,q2⟩:=h;cases O;cases ry;obtain⟨aa,r1,J,_⟩:=I.tuple ha;obtain⟨Y,r2,p2,_⟩:=I.tuple hb;refine HT.cat_tup J p2 (λz=>hx (r1.nil_iff.mp z)) (λz=>⟨.ref a,H,I,Z,q1 (r2.nil_iff.mp z)⟩) (λz=>?_) (by rw[<- r1.length,<- r2.length];exact W)
 refine⟨.ref s.heap.objs.size,_,I.laid (t':=s.toks) (o:=.tup (xs++ys)) (λb ob q=>Heap.get?_push_of_some _ q) (qd _) ?_,Z,q2 (λw=>z (r2.nil_iff.mpr w)) _ (I.hok.fresh (qd _))⟩;exact⟨by rw[qV];exact W,_,r1.append r2,IsTup.new _ _⟩
end
def ixN(n:Nat)(i:Int):Option Nat:=if 0<=i then (if i<n then some i.toNat else none) else if -(n:Int)<=i then some (i+n).toNat else none
def atI{α:Type}(xs:List α)(i:Int):Option α:=(ixN xs.length i).bind λj=>xs[j]?
theorem W8(h:ixN n i=some j):seqIndex? i n=some j/\j<n /\ -(n:Int)<=i/\i<n:=by
 unfold ixN at h;by_cases h0:0<=i
 ·rw[if_pos h0]at h;by_cases h1:i<n
  ·rw[if_pos h1]at h;have e:i.toNat=j:=pC.inj h;exact⟨by rw[seqIndex_of h0 h1,e],Yl,Yl,h1⟩
  ·rw[if_neg h1]at h;cases h
 ·rw[if_neg h0]at h;by_cases h1 : -(n:Int)<=i
  ·rw[if_pos h1]at h;have e:(i+n).toNat=j:=pC.inj h;exact⟨by rw[seqIndex_neg Yl h1,e],Yl,h1,Yl⟩
  ·rw[if_neg h1]at h;cases h
theorem Tg(h:atI xs i=some v):∃j,seqIndex? i xs.length=some j/\xs[j]? = some v/\j<xs.length /\ -(xs.length:Int)<=i/\i<xs.length:=by
 unfold atI at h;cases e:ixN xs.length i with
 | none=>rw[e]at h;cases h
 | some j =>
   rw[e]at h;obtain⟨h1,h2,O,W⟩:=W8 e;exact⟨j,h1,h,h2,O,W⟩
theorem HQ{Y:Type}{xs:List Y}{j:Nat}{v:Y}(h:xs[j]? = some v):atI xs (j:Int)=some v:=by
 have W:j<xs.length:=(pY.mp h).1
 have e:ixN xs.length (j:Int)=some j:=by
  unfold ixN;rw[if_pos Yl,if_pos Yl];simp
 unfold atI;rw[e];exact h
def Wo(b:Expr):Prop:=∀o i,subscripted b false o i=operate [o,i] (vL o i)
def IxR(X:Cx)(r:R2):Prop :=
 ∀ (value slice:Expr) (pins:List (ge×Obj)) (s:im) (σ:St) (H:Hp) (x y:V) (v u:gl) (Q:VK),Inv X pins σ H s->Iw x v->Iw y u->r x y H Q ->
   subscripted slice false v u=operate [v,u] (vL v u)->na (pi X.prog X.w) X.A (subscriptTail value slice v u) (EP X pins σ Q) X.xe s
def MtR(X:Cx)(id:String)(r:V->List V->Hp->VK->Prop):Prop :=
 ∀ (pins:List (ge×Obj)) (s:im) (σ:St) (H:Hp) (x:V) (xs:List V) (v:gl) (us:List gl) (Q:VK),Inv X pins σ H s->Iw x v->Ip xs us->r x xs H Q ->
   na (pi X.prog X.w) X.A (call (.builtin id) (v::us)) (EP X pins σ Q) X.xe s
section
variable {X:Cx}{a b:Expr}{ta tb:TE}{pos:Pos}
theorem TR(z:IxR X r)(O:PE X a ta)(hb:PE X b tb)(Y:Wo b):PE X (.Subscript a b pos) (tOp r ta tb):=by
 intro pins s σ H Q I h;exact Subscript_ (iF O hb I h λv u s2 x y H2 J W ry q=>z a b pins s2 σ H2 x y v u Q J W ry q (Y _ _))
inductive gF(K:pP)(x:V)(y:V)(H:Hp)(Q:VK):Prop
 | mk(p:_)(xs:_)(i:_)(v:_)(_:x = .ref p)(_:y = .int i)(_:SqL K H p xs)(_:atI xs i=some v)(_:Q v H)
inductive Zz(K:pP)(x:V)(y:V)(H:Hp)(Q:VK):Prop
 | mk(p:_)(xs:_)(i:_)(v:_)(_:x = .ref p)(_:y = .int i)(_:SqT K H p xs)(_:atI xs i=some v)(_:Q v H)
inductive jd(x:V)(y:V)(H:Hp)(Q:VK):Prop
 | mk(z:_)(i:_)(c:_)(_:x = .str z)(_:y = .int i)(_:z.length<=io)(_:atI z.cps.toList i=some c)(_:Q (.str ⟨#[c]⟩) H)
theorem ZW:IxR X (gF X.K):=by
 intro value W pins s σ H x y v u Q I rx ry h hs;obtain⟨p,xs,i,z,rfl,rfl,hq,he,q⟩:=h;cases rx;obtain⟨t,rfl⟩:=ry;obtain⟨aa,r,pl,hz⟩:=I.list hq;obtain⟨j,h1,h2,h3,h4,h5⟩:=Tg he;obtain⟨w,ew,O⟩:=r.get h2;have hl:=r.length;have hn:=OD;have Y:EP X pins σ Q w s:=⟨z,H,I,O,q⟩;by_cases h0:0<=i
 ·have J:i.toNat=j:=by
   rw[seqIndex_of h0 h5]at h1;exact pC.inj h1
  exact item_listR pl.isList h0 Yl (by rw[J];simpa using ew) Y hs
 ·have J:(i+(aa.toArray.size:Int)).toNat=j:=by
   rw[seqIndex_neg Yl h4]at h1;rw[qZ,<- hl];exact pC.inj h1
  exact subscriptTail_builtinR (x:=w) pl.isList.typeIs slot_list_getitem.lookup
   (wpAny_getItem_list_neg (Q:=λr s'=>r=w/\EP X pins σ Q r s') pl.isList Yl (by rw[qZ]<;>lia) Yl (by rw[J];simpa using ew) ⟨Z,Y⟩) hs
theorem ir:IxR X (Zz X.K):=by
 intro value Y pins s σ H x y v u Q I rx ry h hs;obtain⟨p,xs,i,z,rfl,rfl,hq,he,q⟩:=h;cases rx;obtain⟨t,rfl⟩:=ry;obtain⟨aa,r,pl,hz⟩:=I.tuple hq;obtain⟨j,h1,h2,h3,h4,h5⟩:=Tg he;obtain⟨w,J,W⟩:=r.get h2;have hl:=r.length;have hn:=OD;have O:EP X pins σ Q w s:=⟨z,H,I,W,q⟩
 exact subscriptTail_builtinR (x:=w) pl.typeIs slot_tuple_getitem.lookup
  (getItem_tuple (j:=j) (Q:=λr s'=>r=w/\EP X pins σ Q r s') pl Yl Yl (by rw[qZ,<- hl];exact h1) (by simpa using J) ⟨Z,O⟩) hs
theorem iu:IxR X jd:=by
 intro value Y pins s σ H x y v u Q I O ry h W;obtain⟨z,i,c,rfl,rfl,hz,J,q⟩:=h;obtain⟨t,rfl⟩:=O;obtain⟨t',rfl⟩:=ry;obtain⟨j,h1,h2,h3,h4,h5⟩:=Tg J;have hl:z.cps.toList.length=z.length:=by simp[Str.length]
 rw[hl]at h1 h4 h5;have hn:=OD
 exact tail_any (vP s z t) slot_str_getitem.lookup (getItem_str (c:=c) (by
  have e1:decide (i < -(2 ^ 63:Int))=false:=decide_eq_false Yl;have e2:decide (i ≥ 2 ^ 63)=false:=decide_eq_false Yl;rw[e1,e2,Bool.or_false]) (by rw[h1];simpa using h2) ⟨.str ⟨#[c]⟩,H,I.tok _,⟨_,Z⟩,q⟩) W
theorem Vd(Y:List gl)(n j:Nat)(u:gl):Obj.mapSeq (·.setIfInBounds j u) { cls:=.type "list",data:=.seq Y.toArray n }={ cls:=.type "list",data:=.seq (Y.set j u).toArray n }:=by
 simp[Obj.mapSeq]
theorem Inv.lst(I:Inv X pins σ H s)(h:H p=some (.lst xs)) :
 ∃(Y:List gl) (n:Nat),Ip xs Y/\s.heap.get? p=some { cls:=.type "list",data:=.seq Y.toArray n }/\xs.length<=io:=by
 obtain⟨z,Y,n,r,e⟩:=I.hok p _ h;exact⟨Y,n,r,e,z⟩
theorem Inv.lstUpd{σ:St}{H:Hp}{s:im}{p:ge}{xs ys:List V}{Y its':List gl}{n W:Nat}{f:Obj->Obj}(I:Inv X pins σ H s)(h:H p=some (.lst xs))
 (z:s.heap.get? p=some { cls:=.type "list",data:=.seq Y.toArray n }) (O:f { cls:=.type "list",data:=.seq Y.toArray n }={ cls:=.type "list",data:=.seq its'.toArray W }) (r:Ip ys its') (J:ys.length<=io) (t:Nat) :
 Inv X pins σ (upd H p (.lst ys)) { s with heap:=s.heap.update p f,toks:=t }:=by
 have e:(s.heap.update p f).get? p=some { cls:=.type "list",data:=.seq its'.toArray W }:=by
  rw[Heap.get?_update_self f z (by rw[O]<;>rfl),O]
 refine I.write (x:=p) (e:=p) (by rw[h];trivial) (.inl rfl) (λb u hb q=>(Heap.get?_update_other _ _ (Ne.symm hb)).trans q) ⟨_,e⟩ ?_
 exact⟨J,its',W,r,e⟩
inductive fJ(o:V)(i:V)(v:V)(H:Hp)(Q:(Hp->Prop)):Prop
 | mk(p:_)(xs:_)(k:_)(j:_)(_:o = .ref p)(_:i = .int k)(_:H p=some (.lst xs))(_:ixN xs.length k=some j)(_:Q (upd H p (.lst (xs.set j v))))
theorem LH:jE X fJ:=by
 intro pins s σ H o i v ov iv u Q I ro ri rv h;obtain⟨p,xs,k,j,rfl,rfl,z,hj,q⟩:=h;cases ro;obtain⟨t,rfl⟩:=ri;obtain⟨Y,n,r,J,hz⟩:=I.lst z;obtain⟨h1,h2,h3,h4⟩:=W8 hj;have O:=r.length;have hn:=OD
 have I':Inv X pins σ (upd H p (.lst (xs.set j v))) { s with heap:=s.heap.update p (Obj.mapSeq (·.setIfInBounds j u)) } :=
  I.lstUpd z J (Vd Y n j u) (r.set rv j) (by rw[rB];exact hz) s.toks
 by_cases h0:0<=k
 ·have hk:k.toNat=j:=by
   rw[seqIndex_of h0 h4]at h1;exact pC.inj h1
  exact PySem.W.ki_setAt J h0 Yl (by rw[qZ,<- O];exact h4) (by rw[hk];exact⟨_,I',q⟩)
 ·have hk:(k+(Y.toArray.size:Int)).toNat=j:=by
   rw[seqIndex_neg Yl h3]at h1;rw[qZ,<- O];exact pC.inj h1
  exact PySem.W.ki_setBack J Yl (by rw[qZ,<- O];exact h3) Yl (by rw[hk];exact⟨_,I',q⟩)
theorem Se(lo hi:Option Int)(n:Nat):(vU lo hi none n).1=((HT.sIx n 0 lo:Nat):Int)/\(vU lo hi none n).2.1=((HT.sIx n n hi:Nat):Int)/\(vU lo hi none n).2.2=1:=by
 have key:∀(i:Int) (d:Nat),max 0 (min (if i<0 then i+(n:Int) else i) (n:Int))=((HT.sIx n d (some i):Nat):Int):=by
  intro i d;rw[<- HT.clip_eq];by_cases h:i<0
  ·rw[if_pos h,if_pos h,Int.min_eq_left Yl,Int.max_comm]
  ·rw[if_neg h,if_neg h,Int.max_eq_right (Int.le_min.mpr ⟨Yl,Yl⟩)]
 refine⟨?_,?_,Z⟩
 ·cases lo with
  | none=>simp[vU,HT.sIx]
  | some i=>exact key i 0
 ·cases hi with
  | none=>simp[vU,HT.sIx]
  | some i=>exact key i n
theorem QS(Y:List gl)(lo hi:Option Int):slicePick Y.toArray lo hi none=((Y.drop (HT.sIx Y.length 0 lo)).take (HT.sIx Y.length Y.length hi-HT.sIx Y.length 0 lo)).toArray:=by
 obtain⟨h1,h2,W⟩:=Se lo hi Y.toArray.size;unfold slicePick;rw[h1,h2,W];simp only[sliceRange_one,pick_run,qZ]<;>rfl
inductive gE(K:pP)(x:V)(lo:Option Int)(hi:Option Int)(H:Hp)(Q:VK):Prop
 | mk(a:_)(xs:_)(_:x = .ref a)(_:SqL K H a xs)(_:∀p,H p=none->Q (.ref p) (upd H p (.lst (Mf xs lo hi))))
theorem Zs:SlR X (gE X.K):=by
 intro pins s σ H x v vl vu lo hi sl Q I z J pl O h;obtain⟨a,xs,rfl,hx,q⟩:=h;cases z;obtain⟨aa,r,W,hz⟩:=I.list hx;have Y:=r.length;refine⟨"list",_,slot_list_getitem.lookup,W.isList.typeIs,?_⟩;refine wpAny_getItem_list_slice W.isList J pl O .none (by simp) ?_ (by rw[qZ]<;>lia)
 rw[QS,<- Y];refine⟨.ref s.heap.objs.size,_,I.laid (t':=s.toks) (o:=.lst (Mf xs lo hi)) (λb ob q=>Heap.get?_push_of_some _ q) (qd _) ?_,Z,q _ (I.hok.fresh (qd _))⟩;exact⟨pQ (Pa xs lo hi) hz,_,0,(r.drop (HT.sIx xs.length 0 lo)).take (HT.sIx xs.length xs.length hi-HT.sIx xs.length 0 lo),Heap.get?_push_size _ rfl⟩
def P9:V->Bool
 | .non=>true
 | .bl _=>true
 | .int _=>true
 | .str _=>true
 | _=>false
def eqV:V->V->Bool
 | .non,.non=>true
 | .bl a,.bl b=>a == b
 | .bl a,.int b=>(if a then 1 else 0) == b
 | .int a,.bl b=>a == (if b then 1 else 0)
 | .int a,.int b=>a == b
 | .str a,.str b=>a == b
 | _,_=>false
theorem iA(W:Iw y u)(Y:Iw x v)(J:P9 y=true)(O:P9 x=true):SeqAt.EqAt A s u v (eqV y x):=by
 cases y with
 | non =>
   cases W;cases x with
   | non=>cases Y;exact SeqAt.EqAt.same _
   | bl b=>cases Y;exact SeqAt.EqAt.none_bool b
   | int b=>obtain⟨t,rfl⟩:=Y;exact SeqAt.EqAt.none_int b t
   | str b=>obtain⟨t,rfl⟩:=Y;exact SeqAt.EqAt.none_str b t
   | _=>exact absurd (show false=true from O) Bool.false_ne_true
 | bl a =>
   cases W;cases x with
   | non=>cases Y;exact SeqAt.EqAt.bool_none a
   | bl b=>cases Y;exact SeqAt.EqAt.bool_bool a b
   | int b=>obtain⟨t,rfl⟩:=Y;exact SeqAt.EqAt.bool_int a b t
   | str b=>obtain⟨t,rfl⟩:=Y;exact SeqAt.EqAt.bool_str a b t
   | _=>exact absurd (show false=true from O) Bool.false_ne_true
 | int a =>
   obtain⟨t',rfl⟩:=W;cases x with
   | non=>cases Y;exact SeqAt.EqAt.int_none a t'
   | bl b=>cases Y;exact SeqAt.EqAt.int_bool a t' b
   | int b=>obtain⟨t,rfl⟩:=Y;exact SeqAt.EqAt.int_int a t' b t
   | str b=>obtain⟨t,rfl⟩:=Y;exact SeqAt.EqAt.int_str a t' b t
   | _=>exact absurd (show false=true from O) Bool.false_ne_true
 | str a =>
   obtain⟨t',rfl⟩:=W;cases x with
   | non=>cases Y;exact SeqAt.EqAt.str_none a t'
   | bl b=>cases Y;exact SeqAt.EqAt.str_bool a t' b
   | int b=>obtain⟨t,rfl⟩:=Y;exact SeqAt.EqAt.str_int a t' b t
   | str b=>obtain⟨t,rfl⟩:=Y;exact SeqAt.EqAt.str_str a t' b t
   | _=>exact absurd (show false=true from O) Bool.false_ne_true
 | _=>exact absurd (show false=true from J) Bool.false_ne_true
def eqU(x:V)(u:gl):Bool:=match u with
 | .none=>eqV .non x
 | .bool b=>eqV (.bl b) x
 | .int i _=>eqV (.int i) x
 | .str z _=>eqV (.str z) x
 | _=>false
theorem YS(r:Iw y u)(f:P9 y=true):eqU x u=eqV y x:=by
 cases y with
 | non=>cases r;rfl
 | bl b=>cases r;rfl
 | int i=>obtain⟨t,rfl⟩:=r;rfl
 | str z=>obtain⟨t,rfl⟩:=r;rfl
 | _=>exact absurd (show false=true from f) Bool.false_ne_true
theorem O7:∀{xs:List V} {us:List gl},Ip xs us->xs.all P9=true->us.any (eqU x)=xs.any λy=>eqV y x
 | _,_,.nil,_=>rfl
 | y::xs,u::us,.cons r t,f=>by
   rw[List.all_cons,Bool.and_eq_true]at f;rw[rC,rC,YS r f.1,O7 t f.2]
theorem MI(rx:Iw x v)(fx:P9 x=true):∀{xs:List V} {us:List gl},Ip xs us->xs.all P9=true->∀u∈us,SeqAt.EqAt A s u v (eqU x u)
 | _,_,.nil,_=>λu hu=>by cases hu
 | y::xs,u::us,.cons r t,f=>λu' hu=>by
   rw[List.all_cons,Bool.and_eq_true]at f
   rcases pV.mp hu with rfl | hu
   ·rw[YS r f.1];exact iA r rx f.1 fx
   ·exact MI rx fx t f.2 u' hu
def inV(x:V)(xs:List V):Bool:=xs.any λy=>eqV y x
inductive rIn(K:pP)(neg:Bool)(x:V)(y:V)(H:Hp)(Q:VK):Prop
 | mk(p:_)(xs:_)(_:y = .ref p)(_:(SqL K H p xs\/SqT K H p xs))(_:P9 x=true)(_:xs.all P9=true)(_:Q (.bl (if neg then !inV x xs else inV x xs)) H)
theorem WI:OpR X (ul .In) (rIn X.K false):=by
 intro pins s σ H x y v u Q I O ry h;obtain⟨p,xs,rfl,W,J,fs,q⟩:=h;cases ry
 rcases W with W | W
 ·obtain⟨Y,r,pl,z⟩:=I.list W;refine SeqAt.in_listAt (eqU x) pl.isList (λw hw=>MI O J r fs w (by simpa using hw)) ⟨.bl _,H,I,Z,?_⟩
  rw[show Y.toArray.any (eqU x)=Y.any (eqU x) by simp,O7 r fs]
  exact q
 ·obtain⟨Y,r,pl,z⟩:=I.tuple W;refine SeqAt.in_tupleAt (eqU x) pl (λw hw=>MI O J r fs w (by simpa using hw)) ⟨.bl _,H,I,Z,?_⟩
  rw[show Y.toArray.any (eqU x)=Y.any (eqU x) by simp,O7 r fs]
  exact q
theorem Sx:OpR X (ul .NotIn) (rIn X.K true):=by
 intro pins s σ H x y v u Q I O ry h;obtain⟨p,xs,rfl,W,J,fs,q⟩:=h;cases ry
 rcases W with W | W
 ·obtain⟨Y,r,pl,z⟩:=I.list W;refine SeqAt.notIn_listAt (eqU x) pl.isList (λw hw=>MI O J r fs w (by simpa using hw)) ⟨.bl _,H,I,Z,?_⟩
  rw[show Y.toArray.any (eqU x)=Y.any (eqU x) by simp,O7 r fs]
  exact q
 ·obtain⟨Y,r,pl,z⟩:=I.tuple W;refine SeqAt.notIn_tupleAt (eqU x) pl (λw hw=>MI O J r fs w (by simpa using hw)) ⟨.bl _,H,I,Z,?_⟩
  rw[show Y.toArray.any (eqU x)=Y.any (eqU x) by simp,O7 r fs]
  exact q
theorem Td:Kb X (.builtin "len") (λxs H Q=>∃p ys,xs=[.ref p]/\(SqL X.K H p ys\/SqT X.K H p ys)/\Q (.int ys.length) H):=by
 intro pins s σ H xs us Q I r h;obtain⟨p,ys,rfl,W,q⟩:=h;obtain⟨u,rfl,z⟩:=Mm r;cases z;have hn:=OD
 rcases W with W | W
 ·obtain⟨J,O,pl,hz⟩:=I.list W;have Y:=O.length;exact Calls.call_len_list pl.isList (by simp only[qZ]<;>lia) ⟨.int ys.length,H,I.tok _,⟨s.toks+1,by rw[qZ,Y]⟩,q⟩
 ·obtain⟨J,O,pl,hz⟩:=I.tuple W;have Y:=O.length;exact len_tuple pl (by simp only[qZ]<;>lia) ⟨.int ys.length,H,I.tok _,⟨s.toks+1,by rw[qZ,Y]⟩,q⟩
theorem Tc:Kb X (.type "list") (λxs H Q=>∃p ys,xs=[.ref p]/\(SqL X.K H p ys\/SqT X.K H p ys)/\∀l,H l=none->Q (.ref l) (upd H l (.lst ys))):=by
 intro pins s σ H xs us Q I r h;obtain⟨p,ys,rfl,J,q⟩:=h;obtain⟨u,rfl,rx⟩:=Mm r;cases rx
 have aa:∀(Y:List gl),Ip ys Y->ys.length<=io->∀(h':rf) (W:Nat),(∀b o',s.heap.get? b=some o'->h'.get? b=some o') ->
  h'.get? s.heap.objs.size=some { cls:=.type "list",dict:=none,data:=.seq Y.toArray W,slots:=#[] }->EP X pins σ Q (.ref s.heap.objs.size) { s with heap:=h' }:=λY O hz h' W kp e =>
  ⟨.ref s.heap.objs.size,_,I.laid (t':=s.toks) kp (qd _) (show Jb X.prog X.w _ h' _ (.lst ys) from⟨hz,Y,W,O,e⟩),Z,q _ (I.hok.fresh (qd _))⟩
 rcases J with J | J
 ·obtain⟨Y,O,pl,hz⟩:=I.list J;have z:=O.length;obtain⟨o,ho,hc,n,hd⟩:=pl.isList;exact call_list_seq p (.inl rfl) ho hc hd (λh' W kp e=>aa Y O hz h' W kp e) (by simp only[qZ]<;>lia)
 ·obtain⟨Y,O,pl,hz⟩:=I.tuple J;have z:=O.length;obtain⟨o,ho,hc,n,hd⟩:=pl;exact call_list_seq p (.inr rfl) ho hc hd (λh' W kp e=>aa Y O hz h' W kp e) (by simp only[qZ]<;>lia)
theorem Rk:Kb X (.type "tuple") (λxs H Q=>∃p ys,xs=[.ref p]/\((SqL X.K H p ys/\∀l,H l=none->Q (.ref l) (upd H l (.tup ys)))\/(SqT X.K H p ys/\Q (.ref p) H))):=by
 intro pins s σ H xs us Q I r h;obtain⟨p,ys,rfl,h⟩:=h;obtain⟨u,rfl,rx⟩:=Mm r;cases rx
 rcases h with ⟨W,q⟩ | ⟨W,q⟩
 ·obtain⟨Y,O,pl,hz⟩:=I.list W;have z:=O.length;refine call_tuple_list pl.isList (λh' kp=>?_) (by simp only[qZ]<;>lia)
  have J:Inv X pins σ H { s with heap:=h' }:=I.kept (t':=s.toks) kp
  have I2:Inv X pins σ (upd H h'.objs.size (.tup ys)) { s with heap:=h'.push { cls:=.type "tuple",data:=.seq Y.toArray } } :=
   J.laid (t':=s.toks) (λb o e=>Heap.get?_push_of_some _ e) (qd _) (show Jb X.prog X.w _ _ _ (.tup ys) from⟨hz,Y,O,IsTup.new _ _⟩)
  exact⟨.ref h'.objs.size,_,I2,Z,q _ (J.hok.fresh (qd _))⟩
 ·obtain⟨Y,O,pl,hz⟩:=I.tuple W;exact call_tuple_same pl ⟨.ref p,H,I,Z,q⟩
def tyV(K:pP)(T:String)(x:V)(H:Hp):Prop:=match x with
 | .str _=>T = "str"
 | .int _=>T = "int"
 | .ref p=>(T = "list" /\ ∃xs,SqL K H p xs)\/(T = "tuple" /\ ∃o,K.lookup p=some o/\o.cls = .type "tuple" /\ o.dict=none) \/
  (T = "dict" /\ ((∃kvs,H p=some (.dK kvs))\/∃kvs,H p=some (.dT kvs)))\/(T = "set" /\ ∃S n,H p=some (.set S n))
 | _=>False
theorem gi(I:Inv X pins σ H s)(r:Iw x v)(ty:tyV X.K T x H) :
 s.TypeIs v T/\∀a,v = .ref a->∃W,s.heap.get? a=some W/\W.dict=none:=by
 cases x with
 | str z =>
   obtain⟨t,rfl⟩:=r;cases (show T = "str" from ty);exact⟨vP s z t,λ_ e=>nomatch e⟩
 | int i =>
   obtain⟨t,rfl⟩:=r;cases (show T = "int" from ty);exact⟨typeIs_int s i t,λ_ e=>nomatch e⟩
 | ref p =>
   cases r
   rcases ty with ⟨rfl,xs,J⟩ | ⟨rfl,o,hk,O,hd⟩ | ⟨rfl,hk⟩ | ⟨rfl,S,n,hk⟩
   ·obtain⟨aa,_,pl,_⟩:=I.list J;refine⟨pl.isList.typeIs,λa e=>?_⟩;cases e;obtain⟨o,n,e,c,hd,_⟩:=pl;exact⟨o,e,hd⟩
   ·refine⟨⟨o,I.kIn p o hk,O⟩,λa e=>?_⟩;cases e;exact⟨o,I.kIn _ o hk,hd⟩
   ·have z:∃o,s.heap.get? p=some o/\o.ExactDict:=by
     rcases hk with ⟨kvs,hk⟩ | ⟨kvs,hk⟩
     ·obtain⟨_,_,_,_,o,_,_,e,ex,_⟩:=I.hok p _ hk;exact⟨o,e,ex⟩
     ·obtain⟨_,_,_,_,o,_,_,e,ex,_⟩:=I.hok p _ hk;exact⟨o,e,ex⟩
    obtain⟨o,e,ex⟩:=z;refine⟨⟨o,e,ex.1⟩,λa Y=>?_⟩;cases Y;exact⟨o,e,ex.2.1⟩
   ·obtain⟨o,_,_,_,e,ex,_⟩:=I.hok p _ hk;refine⟨⟨o,e,ex.1⟩,λa Y=>?_⟩;cases Y;exact⟨o,e,ex.2.1⟩
 | _=>exact False.elim ty
def tBM(K:pP)(T:String)(r:V->List V->Hp->VK->Prop)(to:TE)(t:TA):TE:=λσ H Q=>to σ H λx H1=>tyV K T x H1/\t σ H1 λxs H2=>r x xs H2 Q
variable {o e:Expr}{es:List Expr}{to:TE}{t:TA}{name:Str}{apos cpos:Pos}{T id:String}{r:V->List V->Hp->VK->Prop}
theorem jh(pa:PlainAttrs T)(J:Slot T name id)(aa:typeOf (.builtin id)=pure (.type "method_descriptor"))(hm:MtR X id r)(ho:PE X o to)(ha:PA X (e::es) t)
 (O:vy o name X.env (tz o X.env)=tz o X.env:=by rfl)
 (z:((ut cpos (lm (e::es) X.env)).all (λx=>!x.1)&&(vM cpos (vw [] X.env)).all (λx=>x.1.isSome)
  && decide ((e::es).length+([]:List vS).length+(if ([]:List vS).isEmpty then 0 else 1)<30))=true:=by rfl)
 (W:(apos.endLine == cpos.line)=true:=by rfl) (hs:lm (e::es) X.env=(false,tz e X.env)::lm es X.env:=by rfl) (Y:(ut cpos (lm es X.env)).any (·.1)=false:=by rfl) {K:pP} (eK:X.K=K:=by rfl) :
 PE X (.Call (.Attribute o name apos) (e::es) [] cpos) (tBM K T r to t):=by
 subst eK;intro pins s σ H Q I h;refine wpAny_Call_method_late O z W rfl (thn (ho pins s σ H _ I h) λv s1 ⟨x,H1,I1,r1,ty,q1⟩=>?_);obtain⟨h1,h2⟩:=gi I1 r1 ty;refine⟨T,id,pa,J,aa,h1,h2,?_⟩;have hA:=ha cpos pins s1 σ H1 _ I1 q1;rw[hs]at hA ⊢;refine Calls.callWith_builtin (by show(false||(ut cpos (lm es X.env)).any (·.1))=false;rw[Y]<;>rfl) (Calls.evalArgs_plain ?_)
 exact thn hA λus s2 ⟨vs,H2,I2,r2,q2⟩=>hm pins s2 σ H2 x vs v us Q I2 r1 r2 q2
end
def MtM(X:Cx)(id:String)(r:V->List V->Hp->VK->Prop):Prop :=
 ∀ (pins:List (ge×Obj)) (s:im) (σ:St) (H:Hp) (x:V) (xs:List V) (v:gl) (us:List gl) (Q:VK),Inv X pins σ H s->Iw x v->Ip xs us->r x xs H Q ->
   na (pi X.prog X.w) X.A (call (.builtin id) (v::us)) (EP X pins σ Q) X.xe s
theorem Ip.one(h:Ip [x] us):∃u,us=[u]/\Iw x u:=by
 cases h with
 | cons r t=>cases t;exact⟨_,Z,r⟩
theorem Ip.rep(h:Ip xs us):∀k:Nat,Ip (qK k xs).flatten (qK k us).flatten
 | 0=>.nil
 | k+1=>by
   rw[rE,rE,rF,rF];exact Ip.append h (Ip.rep h k)
theorem RS(W:List gl):∀(k:Nat) (Y:List gl),
 List.foldl (λJ z=>J++z) Y.toArray (qK k W.toArray)=(Y++(qK k W).flatten).toArray
 | 0,Y=>by simp
 | k+1,Y=>by
   have e:Y.toArray++W.toArray=(Y++W).toArray:=by simp
   have O:(Y++W)++(qK k W).flatten=Y++(qK (k+1) W).flatten:=by
    rw[rE,rF,rG]
   rw[<- O,<- RS W k (Y++W),<- e,rE,List.foldl_cons]
section
variable {X:Cx}{pins:List (ge×Obj)}{σ:St}{H:Hp}{s:im}{l b:ge}{xs ys zs:List V}
theorem Inv.lset{Y its':List gl}{n:Nat}{f:Array gl->Array gl}{t':Nat}(I:Inv X pins σ H s)(hH:H l=some (.lst xs))
 (e:s.heap.get? l=some { cls:=.type "list",data:=.seq Y.toArray n }) (O:f Y.toArray=its'.toArray) (W:Ip ys its') (J:ys.length<=io) :
 Inv X pins σ (upd H l (.lst ys)) { s with heap:=s.heap.update l (Obj.mapSeq f),toks:=t' }:=by
 have q:=PySem.IsL.update e f;rw[O]at q;refine I.write (x:=l) (e:=l) (by rw[hH];exact trivial) (.inl rfl) (λb' u hb z=>(Heap.get?_update_other s.heap (Obj.mapSeq f) (Ne.symm hb)).trans z) ⟨_,q⟩ ?_
 exact⟨J,its',_,W,q⟩
theorem Inv.lnew(I:Inv X pins σ H s)(O:Ip ys Y)(W:ys.length<=io) :
 Inv X pins σ (upd H s.heap.objs.size (.lst ys)) { s with heap:=s.heap.push { cls:=.type "list",data:=.seq Y.toArray },toks:=t' } :=
 I.laid (λ_ _ q=>Heap.get?_push_of_some _ q) (qd _) ⟨W,Y,0,O,Heap.get?_push_size _ rfl⟩
theorem Inv.fresh(I:Inv X pins σ H s):H s.heap.objs.size=none:=I.hok.fresh (qd _)
theorem Inv.lstM(I:Inv X pins σ H s)(W:H l=some (.lst xs)):xs.length<=io/\∃(Y:List gl) (n:Nat),Ip xs Y/\xs.length=Y.length/\s.heap.get? l=some { cls:=.type "list",data:=.seq Y.toArray n }:=by
 obtain⟨z,Y,n,r,e⟩:=I.hok l _ W;exact⟨z,Y,n,r,r.length,e⟩
theorem Ub(h:n<=io):Builtin.List.listTooLong n=false:=by
 unfold Builtin.List.listTooLong;exact decide_eq_false Yl
end
section
variable {X:Cx}
inductive VO(x:V)(vs:List V)(H:Hp)(Q:VK):Prop
 | mk(l:_)(xs:_)(y:_)(_:x = .ref l)(_:vs=[y])(_:H l=some (.lst xs))(_:xs.length<io)(_:Q .non (upd H l (.lst (xs++[y]))))
theorem JT:MtM X "list.append" VO:=by
 intro pins s σ H x vs v us Q I J O h;obtain⟨l,xs,y,rfl,rfl,W,hz,q⟩:=h;cases J;obtain⟨u,rfl,ru⟩:=O.one;obtain⟨z,Y,n,r,hl,e⟩:=I.lstM W;refine vD F.slot_list_append ⟨_,e,Z⟩ F.entry_list_append (F.args_list_append_2 _ _) (PySem.list_append l Y.toArray n u (by rw[qZ];lia)) ⟨e,?_⟩
 refine⟨.non,_,I.lset (its':=Y++[u]) W e (by simp) (r.append (.cons ru .nil)) ?_,Z,q⟩
 rw[qV,rH]
 lia
inductive VI(x:V)(vs:List V)(H:Hp)(Q:VK):Prop
 | mk(l:_)(b:_)(xs:_)(zs:_)(_:x = .ref l)(_:vs=[.ref b])(_:H l=some (.lst xs))(_:H b=some (.lst zs))(_:xs.length+zs.length<=io)(_:Q .non (upd H l (.lst (xs++zs))))
theorem WT:MtM X "list.extend" VI:=by
 intro pins s σ H x vs v us Q I rx rv h;obtain⟨l,b,xs,zs,rfl,rfl,J,hB,hz,q⟩:=h;cases rx;obtain⟨u,rfl,ru⟩:=rv.one;cases ru;obtain⟨z,W,n,r,hl,e⟩:=I.lstM J;obtain⟨z2,Y,n2,r2,aa,e2⟩:=I.lstM hB;have hsz:W.toArray.size+Y.toArray.size<=io:=by rw[qZ,qZ];lia
 have O:¬(!W.toArray.isEmpty&&Builtin.List.listTooLong (W.toArray.size+Y.toArray.size))=true:=by
  rw[Ub hsz,Bool.and_false];exact Bool.false_ne_true
 refine vD F.slot_list_extend ⟨_,e,Z⟩ F.entry_list_extend (F.args_list_extend_2 _ _)
  (AutoSeq1.list_extend_list_list_0 l W.toArray n b Y.toArray n2 O (by rw[qZ];lia) Yl) ⟨e,e2,?_⟩
 refine⟨.non,_,I.lset (its':=W++Y) J e (by simp) (r.append r2) ?_,Z,q⟩
 rw[qV]
 lia
inductive je(x:V)(y:V)(H:Hp)(Q:VK):Prop
 | mk(l:_)(b:_)(xs:_)(zs:_)(_:x = .ref l)(_:y = .ref b)(_:H l=some (.lst xs))(_:H b=some (.lst zs))(_:xs.length+zs.length<=io)(_:∀p,H p=none->Q (.ref p) (upd H p (.lst (xs++zs))))
theorem Ou:OpR X (vm .Add) je:=by
 intro pins s σ H x y v u Q I J ry h;obtain⟨l,b,xs,zs,rfl,rfl,hH,hB,hz,q⟩:=h;cases J;cases ry;obtain⟨z,W,n,r,hl,e⟩:=I.lstM hH;obtain⟨z2,Y,n2,r2,O,e2⟩:=I.lstM hB;refine PySem.P.add_list e e2 ?_ (by rw[qZ,qZ];lia)
 have ea:W.toArray++Y.toArray=(W++Y).toArray:=by simp
 rw[ea];exact⟨.ref _,_,I.lnew (t':=s.toks) (r.append r2) (by rw[qV];lia),Z,q _ I.fresh⟩
inductive jc(x:V)(y:V)(H:Hp)(Q:VK):Prop
 | mk(l:_)(k:_)(xs:_)(_:x = .ref l)(_:y = .int k)(_:H l=some (.lst xs))(h4 : -(2 ^ 63)<=k)(_:k<2 ^ 63)(_:xs.length*k.toNat<=io)(_:∀p,H p=none->Q (.ref p) (upd H p (.lst (qK k.toNat xs).flatten)))
theorem W5{Y:Type}(xs:List Y)(k:Nat):(qK k xs).flatten.length=k*xs.length:=by
 induction k with
 | zero=>simp
 | succ k ih=>rw[rE,rF,qV,ih,Nat.succ_mul,Nat.add_comm]
theorem Ot:OpR X (vm .Mult) jc:=by
 intro pins s σ H x y v u Q I rx ry h;obtain⟨l,k,xs,rfl,rfl,hH,h1,h2,hz,q⟩:=h;cases rx;obtain⟨t,rfl⟩:=ry;obtain⟨z,Y,n,r,hl,e⟩:=I.lstM hH;have O:Y.toArray.size*k.toNat<=io:=by rw[qZ,<- hl];exact hz
 have J:¬Y.toArray.size*k.toNat > (2 ^ 63-1) / 8:=by
  have:(io:Nat)<=(2 ^ 63-1) / 8:=by decide
  lia
 have ac:¬(!Builtin.List.listFitsIndex k)=true:=by
  rw[fitsIndex_both h1 h2];exact Bool.false_ne_true
 have W:¬Builtin.List.listTooLong (Y.toArray.size*k.toNat)=true:=by
  rw[Ub O];exact Bool.false_ne_true
 have aa:List.foldl (λx1 x2=>x1++x2) #[] (qK (if Y.toArray.isEmpty=true then 0 else k.toNat) Y.toArray)=(qK k.toNat Y).flatten.toArray:=by
  have f0:∀m:Nat,List.foldl (λx1 x2=>x1++x2) #[] (qK m Y.toArray)=(qK m Y).flatten.toArray:=λm=>by
   have:=RS Y m [];rw[List.nil_append]at this;exact this
  rw[f0];cases Y with
  | nil=>simp
  | cons a r'=>rw[if_neg (by simp)]
 refine wpAny_binaryOp_repeat_ref (T:="list") (U:="int") Yd ⟨_,e,Z⟩ (λs'=>typeIs_int s' k t) noFill_list_mul F.fills_int_mul F.slot_int_rmul repeat_list F.slot_int_index.lookup
  (vD F.slot_int_rmul (typeIs_int s k t) F.entry_int_rmul (F.args_int_rmul_2 _ _) (int___rmul___int_list k t l Y.toArray n)
   ⟨e,Z,⟨_,e,Z⟩,vD F.slot_list_mul ⟨_,e,Z⟩ F.entry_list_mul (F.args_list_mul_2 _ _) (AutoListH.list___mul___list_int_3 l Y.toArray n k t ac J W) ⟨e,?_⟩⟩)
 rw[aa];exact⟨.ref _,_,I.lnew (t':=s.toks) (r.rep k.toNat) (by rw[W5,rJ];exact hz),Z,q _ I.fresh⟩
end
section
variable {prog:mo}{w:rc}{A:sB}{E:gl->im->Prop}{s:im}
set_option maxRecDepth 100000 in
end
section
variable {X:Cx}
end
end L2
namespace Att
open PySem PySem.W PySem.Calls PyProof.Rows
theorem ints_of_wellAll:∀(Y:List Int) (vs:List gl),WellAll P h vs (Y.map WData.int)->IntsAre vs Y:=by
 intro Y
 induction Y with
 | nil =>
   intro vs w;rw[List.map_nil]at w;cases w;exact .nil
 | cons n Y ih =>
   intro vs w;rw[qw]at w;cases w with
   | cons a b =>
     cases a;exact .cons _ _ (ih _ b)
theorem script_of{l:OpenLaw}{n:Nat}(hn:l.most=some n){P:Params}{h:rf}{args:List WData}{O:List gl}
 (W:l.row.toRowW.claim.pre args=true) (ac:WellAll P h O args) :
 ∃a vs Y,O=[Value.ref a]/\args=[WData.list (Y.map WData.int)]/\h.get? a=some { cls:=.type "list",data:=.seq vs.toArray }/\IntsAre vs Y/\Y.length<=n:=by
 have aa:WShape.hasAll [] args [.list .int]=true:=(pre_splitW W).1;have hc:l.pre.holds [] { args:=args }=true:=(pre_splitW W).2;obtain⟨d,r,rfl,h1,h2⟩:=hasAllW_cons aa;obtain rfl:=hasAllW_nil h2;obtain⟨xs,rfl,h3⟩:=hasW_list h1;obtain⟨Y,rfl⟩:=items_int h3
 have J:Y.length<=n:=by
  unfold OpenLaw.pre at hc
  have z:(WTm.not (.lt (.lit (.int (n:Int))) (.len (.arg 0)))).holds [] { args:=[.list (Y.map .int)] }=true:=by
   have z:=(holds_andW hc).1;rw[hn]at z;exact z
  have h5:=condW_of z (w_not (w_lt w_lit (w_len_list (w_arg rfl))));rw[qz]at h5;refine Nat.le_of_not_lt λq=>?_;have q':(n:Int)<((Y.length:Nat):Int):=by lia
  first
   | (rw[decide_eq_true q']at h5;exact absurd h5 Yd)
   | (simp at h5;lia)
 cases ac with
 | cons w1 w2 =>
   cases w2;cases w1 with
   | list ho hall=>exact⟨_,_,Y,Z,Z,ho,ints_of_wellAll Y _ hall,J⟩
theorem post_true(l:OpenLaw)(args:List WData):l.row.toRowW.claim.post args (.bool true) args=true :=
 postW_of (r:=l.row.toRowW) (X:=(true == true))
  (by first | rfl | decide | simp[WShape.has,WShape.arms,WShape.armsAll]:WShape.has [] (.bool true) .bool=true)
  (show(WTm.eq .res (.lit (.bool true))).value [] { args:=args,res:=some (.bool true),after:=args }=some (.bool (true == true)) from w_eq_bool (w_res rfl) w_lit) rfl
theorem attach_call{l:OpenLaw}{n:Nat}{q:mo}{O:List Str}{XP:(Str->Option gl)->rf->Prop}{YP:rc->rf->Prop}{d:DefRec}
 (hn:l.most=some n) (ah:d.params.defaults=[])
 (ae:∀(w:rc) (s₀ W:im) (mg mb:Str->Option gl) (fa:ge) (o:Obj) (pm cd J:gl) (a:ge) (vs:List gl) (ns:List Int),
  Ground q O [] XP w s₀ mg mb W.heap->YP w W.heap ->
  W.heap.get? fa=some o->o.data = .func (docDef d.name d.params d.body d.scope pm cd J)->W.heap.CodeRec cd d.name->mg d.name=some (.ref fa) ->
  W.heap.get? a=some { cls:=.type "list",data:=.seq vs.toArray }->IntsAre vs ns->ns.length<=n->W.gens = #[] ->
  vA (pi l.prog w) callerA (.call (.ref fa) ⟨[.ref a],[]⟩) (λr s'=>r = .ok (.ret (.bool true))/\OldK W.heap s'.heap/\s'.os=W.os/\vE s'.gens) W) :
 WalkO q O XP YP l.row.toRowW d [] (λf vs=>PySem.call f vs):=by
 intro w s₀ W mg mb G Y fa o pm cd J dV kV ho hd af hD ag hg args aj as aa ak al ai am;obtain rfl:dV = .none:=Dflts.none hD ah;obtain rfl:kV = .none:=Dflts.noKw hD;obtain⟨a,vs,ns,rfl,rfl,ac,z,ad⟩:=script_of hn aa ai;refine enter_call (vx (ae w s₀ W mg mb fa o pm cd J a vs ns G Y ho (fd_plain hd) af ag ac z ad hg) λr s' hq=>?_);obtain⟨rfl,h2,h3,h4⟩:=hq;exact⟨.inl ⟨.bool true,.bool true,[],Z,λ_=>rfl,.bool true,post_true l _,λ_=>⟨List.Pairwise.nil,λ_ hm=>(nomatch hm)⟩⟩,h2,h3,h4⟩
section
variable {prog:mo}{w:rc}{A:sB}{E:gl->im->Prop}{s:im}{K:Frag}
end
end Att
namespace L2
open PySem PySem.Spec PyProof.Rows
theorem Wt(h:IntsAre vs Y):Ip (Y.map V.int) vs:=by
 induction h with
 | nil=>exact .nil
 | cons n t h ih=>exact .cons ⟨t,Z⟩ ih
def iL(H:Hp):Prop:=∀b,H b=none\/∃o xs,H b=some (.frz o (.lst xs))
theorem YC{w:rc}{K:pP}{mg mb:Str->Option gl}{CX:CXT}{k:Nat}{fa a:ge}{fd:jp}{x:Str}{sp:Sp}{Y:im}{vs:List gl}{ns:List Int}
 (KX:K.In Y.heap) (ag:Y.heap.Ns pc mg) (hb:Y.heap.Ns builtinsNs mb) (ao:∀x:Str,x ≠ "__name__" -> mb x=tD x) (af:Y.heap.NoLimit) (J:Y.heap.NoSeer) (hg:Y.gens = #[])
 (ha:Y.heap.get? a=some { cls:=.type "list",data:=.seq vs.toArray }) (hi:IntsAre vs ns) (hl:ns.length<=io) (hr:Jw k callerA)
 (F:∀base:rf,K.In base->base.Ns pc mg->HV P w K mg base CX k fa fd [x] sp) (ad:∀(s:im) (u:gl),BindsTo s fd ⟨[u],[]⟩ [(x,u)])
 (ap:∀H:Hp,iL H->SqL K H a (ns.map V.int)->sp [.ref a] H (λv _=>v = .bl true) λ_ _ _=>False)
 (am:∀H e s',CX [] H Y (λ_ _ _=>False) e s'->False) :
 vA (pi P w) callerA (.call (.ref fa) ⟨[.ref a],[]⟩) (λr s'=>r = .ok (.ret (.bool true))/\OldK Y.heap s'.heap/\s'.os=Y.os/\vE s'.gens) Y:=by
 have rv:=Wt hi;have ai:=hi.length
 -- from an abstract heap in which nothing but the script may be tracked
 have aa:∀H:Hp,iL H->SqL K H a (ns.map V.int)->HOk P w H Y.heap->(∀b,H b≠none->b=a)->(H a≠none->K.lookup a=none) ->
  vA (pi P w) callerA (.call (.ref fa) ⟨[.ref a],[]⟩) (λr s'=>r = .ok (.ret (.bool true))/\OldK Y.heap s'.heap/\s'.os=Y.os/\vE s'.gens) Y:=by
  intro H hO hS aj hA hK;have W:∀{b:ge} {o:Obj},Y.heap.get? b=some o->H b=none->(Rj Y.heap H).get? b=some o:=λe n=>YJ e n
  have al:∀{b:ge} {o:Obj} {es:Array DictEntry} {ep:Nat},Y.heap.get? b=some o->o.data = .dict es ep->H b=none:=fun{b o es ep} e d=>by
   cases q:H b with
   | none=>rfl
   | some u =>
     have e':b=a:=hA b (by rw[q];simp)
     subst e';rw[ha]at e;cases e;have d':Data.seq vs.toArray _=Data.dict es ep:=d;cases d'
  have O:∀{b:ge} {m:Str->Option gl},Y.heap.Ns b m->(Rj Y.heap H).Ns b m:=fun{b m} ⟨o,es,ep,e,d,r⟩=>⟨o,es,ep,W e (al e d),d,r⟩
  have ae:K.In (Rj Y.heap H):=λb o e=>W (KX b o e) (by
   cases q:H b with
   | none=>rfl
   | some u =>
     have e':b=a:=hA b (by rw[q];simp)
     subst e';rw[hK (by rw[q];simp)]at e;cases e)
  have ac:(Rj Y.heap H).NoSeer:=⟨let ⟨mc,x,y⟩:=J.statics;⟨mc,O x,y⟩,let ⟨mm,x,y⟩:=J.mods;⟨mm,O x,y⟩,let ⟨mi,x,y⟩:=J.imp;⟨mi,O x,y⟩,by
   obtain⟨aq,bm,ob,x,y,z,u,v⟩:=J.main;refine⟨aq,bm,ob,O x,y,W z ?_,u,v⟩;cases q:H bm with
   | none=>rfl
   | some o =>
     have e':bm=a:=hA bm (by rw[q];simp)
     subst e';rw[ha]at z;cases z;have u':Value.type "list" = Value.type "module":=u;exact absurd u' Yd⟩
  have hM:Mod K mg (Rj Y.heap H):=⟨ae,O ag,⟨mb,O hb,ao⟩,let ⟨mc,h1,h2⟩:=af;⟨mc,O h1,h2⟩,ac⟩;have e0:UB P w K mg (Rj Y.heap H) callerA [] Y H:=⟨Z,hM,λb o e=>ZL e,Nat.le_of_eq (X0 _ _),trivial,λb hb=>absurd (show b∈([]:List ge) from hb) (by simp),aj,.of_eq hg⟩
  refine vx ((F _ ae (O ag)).run callerA [] Y H ⟨[.ref a],[]⟩ [.ref a] [.ref a] _ _ hr e0 (ad Y (.ref a)) (.cons rfl .nil) (ap H hO hS)) λr s' h=>?_;cases r with
  | error e=>exact(am H e s' h).elim
  | ok fl =>
    cases fl with
    | next=>exact False.elim h
    | brk=>exact False.elim h
    | cont=>exact False.elim h
    | ret u =>
      obtain⟨v,H',os,ah,un,ak,r',q⟩:=h;have q':v = .bl true:=q;subst q';obtain rfl:u=Value.bool true:=r';refine⟨Z,OldK.of_keep λb o e=>?_,os,ah⟩;cases q:H b with
      | none=>exact un.keep b o e q (by intro z;exact absurd (show b∈([]:List ge) from z) (by simp)) (by simp)
      | some u =>
        rcases hO b with z | ⟨ob,xs,z⟩
        ·rw[q]at z;cases z
        ·have z2:=un.frzs b ob _ z;obtain⟨e1,_⟩:=aj b _ z;obtain⟨e2,_⟩:=ak b _ z2;rw[e]at e1;cases e1;exact e2
 cases hk:K.lookup a with
 | some o =>
   -- the script is one of the module's own objects
   have e:=KX a o hk;rw[ha]at e;cases e;refine aa (λ_=>none) (λ_=>.inl rfl) (.inr ⟨_,vs.toArray,_,hk,Z,Z,Z,by rw[qZ,ai];exact hl,by simpa using rv⟩) (λb u z=>by have z':(none:Option HO)=some u:=z;cases z') (λb z=>absurd rfl z) λz=>absurd rfl z
 | none =>
   refine aa (λb=>if b=a then some (.frz { cls:=.type "list",data:=.seq vs.toArray } (.lst (ns.map V.int))) else none) (λb=>?_) (.inl (.inr ⟨{ cls:=.type "list",data:=.seq vs.toArray },if_pos rfl⟩)) (λb u z=>?_) (λb z=>?_) λ_=>hk
   ·by_cases hb:b=a
    ·exact .inr ⟨_,_,if_pos hb⟩
    ·exact .inl (if_neg hb)
   ·by_cases hb:b=a
    ·have z':=(if_pos hb).symm.trans z;cases z';subst hb;exact⟨ha,by rw[qz];exact hl,vs,_,rv,ha⟩
    ·have z':=(if_neg hb).symm.trans z;cases z'
   ·by_cases hb:b=a
    ·exact hb
    ·exact absurd (if_neg hb) z
theorem Zi{l:rK}{n k:Nat}{q:mo}{z:List Str}{XP:(Str->Option gl)->rf->Prop}{YP:rc->rf->Prop}{d:DefRec}{K:Params->pP}{CX:rc->CXT}{sp:rc->Sp}{x:Str}
 (hI:importsNone q=true) (hn:l.most=some n) (ae:n<=io) (ah:d.params.defaults=[]) (hr:Jw k callerA)
 (hY:∀(w:rc) (h:rf),YP w h->(K w.params).In h)
 (F:∀(w:rc) (mg:Str->Option gl) (fa:ge) (h:rf),(K w.params).In h->h.Ns pc mg->mg d.name=some (.ref fa) ->
  ∃ fd:jp,(∀(s:im) (u:gl),BindsTo s fd ⟨[u],[]⟩ [(x,u)]) /\
    ∀base:rf,(K w.params).In base->base.Ns pc mg->HV l.prog w (K w.params) mg base (CX w) k fa fd [x] (sp w))
 (af:∀(w:rc) (H:Hp) (a:ge) (ns:List Int),ns.length<=n->iL H->SqL (K w.params) H a (ns.map V.int)->sp w [.ref a] H (λv _=>v = .bl true) λ_ _ _=>False)
 (ad:∀(w:rc) (H:Hp) (s:im) (e:gl) (s':im),CX w [] H s (λ_ _ _=>False) e s'->False) :
 PySem.W.WalkO q z XP YP l.row.toRowW d [] (λf vs=>PySem.call f vs):=by
 refine Att.attach_call hn ah λw s₀ aa mg mb fa o pm cd ai a vs ns G Y ho hd aj ag ac J O hg=>?_;have KX:=hY w _ Y;obtain⟨fd,hb,hF⟩:=F w mg fa _ KX G.T.g ag;exact YC KX G.T.g G.T.b G.T.builtins G.T.nolimit (G.T.seer hI) hg ac J (pQ O ae) hr hF hb (λH hO hS=>af w H a ns O hO hS) λH e s'=>ad w H aa e s'
def JU(s:vv)(j:Nat):vv:=match s with
 | .ClassDef _ _ _ body _ _ _ _ _ _ _=>body.getD j (.Pass ⟨0,0,0,0⟩)
 | _=>.Pass ⟨0,0,0,0⟩
def Jq(s:vv):Arguments:=match s with
 | .FunctionDef _ a _ _ _ _ _ _ _ _=>a
 | _=>{ posonlyargs:=[],args:=[],vararg:=none,kwonlyargs:=[],kw_defaults:=[],kwarg:=none,defaults:=[] }
def J9(s:vv):List vv:=match s with
 | .FunctionDef _ _ b _ _ _ _ _ _ _=>b
 | _=>[]
def HD(s:vv):vi:=match s with
 | .FunctionDef _ _ _ _ _ _ sc _ _ _=>sc
 | _=>{ kind:=.function,names:=[],isGenerator:=false,isCoroutine:=false }
abbrev CX0:CXT:=λ_ _ _ _ _ _=>False
abbrev E0:XK:=λ_ _ _=>False
theorem Ks:Lf CX0 X E0:=λ_ _ _ _ _ _ _ h=>h.elim
structure Fun(K:pP)(x qual:Str)(st:vv)(f:ge)(fd:jp):Prop where
 ex:∃(oc:gl) (od:Option ge) (kV doc pm:gl) (an:Option ge) (cdv ct:gl) (osl:Array (Option gl)),
  fd=qX x qual (Jq st) (J9 st) (HD st) .none kV doc pm an cdv ct/\K.lookup f=some ⟨oc,od,.func fd,osl⟩/\qY K cdv qual=true
 kp:qy K (.ref f)=true
section
variable {P:mo}{w:rc}{K:pP}{mg:Str->Option gl}{base:rf}
theorem Fun.ok{x qual:Str}{st:vv}{f:ge}{fd:jp}{N ps:List Str}{k:Nat}{sp:Sp}(F:Fun K x qual st f fd)(S:HJ N ps (HD st))(z:∀vs H Q E,sp vs H Q E->vs.length=ps.length)
 (W:∀(Y:gl) (A:sB) (outer:List Env) (s:im) (H:Hp) (vs:List V) (Q:VK) (E:XK),Jw k (A.deeper (envOfC qual (HD st) s.heap.objs.size f Y))->sp vs H Q E ->
  ∃t,PSs (O4 CX0 P w K mg base N qual (HD st) f Y A outer s H E).nox (J9 st) t/\t { nx:=λ_ H'=>Q .non H',rt:=Q } (N4 N vs) H):HV P w K mg base CX0 (k+1) f fd ps sp:=by
 obtain⟨oc,od,kV,aa,pm,an,Y,ct,ac,rfl,lk,O⟩:=F.ex;refine fZ lk O S z λA outer s H vs Q E hr J=>?_;obtain⟨t,h,q⟩:=W Y A outer s H vs Q E hr J;exact⟨t,h.nox,q⟩
theorem Fun.binds{x qual:Str}{st:vv}{f:ge}{fd:jp}{ps:List Str}(F:Fun K x qual st f fd)
 (h:∀(kV Y J:gl) (O:Option ge) (W ct:gl) (us:List gl),us.length=ps.length->vH (qX x qual (Jq st) (J9 st) (HD st) .none kV Y J O W ct) ⟨us,[]⟩=pure (ps.zip us)):Js K fd ps []:=by
 obtain⟨oc,od,kV,Y,J,O,W,ct,aa,rfl,lk,z⟩:=F.ex;exact .all (h kV Y J O W ct)
theorem Nk{x qual:Str}{st:vv}{f:ge}{oc:gl}{od J:Option ge}{O:Array (Option gl)}{kV W z Y ct:gl}(l:K.lookup f=some ⟨oc,od,.func (qX x qual (Jq st) (J9 st) (HD st) .none kV W z J Y ct),O⟩)
 (c:qY K Y qual=true) (k:qy K (.ref f)=true):Fun K x qual st f (qX x qual (Jq st) (J9 st) (HD st) .none kV W z J Y ct):=⟨⟨oc,od,kV,W,z,J,Y,ct,O,Z,l,c⟩,k⟩
end
theorem HX(h:n<=1000):n<io:=rL h Yd
section
variable {X:Cx}
theorem pv(i:Nat)(W:X.N[i]? = some x:=by rfl)(O:Vis X.env.scope x:=by first | exact Or.inl rfl | exact Or.inr (Or.inl rfl) | exact Or.inr (Or.inr rfl))(hd:(x == ("__debug__" : Str))=false:=by decide)
 (Y:(x == ("__classdict__" : Str))=false:=by decide):PE X (.Name x pos) (Pg i):=gO W O hd Y
end
theorem IX{A B:Prop}(h:B):if false=true then A else B:=by
 rw[if_neg Bool.false_ne_true];exact h
theorem Kv{A B:Prop}(h:A):if true=true then A else B:=by
 rw[if_pos rfl];exact h
theorem NY{c A B:Prop}[Decidable c](h1:c->A)(h2:¬c->B):if c then A else B:=by
 by_cases h:c
 ·rw[if_pos h];exact h1 h
 ·rw[if_neg h];exact h2 h
def Hy(H H':Hp):Prop:=∀b o,H b=some o->H' b=some o
theorem Hy.refl(H:Hp):Hy H H:=λ_ _ h=>h
theorem Hy.trans(a:Hy H H1)(b:Hy H1 H2):Hy H H2:=λc o h=>b c o (a c o h)
theorem Hy.free(e:Hy H H')(h:H' l=Option.none):H l=Option.none:=by
 cases q:H l with
 | none=>rfl
 | some o =>
   rw[e l o q]at h;cases h
theorem Hy.seq{K:pP}{H H':Hp}{a:ge}{xs:List V}(e:Hy H H')(h:SqL K H a xs):SqL K H' a xs:=by
 rcases h with (h | ⟨o,h⟩) | h
 ·exact .inl (.inl (e _ _ h))
 ·exact .inl (.inr ⟨o,e _ _ h⟩)
 ·exact .inr h
section
variable {κ:Type}[DecidableEq κ]
def JJ(kvs:List (κ×V))(k:κ):Option V:=(kvs.find? λkv=>decide (kv.1=k)).map (·.2)
def NK(kvs:List (κ×V))(k:κ)(v:V):List (κ×V) :=
 if (kvs.any λkv=>decide (kv.1=k))=true then kvs.map (λkv=>if kv.1=k then (kv.1,v) else kv) else kvs++[(k,v)]
theorem JK{p:κ×V}{r:List (κ×V)}{k:κ}(e:p.1=k):JJ (p::r) k=some p.2:=by simp[JJ,rM,e]
theorem JL{p:κ×V}{r:List (κ×V)}{k:κ}(e:¬p.1=k):JJ (p::r) k=JJ r k:=by simp[JJ,rM,e]
theorem Nv(k:κ):∀kvs:List (κ×V),(kvs.any λkv=>decide (kv.1=k))=(JJ kvs k).isSome
 | []=>rfl
 | p::r=>by
   rw[rC];by_cases e:p.1=k
   ·simp only[JK e,decide_eq_true e,Bool.true_or,Option.isSome_some]
   ·rw[JL e,decide_eq_false e,Bool.false_or];exact Nv k r
theorem Tq(k j:κ)(y:V):∀kvs:List (κ×V),JJ (kvs.map λY=>if Y.1=k then (Y.1,y) else Y) j=(JJ kvs j).map λx=>if j=k then y else x
 | []=>rfl
 | p::r=>by
   have ih:=Tq k j y r;rw[qw];by_cases h:p.1=k
   ·rw[if_pos h];by_cases e:p.1=j
    ·rw[JK (p:=(p.1,y)) e,JK e,rN,if_pos (e.symm.trans h)]
    ·rw[JL (p:=(p.1,y)) e,JL e,ih]
   ·rw[if_neg h];by_cases e:p.1=j
    ·rw[JK (p:=p) e,JK e,rN,if_neg (λz=>h (e.trans z))]
    ·rw[JL (p:=p) e,JL e,ih]
theorem Rp(k j:κ)(y:V):∀kvs:List (κ×V),JJ kvs k=none->JJ (kvs++[(k,y)]) j=if j=k then some y else JJ kvs j
 | [],_=>by
   by_cases e:k=j
   ·rw[if_pos e.symm];exact JK (p:=(k,y)) e
   ·rw[if_neg (λz=>e z.symm)];exact JL (p:=(k,y)) e
 | p::r,hn=>by
   rw[List.cons_append];have hk:¬p.1=k:=λz=>by rw[JK z]at hn;cases hn
   rw[JL hk]at hn;have Y:=Rp k j y r hn;by_cases e:p.1=j
   ·rw[JK e,JK e,if_neg (λz=>hk (e.trans z))]
   ·rw[JL e,JL e,Y]
theorem Xj(kvs:List (κ×V))(k j:κ)(y:V):JJ (NK kvs k y) j=if j=k then some y else JJ kvs j:=by
 unfold NK;by_cases a:(kvs.any λY=>decide (Y.1=k))=true
 ·rw[if_pos a,Tq];rw[Nv]at a;by_cases e:j=k
  ·obtain⟨x,W⟩:=qL.mp a;rw[if_pos e,e,W,rN,if_pos rfl]
  ·rw[if_neg e];cases JJ kvs j with
   | none=>rfl
   | some x=>rw[rN,if_neg e]
 ·rw[if_neg a];refine Rp k j y kvs ?_;rw[Nv]at a;cases q:JJ kvs k with
  | none=>rfl
  | some x=>rw[q]at a;exact(a rfl).elim
theorem MJ(kvs:List (κ×V))(k:κ)(v:V):(NK kvs k v).length<=kvs.length+1:=by
 unfold NK
 split
 ·rw[qz];lia
 ·rw[qV,qr,rO];lia
theorem Mh.isSome_eq(r:Mh o u):o.isSome=u.isSome:=by
 cases o with
 | none=>cases u with
   | none=>rfl
   | some _=>exact(show False from r).elim
 | some _=>cases u with
   | none=>exact(show False from r).elim
   | some _=>rfl
theorem Mh.getD(r:Mh o u)(Y:Iw d d'):Iw (o.getD d) (u.getD d'):=by
 cases o with
 | none=>cases u with
   | none=>exact Y
   | some _=>exact(show False from r).elim
 | some _=>cases u with
   | none=>exact(show False from r).elim
   | some _=>exact r
theorem KV.val(r:KV kvs vs)(k:κ):Mh (JJ kvs k) (valueAt vs k):=by
 unfold KV at r
 induction r with
 | nil=>exact True.intro
 | @cons p q ps qs h t W =>
   obtain⟨h1,h2⟩:=h;by_cases e:p.1=k
   ·have Y:q.1=k:=h1.symm.trans e;have b:valueAt (q::qs) k=some q.2:=by simp[valueAt,rM,Y]
    rw[JK e,b];exact h2
   ·have Y:¬q.1=k:=λz=>e (h1.trans z);have b:valueAt (q::qs) k=valueAt qs k:=by simp[valueAt,rM,Y]
    rw[JL e,b];exact W
theorem KV.any(r:KV kvs vs)(k:κ):(kvs.any λY=>decide (Y.1=k))=vs.any λY=>decide (Y.1=k):=by
 unfold KV at r
 induction r with
 | nil=>rfl
 | cons h t ih=>rw[rC,rC,ih,h.1]
theorem KV.repl(r:KV kvs vs)(k:κ)(W:Iw y u) :
 KV (kvs.map λY=>if Y.1=k then (Y.1,y) else Y) (vs.map λY=>if Y.1=k then (Y.1,u) else Y):=by
 unfold KV at r ⊢
 induction r with
 | nil=>exact .nil
 | @cons p q ps qs h t ih =>
   rw[qw,qw];refine .cons ?_ ih;obtain⟨h1,h2⟩:=h;by_cases e:p.1=k
   ·rw[if_pos e,if_pos (h1.symm.trans e)];exact⟨h1,W⟩
   ·rw[if_neg e,if_neg (λz=>e (h1.trans z))];exact⟨h1,h2⟩
theorem KV.put(r:KV kvs vs)(k:κ)(Y:Iw y u):KV (NK kvs k y) (stored vs k u):=by
 unfold NK stored;rw[r.any k];by_cases e:(vs.any λW=>decide (W.1=k))=true
 ·rw[if_pos e,if_pos e];exact r.repl k Y
 ·rw[if_neg e,if_neg e];exact Paired.snoc r ⟨Z,Y⟩
theorem KV.length{kvs:List (κ×V)}{vs:List (κ×gl)}(r:KV kvs vs):kvs.length=vs.length:=Paired.length r
end
theorem QH(r:Iw (kV k) u):(J3 P w).is k u=true:=by
 cases k with
 | inl i=>obtain⟨t,e⟩:=(show ∃t,u=Value.int i t from r);subst e;exact Ug P w i t
 | inr x=>obtain⟨t,e⟩:=(show ∃t,u=Value.str x t from r);subst e;exact Ue P w x t
theorem OI:∀{ks:List Key} {us:List gl},Ip (ks.map kV) us->ItemsAre (J3 P w) ks us
 | [],_,r=>by rw[List.map_nil]at r;cases r;exact .nil
 | k::ks,_,r=>by
   rw[qw]at r;cases r with
   | cons h t=>exact .cons (QH h) (OI t)
abbrev KT(H:Hp):List (List Key×V)->List (List Key×ge×gl)->Prop:=Paired λp q=>p.1=q.1/\H q.2.1=some (.tup (p.1.map kV))/\Iw p.2 q.2.2
theorem KT.val(r:KT H kvs xs)(k:List Key):Mh (JJ kvs k) ((atKey xs k).map (·.2)):=by
 induction r with
 | nil=>exact True.intro
 | @cons p q ps qs h t W =>
   obtain⟨h1,_,h2⟩:=h;by_cases e:p.1=k
   ·have Y:q.1=k:=h1.symm.trans e;have b:atKey (q::qs) k=some q.2:=by simp[atKey,rM,Y]
    rw[JK e,b];exact h2
   ·have Y:¬q.1=k:=λz=>e (h1.trans z);have b:atKey (q::qs) k=atKey qs k:=by simp[atKey,rM,Y]
    rw[JL e,b];exact W
theorem KT.repl(r:KT H kvs xs)(k:List Key)(O:Iw y u) :
 KT H (kvs.map λY=>if Y.1=k then (Y.1,y) else Y) (xs.map (putAt k u)):=by
 induction r with
 | nil=>exact .nil
 | @cons p q ps qs h t ih =>
   rw[qw,qw];refine .cons ?_ ih;obtain⟨h1,h2,W⟩:=h;unfold putAt;by_cases e:p.1=k
   ·rw[if_pos e,if_pos (h1.symm.trans e)];exact⟨h1,h2,O⟩
   ·rw[if_neg e,if_neg (λz=>e (h1.trans z))];exact⟨h1,h2,W⟩
theorem KT.put(r:KT H kvs xs)(k:List Key)(O:H b=some (.tup (k.map kV)))(Y:Iw y u) :
 KT H (NK kvs k y) (storedH xs k b u):=by
 have e:(kvs.any λW=>decide (W.1=k))=(atKey xs k).isSome:=by
  rw[Nv,(r.val k).isSome_eq,Option.isSome_map]
 unfold NK storedH;rw[e];by_cases q:(atKey xs k).isSome=true
 ·rw[if_pos q,if_pos q];exact r.repl k Y
 ·rw[if_neg q,if_neg q];exact Paired.snoc r ⟨Z,O,Y⟩
theorem KT.keeps(r:KT H kvs xs)(Y:∀b ys,H b=some (.tup ys)->H' b=some (.tup ys)):KT H' kvs xs :=
 Paired.mapP r λ_ _ z=>⟨z.1,Y _ _ z.2.1,z.2.2⟩
section
variable {P:mo}{w:rc}{H:Hp}{h:rf}{a:ge}
theorem fI(Y:HOk P w H h)(e:Rd H a u):Jb P w H h a u:=e.ok Y
theorem YV(Y:HOk P w H h)(e:Rd H a (.dK kvs)):kvs.length<=io/\(a == vg)=false/\∃vs,KV kvs vs/\h.DictOf (J3 P w) a vs :=
 show Jb P w H h a (.dK kvs) from fI Y e
theorem jx(Y:HOk P w H h)(e:H a=some (.dK kvs)):kvs.length<=io/\(a == vg)=false/\∃vs,KV kvs vs/\h.DictOf (J3 P w) a vs:=YV Y (.inl e)
theorem Vl(W:HOk P w H h)(e:H a=some (.tup (ks.map kV))):(tupleKind (J3 P w)).is h ks a:=by
 obtain⟨_,Y,r,o,h1,h2,n,O⟩:=(show Jb P w H h a (.tup (ks.map kV)) from W a _ e);exact⟨o,Y.toArray,n,h1,h2,O,by simpa using OI r⟩
theorem YT(O:HOk P w H h)(e:Rd H a (.dT kvs)):kvs.length<=io/\(a == vg)=false /\
 ∃xs,KT H kvs xs/\h.DictOfH (tupleKind (J3 P w)) a xs:=by
 obtain⟨z,y,xs,r,o,es,ep,h1,h2,J,h4,h5⟩:=(show Jb P w H h a (.dT kvs) from fI O e);refine⟨z,y,xs,r,o,es,ep,h1,h2,J,h4,λx Y=>?_,h5⟩
 have W:∀{l:List (List Key×V)} {m:List (List Key×ge×gl)},KT H l m->∀x∈m,(tupleKind (J3 P w)).is h x.1 x.2.1:=by
  intro l m q
  induction q with
  | nil=>intro x Y;exact nomatch Y
  | @cons p q ps qs hq t ih =>
    intro x Y
    rcases pV.mp Y with e | Y
    ·subst e;exact Vl O (by rw[<- hq.1];exact hq.2.1)
    ·exact ih x Y
 exact W r x Y
theorem jw(Y:HOk P w H h)(e:H a=some (.dT kvs)):kvs.length<=io/\(a == vg)=false /\
 ∃xs,KT H kvs xs/\h.DictOfH (tupleKind (J3 P w)) a xs:=YT Y (.inl e)
end
def Xe(H:Hp)(a:ge)(y:V)(r:Option V):Prop :=
 (∃kvs k,Rd H a (.dK kvs)/\y=kV k/\r=JJ kvs k)\/∃kvs k b,Rd H a (.dT kvs)/\y = .ref b/\H b=some (.tup (k.map kV))/\r=JJ kvs k
def Zh(H:Hp)(a:ge)(y v:V)(H':Hp):Prop :=
 (∃kvs k,H a=some (.dK kvs)/\y=kV k/\kvs.length<io/\H'=upd H a (.dK (NK kvs k v))) \/
 ∃kvs k b,H a=some (.dT kvs)/\y = .ref b/\H b=some (.tup (k.map kV))/\kvs.length<io/\H'=upd H a (.dT (NK kvs k v))
theorem Xe.t(e:H a=some (.dT kvs))(Y:H b=some (.tup (k.map kV))):Xe H a (.ref b) (JJ kvs k):=.inr ⟨kvs,k,b,.inl e,Z,Y,Z⟩
theorem Zh.t(e:H a=some (.dT kvs))(Y:H b=some (.tup (k.map kV)))(W:kvs.length<io) :
 Zh H a (.ref b) v (upd H a (.dT (NK kvs k v))):=.inr ⟨kvs,k,b,e,Z,Y,W,Z⟩
section
variable {X:Cx}{pins:List (ge×Obj)}{σ:St}{H:Hp}{s:im}{a:ge}{y v:V}{u r:gl}{o:Option V}{A:sB}{E:gl->im->Prop}
theorem Inv.big(I:Inv X pins σ H s):vg<s.heap.objs.size:=by
 have h:pc<s.heap.objs.size:=(I.mod.glob.keeps I.bk).lt;exact rP Yd h
theorem X6(hu:A.units+1<cLine)(I:Inv X pins σ H s)(g:Xe H a y (some v))(ry:Iw y u)(h:∀O s',Inv X pins σ H s'->Iw v O->Q O s') :
 na (pi X.prog X.w) A (vL (.ref a) u) Q E s:=by
 rcases g with ⟨kvs,k,e,ey,l⟩ | ⟨kvs,k,b,e,ey,eb,l⟩
 ·subst ey;obtain⟨z,hd,vs,Y,dd⟩:=YV I.hok e;obtain⟨O,hw,W⟩:=Mh.some_of (v:=v) (o:=valueAt vs k) (by rw[l];exact Y.val k)
  exact wpAny_getItem_of (QH ry) dd.mapOf hw (h O _ (I.tok _) W)
 ·subst ey;cases (show u=Value.ref b from ry);obtain⟨z,hd,xs,Y,dd⟩:=YT I.hok e;obtain⟨O,hw,W⟩:=Mh.some_of (v:=v) (o:=(atKey xs k).map (·.2)) (by rw[l];exact Y.val k)
  obtain⟨p,hp,J⟩:=rQ.mp hw;refine wpAny_getItem_heap (tupleKind_room_in1 hu) (Vl I.hok eb) dd hp ?_;rw[J];exact h O _ (I.tok _) W
theorem Wi(I:Inv X pins σ H s)(mu:Mut (H a))(O:Heap.SameBut a s.heap h')(J:∃q,h'.get? a=some q)(Y:Jb X.prog X.w (upd H a W) h' a W) :
 Inv X pins σ (upd H a W) { s with heap:=h',toks:=t' } :=
 I.write (x:=a) (e:=a) mu (.inl rfl) (λb q hb z=>(O.2 b hb).trans z) J Y
theorem iB(z:kvs.length<=io)(hd:(a == vg)=false)(Y:KV kvs vs)(dd:h'.DictOf (J3 P w) a vs) :
 Jb P w H' h' a (.dK kvs):=⟨z,hd,vs,Y,dd⟩
theorem X5(hu:A.units+1<cLine)(I:Inv X pins σ H s)(g:Zh H a y v H')(ry:Iw y u)(rv:Iw v r)(h:∀s',Inv X pins σ H' s'->Q () s') :
 na (pi X.prog X.w) A (setItem (.ref a) u r) Q E s:=by
 rcases g with ⟨kvs,k,e,ey,l,eH⟩ | ⟨kvs,k,b,e,ey,eb,l,eH⟩
 ·subst ey eH;obtain⟨z,hd,vs,Y,dd⟩:=jx I.hok e;have hz:vs.length<=io:=by rw[<- Y.length];exact z
  have hl:(NK kvs k v).length<=io:=by have:=MJ kvs k v;lia
  refine wpAny_setItem_pairs (hsz:=hz) (QH ry) dd λh' W J=>h _ ?_;have he:∃q,h'.get? a=some q:=let ⟨q,_,_,O,_⟩:=W;⟨q,O⟩;exact Wi I (by rw[e];exact True.intro) J he (iB hl hd (Y.put k rv) W)
 ·subst ey eH;cases (show u=Value.ref b from ry);obtain⟨z,hd,xs,Y,dd⟩:=jw I.hok e;have hz:xs.length<=io:=by rw[<- Paired.length Y];exact z
  have hl:(NK kvs k v).length<=io:=by have:=MJ kvs k v;lia
  refine wpAny_setItem_heap (hsz:=hz) (tupleKind_room_in1 hu) (Vl I.hok eb) dd λh' W J=>h _ ?_;obtain⟨q,es,ep,O,h2,h3,h4,_,h5⟩:=W;refine Wi I (by rw[e];exact True.intro) J ⟨q,O⟩ ⟨hl,hd,_,(Y.put k eb rv).keeps λc ys ec=>?_,q,es,ep,O,h2,h3,h4,h5⟩
  rw[HZ (Ku ec e (λz=>nomatch z))];exact ec
end
section
variable {X:Cx}{pins:List (ge×Obj)}{σ:St}{H:Hp}{s:im}{a:ge}{kvs:List (Key×V)}{k:Key}{u:gl}{A:sB}{E:gl->im->Prop}
end
def iM(i:Expr):Prop:=∀ov iv,subscripted i false ov iv=operate [ov,iv] (vL ov iv)
theorem Vy{prog:mo}{w:rc}{A:sB}{E:gl->im->Prop}{s:im}{env:Env}{value Y:Expr}{pos:Pos}{T id:String}{Q:gl->im->Prop}
 (hl:vZ (.type T) "__getitem__" = pure (some (.builtin id))) (hs:iM Y)
 (h:na (pi prog w) A (tz value env) (λo z=>na (pi prog w) A (tz Y env) (λi W=>W.TypeIs o T/\na (pi prog w) A (vL o i) Q E W) E z) E s) :
 na (pi prog w) A (tz (.Subscript value Y pos) env) Q E s:=by
 refine Subscript_ (u8 h (λo z ac=>u8 ac (λi W O=>?_) λ_ _ x=>x) λ_ _ x=>x);obtain⟨hT,O⟩:=O;unfold subscriptTail;refine ii ?_;rw[getitemInPython_of_ne hT.not_modules];refine ii (wpAny_specialOf hT hl ?_)
 have aa:na (pi prog w) A (subscripted Y false o i) (λr J=>na (pi prog w) A (letTemporaryGo value o r >>= λ_=>pure r) Q E J) E W:=by
  rw[hs o i];exact wpAny_operating (u8 O (λr J ad=>ii (wpAny_letTemporaryGo (li ad))) λ_ _ x=>x)
 first
  | exact li (ii aa)
  | exact ii (li (ii aa))
  | exact ii aa
theorem Us(I:Inv X pins σ H s)(g:Xe H a y o):s.TypeIs (.ref a) "dict":=by
 rcases g with ⟨kvs,k,e,_,_⟩ | ⟨kvs,k,b,e,_,_,_⟩
 ·obtain⟨_,_,vs,_,dd⟩:=YV I.hok e;exact dd.typeIs
 ·obtain⟨_,_,xs,_,dd⟩:=YT I.hok e;exact dd.typeIs
def iZ(td ty:TE):TE:=λσ H Q=>td σ H λx H1=>ty σ H1 λy H2=>∃a v,x = .ref a/\Xe H2 a y (some v)/\Q v H2
def j6(td ty tv:TE):TS:=λD σ H=>tv σ H λv H1=>td σ H1 λx H2=>ty σ H2 λy H3=>∃a H4,x = .ref a/\Zh H3 a y v H4/\D.nx σ H4
section
variable {X:Cx}{o i e value:Expr}{pos pos' tpos:Pos}{td ty tv:TE}
theorem ZI(hu:X.A.units+1<cLine)(ho:PE X o td)(hi:PE X i ty)(z:iM i):PE X (.Subscript o i pos) (iZ td ty):=by
 intro pins s σ H Q I h;refine Vy PySem.F.slot_dict_getitem.lookup z (thn (ho pins s σ H _ I h) λu O ⟨x,H1,J,rx,q1⟩=>thn (hi pins O σ H1 _ J q1) λiv s2 ⟨y,H2,W,ry,a,v,ex,g,q2⟩=>?_);subst ex;obtain rfl:u=Value.ref a:=rx;exact⟨Us W g,X6 hu W g ry λw' s3 I3 Y=>⟨v,H2,I3,Y,q2⟩⟩
theorem ZD(hu:X.A.units+1<cLine)(ho:PE X o td)(hi:PE X i ty)(hv:PE X value tv)(hs:swapsWith value (some (.Subscript o i pos')) pos.line X.env=pure false) :
 PS X (.Assign [.Subscript o i pos'] value pos) (j6 td ty tv):=by
 intro pins s σ H D I h;refine wpAny_Assign_Subscript (thn (hv pins s σ H _ I h) λr W ⟨v,H1,O,J,q1⟩=>thn (ho pins W σ H1 _ O q1) λu s2 ⟨x,H2,I2,rx,q2⟩=>thn (hi pins s2 σ H2 _ I2 q2) λiv s3 ⟨y,H3,z,Y,a,H4,ex,g,q3⟩=>?_) hs;subst ex;obtain rfl:u=Value.ref a:=rx;exact X5 hu z g Y J λs4 I4=>⟨σ,H4,I4,q3⟩
end
theorem YU(h:rf)(Y:vg<h.objs.size):Jb P w H (h.push { cls:=.type "dict",data:=.dict #[] }) h.objs.size (.dT []) :=
 ⟨qg _,beq_eq_false_iff_ne.mpr (Ne.symm (pJ Y)),[],.nil,_,#[],0,Heap.get?_push_size _ rfl,⟨Z,Z,Z⟩,Z,Z,List.nodup_nil⟩
def gq:TE:=λ_ H Q=>∀p,H p=none->Q (.ref p) (upd H p (.dT []))
section
variable {X:Cx}{pos:Pos}
theorem Y2:PE X (.Dict [] [] pos) gq:=λpins s σ H Q I h =>
 wpAny_Dict_empty ⟨.ref s.heap.objs.size,_,I.laid (a:=s.heap.objs.size) (o:=.dT []) (t':=s.toks) (λ_ _ q=>Heap.get?_push_of_some _ q) (qd _) (YU s.heap I.big),Z,h _ (I.hok.fresh (qd _))⟩
end
structure M1(X:Cx)(o:Expr)(m:Str)(apos:Pos)(e:Expr)(cpos:Pos):Prop where
 base:vy o m X.env (tz o X.env)=tz o X.env
 few:((ut cpos (lm [e] X.env)).all (λx=>!x.1)&&(vM cpos (vw [] X.env)).all (λx=>x.1.isSome)
  && decide (([e]:List Expr).length+([]:List vS).length+(if ([]:List vS).isEmpty then 0 else 1)<30))=true
 line:(apos.endLine == cpos.line)=true
 trees:ut cpos (lm [e] X.env)=[(false,tz e X.env)]
structure M2(X:Cx)(o:Expr)(m:Str)(apos:Pos)(e f:Expr)(cpos:Pos):Prop where
 base:vy o m X.env (tz o X.env)=tz o X.env
 few:((ut cpos (lm [e,f] X.env)).all (λx=>!x.1)&&(vM cpos (vw [] X.env)).all (λx=>x.1.isSome)
  && decide (([e,f]:List Expr).length+([]:List vS).length+(if ([]:List vS).isEmpty then 0 else 1)<30))=true
 line:(apos.endLine == cpos.line)=true
 trees:ut cpos (lm [e,f] X.env)=[(false,tz e X.env),(false,tz f X.env)]
section
variable {X:Cx}{pins:List (ge×Obj)}{σ:St}{H:Hp}{s:im}{a:ge}{y d:V}{u r:gl}{o:Option V}{A:sB}{E:gl->im->Prop}
end
section
variable {X:Cx}{o e f:Expr}{apos cpos:Pos}{td ty tx:TE}
end
section
variable {X:Cx}{pins:List (ge×Obj)}{σ:St}{H:Hp}{s:im}{a:ge}{kvs:List (Key×V)}{A:sB}{E:gl->im->Prop}
end
section
variable {X:Cx}{pins:List (ge×Obj)}{σ:St}{H:Hp}{s:im}{a:ge}{y:V}{u:gl}{A:sB}{E:gl->im->Prop}
end
end L2
abbrev ym:=List (List Rat)
abbrev yn:=List Rat
abbrev yo:=List Int
abbrev yq:=List Nat
abbrev yr:=List PySem.Str
abbrev yt:=List L2.V
abbrev yL(P:PySem.Program):Prop:=P.given.tree=none
abbrev yM:List PySem.Str:=["points","numbers"]
abbrev yN:List PySem.Str:=["points"]
abbrev yO:List PySem.Str:=["thing"]
abbrev yP:List PySem.Str:=["_law_a","_law_b"]
abbrev yQ:List PySem.Str:=["text","most"]
abbrev yR:List PySem.Str:=["numbers"]
abbrev yS:List PySem.Str:=["_law_number"]
abbrev yT:List PySem.Str:=["_law_curve","_law_x"]
abbrev yU:List PySem.Str:=["a","b"]
abbrev yV:List PySem.Str:=["self","row"]
abbrev yW:List PySem.Str:=["_law_points"]
abbrev yX:List PySem.Str:=["_law_pen_here","_law_many"]
abbrev yY:List PySem.Str:=["points","point"]
abbrev yZ:List PySem.Str:=["_law_top","_law_bottom"]
abbrev y2:List PySem.Str:=["_law_pen_here"]
abbrev y3:List PySem.Str:=["top","bottom"]
abbrev y4:List PySem.Str:=["points","x"]
abbrev y6:List PySem.Str:=["_law_numbers"]
abbrev y7:List PySem.Str:=["self","text"]
abbrev y8:List PySem.Str:=["numbers","bottom"]
abbrev y9:List PySem.Str:=["points","old","new"]
abbrev za:List PySem.Str:=["_law_pen_here","_law_places"]
abbrev zb:List PySem.Str:=["_law_points","_law_curve"]
abbrev zc:List PySem.Str:=["_law_knots","_law_some","_law_x"]
abbrev zd:List PySem.Str:=["_law_pen_here","_law_desk","_law_points"]
namespace Nm
def msr(a b:Int):Int:=if b<0 then -(rR a b:Int) else (rR a b:Int)
theorem gcd_pos(Y:b≠0):0<rR a b:=Nat.pos_of_ne_zero λh=>Y (Int.gcd_eq_zero_iff.mp h).2
theorem msr_ne(Y:b≠0):msr a b≠0:=by
 have:=gcd_pos (a:=a) Y;unfold msr;split<;>lia
theorem fdiv_neg_dvd(h:g∣a):a.fdiv (-g) = -(a / g):=by
 obtain⟨k,rfl⟩:=h;by_cases hg:g=0
 ·subst hg;simp
 ·rw[Int.mul_ediv_cancel_left _ hg,show g*k = -g * -k by rw[Int.neg_mul_neg],rS _ Yl]
theorem fdiv_dvd{a g:Int}(h:g∣a):a.fdiv g=a / g:=by
 obtain⟨k,rfl⟩:=h;by_cases hg:g=0
 ·subst hg;simp
 ·rw[Int.mul_ediv_cancel_left _ hg,rS _ hg]
theorem top_msr(Y:b≠0):a.fdiv (msr a b)=(rV a b).num:=by
 rw[Rat.num_divInt,Int.gcd_comm b a];have d:(rR a b:Int)∣a:=Int.gcd_dvd_left ..;unfold msr
 split
 ·rename_i h
  rw[fdiv_neg_dvd d,Int.sign_eq_neg_one_of_neg h,Int.neg_mul,Int.one_mul,Int.neg_ediv_of_dvd d]
 ·rw[fdiv_dvd d,Int.sign_eq_one_of_pos Yl,Int.one_mul]
theorem bottom_msr(Y:b≠0):b.fdiv (msr a b)=(rV a b).den:=by
 rw[Rat.den_divInt,if_neg Y,Int.gcd_comm b a];have d:(rR a b:Int)∣b:=Int.gcd_dvd_right ..;rw[Int.natCast_ediv];unfold msr
 split
 ·rename_i h
  rw[fdiv_neg_dvd d,<- Int.neg_ediv_of_dvd d,Int.ofNat_natAbs_of_nonpos Yl]
 ·rw[fdiv_dvd d,Int.natAbs_of_nonneg Yl]
theorem gcd_turn(x y:Int):rR y (x % y)=rR x y:=by
 have e:x % y+y*(x / y)=x:=Int.emod_add_mul_ediv x y;have h:rR (x % y+y*(x / y)) y=rR (x % y) y:=Int.gcd_add_mul_left_left ..;rw[e]at h;rw[h,Int.gcd_comm]
theorem abs_if(i:Int):(if i<0 then -i else i)=(i.natAbs:Int):=by split<;>lia
theorem num_mul(q:Rat):((q.num:Int):Rat)=q*((q.den:Int):Rat):=by
 have hd:((q.den:Nat):Int)≠0:=by have:=q.den_pos;lia
 have h1:q=(q.num:Rat) / ((q.den:Int):Rat):=by
  have:=rW q;rw[rX]at this;exact this.symm
 have Y:(((q.den:Int)):Rat)≠0:=λz=>hd (by exact_mod_cast z)
 conv=>rhs;lhs;rw[h1]
 rw[rY Y]
theorem den_ne(q:Rat):((q.den:Nat):Int)≠0:=by have:=q.den_pos;lia
theorem cast_ne{a:Int}(h:a≠0):(a:Rat)≠0:=λz=>h (by exact_mod_cast z)
theorem div_eq{t b:Int}{q:Rat}(Y:b≠0)(h:(t:Rat)=q*(b:Rat)):rV t b=q:=by
 rw[rX,h,Rat.mul_div_cancel (cast_ne Y)]
theorem plus_eq(p q:Rat):rV (p.num*q.den+q.num*p.den) (p.den*q.den)=p+q :=
 div_eq (rZ (den_ne p) (den_ne q)) (by rw[se,si,si,si,num_mul p,num_mul q];grind)
theorem minus_eq(p q:Rat):rV (p.num*q.den-q.num*p.den) (p.den*q.den)=p-q :=
 div_eq (rZ (den_ne p) (den_ne q)) (by rw[sj,si,si,si,num_mul p,num_mul q];grind)
theorem times_eq(p q:Rat):rV (p.num*q.num) (p.den*q.den)=p*q :=
 div_eq (rZ (den_ne p) (den_ne q)) (by rw[si,si,num_mul p,num_mul q];grind)
theorem pow_add(x:Rat)(m:Nat):∀n:Nat,x ^ (m+n)=x ^ m*x ^ n
 | 0=>by rw[sk,so];grind
 | n+1=>by rw[<- Nat.add_assoc,sq,sq,pow_add x m n];grind
end Nm
namespace Cv
def ev:yn->Rat->Rat
 | [],_=>0
 | q::r,x=>q+x*ev r x
def strip:yn->yn
 | []=>[]
 | q::r=>if strip r=[]/\q=0 then [] else q::strip r
theorem ev_strip(x:Rat):∀qs,ev (strip qs) x=ev qs x
 | []=>rfl
 | q::r=>by
   have ih:=ev_strip x r;unfold strip
   split
   ·rename_i h
    rw[h.1]at ih;show(0:Rat)=q+x*ev r x;rw[<- ih,h.2];show(0:Rat)=0+x*0;grind
   ·show q+x*ev (strip r) x=_;rw[ih];rfl
theorem strip_length:∀qs,(strip qs).length<=qs.length
 | []=>qd _
 | q::r=>by
   have ih:=strip_length r;unfold strip
   split
   ·exact qg _
   ·exact Nat.succ_le_succ ih
theorem strip_last:∀qs,strip qs≠[]->(strip qs)[(strip qs).length-1]? ≠ some 0
 | [],h=>absurd rfl h
 | q::r,h=>by
   have ih:=strip_last r;unfold strip at h ⊢
   split at h
   ·exact absurd rfl h
   ·rename_i Y
    rw[if_neg Y];by_cases e:strip r=[]
    ·rw[e];intro z;have W:q=0:=by simpa using z
     exact Y ⟨e,W⟩
    ·have O:0<(strip r).length:=su.mpr e;rw[qr,show(strip r).length+1-1=((strip r).length-1)+1 by lia,sv]
     exact ih e
theorem strip_mem:∀qs q,q∈strip qs->q∈qs
 | [],_,h=>h
 | p::r,q,h=>by
   unfold strip at h
   split at h
   ·cases h
   ·rcases pV.mp h with e | e
    ·exact e ▸ pT
    ·exact pU _ (strip_mem r q e)
theorem take_strip:∀(qs:yn) (w:Nat),(∀j q,w<=j->qs[j]? = some q->q=0)->(w=0\/∃q,qs[w-1]? = some q/\q≠0)->qs.take w=strip qs
 | [],w,_,_=>by simp[strip]
 | p::r,0,h,_=>by
   have Y:=take_strip r 0 (λj q _ e=>h (j+1) q Yl (by simpa using e)) (.inl rfl)
   have hp:p=0:=h 0 p (qd _) rfl;unfold strip;rw[<- Y,if_pos ⟨Z,hp⟩];rfl
 | p::r,w+1,h,h2=>by
   have J:∀j q,w<=j->r[j]? = some q->q=0:=λj q hj e=>h (j+1) q Yl (by simpa using e)
   by_cases hw:w=0
   ·subst hw;have Y:=take_strip r 0 J (.inl rfl)
    rcases h2 with z | ⟨q,e,W⟩
    ·exact absurd z Yl
    ·have e':p=q:=by simpa using e
     subst e';unfold strip;rw[<- Y,if_neg (λz=>W z.2)];rfl
   ·have Y:=take_strip r w J (by
     rcases h2 with z | ⟨q,e,W⟩
     ·exact absurd z Yl
     ·refine .inr ⟨q,?_,W⟩;rw[show w+1-1=(w-1)+1 by lia,sv]at e
      exact e)
    have O:strip r≠[]:=by
     rw[<- Y]
     rcases h2 with z | ⟨q,e,W⟩
     ·exact absurd z Yl
     ·rw[show w+1-1=(w-1)+1 by lia,sv]at e
      intro z
      have hl:0<(r.take w).length:=by
       rw[qN];have:=(pY.mp e).1
       lia
      rw[z]at hl;simp at hl
    unfold strip;rw[<- Y,if_neg (λz=>O (by rw[<- Y];exact z.1))];rfl
def pw:yn->Rat->Rat->Rat
 | [],_,_=>0
 | q::r,x,p=>q*p+pw r x (p*x)
theorem ev_scale(c x:Rat):∀qs,ev (qs.map (· * c)) x=ev qs x*c
 | []=>by show(0:Rat)=0*c;grind
 | q::r=>by
   show q*c+x*ev (r.map (· * c)) x=(q+x*ev r x)*c;rw[ev_scale c x r];grind
theorem ev_snoc(x q:Rat):∀l:yn,ev (l++[q]) x=ev l x+q*x ^ l.length
 | []=>by show q+x*0=0+q*x ^ 0;rw[so];grind
 | p::r=>by
   show p+x*ev (r++[q]) x=(p+x*ev r x)+q*x ^ (r.length+1);rw[ev_snoc x q r,sq];grind
theorem strip_zeros:∀(qs:yn) (n:Nat),strip (qs++qK n 0)=strip qs
 | [],0=>rfl
 | [],n+1=>by
   have Y:=strip_zeros [] n;show strip (0::qK n 0)=[];unfold strip;have e:strip (qK n 0)=[]:=by simpa [strip] using Y
   rw[if_pos ⟨e,Z⟩]
 | q::r,n=>by
   have Y:=strip_zeros r n;show strip (q::(r++qK n 0))=strip (q::r);unfold strip;rw[Y]
theorem ev_set(x d:Rat):∀(l:yn) (i:Nat) (v:Rat),l[i]? = some v->ev (l.set i (v+d)) x=ev l x+d*x ^ i
 | [],_,_,h=>by simp at h
 | q::r,0,v,h=>by
   have e:q=v:=by simpa using h
   subst e;show(q+d)+x*ev r x=(q+x*ev r x)+d*x ^ 0;rw[so];grind
 | q::r,i+1,v,h=>by
   show q+x*ev (r.set i (v+d)) x=(q+x*ev r x)+d*x ^ (i+1);rw[ev_set x d r i v (by simpa using h),sq];grind
theorem ev_zeros(x:Rat):∀n,ev (qK n 0) x=0
 | 0=>rfl
 | n+1=>by
   show(0:Rat)+x*ev (qK n 0) x=0;rw[ev_zeros x n];grind
def evI(ts:yo)(x:Rat):Rat:=ev (ts.map λt:Int=>(t:Rat)) x
theorem evI_set(x:Rat)(l:yo)(i:Nat)(v d:Int)(h:l[i]? = some v):evI (l.set i (v+d)) x=evI l x+(d:Rat)*x ^ i:=by
 unfold evI;rw[sx,se];exact ev_set x _ _ i _ (by rw[qR,h];rfl)
theorem evI_zeros(x:Rat)(n:Nat):evI (qK n 0) x=0:=by
 unfold evI;rw[sy];exact ev_zeros x n
theorem evI_take_succ(x:Rat)(l:yo)(i:Nat)(v:Int)(h:l[i]? = some v):evI (l.take (i+1)) x=evI (l.take i) x+(v:Rat)*x ^ i:=by
 have hi:i<l.length:=(pY.mp h).1;unfold evI;rw[sC,h];show ev ((l.take i++[v]).map _) x=_;rw[sD];show ev (_++[(v:Rat)]) x=_;rw[ev_snoc,qz,qN,rm Yl]
theorem evI_cons(x:Rat)(t:Int)(l:yo):evI (t::l) x=(t:Rat)+x*evI l x:=rfl
def quot(c:Rat):yn->yn
 | []=>[]
 | [_]=>[]
 | _::b::l=>ev (b::l) c::quot c (b::l)
theorem quot_ev(c x:Rat):∀l:yn,ev l x=ev l c+(x-c)*ev (quot c l) x
 | []=>by show(0:Rat)=0+_*0;grind
 | [a]=>by show a+x*0=a+c*0+(x-c)*0;grind
 | a::b::l=>by
   have h:=quot_ev c x (b::l);show a+x*ev (b::l) x=a+c*ev (b::l) c+(x-c)*(ev (b::l) c+x*ev (quot c (b::l)) x);rw[h];grind
theorem quot_length(c:Rat):∀l:yn,(quot c l).length=l.length-1
 | []=>rfl
 | [_]=>rfl
 | _::b::l=>by
   show(quot c (b::l)).length+1=_;rw[quot_length c (b::l)];simp
theorem ev_none(x:Rat):∀l:yn,(∀q∈l,q=0)->ev l x=0
 | [],_=>rfl
 | a::l,h=>by
   show a+x*ev l x=0;rw[h a pT,ev_none x l λq hq=>h q (pU _ hq)]
   grind
theorem ident:∀(n:Nat) (l:yn),l.length<=n->∀s:Nat,(∀k:Nat,s<=k->ev l (k:Rat)=0)->∀q∈l,q=0
 | 0,l,hl,_,_=>by
   have e:l=[]:=sE Yl;rw[e];exact λq h=>nomatch h
 | n+1,[],_,_,_=>λq h=>nomatch h
 | n+1,a::t,hl,s,h=>by
   have J:=h s (qd _)
   have hq:∀q∈quot (s:Rat) (a::t),q=0:=ident n _ (by rw[quot_length];simp at hl ⊢;lia) (s+1) λk hk=>by
    have e:=quot_ev (s:Rat) (k:Rat) (a::t);rw[h k Yl,J]at e;have W:((k:Rat)-(s:Rat))*ev (quot (s:Rat) (a::t)) (k:Rat)=0:=by grind
    rcases sF.mp W with z | z
    ·have z2:(k:Rat)=(s:Rat):=by grind
     have z3:k=s:=by exact_mod_cast z2
     lia
    ·exact z
   have Y:∀x,ev (a::t) x=0:=λx=>by
    rw[quot_ev (s:Rat) x (a::t),J,ev_none x _ hq];grind
   have ha:a=0:=by
    have:=Y 0;show a=0;have e:ev (a::t) 0=a+0*ev t 0:=rfl;rw[e]at this
    grind
   have ht:∀q∈t,q=0:=ident n t (by simp at hl;lia) 1 λk hk=>by
    have e:=Y (k:Rat);have e1:ev (a::t) (k:Rat)=a+(k:Rat)*ev t (k:Rat):=rfl;rw[e1,ha]at e;have W:(k:Rat)*ev t (k:Rat)=0:=by grind
    rcases sF.mp W with z | z
    ·have z3:k=0:=by exact_mod_cast z
     lia
    ·exact z
   intro q O
   rcases pV.mp O with z | z
   ·rw[z];exact ha
   ·exact ht q z
def dif:yn->yn->yn
 | [],m=>m.map (· * (-1))
 | a::l,m=>(a-m.headD 0)::dif l m.tail
theorem ev_head(x:Rat)(m:yn):ev m x=m.headD 0+x*ev m.tail x:=by
 cases m with
 | nil=>show(0:Rat)=0+x*0;grind
 | cons b m=>rfl
theorem dif_ev(x:Rat):∀l m:yn,ev (dif l m) x=ev l x-ev m x
 | [],m=>by
   show ev (m.map (· * (-1))) x=0-ev m x;rw[ev_scale];grind
 | a::l,m=>by
   show(a-m.headD 0)+x*ev (dif l m.tail) x=(a+x*ev l x)-ev m x;rw[dif_ev x l m.tail,ev_head x m];grind
theorem dif_none:∀l m:yn,l.length=m.length->(∀q∈dif l m,q=0)->l=m
 | [],[],_,_=>rfl
 | [],_::_,e,_=>nomatch e
 | _::_,[],e,_=>nomatch e
 | a::l,b::m,e,h=>by
   have h1:a-b=0:=h _ pT;have h2:=dif_none l m (by simpa using e) λq Y=>h q (pU _ Y)
   rw[h2,show a=b by grind]
theorem same_of(l m:yn)(e:l.length=m.length)(h:∀x,ev l x=ev m x):l=m :=
 dif_none l m e (ident _ _ (qd _) 0 λk _=>by rw[dif_ev,h];grind)
end Cv
namespace L2
open PySem PySem.Spec PyProof.Rows
theorem Nn:∀(names:List (Str×vX)) (Y:List (Str×ge)),(∀x∈names,x.2 = .free->∃c,env.cells.lookup x.1=some c) ->
 ∃cl:List (Str×ge),(forIn (m:=Sem) names Y λx r=>do
  if x.2 == .free then pure (ForInStep.yield ((x.1,<- cellOf env x.1)::r)) else pure (ForInStep.yield r))=pure cl /\
  (∀p∈cl,p∈Y\/env.cells.lookup p.1=some p.2)/\(∀p∈Y,p∈cl)/\∀x∈names,x.2 = .free->∃c,(x.1,c)∈cl
 | [],Y,_=>⟨Y,Z,λ_ h=>.inl h,λ_ h=>h,λ_ h=>nomatch h⟩
 | x::r,Y,h=>by
   by_cases hk:x.2 = .free
   ·obtain⟨c,hc⟩:=h x pT hk;obtain⟨cl,e,h1,h2,h3⟩:=Nn r ((x.1,c)::Y) λy W=>h y (pU _ W);refine⟨cl,?_,λp hp=>?_,λp hp=>h2 p (pU _ hp),λy W J=>?_⟩
    ·rw[sJ];have z:(x.2 == NameKind.free)=true:=by rw[hk];rfl
     have O:cellOf env x.1=pure c:=by unfold cellOf;rw[hc]
     simp only[z,if_true,O];exact e
    ·rcases h1 p hp with q | q
     ·rcases pV.mp q with rfl | q
      ·exact .inr hc
      ·exact .inl q
     ·exact .inr q
    ·rcases pV.mp W with rfl | W
     ·exact⟨c,h2 _ pT⟩
     ·exact h3 y W J
   ·obtain⟨cl,e,h1,h2,h3⟩:=Nn r Y λy W=>h y (pU _ W);refine⟨cl,?_,h1,h2,λy W J=>?_⟩
    ·rw[sJ]
     have z:(x.2 == NameKind.free)=false:=by
      cases e:x.2<;>first | rfl | exact absurd e hk
     simp only[z,Bool.false_eq_true,if_false];exact e
    ·rcases pV.mp W with rfl | W
     ·exact absurd J hk
     ·exact h3 y W J
theorem N8:∀{cl:List (Str×ge)},(x,c)∈cl->∃Y,cl.lookup x=some Y
 | [],h=>nomatch h
 | (y,d)::r,h=>by
   by_cases e:x=y
   ·subst e;exact⟨d,by simp⟩
   ·rcases pV.mp h with q | q
    ·cases q;exact absurd rfl e
    ·obtain⟨Y,q'⟩:=N8 q;refine⟨Y,?_⟩;have:(x == y)=false:=by simpa using e
     rw[sL,this];exact q'
theorem N9(h:∀x∈scope.names,x.2 = .free->∃c,env.cells.lookup x.1=some c) :
 ∃cl:List (Str×ge),closureFor scope env=pure cl/\(∀x c,cl.lookup x=some c->env.cells.lookup x=some c)/\∀x∈scope.names,x.2 = .free->∃c,cl.lookup x.1=some c:=by
 obtain⟨cl,e,h1,_,W⟩:=Nn scope.names [] h;refine⟨cl,?_,λx c q=>?_,λx O Y=>?_⟩
 ·unfold closureFor;simp only[bind_pure];exact e
 ·rcases h1 _ (PySem.mem_of_lookup q) with z | z
  ·exact nomatch z
  ·exact z
 ·obtain⟨c,J⟩:=W x O Y;exact N8 J
theorem KD{env:Env}:∀{names:List (Str×vX)} {x:Str},names.lookup x=some .free ->
 (names.map fun(n,k)=>if (k == NameKind.free&&env.scope.kind == .function&&env.kindOf n == some .cell) then (n,NameKind.cell) else (n,k)).lookup x=some .cell \/
 (names.map fun(n,k)=>if (k == NameKind.free&&env.scope.kind == .function&&env.kindOf n == some .cell) then (n,NameKind.cell) else (n,k)).lookup x=some .free
 | [],_,h=>by simp at h
 | (n,k)::r,x,h=>by
   have ih:=@KD env r x;show qv x ((if (k == NameKind.free&&env.scope.kind == .function&&env.kindOf n == some .cell)=true then (n,NameKind.cell) else (n,k))::_)=_\/qv x ((if (k == NameKind.free&&env.scope.kind == .function&&env.kindOf n == some .cell)=true then (n,NameKind.cell) else (n,k))::_)=_;cases hx:x == n with
   | true =>
     simp only[sL,hx]at h;cases h;by_cases hc:(NameKind.free == NameKind.free&&env.scope.kind == .function&&env.kindOf n == some .cell)=true
     ·rw[if_pos hc];simp[sL,hx]
     ·rw[if_neg hc];simp[sL,hx]
   | false =>
     simp only[sL,hx]at h;by_cases hc:(k == NameKind.free&&env.scope.kind == .function&&env.kindOf n == some .cell)=true
     ·rw[if_pos hc];simp only[sL,hx];exact ih h
     ·rw[if_neg hc];simp only[sL,hx];exact ih h
theorem NJ{env:Env}{x:Str}:∀{names:List (Str×vX)},(∀y∈names,y.2 ≠ .cell) ->
 ((names.map fun(n,k)=>if (k == NameKind.free&&env.scope.kind == .function&&env.kindOf n == some .cell) then (n,NameKind.cell) else (n,k)).lookup x=some .cell \/
  (names.map fun(n,k)=>if (k == NameKind.free&&env.scope.kind == .function&&env.kindOf n == some .cell) then (n,NameKind.cell) else (n,k)).lookup x=some .free)->(x,NameKind.free)∈names
 | [],_,h=>by simp at h
 | (n,k)::r,hc,h=>by
   have ih:=@NJ env x r λy Y=>hc y (pU _ Y);have hk:k ≠ .cell:=hc (n,k) pT;change qv x ((if (k == NameKind.free&&env.scope.kind == .function&&env.kindOf n == some .cell)=true then (n,NameKind.cell) else (n,k))::_)=_\/qv x ((if (k == NameKind.free&&env.scope.kind == .function&&env.kindOf n == some .cell)=true then (n,NameKind.cell) else (n,k))::_)=_ at h;cases hx:x == n with
   | true =>
     have e:x=n:=by simpa using hx
     subst e;by_cases hq:(k == NameKind.free&&env.scope.kind == .function&&env.kindOf x == some .cell)=true
     ·have:k = .free:=by
       cases k<;>first | rfl | (simp at hq)
      subst this;exact pT
     ·rw[if_neg hq]at h;simp only[sL,hx]at h
      rcases h with h | h
      ·cases h;exact absurd rfl hk
      ·cases h;exact pT
   | false =>
     refine pU _ (ih ?_);by_cases hq:(k == NameKind.free&&env.scope.kind == .function&&env.kindOf n == some .cell)=true
     ·rw[if_pos hq]at h;simpa only[sL,hx] using h
     ·rw[if_neg hq]at h;simpa only[sL,hx] using h
def Jz(X:Cx)(N:yr)(scope:vi)(cl:List (Str×ge))(C:ge)(s:im)(H:Hp)(fp:List ge):Cx :=
 { prog:=X.prog,w:=X.w,K:=X.K,mg:=X.mg,base:=X.base,A:=X.A,N:=N,s₀:=s,H₀:=H,env:=compEnvC scope cl C X.env,outer:=X.stack,stack:=X.stack,ex:=fp,
   fn:=λ_=>false,calm:=X.calm,pn:=[],xe:=λ_ _=>False }
def cS(nt:Nat)(js:yq)(σ:St):St:=qK nt none++js.map λi=>σ.getD i none
abbrev NU(ys:List gl):Obj:={ cls:=.type "list",data:=.seq ys.toArray ys.length }
theorem Tb{it af:gl}(I:Nat->im->Prop)
 (aj:∀n s,I n s->na (pi prog w) A (pyNext it) (λr O=>match r with
  | none=>R (.ok .next) O
  | some v=>na (pi prog w) A (vN Y it v) (λ_ J=>na (pi prog w) A (assign Y env v) (λ_ ac =>
   na (pi prog w) A (forIn ifs true λc r=>if r=true then do let ok <- isTrue c env (tz c env);pure (ForInStep.yield ok) else pure (ForInStep.yield r)) (λok W =>
    if ok=true then na (pi prog w) A (tz elt env) (λx ad =>
     na (pi prog w) A (call (.builtin "list.append") [af,x]) (λ_ z=>∃m,m<n/\I m z) (λ_ _=>False) ad) (λ_ _=>False) W
    else ∃m,m<n/\I m W) (λ_ _=>False) ac) (λ_ _=>False) J) (λ_ _=>False) O) (λ_ _=>False) s)
 (n:Nat) (h:I n s) :
 vA (pi prog w) A (.compLoop (.ListComp elt [⟨Y,iter,ifs,0⟩] scope pos) 0 it af env) R s:=by
 refine codeAny_loop rfl I (λn s hI=>?_) n h;show na _ A ((compTurn (.ListComp elt [⟨Y,iter,ifs,0⟩] scope pos) 0 it af env).onRaise (λx=>do noteFrame x env;theTreesLotGoes x)) _ _ s
 refine wpAny_noted ?_;rw[compTurn_list];refine ii (vV (ii (u8 (aj n s hI) (λr O aa=>?_) λ_ _ h'=>h'.elim)));cases r with
 | none=>exact li aa
 | some v =>
   refine ii (u8 aa (λ_ J ag=>?_) λ_ _ h'=>h'.elim);refine ii (u8 ag (λ_ ac ah=>ii (u8 ah (λok W ae=>?_) λ_ _ h'=>h'.elim)) λ_ _ h'=>h'.elim);cases ok with
   | false=>exact li ⟨Z,ae⟩
   | true =>
     exact ii (ii (u8 ae (λx ad ak=>ii (u8 ak (λ_ z ai=>li (li ⟨Z,ai⟩)) λ_ _ h'=>h'.elim)) λ_ _ h'=>h'.elim))
def PTs(X:Cx)(ifs:List Expr)(t:TT):Prop :=
 ∀ (pins:List (ge×Obj)) (s:im) (σ:St) (H:Hp) (Q:Bool->Hp->Prop),Inv X pins σ H s->t σ H Q ->
   na (pi X.prog X.w) X.A (forIn ifs true λc r=>if r=true then do let ok <- isTrue c X.env (tz c X.env);pure (ForInStep.yield ok) else pure (ForInStep.yield r)) (TP X pins σ Q) X.xe s
def QP:TT:=λ_ H Q=>Q true H
theorem Iv:PTs X [] QP:=λ_ _ _ H _ I h=>wpAny_tests_nil ⟨H,I,h⟩
theorem Pw(h:PT X c t):PTs X [c] t:=λpins s σ H Q I q=>wpAny_tests_one (h pins s σ H Q I q)
structure LcW(J:It)(n nt:Nat)(js:yq)(σ:St)(g:TG)(tc:TT)(te:TE)(Fin:yt->Hp->Prop)(W:Nat->yt->Hp->Prop):Prop where
 go:∀i zs H,i<n->W i zs H->J.go i H/\zs.length<io
 step:∀i zs H x H',i<n->W i zs H->J.yld i H x H'->g x (cS nt js σ) H' λσ2 H2=>tc σ2 H2 λb H3=>if b=true then te σ2 H3 λy H4=>W (i+1) (zs++[y]) H4 else W (i+1) zs H3
 stop:∀zs H,W n zs H->J.stop n H/\zs.length<=io/\Fin zs H
@[irreducible] def tLC(wi:TI)(nt:Nat)(js:yq)(g:TG)(tc:TT)(te:TE):TE:=λσ H Q=>wi σ H λJ H1 =>
 ∃(n:Nat) (W:Nat->yt->Hp->Prop),W 0 [] H1/\LcW J n nt js σ g tc te (λzs H'=>∀p,H' p=none->Q (.ref p) (upd H' p (.lst zs))) W
theorem Jo{wi:TI}
 (h:wi σ H λJ H1=>∃(n:Nat) (W:Nat->yt->Hp->Prop),W 0 [] H1/\LcW J n nt js σ g tc te (λzs H'=>∀p,H' p=none->Q (.ref p) (upd H' p (.lst zs))) W):tLC wi nt js g tc te σ H Q:=by
 unfold tLC;exact h
theorem fV{wi:TI}(h:tLC wi nt js g tc te σ H Q) :
 wi σ H λJ H1=>∃(n:Nat) (W:Nat->yt->Hp->Prop),W 0 [] H1/\LcW J n nt js σ g tc te (λzs H'=>∀p,H' p=none->Q (.ref p) (upd H' p (.lst zs))) W:=by
 unfold tLC at h;exact h
structure KA(X:Cx)(N:yr)(nt:Nat)(js:yq)(scope:vi):Prop where
 kind:scope.kind = .function
 nocell:∀y∈scope.names,y.2 ≠ .cell
 names:∀y∈scope.names,y.2 = .local->scope.names.lookup y.1=some .local
 free:∀y∈scope.names,y.2 = .free->X.env.kindOf y.1=some .cell\/X.env.kindOf y.1=some .free
 len:N.length=nt+js.length
 outer:∀j i,js[j]? = some i->∃x,N[nt+j]? = some x/\X.N[i]? = some x/\scope.names.lookup x=some .free
def PF(NX:yr)(sc:vi)(N:yr)(nt:Nat)(js:yq)(scope:vi):Bool :=
 decide (scope.kind = .function)&&scope.names.all (λy=>decide (y.2 ≠ .cell))&&scope.names.all (λy=>decide (y.2 ≠ .local)||decide (scope.names.lookup y.1=some .local)) &&
 scope.names.all (λy=>decide (y.2 ≠ .free)||(decide (sc.names.lookup y.1=some .cell)||decide (sc.names.lookup y.1=some .free)))&&decide (N.length=nt+js.length) &&
 (pK js.length).all λj=>match js[j]?,N[nt+j]? with
  | some i,some x=>decide (NX[i]? = some x)&&decide (scope.names.lookup x=some .free)
  | _,_=>false
theorem KA.look(J:X.N=NX)(W:X.env.scope=sc)(h:PF NX sc N nt js scope=true):KA X N nt js scope:=by
 unfold PF at h;simp only[Bool.and_eq_true,sM,Bool.or_eq_true,decide_eq_true_eq]at h;obtain⟨⟨⟨⟨⟨h1,h2⟩,O⟩,h4⟩,h5⟩,h6⟩:=h;refine⟨h1,h2,λy Y hl=>(O y Y).resolve_left λz=>z hl,λy Y hf=>?_,h5,λj i e=>?_⟩
 ·have q:=(h4 y Y).resolve_left λz=>z hf;rw[<- W]at q;exact q
 ·have hj:j<js.length:=(pY.mp e).1;have q:=h6 j (pO.mpr hj);rw[e]at q;cases en:N[nt+j]? with
  | none=>rw[en]at q;cases q
  | some x =>
    rw[en]at q;simp only[Bool.and_eq_true,decide_eq_true_eq]at q;exact⟨x,Z,by rw[J];exact q.1,q.2⟩
section
variable {X:Cx}{N:yr}{nt:Nat}{js:yq}{scope:vi}{cl:List (Str×ge)}
theorem HOk.track(x:HOk P w H h)(W:H a=none)(Y:Jb P w (upd H a o) h a o):HOk P w (upd H a o) h:=λb u e=>by
 by_cases hb:b=a
 ·subst hb;rw[Hu]at e;cases e;exact Y
 ·rw[HZ hb]at e;exact(x b u e).stay (λc v _ q=>q) (λc q=>by rw[HZ (HW q W)];exact q) λc xs q=>by rw[HZ (HW q W)];exact q
theorem YG(I:Inv X pins σ H s)(ok:KA X N nt js scope)
 (W:∀x c,cl.lookup x=some c->X.env.cells.lookup x=some c) (O:∀x∈scope.names,x.2 = .free->∃c,cl.lookup x.1=some c)
 (hf:∀b∈fp,QO X pins H b) (ho:∀b∈fp,∃o,s.heap.get? b=some o/\∀v,o.data ≠ .cell v)
 (hD:s.heap.objs.size<=D) (hC:s.heap.objs.size<=C) (ae:D≠C) (k:∀b o,s.heap.get? b=some o->h'.get? b=some o) (hn:h'.Ns C m) (hd:h'.get? D=some (NU [])) :
 Inv (Jz X N scope cl C s H fp) [(D,NU [])] (cS nt js σ) H { s with heap:=h',toks:=tk }:=by
 have lt:∀b∈fp,b<s.heap.objs.size:=λb Y=>by obtain⟨o,e,_⟩:=ho b Y;exact Heap.lt_size e
 have ac:∀b∈frs X.stack,b<s.heap.objs.size:=λb Y=>by
  obtain⟨_,o,e,_⟩:=I.stack.mem Y;exact Heap.lt_size e
 refine⟨⟨I.ok.mod,ok.kind,I.ok.glob,I.ok.blt,hC,λx y c h1 h2=>I.ok.inj x y c (W x c h1) (W y c h2),λx hx=>?_,λx c hx=>absurd hx Bool.false_ne_true,I.ok.hd,I.ok.frames,.inl rfl,λb Y=>⟨?_,λx c e=>(hf b Y).2.2.2.2.1 x c (W x c e)⟩,I.bs,
  pQ I.ok.bsz I.sz,λb o e Y=>?_,λb Y hs=>?_,I.stack,I.stkFree⟩,Z,I.bare,Un.kept k,⟨m,hn,λj x v h1 h2 h3=>?_⟩,λx c e=>?_,I.hok.fresh hC,λx c e=>I.freeC x c (W x c e),λp hp=>?_,I.hok.kept k,?_⟩
 ·obtain⟨c,hc⟩:=O (x,.free) (NJ ok.nocell hx) rfl;exact⟨c,hc⟩
 ·exact pJ (pF (lt b Y) hC)
 ·rcases(hf b Y).2.2.2.1 with z | z
  ·exact I.ok.noex b o e z
  ·exact absurd (pF (Heap.lt_size e) (pQ I.ok.bsz z)) (pH _)
 ·rcases pV.mp (I.stkSub b hs) with z | z
  ·exact(hf b Y).2.1 z
  ·exact(hf b Y).2.2.1 z
 ·change N[j]? = some x at h1;unfold cS at h2;by_cases hj:j<nt
  ·rw[qQ (by simpa using hj),qP]at h2
   rw[if_pos hj]at h2;cases h2
  ·rw[qO (by simpa using Nat.not_lt.mp hj),qW,qR]at h2
   cases ei:js[j-nt]? with
   | none=>rw[ei]at h2;cases h2
   | some i =>
     rw[ei]at h2;obtain⟨y,e1,e2,e3⟩:=ok.outer _ i ei;rw[show nt+(j-nt)=j by lia,h1]at e1
     cases e1
     have hv:σ[i]? = some (some v):=by
      simp only[rN,pC.injEq]at h2;rw[sO]at h2;cases eσ:σ[i]? with
      | none=>rw[eσ]at h2;cases h2
      | some z=>rw[eσ]at h2;simp at h2;rw[h2]
     obtain⟨ag,_,hl⟩:=I.loc;have kf:=ok.free (x,.free) (PySem.mem_of_lookup e3) rfl;obtain⟨u,r,l⟩:=hl i x v e2 hv (kf.elim (λz=>.inr (.inl z)) λz=>.inr (.inr z));refine⟨u,r,.inr ⟨KD e3,?_⟩⟩
     rcases l with ⟨kl,_⟩ | ⟨_,c,ec,⟨oc,J,aa⟩⟩
     ·rcases kf with z | z<;>(rw[z]at kl;cases kl)
     ·obtain⟨c',ad⟩:=O (x,.free) (PySem.mem_of_lookup e3) rfl;have e':=W x c' ad;rw[ec]at e';cases e';exact⟨c,ad,oc,k _ _ J,aa⟩
 ·obtain⟨v,oc,J,aa⟩:=I.cell x c (W x c e);exact⟨v,oc,k _ _ J,aa⟩
 ·have e:p=(D,NU []):=by
   have af:p∈[(D,NU [])]:=hp
   simpa using af
  subst e;refine⟨hd,I.hok.fresh hD,ae,λY=>absurd (pF (ac D Y) hD) (pH _),λv z=>by cases z⟩
 ·show(cS nt js σ).length=N.length;unfold cS;rw[qV,qW,qz,ok.len]
end
def UA(g:TG)(nt:Nat):Prop:=∀x σ H Q,g x σ H Q->g x σ H λσ2 H2=>(σ2.length=σ.length/\σ2.drop nt=σ.drop nt)/\Q σ2 H2
theorem HY(h:i<nt):UA (K1 i) nt:=λx σ H Q q=>⟨⟨rB,by
 apply sP;intro k;rw[sQ,sQ,qa Yl]⟩,q⟩
section
variable {X:Cx}{N:yr}{nt:Nat}{js:yq}{scope:vi}{elt iter tg:Expr}{ifs:List Expr}{pos:Pos}{g:TG}{tc:TT}{te:TE}{wi:TI}
theorem Wj{σ Y:St}(W:Y.length=(cS nt js σ).length)(hd:Y.drop nt=(cS nt js σ).drop nt):∀(i:Nat) v,(cS nt js σ)[i]? = some (some v)->Y[i]? = some (some v):=λi v e=>by
 by_cases hi:i<nt
 ·unfold cS at e;rw[qQ (by simpa using hi),qP,if_pos hi]at e
  cases e
 ·have q:((cS nt js σ).drop nt)[i-nt]? = some (some v):=by rw[sQ,show nt+(i-nt)=i by lia];exact e
  rw[<- hd,sQ,show nt+(i-nt)=i by lia]at q
  exact q
set_option maxHeartbeats 4000000 in
theorem Uu{σ:St}{H:Hp}{Y:im}{cl:List (Str×ge)}{J:It}{fp:List ge}{it:ge}{tn:Nat->rf->Prop}{E:gl->im->Prop}{aJ:yt->Hp->Prop}{W:Nat->yt->Hp->Prop}{nn:Nat}
 {RR:gl->ge->Result->im->Prop} (ah:X.calm=true) (ok:KA X N nt js scope)
 (aD:∀x c,cl.lookup x=some c->X.env.cells.lookup x=some c) (aG:∀x∈scope.names,x.2 = .free->∃c,cl.lookup x.1=some c)
 (hg:∀cl C s H fp,PG (Jz X N scope cl C s H fp) tg g) (hk:UA g nt) (hc:∀cl C s H fp,PTs (Jz X N scope cl C s H fp) ifs tc) (he:∀cl C s H fp,PE (Jz X N scope cl C s H fp) elt te)
 (I:Inv X pins σ H Y) (T:Rl X.prog X.w X.K tg J fp it tn) (st:tn 0 Y.heap) (hf:∀b∈fp,QO X pins H b) (w0:W 0 [] H) (lw:LcW J nn nt js σ g tc te aJ W)
 (aR:∀D C s' H' zs m,Inv X pins σ (upd H' D (.lst zs)) s'->s'.heap.Ns C m->H' D=none->(upd H' D (.lst zs)) C=none->C≠X.env.locals->X.s₀.heap.objs.size<=C->(∀x c,X.env.cells.lookup x=some c->c≠C) ->
  (∀p∈X.pn++pins,p.1≠C)->aJ zs H'->RR (.ref D) C (.ok .next) s') :
 na (pi X.prog X.w) X.A (newList []) (λaz ae=>na (pi X.prog X.w) X.A (newFunctionEnv scope X.env.globals cl [] X.env.qual none .none (some X.env)) (λam aI =>
  vA (pi X.prog X.w) X.A (.compStart (.ListComp elt [⟨tg,iter,ifs,0⟩] scope pos) 0 (.ref it) az { am with scope:=relabel scope X.env }) (RR az am.locals) aI) E ae) E Y:=by
 refine vf (wpAny_newFunctionEnv ok.nocell (by intro y hy;simp at hy) (λag ad aa=>?_) ok.kind)
 dsimp only at ad aa ⊢;generalize an:Y.heap.push { cls:=.type "list",dict:=none,data:=.seq ([]:List gl).toArray }=H2 at ad aa ⊢;have hC:H2.objs.size=Y.heap.objs.size+1:=by rw[<- an,Heap.size_push]
 have ai:Y.heap.objs.size≠H2.objs.size:=by rw[hC];exact pJ (qA _)
 have af:Y.heap.objs.size<=H2.objs.size:=by rw[hC];exact Nat.le_succ _
 have ac:∀b,b<Y.heap.objs.size->b≠H2.objs.size/\b≠Y.heap.objs.size:=λb O=>⟨by rw[hC];exact pJ (sS O),pJ O⟩
 have ao:∀b o,Y.heap.get? b=some o->ag.get? b=some o:=λb o e=>aa.extBut b o (ac b (Heap.lt_size e)).1 (Heap.get?_push_of_some _ (an ▸ Heap.get?_push_of_some _ e));have aA:ag.get? Y.heap.objs.size=some (NU []):=aa.extBut _ _ ai (Heap.get?_push_of_some _ (an ▸ Heap.get?_push_size _ rfl));have ho:=T.obj 0 _ st;have lt:∀b∈fp,b<Y.heap.objs.size:=λb O=>by obtain⟨o,e,_⟩:=ho b O;exact Heap.lt_size e
 have ak:∀ae:im,ae={ Y with heap:=ag,toks:=Y.toks+([]:List (Str×gl)).length } ->
  vA (pi X.prog X.w) X.A (.compLoop (.ListComp elt [⟨tg,iter,ifs,0⟩] scope pos) 0 (.ref it) (.ref Y.heap.objs.size) (compEnvC scope cl H2.objs.size X.env)) (RR (.ref Y.heap.objs.size) H2.objs.size) ae:=by
  rintro ae rfl
  have I0:Inv (Jz X N scope cl H2.objs.size Y H fp) [(Y.heap.objs.size,NU [])] (cS nt js σ) H { Y with heap:=ag,toks:=Y.toks+([]:List (Str×gl)).length } :=
   YG I ok aD aG hf ho (qd _) af ai ao ad aA
  have aq:∀{H':Hp} {ys:List gl},(∀b∈fp,H' b=none)->∀b∈fp,QO (Jz X N scope cl H2.objs.size Y H fp) [(Y.heap.objs.size,NU ys)] H' b:=fun{H' ys} hn b O =>
   ⟨hn b O,(ac b (lt b O)).1,I0.ok.exfs b O,.inl O,(I0.ok.exf b O).2,λp hp=>by
    have aN:p∈[(Y.heap.objs.size,NU ys)]:=hp;have e:p=(Y.heap.objs.size,NU ys):=by simpa using aN
    rw[e];exact Ne.symm (ac b (lt b O)).2⟩
  refine Tb (λn s'=>∃i zs ys H',n=nn-i/\i<=nn/\Inv (Jz X N scope cl H2.objs.size Y H fp) [(Y.heap.objs.size,NU ys)] (cS nt js σ) H' s'/\Ip zs ys/\tn i s'.heap/\(∀b∈fp,H' b=none)/\W i zs H') ?_ nn
   ⟨0,[],[],H,Z,qg _,I0,.nil,T.keep 0 _ _ st (λb _ o e=>ao b o e),λb O=>(hf b O).1,w0⟩
  rintro n s' ⟨i,zs,ys,H',au,aw,I',rv,ap,ay,w'⟩;by_cases hlt:i<nn
  case neg =>
   have aM:i=nn:=Nat.le_antisymm aw (Nat.not_lt.mp hlt);rw[aM]at w' ap;obtain⟨ax,zl,aL⟩:=lw.stop zs H' w';refine thn (T.done (Jz X N scope cl H2.objs.size Y H fp) rfl rfl rfl ah nn _ s' _ H' (λ_ _=>False) I' (aq ay) ap ax) λr s4 ⟨hr,I4⟩=>?_;subst hr;have zD:=(I4.pin (Y.heap.objs.size,NU ys) (qf _ (sU.mpr rfl)));have u:=I4.base
   have u2:Un (frs X.stack) fp H (upd H' Y.heap.objs.size (.lst zs)) Y.heap s4.heap :=
    ⟨u.keep,u.slot,λb o q n hx=>by rw[HZ (pJ (Heap.lt_size q))];exact u.free b o q n hx,u.there,λb xs q=>by rw[HZ (HW (u.tups b xs q) zD.2.1)];exact u.tups b xs q,
     λb o xs q=>by rw[HZ (HW (u.frzs b o xs q) zD.2.1)];exact u.frzs b o xs q,λb ps q=>by
      obtain⟨more,e⟩:=u.tbls b ps q;exact⟨more,by rw[HZ (HW e zD.2.1)];exact e⟩⟩
   have aB:HOk X.prog X.w (upd H' Y.heap.objs.size (.lst zs)) s4.heap:=HOk.track I4.hok zD.2.1 ⟨zl,ys,_,rv,zD.1⟩;have I5:Inv X pins σ (upd H' Y.heap.objs.size (.lst zs)) s4:=I.call' I4.os u2 aB I4.bare λb O=>⟨(hf b O).2.2.2.1,(hf b O).2.1,(hf b O).2.2.2.2.1,(hf b O).2.2.2.2.2⟩;obtain⟨m,hn,_⟩:=I4.loc;refine aR _ _ s4 H' zs m I5 hn zD.2.1 ?_ ?_ (pQ I.sz af) ?_ ?_ aL
   ·rw[HZ (Ne.symm ai)];exact I4.free
   ·exact qc (pF I.lt af)
   ·intro x c e z;obtain⟨v,q⟩:=I.cell x c e;exact absurd (pF q.lt (by rw[z];exact af)) (pH _)
   ·intro p hp z;exact absurd (pF (Heap.lt_size (I.pin p hp).1) (by rw[z];exact af)) (pH _)
  case pos =>
   obtain⟨go,zl⟩:=lw.go i zs H' hlt w';have aF:=lw.step i zs H';refine thn (T.item (Jz X N scope cl H2.objs.size Y H fp) rfl rfl rfl ah i _ s' _ H' (λ_ _=>False) I' (aq ay) ap go) λr s4 ⟨u,hr,h4⟩=>?_;subst hr;refine thn h4 λ_ s5 ⟨x,H5,I5,r5,y5,ar,aO⟩=>?_;have aP:=I5.pinned (aq aO) (T.obj _ _ ar);refine thn (hg cl _ Y H fp _ s5 _ H5 x u _ aP r5 (hk _ _ _ _ (aF x H5 hlt w' y5))) λ_ s6 ⟨av,H6,I6,⟨aj,aC⟩,q6⟩=>?_;refine thn (hc cl _ Y H fp _ s6 av H6 _ I6 q6) λaT s7 ⟨H7,I7,q7⟩=>?_
   have al:∀{H8:Hp} {aH:St} {s8:im},Inv (Jz X N scope cl H2.objs.size Y H fp) ([(Y.heap.objs.size,NU ys)]++Qj fp s5.heap) aH H8 s8->tn (i+1) s8.heap/\∀b∈fp,H8 b=none:=fun{H8 aH s8} I8 =>
    ⟨T.keep _ _ _ ar λb O o e=>(I8.pin (b,o) (qf _ (qf _ (Ma O e)))).1,λb O=>by
     obtain⟨o,e,d⟩:=T.obj _ _ ar b O;exact(I8.pin (b,o) (qf _ (qf _ (Ma O e)))).2.1⟩
   cases aT with
   | false =>
     rw[if_neg Bool.false_ne_true]at q7 ⊢;obtain⟨a1,a2⟩:=al I7;exact⟨nn-(i+1),by rw[au];exact Nat.sub_lt_sub_left hlt (qA i),i+1,zs,ys,H7,Z,hlt,I7.unpinned.weak (by rw[aj]) (Wj aj aC),rv,a1,a2,q7⟩
   | true =>
     rw[if_pos rfl]at q7 ⊢;refine thn (he cl _ Y H fp _ s7 av H7 _ I7 q7) λv s8 ⟨y,H8,I8,r8,q8⟩=>?_;have zD:=(I8.pin (Y.heap.objs.size,NU ys) (qf _ (pX _ (sU.mpr rfl))));have aE:ys.length<io:=by rw[<- rv.length];exact zl
     obtain⟨a1,a2⟩:=al I8;refine append_at (hsz:=by rw[qZ];exact pR aE) zD.1 λh9 as aK=>?_
     have aS:Inv (Jz X N scope cl H2.objs.size Y H fp) [] (cS nt js σ) H8 s8:=(I8.pins_of (pins':=[]) λp hp=>nomatch hp).weak (by rw[aj]) (Wj aj aC)
     have I9:Inv (Jz X N scope cl H2.objs.size Y H fp) [] (cS nt js σ) H8 { s8 with heap:=h9 }:=aS.turned (t':=s8.toks) (it:=Y.heap.objs.size) (λb o O e=>as.extBut b o O e) zD.2.1 ai (.inr (qd _))
      (λx c e z=>by
       obtain⟨v,q⟩:=I.cell x c (aD x c e);exact absurd (pF q.lt (by rw[z];exact qd _)) (pH _)) (λp hp=>nomatch hp)
     refine⟨nn-(i+1),by rw[au];exact Nat.sub_lt_sub_left hlt (qA i),i+1,zs++[y],ys++[v],H8,Z,hlt,I9.pins_of (λp hp=>?_),rv.snoc r8,T.keep _ _ _ a1 λb O o e=>as.extBut b o (ac b (lt b O)).2 e,a2,q8⟩
     have e:p=(Y.heap.objs.size,NU (ys++[v])):=by simpa using hp
     subst e;refine⟨?_,zD.2.1,ai,zD.2.2.2.1,λv z=>by cases z⟩
     rw[aK];show some ({ cls:=.type "list",data:=.seq (ys.toArray.push v) (ys.length+1) }:Obj)=some { cls:=.type "list",data:=.seq (ys++[v]).toArray (ys++[v]).length };rw[qV,rH,List.push_toArray]
 exact codeAny_compStart_list (ak _ rfl) (T.self _ 0 _ _ _ (T.keep 0 _ _ st (λb _ o e=>ao b o e)) (ak _ rfl))
theorem Jj(Y:X.calm=true)(ok:KA X N nt js scope)(hi:PI X tg iter wi)(hg:∀cl C s H fp,PG (Jz X N scope cl C s H fp) tg g)(hk:UA g nt)(hc:∀cl C s H fp,PTs (Jz X N scope cl C s H fp) ifs tc)
 (he:∀cl C s H fp,PE (Jz X N scope cl C s H fp) elt te) (hs:∀x,vG iter X.env x=pure x:=by intro _;rfl):PE X (.ListComp elt [⟨tg,iter,ifs,0⟩] scope pos) (tLC wi nt js g tc te):=by
 intro pins s σ H Q I h;obtain⟨cl,O,af,z⟩:=N9 (scope:=scope) (env:=X.env) λx hx hf=>I.ok.has x.1 (ok.free x hx hf);rw[eval_ListComp];refine wpAny_comprehension_free (use:=none) rfl hs O ok.kind ok.names ?_;refine thn (hi pins s σ H _ I (fV h)) λv s1 h1=>thn h1 λam s2 h2=>?_;obtain⟨it,fp,tn,J,H2,e,I2,T,ak,f2,nn,W,w0,lw⟩:=h2;subst e;refine Uu (RR:=λaj C=>compPost (pi X.prog X.w) X.A X.xe none (EP X pins σ Q) aj C) Y ok af z hg hk hc he I2 T ak f2 w0 lw ?_;intro D C s' H' zs m I3 hn ad ac ae al ah ai ag;exact⟨m,hn,λan aa=>⟨.ref D,_,I3.turned (t':=s'.toks) (it:=C) (λb o hb e=>aa.extBut b o hb e) ac ae (.inr al) ah ai,Z,ag D ad⟩⟩
theorem TQ(aa:X.calm=true)(hN:X.N.Nodup)(ai:X.N[i]? = some y)(hy:X.env.kindOf y=some .local)(ok:KA X N nt js scope)(hi:PI X tg iter wi)(hg:∀cl C s H fp,PG (Jz X N scope cl C s H fp) tg g)(hk:UA g nt)
 (hc:∀cl C s H fp,PTs (Jz X N scope cl C s H fp) ifs tc) (he:∀cl C s H fp,PE (Jz X N scope cl C s H fp) elt te)
 (ao:swapsWith (.ListComp elt [⟨tg,iter,ifs,0⟩] scope pos) (some (.Name y py)) O.line X.env=pure true) (hs:∀x,vG iter X.env x=pure x:=by intro _;rfl) :
 PS X (.Assign [.Name y py] (.ListComp elt [⟨tg,iter,ifs,0⟩] scope pos) O) (Xw (tLC wi nt js g tc te) (K1 i)):=by
 intro pins s σ H Y I h;obtain⟨cl,ac,am,ae⟩:=N9 (scope:=scope) (env:=X.env) λx hx hf=>I.ok.has x.1 (ok.free x hx hf);rw[exec_Assign_Name_used _ _ _ _ ao];refine ii (vV (ii ?_));show na _ X.A (do let _ <- comprehension (.ListComp elt [⟨tg,iter,ifs,0⟩] scope pos) scope X.env _ (newList []) false (tz iter X.env) (some (assign (.Name y py) X.env))) _ _ s
 refine ii (u8 (wpAny_comprehension_free (use:=some (assign (.Name y py) X.env)) (Q:=λ_ s'=>SP X pins Y .next s') rfl hs ac ok.kind ok.names
  (thn (hi pins s σ H _ I (fV (show tLC wi nt js g tc te σ H λx H1=>K1 i x σ H1 Y.nx from h))) λv s1 h1=>thn h1 λau s2 h2=>?_)) (λ_ s' hq=>li (li hq)) λ_ _ e=>e)
 obtain⟨it,fp,tn,J,H2,e,I2,T,as,f2,nn,W,w0,lw⟩:=h2;subst e;refine Uu (RR:=λaq C=>compPost (pi X.prog X.w) X.A X.xe (some (assign (.Name y py) X.env)) (λ_ s'=>SP X pins Y .next s') aq C) aa ok am ae hg hk hc he I2 T as f2 w0 lw ?_;intro D C s' H' zs m I3 hn ak aj af ar ag ap an;show na _ X.A (assign (.Name y py) X.env (.ref D)) _ _ _;refine wpAny_assign_Name (Rv (v:=.ref D) I3 hN ai (.inl hy) rfl (λs3 I4 ad=>?_) (.inr hy));obtain⟨a,ad,ha⟩:=ad
 have al:C≠a:=by
  rcases ha with z | z
  ·rw[z];exact af
  ·exact Ne.symm (ag y a z)
 refine⟨m,hn.sameBut ad al,λav ah=>?_⟩;exact⟨_,_,I4.turned (t':=s3.toks) (it:=C) (λb o hb e=>ah.extBut b o hb e) aj af (.inr ar) ag ap,an D ak⟩
end
def Bd(n:Nat)(x:Int):Prop:=x.natAbs<2 ^ n
theorem Bd.bits(h:Bd n x):Builtin.Int.intBits x<=n:=PySem.intBits_le_iff.mpr h
def Zf(i j:Int):Prop:=∃m n,Bd m i/\Bd n j/\m+n<=134217728
theorem Zf.ok(h:Zf i j):IntMulOk i j:=by
 obtain⟨m,n,h1,h2,Y⟩:=h;exact PySem.IntMulOk.of_le h1.bits h2.bits Y
section
variable {X:Cx}
theorem Kt(hr:Jw k X.A)(O:X.prog.given.tree=none)(hk:32<=k:=by decide)
 (Y:∃(env:Env) (l:List Env),X.stack=env::l/\env.scope.isGenerator=false/\env.scope.isCoroutine=false/\env.builtins=builtinsNs/\env.globals=pc:=by exact⟨_,_,Z,Z,Z,Z,Z⟩) :
 OpR X (vm .FloorDiv) (rI (λ_ j=>j≠0) λi j=>.int (i.fdiv j)):=by
 intro pins s σ H x y v u Q I z ry h;obtain⟨i,j,rfl,rfl,J,q⟩:=h;obtain⟨t,rfl⟩:=z;obtain⟨t',rfl⟩:=ry;obtain⟨env,l,e1,e2,e3,W,e5⟩:=Y
 have hd:X.A.depth+Builtin.pylongFrames<recursionLimit:=by
  have:=hr.dp;have e:Builtin.pylongFrames<=101:=by decide
  lia
 refine floordiv_int J ⟨.int (i.fdiv j),H,I.tok _,⟨_,Z⟩,q⟩ (.inr (PySem.PylongRoom.of I.nolimit hd (PySem.SeerAt.of (I.ok.mod.seer.keeps I.bk) O (by rw[I.ok.frames,e1]) e2 e3 W e5)))
end
structure Fd(P:mo)(w:rc)(K:pP)(mg:Str->Option gl)(base:rf)(n:Nat)(x:Str)(ps:yr)(sp:Sp):Prop where
 ex:∃(f:ge) (fd:jp),HV P w K mg base CX0 n f fd ps sp/\Js K fd ps []/\qy K (.ref f)=true/\mg x=some (.ref f)
theorem Ln(F:Fd X.prog X.w X.K X.mg X.base n x ps sp)(hr:Jw k X.A)(hg:Gl X x)(J:PA X (e::es) t)(O:n<=k:=by decide)
 (Y:(x == ("__debug__" : Str))=false:=by decide) (z:lm (e::es) X.env=(false,tz e X.env)::lm es X.env:=by rfl) (W:(ut pos (lm es X.env)).any (·.1)=false:=by rfl) :
 PE X (.Call (.Name x p) (e::es) [] pos) (PQ sp [] E0 t):=by
 obtain⟨f,fd,F1,F2,F3,F4⟩:=F.ex;exact VS F1 (hr.mono O) hg F4 F3 F2 .nil Ks J Y z W
inductive Rds(K:pP)(H:Hp):V->PyData->Prop where
 | non:Rds K H .non .none
 | bl (b:Bool):Rds K H (.bl b) (.bool b)
 | int (i:Int):Rds K H (.int i) (.int i)
 | str (x:Str):Rds K H (.str x) (.str x)
 | lst {a:ge} {xs:yt} {ds:List PyData}:SqL K H a xs->xs.length=ds.length->(∀(i:Nat) x d,xs[i]? = some x->ds[i]? = some d->Rds K H x d)->Rds K H (.ref a) (.list ds)
 | tup {a:ge} {xs:yt} {ds:List PyData}:SqT K H a xs->xs.length=ds.length->(∀(i:Nat) x d,xs[i]? = some x->ds[i]? = some d->Rds K H x d)->Rds K H (.ref a) (.tuple ds)
theorem MC:∀{us:List gl} {xs:yt} {ds:List PyData},Ip xs us->xs.length=ds.length->(∀(i:Nat) x d u,xs[i]? = some x->ds[i]? = some d->Iw x u->∃Y,Reads h u d Y)->∃Y,ReadsAll h us ds Y
 | [],_,[],.nil,_,_=>⟨[],.nil⟩
 | [],_,_::_,.nil,hl,_=>by simp at hl
 | _::_,_,[],.cons _ _,hl,_=>by simp at hl
 | u::us,x::xs,d::ds,.cons r t,hl,hr=>by
   obtain⟨a1,r1⟩:=hr 0 x d u rfl rfl r;obtain⟨z,r2⟩:=MC (us:=us) (xs:=xs) (ds:=ds) t (by simpa using hl) λi W d' O e1 J q=>hr (i+1) W d' O (by simpa using e1) (by simpa using J) q
   exact⟨_,.cons r1 r2⟩
theorem LK(I:Inv X pins σ H s)(r:Rds X.K H x d):∀{u:gl},Iw x u->∃as,Reads s.heap u d as:=by
 induction r with
 | non=>intro u Y;cases Y;exact⟨_,.none⟩
 | bl b=>intro u Y;cases Y;exact⟨_,.bool b⟩
 | int i=>intro u Y;obtain⟨t,rfl⟩:=Y;exact⟨_,.int i t⟩
 | str z=>intro u Y;obtain⟨t,rfl⟩:=Y;exact⟨_,.str z t⟩
 | lst q hl _ ih =>
   intro u Y;cases Y;obtain⟨aa,O,⟨o,n,e,c,_,dd⟩,_⟩:=I.list q;obtain⟨as,J⟩:=MC O hl λi x d u e1 e2 W=>ih i x d e1 e2 W;exact⟨_,.list e c dd (by simpa using J)⟩
 | tup q hl _ ih =>
   intro u Y;cases Y;obtain⟨aa,O,⟨o,e,c,n,dd⟩,_⟩:=I.tuple q;obtain⟨as,J⟩:=MC O hl λi x d u e1 e2 W=>ih i x d e1 e2 W;exact⟨_,.tuple e c dd (by simpa using J)⟩
section
variable {X:Cx}
@[irreducible] def Nf(K:pP)(neg:Bool):R2:=λx y H Q=>∃d e,Rds K H x d/\Rds K H y e/\SeqAt.shaped d=true/\SeqAt.shaped e=true/\Q (.bl (if neg then !PyData.eqv d e else PyData.eqv d e)) H
theorem OK{K:pP}{neg:Bool}{x y:V}{H:Hp}{Q:VK}(h:∃d e,Rds K H x d/\Rds K H y e/\SeqAt.shaped d=true/\SeqAt.shaped e=true/\Q (.bl (if neg then !PyData.eqv d e else PyData.eqv d e)) H):Nf K neg x y H Q:=by
 unfold Nf;exact h
theorem gY(O:X.A.units+64<cLine):OpR X (ul .Eq) (Nf X.K false):=by
 intro pins s σ H x y v u Q I Y W h;unfold Nf at h;obtain⟨d,e,r1,r2,h1,h2,q⟩:=h;obtain⟨as,z⟩:=LK I r1 Y;obtain⟨bs,J⟩:=LK I r2 W;exact SeqAt.compareEq_shaped z J h1 h2 O ⟨.bl _,H,I,Z,q⟩
theorem gX(O:X.A.units+64<cLine):OpR X (ul .NotEq) (Nf X.K true):=by
 intro pins s σ H x y v u Q I Y W h;unfold Nf at h;obtain⟨d,e,r1,r2,h1,h2,q⟩:=h;obtain⟨as,z⟩:=LK I r1 Y;obtain⟨bs,J⟩:=LK I r2 W;exact SeqAt.compareNe_shaped z J h1 h2 O ⟨.bl _,H,I,Z,q⟩
end
theorem QL:tD "len" = some (.builtin "len"):=by decide +kernel
theorem Tf:tD "abs" = some (.builtin "abs"):=by decide +kernel
theorem IQ:tD "isinstance" = some (.builtin "isinstance"):=by decide +kernel
theorem Te:tD "all" = some (.builtin "all"):=by decide +kernel
theorem PH:tD "list" = some (.type "list"):=by decide +kernel
theorem Jr:tD "tuple" = some (.type "tuple"):=by decide +kernel
theorem Kl:tD "str" = some (.type "str"):=by decide +kernel
theorem OP:tD "int" = some (.type "int"):=by decide +kernel
theorem fm:tD "bool" = some (.type "bool"):=by decide +kernel
theorem Ux:tD "reversed" = some (.type "reversed"):=by decide +kernel
def Fx(H:Hp)(L:List (ge×HO)):Prop:=∀p∈L,H p.1=some p.2
def Mv(a:ge)(H H':Hp):Prop:=∀b o,b≠a->H b=some o->H' b=some o
theorem Mv.refl(a:ge)(H:Hp):Mv a H H:=λ_ _ _ h=>h
theorem Mv.trans(x:Mv a H H1)(y:Mv a H1 H2):Mv a H H2:=λb o n h=>y b o n (x b o n h)
theorem Mv.new(h:H p=none):Mv a H (upd H p o):=λb u _ q=>by rw[HZ (HW q h)];exact q
theorem Wk{Y:yo}{k:Int}(O:0<=k)(h:k<(Y.length:Int)):∃v:Int,atI (Y.map V.int) k=some (.int v):=by
 have hk:k.toNat<Y.length:=by lia
 have W:k=((k.toNat:Nat):Int):=by lia
 have q:atI (Y.map V.int) ((k.toNat:Nat):Int)=some (.int Y[k.toNat]):=HQ (by rw[qR,sV hk]<;>rfl)
 rw[<- W]at q;exact⟨_,q⟩
def nT(q:Rat):HO:=.tup [.int q.num,.int q.den]
def Pen(H:Hp)(a:ge):Prop:=∃c0 c1 c2:Int,H a=some (.lst [.int c0,.int c1,.int c2])
theorem Pen.same(x:Pen H a)(h:H p=none):Pen (upd H p o) a:=by
 obtain⟨O,Y,W,e⟩:=x;exact⟨O,Y,W,by rw[HZ (HW e h)];exact e⟩
theorem Pen.put:Pen (upd H a (.lst [.int O,.int Y,.int W])) a:=⟨O,Y,W,Hu⟩
def JQ(i j:Int):Prop:=(-(2 ^ 64)<i/\i<2 ^ 64)\/(-(2 ^ 64)<j/\j<2 ^ 64)\/Zf i j
theorem JQ.ok(h:JQ i j):IntMulOk i j:=by
 rcases h with ⟨h1,h2⟩ | ⟨h1,h2⟩ | h
 ·exact .of_left (intBits_le_64 h1 h2)
 ·exact .of_right (intBits_le_64 h1 h2)
 ·exact h.ok
theorem Iq:OpR X (vm .Mult) (rI JQ λi j=>.int (i*j)):=opI λ_ _ _ _ _ _ _ Y q=>mul_int q Y.ok
def QN(a:ge)(H H':Hp):Prop:=∀b,b≠a->H' b=H b
theorem QN.mv(x:QN a H H'):Mv a H H':=λb o n h=>by rw[x b n];exact h
theorem QN.put:QN a H (upd H a o):=λb n=>HZ n
theorem Pen.ne(x:Pen H a)(h:H p=some o)(hd:∀O Y W:Int,o ≠ .lst [.int O,.int Y,.int W]):p≠a:=by
 obtain⟨O,Y,W,e⟩:=x;exact Ku h e (hd O Y W)
structure Lg(a:ge)(H:Hp)(L:List (ge×HO)):Prop where
 fx:Fx H L
 ne:∀x∈L,x.1≠a
 pen:Pen H a
theorem NS(q:Rat):∀O Y W:Int,nT q ≠ .lst [.int O,.int Y,.int W]:=λ_ _ _ z=>by cases z
theorem ft{xs:yo}{i:Int}(W:0<=i)(h:i<(xs.length:Int)):∃v:Int,atI (xs.map V.int) i=some (.int v)/\v∈xs:=by
 have hk:i.toNat<xs.length:=by lia
 have Y:i=((i.toNat:Nat):Int):=by lia
 have q:atI (xs.map V.int) ((i.toNat:Nat):Int)=some (.int xs[i.toNat]):=HQ (by rw[qR,sV hk]<;>rfl)
 rw[<- Y]at q;exact⟨_,q,sW hk⟩
theorem XA{K:pP}{H:Hp}{a p:ge}{xs:yt}{o:HO}(W:SqL K H a xs)(Y:H p=none):SqL K (upd H p o) a xs:=by
 have st:∀u,H a=some u->upd H p o a=some u:=λu e=>by rw[HZ (HW e Y)];exact e
 rcases W with (h | ⟨o,h⟩) | h
 ·exact .inl (.inl (st _ h))
 ·exact .inl (.inr ⟨o,st _ h⟩)
 ·exact .inr h
inductive LP(vs:yt)(H:Hp)(Q:VK)(E:XK):Prop
 | mk(a:ge)(m:Int)(_:vs=[.ref a,.int m])(_:Pen H a)(_:1<=m)(_:m<1073741824)(_:∀(d:Int) (H':Hp),0<=d->d<m->QN a H H'->Pen H' a->Q (.int d) H')
inductive XD(K:pP)(vs:yt)(H:Hp)(Q:VK)(E:XK):Prop
 | mk(a:ge)(ns:yo)(k:Int)(_:vs=[.ref a,.int k])(_:SqL K H a (ns.map V.int))(_:ns.length<=63)(_:0<=k)(_:k<2 ^ 62)(_:∀(p:ge) (c0 c1:Int),H p=none->Q (.ref p) (upd H p (.lst [.int c0,.int c1,.int 0])))
inductive Ll(vs:yt)(H:Hp)(Q:VK)(E:XK):Prop
 | mk(t b:Int)(_:vs=[.int t,.int b])(_:b≠0)(_:∀p,H p=none->Q (.ref p) (upd H p (nT (rV t b))))
inductive Tz(vs:yt)(H:Hp)(Q:VK)(E:XK):Prop
 | mk(a b:Int)(_:vs=[.int a,.int b])(_:Q (.int (rR a b)) H)
inductive Tx(K:pP)(vs:yt)(H:Hp)(Q:VK)(E:XK):Prop
 | mk(a:ge)(ns:yo)(_:vs=[.ref a])(_:SqL K H a (ns.map V.int))(_:ns.length<=63)(_:∀H',Q (.bl true) H')
def mu(i:Nat)(σ:St):Nat:=match σ[i]? with | some (some (.int y))=>y.toNat | _=>0
theorem Bd.mono(h:Bd m x)(Y:m<=n):Bd n x:=pF h (sY Yd Y)
theorem Bd.num(h:Bd n t):Bd n (rV t b).num:=by
 unfold Bd at *;by_cases hb:b=0
 ·subst hb;simp;exact Nat.pos_of_ne_zero (by simp)
 ·rw[<- Nm.top_msr hb];exact rL (PySem.natAbs_fdiv_le t _) h
theorem Bd.den(Y:b≠0)(h:Bd n b):Bd n (rV t b).den:=by
 unfold Bd at *;rw[<- Nm.bottom_msr Y];exact rL (PySem.natAbs_fdiv_le b _) h
def S1(K:pP)(a:ge)(xs:yt):It :=
 ⟨λi H=>SqL K H a xs/\i<xs.length,λi H x H'=>H'=H/\xs[xs.length-1-i]? = some x,λi _=>xs.length=i⟩
theorem Xn{P:mo}{w:rc}{K:pP}{tg:Expr}(a it:ge)(xs:yt):Rl P w K tg (S1 K a xs) [it] it (λi h=>i<=xs.length/\h.IsRevIter it a ((xs.length:Int)-1-(i:Int))) where
 mem:=by simp
 obj:=λi h st b W=>by
  have e:b=it:=by simpa using W
  subst e;obtain⟨_,o,e,c,d⟩:=st;exact⟨o,e,λv z=>by rw[d]at z;cases z⟩
 keep:=λi h h' st k=>⟨st.1,st.2.at λo e=>k it (by simp) o e⟩
 item:=by
  intro X hP hw hK hc i pins s σ H E I J st hg;subst hP hw hK;obtain⟨hq,hi⟩:=hg;obtain⟨ac,rv,p,hz⟩:=I.list hq;have hl:=rv.length;have hx:xs[xs.length-1-i]? = some (xs[xs.length-1-i]'Yl):=sV Yl;obtain⟨u,hu,ru⟩:=rv.get hx;obtain⟨f0,f1,f2,f3,f4,f5⟩:=J it (by simp)
  have e:(xs.length:Int)-1-(i:Int)=((xs.length-1-i:Nat):Int):=by lia
  have Y:=st.2;rw[e]at Y;refine wpAny_pyNext_rev_item Y p.isList (x:=u) (by simpa using hu) λh' O sb=>?_
  have I1:Inv X pins σ H { s with heap:=h' }:=I.turned (t':=s.toks) (λb o W e=>(sb.2 b W).trans e) f0 f1 f3 f4 f5
  obtain⟨o,e',c,d⟩:=id O;have e2:((xs.length-1-i:Nat):Int)-1=(xs.length:Int)-1-((i+1:Nat):Int):=by lia
  rw[e2]at O;exact⟨u,Z,RQ (s:={ s with heap:=h' }) e' c d Yd ⟨_,H,I1,ru,⟨rfl,hx⟩,⟨hi,O⟩,λb W=>(J b W).1⟩⟩
 done:=by
  intro X hP hw hK hc i pins s σ H E I J st hg;subst hP hw hK;obtain⟨f0,f1,f2,f3,f4,f5⟩:=J it (by simp)
  have aa:xs.length=i:=hg;have Y:=st.2;rw[show(xs.length:Int)-1-(i:Int) = -1 by lia]at Y
  exact wpAny_pyNext_rev_end (I.ok.hd hc) Y λh' eb=>⟨Z,I.turned (t':=s.toks) (λb o W e=>eb b o W e) f0 f1 f3 f4 f5⟩
 self:=λ_ _ _ _ _ st h=>wpAny_pyIter_revIter st.2 h
section
variable {X:Cx}{tg:Expr}
def jr(K:pP)(tl:TE):TI:=λσ H R=>tl σ H λx H1=>∃v,[x]=[v]/\∃a xs,v = .ref a/\SqL K H1 a xs/\R (S1 K a xs) H1
theorem gL(hg:Gl X "reversed")(hm:X.mg "reversed" = none)(hl:PE X l tl)(J:lm [l] X.env=[(false,tz l X.env)]:=by rfl):PI X tg (.Call (.Name "reversed" p) [l] [] pos) (jr X.K tl):=by
 intro pins s σ H R I h;have ha:PA X [l] (LD tl QQ):=H9 hl HB (by rw[J];rfl)
 refine Call_ (Mb I hg hm Ux (PyProof.Rows.callWith_type1 (thn (ha pos pins s σ H (λvs H1=>∃x,vs=[x]/\∃a xs,x = .ref a/\SqL X.K H1 a xs/\R (S1 X.K a xs) H1) I h) λus Y ⟨vs,H1,O,r1,q1⟩=>?_) J rfl));obtain⟨x,z,a,xs,e,hq,q⟩:=q1;subst z;subst e;cases r1 with
 | cons r rr =>
   cases rr;cases r;obtain⟨W,rv,p,hz⟩:=O.list hq;refine call_reversed_list p.isList ?_;have I2:Inv X pins σ H1 { Y with heap:=Y.heap.push (revObj a ((W.toArray.size:Int)-1)) }:=O.kept (t':=Y.toks) λb o e=>Heap.get?_push_of_some _ e
   have st:({ Y with heap:=Y.heap.push (revObj a ((W.toArray.size:Int)-1)) }:im).heap.IsRevIter Y.heap.objs.size a ((xs.length:Int)-1-((0:Nat):Int)):=by
    refine⟨_,Heap.get?_push_size _ rfl,Z,?_⟩;have e:((W.toArray.size:Nat):Int)-1=(xs.length:Int)-1-((0:Nat):Int):=by rw[qZ,<- rv.length];simp
    show Data.fields #[.ref a,v4 _]=_;rw[e]
   refine wpAny_pyIter_revIter st ?_;refine⟨Y.heap.objs.size,[Y.heap.objs.size],_,_,H1,Z,I2,Xn a _ xs,⟨qg _,st⟩,λb hb=>?_,q⟩;have e:b=Y.heap.objs.size:=by simpa using hb
   subst e;exact O.fpOk (qd _) (O.hok.fresh (qd _))
end
theorem fb{K:pP}{a:ge}{xs:yt}{g:TG}{tb:TS}{D:Lj}{σ:St}{H:Hp}(Y:Nat->St->Hp->Prop)(h0:Y 0 σ H)(hl:∀i σ H,i<=xs.length->Y i σ H->SqL K H a xs)
 (hs:∀i x σ H,i<xs.length->xs[xs.length-1-i]? = some x->Y i σ H->g x σ H λO H2=>tb { D with nx:=Y (i+1),ct:=Y (i+1),bk:=D.nx } O H2) (hd:∀σ H,Y xs.length σ H->D.nx σ H) :
 ∃ W:Nat->Nat->St->Hp->Prop,(∃m,W 0 m σ H)/\∀i m σ H,W i m σ H ->
   ((S1 K a xs).stop i H/\D.nx σ H)\/((S1 K a xs).go i H/\∃N:St->Hp->Prop,(∀J H',N J H'->∃z,z<m/\W (i+1) z J H')/\∀x H',(S1 K a xs).yld i H x H'->g x σ H' λO H2=>tb { D with nx:=N,ct:=N,bk:=D.nx } O H2):=by
 refine⟨λi m σ H=>m=xs.length-i/\i<=xs.length/\Y i σ H,⟨xs.length,by simp,qg _,h0⟩,?_⟩
 rintro i m σ H ⟨rfl,hi,p⟩;have q:=hl i σ H hi p;by_cases hlt:i<xs.length
 ·refine .inr ⟨⟨q,hlt⟩,Y (i+1),λJ H' p'=>⟨xs.length-(i+1),Yl,Z,hlt,p'⟩,λx H' y=>?_⟩;obtain⟨e,y⟩:=y;subst e;exact hs i x σ _ hlt y p
 ·have e:i=xs.length:=by lia
  subst e;exact .inl ⟨Z,hd σ H p⟩
theorem Xc(hc:X.calm=true):Kb X (.builtin "all") (λxs H Q=>∃(a:ge) (bs:List Bool),xs=[.ref a]/\SqL X.K H a (bs.map V.bl)/\Q (.bl (bs.all id)) H):=by
 intro pins s σ H xs us Q I r h;obtain⟨a,bs,rfl,hq,q⟩:=h;obtain⟨u,rfl,rfl⟩:=Mm r;obtain⟨Y,rv,p,hz⟩:=I.list hq;have hl:=rv.length;rw[qz]at hl;have aa:a<s.heap.objs.size:=by obtain⟨_,e,_⟩:=p.isList;exact Heap.lt_size e
 refine call_all_walk (vF p.isList ?_)
 refine⟨s.heap.objs.size,[s.heap.objs.size,a],[s.heap.objs.size],Y.toArray.size,_,_,λi=>(bs[i]?).getD true,Z,Walks.list (A:=X.A.in1) (I.ok.hd hc) _ a (pJ aa) Y.toArray,
  ⟨⟨_,Heap.get?_push_size _ rfl,Z,Z⟩,p.isList.push _⟩,λi v s' Q' E' hP hQ=>?_,λh' tk hk=>?_⟩
 ·have W:Y[i]? = some v:=by simpa using hP
  have hi:i<bs.length:=by rw[hl];exact(pY.mp W).1
  obtain⟨u',J,ru⟩:=rv.get (i:=i) (x:=.bl bs[i]) (by rw[qR,sV hi];rfl)
  rw[W]at J;cases J;cases ru;dsimp only at hQ;rw[sV hi,t6]at hQ;exact vp hQ
 ·have e:((pK Y.toArray.size).all λi=>(bs[i]?).getD true)=bs.all id:=by
   rw[qZ,<- hl,Bool.eq_iff_iff,sM,sM]
   constructor
   ·intro z b hb;obtain⟨i,hi,rfl⟩:=List.getElem_of_mem hb;have:=z i (pO.mpr hi);rw[sV hi,t6]at this;exact this
   ·intro z i hi;have O:=pO.mp hi;rw[sV O,t6];exact z _ (sW O)
  rw[e];exact⟨.bl _,H,I.kept (λb o e=>hk b o (λhm=>by rw[sU.mp hm]at e;exact pH _ (Heap.lt_size e)) (Heap.get?_push_of_some _ e)),Z,q⟩
theorem SqT.same{K:pP}{H H':Hp}{a:ge}{xs:yt}(h:SqT K H a xs)(e:Hy H H'):SqT K H' a xs:=by
 rcases h with (h | ⟨o,h⟩) | h
 ·exact .inl (.inl (e _ _ h))
 ·exact .inl (.inr ⟨o,e _ _ h⟩)
 ·exact .inr h
theorem Hy.new(h:H p=none):Hy H (upd H p o):=λb u q=>by rw[HZ (HW q h)];exact q
theorem Hy.mv(h:Hy H H'):Mv a H H':=λb o _ q=>h b o q
theorem Paired.get:∀{l₁:List W} {Y:List O} {i:Nat} {a:W},Paired F l₁ Y->l₁[i]? = some a->∃b,Y[i]? = some b/\F a b
 | _,_,_,_,.nil,e=>by simp at e
 | _,_,0,_,.cons h _,e=>by simp at e;subst e;exact⟨_,Z,h⟩
 | _,_,i+1,_,.cons _ t,e=>by
   obtain⟨b,h1,h2⟩:=Paired.get (i:=i) t (by simpa using e)
   exact⟨b,by simpa using h1,h2⟩
theorem Paired.get':∀{l₁:List O} {Y:List W} {i:Nat} {b:W},Paired F l₁ Y->Y[i]? = some b->∃a,l₁[i]? = some a/\F a b
 | _,_,_,_,.nil,e=>by simp at e
 | _,_,0,_,.cons h _,e=>by simp at e;subst e;exact⟨_,Z,h⟩
 | _,_,i+1,_,.cons _ t,e=>by
   obtain⟨b,h1,h2⟩:=Paired.get' (i:=i) t (by simpa using e)
   exact⟨b,by simpa using h1,h2⟩
theorem Paired.take:∀{l₁:List α} {l₂:List β} (n:Nat),Paired F l₁ l₂->Paired F (l₁.take n) (l₂.take n)
 | _,_,0,_=>by simp;exact .nil
 | _,_,_+1,.nil=>.nil
 | _,_,n+1,.cons h t=>.cons h (Paired.take n t)
theorem Paired.append(a:Paired F l₁ O)(b:Paired F W Y):Paired F (l₁++W) (O++Y):=by
 induction a with
 | nil=>exact b
 | cons h t ih=>exact .cons h ih
theorem Paired.set{α β:Type}{F:α->β->Prop}{a:α}{b:β}(q:F a b):∀{l₁:List α} {l₂:List β} (i:Nat),Paired F l₁ l₂->Paired F (l₁.set i a) (l₂.set i b)
 | _,_,_,.nil=>.nil
 | _,_,0,.cons _ t=>.cons q t
 | _,_,i+1,.cons h t=>.cons h (Paired.set q i t)
def HP(K:pP)(H:Hp)(x:V)(q:Rat):Prop:=∃r,x = .ref r/\SqT K H r [.int q.num,.int q.den]
abbrev HR(K:pP)(H:Hp):yt->yn->Prop:=Paired (HP K H)
theorem HP.of{K:pP}{H:Hp}{r:ge}{q:Rat}(h:H r=some (nT q)):HP K H (.ref r) q:=⟨r,Z,SqT.of h⟩
theorem HP.same{K:pP}{H H':Hp}{x:V}{q:Rat}(h:HP K H x q)(e:Hy H H'):HP K H' x q:=by
 obtain⟨r,rfl,h⟩:=h;exact⟨r,Z,h.same e⟩
theorem HR.same{K:pP}{H H':Hp}{xs:yt}{qs:yn}(h:HR K H xs qs)(e:Hy H H'):HR K H' xs qs:=Paired.mapP h λ_ _ z=>z.same e
theorem SqT.mv{K:pP}{H H':Hp}{a p:ge}{xs:yt}(h:SqT K H a xs)(pn:Pen H p)(m:Mv p H H'):SqT K H' a xs:=by
 obtain⟨O,Y,W,e⟩:=pn
 rcases h with (h | ⟨o,h⟩) | h
 ·exact .inl (.inl (m _ _ (Ku h e (λz=>by cases z)) h))
 ·exact .inl (.inr ⟨o,m _ _ (Ku h e (λz=>by cases z)) h⟩)
 ·exact .inr h
theorem HP.mv{K:pP}{H H':Hp}{x:V}{q:Rat}{p:ge}(h:HP K H x q)(pn:Pen H p)(m:Mv p H H'):HP K H' x q:=by
 obtain⟨r,rfl,h⟩:=h;exact⟨r,Z,h.mv pn m⟩
theorem HR.mv{K:pP}{H H':Hp}{xs:yt}{qs:yn}{p:ge}(h:HR K H xs qs)(pn:Pen H p)(m:Mv p H H'):HR K H' xs qs:=Paired.mapP h λ_ _ z=>z.mv pn m
theorem SqT.put{K:pP}{H:Hp}{a p:ge}{xs ys:yt}{o:HO}(h:SqT K H a xs)(Y:H p=some (.lst ys)):SqT K (upd H p o) a xs:=by
 rcases h with (h | ⟨u,h⟩) | h
 ·exact .inl (.inl (by rw[HZ (Ku h Y (λz=>by cases z))];exact h))
 ·exact .inl (.inr ⟨u,by rw[HZ (Ku h Y (λz=>by cases z))];exact h⟩)
 ·exact .inr h
theorem HP.put{K:pP}{H:Hp}{x:V}{q:Rat}{p:ge}{ys:yt}{o:HO}(h:HP K H x q)(Y:H p=some (.lst ys)):HP K (upd H p o) x q:=by
 obtain⟨r,rfl,h⟩:=h;exact⟨r,Z,h.put Y⟩
theorem HR.put{K:pP}{H:Hp}{xs:yt}{qs:yn}{p:ge}{ys:yt}{o:HO}(h:HR K H xs qs)(Y:H p=some (.lst ys)):HR K (upd H p o) xs qs:=Paired.mapP h λ_ _ z=>z.put Y
def Crv(K:pP)(H:Hp)(r:ge)(qs:yn):Prop:=∃xs,SqT K H r xs/\HR K H xs qs
theorem Crv.same{K:pP}{H H':Hp}{r:ge}{qs:yn}(h:Crv K H r qs)(e:Hy H H'):Crv K H' r qs:=let ⟨xs,a,b⟩:=h;⟨xs,a.same e,b.same e⟩
theorem Crv.mv{K:pP}{H H':Hp}{r p:ge}{qs:yn}(h:Crv K H r qs)(pn:Pen H p)(m:Mv p H H'):Crv K H' r qs:=let ⟨xs,a,b⟩:=h;⟨xs,a.mv pn m,b.mv pn m⟩
theorem Crv.put{K:pP}{H:Hp}{r p:ge}{qs:yn}{ys:yt}{o:HO}(h:Crv K H r qs)(Y:H p=some (.lst ys)):Crv K (upd H p o) r qs:=let ⟨xs,a,b⟩:=h;⟨xs,a.put Y,b.put Y⟩
def nD(q:Rat):PyData:=.tuple [.int q.num,.int q.den]
theorem HP.rds{K:pP}{H:Hp}{x:V}{q:Rat}(h:HP K H x q):Rds K H x (nD q):=by
 obtain⟨r,rfl,h⟩:=h;refine .tup h rfl λi x d e1 Y=>?_
 match i with
 | 0=>simp at e1 Y;subst e1;subst Y;exact .int _
 | 1=>simp at e1 Y;subst e1;subst Y;exact .int _
 | i+2=>simp at e1
theorem SX(p q:Rat):PyData.eqv (nD p) (nD q)=decide (p=q):=by
 show(p.num == q.num&&(((p.den:Int) == (q.den:Int))&&true))=_;rw[Bool.and_true,Bool.eq_iff_iff];simp only[Bool.and_eq_true,beq_iff_eq,decide_eq_true_eq]
 constructor
 ·rintro⟨h1,h2⟩;exact Rat.ext h1 (Int.ofNat.inj h2)
 ·rintro rfl;exact⟨Z,Z⟩
theorem Px:∀ps qs:yn,PyData.eqvAll (ps.map nD) (qs.map nD)=decide (ps=qs)
 | [],[]=>rfl
 | [],_::_=>rfl
 | _::_,[]=>rfl
 | p::ps,q::qs=>by
   show(PyData.eqv (nD p) (nD q)&&PyData.eqvAll (ps.map nD) (qs.map nD))=_;rw[SX,Px ps qs,Bool.eq_iff_iff];simp
theorem OB(q:Rat):SeqAt.shaped (nD q)=true:=by rfl
theorem HR.rds{K:pP}{H:Hp}{xs:yt}{qs:yn}(h:HR K H xs qs):∀(i:Nat) x d,xs[i]? = some x->(qs.map nD)[i]? = some d->Rds K H x d:=λi x d e1 Y=>by
 obtain⟨q,W,O⟩:=Paired.get h e1;rw[qR,W]at Y;cases Y;exact O.rds
theorem HR.rdsT{K:pP}{H:Hp}{r:ge}{xs:yt}{qs:yn}(h:HR K H xs qs)(s:SqT K H r xs):Rds K H (.ref r) (.tuple (qs.map nD)):=.tup s (by rw[h.length,qz]) h.rds
theorem HR.rdsL{K:pP}{H:Hp}{r:ge}{xs:yt}{qs:yn}(h:HR K H xs qs)(s:SqL K H r xs):Rds K H (.ref r) (.list (qs.map nD)):=.lst s (by rw[h.length,qz]) h.rds
theorem SW:∀qs:yn,PyData.canLayAll0 (qs.map nD)=true
 | []=>rfl
 | q::r=>by
   show(PyData.canLay0 (nD q)&&PyData.canLayAll0 (r.map nD))=true;rw[SW r];rfl
theorem OA:∀qs:yn,PyData.depthAll (qs.map nD)<=1
 | []=>qg _
 | q::r=>by
   have ih:=OA r;show max (PyData.depth (nD q)) (PyData.depthAll (r.map nD))<=1;exact Nat.max_le.mpr ⟨qd _,ih⟩
theorem M8(qs:yn):SeqAt.shaped (.list (qs.map nD))=true:=by
 show(PyData.canLayAll0 (qs.map nD)&&decide (PyData.depthAll (qs.map nD)+1<=64))=true;rw[SW,Bool.true_and];exact decide_eq_true (by have:=OA qs;lia)
theorem VZ(qs:yn):SeqAt.shaped (.tuple (qs.map nD))=true:=M8 qs
theorem eqN{K:pP}{H:Hp}{x y:V}{p q:Rat}{Q:VK}{neg:Bool}(h1:HP K H x p)(h2:HP K H y q)(h:Q (.bl (if neg then !decide (p=q) else decide (p=q))) H):Nf K neg x y H Q :=
 OK ⟨_,_,h1.rds,h2.rds,OB _,OB _,by rw[SX];exact h⟩
theorem eqT{K:pP}{H:Hp}{a b:ge}{ps qs:yn}{Q:VK}{neg:Bool}(h1:Crv K H a ps)(h2:Crv K H b qs)(h:Q (.bl (if neg then !decide (ps=qs) else decide (ps=qs))) H):Nf K neg (.ref a) (.ref b) H Q:=by
 obtain⟨xs,W,Y⟩:=h1;obtain⟨ys,J,O⟩:=h2;refine OK ⟨_,_,Y.rdsT W,O.rdsT J,VZ _,VZ _,?_⟩;have e:PyData.eqv (.tuple (ps.map nD)) (.tuple (qs.map nD))=decide (ps=qs):=Px ps qs;rw[e];exact h
theorem eqL{K:pP}{H:Hp}{a b:ge}{xs ys:yt}{ps qs:yn}{Q:VK}{neg:Bool}(W:SqL K H a xs)(Y:HR K H xs ps)(J:SqL K H b ys)(O:HR K H ys qs)(h:Q (.bl (if neg then !decide (ps=qs) else decide (ps=qs))) H):Nf K neg (.ref a) (.ref b) H Q:=by
 refine OK ⟨_,_,Y.rdsL W,O.rdsL J,M8 _,M8 _,?_⟩;have e:PyData.eqv (.list (ps.map nD)) (.list (qs.map nD))=decide (ps=qs):=Px ps qs;rw[e];exact h
theorem iR(W:St->Hp->Prop)(O:St->Hp->Nat)(h0:W σ H)
 (z:∀σ H,W σ H->c σ H λb H1=>if b=true then ∃N:St->Hp->Prop,(∀Y H',N Y H'->∃J,J<O σ H/\(J=O Y H'/\W Y H'))/\tb { D with nx:=N,ct:=N,bk:=D.nx } σ H1 else D.nx σ H1):UH c tb D σ H:=by
 refine⟨λm σ H=>m=O σ H/\W σ H,⟨_,Z,h0⟩,?_⟩;rintro m σ H ⟨rfl,p⟩;exact z σ H p
theorem iQ{tb:TS}{D:Lj}{σ:St}{H1:Hp}{m:Nat}{O:St->Hp->Prop}{W:St->Hp->Nat}
 (h:tb { D with nx:=λY H'=>O Y H'/\W Y H'<m,ct:=λY H'=>O Y H'/\W Y H'<m,bk:=D.nx } σ H1) :
 ∃N:St->Hp->Prop,(∀Y H',N Y H'->∃J,J<m/\(J=W Y H'/\O Y H'))/\tb { D with nx:=N,ct:=N,bk:=D.nx } σ H1 :=
 ⟨_,λ_ _ ⟨p,l⟩=>⟨_,l,Z,p⟩,h⟩
def RB(n:Nat)(q:Rat):Prop:=Bd n q.num/\Bd n (q.den:Int)
theorem Bd.mul(h1:Bd m x)(h2:Bd n y):Bd (m+n) (x*y):=by
 unfold Bd at *;rw[t7,Nat.pow_add];exact Nat.mul_lt_mul'' h1 h2
theorem Bd.add(h1:Bd n x)(h2:Bd n y):Bd (n+1) (x+y):=by
 unfold Bd at *;rw[t8,Nat.mul_two];exact rL (Int.natAbs_add_le x y) (Nat.add_lt_add h1 h2)
theorem Bd.sub(h1:Bd n x)(h2:Bd n y):Bd (n+1) (x-y):=by
 rw[t9];exact Bd.add h1 (by unfold Bd;rw[Int.natAbs_neg];exact h2)
theorem Bd.fdiv(h:Bd n x):Bd n (x.fdiv y):=rL (PySem.natAbs_fdiv_le x y) h
theorem JQ.bd(h1:Bd m x)(h2:Bd n y)(h:m+n<=134217728:=by lia):JQ x y:=.inr (.inr ⟨m,n,h1,h2,h⟩)
theorem RB.mono(h:RB m q)(Y:m<=n):RB n q:=⟨h.1.mono Y,h.2.mono Y⟩
theorem RB.div{m n:Nat}{t b:Int}(h1:Bd n t)(h2:Bd n b)(Y:b≠0):RB n (rV t b):=⟨Bd.num h1,Bd.den Y h2⟩
theorem PL:∀{us:List gl} {xs:yt},us.map MM=xs.map some->(∀u∈us,∀x,MM u=some x->Iw x u)->Ip xs us
 | [],[],_,_=>.nil
 | [],_::_,e,_=>by simp at e
 | _::_,[],e,_=>by simp at e
 | u::us,x::xs,e,h=>by
   simp only[qw,tj.injEq]at e;exact .cons (h u pT x e.1) (PL e.2 λv hv=>h v (pU _ hv))
theorem Uz(h:MM u=some x):Iw x u:=by
 cases u<;>first | (cases h;rfl) | (cases h;exact⟨_,Z⟩) | cases h
theorem X7{K:pP}{H:Hp}{a:ge}{o:Obj}{vs:Array gl}{n:Nat}{q:Rat}(hk:K.lookup a=some o)(W:o.cls = .type "tuple")(hd:o.data = .seq vs n)(e:vs.toList.map MM=[some (.int q.num),some (.int (q.den:Int))]):SqT K H a [.int q.num,.int q.den]:=by
 refine .inr ⟨o,vs,n,hk,W,hd,?_,PL e λu _ x h=>Uz h⟩;have Y:=congrArg qM e;simp at Y;rw[Y];decide
theorem RB.plus(h1:RB m p)(h2:RB n q):RB (m+n+1) (p+q):=by
 rw[<- Nm.plus_eq];refine⟨Bd.num (Bd.add (h1.1.mul h2.2) ((h2.1.mul h1.2).mono Yl)),Bd.den (rZ (Nm.den_ne p) (Nm.den_ne q)) ((h1.2.mul h2.2).mono Yl)⟩
theorem RB.minus(h1:RB m p)(h2:RB n q):RB (m+n+1) (p-q):=by
 rw[<- Nm.minus_eq];refine⟨Bd.num (Bd.sub (h1.1.mul h2.2) ((h2.1.mul h1.2).mono Yl)),Bd.den (rZ (Nm.den_ne p) (Nm.den_ne q)) ((h1.2.mul h2.2).mono Yl)⟩
theorem RB.times(h1:RB m p)(h2:RB n q):RB (m+n) (p*q):=by
 rw[<- Nm.times_eq];exact⟨Bd.num (h1.1.mul h2.1),Bd.den (rZ (Nm.den_ne p) (Nm.den_ne q)) (h1.2.mul h2.2)⟩
theorem RB.zero(h:1<=n):RB n 0:=⟨(by unfold Bd;decide:Bd 1 0).mono h,(by unfold Bd;decide:Bd 1 1).mono h⟩
theorem RB.one(h:1<=n):RB n 1:=⟨(by unfold Bd;decide:Bd 1 1).mono h,(by unfold Bd;decide:Bd 1 1).mono h⟩
inductive Mi(K:pP)(g:Rat->Rat->Rat)(vs:yt)(H:Hp)(Q:VK)(E:XK):Prop
 | mk(x y:V)(p q:Rat)(m n:Nat)(_:vs=[x,y])(_:HP K H x p)(_:HP K H y q)(_:RB m p)(_:RB n q)(_:m+n<=100000000)(_:∀r,H r=none->Q (.ref r) (upd H r (nT (g p q))))
def Sq(b:Bool)(K:pP)(H:Hp)(a:ge)(xs:yt):Prop:=match b with
 | true=>SqL K H a xs
 | false=>SqT K H a xs
theorem Sq.same{b:Bool}{K:pP}{H H':Hp}{a:ge}{xs:yt}(h:Sq b K H a xs)(e:Hy H H'):Sq b K H' a xs:=by
 cases b
 ·exact SqT.same h e
 ·exact e.seq h
theorem WE(h1:PI X tg l W)(h2:PI X tg l Y):PI X tg l (λσ H R=>W σ H R\/Y σ H R):=λpins s σ H R I h=>by
 rcases h with h | h
 ·exact h1 pins s σ H R I h
 ·exact h2 pins s σ H R I h
abbrev iy(K:pP)(tl:TE):TI:=λσ H R=>YI K tl σ H R\/ix K tl σ H R
theorem T8{K:pP}{b:Bool}{a:ge}{n:Nat}{xs:yt}{g:TG}{tb:TS}{D:Lj}{σ:St}{H:Hp}(W:σ[n]? = some (some (.ref a)))(Y:Nat->St->Hp->Prop)(J:Y 0 σ H)(z:∀i σ H,i<=xs.length->Y i σ H->Sq b K H a xs)
 (hs:∀i x σ H,xs[i]? = some x->Y i σ H->g x σ H λO H2=>tb { D with nx:=Y (i+1),ct:=Y (i+1),bk:=D.nx } O H2) (hd:∀σ H,Y xs.length σ H->D.nx σ H) :
 gp (iy K (Pg n)) g tb D σ H:=by
 have q:=z 0 σ H (qg _) J;cases b with
 | true=>exact .inl ⟨_,W,a,Z,⟨xs,q⟩,QK Y J z hs hd⟩
 | false=>exact .inr ⟨_,W,a,Z,⟨xs,q⟩,NZ Y J z hs hd⟩
theorem Kz{K:pP}{b:Bool}{a:ge}{n:Nat}{js:yq}{xs:yt}{te:TE}{σ:St}{H:Hp}{Q:VK}(J:σ[n]? = some (some (.ref a)))(W:Nat->yt->Hp->Prop)(h0:W 0 [] H)
 (O:∀i zs H,i<=xs.length->W i zs H->Sq b K H a xs/\zs.length=i) (hz:xs.length<=io)
 (hs:∀i x zs H,xs[i]? = some x->W i zs H->te ((cS 1 js σ).set 0 (some x)) H λy H4=>W (i+1) (zs++[y]) H4) (z:∀zs H',W xs.length zs H'->∀p,H' p=none->Q (.ref p) (upd H' p (.lst zs))) :
 tLC (iy K (Pg n)) 1 js (K1 0) QP te σ H Q:=by
 have q:=(O 0 [] H (qg _) h0).1;cases b with
 | true =>
   refine Jo (.inl ⟨_,J,a,Z,⟨xs,q⟩,xs.length,W,h0,⟨?_,?_,?_⟩⟩)
   ·intro i zs H' hi p;have Y:=pR hi;obtain⟨h1,h2⟩:=O i zs H' Y p;exact⟨⟨xs,xs[i],h1,by simp[hi]⟩,Yl⟩
   ·rintro i zs H' x H1 hi p ⟨rfl,y⟩;have Y:=pR hi;have hx:=y xs (O i zs _ Y p).1;exact hs i x zs _ hx p
   ·intro zs H' p;have Y:=qd xs.length;obtain⟨h1,h2⟩:=O _ zs H' Y p;exact⟨⟨xs,h1,qd _⟩,Yl,z zs H' p⟩
 | false =>
   refine Jo (.inr ⟨_,J,a,Z,⟨xs,q⟩,xs.length,W,h0,⟨?_,?_,?_⟩⟩)
   ·intro i zs H' hi p;have Y:=pR hi;obtain⟨h1,h2⟩:=O i zs H' Y p;exact⟨⟨xs,xs[i],h1,by simp[hi]⟩,Yl⟩
   ·rintro i zs H' x H1 hi p ⟨rfl,y⟩;have Y:=pR hi;have hx:=y xs (O i zs _ Y p).1;exact hs i x zs _ hx p
   ·intro zs H' p;have Y:=qd xs.length;obtain⟨h1,h2⟩:=O _ zs H' Y p;exact⟨⟨xs,h1,qd _⟩,Yl,z zs H' p⟩
section
variable {X:Cx}(K:pP)
theorem ixT(e:X.K=K:=by rfl):IxR X (Zz K):=by subst e;exact ir
theorem ixL(e:X.K=K:=by rfl):IxR X (gF K):=by subst e;exact ZW
theorem eqD(Y:X.A.units+64<cLine)(e:X.K=K:=by rfl):OpR X (ul .Eq) (Nf K false):=by subst e;exact gY Y
theorem neD(Y:X.A.units+64<cLine)(e:X.K=K:=by rfl):OpR X (ul .NotEq) (Nf K true):=by subst e;exact gX Y
theorem inS(e:X.K=K:=by rfl):OpR X (ul .In) (rIn K false):=by subst e;exact WI
theorem Yi(e:X.K=K:=by rfl):OpR X (ul .NotIn) (rIn K true):=by subst e;exact Sx
theorem kc(e:X.K=K:=by rfl):OpR X (vm .Add) (VN K):=by subst e;exact VX
theorem slL(e:X.K=K:=by rfl):SlR X (gE K):=by subst e;exact Zs
inductive TyX(K:pP)(H:Hp):V->gl->Prop where
 | of {x:V} {t:gl} (h:OQ K H x t):TyX K H x t
 | tup {a:ge} {xs:yt} (h:SqT K H a xs):TyX K H (.ref a) (.type "tuple")
 | lst {a:ge} {xs:yt} (h:SqL K H a xs):TyX K H (.ref a) (.type "list")
inductive jz(xs:yt)(H:Hp)(Q:VK):Prop
 | mk(x:_)(T:_)(t:_)(b:_)(_:xs=[x,.ty T])(_:TyX K H x t)(_:qC K t (.type T)=some b)(_:Q (.bl b) H)
theorem Uk(e:X.K=K:=by rfl):Kb X (.builtin "isinstance") (jz K):=by
 subst e;intro pins s σ H xs us Q I r h;obtain⟨x,T,t,b,rfl,ty,e,q⟩:=h;obtain⟨u,w',rfl,Y,rT⟩:=Xi r;cases rT;cases ty with
 | of ty=>exact WY I Y ty e λtk=>⟨.bl b,H,I.tok _,Z,q⟩
 | tup hq =>
   cases Y;obtain⟨O,J,⟨o,e1,c,_⟩,_⟩:=I.tuple hq;exact qD PySem.W.kitx_tuple I.kIn ⟨o,e1,c⟩ e (λz=>nomatch z) λtk=>⟨.bl b,H,I.tok _,Z,q⟩
 | lst hq =>
   cases Y;obtain⟨O,J,⟨o,n,e1,c,_⟩,_⟩:=I.list hq;exact qD qF I.kIn ⟨o,e1,c⟩ e (λz=>nomatch z) λtk=>⟨.bl b,H,I.tok _,Z,q⟩
inductive fk(xs:yt)(H:Hp)(Q:VK):Prop
 | mk(p:_)(ys:_)(_:xs=[.ref p])(_:(SqL K H p ys\/SqT K H p ys))(_:Q (.int ys.length) H)
theorem jS(e:X.K=K:=by rfl):Kb X (.builtin "len") (fk K):=by subst e;exact λpins s σ H xs us Q I r ⟨p,ys,h1,h2,Y⟩=>Td pins s σ H xs us Q I r ⟨p,ys,h1,h2,Y⟩
inductive g8(xs:yt)(H:Hp)(Q:VK):Prop
 | mk(p:_)(ys:_)(_:xs=[.ref p])(_:(SqL K H p ys\/SqT K H p ys))(_:∀l,H l=none->Q (.ref l) (upd H l (.lst ys)))
theorem fU(e:X.K=K:=by rfl):Kb X (.type "list") (g8 K):=by subst e;exact λpins s σ H xs us Q I r ⟨p,ys,h1,h2,Y⟩=>Tc pins s σ H xs us Q I r ⟨p,ys,h1,h2,Y⟩
inductive Z5(xs:yt)(H:Hp)(Q:VK):Prop
 | mk(p:_)(ys:_)(_:xs=[.ref p])(_:((SqL K H p ys/\∀l,H l=none->Q (.ref l) (upd H l (.tup ys)))\/(SqT K H p ys/\Q (.ref p) H)))
theorem Ls(e:X.K=K:=by rfl):Kb X (.type "tuple") (Z5 K):=by subst e;exact λpins s σ H xs us Q I r ⟨p,ys,h1,h2⟩=>Rk pins s σ H xs us Q I r ⟨p,ys,h1,h2⟩
inductive jA(xs:yt)(H:Hp)(Q:VK):Prop
 | mk(a:ge)(bs:List Bool)(_:xs=[.ref a])(_:SqL K H a (bs.map V.bl))(_:Q (.bl (bs.all id)) H)
theorem fz(W:X.calm=true)(e:X.K=K:=by rfl):Kb X (.builtin "all") (jA K):=by subst e;exact λpins s σ H xs us Q I r ⟨a,bs,h1,h2,Y⟩=>Xc W pins s σ H xs us Q I r ⟨a,bs,h1,h2,Y⟩
variable {tg l:Expr}{tl:TE}
theorem piL(Y:PE X l tl)(e:X.K=K:=by rfl):PI X tg l (YI K tl):=by subst e;exact VR Y
theorem piT(Y:PE X l tl)(e:X.K=K:=by rfl):PI X tg l (ix K tl):=by subst e;exact Y0 Y
theorem piS(Y:PE X l tl)(e:X.K=K:=by rfl):PI X tg l (iy K tl):=by subst e;exact WE (VR Y) (Y0 Y)
theorem jg{p pos:Pos}(W:Gl X "reversed")(Y:X.mg "reversed" = none)(O:PE X l tl)(J:lm [l] X.env=[(false,tz l X.env)]:=by rfl)(e:X.K=K:=by rfl):PI X tg (.Call (.Name "reversed" p) [l] [] pos) (jr K tl):=by subst e;exact gL W Y O J
theorem pgT{es:List Expr}{k:Nat}{t:TGs}{n:Nat}{pos:Pos}(O:X.calm=true)(h:PGs X es t)(W:(vB es X.env).length=n:=by rfl)(Y:(vB es X.env).findIdx? (·.1)=none:=by rfl)(e:X.K=K:=by rfl):PG X (.Tuple es k pos) (X4 K n t):=by subst e;exact gN O h W Y
end
inductive Zd(K:pP)(H:Hp):V->Bool->Prop where
 | int (i:Int):Zd K H (.int i) true
 | bl (b:Bool):Zd K H (.bl b) false
 | oth {x:V} {t:gl} (ty:TyX K H x t) (h:qC K t (.type "int")=some false):Zd K H x false
theorem ib(K:pP):qC K (.type "int") (.type "int")=some true:=by kernel_rfl
theorem ic(K:pP):qC K (.type "int") (.type "bool")=some false:=by kernel_rfl
theorem ie(K:pP):qC K (.type "bool") (.type "int")=some true:=by kernel_rfl
theorem ig(K:pP):qC K (.type "bool") (.type "bool")=some true:=by kernel_rfl
theorem OG(K:pP):qC K (.type "tuple") (.type "tuple")=some true:=by kernel_rfl
theorem QD{lo:Int}{n:Nat}(Y:Nat->yt->Hp->Prop)(h0:Y 0 [] H)(z:∀i zs H,i<=n->Y i zs H->zs.length=i)(hz:n<=io)
 (hs:∀i zs H,i<n->Y i zs H->te ((cS 1 js σ).set 0 (some (.int (lo+i)))) H λy H4=>Y (i+1) (zs++[y]) H4) (J:∀zs H',Y n zs H'->O zs H') :
 ∃(n':Nat) (W:Nat->yt->Hp->Prop),W 0 [] H/\LcW (Itr lo n) n' 1 js σ (K1 0) QP te O W:=by
 refine⟨n,Y,h0,⟨?_,?_,?_⟩⟩
 ·intro i zs H' hi p;have:=z i zs H' (pR hi) p;exact⟨hi,Yl⟩
 ·rintro i zs H' x H1 hi p ⟨rfl,rfl⟩;exact hs i zs _ hi p
 ·intro zs H' p;have:=z n zs H' (qd _) p;exact⟨qd _,Yl,J zs H' p⟩
theorem Za(h:xs[xs.length-1]? = some v):atI xs (-1)=some v:=by
 have W:xs.length-1<xs.length:=(pY.mp h).1
 have e:ixN xs.length (-1)=some (xs.length-1):=by
  unfold ixN;rw[if_neg Yd,if_pos Yl]
  congr 1
  lia
 unfold atI;rw[e];exact h
def Tn(qs:yn):Prop:=qs=[]\/∃q,qs[qs.length-1]? = some q/\q≠0
theorem Vm(qs:yn):Tn (Cv.strip qs):=by
 by_cases h:Cv.strip qs=[]
 ·exact .inl h
 ·have Y:0<(Cv.strip qs).length:=su.mpr h;have e:=sV (l:=Cv.strip qs) (i:=(Cv.strip qs).length-1) Yl;refine .inr ⟨_,e,λz=>Cv.strip_last qs h ?_⟩;rw[e,z]
theorem Ti(n:Nat):(qK n true).all id=true:=by
 rw[sM];intro b Y;exact(tm.mp Y).2
theorem Pen.sm(h:Pen H p)(e:Hy H H'):Pen H' p:=let ⟨c0,c1,c2,z⟩:=h;⟨c0,c1,c2,e _ _ z⟩
theorem LJ{K:pP}{H:Hp}{x:V}{q:Rat}(h:HP K H x q):∀n:Nat,HR K H (qK n [x]).flatten (qK n q)
 | 0=>.nil
 | n+1=>by
   rw[rE,rF,rE];exact .cons h (LJ h n)
theorem O6{Y:yo}{i:Nat}{t:Int}{k:Int}(h:Y[i]? = some t)(e:k=(i:Int)):atI (Y.map V.int) k=some (.int t):=by
 subst e;exact HQ (by rw[qR,h];rfl)
theorem NW{n i:Nat}{k:Int}(h:i<n)(e:k=(i:Int)):ixN n k=some i:=by
 subst e;unfold ixN;rw[if_pos Yl,if_pos Yl,rg]
theorem Hy.put(h:Hy H H')(Y:H p=none):Hy H (upd H' p o):=λb u q=>by rw[HZ (HW q Y)];exact h b u q
def Up(c M:Nat)(t:Int):Prop:=t.natAbs<=c*2 ^ M
theorem Up.bd(h:Up c M t)(Y:c<2 ^ k):Bd (M+k) t:=by
 unfold Up at h;unfold Bd;rw[Nat.pow_add,rJ (2 ^ M)];exact rL h (Nat.mul_lt_mul_of_pos_right Y (Nat.pow_pos Yd))
theorem Up.add(h:Up c M t)(hd:Bd M d):Up (c+1) M (t+d):=by
 unfold Up at *;unfold Bd at hd;rw[tq,tu];exact pQ (Int.natAbs_add_le t d) (Nat.add_le_add h (pR hd))
theorem Up.mono(h:Up c M t)(W:c<=Y):Up Y M t:=pQ h (tw _ W)
def CX1(P:mo)(w:rc):CXT:=λouter H s E e s'=>∃(ea:ge) (cls a0:gl) (B:rf) (H':Hp),e = .ref ea/\s'.os=s.os/\vE s'.gens/\Un (frs outer) [] H H' s.heap s'.heap/\HOk P w H' s'.heap /\
 Heap.FlyingW B outer ea cls a0 s'.heap/\(∀b o,s.heap.get? b=some o->b∉frs outer->∃o',B.get? b=some o')/\(∀b u,H' b=some u->∃o',B.get? b=some o')/\E cls none H'
theorem Jb.got(x:Jb P w H h a o):∃Y,h.get? a=some Y:=by
 induction o with
 | lst xs=>obtain⟨_,_,_,_,e⟩:=x;exact⟨_,e⟩
 | tup xs=>obtain⟨_,_,_,Y,e,_⟩:=x;exact⟨_,e⟩
 | dK kvs=>obtain⟨_,_,_,_,Y,_,_,e,_⟩:=x;exact⟨_,e⟩
 | dT kvs=>obtain⟨_,_,_,_,Y,_,_,e,_⟩:=x;exact⟨_,e⟩
 | set S n=>obtain⟨Y,_,_,_,e,_⟩:=x;exact⟨_,e⟩
 | ins C dx fs=>obtain⟨_,_,_,e,_⟩:=x;exact⟨_,e⟩
 | own y=>exact x
 | xd fs=>obtain⟨_,⟨Y,_,_,e,_⟩,_⟩:=x;exact⟨_,e⟩
 | met f y=>exact⟨_,x⟩
 | rng lo hi=>obtain⟨_,_,_,e⟩:=x;exact⟨_,e⟩
 | frz Y u ih=>exact⟨_,x.1⟩
 | tbl ps=>exact⟨_,x⟩
 | ext φ=>exact x.2.1
section
variable {X:Cx}{pins:List (ge×Obj)}{σ:St}{H H':Hp}{s s':im}{B:rf}
theorem Inv.flown(I:Inv X pins σ H s)(Y:Un (frs X.stack) [] H H' s.heap s'.heap)(aa:HOk X.prog X.w H' s'.heap)(os:s'.os=s.os)(W:vE s'.gens)
 (hs:∀b o,B.get? b=some o->s'.heap.get? b=some o) (k1:∀b o,s.heap.get? b=some o->b∉frs X.stack->∃o',B.get? b=some o') (k2:∀b u,H' b=some u->∃o',B.get? b=some o')
 (ac:∀b o,B.get? b=some o->h2.get? b=some o) (sl:∀b o,b∈frs X.stack->s'.heap.get? b=some o->∃z,h2.get? b=some { o with slots:=z }):Inv X pins σ H' { s' with heap:=h2,toks:=toks }:=by
 have key:∀b o,s'.heap.get? b=some o->(∃o',B.get? b=some o')->h2.get? b=some o:=λb o e ⟨o',q⟩=>by
  have:=hs b o' q;rw[e]at this;cases this;exact ac b o q
 refine I.call' (ch:=[]) os ⟨λb o e n O nx=>key b o (Y.keep b o e n O nx) (k1 b o e O),λb o e n O nx=>?_,Y.free,λb o e nx=>?_,Y.tups,Y.frzs,Y.tbls⟩ (λb u e=>?_) W (λ_ z=>nomatch z)
 ·obtain⟨z,q⟩:=Y.slot b o e n O nx;obtain⟨z',J⟩:=sl b _ O q;exact⟨z',J⟩
 ·obtain⟨o',q⟩:=Y.there b o e nx;by_cases hb:b∈frs X.stack
  ·obtain⟨z',J⟩:=sl b _ hb q;exact⟨_,J⟩
  ·exact⟨_,key b o' q (k1 b o e hb)⟩
 ·refine(aa b u e).stay (λc v hc q=>key c v q ?_) (λ_ q=>q) λ_ _ q=>q
  rcases hc with rfl | z
  ·exact k2 _ u e
  ·exact k2 c _ z
theorem ZY(h:rf)(l:List Env):∀env∈l,∀b,env.frame=some b->b∈frs l:=λenv Y b W=>qe.mpr ⟨env,Y,W⟩
theorem Inv.slots(O:s'.heap.FunFrames B X.stack)(u:s'.heap.UpToSlots h2):∀b o,b∈frs X.stack->s'.heap.get? b=some o->∃z,h2.get? b=some { o with slots:=z }:=λb o J e=>by
 obtain⟨_,o',Y,W⟩:=O.mem J;rw[e]at Y;cases Y;exact u b o e W
end
section
variable {P:mo}{w:rc}{K:pP}{mg:Str->Option gl}{base:rf}{N:yr}{qual:Str}{scope:vi}{f:ge}{cd:gl}{A:sB}{outer:List Env}{s:im}{H:Hp}{E:XK}
end
structure Vt(K:pP)(x:Str)(C:ge):Prop where
 ns:tE K pc x=some (some (.ref C))
 ob:∃bm N nm q bs hdct sn sub ab col dd k0 k1 k2 k3 k5,K.lookup C=some (excClassObj nm q C N bs bm hdct sn sub ab col dd k0 k1 k2 k3 k5 "ValueError.__new__")
 ex:tF K C [.type "ValueError",.type "Exception",.type "BaseException",.type "object"] "ValueError.__new__" = true
def gn(E:XK)(C:ge)(t:TA):TS:=λ_ σ H=>t σ H λxs H1=>xs.length<=io/\E (.ref C) none H1
def gh(X:Cx)(E:XK):Prop:=∀(pins:List (ge×Obj)) (σ:St) (H1:Hp) (s1:im) (h2:rf) (ea:ge) (cls:gl) (vs:List gl),Inv X pins σ H1 s1->Heap.MadeExcOf s1.heap h2 ea cls vs->E cls none H1->X.xe (.ref ea) { s1 with heap:=h2 }
theorem gT{K:pP}{h:rf}{mg:Str->Option gl}{x:Str}{C:ge}(X:K.In h)(g:h.Ns pc mg)(c:Vt K x C):OwnCls x C [.type "ValueError",.type "Exception",.type "BaseException",.type "object"] "ValueError.__new__" mg h:=by
 obtain⟨bm,N,nm,q,bs,hdct,sn,sub,ab,col,dd,k0,k1,k2,k3,k5,l⟩:=c.ob;have ex:=c.ex;unfold tF at ex;rw[l]at ex;simp only[excClassObj,Bool.and_eq_true,beq_iff_eq]at ex;exact⟨tG X g c.ns,bm,N,nm,q,bs,hdct,sn,sub,ab,col,dd,k0,k1,k2,k3,k5,_,X _ _ l,.of_isNs (PySem.W.isNs_of_in X ex.1.2),PySem.W.nsMap_none_of_in X ex.1.2 ex.2,PySem.W.tail_of_in X ex.1.1.2⟩
theorem NL{Ju:List Expr}(c:Vt X.K x C)(hg:Gl X x)(hM:gh X E)(hc:X.calm=true)(ha:PA X (Y::Ju) t)
 (J:(x == ("__debug__" : Str))=false:=by decide) (he:lm (Y::Ju) X.env=(false,tz Y X.env)::lm Ju X.env:=by rfl) (ac:(ut cpos (lm Ju X.env)).any (·.1)=false:=by rfl) :
 PS X (.Raise (some (.Call (.Name x np) (Y::Ju) [] cpos)) none pos) (gn E C t):=by
 intro pins s σ H D I h;have O:=gT I.mod.kin I.mod.glob c;obtain⟨tl,N,nm,q,bs,hdct,sn,sub,ab,col,dd,k0,k1,k2,k3,k5,mN,hC,hN,aa,T⟩:=O.obj;have FB:=PySem.F.excBase_ValueError
 refine wpAny_Raise_call_subT (C:=C) (nm:=nm) (q:=q) (N:=N) (bs:=bs) (bm:=tl) (hdct:=hdct) (sn:=sn) (sub:=sub) (ab:=ab) (col:=col) (dd:=dd) (k0:=k0) (k1:=k1) (k2:=k2) (k3:=k3) (k5:=k5)
  FB (mN:=mN) (T.hasType FB.hasBase) (I.ok.hd hc) (by rw[he];show(false||(ut cpos (lm Ju X.env)).any (·.1))=false;rw[ac];rfl) aa (NV I hg O.bound ⟨Z,?_⟩ J)
 rw[he];refine Calls.evalArgs_plain ?_;have z:=ha cpos pins s σ H _ I h;rw[he]at z;refine thn z λus s2 ⟨xs,H1,W,r,hz,hE⟩=>⟨Z,by rw[<- r.length];exact hz,W.bk _ _ hC,hN.keeps W.bk,T.keeps W.bk,λh' e hx=>hM pins σ H1 s2 h' e _ _ W hx hE⟩
abbrev Cx.marked(X:Cx)(ea:ge):Cx:={ X with A:=X.A.mark (some (.ref ea)),calm:=false,xe:=λ_ _=>False }
section
variable {X:Cx}{pins:List (ge×Obj)}{σ:St}{H H':Hp}{s s':im}{B:rf}
theorem Cx.Ok.marked(Y:X.Ok)(ea:ge):(X.marked ea).Ok :=
 ⟨Y.mod,Y.kind,Y.glob,Y.blt,Y.above,Y.inj,Y.has,Y.cab,(λz=>nomatch z),Y.frames,Y.stk,Y.exf,Y.bs,Y.bsz,Y.noex,Y.exfs,Y.funs,Y.frf⟩
theorem Inv.marked(I:Inv X pins σ H s)(ea:ge):Inv (X.marked ea) pins σ H s:=⟨I.ok.marked ea,I.os,I.bare,I.base,I.loc,I.cell,I.free,I.freeC,I.pin,I.hok,I.len⟩
end
section
open PySem.W PySem.Builtin PySem.Builtin.ObjectAttr PySem.Builtin.Getset_descriptor
variable {prog:mo}{w:rc}{A:sB}{E:gl->im->Prop}{s:im}{K:pP}{x D:ge}
structure XTy(K:pP)(D:ge):Prop where
 ga:findIn K (.ref D) "__getattribute__" = some (some (.builtin "BaseException.__getattribute__"))
 gt:findIn K (.ref D) "__getattr__" = some none
 ca:findIn K (.ref D) "__class__" = some (some (.builtin "object.__class__"))
 gg:specialIn K (.builtin "object.__class__") "__get__" = some (some (.builtin "getset_descriptor.__get__"))
 tk:takesIn K (.builtin "object.__class__")=some true
 ob:mroIn K D (.type "object")=some true
 be:mroIn K D (.type "BaseException")=some true
 cl:∃c d cd sl,K.lookup D=some ⟨c,d,.cls cd,sl⟩
def iC:V->Option gl
 | .ref a=>some (.ref a)
 | .ty T=>some (.type T)
 | _=>none
theorem Z4(r:Iw y u)(e:iC y=some c):u=c:=by
 cases y<;>cases e<;>exact r
theorem RV:∀{ys:yt} {us cs:List gl},Ip ys us->ys.map iC=cs.map some->us=cs
 | _,_,[],.nil,_=>rfl
 | _,_,_::_,.nil,e=>nomatch e
 | _,_,[],.cons _ _,e=>nomatch e
 | _,_,c::cs,.cons r rs,e=>by
   injection e with e1 e2
   rw[Z4 r e1,RV rs e2]
end
section
open PySem.W
variable {X:Cx}(K:pP)
end
section
variable {P:mo}{w:rc}{K:pP}{mg:Str->Option gl}{base:rf}
end
structure FdX(P:mo)(w:rc)(K:pP)(mg:Str->Option gl)(base:rf)(n:Nat)(x:Str)(ps:yr)(sp:Sp):Prop where
 ex:∃(f:ge) (fd:jp),HV P w K mg base (CX1 P w) n f fd ps sp/\Js K fd ps []/\qy K (.ref f)=true/\mg x=some (.ref f)
end L2
namespace L2
open PySem PySem.Spec PyProof.Rows
def Itd(lo:Int)(n:Nat):It:=⟨λi _=>i<n,λi H x H'=>H'=H/\x = .int (lo-i),λi _=>n<=i⟩
theorem Ww{P:mo}{w:rc}{K:pP}{tg:Expr}(it:ge)(lo:Int)(n:Nat):Rl P w K tg (Itd lo n) [it] it (λi h=>IsRangeIter h it (lo+(i:Nat)*(-1)) ((n:Int)-(i:Nat)) (-1)) where
 mem:=by simp
 obj:=λi h st b Y=>by
  have e:b=it:=by simpa using Y
  subst e
  exact⟨_,st,λv z=>by
   have z':Data.fields _=Data.cell v:=z;cases z'⟩
 keep:=λi h h' st k=>k it (by simp) _ st
 item:=by
  intro X hP hw hK hc i pins s σ H E I O st hg;subst hP hw hK;obtain⟨f0,f1,f2,J,f4,f5⟩:=O it (by simp)
  refine(Walks.range (prog:=X.prog) (w:=X.w) (I.ok.hd hc) it lo (-1) n).item i s _ _ hg st λv h' tk hv W kk=>?_;obtain⟨t,rfl⟩:=hv;have I1:Inv X pins σ H { s with heap:=h',toks:=tk }:=I.turned (λb o Y e=>kk b o (by simpa using Y) e) f0 f1 J f4 f5
  refine⟨_,Z,RQ (s:={ s with heap:=h',toks:=tk }) (n:="range_iterator") W rfl rfl Yd ⟨.int (lo-i),H,I1,⟨t,?_⟩,⟨rfl,rfl⟩,W,λb Y=>(O b Y).1⟩⟩
  rw[show lo+(i:Int) * -1=lo-i by lia]
 done:=by
  intro X hP hw hK hc i pins s σ H E I O st hg;subst hP hw hK;obtain⟨f0,f1,f2,J,f4,f5⟩:=O it (by simp)
  exact wpAny_pyNext_range_end (I.ok.hd hc) st (by have:n<=i:=hg;lia) λh' eb=>⟨Z,I.turned (t':=s.toks) (λb o Y e=>eb b o Y e) f0 f1 J f4 f5⟩
 self:=λ_ _ _ _ _ st h=>wpAny_pyIter_rangeiter st h
theorem Ry(a b:Int):Builtin.Range.rangeSize a b (-1)=(((a-b).toNat:Nat):Int):=by
 unfold Builtin.Range.rangeSize;rw[if_neg Yd]
 split
 ·rw[show -(-1:Int)=1 by decide,Int.ediv_one];lia
 ·lia
section
variable {X:Cx}{tg:Expr}
def jt(ta:TA):TI:=λσ H R=>ta σ H λvs H1=>∃i j:Int,vs=[.int i,.int j,.int (-1)]/\(-1000000<=i/\i<=1000000 /\ -1000000<=j/\j<=1000000)/\R (Itd i (i-j).toNat) H1
theorem ZE(hg:Gl X "range")(hm:X.mg "range" = none)(ha:PA X [a,b,c] ta)(hs:lm [a,b,c] X.env=[(false,tz a X.env),(false,tz b X.env),(false,tz c X.env)]:=by rfl)
 (Y:lm [b,c] X.env=[(false,tz b X.env),(false,tz c X.env)]:=by rfl):PI X tg (.Call (.Name "range" p) [a,b,c] [] pos) (jt ta):=by
 intro pins s σ H R I h;refine Call_ (Mb I hg hm boot_range (PyProof.Rows.callWith_type1 (thn (ha pos pins s σ H _ I h) λus W ⟨vs,H1,I1,r1,J⟩=>?_) (by rw[hs,Y]) (by rw[Y];rfl)))
 obtain⟨i,j,e,⟨J,q2,q3,q4⟩,q⟩:=J;subst e;cases r1 with
 | cons r rr =>
   cases rr with
   | cons r' rr =>
     cases rr with
     | cons r3 rr =>
       cases rr;obtain⟨t,rfl⟩:=r;obtain⟨t',rfl⟩:=r';obtain⟨t3,rfl⟩:=r3
       have z:Builtin.Range.small i j (-1)=true:=by
        unfold Builtin.Range.small;rw[Ry];simp only[Builtin.Range.rangeFitsLong,Bool.and_eq_true,Bool.or_eq_true,decide_eq_true_eq,beq_iff_eq];rw[if_neg Yd];simp only[Bool.and_eq_true,decide_eq_true_eq]
        lia
       refine call_range_3 Yd ?_ (.inl (PyProof.noPylong_small Yl));refine wpAny_pyIter_range (IsRange.new ..) z ?_;have O:Inv X pins σ H1 { W with heap:=W.heap.push { cls:=.type "range",data:=.fields #[.int i t,.int j t',.int (-1) t3] },toks:=W.toks }:=I1.kept λb o e=>Heap.get?_push_of_some _ e
       refine⟨_,[_],_,_,H1,Z,O.kept (t':=W.toks) λb o e=>Heap.get?_push_of_some _ e,Ww _ i (i-j).toNat,?_,λb hb=>?_,q⟩
       ·show IsRangeIter _ _ (i+((0:Nat):Int)*(-1)) ((((i-j).toNat:Nat):Int)-((0:Nat):Int)) (-1);rw[show i+((0:Nat):Int)*(-1)=i by lia,show(((i-j).toNat:Nat):Int)-((0:Nat):Int)=Builtin.Range.rangeSize i j (-1) by rw[Ry];lia]
        exact Heap.get?_push_size _ rfl
       ·have e:=sU.mp hb;subst e;exact O.fpOk (qd _) (O.hok.fresh (qd _))
end
theorem YM{lo:Int}{n:Nat}{g:TG}{tb:TS}{D:Lj}{σ:St}{H:Hp}(J:Nat->St->Hp->Prop)(h0:J 0 σ H)
 (hs:∀i σ H,i<n->J i σ H->g (.int (lo-i)) σ H λY H2=>tb { D with nx:=J (i+1),ct:=J (i+1),bk:=D.nx } Y H2) (hd:∀σ H,J n σ H->D.nx σ H) :
 ∃ W:Nat->Nat->St->Hp->Prop,(∃m,W 0 m σ H)/\∀i m σ H,W i m σ H ->
   ((Itd lo n).stop i H/\D.nx σ H)\/((Itd lo n).go i H/\∃N:St->Hp->Prop,(∀O H',N O H'->∃z,z<m/\W (i+1) z O H')/\∀x H',(Itd lo n).yld i H x H'->g x σ H' λY H2=>tb { D with nx:=N,ct:=N,bk:=D.nx } Y H2):=by
 refine⟨λi m σ H=>m=n-i/\i<=n/\J i σ H,⟨n,by simp,qg _,h0⟩,?_⟩
 rintro i m σ H ⟨rfl,hi,p⟩;by_cases hlt:i<n
 ·refine .inr ⟨hlt,J (i+1),λO H' p'=>⟨n-(i+1),Yl,Z,hlt,p'⟩,λx H' y=>?_⟩;obtain⟨rfl,rfl⟩:=y;exact hs i σ _ hlt p
 ·have e:i=n:=by lia
  subst e;exact .inl ⟨qd _,hd σ H p⟩
theorem Nj{K:pP}{a:ge}{js:yq}{xs:yt}{te:TE}{σ:St}{H:Hp}{O:yt->Hp->Prop}(Y:Nat->yt->Hp->Prop)(h0:Y 0 [] H)
 (z:∀i zs H,i<=xs.length->Y i zs H->SqL K H a xs/\zs.length=i) (hz:xs.length<=io)
 (hs:∀i x zs H,xs[i]? = some x->Y i zs H->te ((cS 1 js σ).set 0 (some x)) H λy H4=>Y (i+1) (zs++[y]) H4) (J:∀zs H',Y xs.length zs H'->O zs H') :
 ∃(n':Nat) (W:Nat->yt->Hp->Prop),W 0 [] H/\LcW (Itl K a) n' 1 js σ (K1 0) QP te O W:=by
 refine⟨xs.length,Y,h0,⟨?_,?_,?_⟩⟩
 ·intro i zs H' hi p;obtain⟨h1,h2⟩:=z i zs H' (pR hi) p;exact⟨⟨xs,xs[i],h1,by simp[hi]⟩,Yl⟩
 ·rintro i zs H' x H1 hi p ⟨rfl,y⟩;exact hs i x zs _ (y xs (z i zs _ (pR hi) p).1) p
 ·intro zs H' p;obtain⟨h1,h2⟩:=z _ zs H' (qd _) p;exact⟨⟨xs,h1,qd _⟩,Yl,J zs H' p⟩
theorem Bd.pow(h:Bd L b):∀n:Nat,Bd (L*n+1) (b ^ n)
 | 0=>by rw[Int.pow_zero];exact(by unfold Bd;decide:Bd 1 1).mono Yl
 | n+1=>by
   rw[Int.pow_succ];exact((Bd.pow h n).mul h).mono (by rw[tH];lia)
theorem Mu{s Ju:TS}(W:St->Hp->Prop)(h:∀nx:St->Hp->Prop,(∀Y H',W Y H'->nx Y H')->s { D with nx:=nx } σ H)(k:∀Y H',W Y H'->Ju D Y H'):Xs s Ju D σ H:=h _ k
theorem K9{t u Ju:TS}(W:St->Hp->Prop)(h:∀nx:St->Hp->Prop,(∀Y H',W Y H'->nx Y H')->QR c t u { D with nx:=nx } (σ.set i (some v)) H)(k:∀Y H',W Y H'->Ju D Y H'):K1 i v σ H (Xs (QR c t u) Ju D):=h _ k
theorem Bd.neg(h:Bd n x):Bd n (-x):=by unfold Bd at *;rw[Int.natAbs_neg];exact h
theorem Zy{a c b:Rat}(Y:b≠0)(h:a*b=c*b):a=c:=by
 have h2:a*b*b⁻¹=c*b*b⁻¹:=by rw[h]
 rw[tI,tI,Rat.mul_inv_cancel _ Y,Rat.mul_one,Rat.mul_one]at h2;exact h2
theorem YX(Y:b≠0)(t:Int):rV t b*(b:Rat)=(t:Rat):=by
 rw[rX];exact rY (Nm.cast_ne Y)
theorem Wd(Y:b≠0)(x:Rat):∀ts:yo,Cv.ev (ts.map λt=>rV t b) x*(b:Rat)=Cv.evI ts x
 | []=>by show(0:Rat)*_=0;grind
 | t::ts=>by
   have ih:=Wd Y x ts;have e:=YX Y t;show(rV t b+x*Cv.ev (ts.map λt=>rV t b) x)*(b:Rat)=(t:Rat)+x*Cv.evI ts x;rw[<- ih,<- e]
   grind
theorem Ta{W:Type}{l:List W}{n i:Nat}{v:W}(O:l.length=n)(hi:i<n)(h:l[n-1-i]? = some v):l.drop (n-(i+1))=v::l.drop (n-i):=by
 have Y:n-(i+1)<l.length:=by rw[O];exact Nat.sub_lt (rL (qg _) hi) (tJ i)
 rw[tK Y,show n-(i+1)+1=n-i from Nat.succ_pred_eq_of_pos (Nat.sub_pos_of_lt hi)]
 congr 1
 have e:l[n-(i+1)]? = some v:=by rw[show n-(i+1)=n-1-i by rw[Nat.sub_sub,Nat.add_comm]];exact h
 rw[sV Y]at e;exact pC.inj e
theorem Mv.put'(m:Mv a H H')(Y:H l=none):Mv a H (upd H' l o):=λb u n q=>by rw[HZ (HW q Y)];exact m b u n q
theorem Mv.free(m:Mv a H H')(Y:l≠a)(h:H' l=none):H l=none:=by
 cases z:H l with
 | none=>rfl
 | some u=>rw[m l u Y z]at h;cases h
theorem Pen.put'(h:Pen H a)(Y:l≠a):Pen (upd H l o) a:=let ⟨x0,x1,x2,ex⟩:=h;⟨x0,x1,x2,by rw[HZ (Ne.symm Y)];exact ex⟩
theorem Pen.ne'(h:Pen H a)(Y:H l=none):l≠a:=let ⟨_,_,_,ex⟩:=h;(HW ex Y).symm
def iJ(K:pP)(H:Hp)(x:V)(rs:yn):Prop:=∃a ys,x = .ref a/\SqL K H a ys/\HR K H ys rs
abbrev Rows(K:pP)(H:Hp):yt->ym->Prop:=Paired (iJ K H)
def rD(rs:yn):PyData:=.list (rs.map nD)
theorem iJ.rds{K:pP}{H:Hp}{x:V}{Y:yn}(h:iJ K H x Y):Rds K H x (rD Y):=by
 obtain⟨a,ys,rfl,s,n⟩:=h;exact n.rdsL s
theorem VM:∀ps qs:ym,PyData.eqvAll (ps.map rD) (qs.map rD)=decide (ps=qs)
 | [],[]=>rfl
 | [],_::_=>rfl
 | _::_,[]=>rfl
 | p::ps,q::qs=>by
   show(PyData.eqv (rD p) (rD q)&&PyData.eqvAll (ps.map rD) (qs.map rD))=_;have e:PyData.eqv (rD p) (rD q)=decide (p=q):=Px p q;rw[e,VM ps qs,Bool.eq_iff_iff];simp
theorem VL:∀qs:ym,PyData.canLayAll0 (qs.map rD)=true
 | []=>rfl
 | q::r=>by
   show(PyData.canLayAll0 (q.map nD)&&PyData.canLayAll0 (r.map rD))=true;rw[SW q,VL r];rfl
theorem RC:∀qs:ym,PyData.depthAll (qs.map rD)<=2
 | []=>qg _
 | q::r=>by
   have ih:=RC r;have iq:=OA q;show max (PyData.depthAll (q.map nD)+1) (PyData.depthAll (r.map rD))<=2;exact Nat.max_le.mpr ⟨Yl,ih⟩
theorem VJ(qs:ym):SeqAt.shaped (.list (qs.map rD))=true:=by
 show(PyData.canLayAll0 (qs.map rD)&&decide (PyData.depthAll (qs.map rD)+1<=64))=true;rw[VL,Bool.true_and];exact decide_eq_true (by have:=RC qs;lia)
theorem Rows.rds{K:pP}{H:Hp}{xs:yt}{Y:ym}(h:Rows K H xs Y):∀(i:Nat) x d,xs[i]? = some x->(Y.map rD)[i]? = some d->Rds K H x d:=λi x d e1 W=>by
 obtain⟨q,O,J⟩:=Paired.get h e1;rw[qR,O]at W;cases W;exact J.rds
theorem jv{K:pP}{H:Hp}{a b:ge}{xs ys:yt}{ps qs:ym}{Q:VK}{neg:Bool}(O:SqL K H a xs)(Y:Rows K H xs ps)(J:SqL K H b ys)(W:Rows K H ys qs)(h:Q (.bl (if neg then !decide (ps=qs) else decide (ps=qs))) H):Nf K neg (.ref a) (.ref b) H Q:=by
 refine OK ⟨_,_,.lst O (by rw[Y.length,qz]) Y.rds,.lst J (by rw[W.length,qz]) W.rds,VJ _,VJ _,?_⟩
 have e:PyData.eqv (.list (ps.map rD)) (.list (qs.map rD))=decide (ps=qs):=VM ps qs;rw[e];exact h
section
variable {X:Cx}
@[irreducible] def XT(K:pP)(neg:Bool):R2:=λx y H Q=>∃p ds d,y = .ref p/\Rds K H (.ref p) (.list ds)/\Rds K H x d/\SeqAt.shaped (.list ds)=true/\SeqAt.shaped d=true/\Q (.bl (if neg then !(ds.any λy=>PyData.eqv y d) else ds.any λy=>PyData.eqv y d)) H
theorem T7{K:pP}{neg:Bool}{x y:V}{H:Hp}{Q:VK}(h:∃p ds d,y = .ref p/\Rds K H (.ref p) (.list ds)/\Rds K H x d/\SeqAt.shaped (.list ds)=true/\SeqAt.shaped d=true/\Q (.bl (if neg then !(ds.any λy=>PyData.eqv y d) else ds.any λy=>PyData.eqv y d)) H):XT K neg x y H Q:=by
 unfold XT;exact h
theorem inD(K:pP)(W:Jw k X.A)(e:X.K=K:=by rfl):OpR X (ul .In) (XT K false):=by
 subst e;intro pins s σ H x y v u Q I Y O h;unfold XT at h;obtain⟨p,ds,d,rfl,r1,r2,h1,h2,q⟩:=h;cases O;obtain⟨as,z⟩:=LK I r1 (u:=.ref p) rfl;obtain⟨bs,J⟩:=LK I r2 Y;exact SeqAt.in_list_reads z J (SeqAt.canLay_of_shaped h1) (SeqAt.canLay_of_shaped h2) (PyProof.Rows.room_in_shaped h2 (by have:=W.un;lia)) ⟨.bl _,H,I,Z,q⟩
end
theorem Zb(q:Rat):∀qs:yn,((qs.map nD).any λy=>PyData.eqv y (nD q))=decide (q∈qs)
 | []=>by simp
 | c::r=>by
   rw[qw,rC,SX,Zb q r,Bool.eq_iff_iff];simp only[Bool.or_eq_true,decide_eq_true_eq,pV]
   constructor
   ·rintro(h | h)
    ·exact .inl h.symm
    ·exact .inr h
   ·rintro(h | h)
    ·exact .inl h.symm
    ·exact .inr h
theorem inN{K:pP}{H:Hp}{x:V}{a:ge}{xs:yt}{q:Rat}{qs:yn}{Q:VK}{neg:Bool}(h1:HP K H x q)(W:SqL K H a xs)(Y:HR K H xs qs)(h:Q (.bl (if neg then !decide (q∈qs) else decide (q∈qs))) H):XT K neg x (.ref a) H Q :=
 T7 ⟨a,_,_,Z,Y.rdsL W,h1.rds,M8 _,OB _,by rw[Zb];exact h⟩
def PtV(K:pP)(H:Hp)(x:V)(ps:yn):Prop:=∃a,x = .ref a/\Crv K H a ps
abbrev Pts(K:pP)(H:Hp):yt->ym->Prop:=Paired (PtV K H)
theorem PtV.same{K:pP}{H H':Hp}{x:V}{ps:yn}(h:PtV K H x ps)(e:Hy H H'):PtV K H' x ps:=let ⟨a,h1,h2⟩:=h;⟨a,h1,h2.same e⟩
theorem PtV.mv{K:pP}{H H':Hp}{x:V}{ps:yn}{p:ge}(h:PtV K H x ps)(pn:Pen H p)(m:Mv p H H'):PtV K H' x ps:=let ⟨a,h1,h2⟩:=h;⟨a,h1,h2.mv pn m⟩
theorem PtV.put{K:pP}{H:Hp}{x:V}{ps:yn}{p:ge}{ys:yt}{o:HO}(h:PtV K H x ps)(Y:H p=some (.lst ys)):PtV K (upd H p o) x ps:=let ⟨a,h1,h2⟩:=h;⟨a,h1,h2.put Y⟩
theorem Pts.same{K:pP}{H H':Hp}{xs:yt}{pss:ym}(h:Pts K H xs pss)(e:Hy H H'):Pts K H' xs pss:=Paired.mapP h λ_ _ z=>z.same e
theorem Pts.mv{K:pP}{H H':Hp}{xs:yt}{pss:ym}{p:ge}(h:Pts K H xs pss)(pn:Pen H p)(m:Mv p H H'):Pts K H' xs pss:=Paired.mapP h λ_ _ z=>z.mv pn m
theorem Pts.put{K:pP}{H:Hp}{xs:yt}{pss:ym}{p:ge}{ys:yt}{o:HO}(h:Pts K H xs pss)(Y:H p=some (.lst ys)):Pts K (upd H p o) xs pss:=Paired.mapP h λ_ _ z=>z.put Y
structure Li where
 x:Rat
 k:Int
 n:Rat
deriving DecidableEq
def TlV(K:pP)(H:Hp)(v:V)(t:Li):Prop:=∃a rx rn,v = .ref a/\SqT K H a [rx,.int t.k,rn]/\HP K H rx t.x/\HP K H rn t.n
abbrev Tls(K:pP)(H:Hp):yt->List Li->Prop:=Paired (TlV K H)
theorem TlV.same{K:pP}{H H':Hp}{x:V}{t:Li}(h:TlV K H x t)(e:Hy H H'):TlV K H' x t:=let ⟨a,rx,rn,h1,h2,h3,h4⟩:=h;⟨a,rx,rn,h1,h2.same e,h3.same e,h4.same e⟩
theorem TlV.put{K:pP}{H:Hp}{x:V}{t:Li}{p:ge}{ys:yt}{o:HO}(h:TlV K H x t)(Y:H p=some (.lst ys)):TlV K (upd H p o) x t:=let ⟨a,rx,rn,h1,h2,h3,h4⟩:=h;⟨a,rx,rn,h1,h2.put Y,h3.put Y,h4.put Y⟩
theorem Tls.same{K:pP}{H H':Hp}{xs:yt}{ts:List Li}(h:Tls K H xs ts)(e:Hy H H'):Tls K H' xs ts:=Paired.mapP h λ_ _ z=>z.same e
theorem Tls.put{K:pP}{H:Hp}{xs:yt}{ts:List Li}{p:ge}{ys:yt}{o:HO}(h:Tls K H xs ts)(Y:H p=some (.lst ys)):Tls K (upd H p o) xs ts:=Paired.mapP h λ_ _ z=>z.put Y
section
variable {X:Cx}{e:Expr}{te:TE}
def jM(K:pP)(te:TE):TE:=λσ H Q=>te σ H λx H1=>∃a xs,x = .ref a/\SqL K H1 a xs/\∀p,H1 p=none->Q (.ref p) (upd H1 p (.lst xs.reverse))
theorem Tp:∀{xs:yt} {us:List gl},Ip xs us->Ip xs.reverse us.reverse
 | _,_,.nil=>.nil
 | x::xs,u::us,.cons r t=>by
   rw[tL,tL];exact(Tp t).snoc r
theorem gP(K:pP)(he:PE X e te)(e0:X.K=K:=by rfl):PE X (.Subscript e (.Slice none none (some (.UnaryOp .USub (.Constant (.int 1) j p3) p4)) p2) pos) (jM K te):=by
 subst e0;intro pins s σ H Q I h;refine Subscript_ (thn (he pins s σ H _ I h) λv s1 ⟨x,H1,I1,r1,q1⟩=>?_);obtain⟨a,xs,rfl,hx,q⟩:=q1;cases r1;refine wpAny_Slice (thn (IS pins s1 σ H1 (λl H2=>l=none/\H2=H1) I1 ⟨Z,Z⟩) λvl s2 ⟨l,H2,I2,pl,el⟩=>thn (IS pins s2 σ H2 (λl O=>l=none/\O=H2) I2 ⟨Z,Z⟩) λvu s3 ⟨u,O,I3,pu,eu⟩=>?_);obtain⟨rfl,rfl⟩:=el;obtain⟨rfl,rfl⟩:=eu;refine thn (IW (RG Oa Hv) pins s3 σ O (λst z=>st=some (-1)/\z=O) I3 ⟨_,Z,_,Z,Z,Z⟩) λvk Y ⟨st,z,I4,pk,ek⟩=>?_;obtain⟨rfl,rfl⟩:=ek;have J:Inv X pins σ z { Y with heap:=Y.heap.push { cls:=.type "slice",data:=.fields #[vl,vu,vk] } }:=I4.kept (t':=Y.toks) λb ob q=>Heap.get?_push_of_some _ q
 obtain⟨ac,r,ht,hz⟩:=J.list hx;have aa:=r.length;refine tail_any (ops:=[.ref a,.ref Y.heap.objs.size]) ht.isList.typeIs slot_list_getitem.lookup ?_ (by with_unfolding_all rfl)
 refine wpAny_getItem_list_slice ht.isList (Heap.IsSliceOf.new ..) pl pu pk (by simp) ?_ (by rw[qZ]<;>lia)
 rw[PySem.W.krv_pick];refine⟨.ref _,_,J.laid (t':=Y.toks) (o:=.lst xs.reverse) (λb ob q=>Heap.get?_push_of_some _ q) (qd _) ?_,Z,q _ (J.hok.fresh (qd _))⟩;exact⟨by rw[tM];exact hz,_,0,Tp r,Heap.get?_push_size _ rfl⟩
end
def Tj(t:TGs)(nt:Nat):Prop:=∀(vs:yt) (σ:St) (H:Hp) (Q:St->Hp->Prop) (σ0:St),(σ.length=σ0.length/\σ.drop nt=σ0.drop nt)->t vs σ H Q->t vs σ H λσ2 H2=>(σ2.length=σ0.length/\σ2.drop nt=σ0.drop nt)/\Q σ2 H2
theorem KU:Tj e7 nt:=λ_ _ _ _ _ r ⟨e,q⟩=>⟨e,r,q⟩
theorem IY(h:i<nt)(O:Tj u nt):Tj (QJ (K1 i) u) nt:=λvs σ H Q Y r ⟨v,W,e,q⟩=>⟨v,W,e,O W (σ.set i (some v)) H Q Y ⟨by rw[rB];exact r.1,by
 rw[<- r.2];apply sP;intro k;rw[sQ,sQ,qa Yl]⟩ q⟩
theorem LF{K:pP}{n nt:Nat}{t:TGs}(h:Tj t nt):UA (X4 K n t) nt:=λ_ σ H Q ⟨a,xs,e,s,l,q⟩=>⟨a,xs,e,s,l,h xs σ H Q σ ⟨Z,Z⟩ q⟩
end L2
namespace L2
def JD:yn->yn->yn
 | [],m=>m
 | a::l,[]=>a::l
 | a::l,b::m=>(a+b)::JD l m
theorem Km(x:Rat):∀l m,Cv.ev (JD l m) x=Cv.ev l x+Cv.ev m x
 | [],m=>by show _=0+_;grind [JD]
 | a::l,[]=>by show _=_+0;rw[JD];grind
 | a::l,b::m=>by
   have ih:=Km x l m;show(a+b)+x*Cv.ev (JD l m) x=(a+x*Cv.ev l x)+(b+x*Cv.ev m x);rw[ih];grind
theorem Lr:∀l m,(JD l m).length=max l.length m.length
 | [],m=>by show m.length=max 0 m.length;lia
 | a::l,[]=>by show l.length+1=max (l.length+1) 0;lia
 | a::l,b::m=>by
   have ih:=Lr l m;show(JD l m).length+1=max (l.length+1) (m.length+1)
   lia
def LB:yn->yn->yn
 | [],_=>[]
 | a::l,m=>JD (m.map (· * a)) (0::LB l m)
theorem Lp(x:Rat)(m:yn):∀l,Cv.ev (LB l m) x=Cv.ev l x*Cv.ev m x
 | []=>by show(0:Rat)=0*_;grind
 | a::l=>by
   have ih:=Lp x m l;show Cv.ev (JD (m.map (· * a)) (0::LB l m)) x=(a+x*Cv.ev l x)*_;rw[Km,Cv.ev_scale];show _+(0+x*Cv.ev (LB l m) x)=_;rw[ih];grind
theorem W9(Y:Tn m)(O:l.length<=m.length)(h:∀x,Cv.ev l x=Cv.ev m x):l=m:=by
 have e:l++qK (m.length-l.length) 0=m:=by
  refine Cv.same_of _ _ (by rw[qV,qW];lia) λx=>?_
  rw[<- Cv.ev_strip,Cv.strip_zeros,Cv.ev_strip];exact h x
 by_cases hlt:l.length<m.length
 ·rcases Y with Y | ⟨q,W,J⟩
  ·rw[Y]at hlt;simp at hlt
  ·exfalso;rw[<- e,qV,qW,qO Yl,qP,if_pos Yl]at W;exact J (pC.inj W).symm
 ·rw[show m.length-l.length=0 by lia,List.replicate_zero,qG]at e
  exact e
theorem Ul(W:Tn l)(Y:Tn m)(h:∀x,Cv.ev l x=Cv.ev m x):l=m:=by
 by_cases hle:l.length<=m.length
 ·exact W9 Y hle h
 ·exact(W9 W Yl λx=>(h x).symm).symm
open PySem PySem.Spec PyProof.Rows
theorem QC{K:pP}{a:ge}{js:yq}{xs:yt}{te:TE}{σ:St}{H:Hp}{O:yt->Hp->Prop}(Y:Nat->yt->Hp->Prop)(h0:Y 0 [] H)
 (z:∀i zs H,i<=xs.length->Y i zs H->SqT K H a xs/\zs.length=i) (hz:xs.length<=io)
 (hs:∀i x zs H,xs[i]? = some x->Y i zs H->te ((cS 1 js σ).set 0 (some x)) H λy H4=>Y (i+1) (zs++[y]) H4) (J:∀zs H',Y xs.length zs H'->O zs H') :
 ∃(n':Nat) (W:Nat->yt->Hp->Prop),W 0 [] H/\LcW (Itt K a) n' 1 js σ (K1 0) QP te O W:=by
 refine⟨xs.length,Y,h0,⟨?_,?_,?_⟩⟩
 ·intro i zs H' hi p;obtain⟨h1,h2⟩:=z i zs H' (pR hi) p;exact⟨⟨xs,xs[i],h1,by simp[hi]⟩,Yl⟩
 ·rintro i zs H' x H1 hi p ⟨rfl,y⟩;exact hs i x zs _ (y xs (z i zs _ (pR hi) p).1) p
 ·intro zs H' p;obtain⟨h1,h2⟩:=z _ zs H' (qd _) p;exact⟨⟨xs,h1,qd _⟩,Yl,J zs H' p⟩
end L2
namespace L2
def ch:Nat->Nat->Nat
 | _,0=>1
 | 0,_+1=>0
 | n+1,k+1=>ch n k+ch n (k+1)
def aQ(l:yn):yn:=(pK (l.length-1)).map λj=>l.getD j 0+l.getD (j+1) 0
def aQN:Nat->yn->yn
 | 0,l=>l
 | n+1,l=>aQ (aQN n l)
def gS(al:yn):yn:=(pK al.length).map λk=>al.getD k 0 / ((ch (al.length-1) k:Nat):Rat)
def jU(al:yn):yn:=(pK al.length).map λj=>(aQN j (gS al)).getD 0 0
def goL(a b:Rat):Rat->yn->yn
 | p,[]=>[a*p]
 | p,c::r=>(a*p+b*c)::goL a b c r
def Z2(a b:Rat):yn->yn
 | []=>[]
 | q::r=>match Z2 a b r with
   | []=>[q]
   | c::s=>(q+b*c)::goL a b c s
def hts(cs:yn)(lo hi:Rat):yn:=if cs=[] then [0] else jU (Z2 (hi-lo) lo cs)
end L2
namespace L2
def sd:yn->yn
 | []=>[]
 | [_]=>[]
 | _::p::r=>JD (0::sd (p::r)) (Z2 1 1 (p::r))
theorem X8(n:Nat):((n+1:Nat):Rat)=((n:Nat):Rat)+1:=by rw[Rat.natCast_add];rfl
def nw(c:Nat->Rat)(x:Rat):Nat->Nat->Rat
 | _,0=>0
 | j,n+1=>c j+(x-((j:Nat):Rat))*nw c x (j+1) n
end L2
namespace L2
open PySem PySem.Spec PyProof.Rows PySem.SeqAt
end L2
namespace L2
def dL:yn->yn
 | []=>[]
 | _::r=>JD r (0::dL r)
theorem RT(q:Rat)(r:yn)(x:Rat):Cv.ev (dL (q::r)) x=Cv.ev r x+x*Cv.ev (dL r) x:=by
 show Cv.ev (JD r (0::dL r)) x=_;rw[Km];show _+(0+x*Cv.ev (dL r) x)=_
 grind
def wL(l:yn)(c:Nat):yn:=(pK l.length).map λj=>l.getD j 0*((j+c:Nat):Rat)
theorem Zj(a:Rat)(r:yn)(c:Nat):wL (a::r) c=a*((c:Nat):Rat)::wL r (c+1):=by
 unfold wL;show(pK (r.length+1)).map _=_;rw[List.range_succ_eq_map,qw,tN];refine congr (congrArg tj ?_) ?_
 ·show a*((0+c:Nat):Rat)=_;rw[tO]
 ·refine tP λj _=>?_;show r.getD j 0*((j+1+c:Nat):Rat)=r.getD j 0*((j+(c+1):Nat):Rat);rw[show j+1+c=j+(c+1) by lia]
theorem g7(x:Rat):∀(l:yn) (c:Nat),Cv.ev (wL l c) x=((c:Nat):Rat)*Cv.ev l x+x*Cv.ev (dL l) x
 | [],c=>by show(0:Rat)=_*0+x*0;grind
 | a::r,c=>by
   rw[Zj,RT];show a*((c:Nat):Rat)+x*Cv.ev (wL r (c+1)) x=((c:Nat):Rat)*(a+x*Cv.ev r x)+_;rw[g7 x r (c+1),X8]
   grind
theorem Mt(x:Rat):∀l:yn,Cv.ev ((pK (l.length-1)).map λj=>l.getD (j+1) 0*((j+1:Nat):Rat)) x=Cv.ev (dL l) x
 | []=>rfl
 | q::r=>by
   rw[RT];have h:=g7 x r 1;have e:((1:Nat):Rat)=1:=rfl;rw[e,Rat.one_mul]at h;rw[<- h]
   rfl
def ty(x:Rat):yn->yn
 | []=>[]
 | q::r=>JD (q::ty x r) ((ty x r).map (· * x))
theorem O0(x h:Rat):∀l,Cv.ev (ty x l) h=Cv.ev l (x+h)
 | []=>rfl
 | q::r=>by
   have ih:=O0 x h r;show Cv.ev (JD (q::ty x r) ((ty x r).map (· * x))) h=q+(x+h)*Cv.ev r (x+h);rw[Km,Cv.ev_scale];show(q+h*Cv.ev (ty x r) h)+_=_;rw[ih];grind
theorem JB:∀(l m:yn) (k:Nat),(JD l m).getD k 0=l.getD k 0+m.getD k 0
 | [],m,k=>by show m.getD k 0=0+m.getD k 0;grind
 | a::l,[],k=>by show(a::l).getD k 0=(a::l).getD k 0+0;grind
 | a::l,b::m,0=>rfl
 | a::l,b::m,k+1=>JB l m k
theorem K8(y:Rat)(l:yn)(k:Nat):(l.map (· * y)).getD k 0=l.getD k 0*y:=by
 rw[sO,sO,qR];cases l[k]? with
 | none=>show(0:Rat)=0*y;grind
 | some t=>rfl
theorem Pm(x:Rat):∀l,(ty x l).getD 0 0=Cv.ev l x
 | []=>rfl
 | q::r=>by
   have ih:=Pm x r;show(JD (q::ty x r) ((ty x r).map (· * x))).getD 0 0=q+x*Cv.ev r x;rw[JB,K8,ih];show q+_=_
   grind
theorem LL(x:Rat):∀l,(ty x l).getD 1 0=Cv.ev (dL l) x
 | []=>rfl
 | q::r=>by
   have ih:=LL x r;have Y:=Pm x r;rw[RT];show(JD (q::ty x r) ((ty x r).map (· * x))).getD 1 0=_;rw[JB,K8,ih];show(ty x r).getD 0 0+_=_;rw[Y];grind
theorem ML(h:∀k:Nat,Cv.ev l ((k:Nat):Rat)=Cv.ev m ((k:Nat):Rat))(k:Nat):l.getD k 0=m.getD k 0:=by
 have z:=Cv.ident _ (JD l (m.map (· * (-1)))) (qd _) 0 λk _=>by
  rw[Km,Cv.ev_scale,h k];grind
 have e:(JD l (m.map (· * (-1)))).getD k 0=0:=by
  rw[sO];cases q:(JD l (m.map (· * (-1))))[k]? with
  | none=>rfl
  | some t=>exact z t (qU q)
 rw[JB,K8]at e
 grind
theorem Oi(h:∀x,Cv.ev l x=Cv.ev m x)(x:Rat):Cv.ev (dL l) x=Cv.ev (dL m) x:=by
 rw[<- LL,<- LL];exact ML (λk=>by rw[O0,O0,h]) 1
theorem X3(a b:yn):(LB a b).getD 0 0=a.getD 0 0*b.getD 0 0:=by
 cases a with
 | nil=>show(0:Rat)=0*_;grind
 | cons a l =>
   show(JD (b.map (· * a)) (0::LB l b)).getD 0 0=a*_;rw[JB,K8];show _+0=_
   grind
theorem X2(a b:yn):(LB a b).getD 1 0=a.getD 0 0*b.getD 1 0+a.getD 1 0*b.getD 0 0:=by
 cases a with
 | nil=>show(0:Rat)=0*_+0*_;grind
 | cons a l =>
   show(JD (b.map (· * a)) (0::LB l b)).getD 1 0=a*_+l.getD 0 0*_;rw[JB,K8];show _+(LB l b).getD 0 0=_;rw[X3];grind
theorem MS(h:∀x,Cv.ev l x=Cv.ev a x*Cv.ev b x)(x:Rat):Cv.ev (dL l) x=Cv.ev a x*Cv.ev (dL b) x+Cv.ev (dL a) x*Cv.ev b x:=by
 rw[<- LL,<- LL,<- LL,<- Pm,<- Pm,<- X2];exact ML (λk=>by rw[O0,Lp,O0,O0,h]) 1
theorem Rx(h:∀x,Cv.ev l x=Cv.ev a x+Cv.ev b x)(x:Rat):Cv.ev (dL l) x=Cv.ev (dL a) x+Cv.ev (dL b) x:=by
 rw[<- LL,<- LL,<- LL,<- JB];exact ML (λk=>by rw[O0,Km,O0,O0,h]) 1
theorem OU(c x:Rat):Cv.ev (dL [c]) x=0:=by
 rw[RT];show(0:Rat)+x*0=0;grind
theorem Nc(c d x:Rat):Cv.ev (dL [c,d]) x=d:=by
 rw[RT,RT];show(d+x*0)+x*(0+x*0)=d;grind
def quo(c:Rat):yn->yn
 | []=>[]
 | _::r=>JD r ((quo c r).map (· * c))
theorem XU(c x:Rat):∀l,Cv.ev l x=Cv.ev l c+(x-c)*Cv.ev (quo c l) x
 | []=>by show(0:Rat)=0+_*0;grind
 | q::r=>by
   have ih:=XU c x r;show q+x*Cv.ev r x=(q+c*Cv.ev r c)+(x-c)*Cv.ev (JD r ((quo c r).map (· * c))) x;rw[Km,Cv.ev_scale];have h:(x-c)*(Cv.ev r x+Cv.ev (quo c r) x*c)=x*Cv.ev r x-c*(Cv.ev r x-(x-c)*Cv.ev (quo c r) x):=by grind
   rw[h,show Cv.ev r x-(x-c)*Cv.ev (quo c r) x=Cv.ev r c by grind]
   grind
theorem Ng(c:Rat):∀l,(quo c l).length=l.length-1
 | []=>rfl
 | q::r=>by
   have ih:=Ng c r;show(JD r ((quo c r).map (· * c))).length=r.length;rw[Lr,qz,ih]
   lia
end L2
namespace L2
def prL:yn->yn
 | []=>[1]
 | o::os=>LB [-o,1] (prL os)
def prV(x:Rat):yn->Rat
 | []=>1
 | o::os=>(x-o)*prV x os
theorem Qh(x:Rat):∀os,Cv.ev (prL os) x=prV x os
 | []=>by show(1:Rat)+x*0=1;grind
 | o::os=>by
   show Cv.ev (LB [-o,1] (prL os)) x=_;rw[Lp,Qh x os];show(-o+x*(1+x*0))*prV x os=(x-o)*prV x os
   grind
theorem Qg:∀{os:yn},x∈os->prV x os=0
 | o::os,h=>by
   show(x-o)*prV x os=0
   rcases pV.mp h with e | e
   ·rw[e];grind
   ·rw[Qg e];grind
theorem WD(x o:Rat)(Y:yn):Cv.ev (dL (prL (o::Y))) x=(x-o)*Cv.ev (dL (prL Y)) x+prV x Y:=by
 rw[MS (l:=prL (o::Y)) (a:=[-o,1]) (b:=prL Y) (λy=>Lp y (prL Y) [-o,1]),Nc,Qh];show(-o+x*(1+x*0))*_+1*_=_
 grind
theorem Lz:∀{W:yn},2<=W.count x->Cv.ev (dL (prL W)) x=0
 | [],h=>by simp at h
 | o::W,h=>by
   rw[WD];by_cases e:o=x
   ·subst e;rw[List.count_cons_self]at h;have Y:o∈W:=List.count_pos_iff.mp Yl;rw[Qg Y];grind
   ·rw[List.count_cons_of_ne e]at h;have Y:x∈W:=List.count_pos_iff.mp Yl;rw[Lz h,Qg Y];grind
end L2
namespace L2
open PySem PySem.Spec PyProof.Rows
theorem ZV{K:pP}{a:ge}{js:yq}{xs:yt}{tc:TT}{te:TE}{σ:St}{H:Hp}{O:yt->Hp->Prop}(Y:Nat->yt->Hp->Prop)(h0:Y 0 [] H)
 (z:∀i zs H,i<=xs.length->Y i zs H->SqL K H a xs/\zs.length<=i) (hz:xs.length<=io)
 (hs:∀i x zs H,xs[i]? = some x->Y i zs H->tc ((cS 1 js σ).set 0 (some x)) H λb H3=>if b=true then te ((cS 1 js σ).set 0 (some x)) H3 λy H4=>Y (i+1) (zs++[y]) H4 else Y (i+1) zs H3) (J:∀zs H',Y xs.length zs H'->O zs H') :
 ∃(n':Nat) (W:Nat->yt->Hp->Prop),W 0 [] H/\LcW (Itl K a) n' 1 js σ (K1 0) tc te O W:=by
 refine⟨xs.length,Y,h0,⟨?_,?_,?_⟩⟩
 ·intro i zs H' hi p;obtain⟨h1,h2⟩:=z i zs H' (pR hi) p;exact⟨⟨xs,xs[i],h1,by simp[hi]⟩,Yl⟩
 ·rintro i zs H' x H1 hi p ⟨rfl,y⟩;exact hs i x zs _ (y xs (z i zs _ (pR hi) p).1) p
 ·intro zs H' p;obtain⟨h1,h2⟩:=z _ zs H' (qd _) p;exact⟨⟨xs,h1,qd _⟩,Yl,J zs H' p⟩
end L2
namespace PySem
open Sem (wp)
open Builtin
set_option maxRecDepth 100000
end PySem
namespace L2
open PySem PySem.Spec PyProof.Rows
variable {X:Cx}
end L2
namespace L2
open PySem PySem.Spec PyProof.Rows
theorem Jw.units1(r:Jw k A):A.units+1<cLine:=by have:=r.un;lia
def kQ(q:Rat):List Key:=[.inl q.num,.inl (q.den:Int)]
theorem YE(h:kQ p=kQ q):p=q:=by
 unfold kQ at h
 injection h with h1 h2
 injection h2 with h2 _
 injection h1 with h1
 injection h2 with h2
 exact Rat.ext h1 (Int.ofNat.inj h2)
def Nq(H:Hp)(x:V)(q:Rat):Prop:=∃r,x = .ref r/\H r=some (nT q)
abbrev Io(H:Hp):yt->yn->Prop:=Paired (Nq H)
theorem Nq.num{K:pP}{H:Hp}{x:V}{q:Rat}(h:Nq H x q):HP K H x q:=let ⟨r,e,h⟩:=h;⟨r,e,SqT.of h⟩
theorem Nq.same(h:Nq H x q)(e:Hy H H'):Nq H' x q:=let ⟨r,z,h⟩:=h;⟨r,z,e _ _ h⟩
theorem Nq.mv(h:Nq H x q)(pn:Pen H p)(m:Mv p H H'):Nq H' x q:=let ⟨r,z,h⟩:=h;⟨r,z,m r _ (pn.ne h (NS q)) h⟩
theorem Io.nums{K:pP}{H:Hp}{xs:yt}{qs:yn}(h:Io H xs qs):HR K H xs qs:=Paired.mapP h λ_ _ z=>z.num
theorem Io.same(h:Io H xs qs)(e:Hy H H'):Io H' xs qs:=Paired.mapP h λ_ _ z=>z.same e
theorem Io.mv(h:Io H xs qs)(pn:Pen H p)(m:Mv p H H'):Io H' xs qs:=Paired.mapP h λ_ _ z=>z.mv pn m
def PtT(K:pP)(H:Hp)(x:V)(ps:yn):Prop:=∃a us p,x = .ref a/\SqT K H a us/\HR K H us ps/\us[0]? = some (.ref p)/\H p=some (nT (ps.getD 0 0))
abbrev Ie(K:pP)(H:Hp):yt->ym->Prop:=Paired (PtT K H)
section
variable {K:pP}{H H':Hp}{x:V}{ps:yn}{xs:yt}{pss:ym}{p:ge}{ys:yt}{o:HO}
theorem PtT.pt(h:PtT K H x ps):PtV K H x ps:=let ⟨a,us,_,e,h1,h2,_⟩:=h;⟨a,e,us,h1,h2⟩
theorem PtT.same(h:PtT K H x ps)(e:Hy H H'):PtT K H' x ps:=let ⟨a,us,b,z,h1,h2,h3,h4⟩:=h;⟨a,us,b,z,h1.same e,h2.same e,h3,e _ _ h4⟩
theorem PtT.mv(h:PtT K H x ps)(pn:Pen H p)(m:Mv p H H'):PtT K H' x ps:=let ⟨a,us,b,z,h1,h2,h3,h4⟩:=h;⟨a,us,b,z,h1.mv pn m,h2.mv pn m,h3,m b _ (pn.ne h4 (NS _)) h4⟩
theorem PtT.put(h:PtT K H x ps)(Y:H p=some (.lst ys)):PtT K (upd H p o) x ps:=let ⟨a,us,b,z,h1,h2,h3,h4⟩:=h;⟨a,us,b,z,h1.put Y,h2.put Y,h3,by rw[HZ (Ku h4 Y (λz=>by cases z))];exact h4⟩
theorem Ie.pts(h:Ie K H xs pss):Pts K H xs pss:=Paired.mapP h λ_ _ z=>z.pt
theorem Ie.same(h:Ie K H xs pss)(e:Hy H H'):Ie K H' xs pss:=Paired.mapP h λ_ _ z=>z.same e
theorem Ie.mv(h:Ie K H xs pss)(pn:Pen H p)(m:Mv p H H'):Ie K H' xs pss:=Paired.mapP h λ_ _ z=>z.mv pn m
theorem Ie.put(h:Ie K H xs pss)(Y:H p=some (.lst ys)):Ie K (upd H p o) xs pss:=Paired.mapP h λ_ _ z=>z.put Y
end
def TlT(K:pP)(H:Hp)(v:V)(t:Li):Prop:=∃a p rn,v = .ref a/\SqT K H a [.ref p,.int t.k,rn]/\H p=some (nT t.x)/\HP K H rn t.n
abbrev O8(K:pP)(H:Hp):yt->List Li->Prop:=Paired (TlT K H)
section
variable {K:pP}{H H':Hp}{x:V}{t:Li}{xs:yt}{ts:List Li}{p:ge}{ys:yt}{o:HO}
theorem TlT.tl(h:TlT K H x t):TlV K H x t:=let ⟨a,b,rn,e,h1,h2,h3⟩:=h;⟨a,.ref b,rn,e,h1,HP.of h2,h3⟩
theorem TlT.same(h:TlT K H x t)(e:Hy H H'):TlT K H' x t:=let ⟨a,b,rn,z,h1,h2,h3⟩:=h;⟨a,b,rn,z,h1.same e,e _ _ h2,h3.same e⟩
theorem TlT.put(h:TlT K H x t)(Y:H p=some (.lst ys)):TlT K (upd H p o) x t:=let ⟨a,b,rn,z,h1,h2,h3⟩:=h;⟨a,b,rn,z,h1.put Y,by rw[HZ (Ku h2 Y (λz=>by cases z))];exact h2,h3.put Y⟩
theorem O8.same(h:O8 K H xs ts)(e:Hy H H'):O8 K H' xs ts:=Paired.mapP h λ_ _ z=>z.same e
theorem O8.put(h:O8 K H xs ts)(Y:H p=some (.lst ys)):O8 K (upd H p o) xs ts:=Paired.mapP h λ_ _ z=>z.put Y
theorem O8.tls(h:O8 K H xs ts):Tls K H xs ts:=Paired.mapP h λ_ _ z=>z.tl
end
end L2
namespace L2
def nwT(T:Nat->Nat->Rat)(x:Nat->Rat)(j:Nat):Nat->yn
 | 0=>[]
 | n+1=>JD (nwT T x j n) ((prL ((pK n).map λi=>x (j+i))).map (· * T n j))
def prF(x:Nat->Rat)(j n:Nat)(X:Rat):Rat:=prV X ((pK n).map λi=>x (j+i))
theorem VQ(X:Rat):∀(l m:yn),prV X (l++m)=prV X l*prV X m
 | [],m=>by show prV X m=1*prV X m;grind
 | a::l,m=>by
   show(X-a)*prV X (l++m)=(X-a)*prV X l*prV X m;rw[VQ X l m];grind
theorem Qi(x:Nat->Rat)(j n:Nat)(X:Rat):prF x j (n+1) X=prF x j n X*(X-x (j+n)):=by
 unfold prF;rw[tQ,sD,VQ];show _*((X-x (j+n))*1)=_
 grind
theorem RE(x:Nat->Rat)(j:Nat)(X:Rat):∀n,prF x j (n+1) X=(X-x j)*prF x (j+1) n X
 | 0=>by show(X-x (j+0))*1=(X-x j)*1;rw[sk]
 | n+1=>by
   rw[Qi,RE x j X n,Qi,show j+(n+1)=j+1+n by lia];grind
theorem M5(T:Nat->Nat->Rat)(x:Nat->Rat)(j n:Nat)(X:Rat):Cv.ev (nwT T x j (n+1)) X=Cv.ev (nwT T x j n) X+T n j*prF x j n X:=by
 show Cv.ev (JD _ _) X=_;rw[Km,Cv.ev_scale,Qh];show _+prV X _*_=_+_*prV X _
 grind
def Wl(T:Nat->Nat->Rat)(x:Nat->Rat)(N:Nat):Prop:=∀k j,j+k+1<N->T (k+1) j*(x (j+k+1)-x j)=T k (j+1)-T k j
theorem Qw(h:Wl T x N)(X:Rat):∀n j,j+n<N->Cv.ev (nwT T x j (n+1)) X=Cv.ev (nwT T x (j+1) n) X+T n j*prF x (j+1) n X
 | 0,j,_=>by
   rw[M5];show Cv.ev [] X+T 0 j*1=Cv.ev [] X+T 0 j*1
   rfl
 | n+1,j,hj=>by
   have ih:=Qw h X n j Yl;have hk:=h n j Yl;rw[M5,ih,M5 T x (j+1) n,RE,Qi x (j+1) n,show j+1+n=j+n+1 by lia]
   grind
theorem Yf(h:Wl T x N):∀n j i,j+n<=N->i<n->Cv.ev (nwT T x j n) (x (j+i))=T 0 (j+i)
 | n+1,j,i,hj,hi=>by
   have IH:=Yf h n;by_cases hin:i<n
   ·rw[M5,IH j i Yl hin];have:prF x j n (x (j+i))=0:=Qg (tR.mpr ⟨i,pO.mpr hin,Z⟩);rw[this];grind
   ·have e:i=n:=by lia
    subst e
    match i,hj,IH with
    | 0,_,_ =>
      rw[M5];show(0:Rat)+T 0 j*1=T 0 j
      grind
    | i+1,hj,IH =>
      rw[Qw h _ (i+1) j Yl];have Y:=IH (j+1) i Yl Yl;rw[show j+1+i=j+(i+1) by lia]at Y
      rw[Y];have:prF x (j+1) (i+1) (x (j+(i+1)))=0:=Qg (tR.mpr ⟨i,pO.mpr Yl,by show x (j+1+i)=_;rw[show j+1+i=j+(i+1) by lia]⟩)
      rw[this];grind
theorem RU{n i:Nat}{y:Rat}(h:i+1<n)(Y:f i=y)(h1:f (i+1)=y):2<=((pK n).map f).count y:=by
 have O:[f i,f (i+1)].Sublist ((pK n).map f):=by
  have e:(pK n).map f=((pK n).map f).take i++(f i::f (i+1)::((pK n).map f).drop (i+2)):=by
   have Y:((pK n).map f)[i]? = some (f i):=by rw[qR,tS Yl];rfl
   have h1:((pK n).map f)[i+1]? = some (f (i+1)):=by rw[qR,tS Yl];rfl
   obtain⟨z,W⟩:=pY.mp Y;obtain⟨J,e1⟩:=pY.mp h1;have a:=(tU i ((pK n).map f)).symm;rw[tK z,tK J,W,e1]at a;exact a
  rw[e];exact(List.Sublist.cons₂ _ (List.Sublist.cons₂ _ (List.nil_sublist _))).trans (List.sublist_append_right _ _)
 have:=O.count_le y;rw[Y,h1]at this
 simpa using this
theorem KP(h:∀X,Cv.ev l X=Cv.ev a X+c*Cv.ev b X)(X:Rat):Cv.ev (dL l) X=Cv.ev (dL a) X+c*Cv.ev (dL b) X:=by
 have h1:∀X,Cv.ev l X=Cv.ev a X+Cv.ev (LB [c] b) X:=λX=>by
  rw[h X,Lp];show _=_+(c+X*0)*_
  grind
 rw[Rx h1 X,MS (l:=LB [c] b) (a:=[c]) (b:=b) (λX=>Lp _ _ _) X,OU];show _+((c+X*0)*_+0*_)=_
 grind
theorem RI(h:Wl T x N):∀n j i,j+n<=N->i+1<n->x (j+i+1)=x (j+i)->Cv.ev (dL (nwT T x j n)) (x (j+i))=T 1 (j+i)
 | n+1,j,i,hj,hi,he=>by
   have IH:=RI h n
   have Y:∀X,Cv.ev (nwT T x j (n+1)) X=Cv.ev (nwT T x j n) X+T n j*Cv.ev (prL ((pK n).map λi=>x (j+i))) X:=λX=>by
    rw[M5,Qh];rfl
   by_cases hin:i+1<n
   ·rw[KP Y,IH j i Yl hin he,Lz (RU hin rfl he)]
    grind
   ·have e:n=i+1:=by lia
    subst e
    match i,hj,he,Y,IH with
    | 0,hj,he,Y,_ =>
      have O:∀X,Cv.ev (nwT T x j 2) X=Cv.ev [T 0 j] X+T 1 j*Cv.ev [- x j,1] X:=λX=>by
       rw[M5,M5];show((0:Rat)+T 0 j*1)+T 1 j*((X-x (j+0))*1)=(T 0 j+X*0)+T 1 j*(- x j+X*(1+X*0));rw[sk];grind
      rw[KP O,OU,Nc];show(0:Rat)+T 1 j*1=T 1 j
      grind
    | i+1,hj,he,Y,IH =>
      have W:∀X,Cv.ev (nwT T x j (i+1+1+1)) X=Cv.ev (nwT T x (j+1) (i+1+1)) X+T (i+1+1) j*Cv.ev (prL ((pK (i+1+1)).map λk=>x (j+1+k))) X:=λX=>by
       rw[Qw h X (i+1+1) j Yl,Qh];rfl
      rw[show j+(i+1)+1=j+1+i+1 by lia,show j+(i+1)=j+1+i by lia]at he
      have J:=IH (j+1) i Yl Yl he;rw[show j+(i+1)=j+1+i by lia,KP W,J,Lz (RU (f:=λk=>x (j+1+k)) (i:=i) Yl rfl he)]
      grind
end L2
namespace HT
open PySem PyProof.Rows
open PySem.SeqAt
open PySem.AutoSeq1 (wpAny_loadPart')
open PySem.MeetsSeq PySem.MeetsSeq2 PySem.MeetsSeq3
theorem getItem_tuple_whole{prog:mo}{w:rc}{A:sB}{E:gl->im->Prop}{s:im}{t sl:ge}{items:Array gl}{vl vu:gl}{lo hi:Option Int}{Q:gl->im->Prop}(Y:IsTup s.heap t items)(hs:s.heap.IsSliceOf sl vl vu .none)(pl:IsPart vl lo)(pu:IsPart vu hi)
 (hw:sIx items.size 0 lo=0/\sIx items.size items.size hi=items.size) (h:Q (.ref t) s):na (pi prog w) A (vL (.ref t) (.ref sl)) Q E s:=by
 obtain⟨os,z,O,aa⟩:=id hs;have J:s.TypeIs (.ref sl) "slice":=⟨os,z,O⟩;unfold vL
 try with_reducible refine vj ?_
 first | refine ii (li ?_) | skip
 refine ii (wpAny_sequenceKey Y.typeIs Yd ?_)
 refine ii (vt (name:=Str.ofString "__getitem__") Y.typeIs PyProof.Rows.slot_tuple_getitem
  (vJ PyProof.Rows.slot_tuple_getitem Y.typeIs entry_tuple_getitem ?_ (args_tuple_getitem _ _)))
 show na _ _ (Builtin.Tuple.tupleItemsOf (.ref t) >>= _) _ _ s;refine ii (tupleItemsOf_ Y ?_);refine ii (vY J ?_);rw[if_pos Yd];refine ii (sliceApplied_gen hs pl pu ?_)
 have W:(((sIx items.size 0 lo:Nat):Int) == 0&&(1:Int) == 1&&(sIx items.size items.size hi-sIx items.size 0 lo) == items.size)=true:=by
  rw[hw.1,hw.2];simp
 show na _ _ (if (((sIx items.size 0 lo:Nat):Int) == 0&&(1:Int) == 1&&(sIx items.size items.size hi-sIx items.size 0 lo) == items.size)=true then _ else _) _ _ s;rw[if_pos W];refine ii ?_;refine ii (vY Y.typeIs ?_);refine li ?_;rw[if_pos Yd]
 first
  | exact ii (wpAny_rule (li ⟨_,Z,li h⟩))
  | exact li ⟨_,Z,li h⟩
  | trace_state
end HT
namespace L2
open PySem PySem.Spec PyProof.Rows
section
variable {X:Cx}{K:pP}
inductive XQ(K:pP)(x:V)(lo:Option Int)(hi:Option Int)(H:Hp)(Q:VK):Prop
 | mk(a:_)(xs:_)(_:x = .ref a)(_:SqT K H a xs)(_:(HT.sIx xs.length 0 lo=0/\HT.sIx xs.length xs.length hi=xs.length))(_:Q (.ref a) H)
theorem Zq:SlR X (XQ X.K):=by
 intro pins s σ H x v vl vu lo hi sl Q I rx z pl J h;obtain⟨a,xs,rfl,hx,hw,q⟩:=h;cases rx;obtain⟨W,r,O,hz⟩:=I.tuple hx;have Y:W.toArray.size=xs.length:=by rw[qZ];exact r.length.symm
 refine⟨"tuple",_,PyProof.Rows.slot_tuple_getitem.lookup,O.typeIs,?_⟩;exact HT.getItem_tuple_whole O z pl J (by rw[Y];exact hw) ⟨.ref a,H,I,Z,q⟩
def XR(K:pP):V->Option Int->Option Int->Hp->VK->Prop:=λx lo hi H Q=>gD K x lo hi H Q\/XQ K x lo hi H Q
theorem MV(K:pP)(e:X.K=K:=by rfl):SlR X (XR K):=by subst e;exact SlR.or gx Zq
end
theorem Z0(xs:yt)(v:Nat):Mf xs none (some (v:Int))=xs.take v:=by
 unfold Mf;have e1:HT.sIx xs.length 0 none=0:=rfl;have Y:HT.sIx xs.length xs.length (some (v:Int))=min v xs.length:=HT.sIx_nat _ _ v;rw[e1,Y,tV,tW];by_cases h:v<=xs.length
 ·rw[rm h]
 ·rw[rp Yl,tX (qd _),tX Yl]
end L2
namespace L2
open PySem PySem.Spec PyProof.Rows PySem.SeqAt
section
variable {X:Cx}
theorem _root_.HT.cat_tup0{prog:mo}{w:rc}{A:sB}{E:gl->im->Prop}{s:im}{t b:ge}{ws:List gl}{Q:gl->im->Prop}(ht:IsTup s.heap t ([]:List gl).toArray)(hb:IsTup s.heap b ws.toArray)
 (h1:Q (.ref b) s):na (pi prog w) A (vm .Add (.ref t) (.ref b)) Q E s:=by
 obtain⟨⟨cls,dd,data,sl⟩,ho,hc,n,hd⟩:=id ht;obtain⟨⟨ac,z,J,aa⟩,Y,W,n2,O⟩:=id hb;simp only at hc hd W O;subst hc hd W O
 exact concat_meets ⟨_,ho,Z⟩ ⟨_,Y,Z⟩ noFill_tuple_add seq_tuple_add PySem.F.slot_tuple_add PySem.F.entry_tuple_add (PySem.F.args_tuple_add_2 _ _)
  (tuple_addW0 t b ([]:List gl).toArray ws.toArray n n2 dd z sl aa (by simp)) ⟨ho,Y,h1⟩
def UU(K:pP):R2:=λx y H Q=>VN K x y H Q\/∃a b ys,x = .ref a/\y = .ref b/\SqT K H a []/\SqT K H b ys/\Q (.ref b) H
theorem Yb:OpR X (vm .Add) (UU X.K):=by
 intro pins s σ H x y v u Q I Y O h
 rcases h with h | ⟨a,b,ys,rfl,rfl,z,hb,q⟩
 ·exact VX pins s σ H x y v u Q I Y O h
 ·cases Y;cases O;obtain⟨aa,r1,J,_⟩:=I.tuple z;obtain⟨W,r2,p2,_⟩:=I.tuple hb;cases r1;exact HT.cat_tup0 J p2 ⟨.ref b,H,I,Z,q⟩
theorem Lq(K:pP)(e:X.K=K:=by rfl):OpR X (vm .Add) (UU K):=by subst e;exact Yb
end
theorem Ut(xs:yt)(v:Nat):Mf xs (some (v:Int)) none=xs.drop v:=by
 unfold Mf;have e1:HT.sIx xs.length 0 (some (v:Int))=min v xs.length:=HT.sIx_nat _ _ v;have Y:HT.sIx xs.length xs.length none=xs.length:=rfl;rw[e1,Y];by_cases h:v<=xs.length
 ·rw[rm h,tX (by rw[rq];exact qd _)]
 ·rw[rp Yl,tY,tZ,u6 Yl]
end L2
namespace L2
open PySem PySem.Spec PyProof.Rows
theorem Z7:tD "zip" = some (.type "zip"):=by decide +kernel
section
variable {X:Cx}{pins:List (ge×Obj)}{σ:List (Option V)}{H:Hp}{s:im}{h':rf}
theorem Inv.turnedL{ch:List ge}(I:Inv X pins σ H s)(k:∀b o,b∉ch->s.heap.get? b=some o->h'.get? b=some o)(O:∀b∈ch,QO X pins H b):Inv X pins σ H { s with heap:=h',toks:=t' }:=by
 have W:∀b u,H b=some u->b∉ch:=λb u e z=>by rw[(O b z).1]at e;cases e
 refine I.step (g':=s.gens) (d':=s.drawn) (ch:=ch) (λb hb=>?_) (λb o _ _ Y e _=>k b o Y e) (λb o _ _ Y e _=>⟨o.slots,k b o Y e⟩) (λ_ _ _ _ n=>n)
  (λb o Y e=>⟨o,k b o Y e⟩) (λ_ _ e=>e) (λ_ _ _ e=>e) (λb ps e=>⟨#[],by rw[e];simp⟩) (λm hm=>?_) (λb u e=>?_) I.bare
 ·obtain⟨_,hL,_,h1,h2,J⟩:=O b hb;exact⟨h1,hL,h2,J⟩
 ·obtain⟨o,es,ep,ho,r⟩:=hm;exact⟨o,es,ep,k _ o (λz=>(O _ z).2.1 rfl) ho,r⟩
 ·refine(I.hok b u e).stay (λc v Y q=>k c v ?_ q) (λ_ q=>q) λ_ _ q=>q
  rcases Y with z | z
  ·rw[z];exact W b u e
  ·exact W c _ z
end
def Itz(K:pP)(a b:ge)(xs ys:yt):It :=
 ⟨λi H=>SqL K H a xs/\SqL K H b ys/\i<min xs.length ys.length,
  λi H x H'=>∃T x1 y1,xs[i]? = some x1/\ys[i]? = some y1/\H T=none/\x = .ref T/\H'=upd H T (.tup [x1,y1]),
  λi H=>SqL K H a xs/\SqL K H b ys/\min xs.length ys.length<=i⟩
theorem Xl{P:mo}{w:rc}{K:pP}{aj:List Expr}{kk}{pos:Pos}{a b z TI TO i1 i2:ge}(D:ZipApart z TI TO i1 i2 a b)(xs ys:yt) :
 Rl P w K (.Tuple aj kk pos) (Itz K a b xs ys) [z,TI,TO,i1,i2] z (λi h=>IsZip h z TI TO .none/\vW h TI (.ref i1) (.ref i2)/\(∃u v,vW h TO u v)/\h.IsListIter i1 a i/\h.IsListIter i2 b i) where
 mem:=by simp
 obj:=λi h st c hc=>by
  obtain⟨hz,W,⟨u,v,O⟩,⟨o1,e1,_,d1⟩,⟨o2,e2,_,d2⟩⟩:=st;have J:c=z\/c=TI\/c=TO\/c=i1\/c=i2:=by simpa using hc
  rcases J with rfl | rfl | rfl | rfl | rfl
  ·exact⟨_,hz,λv z=>by cases z⟩
  ·exact⟨_,W,λv z=>by cases z⟩
  ·exact⟨_,O,λv z=>by cases z⟩
  ·exact⟨o1,e1,λv z=>by rw[d1]at z;cases z⟩
  ·exact⟨o2,e2,λv z=>by rw[d2]at z;cases z⟩
 keep:=λi h h' st k=>by
  obtain⟨hz,W,⟨u,v,O⟩,h1,h2⟩:=st;exact⟨k z (by simp) _ hz,k TI (by simp) _ W,⟨u,v,k TO (by simp) _ O⟩,h1.at λo e=>k i1 (by simp) o e,h2.at λo e=>k i2 (by simp) o e⟩
 item:=by
  intro X hP hw hK hc i pins s σ H E I hf st hg;subst hP hw hK;obtain⟨ac,aa,hi⟩:=hg;obtain⟨ak,af,p1,_⟩:=I.list ac;obtain⟨ag,ae,p2,_⟩:=I.list aa;have hx:xs[i]? = some (xs[i]'Yl):=sV Yl;have hy:ys[i]? = some (ys[i]'Yl):=sV Yl;obtain⟨u1,ap,ai⟩:=af.get hx;obtain⟨u2,am,ah⟩:=ae.get hy;generalize xs[i]'Yl=x1 at hx ai;generalize ys[i]'Yl=y1 at hy ah;obtain⟨hz,W,⟨ta,tb,O⟩,h1,h2⟩:=st;refine wpAny_pyNext_zip_item D hz W O h1 h2 p1.isList p2.isList (x:=u1) (y:=u2) (by simpa using ap) (by simpa using am) λh' a1 a2 a3 a4 a5 a6 a7=>?_
  refine⟨_,Z,wpAny_letOwnedTupleGo_zip (s:={ s with heap:=h' }) a1 λan b1 b2=>?_⟩
  have lz:z<s.heap.objs.size:=Heap.lt_size hz;have aq:TI<s.heap.objs.size:=Heap.lt_size W;have ar:TO<s.heap.objs.size:=Heap.lt_size O;have l1:i1<s.heap.objs.size:=by obtain⟨_,e,_⟩:=h1;exact Heap.lt_size e
  have l2:i2<s.heap.objs.size:=by obtain⟨_,e,_⟩:=h2;exact Heap.lt_size e
  have I1:Inv X pins σ (upd H s.heap.objs.size (.tup [x1,y1])) { s with heap:=s.heap.push { cls:=.type "tuple",data:=.seq #[u1,u2] } } :=
   I.laid (t':=s.toks) (o:=.tup [x1,y1]) (λb ob q=>Heap.get?_push_of_some _ q) (qd _) ⟨by show 2<=io;decide,[u1,u2],.cons ai (.cons ah .nil),IsTup.new _ _⟩
  have al:∀c∈[z,TI,TO,i1,i2],QO X pins (upd H s.heap.objs.size (.tup [x1,y1])) c:=λc hc=>by
   obtain⟨f0,fr⟩:=hf c hc
   have ao:c<s.heap.objs.size:=by
    have J:c=z\/c=TI\/c=TO\/c=i1\/c=i2:=by simpa using hc
    rcases J with rfl | rfl | rfl | rfl | rfl<;>assumption
   exact⟨by rw[HZ (pJ ao)];exact f0,fr⟩
  have I2:=I1.turnedL (h':=an) (t':=s.toks) (ch:=[z,TO,i1,i2]) (λc o ad e=>by
   have Y:c≠z/\c≠TO/\c≠i1/\c≠i2:=by simpa using ad
   obtain⟨c1,c2,c3,c4⟩:=Y;refine b2.extBut _ _ c1 ?_;by_cases hcs:c=s.heap.objs.size
   ·subst hcs;have e':(s.heap.push { cls:=.type "tuple",data:=.seq #[u1,u2] }).get? s.heap.objs.size=some o:=e;rw[Heap.get?_push_size _ rfl]at e';cases e';exact a5
   ·have e':(s.heap.push { cls:=.type "tuple",data:=.seq #[u1,u2] }).get? c=some o:=e;refine a7 c o c1 c2 c3 c4 ?_;rw[Heap.get?_push_ne _ _ _ hcs]at e'
    exact e') (λc hc=>al c (by
     have J:c=z\/c=TO\/c=i1\/c=i2:=by simpa using hc
     rcases J with rfl | rfl | rfl | rfl<;>simp))
  refine⟨.ref s.heap.objs.size,upd H s.heap.objs.size (.tup [x1,y1]),I2,Z,⟨_,x1,y1,hx,hy,I.hok.fresh (qd _),Z,Z⟩,⟨b1,?_,⟨_,_,b2.extBut _ _ D.TOz a2⟩,a3.extBut b2.extBut D.i1z,a4.extBut b2.extBut D.i2z⟩,λc hc=>(al c hc).1⟩;exact b2.extBut _ _ D.TIz (a7 _ _ D.TIz D.TITO D.TIi1 D.TIi2 W)
 done:=by
  intro X hP hw hK hc i pins s σ H E I hf st hg;subst hP hw hK;obtain⟨ac,aa,hi⟩:=hg;obtain⟨ak,af,p1,_⟩:=I.list ac;obtain⟨ag,ae,p2,_⟩:=I.list aa;have e1:=af.length;have e2:=ae.length;obtain⟨hz,W,⟨ta,tb,O⟩,h1,h2⟩:=st
  refine wpAny_pyNext_zip_end (I.ok.hd hc) D hz W O h1 h2 p1.isList p2.isList ?_ λh' k=>⟨Z,I.turnedL (t':=s.toks) (ch:=[z,TO,i1,i2]) (λc o ad e=>by
   have Y:c≠z/\c≠TO/\c≠i1/\c≠i2:=by simpa using ad
   exact k c o Y.1 Y.2.1 Y.2.2.1 Y.2.2.2 e) λc hc=>hf c (by
    have J:c=z\/c=TO\/c=i1\/c=i2:=by simpa using hc
    rcases J with rfl | rfl | rfl | rfl<;>simp)⟩
  by_cases h:xs.length<=i
  ·exact .inl (by rw[u7];simp;lia)
  ·exact .inr (by rw[u7];simp;lia)
 self:=λ_ _ _ _ _ st h=>vK st.1 h
section
variable {X:Cx}
def jm(K:pP)(ta:TA):TI:=λσ H R=>ta σ H λvs H1=>∃a b xs ys,vs=[.ref a,.ref b]/\SqL K H1 a xs/\SqL K H1 b ys/\R (Itz K a b xs ys) H1
theorem gK{kk}(hg:Gl X "zip")(hm:X.mg "zip" = none)(ha:PA X [e1,W] ta)(hs:lm [e1,W] X.env=[(false,tz e1 X.env),(false,tz W X.env)]:=by rfl)(J:lm [W] X.env=[(false,tz W X.env)]:=by rfl) :
 PI X (.Tuple aa kk pos') (.Call (.Name "zip" p) [e1,W] [] pos) (jm X.K ta):=by
 intro pins s σ H R I h;refine Call_ (Mb I hg hm Z7 (PyProof.Rows.callWith_type1 (thn (ha pos pins s σ H _ I h) λus Y ⟨vs,H1,O,r1,q1⟩=>?_) (by rw[hs,J]) (by rw[J];rfl)))
 obtain⟨a,b,xs,ys,e,af,ae,q⟩:=q1;subst e;cases r1 with
 | cons r rr =>
   cases rr with
   | cons r' rr =>
     cases rr;cases r;cases r';obtain⟨ak,am,p1,_⟩:=O.list af;obtain⟨aj,al,p2,_⟩:=O.list ae;have la:a<Y.heap.objs.size:=by obtain⟨_,e,_⟩:=p1.isList;exact Heap.lt_size e
     have lb:b<Y.heap.objs.size:=by obtain⟨_,e,_⟩:=p2.isList;exact Heap.lt_size e
     refine call_zip_2 p1.isList p2.isList λh' hz ag ac ai ad hsz hk=>?_;refine vK (s:={ Y with heap:=h' }) hz ?_
     have D:=zipApart_new la lb;refine⟨Y.heap.objs.size+4,[Y.heap.objs.size+4,Y.heap.objs.size+2,Y.heap.objs.size+3,Y.heap.objs.size,Y.heap.objs.size+1],_,_,H1,Z,O.kept (t':=Y.toks) hk,Xl D xs ys,⟨hz,ag,⟨_,_,ac⟩,ai,ad⟩,λc hc=>?_,q⟩
     have z:Y.heap.objs.size<=c:=by
      have ah:c=Y.heap.objs.size+4\/c=Y.heap.objs.size+2\/c=Y.heap.objs.size+3\/c=Y.heap.objs.size\/c=Y.heap.objs.size+1:=by simpa using hc
      rcases ah with rfl | rfl | rfl | rfl | rfl
      ·exact u9 _ _
      ·exact u9 _ _
      ·exact u9 _ _
      ·exact qd _
      ·exact u9 _ _
     exact O.fpOk z (O.hok.fresh z)
theorem fM(K:pP){kk}(hg:Gl X "zip")(hm:X.mg "zip" = none)(z:PA X [e1,Y] ta)(J:lm [e1,Y] X.env=[(false,tz e1 X.env),(false,tz Y X.env)]:=by rfl)(O:lm [Y] X.env=[(false,tz Y X.env)]:=by rfl)(e:X.K=K:=by rfl) :
 PI X (.Tuple W kk pos') (.Call (.Name "zip" p) [e1,Y] [] pos) (jm K ta):=by subst e;exact gK hg hm z J O
end
theorem e9{K:pP}{a b:ge}{xs ys:yt}{g:TG}{tb:TS}{D:Lj}{σ:St}{H:Hp}(Y:Nat->St->Hp->Prop)(h0:Y 0 σ H)(hl:∀i σ H,i<=min xs.length ys.length->Y i σ H->SqL K H a xs/\SqL K H b ys)
 (hs:∀i x y T σ H,xs[i]? = some x->ys[i]? = some y->H T=none->Y i σ H->g (.ref T) σ (upd H T (.tup [x,y])) λO H2=>tb { D with nx:=Y (i+1),ct:=Y (i+1),bk:=D.nx } O H2) (hd:∀σ H,Y (min xs.length ys.length) σ H->D.nx σ H) :
 ∃ W:Nat->Nat->St->Hp->Prop,(∃m,W 0 m σ H)/\∀i m σ H,W i m σ H ->
   ((Itz K a b xs ys).stop i H/\D.nx σ H)\/((Itz K a b xs ys).go i H/\∃N:St->Hp->Prop,(∀J H',N J H'->∃z,z<m/\W (i+1) z J H')/\∀x H',(Itz K a b xs ys).yld i H x H'->g x σ H' λO H2=>tb { D with nx:=N,ct:=N,bk:=D.nx } O H2):=by
 refine⟨λi m σ H=>m=min xs.length ys.length-i/\i<=min xs.length ys.length/\Y i σ H,⟨min xs.length ys.length,by simp,qg _,h0⟩,?_⟩
 rintro i m σ H ⟨rfl,hi,p⟩;obtain⟨q1,q2⟩:=hl i σ H hi p;by_cases hlt:i<min xs.length ys.length
 ·refine .inr ⟨⟨q1,q2,hlt⟩,Y (i+1),λJ H' p'=>⟨min xs.length ys.length-(i+1),Yl,Z,hlt,p'⟩,λx H' y=>?_⟩;obtain⟨T,x1,y1,hx,hy,hT,rfl,rfl⟩:=y;exact hs i x1 y1 T σ _ hx hy hT p
 ·have e:i=min xs.length ys.length:=by lia
  subst e;exact .inl ⟨⟨q1,q2,qd _⟩,hd σ H p⟩
namespace St
open SetTable
def it(mask:Nat):Nat->Nat->Nat
 | 0,i=>i
 | n+1,i=>it mask n ((i*5+1) % (mask+1))
theorem cover7:∀i:Fin 8,∀e:Fin 8,∃m:Fin 8,it 7 m.val i.val=e.val:=by decide +kernel
theorem cover31:∀i:Fin 32,∀e:Fin 32,∃m:Fin 32,it 31 m.val i.val=e.val:=by decide +kernel
theorem cover{mask:Nat}(W:mask=7\/mask=31){i e:Nat}(hi:i<mask+1)(Y:e<mask+1):∃m,m<=mask/\it mask m i=e:=by
 rcases W with rfl | rfl
 ·obtain⟨m,h⟩:=cover7 ⟨i,hi⟩ ⟨e,Y⟩;exact⟨m.val,Yl,h⟩
 ·obtain⟨m,h⟩:=cover31 ⟨i,hi⟩ ⟨e,Y⟩;exact⟨m.val,Yl,h⟩
def bs(mask:Nat)(b:Nat):Nat->Nat×Nat
 | 0=>(b % (mask+1),b)
 | n+1=>leap mask (bs mask b n).1 (bs mask b n).2
theorem bs_pert(mask b:Nat):∀n,(bs mask b n).2=b / 32 ^ n
 | 0=>by show b=b / 1;rw[Nat.div_one]
 | n+1=>by
   show(bs mask b n).2 / 32=_;rw[bs_pert mask b n,Nat.div_div_eq_div_mul,t8]
theorem bs_lt(mask b:Nat):∀n,(bs mask b n).1<mask+1
 | 0=>Nat.mod_lt _ (tJ _)
 | _+1=>Nat.mod_lt _ (tJ _)
theorem bits_lt(h:Int):bits h<2 ^ 64:=by
 unfold bits;have h1:(0:Int)<=h % 2 ^ 64:=ua _ Yd;have h2:h % 2 ^ 64<2 ^ 64:=ub _ Yd
 lia
theorem bs_late{mask b n:Nat}(W:b<2 ^ 64)(Y:13<=n):(bs mask b n).2=0:=by
 rw[bs_pert];refine Nat.div_eq_of_lt (pF W ?_);exact pQ (by decide:2 ^ 64<=32 ^ 13) (sY Yd Y)
theorem bs_cyc{mask b:Nat}(Y:b<2 ^ 64):∀m n,13<=n->(bs mask b (n+m)).1=it mask m (bs mask b n).1
 | 0,n,_=>rfl
 | m+1,n,hn=>by
   have ih:=bs_cyc (mask:=mask) Y m (n+1) Yl;rw[show n+(m+1)=n+1+m by lia,ih]
   show it mask m (leap mask (bs mask b n).1 (bs mask b n).2).1=it mask m (((bs mask b n).1*5+1) % (mask+1));rw[bs_late Y hn]
   rfl
theorem bs_hits{mask b e:Nat}(W:mask=7\/mask=31)(O:b<2 ^ 64)(Y:e<mask+1):∃n,n<=13+mask/\(bs mask b n).1=e:=by
 obtain⟨m,h1,h2⟩:=cover W (bs_lt mask b 13) Y;exact⟨13+m,Yl,by rw[bs_cyc O m 13 (qd _)];exact h2⟩
def base(mask i pert:Nat):Probe:={ j:=i,more:=runEnd mask i-i,i,perturb:=pert,dummy:=none }
def advs(t:re):Nat->Probe->Probe
 | 0,p=>p
 | n+1,p=>advs t n (t.advance p)
theorem advs_add(t:re):∀m n p,advs t (m+n) p=advs t n (advs t m p)
 | 0,n,p=>by rw[tO];rfl
 | m+1,n,p=>by rw[show m+1+n=(m+n)+1 by lia];exact advs_add t m n _
theorem run_le(mask i:Nat):runEnd mask i-i<=9:=by unfold runEnd;split<;>lia
theorem advs_run(t:re):∀(r j i Y:Nat),advs t (r+1) { j:=j,more:=r,i:=i,perturb:=Y,dummy:=none }=base t.mask (leap t.mask i Y).1 (leap t.mask i Y).2
 | 0,j,i,Y=>rfl
 | r+1,j,i,Y=>by
   have ih:=advs_run t r (j+1) i Y;show advs t (r+1) (t.advance { j:=j,more:=r+1,i:=i,perturb:=Y,dummy:=none })=_;rw[<- ih]
   rfl
theorem reach(t:re)(h:Int):∀n,∃k,k<=10*n/\advs t k (t.probeStart h)=base t.mask (bs t.mask (bits h) n).1 (bs t.mask (bits h) n).2
 | 0=>⟨0,qd _,Z⟩
 | n+1=>by
   obtain⟨k,hk,e⟩:=reach t h n;refine⟨k+(runEnd t.mask (bs t.mask (bits h) n).1-(bs t.mask (bits h) n).1+1),?_,?_⟩
   ·have:=run_le t.mask (bs t.mask (bits h) n).1
    lia
   ·rw[advs_add,e];exact advs_run t _ _ _ _
theorem slot_empty{t:re}(hd:t.dummies = #[]){e:Nat}(Y:∀i:Nat,t.place[i]? ≠ some e):t.slot e = .empty:=by
 unfold slot
 have h1:(t.place[below t.place e]? == some e)=false:=by
  rw[beq_eq_false_iff_ne];exact Y _
 have h2:has t.dummies e=false:=by
  rw[hd];unfold has;rfl
 simp only[h1,h2]
 rfl
theorem slot_cases{t:re}(hd:t.dummies = #[])(j:Nat):t.slot j = .empty\/∃i,t.slot j = .live i/\t.place[i]? = some j:=by
 by_cases h:t.place[below t.place j]? = some j
 ·refine .inr ⟨below t.place j,?_,h⟩;unfold slot;have h1:(t.place[below t.place j]? == some j)=true:=by rw[h];exact beq_self_eq_true _
  simp only[h1]
  rfl
 ·refine .inl ?_;unfold slot;have h1:(t.place[below t.place j]? == some j)=false:=by rw[beq_eq_false_iff_ne];exact h
  have h2:has t.dummies j=false:=by rw[hd];unfold has;rfl
  simp only[h1,h2]
  rfl
def Hit(t:re)(k:Nat)(p:Probe):Prop:=t.slot (advs t k p).j = .empty
theorem adv_dummy(t:re)(h:p.dummy=none):(t.advance p).dummy=none:=by
 unfold advance
 split
 ·exact h
 ·exact h
theorem nd_le:∀{l m:yq},l.Nodup->(∀x,x∈l->x∈m)->l.length<=m.length
 | [],m,_,_=>qg _
 | a::l,m,hn,hs=>by
   rw[qI]at hn;have ha:=hs a pT;have W:=nd_le (l:=l) (m:=m.erase a) hn.2 λx Y=>(List.mem_erase_of_ne (λe:x=a=>hn.1 (e ▸ Y))).mpr (hs x (pU _ Y));rw[List.length_erase_of_mem ha]at W;have:=List.length_pos_of_mem ha;rw[qr];lia
theorem start_hit(hm:t.mask=7\/t.mask=31)(hd:t.dummies = #[])(hs:t.place.size<=t.mask)(h:Int):∃k,k<10*turns t.mask/\Hit t k (t.probeStart h):=by
 have O:∃e,e<t.mask+1/\∀i:Nat,t.place[i]? ≠ some e:=by
  refine Classical.byContradiction λhn=>?_
  have Y:∀e,e<t.mask+1->e∈t.place.toList:=λe O=>by
   refine Classical.byContradiction λac=>hn ⟨e,O,λi hi=>ac ?_⟩;exact qU (by rw[uc];exact hi)
  have J:(pK (t.mask+1)).Subset t.place.toList:=λe O=>Y e (pO.mp O);have W:=nd_le (List.nodup_range (n:=t.mask+1)) J;rw[ud,qb]at W
  lia
 obtain⟨e,aa,z⟩:=O;obtain⟨n,hn,hb⟩:=bs_hits (b:=bits h) hm (bits_lt h) aa;obtain⟨k,hk,hr⟩:=reach t h n;refine⟨k,?_,?_⟩
 ·unfold turns;lia
 ·unfold Hit;rw[hr];show t.slot (bs t.mask (bits h) n).1=_;rw[hb];exact slot_empty hd z
end St
end L2
namespace L2
open PySem PySem.Spec PyProof.Rows
namespace St
open SetTable
section
variable {prog:mo}{w:rc}{K:Type}[DecidableEq K](knd:KeyKind prog w K)
def IsN(h:rf)(ks:List K)(a:ge):Prop:=∃o items n,h.get? a=some o/\o.cls = .type "tuple" /\ o.data = .seq items n/\ItemsAre knd ks items.toList/\∀v∈items.toList,∃k t,v = .int k t
variable {knd}
theorem IsN.key(x:IsN knd h ks a):IsTupleKey knd h ks a:=let ⟨o,i,n,h1,h2,h3,h4,_⟩:=x;⟨o,i,n,h1,h2,h3,h4⟩
theorem IsN.keep(x:IsN knd h ks a)(k:∀o,h.get? a=some o->h'.get? a=some o):IsN knd h' ks a:=let ⟨o,i,n,h1,h2⟩:=x;⟨o,i,n,k o h1,h2⟩
variable {A:sB}{E:gl->im->Prop}{s:im}
theorem wpAny_seqItemsQ{items n}(Y:s.heap.get? a=some o)(hd:o.data = .seq items n)(h:Q (some items) s):na M A (seqItems? (.ref a)) Q E s:=by
 unfold seqItems?;refine ii (wpAny_load Y ?_);rw[hd];exact li h
theorem hashByValue_n(hk:IsN knd s.heap ks a)(h:Q true s):na (pi prog w) A (hashByValue 8 (.ref a)) Q E s:=by
 have J:=hk.key.typeIs;obtain⟨o,items,n,z,_,hd,hi,Y⟩:=hk;unfold hashByValue;refine ii (wpAny_specialOf J F.slot_tuple_hash.lookup ?_);show na _ _ (seqItems? (.ref a) >>= _) _ _ s;refine ii (wpAny_seqItemsQ z hd ?_);refine ii ?_;show na _ _ (forIn items _ _) _ _ s;rw[<- Array.forIn_toList];refine wpAny_forIn_list _ (λJu r s'=>r.1=none/\s'=s/\∀v∈Ju,∃k t,v=Value.int k t) _ ?_ ?_ _ _ ⟨Z,Z,Y⟩
 ·rintro v Ju r s' ⟨O,rfl,Y⟩;obtain⟨k,t,rfl⟩:=Y v pT;refine ii (m:=hashByValue 7 (.int k t)) (li ?_);simp only[Bool.not_true,Bool.false_eq_true,if_false];exact li ⟨Z,Z,λu W=>Y u (pU _ W)⟩
 ·rintro⟨r1,r2⟩ s' ⟨O,rfl,_⟩;simp only at O;subst O;exact li h
theorem ofClass_n(hk:IsN knd s.heap ks a)(h:Q false s):na (pi prog w) A (vT 8 (.ref a)) Q E s:=by
 have J:=hk.key.typeIs;obtain⟨o,items,n,z,_,hd,hi,Y⟩:=hk;unfold vT;refine ii (vY J ?_);refine ii (m:=pure true) (li ?_);simp only[Bool.not_true,Bool.false_eq_true,if_false];refine ii (wpAny_seqItemsQ z hd ?_);refine ii ?_;show na _ _ (forIn items _ _) _ _ s;rw[<- Array.forIn_toList];refine wpAny_forIn_list _ (λJu r s'=>r.1=none/\s'=s/\∀v∈Ju,∃k t,v=Value.int k t) _ ?_ ?_ _ _ ⟨Z,Z,Y⟩
 ·rintro v Ju r s' ⟨O,rfl,Y⟩;obtain⟨k,t,rfl⟩:=Y v pT;refine ii (m:=vT 7 (.int k t)) (li ?_);simp only[Bool.false_eq_true,if_false];exact li ⟨Z,Z,λu W=>Y u (pU _ W)⟩
 ·rintro⟨r1,r2⟩ s' ⟨O,rfl,_⟩;simp only at O;subst O;exact li h
def Ns(knd:KeyKind prog w K)(h:rf)(l:List gl)(ks:List K):Prop:=∀v∈l,∃b k',v = .ref b/\IsN knd h k' b/\k'≠ks
end
end St
end L2
namespace L2
open PySem PySem.Spec PyProof.Rows
namespace St
open SetTable
theorem free_ok(W:owner.getD e (some 0)=none):∀(Y m n:Nat),m<Y->(bs 31 b (n+m)).1=e ->
 ∃j,layClean.free 31 owner Y (bs 31 b n).1 (bs 31 b n).2=some j/\owner.getD j (some 0)=none
 | Y+1,m,n,hm,hb=>by
   unfold layClean.free
   split
   ·next k hk =>
    have:=ue hk;exact⟨_,Z,Option.isNone_iff_eq_none.mp this⟩
   ·next hk =>
    cases m with
    | zero =>
      exfalso;rw[List.find?_eq_none]at hk;have O:(0:Nat)∈pK (runEnd 31 (bs 31 b n).1+1-(bs 31 b n).1):=pO.mpr (by unfold runEnd;split<;>lia)
      have h1:=hk 0 O;rw[sk]at hb h1;rw[hb,W]at h1;exact h1 rfl
    | succ m =>
      obtain⟨j,h1,h2⟩:=free_ok W Y m (n+1) Yl (by rw[show n+1+m=n+(m+1) by lia];exact hb)
      exact⟨j,h1,h2⟩
def lv(owner:Array (Option Nat))(j:Nat):Option (Nat×Nat):=(owner.getD j none).map (j,·)
theorem lv_set(hj:owner.getD j (some 0)=none)(hs:owner.size=32):(((pK 32).filterMap (lv (owner.setIfInBounds j (some k)))).map (·.2)).Perm (k::((pK 32).filterMap (lv owner)).map (·.2))/\j<32:=by
 have ac:j<32:=by
  refine Nat.lt_of_not_le λah=>?_;rw[uf,u7 Yl]at hj;cases hj
 refine⟨?_,ac⟩
 have W:pK 32=pK j++j::(pK 32).drop (j+1):=by
  have h1:(pK 32)[j]? = some j:=tS ac;obtain⟨O,hg⟩:=pY.mp h1;have h2:=(tU j (pK 32)).symm;rw[tK O,hg,List.take_range,rm Yl]at h2;exact h2
 have z:∀a∈pK j,lv (owner.setIfInBounds j (some k)) a=lv owner a:=λa ha=>by
  have:a≠j:=by have:=pO.mp ha;lia
  unfold lv;rw[uf,uf,ug (Ne.symm this)]
 have ad:∀a∈(pK 32).drop (j+1),lv (owner.setIfInBounds j (some k)) a=lv owner a:=λa ha=>by
  have:a≠j:=by
   obtain⟨i,hi⟩:=uh ha;rw[sQ]at hi;have af:=(pY.mp hi);obtain⟨hl,ae⟩:=af;rw[uj]at ae
   lia
  unfold lv;rw[uf,uf,ug (Ne.symm this)]
 have aa:lv (owner.setIfInBounds j (some k)) j=some (j,k):=by
  unfold lv;rw[uf,Array.getElem?_setIfInBounds_self_of_lt Yl];rfl
 have J:lv owner j=none:=by
  unfold lv;rw[uf]at hj ⊢;have O:j<owner.size:=by lia
  rw[uk O]at hj ⊢;show(owner[j]).map _=none;have ag:owner[j]=none:=hj;rw[ag];rfl
 have Y:∀{l:yq},(∀a∈l,lv (owner.setIfInBounds j (some k)) a=lv owner a)->l.filterMap (lv (owner.setIfInBounds j (some k)))=l.filterMap (lv owner):=fun{l} h=>by
  induction l with
  | nil=>rfl
  | cons a l ih =>
    rw[pS,pS,h a pT,ih λb hb=>h b (pU _ hb)]
 rw[W,List.filterMap_append,List.filterMap_append,uo aa,List.filterMap_cons_none J,Y z,Y ad,sD,sD,qw];exact List.perm_middle
def Own(owner:Array (Option Nat))(k:Nat):Prop:=owner.size=32/\(((pK 32).filterMap (lv owner)).map (·.2)).Perm (pK k)
theorem own_free(ho:Own owner k)(hk:k<32):∃e,e<32/\owner.getD e (some 0)=none:=by
 refine Classical.byContradiction λhn=>?_;have O:∀e,e<32->owner.getD e (some 0)≠none:=λe he z=>hn ⟨e,he,z⟩;have Y:=ho.2.length_eq;rw[qz,ud]at Y
 have W:∀a∈pK 32,(lv owner a).isSome=true:=λa ha=>by
  have J:=pO.mp ha;have h1:=O a J;unfold lv;rw[uf]at h1 ⊢;have ac:a<owner.size:=by rw[ho.1];exact J
  rw[uk ac]at h1 ⊢;cases hc:owner[a] with
  | none=>rw[hc]at h1;exact absurd rfl h1
  | some v=>show((some v).map (λx=>(a,x))).isSome=true;rfl
 have aa:∀{l:yq},(∀a∈l,(lv owner a).isSome=true)->(l.filterMap (lv owner)).length=l.length:=fun{l} h=>by
  induction l with
  | nil=>rfl
  | cons a l ih =>
    obtain⟨v,hv⟩:=qL.mp (h a pT);rw[uo hv,qr,qr,ih λb hb=>h b (pU _ hb)]
 rw[aa W,ud]at Y
 lia
def stp(acc:Option (Array (Option Nat)×Nat))(h:Int):Option (Array (Option Nat)×Nat):=do
 let (owner,k) <- acc
 let j <- layClean.free 31 owner (turns 31) (bits h % (31+1)) (bits h)
 pure (owner.setIfInBounds j (some k),k+1)
theorem stp_ok(O:Own owner k)(hk:k<32)(h:Int):∃Y,stp (some (owner,k)) h=some (Y,k+1)/\Own Y (k+1):=by
 obtain⟨e,he,hn⟩:=own_free O hk;obtain⟨n,ac,aa⟩:=bs_hits (mask:=31) (b:=bits h) (.inr rfl) (bits_lt h) (by lia:e<31+1)
 obtain⟨j,z,J⟩:=free_ok (owner:=owner) (b:=bits h) hn (turns 31) n 0 (by unfold turns;lia) (by rw[tO];exact aa)
 have hp:=lv_set (k:=k) J O.1;refine⟨owner.setIfInBounds j (some k),?_,?_,?_⟩
 ·have W:layClean.free 31 owner (turns 31) (bits h % (31+1)) (bits h)=some j:=z;show(do let j <- layClean.free 31 owner (turns 31) (bits h % (31+1)) (bits h);pure (owner.setIfInBounds j (some k),k+1))=_
  rw[W];rfl
 ·rw[Array.size_setIfInBounds];exact O.1
 ·refine hp.1.trans ?_;rw[show pK (k+1)=pK k++[k] from tQ];exact(List.Perm.cons k O.2).trans (List.perm_append_comm (l₁:=[k]))
theorem own_none:Own (uq 32 none) 0:=by
 refine⟨Array.size_replicate,?_⟩;have:(pK 32).filterMap (lv (uq 32 none))=[]:=by decide +kernel
 rw[this];exact List.Perm.refl _
end St
end L2
namespace L2
open PySem PySem.Spec PyProof.Rows
namespace St
open SetTable
section
variable {prog:mo}{w:rc}{K:Type}[DecidableEq K](knd:KeyKind prog w K)(G:ge->Prop)
variable {knd}{G}
variable {A:sB}{E:gl->im->Prop}{s:im}
theorem insert_size(xs:Array Y)(p:Nat)(x:Y):(insertAt xs p x).size=xs.size+1:=by
 have h:=(SetTable.insertAt_perm xs p x).length_eq;rw[qb,qb,Array.size_push]at h;exact h
end
end St
end L2
namespace L2
open PySem PySem.Spec PyProof.Rows
namespace St
section
variable {prog:mo}{w:rc}{K:Type}[DecidableEq K]{knd:KeyKind prog w K}{G:ge->Prop}{A:sB}{R:Result->im->Prop}{I:ge}{fp wr:List ge}{GG:Array GenState->Array GenState->Prop}{n:Nat}{P:Nat->gl->Prop}{St:Nat->im->Prop}
theorem turn_of(W:na (pi prog w) A.in1 (Builtin.«set.update.loop» ⟨[.ref S,.ref I],[]⟩)
 (λY s'=>match Y with | .done f=>R (.ok f) s' | .again c'=>c'.quiet=true/\vA (pi prog w) A c' R s') (λe s'=>R (.error e) s') s) :
 vA (pi prog w) A (.builtin "set.update.loop" ⟨[.ref S,.ref I],[]⟩) R s :=
 codeAny_builtin F.entry_set_update_loop ((Around.under_plainId F.plain_set_update_loop (A:=A) ⟨[.ref S,.ref I],[]⟩).symm ▸ W)
end
section
variable {prog:mo}{w:rc}{K:Type}[DecidableEq K]{knd:KeyKind prog w K}{A:sB}{E:gl->im->Prop}{s:im}
abbrev nS(led:Bool):Obj:={ cls:=.type "set",dict:=none,data:=.set #[] 0 (.fresh 0 0 led) }
abbrev nI(l:ge):Obj:={ cls:=.type "list_iterator",data:=.fields #[.ref l,.int 0 0] }
end
end St
theorem iD:tD "set" = some (.type "set"):=by decide +kernel
def Ze(p:ge)(n:Nat):HO:=.ext λh=>∃o es ep t,h.get? p=some o/\o.ExactSet/\o.data = .set es ep t/\SetTable.fits t es.size=true/\es.size=n
theorem iw(ok:HOk P w H h)(e:H a=some (nT q)):St.IsN (J3 P w) h (kQ q) a:=by
 obtain⟨_,Y,O,o,ho,J,n,hd⟩:=ok a _ e;refine⟨o,Y.toArray,n,ho,J,hd,OI (ks:=kQ q) O,λv hv=>?_⟩;have W:v∈Y:=by simpa using hv
 cases O with
 | cons r1 rr =>
   cases rr with
   | cons r2 rr =>
     cases rr;obtain⟨t1,rfl⟩:=r1;obtain⟨t2,rfl⟩:=r2
     rcases pV.mp W with z | z
     ·exact⟨_,_,z⟩
     ·exact⟨_,_,sU.mp z⟩
section
variable {X:Cx}
theorem Xb:Kb X (.builtin "len") (λxs H Q=>∃(p:ge) (n:Nat),xs=[.ref p]/\H p=some (Ze p n)/\n<=1000/\Q (.int (n:Int)) H):=by
 intro pins s σ H xs us Q I r h;obtain⟨p,n,rfl,Y,z,q⟩:=h;obtain⟨u,rfl,rfl⟩:=Mm r;obtain⟨⟨o,es,ep,t,h1,h2,W,O,J⟩,_⟩:=I.hok p _ Y;subst J;exact call_len_set h1 h2 W O Yl ⟨.int _,H,I.tok _,⟨_,Z⟩,q⟩
end
section
open PySem.W
variable {X:Cx}(K:pP)
theorem QG:kitAny K (.type "list") [.type "list",.type "tuple"]=some true:=by kernel_rfl
theorem QF:kitAny K (.type "tuple") [.type "list",.type "tuple"]=some true:=by kernel_rfl
end
end L2
namespace L2
open PySem PySem.Spec PyProof.Rows
structure jJ(X:Cx)(N:yr)(nt:Nat)(js:yq)(scope:vi)(x:Str):Prop where
 kind:scope.kind = .function
 split:∃pre post,scope.names=pre++(x,.cell)::post/\(∀y∈pre,y.2 ≠ .cell)/\∀y∈post,y.2 ≠ .cell
 only:∀y∈scope.names,y.2 = .cell->y.1=x
 lx:scope.names.lookup x=some .cell
 names:∀y∈scope.names,y.2 = .local->scope.names.lookup y.1=some .local
 free:∀y∈scope.names,y.2 = .free->X.env.kindOf y.1=some .cell\/X.env.kindOf y.1=some .free
 len:N.length=nt+js.length
 outer:∀j i,js[j]? = some i->∃x,N[nt+j]? = some x/\X.N[i]? = some x/\scope.names.lookup x=some .free
section
variable {X:Cx}{N:yr}{nt:Nat}{js:yq}{scope:vi}{cl:List (Str×ge)}{x:Str}{c:ge}
end
section
variable {X:Cx}{N:yr}{nt:Nat}{js:yq}{scope:vi}{elt iter tg:Expr}{ifs:List Expr}{pos:Pos}{g:TG}{tc:TT}{te:TE}{wi:TI}{xn:Str}
end
def j8(scope sc:vi):vi:={ scope with names:=scope.names.map fun(n,k)=>if (k == .free&&sc.kind == .function&&sc.names.lookup n == some .cell) then (n,.cell) else (n,k) }
@[reducible] def Cl(u:pP->TS)(K:pP):TS:=u K
theorem JA{X:Cx}{st:vv}{Ju:List vv}{t v:TS}{K:pP}{u:pP->TS}(h1:PS X st t)(h2:PSs X Ju v)(e:v=u K):PSs X (st::Ju) (Xs t (Cl u K)):=by
 subst e;exact JZ h1 h2
section
variable {X:Cx}{o e:Expr}{es:List Expr}{to:TE}{t:TA}{name:Str}{apos cpos:Pos}{T id:String}{r:V->yt->Hp->VK->Prop}
theorem J0(K:pP)(pa:PlainAttrs T)(J:Slot T name id)(aa:typeOf (.builtin id)=pure (.type "method_descriptor"))(hm:MtR X id r)(ho:PE X o to)(ha:PA X (e::es) t)
 (O:vy o name X.env (tz o X.env)=tz o X.env:=by rfl)
 (z:((ut cpos (lm (e::es) X.env)).all (λx=>!x.1)&&(vM cpos (vw [] X.env)).all (λx=>x.1.isSome)
  && decide ((e::es).length+([]:List vS).length+(if ([]:List vS).isEmpty then 0 else 1)<30))=true:=by rfl)
 (W:(apos.endLine == cpos.line)=true:=by rfl) (hs:lm (e::es) X.env=(false,tz e X.env)::lm es X.env:=by rfl) (Y:(ut cpos (lm es X.env)).any (·.1)=false:=by rfl) (eK:X.K=K:=by rfl) :
 PE X (.Call (.Attribute o name apos) (e::es) [] cpos) (tBM K T r to t):=jh pa J aa hm ho ha O z W hs Y eK
end
theorem IT{c:Bool}{A B:Prop}(e:c=true)(h:A):if c=true then A else B:=by
 rw[if_pos e];exact h
theorem Ii{c:Bool}{A B:Prop}(e:c=false)(h:B):if c=true then A else B:=by
 rw[if_neg (by rw[e];decide)];exact h
theorem K0{Y:Type}{l:List Y}{n:Nat}(h:l.length=n+1):∃a r,l=a::r/\r.length=n:=by
 cases l with
 | nil=>cases h
 | cons a r=>exact⟨a,r,Z,Nat.succ.inj h⟩
theorem Fun.binds1{K:pP}{x qual:Str}{st:vv}{f:ge}{fd:jp}(p1:Str)(F:Fun K x qual st f fd)
 (h:∀(kV Y z:gl) (J:Option ge) (W ct O:gl),vH (qX x qual (Jq st) (J9 st) (HD st) .none kV Y z J W ct) ⟨[O],[]⟩=pure [(p1,O)]):Js K fd [p1] [] :=
 F.binds λkV Y z J W ct us l0=>by
  obtain⟨O,r1,rfl,l1⟩:=K0 l0;cases ur.mp l1;exact h kV Y z J W ct O
theorem Fun.binds2{K:pP}{x qual:Str}{st:vv}{f:ge}{fd:jp}(p1 p2:Str)(F:Fun K x qual st f fd)
 (h:∀(kV Y pm:gl) (z:Option ge) (W ct J O:gl),vH (qX x qual (Jq st) (J9 st) (HD st) .none kV Y pm z W ct) ⟨[J,O],[]⟩=pure [(p1,J),(p2,O)]):Js K fd [p1,p2] [] :=
 F.binds λkV Y pm z W ct us l0=>by
  obtain⟨J,r1,rfl,l1⟩:=K0 l0;obtain⟨O,r2,rfl,l2⟩:=K0 l1;cases ur.mp l2;exact h kV Y pm z W ct J O
theorem Fun.binds3{K:pP}{x qual:Str}{st:vv}{f:ge}{fd:jp}(p1 p2 p3:Str)(F:Fun K x qual st f fd)
 (h:∀(kV Y pm:gl) (an:Option ge) (W ct z O J:gl),vH (qX x qual (Jq st) (J9 st) (HD st) .none kV Y pm an W ct) ⟨[z,O,J],[]⟩=pure [(p1,z),(p2,O),(p3,J)]):Js K fd [p1,p2,p3] [] :=
 F.binds λkV Y pm an W ct us l0=>by
  obtain⟨z,r1,rfl,l1⟩:=K0 l0;obtain⟨O,r2,rfl,l2⟩:=K0 l1;obtain⟨J,r3,rfl,l3⟩:=K0 l2;cases ur.mp l3;exact h kV Y pm an W ct z O J
theorem Fun.binds4{K:pP}{x qual:Str}{st:vv}{f:ge}{fd:jp}(p1 p2 p3 p4:Str)(F:Fun K x qual st f fd)
 (h:∀(kV Y pm:gl) (an:Option ge) (W ct a1 J z O:gl),vH (qX x qual (Jq st) (J9 st) (HD st) .none kV Y pm an W ct) ⟨[a1,J,z,O],[]⟩=pure [(p1,a1),(p2,J),(p3,z),(p4,O)]):Js K fd [p1,p2,p3,p4] [] :=
 F.binds λkV Y pm an W ct us l0=>by
  obtain⟨a1,r1,rfl,l1⟩:=K0 l0;obtain⟨J,r2,rfl,l2⟩:=K0 l1;obtain⟨z,r3,rfl,l3⟩:=K0 l2;obtain⟨O,r4,rfl,l4⟩:=K0 l3;cases ur.mp l4;exact h kV Y pm an W ct a1 J z O
@[reducible] def L2(x1:α1)(x2:α2)(u:α1->α2->δ):δ:=u x1 x2
@[reducible] def L3(x1:α1)(x2:α2)(x3:α3)(u:α1->α2->α3->δ):δ:=u x1 x2 x3
@[reducible] def L4(x1:α1)(x2:α2)(x3:α3)(x4:α4)(u:α1->α2->α3->α4->δ):δ:=u x1 x2 x3 x4
@[reducible] def L5(x1:α1)(x2:α2)(x3:α3)(x4:α4)(x5:α5)(u:α1->α2->α3->α4->α5->δ):δ:=u x1 x2 x3 x4 x5
@[reducible] def L7(x1:α1)(x2:α2)(x3:α3)(x4:α4)(x5:α5)(x6:α6)(x7:α7)(u:α1->α2->α3->α4->α5->α6->α7->δ):δ:=u x1 x2 x3 x4 x5 x6 x7
@[reducible] def L8(x1:α1)(x2:α2)(x3:α3)(x4:α4)(x5:α5)(x6:α6)(x7:α7)(x8:α8)(u:α1->α2->α3->α4->α5->α6->α7->α8->δ):δ:=u x1 x2 x3 x4 x5 x6 x7 x8
@[reducible] def L9(x1:α1)(x2:α2)(x3:α3)(x4:α4)(x5:α5)(x6:α6)(x7:α7)(x8:α8)(x9:α9)(u:α1->α2->α3->α4->α5->α6->α7->α8->α9->δ):δ:=u x1 x2 x3 x4 x5 x6 x7 x8 x9
@[reducible] def L10(x1:α1)(x2:α2)(x3:α3)(x4:α4)(x5:α5)(x6:α6)(x7:α7)(x8:α8)(x9:α9)(x10:α10)(u:α1->α2->α3->α4->α5->α6->α7->α8->α9->α10->δ):δ:=u x1 x2 x3 x4 x5 x6 x7 x8 x9 x10
@[reducible] def L11(x1:α1)(x2:α2)(x3:α3)(x4:α4)(x5:α5)(x6:α6)(x7:α7)(x8:α8)(x9:α9)(x10:α10)(x11:α11)(u:α1->α2->α3->α4->α5->α6->α7->α8->α9->α10->α11->δ):δ:=u x1 x2 x3 x4 x5 x6 x7 x8 x9 x10 x11
@[reducible] def L13(x1:α1)(x2:α2)(x3:α3)(x4:α4)(x5:α5)(x6:α6)(x7:α7)(x8:α8)(x9:α9)(x10:α10)(x11:α11)(x12:α12)(x13:α13)(u:α1->α2->α3->α4->α5->α6->α7->α8->α9->α10->α11->α12->α13->δ):δ:=u x1 x2 x3 x4 x5 x6 x7 x8 x9 x10 x11 x12 x13
@[reducible] def L15(x1:α1)(x2:α2)(x3:α3)(x4:α4)(x5:α5)(x6:α6)(x7:α7)(x8:α8)(x9:α9)(x10:α10)(x11:α11)(x12:α12)(x13:α13)(x14:α14)(x15:α15)(u:α1->α2->α3->α4->α5->α6->α7->α8->α9->α10->α11->α12->α13->α14->α15->δ):δ:=u x1 x2 x3 x4 x5 x6 x7 x8 x9 x10 x11 x12 x13 x14 x15
theorem Oo{X:Cx}{c:Expr}{a b:List vv}{pos:Pos}{tc:TT}{J O:TS}{K:pP}{Y W:pP->TS}(z:PT X c tc)(ha:PSs X a J)(hb:PSs X b O)(e1:J=Y K)(e2:O=W K):PS X (.If c a b pos) (QR tc (Cl Y K) (Cl W K)):=by
 subst e1;subst e2;exact jf z ha hb
theorem IP{X:Cx}{tg iter:Expr}{Y:List vv}{wi:TI}{g:TG}{v:TS}{pos:Pos}{K:pP}{u:pP->TS}(W:PassesOwn (pi X.prog X.w) X.A X.env X.xe)(J:X.calm=true)(hi:PI X tg iter wi)(z:PG X tg g)(hb:PSs X Y v)(e:v=u K)
 (O:∀x,vG iter X.env x=pure x:=by intro _;rfl):PS X (.For tg iter Y [] pos) (gp wi g (Cl u K)):=by
 subst e;exact gI W J hi z hb O
theorem Ys{a b c d:Nat}(h1:a=c)(h2:b=d):((a:Int)-(b:Int)).toNat=c-d:=by rw[h1,h2];exact Int.toNat_sub c d
theorem MH{a b:Nat}(h:a=b):((a:Int)-1).toNat=b-1:=Ys (b:=1) h rfl
theorem RJ{a b c d:Nat}(h1:a=c)(h2:b=d)(_h:1<=d):((a:Int)+(b:Int)-1).toNat=c+d-1:=by
 rw[h1,h2,<- Int.natCast_add];exact MH rfl
theorem Yp{a b:Nat}(h:1<=b):((a:Int)+(b:Int)-1).toNat=a+b-1:=RJ rfl rfl h
theorem WR{a b m:Nat}(h1:a<=m)(h2:b<=m):((a:Int)+(b:Int)-1).toNat<=2*m:=by
 rw[<- Int.natCast_add,MH rfl,Nat.two_mul];exact pQ (rA _ _) (Nat.add_le_add h1 h2)
theorem Yt{a b i:Nat}(h:a=b)(hi:i<b):(a:Int)-1-(i:Int)=((b-1-i:Nat):Int):=by
 rw[h,Int.ofNat_sub (show i<=b-1 from Nat.le_pred_of_lt hi),Int.ofNat_sub (show 1<=b from rL (qg i) hi)]
 rfl
theorem hV(hi:i<b):b-1-i<b:=rL (rA _ _) (Nat.sub_lt (rL (qg i) hi) Nat.one_pos)
theorem ZP{a b:Nat}(h:a=b):((a:Int)-1 - -1).toNat=b:=by
 rw[h,Int.sub_neg,Int.sub_add_cancel];exact rg b
theorem ZR(O:a<=200)(hk:k<m-1)(W:m=2\/m=3)(e:a=t):t+min k b<=204:=by
 rw[<- e]
 have Y:k<=4:=by
  rcases W with rfl | rfl
  ·exact pQ (pR hk) Yd
  ·exact pQ (pR hk) Yd
 exact Nat.add_le_add O (pQ (uu _ _) Y)
theorem ZQ(Y:a<=200)(W:m=2\/m=3):a+(m-1)*1<=300:=by
 rcases W with rfl | rfl
 ·exact pQ (Nat.add_le_add_right Y _) Yd
 ·exact pQ (Nat.add_le_add_right Y _) Yd
theorem ZO{a m:Nat}(h:a=m)(Y:m=2\/m=3):((a:Int)-1).toNat<=2:=by
 rw[MH h]
 rcases Y with rfl | rfl<;>decide
theorem Yq(hi:i<a)(Y:j<b)(h:n=a+b-1):i+j<n:=by
 rw[h];refine Nat.lt_sub_of_add_lt ?_;rw[Nat.add_right_comm];exact Nat.add_lt_add_of_le_of_lt hi Y
def iO(f:ge)(fd:jp):HO:=.ext λh=>h.get? f=some { cls:=.type "function",data:=.func fd }
def jH(c:ge)(o:Obj):HO:=.ext λh=>h.get? c=some o
def jG(c:ge)(q:Str):HO:=.ext λh=>h.CodeRec (.ref c) q
section
variable {P:mo}{w:rc}{fs cs:List ge}{H H':Hp}{h h':rf}
end
structure LamOk(H:Hp)(scope:vi)(N ps:yr)(cl:List (Str×ge))(σ:St)(vs:yt):Prop where
 kind:scope.kind = .function
 co:scope.isCoroutine=false
 gen:scope.isGenerator=false
 nocell:∀x∈scope.names,x.2 ≠ .cell
 par:∀p∈ps,scope.names.lookup p=some .local
 inj:∀x y c,cl.lookup x=some c->cl.lookup y=some c->x=y
 has:∀x,scope.names.lookup x=some .free->∃c,cl.lookup x=some c
 len:σ.length=N.length
 cel:∀p∈cl,∃(o:Obj) (v:Option gl),H p.2=some (jH p.2 o)/\o.data = .cell v
 val:∀(i:Nat) (x:Str) (v:V),N[i]? = some x->σ[i]? = some (some v) ->
  (scope.names.lookup x=some .local/\∃j:Nat,ps[j]? = some x/\vs[j]? = some v)\/(scope.names.lookup x=some .free/\∃c o u,cl.lookup x=some c/\H c=some (jH c o)/\o.data = .cell (some u)/\Iw v u)
section
variable {X:Cx}{CX:CXT}{k i:Nat}{E:XK}{x:Str}{p pos:Pos}{e:Expr}{es:List Expr}{t:TA}
end
structure ClOk(env:Env)(cl:List (Str×ge)):Prop where
 sub:∀x c,(x,c)∈cl->env.cells.lookup x=some c
 inj:∀x y c,(x,c)∈cl->(y,c)∈cl->x=y
section
variable {X:Cx}{CX:CXT}{k:Nat}{f:ge}{fd:jp}{ps:yr}{sp:Sp}{E:XK}{x:Str}{p pos:Pos}{e:Expr}{es:List Expr}{t:TA}
end
section
variable {K:pP}{cs:List ge}{H H':Hp}
end
def km(Pt:ge)(q:Str)(H:Hp):Prop:=∃ps:Array gl,H Pt=some (.tbl ps)/\TriplesOk ps.toList/\∀pos cv,codeAmong pos ps.toList=some cv->∃c',cv = .ref c'/\H c'=some (jG c' q)
structure ki(H H':Hp)(Pt:ge)(q:Str)(f c':ge)(fd:jp):Prop where
 new:H f=none
 lam:H' f=some (iO f fd)
 cod:H' c'=some (jG c' q)
 tab:km Pt q H'
 old:∀b o,b≠Pt->H b=some o->H' b=some o
def spT(ps:yr)(Pre:yt->Prop)(Ans:yt->V->Hp->Prop)(H0:Hp):Sp:=λvs H Q _=>vs.length=ps.length/\Pre vs/\Hy H0 H/\∀r H',Hy H H'->Ans vs r H'->Q r H'
structure Tells(P:mo)(w:rc)(K:pP)(mg:Str->Option gl)(base:rf)(k:Nat)(H:Hp)(f:ge)(ps:yr)(Pre:yt->Prop)(Ans:yt->V->Hp->Prop):Prop where
 ex:∃fd,HV P w K mg base CX0 k f fd ps (spT ps Pre Ans H)/\Js K fd ps []/\H f=some (iO f fd)
inductive Cap(sc scope:vi)(N:yr)(σ:St):yr->yt->Prop
 | nil:Cap sc scope N σ [] []
 | cons {y:Str} {v:V} {fr:yr} {ws:yt} (i:Nat) (h1:scope.names.lookup y=some .free) (h2:sc.names.lookup y=some .cell) (hN:N[i]? = some y) (hσ:σ[i]? = some (some v)) (t:Cap sc scope N σ fr ws):Cap sc scope N σ (y::fr) (v::ws)
structure LamSc(scope:vi)(ps:yr):Prop where
 kind:scope.kind = .function
 co:scope.isCoroutine=false
 gen:scope.isGenerator=false
 nocell:(scope.names.all λx=>decide (x.2 ≠ .cell))=true
 par:(ps.all λp=>decide (scope.names.lookup p=some .local))=true
section
variable {K:pP}{Pt:ge}{q:Str}{H H':Hp}
end
section
variable {P:mo}{w:rc}{K:pP}{mg:Str->Option gl}{base:rf}{N:yr}{qual:Str}{scope:vi}{f:ge}{cd:gl}{cl:List (Str×ge)}{A:sB}{outer:List Env}{s:im}{H:Hp}{E:XK}
end
section
variable {X:Cx}
end
structure kg(P:mo)(w:rc)(K:pP)(mg:Str->Option gl)(base:rf)(k:Nat)(H:Hp)(f C:ge):Prop where
 ex:∃fd sp,HV P w K mg base (CX1 P w) k f fd [] sp/\Js K fd [] []/\H f=some (iO f fd)/\∀(Q:VK) (E:XK),(∀H',Hy H H'->E (.ref C) none H')->sp [] H Q E
end L2
namespace Dt
def skip(i a:Nat):Nat:=if a<i then a else a+1
def sg(i:Nat):Int:=if i % 2=0 then 1 else -1
def sumN(f:Nat->Int):Nat->Int
 | 0=>0
 | n+1=>sumN f n+f n
def det:Nat->(Nat->Nat->Int)->Nat->Int
 | 0,M,j=>M 0 j
 | n+1,M,j=>sumN (λi=>sg i*(M i 0*det n (λa b=>M (skip i a) (b+1)) j)) (n+2)
def put(M:Nat->Nat->Int)(p:Nat)(u:Nat->Int):Nat->Nat->Int:=λa b=>if a=p then u b else M a b
def sh(i:Nat)(v:Nat->Int):Nat->Int:=λb=>if b<i then 0 else v (b-i)
def syl(p:Nat)(g f:Nat->Int):Nat->Nat->Int:=λa=>if a<p then sh a g else sh (a-p) f
def sub(m n k:Nat)(f g:Nat->Int)(j:Nat):Int:=det (m-k+(n-k)-1) (syl (m-k) g f) j
end Dt
namespace Dt
structure Srs(S:Nat->Nat->Int)(m n:Nat)(f g:Nat->Int)(lead held:Int):Prop where
 le:n<=m
 g0:g 0≠0
 l0:lead≠0
 h0:held≠0
 one:n<m\/(lead=1/\held=1)
 is:∀k,k<=n->∃s:Int,(s=1\/s = -1)/\∀j,lead ^ (n-k)*held ^ (m-k-1)*S k j=s*sub m n k f g j
section
variable {S:Nat->Nat->Int}{m n:Nat}{f g r:Nat->Int}{e:Nat->Int}{lead held:Int}
end
end Dt
namespace L2
open Dt
def tf(l:yo):Nat->Int:=λb=>if b<l.length then l.getD (l.length-1-b) 0 else 0
structure LR(S:Nat->Nat->Int)(fs gs:yo)(lead held:Int):Prop where
 fp:1<=fs.length
 srs:1<=gs.length->Srs S (fs.length-1) (gs.length-1) (tf fs) (tf gs) lead held
end L2
namespace L2
def Vv(d p:yn):Prop:=∃q:yn,∀x,Cv.ev p x=Cv.ev q x*Cv.ev d x
def Com(A B F G:yn):Prop:=∀d,(Vv d A/\Vv d B)↔(Vv d F/\Vv d G)
abbrev cst(l:yo):yn:=l.map λt:Int=>(t:Rat)
structure Part(A B p:yn):Prop where
 good:Tn p
 mono:p[p.length-1]? = some 1
 is:∀d,(Vv d A/\Vv d B)↔Vv d p
end L2
namespace L2
open Dt
def Xd(l:yo):Prop:=∀t,l[l.length-1]? = some t->t≠0
def PD(l:yo):Prop:=∃D:Nat->Int,D 0≠0/\(∀j,Bd 45100 (D j))/\∀j,tf l j*D 0=D j*tf l 0
structure LRI(S:Nat->Nat->Int)(fs gs fs' gs':yo)(lead held:Int)(B d0:Nat):Prop where
 lr:LR S fs' gs' lead held
 le:gs'.length<=fs'.length
 l8:fs'.length<=8
 t1:Xd fs'
 t2:Xd gs'
 com:Com (cst fs) (cst gs) (cst fs') (cst gs')
 bf:∀t∈fs',Bd B t
 bg:∀t∈gs',Bd B t
 bl:Bd (B+1) lead
 bh:Bd (B*d0+1) held
 d8:d0+fs'.length<=8
 bb:B+1<=3 ^ (9-fs'.length)*3001
 b3:fs'.length=gs'.length->B<=3000
 pd:PD fs'
section
variable {S:Nat->Nat->Int}{fs gs fs' gs':yo}{lead held:Int}{B d0:Nat}
end
end L2
namespace L2
open Dt
structure LRJ(S:Nat->Nat->Int)(fs gs fs' gs':yo)(lead held:Int)(X:Nat):Prop where
 lr:LR S fs' gs' lead held
 le:gs'.length<=fs'.length
 l10:fs'.length<=10
 t1:Xd fs'
 t2:Xd gs'
 com:Com (cst fs) (cst gs) (cst fs') (cst gs')
 bf:∀t∈fs',Bd X t
 bg:∀t∈gs',Bd X t
 bl:Bd X lead
 bh:Bd X held
section
variable {S:Nat->Nat->Int}{fs gs fs' gs':yo}{lead held:Int}{X:Nat}
end
end L2
namespace L2
end L2
namespace L2
def Cop(A B:yn):Prop:=∃u v,∀x,Cv.ev u x*Cv.ev A x+Cv.ev v x*Cv.ev B x=1
def pw(d:yn):Nat->yn
 | 0=>[1]
 | n+1=>LB (pw d n) d
end L2
namespace L2
structure Kn(f l g:yn):Prop where
 gg:Tn g
 mono:g[g.length-1]? = some 1
 fe:∀x,Cv.ev f x=Cv.ev l x*Cv.ev g x
 un:∃u,(∀x,Cv.ev (dL f) x=Cv.ev g x*Cv.ev u x)/\Cop l u
end L2
namespace L2
open PySem PySem.Spec PyProof.Rows
section
variable {X:Cx}{e:Expr}{es:List Expr}{te:TE}{t:TA}{pos:Pos}
@[irreducible] def PEk(X:Cx)(e:Expr)(te:TE):Prop:=PE X e te
@[irreducible] def PAk(X:Cx)(es:List Expr)(t:TA):Prop:=PA X es t
theorem pek(h:PE X e te):PEk X e te:=by unfold PEk;exact h
end
end L2
namespace L2
def fA(w v r:Int)(N D:yn):Prop:=(∀j:Nat,r<2*((j:Int)+1-w)->N.getD j 0=0)/\(∀j:Nat,r<2*((j:Int)+1-v)+1->D.getD j 0=0)
def Wn(w v r:Int)(N D:yn):Prop:=(∃j:Nat,2*((j:Int)+1-w)=r/\N.getD j 0≠0)\/(∃j:Nat,2*((j:Int)+1-v)+1=r/\D.getD j 0≠0)
structure PInv(w v:Int)(n:Nat)(ps:List (Rat×Rat))(r1 r2:Int)(N1 D1 N2 D2:yn):Prop where
 le1:fA w v r1 N1 D1
 top1:Wn w v r1 N1 D1
 le2:fA w v r2 N2 D2
 top2:Wn w v r2 N2 D2
 lt:r1<r2
 sum:r1+r2=2*(ps.length:Int)-2*n+3
 on1:∀q∈ps,Cv.ev N1 q.1=q.2*Cv.ev D1 q.1
 on2:∀q∈ps,Cv.ev N2 q.1=q.2*Cv.ev D2 q.1
section
variable {w v:Int}{n:Nat}{ps:List (Rat×Rat)}{r1 r2:Int}{N1 D1 N2 D2:yn}
end
structure PUn(w v:Int)(n:Nat)(ps:List (Rat×Rat))(r1 r2:Int)(N1 D1 N2 D2:yn):Prop where
 le1:fA w v r1 N1 D1
 top1:Wn w v r1 N1 D1
 le2:fA w v r2 N2 D2
 top2:Wn w v r2 N2 D2
 sum:r1+r2=2*(ps.length:Int)-2*n+3
 on1:∀q∈ps,Cv.ev N1 q.1=q.2*Cv.ev D1 q.1
 on2:∀q∈ps,Cv.ev N2 q.1=q.2*Cv.ev D2 q.1
section
variable {w v:Int}{n:Nat}{ps:List (Rat×Rat)}{r1 r2:Int}{N1 D1 N2 D2 N1' D1' N2' D2':yn}{x y:Rat}
end
end L2
namespace L2
section
variable {w v:Int}{n:Nat}{ps:List (Rat×Rat)}{r1 r2:Int}{N1 D1 N2 D2:yn}
end
end L2
namespace L2
open PySem PySem.Spec PyProof.Rows
section
variable {prog:mo}{w:rc}{A:sB}{E:gl->im->Prop}{s:im}{a kS:ge}{vs:List gl}{kz:yo}{keys:Array gl}{e e1:Nat}{P:PySem.Fin->im->Prop}
end
section
variable {X:Cx}{pins:List (ge×Obj)}{σ:St}{H:Hp}{A:sB}{E:gl->im->Prop}{a kS:ge}{vs:List gl}{kz:yo}{e1:Nat}{P:PySem.Fin->im->Prop}{f:gl}
end
section
variable {X:Cx}{pins:List (ge×Obj)}{σ:St}{H:Hp}{E:gl->im->Prop}{kz:yo}{f:ge}{s:im}{l:ge}{xs:yt}{Q:VK}
end
end L2
namespace L2
open Dt
structure LRK(S:Nat->Nat->Int)(fs gs fs' gs':yo)(lead held:Int)(X:Nat):Prop where
 lr:LR S fs' gs' lead held
 le:gs'.length<=fs'.length
 l10:fs'.length<=12
 t1:Xd fs'
 t2:Xd gs'
 com:Com (cst fs) (cst gs) (cst fs') (cst gs')
 bf:∀t∈fs',Bd X t
 bg:∀t∈gs',Bd X t
 bl:Bd X lead
 bh:Bd X held
section
variable {S:Nat->Nat->Int}{fs gs fs' gs':yo}{lead held:Int}{X:Nat}
end
end L2
namespace L2
open PySem PySem.Spec PyProof.Rows
structure Ov(L:Int)(W:Nat)(cs:yn):Prop where
 ne:L≠0
 is:∀q∈cs,∃t:Int,Bd W t/\q*(L:Rat)=(t:Rat)
theorem gU{c:Rat}{L t:Int}(h:c*(L:Rat)=(t:Rat)):(c.den:Int)∣L:=by
 have e:c.num*L=t*c.den:=Rat.intCast_inj.mp (by rw[si,si,Nm.num_mul,<- h];grind)
 have Y:c.den∣c.num.natAbs*L.natAbs:=by
  rw[<- t7,e,t7];exact Nat.dvd_mul_left ..
 exact Int.ofNat_dvd_left.mpr (Nat.Coprime.dvd_of_dvd_mul_left c.reduced.symm Y)
theorem ji{c:Rat}{L B t T:Int}{W:Nat}(hL:L≠0)(Y:B∣L)(e:c*(L:Rat)=(t:Rat))(eT:(T:Rat)=c*(B:Rat))(O:Bd W t):Bd W T:=by
 obtain⟨k,rfl⟩:=Y;have J:t=T*k:=Rat.intCast_inj.mp (by rw[si,eT,<- e,si];grind)
 have k0:k≠0:=λz=>hL (by rw[z,Int.mul_zero])
 unfold Bd at *;rw[J,t7]at O;exact rL (Nat.le_mul_of_pos_right _ (Int.natAbs_pos.mpr k0)) O
theorem PJ:Bd W 0:=by unfold Bd;exact Nat.pow_pos Yd
theorem fP{L u v:Int}{W nx:Nat}{s:Rat}(J:Bd nx u)(O:Bd nx v)(Y:s*(v:Rat)=(u:Rat)):∀{r:yn},(∀q∈r,∃t:Int,Bd W t/\q*(L:Rat)=(t:Rat))->∃t:Int,Bd (W+r.length*(nx+1)+1) t/\Cv.ev r s*((L*v ^ r.length:Int):Rat)=(t:Rat)
 | [],_=>⟨0,PJ,by show(0:Rat)*_=((0:Int):Rat);rw[uv];rfl⟩
 | a::r,h=>by
   obtain⟨t1,b1,e1⟩:=h a pT;obtain⟨t2,b2,e2⟩:=fP J O Y (r:=r) λq z=>h q (pU _ z);refine⟨t1*v ^ (r.length+1)+u*t2,?_,?_⟩
   ·have p1:=b1.mul (O.pow (r.length+1));have p2:=J.mul b2;rw[qr,tq,tu];have m1:nx*(r.length+1)=r.length*nx+nx:=by rw[tH,uw,rJ]
    have m2:r.length*(nx+1)=r.length*nx+r.length:=by rw[tH,uw]
    exact(Bd.add (p1.mono (n:=W+r.length*(nx+1)+nx+1) Yl) (p2.mono Yl)).mono Yl
   ·show(a+s*Cv.ev r s)*((L*v ^ (r.length+1):Int):Rat)=_;rw[Int.pow_succ,se,si,si,si,si,si,<- e1,<- Y,<- e2,si]
    grind
def O9(B:rf)(l:List Env)(e:ge)(c a0 m:gl)(h:rf):Prop :=
 B.StaysIn h/\B.get? e=none/\h.FunFrames B l/\∃(o:Obj) (v:Array gl) (T:ge) (oT:Obj) (ts:Array gl),h.get? e=some o/\o.cls=c/\o.data = .fields v/\v[0]? = some a0/\v[2]? = some .none /\
  v[1]? = some (.ref T)/\B.get? T=none/\T≠e/\h.get? T=some oT/\oT.data = .fields ts/\ts[3]? = some m
def fB(o:Obj):Prop:=∃v,o.data = .fields v/\v[2]? = some .none
theorem O9.obj(x:O9 B l e c W m h):∃o,h.get? e=some o/\o.cls=c/\fB o:=by
 obtain⟨_,_,_,o,v,_,_,_,z,J,Y,_,O,_⟩:=x;exact⟨o,z,J,v,Y,O⟩
section
variable {M:Model}{A:sB}{E:gl->im->Prop}{s:im}{B:rf}{env:Env}{outer:List Env}{L e:ge}
theorem Qy(hA:A.frames=some (env::outer))(hF:s.heap.FunFrames B (env::outer))(hL:env.frame=some L)
 (he:s.heap.get? e=some o) (hB:B.StaysIn s.heap) (hn:B.get? e=none) (hv:o.data = .fields v) (z1:1<v.size) (z0:v[0]? = some a0) (z2:v[2]? = some .none)
 (k:∀h',O9 B (env::outer) e o.cls a0 (v4 L) h'->s.heap.UpToSlots h'->Q () { s with heap:=h' }) :
 na M A (do let fr <- frameOf env;let ps <- entryPlaceOf L ac;let en <- EntryCells.newEntry O fr .none (v4 L) .none ps;setField (.ref e) 1 en) Q E s:=by
 have ad:e∉(env::outer).filterMap (·.frame):=λz=>by
  obtain⟨_,o',e',nf⟩:=hF.mem z;rw[he]at e';cases e';exact nf v hv
 refine ii (wpAny_frameOf_fun hA hF hL λg sg=>ii (wpAny_entryPlaceOf λps hp=>?_));unfold EntryCells.newEntry newFields;refine ii (vf ?_ (hp.sizeOk5 _ _ _ _ _));generalize J:({ cls:=.type "traceback",dict:=none,data:=.fields ([O,.ref L,.none,v4 L,.none]++(if ps.isEmpty then qK 6 Value.none else ps)).toArray }:Obj)=ob;have hg:g.get? e=some o:=(sg.2.1 e ad).trans he;have gB:B.StaysIn g:=λb u q=>(sg.2.1 b λz=>by rw[(hF.mem z).1]at q;cases q).trans (hB b u q)
 have nT:g.objs.size≠e:=qc (Heap.lt_size hg);have aa:(g.push ob).get? e=some o:=Heap.get?_push_of_some _ hg;refine wpAny_setField aa hv z1 (k _ ?_ ?_)
 ·have d1:=Obj.data_mapFields hv (·.setIfInBounds 1 (Value.ref g.objs.size))
  have W:∀b u,b≠e->g.get? b=some u->((g.push ob).update e (Obj.mapFields (·.setIfInBounds 1 (Value.ref g.objs.size)))).get? b=some u:=λb u n q=>by
   rw[Heap.get?_update_other _ _ (Ne.symm n)];exact Heap.get?_push_of_some _ q
  have Y:ob.isFreed=false:=by rw[<- J];rfl
  refine⟨λb u q=>W b u (λz=>by rw[z,hn]at q;cases q) (gB b u q),hn,hF.of_keeps λb u q nf=>?_,_,_,g.objs.size,ob,_,Heap.get?_update_self _ aa (Obj.isFreed_of_fields d1),Obj.cls_mapFields _ _,d1,?_,?_,?_,gB.fresh,nT,?_,by rw[<- J],?_⟩
  ·obtain⟨sl,q'⟩:=sg.2.2 b u q;exact⟨_,W b _ (λz=>by rw[z,he]at q;cases q;exact nf v hv) q',Z⟩
  ·rw[ug Yd];exact z0
  ·rw[ug Yd];exact z2
  ·simp[z1]
  ·rw[Heap.get?_update_other _ _ (Ne.symm nT)];exact Heap.get?_push_size g Y
  ·rcases hp with rfl | ⟨_,_,_,_,_,_,_,rfl⟩<;>simp
 ·intro b u q nf;obtain⟨sl,q'⟩:=sg.2.2 b u q;refine⟨sl,?_⟩;rw[Heap.get?_update_other _ _ (λz=>by rw[<- z,he]at q;cases q;exact nf v hv)]
  exact Heap.get?_push_of_some _ q'
theorem fT(hA:A.frames=some (env::outer))(hL:env.frame=some L)(x:O9 B (env::outer) e c a0 .none s.heap)
 (k:∀h',O9 B (env::outer) e c a0 (v4 L) h'->s.heap.UpToSlots h'->Q () { s with heap:=h' }):na M A (noteFrame (.ref e) env) Q E s:=by
 obtain⟨b1,b2,b3,o,v,T,oT,ts,q1,q2,q3,q4,q5,q6,q7,q8,q9,Y,O⟩:=x;subst q2;unfold noteFrame;simp only[hL];refine ii (vh q1 q3 q6 ?_);rw[if_pos (by simp)]
 refine ii (vh q9 Y O ?_);rw[if_neg (by simp[v4])]
 refine ii (wpAny_setField q9 Y (ux.mp O).1 ?_)
 have no:∀b u,s.heap.get? b=some u->(∀w,u.data ≠ .fields w)->b≠T:=λb u q W z=>by
  rw[z,q9]at q;cases q;exact W ts Y
 have J:∀b u,b≠T->s.heap.get? b=some u->(s.heap.update T (Obj.mapFields (·.setIfInBounds 3 Value.none))).get? b=some u:=λb u n q=>(Heap.get?_update_other _ _ (Ne.symm n)).trans q;refine Qy hA (b3.of_keeps λb u q W=>⟨u,J b u (no b u q W) q,Z⟩) hL (J e o (Ne.symm q8) q1) (λb u q=>J b u (λz=>by rw[z,q7]at q;cases q) (b1 b u q)) b2 q3 (ux.mp q6).1 q4 q5 λh' f us=>k h' f λb u q W=>?_
 exact us b u (J b u (no b u q W) q) W
theorem W6(x:O9 B l e c a0 m s.heap)(k:∀h',O9 B l e c a0 .none h'->s.heap.UpToSlots h'->Q () { s with heap:=h' }):na M A (setFlight (.ref e) none) Q E s:=by
 obtain⟨b1,b2,b3,o,v,T,oT,ts,q1,q2,q3,q4,q5,q6,q7,q8,J,Y,aa⟩:=x;have z3:3<ts.size:=(ux.mp aa).1;unfold setFlight;refine ii (vh q1 q3 q6 ?_);rw[if_pos (by simp)]
 refine wpAny_setField J Y z3 ?_
 have no:∀b u,s.heap.get? b=some u->(∀w,u.data ≠ .fields w)->b≠T:=λb u q W z=>by
  rw[z,J]at q;cases q;exact W ts Y
 have O:∀b u,b≠T->s.heap.get? b=some u->(s.heap.update T (Obj.mapFields (·.setIfInBounds 3 ((none:Option ge).elim Value.none λf=>v4 f)))).get? b=some u:=λb u n q=>(Heap.get?_update_other _ _ (Ne.symm n)).trans q;have d1:=Obj.data_mapFields Y (·.setIfInBounds 3 ((none:Option ge).elim Value.none λf=>v4 f))
 exact k _ ⟨λb u q=>O b u (λz=>by rw[z,q7]at q;cases q) (b1 b u q),b2,b3.of_keeps λb u q W=>⟨u,O b u (no b u q W) q,rfl⟩,o,v,T,_,_,O e o (Ne.symm q8) q1,q2,q3,q4,q5,q6,q7,q8,Heap.get?_update_self _ J (Obj.isFreed_of_fields d1),d1,by simp[z3]⟩
  λb u q W=>⟨u.slots,O b u (no b u q W) q⟩
theorem O9.up(x:O9 B (env::outer) e c Y m h):O9 B outer e c Y m h:=by
 obtain⟨W,J,⟨_,_,O⟩,r⟩:=x;exact⟨W,J,O,r⟩
theorem i4(J:A.frames=some (env::outer))(z:env.frame=some L)(x:O9 B (env::outer) e c Y .none s.heap)
 (k:∀h',O9 B outer e c Y .none h'->s.heap.UpToSlots h'->Q () { s with heap:=h' }):na M A (leaving env (.ref e)) Q E s:=by
 unfold leaving;exact ii (fT J z x λh1 f1 W=>W6 (s:={ s with heap:=h1 }) f1 λh2 O u2=>k h2 O.up (W.trans u2))
theorem jk(hA:A.frames=some (env::outer))(J:env.frame=some L)(z:B.StaysIn h)(hF:h.FunFrames B (env::outer))(W:Heap.MadeExcOf h s.heap e c vs)
 (k:∀h' a0,O9 B outer e c a0 .none h'->s.heap.UpToSlots h'->Q () { s with heap:=h' }):na M A (leaving env (.ref e)) Q E s:=by
 obtain⟨t,O,_,_⟩:=W.there
 have Y:B.get? e=none:=by
  cases q:B.get? e with
  | none=>rfl
  | some u=>have:=z e u q;rw[W.new]at this;cases this
 unfold leaving noteFrame;simp only[J];refine ii (ii (vh O rfl (x:=.none) rfl ?_));rw[if_neg Yd]
 exact Qy hA (hF.of_keeps λb u q _=>⟨u,W.keeps b u q,Z⟩) J O (λb u q=>W.keeps b u (z b u q)) Y rfl (by decide:1<6) rfl rfl
  λh1 f1 u1=>W6 (s:={ s with heap:=h1 }) f1 λh2 f2 u2=>k h2 _ f2.up (u1.trans u2)
end
section
variable {prog:mo}{w:rc}{A:sB}{E:gl->im->Prop}{s:im}{ea:ge}{oe:Obj}
end
structure Hx(X:Cx)(ea:ge)(oe:Obj):Prop where
 hd:X.A.handled=some (.ref ea)
 ct:fB oe
 ob:X.s₀.heap.get? ea=some oe
 fr:X.H₀ ea=none
 nf:ea∉X.fs
 nx:ea∉X.ex
section
variable {X:Cx}{pins:List (ge×Obj)}{σ:St}{H:Hp}{s:im}{ea:ge}{oe:Obj}
end
section
variable {X:Cx}{N:yr}{nt:Nat}{js:yq}{scope:vi}{elt iter tg:Expr}{ifs:List Expr}{pos:Pos}{g:TG}{tc:TT}{te tl:TE}{ea:ge}{oe:Obj}
end
def CX2(P:mo)(w:rc):CXT:=λouter H s E e s'=>∃(ea:ge) (cls a0:gl) (B:rf) (H':Hp),e = .ref ea/\s'.os=s.os/\vE s'.gens/\Un (frs outer) [] H H' s.heap s'.heap/\HOk P w H' s'.heap /\
 O9 B outer ea cls a0 .none s'.heap/\(∀b o,s.heap.get? b=some o->b∉frs outer->∃o',B.get? b=some o')/\(∀b u,H' b=some u->∃o',B.get? b=some o')/\E cls none H'
section
variable {P:mo}{w:rc}{K:pP}{mg:Str->Option gl}{base:rf}{N:yr}{qual:Str}{scope:vi}{f:ge}{cd:gl}{A:sB}{outer:List Env}{s:im}{H:Hp}{E:XK}
theorem T3:gh (O4 (CX2 P w) P w K mg base N qual scope f cd A outer s H E) E:=by
 intro pins σ H1 Y h2 ea cls vs I hx hE;have k1:∀b o,Y.heap.get? b=some o->b∉frs (O4 (CX2 P w) P w K mg base N qual scope f cd A outer s H E).stack->∃o',(pL Y.heap (frs (O4 (CX2 P w) P w K mg base N qual scope f cd A outer s H E).stack)).get? b=some o':=λb o e n=>⟨o,PySem.W.hideAll_get _ e n⟩
 have k2:∀b u,H1 b=some u->∃o',(pL Y.heap (frs (O4 (CX2 P w) P w K mg base N qual scope f cd A outer s H E).stack)).get? b=some o':=λb u e=>by
  obtain⟨o,q⟩:=(I.hok b u e).got;exact k1 b o q λz=>by rw[I.stkFree b z]at e;cases e
 refine jk (B:=pL Y.heap (frs (O4 (CX2 P w) P w K mg base N qual scope f cd A outer s H E).stack)) (h:=Y.heap) (outer:=outer) I.ok.frames rfl (λb o q=>pN _ q) (PySem.W.funFrames_hide I.stack (ZY Y.heap _)) hx λh' t O us=>?_;have aa:Y.heap.UpToSlots h':=(Heap.UpToSlots.of_keeps hx.keeps).trans us;have J:=I.flown (s':=Y) (toks:=Y.toks) Un.refl I.hok rfl I.bare (λb o q=>pN _ q) k1 k2 O.1 (Inv.slots I.stack aa);refine⟨ea,cls,_,_,H1,Z,I.os,I.bare,J.base,J.hok,O,λb o e n=>?_,k2,hE⟩;obtain⟨o1,q⟩:=I.base.there b o e (λz=>nomatch z);refine k1 b o1 q λz=>?_
 rcases pV.mp (I.stkSub b z) with e1 | z
 ·exact pJ (pF (Heap.lt_size e) I.ok.above) e1
 ·exact n z
theorem Y4:Lf (CX2 P w) (O4 (CX2 P w) P w K mg base N qual scope f cd A outer s H E) E:=by
 rintro pins σ H1 s1 e s2 I ⟨ea,cls,a0,B,H',rfl,os,Y,un,aa,O,k1,k2,hE⟩;refine i4 (B:=B) (outer:=outer) I.ok.frames rfl O λh' W us=>?_;have J:=I.flown (toks:=s2.toks) un aa os Y O.1 k1 k2 W.1 (Inv.slots O.2.2.1 us);refine⟨ea,cls,a0,B,H',Z,os.trans I.os,Y,J.base,J.hok,W,λb o e n=>?_,k2,hE⟩;obtain⟨o1,q⟩:=I.base.there b o e (λz=>nomatch z);refine k1 b o1 q λz=>?_
 rcases pV.mp (I.stkSub b z) with e1 | z
 ·exact pJ (pF (Heap.lt_size e) I.ok.above) e1
 ·exact n z
theorem Fun.okY{x:Str}{st:vv}{fd:jp}{ps:yr}{k:Nat}{sp:Sp}(F:Fun K x qual st f fd)(S:HJ N ps (HD st))(z:∀vs H Q E,sp vs H Q E->vs.length=ps.length)
 (W:∀(Y:gl) (A:sB) (outer:List Env) (s:im) (H:Hp) (vs:yt) (Q:VK) (E:XK),Jw k (A.deeper (envOfC qual (HD st) s.heap.objs.size f Y))->sp vs H Q E ->
  ∃t,PSs (O4 (CX2 P w) P w K mg base N qual (HD st) f Y A outer s H E) (J9 st) t/\t { nx:=λ_ H'=>Q .non H',rt:=Q } (N4 N vs) H):HV P w K mg base (CX2 P w) (k+1) f fd ps sp:=by
 obtain⟨oc,od,kV,aa,pm,an,Y,ct,ac,rfl,lk,O⟩:=F.ex;exact fZ lk O S z λA outer s H vs Q E hr J=>W Y A outer s H vs Q E hr J
theorem HV.calm(F:HV P w K mg base CX0 k f fd ps sp):HV P w K mg base CX k f fd ps sp :=
 ⟨F.len,λA outer s H args us vs Q E J O z W Y=>vx (F.run A outer s H args us vs Q E J O z W Y) λr s' q=>by
  cases r with
  | ok fl=>cases fl<;>exact q
  | error e=>exact False.elim q⟩
theorem HV.or(F:HV P w K mg base CX k f fd ps sp)(G:HV P w K mg base CX k f fd ps Y):HV P w K mg base CX k f fd ps (λvs H Q E=>sp vs H Q E\/Y vs H Q E) :=
 ⟨λvs H Q E h=>h.elim (F.len vs H Q E) (G.len vs H Q E),λA outer s H args us vs Q E J O z W hs=>hs.elim (F.run A outer s H args us vs Q E J O z W) (G.run A outer s H args us vs Q E J O z W)⟩
end
structure FdY(P:mo)(w:rc)(K:pP)(mg:Str->Option gl)(base:rf)(n:Nat)(x:Str)(ps:yr)(sp:Sp):Prop where
 ex:∃(f:ge) (fd:jp),HV P w K mg base (CX2 P w) n f fd ps sp/\Js K fd ps []/\qy K (.ref f)=true/\mg x=some (.ref f)
theorem Y1(F:FdY X.prog X.w X.K X.mg X.base n x ps sp)(hr:Jw k X.A)(hg:Gl X x)(O:Lf (CX2 X.prog X.w) X E)(z:PA X (e::es) t)(J:n<=k:=by decide)
 (Y:(x == ("__debug__" : Str))=false:=by decide) (he:lm (e::es) X.env=(false,tz e X.env)::lm es X.env:=by rfl) (W:(ut pos (lm es X.env)).any (·.1)=false:=by rfl) :
 PE X (.Call (.Name x p) (e::es) [] pos) (PQ sp [] E t):=by
 obtain⟨f,fd,F1,F2,F3,F4⟩:=F.ex;exact VS F1 (hr.mono J) hg F4 F3 F2 .nil O z Y he W
abbrev TB:=(St->Hp->Prop)->XK->St->Hp->Prop
def PB(X:Cx)(body:List vv)(t:TB):Prop:=∀(pins:List (ge×Obj)) (s:im) (σ:St) (H:Hp) (nx:St->Hp->Prop) (E:XK),Inv X pins σ H s->t nx E σ H ->
 na (pi X.prog X.w) X.A (execs body X.env) (λfl s1=>fl = .next/\∃σ' H',Inv X pins σ' H' s1/\nx σ' H') (λe s2=>∃H1 s1,Inv X pins σ H1 s1/\CX2 X.prog X.w X.stack H1 s1 E e s2) s
section
variable {X:Cx}{n k:Nat}{x:Str}{ps:yr}{sp:Sp}{e:Expr}{es:List Expr}{t:TA}{p pos:Pos}
end
abbrev SpH:=gl->ge->Hp->VK->Prop
structure FnH(P:mo)(w:rc)(K:pP)(mg:Str->Option gl)(base:rf)(k:Nat)(f:ge)(fd:jp)(x:Str)(sp:SpH):Prop where
 run:∀(A:sB) (outer:List Env) (s:im) (H:Hp) (ea:ge) (oe:Obj) (Q:VK),Jw k A->UB P w K mg base (A.mark (some (.ref ea))) outer s H->BindsTo s fd ⟨[.ref ea],[]⟩ [(x,.ref ea)]->s.heap.get? ea=some oe->fB oe->H ea=none->ea∉frs outer->sp oe.cls ea H Q ->
  vA (pi P w) (A.mark (some (.ref ea))) (.call (.ref f) ⟨[.ref ea],[]⟩) (CR CX0 outer P w H s Q E0) s
section
variable {P:mo}{w:rc}{K:pP}{mg:Str->Option gl}{base:rf}
end
structure FdH(P:mo)(w:rc)(K:pP)(mg:Str->Option gl)(base:rf)(n:Nat)(x y:Str)(sp:SpH):Prop where
 ex:∃(f:ge) (fd:jp),FnH P w K mg base n f fd y sp/\Js K fd [y] []/\qy K (.ref f)=true/\mg x=some (.ref f)
abbrev Cx.kept(X:Cx)(ea:ge)(oe:Obj):Cx:={ X.marked ea with pn:=(ea,oe)::X.pn }
section
variable {X:Cx}{pins:List (ge×Obj)}{σ:St}{H:Hp}{s:im}{ea:ge}{oe:Obj}
theorem Inv.kept2(I:Inv X pins σ H s)(h1:s.heap.get? ea=some oe)(h2:H ea=none)(W:ea≠X.env.locals)(J:ea∉X.fs)(h5:fB oe):Inv (X.kept ea oe) pins σ H s :=
 ⟨⟨I.ok.mod,I.ok.kind,I.ok.glob,I.ok.blt,I.ok.above,I.ok.inj,I.ok.has,I.ok.cab,(λz=>nomatch z),I.ok.frames,I.ok.stk,I.ok.exf,I.ok.bs,I.ok.bsz,I.ok.noex,I.ok.exfs,I.ok.funs,I.ok.frf⟩,I.os,I.bare,I.base,I.loc,I.cell,I.free,I.freeC,λp Y=>by
   rcases pV.mp (show p∈(ea,oe)::(X.pn++pins) from Y) with e | z
   ·subst e;obtain⟨v,O,_⟩:=h5;exact⟨h1,h2,W,J,λw z=>by rw[O]at z;cases z⟩
   ·exact I.pin p z,I.hok,I.len⟩
theorem Inv.unkept(J:Inv (X.kept ea oe) pins σ H s)(Y:X.Ok):Inv X pins σ H s:=⟨Y,J.os,J.bare,J.base,J.loc,J.cell,J.free,J.freeC,λp W=>J.pin p (pU _ W),J.hok,J.len⟩
end
section
open PySem.W
variable {X:Cx}(K:pP)
end
end L2
namespace L2
open PySem PySem.Spec PyProof.Rows PySem.W
structure iK(K:Frag)(D:ge)(cs:List ge)(n:Nat):Prop where
 ty:XTy K D
 ve:kitOne K (.ref D) (.type "ValueError")=some true
 of:∀i c,cs[i]? = some c->kitOne K (.ref D) (.ref c)=some (i == n)
end L2
namespace L2
open PySem PySem.Spec PyProof.Rows
section
variable {prog:mo}{w:rc}{A:sB}{E:gl->im->Prop}
end
namespace St
open SetTable
abbrev Ris(xs:Array Nat):Prop:=xs.toList.Pairwise (· < ·)
theorem Ris.lt(h:Ris xs){i k x y:Nat}(hi:xs[i]? = some x)(hk:xs[k]? = some y)(W:i<k):x<y:=by
 rw[<- uc]at hi hk;obtain⟨h1,e1⟩:=pY.mp hi;obtain⟨h2,Y⟩:=pY.mp hk;rw[<- e1,<- Y];exact uy.mp h i k h1 h2 W
theorem below_go(hr:Ris xs)(j:Nat):∀(Y lo hi:Nat),hi<=xs.size->lo<=hi->hi-lo<=Y->(∀i x,i<lo->xs[i]? = some x->x<j)->(∀i x,hi<=i->xs[i]? = some x->j<=x) ->
 ∃p,below.go xs j Y lo hi=p/\p<=xs.size/\(∀i x,i<p->xs[i]? = some x->x<j)/\∀i x,p<=i->xs[i]? = some x->j<=x:=by
 intro Y
 induction Y with
 | zero =>
   intro lo hi h1 h2 h3 J hB;exact⟨lo,Z,Yl,J,λi x O=>hB i x Yl⟩
 | succ Y ih =>
   intro lo hi h1 h2 h3 J hB;unfold below.go;by_cases hl:lo<hi
   ·rw[if_pos hl];have hm:(lo+hi) / 2<xs.size:=by lia
    have g:xs[(lo+hi) / 2]? = some xs[(lo+hi) / 2]:=uk hm;have gd:xs.getD ((lo+hi) / 2) j=xs[(lo+hi) / 2]:=by rw[uf,g];rfl
    dsimp only;rw[gd];by_cases hc:xs[(lo+hi) / 2]<j
    ·rw[if_pos hc];refine ih ((lo+hi) / 2+1) hi h1 Yl Yl (λi x O W=>?_) hB
     rcases uz i ((lo+hi) / 2) with z | z
     ·exact rP (hr.lt W g z) hc
     ·have e:i=(lo+hi) / 2:=by lia
      subst e;rw[g]at W;cases W;exact hc
    ·rw[if_neg hc];refine ih lo ((lo+hi) / 2) Yl Yl Yl J (λi x O W=>?_)
     rcases uz ((lo+hi) / 2) i with z | z
     ·exact pQ (Nat.not_lt.mp hc) (pR (hr.lt g W z))
     ·have e:i=(lo+hi) / 2:=by lia
      subst e;rw[g]at W;cases W;exact Nat.not_lt.mp hc
   ·rw[if_neg hl];exact⟨lo,Z,Yl,J,λi x O=>hB i x Yl⟩
theorem below_ok(W:Ris xs)(j:Nat):below xs j<=xs.size/\(∀i x,i<below xs j->xs[i]? = some x->x<j)/\∀i x,below xs j<=i->xs[i]? = some x->j<=x:=by
 obtain⟨p,e,h⟩:=below_go W j xs.size 0 xs.size (qd _) (qg _) Yl (λi x h=>absurd h (uA _)) (λi x h Y=>by
  have:=(ux.mp Y).1
  lia)
 unfold below;rw[e];exact h
theorem slot_live{t:re}(Y:Ris t.place){i j:Nat}(h:t.place[i]? = some j):t.slot j = .live i:=by
 obtain⟨_,O,W⟩:=below_ok Y j
 have e:below t.place j=i:=by
  rcases uB (below t.place j) i with z | z | z
  ·have J:i<t.place.size:=(ux.mp h).1;have g:t.place[below t.place j]? = some t.place[below t.place j]:=uk Yl;have h1:=W _ _ (qd _) g;have h2:=Y.lt g h z
   lia
  ·exact z
  ·exact absurd (O i j z h) (pH _)
 unfold slot;rw[e];dsimp only;rw[h];simp
theorem insert_list(xs:Array Y)(p:Nat)(x:Y):(insertAt xs p x).toList=xs.toList.take p++x::xs.toList.drop p:=by
 unfold insertAt;simp[Array.toList_append,Array.toList_push,Array.toList_extract,List.extract_eq_drop_take];exact tX (by rw[rq,qb];exact qd _)
theorem insert_at(O:p<=xs.size):(insertAt xs p x)[i]? = if i<p then xs[i]? else if i=p then some x else xs[i-1]?:=by
 rw[<- uc,insert_list];have Y:(xs.toList.take p).length=p:=by rw[qN,qb];lia
 by_cases h1:i<p
 ·rw[if_pos h1,qQ (by rw[Y];exact h1),qS h1,uc]
 ·rw[if_neg h1,qO (by rw[Y];lia),Y]
  by_cases h2:i=p
  ·subst h2;rw[if_pos rfl,tY]
   rfl
  ·rw[if_neg h2];obtain⟨k,hk⟩:∃k,i-p=k+1:=⟨i-p-1,Yl⟩;rw[hk,sv,sQ,uc]
   congr 1
   lia
theorem Ris.put(W:Ris xs)(J:∀i:Nat,xs[i]? ≠ some j):Ris (insertAt xs (below xs j) j):=by
 obtain⟨b1,b2,O⟩:=below_ok W j;show List.Pairwise _ _;rw[insert_list,List.pairwise_append];refine⟨W.sublist (qT _ _),?_,?_⟩
 ·rw[List.pairwise_cons];refine⟨λy hy=>?_,W.sublist (List.drop_sublist _ _)⟩;obtain⟨i,hi⟩:=uh hy;rw[sQ,uc]at hi;have h1:=O _ y (u9 _ _) hi;have h2:y≠j:=λz=>J _ (z ▸ hi)
  lia
 ·intro a ha b hb;obtain⟨i,hi⟩:=uh ha
  have Y:i<below xs j:=by
   have:=(pY.mp hi).1;rw[qN]at this
   lia
  rw[qS Y,uc]at hi;have h1:=b2 i a Y hi
  rcases pV.mp hb with z | z
  ·rw[z];exact h1
  ·obtain⟨k,hk⟩:=uh z;rw[sQ,uc]at hk;have:=O _ b (u9 _ _) hk
   lia
theorem adv_mask{t u:re}(h:t.mask=u.mask)(p:Probe):t.advance p=u.advance p:=by unfold advance;rw[h]
theorem advs_mask(h:t.mask=u.mask):∀n p,advs t n p=advs u n p
 | 0,_=>rfl
 | n+1,p=>by show advs t n (t.advance p)=advs u n (u.advance p);rw[adv_mask h,advs_mask h n]
theorem start_mask{t u:re}(h:t.mask=u.mask)(x:Int):t.probeStart x=u.probeStart x:=by unfold probeStart;rw[h]
def Way(t:re)(occ:Nat->Prop)(p:Probe)(j:Nat):Prop:=∃m,(advs t m p).j=j/\∀i,i<m->occ (advs t i p).j
theorem Way.mono(h:Way t Y p j)(k:∀s,Y s->W s):Way t W p j:=let ⟨m,e,a⟩:=h;⟨m,e,λi hi=>k _ (a i hi)⟩
theorem Way.mask(h:Way t o p j)(e:t.mask=u.mask):Way u o p j:=by
 obtain⟨m,e1,a⟩:=h;exact⟨m,by rw[<- advs_mask e];exact e1,λi hi=>by rw[<- advs_mask e];exact a i hi⟩
theorem advs_in(t:re):∀(c j r i Y:Nat),c<=r->advs t c { j:=j,more:=r,i:=i,perturb:=Y,dummy:=none }={ j:=j+c,more:=r-c,i:=i,perturb:=Y,dummy:=none }
 | 0,j,r,i,Y,_=>rfl
 | c+1,j,r,i,Y,h=>by
   show advs t c (t.advance _)=_
   have e:t.advance { j:=j,more:=r,i:=i,perturb:=Y,dummy:=none }={ j:=j+1,more:=r-1,i:=i,perturb:=Y,dummy:=none }:=by
    unfold advance;rw[if_pos (by show 0<r;lia)]
   rw[e,advs_in t c (j+1) (r-1) i Y Yl]
   congr 1<;>lia
theorem way_run(O:c<=runEnd t.mask i-i)(h:∀d,d<c->W (i+d)):Way t W (base t.mask i Y) (i+c) :=
 ⟨c,by unfold base;rw[advs_in t c i _ i Y O],λd hd=>by unfold base;rw[advs_in t d i _ i Y Yl];exact h d hd⟩
theorem way_on(h:∀d,d<=runEnd t.mask i-i->W (i+d))(k:Way t W (base t.mask (leap t.mask i Y).1 (leap t.mask i Y).2) j):Way t W (base t.mask i Y) j:=by
 obtain⟨m,e,a⟩:=k;have O:advs t (runEnd t.mask i-i+1) (base t.mask i Y)=base t.mask (leap t.mask i Y).1 (leap t.mask i Y).2:=advs_run t _ _ _ _;refine⟨runEnd t.mask i-i+1+m,by rw[advs_add,O];exact e,λd hd=>?_⟩
 rcases uz d (runEnd t.mask i-i+1) with z | z
 ·have:=h d Yl;unfold base;rw[advs_in t d i _ i Y Yl];exact this
 ·obtain⟨c,rfl⟩:∃c,d=runEnd t.mask i-i+1+c:=⟨d-(runEnd t.mask i-i+1),Yl⟩;rw[advs_add,O];exact a c Yl
theorem run_31(h:i<32):i<=runEnd 31 i/\runEnd 31 i<32:=by unfold runEnd;split<;>lia
def Tk(owner:Array (Option Nat))(s:Nat):Prop:=s<32/\owner.getD s (some 0)≠none
theorem free_way(hm:t.mask=31):∀(W i Y j:Nat),i<32->layClean.free 31 owner W i Y=some j->Way t (Tk owner) (base t.mask i Y) j:=by
 intro W
 induction W with
 | zero=>intro i Y j _ h;cases h
 | succ W ih =>
   intro i Y j hi h;have aa:=run_31 hi;unfold layClean.free at h
   split at h
   ·next k hk =>
    cases h;have J:=uC hk;have ac:=pO.mp J;refine way_run (by rw[hm];lia) λd hd=>⟨Yl,?_⟩
    have:=List.find?_eq_some_iff_getElem.mp hk;obtain⟨_,n,hn,e,O⟩:=this;rw[uj]at e;subst e;have:=O d hd;rw[uj]at this;intro z;rw[z]at this;cases this
   ·next hk =>
    refine way_on (λd hd=>?_) ?_
    ·rw[List.find?_eq_none]at hk;rw[hm]at hd;have:=hk d (pO.mpr Yl);refine⟨Yl,λz=>?_⟩;rw[z]at this;exact this rfl
    ·have h':layClean.free 31 owner W (leap 31 i Y).1 (leap 31 i Y).2=some j:=h;have:=ih _ _ _ (Nat.mod_lt _ Yd) h';rw[hm]at this ⊢;exact this
def WO(t:re)(hs:yo)(owner:Array (Option Nat)):Prop:=∀j i,owner.getD j none=some i->∃h,hs[i]? = some h/\Way t (Tk owner) (base t.mask (bits h % 32) (bits h)) j
theorem tk_set(h:Tk owner s):Tk (owner.setIfInBounds j (some k)) s:=by
 refine⟨h.1,λz=>?_⟩;rw[uf,uD]at z
 split at z
 ·split at z<;>cases z
 ·rw[<- uf]at z;exact h.2 z
theorem stp_way(hm:t.mask=31)(w:WO t J owner)(hk:J[k]? = some h)(e:stp (some (owner,k)) h=some (Y,z)):WO t J Y:=by
 have O:(do let j <- layClean.free 31 owner (turns 31) (bits h % (31+1)) (bits h);pure (owner.setIfInBounds j (some k),k+1))=some (Y,z):=e
 cases ef:layClean.free 31 owner (turns 31) (bits h % (31+1)) (bits h) with
 | none=>rw[ef]at O;cases O
 | some j =>
   rw[ef]at O;have e2:some (owner.setIfInBounds j (some k),k+1)=some (Y,z):=O;cases e2;intro s i W;rw[uf,uD]at W;by_cases hjs:j=s
   ·rw[if_pos hjs]at W
    split at W
    ·have ei:some k=some i:=W;cases ei;refine⟨h,hk,?_⟩;subst hjs;exact(free_way hm _ _ _ _ (Nat.mod_lt _ Yd) ef).mono λ_=>tk_set
    ·cases W
   ·rw[if_neg hjs,<- uf]at W;obtain⟨g,g1,g2⟩:=w s i W;exact⟨g,g1,g2.mono λ_=>tk_set⟩
theorem fold_way(J:t.mask=31):∀(W:yo) {owner:Array (Option Nat)} {k:Nat},Own owner k->WO t hs0 owner->(∀i h,W[i]? = some h->hs0[k+i]? = some h)->k+W.length<=32 ->
 ∃Y,W.foldl stp (some (owner,k))=some (Y,k+W.length)/\Own Y (k+W.length)/\WO t hs0 Y
 | [],owner,k,ho,w,_,_=>⟨owner,Z,ho,w⟩
 | h::W,owner,k,ho,w,hh,hl=>by
   rw[qr]at hl;obtain⟨o1,e1,ho1⟩:=stp_ok ho Yl h;have w1:=stp_way J w (hh 0 h rfl) e1;obtain⟨o2,e2,O,z⟩:=fold_way J W ho1 w1 (λi g hg=>by rw[show k+1+i=k+(i+1) by lia];exact hh (i+1) g hg) Yl
   refine⟨o2,?_,?_,z⟩
   ·rw[List.foldl_cons,e1,e2,qr,show k+1+W.length=k+(W.length+1) by lia]
   ·rw[qr,show k+(W.length+1)=k+1+W.length by lia];exact O
theorem wo_none(t:re)(Y:yo):WO t Y (uq 32 none):=λj i h=>by
 rw[uf,Array.getElem?_replicate]at h
 split at h<;>cases h
theorem lv_first(owner:Array (Option Nat)):∀l:yq,(l.filterMap (lv owner)).map (·.1)=l.filter λj=>(owner.getD j none).isSome
 | []=>rfl
 | a::l=>by
   rw[pS,uE];cases e:owner.getD a none with
   | none =>
     have:lv owner a=none:=by unfold lv;rw[e];rfl
     rw[this];simp only[Option.isSome_none,Bool.false_eq_true,if_false];exact lv_first owner l
   | some v =>
     have:lv owner a=some (a,v):=by unfold lv;rw[e];rfl
     rw[this];simp only[Option.isSome_some,if_true,qw];rw[lv_first owner l]
theorem laid_way(Y:Array Int)(hn:Y.size<=32)(finger moves:Nat)(led plain:Bool):∃t W,laid 31 finger moves led plain Y=some (t,W)/\t.mask=31/\t.dummies = #[]/\t.place.size=Y.size/\W.toList.Perm (pK Y.size)/\Ris t.place /\
 ∀i k:Nat,W[i]? = some k->∃(j:Nat) (h:Int),t.place[i]? = some j/\Y[k]? = some h/\Way t (λs=>∃q:Nat,t.place[q]? = some s) (t.probeStart h) j:=by
 have ah:(SetTable.fresh 0 0 false).mask=7:=rfl;obtain⟨t0,ac⟩:∃t0:re,t0.mask=31:=⟨{ (SetTable.fresh 0 0 false) with mask:=31 },rfl⟩
 obtain⟨owner,e,ho,w⟩:=fold_way ac Y.toList (hs0:=Y.toList) own_none (wo_none t0 _) (λi h hh=>by rw[tO];exact hh) (by rw[qb];lia)
 have hc:layClean 31 Y=some owner:=by
  unfold layClean;have e':Y.foldl stp (some (uq 32 none,0))=some (owner,0+Y.toList.length):=by rw[<- Array.foldl_toList];exact e
  have e2:Y.foldl (init:=some (uq (31+1) none,0)) (λag h=>do
   let (owner,k) <- ag
   let j <- layClean.free 31 owner (turns 31) (bits h % (31+1)) (bits h)
   pure (owner.setIfInBounds j (some k),k+1))=some (owner,0+Y.toList.length):=e'
  rw[e2];rfl
 have hp:=ho.2;rw[tO,qb]at hp;obtain⟨t,ht⟩:∃t:re,t={ mask:=31,place:=(((pK 32).filterMap (lv owner)).map (·.1)).toArray,dummies:=#[],finger,led,moves,plain }:=⟨_,Z⟩;have aa:t.mask=31:=by rw[ht]
 have z:t.place.toList=((pK 32).filterMap (lv owner)).map (·.1):=by rw[ht]
 have af:∀s,Tk owner s->∃q:Nat,t.place[q]? = some s:=λs hs=>by
  have h1:∃v,owner.getD s none=some v:=by
   have h2:=hs.2;rw[uf]at h2;have ae:s<owner.size:=by rw[ho.1];exact hs.1
   rw[uk ae]at h2;cases J:owner[s] with
   | none=>rw[J]at h2;exact absurd rfl h2
   | some v=>exact⟨v,by rw[uf,uk ae,J];rfl⟩
  obtain⟨v,J⟩:=h1
  have ad:s∈t.place.toList:=by
   rw[z,lv_first];exact pM.mpr ⟨pO.mpr hs.1,by rw[J];rfl⟩
  obtain⟨q,hq⟩:=uh ad;exact⟨q,by rw[<- uc];exact hq⟩
 refine⟨t,(((pK 32).filterMap (lv owner)).map (·.2)).toArray,?_,aa,by rw[ht],?_,hp,?_,λi k hk=>?_⟩
 ·unfold laid;rw[hc,ht]
  rfl
 ·have:=hp.length_eq;rw[qz,ud]at this;rw[<- qb,z,qz];exact this
 ·show List.Pairwise _ _;rw[z,lv_first];exact List.Pairwise.sublist List.filter_sublist List.pairwise_lt_range
 ·rw[<- uc]at hk;have hk:(((pK 32).filterMap (lv owner)).map (·.2))[i]? = some k:=hk;rw[qR]at hk;cases hg:((pK 32).filterMap (lv owner))[i]? with
  | none=>rw[hg]at hk;cases hk
  | some x =>
    obtain⟨j,k'⟩:=x;rw[hg]at hk;have ek:k'=k:=pC.inj hk;obtain⟨j',_,O⟩:=qe.mp (qU hg);unfold lv at O;cases J:owner.getD j' none with
    | none=>rw[J]at O;cases O
    | some v =>
      rw[J]at O;have e3:(j',v)=(j,k'):=pC.inj O;have ej:j'=j:=congrArg Prod.fst e3;have ev:v=k:=(congrArg Prod.snd e3).trans ek;rw[ej,ev]at J;obtain⟨h,h1,h2⟩:=w j k J;refine⟨j,h,?_,by rw[<- uc];exact h1,?_⟩
      ·rw[<- uc,z,qR,hg];rfl
      ·have h3:=(h2.mono af).mask (u:=t) (by rw[aa];exact ac)
       rw[ac]at h3;unfold probeStart;rw[aa];exact h3
end St
end L2
namespace L2
open PySem PySem.Spec PyProof.Rows
namespace St
open SetTable
abbrev Occ(t:re)(s:Nat):Prop:=∃q:Nat,t.place[q]? = some s
theorem go_way(hd:t.dummies = #[]):∀(Y k:Nat) (p:Probe),k<Y->p.dummy=none->Hit t k p ->
 (∃c j,probe.go t ha h Y p=some (.empty j none)/\(advs t c p).j=j/\t.slot j = .empty/\∀l,l<c->Occ t (advs t l p).j) \/
 ∃c j i O,probe.go t ha h Y p=some (.candidate j i (advs t (c+1) p))/\t.slot j = .live i/\t.place[i]? = some j/\(advs t (c+1) p).dummy=none/\Hit t O (advs t (c+1) p)/\O<k/\∀l,l<c+1->Occ t (advs t l p).j
 | Y+1,k,p,hk,hp,hh=>by
   unfold probe.go
   rcases slot_cases hd p.j with z | ⟨i,z,zp⟩
   ·rw[z];exact .inl ⟨0,p.j,by simp only[hp],Z,z,λl hl=>absurd hl (uA _)⟩
   ·rw[z]
    have hk0:∃O,k=O+1:=by
     cases k with
     | zero=>unfold Hit at hh;rw[show advs t 0 p=p from rfl,z]at hh;cases hh
     | succ O=>exact⟨O,Z⟩
    obtain⟨O,rfl⟩:=hk0;have J:Hit t O (t.advance p):=hh;by_cases hq:(ha i == h)=true
    ·refine .inr ⟨0,p.j,i,O,?_,z,zp,adv_dummy t hp,J,Yl,λl hl=>?_⟩
     ·simp only[hq]
      rfl
     ·obtain rfl:l=0:=by lia
      exact⟨i,zp⟩
    ·have aa:(ha i == h)=false:=by simpa using hq
     simp only[aa]
     have W:∀{c:Nat},(∀l,l<c->Occ t (advs t l (t.advance p)).j)->∀l,l<c+1->Occ t (advs t l p).j:=fun{c} hc l hl=>by
      cases l with
      | zero=>exact⟨i,zp⟩
      | succ l=>exact hc l Yl
     rcases go_way hd Y O (t.advance p) Yl (adv_dummy t hp) J with ⟨c,j,e,r0,r1,r2⟩ | ⟨c,j,i',k2,e,r1,r2,r3,r4,r5,r6⟩
     ·exact .inl ⟨c+1,j,e,r0,r1,W r2⟩
     ·exact .inr ⟨c+1,j,i',k2,e,r1,r2,r3,r4,Yl,W r6⟩
theorem go_there(hr:Ris t.place)(h0:t.place[W]? = some j0)(hh:(ha W == h)=true):∀(fuel r:Nat) (p:Probe),r<fuel->p.dummy=none->(advs t r p).j=j0->(∀l,l<r->Occ t (advs t l p).j) ->
 ∃j i next,probe.go t ha h fuel p=some (.candidate j i next)/\t.slot j = .live i/\t.place[i]? = some j/\(i=W\/∃J,J<r/\next.dummy=none/\(advs t J next).j=j0/\∀l,l<J->Occ t (advs t l next).j)
 | fuel+1,0,p,_,hp,Y,_=>by
   have Y:p.j=j0:=Y;have z:t.slot p.j = .live W:=by rw[Y];exact slot_live hr h0
   unfold probe.go;rw[z];refine⟨p.j,W,t.advance p,?_,z,by rw[Y];exact h0,.inl rfl⟩
   simp only[hh]
   rfl
 | fuel+1,r+1,p,hk,hp,Y,ho=>by
   obtain⟨i,hi⟩:=ho 0 (tJ _);have hi:t.place[i]? = some p.j:=hi;have z:t.slot p.j = .live i:=slot_live hr hi;unfold probe.go;rw[z];have O:∀l,l<r->Occ t (advs t l (t.advance p)).j:=λl hl=>ho (l+1) Yl;by_cases hq:(ha i == h)=true
   ·refine⟨p.j,i,t.advance p,?_,z,hi,.inr ⟨r,qA _,adv_dummy t hp,Y,O⟩⟩;simp only[hq]
    rfl
   ·have aa:(ha i == h)=false:=by simpa using hq
    simp only[aa];obtain⟨j,i',next,e,r1,r2,r3⟩:=go_there hr h0 hh fuel r (t.advance p) Yl (adv_dummy t hp) Y O;refine⟨j,i',next,e,r1,r2,?_⟩
    rcases r3 with z | ⟨J,q1,q2⟩
    ·exact .inl z
    ·exact .inr ⟨J,Yl,q2⟩
section
variable {prog:mo}{w:rc}{K:Type}[DecidableEq K]{knd:KeyKind prog w K}{A:sB}{E:gl->im->Prop}{s:im}
def Nms(knd:KeyKind prog w K)(h:rf)(l:List gl):Prop:=∀v∈l,∃b k',v = .ref b/\IsN knd h k' b
theorem unseen2(z:IsN knd s.heap ks x)(hl:Nms knd s.heap l)(h:Q false s):na (pi prog w) A (searchCouldBeSeen (.ref x) l) Q E s:=by
 unfold searchCouldBeSeen;refine ii ?_;refine wpAny_forIn_list _ (λJu r s'=>r.1=none/\s'=s/\Nms knd s.heap Ju) _ ?_ ?_ _ _ ⟨Z,Z,hl⟩
 ·rintro v Ju r s' ⟨O,rfl,W⟩;obtain⟨b,k',rfl,hb⟩:=W v pT;have Y:Nms knd s'.heap Ju:=λu J=>W u (pU _ J)
  have hc:((match (Value.ref x),(Value.ref b) with | .ref a,.ref b=>a == b | _,_=>false)||(vQ (.ref x)&&vQ (.ref b)))=(x == b):=by
   show((x == b)||(false&&false))=_
   simp
  show na _ _ (if ((match (Value.ref x),(Value.ref b) with | .ref a,.ref b=>a == b | _,_=>false)||(vQ (.ref x)&&vQ (.ref b)))=true then _ else _) _ _ _
  rw[hc];by_cases hxb:(x == b)=true
  ·rw[if_pos hxb];exact li ⟨Z,Z,Y⟩
  rw[if_neg hxb];refine ii (wpAny_eqIsQuiet_tuple z.key ?_);simp only[Bool.not_true,Bool.false_eq_true,if_false];refine ii (wpAny_eqIsQuiet_tuple hb.key ?_);simp only[Bool.not_true,Bool.false_eq_true,if_false];refine ii (ofClass_n z ?_);simp only[Bool.false_eq_true,if_false];refine ii (ofClass_n hb ?_);simp only[Bool.false_eq_true,if_false];exact li ⟨Z,Z,Y⟩
 ·rintro⟨r1,r2⟩ s' ⟨O,rfl,_⟩;simp only at O;subst O;exact li h
variable {S:ge}{o:Obj}{es:Array (Int×gl)}{ep:Nat}{t:re}
theorem nms_of{ks:List K}(W:∀e∈es.toList,∃b z,e.2=Value.ref b/\IsN knd s.heap z b){h:Int}:Nms knd s.heap (List.map (λx=>x.snd) (Array.filter (λx=>x.fst == h) es).toList):=λv J=>by
 obtain⟨O,Y,rfl⟩:=tR.mp J;rw[Array.toList_filter]at Y;exact W O (pM.mp Y).1
theorem same_self(t:re):t.sameMemory t.moves t.mask=some true:=by unfold sameMemory;rw[if_pos (beq_self_eq_true _)]
theorem look_one(ho:s.heap.get? S=some o)(hd:o.data = .set es ep t)(hf:t.fits es.size=true)(hx:IsN knd s.heap ks x)(hb:IsN knd s.heap W b)(O:∀e∈es.toList,∃b k',e.2=Value.ref b/\IsN knd s.heap k' b)
 (hu:A.units<cLine)    (r1:t.slot j = .live i) (Y:es[i]? = some (h1,Value.ref b))  (J:W=ks->Q (.there none) s) (no:W≠ks->na (pi prog w) A (setSearchFrom S (.ref x) h true F (some next)) Q E s) :
 na (pi prog w) A (do
  if !t.led then
   if <- searchCouldBeSeen (.ref x) ((es.filter (·.1 == h)).toList.map (·.2)) then unsupported "set:the-search-would-show-the-table"
  let some (_,y):=es[i]? | unsupported "internal:set-entry"
  let equal <- holding [y] (eqBool y (.ref x))
  let (es',_,t') <- setState S
  if true&&equal then return .there none
  let some same:=t'.sameMemory t.moves t.mask | unsupported "set.changed-during-lookup:is-the-new-block-at-the-old-address"
  let still <- match (if same then t'.slot j else .empty) with
   | .live i'=>match es'[i']? with
     | some (_,y')=>do pure (if <- isSame y' y then some i' else none)
     | none=>pure none
   | _=>pure none
  match still with
  | none=>rule "set.search.anew";setSearchFrom S (.ref x) h true F none
  | some i'=>if equal then return .there (some i') else setSearchFrom S (.ref x) h true F (some next)) Q E s:=by
 have Ju:na (pi prog w) A (do
  let some (_,y):=es[i]? | unsupported "internal:set-entry"
  let equal <- holding [y] (eqBool y (.ref x))
  let (es',_,t') <- setState S
  if true&&equal then return .there none
  let some same:=t'.sameMemory t.moves t.mask | unsupported "set.changed-during-lookup:is-the-new-block-at-the-old-address"
  let still <- match (if same then t'.slot j else .empty) with
   | .live i'=>match es'[i']? with
     | some (_,y')=>do pure (if <- isSame y' y then some i' else none)
     | none=>pure none
   | _=>pure none
  match still with
  | none=>rule "set.search.anew";setSearchFrom S (.ref x) h true F none
  | some i'=>if equal then return .there (some i') else setSearchFrom S (.ref x) h true F (some next)) Q E s:=by
  rw[Y];dsimp only;refine ii (vj (wpAny_eqBool_tuple hu hb.key hx.key ?_));refine ii (vq ho hd hf ?_);by_cases hk:W=ks
  ·rw[decide_eq_true hk];simp only[Bool.and_self,if_true];exact li (J hk)
  ·rw[decide_eq_false hk];simp only[Bool.and_false,Bool.false_eq_true,if_false,same_self,if_true,r1,Y];refine ii (wpAny_isSame_ref_self ?_);simp only[if_true];refine ii (li ?_);simp only[Bool.false_eq_true,if_false];exact no hk
 rcases Bool.eq_false_or_eq_true t.led with z | z
 ·simp only[z,Bool.not_true,Bool.false_eq_true,if_false];exact Ju
 ·simp only[z,Bool.not_false,if_true];refine ii (unseen2 hx (nms_of (ks:=ks) O) ?_);simp only[Bool.false_eq_true,if_false];exact Ju
theorem search_new(ho:s.heap.get? S=some o)(hd:o.data = .set es ep t)(hf:t.fits es.size=true)(hm:t.mask=7\/t.mask=31)(ac:t.dummies = #[])(hx:IsN knd s.heap ks x)
 (ag:∀e∈es.toList,∃b J,e.2=Value.ref b/\IsN knd s.heap J b/\J≠ks) (hu:A.units<cLine)   (hQ:∀j,t.slot j = .empty->Way t (Occ t) (t.probeStart h) j->Q (.free j false) s) :
 ∀(k F O:Nat) (Y:Option Probe),k<F->k<10*turns t.mask->Y.getD (t.probeStart h)=advs t O (t.probeStart h)->(∀l,l<O->Occ t (advs t l (t.probeStart h)).j)->(Y.getD (t.probeStart h)).dummy=none->Hit t k (Y.getD (t.probeStart h))->na (pi prog w) A (setSearchFrom S (.ref x) h true F Y) Q E s:=by
 have af:∀e∈es.toList,∃b J,e.2=Value.ref b/\IsN knd s.heap J b:=λe he=>let ⟨b,J,q1,q2,_⟩:=ag e he;⟨b,J,q1,q2⟩
 have al:t.place.size=es.size:=by
  unfold fits at hf;rw[Bool.and_eq_true]at hf;exact eq_of_beq hf.1
 intro k
 induction k using Nat.strongRecOn with
 | ind k ih =>
   intro F O Y hF hk aa ah ad hh;obtain⟨F',rfl⟩:∃F',F=F'+1:=⟨F-1,Yl⟩;unfold setSearchFrom;refine ii (vq ho hd hf ?_);dsimp only
   have ai:t.gaveWay=false:=by
    unfold gaveWay
    rcases hm with z | z<;>rw[z]<;>rfl
   rw[ai];simp only[Bool.false_eq_true,if_false]
   have more:∀{c:Nat},(∀l,l<c->Occ t (advs t l (Y.getD (t.probeStart h))).j)->∀l,l<O+c->Occ t (advs t l (t.probeStart h)).j:=fun{c} hc l hl=>by
    rcases uz l O with z | z
    ·exact ah l z
    ·obtain⟨d,rfl⟩:∃d,l=O+d:=⟨l-O,Yl⟩;have:=hc d Yl;rw[aa,<- advs_add]at this;exact this
   split
   ·next am W =>
    rcases go_way ac (10*turns t.mask) k _ hk ad hh with ⟨c,j,e,r0,r1,r2⟩ | ⟨c,j,i,J,e,r1,r2,r3,r4,r5,r6⟩
    ·have e2:=pC.inj (e.symm.trans W);subst e2;refine li (hQ j r1 ⟨O+c,?_,more r2⟩);rw[advs_add,<- aa];exact r0
    ·have e2:=pC.inj (e.symm.trans W);subst e2;dsimp only
     have ak:i<es.size:=by
      have:=(ux.mp r2).1
      lia
     obtain⟨h0,y,ae⟩:∃h0 y,es[i]? = some (h0,y):=⟨es[i].1,es[i].2,uk ak⟩;obtain⟨b,kb,eb,hb,aj⟩:=ag (h0,y) (qU (by rw[uc];exact ae))
     have eb:y = .ref b:=eb;subst eb;refine look_one ho hd hf hx hb af hu r1 ae (λz=>absurd z aj) λ_=>?_;refine ih J r5 F' (O+(c+1)) (some _) Yl Yl ?_ (more r6) r3 r4;show advs t (c+1) (Y.getD (t.probeStart h))=_;rw[aa,<- advs_add]
   ·next W =>
    exfalso
    rcases go_way ac (10*turns t.mask) k _ hk ad hh with ⟨c,j,e,_⟩ | ⟨c,j,i,J,e,_⟩
    ·exact W _ e
    ·exact W _ e
theorem search_old(ho:s.heap.get? S=some o)(hd:o.data = .set es ep t)(J:t.fits es.size=true)(hm:t.mask=7\/t.mask=31)(hr:Ris t.place)(hx:IsN knd s.heap ks x)
 (ae:∀e∈es.toList,∃b k',e.2=Value.ref b/\IsN knd s.heap k' b) (hu:A.units<cLine) {h:Int} {i0 j0:Nat}  (h0:t.place[i0]? = some j0) (ad:es[i0]? = some (h,Value.ref b0)) (ai:IsN knd s.heap ks b0)  (hQ:Q (.there none) s) :
 ∀(r F:Nat) (Y:Option Probe),r<F->r<10*turns t.mask->(Y.getD (t.probeStart h)).dummy=none->(advs t r (Y.getD (t.probeStart h))).j=j0->(∀l,l<r->Occ t (advs t l (Y.getD (t.probeStart h))).j)->na (pi prog w) A (setSearchFrom S (.ref x) h true F Y) Q E s:=by
 have aj:t.place.size=es.size:=by
  unfold fits at J;rw[Bool.and_eq_true]at J;exact eq_of_beq J.1
 intro r
 induction r using Nat.strongRecOn with
 | ind r ih =>
   intro F Y hF hk ac hj aa;obtain⟨F',rfl⟩:∃F',F=F'+1:=⟨F-1,Yl⟩;unfold setSearchFrom;refine ii (vq ho hd J ?_);dsimp only
   have af:t.gaveWay=false:=by
    unfold gaveWay
    rcases hm with z | z<;>rw[z]<;>rfl
   rw[af];simp only[Bool.false_eq_true,if_false]
   have hh:∀{ha:Nat->Int},(∀i,ha i=(es[i]?.map (·.1)).getD 0)->(ha i0 == h)=true:=fun{ha} e=>by
    rw[e,ad];simp
   split
   ·next ak O =>
    obtain⟨j,i,next,e,r1,r2,r3⟩:=go_there hr h0 (hh λ_=>rfl) (10*turns t.mask) r _ hk ac hj aa;have e2:=pC.inj (e.symm.trans O);subst e2;dsimp only
    have ah:i<es.size:=by
     have:=(ux.mp r2).1
     lia
    obtain⟨h1,y,W⟩:∃h1 y,es[i]? = some (h1,y):=⟨es[i].1,es[i].2,uk ah⟩;obtain⟨b,kb,eb,hb⟩:=ae (h1,y) (qU (by rw[uc];exact W))
    have eb:y = .ref b:=eb;subst eb;refine look_one ho hd J hx hb ae hu r1 W (λ_=>hQ) λag=>?_
    rcases r3 with z | ⟨r',q1,q2,q3,q4⟩
    ·subst z;rw[ad]at W;cases W;exact absurd (hb.key.inj ai.key) ag
    ·exact ih r' q1 F' (some next) Yl Yl q2 q3 q4
   ·next O =>
    exfalso;obtain⟨j,i,next,e,_⟩:=go_there hr h0 (hh λ_=>rfl) (10*turns t.mask) r _ hk ac hj aa;exact O _ e
end
end St
end L2
namespace L2
open PySem PySem.Spec PyProof.Rows
namespace St
open SetTable
theorem fm_at{Y O:Type}{f:Y->Option O}:∀{l:List Y} {i:Nat},(∀x∈l,∃y,f x=some y)->(l.filterMap f)[i]? = l[i]?.bind f
 | [],i,_=>by simp
 | a::l,i,h=>by
   obtain⟨y,hy⟩:=h a pT;rw[uo hy];cases i with
   | zero=>rw[uF,uF];exact hy.symm
   | succ i=>rw[sv,sv];exact fm_at λx W=>h x (pU _ W)
section
variable {prog:mo}{w:rc}{K:Type}[DecidableEq K](knd:KeyKind prog w K)(G:ge->Prop)
structure Bdy(h:rf)(keys:List (List K))(es:Array (Int×gl))(t:re):Prop where
 dm:t.dummies = #[]
 ps:t.place.size=es.size
 len:es.size=keys.length
 ris:Ris t.place
 ent:∀(i:Nat) (e:Int×gl),es[i]? = some e->∃(b:ge) (k:List K) (j:Nat),e=(tupleKeyHash knd k,Value.ref b)/\IsN knd h k b/\k∈keys/\G b/\t.place[i]? = some j/\Way t (Occ t) (t.probeStart e.1) j
 key:∀k∈keys,∃(i:Nat) (b:ge),es[i]? = some (tupleKeyHash knd k,Value.ref b)/\IsN knd h k b
def SetM(h:rf)(S:ge)(keys:List (List K)):Prop:=∃o es ep t,h.get? S=some o/\o.ExactSet/\o.data = .set es ep t/\(t.mask=7/\es.size<=4\/t.mask=31)/\Bdy knd G h keys es t
variable {knd}{G}
theorem Bdy.keep(x:Bdy knd G h keys es t)(k:∀b o ks,IsN knd h ks b->h.get? b=some o->h'.get? b=some o):Bdy knd G h' keys es t :=
 ⟨x.dm,x.ps,x.len,x.ris,λi e W=>let ⟨b,ks,j,q1,q2,q3⟩:=x.ent i e W;⟨b,ks,j,q1,q2.keep λo Y=>k b o ks q2 Y,q3⟩,λks hk=>let ⟨i,b,q1,q2⟩:=x.key ks hk;⟨i,b,q1,q2.keep λo Y=>k b o ks q2 Y⟩⟩
theorem Bdy.nums(x:Bdy knd G h keys es t):∀e∈es.toList,∃b Y,e.2=Value.ref b/\IsN knd h Y b/\Y∈keys:=λe J=>by
 obtain⟨i,hi⟩:=uh J;rw[uc]at hi;obtain⟨b,k,j,rfl,O,W,_⟩:=x.ent i e hi;exact⟨b,k,Z,O,W⟩
variable {A:sB}{E:gl->im->Prop}{s:im}
theorem Bdy.again{h:rf}{keys:List (List K)}{es W:Array (Int×gl)}{t J:re}{Y:Array Nat}(x:Bdy knd G h keys es t)(eo:Y.toList.Perm (pK es.size))(e2:W=Y.filterMap (es[·]?))(d2:J.dummies = #[])(p2:J.place.size=es.size)(r2:Ris J.place)
 (w2:∀i k:Nat,Y[i]? = some k->∃(j:Nat) (g:Int),J.place[i]? = some j/\(es.map (·.1))[k]? = some g/\Way J (Occ J) (J.probeStart g) j):W.toList.Perm es.toList/\Bdy knd G h keys W J:=by
 have ac:∀k∈Y.toList,∃y,es[k]? = some y:=λk hk=>⟨_,uk (pO.mp (eo.mem_iff.mp hk))⟩
 have ae:∀i:Nat,W[i]? = Y[i]?.bind (es[·]?):=λi=>by
  rw[<- uc,e2,Array.toList_filterMap,fm_at ac,uc]
 have O:W.toList.Perm es.toList:=by
  rw[e2,Array.toList_filterMap];have:=eo.filterMap (λi=>es[i]?);rw[filterMap_getElem?_range]at this;exact this
 have hsz:W.size=es.size:=by
  have:=O.length_eq;rw[qb,qb]at this;exact this
 refine⟨O,d2,by rw[p2,hsz],by rw[hsz];exact x.len,r2,λi e z=>?_,λk hk=>?_⟩
 ·rw[ae]at z;cases ho:Y[i]? with
  | none=>rw[ho]at z;cases z
  | some k =>
    rw[ho]at z;have z:es[k]? = some e:=z;obtain⟨b,ks,_,q1,q2,q3,q4,_⟩:=x.ent k e z;obtain⟨j,g,w1,ad,w3⟩:=w2 i k ho;rw[Array.getElem?_map,z]at ad;have eg:e.1=g:=pC.inj ad;exact⟨b,ks,j,q1,q2,q3,q4,w1,by rw[eg];exact w3⟩
 ·obtain⟨i,b,q1,q2⟩:=x.key k hk;have hm:(tupleKeyHash knd k,Value.ref b)∈W.toList:=O.mem_iff.mpr (qU (by rw[uc];exact q1))
  obtain⟨i2,aa⟩:=uh hm;rw[uc]at aa;exact⟨i2,b,aa,q2⟩
theorem Bdy.more(B:Bdy knd G h keys es t)(hx:IsN knd h ks x)(hG:G x)(O:t.slot j = .empty)(hw:Way t (Occ t) (t.probeStart (tupleKeyHash knd ks)) j)(e1:t1=(t.put j).1)(ep:p=(t.put j).2) :
 t1.mask=t.mask/\Bdy knd G h (ks::keys) (insertAt es p (tupleKeyHash knd ks,Value.ref x)) t1:=by
 have W:t1={ t with place:=insertAt t.place (below t.place j) j }:=by
  rw[e1];unfold put;have hz:has t.dummies j=false:=by rw[B.dm];unfold has;rfl
  simp only[hz,Bool.false_eq_true,if_false]
 have ep:p=below t.place j:=by rw[ep];rfl
 have hn:∀i:Nat,t.place[i]? ≠ some j:=λi z=>by rw[slot_live B.ris z]at O;cases O
 have J:p<=t.place.size:=by rw[ep];exact(below_ok B.ris j).1
 have Y:p<=es.size:=by rw[<- B.ps];exact J
 have aa:t1.mask=t.mask:=by rw[W]
 have pl:∀i:Nat,t1.place[i]? = if i<p then t.place[i]? else if i=p then some j else t.place[i-1]?:=λi=>by
  rw[W];show(insertAt t.place (below t.place j) j)[i]? = _;rw[<- ep,insert_at J]
 have up:∀s,Occ t s->Occ t1 s:=λs ⟨q,hq⟩=>by
  rcases uz q p with z | z
  ·exact⟨q,by rw[pl,if_pos z];exact hq⟩
  ·exact⟨q+1,by rw[pl,if_neg Yl,if_neg Yl];exact hq⟩
 have mv:∀{g:Int} {r:Nat},Way t (Occ t) (t.probeStart g) r->Way t1 (Occ t1) (t1.probeStart g) r:=fun{g r} z=>by
  have:=(z.mono up).mask (u:=t1) aa.symm;rw[start_mask aa.symm g]at this;exact this
 refine⟨aa,?_,?_,?_,?_,λi e O=>?_,λk hk=>?_⟩
 ·rw[W];exact B.dm
 ·rw[W];show(insertAt _ _ _).size=_;rw[insert_size,insert_size,B.ps]
 ·rw[insert_size,B.len];rfl
 ·rw[W];exact B.ris.put hn
 ·rw[insert_at Y]at O
  rcases uB i p with z | z | z
  ·rw[if_pos z]at O;obtain⟨b,k,r,q1,q2,q3,q4,q5,q6⟩:=B.ent i e O;exact⟨b,k,r,q1,q2,pU _ q3,q4,by rw[pl,if_pos z];exact q5,mv q6⟩
  ·rw[if_neg Yl,if_pos z]at O;cases O;exact⟨x,ks,j,Z,hx,pT,hG,by rw[pl,if_neg Yl,if_pos z],mv hw⟩
  ·rw[if_neg Yl,if_neg Yl]at O;obtain⟨b,k,r,q1,q2,q3,q4,q5,q6⟩:=B.ent (i-1) e O;exact⟨b,k,r,q1,q2,pU _ q3,q4,by rw[pl,if_neg Yl,if_neg Yl];exact q5,mv q6⟩
 ·rcases pV.mp hk with z | z
  ·subst z;exact⟨p,x,by rw[insert_at Y,if_neg (pH _),if_pos rfl],hx⟩
  ·obtain⟨i,b,q1,q2⟩:=B.key k z
   rcases uz i p with y | y
   ·exact⟨i,b,by rw[insert_at Y,if_pos y];exact q1,q2⟩
   ·exact⟨i+1,b,by rw[insert_at Y,if_neg Yl,if_neg Yl];exact q1,q2⟩
theorem add_tail2(ho:s.heap.get? S=some o)(an:o.ExactSet)(hd:o.data = .set es ep t)
 (am:t1.mask=7/\es1.size<=5\/t1.mask=31) (B:Bdy knd G s.heap keys es1 t1) (aj:es1.size<=17)  (hm:m=es1.size) 
 (h:∀h',Heap.SameBut S s.heap h'->SetM knd G h' S keys->Q true { s with heap:=h' }) :
 na (pi prog w) A (do storeSet S es1 t1;if (!false&&t1.tooFull)=true then do { setRelay S (grown m);pure true } else pure true) Q E s:=by
 refine ii (wpAny_storeSet_of ho hd ?_ (pQ aj Yd))
 have O:(s.heap.update S (Obj.putSet es1 t1)).get? S=some { o with data:=.set es1 (ep+1) t1 }:=by
  have:=Heap.get?_update_self (Obj.putSet es1 t1) ho (by rw[putSet_of _ _ hd];rfl)
  rw[putSet_of _ _ hd]at this;exact this
 have ac:Heap.SameBut S s.heap (s.heap.update S (Obj.putSet es1 t1)):=Heap.SameBut.update ..;generalize s.heap.update S (Obj.putSet es1 t1)=h1 at O ac ⊢
 have J:∀{g g':rf} {o':Obj} {es' ep' t'},g.get? S=some o'->o'.data = .set es' ep' t'->Heap.SameBut S g g'->∀b oo ks,IsN knd g ks b->g.get? b=some oo->g'.get? b=some oo:=fun{g g' o' es' ep' t'} e1 e2 sb b oo ks hN e=>by
  have au:b≠S:=by
   rintro rfl;obtain⟨o2,items,n,q1,q2,q3,_⟩:=hN;rw[e1]at q1;cases q1;rw[e2]at q3;cases q3
  exact(sb.2 b au).trans e
 have B1:Bdy knd G h1 keys es1 t1:=B.keep (J ho hd ac);have ag:SetTable.fill t1=es1.size:=by unfold SetTable.fill;rw[B.dm,B.ps];rfl
 by_cases hfull:t1.tooFull=true
 ·have ak:es1.size*5 ≥ t1.mask*3:=by
   unfold tooFull at hfull;rw[ag]at hfull;exact of_decide_eq_true hfull
  have af:t1.mask=7/\es1.size=5:=by
   rcases am with z | z
   ·rw[z.1]at ak;exact⟨z.1,Yl⟩
   ·rw[z]at ak;lia
  simp only[hfull,Bool.not_false,Bool.and_self,if_true];refine ii ?_;unfold setRelay
  have ah:t1.fits es1.size=true:=by
   unfold fits;rw[ag,B.ps,af.1,af.2];rfl
  refine ii (vq (s:={ s with heap:=h1 }) (o:={ o with data:=.set es1 (ep+1) t1 }) O rfl ah ?_)
  dsimp only;have ap:grown m=20:=by rw[hm,af.2];rfl
  have al:sizeAbove 20=32:=by decide
  rw[ap,al,if_neg Yd]
  have av:t1.relaid (es1.map (·.1)) 20=laid 31 t1.finger (t1.movedTo 31) t1.led t1.plain (es1.map (·.1)):=by
   unfold relaid;rw[al]
  obtain⟨t2,W,el,as,aq,ao,eo,er,ew⟩:=laid_way (es1.map (·.1)) (by rw[Array.size_map];lia) t1.finger (t1.movedTo 31) t1.led t1.plain
  rw[Array.size_map]at ao eo;obtain⟨ad,B2⟩:=B1.again eo rfl aq ao er ew
  have ae:(W.filterMap (es1[·]?)).size=es1.size:=by
   have:=ad.length_eq;rw[qb,qb]at this;exact this
  rw[av,el];refine ii ?_;show na _ _ (if ((W.filterMap (es1[·]?)).size != es1.size)=true then _ else pure (W.filterMap (es1[·]?),t2)) _ _ _;rw[if_neg (by rw[ae];simp)]
  refine li ?_;generalize W.filterMap (es1[·]?)=aa at ad ae B2 ⊢;refine wpAny_storeSet_of (s:={ s with heap:=h1 }) (o:={ o with data:=.set es1 (ep+1) t1 }) O rfl ?_ (by rw[ae];exact pQ aj Yd)
  have ar:(h1.update S (Obj.putSet aa t2)).get? S=some { o with data:=.set aa (ep+1+1) t2 }:=by
   have:=Heap.get?_update_self (Obj.putSet aa t2) O (by rw[putSet_of (es:=es1) (ep:=ep+1) (t:=t1) _ _ rfl];rfl)
   rw[putSet_of (es:=es1) (ep:=ep+1) (t:=t1) _ _ rfl]at this;exact this
  have ai:Heap.SameBut S h1 (h1.update S (Obj.putSet aa t2)):=Heap.SameBut.update ..;exact li (h (h1.update S (Obj.putSet aa t2)) ⟨ai.1.trans ac.1,λb hb=>(ai.2 b hb).trans (ac.2 b hb)⟩ ⟨_,_,_,_,ar,an,Z,.inr as,B2.keep (J (es':=es1) (ep':=ep+1) (t':=t1) O rfl ai)⟩)
 ·have Y:t1.tooFull=false:=by simpa using hfull
  simp only[Y,Bool.and_false,Bool.false_eq_true,if_false];refine li (h h1 ac ⟨_,_,_,_,O,an,Z,?_,B1⟩)
  rcases am with z | z
  ·refine .inl ⟨z.1,?_⟩;unfold tooFull at Y;rw[ag,z.1]at Y;have aw:=of_decide_eq_false Y
   lia
  ·exact .inr z
def kAdd(ks:List K)(keys:List (List K)):List (List K):=if ks∈keys then keys else ks::keys
theorem add_m(hS:SetM knd G s.heap S keys)(hx:IsN knd s.heap ks x)(ai:G x)(hl:keys.length<=16)(hu:A.units<cLine)
 (h:∀b h',Heap.SameBut S s.heap h'->SetM knd G h' S (kAdd ks keys)->Q b { s with heap:=h' }):na (pi prog w) A (setAddHashed S (.ref x) (tupleKeyHash knd ks)) Q E s:=by
 obtain⟨o,es,ep,t,ho,ah,hd,ad,B⟩:=id hS;have hn:=B.len;have hm:t.mask=7\/t.mask=31:=ad.elim (λz=>.inl z.1) .inr;have hsz:es.size<=t.mask:=by rcases ad with z | z<;>lia
 have af:SetTable.fill t=es.size:=by unfold SetTable.fill;rw[B.dm,B.ps];rfl
 have Y:t.fits es.size=true:=by
  unfold fits;rw[af,B.ps];simp;exact hsz
 unfold setAddHashed setAddHashedIn;refine vj (ii (vq ho hd Y ?_));dsimp only;have ak:byScan (.ref x) es=false:=rfl;rw[ak];simp only[Bool.false_eq_true,if_false];obtain⟨k,ac,W⟩:=start_hit hm B.dm (by rw[B.ps];exact hsz) (tupleKeyHash knd ks)
 have ag:k<100000:=by
  unfold turns at ac
  rcases hm with z | z<;>rw[z]at ac<;>lia
 by_cases hin:ks∈keys
 ·obtain⟨i0,b0,ae,al⟩:=B.key ks hin;obtain⟨b,k',j0,q1,q2,q3,q4,q5,q6⟩:=B.ent i0 _ ae;obtain⟨m,m1,m2⟩:=q6
  have am:m<k:=by
   refine Nat.lt_of_not_le λan=>?_;unfold Hit at W
   rcases uz k m with z | z
   ·obtain⟨q,hq⟩:=m2 k z;rw[slot_live B.ris hq]at W;cases W
   ·have e:k=m:=by lia
    rw[e,m1,slot_live B.ris q5]at W;cases W
  refine ii (m:=setSearch S (.ref x) (tupleKeyHash knd ks) true) (search_old ho hd Y hm B.ris hx (λe he=>let ⟨b,k',q1,q2,_⟩:=B.nums e he;⟨b,k',q1,q2⟩) hu q5 ae al ?_ m 100000 none Yl Yl rfl m1 m2);dsimp only;refine li (h false s.heap (Heap.SameBut.refl ..) ?_);unfold kAdd;rw[if_pos hin];exact hS
 ·have aj:∀e∈es.toList,∃b k',e.2=Value.ref b/\IsN knd s.heap k' b/\k'≠ks:=λe he=>by
   obtain⟨b,k,q1,q2,q3⟩:=B.nums e he;exact⟨b,k,q1,q2,λz=>hin (z ▸ q3)⟩
  refine ii (m:=setSearch S (.ref x) (tupleKeyHash knd ks) true) (search_new ho hd Y hm B.dm hx aj hu (λj hj hw=>?_) k 100000 0 none ag ac rfl (λl hl=>absurd hl (uA _)) rfl W);dsimp only;refine ii (vq ho hd Y ?_);dsimp only;obtain⟨J,B1⟩:=B.more hx ai hj hw rfl rfl;generalize(t.put j).1=t1 at J B1 ⊢;generalize(t.put j).2=p at B1 ⊢;have O:(insertAt es p (tupleKeyHash knd ks,Value.ref x)).size=es.size+1:=insert_size _ _ _;have aa:=add_tail2 (knd:=knd) (G:=G) (A:=A) (E:=E) (Q:=Q) ho ah hd (es1:=insertAt es p (tupleKeyHash knd ks,Value.ref x)) (t1:=t1) (keys:=ks::keys) (by rw[J,O];rcases ad with z | z;exact .inl ⟨z.1,Yl⟩;exact .inr z) B1 (by rw[O];lia) (m:=es.size+1) (by rw[O]) (λh' sb hM=>h true h' sb (by unfold kAdd;rw[if_neg hin];exact hM))
  split
  ·refine ii (hashByValue_n hx ?_);simp only[if_true];exact aa
  ·refine ii (li ?_);simp only[if_true];exact aa
end
end St
end L2
namespace L2
open PySem PySem.Spec PyProof.Rows
namespace St
section
variable {prog:mo}{w:rc}{K:Type}[DecidableEq K]{knd:KeyKind prog w K}{G:ge->Prop}{A:sB}{R:Result->im->Prop}{I:ge}{fp wr:List ge}{GG:Array GenState->Array GenState->Prop}{n:Nat}{P:Nat->gl->Prop}{St:Nat->im->Prop}
theorem SetM.stay(x:SetM knd G h S keys)(k:∀b o,b=S\/G b->h.get? b=some o->h'.get? b=some o):SetM knd G h' S keys:=by
 obtain⟨o,es,ep,t,h1,h2,h3,h4,B⟩:=x;refine⟨o,es,ep,t,k _ _ (.inl rfl) h1,h2,h3,h4,B.dm,B.ps,B.len,B.ris,λi e he=>?_,λks hk=>?_⟩
 ·obtain⟨b,ks,j,W,J,q3,Y,q5⟩:=B.ent i e he;exact⟨b,ks,j,W,J.keep λo O=>k b o (.inr Y) O,q3,Y,q5⟩
 ·obtain⟨i,b,W,J⟩:=B.key ks hk;obtain⟨z,_,_,e,_,_,Y,_⟩:=B.ent i _ W;have eb:b=z:=Value.ref.inj (congrArg Prod.snd e);exact⟨i,b,W,J.keep λo O=>k b o (.inr (eb ▸ Y)) O⟩
def kD(key:Nat->List K):Nat->List (List K)
 | 0=>[]
 | i+1=>kAdd (key i) (kD key i)
theorem kD_length(key:Nat->List K):∀i,(kD key i).length<=i
 | 0=>qd _
 | i+1=>by
   have:=kD_length key i;show(kAdd _ _).length<=_;unfold kAdd
   split
   ·lia
   ·rw[qr];lia
theorem kD_mem{key:Nat->List K}{k:List K}:∀{i},k∈kD key i↔∃j,j<i/\key j=k
 | 0=>⟨(λh=>nomatch h),(fun⟨_,h,_⟩=>absurd h (uA _))⟩
 | i+1=>by
   show k∈kAdd (key i) (kD key i)↔_;unfold kAdd
   split
   ·next h =>
    rw[kD_mem (i:=i)];refine⟨fun⟨j,h1,h2⟩=>⟨j,Yl,h2⟩,fun⟨j,h1,h2⟩=>?_⟩
    rcases uz j i with z | z
    ·exact⟨j,z,h2⟩
    ·obtain rfl:j=i:=by lia
     rw[<- h2];exact kD_mem.mp h
   ·rw[pV,kD_mem (i:=i)];refine⟨λh=>?_,fun⟨j,h1,h2⟩=>?_⟩
    ·rcases h with z | ⟨j,h1,h2⟩
     ·exact⟨i,qA _,z.symm⟩
     ·exact⟨j,Yl,h2⟩
    ·rcases uz j i with z | z
     ·exact .inr ⟨j,z,h2⟩
     ·obtain rfl:j=i:=by lia
      exact .inl h2.symm
theorem kD_all{key:Nat->List K}:∀{n},(kD key n).length=n↔∀i j,i<n->j<n->key i=key j->i=j
 | 0=>⟨λ_ i _ h=>absurd h (uA _),λ_=>rfl⟩
 | n+1=>by
   have hl:=kD_length key n;have Y:=kD_all (key:=key) (n:=n);show(kAdd (key n) (kD key n)).length=n+1↔_;unfold kAdd
   split
   ·next h =>
    refine⟨λz=>by lia,λz=>?_⟩
    obtain⟨j,h1,h2⟩:=kD_mem.mp h;have:=z j n Yl (qA _) h2
    lia
   ·next h =>
    rw[qr];refine⟨λz i j hi O e=>?_,λz=>?_⟩
    ·have W:=Y.mp Yl
     rcases uz i n with a | a
     ·rcases uz j n with b | b
      ·exact W i j a b e
      ·obtain rfl:j=n:=by lia
       exact absurd (kD_mem.mpr ⟨i,a,e⟩) h
     ·obtain rfl:i=n:=by lia
      rcases uz j i with b | b
      ·exact absurd (kD_mem.mpr ⟨j,b,e.symm⟩) h
      ·lia
    ·have:=Y.mpr λi j hi O e=>z i j Yl Yl e
     lia
theorem loop_m(W:WalksS prog w A.in1 I fp wr GG n P St)(S:ge)(ah:S∉fp)(key:Nat->List K)(O:Nat->ge)(ai:∀i v,P i v->v=Value.ref (O i))(hG:∀i,i<n->G (O i))(af:∀b,G b->b∉wr/\b≠S)
 (hn:n<=17) (hu:A.units+1<cLine) (left i:Nat) (s:im) (hk:i+left=n) (ag:St i s) (hN:∀j,j<n->IsN knd s.heap (key j) (O j)) (hS:SetM knd G s.heap S (kD key i))
 (hR:∀s',Moved (S::wr) GG s s'->SetM knd G s'.heap S (kD key n)->R (.ok (.ret .none)) s'):vA (pi prog w) A (.builtin "set.update.loop" ⟨[.ref S,.ref I],[]⟩) R s:=by
 have ac:∀{a b:im},Moved wr GG a b->Moved (S::wr) GG a b:=λm=>m.mono λ_=>pU _;have J:∀{a b:im},Moved wr GG a b->∀c o,c=S\/G c->a.heap.get? c=some o->b.heap.get? c=some o:=λm c o hc=>m.heap c o (hc.elim (λz=>z ▸ mt (W.sub _) ah) λz=>(af c z).1)
 induction left generalizing i s with
 | zero =>
   obtain rfl:i=n:=by lia
   refine turn_of (show na (pi prog w) A.in1 (pyNext (Value.ref I) >>= _) _ _ s from ii (W.done s _ _ ag λs' m=>?_));exact li (hR s' (ac m) (hS.stay (J m)))
 | succ left ih =>
   have aa:i<n:=by lia
   refine turn_of (show na (pi prog w) A.in1 (pyNext (Value.ref I) >>= _) _ _ s from ii (W.item i s _ _ aa ag λv s' hP ae m=>?_));obtain rfl:=ai i v hP;have ad:∀j,j<n->IsN knd s'.heap (key j) (O j):=λj hj=>(hN j hj).keep λo e=>J m _ o (.inr (hG j hj)) e;have ak:SetM knd G s'.heap S (kD key i):=hS.stay (J m);refine ii (m:=holding [Value.ref (O i)] (setAdd S (Value.ref (O i)))) (vj ?_);unfold setAdd;refine vj (ii (wpAny_pyHash_tuple hu (ad i aa).key ?_));refine add_m (knd:=knd) (G:=G) (s:={ s' with toks:=s'.toks+((key i).length+1) }) ak (ad i aa) (hG i aa) (by have:=kD_length key i;lia) hu λbb h' sb am=>?_
   have Y:∀c o,c≠S->s'.heap.get? c=some o->h'.get? c=some o:=λc o hc e=>(sb.2 c hc).trans e;refine li ⟨plainId_quiet F.plain_set_update_loop _,ih (i+1) _ Yl (W.frame _ s' _ _ ae (u9 _ _) λb hb o e=>Y b o (λz=>ah (z ▸ hb)) e) (λj hj=>(ad j hj).keep λo e=>Y _ o (af _ (hG j hj)).2 e) am λaj m2 al=>?_⟩;exact hR aj (((ac m).then_heap (u9 _ _) λb o hb e=>Y b o (λz=>hb (z ▸ pT)) e).trans W.gtrans m2) al
end
section
variable {prog:mo}{w:rc}{K:Type}[DecidableEq K]{knd:KeyKind prog w K}{A:sB}{E:gl->im->Prop}{s:im}
theorem init_m(Y:Bool)(key:Nat->List K)(W:Nat->ge)(hh:A.handled=none)(hl:s.heap.IsList l items)(hv:∀(i:Nat) (v:gl),items[i]? = some v->v=Value.ref (W i))(hN:∀j,j<items.size->IsN knd s.heap (key j) (W j))
 (hb:items.size<=17) (hu:A.units+20<cLine)  
 (h:∀(h':rf) (tk:Nat),SetM knd (λb=>b<s.heap.objs.size) h' s.heap.objs.size (kD key items.size)->(∀b o,s.heap.get? b=some o->h'.get? b=some o)->Q (.done (.ret .none)) { s with heap:=h',toks:=tk }) :
 na (pi prog w) A (Builtin.«set.__init__» ⟨[.ref s.heap.objs.size,.ref l],[]⟩) Q E' { s with heap:=s.heap.push (nS Y) }:=by
 have lS:l<s.heap.objs.size:=by obtain⟨_,e,_⟩:=hl;exact Heap.lt_size e
 obtain⟨⟨_,od,_,ag⟩,el,hc,nl,hd⟩:=id hl;simp only at hc hd;subst hc hd;have ad:(s.heap.push (nS Y)).get? l=some { cls:=.type "list",dict:=od,data:=.seq items nl,slots:=ag }:=Heap.get?_push_of_some _ el;have eS:(s.heap.push (nS Y)).get? s.heap.objs.size=some (nS Y):=Heap.get?_push_size _ rfl;have aa:(s.heap.push (nS Y)).IsList l items:=⟨_,ad,Z,nl,Z⟩;have t1:=F.sub_list_set;have t2:=F.sub_list_frozenset;have t3:(Value.type "list" == Value.type "dict")=false:=by decide
 unfold Builtin.«set.__init__» noKeywords Builtin.Frozenset.updateFrom;generalize af:pyIter=PI;wp_walk;subst af;have zS:(s.heap.push (nS Y)).objs.size=s.heap.objs.size+1:=Heap.size_push ..;refine vF aa (ii (wpAny_runValue ?_));have up:∀b o,s.heap.get? b=some o->((s.heap.push (nS Y)).push (nI l)).get? b=some o:=λb o e=>Heap.get?_push_of_some _ (Heap.get?_push_of_some _ e);have lI:l≠(s.heap.push (nS Y)).objs.size:=by rw[zS];exact pJ (sS lS)
 have O:Bdy knd (λb=>b<s.heap.objs.size) ((s.heap.push (nS Y)).push (nI l)) (kD key 0) #[] (.fresh 0 0 Y):=⟨Z,Z,Z,List.Pairwise.nil,λi e he=>by simp at he,λk hk=>nomatch hk⟩
 refine loop_m (knd:=knd) (G:=λb=>b<s.heap.objs.size) ((Walks.list (A:=A.in1) hh _ l lI items).toS) s.heap.objs.size ?_ key W (λi v hP=>hv i v hP) (λi hi=>?_) (λb hb=>⟨?_,pJ hb⟩) hb Yl items.size 0 _ (tO _)
  ⟨⟨_,Heap.get?_push_size _ rfl,Z,Z⟩,aa.push _⟩ (λj hj=>(hN j hj).keep λo e=>up _ _ e) ⟨_,_,_,_,Heap.get?_push_of_some _ eS,⟨Z,Z,Z⟩,Z,.inl ⟨Z,qg _⟩,O⟩ ?_
 ·rw[zS];intro J
  rcases pV.mp J with z | z
  ·exact absurd z (pJ (qA _))
  ·exact absurd (sU.mp z) (qc lS)
 ·obtain⟨_,_,_,e,_⟩:=hN i hi;exact Heap.lt_size e
 ·rw[zS];intro J;exact absurd (sU.mp J) (pJ (sS hb))
 rintro⟨h',g',d',ac,ae⟩ m ah;obtain rfl:g'=s.gens:=m.gens;obtain rfl:d'=s.drawn:=m.drawn;obtain rfl:ae=s.os:=m.os;refine li (li (h h' ac ah λb o e=>?_));have lb:=Heap.lt_size e;refine m.heap b o (λJ=>?_) (up b o e);rw[zS]at J
 rcases pV.mp J with z | z
 ·exact absurd z (pJ lb)
 ·exact absurd (sU.mp z) (pJ (sS lb))
theorem call_setM(key:Nat->List K)(z:Nat->ge)(hh:A.handled=none)(hl:s.heap.IsList l items)(hv:∀(i:Nat) (v:gl),items[i]? = some v->v=Value.ref (z i))(hN:∀j,j<items.size->IsN knd s.heap (key j) (z j))
 (hb:items.size<=17) (hu:A.units+40<cLine)
 (h:∀(h':rf) (tk:Nat),SetM knd (λb=>b<s.heap.objs.size) h' s.heap.objs.size (kD key items.size)->(∀b o,s.heap.get? b=some o->h'.get? b=some o)->Q (.ref s.heap.objs.size) { s with heap:=h',toks:=tk }) :
 na (pi prog w) A (call (.type "set") [.ref l]) Q E s:=by
 obtain⟨_,_,ad⟩:=F.called_set.mro;have m1:=F.called_set.made;have m2:=F.called_set.sub;have m3:=F.called_set.notType;have m4:=F.called_set.canCreate;have m5:=F.typeCall_set_1 (.ref l);refine wpAny_call (codeAny_of_tree (show na _ _ (callAny (.type "set") _) _ _ _ from li ⟨Code.quiet_builtin _ Yk,codeAny_builtin F.entry_type_call ?_⟩));rw[Around.under_plain (weight_type_call_type "set" [.ref l] []) rfl]
 repeat any_goals first | assumption | wp_step
 refine vx (code_set_new_1 (.ref l) (E:=E) (Q₁:=λv O=>v = .ref s.heap.objs.size/\∃W,O={ s with heap:=s.heap.push (nS W) }) λW=>⟨rfl,W,rfl⟩) λr O hr=>?_
 rcases r with e | fl
 ·exact hr
 cases fl with
 | ret v =>
   obtain⟨e1,W,e2⟩:=hr;subst e1 e2;have hT:Shared.TypeIs { s with heap:=s.heap.push (nS W) } (.ref s.heap.objs.size) "set":=⟨_,Heap.get?_push_size _ rfl,rfl⟩
   have m6:=F.called_set.init.lookup;have m7:=F.called_set.init.bind (.ref s.heap.objs.size)
   repeat any_goals first | assumption | wp_step
   refine vx (codeAny_call_builtin (R:=wants (λr J=>r = .none/\Q (.ref s.heap.objs.size) J) E) F.called_set.init.plain F.entry_set_init (check_set_init_1 hT ?_)) λac J Y=>?_
   ·refine init_m (knd:=knd) W key z ?_ hl hv hN hb ?_ λh' tk hS hk=>?_
    ·simp[hh]
    ·simp only[Around.in1];lia
    ·exact⟨Z,h h' tk hS hk⟩
   ·rcases ac with e | aa
    ·exact Y
    cases aa with
    | ret _ =>
      obtain⟨e3,q⟩:=Y;subst e3
      repeat any_goals first | assumption | wp_step
    | _=>exact Y.elim
 | _=>exact hr.elim
end
end St
section
variable {X:Cx}
inductive XS(K:pP)(xs:yt)(H:Hp)(Q:VK):Prop
 | mk(l:ge)(ys:yt)(qs:yn)(_:xs=[.ref l])(_:SqL K H l ys)(_:Io H ys qs)(_:qs.length<=17)(_:∀p n,n<=qs.length->(n=qs.length↔qs.Nodup)->H p=none->Q (.ref p) (upd H p (Ze p n)))
theorem Xa(hc:X.calm=true)(hu:X.A.units+64<cLine):Kb X (.type "set") (XS X.K):=by
 intro pins s σ H xs us Q I r h;obtain⟨l,ys,qs,rfl,hq,hn,ag,q⟩:=h;obtain⟨u,rfl,rfl⟩:=Mm r;obtain⟨Y,rv,p,hz⟩:=I.list hq;have hl:=rv.length;have aj:=hn.length;have hsz:Y.toArray.size=qs.length:=by rw[qZ];lia
 let adr:Nat->ge:=λj=>match ys[j]? with | some (.ref r)=>r | _=>0
 have ac:∀j,j<qs.length->∃r,ys[j]? = some (.ref r)/\adr j=r/\H r=some (nT (qs.getD j 0)):=λj W=>by
  have g:qs[j]? = some (qs.getD j 0):=by rw[sO,sV W];rfl
  obtain⟨y,hy,r,rfl,hr⟩:=Paired.get' hn g;exact⟨r,hy,by show(match ys[j]? with | some (.ref r)=>r | _=>0)=r;rw[hy],hr⟩
 refine St.call_setM (knd:=J3 X.prog X.w) (λj=>kQ (qs.getD j 0)) adr (I.ok.hd hc) p.isList (λi v hv=>?_) (λj W=>?_) Yl Yl λh' tk hS hk=>?_
 ·have J:Y[i]? = some v:=by simpa using hv
  have hi:i<Y.length:=(pY.mp J).1;obtain⟨r,hy,hr,_⟩:=ac i Yl;obtain⟨u,aa,ru⟩:=rv.get hy;rw[J]at aa;cases aa;rw[hr];exact ru
 ·rw[hsz]at W;obtain⟨r,_,hr,hH⟩:=ac j W;rw[hr];exact iw I.hok hH
 ·have ad:(St.kD (λj=>kQ (qs.getD j 0)) Y.toArray.size).length=qs.length↔qs.Nodup:=by
   rw[hsz,St.kD_all];refine⟨λz=>?_,λz i j hi W e=>?_⟩
   ·refine uy.mpr λi j hi W ai e=>?_;have:=z i j hi W (by rw[sO,sO,sV hi,sV W,e])
    lia
   ·have e':=YE e;have g1:qs[i]? = some (qs.getD i 0):=by rw[sO,sV hi];rfl
    have g2:qs[j]? = some (qs.getD j 0):=by rw[sO,sV W];rfl
    exact(List.getElem?_inj hi z).mp (by rw[g1,g2,e'])
  have ae:=St.kD_length (λj=>kQ (qs.getD j 0)) Y.toArray.size;generalize ah:St.kD (λj=>kQ (qs.getD j 0)) Y.toArray.size=kk at hS ad ae;obtain⟨o,es,ep,t,h1,h2,h3,h4,B⟩:=hS;have h7:=B.len
  have O:SetTable.fits t es.size=true:=by
   unfold SetTable.fits SetTable.fill;rw[B.dm,B.ps]
   rcases h4 with z | z<;>simp<;>lia
  have af:Jb X.prog X.w (upd H s.heap.objs.size (Ze s.heap.objs.size kk.length)) h' s.heap.objs.size (Ze s.heap.objs.size kk.length):=by
   refine⟨⟨o,es,ep,t,h1,h2,h3,O,h7⟩,⟨o,h1⟩,λg1 g2 hg hk=>?_⟩;obtain⟨o,es,ep,t,k1,k2,k3,k4,k5⟩:=hg;exact⟨o,es,ep,t,hk o k1,k2,k3,k4,k5⟩
  exact⟨.ref s.heap.objs.size,_,I.laid (t':=tk) hk (qd _) af,Z,q _ _ Yl ad (I.hok.fresh (qd _))⟩
theorem jR(K:pP)(W:X.calm=true)(Y:X.A.units+64<cLine)(e:X.K=K:=by rfl):Kb X (.type "set") (XS K):=by subst e;exact Xa W Y
end
section
open PySem.W
variable {X:Cx}(K:pP)
inductive TyP(K:pP)(H:Hp):V->gl->Prop where
 | non:TyP K H .non (.type "NoneType")
 | bl (x:Bool):TyP K H (.bl x) (.type "bool")
 | int (i:Int):TyP K H (.int i) (.type "int")
 | str (x:Str):TyP K H (.str x) (.type "str")
 | lst {a:ge} {xs:yt} (e:SqL K H a xs):TyP K H (.ref a) (.type "list")
 | tup {a:ge} {xs:yt} (e:SqT K H a xs):TyP K H (.ref a) (.type "tuple")
 | dK {a:ge} {kvs:List (Key×V)} (e:H a=some (.dK kvs)):TyP K H (.ref a) (.type "dict")
 | dT {a:ge} {kvs:List (List Key×V)} (e:H a=some (.dT kvs)):TyP K H (.ref a) (.type "dict")
inductive Z6(xs:yt)(H:Hp)(Q:VK):Prop
 | mk(x:_)(t:_)(tp:_)(ys:_)(cs:_)(b:_)(_:xs=[x,.ref tp])(_:TyP K H x t)(_:H tp=some (.tup ys))(_:ys.map iC=cs.map some)(_:kitAny K t cs=some b)(_:Q (.bl b) H)
theorem fX(e:X.K=K:=by rfl):Kb X (.builtin "isinstance") (Z6 K):=by
 subst e;intro pins s σ H xs us Q I r h;obtain⟨x,t,tp,ys,cs,b,rfl,ty,ac,J,hk,q⟩:=h;obtain⟨u,w',rfl,W,ry⟩:=Xi r;cases ry;obtain⟨_,aa,rv,⟨cc,dd,dt,sl⟩,e1,e2,n,e3⟩:=I.hok tp _ ac;have e2:cc = .type "tuple":=e2;have e3:dt = .seq aa.toArray n:=e3;subst e2 e3;rw[RV rv J]at e1;have Y:∀tk,EP X pins σ Q (.bool b) { s with toks:=tk }:=λtk=>⟨.bl b,H,I.tok _,rfl,q⟩
 cases ty with
 | non=>cases (show u=Value.none from W);exact kia_tup kitx_none I.kIn True.intro e1 hk (λz=>nomatch z) Y
 | bl y=>cases (show u=Value.bool y from W);exact kia_tup kitx_bool I.kIn True.intro e1 hk (λz=>nomatch z) Y
 | int i=>obtain⟨t,q⟩:=(show ∃t,u=Value.int i t from W);cases q;exact kia_tup kitx_int I.kIn True.intro e1 hk (λz=>nomatch z) Y
 | str y=>obtain⟨t,q⟩:=(show ∃t,u=Value.str y t from W);cases q;exact kia_tup kitx_str I.kIn True.intro e1 hk (λz=>nomatch z) Y
 | @lst a xs hz =>
   cases (show u=Value.ref a from W);obtain⟨_,_,⟨o,_,O,o2,_⟩,_⟩:=I.list hz;exact kia_tup kitx_list I.kIn ⟨o,O,o2⟩ e1 hk (λz=>nomatch z) Y
 | @tup a xs hz =>
   cases (show u=Value.ref a from W);obtain⟨_,_,⟨o,O,o2,_⟩,_⟩:=I.tuple hz;exact kia_tup kitx_tuple I.kIn ⟨o,O,o2⟩ e1 hk (λz=>nomatch z) Y
 | @dK a kvs ea =>
   cases (show u=Value.ref a from W);obtain⟨_,_,vs,_,p⟩:=(show Jb X.prog X.w H s.heap a (.dK kvs) from I.hok a _ ea);obtain⟨o,es,ep,h1,h2,_⟩:=p;exact kia_tup kitx_dict I.kIn ⟨o,h1,h2.1⟩ e1 hk (λz=>nomatch z) Y
 | @dT a kvs ea =>
   cases (show u=Value.ref a from W);obtain⟨_,_,vs,_,p⟩:=(show Jb X.prog X.w H s.heap a (.dT kvs) from I.hok a _ ea);obtain⟨o,es,ep,h1,h2,_⟩:=p;exact kia_tup kitx_dict I.kIn ⟨o,h1,h2.1⟩ e1 hk (λz=>nomatch z) Y
end
end L2
namespace L2
open PySem PySem.Spec PyProof.Rows
section
variable {X:Cx}{e k:Expr}{te tk:TE}
end
def sg(x:Str):yq:=x.cps.toList
theorem Nd(h:sg x=sg y):x=y:=by
 obtain⟨a⟩:=x;obtain⟨b⟩:=y;exact congrArg Str.mk (Array.toList_inj.mp h)
theorem IB(x y:Str):sg (x++y)=sg x++sg y:=cps_toList_append x y
theorem Ik(x:Str):x.length=(sg x).length:=by
 show x.cps.size=x.cps.toList.length;simp
theorem Ji(s:String):sg (Str.ofString s)=s.toList.map Char.toNat:=signs_ofString s
def dg(n:Nat):yq:=(Nat.toDigits 10 n).map Char.toNat
theorem Ld(h:c∈dg n):48<=c/\c<=57:=by
 obtain⟨ch,Y,e⟩:=tR.mp h;rw[<- e];exact digit_range (Nat.isDigit_of_mem_toDigits Yd Yd Y)
theorem O2(n:Nat):dg n≠[]:=λh=>Nat.toDigits_ne_nil (List.map_eq_nil_iff.mp h)
theorem Me(hk:0<k)(h:n<10 ^ k):(dg n).length<=k:=by
 unfold dg;rw[qz];exact(Nat.length_toDigits_le_iff Yd hk).mpr h
def vl(l:yq)(a:Nat):Nat:=l.foldl (λa c=>a*10+(c-48)) a
theorem fC:∀(l:List Char) (a:Nat),vl (l.map Char.toNat) a=Nat.ofDigitChars 10 l a
 | [],a=>rfl
 | c::r,a=>by
   have e:vl ((c::r).map Char.toNat) a=vl (r.map Char.toNat) (a*10+(c.toNat-48)):=rfl;rw[e,fC r,Nat.ofDigitChars_cons,rJ]
   rfl
theorem Rn(n:Nat):vl (dg n) 0=n:=by
 unfold dg;rw[fC,Nat.ofDigitChars_ten_toDigits]
theorem fj(h:10<=n):dg n=dg (n / 10)++[(Nat.digitChar (n % 10)).toNat]:=by
 unfold dg;rw[Nat.toDigits_of_base_le Yd h,sD]
 rfl
theorem YY(h:n<10):dg n=[(Nat.digitChar n).toNat]:=by
 unfold dg;rw[Nat.toDigits_of_lt_base h]
 rfl
theorem O3:∀{n:Nat} {r:yq},dg n=48::r->n=0:=by
 intro n
 induction n using Nat.strongRecOn with
 | _ n ih =>
   intro r h;by_cases hn:n<10
   ·rw[YY hn]at h;have e:=(tj.inj h).1;have:∀m,m<10->(Nat.digitChar m).toNat=48->m=0:=by decide
    exact this n hn e
   ·rw[fj Yl]at h;cases hd:dg (n / 10) with
    | nil=>exact absurd hd (O2 _)
    | cons c t =>
      rw[hd]at h;have e:c=48:=(tj.inj h).1;subst e;have:=ih (n / 10) Yl hd
      lia
def txI(i:Int):Str:=Str.ofString (toString i)
theorem UO(n:Nat):sg (txI n)=dg n:=by
 unfold txI dg;rw[Ji];have e:toString ((n:Nat):Int)=Nat.repr n:=rfl;rw[e,Nat.toList_repr]
theorem gz{n:Nat}(h:0<n):sg (txI (-(n:Int)))=45::dg n:=by
 unfold txI dg;rw[Ji];obtain⟨m,rfl⟩:∃m,n=m+1:=⟨n-1,Yl⟩;have e:toString (-((m+1:Nat):Int)) = "-" ++ Nat.repr (m+1):=rfl;rw[e,String.toList_append,sD,Nat.toList_repr]
 rfl
theorem KQ(i:Int):(∃n:Nat,i=n/\sg (txI i)=dg n)\/(∃n:Nat,0<n/\i = -(n:Int)/\sg (txI i)=45::dg n):=by
 by_cases h:0<=i
 ·exact .inl ⟨i.toNat,Yl,by rw[<- UO];congr;lia⟩
 ·exact .inr ⟨(-i).toNat,Yl,Yl,by rw[<- gz Yl];congr;lia⟩
theorem LC(i:Int)(h:c≠45/\(c<48\/57<c)):c∉sg (txI i):=int_text_free' c h i
def tx(x:Rat):Str:=if x.den=1 then txI x.num else txI x.num++Str.ofString "/" ++ txI x.den
theorem fH:Str.ofString "/" = ⟨#[47]⟩:=by apply Nd;rw[Ji];rfl
theorem PU(h:c∉sg x):Txt.split x ⟨#[c]⟩=[x]:=by
 have Y:=split_len x c;have W:=StrLaws.join_split x ⟨#[c]⟩;rw[cnt_none c x.cps.toList h]at Y;cases e:Txt.split x ⟨#[c]⟩ with
 | nil=>rw[e]at Y;simp at Y
 | cons p r =>
   cases r with
   | nil=>rw[e,join_one]at W;rw[W]
   | cons q r=>rw[e]at Y;simp at Y;lia
theorem Uy:∀{a b p q:yq},c∉a->c∉p->a++c::b=p++c::q->a=p/\b=q
 | [],b,[],q,_,_,h=>⟨Z,(tj.inj h).2⟩
 | [],b,y::p,q,_,hp,h=>absurd (pV.mpr (.inl (tj.inj h).1)) hp
 | x::a,b,[],q,ha,_,h=>absurd (pV.mpr (.inl (tj.inj h).1.symm)) ha
 | x::a,b,y::p,q,ha,hp,h=>by
   have h1:=tj.inj h;obtain⟨e1,Y⟩:=Uy (λz=>ha (pU _ z)) (λz=>hp (pU _ z)) h1.2;rw[h1.1,e1];exact⟨Z,Y⟩
theorem Wy(O:c∉sg a)(hb:c∉sg b):Txt.split (a++⟨#[c]⟩++b) ⟨#[c]⟩=[a,b]:=by
 have Y:=split_len (a++⟨#[c]⟩++b) c;have J:=StrLaws.join_split (a++⟨#[c]⟩++b) ⟨#[c]⟩;have z:=StrLaws.split_free (a++⟨#[c]⟩++b) c
 have es:(a++⟨#[c]⟩++b).cps.toList=sg a++c::sg b:=by
  show sg (a++⟨#[c]⟩++b)=_;rw[IB,IB,rG]
  rfl
 rw[es,cnt_append,cnt_cons,cnt_none c _ O,cnt_none c _ hb,if_pos rfl]at Y;cases e:Txt.split (a++⟨#[c]⟩++b) ⟨#[c]⟩ with
 | nil=>rw[e]at Y;simp at Y
 | cons p r =>
   cases r with
   | nil=>rw[e]at Y;simp at Y
   | cons q r =>
     cases r with
     | nil =>
       rw[e,join_cons_cons,join_one]at J;rw[e]at z;have W:=congrArg sg J
       have e2:sg (p++⟨#[c]⟩++q)=sg p++c::sg q:=by
        rw[IB,IB,rG]
        rfl
       rw[e2,show sg (a++⟨#[c]⟩++b)=_ from es]at W;obtain⟨z1,z2⟩:=Uy (z p (by simp)) O W
       rw[Nd z1,Nd z2]
     | cons _ _=>rw[e]at Y;simp at Y;lia
theorem Tr(x:Rat):Txt.split (tx x) (Str.ofString "/")=if x.den=1 then [txI x.num] else [txI x.num,txI x.den]:=by
 unfold tx;rw[fH]
 split
 ·exact PU (LC _ Yd)
 ·exact Wy (LC _ Yd) (LC _ Yd)
section
variable {X:Cx}
inductive VG(x:V)(vs:yt)(H:Hp)(Q:VK):Prop
 | mk(y z:Str)(_:x = .str y)(_:vs=[.str z])(_:Q (.bl (Txt.startswith y z)) H)
theorem Ri:MtR X "str.startswith" VG:=by
 intro pins s σ H x vs v us Q I O W h;obtain⟨y,z,rfl,rfl,q⟩:=h;obtain⟨t,rfl⟩:=O;obtain⟨u,rfl,Y⟩:=W.one;obtain⟨t',rfl⟩:=Y;exact SC.startswith ⟨.bl _,H,I,Z,q⟩
theorem Ro:∀l:List (Str×Tok),Ip (l.map λp=>V.str p.1) (strValues l)
 | []=>.nil
 | p::r=>.cons ⟨p.2,Z⟩ (Ro r)
inductive XO(x:V)(vs:yt)(H:Hp)(Q:VK):Prop
 | mk(y z:Str)(_:x = .str y)(_:vs=[.str z])(_:(z.length == 0)=false)(_:y.length+2<=io)(_:∀p,H p=none->Q (.ref p) (upd H p (.lst ((Txt.split y z).map V.str))))
theorem La:MtR X "str.split" XO:=by
 intro pins s σ H x vs v us Q I rx rv h;obtain⟨y,z,rfl,rfl,O,hy,q⟩:=h;obtain⟨t,rfl⟩:=rx;obtain⟨u,rfl,ru⟩:=rv.one;obtain⟨t',rfl⟩:=ru
 have Y:∀(l:List (Str×Tok)) (k:Nat),l.map (·.1)=Txt.split y z->EP X pins σ Q (.ref s.heap.objs.size) { s with heap:=s.heap.push { cls:=.type "list",data:=.seq (strValues l).toArray },toks:=k }:=by
  intro l k e;have J:l.map (λp=>V.str p.1)=(Txt.split y z).map V.str:=by rw[<- e,tN];rfl
  have W:=Ro l;rw[J]at W
  have hb:((Txt.split y z).map V.str).length<=io:=by
   rw[qz];exact pQ (split_le y z) hy
  exact⟨.ref s.heap.objs.size,_,I.laid (t':=k) (o:=.lst ((Txt.split y z).map V.str)) (λb ob q=>Heap.get?_push_of_some _ q) (qd _) ⟨hb,_,0,W,Heap.get?_push_size _ rfl⟩,Z,q _ (I.hok.fresh (qd _))⟩
 cases h1:(decide (y.length<z.length)||decide (Builtin.Str.strKind y<Builtin.Str.strKind z))
 ·have hn:(Builtin.Str.partsBetween y (Builtin.Str.occurrences y z 0 y.length (y.length+1)) z.length).length<=io:=by
   have e1:=StrLaws.occ_length_le y z 0 y.length (y.length+1);rw[len_partsBetween];lia
  cases hf:(Builtin.Str.occurrences y z 0 y.length (y.length+1)).isEmpty
  ·refine vD F.slot_str_split (vP _ _ _) F.entry_str_split (F.args_str_split_2 _ _) (meets_str_split_sep y z t t' h1 O hf Yl hn) ?_;show wants (EP X pins σ Q) X.xe _ { s with toks:=_,heap:=s.heap.push { cls:=.type "list",data:=.seq (strsFrom s.toks (Builtin.Str.partsBetween y (Builtin.Str.occurrences y z 0 y.length (y.length+1)) z.length)).toArray } }
   rw[strsFrom_eq];exact Y (numbered s.toks _) _ ((numbered_texts _ _).trans ((if_neg (ne_true_of_eq_false h1)).trans (if_neg (ne_true_of_eq_false hf))).symm)
  ·exact vD F.slot_str_split (vP _ _ _) F.entry_str_split (F.args_str_split_2 _ _) (meets_str_split_not_found y z t t' h1 O hf)
    (Y [(y,t)] s.toks ((if_neg (ne_true_of_eq_false h1)).trans (if_pos hf)).symm)
 ·exact vD F.slot_str_split (vP _ _ _) F.entry_str_split (F.args_str_split_2 _ _) (meets_str_split_cannot_occur y z t t' h1)
   (Y [(y,t)] s.toks (if_pos h1).symm)
inductive ja(x:V)(lo:Option Int)(hi:Option Int)(H:Hp)(Q:VK):Prop
 | mk(y:Str)(c:Nat)(r:yq)(_:x = .str y)(_:lo=some 1)(_:hi=none)(_:sg y=c::r)(_:y.length<=io)(_:Q (.str ⟨r.toArray⟩) H)
theorem gy:SlR X ja:=by
 intro pins s σ H x v vl vu lo hi sl Q I z J pl pu h;obtain⟨y,c,r,rfl,rfl,rfl,e,hy,q⟩:=h;obtain⟨t,rfl⟩:=z;cases pl with
 | int i u =>
   cases pu;have e2:y.length=r.length+1:=by rw[Ik,e];rfl
   have e1:=StrLaws.sliced_plain y (a:=1) (b:=y.length) Yl (qd _);have W:Builtin.Str.strSliceIndices (some 1) none 1 y.length=Builtin.Str.strSliceIndices (some ((1:Nat):Int)) (some (y.length:Int)) 1 y.length:=StrLaws.sliceIdx_none_hi _ _
   have O:(Builtin.Str.strSliceIndices (some 1) none 1 y.length).length=r.length:=by
    rw[W,StrLaws.strSliceIndices_plain Yl (qd _),qz,ud];lia
   refine⟨"str",_,F.slot_str_getitem.lookup,vP s y t,?_⟩;refine wpAny_getItem_str_slice (l:=some (1,u)) (u:=none) (st:=none) J rfl ?_;unfold sliceMade slicePicked
   have e5:(((none:Option (Int×Tok)).map (·.1)).getD 1 == 1&&(Builtin.Str.strSliceIndices ((some ((1:Int),u)).map (·.1)) ((none:Option (Int×Tok)).map (·.1)) (((none:Option (Int×Tok)).map (·.1)).getD 1) y.length).length == y.length)=false:=by
    show(true&&(Builtin.Str.strSliceIndices (some 1) none 1 y.length).length == y.length)=false;rw[O,e2];simp
   rw[e5,if_neg Bool.false_ne_true]
   have e6:((Builtin.Str.strSliceIndices (some 1) none 1 y.length).filterMap (y.cps[·]?))=r:=by
    rw[W,e1];show((sg y).drop 1).take _=r;rw[e];show r.take (y.length-1)=r;exact tX Yl
   have Y:(Made.str ⟨((Builtin.Str.strSliceIndices (some 1) none 1 y.length).filterMap (y.cps[·]?)).toArray⟩).post (EP X pins σ Q) s:=by
    rw[e6];exact⟨by show r.toArray.size<=io;simp;lia,⟨.str ⟨r.toArray⟩,H,I.tok _,⟨_,Z⟩,q⟩⟩
   exact Y
def Its(x:Str):It:=⟨λi _=>i<(sg x).length,λi H v H'=>H'=H/\∃c,(sg x)[i]? = some c/\v = .str ⟨#[c]⟩,λi _=>(sg x).length<=i⟩
theorem Xm{P:mo}{w:rc}{K:pP}{tg:Expr}(it:ge)(x:Str)(t:Tok):Rl P w K tg (Its x) [it] it (λi h=>h.IsStrIter it "str_ascii_iterator" x t i) where
 mem:=by simp
 obj:=λi h st b Y=>by
  have e:b=it:=by simpa using Y
  subst e;obtain⟨o,e,c,d⟩:=st;exact⟨o,e,λv z=>by rw[d]at z;cases z⟩
 keep:=λi h h' st k=>let ⟨o,e,r⟩:=st;⟨o,k it (by simp) o e,r⟩
 item:=by
  intro X hP hw hK hc i pins s σ H E I J st hg;subst hP hw hK;obtain⟨f0,f1,f2,f3,f4,f5⟩:=J it (by simp)
  obtain⟨c,O⟩:∃c,(sg x)[i]? = some c:=⟨_,sV hg⟩;refine wpAny_pyNext_ascii_item st (c:=c) (by rw[<- O];simp[sg]) λh' W sb=>?_
  have I1:Inv X pins σ H { s with heap:=h',toks:=s.toks+1 }:=I.turned (λb o Y e=>(sb.2 b Y).trans e) f0 f1 f3 f4 f5
  obtain⟨o,e,c',d⟩:=id W;exact⟨_,Z,RQ (s:={ s with heap:=h',toks:=s.toks+1 }) e c' d Yd ⟨.str ⟨#[c]⟩,H,I1,⟨_,rfl⟩,⟨rfl,c,O,rfl⟩,W,λb Y=>(J b Y).1⟩⟩
 done:=by
  intro X hP hw hK hc i pins s σ H E I J st hg;subst hP hw hK;obtain⟨f0,f1,f2,f3,f4,f5⟩:=J it (by simp)
  have O:x.cps[i]? = none:=by
   have:(sg x).length<=i:=hg;simp[sg]at this;simp[this]
  exact wpAny_pyNext_ascii_end (I.ok.hd hc) st O λh' eb=>⟨Z,I.turned (t':=s.toks) (λb o Y e=>eb b o Y e) f0 f1 f3 f4 f5⟩
 self:=λ_ _ _ _ _ st h=>wpAny_pyIter_striter_ascii st h
inductive jn(tl:TE)(σ:St)(H:Hp)(R:It->Hp->Prop):Prop
 | mk(h:tl σ H λv H1=>∃x,v = .str x/\(∀c∈sg x,c<128)/\R (Its x) H1)
theorem fN(z:PE X l tl):PI X tg l (jn tl):=by
 intro pins s σ H R I h;obtain⟨h⟩:=h;refine thn (z pins s σ H _ I h) λv Y ⟨x,H1,W,r1,q1⟩=>?_;obtain⟨x,rfl,J,q⟩:=q1;obtain⟨t,rfl⟩:=r1
 refine wpAny_pyIter_ascii (by
  rw[uG];intro c O;exact decide_eq_true (J c (by simpa [sg] using O))) ?_
 refine⟨Y.heap.objs.size,[Y.heap.objs.size],_,_,H1,Z,W.kept (t':=Y.toks) λb o e=>Heap.get?_push_of_some _ e,Xm _ x t,⟨_,Heap.get?_push_size _ rfl,Z,Z⟩,λb hb=>?_,q⟩;have e:b=Y.heap.objs.size:=by simpa using hb
 subst e;exact W.fpOk (qd _) (W.hok.fresh (qd _))
end
theorem Uh(Y:Nat->yt->Hp->Prop)(h0:Y 0 [] H)(z:∀i zs H,i<=(sg x).length->Y i zs H->zs.length=i)(hz:(sg x).length<=io)
 (hs:∀i c zs H,(sg x)[i]? = some c->Y i zs H->te ((cS 1 js σ).set 0 (some (.str ⟨#[c]⟩))) H λy H4=>Y (i+1) (zs++[y]) H4) (J:∀zs H',Y (sg x).length zs H'->O zs H') :
 ∃(n':Nat) (W:Nat->yt->Hp->Prop),W 0 [] H/\LcW (Its x) n' 1 js σ (K1 0) QP te O W:=by
 refine⟨(sg x).length,Y,h0,⟨?_,?_,?_⟩⟩
 ·intro i zs H' hi p;have h2:=z i zs H' (pR hi) p;exact⟨hi,Yl⟩
 ·rintro i zs H' v H1 hi p ⟨rfl,c,hc,rfl⟩;exact hs i c zs _ hc p
 ·intro zs H' p;have h2:=z _ zs H' (qd _) p;exact⟨qd _,Yl,J zs H' p⟩
theorem hU:vZ (.type "str") "__int__" = pure none:=by rw[typeLookup_type,vI];kernel_rfl
theorem Ym:vZ (.type "str") "__index__" = pure none:=by rw[typeLookup_type,vI];kernel_rfl
theorem Yj:vZ (.type "str") "__trunc__" = pure none:=by rw[typeLookup_type,vI];kernel_rfl
theorem Md:∀{l:yq},(∀c∈l,p c=false)->l.dropWhile p=l
 | [],_=>rfl
 | c::r,h=>by rw[List.dropWhile_cons,h c (by simp)];rfl
theorem N3:∀{l:yq},(∀c∈l,p c=true)->l.takeWhile p=l
 | [],_=>rfl
 | c::r,h=>by rw[List.takeWhile_cons,h c (by simp),N3 λd hd=>h d (pU _ hd)];rfl
theorem OJ(hf:∀ds b c,48<=c->c<=57->f (ds,b) c=some (ds.push (c-48),true)) :
 ∀(l:yq) (ds:Array Nat) (b:Bool),(∀c∈l,48<=c/\c<=57)->l.foldlM f (ds,b)=some (ds++(l.map (· - 48)).toArray,b || !l.isEmpty)
 | [],ds,b,_=>by simp
 | c::r,ds,b,h=>by
   rw[List.foldlM_cons,hf ds b c (h c (by simp)).1 (h c (by simp)).2]
   show r.foldlM f (ds.push (c-48),true)=_;rw[OJ hf r _ _ λd hd=>h d (pU _ hd)];simp
theorem Um:∀(l:yq) (a:Nat),(l.map (· - 48)).foldl (λacc d=>acc*10+d) a=vl l a
 | [],_=>rfl
 | c::r,a=>Um r (a*10+(c-48))
theorem Wa(l:yq):(#[]++(l.map (· - 48)).toArray).foldl (λY d=>Y*10+d) 0=vl l 0:=by
 rw[<- Array.foldl_toList]
 simpa using Um l 0
open Lean in
local macro_rules
 | `(tactic| trivial)=>do
   let p:Name:=.num (.str (.str (.str (.str (.str .anonymous "_private") "PySem") "Builtin") "Int") "W0All") 0
   let n:=mkIdent (p ++ `PySem.Builtin.isBlank)
   `(tactic| unfold $n:ident)
open Lean in
local macro_rules
 | `(tactic| trivial)=>do
   let p:Name:=.num (.str (.str (.str (.str (.str .anonymous "_private") "PySem") "Builtin") "Int") "W0All") 0
   let n:=mkIdent (p ++ `PySem.Builtin.digitValue?)
   `(tactic| unfold $n:ident)
open Lean in
local macro_rules
 | `(tactic| trivial)=>do
   let p:Name:=.num (.str (.str (.str (.str (.str .anonymous "_private") "PySem") "Builtin") "Int") "W0All") 0
   let n:=mkIdent (p ++ `PySem.Builtin.numeralDigits?)
   `(tactic| unfold $n:ident)
open Lean in
local macro_rules
 | `(tactic| trivial)=>do
   let p:Name:=.num (.str (.str (.str (.str (.str .anonymous "_private") "PySem") "Builtin") "Int") "W0All") 0
   let n:=mkIdent (p ++ `PySem.Builtin.prefixBase?)
   `(tactic| unfold $n:ident)
open Lean in
local macro_rules
 | `(tactic| trivial)=>do
   let p:Name:=.num (.str (.str (.str (.str (.str .anonymous "_private") "PySem") "Builtin") "Int") "W0All") 0
   let n:=mkIdent (p ++ `PySem.Builtin.readNumeral)
   `(tactic| unfold $n:ident)
set_option maxHeartbeats 0 in
theorem Kf(x:Str)(u:Tok)(t l:yq)(n:Int)(hx:sg x=t)(ht:t=l/\n=vl l 0\/t=45::l/\n = -(vl l 0:Int))(af:l.length<=600)(hl:∀c∈l,48<=c/\c<=57)(hn:l≠[])(h0:∀r,l=48::r->r=[]) :
 Meets (Builtin.«int.__new__» ⟨[.type "int",.str x u],[]⟩) (Made.int n).spec :=
 Meets.of_wp λprog w A R s hs=>by
  have hr:∀c∈t,45<=c/\c<=57:=by
   intro c W
   rcases ht with ⟨rfl,_⟩ | ⟨rfl,_⟩
   ·have:=hl c W;lia
   ·rcases pV.mp W with z | z
    ·lia
    ·have:=hl c z;lia
  have ag:t.length<=601:=by
   rcases ht with ⟨rfl,_⟩ | ⟨rfl,_⟩
   ·lia
   ·simp;lia
  obtain⟨hp,g,d,tk,os⟩:=s;have f1:=F.conv_sub_int;have f2:=F.madeHere_int;have hT:(⟨hp,g,d,tk,os⟩:im).TypeIs (.str x u) "str":=rfl;have f3:=hU;have f4:=Ym;have f5:=Yj
  repeat (any_goals (first | assumption | wp_step))
  have e1:(if (x.cps.all λx=>decide (x<128))=true then x.cps.toList else Unicode.numberText x.cps.toList)=t:=by
   rw[if_pos]
   ·exact hx
   ·rw[uG];intro c W;have:=hr c (by rw[<- hx];simpa [sg] using W)
    exact decide_eq_true Yl
  have e2:t.takeWhile (λx=>x != 0)=t:=N3 λc W=>by have:=hr c W;simp;lia
  rw[e1,e2,if_pos Yl];refine ii (li ?_);dsimp only;have hB:∀c,45<=c->¬(c == 32||(decide (9<=c)&&decide (c<=13)))=true:=λc h=>by simp;lia
  obtain⟨c,r,rfl⟩:∃c r,l=c::r:=by
   cases l with
   | nil=>exact absurd rfl hn
   | cons c r=>exact⟨c,r,Z⟩
  have c1:=hl c (by simp)
  have ac:¬c=45:=by lia
  have ad:¬c=43:=by lia
  have O:∀p:Nat->Bool,(∀d∈c::r,p d=false)->((c::r).reverse.dropWhile p).reverse=c::r:=λp h=>by
   rw[Md λd hd=>h d (List.mem_reverse.mp hd),List.reverse_reverse]
  have ae:c=48->r=[]:=λe=>h0 r (by rw[e])
  by_cases z:c=48
  ·have y:=ae z;clear ae h0;subst y;subst z;clear ac ad
   split
   all_goals rename_i Y
   all_goals revert Y
   all_goals trivial
   all_goals rw[Md (l:=t) (λc W=>by trivial;exact Bool.eq_false_iff.mpr (hB c (hr c W).1))]
   all_goals rcases ht with ⟨rfl,rfl⟩ | ⟨rfl,rfl⟩
   all_goals dsimp only
   all_goals try simp only[tj.injEq,false_and,imp_self,implies_true,not_false_eq_true]
   all_goals trivial
   all_goals first | dsimp only | skip
   all_goals try simp only[tj.injEq,false_and,imp_self,implies_true,not_false_eq_true]
   all_goals try rw[if_neg (by simp:¬(10 == 0)=true)]
   all_goals try dsimp only
   all_goals rw[O _ (λd hd=>by trivial;exact Bool.eq_false_iff.mpr (hB d (by have:=hl d hd;lia)))]
   all_goals trivial
   all_goals rw[OJ (λds b e h1 h2=>by
    have J:¬(e == 95)=true:=by simp;lia
    dsimp only;rw[if_neg J]
    trivial
    rw[if_pos (by simp;lia)]
    dsimp only;rw[if_pos Yl]) _ _ _ hl]
   all_goals simp only[Option.bind_eq_bind,Option.bind_some,List.isEmpty_cons,Bool.not_false,Bool.false_or,if_true,reduceIte]
   all_goals rw[if_neg (by simp),if_neg (by first | (simp;done) | (have aa:=af;simp at aa ⊢;lia)),if_neg (by simp),Wa]
   all_goals try rw[if_neg Bool.false_ne_true]
   all_goals try rw[if_pos _root_.trivial]
   all_goals intro Y
   all_goals cases Y
   all_goals rw[if_pos (by simp)]
   all_goals repeat (first | assumption | wp_step)
   all_goals exact⟨_,Z,hs⟩
  ·split
   all_goals rename_i Y
   all_goals revert Y
   all_goals trivial
   all_goals rw[Md (l:=t) (λc W=>by trivial;exact Bool.eq_false_iff.mpr (hB c (hr c W).1))]
   all_goals rcases ht with ⟨rfl,rfl⟩ | ⟨rfl,rfl⟩
   all_goals dsimp only
   all_goals try simp only[ac,ad,tj.injEq,false_and,imp_self,implies_true,not_false_eq_true]
   all_goals trivial
   all_goals first | dsimp only | skip
   all_goals try simp only[z,tj.injEq,false_and,imp_self,implies_true,not_false_eq_true]
   all_goals try rw[if_neg (by simp:¬(10 == 0)=true)]
   all_goals try dsimp only
   all_goals rw[O _ (λd hd=>by trivial;exact Bool.eq_false_iff.mpr (hB d (by have:=hl d hd;lia)))]
   all_goals trivial
   all_goals rw[OJ (λds b e h1 h2=>by
    have J:¬(e == 95)=true:=by simp;lia
    dsimp only;rw[if_neg J]
    trivial
    rw[if_pos (by simp;lia)]
    dsimp only;rw[if_pos Yl]) _ _ _ hl]
   all_goals simp only[Option.bind_eq_bind,Option.bind_some,List.isEmpty_cons,Bool.not_false,Bool.false_or,if_true,reduceIte]
   all_goals rw[if_neg (by simp),if_neg (by first | (simp;done) | (have aa:=af;simp at aa ⊢;lia)),if_neg (by simp),Wa]
   all_goals try rw[if_neg Bool.false_ne_true]
   all_goals try rw[if_pos _root_.trivial]
   all_goals intro Y
   all_goals cases Y
   all_goals rw[if_pos (by simp)]
   all_goals repeat (first | assumption | wp_step)
   all_goals exact⟨_,Z,hs⟩
section
variable {X:Cx}
theorem T5(K:pP):qC K (.type "str") (.type "str")=some true:=by kernel_rfl
inductive g9(xs:yt)(H:Hp)(Q:VK):Prop
 | mk(y:Str)(_:xs=[.str y])(_:y.length<=io)(_:Q (.int (y.length:Nat)) H)
theorem ON:Kb X (.builtin "len") g9:=by
 intro pins s σ H xs us Q I r h;obtain⟨y,rfl,W,q⟩:=h;obtain⟨u,rfl,Y⟩:=Mm r;obtain⟨t,rfl⟩:=Y;have J:=OD;have O:io=16777216:=sK;exact len_str Yl ⟨.int _,H,I.tok _,⟨_,Z⟩,q⟩
inductive gc(xs:yt)(H:Hp)(Q:VK):Prop
 | mk(i:Int)(_:xs=[.str (txI i)])(_:i.natAbs<10 ^ 60)(_:Q (.int i) H)
theorem OO:Kb X (.type "int") gc:=by
 intro pins s σ H xs us Q I r h;obtain⟨i,rfl,hi,q⟩:=h;obtain⟨u,rfl,rx⟩:=Mm r;obtain⟨t,rfl⟩:=rx;have J:(Made.int i).post (λW Y=>Y.TypeIs W "int" /\ EP X pins σ Q W Y) s:=⟨Z,⟨.int i,H,I.tok _,⟨_,Z⟩,q⟩⟩
 rcases KQ i with ⟨n,e,hs⟩ | ⟨n,hp,e,hs⟩
 ·exact call_int_1 (Kf (txI i) t (dg n) (dg n) i hs (.inl ⟨Z,by rw[Rn];exact e⟩) (pQ (Me (k:=60) Yd Yl) Yd) (λc hc=>Ld hc) (O2 n) (λr O=>by
   have z:=O3 O;subst z;exact(tj.inj O).2.symm)) J
 ·exact call_int_1 (Kf (txI i) t (45::dg n) (dg n) i hs (.inr ⟨Z,by rw[Rn];exact e⟩) (pQ (Me (k:=60) Yd Yl) Yd) (λc hc=>Ld hc) (O2 n) (λr O=>by
   have z:=O3 O;subst z;exact(tj.inj O).2.symm)) J
end
theorem fu(hw:sg sep=c::w)(h:StrLaws.At x sep x.length k):(sg x)[k]? = some c:=by
 obtain⟨h1,h2⟩:=h;rw[StrLaws.subAt_eq]at h2;have W:((sg x).drop k).take sep.length=sg sep:=by simpa [sg] using h2
 have Y:(((sg x).drop k).take sep.length)[0]? = some c:=by rw[W,hw];rfl
 have O:0<sep.length:=by rw[Ik,hw];simp
 rw[qS O,sQ]at Y
 simpa using Y
theorem jB(h:(sg x).drop k=sg sep++r)(hk:k<=(sg x).length):StrLaws.At x sep x.length k:=by
 have Y:=congrArg qM h;rw[rq,qV]at Y;refine⟨by rw[Ik x,Ik sep];lia,?_⟩
 rw[StrLaws.subAt_eq,Ik];show(((sg x).drop k).take (sg sep).length == sg sep)=true;rw[h,List.take_left']
 ·simp
 ·rfl
theorem Xx(h:(sg x).drop a=sg t++r)(Y:b=a+(sg t).length):Builtin.Str.strSub x a b=t:=by
 apply Nd;show(Builtin.Str.strSub x a b).cps.toList=sg t;rw[StrLaws.strSub_toList];show((sg x).drop a).take (b-a)=sg t;rw[h,List.take_left']
 lia
theorem TU(hw:sg sep=c::w):∀(ts:yr) (t:Str) (a:Nat) (Y:yq) (f:Nat),(sg x).drop a=sg (Str.join sep (t::ts))->a<=(sg x).length->(∀u∈t::ts,c∉sg u) ->
 StrLaws.ChainG x sep x.length a Y f->(∀k,f<=k->¬StrLaws.At x sep x.length k)->StrLaws.partsFrom x sep.length a Y=t::ts
 | ts,t,a,Y,f,h,ha,hf,hc,hn=>by
   have hlen:=congrArg qM h;rw[rq]at hlen
   -- no cut within the first text
   have W:∀(r:yq),(sg x).drop a=sg t++r->∀k,a<=k->k<a+(sg t).length->¬StrLaws.At x sep x.length k:=by
    intro r hr k h1 h2 O;have e:=fu hw O;have e2:((sg x).drop a)[k-a]? = some c:=by rw[sQ,show a+(k-a)=k by lia];exact e
    rw[hr,qQ Yl]at e2;exact hf t (by simp) (qU e2)
   cases ts with
   | nil =>
     rw[join_one]at h hlen;have h':(sg x).drop a=sg t++[]:=by rw[h,qG]
     cases Y with
     | nil =>
       show[Builtin.Str.strSub x a x.length]=[t];rw[Xx h' (by rw[Ik];lia)]
     | cons d r =>
       obtain⟨h1,h2,h3,h4⟩:=hc;have:=h2.1;rw[Ik x,Ik sep,hw,qr]at this;exact absurd h2 (W [] h' d h1 Yl)
   | cons u ts =>
     rw[join_cons_cons,IB,IB,rG]at h
     have hd:(sg x).drop (a+(sg t).length)=sg sep++sg (Str.join sep (u::ts)):=by
      rw[<- List.drop_drop,h,List.drop_left']
      rfl
     rw[join_cons_cons,IB,IB,qV,qV]at hlen;have O:StrLaws.At x sep x.length (a+(sg t).length):=jB hd Yl;cases Y with
     | nil =>
       have e:f=a:=hc;exact absurd O (hn _ Yl)
     | cons d r =>
       obtain⟨h1,h2,h3,h4⟩:=hc
       have J:d=a+(sg t).length:=by
        rcases uB d (a+(sg t).length) with z | z | z
        ·exact absurd h2 (W _ h d h1 z)
        ·exact z
        ·exact absurd O (h3 _ Yl z)
       show Builtin.Str.strSub x a d::StrLaws.partsFrom x sep.length (d+sep.length) r=t::u::ts;rw[Xx h J];refine congrArg (t :: ·) (TU hw ts u (d+sep.length) r f ?_ ?_ (λv hv=>hf v (pU _ hv)) h4 hn)
       ·rw[J,Ik sep,<- List.drop_drop,hd,List.drop_left']
        rfl
       ·rw[J,Ik sep];lia
theorem YD(x:Str):1<=Builtin.Str.strKind x:=by
 unfold Builtin.Str.strKind
 split
 ·decide
 ·split<;>decide
theorem KW(hw:sg sep=c::w)(hk:Builtin.Str.strKind sep=1)(t:Str)(ts:yr)(J:∀u∈t::ts,c∉sg u):Txt.split (Str.join sep (t::ts)) sep=t::ts:=by
 have Y:1<=sep.length:=by rw[Ik,hw];simp
 obtain⟨f,z,W⟩:=StrLaws.occ_tight (Str.join sep (t::ts)) sep Y;have key:=TU (x:=Str.join sep (t::ts)) hw ts t 0 _ f (by rw[tV]) (qg _) J z W
 unfold Txt.split
 split
 ·rename_i h1
  rw[Bool.or_eq_true,decide_eq_true_eq,decide_eq_true_eq]at h1
  rcases h1 with h1 | h1
  ·cases ts with
   | nil=>rw[join_one]
   | cons u ts =>
     rw[join_cons_cons,Ik,IB,IB,qV,qV,<- Ik sep]at h1
     lia
  ·rw[hk]at h1;have:=YD (Str.join sep (t::ts))
   lia
 ·split
  ·rename_i O
   rw[List.isEmpty_iff.mp O]at key;have k2:[Builtin.Str.strSub (Str.join sep (t::ts)) 0 (Str.join sep (t::ts)).length]=t::ts:=key;rw[StrLaws.sub_whole]at k2;exact k2
  ·rw[StrLaws.partsBetween_eq];exact key
theorem Vz:∀{ts:yr} {us:List gl},Ip (ts.map V.str) us->∃l:List (Str×Tok),us=strValues l/\l.map (·.1)=ts
 | [],_,.nil=>⟨[],Z,Z⟩
 | x::ts,_,.cons ⟨t,e⟩ r=>by
   obtain⟨l,rfl,e2⟩:=Vz r;subst e;exact⟨(x,t)::l,Z,by rw[qw,e2]⟩
theorem UI:∀{l:yq},(∀x∈l,x<=b)->l.sum<=l.length*b
 | [],_=>by simp
 | x::r,h=>by
   have h1:=h x (by simp)
   have h2:=UI λy Y=>h y (pU _ Y);rw[List.sum_cons,qr,Nat.succ_mul]
   lia
theorem Kk(Y:sep.length<=2)(h:∀t∈ts,t.length<=1000)(z:ts.length<=100):JoinOk sep ts=true:=by
 unfold JoinOk;rw[StrLaws.joinTotal]
 have h1:(ts.map (·.length)).sum<=ts.length*1000:=by
  have:=UI (b:=1000) (l:=ts.map (·.length)) (λx O=>by
   obtain⟨t,W,rfl⟩:=tR.mp O;exact h t W)
  rwa [qz]at this
 have h2:ts.length*sep.length<=ts.length*2:=uH _ Y;have J:=sK;unfold Builtin.Str.tooLong;rw[decide_eq_false Yl]
 rfl
theorem MK(O:sep.length<=2):∀{ts:yr},(∀t∈ts,t.length<=b)->(Str.join sep ts).length<=ts.length*(b+2):=by
 intro ts h;have J:=StrLaws.join_length_le sep ts
 have h1:(ts.map (·.length)).sum<=ts.length*b:=by
  have:=UI (b:=b) (l:=ts.map (·.length)) (λx W=>by
   obtain⟨t,Y,rfl⟩:=tR.mp W;exact h t Y)
  rwa [qz]at this
 have h2:ts.length*sep.length<=ts.length*2:=uH _ O;rw[tH]
 lia
theorem RO(hs:c∉sg sep):∀{ts:yr},(∀t∈ts,c∉sg t)->c∉sg (Str.join sep ts)
 | [],_=>by intro h;cases h
 | [x],h=>by rw[join_one];exact h x (by simp)
 | x::y::r,h=>by
   rw[join_cons_cons,IB,IB];intro hm
   rcases pW.mp hm with hm | hm
   ·rcases pW.mp hm with hm | hm
    ·exact h x (by simp) hm
    ·exact hs hm
   ·exact RO hs (ts:=y::r) (λt ht=>h t (pU _ ht)) hm
theorem MN(x:Rat)(h:c≠45/\c≠47/\(c<48\/57<c)):c∉sg (tx x):=by
 unfold tx
 split
 ·exact LC _ ⟨h.1,h.2.2⟩
 ·rw[IB,IB,fH];intro Y
  rcases pW.mp Y with Y | Y
  ·rcases pW.mp Y with Y | Y
   ·exact LC _ ⟨h.1,h.2.2⟩ Y
   ·exact h.2.1 (sU.mp Y)
  ·exact LC _ ⟨h.1,h.2.2⟩ Y
section
variable {X:Cx}
inductive fK(K:pP)(x:V)(vs:yt)(H:Hp)(Q:VK):Prop
 | mk(sep:Str)(l:ge)(ts:yr)(_:x = .str sep)(_:vs=[.ref l])(_:SqL K H l (ts.map V.str))(_:JoinOk sep ts=true)(_:Q (.str (Str.join sep ts)) H)
theorem M9(K:pP)(e:X.K=K:=by rfl):MtR X "str.join" (fK K):=by
 subst e;intro pins s σ H x vs v us Q I W Y h;obtain⟨sep,l,ts,rfl,rfl,J,z,q⟩:=h;obtain⟨t,rfl⟩:=W;obtain⟨u,rfl,ru⟩:=Y.one;cases ru;obtain⟨aa,r,pl,hz⟩:=I.list J;obtain⟨ls,rfl,O⟩:=Vz r;refine SC.join pl.isList O z λt' k=>?_;rw[show Txt.join sep ts=Str.join sep ts from StrLaws.glued_eq_join sep ts];exact⟨.str (Str.join sep ts),H,I.tok _,⟨_,Z⟩,q⟩
end
theorem KA.lookN(W:X.env.scope=sc)(h:PF NX (j8 Y sc) N nt js scope=true) :
 KA (Jz X NX Y cl C s H fp) N nt js scope:=KA.look (NX:=NX) (sc:=j8 Y sc) rfl (by rw[<- W];rfl) h
inductive KDk(P:mo)(w:rc)(K:pP)(a:ge)(kvs:List (Key×V)):Prop
 | mk(o:Obj)(es:Array DictEntry)(ep:Nat)(vs:List (Key×gl))(hk:K.lookup a=some o)(hx:o.ExactDict)(hd:o.data = .dict es ep)(ks:KeysOf (J3 P w) es)(ps:Pairs (J3 P w) es.toList vs)(nd:(vs.map (·.1)).Nodup)(rel:KV kvs vs)(hs:(a == vg)=false)
section
variable {X:Cx}{pins:List (ge×Obj)}{σ:St}{H:Hp}{s:im}{a:ge}{y v:V}{u r:gl}{A:sB}{E:gl->im->Prop}{kvs:List (Key×V)}{k:Key}
theorem KDk.of(d:KDk X.prog X.w X.K a kvs)(I:Inv X pins σ H s):(a == vg)=false/\∃vs,KV kvs vs/\s.heap.DictOf (J3 X.prog X.w) a vs:=by
 obtain⟨o,es,ep,vs,hk,W,hd,ks,ps,J,Y,O⟩:=d;exact⟨O,vs,Y,o,es,ep,I.kIn a o hk,W,hd,ks,ps,J⟩
theorem Vq(I:Inv X pins σ H s)(d:KDk X.prog X.w X.K a kvs)(l:JJ kvs k=some v)(J:Iw (kV k) u)(h:∀Y s',Inv X pins σ H s'->Iw v Y->Q Y s') :
 na (pi X.prog X.w) A (vL (.ref a) u) Q E s:=by
 obtain⟨hd,vs,W,dd⟩:=d.of I;obtain⟨Y,hw,O⟩:=Mh.some_of (v:=v) (o:=valueAt vs k) (by rw[<- l];exact W.val k)
 exact wpAny_getItem_of (QH J) dd.mapOf hw (h Y _ (I.tok _) O)
theorem jy(I:Inv X pins σ H s)(d:KDk X.prog X.w X.K a kvs)(W:Iw (kV k) u)(h:∀s',Inv X pins σ H s'->Q (.bool (JJ kvs k).isSome) s') :
 na (pi X.prog X.w) A (ul .In u (.ref a)) Q E s:=by
 obtain⟨hd,vs,Y,dd⟩:=d.of I;refine wpAny_in_of (QH W) hd dd.mapOf ?_;rw[<- (Y.val k).isSome_eq];exact h _ (I.tok _)
theorem YW(I:Inv X pins σ H s)(d:KDk X.prog X.w X.K a kvs)(W:Iw (kV k) u)(h:∀s',Inv X pins σ H s'->Q (.bool (!(JJ kvs k).isSome)) s') :
 na (pi X.prog X.w) A (ul .NotIn u (.ref a)) Q E s:=by
 obtain⟨hd,vs,Y,dd⟩:=d.of I;refine wpAny_notIn_of (QH W) hd dd.mapOf ?_;rw[<- (Y.val k).isSome_eq];exact h _ (I.tok _)
end
section
variable {X:Cx}{pins:List (ge×Obj)}{σ:St}{H:Hp}{s:im}{a:ge}{v d:V}{u r:gl}{A:sB}{E:gl->im->Prop}{kvs:List (Key×V)}{k:Key}
theorem fi(I:Inv X pins σ H s)(g:KDk X.prog X.w X.K a kvs)(J:Iw (kV k) u)(O:Iw d r)(h:∀W s',Inv X pins σ H s'->Iw ((JJ kvs k).getD d) W->Q W s') :
 na (pi X.prog X.w) A (call (.builtin "dict.get") [.ref a,u,r]) Q E s:=by
 obtain⟨hd,vs,Y,dd⟩:=g.of I;exact call_meetsIn PySem.F.slot_dict_get dd.typeIs PySem.F.entry_dict_get (PySem.F.args_dict_get_3 _ _ _) (meets_dict_get_default (J3 X.prog X.w) a (QH J) hd r) ⟨_,dd.mapOf,h _ _ (I.tok _) ((Y.val k).getD O)⟩
end
inductive Xu(P:mo)(w:rc)(K:pP)(td ty:TE)(σ:St)(H:Hp)(Q:VK):Prop
 | mk(h:td σ H λx H1=>ty σ H1 λy H2=>∃a kvs k v,x = .ref a/\KDk P w K a kvs/\y=kV k/\JJ kvs k=some v/\Q v H2)
inductive fG(P:mo)(w:rc)(K:pP)(ty td:TE)(σ:St)(H:Hp)(Q:VK):Prop
 | mk(h:ty σ H λy H1=>td σ H1 λx H2=>∃a kvs k,x = .ref a/\KDk P w K a kvs/\y=kV k/\Q (.bl (JJ kvs k).isSome) H2)
inductive Ts(P:mo)(w:rc)(K:pP)(ty td:TE)(σ:St)(H:Hp)(Q:VK):Prop
 | mk(h:ty σ H λy H1=>td σ H1 λx H2=>∃a kvs k,x = .ref a/\KDk P w K a kvs/\y=kV k/\Q (.bl (!(JJ kvs k).isSome)) H2)
inductive Vx(P:mo)(w:rc)(K:pP)(td ty tx:TE)(σ:St)(H:Hp)(Q:VK):Prop
 | mk(h:td σ H λx H1=>∃a kvs,x = .ref a/\KDk P w K a kvs/\ty σ H1 λy H2=>tx σ H2 λz H3=>∃k,y=kV k/\Q ((JJ kvs k).getD z) H3)
inductive Xv(CX:CXT)(P:mo)(w:rc)(K:pP)(mg:Str->Option gl)(base:rf)(n:Nat)(E:XK)(tv:TE)(t:TA)(σ:St)(H:Hp)(Q:VK):Prop
 | mk(h:tv σ H λx H1=>∃f fd,x = .ref f/\qy K (.ref f)=true/\t σ H1 λvs H2=>∃ps sp,HV P w K mg base CX n f fd ps sp/\Js K fd ps []/\sp vs H2 Q E)
section
variable {X:Cx}{CX:CXT}{n:Nat}{E:XK}{p pos apos cpos:Pos}{e f o i:Expr}{es:List Expr}{td ty tx tv:TE}{t:TA}
theorem NN(P:mo)(w:rc)(K:pP)(ho:PE X o td)(hi:PE X i ty)(hs:iM i)(eP:X.prog=P:=by rfl)(eW:X.w=w:=by rfl)(J:X.K=K:=by rfl):PE X (.Subscript o i pos) (Xu P w K td ty):=by
 subst eP eW J;rintro pins s σ H Q I ⟨h⟩;refine Vy PySem.F.slot_dict_getitem.lookup hs (thn (ho pins s σ H _ I h) λu z ⟨x,H1,I1,rx,q1⟩=>thn (hi pins z σ H1 _ I1 q1) λiv s2 ⟨y,H2,W,O,a,kvs,k,v,ex,g,ey,l,q2⟩=>?_);subst ex ey;obtain rfl:u=Value.ref a:=rx;obtain⟨_,_,_,dd⟩:=g.of W;exact⟨dd.typeIs,Vq W g l O λw' s3 I3 Y=>⟨v,H2,I3,Y,q2⟩⟩
theorem VT(P:mo)(w:rc)(K:pP)(hi:PE X i ty)(ho:PE X o td)(J:X.prog=P:=by rfl)(eW:X.w=w:=by rfl)(Y:X.K=K:=by rfl):PC X .In i o (fG P w K ty td):=by
 subst J eW Y;rintro pins s σ H Q I ⟨h⟩;refine thn (hi pins s σ H _ I h) λiv W ⟨y,H1,O,ry,q1⟩=>thn (ho pins W σ H1 _ O q1) λu s2 ⟨x,H2,I2,z,a,kvs,k,ex,g,ey,q2⟩=>?_;subst ex ey;obtain rfl:u=Value.ref a:=z;exact jy I2 g ry λs3 I3=>⟨.bl _,H2,I3,Z,q2⟩
theorem UZ(P:mo)(w:rc)(K:pP)(hi:PE X i ty)(ho:PE X o td)(J:X.prog=P:=by rfl)(eW:X.w=w:=by rfl)(Y:X.K=K:=by rfl):PC X .NotIn i o (Ts P w K ty td):=by
 subst J eW Y;rintro pins s σ H Q I ⟨h⟩;refine thn (hi pins s σ H _ I h) λiv W ⟨y,H1,O,ry,q1⟩=>thn (ho pins W σ H1 _ O q1) λu s2 ⟨x,H2,I2,z,a,kvs,k,ex,g,ey,q2⟩=>?_;subst ex ey;obtain rfl:u=Value.ref a:=z;exact YW I2 g ry λs3 I3=>⟨.bl _,H2,I3,Z,q2⟩
theorem WG(P:mo)(w:rc)(K:pP)(ho:PE X o td)(he:PE X e ty)(hf:PE X f tx)(m:M2 X o "get" apos e f cpos)(eP:X.prog=P:=by rfl)(eW:X.w=w:=by rfl)(eK:X.K=K:=by rfl):PE X (.Call (.Attribute o "get" apos) [e,f] [] cpos) (Vx P w K td ty tx):=by
 subst eP eW eK;rintro pins s σ H Q I ⟨h⟩;refine wpAny_Call_method m.base m.few m.line PySem.F.plainAttrs_dict PySem.F.slot_dict_get PySem.F.type_dict_get (thn (ho pins s σ H _ I h) λu s1 ⟨x,H1,O,rx,a,kvs,ex,g,q1⟩=>?_);subst ex;obtain rfl:u=Value.ref a:=rx;obtain⟨_,_,_,dd⟩:=g.of O;refine⟨dd.typeIs,λb eb=>?_,?_⟩
 ·cases eb;obtain⟨o,_,_,W,J,_⟩:=dd;exact⟨o,W,J.2.1⟩
 rw[m.trees]
 refine Calls.callWith_builtin rfl (Calls.evalArgs_plain (Calls.spliced_cons (thn (he pins s1 σ H1 _ O q1) λiv s2 ⟨y,H2,I2,ry,q2⟩ =>
  Calls.spliced_cons (thn (hf pins s2 σ H2 _ I2 q2) λfv s3 ⟨z,H3,I3,rz,k,ey,q3⟩=>Calls.spliced_nil ?_))))
 subst ey;exact fi I3 g ry rz λw' s4 I4 Y=>⟨_,H3,I4,Y,q3⟩
theorem Qm(P:mo)(w:rc)(K:pP)(mg:Str->Option gl)(base:rf)(hr:Jw n X.A)(z:Lf CX X E)(hv:PE X (.Subscript o i p) tv)(ha:PA X (e::es) t)(he:lm (e::es) X.env=(false,tz e X.env)::lm es X.env:=by rfl)(Y:(ut pos (lm es X.env)).any (·.1)=false:=by rfl)(eP:X.prog=P:=by rfl)(eW:X.w=w:=by rfl)(eK:X.K=K:=by rfl)(eM:X.mg=mg:=by rfl)(J:X.base=base:=by rfl) :
 PE X (.Call (.Subscript o i p) (e::es) [] pos) (Xv CX P w K mg base n E tv t):=by
 subst eP eW eK eM J;rintro pins s σ H Q I ⟨h⟩;show na _ _ (do let f <- tz (Expr.Subscript o i p) X.env;callWith pos f [] (ut pos (lm (e::es) X.env)) (vM pos (vw [] X.env))) _ _ _
 refine ii (thn (hv pins s σ H _ I h) λu s0 ⟨x,H0,O,r0,f,fd,ex,hk,q⟩=>?_);subst ex;obtain rfl:u=Value.ref f:=r0;refine qH (h₀:=X.base) O.ok.mod.kin hk (thn (ha pos pins s0 σ H0 _ O q) λus s1 ⟨vs,H1,W,r,ps,sp,F,hb,q1⟩=>⟨W.kIn,?_⟩) he Y;exact UT F hr hb .nil z W r (by rw[qG];exact q1)
end
structure FdM(CX:CXT)(P:mo)(w:rc)(K:pP)(mg:Str->Option gl)(base:rf)(n:Nat)(C:ge)(m:Str)(ps:yr)(sp:Sp):Prop where
 ex:∃(f:ge) (fd:jp),HV P w K mg base CX n f fd ps sp/\Js K fd ps []/\iN K C m f
structure FdI(CX:CXT)(P:mo)(w:rc)(K:pP)(mg:Str->Option gl)(base:rf)(n:Nat)(C:ge)(x:Str)(ps:yr)(sp:Sp):Prop where
 ex:∃(f:ge) (fd:jp),HV P w K mg base CX n f fd ps sp/\Js K fd ps []/\Mk K C f/\mg x=some (.ref C)
section
variable {X:Cx}{CX:CXT}{n k:Nat}{C:ge}{ps:yr}{sp:Sp}{E:XK}{x m:Str}{p pos apos:Pos}{e o:Expr}{es:List Expr}{ta:TE}{t:TA}
theorem JP(z:PE X o ta)(c:Cls X.K C)(F:FdM CX X.prog X.w X.K X.mg X.base n C m ps sp)(hr:Jw k X.A)(hx:Lf CX X E)(J:PA X (e::es) t)(O:n<=k:=by decide)
 (Y:lm (e::es) X.env=(false,tz e X.env)::lm es X.env:=by rfl) (W:(ut pos (lm es X.env)).any (·.1)=false:=by rfl)
 (ht:tz (.Call (.Attribute o m apos) (e::es) [] pos) X.env=(do
  let ov <- tz o X.env
  standAt apos.atName
  let (f,first) <- holding [ov] (getMethod ov m pl)
  callWith pos f first (ut pos (lm (e::es) X.env)) (vM pos (vw [] X.env))):=by rfl) :
 PE X (.Call (.Attribute o m apos) (e::es) [] pos) (fE C m sp [] E ta t):=by
 obtain⟨f,fd,F1,F2,F3⟩:=F.ex;exact ZF z c F3 F1 (hr.mono O) F2 .nil hx J Y W ht
theorem Qk(F:FdI CX X.prog X.w X.K X.mg X.base n C x ps sp)(hr:Jw k X.A)(hg:Gl X x)(hx:Lf CX X E)(J:PA X (e::es) t)(O:n+1<=k:=by decide)(Y:(x == ("__debug__" : Str))=false:=by decide)(z:lm (e::es) X.env=(false,tz e X.env)::lm es X.env:=by rfl)(W:(ut pos (lm es X.env)).any (·.1)=false:=by rfl) :
 PE X (.Call (.Name x p) (e::es) [] pos) (fF C sp [] E t):=by
 obtain⟨f,fd,F1,F2,F3,F4⟩:=F.ex;exact ZH F3 F1 (hr.mono O) hg F4 F2 .nil hx J Y z W
theorem j7(ho:PE X.nox o ta)(c:Cls X.K C)(F:FdM (CX2 X.prog X.w) X.prog X.w X.K X.mg X.base n C m ps sp)(hr:Jw k X.A)(ha:PA X.nox (e::es) t)(I:Inv X pins σ H s)
 (h:ta σ H λx H1=>∃a dx fs,x = .ref a/\H1 a=some (.ins C dx fs)/\fs.lookup m=none/\t σ H1 λvs H2=>sp (x::vs) H2 Q E) (hn:n<=k)
 (ac:lm (e::es) X.env=(false,tz e X.env)::lm es X.env) (ad:(ut pos (lm es X.env)).any (·.1)=false)
 (ht:tz (.Call (.Attribute o m apos) (e::es) [] pos) X.env=(do
  let ov <- tz o X.env
  standAt apos.atName
  let (f,first) <- holding [ov] (getMethod ov m pl)
  callWith pos f first (ut pos (lm (e::es) X.env)) (vM pos (vw [] X.env)))) :
 na (pi X.prog X.w) X.A (tz (.Call (.Attribute o m apos) (e::es) [] pos) X.env) (EP X pins σ Q) (λe s2=>∃H1 s1,Inv X pins σ H1 s1/\CX2 X.prog X.w X.stack H1 s1 E e s2) s:=by
 obtain⟨f,fd,F1,F2,F3⟩:=F.ex;refine PySem.W.methodCall_KW (pl:=pl) (u8 (ho pins s σ H _ (I.wish _) h) (λu s1 ⟨x,H1,I1,rx,a,dx,fs,ex,ea,l,q⟩=>?_) λ_ _ z=>False.elim z) ht;subst ex;obtain rfl:u=Value.ref a:=rx;have I1:=I1.unwish;refine QI I1 ea c F3 l ?_;refine qH (first:=[.ref a]) (h₀:=X.base) I.ok.mod.kin F3.kp (u8 (ha pos pins s1 σ H1 _ (I1.wish _) q) (λus s2 ⟨vs,H2,Y,r,q2⟩=>⟨Y.unwish.kIn,?_⟩) λ_ _ z=>False.elim z) ac ad;have Y:=Y.unwish;have r2:Ip (V.ref a::vs) (Value.ref a::us):=.cons rfl r;have J:(Value.ref a::us).length=ps.length:=by rw[<- r2.length];exact F1.len _ _ _ _ q2
 have aa:=F2 s2 (.ref a::us) Y.kIn (by rw[qG];exact J)
 rw[qG]at aa;refine wpAny_call (vx (F1.run X.A X.stack s2 H2 ⟨.ref a::us,[]⟩ (.ref a::us) (.ref a::vs) _ _ (hr.mono hn) Y.env0 aa r2 q2) λr s2 O=>?_);cases r with
 | error e=>exact⟨H2,_,Y,O⟩
 | ok fl =>
   cases fl with
   | ret u=>exact Y.after O
   | next=>exact False.elim O
   | brk=>exact False.elim O
   | cont=>exact False.elim O
end
section
variable {X:Cx}{o value:Expr}{f:Str}{pos pos':Pos}{ta tv:TE}
theorem Sv(K:pP)(Y:PE X o ta)(W:vy o f X.env (tz o X.env)=tz o X.env)(e:X.K=K:=by rfl):PE X (.Attribute o f pos) (iX K ta f):=by subst e;exact gR Y W
theorem Su(K:pP)(O:PE X o ta)(W:PE X value tv)(Y:swapsWith value (some (.Attribute o f pos')) pos.line X.env=pure false)(e:X.K=K:=by rfl):PS X (.Assign [.Attribute o f pos'] value pos) (j5 K ta tv f):=by subst e;exact gJ O W Y
end
def RN(w:rc)(q:Str×Tok×ge):DictEntry:=⟨PyData.keyHash w.params q.1,.str q.1 q.2.1,.ref q.2.2⟩
theorem Uj:∀(qs:List (Str×Tok×ge)),Pairs (J3 P w) (qs.map (RN w)) (qs.map λq=>((Sum.inr q.1:Key),Value.ref q.2.2))
 | []=>.nil
 | q::qs=>.cons (by show Value.isStrOf q.1 (.str q.1 q.2.1)=true;simp[Value.isStrOf]) rfl (Uj qs)
theorem W7{w:rc}{K:pP}{a:ge}{n:Nat}(qs:List (Str×Tok×ge))(hk:K.lookup a=some ⟨.type "dict",none,.dict (qs.map (RN w)).toArray n,#[]⟩)(Y:(qs.map (·.1)).Nodup)(W:(a == vg)=false) :
 KDk P w K a (qs.map λq=>((Sum.inr q.1:Key),V.ref q.2.2)):=by
 refine⟨_,_,n,qs.map λq=>((Sum.inr q.1:Key),Value.ref q.2.2),hk,⟨Z,Z,Z⟩,Z,λe O=>?_,?_,?_,?_,W⟩
 ·obtain⟨q,J,rfl⟩:=tR.mp (List.mem_toArray.mp O);exact⟨Sum.inr q.1,by show Value.isStrOf q.1 (.str q.1 q.2.1)=true;simp[Value.isStrOf],Z⟩
 ·simpa using Uj qs
 ·rw[tN];have e:((λx:Key×gl=>x.1) ∘ λq:Str×Tok×ge=>((Sum.inr q.1:Key),Value.ref q.2.2))=(Sum.inr:Str->Key) ∘ (·.1):=rfl;rw[e,<- tN];exact List.pairwise_map.mpr (Y.imp λh z=>h (Sum.inr.inj z))
 ·clear hk Y
  induction qs with
  | nil=>exact .nil
  | cons q qs ih=>exact .cons ⟨Z,Z⟩ ih
theorem JC{K:pP}{H:Hp}{a:ge}{o:Obj}{vs:Array gl}{n:Nat}{i j:Int}(hk:K.lookup a=some o)(W:o.cls = .type "tuple")(hd:o.data = .seq vs n)(e:vs.toList.map MM=[some (.int i),some (.int j)]):SqT K H a [.int i,.int j]:=by
 refine .inr ⟨o,vs,n,hk,W,hd,?_,PL e λu _ x h=>Uz h⟩;have Y:=congrArg qM e;simp at Y;rw[Y];decide
section
variable {prog:mo}{w:rc}{A:sB}{E:gl->im->Prop}{s:im}
theorem Ud{it t:ge}(hh:A.handled=none)(Y:s.heap.IsTupleIter it t 0)(ht:s.heap.IsTuple t #[])
 (z:∀h' e,Heap.ExtBut it s.heap h'->(∃o,h'.get? e=some o/\o.cls = .type "StopIteration")->E (.ref e) { s with heap:=h' }):na (pi prog w) A (Builtin.SmallTypes.nextOf (.ref it)) Q E s:=by
 obtain⟨o,J,hc,hd⟩:=id Y;obtain⟨ot,W,_,nt,O⟩:=ht;unfold Builtin.SmallTypes.nextOf;refine ii (vt (name:=Str.ofString "__next__") Y.typeIs F.slot_tuple_iterator_next (vJ F.slot_tuple_iterator_next Y.typeIs F.entry_tuple_iterator_next ?_ (F.args_tuple_iterator_next_1 _)));show na _ _ (field (.ref it) 0 >>= _) _ _ s;refine ii (vh J hd (x:=.ref t) rfl ?_);show na _ _ (if (Value.ref t == Value.none)=true then _ else _) _ _ s;rw[if_neg (show ¬((Value.ref t == Value.none)=true) from Bool.false_ne_true)];show na _ _ (field (.ref it) 1 >>= _) _ _ s;refine ii (vh J hd (x:=.int ((0:Nat):Int) 0) rfl ?_);show na _ _ (seqItems? (.ref t) >>= _) _ _ s;refine ii (wpAny_seqItems W O ?_);simp only[rg,show(#[]:Array gl)[0]? = none from rfl];refine ii (wpAny_rule (ii (wpAny_setField J hd (by simp) ?_)))
 show na _ _ (newExc (.type "StopIteration") [] >>= _) _ _ _;refine ii ?_;simp only[newExc,newTuple];refine ii (vf ?_ (by size_fits))
 refine ii (m:=firstArgMember _ _) (wpAny_of_eq (a:=Value.none) (by first | rfl | (simp only[firstArgMember];rfl)) ?_)
 refine vf ?_ (by size_fits)
 simp only[raiseNew];refine ii (wpAny_handled ?_)
 first | rw[show A.in1.handled=none from hh] | rw[hh]
 refine ii (li (wpAny_throw ?_));exact z _ _ (((Heap.SameBut.update ..).extBut.push _).push _) ⟨_,Heap.get?_push_size _ rfl,Z⟩
theorem Xh{z TI TO i1 i2 l1 l2:ge}(hh:A.handled=none)(D:ZipApart z TI TO i1 i2 l1 l2)
 (hz:IsZip s.heap z TI TO .none) (ag:vW s.heap TI (.ref i1) (.ref i2)) (af:vW s.heap TO a b) (h1:s.heap.IsListIter i1 l1 k1) (h2:s.heap.IsTupleIter i2 l2 0) (ae:s.heap.IsList l1 xs) (ah:s.heap.IsTuple l2 #[])
 (hE:∀h' e,(∀c o,c≠z->c≠TO->c≠i1->c≠i2->s.heap.get? c=some o->h'.get? c=some o)->(∃o,h'.get? e=some o/\o.cls = .type "StopIteration")->E (.ref e) { s with heap:=h' }) :
 na (pi prog w) A (Builtin.«zip.__next__» ⟨[.ref z],[]⟩) Q E s:=by
 show na _ _ (field (.ref z) 2 >>= _) _ _ _;refine ii (vh hz rfl (x:=.bool false) rfl ?_);show na _ _ (field (.ref z) 3 >>= _) _ _ _;refine ii (vh hz rfl (x:=.ref TI) rfl ?_);refine ii (wpAny_seqItems ag rfl ?_);show na _ _ (Builtin.SmallTypes.ownedTupleIsFree (.ref z) >>= _) _ _ _;refine ii ?_;unfold Builtin.SmallTypes.ownedTupleIsFree;refine ii (vh hz rfl (x:=.none) rfl (li ?_));simp only[if_true];refine ii (wpAny_rule ?_);refine ii (vh hz rfl (x:=.ref TO) rfl ?_);refine ii (vR hz (by simp) λg1 O t1=>?_)
 replace O:IsZip g1 z TI TO .ellipsis:=O
 refine ii ?_;simp only[List.zipIdx_cons,List.zipIdx_nil,sJ,List.forIn_nil];refine ii (ii (wpAny_onRaise ?_));show na _ _ (Builtin.SmallTypes.nextOf (.ref i1) >>= _) _ _ _;cases hx:xs[k1]? with
 | none =>
   refine ii (wpAny_nextOf_list_end hh (h1.extBut t1.extBut D.i1z) (ae.extBut t1.extBut D.l1z) hx λg2 e t2 he=>?_);obtain⟨oe,Y,W⟩:=he;have ac:IsZip g2 z TI TO .ellipsis:=t2 _ _ D.i1z.symm O;have aa:e≠z:=λx=>by subst x;rw[ac]at Y;cases Y;simp at W
   exact vR ac (by simp) λg3 _ t3=>hE g3 e (λc o c1 _ c3 _ x=>t3.extBut _ _ c1 (t2 _ _ c3 (t1.extBut _ _ c1 x))) ⟨oe,t3.extBut _ _ aa Y,W⟩
 | some x =>
   refine ii (wpAny_nextOf_list_item (h1.extBut t1.extBut D.i1z) (ae.extBut t1.extBut D.l1z) hx λg2 _ t2=>li ?_);have J:vW g2 TO a b:=t2.extBut _ _ D.TOi1 (t1.extBut _ _ D.TOz af);refine ii (wpAny_seqItems J rfl ?_);refine ii (wpAny_updateSeq_pair J λg3 _ t3=>?_);refine ii (wpAny_letGo (li ?_));refine ii (ii (wpAny_onRaise ?_));show na _ _ (Builtin.SmallTypes.nextOf (.ref i2) >>= _) _ _ _;refine ii (Ud hh (((h2.extBut t1.extBut D.i2z).extBut t2.extBut D.i12.symm).extBut t3.extBut D.TOi2.symm) (((ah.extBut t1.extBut D.l2z).extBut t2.extBut D.l2i1).extBut t3.extBut D.l2TO) λg4 e t4 he=>?_);obtain⟨oe,Y,W⟩:=he;have ad:IsZip g4 z TI TO .ellipsis:=t4 _ _ D.i2z.symm (t3.extBut _ _ D.TOz.symm (t2.extBut _ _ D.i1z.symm O));have aa:e≠z:=λx=>by subst x;rw[ad]at Y;cases Y;simp at W
   exact vR ad (by simp) λg5 _ t5=>hE g5 e (λc o c1 c2 c3 c4 x=>t5.extBut _ _ c1 (t4 _ _ c4 (t3.extBut _ _ c2 (t2.extBut _ _ c3 (t1.extBut _ _ c1 x))))) ⟨oe,t5.extBut _ _ aa Y,W⟩
theorem Wr{z TI TO W Y J O:ge}(hh:A.handled=none)(D:ZipApart z TI TO W Y J O)
 (hz:IsZip s.heap z TI TO .none) (ae:vW s.heap TI (.ref W) (.ref Y)) (ac:vW s.heap TO a b) (h1:s.heap.IsListIter W J k1) (h2:s.heap.IsTupleIter Y O 0) (ad:s.heap.IsList J xs) (aa:s.heap.IsTuple O #[])
 (hQ:∀h',(∀c o,c≠z->c≠TO->c≠W->c≠Y->s.heap.get? c=some o->h'.get? c=some o)->Q none { s with heap:=h' }):na (pi prog w) A (pyNext (.ref z)) Q E s:=by
 have hT:s.TypeIs (.ref z) "zip":=⟨_,hz,Z⟩;unfold pyNext
 refine ii (wpAny_attempt (vt (name:=Str.ofString "__next__") hT F.slot_zip_next
  (vJ F.slot_zip_next hT F.entry_zip_next (Xh hh D hz ae ac h1 h2 ad aa λh' e hk he=>?_) (F.args_zip_next_1 _))))
 obtain⟨o,ho,hc⟩:=he;exact ii (wpAny_isInstance (T:="StopIteration") (b:=true) ⟨o,ho,hc⟩ isSubtype_stop (li (hQ _ hk)))
abbrev zp1(h:rf)(l:ge):rf:=h.push { cls:=.type "list_iterator",data:=.fields #[.ref l,.int 0 0] }
abbrev zp2(h:rf)(l t:ge):rf:=(zp1 h l).push { cls:=.type "tuple_iterator",data:=.fields #[.ref t,.int 0 0] }
abbrev zp3(h:rf)(l t:ge):rf:=(zp2 h l t).push { cls:=.type "tuple",data:=.seq #[.ref h.objs.size,.ref (zp1 h l).objs.size] }
abbrev zp4(h:rf)(l t:ge):rf:=(zp3 h l t).push { cls:=.type "tuple",data:=.seq #[.none,.none] }
abbrev zp5(h:rf)(l t:ge):rf:=(zp4 h l t).push { cls:=.type "zip",data:=.fields #[.none,.bool false,.bool false,.ref (zp2 h l t).objs.size,.ref (zp3 h l t).objs.size] }
theorem Vc(l t:ge)(xs ys:Array gl) :
 Meets (Builtin.«zip.__new__» ⟨[.type "zip",.ref l,.ref t],[]⟩) (λ_ R s=>s.heap.IsList l xs/\s.heap.IsTuple t ys/\R (.ok (.ret (.ref (zp4 s.heap l t).objs.size))) { s with heap:=zp5 s.heap l t }) :=
 .of_wp λprog w A R s h=>by
  obtain⟨z,g,d,tk,os⟩:=s;obtain⟨O,W,h⟩:=h;have aa:=sub_zip;have Y:Heap.IsList (Shared.heap ⟨z,g,d,tk,os⟩) l xs:=O;have J:Heap.IsTuple (Shared.heap ⟨z.push { cls:=.type "list_iterator",data:=.fields #[.ref l,.int 0 0] },g,d,tk,os⟩) t ys:=Heap.IsTuple.push W _
  wp_walk using vF Y,wpAny_pyIter_tuple J
  exact⟨_,Z,h⟩
theorem X9(hl:s.heap.IsList l xs)(ht:s.heap.IsTuple t ys)
 (h:∀h',IsZip h' (s.heap.objs.size+4) (s.heap.objs.size+2) (s.heap.objs.size+3) .none->vW h' (s.heap.objs.size+2) (.ref s.heap.objs.size) (.ref (s.heap.objs.size+1))->vW h' (s.heap.objs.size+3) .none .none ->
  h'.IsListIter s.heap.objs.size l 0->h'.IsTupleIter (s.heap.objs.size+1) t 0->(∀c o,s.heap.get? c=some o->h'.get? c=some o)->Q (.ref (s.heap.objs.size+4)) { s with heap:=h' }) :
 na (pi prog w) A (call (.type "zip") [.ref l,.ref t]) Q E s:=by
 refine callType_new F.called_zip Yd (F.typeCall_zip_2 _ _) (F.newCall_zip_2 _ _) (λz=>F.args_object_init_3 z _ _) F.entry_zip_new (Vc l t xs ys) ⟨hl,ht,?_⟩;have z1:(zp1 s.heap l).objs.size=s.heap.objs.size+1:=Heap.size_push ..;have O:(zp2 s.heap l t).objs.size=s.heap.objs.size+2:=by rw[Heap.size_push,z1]
 have J:(zp3 s.heap l t).objs.size=s.heap.objs.size+3:=by rw[Heap.size_push,O]
 have z4:(zp4 s.heap l t).objs.size=s.heap.objs.size+4:=by rw[Heap.size_push,J]
 have Y:∀{h:rf} {o:Obj} {c:ge} {p:Obj},h.get? c=some p->(h.push o).get? c=some p:=λe=>Heap.get?_push_of_some _ e;have W:(zp5 s.heap l t).get? (zp4 s.heap l t).objs.size=some _:=Heap.get?_push_size _ rfl;have g4:(zp5 s.heap l t).get? (zp3 s.heap l t).objs.size=some _:=Y (Heap.get?_push_size _ rfl);have g3:(zp5 s.heap l t).get? (zp2 s.heap l t).objs.size=some _:=Y (Y (Heap.get?_push_size _ rfl));have g2:(zp5 s.heap l t).get? (zp1 s.heap l).objs.size=some _:=Y (Y (Y (Heap.get?_push_size _ rfl)));have g1:(zp5 s.heap l t).get? s.heap.objs.size=some _:=Y (Y (Y (Y (Heap.get?_push_size _ rfl))));show _/\_;rw[O,J,z4]at W;rw[z1,O]at g3;rw[J]at g4;rw[z1]at g2;rw[z4];exact⟨⟨_,W,Z⟩,h _ W g3 g4 ⟨_,g1,Z,Z⟩ ⟨_,g2,Z,Z⟩ λc o x=>Y (Y (Y (Y (Y x))))⟩
end
def Zg(K:pP)(a b:ge)(xs:yt):It:=⟨λ_ _=>False,λ_ _ _ _=>False,λ_ H=>SqL K H a xs/\SqT K H b []⟩
theorem Wu{P:mo}{w:rc}{K:pP}{tg:Expr}{a b z TI TO J i2:ge}(D:ZipApart z TI TO J i2 a b)(xs:yt) :
 Rl P w K tg (Zg K a b xs) [z,TI,TO,J,i2] z (λ_ h=>IsZip h z TI TO .none/\vW h TI (.ref J) (.ref i2)/\(∃u v,vW h TO u v)/\(∃k,h.IsListIter J a k)/\h.IsTupleIter i2 b 0) where
 mem:=by simp
 obj:=λi h st c hc=>by
  obtain⟨hz,O,⟨u,v,W⟩,⟨k,o1,e1,_,d1⟩,⟨o2,e2,_,d2⟩⟩:=st;have aa:c=z\/c=TI\/c=TO\/c=J\/c=i2:=by simpa using hc
  rcases aa with rfl | rfl | rfl | rfl | rfl
  ·exact⟨_,hz,λv z=>by cases z⟩
  ·exact⟨_,O,λv z=>by cases z⟩
  ·exact⟨_,W,λv z=>by cases z⟩
  ·exact⟨o1,e1,λv z=>by rw[d1]at z;cases z⟩
  ·exact⟨o2,e2,λv z=>by rw[d2]at z;cases z⟩
 keep:=λi h h' st k=>by
  obtain⟨hz,O,⟨u,v,W⟩,⟨n,h1⟩,h2⟩:=st;exact⟨k z (by simp) _ hz,k TI (by simp) _ O,⟨u,v,k TO (by simp) _ W⟩,⟨n,h1.at λo e=>k J (by simp) o e⟩,h2.at λo e=>k i2 (by simp) o e⟩
 item:=λX _ _ _ _ i pins s σ H E I hf st hg=>False.elim hg
 done:=by
  intro X hP hw hK hc i pins s σ H E I hf st hg;subst hP hw hK;obtain⟨ad,ac⟩:=hg;obtain⟨ah,ai,p1,_⟩:=I.list ad;obtain⟨ag,af,p2,_⟩:=I.tuple ac;cases af;obtain⟨hz,O,⟨ta,tb,W⟩,⟨n,h1⟩,h2⟩:=st
  refine Wr (I.ok.hd hc) D hz O W h1 h2 p1.isList p2 λh' k=>⟨Z,I.turnedL (t':=s.toks) (ch:=[z,TO,J,i2]) (λc o ae e=>by
   have Y:c≠z/\c≠TO/\c≠J/\c≠i2:=by simpa using ae
   exact k c o Y.1 Y.2.1 Y.2.2.1 Y.2.2.2 e) λc hc=>hf c (by
    have aa:c=z\/c=TO\/c=J\/c=i2:=by simpa using hc
    rcases aa with rfl | rfl | rfl | rfl<;>simp)⟩
 self:=λ_ _ _ _ _ st h=>vK st.1 h
inductive fY(K:pP)(ta:TA)(σ:St)(H:Hp)(R:It->Hp->Prop):Prop
 | mk(h:ta σ H λvs H1=>∃a b xs,vs=[.ref a,.ref b]/\SqL K H1 a xs/\SqT K H1 b []/\R (Zg K a b xs) H1)
theorem gM(K:pP)(hg:Gl X "zip")(hm:X.mg "zip" = none)(ha:PA X [e1,W] ta)(hs:lm [e1,W] X.env=[(false,tz e1 X.env),(false,tz W X.env)]:=by rfl)(J:lm [W] X.env=[(false,tz W X.env)]:=by rfl)(e:X.K=K:=by rfl) :
 PI X tg (.Call (.Name "zip" p) [e1,W] [] pos) (fY K ta):=by
 subst e;rintro pins s σ H R I ⟨h⟩;refine Call_ (Mb I hg hm Z7 (PyProof.Rows.callWith_type1 (thn (ha pos pins s σ H _ I h) λus Y ⟨vs,H1,O,r1,q1⟩=>?_) (by rw[hs,J]) (by rw[J];rfl)))
 obtain⟨a,b,xs,e,ae,ad,q⟩:=q1;subst e;cases r1 with
 | cons r rr =>
   cases rr with
   | cons r' rr =>
     cases rr;cases r;cases r';obtain⟨aj,al,p1,_⟩:=O.list ae;obtain⟨ai,ak,p2,_⟩:=O.tuple ad;have la:a<Y.heap.objs.size:=by obtain⟨_,e,_⟩:=p1.isList;exact Heap.lt_size e
     have lb:b<Y.heap.objs.size:=by obtain⟨_,e,_⟩:=p2;exact Heap.lt_size e
     refine X9 p1.isList p2 λh' hz af aa ah ac hk=>?_;refine vK (s:={ Y with heap:=h' }) hz ?_
     have D:=zipApart_new la lb;refine⟨Y.heap.objs.size+4,[Y.heap.objs.size+4,Y.heap.objs.size+2,Y.heap.objs.size+3,Y.heap.objs.size,Y.heap.objs.size+1],_,_,H1,Z,O.kept (t':=Y.toks) hk,Wu D xs,⟨hz,af,⟨_,_,aa⟩,⟨0,ah⟩,ac⟩,λc hc=>?_,q⟩
     have z:Y.heap.objs.size<=c:=by
      have ag:c=Y.heap.objs.size+4\/c=Y.heap.objs.size+2\/c=Y.heap.objs.size+3\/c=Y.heap.objs.size\/c=Y.heap.objs.size+1:=by simpa using hc
      rcases ag with rfl | rfl | rfl | rfl | rfl
      ·exact u9 _ _
      ·exact u9 _ _
      ·exact u9 _ _
      ·exact qd _
      ·exact u9 _ _
     exact O.fpOk z (O.hok.fresh z)
theorem YL{K:pP}{a b:ge}{xs:yt}{g:TG}{tb:TS}{D:Lj}{σ:St}{H:Hp}(h1:SqL K H a xs)(h2:SqT K H b [])(hd:D.nx σ H) :
 ∃ W:Nat->Nat->St->Hp->Prop,(∃m,W 0 m σ H)/\∀i m σ H,W i m σ H ->
   ((Zg K a b xs).stop i H/\D.nx σ H)\/((Zg K a b xs).go i H/\∃N:St->Hp->Prop,(∀Y H',N Y H'->∃J,J<m/\W (i+1) J Y H')/\∀x H',(Zg K a b xs).yld i H x H'->g x σ H' λO H2=>tb { D with nx:=N,ct:=N,bk:=D.nx } O H2) :=
 ⟨λ_ _ Y H'=>Y=σ/\H'=H,⟨0,Z,Z⟩,λ_ _ _ _ e=>.inl (by obtain⟨rfl,rfl⟩:=e;exact⟨⟨h1,h2⟩,hd⟩)⟩
section
variable {prog:mo}{w:rc}{A:sB}{E:gl->im->Prop}{s:im}
end
section
variable {X:Cx}{n k:Nat}{C:ge}{ps:yr}{sp:Sp}{E:XK}{x m:Str}{p pos apos:Pos}{e o:Expr}{es:List Expr}{ta:TE}{t:TA}
def jQ(C:ge)(m:Str)(sp:Sp)(ta:TE)(t:TA):TB:=λnx E σ H=>ta σ H λx H1=>∃a dx fs,x = .ref a/\H1 a=some (.ins C dx fs)/\fs.lookup m=none/\t σ H1 λvs H2=>sp (x::vs) H2 (λ_ H2=>nx σ H2) E
theorem Y3(ho:PE X.nox o ta)(c:Cls X.K C)(F:FdM (CX2 X.prog X.w) X.prog X.w X.K X.mg X.base n C m ps sp)(hr:Jw k X.A)(ha:PA X.nox (e::es) t)(hn:n<=k:=by decide)
 (z:swapsWith (.Call (.Attribute o m apos) (e::es) [] pos) none Y.line X.env=pure false:=by rfl)
 (W:lm (e::es) X.env=(false,tz e X.env)::lm es X.env:=by rfl) (O:(ut pos (lm es X.env)).any (·.1)=false:=by rfl)
 (ht:tz (.Call (.Attribute o m apos) (e::es) [] pos) X.env=(do
  let ov <- tz o X.env
  standAt apos.atName
  let (f,first) <- holding [ov] (getMethod ov m pl)
  callWith pos f first (ut pos (lm (e::es) X.env)) (vM pos (vw [] X.env))):=by rfl) :
 PB X [.Expr (.Call (.Attribute o m apos) (e::es) [] pos) Y] (jQ C m sp ta t):=by
 intro pins s σ H nx E I h;exact wpAny_execs_cons (wpAny_Expr_any (thn (j7 ho c F hr ha I h hn W O ht) λv s1 ⟨y,H1,J,r1,q1⟩=>vn ⟨Z,σ,H1,J,q1⟩) I.quiet z)
end
section
variable {X:Cx}
inductive VH(x:V)(vs:yt)(H:Hp)(Q:VK):Prop
 | mk(l:ge)(xs:yt)(k:Nat)(y:V)(_:x = .ref l)(_:vs=[.int (k:Nat),y])(_:H l=some (.lst xs))(_:k<=xs.length)(_:xs.length<io)(_:Q .non (upd H l (.lst (xs.take k++y::xs.drop k))))
theorem Ip.takeN(h:Ip vs us):∀k,Ip (vs.take k) (us.take k):=by
 induction h with
 | nil=>intro k;cases k<;>exact .nil
 | cons a b ih =>
   intro k;cases k with
   | zero=>exact .nil
   | succ k=>exact .cons a (ih k)
theorem Ip.dropN(h:Ip vs us):∀k,Ip (vs.drop k) (us.drop k):=by
 induction h with
 | nil=>intro k;cases k<;>exact .nil
 | cons a b ih =>
   intro k;cases k with
   | zero=>exact .cons a b
   | succ k=>exact ih k
theorem YH(W:s.TypeIs (.ref l) "list")(M:Meets (Builtin.«list.insert» ⟨[.ref l,x,u],[]⟩) S)(Y:S A (wants Q E) s):na (pi prog w) A (call (.builtin "list.insert") [.ref l,x,u]) Q E s :=
 @vD prog w A E s _ _ _ _ _ _ _ _ F.slot_list_insert W F.entry_list_insert (F.args_list_insert_3 (.ref l) x u) M Y
theorem WS:MtM X "list.insert" VH:=by
 intro pins s σ H x vs v us Q I rx J h;obtain⟨l,xs,k,y,rfl,rfl,O,hk,hz,q⟩:=h;cases rx;obtain⟨ui,u,rfl,ri,ru⟩:=Xi J;obtain⟨t,rfl⟩:=ri;obtain⟨z,Y,n,r,hl,e⟩:=I.lstM O;have aa:=sK
 have W:¬(!Builtin.List.listFitsIndex (k:Int))=true:=by
  have:Builtin.List.listFitsIndex (k:Int)=true:=by
   unfold Builtin.List.listFitsIndex;rw[Bool.and_eq_true];exact⟨decide_eq_true Yl,decide_eq_true Yl⟩
  rw[this];exact Bool.false_ne_true
 have hsz:Y.toArray.size<=io:=by rw[qZ,<- hl];exact z
 refine YH ⟨_,e,Z⟩ (@AutoSeq1.list_insert_list_int_val_1 l Y.toArray n _ _ u W hsz) (And.intro e ?_);refine⟨.non,_,I.lset (its':=Y.take k++u::Y.drop k) O e ?_ ((r.takeN k).append (.cons ru (r.dropN k))) ?_,Z,q⟩
 ·have e1:¬((k:Int)<0):=by lia
  have e2:min (k:Int).toNat Y.length=k:=by rw[rg];lia
  simp only[e1,if_false,qZ,e2];apply Array.toList_inj.mp;simp[tX]
 ·rw[qV,qr,qN,rq];lia
end
inductive jb(x:V)(lo:Option Int)(hi:Option Int)(H:Hp)(Q:VK):Prop
 | to (y:Str) (k:Nat) (h1:x = .str y) (h2:lo=none) (h3:hi=some (k:Nat)) (h5:y.length<=io) (h6:Q (.str ⟨((sg y).take k).toArray⟩) H):jb x lo hi H Q
 | frm (y:Str) (k:Nat) (h1:x = .str y) (h2:lo=some (k:Nat)) (h3:hi=none) (h5:y.length<=io) (h6:Q (.str ⟨((sg y).drop k).toArray⟩) H):jb x lo hi H Q
theorem WV(Y:Nat->yt->Hp->Prop)(h0:Y 0 [] H)(hl:∀i zs H,i<=(sg x).length->Y i zs H->zs.length<=i)(hz:(sg x).length<=io)
 (hs:∀i c zs H,(sg x)[i]? = some c->Y i zs H->tc ((cS 1 js σ).set 0 (some (.str ⟨#[c]⟩))) H λb z=>if b=true then te ((cS 1 js σ).set 0 (some (.str ⟨#[c]⟩))) z λy H4=>Y (i+1) (zs++[y]) H4 else Y (i+1) zs z) (J:∀zs H',Y (sg x).length zs H'->O zs H') :
 ∃(n':Nat) (W:Nat->yt->Hp->Prop),W 0 [] H/\LcW (Its x) n' 1 js σ (K1 0) tc te O W:=by
 refine⟨(sg x).length,Y,h0,⟨?_,?_,?_⟩⟩
 ·intro i zs H' hi p;have h2:=hl i zs H' (pR hi) p;exact⟨hi,Yl⟩
 ·rintro i zs H' v H1 hi p ⟨rfl,c,hc,rfl⟩;exact hs i c zs _ hc p
 ·intro zs H' p;have h2:=hl _ zs H' (qd _) p;exact⟨qd _,Yl,J zs H' p⟩
@[irreducible] def fL(K:pP):R2:=λx y H Q=>∃p ds d,y = .ref p/\Rds K H (.ref p) (.tuple ds)/\Rds K H x d/\SeqAt.shaped (.tuple ds)=true/\SeqAt.shaped d=true/\Q (.bl (ds.any λy=>PyData.eqv y d)) H
theorem jI{K:pP}{x y:V}{H:Hp}{Q:VK}(h:∃p ds d,y = .ref p/\Rds K H (.ref p) (.tuple ds)/\Rds K H x d/\SeqAt.shaped (.tuple ds)=true/\SeqAt.shaped d=true/\Q (.bl (ds.any λy=>PyData.eqv y d)) H):fL K x y H Q:=by
 unfold fL;exact h
def pI:yo->Int
 | []=>1
 | u::r=>u*pI r
theorem Y5:∀{us:yo},(∀u∈us,u≠0)->pI us≠0
 | [],_=>by decide
 | u::r,h=>rZ (h u pT) (Y5 λx hx=>h x (pU _ hx))
theorem TV:∀{us:yo},(∀u∈us,Bd n u)->Bd (n*us.length+1) (pI us)
 | [],_=>by unfold Bd;rw[rO,Nat.mul_zero];decide
 | u::r,h=>by
   have ih:=TV (us:=r) λx Y=>h x (pU _ Y);refine((h u pT).mul ih).mono ?_;rw[qr,tH];lia
theorem V1:∀{us:yo} {u:Int},u∈us->(∀u∈us,Bd n u)->∃r,pI us=u*r/\Bd (n*us.length+1) r
 | x::r,u,hu,h=>by
   have hr:∀y∈r,Bd n y:=λy Y=>h y (pU _ Y)
   rcases pV.mp hu with z | z
   ·exact⟨pI r,by rw[z];rfl,(TV hr).mono (by rw[qr,tH];lia)⟩
   ·obtain⟨w,e,b⟩:=V1 z hr;refine⟨x*w,by show x*pI r=_;rw[e];grind,((h x pT).mul b).mono ?_⟩
    rw[qr,tH];lia
theorem V2{L:Int}{W dv n:Nat}(hL:L≠0)(J:∀u∈us,u≠0)(z:∀u∈us,Bd n u)
 (hq:∀q∈ql,(∃t:Int,Bd W t/\q*(L:Rat)=(t:Rat))\/∃t1 Y u v:Int,Bd W t1/\Bd W Y/\u∈us/\Bd dv v/\q*(u:Rat)*(L:Rat)=((t1-Y:Int):Rat)*(v:Rat)):Ov (L*pI us) (W+dv+n*us.length+2) ql:=by
 refine⟨rZ hL (Y5 J),λq O=>?_⟩
 rcases hq q O with ⟨t,bt,e⟩ | ⟨t1,Y,u,v,b1,b2,um,bv,e⟩
 ·refine⟨t*pI us,(bt.mul (TV z)).mono Yl,?_⟩;rw[si,si,<- tI,e]
 ·obtain⟨r,er,br⟩:=V1 um z;refine⟨(t1-Y)*v*r,?_,?_⟩
  ·have hs:Bd (W+1) (t1-Y):=by
    have:=b1.add b2.neg
    rwa [<- t9]at this
   exact((hs.mul bv).mul br).mono Yl
  ·rw[er,si,si u,si ((t1-Y)*v),si (t1-Y),<- e]
   grind
theorem Ov.rb(h:Ov L W cs)(Y:Bd n L)(O:q∈cs):Bd W q.num/\Bd n (q.den:Int):=by
 obtain⟨t,J,e⟩:=h.is q O;have hd:=gU e;refine⟨ji h.ne hd e ?_ J,?_⟩
 ·rw[Nm.num_mul]
 ·obtain⟨k,hk⟩:=hd;have k0:k≠0:=λz=>h.ne (by rw[hk,z,Int.mul_zero])
  unfold Bd at *;rw[hk,t7]at Y;exact rL (Nat.le_mul_of_pos_right _ (Int.natAbs_pos.mpr k0)) Y
def PR(k s:Rat)(r:yn):yn:=JD [s] (LB [-k,1] r)
theorem Xz(k s:Rat)(r:yn)(x:Rat):Cv.ev (PR k s r) x=s+(x-k)*Cv.ev r x:=by
 unfold PR;rw[Km,Lp];show(s+x*0)+(-k+x*(1+x*0))*_=_
 grind
theorem UJ(k s:Rat)(r:yn)(i:Nat):(PR k s r).getD i 0=(if i=0 then s else r.getD (i-1) 0)-k*r.getD i 0:=by
 unfold PR;show(JD [s] (JD (r.map (· * (-k))) (0::JD (r.map (· * 1)) (0::[])))).getD i 0=_;rw[JB,JB,K8]
 match i with
 | 0=>show s+(r.getD 0 0*(-k)+0)=s-k*r.getD 0 0;grind
 | i+1 =>
   show 0+(r.getD (i+1) 0*(-k)+(JD (r.map (· * 1)) [0]).getD i 0)=_;rw[JB,K8,if_neg Yl,uI];have z:([0]:yn).getD i 0=0:=by cases i<;>rfl
   rw[z];grind
theorem ZJ(o:Ov L W r)(J:∃t:Int,Bd W t/\s*(L:Rat)=(t:Rat))(O:v≠0)(hu:Bd n u)(hv:Bd n v)(hk:k*(v:Rat)=(u:Rat)):Ov (L*v) (W+n+1) (PR k s r):=by
 refine⟨rZ o.ne O,λq hq=>?_⟩;obtain⟨i,hi⟩:=uh hq;have e:q=(if i=0 then s else r.getD (i-1) 0)-k*r.getD i 0:=by rw[<- UJ,sO,hi];rfl
 have Y:∀j,∃t:Int,Bd W t/\r.getD j 0*(L:Rat)=(t:Rat):=λj=>by
  cases z:r[j]? with
  | none=>exact⟨0,PJ,by rw[sO,z];show(0:Rat)*_=((0:Int):Rat);rw[uv];rfl⟩
  | some y =>
    have:r.getD j 0=y:=by rw[sO,z];rfl
    rw[this];exact o.is y (qU z)
 obtain⟨t2,b2,e2⟩:=Y i
 obtain⟨t1,b1,e1⟩:∃t:Int,Bd W t/\(if i=0 then s else r.getD (i-1) 0)*(L:Rat)=(t:Rat):=by
  by_cases z:i=0
  ·rw[if_pos z];exact J
  ·rw[if_neg z];exact Y (i-1)
 refine⟨t1*v-u*t2,?_,?_⟩
 ·have:=(b1.mul hv).add ((hu.mul b2).mono (by lia:n+W<=W+n)).neg
  rwa [<- t9]at this
 ·rw[e,sj,si,si,si,<- e1,<- e2,<- hk];generalize(if i=0 then s else r.getD (i-1) 0)=A;generalize r.getD i 0=B
  grind
section
variable {X:Cx}
inductive gf(xs:yt)(H:Hp)(Q:VK):Prop
 | mk(i:Int)(_:xs=[.str (txI i)])(_:i.natAbs<10 ^ 490)(_:Q (.int i) H)
theorem RW:Kb X (.type "int") gf:=by
 intro pins s σ H xs us Q I r h;obtain⟨i,rfl,hi,q⟩:=h;obtain⟨u,rfl,rx⟩:=Mm r;obtain⟨t,rfl⟩:=rx;have J:(Made.int i).post (λW Y=>Y.TypeIs W "int" /\ EP X pins σ Q W Y) s:=⟨Z,⟨.int i,H,I.tok _,⟨_,Z⟩,q⟩⟩
 rcases KQ i with ⟨n,e,hs⟩ | ⟨n,hp,e,hs⟩
 ·exact call_int_1 (Kf (txI i) t (dg n) (dg n) i hs (.inl ⟨Z,by rw[Rn];exact e⟩) (pQ (Me (k:=490) Yd Yl) Yd) (λc hc=>Ld hc) (O2 n) (λr O=>by
   have z:=O3 O;subst z;exact(tj.inj O).2.symm)) J
 ·exact call_int_1 (Kf (txI i) t (45::dg n) (dg n) i hs (.inr ⟨Z,by rw[Rn];exact e⟩) (pQ (Me (k:=490) Yd Yl) Yd) (λc hc=>Ld hc) (O2 n) (λr O=>by
   have z:=O3 O;subst z;exact(tj.inj O).2.symm)) J
end
def iT(K:pP)(CE:ge)(j:Nat)(te:TE)(tb:TB):TS:=λD σ H=>tb D.nx (λcls _ H2=>uJ K cls (.ref CE)=some true/\te σ H2 λv H3=>D.nx (σ.set j (some v)) H3) σ H
theorem ZC{CE:ge}(hb:PB X ae tb)(he:∀ea oe,PE (X.kept ea oe) e te)
 (ao:Gl X y) (aq:X.mg y=some (.ref CE)) (nd:X.N.Nodup) (hj:X.N[j]? = some a) (ah:X.env.scope.names.lookup a=some .local) (aj:X.stack=X.env::X.outer) (af:X.env.frame=some X.env.locals)
 (hs:swapsWith e (some (.Name a ap)) J.line X.env=pure false:=by rfl) (ax:(y == ("__debug__" : Str))=false:=by decide) :
 PS X (.Try ae [.ExceptHandler (some (.Name y yp)) none [.Assign [.Name a ap] e J] ai] [] [] pos) (iT X.K CE j te tb):=by
 intro pins s σ H D I h;refine wpAny_Try_except (u8 (hb pins s σ H _ _ I h) (λfl s1 ⟨ef,am,H',I1,q⟩=>?_) λex s2 ⟨H1,s1,I1,hq⟩=>?_)
 ·subst ef;exact vn ⟨am,H',I1,q⟩
 obtain⟨ea,cls,a0,B,H2,rfl,os,ad,un,ak,Y,k1,k2,aA,hts⟩:=hq
 have ay:H2 ea=none:=by
  cases z:H2 ea with
  | none=>rfl
  | some u=>obtain⟨o',q'⟩:=k2 ea u z;rw[Y.2.1]at q';cases q'
 have hA:X.A.frames=some (X.env::X.outer):=by rw[<- aj];exact I.ok.frames
 have ff:=Y.2.2.1;rw[aj]at Y;refine fT (B:=B) hA af Y λh3 held as=>?_;refine W6 (s:={ s2 with heap:=h3 }) held λh4 O an=>?_
 have u4:=as.trans an;have J4:=I1.flown (toks:=s2.toks) un ak os ad Y.1 k1 k2 O.1 (Inv.slots ff u4);refine wpAny_handleBy_cons (codeAny_handlers_test ?_) (by intro q;cases q)
 refine NV (X:=X.marked ea) (J4.marked ea) ao aq ?_ ax;obtain⟨ob,aw,ar,_⟩:=O.obj;have LT:PySem.W.Looks (pi X.prog X.w) h4 (typeOf (.ref ea)) cls:=by subst ar;exact(PySem.W.Looks.ld aw).andThen .now
 refine(PySem.W.exm_one J4.kIn LT aA).here ?_;refine codeAny_handlers_suite ?_;refine W6 (s:={ s2 with heap:=h4 }) O λh5 aa au=>?_
 obtain⟨oe,al,aB,ag⟩:=aa.obj;have J5:=I1.flown (toks:=s2.toks) un ak os ad Y.1 k1 k2 aa.1 (Inv.slots ff (u4.trans au))
 have p5:ea∉(X.env::X.outer).filterMap (·.frame):=λz=>by
  obtain⟨_,o',e',nf⟩:=aa.2.2.1.mem z;rw[al]at e';cases e';obtain⟨v,hv,_⟩:=ag;exact nf v hv
 rw[pS,af]at p5;have p3:ea≠X.env.locals:=λz=>p5 (z ▸ pT);have p4:ea∉X.fs:=λz=>p5 (pU _ z);have J6:Inv (X.kept ea oe) pins σ H2 { s2 with heap:=h5 }:=J5.kept2 al ay p3 p4 ag
 have av:PS (X.kept ea oe) (.Assign [.Name a ap] e J) _:=Om nd hj (.inl ah) (he ea oe) hs (.inr ah);have az:Xw te (K1 j) { nx:=D.nx,rt:=λ_ _=>False } σ H2:=hts;refine wpAny_execs_cons (u8 (av pins _ _ _ _ J6 az) (λfl s7 ac=>?_) λ_ _ z=>False.elim z);cases fl with
 | next =>
   obtain⟨am,H7,I7,q7⟩:=ac;exact vn ⟨_,_,I7.unkept I.ok,q7⟩
 | ret u=>obtain⟨_,_,_,_,_,q7⟩:=ac;exact q7.elim
 | brk=>obtain⟨_,_,_,q7⟩:=ac;exact q7.elim
 | cont=>obtain⟨_,_,_,q7⟩:=ac;exact q7.elim
end L2
namespace Pf
set_option maxHeartbeats 4000000
open PySem L2
open L2.Paired renaming mapP->yu,get->yB,get'->yC,take->yD,append->yE
open L2.PW renaming pt->yv
open L2.SqL renaming of->yw
open L2.SqT renaming of->yx
open L2.Hy renaming refl->yy,seq->yz,new->yA
open L2.HP renaming of->yF
open L2.HR renaming same->yG
open L2.JQ renaming bd->yH
open L2.Sq renaming same->yI
open L2.Io renaming same->yJ
open L2.Ie renaming same->yK
def top(i:Nat):vv:=PySem.Challenge.pw_onecurve_k65_asked_of_the_curve_at_a_des.main.body.getD i (.Pass ⟨0,0,0,0⟩)
theorem Vp{W:Type}{p:W->Prop}{G:Prop}(h:∃Y,p Y)(f:∀Y,p Y->G):G:=Exists.elim h f
theorem Kg{O J:Type}{p:O->J->Prop}{G:Prop}(h:∃Y W,p Y W)(f:∀Y W,p Y W->G):G:=Exists.elim h λY h=>Vp h (f Y)
theorem Lh{a1 J z:Type}{p:a1->J->z->Prop}{G:Prop}(h:∃Y O W,p Y O W)(f:∀Y O W,p Y O W->G):G:=Exists.elim h λY h=>Kg h (f Y)
theorem Uq{a1 a2 a3 z:Type}{p:a1->a2->a3->z->Prop}{G:Prop}(h:∃Y J O W,p Y J O W)(f:∀Y J O W,p Y J O W->G):G:=Exists.elim h λY h=>Lh h (f Y)
theorem jY{a1 a2 a3 a4 a5:Type}{p:a1->a2->a3->a4->a5->Prop}{G:Prop}(h:∃Y z O W J,p Y z O W J)(f:∀Y z O W J,p Y z O W J->G):G:=Exists.elim h λY h=>Uq h (f Y)
theorem jX{a1 a2 a3 a4 a5 a6:Type}{p:a1->a2->a3->a4->a5->a6->Prop}{G:Prop}(h:∃Y x2 J W z O,p Y x2 J W z O)(f:∀Y x2 J W z O,p Y x2 J W z O->G):G:=Exists.elim h λY h=>jY h (f Y)
theorem iz{a1 a2 a3 a4 a5 a6 a7:Type}{p:a1->a2->a3->a4->a5->a6->a7->Prop}{G:Prop}(h:∃Y x2 z W x5 J O,p Y x2 z W x5 J O)(f:∀Y x2 z W x5 J O,p Y x2 z W x5 J O->G):G:=Exists.elim h λY h=>jX h (f Y)
theorem jW{a1 a2 a3 a4 a5 a6 a7 a8:Type}{p:a1->a2->a3->a4->a5->a6->a7->a8->Prop}{G:Prop}(h:∃Y z x3 W x5 J O x8,p Y z x3 W x5 J O x8)(f:∀Y z x3 W x5 J O x8,p Y z x3 W x5 J O x8->G):G:=Exists.elim h λY h=>iz h (f Y)
theorem ju{a1 a2 a3 a4 a5 a6 a7 a8 a9:Type}{p:a1->a2->a3->a4->a5->a6->a7->a8->a9->Prop}{G:Prop}(h:∃Y x2 x3 W x5 z O x8 J,p Y x2 x3 W x5 z O x8 J)(f:∀Y x2 x3 W x5 z O x8 J,p Y x2 x3 W x5 z O x8 J->G):G:=Exists.elim h λY h=>jW h (f Y)
theorem Jh{A1 A2 G:Prop}(h:A1/\A2)(f:A1->A2->G):G:=f h.1 h.2
theorem Mg{A1 A2 A3 G:Prop}(h:A1/\A2/\A3)(f:A1->A2->A3->G):G:=Jh h.2 (f h.1)
theorem Le{A1 A2 A3 A4 G:Prop}(h:A1/\A2/\A3/\A4)(f:A1->A2->A3->A4->G):G:=Mg h.2 (f h.1)
theorem N0{A1 A2 A3 A4 A5 G:Prop}(h:A1/\A2/\A3/\A4/\A5)(f:A1->A2->A3->A4->A5->G):G:=Le h.2 (f h.1)
theorem Th{A1 A2 A3 A4 A5 A6 G:Prop}(h:A1/\A2/\A3/\A4/\A5/\A6)(f:A1->A2->A3->A4->A5->A6->G):G:=N0 h.2 (f h.1)
theorem iG{A1 A2 A3 A4 A5 A6 A7 G:Prop}(h:A1/\A2/\A3/\A4/\A5/\A6/\A7)(f:A1->A2->A3->A4->A5->A6->A7->G):G:=Th h.2 (f h.1)
theorem ke{A1 A2 A3 A4 A5 A6 A7 A8 G:Prop}(h:A1/\A2/\A3/\A4/\A5/\A6/\A7/\A8)(f:A1->A2->A3->A4->A5->A6->A7->A8->G):G:=iG h.2 (f h.1)
theorem kd{A1 A2 A3 A4 A5 A6 A7 A8 A9 G:Prop}(h:A1/\A2/\A3/\A4/\A5/\A6/\A7/\A8/\A9)(f:A1->A2->A3->A4->A5->A6->A7->A8->A9->G):G:=ke h.2 (f h.1)
theorem Zc{A1 A2 A3 A4 A5 A6 A7 A8 A9 Y G:Prop}(h:A1/\A2/\A3/\A4/\A5/\A6/\A7/\A8/\A9/\Y)(f:A1->A2->A3->A4->A5->A6->A7->A8->A9->Y->G):G:=kd h.2 (f h.1)
theorem jC{A1 A2 A3 A4 A5 A6 A7 A8 A9 W Y G:Prop}(h:A1/\A2/\A3/\A4/\A5/\A6/\A7/\A8/\A9/\W/\Y)(f:A1->A2->A3->A4->A5->A6->A7->A8->A9->W->Y->G):G:=Zc h.2 (f h.1)
structure Pe(K:pP)(C:ge):Prop where
 cl:Cls K C
 na_points:Nt K C "points"
def JX(B:Int)(q:Rat):Int:=q.num*B.fdiv q.den
theorem Rq(h:(q.den:Int)∣B):((JX B q:Int):Rat)=q*(B:Rat):=by
 obtain⟨k,rfl⟩:=h;have e:(((q.den:Int)*k).fdiv (q.den:Int))=k:=rS _ (Nm.den_ne q);unfold JX;rw[e,si,si,Nm.num_mul q]
 grind
theorem Zl(h:∀q∈qs,(q.den:Int)∣B)(x:Rat):Cv.ev ((qs.map (JX B)).map λt:Int=>(t:Rat)) x=Cv.ev qs x*(B:Rat):=by
 rw[<- Cv.ev_scale,tN]
 congr 1
 exact tP λq Y=>Rq (h q Y)
inductive VF(K:pP)(vs:yt)(H:Hp)(Q:VK)(E:XK):Prop
 | mk(b:Bool)(r:ge)(xs:yt)(qs:yn)(n:Nat)(_:vs=[.ref r])(_:Sq b K H r xs)(_:HR K H xs qs)(_:(∀q∈qs,Bd n (q.den:Int)))(_:n*(qs.length+2)<=60000000)(_:∀B:Int,0<B->(∀q∈qs,(q.den:Int)∣B)->Bd (n*qs.length+1) B->Q (.int B) H)
inductive S5(K:pP)(vs:yt)(H:Hp)(Q:VK)(E:XK):Prop
 | mk(b:Bool)(r:ge)(xs:yt)(qs:yn)(B:Int)(m n:Nat)(_:vs=[.ref r,.int B])(_:Sq b K H r xs)(_:HR K H xs qs)(_:Bd m B)(_:(∀q∈qs,Bd n q.num))(_:m+n<=134217728)(_:qs.length<=1000)(_:∀p,H p=none->Q (.ref p) (upd H p (.lst ((qs.map (JX B)).map V.int))))
inductive MR(K:pP)(vs:yt)(H:Hp)(Q:VK)(E:XK):Prop
 | mk(r:ge)(xs:yt)(qs:yn)(_:vs=[.ref r])(_:SqL K H r xs)(_:HR K H xs qs)(_:qs.length<=1000)(_:∀p H',Hy H H'->Crv K H' p (Cv.strip qs)->Q (.ref p) H')
inductive gw(K:pP)(vs:yt)(H:Hp)(Q:VK)(E:XK):Prop
 | mk(l rx:ge)(ts:yo)(x:Rat)(m n:Nat)(_:vs=[.ref l,.ref rx])(_:SqL K H l (ts.map V.int))(_:HP K H (.ref rx) x)(_:(∀t∈ts,Bd m t))(_:RB n x)(_:m+(n+1)*(ts.length+4)<=100000000)(_:∀(h s:Int) (p:ge),s=(x.den:Int) ^ ts.length->s≠0->(h:Rat)=Cv.evI ts x*(s:Rat)->Bd (m+(n+1)*(ts.length+2)) h->Bd (n*ts.length+1) s->H p=none->Q (.ref p) (upd H p (.tup [.int h,.int s])))
inductive Mq(K:pP)(vs:yt)(H:Hp)(Q:VK)(E:XK):Prop
 | mk(r rx:ge)(qs:yn)(x:Rat)(n:Nat)(_:vs=[.ref r,.ref rx])(_:Crv K H r qs)(_:HP K H (.ref rx) x)(_:(∀q∈qs,RB n q))(_:RB n x)(_:(n+1)*((qs.length+4)*(qs.length+4))<=30000000)(_:qs.length<=1000)(_:∀p H',Hy H H'->H' p=some (nT (Cv.ev qs x))->Q (.ref p) H')
theorem YA{b d:Int}(O:0<b)(hd:0<d):0<b*d.fdiv (rR b d:Int)/\b∣b*d.fdiv (rR b d:Int)/\d∣b*d.fdiv (rR b d:Int):=by
 have W:(0:Int)<(rR b d:Int):=by have:=Nm.gcd_pos (a:=b) (b:=d) Yl;lia
 obtain⟨k,hk⟩:(rR b d:Int)∣d:=Int.gcd_dvd_right ..;obtain⟨j,J⟩:(rR b d:Int)∣b:=Int.gcd_dvd_left ..;generalize(rR b d:Int)=g at *;subst hk;subst J;have e:(g*k).fdiv g=k:=rS _ Yl;rw[e]
 have Y:0<k:=by
  rcases Int.lt_trichotomy k 0 with z | z | z
  ·have:g*k<0:=Int.mul_neg_of_pos_of_neg W z
   lia
  ·rw[z,Int.mul_zero]at hd;lia
  ·exact z
 exact⟨Int.mul_pos O Y,⟨k,Z⟩,⟨j,by grind⟩⟩
inductive UM(K:pP)(vs:yt)(H:Hp)(Q:VK)(E:XK):Prop
 | mk(f g:ge)(fs gs:yo)(m n:Nat)(_:vs=[.ref f,.ref g])(_:SqL K H f (fs.map V.int))(_:SqL K H g (gs.map V.int))(_:1<=gs.length)(_:fs.length<=1000)(_:gs.length<=1000)(_:(∀t∈fs,Bd m t))(_:(∀t∈gs,Bd n t))(_:m+n<=60000000)(_:∀(p:ge) (H':Hp) (ps:yo),Hy H H'->H p=none->H' p=some (.lst (ps.map V.int))->ps.length=fs.length+gs.length-1->(∀x,Cv.evI ps x=Cv.evI fs x*Cv.evI gs x)->(∀t∈ps,Bd (m+n+20) t)->Q (.ref p) H')
inductive Mr(K:pP)(vs:yt)(H:Hp)(Q:VK)(E:XK):Prop
 | mk(l:ge)(ts:yo)(b:Int)(_:vs=[.ref l,.int b])(_:SqL K H l (ts.map V.int))(_:b≠0)(_:ts.length<=1000)(_:∀p H',Hy H H'->Crv K H' p (Cv.strip (ts.map λt=>rV t b))->Q (.ref p) H')
def IE(qs:yn):yn:=(pK (qs.length-1)).map λj=>qs.getD (j+1) 0*((j+1:Nat):Rat)
inductive Pp(K:pP)(vs:yt)(H:Hp)(Q:VK)(E:XK):Prop
 | mk(r:ge)(qs:yn)(n:Nat)(_:vs=[.ref r])(_:Crv K H r qs)(_:qs.length<=1000)(_:(∀q∈qs,RB n q))(_:n<=10000000)(_:∀p H',Hy H H'->Crv K H' p (IE qs)->Q (.ref p) H')
def IG:yn->yn->Rat->Rat
 | k::ks,s::ss,x=>s+(x-k)*IG ks ss x
 | _,_,_=>0
inductive Oh(K:pP)(vs:yt)(H:Hp)(Q:VK)(E:XK):Prop
 | mk(rk rst:ge)(xs ys:yt)(ks ss:yn)(n:Nat)(_:vs=[.ref rk,.ref rst])(_:SqL K H rk xs)(_:HR K H xs ks)(_:SqL K H rst ys)(_:HR K H ys ss)(_:ks.length=ss.length)(_:ks.length<=12)(_:(∀q∈ks,RB n q))(_:(∀q∈ss,RB n q))(_:n<=2048000)(_:∀p H' cs,Hy H H'->Crv K H' p cs->cs.length<=ks.length->Tn cs->(∀q∈cs,RB (2*(n*ks.length)+21*ks.length+2*n+30) q)->(∀x,Cv.ev cs x=IG ks ss x)->Q (.ref p) H')
theorem YR(c x:Rat):Cv.evI [-c.num,(c.den:Int)] x=(x-c)*((c.den:Int):Rat):=by
 show((-c.num:Int):Rat)+x*(((c.den:Int):Rat)+x*0)=_;rw[Rat.intCast_neg,Nm.num_mul c]
 grind
theorem VW(p q:Rat)(Y:q≠0):rV (p.num*q.den) (p.den*q.num)=p / q:=by
 have W:q.num≠0:=λz=>Y (uK.mp z);apply Nm.div_eq (rZ (Nm.den_ne p) W);rw[si,si,Nm.num_mul p,Nm.num_mul q];have e:p / q*q=p:=rY Y;have h:p / q*(((p.den:Int):Rat)*(q*((q.den:Int):Rat)))=(p / q*q)*(((p.den:Int):Rat)*((q.den:Int):Rat)):=by grind
 rw[h,e]
 grind
inductive UN(K:pP)(vs:yt)(H:Hp)(Q:VK)(E:XK):Prop
 | mk(x y:V)(p q:Rat)(m n:Nat)(_:vs=[x,y])(_:HP K H x p)(_:HP K H y q)(_:q≠0)(_:RB m p)(_:RB n q)(_:m+n<=100000000)(_:∀r,H r=none->Q (.ref r) (upd H r (nT (p / q))))
theorem RB.over(h1:RB m p)(h2:RB n q)(Y:q≠0):RB (m+n) (p / q):=by
 have W:q.num≠0:=λz=>Y (uK.mp z);rw[<- VW p q Y];exact⟨Bd.num (h1.1.mul h2.2),Bd.den (rZ (Nm.den_ne p) W) (h1.2.mul h2.1)⟩
def IA(ps:yn):List Li:=(pK (ps.length-1)).map λk:Nat=>(⟨ps.getD 0 0,(k:Int),ps.getD (k+1) 0⟩:Li)
def HI(pss:ym):List Li:=(pss.map IA).flatten
theorem Ih(ps:yn):(IA ps).length=ps.length-1:=by unfold IA;rw[qz,ud]
theorem Ob(pss:ym)(ps:yn):HI (pss++[ps])=HI pss++IA ps:=by
 unfold HI;rw[sD,uL];simp
theorem Jd:∀pss:ym,(∀ps∈pss,ps.length<=3)->(HI pss).length<=2*pss.length
 | [],_=>qd _
 | p::r,h=>by
   have ih:=Jd r λps Y=>h ps (pU _ Y);have Y:=h p pT;have e:HI (p::r)=IA p++HI r:=rfl;rw[e,qV,Ih,qr]
   lia
def P23(pss:ym):Prop:=∀ps∈pss,ps.length=2\/ps.length=3
theorem P23.take(h:P23 pss)(i:Nat):∀ps∈pss.take i,ps.length<=3:=λps Y=>by
 have:=h ps (uM Y);lia
theorem getD_some{l:yn}{i:Nat}(h:i<l.length):l[i]? = some (l.getD i 0):=by rw[sO,sV h];rfl
def cnt(x:Rat):yn->Nat
 | []=>0
 | y::r=>(if x<=y then 1 else 0)+cnt x r
theorem Z3(x:Rat):∀l,cnt x l<=l.length
 | []=>qd _
 | y::r=>by
   have:=Z3 x r;show(if x<=y then 1 else 0)+cnt x r<=r.length+1
   split<;>lia
theorem XN(x:Rat):x<=x+1:=by grind
theorem gC(x:Rat):¬x+1<=x:=by grind
theorem Uv(x:Rat):∀l,cnt (x+1) l<=cnt x l
 | []=>qd _
 | y::r=>by
   have:=Uv x r;show(if x+1<=y then 1 else 0)+cnt (x+1) r<=(if x<=y then 1 else 0)+cnt x r;by_cases h:x+1<=y
   ·rw[if_pos h,if_pos (Rat.le_trans (XN x) h)];lia
   ·rw[if_neg h];lia
theorem Vr:∀{l},x∈l->cnt (x+1) l<cnt x l
 | y::r,h=>by
   show(if x+1<=y then 1 else 0)+cnt (x+1) r<(if x<=y then 1 else 0)+cnt x r
   rcases pV.mp h with z | z
   ·subst z;have:=Uv x r;rw[if_neg (gC x),if_pos Rat.le_refl];lia
   ·have:=Vr z;by_cases h:x+1<=y
    ·rw[if_pos h,if_pos (Rat.le_trans (XN x) h)];lia
    ·rw[if_neg h];lia
inductive MP(K:pP)(vs:yt)(H:Hp)(Q:VK)(E:XK):Prop
 | mk(r:ge)(xs:yt)(pss:ym)(_:vs=[.ref r])(_:SqT K H r xs)(_:Ie K H xs pss)(_:P23 pss)(_:pss.length<=100)(_:∀(p:ge) (H':Hp) (ys:yt),Hy H H'->H p=none->H' p=some (.lst ys)->O8 K H' ys (HI pss)->Q (.ref p) H')
inductive NC(K:pP)(vs:yt)(H:Hp)(Q:VK)(E:XK):Prop
 | mk(r:ge)(xs:yt)(pss:ym)(_:vs=[.ref r])(_:SqT K H r xs)(_:Ie K H xs pss)(_:P23 pss)(_:pss.length<=100)(_:∀(p:ge) (H':Hp) (ys:yt),Hy H H'->H p=none->H' p=some (.lst ys)->Io H' ys ((HI pss).map Li.x)->Q (.ref p) H')
theorem ZN{pss:ym}{f:yn->Rat}{i:Nat}{ps:yn}(W:(pss.map f).Nodup)(h:pss[i]? = some ps):∀Y∈pss.take i,f Y≠f ps:=λY O e=>by
 have h1:((pss.take (i+1)).map f).Nodup:=((qT _ _).map f).nodup W;rw[sC,h,sD,uN]at h1;exact h1.2.2 _ (uO O) _ (by simp) e
def SlD(K:pP)(H:Hp)(kvs:List (List Key×V))(pss:ym):Prop:=∀ps∈pss,ps.length=3->∃v,JJ kvs (kQ (ps.getD 0 0))=some v/\HP K H v (ps.getD 2 0)
theorem SlD.same(h:SlD K H kvs pss)(e:Hy H H'):SlD K H' kvs pss:=λps Y W=>let ⟨v,h1,h2⟩:=h ps Y W;⟨v,h1,h2.same e⟩
inductive PX(K:pP)(vs:yt)(H:Hp)(Q:VK)(E:XK):Prop
 | mk(r:ge)(xs:yt)(pss:ym)(_:vs=[.ref r])(_:SqT K H r xs)(_:Ie K H xs pss)(_:P23 pss)(_:pss.length<=100)(_:(pss.map λps=>ps.getD 0 0).Nodup)(_:∀(d:ge) (H':Hp) (kvs:List (List Key×V)),Hy H H'->H d=none->H' d=some (.dT kvs)->SlD K H' kvs pss->Q (.ref d) H')
def Kx(pss:ym):yn:=(pss.map λps=>qK (ps.length-1) (ps.getD 1 0)).flatten
theorem WC(pss:ym)(ps:yn):Kx (pss++[ps])=Kx pss++qK (ps.length-1) (ps.getD 1 0):=by
 unfold Kx;rw[sD,uL];simp
theorem MB:∀pss,(Kx pss).length=(HI pss).length
 | []=>rfl
 | p::r=>by
   have e:HI (p::r)=IA p++HI r:=rfl;have Y:Kx (p::r)=qK (p.length-1) (p.getD 1 0)++Kx r:=rfl;rw[e,Y,qV,qV,qW,Ih,MB r]
inductive UL(K:pP)(vs:yt)(H:Hp)(Q:VK)(E:XK):Prop
 | mk(r:ge)(xs:yt)(pss:ym)(_:vs=[.ref r])(_:SqT K H r xs)(_:Ie K H xs pss)(_:P23 pss)(_:pss.length<=100)(_:∀(p:ge) (H':Hp) (ys:yt),Hy H H'->H p=none->H' p=some (.lst ys)->HR K H' ys (Kx pss)->Q (.ref p) H')
def kn(pss:ym):yn:=(HI pss).map Li.x
theorem J8(pss:ym):(kn pss).length=(HI pss).length:=qz _
def TC(pss:ym)(x:Rat):Rat :=
 match pss.find? (λps=>decide (ps.length=3)&&decide (ps.getD 0 0=x)) with
 | some ps=>ps.getD 2 0
 | none=>0
def L0(A kn:yn)(sl:Rat->Rat)(k:Nat):yn :=
 (pK (kn.length-k)).map λj=>if kn.getD (j+k) 0=kn.getD j 0 then sl (kn.getD j 0) else (A.getD (j+1) 0-A.getD j 0) / (kn.getD (j+k) 0-kn.getD j 0)
theorem M6(A kn:yn)(Y:Rat->Rat)(k:Nat):(L0 A kn Y k).length=kn.length-k:=by unfold L0;rw[qz,ud]
theorem M7{A kn:yn}(h:j<kn.length-k):(L0 A kn Y k).getD j 0=if kn.getD (j+k) 0=kn.getD j 0 then Y (kn.getD j 0) else (A.getD (j+1) 0-A.getD j 0) / (kn.getD (j+k) 0-kn.getD j 0):=by
 unfold L0;rw[sO,qR,tS h];rfl
theorem IU{l:yn}{i:Nat}(h:i<l.length):l.getD i 0∈l:=qU (getD_some h)
theorem Yn{A kn:yn}(O:∀q∈A,RB m q)(hk:∀q∈kn,RB n q)(hs:∀x,RB (2*m+2*n+2) (J x))(h1:1<=k)(hl:A.length+k=kn.length+1):∀q∈L0 A kn J k,RB (2*m+2*n+2) q:=λq W=>by
 unfold L0 at W;obtain⟨j,hj,rfl⟩:=tR.mp W;have hj:=pO.mp hj
 split
 ·exact hs _
 ·next Y =>
  have a1:=O _ (IU (l:=A) (i:=j+1) Yl);have a0:=O _ (IU (l:=A) (i:=j) Yl);have k1:=hk _ (IU (l:=kn) (i:=j+k) Yl);have k0:=hk _ (IU (l:=kn) (i:=j) Yl);exact(RB.over (a1.minus a0) (k1.minus k0) (λz=>Y (by grind))).mono Yl
def tab(pss:ym):Nat->yn
 | 0=>Kx pss
 | k+1=>L0 (tab pss k) (kn pss) (TC pss) (k+1)
theorem KS(pss:ym):∀k,k<=(HI pss).length->(tab pss k).length=(HI pss).length-k
 | 0,_=>MB pss
 | k+1,_=>by rw[tab,M6,J8]
def bnd(h n:Nat):Nat->Nat
 | 0=>h
 | k+1=>2*bnd h n k+2*n+2
theorem Z9(h n:Nat):∀k,bnd h n k+(2*n+2)=2 ^ k*(h+2*n+2)
 | 0=>by show h+(2*n+2)=1*_;lia
 | k+1=>by
   have:=Z9 h n k;rw[t8,rJ (2 ^ k) 2,Nat.mul_assoc,<- this];show 2*bnd h n k+2*n+2+_=_
   lia
theorem iE(Y:h+2*n+2<=c)(hk:k<=m):bnd h n k<=2 ^ m*c:=by
 have h1:=Z9 h n k;have h2:2 ^ k<=2 ^ m:=sY Yd hk;have W:2 ^ k*(h+2*n+2)<=2 ^ m*c:=uP h2 Y
 lia
theorem Z8(h n:Nat):∀k,h<=bnd h n k
 | 0=>qd _
 | k+1=>by have:=Z8 h n k;show h<=2*bnd h n k+2*n+2;lia
theorem Zo:∀t∈IA ps,t.x=ps.getD 0 0:=λt Y=>by
 unfold IA at Y;obtain⟨k,_,rfl⟩:=tR.mp Y
 rfl
theorem T4(p:yn)(r:ym):kn (p::r)=qK (p.length-1) (p.getD 0 0)++kn r:=by
 have e:HI (p::r)=IA p++HI r:=rfl;unfold kn;rw[e,sD]
 congr 1
 refine List.eq_replicate_iff.mpr ⟨by rw[qz,Ih],λx W=>?_⟩
 obtain⟨t,Y,rfl⟩:=tR.mp W;exact Zo t Y
theorem OF:∀{pss:ym} {x:Rat},x∈kn pss->∃ps∈pss,ps.getD 0 0=x
 | p::r,x,h=>by
   rw[T4]at h
   rcases pW.mp h with z | z
   ·exact⟨p,pT,(tm.mp z).2.symm⟩
   ·obtain⟨ps,h1,h2⟩:=OF z;exact⟨ps,pU _ h1,h2⟩
theorem Ui(Y:∀ps∈pss,RB n (ps.getD 0 0)):∀x∈kn pss,RB n x:=λx W=>by
 obtain⟨ps,h1,rfl⟩:=OF W;exact Y ps h1
theorem Zw(W:P23 pss)(J:∀ps∈pss,∀q∈ps,RB n q):∀x∈Kx pss,RB n x:=λx Y=>by
 unfold Kx at Y;obtain⟨l,O,Y⟩:=uQ.mp Y;obtain⟨ps,h1,rfl⟩:=tR.mp O;rw[(tm.mp Y).2];exact J ps h1 _ (IU (by have:=W ps h1;lia))
theorem Zt(h1:1<=n)(W:∀ps∈pss,∀q∈ps,RB n q)(x:Rat):RB n (TC pss x):=by
 unfold TC
 split
 ·next ps h =>
  have h2:=uC h;have Y:=ue h;rw[Bool.and_eq_true,decide_eq_true_eq,decide_eq_true_eq]at Y;exact W ps h2 _ (IU Yl)
 ·exact RB.zero h1
theorem Sf:∀{pss:ym} {ps:yn},(pss.map λps=>ps.getD 0 0).Nodup->ps∈pss->ps.length=3->TC pss (ps.getD 0 0)=ps.getD 2 0
 | p::r,ps,hnd,hm,h3=>by
   rw[qw,qI]at hnd;unfold TC;rw[rM]
   rcases pV.mp hm with z | z
   ·subst z;rw[decide_eq_true h3,decide_eq_true rfl];rfl
   ·have hne:¬p.getD 0 0=ps.getD 0 0:=λe=>hnd.1 (e ▸ uO (f:=λps:yn=>ps.getD 0 0) z);rw[decide_eq_false hne,Bool.and_false];exact Sf hnd.2 z h3
theorem Xq(h23:P23 pss)(hn:1<=h)(hb:∀ps∈pss,∀q∈ps,RB h q)(hbk:∀ps∈pss,RB n (ps.getD 0 0)):∀k,k<=(HI pss).length->∀q∈tab pss k,RB (bnd h n k) q
 | 0,_=>Zw h23 hb
 | k+1,hk=>by
   rw[tab];exact Yn (Xq h23 hn hb hbk k Yl) (Ui hbk) (λx=>(Zt hn hb x).mono (pQ (Z8 h n k) Yl)) Yl (by rw[KS _ _ Yl,J8];lia)
theorem QE:∀{pss:ym},P23 pss->(pss.map λps=>ps.getD 0 0).Nodup->∀{j k:Nat},1<=k->j+k<(HI pss).length->(kn pss).getD (j+k) 0=(kn pss).getD j 0 ->
 k=1/\∃ps∈pss,ps.length=3/\ps.getD 0 0=(kn pss).getD j 0/\((HI pss).map Li.n).getD (j+1) 0=ps.getD 2 0/\(Kx pss).getD (j+1) 0=(Kx pss).getD j 0
 | p::r,h23,hnd,j,k,h1,hjk,he=>by
   rw[qw,qI]at hnd
   have hout:∀i,i<(kn r).length->(kn r).getD i 0≠p.getD 0 0:=λi hi e=>by
    obtain⟨ps,h1,h2⟩:=OF (IU hi);exact hnd.1 (e ▸ h2 ▸ uO (f:=λps:yn=>ps.getD 0 0) h1)
   have et:HI (p::r)=IA p++HI r:=rfl;have er:Kx (p::r)=qK (p.length-1) (p.getD 1 0)++Kx r:=rfl;have ih:=@QE r (λps h=>h23 ps (pU _ h)) hnd.2;have aa:=J8 r;rw[T4]at he ⊢;rw[et,qV,Ih]at hjk
   rcases h23 p pT with Y | Y
   ·have e1:qK (p.length-1) (p.getD 0 0)=[p.getD 0 0]:=by rw[Y];rfl
    have e2:IA p=[⟨p.getD 0 0,0,p.getD 1 0⟩]:=by unfold IA;rw[Y];rfl
    have O:qK (p.length-1) (p.getD 1 0)=[p.getD 1 0]:=by rw[Y];rfl
    rw[e1]at he ⊢;rw[et,er,e2,O]
    match j with
    | 0 =>
      obtain⟨k',rfl⟩:∃k',k=k'+1:=⟨k-1,Yl⟩;rw[tO]at he;exact absurd he (hout k' Yl)
    | j'+1 =>
      rw[show j'+1+k=(j'+k)+1 by lia]at he
      obtain⟨z1,ps,W,z,z4,z5,J⟩:=ih (j:=j') (k:=k) h1 Yl he;exact⟨z1,ps,pU _ W,z,z4,z5,J⟩
   ·have e1:qK (p.length-1) (p.getD 0 0)=[p.getD 0 0,p.getD 0 0]:=by rw[Y];rfl
    have e2:IA p=[⟨p.getD 0 0,0,p.getD 1 0⟩,⟨p.getD 0 0,1,p.getD 2 0⟩]:=by unfold IA;rw[Y];rfl
    have O:qK (p.length-1) (p.getD 1 0)=[p.getD 1 0,p.getD 1 0]:=by rw[Y];rfl
    rw[e1]at he ⊢;rw[et,er,e2,O]
    match j with
    | 0 =>
      match k,h1 with
      | 1,_=>exact⟨Z,p,pT,Y,Z,Z,Z⟩
      | k'+2,_ =>
        rw[tO]at he;exact absurd he (hout k' Yl)
    | 1 =>
      obtain⟨k',rfl⟩:∃k',k=k'+1:=⟨k-1,Yl⟩;rw[show 1+(k'+1)=k'+2 by lia]at he
      exact absurd he (hout k' Yl)
    | j'+2 =>
      rw[show j'+2+k=(j'+k)+2 by lia]at he
      obtain⟨z1,ps,W,z,z4,z5,J⟩:=ih (j:=j') (k:=k) h1 Yl he;exact⟨z1,ps,pU _ W,z,z4,z5,J⟩
inductive Oe(K:pP)(vs:yt)(H:Hp)(Q:VK)(E:XK):Prop
 | mk(ra rk d:ge)(as ks:yt)(A kn:yn)(kvs:List (List Key×V))(sl:Rat->Rat)(k m n:Nat)(_:vs=[.ref ra,.ref rk,.ref d,.int (k:Int)])(_:SqL K H ra as)(_:HR K H as A)(_:SqL K H rk ks)(_:Io H ks kn)(_:H d=some (.dT kvs))(_:(∀j,j+k<kn.length->kn.getD (j+k) 0=kn.getD j 0->∃v,JJ kvs (kQ (kn.getD j 0))=some v/\HP K H v (sl (kn.getD j 0))))(_:1<=k)(_:k<=kn.length)(_:A.length+k=kn.length+1)(_:kn.length<=100)(_:(∀q∈A,RB m q))(_:(∀q∈kn,RB n q))(_:m<=2000000)(_:n<=1000)(_:∀(p:ge) (H':Hp) (zs:yt),Hy H H'->H p=none->H' p=some (.lst zs)->HR K H' zs (L0 A kn sl k)->Q (.ref p) H')
def FR(K:pP)(H:Hp)(p:ge)(H':Hp)(x:V)(rs:yn):Prop:=∃a zs,x = .ref a/\a≠p/\H a=none/\H' a=some (.lst zs)/\HR K H' zs rs
theorem FR.same(h:FR K H p H1 x Y)(e:Hy H1 H2):FR K H p H2 x Y:=let ⟨a,zs,h1,h2,h3,h4,h5⟩:=h;⟨a,zs,h1,h2,h3,e _ _ h4,yG h5 e⟩
theorem FR.put(h:FR K H p H1 x Y)(e:H1 p=some (.lst ys)):FR K H p (upd H1 p o) x Y:=let ⟨a,zs,h1,h2,h3,h4,h5⟩:=h;⟨a,zs,h1,h2,h3,by rw[HZ h2];exact h4,HR.put h5 e⟩
theorem Vk{Y:Type}(f:Nat->Y)(i:Nat):((pK (i+1)).map f)[i]? = some (f i):=by
 rw[qR,tS Yl];rfl
inductive S8(K:pP)(vs:yt)(H:Hp)(Q:VK)(E:XK):Prop
 | mk(r:ge)(xs:yt)(pss:ym)(hh n:Nat)(_:vs=[.ref r])(_:SqT K H r xs)(_:Ie K H xs pss)(_:P23 pss)(_:pss.length<=100)(_:(pss.map λps=>ps.getD 0 0).Nodup)(_:(HI pss).length<=12)(_:(∀ps∈pss,∀q∈ps,RB hh q))(_:(∀ps∈pss,RB n (ps.getD 0 0)))(_:1<=hh)(_:hh+2*n+2<=1000)(_:∀(p:ge) (H':Hp) (ys:yt),Hy H H'->H p=none->H' p=some (.lst ys)->Paired (FR K H p H') ys ((pK (HI pss).length).map (tab pss))->Q (.ref p) H')
def Iy(pss:ym):yn:=(pK (HI pss).length).map λk=>(tab pss k).getD 0 0
theorem Kc(pss:ym):(Iy pss).length=(HI pss).length:=by unfold Iy;rw[qz,ud]
inductive Po(K:pP)(vs:yt)(H:Hp)(Q:VK)(E:XK):Prop
 | mk(r:ge)(xs:yt)(pss:ym)(hh n:Nat)(_:vs=[.ref r])(_:SqT K H r xs)(_:Ie K H xs pss)(_:P23 pss)(_:pss.length<=100)(_:(pss.map λps=>ps.getD 0 0).Nodup)(_:(HI pss).length<=12)(_:(∀ps∈pss,∀q∈ps,RB hh q))(_:(∀ps∈pss,RB n (ps.getD 0 0)))(_:1<=hh)(_:hh+2*n+2<=1000)(_:∀(p:ge) (H':Hp) (zs:yt),Hy H H'->H p=none->H' p=some (.lst zs)->HR K H' zs (Iy pss)->Q (.ref p) H')
theorem JE:∀{pss:ym},P23 pss->pss.length<=(HI pss).length
 | [],_=>qd _
 | p::r,h=>by
   have ih:=JE (pss:=r) λps Y=>h ps (pU _ Y);have Y:=h p pT;have e:HI (p::r)=IA p++HI r:=rfl;rw[e,qV,Ih,qr]
   lia
theorem MG(X k s:Rat):∀(ks Y:yn),ks.length=Y.length->IG (ks++[k]) (Y++[s]) X=IG ks Y X+s*L2.prV X ks
 | [],[],_=>by show s+(X-k)*0=0+s*1;grind
 | a::ks,b::Y,h=>by
   have ih:=MG X k s ks Y (by simpa using h)
   show b+(X-a)*IG (ks++[k]) (Y++[s]) X=(b+(X-a)*IG ks Y X)+s*((X-a)*L2.prV X ks);rw[ih];grind
theorem QA(T:Nat->Nat->Rat)(x:Nat->Rat)(X:Rat):∀n,IG ((pK n).map x) ((pK n).map λk=>T k 0) X=Cv.ev (L2.nwT T x 0 n) X
 | 0=>rfl
 | n+1=>by
   rw[tQ,sD,sD,L2.M5,<- QA T x X n];show IG (_++[x n]) (_++[T n 0]) X=_;rw[MG _ _ _ _ _ (by rw[qz,qz])]
   unfold L2.prF;have e:(pK n).map x=(pK n).map λi=>x (0+i):=tP λi _=>by rw[tO]
   rw[e]
theorem Vh(l:yn):l=(pK l.length).map λi=>l.getD i 0:=by
 refine sP λi=>?_;rw[qR];by_cases h:i<l.length
 ·rw[tS h];exact getD_some h
 ·rw[uR Yl,uR (by rw[ud];lia)];rfl
def tT(pss:ym)(k j:Nat):Rat:=(tab pss k).getD j 0
def xT(pss:ym)(j:Nat):Rat:=(kn pss).getD j 0
theorem Zm(pss:ym)(X:Rat):IG (kn pss) (Iy pss) X=Cv.ev (L2.nwT (tT pss) (xT pss) 0 (HI pss).length) X:=by
 rw[<- QA];have e:=Vh (kn pss);rw[J8]at e;show IG (kn pss) _ X=IG ((pK (HI pss).length).map λi=>(kn pss).getD i 0) _ X;rw[<- e];rfl
theorem gm(O:P23 pss)(W:(pss.map λps=>ps.getD 0 0).Nodup):L2.Wl (tT pss) (xT pss) (HI pss).length:=λk j hj=>by
 unfold tT xT;rw[tab,M7 (by rw[J8];lia),show j+(k+1)=j+k+1 by lia]
 by_cases he:(kn pss).getD (j+k+1) 0=(kn pss).getD j 0
 ·rw[if_pos he,he];obtain⟨hk,ps,_,_,_,_,J⟩:=QE O W (j:=j) (k:=k+1) Yl Yl he;have Y:k=0:=by lia
  subst Y;show _=(Kx pss).getD (j+1) 0-(Kx pss).getD j 0;rw[J];grind
 ·rw[if_neg he];have hd:(kn pss).getD (j+k+1) 0-(kn pss).getD j 0≠0:=λz=>he (by grind)
  exact rY hd
theorem XY:∀{pss:ym} {ps:yn},P23 pss->ps∈pss->∃i,i<(HI pss).length/\(kn pss).getD i 0=ps.getD 0 0/\(Kx pss).getD i 0=ps.getD 1 0/\(ps.length=3->i+1<(HI pss).length/\(kn pss).getD (i+1) 0=ps.getD 0 0)
 | p::r,ps,h23,hm=>by
   have et:HI (p::r)=IA p++HI r:=rfl;have er:Kx (p::r)=qK (p.length-1) (p.getD 1 0)++Kx r:=rfl;have Y:=h23 p pT;rw[et,er,T4,qV,Ih]
   rcases pV.mp hm with z | z
   ·subst z
    rcases Y with Y | Y
    ·rw[Y];exact⟨0,Yl,Z,Z,λz=>by lia⟩
    ·rw[Y];exact⟨0,Yl,Z,Z,λ_=>⟨Yl,Z⟩⟩
   ·obtain⟨i,h1,h2,O,W⟩:=XY (pss:=r) (λq J=>h23 q (pU _ J)) z
    rcases Y with Y | Y
    ·rw[Y];exact⟨i+1,Yl,h2,O,λz=>⟨by have:=(W z).1;lia,(W z).2⟩⟩
    ·rw[Y];exact⟨i+2,Yl,h2,O,λz=>⟨by have:=(W z).1;lia,(W z).2⟩⟩
def OnC(cs ps:yn):Prop:=Cv.ev cs (ps.getD 0 0)=ps.getD 1 0/\(ps.length=3->Cv.ev (L2.dL cs) (ps.getD 0 0)=ps.getD 2 0)
theorem OnC.like(h:OnC cs ps)(e:∀X,Cv.ev ds X=Cv.ev cs X):OnC ds ps:=⟨by rw[e];exact h.1,λz=>by rw[L2.Oi e];exact h.2 z⟩
theorem S3(W:P23 pss)(Y:(pss.map λps=>ps.getD 0 0).Nodup)(h:∀X,Cv.ev cs X=IG (kn pss) (Iy pss) X):∀ps∈pss,OnC cs ps:=λps J=>by
 have O:=gm W Y;refine OnC.like (cs:=L2.nwT (tT pss) (xT pss) 0 (HI pss).length) ?_ (λX=>by rw[h,Zm])
 obtain⟨i,h1,h2,h3,h4⟩:=XY W J;refine⟨?_,λz=>?_⟩
 ·have e:=L2.Yf O (HI pss).length 0 i Yl h1;rw[tO]at e;rw[<- h2,<- h3];exact e
 ·obtain⟨h5,h6⟩:=h4 z;have e:=L2.RI O (HI pss).length 0 i Yl h5 (by rw[tO];unfold xT;rw[h6,h2])
  rw[tO]at e;rw[<- h2];refine Eq.trans e ?_;show(L0 (Kx pss) (kn pss) (TC pss) 1).getD i 0=_;rw[M7 (by rw[J8];lia),if_pos (by rw[h6,h2]),h2]
  exact Sf Y J z
theorem Ur(h0:Cv.ev e x=0):(∀X,Cv.ev e X=(X-x)*Cv.ev (L2.quo x e) X)/\(∀y,y≠x->Cv.ev e y=0->Cv.ev (L2.quo x e) y=0/\(Cv.ev (L2.dL e) y=0->Cv.ev (L2.dL (L2.quo x e)) y=0))/\Cv.ev (L2.dL e) x=Cv.ev (L2.quo x e) x:=by
 have h1:∀X,Cv.ev e X=(X-x)*Cv.ev (L2.quo x e) X:=λX=>by rw[L2.XU x X e,h0];grind
 have h2:∀X,Cv.ev e X=Cv.ev [-x,1] X*Cv.ev (L2.quo x e) X:=λX=>by
  rw[h1];show _=(-x+X*(1+X*0))*_
  grind
 have W:∀y,Cv.ev (L2.dL e) y=(y-x)*Cv.ev (L2.dL (L2.quo x e)) y+Cv.ev (L2.quo x e) y:=λy=>by
  rw[L2.MS h2 y,L2.Nc];show(-x+y*(1+y*0))*_+1*_=_
  grind
 refine⟨h1,λy hy J=>?_,by rw[W];grind⟩
 have hd:y-x≠0:=λz=>hy (by grind)
 rw[h1]at J;have O:Cv.ev (L2.quo x e) y=0:=(sF.mp J).resolve_left hd;refine⟨O,λY=>?_⟩;rw[W,O]at Y;have Y:(y-x)*Cv.ev (L2.dL (L2.quo x e)) y=0:=by grind
 exact(sF.mp Y).resolve_left hd
theorem Qx:∀{pss:ym},P23 pss->(pss.map λps=>ps.getD 0 0).Nodup->∀{e:yn},e.length<=(HI pss).length->(∀ps∈pss,Cv.ev e (ps.getD 0 0)=0/\(ps.length=3->Cv.ev (L2.dL e) (ps.getD 0 0)=0))->∀X,Cv.ev e X=0
 | [],_,_,e,hl,_,X=>by
   have:e=[]:=sE (Nat.le_zero.mp hl);rw[this];rfl
 | p::r,h23,hnd,e,hl,hz,X=>by
   rw[qw,qI]at hnd;have ih:=@Qx r (λq O=>h23 q (pU _ O)) hnd.2;have et:HI (p::r)=IA p++HI r:=rfl;rw[et,qV,Ih]at hl;obtain⟨z0,z1⟩:=hz p pT;obtain⟨d1,d2,d3⟩:=Ur z0;have W:∀ps∈r,ps.getD 0 0≠p.getD 0 0:=λps Y e=>hnd.1 (e ▸ uO (f:=λps:yn=>ps.getD 0 0) Y)
   have O:∀ps∈r,Cv.ev (L2.quo (p.getD 0 0) e) (ps.getD 0 0)=0/\(ps.length=3->Cv.ev (L2.dL (L2.quo (p.getD 0 0) e)) (ps.getD 0 0)=0):=λps Y=>by
    obtain⟨a1,a2⟩:=hz ps (pU _ Y);obtain⟨b1,z⟩:=d2 _ (W ps Y) a1;exact⟨b1,λh3=>z (a2 h3)⟩
   have ac:=L2.Ng (p.getD 0 0) e
   rcases h23 p pT with hp | hp
   ·rw[d1,ih (e:=L2.quo (p.getD 0 0) e) Yl O];grind
   ·have y0:Cv.ev (L2.quo (p.getD 0 0) e) (p.getD 0 0)=0:=by rw[<- d3];exact z1 hp
    obtain⟨f1,f2,f3⟩:=Ur y0
    have J:∀ps∈r,Cv.ev (L2.quo (p.getD 0 0) (L2.quo (p.getD 0 0) e)) (ps.getD 0 0)=0/\(ps.length=3->Cv.ev (L2.dL (L2.quo (p.getD 0 0) (L2.quo (p.getD 0 0) e))) (ps.getD 0 0)=0):=λps Y=>by
     obtain⟨a1,a2⟩:=O ps Y;obtain⟨b1,z⟩:=f2 _ (W ps Y) a1;exact⟨b1,λh3=>z (a2 h3)⟩
    have aa:=L2.Ng (p.getD 0 0) (L2.quo (p.getD 0 0) e);rw[d1,f1,ih (e:=L2.quo (p.getD 0 0) (L2.quo (p.getD 0 0) e)) Yl J];grind
theorem WJ(z:P23 pss)(O:(pss.map λps=>ps.getD 0 0).Nodup)(hc:c.length<=(HI pss).length)(hd:d.length<=(HI pss).length)(oc:∀ps∈pss,OnC c ps)(od:∀ps∈pss,OnC d ps)(X:Rat):Cv.ev c X=Cv.ev d X:=by
 have Y:∀X,Cv.ev (L2.JD c (L2.LB [-1] d)) X=Cv.ev c X-Cv.ev d X:=λX=>by
  rw[L2.Km,L2.Lp];show _+(-1+X*0)*_=_
  grind
 have J:∀X,Cv.ev (L2.dL (L2.JD c (L2.LB [-1] d))) X=Cv.ev (L2.dL c) X-Cv.ev (L2.dL d) X:=λX=>by
  have h1:∀X,Cv.ev (L2.JD c (L2.LB [-1] d)) X=Cv.ev c X+(-1)*Cv.ev d X:=λX=>by rw[Y];grind
  rw[L2.KP h1];grind
 have ed:(L2.LB [-1] d).length<=max d.length 1:=by
  show(L2.JD (d.map (· * -1)) (0::L2.LB [] d)).length<=_;rw[L2.Lr,qz];exact qd _
 by_cases h0:(HI pss).length=0
 ·have c0:c=[]:=sE Yl;have d0:d=[]:=sE Yl;rw[c0,d0]
 ·have:=Qx z O (e:=L2.JD c (L2.LB [-1] d)) (by rw[L2.Lr];lia) (λps W=>⟨by rw[Y,(oc ps W).1,(od ps W).1];grind,λh3=>by rw[J,(oc ps W).2 h3,(od ps W).2 h3];grind⟩) X
  rw[Y]at this
  grind
abbrev Ms:=Rat×Int
def MsV(K:pP)(H:Hp)(v:V)(t:Ms):Prop:=∃a rx,v = .ref a/\SqT K H a [rx,.int t.2]/\HP K H rx t.1
abbrev Mss(K:pP)(H:Hp):yt->List Ms->Prop:=Paired (MsV K H)
theorem Yv(h:MsV K H x t)(e:Hy H H'):MsV K H' x t:=let ⟨a,rx,h1,h2,h3⟩:=h;⟨a,rx,h1,h2.same e,h3.same e⟩
theorem W0(h:MsV K H x t)(Y:H p=some (.lst ys)):MsV K (upd H p o) x t:=let ⟨a,rx,h1,h2,h3⟩:=h;⟨a,rx,h1,h2.put Y,h3.put Y⟩
theorem Lb(h:Mss K H xs ts)(e:Hy H H'):Mss K H' xs ts:=yu h λ_ _ z=>Yv z e
theorem ZT(h:Mss K H xs ts)(Y:H p=some (.lst ys)):Mss K (upd H p o) xs ts:=yu h λ_ _ z=>W0 z Y
def mD(t:Ms):PyData:=.tuple [nD t.1,.int t.2]
theorem ZS(h:MsV K H v t):Rds K H v (mD t):=by
 obtain⟨a,O,rfl,h2,W⟩:=h;refine .tup h2 rfl λi x d e1 Y=>?_
 match i with
 | 0=>simp at e1 Y;subst e1;subst Y;exact W.rds
 | 1=>simp at e1 Y;subst e1;subst Y;exact .int _
 | i+2=>simp at e1
theorem W4:∀ps:List Ms,PyData.eqvAll (ps.map mD) (ps.map mD)=true
 | []=>rfl
 | p::ps=>by
   show((PyData.eqv (nD p.1) (nD p.1)&&((p.2 == p.2)&&true))&&PyData.eqvAll (ps.map mD) (ps.map mD))=true;rw[SX,W4 ps,decide_eq_true rfl,beq_self_eq_true];rfl
theorem W3:∀qs:List Ms,PyData.canLayAll0 (qs.map mD)=true
 | []=>rfl
 | q::r=>by
   show(PyData.canLay0 (mD q)&&PyData.canLayAll0 (r.map mD))=true;rw[W3 r];rfl
theorem RK:∀qs:List Ms,PyData.depthAll (qs.map mD)<=2
 | []=>qg _
 | q::r=>by
   have ih:=RK r;show max (PyData.depth (mD q)) (PyData.depthAll (r.map mD))<=2;exact Nat.max_le.mpr ⟨qd _,ih⟩
theorem W2(qs:List Ms):SeqAt.shaped (.list (qs.map mD))=true:=by
 show(PyData.canLayAll0 (qs.map mD)&&decide (PyData.depthAll (qs.map mD)+1<=64))=true;rw[W3,Bool.true_and];exact decide_eq_true (by have:=RK qs;lia)
theorem ka(z:SqL K H a xs)(W:Mss K H xs ps)(s2:SqL K H b ys)(O:Mss K H ys ps)(h:Q (.bl (if neg then !true else true)) H):Nf K neg (.ref a) (.ref b) H Q:=by
 have Y:∀{zs:yt},Mss K H zs ps->∀(i:Nat) x d,zs[i]? = some x->(ps.map mD)[i]? = some d->Rds K H x d:=λhz i x d e1 J=>by
  obtain⟨q,hq,hn⟩:=yB hz e1;rw[qR,hq]at J;cases J;exact ZS hn
 refine OK ⟨_,_,.lst z (by rw[W.length,qz]) (Y W),.lst s2 (by rw[O.length,qz]) (Y O),W2 _,W2 _,?_⟩
 have e:PyData.eqv (.list (ps.map mD)) (.list (ps.map mD))=true:=W4 ps;rw[e];exact h
def hk(cs:yn)(t:Li):Rat:=if t.k=1 then Cv.ev (IE cs) t.x else Cv.ev cs t.x
def msd(cs:yn)(ts:List Li):List Ms:=(ts.filter λt=>!decide (hk cs t=t.n)).map λt=>(t.x,t.k)
theorem NT(cs:yn)(ts:List Li)(t:Li):msd cs (ts++[t])=msd cs ts++(if hk cs t=t.n then [] else [(t.x,t.k)]):=by
 unfold msd;rw[List.filter_append,sD]
 congr 1
 by_cases h:hk cs t=t.n
 ·rw[if_pos h,uE,decide_eq_true h];rfl
 ·rw[if_neg h,uE,decide_eq_false h];rfl
theorem UG(h:P23 pss):∀t∈HI pss,t.k=0\/t.k=1:=λt Y=>by
 unfold HI at Y;obtain⟨l,O,Y⟩:=uQ.mp Y;obtain⟨ps,W,rfl⟩:=tR.mp O;unfold IA at Y;obtain⟨k,hk,rfl⟩:=tR.mp Y;have:=pO.mp hk;have:=h ps W;show(k:Int)=0\/(k:Int)=1
 lia
theorem Vw(O:1<=n)(h:∀ps∈pss,∀q∈ps,RB n q):∀t∈HI pss,RB n t.x/\RB n t.n:=λt Y=>by
 unfold HI at Y;obtain⟨l,J,Y⟩:=uQ.mp Y;obtain⟨ps,W,rfl⟩:=tR.mp J
 have g:∀j,RB n (ps.getD j 0):=λj=>by
  rw[sO];cases e:ps[j]? with
  | none=>exact RB.zero O
  | some t=>exact h ps W t (qU e)
 unfold IA at Y;obtain⟨k,hk,rfl⟩:=tR.mp Y;exact⟨g _,g _⟩
theorem TL(hk:k<=1000):RB 11 ((k:Nat):Rat):=⟨by rw[uS];unfold Bd;lia,by rw[uT];unfold Bd;decide⟩
theorem Q8(z:cs.length<=1000)(W:1<=n)(h:∀q∈cs,RB n q):∀q∈IE cs,RB (n+11) q:=λq Y=>by
 unfold IE at Y;obtain⟨j,O,rfl⟩:=tR.mp Y;have J:=pO.mp O
 have g:RB n (cs.getD (j+1) 0):=by
  rw[sO];cases e:cs[j+1]? with
  | none=>exact RB.zero W
  | some t=>exact h t (qU e)
 exact g.times (TL Yl)
theorem KG(cs:yn):(IE cs).length=cs.length-1:=by unfold IE;rw[qz,ud]
theorem Va(k:Int):nT ((k:Int):Rat) = .tup [.int k,.int 1]:=by
 unfold nT;rw[uU,uV]
 rfl
theorem Mn:∀(pss:ym),(HI pss).length=(pss.map λps=>ps.length-1).sum
 | []=>rfl
 | p::r=>by
   have e:HI (p::r)=IA p++HI r:=rfl;rw[e,qV,Ih,Mn r];rfl
theorem Vb(J:P23 pss)(h:∀ps∈pss,OnC cs ps):msd cs (HI pss)=[]:=by
 unfold msd
 have e:(HI pss).filter (λt=>!decide (hk cs t=t.n))=[]:=by
  rw[List.filter_eq_nil_iff];intro t O;unfold HI at O;obtain⟨l,hl,O⟩:=uQ.mp O;obtain⟨ps,W,rfl⟩:=tR.mp hl;unfold IA at O;obtain⟨k,Y,rfl⟩:=tR.mp O;have Y:=pO.mp Y;have hp:=J ps W;obtain⟨o1,o2⟩:=h ps W
  have z:hk cs ⟨ps.getD 0 0,(k:Int),ps.getD (k+1) 0⟩=ps.getD (k+1) 0:=by
   unfold hk
   match k,Y with
   | 0,_=>exact o1
   | 1,Y=>exact(L2.Mt _ _).trans (o2 Yl)
   | k+2,Y=>lia
  rw[z,decide_eq_true rfl];decide
 rw[e];rfl
inductive Nz(K:pP)(vs:yt)(H:Hp)(Q:VK)(E:XK):Prop
 | mk(r:ge)(xs:yt)(pss:ym)(hh n m:Nat)(_:vs=[.ref r])(_:SqT K H r xs)(_:Ie K H xs pss)(_:P23 pss)(_:pss.length<=100)(_:(pss.map λps=>ps.getD 0 0).Nodup)(_:(HI pss).length<=12)(_:(∀ps∈pss,∀q∈ps,RB hh q))(_:(∀ps∈pss,RB n (ps.getD 0 0)))(_:1<=hh)(_:hh+2*n+2<=1000)(_:(∀q∈Iy pss,RB m q))(_:n<=m)(_:m<=2048000)(_:∀(p:ge) (H':Hp) (cs:yn),Hy H H'->Crv K H' p cs->cs.length<=(HI pss).length->Tn cs->(∀q∈cs,RB (26*m+300) q)->(∀x,Cv.ev cs x=IG (kn pss) (Iy pss) x)->Q (.ref p) H')
inductive Of(K:pP)(vs:yt)(H:Hp)(Q:VK)(E:XK):Prop
 | mk(r c:ge)(xs:yt)(pss:ym)(cs:yn)(n:Nat)(_:vs=[.ref r,.ref c])(_:SqT K H r xs)(_:Ie K H xs pss)(_:P23 pss)(_:pss.length<=20)(_:Crv K H c cs)(_:cs.length<=20)(_:(∀ps∈pss,∀q∈ps,RB n q))(_:(∀q∈cs,RB n q))(_:(n+12)*((cs.length+4)*(cs.length+4))<=30000000)(_:1<=n)(_:∀(p:ge) (H':Hp) (ys:yt),Hy H H'->H p=none->H' p=some (.lst ys)->Mss K H' ys (msd cs (HI pss))->Q (.ref p) H')
inductive Lk(K:pP)(vs:yt)(H:Hp)(Q:VK)(E:XK):Prop
 | mk(b:Bool)(r:ge)(xs:yt)(pss:ym)(_:vs=[.ref r])(_:Sq b K H r xs)(_:Ie K H xs pss)(_:P23 pss)(_:1<=pss.length)(_:(pss.map λps=>ps.getD 0 0).Nodup)(_:(HI pss).length<=12)(_:∀(p:ge) (H':Hp),Hy H H'->SqT K H' p xs->(b=false->p=r)->Q (.ref p) H')
theorem Sq.len(h:Sq b K H r xs):SqL K H r xs\/SqT K H r xs:=by
 cases b
 ·exact .inr h
 ·exact .inl h
inductive MO(K:pP)(vs:yt)(H:Hp)(Q:VK)(E:XK):Prop
 | mk(l:ge)(ys:yt)(qs:yn)(_:vs=[.ref l])(_:SqL K H l ys)(_:Io H ys qs)(_:qs.length<=17)(_:∀H',Hy H H'->Q (.bl (decide qs.Nodup)) H')
inductive Wh(K:pP)(H:Hp):V->Bool->Prop where
 | int (i:Int):Wh K H (.int i) true
 | bl (b:Bool):Wh K H (.bl b) false
 | oth {x:V} {t:gl} (ty:TyX K H x t) (h:qC K t (.type "int")=some false):Wh K H x false
inductive Nb(K:pP)(H:Hp):V->Bool->Prop where
 | no {x:V} {t:gl} (ty:TyX K H x t) (h:qC K t (.type "tuple")=some false):Nb K H x false
 | len {a:ge} {xs:yt} (h:SqT K H a xs) (hl:xs.length≠2):Nb K H (.ref a) false
 | one {a:ge} {p q:V} (h:SqT K H a [p,q]) (w:Wh K H p false):Nb K H (.ref a) false
 | two {a:ge} {i:Int} {q:V} (h:SqT K H a [.int i,q]) (w:Wh K H q false):Nb K H (.ref a) false
 | nums {a:ge} {i j:Int} {b:Bool} (h:SqT K H a [.int i,.int j]) (e:b=(decide (1<=j)&&decide ((rR i j:Int)=1))):Nb K H (.ref a) b
inductive Pb(K:pP)(H:Hp):V->Bool->Prop where
 | no {x:V} {t:gl} (ty:TyX K H x t) (h:qC K t (.type "tuple")=some false):Pb K H x false
 | len {a:ge} {xs:yt} (h:SqT K H a xs) (h2:xs.length≠2) (h3:xs.length≠3):Pb K H (.ref a) false
 | all {a:ge} {xs:yt} {bs:List Bool} (h:SqT K H a xs) (h23:xs.length=2\/xs.length=3) (hb:Paired (Nb K H) xs bs):Pb K H (.ref a) (bs.all id)
theorem TyX.same(h:TyX K H x t)(e:Hy H H'):TyX K H' x t:=by
 cases h with
 | of ty=>exact .of (by
  cases ty with
  | non=>exact .non
  | bl x=>exact .bl x
  | int i=>exact .int i
  | str x=>exact .str x
  | flt x=>exact .flt x
  | lst q=>exact .lst (e _ _ q)
  | frz q=>exact .frz (e _ _ q)
  | tup q=>exact .tup (e _ _ q)
  | dK q=>exact .dK (e _ _ q)
  | dT q=>exact .dT (e _ _ q)
  | ins q a b c d f=>exact .ins (e _ _ q) a b c d f)
 | tup q=>exact .tup (q.same e)
 | lst q=>exact .lst (yz e q)
theorem Wh.same(h:Wh K H x b)(e:Hy H H'):Wh K H' x b:=by
 cases h with
 | int i=>exact .int i
 | bl b=>exact .bl b
 | oth ty k=>exact .oth (TyX.same ty e) k
theorem Nb.same(h:Nb K H x b)(e:Hy H H'):Nb K H' x b:=by
 cases h with
 | no ty k=>exact .no (TyX.same ty e) k
 | len q l=>exact .len (q.same e) l
 | one q w=>exact .one (q.same e) (w.same e)
 | two q w=>exact .two (q.same e) (w.same e)
 | nums q k=>exact .nums (q.same e) k
theorem Pb.same(h:Pb K H x b)(e:Hy H H'):Pb K H' x b:=by
 cases h with
 | no ty k=>exact .no (TyX.same ty e) k
 | len q l2 l3=>exact .len (q.same e) l2 l3
 | all q l hb=>exact .all (q.same e) l (yu hb λ_ _ z=>z.same e)
theorem Nb.of(h:HP K H x q):Nb K H x true:=by
 obtain⟨r,rfl,Y⟩:=h;refine .nums Y ?_;have h1:1<=(q.den:Int):=by have:=q.den_pos;lia
 have h2:(rR q.num (q.den:Int):Int)=1:=by
  have:=q.reduced;show((Nat.gcd q.num.natAbs (q.den:Int).natAbs:Nat):Int)=1;rw[Int.natAbs_natCast]
  exact_mod_cast this
 rw[decide_eq_true h1,decide_eq_true h2]
 rfl
theorem Nb.all(h:HR K H xs qs):Paired (Nb K H) xs (qK qs.length true):=by
 induction h with
 | nil=>exact .nil
 | cons a _ ih=>exact .cons (Nb.of a) ih
theorem QM(n:Nat):(qK n true).all id=true:=by
 induction n with
 | zero=>rfl
 | succ n ih=>rw[rE,List.all_cons,ih];rfl
theorem Pb.of(h:PtV K H x ps)(Y:ps.length=2\/ps.length=3):Pb K H x true:=by
 obtain⟨a,rfl,xs,O,W⟩:=h;have:=Pb.all O (by rw[W.length];exact Y) (Nb.all W)
 rw[QM]at this;exact this
inductive XB(K:pP)(vs:yt)(H:Hp)(Q:VK)(E:XK):Prop
 | mk(x:_)(b:_)(_:vs=[x])(_:Wh K H x b)(_:Q (.bl b) H)
inductive VD(K:pP)(vs:yt)(H:Hp)(Q:VK)(E:XK):Prop
 | mk(x:_)(b:_)(_:vs=[x])(_:Nb K H x b)(_:Q (.bl b) H)
inductive VC(K:pP)(vs:yt)(H:Hp)(Q:VK)(E:XK):Prop
 | mk(x:_)(b:_)(_:vs=[x])(_:Pb K H x b)(_:∀H',Hy H H'->Q (.bl b) H')
inductive OS(K:pP)(H:Hp):V->Prop where
 | no {x:V} {t:gl} (ty:TyP K H x t) (h:PySem.W.kitAny K t [.type "list",.type "tuple"]=some false):OS K H x
 | nil {b:Bool} {r:ge} (h:Sq b K H r []):OS K H (.ref r)
 | pt {b:Bool} {r:ge} {xs:yt} {bs:List Bool} (h:Sq b K H r xs) (hp:Paired (Pb K H) xs bs) (hb:bs.all id=false) (h17:xs.length<=17):OS K H (.ref r)
 | twice {b:Bool} {r:ge} {xs:yt} {pss:ym} (h:Sq b K H r xs) (hp:Ie K H xs pss) (h23:P23 pss) (hnd:¬(pss.map λps=>ps.getD 0 0).Nodup) (h17:pss.length<=17):OS K H (.ref r)
def Wq(K:pP)(H:Hp)(x:V):Prop:=∃(b:Bool) (r:ge) (xs:yt) (pss:ym),x = .ref r/\Sq b K H r xs/\Ie K H xs pss/\P23 pss/\1<=pss.length/\(pss.map λps=>ps.getD 0 0).Nodup/\12<(HI pss).length/\pss.length<=17
inductive Od(K:pP)(CP CM:ge)(vs:yt)(H:Hp)(E_2:VK)(E:XK):Prop
 | mk(x:V)(_:vs=[x])(_:((OS K H x/\∀H',Hy H H'->E (.ref CP) none H')\/(Wq K H x/\∀H',Hy H H'->E (.ref CM) none H')))
theorem TyP.same(h:TyP K H x t)(e:Hy H H'):TyP K H' x t:=by
 cases h with
 | non=>exact .non
 | bl x=>exact .bl x
 | int i=>exact .int i
 | str x=>exact .str x
 | lst q=>exact .lst (yz e q)
 | tup q=>exact .tup (q.same e)
 | dK q=>exact .dK (e _ _ q)
 | dT q=>exact .dT (e _ _ q)
theorem V0(h:Ie K H xs pss)(Y:P23 pss):Paired (Pb K H) xs (qK pss.length true):=by
 induction h with
 | nil=>exact .nil
 | cons a _ ih=>exact .cons (Pb.of a.pt (Y _ pT)) (ih λps W=>Y ps (pU _ W))
theorem JY(Y:SqT K H r xs)(O:v<=xs.length)(h:∀(p:ge) (H':Hp),Hy H H'->SqT K H' p (xs.take v)->Q (.ref p) H'):XR K (.ref r) none (some (v:Int)) H Q:=by
 by_cases e:v=xs.length
 ·refine .inr ⟨r,xs,Z,Y,⟨Z,by rw[HT.sIx_nat];lia⟩,h r H (yy _) ?_⟩
  rw[tX Yl];exact Y
 ·refine .inl ⟨r,xs,Z,Y,by rw[HT.sIx_nat];lia,λp W=>?_⟩
  rw[Z0];exact h p _ (yA W) (yx Hu)
theorem Ki(Y:SqT K H r xs)(O:v<=xs.length)(h:∀(p:ge) (H':Hp),Hy H H'->SqT K H' p (xs.drop v)->Q (.ref p) H'):XR K (.ref r) (some (v:Int)) none H Q:=by
 by_cases e:v=0
 ·subst e;refine .inr ⟨r,xs,Z,Y,⟨by rw[HT.sIx_nat];lia,Z⟩,h r H (yy _) ?_⟩
  rw[tV];exact Y
 ·by_cases e0:xs.length=0
  ·lia
  ·refine .inl ⟨r,xs,Z,Y,by rw[HT.sIx_nat];lia,λp W=>?_⟩
   rw[Ut];exact h p _ (yA W) (yx Hu)
theorem JV(Y:SqT K H a xs)(W:SqT K H b ys)(z:xs.length+ys.length<=io)(h:∀(p:ge) (H':Hp),Hy H H'->SqT K H' p (xs++ys)->Q (.ref p) H'):UU K (.ref a) (.ref b) H Q:=by
 by_cases ex:xs=[]
 ·subst ex;exact .inr ⟨a,b,ys,Z,Z,Y,W,h b H (yy _) W⟩
 ·refine .inl ⟨a,b,xs,ys,Z,Z,Y,W,ex,z,λJ=>?_,λ_ p O=>h p _ (yA O) (yx Hu)⟩;subst J;exact h a H (yy _) (by rw[qG];exact Y)
theorem Jn:∀{l₁:List α} {l₂:List β} (i:Nat),Paired F l₁ l₂->Paired F (l₁.drop i) (l₂.drop i)
 | _,_,i,.nil=>by rw[List.drop_nil,List.drop_nil];exact .nil
 | _,_,0,.cons h t=>.cons h t
 | _,_,i+1,.cons _ t=>Jn i t
theorem YB(Y:Nat->yt->Hp->Prop)(h0:Y 0 [] H)
 (z:∀i zs H,i<=xs.length->Y i zs H->SqT K H a xs/\zs.length<=i) (hz:xs.length<=io)
 (hs:∀i x zs H,xs[i]? = some x->Y i zs H->tc ((cS 1 js σ).set 0 (some x)) H λb H3=>if b=true then te ((cS 1 js σ).set 0 (some x)) H3 λy H4=>Y (i+1) (zs++[y]) H4 else Y (i+1) zs H3) (J:∀zs H',Y xs.length zs H'->O zs H') :
 ∃(n':Nat) (W:Nat->yt->Hp->Prop),W 0 [] H/\LcW (Itt K a) n' 1 js σ (K1 0) tc te O W:=by
 refine⟨xs.length,Y,h0,⟨?_,?_,?_⟩⟩
 ·intro i zs H' hi p;obtain⟨h1,h2⟩:=z i zs H' (pR hi) p;exact⟨⟨xs,xs[i],h1,by simp[hi]⟩,Yl⟩
 ·rintro i zs H' x H1 hi p ⟨rfl,y⟩;exact hs i x zs _ (y xs (z i zs _ (pR hi) p).1) p
 ·intro zs H' p;obtain⟨h1,h2⟩:=z _ zs H' (qd _) p;exact⟨⟨xs,h1,qd _⟩,Yl,J zs H' p⟩
theorem KZ:∀{l₁:List α} {l₂:List β} (i:Nat) {x:α} {y:β},Paired F l₁ l₂->F x y->Paired F (l₁.set i x) (l₂.set i y)
 | _,_,_,_,_,.nil,_=>.nil
 | _,_,0,_,_,.cons _ t,h=>.cons h t
 | _,_,i+1,_,_,.cons g t,h=>.cons g (KZ i t h)
theorem VU(h:P23 pss)(h2:ps.length=2\/ps.length=3):P23 (pss.set m ps):=λqs Y=>by
 rcases uW Y with z | z
 ·exact h qs z
 ·subst z;exact h2
theorem Yo{pss:ym}{m:Nat}{ps qs:yn}(h:pss[m]? = some ps)(W:qs.getD 0 0=ps.getD 0 0)(Y:(pss.map λps=>ps.getD 0 0).Nodup):((pss.set m qs).map λps=>ps.getD 0 0).Nodup:=by
 rw[sx,W];have e:(pss.map λps=>ps.getD 0 0)[m]? = some (ps.getD 0 0):=by rw[qR,h];rfl
 obtain⟨O,e⟩:=pY.mp e;rw[<- e,List.set_getElem_self];exact Y
theorem V9{pss:ym}{i j:Nat}{ps qs:yn}(Y:(pss.map λps=>ps.getD 0 0).Nodup)(h1:pss[i]? = some ps)(h2:pss[j]? = some qs)(he:ps.getD 0 0=qs.getD 0 0):i=j:=by
 have O:(pss.map λps=>ps.getD 0 0)[i]? = some (ps.getD 0 0):=by rw[qR,h1];rfl
 have W:(pss.map λps=>ps.getD 0 0)[j]? = some (ps.getD 0 0):=by rw[qR,h2,he];rfl
 obtain⟨J,O⟩:=pY.mp O;obtain⟨b2,W⟩:=pY.mp W
 rcases uB i j with z | z | z
 ·exact absurd (O.trans W.symm) (uy.mp Y i j J b2 z)
 ·exact z
 ·exact absurd (W.trans O.symm) (uy.mp Y j i b2 J z)
inductive Pr(K:pP)(vs:yt)(H:Hp)(Q:VK)(E:XK):Prop
 | mk(r:ge)(x:V)(xs:yt)(pss:ym)(ps:yn)(_:vs=[.ref r,x])(_:SqT K H r xs)(_:Ie K H xs pss)(_:PtT K H x ps)(_:P23 (pss++[ps]))(_:((pss++[ps]).map λps=>ps.getD 0 0).Nodup)(_:(HI (pss++[ps])).length<=12)(_:∀(p:ge) (H':Hp),Hy H H'->SqT K H' p (xs++[x])->Q (.ref p) H')
inductive Q4(K:pP)(vs:yt)(H:Hp)(Q:VK)(E:XK):Prop
 | mk(r:ge)(x v:V)(xs:yt)(pss:ym)(m:Nat)(ps:yn)(_:vs=[.ref r,x])(_:SqT K H r xs)(_:Ie K H xs pss)(_:(pss.map λps=>ps.getD 0 0).Nodup)(_:pss[m]? = some ps)(_:xs[m]? = some v)(_:HP K H x (ps.getD 0 0))(_:Q v H)
inductive S7(K:pP)(vs:yt)(H:Hp)(Q:VK)(E:XK):Prop
 | mk(r:ge)(x:V)(xs:yt)(pss:ym)(m:Nat)(ps:yn)(_:vs=[.ref r,x])(_:SqT K H r xs)(_:Ie K H xs pss)(_:(pss.map λps=>ps.getD 0 0).Nodup)(_:pss[m]? = some ps)(_:HP K H x (ps.getD 0 0))(_:2<=pss.length)(_:pss.length<=100)(_:∀(p:ge) (H':Hp),Hy H H'->SqT K H' p (xs.take m++xs.drop (m+1))->Q (.ref p) H')
inductive LN(K:pP)(vs:yt)(H:Hp)(Q:VK)(E:XK):Prop
 | mk(r:ge)(v y:V)(xs:yt)(pss:ym)(m:Nat)(ps qs:yn)(_:vs=[.ref r,v,y])(_:SqT K H r xs)(_:Ie K H xs pss)(_:(pss.map λps=>ps.getD 0 0).Nodup)(_:P23 pss)(_:pss[m]? = some ps)(_:xs[m]? = some v)(_:PtT K H y qs)(_:qs.getD 0 0=ps.getD 0 0)(_:(qs.length=2\/qs.length=3))(_:(HI pss).length<=12)(_:(HI (pss.set m qs)).length<=12)(_:∀(p:ge) (H':Hp),Hy H H'->SqT K H' p (xs.set m y)->Q (.ref p) H')
inductive S4(K:pP)(vs:yt)(H:Hp)(Q:VK)(E:XK):Prop
 | mk(r px:ge)(y:V)(xs:yt)(pss:ym)(m:Nat)(ps:yn)(c:Rat)(_:vs=[.ref r,.ref px,y])(_:SqT K H r xs)(_:Ie K H xs pss)(_:(pss.map λps=>ps.getD 0 0).Nodup)(_:P23 pss)(_:pss[m]? = some ps)(_:H px=some (nT (ps.getD 0 0)))(_:HP K H y c)(_:(HI pss).length<=12)(_:(HI (pss.set m ([ps.getD 0 0,c]++ps.drop 2))).length<=12)(_:∀(p:ge) (H':Hp) (xs':yt),Hy H H'->SqT K H' p xs'->Ie K H' xs' (pss.set m ([ps.getD 0 0,c]++ps.drop 2))->Q (.ref p) H')
inductive Pn(K:pP)(vs:yt)(H:Hp)(Q:VK)(E:XK):Prop
 | mk(r:ge)(x s:V)(xs:yt)(pss:ym)(m:Nat)(ps qs:yn)(_:vs=[.ref r,x,s])(_:SqT K H r xs)(_:Ie K H xs pss)(_:(pss.map λps=>ps.getD 0 0).Nodup)(_:P23 pss)(_:pss[m]? = some ps)(_:HP K H x (ps.getD 0 0))(_:(s = .non/\qs=ps.take 2\/∃c,HP K H s c/\qs=ps.take 2++[c]))(_:(HI pss).length<=12)(_:(HI (pss.set m qs)).length<=12)(_:∀(p:ge) (H':Hp) (xs':yt),Hy H H'->SqT K H' p xs'->Ie K H' xs' (pss.set m qs)->Q (.ref p) H')
theorem gG(n:Nat)(W:SqT K H t (us.take (n+1)))(J:HR K H us ps)(O:us[0]? = some (.ref p))(Y:H p=some (nT (ps.getD 0 0))):PtT K H (.ref t) (ps.take (n+1)):=by
 refine⟨t,_,p,Z,W,yD _ J,?_,?_⟩
 ·rw[uX,if_pos Yl];exact O
 ·cases ps with
  | nil=>exact Y
  | cons a r=>exact Y
def JW(m p t:ge):Nat->ge
 | 0=>m
 | 1=>p
 | _=>t
structure Pok(K:pP)(H:Hp)(r:ge)(xs:yt)(pss:ym):Prop where
 S:SqT K H r xs
 P:Ie K H xs pss
 h23:P23 pss
 h1:1<=pss.length
 nd:(pss.map λps=>ps.getD 0 0).Nodup
 h12:(HI pss).length<=12
theorem Pok.same(h:Pok K H r xs pss)(e:Hy H H'):Pok K H' r xs pss:=⟨h.S.same e,yK h.P e,h.h23,h.h1,h.nd,h.h12⟩
theorem Pok.mv(h:Pok K H r xs pss)(pn:Pen H p)(m:Mv p H H'):Pok K H' r xs pss:=⟨h.S.mv pn m,Ie.mv h.P pn m,h.h23,h.h1,h.nd,h.h12⟩
theorem Pok.len(h:Pok K H r xs pss):pss.length<=12:=pQ (JE h.h23) h.h12
inductive Rm(K:pP)(H:Hp)(pss:ym):V->Nat->Prop where
 | pt {y:V} (h:Pb K H y false):Rm K H pss y 1
 | twice {y:V} {ps:yn} (h:PtT K H y ps) (h23:ps.length=2\/ps.length=3) (hm:ps.getD 0 0∈pss.map λps=>ps.getD 0 0):Rm K H pss y 1
 | many {y:V} {ps:yn} (h:PtT K H y ps) (h23:ps.length=2\/ps.length=3) (hm:ps.getD 0 0∉pss.map λps=>ps.getD 0 0) (ht:12<(HI (pss++[ps])).length):Rm K H pss y 0
theorem Rm.same(h:Rm K H pss y n)(e:Hy H H'):Rm K H' pss y n:=by
 cases h with
 | pt h=>exact .pt (h.same e)
 | twice h a b=>exact .twice (h.same e) a b
 | many h a b c=>exact .many (h.same e) a b c
theorem ME(h:P23 pss)(h2:ps.length=2\/ps.length=3):P23 (pss++[ps]):=λqs Y=>by
 rcases pW.mp Y with z | z
 ·exact h qs z
 ·rw[sU.mp z];exact h2
theorem ZA(h:Pok K H r xs pss)(z:Rm K H pss y n)(W:Sq true K H l (xs++[y])):n=1/\OS K H (.ref l)\/n=0/\Wq K H (.ref l):=by
 have hl:=h.len;have aa:=h.P.length;cases z with
 | pt Y =>
   refine .inl ⟨Z,.pt W (yE (V0 h.P h.h23) (.cons Y .nil)) ?_ (by rw[qV,rH];lia)⟩
   rw[List.all_append];show(_&&(false&&true))=false;rw[Bool.false_and,Bool.and_false]
 | @twice ps hp h2 hm =>
   refine .inl ⟨Z,.twice W (Paired.snoc h.P hp) (ME h.h23 h2) (λO=>?_) (by rw[qV,rH];lia)⟩
   rw[sD,uN]at O;exact O.2.2 _ hm _ (pT ..) rfl
 | @many ps hp h2 hm ht =>
   refine .inr ⟨Z,true,l,_,_,Z,W,Paired.snoc h.P hp,ME h.h23 h2,by rw[qV,rH];lia,?_,ht,by rw[qV,rH];lia⟩
   rw[sD,uN];refine⟨h.nd,uY ..,λa J b Y e=>?_⟩;rw[uZ,sU]at Y;exact hm (by rw[<- Y,<- e];exact J)
inductive Q3(K:pP)(cl:Nat->ge)(vs:yt)(H:Hp)(E_2:VK)(E:XK):Prop
 | mk(r:ge)(y:V)(xs:yt)(pss:ym)(n:Nat)(_:vs=[.ref r,y])(_:Pok K H r xs pss)(_:Rm K H pss y n)(_:∀H',Hy H H'->E (.ref (cl n)) none H')
def TkR(pss:ym)(q:Rat)(n:Nat):Prop:=(n=2/\q∉pss.map λps=>ps.getD 0 0)\/(n=1/\pss.length=1/\q∈pss.map λps=>ps.getD 0 0)
inductive jD(K:pP)(H:Hp)(pss:ym)(m:Nat)(ps:yn):V->Nat->Prop where
 | pt {y:V} (h:Pb K H y false):jD K H pss m ps y 1
 | many {y:V} {qs:yn} (h:PtT K H y qs) (h0:qs.getD 0 0=ps.getD 0 0) (h23:qs.length=2\/qs.length=3) (ht:12<(HI (pss.set m qs)).length):jD K H pss m ps y 0
def HtR(K:pP)(H:Hp)(pss:ym)(q:Rat)(y:V)(n:Nat):Prop:=(n=2/\q∉pss.map λps=>ps.getD 0 0)\/(n=1/\(q∈pss.map λps=>ps.getD 0 0)/\Nb K H y false)
inductive Wm(K:pP)(H:Hp)(pss:ym)(q:Rat):V->Nat->Prop where
 | far {s:V} (h:q∉pss.map λps=>ps.getD 0 0):Wm K H pss q s 2
 | odd {s:V} (h:q∈pss.map λps=>ps.getD 0 0) (hs:Nb K H s false) (hn:s ≠ .non):Wm K H pss q s 1
 | many {s:V} {c:Rat} {m:Nat} {ps:yn} (hm:pss[m]? = some ps) (hq:ps.getD 0 0=q) (hs:HP K H s c) (ht:12<(HI (pss.set m (ps.take 2++[c]))).length):Wm K H pss q s 0
theorem PM(W:pss[m]? = some ps)(O:ps.length=2\/ps.length=3):(HI (pss.set m (ps.take 2))).length<=(HI pss).length:=by
 induction pss generalizing m with
 | nil=>cases W
 | cons p r ih =>
   cases m with
   | zero =>
     cases W;have e:HI ((ps::r).set 0 (ps.take 2))=IA (ps.take 2)++HI r:=rfl;have Y:HI (ps::r)=IA ps++HI r:=rfl;rw[e,Y,qV,qV,Ih,Ih,qN];lia
   | succ m =>
     have e:HI ((p::r).set (m+1) (ps.take 2))=IA p++HI (r.set m (ps.take 2)):=rfl;have Y:HI (p::r)=IA p++HI r:=rfl;have:=ih (m:=m) W;rw[e,Y,qV,qV];lia
inductive Rf(K:pP)(H:Hp)(pss:ym):Int->V->V->Nat->Prop where
 | put {x y:V} {n:Nat} (h:Rm K H pss y n):Rf K H pss 0 x y n
 | out {x y:V} {q:Rat} {n:Nat} (hx:Nq H x q) (h:TkR pss q n):Rf K H pss 1 x y n
 | hgt {x y:V} {q:Rat} {n:Nat} (hx:Nq H x q) (h:HtR K H pss q y n):Rf K H pss 2 x y n
 | slo {x y:V} {q:Rat} {n:Nat} (hx:Nq H x q) (h:Wm K H pss q y n):Rf K H pss 3 x y n
 | gain {x:V} {q:Rat} {k:Int} (hx:Nq H x q) (h:(q,k)∉((HI pss).map λt=>(t.x,t.k))):Rf K H pss 4 x (.int k) 2
 | loss {x y:V} {q:Rat} {n:Nat} (hx:Nq H x q) (h:TkR pss q n):Rf K H pss 5 x y n
 | new {x y:V} {n:Nat} (h:Rm K H pss y n):Rf K H pss 6 x y n
theorem JM(Y bs:ym):HI (Y++bs)=HI Y++HI bs:=by unfold HI;rw[sD,uL]
theorem Rr(W:pss[m]? = some ps):(HI (pss.set m qs)).length+(ps.length-1)=(HI pss).length+(qs.length-1):=by
 induction pss generalizing m with
 | nil=>cases W
 | cons p r ih =>
   cases m with
   | zero =>
     cases W;have e:HI ((ps::r).set 0 qs)=IA qs++HI r:=rfl;have Y:HI (ps::r)=IA ps++HI r:=rfl;rw[e,Y,qV,qV,Ih,Ih];lia
   | succ m =>
     have e:HI ((p::r).set (m+1) qs)=IA p++HI (r.set m qs):=rfl;have Y:HI (p::r)=IA p++HI r:=rfl;have:=ih (m:=m) W;rw[e,Y,qV,qV];lia
def Fg(x:Rat):Prop:=x.num.natAbs<10 ^ 6/\x.den<10 ^ 6
theorem Vo(W:b≠0)(O:t.natAbs<10 ^ 6)(Y:b.natAbs<10 ^ 6):Fg (rV t b):=by
 refine⟨?_,?_⟩
 ·rw[<- Nm.top_msr W];exact rL (PySem.natAbs_fdiv_le t _) O
 ·have h:(((rV t b).den:Nat):Int).natAbs<10 ^ 6:=by
   rw[<- Nm.bottom_msr W];exact rL (PySem.natAbs_fdiv_le b _) Y
  simpa using h
theorem Vi(h:i.natAbs<10 ^ 6):(txI i).length<=61:=by
 rw[Ik]
 rcases KQ i with ⟨n,e,Y⟩ | ⟨n,W,e,Y⟩
 ·rw[Y];exact pQ (Me (k:=6) Yd Yl) Yd
 ·rw[Y,qr];have:=Me (n:=n) (k:=6) Yd Yl
  lia
theorem Yz(h:Fg x):(tx x).length<=123:=by
 have h1:=Vi h.1;have h2:=Vi (i:=(x.den:Int)) (by have:=h.2;lia)
 unfold tx
 split
 ·lia
 ·have Y:(Str.ofString "/").length=1:=by rw[Ik,Ji];rfl
  rw[Ik,IB,IB,qV,qV,<- Ik,<- Ik,<- Ik]
  lia
def jF(t:Str):Prop:=sg t≠[]/\(sg t).length<=6/\(∀c∈sg t,48<=c/\c<=57)/\∀r,sg t=48::r->r=[]
theorem T9(Y:sg t=dg n)(h:n<10 ^ 6):jF t:=by
 refine⟨by rw[Y];exact O2 n,by rw[Y];exact Me Yd h,λc O=>Ld (by rw[<- Y];exact O),λr W=>?_⟩
 have z:=O3 (Y.symm.trans W);subst z;exact(tj.inj (Y.symm.trans W)).2.symm
theorem YO(h1:48<=c)(h2:c<=57):(!(Builtin.Str.occurrences (Str.ofString "0123456789") ⟨#[c]⟩ 0 (Str.ofString "0123456789").length 1).isEmpty)=true:=by
 rw[PyProof.Rows.empty_one,Bool.not_not];refine decide_eq_true ?_;show c∈sg _;rw[Ji];have:c=48\/c=49\/c=50\/c=51\/c=52\/c=53\/c=54\/c=55\/c=56\/c=57:=by lia
 rcases this with rfl | rfl | rfl | rfl | rfl | rfl | rfl | rfl | rfl | rfl<;>decide
theorem NG:sg (Str.ofString "-")=[45]:=by rw[Ji];rfl
theorem UK(h:sg t=45::r):Txt.startswith t (Str.ofString "-")=true:=by
 unfold Txt.startswith;rw[StrLaws.subAt_eq,Ik,Ik t,NG,h];show(decide (0+1<=(45::r).length)&&((((sg t).drop 0).take 1) == sg (Str.ofString "-")))=true;rw[h,NG];simp
theorem Wx(h:sg t=c::r)(Y:c≠45):Txt.startswith t (Str.ofString "-")=false:=by
 unfold Txt.startswith;rw[StrLaws.subAt_eq,Ik,Ik t,NG,h];show(decide (0+1<=(c::r).length)&&((((sg t).drop 0).take 1) == sg (Str.ofString "-")))=false;rw[h,NG];simp[Y]
theorem Qz(xs:yn):((xs.map nD).any λy=>PyData.eqv y .none)=false:=by
 induction xs with
 | nil=>rfl
 | cons x r ih=>rw[qw,rC,ih];rfl
inductive VE(vs:yt)(H:Hp)(Q:VK)(E:XK):Prop
 | mk(t:Str)(_:vs=[.str t,.int 6])(_:jF t)(_:∀H',Hy H H'->Q (.bl true) H')
inductive XC(vs:yt)(H:Hp)(Q:VK)(E:XK):Prop
 | mk(i:Int)(_:vs=[.str (txI i),.int 6])(_:i.natAbs<10 ^ 6)(_:∀H',Hy H H'->Q (.bl true) H')
inductive Pu(vs:yt)(H:Hp)(Q:VK)(E:XK):Prop
 | mk(x:Rat)(_:vs=[.str (tx x),.int 6])(_:Fg x)(_:∀p H',Hy H H'->H p=none->H' p=some (nT x)->Q (.ref p) H')
inductive XE(vs:yt)(H:Hp)(Q:VK)(E:XK):Prop
 | mk(t:Str)(_:vs=[.str t])(_:Q .non H)
inductive Q6(K:pP)(vs:yt)(H:Hp)(Q:VK)(E:XK):Prop
 | mk(l:ge)(xs:yn)(_:vs=[.ref l,.int 6])(_:SqL K H l (xs.map λx=>V.str (tx x)))(_:(∀x∈xs,Fg x))(_:xs.length<=1000)(_:∀p ys H',Hy H H'->H p=none->H' p=some (.lst ys)->Io H' ys xs->Q (.ref p) H')
def Iz:Str:=Str.ofString " "
def Pd:Str:=Str.ofString ":"
def Pc:Str:=Str.ofString ", "
theorem XH:sg Iz=[32]:=by unfold Iz;rw[Ji];rfl
theorem NH:sg Pd=[58]:=by unfold Pd;rw[Ji];rfl
theorem Q9:sg Pc=[44,32]:=by unfold Pc;rw[Ji];rfl
theorem MU:Iz.length=1:=by rw[Ik,XH];rfl
theorem OM:Pd.length=1:=by rw[Ik,NH];rfl
theorem OL:Pc.length=2:=by rw[Ik,Q9];rfl
theorem fW(h:∀c∈sg x,c<256):Builtin.Str.strKind x=1:=by
 unfold Builtin.Str.strKind;rw[if_pos];rw[uG];intro c Y;exact decide_eq_true (h c (by simpa [sg] using Y))
def ptx(ps:yn):Str:=Str.join Pd (ps.map tx)
def Ss(pss:ym):Str:=Str.join Pc (pss.map ptx)
theorem Tw(h:ps≠[]):Txt.split (ptx ps) Pd=ps.map tx:=by
 unfold ptx;cases ps with
 | nil=>exact absurd rfl h
 | cons x r =>
   rw[qw]
   exact KW (c:=58) NH (fW (by rw[NH];decide)) _ _ (by
    rw[<- qw (f:=tx)];intro u Y;obtain⟨y,_,rfl⟩:=tR.mp Y;exact MN y Yd)
theorem Tv(h:pss≠[]):Txt.split (Ss pss) Pc=pss.map ptx:=by
 unfold Ss;cases pss with
 | nil=>exact absurd rfl h
 | cons x r =>
   rw[qw]
   exact KW (c:=44) Q9 (fW (by rw[Q9];decide)) _ _ (by
    rw[<- qw (f:=ptx)];intro u W;obtain⟨y,_,rfl⟩:=tR.mp W
    exact RO (by rw[NH];decide) λt Y=>by
     obtain⟨z,_,rfl⟩:=tR.mp Y;exact MN z Yd)
theorem S2{qs:yn}(h:∀q∈qs,Fg q):∀t∈qs.map tx,t.length<=123:=λt Y=>by
 obtain⟨x,W,rfl⟩:=tR.mp Y;exact Yz (h x W)
theorem VP(h:∀q∈ps,Fg q)(Y:ps.length<=3):(ptx ps).length<=375:=by
 have:=MK (sep:=Pd) (by rw[OM];decide) (S2 h)
 rw[qz]at this;unfold ptx
 lia
theorem TN(h:∀ps∈pss,∀q∈ps,Fg q)(O:P23 pss):∀t∈pss.map ptx,t.length<=375:=λt W=>by
 obtain⟨x,Y,rfl⟩:=tR.mp W;exact VP (h x Y) (by rcases O x Y with z | z<;>lia)
def ctx(qs:yn):Str:=if qs=[] then Str.ofString "0" else Str.join Iz (qs.map tx)
inductive PZ(K:pP)(vs:yt)(H:Hp)(Q:VK)(E:XK):Prop
 | mk(pss:ym)(_:vs=[.str (Ss pss),.int 6])(_:1<=pss.length)(_:P23 pss)(_:(∀ps∈pss,∀q∈ps,Fg q))(_:(pss.map λps=>ps.getD 0 0).Nodup)(_:(HI pss).length<=12)(_:∀p xs H',Hy H H'->SqT K H' p xs->Ie K H' xs pss->Q (.ref p) H')
inductive Mp(vs:yt)(H:Hp)(Q:VK)(E:XK):Prop
 | mk(a:_)(_:vs=[.ref a])(_:Pen H a)(_:∀(q:Rat) (r:ge) (H':Hp),Mv a H H'->Pen H' a->H' r=some (nT q)->Fg q->Q (.ref r) H')
inductive PV(K:pP)(vs:yt)(H:Hp)(Q:VK)(E:XK):Prop
 | mk(l t:ge)(xs:yt)(_:vs=[.ref l,.ref t])(_:SqL K H l xs)(_:SqT K H t [])(_:Q .non H)
def wd:Nat->Str
 | 0=>"put"
 | 1=>"take"
 | 2=>"height"
 | 3=>"slope"
 | 4=>"noslope"
 | 5=>"curve"
 | 6=>"steps"
 | 7=>"at"
 | 8=>"slopeat"
 | _=>"misses"
def loW:Nat->Nat
 | 0=>2
 | 1=>1
 | 2=>2
 | 3=>2
 | 4=>1
 | 5=>0
 | 6=>0
 | _=>1
def hiW:Nat->Nat
 | 0=>3
 | 1=>1
 | 2=>2
 | 3=>2
 | 4=>1
 | 5=>0
 | 6=>0
 | 7=>1
 | 8=>1
 | _=>16
inductive Chg(pss:ym)(qs:yn):Nat->Except Nat ym->Prop
 | put2 (h:qs.getD 0 0∈pss.map λps=>ps.getD 0 0):Chg pss qs 0 (.error 1)
 | putM (h:qs.getD 0 0∉pss.map λps=>ps.getD 0 0) (ht:12<(HI (pss++[qs])).length):Chg pss qs 0 (.error 0)
 | put (h:qs.getD 0 0∉pss.map λps=>ps.getD 0 0) (ht:(HI (pss++[qs])).length<=12):Chg pss qs 0 (.ok (pss++[qs]))
 | far {i:Nat} (hi:1<=i) (h:qs.getD 0 0∉pss.map λps=>ps.getD 0 0):Chg pss qs i (.error 2)
 | only(h:qs.getD 0 0∈pss.map λps=>ps.getD 0 0) (h1:pss.length=1):Chg pss qs 1 (.error 1)
 | take {m:Nat} {ps:yn} (hm:pss[m]? = some ps) (h0:ps.getD 0 0=qs.getD 0 0) (h2:2<=pss.length):Chg pss qs 1 (.ok (pss.take m++pss.drop (m+1)))
 | height {m:Nat} {ps:yn} (hm:pss[m]? = some ps) (h0:ps.getD 0 0=qs.getD 0 0):Chg pss qs 2 (.ok (pss.set m ([ps.getD 0 0,qs.getD 1 0]++ps.drop 2)))
 | slopeM {m:Nat} {ps:yn} (hm:pss[m]? = some ps) (h0:ps.getD 0 0=qs.getD 0 0) (ht:12<(HI (pss.set m (ps.take 2++[qs.getD 1 0]))).length):Chg pss qs 3 (.error 0)
 | slope {m:Nat} {ps:yn} (hm:pss[m]? = some ps) (h0:ps.getD 0 0=qs.getD 0 0) (ht:(HI (pss.set m (ps.take 2++[qs.getD 1 0]))).length<=12):Chg pss qs 3 (.ok (pss.set m (ps.take 2++[qs.getD 1 0])))
 | noslope {m:Nat} {ps:yn} (hm:pss[m]? = some ps) (h0:ps.getD 0 0=qs.getD 0 0):Chg pss qs 4 (.ok (pss.set m (ps.take 2)))
inductive Kp(K:pP)(i:Nat)(vs:yt)(H:Hp)(Q:VK)(E:XK):Prop
 | mk(r l:ge)(xs ys:yt)(pss pss':ym)(qs:yn)(_:vs=[.ref r,.ref l])(_:Pok K H r xs pss)(_:SqL K H l ys)(_:Io H ys qs)(_:loW i<=qs.length)(_:qs.length<=hiW i)(_:Chg pss qs i (.ok pss'))(_:∀(p:ge) (xs':yt) (H':Hp),Hy H H'->SqT K H' p xs'->Ie K H' xs' pss'->Q (.ref p) H')
inductive Oc(K:pP)(cl:Nat->ge)(i:Nat)(vs:yt)(H:Hp)(E_2:VK)(E:XK):Prop
 | mk(r l:ge)(xs ys:yt)(pss:ym)(n:Nat)(qs:yn)(_:vs=[.ref r,.ref l])(_:Pok K H r xs pss)(_:SqL K H l ys)(_:Io H ys qs)(_:loW i<=qs.length)(_:qs.length<=hiW i)(_:Chg pss qs i (.error n))(_:∀H',Hy H H'->E (.ref (cl n)) none H')
theorem XX(e:SqT K H t ys)(h:Io H ys qs)(h2:2<=qs.length):PtT K H (.ref t) qs:=by
 cases h with
 | nil=>exact absurd h2 Yd
 | cons a b =>
   obtain⟨r,rfl,Y⟩:=a;exact⟨t,_,r,Z,e,Paired.cons (yF Y) (Io.nums b),Z,Y⟩
theorem VY(h:Io H ys qs)(h1:1<=qs.length):∃r,ys[0]? = some (.ref r)/\H r=some (nT (qs.getD 0 0)):=by
 cases h with
 | nil=>exact absurd h1 Yd
 | cons a b=>obtain⟨r,rfl,Y⟩:=a;exact⟨r,Z,Y⟩
theorem fS(h:Io H ys qs)(h2:2<=qs.length):∃r,ys[1]? = some (.ref r)/\H r=some (nT (qs.getD 1 0)):=by
 cases h with
 | nil=>exact absurd h2 Yd
 | cons a b =>
   cases b with
   | nil=>exact absurd h2 (by simp)
   | cons a b=>obtain⟨r,rfl,Y⟩:=a;exact⟨r,Z,Y⟩
def dk(C dx r:ge):HO:=.ins C dx [("points",.ref r)]
def But(p:ge)(H H':Hp):Prop:=∀b o,b≠p->H b=some o->H' b=some o
inductive NF(K:pP)(C:ge)(vs:yt)(H:Hp)(Q:VK)(E:XK):Prop
 | mk(p dx:ge)(pss:ym)(_:vs=[.ref p,.str (Ss pss)])(_:H p=some (.ins C dx []))(_:1<=pss.length)(_:P23 pss)(_:(∀ps∈pss,∀q∈ps,Fg q))(_:(pss.map λps=>ps.getD 0 0).Nodup)(_:(HI pss).length<=12)(_:∀(r:ge) (xs:yt) (H':Hp),But p H H'->H' p=some (dk C dx r)->Pok K H' r xs pss->Q .non H')
theorem HV.up{base:rf}(F:HV P w K mg base CX k f fd ps sp)(h:k<=n):HV P w K mg base CX n f fd ps sp:=⟨F.len,λA outer s H args us vs Q E Y=>F.run A outer s H args us vs Q E (Y.mono h)⟩
theorem SqT.but(h:SqT K H r xs)(Y:H p=some (.ins C dx fs)):SqT K (upd H p o) r xs:=by
 rcases h with h | h
 ·refine .inl ?_
  rcases h with h | ⟨W,h⟩
  ·exact .inl (by rw[HZ (Ku h Y (by intro z;cases z))];exact h)
  ·exact .inr ⟨W,by rw[HZ (Ku h Y (by intro z;cases z))];exact h⟩
 ·exact .inr h
theorem HP.but(h:HP K H v q)(Y:H p=some (.ins C dx fs)):HP K (upd H p o) v q:=by
 obtain⟨r,e,h⟩:=h;exact⟨r,e,SqT.but h Y⟩
theorem Ie.but(h:Ie K H xs pss)(Y:H p=some (.ins C dx fs)):Ie K (upd H p o) xs pss :=
 yu h λ_ _ z=>by
  obtain⟨a,us,r,e,O,J,h0,W⟩:=z;exact⟨a,us,r,e,SqT.but O Y,yu J λ_ _ z=>HP.but z Y,h0,by rw[HZ (Ku W Y (by intro z;cases z))];exact W⟩
theorem YQ{t b:Int}{j:Nat}(h1:0<b)(h2:b<=3)(O:t.natAbs<=20)(hj:j<=100):Fg (rV t b+(j:Rat)):=by
 have W:(rV t b).num.natAbs<=20:=by rw[<- Nm.top_msr Yl];exact pQ (PySem.natAbs_fdiv_le t _) O
 have J:(((rV t b).den:Nat):Int).natAbs<=3:=by rw[<- Nm.bottom_msr Yl];exact pQ (PySem.natAbs_fdiv_le b _) Yl
 have Y:=(rV t b).den_pos;rw[<- Nm.plus_eq,uS,uT];generalize(rV t b).num=u at W;generalize(rV t b).den=v at J Y;have hm:(j:Int)*(v:Int)<=100*3:=Int.mul_le_mul Yl Yl Yl Yd;have z:0<=(j:Int)*(v:Int):=Int.mul_nonneg Yl Yl;exact Vo Yl Yl Yl
def wi:Nat->Nat
 | 0=>0
 | n+1=>n
theorem OT(Y:pss[m]? = some ps)(h:ps.length=2\/ps.length=3):(HI (pss.set m ([x,y]++ps.drop 2))).length=(HI pss).length:=by
 have W:=Rr (qs:=[x,y]++ps.drop 2) Y;have e:([x,y]++ps.drop 2).length=ps.length:=by rw[qV,rq];show 2+_=_;lia
 rw[e]at W;lia
theorem Sr{ps:yn}{c:Rat}(h:ps.length=2\/ps.length=3):(ps.take 2++[c]).getD 0 0=ps.getD 0 0:=by
 match ps,h with
 | _::_::_,_=>rfl
 | [_],h=>simp at h
 | [],h=>simp at h
theorem RA{i:Nat}{qs:yn}(h:i<5):Txt.split (Str.join Iz (wd i::qs.map tx)) (Str.ofString " ")=wd i::qs.map tx:=by
 refine KW (sep:=Iz) (c:=32) (w:=[]) Yk Yk (wd i) (qs.map tx) λu Y=>?_
 rcases pV.mp Y with z | z
 ·rw[z];have hi:i=0\/i=1\/i=2\/i=3\/i=4:=by lia
  rcases hi with rfl | rfl | rfl | rfl | rfl<;>decide +kernel
 ·obtain⟨q,_,rfl⟩:=tR.mp z;exact MN q Yd
theorem KO{l:yn}{k:Nat}(h:k<l.length):l.getD k 0∈l:=by
 rw[sO,sV h];exact sW h
structure Pq(pss:ym):Prop where
 h23:P23 pss
 h1:1<=pss.length
 nd:(pss.map λps=>ps.getD 0 0).Nodup
 h12:(HI pss).length<=12
 fg:∀ps∈pss,∀q∈ps,Fg q
theorem Pq.put(h:Pq pss)(hm:pss[m]? = some ps)(he:qs.getD 0 0=ps.getD 0 0)(h2:qs.length=2\/qs.length=3)(J:(HI (pss.set m qs)).length<=12)(O:∀q∈qs,Fg q):Pq (pss.set m qs) :=
 ⟨VU h.h23 h2,by rw[rB];exact h.h1,Yo hm he h.nd,J,λp W q Y=>by
  rcases uW W with z | z
  ·exact h.fg p z q Y
  ·rw[z]at Y;exact O q Y⟩
theorem Chg.pq(hc:Chg pss qs i (.ok J))(h:Pq pss)(h1:loW i<=qs.length)(h2:qs.length<=hiW i)(hq:∀q∈qs,Fg q):Pq J:=by
 cases hc with
 | put hn ht =>
   have ac:2<=qs.length:=h1;have ad:qs.length<=3:=h2;refine⟨ME h.h23 Yl,by rw[qV];exact Nat.le_add_left 1 _,?_,ht,λp W q Y=>?_⟩
   ·rw[sD,uN];refine⟨h.nd,uY ..,λa ha b hb e=>?_⟩;rw[uZ,sU]at hb;exact hn (by rw[<- hb,<- e];exact ha)
   ·rcases pW.mp W with z | z
    ·exact h.fg p z q Y
    ·rw[sU.mp z]at Y;exact hq q Y
 | @take m ps hm h0 ad =>
   have ae:=(pY.mp hm).1;have e:pss.take m++pss.drop (m+1)=pss.eraseIdx m:=List.eraseIdx_eq_take_drop_succ .. |>.symm
   have aa:∀p∈pss.take m++pss.drop (m+1),p∈pss:=λp W=>by
    rcases pW.mp W with z | z
    ·exact uM z
    ·exact v3 z
   refine⟨λp W=>h.h23 p (aa p W),by rw[qV,qN,rq];lia,?_,?_,λp W=>h.fg p (aa p W)⟩
   ·rw[e];exact((List.eraseIdx_sublist pss m).map _).nodup h.nd
   ·have af:=h.h12
    have es:pss=pss.take m++(ps::pss.drop (m+1)):=by
     have z:=tK ae;rw[<- (pY.mp hm).2,<- z,tU]
    have e2:(HI pss).length=(HI (pss.take m)).length+((IA ps).length+(HI (pss.drop (m+1))).length):=by
     conv=>lhs;rw[es]
     rw[JM,qV];show _+(IA ps++HI (pss.drop (m+1))).length=_;rw[qV]
    rw[JM,qV];lia
 | @height m ps hm h0 =>
   have ac:2<=qs.length:=h1;have W:=h.h23 ps (qU hm);have O:=h.fg ps (qU hm);refine h.put hm rfl (by rw[qV,rq];show 2+_=2\/2+_=3;lia) (by rw[OT hm W];exact h.h12) λq Y=>?_
   rcases pW.mp Y with z | z
   ·rcases pV.mp z with z | z
    ·rw[z];exact O _ (KO Yl)
    ·rw[sU.mp z];exact hq _ (KO Yl)
   ·exact O q (v3 z)
 | @slope m ps hm h0 ht =>
   have ac:2<=qs.length:=h1;have W:=h.h23 ps (qU hm);have O:=h.fg ps (qU hm);refine h.put hm (Sr W) (by rw[qV,qN];show _+1=2\/_+1=3;lia) ht λq Y=>?_
   rcases pW.mp Y with z | z
   ·exact O q (uM z)
   ·rw[sU.mp z];exact hq _ (KO Yl)
 | @noslope m ps hm h0 =>
   have W:=h.h23 ps (qU hm);have O:=h.fg ps (qU hm);refine h.put hm ?_ (by rw[qN];lia) (pQ (PM hm W) h.h12) λq Y=>O q (uM Y)
   match ps,W with
   | _::_::_,_=>rfl
   | [_],h=>simp at h
   | [],h=>simp at h
theorem Pok.pq(h:Pok K H r xs pss)(Y:∀ps∈pss,∀q∈ps,Fg q):Pq pss:=⟨h.h23,h.h1,h.nd,h.h12,Y⟩
theorem Pq.pok(h:Pq pss)(W:SqT K H r xs)(Y:Ie K H xs pss):Pok K H r xs pss:=⟨W,Y,h.h23,h.h1,h.nd,h.h12⟩
theorem SqT.bt(h:SqT K H r xs)(W:But p H H')(Y:H p=some (.ins C dx fs)):SqT K H' r xs:=by
 rcases h with h | h
 ·refine .inl ?_
  rcases h with h | ⟨O,h⟩
  ·exact .inl (W _ _ (Ku h Y (by intro z;cases z)) h)
  ·exact .inr ⟨O,W _ _ (Ku h Y (by intro z;cases z)) h⟩
 ·exact .inr h
theorem HP.bt(h:HP K H v q)(W:But p H H')(Y:H p=some (.ins C dx fs)):HP K H' v q:=by
 obtain⟨r,e,h⟩:=h;exact⟨r,e,SqT.bt h W Y⟩
theorem Ie.bt(h:Ie K H xs pss)(W:But p H H')(Y:H p=some (.ins C dx fs)):Ie K H' xs pss :=
 yu h λ_ _ z=>by
  obtain⟨a,us,r,e,J,hn,h0,O⟩:=z;exact⟨a,us,r,e,SqT.bt J W Y,yu hn λ_ _ z=>HP.bt z W Y,h0,W _ _ (Ku O Y (by intro z;cases z)) O⟩
theorem Pen.bt(h:Pen H a)(hb:But p H H')(Y:H p=some (.ins C dx fs)):Pen H' a:=by
 obtain⟨W,J,O,e⟩:=h;exact⟨W,J,O,hb _ _ (Ku e Y (by intro z;cases z)) e⟩
theorem Qf(i:Nat)(qs:yn)(Y:1<=qs.length):(wd i++Str.ofString " ")++Str.join Iz (qs.map tx)=Str.join Iz (wd i::qs.map tx):=by
 match qs,Y with
 | q::r,_=>simp[Str.join,Iz]
theorem So{i:Nat}{qs:yn}(hi:i<5)(W:∀q∈qs,Fg q)(O:qs.length<=3):(Str.join Iz (wd i::qs.map tx)).length+2<=io:=by
 have h:∀t∈wd i::qs.map tx,t.length<=123:=λt Y=>by
  rcases pV.mp Y with z | z
  ·rw[z];have hi:i=0\/i=1\/i=2\/i=3\/i=4:=by lia
   rcases hi with rfl | rfl | rfl | rfl | rfl<;>decide
  ·exact S2 W t z
 have:=MK (sep:=Iz) Yd h;have J:=sK;rw[qr,qz]at this;have:(qs.length+1)*(123+2)<=4*125:=uP Yl (qd _)
 lia
theorem gW(h:∀q∈Y,Bd hh q.num/\Bd hd (q.den:Int)):Ov (pI (Y.map λq=>(q.den:Int))) (hh+(hd*Y.length+1)) Y/\Bd (hd*Y.length+1) (pI (Y.map λq=>(q.den:Int))):=by
 have W:∀u∈Y.map (λq=>(q.den:Int)),Bd hd u:=λu W=>by
  obtain⟨q,O,rfl⟩:=tR.mp W;exact(h q O).2
 have h0:∀u∈Y.map (λq=>(q.den:Int)),u≠0:=λu W=>by
  obtain⟨q,_,rfl⟩:=tR.mp W;exact Nm.den_ne q
 have z:(Y.map λq=>(q.den:Int)).length=Y.length:=qz _;refine⟨⟨Y5 h0,λq O=>?_⟩,by have:=TV W;rwa [z]at this⟩
 obtain⟨r,er,J⟩:=V1 (tR.mpr ⟨q,O,Z⟩) W;rw[z]at J;refine⟨q.num*r,(h q O).1.mul J,?_⟩;rw[er,si,si,<- tI,<- Nm.num_mul]
theorem Xr(h:∀q∈pss.flatten,Bd hh q.num/\Bd hd (q.den:Int))(hk:∀a∈kn pss,∀b∈kn pss,Bd n (a-b).num/\Bd dv ((a-b).den:Int))(hn:1<=n)(aa:∀q∈Kx pss,q∈pss.flatten):∀k,k<=(HI pss).length->∃L,Bd (hd*pss.flatten.length+1+k*(n*(HI pss).length+1)) L/\Ov L (hh+(hd*pss.flatten.length+1)+k*(dv+n*(HI pss).length+2)) (tab pss k)/\Ov L (hh+(hd*pss.flatten.length+1)+k*(dv+n*(HI pss).length+2)) pss.flatten/\∀i,i<=k->Ov L (hh+(hd*pss.flatten.length+1)+k*(dv+n*(HI pss).length+2)) (tab pss i)
 | 0,_=>by
   obtain⟨o,b⟩:=gW h;have o0:Ov (pI (pss.flatten.map λq=>(q.den:Int))) (hh+(hd*pss.flatten.length+1)) (tab pss 0):=⟨o.ne,λq W=>o.is q (aa q W)⟩;rw[Nat.zero_mul,Nat.zero_mul];exact⟨_,b,o0,o,λi hi=>by cases Nat.le_zero.mp hi;exact o0⟩
 | k+1,hm=>by
   obtain⟨L,bL,oA,oF,oI⟩:=Xr h hk hn aa k Yl;obtain⟨m,em⟩:∃m,m=(HI pss).length:=⟨_,Z⟩;have ah:(kn pss).length=m:=by rw[em];exact J8 pss
   have ak:(tab pss k).length=m-k:=by rw[em];exact KS pss k Yl
   rw[<- em]at bL oA oF oI hm ⊢;obtain⟨us,O⟩:∃us:yo,us=(pK (m-(k+1))).map λj=>if (kn pss).getD (j+(k+1)) 0-(kn pss).getD j 0=0 then 1 else ((kn pss).getD (j+(k+1)) 0-(kn pss).getD j 0).num:=⟨_,Z⟩;have ai:us.length<=m:=by rw[O,qz,ud];lia
   have Y:∀j,j<m->(kn pss).getD j 0∈kn pss:=λj hj=>IU Yl
   have ac:∀u∈us,u≠0:=λu hu=>by
    rw[O]at hu;obtain⟨j,hj,rfl⟩:=tR.mp hu;by_cases z:(kn pss).getD (j+(k+1)) 0-(kn pss).getD j 0=0
    ·rw[if_pos z];decide
    ·rw[if_neg z];exact λy=>z (uK.mp y)
   have J:∀u∈us,Bd n u:=λu hu=>by
    rw[O]at hu;obtain⟨j,hj,rfl⟩:=tR.mp hu;have ae:=pO.mp hj;by_cases z:(kn pss).getD (j+(k+1)) 0-(kn pss).getD j 0=0
    ·rw[if_pos z];exact(by unfold Bd;decide:Bd 1 1).mono hn
    ·rw[if_neg z];exact(hk _ (Y _ Yl) _ (Y _ Yl)).1
   have aj:n*us.length<=n*m:=uH _ ai;have e1:hh+(hd*pss.flatten.length+1)+(k+1)*(dv+n*m+2)=hh+(hd*pss.flatten.length+1)+k*(dv+n*m+2)+dv+n*m+2:=by rw[tq];lia
   have e2:hd*pss.flatten.length+1+(k+1)*(n*m+1)=hd*pss.flatten.length+1+k*(n*m+1)+(n*m+1):=by rw[tq];lia
   rw[e1,e2];have up:∀{ql:yn},Ov (L*pI us) (hh+(hd*pss.flatten.length+1)+k*(dv+n*m+2)+dv+n*us.length+2) ql->Ov (L*pI us) (hh+(hd*pss.flatten.length+1)+k*(dv+n*m+2)+dv+n*m+2) ql:=λo=>⟨o.ne,λq W=>let ⟨t,bt,e⟩:=o.is q W;⟨t,bt.mono Yl,e⟩⟩
   suffices top:Ov (L*pI us) (hh+(hd*pss.flatten.length+1)+k*(dv+n*m+2)+dv+n*m+2) (tab pss (k+1)) by
    exact⟨L*pI us,(bL.mul (TV J)).mono Yl,top,up (V2 (dv:=dv) oF.ne ac J λq W=>.inl (oF.is q W)),λi hi=>by
     by_cases z:i=k+1
     ·rw[z];exact top
     ·exact up (V2 (dv:=dv) oF.ne ac J λq W=>.inl ((oI i Yl).is q W))⟩
   refine up (V2 (dv:=dv) oA.ne ac J λq W=>?_);rw[tab]at W;unfold L0 at W;obtain⟨j,hj,rfl⟩:=tR.mp W;have ae:=pO.mp hj;rw[ah]at ae;by_cases z:(kn pss).getD (j+(k+1)) 0=(kn pss).getD j 0
   ·left;rw[if_pos z];unfold TC
    split
    ·rename_i ps af
     have ag:=uC af;have h3:=ue af;rw[Bool.and_eq_true,decide_eq_true_eq]at h3;exact oF.is _ (uQ.mpr ⟨ps,ag,IU Yl⟩)
    ·exact⟨0,PJ,by rw[uv];rfl⟩
   ·right;rw[if_neg z];obtain⟨t1,b1,f1⟩:=oA.is _ (IU (l:=tab pss k) (i:=j+1) Yl);obtain⟨t2,b2,f2⟩:=oA.is _ (IU (l:=tab pss k) (i:=j) Yl);have ad:(kn pss).getD (j+(k+1)) 0-(kn pss).getD j 0≠0:=λy=>z (by grind)
    refine⟨t1,t2,((kn pss).getD (j+(k+1)) 0-(kn pss).getD j 0).num,(((kn pss).getD (j+(k+1)) 0-(kn pss).getD j 0).den:Int),b1,b2,?_,(hk _ (Y _ Yl) _ (Y _ Yl)).2,?_⟩
    ·rw[O];exact tR.mpr ⟨j,pO.mpr ae,by rw[if_neg ad]⟩
    ·generalize(kn pss).getD (j+(k+1)) 0-(kn pss).getD j 0=d at ad;rw[Nm.num_mul d,sj,<- f1,<- f2];generalize(tab pss k).getD (j+1) 0=A;generalize(tab pss k).getD j 0=B;have W:(A-B) / d*d=A-B:=by rw[Rat.div_def,tI,Rat.inv_mul_cancel _ ad,Rat.mul_one]
     generalize(A-B) / d=Q0 at W;generalize((d.den:Int):Rat)=D;generalize(L:Rat)=L';have e3:Q0*(d*D)*L'=Q0*d*(D*L'):=by grind
     rw[e3,W]
     grind
theorem Xy(h:∀q∈pss.flatten,Bd hh q.num/\Bd hd (q.den:Int))(hk:∀a∈kn pss,∀b∈kn pss,Bd n (a-b).num/\Bd dv ((a-b).den:Int))(hn:1<=n)(Y:∀q∈Kx pss,q∈pss.flatten):∃L:Int,L≠0/\Bd (hd*pss.flatten.length+1+(HI pss).length*(n*(HI pss).length+1)) L/\∀s∈Iy pss,∃t:Int,Bd (hh+(hd*pss.flatten.length+1)+(HI pss).length*(dv+n*(HI pss).length+2)) t/\s*(L:Rat)=(t:Rat):=by
 obtain⟨L,bL,_,J,oI⟩:=Xr h hk hn Y (HI pss).length (qd _);refine⟨L,J.ne,bL,λs O=>?_⟩;unfold Iy at O;obtain⟨k,W,rfl⟩:=tR.mp O;have z:=pO.mp W;have hl:=KS pss k Yl;exact(oI k Yl).is _ (IU Yl)
def nwL:yn->yn->yn
 | k::ks,s::ss=>PR k s (nwL ks ss)
 | _,_=>[]
theorem Yg(x:Rat):∀ks ss,Cv.ev (nwL ks ss) x=IG ks ss x
 | [],_=>rfl
 | _::_,[]=>rfl
 | k::ks,s::ss=>by
   show Cv.ev (PR k s (nwL ks ss)) x=s+(x-k)*IG ks ss x;rw[Xz,Yg x ks ss]
theorem Y7{L:Int}{W n:Nat}(J:L≠0):∀ks O:yn,(∀s∈O,∃t:Int,Bd W t/\s*(L:Rat)=(t:Rat))->(∀k∈ks,RB n k)->∃P:Int,P≠0/\Bd (n*ks.length+1) P/\Ov (L*P) (W+(ks.length*(n+2)+1)) (nwL ks O)
 | [],_,_,_=>⟨1,Yd,by unfold Bd;rw[rO,Nat.mul_zero];decide,by rw[Int.mul_one];exact⟨J,λ_ h=>nomatch h⟩⟩
 | k::ks,[],_,_=>⟨1,Yd,(by unfold Bd;decide:Bd 1 1).mono Yl,by rw[Int.mul_one];exact⟨J,λ_ h=>nomatch h⟩⟩
 | k::ks,s::O,hs,hk=>by
   obtain⟨P,p0,bP,o⟩:=Y7 J ks O (λx z=>hs x (pU _ z)) λx z=>hk x (pU _ z);obtain⟨t,bt,et⟩:=hs s pT;have Y:=hk k pT;have m1:n*(ks.length+1)=n*ks.length+n:=by rw[tH,uw]
   have m2:(ks.length+1)*(n+2)=ks.length*(n+2)+(n+2):=by rw[tq,tu]
   have m3:ks.length*(n+2)=n*ks.length+ks.length*2:=by rw[tH,rJ n]
   have o2:=ZJ (s:=s) o ⟨t*P,(bt.mul bP).mono Yl,by rw[si,si,<- tI,et]⟩ (Nm.den_ne k) Y.1 Y.2 (Nm.num_mul k).symm
   refine⟨P*(k.den:Int),rZ p0 (Nm.den_ne k),(bP.mul Y.2).mono (by rw[qr];lia),?_⟩
   rw[<- Int.mul_assoc];refine⟨o2.ne,λq hq=>?_⟩;obtain⟨t',b',e'⟩:=o2.is q hq;exact⟨t',b'.mono (by rw[qr];lia),e'⟩
theorem Y9(o:Ov L W r)(h:∀x,Cv.ev cs x=Cv.ev r x):Ov L W cs:=by
 refine⟨o.ne,λq Y=>?_⟩;obtain⟨k,hk⟩:=uh Y;have e:q=r.getD k 0:=by rw[<- ML (l:=cs) (m:=r) (λj=>h _) k,sO,hk];rfl
 cases z:r[k]? with
 | none=>exact⟨0,PJ,by rw[e,sO,z];show(0:Rat)*_=((0:Int):Rat);rw[uv];rfl⟩
 | some y =>
   have:q=y:=by rw[e,sO,z];rfl
   rw[this];exact o.is y (qU z)
def Fh(x:Rat):Prop:=x.num.natAbs<10 ^ 490/\x.den<10 ^ 490
theorem Fg.fh(h:Fg x):Fh x:=⟨rP h.1 (Nat.pow_lt_pow_right Yd Yd),rP h.2 (Nat.pow_lt_pow_right Yd Yd)⟩
theorem OC{i:Int}(h:i.natAbs<10 ^ 490):i.natAbs.log2<1920:=by
 by_cases h0:i.natAbs=0
 ·rw[h0];decide +kernel
 ·have:=(Nat.log2_lt (k:=1640) h0).mpr Yl;lia
theorem OE(h:i.natAbs<10 ^ 490):(txI i).length<=491:=by
 rw[Ik]
 rcases KQ i with ⟨n,e,Y⟩ | ⟨n,W,e,Y⟩
 ·rw[Y];exact pQ (Me (k:=490) Yd Yl) Yd
 ·rw[Y,qr];have:=Me (n:=n) (k:=490) Yd Yl
  lia
theorem MT(h:Fh x):(tx x).length<=983:=by
 have h1:=OE h.1;have h2:=OE (i:=(x.den:Int)) (by have:=h.2;lia)
 unfold tx
 split
 ·lia
 ·have Y:(Str.ofString "/").length=1:=by rw[Ik,Ji];rfl
  rw[Ik,IB,IB,qV,qV,<- Ik,<- Ik,<- Ik]
  lia
theorem Nw{qs:yn}(h:∀q∈qs,Fh q):∀t∈qs.map tx,t.length<=983:=λt Y=>by
 obtain⟨x,W,rfl⟩:=tR.mp Y;exact MT (h x W)
theorem g6(h1:Bd 1600 x.num)(h2:Bd 1600 (x.den:Int)):Fh x:=by
 unfold Bd at h1 h2;unfold Fh
 lia
theorem IK(h:Fg x):RB 20 x:=by
 obtain⟨h1,h2⟩:=h;unfold RB Bd
 lia
inductive JF(K:pP)(vs:yt)(H:Hp)(Q:VK)(E:XK):Prop
 | mk(x:V)(q:Rat)(_:vs=[x])(_:HP K H x q)(_:Fh q)(_:Q (.str (tx q)) H)
inductive Ko(K:pP)(sep:Str)(vs:yt)(H:Hp)(Q:VK)(E:XK):Prop
 | mk(b:Bool)(r:ge)(xs:yt)(qs:yn)(_:vs=[.ref r])(_:Sq b K H r xs)(_:HR K H xs qs)(_:(∀q∈qs,Fh q))(_:qs.length<=100)(_:∀H',Hy H H'->Q (.str (Str.join sep (qs.map tx))) H')
inductive PY(K:pP)(vs:yt)(H:Hp)(Q:VK)(E:XK):Prop
 | mk(r:ge)(qs:yn)(_:vs=[.ref r])(_:Crv K H r qs)(_:(∀q∈qs,Fh q))(_:qs.length<=100)(_:∀H',Hy H H'->Q (.str (ctx qs)) H')
structure Ak(pss:ym):Prop where
 h8:(HI pss).length<=8
 fg:∀ps∈pss,∀q∈ps,Fg q
 pn:∀ps∈pss,Bd 7 (ps.getD 0 0).num/\Bd 2 ((ps.getD 0 0).den:Int)
theorem Ak.pl(h:Ak pss):∀ps∈pss,RB 7 (ps.getD 0 0):=λps Y=>⟨(h.pn ps Y).1,(h.pn ps Y).2.mono Yd⟩
theorem ZM{p q:Rat}(h1:Bd 7 p.num/\Bd 2 (p.den:Int))(h2:Bd 7 q.num/\Bd 2 (q.den:Int)):Bd 10 (p-q).num/\Bd 4 ((p-q).den:Int):=by
 rw[<- Nm.minus_eq];exact⟨Bd.num (Bd.sub (h1.1.mul h2.2) (h2.1.mul h1.2)),Bd.den (rZ (Nm.den_ne p) (Nm.den_ne q)) (h1.2.mul h2.2)⟩
theorem Uo:∀{pss:ym},P23 pss->pss.flatten.length<=2*(HI pss).length
 | [],_=>qg _
 | p::r,h=>by
   have ih:=Uo (pss:=r) λps Y=>h ps (pU _ Y);have Y:=h p pT;have e:HI (p::r)=IA p++HI r:=rfl;rw[e,qV,Ih,rF,qV]
   lia
theorem Zx(h:P23 pss):∀q∈Kx pss,q∈pss.flatten:=λq W=>by
 unfold Kx at W;obtain⟨l,O,W⟩:=uQ.mp W;obtain⟨ps,Y,rfl⟩:=tR.mp O;have e:=List.eq_of_mem_replicate W;have h2:=h ps Y;exact uQ.mpr ⟨ps,Y,by rw[e];exact IU Yl⟩
theorem Ak.steps(h:Ak pss)(Y:P23 pss):∃L:Int,L≠0/\Bd 1000 L/\∀s∈Iy pss,∃t:Int,Bd 1155 t/\s*(L:Rat)=(t:Rat):=by
 have hl:=Uo Y;have h8:=h.h8
 obtain⟨L,l0,bL,is⟩:=Xy (hh:=20) (hd:=20) (n:=10) (dv:=4) (λq O=>by
  obtain⟨ps,W,O⟩:=uQ.mp O;exact IK (h.fg ps W q O)) (λa ha b hb=>by
  obtain⟨p1,J,rfl⟩:=OF ha;obtain⟨p2,z,rfl⟩:=OF hb;exact ZM (h.pn p1 J) (h.pn p2 z)) Yd (Zx Y)
 have J:(HI pss).length*(10*(HI pss).length+1)<=8*(10*8+1):=uP h8 Yl;have z:(HI pss).length*(4+10*(HI pss).length+2)<=8*(4+10*8+2):=uP h8 Yl;exact⟨L,l0,bL.mono Yl,λs hs=>let ⟨t,bt,e⟩:=is s hs;⟨t,bt.mono Yl,e⟩⟩
theorem Ak.curve(h:Ak pss)(Y:P23 pss)(J:∀x,Cv.ev cs x=IG (kn pss) (Iy pss) x):∃L:Int,Bd 1060 L/\Ov L 1240 cs:=by
 obtain⟨L,l0,bL,O⟩:=h.steps Y;obtain⟨P,p0,bP,o⟩:=Y7 (n:=7) l0 (kn pss) (Iy pss) O (Ui h.pl);have h8:=h.h8;have hl:=J8 pss;have W:=Y9 o λx=>by rw[J,Yg]
 exact⟨L*P,(bL.mul bP).mono Yl,⟨W.ne,λq z=>let ⟨t,bt,e⟩:=W.is q z;⟨t,bt.mono Yl,e⟩⟩⟩
theorem fO(o:Ov L W cs)(J:Bd n L)(O:W<=1600)(z:n<=1600):∀q∈cs,Fh q:=λq Y =>
 let ⟨a,b⟩:=o.rb J Y
 g6 (a.mono O) (b.mono z)
theorem Y8(o:Ov L W cs)(J:Bd n L)(hc:cs.length<=8)(hW:W<=1400)(hn:n<=1400)(z:Fg x):Fh (Cv.ev cs x):=by
 have b:=IK z;obtain⟨t,O,e⟩:=fP b.1 b.2 (Nm.num_mul x).symm o.is
 have o2:Ov (L*(x.den:Int) ^ cs.length) (W+cs.length*(20+1)+1) [Cv.ev cs x]:=⟨rZ o.ne (Int.pow_ne_zero (Nm.den_ne x)),λq Y=>by
  rw[sU.mp Y];exact⟨t,O,e⟩⟩
 exact fO o2 (J.mul (b.2.pow _)) Yl Yl _ pT
theorem Y6(o:Ov L W cs)(hc:cs.length<=8):Ov L (W+3) (IE cs):=by
 refine⟨o.ne,λq Y=>?_⟩;unfold IE at Y;obtain⟨j,J,rfl⟩:=tR.mp Y;have z:=pO.mp J;obtain⟨t,O,e⟩:=o.is _ (IU (l:=cs) (i:=j+1) Yl);refine⟨t*((j+1:Nat):Int),O.mul (by unfold Bd;lia),?_⟩
 rw[si,<- e,Rat.intCast_natCast]
 grind
theorem Jg(a b:Str):(a++b).length=a.length+b.length:=by rw[Ik,Ik,Ik,IB,qV]
theorem Ak.srb(h:Ak pss)(Y:P23 pss):∀s∈Iy pss,RB 1155 s:=λs W=>by
 obtain⟨L,z,J,O⟩:=h.steps Y;have o:Ov L 1155 (Iy pss):=⟨z,O⟩;have b:=o.rb J W;exact⟨b.1,b.2.mono Yd⟩
theorem Ak.sfh(h:Ak pss)(Y:P23 pss):∀s∈Iy pss,Fh s:=λs W=>by
 have b:=h.srb Y s W;exact g6 (b.1.mono Yd) (b.2.mono Yd)
theorem Ak.cfh(h:Ak pss)(Y:P23 pss)(O:∀x,Cv.ev cs x=IG (kn pss) (Iy pss) x):∀q∈cs,Fh q:=by
 obtain⟨L,W,o⟩:=h.curve Y O;exact fO o W Yd Yd
theorem Ak.efh(h:Ak pss)(Y:P23 pss)(W:∀x,Cv.ev cs x=IG (kn pss) (Iy pss) x)(J:cs.length<=(HI pss).length)(O:Fg x):Fh (Cv.ev cs x):=by
 obtain⟨L,z,o⟩:=h.curve Y W;exact Y8 o z (pQ J h.h8) Yd Yd O
theorem Ak.slfh(h:Ak pss)(Y:P23 pss)(W:∀x,Cv.ev cs x=IG (kn pss) (Iy pss) x)(hl:cs.length<=(HI pss).length)(O:Fg x):Fh (Cv.ev (IE cs) x):=by
 obtain⟨L,J,o⟩:=h.curve Y W;have z:=h.h8;exact Y8 (Y6 o Yl) J (by rw[KG];lia) Yd Yd O
structure Thr(pss:ym)(cs:yn):Prop where
 len:cs.length<=(HI pss).length
 good:Tn cs
 ev:∀x,Cv.ev cs x=IG (kn pss) (Iy pss) x
def mtx(m:Ms):Str:=tx m.1++Str.ofString ";" ++ txI m.2
def KN(ms:List Ms):Str:=if ms=[] then Str.ofString "none" else Str.join Iz (ms.map mtx)
inductive Ans(pss:ym)(qs:yn):Nat->Str->Prop
 | curve {cs:yn} (h:Thr pss cs):Ans pss qs 5 (ctx cs)
 | steps:Ans pss qs 6 (Str.join Iz ((Iy pss).map tx))
 | at_ {cs:yn} (h:Thr pss cs):Ans pss qs 7 (tx (Cv.ev cs (qs.getD 0 0)))
 | slope {cs:yn} (h:Thr pss cs):Ans pss qs 8 (tx (Cv.ev (IE cs) (qs.getD 0 0)))
 | miss:Ans pss qs 9 (KN (msd (Cv.strip qs) (HI pss)))
inductive IZ(K:pP)(i:Nat)(vs:yt)(H:Hp)(Q:VK)(E:XK):Prop
 | mk(r l:ge)(xs ys:yt)(pss:ym)(qs:yn)(_:vs=[.ref r,.ref l])(_:Pok K H r xs pss)(_:Ak pss)(_:SqL K H l ys)(_:Io H ys qs)(_:(∀q∈qs,Fg q))(_:loW i<=qs.length)(_:qs.length<=hiW i)(_:∀(t:Str) (H':Hp),Hy H H'->Ans pss qs i t->Q (.str t) H')
theorem T2(W:P23 pss)(hf:∀ps∈pss,∀q∈ps,Fg q):∀m∈msd cs (HI pss),Fg m.1/\(m.2=0\/m.2=1):=λm J=>by
 unfold msd at J;obtain⟨t,z,rfl⟩:=tR.mp J;have O:=(pM.mp z).1;refine⟨?_,UG W t O⟩;obtain⟨ps,Y,e⟩:=OF (x:=t.x) (tR.mpr ⟨t,O,Z⟩);have h2:=W ps Y;rw[<- e];exact hf ps Y _ (KO Yl)
theorem SY(h:Fg m.1)(hk:m.2=0\/m.2=1):(mtx m).length<=985:=by
 have:=MT h.fh;unfold mtx;rw[Jg,Jg,show(Str.ofString ";").length=1 by decide +kernel]
 have:(txI m.2).length=1:=by rcases hk with z | z<;>rw[z]<;>decide +kernel
 lia
theorem Vj(Y:Nat->yt->Hp->Prop)(h0:Y 0 [] H)
 (z:∀i zs H,i<=xs.length->Y i zs H->SqL K H a xs/\zs.length<=i) (hz:xs.length<=io)
 (hs:∀i v zs H,xs[i]? = some v->Y i zs H->∃t x y,v = .ref t/\SqT K H t [x,y]/\tc (((cS 2 js σ).set 0 (some x)).set 1 (some y)) H λb H3=>if b=true then te (((cS 2 js σ).set 0 (some x)).set 1 (some y)) H3 λy H4=>Y (i+1) (zs++[y]) H4 else Y (i+1) zs H3) (aa:∀zs H',Y xs.length zs H'->O zs H') :
 ∃(n':Nat) (W:Nat->yt->Hp->Prop),W 0 [] H/\LcW (Itl K a) n' 2 js σ (X4 K 2 (QJ (K1 0) (QJ (K1 1) e7))) tc te O W:=by
 refine⟨xs.length,Y,h0,⟨?_,?_,?_⟩⟩
 ·intro i zs H' hi p;obtain⟨h1,h2⟩:=z i zs H' (pR hi) p;exact⟨⟨xs,xs[i],h1,by simp[hi]⟩,Yl⟩
 ·rintro i zs H' x H1 hi p ⟨rfl,y⟩;have hx:=y xs (z i zs _ (pR hi) p).1;obtain⟨t,u,v,rfl,J,h⟩:=hs i x zs _ hx p;exact⟨t,_,Z,J,Z,_,_,Z,_,_,Z,Z,h⟩
 ·intro zs H' p;obtain⟨h1,h2⟩:=z _ zs H' (qd _) p;exact⟨⟨xs,h1,qd _⟩,Yl,aa zs H' p⟩
inductive LO(K:pP)(vs:yt)(H:Hp)(Q:VK)(E:XK):Prop
 | mk(l:ge)(i:Nat)(qs:yn)(_:vs=[.ref l])(_:SqL K H l (.str (wd i)::qs.map λx=>V.str (tx x)))(_:i<10)(_:loW i<=qs.length)(_:qs.length<=hiW i)(_:(∀q∈qs,Fg q))(_:∀(p:ge) (ys:yt) (H':Hp),Hy H H'->H p=none->H' p=some (.lst ys)->Io H' ys qs->Q (.ref p) H')
inductive LM(K:pP)(C:ge)(vs:yt)(H:Hp)(Q:VK)(E:XK):Prop
 | mk(p dx r:ge)(xs:yt)(t:Str)(i:Nat)(qs:yn)(pss:ym)(_:vs=[.ref p,.str t])(_:Txt.split t (Str.ofString " ")=wd i::qs.map tx)(_:t.length+2<=io)(_:H p=some (dk C dx r))(_:Pok K H r xs pss)(_:loW i<=qs.length)(_:qs.length<=hiW i)(_:(∀q∈qs,Fg q))(_:((i<5/\∃pss',Chg pss qs i (.ok pss')/\∀(r':ge) (xs':yt) (H':Hp),But p H H'->H' p=some (dk C dx r')->SqT K H' r' xs'->Ie K H' xs' pss'->Q (.str (Str.ofString "ok")) H')\/(5<=i/\i<10/\Ak pss/\∀(t:Str) (H':Hp),Hy H H'->Ans pss qs i t->Q (.str t) H')))
def Nr(x:Rat):Prop:=Bd 7 x.num/\Bd 2 (x.den:Int)
theorem Yh{t b:Int}{j:Nat}(h1:0<b)(h2:b<=3)(O:t.natAbs<=20)(hj:j<=12):Nr (rV t b+(j:Rat)):=by
 have W:(rV t b).num.natAbs<=20:=by rw[<- Nm.top_msr Yl];exact pQ (PySem.natAbs_fdiv_le t _) O
 have J:(((rV t b).den:Nat):Int).natAbs<=3:=by rw[<- Nm.bottom_msr Yl];exact pQ (PySem.natAbs_fdiv_le b _) Yl
 have Y:=(rV t b).den_pos;rw[<- Nm.plus_eq,uS,uT];generalize(rV t b).num=u at W;generalize(rV t b).den=v at J Y;have hm:(j:Int)*(v:Int)<=12*3:=Int.mul_le_mul Yl Yl Yl Yd;have z:0<=(j:Int)*(v:Int):=Int.mul_nonneg Yl Yl;exact⟨Bd.num (by unfold Bd;lia),Bd.den Yl (by unfold Bd;lia)⟩
inductive ND(K:pP)(vs:yt)(H:Hp)(Q:VK)(E:XK):Prop
 | mk(a l:ge)(zs:yt)(qs:yn)(_:vs=[.ref a,.ref l])(_:Pen H a)(_:l≠a)(_:H l=some (.lst zs))(_:HR K H zs qs)(_:qs.length<=12)(_:∀(r:ge) (x:Rat) (H':Hp),Mv a H H'->Pen H' a->H' r=some (nT x)->x∉qs->Fg x->Nr x->Q (.ref r) H')
inductive Na(K:pP)(vs:yt)(H:Hp)(Q:VK)(E:XK):Prop
 | mk(a:ge)(most:Int)(_:vs=[.ref a,.int most])(_:Pen H a)(_:1<=most)(_:most<=7)(_:∀(r:ge) (xs:yt) (pss:ym) (H':Hp),Mv a H H'->Pen H' a->Pok K H' r xs pss->Ak pss->((HI pss).length:Int)<=most->Q (.ref r) H')
theorem j9(h:c=45\/c=47\/48<=c/\c<=57):(Builtin.Str.occurrences (Str.ofString "-/0123456789") ⟨#[c]⟩ 0 (Str.ofString "-/0123456789").length 1).isEmpty=false:=by
 rw[PyProof.Rows.empty_one];refine Bool.not_eq_true' _ |>.mp ?_
 rw[Bool.not_not];refine decide_eq_true ?_;show c∈sg _;rw[Ji];have:c=45\/c=47\/c=48\/c=49\/c=50\/c=51\/c=52\/c=53\/c=54\/c=55\/c=56\/c=57:=by lia
 rcases this with rfl | rfl | rfl | rfl | rfl | rfl | rfl | rfl | rfl | rfl | rfl | rfl<;>decide
theorem Xk(x:Rat)(h:c∈sg (tx x)):c=45\/c=47\/48<=c/\c<=57:=by
 by_cases z:c≠45/\c≠47/\(c<48\/57<c)
 ·exact absurd h (MN x z)
 ·lia
theorem UC(i:Int):txI i≠Str.ofString "" /\ txI i≠Str.ofString "-":=by
 rcases KQ i with ⟨n,_,Y⟩ | ⟨n,_,_,Y⟩
 ·refine⟨λz=>?_,λz=>?_⟩
  ·rw[z,Ji]at Y;exact O2 n Y.symm
  ·rw[z,Ji]at Y;have:=Ld (n:=n) (c:=45) (by rw[<- Y];exact pT)
   lia
 ·refine⟨λz=>?_,λz=>?_⟩
  ·rw[z,Ji]at Y;exact absurd Y nofun
  ·rw[z,Ji]at Y;exact O2 n (tj.inj Y).2.symm
inductive S9(K:pP)(vs:yt)(H:Hp)(Q:VK)(E:XK):Prop
 | mk(x:Rat)(_:vs=[.str (tx x)])(_:Fh x)(_:∀p H',Hy H H'->H p=none->H' p=some (nT x)->Q (.ref p) H')
theorem i3(x:Rat):rV x.num (x.den:Int)=x:=rW x
theorem V8(h:qs≠[]):Txt.split (Str.join Iz (qs.map tx)) (Str.ofString " ")=qs.map tx:=by
 match qs,h with
 | a::r,_ =>
   refine KW (sep:=Iz) (c:=32) (w:=[]) Yk Yk (tx a) (r.map tx) λu Y=>?_;obtain⟨q,_,rfl⟩:=tR.mp (show u∈(a::r).map tx from Y);exact MN q Yd
inductive S6(K:pP)(vs:yt)(H:Hp)(Q:VK)(E:XK):Prop
 | mk(qs:yn)(_:vs=[.str (Str.join Iz (qs.map tx))])(_:qs≠[])(_:qs.length<=16)(_:(∀q∈qs,Fh q))(_:∀(p:ge) (ys:yt) (H':Hp),Hy H H'->H p=none->H' p=some (.lst ys)->Io H' ys qs->Q (.ref p) H')
def OR(K:pP)(H:Hp)(v:V)(q:Rat)(n:Nat):Prop:=∃(r:ge) (u d:Int),v = .ref r/\SqT K H r [.int u,.int d]/\d≠0/\Bd n u/\Bd n d/\rV u d=q
theorem HP.u(h:HP K H v q)(b:RB n q):OR K H v q n:=by
 obtain⟨r,rfl,h⟩:=h;exact⟨r,q.num,(q.den:Int),Z,h,Nm.den_ne q,b.1,b.2,rW q⟩
theorem OR.same(h:OR K H v q n)(e:Hy H H'):OR K H' v q n:=by
 obtain⟨r,u,d,rfl,h,k⟩:=h;exact⟨r,u,d,Z,h.same e,k⟩
theorem OR.rb(h:OR K H v q n):RB n q:=by
 obtain⟨r,u,d,rfl,h,d0,Y,W,e⟩:=h;rw[<- e];exact RB.div (m:=0) Y W d0
theorem hZ(d0:d≠0):rV a d-q=rV (a*(q.den:Int)-q.num*d) (d*(q.den:Int)):=by
 have h1:q=rV q.num q.den:=(rW q).symm
 conv=>lhs;rw[h1]
 rw[Rat.divInt_sub_divInt _ _ d0 (Nm.den_ne q)]
theorem gj:p*rV a d=rV (p.num*a) ((p.den:Int)*d):=by
 have h1:p=rV p.num p.den:=(rW p).symm;rw[<- Rat.divInt_mul_divInt,<- h1]
inductive j3(K:pP)(vs:yt)(H:Hp)(Q:VK)(E:XK):Prop
 | mk(x y:V)(p q:Rat)(m n:Nat)(_:vs=[x,y])(_:HP K H x p)(_:OR K H y q n)(_:RB m p)(_:m+n<=100000000)(_:∀r,H r=none->Q (.ref r) (upd H r (nT (p*q))))
def Mo(K:pP):Sp:=λvs H Q E=>Mi K (· * ·) vs H Q E\/j3 K vs H Q E
inductive NB(K:pP)(vs:yt)(H:Hp)(Q:VK)(E:XK):Prop
 | mk(x y:V)(p q:Rat)(m n:Nat)(_:vs=[x,y])(_:OR K H x p m)(_:HP K H y q)(_:RB n q)(_:m+n<=100000000)(_:∀r,H r=none->Q (.ref r) (upd H r (nT (p-q))))
inductive Rw(K:pP)(vs:yt)(H:Hp)(Q:VK)(E:XK):Prop
 | mk(b:Bool)(r rx:ge)(xs:yt)(qs:yn)(x:Rat)(c n:Nat)(_:vs=[.ref r,.ref rx])(_:Sq b K H r xs)(_:HR K H xs qs)(_:OR K H (.ref rx) x n)(_:(∀q∈qs,RB c q))(_:RB n x)(_:(c+n*qs.length+4)*(qs.length+2)<=90000000)(_:∀p H',Hy H H'->H' p=some (nT (Cv.ev qs x))->RB ((c+n*qs.length+4)*(qs.length+1)) (Cv.ev qs x)->Q (.ref p) H')
inductive XF(K:pP)(vs:yt)(H:Hp)(Q:VK)(E:XK):Prop
 | mk(rk rst:ge)(rx:V)(xs ys:yt)(ks ss:yn)(x:Rat)(S:Nat)(_:vs=[.ref rk,.ref rst,rx])(_:SqL K H rk xs)(_:HR K H xs ks)(_:SqL K H rst ys)(_:HR K H ys ss)(_:ks.length=ss.length)(_:ks.length<=12)(_:OR K H rx x 16)(_:(∀q∈ks,RB 16 q))(_:(∀q∈ss,RB S q))(_:RB 16 x)(_:S<=2048000)(_:∀v H',Hy H H'->HP K H' v (IG ks ss x)->Q v H')
theorem XZ:∀{ks:yn} {i:Nat},ks[i]? = some k->L2.prV X (ks.take (i+1))=L2.prV X (ks.take i)*(X-k)
 | [],i,h=>by simp at h
 | c::ks,0,h=>by
   cases h;show(X-k)*L2.prV X (ks.take 0)=1*(X-k);rw[tZ];show(X-k)*1=_
   grind
 | c::ks,i+1,h=>by
   have ih:=XZ (X:=X) (ks:=ks) (i:=i) (by simpa using h)
   show(X-c)*L2.prV X (ks.take (i+1))=(X-c)*L2.prV X (ks.take i)*(X-k);rw[ih];grind
inductive MQ(K:pP)(cl:Nat->ge)(C:ge)(vs:yt)(H:Hp)(E_2:VK)(E:XK):Prop
 | mk(p dx r:ge)(xs:yt)(t:Str)(qs:yn)(pss:ym)(n:Nat)(_:vs=[.ref p,.str t])(_:Txt.split t (Str.ofString " ")=wd 0::qs.map tx)(_:t.length+2<=io)(_:H p=some (dk C dx r))(_:Pok K H r xs pss)(_:loW 0<=qs.length)(_:qs.length<=hiW 0)(_:(∀q∈qs,Fg q))(_:Chg pss qs 0 (.error n))(_:∀H',Hy H H'->E (.ref (cl n)) none H')
inductive Sb(K:pP)(cl:Nat->ge)(C:ge)(vs:yt)(H:Hp)(Q:VK)(E:XK):Prop
 | mk(p dx r:ge)(xs:yt)(t:Str)(qs:yn)(pss:ym)(n:Nat)(_:vs=[.ref p,.str t])(_:Txt.split t (Str.ofString " ")=wd 0::qs.map tx)(_:t.length+2<=io)(_:H p=some (dk C dx r))(_:Pok K H r xs pss)(_:loW 0<=qs.length)(_:qs.length<=hiW 0)(_:(∀q∈qs,Fg q))(_:Chg pss qs 0 (.error n))(_:(n=0\/n=1\/n=2))(_:∀H',Hy H H'->Q (.bl true) H')
theorem atV{i:Nat}{x:V}{k:Int}(h:xs[i]? = some x)(e:k=(i:Int)):atI xs k=some x:=by subst e;exact HQ h
theorem O1(x:Rat)(l:yn)(i:Nat)(v:Rat)(h:l[i]? = some v):Cv.ev (l.take (i+1)) x=Cv.ev (l.take i) x+v*x ^ i:=by
 have hi:i<l.length:=(pY.mp h).1;rw[sC,h];show Cv.ev (l.take i++[v]) x=_;rw[Cv.ev_snoc,qN,rm Yl]
inductive Sa(K:pP)(vs:yt)(H:Hp)(Q:VK)(E:XK):Prop
 | mk(r u:ge)(xs ys:yt)(qs ps:yn)(m n:Nat)(_:vs=[.ref r,.ref u])(_:SqL K H r xs)(_:HR K H xs qs)(_:SqL K H u ys)(_:HR K H ys ps)(_:(∀q∈qs,RB m q))(_:(∀q∈ps,RB n q))(_:m+n<=400000)(_:1<=qs.length)(_:1<=ps.length)(_:qs.length<=20)(_:ps.length<=20)(_:∀(p:ge) (H':Hp) (zs:yt) (ms:yn),Hy H H'->H p=none->H' p=some (.lst zs)->HR K H' zs ms->ms.length=qs.length+ps.length-1->(∀x,Cv.ev ms x=Cv.ev qs x*Cv.ev ps x)->(∀q∈ms,RB (qs.length*(m+n+1)+1) q)->Q (.ref p) H')
theorem UQ{pss:ym}{m:Nat}{ps qs:yn}(h:∀ps∈pss,Nr (ps.getD 0 0))(O:pss[m]? = some ps)(Y:qs.getD 0 0=ps.getD 0 0):∀p∈pss.set m qs,Nr (p.getD 0 0):=λp W=>by
 rcases uW W with z | z
 ·exact h p z
 ·rw[z,Y];exact h ps (qU O)
theorem PN{ps:yn}(h:ps.length=2\/ps.length=3):(ps.take 2).getD 0 0=ps.getD 0 0:=by
 match ps,h with
 | _::_::_,_=>rfl
 | [_],h=>simp at h
 | [],h=>simp at h
theorem Chg.ak(O:Chg pss qs i (.ok Y))(h:Pq pss)(h1:loW i<=qs.length)(h2:qs.length<=hiW i)(J:∀q∈qs,Fg q)(ak:Ak pss)(hn:i=0->Nr (qs.getD 0 0))(ht:(HI Y).length<=8):Ak Y:=by
 refine⟨ht,(O.pq h h1 h2 J).fg,?_⟩;have pn:∀ps∈pss,Nr (ps.getD 0 0):=ak.pn;show ∀ps∈Y,Nr (ps.getD 0 0);cases O with
 | put _ _ =>
   intro p W
   rcases pW.mp W with z | z
   ·exact pn p z
   ·rw[sU.mp z];exact hn rfl
 | take _ _ _ =>
   intro p W
   rcases pW.mp W with z | z
   ·exact pn p (uM z)
   ·exact pn p (v3 z)
 | height hm h0=>exact UQ pn hm rfl
 | slope hm h0 _=>exact UQ pn hm (Sr (h.h23 _ (qU hm)))
 | noslope hm h0=>exact UQ pn hm (PN (h.h23 _ (qU hm)))
def sI:yo->Nat
 | []=>0
 | a::l=>a.natAbs+sI l
theorem Qe:∀{l:yo} {a:Int},a∈l->a.natAbs<=sI l
 | b::l,a,h=>by
   rcases pV.mp h with rfl | h
   ·exact u9 ..
   ·exact pQ (Qe h) (Nat.le_add_left ..)
def lnI(a:Int):yo->Int->yo
 | [],c=>[c]
 | t::l,c=>(c-a*t)::lnI a l t
theorem QB(a:Int):∀l c,(lnI a l c).length=l.length+1
 | [],_=>rfl
 | t::l,c=>by show(lnI a l t).length+1=_;rw[QB a l t];rfl
theorem Yy(a:Int)(x:Rat):∀l c,Cv.ev ((lnI a l c).map λt:Int=>(t:Rat)) x=(c:Rat)+(x-(a:Rat))*Cv.ev (l.map λt:Int=>(t:Rat)) x
 | [],c=>by
   show(c:Rat)+x*0=(c:Rat)+(x-a)*0
   grind
 | t::l,c=>by
   show((c-a*t:Int):Rat)+x*Cv.ev ((lnI a l t).map λt:Int=>(t:Rat)) x=(c:Rat)+(x-(a:Rat))*((t:Rat)+x*Cv.ev (l.map λt:Int=>(t:Rat)) x);rw[Yy a x l t,sj,si]
   grind
theorem Yx(a:Int):∀l c,sI (lnI a l c)<=c.natAbs+(a.natAbs+1)*sI l
 | [],c=>qd _
 | t::l,c=>by
   have ih:=Yx a l t;show(c-a*t).natAbs+sI (lnI a l t)<=c.natAbs+(a.natAbs+1)*(t.natAbs+sI l)
   have h1:(c-a*t).natAbs<=c.natAbs+a.natAbs*t.natAbs:=by
    rw[<- t7];lia
   rw[tH,tq _ _ t.natAbs,tu]
   lia
theorem Ws{Y:yn}{l:yo}(W:Y.length=l.length)(h:∀x,Cv.ev Y x=Cv.ev (l.map λt:Int=>(t:Rat)) x):Y=l.map λt:Int=>(t:Rat):=by
 apply List.ext_getElem (by rw[W,qz])
 intro k h1 h2;have e:=ML (l:=Y) (m:=l.map λt:Int=>(t:Rat)) (λj=>h _) k;rw[sO,sO,sV h1,sV h2]at e;exact e
theorem Nu(h:sI l<10 ^ 6):∀q∈l.map (λt:Int=>(t:Rat)),Fg q:=λq Y=>by
 obtain⟨t,W,rfl⟩:=tR.mp Y;have:=Qe W;unfold Fg;rw[uU,uV];exact⟨Yl,Yd⟩
theorem Z1(O:∀q∈qs,Fh q):∃Y:yn,ctx qs=Str.join Iz (Y.map tx)/\Y≠[]/\Y.length<=max 1 qs.length/\(∀q∈Y,Fh q)/\(∀x,Cv.ev Y x=Cv.ev qs x)/\(Y=[0]/\qs=[]\/Y=qs):=by
 by_cases h:qs=[]
 ·subst h;refine⟨[0],?_,List.cons_ne_nil _ _,qd _,λq W=>?_,λx=>?_,.inl ⟨Z,Z⟩⟩
  ·rw[show ctx []=Str.ofString "0" from if_pos rfl];decide +kernel
  ·rw[sU.mp W];exact⟨Nat.pow_pos Yd,Nat.one_lt_pow Yd Yd⟩
  ·show(0:Rat)+x*0=0
   grind
 ·exact⟨qs,if_neg h,h,Nat.le_max_right ..,O,λ_=>rfl,.inr rfl⟩
inductive Ny(K:pP)(vs:yt)(H:Hp)(Q:VK)(E:XK):Prop
 | mk(b:Bool)(r:ge)(xs:yt)(pss:ym)(_:vs=[.ref r])(_:Sq b K H r xs)(_:Pts K H xs pss)(_:P23 pss)(_:pss.length<=100)(_:∀(p:ge) (H':Hp) (ys:yt),Hy H H'->H p=none->H' p=some (.lst ys)->Tls K H' ys (HI pss)->Q (.ref p) H')
inductive NA(K:pP)(vs:yt)(H:Hp)(Q:VK)(E:XK):Prop
 | mk(b:Bool)(r:ge)(xs:yt)(pss:ym)(_:vs=[.ref r])(_:Sq b K H r xs)(_:Pts K H xs pss)(_:P23 pss)(_:(∀ps∈pss,∀q∈ps,Fg q))(_:pss.length<=100)(_:∀H',Hy H H'->Q (.str (Ss pss)) H')
inductive KY(K:pP)(vs:yt)(H:Hp)(Q:VK)(E:XK):Prop
 | mk(c rx:ge)(xs:yt)(cs:yn)(x:Rat)(m n:Nat)(_:vs=[.ref c,.ref rx])(_:SqL K H c xs)(_:HR K H xs cs)(_:HP K H (.ref rx) x)(_:(∀q∈cs,RB m q))(_:RB n x)(_:cs.length<=20)(_:1<=m)(_:(m+11+n*cs.length+4)*(cs.length+2)<=90000000)(_:∀p H',Hy H H'->H' p=some (nT (Cv.ev (IE cs) x))->RB ((m+11+n*cs.length+4)*(cs.length+1)) (Cv.ev (IE cs) x)->Q (.ref p) H')
inductive LG(K:pP)(vs:yt)(H:Hp)(Q:VK)(E:XK):Prop
 | mk(b:Bool)(r c:ge)(xs xc:yt)(pss:ym)(cs:yn)(m n:Nat)(_:vs=[.ref r,.ref c])(_:Sq b K H r xs)(_:Pts K H xs pss)(_:P23 pss)(_:pss.length<=20)(_:SqL K H c xc)(_:HR K H xc cs)(_:cs.length<=20)(_:(∀ps∈pss,∀q∈ps,RB n q))(_:(∀q∈cs,RB m q))(_:1<=m)(_:1<=n)(_:(m+11+n*cs.length+4)*(cs.length+2)<=90000000)(_:∀(p:ge) (H':Hp) (ys:yt),Hy H H'->H p=none->H' p=some (.lst ys)->Mss K H' ys (msd cs (HI pss))->Q (.ref p) H')
inductive Q7(K:pP)(vs:yt)(H:Hp)(Q:VK)(E:XK):Prop
 | mk(a r:ge)(xs:yt)(pss:ym)(_:vs=[.ref a,.ref r])(_:Pen H a)(_:Pok K H r xs pss)(_:Ak pss)(_:(HI pss).length<=7)(_:∀(t r':ge) (xs':yt) (pss':ym) (i:Nat) (qs:yn) (H':Hp),Mv a H H'->Pen H' a->H' t=some (.tup [.str (Str.join Iz (wd i::qs.map tx)),.ref r'])->i<5->Chg pss qs i (.ok pss')->loW i<=qs.length->qs.length<=hiW i->(∀q∈qs,Fg q)->SqT K H' r' xs'->Ie K H' xs' pss'->Ak pss'->(HI pss').length<=7->Q (.ref t) H')
theorem TK{i:Nat}{qs:yn}(hi:i<5)(Y:∀q∈qs,Fg q)(h1:1<=qs.length)(W:qs.length<=3):(wd i++Str.ofString " ").length+(Str.join Iz (qs.map tx)).length<=io/\(wd i++Str.ofString " ")++Str.join Iz (qs.map tx)=Str.join Iz (wd i::qs.map tx):=by
 have e:=Qf i qs h1;have O:=So hi Y W;rw[<- e,Jg]at O;exact⟨Yl,e⟩
theorem Xp(h:(HI pss).length<=n)(W:pss[m]? = some ps):(HI (pss.take m++pss.drop (m+1))).length<=n:=by
 have Y:=(pY.mp W).1
 have es:pss=pss.take m++(ps::pss.drop (m+1)):=by
  have z:=tK Y;rw[<- (pY.mp W).2,<- z,tU]
 have O:(HI pss).length=(HI (pss.take m)).length+((IA ps).length+(HI (pss.drop (m+1))).length):=by
  conv=>lhs;rw[es]
  rw[JM,qV];show _+(IA ps++HI (pss.drop (m+1))).length=_;rw[qV]
 rw[JM,qV];lia
theorem Xo(W:pss[m]? = some ps):(HI (pss.set m qs)).length+(ps.length-1)=(HI pss).length+(qs.length-1):=by
 have Y:=(pY.mp W).1
 have es:pss=pss.take m++(ps::pss.drop (m+1)):=by
  have z:=tK Y;rw[<- (pY.mp W).2,<- z,tU]
 have J:(HI pss).length=(HI (pss.take m)).length+((IA ps).length+(HI (pss.drop (m+1))).length):=by
  conv=>lhs;rw[es]
  rw[JM,qV];show _+(IA ps++HI (pss.drop (m+1))).length=_;rw[qV]
 have O:(HI (pss.set m qs)).length=(HI (pss.take m)).length+((IA qs).length+(HI (pss.drop (m+1))).length):=by
  rw[v5,if_pos Y,JM,qV];show _+(IA qs++HI (pss.drop (m+1))).length=_;rw[qV]
 rw[J,O,Ih,Ih];lia
theorem ZX(e:∀X,Cv.ev c X=Cv.ev d X)(u:Li):hk c u=hk d u:=by
 unfold hk;by_cases z:u.k=1
 ·rw[if_pos z,if_pos z];exact(L2.Mt u.x c).trans ((L2.Oi e u.x).trans (L2.Mt u.x d).symm)
 ·rw[if_neg z,if_neg z];exact e _
theorem fR{K:pP}{D:Lj}{n:St->Hp->Prop}{σ:St}{H:Hp}(h:n σ H):Cl (λ_=>fD) K (D.to n) σ H:=h
def Sok(t:Str):Prop:=∀c∈sg t,c<128
theorem gu(h:Sok t):PyData.canLay0 (.str t)=true:=by
 show t.cps.all (λc=>decide (c<0x110000))=true;rw[uG];intro c Y;exact decide_eq_true (rP (h c (by simpa [sg] using Y)) Yd)
theorem VB:∀{ts:yr},(∀t∈ts,Sok t)->PyData.canLayAll0 (ts.map PyData.str)=true
 | [],_=>rfl
 | t::r,h=>by
   show(PyData.canLay0 (.str t)&&PyData.canLayAll0 (r.map PyData.str))=true;rw[VB λu hu=>h u (pU _ hu),gu (h t (pT ..))];rfl
theorem Ru:∀ts:yr,PyData.depthAll (ts.map PyData.str)<=1
 | []=>qg _
 | t::r=>by
   show max (PyData.depth (.str t)) (PyData.depthAll (r.map PyData.str))<=1;have:=Ru r;have h:PyData.depth (.str t)<=1:=qg _
   lia
theorem VA{ts:yr}(h:∀t∈ts,Sok t):SeqAt.shaped (.list (ts.map PyData.str))=true:=by
 show(PyData.canLayAll0 (ts.map PyData.str)&&decide (PyData.depthAll (ts.map PyData.str)+1<=64))=true;rw[VB h,Bool.true_and];exact decide_eq_true (by have:=Ru ts;lia)
theorem Tt{K:pP}{H:Hp}{p:ge}{ts:yr}(s:SqL K H p (ts.map V.str)):Rds K H (.ref p) (.list (ts.map PyData.str)):=.lst s (by rw[qz,qz]) λi x d e1 Y=>by
 rw[qR]at e1 Y;obtain⟨t,W,rfl⟩:=rQ.mp e1;rw[W]at Y;cases Y;exact .str t
theorem Tu:∀ts us:yr,PyData.eqvAll (ts.map PyData.str) (us.map PyData.str)=decide (ts=us)
 | [],[]=>rfl
 | [],_::_=>rfl
 | _::_,[]=>rfl
 | t::ts,u::us=>by
   show((t == u)&&PyData.eqvAll (ts.map PyData.str) (us.map PyData.str))=_;rw[Tu ts us,Bool.eq_iff_iff];simp
theorem jZ{H:Hp}{a b:ge}{ts us:yr}{Q:VK}{neg:Bool}(W:SqL K H a (ts.map V.str))(O:SqL K H b (us.map V.str))(Y:∀t∈ts,Sok t)(J:∀t∈us,Sok t)(h:Q (.bl (if neg then !decide (ts=us) else decide (ts=us))) H):Nf K neg (.ref a) (.ref b) H Q:=by
 refine OK ⟨_,_,Tt W,Tt O,VA Y,VA J,?_⟩;have e:PyData.eqv (.list (ts.map PyData.str)) (.list (us.map PyData.str))=decide (ts=us):=Tu ts us;rw[e];exact h
theorem RP(hs:Sok sep):∀{ts:yr},(∀t∈ts,Sok t)->∀c∈sg (Str.join sep ts),c<128
 | [],_,c,hc=>by cases (show c∈([]:yq) from hc)
 | [t],h,c,hc=>by rw[PyProof.Rows.join_one]at hc;exact h t (sU.mpr rfl) c hc
 | t::v::r,h,c,hc=>by
   rw[PyProof.Rows.join_cons_cons,IB,IB]at hc
   rcases pW.mp hc with z | z
   ·rcases pW.mp z with z | z
    ·exact h t (pT ..) c z
    ·exact hs c z
   ·exact RP hs (λx hx=>h x (pU _ hx)) c z
theorem Thr.one(h1:Thr pss c)(h2:Thr pss d):c=d:=Ul h1.good h2.good λx=>by rw[h1.ev,h2.ev]
theorem Ans.i5(h:Ans pss qs 5 t):∃cs,Thr pss cs/\t=ctx cs:=by
 cases h with
 | curve h=>exact⟨_,h,Z⟩
theorem Ans.i6(h:Ans pss qs 6 t):t=Str.join Iz ((Iy pss).map tx):=by
 cases h with
 | steps=>rfl
theorem Ans.i7(h:Ans pss qs 7 t)(Y:Thr pss c):t=tx (Cv.ev c (qs.getD 0 0)):=by
 cases h with
 | at_ h=>rw[h.one Y]
theorem Ans.i8(h:Ans pss qs 8 t)(Y:Thr pss c):t=tx (Cv.ev (IE c) (qs.getD 0 0)):=by
 cases h with
 | slope h=>rw[h.one Y]
theorem Ans.i9(h:Ans pss qs 9 t):t=KN (msd qs (HI pss)):=by
 cases h with
 | miss =>
   have e:msd (Cv.strip qs) (HI pss)=msd qs (HI pss):=by
    unfold msd
    congr 1
    exact List.filter_congr λt _=>by rw[ZX (λX=>Cv.ev_strip X qs) t]
   rw[e]
theorem Wb(h:Fh x):RB 1640 x:=by
 obtain⟨h1,h2⟩:=h;unfold RB Bd
 lia
theorem Np:Txt.split (Str.ofString "curve") (Str.ofString " ")=wd 5::([]:yn).map tx:=by
 have e:Str.ofString " " = ⟨#[32]⟩:=by apply Nd;rw[Ji];rfl
 rw[e];exact PU (by rw[Ji];decide +kernel)
theorem Vs:Txt.split (Str.ofString "steps") (Str.ofString " ")=wd 6::([]:yn).map tx:=by
 have e:Str.ofString " " = ⟨#[32]⟩:=by apply Nd;rw[Ji];rfl
 rw[e];exact PU (by rw[Ji];decide +kernel)
theorem Sn{i:Nat}{qs:yn}(hi:i=7\/i=8\/i=9)(J:∀q∈qs,Fg q)(h1:1<=qs.length)(Y:qs.length<=16):(wd i++Str.ofString " ").length+(Str.join Iz (qs.map tx)).length+2<=io/\Txt.split ((wd i++Str.ofString " ")++Str.join Iz (qs.map tx)) (Str.ofString " ")=wd i::qs.map tx:=by
 have hs:=sK;refine⟨?_,?_⟩
 ·have hl:=MK (sep:=Iz) (by rw[MU];decide) (Nw λq W=>(J q W).fh)
  rw[qz]at hl;have O:qs.length*(983+2)<=16*(983+2):=uP Y (qd _);have hw:(wd i++Str.ofString " ").length<=10:=by rcases hi with rfl | rfl | rfl<;>decide +kernel
  lia
 ·rw[Qf i qs h1];refine KW (sep:=Iz) (c:=32) (w:=[]) Yk Yk (wd i) (qs.map tx) λu hu=>?_
  rcases pV.mp hu with z | z
  ·rw[z]
   rcases hi with rfl | rfl | rfl<;>decide +kernel
  ·obtain⟨q,_,rfl⟩:=tR.mp z;exact MN q Yd
theorem Yu(h:Y≠[]):Str.join Iz (Y.map mtx)≠Str.ofString "":=by
 have k:∀(t:Str) (l:yr),59∈sg t->59∈sg (Str.join Iz (t::l)):=λt l W=>by
  match l with
  | []=>rw[PyProof.Rows.join_one];exact W
  | v::r=>rw[PyProof.Rows.join_cons_cons,IB,IB];exact pX _ (pX _ W)
 match Y,h with
 | m::r,_ =>
   intro z;have:=k (mtx m) (r.map mtx) (by unfold mtx;rw[IB,IB];exact pX _ (qf _ (by rw[Ji];decide)))
   rw[show Str.join Iz (mtx m::r.map mtx)=_ from z,Ji]at this;exact absurd this Yd
theorem iS(x:Rat):Sok (tx x):=λc Y=>by have:=Xk x Y;lia
theorem ZU(h:∀m∈W,m.2=0\/m.2=1):Sok (KN W):=by
 unfold KN
 split
 ·intro c Y;rw[Ji]at Y;revert Y;exact(by decide:∀c ∈ "none".toList.map Char.toNat,c<128) c
 ·refine RP (λc Y=>by rw[show sg Iz=[32] by decide +kernel]at Y;rw[sU.mp Y];decide) λt O=>?_
  obtain⟨m,J,rfl⟩:=tR.mp O;intro c Y;unfold mtx at Y;rw[IB,IB]at Y
  rcases pW.mp Y with z | z
  ·rcases pW.mp z with z | z
   ·exact iS _ c z
   ·rw[Ji]at z;rw[sU.mp (show c∈[59] from z)];decide
  ·rcases h m J with e | e<;>rw[e]at z<;>revert z<;>intro z
   ·rw[show sg (txI 0)=[48] by decide +kernel]at z;rw[sU.mp z];decide
   ·rw[show sg (txI 1)=[49] by decide +kernel]at z;rw[sU.mp z];decide
inductive Sd(K:pP)(C:ge)(vs:yt)(H:Hp)(Q:VK)(E:XK):Prop
 | mk(a p dx r r':ge)(xs xs':yt)(pss:ym)(_:vs=[.ref a,.ref p,.ref r])(_:Pen H a)(_:H p=some (dk C dx r'))(_:Pok K H r xs pss)(_:Pok K H r' xs' pss)(_:Ak pss)(_:(HI pss).length<=7)(_:∀H',Mv a H H'->Pen H' a->Q (.bl true) H')
theorem Wc(X:Rat)(n:Nat):∀fs:yn,Cv.ev (fs++qK n 0) X=Cv.ev fs X
 | []=>by rw[List.nil_append,Cv.ev_zeros];rfl
 | f::fs=>by
   show f+X*Cv.ev (fs++qK n 0) X=f+X*Cv.ev fs X;rw[Wc X n fs]
theorem ia(Y:Nat->yt->Hp->Prop)(h0:Y 0 [] H)
 (hl:∀i zs H,i<=min xs.length ys.length->Y i zs H->SqL K H a xs/\SqL K H b ys/\zs.length=i) (hz:min xs.length ys.length<=io)
 (hs:∀i x y T zs H,xs[i]? = some x->ys[i]? = some y->H T=none->Y i zs H->te (((cS 2 js σ).set 0 (some x)).set 1 (some y)) (upd H T (.tup [x,y])) λy H4=>Y (i+1) (zs++[y]) H4) (J:∀zs H',Y (min xs.length ys.length) zs H'->O zs H') :
 ∃(n':Nat) (W:Nat->yt->Hp->Prop),W 0 [] H/\LcW (Itz K a b xs ys) n' 2 js σ (X4 K 2 (QJ (K1 0) (QJ (K1 1) e7))) QP te O W:=by
 refine⟨min xs.length ys.length,Y,h0,⟨?_,?_,?_⟩⟩
 ·intro i zs H' hi p;obtain⟨h1,h2,h3⟩:=hl i zs H' (pR hi) p;exact⟨⟨h1,h2,hi⟩,Yl⟩
 ·rintro i zs H' x H1 hi p ⟨T,x1,z,hx,hy,hT,rfl,rfl⟩;exact⟨T,_,Z,yx Hu,Z,x1,_,Z,z,_,Z,Z,hs i x1 z T zs H' hx hy hT p⟩
 ·intro zs H' p;obtain⟨h1,h2,h3⟩:=hl _ zs H' (qd _) p;exact⟨⟨h1,h2,qd _⟩,Yl,J zs H' p⟩
theorem P5:∀{xs:List α} {ys:List β},Paired R xs ys->Paired R xs.reverse ys.reverse
 | _,_,.nil=>.nil
 | x::xs,y::ys,.cons r t=>by
   rw[tL,tL];exact Paired.snoc (P5 t) r
abbrev iq(l:yo):yn:=l.map λt:Int=>(t:Rat)
def lnP(a:Int):Nat->yo->yo
 | 0,l=>l
 | j+1,l=>lnI a (lnP a j l) 0
theorem Py(a:Int)(l:yo)(x:Rat):Cv.ev (iq (lnI a l 0)) x=(x-(a:Rat))*Cv.ev (iq l) x:=by
 have:=Yy a x l 0;rw[show((0:Int):Rat)=0 from rfl]at this;rw[this];grind
theorem RL(a:Int)(l:yo)(x:Rat):Cv.ev (L2.dL (iq (lnI a l 0))) x=(x-(a:Rat))*Cv.ev (L2.dL (iq l)) x+Cv.ev (iq l) x:=by
 have h:∀x,Cv.ev (iq (lnI a l 0)) x=Cv.ev [-(a:Rat),1] x*Cv.ev (iq l) x:=λx=>by
  rw[Py];show _=(-(a:Rat)+x*(1+x*0))*_
  grind
 rw[L2.MS h]
 have e:Cv.ev (L2.dL [-(a:Rat),1]) x=1:=by
  rw[<- L2.Mt];show(1:Rat)*((1:Nat):Rat)+x*0=1;rw[show((1:Nat):Rat)=1 from rfl];grind
 rw[e];show(-(a:Rat)+x*(1+x*0))*_+_=_
 grind
theorem Lc(a:Int)(l:yo):∀j,(lnP a j l).length=l.length+j
 | 0=>rfl
 | j+1=>by show(lnI a (lnP a j l) 0).length=_;rw[QB,Lc a l j];rfl
theorem Vg(Y:a.natAbs<=3)(h:sI l<=B):∀j,sI (lnP a j l)<=B*4 ^ j
 | 0=>by show sI l<=B*1;lia
 | j+1=>by
   have ih:=Vg Y h j;have:=Yx a (lnP a j l) 0;show sI (lnI a (lnP a j l) 0)<=_;have e:B*4 ^ (j+1)=4*(B*4 ^ j):=by rw[t8];grind
   have O:(a.natAbs+1)*sI (lnP a j l)<=4*(B*4 ^ j):=uP Yl ih;rw[e];have W:(0:Int).natAbs=0:=rfl
   lia
def Zr(l:yo)(ps:yn):Prop:=Cv.ev (iq l) (ps.getD 0 0)=0/\(ps.length=3->Cv.ev (L2.dL (iq l)) (ps.getD 0 0)=0)
theorem Zr.ln(h:Zr l ps)(a:Int):∀j,Zr (lnP a j l) ps
 | 0=>h
 | j+1=>by
   obtain⟨h1,h2⟩:=Zr.ln h a j;refine⟨?_,λz=>?_⟩
   ·show Cv.ev (iq (lnI a (lnP a j l) 0)) _=0;rw[Py,h1];grind
   ·show Cv.ev (L2.dL (iq (lnI a (lnP a j l) 0))) _=0;rw[RL,h1,h2 z];grind
theorem Zr.own{a:Int}(W:ps.getD 0 0=(a:Rat))(h2:ps.length=2\/ps.length=3):Zr (lnP a (ps.length-1) l) ps:=by
 have k:∀Y:yo,Cv.ev (iq (lnI a Y 0)) (ps.getD 0 0)=0:=λY=>by rw[Py,W];grind
 rcases h2 with z | z
 ·rw[z];exact⟨k l,λy=>by lia⟩
 ·rw[z];refine⟨k _,λ_=>?_⟩;show Cv.ev (L2.dL (iq (lnI a (lnI a l 0) 0))) _=0;rw[RL,k l,W];grind
structure Og(cz mz:yo)(f:Int)(i:Nat)(pss:ym):Prop where
 h23:P23 pss
 len:pss.length=i
 nd:(pss.map λps=>ps.getD 0 0).Nodup
 pl:∀ps∈pss,∃x:Int,ps.getD 0 0=(x:Rat)/\f<=x/\x<f+i
 fg:∀ps∈pss,∀q∈ps,Fg q
 on:∀ps∈pss,OnC (iq cz) ps
 zr:∀ps∈pss,Zr mz ps
 ml:mz.length=(HI pss).length+1
 ms:sI mz<=5*4 ^ (HI pss).length
 t2:(HI pss).length<=2*i
theorem KR(h:Y.Perm pss):(HI Y).length=(HI pss).length:=by
 rw[Mn,Mn];exact(h.map _).sum_nat
theorem Og.step(h:Og cz mz f i pss)(hf : -3<=f/\f+i<=3)(J:Y.Perm (ps::pss))(h2:ps.length=2\/ps.length=3)(h0:ps.getD 0 0=((f+i:Int):Rat))(ac:OnC (iq cz) ps)(aa:∀q∈ps,Fg q):Og cz (lnP (f+i) (ps.length-1) mz) f (i+1) Y:=by
 have O:∀{p},p∈Y->p=ps\/p∈pss:=λW=>pV.mp (J.mem_iff.mp W)
 have ht:(HI Y).length=(HI pss).length+(ps.length-1):=by
  rw[KR J];show(IA ps++HI pss).length=_;rw[qV,Ih];lia
 have ad:=h.t2;have ae:=h.ml;refine⟨λp W=>?_,by rw[J.length_eq,qr,h.len],?_,λp W=>?_,λp W=>?_,λp W=>?_,λp W=>?_,?_,?_,Yl⟩
 ·rcases O W with z | z
  ·rw[z];exact h2
  ·exact h.h23 p z
 ·refine(J.map _).nodup_iff.mpr ?_;rw[qw,qI];refine⟨λz=>?_,h.nd⟩;obtain⟨p,W,e⟩:=tR.mp z;obtain⟨x,ex,x1,x2⟩:=h.pl p W;rw[ex,h0]at e;have:=Rat.intCast_inj.mp e
  lia
 ·rcases O W with z | z
  ·rw[z];exact⟨_,h0,Yl,Yl⟩
  ·obtain⟨x,ex,x1,x2⟩:=h.pl p z;exact⟨x,ex,x1,Yl⟩
 ·rcases O W with z | z
  ·rw[z];exact aa
  ·exact h.fg p z
 ·rcases O W with z | z
  ·rw[z];exact ac
  ·exact h.on p z
 ·rcases O W with z | z
  ·rw[z];exact Zr.own h0 h2
  ·exact(h.zr p z).ln _ _
 ·rw[Lc];lia
 ·rw[ht,Nat.pow_add,<- Nat.mul_assoc];exact Vg Yl h.ms _
theorem Og.ak(h:Og cz Y f i pss)(O : -3<=f/\f<=0)(hi:i<=4):Ak pss:=by
 have:=h.t2;refine⟨Yl,h.fg,λps W=>?_⟩;obtain⟨x,ex,z,J⟩:=h.pl ps W;rw[ex,uU,uV];exact⟨by unfold Bd;lia,by unfold Bd;decide⟩
theorem Og.rev(h:Og cz O f i pss):Og cz O f i pss.reverse:=by
 have W:=List.reverse_perm pss;refine⟨λp Y=>h.h23 p (W.mem_iff.mp Y),by rw[tM,h.len],(W.map _).nodup_iff.mpr h.nd,λp Y=>h.pl p (W.mem_iff.mp Y),λp Y=>h.fg p (W.mem_iff.mp Y),λp Y=>h.on p (W.mem_iff.mp Y),λp Y=>h.zr p (W.mem_iff.mp Y),by rw[KR W];exact h.ml,by rw[KR W];exact h.ms,by rw[KR W];exact h.t2⟩
theorem Xg(x:Rat):∀{a b:yo},a.length=b.length->Cv.ev (iq (v7 (· + ·) a b)) x=Cv.ev (iq a) x+Cv.ev (iq b) x
 | [],[],_=>by show(0:Rat)=0+0;grind
 | u::a,v::b,h=>by
   have ih:=Xg x (a:=a) (b:=b) (by simpa using h)
   show((u+v:Int):Rat)+x*Cv.ev (iq (v7 (· + ·) a b)) x=((u:Rat)+x*Cv.ev (iq a) x)+((v:Rat)+x*Cv.ev (iq b) x);rw[ih,se];grind
 | [],_::_,h=>by simp at h
 | _::_,[],h=>by simp at h
theorem Xf:∀{a b:yo},sI (v7 (· + ·) a b)<=sI a+sI b
 | [],b=>by rw[List.zipWith_nil_left];exact qg _
 | u::a,[]=>qg _
 | u::a,v::b=>by
   have ih:=Xf (a:=a) (b:=b);show(u+v).natAbs+sI (v7 (· + ·) a b)<=u.natAbs+sI a+(v.natAbs+sI b)
   lia
theorem US:∀(a b:yo),sI (a++b)=sI a+sI b
 | [],b=>by show sI b=0+sI b;lia
 | u::a,b=>by
   have:=US a b;show u.natAbs+sI (a++b)=u.natAbs+sI a+sI b
   lia
theorem UR:∀n,sI (qK n 0)=0
 | 0=>rfl
 | n+1=>by show(0:Int).natAbs+sI (qK n 0)=0;rw[UR n];rfl
theorem gA(h:l[k]? = some v):sI (l.set k (v+1))<=sI l+1:=by
 induction l generalizing k with
 | nil=>simp at h
 | cons u l ih =>
   cases k with
   | zero =>
     simp at h;subst h;show(u+1).natAbs+sI l<=u.natAbs+sI l+1
     lia
   | succ k =>
     have:=ih (k:=k) (by simpa using h)
     show u.natAbs+sI (l.set k (v+1))<=u.natAbs+sI l+1
     lia
theorem T6(a b:yo):iq (a++b)=iq a++iq b:=sD
theorem YF(l:yo)(n:Nat)(x:Rat):Cv.ev (iq (l++qK n 0)) x=Cv.ev (iq l) x:=by
 rw[T6];show Cv.ev (iq l++(qK n 0).map λt:Int=>(t:Rat)) x=_;rw[sy];exact Wc x n (iq l)
theorem TJ:∀{l:yo},(∀c∈l,-4<=c/\c<=4)->sI l<=4*l.length
 | [],_=>qg _
 | c::l,h=>by
   have ih:=TJ (l:=l) λd hd=>h d (pU _ hd);have:=h c pT;show c.natAbs+sI l<=4*(l.length+1)
   lia
theorem Mc{z:Int}(h:z.natAbs<10 ^ 6):Fg (z:Rat):=by
 unfold Fg;rw[uU,uV];exact⟨h,Yd⟩
theorem XG(hl:cz.length<=3)(Y:∀c∈cz,-4<=c/\c<=4){x:Int}(hx : -3<=x/\x<=3):Fg (Cv.ev (iq cz) (x:Rat))/\Fg (Cv.ev (IE (iq cz)) (x:Rat)):=by
 obtain⟨J,O,W,b0,b1,b2,e1,e2⟩:∃J O W:Int,(-4<=J/\J<=4)/\(-4<=O/\O<=4)/\(-4<=W/\W<=4)/\Cv.ev (iq cz) (x:Rat)=((J+x*(O+x*W):Int):Rat)/\Cv.ev (IE (iq cz)) (x:Rat)=((O+x*(2*W):Int):Rat):=by
  match cz,hl with
  | [],_=>exact⟨0,0,0,Yd,Yd,Yd,by show(0:Rat)=_;simp,by show(0:Rat)=_;simp⟩
  | [a],_ =>
    refine⟨a,0,0,Y a (by simp),Yd,Yd,?_,by show(0:Rat)=_;simp⟩
    show(a:Rat)+x*0=_;simp[v8]
  | [a,b],_ =>
    refine⟨a,b,0,Y a (by simp),Y b (by simp),Yd,?_,?_⟩
    ·show(a:Rat)+x*(b+x*0)=_;simp[se,si,v8]
    ·show(b:Rat)*((0+1:Nat):Rat)+x*0=_;simp[v8]
  | [a,b,c],_ =>
    refine⟨a,b,c,Y a (by simp),Y b (by simp),Y c (by simp),?_,?_⟩
    ·show(a:Rat)+x*(b+x*(c+x*0))=_;simp[se,si,v8]
    ·show(b:Rat)*((0+1:Nat):Rat)+x*((c:Rat)*((1+1:Nat):Rat)+x*0)=_;rw[se,si,si,show((0+1:Nat):Rat)=1 from rfl,show((1+1:Nat):Rat)=2 from rfl,show((2:Int):Rat)=2 from rfl];grind
 rw[e1,e2];have z:x = -3\/x = -2\/x = -1\/x=0\/x=1\/x=2\/x=3:=by lia
 refine⟨Mc ?_,Mc ?_⟩<;>rcases z with rfl | rfl | rfl | rfl | rfl | rfl | rfl<;>lia
theorem gr(h:∀x,Cv.ev (iq O) x=Cv.ev (iq cz) x+Cv.ev (iq W) x)(Y:OnC (iq cz) ps)(z:Zr W ps):OnC (iq O) ps:=by
 refine⟨?_,λJ=>?_⟩
 ·rw[h,Y.1,z.1];grind
 ·rw[L2.Rx h,Y.2 J,z.2 J];grind
theorem Zn(W:P23 pss)(Y:(pss.map λps=>ps.getD 0 0).Nodup)(hc:Thr pss.reverse c)(hd:Thr pss d):c=d:=by
 have z:=List.reverse_perm pss;have O:P23 pss.reverse:=λp hq=>W p (z.mem_iff.mp hq);have J:(pss.reverse.map λps=>ps.getD 0 0).Nodup:=(z.map _).nodup_iff.mpr Y;refine Ul hc.good hd.good (WJ W Y (by rw[<- KR z];exact hc.len) hd.len (λps hq=>S3 O J hc.ev ps (z.mem_iff.mpr hq)) (S3 W Y hd.ev))
inductive Q5(K:pP)(vs:yt)(H:Hp)(Q:VK)(E:XK):Prop
 | mk(a:ge)(_:vs=[.ref a])(_:Pen H a)(_:∀H',Q (.bl true) H')
def Lo(y:Rat)(pss:ym):ym:=pss.map λps=>[ps.getD 0 0,y]
theorem Nl(y:Rat):∀pss,(HI (Lo y pss)).length=pss.length
 | []=>rfl
 | p::r=>by
   have e:HI (Lo y (p::r))=IA [p.getD 0 0,y]++HI (Lo y r):=rfl;rw[e,qV,Nl y r,Ih];exact Nat.add_comm 1 r.length
theorem YN(h:Pq pss)(hy:Fg y)(ak:Ak pss):Pq (Lo y pss)/\Ak (Lo y pss):=by
 have hl:=Nl y pss;have aa:=JE h.h23;have ac:=h.h12;have h8:=ak.h8
 have O:P23 (Lo y pss):=λp W=>by
  obtain⟨ps,_,rfl⟩:=tR.mp W;exact .inl rfl
 have J:∀ps∈Lo y pss,∀q∈ps,Fg q:=λp W q hq=>by
  obtain⟨ps,Y,rfl⟩:=tR.mp W
  rcases pV.mp hq with z | z
  ·have:=h.h23 ps Y;rw[z];exact h.fg ps Y _ (KO Yl)
  ·rw[sU.mp z];exact hy
 refine⟨⟨O,?_,?_,Yl,J⟩,⟨Yl,J,λp W=>?_⟩⟩
 ·unfold Lo;rw[qz];exact h.h1
 ·unfold Lo;rw[tN];exact h.nd
 ·obtain⟨ps,Y,rfl⟩:=tR.mp W;exact ak.pn ps Y
theorem XW(x:Rat):(Str.ofString "put " ++ tx x)++Str.ofString " 1" = Str.join Iz (wd 0::[x,1].map tx):=by
 rw[<- Qf 0 [x,1] (by decide:1<=2)]
 show _=_++Str.join Iz [tx x,tx 1];rw[PyProof.Rows.join_cons_cons,PyProof.Rows.join_one];apply Nd;rw[IB,IB,IB,IB,IB,IB,show sg (Str.ofString "put ")=sg (wd 0)++sg (Str.ofString " ") by decide +kernel,show sg (Str.ofString " 1")=sg Iz++sg (tx 1) by decide +kernel]
 simp[rG]
section
variable {P:mo}{w:rc}{K:pP}{mg:Str->Option gl}{base:rf}
theorem HF{N P:yr}{W:vi}{pos:Pos}{i:Nat}{x:Str}{e:Expr}{te:TE}{pos':Pos}(sc:HJ N P W)(O:PE X e te)(h1:X.N=N:=by rfl)(h2:X.N[i]? = some x:=by rfl)(Y:L2.Loc X.env.scope x:=by first | exact .inl rfl | exact .inr rfl)(J:swapsWith e (some (Expr.Name x pos')) pos.line X.env=pure false:=by rfl)(z:X.fn x=true\/qv x X.env.scope.names=some NameKind.local:=by first | exact .inl rfl | exact .inr rfl | assumption):PS X (Stmt.Assign [Expr.Name x pos'] e pos) (Xw te (K1 i)):=Om (h1 ▸ sc.nd) h2 Y O J z
theorem HE(Y:IxR X r)(O:PE X a ta)(W:PE X b tb)(h:Wo b:=by exact λ_ _=>rfl):PE X (a.Subscript b pos) (tOp r ta tb):=TR Y O W h
theorem HK(W:OpR X (ul Y) r)(J:PE X a ta)(O:PE X b tb)(h:vz Y b=false:=by exact LA _):PT X (a.Compare [Y] [b] pos) (Rt (tOp r ta tb)):=K3 W J O h
theorem HC{Ju:List vv}(K:pP)(h1:PS X st t)(h2:PSs X Ju v)(h:v=u K:=by rfl):PSs X (st::Ju) (Xs t (Cl u K)):=JA h1 h2 h
theorem Ig(K:pP)(h1:PT X c tc)(h2:PSs X a J)(z:PSs X b O)(e1:J=Y K:=by rfl)(e2:O=W K:=by rfl):PS X (Stmt.If c a b pos) (QR tc (Cl Y K) (Cl W K)):=Oo h1 h2 z e1 e2
theorem J7{NX P N:yr}{Y scope:vi}{nt:Nat}{js:yq}(sc:HJ NX P Y)(h1:X.N=NX:=by rfl)(h2:X.env.scope=Y:=by rfl)(h:PF NX Y N nt js scope=true:=by decide +kernel):KA X N nt js scope:=KA.look h1 h2 h
theorem HU(K:pP)(b:X.mg "len" = none)(Y:PE X e te)(h1:Gl X "len":=by rfl)(h2:lm [e] X.env=(false,tz e X.env)::lm [] X.env:=by rfl)(W:((ut pos (lm [] X.env)).any λx=>x.fst)=false:=by rfl)(O:X.K=K:=by rfl):PE X ((Expr.Name "len" p).Call [e] [] pos) (tCB (fk K) (LD te QQ)):=ID (jS K O) h1 b QL (H9 Y HB h2) Yd Yr h2 W
theorem Ic(F:Fd X.prog X.w X.K X.mg X.base n x ps sp)(W:Jw k X.A)(h1:PE X e1 t1)(g:Gl X x:=by rfl)(l:n<=k:=by decide)(d:(x == Str.ofString "__debug__")=false:=by rfl)(Y:lm [e1] X.env=(false,tz e1 X.env)::lm [] X.env:=by rfl)(b:((ut pos (lm [] X.env)).any λx=>x.fst)=false:=by rfl):PE X ((Expr.Name x p).Call [e1] [] pos) (PQ sp [] E0 (LD t1 QQ)):=Ln F W g (H9 h1 HB Y) l d Y b
theorem HS(F:Fd X.prog X.w X.K X.mg X.base n x ps sp)(J:Jw k X.A)(h1:PE X e1 t1)(h2:PE X Y O)(g:Gl X x:=by rfl)(l:n<=k:=by decide)(d:(x == Str.ofString "__debug__")=false:=by rfl)(W:lm [e1,Y] X.env=(false,tz e1 X.env)::lm [Y] X.env:=by rfl)(z:lm [Y] X.env=(false,tz Y X.env)::lm [] X.env:=by rfl)(b:((ut pos (lm [Y] X.env)).any λx=>x.fst)=false:=by rfl):PE X ((Expr.Name x p).Call [e1,Y] [] pos) (PQ sp [] E0 (LD t1 (LD O QQ))):=Ln F J g (H9 h1 (H9 h2 HB z) W) l d W b
theorem Ql(F:Fd X.prog X.w X.K X.mg X.base n x ps sp)(hr:Jw k X.A)(h1:PE X e1 t1)(h2:PE X W J)(h3:PE X Y z)(g:Gl X x:=by rfl)(l:n<=k:=by decide)(d:(x == Str.ofString "__debug__")=false:=by rfl)(O:lm [e1,W,Y] X.env=(false,tz e1 X.env)::lm [W,Y] X.env:=by rfl)(s2:lm [W,Y] X.env=(false,tz W X.env)::lm [Y] X.env:=by rfl)(s3:lm [Y] X.env=(false,tz Y X.env)::lm [] X.env:=by rfl)(b:((ut pos (lm [W,Y] X.env)).any λx=>x.fst)=false:=by rfl):PE X ((Expr.Name x p).Call [e1,W,Y] [] pos) (PQ sp [] E0 (LD t1 (LD J (LD z QQ)))):=Ln F hr g (H9 h1 (H9 h2 (H9 h3 HB s3) s2) O) l d O b
theorem okA{base:rf}(F:Fun K x qual st f fd)(S:HJ N ps (HD st))
 (Y:∀(W:gl) (A:sB) (outer:List Env) (s:im) (H:Hp) (vs:yt) (Q:VK) (E:XK),Jw k (A.deeper (PyProof.Rows.envOfC qual (HD st) s.heap.objs.size f W))->sp vs H Q E ->
  ∃t,PSs (O4 CX0 P w K mg base N qual (HD st) f W A outer s H E).nox (J9 st) t/\t { nx:=λ_ H'=>Q .non H',rt:=Q } (N4 N vs) H) (O:∀vs H Q E,sp vs H Q E->vs.length=ps.length:=by intro _ _ _ _ h;cases h;subst_vars;rfl):HV P w K mg base CX0 (k+1) f fd ps sp:=F.ok S O Y
theorem nd1(a:Str):List.Nodup [a]:=uY ..
theorem fsc{N P:yr}{sc:vi}(h1:sc.kind = .function:=by rfl)(h2:sc.isCoroutine=false:=by rfl)(Y:sc.isGenerator=false:=by rfl)(J:N.Nodup:=by decide +kernel)(z:N.take P.length=P:=by rfl)(O:∀x∈P,sc.names.lookup x=some .local\/sc.names.lookup x=some .cell:=by decide +kernel)(W:∀y∈sc.names,y.2 ≠ .free:=by decide +kernel):HJ N P sc:=⟨h1,h2,Y,J,z,O,W⟩
theorem Lm:HJ ["_law_script","_law_k","_law_cell"] ["_law_script","_law_k"] (HD (top 132)):=fsc
theorem Ua(F:Fun K "_law_pen" "_law_pen" (top 132) f fd)(kq:mg "len" = none)(hT:yL P) :
 HV P w K mg base CX0 33 f fd ["_law_script","_law_k"] (XD K):=by
 refine okA F Lm λad A outer s H vs Q E hr h=>?_
 refine⟨_,(HC K (HF (i:=2) Lm (HG Iu (HG Iq Hv (pv 1)) Hv))
  (HC K (Ig K (HK RH (pv 1) (HU K kq (pv 0))) (HA (HF (i:=2) Lm (HE (ixL K) (pv 0) (pv 1)))) (HA (Ig K (HK Ke (HU K kq (pv 0)) Hv) (HA (HF (i:=2) Lm (HG Iu (HE (ixL K) (pv 0) (HG Ky (pv 1) (HU K kq (pv 0)))) (HG Iq Hv (pv 1))))) HL)))
  (HC K (Ig K (HK fQ (pv 2) (HG Ya Hv Hv)) (HA (HH (IJ (H9 (HG Jf (pv 2) (HG Ya Hv Hv)) (H9 (HG Ky (pv 2) Hv) (H9 Hv HB)))))) HL)
  (HA (HH (IJ (H9 Hv (H9 (HG Iu (HG Ky (pv 2) Hv) (HG Iq Hv (pv 1))) (H9 Hv HB))))))))),?_⟩
 obtain⟨a,W,k,rfl,J,af,h0,ae,q⟩:=h;have hl:(W.map V.int).length=W.length:=qz _;have O:3<=io:=by decide
 have C1:iP 10 18:=by unfold iP;decide
 refine⟨_,Z,_,_,Z,Z,.inl ⟨Yd,Yd⟩,_,_,Z,Z,?_⟩;refine⟨_,Z,_,Z,a,_,Z,.inl J,_,_,Z,Z,_,Z,?_⟩;rw[hl];have ac:k<(W.length:Int)->∃v:Int,atI (W.map V.int) k=some (.int v):=λc=>Wk h0 c;have aa:0<(W.length:Int)->∃v:Int,atI (W.map V.int) (k % (W.length:Int))=some (.int v):=λc=>Wk (ua _ Yl) (ub _ c);refine NY (λc=>?_) (λc=>?_)
 ·obtain⟨v,z⟩:=(ac (of_decide_eq_true c));refine⟨_,Z,_,Z,a,_,_,_,Z,Z,J,z,?_⟩;refine⟨_,Z,_,_,Z,Z,C1,_,_,Z,Z,_,Z,?_⟩;refine NY (λc=>?_) (λc=>?_)
  ·exact⟨_,Z,_,_,Z,Z,C1,_,_,Z,Z,_,Z,_,_,Z,Z,(by first | decide | (dsimp only;decide)),O,λp Y=>q p _ _ Y⟩
  ·exact⟨_,Z,_,_,Z,Z,(by first | decide | (dsimp only;decide)),_,rfl,_,_,rfl,rfl,.inl ⟨Yd,Yd⟩,_,_,rfl,rfl,O,λp Y=>q p _ _ Y⟩
 ·refine⟨_,Z,a,_,Z,.inl J,_,_,Z,Z,_,Z,?_⟩;rw[hl];refine NY (λc=>?_) (λc=>?_)
  ·obtain⟨v,z⟩:=(aa (of_decide_eq_true c));have c':0<(((W.map V.int).length:Nat):Int):=by rw[hl];exact of_decide_eq_true c
   rw[<- hl]at z;refine⟨_,Z,_,Z,_,Z,a,_,Z,.inl J,_,_,Z,Z,c',a,_,_,_,Z,Z,J,z,_,Z,_,_,Z,Z,.inl ⟨Yd,Yd⟩,_,_,Z,Z,?_⟩;refine⟨_,Z,_,_,Z,Z,C1,_,_,Z,Z,_,Z,?_⟩;refine NY (λc=>?_) (λc=>?_)
   ·exact⟨_,Z,_,_,Z,Z,C1,_,_,Z,Z,_,Z,_,_,Z,Z,(by first | decide | (dsimp only;decide)),O,λp Y=>q p _ _ Y⟩
   ·exact⟨_,Z,_,_,Z,Z,(by first | decide | (dsimp only;decide)),_,rfl,_,_,rfl,rfl,.inl ⟨Yd,Yd⟩,_,_,rfl,rfl,O,λp Y=>q p _ _ Y⟩
  ·refine⟨_,Z,_,_,Z,Z,C1,_,_,Z,Z,_,Z,?_⟩;refine NY (λc=>?_) (λc=>?_)
   ·exact⟨_,Z,_,_,Z,Z,C1,_,_,Z,Z,_,Z,_,_,Z,Z,(by first | decide | (dsimp only;decide)),O,λp Y=>q p _ _ Y⟩
   ·exact⟨_,Z,_,_,Z,Z,(by first | decide | (dsimp only;decide)),_,rfl,_,_,rfl,rfl,.inl ⟨Yd,Yd⟩,_,_,rfl,rfl,O,λp Y=>q p _ _ Y⟩
theorem KI:HJ ["_law_pen_here","_law_many","_law_drawn","_law_number"] ["_law_pen_here","_law_many"] (HD (top 133)):=fsc
theorem SU(F:Fun K "_law_draw" "_law_draw" (top 133) f fd)(hT:yL P) :
 HV P w K mg base CX0 33 f fd yX (LP):=by
 refine okA F KI λaa A outer s H vs Q E hr h=>?_
 refine⟨_,(HC K (Nh (HG Iu (HE (ixL K) (pv 0) Hv) Hv) (Oq (pv 0) Hv LH))
  (HC K (Ig K (HK Ke (HE (ixL K) (pv 0) Hv) Hv) (HC K (HF (i:=2) KI (HG Ky (HE (ixL K) (pv 0) Hv) (pv 1)))
  (HC K (Nh (HG (Kt hr hT) (HE (ixL K) (pv 0) Hv) (pv 1)) (Oq (pv 0) Hv LH))
  (HA (HH (pv 2))))) HL)
  (HC K (HF (i:=3) KI (HG Ky (HG Iq (HG Iu (HG Iu (HE (ixL K) (pv 0) Hv) (HG Iq Hv (HE (ixL K) (pv 0) Hv))) Hv) Hv) Hv))
  (HC K (HF (i:=3) KI (HG Ky (HG Iq (pv 3) (HG Iu (HG Iu (HG Ky (pv 3) Hv) (HE (ixL K) (pv 0) Hv)) Hv)) Hv))
  (HA (HH (HG Ky (HG (Kt hr hT) (HG Ky (HG Iq (pv 3) (HG Iu (HG Ky (pv 3) Hv) Hv)) Hv) Hv) (pv 1)))))))),?_⟩
 obtain⟨a,m,rfl,⟨c0,J,O,hp⟩,h1,h2,q0⟩:=h;have q:∀d Y W:Int,0<=d->d<m->Q (.int d) (upd H a (.lst [.int Y,.int J,.int W])):=λd _ _ h3 h4=>q0 d _ h3 h4 .put .put;have hm:m≠0:=by lia
 have q':∀(o:HO) (d Y W:Int),0<=d->d<m->Q (.int d) (upd (upd H a o) a (.lst [.int Y,.int J,.int W])):=λo d Y W h3 h4=>by rw[Zk];exact q d Y W h3 h4
 refine⟨_,Z,a,_,_,_,Z,Z,yw hp,Z,_,_,Z,Z,_,Z,a,_,_,_,Z,Z,hp,Z,?_⟩;refine⟨_,Z,a,_,_,_,Z,Z,yw Hu,Z,_,_,Z,Z,_,Z,?_⟩;refine NY (λc=>?_) (λc=>?_)
 ·refine⟨_,Z,a,_,_,_,Z,Z,yw Hu,Z,_,Z,_,_,Z,Z,(by lia:0<m),?_⟩
  refine⟨_,Z,a,_,_,_,Z,Z,yw Hu,Z,_,Z,_,_,Z,Z,hm,_,Z,a,_,_,_,Z,Z,Hu,Z,?_⟩;refine⟨_,Z,?_⟩;exact q' _ _ _ _ (ua _ Yl) (ub _ Yl)
 ·have cl:∀z:Int,0<z->(0:Int)<z:=λ_ h=>h;refine⟨_,Z,a,_,_,_,Z,Z,yw Hu,Z,_,Z,a,_,_,_,Z,Z,yw Hu,Z,_,_,Z,Z,.inl ⟨Yd,Yd⟩,_,_,Z,Z,_,_,Z,Z,_,_,Z,Z,.inr (.inl ⟨Yd,Yd⟩),_,_,Z,Z,(by first | decide | (dsimp only;decide)),?_⟩
  have n1:=ua ((J+40503*(O+1)+1)*48271) (show(2147483647:Int)≠0 by decide)
  have n2:=ub ((J+40503*(O+1)+1)*48271) (show(0:Int)<2147483647 by decide)
  generalize hN:(J+40503*(O+1)+1)*48271 % 2147483647=N at n1 n2;refine⟨_,Z,_,Z,_,_,Z,Z,(by first | decide | (dsimp only;decide)),_,Z,a,_,_,_,Z,Z,yw Hu,Z,_,_,Z,Z,_,_,Z,Z,_,_,Z,Z,.inl ?_,_,_,Z,Z,(by first | decide | (dsimp only;decide)),?_⟩
  ·(try rw[hN]);lia
  try rw[hN]
  have n3:=ua (N*(N % 65521+(O+1)+3)) (show(2147483629:Int)≠0 by decide)
  have n4:=ub (N*(N % 65521+(O+1)+3)) (show(0:Int)<2147483629 by decide)
  generalize N*(N % 65521+(O+1)+3) % 2147483629=M at n3 n4;refine⟨_,Z,_,Z,_,_,Z,Z,(by first | decide | (dsimp only;decide)),_,_,Z,Z,_,_,Z,Z,.inl ⟨Yl,Yl⟩,_,_,Z,Z,(by first | decide | (dsimp only;decide)),_,_,Z,Z,(by first | decide | (dsimp only;decide)),_,Z,_,_,Z,Z,(by lia:0<m),?_⟩
  exact q _ _ _ (ua _ Yl) (ub _ Yl)
theorem JO:HJ ["_law_top","_law_bottom","_law_one","_law_other"] ["_law_top","_law_bottom"] (HD (top 134)):=fsc
theorem Qt(F:Fun K "_law_lowest" "_law_lowest" (top 134) f fd)(kN:mg "abs" = none)(hT:yL P) :
 HV P w K mg base CX0 33 f fd yZ (Ll):=by
 refine okA F JO λaf A outer s H vs Q E hr h=>?_
 refine⟨_,(HC K (HF (i:=2) JO (ID O5 rfl kN Tf (H9 (pv 0) HB)))
  (HC K (HF (i:=3) JO (ID O5 rfl kN Tf (H9 (pv 1) HB)))
  (HC K (MD PassesOwn.never (HK Ke (pv 3) Hv) (HA (gH (i:=2) (j:=3) rfl JO.nd rfl rfl Yd rfl rfl (H9 (pv 3) (H9 (HG Ky (pv 2) (pv 3)) HB)) (by with_unfolding_all rfl))))
  (HC K (Ig K (HK RH (pv 1) Hv) (HA (HF (i:=2) JO (HG Jf Hv (pv 2)))) HL)
  (HA (HH (Ib (H9 (HG (Kt hr hT) (pv 0) (pv 2)) (H9 (HG (Kt hr hT) (pv 1) (pv 2)) HB))))))))),?_⟩
 obtain⟨a,b,rfl,hb,q⟩:=h;refine⟨_,Z,a,Z,?_⟩;refine⟨_,Z,b,Z,?_⟩
 refine To (L3 H a b λH a b σ H'=>H'=H/\∃(x y:Int),σ=[some (.int a),some (.int b),some (.int x),some (.int y)]/\0<=x/\0<=y/\rR x y=rR a b) (λσ _=>mu 3 σ)
  ⟨Z,_,_,Z,?_,?_,?_⟩ ?_ ?_
 ·rw[Nm.abs_if];exact v9 _
 ·rw[Nm.abs_if];exact v9 _
 ·rw[Nm.abs_if,Nm.abs_if];rfl
 ·rintro σ H' aa;refine Jh aa λae z=>?_;refine Kg z λx y W=>?_;clear z;refine Le W λad hx hy hg=>?_;clear W;obtain rfl:=ae;obtain rfl:=ad
  try clear aa
  refine⟨_,Z,_,_,Z,Z,_,Z,?_⟩;by_cases hy0:y=0
  ·subst hy0;refine IX ?_;have e:(rR a b:Int)=x:=by rw[<- hg,Int.gcd_zero];lia
   subst e;refine⟨_,Z,_,_,Z,Z,_,Z,?_⟩;have hd:Nm.msr a b≠0:=Nm.msr_ne hb
   have Y:∀p,H' p=none->Q (.ref p) (upd H' p (.tup [.int (a.fdiv (Nm.msr a b)),.int (b.fdiv (Nm.msr a b))])):=λp hp=>by
    rw[Nm.top_msr hb,Nm.bottom_msr hb];exact q p hp
   by_cases hb0:b<0
   ·have O:Nm.msr a b=0-(rR a b:Int):=by unfold Nm.msr;rw[if_pos hb0];lia
    rw[O]at hd Y;refine IT (by rw[decide_eq_true hb0]<;>rfl) ⟨_,Z,_,_,Z,Z,?_⟩
    exact⟨_,Z,_,Z,_,_,Z,Z,hd,_,Z,_,Z,_,_,Z,Z,hd,(by decide:2<=io),Y⟩
   ·have O:Nm.msr a b=(rR a b:Int):=by unfold Nm.msr;rw[if_neg hb0]
    rw[O]at hd Y;refine Ii (by rw[decide_eq_false hb0]<;>rfl) ?_
    exact⟨_,Z,_,Z,_,_,Z,Z,hd,_,Z,_,Z,_,_,Z,Z,hd,(by decide:2<=io),Y⟩
  ·have J:0<y:=by lia
   refine IT (by rw[decide_eq_true J]<;>rfl) ?_
   refine⟨_,Z,_,Z,_,Z,_,_,Z,Z,J,_,_,Z,⟨Z,y,x % y,Z,hy,ua _ hy0,?_⟩,?_⟩
   ·rw[Nm.gcd_turn];exact hg
   ·show(x % y).toNat<y.toNat;have:=ub x J
    lia
 ·rintro σ H' Q1 Q2 hm ac;obtain⟨v,e,i,j,e1,e2,k,ek,q1⟩:=ac
  try clear ac
  exact⟨v,e,i,j,e1,e2,k,ek,hm _ _ q1⟩
theorem Sl:HJ yP ["_law_a","_law_b"] (HD (top 135)):=fsc
theorem SS(F:Fun K "_law_plus" "_law_plus" (top 135) f fd)(kG:Fd P w K mg base 33 "_law_lowest" yZ (Ll))(hT:yL P) :
 HV P w K mg base CX0 34 f fd yP (Mi K (· + ·)):=by
 refine okA F Sl λaa A outer s H vs Q E Y h=>?_;refine⟨_,(HA (HH (HS kG Y (HG Iu (HG Iq (HE (ixT K) (pv 0) Hv) (HE (ixT K) (pv 1) Hv)) (HG Iq (HE (ixT K) (pv 1) Hv) (HE (ixT K) (pv 0) Hv))) (HG Iq (HE (ixT K) (pv 0) Hv) (HE (ixT K) (pv 1) Hv))))),?_⟩;obtain⟨x,y,p,q,m,n,rfl,⟨r,rfl,Y⟩,⟨u,rfl,J⟩,W,O,ac,k⟩:=h;refine⟨_,Z,r,_,_,_,Z,Z,Y,Z,_,Z,u,_,_,_,Z,Z,J,Z,_,_,Z,Z,yH W.1 O.2,_,Z,u,_,_,_,Z,Z,J,Z,_,Z,r,_,_,_,Z,Z,Y,Z,_,_,Z,Z,yH O.1 W.2,_,_,Z,Z,?_⟩;refine⟨_,Z,r,_,_,_,Z,Z,Y,Z,_,Z,u,_,_,_,Z,Z,J,Z,_,_,Z,Z,yH W.2 O.2,?_⟩;refine⟨_,_,Z,rZ (Nm.den_ne p) (Nm.den_ne q),λz hz=>?_⟩;have e:=k z hz
 try dsimp only at e
 rw[<- Nm.plus_eq]at e;exact e
theorem Lw:HJ ["_law_pen_here","_law_places","_law_x"] ["_law_pen_here","_law_places"] (HD (top 147)):=fsc
theorem Rg(F:Fun K "_law_fresh" "_law_fresh" (top 147) f fd)(kG:Fd P w K mg base 33 "_law_lowest" yZ (Ll))(kI:Fd P w K mg base 34 "_law_plus" yP (Mi K (· + ·)))(ky:Fd P w K mg base 33 "_law_draw" yX (LP))(hT:yL P) :
 HV P w K mg base CX0 35 f fd za (ND K):=by
 refine okA F Lw λak A outer s H vs Q E W h=>?_
 refine⟨_,(HC K (HF (i:=2) Lw (HS kG W (HG Jf (HS ky W (pv 0) Hv) Hv) (HG Iu Hv (HS ky W (pv 0) Hv))))
  (HC K (MD PassesOwn.never (K3 (inD K W) (pv 2) (pv 1) (by with_unfolding_all rfl)) (HA (HF (i:=2) Lw (HS kI W (pv 2) (Ib (H9 Hv (H9 Hv HB)))))))
  (HA (HH (pv 2))))),?_⟩
 obtain⟨a,l,zs,qs,rfl,pn,la,el,hz,al,q⟩:=h;have P2:2<=io:=by decide
 refine⟨_,Z,a,41,Z,pn,Yd,Yd,λd H1 d0 d1 o1 p1=>⟨_,_,Z,Z,_,Z,a,3,Z,p1,Yd,Yd,λe H2 e0 e1 o2 p2=>⟨_,_,Z,Z,_,_,Z,Yl,λr W=>?_⟩⟩⟩;have m2:Mv a H (upd H2 r (nT (rV (d-20) (1+e)))):=(o1.mv.trans o2.mv).trans (Mv.new W);have p3:=p2.same (o:=nT (rV (d-20) (1+e))) W;have ac:upd H2 r (nT (rV (d-20) (1+e))) r=some (nT (rV (d-20) (1+e))):=Hu;have af:=m2 _ _ la el;have aa:=HR.mv hz pn m2;generalize upd H2 r (nT (rV (d-20) (1+e)))=H3 at m2 p3 ac af aa ⊢
 refine⟨λμ σ H4=>Hy H3 H4/\∃(r:ge) (x:Rat) (j:Nat),σ=[some (.ref a),some (.ref l),some (.ref r)]/\H4 r=some (nT x)/\x=rV (d-20) (1+e)+(j:Rat)/\μ=cnt x qs/\j+cnt x qs<=qs.length,
  ⟨_,yy _,r,_,0,Z,ac,(by have z:((0:Nat):Rat)=0:=rfl;rw[z];grind),Z,by have:=Z3 (rV (d-20) (1+e)) qs;lia⟩,?_⟩
 rintro μ σ H4 ae;refine Jh ae λs4 ad=>?_;refine Lh ad λr' x j Y=>?_;clear ad;refine N0 Y λai J hx aj hj=>?_;clear Y;obtain rfl:=ai;obtain rfl:=aj
 try clear ae
 have O:Fg x:=by rw[hx];exact YQ Yl Yl Yl Yl
 have ah:Nr x:=by rw[hx];exact Yh Yl Yl Yl Yl
 have ag:RB 20 x:=⟨by unfold Bd;exact rP O.1 Yd,by unfold Bd;have:=O.2;lia⟩
 refine⟨_,Z,_,Z,?_⟩;refine inN (yF J) (yw (s4 _ _ af)) (yG aa s4) ?_;refine⟨_,Z,?_⟩;by_cases hin:x∈qs
 ·refine IT (by rw[decide_eq_true hin]<;>rfl) ⟨_,λ_ _ h=>h,?_⟩
  refine⟨_,Z,P2,λt ht=>⟨_,_,_,_,20,1,Z,yF ((yA ht) _ _ J),yF (Hu (o:=nT 1)),ag,RB.one Yd,Yl,λu hu=>?_⟩⟩;refine⟨_,Vr hin,(s4.trans (yA ht)).trans (yA hu),u,x+1,j+1,Z,Hu,?_,Z,by have:=Vr hin;lia⟩
  rw[hx,Rat.natCast_add];have z:((1:Nat):Rat)=1:=rfl;rw[z];grind
 ·exact Ii (by rw[decide_eq_false hin]<;>rfl) ⟨_,Z,q r' x H4 (m2.trans s4.mv) (p3.sm s4) J hin O ah⟩
theorem MA:HJ ["_law_pen_here","_law_way"] ["_law_pen_here"] (HD (top 146)):=fsc
theorem Qu(F:Fun K "_law_little" "_law_little" (top 146) f fd)(W:Fd P w K mg base 33 "_law_draw" yX (LP))(kG:Fd P w K mg base 33 "_law_lowest" yZ (Ll))(hT:yL P) :
 HV P w K mg base CX0 34 f fd y2 (Mp):=by
 refine okA F MA λaa A outer s H vs Q E Y h=>?_
 refine⟨_,(HC K (HF (i:=1) MA (HS W Y (pv 0) Hv))
  (HC K (Ig K (HK RH (pv 1) Hv) (HA (HH (HS kG Y (HG Jf (HS W Y (pv 0) Hv) Hv) (HG Iu Hv (HS W Y (pv 0) (HE (ixL K) (IJ (H9 Hv (H9 Hv (H9 Hv HB)))) (pv 1))))))) HL)
  (HA (HH (HS kG Y (HG Jf (HS W Y (pv 0) Hv) Hv) (HG Iu Hv (HS W Y (pv 0) Hv))))))),?_⟩
 obtain⟨a,rfl,pn,q⟩:=h;refine⟨_,Z,a,4,Z,pn,Yd,Yd,λw H1 w0 w1 o1 p1=>?_⟩;refine⟨_,Z,_,_,Z,Z,_,Z,?_⟩;refine NY (λc=>?_) (λc=>?_)
 ·refine⟨_,Z,a,21,Z,p1,Yd,Yd,λd H2 d0 d1 J p2=>⟨_,_,Z,Z,?_⟩⟩;refine⟨_,Z,(by decide:3<=io),λl hl=>?_⟩
  have c':=of_decide_eq_true c;obtain⟨v,hv,hm⟩:=(ft (xs:=[1,1,6]) (i:=w) w0 c')
  have ac:1<=v/\v<=6:=by
   simp at hm;lia
  refine⟨_,Z,l,_,_,_,Z,Z,yw Hu,hv,?_⟩;refine⟨a,v,Z,p2.same hl,Yl,Yl,λe H3 e0 e1 O z=>⟨_,_,Z,Z,_,_,Z,Yl,λr Y=>?_⟩⟩;exact q _ r _ (o1.mv.trans (J.mv.trans ((Mv.new hl).trans (O.mv.trans (Mv.new Y))))) (z.same Y) Hu (Vo Yl Yl Yl)
 refine⟨_,Z,a,1999999,Z,p1,Yd,Yd,λd H2 d0 d1 J p2=>⟨_,_,Z,Z,?_⟩⟩;refine⟨_,Z,a,999,Z,p2,Yd,Yd,λe H3 e0 e1 O z=>⟨_,_,Z,Z,_,_,Z,Yl,λr Y=>?_⟩⟩;exact q _ r _ (o1.mv.trans (J.mv.trans (O.mv.trans (Mv.new Y)))) (z.same Y) Hu (Vo Yl Yl Yl)
theorem IF:HJ ["_law_pen_here","_law_most","_law_room","_law_found","_law_point"] ["_law_pen_here","_law_most"] (HD (top 148)):=fsc
theorem MZ(F:Fun K "_law_desk_points" "_law_desk_points" (top 148) f fd)(ky:Fd P w K mg base 33 "_law_draw" yX (LP))(lL:Fd P w K mg base 35 "_law_fresh" za (ND K))(kO:Fd P w K mg base 34 "_law_little" y2 (Mp))(kr:mg "tuple" = none)(kq:mg "len" = none)(hT:yL P) :
 HV P w K mg base CX0 36 f fd ["_law_pen_here","_law_most"] (Na K):=by
 refine okA F IF λaV A outer s H vs Q E hr h=>?_
 refine⟨_,(HC K (HF (i:=2) IF (HG Iu Hv (HS ky hr (pv 0) (pv 1))))
  (HC K (HF (i:=3) IF (IJ HB))
  (HC K (MD PassesOwn.never (HK Ke (pv 2) Hv) (HC K (HF (i:=4) IF (Ib (H9 (HS lL hr (pv 0) (Jj rfl (N:=["_law_one"]) (nt:=1) (js:=[]) (J7 IF) (piL K (pv 3)) (λ_ _ _ _ _=>(HM (i:=0) (nd1 _) rfl (Or.inl rfl))) (HY Yd) (λ_ _ _ _ _=>Iv) (λ_ _ _ _ _=>(HE (ixT K) (pv 0) Hv)))) (H9 (Ic kO hr (pv 0)) HB))))
  (HC K (Ig K (yv (M3 (HK Ke (pv 2) Hv) (KJ (HK Jk (HS ky hr (pv 0) Hv) Hv)))) (HA (HF (i:=4) IF (HG (kc K) (pv 4) (Ib (H9 (Ic kO hr (pv 0)) HB))))) HL)
  (HC K (HF (i:=2) IF (HG Iu (HG Jf (pv 2) (HU K kq (pv 4))) Hv))
  (HA (JS (J0 K PySem.F.plainAttrs_list PySem.F.slot_list_append PySem.F.type_list_append JT (pv 3) (H9 (pv 4) HB))))))))
  (HA (HH (Ij (Ls K) rfl kr Jr (H9 (pv 3) HB))))))),?_⟩
 obtain⟨a,Y,rfl,pn,h1,aU,q⟩:=h;have P0:0<=io:=by decide
 have P1:1<=io:=by decide
 have P2:2<=io:=by decide
 refine⟨_,Z,_,Z,a,Y,Z,pn,Yl,Yl,λd H1 d0 d1 o1 p1=>⟨_,_,Z,Z,P0,λf hf=>?_⟩⟩;have fa:f≠a:=p1.ne' hf;have aw:H f=none:=Mv.free o1.mv fa hf
 refine⟨λμ σ H'=>Mv a H H'/\Pen H' a/\∃(zs:yt) (pss:ym) (R:Int) (z4:Option V),σ=[some (.ref a),some (.int Y),some (.int R),some (.ref f),z4]/\H' f=some (.lst zs)/\Ie K H' zs pss/\P23 pss/\(pss.map λps=>ps.getD 0 0).Nodup/\(∀ps∈pss,∀q∈ps,Fg q)/\(∀ps∈pss,Nr (ps.getD 0 0))/\((HI pss).length:Int)+R=1+d/\0<=R/\(R=0->1<=pss.length)/\μ=R.toNat,
  ⟨_,Mv.put' o1.mv aw,p1.same hf,[],[],1+d,none,Z,Hu,.nil,(λ_ h=>nomatch h),List.nodup_nil,(λ_ h=>nomatch h),(λ_ h=>nomatch h),(by show((0:Nat):Int)+_=_;lia),Yl,λz=>by lia,Z⟩,?_⟩
 rintro μ σ H2 aa;refine Mg aa λmv ap ak=>?_;refine Uq ak λzs pss R z4 ad=>?_;clear ak;refine jC ad λaL ef hp am az aI ay hR R0 aK aR=>?_;clear ad;obtain rfl:=aL;obtain rfl:=aR
 try clear aa
 have aT:=JE am;have aW:=hp.length;refine⟨_,Z,_,_,Z,Z,_,Z,?_⟩;by_cases hR0:R > 0
 ·refine IT (by rw[decide_eq_true hR0]<;>rfl) ⟨_,λ_ _ h=>h,?_⟩
  refine⟨_,Z,Jo ⟨_,Z,f,Z,⟨_,yw ef⟩,Nj (xs:=zs) (L3 H2 K pss λH2 K pss i ys H'=>H'=H2/\ys.length=i/\HR K H2 ys ((pss.map λps=>ps.getD 0 0).take i)) ⟨Z,Z,.nil⟩ (λi ys H' _ h=>⟨by rw[h.1];exact yw ef,h.2.1⟩) (pR (HX Yl)) ?_ ?_⟩⟩
  ·rintro i v ys H' hv ⟨rfl,aq,af⟩;obtain⟨ps,ai,a',us,rr,rfl,hs,hn,h0,hr⟩:=(yB hp hv);refine⟨_,Z,a',us,_,.ref rr,Z,Z,hs,HQ (j:=0) h0,Z,by simp[aq],?_⟩
   rw[sC,qR,ai];exact Paired.snoc af (yF hr)
  rintro ys H' ⟨rfl,aq,af⟩ l hl;rw[tX (by rw[qz];lia)]at af
  have sl:=yA (o:=.lst ys) hl;have av:=sl _ _ ef;have aA:=yK hp sl;have as:=ap.sm sl;have aB:=mv.trans sl.mv;have la:l≠a:=ap.ne' hl;refine⟨a,l,ys,_,Z,as,la,Hu,yG af sl,by rw[qz];lia,λrx x H3 m3 p3 ex hx aC aN=>⟨_,Z,a,Z,p3,λy ry H4 m4 p4 ey aF=>⟨P2,λt ht=>?_⟩⟩⟩
  have ao:=m4 _ _ (p3.ne ex (NS x)) ex;have st:=yA (o:=.tup [.ref rx,.ref ry]) ht;have ah:=(m3.trans m4).trans st.mv;have p5:=p4.sm st;have au:=ah _ _ fa av;have ar:=Ie.mv aA as ah;have aj:=aB.trans ah;have an:PtT K (upd H4 t (.tup [.ref rx,.ref ry])) (.ref t) [x,y]:=⟨t,_,rx,Z,yx Hu,.cons (yF (st _ _ ao)) (.cons (yF (st _ _ ey)) .nil),Z,st _ _ ao⟩;generalize upd H4 t (.tup [.ref rx,.ref ry])=H5 at p5 au ar aj an ⊢;clear ao st ah ht av aA aB as af aq sl hl la m3 m4 p3 p4 ex ey
  try dsimp only
  refine K9 (L9 a H f zs K pss Y R x λa H f zs K pss Y R x aD H'=>Mv a H H'/\Pen H' a/\H' f=some (.lst zs)/\Ie K H' zs pss/\∃(t:ge) (ps:yn),aD=[some (.ref a),some (.int Y),some (.int R),some (.ref f),some (.ref t)]/\PtT K H' (.ref t) ps/\ps.getD 0 0=x/\(ps.length=2\/ps.length=3/\1<R)/\∀q∈ps,Fg q) (λnx aG=>?_) ?_
  ·refine⟨_,Z,_,_,Z,Z,_,Z,?_⟩
   have al:∀H',Mv a H H'->Pen H' a->H' f=some (.lst zs)->Ie K H' zs pss->PtT K H' (.ref t) [x,y]->nx [some (.ref a),some (.int Y),some (.int R),some (.ref f),some (.ref t)] H':=λH' u1 u2 u3 u4 u5=>aG _ _ ⟨u1,u2,u3,u4,t,[x,y],Z,u5,Z,.inl rfl,λc hc=>by
    rcases pV.mp hc with z | z
    ·rw[z];exact aC
    ·rw[sU.mp z];exact aF⟩
   by_cases aa:(1:Int)<R
   ·refine IT (by rw[decide_eq_true aa]<;>rfl) ⟨_,Z,a,4,Z,p5,Yd,Yd,λe H6 e0 e1 o6 p6=>⟨Z,_,Z,?_⟩⟩
    have O:=PtT.mv an p5 o6.mv;have J:=o6.mv _ _ fa au;have ag:=Ie.mv ar p5 o6.mv;by_cases he:V.int e=V.int 0
    ·refine IT (by rw[decide_eq_true he]<;>rfl) ⟨_,Z,_,Z,a,Z,p6,λz rz H7 m7 p7 ez aJ=>⟨P1,λt1 aP=>?_⟩⟩
     have s8:=yA (o:=.tup [.ref rz]) aP;refine Lh (PtT.same (PtT.mv O p6 m7) s8) λt' us rr ae=>?_;refine N0 ae λet hs hn h0 hr=>?_;clear ae;cases et;have W:=hn.length;refine⟨t,t1,us,_,Z,Z,hs,yx Hu,(λz=>by rw[z]at W;cases W),by show us.length+1<=_;rw[W];exact(by decide:3<=io),nofun,λ_ t2 aO=>?_⟩
     have s9:=yA (o:=.tup (us++[.ref rz])) aO;have m9:=(m7.trans s8.mv).trans s9.mv;refine aG _ _ ⟨(aj.trans o6.mv).trans m9,(p7.sm s8).sm s9,m9 _ _ fa J,Ie.mv ag p6 m9,t2,[x,y]++[z],Z,⟨t2,us++[.ref rz],rr,Z,yx Hu,Paired.snoc (yG hn s9) (yF (s9 _ _ (s8 _ _ ez))),by rw[qQ (by rw[W];exact Nat.zero_lt_two)];exact h0,s9 _ _ hr⟩,Z,.inr ⟨Z,aa⟩,λc hc=>?_⟩
     rcases pW.mp hc with u | u
     ·rcases pV.mp u with u | u
      ·rw[u];exact aC
      ·rw[sU.mp u];exact aF
     ·rw[sU.mp u];exact aJ
    ·exact Ii (by rw[decide_eq_false he]<;>rfl) (al _ (aj.trans o6.mv) p6 J ag O)
   ·exact Ii (by rw[decide_eq_false aa]<;>rfl) (al _ aj p5 au ar an)
  rintro aD H6 aH;obtain⟨aS,p6,J,ag,t,ps,rfl,O,aE,ai,aM⟩:=aH
  try clear aH
  refine Lh (id O) λt' us rr ac=>?_;refine N0 ac λet hs hn h0 hr=>?_;clear ac;cases et;have W:=hn.length;refine⟨_,Z,_,Z,t,us,Z,.inr hs,_,_,Z,Z,_,_,Z,Z,?_⟩;refine⟨_,Z,.inl ⟨Z,_,yw J⟩,_,Z,f,zs,.ref t,Z,Z,J,HX Yl,?_⟩
  have hts:(HI (pss++[ps])).length=(HI pss).length+(ps.length-1):=by
   rw[JM,qV]
   congr 1
   rcases ai with z | ⟨z,_⟩
   ·match ps,z with
    | [_,_],_=>rfl
   ·match ps,z with
    | [_,_,_],_=>rfl
  refine⟨_,?_,Mv.put' aS aw,p6.put' fa,zs++[.ref t],pss++[ps],_,_,Z,Hu,Paired.snoc (Ie.put ag J) (PtT.put O J),ME am (by rcases ai with z | ⟨z,_⟩;exact .inl z;exact .inr z),?_,?_,?_,?_,?_,λ_=>by rw[qV];exact Nat.le_add_left 1 _,Z⟩
  ·rw[W];lia
  ·rw[sD,uN];refine⟨az,uY ..,λb hb c hc e=>?_⟩;rw[uZ,sU,aE]at hc;exact hx (by rw[<- hc,<- e];exact hb)
  ·intro p hp q hq
   rcases pW.mp hp with z | z
   ·exact aI p z q hq
   ·rw[sU.mp z]at hq;exact aM q hq
  ·intro p hp
   rcases pW.mp hp with z | z
   ·exact ay p z
   ·rw[sU.mp z,aE];exact aN
  ·rw[hts,W];lia
  ·rw[W];lia
 refine Ii (by rw[decide_eq_false hR0]<;>rfl) ?_
 refine⟨_,Z,f,zs,Z,.inl ⟨yw ef,λr hr=>?_⟩⟩;have s:=yA (o:=.tup zs) hr;have ax:R=0:=by lia
 exact q r zs pss _ (mv.trans s.mv) (ap.sm s) ⟨yx Hu,yK hp s,am,aK ax,az,Yl⟩ ⟨Yl,aI,ay⟩ Yl
theorem Sk:HJ yS ["_law_number"] (HD (top 142)):=fsc
theorem SQ(F:Fun K "_law_text" "_law_text" (top 142) f fd)(J:mg "str" = none)(hT:yL P) :
 HV P w K mg base CX0 33 f fd yS (JF K):=by
 refine okA F Sk λaa A outer s H vs Q E hr h=>?_
 refine⟨_,(HC K (Ig K (HK Jk (HE (ixT K) (pv 0) Hv) Hv) (HA (HH (Ij Jc rfl J Kl (H9 (HE (ixT K) (pv 0) Hv) HB)))) HL)
  (HA (HH (HG Il (HG Il (Ij Jc rfl J Kl (H9 (HE (ixT K) (pv 0) Hv) HB)) Ia) (Ij Jc rfl J Kl (H9 (HE (ixT K) (pv 0) Hv) HB)))))),?_⟩
 obtain⟨x,q,rfl,⟨r,rfl,Y⟩,O,W⟩:=h;have hd:=O.2;have hs:=sK;have l1:=OE O.1;have l2:=OE (i:=(q.den:Int)) Yl;refine⟨_,Z,r,_,_,_,Z,Z,Y,Z,Z,_,Z,?_⟩;by_cases h1:q.den=1
 ·have e:tx q=txI q.num:=if_pos h1;rw[e]at W;exact IT (by rw[decide_eq_true (by rw[h1];rfl:V.int (q.den:Int)=V.int 1)]<;>rfl) ⟨_,Z,r,_,_,_,Z,Z,Y,Z,_,Z,OC O.1,W⟩
 ·have e:tx q=txI q.num++Str.ofString "/" ++ txI q.den:=if_neg h1;rw[e]at W;rw[decide_eq_false (λz=>h1 (by have:=V.int.inj z;lia))]
  have l3:(Str.ofString "/").length=1:=by rw[Ik,Ji];rfl
  have l4:(txI q.num++Str.ofString "/").length=(txI q.num).length+1:=by rw[Ik,IB,qV,<- Ik,<- Ik,l3]
  refine IX ⟨_,Z,r,_,_,_,Z,Z,Y,Z,_,Z,OC O.1,_,_,Z,Z,?_,_,Z,r,_,_,_,Z,Z,Y,Z,_,Z,OC Yl,_,_,Z,Z,?_,W⟩
  ·show(txI q.num).length+(Str.ofString "/").length<=io
   lia
  ·show(txI q.num++Str.ofString "/").length+(txI q.den).length<=io
   lia
theorem KC:HJ yW ["_law_points"] (HD (top 144)):=fsc
theorem MX(F:Fun K "_law_points_text" "_law_points_text" (top 144) f fd)(kB:Fd P w K mg base 33 "_law_text" yS (JF K))(hT:yL P) :
 HV P w K mg base CX0 34 f fd yW (NA K):=by
 refine okA F KC λaf A outer s H vs Q E hr h=>?_;refine⟨_,(HA (HH (J0 K PySem.F.plainAttrs_str PySem.F.slot_str_join PySem.F.type_str_join (M9 K) Ia (H9 (Jj rfl (N:=["_law_point"]) (nt:=1) (js:=[]) (J7 KC) (piS K (pv 0)) (λ_ _ _ _ _=>(HM (i:=0) (nd1 _) rfl (Or.inl rfl))) (HY Yd) (λ_ _ _ _ _=>Iv) (λ_ _ _ _ _=>(J0 K PySem.F.plainAttrs_str PySem.F.slot_str_join PySem.F.type_str_join (M9 K) Ia (H9 (Jj rfl (N:= yS) (nt:=1) (js:=[]) (KA.lookN (NX:=["_law_point"]) (sc:=HD (top 144)) rfl Yk) (piT K (pv 0)) (λ_ _ _ _ _=>(HM (i:=0) (nd1 _) rfl (Or.inl rfl))) (HY Yd) (λ_ _ _ _ _=>Iv) (λ_ _ _ _ _=>(Ic kB hr (pv 0)))) HB)))) HB)))),?_⟩;obtain⟨b,r,xs,pss,rfl,hS,hn,J,hf,aa,q⟩:=h;have hs:=sK;have hl:=hn.length;refine⟨Z,?_⟩;refine Kz (b:=b) (a:=r) (xs:=xs) rfl (λi zs H'=>Hy H H'/\zs=((pss.take i).map ptx).map V.str) ⟨yy _,Z⟩ (λi zs H' hi p=>⟨yI hS p.1,by rw[p.2,qz,qz,qN];lia⟩) Yl ?_ ?_
 ·rintro i x zs H' hx ⟨sm,rfl⟩;obtain⟨ps,Y,ae⟩:=(yB hn hx);have hm:=qU Y;have h3:ps.length<=3:=by rcases J ps hm with z | z<;>lia
  obtain⟨a,rfl,us,W,O⟩:=(ae.same sm);have ad:=O.length;refine⟨Z,?_⟩;refine Jo ⟨_,Z,a,Z,⟨_,W⟩,QC (xs:=us) (λi zs H2=>H2=H'/\zs=((ps.take i).map tx).map V.str) ⟨Z,Z⟩ (λi zs H2 hi p=>⟨by rw[p.1];exact W,by rw[p.2,qz,qz,qN];lia⟩) Yl ?_ ?_⟩
  ·rintro j y ys H2 hy ⟨rfl,rfl⟩;obtain⟨c,hc,ac⟩:=(yB O hy);refine⟨_,Z,y,c,Z,ac,(hf ps hm c (qU hc)).fh,Z,?_⟩;rw[sC,hc,sD,sD];rfl
  rintro ys H2 ⟨rfl,rfl⟩ p hp;rw[ad,va];refine⟨_,p,ps.map tx,Z,Z,yw Hu,Kk (by show Pd.length<=2;rw[OM];decide) (λt ht=>pQ (S2 (hf ps hm) t ht) Yd) (by rw[qz];lia),sm.trans (yA hp),?_⟩
  rw[sC,Y,sD,sD];rfl
 rintro zs H' ⟨sm,rfl⟩ p hp;rw[hl,va];exact⟨_,p,pss.map ptx,Z,Z,yw Hu,Kk (by show Pc.length<=2;rw[OL];decide) (λt ht=>pQ (TN hf J t ht) Yd) (by rw[qz];exact aa),q _ (sm.trans (yA hp))⟩
theorem QX:HJ yP ["_law_a","_law_b"] (HD (top 137)):=fsc
theorem Ra(F:Fun K "_law_times" "_law_times" (top 137) f fd)(kG:Fd P w K mg base 33 "_law_lowest" yZ (Ll))(hT:yL P) :
 HV P w K mg base CX0 34 f fd yP (Mo K):=by
 refine F.ok QX (λvs H Q E h=>?_) (λaa A outer s H vs Q E Y h=>?_)
 ·rcases h with ⟨_,_,_,_,_,_,rfl,_⟩ | ⟨_,_,_,_,_,_,rfl,_⟩<;>rfl
 refine⟨_,(HA (HH (HS kG Y (HG Iq (HE (ixT K) (pv 0) Hv) (HE (ixT K) (pv 1) Hv)) (HG Iq (HE (ixT K) (pv 0) Hv) (HE (ixT K) (pv 1) Hv))))),?_⟩
 rcases h with ⟨x,y,p,q,m,n,rfl,⟨r,rfl,Y⟩,⟨u,rfl,O⟩,W,hq,J,k⟩ | ⟨x,y,p,q,m,n,rfl,⟨r,rfl,Y⟩,⟨u,a,d,rfl,O,d0,ba,bd,ep⟩,W,J,k⟩
 ·refine⟨_,Z,r,_,_,_,Z,Z,Y,Z,_,Z,u,_,_,_,Z,Z,O,Z,_,_,Z,Z,yH W.1 hq.1,?_⟩;refine⟨_,Z,r,_,_,_,Z,Z,Y,Z,_,Z,u,_,_,_,Z,Z,O,Z,_,_,Z,Z,yH W.2 hq.2,?_⟩;refine⟨_,_,Z,rZ (Nm.den_ne p) (Nm.den_ne q),λz hz=>?_⟩;have e:=k z hz
  try dsimp only at e
  rw[<- Nm.times_eq]at e;exact e
 ·refine⟨_,Z,r,_,_,_,Z,Z,Y,Z,_,Z,u,_,_,_,Z,Z,O,Z,_,_,Z,Z,yH W.1 ba,?_⟩;refine⟨_,Z,r,_,_,_,Z,Z,Y,Z,_,Z,u,_,_,_,Z,Z,O,Z,_,_,Z,Z,yH W.2 bd,?_⟩;refine⟨_,_,Z,rZ (Nm.den_ne p) d0,λz hz=>?_⟩;have e:=k z hz;rw[<- ep,gj]at e;exact e
theorem K2:HJ ["_law_one","_law_other","_law_found","_law_j","_law_k"] ["_law_one","_law_other"] (HD (top 152)):=fsc
theorem Pl(F:Fun K "_law_product" "_law_product" (top 152) f fd)(kI:Fd P w K mg base 34 "_law_plus" yP (Mi K (· + ·)))(kJ:Fd P w K mg base 34 "_law_times" yP (Mo K))(ku:mg "range" = none)(kq:mg "len" = none)(hT:yL P) :
 HV P w K mg base CX0 35 f fd ["_law_one","_law_other"] (Sa K):=by
 refine okA F K2 λa0 A outer s H vs Q E hr h=>?_
 refine⟨_,(HC K (HF (i:=2) K2 (HG Ot (IJ (H9 (Ib (H9 Hv (H9 Hv HB))) HB)) (HG Jf (HG Iu (HU K kq (pv 0)) (HU K kq (pv 1))) Hv)))
  (HC K (IP (K:=K) PassesOwn.never rfl (J2 rfl ku (H9 (HU K kq (pv 0)) HB)) (HM (i:=3) K2.nd rfl (Or.inl rfl)) (HA (IP (K:=K) PassesOwn.never rfl (J2 rfl ku (H9 (HU K kq (pv 1)) HB)) (HM (i:=4) K2.nd rfl (Or.inl rfl)) (HA (Nh (HS kI hr (HE (ixL K) (pv 2) (HG Iu (pv 3) (pv 4))) (HS kJ hr (HE (ixL K) (pv 0) (pv 3)) (HE (ixL K) (pv 1) (pv 4)))) (Oq (pv 2) (HG Iu (pv 3) (pv 4)) LH))) Yr)) Yr)
  (HA (HH (pv 2))))),?_⟩
 obtain⟨r,u,xs,ys,qs,ps,m,n,rfl,hS,hn,as,hm,hB,hC,aZ,a4,aK,aX,aY,q⟩:=h;have P0:0<=io:=by decide
 have P1:1<=io:=by decide
 have P2:2<=io:=by decide
 have hl:=hn.length;have az:=hm.length;refine⟨P2,λt ht=>⟨P1,λo ho=>?_⟩⟩;have s0:Hy H (upd (upd H t (.tup [.int 0,.int 1])) o (.lst [.ref t])):=(yA ht).trans (yA ho);have aT:HP K (upd (upd H t (.tup [.int 0,.int 1])) o (.lst [.ref t])) (.ref t) 0:=yF ((yA ho) _ _ (Hu (o:=nT 0)));have eN:((xs.length:Int)+(ys.length:Int)-1).toNat=(qs.length+ps.length-1):=RJ hl az aK;refine⟨_,Z,r,xs,Z,.inl (yz s0 hS),_,Z,u,ys,Z,.inl (yz s0 as),_,_,Z,Z,_,_,Z,Z,o,_,_,Z,Z,Hu,Yl,Yl,?_,λfd ai=>?_⟩
 ·show 1*((xs.length:Int)+(ys.length:Int)-1).toNat<=io;rw[eN];exact pR (HX Yl)
 rw[eN];have s1:=s0.trans (yA (o:=.lst (qK ((qs.length+ps.length-1)) [V.ref t]).flatten) ai);have nz:=yG (LJ aT ((qs.length+ps.length-1))) (yA (o:=.lst (qK ((qs.length+ps.length-1)) [V.ref t]).flatten) ai)
 have av:H fd=none:=by
  cases z:H fd with
  | none=>rfl
  | some u=>rw[s0 fd u z]at ai;cases ai
 have e1:(upd (upd (upd H t (.tup [.int 0,.int 1])) o (.lst [.ref t])) fd (.lst (qK ((qs.length+ps.length-1)) [V.ref t]).flatten)) fd=some (.lst (qK ((qs.length+ps.length-1)) [V.ref t]).flatten):=Hu;generalize upd (upd (upd H t (.tup [.int 0,.int 1])) o (.lst [.ref t])) fd (.lst (qK ((qs.length+ps.length-1)) [V.ref t]).flatten)=H1 at s1 nz e1 ⊢;refine⟨_,Z,r,xs,Z,.inl (yz s1 hS),_,Z,Yl,Yl,?_⟩;rw[rg,hl]
 refine Jv (n:=qs.length) (L9 H r u fd K qs ps m n λH r u fd K qs ps m n i σ H'=>Hy H H'/\∃(zs:yt) (ms:yn) (z3 z4:Option V),σ=[some (.ref r),some (.ref u),some (.ref fd),z3,z4]/\H' fd=some (.lst zs)/\HR K H' zs ms/\ms.length=(qs.length+ps.length-1)/\(∀x,Cv.ev ms x=Cv.ev (qs.take i) x*Cv.ev ps x)/\∀c∈ms,RB (i*(m+n+1)+1) c)
  ⟨s1,_,_,none,none,Z,e1,nz,qW,λx=>?_,λc hc=>?_⟩ ?_ ?_
 ·rw[Cv.ev_zeros,tZ];show(0:Rat)=0*_
  grind
 ·rw[(tm.mp hc).2];exact RB.zero Yl
 ·rintro i σ H' hi aw;refine Jh aw λsm ak=>?_;refine Uq ak λzs ms z3 z4 ae=>?_;clear ak;refine Th ae λaD ef aM ap aj ar=>?_;clear ae;obtain rfl:=aD
  try clear aw
  have ax:qs[i]? = some qs[i]:=sV hi;have a2:(i+1)*(m+n+1)=i*(m+n+1)+m+n+1:=by rw[tq];lia
  have a1:i*(m+n+1)<=20*400001:=uP Yl Yl;obtain⟨xi,aJ,aO⟩:=(yC hn ax);refine⟨_,Z,u,ys,Z,.inl (yz sm as),_,Z,Yl,Yl,?_⟩;rw[rg,az]
  refine Jv (n:=ps.length) (λj σ H'=>Hy H H'/\∃(zs:yt) (ms:yn) (z4:Option V),σ=[some (.ref r),some (.ref u),some (.ref fd),some (.int (0+(i:Int))),z4]/\H' fd=some (.lst zs)/\HR K H' zs ms/\ms.length=(qs.length+ps.length-1)/\(∀x,Cv.ev ms x=Cv.ev (qs.take i) x*Cv.ev ps x+qs[i]*x ^ i*Cv.ev (ps.take j) x)/\∀k c,ms[k]? = some c->RB (if k<i+j then (i+1)*(m+n+1)+1 else i*(m+n+1)+1) c)
   ⟨sm,zs,ms,z4,Z,ef,aM,ap,λx=>?_,λk c hc=>?_⟩ ?_ ?_
  ·rw[aj x,tZ];show _=_+_*(0:Rat)
   grind
  ·have:=ar c (qU hc)
   split
   ·exact this.mono Yl
   ·exact this
  ·rintro j σ H2 hj aE;refine Jh aE λO am=>?_;refine Lh am λaG Y aI af=>?_;clear am;refine Th af λaF ah W aa ad J=>?_;clear af;obtain rfl:=aF
   try clear aE
   have aC:ps[j]? = some ps[j]:=sV hj;obtain⟨yj,aH,aL⟩:=(yC hm aC);have hk:i+j<Y.length:=Yq hi hj aa;have aq:Y[i+j]? = some Y[i+j]:=sV hk;obtain⟨vk,aP,aV⟩:=(yC W aq);have a3:=W.length;have bk:=J _ _ aq;rw[if_neg Yl]at bk;refine⟨_,Z,_,Z,_,Z,_,_,Z,Z,fd,_,_,vk,Z,Z,yw ah,atV aP Yl,_,Z,_,Z,r,xs,_,xi,Z,Z,(yz O hS),atV aJ Yl,_,Z,_,Z,u,ys,_,yj,Z,Z,(yz O as),atV aH Yl,?_⟩;refine .inl ⟨_,_,qs[i],ps[j],m,n,Z,aO.same O,aL.same O,hB _ (sW hi),hC _ (sW hj),Yl,λr1 aS=>?_⟩;have s3:Hy H2 (upd H2 r1 (nT (qs[i]*ps[j]))):=yA aS;refine⟨_,_,Y[i+j],qs[i]*ps[j],_,m+n,Z,aV.same s3,yF Hu,bk,(hB _ (sW hi)).times (hC _ (sW hj)),Yl,λr2 aU=>?_⟩;have s4:=s3.trans (yA (o:=nT (Y[i+j]+qs[i]*ps[j])) aU);have ao:=s4 _ _ ah;refine⟨_,Z,_,Z,_,Z,_,_,Z,Z,fd,_,_,i+j,Z,Z,ao,NW Yl Yl,?_⟩;refine⟨(O.trans s4).put av,_,Y.set (i+j) (Y[i+j]+qs[i]*ps[j]),_,Z,Hu,Paired.set (HP.put (yF Hu) ao) (i+j) (HR.put (yG W s4) ao),by rw[rB];exact aa,λx=>?_,λk c hc=>?_⟩
   ·rw[Cv.ev_set x _ Y (i+j) _ aq,ad x,O1 x ps j _ aC,Nm.pow_add]
    grind
   ·by_cases hk2:k=i+j
    ·subst hk2;rw[pZ hk]at hc;cases hc;rw[if_pos Yl];exact(bk.plus ((hB _ (sW hi)).times (hC _ (sW hj)))).mono Yl
    ·rw[qa (λz=>hk2 z.symm)]at hc;have b1:=J k c hc
     split
     ·split at b1
      ·exact b1
      ·exact b1.mono Yl
     ·rw[if_neg Yl]at b1;exact b1
  ·rintro σ H2 aA;refine Jh aA λO al=>?_;refine Lh al λaG Y aI ac=>?_;clear al;refine Th ac λau ah W aa ad J=>?_;clear ac;obtain rfl:=au
   try clear aA
   refine⟨O,aG,Y,_,_,Z,ah,W,aa,λx=>?_,λc hc=>?_⟩
   ·rw[ad x,va,O1 x qs i _ ax]
    grind
   ·obtain⟨k,hk⟩:=(uh hc);have:=J k c hk
    split at this<;>exact this.mono Yl
 rintro σ Hz ay;refine Jh ay λaR an=>?_;refine Uq an λzs ms z3 z4 ag=>?_;clear an;refine Th ag λaB aN aW ap aj ar=>?_;clear ag;obtain rfl:=aB
 try clear ay
 rw[va]at aj;exact⟨_,Z,q fd Hz zs ms aR av aN aW ap aj ar⟩
theorem Kj:HJ ["_law_curve","_law_x","_law_found","_law_power","_law_number"] ["_law_curve","_law_x"] (HD (top 138)):=fsc
theorem V7(F:Fun K "_law_at" "_law_at" (top 138) f fd)(kI:Fd P w K mg base 34 "_law_plus" yP (Mi K (· + ·)))(kJ:Fd P w K mg base 34 "_law_times" yP (Mo K))(hT:yL P) :
 HV P w K mg base CX0 35 f fd yT (Rw K):=by
 refine okA F Kj λan A outer s H vs Q E hr h=>?_
 refine⟨_,(HC K (HF (i:=2) Kj (Ib (H9 Hv (H9 Hv HB))))
  (HC K (HF (i:=3) Kj (Ib (H9 Hv (H9 Hv HB))))
  (HC K (IP (K:=K) PassesOwn.never rfl (piS K (pv 0)) (HM (i:=4) Kj.nd rfl (Or.inl rfl)) (HC K (HF (i:=2) Kj (HS kI hr (pv 2) (HS kJ hr (pv 4) (pv 3))))
  (HA (HF (i:=3) Kj (HS kJ hr (pv 3) (pv 1))))) Yr)
  (HA (HH (pv 2)))))),?_⟩
 obtain⟨b,r,rx,xs,qs,x,c0,n,rfl,hS,hn,hx,hB,ak,hz,q⟩:=h;have hl:=hn.length;generalize hM:c0+n*qs.length+4=M at hz q;have am:M*2<=90000000:=pQ (uH _ Yl) hz;have ap:(qs.length+2)*M<=90000000:=by rw[rJ];exact hz
 refine⟨(by decide:2<=io),λf hf=>?_⟩
 refine⟨(by decide:2<=io),λg hg=>?_⟩
 have s0:Hy H (upd (upd H f (.tup [.int 0,.int 1])) g (.tup [.int 1,.int 1])):=(yA hf).trans (yA hg)
 refine T8 (b:=b) (a:=r) (xs:=xs) rfl (L7 H r rx qs x M n λH r rx qs x M n i σ H'=>Hy H H'/\∃(f g:ge) (z:Option V),σ=[some (.ref r),some (.ref rx),some (.ref f),some (.ref g),z]/\H' f=some (nT (Cv.ev (qs.take i) x))/\H' g=some (nT (x ^ i))/\RB ((i+1)*M) (Cv.ev (qs.take i) x)/\RB (n*i+1) (x ^ i))
  ⟨s0,f,g,none,Z,(yA hg) _ _ Hu,?_,RB.zero Yl,?_⟩ (λi σ H' _ p=>yI hS p.1) ?_ ?_
 ·rw[so];exact Hu
 ·rw[so];exact RB.one Yl
 ·rintro i v σ H' hv ah;refine Jh ah λsm J=>?_;refine Lh J λf' g' z Y=>?_;clear J;refine N0 Y λae ef eg bf bg=>?_;clear Y;obtain rfl:=ae
  try clear ah
  obtain⟨c,hc,aj⟩:=(yB hn hv);have hi:i<qs.length:=(pY.mp hc).1;have aa:c∈qs:=qU hc;have ao:n*i<=n*qs.length:=uH n Yl;have ac:n*(i+1)=n*i+n:=by rw[tH,uw]
  have al:n*(i+1)<=n*qs.length:=uH n Yl;have aq:(i+1+1)*M<=(qs.length+2)*M:=tw _ Yl;have af:(i+1+1)*M=(i+1)*M+M:=by rw[tq,tu]
  have bt:RB (c0+(n*i+1)) (c*x ^ i):=(hB c aa).times bg;refine⟨_,Z,_,Z,_,Z,.inl ⟨_,_,_,_,c0,n*i+1,Z,aj.same sm,yF eg,hB c aa,bg,Yl,λt ht=>?_⟩⟩;have s1:Hy H' (upd H' t (nT (c*x ^ i))):=yA ht;refine⟨_,_,_,_,(i+1)*M,c0+(n*i+1),Z,yF (s1 _ _ ef),yF Hu,bf,bt,Yl,λu hu=>?_⟩;have s2:=s1.trans (yA (o:=nT (Cv.ev (qs.take i) x+c*x ^ i)) hu);refine⟨_,Z,_,Z,.inr ⟨_,_,_,_,n*i+1,n,Z,yF (s2 _ _ eg),(hx.same sm).same s2,bg,Yl,λv' ad=>?_⟩⟩;have s3:=s2.trans (yA (o:=nT (x ^ i*x)) ad)
  have e1:Cv.ev (qs.take (i+1)) x=Cv.ev (qs.take i) x+c*x ^ i:=by
   rw[sC,hc];show Cv.ev (qs.take i++[c]) x=_;rw[Cv.ev_snoc,qN,rm Yl]
  refine⟨sm.trans s3,u,v',_,Z,?_,?_,?_,?_⟩
  ·rw[e1];exact(yA ad) _ _ Hu
  ·rw[sq];exact Hu
  ·rw[e1,af];exact(bf.plus bt).mono Yl
  ·rw[sq,ac];exact(bg.times ak).mono Yl
 ·rintro σ H' ai;refine Jh ai λsm O=>?_;refine Lh O λf' g' z W=>?_;clear O;refine N0 W λag ef eg bf bg=>?_;clear W;obtain rfl:=ag
  try clear ai
  rw[hl,va]at ef bf;exact⟨_,Z,q _ _ sm ef (by rw[rJ];exact bf)⟩
theorem LI:HJ yT ["_law_curve","_law_x"] (HD (top 139)):=fsc
theorem Oy(F:Fun K "_law_slope_at" "_law_slope_at" (top 139) f fd)(kP:Fd P w K mg base 35 "_law_at" yT (Rw K))(kJ:Fd P w K mg base 34 "_law_times" yP (Mo K))(ku:mg "range" = none)(kq:mg "len" = none)(hT:yL P) :
 HV P w K mg base CX0 36 f fd yT (KY K):=by
 refine okA F LI λak A outer s H vs Q E hr h=>?_;refine⟨_,(HA (HH (HS kP hr (Jj rfl (N:=["_law_k","_law_curve"]) (nt:=1) (js:=[0]) (J7 LI) (RF rfl ku (H9 Hv (H9 (HU K kq (pv 0)) HB))) (λ_ _ _ _ _=>(HM (i:=0) (show List.Nodup (["_law_k","_law_curve"]:yr) from by decide +kernel) rfl (Or.inl rfl))) (HY Yd) (λ_ _ _ _ _=>Iv) (λ_ _ _ _ _=>(HS kJ hr (Ib (H9 (pv 0) (H9 Hv HB))) (HE (ixL K) (pv 1) (pv 0))))) (pv 1)))),?_⟩
 obtain⟨c,rx,xs,cs,x,m,n,rfl,hS,hn,hx,hB,J,ai,af,hz,q⟩:=h;have aj:(m+11)*2<=90000000:=pQ (uP Yl Yl) hz;have hl:=hn.length;refine Jo ⟨_,Z,c,xs,Z,.inl hS,1,(xs.length:Int),Z,⟨Yd,Yd,Yl,Yl⟩,?_⟩;have en:((xs.length:Int)-1).toNat=cs.length-1:=by lia
 rw[en];refine QD (L3 H K cs λH K cs i zs H'=>Hy H H'/\zs.length=i/\HR K H' zs ((pK i).map λj=>cs.getD (j+1) 0*((j+1:Nat):Rat))) ⟨yy _,Z,.nil⟩ (λi zs H' _ p=>p.2.1) (pR (HX Yl)) ?_ ?_
 ·rintro i zs H' hi ⟨W,aa,Y⟩;have ah:i+1<cs.length:=by lia
  have hq:cs[i+1]? = some (cs.getD (i+1) 0):=getD_some ah;obtain⟨y,hy,ae⟩:=(yC hn hq)
  have ag:atI xs (1+(i:Int))=some y:=by
   rw[show 1+(i:Int)=((i+1:Nat):Int) by lia]
   exact HQ hy
  refine⟨_,Z,(by decide:2<=io),λt ht=>?_⟩
  have ad:HP K (upd H' t (.tup [.int (1+(i:Int)),.int 1])) (.ref t) (((i+1:Nat)):Rat):=yF (by
   rw[Hu];unfold nT;rw[uS,uT,show 1+(i:Int)=((i+1:Nat):Int) by lia]
   rfl)
  refine⟨_,Z,_,Z,c,xs,_,y,Z,Z,yz (W.trans (yA ht)) hS,ag,.inl ⟨_,_,_,_,11,m,Z,ad,(ae.same W).same (yA ht),TL Yl,hB _ (qU hq),Yl,λp hp=>⟨(W.trans (yA ht)).trans (yA hp),by simp[aa],?_⟩⟩⟩
  rw[tQ,sD];refine Paired.snoc (yG (yG Y (yA ht)) (yA hp)) ?_;show HP K _ _ (cs.getD (i+1) 0*((i+1:Nat):Rat));rw[Rat.mul_comm];exact yF Hu
 rintro zs H' ⟨W,aa,Y⟩ l z;have s2:Hy H (upd H' l (.lst zs)):=W.trans (yA z);obtain⟨am,e,_⟩:=(id hx);cases e;have al:=KG cs;have ac:(m+11+n*(IE cs).length+4)*((IE cs).length+2)<=(m+11+n*cs.length+4)*(cs.length+2):=uP (by have:=uH n (show(IE cs).length<=cs.length by lia);lia) Yl
 have O:(m+11+n*(IE cs).length+4)*((IE cs).length+1)<=(m+11+n*cs.length+4)*(cs.length+1):=uP (by have:=uH n (show(IE cs).length<=cs.length by lia);lia) Yl
 refine⟨_,Z,true,l,rx,zs,IE cs,x,m+11,n,Z,yw Hu,yG Y (yA z),HP.u (hx.same s2) J,Q8 Yl af hB,J,pQ ac hz,λp Hp sp ep bp=>?_⟩;exact q p Hp (s2.trans sp) ep (bp.mono O)
theorem M0:HJ ["_law_points","_law_found","_law_point"] ["_law_points"] (HD (top 140)):=fsc
theorem SO(F:Fun K "_law_told" "_law_told" (top 140) f fd)(kq:mg "len" = none)(hT:yL P) :
 HV P w K mg base CX0 33 f fd yW (Ny K):=by
 refine okA F M0 λaC A outer s H vs Q E hr h=>?_
 refine⟨_,(HC K (HF (i:=1) M0 (IJ HB))
  (HC K (IP (K:=K) PassesOwn.never rfl (piS K (pv 0)) (HM (i:=2) M0.nd rfl (Or.inl rfl)) (HC K (JS (J0 K PySem.F.plainAttrs_list PySem.F.slot_list_append PySem.F.type_list_append JT (pv 1) (H9 (Ib (H9 (HE (ixT K) (pv 2) Hv) (H9 Hv (H9 (HE (ixT K) (pv 2) Hv) HB)))) HB)))
  (HA (Ig K (HK Jk (HU K kq (pv 2)) Hv) (HA (JS (J0 K PySem.F.plainAttrs_list PySem.F.slot_list_append PySem.F.type_list_append JT (pv 1) (H9 (Ib (H9 (HE (ixT K) (pv 2) Hv) (H9 Hv (H9 (HE (ixT K) (pv 2) Hv) HB)))) HB)))) HL))) Yr)
  (HA (HH (pv 1))))),?_⟩
 obtain⟨b,r,xs,pss,rfl,hS,hp,ap,aA,q⟩:=h;have P0:0<=io:=by decide
 have P3:3<=io:=by decide
 have au:=hp.length;refine⟨P0,λp af=>?_⟩;refine T8 (b:=b) (a:=r) (xs:=xs) rfl (L5 H r p K pss λH r p K pss i σ H'=>Hy H H'/\∃ys z2,σ=[some (.ref r),some (.ref p),z2]/\H' p=some (.lst ys)/\Tls K H' ys (HI (pss.take i))) ⟨yA af,[],none,Z,Hu,.nil⟩ (λi σ H' _ h=>yI hS h.1) ?_ ?_
 ·rintro i v σ H' hv aq;refine Jh aq λsm ai=>?_;refine Kg ai λys z2 ad=>?_;clear ai;refine Mg ad λam ep ac=>?_;clear ad;obtain rfl:=am
  try clear aq
  obtain⟨ps,al,a,rfl,zs,aa,ag⟩:=(yB hp hv);have aB:=ap ps (qU al);have az:=ag.length
  have aD:ys.length<=200:=by
   have h1:=Jd (pss.take i) (ap.take i);rw[qN]at h1;rw[ac.length];lia
  have g0:=getD_some (l:=ps) (i:=0) Yl;have g1:=getD_some (l:=ps) (i:=1) Yl;obtain⟨x0,as,an⟩:=(yC ag g0);obtain⟨x1,ax,ay⟩:=(yC ag g1);have a0:atI zs 0=some x0:=HQ (j:=0) as;have a1:atI zs 1=some x1:=HQ (j:=1) ax;have e:pss.take (i+1)=pss.take i++[ps]:=by rw[sC,al];rfl
  refine⟨_,Z,.inl ⟨Z,_,yw ep⟩,_,Z,a,zs,_,x0,Z,Z,aa.same sm,a0,_,Z,a,zs,_,x1,Z,Z,aa.same sm,a1,P3,λt ht=>?_⟩;have s3:Hy H' (upd H' t (.tup [x0,.int 0,x1])):=yA ht;have et:(upd H' t (.tup [x0,.int 0,x1])) t=some (.tup [x0,.int 0,x1]):=Hu;have tp:t≠p:=(HW ep ht).symm;have W:=s3 _ _ ep;generalize upd H' t (.tup [x0,.int 0,x1])=H3 at s3 et W ⊢;refine⟨p,ys,.ref t,Z,Z,W,pF (by lia:ys.length<300) Yd,?_⟩
  have Y:Hy H (upd H3 p (.lst (ys++[.ref t]))):=(sm.trans s3).put af;have ah:(upd H3 p (.lst (ys++[.ref t]))) p=some (.lst (ys++[.ref t])):=Hu
  have O:Tls K (upd H3 p (.lst (ys++[.ref t]))) (ys++[.ref t]) (HI (pss.take i)++[⟨ps.getD 0 0,0,ps.getD 1 0⟩]) :=
   Paired.snoc (Tls.put (Tls.same ac s3) W) ⟨t,x0,x1,Z,(yx et).put W,((an.same sm).same s3).put W,((ay.same sm).same s3).put W⟩
  generalize upd H3 p (.lst (ys++[.ref t]))=H4 at Y ah O ⊢;refine⟨_,Z,a,zs,Z,.inr (aa.same Y),Z,_,Z,?_⟩;by_cases h3:ps.length=3
  ·refine IT (by rw[decide_eq_true (by rw[az,h3];rfl:V.int (zs.length:Int)=V.int 3)]<;>rfl) ?_
   have g2:=getD_some (l:=ps) (i:=2) Yl;obtain⟨x2,aw,av⟩:=(yC ag g2);have a2:atI zs 2=some x2:=HQ (j:=2) aw;refine⟨_,Z,.inl ⟨Z,_,yw ah⟩,_,Z,a,zs,_,x0,Z,Z,aa.same Y,a0,_,Z,a,zs,_,x2,Z,Z,aa.same Y,a2,P3,λu hu=>?_⟩;have s5:Hy H4 (upd H4 u (.tup [x0,.int 1,x2])):=yA hu;have ae:=s5 _ _ ah;refine⟨p,_,.ref u,Z,Z,ae,pF (show(ys++[V.ref t]).length<300 by rw[qV,rH];lia) Yd,(Y.trans s5).put af,_,_,Z,Hu,?_⟩
   rw[e,Ob];have ak:IA ps=[⟨ps.getD 0 0,0,ps.getD 1 0⟩]++[⟨ps.getD 0 0,1,ps.getD 2 0⟩]:=by unfold IA;rw[h3];rfl
   rw[ak,<- rG];exact Paired.snoc (Tls.put (Tls.same O s5) ae) ⟨u,x0,x2,Z,(yx Hu).put ae,((an.same Y).same s5).put ae,((av.same Y).same s5).put ae⟩
  ·refine Ii (by rw[decide_eq_false (show ¬V.int (zs.length:Int)=V.int 3 from λz=>h3 (by have:=V.int.inj z;lia))]<;>rfl) ⟨Y,_,_,Z,ah,?_⟩
   rw[e,Ob];have ak:IA ps=[⟨ps.getD 0 0,0,ps.getD 1 0⟩]:=by unfold IA;rw[show ps.length=2 by lia];rfl
   rw[ak];exact O
 ·rintro σ H' ar;refine Jh ar λsm aj=>?_;refine Kg aj λys z2 J=>?_;clear aj;refine Mg J λao ep ac=>?_;clear J;obtain rfl:=ao
  try clear ar
  rw[au,va]at ac;exact⟨_,Z,q p H' ys sm af ep ac⟩
theorem Je:HJ ["_law_points","_law_curve","_law_found","_law_x","_law_k","_law_number","_law_there"] ["_law_points","_law_curve"] (HD (top 141)):=fsc
theorem Qs(F:Fun K "_law_missed" "_law_missed" (top 141) f fd)(kZ:Fd P w K mg base 33 "_law_told" yW (Ny K))(kP:Fd P w K mg base 35 "_law_at" yT (Rw K))(l6:Fd P w K mg base 36 "_law_slope_at" yT (KY K))(hT:yL P) :
 HV P w K mg base CX0 37 f fd zb (LG K):=by
 refine okA F Je λaI A outer s H vs Q E hr h=>?_
 refine⟨_,(HC K (HF (i:=2) Je (IJ HB))
  (HC K (IP (K:=K) PassesOwn.never rfl (piL K (Ic kZ hr (pv 0))) (pgT K (n:=3) rfl (IL (HM (i:=3) Je.nd rfl (Or.inl rfl)) (IL (HM (i:=4) Je.nd rfl (Or.inl rfl)) (IL (HM (i:=5) Je.nd rfl (Or.inl rfl)) KL)))) (HC K (HF (i:=6) Je (HS kP hr (pv 1) (pv 3)))
  (HC K (Ig K (HK Jk (pv 4) Hv) (HA (HF (i:=6) Je (HS l6 hr (pv 1) (pv 3)))) HL)
  (HA (Ig K (HK (neD K hr.units) (pv 6) (pv 5)) (HA (JS (J0 K PySem.F.plainAttrs_list PySem.F.slot_list_append PySem.F.type_list_append JT (pv 2) (H9 (Ib (H9 (pv 3) (H9 (pv 4) HB))) HB)))) HL)))) Yr)
  (HA (HH (pv 2))))),?_⟩
 obtain⟨b,r,c,xs,xc,pss,cs,m,n,rfl,hS,hp,af,aL,aC,aD,aK,ax,ak,ay,az,an,q⟩:=h;have P0:0<=io:=by decide
 have P2:2<=io:=by decide
 refine⟨P0,λf hf=>?_⟩;have s1:Hy H (upd H f (.lst [])):=yA hf;have ah:(upd H f (.lst [])) f=some (.lst []):=Hu;generalize upd H f (.lst [])=H1 at s1 ah ⊢;refine⟨_,Z,b,r,xs,pss,Z,yI hS s1,Pts.same hp s1,af,Yl,λw Hw ws sw hw ew ap=>⟨w,Z,⟨_,yw ew⟩,?_⟩⟩;have aF:=ap.length;have aH:=Jd pss λps hp=>by have:=af ps hp;lia
 have wf:w≠f:=(HW ah hw).symm;have aG:(m+n*cs.length+4)*(cs.length+2)<=90000000:=pQ (tw _ Yl) an
 refine QK (xs:=ws) (L9 H w ws K pss r c f cs λH w ws K pss r c f cs i σ H'=>Hy H H'/\H' w=some (.lst ws)/\Tls K H' ws (HI pss)/\∃zs z3 z4 z5 z6,σ=[some (.ref r),some (.ref c),some (.ref f),z3,z4,z5,z6]/\H' f=some (.lst zs)/\zs.length<=i/\Mss K H' zs (msd cs ((HI pss).take i)))
  ⟨s1.trans sw,ew,ap,[],none,none,none,none,Z,sw _ _ ah,qd _,.nil⟩ (λi σ H' _ h=>yw h.2.1) ?_ ?_
 ·rintro i v σ H' hv al;obtain⟨sm,ag,W,zs,z3,z4,z5,z6,rfl,ef,aA,hz⟩:=al
  try clear al
  obtain⟨t,ht,a,rx,rn,rfl,ha,ac,aE⟩:=(yB W hv);obtain⟨Y,rfl,_⟩:=(id ac);have am:=qU ht;have aj:=UG af t am;obtain⟨ai,aJ⟩:=(Vw az ax t am);have hi:i<ws.length:=(pY.mp hv).1;have e1:(HI pss).take (i+1)=(HI pss).take i++[t]:=by rw[sC,ht];rfl
  have aw:=yz sm aC;have ae:=yG aD sm;refine⟨a,_,Z,ha,Z,_,_,Z,_,_,Z,_,_,Z,Z,?_⟩;refine⟨_,Z,_,Z,true,c,Y,xc,cs,t.x,m,n,Z,aw,ae,HP.u ac ai,ak,ai,aG,λp1 H2 s2 e2 b2=>?_⟩
  try dsimp only
  refine K9 (L9 H' r c f Y t rn K cs λH' r c f Y t rn K cs ao H3=>Hy H' H3/\∃p2,ao=[some (.ref r),some (.ref c),some (.ref f),some (.ref Y),some (.int t.k),some rn,some (.ref p2)]/\HP K H3 (.ref p2) (hk cs t)) (λnx as=>?_) ?_
  ·refine⟨_,Z,Z,_,Z,?_⟩
   rcases aj with z | z
   ·refine Ii (by rw[decide_eq_false (show ¬V.int t.k=V.int 1 from λzz=>by have:=V.int.inj zz;lia)]<;>rfl) (as _ _ ⟨s2,p1,Z,yF ?_⟩)
    have:hk cs t=Cv.ev cs t.x:=by unfold hk;rw[if_neg Yl]
    rw[this];exact e2
   ·refine IT (by rw[decide_eq_true (by rw[z]:V.int t.k=V.int 1)]<;>rfl) ⟨_,Z,_,Z,c,Y,xc,cs,t.x,m,n,Z,yz s2 aw,yG ae s2,ac.same s2,ak,ai,Yl,ay,an,λp2 H3 s3 e3 b3=>?_⟩
    refine as _ _ ⟨s2.trans s3,p2,Z,yF ?_⟩;have:hk cs t=Cv.ev (IE cs) t.x:=by unfold hk;rw[if_pos z]
    rw[this];exact e3
  rintro ao H3 av;refine Jh av λs3 ad=>?_;refine Vp ad λp2 J=>?_;clear ad;refine Jh J λaq aB=>?_;clear J;obtain rfl:=aq
  try clear av
  refine⟨_,Z,_,Z,?_⟩;refine eqN aB (aE.same s3) ?_;refine⟨_,Z,?_⟩;by_cases he:hk cs t=t.n
  ·refine Ii (by rw[decide_eq_true he]<;>rfl) ⟨sm.trans s3,s3 _ _ ag,Tls.same W s3,zs,_,_,_,_,Z,s3 _ _ ef,Yl,?_⟩
   rw[e1,NT,if_pos he,qG];exact Lb hz s3
  ·rw[decide_eq_false he];have au:=s3 _ _ ef;refine Kv ⟨_,Z,.inl ⟨Z,_,yw au⟩,_,Z,_,Z,P2,λu hu=>?_⟩;have s4:Hy H3 (upd H3 u (.tup [.ref Y,.int t.k])):=yA hu;have eu:(upd H3 u (.tup [.ref Y,.int t.k])) u=some (.tup [.ref Y,.int t.k]):=Hu;generalize upd H3 u (.tup [.ref Y,.int t.k])=H4 at s4 eu ⊢;have O:=s3.trans s4;have aa:=s4 _ _ au;refine⟨f,zs,.ref u,Z,Z,aa,pF (by lia:zs.length<300) Yd,?_⟩
   refine⟨(sm.trans O).put hf,by rw[HZ wf];exact O _ _ ag,Tls.put (Tls.same W O) aa,zs++[.ref u],_,_,_,_,Z,Hu,by rw[qV,rH];lia,?_⟩
   rw[e1,NT,if_neg he];exact Paired.snoc (ZT (Lb hz O) aa) (W0 ⟨u,_,Z,yx eu,ac.same O⟩ aa)
 ·rintro σ H' ar;obtain⟨sm,ag,W,zs,z3,z4,z5,z6,rfl,ef,aA,hz⟩:=ar
  try clear ar
  rw[aF,va]at hz;exact⟨_,Z,q f H' zs sm hf ef hz⟩
theorem N7:HJ y6 ["_law_numbers"] (HD (top 143)):=fsc
theorem Rb(F:Fun K "_law_texts" "_law_texts" (top 143) f fd)(kB:Fd P w K mg base 33 "_law_text" yS (JF K))(hT:yL P) :
 HV P w K mg base CX0 34 f fd y6 (Ko K Iz):=by
 refine okA F N7 λaa A outer s H vs Q E hr h=>?_;refine⟨_,(HA (HH (J0 K PySem.F.plainAttrs_str PySem.F.slot_str_join PySem.F.type_str_join (M9 K) Ia (H9 (Jj rfl (N:= yS) (nt:=1) (js:=[]) (J7 N7) (piS K (pv 0)) (λ_ _ _ _ _=>(HM (i:=0) (nd1 _) rfl (Or.inl rfl))) (HY Yd) (λ_ _ _ _ _=>Iv) (λ_ _ _ _ _=>(Ic kB hr (pv 0)))) HB)))),?_⟩;obtain⟨b,r,xs,qs,rfl,hS,J,z,Y,q⟩:=h;have hs:=sK;have hl:=J.length;refine⟨Z,?_⟩;refine Kz (b:=b) (a:=r) (xs:=xs) rfl (λi zs H'=>H'=H/\zs=((qs.take i).map tx).map V.str) ⟨Z,Z⟩ (λi zs H' hi p=>⟨by rw[p.1];exact hS,by rw[p.2,qz,qz,qN];lia⟩) Yl ?_ ?_
 ·rintro i x zs H' hx ⟨rfl,rfl⟩;obtain⟨c,O,W⟩:=(yB J hx);refine⟨_,Z,x,c,Z,W,z c (qU O),Z,?_⟩;rw[sC,O,sD,sD];rfl
 rintro zs H' ⟨rfl,rfl⟩ p hp;rw[hl,va];exact⟨_,p,qs.map tx,Z,Z,yw Hu,Kk (by show Iz.length<=2;rw[MU];decide) (λt ht=>pQ (Nw z t ht) Yd) (by rw[qz];exact Y),q _ (yA hp)⟩
theorem QY:HJ yP ["_law_a","_law_b"] (HD (top 136)):=fsc
theorem Rc(F:Fun K "_law_minus" "_law_minus" (top 136) f fd)(kG:Fd P w K mg base 33 "_law_lowest" yZ (Ll))(hT:yL P) :
 HV P w K mg base CX0 34 f fd yP (NB K):=by
 refine okA F QY λaa A outer s H vs Q E Y h=>?_;refine⟨_,(HA (HH (HS kG Y (HG Jf (HG Iq (HE (ixT K) (pv 0) Hv) (HE (ixT K) (pv 1) Hv)) (HG Iq (HE (ixT K) (pv 1) Hv) (HE (ixT K) (pv 0) Hv))) (HG Iq (HE (ixT K) (pv 0) Hv) (HE (ixT K) (pv 1) Hv))))),?_⟩;obtain⟨x,y,p,q,m,n,rfl,⟨r,a,d,rfl,Y,d0,ba,J,ep⟩,⟨u,rfl,O⟩,W,ac,k⟩:=h;refine⟨_,Z,r,_,_,_,Z,Z,Y,Z,_,Z,u,_,_,_,Z,Z,O,Z,_,_,Z,Z,yH ba W.2,_,Z,u,_,_,_,Z,Z,O,Z,_,Z,r,_,_,_,Z,Z,Y,Z,_,_,Z,Z,yH W.1 J,_,_,Z,Z,?_⟩;refine⟨_,Z,r,_,_,_,Z,Z,Y,Z,_,Z,u,_,_,_,Z,Z,O,Z,_,_,Z,Z,yH J W.2,?_⟩;refine⟨_,_,Z,rZ d0 (Nm.den_ne q),λz hz=>?_⟩;have e:=k z hz;rw[<- ep,hZ d0]at e;exact e
theorem QV:HJ ["text"] ["text"] (HD (top 100)):=fsc
theorem R8(F:Fun K "check_text" "check_text" (top 100) f fd)(O:mg "isinstance" = none)(W:mg "str" = none)(J:P.given.tree=none) :
 HV P w K mg base CX0 33 f fd ["text"] (XE):=by
 refine okA F QV λY A outer s H vs Q E z h=>?_;refine⟨_,(HA (Ig K (Jy (Jt (ID (Uk K) rfl O IQ (H9 (pv 0) (H9 (K4 (v:=.ty "str") rfl W Kl rfl) HB))))) (HA Ja) HL)),?_⟩;obtain⟨t,rfl,q⟩:=h;exact⟨_,Z,_,_,_,_,Z,.of (.str _),T5 K,true,Z,IX q⟩
theorem QW:HJ ["places"] ["places"] (HD (top 49)):=fsc
theorem R9(F:Fun K "are_unlike" "are_unlike" (top 49) f fd)(kq:mg "len" = none)(Y:mg "set" = none)(hT:yL P) :
 HV P w K mg base CX0 33 f fd ["places"] (MO K):=by
 refine okA F QW λac A outer s H vs Q E hr h=>?_;refine⟨_,(HA (HH (M4 Jk (ID Xb rfl kq QL (H9 (Ij (jR K rfl hr.units) rfl Y iD (H9 (pv 0) HB)) HB)) (HU K kq (pv 0)) (LA _)))),?_⟩;obtain⟨l,ys,qs,rfl,hS,hn,O,q⟩:=h;have hl:=hn.length;refine⟨_,Z,l,ys,qs,Z,hS,hn,O,λp n aa W hp=>⟨p,n,Z,Hu,Yl,?_⟩⟩;have J:Hy H (upd H p (Ze p n)):=yA hp;refine⟨_,Z,l,ys,Z,.inl (yz J hS),Z,?_⟩
 have e:decide (V.int ((n:Nat):Int)=V.int ((ys.length:Nat):Int))=decide qs.Nodup:=by
  by_cases h:qs.Nodup
  ·rw[decide_eq_true h,decide_eq_true (by rw[hl,W.mpr h])]
  ·rw[decide_eq_false h,decide_eq_false (λz=>h (W.mp (by injection z with z;rw[hl]at z;exact Int.ofNat.inj z)))]
 rw[e];exact q _ J
theorem LQ:HJ ["points","told","point","k"] ["points"] (HD (top 52)):=fsc
theorem V5(F:Fun K "told_in" "told_in" (top 52) f fd)(ku:mg "range" = none)(kq:mg "len" = none)(hT:yL P) :
 HV P w K mg base CX0 33 f fd yN (MP K):=by
 refine okA F LQ λaL A outer s H vs Q E hr h=>?_
 refine⟨_,(HC K (HF (i:=1) LQ (IJ HB))
  (HC K (IP (K:=K) PassesOwn.never rfl (piT K (pv 0)) (HM (i:=2) LQ.nd rfl (Or.inl rfl)) (HA (IP (K:=K) PassesOwn.never rfl (J2 rfl ku (H9 (HG Jf (HU K kq (pv 2)) Hv) HB)) (HM (i:=3) LQ.nd rfl (Or.inl rfl)) (HA (JS (J0 K PySem.F.plainAttrs_list PySem.F.slot_list_append PySem.F.type_list_append JT (pv 1) (H9 (Ib (H9 (HE (ixT K) (pv 2) Hv) (H9 (pv 3) (H9 (HE (ixT K) (pv 2) (HG Iu (pv 3) Hv)) HB)))) HB)))) Yr)) Yr)
  (HA (HH (pv 1))))),?_⟩
 obtain⟨r,xs,pss,rfl,hS,hp,ap,aK,q⟩:=h;have P0:0<=io:=by decide
 have P3:3<=io:=by decide
 have az:=hp.length;refine⟨P0,λp ag=>?_⟩;refine⟨_,Z,r,Z,⟨_,SqT.same hS (yA ag)⟩,NZ (xs:=xs) (L5 H r p K pss λH r p K pss i σ H'=>Hy H H'/\∃ys z2 z3,σ=[some (.ref r),some (.ref p),z2,z3]/\H' p=some (.lst ys)/\O8 K H' ys (HI (pss.take i))) ⟨yA ag,[],none,none,Z,Hu,.nil⟩ (λi σ H' _ h=>hS.same h.1) ?_ ?_⟩
 ·rintro i v σ H' hv aw;refine Jh aw λsm aj=>?_;refine Lh aj λys z2 z3 af=>?_;clear aj;refine Mg af λav ep aa=>?_;clear af;obtain rfl:=av
  try clear aw
  obtain⟨ps,an,a,zs,pp,rfl,am,aq,aC,aD⟩:=(yB hp hv);have aB:=ap ps (qU an);have aH:=aq.length
  have aI:ys.length<=200:=by
   have h1:=Jd (pss.take i) (ap.take i);rw[qN]at h1;rw[aa.length];lia
  refine⟨_,Z,a,zs,Z,.inr (am.same sm),_,_,Z,Z,_,Z,Yl,Yl,?_⟩;rw[show(((zs.length:Nat):Int)-1).toNat=ps.length-1 from MH aH];refine Jv (n:=ps.length-1) (L8 H r p a K pss i ps λH r p a K pss i ps k σ H2=>Hy H H2/\∃Y z3,σ=[some (.ref r),some (.ref p),some (.ref a),z3]/\H2 p=some (.lst Y)/\O8 K H2 Y (HI (pss.take i)++(IA ps).take k)) ⟨sm,ys,z3,Z,ep,by rw[tZ,qG];exact aa⟩ ?_ ?_
  ·rintro k σ H2 hk ax;refine Jh ax λJ al=>?_;refine Kg al λY aA ae=>?_;clear al;refine Mg ae λau W O=>?_;clear ae;obtain rfl:=au
   try clear ax
   have g0:=getD_some (l:=ps) (i:=0) Yl;have gk:=getD_some (l:=ps) (i:=k+1) Yl;obtain⟨xk,aE,aF⟩:=(yC aq gk);have ak:atI zs (0+(k:Int)+1)=some xk:=by rw[show 0+(k:Int)+1=((k+1:Nat):Int) by lia];exact HQ aE
   have aJ:Y.length<=204:=by
    have h1:=aa.length;have h2:=Ih ps;rw[O.length,qV,qN];exact ZR aI hk aB h1
   refine⟨_,Z,.inl ⟨Z,_,yw W⟩,_,Z,a,zs,_,.ref pp,Z,Z,am.same J,HQ (j:=0) aC,_,Z,_,Z,_,Z,_,_,Z,Z,a,zs,_,xk,Z,Z,am.same J,ak,P3,λt ht=>?_⟩;have s3:Hy H2 (upd H2 t (.tup [.ref pp,.int (0+(k:Int)),xk])):=yA ht;have tp:t≠p:=(HW W ht).symm
   have aG:(upd (upd H2 t (.tup [.ref pp,.int (0+(k:Int)),xk])) p (.lst (Y++[.ref t]))) pp=some (nT (ps.getD 0 0)):=by
    have z:=s3 _ _ (J _ _ aD);rw[HZ (Ku z (s3 _ _ W) (λz=>by cases z))];exact z
   refine⟨p,Y,.ref t,Z,Z,s3 _ _ W,pF (by lia:Y.length<300) Yd,(J.trans s3).put ag,Y++[.ref t],_,Z,Hu,?_⟩
   have gt:(IA ps)[k]? = some ⟨ps.getD 0 0,(k:Int),ps.getD (k+1) 0⟩:=by
    unfold IA;rw[qR,tS hk];rfl
   rw[sC,gt,<- rG];refine Paired.snoc (O8.put (O8.same O s3) (s3 _ _ W)) ⟨t,pp,xk,Z,yx ?_,aG,((aF.same J).same s3).put (s3 _ _ W)⟩;rw[HZ tp,Hu,Int.zero_add]
  ·rintro σ H2 ar;refine Jh ar λJ ah=>?_;refine Kg ah λY aA ad=>?_;clear ah;refine Mg ad λao W O=>?_;clear ad;obtain rfl:=ao
   try clear ar
   refine⟨J,Y,_,_,Z,W,?_⟩;have e:pss.take (i+1)=pss.take i++[ps]:=by rw[sC,an];rfl
   rw[e,Ob];have et:(IA ps).take (ps.length-1)=IA ps:=tX (by rw[Ih];exact qd _)
   rw[et]at O;exact O
 ·rintro σ H' ay;refine Jh ay λsm ai=>?_;refine Lh ai λys z2 z3 ac=>?_;clear ai;refine Mg ac λas ep aa=>?_;clear ac;obtain rfl:=as
  try clear ay
  rw[az,va]at aa;exact⟨_,Z,q p H' ys sm ag ep aa⟩
theorem TH:HJ yO ["thing"] (HD (top 13)):=fsc
theorem U6(F:Fun K "is_whole" "is_whole" (top 13) f fd)(Y:mg "isinstance" = none)(z:mg "int" = none)(J:mg "bool" = none)(hT:yL P) :
 HV P w K mg base CX0 33 f fd yO (XB K):=by
 refine okA F TH λW A outer s H vs Q E hr h=>?_;refine⟨_,(HA (HH (UY (ID (Uk K) rfl Y IQ (H9 (pv 0) (H9 (K4 (v:=.ty "int") rfl z OP rfl) HB))) (UX (gQ (ID (Uk K) rfl Y IQ (H9 (pv 0) (H9 (K4 (v:=.ty "bool") rfl J fm rfl) HB)))))))),?_⟩;obtain⟨x,b,rfl,O,q⟩:=h;cases O with
 | int i=>exact⟨_,Z,_,_,_,_,Z,.of (.int i),ib K,true,Z,Kv ⟨_,Z,_,_,_,_,Z,.of (.int i),ic K,false,Z,q⟩⟩
 | bl y=>exact⟨_,Z,_,_,_,_,Z,.of (.bl y),ie K,true,Z,Kv ⟨_,Z,_,_,_,_,Z,.of (.bl y),ig K,true,Z,q⟩⟩
 | oth ty hk=>exact⟨_,Z,_,_,_,_,Z,ty,hk,false,Z,IX q⟩
theorem J1:HJ ["one","other","great","small","rest"] ["one","other"] (HD (top 14)):=fsc
theorem NR(F:Fun K "common_measure" "common_measure" (top 14) f fd)(kN:mg "abs" = none)(hT:yL P) :
 HV P w K mg base CX0 33 f fd ["one","other"] (Tz):=by
 refine okA F J1 λae A outer s H vs Q E hr h=>?_
 refine⟨_,(HC K (HF (i:=2) J1 (ID O5 rfl kN Tf (H9 (pv 0) HB)))
  (HC K (HF (i:=3) J1 (ID O5 rfl kN Tf (H9 (pv 1) HB)))
  (HC K (MD PassesOwn.never (HK Ml (pv 3) Hv) (HC K (HF (i:=4) J1 (HG Ky (pv 2) (pv 3)))
  (HC K (HF (i:=2) J1 (pv 3))
  (HA (HF (i:=3) J1 (pv 4))))))
  (HA (HH (pv 2)))))),?_⟩
 obtain⟨a,b,rfl,q⟩:=h;refine⟨_,Z,a,Z,?_⟩;refine⟨_,Z,b,Z,?_⟩
 refine To (L3 H a b λH a b σ H'=>H'=H/\∃(x y:Int) (r:Option V),σ=[some (.int a),some (.int b),some (.int x),some (.int y),r]/\0<=x/\0<=y/\rR x y=rR a b) (λσ _=>mu 3 σ)
  ⟨Z,_,_,none,Z,?_,?_,?_⟩ ?_ ?_
 ·rw[Nm.abs_if];exact v9 _
 ·rw[Nm.abs_if];exact v9 _
 ·rw[Nm.abs_if,Nm.abs_if];rfl
 ·rintro σ H' aa;refine Jh aa λJ W=>?_;refine Lh W λx y r Y=>?_;clear W;refine Le Y λO hx hy hg=>?_;clear Y;obtain rfl:=J;obtain rfl:=O
  try clear aa
  refine⟨_,Z,Z,_,Z,?_⟩;by_cases hy0:y=0
  ·subst hy0;refine Ii (by rw[decide_eq_true rfl]<;>rfl) ⟨_,Z,?_⟩
   have e:(rR a b:Int)=x:=by rw[<- hg,Int.gcd_zero];lia
   rw[e]at q;exact q
  ·refine IT (by rw[decide_eq_false (λz=>hy0 (V.int.inj z))]<;>rfl) ?_
   have ad:0<y:=by lia
   refine⟨_,Z,_,Z,_,_,Z,Z,ad,?_⟩;refine⟨_,Z,_,Z,⟨Z,y,x % y,_,Z,hy,ua _ hy0,?_⟩,?_⟩
   ·rw[Nm.gcd_turn];exact hg
   ·show(x % y).toNat<y.toNat;have:=ub x ad
    lia
 ·rintro σ H' Q1 Q2 hm ac;obtain⟨v,e,s1,k,ek,q1⟩:=ac
  try clear ac
  exact⟨v,e,s1,k,ek,hm _ _ q1⟩
theorem Si:HJ yO ["thing"] (HD (top 15)):=fsc
theorem SI(F:Fun K "is_number" "is_number" (top 15) f fd)(W:Fd P w K mg base 33 "is_whole" yO (XB K))(J:Fd P w K mg base 33 "common_measure" ["one","other"] (Tz))(kA:mg "isinstance" = none)(kr:mg "tuple" = none)(kq:mg "len" = none)(hT:yL P) :
 HV P w K mg base CX0 34 f fd yO (VD K):=by
 refine okA F Si λO A outer s H vs Q E Y h=>?_
 refine⟨_,(HC K (Ig K (yv (Kr (Jy (Jt (ID (Uk K) rfl kA IQ (H9 (pv 0) (H9 (K4 (v:=.ty "tuple") rfl kr Jr rfl) HB))))) (K6 (HK Ml (HU K kq (pv 0)) Hv)))) (HA (HH Kh)) HL)
  (HC K (Ig K (yv (Kr (Jy (Jt (Ic W Y (HE (ixT K) (pv 0) Hv)))) (K6 (Jy (Jt (Ic W Y (HE (ixT K) (pv 0) Hv))))))) (HA (HH Kh)) HL)
  (HA (HH (UY (M4 fQ (HE (ixT K) (pv 0) Hv) Hv (LA _)) (UX (M4 Jk (HS J Y (HE (ixT K) (pv 0) Hv) (HE (ixT K) (pv 0) Hv)) Hv (LA _)))))))),?_⟩
 obtain⟨x,b,rfl,nx,q⟩:=h;cases nx with
 | no ty hk=>exact⟨_,Z,_,_,_,_,Z,ty,hk,false,Z,Kv (Kv q)⟩
 | @len a xs ha hl =>
   refine⟨_,Z,_,_,_,_,Z,.tup ha,OG K,true,Z,IX ?_⟩;refine⟨_,Z,a,xs,Z,.inr ha,Z,_,Z,?_⟩;have hn:¬(V.int (xs.length:Int)=V.int 2):=λz=>hl (by have:=V.int.inj z;lia)
   exact IT (by rw[decide_eq_false hn]<;>rfl) q
 | @one a p q' ha wp =>
   refine⟨_,Z,_,_,_,_,Z,.tup ha,OG K,true,Z,IX ?_⟩;refine⟨_,Z,a,_,Z,.inr ha,Z,_,Z,IX ?_⟩;refine⟨_,Z,a,_,_,_,Z,Z,ha,Z,_,_,Z,wp,_,Z,Kv (Kv q)⟩
 | @two a i q' ha wq =>
   refine⟨_,Z,_,_,_,_,Z,.tup ha,OG K,true,Z,IX ?_⟩;refine⟨_,Z,a,_,Z,.inr ha,Z,_,Z,IX ?_⟩;refine⟨_,Z,a,_,_,_,Z,Z,ha,Z,_,_,Z,.int i,_,Z,IX ?_⟩;refine⟨_,Z,a,_,_,_,Z,Z,ha,Z,_,_,Z,wq,_,Z,Kv q⟩
 | @nums a i j _ ha e =>
   refine⟨_,Z,_,_,_,_,Z,.tup ha,OG K,true,Z,IX ?_⟩;refine⟨_,Z,a,_,Z,.inr ha,Z,_,Z,IX ?_⟩;refine⟨_,Z,a,_,_,_,Z,Z,ha,Z,_,_,Z,.int i,_,Z,IX ?_⟩;refine⟨_,Z,a,_,_,_,Z,Z,ha,Z,_,_,Z,.int j,_,Z,IX ?_⟩;refine⟨_,Z,a,_,_,_,Z,Z,ha,Z,_,_,Z,Z,_,Z,?_⟩;subst e;by_cases hj:1<=j
   ·rw[decide_eq_true hj]at q ⊢;refine Kv ⟨_,Z,a,_,_,_,Z,Z,ha,Z,_,Z,a,_,_,_,Z,Z,ha,Z,_,_,Z,Z,?_⟩
    have ev:decide (V.int (rR i j:Int)=V.int 1)=decide ((rR i j:Int)=1):=by
     by_cases z:(rR i j:Int)=1
     ·rw[z];rfl
     ·rw[decide_eq_false z,decide_eq_false λy=>z (V.int.inj y)]
    rw[Bool.true_and]at q;rw[ev];exact q
   ·rw[decide_eq_false hj]at q ⊢;exact IX q
theorem P4:HJ yO ["thing"] (HD (top 48)):=fsc
theorem U7(F:Fun K "is_point" "is_point" (top 48) f fd)(lN:Fd P w K mg base 34 "is_number" yO (VD K))(kE:mg "all" = none)(kA:mg "isinstance" = none)(kr:mg "tuple" = none)(kq:mg "len" = none)(hT:yL P) :
 HV P w K mg base CX0 35 f fd yO (VC K):=by
 refine okA F P4 λac A outer s H vs Q E hr h=>?_
 refine⟨_,(HC K (Ig K (yv (Kr (Jy (Jt (ID (Uk K) rfl kA IQ (H9 (pv 0) (H9 (K4 (v:=.ty "tuple") rfl kr Jr rfl) HB))))) (K6 (K3 (Yi K) (HU K kq (pv 0)) (Ib (H9 Hv (H9 Hv HB))) (by with_unfolding_all rfl))))) (HA (HH Kh)) HL)
  (HA (HH (ID (fz K rfl) rfl kE Te (H9 (Jj rfl (N:=["each"]) (nt:=1) (js:=[]) (J7 P4) (piT K (pv 0)) (λ_ _ _ _ _=>(HM (i:=0) (nd1 _) rfl (Or.inl rfl))) (HY Yd) (λ_ _ _ _ _=>Iv) (λ_ _ _ _ _=>(Ic lN hr (pv 0)))) HB))))),?_⟩
 obtain⟨x,b,rfl,px,q⟩:=h;have P2:2<=io:=by decide
 cases px with
 | no ty hk=>exact⟨_,Z,_,_,_,_,Z,ty,hk,false,Z,Kv (Kv (q _ (yy _)))⟩
 | @len a xs ha l2 l3 =>
   refine⟨_,Z,_,_,_,_,Z,.tup ha,OG K,true,Z,IX ?_⟩;refine⟨_,Z,a,xs,Z,.inr ha,P2,λt J=>?_⟩;have Y:Hy H (upd H t (.tup [.int 2,.int 3])):=yA J;refine⟨t,_,Z,.inr (yx Hu),Z,Z,_,Z,?_⟩
   have W:inV (V.int ((xs.length:Nat):Int)) [.int 2,.int 3]=false:=by
    show(((2:Int) == ((xs.length:Nat):Int))||(((3:Int) == ((xs.length:Nat):Int))||false))=false
    have e2:((2:Int) == ((xs.length:Nat):Int))=false:=beq_eq_false_iff_ne.mpr Yl;have e3:((3:Int) == ((xs.length:Nat):Int))=false:=beq_eq_false_iff_ne.mpr Yl;rw[e2,e3]
    rfl
   rw[W];exact Kv (q _ Y)
 | @all a xs bs ha h23 hb =>
   have hl:=hb.length;refine⟨_,Z,_,_,_,_,Z,.tup ha,OG K,true,Z,IX ?_⟩;refine⟨_,Z,a,xs,Z,.inr ha,P2,λt J=>?_⟩;have Y:Hy H (upd H t (.tup [.int 2,.int 3])):=yA J;refine⟨t,_,Z,.inr (yx Hu),Z,Z,_,Z,?_⟩
   have W:inV (V.int ((xs.length:Nat):Int)) [.int 2,.int 3]=true:=by
    rcases h23 with z | z
    ·rw[z];rfl
    ·rw[z];rfl
   rw[W];refine IX ?_;generalize upd H t (.tup [.int 2,.int 3])=H1 at Y ⊢;refine Jo ⟨_,Z,a,Z,⟨_,SqT.same ha Y⟩,?_⟩;refine QC (xs:=xs) (λi zs H'=>Hy H1 H'/\zs=(bs.take i).map V.bl) ⟨yy _,Z⟩ (λi zs H' hi p=>⟨SqT.same ha (Y.trans p.1),by rw[p.2,qz,qN];lia⟩) (pR (HX Yl)) ?_ ?_
   ·rintro i x zs H' hx ⟨O,rfl⟩;obtain⟨c,hc,aa⟩:=(yB hb hx);refine⟨_,Z,x,c,Z,aa.same (Y.trans O),O,?_⟩;rw[sC,hc,sD]
    rfl
   rintro zs H' ⟨O,rfl⟩ p hp;rw[hl,va];exact⟨p,bs,Z,yw Hu,q _ ((Y.trans O).trans (yA hp))⟩
theorem Jm:HJ ["thing","points"] ["thing"] (HD (top 51)):=fsc
theorem NP(F:Fun K "points_of" "points_of" (top 51) f fd)(lO:Fd P w K mg base 33 "are_unlike" ["places"] (MO K))(kR:Fd P w K mg base 33 "told_in" yN (MP K))(lP:Fd P w K mg base 35 "is_point" yO (VC K))(kr:mg "tuple" = none)(kE:mg "all" = none)(kq:mg "len" = none)(kA:mg "isinstance" = none)(kF:mg "list" = none)(W:mg "MOST_TOLD" = some (.int 12 Y))(hT:yL P) :
 HV P w K mg base CX0 36 f fd yO (Lk K):=by
 refine okA F Jm λaD A outer s H vs Q E hr h=>?_
 refine⟨_,(HC K (Ig K (yv (Kr (Jy (Jt (ID (fX K) rfl kA IQ (H9 (pv 0) (H9 (Ib (H9 (K4 (v:=.ty "list") rfl kF PH rfl) (H9 (K4 (v:=.ty "tuple") rfl kr Jr rfl) HB))) HB))))) (K6 (HK Jk (HU K kq (pv 0)) Hv)))) (HA Ja) HL)
  (HC K (Ig K (Jy (Jt (ID (fz K rfl) rfl kE Te (H9 (Jj rfl (N:=["each"]) (nt:=1) (js:=[]) (J7 Jm) (piS K (pv 0)) (λ_ _ _ _ _=>(HM (i:=0) (nd1 _) rfl (Or.inl rfl))) (HY Yd) (λ_ _ _ _ _=>Iv) (λ_ _ _ _ _=>(Ic lP hr (pv 0)))) HB)))) (HA Ja) HL)
  (HC K (Ig K (Jy (Jt (Ic lO hr (Jj rfl (N:=["point"]) (nt:=1) (js:=[]) (J7 Jm) (piS K (pv 0)) (λ_ _ _ _ _=>(HM (i:=0) (nd1 _) rfl (Or.inl rfl))) (HY Yd) (λ_ _ _ _ _=>Iv) (λ_ _ _ _ _=>(HE (ixT K) (pv 0) Hv)))))) (HA Ja) HL)
  (HC K (HF (i:=1) Jm (Ij (Ls K) rfl kr Jr (H9 (pv 0) HB)))
  (HC K (Ig K (HK Ke (HU K kq (Ic kR hr (pv 1))) (JI (v:=.int 12) rfl W ⟨_,Z⟩)) (HA Ja) HL)
  (HA (HH (pv 1)))))))),?_⟩
 obtain⟨b,r,xs,pss,rfl,hS,hp,ad,h1,az,aB,q⟩:=h;have P2:2<=io:=by decide
 have hl:=hp.length;have aE:=JE ad;refine⟨_,Z,P2,λtp ay=>?_⟩;have s1:Hy H (upd H tp (.tup [.ty "list",.ty "tuple"])):=yA ay;have O:=yI hS s1;refine⟨_,if b then .type "list" else .type "tuple",tp,[.ty "list",.ty "tuple"],[.type "list",.type "tuple"],true,Z,?_,Hu,Z,?_,_,Z,IX ?_⟩
 ·cases b
  ·exact .tup O
  ·exact .lst O
 ·cases b
  ·exact QF K
  ·exact QG K
 generalize upd H tp (.tup [.ty "list",.ty "tuple"])=H1 at s1 O ⊢;refine⟨_,Z,r,xs,Z,Sq.len O,Z,_,Z,?_⟩;refine Ii (by rw[decide_eq_false (show ¬V.int ((xs.length:Nat):Int)=V.int 0 from λz=>by have:=V.int.inj z;lia)]<;>rfl) ?_
 have ap:=yK hp s1;refine Kz (b:=b) (a:=r) (xs:=xs) rfl (λi zs H'=>Hy H1 H'/\zs=qK i (.bl true)) ⟨yy _,Z⟩ (λi zs H' _ p=>⟨yI O p.1,by rw[p.2,qW]⟩) (pR (HX Yl)) ?_ ?_
 ·rintro i x zs H' hx ⟨sm,rfl⟩;obtain⟨ps,af,ax⟩:=(yB ap hx);refine⟨_,Z,x,true,Z,Pb.of ((ax.pt).same sm) (ad ps (qU af)),λH2 s2=>⟨sm.trans s2,?_⟩⟩;rw[<- vb]
 rintro zs H2 ⟨s2,rfl⟩ al aA;have s3:=s2.trans (yA (o:=.lst (qK xs.length (.bl true))) aA);refine⟨al,qK xs.length true,Z,yw (by rw[sy];exact Hu),_,Z,?_⟩
 refine Ii (by rw[Ti]<;>rfl) ?_
 generalize upd H2 al (.lst (qK xs.length (.bl true)))=H3 at s3 ⊢;have ao:=yI O s3;have am:=yK ap s3;refine Kz (b:=b) (a:=r) (xs:=xs) rfl (L2 H3 pss λH3 pss i zs H'=>H'=H3/\zs.length=i/\Io H3 zs ((pss.take i).map λps=>ps.getD 0 0)) ⟨Z,Z,.nil⟩ (λi zs H' _ p=>⟨by rw[p.1];exact ao,p.2.1⟩) (pR (HX Yl)) ?_ ?_
 ·rintro i x zs H' hx ⟨rfl,ak,ac⟩;obtain⟨ps,af,a,us,pp,rfl,as,aC,aq,av⟩:=(yB am hx);refine⟨_,Z,a,us,_,_,Z,Z,as,HQ (j:=0) aq,Z,by simp[ak],?_⟩
  rw[sC,af,sD];exact Paired.snoc ac ⟨pp,Z,av⟩
 rintro zs Hq ⟨hq,ak,ac⟩ pl ar;obtain rfl:H3=Hq:=hq.symm;rw[hl,va]at ac;have s4:Hy H3 (upd H3 pl (.lst zs)):=yA ar;refine⟨pl,zs,_,Z,yw Hu,yJ ac s4,by rw[qz];lia,λH5 s5=>⟨_,Z,Ii (by rw[decide_eq_true az];rfl) ?_⟩⟩
 have ah:=s4.trans s5;have ae:=yI ao ah;have an:=yK am ah;have ai:=(s1.trans s3).trans ah;have au:∀(t:ge) (H6:Hp),Hy H5 H6->SqT K H6 t xs->(b=false->t=r)->(LD (Pg 1) QQ) [some (.ref r),some (.ref t)] H6 λvs H7=>True:=λt H6 _ _ _=>⟨_,Z,trivial⟩;clear au;refine⟨_,Z,r,xs,Z,?_⟩;cases b
 ·refine .inr ⟨ae,?_⟩;have sR:=yy H5;refine⟨_,Z,r,xs,pss,Z,(show SqT K H5 r xs from ae),yK an sR,ad,Yl,λtl H7 aa s7 aw ag J=>?_⟩;refine⟨tl,aa,Z,.inl (yw ag),_,_,Z,Z,_,Z,?_⟩;have aj:=J.length;refine Ii (by rw[decide_eq_false (by lia:¬((12:Int)<((aa.length:Nat):Int)))]<;>rfl) ⟨_,Z,q r H7 ((ai.trans sR).trans s7) ((show SqT K H5 r xs from ae).same s7) (λ_=>rfl)⟩
 ·refine .inl ⟨ae,λt ht=>?_⟩;have sT:Hy H5 (upd H5 t (.tup xs)):=yA ht;have eT:SqT K (upd H5 t (.tup xs)) t xs:=yx Hu;refine⟨_,Z,t,xs,pss,Z,eT,yK an sT,ad,Yl,λtl H7 aa s7 aw ag J=>?_⟩;refine⟨tl,aa,Z,.inl (yw ag),_,_,Z,Z,_,Z,?_⟩;have aj:=J.length;refine Ii (by rw[decide_eq_false (by lia:¬((12:Int)<((aa.length:Nat):Int)))]<;>rfl) ⟨_,Z,q t H7 ((ai.trans sT).trans s7) (eT.same s7) (λz=>by cases z)⟩
theorem QZ(F:Fun K "points_of" "points_of" (top 51) f fd)(W:Vt K "NoPoints" O)(ai:Vt K "TooMany" aa)(lO:Fd P w K mg base 33 "are_unlike" ["places"] (MO K))(kR:Fd P w K mg base 33 "told_in" yN (MP K))(lP:Fd P w K mg base 35 "is_point" yO (VC K))(kr:mg "tuple" = none)(kE:mg "all" = none)(kq:mg "len" = none)(kA:mg "isinstance" = none)(kF:mg "list" = none)(af:mg "MOST_TOLD" = some (.int 12 ad))(hT:yL P) :
 HV P w K mg base (CX2 P w) 36 f fd yO (Od K O aa):=by
 refine F.okY Jm (λvs H Q E h=>?_) (λaN A outer s H vs Q E hr h=>?_)
 ·obtain⟨_,rfl,_⟩:=h;rfl
 refine⟨_,(JZ (Ig K (yv (Kr (Jy (Jt (ID (fX K) rfl kA IQ (H9 (pv 0) (H9 (Ib (H9 (K4 (v:=.ty "list") rfl kF PH rfl) (H9 (K4 (v:=.ty "tuple") rfl kr Jr rfl) HB))) HB))))) (K6 (HK Jk (HU K kq (pv 0)) Hv)))) (HA (NL W rfl T3 rfl (H9 Ia HB))) HL)
  (JZ (Ig K (Jy (Jt (ID (fz K rfl) rfl kE Te (H9 (Jj rfl (N:=["each"]) (nt:=1) (js:=[]) (J7 Jm) (piS K (pv 0)) (λ_ _ _ _ _=>(HM (i:=0) (nd1 _) rfl (Or.inl rfl))) (HY Yd) (λ_ _ _ _ _=>Iv) (λ_ _ _ _ _=>(Ic lP hr (pv 0)))) HB)))) (HA (NL W rfl T3 rfl (H9 Ia HB))) HL)
  (JZ (Ig K (Jy (Jt (Ic lO hr (Jj rfl (N:=["point"]) (nt:=1) (js:=[]) (J7 Jm) (piS K (pv 0)) (λ_ _ _ _ _=>(HM (i:=0) (nd1 _) rfl (Or.inl rfl))) (HY Yd) (λ_ _ _ _ _=>Iv) (λ_ _ _ _ _=>(HE (ixT K) (pv 0) Hv)))))) (HA (NL W rfl T3 rfl (H9 Ia HB))) HL)
  (JZ (HF (i:=1) Jm (Ij (Ls K) rfl kr Jr (H9 (pv 0) HB)))
  (JZ (Ig K (HK Ke (HU K kq (Ic kR hr (pv 1))) (JI (v:=.int 12) rfl af ⟨_,Z⟩)) (HA (NL ai rfl T3 rfl (H9 Ia HB))) HL)
  RD))))),?_⟩
 obtain⟨x,rfl,hx⟩:=h;have P1:1<=io:=by decide
 have P2:2<=io:=by decide
 rcases hx with ⟨aJ,qE⟩ | ⟨aF,qE⟩
 ·cases aJ with
  | no ty hk =>
    exact⟨_,Z,P2,λtp ac=>⟨_,_,tp,[.ty "list",.ty "tuple"],[.type "list",.type "tuple"],false,Z,TyP.same ty (yA ac),Hu,Z,hk,_,Z,IT rfl (Kv ⟨P1,qE _ (yA ac)⟩)⟩⟩
  | @nil b r hS =>
    refine⟨_,Z,P2,λtp ac=>?_⟩;have s1:Hy H (upd H tp (.tup [.ty "list",.ty "tuple"])):=yA ac;have Y:=yI hS s1;refine⟨_,if b then .type "list" else .type "tuple",tp,[.ty "list",.ty "tuple"],[.type "list",.type "tuple"],true,Z,?_,Hu,Z,?_,_,Z,Ii rfl ?_⟩
    ·cases b
     ·exact .tup Y
     ·exact .lst Y
    ·cases b
     ·exact QF K
     ·exact QG K
    generalize upd H tp (.tup [.ty "list",.ty "tuple"])=H1 at s1 Y ⊢;refine⟨_,Z,r,_,Z,Sq.len Y,Z,_,Z,?_⟩;exact IT rfl ⟨P1,qE _ s1⟩
  | @pt b r xs bs hS J hb aG =>
    have aD:xs.length≠0:=λz=>by
     have h0:=J.length;rw[z]at h0;have:bs=[]:=sE h0.symm;rw[this]at hb;cases hb
    refine⟨_,Z,P2,λtp ac=>?_⟩;have s1:Hy H (upd H tp (.tup [.ty "list",.ty "tuple"])):=yA ac;have Y:=yI hS s1;refine⟨_,if b then .type "list" else .type "tuple",tp,[.ty "list",.ty "tuple"],[.type "list",.type "tuple"],true,Z,?_,Hu,Z,?_,_,Z,Ii rfl ?_⟩
    ·cases b
     ·exact .tup Y
     ·exact .lst Y
    ·cases b
     ·exact QF K
     ·exact QG K
    generalize upd H tp (.tup [.ty "list",.ty "tuple"])=H1 at s1 Y ⊢;refine⟨_,Z,r,_,Z,Sq.len Y,Z,_,Z,?_⟩;refine Ii (decide_eq_false (λz=>by have:=V.int.inj z;lia)) ?_
    have ag:=yu J λ_ _ z=>Pb.same z s1;have an:=J.length;refine Kz (b:=b) (a:=r) (xs:=xs) rfl (λi zs H'=>Hy H1 H'/\zs=(bs.take i).map V.bl) ⟨yy _,Z⟩ (λi zs H' hi p=>⟨yI Y p.1,by rw[p.2,qz,qN];lia⟩) (pR (HX Yl)) ?_ ?_
    ·rintro i x zs H' hx ⟨sm,rfl⟩;obtain⟨c,hc,ap⟩:=yB ag hx;refine⟨_,Z,x,c,Z,Pb.same ap sm,λH2 s2=>⟨sm.trans s2,?_⟩⟩;rw[sC,hc,sD]
     rfl
    rintro zs H2 ⟨s2,rfl⟩ al am;have e2:bs.take xs.length=bs:=by rw[an,va]
    rw[e2];refine⟨al,bs,Z,yw Hu,_,Z,?_⟩;have s3:=s2.trans (yA (o:=.lst (bs.map V.bl)) am);generalize upd H2 al (.lst (bs.map V.bl))=H3 at s3 ⊢;exact IT (by rw[hb];rfl) ⟨P1,qE _ (s1.trans s3)⟩
  | @twice b r xs pss hS hp ak ar aG =>
    have J:=V0 hp ak;have ah:=QM pss.length;have aL:=hp.length
    have aD:xs.length≠0:=λz=>ar (by
     have:pss=[]:=sE Yl;rw[this];exact List.Pairwise.nil)
    generalize qK pss.length true=bs at J ah;refine⟨_,Z,P2,λtp ac=>?_⟩;have s1:Hy H (upd H tp (.tup [.ty "list",.ty "tuple"])):=yA ac;have Y:=yI hS s1;refine⟨_,if b then .type "list" else .type "tuple",tp,[.ty "list",.ty "tuple"],[.type "list",.type "tuple"],true,Z,?_,Hu,Z,?_,_,Z,Ii rfl ?_⟩
    ·cases b
     ·exact .tup Y
     ·exact .lst Y
    ·cases b
     ·exact QF K
     ·exact QG K
    generalize upd H tp (.tup [.ty "list",.ty "tuple"])=H1 at s1 Y ⊢;refine⟨_,Z,r,_,Z,Sq.len Y,Z,_,Z,?_⟩;refine Ii (decide_eq_false (λz=>by have:=V.int.inj z;lia)) ?_
    have ag:=yu J λ_ _ z=>Pb.same z s1;have an:=J.length;refine Kz (b:=b) (a:=r) (xs:=xs) rfl (λi zs H'=>Hy H1 H'/\zs=(bs.take i).map V.bl) ⟨yy _,Z⟩ (λi zs H' hi p=>⟨yI Y p.1,by rw[p.2,qz,qN];lia⟩) (pR (HX Yl)) ?_ ?_
    ·rintro i x zs H' hx ⟨sm,rfl⟩;obtain⟨c,hc,ap⟩:=yB ag hx;refine⟨_,Z,x,c,Z,Pb.same ap sm,λH2 s2=>⟨sm.trans s2,?_⟩⟩;rw[sC,hc,sD]
     rfl
    rintro zs H2 ⟨s2,rfl⟩ al am;have e2:bs.take xs.length=bs:=by rw[an,va]
    rw[e2];refine⟨al,bs,Z,yw Hu,_,Z,?_⟩;have s3:=s2.trans (yA (o:=.lst (bs.map V.bl)) am);generalize upd H2 al (.lst (bs.map V.bl))=H3 at s3 ⊢;refine Ii (by rw[ah];rfl) ?_
    have hl:=hp.length;have aC:=yI Y s3;have aA:=yK hp (s1.trans s3);refine Kz (b:=b) (a:=r) (xs:=xs) rfl (λi zs H'=>H'=H3/\zs.length=i/\Io H3 zs ((pss.take i).map λps=>ps.getD 0 0)) ⟨Z,Z,.nil⟩ (λi zs H' _ p=>⟨by rw[p.1];exact aC,p.2.1⟩) (pR (HX Yl)) ?_ ?_
    ·rintro i x zs H' hx ⟨rfl,ao,ae⟩;obtain⟨ps,az,a,us,pp,rfl,ax,aK,aw,as⟩:=yB aA hx;refine⟨_,Z,a,us,_,_,Z,Z,ax,HQ (j:=0) aw,Z,by simp[ao],?_⟩
     rw[sC,az,sD];exact Paired.snoc ae ⟨pp,Z,as⟩
    rintro zs Hq ⟨hq,ao,ae⟩ pl av;obtain rfl:H3=Hq:=hq.symm;rw[hl,va]at ae;have s4:Hy H3 (upd H3 pl (.lst zs)):=yA av;refine⟨pl,zs,_,Z,yw Hu,yJ ae s4,by rw[qz];lia,λH5 s5=>⟨_,Z,?_⟩⟩
    have aj:=((s1.trans s3).trans s4).trans s5;exact IT (by rw[decide_eq_false ar];rfl) ⟨P1,qE _ aj⟩
 ·obtain⟨b,r,xs,pss,rfl,hS,hp,ak,h1,ar,aM,aG⟩:=aF;have J:=V0 hp ak;have ah:=QM pss.length;have aL:=hp.length;have aD:xs.length≠0:=by lia
  generalize qK pss.length true=bs at J ah;refine⟨_,Z,P2,λtp ac=>?_⟩;have s1:Hy H (upd H tp (.tup [.ty "list",.ty "tuple"])):=yA ac;have Y:=yI hS s1;refine⟨_,if b then .type "list" else .type "tuple",tp,[.ty "list",.ty "tuple"],[.type "list",.type "tuple"],true,Z,?_,Hu,Z,?_,_,Z,Ii rfl ?_⟩
  ·cases b
   ·exact .tup Y
   ·exact .lst Y
  ·cases b
   ·exact QF K
   ·exact QG K
  generalize upd H tp (.tup [.ty "list",.ty "tuple"])=H1 at s1 Y ⊢;refine⟨_,Z,r,_,Z,Sq.len Y,Z,_,Z,?_⟩;refine Ii (decide_eq_false (λz=>by have:=V.int.inj z;lia)) ?_
  have ag:=yu J λ_ _ z=>Pb.same z s1;have an:=J.length;refine Kz (b:=b) (a:=r) (xs:=xs) rfl (λi zs H'=>Hy H1 H'/\zs=(bs.take i).map V.bl) ⟨yy _,Z⟩ (λi zs H' hi p=>⟨yI Y p.1,by rw[p.2,qz,qN];lia⟩) (pR (HX Yl)) ?_ ?_
  ·rintro i x zs H' hx ⟨sm,rfl⟩;obtain⟨c,hc,ap⟩:=yB ag hx;refine⟨_,Z,x,c,Z,Pb.same ap sm,λH2 s2=>⟨sm.trans s2,?_⟩⟩;rw[sC,hc,sD]
   rfl
  rintro zs H2 ⟨s2,rfl⟩ al am;have e2:bs.take xs.length=bs:=by rw[an,va]
  rw[e2];refine⟨al,bs,Z,yw Hu,_,Z,?_⟩;have s3:=s2.trans (yA (o:=.lst (bs.map V.bl)) am);generalize upd H2 al (.lst (bs.map V.bl))=H3 at s3 ⊢;refine Ii (by rw[ah];rfl) ?_
  have hl:=hp.length;have aC:=yI Y s3;have aA:=yK hp (s1.trans s3);refine Kz (b:=b) (a:=r) (xs:=xs) rfl (λi zs H'=>H'=H3/\zs.length=i/\Io H3 zs ((pss.take i).map λps=>ps.getD 0 0)) ⟨Z,Z,.nil⟩ (λi zs H' _ p=>⟨by rw[p.1];exact aC,p.2.1⟩) (pR (HX Yl)) ?_ ?_
  ·rintro i x zs H' hx ⟨rfl,ao,ae⟩;obtain⟨ps,az,a,us,pp,rfl,ax,aK,aw,as⟩:=yB aA hx;refine⟨_,Z,a,us,_,_,Z,Z,ax,HQ (j:=0) aw,Z,by simp[ao],?_⟩
   rw[sC,az,sD];exact Paired.snoc ae ⟨pp,Z,as⟩
  rintro zs Hq ⟨hq,ao,ae⟩ pl av;obtain rfl:H3=Hq:=hq.symm;rw[hl,va]at ae;have s4:Hy H3 (upd H3 pl (.lst zs)):=yA av;refine⟨pl,zs,_,Z,yw Hu,yJ ae s4,by rw[qz];lia,λH5 s5=>⟨_,Z,?_⟩⟩
  have aj:=((s1.trans s3).trans s4).trans s5;refine Ii (by rw[decide_eq_true ar];rfl) ?_
  have ay:=yI hS aj;have aH:=yK hp aj;refine⟨_,Z,r,xs,Z,?_⟩;cases b
  ·refine .inr ⟨ay,?_⟩;refine⟨_,Z,r,xs,pss,Z,ay,aH,ak,Yl,λtl H7 aB s7 aI au aq=>?_⟩;have aE:=aq.length;exact⟨tl,aB,Z,.inl (yw au),_,_,Z,Z,_,Z,IT (decide_eq_true Yl) ⟨P1,qE _ (aj.trans s7)⟩⟩
  ·refine .inl ⟨ay,λt ht=>?_⟩;have sT:Hy H5 (upd H5 t (.tup xs)):=yA ht;refine⟨_,Z,t,xs,pss,Z,yx Hu,yK aH sT,ak,Yl,λtl H7 aB s7 aI au aq=>?_⟩;have aE:=aq.length;exact⟨tl,aB,Z,.inl (yw au),_,_,Z,Z,_,Z,IT (decide_eq_true Yl) ⟨P1,qE _ ((aj.trans sT).trans s7)⟩⟩
theorem Mz:HJ yQ ["text","most"] (HD (top 97)):=fsc
theorem Qr(F:Fun K "are_figures" "are_figures" (top 97) f fd)(kE:mg "all" = none)(kq:mg "len" = none)(W:mg "FIGURES" = some (.str "0123456789" Y))(hT:yL P) :
 HV P w K mg base CX0 33 f fd yQ (VE):=by
 refine okA F Mz λac A outer s H vs Q E hr h=>?_
 refine⟨_,(HC K (Ig K (yv (Kr (HK Jk (ID ON rfl kq QL (H9 (pv 0) HB)) Hv) (K6 (HK Ke (ID ON rfl kq QL (H9 (pv 0) HB)) (pv 1))))) (HA (HH Kh)) HL)
  (HC K (Ig K (yv (M3 (HK Jk (HE iu (pv 0) Hv) Ia) (KJ (HK Ke (ID ON rfl kq QL (H9 (pv 0) HB)) Hv)))) (HA (HH Kh)) HL)
  (HA (HH (ID (fz K rfl) rfl kE Te (H9 (Jj rfl (N:=["sign"]) (nt:=1) (js:=[]) (J7 Mz) (fN (pv 0)) (λ_ _ _ _ _=>(HM (i:=0) (nd1 _) rfl (Or.inl rfl))) (HY Yd) (λ_ _ _ _ _=>Iv) (λ_ _ _ _ _=>(M4 WH (pv 0) (JI (v:=.str "0123456789") rfl W ⟨_,Z⟩) (by with_unfolding_all rfl)))) HB)))))),?_⟩
 obtain⟨t,rfl,⟨f1,f2,J,f4⟩,q⟩:=h;have hs:=sK
 obtain⟨c,r,e⟩:∃c r,sg t=c::r:=by
  cases hc:sg t with
  | nil=>exact absurd hc f1
  | cons c r=>exact⟨c,r,Z⟩
 have hl:=Ik t;have hz:t.length<=io:=by lia
 have h0:1<=t.length:=by rw[hl,e];simp
 refine⟨_,Z,t,Z,hz,Z,_,Z,?_⟩;refine Ii (by rw[decide_eq_false (show ¬V.int ((t.length:Nat):Int)=V.int 0 from λz=>by have:=V.int.inj z;lia)]<;>rfl) ⟨_,Z,t,Z,hz,_,Z,_,_,Z,Z,_,Z,?_⟩
 refine Ii (by rw[decide_eq_false (by lia:¬((t.length:Nat):Int) > 6)]<;>rfl) ⟨_,Z,t,_,c,Z,Z,hz,(by rw[show t.cps.toList=c::r from e];exact HQ (j:=0) rfl),Z,_,Z,?_⟩
 by_cases hc:c=48
 ·subst hc;have aa:=f4 r e;have h1:t.length=1:=by rw[hl,e,aa];rfl
  refine IT (by rw[decide_eq_true (show V.str ⟨#[48]⟩=V.str (Str.ofString "0") from by decide +kernel)]<;>rfl) ⟨_,Z,t,Z,hz,_,_,Z,Z,_,Z,?_⟩
  refine Ii (by rw[decide_eq_false (by lia:¬((t.length:Nat):Int) > 1)]<;>rfl) ?_
  refine Jo ⟨⟨_,Z,t,Z,λd hd=>by have:=J d hd;lia,Uh (λi zs H'=>H'=H/\zs=qK i (.bl true)) ⟨Z,Z⟩ (λi zs H' _ h=>by rw[h.2,qW]) Yl ?_ ?_⟩⟩
  ·rintro i d zs H' hd ⟨rfl,rfl⟩;have O:=J d (qU hd);refine⟨_,Z,_,_,Z,Z,?_⟩;rw[YO O.1 O.2];exact⟨Z,by rw[<- vb]⟩
  rintro zs H' ⟨rfl,rfl⟩ p hp;refine⟨p,qK (sg t).length true,Z,yw (by rw[sy];exact Hu),?_⟩
  rw[Ti];exact q _ (yA hp)
 ·rw[decide_eq_false (show ¬V.str ⟨#[c]⟩=V.str (Str.ofString "0") from λz=>hc (by
   have z1:=congrArg sg (V.str.inj z);rw[Ji]at z1;exact(tj.inj z1).1))]
  refine IX ?_;refine Jo ⟨⟨_,Z,t,Z,λd hd=>by have:=J d hd;lia,Uh (λi zs H'=>H'=H/\zs=qK i (.bl true)) ⟨Z,Z⟩ (λi zs H' _ h=>by rw[h.2,qW]) Yl ?_ ?_⟩⟩
  ·rintro i d zs H' hd ⟨rfl,rfl⟩;have O:=J d (qU hd);refine⟨_,Z,_,_,Z,Z,?_⟩;rw[YO O.1 O.2];exact⟨Z,by rw[<- vb]⟩
  rintro zs H' ⟨rfl,rfl⟩ p hp;refine⟨p,qK (sg t).length true,Z,yw (by rw[sy];exact Hu),?_⟩
  rw[Ti];exact q _ (yA hp)
theorem Wz:HJ yQ ["text","most"] (HD (top 98)):=fsc
theorem WM(F:Fun K "is_top" "is_top" (top 98) f fd)(lA:Fd P w K mg base 33 "are_figures" yQ (VE))(hT:yL P) :
 HV P w K mg base CX0 34 f fd yQ (XC):=by
 refine okA F Wz λaa A outer s H vs Q E hr h=>?_
 refine⟨_,(HC K (Ig K (Jt (J0 K PySem.F.plainAttrs_str PySem.F.slot_str_startswith PySem.F.type_str_startswith Ri (pv 0) (H9 Ia HB))) (HA (HH (UY (M4 Ml (pv 0) Ia (LA _)) (UX (HS lA hr (IM gy (pv 0) (IW Hv) IS) (pv 1)))))) HL)
  (HA (HH (HS lA hr (pv 0) (pv 1))))),?_⟩
 obtain⟨i,rfl,hi,q⟩:=h;have ac:=sK;have ln:=Vi hi
 rcases KQ i with ⟨n,e,Y⟩ | ⟨n,hp,e,Y⟩
 ·obtain⟨c,r,W⟩:∃c r,dg n=c::r:=by
   cases O:dg n with
   | nil=>exact absurd O (O2 n)
   | cons c r=>exact⟨c,r,Z⟩
  have O:=Ld (n:=n) (c:=c) (by rw[W];simp)
  refine⟨_,Z,Z,_,_,Z,Z,_,Z,?_⟩;rw[Wx (Y.trans W) Yl];exact IX ⟨_,Z,_,Z,_,Z,T9 Y Yl,q⟩
 ·refine⟨_,Z,Z,_,_,Z,Z,_,Z,?_⟩;rw[UK Y];refine Kv ⟨_,Z,Z,_,Z,?_⟩
  rw[decide_eq_false (show ¬V.str (txI i)=V.str (Str.ofString "-0") from λz=>by
   have z1:=congrArg sg (V.str.inj z);rw[Ji,Y]at z1;have J:=Rn n;rw[(tj.inj z1).2]at J;have:n=0:=J.symm
   lia)]
  exact Kv ⟨_,Z,_,Z,txI i,45,dg n,Z,Z,Z,Y,Yl,_,Z,_,Z,T9 (n:=n) (by simp[sg]) Yl,q⟩
theorem LW:HJ ["text","most","parts","number"] ["text","most"] (HD (top 99)):=fsc
theorem SH(F:Fun K "number_in" "number_in" (top 99) f fd)(lN:Fd P w K mg base 34 "is_number" yO (VD K))(Y:Fd P w K mg base 34 "is_top" yQ (XC))(lA:Fd P w K mg base 33 "are_figures" yQ (VE))(kq:mg "len" = none)(kH:mg "int" = none)(hT:yL P) :
 HV P w K mg base CX0 35 f fd yQ (Pu):=by
 refine okA F LW λaa A outer s H vs Q E hr h=>?_
 refine⟨_,(HC K (HF (i:=2) LW (J0 K PySem.F.plainAttrs_str PySem.F.slot_str_split PySem.F.type_str_split La (pv 0) (H9 Ia HB)))
  (HC K (Ig K (yv (Kr (HK Ke (HU K kq (pv 2)) Hv) (K6 (Jy (Jt (HS Y hr (HE (ixL K) (pv 2) Hv) (pv 1))))))) (HA (HH K7)) HL)
  (HC K (Ig K (HK Jk (HU K kq (pv 2)) Hv) (HA (HH (Ib (H9 (Ij OO rfl kH OP (H9 (pv 0) HB)) (H9 Hv HB))))) HL)
  (HC K (Ig K (yv (Kr (HK Jk (HE (ixL K) (pv 2) Hv) Ia) (K6 (Jy (Jt (HS lA hr (HE (ixL K) (pv 2) Hv) (pv 1))))))) (HA (HH K7)) HL)
  (HC K (HF (i:=3) LW (Ib (H9 (Ij OO rfl kH OP (H9 (HE (ixL K) (pv 2) Hv) HB)) (H9 (Ij OO rfl kH OP (H9 (HE (ixL K) (pv 2) Hv) HB)) HB))))
  (HA (HH (NM (Jt (Ic lN hr (pv 3))) (pv 3) K7)))))))),?_⟩
 obtain⟨x,rfl,O,q⟩:=h;have hs:=sK;have P2:2<=io:=by decide
 have lt:=Yz O;have hd:=O.2;refine⟨_,Z,Z,_,_,Z,Z,by rw[Ik,Ji];rfl,Yl,λp hp=>?_⟩
 rw[Tr];have s1:∀o,Hy H (upd H p o):=λo=>yA hp;by_cases h1:x.den=1
 ·have e:tx x=txI x.num:=if_pos h1;rw[if_pos h1,e];refine⟨_,Z,p,_,Z,.inl (yw Hu),_,_,Z,Z,_,Z,IX ?_⟩;refine⟨_,Z,p,_,_,_,Z,Z,yw Hu,Z,_,Z,_,Z,O.1,λH1 W=>?_⟩;refine⟨_,Z,IX ?_⟩;have e1:H1 p=some (.lst [.str (txI x.num)]):=W _ _ Hu;refine⟨_,Z,p,_,Z,.inl (yw e1),Z,_,Z,Kv ?_⟩;refine⟨_,Z,_,Z,rP O.1 Yd,P2,λt J=>?_⟩;have m2:=(s1 _).trans (W.trans (yA (o:=.tup [.int x.num,.int 1]) J));refine q t _ m2 ?_ (by rw[show nT x = .tup [.int x.num,.int 1] from by unfold nT;rw[h1];rfl];exact Hu)
  cases hn:H t with
  | none=>rfl
  | some o=>exact absurd (W _ _ (s1 _ _ _ hn)) (by rw[J];exact λz=>nomatch z)
 ·rw[if_neg h1];refine⟨_,Z,p,_,Z,.inl (yw Hu),_,_,Z,Z,_,Z,IX ?_⟩;refine⟨_,Z,p,_,_,_,Z,Z,yw Hu,Z,_,Z,_,Z,O.1,λH1 W=>?_⟩;refine⟨_,Z,IX ?_⟩;have e1:H1 p=some (.lst [.str (txI x.num),.str (txI x.den)]):=W _ _ Hu;refine⟨_,Z,p,_,Z,.inl (yw e1),Z,_,Z,IX ?_⟩;refine⟨_,Z,p,_,_,_,Z,Z,yw e1,Z,Z,_,Z,?_⟩
  rw[decide_eq_false (show ¬V.str (txI x.den)=V.str (Str.ofString "1") from λz=>h1 (by
   have z1:=congrArg sg (V.str.inj z);rw[Ji,UO]at z1;have z2:=Rn x.den;rw[z1]at z2;exact z2.symm))]
  refine IX ?_;refine⟨_,Z,p,_,_,_,Z,Z,yw e1,Z,_,Z,_,Z,T9 (UO x.den) hd,λH2 m2=>?_⟩;refine⟨_,Z,IX ?_⟩;have e2:H2 p=some (.lst [.str (txI x.num),.str (txI x.den)]):=m2 _ _ e1;refine⟨_,Z,p,_,_,_,Z,Z,yw e2,Z,_,Z,rP O.1 Yd,_,Z,p,_,_,_,Z,Z,yw e2,Z,_,Z,Yl,P2,λt J=>?_⟩;have et:upd H2 t (.tup [.int x.num,.int (x.den:Int)]) t=some (nT x):=Hu;refine⟨_,Z,_,true,Z,Nb.of (yF et),?_⟩;have m3:=yy (upd H2 t (.tup [.int x.num,.int (x.den:Int)]));refine⟨_,Z,Kv ⟨_,Z,?_⟩⟩;refine q t _ ((s1 _).trans (W.trans (m2.trans ((yA J).trans m3)))) ?_ (m3 _ _ et);cases hn:H t with
  | none=>rfl
  | some o=>exact absurd (m2 _ _ (W _ _ (s1 _ _ _ hn))) (by rw[J];exact λz=>nomatch z)
theorem Lu:HJ ["parts","most","numbers"] ["parts","most"] (HD (top 101)):=fsc
theorem R4(F:Fun K "numbers_in" "numbers_in" (top 101) f fd)(lQ:Fd P w K mg base 35 "number_in" yQ (Pu))(hT:yL P) :
 HV P w K mg base CX0 36 f fd ["parts","most"] (Q6 K):=by
 refine okA F Lu λaa A outer s H vs Q E hr h=>?_
 refine⟨_,(HC K (TQ (i:=2) rfl Lu.nd rfl rfl (N:=["part","most"]) (nt:=1) (js:=[1]) (J7 Lu) (piL K (pv 0)) (λ_ _ _ _ _=>(HM (i:=0) (show List.Nodup (["part","most"]:yr) from by decide +kernel) rfl (Or.inl rfl))) (HY Yd) (λ_ _ _ _ _=>Iv) (λ_ _ _ _ _=>(HS lQ hr (pv 0) (pv 1))) rfl)
  (HC K (Ig K (K3 (inD K hr) K7 (pv 2) (by with_unfolding_all rfl)) (HA Ja) HL)
  (HA (HH (pv 2))))),?_⟩
 obtain⟨l,xs,rfl,hS,hf,hz,q⟩:=h;have hs:=sK;refine Jo ⟨_,Z,l,Z,⟨_,hS⟩,Nj (xs:=xs.map λx=>V.str (tx x)) (λi zs H'=>Hy H H'/\zs.length=i/\Io H' zs (xs.take i)) ⟨yy _,Z,.nil⟩ (λi zs H' _ h=>⟨yz h.1 hS,h.2.1⟩) (by rw[qz];lia) ?_ ?_⟩
 ·rintro i v zs H' hv ⟨O,hl,W⟩;rw[qR]at hv;obtain⟨x,hx,rfl⟩:=(rQ.mp hv);refine⟨_,Z,_,Z,x,Z,hf x (qU hx),λp H2 m2 J e2=>⟨O.trans m2,by simp[hl],?_⟩⟩
  have hi:i<xs.length:=(pY.mp hx).1;rw[sC,hx];exact Paired.snoc (yJ W m2) ⟨p,Z,e2⟩
 rintro zs H' ⟨O,hl,W⟩ p J;rw[qz,va]at *;have sn:Hy H' (upd H' p (.lst zs)):=yA J;have Y:=yJ W sn;have e1:upd H' p (.lst zs) p=some (.lst zs):=Hu;refine⟨_,Z,T7 ⟨p,xs.map nD,.none,Z,HR.rdsL Y.nums (yw e1),.non,?_,Z,_,Z,?_⟩⟩
 ·exact M8 xs
 rw[show((xs.map nD).any λy=>PyData.eqv y .none)=false from Qz xs];refine IX ⟨_,Z,?_⟩;refine q p zs _ (O.trans sn) ?_ e1 Y;cases W:H p with
 | none=>rfl
 | some o=>exact absurd (O _ _ W) (by rw[J];exact λz=>nomatch z)
theorem JG:HJ ["text","most","points","part","point"] ["text","most"] (HD (top 102)):=fsc
theorem NO(F:Fun K "read_points_of" "read_points_of" (top 102) f fd)(nC:Fd P w K mg base 33 "check_text" ["text"] (XE))(kX:Fd P w K mg base 36 "points_of" yO (Lk K))(nE:Fd P w K mg base 36 "numbers_in" ["parts","most"] (Q6 K))(kr:mg "tuple" = none)(kq:mg "len" = none)(hT:yL P) :
 HV P w K mg base CX0 37 f fd yQ (PZ K):=by
 refine okA F JG λaL A outer s H vs Q E hr h=>?_
 refine⟨_,(HC K (JS (Ic nC hr (pv 0)))
  (HC K (HF (i:=2) JG (IJ HB))
  (HC K (IP (K:=K) PassesOwn.never rfl (piL K (J0 K PySem.F.plainAttrs_str PySem.F.slot_str_split PySem.F.type_str_split La (pv 0) (H9 Ia HB))) (HM (i:=3) JG.nd rfl (Or.inl rfl)) (HC K (HF (i:=4) JG (Ij (Ls K) rfl kr Jr (H9 (HS nE hr (J0 K PySem.F.plainAttrs_str PySem.F.slot_str_split PySem.F.type_str_split La (pv 3) (H9 Ia HB)) (pv 1)) HB)))
  (HC K (Ig K (K3 (Yi K) (HU K kq (pv 4)) (Ib (H9 Hv (H9 Hv HB))) (by with_unfolding_all rfl)) (HA Ja) HL)
  (HA (JS (J0 K PySem.F.plainAttrs_list PySem.F.slot_list_append PySem.F.type_list_append JT (pv 2) (H9 (pv 4) HB)))))) Yr)
  (HA (HH (Ic kX hr (pv 2))))))),?_⟩
 obtain⟨pss,rfl,al,ad,hf,az,ax,q⟩:=h;have hs:=sK;have P0:0<=io:=by decide
 have P2:2<=io:=by decide
 have ap:pss≠[]:=su.mp al;have aK:=JE ad;have jl:=MK (sep:=Pc) (by rw[OL];decide) (TN hf ad)
 rw[qz]at jl;refine⟨_,Z,_,Z,?_⟩;refine⟨P0,λpl ao=>?_⟩;have s0:∀o,Hy H (upd H pl o):=λo=>yA ao;refine⟨_,Z,Z,_,_,Z,Z,(by show(Pc.length == 0)=false;rw[OL];rfl),by show(Ss pss).length+2<=io;unfold Ss;lia,λl hl=>?_⟩
 have es:Txt.split (Ss pss) (Str.ofString ", ")=pss.map ptx:=Tv ap;rw[es];have lp:l≠pl:=(HW Hu hl).symm;have ep:upd (upd H pl (.lst [])) l (.lst ((pss.map ptx).map V.str)) pl=some (.lst []):=by rw[HZ lp.symm];exact Hu
 have el:upd (upd H pl (.lst [])) l (.lst ((pss.map ptx).map V.str)) l=some (.lst ((pss.map ptx).map V.str)):=Hu;have s1:Hy H (upd (upd H pl (.lst [])) l (.lst ((pss.map ptx).map V.str))):=(s0 _).trans (yA hl);generalize upd (upd H pl (.lst [])) l (.lst ((pss.map ptx).map V.str))=H1 at ep el s1 ⊢;refine⟨l,Z,⟨_,yw el⟩,QK (xs:=(pss.map ptx).map V.str) (L5 H l pss pl K λH l pss pl K i σ H'=>Hy H H'/\H' l=some (.lst ((pss.map ptx).map V.str))/\∃(zs:yt) (z3 z4:Option V),σ=[some (.str (Ss pss)),some (.int 6),some (.ref pl),z3,z4]/\H' pl=some (.lst zs)/\zs.length=i/\Ie K H' zs (pss.take i)) ⟨s1,el,[],none,none,Z,ep,Z,.nil⟩ (λi σ H' _ h=>yw h.2.1) ?_ ?_⟩
 ·rintro i v σ H2 hv am;refine Mg am λsm aq ah=>?_;refine Lh ah λzs z3 z4 J=>?_;clear ah;refine Le J λar ez ai ae=>?_;clear J;obtain rfl:=ar
  try clear am
  rw[qR,qR]at hv;obtain⟨t,ht,rfl⟩:=(rQ.mp hv);obtain⟨ps,aj,rfl⟩:=(rQ.mp ht);have hm:=qU aj;have Y:=ad ps hm;have as:ps≠[]:=λz=>by rw[z]at Y;simp at Y
  have aJ:=VP (hf ps hm) (by rcases Y with z | z<;>lia)
  refine⟨_,Z,Z,_,_,Z,Z,(by show(Pd.length == 0)=false;rw[OM];rfl),Yl,λlc ay=>?_⟩
  have aB:Txt.split (ptx ps) (Str.ofString ":")=ps.map tx:=Tw as;rw[aB];have s3:Hy H2 (upd H2 lc (.lst ((ps.map tx).map V.str))):=yA ay;refine⟨_,Z,lc,ps,Z,yw (by rw[show(ps.map λx=>V.str (tx x))=(ps.map tx).map V.str by rw[tN];rfl];exact Hu),hf ps hm,by rcases Y with z | z<;>lia,λpn us H4 m4 aI e4 hn=>?_⟩
  have ak:=hn.length;refine⟨pn,us,Z,.inl ⟨yw e4,λO aF=>?_⟩⟩;have s5:Hy H4 (upd H4 O (.tup us)):=yA aF;have aA:Hy H2 (upd H4 O (.tup us)):=s3.trans (m4.trans s5);refine⟨_,Z,O,us,Z,.inr (yx Hu),P2,λtt aC=>?_⟩;have s6:Hy (upd H4 O (.tup us)) (upd (upd H4 O (.tup us)) tt (.tup [.int 2,.int 3])):=yA aC;refine⟨tt,_,Z,.inr (yx Hu),Z,Z,_,Z,?_⟩
  have aG:inV (V.int ((us.length:Nat):Int)) [.int 2,.int 3]=true:=by
   rcases Y with z | z
   ·rw[ak,z];rfl
   ·rw[ak,z];rfl
  rw[aG];refine IX ?_;have W:=aA.trans s6;have et:SqT K (upd (upd H4 O (.tup us)) tt (.tup [.int 2,.int 3])) O us:=yx (s6 _ _ Hu);have au:=yJ hn (s5.trans s6);have ac:=W _ _ ez;have av:=W _ _ aq;have ag:=yK ae W;generalize upd (upd H4 O (.tup us)) tt (.tup [.int 2,.int 3])=H6 at W et au ac av ag ⊢;refine⟨_,Z,.inl ⟨Z,_,yw ac⟩,_,Z,pl,zs,_,Z,Z,ac,by rw[ai];have:=(pY.mp aj).1;lia,?_⟩
  have aE:PtT K H6 (.ref O) ps:=by
   cases au with
   | nil=>exact absurd rfl as
   | cons a b =>
     obtain⟨r,rfl,hr⟩:=a;exact⟨O,_,r,Z,et,Paired.cons (yF hr) (Io.nums b),Z,hr⟩
  have aD:H pl=none:=ao;refine⟨?_,?_,zs++[.ref O],_,_,Z,Hu,by simp[ai],?_⟩
  ·exact Hy.put (sm.trans W) aD
  ·rw[HZ lp];exact av
  ·rw[sC,aj];exact Paired.snoc (Ie.put ag ac) (PtT.put aE ac)
 rintro σ H2 aw;refine Mg aw λsm aq af=>?_;refine Lh af λzs z3 z4 aa=>?_;clear af;refine Le aa λan ez ai ae=>?_;clear aa;obtain rfl:=an
 try clear aw
 rw[qz,qz,va]at *;refine⟨_,Z,true,pl,zs,pss,Z,yw ez,ae,ad,al,az,ax,λp H3 m3 aH _=>?_⟩;exact q p zs H3 (sm.trans m3) aH (yK ae m3)
theorem Sm:HJ y7 ["self","text"] (HD (JU (top 130) 0)):=fsc
theorem SV(F:Fun K "__init__" "Desk.__init__" (JU (top 130) 0) f fd)(W:Pe K Y)(nF:Fd P w K mg base 37 "read_points_of" yQ (PZ K))(J:mg "SIX" = some (.int 6 z))(hT:yL P) :
 HV P w K mg base CX0 38 f fd y7 (NF K Y):=by
 refine okA F Sm λaa A outer s H vs Q E hr h=>?_;refine⟨_,(HA (Su K (pv 0) (HS nF hr (pv 1) (JI (v:=.int 6) rfl J ⟨_,Z⟩)) rfl)),?_⟩;obtain⟨p,dx,pss,rfl,hp,h1,h2,h3,h4,h5,q⟩:=h;refine⟨_,Z,pss,Z,h1,h2,h3,h4,h5,λr xs H' s hr hx=>?_⟩;have O:=s _ _ hp;refine⟨_,Z,p,Y,dx,[],Z,O,W.cl,W.na_points,(by show 0<1000;decide),?_⟩
 exact q r xs _ (λb o hb e=>by rw[HZ hb];exact s _ _ e) Hu ⟨SqT.but hr O,Ie.but hx O,h2,h1,h4,h5⟩
theorem Kw:HJ ["numbers","least","number","fewest"] ["numbers","least"] (HD (top 128)):=fsc
theorem Pk(F:Fun K "check_wholes" "check_wholes" (top 128) f fd)(W:mg "zip" = none)(O:P.given.tree=none) :
 HV P w K mg base CX0 33 f fd ["numbers","least"] (PV K):=by
 refine okA F Kw λY A outer s H vs Q E J h=>?_;refine⟨_,(HA (IP (K:=K) PassesOwn.never rfl (gM K rfl W (H9 (pv 0) (H9 (pv 1) HB))) (pgT K (n:=2) rfl (IL (HM (i:=2) Kw.nd rfl (Or.inl rfl)) (IL (HM (i:=3) Kw.nd rfl (Or.inl rfl)) KL))) (HA (Ig K (yv (Kr (HK Ml (HE (ixT K) (pv 2) Hv) Hv) (K6 (HK RH (HE (ixT K) (pv 2) Hv) (pv 3))))) (HA Ja) HL)) Yr)),?_⟩;obtain⟨l,t,xs,rfl,h1,h2,q⟩:=h;exact⟨_,Z,_,Z,l,t,xs,Z,h1,h2,YL h1 h2 q⟩
theorem JH:HJ ["words","numbers","counts"] ["words"] (HD (top 129)):=fsc
theorem NQ(F:Fun K "numbers_of_row" "numbers_of_row" (top 129) f fd)(nG:Fd P w K mg base 33 "check_wholes" ["numbers","least"] (PV K))(lQ:Fd P w K mg base 35 "number_in" yQ (Pu))(kq:mg "len" = none)(aG:mg "SIX" = some (.int 6 aF))(hT:yL P)(ai:∀H:Hp,SqT K H ak [.int 2,.int 3])(ah:∀H:Hp,SqT K H am [.int 1,.int 1])(ac:∀H:Hp,SqT K H af [.int 2,.int 2])(al:∀H:Hp,SqT K H ap [.int 2,.int 2])(aj:∀H:Hp,SqT K H an [.int 1,.int 1])(aa:∀H:Hp,SqT K H as [.int 0,.int 0])(ae:∀H:Hp,SqT K H ao [.int 0,.int 0])(ag:∀H:Hp,SqT K H ad [.int 1,.int 1])(ar:∀H:Hp,SqT K H aq [.int 1,.int 1])(z:∀H:Hp,SqT K H J [.int 1,.int 16])(au:mg "COUNTS" = some (.ref W))(Y:KDk P w K W [(Sum.inr "put",.ref ak),(Sum.inr "take",.ref am),(Sum.inr "height",.ref af),(Sum.inr "slope",.ref ap),(Sum.inr "noslope",.ref an),(Sum.inr "points",.ref aA),(Sum.inr "curve",.ref as),(Sum.inr "steps",.ref ao),(Sum.inr "at",.ref ad),(Sum.inr "slopeat",.ref aq),(Sum.inr "misses",.ref J),(Sum.inr "bounds",.ref aw),(Sum.inr "noughts",.ref av),(Sum.inr "wrong",.ref ax),(Sum.inr "quotient",.ref ay)])(aD:mg "LEAST" = some (.ref O))(az:KDk P w K O [(Sum.inr "wrong",.ref aC),(Sum.inr "quotient",.ref aB)]) :
 HV P w K mg base CX0 36 f fd ["words"] (LO K):=by
 refine okA F JH λaM A outer s H vs Q E hr h=>?_
 refine⟨_,(HC K (Ig K (UW (UZ P w K (HE (ixL K) (pv 0) Hv) (JI (v:=.ref W) rfl au rfl)) (by with_unfolding_all rfl)) (HA Ja) HL)
  (HC K (TQ (i:=1) rfl JH.nd rfl rfl (N:=["word"]) (nt:=1) (js:=[]) (J7 JH) (piL K (IM (slL K) (pv 0) (IW Hv) IS)) (λ_ _ _ _ _=>(HM (i:=0) (nd1 _) rfl (Or.inl rfl))) (HY Yd) (λ_ _ _ _ _=>Iv) (λ_ _ _ _ _=>(HS lQ hr (pv 0) (JI (v:=.int 6) rfl aG ⟨_,Z⟩))) rfl)
  (HC K (HF (i:=2) JH (NN P w K (JI (v:=.ref W) rfl au rfl) (HE (ixL K) (pv 0) Hv) (λu v=>rfl)))
  (HC K (Ig K (yv (Kr (HK RH (HU K kq (pv 1)) (HE (ixT K) (pv 2) Hv)) (K6 (HK Ke (HU K kq (pv 1)) (HE (ixT K) (pv 2) Hv))))) (HA Ja) HL)
  (HC K (Ig K (K3 (inD K hr) K7 (pv 1) (by with_unfolding_all rfl)) (HA Ja) HL)
  (HC K (JS (HS nG hr (pv 1) (WG P w K (JI (v:=.ref O) rfl aD rfl) (HE (ixL K) (pv 0) Hv) (Ib HB) ⟨Z,Z,Z,Z⟩)))
  (HA (HH (pv 1))))))))),?_⟩
 obtain⟨l,i,qs,rfl,hS,i6,aN,aI,hf,q⟩:=h;have hs:=sK;have P0:0<=io:=by decide
 have hi:i=0\/i=1\/i=2\/i=3\/i=4\/i=5\/i=6\/i=7\/i=8\/i=9:=by lia
 have aL:qs.length<=16:=by rcases hi with rfl | rfl | rfl | rfl | rfl | rfl | rfl | rfl | rfl | rfl<;>exact pQ aI Yd
 obtain⟨kvs,g,dC,hg,hT⟩:∃kvs g,KDk P w K W kvs/\JJ kvs (Sum.inr (wd i))=some (.ref g)/\∀H:Hp,SqT K H g [.int (loW i:Nat),.int (hiW i:Nat)]:=by
  rcases hi with rfl | rfl | rfl | rfl | rfl | rfl | rfl | rfl | rfl | rfl
  ·exact⟨_,_,Y,Z,ai⟩
  ·exact⟨_,_,Y,Z,ah⟩
  ·exact⟨_,_,Y,Z,ac⟩
  ·exact⟨_,_,Y,Z,al⟩
  ·exact⟨_,_,Y,Z,aj⟩
  ·exact⟨_,_,Y,Z,aa⟩
  ·exact⟨_,_,Y,Z,ae⟩
  ·exact⟨_,_,Y,Z,ag⟩
  ·exact⟨_,_,Y,Z,ar⟩
  ·exact⟨_,_,Y,Z,z⟩
 obtain⟨aJ,dL,hn⟩:∃kvs,KDk P w K O kvs/\JJ kvs (Sum.inr (wd i))=none:=by
  rcases hi with rfl | rfl | rfl | rfl | rfl | rfl | rfl | rfl | rfl | rfl<;>exact⟨_,az,Z⟩
 clear Y az ai ah ac al aj aa ae ag ar z hi i6;refine⟨⟨_,Z,l,_,_,_,Z,Z,hS,HQ (j:=0) rfl,W,kvs,Sum.inr (wd i),Z,dC,Z,_,Z,?_⟩⟩;rw[hg];refine IX ?_;refine Jo ⟨_,Z,1,Z,l,_,Z,hS,λc hc=>?_⟩;have ec:Mf (V.str (wd i)::qs.map λx=>V.str (tx x)) (some 1) none=qs.map (λx=>V.str (tx x)):=(Ut _ 1).trans rfl;rw[ec];have s1:Hy H (upd H c (.lst (qs.map λx=>V.str (tx x)))):=yA hc;have e1:upd H c (.lst (qs.map λx=>V.str (tx x))) c=some (.lst (qs.map λx=>V.str (tx x))):=Hu;generalize upd H c (.lst (qs.map λx=>V.str (tx x)))=H1 at s1 e1 ⊢;refine⟨c,Z,⟨_,yw e1⟩,Nj (xs:=qs.map λx=>V.str (tx x)) (λi zs H'=>Hy H1 H'/\zs.length=i/\Io H' zs (qs.take i)) ⟨yy _,Z,.nil⟩ (λi zs H' _ h=>⟨yw (h.1 _ _ e1),h.2.1⟩) (by rw[qz];lia) ?_ ?_⟩
 ·rintro j v zs H' hv ⟨sm,hl,hn⟩;rw[qR]at hv;obtain⟨x,hx,rfl⟩:=(rQ.mp hv);refine⟨_,Z,x,Z,hf x (qU hx),λp H2 m2 hp e2=>⟨sm.trans m2,by simp[hl],?_⟩⟩
  rw[sC,hx];exact Paired.snoc (yJ hn m2) ⟨p,Z,e2⟩
 rintro zs H' ⟨sm,hl,hz⟩ p hp;rw[qz,va]at *;have s2:Hy H (upd H' p (.lst zs)):=(s1.trans sm).trans (yA hp);have aK:H p=none:=(s1.trans sm).free hp;have ep:upd H' p (.lst zs) p=some (.lst zs):=Hu;have aE:=yJ hz (yA (o:=.lst zs) hp);generalize upd H' p (.lst zs)=H2 at s2 ep aE ⊢;clear hz hp sm s1 e1;refine⟨⟨_,Z,l,_,_,_,Z,Z,yz s2 hS,HQ (j:=0) rfl,W,kvs,Sum.inr (wd i),_,Z,dC,Z,hg,?_⟩⟩;refine⟨_,Z,p,_,Z,.inl (yw ep),_,Z,g,_,_,_,Z,Z,hT H2,HQ (j:=0) rfl,_,_,Z,Z,?_⟩;have aO:zs.length=qs.length:=aE.length;refine⟨_,Z,?_⟩;refine Ii (by rw[decide_eq_false (by lia:¬((zs.length:Nat):Int)<((loW i:Nat):Int))]<;>rfl) ⟨_,Z,p,_,Z,.inl (yw ep),_,Z,g,_,_,_,Z,Z,hT H2,HQ (j:=1) rfl,_,_,Z,Z,_,Z,?_⟩
 refine Ii (by rw[decide_eq_false (by lia:¬((zs.length:Nat):Int) > ((hiW i:Nat):Int))]<;>rfl) ?_
 refine⟨_,Z,T7 ⟨p,qs.map nD,.none,Z,HR.rdsL aE.nums (yw ep),.non,M8 qs,Z,_,Z,?_⟩⟩;rw[show((qs.map nD).any λy=>PyData.eqv y .none)=false from Qz qs];refine IX ⟨_,Z,⟨O,aJ,Z,dL,_,Z,l,_,_,_,Z,Z,yz s2 hS,HQ (j:=0) rfl,P0,λe he=>⟨Sum.inr (wd i),Z,?_⟩⟩⟩;rw[hn];have s3:=s2.trans (yA (o:=.tup []) he);have aH:=(yA (o:=.tup []) he) _ _ ep;refine⟨p,e,zs,Z,yw aH,yx Hu,_,Z,?_⟩;exact q p zs _ s3 aK aH (yJ aE (yA he))
theorem Qb:HJ ["number"] ["number"] (HD (top 92)):=fsc
theorem Qp(F:Fun K "show_number" "show_number" (top 92) f fd)(J:mg "str" = none)(hT:yL P) :
 HV P w K mg base CX0 33 f fd ["number"] (JF K):=by
 refine okA F Qb λaa A outer s H vs Q E hr h=>?_
 refine⟨_,(HC K (Ig K (HK Jk (HE (ixT K) (pv 0) Hv) Hv) (HA (HH (Ij Jc rfl J Kl (H9 (HE (ixT K) (pv 0) Hv) HB)))) HL)
  (HA (HH (HG Il (HG Il (Ij Jc rfl J Kl (H9 (HE (ixT K) (pv 0) Hv) HB)) Ia) (Ij Jc rfl J Kl (H9 (HE (ixT K) (pv 0) Hv) HB)))))),?_⟩
 obtain⟨x,q,rfl,⟨r,rfl,Y⟩,O,W⟩:=h;have hd:=O.2;have hs:=sK;have l1:=OE O.1;have l2:=OE (i:=(q.den:Int)) Yl;refine⟨_,Z,r,_,_,_,Z,Z,Y,Z,Z,_,Z,?_⟩;by_cases h1:q.den=1
 ·have e:tx q=txI q.num:=if_pos h1;rw[e]at W;exact IT (by rw[decide_eq_true (by rw[h1];rfl:V.int (q.den:Int)=V.int 1)]<;>rfl) ⟨_,Z,r,_,_,_,Z,Z,Y,Z,_,Z,OC O.1,W⟩
 ·have e:tx q=txI q.num++Str.ofString "/" ++ txI q.den:=if_neg h1;rw[e]at W;rw[decide_eq_false (λz=>h1 (by have:=V.int.inj z;lia))]
  have l3:(Str.ofString "/").length=1:=by rw[Ik,Ji];rfl
  have l4:(txI q.num++Str.ofString "/").length=(txI q.num).length+1:=by rw[Ik,IB,qV,<- Ik,<- Ik,l3]
  refine IX ⟨_,Z,r,_,_,_,Z,Z,Y,Z,_,Z,OC O.1,_,_,Z,Z,?_,_,Z,r,_,_,_,Z,Z,Y,Z,_,Z,OC Yl,_,_,Z,Z,?_,W⟩
  ·show(txI q.num).length+(Str.ofString "/").length<=io
   lia
  ·show(txI q.num++Str.ofString "/").length+(txI q.den).length<=io
   lia
theorem Mj:HJ yR ["numbers"] (HD (top 93)):=fsc
theorem Pj(F:Fun K "show_numbers" "show_numbers" (top 93) f fd)(kT:Fd P w K mg base 33 "show_number" ["number"] (JF K))(hT:yL P) :
 HV P w K mg base CX0 34 f fd yR (Ko K Iz):=by
 refine okA F Mj λaa A outer s H vs Q E hr h=>?_;refine⟨_,(HA (HH (J0 K PySem.F.plainAttrs_str PySem.F.slot_str_join PySem.F.type_str_join (M9 K) Ia (H9 (Jj rfl (N:=["number"]) (nt:=1) (js:=[]) (J7 Mj) (piS K (pv 0)) (λ_ _ _ _ _=>(HM (i:=0) (nd1 _) rfl (Or.inl rfl))) (HY Yd) (λ_ _ _ _ _=>Iv) (λ_ _ _ _ _=>(Ic kT hr (pv 0)))) HB)))),?_⟩;obtain⟨b,r,xs,qs,rfl,hS,J,z,Y,q⟩:=h;have hs:=sK;have hl:=J.length;refine⟨Z,?_⟩;refine Kz (b:=b) (a:=r) (xs:=xs) rfl (λi zs H'=>H'=H/\zs=((qs.take i).map tx).map V.str) ⟨Z,Z⟩ (λi zs H' hi p=>⟨by rw[p.1];exact hS,by rw[p.2,qz,qz,qN];lia⟩) Yl ?_ ?_
 ·rintro i x zs H' hx ⟨rfl,rfl⟩;obtain⟨c,O,W⟩:=(yB J hx);refine⟨_,Z,x,c,Z,W,z c (qU O),Z,?_⟩;rw[sC,O,sD,sD];rfl
 rintro zs H' ⟨rfl,rfl⟩ p hp;rw[hl,va];exact⟨_,p,qs.map tx,Z,Z,yw Hu,Kk (by show Iz.length<=2;rw[MU];decide) (λt ht=>pQ (Nw z t ht) Yd) (by rw[qz];exact Y),q _ (yA hp)⟩
theorem QT:HJ ["curve"] ["curve"] (HD (top 94)):=fsc
theorem R3(F:Fun K "show_curve" "show_curve" (top 94) f fd)(lR:Fd P w K mg base 34 "show_numbers" yR (Ko K Iz))(kq:mg "len" = none)(hT:yL P) :
 HV P w K mg base CX0 35 f fd ["curve"] (PY K):=by
 refine okA F QT λz A outer s H vs Q E hr h=>?_;refine⟨_,(HA (HH (NM (HK Ke (HU K kq (pv 0)) Hv) (Ic lR hr (pv 0)) Ia))),?_⟩;obtain⟨r,qs,rfl,⟨xs,J,O⟩,hf,W,q⟩:=h;have hl:=O.length;refine⟨_,Z,r,xs,Z,.inr J,_,_,Z,Z,_,Z,?_⟩;by_cases hq:qs=[]
 ·refine Ii (by rw[decide_eq_false (by rw[hl,hq];decide:¬((xs.length:Nat):Int) > 0)]<;>rfl) ?_
  have e:ctx qs=Str.ofString "0":=if_pos hq;have Y:=q _ (yy _);rw[e]at Y;exact Y
 ·refine IT (by rw[decide_eq_true (show((xs.length:Nat):Int) > 0 by have:=su.mpr hq;lia)]<;>rfl) ⟨_,Z,false,r,xs,qs,Z,J,O,hf,W,λH1 m1=>?_⟩
  have Y:=q _ m1;rw[show ctx qs=_ from if_neg hq]at Y;exact Y
theorem KH:HJ ["numbers","bottom","number"] ["numbers"] (HD (top 25)):=fsc
theorem SN(F:Fun K "bottom_of" "bottom_of" (top 25) f fd)(l7:Fd P w K mg base 33 "common_measure" ["one","other"] (Tz))(hT:yL P) :
 HV P w K mg base CX0 34 f fd yR (VF K):=by
 refine okA F KH λap A outer s H vs Q E hr h=>?_
 refine⟨_,(HC K (HF (i:=1) KH Hv)
  (HC K (IP (K:=K) PassesOwn.never rfl (piS K (pv 0)) (HM (i:=2) KH.nd rfl (Or.inl rfl)) (HA (HF (i:=1) KH (HG Iq (pv 1) (HG (Kt hr hT) (HE (ixT K) (pv 2) Hv) (HS l7 hr (pv 1) (HE (ixT K) (pv 2) Hv)))))) Yr)
  (HA (HH (pv 1))))),?_⟩
 obtain⟨b,r,xs,qs,n,rfl,hS,hn,hB,hz,q⟩:=h;have hl:=hn.length;refine T8 (b:=b) (a:=r) (xs:=xs) rfl (L4 H r qs n λH r qs n i σ H'=>H'=H/\∃(B:Int) (z:Option V),σ=[some (.ref r),some (.int B),z]/\0<B/\(∀q∈qs.take i,(q.den:Int)∣B)/\Bd (n*i+1) B) ⟨Z,1,none,Z,Yd,λq hq=>by simp at hq,by unfold Bd;rw[Nat.mul_zero];decide⟩ (λi σ H' _ p=>by rw[p.1];exact hS) ?_ ?_
 ·rintro i x σ H' hx aj;refine Jh aj λal aa=>?_;refine Kg aa λB z O=>?_;clear aa;refine Le O λag ad J Y=>?_;clear O;obtain rfl:=al;obtain rfl:=ag
  try clear aj
  obtain⟨c,hc,r',rfl,hr⟩:=(yB hn hx);have hi:i<qs.length:=(pY.mp hc).1;have am:c∈qs:=qU hc;have an:0<(c.den:Int):=by have:=c.den_pos;lia
  obtain⟨l1,l2,l3⟩:=(YA ad an);have g0:(rR B c.den:Int)≠0:=by have:=Nm.gcd_pos (a:=B) (b:=c.den) Yl;lia
  have ae:Bd n (Int.fdiv c.den (rR B c.den:Int)):=(hB c am).fdiv;have aq:n*i<=n*qs.length:=uH n Yl;have ao:n*(qs.length+2)=n*qs.length+2*n:=by rw[tH];lia
  refine⟨_,Z,_,Z,r',_,_,_,Z,Z,hr,Z,_,Z,_,Z,r',_,_,_,Z,Z,hr,Z,_,_,Z,_,_,Z,Z,g0,_,_,Z,Z,yH Y ae Yl,?_⟩;refine⟨Z,_,_,Z,l1,λq' ah=>?_,?_⟩
  ·rw[sC,hc]at ah
   rcases pW.mp ah with z | z
   ·exact Int.dvd_trans (J q' z) l2
   ·have:q'=c:=by simpa using z
    subst this;exact l3
  ·have:=Y.mul ae;rw[tH,uw,show n*i+n+1=n*i+1+n by lia]
   exact this
 ·rintro σ H' ak;refine Jh ak λaf ac=>?_;refine Kg ac λB z W=>?_;clear ac;refine Le W λai ad J Y=>?_;clear W;obtain rfl:=af;obtain rfl:=ai
  try clear ak
  rw[hl,va]at J;rw[hl]at Y;exact⟨_,Z,q B ad J Y⟩
theorem NI:HJ y8 ["numbers","bottom"] (HD (top 26)):=fsc
theorem Sz(F:Fun K "tops_over" "tops_over" (top 26) f fd)(hT:yL P) :
 HV P w K mg base CX0 33 f fd y8 (S5 K):=by
 refine okA F NI λac A outer s H vs Q E Y h=>?_;refine⟨_,(HA (HH (Jj rfl (N:=["number","bottom"]) (nt:=1) (js:=[1]) (J7 NI) (piS K (pv 0)) (λ_ _ _ _ _=>(HM (i:=0) (show List.Nodup (["number","bottom"]:yr) from by decide +kernel) rfl (Or.inl rfl))) (HY Yd) (λ_ _ _ _ _=>Iv) (λ_ _ _ _ _=>(HG Iq (HE (ixT K) (pv 0) Hv) (HG (Kt Y hT) (pv 1) (HE (ixT K) (pv 0) Hv))))))),?_⟩
 obtain⟨b,r,xs,qs,B,m,n,rfl,hS,hn,O,J,aa,hz,q⟩:=h;have hl:=hn.length;refine Kz (b:=b) (a:=r) (xs:=xs) rfl (λi zs H'=>H'=H/\zs=((qs.take i).map (JX B)).map V.int) ⟨Z,Z⟩ (λi zs H' hi p=>⟨by rw[p.1];exact hS,by rw[p.2,qz,qz,qN];lia⟩) (by rw[hl];exact pR (HX hz)) ?_ ?_
 ·rintro i x zs H' hx ⟨rfl,rfl⟩;obtain⟨c,hc,r',rfl,Y⟩:=(yB hn hx);have W:c∈qs:=qU hc;have z:(c.den:Int)≠0:=by have:=c.den_pos;lia
  refine⟨_,Z,r',_,_,_,Z,Z,Y,Z,_,Z,_,Z,r',_,_,_,Z,Z,Y,Z,_,_,Z,Z,z,_,_,Z,Z,yH (J c W) (O.fdiv (y:=c.den)) Yl,Z,?_⟩;rw[sC,hc,sD,sD]
  rfl
 ·rintro zs H' ⟨rfl,rfl⟩ p hp;rw[hl,va];exact q p hp
theorem My:HJ ["numbers","width"] ["numbers"] (HD (top 24)):=fsc
theorem U8(F:Fun K "curve_of" "curve_of" (top 24) f fd)(kq:mg "len" = none)(kr:mg "tuple" = none)(W:mg "NOUGHT" = some (.ref Y))(O:∀H:Hp,HP K H (.ref Y) (0))(hT:yL P) :
 HV P w K mg base CX0 33 f fd yR (MR K):=by
 refine okA F My λak A outer s H vs Q E hr h=>?_
 refine⟨_,(HC K (HF (i:=1) My (HU K kq (pv 0)))
  (HC K (MD PassesOwn.never (yv (M3 (HK Ke (pv 1) Hv) (KJ (HK (eqD K hr.units) (HE (ixL K) (pv 0) (HG Jf (pv 1) Hv)) (JI (v:=.ref Y) rfl W rfl))))) (HA (HF (i:=1) My (HG Jf (pv 1) Hv))))
  (HA (HH (Ij (Ls K) rfl kr Jr (H9 (IM (slL K) (pv 0) IS (IW (pv 1))) HB)))))),?_⟩
 obtain⟨r,xs,qs,rfl,hS,hn,hz,q⟩:=h;have hl:=hn.length;refine⟨_,Z,r,xs,Z,.inl hS,?_⟩;refine iR (L3 H r qs λH r qs σ H'=>H'=H/\∃(v:Nat),σ=[some (.ref r),some (.int (v:Int))]/\v<=qs.length/\∀j q,v<=j->qs[j]? = some q->q=0) (λσ _=>mu 1 σ) ⟨Z,qs.length,by rw[<- hl];rfl,qd _,λj q hj e=>absurd (pY.mp e).1 Yl⟩ ?_
 rintro σ H' ae;refine Jh ae λag aa=>?_;refine Vp aa λv z=>?_;clear aa;refine Mg z λaf hv ac=>?_;clear z;obtain rfl:=ag;obtain rfl:=af
 try clear ae
 have ad:(v=0\/∃q,qs[v-1]? = some q/\q≠0)->∀p,H' p=none->∀p',upd H' p (.lst (Mf xs none (some (v:Int)))) p'=none->Q (.ref p') (upd (upd H' p (.lst (Mf xs none (some (v:Int))))) p' (.tup (Mf xs none (some (v:Int))))):=λhc p hp p' J=>by
  have e:Mf xs none (some (v:Int))=xs.take v:=by
   unfold Mf;have e1:HT.sIx xs.length 0 none=0:=rfl;have e2:HT.sIx xs.length xs.length (some (v:Int))=min v xs.length:=HT.sIx_nat _ _ v;rw[e1,e2,tV,tW];apply sP;intro i;rw[uX,uX]
   split<;>split<;>first | rfl | lia | (rename_i h1 h2;exact(uR Yl).symm) | (rename_i h1 h2;exact uR Yl)
  have sm:Hy H' (upd (upd H' p (.lst (Mf xs none (some (v:Int))))) p' (.tup (Mf xs none (some (v:Int))))):=(yA hp).trans (yA J);refine q p' _ sm ⟨xs.take v,yx (by rw[e];exact Hu),?_⟩
  rw[<- Cv.take_strip qs v ac hc];exact yD v (yG hn sm)
 refine⟨_,Z,_,_,Z,Z,_,Z,?_⟩;by_cases hv0:v=0
 ·subst hv0;refine IX (IX ?_);exact⟨_,Z,_,Z,_,Z,r,xs,Z,hS,λp hp=>⟨p,_,Z,.inl ⟨yw Hu,λp' J=>ad (.inl rfl) p hp p' J⟩⟩⟩
 ·refine IT (by rw[decide_eq_true (show(0:Int)<(v:Int) by lia)]<;>rfl) ?_
  have ah:v-1<qs.length:=by lia
  have hq:qs[v-1]? = some qs[v-1]:=sV ah;obtain⟨x,hx,ai⟩:=(yC hn hq)
  have aj:atI xs ((v:Int)-1)=some x:=by
   rw[show(v:Int)-1=((v-1:Nat):Int) by lia]
   exact HQ hx
  refine⟨_,Z,_,Z,_,_,Z,Z,r,xs,_,x,Z,Z,hS,aj,?_⟩;refine eqN ai (O _) ?_;refine⟨_,Z,?_⟩;by_cases hq0:qs[v-1]=0
  ·refine IT (by rw[decide_eq_true hq0]<;>rfl) (iQ ?_)
   refine⟨_,Z,_,_,Z,Z,⟨Z,v-1,?_,Yl,λj q' hj e=>?_⟩,?_⟩
   ·show[some (V.ref r),some (V.int ((v:Int)-1))]=[some (V.ref r),some (V.int ((v-1:Nat):Int))];rw[show(v:Int)-1=((v-1:Nat):Int) by lia]
   ·by_cases hjv:v<=j
    ·exact ac j q' hjv e
    ·have:j=v-1:=by lia
     subst this;rw[hq]at e;cases e;exact hq0
   ·show((v:Int)-1).toNat<(v:Int).toNat
    lia
  ·refine Ii (by rw[decide_eq_false hq0]<;>rfl) ?_
   exact⟨_,Z,_,Z,_,Z,r,xs,Z,hS,λp hp=>⟨p,_,Z,.inl ⟨yw Hu,λp' J=>ad (.inr ⟨_,hq,hq0⟩) p hp p' J⟩⟩⟩
theorem LV:HJ ["top","bottom","measure"] ["top","bottom"] (HD (top 16)):=fsc
theorem SG(F:Fun K "number_of" "number_of" (top 16) f fd)(l7:Fd P w K mg base 33 "common_measure" ["one","other"] (Tz))(hT:yL P) :
 HV P w K mg base CX0 34 f fd y3 (Ll):=by
 refine okA F LV λaa A outer s H vs Q E J h=>?_
 refine⟨_,(HC K (Ig K (HK Jk (pv 1) Hv) (HA Ja) HL)
  (HC K (HF (i:=2) LV (HS l7 J (pv 0) (pv 1)))
  (HC K (Ig K (HK RH (pv 1) Hv) (HA (HF (i:=2) LV (RG Oa (pv 2)))) HL)
  (HA (HH (Ib (H9 (HG (Kt J hT) (pv 0) (pv 2)) (H9 (HG (Kt J hT) (pv 1) (pv 2)) HB)))))))),?_⟩
 obtain⟨a,b,rfl,O,q⟩:=h;refine⟨_,Z,Z,_,Z,?_⟩;refine Ii (by rw[decide_eq_false (λz=>O (V.int.inj z))]<;>rfl) ?_
 refine⟨_,Z,_,Z,a,b,Z,?_⟩;refine⟨_,Z,_,_,Z,Z,_,Z,?_⟩;have hd:Nm.msr a b≠0:=Nm.msr_ne O
 have Y:∀p,H p=none->Q (.ref p) (upd H p (.tup [.int (a.fdiv (Nm.msr a b)),.int (b.fdiv (Nm.msr a b))])):=λp hp=>by
  rw[Nm.top_msr O,Nm.bottom_msr O];exact q p hp
 by_cases hb0:b<0
 ·have W:Nm.msr a b = -(rR a b:Int):=by unfold Nm.msr;rw[if_pos hb0]
  rw[W]at hd Y;refine IT (by rw[decide_eq_true hb0]<;>rfl) ⟨_,Z,_,Z,?_⟩
  exact⟨_,Z,_,Z,_,_,Z,Z,hd,_,Z,_,Z,_,_,Z,Z,hd,(by decide:2<=io),Y⟩
 ·have W:Nm.msr a b=(rR a b:Int):=by unfold Nm.msr;rw[if_neg hb0]
  rw[W]at hd Y;refine Ii (by rw[decide_eq_false hb0]<;>rfl) ?_
  exact⟨_,Z,_,Z,_,_,Z,Z,hd,_,Z,_,Z,_,_,Z,Z,hd,(by decide:2<=io),Y⟩
theorem N6:HJ ["tops","bottom"] ["tops","bottom"] (HD (top 27)):=fsc
theorem R7(F:Fun K "curve_over" "curve_over" (top 27) f fd)(lT:Fd P w K mg base 33 "curve_of" yR (MR K))(kL:Fd P w K mg base 34 "number_of" y3 (Ll))(hT:yL P) :
 HV P w K mg base CX0 35 f fd ["tops","bottom"] (Mr K):=by
 refine okA F N6 λaa A outer s H vs Q E hr h=>?_;refine⟨_,(HA (HH (Ic lT hr (Jj rfl (N:= y3) (nt:=1) (js:=[1]) (J7 N6) (piS K (pv 0)) (λ_ _ _ _ _=>(HM (i:=0) (show List.Nodup (y3:yr) from by decide +kernel) rfl (Or.inl rfl))) (HY Yd) (λ_ _ _ _ _=>Iv) (λ_ _ _ _ _=>(HS kL hr (pv 0) (pv 1))))))),?_⟩
 obtain⟨l,ts,b,rfl,hS,hb,hz,q⟩:=h;have z:(ts.map V.int).length=ts.length:=qz _;refine Kz (b:=true) (a:=l) (xs:=ts.map V.int) rfl (L4 H K ts b λH K ts b i zs H'=>Hy H H'/\zs.length=i/\HR K H' zs ((ts.take i).map λt=>rV t b)) ⟨yy _,Z,.nil⟩ (λi zs H' _ p=>⟨yz p.1 hS,p.2.1⟩) (by rw[z];exact pR (HX hz)) ?_ ?_
 ·rintro i x zs H' W ⟨J,hl,O⟩;rw[qR]at W;cases et:ts[i]? with
  | none=>rw[et]at W;cases W
  | some t =>
    rw[et]at W;cases W;refine⟨_,Z,_,Z,t,b,Z,hb,λp Y=>⟨J.trans (yA Y),by simp[hl],?_⟩⟩
    rw[sC,et,sD];exact Paired.snoc (yG O (yA Y)) (yF Hu)
 ·rintro zs H' ⟨J,hl,O⟩ p Y;rw[z,va]at O;refine⟨p,zs,_,Z,yw Hu,yG O (yA Y),by rw[qz];exact hz,λr H2 s2 c=>q r H2 ((J.trans (yA Y)).trans s2) c⟩
theorem JR:HJ ["first","second","product","k","j"] ["first","second"] (HD (top 30)):=fsc
theorem Ow(F:Fun K "whole_product" "whole_product" (top 30) f fd)(ku:mg "range" = none)(kq:mg "len" = none)(hT:yL P) :
 HV P w K mg base CX0 33 f fd ["first","second"] (UM K):=by
 refine okA F JR λaL A outer s H vs Q E hr h=>?_
 refine⟨_,(HC K (HF (i:=2) JR (HG Ot (IJ (H9 Hv HB)) (HG Jf (HG Iu (HU K kq (pv 0)) (HU K kq (pv 1))) Hv)))
  (HC K (IP (K:=K) PassesOwn.never rfl (J2 rfl ku (H9 (HU K kq (pv 0)) HB)) (HM (i:=3) JR.nd rfl (Or.inl rfl)) (HA (IP (K:=K) PassesOwn.never rfl (J2 rfl ku (H9 (HU K kq (pv 1)) HB)) (HM (i:=4) JR.nd rfl (Or.inl rfl)) (HA (Nh (HG Iu (HE (ixL K) (pv 2) (HG Iu (pv 3) (pv 4))) (HG Iq (HE (ixL K) (pv 0) (pv 3)) (HE (ixL K) (pv 1) (pv 4)))) (Oq (pv 2) (HG Iu (pv 3) (pv 4)) LH))) Yr)) Yr)
  (HA (HH (pv 2))))),?_⟩
 obtain⟨f,g,fs,gs,m,n,rfl,hf,hg,aJ,W,J,az,ax,aK,q⟩:=h;have lf:(fs.map V.int).length=fs.length:=qz _;have lg:(gs.map V.int).length=gs.length:=qz _;have P1:1<=io:=by decide
 have aM:fs.length*gs.length<=1000*1000:=uP W J;refine⟨P1,λo ho=>?_⟩;have aH:SqL K (upd H o (.lst [.int 0])) f (fs.map V.int):=XA hf ho;have aG:SqL K (upd H o (.lst [.int 0])) g (gs.map V.int):=XA hg ho;refine⟨_,Z,f,_,Z,.inl aH,_,Z,g,_,Z,.inl aG,_,_,Z,Z,_,_,Z,Z,o,_,_,Z,Z,Hu,?_,?_,?_,λp hp=>?_⟩
 ·rw[lf,lg];lia
 ·rw[lf,lg];lia
 ·show 1*(((fs.map V.int).length:Int)+((gs.map V.int).length:Int)-1).toNat<=io;rw[lf,lg,tu];exact pQ (WR W J) (by decide:2*1000<=io)
 have aD:H p=none:=by
  cases z:H p with
  | none=>rfl
  | some u=>rw[(yA ho) p u z]at hp;cases hp
 have eL:(((fs.map V.int).length:Int)+((gs.map V.int).length:Int)-1).toNat=fs.length+gs.length-1:=by rw[lf,lg];exact Yp aJ
 rw[eL];have s0:Hy H (upd (upd H o (.lst [.int 0])) p (.lst (qK (fs.length+gs.length-1) [V.int 0]).flatten)):=(yA ho).trans (yA hp);have e0:(qK (fs.length+gs.length-1) [V.int 0]).flatten=(qK (fs.length+gs.length-1) (0:Int)).map V.int:=by rw[List.flatten_replicate_singleton,sy]
 rw[e0]at s0 ⊢;refine⟨_,Z,f,_,Z,.inl (yz s0 hf),_,Z,by rw[lf];lia,by rw[lf];lia,?_⟩
 rw[lf,rg]
 refine Jv (n:=fs.length) (L8 H f g p fs gs m n λH f g p fs gs m n i σ H'=>Hy H H'/\∃(ps:yo) (z3 z4:Option V),σ=[some (.ref f),some (.ref g),some (.ref p),z3,z4]/\H' p=some (.lst (ps.map V.int))/\ps.length=fs.length+gs.length-1/\(∀x,Cv.evI ps x=Cv.evI (fs.take i) x*Cv.evI gs x)/\∀t∈ps,Up (i*gs.length) (m+n) t)
  ⟨s0,_,none,none,Z,Hu,qW,λx=>?_,λt ht=>?_⟩ ?_ ?_
 ·rw[Cv.evI_zeros,tZ];show(0:Rat)=0*_
  grind
 ·rw[(tm.mp ht).2];exact qg _
 ·rintro i σ H' hi aA;refine Jh aA λsm am=>?_;refine Lh am λps z3 z4 af=>?_;clear am;refine N0 af λaF ep aq ap an=>?_;clear af;obtain rfl:=aF
  try clear aA
  have ar:fs[i]? = some fs[i]:=sV hi;refine⟨_,Z,g,_,Z,.inl (yz sm hg),_,Z,by rw[lg];lia,by rw[lg];lia,?_⟩
  rw[lg,rg]
  refine Jv (n:=gs.length) (λj σ H'=>Hy H H'/\∃(ps:yo) (z4:Option V),σ=[some (.ref f),some (.ref g),some (.ref p),some (.int (0+(i:Int))),z4]/\H' p=some (.lst (ps.map V.int))/\ps.length=fs.length+gs.length-1/\(∀x,Cv.evI ps x=Cv.evI (fs.take i) x*Cv.evI gs x+(fs[i]:Rat)*x ^ i*Cv.evI (gs.take j) x)/\∀t∈ps,Up (i*gs.length+j) (m+n) t)
   ⟨sm,ps,z4,Z,ep,aq,λx=>?_,an⟩ ?_ ?_
  ·rw[ap x,tZ];show _=_+_*(0:Rat)
   grind
  ·rintro j σ H2 hj aB;refine Jh aB λae ak=>?_;refine Kg ak λY aI ac=>?_;clear ak;refine N0 ac λaE ai aa ag O=>?_;clear ac;obtain rfl:=aE
   try clear aB
   have av:gs[j]? = some gs[j]:=sV hj;have ao:i+j<Y.length:=Yq hi hj aa;have aw:Y[i+j]? = some Y[i+j]:=sV ao;have bm:JQ fs[i] gs[j]:=yH (az _ (sW hi)) (ax _ (sW hj)) Yl;refine⟨_,Z,_,Z,_,Z,_,_,Z,Z,p,_,_,_,Z,Z,yw ai,O6 aw Yl,_,Z,_,Z,f,_,_,_,Z,Z,yz ae hf,O6 ar Yl,_,Z,_,Z,g,_,_,_,Z,Z,yz ae hg,O6 av Yl,_,_,Z,Z,bm,_,_,Z,Z,?_⟩;refine⟨_,Z,_,Z,_,Z,_,_,Z,Z,p,_,_,i+j,Z,Z,ai,NW (by rw[qz];exact ao) Yl,?_⟩
   refine⟨ae.put aD,Y.set (i+j) (Y[i+j]+fs[i]*gs[j]),_,Z,?_,by rw[rB];exact aa,λx=>?_,λt ht=>?_⟩
   ·rw[Hu,sx]
   ·rw[Cv.evI_set x Y (i+j) _ _ aw,ag x,Cv.evI_take_succ x gs j _ av,si,Nm.pow_add]
    grind
   ·rcases uW ht with z | z
    ·exact(O t z).mono Yl
    ·subst z;exact(O _ (sW ao)).add ((az _ (sW hi)).mul (ax _ (sW hj)))
  ·rintro σ H2 au;refine Jh au λae aj=>?_;refine Kg aj λY aI ah=>?_;clear aj;refine N0 ah λay ai aa ag O=>?_;clear ah;obtain rfl:=ay
   try clear au
   refine⟨ae,Y,_,_,Z,ai,aa,λx=>?_,λt ht=>?_⟩
   ·rw[ag x,va,Cv.evI_take_succ x fs i _ ar]
    grind
   ·have:=O t ht;rw[tq,tu];exact this
 ·rintro σ H' aC;refine Jh aC λsm al=>?_;refine Lh al λps z3 z4 ad=>?_;clear al;refine N0 ad λas ep aq ap an=>?_;clear ad;obtain rfl:=as
  try clear aC
  refine⟨_,Z,q p H' ps sm aD ep aq (λx=>?_) (λt ht=>?_)⟩
  ·rw[ap x,va]
  ·exact(an t ht).bd (k:=20) Yl
theorem Jx:HJ ["knots","steps","bottom","step_tops","tops","scale","k"] ["knots","steps"] (HD (top 61)):=fsc
theorem U9(F:Fun K "by_steps" "by_steps" (top 61) f fd)(lU:Fd P w K mg base 34 "bottom_of" yR (VF K))(lV:Fd P w K mg base 33 "tops_over" y8 (S5 K))(nH:Fd P w K mg base 35 "curve_over" ["tops","bottom"] (Mr K))(nJ:Fd P w K mg base 33 "whole_product" ["first","second"] (UM K))(ku:mg "range" = none)(kq:mg "len" = none)(hT:yL P) :
 HV P w K mg base CX0 36 f fd ["knots","steps"] (Oh K):=by
 refine okA F Jx λa4 A outer s H vs Q E hr h=>?_
 refine⟨_,(HC K (HF (i:=2) Jx (Ic lU hr (pv 1)))
  (HC K (HF (i:=3) Jx (HS lV hr (pv 1) (pv 2)))
  (HC K (HF (i:=4) Jx (IJ HB))
  (HC K (HF (i:=5) Jx Hv)
  (HC K (IP (K:=K) PassesOwn.never rfl (ZE rfl ku (H9 (HG Jf (HU K kq (pv 0)) Hv) (H9 (RG Oa Hv) (H9 (RG Oa Hv) HB)))) (HM (i:=6) Jx.nd rfl (Or.inl rfl)) (HC K (HF (i:=4) Jx (HS nJ hr (pv 4) (IJ (H9 (RG Oa (HE (ixT K) (HE (ixL K) (pv 0) (pv 6)) Hv)) (H9 (HE (ixT K) (HE (ixL K) (pv 0) (pv 6)) Hv) HB)))))
  (HC K (HF (i:=5) Jx (HG Iq (pv 5) (HE (ixT K) (HE (ixL K) (pv 0) (pv 6)) Hv)))
  (HA (Nh (HG Iu (HE (ixL K) (pv 4) Hv) (HG Iq (HE (ixL K) (pv 3) (pv 6)) (pv 5))) (Oq (pv 4) Hv LH))))) Yr)
  (HA (HH (HS nH hr (pv 4) (HG Iq (pv 2) (pv 5)))))))))),?_⟩
 obtain⟨rk,aa,xs,ys,ks,Y,n,rfl,hk,aG,hs,au,al,aX,ae,aq,aP,q⟩:=h;have aM:=aG.length;have a3:=au.length;have P0:0<=io:=by decide
 have P2:2<=io:=by decide
 have a2:n*ks.length<=2048000*12:=uP aP aX;have a0:n*Y.length=n*ks.length:=by rw[al]
 refine⟨_,Z,true,aa,ys,Y,n,Z,hs,au,(λc hc=>(aq c hc).2),by rw[tH];lia,λB a5 aV ag=>?_⟩
 refine⟨_,Z,_,Z,true,aa,ys,Y,B,n*Y.length+1,n,Z,hs,au,ag,(λc hc=>(aq c hc).1),Yl,Yl,λst h1=>?_⟩;refine⟨P0,λtp h2=>?_⟩;have s2:Hy H (upd (upd H st (.lst ((Y.map (JX B)).map V.int))) tp (.lst [])):=(yA h1).trans (yA h2);have ax:(upd (upd H st (.lst ((Y.map (JX B)).map V.int))) tp (.lst [])) st=some (.lst ((Y.map (JX B)).map V.int)):=(yA h2) _ _ Hu;have aH:(upd (upd H st (.lst ((Y.map (JX B)).map V.int))) tp (.lst [])) tp=some (.lst (([]:yo).map V.int)):=Hu;generalize upd (upd H st (.lst ((Y.map (JX B)).map V.int))) tp (.lst [])=H2 at s2 ax aH ⊢;refine⟨_,Z,rk,xs,Z,.inl (yz s2 hk),_,_,Z,Z,_,Z,_,Z,_,_,Z,⟨Yl,Yl,Yd,Yd⟩,?_⟩;have eT:((xs.length:Int)-1 - -1).toNat=ks.length:=ZP aM;rw[eT]
 refine YM (n:=ks.length) (L8 H2 rk aa B st ks Y n λH2 rk aa B st ks Y n i σ H'=>Hy H2 H'/\∃(tp:ge) (ts:yo) (s:Int) (z:Option V),σ=[some (.ref rk),some (.ref aa),some (.int B),some (.ref st),some (.ref tp),some (.int s),z]/\H' tp=some (.lst (ts.map V.int))/\ts.length=i/\s≠0 /\
  (∀x,Cv.evI ts x=IG (ks.drop (ks.length-i)) (Y.drop (ks.length-i)) x*((B:Rat)*(s:Rat)))/\(∀t∈ts,Bd (n*ks.length+n*i+21*i+2*n+30) t)/\Bd (n*i+1) s)
  ⟨yy _,tp,[],1,none,Z,aH,Z,Yd,λx=>?_,(λ_ h=>nomatch h),?_⟩ ?_ ?_
 ·rw[tW,u6 (qd _)];show(0:Rat)=0*_
  grind
 ·exact(by unfold Bd;decide:Bd 1 1).mono Yl
 ·rintro i σ H' hi az;refine Jh az λsm aj=>?_;refine Uq aj λap ts s z ac=>?_;clear aj;refine iG ac λaO O ay hs0 he as W=>?_;clear ac;obtain rfl:=aO
  try clear az
  have hj:ks.length-1-i<ks.length:=hV hi;have aI:ks.length-1-i<Y.length:=by lia
  have ao:ks[ks.length-1-i]? = some ks[ks.length-1-i]:=sV hj;have ar:Y[ks.length-1-i]? = some Y[ks.length-1-i]:=sV aI;have J:ks[ks.length-1-i]∈ks:=sW hj;have an:Y[ks.length-1-i]∈Y:=sW aI;generalize ks[ks.length-1-i]=c at ao J;generalize Y[ks.length-1-i]=d at ar an;obtain⟨xk,aS,af,rfl,aB⟩:=(yC aG ao);have ei:(xs.length:Int)-1-(i:Int)=((ks.length-1-i:Nat):Int):=Yt aM hi;have aw:atI xs ((xs.length:Int)-1-(i:Int))=some (.ref af):=by rw[ei];exact HQ aS
  have aJ:atI ((Y.map (JX B)).map V.int) ((xs.length:Int)-1-(i:Int))=some (.int (JX B d)):=O6 (by rw[qR,ar];rfl) ei
  have a1:n*i<=n*ks.length:=uH n Yl;have aZ:n*(i+1)=n*i+n:=by rw[tH,uw]
  have bt:Bd (n*ks.length+n+1) (JX B d):=((aq d an).1.mul (ag.fdiv (y:=d.den))).mono Yl;have sH:=s2.trans sm;have ak:=aB.same sH;refine⟨_,Z,_,Z,_,Z,rk,xs,_,_,Z,Z,yz sH hk,aw,af,_,_,_,Z,Z,ak,Z,_,Z,_,Z,_,Z,rk,xs,_,_,Z,Z,yz sH hk,aw,af,_,_,_,Z,Z,ak,Z,P2,λg hg=>?_⟩;have sg:Hy H' (upd H' g (.lst [.int (-c.num),.int (c.den:Int)])):=yA hg;have eg:(upd H' g (.lst [.int (-c.num),.int (c.den:Int)])) g=some (.lst ([-c.num,(c.den:Int)].map V.int)):=Hu;generalize upd H' g (.lst [.int (-c.num),.int (c.den:Int)])=Hg at sg eg ⊢
  have aK:∀t∈[-c.num,(c.den:Int)],Bd n t:=λt ht=>by
   rcases pV.mp ht with z | z
   ·subst z;exact(ae c J).1.neg
   ·rw[sU.mp z];exact(ae c J).2
  refine⟨ap,g,ts,[-c.num,(c.den:Int)],n*ks.length+n*i+21*i+2*n+30,n,Z,yw (sg _ _ O),yw eg,(by decide:1<=2),Yl,(by decide:2<=1000),as,aK,Yl,λpr H6 ps s6 aU aL aT aR aD=>?_⟩
  have ai:ps.length=i+1:=by rw[aT,ay];rfl
  have aE:0<ps.length:=by rw[ai];exact tJ i
  have h0:ps[0]? = some ps[0]:=sV aE;have aA:=sg.trans s6;have aC:=sH.trans aA;have ms:JQ s (c.den:Int):=yH W (ae c J).2 Yl;have av:Bd (n*(i+1)+1) (s*(c.den:Int)):=(W.mul (ae c J).2).mono Yl;refine⟨_,Z,_,Z,_,Z,rk,xs,_,_,Z,Z,yz aC hk,aw,af,_,_,_,Z,Z,aB.same aC,Z,_,_,Z,Z,ms,?_⟩;refine⟨_,Z,pr,_,_,_,Z,Z,yw aL,O6 h0 rfl,_,Z,_,Z,st,_,_,_,Z,Z,yw (aA _ _ (sm _ _ ax)),aJ,_,Z,_,_,Z,Z,yH bt av Yl,_,_,Z,Z,?_⟩;refine⟨_,Z,pr,_,_,0,Z,Z,aL,NW (by rw[qz];lia) rfl,?_⟩
  have aW:Hy H2 (upd H6 pr (.lst ((ps.map V.int).set 0 (.int (ps[0]+JX B d*(s*(c.den:Int))))))):=λbb u zz=>by
   have z1:=sg _ _ (sm bb u zz);rw[HZ (HW z1 aU)];exact s6 bb u z1
  refine⟨aW,pr,ps.set 0 (ps[0]+JX B d*(s*(c.den:Int))),s*(c.den:Int),_,Z,?_,by rw[rB];exact ai,rZ hs0 (Nm.den_ne c),λx=>?_,λt ht=>?_,av⟩
  ·rw[Hu,sx]
  ·rw[Cv.evI_set x ps 0 _ _ h0,aR x,YR,he x,so,Ta rfl hi ao,Ta al.symm hi ar];show _=(d+(x-c)*IG _ _ x)*_;rw[si,si,Rq (aV d an)]
   grind
  ·rcases uW ht with zz | zz
   ·exact(aD t zz).mono Yl
   ·subst zz;have b1:=(aD _ (sW aE)).mono (n:=n*ks.length+n*i+21*i+2*n+30+n+20) Yl;have b2:=(bt.mul av).mono (n:=n*ks.length+n*i+21*i+2*n+30+n+20) Yl;exact(Bd.add b1 b2).mono Yl
 ·rintro σ H' aN;refine Jh aN λsm am=>?_;refine Uq am λap ts s z ad=>?_;clear am;refine iG ad λaF O ay hs0 he as W=>?_;clear ad;obtain rfl:=aF
  try clear aN
  have ah:B*s≠0:=rZ Yl hs0;refine⟨_,Z,_,Z,_,Z,_,_,Z,Z,yH ag W Yl,ap,ts,B*s,Z,yw O,ah,Yl,λp H6 s6 c6=>?_⟩;refine q p H6 _ ((s2.trans sm).trans s6) c6 (by have:=Cv.strip_length (ts.map λt=>rV t (B*s));rw[qz]at this;lia) (Vm _) (λc hc=>?_) λx=>?_
  ·have aY:=Cv.strip_mem _ c hc;obtain⟨t,ht,rfl⟩:=(tR.mp aY);exact RB.div (m:=0) ((as t ht).mono Yl) ((ag.mul W).mono Yl) ah
  rw[Cv.ev_strip];have h7:=Wd ah x ts;rw[he x,tY,tV,tV,<- si]at h7;exact Zy (Nm.cast_ne ah) h7
theorem OZ:HJ yN ["points"] (HD (top 53)):=fsc
theorem U5(F:Fun K "knots_of" "knots_of" (top 53) f fd)(kR:Fd P w K mg base 33 "told_in" yN (MP K))(hT:yL P) :
 HV P w K mg base CX0 34 f fd yN (NC K):=by
 refine okA F OZ λac A outer s H vs Q E hr h=>?_;refine⟨_,(HA (HH (Jj rfl (N:=["told"]) (nt:=1) (js:=[]) (J7 OZ) (piL K (Ic kR hr (pv 0))) (λ_ _ _ _ _=>(HM (i:=0) (nd1 _) rfl (Or.inl rfl))) (HY Yd) (λ_ _ _ _ _=>Iv) (λ_ _ _ _ _=>(HE (ixT K) (pv 0) Hv))))),?_⟩;obtain⟨r,xs,pss,rfl,hS,hp,J,z,q⟩:=h;refine Jo ⟨_,Z,r,xs,pss,Z,hS,hp,J,z,λw Hw ws sw hw ew W=>⟨w,Z,⟨_,yw ew⟩,?_⟩⟩
 have ad:ws.length<=200:=by
  have h1:=Jd pss λps hp=>by have:=J ps hp;lia
  rw[W.length];lia
 refine Nj (xs:=ws) (L2 Hw pss λHw pss i zs H'=>H'=Hw/\zs.length=i/\Io Hw zs (((HI pss).take i).map Li.x)) ⟨Z,Z,.nil⟩ (λi zs H' _ h=>⟨by rw[h.1];exact yw ew,h.2.1⟩) (pR (HX Yl)) ?_ ?_
 ·rintro i v zs H' hv ⟨rfl,aa,Y⟩;obtain⟨t,ht,a,rx,rn,rfl,ha,hx,_⟩:=(yB W hv);have hx:Nq H' (.ref rx) t.x:=⟨_,Z,hx⟩;refine⟨_,Z,a,_,_,_,Z,Z,ha,Z,Z,by simp[aa],?_⟩
  rw[sC,ht,sD];exact Paired.snoc Y hx
 rintro zs H' ⟨rfl,aa,Y⟩ p O;rw[W.length,va]at Y;exact q p _ zs (sw.trans (yA O)) (sw.free O) Hu (yJ Y (yA O))
theorem LU:HJ ["points","slopes","point"] ["points"] (HD (top 57)):=fsc
theorem SE(F:Fun K "slopes_in" "slopes_in" (top 57) f fd)(kq:mg "len" = none)(hT:yL P) :
 HV P w K mg base CX0 33 f fd yN (PX K):=by
 refine okA F LU λay A outer s H vs Q E hr h=>?_
 refine⟨_,(HC K (HF (i:=1) LU Y2)
  (HC K (IP (K:=K) PassesOwn.never rfl (piT K (pv 0)) (HM (i:=2) LU.nd rfl (Or.inl rfl)) (HA (Ig K (HK Jk (HU K kq (pv 2)) Hv) (HA (ZD hr.units1 (pv 1) (HE (ixT K) (pv 2) Hv) (HE (ixT K) (pv 2) Hv) rfl)) HL)) Yr)
  (HA (HH (pv 1))))),?_⟩
 obtain⟨r,xs,pss,rfl,hS,hp,aq,ax,aw,q⟩:=h;have an:=hp.length;refine λd hd=>?_;refine⟨_,Z,r,Z,⟨_,SqT.same hS (yA hd)⟩,NZ (xs:=xs) (L5 H r d K pss λH r d K pss i σ H'=>Hy H H'/\∃kvs z2,σ=[some (.ref r),some (.ref d),z2]/\H' d=some (.dT kvs)/\kvs.length<=i/\SlD K H kvs (pss.take i)) ⟨yA hd,[],none,Z,Hu,qd _,(λ_ h=>nomatch h)⟩ (λi σ H' _ h=>hS.same h.1) ?_ ?_⟩
 ·rintro i v σ H' hv ak;refine Jh ak λsm ac=>?_;refine Kg ac λkvs z2 O=>?_;clear ac;refine Le O λaj ed ap Y=>?_;clear O;obtain rfl:=aj
  try clear ak
  have hi:i<xs.length:=(pY.mp hv).1;obtain⟨ps,ae,a,us,p,rfl,af,ai,am,ao⟩:=(yB hp hv);have az:=aq ps (qU ae);have ar:=ai.length;have e:pss.take (i+1)=pss.take i++[ps]:=by rw[sC,ae];rfl
  refine⟨_,Z,a,us,Z,.inr (af.same sm),Z,_,Z,?_⟩;by_cases h3:ps.length=3
  ·refine IT (by rw[decide_eq_true (by rw[ar,h3];rfl:V.int (us.length:Int)=V.int 3)]<;>rfl) ?_
   have g2:=getD_some (l:=ps) (i:=2) Yl;obtain⟨x2,au,as⟩:=(yC ai g2);refine⟨_,Z,a,us,_,x2,Z,Z,af.same sm,HQ (j:=2) au,_,Z,_,Z,a,us,_,.ref p,Z,Z,af.same sm,HQ (j:=0) am,d,_,Z,Zh.t (k:=kQ (ps.getD 0 0)) ed (sm _ _ ao) (pF (by lia:kvs.length<300) Yd),?_⟩
   refine⟨sm.put hd,NK kvs (kQ (ps.getD 0 0)) x2,_,Z,Hu,pQ (MJ _ _ _) Yl,?_⟩;rw[e];intro aa ag W;rw[Xj]
   rcases pW.mp ag with z | z
   ·have av:=ZN aw ae aa z;rw[if_neg (λz=>av (YE z))];exact Y aa z W
   ·rw[sU.mp z,if_pos rfl];exact⟨x2,Z,as⟩
  ·refine Ii (by rw[decide_eq_false (show ¬V.int (us.length:Int)=V.int 3 from λz=>h3 (by have:=V.int.inj z;lia))]<;>rfl) ⟨sm,kvs,_,Z,ed,Yl,?_⟩
   rw[e];intro aa ag W
   rcases pW.mp ag with z | z
   ·exact Y aa z W
   ·rw[sU.mp z]at W;exact absurd W h3
 ·rintro σ H' al;refine Jh al λsm ad=>?_;refine Kg ad λkvs z2 J=>?_;clear ad;refine Le J λah ed ap Y=>?_;clear J;obtain rfl:=ah
  try clear al
  rw[an,va]at Y;exact⟨_,Z,q d H' kvs sm hd ed (Y.same sm)⟩
theorem LZ:HJ ["points","row","point"] ["points"] (HD (top 56)):=fsc
theorem SK(F:Fun K "first_row" "first_row" (top 56) f fd)(kq:mg "len" = none)(hT:yL P) :
 HV P w K mg base CX0 33 f fd yN (UL K):=by
 refine okA F LZ λav A outer s H vs Q E hr h=>?_
 refine⟨_,(HC K (HF (i:=1) LZ (IJ HB))
  (HC K (IP (K:=K) PassesOwn.never rfl (piT K (pv 0)) (HM (i:=2) LZ.nd rfl (Or.inl rfl)) (HA (JS (J0 K PySem.F.plainAttrs_list PySem.F.slot_list_extend PySem.F.type_list_extend WT (pv 1) (H9 (HG Ot (IJ (H9 (HE (ixT K) (pv 2) Hv) HB)) (HG Jf (HU K kq (pv 2)) Hv)) HB)))) Yr)
  (HA (HH (pv 1))))),?_⟩
 obtain⟨r,xs,pss,rfl,hS,hp,ai,as,q⟩:=h;have P0:0<=io:=by decide
 have P1:1<=io:=by decide
 have ao:=hp.length;refine⟨P0,λp ac=>?_⟩;refine⟨_,Z,r,Z,⟨_,SqT.same hS (yA ac)⟩,NZ (xs:=xs) (L5 H r p K pss λH r p K pss i σ H'=>Hy H H'/\∃ys z2,σ=[some (.ref r),some (.ref p),z2]/\H' p=some (.lst ys)/\HR K H' ys (Kx (pss.take i))) ⟨yA ac,[],none,Z,Hu,.nil⟩ (λi σ H' _ h=>hS.same h.1) ?_ ?_⟩
 ·rintro i v σ H' hv al;refine Jh al λsm aa=>?_;refine Kg aa λys z2 Y=>?_;clear aa;refine Mg Y λae ep J=>?_;clear Y;obtain rfl:=ae
  try clear al
  obtain⟨ps,ag,a,us,pp,rfl,ah,aj,au,aw⟩:=(yB hp hv);have an:=ai ps (qU ag);have ak:=aj.length;have e:pss.take (i+1)=pss.take i++[ps]:=by rw[sC,ag];rfl
  have g1:=getD_some (l:=ps) (i:=1) Yl;obtain⟨x1,ap,aq⟩:=(yC aj g1)
  have ar:ys.length<=200:=by
   have h1:=Jd (pss.take i) (ai.take i);rw[qN]at h1;rw[J.length,MB];lia
  refine⟨_,Z,.inl ⟨Z,_,yw ep⟩,_,Z,a,us,_,x1,Z,Z,ah.same sm,HQ (j:=1) ap,P1,λl hl=>?_⟩;have s1:Hy H' (upd H' l (.lst [x1])):=yA hl;refine⟨_,Z,a,us,Z,.inr ((ah.same sm).same s1),_,_,Z,Z,l,_,[x1],Z,Z,Hu,Yl,Yl,?_,λm hm=>?_⟩
  ·have z:(((us.length:Nat):Int)-1).toNat<=2:=ZO ak an;exact pQ (uP (qd _) z) (by show 2<=io;decide)
  have s2:=s1.trans (yA (o:=.lst (qK (((us.length:Nat):Int)-1).toNat [x1]).flatten) hm);have en:(((us.length:Nat):Int)-1).toNat=ps.length-1:=MH ak;have ad:=s2 _ _ ep;refine⟨p,m,ys,_,Z,Z,ad,Hu,?_,?_⟩
  ·rw[W5,en];exact pQ (show ys.length+(ps.length-1)*1<=300 from ZQ ar an) Yd
  refine⟨(sm.trans s2).put ac,_,_,Z,Hu,?_⟩;rw[e,WC,en];have hr:HR K (upd (upd H' l (.lst [x1])) m (.lst (qK (((us.length:Nat):Int)-1).toNat [x1]).flatten)) (qK (ps.length-1) [x1]).flatten (qK (ps.length-1) (ps.getD 1 0)):=LJ ((aq.same sm).same s2) _;rw[en]at hr ad s2;exact yE (HR.put (yG J s2) ad) (HR.put hr ad)
 ·rintro σ H' am;refine Jh am λsm O=>?_;refine Kg O λys z2 W=>?_;clear O;refine Mg W λaf ep J=>?_;clear W;obtain rfl:=af
  try clear am
  rw[ao,va]at J;exact⟨_,Z,q p H' ys sm ac ep J⟩
theorem Zv:HJ yU ["a","b"] (HD (top 20)):=fsc
theorem ZK(F:Fun K "over" "over" (top 20) f fd)(kL:Fd P w K mg base 34 "number_of" y3 (Ll))(hT:yL P) :
 HV P w K mg base CX0 35 f fd yU (UN K):=by
 refine okA F Zv λaa A outer s H vs Q E hr h=>?_;refine⟨_,(HA (HH (HS kL hr (HG Iq (HE (ixT K) (pv 0) Hv) (HE (ixT K) (pv 1) Hv)) (HG Iq (HE (ixT K) (pv 0) Hv) (HE (ixT K) (pv 1) Hv))))),?_⟩;obtain⟨x,y,p,q,m,n,rfl,⟨r,rfl,Y⟩,⟨u,rfl,hu⟩,J,W,O,ac,k⟩:=h;have hn:q.num≠0:=λz=>J (uK.mp z);refine⟨_,Z,r,_,_,_,Z,Z,Y,Z,_,Z,u,_,_,_,Z,Z,hu,Z,_,_,Z,Z,yH W.1 O.2,?_⟩;refine⟨_,Z,r,_,_,_,Z,Z,Y,Z,_,Z,u,_,_,_,Z,Z,hu,Z,_,_,Z,Z,yH W.2 O.1,?_⟩;refine⟨_,_,Z,rZ (Nm.den_ne p) hn,λz hz=>?_⟩;have e:=k z hz;rw[<- VW p q J]at e;exact e
theorem XJ:HJ yU ["a","b"] (HD (top 18)):=fsc
theorem Ye(F:Fun K "minus" "minus" (top 18) f fd)(kL:Fd P w K mg base 34 "number_of" y3 (Ll))(hT:yL P) :
 HV P w K mg base CX0 35 f fd yU (Mi K (· - ·)):=by
 refine okA F XJ λaa A outer s H vs Q E Y h=>?_;refine⟨_,(HA (HH (HS kL Y (HG Jf (HG Iq (HE (ixT K) (pv 0) Hv) (HE (ixT K) (pv 1) Hv)) (HG Iq (HE (ixT K) (pv 1) Hv) (HE (ixT K) (pv 0) Hv))) (HG Iq (HE (ixT K) (pv 0) Hv) (HE (ixT K) (pv 1) Hv))))),?_⟩;obtain⟨x,y,p,q,m,n,rfl,⟨r,rfl,Y⟩,⟨u,rfl,J⟩,W,O,ac,k⟩:=h;refine⟨_,Z,r,_,_,_,Z,Z,Y,Z,_,Z,u,_,_,_,Z,Z,J,Z,_,_,Z,Z,yH W.1 O.2,_,Z,u,_,_,_,Z,Z,J,Z,_,Z,r,_,_,_,Z,Z,Y,Z,_,_,Z,Z,yH O.1 W.2,_,_,Z,Z,?_⟩;refine⟨_,Z,r,_,_,_,Z,Z,Y,Z,_,Z,u,_,_,_,Z,Z,J,Z,_,_,Z,Z,yH W.2 O.2,?_⟩;refine⟨_,_,Z,rZ (Nm.den_ne p) (Nm.den_ne q),λz hz=>?_⟩;have e:=k z hz
 try dsimp only at e
 rw[<- Nm.minus_eq]at e;exact e
theorem Mx:HJ ["ahead","knots","slopes","k","row","j"] ["ahead","knots","slopes","k"] (HD (top 58)):=fsc
theorem U4(F:Fun K "next_row" "next_row" (top 58) f fd)(ae:Fd P w K mg base 35 "over" yU (UN K))(mU:Fd P w K mg base 35 "minus" yU (Mi K (· - ·)))(ku:mg "range" = none)(kq:mg "len" = none)(hT:yL P) :
 HV P w K mg base CX0 36 f fd ["ahead","knots","slopes","k"] (Oe K):=by
 refine okA F Mx λaM A outer s H vs Q E hr h=>?_
 refine⟨_,(HC K (HF (i:=4) Mx (IJ HB))
  (HC K (IP (K:=K) PassesOwn.never rfl (J2 rfl ku (H9 (HG Jf (HU K kq (pv 1)) (pv 3)) HB)) (HM (i:=5) Mx.nd rfl (Or.inl rfl)) (HA (Ig K (HK (eqD K hr.units) (HE (ixL K) (pv 1) (HG Iu (pv 5) (pv 3))) (HE (ixL K) (pv 1) (pv 5))) (HA (JS (J0 K PySem.F.plainAttrs_list PySem.F.slot_list_append PySem.F.type_list_append JT (pv 4) (H9 (ZI hr.units1 (pv 2) (HE (ixL K) (pv 1) (pv 5)) (λu v=>rfl)) HB)))) (HA (JS (J0 K PySem.F.plainAttrs_list PySem.F.slot_list_append PySem.F.type_list_append JT (pv 4) (H9 (HS ae hr (HS mU hr (HE (ixL K) (pv 0) (HG Iu (pv 5) Hv)) (HE (ixL K) (pv 0) (pv 5))) (HS mU hr (HE (ixL K) (pv 1) (HG Iu (pv 5) (pv 3))) (HE (ixL K) (pv 1) (pv 5)))) HB)))))) Yr)
  (HA (HH (pv 4))))),?_⟩
 obtain⟨ra,rk,d,as,ks,A,kn,kvs,sl,k,m,n,rfl,hA,aj,hK,am,hd,aD,h1,aL,aJ,aH,aq,ar,hm,hn,q⟩:=h;have P0:0<=io:=by decide
 have aK:=aj.length;have aI:=am.length;refine⟨P0,λp af=>?_⟩;have s0:Hy H (upd H p (.lst [])):=yA af;refine⟨_,Z,rk,ks,Z,.inl (yz s0 hK),_,Z,_,_,Z,Z,_,Z,Yl,Yl,?_⟩;rw[show(((ks.length:Nat):Int)-(k:Int)).toNat=kn.length-k by lia]
 refine Jv (n:=kn.length-k) (L10 H ra rk d k p K A kn sl λH ra rk d k p K A kn sl i σ H'=>Hy H H'/\∃zs z5,σ=[some (.ref ra),some (.ref rk),some (.ref d),some (.int (k:Int)),some (.ref p),z5]/\H' p=some (.lst zs)/\zs.length=i/\HR K H' zs ((L0 A kn sl k).take i)) ⟨s0,[],none,Z,Hu,Z,.nil⟩ ?_ ?_
 ·rintro j σ H' hj ap;refine Jh ap λO ad=>?_;refine Kg ad λzs z5 Y=>?_;clear ad;refine Le Y λal ep ai aa=>?_;clear Y;obtain rfl:=al
  try clear ap
  have gk:=getD_some (l:=kn) (i:=j+k) Yl;have g0:=getD_some (l:=kn) (i:=j) Yl;have ga:=getD_some (l:=A) (i:=j+1) Yl;have gb:=getD_some (l:=A) (i:=j) Yl;obtain⟨xk,aA,ak,rfl,aG⟩:=(yC am gk);obtain⟨x0,aC,a0,rfl,au⟩:=(yC am g0);obtain⟨xa,aF,ax⟩:=(yC aj ga);obtain⟨xb,ay,aw⟩:=(yC aj gb);have ek:atI ks (0+(j:Int)+(k:Int))=some (.ref ak):=by rw[show 0+(j:Int)+(k:Int)=((j+k:Nat):Int) by lia];exact HQ aA
  have e0:atI ks (0+(j:Int))=some (.ref a0):=by rw[show 0+(j:Int)=((j:Nat):Int) by lia];exact HQ aC
  have ea:atI as (0+(j:Int)+1)=some xa:=by rw[show 0+(j:Int)+1=((j+1:Nat):Int) by lia];exact HQ aF
  have eb:atI as (0+(j:Int))=some xb:=by rw[show 0+(j:Int)=((j:Nat):Int) by lia];exact HQ ay
  have J:=yz O hK;have ao:=yz O hA;have nk:HP K H' (.ref ak) (kn.getD (j+k) 0):=yF (O _ _ aG);have n0:HP K H' (.ref a0) (kn.getD j 0):=yF (O _ _ au);have aB:j<(L0 A kn sl k).length:=by rw[M6];exact hj
  have et:(L0 A kn sl k).take (j+1)=(L0 A kn sl k).take j++[(L0 A kn sl k).getD j 0]:=by rw[sC,getD_some aB];rfl
  have an:zs.length<io:=pF (by lia:zs.length<300) Yd
  refine⟨_,Z,_,Z,_,Z,_,_,Z,Z,rk,ks,_,_,Z,Z,J,ek,_,Z,_,Z,rk,ks,_,_,Z,Z,J,e0,?_⟩;refine eqN nk n0 ?_;refine⟨_,Z,?_⟩;by_cases he:kn.getD (j+k) 0=kn.getD j 0
  ·refine IT (by rw[decide_eq_true he]<;>rfl) ?_
   obtain⟨v,hv,aE⟩:=(aD j Yl he);refine⟨_,Z,.inl ⟨Z,_,yw ep⟩,_,Z,_,Z,_,Z,rk,ks,_,_,Z,Z,J,e0,d,v,Z,?_,?_⟩
   ·rw[<- hv];exact Xe.t (k:=kQ (kn.getD j 0)) (O _ _ hd) (O _ _ au)
   refine⟨p,zs,v,Z,Z,ep,an,O.put af,_,_,Z,Hu,by simp[ai],?_⟩
   rw[et,M7 hj,if_pos he];exact Paired.snoc (HR.put aa ep) ((aE.same O).put ep)
  ·refine Ii (by rw[decide_eq_false he]<;>rfl) ?_
   have ba:=aq _ (IU (l:=A) (i:=j+1) Yl);have bb:=aq _ (IU (l:=A) (i:=j) Yl);have bk:=ar _ (IU (l:=kn) (i:=j+k) Yl);have b0:=ar _ (IU (l:=kn) (i:=j) Yl);refine⟨_,Z,.inl ⟨Z,_,yw ep⟩,_,Z,_,Z,_,_,Z,Z,ra,as,_,_,Z,Z,ao,ea,_,Z,_,Z,ra,as,_,_,Z,Z,ao,eb,_,_,_,_,m,m,Z,ax.same O,aw.same O,ba,bb,Yl,λt ht=>?_⟩;have s1:Hy H' (upd H' t (nT (A.getD (j+1) 0-A.getD j 0))):=yA ht;refine⟨_,Z,_,Z,_,Z,_,_,Z,Z,rk,ks,_,_,Z,Z,yz s1 J,ek,_,Z,_,Z,rk,ks,_,_,Z,Z,yz s1 J,e0,_,_,_,_,n,n,Z,nk.same s1,n0.same s1,bk,b0,Yl,λu hu=>?_⟩;have s2:=s1.trans (yA (o:=nT (kn.getD (j+k) 0-kn.getD j 0)) hu);refine⟨_,_,_,_,m+m+1,n+n+1,Z,yF ((yA hu) _ _ Hu),yF Hu,(λz=>he (by grind)),ba.minus bb,bk.minus b0,Yl,λr az=>?_⟩
   have s3:=s2.trans (yA (o:=nT ((A.getD (j+1) 0-A.getD j 0) / (kn.getD (j+k) 0-kn.getD j 0))) az);have ah:=s3 _ _ ep;refine⟨p,zs,.ref r,Z,Z,ah,an,(O.trans s3).put af,_,_,Z,Hu,by simp[ai],?_⟩
   rw[et,M7 hj,if_neg he];exact Paired.snoc (HR.put (yG aa s3) ah) ((yF Hu).put ah)
 ·rintro σ H' av;refine Jh av λO ac=>?_;refine Kg ac λzs z5 W=>?_;clear ac;refine Le W λag ep ai aa=>?_;clear W;obtain rfl:=ag
  try clear av
  rw[tX (by rw[M6];exact qd _)]at aa
  exact⟨_,Z,q p H' zs O af ep aa⟩
theorem Kq:HJ ["points","knots","slopes","table","k"] ["points"] (HD (top 59)):=fsc
theorem TZ(F:Fun K "table_of" "table_of" (top 59) f fd)(lW:Fd P w K mg base 34 "knots_of" yN (NC K))(nK:Fd P w K mg base 33 "slopes_in" yN (PX K))(nL:Fd P w K mg base 33 "first_row" yN (UL K))(nM:Fd P w K mg base 36 "next_row" ["ahead","knots","slopes","k"] (Oe K))(ku:mg "range" = none)(kq:mg "len" = none)(hT:yL P) :
 HV P w K mg base CX0 37 f fd yN (S8 K):=by
 refine okA F Kq λaH A outer s H vs Q E hr h=>?_
 refine⟨_,(HC K (HF (i:=1) Kq (Ic lW hr (pv 0)))
  (HC K (HF (i:=2) Kq (Ic nK hr (pv 0)))
  (HC K (HF (i:=3) Kq (IJ HB))
  (HC K (IP (K:=K) PassesOwn.never rfl (J2 rfl ku (H9 (HU K kq (pv 1)) HB)) (HM (i:=4) Kq.nd rfl (Or.inl rfl)) (HA (JS (J0 K PySem.F.plainAttrs_list PySem.F.slot_list_append PySem.F.type_list_append JT (pv 3) (H9 (NM (HK Jk (pv 4) Hv) (Ic nL hr (pv 0)) (Ln nM hr rfl (H9 (HE (ixL K) (pv 3) (HG Jf (pv 4) Hv)) (H9 (pv 1) (H9 (pv 2) (H9 (pv 4) HB)))))) HB)))) Yr)
  (HA (HH (pv 3))))))),?_⟩
 obtain⟨r,xs,pss,hh,n,rfl,hS,hp,ae,ag,ak,aF,hb,aw,aD,ao,q⟩:=h;have P0:0<=io:=by decide
 refine⟨_,Z,r,xs,pss,Z,hS,hp,ae,ag,λw Hw ws sw hw ew au=>?_⟩;refine⟨_,Z,r,xs,pss,Z,hS.same sw,yK hp sw,ae,ag,ak,λd Hd kvs sd hd ed aA=>?_⟩;refine⟨P0,λp ah=>?_⟩;have s0:Hy Hd (upd Hd p (.lst [])):=yA ah;have sH:Hy H Hd:=sw.trans sd;have aE:H p=none:=sH.free ah;have aJ:ws.length=(HI pss).length:=by rw[au.length,qz]
 have aq:=sd _ _ ew;have aB:Io Hd ws (kn pss):=yJ au sd;refine⟨_,Z,w,ws,Z,.inl (yw (s0 _ _ aq)),_,Z,Yl,Yl,?_⟩;rw[show((ws.length:Nat):Int).toNat=(HI pss).length by lia]
 refine Jv (n:=(HI pss).length) (L8 Hd r w d p K H pss λHd r w d p K H pss i σ H'=>Hy Hd H'/\∃ys z,σ=[some (.ref r),some (.ref w),some (.ref d),some (.ref p),z]/\H' p=some (.lst ys)/\Paired (FR K H p H') ys ((pK i).map (tab pss))) ⟨s0,[],none,Z,Hu,.nil⟩ ?_ ?_
 ·rintro i σ H' hi ar;refine Jh ar λsm aa=>?_;refine Kg aa λys z O=>?_;clear aa;refine Mg O λal ep Y=>?_;clear O;obtain rfl:=al
  try clear ar
  have am:ys.length=i:=by rw[Y.length,qz,ud]
  have aj:=sH.trans sm;have an:ys.length<io:=pF (by lia:ys.length<300) Yd
  have er:(pK (i+1)).map (tab pss)=(pK i).map (tab pss)++[tab pss i]:=by rw[tQ,sD];rfl
  have af:∀(l:ge) (H3:Hp) (zs:yt),Hy H' H3->H' l=none->H3 l=some (.lst zs)->HR K H3 zs (tab pss i)->Hy Hd (upd H3 p (.lst (ys++[.ref l])))/\∃ap z,[some (V.ref r),some (.ref w),some (.ref d),some (.ref p),some (.int (0+(i:Int)))]=[some (.ref r),some (.ref w),some (.ref d),some (.ref p),z]/\(upd H3 p (.lst (ys++[.ref l]))) p=some (.lst ap)/\Paired (FR K H p (upd H3 p (.lst (ys++[.ref l])))) ap ((pK (i+1)).map (tab pss)):=λl H3 zs s3 hl el hn=>by
   have av:=s3 _ _ ep;have lp:l≠p:=(HW ep hl).symm;refine⟨(sm.trans s3).put ah,_,_,Z,Hu,?_⟩;rw[er];exact Paired.snoc (yu Y λ_ _ z=>(z.same s3).put av) (FR.put ⟨l,zs,Z,lp,aj.free hl,el,hn⟩ av)
  refine⟨_,Z,.inl ⟨Z,_,yw ep⟩,_,Z,Z,_,Z,?_⟩
  match i,hi,af,Y,am with
  | 0,hi,af,Y,am =>
    refine Kv ?_;refine⟨_,Z,r,xs,pss,Z,hS.same aj,yK hp aj,ae,ag,λl H3 zs s3 hl el hn=>?_⟩;exact⟨p,ys,.ref l,Z,Z,s3 _ _ ep,an,af l H3 zs s3 hl el hn⟩
  | i+1,hi,af,Y,am =>
    refine Ii (by rw[decide_eq_false (show ¬V.int (0+((i+1:Nat):Int))=V.int 0 from λz=>by have:=V.int.inj z;lia)]<;>rfl) ?_
    obtain⟨xv,ax,a,zs,rfl,aG,aI,ha,ay⟩:=(yC Y (Vk (tab pss) i));have ea:atI ys (0+((i+1:Nat):Int)-1)=some (.ref a):=by rw[show 0+((i+1:Nat):Int)-1=((i:Nat):Int) by lia];exact HQ ax
    have aK:=iE ao (by lia:i<=10)
    refine⟨_,Z,_,Z,_,_,Z,Z,p,ys,_,_,Z,Z,yw ep,ea,_,Z,_,Z,_,Z,a,w,d,zs,ws,tab pss i,kn pss,kvs,TC pss,i+1,bnd hh n i,n,by rw[Int.zero_add];rfl,yw ha,ay,yw (sm _ _ aq),yJ aB sm,sm _ _ ed,?_,Yl,by rw[J8];lia,by rw[KS _ _ Yl,J8];lia,by rw[J8];lia,Xq ae aD hb aw i Yl,Ui aw,Yl,Yl,λl H3 az s3 hl el hn=>?_⟩
    ·intro j hj he;rw[J8]at hj;refine Jh (QE ae ak Yl hj he) λ_ ad=>?_;refine Vp ad λps J=>?_;clear ad;refine Le J λh1 h2 h3 _=>?_;clear J;obtain⟨v,hv,aC⟩:=(aA ps h1 h2);have e4:=Sf ak h1 h2;rw[h3]at hv e4;rw[e4];exact⟨v,hv,aC.same sm⟩
    ·exact⟨p,ys,.ref l,Z,Z,s3 _ _ ep,an,af l H3 az s3 hl el hn⟩
 ·rintro σ H' as;refine Jh as λsm ac=>?_;refine Kg ac λys z W=>?_;clear ac;refine Mg W λai ep Y=>?_;clear W;obtain rfl:=ai
  try clear as
  exact⟨_,Z,q p H' ys (sH.trans sm) aE ep Y⟩
theorem OV:HJ yN ["points"] (HD (top 60)):=fsc
theorem U0(F:Fun K "steps_of" "steps_of" (top 60) f fd)(nN:Fd P w K mg base 37 "table_of" yN (S8 K))(hT:yL P) :
 HV P w K mg base CX0 38 f fd yN (Po K):=by
 refine okA F OV λao A outer s H vs Q E hr h=>?_;refine⟨_,(HA (HH (Jj rfl (N:=["row"]) (nt:=1) (js:=[]) (J7 OV) (piL K (Ic nN hr (pv 0))) (λ_ _ _ _ _=>(HM (i:=0) (nd1 _) rfl (Or.inl rfl))) (HY Yd) (λ_ _ _ _ _=>Iv) (λ_ _ _ _ _=>(HE (ixL K) (pv 0) Hv))))),?_⟩;obtain⟨r,xs,pss,hh,n,rfl,hS,hp,ah,z,aj,ae,hb,al,ak,J,q⟩:=h;refine Jo ⟨_,Z,r,xs,pss,hh,n,Z,hS,hp,ah,z,aj,ae,hb,al,ak,J,λw Hw ws sw hw ew aa=>⟨w,Z,⟨_,yw ew⟩,?_⟩⟩;have am:ws.length=(HI pss).length:=by rw[aa.length,qz,ud]
 refine Nj (xs:=ws) (L3 Hw K pss λHw K pss i zs H'=>H'=Hw/\zs.length=i/\HR K Hw zs ((Iy pss).take i)) ⟨Z,Z,.nil⟩ (λi zs H' _ h=>⟨by rw[h.1];exact yw ew,h.2.1⟩) (pR (HX Yl)) ?_ ?_
 ·rintro i v zs H' hv ⟨rfl,ac,Y⟩;have hi:i<ws.length:=(pY.mp hv).1;obtain⟨rs,O,a,us,rfl,an,ap,ha,ag⟩:=(yB aa hv)
  have ai:rs=tab pss i:=by
   rw[qR,tS Yl]at O;exact(pC.inj O).symm
  subst ai;have hl:=KS pss i Yl;obtain⟨x0,af,ad⟩:=(yC ag (getD_some (l:=tab pss i) (i:=0) Yl));refine⟨_,Z,a,us,_,x0,Z,Z,yw ha,HQ (j:=0) af,Z,by simp[ac],?_⟩
  have e:(Iy pss).take (i+1)=(Iy pss).take i++[(tab pss i).getD 0 0]:=by
   rw[sC]
   congr 1
   unfold Iy;rw[qR,tS Yl];rfl
  rw[e];exact Paired.snoc Y ad
 rintro zs H' ⟨rfl,ac,Y⟩ p W;rw[am,<- Kc,va]at Y;exact q p _ zs (sw.trans (yA W)) (sw.free W) Hu (yG Y (yA W))
theorem Ol:HJ yN ["points"] (HD (top 62)):=fsc
theorem Ox(F:Fun K "curve_through" "curve_through" (top 62) f fd)(nO:Fd P w K mg base 36 "by_steps" ["knots","steps"] (Oh K))(lW:Fd P w K mg base 34 "knots_of" yN (NC K))(lX:Fd P w K mg base 38 "steps_of" yN (Po K))(hT:yL P) :
 HV P w K mg base CX0 39 f fd yN (Nz K):=by
 refine okA F Ol λan A outer s H vs Q E hr h=>?_;refine⟨_,(HA (HH (HS nO hr (Ic lW hr (pv 0)) (Ic lX hr (pv 0))))),?_⟩;obtain⟨r,xs,pss,hh,n,m,rfl,hS,hp,W,Y,ak,aa,hb,z,al,O,ai,ad,hm,q⟩:=h;refine⟨_,Z,r,xs,pss,Z,hS,hp,W,Y,λw Hw ws sw hw ew aj=>?_⟩;refine⟨_,Z,r,xs,pss,hh,n,Z,hS.same sw,yK hp sw,W,Y,ak,aa,hb,z,al,O,λt Ht zs st ht et ac=>?_⟩;have ae:=J8 pss;refine⟨w,t,ws,zs,kn pss,Iy pss,m,Z,yw (st _ _ ew),(yJ aj st).nums,yw et,ac,by rw[Kc];exact ae,Yl,λc J=>(Ui z c J).mono ad,ai,Yl,λp Hp cs ag J am hg af ah=>?_⟩
 have ao:m*(kn pss).length<=m*12:=uH _ Yl;exact q p Hp cs ((sw.trans st).trans ag) J Yl hg (λc J=>(af c J).mono Yl) ah
theorem Sj:HJ yM ["points","numbers"] (HD (top 115)):=fsc
theorem SM(F:Fun K "curve_row" "curve_row" (top 115) f fd)(nP:Fd P w K mg base 35 "show_curve" ["curve"] (PY K))(l9:Fd P w K mg base 39 "curve_through" yN (Nz K))(hT:yL P) :
 HV P w K mg base CX0 40 f fd yM (IZ K 5):=by
 refine okA F Sj λaa A outer s H vs Q E J h=>?_;refine⟨_,(HA (HH (Ic nP J (Ic l9 J (pv 0))))),?_⟩;obtain⟨r,l,xs,ys,pss,qs,rfl,Y,O,hS,hn,hf,h1,h2,q⟩:=h;have g:=Y.len;have z:=Y.h12;refine⟨_,Z,r,xs,pss,20,7,1155,Z,Y.S,Y.P,Y.h23,Yl,Y.nd,Y.h12,λps hp q hq=>IK (O.fg ps hp q hq),O.pl,Yd,Yd,O.srb Y.h23,Yd,Yd,λp H1 cs s1 hc hl hg hb W=>?_⟩;exact⟨p,cs,Z,hc,O.cfh Y.h23 W,Yl,λH2 s2=>q _ H2 (s1.trans s2) (.curve ⟨hl,hg,W⟩)⟩
theorem Sg:HJ yM ["points","numbers"] (HD (top 116)):=fsc
theorem SD(F:Fun K "steps_row" "steps_row" (top 116) f fd)(lR:Fd P w K mg base 34 "show_numbers" yR (Ko K Iz))(lX:Fd P w K mg base 38 "steps_of" yN (Po K))(hT:yL P) :
 HV P w K mg base CX0 39 f fd yM (IZ K 6):=by
 refine okA F Sg λaa A outer s H vs Q E z h=>?_;refine⟨_,(HA (HH (Ic lR z (Ic lX z (pv 0))))),?_⟩;obtain⟨r,l,xs,ys,pss,qs,rfl,Y,W,hS,J,hf,h1,h2,q⟩:=h;have g:=Y.len;have ac:=Y.h12;refine⟨_,Z,r,xs,pss,20,7,Z,Y.S,Y.P,Y.h23,Yl,Y.nd,Y.h12,λps O q hq=>IK (W.fg ps O q hq),W.pl,Yd,Yd,λp H1 zs s1 O e J=>?_⟩;exact⟨true,p,zs,Iy pss,Z,yw e,J,W.sfh Y.h23,by rw[Kc];lia,λH2 s2=>q _ H2 (s1.trans s2) .steps⟩
theorem Jl:HJ ["tops","x","height","scale","top"] ["tops","x"] (HD (top 28)):=fsc
theorem Ph(F:Fun K "whole_height" "whole_height" (top 28) f fd)(lY:mg "reversed" = none)(hT:yL P) :
 HV P w K mg base CX0 33 f fd ["tops","x"] (gw K):=by
 refine okA F Jl λap A outer s H vs Q E hr h=>?_
 refine⟨_,(HC K (HF (i:=2) Jl Hv)
  (HC K (HF (i:=3) Jl Hv)
  (HC K (IP (K:=K) PassesOwn.never rfl (jg K rfl lY (pv 0)) (HM (i:=4) Jl.nd rfl (Or.inl rfl)) (HC K (HF (i:=2) Jl (HG Iu (HG Iq (pv 2) (HE (ixT K) (pv 1) Hv)) (HG Iq (pv 4) (pv 3))))
  (HA (HF (i:=3) Jl (HG Iq (pv 3) (HE (ixT K) (pv 1) Hv))))) Yr)
  (HA (HH (Ib (H9 (HG Iq (pv 2) (HE (ixT K) (pv 1) Hv)) (H9 (pv 3) HB)))))))),?_⟩
 obtain⟨l,rx,ts,x,m,n,rfl,hS,⟨_,am,hx⟩,hB,aa,hz,q⟩:=h;cases am;have tl:(ts.map V.int).length=ts.length:=qz _
 have ao:m+n*ts.length+4*n+ts.length+4<=100000000:=by
  have e:(n+1)*(ts.length+4)=n*ts.length+4*n+ts.length+4:=by rw[tq,tH];lia
  lia
 have P2:2<=io:=by decide
 refine⟨_,Z,_,Z,l,_,Z,hS,?_⟩
 refine fb (L7 H l rx x ts m n λH l rx x ts m n i σ H'=>H'=H/\∃(h s:Int) (z:Option V),σ=[some (.ref l),some (.ref rx),some (.int h),some (.int s),z]/\s=(x.den:Int) ^ i/\s≠0 /\
  (h:Rat)*((x.den:Int):Rat)=Cv.evI (ts.drop (ts.length-i)) x*(s:Rat)/\Bd (m+n*i+i+2) h/\Bd (n*i+1) s)
  ⟨Z,0,1,none,Z,Z,Yd,?_,?_,?_⟩ (λi σ H' _ p=>by rw[p.1];exact hS) ?_ ?_
 ·rw[tW,u6 (qd _)];show((0:Int):Rat)*_=0*_;rw[Rat.intCast_zero];grind
 ·exact(by unfold Bd;decide:Bd 1 0).mono Yl
 ·exact(by unfold Bd;decide:Bd 1 1).mono Yl
 ·rintro i v σ H' hi hv ak;refine Jh ak λaf ac=>?_;refine Lh ac λh s z W=>?_;clear ac;refine Th W λai es hs0 he J Y=>?_;clear W;obtain rfl:=af;obtain rfl:=ai
  try clear ak
  rw[tl]at hi hv;have hj:ts.length-1-i<ts.length:=by lia
  have ae:ts[ts.length-1-i]? = some ts[ts.length-1-i]:=sV hj;have aj:ts[ts.length-1-i]∈ts:=sW hj;rw[qR,ae]at hv;cases hv;generalize ts[ts.length-1-i]=t at ae aj;have bt:=hB _ aj;have aq:n*i<=n*ts.length:=uH n Yl;have an:n*(i+1)=n*i+n:=by rw[tH,uw]
  refine⟨_,Z,_,Z,rx,_,_,_,Z,Z,hx,Z,_,_,Z,Z,yH J aa.1 Yl,_,Z,_,Z,_,_,Z,Z,yH bt Y Yl,_,_,Z,Z,?_⟩;refine⟨_,Z,_,Z,rx,_,_,_,Z,Z,hx,Z,_,_,Z,Z,yH Y aa.2 Yl,⟨Z,_,_,_,Z,?_,rZ hs0 (Nm.den_ne x),?_,?_,?_⟩⟩
  ·rw[es,Int.pow_succ]
  ·rw[Ta rfl hi ae,Cv.evI_cons,se,si,si,si,Nm.num_mul x]
   grind
  ·have b1:=J.mul aa.1;have b2:=bt.mul Y;exact(Bd.add (b1.mono (n:=m+n*i+i+2+n) Yl) (b2.mono Yl)).mono Yl
  ·exact(Y.mul aa.2).mono Yl
 ·rintro σ H' al;refine Jh al λag ad=>?_;refine Lh ad λh s z O=>?_;clear ad;refine Th O λah es hs0 he J Y=>?_;clear O;obtain rfl:=ag;obtain rfl:=ah
  try clear al
  rw[tl]at es he J Y;rw[tY,tV]at he;refine⟨_,Z,_,Z,rx,_,_,_,Z,Z,hx,Z,_,_,Z,Z,yH J aa.2 Yl,_,Z,P2,λp hp=>?_⟩;exact q _ _ p es hs0 (by rw[si];exact he) ((J.mul aa.2).mono (by rw[tq,tH];lia)) Y hp
theorem LY:HJ ["curve","x","bottom","told"] ["curve","x"] (HD (top 29)):=fsc
theorem SJ(F:Fun K "height_at" "height_at" (top 29) f fd)(lU:Fd P w K mg base 34 "bottom_of" yR (VF K))(nQ:Fd P w K mg base 33 "whole_height" ["tops","x"] (gw K))(kL:Fd P w K mg base 34 "number_of" y3 (Ll))(lV:Fd P w K mg base 33 "tops_over" y8 (S5 K))(hT:yL P) :
 HV P w K mg base CX0 35 f fd ["curve","x"] (Mq K):=by
 refine okA F LY λaj A outer s H vs Q E hr h=>?_
 refine⟨_,(HC K (HF (i:=2) LY (Ic lU hr (pv 0)))
  (HC K (HF (i:=3) LY (HS nQ hr (HS lV hr (pv 0) (pv 2)) (pv 1)))
  (HA (HH (HS kL hr (HE (ixT K) (pv 3) Hv) (HG Iq (pv 2) (HE (ixT K) (pv 3) Hv))))))),?_⟩
 obtain⟨r,rx,qs,x,n,rfl,⟨xs,hS,hn⟩,⟨_,ac,hx⟩,hB,af,hz,W,q⟩:=h;cases ac;have hl:=hn.length;have aa:(qs.length+4)<=(qs.length+4)*(qs.length+4):=Nat.le_mul_of_pos_left _ Yl;have al:(n+1)*(qs.length+4)<=30000000:=pQ (uH _ aa) hz
 have ah:n*qs.length+4*n+qs.length+4<=30000000:=by
  have e:(n+1)*(qs.length+4)=n*qs.length+4*n+qs.length+4:=by rw[tq,tH];lia
  lia
 refine⟨_,Z,false,r,xs,qs,n,Z,hS,hn,(λq hq=>(hB q hq).2),by rw[tH];lia,λB ak ag Y=>?_⟩
 refine⟨_,Z,_,Z,false,r,xs,qs,B,n*qs.length+1,n,Z,hS,hn,Y,(λq hq=>(hB q hq).1),Yl,W,λl O=>?_⟩;have tl:(qs.map (JX B)).length=qs.length:=qz _;have ad:SqT K (upd H l (.lst ((qs.map (JX B)).map V.int))) rx [.int x.num,.int x.den]:=SqT.same hx (yA O)
 have tB:∀t∈qs.map (JX B),Bd (n*qs.length+n+1) t:=λt ht=>by
  obtain⟨c,hc,rfl⟩:=(tR.mp ht);exact((hB c hc).1.mul (Y.fdiv (y:=c.den))).mono Yl
 refine⟨_,Z,l,rx,qs.map (JX B),x,n*qs.length+n+1,n,Z,yw Hu,⟨rx,Z,ad⟩,tB,af,by rw[tl];lia,λh s p es hs0 he ai J hp=>?_⟩
 rw[tl]at J;have ep:SqT K (upd (upd H l (.lst ((qs.map (JX B)).map V.int))) p (.tup [.int h,.int s])) p [.int h,.int s]:=yx Hu;have z:B*s≠0:=rZ Yl hs0;refine⟨_,Z,p,_,_,_,Z,Z,ep,Z,_,Z,_,Z,p,_,_,_,Z,Z,ep,Z,_,_,Z,Z,yH Y J Yl,_,_,Z,z,λu hu=>?_⟩;have ev:=Zl ag x
 have e:rV h (B*s)=Cv.ev qs x:=Nm.div_eq z (by
  have ae:(h:Rat)=Cv.ev ((qs.map (JX B)).map λt:Int=>(t:Rat)) x*(s:Rat):=he;rw[ae,ev,si];grind)
 refine q u _ (((yA O).trans (yA hp)).trans (yA hu)) ?_;rw[<- e];exact Hu
theorem WA:HJ yM ["points","numbers"] (HD (top 117)):=fsc
theorem WN(F:Fun K "at_row" "at_row" (top 117) f fd)(kT:Fd P w K mg base 33 "show_number" ["number"] (JF K))(lh:Fd P w K mg base 35 "height_at" ["curve","x"] (Mq K))(l9:Fd P w K mg base 39 "curve_through" yN (Nz K))(hT:yL P) :
 HV P w K mg base CX0 40 f fd yM (IZ K 7):=by
 refine okA F WA λac A outer s H vs Q E hr h=>?_;refine⟨_,(HA (HH (Ic kT hr (HS lh hr (Ic l9 hr (pv 0)) (HE (ixL K) (pv 1) Hv))))),?_⟩;obtain⟨r,l,xs,ys,pss,qs,rfl,Y,J,hS,hn,hf,h1,h2,q⟩:=h;have W:1<=qs.length:=h1;have hx:Fg (qs.getD 0 0):=hf _ (KO W);have g:=Y.len;have aa:=Y.h12;obtain⟨y,hy,rx,rfl,ex⟩:=(yC hn (getD_some (l:=qs) (i:=0) W));refine⟨_,Z,r,xs,pss,20,7,1155,Z,Y.S,Y.P,Y.h23,Yl,Y.nd,Y.h12,λps hp q hq=>IK (J.fg ps hp q hq),J.pl,Yd,Yd,J.srb Y.h23,Yd,Yd,λp H1 cs z hc hl hg hb O=>?_⟩;have hsz:(cs.length+4)*(cs.length+4)<=16*16:=uP Yl Yl;refine⟨_,Z,l,_,_,_,Z,Z,z.seq hS,HQ (j:=0) hy,p,rx,cs,_,30330,Z,hc,yF (z _ _ ex),hb,(IK hx).mono Yd,Yl,Yl,λp2 H2 s2 e2=>?_⟩;exact⟨_,_,Z,yF e2,J.efh Y.h23 O hl hx,q _ H2 (z.trans s2) (.at_ ⟨hl,hg,O⟩)⟩
theorem XI:HJ yU ["a","b"] (HD (top 19)):=fsc
theorem Yc(F:Fun K "times" "times" (top 19) f fd)(kL:Fd P w K mg base 34 "number_of" y3 (Ll))(hT:yL P) :
 HV P w K mg base CX0 35 f fd yU (Mi K (· * ·)):=by
 refine okA F XI λaa A outer s H vs Q E Y h=>?_;refine⟨_,(HA (HH (HS kL Y (HG Iq (HE (ixT K) (pv 0) Hv) (HE (ixT K) (pv 1) Hv)) (HG Iq (HE (ixT K) (pv 0) Hv) (HE (ixT K) (pv 1) Hv))))),?_⟩;obtain⟨x,y,p,q,m,n,rfl,⟨r,rfl,Y⟩,⟨u,rfl,J⟩,W,O,ac,k⟩:=h;refine⟨_,Z,r,_,_,_,Z,Z,Y,Z,_,Z,u,_,_,_,Z,Z,J,Z,_,_,Z,Z,yH W.1 O.1,?_⟩;refine⟨_,Z,r,_,_,_,Z,Z,Y,Z,_,Z,u,_,_,_,Z,Z,J,Z,_,_,Z,Z,yH W.2 O.2,?_⟩;refine⟨_,_,Z,rZ (Nm.den_ne p) (Nm.den_ne q),λz hz=>?_⟩;have e:=k z hz
 try dsimp only at e
 rw[<- Nm.times_eq]at e;exact e
theorem OW:HJ ["curve"] ["curve"] (HD (top 32)):=fsc
theorem U1(F:Fun K "slope_of" "slope_of" (top 32) f fd)(Y:Fd P w K mg base 35 "times" yU (Mi K (· * ·)))(kr:mg "tuple" = none)(ku:mg "range" = none)(kq:mg "len" = none)(hT:yL P) :
 HV P w K mg base CX0 36 f fd ["curve"] (Pp K):=by
 refine okA F OW λag A outer s H vs Q E hr h=>?_;refine⟨_,(HA (HH (Ij (Ls K) rfl kr Jr (H9 (Jj rfl (N:=["k","curve"]) (nt:=1) (js:=[0]) (J7 OW) (RF rfl ku (H9 Hv (H9 (HU K kq (pv 0)) HB))) (λ_ _ _ _ _=>(HM (i:=0) (show List.Nodup (["k","curve"]:yr) from by decide +kernel) rfl (Or.inl rfl))) (HY Yd) (λ_ _ _ _ _=>Iv) (λ_ _ _ _ _=>(HS Y hr (HE (ixT K) (pv 1) (pv 0)) (Ib (H9 (pv 0) (H9 Hv HB)))))) HB)))),?_⟩
 obtain⟨r,qs,n,rfl,⟨xs,hS,hn⟩,hz,hB,af,q⟩:=h;have hl:=hn.length;have bk:∀k:Nat,k<=1000->RB 11 ((k:Nat):Rat):=λk hk=>⟨by show Bd 11 (((k:Nat):Rat)).num;rw[uS];unfold Bd;lia,by rw[uT];unfold Bd;decide⟩
 refine Jo ⟨_,Z,r,xs,Z,.inr hS,1,(xs.length:Int),Z,⟨Yd,Yd,Yl,Yl⟩,?_⟩;have en:((xs.length:Int)-1).toNat=qs.length-1:=by rw[hl];lia
 rw[en];refine QD (L3 H K qs λH K qs i zs H'=>Hy H H'/\zs.length=i/\HR K H' zs ((pK i).map λj=>qs.getD (j+1) 0*((j+1:Nat):Rat))) ⟨yy _,Z,.nil⟩ (λi zs H' _ p=>p.2.1) (pQ (rA _ _) (pR (HX hz))) ?_ ?_
 ·rintro i zs H' hi ⟨O,aa,W⟩;have z:i+1<qs.length:=by lia
  have hq:qs[i+1]? = some qs[i+1]:=sV z;obtain⟨x,hx,ad⟩:=(yC hn hq)
  have ae:atI xs (1+(i:Int))=some x:=by
   rw[show 1+(i:Int)=((i+1:Nat):Int) by lia]
   exact HQ hx
  refine⟨_,Z,_,Z,r,xs,_,x,Z,Z,SqT.same hS O,ae,_,Z,(by decide:2<=io),λt ht=>?_⟩
  have ac:HP K (upd H' t (.tup [.int (1+(i:Int)),.int 1])) (.ref t) (((i+1:Nat)):Rat):=yF (by
   rw[Hu];unfold nT;rw[uS,uT,show 1+(i:Int)=((i+1:Nat):Int) by lia]
   rfl)
  refine⟨_,_,_,_,n,11,Z,(ad.same O).same (yA ht),ac,hB _ (sW z),bk (i+1) Yl,Yl,λp J=>⟨(O.trans (yA ht)).trans (yA J),by simp[aa],?_⟩⟩
  rw[tQ,sD];refine Paired.snoc (yG (yG W (yA ht)) (yA J)) ?_;have e:qs.getD (i+1) 0=qs[i+1]:=by rw[sO,hq];rfl
  show HP K _ _ (qs.getD (i+1) 0*((i+1:Nat):Rat));rw[e];exact yF Hu
 ·rintro zs H' ⟨O,aa,W⟩ p J;exact⟨p,zs,Z,.inl ⟨yw Hu,λu hu=>q u _ ((O.trans (yA J)).trans (yA hu)) ⟨zs,yx Hu,yG (yG W (yA J)) (yA hu)⟩⟩⟩
theorem Qa:HJ yM ["points","numbers"] (HD (top 118)):=fsc
theorem Qo(F:Fun K "slopeat_row" "slopeat_row" (top 118) f fd)(kT:Fd P w K mg base 33 "show_number" ["number"] (JF K))(lh:Fd P w K mg base 35 "height_at" ["curve","x"] (Mq K))(lZ:Fd P w K mg base 36 "slope_of" ["curve"] (Pp K))(l9:Fd P w K mg base 39 "curve_through" yN (Nz K))(hT:yL P) :
 HV P w K mg base CX0 40 f fd yM (IZ K 8):=by
 refine okA F Qa λac A outer s H vs Q E hr h=>?_;refine⟨_,(HA (HH (Ic kT hr (HS lh hr (Ic lZ hr (Ic l9 hr (pv 0))) (HE (ixL K) (pv 1) Hv))))),?_⟩;obtain⟨r,l,xs,ys,pss,qs,rfl,Y,z,hS,hn,hf,h1,h2,q⟩:=h;have O:1<=qs.length:=h1;have hx:Fg (qs.getD 0 0):=hf _ (KO O);have g:=Y.len;have aa:=Y.h12;obtain⟨y,hy,rx,rfl,ex⟩:=(yC hn (getD_some (l:=qs) (i:=0) O));refine⟨_,Z,r,xs,pss,20,7,1155,Z,Y.S,Y.P,Y.h23,Yl,Y.nd,Y.h12,λps hp q hq=>IK (z.fg ps hp q hq),z.pl,Yd,Yd,z.srb Y.h23,Yd,Yd,λp H1 cs s1 hc hl hg hb J=>?_⟩;refine⟨p,cs,30330,Z,hc,Yl,hb,Yd,λp2 H2 s2 hs=>?_⟩;have W:=s1.trans s2;have ad:=KG cs;have hsz:((IE cs).length+4)*((IE cs).length+4)<=16*16:=uP Yl Yl;refine⟨_,Z,l,_,_,_,Z,Z,W.seq hS,HQ (j:=0) hy,p2,rx,IE cs,_,30341,Z,hs,yF (W _ _ ex),Q8 Yl Yd hb,(IK hx).mono Yd,Yl,Yl,λp3 H3 s3 e3=>?_⟩;exact⟨_,_,Z,yF e3,z.slfh Y.h23 J hl hx,q _ H3 (W.trans s3) (.slope ⟨hl,hg,J⟩)⟩
theorem Oj:HJ ["points","curve","both"] ["points","curve"] (HD (top 54)):=fsc
theorem WL(F:Fun K "missed" "missed" (top 54) f fd)(lZ:Fd P w K mg base 36 "slope_of" ["curve"] (Pp K))(kR:Fd P w K mg base 33 "told_in" yN (MP K))(lh:Fd P w K mg base 35 "height_at" ["curve","x"] (Mq K))(hT:yL P) :
 HV P w K mg base CX0 37 f fd ["points","curve"] (Of K):=by
 refine okA F Oj λaA A outer s H vs Q E hr h=>?_
 refine⟨_,(HC K (HF (i:=2) Oj (Ib (H9 (pv 1) (H9 (Ic lZ hr (pv 1)) HB))))
  (HA (HH (Jj rfl (N:=["x","k","number","both"]) (nt:=3) (js:=[2]) (J7 Oj) (piL K (Ic kR hr (pv 0))) (λ_ _ _ _ _=>(pgT K (n:=3) rfl (IL (HM (i:=0) (show List.Nodup (["x","k","number","both"]:yr) from by decide +kernel) rfl (Or.inl rfl)) (IL (HM (i:=1) (show List.Nodup (["x","k","number","both"]:yr) from by decide +kernel) rfl (Or.inl rfl)) (IL (HM (i:=2) (show List.Nodup (["x","k","number","both"]:yr) from by decide +kernel) rfl (Or.inl rfl)) KL))))) (LF (IY Yd (IY Yd (IY Yd KU)))) (λ_ _ _ _ _=>Pw (HK (neD K hr.units) (HS lh hr (HE (ixT K) (pv 3) (pv 1)) (pv 0)) (pv 2))) (λ_ _ _ _ _=>(Ib (H9 (pv 0) (H9 (pv 1) HB)))))))),?_⟩
 obtain⟨r,c,xs,pss,cs,n,rfl,hS,hp,aa,aw,hc,ay,am,ad,aj,ak,q⟩:=h;have ax:(n+12)*16<=30000000:=pQ (uH _ (uP (by lia:4<=cs.length+4) (by lia:4<=cs.length+4))) aj
 have P2:2<=io:=by decide
 refine⟨_,Z,_,Z,c,cs,n,Z,hc,Yl,ad,Yl,λsl H1 s1 ap=>⟨P2,λb hb=>?_⟩⟩;have s2:Hy H (upd H1 b (.tup [.ref c,.ref sl])):=s1.trans (yA hb);have eb:SqT K (upd H1 b (.tup [.ref c,.ref sl])) b [.ref c,.ref sl]:=yx Hu;have af:=hc.same s2;have O:=ap.same (yA (o:=.tup [.ref c,.ref sl]) hb);generalize upd H1 b (.tup [.ref c,.ref sl])=H2 at s2 eb af O ⊢;refine Jo ⟨_,Z,r,xs,pss,Z,hS.same s2,yK hp s2,aa,Yl,λw Hw ws sw hw ew ae=>⟨w,Z,⟨_,yw ew⟩,?_⟩⟩;have av:=ae.length;have aB:=Jd pss λps hp=>by have:=aa ps hp;lia
 refine⟨ws.length,λi zs H'=>Hy Hw H'/\zs.length<=i/\Mss K H' zs (msd cs ((HI pss).take i)),⟨yy _,qd _,.nil⟩,⟨?_,?_,?_⟩⟩
 ·rintro i zs H' hi ⟨Y,hl,hz⟩;exact⟨⟨_,ws[i],yw (Y _ _ ew),sV hi⟩,HX Yl⟩
 ·rintro i zs H' x aD hi ⟨Y,hl,hz⟩ ⟨rfl,y⟩;have hx:=y _ (yw (Y _ _ ew));obtain⟨t,ht,a,rx,rn,rfl,ha,ac,as⟩:=(yB (O8.tls ae) hx);obtain⟨ar,rfl,_⟩:=(id ac);have ah:=qU ht;have ag:=UG aa t ah;obtain⟨aq,aE⟩:=(Vw ak am t ah);have ai:=sw.trans Y;have e1:(HI pss).take (i+1)=(HI pss).take i++[t]:=by rw[sC,ht];rfl
  refine⟨a,_,Z,ha.same Y,Z,_,_,Z,_,_,Z,_,_,Z,Z,?_⟩
  obtain⟨cu,us,au,al,ao,az,an⟩:∃(cu:ge) (us:yn),atI [V.ref c,V.ref sl] t.k=some (.ref cu)/\Crv K H2 cu us/\Cv.ev us t.x=hk cs t/\us.length<=cs.length/\(∀q∈us,RB (n+11) q):=by
   rcases ag with z | z
   ·refine⟨c,cs,by rw[z];rfl,af,?_,qd _,λq hq=>(ad q hq).mono Yl⟩
    unfold hk;rw[if_neg Yl]
   ·refine⟨sl,IE cs,by rw[z];rfl,O,?_,by rw[KG];lia,Q8 Yl ak ad⟩
    unfold hk;rw[if_pos z]
  have hsz:(us.length+4)*(us.length+4)<=(cs.length+4)*(cs.length+4):=uP Yl Yl;have aC:(n+11+1)*((us.length+4)*(us.length+4))<=30000000:=pQ (uP Yl hsz) aj;refine⟨_,Z,_,Z,b,_,_,_,Z,Z,eb.same ai,au,_,Z,cu,ar,us,t.x,n+11,Z,al.same ai,ac.same Y,an,aq.mono Yl,Yl,Yl,λp Hp sp ep=>?_⟩;rw[ao]at ep;refine⟨_,Z,?_⟩;have W:=Y.trans sp;refine eqN (yF ep) (as.same W) ?_;refine⟨_,Z,?_⟩;by_cases he:hk cs t=t.n
  ·refine Ii (by rw[decide_eq_true he]<;>rfl) ⟨W,Yl,?_⟩
   rw[e1,NT,if_pos he,qG];exact Lb hz sp
  ·refine IT (by rw[decide_eq_false he]<;>rfl) ⟨_,Z,_,Z,P2,λv hv=>⟨W.trans (yA hv),by rw[qV,rH];lia,?_⟩⟩
   rw[e1,NT,if_neg he];exact Paired.snoc (Lb (Lb hz sp) (yA hv)) ⟨v,_,Z,yx Hu,(ac.same W).same (yA hv)⟩
 rintro zs H' ⟨Y,hl,hz⟩;rw[av,va]at hz;refine⟨⟨_,yw (Y _ _ ew),qd _⟩,pR (HX Yl),λp J=>?_⟩;exact q p _ zs (((s2.trans sw).trans Y).trans (yA J)) (((s2.trans sw).trans Y).free J) Hu (Lb hz (yA J))
theorem Lv:HJ ["points","numbers","lost"] ["points","numbers"] (HD (top 119)):=fsc
theorem R5(F:Fun K "misses_row" "misses_row" (top 119) f fd)(W:Fd P w K mg base 37 "missed" ["points","curve"] (Of K))(lT:Fd P w K mg base 33 "curve_of" yR (MR K))(kT:Fd P w K mg base 33 "show_number" ["number"] (JF K))(kq:mg "len" = none)(kx:mg "str" = none)(hT:yL P) :
 HV P w K mg base CX0 38 f fd yM (IZ K 9):=by
 refine okA F Lv λai A outer s H vs Q E hr h=>?_
 refine⟨_,(HC K (HF (i:=2) Lv (HS W hr (pv 0) (Ic lT hr (pv 1))))
  (HC K (Ig K (HK Jk (HU K kq (pv 2)) Hv) (HA (HH Ia)) HL)
  (HA (HH (J0 K PySem.F.plainAttrs_str PySem.F.slot_str_join PySem.F.type_str_join (M9 K) Ia (H9 (Jj rfl (N:=["x","k"]) (nt:=2) (js:=[]) (J7 Lv) (piL K (pv 2)) (λ_ _ _ _ _=>(pgT K (n:=2) rfl (IL (HM (i:=0) (show List.Nodup (["x","k"]:yr) from by decide +kernel) rfl (Or.inl rfl)) (IL (HM (i:=1) (show List.Nodup (["x","k"]:yr) from by decide +kernel) rfl (Or.inl rfl)) KL)))) (LF (IY Yd (IY Yd KU))) (λ_ _ _ _ _=>Iv) (λ_ _ _ _ _=>(HG Il (HG Il (Ic kT hr (pv 0)) Ia) (Ij Jc rfl kx Kl (H9 (pv 1) HB))))) HB)))))),?_⟩
 obtain⟨r,l,xs,ys,pss,cs,rfl,Y,ak,hS,hn,af,h1,aa,q⟩:=h;have aa:cs.length<=16:=aa;have hf:=ak.fg;have hs:=sK;have ag:=JE Y.h23;have ah:=Y.h12;refine⟨_,Z,_,Z,l,ys,cs,Z,hS,Io.nums hn,Yl,λc H1 s1 hc=>?_⟩;have aj:=Cv.strip_length cs;have hsz:((Cv.strip cs).length+4)*((Cv.strip cs).length+4)<=20*20:=uP Yl Yl;refine⟨r,c,xs,pss,Cv.strip cs,20,Z,Y.S.same s1,yK Y.P s1,Y.h23,Yl,hc,Yl,λps hp x hx=>IK (hf ps hp x hx),λx hx=>IK (af x (Cv.strip_mem _ _ hx)),Yl,Yd,λp H2 zs s2 hp ep hz=>?_⟩;have O:=T2 (cs:=Cv.strip cs) Y.h23 hf;have ae:(msd (Cv.strip cs) (HI pss)).length<=(HI pss).length:=by unfold msd;rw[qz];exact vc ..
 have q2:=λH' (s:Hy H2 H')=>q _ H' ((s1.trans s2).trans s) .miss;generalize msd (Cv.strip cs) (HI pss)=J at hz O ae q2;have ad:=hz.length;refine⟨_,Z,p,_,Z,.inl (yw ep),Z,_,Z,?_⟩;by_cases h0:J=[]
 ·exact IT (by rw[decide_eq_true (by rw[ad,h0];rfl:V.int ((zs.length:Nat):Int)=V.int 0)]<;>rfl) (by have:=q2 H2 (yy _);rw[show KN J=_ from if_pos h0]at this;exact this)
 have h1:J.length≠0:=λz=>h0 (ur.mp z);refine Ii (by rw[decide_eq_false (show ¬V.int ((zs.length:Nat):Int)=V.int 0 from λz=>by have:=V.int.inj z;lia)]<;>rfl) ⟨Z,?_⟩
 refine Jo ⟨_,Z,p,Z,⟨_,yw ep⟩,?_⟩;refine Vj (xs:=zs) (λi vs G=>G=H2/\vs=((J.take i).map mtx).map V.str) ⟨Z,Z⟩ (λi vs G hi h=>⟨by rw[h.1];exact yw ep,by rw[h.2,qz,qz,qN];exact uu ..⟩) Yl ?_ ?_
 ·rintro i v vs G hv ⟨rfl,rfl⟩;obtain⟨m,hm,a,rx,rfl,ha,hx⟩:=(yB hz hv);obtain⟨ac,hk⟩:=(O m (qU hm));have al:=MT ac.fh;have l1:(Str.ofString ";").length=1:=by decide +kernel
  have l2:(txI m.2).length=1:=by rcases hk with z | z<;>rw[z]<;>decide +kernel
  have l3:m.2.natAbs.log2<1920:=by rcases hk with z | z<;>rw[z]<;>decide +kernel
  refine⟨a,rx,.int m.2,Z,ha,?_⟩;unfold QP;refine Kv ⟨_,Z,rx,m.1,Z,hx,ac.fh,_,_,Z,Z,by rw[l1,hs];lia,_,Z,m.2,Z,l3,_,_,Z,Z,?_,Z,?_⟩
  ·show(tx m.1++Str.ofString ";").length+(txI m.2).length<=io;rw[Jg,l1,l2,hs];lia
  rw[sC,hm,sD,sD];rfl
 rintro vs G ⟨rfl,rfl⟩ j hj;rw[ad,va];refine⟨_,j,J.map mtx,Z,Z,yw Hu,Kk Yk (λt ht=>?_) (by rw[qz];lia),?_⟩
 ·obtain⟨c,hc,rfl⟩:=(tR.mp ht);exact pQ (SY (O c hc).1 (O c hc).2) Yd
 have:=q2 _ (yA (o:=.lst ((J.map mtx).map V.str)) hj);rw[show KN J=_ from if_neg h0]at this;exact this
theorem Rz:HJ yY ["points","point"] (HD (top 64)):=fsc
theorem WK(F:Fun K "put_in" "put_in" (top 64) f fd)(kX:Fd P w K mg base 36 "points_of" yO (Lk K))(kF:mg "list" = none)(hT:yL P) :
 HV P w K mg base CX0 37 f fd yY (Pr K):=by
 refine okA F Rz λae A outer s H vs Q E hr h=>?_;refine⟨_,(HA (HH (Ic kX hr (HG Ou (Ij (fU K) rfl kF PH (H9 (pv 0) HB)) (IJ (H9 (pv 1) HB)))))),?_⟩;obtain⟨r,x,xs,pss,ps,rfl,hS,hp,hx,Y,ad,O,q⟩:=h;have P1:1<=io:=by decide
 have hl:=hp.length;have aa:=JE Y;rw[qV,rH]at aa;refine⟨_,Z,r,xs,Z,.inr hS,λl1 ac=>⟨_,Z,P1,λl2 W=>?_⟩⟩;refine⟨l1,l2,xs,[x],Z,Z,(yA W) _ _ Hu,Hu,pQ (by rw[rH];lia:_<=300) Yd,λl3 J=>?_⟩
 have s3:Hy H _:=((yA ac).trans (yA W)).trans (yA (o:=.lst (xs++[x])) J);refine⟨true,l3,xs++[x],pss++[ps],Z,yw Hu,Paired.snoc (yK hp s3) (hx.same s3),Y,by rw[qV,rH];lia,ad,O,λp H' s4 z _=>?_⟩
 exact q p H' (s3.trans s4) z
theorem V4(F:Fun K "put_in" "put_in" (top 64) f fd)(O:FdY P w K mg base 36 "points_of" yO (λvs H Q E=>(Lk K:Sp) vs H Q E\/(Od K Y W:Sp) vs H Q E))(kX:Fd P w K mg base 36 "points_of" yO (Lk K))(kF:mg "list" = none)(hT:yL P) :
 HV P w K mg base (CX2 P w) 37 f fd yY (Q3 K (JW W Y J)):=by
 refine F.okY Rz (λvs H Q E h=>?_) (λae A outer s H vs Q E hr h=>?_)
 ·obtain⟨_,_,_,_,_,rfl,_⟩:=h;rfl
 refine⟨_,(HA (HH (Y1 O hr rfl Y4 (H9 (HG Ou (Ij (fU K) rfl kF PH (H9 (pv 0) HB)) (IJ (H9 (pv 1) HB))) HB)))),?_⟩;obtain⟨r,y,xs,pss,n,rfl,ok,hy,q⟩:=h;have P1:1<=io:=by decide
 have hl:=ok.len;have ad:=ok.P.length;refine⟨_,Z,r,xs,Z,.inr ok.S,λl1 ac=>⟨_,Z,P1,λl2 z=>?_⟩⟩;refine⟨l1,l2,xs,[y],Z,Z,(yA z) _ _ Hu,Hu,pQ (by rw[rH];lia:_<=300) Yd,λl3 aa=>?_⟩
 have s3:Hy H _:=((yA ac).trans (yA z)).trans (yA (o:=.lst (xs++[y])) aa)
 rcases ZA (ok.same s3) (hy.same s3) (yw Hu) with ⟨rfl,hb⟩ | ⟨rfl,hb⟩
 ·exact .inr ⟨_,Z,.inl ⟨hb,λH' s=>q H' (s3.trans s)⟩⟩
 ·exact .inr ⟨_,Z,.inr ⟨hb,λH' s=>q H' (s3.trans s)⟩⟩
theorem Qc:HJ yM ["points","numbers"] (HD (top 109)):=fsc
theorem V6(F:Fun K "put_row" "put_row" (top 109) f fd)(mV:Fd P w K mg base 37 "put_in" yY (Pr K))(kr:mg "tuple" = none)(hT:yL P) :
 HV P w K mg base CX0 38 f fd yM (Kp K 0):=by
 refine okA F Qc λad A outer s H vs Q E hr h=>?_;refine⟨_,(HA (HH (HS mV hr (pv 0) (Ij (Ls K) rfl kr Jr (H9 (pv 1) HB))))),?_⟩;obtain⟨r,l,xs,ys,pss,ac,qs,rfl,O,hS,hn,h1,h2,hc,q⟩:=h

 cases hc with
 | put hq ht =>
   have aa:2<=qs.length:=h1;have ae:qs.length<=3:=h2;refine⟨_,Z,_,Z,l,ys,Z,.inl ⟨hS,λt z=>?_⟩⟩;have J:=yA (o:=.tup ys) z;have W:=XX (yx (K:=K) (Hu (H:=H) (a:=t) (o:=.tup ys))) (yJ hn J) aa;have Y:=O.same J;refine⟨r,_,xs,pss,qs,Z,Y.S,Y.P,W,ME Y.h23 Yl,?_,ht,λp H' s hp=>?_⟩
   ·rw[sD,uN];refine⟨Y.nd,uY ..,λa ha b hb e=>?_⟩;rw[uZ,sU]at hb;exact hq (by rw[<- hb,<- e];exact ha)
   ·exact q p _ H' (J.trans s) hp (Paired.snoc (yK Y.P s) (W.same s))
theorem TX(F:Fun K "put_row" "put_row" (top 109) f fd)(J:FdY P w K mg base 37 "put_in" yY (Q3 K (JW O Y W)))(mV:Fd P w K mg base 37 "put_in" yY (Pr K))(kr:mg "tuple" = none)(hT:yL P) :
 HV P w K mg base (CX2 P w) 38 f fd yM (Oc K (JW O Y W) 0):=by
 refine F.okY Qc (λvs H Q E h=>?_) (λae A outer s H vs Q E hr h=>?_)
 ·obtain⟨_,_,_,_,_,_,_,rfl,_⟩:=h;rfl
 refine⟨_,(HA (HH (Y1 J hr rfl Y4 (H9 (pv 0) (H9 (Ij (Ls K) rfl kr Jr (H9 (pv 1) HB)) HB))))),?_⟩;obtain⟨r,l,xs,ys,pss,n,qs,rfl,ac,hS,hn,h1,h2,hc,q⟩:=h

 have aa:2<=qs.length:=h1;have af:qs.length<=3:=h2;refine⟨_,Z,_,Z,l,ys,Z,.inl ⟨hS,λt ad=>?_⟩⟩;have s1:=yA (o:=.tup ys) ad;have z:=XX (yx (K:=K) (Hu (H:=H) (a:=t) (o:=.tup ys))) (yJ hn s1) aa;refine⟨r,_,xs,pss,n,Z,ac.same s1,?_,λH' s=>q H' (s1.trans s)⟩;cases hc with
 | put2 hq=>exact .twice z Yl hq
 | putM hq ht=>exact .many z Yl hq ht
 | far hi hq=>exact absurd hi Yd
theorem OY:HJ ["points","x","point"] ["points","x"] (HD (top 65)):=fsc
theorem U3(F:Fun K "point_at" "point_at" (top 65) f fd)(hT:yL P) :
 HV P w K mg base CX0 33 f fd y4 (Q4 K):=by
 refine okA F OY λam A outer s H vs Q E hr h=>?_
 refine⟨_,(HC K (IP (K:=K) PassesOwn.never rfl (piT K (pv 0)) (HM (i:=2) OY.nd rfl (Or.inl rfl)) (HA (Ig K (HK (eqD K hr.units) (HE (ixT K) (pv 2) Hv) (pv 1)) (HA (HH (pv 2))) HL)) Yr)
  (HA Ja)),?_⟩
 obtain⟨r,x,v,xs,pss,m,ps,rfl,hS,hp,aj,hm,hv,hx,q⟩:=h;refine⟨_,Z,r,Z,⟨_,hS⟩,NZ (xs:=xs) (λi σ H'=>H'=H/\i<=m/\∃z,σ=[some (.ref r),some x,z]) ⟨Z,qg _,_,Z⟩ (λi σ H' _ h=>by rw[h.1];exact hS) ?_ ?_⟩
 ·rintro i u σ H' hu ae;refine Mg ae λO ak Y=>?_;refine Vp Y λz aa=>?_;clear Y;obtain rfl:=O;obtain rfl:=aa
  try clear ae
  obtain⟨qs,ad,a,us,pp,rfl,ah,al,ag,ai⟩:=(yB hp hu);refine⟨_,Z,a,us,_,_,Z,Z,ah,HQ (j:=0) ag,_,Z,?_⟩;refine eqN (yF ai) hx ?_;refine⟨_,Z,?_⟩;by_cases he:qs.getD 0 0=ps.getD 0 0
  ·rw[decide_eq_true he];obtain rfl:=V9 aj ad hm he;rw[hv]at hu;cases hu;exact Kv ⟨_,Z,q⟩
  ·refine Ii (by rw[decide_eq_false he]<;>rfl) ⟨Z,?_,_,Z⟩
   rcases uz i m with z | z
   ·lia
   ·obtain rfl:i=m:=by lia
    rw[hm]at ad;cases ad;exact absurd rfl he
 ·rintro σ H' af;refine Mg af λJ ak W=>?_;refine Vp W λz ac=>?_;clear W;obtain rfl:=J;obtain rfl:=ac
  try clear af
  exact absurd (pY.mp hv).1 Yl
theorem LS:HJ ["points","x","out"] ["points","x"] (HD (top 66)):=fsc
theorem SA(F:Fun K "taken_out" "taken_out" (top 66) f fd)(lj:Fd P w K mg base 33 "point_at" y4 (Q4 K))(kr:mg "tuple" = none)(kq:mg "len" = none)(hT:yL P) :
 HV P w K mg base CX0 34 f fd y4 (S7 K):=by
 refine okA F LS λah A outer s H vs Q E hr h=>?_
 refine⟨_,(HC K (HF (i:=2) LS (HS lj hr (pv 0) (pv 1)))
  (HC K (Ig K (HK Jk (HU K kq (pv 0)) Hv) (HA Ja) HL)
  (HA (HH (Ij (Ls K) rfl kr Jr (H9 (Jj rfl (N:=["point","out"]) (nt:=1) (js:=[2]) (J7 LS) (piT K (pv 0)) (λ_ _ _ _ _=>(HM (i:=0) (show List.Nodup (["point","out"]:yr) from by decide +kernel) rfl (Or.inl rfl))) (HY Yd) (λ_ _ _ _ _=>Pw (HK (neD K hr.units) (pv 0) (pv 1))) (λ_ _ _ _ _=>(pv 0))) HB)))))),?_⟩
 obtain⟨r,x,xs,pss,m,ps,rfl,hS,J,O,hm,hx,h2,af,q⟩:=h;have hl:=J.length;obtain⟨v,hv,ad⟩:=(yC J hm);refine⟨_,Z,_,Z,r,x,v,xs,pss,m,ps,Z,hS,J,O,hm,hv,hx,?_⟩;refine⟨_,Z,r,xs,Z,.inr hS,Z,_,Z,?_⟩;refine Ii (by rw[decide_eq_false (show ¬V.int ((xs.length:Nat):Int)=V.int 1 from λz=>by have:=V.int.inj z;lia)]<;>rfl) ?_
 refine Jo ⟨_,Z,r,Z,⟨_,hS⟩,?_⟩;refine YB (xs:=xs) (λi zs H'=>H'=H/\zs=(xs.take m++xs.drop (m+1)).take (if i<=m then i else i-1)) ⟨Z,by simp⟩ (λi zs H' _ p=>⟨by rw[p.1];exact hS,by rw[p.2,qN];split<;>lia⟩) (pR (HX Yl)) ?_ ?_
 ·rintro i u zs H' hu ⟨rfl,rfl⟩;obtain⟨qs,Y,aa⟩:=(yB J hu);have ae:=(pY.mp hv).1;have ag:=(pY.mp hu).1;obtain⟨a,rfl,cu⟩:=aa.pt;obtain⟨b,rfl,cv⟩:=ad.pt;refine⟨_,Z,_,Z,?_⟩;refine eqT cu cv ?_;refine⟨_,Z,?_⟩;by_cases he:i=m
  ·subst he;rw[hm]at Y;cases Y;refine Ii (by rw[decide_eq_true rfl]<;>rfl) ⟨Z,?_⟩
   rw[if_pos (qd _),if_neg Yl,uI]
  ·refine IT (by rw[decide_eq_false (show ¬qs=ps from λz=>he (V9 O Y hm (by rw[z])))]<;>rfl) ⟨_,Z,Z,?_⟩
   have W:(xs.take m).length=m:=by rw[qN];lia
   by_cases hc:i<=m
   ·rw[if_pos hc,if_pos Yl,sC,qQ Yl,uX,if_pos Yl,hu];rfl
   ·obtain⟨k,rfl⟩:∃k,i=k+1:=⟨i-1,Yl⟩;rw[if_neg hc,if_neg Yl,uI,uI,sC,qO Yl,W,sQ,show m+1+(k-m)=k+1 by lia,hu];rfl
 rintro zs Hq ⟨hq,rfl⟩ l ac;obtain rfl:H=Hq:=hq.symm;have ae:=(pY.mp hv).1;rw[if_neg Yl,tX (by rw[qV,qN,rq];lia)]
 have s1:Hy H (upd H l (.lst (xs.take m++xs.drop (m+1)))):=yA ac;refine⟨l,_,Z,.inl ⟨yw Hu,λt ht=>?_⟩⟩;exact q t _ (s1.trans (yA ht)) (yx Hu)
theorem TF:HJ yM ["points","numbers"] (HD (top 110)):=fsc
theorem TY(F:Fun K "take_row" "take_row" (top 110) f fd)(nR:Fd P w K mg base 34 "taken_out" y4 (S7 K))(hT:yL P) :
 HV P w K mg base CX0 35 f fd yM (Kp K 1):=by
 refine okA F TF λz A outer s H vs Q E hr h=>?_;refine⟨_,(HA (HH (HS nR hr (pv 0) (HE (ixL K) (pv 1) Hv)))),?_⟩;obtain⟨r,l,xs,ys,pss,W,qs,rfl,Y,hS,hn,h1,h2,hc,q⟩:=h

 obtain⟨a,ha,ea⟩:=(VY hn h1);have O:=JE Y.h23;have aa:=Y.h12;cases hc with
 | take hm h0 h2' =>
   exact⟨_,Z,_,Z,l,_,_,_,Z,Z,hS,HQ (j:=0) ha,r,_,xs,pss,_,_,Z,Y.S,Y.P,Y.nd,hm,by rw[h0];exact yF ea,h2',Yl,λp H' s J=>q p _ H' s J (yE (yD _ (yK Y.P s)) (Jn _ (yK Y.P s)))⟩
theorem OX:HJ y9 ["points","old","new"] (HD (top 67)):=fsc
theorem U2(F:Fun K "replaced" "replaced" (top 67) f fd)(kX:Fd P w K mg base 36 "points_of" yO (Lk K))(hT:yL P) :
 HV P w K mg base CX0 37 f fd y9 (LN K):=by
 refine okA F OX λak A outer s H vs Q E hr h=>?_;refine⟨_,(HA (HH (Ic kX hr (Jj rfl (N:=["point","old","new"]) (nt:=1) (js:=[1,2]) (J7 OX) (piT K (pv 0)) (λ_ _ _ _ _=>(HM (i:=0) (show List.Nodup (["point","old","new"]:yr) from by decide +kernel) rfl (Or.inl rfl))) (HY Yd) (λ_ _ _ _ _=>Iv) (λ_ _ _ _ _=>(NM (HK (eqD K hr.units) (pv 0) (pv 1)) (pv 2) (pv 0))))))),?_⟩
 obtain⟨r,v,y,xs,pss,m,ps,qs,rfl,hS,hp,aa,J,hm,hv,hy,h0,O,al,ac,q⟩:=h;have hl:=hp.length;have am:=JE J;have ah:=(pY.mp hv).1;refine Jo ⟨_,Z,r,Z,⟨_,hS⟩,?_⟩;refine QC (xs:=xs) (λi zs H'=>H'=H/\zs=(xs.set m y).take i) ⟨Z,Z⟩ (λi zs H' _ p=>⟨by rw[p.1];exact hS,by rw[p.2,qN,rB];lia⟩) (pR (HX Yl)) ?_ ?_
 ·rintro i u zs H' hu ⟨rfl,rfl⟩;obtain⟨us,W,ad⟩:=(yB hp hu);obtain⟨aj,Y,ag⟩:=(yB hp hv);rw[hm]at Y;cases Y;have ai:=(pY.mp hu).1;obtain⟨a,rfl,cu⟩:=ad.pt;obtain⟨b,rfl,cv⟩:=ag.pt;refine⟨_,Z,_,Z,?_⟩;refine eqT cu cv ?_;refine⟨_,Z,?_⟩;by_cases he:i=m
  ·subst he;rw[hm]at W;cases W;refine IT (by rw[decide_eq_true rfl]<;>rfl) ⟨_,Z,Z,?_⟩
   rw[sC,pZ ah];rfl
  ·refine Ii (by rw[decide_eq_false (show ¬us=ps from λz=>he (V9 aa W hm (by rw[z])))]<;>rfl) ⟨_,Z,Z,?_⟩
   rw[sC,qa (Ne.symm he),hu];rfl
 rintro zs Hq ⟨hq,rfl⟩ l af;obtain rfl:H=Hq:=hq.symm;rw[tX (by rw[rB];lia)]
 have s1:Hy H (upd H l (.lst (xs.set m y))):=yA af;refine⟨true,l,xs.set m y,pss.set m qs,Z,yw Hu,KZ m (yK hp s1) (hy.same s1),VU J O,by rw[rB];lia,Yo hm h0 aa,ac,λp H' s4 ae _=>?_⟩
 exact q p H' (s1.trans s4) ae
theorem Mw:HJ ["points","x","y","old"] ["points","x","y"] (HD (top 68)):=fsc
theorem Qn(F:Fun K "with_height" "with_height" (top 68) f fd)(lj:Fd P w K mg base 33 "point_at" y4 (Q4 K))(lB:Fd P w K mg base 37 "replaced" y9 (LN K))(hT:yL P) :
 HV P w K mg base CX0 38 f fd ["points","x","y"] (S4 K):=by
 refine okA F Mw λak A outer s H vs Q E hr h=>?_
 refine⟨_,(HC K (HF (i:=3) Mw (HS lj hr (pv 0) (pv 1)))
  (HA (HH (Ql lB hr (pv 0) (pv 3) (HG (Lq K) (Ib (H9 (pv 1) (H9 (pv 2) HB))) (IM (MV K) (pv 3) (IW Hv) IS)))))),?_⟩
 obtain⟨r,px,y,xs,pss,m,ps,c,rfl,hS,hp,aa,J,hm,hx,hy,af,ac,q⟩:=h;have P2:2<=io:=by decide
 have ah:=J ps (qU hm);obtain⟨v,hv,a,us,pp,rfl,ae,O,ai,al⟩:=(yC hp hm);have aj:=O.length;refine⟨_,Z,_,Z,r,_,_,xs,pss,m,ps,Z,hS,hp,aa,hm,hv,yF hx,?_⟩;refine⟨_,Z,_,Z,_,Z,_,Z,P2,λt ht=>?_⟩;have s1:Hy H (upd H t (.tup [.ref px,y])):=yA ht;refine⟨_,Z,2,Z,Ki (v:=2) (ae.same s1) Yl λw H2 s2 hw=>?_⟩;have am:(us.drop 2).length<=1:=by rw[rq];lia
 have ag:=s1.trans s2;refine JV (yx (s2 _ _ Hu)) hw (pQ (show _<=300 by show 2+_<=300;lia) Yd) (λn H3 s3 hn=>?_)
 have Y:=ag.trans s3;have W:PtT K H3 (.ref n) ([ps.getD 0 0,c]++ps.drop 2):=⟨n,_,px,Z,hn,.cons (yF (Y _ _ hx)) (.cons (hy.same Y) (Jn 2 (O.same Y))),Z,Y _ _ hx⟩;refine⟨r,_,_,xs,pss,m,ps,_,Z,hS.same Y,yK hp Y,aa,J,hm,hv,W,Z,by simp only[qV,rq,qr,rO];lia,af,ac,λp H4 s4 ad=>?_⟩
 have z:=Y.trans s4;exact q p H4 _ z ad (KZ m (yK hp z) (W.same s4))
theorem QU:HJ yM ["points","numbers"] (HD (top 111)):=fsc
theorem R6(F:Fun K "height_row" "height_row" (top 111) f fd)(nU:Fd P w K mg base 38 "with_height" ["points","x","y"] (S4 K))(hT:yL P) :
 HV P w K mg base CX0 39 f fd yM (Kp K 2):=by
 refine okA F QU λac A outer s H vs Q E hr h=>?_;refine⟨_,(HA (HH (Ql nU hr (pv 0) (HE (ixL K) (pv 1) Hv) (HE (ixL K) (pv 1) Hv)))),?_⟩;obtain⟨r,l,xs,ys,pss,aa,qs,rfl,Y,hS,hn,h1,h2,hc,q⟩:=h

 obtain⟨a,ha,ea⟩:=(VY hn (pQ Yd h1));obtain⟨b,hb,eb⟩:=(fS hn h1);cases hc with
 | @height m ps hm h0 =>
   have hp:=Y.h23 ps (qU hm);have hl:=Rr (qs:=[ps.getD 0 0,qs.getD 1 0]++ps.drop 2) hm;have e:([ps.getD 0 0,qs.getD 1 0]++ps.drop 2).length=ps.length:=by rw[qV,rq];show 2+_=_;lia
   rw[e]at hl;have J:=Y.h12;exact⟨_,Z,_,Z,l,_,_,_,Z,Z,hS,HQ (j:=0) ha,_,Z,l,_,_,_,Z,Z,hS,HQ (j:=1) hb,r,a,_,xs,pss,m,ps,qs.getD 1 0,Z,Y.S,Y.P,Y.nd,Y.h23,hm,by rw[h0];exact ea,yF eb,J,Yl,λp H' W s O z=>q p W H' s O z⟩
theorem N5:HJ ["points","x","slope","old"] ["points","x","slope"] (HD (top 69)):=fsc
theorem R1(F:Fun K "with_slope" "with_slope" (top 69) f fd)(lj:Fd P w K mg base 33 "point_at" y4 (Q4 K))(lB:Fd P w K mg base 37 "replaced" y9 (LN K))(hT:yL P) :
 HV P w K mg base CX0 38 f fd ["points","x","slope"] (Pn K):=by
 refine okA F N5 λao A outer s H vs Q E hr h=>?_
 refine⟨_,(HC K (HF (i:=3) N5 (HS lj hr (pv 0) (pv 1)))
  (HC K (Ig K (HK V3 (pv 2) K7) (HA (HH (Ql lB hr (pv 0) (pv 3) (IM (MV K) (pv 3) IS (IW Hv))))) HL)
  (HA (HH (Ql lB hr (pv 0) (pv 3) (HG (Lq K) (IM (MV K) (pv 3) IS (IW Hv)) (Ib (H9 (pv 2) HB)))))))),?_⟩
 obtain⟨r,x,s,xs,pss,m,ps,qs,rfl,hS,hp,ad,ac,hm,hx,hs,ah,ae,q⟩:=h;have P1:1<=io:=by decide
 have am:=ac ps (qU hm);obtain⟨v,hv,a,us,pp,rfl,ag,aa,af,ai⟩:=(yC hp hm);have an:=aa.length;have al:(us.take 2).length=2:=by rw[qN];lia
 have aj:(ps.take 2).length=2:=by rw[qN];lia
 refine⟨_,Z,_,Z,r,_,_,xs,pss,m,ps,Z,hS,hp,ad,hm,hv,hx,?_⟩;refine⟨_,Z,Z,_,Z,?_⟩
 rcases hs with ⟨rfl,rfl⟩ | ⟨c,hc,rfl⟩
 ·refine IT (by rw[decide_eq_true rfl]<;>rfl) ?_
  refine⟨_,Z,_,Z,_,Z,2,Z,JY (v:=2) ag Yl λw H2 s2 hw=>?_⟩;have Y:PtT K H2 (.ref w) (ps.take 2):=gG 1 hw (aa.same s2) af (s2 _ _ ai);refine⟨r,_,_,xs,pss,m,ps,_,Z,hS.same s2,yK hp s2,ad,ac,hm,hv,Y,by rw[sO,uX,if_pos Yl,<- sO],Yl,ah,ae,λp H4 s4 J=>?_⟩
  have O:=s2.trans s4;exact q p H4 _ O J (KZ m (yK hp O) (Y.same s4))
 ·obtain⟨sa,rfl,ak⟩:=hc;refine Ii (by rw[decide_eq_false (λz=>nomatch z)]<;>rfl) ?_
  refine⟨_,Z,_,Z,_,Z,2,Z,JY (v:=2) ag Yl λw H2 s2 hw=>⟨_,Z,P1,λt ht=>?_⟩⟩;have s3:=s2.trans (yA (o:=.tup [.ref sa]) ht);refine JV (hw.same (yA ht)) (yx Hu) (pQ (show _<=300 by rw[al];show 2+1<=300;decide) Yd) (λn H3 s4 hn=>?_)
  have W:=s3.trans s4
  have Y:PtT K H3 (.ref n) (ps.take 2++[c]):=by
   refine⟨n,_,pp,Z,hn,Paired.snoc (yD 2 (aa.same W)) ((show HP K H (.ref sa) c from⟨sa,Z,ak⟩).same W),?_,?_⟩
   ·rw[qQ Yl,uX,if_pos Yl];exact af
   ·rw[sO,qQ Yl,uX,if_pos Yl,<- sO];exact W _ _ ai
  refine⟨r,_,_,xs,pss,m,ps,_,Z,hS.same W,yK hp W,ad,ac,hm,hv,Y,by rw[sO,qQ Yl,uX,if_pos Yl,<- sO],by rw[qV,aj];exact .inr rfl,ah,ae,λp H4 s5 J=>?_⟩
  have O:=W.trans s5;exact q p H4 _ O J (KZ m (yK hp O) (Y.same s5))
theorem Sh:HJ yM ["points","numbers"] (HD (top 112)):=fsc
theorem SF(F:Fun K "slope_row" "slope_row" (top 112) f fd)(ma:Fd P w K mg base 38 "with_slope" ["points","x","slope"] (Pn K))(hT:yL P) :
 HV P w K mg base CX0 39 f fd yM (Kp K 3):=by
 refine okA F Sh λaa A outer s H vs Q E hr h=>?_;refine⟨_,(HA (HH (Ql ma hr (pv 0) (HE (ixL K) (pv 1) Hv) (HE (ixL K) (pv 1) Hv)))),?_⟩;obtain⟨r,l,xs,ys,pss,z,qs,rfl,Y,hS,hn,h1,h2,hc,q⟩:=h

 obtain⟨a,ha,ea⟩:=(VY hn (pQ Yd h1));obtain⟨b,hb,eb⟩:=(fS hn h1);cases hc with
 | @slope m ps hm h0 ht =>
   exact⟨_,Z,_,Z,l,_,_,_,Z,Z,hS,HQ (j:=0) ha,_,Z,l,_,_,_,Z,Z,hS,HQ (j:=1) hb,r,_,_,xs,pss,m,ps,_,Z,Y.S,Y.P,Y.nd,Y.h23,hm,by rw[h0];exact yF ea,.inr ⟨_,yF eb,Z⟩,Y.h12,ht,λp H' W s O J=>q p W H' s O J⟩
theorem Qd:HJ yM ["points","numbers"] (HD (top 113)):=fsc
theorem Qq(F:Fun K "noslope_row" "noslope_row" (top 113) f fd)(ma:Fd P w K mg base 38 "with_slope" ["points","x","slope"] (Pn K))(hT:yL P) :
 HV P w K mg base CX0 39 f fd yM (Kp K 4):=by
 refine okA F Qd λaa A outer s H vs Q E hr h=>?_;refine⟨_,(HA (HH (Ql ma hr (pv 0) (HE (ixL K) (pv 1) Hv) K7))),?_⟩;obtain⟨r,l,xs,ys,pss,z,qs,rfl,Y,hS,hn,h1,h2,hc,q⟩:=h

 obtain⟨a,ha,ea⟩:=(VY hn h1);cases hc with
 | @noslope m ps hm h0 =>
   have hp:=Y.h23 ps (qU hm);have hl:=PM hm hp;have ac:=Y.h12;exact⟨_,Z,_,Z,l,_,_,_,Z,Z,hS,HQ (j:=0) ha,r,_,_,xs,pss,m,ps,_,Z,Y.S,Y.P,Y.nd,Y.h23,hm,by rw[h0];exact yF ea,.inl ⟨Z,Z⟩,Y.h12,Yl,λp H' W s O J=>q p W H' s O J⟩
theorem Ka:HJ ["self","row","words","numbers"] ["self","row"] (HD (JU (top 130) 1)):=fsc
theorem P6(F:Fun K "say" "Desk.say" (JU (top 130) 1) f fd)(ad:Pe K ag)(md:Fd P w K mg base 36 "numbers_of_row" ["words"] (LO K))(nV:Fd P w K mg base 40 "curve_row" yM (IZ K 5))(nW:Fd P w K mg base 39 "steps_row" yM (IZ K 6))(aR:Fd P w K mg base 40 "at_row" yM (IZ K 7))(nX:Fd P w K mg base 40 "slopeat_row" yM (IZ K 8))(nY:Fd P w K mg base 38 "misses_row" yM (IZ K 9))(nZ:Fd P w K mg base 38 "put_row" yM (Kp K 0))(o4:Fd P w K mg base 35 "take_row" yM (Kp K 1))(o8:Fd P w K mg base 39 "height_row" yM (Kp K 2))(oa:Fd P w K mg base 39 "slope_row" yM (Kp K 3))(oh:Fd P w K mg base 39 "noslope_row" yM (Kp K 4))(kA:mg "isinstance" = none)(kx:mg "str" = none)(hT:yL P)(aE:mg "put_row" = some (.ref ap))(aD:mg "take_row" = some (.ref al))(ar:mg "height_row" = some (.ref ae))(aw:mg "slope_row" = some (.ref ai))(an:mg "noslope_row" = some (.ref aa))(am:mg "CHANGES" = some (.ref Y))(W:KDk P w K Y [(Sum.inr "put",.ref ap),(Sum.inr "take",.ref al),(Sum.inr "height",.ref ae),(Sum.inr "slope",.ref ai),(Sum.inr "noslope",.ref aa)])(aA:mg "curve_row" = some (.ref aj))(ay:mg "steps_row" = some (.ref ah))(aS:mg "at_row" = some (.ref as))(ao:mg "slopeat_row" = some (.ref ac))(aq:mg "misses_row" = some (.ref af))(aF:mg "ANSWERS" = some (.ref J))(O:KDk P w K J [(Sum.inr "points",.ref aB),(Sum.inr "curve",.ref aj),(Sum.inr "steps",.ref ah),(Sum.inr "at",.ref as),(Sum.inr "slopeat",.ref ac),(Sum.inr "misses",.ref af),(Sum.inr "bounds",.ref aC),(Sum.inr "noughts",.ref az),(Sum.inr "wrong",.ref au),(Sum.inr "quotient",.ref av)]) :
 HV P w K mg base CX0 41 f fd yV (LM K ag):=by
 refine okA F Ka λa8 A outer s H vs Q E hr h=>?_
 refine⟨_,(HC K (Ig K (Jy (Jt (ID (Uk K) rfl kA IQ (H9 (pv 1) (H9 (K4 (v:=.ty "str") rfl kx Kl rfl) HB))))) (HA Ja) HL)
  (HC K (HF (i:=2) Ka (J0 K PySem.F.plainAttrs_str PySem.F.slot_str_split PySem.F.type_str_split La (pv 1) (H9 Ia HB)))
  (HC K (HF (i:=3) Ka (Ic md hr (pv 2)))
  (HC K (Ig K (UW (VT P w K (HE (ixL K) (pv 2) Hv) (JI (v:=.ref Y) rfl am rfl)) (by with_unfolding_all rfl)) (HC K (Su K (pv 0) (Qm P w K mg base (CX:=CX0) (n:=39) (hr.mono Yd) Ks (NN P w K (JI (v:=.ref Y) rfl am rfl) (HE (ixL K) (pv 2) Hv) (λu v=>rfl)) (H9 (Sv K (pv 0) rfl) (H9 (pv 3) HB))) rfl)
  (HA (HH Ia))) HL)
  (HA (HH (Qm P w K mg base (CX:=CX0) (n:=40) (hr.mono Yd) Ks (NN P w K (JI (v:=.ref J) rfl aF rfl) (HE (ixL K) (pv 2) Hv) (λu v=>rfl)) (H9 (Sv K (pv 0) rfl) (H9 (pv 3) HB))))))))),?_⟩
 obtain⟨p,dx,r,xs,t,i,qs,pss,rfl,aZ,a0,hp,a3,h1,h2,hf,hq⟩:=h;have i6:i<10:=by rcases hq with ⟨z,_⟩ | ⟨_,z,_⟩<;>lia
 refine⟨_,Z,_,_,_,_,Z,.of (.str _),T5 K,true,Z,IX ?_⟩;refine⟨_,Z,Z,_,_,Z,Z,Z,a0,λl hl=>?_⟩;rw[aZ];have s1:=yA (o:=.lst ((wd i::qs.map tx).map V.str)) hl;have el:upd H l (.lst ((wd i::qs.map tx).map V.str)) l=some (.lst (.str (wd i)::qs.map λx=>V.str (tx x))):=by rw[Hu,qw,tN];rfl
 generalize upd H l (.lst ((wd i::qs.map tx).map V.str))=H1 at s1 el ⊢;refine⟨_,Z,l,i,qs,Z,yw el,i6,h1,h2,hf,λnl ys H2 s2 a9 en hn=>?_⟩;have aT:=s1.trans s2;have aU:=s2 _ _ el;have aV:=a3.same aT;have aW:=aT _ _ hp
 rcases hq with ⟨i5,aY,a6,q⟩ | ⟨i5,a7,ak,q⟩
 ·obtain⟨kvs,fa,ax,dC,hv,kp,FO,BB⟩:∃kvs fa ax,KDk P w K Y kvs/\JJ kvs (Sum.inr (wd i))=some (.ref fa)/\qy K (.ref fa)=true/\HV P w K mg base CX0 39 fa ax yM (Kp K i)/\Js K ax yM []:=by
   have hi:i=0\/i=1\/i=2\/i=3\/i=4:=by lia
   rcases hi with rfl | rfl | rfl | rfl | rfl
   ·refine Kg nZ.ex λ_ _ aG=>?_;refine Le aG λFO B kp m=>?_;clear aG;cases aE.symm.trans m;exact⟨_,_,_,W,Z,kp,HV.up FO Yd,B⟩
   ·refine Kg o4.ex λ_ _ aH=>?_;refine Le aH λFO B kp m=>?_;clear aH;cases aD.symm.trans m;exact⟨_,_,_,W,Z,kp,HV.up FO Yd,B⟩
   ·refine Kg o8.ex λ_ _ aK=>?_;refine Le aK λFO B kp m=>?_;clear aK;cases ar.symm.trans m;exact⟨_,_,_,W,Z,kp,HV.up FO Yd,B⟩
   ·refine Kg oa.ex λ_ _ aO=>?_;refine Le aO λFO B kp m=>?_;clear aO;cases aw.symm.trans m;exact⟨_,_,_,W,Z,kp,HV.up FO Yd,B⟩
   ·refine Kg oh.ex λ_ _ aN=>?_;refine Le aN λFO B kp m=>?_;clear aN;cases an.symm.trans m;exact⟨_,_,_,W,Z,kp,HV.up FO Yd,B⟩
  refine⟨⟨_,Z,l,_,_,_,Z,Z,yw aU,HQ (j:=0) rfl,Y,kvs,Sum.inr (wd i),Z,dC,Z,_,Z,?_⟩⟩;rw[hv];refine Kv ?_;refine⟨⟨_,Z,l,_,_,_,Z,Z,yw aU,HQ (j:=0) rfl,Y,kvs,Sum.inr (wd i),_,Z,dC,Z,hv,fa,ax,Z,kp,_,Z,p,ag,dx,_,_,Z,aW,ad.cl,ad.na_points,Z,_,Z,_,_,FO,BB,r,nl,xs,ys,pss,aY,qs,Z,aV,yw en,hn,h1,h2,a6,λr' a4 H3 s3 hr hx=>?_⟩⟩;have aX:=s3 _ _ aW;refine⟨_,Z,p,ag,dx,_,Z,aX,ad.cl,ad.na_points,(by show 1<1000;decide),?_⟩
  have a1:=aT.trans s3;refine q r' a4 _ (λb o hb e=>by rw[HZ hb];exact a1 _ _ e) ?_ (SqT.but hr aX) (Ie.but hx aX)
  rw[Hu];rfl
 have hi:i=5\/i=6\/i=7\/i=8\/i=9:=by lia
 obtain⟨kvs,dC,hv⟩:∃kvs,KDk P w K Y kvs/\JJ kvs (Sum.inr (wd i))=none:=by
  rcases hi with rfl | rfl | rfl | rfl | rfl<;>exact⟨_,W,Z⟩
 obtain⟨a2,fa,ax,dA,a5,kp,FO,BB⟩:∃kvs fa ax,KDk P w K J kvs/\JJ kvs (Sum.inr (wd i))=some (.ref fa)/\qy K (.ref fa)=true/\HV P w K mg base CX0 40 fa ax yM (IZ K i)/\Js K ax yM []:=by
  rcases hi with rfl | rfl | rfl | rfl | rfl
  ·refine Kg nV.ex λ_ _ aP=>?_;refine Le aP λFO B kp m=>?_;clear aP;cases aA.symm.trans m;exact⟨_,_,_,O,Z,kp,HV.up FO Yd,B⟩
  ·refine Kg nW.ex λ_ _ aJ=>?_;refine Le aJ λFO B kp m=>?_;clear aJ;cases ay.symm.trans m;exact⟨_,_,_,O,Z,kp,HV.up FO Yd,B⟩
  ·refine Kg aR.ex λ_ _ aM=>?_;refine Le aM λFO B kp m=>?_;clear aM;cases aS.symm.trans m;exact⟨_,_,_,O,Z,kp,HV.up FO Yd,B⟩
  ·refine Kg nX.ex λ_ _ aI=>?_;refine Le aI λFO B kp m=>?_;clear aI;cases ao.symm.trans m;exact⟨_,_,_,O,Z,kp,HV.up FO Yd,B⟩
  ·refine Kg nY.ex λ_ _ aL=>?_;refine Le aL λFO B kp m=>?_;clear aL;cases aq.symm.trans m;exact⟨_,_,_,O,Z,kp,HV.up FO Yd,B⟩

 refine⟨⟨_,Z,l,_,_,_,Z,Z,yw aU,HQ (j:=0) rfl,Y,kvs,Sum.inr (wd i),Z,dC,Z,_,Z,?_⟩⟩;rw[hv];refine IX ?_;exact⟨⟨_,Z,l,_,_,_,Z,Z,yw aU,HQ (j:=0) rfl,J,a2,Sum.inr (wd i),_,Z,dA,Z,a5,fa,ax,Z,kp,_,Z,p,ag,dx,_,_,Z,aW,ad.cl,ad.na_points,Z,_,Z,_,_,FO,BB,r,nl,xs,ys,pss,qs,Z,aV,ak,yw en,hn,hf,h1,h2,λt H3 s3 ha=>q t H3 (aT.trans s3) ha⟩⟩
theorem Sy(F:Fun K "say" "Desk.say" (JU (top 130) 1) f fd)(au:FdY P w K mg base 38 "put_row" yM (Oc K (JW ad O ac) 0))(aw:Pe K ao)(md:Fd P w K mg base 36 "numbers_of_row" ["words"] (LO K))(nV:Fd P w K mg base 40 "curve_row" yM (IZ K 5))(nW:Fd P w K mg base 39 "steps_row" yM (IZ K 6))(aJ:Fd P w K mg base 40 "at_row" yM (IZ K 7))(nX:Fd P w K mg base 40 "slopeat_row" yM (IZ K 8))(nY:Fd P w K mg base 38 "misses_row" yM (IZ K 9))(nZ:Fd P w K mg base 38 "put_row" yM (Kp K 0))(o4:Fd P w K mg base 35 "take_row" yM (Kp K 1))(o8:Fd P w K mg base 39 "height_row" yM (Kp K 2))(oa:Fd P w K mg base 39 "slope_row" yM (Kp K 3))(oh:Fd P w K mg base 39 "noslope_row" yM (Kp K 4))(kA:mg "isinstance" = none)(kx:mg "str" = none)(hT:yL P)(as:mg "put_row" = some (.ref aj))(aF:mg "take_row" = some (.ref ah))(aA:mg "height_row" = some (.ref z))(aB:mg "slope_row" = some (.ref af))(ax:mg "noslope_row" = some (.ref W))(ai:mg "CHANGES" = some (.ref Y))(av:KDk P w K Y [(Sum.inr "put",.ref aj),(Sum.inr "take",.ref ah),(Sum.inr "height",.ref z),(Sum.inr "slope",.ref af),(Sum.inr "noslope",.ref W)])(aE:mg "curve_row" = some (.ref ag))(aD:mg "steps_row" = some (.ref ae))(aK:mg "at_row" = some (.ref al))(ay:mg "slopeat_row" = some (.ref J))(az:mg "misses_row" = some (.ref aa))(aG:mg "ANSWERS" = some (.ref ak))(aH:KDk P w K ak [(Sum.inr "points",.ref aq),(Sum.inr "curve",.ref ag),(Sum.inr "steps",.ref ae),(Sum.inr "at",.ref al),(Sum.inr "slopeat",.ref J),(Sum.inr "misses",.ref aa),(Sum.inr "bounds",.ref ar),(Sum.inr "noughts",.ref ap),(Sum.inr "wrong",.ref am),(Sum.inr "quotient",.ref an)]) :
 HV P w K mg base (CX2 P w) 41 f fd yV (MQ K (JW ad O ac) ao):=by
 refine F.okY Ka (λvs H Q E h=>?_) (λaT A outer s H vs Q E hr h=>?_)
 ·obtain⟨_,_,_,_,_,_,_,_,rfl,_⟩:=h;rfl
 refine⟨_,(JZ (Ig K (Jy (Jt (ID (Uk K) rfl kA IQ (H9 (pv 1) (H9 (K4 (v:=.ty "str") rfl kx Kl rfl) HB))))) (HA Ja) HL)
  (JZ (HF (i:=2) Ka (J0 K PySem.F.plainAttrs_str PySem.F.slot_str_split PySem.F.type_str_split La (pv 1) (H9 Ia HB)))
  (JZ (HF (i:=3) Ka (Ic md hr (pv 2)))
  (JZ (Ig K (UW (VT P w K (HE (ixL K) (pv 2) Hv) (JI (v:=.ref Y) rfl ai rfl)) (by with_unfolding_all rfl)) (HC K (Su K (pv 0) (Qm P w K mg base (CX:=CX2 P w) (n:=39) (hr.mono Yd) Y4 (NN P w K (JI (v:=.ref Y) rfl ai rfl) (HE (ixL K) (pv 2) Hv) (λu v=>rfl)) (H9 (Sv K (pv 0) rfl) (H9 (pv 3) HB))) rfl)
   (HA (HH Ia))) HL)
  RD)))),?_⟩
 obtain⟨p,dx,r,xs,t,qs,pss,n,rfl,aN,aO,hp,aR,h1,h2,hf,aS,q⟩:=h;refine⟨_,Z,_,_,_,_,Z,.of (.str _),T5 K,true,Z,IX ?_⟩;refine⟨_,Z,Z,_,_,Z,Z,Z,aO,λl hl=>?_⟩;rw[aN];have s1:=yA (o:=.lst ((wd 0::qs.map tx).map V.str)) hl;have el:upd H l (.lst ((wd 0::qs.map tx).map V.str)) l=some (.lst (.str (wd 0)::qs.map λx=>V.str (tx x))):=by rw[Hu,qw,tN];rfl
 generalize upd H l (.lst ((wd 0::qs.map tx).map V.str))=H1 at s1 el ⊢;refine⟨_,Z,l,0,qs,Z,yw el,Yd,h1,h2,hf,λnl ys H2 s2 aU en hn=>?_⟩;have aI:=s1.trans s2;have aM:=s2 _ _ el;have aL:=aR.same aI;have aP:=aI _ _ hp
 obtain⟨kvs,fa,aC,dC,hv,kp,FO,BB⟩:∃kvs fa aC,KDk P w K Y kvs/\JJ kvs (Sum.inr (wd 0))=some (.ref fa)/\qy K (.ref fa)=true/\HV P w K mg base (CX2 P w) 39 fa aC yM (Oc K (JW ad O ac) 0)/\Js K aC yM []:=by
  obtain⟨_,_,FO,B,kp,m⟩:=au.ex;cases as.symm.trans m;exact⟨_,_,_,av,Z,kp,HV.up FO Yd,B⟩
 refine⟨⟨_,Z,l,_,_,_,Z,Z,yw aM,HQ (j:=0) rfl,Y,kvs,Sum.inr (wd 0),Z,dC,Z,_,Z,?_⟩⟩;rw[hv];refine Kv ?_;exact⟨⟨_,Z,l,_,_,_,Z,Z,yw aM,HQ (j:=0) rfl,Y,kvs,Sum.inr (wd 0),_,Z,dC,Z,hv,fa,aC,Z,kp,_,Z,p,ao,dx,_,_,Z,aP,aw.cl,aw.na_points,Z,_,Z,_,_,FO,BB,r,nl,xs,ys,pss,n,qs,Z,aL,yw en,hn,h1,h2,aS,λH3 s3=>q H3 (aI.trans s3)⟩⟩
theorem HN:HJ ["_law_pen_here","_law_curve","_law_points","_law_more","_law_first","_law_k","_law_x","_law_point","_law_j","_law_other","_law_desk","_law_at_here","_law_due"] ["_law_pen_here"] (HD (top 153)):=fsc
theorem MY(F:Fun K "_law_other_right" "_law_other_right" (top 153) f fd)(ae:Pe K O)(ky:Fd P w K mg base 33 "_law_draw" yX (LP))(kI:Fd P w K mg base 34 "_law_plus" yP (Mi K (· + ·)))(lC:Fd P w K mg base 34 "_law_points_text" yW (NA K))(oi:Fd P w K mg base 35 "_law_product" ["_law_one","_law_other"] (Sa K))(kP:Fd P w K mg base 35 "_law_at" yT (Rw K))(l6:Fd P w K mg base 36 "_law_slope_at" yT (KY K))(lD:Fd P w K mg base 37 "_law_missed" zb (LG K))(kM:Fd P w K mg base 34 "_law_texts" y6 (Ko K Iz))(me:Fd P w K mg base 34 "_law_minus" yP (NB K))(kB:Fd P w K mg base 33 "_law_text" yS (JF K))(lE:FdI CX0 P w K mg base 38 O "Desk" y7 (NF K O))(kC:FdM CX0 P w K mg base 41 O "say" yV (LM K O))(ku:mg "range" = none)(kq:mg "len" = none)(kK:mg "zip" = none)(kx:mg "str" = none)(hT:yL P) :
 HV P w K mg base CX0 42 f fd y2 (Q5 K):=by
 refine okA F HN λe8 A outer s H vs Q E hr h=>?_
 refine⟨_,(HC K (TQ (i:=1) rfl HN.nd rfl rfl (N:=["_law_k","_law_pen_here"]) (nt:=1) (js:=[0]) (J7 HN) (J2 rfl ku (H9 (HG Iu Hv (HS ky hr (pv 0) Hv)) HB)) (λ_ _ _ _ _=>(HM (i:=0) (show List.Nodup (["_law_k","_law_pen_here"]:yr) from by decide +kernel) rfl (Or.inl rfl))) (HY Yd) (λ_ _ _ _ _=>Iv) (λ_ _ _ _ _=>(Ib (H9 (HG Jf (HS ky hr (pv 1) Hv) Hv) (H9 Hv HB)))) rfl)
  (HC K (HF (i:=2) HN (IJ HB))
  (HC K (HF (i:=3) HN (IJ (H9 (Ib (H9 (HG Iu Hv (HS ky hr (pv 0) Hv)) (H9 Hv HB))) HB)))
  (HC K (HF (i:=4) HN (HG Jf (HS ky hr (pv 0) Hv) Hv))
  (HC K (IP (K:=K) PassesOwn.never rfl (J2 rfl ku (H9 (HG Iu Hv (HS ky hr (pv 0) Hv)) HB)) (HM (i:=5) HN.nd rfl (Or.inl rfl)) (HC K (HF (i:=6) HN (Ib (H9 (HG Iu (pv 4) (pv 5)) (H9 Hv HB))))
  (HC K (HF (i:=7) HN (IM (MV K) (Ib (H9 (pv 6) (H9 (HS kP hr (pv 1) (pv 6)) (H9 (HS l6 hr (pv 1) (pv 6)) HB)))) IS (IW (HG Iu Hv (HS ky hr (pv 0) Hv)))))
  (HC K (IP (K:=K) PassesOwn.never rfl (J2 rfl ku (H9 (HG Jf (HU K kq (pv 7)) Hv) HB)) (HM (i:=8) HN.nd rfl (Or.inl rfl)) (HA (HF (i:=3) HN (HS oi hr (pv 3) (IJ (H9 (HS me hr (Ib (H9 Hv (H9 Hv HB))) (pv 6)) (H9 (Ib (H9 Hv (H9 Hv HB))) HB)))))) Yr)
  (HA (JS (J0 K PySem.F.plainAttrs_list PySem.F.slot_list_insert PySem.F.type_list_insert WS (pv 2) (H9 (HS ky hr (pv 0) (HG Iu (HU K kq (pv 2)) Hv)) (H9 (pv 7) HB)))))))) Yr)
  (HC K (HF (i:=1) HN (HG Ou (pv 1) (HG Ot (IJ (H9 (Ib (H9 Hv (H9 Hv HB))) HB)) (HG Jf (HU K kq (pv 3)) (HU K kq (pv 1))))))
  (HC K (HF (i:=3) HN (HG Ou (pv 3) (HG Ot (IJ (H9 (Ib (H9 Hv (H9 Hv HB))) HB)) (HG Jf (HU K kq (pv 1)) (HU K kq (pv 3))))))
  (HC K (TQ (i:=9) rfl HN.nd rfl rfl (N:=["_law_one","_law_two"]) (nt:=2) (js:=[]) (J7 HN) (fM K rfl kK (H9 (pv 1) (H9 (pv 3) HB))) (λ_ _ _ _ _=>(pgT K (n:=2) rfl (IL (HM (i:=0) (show List.Nodup (["_law_one","_law_two"]:yr) from by decide +kernel) rfl (Or.inl rfl)) (IL (HM (i:=1) (show List.Nodup (["_law_one","_law_two"]:yr) from by decide +kernel) rfl (Or.inl rfl)) KL)))) (LF (IY Yd (IY Yd KU))) (λ_ _ _ _ _=>Iv) (λ_ _ _ _ _=>(HS kI hr (pv 0) (pv 1))) rfl)
  (HC K (HF (i:=10) HN (Qk lE hr rfl Ks (H9 (Ic lC hr (pv 2)) HB)))
  (HC K (Ig K (yv (Kr (HK Ml (JP (pv 10) ae.cl kC hr Ks (H9 (HG Il Ia (Ic kM hr (pv 9))) HB)) Ia) (K6 (HK Ml (JP (pv 10) ae.cl kC hr Ks (H9 (HG Il Ia (Ic kM hr (pv 1))) HB)) Ia)))) (HA (HH Kh)) HL)
  (HC K (HF (i:=11) HN (HS ky hr (pv 0) (HU K kq (pv 9))))
  (HC K (Nh (HS kI hr (HE (ixL K) (pv 9) (pv 11)) (Ib (H9 Hv (H9 Hv HB)))) (Oq (pv 9) (pv 11) LH))
  (HC K (HF (i:=12) HN (J0 K PySem.F.plainAttrs_str PySem.F.slot_str_join PySem.F.type_str_join (M9 K) Ia (H9 (Jj rfl (N:=["_law_x","_law_k"]) (nt:=2) (js:=[]) (J7 HN) (piL K (HS lD hr (pv 2) (pv 9))) (λ_ _ _ _ _=>(pgT K (n:=2) rfl (IL (HM (i:=0) (show List.Nodup (["_law_x","_law_k"]:yr) from by decide +kernel) rfl (Or.inl rfl)) (IL (HM (i:=1) (show List.Nodup (["_law_x","_law_k"]:yr) from by decide +kernel) rfl (Or.inl rfl)) KL)))) (LF (IY Yd (IY Yd KU))) (λ_ _ _ _ _=>Iv) (λ_ _ _ _ _=>(HG Il (HG Il (Ic kB hr (pv 0)) Ia) (Ij Jc rfl kx Kl (H9 (pv 1) HB))))) HB)))
  (HC K (Ig K (HK Jk (pv 12) Ia) (HA (HF (i:=12) HN Ia)) HL)
  (HC K (Ig K (HK Ml (JP (pv 10) ae.cl kC hr Ks (H9 (HG Il Ia (Ic kM hr (pv 9))) HB)) (pv 12)) (HA (HH Kh)) HL)
  (HA (HH (M4 Jk (JP (Qk lE hr rfl Ks (H9 (Ic lC hr (gP K (pv 2))) HB)) ae.cl kC hr Ks (H9 Ia HB)) (JP (pv 10) ae.cl kC hr Ks (H9 Ia HB)) (LA _))))))))))))))))))),?_⟩
 obtain⟨a,rfl,pn,q⟩:=h;have hs:=sK;have P0:0<=io:=by decide
 have P1:1<=io:=by decide
 have P2:2<=io:=by decide
 have P3:3<=io:=by decide
 refine Jo ⟨_,Z,a,3,Z,pn,Yd,Yd,λd G1 d0 d1 o1 p1=>⟨_,_,Z,Z,_,Z,Yl,Yl,?_⟩⟩;obtain⟨D,rfl⟩:=(rj d0);rw[show(1+(D:Int)).toNat=D+1 by lia]
 refine QD (L3 a H K λa H K i zs G=>Mv a H G/\Pen G a/\zs.length=i/\∃cz:yo,HR K G zs (iq cz)/\cz.length=i/\∀c∈cz,-4<=c/\c<=4) ⟨o1.mv,p1,Z,[],.nil,Z,(λ_ h=>nomatch h)⟩ (λi ys G _ h=>h.2.2.1) Yl ?_ ?_
 ·rintro i zs G hi di;obtain⟨mg,pg,cF,cz,ao,dO,bb⟩:=di
  try clear di
  refine⟨_,Z,a,9,Z,pg,Yd,Yd,λv G2 v0 v1 og eG=>⟨_,_,Z,Z,P2,λt ht=>?_⟩⟩;have nt:=yA (o:=.tup [.int (v-4),.int 1]) ht;refine⟨(mg.trans og.mv).trans nt.mv,eG.sm nt,by simp[cF],cz++[v-4],?_,by simp[dO],λc hc=>?_⟩
  ·rw[T6];exact Paired.snoc (yG (HR.mv ao pg og.mv) nt) (yF (by rw[Va];exact Hu))
  ·rcases pW.mp hc with z | z
   ·exact bb c z
   ·rw[sU.mp z];lia
 rintro cs G db cl bv;obtain⟨mg,pg,eX,cz,ao,dO,bb⟩:=db
 try clear db
 have J:=yA (o:=.lst cs) bv;have bO:cl≠a:=pg.ne' bv;have aK:=mg.trans J.mv;have bK:=pg.sm J;have aq:upd G cl (.lst cs) cl=some (.lst cs):=Hu;have al:=yG ao J;generalize upd G cl (.lst cs)=dl at aK bK aq al ⊢;clear mg pg ao J bv o1 p1;refine⟨P0,λpl bA=>?_⟩;have s2:=yA (o:=.lst []) bA;have aA:pl≠a:=bK.ne' bA;have cY:H pl=none:=Mv.free aK aA bA;have ej:cl≠pl:=HW aq bA;have au:upd dl pl (.lst []) pl=some (.lst []):=Hu;have cT:=aK.trans s2.mv;have p2:=bK.sm s2;have a6:=s2 _ _ aq;have bj:=yG al s2;generalize upd dl pl (.lst [])=G2 at au cT p2 a6 bj ⊢;clear s2 bA aK bK aq al;refine⟨_,Z,a,5,Z,p2,Yd,Yd,λv G3 v0 v1 o3 p3=>⟨_,_,Z,Z,P2,λt ht=>⟨P1,λmr bw=>?_⟩⟩⟩;have s3:=yA (o:=.tup [.int (1+v),.int 1]) ht;have s4:=s3.trans (yA (o:=.lst [.ref t]) bw);have an:mr≠a:=(p3.sm s3).ne' bw;have bi:=o3.mv.trans s4.mv;have am:=bi _ _ aA au
 have ar:mr≠pl:=λz=>by
  have e:=s3 _ _ (o3.mv _ _ aA au);rw[<- z,bw]at e;cases e
 have aW:=bi _ _ bO a6;have a1:=HR.mv bj p2 bi;have bQ:=cT.trans bi;have p4:=p3.sm s4;have ac:upd (upd G3 t (.tup [.int (1+v),.int 1])) mr (.lst [.ref t]) mr=some (.lst [.ref t]):=Hu;have ad:HR K (upd (upd G3 t (.tup [.int (1+v),.int 1])) mr (.lst [.ref t])) [.ref t] (iq [1+v]):=.cons (yF ((yA bw) _ _ (by rw[Va];exact Hu))) .nil
 generalize upd (upd G3 t (.tup [.int (1+v),.int 1])) mr (.lst [.ref t])=G4 at am aW a1 bQ p4 ac ad ⊢;clear s3 s4 bi ht bw cT p2 au a6 bj o3 p3;refine⟨_,Z,a,4,Z,p4,Yd,Yd,λf G5 f0 f1 o5 p5=>⟨_,_,Z,Z,?_⟩⟩;refine⟨_,Z,a,4,Z,p5,Yd,Yd,λn G6 n0 n1 o6 p6=>⟨_,_,Z,Z,_,Z,Yl,Yl,?_⟩⟩;obtain⟨N,rfl⟩:=(rj n0);rw[show(1+(N:Int)).toNat=N+1 by lia]
 have ag:=o5.mv.trans o6.mv;have cW:Og cz [1+v] (f-3) 0 []:=⟨(λ_ h=>nomatch h),Z,List.nodup_nil,(λ_ h=>nomatch h),(λ_ h=>nomatch h),(λ_ h=>nomatch h),(λ_ h=>nomatch h),Z,(by show(1+v).natAbs+0<=5*1;lia),qg _⟩
 refine Jv (n:=N+1) (L8 a H cl pl f cs K cz λa H cl pl f cs K cz i σ G=>Mv a H G/\Pen G a/\∃(zs:yt) (pss:ym) (mr:ge) (ms:yt) (mz:yo) (z5 z6 z7 z8:Option V),σ=[some (.ref a),some (.ref cl),some (.ref pl),some (.ref mr),some (.int (f-3)),z5,z6,z7,z8,none,none,none,none]/\G cl=some (.lst cs)/\HR K G cs (iq cz)/\G pl=some (.lst zs)/\Pts K G zs pss/\G mr=some (.lst ms)/\HR K G ms (iq mz)/\mr≠a/\mr≠pl/\Og cz mz (f-3) i pss) ⟨bQ.trans ag,p6,[],[],mr,_,[1+v],none,none,none,none,Z,ag _ _ bO aW,HR.mv a1 p4 ag,ag _ _ aA am,.nil,ag _ _ an ac,HR.mv ad p4 ag,an,ar,cW⟩ ?_ ?_
 ·clear am aW a1 bQ p4 ac ad o5 o6 p5 p6 ag an ar mr cW;rintro i σ G hi dP;refine Mg dP λmv pG bF=>?_;refine ju bF λzs pss mr ms mz z5 z6 z7 z8 aR=>?_;clear bF;refine Zc aR λcL aq ao au a2 ac ad an ar og=>?_;clear aR;obtain rfl:=cL
  try clear dP
  refine⟨_,Z,_,Z,_,_,Z,Z,P2,λxa c8=>?_⟩;rw[show f-3+(0+(i:Int))=f-3+i by lia]at *
  obtain⟨X,hX⟩:∃X:Int,X=f-3+i:=⟨_,Z⟩;rw[<- hX];have J:=yA (o:=.tup [.int X,.int 1]) c8;have ex:upd G xa (.tup [.int X,.int 1]) xa=some (nT (X:Rat)):=by rw[Va];exact Hu
  have eD : -3<=X/\X<=3:=by lia
  generalize upd G xa (.tup [.int X,.int 1])=Ga at J ex ⊢;have bW:=J _ _ au;have aP:=J _ _ aq;have bX:=J _ _ ac;have al:=yG ao J;have cb:=yG ad J;have b1:=Pts.same a2 J;have p1:=pG.sm J;have aK:=mv.trans J.mv;clear J c8 au aq ac ao ad a2 pG mv;have bP:RB 20 (X:Rat):=IK (Mc Yl)
  have cR:∀q∈iq cz,RB 20 q:=λq hq=>by
   obtain⟨c,hc,rfl⟩:=(tR.mp hq);have:=bb c hc;exact IK (Mc Yl)
  have eW:(iq cz).length<=3:=by rw[qz];lia
  have bnd:(20+11+20*(iq cz).length+4)*((iq cz).length+2)<=90000000:=by
   have:(20+11+20*(iq cz).length+4)*((iq cz).length+2)<=(20+11+20*3+4)*(3+2):=uP Yl Yl
   lia
  have bV:(20+20*(iq cz).length+4)*((iq cz).length+2)<=90000000:=pQ (tw _ Yl) bnd;refine⟨_,Z,_,Z,_,Z,true,cl,xa,cs,iq cz,X,20,20,Z,yw aP,al,HP.u (yF ex) bP,cR,bP,bV,λha Gb s2 eh _=>?_⟩;refine⟨_,Z,_,Z,cl,xa,cs,iq cz,X,20,20,Z,yw (s2 _ _ aP),yG al s2,yF (s2 _ _ ex),cR,bP,Yl,Yd,bnd,λsa Gc s3 es _=>⟨P3,λta bG=>?_⟩⟩;have s4:=(s2.trans s3).trans (yA (o:=.tup [.ref xa,.ref ha,.ref sa]) bG);have aF:=s3.trans (yA (o:=.tup [.ref xa,.ref ha,.ref sa]) bG);have bR:upd Gc ta (.tup [.ref xa,.ref ha,.ref sa]) ta=some (.tup [.ref xa,.ref ha,.ref sa]):=Hu;have a4:=s4 _ _ ex;have bL:=aF _ _ eh;have bN:=(yA (o:=.tup [.ref xa,.ref ha,.ref sa]) bG) _ _ es;generalize upd Gc ta (.tup [.ref xa,.ref ha,.ref sa])=Gd at s4 bR a4 bL bN ⊢;clear s2 s3 aF bG eh es ex;refine⟨_,Z,a,2,Z,p1.sm s4,Yd,Yd,λu Ge u0 u1 o5 p5=>?_⟩;obtain⟨U,rfl⟩:=(rj u0);have p4:=p1.sm s4;have m5:=s4.mv.trans o5.mv;refine⟨_,_,Z,Z,((2+U:Nat):Int),Z,JY (v:=2+U) (yx (o5.mv _ _ (p4.ne bR (by intro _ _ _ z;cases z)) bR)) (by lia:2+U<=3) λw Gf s6 hw=>?_⟩
  have m6:=m5.trans s6.mv;have ag:=o5.mv.trans s6.mv;have el:Cv.ev (IE (iq cz)) (X:Rat)=Cv.ev (L2.dL (iq cz)) (X:Rat):=L2.Mt _ _;have dw:HR K Gf [.ref xa,.ref ha,.ref sa] [(X:Rat),Cv.ev (iq cz) (X:Rat),Cv.ev (IE (iq cz)) (X:Rat)]:=.cons (yF (ag _ _ (p4.ne a4 (NS _)) a4)) (.cons (yF (ag _ _ (p4.ne bL (NS _)) bL)) (.cons (yF (ag _ _ (p4.ne bN (NS _)) bN)) .nil));have d3:Gf xa=some (nT (X:Rat)):=ag _ _ (p4.ne a4 (NS _)) a4;obtain⟨ps,a8⟩:∃ps:yn,ps=[(X:Rat),Cv.ev (iq cz) (X:Rat),Cv.ev (IE (iq cz)) (X:Rat)].take (2+U):=⟨_,Z⟩;have dH:ps.length=2+U:=by rw[a8,qN];show min (2+U) 3=_;lia
  have cP:=XG (cz:=cz) Yl bb eD
  have eA:∀q∈ps,Fg q:=λq hq=>by
   rw[a8]at hq;have eL:=uM hq
   rcases pV.mp eL with z | z
   ·rw[z];exact Mc Yl
   rcases pV.mp z with z | z
   ·rw[z];exact cP.1
   ·rw[sU.mp z];exact cP.2
  have hu:U=0\/U=1:=by lia
  have eN:ps.getD 0 0=(X:Rat):=by rw[a8];rcases hu with rfl | rfl<;>rfl
  have dz:OnC (iq cz) ps:=by
   rw[a8]
   rcases hu with rfl | rfl
   ·exact⟨Z,λz=>by cases z⟩
   ·exact⟨Z,λ_=>el.symm⟩
  have c0:PtV K Gf (.ref w) ps:=⟨w,Z,_,hw,by rw[a8];exact yD (2+U) dw⟩
  have cC:([V.ref xa,V.ref ha,V.ref sa].take (2+U)).length=2+U:=by rw[qN];show min (2+U) 3=_;lia
  have cm:=m6 _ _ aA bW;have dN:=m6 _ _ bO aP;have df:=m6 _ _ an bX;have de:=HR.mv al p1 m6;have c9:=HR.mv cb p1 m6;have dR:=Pts.mv b1 p1 m6;have p6:=p5.sm s6;have eQ:=aK.trans m6;clear bW aP bX al cb b1 p1 aK s4 bR a4 bL bN o5 p5 s6 m5 m6 ag p4 dw bnd bV cP cR
  -- lines
  refine⟨_,Z,w,_,Z,.inr hw,_,_,Z,Z,_,Z,by rw[cC];lia,by rw[cC];lia,?_⟩
  rw[cC,show(((2+U:Nat):Int)-1).toNat=U+1 by lia]
  have cX:=og.ms;have dY:=og.ml;have eO:=og.t2;have dr:5*4 ^ (HI pss).length<=5*4 ^ 6:=uH _ (sY Yd Yl);refine Jv (n:=U+1) (L11 Gf a cl pl f i xa w K X mz λGf a cl pl f i xa w K X mz j σ G'=>Hy Gf G'/\∃(mr:ge) (ms:yt) (z8:Option V),σ=[some (.ref a),some (.ref cl),some (.ref pl),some (.ref mr),some (.int (f-3)),some (.int (0+(i:Int))),some (.ref xa),some (.ref w),z8,none,none,none,none]/\G' mr=some (.lst ms)/\HR K G' ms (iq (lnP X j mz))/\mr≠a/\mr≠pl) ⟨yy _,mr,ms,_,Z,df,c9,an,ar⟩ ?_ ?_
  ·rintro j σ G' hj dn;refine Jh dn λsm be=>?_;refine Lh be λmr ms z8 aY=>?_;clear be;refine N0 aY λcv ac ad an ar=>?_;clear aY;obtain rfl:=cv
   try clear dn
   refine⟨_,Z,P2,λt0 eH=>⟨_,Z,?_⟩⟩;have s0:=yA (o:=.tup [.int 0,.int 1]) eH;have en:OR K (upd G' t0 (.tup [.int 0,.int 1])) (.ref t0) 0 1:=⟨t0,0,1,Z,yx Hu,Yd,by unfold Bd;decide,by unfold Bd;decide,Z⟩
   refine⟨_,_,0,(X:Rat),1,20,Z,en,yF ((sm.trans s0) _ _ d3),bP,Yd,λr0 dX=>⟨P2,λt1 aM=>⟨P2,λl hl=>?_⟩⟩⟩;have J:=yA (o:=nT (0-(X:Rat))) dX;have s2:=yA (o:=.tup [.int 1,.int 1]) aM;have s3:=yA (o:=.lst [.ref r0,.ref t1]) hl;have cB:=((s0.trans J).trans s2).trans s3;have nl:HR K (upd (upd (upd (upd G' t0 (.tup [.int 0,.int 1])) r0 (nT (0-(X:Rat)))) t1 (.tup [.int 1,.int 1])) l (.lst [.ref r0,.ref t1])) [.ref r0,.ref t1] [0-(X:Rat),1]:=.cons (yF (s3 _ _ (s2 _ _ Hu))) (.cons (yF (q:=1) (s3 _ _ Hu)) .nil);have e2:=Vg (a:=X) (l:=mz) Yl cX j;have d7:4 ^ j<=4 ^ 1:=sY Yd Yl
   have eK:sI (lnP X j mz)<10 ^ 6:=by
    have:5*4 ^ (HI pss).length*4 ^ j<=5*4 ^ 6*4 ^ 1:=uP dr d7
    lia
   have dj:=Lc X mz j;refine⟨mr,l,ms,_,iq (lnP X j mz),[0-(X:Rat),1],20,21,Z,yw (cB _ _ ac),yG ad cB,yw Hu,nl,λq hq=>IK (Nu eK q hq),λq hq=>?_,Yd,by rw[qz];lia,(by decide:1<=2),by rw[qz];lia,(by decide:2<=20),λd2 G2 eu ns s4 cg dQ du eC eq _=>?_⟩
   ·rcases pV.mp hq with z | z
    ·rw[z,show(0:Rat)-(X:Rat)=((0-X:Int):Rat) by rw[sj];rfl]
     exact(IK (Mc Yl)).mono Yd
    ·rw[sU.mp z];exact⟨by unfold Bd;decide,by unfold Bd;decide⟩
   have d4:ns=iq (lnP X (j+1) mz):=Ws (by rw[eC,qz];show(lnP X j mz).length+2-1=_;rw[Lc,Lc];lia) λx=>by
    rw[eq];show _=Cv.ev (iq (lnI X (lnP X j mz) 0)) x;rw[Py];show _*((0-(X:Rat))+x*(1+x*0))=_
    grind
   rw[d4]at du;have cO:=sm.trans cB
   exact⟨cO.trans s4,d2,eu,_,Z,dQ,du,(p6.sm cO).ne' cg,λz=>by
    have e:=cO _ _ cm;rw[<- z,cg]at e;cases e⟩
  rintro σ Gg dc;refine Jh dc λsm bE=>?_;refine Lh bE λmr ms z8 aS=>?_;clear bE;refine N0 aS λcK ac ad an ar=>?_;clear aS;obtain rfl:=cK
  try clear dc
  have bD:=sm _ _ cm;have bZ:=Pts.same dR sm;have cF:=bZ.length;have d5:=og.len;have pg:=p6.sm sm;refine⟨_,Z,.inl ⟨Z,_,yw bD⟩,_,Z,_,Z,pl,zs,Z,.inl (yw bD),_,_,Z,Z,a,_,Z,pg,Yl,Yl,λk Gh k0 k1 o7 p7=>⟨_,Z,?_⟩⟩;obtain⟨k',rfl⟩:=(rj k0);have ax:=o7.mv _ _ aA bD;have m7:=sm.mv.trans o7.mv;refine⟨pl,zs,k',.ref w,Z,Z,ax,Yl,Yl,?_⟩
  have cu:(pss.take k'++ps::pss.drop k').Perm (ps::pss):=by
   refine List.perm_middle.trans ?_;rw[tU]
  have co:=Pts.mv bZ pg o7.mv;refine⟨Mv.put' (eQ.trans m7) cY,p7.put' aA,_,pss.take k'++ps::pss.drop k',mr,ms,lnP X (U+1) mz,_,_,_,_,Z,by rw[HZ ej];exact m7 _ _ bO dN,HR.put (HR.mv de p6 m7) ax,Hu,?_,by rw[HZ ar];exact o7.mv _ _ an ac,HR.put (HR.mv ad pg o7.mv) ax,an,ar,?_⟩
  ·exact yE (yD _ (Pts.put co ax)) (.cons (PtV.put (PtV.mv c0 p6 m7) ax) (Jn _ (Pts.put co ax)))
  ·have:=og.step (ps:=ps) ⟨Yl,Yl⟩ cu Yl (by rw[eN,hX]) dz eA
   rw[dH,show 2+U-1=U+1 by lia,<- hX]at this
   exact this
 clear am aW a1 bQ p4 ac ad o5 o6 p5 p6 ag an ar mr cW;rintro σ G dU;refine Mg dU λmv pG bB=>?_;refine ju bB λzs pss mr ms mz z5 z6 z7 z8 aT=>?_;clear bB;refine Zc aT λcU aq ao au a2 ac ad an ar og=>?_;clear aT;obtain rfl:=cU
 try clear dU
 have cF:=a2.length;have dT:=ad.length;have dt:=ao.length;rw[qz]at dT dt;have dY:=og.ml;have cX:=og.ms;have eO:=og.t2;have dr:5*4 ^ (HI pss).length<=5*4 ^ 8:=uH _ (sY Yd Yl);have e5:=TJ bb
 -- both as long
 refine⟨_,Z,P2,λt1 aM=>⟨P1,λl1 aL=>?_⟩⟩;have J:=(yA (o:=.tup [.int 0,.int 1]) aM).trans (yA (o:=.lst [.ref t1]) aL);have aD:HP K (upd (upd G t1 (.tup [.int 0,.int 1])) l1 (.lst [.ref t1])) (.ref t1) 0:=yF (q:=0) ((yA aL) _ _ Hu);have aC:(upd (upd G t1 (.tup [.int 0,.int 1])) l1 (.lst [.ref t1])) l1=some (.lst [.ref t1]):=Hu;generalize upd (upd G t1 (.tup [.int 0,.int 1])) l1 (.lst [.ref t1])=Ga at J aD aC ⊢;obtain⟨Y,e3⟩:∃Y,Y=mz.length-cz.length:=⟨_,Z⟩;have dh:(((ms.length:Nat):Int)-((cs.length:Nat):Int)).toNat=Y:=by lia
 refine⟨_,Z,mr,ms,Z,.inl (yw (J _ _ ac)),_,Z,cl,cs,Z,.inl (yw (J _ _ aq)),_,_,Z,Z,l1,_,_,Z,Z,aC,Yl,Yl,by rw[dh];show 1*Y<=io;lia,λl2 aG=>?_⟩
 rw[dh];have s2:=J.trans (yA (o:=.lst (qK Y [V.ref t1]).flatten) aG);have aJ:=yG (LJ aD Y) (yA (o:=.lst (qK Y [V.ref t1]).flatten) aG);have b7:=aJ.length;rw[qW]at b7;refine⟨cl,l2,_,_,Z,Z,s2 _ _ aq,Hu,by rw[b7];lia,λc2 cJ=>?_⟩
 have s3:=s2.trans (yA (o:=.lst (cs++(qK Y [V.ref t1]).flatten)) cJ)
 have a3:HR K (upd (upd Ga l2 (.lst (qK Y [V.ref t1]).flatten)) c2 (.lst (cs++(qK Y [V.ref t1]).flatten))) (cs++(qK Y [V.ref t1]).flatten) (iq (cz++qK Y 0)):=by
  rw[T6,show iq (qK Y 0)=qK Y (0:Rat) from sy];exact yG (yE (yG ao s2) aJ) (yA cJ)
 have ba:(upd (upd Ga l2 (.lst (qK Y [V.ref t1]).flatten)) c2 (.lst (cs++(qK Y [V.ref t1]).flatten))) c2=some (.lst (cs++(qK Y [V.ref t1]).flatten)):=Hu;generalize upd (upd Ga l2 (.lst (qK Y [V.ref t1]).flatten)) c2 (.lst (cs++(qK Y [V.ref t1]).flatten))=Gb at s3 a3 ba ⊢;clear J s2 aD aC aJ aM aL aG cJ;generalize d8:cs++(qK Y [V.ref t1]).flatten=cx at a3 ba ⊢;have dp:=a3.length;rw[qz,qV,qW]at dp;have bq:=s3 _ _ ac;have bU:=yG ad s3;refine⟨_,Z,P2,λt1 aM=>⟨P1,λl1 aL=>?_⟩⟩;have J:=(yA (o:=.tup [.int 0,.int 1]) aM).trans (yA (o:=.lst [.ref t1]) aL);have aD:HP K (upd (upd Gb t1 (.tup [.int 0,.int 1])) l1 (.lst [.ref t1])) (.ref t1) 0:=yF (q:=0) ((yA aL) _ _ Hu);have aC:(upd (upd Gb t1 (.tup [.int 0,.int 1])) l1 (.lst [.ref t1])) l1=some (.lst [.ref t1]):=Hu;generalize upd (upd Gb t1 (.tup [.int 0,.int 1])) l1 (.lst [.ref t1])=cy at J aD aC ⊢;obtain⟨W,eY⟩:∃W,W=cz.length+Y-mz.length:=⟨_,Z⟩;have dG:(((cx.length:Nat):Int)-((ms.length:Nat):Int)).toNat=W:=by lia
 refine⟨_,Z,c2,cx,Z,.inl (yw (J _ _ ba)),_,Z,mr,ms,Z,.inl (yw (J _ _ bq)),_,_,Z,Z,l1,_,_,Z,Z,aC,Yl,Yl,by rw[dG];show 1*W<=io;lia,λl2 aG=>?_⟩
 rw[dG];have s2:=J.trans (yA (o:=.lst (qK W [V.ref t1]).flatten) aG);have aJ:=yG (LJ aD W) (yA (o:=.lst (qK W [V.ref t1]).flatten) aG);have b3:=aJ.length;rw[qW]at b3;refine⟨mr,l2,_,_,Z,Z,s2 _ _ bq,Hu,by rw[b3];lia,λm2 cA=>?_⟩
 have s4:=s2.trans (yA (o:=.lst (ms++(qK W [V.ref t1]).flatten)) cA)
 have a5:HR K (upd (upd cy l2 (.lst (qK W [V.ref t1]).flatten)) m2 (.lst (ms++(qK W [V.ref t1]).flatten))) (ms++(qK W [V.ref t1]).flatten) (iq (mz++qK W 0)):=by
  rw[T6,show iq (qK W 0)=qK W (0:Rat) from sy];exact yG (yE (yG bU s2) aJ) (yA cA)
 have bf:(upd (upd cy l2 (.lst (qK W [V.ref t1]).flatten)) m2 (.lst (ms++(qK W [V.ref t1]).flatten))) m2=some (.lst (ms++(qK W [V.ref t1]).flatten)):=Hu;generalize upd (upd cy l2 (.lst (qK W [V.ref t1]).flatten)) m2 (.lst (ms++(qK W [V.ref t1]).flatten))=Gc at s4 a5 bf ⊢;clear J s2 aD aC aJ aM aL aG cA bq bU;generalize dW:ms++(qK W [V.ref t1]).flatten=mx at a5 bf ⊢;have b9:=a5.length;rw[qz,qV,qW]at b9;obtain⟨cw,br⟩:∃cw,cw=cz++qK Y 0:=⟨_,Z⟩;obtain⟨mw,bz⟩:∃mw,mw=mz++qK W 0:=⟨_,Z⟩;rw[<- br]at a3;rw[<- bz]at a5;have ei:cw.length=cx.length:=by rw[br,qV,qW];lia
 have eg:mw.length=mx.length:=by rw[bz,qV,qW];lia
 have dI:cw.length=mw.length:=by lia
 have fl:sI cw<=12:=by rw[br,US,UR];lia
 have eT:sI mw<=5*4 ^ 8:=by rw[bz,US,UR];lia
 have aF:=s3.trans s4;have am:=aF _ _ au;have ca:=Pts.same a2 aF;have bn:=yG a3 s4;have aB:=s4 _ _ ba;have p4:=pG.sm aF;have cN:cx.length<=10:=by lia
 have cI:1<=cx.length:=by lia
 have cq:∀x,Cv.ev (iq cw) x=Cv.ev (iq cz) x:=λx=>by rw[br];exact YF cz Y x
 have c4:∀x,Cv.ev (iq mw) x=Cv.ev (iq mz) x:=λx=>by rw[bz];exact YF mz W x
 have e0:min cx.length mx.length=cx.length:=by lia
 clear a3 ba s3 s4 aF mv pG au a2 aq ao ac ad br bz d8 dW
 -- the other curve
 refine Jo ⟨_,Z,_,Z,c2,m2,cx,mx,Z,yw aB,yw bf,?_⟩;refine ia (xs:=cx) (ys:=mx) (L4 Gc K cw mw λGc K cw mw i us G'=>Hy Gc G'/\us.length=i/\HR K G' us ((iq (v7 (· + ·) cw mw)).take i)) ⟨yy _,Z,.nil⟩ (λi us G' _ h=>⟨yw (h.1 _ _ aB),yw (h.1 _ _ bf),h.2.1⟩) Yl ?_ ?_
 ·rintro i x y T us G' hx hy hT ⟨sm,eb,ee⟩;obtain⟨u0,c6,eP⟩:=(yB bn hx);obtain⟨v2,c7,eo⟩:=(yB a5 hy);rw[qR]at c6 c7;obtain⟨u,hu,rfl⟩:=(rQ.mp c6);obtain⟨v',hv,rfl⟩:=(rQ.mp c7);have e4:=Qe (qU hu);have d9:=Qe (qU hv);have sT:=sm.trans (yA (o:=.tup [x,y]) hT);refine⟨_,Z,_,Z,_,_,_,_,20,20,Z,eP.same sT,eo.same sT,IK (Mc Yl),IK (Mc Yl),Yd,λr hr=>?_⟩;have sr:=yA (o:=nT ((u:Rat)+(v':Rat))) hr;refine⟨sT.trans sr,by simp[eb],?_⟩
  rw[sC,qR,List.getElem?_zipWith,hu,hv];refine Paired.snoc (yG (yG ee (yA hT)) sr) ?_;show HP K _ (.ref r) ((u+v':Int):Rat);rw[se];exact yF Hu
 rintro os G' ⟨sm,d5,bJ⟩ ol av;obtain⟨oz,bC⟩:∃oz,oz=v7 (· + ·) cw mw:=⟨_,Z⟩;rw[<- bC]at bJ;have cM:oz.length=cx.length:=by rw[bC,List.length_zipWith];lia
 have fa:sI oz<=5*4 ^ 8+12:=by rw[bC];exact pQ Xf Yl
 have ez:∀x,Cv.ev (iq oz) x=Cv.ev (iq cz) x+Cv.ev (iq mz) x:=λx=>by rw[bC,Xg x dI,cq,c4]
 rw[tX (by rw[qz,cM];lia)]at bJ
 have J:=sm.trans (yA (o:=.lst os) av);have aX:=yG bJ (yA (o:=.lst os) av);have cV:upd G' ol (.lst os) ol=some (.lst os):=Hu;have aN:=J _ _ am;have aV:=Pts.same ca J;have a7:=yG bn J;have bu:=J _ _ aB;have p5:=p4.sm J;generalize upd G' ol (.lst os)=Gd at aX cV aN aV a7 bu p5 ⊢;have dJ:=aX.length;rw[qz]at dJ;have dZ:ol≠a:=(p4.sm sm).ne' av
 have eR:ol≠pl:=λz=>by
  have e:=sm _ _ am;rw[<- z,av]at e;cases e
 have ff:ol≠c2:=λz=>by
  have e:=sm _ _ aB;rw[<- z,av]at e;cases e
 clear J sm bJ av bC a5 bf am ca bn aB p4 c4 b9 eg eT dI;have ak:=og.ak ⟨Yl,Yl⟩ Yl;have aI:=og.h23;have dC:=og.nd;have e6:=og.len
 -- the desk
 refine⟨_,Z,true,pl,zs,pss,Z,yw aN,aV,aI,og.fg,Yl,λGe s6=>?_⟩;intro o dx ho dM eV;have sd:Hy Ge (upd (upd Ge dx (.own o)) o (.ins O dx [])):=λb u e=>by rw[HZ (HW e ho),HZ (HW e dM)];exact e
 refine⟨o,dx,pss,Z,Hu,Yl,aI,og.fg,dC,Yl,λr' a9 Gf bt ed bM=>⟨Z,?_⟩⟩;have s7:Hy Gd Gf:=λb u e=>bt b u (HW (s6 _ _ e) ho) (sd _ _ (s6 _ _ e));have bo:=yG aX s7;have bh:=s7 _ _ cV;have b6:=s7 _ _ aN;have b2:=Pts.same aV s7;have ce:=yG a7 s7;have b0:=s7 _ _ bu;have p7:=p5.sm s7;clear s6 ho dM eV sd bt s7 aX cV aN aV a7 bu p5;have fo:∀q∈iq oz,Fg q:=Nu Yl;have fc:∀q∈iq cw,Fg q:=Nu Yl;have ay:(iq oz).length=cx.length:=by rw[qz];exact cM
 have bT:(iq cw).length=cx.length:=by rw[qz];exact ei
 have ro:∀{zq:yn},(∀q∈zq,Fg q)->zq.length=cx.length->(Str.ofString "misses ").length+(Str.join Iz (zq.map tx)).length+2<=io/\Txt.split (Str.ofString "misses " ++ Str.join Iz (zq.map tx)) (Str.ofString " ")=wd 9::zq.map tx:=λhf hl=>by
  rw[show Str.ofString "misses " = wd 9++Str.ofString " " by decide +kernel]
  exact Sn (.inr (.inr rfl)) hf Yl Yl
 have r1:=ro fo ay;have r2:=ro fc bT;refine⟨_,Z,o,dx,_,Z,ed,Z,_,Z,true,ol,os,iq oz,Z,yw bh,bo,λq hq=>(fo q hq).fh,Yl,λGg s8=>⟨_,_,Z,Z,Yl,o,dx,r',a9,_,9,iq oz,pss,Z,r1.2,by rw[Jg];lia,s8 _ _ ed,bM.same s8,by rw[ay];exact cI,by rw[ay];exact pQ cN (by decide:10<=16),fo,.inr ⟨Yd,Yd,ak,λt Gh s9 ha=>⟨Z,_,Z,?_⟩⟩⟩⟩
 obtain rfl:=ha.i9;rw[show msd (iq oz) (HI pss)=[] from Vb aI λps hp=>gr ez (og.on ps hp) (og.zr ps hp)];rw[decide_eq_true (show V.str (KN [])=V.str (Str.ofString "none") from rfl)];have ai:=s8.trans s9;refine IX ⟨_,Z,o,dx,_,Z,ai _ _ ed,Z,_,Z,true,c2,cx,iq cw,Z,yw (ai _ _ b0),yG ce ai,λq hq=>(fc q hq).fh,Yl,λGi aa=>⟨_,_,Z,Z,Yl,o,dx,r',a9,_,9,iq cw,pss,Z,r2.2,by rw[Jg];lia,(ai.trans aa) _ _ ed,bM.same (ai.trans aa),by rw[bT];exact cI,by rw[bT];exact pQ cN (by decide:10<=16),fc,.inr ⟨Yd,Yd,ak,λt Gj bI dE=>⟨Z,_,Z,?_⟩⟩⟩⟩
 obtain rfl:=dE.i9
 have dA:∀ps∈pss,OnC (iq cw) ps:=λps hp=>by
  obtain⟨z1,z2⟩:=(og.on ps hp);exact⟨by rw[cq];exact z1,λh3=>by rw[L2.Oi cq];exact z2 h3⟩
 rw[show msd (iq cw) (HI pss)=[] from Vb aI dA];refine Ii (by rw[decide_eq_true (show V.str (KN [])=V.str (Str.ofString "none") from rfl)]<;>rfl) ?_
 have ap:=(ai.trans aa).trans bI;have cn:=yG bo ap;have bc:=ap _ _ bh;have ck:=ap _ _ b6;have cj:=Pts.same b2 ap;have p8:=p7.sm ap;have cD:=ap _ _ ed;have dF:=bM.same ap;clear s8 s9 ai aa bI ap ha dE r1 r2 bo bh b6 b2 ce b0 p7 ed bM fc bT dA
 -- one number more
 refine⟨_,Z,_,Z,ol,os,Z,.inl (yw bc),a,_,Z,p8,Yl,Yl,λk Gk k0 k1 o9 p9=>?_⟩;obtain⟨k',rfl⟩:=(rj k0);have bx:=o9.mv _ _ dZ bc;have bp:=HR.mv cn p8 o9.mv;have ec:k'<oz.length:=by lia
 obtain⟨ah,bH⟩:∃v',oz[k']? = some v':=⟨_,sV ec⟩;obtain⟨xv,dS,cf⟩:=yC bp (show(iq oz)[k']? = some ((ah:Int):Rat) by rw[qR,bH];rfl)
 have d9:=Qe (qU bH);refine⟨_,Z,_,Z,ol,os,_,xv,Z,Z,yw bx,HQ dS,P2,λt ht=>?_⟩;have J:=yA (o:=.tup [.int 1,.int 1]) ht;refine⟨_,_,_,1,20,20,Z,cf.same J,yF (q:=1) Hu,IK (Mc Yl),⟨by unfold Bd;decide,by unfold Bd;decide⟩,Yd,λr hr=>?_⟩
 have s2:=J.trans (yA (o:=nT ((ah:Rat)+1)) hr);have aj:=s2 _ _ bx;refine⟨_,Z,_,Z,ol,os,_,k',Z,Z,aj,NW Yl Yl,?_⟩;have bg:=o9.mv.trans s2.mv;have cc:=bg _ _ (λz=>aA z) ck;have b4:=Pts.mv cj p8 bg;have cG:=bg _ _ (p8.ne cD (λ_ _ _ z=>by cases z)) cD
 have aH:=dF.mv p8 bg;have pA:=p9.sm s2
 have aw:HR K (upd (upd (upd Gk t (.tup [.int 1,.int 1])) r (nT ((ah:Rat)+1))) ol (.lst (os.set k' (.ref r)))) (os.set k' (.ref r)) (iq (oz.set k' (ah+1))):=by
  rw[show iq (oz.set k' (ah+1))=(iq oz).set k' ((ah:Rat)+1) by
   show List.map _ _=_;rw[sx,se];rfl]
  exact Paired.set (HP.put (yF Hu) aj) k' (HR.put (yG bp s2) aj)
 have aZ:(upd (upd (upd Gk t (.tup [.int 1,.int 1])) r (nT ((ah:Rat)+1))) ol (.lst (os.set k' (.ref r)))) pl=some (.lst zs):=by rw[HZ (Ne.symm eR)];exact cc
 have aU:Pts K (upd (upd (upd Gk t (.tup [.int 1,.int 1])) r (nT ((ah:Rat)+1))) ol (.lst (os.set k' (.ref r)))) zs pss:=Pts.put b4 aj;have cQ:(upd (upd (upd Gk t (.tup [.int 1,.int 1])) r (nT ((ah:Rat)+1))) ol (.lst (os.set k' (.ref r)))) o=some (dk O dx r'):=by rw[HZ (Ku cG aj (λz=>by cases z))];exact cG
 have cE:Pok K (upd (upd (upd Gk t (.tup [.int 1,.int 1])) r (nT ((ah:Rat)+1))) ol (.lst (os.set k' (.ref r)))) r' a9 pss:=⟨aH.S.put aj,Ie.put aH.P aj,aH.h23,aH.h1,aH.nd,aH.h12⟩;have az:(upd (upd (upd Gk t (.tup [.int 1,.int 1])) r (nT ((ah:Rat)+1))) ol (.lst (os.set k' (.ref r)))) ol=some (.lst (os.set k' (.ref r))):=Hu;generalize upd (upd (upd Gk t (.tup [.int 1,.int 1])) r (nT ((ah:Rat)+1))) ol (.lst (os.set k' (.ref r)))=GB at aw aZ aU cQ cE az ⊢;generalize ek:os.set k' (.ref r)=ob at aw az ⊢;have d6:=gA bH;have b5:(oz.set k' (ah+1)).length=cx.length:=by rw[rB];exact cM
 have da:True:=trivial;generalize oz.set k' (ah+1)=ow at aw d6 b5;clear J s2 bg cc b4 cG aH pA aj bx bp o9 p9 cn bc ck cj p8 cD dF cf dS bH hr ht ek da fo ay;have fo:∀q∈iq ow,Fg q:=Nu Yl;have ay:(iq ow).length=cx.length:=by rw[qz];exact b5
 have r1:=ro fo ay;refine⟨Z,?_⟩;refine Jo ⟨_,Z,_,Z,true,pl,ol,zs,ob,pss,iq ow,20,20,Z,yw aZ,aU,aI,Yl,yw az,aw,Yl,λps hp x hx=>IK (og.fg ps hp x hx),λx hx=>IK (fo x hx),Yd,Yd,?_,λm ef vs ai hm em bS=>?_⟩
 ·have:(20+11+20*(iq ow).length+4)*((iq ow).length+2)<=(20+11+20*16+4)*(16+2):=uP Yl Yl
  lia
 have aO:=T2 (cs:=iq ow) aI og.fg;have dj:(msd (iq ow) (HI pss)).length<=(HI pss).length:=by unfold msd;rw[qz];exact vc ..
 have dV:∀t,Ans pss (iq ow) 9 t->t=KN (msd (iq ow) (HI pss)):=λt h=>h.i9;generalize msd (iq ow) (HI pss)=af at bS aO dj dV;have dD:=bS.length;refine⟨m,Z,⟨_,yw em⟩,?_⟩;refine Vj (xs:=vs) (λi us G=>G=ef/\us=((af.take i).map mtx).map V.str) ⟨Z,Z⟩ (λi us G hi h=>⟨by rw[h.1];exact yw em,by rw[h.2,qz,qz,qN];exact uu ..⟩) Yl ?_ ?_
 ·rintro i v us G hv ⟨rfl,rfl⟩;obtain⟨m0,dB,a0,rx,rfl,er,eF⟩:=(yB bS hv);obtain⟨dm,hk⟩:=(aO m0 (qU dB));have fr:=MT dm.fh;have l1:(Str.ofString ";").length=1:=by decide +kernel
  have l2:(txI m0.2).length=1:=by rcases hk with z | z<;>rw[z]<;>decide +kernel
  have l3:m0.2.natAbs.log2<1920:=by rcases hk with z | z<;>rw[z]<;>decide +kernel
  refine⟨a0,rx,.int m0.2,Z,er,?_⟩;unfold QP;refine Kv ⟨_,Z,rx,m0.1,Z,eF,dm.fh,_,_,Z,Z,by rw[l1,hs];lia,_,Z,m0.2,Z,l3,_,_,Z,Z,?_,Z,?_⟩
  ·show(tx m0.1++Str.ofString ";").length+(txI m0.2).length<=io;rw[Jg,l1,l2,hs];lia
  rw[sC,dB,sD,sD];rfl
 rintro us G ⟨rfl,rfl⟩ j hj;rw[dD,va];refine⟨_,j,af.map mtx,Z,Z,yw Hu,Kk Yk (λt ht=>?_) (by rw[qz];lia),?_⟩
 ·obtain⟨c,hc,rfl⟩:=(tR.mp ht);exact pQ (SY (aO c hc).1 (aO c hc).2) Yd
 have aa:=ai.trans (yA (o:=.lst ((af.map mtx).map V.str)) hj);have ci:=aa _ _ aZ;have cp:=Pts.same aU aa;have bl:=aa _ _ cQ;have cr:=cE.same aa;have bY:=aa _ _ az;have b8:=yG aw aa;generalize upd G j (.lst ((af.map mtx).map V.str))=GC at ci cp bl cr bY b8 ⊢;clear aa ai bS em hm hj dD aZ aU cQ cE az aw
 try dsimp only
 refine K9 (L13 GC a c2 pl m2 f z5 z6 z7 z8 ol k' af λGC a c2 pl m2 f z5 z6 z7 z8 ol k' af c5 G=>G=GC/\c5=[some (.ref a),some (.ref c2),some (.ref pl),some (.ref m2),some (.int (f-3)),z5,z6,z7,z8,some (.ref ol),some (.ref o),some (.int (k':Nat)),some (.str (KN af))]) (λnx dK=>?_) ?_
 ·refine⟨_,Z,Z,_,Z,?_⟩;by_cases h0:af=[]
  ·exact IT (by rw[decide_eq_true (by rw[h0];decide +kernel:V.str (Str.join (Str.ofString " ") (af.map mtx))=V.str (Str.ofString ""))]<;>rfl) (dK _ _ ⟨Z,by rw[show KN af=_ from if_pos h0];rfl⟩)
  ·exact Ii (by rw[decide_eq_false (show ¬V.str (Str.join (Str.ofString " ") (af.map mtx))=V.str (Str.ofString "") from λz=>Yu h0 (V.str.inj z))]<;>rfl) (dK _ _ ⟨Z,by rw[show KN af=_ from if_neg h0];rfl⟩)
 rintro c5 G ⟨rfl,rfl⟩;refine⟨_,Z,o,dx,_,Z,bl,Z,_,Z,true,ol,ob,iq ow,Z,yw bY,b8,λq hq=>(fo q hq).fh,Yl,λGg s8=>⟨_,_,Z,Z,Yl,o,dx,r',a9,_,9,iq ow,pss,Z,r1.2,by rw[Jg];lia,s8 _ _ bl,cr.same s8,by rw[ay];exact cI,by rw[ay];exact pQ cN (by decide:10<=16),fo,.inr ⟨Yd,Yd,ak,λt Gh s9 ha=>⟨_,Z,Z,_,Z,?_⟩⟩⟩⟩
 obtain rfl:=dV _ ha;refine Ii (by rw[decide_eq_true (rfl:V.str (KN af)=V.str (KN af))]<;>rfl) ?_
 have ai:=s8.trans s9
 -- in another order
 refine⟨_,Z,pl,zs,Z,yw (ai _ _ ci),λrl eU=>?_⟩;have aa:=ai.trans (yA (o:=.lst zs.reverse) eU);have aE:=og.rev;have eE:=aE.ak ⟨Yl,Yl⟩ Yl;refine⟨true,rl,zs.reverse,pss.reverse,Z,yw Hu,P5 (Pts.same cp aa),aE.h23,aE.fg,by rw[tM];lia,λGm bI=>?_⟩
 intro o2 bd dy cZ eZ;have sd:Hy Gm (upd (upd Gm bd (.own o2)) o2 (.ins O bd [])):=λb u e=>by rw[HZ (HW e dy),HZ (HW e cZ)];exact e
 have fv:=aE.t2;refine⟨o2,bd,pss.reverse,Z,Hu,by rw[tM];lia,aE.h23,aE.fg,aE.nd,Yl,λr2 et Gn bt dq ew=>⟨Z,?_⟩⟩
 have ap:=aa.trans bI;have eB:Hy G Gn:=λb u e=>bt b u (HW (ap _ _ e) dy) (sd _ _ (ap _ _ e));refine⟨o2,bd,_,Z,dq,Z,o2,bd,r2,et,_,5,[],pss.reverse,Z,Np,Yk,dq,ew,qg _,qd _,nofun,.inr ⟨Yd,Yd,eE,λt Go eS eI=>?_⟩⟩;obtain⟨c1,eM,rfl⟩:=eI.i5;have cH:=eB.trans eS;refine⟨_,Z,o,dx,_,Z,cH _ _ bl,Z,o,dx,r',a9,_,5,[],pss,Z,Np,Yk,cH _ _ bl,cr.same cH,qg _,qd _,nofun,.inr ⟨Yd,Yd,ak,λt Gp fe eJ=>⟨Z,?_⟩⟩⟩;obtain⟨c3,ey,rfl⟩:=eJ.i5;rw[decide_eq_true (by rw[Zn aI dC eM ey]:V.str (ctx c1)=V.str (ctx c3))]
 exact q _
theorem Kd:HJ ["_law_word","_law_parts","_law_number"] ["_law_word"] (HD (top 145)):=fsc
theorem SR(F:Fun K "_law_read" "_law_read" (top 145) f fd)(kG:Fd P w K mg base 33 "_law_lowest" yZ (Ll))(kB:Fd P w K mg base 33 "_law_text" yS (JF K))(kH:mg "int" = none)(kq:mg "len" = none)(hT:yL P) :
 HV P w K mg base CX0 34 f fd ["_law_word"] (S9 K):=by
 refine okA F Kd λai A outer s H vs Q E hr h=>?_
 refine⟨_,(HC K (HF (i:=1) Kd (J0 K PySem.F.plainAttrs_str PySem.F.slot_str_split PySem.F.type_str_split La (pv 0) (H9 Ia HB)))
  (HC K (Ig K (yv (Kr (HK Ke (HU K kq (pv 1)) Hv) (K6 (HK (neD K hr.units) (Jj rfl (N:=["_law_sign"]) (nt:=1) (js:=[]) (J7 Kd) (fN (pv 0)) (λ_ _ _ _ _=>(HM (i:=0) (nd1 _) rfl (Or.inl rfl))) (HY Yd) (λ_ _ _ _ _=>Pw (K3 Sw (pv 0) Ia (by with_unfolding_all rfl))) (λ_ _ _ _ _=>(pv 0))) (IJ HB))))) (HA (HH K7)) HL)
  (HC K (Ig K (HK (neD K hr.units) (Jj rfl (N:=["_law_part"]) (nt:=1) (js:=[]) (J7 Kd) (piL K (pv 1)) (λ_ _ _ _ _=>(HM (i:=0) (nd1 _) rfl (Or.inl rfl))) (HY Yd) (λ_ _ _ _ _=>Pw (K3 (inS K) (pv 0) (Ib (H9 Ia (H9 Ia HB))) (by with_unfolding_all rfl))) (λ_ _ _ _ _=>(pv 0))) (IJ HB)) (HA (HH K7)) HL)
  (HC K (HF (i:=2) Kd (HS kG hr (Ij RW rfl kH OP (H9 (HE (ixL K) (pv 1) Hv) HB)) (Ij RW rfl kH OP (H9 (HE (ixL K) (HG Ou (pv 1) (IJ (H9 Ia HB))) Hv) HB))))
  (HC K (Ig K (HK Ml (Ic kB hr (pv 2)) (pv 0)) (HA (HH K7)) HL)
  (HA (HH (pv 2)))))))),?_⟩
 obtain⟨x,rfl,hf,q⟩:=h;have hs:=sK;have P0:0<=io:=by decide
 have P2:2<=io:=by decide
 have P1:1<=io:=by decide
 have lt:=MT hf;have hd:=hf.2;have aj:=Ik (tx x);refine⟨_,Z,Z,_,_,Z,Z,by rw[Ik,Ji];rfl,Yl,λp hp=>?_⟩
 obtain⟨ps,ac,ak,af,ad,ah⟩:∃ps:yr,Txt.split (tx x) (Str.ofString "/")=ps/\ps.length<=2/\(∀t∈ps,t≠Str.ofString "" /\ t≠Str.ofString "-")/\ps[0]? = some (txI x.num)/\(ps++[Str.ofString "1"])[1]? = some (txI x.den):=by
  rw[Tr];by_cases h1:x.den=1
  ·rw[if_pos h1];refine⟨_,Z,(by decide:1<=2),λt ht=>?_,Z,?_⟩
   ·rw[sU.mp ht];exact UC _
   ·rw[h1];exact congrArg some Yk
  ·rw[if_neg h1];refine⟨_,Z,(by decide:2<=2),λt ht=>?_,Z,Z⟩
   rcases pV.mp ht with z | z
   ·rw[z];exact UC _
   ·rw[sU.mp z];exact UC _
 rw[ac];have s1:=yA (o:=.lst (ps.map V.str)) hp;have e1:upd H p (.lst (ps.map V.str)) p=some (.lst (ps.map V.str)):=Hu;generalize upd H p (.lst (ps.map V.str))=H1 at s1 e1 ⊢;refine⟨_,Z,p,_,Z,.inl (yw e1),_,_,Z,Z,_,Z,?_⟩;refine Ii (by rw[decide_eq_false (by rw[qz];lia:¬(((ps.map V.str).length:Nat):Int) > 2)]<;>rfl) ?_
 refine Jo ⟨⟨_,Z,tx x,Z,(λc hc=>by have:=Xk x hc;lia),WV (λi zs H'=>H'=H1/\zs=[]) ⟨Z,Z⟩ (λi zs H' hi h=>by rw[h.2];exact qg _) Yl ?_ ?_⟩⟩
 ·rintro i d zs H' ae ⟨rfl,rfl⟩;refine⟨_,Z,_,_,Z,Z,_,Z,?_⟩;rw[j9 (Xk x (qU ae))];exact IX ⟨Z,Z⟩
 rintro zs H' ⟨rfl,rfl⟩ O W;have s2:=s1.trans (yA (o:=.lst []) W);have e2:=(yA (o:=.lst []) W) _ _ e1;refine⟨P0,λJ Y=>?_⟩;have ea:upd (upd H' O (.lst [])) J (.lst []) O=some (.lst []):=(yA Y) _ _ Hu;have s3:=s2.trans (yA (o:=.lst []) Y);have e3:=(yA (o:=.lst []) Y) _ _ e2;have eb:upd (upd H' O (.lst [])) J (.lst []) J=some (.lst []):=Hu;generalize upd (upd H' O (.lst [])) J (.lst [])=H2 at s3 e3 ea eb ⊢;clear s2 e2 s1 e1 W Y hp;refine jv (xs:=[]) (ys:=[]) (ps:=[]) (qs:=[]) (yw ea) .nil (yw eb) .nil ⟨_,Z,IX ?_⟩;clear ea eb;refine Jo ⟨_,Z,p,Z,⟨_,yw e3⟩,ZV (xs:=ps.map V.str) (λi zs H'=>Hy H2 H'/\zs=[]) ⟨yy _,Z⟩ (λi zs H' _ h=>⟨yw (h.1 _ _ e3),by rw[h.2];exact qg _⟩) (by rw[qz];lia) ?_ ?_⟩
 ·rintro i v zs H' hv ⟨sm,rfl⟩;rw[qR]at hv;obtain⟨t,ht,rfl⟩:=(rQ.mp hv);obtain⟨n1,n2⟩:=(af t (qU ht));refine⟨_,Z,P2,λu hu=>⟨u,_,Z,.inr (yx Hu),Z,Z,_,Z,?_⟩⟩
  have e:inV (.str t) [.str (Str.ofString ""),.str (Str.ofString "-")]=false:=by
   show(eqV (.str (Str.ofString "")) (.str t)||(eqV (.str (Str.ofString "-")) (.str t)||false))=false
   rw[show eqV (.str (Str.ofString "")) (.str t)=false from decide_eq_false (λz=>n1 z.symm),show eqV (.str (Str.ofString "-")) (.str t)=false from decide_eq_false (λz=>n2 z.symm)];rfl
  rw[show(if false=true then _ else inV (.str t) [.str (Str.ofString ""),.str (Str.ofString "-")])=false from e];exact IX ⟨sm.trans (yA hu),Z⟩
 rintro zs H' ⟨sm,rfl⟩ O W;have s4:=(s3.trans sm).trans (yA (o:=.lst []) W);have e4:=(yA (o:=.lst []) W) _ _ (sm _ _ e3);refine⟨P0,λJ Y=>?_⟩;have ea:upd (upd H' O (.lst [])) J (.lst []) O=some (.lst []):=(yA Y) _ _ Hu;have s5:=s4.trans (yA (o:=.lst []) Y);have e5:=(yA (o:=.lst []) Y) _ _ e4;have eb:upd (upd H' O (.lst [])) J (.lst []) J=some (.lst []):=Hu;generalize upd (upd H' O (.lst [])) J (.lst [])=H3 at s5 e5 ea eb ⊢;clear s4 e4 s3 e3 W Y sm;refine jv (xs:=[]) (ys:=[]) (ps:=[]) (qs:=[]) (yw ea) .nil (yw eb) .nil ⟨_,Z,IX ?_⟩;refine⟨_,Z,p,_,_,_,Z,Z,yw e5,HQ (j:=0) (by rw[qR,ad];rfl),x.num,Z,hf.1,_,Z,P1,λo1 aa=>?_⟩
 have e6:=(yA (o:=.lst [.str (Str.ofString "1")]) aa) _ _ e5;refine⟨p,o1,_,_,Z,Z,e6,Hu,(by rw[qz];show ps.length+1<=io;lia),λo2 ag=>?_⟩
 have s7:=(s5.trans (yA (o:=.lst [.str (Str.ofString "1")]) aa)).trans (yA (o:=.lst (ps.map V.str++[.str (Str.ofString "1")])) ag);refine⟨o2,_,_,_,Z,Z,yw Hu,HQ (j:=1) (by rw[show ps.map V.str++[V.str (Str.ofString "1")]=(ps++[Str.ofString "1"]).map V.str by rw[sD];rfl,qR,ah];rfl),(x.den:Int),Z,Yl,?_⟩
 refine⟨_,_,Z,by have:=x.den_pos;lia,λr hr=>?_⟩
 rw[i3];have s8:=s7.trans (yA (o:=nT x) hr);refine⟨_,Z,_,x,Z,yF Hu,hf,_,Z,Z,_,Z,?_⟩;exact Ii (by rw[decide_eq_true (rfl:V.str (tx x)=V.str (tx x))]<;>rfl) ⟨_,Z,q r _ s8 (s7.free hr) Hu⟩
theorem JN:HJ ["_law_text_here","_law_some"] ["_law_text_here"] (HD (top 149)):=fsc
theorem MF(F:Fun K "_law_told_numbers" "_law_told_numbers" (top 149) f fd)(oj:Fd P w K mg base 34 "_law_read" ["_law_word"] (S9 K))(kA:mg "isinstance" = none)(kx:mg "str" = none)(hT:yL P) :
 HV P w K mg base CX0 35 f fd ["_law_text_here"] (S6 K):=by
 refine okA F JN λaf A outer s H vs Q E hr h=>?_
 refine⟨_,(HC K (Ig K (Jy (Jt (ID (Uk K) rfl kA IQ (H9 (pv 0) (H9 (K4 (v:=.ty "str") rfl kx Kl rfl) HB))))) (HA (HH K7)) HL)
  (HC K (TQ (i:=1) rfl JN.nd rfl rfl (N:=["_law_word"]) (nt:=1) (js:=[]) (J7 JN) (piL K (J0 K PySem.F.plainAttrs_str PySem.F.slot_str_split PySem.F.type_str_split La (pv 0) (H9 Ia HB))) (λ_ _ _ _ _=>(HM (i:=0) (nd1 _) rfl (Or.inl rfl))) (HY Yd) (λ_ _ _ _ _=>Iv) (λ_ _ _ _ _=>(Ic oj hr (pv 0))) rfl)
  (HC K (Ig K (K3 (inD K hr) K7 (pv 1) (by with_unfolding_all rfl)) (HA (HH K7)) HL)
  (HA (HH (pv 1)))))),?_⟩
 obtain⟨qs,rfl,aa,z,hf,q⟩:=h;have hs:=sK;have hl:=MK (sep:=Iz) (by rw[MU];decide) (Nw hf)
 rw[qz]at hl;have ag:qs.length*(983+2)<=16*(983+2):=uP z (qd _);refine⟨_,Z,_,_,_,_,Z,.of (.str _),T5 K,true,Z,IX ?_⟩;refine Jo ⟨_,Z,Z,_,_,Z,Z,Z,Yl,λl ac=>?_⟩;have ae:=V8 aa;rw[ae];have s1:=yA (o:=.lst ((qs.map tx).map V.str)) ac;have e1:upd H l (.lst ((qs.map tx).map V.str)) l=some (.lst ((qs.map tx).map V.str)):=Hu;generalize upd H l (.lst ((qs.map tx).map V.str))=H1 at s1 e1 ⊢;refine⟨l,Z,⟨_,yw e1⟩,Nj (xs:=(qs.map tx).map V.str) (λi zs H'=>Hy H1 H'/\zs.length=i/\Io H' zs (qs.take i)) ⟨yy _,Z,.nil⟩ (λi zs H' _ h=>⟨yw (h.1 _ _ e1),h.2.1⟩) (by rw[qz,qz];lia) ?_ ?_⟩
 ·rintro j v zs H' hv ⟨O,W,hn⟩;rw[tN,qR]at hv;obtain⟨x,hx,rfl⟩:=(rQ.mp hv);refine⟨_,Z,x,Z,hf x (qU hx),λp H2 m2 J e2=>⟨O.trans m2,by simp[W],?_⟩⟩
  rw[sC,hx];exact Paired.snoc (yJ hn m2) ⟨p,Z,e2⟩
 rintro zs H' ⟨O,W,hz⟩ p J;rw[qz,qz,va]at hz;have s2:Hy H (upd H' p (.lst zs)):=(s1.trans O).trans (yA J);have ad:H p=none:=(s1.trans O).free J;have ep:upd H' p (.lst zs) p=some (.lst zs):=Hu;have Y:=yJ hz (yA (o:=.lst zs) J);generalize upd H' p (.lst zs)=H2 at s2 ep Y ⊢;refine⟨_,Z,T7 ⟨p,qs.map nD,.none,Z,HR.rdsL Y.nums (yw ep),.non,M8 qs,Z,_,Z,?_⟩⟩;rw[show((qs.map nD).any λy=>PyData.eqv y .none)=false from Qz qs];exact IX ⟨_,Z,q p zs _ s2 ad ep Y⟩
theorem IV:HJ ["_law_knots","_law_some","_law_x","_law_found","_law_product_here","_law_knot","_law_step"] ["_law_knots","_law_some","_law_x"] (HD (top 150)):=fsc
theorem Oz(F:Fun K "_law_by_steps" "_law_by_steps" (top 150) f fd)(kI:Fd P w K mg base 34 "_law_plus" yP (Mi K (· + ·)))(kJ:Fd P w K mg base 34 "_law_times" yP (Mo K))(me:Fd P w K mg base 34 "_law_minus" yP (NB K))(kK:mg "zip" = none)(hT:yL P) :
 HV P w K mg base CX0 35 f fd zc (XF K):=by
 refine okA F IV λaI A outer s H vs Q E hr h=>?_
 refine⟨_,(HC K (HF (i:=3) IV (Ib (H9 Hv (H9 Hv HB))))
  (HC K (HF (i:=4) IV (Ib (H9 Hv (H9 Hv HB))))
  (HC K (IP (K:=K) PassesOwn.never rfl (fM K rfl kK (H9 (pv 0) (H9 (pv 1) HB))) (pgT K (n:=2) rfl (IL (HM (i:=5) IV.nd rfl (Or.inl rfl)) (IL (HM (i:=6) IV.nd rfl (Or.inl rfl)) KL))) (HC K (HF (i:=3) IV (HS kI hr (pv 3) (HS kJ hr (pv 6) (pv 4))))
  (HA (HF (i:=4) IV (HS kJ hr (pv 4) (HS me hr (pv 2) (pv 5)))))) Yr)
  (HA (HH (pv 3)))))),?_⟩
 obtain⟨rk,aa,rx,xs,ys,ks,O,x,S,rfl,hk,ao,hs,am,af,aG,hX,aF,aE,aq,hS,q⟩:=h;have P2:2<=io:=by decide
 have aH:=ao.length;have aJ:=am.length;have aw:min xs.length ys.length=ks.length:=by lia
 refine⟨P2,λf hf=>⟨P2,λg hg=>?_⟩⟩;have s2:=(yA (o:=.tup [.int 0,.int 1]) hf).trans (yA (o:=.tup [.int 1,.int 1]) hg);have ef:HP K (upd (upd H f (.tup [.int 0,.int 1])) g (.tup [.int 1,.int 1])) (.ref f) 0:=yF ((yA hg) _ _ Hu);have eg:HP K (upd (upd H f (.tup [.int 0,.int 1])) g (.tup [.int 1,.int 1])) (.ref g) 1:=yF Hu;generalize upd (upd H f (.tup [.int 0,.int 1])) g (.tup [.int 1,.int 1])=H2 at s2 ef eg ⊢
 refine⟨_,Z,_,Z,rk,aa,xs,ys,Z,yz s2 hk,yz s2 hs,e9 (xs:=xs) (ys:=ys) (L9 H rk aa rx K ks O x S λH rk aa rx K ks O x S i σ H'=>Hy H H'/\∃(fv gv:V) (z5 z6:Option V),σ=[some (.ref rk),some (.ref aa),some rx,some fv,some gv,z5,z6]/\HP K H' fv (IG (ks.take i) (O.take i) x)/\HP K H' gv (L2.prV x (ks.take i))/\RB (i*(S+500)+1) (IG (ks.take i) (O.take i) x)/\RB (i*33+1) (L2.prV x (ks.take i)))
  ⟨s2,_,_,none,none,Z,ef,eg,RB.zero Yl,RB.one Yl⟩ (λi σ H' _ h=>⟨yz h.1 hk,yz h.1 hs⟩) ?_ ?_⟩
 ·rintro i u v T σ H' hu hv hT as;refine Jh as λsm z=>?_;refine Uq z λfv gv z5 z6 Y=>?_;clear z;refine N0 Y λaj ad ai bf bg=>?_;clear Y;obtain rfl:=aj
  try clear as
  have hi:i<xs.length:=(pY.mp hu).1;have sT:Hy H' (upd H' T (.tup [u,v])):=yA hT;have eT:SqT K (upd H' T (.tup [u,v])) T [u,v]:=yx Hu;generalize upd H' T (.tup [u,v])=H3 at sT eT ⊢;have ac:=sm.trans sT;obtain⟨k,ah,aD⟩:=(yB ao hu);obtain⟨s,ar,az⟩:=(yB am hv);have bk:=aF k (qU ah);have bs:=aE s (qU ar);refine⟨T,_,Z,eT,Z,_,_,Z,_,_,Z,Z,?_⟩;refine⟨_,Z,_,Z,_,Z,.inl ⟨_,_,s,L2.prV x (ks.take i),S,i*33+1,Z,az.same ac,ai.same sT,bs,bg,Yl,λt1 aB=>?_⟩⟩;have av:=yA (o:=nT (s*L2.prV x (ks.take i))) aB;refine⟨_,_,IG (ks.take i) (O.take i) x,s*L2.prV x (ks.take i),i*(S+500)+1,S+(i*33+1),Z,(ad.same sT).same av,yF Hu,bf,bs.times bg,?_,λt2 ax=>?_⟩
  ·have:i*(S+500)<=12*(2048000+500):=uP Yl Yl
   lia
  have ae:=av.trans (yA (o:=nT (IG (ks.take i) (O.take i) x+s*L2.prV x (ks.take i))) ax);have an:(upd (upd H3 t1 (nT (s*L2.prV x (ks.take i)))) t2 (nT (IG (ks.take i) (O.take i) x+s*L2.prV x (ks.take i)))) t2=some (nT (IG (ks.take i) (O.take i) x+s*L2.prV x (ks.take i))):=Hu;generalize upd (upd H3 t1 (nT (s*L2.prV x (ks.take i)))) t2 (nT (IG (ks.take i) (O.take i) x+s*L2.prV x (ks.take i)))=H4 at ae an ⊢;refine⟨_,Z,_,Z,_,Z,_,_,x,k,16,16,Z,(hX.same ac).same ae,(aD.same ac).same ae,bk,Yd,λt3 al=>?_⟩;have ak:=ae.trans (yA (o:=nT (x-k)) al);have aC:=(yA (o:=nT (x-k)) al) _ _ an;refine .inl ⟨_,_,L2.prV x (ks.take i),x-k,i*33+1,33,Z,(ai.same sT).same ak,yF Hu,bg,aq.minus bk,Yl,λt4 ap=>?_⟩;have ay:=ak.trans (yA (o:=nT (L2.prV x (ks.take i)*(x-k))) ap);have aA:=(yA (o:=nT (L2.prV x (ks.take i)*(x-k))) ap) _ _ aC
  have e1:IG (ks.take (i+1)) (O.take (i+1)) x=IG (ks.take i) (O.take i) x+s*L2.prV x (ks.take i):=by
   rw[sC,sC,ah,ar];exact MG _ _ _ _ _ (by rw[qN,qN,af])
  have e2:L2.prV x (ks.take (i+1))=L2.prV x (ks.take i)*(x-k):=XZ ah;refine⟨ac.trans ay,_,_,_,_,Z,?_,?_,?_,?_⟩
  ·rw[e1];exact yF aA
  ·rw[e2];exact yF Hu
  ·rw[e1];refine(bf.plus (bs.times bg)).mono ?_;rw[tq];lia
  ·rw[e2];exact(bg.times (aq.minus bk)).mono Yl
 ·rintro σ H' au;refine Jh au λsm J=>?_;refine Uq J λfv gv z5 z6 W=>?_;clear J;refine N0 W λag ad ai bf bg=>?_;clear W;obtain rfl:=ag
  try clear au
  rw[aw,va,af,va]at ad;exact⟨_,Z,q _ _ sm ad⟩
theorem Ir:HJ ["_law_pen_here","_law_desk","_law_points","_law_rows","_law_curve","_law_some","_law_k","_law_x","_law_numbers","_law_due"] ["_law_pen_here","_law_desk","_law_points"] (HD (top 151)):=fsc
theorem Rh(F:Fun K "_law_asked" "_law_asked" (top 151) f fd)(W:Pe K O)(kZ:Fd P w K mg base 33 "_law_told" yW (Ny K))(mW:Fd P w K mg base 35 "_law_told_numbers" ["_law_text_here"] (S6 K))(kO:Fd P w K mg base 34 "_law_little" y2 (Mp))(kB:Fd P w K mg base 33 "_law_text" yS (JF K))(ky:Fd P w K mg base 33 "_law_draw" yX (LP))(lD:Fd P w K mg base 37 "_law_missed" zb (LG K))(om:Fd P w K mg base 35 "_law_by_steps" zc (XF K))(kP:Fd P w K mg base 35 "_law_at" yT (Rw K))(l6:Fd P w K mg base 36 "_law_slope_at" yT (KY K))(kM:Fd P w K mg base 34 "_law_texts" y6 (Ko K Iz))(kC:FdM CX0 P w K mg base 41 O "say" yV (LM K O))(ku:mg "range" = none)(kq:mg "len" = none)(kx:mg "str" = none)(hT:yL P) :
 HV P w K mg base CX0 42 f fd zd (Sd K O):=by
 refine okA F Ir λcA A outer s H vs Q E Y h=>?_
 refine⟨_,(HC K (HF (i:=3) Ir (Ic kZ Y (pv 2)))
  (HC K (HF (i:=4) Ir (Ic mW Y (JP (pv 1) W.cl kC Y Ks (H9 Ia HB))))
  (HC K (HF (i:=5) Ir (Ic mW Y (JP (pv 1) W.cl kC Y Ks (H9 Ia HB))))
  (HC K (Ig K (yv (Kr (HK V3 (pv 4) K7) (Kr (HK V3 (pv 5) K7) (Kr (HK Ml (HU K kq (pv 5)) (HU K kq (pv 3))) (K6 (HK Ke (HU K kq (pv 4)) (HU K kq (pv 3)))))))) (HA (HH Kh)) HL)
  (HC K (Ig K (yv (Kr (yv (M3 (HK (neD K Y.units) (pv 4) (IJ (H9 (Ib (H9 Hv (H9 Hv HB))) HB))) (KJ (HK (eqD K Y.units) (HE (ixL K) (pv 4) (RG Oa Hv)) (Ib (H9 Hv (H9 Hv HB))))))) (K6 (HK (neD K Y.units) (HS lD Y (pv 2) (pv 4)) (IJ HB))))) (HA (HH Kh)) HL)
  (HC K (IP (K:=K) PassesOwn.never rfl (J2 rfl ku (H9 (HG Iu (HU K kq (pv 3)) Hv) HB)) (HM (i:=6) Ir.nd rfl (Or.inl rfl)) (HA (Ig K (HK (neD K Y.units) (Ql om Y (Jj rfl (N:=["_law_row"]) (nt:=1) (js:=[]) (J7 Ir) (piL K (pv 3)) (λ_ _ _ _ _=>(HM (i:=0) (nd1 _) rfl (Or.inl rfl))) (HY Yd) (λ_ _ _ _ _=>Iv) (λ_ _ _ _ _=>(HE (ixT K) (pv 0) Hv))) (pv 5) (Ib (H9 (pv 6) (H9 Hv HB)))) (HS kP Y (pv 4) (Ib (H9 (pv 6) (H9 Hv HB))))) (HA (HH Kh)) HL)) Yr)
  (HC K (HF (i:=7) Ir (Ic kO Y (pv 0)))
  (HC K (Ig K (HK Ml (JP (pv 1) W.cl kC Y Ks (H9 (HG Il Ia (Ic kB Y (pv 7))) HB)) (Ic kB Y (HS kP Y (pv 4) (pv 7)))) (HA (HH Kh)) HL)
  (HC K (Ig K (HK Ml (JP (pv 1) W.cl kC Y Ks (H9 (HG Il Ia (Ic kB Y (pv 7))) HB)) (Ic kB Y (HS l6 Y (pv 4) (pv 7)))) (HA (HH Kh)) HL)
  (HC K (HF (i:=8) Ir (Jj rfl (N:=["_law_k","_law_pen_here"]) (nt:=1) (js:=[0]) (J7 Ir) (J2 rfl ku (H9 (HG Iu Hv (HS ky Y (pv 0) Hv)) HB)) (λ_ _ _ _ _=>(HM (i:=0) (show List.Nodup (["_law_k","_law_pen_here"]:yr) from by decide +kernel) rfl (Or.inl rfl))) (HY Yd) (λ_ _ _ _ _=>Iv) (λ_ _ _ _ _=>(Ic kO Y (pv 1)))))
  (HC K (Ig K (HK Jk (HS ky Y (pv 0) Hv) Hv) (HA (HF (i:=8) Ir (HG Ou (IM (slL K) (pv 8) IS (IW Hv)) (HG Ot (IJ (H9 (Ib (H9 Hv (H9 Hv HB))) HB)) (HS ky Y (pv 0) Hv))))) HL)
  (HC K (HF (i:=9) Ir (J0 K PySem.F.plainAttrs_str PySem.F.slot_str_join PySem.F.type_str_join (M9 K) Ia (H9 (Jj rfl (N:=["_law_place","_law_k"]) (nt:=2) (js:=[]) (J7 Ir) (piL K (HS lD Y (pv 2) (pv 8))) (λ_ _ _ _ _=>(pgT K (n:=2) rfl (IL (HM (i:=0) (show List.Nodup (["_law_place","_law_k"]:yr) from by decide +kernel) rfl (Or.inl rfl)) (IL (HM (i:=1) (show List.Nodup (["_law_place","_law_k"]:yr) from by decide +kernel) rfl (Or.inl rfl)) KL)))) (LF (IY Yd (IY Yd KU))) (λ_ _ _ _ _=>Iv) (λ_ _ _ _ _=>(HG Il (HG Il (Ic kB Y (pv 0)) Ia) (Ij Jc rfl kx Kl (H9 (pv 1) HB))))) HB)))
  (HC K (Ig K (HK Jk (pv 9) Ia) (HA (HF (i:=9) Ir Ia)) HL)
  (HA (HH (M4 (eqD K Y.units) (Jj rfl (N:=["_law_k","_law_desk","_law_numbers"]) (nt:=1) (js:=[1,8]) (J7 Ir) (J2 rfl ku (H9 Hv HB)) (λ_ _ _ _ _=>(HM (i:=0) (show List.Nodup (["_law_k","_law_desk","_law_numbers"]:yr) from by decide +kernel) rfl (Or.inl rfl))) (HY Yd) (λ_ _ _ _ _=>Iv) (λ_ _ _ _ _=>(JP (pv 1) W.cl kC Y Ks (H9 (HG Il Ia (Ic kM Y (pv 2))) HB)))) (IJ (H9 (pv 9) (H9 (pv 9) HB))) (LA _))))))))))))))))),?_⟩
 obtain⟨a,p,dx,r,r',xs,al,pss,rfl,pn,ed,ac,aw,ak,h7,q⟩:=h;have h1:=ac.h1;have cy:=JE ac.h23;have hs:=sK;have P0:0<=io:=by decide
 have P1:1<=io:=by decide
 have P2:2<=io:=by decide
 refine⟨_,Z,false,r,xs,pss,Z,ac.S,Ie.pts ac.P,ac.h23,Yl,λw H1 ws s1 hw ew bP=>?_⟩;refine⟨_,Z,p,dx,_,Z,s1 _ _ ed,Z,p,dx,r',al,_,5,[],pss,Z,Np,Yk,s1 _ _ ed,aw.same s1,qg _,qd _,nofun,.inr ⟨Yd,Yd,ak,λt H2 s2 ha=>?_⟩⟩;obtain⟨cs,ae,rfl⟩:=ha.i5;have bA:=ae.len;refine Vp (Z1 (ak.cfh ac.h23 ae.ev)) λJ av=>?_;refine Th av λb3 bo cx aB aT bw=>?_;clear av;rw[b3];refine⟨J,Z,bo,Yl,aB,λlc ys H3 s3 bG b6 b1=>?_⟩;have aV:=(s1.trans s2).trans s3;refine⟨_,Z,p,dx,_,Z,aV _ _ ed,Z,p,dx,r',al,_,6,[],pss,Z,Vs,Yk,aV _ _ ed,aw.same aV,qg _,qd _,nofun,.inr ⟨Yd,Yd,ak,λt H4 s4 ha=>?_⟩⟩;obtain rfl:=ha.i6;have ba:=Kc pss;refine⟨Iy pss,Z,λz=>by rw[z]at ba;simp at ba;lia,Yl,ak.sfh ac.h23,λls zs H5 s5 co bB bu=>?_⟩
 have aE:=s4.trans s5;have la:lc≠a:=(pn.sm (s1.trans s2)).ne' bG;have aF:=aV.trans aE;have aI:=((s2.trans s3).trans aE) _ _ ew;have aO:=Tls.same bP ((s2.trans s3).trans aE);have ad:=aE _ _ b6;have aa:=yJ b1 aE;have ap:=aF _ _ ed;have aZ:=ac.same aF;have a1:=aw.same aF;have an:=pn.sm aF;have a2:=aF.mv (a:=a);have ag:=ac.h23;have ci:=ac.nd;have cu:=aa.length;have aP:=bu.length;have a6:=aO.length;clear bP hw ew s1 s2 s3 s4 s5 aV aE aF bG b6 b1 co ac aw pn ed ha b3;have bJ:J.length<=(HI pss).length:=by lia
 -- whether all is told
 refine⟨_,Z,Z,_,Z,?_⟩;refine Ii (by rw[decide_eq_false (show ¬V.ref lc=V.non from nofun)]<;>rfl) ⟨_,Z,Z,_,Z,?_⟩
 refine Ii (by rw[decide_eq_false (show ¬V.ref ls=V.non from nofun)]<;>rfl) ⟨_,Z,ls,zs,Z,.inl (yw bB),_,Z,w,ws,Z,.inl (yw aI),Z,_,Z,?_⟩
 refine Ii (by rw[decide_eq_true (by rw[aP,a6,ba]:V.int ((zs.length:Nat):Int)=V.int ((ws.length:Nat):Int))]<;>rfl) ⟨_,Z,lc,ys,Z,.inl (yw ad),_,Z,w,ws,Z,.inl (yw aI),_,_,Z,Z,_,Z,?_⟩
 refine Ii (by rw[decide_eq_false (by lia:¬((ws.length:Nat):Int)<((ys.length:Nat):Int))]<;>rfl) ?_
 refine fR ?_
 -- the last number;none is missed
 refine Mu (s:=QR _ _ _) (L7 H5 a p r w lc ls λH5 a p r w lc ls ai G=>Hy H5 G/\ai=[some (.ref a),some (.ref p),some (.ref r),some (.ref w),some (.ref lc),some (.ref ls),none,none,none,none]) (λnx am=>?_) ?_
 ·have b7:∀G,Hy H5 G->∀Q':Bool->Hp->Prop,(∀G',Hy H5 G'->Q' false G')->Rt (tOp (Nf K true) (PQ (LG K) [] E0 (LD (Pg 2) (LD (Pg 4) QQ))) (iW QQ)) [some (.ref a),some (.ref p),some (.ref r),some (.ref w),some (.ref lc),some (.ref ls),none,none,none,none] G Q':=λG sG Q' hQ=>by
   have ko:=aZ.same sG;refine⟨_,Z,_,Z,false,r,lc,xs,ys,pss,J,1640,20,Z,ko.S,Ie.pts ko.P,ag,Yl,yw (sG _ _ ad),(yJ aa sG).nums,Yl,λps hp x hx=>IK (ak.fg ps hp x hx),λx hx=>Wb (aB x hx),Yd,Yd,?_,λm G1 ms s1 hm em aq=>?_⟩
   ·have:(1640+11+20*J.length+4)*(J.length+2)<=(1640+11+20*8+4)*(8+2):=uP Yl Yl
    lia
   rw[show msd J (HI pss)=[] from Vb ag (S3 ag ci λX=>by rw[aT,ae.ev])]at aq
   exact⟨P0,λe he=>ka (ps:=[]) (yw ((yA he) _ _ em)) (Lb aq (yA he)) (yw Hu) .nil ⟨_,Z,hQ _ ((sG.trans s1).trans (yA he))⟩⟩
  refine⟨_,Z,P2,λt ht=>⟨P1,λl hl=>?_⟩⟩;have st:=yA (o:=.tup [.int 0,.int 1]) ht;have sl:=st.trans (yA (o:=.lst [.ref t]) hl);have nt:HP K (upd (upd H5 t (.tup [.int 0,.int 1])) l (.lst [.ref t])) (.ref t) 0:=yF (q:=0) ((yA hl) _ _ Hu);refine eqL (qs:=[0]) (yw (sl _ _ ad)) (yJ aa sl).nums (yw Hu) (.cons nt .nil) ⟨_,Z,?_⟩;by_cases h0:J=[0]
  ·exact Ii (by rw[decide_eq_true h0]<;>rfl) (IX (b7 _ sl _ λG' s'=>IX (am _ _ ⟨s',Z⟩)))
  rw[decide_eq_false h0]
  have bK:J=cs:=by
   rcases bw with z | z
   ·exact absurd z.1 h0
   ·exact z
  obtain⟨x,hx,bz⟩:∃x,J[J.length-1]? = some x/\x≠0:=by
   rcases ae.good with z | z
   ·exact absurd (bK.trans z) bo
   ·rw[bK];exact z
  obtain⟨v,hv,cn⟩:=(yC aa.nums hx);refine Kv ⟨_,Z,_,Z,lc,ys,_,v,Z,Z,yw (sl _ _ ad),Za (by rw[cu];exact hv),P2,λt2 bx=>?_⟩
  have s2:=sl.trans (yA (o:=.tup [.int 0,.int 1]) bx);refine eqN (q:=0) (cn.same s2) (yF (q:=0) Hu) ⟨_,Z,?_⟩;exact Ii (by rw[decide_eq_false bz]<;>rfl) (b7 _ s2 _ λG' s'=>IX (am _ _ ⟨s',Z⟩))
 rintro ai G0 ⟨bv,rfl⟩
 -- the steps make the curve
 have cg:=J8 pss;refine⟨_,Z,w,ws,Z,.inl (yw (bv _ _ aI)),_,_,Z,Z,_,Z,by rw[a6];lia,by rw[a6];lia,?_⟩
 rw[show(((ws.length:Nat):Int)+1).toNat=(HI pss).length+1 by lia]
 refine Jv (n:=(HI pss).length+1) (L7 H5 a p r w lc ls λH5 a p r w lc ls _ σ G=>Hy H5 G/\∃z6,σ=[some (.ref a),some (.ref p),some (.ref r),some (.ref w),some (.ref lc),some (.ref ls),z6,none,none,none]) ⟨bv,none,Z⟩ ?_ ?_
 ·rintro i σ G hi ⟨sG,z6,rfl⟩;have bZ:=sG _ _ aI;have bL:=Tls.same aO sG;refine Jo ⟨_,Z,w,Z,⟨_,yw bZ⟩,Nj (xs:=ws) (λj us G'=>G'=G/\us.length=j/\HR K G us ((kn pss).take j)) ⟨Z,Z,.nil⟩ (λj us G' _ h=>⟨by rw[h.1];exact yw bZ,h.2.1⟩) (pR (HX Yl)) ?_ ?_⟩
  ·rintro j v us G' hv ⟨rfl,bI,a8⟩;obtain⟨t,ht,a',rx,rn,rfl,cf,cr,cC⟩:=(yB bL hv);refine⟨_,Z,a',_,_,rx,Z,Z,cf,HQ (j:=0) rfl,Z,by simp[bI],?_⟩
   rw[sC,show(kn pss)[j]? = some t.x by unfold kn;rw[qR,ht];rfl]
   exact Paired.snoc a8 cr
  rintro us G' ⟨rfl,bI,a8⟩ rk ck;rw[tX Yl]at a8;have s1:=yA (o:=.lst us) ck;refine⟨_,Z,_,Z,P2,λt ht=>?_⟩;have s2:=yA (o:=.tup [.int (0+(i:Int)),.int 2]) ht;have az:=s1.trans s2;have s5:=sG.trans az;have b0:Bd 16 (0+(i:Int)):=by unfold Bd;lia
  have b2:Bd 16 2:=by unfold Bd;decide
  have hx:OR K (upd (upd G' rk (.lst us)) t (.tup [.int (0+(i:Int)),.int 2])) (.ref t) (rV (0+(i:Int)) 2) 16:=⟨t,_,_,Z,yx Hu,Yd,b0,b2,Z⟩;refine⟨rk,ls,.ref t,us,zs,kn pss,Iy pss,rV (0+(i:Int)) 2,1155,Z,yw (s2 _ _ Hu),yG a8 az,yw (s5 _ _ bB),(yJ bu s5).nums,Yl,Yl,hx,λc hc=>(Ui ak.pl c hc).mono Yd,ak.srb ag,hx.rb,Yd,λv G2 s6 hv=>?_⟩;refine⟨_,Z,_,Z,P2,λt2 bx=>?_⟩;have s7:=yA (o:=.tup [.int (0+(i:Int)),.int 2]) bx;have bt:=(s5.trans s6).trans s7;have b8:OR K (upd G2 t2 (.tup [.int (0+(i:Int)),.int 2])) (.ref t2) (rV (0+(i:Int)) 2) 16:=⟨t2,_,_,Z,yx Hu,Yd,b0,b2,Z⟩;refine⟨true,lc,t2,ys,J,_,1640,16,Z,yw (bt _ _ ad),(yJ aa bt).nums,b8,λx hx=>Wb (aB x hx),b8.rb,?_,λp2 G3 s8 e8 _=>?_⟩
  ·have:(1640+16*J.length+4)*(J.length+2)<=(1640+16*8+4)*(8+2):=uP Yl Yl
   lia
  refine eqN ((hv.same s7).same s8) (yF e8) ⟨_,Z,?_⟩;exact Ii (by rw[decide_eq_true (by rw[aT,ae.ev]:IG (kn pss) (Iy pss) (rV (0+(i:Int)) 2)=Cv.ev J (rV (0+(i:Int)) 2))]<;>rfl) ⟨bt.trans s8,_,Z⟩
 rintro σ G ⟨sG,z6,rfl⟩
 -- height and slope
 have aG:=an.sm sG;refine⟨_,Z,a,Z,aG,λy ry G1 m1 p1 ey aj=>?_⟩;have a3:=m1 _ _ la (sG _ _ ad);have aU:=Io.mv (yJ aa sG) aG m1;have aD:=m1 _ _ (aG.ne (sG _ _ ap) (λ_ _ _ z=>by cases z)) (sG _ _ ap)
 have bU:=(aZ.same sG).mv aG m1;have ax:=(a1.same sG).mv aG m1;have bS:=(a2.trans sG.mv).trans m1;have bb:∀q∈[y],Fg q:=λq hq=>by rw[sU.mp hq];exact aj
 have r7:(Str.ofString "at ").length+(tx y).length+2<=io/\Txt.split (Str.ofString "at " ++ tx y) (Str.ofString " ")=wd 7::[y].map tx:=by
  rw[show Str.ofString "at " = wd 7++Str.ofString " " by decide +kernel]
  exact Sn (.inl rfl) bb (qd _) (by decide:1<=16)
 have r8:(Str.ofString "slopeat ").length+(tx y).length+2<=io/\Txt.split (Str.ofString "slopeat " ++ tx y) (Str.ofString " ")=wd 8::[y].map tx:=by
  rw[show Str.ofString "slopeat " = wd 8++Str.ofString " " by decide +kernel]
  exact Sn (.inr (.inl rfl)) bb (qd _) (by decide:1<=16)
 clear aO aI bu bB ad aa ap aZ a1 an a2 sG bv aG m1 aP a6 ba;refine⟨_,Z,p,dx,_,Z,aD,Z,_,Z,_,y,Z,yF ey,aj.fh,_,_,Z,Z,Yl,p,dx,r',al,_,7,[y],pss,Z,r7.2,by rw[Jg];lia,aD,ax,qd _,qd _,bb,.inr ⟨Yd,Yd,ak,λt G2 s2 ha=>?_⟩⟩
 obtain rfl:=ha.i7 ae
 have bnd:(1640+11+20*J.length+4)*(J.length+2)<=90000000:=by
  have:(1640+11+20*J.length+4)*(J.length+2)<=(1640+11+20*8+4)*(8+2):=uP Yl Yl
  lia
 have bj:(1640+20*J.length+4)*(J.length+2)<=90000000:=pQ (tw _ Yl) bnd;refine⟨_,Z,_,Z,true,lc,ry,ys,J,y,1640,20,Z,yw (s2 _ _ a3),(yJ aU s2).nums,HP.u (yF (s2 _ _ ey)) (IK aj),λx hx=>Wb (aB x hx),IK aj,bj,λp2 G3 s3 e3 _=>⟨_,_,Z,yF e3,by rw[aT];exact ak.efh ag ae.ev bA aj,Z,_,Z,?_⟩⟩
 refine Ii (by rw[decide_eq_true (by rw[aT];rfl:V.str (tx (Cv.ev cs ([y].getD 0 0)))=V.str (tx (Cv.ev J y)))]<;>rfl) ?_
 have aC:=s2.trans s3;refine⟨_,Z,p,dx,_,Z,aC _ _ aD,Z,_,Z,_,y,Z,yF (aC _ _ ey),aj.fh,_,_,Z,Z,Yl,p,dx,r',al,_,8,[y],pss,Z,r8.2,by rw[Jg];lia,aC _ _ aD,ax.same aC,qd _,qd _,bb,.inr ⟨Yd,Yd,ak,λt G4 s4 bV=>?_⟩⟩
 obtain rfl:=bV.i8 ae;have aN:=aC.trans s4
 have br:Cv.ev (IE J) y=Cv.ev (IE cs) y:=by
  rcases bw with ⟨z1,z2⟩ | z
  ·rw[z1,z2];rfl
  ·rw[z]
 refine⟨_,Z,_,Z,lc,ry,ys,J,y,1640,20,Z,yw (aN _ _ a3),(yJ aU aN).nums,yF (aN _ _ ey),λx hx=>Wb (aB x hx),IK aj,Yl,Yd,bnd,λp3 G5 s5 e5 _=>⟨_,_,Z,yF e5,by rw[br];exact ak.slfh ag ae.ev bA aj,Z,_,Z,?_⟩⟩
 refine Ii (by rw[decide_eq_true (by rw[br];rfl:V.str (tx (Cv.ev (IE cs) ([y].getD 0 0)))=V.str (tx (Cv.ev (IE J) y)))]<;>rfl) ?_
 have ay:=aN.trans s5;have b4:=bU.same ay;have bf:=ax.same ay;have ap:=ay _ _ aD;have an:=p1.sm ay;have a2:=bS.trans ay.mv;clear r7 r8 ha bV s2 s3 s4 s5 aC aN ay e3 e5 a3 aU aD bU ax bS p1 ey bnd bj br bw aT aB bo ae bA cx bJ cg la
 -- any numbers
 refine Jo ⟨_,Z,a,16,Z,an,Yd,Yd,λd G6 d0 d1 o6 p6=>⟨_,_,Z,Z,_,Z,Yl,Yl,?_⟩⟩;obtain⟨D,rfl⟩:=(rj d0);rw[show(1+(D:Int)).toNat=D+1 by lia]
 refine QD (L3 a G6 K λa G6 K i zs G'=>Mv a G6 G'/\Pen G' a/\zs.length=i/\∃qs,HR K G' zs qs/\∀q∈qs,Fg q) ⟨Mv.refl _ _,p6,Z,[],.nil,λ_ h=>nomatch h⟩ (λi zs G' _ h=>h.2.2.1) Yl ?_ ?_
 ·rintro i zs G' hi bO;obtain⟨mv,bN,hz,qs,hq,af⟩:=bO
  try clear bO
  refine⟨_,Z,a,Z,bN,λx rx G3 m3 p3 ex a9=>⟨mv.trans m3,p3,by simp[hz],qs++[x],Paired.snoc (HR.mv hq bN m3) (yF ex),λc hc=>?_⟩⟩
  rcases pW.mp hc with z | z
  ·exact af c z
  ·rw[sU.mp z];exact a9
 rintro zs G7 cb ln bn;obtain⟨m7,p7,aP,qs,hq,af⟩:=cb
 try clear cb
 have cj:qs.length=D+1:=by rw[<- hq.length];exact aP
 have b9:=o6.mv.trans m7;have sn:=yA (o:=.lst zs) bn;have aK:=b9.trans sn.mv;have bF:ln≠a:=p7.ne' bn;have bC:=b4.mv an aK;have aW:=bf.mv an aK;have a7:=aK _ _ (an.ne ap (λ_ _ _ z=>by cases z)) ap
 have p8:=p7.sm sn;have bc:=a2.trans aK;have bp:=yG hq sn;have bq:upd G7 ln (.lst zs) ln=some (.lst zs):=Hu;generalize upd G7 ln (.lst zs)=G8 at bC aW a7 p8 bc bp bq ⊢;clear sn b9 aK bn hq m7 p7 o6 p6 b4 bf ap an a2
 try dsimp only
 refine K9 (L15 a H K r xs pss r' al p dx w lc ls z6 ry λa H K r xs pss r' al p dx w lc ls z6 ry ai G=>Mv a H G/\Pen G a/\Pok K G r xs pss/\Pok K G r' al pss/\G p=some (dk O dx r')/\∃(ln:ge) (zs:yt) (qs:yn),ai=[some (.ref a),some (.ref p),some (.ref r),some (.ref w),some (.ref lc),some (.ref ls),z6,some (.ref ry),some (.ref ln),none]/\G ln=some (.lst zs)/\HR K G zs qs/\(∀q∈qs,Fg q)/\1<=qs.length/\qs.length<=16) (λnx am=>?_) ?_
 ·refine⟨_,Z,a,2,Z,p8,Yd,Yd,λe G9 e0 e1 o9 p9=>⟨Z,_,Z,?_⟩⟩;have aA:=bC.mv p8 o9.mv;have ah:=aW.mv p8 o9.mv;have aM:=o9.mv _ _ (p8.ne a7 (λ_ _ _ z=>by cases z)) a7
  have bE:=o9.mv _ _ bF bq;have b5:=HR.mv bp p8 o9.mv;refine NY (λ_=>?_) (λ_=>am _ _ ⟨bc.trans o9.mv,p9,aA,ah,aM,ln,zs,qs,Z,bE,b5,af,Yl,Yl⟩);refine⟨_,Z,1,Z,ln,zs,Z,yw bE,λl2 as=>?_⟩;rw[show Mf zs none (some 1)=zs.take 1 from Z0 zs 1];have s2:=yA (o:=.lst (zs.take 1)) as;refine⟨P2,λt ht=>⟨P1,λl3 aS=>?_⟩⟩;have s3:=s2.trans (yA (o:=.tup [.int 0,.int 1]) ht);have s4:=s3.trans (yA (o:=.lst [.ref t]) aS);have cv:l3≠a:=(p9.sm s3).ne' aS;have cp:l2≠a:=p9.ne' as;have ar:=p9.sm s4;have nt:HP K (upd (upd (upd G9 l2 (.lst (zs.take 1))) t (.tup [.int 0,.int 1])) l3 (.lst [.ref t])) (.ref t) 0:=yF (q:=0) ((yA aS) _ _ Hu);have e2:(upd (upd (upd G9 l2 (.lst (zs.take 1))) t (.tup [.int 0,.int 1])) l3 (.lst [.ref t])) l2=some (.lst (zs.take 1)):=(yA aS) _ _ ((yA ht) _ _ Hu);have e3:(upd (upd (upd G9 l2 (.lst (zs.take 1))) t (.tup [.int 0,.int 1])) l3 (.lst [.ref t])) l3=some (.lst [.ref t]):=Hu;have bg:=yG b5 s4;have bl:=aA.same s4;have aR:=ah.same s4;have aL:=s4 _ _ aM;have be:=(bc.trans o9.mv).trans s4.mv;generalize upd (upd (upd G9 l2 (.lst (zs.take 1))) t (.tup [.int 0,.int 1])) l3 (.lst [.ref t])=bW at ar nt e2 e3 bg bl aR aL be ⊢;clear s2 s3 s4 as ht aS;refine⟨_,Z,a,3,Z,ar,Yd,Yd,λu a4 u0 u1 ao a5=>?_⟩;obtain⟨U,rfl⟩:=(rj u0);refine⟨l3,_,_,Z,Z,ao.mv _ _ cv e3,Yl,Yl,by rw[rg];show 1*U<=io;lia,λl4 cq=>?_⟩
  rw[rg];have s5:=yA (o:=.lst (qK U [V.ref t]).flatten) cq;have nz:=yG (LJ (HP.mv nt ar ao.mv) U) s5;have ca:=nz.length;rw[qW]at ca;refine⟨l2,l4,_,_,Z,Z,s5 _ _ (ao.mv _ _ cp e2),Hu,by rw[ca,qN];lia,λl5 bH=>?_⟩
  have s6:=s5.trans (yA (o:=.lst (zs.take 1++(qK U [V.ref t]).flatten)) bH);refine am _ _ ⟨(be.trans ao.mv).trans s6.mv,a5.sm s6,(bl.mv ar ao.mv).same s6,(aR.mv ar ao.mv).same s6,s6 _ _ (ao.mv _ _ (ar.ne aL (λ_ _ _ z=>by cases z)) aL),l5,_,qs.take 1++qK U 0,rfl,Hu,yG (yE (yG (yD 1 (HR.mv bg ar ao.mv)) s5) nz) (yA bH),λc hc=>?_,by rw[qV,qN];lia,by rw[qV,qN,qW];lia⟩
  rcases pW.mp hc with z | z
  ·exact af c (uM z)
  ·rw[List.eq_of_mem_replicate z];exact⟨Yd,Yd⟩
 clear af cj bp bq bF aP bc p8 bC aW a7 D d0 d1 qs ln zs;rintro ai G9 bY;obtain⟨bT,p9,aA,ah,aM,ln,zs,qs,rfl,bD,hq,af,bX,bd⟩:=bY
 try clear bY
 -- what it misses
 refine⟨Z,?_⟩;refine Jo ⟨_,Z,_,Z,false,r,ln,xs,zs,pss,qs,20,20,Z,aA.S,Ie.pts aA.P,ag,Yl,yw bD,hq,Yl,λps hp x hx=>IK (ak.fg ps hp x hx),λx hx=>IK (af x hx),Yd,Yd,?_,λm bW vs bR hm em aq=>?_⟩
 ·have:(20+11+20*qs.length+4)*(qs.length+2)<=(20+11+20*16+4)*(16+2):=uP Yl Yl
  lia
 have aJ:=T2 (cs:=qs) ag ak.fg;have cm:(msd qs (HI pss)).length<=(HI pss).length:=by unfold msd;rw[qz];exact vc ..
 have cc:∀t,Ans pss qs 9 t->t=KN (msd qs (HI pss)):=λt h=>h.i9;generalize msd qs (HI pss)=ms at aq aJ cm cc;have bQ:=aq.length;refine⟨m,Z,⟨_,yw em⟩,?_⟩;refine Vj (xs:=vs) (λi us G=>G=bW/\us=((ms.take i).map mtx).map V.str) ⟨Z,Z⟩ (λi us G hi h=>⟨by rw[h.1];exact yw em,by rw[h.2,qz,qz,qN];exact uu ..⟩) Yl ?_ ?_
 ·rintro i v us G hv ⟨rfl,rfl⟩;obtain⟨m0,bM,a0,rx,rfl,cw,bz⟩:=(yB aq hv);obtain⟨a9,hk⟩:=(aJ m0 (qU bM));have cB:=MT a9.fh;have l1:(Str.ofString ";").length=1:=by decide +kernel
  have l2:(txI m0.2).length=1:=by rcases hk with z | z<;>rw[z]<;>decide +kernel
  have l3:m0.2.natAbs.log2<1920:=by rcases hk with z | z<;>rw[z]<;>decide +kernel
  refine⟨a0,rx,.int m0.2,Z,cw,?_⟩;unfold QP;refine Kv ⟨_,Z,rx,m0.1,Z,bz,a9.fh,_,_,Z,Z,by rw[l1,hs];lia,_,Z,m0.2,Z,l3,_,_,Z,Z,?_,Z,?_⟩
  ·show(tx m0.1++Str.ofString ";").length+(txI m0.2).length<=io;rw[Jg,l1,l2,hs];lia
  rw[sC,bM,sD,sD];rfl
 rintro us G ⟨rfl,rfl⟩ j hj;rw[bQ,va];refine⟨_,j,ms.map mtx,Z,Z,yw Hu,Kk Yk (λt ht=>?_) (by rw[qz];lia),?_⟩
 ·obtain⟨c,hc,rfl⟩:=(tR.mp ht);exact pQ (SY (aJ c hc).1 (aJ c hc).2) Yd
 have au:=bR.trans (yA (o:=.lst ((ms.map mtx).map V.str)) hj);have aX:=ah.same au;have aH:=au _ _ aM;have aY:=au _ _ bD;have bi:=yG hq au;have a5:=p9.sm au;have bh:=bT.trans au.mv;generalize upd G j (.lst ((ms.map mtx).map V.str))=a4 at aX aH aY bi a5 bh ⊢;clear au bR aq em hm hj bQ bD hq aA ah aM p9 bT
 try dsimp only
 refine K9 (L11 a4 a p r w lc ls z6 ry ln ms λa4 a p r w lc ls z6 ry ln ms ai G=>G=a4/\ai=[some (.ref a),some (.ref p),some (.ref r),some (.ref w),some (.ref lc),some (.ref ls),z6,some (.ref ry),some (.ref ln),some (.str (KN ms))]) (λnx am=>?_) ?_
 ·refine⟨_,Z,Z,_,Z,?_⟩;by_cases h0:ms=[]
  ·exact IT (by rw[decide_eq_true (by rw[h0];decide +kernel:V.str (Str.join (Str.ofString " ") (ms.map mtx))=V.str (Str.ofString ""))]<;>rfl) (am _ _ ⟨Z,by rw[show KN ms=_ from if_pos h0];rfl⟩)
  ·exact Ii (by rw[decide_eq_false (show ¬V.str (Str.join (Str.ofString " ") (ms.map mtx))=V.str (Str.ofString "") from λz=>Yu h0 (V.str.inj z))]<;>rfl) (am _ _ ⟨Z,by rw[show KN ms=_ from if_neg h0];rfl⟩)
 rintro ai G ⟨rfl,rfl⟩
 have r9:(Str.ofString "misses ").length+(Str.join Iz (qs.map tx)).length+2<=io/\Txt.split (Str.ofString "misses " ++ Str.join Iz (qs.map tx)) (Str.ofString " ")=wd 9::qs.map tx:=by
  rw[show Str.ofString "misses " = wd 9++Str.ofString " " by decide +kernel]
  exact Sn (.inr (.inr rfl)) af bX bd
 refine Jo ⟨2,Z,Yd,Yd,QD (n:=2) (λi us G'=>Hy G G'/\us=qK i (V.str (KN ms))) ⟨yy _,Z⟩ (λi us G' _ h=>by rw[h.2,qW]) P2 ?_ ?_⟩
 ·rintro i us G' hi ⟨sm,rfl⟩;refine⟨_,Z,p,dx,_,Z,sm _ _ aH,Z,_,Z,true,ln,zs,qs,Z,yw (sm _ _ aY),yG bi sm,λq hq=>(af q hq).fh,Yl,λG2 s2=>?_⟩;have az:=sm.trans s2;refine⟨_,_,Z,Z,Yl,p,dx,r',al,_,9,qs,pss,Z,r9.2,by rw[Jg];lia,az _ _ aH,aX.same az,bX,bd,af,.inr ⟨Yd,Yd,ak,λt G3 s3 ha=>?_⟩⟩
  obtain rfl:=cc _ ha;exact⟨az.trans s3,vb .. |>.symm⟩
 rintro us G' ⟨sm,rfl⟩ l hl;have sl:=sm.trans (yA (o:=.lst (qK 2 (V.str (KN ms)))) hl);refine⟨_,Z,_,Z,P2,λl2 as=>?_⟩;have ce:=ZU (λc hc=>(aJ c hc).2);refine jZ (ts:=[KN ms,KN ms]) (us:=[KN ms,KN ms]) (yw ((yA as) _ _ Hu)) (yw Hu) (λt ht=>by simp at ht;rw[ht];exact ce) (λt ht=>by simp at ht;rw[ht];exact ce) ?_
 rw[decide_eq_true rfl];exact q _ (bh.trans (sl.trans (yA as)).mv) (a5.sm (sl.trans (yA as)))
theorem IC:HJ ["_law_pen_here","_law_points","_law_at_here","_law_place","_law_way","_law_number","_law_room","_law_new"] ["_law_pen_here","_law_points"] (HD (top 154)):=fsc
theorem Qv(F:Fun K "_law_change" "_law_change" (top 154) f fd)(ky:Fd P w K mg base 33 "_law_draw" yX (LP))(kO:Fd P w K mg base 34 "_law_little" y2 (Mp))(kZ:Fd P w K mg base 33 "_law_told" yW (Ny K))(lL:Fd P w K mg base 35 "_law_fresh" za (ND K))(kM:Fd P w K mg base 34 "_law_texts" y6 (Ko K Iz))(kB:Fd P w K mg base 33 "_law_text" yS (JF K))(kq:mg "len" = none)(hT:yL P) :
 HV P w K mg base CX0 36 f fd ["_law_pen_here","_law_points"] (Q7 K):=by
 refine okA F IC λbo A outer s H vs Q E hr h=>?_
 refine⟨_,(HC K (HF (i:=2) IC (HS ky hr (pv 0) (HU K kq (pv 1))))
  (HC K (HF (i:=3) IC (HE (ixT K) (HE (ixT K) (pv 1) (pv 2)) Hv))
  (HC K (HF (i:=4) IC (HS ky hr (pv 0) Hv))
  (HC K (HF (i:=5) IC (Ic kO hr (pv 0)))
  (HC K (HF (i:=6) IC (HG Jf Hv (HU K kq (Ic kZ hr (pv 1)))))
  (HC K (Ig K (yv (M3 (HK Jk (pv 4) Hv) (KJ (HK Ke (pv 6) Hv)))) (HC K (HF (i:=7) IC (Ib (H9 (HS lL hr (pv 0) (Jj rfl (N:=["_law_point"]) (nt:=1) (js:=[]) (J7 IC) (piT K (pv 1)) (λ_ _ _ _ _=>(HM (i:=0) (nd1 _) rfl (Or.inl rfl))) (HY Yd) (λ_ _ _ _ _=>Iv) (λ_ _ _ _ _=>(HE (ixT K) (pv 0) Hv)))) (H9 (pv 5) HB))))
  (HC K (Ig K (yv (M3 (HK Ke (pv 6) Hv) (KJ (HK Jk (HS ky hr (pv 0) Hv) Hv)))) (HA (HF (i:=7) IC (HG (Lq K) (pv 7) (Ib (H9 (Ic kO hr (pv 0)) HB))))) HL)
  (HA (HH (Ib (H9 (HG Il Ia (Ic kM hr (pv 7))) (H9 (HG (Lq K) (pv 1) (Ib (H9 (pv 7) HB))) HB))))))) HL)
  (HC K (Ig K (yv (M3 (HK Jk (pv 4) Hv) (KJ (HK Ke (HU K kq (pv 1)) Hv)))) (HA (HH (Ib (H9 (HG Il Ia (Ic kB hr (pv 3))) (H9 (HG (Lq K) (IM (MV K) (pv 1) IS (IW (pv 2))) (IM (MV K) (pv 1) (IW (HG Iu (pv 2) Hv)) IS)) HB))))) HL)
  (HC K (Ig K (yv (M3 (HK Jk (pv 4) Hv) (KJ (yv (Kr (HK Ke (pv 6) Hv) (K6 (HK Jk (HU K kq (HE (ixT K) (pv 1) (pv 2))) Hv))))))) (HC K (HF (i:=7) IC (HG (Lq K) (IM (MV K) (HE (ixT K) (pv 1) (pv 2)) IS (IW Hv)) (Ib (H9 (pv 5) HB))))
  (HA (HH (Ib (H9 (HG Il Ia (Ic kM hr (IJ (H9 (pv 3) (H9 (pv 5) HB))))) (H9 (HG (Lq K) (HG (Lq K) (IM (MV K) (pv 1) IS (IW (pv 2))) (Ib (H9 (pv 7) HB))) (IM (MV K) (pv 1) (IW (HG Iu (pv 2) Hv)) IS)) HB)))))) HL)
  (HC K (Ig K (HK Jk (pv 4) Hv) (HA (HH (Ib (H9 (HG Il Ia (Ic kB hr (pv 3))) (H9 (HG (Lq K) (HG (Lq K) (IM (MV K) (pv 1) IS (IW (pv 2))) (Ib (H9 (IM (MV K) (HE (ixT K) (pv 1) (pv 2)) IS (IW Hv)) HB))) (IM (MV K) (pv 1) (IW (HG Iu (pv 2) Hv)) IS)) HB))))) HL)
  (HC K (HF (i:=7) IC (HG (Lq K) (Ib (H9 (pv 3) (H9 (pv 5) HB))) (IM (MV K) (HE (ixT K) (pv 1) (pv 2)) (IW Hv) IS)))
  (HA (HH (Ib (H9 (HG Il Ia (Ic kM hr (IJ (H9 (pv 3) (H9 (pv 5) HB))))) (H9 (HG (Lq K) (HG (Lq K) (IM (MV K) (pv 1) IS (IW (pv 2))) (Ib (H9 (pv 7) HB))) (IM (MV K) (pv 1) (IW (HG Iu (pv 2) Hv)) IS)) HB))))))))))))))),?_⟩
 obtain⟨a,r,xs,pss,rfl,pn,al,ak,h7,q⟩:=h;have bp:=al.P.length;have bn:=al.h1;have bj:=JE al.h23;refine⟨_,Z,_,Z,r,xs,Z,.inr al.S,a,_,Z,pn,Yl,Yl,λm H1 m0 m1 o1 p1=>?_⟩;obtain⟨k,rfl⟩:=(rj m0);have hk:k<xs.length:=by lia
 have aA:=al.mv pn o1.mv;obtain⟨v,hv⟩:∃v,xs[k]? = some v:=⟨_,sV hk⟩;obtain⟨ps,W,a',us,rr,rfl,hs,a4,a2,aX⟩:=(yB aA.P hv);refine⟨_,Z,_,Z,r,xs,_,_,Z,Z,aA.S,HQ hv,a',us,_,.ref rr,Z,Z,hs,HQ (j:=0) a2,?_⟩;refine⟨_,Z,a,5,Z,p1,Yd,Yd,λw H2 w0 w1 o2 p2=>?_⟩;refine⟨_,Z,a,Z,p2,λy ry H3 m3 p3 ey aN=>?_⟩;have aZ:=o2.mv.trans m3;have a1:=o1.mv.trans aZ;have aj:=al.mv pn a1;refine⟨_,Z,false,r,xs,pss,Z,aj.S,Ie.pts aj.P,aj.h23,Yl,λwl H4 ws s4 bh ew a8=>?_⟩;refine⟨wl,ws,Z,.inl (yw ew),_,_,Z,Z,?_⟩;rw[a8.length]

 have P1:1<=io:=by decide
 have P2:2<=io:=by decide
 have mT:=a1.trans s4.mv;have p4:=p3.sm s4;have Y:=aj.same s4;have aI:=aZ.trans s4.mv;have aE:=SqT.mv hs p1 aI;have ar:=HR.mv a4 p1 aI;have ae:=aI _ _ (p1.ne aX (NS _)) aX;have ax:=s4 _ _ ey;have as:=al.h23 ps (qU W);have aB:=a4.length;have pq:=al.pq ak.fg;have ay:Fg (ps.getD 0 0):=ak.fg ps (qU W) _ (KO Yl);clear hs a4 aX ey aZ aI aA aj p1 p2 p3 o1 o2 m3 a1 bh a8
 -- each way: taken,or the next bq
 try dsimp only
 refine K9 (L8 H4 a r k rr w ry pss λH4 a r k rr w ry pss O G=>G=H4/\O=[some (.ref a),some (.ref r),some (.int ((k:Nat):Int)),some (.ref rr),some (.int w),some (.ref ry),some (.int (7-((HI pss).length:Int))),none]) (λnx ac=>?_) ?_
 ·refine⟨_,Z,Z,_,Z,?_⟩;refine NY (λ_=>⟨_,Z,_,_,Z,Z,_,Z,?_⟩) (λ_=>IX (ac _ _ ⟨Z,Z⟩));by_cases hR:(0:Int)<7-((HI pss).length:Int)
  ·refine IT (by rw[decide_eq_true hR]<;>rfl) ?_
   refine⟨_,Z,Jo ⟨_,Z,r,Z,⟨_,Y.S⟩,QC (xs:=xs) (L3 H4 K pss λH4 K pss i ys H'=>H'=H4/\ys.length=i/\HR K H4 ys ((pss.map λps=>ps.getD 0 0).take i)) ⟨Z,Z,.nil⟩ (λi ys H' _ h=>⟨by rw[h.1];exact Y.S,h.2.1⟩) (pR (HX Yl)) ?_ ?_⟩⟩
   ·rintro i v ys H' hv ⟨rfl,a3,aH⟩;obtain⟨ps,W,a',us,rr,rfl,hs,hn,h0,hr⟩:=(yB Y.P hv);refine⟨_,Z,a',us,_,.ref rr,Z,Z,hs,HQ (j:=0) h0,Z,by simp[a3],?_⟩
    rw[sC,qR,W];exact Paired.snoc aH (yF hr)
   rintro ys H' ⟨rfl,a3,aH⟩ l hl;rw[tX (by rw[qz];lia)]at aH
   have sl:=yA (o:=.lst ys) hl;have aS:=Y.same sl;have aO:=p4.sm sl;have a6:=mT.trans sl.mv;have la:l≠a:=p4.ne' hl;have aY:=sl _ _ ax;refine⟨a,l,ys,_,Z,aO,la,Hu,yG aH sl,by rw[qz];lia,λrx x H5 m5 p5 ex hx aP bf=>⟨_,Z,P2,λt ht=>?_⟩⟩
   have st:=yA (o:=.tup [.ref rx,.ref ry]) ht;have m6:=m5.trans st.mv;have ba:=m6 _ _ (aO.ne aY (NS y)) aY;have a0:=st _ _ ex;have aF:=aS.mv aO m6;have p6:=p5.sm st;have aM:=a6.trans m6;have aU:PtT K (upd H5 t (.tup [.ref rx,.ref ry])) (.ref t) [x,y]:=⟨t,_,rx,Z,yx Hu,.cons (yF a0) (.cons (yF ba) .nil),Z,a0⟩;generalize upd H5 t (.tup [.ref rx,.ref ry])=H6 at p6 aF aM aU ⊢;clear ba a0 m6 st ht m5 p5 ex aY a6 aO aS sl hl la aH a3 Y p4 mT aE ar ae ax s4
   try dsimp only
   refine K9 (L11 a H K r xs pss k rr w ry x λa H K r xs pss k rr w ry x O H'=>Mv a H H'/\Pen H' a/\Pok K H' r xs pss/\∃(t:ge) (qs:yn),O=[some (.ref a),some (.ref r),some (.int ((k:Nat):Int)),some (.ref rr),some (.int w),some (.ref ry),some (.int (7-((HI pss).length:Int))),some (.ref t)]/\PtT K H' (.ref t) qs/\qs.getD 0 0=x/\(qs.length=2\/qs.length=3/\(1:Int)<7-((HI pss).length:Int))/\∀q∈qs,Fg q) (λnx ac=>?_) ?_
   ·refine⟨_,Z,_,_,Z,Z,_,Z,?_⟩
    have aR:∀H',Mv a H H'->Pen H' a->Pok K H' r xs pss->PtT K H' (.ref t) [x,y]->nx [some (.ref a),some (.ref r),some (.int ((k:Nat):Int)),some (.ref rr),some (.int w),some (.ref ry),some (.int (7-((HI pss).length:Int))),some (.ref t)] H':=λH' u1 u2 u3 u5=>ac _ _ ⟨u1,u2,u3,t,[x,y],Z,u5,Z,.inl rfl,λc hc=>by
     rcases pV.mp hc with z | z
     ·rw[z];exact aP
     ·rw[sU.mp z];exact aN⟩
    by_cases aw:(1:Int)<7-((HI pss).length:Int)
    ·refine IT (by rw[decide_eq_true aw]<;>rfl) ⟨_,Z,a,2,Z,p6,Yd,Yd,λe H7 e0 e1 o7 p7=>⟨Z,_,Z,?_⟩⟩
     have am:=PtT.mv aU p6 o7.mv;have ai:=aF.mv p6 o7.mv;by_cases he:V.int e=V.int 0
     ·refine IT (by rw[decide_eq_true he]<;>rfl) ⟨_,Z,_,Z,a,Z,p7,λz rz H8 m8 p8 ez bc=>⟨P1,λt1 ah=>?_⟩⟩
      have s9:=yA (o:=.tup [.ref rz]) ah;refine Lh (PtT.same (PtT.mv am p7 m8) s9) λt' us bb au=>?_;refine N0 au λet hs hn h0 hr=>?_;clear au;cases et;have aB:=hn.length;refine .inl ⟨t,t1,us,_,Z,Z,hs,yx Hu,(λz=>by rw[z]at aB;cases aB),by show us.length+1<=_;rw[aB];exact(by decide:3<=io),nofun,λ_ t2 ag=>?_⟩
      have aD:=yA (o:=.tup (us++[.ref rz])) ag;have m9:=(m8.trans s9.mv).trans aD.mv;refine ac _ _ ⟨(aM.trans o7.mv).trans m9,(p8.sm s9).sm aD,ai.mv p7 m9,t2,[x,y]++[z],Z,⟨t2,us++[.ref rz],bb,Z,yx Hu,Paired.snoc (yG hn aD) (yF (aD _ _ (s9 _ _ ez))),by rw[qQ (by rw[aB];exact Nat.zero_lt_two)];exact h0,aD _ _ hr⟩,Z,.inr ⟨Z,aw⟩,λc hc=>?_⟩
      rcases pW.mp hc with u | u
      ·rcases pV.mp u with u | u
       ·rw[u];exact aP
       ·rw[sU.mp u];exact aN
      ·rw[sU.mp u];exact bc
     ·exact Ii (by rw[decide_eq_false he]<;>rfl) (aR _ (aM.trans o7.mv) p7 ai am)
    ·exact Ii (by rw[decide_eq_false aw]<;>rfl) (aR _ aM p6 aF aU)
   rintro O H7 aw;obtain⟨bg,p7,ai,t,qs,rfl,am,a9,aL,aJ⟩:=aw
   try clear aw
   refine Lh (id am) λt' us bb av=>?_;refine N0 av λet hs hn h0 hr=>?_;clear av;cases et;have bi:=hn.length;have a7:2<=qs.length:=by rcases aL with z | ⟨z,_⟩<;>lia
   have aT:qs.length<=3:=by rcases aL with z | ⟨z,_⟩<;>lia
   have J:=TK (i:=0) Yd aJ Yl aT;refine⟨_,Z,false,t,us,qs,Z,hs,hn,λq hq=>(aJ q hq).fh,Yl,λH8 s8=>⟨_,_,Z,Z,J.1,?_⟩⟩;refine⟨_,Z,_,Z,P1,λt1 ah=>?_⟩;have sb:=s8.trans (yA (o:=.tup [.ref t]) ah);refine JV (ai.S.same sb) (yx Hu) (pR (HX (by show _+1<=1000;lia))) λt2 Hc sc ag=>⟨P2,λu hu=>?_⟩
   have sZ:=yA (o:=.tup [.str (Str.ofString "put " ++ Str.join Iz (qs.map tx)),.ref t2]) hu;have sT:=(sb.trans sc).trans sZ
   have hts:(HI (pss++[qs])).length=(HI pss).length+(qs.length-1):=by
    rw[JM,qV]
    congr 1
    rcases aL with z | ⟨z,_⟩
    ·match qs,z with
     | [_,_],_=>rfl
    ·match qs,z with
     | [_,_,_],_=>rfl
   have ad:(HI (pss++[qs])).length<=7:=by rw[hts];rcases aL with z | ⟨z,_⟩<;>lia
   have aa:Chg pss qs 0 (.ok (pss++[qs])):=.put (by rw[a9];exact hx) (pQ ad Yd)
   refine q u t2 _ _ 0 qs _ (bg.trans sT.mv) (p7.sm sT) (by rw[Hu,show Str.ofString "put " = wd 0++Str.ofString " " by decide +kernel,J.2]) Yd aa a7 aT aJ (ag.same sZ) ?_ (aa.ak pq a7 aT aJ ak (λ_=>by rw[a9];exact bf) Yl) ad
   exact Paired.snoc (yK ai.P sT) (PtT.same am sT)
  exact Ii (by rw[decide_eq_false hR]<;>rfl) (ac _ _ ⟨Z,Z⟩)
 rintro O G ⟨rfl,rfl⟩;refine Mu (s:=QR _ _ _) (L8 G a r k rr w ry pss λG a r k rr w ry pss O G'=>G'=G/\O=[some (.ref a),some (.ref r),some (.int ((k:Nat):Int)),some (.ref rr),some (.int w),some (.ref ry),some (.int (7-((HI pss).length:Int))),none]) (λnx ac=>?_) ?_
 ·refine⟨_,Z,Z,_,Z,?_⟩;refine NY (λ_=>⟨_,Z,r,xs,Z,.inr Y.S,_,_,Z,Z,_,Z,?_⟩) (λ_=>IX (ac _ _ ⟨Z,Z⟩));by_cases hR:(1:Int)<((xs.length:Nat):Int)
  ·refine IT (by rw[decide_eq_true hR]<;>rfl) ?_
   have aq:∀q∈[ps.getD 0 0],Fg q:=λq hq=>by rw[sU.mp hq];exact ay
   have J:=TK (i:=1) Yd aq (by decide:1<=1) (by decide:1<=3)
   refine⟨_,Z,_,_,Z,yF ae,ay.fh,_,_,Z,Z,J.1,?_⟩;refine⟨_,Z,_,Z,(k:Int),Z,JY (v:=k) Y.S Yl λw1 Ha sa ap=>?_⟩;refine⟨_,Z,_,Z,_,_,Z,Z,((k+1:Nat):Int),Z,Ki (v:=k+1) (Y.S.same sa) Yl λw2 Hd sd an=>?_⟩;refine JV (ap.same sd) an (pR (HX (by rw[qN,rq];lia))) λt Hf sf ht=>⟨P2,λu hu=>?_⟩
   have sZ:=yA (o:=.tup [.str (Str.ofString "take " ++ tx (ps.getD 0 0)),.ref t]) hu;have sT:=((sa.trans sd).trans sf).trans sZ;have aa:Chg pss [ps.getD 0 0] 1 (.ok (pss.take k++pss.drop (k+1))):=.take W rfl Yl;have ad:=Xp (m:=k) h7 W;refine q u t _ _ 1 [ps.getD 0 0] _ (mT.trans sT.mv) (p4.sm sT) (by rw[Hu,show Str.ofString "take " = wd 1++Str.ofString " " by decide +kernel,<- J.2];rfl) Yd aa (by decide:1<=1) (by decide:1<=1) aq (ht.same sZ) ?_ (aa.ak pq (by decide:1<=1) (by decide:1<=1) aq ak (λz=>nomatch z) Yl) ad
   exact yE (yD _ (yK Y.P sT)) (Jn _ (yK Y.P sT))
  exact Ii (by rw[decide_eq_false hR]<;>rfl) (ac _ _ ⟨Z,Z⟩)
 rintro O G' ⟨rfl,rfl⟩;refine Mu (s:=QR _ _ _) (L8 G' a r k rr w ry pss λG' a r k rr w ry pss O G=>G=G'/\O=[some (.ref a),some (.ref r),some (.int ((k:Nat):Int)),some (.ref rr),some (.int w),some (.ref ry),some (.int (7-((HI pss).length:Int))),none]) (λnx ac=>?_) ?_
 ·have bd:∀(c:TT) (Q':Bool->Hp->Prop),c=j2 (Rt (tOp rEq (Pg 4) (tC (.int 2)))) (tOr (Rt (tOp (rI0 λi j=>V.bl (decide (j<i))) (Pg 6) (tC (.int 0)))) (Rt (tOp rEq (tCB (fk K) (LD (tOp (Zz K) (Pg 1) (Pg 2)) QQ)) (tC (.int 3)))))->(∀b,(b=true->(0:Int)<7-((HI pss).length:Int)\/ps.length=3)->Q' b G')->c [some (.ref a),some (.ref r),some (.int ((k:Nat):Int)),some (.ref rr),some (.int w),some (.ref ry),some (.int (7-((HI pss).length:Int))),none] G' Q':=λc Q' ec hQ=>by
   subst ec;refine⟨_,Z,Z,_,Z,NY (λ_=>⟨_,Z,_,_,Z,Z,_,Z,?_⟩) (λ_=>hQ _ nofun)⟩;by_cases hR:(0:Int)<7-((HI pss).length:Int)
   ·exact IT (by rw[decide_eq_true hR]<;>rfl) (hQ _ λ_=>.inl hR)
   exact Ii (by rw[decide_eq_false hR]<;>rfl) ⟨_,Z,_,Z,r,xs,_,_,Z,Z,Y.S,HQ hv,a',us,Z,.inr aE,Z,_,Z,hQ _ λz=>.inr (by have:=V.int.inj (of_decide_eq_true z);lia)⟩
  refine bd _ _ rfl λb hb=>NY (λz=>?_) (λ_=>ac _ _ ⟨Z,Z⟩);have hR:=hb z;refine⟨_,Z,_,Z,r,xs,_,_,Z,Z,Y.S,HQ hv,2,Z,JY (v:=2) aE Yl λw0 H5 s5 aV=>⟨_,Z,P1,λt0 aK=>?_⟩⟩;have sA:=s5.trans (yA (o:=.tup [.ref ry]) aK);refine JV (aV.same (yA aK)) (yx Hu) (pR (HX (by rw[qN];show _+1<=1000;lia))) λnw Hn s6 aG=>?_
  have sN:=sA.trans s6;have aW:PtT K Hn (.ref nw) (ps.take 2++[y]):=⟨nw,_,rr,Z,aG,Paired.snoc (yD 2 (yG ar sN)) (yF (sN _ _ ax)),(by rw[qQ (by rw[qN];lia),qS Yd];exact a2),(by rw[Sr as];exact sN _ _ ae)⟩
  refine⟨_,Z,_,Z,P2,λl hl=>?_⟩;have sl:=sN.trans (yA (o:=.lst [.ref rr,.ref ry]) hl)
  have af:∀q∈[ps.getD 0 0,y],Fg q:=λq hq=>by
   rcases pV.mp hq with z | z
   ·rw[z];exact ay
   ·rw[sU.mp z];exact aN
  refine⟨true,l,_,[ps.getD 0 0,y],Z,yw Hu,.cons (yF (sl _ _ ae)) (.cons (yF (sl _ _ ax)) .nil),λq hq=>(af q hq).fh,(by decide:2<=100),λH7 s7=>?_⟩
  have J:=TK (i:=3) Yd af (by decide:1<=2) (by decide:2<=3)
  refine⟨_,_,Z,Z,J.1,?_⟩;have s8:=sl.trans s7;refine⟨_,Z,_,Z,(k:Int),Z,JY (v:=k) (Y.S.same s8) Yl λw1 Ha sa ap=>⟨_,Z,P1,λt1 ah=>?_⟩⟩;have sb:=yA (o:=.tup [.ref nw]) ah;refine JV (ap.same sb) (yx Hu) (pR (HX (by rw[qN];show _+1<=1000;lia))) λt2 Hc sc ag=>?_
  have ao:=(sa.trans sb).trans sc;refine⟨_,Z,_,Z,_,_,Z,Z,((k+1:Nat):Int),Z,Ki (v:=k+1) ((Y.S.same s8).same ao) Yl λw2 Hd sd an=>?_⟩;refine JV (ag.same sd) an (pR (HX (by rw[qV,qN,rq];show _+1+_<=1000;lia))) λt Hf sf ht=>⟨P2,λu hu=>?_⟩
  have az:=(ao.trans sd).trans sf;have sZ:=yA (o:=.tup [.str (Str.ofString "slope " ++ Str.join Iz ([ps.getD 0 0,y].map tx)),.ref t]) hu;have sT:=(s8.trans az).trans sZ;have aC:=(pY.mp W).1;have eS:pss.set k (ps.take 2++[y])=pss.take k++[ps.take 2++[y]]++pss.drop (k+1):=by rw[v5,if_pos aC,rG];rfl
  have ad:(HI (pss.set k (ps.take 2++[y]))).length<=7:=by
   have:=Xo (qs:=ps.take 2++[y]) W;rw[qV,qN,rH]at this
   lia
  have aa:Chg pss [ps.getD 0 0,y] 3 (.ok (pss.set k (ps.take 2++[y]))):=.slope W rfl (pQ ad Yd);refine q u t _ _ 3 [ps.getD 0 0,y] _ (mT.trans sT.mv) (p4.sm sT) (by rw[Hu,show Str.ofString "slope " = wd 3++Str.ofString " " by decide +kernel,J.2]) Yd aa (by decide:2<=2) (by decide:2<=2) af (ht.same sZ) ?_ (aa.ak pq (by decide:2<=2) (by decide:2<=2) af ak (λz=>nomatch z) Yl) ad
  rw[eS];exact yE (Paired.snoc (yD _ (yK Y.P sT)) (PtT.same aW ((((yA (o:=.lst [.ref rr,.ref ry]) hl).trans s7).trans az).trans sZ))) (Jn _ (yK Y.P sT))
 rintro O G ⟨rfl,rfl⟩;refine Mu (s:=QR _ _ _) (L8 G a r k rr w ry pss λG a r k rr w ry pss O G'=>G'=G/\O=[some (.ref a),some (.ref r),some (.int ((k:Nat):Int)),some (.ref rr),some (.int w),some (.ref ry),some (.int (7-((HI pss).length:Int))),none]) (λnx ac=>?_) ?_
 ·refine⟨_,Z,Z,_,Z,NY (λ_=>?_) (λ_=>ac _ _ ⟨Z,Z⟩)⟩;have aq:∀q∈[ps.getD 0 0],Fg q:=λq hq=>by rw[sU.mp hq];exact ay
  have J:=TK (i:=4) Yd aq (by decide:1<=1) (by decide:1<=3)
  refine⟨_,Z,_,_,Z,yF ae,ay.fh,_,_,Z,Z,J.1,?_⟩;refine⟨_,Z,_,Z,(k:Int),Z,JY (v:=k) Y.S Yl λw1 Ha sa ap=>?_⟩;refine⟨_,Z,_,Z,r,xs,_,_,Z,Z,Y.S.same sa,HQ hv,2,Z,JY (v:=2) (aE.same sa) Yl λw3 Hb sb be=>⟨P1,λt1 ah=>?_⟩⟩;have s1:=yA (o:=.tup [.ref w3]) ah;refine JV ((ap.same sb).same s1) (yx Hu) (pR (HX (by rw[qN];show _+1<=1000;lia))) λt2 Hc sc ag=>?_
  have ao:=((sa.trans sb).trans s1).trans sc;refine⟨_,Z,_,Z,_,_,Z,Z,((k+1:Nat):Int),Z,Ki (v:=k+1) (Y.S.same ao) Yl λw2 Hd sd an=>?_⟩;refine JV (ag.same sd) an (pR (HX (by rw[qV,qN,rq];show _+1+_<=1000;lia))) λt Hf sf ht=>⟨P2,λu hu=>?_⟩
  have sZ:=yA (o:=.tup [.str (Str.ofString "noslope " ++ tx (ps.getD 0 0)),.ref t]) hu;have a5:=(((s1.trans sc).trans sd).trans sf).trans sZ;have sT:=(sa.trans sb).trans a5;have aC:=(pY.mp W).1;have eS:pss.set k (ps.take 2)=pss.take k++[ps.take 2]++pss.drop (k+1):=by rw[v5,if_pos aC,rG];rfl
  have aa:Chg pss [ps.getD 0 0] 4 (.ok (pss.set k (ps.take 2))):=.noslope W rfl;have ad:(HI (pss.set k (ps.take 2))).length<=7:=pQ (PM W as) h7;refine q u t _ _ 4 [ps.getD 0 0] _ (mT.trans sT.mv) (p4.sm sT) (by rw[Hu,show Str.ofString "noslope " = wd 4++Str.ofString " " by decide +kernel,<- J.2];rfl) Yd aa (by decide:1<=1) (by decide:1<=1) aq (ht.same sZ) ?_ (aa.ak pq (by decide:1<=1) (by decide:1<=1) aq ak (λz=>nomatch z) Yl) ad
  rw[eS];exact yE (Paired.snoc (yD _ (yK Y.P sT)) ⟨w3,_,rr,Z,be.same a5,yD 2 (yG ar sT),by rw[qS Yd];exact a2,by rw[PN as];exact sT _ _ ae⟩) (Jn _ (yK Y.P sT))
 rintro O G' ⟨rfl,rfl⟩

 refine⟨_,Z,_,Z,P2,λt0 aK=>?_⟩;have sA:=yA (o:=.tup [.ref rr,.ref ry]) aK;refine⟨_,Z,_,Z,r,xs,_,_,Z,Z,Y.S.same sA,HQ hv,2,Z,Ki (v:=2) (aE.same sA) Yl λw0 H5 s5 aV=>?_⟩;refine JV (yx (s5 _ _ Hu)) aV (pR (HX (by rw[rq];show 2+_<=1000;lia))) λnw Hn s6 aG=>?_
 have sN:=(sA.trans s5).trans s6;have aW:PtT K Hn (.ref nw) ([ps.getD 0 0,y]++ps.drop 2):=⟨nw,_,rr,Z,aG,.cons (yF (sN _ _ ae)) (.cons (yF (sN _ _ ax)) (Jn 2 (yG ar sN))),Z,sN _ _ ae⟩;refine⟨_,Z,_,Z,P2,λl hl=>?_⟩;have sl:=sN.trans (yA (o:=.lst [.ref rr,.ref ry]) hl)
 have af:∀q∈[ps.getD 0 0,y],Fg q:=λq hq=>by
  rcases pV.mp hq with z | z
  ·rw[z];exact ay
  ·rw[sU.mp z];exact aN
 refine⟨true,l,_,[ps.getD 0 0,y],Z,yw Hu,.cons (yF (sl _ _ ae)) (.cons (yF (sl _ _ ax)) .nil),λq hq=>(af q hq).fh,(by decide:2<=100),λH7 s7=>?_⟩
 have J:=TK (i:=2) Yd af (by decide:1<=2) (by decide:2<=3)
 refine⟨_,_,Z,Z,J.1,?_⟩;have s8:=sl.trans s7;refine⟨_,Z,_,Z,(k:Int),Z,JY (v:=k) (Y.S.same s8) Yl λw1 Ha sa ap=>⟨_,Z,P1,λt1 ah=>?_⟩⟩;have sb:=yA (o:=.tup [.ref nw]) ah;refine JV (ap.same sb) (yx Hu) (pR (HX (by rw[qN];show _+1<=1000;lia))) λt2 Hc sc ag=>?_
 have ao:=(sa.trans sb).trans sc;refine⟨_,Z,_,Z,_,_,Z,Z,((k+1:Nat):Int),Z,Ki (v:=k+1) ((Y.S.same s8).same ao) Yl λw2 Hd sd an=>?_⟩;refine JV (ag.same sd) an (pR (HX (by rw[qV,qN,rq];show _+1+_<=1000;lia))) λt Hf sf ht=>⟨P2,λu hu=>?_⟩
 have az:=(ao.trans sd).trans sf;have sZ:=yA (o:=.tup [.str (Str.ofString "height " ++ Str.join Iz ([ps.getD 0 0,y].map tx)),.ref t]) hu;have sT:=(s8.trans az).trans sZ;have aC:=(pY.mp W).1;have eS:pss.set k ([ps.getD 0 0,y]++ps.drop 2)=pss.take k++[[ps.getD 0 0,y]++ps.drop 2]++pss.drop (k+1):=by rw[v5,if_pos aC,rG];rfl
 have aa:Chg pss [ps.getD 0 0,y] 2 (.ok (pss.set k ([ps.getD 0 0,y]++ps.drop 2))):=.height W rfl;have ad:(HI (pss.set k ([ps.getD 0 0,y]++ps.drop 2))).length<=7:=by rw[OT W as];exact h7
 refine q u t _ _ 2 [ps.getD 0 0,y] _ (mT.trans sT.mv) (p4.sm sT) (by rw[Hu,show Str.ofString "height " = wd 2++Str.ofString " " by decide +kernel,J.2]) Yd aa (by decide:2<=2) (by decide:2<=2) af (ht.same sZ) ?_ (aa.ak pq (by decide:2<=2) (by decide:2<=2) af ak (λz=>nomatch z) Yl) ad
 rw[eS];have sX:=(sl.trans s7).trans (az.trans sZ);exact yE (Paired.snoc (yD _ (yK Y.P sX)) (PtT.same aW ((((yA (o:=.lst [.ref rr,.ref ry]) hl).trans s7).trans az).trans sZ))) (Jn _ (yK Y.P sX))
theorem K5:HJ ["_law_desk","_law_row","_law_refused"] ["_law_desk","_law_row"] (HD (top 155)):=fsc
theorem Ni(F:Fun K "_law_is_refused" "_law_is_refused" (top 155) f fd)(ag:Pe K W)(aa:mg "CurveError" = some (.ref Y))(af:uJ K (.ref J) (.ref Y)=some true)(ac:uJ K (.ref O) (.ref Y)=some true)(ad:uJ K (.ref z) (.ref Y)=some true)(ae:FdM (CX2 P w) P w K mg base 41 W "say" yV (λvs H Q E=>(LM K W:Sp) vs H Q E\/(MQ K (JW J O z) W:Sp) vs H Q E))(kC:FdM CX0 P w K mg base 41 W "say" yV (LM K W))(hT:yL P) :
 HV P w K mg base CX0 42 f fd ["_law_desk","_law_row"] (Sb K (JW J O z) W):=by
 refine okA F K5 λal A outer s H vs Q E hr h=>?_
 refine⟨_,(HC K (HF (i:=2) K5 Kh)
  (HC K (ZC (Y3 (pv 0) ag.cl ae hr (H9 (pv 1) HB)) (λ_ _=>Kh) rfl aa K5.nd (j:=2) rfl rfl rfl rfl)
  (HA (HH (pv 2))))),?_⟩
 obtain⟨p,dx,r,xs,t,qs,pss,n,rfl,ai,aj,hp,ah,h1,h2,hf,ak,hn,q⟩:=h;refine⟨_,Z,p,dx,_,Z,hp,Z,_,Z,.inr ⟨p,dx,r,xs,t,qs,pss,n,Z,ai,aj,hp,ah,h1,h2,hf,ak,λH1 s1=>⟨?_,_,Z,q H1 s1⟩⟩⟩
 rcases hn with rfl | rfl | rfl
 ·exact af
 ·exact ac
 ·exact ad
theorem LX:HJ ["_law_script","_law_pen_here","_law_points","_law_desk","_law_k","_law_row"] ["_law_script"] (HD (top 156)):=fsc
theorem hJ(F:Fun K "law" "law" (top 156) f fd)(av:Pe K Y)(oq:Fd P w K mg base 33 "_law_pen" ["_law_script","_law_k"] (XD K))(ou:Fd P w K mg base 36 "_law_desk_points" ["_law_pen_here","_law_most"] (Na K))(ox:Fd P w K mg base 42 "_law_other_right" y2 (Q5 K))(ky:Fd P w K mg base 33 "_law_draw" yX (LP))(lC:Fd P w K mg base 34 "_law_points_text" yW (NA K))(mX:Fd P w K mg base 42 "_law_asked" zd (Sd K Y))(oy:Fd P w K mg base 36 "_law_change" ["_law_pen_here","_law_points"] (Q7 K))(oB:Fd P w K mg base 42 "_law_is_refused" ["_law_desk","_law_row"] (Sb K (JW a_TooMany a_NoPoints a_NoPoint) Y))(kB:Fd P w K mg base 33 "_law_text" yS (JF K))(lE:FdI CX0 P w K mg base 38 Y "Desk" y7 (NF K Y))(kC:FdM CX0 P w K mg base 41 Y "say" yV (LM K Y))(ku:mg "range" = none)(kr:mg "tuple" = none)(hT:yL P) :
 HV P w K mg base CX0 43 f fd ["_law_script"] (Tx K):=by
 refine okA F LX λbv A outer s H vs Q E hr h=>?_;refine⟨_,(@JA _ _ _ _ _ K _ (@Om _ _ 1 _ _ _ _ LX.nd rfl (Or.inl rfl) (@Ln _ _ _ _ _ _ _ _ _ _ _ oq hr rfl (@H9 _ _ _ _ _ (pv 0) (@H9 _ _ _ _ _ Hv HB Yr) Yr) Yd Yd Yr Yr) Yr (by first   | exact .inl rfl   | exact .inr rfl   | assumption)) (@JA _ _ _ _ _ K _ (@Om _ _ 2 _ _ _ _ LX.nd rfl (Or.inr rfl) (@Ln _ _ _ _ _ _ _ _ _ _ _ ou hr rfl (@H9 _ _ _ _ _ (pv 1) (@H9 _ _ _ _ _ Hv HB Yr) Yr) Yd Yd Yr Yr) Yr (by first   | exact .inl rfl   | exact .inr rfl   | assumption)) (@JA _ _ _ _ _ K _ (@Oo _ _ _ _ _ _ _ _ K _ _ (@K3 _ _ _ _ _ _ _ _ Jk (@Ln _ _ _ _ _ _ _ _ _ _ _ ky hr rfl (@H9 _ _ _ _ _ (pv 1) (@H9 _ _ _ _ _ Hv HB Yr) Yr) Yd Yd Yr Yr) Hv (LA _)) (@HA _ _ _ (@Om _ _ 2 _ _ _ _ LX.nd rfl (Or.inr rfl) (@Ij _ _ _ _ _ _ _ _ _ (Ls K) rfl kr Jr (@H9 _ _ _ _ _ (@Jj _ (["_law_point","_law_points"]) 1 ([2]) _ _ _ _ _ _ _ _ _ _ rfl (J7 LX) (@piT _ K _ _ _ (pv 2) Yr) (λ_ _ _ _ _=>(@HM _ _ 0 _ (show List.Nodup (["_law_point","_law_points"]:yr) from by decide +kernel) rfl (Or.inl rfl) (by first   | exact .inl rfl   | exact .inr rfl   | assumption))) (HY Yd) (λ_ _ _ _ _=>Iv) (λ_ _ _ _ _=>(@HG _ _ _ _ _ _ _ _ (Lq K) (@IM _ _ _ _ _ _ _ _ _ _ (MV K) (pv 0) IS (@IW _ _ _ Hv)) (@Ib _ _ _ _ _ (@H9 _ _ _ _ _ (@TR _ _ _ _ _ _ _ (ixT K) (@TR _ _ _ _ _ _ _ (ixT K) (pv 1) Hv (λu v=>rfl)) Hv (λu v=>rfl)) HB Yr)))) (by intro _;rfl)) HB Yr) Yd Yd Yr Yr) Yr (by first   | exact .inl rfl   | exact .inr rfl   | assumption))) HL Yr Yr) (@JA _ _ _ _ _ K _ (@Om _ _ 3 _ _ _ _ LX.nd rfl (Or.inl rfl) (Qk lE hr rfl Ks (@H9 _ _ _ _ _ (@Ln _ _ _ _ _ _ _ _ _ _ _ lC hr rfl (@H9 _ _ _ _ _ (pv 2) HB Yr) Yd Yd Yr Yr) HB Yr)) Yr (by first   | exact .inl rfl   | exact .inr rfl   | assumption)) (@JA _ _ _ _ _ K _ (@Oo _ _ _ _ _ _ _ _ K _ _ (@Jy _ _ _ _ (@Jt _ _ _ (@Ln _ _ _ _ _ _ _ _ _ _ _ mX hr rfl (@H9 _ _ _ _ _ (pv 1) (@H9 _ _ _ _ _ (pv 3) (@H9 _ _ _ _ _ (pv 2) HB Yr) Yr) Yr) Yd Yd Yr Yr) (by intro _;rfl))) (@HA _ _ _ (@HH _ _ _ _ Kh)) HL Yr Yr) (@JA _ _ _ _ _ K _ (@IP _ _ _ _ _ _ _ _ K _ PassesOwn.never rfl (@J2 _ _ _ _ _ _ rfl ku (@H9 _ _ _ _ _ Hv HB Yr) Yr) (@HM _ _ 4 _ LX.nd rfl (Or.inl rfl) (by first   | exact .inl rfl   | exact .inr rfl   | assumption)) (@JA _ _ _ _ _ K _ (@Nh _ _ _ _ _ _ (@Ln _ _ _ _ _ _ _ _ _ _ _ oy hr rfl (@H9 _ _ _ _ _ (pv 1) (@H9 _ _ _ _ _ (pv 2) HB Yr) Yr) Yd Yd Yr Yr) (@pgT _ K _ _ _ 2 _ rfl (IL (@HM _ _ 5 _ LX.nd rfl (Or.inl rfl) (by first   | exact .inl rfl   | exact .inr rfl   | assumption)) (IL (@HM _ _ 2 _ LX.nd rfl (Or.inr rfl) (by first   | exact .inl rfl   | exact .inr rfl   | assumption)) KL)) Yr Yr Yr) Yr Yr Yr) (@JA _ _ _ _ _ K _ (@Oo _ _ _ _ _ _ _ _ K _ _ (@K3 _ _ _ _ _ _ _ _ Ml (JP (pv 3) av.cl kC hr Ks (@H9 _ _ _ _ _ (pv 5) HB Yr)) Ia (LA _)) (@HA _ _ _ (@HH _ _ _ _ Kh)) HL Yr Yr) (@JA _ _ _ _ _ K _ (@Oo _ _ _ _ _ _ _ _ K _ _ (@yv _ _ _ (@M3 _ _ _ _ _ _ _ (@K3 _ _ _ _ _ _ _ _ Jk (pv 4) Hv (LA _)) (@KJ _ _ _ _ (@Jy _ _ _ _ (@Jt _ _ _ (@Ln _ _ _ _ _ _ _ _ _ _ _ oB hr rfl (@H9 _ _ _ _ _ (pv 3) (@H9 _ _ _ _ _ (@HG _ _ _ _ _ _ _ _ Il (@HG _ _ _ _ _ _ _ _ Il Ia (@Ln _ _ _ _ _ _ _ _ _ _ _ kB hr rfl (@H9 _ _ _ _ _ (@TR _ _ _ _ _ _ _ (ixT K) (@TR _ _ _ _ _ _ _ (ixT K) (pv 2) Hv (λu v=>rfl)) Hv (λu v=>rfl)) HB Yr) Yd Yd Yr Yr)) Ia) HB Yr) Yr) Yd Yd Yr Yr) (by intro _;rfl)))))) (@HA _ _ _ (@HH _ _ _ _ Kh)) HL Yr Yr) (@HA _ _ _ (@Oo _ _ _ _ _ _ _ _ K _ _ (@Jy _ _ _ _ (@Jt _ _ _ (@Ln _ _ _ _ _ _ _ _ _ _ _ mX hr rfl (@H9 _ _ _ _ _ (pv 1) (@H9 _ _ _ _ _ (pv 3) (@H9 _ _ _ _ _ (pv 2) HB Yr) Yr) Yr) Yd Yd Yr Yr) (by intro _;rfl))) (@HA _ _ _ (@HH _ _ _ _ Kh)) HL Yr Yr)) Yr) Yr) Yr) Yr (by intro _;rfl)) (@HA _ _ _ (@HH _ _ _ _ (@Ln _ _ _ _ _ _ _ _ _ _ _ ox hr rfl (@H9 _ _ _ _ _ (pv 1) HB Yr) Yd Yd Yr Yr))) Yr) Yr) Yr) Yr) Yr) Yr),?_⟩
 obtain⟨a,ns,rfl,hS,bg,q⟩:=h;have P1:1<=io:=by decide
 refine⟨_,Z,a,ns,0,Z,hS,bg,Yd,Yd,λp c0 c1 hp=>?_⟩;have pn:Pen (upd H p (.lst [.int c0,.int c1,.int 0])) p:=.put;generalize upd H p (.lst [.int c0,.int c1,.int 0])=H1 at pn ⊢;refine⟨_,Z,p,5,Z,pn,Yd,Yd,λr xs pss H2 m2 p2 O ak bb=>?_⟩
 try dsimp only
 refine K9 (L3 p a K λp a K an G=>Pen G p/\∃(r:ge) (xs:yt) (pss:ym),an=[some (.ref a),some (.ref p),some (.ref r),none,none,none]/\Pok K G r xs pss/\Ak pss/\(HI pss).length<=7) (λnx ar=>?_) ?_
 ·refine⟨_,Z,p,3,Z,p2,Yd,Yd,λe G e0 e1 o3 p3=>⟨Z,_,Z,?_⟩⟩;have W:=O.mv p2 o3.mv;refine NY (λ_=>?_) (λ_=>ar _ _ ⟨p3,r,xs,pss,Z,W,ak,Yl⟩);have bj:=W.P.length;have bu:=JE W.h23;have bd:=W.h1;obtain⟨v0,am⟩:∃v,xs[0]? = some v:=⟨_,sV Yl⟩;obtain⟨J,ad,b0,aw,bl,rfl,hs0,aE,aC,aT⟩:=(yB W.P am);have bf:=W.h23 J (qU ad);have bq:=aE.length;obtain⟨y0,aY⟩:∃v,aw[1]? = some v:=⟨_,sV Yl⟩;obtain⟨q0,bn,bo⟩:=(yB aE aY);have be:Fg q0:=ak.fg J (qU ad) q0 (qU bn);refine Jo ⟨_,Z,r,Z,⟨_,W.S⟩,QC (xs:=xs) (L4 G K q0 pss λG K q0 pss i ys G'=>Hy G G'/\ys.length=i/\Ie K G' ys ((Lo q0 pss).take i)) ⟨yy _,Z,.nil⟩ (λi ys G' _ h=>⟨W.S.same h.1,h.2.1⟩) (pR (HX Yl)) ?_ ?_⟩
  ·rintro i v ys G' hv ⟨sm,a3,a5⟩;obtain⟨ps,a4,b,us,rr,rfl,hs,hn,bi,hr⟩:=(yB W.P hv);have hl:=W.h23 ps (qU a4);have br:=hn.length;refine⟨_,Z,1,Z,JY (v:=1) (hs.same sm) Yl λw1 Ga sa bh=>?_⟩;have s1:=sm.trans sa;refine⟨_,Z,r,xs,_,_,Z,Z,W.S.same s1,HQ (j:=0) am,b0,aw,_,y0,Z,Z,hs0.same s1,HQ (j:=1) aY,P1,λt ht=>?_⟩;have s2:=yA (o:=.tup [y0]) ht;refine JV (bh.same s2) (yx Hu) (pR (HX (by rw[qN];show _+1<=1000;lia))) λw2 Gb sb aR=>?_
   have s3:=(s1.trans s2).trans sb;have bc:=(sa.trans s2).trans sb
   have eu:us.take 1=[.ref rr]:=by
    match us,bi with
    | u::r,h=>rw[uF,pC.injEq]at h;rw[h];rfl
   rw[eu]at aR;refine⟨s3,by simp[a3],?_⟩
   rw[sC,show(Lo q0 pss)[i]? = some [ps.getD 0 0,q0] by unfold Lo;rw[qR,a4];rfl]
   exact Paired.snoc (yK a5 bc) ⟨w2,_,rr,Z,aR,.cons (yF (s3 _ _ hr)) (.cons (bo.same s3) .nil),Z,s3 _ _ hr⟩
  rintro ys G' ⟨sm,a3,a1⟩ l hl;rw[tX (by unfold Lo;rw[qz];lia)]at a1
  have sl:=yA (o:=.lst ys) hl;refine⟨l,ys,Z,.inl ⟨yw Hu,λr2 aA=>?_⟩⟩;have s2:=sl.trans (yA (o:=.tup ys) aA);obtain⟨pq,aq⟩:=(YN (y:=q0) (W.pq ak.fg) be ak);exact ar _ _ ⟨p3.sm (sm.trans s2),r2,ys,Lo q0 pss,Z,pq.pok (yx Hu) (yK a1 s2),aq,by rw[Nl];lia⟩
 clear m2 p2 O ak bb xs pss r;rintro an H3 aU;refine Jh aU λp3 aj=>?_;refine Lh aj λr xs pss ah=>?_;clear aj;refine Le ah λaF O ak h7=>?_;clear ah;obtain rfl:=aF
 try clear aU
 have ba:=JE O.h23;refine⟨_,Z,false,r,xs,pss,Z,O.S,Ie.pts O.P,O.h23,ak.fg,Yl,λH4 s4=>?_⟩;intro o dx ho a9 bp;have sd:Hy H4 (upd (upd H4 dx (.own o)) o (.ins Y dx [])):=λb u e=>by rw[HZ (HW e ho),HZ (HW e a9)];exact e
 refine⟨o,dx,pss,Z,Hu,O.h1,O.h23,ak.fg,O.nd,O.h12,λr' aa H5 bt ed aK=>⟨Z,?_⟩⟩;have s5:Hy H3 H5:=λb u e=>bt b u (HW (s4 _ _ e) ho) (sd _ _ (s4 _ _ e));have as:=O.same s5;have p5:=p3.sm s5;clear s4 ho a9 bp sd bt s5 O p3 hS pn;refine⟨_,Z,_,Z,_,Z,p,o,dx,r,r',xs,aa,pss,Z,p5,ed,as,aK,ak,h7,λH6 m6 p6=>⟨_,Z,IX ?_⟩⟩;refine⟨4,Z,Yd,Yd,Jv (n:=4) (L3 p a K λp a K _ σ G=>Pen G p/\∃(r r':ge) (xs aa:yt) (pss:ym) (z4 z5:Option V),σ=[some (.ref a),some (.ref p),some (.ref r),some (.ref o),z4,z5]/\Pok K G r xs pss/\Ak pss/\(HI pss).length<=7/\G o=some (dk Y dx r')/\Pok K G r' aa pss) ⟨p6,r,r',xs,aa,pss,none,none,Z,as.mv p5 m6,ak,h7,m6 _ _ (p5.ne ed (λ_ _ _ z=>by cases z)) ed,aK.mv p5 m6⟩ ?_ ?_⟩
 case refine_2 =>
  rintro σ G a8;refine Jh a8 λpG ao=>?_;refine iz ao λr r' xs aa pss z4 z5 ag=>?_;clear ao;refine Jh ag λaI _=>?_;clear ag;obtain rfl:=aI
  try clear a8
  exact⟨_,Z,p,Z,pG,λH'=>q _⟩
 clear p6 m6 p5 as aK ed ak h7 ba r r' xs aa pss;rintro k σ G hk aZ;refine Jh aZ λpG ap=>?_;refine iz ap λr r' xs aa pss z4 z5 ae=>?_;clear ap;refine Th ae λaL O ak h7 ed aD=>?_;clear ae;obtain rfl:=aL
 try clear aZ
 refine⟨_,Z,_,Z,p,r,xs,pss,Z,pG,O,ak,h7,λt r2 aB af i qs G1 m1 p1 et i5 aM aH ax ay aA a6 aq a7=>⟨t,_,Z,yx et,Z,_,_,Z,_,_,Z,Z,?_⟩⟩;have au:=aD.mv pG m1;have ai:=m1 _ _ (pG.ne ed (λ_ _ _ z=>by cases z)) ed
 have hi:i=0\/i=1\/i=2\/i=3\/i=4:=by lia
 have aP:qs.length<=3:=by rcases hi with rfl | rfl | rfl | rfl | rfl<;>exact pQ ax Yd
 have a0:=aM.pq (O.pq ak.fg) aH ax ay;refine⟨_,Z,o,dx,_,Z,ai,Z,_,Z,o,dx,r',aa,_,i,qs,pss,Z,RA i5,So i5 ay aP,ai,au,aH,ax,ay,.inl ⟨i5,af,aM,λr3 aJ G2 bt e2 aX a2=>⟨Z,_,Z,?_⟩⟩⟩;refine Ii (by rw[decide_eq_true (rfl:V.str (Str.ofString "ok")=V.str (Str.ofString "ok"))]<;>rfl) (fR ?_)
 have ac:=a0.pok (SqT.bt aA bt ai) (Ie.bt a6 bt ai);have al:=a0.pok aX a2;have az:=Pen.bt p1 bt ai;clear bt ai au m1 p1 et aA a6 O aD ed pG aX a2 ak h7 aM aH ax ay aP hi;refine Mu (s:=QR _ _ _) (L5 G2 a p r2 k λG2 a p r2 k an G=>Hy G2 G/\∃z5:Option V,an=[some (.ref a),some (.ref p),some (.ref r2),some (.ref o),some (.int (0+(k:Int))),z5]) (λnx ar=>?_) ?_
 ·refine⟨_,Z,Z,_,Z,?_⟩;by_cases h2:V.int (0+(k:Int))=V.int 2
  ·rw[decide_eq_true h2];have bd:=ac.h1;have bj:=ac.P.length;obtain⟨v0,am⟩:∃v,aB[0]? = some v:=⟨_,sV Yl⟩;obtain⟨J,ad,b0,aw,bl,rfl,hs0,aE,aC,aT⟩:=(yB ac.P am);have aG:=qU ad;have bf:=ac.h23 J aG;have aV:Fg (J.getD 0 0):=aq.fg J aG _ (KO Yl)
   have aW:∀q∈[J.getD 0 0,1],Fg q:=λq hq=>by
    rcases pV.mp hq with z | z
    ·rw[z];exact aV
    ·rw[sU.mp z];exact⟨Yd,Yd⟩
   have aN:=So (i:=0) Yd aW (by decide:2<=3)
   have aO:=RA (i:=0) (qs:=[J.getD 0 0,1]) Yd;rw[<- XW]at aN aO;have aS:=aN;rw[Jg,Jg]at aS;refine Kv ⟨_,Z,_,Z,r2,aB,_,_,Z,Z,ac.S,HQ (j:=0) am,b0,aw,_,_,Z,Z,hs0,HQ (j:=0) aC,_,_,Z,yF aT,aV.fh,_,_,Z,Z,Yl,_,_,Z,Z,by rw[Jg];lia,?_⟩
   exact⟨o,dx,r3,aJ,_,[J.getD 0 0,1],af,1,Z,aO,aN,e2,al,(by decide:2<=2),(by decide:2<=3),aW,.put2 (tR.mpr ⟨J,aG,Z⟩),.inr (.inl rfl),λG3 s3=>⟨_,Z,IX (ar _ _ ⟨s3,_,Z⟩)⟩⟩
  ·exact Ii (by rw[decide_eq_false h2]<;>rfl) (IX (ar _ _ ⟨yy _,_,Z⟩))
 rintro an G3 ⟨s3,z5,rfl⟩;exact⟨_,Z,_,Z,_,Z,p,o,dx,r2,r3,aB,aJ,af,Z,az.sm s3,s3 _ _ e2,ac.same s3,al.same s3,aq,a7,λG4 m4 p4=>⟨_,Z,IX ⟨p4,r2,r3,aB,aJ,af,_,_,Z,(ac.same s3).mv (az.sm s3) m4,aq,a7,m4 _ _ ((az.sm s3).ne (s3 _ _ e2) (λ_ _ _ z=>by cases z)) (s3 _ _ e2),(al.same s3).mv (az.sm s3) m4⟩⟩⟩
end
inductive Im(K:pP)(x:Str)(st:vv)(f:ge):Prop
 | mk {oc kV dc pm cd ct:gl}{od an:Option ge}{sl:Array (Option gl)}(a:tE K pc x=some (some (.ref f)))(l:K.lookup f=some ⟨oc,od,.func (qX x x (Jq st) (J9 st) (HD st) .none kV dc pm an cd ct),sl⟩)(c:qY K cd x=true)(k:qy K (.ref f)=true)
theorem Im.b1(q:Im K x st f)(X:K.In h)(G:h.Ns pc mg)(O:Str)(hb:∀(kV Y pm:gl) (z:Option ge) (W ct J:gl),vH (qX x x (Jq st) (J9 st) (HD st) .none kV Y pm z W ct) ⟨[J],[]⟩=pure [(O,J)]:=by intros;rfl):∃fd,Fun K x x st f fd/\Js K fd [O] []/\qy K (.ref f)=true/\mg x=some (.ref f):=by
 obtain⟨a,l,c,k⟩:=q;have F:=Nk (st:=st) l c k;exact⟨_,F,Fun.binds1 O F hb,k,tG X G a⟩
theorem Im.b2(q:Im K x st f)(X:K.In h)(G:h.Ns pc mg)(O p2:Str)(hb:∀(kV Y pm:gl) (an:Option ge) (W ct z J:gl),vH (qX x x (Jq st) (J9 st) (HD st) .none kV Y pm an W ct) ⟨[z,J],[]⟩=pure [(O,z),(p2,J)]:=by intros;rfl):∃fd,Fun K x x st f fd/\Js K fd [O,p2] []/\qy K (.ref f)=true/\mg x=some (.ref f):=by
 obtain⟨a,l,c,k⟩:=q;have F:=Nk (st:=st) l c k;exact⟨_,F,Fun.binds2 O p2 F hb,k,tG X G a⟩
theorem Im.b3(q:Im K x st f)(X:K.In h)(G:h.Ns pc mg)(O p2 J:Str)(hb:∀(kV Y pm:gl) (an:Option ge) (W ct a1 z a3:gl),vH (qX x x (Jq st) (J9 st) (HD st) .none kV Y pm an W ct) ⟨[a1,z,a3],[]⟩=pure [(O,a1),(p2,z),(J,a3)]:=by intros;rfl):∃fd,Fun K x x st f fd/\Js K fd [O,p2,J] []/\qy K (.ref f)=true/\mg x=some (.ref f):=by
 obtain⟨a,l,c,k⟩:=q;have F:=Nk (st:=st) l c k;exact⟨_,F,Fun.binds3 O p2 J F hb,k,tG X G a⟩
theorem Im.b4(q:Im K x st f)(X:K.In h)(G:h.Ns pc mg)(J p2 z O:Str)(hb:∀(kV Y pm:gl) (an:Option ge) (W ct a1 a2 a3 a4:gl),vH (qX x x (Jq st) (J9 st) (HD st) .none kV Y pm an W ct) ⟨[a1,a2,a3,a4],[]⟩=pure [(J,a1),(p2,a2),(z,a3),(O,a4)]:=by intros;rfl):∃fd,Fun K x x st f fd/\Js K fd [J,p2,z,O] []/\qy K (.ref f)=true/\mg x=some (.ref f):=by
 obtain⟨a,l,c,k⟩:=q;have F:=Nk (st:=st) l c k;exact⟨_,F,Fun.binds4 J p2 z O F hb,k,tG X G a⟩
theorem fdm(w:rc)(base:rf)(a:HV P w K mg base CX0 n f fd ps sp)(b:Js K fd ps [])(c:qy K (.ref f)=true)(d:mg x=some (.ref f)):Fd P w K mg base n x ps sp:=⟨_,_,a,b,c,d⟩
theorem iH{l:rK}{w:rc}{K:pP}{h:rf}{mg:Str->Option gl}{fa f1 f2 f3 f4 f5 f6 f7 f8 f9 sb o2 pm oi ws ow lL of pr ma mc xm ky oF rd ns mb xS xr ob rT hu mr sw wG ya sA lS w5 kp xv un lp nK s2 og wY yb xD q0 sH p6 wK hE h5 w0 sf hS lj ri h4 lT hG wm hP mx np h0 lc xc h6 up hH hF hs o4 xx p3 po v0 rk wE h3:ge}(Y:l.prog.given.tree=none)(X:K.In h)(G:h.Ns pc mg)(rl:mg "law" = some (.ref fa))
 { aa ab ac ad ae af:Option ge} { ag ah ai:Array (Option gl)} { aj ak al am an ao ap aq ar au av aw ax ay az aA aB aC:gl}
 {aD:ge} (aE:tE K pc "Desk" = some (some (.ref aD)))
  (q1:Im K "_law_pen" (top 132) f1)
  (q2:Im K "_law_draw" (top 133) f2)
  (q3:Im K "_law_lowest" (top 134) f3)
  (q4:Im K "_law_plus" (top 135) f4)
  (q5:Im K "_law_fresh" (top 147) f5)
  (q6:Im K "_law_little" (top 146) f6)
  (q7:Im K "_law_desk_points" (top 148) f7)
  (q8:Im K "_law_text" (top 142) f8)
  (q9:Im K "_law_points_text" (top 144) f9)
  (oB:Im K "_law_times" (top 137) sb)
  (w3:Im K "_law_product" (top 152) o2)
  (nM:Im K "_law_at" (top 138) pm)
  (wX:Im K "_law_slope_at" (top 139) oi)
  (py:Im K "_law_told" (top 140) ws)
  (lU:Im K "_law_missed" (top 141) ow)
  (oI:Im K "_law_texts" (top 143) lL)
  (kv:Im K "_law_minus" (top 136) of)
  (la:Im K "check_text" (top 100) pr)
  (nE:Im K "are_unlike" (top 49) ma)
  (xL:Im K "told_in" (top 52) mc)
  (lZ:Im K "is_whole" (top 13) xm)
  (wF:Im K "common_measure" (top 14) ky)
  (nY:Im K "is_number" (top 15) oF)
  (wc:Im K "is_point" (top 48) rd)
  (xJ:Im K "points_of" (top 51) ns)
  (rn:Im K "are_figures" (top 97) mb)
  (nZ:Im K "is_top" (top 98) xS)
  (l4:Im K "number_in" (top 99) xr)
  (n0:Im K "numbers_in" (top 101) ob)
  (ss:Im K "read_points_of" (top 102) rT)
   (w1:qk K (.ref aD) "__init__" = some (some (.ref hu))) (nd:qo K (.ref hu)=true) (tn:K.lookup hu=some ⟨aj,aa,.func (qX "__init__" "Desk.__init__" (Jq (JU (top 130) 0)) (J9 (JU (top 130) 0)) (HD (JU (top 130) 0)) .none ak al am ab an ao),ag⟩) (xF:qY K an "Desk.__init__" = true) (nH:qy K (.ref hu)=true)
  (nL:Im K "check_wholes" (top 128) mr)
  (x1:Im K "numbers_of_row" (top 129) sw)
  (lN:Im K "show_number" (top 92) wG)
  (ok:Im K "show_numbers" (top 93) ya)
  (xH:Im K "show_curve" (top 94) sA)
  (w9:Im K "bottom_of" (top 25) lS)
  (nG:Im K "tops_over" (top 26) w5)
  (n1:Im K "curve_of" (top 24) kp)
  (lR:Im K "number_of" (top 16) xv)
  (sm:Im K "curve_over" (top 27) un)
  (u1:Im K "whole_product" (top 30) lp)
  (xj:Im K "by_steps" (top 61) nK)
  (pG:Im K "knots_of" (top 53) s2)
  (xy:Im K "slopes_in" (top 57) og)
  (s3:Im K "first_row" (top 56) wY)
  (n2:Im K "over" (top 20) yb)
  (xG:Im K "minus" (top 18) xD)
  (rr:Im K "next_row" (top 58) q0)
  (ls:Im K "table_of" (top 59) sH)
  (w4:Im K "steps_of" (top 60) p6)
  (wn:Im K "curve_through" (top 62) wK)
  (pq:Im K "curve_row" (top 115) hE)
  (tt:Im K "steps_row" (top 116) h5)
  (t2:Im K "whole_height" (top 28) w0)
  (yc:Im K "height_at" (top 29) sf)
  (wR:Im K "at_row" (top 117) hS)
  (mv:Im K "times" (top 19) lj)
  (o8:Im K "slope_of" (top 32) ri)
  (l8:Im K "slopeat_row" (top 118) h4)
  (wq:Im K "missed" (top 54) lT)
  (s0:Im K "misses_row" (top 119) hG)
  (xu:Im K "put_in" (top 64) wm)
  (nb:Im K "put_row" (top 109) hP)
  (ld:Im K "point_at" (top 65) mx)
  (wD:Im K "taken_out" (top 66) np)
  (xE:Im K "take_row" (top 110) h0)
  (nV:Im K "replaced" (top 67) lc)
  (kB:Im K "with_height" (top 68) xc)
  (s6:Im K "height_row" (top 111) h6)
  (s4:Im K "with_slope" (top 69) up)
  (xh:Im K "slope_row" (top 112) hH)
  (r5:Im K "noslope_row" (top 113) hF)
   (hO:qk K (.ref aD) "say" = some (some (.ref hs))) (hX:qo K (.ref hs)=true) (rv:K.lookup hs=some ⟨ap,ac,.func (qX "say" "Desk.say" (Jq (JU (top 130) 1)) (J9 (JU (top 130) 1)) (HD (JU (top 130) 1)) .none aq ar au ad av aw),ah⟩) (nW:qY K av "Desk.say" = true) (ht:qy K (.ref hs)=true)
  (xB:Im K "_law_other_right" (top 153) o4)
  (yj:Im K "_law_read" (top 145) xx)
  (r0:Im K "_law_told_numbers" (top 149) p3)
  (u3:Im K "_law_by_steps" (top 150) po)
  (wh:Im K "_law_asked" (top 151) v0)
  (nR:Im K "_law_change" (top 154) rk)
  (xN:Im K "_law_is_refused" (top 155) wE)
   (tp:tE K pc "law" = some (some (.ref h3))) (nQ:K.lookup h3=some ⟨ax,ae,.func (qX "law" "law" (Jq (top 156)) (J9 (top 156)) (HD (top 156)) .none ay az aA af aB aC),ai⟩) (wB:qY K aB "law" = true) (kw:qy K (.ref h3)=true)
   (aF:tE K pc "len" = some none)
   (aG:tE K pc "abs" = some none)
   (aH:tE K pc "tuple" = some none)
   (aI:tE K pc "str" = some none)
   (aJ:tE K pc "range" = some none)
   (aK:tE K pc "isinstance" = some none)
   (aL:tE K pc "set" = some none)
   (aM:tE K pc "int" = some none)
   (aN:tE K pc "bool" = some none)
   (aO:tE K pc "all" = some none)
   (aP:tE K pc "list" = some none)
   (aQ:tE K pc "zip" = some none)
   (aR:tE K pc "reversed" = some none)
 {aS:Tok} (aT:tE K pc "MOST_TOLD" = some (some (.int 12 aS)))
 {aU:Tok} (aV:tE K pc "FIGURES" = some (some (.str "0123456789" aU)))
 {aW:Tok} (aX:tE K pc "SIX" = some (some (.int 6 aW)))
 {aY:ge} {aZ:Obj} {a0:Array gl} {a1:Nat} (a2:tE K pc "NOUGHT" = some (some (.ref aY))) (a3:K.lookup aY=some aZ) (a4:aZ.cls = .type "tuple") (a5:aZ.data = .seq a0 a1) (a6:a0.toList.map MM=[some (.int (0:Rat).num),some (.int ((0:Rat).den:Int))])
 {a7:ge} (a8:tE K pc "CurveError" = some (some (.ref a7)))
 {a9:ge} (ba:tE K pc "TooMany" = some (some (.ref a9)))
 {bb:ge} (bc:tE K pc "NoPoints" = some (some (.ref bb)))
 {bd:ge} (be:tE K pc "NoPoint" = some (some (.ref bd)))
 {bf bg bh bi bj bk bl bm bn bo bp bq br bs bt bu} (bv:K.lookup a9=some (PySem.excClassObj bh bi a9 bg bj bf bk bl bm bn bo bp bq br bs bt bu "ValueError.__new__"))
  (bw:tF K a9 [.type "ValueError",.type "Exception",.type "BaseException",.type "object"] "ValueError.__new__" = true)
  (bx:qk K (.ref a9) "__getattribute__" = some (some (.builtin "BaseException.__getattribute__"))) (bz:qk K (.ref a9) "__getattr__" = some none) (bA:qk K (.ref a9) "__class__" = some (some (.builtin "object.__class__")))
  (bB:qB K a9 (.type "object")=some true) (bC:qB K a9 (.type "BaseException")=some true)
  (bD:uJ K (.ref a9) (.ref a7)=some true) (bE:qC K (.ref a9) (.type "ValueError")=some true)
  (bF:qC K (.ref a9) (.ref a9)=some true)
  (bG:qC K (.ref a9) (.ref bb)=some false)
  (bH:qC K (.ref a9) (.ref bd)=some false)
 {bI bJ bK bL bM bN bO bP bQ bR bS bT bU bV bW bX} (bY:K.lookup bb=some (PySem.excClassObj bK bL bb bJ bM bI bN bO bP bQ bR bS bT bU bV bW bX "ValueError.__new__"))
  (bZ:tF K bb [.type "ValueError",.type "Exception",.type "BaseException",.type "object"] "ValueError.__new__" = true)
  (b0:qk K (.ref bb) "__getattribute__" = some (some (.builtin "BaseException.__getattribute__"))) (b1:qk K (.ref bb) "__getattr__" = some none) (b2:qk K (.ref bb) "__class__" = some (some (.builtin "object.__class__")))
  (b3:qB K bb (.type "object")=some true) (b4:qB K bb (.type "BaseException")=some true)
  (b5:uJ K (.ref bb) (.ref a7)=some true) (b6:qC K (.ref bb) (.type "ValueError")=some true)
  (b7:qC K (.ref bb) (.ref a9)=some false)
  (b8:qC K (.ref bb) (.ref bb)=some true)
  (b9:qC K (.ref bb) (.ref bd)=some false)
 {ca cb cc cd ce cf cg ch ci cj ck cl cm cn co cp} (cq:K.lookup bd=some (PySem.excClassObj cc cd bd cb ce ca cf cg ch ci cj ck cl cm cn co cp "ValueError.__new__"))
  (cr:tF K bd [.type "ValueError",.type "Exception",.type "BaseException",.type "object"] "ValueError.__new__" = true)
  (cs:qk K (.ref bd) "__getattribute__" = some (some (.builtin "BaseException.__getattribute__"))) (ct:qk K (.ref bd) "__getattr__" = some none) (cu:qk K (.ref bd) "__class__" = some (some (.builtin "object.__class__")))
  (cv:qB K bd (.type "object")=some true) (cw:qB K bd (.type "BaseException")=some true)
  (cx:uJ K (.ref bd) (.ref a7)=some true) (cy:qC K (.ref bd) (.type "ValueError")=some true)
  (cz:qC K (.ref bd) (.ref a9)=some false)
  (cA:qC K (.ref bd) (.ref bb)=some false)
  (cB:qC K (.ref bd) (.ref bd)=some true)
  (hI:qx K (.builtin "object.__class__") "__get__" = some (some (.builtin "getset_descriptor.__get__"))) (hW:PySem.W.takesIn K (.builtin "object.__class__")=some true)
  (cC:qi K aD Str.empty=true)
  (cD:qj K aD=true)
  (cE:qp K aD=true)
  (cF:qk K (.ref aD) "__setattr__" = some (some (.builtin "object.__setattr__")))
  (cG:qt K aD=true)
  (cH:qy K (.ref aD)=true)
  (cI:qk K (.ref aD) "points" = some none)
 {cJ:ge} (cK:tE K pc "COUNTS" = some (some (.ref cJ)))
 {cL:Tok} {cM:ge}
 {cN:Tok} {cO:ge}
 {cP:Tok} {cQ:ge}
 {cR:Tok} {cS:ge}
 {cT:Tok} {cU:ge}
 {cV:Tok} {cW:ge}
 {cX:Tok} {cY:ge}
 {cZ:Tok} {c0:ge}
 {c1:Tok} {c2:ge}
 {c3:Tok} {c4:ge}
 {c5:Tok} {c6:ge}
 {c7:Tok} {c8:ge}
 {c9:Tok} {da:ge}
 {db:Tok} {dc:ge}
 {dd:Tok} {de:ge}
 {df:Nat} (dg:K.lookup cJ=some ⟨.type "dict",none,.dict (([("put",cL,cM),("take",cN,cO),("height",cP,cQ),("slope",cR,cS),("noslope",cT,cU),("points",cV,cW),("curve",cX,cY),("steps",cZ,c0),("at",c1,c2),("slopeat",c3,c4),("misses",c5,c6),("bounds",c7,c8),("noughts",c9,da),("wrong",db,dc),("quotient",dd,de)]:List (Str×Tok×ge)).map (RN w)).toArray df,#[]⟩) (dh:(cJ == vg)=false)
 {di:Obj} {dj:Array gl} {dk:Nat} (dl:K.lookup cM=some di) (dm:di.cls = .type "tuple") (dn:di.data = .seq dj dk) (dp:dj.toList.map MM=[some (.int 2),some (.int 3)])
 {dq:Obj} {dr:Array gl} {ds:Nat} (dt:K.lookup cO=some dq) (du:dq.cls = .type "tuple") (dv:dq.data = .seq dr ds) (dw:dr.toList.map MM=[some (.int 1),some (.int 1)])
 {dx:Obj} {dy:Array gl} {dz:Nat} (dA:K.lookup cQ=some dx) (dB:dx.cls = .type "tuple") (dC:dx.data = .seq dy dz) (dD:dy.toList.map MM=[some (.int 2),some (.int 2)])
 {dE:Obj} {dF:Array gl} {dG:Nat} (dH:K.lookup cS=some dE) (dI:dE.cls = .type "tuple") (dJ:dE.data = .seq dF dG) (dK:dF.toList.map MM=[some (.int 2),some (.int 2)])
 {dL:Obj} {dM:Array gl} {dN:Nat} (dO:K.lookup cU=some dL) (dP:dL.cls = .type "tuple") (dQ:dL.data = .seq dM dN) (dR:dM.toList.map MM=[some (.int 1),some (.int 1)])
 {dS:Obj} {dT:Array gl} {dU:Nat} (dV:K.lookup cY=some dS) (dW:dS.cls = .type "tuple") (dX:dS.data = .seq dT dU) (dY:dT.toList.map MM=[some (.int 0),some (.int 0)])
 {dZ:Obj} {d0:Array gl} {d1:Nat} (d2:K.lookup c0=some dZ) (d3:dZ.cls = .type "tuple") (d4:dZ.data = .seq d0 d1) (d5:d0.toList.map MM=[some (.int 0),some (.int 0)])
 {d6:Obj} {d7:Array gl} {d8:Nat} (d9:K.lookup c2=some d6) (ea:d6.cls = .type "tuple") (eb:d6.data = .seq d7 d8) (ec:d7.toList.map MM=[some (.int 1),some (.int 1)])
 {ed:Obj} {ee:Array gl} {ef:Nat} (eg:K.lookup c4=some ed) (eh:ed.cls = .type "tuple") (ei:ed.data = .seq ee ef) (ej:ee.toList.map MM=[some (.int 1),some (.int 1)])
 {ek:Obj} {el:Array gl} {em:Nat} (en:K.lookup c6=some ek) (eo:ek.cls = .type "tuple") (ep:ek.data = .seq el em) (eq:el.toList.map MM=[some (.int 1),some (.int 16)])
 {er:ge} (es:tE K pc "LEAST" = some (some (.ref er)))
 {et:Tok} {eu:ge}
 {ev:Tok} {ew:ge}
 {ex:Nat} (ey:K.lookup er=some ⟨.type "dict",none,.dict (([("wrong",et,eu),("quotient",ev,ew)]:List (Str×Tok×ge)).map (RN w)).toArray ex,#[]⟩) (ez:(er == vg)=false)
 {eA:ge} (eB:tE K pc "CHANGES" = some (some (.ref eA)))
 {eC:Tok}
 {eD:Tok}
 {eE:Tok}
 {eF:Tok}
 {eG:Tok}
 {eH:Nat} (eI:K.lookup eA=some ⟨.type "dict",none,.dict (([("put",eC,hP),("take",eD,h0),("height",eE,h6),("slope",eF,hH),("noslope",eG,hF)]:List (Str×Tok×ge)).map (RN w)).toArray eH,#[]⟩) (eJ:(eA == vg)=false)
 {eK:ge} (eL:tE K pc "ANSWERS" = some (some (.ref eK)))
 {eM:Tok} {eN:ge}
 {eO:Tok}
 {eP:Tok}
 {eQ:Tok}
 {eR:Tok}
 {eS:Tok}
 {eT:Tok} {eU:ge}
 {eV:Tok} {eW:ge}
 {eX:Tok} {eY:ge}
 {eZ:Tok} {e0:ge}
 {e1:Nat} (e2:K.lookup eK=some ⟨.type "dict",none,.dict (([("points",eM,eN),("curve",eO,hE),("steps",eP,h5),("at",eQ,hS),("slopeat",eR,h4),("misses",eS,hG),("bounds",eT,eU),("noughts",eV,eW),("wrong",eX,eY),("quotient",eZ,e0)]:List (Str×Tok×ge)).map (RN w)).toArray e1,#[]⟩) (e3:(eK == vg)=false) :
 ∃fd:jp,(∀(s:im) (v:gl),BindsTo s fd ⟨[v],[]⟩ [("_law_script",v)])/\∀base:rf,K.In base->base.Ns pc mg->HV l.prog w K mg base CX0 43 fa fd ["_law_script"] (Tx K):=by
 obtain⟨_,F1,B1,k1,m1⟩:=q1.b2 X G "_law_script" "_law_k";obtain⟨_,F2,B2,k2,m2⟩:=q2.b2 X G "_law_pen_here" "_law_many";obtain⟨_,F3,B3,k3,m3⟩:=q3.b2 X G "_law_top" "_law_bottom";obtain⟨_,F4,B4,k4,m4⟩:=q4.b2 X G "_law_a" "_law_b";obtain⟨_,F5,B5,k5,m5⟩:=q5.b2 X G "_law_pen_here" "_law_places";obtain⟨_,F6,B6,k6,m6⟩:=q6.b1 X G "_law_pen_here";obtain⟨_,F7,B7,k7,m7⟩:=q7.b2 X G "_law_pen_here" "_law_most";obtain⟨_,F8,B8,k8,m8⟩:=q8.b1 X G "_law_number";obtain⟨_,F9,B9,k9,m9⟩:=q9.b1 X G "_law_points";obtain⟨_,tr,xA,x3,kJ⟩:=oB.b2 X G "_law_a" "_law_b";obtain⟨_,sG,mz,mT,nX⟩:=w3.b2 X G "_law_one" "_law_other";obtain⟨_,yf,px,pu,l7⟩:=nM.b2 X G "_law_curve" "_law_x";obtain⟨_,s7,lr,kG,lt⟩:=wX.b2 X G "_law_curve" "_law_x";obtain⟨_,w6,wt,sR,sX⟩:=py.b1 X G "_law_points";obtain⟨_,u2,t4,wU,wb⟩:=lU.b2 X G "_law_points" "_law_curve";obtain⟨_,lk,r6,kO,u4⟩:=oI.b1 X G "_law_numbers";obtain⟨_,vk,wT,wA,oA⟩:=kv.b2 X G "_law_a" "_law_b";obtain⟨_,kP,wf,om,xo⟩:=la.b1 X G "text";obtain⟨_,o7,ln,kt,oD⟩:=nE.b1 X G "places";obtain⟨_,nk,p4,xa,pd⟩:=xL.b1 X G "points";obtain⟨_,me,ol,xp,lx⟩:=lZ.b1 X G "thing";obtain⟨_,u0,pt,lh,l6⟩:=wF.b2 X G "one" "other";obtain⟨_,wo,oL,wN,xK⟩:=nY.b1 X G "thing";obtain⟨_,lB,t3,kI,p9⟩:=wc.b1 X G "thing";obtain⟨_,hY,hQ,hL,h9⟩:=xJ.b1 X G "thing";obtain⟨_,lX,nn,lW,no⟩:=rn.b2 X G "text" "most";obtain⟨_,r3,ry,xM,ko⟩:=nZ.b2 X G "text" "most";obtain⟨_,oa,wa,wP,xX⟩:=l4.b2 X G "text" "most";obtain⟨_,yd,ru,yk,rx⟩:=n0.b2 X G "parts" "most";obtain⟨_,u5,wl,l0,mi⟩:=ss.b2 X G "text" "most";obtain⟨_,wJ,wy,wj,pA⟩:=nL.b2 X G "numbers" "least";obtain⟨_,we,s9,lI,rb⟩:=x1.b1 X G "words";obtain⟨_,wH,xU,n4,t0⟩:=lN.b1 X G "number";obtain⟨_,p5,wM,sr,vu⟩:=ok.b1 X G "numbers";obtain⟨_,xz,wu,nC,lz⟩:=xH.b1 X G "curve";obtain⟨_,mS,oz,xq,od⟩:=w9.b1 X G "numbers";obtain⟨_,x0,md,nF,mw⟩:=nG.b2 X G "numbers" "bottom";obtain⟨_,xb,p0,ot,kT⟩:=n1.b1 X G "numbers";obtain⟨_,xV,xf,o0,xd⟩:=lR.b2 X G "top" "bottom";obtain⟨_,x4,x5,mX,lw⟩:=sm.b2 X G "tops" "bottom";obtain⟨_,o1,xO,yl,p8⟩:=u1.b2 X G "first" "second";obtain⟨_,r8,pk,nU,wV⟩:=xj.b2 X G "knots" "steps";obtain⟨_,yg,lO,w2,sl⟩:=pG.b1 X G "points";obtain⟨_,kR,o9,oq,ox⟩:=xy.b1 X G "points";obtain⟨_,oj,w8,kC,pg⟩:=s3.b1 X G "points";obtain⟨_,ql,lV,sZ,nO⟩:=n2.b2 X G "a" "b";obtain⟨_,wS,ra,ms,xg⟩:=xG.b2 X G "a" "b";obtain⟨_,x8,ov,v6,sz⟩:=rr.b4 X G "ahead" "knots" "slopes" "k";obtain⟨_,l9,ww,mU,ne⟩:=ls.b1 X G "points";obtain⟨_,rs,op,le,lE⟩:=w4.b1 X G "points";obtain⟨_,mV,wv,sN,r7⟩:=wn.b1 X G "points";obtain⟨_,nz,yh,t5,i2⟩:=pq.b2 X G "points" "numbers";obtain⟨_,xl,wQ,x6,ih⟩:=tt.b2 X G "points" "numbers";obtain⟨_,s8,xC,s5,o5⟩:=t2.b2 X G "tops" "x";obtain⟨_,xt,r9,w7,l5⟩:=yc.b2 X G "curve" "x";obtain⟨_,o6,p7,lA,i9⟩:=wR.b2 X G "points" "numbers";obtain⟨_,n7,xP,nl,lg⟩:=mv.b2 X G "a" "b";obtain⟨_,wW,wz,ll,sa⟩:=o8.b1 X G "curve";obtain⟨_,lQ,qn,xW,kf⟩:=l8.b2 X G "points" "numbers";obtain⟨_,ti,wI,o3,xQ⟩:=wq.b2 X G "points" "curve";obtain⟨_,wO,xi,xZ,i7⟩:=s0.b2 X G "points" "numbers";obtain⟨_,iv,kb,is,jl⟩:=xu.b2 X G "points" "point";obtain⟨_,i8,kk,j0,hM⟩:=nb.b2 X G "points" "numbers";obtain⟨_,x7,oo,xY,l2⟩:=ld.b2 X G "points" "x";obtain⟨_,oh,rz,yi,x9⟩:=wD.b2 X G "points" "x";obtain⟨_,mW,ye,l3,i5⟩:=xE.b2 X G "points" "numbers";obtain⟨_,pp,lf,m0,v1⟩:=nV.b3 X G "points" "old" "new";obtain⟨_,os,lP,nN,lD⟩:=kB.b3 X G "points" "x" "y";obtain⟨_,sT,wp,wg,i6⟩:=s6.b2 X G "points" "numbers";obtain⟨_,v2,oc,ou,xR⟩:=s4.b3 X G "points" "x" "slope";obtain⟨_,kX,oy,ui,i1⟩:=xh.b2 X G "points" "numbers";obtain⟨_,nJ,lb,wZ,i0⟩:=r5.b2 X G "points" "numbers";obtain⟨_,xk,pa,mm,um⟩:=xB.b1 X G "_law_pen_here";obtain⟨_,r4,ve,kL,qE⟩:=yj.b1 X G "_law_word";obtain⟨_,mt,xw,ml,x2⟩:=r0.b1 X G "_law_text_here";obtain⟨_,ro,nf,wC,nP⟩:=u3.b3 X G "_law_knots" "_law_some" "_law_x";obtain⟨_,kZ,kM,oT,lC⟩:=wh.b3 X G "_law_pen_here" "_law_desk" "_law_points";obtain⟨_,l1,wx,n3,vr⟩:=nR.b2 X G "_law_pen_here" "_law_points";obtain⟨_,on,wk,s1,p1⟩:=xN.b2 X G "_law_desk" "_law_row";have e:=rl.symm.trans (tG X G tp);cases e;have kq:=vd X G aF;have kN:=vd X G aG;have kr:=vd X G aH;have kx:=vd X G aI;have ku:=vd X G aJ;have kA:=vd X G aK;have hK:=vd X G aL;have kH:=vd X G aM;have lM:=vd X G aN;have kE:=vd X G aO;have kF:=vd X G aP;have kK:=vd X G aQ;have lY:=vd X G aR;have e5:=tG X G aT;have g4:=tG X G aV;have hr:=tG X G aX;have hl:=tG X G a2;have hc:∀H:Hp,HP K H (.ref aY) (0):=λH=>⟨_,Z,X7 a3 a4 a5 a6⟩;have z:Pe K aD:=⟨⟨cC,cD,cE,cF⟩,cI⟩;have g1:∀H:Hp,SqT K H cM [.int 2,.int 3]:=λH=>JC dl dm dn dp;have g3:∀H:Hp,SqT K H cO [.int 1,.int 1]:=λH=>JC dt du dv dw;have g2:∀H:Hp,SqT K H cQ [.int 2,.int 2]:=λH=>JC dA dB dC dD;have gv:∀H:Hp,SqT K H cS [.int 2,.int 2]:=λH=>JC dH dI dJ dK;have gg:∀H:Hp,SqT K H cU [.int 1,.int 1]:=λH=>JC dO dP dQ dR;have gb:∀H:Hp,SqT K H cY [.int 0,.int 0]:=λH=>JC dV dW dX dY;have gd:∀H:Hp,SqT K H c0 [.int 0,.int 0]:=λH=>JC d2 d3 d4 d5;have gB:∀H:Hp,SqT K H c2 [.int 1,.int 1]:=λH=>JC d9 ea eb ec;have gt:∀H:Hp,SqT K H c4 [.int 1,.int 1]:=λH=>JC eg eh ei ej;have f0:∀H:Hp,SqT K H c6 [.int 1,.int 16]:=λH=>JC en eo ep eq;have he:=tG X G cK;have hf:=W7 (P:=l.prog) [("put",cL,cM),("take",cN,cO),("height",cP,cQ),("slope",cR,cS),("noslope",cT,cU),("points",cV,cW),("curve",cX,cY),("steps",cZ,c0),("at",c1,c2),("slopeat",c3,c4),("misses",c5,c6),("bounds",c7,c8),("noughts",c9,da),("wrong",db,dc),("quotient",dd,de)] dg (show(["put","take","height","slope","noslope","points","curve","steps","at","slopeat","misses","bounds","noughts","wrong","quotient"]:yr).Nodup from by decide +kernel) dh
 have hq:=tG X G es;have ho:=W7 (P:=l.prog) [("wrong",et,eu),("quotient",ev,ew)] ey (show(["wrong","quotient"]:yr).Nodup from by decide +kernel) ez
 have fg:=hM;have fe:=i5;have as:=i6;have e6:=i1;have O:=i0;have fo:=tG X G eB;have fh:=W7 (P:=l.prog) [("put",eC,hP),("take",eD,h0),("height",eE,h6),("slope",eF,hH),("noslope",eG,hF)] eI (show(["put","take","height","slope","noslope"]:yr).Nodup from by decide +kernel) eJ
 have fc:=i2;have e8:=ih;have fx:=i9;have J:=kf;have e4:=i7;have fr:=tG X G eL;have fl:=W7 (P:=l.prog) [("points",eM,eN),("curve",eO,hE),("steps",eP,h5),("at",eQ,hS),("slopeat",eR,h4),("misses",eS,hG),("bounds",eT,eU),("noughts",eV,eW),("wrong",eX,eY),("quotient",eZ,e0)] e2 (show(["points","curve","steps","at","slopeat","misses","bounds","noughts","wrong","quotient"]:yr).Nodup from by decide +kernel) e3
 have kl:=Nk (st:=JU (top 130) 0) tn xF nH;have xI:=Fun.binds2 "self" "text" kl λ_ _ _ _ _ _ _ _=>rfl;have hv:=Nk (st:=JU (top 130) 1) rv nW ht;have h7:=Fun.binds2 "self" "row" hv λ_ _ _ _ _ _ _ _=>rfl;have mp:=Nk (st:=top 156) nQ wB kw;refine⟨qX "law" "law" (Jq (top 156)) (J9 (top 156)) (HD (top 156)) .none ay az aA af aB aC,λs v=>.of_eq rfl,λbase _ _=>?_⟩;have fy:=tG X G a8;have hR:=tG X G ba;have hD:=tG X G bc;have h8:=tG X G be;have hb:Vt K "TooMany" a9:=⟨ba,⟨_,_,_,_,_,_,_,_,_,_,_,_,_,_,_,_,bv⟩,bw⟩;have hC:iK K a9 [a9,bb,bd] 0:=⟨⟨bx,bz,bA,hI,hW,bB,bC,⟨_,_,_,_,bv⟩⟩,bE,λi c h=>match i,h with | 0,h=>by cases h;exact bF | 1,h=>by cases h;exact bG | 2,h=>by cases h;exact bH | i+3,h=>nomatch h⟩
 have g0:Vt K "NoPoints" bb:=⟨bc,⟨_,_,_,_,_,_,_,_,_,_,_,_,_,_,_,_,bY⟩,bZ⟩;have hz:iK K bb [a9,bb,bd] 1:=⟨⟨b0,b1,b2,hI,hW,b3,b4,⟨_,_,_,_,bY⟩⟩,b6,λi c h=>match i,h with | 0,h=>by cases h;exact b7 | 1,h=>by cases h;exact b8 | 2,h=>by cases h;exact b9 | i+3,h=>nomatch h⟩
 have hN:Vt K "NoPoint" bd:=⟨be,⟨_,_,_,_,_,_,_,_,_,_,_,_,_,_,_,_,cq⟩,cr⟩;have hA:iK K bd [a9,bb,bd] 2:=⟨⟨cs,ct,cu,hI,hW,cv,cw,⟨_,_,_,_,cq⟩⟩,cy,λi c h=>match i,h with | 0,h=>by cases h;exact cz | 1,h=>by cases h;exact cA | 2,h=>by cases h;exact cB | i+3,h=>nomatch h⟩
 have oC:=fdm w base (Ua F1 kq Y) B1 k1 (m1);have kU:=fdm w base (SU F2 Y) B2 k2 (m2);have kY:=fdm w base (Qt F3 kN Y) B3 k3 (m3);have lq:=fdm w base (SS F4 kY Y) B4 k4 (m4);have mY:=fdm w base (Rg F5 kY lq kU Y) B5 k5 (m5);have mf:=fdm w base (Qu F6 kU kY Y) B6 k6 (m6);have oE:=fdm w base (MZ F7 kU mY mf kr kq Y) B7 k7 (m7);have kW:=fdm w base (SQ F8 kx Y) B8 k8 (m8);have mZ:=fdm w base (MX F9 kW Y) B9 k9 (m9);have lF:=fdm w base (Ra tr kY Y) xA x3 (kJ);have oG:=fdm w base (Pl sG lq lF ku kq Y) mz mT (nX);have lG:=fdm w base (V7 yf lq lF Y) px pu (l7);have mh:=fdm w base (Oy s7 lG lF ku kq Y) lr kG (lt);have mj:=fdm w base (SO w6 kq Y) wt sR (sX);have n5:=fdm w base (Qs u2 mj lG mh Y) t4 wU (wb);have mn:=fdm w base (Rb lk kW Y) r6 kO (u4);have n6:=fdm w base (Rc vk kY Y) wT wA (oA);have oH:=fdm w base (R8 kP kA kx Y) wf om (xo);have mq:=fdm w base (R9 o7 kq hK Y) ln kt (oD);have lu:=fdm w base (V5 nk ku kq Y) p4 xa (pd);have oJ:=fdm w base (U6 me kA kH lM Y) ol xp (lx);have my:=fdm w base (NR u0 kN Y) pt lh (l6);have n8:=fdm w base (SI wo oJ my kA kr kq Y) oL wN (xK);have mB:=fdm w base (U7 lB n8 kE kA kr kq Y) t3 kI (p9);have lH:=fdm w base (NP hY mq lu mB kr kE kq kA kF e5 Y) hQ hL (h9);have ff:HV l.prog w K mg base (CX2 l.prog w) 36 _ _ yO (Od K bb a9):=QZ (base:=base) (w:=w) hY g0 hb mq lu mB kr kE kq kA kF e5 Y;have hy:FdY l.prog w K mg base 36 "points_of" yO (Od K bb a9):=⟨_,_,ff,hQ,hL,h9⟩;have ga:FdY l.prog w K mg base 36 "points_of" yO (λvs H Q E=>(Lk K:Sp) vs H Q E\/(Od K bb a9:Sp) vs H Q E):=⟨_,_,(NP hY mq lu mB kr kE kq kA kF e5 Y).calm.or ff,hQ,hL,h9⟩;have n9:=fdm w base (Qr lX kE kq g4 Y) nn lW (no);have hj:=fdm w base (WM r3 n9 Y) ry xM (ko);have nc:=fdm w base (SH oa n8 hj n9 kq kH Y) wa wP (xX);have oK:=fdm w base (R4 yd nc Y) ru yk (rx);have oM:=fdm w base (NO u5 oH lH oK kr kq Y) wl l0 (mi);have ng:FdI CX0 l.prog w K mg base 38 aD "Desk" y7 (NF K aD):=⟨_,_,SV kl z oM hr Y,xI,⟨cG,w1,nd,cH⟩,tG X G aE⟩;have oN:=fdm w base (Pk wJ kK Y) wy wj (pA);have mC:=fdm w base (NQ we oN nc kq hr Y g1 g3 g2 gv gg gb gd gB gt f0 he hf hq ho) s9 lI (rb);have lJ:=fdm w base (Qp wH kx Y) xU n4 (t0);have nh:=fdm w base (Pj p5 lJ Y) wM sr (vu);have oO:=fdm w base (R3 xz nh kq Y) wu nC (lz);have ni:=fdm w base (SN mS my Y) oz xq (od);have nj:=fdm w base (Sz x0 Y) md nF (mw);have nq:=fdm w base (U8 xb kq kr hl hc Y) p0 ot (kT);have ly:=fdm w base (SG xV my Y) xf o0 (xd);have oP:=fdm w base (R7 x4 nq ly Y) x5 mX (lw);have oQ:=fdm w base (Ow o1 ku kq Y) xO yl (p8);have oR:=fdm w base (U9 r8 ni nj oP oQ ku kq Y) pk nU (wV);have nr:=fdm w base (U5 yg lu Y) lO w2 (sl);have oS:=fdm w base (SE kR kq Y) o9 oq (ox);have oU:=fdm w base (SK oj kq Y) w8 kC (pg);have hx:=fdm w base (ZK ql ly Y) lV sZ (nO);have hn:=fdm w base (Ye wS ly Y) ra ms (xg);have oV:=fdm w base (U4 x8 hx hn ku kq Y) ov v6 (sz);have oW:=fdm w base (TZ l9 nr oS oU oV ku kq Y) ww mU (ne);have nu:=fdm w base (U0 rs oW Y) op le (lE);have mE:=fdm w base (Ox mV oR nr nu Y) wv sN (r7);have mF:=fdm w base (SM nz oO mE Y) yh t5 (i2);have mG:=fdm w base (SD xl nh nu Y) wQ x6 (ih);have oX:=fdm w base (Ph s8 lY Y) xC s5 (o5);have mH:=fdm w base (SJ xt ni oX ly nj Y) r9 w7 (l5);have mI:=fdm w base (WN o6 lJ mH mE Y) p7 lA (i9);have hp:=fdm w base (Yc n7 ly Y) xP nl (lg);have nv:=fdm w base (U1 wW hp kr ku kq Y) wz ll (sa);have mJ:=fdm w base (Qo lQ lJ mH nv mE Y) qn xW (kf);have hg:=fdm w base (WL ti nv lu mH Y) wI o3 (xQ);have mK:=fdm w base (R5 wO hg nq lJ kq kx Y) xi xZ (i7);have ny:=fdm w base (WK iv lH kF Y) kb is (jl);have ha:HV l.prog w K mg base (CX2 l.prog w) 37 _ _ yY (Q3 K (JW a9 bb bd)):=V4 (base:=base) (w:=w) iv ga lH kF Y;have hm:FdY l.prog w K mg base 37 "put_in" yY (Q3 K (JW a9 bb bd)):=⟨_,_,ha,kb,is,jl⟩;have mL:=fdm w base (V6 i8 ny kr Y) kk j0 (hM);have go:HV l.prog w K mg base (CX2 l.prog w) 38 _ _ yM (Oc K (JW a9 bb bd) 0):=TX (base:=base) (w:=w) i8 hm ny kr Y;have g5:FdY l.prog w K mg base 38 "put_row" yM (Oc K (JW a9 bb bd) 0):=⟨_,_,go,kk,j0,hM⟩;have mM:=fdm w base (U3 x7 Y) oo xY (l2);have oY:=fdm w base (SA oh mM kr kq Y) rz yi (x9);have mO:=fdm w base (TY mW oY Y) ye l3 (i5);have nA:=fdm w base (U2 pp lH Y) lf m0 (v1);have oZ:=fdm w base (Qn os mM nA Y) lP nN (lD);have mP:=fdm w base (R6 sT oZ Y) wp wg (i6);have nB:=fdm w base (R1 v2 mM nA Y) oc ou (xR);have mQ:=fdm w base (SF kX nB Y) oy ui (i1);have mR:=fdm w base (Qq nJ nB Y) lb wZ (i0);have lK:FdM CX0 l.prog w K mg base 41 aD "say" yV (LM K aD):=⟨_,_,P6 hv z mC mF mG mI mJ mK mL mO mP mQ mR kA kx Y fg fe as e6 O fo fh fc e8 fx J e4 fr fl,h7,⟨hO,hX,ht⟩⟩;have fv:HV l.prog w K mg base (CX2 l.prog w) 41 _ _ yV (MQ K (JW a9 bb bd) aD):=Sy (base:=base) (w:=w) hv g5 z mC mF mG mI mJ mK mL mO mP mQ mR kA kx Y fg fe as e6 O fo fh fc e8 fx J e4 fr fl;have hB:FdM (CX2 l.prog w) l.prog w K mg base 41 aD "say" yV (MQ K (JW a9 bb bd) aD):=⟨_,_,fv,h7,⟨hO,hX,ht⟩⟩;have gk:FdM (CX2 l.prog w) l.prog w K mg base 41 aD "say" yV (λvs H Q E=>(LM K aD:Sp) vs H Q E\/(MQ K (JW a9 bb bd) aD:Sp) vs H Q E):=⟨_,_,(P6 hv z mC mF mG mI mJ mK mL mO mP mQ mR kA kx Y fg fe as e6 O fo fh fc e8 fx J e4 fr fl).calm.or fv,h7,⟨hO,hX,ht⟩⟩;have pb:=fdm w base (MY xk z kU lq mZ oG lG mh n5 mn n6 kW ng lK ku kq kK kx Y) pa mm (um);have pe:=fdm w base (SR r4 kY kW kH kq Y) ve kL (qE);have pf:=fdm w base (MF mt pe kA kx Y) xw ml (x2);have ph:=fdm w base (Oz ro lq lF n6 kK Y) nf wC (nP);have pj:=fdm w base (Rh kZ z mj pf mf kW kU n5 ph lG mh mn lK ku kq kx Y) kM oT (lC);have pz:=fdm w base (Qv l1 kU mf mj mY mn kW kq Y) wx n3 (vr);have pB:=fdm w base (Ni on z fy bD b5 cx gk lK Y) wk s1 (p1);exact hJ mp z oC oE pb kU mZ pj pz pB kW ng lK ku kr Y
theorem jK{l:rK}{q:mo}{Y:yr}{XP:(Str->Option gl)->rf->Prop}{J:rc->rf->Prop}{d:DefRec}{K:Params->pP}(hI:PyProof.Rows.importsNone q=true)(hn:l.most=some 63)(O:d.params.defaults=[])
 (hY:∀(w:rc) (h:rf),J w h->(K w.params).In h)
 (F:∀(w:rc) (mg:Str->Option gl) (fa:ge) (h:rf),(K w.params).In h->h.Ns pc mg->mg d.name=some (.ref fa) ->
  ∃fd:jp,(∀(s:im) (u:gl),BindsTo s fd ⟨[u],[]⟩ [("_law_script",u)])/\∀base:rf,(K w.params).In base->base.Ns pc mg->HV l.prog w (K w.params) mg base CX0 43 fa fd ["_law_script"] ((fun(K:pP)=>(Tx K:Sp)) (K w.params))) :
 PySem.W.WalkO q Y XP J l.row.toRowW d [] (λf vs=>PySem.call f vs) :=
 L2.Zi (n:=63) (k:=43) (x:="_law_script") (CX:=λ_=>CX0) (sp:=λw=>(fun(K:pP)=>(Tx K:Sp)) (K w.params)) hI hn Yd O ⟨Z,Yd,Yd⟩ hY F (λ_ _ a ns hl _ hS=>⟨a,ns,Z,hS,hl,λ_=>rfl⟩) λ_ _ _ _ _ z=>z
end Pf
open PySem PySem.W PyProof.Rows
set_option maxRecDepth 100000 in
set_option maxHeartbeats 0 in
theorem PySem.Challenge.cw_onecurve_k65_asked_of_the_curve_at_a_des_holds : PySem.Challenge.rw_onecurve_k65_asked_of_the_curve_at_a_des.Holds := by
 refine zzH ?_
 k_fill
 refine Pf.jK (l:=PySem.Challenge.rw_onecurve_k65_asked_of_the_curve_at_a_des) Yk rfl rfl (fun w h Y=>PySem.W.km_in_of Y) ?F
 case F =>
  intro w mg fa h KX G hmg
  refine' Pf.iH rfl KX G hmg ?Aa (.mk ?Ab ?Ac ?Ad ?Ae) (.mk ?Af ?Ag ?Ah ?Ai) (.mk ?Aj ?Ak ?Al ?Am) (.mk ?An ?Ao ?Ap ?Aq) (.mk ?Ar ?As ?At ?Au) (.mk ?Av ?Aw ?Ax ?Ay) (.mk ?Az ?AA ?AB ?AC) (.mk ?AD ?AE ?AF ?AG) (.mk ?AH ?AI ?AJ ?AK) (.mk ?AL ?AM ?AN ?AO) (.mk ?AP ?AQ ?AR ?AS) (.mk ?AT ?AU ?AV ?AW) (.mk ?AX ?AY ?AZ ?A0) (.mk ?A1 ?A2 ?A3 ?A4) (.mk ?A5 ?A6 ?A7 ?A8) (.mk ?A9 ?Ba ?Bb ?Bc) (.mk ?Bd ?Be ?Bf ?Bg) (.mk ?Bh ?Bi ?Bj ?Bk) (.mk ?Bl ?Bm ?Bn ?Bo) (.mk ?Bp ?Bq ?Br ?Bs) (.mk ?Bt ?Bu ?Bv ?Bw) (.mk ?Bx ?By ?Bz ?BA) (.mk ?BB ?BC ?BD ?BE) (.mk ?BF ?BG ?BH ?BI) (.mk ?BJ ?BK ?BL ?BM) (.mk ?BN ?BO ?BP ?BQ) (.mk ?BR ?BS ?BT ?BU) (.mk ?BV ?BW ?BX ?BY) (.mk ?BZ ?B0 ?B1 ?B2) (.mk ?B3 ?B4 ?B5 ?B6) ?B7 ?B8 ?B9 ?Ca ?Cb (.mk ?Cc ?Cd ?Ce ?Cf) (.mk ?Cg ?Ch ?Ci ?Cj) (.mk ?Ck ?Cl ?Cm ?Cn) (.mk ?Co ?Cp ?Cq ?Cr) (.mk ?Cs ?Ct ?Cu ?Cv) (.mk ?Cw ?Cx ?Cy ?Cz) (.mk ?CA ?CB ?CC ?CD) (.mk ?CE ?CF ?CG ?CH) (.mk ?CI ?CJ ?CK ?CL) (.mk ?CM ?CN ?CO ?CP) (.mk ?CQ ?CR ?CS ?CT) (.mk ?CU ?CV ?CW ?CX) (.mk ?CY ?CZ ?C0 ?C1) (.mk ?C2 ?C3 ?C4 ?C5) (.mk ?C6 ?C7 ?C8 ?C9) (.mk ?Da ?Db ?Dc ?Dd) (.mk ?De ?Df ?Dg ?Dh) (.mk ?Di ?Dj ?Dk ?Dl) (.mk ?Dm ?Dn ?Do ?Dp) (.mk ?Dq ?Dr ?Ds ?Dt) (.mk ?Du ?Dv ?Dw ?Dx) (.mk ?Dy ?Dz ?DA ?DB) (.mk ?DC ?DD ?DE ?DF) (.mk ?DG ?DH ?DI ?DJ) (.mk ?DK ?DL ?DM ?DN) (.mk ?DO ?DP ?DQ ?DR) (.mk ?DS ?DT ?DU ?DV) (.mk ?DW ?DX ?DY ?DZ) (.mk ?D0 ?D1 ?D2 ?D3) (.mk ?D4 ?D5 ?D6 ?D7) (.mk ?D8 ?D9 ?Ea ?Eb) (.mk ?Ec ?Ed ?Ee ?Ef) (.mk ?Eg ?Eh ?Ei ?Ej) (.mk ?Ek ?El ?Em ?En) (.mk ?Eo ?Ep ?Eq ?Er) (.mk ?Es ?Et ?Eu ?Ev) (.mk ?Ew ?Ex ?Ey ?Ez) (.mk ?EA ?EB ?EC ?ED) (.mk ?EE ?EF ?EG ?EH) (.mk ?EI ?EJ ?EK ?EL) (.mk ?EM ?EN ?EO ?EP) (.mk ?EQ ?ER ?ES ?ET) ?EU ?EV ?EW ?EX ?EY (.mk ?EZ ?E0 ?E1 ?E2) (.mk ?E3 ?E4 ?E5 ?E6) (.mk ?E7 ?E8 ?E9 ?Fa) (.mk ?Fb ?Fc ?Fd ?Fe) (.mk ?Ff ?Fg ?Fh ?Fi) (.mk ?Fj ?Fk ?Fl ?Fm) (.mk ?Fn ?Fo ?Fp ?Fq) ?Fr ?Fs ?Ft ?Fu ?Fv ?Fw ?Fx ?Fy ?Fz ?FA ?FB ?FC ?FD ?FE ?FF ?FG ?FH ?FI ?FJ ?FK ?FL ?FM ?FN ?FO ?FP ?FQ ?FR ?FS ?FT ?FU ?FV ?FW ?FX ?FY ?FZ ?F0 ?F1 ?F2 ?F3 ?F4 ?F5 ?F6 ?F7 ?F8 ?F9 ?Ga ?Gb ?Gc ?Gd ?Ge ?Gf ?Gg ?Gh ?Gi ?Gj ?Gk ?Gl ?Gm ?Gn ?Go ?Gp ?Gq ?Gr ?Gs ?Gt ?Gu ?Gv ?Gw ?Gx ?Gy ?Gz ?GA ?GB ?GC ?GD ?GE ?GF ?GG ?GH ?GI ?GJ ?GK ?GL ?GM ?GN ?GO ?GP ?GQ ?GR ?GS ?GT ?GU ?GV ?GW ?GX ?GY ?GZ ?G0 ?G1 ?G2 ?G3 ?G4 ?G5 ?G6 ?G7 ?G8 ?G9 ?Ha ?Hb ?Hc ?Hd ?He ?Hf ?Hg ?Hh ?Hi ?Hj ?Hk ?Hl ?Hm ?Hn ?Ho ?Hp ?Hq ?Hr ?Hs
  case Aa|Ab|Ac|Ad|Ae|Af|Ag|Ah|Ai|Aj|Ak|Al|Am|An|Ao|Ap|Aq|Ar|As|At|Au|Av|Aw|Ax|Ay|Az|AA|AB|AC|AD|AE|AF|AG|AH|AI|AJ|AK|AL|AM|AN|AO|AP|AQ|AR|AS|AT|AU|AV|AW|AX|AY|AZ|A0|A1|A2|A3|A4|A5|A6|A7|A8|A9|Ba|Bb|Bc|Bd|Be|Bf|Bg|Bh|Bi|Bj|Bk|Bl|Bm|Bn|Bo|Bp|Bq|Br|Bs|Bt|Bu|Bv|Bw|Bx|By|Bz|BA|BB|BC|BD|BE|BF|BG|BH|BI|BJ|BK|BL|BM|BN|BO|BP|BQ|BR|BS|BT|BU|BV|BW|BX|BY|BZ|B0|B1|B2|B3|B4|B5|B6|B7|B8|B9|Ca|Cb|Cc|Cd|Ce|Cf|Cg|Ch|Ci|Cj|Ck|Cl|Cm|Cn|Co|Cp|Cq|Cr|Cs|Ct|Cu|Cv|Cw|Cx|Cy|Cz|CA|CB|CC|CD|CE|CF|CG|CH|CI|CJ|CK|CL|CM|CN|CO|CP|CQ|CR|CS|CT|CU|CV|CW|CX|CY|CZ|C0|C1|C2|C3|C4|C5|C6|C7|C8|C9|Da|Db|Dc|Dd|De|Df|Dg|Dh|Di|Dj|Dk|Dl|Dm|Dn|Do|Dp|Dq|Dr|Ds|Dt|Du|Dv|Dw|Dx|Dy|Dz|DA|DB|DC|DD|DE|DF|DG|DH|DI|DJ|DK|DL|DM|DN|DO|DP|DQ|DR|DS|DT|DU|DV|DW|DX|DY|DZ|D0|D1|D2|D3|D4|D5|D6|D7|D8|D9|Ea|Eb|Ec|Ed|Ee|Ef|Eg|Eh|Ei|Ej|Ek|El|Em|En|Eo|Ep|Eq|Er|Es|Et|Eu|Ev|Ew|Ex|Ey|Ez|EA|EB|EC|ED|EE|EF|EG|EH|EI|EJ|EK|EL|EM|EN|EO|EP|EQ|ER|ES|ET|EU|EV|EW|EX|EY|EZ|E0|E1|E2|E3|E4|E5|E6|E7|E8|E9|Fa|Fb|Fc|Fd|Fe|Ff|Fg|Fh|Fi|Fj|Fk|Fl|Fm|Fn|Fo|Fp|Fq|Fr|Fs|Ft|Fu|Fv|Fw|Fx|Fy|Fz|FA|FB|FC|FD|FE|FF|FG|FH|FI|FJ|FK|FL|FM=> k_is
  case FN|FO|FP=> rfl
  case FQ|FR|FS|FT|FU=> k_is
  case FV=> k_exc
  case FW|FX|FY|FZ|F0=> k_is
  case F1=> kts_exm
  case F2|F3|F4|F5=> kit_is
  case F6=> k_is
  case F7=> k_exc
  case F8|F9|Ga|Gb|Gc=> k_is
  case Gd=> kts_exm
  case Ge|Gf|Gg|Gh=> kit_is
  case Gi=> k_is
  case Gj=> k_exc
  case Gk|Gl|Gm|Gn|Go=> k_is
  case Gp=> kts_exm
  case Gq|Gr|Gs|Gt=> kit_is
  case Gu|Gv=> k_is
  case Gw|Gx|Gy|Gz|GA|GB|GC|GD|GE=> first | k_is | rfl
  case GF=> rfl
  case GG=> first | k_is | rfl
  case GH|GI|GJ=> rfl
  case GK=> first | k_is | rfl
  case GL|GM|GN=> rfl
  case GO=> first | k_is | rfl
  case GP|GQ|GR=> rfl
  case GS=> first | k_is | rfl
  case GT|GU|GV=> rfl
  case GW=> first | k_is | rfl
  case GX|GY|GZ=> rfl
  case G0=> first | k_is | rfl
  case G1|G2|G3=> rfl
  case G4=> first | k_is | rfl
  case G5|G6|G7=> rfl
  case G8=> first | k_is | rfl
  case G9|Ha|Hb=> rfl
  case Hc=> first | k_is | rfl
  case Hd|He|Hf=> rfl
  case Hg=> first | k_is | rfl
  case Hh|Hi|Hj=> rfl
  case Hk|Hl=> first | k_is | rfl
  case Hm=> rfl
  case Hn|Ho=> first | k_is | rfl
  case Hp=> rfl
  case Hq|Hr=> first | k_is | rfl
  case Hs=> rfl
#print axioms PySem.Challenge.cw_onecurve_k65_asked_of_the_curve_at_a_des_holds
