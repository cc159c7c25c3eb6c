import PyProof.Rows.All
import Wide.All
import OpenK.AllK
import Wide.FinOn
import Lean
import PyProof.EqAt
import PyProof.EqKinds
import PyProof.TupleCall
import KE.KLam
import KE.KNestM
import KE.KSortKey
import KE.KLam
import KE.KNestM
import PySem.Challenge.RW_onecurve_k69_whole_wrong_heights_at_a_de
open PySem renaming wpAny_bind → ac, Addr → ad, Value → am, Shared → aI, wpAny_pure → aQ, sizeLine → bi, FuncData → bn, wpAny → bv, Program → ce, mainGlobals → ci, model → cr, starEach → cQ, World → db, Around → dl, sizeLine_eq → dv, Heap → dw, bootBuiltins → dy, wpAny_holding → dz, wpAny_field → dB, wpAny_callSpecial?_slot → dD, eval → dE, wpAny_mono → dF, SetTable → dH, IsPair → dI, Scope → dJ, wpAny_seqItems → dM, compareOp → dN, wpAny_newObj_type → dO, wpAny_call_entry → dP, wpAny_setField_rec → dQ, wpAny_truthy_bool → dR, builtinLookup_eq_fast → dS, backTo → dU, rawInt → dW, wpAny_passesOwn → dX, binaryOp → dY, wpAny_setState_of → dZ, sysModules → ee, codeAny → eC, wpAny_Call_Name_kw → eF, wpAny_nextOf_list_item → eG, attributeBase → eI, wpAny_pyIter_list → eJ, codeAny_mono → eO, wpAny_pyIter_zip → eQ, Stmt → eU, wpAny_standAt → eV, bindArgs → eX, typeLookup_type → eY, assignEach → eZ, call_meets → fb, keywordEach → fc, pyNext → ff, foldedSetIterable → fh, ZipApart → fi, wpAny_rule → fj, typeLookup → fm, behindInMarks → fq, wpAny_attempt → ft, wpAny_updateSeq_pair → fu, wpAny_execs_nil → fw, letOwnedTupleGo → fz, wpAny_specialOf → fA, codeAny_builtin → fB, wpAny_updateSeq → fC, IsZip → fD, getItem → fE, wpAny_typeOf → fF, Arguments → fG, builtinsNs → fH, typeIs_str → fJ, carriedByValue → fK, Keyword → fL, ofAClassStatement → fN, wpAny_letGo → fO, sliceBounds → fP, wpAny_onRaise → fR, backToKw → fS, NameKind → fT, codeAmong → fU
open PyProof.Rows renaming seqObj → dG, AllBare → fo, assignInOrder_cons → fI, IntsAre → fM, listUpdate_at → fQ
open Option renaming some → Yo,getD_some → aE,map_eq_some_iff → dh
open PySem.W renaming instObj → Yp,methodObj → Yq,Frag → Yx,lookIn → YO,plainGet → YR,hasDictIn → YS,findIn → YT,plainGet_of → YU,isFn → YV,plainOver → YW,takerIn → YX,makesIn → YZ,emptyDict → Z0,keepIn → Z3,kitOne → Z7,kia_one → Z8,kitx_list → Z9,callWith_K → Zb,fnOf → Zq,codeIn → Zr,nsIn → aR,envX → bR,kla_fn → bT,codeHdIn → bU,tabObj → bV,codeHd_of_K → bW,kla_obj → bX,OpenLaw → bY,mg_of → dr,mg_none_of → du
open Nat renaming lt_of_lt_of_le → Yr,lt_irrefl → Ys,ne_of_lt → Yt,le_trans → Yy,le_of_lt → Yz,ne_of_gt → YK,le_refl → YL,zero_le → YN,le_of_eq → Z5,lt_succ_self → Z6,le_succ → Zc,min_le_right → Zu,min_eq_left → Zv,min_eq_right → Zw,sub_le → Zy,mul_comm → ZH,lt_of_le_of_lt → ZI,lt_trans → ZK,add_zero → ZY,lt_succ_of_lt → az,pow_le_pow_right → aD,add_mul → aM,one_mul → aN,mul_le_mul_right → aO,succ_pos → aS,sub_zero → aZ,sub_self → bo,le_add_right → bz,zero_add → bE,add_le_add_right → bQ,lt_or_ge → cg,add_sub_cancel → cj,lt_trichotomy → cw,mul_le_mul_left → cA,mul_add → cB,mul_le_mul → cI,mul_one → da
open List renaming range → Yu,mem_filter → Yv,mem_range → Yw,filterMap_cons → YA,mem_cons_self → YB,mem_cons_of_mem → YC,mem_cons → YD,mem_append → YE,mem_append_left → YF,getElem?_eq_some_iff → YG,getElem?_set_self → YH,getElem?_set_ne → YI,mem_append_right → YM,any_eq_false → YQ,length_cons → YY,lookup → Z1,map_cons → Z2,length_map → Z4,append_nil → Za,nodup_cons → Zd,of_mem_zip → Ze,replicate → Zf,length → Zg,length_take → Zh,getElem?_append_right → Zi,getElem?_replicate → Zj,getElem?_append_left → Zk,getElem?_map → Zl,take_sublist → Zm,mem_of_getElem? → Zn,length_append → Zo,length_replicate → Zp,size_toArray → Zs,length_drop → Zx,length_set → Zz,any_cons → ZA,replicate_succ → ZC,flatten_cons → ZD,append_assoc → ZE,length_singleton → ZF,find?_cons → ZJ,length_pos_iff → ae,getElem?_cons_succ → af,map_set → ag,map_replicate → ah,take_add_one → ai,map_append → aj,eq_nil_of_length_eq_zero → ao,forIn_cons → ar,lookup_cons → au,all_eq_true → av,getD_eq_getElem?_getD → aw,ext_getElem? → ax,getElem?_drop → ay,mem_singleton → aA,getElem?_eq_getElem → aB,getElem_of_mem → aG,getElem_mem → aH,cons → aK,mem_replicate → aL,drop_eq_getElem_cons → aT,getElem?_eq_none → aU,length_nil → aV,range_succ → aW,mem_map → aX,drop_zero → aY,take_of_length_le → bj,take_zero → br,drop_eq_nil_of_le → bu,length_range → bF,getElem?_range → bJ,getElem?_of_mem → bL,length_eq_zero_iff → bP,mem_map_of_mem → bS,getElem?_take → cf,length_zip → ck,pairwise_map → cm,forIn_nil → cq,getElem?_zip_eq_some → cx,map_map → cy,map_congr_left → cE,mem_of_mem_take → cG,mem_flatten → cJ,eq_of_mem_replicate → cP,filter_cons_of_pos → cT,filter_cons_of_neg → cU,take_length → cV,filter_append → cW,filter_cons → cX,mem_or_eq_of_mem_set → d5,replicate_succ' → df,map_take → di,mem_of_mem_drop → dj,map_fst_zip → dq
open Array renaming length_toList → YJ,getElem?_eq_none → bw,forIn_toList → bG,getElem?_eq_getElem → bH,getD_eq_getD_getElem? → bI,getElem?_setIfInBounds_ne → bK,replicate → bM,size_push → bO,all_eq_true' → cz
open Int renaming toNat_natCast → Zt,gcd → ZL,mul_fdiv_cancel_left → ZM,gcd_dvd_left → ZO,one_mul → ZP,gcd_dvd_right → ZQ,mul_ne_zero → ZU,natAbs_mul → aJ,emod_nonneg → bA,emod_lt_of_pos → bC,mul_zero → cF,fdiv_eq_ediv_of_nonneg → cR,natCast_nonneg → de
open Rat renaming divInt → ZN,num_divInt_den → ZR,divInt_eq_div → ZS,div_mul_cancel → ZT,intCast_add → ZV,intCast_mul → ZW,intCast_sub → ZX,pow_zero → ZZ,pow_succ → aa,mul_eq_zero → aq,mul_zero → bZ,zero_mul → cb,le_trans → cH,intCast_inj → cK,intCast_zero → cL,num_intCast → cM,den_intCast → cO,num_natCast → cY,den_natCast → cZ
set_option Elab.async false
set_option linter.all false
set_option maxRecDepth 100000
theorem Z.{u}{Y:Sort u}{a:Y}:a=a:=rfl
inductive PySem.W.Fast:Prop
 | tw6266037190512797417 | tw17545780112725367878 | tw3647506103418065830 | tw8652606531853447430 | tw12600986460215746521 | tw16156531822901150848 | tw17995831548903249077 | tw4349086225591987104
 | tw16476309637179774507 | tw16963355737192293252 | tw11655144801786123827 | tw14133214668321589594 | tw15907899601189671491 | tw13791088588405483266 | tw11007294475530563535 | tw5802136952342732369
 | tw17327258937719769749 | tw4350815776203002379 | tw2971110750642716655 | tw8445394877626628703 | tw3087598524068303787 | tw6907198427832384120 | tw16663665872693583879 | tw45587561405241109
 | tw6700848251746395416 | tw16187243010738414880 | tw11932656125198246662 | tw9786901057210549964 | tw10875894179560836994 | tw58727109729296271 | tw7029062910374691035 | tw17035058623459334709
 | tw15278149986580057852 | tw4962163642110340596 | tw10086163200740409125 | tw9760925466902936584 | tw343466167905086371 | tw7655348549001961377 | tw458424175314854565 | tw10872739280795056216
 | tw13805201485325413149 | tw6764302976007871798 | tw17870516956767888997 | tw8960253024066001690 | tw7909468246413039282 | tw17047305155303337922 | tw4305700656662797487 | tw18259054480742618924
 | tw12444765193489341390 | tw17298743294678249128 | tw7998882145499527291 | tw4122762355578813193 | tw15049915579882222966 | tw8813971360865096443 | tw1260109841076350968 | tw15231123294709006171
 | tw18077252451504420907 | tw4413022062167165213 | tw1794366587606141612 | tw34973819011298372 | tw8444485474815169660 | tw68583207552925679 | tw14083174811912550360 | tw13693151698970425645
 | tw10832372714902493594 | tw475504637203379571 | tw11557597321514647845 | tw10526450278244441347 | tw14867786009866499097 | tw7402331550376179462 | tw1131947718004389158 | tw1187621738648859521
 | tw3854841386772124976 | tw12751941453178770398 | tw13768022111668724869 | tw7679866490473911567 | tw12694839693287152077 | tw682118853340491869 | tw15514582627573258888 | tw15125249793092713167
 | tw17523141691240183947 | tw621280365857966615 | tw4021553388958230548 | tw361988391260621986 | tw13044712297643904012 | tw8240843510282647560 | tw1184046474409959372 | tw13785016668194262028
 | tw17459055506807565144 | tw4850474363754552651 | tw9011261684028344089 | tw12604268014939324214 | tw15047622715211203024 | tw1209302167439636750 | tw16614997268779884555 | tw11583934255650758092
 | tw9769508752530027236 | tw3456759982494602791 | tw11715771771521356290 | tw14910196054460333845 | tw3181263768780339815 | tw16561358892256376566 | tw17574924007504898019 | tw8051175819202115056
 | tw15852167397033561657 | tw2344555252993093685 | tw2696803057755942406 | tw12671635077959887559 | tw993318610756450481 | tw2502255005325697731 | tw12551272122512833202 | tw4389886886427072020
 | tw1738568732085095695 | tw7489129790601784839 | tw2606605179533921204 | tw16010082561611172176 | tw3560395354772753168 | tw10010073308102505051 | tw6669637016587956254 | tw12291773697627041310
 | tw342189210339239630 | tw5768017029299390605 | tw14080317841664900947 | tw15167467963170242115 | tw10561614532807449646 | tw9487412729115586208 | tw8948394456235634372 | tw9077499961655234275
 | tw11936862169826932937 | tw15951822209966280781 | tw4896991943567978086 | tw14351239917468089635 | tw7214506149311207702 | tw17981127900538233253 | tw12883226717174072929 | tw1717908055543718119
 | tw2464449550956264604 | tw7052487374083455452 | tw13766890929068508089 | tw10417207482658295045 | tw1493195895237328973 | tw12711737379761468000 | tw6566435876232116532 | tw1573883241084570941
 | tw3646038578455805271 | tw1991891412052056084 | tw3033000801795871308 | tw9630099052097046143 | tw16825922959432277694 | tw5966370430561559827 | tw15299441751376522514 | tw17057453454084299626
 | tw3296228719597986181 | tw14676607702438317844 | tw1716020845021695711 | tw5615041290372728251 | tw14141145716924045246 | tw3668235348581650703 | tw13745468481787434895 | tw8726136223719687720
 | tw5577183979937703330 | tw6296442822449079070 | tw12712464894885122247 | tw5644102173096833478 | tw5598960901190125371 | tw9873085400873918191 | tw14203232895248225991 | tw11021576845535984082
 | tw5786802440916883519 | tw18046769329787935796 | tw6685873950768423580 | tw15912748628071754266 | tw3779278523833752615 | tw8289436998967072545 | tw10812323210790656532 | tw4252253213113263801
 | tw2374508889342742352 | tw11563222243963900501 | tw15115280993331158948 | tw5967894683388254108 | tw10735498157041466061 | tw16696970110862347987 | tw10288005310680499490 | tw17754226604838882737
 | tw17941838207570625409 | tw1266551375814185321 | tw18019686006727952325 | tw5221072658367912132 | tw8598008129510287140 | tw14819705321083490113 | tw3234516348037348279 | tw3844435602250123641
 | tw1922957909683347511 | tw1726650934361328923 | tw8622572040931022249 | tw5111963214721469122 | tw2369676268678431522 | tw98228648622377046 | tw11317107572557847266 | tw15693690533555310053
 | tw9818848077531319480 | tw12583791730926513808 | tw6759341916555881528 | tw8082525622098575004 | tw11732770032957261708 | tw1235205170296859753 | tw14512900130325651676 | tw10608064211566036177
 | tw3107251899477543632 | tw8578183088252433100 | tw15490191427132048272 | tw17366483908993452237 | tw1087128724078904015 | tw5626402333611626420 | tw16014238922788342806 | tw10569227973438803185
 | tw8461792390437251298 | tw1672430352343407147 | tw8907380731241373628 | tw9436797506925631088 | tw14844654170374437369 | tw9456907927593901006 | tw213432576146937109
set_option maxRecDepth 100000 in
set_option maxHeartbeats 0 in
open_top zzH for PySem.Challenge.rw_onecurve_k69_whole_wrong_heights_at_a_de
namespace L2
open PySem PySem.Spec PyProof.Rows
abbrev Key:=Sum Int Str
def J3:Key->am->Bool
 | .inl k,v=>Value.isInt k v
 | .inr x,v=>Value.isStrOf x v
def VH(w:db):Key->Int
 | .inl k=>hashInt k
 | .inr x=>hashStr w x
theorem Bq:∀{k:Key} {v:am},J3 k v=true->(∃i t,k=Sum.inl i/\v=Value.int i t)\/(∃x t,k=Sum.inr x/\v=Value.str x t)
 | .inl i,v,h=>by
   obtain⟨t,e⟩:=Value.isInt_shape (k:=i) (v:=v) h;exact .inl ⟨i,t,Z,e⟩
 | .inr x,v,h=>by
   obtain⟨t,e⟩:=Value.isStrOf_shape (x:=x) (v:=v) h;exact .inr ⟨x,t,Z,e⟩
theorem OH(i:Int)(t:Tok):J3 (.inl i) (.int i t)=true:=by simp[J3,Value.isInt]
theorem OG(x:Str)(t:Tok):J3 (.inr x) (.str x t)=true:=by simp[J3,Value.isStrOf]
theorem Ul(a b:Int):decide ((Sum.inl a:Key)=Sum.inl b)=(a == b):=by
 by_cases e:a=b
 ·subst e;simp
 ·have h:¬(Sum.inl a:Key)=Sum.inl b:=fun q=>e (Sum.inl.inj q);rw[decide_eq_false h];exact(beq_eq_false_iff_ne.mpr e).symm
theorem Ui(a b:Str):decide ((Sum.inr a:Key)=Sum.inr b)=decide (a=b):=by
 by_cases e:a=b
 ·subst e;simp
 ·have h:¬(Sum.inr a:Key)=Sum.inr b:=fun q=>e (Sum.inr.inj q);rw[decide_eq_false h,decide_eq_false e]
theorem Uk(a:Int)(b:Str):decide ((Sum.inl a:Key)=Sum.inr b)=false:=decide_eq_false (fun q=>nomatch q)
theorem Uj(a:Str)(b:Int):decide ((Sum.inr a:Key)=Sum.inl b)=false:=decide_eq_false (fun q=>nomatch q)
def C7(prog:ce)(w:db):PySem.KeyKind prog w Key where
 is:=J3
 hash:=VH w
 inj:=fun v a b ha hb=>by
  rcases Bq ha with ⟨i,t,rfl,rfl⟩ | ⟨x,t,rfl,rfl⟩
  ·rcases Bq hb with ⟨j,u,rfl,e⟩ | ⟨y,u,rfl,e⟩
   ·injection e with e1 _;rw[e1]
   ·exact nomatch e
  ·rcases Bq hb with ⟨j,u,rfl,e⟩ | ⟨y,u,rfl,e⟩
   ·exact nomatch e
   ·injection e with e1 _;rw[e1]
 byValue:=fun k v h=>by
  rcases Bq h with ⟨i,t,rfl,rfl⟩ | ⟨x,t,rfl,rfl⟩<;>rfl
 pyHash:=fun hv h=>by
  rcases Bq hv with ⟨i,t,rfl,rfl⟩ | ⟨x,t,rfl,rfl⟩
  ·exact wpAny_pyHash_int h
  ·exact wpAny_pyHash_str h
 eqBool:=fun hu hv h=>by
  rcases Bq hu with ⟨i,t,rfl,rfl⟩ | ⟨x,t,rfl,rfl⟩
  ·rcases Bq hv with ⟨j,u,rfl,rfl⟩ | ⟨y,u,rfl,rfl⟩
   ·rw[Ul]at h;exact wpAny_eqBool_int h
   ·rw[Uk]at h;exact SeqAt.EqAt.int_str i t y u _ _ _ _ h
  ·rcases Bq hv with ⟨j,u,rfl,rfl⟩ | ⟨y,u,rfl,rfl⟩
   ·rw[Uj]at h;exact SeqAt.EqAt.str_int x t j u _ _ _ _ h
   ·rw[Ui]at h;exact wpAny_eqBool_str h
 «strs»:=fun k x t v h=>by
  rcases Bq h with ⟨i,u,rfl,e⟩ | ⟨y,u,rfl,e⟩
  ·exact nomatch e
  ·injection e with e1 _
   subst e1;cases v<;>rfl
theorem Lu(prog:ce)(w:db)(i:Int)(t:Tok):(C7 prog w).is (.inl i) (.int i t)=true:=OH i t
theorem Ls(prog:ce)(w:db)(x:Str)(t:Tok):(C7 prog w).is (.inr x) (.str x t)=true:=OG x t
inductive V where
 | non | bl (b:Bool) | int (i:Int) | str (x:Str) | byt (b:Array UInt8) | flt (b:UInt64) | ref (a:ad) | ty (n:String)
 deriving DecidableEq
def AJ:V->am->Prop
 | .non,u=>u=Value.none
 | .bl b,u=>u=Value.bool b
 | .int i,u=>∃t,u=Value.int i t
 | .str x,u=>∃t,u=Value.str x t
 | .byt b,u=>∃t,u=Value.bytes b t
 | .flt b,u=>∃t,u=Value.float b t
 | .ref a,u=>u=Value.ref a
 | .ty n,u=>u=Value.type n
abbrev AF:List V->List am->Prop:=Paired AJ
theorem AF.length{xs:List V}{us:List am}(r:AF xs us):xs.length=us.length:=Paired.length r
theorem AF.get:∀{xs:List V} {us:List am} {i:Nat} {x:V},AF xs us->xs[i]? = some x->∃u,us[i]? = some u/\AJ x u
 | _,_,_,_,.nil,e=>by simp at e
 | _,_,0,_,.cons r _,e=>by simp at e;subst e;exact⟨_,Z,r⟩
 | _,_,i+1,x,.cons _ t,e=>by
   obtain⟨u,h1,h2⟩:=AF.get (i:=i) (x:=x) t (by simpa using e)
   exact⟨u,by simpa using h1,h2⟩
theorem AF.set{x:V}{u:am}(r:AJ x u):∀{xs:List V} {us:List am} (i:Nat),AF xs us->AF (xs.set i x) (us.set i u)
 | _,_,_,.nil=>.nil
 | _,_,0,.cons _ t=>.cons r t
 | _,_,i+1,.cons q t=>.cons q (AF.set r i t)
theorem AF.append{xs ys:List V}{us ws:List am}(a:AF xs us)(b:AF ys ws):AF (xs++ys) (us++ws):=by
 induction a with
 | nil=>exact b
 | cons r t ih=>exact .cons r ih
theorem AF.take:∀{xs:List V} {us:List am} (n:Nat),AF xs us->AF (xs.take n) (us.take n)
 | _,_,0,_=>.nil
 | _,_,_+1,.nil=>.nil
 | _,_,n+1,.cons r t=>.cons r (AF.take n t)
theorem AF.drop:∀{xs:List V} {us:List am} (n:Nat),AF xs us->AF (xs.drop n) (us.drop n)
 | _,_,0,r=>r
 | _,_,_+1,.nil=>.nil
 | _,_,n+1,.cons _ t=>AF.drop n t
def Er:Option V->Option am->Prop
 | some v,some u=>AJ v u
 | none,none=>True
 | _,_=>False
def KV{κ:Type}:List (κ×V)->List (κ×am)->Prop:=Paired fun(p:κ×V) (q:κ×am)=>p.1=q.1/\AJ p.2 q.2
def kV:Key->V
 | .inl i=>.int i
 | .inr x=>.str x
inductive HO where
 | lst (xs:List V)
 | tup (xs:List V)
 | dK (kvs:List (Key×V)) | dT (kvs:List (List Key×V))
 | set (S:Int->Bool) (n:Nat)
 | ins (C dx:ad) (fs:List (Str×V))
 | own (x:ad)
 | xd (fs:List (Str×V))
 | met (f x:ad)
 | rng (lo hi:Int)
 | frz (o:Obj) (u:HO)
 | tbl (ps:Array am)
 | ext (φ:dw->Prop)
abbrev Hp:=ad->Option HO
def upd(H:Hp)(a:ad)(o:HO):Hp:=fun b=>if b=a then some o else H b
theorem A9{H:Hp}{a:ad}{o:HO}:upd H a o a=some o:=by unfold upd;rw[if_pos rfl]
theorem Aq{H:Hp}{a b:ad}{o:HO}(h:b≠a):upd H a o b=H b:=by unfold upd;rw[if_neg h]
theorem Ro{H:Hp}{a:ad}{o u:HO}:upd (upd H a o) a u=upd H a u:=by
 funext b;unfold upd;split<;>rfl
theorem CS{H:Hp}{a b:ad}{o u:HO}(h:H a=some o)(h':H b=some u)(d:o≠u):a≠b:=by
 intro e;subst e;rw[h]at h';exact d (Yo.inj h')
theorem As{H:Hp}{a b:ad}{o:HO}(h:H a=some o)(h':H b=none):a≠b:=by
 intro e;subst e;rw[h]at h';cases h'
section
variable (P:ce)(w:db)
def BH(H:Hp)(h:dw)(a:ad):HO->Prop
 | .lst xs=>xs.length<=bi/\∃(its:List am) (n:Nat),AF xs its/\h.get? a=some { cls:=.type "list",data:=.seq its.toArray n }
 | .tup xs=>xs.length<=bi/\∃its:List am,AF xs its/\IsTup h a its.toArray
 | .dK kvs=>kvs.length<=bi/\(a == ee)=false/\∃vs,KV kvs vs/\h.DictOf (C7 P w) a vs
 | .dT kvs=>kvs.length<=bi/\(a == ee)=false/\∃xs:List (List Key×ad×am),
  Paired (fun(p:List Key×V) (q:List Key×ad×am)=>p.1=q.1/\H q.2.1=some (.tup (p.1.map kV))/\AJ p.2 q.2.2) kvs xs /\
  ∃o es ep,h.get? a=some o/\o.ExactDict/\o.data = .dict es ep/\es.toList=xs.map (entryOfKey (tupleKind (C7 P w)))/\(xs.map (·.1)).Nodup
 | .set S n=>h.SetOf (intKind P w) a S n
 | .ins C dx fs=>H dx=some (.own a)/\fs.length<=1000/\dx≠a/\h.get? a=some (Yp C dx) /\
  ∃mA,h.Ns1 dx mA/\(∀f,Er (fs.lookup f) (mA f))/\PySem.Within mA (fs.map (·.1))
 | .own _=>∃o,h.get? a=some o
 | .xd fs=>∃mA,h.Ns1 a mA/\∀f,Er (fs.lookup f) (mA f)
 | .rng lo hi=>∃t u v,h.get? a=some { cls:=.type "range",data:=.fields #[.int lo t,.int hi u,.int 1 v] }
 | .frz o u=>h.get? a=some o/\BH H h a u
 | .tbl ps=>h.get? a=some { cls:=.none,data:=.fields ps }
 | .met f x=>h.get? a=some (Yq (.ref f) (.ref x))
 | .ext φ=>φ h/\(∃o,h.get? a=some o)/\∀h1 h2:dw,φ h1->(∀o,h1.get? a=some o->h2.get? a=some o)->φ h2
def HOk(H:Hp)(h:dw):Prop:=∀a o,H a=some o->BH P w H h a o
end
section
variable {P:ce}{w:db}{H H':Hp}{h h':dw}{a:ad}{o:HO}
theorem BH.lt(x:BH P w H h a o):a<h.objs.size:=by
 cases o with
 | lst xs=>obtain⟨_,_,_,_,e⟩:=x;exact Heap.lt_size e
 | tup xs=>obtain⟨_,_,_,p⟩:=x;exact p.lt
 | dK kvs=>obtain⟨_,_,_,_,o,_,_,e,_⟩:=x;exact Heap.lt_size e
 | dT kvs=>obtain⟨_,_,_,_,o,_,_,e,_⟩:=x;exact Heap.lt_size e
 | set S n=>obtain⟨o,_,_,_,e,_⟩:=x;exact Heap.lt_size e
 | ins C dx fs=>obtain⟨_,_,_,e,_⟩:=x;exact Heap.lt_size e
 | own y=>obtain⟨_,e⟩:=x;exact Heap.lt_size e
 | xd fs=>obtain⟨_,⟨_,_,_,e,_⟩,_⟩:=x;exact Heap.lt_size e
 | rng lo hi=>obtain⟨_,_,_,e⟩:=x;exact Heap.lt_size e
 | frz ob u=>obtain⟨e,_⟩:=x;exact Heap.lt_size e
 | tbl ps=>exact Heap.lt_size (show h.get? a=some _ from x)
 | met f y=>exact Heap.lt_size (show h.get? a=some _ from x)
 | ext φ=>obtain⟨_,⟨_,e⟩,_⟩:=x;exact Heap.lt_size e
theorem Paired.mapP{W Y:Type}{F G:W->Y->Prop}{l₁:List W}{l₂:List Y}(h:Paired F l₁ l₂)(f:∀a b,F a b->G a b):Paired G l₁ l₂:=by
 induction h with
 | nil=>exact .nil
 | cons r t ih=>exact .cons (f _ _ r) ih
theorem BH.stay(x:BH P w H h a o)(k:∀b u,(b=a\/H b=some (.own a))->h.get? b=some u->h'.get? b=some u)
 (ho:∀b,H b=some (.own a)->H' b=some (.own a)) (ht:∀b xs,H b=some (.tup xs)->H' b=some (.tup xs)):BH P w H' h' a o:=by
 induction o with
 | lst xs=>obtain⟨z,W,n,r,e⟩:=x;exact⟨z,W,n,r,k _ _ (.inl rfl) e⟩
 | tup xs=>obtain⟨z,W,r,Y,e,c⟩:=x;exact⟨z,W,r,Y,k _ _ (.inl rfl) e,c⟩
 | dK kvs=>obtain⟨z,y,vs,r,Y,es,ep,e,c⟩:=x;exact⟨z,y,vs,r,Y,es,ep,k _ _ (.inl rfl) e,c⟩
 | dT kvs =>
   obtain⟨z,y,xs,r,Y,es,ep,e,c⟩:=x;exact⟨z,y,xs,Paired.mapP r fun p q z=>⟨z.1,ht _ _ z.2.1,z.2.2⟩,Y,es,ep,k _ _ (.inl rfl) e,c⟩
 | set S n=>obtain⟨Y,es,ep,t,e,c⟩:=x;exact⟨Y,es,ep,t,k _ _ (.inl rfl) e,c⟩
 | ins C dx fs =>
   obtain⟨d,z,J,e,mA,⟨O,es,ep,e2,c⟩,r⟩:=x;exact⟨ho _ d,z,J,k _ _ (.inl rfl) e,mA,⟨O,es,ep,k _ _ (.inr d) e2,c⟩,r⟩
 | own y=>obtain⟨Y,e⟩:=x;exact⟨Y,k _ _ (.inl rfl) e⟩
 | xd fs=>obtain⟨mA,⟨O,es,ep,e,c⟩,r⟩:=x;exact⟨mA,⟨O,es,ep,k _ _ (.inl rfl) e,c⟩,r⟩
 | rng lo hi=>obtain⟨t,u,v,e⟩:=x;exact⟨t,u,v,k _ _ (.inl rfl) e⟩
 | frz Y u ih=>obtain⟨e,q⟩:=x;exact⟨k _ _ (.inl rfl) e,ih q⟩
 | tbl ps =>
   have e:h.get? a=some { cls:=.none,data:=.fields ps }:=x;show h'.get? a=some { cls:=.none,data:=.fields ps };exact k a _ (.inl rfl) e
 | met f y =>
   have e:h.get? a=some (Yq (.ref f) (.ref y)):=x;show h'.get? a=some (Yq (.ref f) (.ref y));exact k a _ (.inl rfl) e
 | ext φ=>obtain⟨p,⟨o,e⟩,st⟩:=x;exact⟨st _ _ p fun o q=>k _ _ (.inl rfl) q,⟨o,k _ _ (.inl rfl) e⟩,st⟩
theorem HOk.lt(x:HOk P w H h)(e:H a=some o):a<h.objs.size:=(x a o e).lt
theorem HOk.fresh(x:HOk P w H h)(e:h.objs.size<=a):H a=none:=by
 cases q:H a with
 | none=>rfl
 | some u=>exact absurd (Yr (x.lt q) e) (Ys _)
theorem HOk.kept(x:HOk P w H h)(k:∀b u,h.get? b=some u->h'.get? b=some u):HOk P w H h':=fun a o e =>
 (x a o e).stay (fun b u _ q=>k b u q) (fun _ q=>q) fun _ _ q=>q
theorem HOk.laid(x:HOk P w H h)(k:∀b u,h.get? b=some u->h'.get? b=some u)(O:h.objs.size<=a)(Y:BH P w (upd H a o) h' a o):HOk P w (upd H a o) h':=fun b u e=>by
 have W:=x.fresh O;by_cases hb:b=a
 ·subst hb;rw[A9]at e;cases e;exact Y
 ·rw[Aq hb]at e;exact(x b u e).stay (fun c v _ q=>k c v q) (fun c q=>by rw[Aq (As q W)];exact q) fun c xs q=>by rw[Aq (As q W)];exact q
end
def Rd(H:Hp)(a:ad)(u:HO):Prop:=H a=some u\/∃o,H a=some (.frz o u)
theorem Rd.ok{P:ce}{w:db}{H:Hp}{h:dw}{a:ad}{u:HO}(r:Rd H a u)(x:HOk P w H h):BH P w H h a u:=by
 rcases r with r | ⟨o,r⟩
 ·exact x a u r
 ·obtain⟨_,q⟩:=x a _ r;exact q
def Mut:Option HO->Prop
 | some (.lst _)=>True
 | some (.dK _)=>True
 | some (.dT _)=>True
 | some (.set _ _)=>True
 | some (.ins _ _ _)=>True
 | some (.ext _)=>True
 | _=>False
section
variable {P:ce}{w:db}{H:Hp}{h h':dw}{x e:ad}{o':HO}
theorem HOk.write(ok:HOk P w H h)(mu:Mut (H x))(he:e=x\/H e=some (.own x))(k:∀b u,b≠e->h.get? b=some u->h'.get? b=some u)(ab:∃u,h'.get? e=some u)
 (J:BH P w (upd H x o') h' x o'):HOk P w (upd H x o') h':=fun b u q=>by
 have Y:∀c y,H c=some (.own y)->c≠x:=fun c y r z=>by subst z;rw[r]at mu;exact mu
 have W:∀c xs,H c=some (.tup xs)->c≠x:=fun c xs r z=>by subst z;rw[r]at mu;exact mu
 by_cases hb:b=x
 ·subst hb;rw[A9]at q;cases q;exact J
 ·rw[Aq hb]at q;by_cases hbe:b=e
  ·have q':H b=some (.own x):=by
    rcases he with z | z
    ·exact absurd (hbe.trans z) hb
    ·rw[hbe];exact z
   rw[q]at q';cases q';obtain⟨v,hv⟩:=ab;exact⟨v,by rw[hbe];exact hv⟩
  ·refine(ok b u q).stay (fun c v O r=>k c v ?_ r) (fun c r=>by rw[Aq (Y c b r)];exact r) fun c xs r=>by rw[Aq (W c xs r)];exact r
   rcases O with rfl | O
   ·exact hbe
   ·rintro rfl
    rcases he with z | z
    ·exact Y c b O z
    ·rw[O]at z;cases z;exact hb rfl
end
structure Un(fs ex:List ad)(H H':Hp)(h h':dw):Prop where
 keep:∀b o,h.get? b=some o->H b=none->b∉fs->b∉ex->h'.get? b=some o
 slot:∀b o,h.get? b=some o->H b=none->b∈fs->b∉ex->∃sl,h'.get? b=some { o with slots:=sl }
 free:∀b o,h.get? b=some o->H b=none->b∉ex->H' b=none
 there:∀b o,h.get? b=some o->b∉ex->∃o',h'.get? b=some o'
 tups:∀b xs,H b=some (.tup xs)->H' b=some (.tup xs)
 frzs:∀b o u,H b=some (.frz o u)->H' b=some (.frz o u)
 tbls:∀b ps,H b=some (.tbl ps)->∃more,H' b=some (.tbl (ps++more))
section
variable {fs fs' ex ex':List ad}{H H1 H2:Hp}{h h1 h2 h':dw}{a x e:ad}{o:HO}
theorem Un.any(u:Un fs ex H H1 h h1){b:ad}{Y:Obj}(q:h.get? b=some Y)(n:H b=none)(W:b∉ex):∃O,h1.get? b=some { Y with slots:=O }:=by
 by_cases hb:b∈fs
 ·exact u.slot b Y q n hb W
 ·exact⟨Y.slots,u.keep b Y q n hb W⟩
theorem Un.kept(k:∀b u,h.get? b=some u->h'.get? b=some u):Un fs ex H H h h' :=
 ⟨fun b Y q _ _ _=>k b Y q,fun b Y q _ _ _=>⟨Y.slots,k b Y q⟩,fun _ _ _ n _=>n,fun b Y q _=>⟨Y,k b Y q⟩,fun _ _ q=>q,fun _ _ _ q=>q,fun _ ps q=>⟨#[],by rw[q];simp⟩⟩
theorem Un.refl:Un fs ex H H h h:=Un.kept fun _ _ q=>q
theorem Un.laid(k:∀b u,h.get? b=some u->h'.get? b=some u)(W:h.objs.size<=a)(Y:H a=none):Un fs ex H (upd H a o) h h' where
 keep:=fun b u q _ _ _=>k b u q
 slot:=fun b u q _ _ _=>⟨u.slots,k b u q⟩
 free:=fun b u q n _=>by rw[Aq (Yt (Yr (Heap.lt_size q) W))];exact n
 there:=fun b u q _=>⟨u,k b u q⟩
 tups:=fun b xs q=>by rw[Aq (As q Y)];exact q
 frzs:=fun b u xs q=>by rw[Aq (As q Y)];exact q
 tbls:=fun b ps q=>⟨#[],by rw[Aq (As q Y),q];simp⟩
theorem Un.write(mu:Mut (H x))(he:e=x\/H e=some (.own x))(k:∀b u,b≠e->h.get? b=some u->h'.get? b=some u)(Y:∃u,h'.get? e=some u):Un fs ex H (upd H x o) h h':=by
 have J:∀b,H b=none->b≠x:=fun b n z=>by subst z;rw[n]at mu;exact mu
 have O:∀b,H b=none->b≠e:=fun b n z=>by
  subst z
  rcases he with r | r
  ·exact J b n r
  ·rw[n]at r;cases r
 have W:∀b u,H b=some u->¬Mut (some u)->b≠x:=fun b u q nm z=>by subst z;rw[q]at mu;exact nm mu
 refine⟨fun b u q n _ _=>k b u (O b n) q,fun b u q n _ _=>⟨u.slots,k b u (O b n) q⟩,fun b u q n _=>by rw[Aq (J b n)];exact n,fun b u q _=>?_,
  fun b xs q=>by rw[Aq (W b _ q fun z=>z)];exact q,fun b u xs q=>by rw[Aq (W b _ q fun z=>z)];exact q,fun b ps q=>⟨#[],by rw[Aq (W b _ q fun z=>z),q];simp⟩⟩
 by_cases hbe:b=e
 ·subst hbe;exact Y
 ·exact⟨u,k b u hbe q⟩
end
def trk(h:dw)(H:Hp):List ad:=(Yu h.objs.size).filter fun a=>(H a).isSome
def Ib(h:dw)(H:Hp):dw:=PySem.W.hideAll h (trk h H)
theorem OL(h:dw)(H:Hp):(Ib h H).objs.size=h.objs.size:=PySem.W.hideAll_size _ _
theorem QI{h:dw}{H:Hp}{b:ad}{o:Obj}(e:h.get? b=some o)(n:H b=none):(Ib h H).get? b=some o :=
 PySem.W.hideAll_get _ e fun Y=>by
  have q:(H b).isSome=true:=(Yv.mp Y).2;rw[n]at q;simp at q
theorem S5{h:dw}{H:Hp}{b:ad}{o:Obj}(e:(Ib h H).get? b=some o):h.get? b=some o/\H b=none:=by
 have Y:h.get? b=some o:=PySem.W.of_hideAll (trk h H) e;refine⟨Y,?_⟩;cases q:H b with
 | none=>rfl
 | some x =>
   have O:b∈trk h H:=Yv.mpr ⟨Yw.mpr (Heap.lt_size Y),by simp[q]⟩
   have z:(Ib h H).get? b=none:=PySem.W.hideAll_none (trk h H) O;rw[z]at e;cases e
def Sw(g h:dw)(L:ad):List (ad×Obj):=(Yu h.objs.size).filterMap fun a=>if a=L\/(g.get? a).isSome=true then none else (h.get? a).map fun o=>(a,o)
def CL(g h:dw)(L d:ad):List (ad×Obj):=(Sw g h L).filter fun p=>decide (p.1≠d)
structure Mod(K:Yx)(mg:Str->Option am)(base:dw):Prop where
 kin:K.In base
 glob:base.Ns ci mg
 blt:∃mb,base.Ns fH mb/\∀x:Str,x ≠ "__name__" -> mb x=dy x
 nolimit:base.NoLimit
 seer:base.NoSeer
structure Cx where
 prog:ce
 w:db
 K:Yx
 mg:Str->Option am
 base:dw
 A:dl
 N:List Str
 s₀:aI
 H₀:Hp
 env:Env
 outer:List Env
 stack:List Env
 ex:List ad
 fn:Str->Bool
 calm:Bool
 pn:List (ad×Obj)
 xe:am->aI->Prop
def frs(l:List Env):List ad:=l.filterMap (·.frame)
abbrev Cx.fs(X:Cx):List ad:=frs X.outer
def Vis(sc:dJ)(x:Str):Prop:=sc.names.lookup x=some .local\/sc.names.lookup x=some .cell\/sc.names.lookup x=some .free
def Loc(sc:dJ)(x:Str):Prop:=sc.names.lookup x=some .local\/sc.names.lookup x=some .cell
def VU(env:Env)(h:dw)(m:Str->Option am)(x:Str)(u:am):Prop :=
 (env.kindOf x=some .local/\m x=some u)\/((env.kindOf x=some .cell\/env.kindOf x=some .free)/\∃c,env.cells.lookup x=some c/\h.IsCell c (some u))
structure Cx.Ok(X:Cx):Prop where
 mod:Mod X.K X.mg X.base
 kind:X.env.scope.kind = .function
 glob:X.env.globals=ci
 blt:X.env.builtins=fH
 above:X.s₀.heap.objs.size<=X.env.locals
 inj:∀x y c,X.env.cells.lookup x=some c->X.env.cells.lookup y=some c->x=y
 has:∀x,(X.env.kindOf x=some .cell\/X.env.kindOf x=some .free)->∃c,X.env.cells.lookup x=some c
 cab:∀x c,X.fn x=true->X.env.cells.lookup x=some c->X.s₀.heap.objs.size<=c
 hd:X.calm=true->X.A.handled=none
 frames:X.A.frames=some X.stack
 stk:X.stack=X.outer\/(X.stack=X.env::X.outer/\X.env.frame=some X.env.locals)
 exf:∀b∈X.ex,b≠X.env.locals/\∀x c,X.env.cells.lookup x=some c->c≠b
 bs:∀b o,X.base.get? b=some o->X.s₀.heap.get? b=some o/\X.H₀ b=none
 bsz:X.base.objs.size<=X.s₀.heap.objs.size
 noex:∀b o,X.base.get? b=some o->b∉X.ex
 exfs:∀b∈X.ex,b∉X.fs
 funs:X.s₀.heap.FunFrames X.base X.outer
 frf:∀b∈X.fs,X.H₀ b=none
structure Inv(X:Cx)(pins:List (ad×Obj))(σ:List (Option V))(H:Hp)(s:aI):Prop where
 ok:X.Ok
 os:s.os=X.s₀.os
 bare:fo s.gens
 base:Un X.fs X.ex X.H₀ H X.s₀.heap s.heap
 loc:∃m,s.heap.Ns X.env.locals m/\∀(i:Nat) (x:Str) (v:V),X.N[i]? = some x->σ[i]? = some (some v)->Vis X.env.scope x->∃u,AJ v u/\VU X.env s.heap m x u
 cell:∀x c,X.env.cells.lookup x=some c->∃v,s.heap.IsCell c v
 free:H X.env.locals=none
 freeC:∀x c,X.env.cells.lookup x=some c->H c=none
 pin:∀p∈X.pn++pins,s.heap.get? p.1=some p.2/\H p.1=none/\p.1≠X.env.locals/\p.1∉X.fs/\∀v,p.2.data ≠ .cell v
 hok:HOk X.prog X.w H s.heap
 len:σ.length=X.N.length
section
variable {X:Cx}{pins:List (ad×Obj)}{σ:List (Option V)}{H H':Hp}{s:aI}{h':dw}
theorem Cx.Ok.nofr(Y:X.Ok){b:ad}{o:Obj}(e:X.base.get? b=some o):b∉X.fs:=fun W=>by
 have:=(Y.funs.mem W).1;rw[e]at this;cases this
theorem Inv.bs(I:Inv X pins σ H s):∀b o,X.base.get? b=some o->s.heap.get? b=some o/\H b=none:=fun b o e =>
 ⟨I.base.keep b o (I.ok.bs b o e).1 (I.ok.bs b o e).2 (I.ok.nofr e) (I.ok.noex b o e),I.base.free b o (I.ok.bs b o e).1 (I.ok.bs b o e).2 (I.ok.noex b o e)⟩
theorem Inv.bk(I:Inv X pins σ H s):∀b o,X.base.get? b=some o->s.heap.get? b=some o:=fun b o e=>(I.bs b o e).1
theorem Inv.mod(I:Inv X pins σ H s):Mod X.K X.mg X.base:=I.ok.mod
theorem Inv.kIn(I:Inv X pins σ H s):X.K.In s.heap:=I.ok.mod.kin.keeps I.bk
theorem Inv.nolimit(I:Inv X pins σ H s):s.heap.NoLimit:=I.ok.mod.nolimit.keeps I.bk
theorem Inv.lt(I:Inv X pins σ H s):X.env.locals<s.heap.objs.size:=let ⟨_,hn,_⟩:=I.loc;hn.lt
theorem Inv.sz(I:Inv X pins σ H s):X.s₀.heap.objs.size<=s.heap.objs.size:=Yy I.ok.above (Yz I.lt)
theorem Inv.nofs(I:Inv X pins σ H s){a:ad}(h:s.heap.objs.size<=a):a∉X.fs:=fun W=>by
 obtain⟨_,o,Y,_⟩:=I.ok.funs.mem W;exact absurd (Yr (Heap.lt_size Y) (Yy I.sz h)) (Ys _)
theorem Inv.cne(I:Inv X pins σ H s):∀x c,X.env.cells.lookup x=some c->c≠X.env.locals:=fun x c e z=>by
 obtain⟨v,o,J,O⟩:=I.cell x c e;obtain⟨m,⟨o',es,ep,W,Y,_⟩,_⟩:=I.loc;rw[z,W]at J;cases J;rw[Y]at O;cases O
theorem Inv.funs(I:Inv X pins σ H s):s.heap.FunFrames X.base X.outer:=by
 have Y:∀(l:List Env),(∀b∈frs l,b∈X.fs)->X.s₀.heap.FunFrames X.base l->s.heap.FunFrames X.base l:=by
  intro l
  induction l with
  | nil=>intro _ _;trivial
  | cons env r ih =>
    intro hs hl;obtain⟨hk,⟨L,o,J,hn,ho,hd⟩,hr⟩:=hl;have O:L∈X.fs:=hs L (by unfold frs;rw[YA,J];exact YB)
    obtain⟨sl,e⟩:=I.base.slot L o ho (I.ok.frf L O) O fun z=>I.ok.exfs L z O;exact⟨hk,⟨L,_,J,hn,e,hd⟩,ih (fun b W=>hs b (by unfold frs;rw[YA,J];exact YC _ W)) hr⟩
 exact Y X.outer (fun _ W=>W) I.ok.funs
theorem Inv.stack(I:Inv X pins σ H s):s.heap.FunFrames X.base X.stack:=by
 rcases I.ok.stk with e | ⟨e,W⟩
 ·rw[e];exact I.funs
 ·rw[e];obtain⟨m,Y,_⟩:=I.loc;refine .cons (by rw[I.ok.kind];decide) W Y ?_ I.funs
  exact Heap.get?_none_of_le (Yy I.ok.bsz I.ok.above)
theorem Inv.stkSub(I:Inv X pins σ H s):∀b∈frs X.stack,b∈X.env.locals::X.fs:=fun b Y=>by
 rcases I.ok.stk with e | ⟨e,W⟩
 ·rw[e]at Y;exact YC _ Y
 ·rw[e]at Y;unfold frs at Y;rw[YA,W]at Y;exact Y
theorem Inv.stkFree(I:Inv X pins σ H s):∀b∈frs X.stack,H b=none:=fun b Y=>by
 rcases YD.mp (I.stkSub b Y) with e | Y
 ·rw[e];exact I.free
 ·obtain⟨_,o,W,_⟩:=I.ok.funs.mem Y;exact I.base.free b o W (I.ok.frf b Y) fun z=>I.ok.exfs b z Y
theorem Inv.step{g':Array GenState}{t':Nat}{d':Drawn}{ch:List ad}(I:Inv X pins σ H s)
 (ab:∀b∈ch,(b∈X.ex\/X.s₀.heap.objs.size<=b)/\b≠X.env.locals/\(∀x c,X.env.cells.lookup x=some c->c≠b)/\∀p∈X.pn++pins,p.1≠b)
 (ak:∀b o,b≠X.env.locals->b∉X.fs->b∉ch->s.heap.get? b=some o->H b=none->h'.get? b=some o)
 (an:∀b o,b≠X.env.locals->b∈X.fs->b∉ch->s.heap.get? b=some o->H b=none->∃sl,h'.get? b=some { o with slots:=sl }) (W:∀b o,b∉ch->s.heap.get? b=some o->H b=none->H' b=none)
 (ap:∀b o,b∉ch->s.heap.get? b=some o->∃o',h'.get? b=some o')
 (aC:∀b xs,H b=some (.tup xs)->H' b=some (.tup xs)) (aF:∀b o u,H b=some (.frz o u)->H' b=some (.frz o u)) (aP:∀b ps,H b=some (.tbl ps)->∃more,H' b=some (.tbl (ps++more)))
 (ns:∀m,s.heap.Ns X.env.locals m->h'.Ns X.env.locals m) (ba:HOk X.prog X.w H' h') (hg:fo g') :
 Inv X pins σ H' { s with heap:=h',gens:=g',drawn:=d',toks:=t' }:=by
 have as:∀b o,X.s₀.heap.get? b=some o->b≠X.env.locals:=fun b o e=>Yt (Yr (Heap.lt_size e) I.ok.above)
 have al:∀b o,X.s₀.heap.get? b=some o->b∉X.ex->b∉ch:=fun b o e Y hb=>by
  rcases(ab b hb).1 with z | z
  ·exact Y z
  ·exact absurd (Yr (Heap.lt_size e) z) (Ys _)
 have O:∀x c,X.env.cells.lookup x=some c->∀v,s.heap.IsCell c v->h'.IsCell c v:=fun x c e v ⟨o,ho,hd⟩=>by
  have J:c∉ch:=fun z=>(ab c z).2.2.1 x c e rfl;by_cases hc:c∈X.fs
  ·obtain⟨sl,q⟩:=an c o (I.cne x c e) hc J ho (I.freeC x c e);exact⟨_,q,hd⟩
  ·exact⟨o,ak c o (I.cne x c e) hc J ho (I.freeC x c e),hd⟩
 refine⟨I.ok,I.os,hg,⟨fun b o e n hb Y=>?_,fun b o e n hb Y=>?_,fun b o e n Y=>?_,fun b o e Y=>?_,fun b xs e=>aC b xs (I.base.tups b xs e),fun b o xs e=>aF b o xs (I.base.frzs b o xs e),fun b ps e=>?_⟩,?_,fun x c e=>?_,?_,fun x c e=>?_,fun p hp=>?_,ba,I.len⟩
 ·exact ak b o (as b o e) hb (al b o e Y) (I.base.keep b o e n hb Y) (I.base.free b o e n Y)
 ·obtain⟨sl,e1⟩:=I.base.slot b o e n hb Y;obtain⟨a0,e2⟩:=an b _ (as b o e) hb (al b o e Y) e1 (I.base.free b o e n Y);exact⟨a0,e2⟩
 ·obtain⟨o',e1⟩:=I.base.there b o e Y;exact W b o' (al b o e Y) e1 (I.base.free b o e n Y)
 ·obtain⟨o',e1⟩:=I.base.there b o e Y;exact ap b o' (al b o e Y) e1
 ·obtain⟨m1,e1⟩:=I.base.tbls b ps e;obtain⟨m2,e2⟩:=aP b _ e1;exact⟨m1++m2,by rw[e2,Array.append_assoc]⟩
 ·obtain⟨m,hn,hl⟩:=I.loc;refine⟨m,ns m hn,fun i x v e1 e2 e3=>?_⟩;obtain⟨u,r,l⟩:=hl i x v e1 e2 e3;refine⟨u,r,?_⟩
  rcases l with l | ⟨k,c,e,z⟩
  ·exact .inl l
  ·exact .inr ⟨k,c,e,O x c e _ z⟩
 ·obtain⟨v,z⟩:=I.cell x c e;exact⟨v,O x c e v z⟩
 ·obtain⟨m,⟨o,_,_,ho,_⟩,_⟩:=I.loc;exact W _ o (fun z=>(ab _ z).2.1 rfl) ho I.free
 ·obtain⟨v,o,ho,hd⟩:=I.cell x c e;exact W c o (fun z=>(ab c z).2.2.1 x c e rfl) ho (I.freeC x c e)
 ·obtain⟨e,n,ne,nf,d⟩:=I.pin p hp;have J:p.1∉ch:=fun z=>(ab p.1 z).2.2.2 p hp rfl;exact⟨ak p.1 p.2 ne nf J e n,W p.1 p.2 J e n,ne,nf,d⟩
theorem Inv.un{t':Nat}(I:Inv X pins σ H s)(u:Un X.fs [] H H' s.heap h')(W:HOk X.prog X.w H' h'):Inv X pins σ H' { s with heap:=h',toks:=t' }:=by
 obtain⟨m,⟨o,es,ep,ho,r⟩,_⟩:=id I.loc;obtain⟨sl,hL⟩:=u.any ho I.free (by simp)
 exact I.step (g':=s.gens) (d':=s.drawn) (ch:=[]) (fun _ z=>nomatch z) (fun b o _ O _ e n=>u.keep b o e n O (by simp)) (fun b o _ O _ e n=>u.slot b o e n O (by simp)) (fun b o _ e n=>u.free b o e n (by simp)) (fun b o _ e=>u.there b o e (by simp)) u.tups u.frzs u.tbls (fun m' hm=>by
  obtain⟨o',ab,J,Y,r'⟩:=hm;rw[ho]at Y;cases Y;exact⟨_,ab,J,hL,r'⟩) W I.bare
theorem Inv.call{g':Array GenState}{t':Nat}{d':Drawn}{ch:List ad}(I:Inv X pins σ H s)(u:Un (frs X.stack) ch H H' s.heap h')(J:HOk X.prog X.w H' h')(hg:fo g')
 (W:∀b∈ch,(b∈X.ex\/X.s₀.heap.objs.size<=b)/\b≠X.env.locals/\(∀x c,X.env.cells.lookup x=some c->c≠b)/\∀p∈X.pn++pins,p.1≠b) :
 Inv X pins σ H' { s with heap:=h',gens:=g',drawn:=d',toks:=t' }:=by
 obtain⟨m,⟨o,es,ep,ho,r⟩,_⟩:=id I.loc;obtain⟨sl,hL⟩:=u.any ho I.free fun z=>(W _ z).2.1 rfl
 exact I.step (ch:=ch) W (fun b o hL hb Y e n=>u.keep b o e n (fun z=>(YD.mp (I.stkSub b z)).elim hL hb) Y) (fun b o _ _ Y e n=>u.any e n Y) (fun b o Y e n=>u.free b o e n Y) (fun b o Y e=>u.there b o e Y) u.tups u.frzs u.tbls (fun m' hm=>by
  obtain⟨o',ak,ab,O,r'⟩:=hm;rw[ho]at O;cases O;exact⟨_,ak,ab,hL,r'⟩) J hg
theorem Inv.turned{t':Nat}{it:ad}(I:Inv X pins σ H s)(k:∀b o,b≠it->s.heap.get? b=some o->h'.get? b=some o)(J:H it=none)(O:it≠X.env.locals)
 (h1:it∈X.ex\/X.s₀.heap.objs.size<=it) (h2:∀x c,X.env.cells.lookup x=some c->c≠it) (h3:∀p∈X.pn++pins,p.1≠it):Inv X pins σ H { s with heap:=h',toks:=t' }:=by
 have W:∀b u,H b=some u->b≠it:=fun b u e z=>by rw[z,J]at e;cases e
 refine I.step (g':=s.gens) (d':=s.drawn) (ch:=[it]) (fun b hb=>?_) (fun b o _ _ Y e _=>k b o (fun z=>Y (by simp[z])) e) (fun b o _ _ Y e _=>⟨o.slots,k b o (fun z=>Y (by simp[z])) e⟩) (fun _ _ _ _ n=>n)
  (fun b o Y e=>⟨o,k b o (fun z=>Y (by simp[z])) e⟩) (fun _ _ e=>e) (fun _ _ _ e=>e) (fun b ps e=>⟨#[],by rw[e];simp⟩) (fun m hm=>?_) (fun b u e=>?_) I.bare
 ·have e:b=it:=by simpa using hb
  subst e;exact⟨h1,O,h2,h3⟩
 ·obtain⟨o,es,ep,ho,r⟩:=hm;exact⟨o,es,ep,k _ o (Ne.symm O) ho,r⟩
 ·refine(I.hok b u e).stay (fun c v Y q=>k c v ?_ q) (fun _ q=>q) fun _ _ q=>q
  rcases Y with z | z
  ·rw[z];exact W b u e
  ·exact W c _ z
theorem Inv.tok(I:Inv X pins σ H s)(t:Nat):Inv X pins σ H { s with toks:=t }:=I.un (h':=s.heap) (t':=t) Un.refl I.hok
theorem Inv.kept{t':Nat}(I:Inv X pins σ H s)(k:∀b u,s.heap.get? b=some u->h'.get? b=some u):Inv X pins σ H { s with heap:=h',toks:=t' }:=I.un (Un.kept k) (I.hok.kept k)
theorem Inv.laid{a:ad}{o:HO}{t':Nat}(I:Inv X pins σ H s)(k:∀b u,s.heap.get? b=some u->h'.get? b=some u)(W:s.heap.objs.size<=a)(Y:BH X.prog X.w (upd H a o) h' a o) :
 Inv X pins σ (upd H a o) { s with heap:=h',toks:=t' }:=I.un (Un.laid k W (I.hok.fresh W)) (I.hok.laid k W Y)
theorem Inv.write{x e:ad}{o:HO}{t':Nat}(I:Inv X pins σ H s)(mu:Mut (H x))(O:e=x\/H e=some (.own x))(k:∀b u,b≠e->s.heap.get? b=some u->h'.get? b=some u)(Y:∃u,h'.get? e=some u)
 (W:BH X.prog X.w (upd H x o) h' x o):Inv X pins σ (upd H x o) { s with heap:=h',toks:=t' }:=I.un (Un.write mu O k Y) (I.hok.write mu O k Y W)
theorem Inv.weak{Y:List (Option V)}(I:Inv X pins σ H s)(J:Y.length=σ.length)(w:∀(i:Nat) v,Y[i]? = some (some v)->σ[i]? = some (some v)):Inv X pins Y H s :=
 ⟨I.ok,I.os,I.bare,I.base,let ⟨m,hn,hl'⟩:=I.loc;⟨m,hn,fun i x v e1 O W=>hl' i x v e1 (w i v O) W⟩,I.cell,I.free,I.freeC,I.pin,I.hok,J.trans I.len⟩
theorem Inv.pins_of{pins':List (ad×Obj)}(I:Inv X pins σ H s)(h:∀p∈pins',s.heap.get? p.1=some p.2/\H p.1=none/\p.1≠X.env.locals/\p.1∉X.fs/\∀v,p.2.data ≠ .cell v):Inv X pins' σ H s :=
 ⟨I.ok,I.os,I.bare,I.base,I.loc,I.cell,I.free,I.freeC,fun p Y=>(YE.mp Y).elim (fun z=>I.pin p (YF _ z)) (h p),I.hok,I.len⟩
theorem Lm{N:List Str}(W:N.Nodup){i j:Nat}{x:Str}(a:N[i]? = some x)(b:N[j]? = some x):i=j:=by
 obtain⟨h1,e1⟩:=YG.mp a;obtain⟨h2,Y⟩:=YG.mp b;exact(List.getElem_inj W).mp (e1.trans Y.symm)
theorem IU{M:Model}{A:dl}{E:am->aI->Prop}{i:Nat}{x:Str}{v:V}{u:am}{Q:Unit->aI->Prop}(I:Inv X pins σ H s)(hN:X.N.Nodup)(hi:X.N[i]? = some x)(J:Loc X.env.scope x)(r:AJ v u)
 (h:∀s',Inv X pins (σ.set i (some v)) H s'->(∃a,Heap.SameBut a s.heap s'.heap/\(a=X.env.locals\/X.env.cells.lookup x=some a))->Q () s') (hf:X.fn x=true\/X.env.scope.names.lookup x=some .local:=by first | exact .inl rfl | exact .inr rfl | assumption):bv M A (storeName X.env x u) Q E s:=by
 obtain⟨m,hn,hl⟩:=id I.loc;have aF:(X.env.scope.kind == .class||(X.env.scope.kind == .module&&X.env.locals != X.env.globals))=false:=by rw[I.ok.kind];rfl
 have ak:i<σ.length:=by rw[I.len];exact(YG.mp hi).1
 have al:=I.cne
 have W:∀{a:ad} {h':dw},(∃o,s.heap.get? a=some o/\H a=none)->Heap.SameBut a s.heap h'->HOk X.prog X.w H h':=fun{a h'} ha Y b ob e=>by
  obtain⟨_,_,ab⟩:=ha;refine(I.hok b ob e).stay (fun c w' O q=>(Y.2 c ?_).trans q) (fun _ q=>q) fun _ _ q=>q;rintro rfl
  rcases O with rfl | O
  ·rw[ab]at e;cases e
  ·rw[ab]at O;cases O
 rcases J with hk | hk
 ·refine wpAny_storeName_local hk hn (fun h' aP Y=>?_) aF;obtain⟨oL,_,_,a0,_⟩:=id hn;refine h _ ⟨I.ok,I.os,I.bare,⟨fun b o e n hb J=>?_,fun b o e n hb J=>?_,I.base.free,fun b o e J=>?_,I.base.tups,I.base.frzs,I.base.tbls⟩,⟨_,aP,fun j y v' e1 e2 e3=>?_⟩,fun y c e=>?_,I.free,I.freeC,fun p hp=>?_,W ⟨oL,a0,I.free⟩ Y,by simpa using I.len⟩ ⟨_,Y,.inl rfl⟩
  ·exact(Y.2 b (Yt (Yr (Heap.lt_size e) I.ok.above))).trans (I.base.keep b o e n hb J)
  ·obtain⟨sl,e1⟩:=I.base.slot b o e n hb J;exact⟨sl,(Y.2 b (Yt (Yr (Heap.lt_size e) I.ok.above))).trans e1⟩
  ·obtain⟨o',e1⟩:=I.base.there b o e J;exact⟨o',(Y.2 b (Yt (Yr (Heap.lt_size e) I.ok.above))).trans e1⟩
  ·by_cases hj:j=i
   ·subst hj;rw[hi]at e1;cases e1;rw[YH ak]at e2;cases e2;exact⟨u,r,.inl ⟨hk,by simp⟩⟩
   ·rw[YI (Ne.symm hj)]at e2;obtain⟨u',r',q⟩:=hl j y v' e1 e2 e3;refine⟨u',r',?_⟩
    rcases q with ⟨k,e⟩ | ⟨k,c,e,z⟩
    ·refine .inl ⟨k,?_⟩;have:y≠x:=fun e=>hj (Lm hN e1 (e ▸ hi));simp[this,e]
    ·exact .inr ⟨k,c,e,z.sameBut Y (al y c e)⟩
  ·obtain⟨w',z⟩:=I.cell y c e;exact⟨w',z.sameBut Y (al y c e)⟩
  ·obtain⟨e,n,ne,nf,d⟩:=I.pin p hp;exact⟨(Y.2 p.1 ne).trans e,n,ne,nf,d⟩
 ·have an:X.fn x=true:=by
   rcases hf with z | z
   ·exact z
   ·rw[z]at hk;cases hk
  obtain⟨c,O⟩:=I.ok.has x (.inl hk);obtain⟨w',z⟩:=I.cell x c O;refine wpAny_storeName_cell I.ok.kind hk O z (fun h' aC Y=>?_);obtain⟨oc,ap,as⟩:=id z;refine h { s with heap:=h' } ⟨I.ok,I.os,I.bare,⟨fun b o e n hb J=>?_,fun b o e n hb J=>?_,I.base.free,fun b o e J=>?_,I.base.tups,I.base.frzs,I.base.tbls⟩,⟨m,hn.sameBut Y (Ne.symm (al x c O)),fun j y v' e1 e2 e3=>?_⟩,fun y c' e=>?_,I.free,I.freeC,fun p hp=>?_,W ⟨oc,ap,I.freeC x c O⟩ Y,by simpa using I.len⟩ ⟨c,Y,.inr O⟩
  ·exact(Y.2 b (Yt (Yr (Heap.lt_size e) (I.ok.cab x c an O)))).trans (I.base.keep b o e n hb J)
  ·obtain⟨sl,e1⟩:=I.base.slot b o e n hb J;exact⟨sl,(Y.2 b (Yt (Yr (Heap.lt_size e) (I.ok.cab x c an O)))).trans e1⟩
  ·obtain⟨o',e1⟩:=I.base.there b o e J;exact⟨o',(Y.2 b (Yt (Yr (Heap.lt_size e) (I.ok.cab x c an O)))).trans e1⟩
  ·by_cases hj:j=i
   ·subst hj;rw[hi]at e1;cases e1;rw[YH ak]at e2;cases e2;exact⟨u,r,.inr ⟨.inl hk,c,O,aC⟩⟩
   ·rw[YI (Ne.symm hj)]at e2;obtain⟨u',r',q⟩:=hl j y v' e1 e2 e3;refine⟨u',r',?_⟩
    rcases q with q | ⟨k,c',e,z'⟩
    ·exact .inl q
    ·refine .inr ⟨k,c',e,z'.sameBut Y ?_⟩;rintro rfl;exact hj (Lm hN e1 (I.ok.inj _ _ _ e O ▸ hi))
  ·by_cases hcc:c'=c
   ·subst hcc;exact⟨_,aC⟩
   ·obtain⟨w2,z2⟩:=I.cell y c' e;exact⟨w2,z2.sameBut Y hcc⟩
  ·obtain⟨e,n,ne,nf,d⟩:=I.pin p hp;refine⟨(Y.2 p.1 ?_).trans e,n,ne,nf,d⟩;intro q;rw[q,ap]at e;have q':oc=p.2:=Yo.inj e;exact d w' (by rw[<- q'];exact as)
theorem EW{M:Model}{A:dl}{E:am->aI->Prop}{i:Nat}{x:Str}{v:V}{u:am}{Q:Unit->aI->Prop}(I:Inv X pins σ H s)(J:X.N.Nodup)(hi:X.N[i]? = some x)(O:Loc X.env.scope x)(r:AJ v u)
 (h:∀s',Inv X pins (σ.set i (some v)) H s'->Q () s') (W:X.fn x=true\/X.env.scope.names.lookup x=some .local:=by first | exact .inl rfl | exact .inr rfl | assumption):bv M A (storeName X.env x u) Q E s :=
 IU I J hi O r (fun s' Y _=>h s' Y) W
theorem Inv.call'{s':aI}{ch:List ad}(I:Inv X pins σ H s)(O:s'.os=s.os)(u:Un (frs X.stack) ch H H' s.heap s'.heap)(W:HOk X.prog X.w H' s'.heap)(J:fo s'.gens)
 (Y:∀b∈ch,(b∈X.ex\/X.s₀.heap.objs.size<=b)/\b≠X.env.locals/\(∀x c,X.env.cells.lookup x=some c->c≠b)/\∀p∈X.pn++pins,p.1≠b):Inv X pins σ H' s':=by
 obtain⟨h',g',d',t',o'⟩:=s';have e:o'=s.os:=O;subst e;exact I.call (g':=g') (t':=t') (d':=d') u W J Y
end
abbrev XK:=am->Option ad->Hp->Prop
abbrev St:=List (Option V)
abbrev VK:=V->Hp->Prop
abbrev TE:=St->Hp->VK->Prop
abbrev TT:=St->Hp->(Bool->Hp->Prop)->Prop
abbrev TA:=St->Hp->(List V->Hp->Prop)->Prop
structure DP where
 nx:St->Hp->Prop
 rt:VK
 bk:St->Hp->Prop:=fun _ _=>False
 ct:St->Hp->Prop:=fun _ _=>False
abbrev TS:=DP->St->Hp->Prop
inductive EP(X:Cx)(pins:List (ad×Obj))(σ:St)(Q:VK)(u:am)(s':aI):Prop
 | mk (v:_) (H':_) (h1:Inv X pins σ H' s') (h2:AJ v u) (h3:Q v H'):EP X pins σ Q u s'
def TP(X:Cx)(pins:List (ad×Obj))(σ:St)(Q:Bool->Hp->Prop)(b:Bool)(s':aI):Prop:=∃H',Inv X pins σ H' s'/\Q b H'
inductive AP(X:Cx)(pins:List (ad×Obj))(σ:St)(Q:List V->Hp->Prop)(us:List am)(s':aI):Prop
 | mk (vs:_) (H':_) (h1:Inv X pins σ H' s') (h2:AF vs us) (h3:Q vs H'):AP X pins σ Q us s'
def SP(X:Cx)(pins:List (ad×Obj))(D:DP)(f:Flow)(s':aI):Prop :=
 match f with
 | .next=>∃σ' H',Inv X pins σ' H' s'/\D.nx σ' H'
 | .brk=>∃σ' H',Inv X pins σ' H' s'/\D.bk σ' H'
 | .cont=>∃σ' H',Inv X pins σ' H' s'/\D.ct σ' H'
 | .ret u=>∃v σ' H',Inv X pins σ' H' s'/\AJ v u/\D.rt v H'
def PE(X:Cx)(e:Expr)(t:TE):Prop :=
 ∀(pins:List (ad×Obj)) (s:aI) (σ:St) (H:Hp) (Q:VK),Inv X pins σ H s->t σ H Q->bv (cr X.prog X.w) X.A (dE e X.env) (EP X pins σ Q) X.xe s
def PT(X:Cx)(e:Expr)(t:TT):Prop :=
 ∀(pins:List (ad×Obj)) (s:aI) (σ:St) (H:Hp) (Q:Bool->Hp->Prop),Inv X pins σ H s->t σ H Q->bv (cr X.prog X.w) X.A (isTrue e X.env (dE e X.env)) (TP X pins σ Q) X.xe s
def PW(X:Cx)(e:Expr)(t:TT):Prop :=
 ∀(whole:Sem am) (pins:List (ad×Obj)) (s:aI) (σ:St) (H:Hp) (Q:Bool->Hp->Prop),Inv X pins σ H s->t σ H Q->bv (cr X.prog X.w) X.A (isTrue e X.env whole) (TP X pins σ Q) X.xe s
theorem PW.pt{X:Cx}{e:Expr}{t:TT}(h:PW X e t):PT X e t:=h _
def PA(X:Cx)(es:List Expr)(t:TA):Prop :=
 ∀(pos:Pos) (pins:List (ad×Obj)) (s:aI) (σ:St) (H:Hp) (Q:List V->Hp->Prop),Inv X pins σ H s->t σ H Q->bv (cr X.prog X.w) X.A (spliced (dU pos (cQ es X.env))) (AP X pins σ Q) X.xe s
def PS(X:Cx)(st:eU)(t:TS):Prop :=
 ∀(pins:List (ad×Obj)) (s:aI) (σ:St) (H:Hp) (D:DP),Inv X pins σ H s->t D σ H->bv (cr X.prog X.w) X.A (exec st X.env) (SP X pins D) X.xe s
def PSs(X:Cx)(st:List eU)(t:TS):Prop :=
 ∀(pins:List (ad×Obj)) (s:aI) (σ:St) (H:Hp) (D:DP),Inv X pins σ H s->t D σ H->bv (cr X.prog X.w) X.A (execs st X.env) (SP X pins D) X.xe s
theorem thn{W:Type}{t:Sem W}{Q Y:W->aI->Prop}{M:Model}{A:dl}{E:am->aI->Prop}{s:aI}(h:bv M A t Q E s)(O:∀a s,Q a s->Y a s):bv M A t Y E s:=dF h O fun _ _ x=>x
section
variable {X:Cx}
inductive Jk(i:Nat)(σ:St)(H:Hp)(Q:VK):Prop
 | mk (v:_) (h1:σ[i]? = some (some v)) (h2:Q v H):Jk i σ H Q
def tC(v:V):TE:=fun _ H Q=>Q v H
theorem TU{i:Nat}{x:Str}{pos:Pos}(hN:X.N[i]? = some x)(hv:Vis X.env.scope x)(J:(x == ("__debug__" : Str))=false:=by decide)(O:(x == ("__classdict__" : Str))=false:=by decide):PE X (.Name x pos) (Jk i):=by
 intro pins s σ H Q I h;obtain⟨v,e,h⟩:=h;obtain⟨m,hn,hl⟩:=I.loc;obtain⟨u,r,l⟩:=hl i x v hN e hv;have W:EP X pins σ Q u s:=⟨v,H,I,r,h⟩
 rcases l with ⟨hk,hm⟩ | ⟨hk,c,hc,Y⟩
 ·exact wpAny_Name (wpAny_loadName_local I.ok.kind hk hn hm W) J
 ·rcases hk with hk | hk
  ·exact wpAny_Name (wpAny_loadName_cell I.ok.kind hk hc Y W) J
  ·exact wpAny_Name (wpAny_loadName_free I.ok.kind hk hc Y W O) J
theorem Ab{i j pos}:PE X (.Constant (.int i) j pos) (tC (.int i)):=fun _ _ _ H _ I h=>wpAny_Constant_int ⟨.int i,H,I.tok _,⟨_,Z⟩,h⟩
theorem Fo{b j pos}:PE X (.Constant (.bool b) j pos) (tC (.bl b)):=fun _ _ _ H _ I h=>Constant_bool ⟨.bl b,H,I,Z,h⟩
theorem HI{j pos}:PE X (.Constant .none j pos) (tC .non):=fun _ _ _ H _ I h=>Constant_none ⟨.non,H,I,Z,h⟩
theorem AI{x j pos}:PE X (.Constant (.str x) j pos) (tC (.str x)):=fun _ _ _ H _ I h=>Calls.Constant_str ⟨.str x,H,I.tok _,⟨_,Z⟩,h⟩
def Gl(X:Cx)(x:Str):Prop:=X.env.kindOf x=some .globalImplicit
theorem K5{E:am->aI->Prop}{pins:List (ad×Obj)}{s:aI}{σ:St}{H:Hp}{x:Str}{u:am}{pos:Pos}{Q:am->aI->Prop}(I:Inv X pins σ H s)(O:Gl X x)(W:X.mg x=some u)(h:Q u s)
 (Y:(x == ("__debug__" : Str))=false:=by decide):bv (cr X.prog X.w) X.A (dE (.Name x pos) X.env) Q E s :=
 Calls.Name_function_global I.ok.kind O (Calls.loadGlobal_global (by rw[I.ok.glob];exact I.mod.glob.keeps I.bk) W h) Y
theorem CG{E:am->aI->Prop}{pins:List (ad×Obj)}{s:aI}{σ:St}{H:Hp}{x:Str}{u:am}{pos:Pos}{Q:am->aI->Prop}(I:Inv X pins σ H s)(O:Gl X x)(hm:X.mg x=none)(W:dy x=some u)(h:Q u s)
 (Y:x ≠ "__name__":=by decide) (J:(x == ("__debug__" : Str))=false:=by decide):bv (cr X.prog X.w) X.A (dE (.Name x pos) X.env) Q E s:=by
 obtain⟨mb,h1,h2⟩:=I.mod.blt;exact Calls.Name_function_global I.ok.kind O (Calls.loadGlobal_builtin (by rw[I.ok.glob];exact I.mod.glob.keeps I.bk) hm (by rw[I.ok.blt];exact h1.keeps I.bk) ((h2 x Y).trans W) h) J
theorem C5{x:Str}{v:V}{u:am}{pos:Pos}(O:Gl X x)(W:X.mg x=some u)(r:AJ v u)(Y:(x == ("__debug__" : Str))=false:=by decide):PE X (.Name x pos) (tC v) :=
 fun _ _ _ H _ I h=>K5 I O W ⟨v,H,I,r,h⟩ Y
theorem CZ{x:Str}{v:V}{u:am}{pos:Pos}(O:Gl X x)(hm:X.mg x=none)(W:dy x=some u)(r:AJ v u)(Y:x ≠ "__name__":=by decide)(J:(x == ("__debug__" : Str))=false:=by decide):PE X (.Name x pos) (tC v) :=
 fun _ _ _ H _ I h=>CG I O hm W ⟨v,H,I,r,h⟩ Y J
variable {a b:Expr}{ta tb:TE}{pos:Pos}
def PC(X:Cx)(op:CmpOp)(a b:Expr)(t:TE):Prop :=
 ∀ (pins:List (ad×Obj)) (s:aI) (σ:St) (H:Hp) (Q:VK),Inv X pins σ H s->t σ H Q ->
   bv (cr X.prog X.w) X.A (dE a X.env) (fun v s₁=>bv (cr X.prog X.w) X.A (dE b X.env) (fun u s₂=>bv (cr X.prog X.w) X.A (dN op v u) (EP X pins σ Q) X.xe s₂) X.xe s₁) X.xe s
def tB(t:TE):TT:=fun σ H Q=>t σ H fun x H1=>∃c,x = .bl c/\Q c H1
theorem Q8{Y:CmpOp}{t:TE}(h:PC X Y a b t)(h1:fq Y b=false:=by first | exact nobehind _ (by decide) (by decide) | rfl):PT X (.Compare a [Y] [b] pos) (tB t):=by
 intro pins s σ H Q I hw;refine wpAny_isTrue_Compare1 (thn (h pins s σ H _ I hw) fun v s1 h1=>thn h1 fun u J h2=>thn h2 fun c s3 ⟨x,H1,W,r1,O⟩=>?_) h1;obtain⟨d,rfl,q⟩:=O;cases r1;exact dR ⟨H1,W,q⟩
theorem C8{e:Expr}{t:TE}(h:PE X e t)(O:∀Y,isTrue e X.env Y=(do let v <- Y;standAt e.pos;holding [v] (truthy v)):=by intro _;rfl):PT X e (tB t):=by
 intro pins s σ H Q I hw;refine isTrue_plain (thn (h pins s σ H _ I hw) fun v s1 ⟨x,H1,W,r1,J⟩=>?_) (O _);obtain⟨d,rfl,q⟩:=J;cases r1;exact dR ⟨H1,W,q⟩
variable {tA tB':TT}{CL:List Expr}
def VD(t u:TT):TT:=fun σ H Q=>t σ H fun c H1=>if c=true then u σ H1 Q else Q false H1
def tOr(t u:TT):TT:=fun σ H Q=>t σ H fun c H1=>if c=true then Q true H1 else u σ H1 Q
def VB(t:TT):TT:=fun σ H Q=>t σ H fun c H1=>Q (!c) H1
theorem Fm(ha:PT X a tA):PW X (.BoolOp .And [a] pos) tA:=by
 intro W pins s σ H Q I h;refine isTrue_and (thn (ha pins s σ H Q I h) fun c Y e=>?_);cases c with
 | true=>exact isTrue_and_nil e
 | false=>exact e
theorem D8(ha:PT X a tA):PW X (.BoolOp .Or [a] pos) tA:=by
 intro W pins s σ H Q I h;refine isTrue_or (thn (ha pins s σ H Q I h) fun c Y e=>?_);cases c with
 | false=>exact isTrue_or_nil e
 | true=>exact e
theorem HC(ha:PT X a tA)(J:PW X (.BoolOp .And (b::CL) pos) tB'):PW X (.BoolOp .And (a::b::CL) pos) (VD tA tB'):=by
 intro O pins s σ H Q I h;refine isTrue_and (thn (ha pins s σ H _ I h) fun c s1 ⟨H1,Y,W⟩=>?_);cases c with
 | true=>exact J O pins s1 σ H1 Q Y W
 | false=>exact⟨H1,Y,W⟩
theorem Ey(ha:PT X a tA)(J:PW X (.BoolOp .Or (b::CL) pos) tB'):PW X (.BoolOp .Or (a::b::CL) pos) (tOr tA tB'):=by
 intro O pins s σ H Q I h;refine isTrue_or (thn (ha pins s σ H _ I h) fun c s1 ⟨H1,Y,W⟩=>?_);cases c with
 | true=>exact⟨H1,Y,W⟩
 | false=>exact J O pins s1 σ H1 Q Y W
theorem CC(ha:PT X a tA):PT X (.UnaryOp .Not a pos) (VB tA):=by
 intro pins s σ H Q I h;exact isTrue_not (ha pins s σ H (fun c H1=>Q (!c) H1) I h)
def UX(ta tb:TE):TE:=fun σ H Q=>ta σ H fun x H1=>∃c,x = .bl c/\if c=true then tb σ H1 Q else Q (.bl false) H1
def UR(ta:TE):TE:=fun σ H Q=>ta σ H fun x H1=>∃c,x = .bl c/\Q (.bl (!c)) H1
theorem My{op}{t:TE}(h:PE X a t):PE X (.BoolOp op [a] pos) t:=fun pins s σ H Q I hw=>BoolOp_one (h pins s σ H Q I hw)
theorem MA(ha:PE X a ta)(J:PE X (.BoolOp .And (b::CL) pos) tb):PE X (.BoolOp .And (a::b::CL) pos) (UX ta tb):=by
 intro pins s σ H Q I h;refine BoolOp_and (thn (ha pins s σ H _ I h) fun v O ⟨x,H1,W,r1,Y⟩=>?_);obtain⟨c,rfl,Y⟩:=Y;cases r1;refine dR ?_;cases c with
 | true=>exact J pins O σ H1 Q W Y
 | false=>exact⟨.bl false,H1,W,Z,Y⟩
theorem TV(ha:PE X a ta):PE X (.UnaryOp .Not a pos) (UR ta):=by
 intro pins s σ H Q I h;refine UnaryOp_ (thn (ha pins s σ H _ I h) fun v O ⟨x,H1,W,r1,Y⟩=>?_);obtain⟨c,rfl,Y⟩:=Y;cases r1;exact not_of (dR ⟨.bl (!c),H1,W,Z,Y⟩)
def tIf(t:TT)(ta tb:TE):TE:=fun σ H Q=>t σ H fun c H1=>if c=true then ta σ H1 Q else tb σ H1 Q
theorem Di{c:Expr}(hc:PT X c tA)(ha:PE X a ta)(J:PE X b tb):PE X (.IfExp c a b pos) (tIf tA ta tb):=by
 intro pins s σ H Q I h;refine wpAny_IfExp (thn (hc pins s σ H _ I h) fun d O ⟨H1,Y,W⟩=>?_);cases d with
 | true=>exact ha pins O σ H1 Q Y W
 | false=>exact J pins O σ H1 Q Y W
end
def SqL(K:Yx)(H:Hp)(a:ad)(xs:List V):Prop :=
 Rd H a (.lst xs) \/
  ∃(o:Obj) (its:Array am) (n:Nat),K.lookup a=some o/\o.cls = .type "list" /\ o.dict=none/\o.data = .seq its n/\its.size<=bi/\AF xs its.toList
def SqT(K:Yx)(H:Hp)(a:ad)(xs:List V):Prop :=
 Rd H a (.tup xs) \/
  ∃(o:Obj) (its:Array am) (n:Nat),K.lookup a=some o/\o.cls = .type "tuple" /\ o.data = .seq its n/\its.size<=bi/\AF xs its.toList
def Ij:am->Option V
 | .none=>some .non
 | .bool b=>some (.bl b)
 | .int i _=>some (.int i)
 | .str x _=>some (.str x)
 | .bytes b _=>some (.byt b)
 | .float b _=>some (.flt b)
 | .ref a=>some (.ref a)
 | .type n=>some (.ty n)
 | _=>none
theorem AJ.abs{x:V}{u:am}(r:AJ x u):Ij u=some x:=by
 cases x with
 | non=>cases r;rfl
 | bl _=>cases r;rfl
 | int _=>obtain⟨t,rfl⟩:=r;rfl
 | str _=>obtain⟨t,rfl⟩:=r;rfl
 | byt _=>obtain⟨t,rfl⟩:=r;rfl
 | flt _=>obtain⟨t,rfl⟩:=r;rfl
 | ref _=>cases r;rfl
 | ty _=>cases r;rfl
theorem AJ.inj{x y:V}{u:am}(r:AJ x u)(q:AJ y u):x=y:=Yo.inj (r.abs.symm.trans q.abs)
theorem AF.inj{xs ys:List V}{us:List am}(a:AF xs us)(b:AF ys us):xs=ys:=by
 induction a generalizing ys with
 | nil=>cases b;rfl
 | cons r t ih=>cases b with | cons r' t'=>rw[r.inj r',ih t']
section
variable {X:Cx}{pins:List (ad×Obj)}{σ:St}{H:Hp}{s:aI}{a:ad}{xs ys:List V}
theorem SqL.of{K:Yx}(h:H a=some (.lst xs)):SqL K H a xs:=.inl (.inl h)
theorem SqT.of{K:Yx}(h:H a=some (.tup xs)):SqT K H a xs:=.inl (.inl h)
theorem Inv.list(I:Inv X pins σ H s)(h:SqL X.K H a xs):∃Y:List am,AF xs Y/\PlainL s.heap a Y.toArray/\xs.length<=bi:=by
 rcases h with h | ⟨o,Y,n,hk,J,W,O,hz,r⟩
 ·obtain⟨z,Y,n,r,e⟩:=h.ok I.hok;exact⟨Y,r,⟨_,n,e,Z,Z,Z⟩,z⟩
 ·refine⟨Y.toList,r,⟨o,n,I.kIn a o hk,J,W,by simpa using O⟩,?_⟩
  have e:=r.length;simp only[YJ]at e
  lia
theorem Inv.tuple(I:Inv X pins σ H s)(h:SqT X.K H a xs):∃Y:List am,AF xs Y/\IsTup s.heap a Y.toArray/\xs.length<=bi:=by
 rcases h with h | ⟨o,Y,n,hk,W,O,hz,r⟩
 ·obtain⟨z,Y,r,p⟩:=h.ok I.hok;exact⟨Y,r,p,z⟩
 ·refine⟨Y.toList,r,⟨o,I.kIn a o hk,W,n,by simpa using O⟩,?_⟩
  have e:=r.length;simp only[YJ]at e
  lia
theorem Inv.list_inj(I:Inv X pins σ H s)(h:SqL X.K H a xs)(h':SqL X.K H a ys):xs=ys:=by
 obtain⟨Y,r,⟨o,n,e,_,_,d⟩,_⟩:=I.list h;obtain⟨its',O,⟨o',J,W,_,_,d'⟩,_⟩:=I.list h';rw[e]at W;cases W;rw[d]at d'
 injection d' with d1 _
 have:Y=its':=by simpa using congrArg Array.toList d1
 subst this;exact r.inj O
theorem Inv.tuple_inj(I:Inv X pins σ H s)(h:SqT X.K H a xs)(h':SqT X.K H a ys):xs=ys:=by
 obtain⟨Y,r,⟨o,e,_,n,d⟩,_⟩:=I.tuple h;obtain⟨its',O,⟨o',W,_,J,d'⟩,_⟩:=I.tuple h';rw[e]at W;cases W;rw[d]at d'
 injection d' with d1 _
 have:Y=its':=by simpa using congrArg Array.toList d1
 subst this;exact r.inj O
end
abbrev Cx.wish(X:Cx)(E:am->aI->Prop):Cx:={ X with xe:=E }
abbrev Cx.nox(X:Cx):Cx:=X.wish fun _ _=>False
theorem Cx.Ok.wish{X:Cx}(Y:X.Ok)(E:am->aI->Prop):(X.wish E).Ok :=
 ⟨Y.mod,Y.kind,Y.glob,Y.blt,Y.above,Y.inj,Y.has,Y.cab,Y.hd,Y.frames,Y.stk,Y.exf,Y.bs,Y.bsz,Y.noex,Y.exfs,Y.funs,Y.frf⟩
theorem Cx.Ok.unwish{X:Cx}{E:am->aI->Prop}(Y:(X.wish E).Ok):X.Ok :=
 ⟨Y.mod,Y.kind,Y.glob,Y.blt,Y.above,Y.inj,Y.has,Y.cab,Y.hd,Y.frames,Y.stk,Y.exf,Y.bs,Y.bsz,Y.noex,Y.exfs,Y.funs,Y.frf⟩
section
variable {X:Cx}{pins:List (ad×Obj)}{σ:St}{H:Hp}{s:aI}{E:am->aI->Prop}
theorem Inv.wish(I:Inv X pins σ H s)(E:am->aI->Prop):Inv (X.wish E) pins σ H s:=⟨I.ok.wish E,I.os,I.bare,I.base,I.loc,I.cell,I.free,I.freeC,I.pin,I.hok,I.len⟩
theorem Inv.unwish(I:Inv (X.wish E) pins σ H s):Inv X pins σ H s:=⟨I.ok.unwish,I.os,I.bare,I.base,I.loc,I.cell,I.free,I.freeC,I.pin,I.hok,I.len⟩
theorem SP.unwish{D:DP}{f:Flow}{s':aI}(h:SP (X.wish E) pins D f s'):SP X pins D f s':=by
 cases f with
 | next=>obtain⟨Y,H',I,q⟩:=h;exact⟨Y,H',I.unwish,q⟩
 | brk=>obtain⟨Y,H',I,q⟩:=h;exact⟨Y,H',I.unwish,q⟩
 | cont=>obtain⟨Y,H',I,q⟩:=h;exact⟨Y,H',I.unwish,q⟩
 | ret u=>obtain⟨v,Y,H',I,r,q⟩:=h;exact⟨v,Y,H',I.unwish,r,q⟩
theorem PSs.nox{st:List eU}{t:TS}(h:PSs X.nox st t):PSs X st t:=fun pins s σ H D I hw =>
 dF (h pins s σ H D (I.wish _) hw) (fun _ _ q=>q.unwish) fun _ _ z=>False.elim z
end
section
variable {X:Cx}{st:eU}{CL:List eU}{t u:TS}{e:Expr}{te:TE}{pos:Pos}
def US:TS:=fun D σ H=>D.nx σ H
@[reducible] def DP.to(D:DP)(n:St->Hp->Prop):DP:={ D with nx:=n }
def UP(t u:TS):TS:=fun D σ H=>t (D.to (u D)) σ H
theorem Au:PSs X [] US:=fun _ _ σ H _ I h=>fw ⟨σ,H,I,h⟩
theorem Q9(h1:PS X st t)(h2:PSs X CL u):PSs X (st::CL) (UP t u):=by
 intro pins s σ H D I h;refine wpAny_execs_cons (thn (h1 pins s σ H { D with nx:=u D } I h) fun f O q=>?_)
 cases f with
 | next =>
   obtain⟨Y,H',W,q⟩:=q;exact h2 pins O Y H' D W q
 | ret v=>exact q
 | brk=>exact q
 | cont=>exact q
theorem Ae(h1:PS X st t):PSs X [st] t:=by
 intro pins s σ H D I h;refine wpAny_execs_cons (thn (h1 pins s σ H D I h) fun f Y q=>?_);cases f with
 | next=>exact fw q
 | ret v=>exact q
 | brk=>exact q
 | cont=>exact q
theorem Inv.quiet{pins:List (ad×Obj)}{σ:St}{H:Hp}{s:aI}(I:Inv X pins σ H s):interactive X.env=false:=by simp[interactive,I.ok.kind]
def SF(te:TE):TS:=fun D σ H=>te σ H fun _ H1=>D.nx σ H1
theorem Ca(W:PE X e te)(J:swapsWith e none pos.line X.env=pure false:=by rfl):PS X (.Expr e pos) (SF te):=by
 intro pins s σ H D I h;exact wpAny_Expr_any (thn (W pins s σ H _ I h) fun v s1 ⟨x,H1,Y,r1,O⟩=>⟨σ,H1,Y,O⟩) I.quiet J
def Vz(te:TE):TS:=fun D σ H=>te σ H D.rt
theorem Al(W:PE X e te):PS X (.Return (some e) pos) (Vz te):=by
 intro pins s σ H D I h;exact wpAny_Return_some (thn (W pins s σ H _ I h) fun v J ⟨x,H1,Y,r1,O⟩=>⟨x,σ,H1,Y,r1,O⟩)
def UU(c:TT)(t u:TS):TS:=fun D σ H=>c σ H fun b H1=>if b=true then t D σ H1 else u D σ H1
theorem V6{c:Expr}{a b:List eU}{tc:TT}(hc:PT X c tc)(ha:PSs X a t)(J:PSs X b u):PS X (.If c a b pos) (UU tc t u):=by
 intro pins s σ H D I h;refine wpAny_If (thn (hc pins s σ H _ I h) fun d O ⟨H1,Y,W⟩=>?_);cases d with
 | true=>exact ha pins O σ H1 D Y W
 | false=>exact J pins O σ H1 D Y W
def Tn:TS:=fun _ _ _=>False
theorem AU:PS X st Tn:=fun _ _ _ _ _ _ h=>h.elim
end
abbrev TG:=V->St->Hp->(St->Hp->Prop)->Prop
abbrev TGs:=List V->St->Hp->(St->Hp->Prop)->Prop
def PG(X:Cx)(target:Expr)(t:TG):Prop :=
 ∀ (pins:List (ad×Obj)) (s:aI) (σ:St) (H:Hp) (v:V) (u:am) (Q:St->Hp->Prop),Inv X pins σ H s->AJ v u->t v σ H Q ->
   bv (cr X.prog X.w) X.A (assign target X.env u) (fun _ s'=>∃σ' H',Inv X pins σ' H' s'/\Q σ' H') X.xe s
def PGs(X:Cx)(ts:List Expr)(t:TGs):Prop :=
 ∀ (pins:List (ad×Obj)) (s:aI) (σ:St) (H:Hp) (vs:List V) (us:List am) (Q:St->Hp->Prop),Inv X pins σ H s->AF vs us->t vs σ H Q ->
   bv (cr X.prog X.w) X.A (assignInOrder ((eZ ts X.env).map (·.2)) us) (fun _ s'=>∃σ' H',Inv X pins σ' H' s'/\Q σ' H') X.xe s
abbrev UH:=V->V->V->Hp->(Hp->Prop)->Prop
def Vr(X:Cx)(t:UH):Prop :=
 ∀ (pins:List (ad×Obj)) (s:aI) (σ:St) (H:Hp) (o i v:V) (ov iv u:am) (Q:Hp->Prop),Inv X pins σ H s->AJ o ov->AJ i iv->AJ v u->t o i v H Q ->
   bv (cr X.prog X.w) X.A (setItem ov iv u) (fun _ s'=>∃H',Inv X pins σ H' s'/\Q H') X.xe s
section
variable {X:Cx}{pos:Pos}
def CI(i:Nat):TG:=fun v σ H Q=>Q (σ.set i (some v)) H
theorem Ap{i:Nat}{x:Str}(J:X.N.Nodup)(hi:X.N[i]? = some x)(O:Loc X.env.scope x)(W:X.fn x=true\/X.env.scope.names.lookup x=some .local:=by first | exact .inl rfl | exact .inr rfl | assumption):PG X (.Name x pos) (CI i):=by
 intro pins s σ H v u Q I r h;exact wpAny_assign_Name (EW I J hi O r (fun s' Y=>⟨_,H,Y,h⟩) W)
def Si:TGs:=fun vs σ H Q=>vs=[]/\Q σ H
inductive Ie(t:TG)(u:TGs)(vs:List V)(σ:St)(H:Hp)(Q:(St->Hp->Prop)):Prop
 | mk (v:_) (r:_) (h1:vs=v::r) (h2:t v σ H fun σ' H'=>u r σ' H' Q):Ie t u vs σ H Q
theorem Eg:PGs X [] Si:=by
 intro pins s σ H vs us Q I r h;obtain⟨e,h⟩:=h;subst e;cases r;exact assignInOrder_nil ⟨σ,H,I,h⟩
theorem By{e:Expr}{es:List Expr}{t:TG}{u:TGs}(h1:PG X e t)(h2:PGs X es u)
 (hs:(eZ (e::es) X.env).map (·.2)=assign e X.env::(eZ es X.env).map (·.2):=by rfl):PGs X (e::es) (Ie t u):=by
 intro pins s σ H vs us Q I r h;obtain⟨v,vr,e1,h⟩:=h;subst e1;cases r with
 | cons r rr =>
   rw[hs];refine fI (thn (h1 pins s σ H _ _ _ I r h) fun _ J ⟨Y,H1,W,O⟩=>?_);exact h2 pins J Y H1 _ _ Q W rr O
inductive ON(K:Yx)(n:Nat)(t:TGs)(v:V)(σ:St)(H:Hp)(Q:(St->Hp->Prop)):Prop
 | mk (a:_) (xs:_) (h1:v = .ref a) (h2:SqT K H a xs) (h3:xs.length=n) (h4:t xs σ H Q):ON K n t v σ H Q
theorem TR{es:List Expr}{k:Nat}{t:TGs}{n:Nat}(hc:X.calm=true)(h:PGs X es t)
 (hn:(eZ es X.env).length=n:=by rfl) (Y:(eZ es X.env).findIdx? (·.1)=none:=by rfl):PG X (.Tuple es k pos) (ON X.K n t):=by
 intro pins s σ H v u Q I r hw;obtain⟨a,xs,e1,J,hl,hw⟩:=hw;subst e1;cases r;obtain⟨ab,W,ht,hz⟩:=I.tuple J;refine assign_Tuple_tuple (I.ok.hd hc) ht (by simp[hn,<- hl,W.length]) Y fun h' hx=>?_
 have O:Inv X pins σ H { s with heap:=h' }:=I.kept (t':=s.toks) fun b o e=>hx b o (Yt (Heap.lt_size e)) e
 exact h pins _ σ H xs _ Q O (by simpa using W) hw
def VM(to ti:TE)(t:UH):TG:=fun v σ H Q=>to σ H fun o H1=>ti σ H1 fun i H2=>t o i v H2 fun H3=>Q σ H3
theorem JL{o i:Expr}{to O:TE}{t:UH}(ho:PE X o to)(hi:PE X i O)(hs:Vr X t)
 (ha:∀v,assign (.Subscript o i pos) X.env v=(do
  let Y <- holding [v] (dE o X.env)
  let W <- holding [v,Y] (dE i X.env)
  standAt pos
  holding [v,Y,W] (setItem Y W v)
  release [v,Y,W] []):=by intro _;rfl):PG X (.Subscript o i pos) (VM to O t):=by
 intro pins s σ H v u Q I r h;rw[ha];refine ac (dz (thn (ho pins s σ H _ I h) fun Y s1 ⟨x,H1,J,r1,q1⟩=>?_));refine ac (dz (thn (hi pins s1 σ H1 _ J q1) fun W s2 ⟨y,H2,I2,r2,q2⟩=>?_));refine ac (eV (ac (dz (thn (hs pins s2 σ H2 x y v Y W u _ I2 r1 r2 r q2) fun _ s3 ⟨H3,I3,q3⟩=>?_))));exact wpAny_release ⟨σ,H3,I3,q3⟩
def Tq(te:TE)(g:TG):TS:=fun D σ H=>te σ H fun x H1=>g x σ H1 D.nx
theorem JK{tg e:Expr}{te:TE}{g:TG}(W:PE X e te)(hg:PG X tg g)(hs:swapsWithSole [tg] e pos.line X.env=pure false:=by rfl)(hw:swappedStores [tg] e X.env=pure none:=by rfl)
 (h1:(eZ [tg] X.env).map (·.2)=[assign tg X.env]:=by rfl):PS X (.Assign [tg] e pos) (Tq te g):=by
 intro pins s σ H D I h;refine wpAny_Assign_stores (thn (W pins s σ H _ I h) fun v J ⟨x,H1,Y,r1,O⟩=>?_) hs hw;rw[h1];exact thn (hg pins J σ H1 x v _ Y r1 O) fun _ s2 q=>q
theorem Ai{i:Nat}{x:Str}{e:Expr}{te:TE}{pos':Pos}(O:X.N.Nodup)(hi:X.N[i]? = some x)(hx:Loc X.env.scope x)(W:PE X e te)(hs:swapsWith e (some (.Name x pos')) pos.line X.env=pure false:=by rfl)(hf:X.fn x=true\/X.env.scope.names.lookup x=some .local:=by first | exact .inl rfl | exact .inr rfl | assumption) :
 PS X (.Assign [.Name x pos'] e pos) (Tq te (CI i)):=by
 intro pins s σ H D I h;refine wpAny_Assign_Name (thn (W pins s σ H _ I h) fun v s1 ⟨y,H1,Y,r1,J⟩=>?_) hs;exact EW Y O hi hx r1 (fun s2 I2=>⟨_,H1,I2,J⟩) hf
def VA(i j:Nat)(ta:TA):TS:=fun D σ H=>ta σ H fun vs H1=>∃v w,vs=[v,w]/\D.nx ((σ.set i (some v)).set j (some w)) H1
theorem TH{i j:Nat}{x y:Str}{a b:Expr}{ta:TA}{px py pt:Pos}{kt k2 pt2}(hc:X.calm=true)(hN:X.N.Nodup)(hi:X.N[i]? = some x)(hj:X.N[j]? = some y)(ab:i≠j)
 (hx:X.env.scope.names.lookup x=some .local) (hy:X.env.scope.names.lookup y=some .local) (ha:PA X [a,b] ta)
 (hw:swappedStores [.Tuple [.Name x px,.Name y py] kt pt] (.Tuple [a,b] k2 pt2) X.env=pure (some [x,y]))
 (hs:swapsWithSole [.Tuple [.Name x px,.Name y py] kt pt] (.Tuple [a,b] k2 pt2) pos.line X.env=pure false:=by rfl) :
 PS X (.Assign [.Tuple [.Name x px,.Name y py] kt pt] (.Tuple [a,b] k2 pt2) pos) (VA i j ta):=by
 intro pins s σ H D I h;rw[exec_Assign_arm];refine ac (eV ?_);rw[hs];refine ac (aQ ?_);rw[if_neg (by decide)]
 refine ac (Tuple_ (thn (ha _ pins s σ H _ I h) fun us Y ⟨vs,H1,I1,r1,q1⟩=>?_));obtain⟨v,w,e1,q1⟩:=q1;subst e1
 obtain⟨O,W,rfl,rv,ak⟩:∃O W,us=[O,W]/\AJ v O/\AJ w W:=by
  cases r1 with
  | cons p q =>
    cases q with
    | cons p' q' =>
      cases q';exact⟨_,_,Z,p,p'⟩
 refine dO ?_ (by show 2<=bi;decide)
 have I2:Inv X pins σ H1 { Y with heap:=Y.heap.push { cls:=.type "tuple",data:=.seq [O,W].toArray } }:=I1.kept (t':=Y.toks) fun b o e=>Heap.get?_push_of_some _ e
 rw[hw];refine ac (aQ ?_);show bv (cr X.prog X.w) X.A (do rule "assign.swapped-stores";let items <- unpackItems (.ref Y.heap.objs.size) 2 none;assignInOrder [fun v=>bindName X.env y v,fun v=>bindName X.env x v] items.reverse;pure Flow.next) _ _ _
 refine ac (fj (ac (unpackItems_tuple (items:=#[O,W]) (I.ok.hd hc) (IsTup.new Y.heap _) fun h' J=>?_)));have I3:=I2.kept (h':=h') (t':=Y.toks) fun b o e=>J b o (Yt (Heap.lt_size e)) e;show bv _ _ (assignInOrder [fun v=>bindName X.env y v,fun v=>bindName X.env x v] [W,O] >>= fun _=>pure Flow.next) _ _ _;refine ac (fI (wpAny_bindName (EW I3 hN hj (.inl hy) ak (fun s2 I4=>?_) (.inr hy))));refine fI (wpAny_bindName (EW I4 hN hi (.inl hx) rv (fun s3 I5=>assignInOrder_nil (aQ ?_)) (.inr hx)));rw[List.set_comm _ _ (Ne.symm ab)]at I5;exact⟨_,H1,I5,q1⟩
end
section
variable {X:Cx}{pos:Pos}
def M6(c:TT)(tb:TS):TS:=fun D σ H=>∃W:Nat->St->Hp->Prop,(∃m,W m σ H)/\∀m σ H,W m σ H ->
 c σ H fun b H1=>if b=true then ∃N:St->Hp->Prop,(∀σ' H',N σ' H'->∃m',m'<m/\W m' σ' H')/\tb { D with nx:=N,ct:=N,bk:=D.nx } σ H1 else D.nx σ H1
theorem E3{c:Expr}{body:List eU}{tc:TT}{tb:TS}(hp:PassesOwn (cr X.prog X.w) X.A X.env X.xe)(hc:PT X c tc)(hb:PSs X body tb):PS X (.While c body [] pos) (M6 tc tb):=by
 intro pins s σ H D I h;obtain⟨W,⟨m0,w0⟩,J⟩:=h;refine wpAny_While (codeAny_whileLoop (fun n s'=>∃ab H',Inv X pins ab H' s'/\W n ab H') ?_ m0 ⟨σ,H,I,w0⟩);rintro n s1 ⟨O,H1,I1,w1⟩;refine dX hp (thn (hc pins s1 O H1 _ I1 (J n O H1 w1)) fun b s2 ⟨H2,I2,q2⟩=>?_);cases b with
 | true =>
   obtain⟨N,hN,q2⟩:=q2;rw[if_pos rfl];refine dX hp (thn (hb pins s2 O H2 _ I2 q2) fun f s3 q3=>?_);cases f with
   | next =>
     obtain⟨Y,H3,I3,n3⟩:=q3;obtain⟨m',hm,w3⟩:=hN Y H3 n3;exact⟨m',hm,Y,H3,I3,w3⟩
   | cont =>
     obtain⟨Y,H3,I3,n3⟩:=q3;obtain⟨m',hm,w3⟩:=hN Y H3 n3;exact⟨m',hm,Y,H3,I3,w3⟩
   | brk=>exact q3
   | ret v=>exact q3
 | false =>
   rw[if_neg Bool.false_ne_true];exact fw ⟨O,H2,I2,q2⟩
end
structure It where
 go:Nat->Hp->Prop
 yld:Nat->Hp->V->Hp->Prop
 stop:Nat->Hp->Prop
def DR(X:Cx)(pins:List (ad×Obj))(H:Hp)(b:ad):Prop :=
 H b=none/\b≠X.env.locals/\b∉X.fs/\(b∈X.ex\/X.s₀.heap.objs.size<=b)/\(∀x c,X.env.cells.lookup x=some c->c≠b)/\∀p∈X.pn++pins,p.1≠b
theorem Inv.fpOk{X:Cx}{pins:List (ad×Obj)}{σ:St}{H H':Hp}{s:aI}{b:ad}(I:Inv X pins σ H s)(Y:s.heap.objs.size<=b)(O:H' b=none):DR X pins H' b:=by
 refine⟨O,YK (Yr I.lt Y),I.nofs Y,.inr (Yy I.sz Y),fun x c e z=>?_,fun p W z=>?_⟩
 ·obtain⟨v,q⟩:=I.cell x c e;exact absurd (Yr q.lt (by rw[z];exact Y)) (Ys _)
 ·exact absurd (Yr (Heap.lt_size (I.pin p W).1) (by rw[z];exact Y)) (Ys _)
structure IP(P:ce)(w:db)(K:Yx)(tg:Expr)(J:It)(fp:List ad)(it:ad)(tn:Nat->dw->Prop):Prop where
 mem:it∈fp
 obj:∀i h,tn i h->∀b∈fp,∃o,h.get? b=some o/\∀v,o.data ≠ .cell v
 keep:∀i h h',tn i h->(∀b∈fp,∀o,h.get? b=some o->h'.get? b=some o)->tn i h'
 item:∀(X:Cx),X.prog=P->X.w=w->X.K=K->X.calm=true->∀(i:Nat) (pins:List (ad×Obj)) (s:aI) (σ:St) (H:Hp) (E:am->aI->Prop),Inv X pins σ H s->(∀b∈fp,DR X pins H b)->tn i s.heap->J.go i H ->
  bv (cr P w) X.A (ff (.ref it)) (fun r s1=>∃u,r=some u /\
   bv (cr P w) X.A (fz tg (.ref it) u) (fun _ s2=>∃x H',Inv X pins σ H' s2/\AJ x u/\J.yld i H x H'/\tn (i+1) s2.heap/\∀b∈fp,H' b=none) E s1) E s
 done:∀(X:Cx),X.prog=P->X.w=w->X.K=K->X.calm=true->∀(i:Nat) (pins:List (ad×Obj)) (s:aI) (σ:St) (H:Hp) (E:am->aI->Prop),Inv X pins σ H s->(∀b∈fp,DR X pins H b)->tn i s.heap->J.stop i H ->
  bv (cr P w) X.A (ff (.ref it)) (fun r s1=>r=none/\Inv X pins σ H s1) E s
 self:∀(A:dl) (i:Nat) (s:aI) (Q:am->aI->Prop) (E:am->aI->Prop),tn i s.heap->Q (.ref it) s->bv (cr P w) A (pyIter (.ref it)) Q E s
abbrev TI:=St->Hp->(It->Hp->Prop)->Prop
def PIE(X:Cx)(pins:List (ad×Obj))(σ:St)(tg:Expr)(R:It->Hp->Prop)(itv:am)(s2:aI):Prop :=
 ∃(it:ad) (fp:List ad) (tn:Nat->dw->Prop) (J:It) (H':Hp),itv = .ref it/\Inv X pins σ H' s2/\IP X.prog X.w X.K tg J fp it tn/\tn 0 s2.heap/\(∀b∈fp,DR X pins H' b)/\R J H'
def PI(X:Cx)(tg iter:Expr)(wi:TI):Prop :=
 ∀ (pins:List (ad×Obj)) (s:aI) (σ:St) (H:Hp) (R:It->Hp->Prop),Inv X pins σ H s->wi σ H R ->
   bv (cr X.prog X.w) X.A (dE iter X.env) (fun v s1=>bv (cr X.prog X.w) X.A (pyIter v) (PIE X pins σ tg R) X.xe s1) X.xe s
theorem J7{M:Model}{A:dl}{E:am->aI->Prop}{s:aI}{tg:Expr}{it:ad}{u:am}{o:Obj}{n:String}{vs:Array am}{Q:Unit->aI->Prop}(O:s.heap.get? it=some o)(hc:o.cls = .type n)(J:o.data = .fields vs)
 (W:["enumerate","zip","dict_itemiterator","dict_reverseitemiterator","odict_iterator","itertools.zip_longest","itertools.pairwise"].contains n=false) (Y:Q () s):bv M A (fz tg (.ref it) u) Q E s:=by
 unfold fz
 cases tg<;>first
  | exact aQ Y
  | (cases u<;>first
   | exact aQ Y
   | (refine ac (wpAny_load O ?_)
      rw[hc,J];show bv M A (if (["enumerate","zip","dict_itemiterator","dict_reverseitemiterator","odict_iterator","itertools.zip_longest","itertools.pairwise"].contains n&&vs[0]? == some (dW _))=true then _ else _) Q E s;rw[if_neg (by intro h;rw[W,Bool.false_and]at h;cases h)]
      exact aQ Y))
def Itl(K:Yx)(a:ad):It :=
 ⟨fun i H=>∃xs x,SqL K H a xs/\xs[i]? = some x,fun i H x H'=>H'=H/\∀xs,SqL K H a xs->xs[i]? = some x,fun i H=>∃xs,SqL K H a xs/\xs.length<=i⟩
def Itt(K:Yx)(a:ad):It :=
 ⟨fun i H=>∃xs x,SqT K H a xs/\xs[i]? = some x,fun i H x H'=>H'=H/\∀xs,SqT K H a xs->xs[i]? = some x,fun i H=>∃xs,SqT K H a xs/\xs.length<=i⟩
def Itr(lo:Int)(n:Nat):It:=⟨fun i _=>i<n,fun i H x H'=>H'=H/\x = .int (lo+i),fun i _=>n<=i⟩
theorem O9{P:ce}{w:db}{K:Yx}{tg:Expr}(a it:ad):IP P w K tg (Itl K a) [it] it (fun i h=>h.IsListIter it a i) where
 mem:=by simp
 obj:=fun i h st b Y=>by
  have e:b=it:=by simpa using Y
  subst e;obtain⟨o,e,c,d⟩:=st;exact⟨o,e,fun v z=>by rw[d]at z;cases z⟩
 keep:=fun i h h' st k=>st.at fun o e=>k it (by simp) o e
 item:=by
  intro X hP hw hK hc i pins s σ H E I O st hg;subst hP hw hK;obtain⟨xs,x,J,hx⟩:=hg;obtain⟨ab,rv,p,hz⟩:=I.list J;obtain⟨u,hu,ru⟩:=rv.get hx;obtain⟨f0,f1,f2,f3,f4,f5⟩:=O it (by simp)
  refine wpAny_pyNext_list_item st p.isList (x:=u) (by simpa using hu) fun h' W sb=>?_
  have I1:Inv X pins σ H { s with heap:=h' }:=I.turned (t':=s.toks) (fun b o Y e=>(sb.2 b Y).trans e) f0 f1 f3 f4 f5
  obtain⟨o,e,c,d⟩:=id W;exact⟨u,Z,J7 (s:={ s with heap:=h' }) e c d (by decide) ⟨x,H,I1,ru,⟨rfl,fun ys hy=>by rw[I.list_inj hy J];exact hx⟩,W,fun b Y=>(O b Y).1⟩⟩
 done:=by
  intro X hP hw hK hc i pins s σ H E I O st hg;subst hP hw hK;obtain⟨xs,J,hx⟩:=hg;obtain⟨ab,rv,p,hz⟩:=I.list J;obtain⟨f0,f1,f2,f3,f4,f5⟩:=O it (by simp)
  have hl:=rv.length;exact wpAny_pyNext_list_end (I.ok.hd hc) st p.isList (by simp;lia) fun h' eb=>⟨Z,I.turned (t':=s.toks) (fun b o Y e=>eb b o Y e) f0 f1 f3 f4 f5⟩
 self:=fun _ _ _ _ _ st h=>wpAny_pyIter_listiter st h
theorem M0{P:ce}{w:db}{K:Yx}{tg:Expr}(a it:ad):IP P w K tg (Itt K a) [it] it (fun i h=>h.IsTupleIter it a i) where
 mem:=by simp
 obj:=fun i h st b Y=>by
  have e:b=it:=by simpa using Y
  subst e;obtain⟨o,e,c,d⟩:=st;exact⟨o,e,fun v z=>by rw[d]at z;cases z⟩
 keep:=fun i h h' st k=>st.at fun o e=>k it (by simp) o e
 item:=by
  intro X hP hw hK hc i pins s σ H E I J st hg;subst hP hw hK;obtain⟨xs,x,hq,hx⟩:=hg;obtain⟨W,rv,p,hz⟩:=I.tuple hq;obtain⟨u,hu,ru⟩:=rv.get hx;obtain⟨f0,f1,f2,f3,f4,f5⟩:=J it (by simp)
  refine wpAny_pyNext_tuple_item st (show s.heap.IsTuple a W.toArray from p) (x:=u) (by simpa using hu) fun h' O sb=>?_
  have I1:Inv X pins σ H { s with heap:=h' }:=I.turned (t':=s.toks) (fun b o Y e=>(sb.2 b Y).trans e) f0 f1 f3 f4 f5
  obtain⟨o,e,c,d⟩:=id O;exact⟨u,Z,J7 (s:={ s with heap:=h' }) e c d (by decide) ⟨x,H,I1,ru,⟨rfl,fun ys hy=>by rw[I.tuple_inj hy hq];exact hx⟩,O,fun b Y=>(J b Y).1⟩⟩
 done:=by
  intro X hP hw hK hc i pins s σ H E I J st hg;subst hP hw hK;obtain⟨xs,hq,hx⟩:=hg;obtain⟨W,rv,p,hz⟩:=I.tuple hq;obtain⟨f0,f1,f2,f3,f4,f5⟩:=J it (by simp)
  have hl:=rv.length;exact wpAny_pyNext_tuple_end (I.ok.hd hc) st (show s.heap.IsTuple a W.toArray from p) (by simp;lia) fun h' eb=>⟨Z,I.turned (t':=s.toks) (fun b o Y e=>eb b o Y e) f0 f1 f3 f4 f5⟩
 self:=fun _ _ _ _ _ st h=>wpAny_pyIter_tupleiter st h
theorem M3{P:ce}{w:db}{K:Yx}{tg:Expr}(it:ad)(lo:Int)(n:Nat):IP P w K tg (Itr lo n) [it] it (fun i h=>IsRangeIter h it (lo+(i:Nat)*1) ((n:Int)-(i:Nat)) 1) where
 mem:=by simp
 obj:=fun i h st b Y=>by
  have e:b=it:=by simpa using Y
  subst e
  exact⟨_,st,fun v z=>by
   have z':Data.fields _=Data.cell v:=z;cases z'⟩
 keep:=fun i h h' st k=>k it (by simp) _ st
 item:=by
  intro X hP hw hK hc i pins s σ H E I J st hg;subst hP hw hK;obtain⟨f0,f1,f2,f3,f4,f5⟩:=J it (by simp)
  have W:=Walks.range (prog:=X.prog) (w:=X.w) (I.ok.hd hc) it lo 1 n;refine W.item i s _ _ hg st fun v h' tk hv O kk=>?_;obtain⟨t,rfl⟩:=hv;have I1:Inv X pins σ H { s with heap:=h',toks:=tk }:=I.turned (fun b o Y e=>kk b o (by simpa using Y) e) f0 f1 f3 f4 f5
  refine⟨_,Z,J7 (s:={ s with heap:=h',toks:=tk }) (n:="range_iterator") O rfl rfl (by decide) ⟨.int (lo+i),H,I1,⟨t,?_⟩,⟨rfl,rfl⟩,O,fun b Y=>(J b Y).1⟩⟩
  rw[Int.mul_one]
 done:=by
  intro X hP hw hK hc i pins s σ H E I J st hg;subst hP hw hK;obtain⟨f0,f1,f2,f3,f4,f5⟩:=J it (by simp)
  exact wpAny_pyNext_range_end (I.ok.hd hc) st (by have:n<=i:=hg;lia) fun h' eb=>⟨Z,I.turned (t':=s.toks) (fun b o Y e=>eb b o Y e) f0 f1 f3 f4 f5⟩
 self:=fun _ _ _ _ _ st h=>wpAny_pyIter_rangeiter st h
section
variable {X:Cx}{tg:Expr}
def QH(K:Yx)(tl:TE):TI:=fun σ H R=>tl σ H fun x H1=>∃a,x = .ref a/\(∃xs,SqL K H1 a xs)/\R (Itl K a) H1
def Ut(K:Yx)(tl:TE):TI:=fun σ H R=>tl σ H fun x H1=>∃a,x = .ref a/\(∃xs,SqT K H1 a xs)/\R (Itt K a) H1
theorem Nx{l:Expr}{tl:TE}(hl:PE X l tl):PI X tg l (QH X.K tl):=by
 intro pins s σ H R I h;refine thn (hl pins s σ H _ I h) fun v W ⟨x,H1,Y,r1,q1⟩=>?_;obtain⟨a,e,⟨xs,O⟩,q⟩:=q1;subst e;cases r1;obtain⟨ab,rv,p,hz⟩:=Y.list O;refine eJ p.isList ?_;refine⟨W.heap.objs.size,[W.heap.objs.size],_,_,H1,Z,Y.kept (t':=W.toks) fun b o e=>Heap.get?_push_of_some _ e,O9 a _,⟨_,Heap.get?_push_size _ rfl,Z,Z⟩,fun b J=>?_,q⟩;have e:b=W.heap.objs.size:=by simpa using J
 subst e;exact Y.fpOk (YL _) (Y.hok.fresh (YL _))
theorem Qa{l:Expr}{tl:TE}(hl:PE X l tl):PI X tg l (Ut X.K tl):=by
 intro pins s σ H R I h;refine thn (hl pins s σ H _ I h) fun v Y ⟨x,H1,W,r1,q1⟩=>?_;obtain⟨a,e,⟨xs,J⟩,q⟩:=q1;subst e;cases r1;obtain⟨O,rv,p,hz⟩:=W.tuple J;refine wpAny_pyIter_tuple (show Y.heap.IsTuple a O.toArray from p) ?_;refine⟨Y.heap.objs.size,[Y.heap.objs.size],_,_,H1,Z,W.kept (t':=Y.toks) fun b o e=>Heap.get?_push_of_some _ e,M0 a _,⟨_,Heap.get?_push_size _ rfl,Z,Z⟩,fun b hb=>?_,q⟩;have e:b=Y.heap.objs.size:=by simpa using hb
 subst e;exact W.fpOk (YL _) (W.hok.fresh (YL _))
theorem KL{pins:List (ad×Obj)}{σ:St}{H:Hp}{s:aI}{R:It->Hp->Prop}{E:am->aI->Prop}{lo hi:Int}{t u v:Tok}{tk:Nat}(I:Inv X pins σ H s)(h1 : -(2 ^ 62)<=lo)(h2:lo<2 ^ 62)(h3 : -(2 ^ 62)<=hi)(J:hi<2 ^ 62)
 (q:R (Itr lo (hi-lo).toNat) H):bv (cr X.prog X.w) X.A (pyIter (.ref s.heap.objs.size)) (PIE X pins σ tg R) E { s with heap:=s.heap.push { cls:=.type "range",data:=.fields #[.int lo t,.int hi u,.int 1 v] },toks:=tk }:=by
 refine wpAny_pyIter_range (IsRange.new ..) (small_one h1 h2 h3 J) ?_;have Y:Inv X pins σ H { s with heap:=s.heap.push { cls:=.type "range",data:=.fields #[.int lo t,.int hi u,.int 1 v] },toks:=tk }:=I.kept fun b o e=>Heap.get?_push_of_some _ e
 refine⟨(s.heap.push { cls:=.type "range",data:=.fields #[.int lo t,.int hi u,.int 1 v] }).objs.size,[(s.heap.push { cls:=.type "range",data:=.fields #[.int lo t,.int hi u,.int 1 v] }).objs.size],_,_,H,Z,
  Y.kept (t':=tk) fun b o e=>Heap.get?_push_of_some _ e,M3 _ lo (hi-lo).toNat,?_,fun b W=>?_,q⟩
 ·have e1:lo+((0:Nat):Int)*1=lo:=by simp
  have O:(((hi-lo).toNat:Nat):Int)-((0:Nat):Int)=Builtin.Range.rangeSize lo hi 1:=by rw[rangeSize_one];split<;>lia
  show IsRangeIter _ _ (lo+((0:Nat):Int)*1) ((((hi-lo).toNat:Nat):Int)-((0:Nat):Int)) 1;rw[e1,O];exact Heap.get?_push_size _ rfl
 ·have e:b=(s.heap.push { cls:=.type "range",data:=.fields #[.int lo t,.int hi u,.int 1 v] }).objs.size:=by simpa using W
  subst e;exact Y.fpOk (YL _) (Y.hok.fresh (YL _))
def Ve(ta:TA):TI:=fun σ H R=>ta σ H fun vs H1=>∃j:Int,vs=[.int j] /\ -(2 ^ 62)<=j/\j<2 ^ 62/\R (Itr 0 j.toNat) H1
def Vd(ta:TA):TI:=fun σ H R=>ta σ H fun vs H1=>∃i j:Int,vs=[.int i,.int j]/\(-(2 ^ 62)<=i/\i<2 ^ 62 /\ -(2 ^ 62)<=j/\j<2 ^ 62)/\R (Itr i (j-i).toNat) H1
theorem Cf{a:Expr}{ta:TA}{p pos:Pos}(hg:Gl X "range")(hm:X.mg "range" = none)(ha:PA X [a] ta)(J:cQ [a] X.env=[(false,dE a X.env)]:=by rfl):PI X tg (.Call (.Name "range" p) [a] [] pos) (Ve ta):=by
 intro pins s σ H R I h;refine Call_ (CG I hg hm boot_range (PyProof.Rows.callWith_type1 (thn (ha pos pins s σ H _ I h) fun us s1 ⟨vs,H1,W,r1,Y⟩=>?_) J rfl));obtain⟨j,e,Y,O,q⟩:=Y;subst e;cases r1 with
 | cons r rr =>
   cases rr;obtain⟨t,rfl⟩:=r;exact call_range_1 (KL W (by lia) (by lia) Y O (by simpa using q))
theorem Oj{a b:Expr}{ta:TA}{p pos:Pos}(hg:Gl X "range")(hm:X.mg "range" = none)(ha:PA X [a,b] ta)(hs:cQ [a,b] X.env=[(false,dE a X.env),(false,dE b X.env)]:=by rfl)(Y:cQ [b] X.env=[(false,dE b X.env)]:=by rfl) :
 PI X tg (.Call (.Name "range" p) [a,b] [] pos) (Vd ta):=by
 intro pins s σ H R I h;refine Call_ (CG I hg hm boot_range (PyProof.Rows.callWith_type1 (thn (ha pos pins s σ H _ I h) fun us s1 ⟨vs,H1,O,r1,W⟩=>?_) (by rw[hs,Y]) (by rw[Y];rfl)))
 obtain⟨i,j,e,⟨W,q2,q3,J⟩,q⟩:=W;subst e;cases r1 with
 | cons r rr =>
   cases rr with
   | cons r' rr =>
     cases rr;obtain⟨t,rfl⟩:=r;obtain⟨t',rfl⟩:=r';exact call_range_2 (KL O W q2 q3 J q)
def To(wi:TI)(g:TG)(tb:TS):TS:=fun D σ H=>wi σ H fun J H1=>∃W:Nat->Nat->St->Hp->Prop,(∃m,W 0 m σ H1)/\∀i m σ H,W i m σ H ->
 (J.stop i H/\D.nx σ H)\/(J.go i H/\∃N:St->Hp->Prop,(∀σ' H',N σ' H'->∃m',m'<m/\W (i+1) m' σ' H')/\∀x H',J.yld i H x H'->g x σ H' fun σ2 H2=>tb { D with nx:=N,ct:=N,bk:=D.nx } σ2 H2)
def HH(fp:List ad)(h:dw):List (ad×Obj):=fp.filterMap fun b=>(h.get? b).map fun o=>(b,o)
theorem DG{fp:List ad}{h:dw}{b:ad}{o:Obj}(Y:b∈fp)(e:h.get? b=some o):(b,o)∈HH fp h:=List.mem_filterMap.mpr ⟨b,Y,by rw[e];rfl⟩
theorem Ow{fp:List ad}{h:dw}{p:ad×Obj}(W:p∈HH fp h):p.1∈fp/\h.get? p.1=some p.2:=by
 obtain⟨b,O,e⟩:=List.mem_filterMap.mp W;cases q:h.get? b with
 | none=>rw[q]at e;cases e
 | some o =>
   rw[q]at e;have Y:(b,o)=p:=Yo.inj e;subst Y;exact⟨O,q⟩
theorem Inv.pinned{pins:List (ad×Obj)}{σ:St}{H:Hp}{s:aI}{fp:List ad}(I:Inv X pins σ H s)(hf:∀b∈fp,DR X pins H b)(ho:∀b∈fp,∃o,s.heap.get? b=some o/\∀v,o.data ≠ .cell v):Inv X (pins++HH fp s.heap) σ H s :=
 I.pins_of fun p hp=>(YE.mp hp).elim (fun z=>I.pin p (YM _ z)) fun z=>by
  obtain⟨Y,e⟩:=Ow z;obtain⟨f0,O,J,_⟩:=hf p.1 Y;obtain⟨o,W,d⟩:=ho p.1 Y;rw[e]at W;cases W;exact⟨e,f0,O,J,d⟩
theorem Inv.unpinned{pins pl:List (ad×Obj)}{σ:St}{H:Hp}{s:aI}(I:Inv X (pins++pl) σ H s):Inv X pins σ H s:=I.pins_of fun p Y=>I.pin p (YM _ (YF _ Y))
theorem TJ{iter:Expr}{body:List eU}{wi:TI}{g:TG}{tb:TS}{pos:Pos}(hp:PassesOwn (cr X.prog X.w) X.A X.env X.xe)(hc:X.calm=true)(hi:PI X tg iter wi)(hg:PG X tg g)(hb:PSs X body tb)
 (hs:∀x,fh iter X.env x=pure x:=by intro _;rfl):PS X (.For tg iter body [] pos) (To wi g tb):=by
 intro pins s σ H D I h;refine wpAny_For (thn (hi pins s σ H _ I h) fun v s1 h1=>thn h1 fun bc s2 h2=>?_) hs;obtain⟨it,fp,tn,J,H2,e,I2,T,bb,f2,W,⟨m0,w0⟩,ap⟩:=h2;subst e
 -- what stays true of the iterator's objects through the loop
 have ak:∀{H':Hp},(∀b∈fp,H' b=none)->∀b∈fp,DR X pins H' b:=fun hn b hb=>⟨hn b hb,(f2 b hb).2⟩;refine codeAny_forLoop_any (fun n s'=>∃i al H',Inv X pins al H' s'/\tn i s'.heap/\(∀b∈fp,H' b=none)/\W i n al H') ?_ m0 ⟨0,σ,H2,I2,bb,fun b hb=>(f2 b hb).1,w0⟩;rintro n s3 ⟨i,O,H3,I3,aC,as,w3⟩
 rcases ap i n O H3 w3 with ⟨aF,qn⟩ | ⟨go,N,hN,step⟩
 ·refine dX hp (thn (T.done X rfl rfl rfl hc i pins s3 O H3 X.xe I3 (ak as) aC aF) fun r s4 ⟨hr,I4⟩=>?_);subst hr;exact fw ⟨O,H3,I4,qn⟩
 ·refine dX hp (thn (T.item X rfl rfl rfl hc i pins s3 O H3 X.xe I3 (ak as) aC go) fun r s4 ⟨u,hr,h4⟩=>?_);subst hr;refine dX hp (thn h4 fun _ s5 ⟨x,H5,I5,r5,y5,an,aP⟩=>?_);have a0:=I5.pinned (ak aP) (T.obj _ _ an);refine dX hp (thn (hg _ s5 O H5 x u _ a0 r5 (step x H5 y5)) fun _ s6 ⟨ba,H6,I6,q6⟩=>?_);refine dX hp (thn (hb _ s6 ba H6 _ I6 q6) fun f s7 q7=>?_)
  have ab:∀{Y:St} {H7:Hp},Inv X (pins++HH fp s5.heap) Y H7 s7->N Y H7->∃m,m<n/\∃i al H',Inv X pins al H' s7/\tn i s7.heap/\(∀b∈fp,H' b=none)/\W i m al H':=fun{Y H7} I7 n7=>by
   obtain⟨m',hm,w7⟩:=hN Y H7 n7;refine⟨m',hm,i+1,Y,H7,I7.unpinned,T.keep _ _ _ an fun b hb o e=>(I7.pin (b,o) (YM _ (YM _ (DG hb e)))).1,fun b hb=>?_,w7⟩;obtain⟨o,e,d⟩:=T.obj _ _ an b hb;exact(I7.pin (b,o) (YM _ (YM _ (DG hb e)))).2.1
  cases f with
  | next=>obtain⟨Y,H7,I7,n7⟩:=q7;exact ab I7 n7
  | cont=>obtain⟨Y,H7,I7,n7⟩:=q7;exact ab I7 n7
  | brk=>obtain⟨Y,H7,I7,q7⟩:=q7;exact⟨Y,H7,I7.unpinned,q7⟩
  | ret v=>obtain⟨x7,Y,H7,I7,r7,q7⟩:=q7;exact⟨x7,Y,H7,I7.unpinned,r7,q7⟩
end
theorem Dr{K:Yx}{a:ad}{xs:List V}{g:TG}{tb:TS}{D:DP}{σ:St}{H:Hp}(Y:Nat->St->Hp->Prop)(h0:Y 0 σ H)(hl:∀i σ H,i<=xs.length->Y i σ H->SqL K H a xs)
 (hs:∀i x σ H,xs[i]? = some x->Y i σ H->g x σ H fun J H2=>tb { D with nx:=Y (i+1),ct:=Y (i+1),bk:=D.nx } J H2) (hd:∀σ H,Y xs.length σ H->D.nx σ H) :
 ∃ W:Nat->Nat->St->Hp->Prop,(∃m,W 0 m σ H)/\∀i m σ H,W i m σ H ->
   ((Itl K a).stop i H/\D.nx σ H)\/((Itl K a).go i H/\∃N:St->Hp->Prop,(∀O H',N O H'->∃m',m'<m/\W (i+1) m' O H')/\∀x H',(Itl K a).yld i H x H'->g x σ H' fun J H2=>tb { D with nx:=N,ct:=N,bk:=D.nx } J H2):=by
 refine⟨fun i m σ H=>m=xs.length-i/\i<=xs.length/\Y i σ H,⟨xs.length,by simp,YN _,h0⟩,?_⟩
 rintro i m σ H ⟨rfl,hi,p⟩;have q:=hl i σ H hi p;by_cases hlt:i<xs.length
 ·refine .inr ⟨⟨xs,xs[i],q,by simp[hlt]⟩,Y (i+1),fun O H' p'=>⟨xs.length-(i+1),by lia,Z,hlt,p'⟩,fun x H' y=>?_⟩
  obtain⟨e,y⟩:=y;subst e;exact hs i x σ _ (y xs q) p
 ·have e:i=xs.length:=by lia
  subst e;exact .inl ⟨⟨xs,q,YL _⟩,hd σ H p⟩
theorem FD{K:Yx}{a:ad}{xs:List V}{g:TG}{tb:TS}{D:DP}{σ:St}{H:Hp}(Y:Nat->St->Hp->Prop)(h0:Y 0 σ H)(hl:∀i σ H,i<=xs.length->Y i σ H->SqT K H a xs)
 (hs:∀i x σ H,xs[i]? = some x->Y i σ H->g x σ H fun J H2=>tb { D with nx:=Y (i+1),ct:=Y (i+1),bk:=D.nx } J H2) (hd:∀σ H,Y xs.length σ H->D.nx σ H) :
 ∃ W:Nat->Nat->St->Hp->Prop,(∃m,W 0 m σ H)/\∀i m σ H,W i m σ H ->
   ((Itt K a).stop i H/\D.nx σ H)\/((Itt K a).go i H/\∃N:St->Hp->Prop,(∀O H',N O H'->∃m',m'<m/\W (i+1) m' O H')/\∀x H',(Itt K a).yld i H x H'->g x σ H' fun J H2=>tb { D with nx:=N,ct:=N,bk:=D.nx } J H2):=by
 refine⟨fun i m σ H=>m=xs.length-i/\i<=xs.length/\Y i σ H,⟨xs.length,by simp,YN _,h0⟩,?_⟩
 rintro i m σ H ⟨rfl,hi,p⟩;have q:=hl i σ H hi p;by_cases hlt:i<xs.length
 ·refine .inr ⟨⟨xs,xs[i],q,by simp[hlt]⟩,Y (i+1),fun O H' p'=>⟨xs.length-(i+1),by lia,Z,hlt,p'⟩,fun x H' y=>?_⟩
  obtain⟨e,y⟩:=y;subst e;exact hs i x σ _ (y xs q) p
 ·have e:i=xs.length:=by lia
  subst e;exact .inl ⟨⟨xs,q,YL _⟩,hd σ H p⟩
theorem CO{lo:Int}{n:Nat}{g:TG}{tb:TS}{D:DP}{σ:St}{H:Hp}(J:Nat->St->Hp->Prop)(h0:J 0 σ H)
 (hs:∀i σ H,i<n->J i σ H->g (.int (lo+i)) σ H fun O H2=>tb { D with nx:=J (i+1),ct:=J (i+1),bk:=D.nx } O H2) (hd:∀σ H,J n σ H->D.nx σ H) :
 ∃ W:Nat->Nat->St->Hp->Prop,(∃m,W 0 m σ H)/\∀i m σ H,W i m σ H ->
   ((Itr lo n).stop i H/\D.nx σ H)\/((Itr lo n).go i H/\∃N:St->Hp->Prop,(∀Y H',N Y H'->∃m',m'<m/\W (i+1) m' Y H')/\∀x H',(Itr lo n).yld i H x H'->g x σ H' fun O H2=>tb { D with nx:=N,ct:=N,bk:=D.nx } O H2):=by
 refine⟨fun i m σ H=>m=n-i/\i<=n/\J i σ H,⟨n,by simp,YN _,h0⟩,?_⟩
 rintro i m σ H ⟨rfl,hi,p⟩;by_cases hlt:i<n
 ·refine .inr ⟨hlt,J (i+1),fun Y H' p'=>⟨n-(i+1),by lia,Z,hlt,p'⟩,fun x H' y=>?_⟩
  obtain⟨e,y⟩:=y;subst e y;exact hs i σ _ hlt p
 ·have e:i=n:=by lia
  subst e;exact .inl ⟨YL _,hd σ H p⟩
theorem Kr{c:TT}{tb:TS}{D:DP}{σ:St}{H:Hp}(O:St->Hp->Prop)(W:St->Hp->Nat)(h0:O σ H)
 (hs:∀σ H,O σ H->c σ H fun b H1=>if b=true then tb { D with nx:=fun Y H'=>O Y H'/\W Y H'<W σ H,ct:=fun Y H'=>O Y H'/\W Y H'<W σ H,bk:=D.nx } σ H1 else D.nx σ H1)
 (J:∀σ H Q Q',(∀b H1,Q b H1->Q' b H1)->c σ H Q->c σ H Q'):M6 c tb D σ H:=by
 refine⟨fun m σ H=>m=W σ H/\O σ H,⟨_,Z,h0⟩,?_⟩;rintro m σ H ⟨rfl,p⟩;refine J σ H _ _ (fun b H1 q=>?_) (hs σ H p);cases b with
 | true=>exact⟨_,fun Y H' ⟨p',l⟩=>⟨_,l,Z,p'⟩,q⟩
 | false=>exact q
abbrev R2:=V->V->Hp->VK->Prop
def OpR(X:Cx)(f:am->am->Sem am)(r:R2):Prop :=
 ∀ (pins:List (ad×Obj)) (s:aI) (σ:St) (H:Hp) (x y:V) (v u:am) (Q:VK),Inv X pins σ H s->AJ x v->AJ y u->r x y H Q ->
   bv (cr X.prog X.w) X.A (f v u) (EP X pins σ Q) X.xe s
def UnR(X:Cx)(f:am->Sem am)(r:V->Hp->VK->Prop):Prop :=
 ∀ (pins:List (ad×Obj)) (s:aI) (σ:St) (H:Hp) (x:V) (v:am) (Q:VK),Inv X pins σ H s->AJ x v->r x H Q ->
   bv (cr X.prog X.w) X.A (f v) (EP X pins σ Q) X.xe s
def Cp(X:Cx)(f:am)(r:List V->Hp->VK->Prop):Prop :=
 ∀ (pins:List (ad×Obj)) (s:aI) (σ:St) (H:Hp) (xs:List V) (us:List am) (Q:VK),Inv X pins σ H s->AF xs us->r xs H Q ->
   bv (cr X.prog X.w) X.A (call f us) (EP X pins σ Q) X.xe s
def tOp(r:R2)(ta tb:TE):TE:=fun σ H Q=>ta σ H fun x H1=>tb σ H1 fun y H2=>r x y H2 Q
def tUn(r:V->Hp->VK->Prop)(ta:TE):TE:=fun σ H Q=>ta σ H fun x H1=>r x H1 Q
inductive rI(C:Int->Int->Prop)(g:Int->Int->V)(x:V)(y:V)(H:Hp)(Q:VK):Prop
 | mk (i:_) (j:_) (h1:x = .int i) (h2:y = .int j) (h3:C i j) (h4:Q (g i j) H):rI C g x y H Q
inductive rI0(g:Int->Int->V)(x:V)(y:V)(H:Hp)(Q:VK):Prop
 | mk (i:_) (j:_) (h1:x = .int i) (h2:y = .int j) (h3:Q (g i j) H):rI0 g x y H Q
inductive rU(g:Int->V)(x:V)(H:Hp)(Q:VK):Prop
 | mk (i:_) (h1:x = .int i) (h2:Q (g i) H):rU g x H Q
section
variable {X:Cx}{a b c:Expr}{ta tb tc:TE}{pos:Pos}
theorem UD(ha:PE X a ta)(hb:PE X b tb){pins:List (ad×Obj)}{s:aI}{σ:St}{H:Hp}{R:V->V->Hp->Prop}(I:Inv X pins σ H s)
 (h:ta σ H fun x H1=>tb σ H1 fun y H2=>R x y H2) {Q:am->aI->Prop} {f:am->am->Sem am}
 (hf:∀v u O x y H2,Inv X pins σ H2 O->AJ x v->AJ y u->R x y H2->bv (cr X.prog X.w) X.A (f v u) Q X.xe O) :
 bv (cr X.prog X.w) X.A (dE a X.env) (fun v Y=>bv (cr X.prog X.w) X.A (dE b X.env) (fun u W=>bv (cr X.prog X.w) X.A (f v u) Q X.xe W) X.xe Y) X.xe s:=by
 refine thn (ha pins s σ H _ I h) fun v s1 ⟨x,H1,J,r1,q1⟩=>?_;refine thn (hb pins s1 σ H1 _ J q1) fun u O ⟨y,H2,I2,r2,q2⟩=>?_;exact hf v u O x y H2 I2 r1 r2 q2
theorem Af{Y:Operator}{r:R2}(ho:OpR X (dY Y) r)(ha:PE X a ta)(hb:PE X b tb):PE X (.BinOp a Y b pos) (tOp r ta tb):=by
 intro pins s σ H Q I h;exact wpAny_BinOp (UD ha hb I h fun v u J x y H2 I2 W O q=>ho pins J σ H2 x y v u Q I2 W O q)
theorem Ny{Y:UnaryOp}{r:V->Hp->VK->Prop}(O:UnR X (unaryOp Y) r)(ha:PE X a ta):PE X (.UnaryOp Y a pos) (tUn r ta):=by
 intro pins s σ H Q I h;exact UnaryOp_ (thn (ha pins s σ H _ I h) fun v s1 ⟨x,H1,W,r1,J⟩=>O pins s1 σ H1 x v Q W r1 J)
theorem opI{f:am->am->Sem am}{C:Int->Int->Prop}{g:Int->Int->Int}
 (Y:∀(i j:Int) (t u:Tok) (s:aI) (Q:am->aI->Prop) (E:am->aI->Prop),C i j->Q (.int (g i j) s.toks) { s with toks:=s.toks+1 }->bv (cr X.prog X.w) X.A (f (.int i t) (.int j u)) Q E s) :
 OpR X f (rI C fun i j=>.int (g i j)):=by
 intro pins s σ H x y v u Q I W O h;obtain⟨i,j,rfl,rfl,J,q⟩:=h;obtain⟨t,rfl⟩:=W;obtain⟨t',rfl⟩:=O;exact Y i j t t' s _ _ J ⟨.int (g i j),H,I.tok _,⟨_,Z⟩,q⟩
theorem Va{f:am->am->Sem am}{g:Int->Int->Int}
 (Y:∀(i j:Int) (t u:Tok) (s:aI) (Q:am->aI->Prop) (E:am->aI->Prop),Q (.int (g i j) s.toks) { s with toks:=s.toks+1 }->bv (cr X.prog X.w) X.A (f (.int i t) (.int j u)) Q E s) :
 OpR X f (rI0 fun i j=>.int (g i j)):=by
 intro pins s σ H x y v u Q I W O h;obtain⟨i,j,rfl,rfl,q⟩:=h;obtain⟨t,rfl⟩:=W;obtain⟨t',rfl⟩:=O;exact Y i j t t' s _ _ ⟨.int (g i j),H,I.tok _,⟨_,Z⟩,q⟩
theorem U1{f:am->am->Sem am}{g:Int->Int->Bool}
 (Y:∀(i j:Int) (t u:Tok) (s:aI) (Q:am->aI->Prop) (E:am->aI->Prop),Q (.bool (g i j)) s->bv (cr X.prog X.w) X.A (f (.int i t) (.int j u)) Q E s) :
 OpR X f (rI0 fun i j=>.bl (g i j)):=by
 intro pins s σ H x y v u Q I W O h;obtain⟨i,j,rfl,rfl,q⟩:=h;obtain⟨t,rfl⟩:=W;obtain⟨t',rfl⟩:=O;exact Y i j t t' s _ _ ⟨.bl (g i j),H,I,Z,q⟩
def UJ(i j:Int):Prop:=0<=j/\j<=1000000/\i.natAbs<2 ^ 64
theorem AV:OpR X (dY .Add) (rI0 fun i j=>.int (i+j)):=Va fun _ _ _ _ _ _ _ q=>add_int q
theorem Bj:OpR X (dY .Sub) (rI0 fun i j=>.int (i-j)):=Va fun _ _ _ _ _ _ _ q=>sub_int q
theorem CD:OpR X (dY .Mod) (rI (fun _ j=>0<j) fun i j=>.int (i % j)):=opI fun i j _ _ _ _ _ Y q=>by
 have h1:(0:Int)<j:=Y;exact mod_int' (by lia) (by rw[Int.fmod_eq_emod_of_nonneg i (by lia)];exact q)
theorem Qe:OpR X (dY .Pow) (rI UJ fun i j=>.int (i ^ j.toNat)):=opI fun _ _ _ _ _ _ _ Y q=>pow_int_small Y.1 Y.2.1 Y.2.2 q
theorem unI{f:am->Sem am}{g:Int->Int}
 (Y:∀(i:Int) (t:Tok) (s:aI) (Q:am->aI->Prop) (E:am->aI->Prop),Q (.int (g i) s.toks) { s with toks:=s.toks+1 }->bv (cr X.prog X.w) X.A (f (.int i t)) Q E s) :
 UnR X f (rU fun i=>.int (g i)):=by
 intro pins s σ H x v Q I W h;obtain⟨i,rfl,q⟩:=h;obtain⟨t,rfl⟩:=W;exact Y i t s _ _ ⟨.int (g i),H,I.tok _,⟨_,Z⟩,q⟩
theorem Ji:UnR X (unaryOp .USub) (rU fun i=>.int (-i)):=unI fun _ _ _ _ _ q=>neg_int q
end
def UY:V->V->Bool
 | .non,.non=>true | .non,.int _=>true | .int _,.non=>true | .non,.bl _=>true | .bl _,.non=>true | .non,.str _=>true | .str _,.non=>true
 | .int _,.int _=>true | .bl _,.bl _=>true | .str _,.str _=>true | .byt _,.byt _=>true
 | .int _,.str _=>true | .str _,.int _=>true | .bl _,.str _=>true | .str _,.bl _=>true
 | _,_=>false
def rEq:R2:=fun x y H Q=>UY x y=true/\Q (.bl (decide (x=y))) H
def rNe:R2:=fun x y H Q=>UY x y=true/\Q (.bl (!decide (x=y))) H
theorem NU{i j:Int}:decide (V.int i=V.int j)=(i == j):=by
 rw[Bool.eq_iff_iff];simp
theorem QY{i j:Bool}:decide (V.bl i=V.bl j)=(i == j):=by
 rw[Bool.eq_iff_iff];simp
theorem NT{i j:Str}:decide (V.str i=V.str j)=(i == j):=by
 rw[Bool.eq_iff_iff];simp
theorem NV{i j:Array UInt8}:decide (V.byt i=V.byt j)=(i.toList == j.toList):=by
 rw[Bool.eq_iff_iff];cases i;cases j;simp
section
variable {X:Cx}{a b c:Expr}{ta tb tc:TE}{pos:Pos}
theorem AZ{pins:List (ad×Obj)}{σ:St}{H:Hp}{s:aI}{Q:VK}{k Y:Bool}(I:Inv X pins σ H s)(q:Q (.bl k) H)(e:k=Y):EP X pins σ Q (.bool Y) s:=by
 subst e;exact⟨.bl k,H,I,Z,q⟩
theorem Cr:OpR X (dN .Eq) rEq:=by
 intro pins s σ H x y v u Q I J Y h;obtain⟨O,q⟩:=h;cases x with
 | non =>
   cases J;cases y with
   | non=>cases Y;exact PySem.EqNone.eq_none_none (AZ I q (by simp))
   | bl j=>cases Y;exact PySem.EqNone.eq_none_bool (AZ I q (by simp))
   | int j=>obtain⟨t',rfl⟩:=Y;exact PySem.EqNone.eq_none_int (AZ I q (by simp))
   | str j=>obtain⟨t',rfl⟩:=Y;exact PySem.EqNone.eq_none_str (AZ I q (by simp))
   | _=>exact absurd (show false=true from O) Bool.false_ne_true
 | bl i =>
   cases J;cases y with
   | non=>cases Y;exact PySem.EqNone.eq_bool_none (AZ I q (by simp))
   | bl j=>cases Y;exact eq_bool (AZ I q QY)
   | str j=>obtain⟨t',rfl⟩:=Y;exact PySem.EqMixed.eq_bool_str (AZ I q (by simp))
   | _=>exact absurd (show false=true from O) Bool.false_ne_true
 | int i =>
   obtain⟨t,rfl⟩:=J;cases y with
   | non=>cases Y;exact PySem.EqNone.eq_int_none (AZ I q (by simp))
   | int j=>obtain⟨t',rfl⟩:=Y;exact eq_int (AZ I q NU)
   | str j=>obtain⟨t',rfl⟩:=Y;exact PySem.EqMixed.eq_int_str (AZ I q (by simp))
   | _=>exact absurd (show false=true from O) Bool.false_ne_true
 | str i =>
   obtain⟨t,rfl⟩:=J;cases y with
   | non=>cases Y;exact PySem.EqNone.eq_str_none (AZ I q (by simp))
   | bl j=>cases Y;exact PySem.EqMixed.eq_str_bool (AZ I q (by simp))
   | int j=>obtain⟨t',rfl⟩:=Y;exact PySem.EqMixed.eq_str_int (AZ I q (by simp))
   | str j=>obtain⟨t',rfl⟩:=Y;exact eq_str (AZ I q NT)
   | _=>exact absurd (show false=true from O) Bool.false_ne_true
 | byt i =>
   obtain⟨t,rfl⟩:=J;cases y with
   | byt j=>obtain⟨t',rfl⟩:=Y;exact PySem.W.eq_bytes (AZ I q NV)
   | _=>exact absurd (show false=true from O) Bool.false_ne_true
 | _=>cases y<;>exact absurd (show false=true from O) Bool.false_ne_true
theorem Dj:OpR X (dN .NotEq) rNe:=by
 intro pins s σ H x y v u Q I J Y h;obtain⟨O,q⟩:=h;cases x with
 | non =>
   cases J;cases y with
   | non=>cases Y;exact PySem.EqNone.ne_none_none (AZ I q (by simp))
   | bl j=>cases Y;exact PySem.EqNone.ne_none_bool (AZ I q (by simp))
   | int j=>obtain⟨t',rfl⟩:=Y;exact PySem.EqNone.ne_none_int (AZ I q (by simp))
   | str j=>obtain⟨t',rfl⟩:=Y;exact PySem.EqNone.ne_none_str (AZ I q (by simp))
   | _=>exact absurd (show false=true from O) Bool.false_ne_true
 | bl i =>
   cases J;cases y with
   | non=>cases Y;exact PySem.EqNone.ne_bool_none (AZ I q (by simp))
   | bl j=>cases Y;exact ne_bool (AZ I q (congrArg not QY))
   | str j=>obtain⟨t',rfl⟩:=Y;exact PySem.EqMixed.ne_bool_str (AZ I q (by simp))
   | _=>exact absurd (show false=true from O) Bool.false_ne_true
 | int i =>
   obtain⟨t,rfl⟩:=J;cases y with
   | non=>cases Y;exact PySem.EqNone.ne_int_none (AZ I q (by simp))
   | int j=>obtain⟨t',rfl⟩:=Y;exact ne_int (AZ I q (congrArg not NU))
   | str j=>obtain⟨t',rfl⟩:=Y;exact PySem.EqMixed.ne_int_str (AZ I q (by simp))
   | _=>exact absurd (show false=true from O) Bool.false_ne_true
 | str i =>
   obtain⟨t,rfl⟩:=J;cases y with
   | non=>cases Y;exact PySem.EqNone.ne_str_none (AZ I q (by simp))
   | bl j=>cases Y;exact PySem.EqMixed.ne_str_bool (AZ I q (by simp))
   | int j=>obtain⟨t',rfl⟩:=Y;exact PySem.EqMixed.ne_str_int (AZ I q (by simp))
   | str j=>obtain⟨t',rfl⟩:=Y;exact ne_str (AZ I q (congrArg not NT))
   | _=>exact absurd (show false=true from O) Bool.false_ne_true
 | byt i =>
   obtain⟨t,rfl⟩:=J;cases y with
   | byt j=>obtain⟨t',rfl⟩:=Y;exact PySem.W.ne_bytes (AZ I q (congrArg not NV))
   | _=>exact absurd (show false=true from O) Bool.false_ne_true
 | _=>cases y<;>exact absurd (show false=true from O) Bool.false_ne_true
theorem Ez:OpR X (dN .Lt) (rI0 fun i j=>.bl (decide (i<j))):=U1 fun _ _ _ _ _ _ _ q=>lt_int q
theorem Dk:OpR X (dN .Gt) (rI0 fun i j=>.bl (decide (j<i))):=U1 fun _ _ _ _ _ _ _ q=>gt_int q
theorem SQ:OpR X (dN .GtE) (rI0 fun i j=>.bl (decide (j<=i))):=U1 fun _ _ _ _ _ _ _ q=>ge_int q
theorem Oo:OpR X (dN .In) (fun x y H Q=>∃i j,x = .str i/\y = .str j/\Q (.bl (!(Builtin.Str.occurrences j i 0 j.length 1).isEmpty)) H):=by
 intro pins s σ H x y v u Q I Y W h;obtain⟨i,j,rfl,rfl,q⟩:=h;obtain⟨t,rfl⟩:=Y;obtain⟨t',rfl⟩:=W;exact in_str (AZ I q rfl)
theorem Ar(b:Expr){Y:CmpOp}(h:Y ≠ .In:=by decide)(h2:Y ≠ .NotIn:=by decide):fq Y b=false:=by
 have e1:(Y == CmpOp.In)=false:=by cases Y<;>first | rfl | exact absurd rfl h
 have W:(Y == CmpOp.NotIn)=false:=by cases Y<;>first | rfl | exact absurd rfl h2
 cases b<;>simp[fq,e1,W]
theorem CY{Y:CmpOp}{r:R2}(ho:OpR X (dN Y) r)(ha:PE X a ta)(hb:PE X b tb)(hm:fq Y b=false):PE X (.Compare a [Y] [b] pos) (tOp r ta tb):=by
 intro pins s σ H Q I h;exact wpAny_Compare1 (UD ha hb I h fun v u J x y H2 I2 W O q=>ho pins J σ H2 x y v u Q I2 W O q) hm
def UN(t:TE):TT:=fun σ H Q=>t σ H fun x H'=>∃k,x = .bl k/\Q k H'
theorem Ao{Y:CmpOp}{r:R2}(ho:OpR X (dN Y) r)(ha:PE X a ta)(hb:PE X b tb)(hm:fq Y b=false):PT X (.Compare a [Y] [b] pos) (UN (tOp r ta tb)):=by
 intro pins s σ H Q I h
 refine wpAny_isTrue_Compare1 (thn (ha pins s σ H _ I h) fun v s1 ⟨x,H1,W,r1,q1⟩=>thn (hb pins s1 σ H1 _ W q1) fun u O ⟨y,H2,I2,r2,q2⟩ =>
  thn (ho pins O σ H2 x y v u _ I2 r1 r2 q2) fun c s3 ⟨z,J,I3,r3,k,e,q3⟩=>?_) hm
 subst e;cases r3;exact dR ⟨J,I3,q3⟩
theorem Ge:(bi:Nat)<2 ^ 63:=by rw[dv];decide
theorem AH:OpR X (dY .Add) (fun x y H Q=>∃i j,x = .str i/\y = .str j/\i.length+j.length<=bi/\Q (.str (i++j)) H):=by
 intro pins s σ H x y v u Q I Y W h;obtain⟨i,j,rfl,rfl,hz,q⟩:=h;obtain⟨t,rfl⟩:=Y;obtain⟨t',rfl⟩:=W;exact add_str (fun t' tk=>⟨.str (i++j),H,I.tok _,⟨_,Z⟩,q⟩) hz
theorem Es{x:V}{us:List am}(r:AF [x] us):∃u,us=[u]/\AJ x u:=by
 cases r with
 | cons r1 r2=>cases r2;exact⟨_,Z,r1⟩
theorem P6{x y:V}{us:List am}(r:AF [x,y] us):∃u Y,us=[u,Y]/\AJ x u/\AJ y Y:=by
 cases r with
 | cons r1 r2 =>
   cases r2 with
   | cons r3 r4=>cases r4;exact⟨_,_,Z,r1,r3⟩
theorem FH:Cp X (.builtin "abs") (fun xs H Q=>∃i,xs=[.int i]/\Q (.int (if i<0 then -i else i)) H):=by
 intro pins s σ H xs us Q I r h;obtain⟨i,rfl,q⟩:=h;obtain⟨u,rfl,t,rfl⟩:=Es r;exact call_abs_int fun u tk=>⟨.int (if i<0 then -i else i),H,I.tok _,⟨_,Z⟩,q⟩
theorem Bg:Cp X (.type "str") (fun xs H Q=>∃i,xs=[.int i]/\i.natAbs.log2<1920/\Q (.str (toString i)) H):=by
 intro pins s σ H xs us Q I r h;obtain⟨i,rfl,hz,q⟩:=h;obtain⟨u,rfl,t,rfl⟩:=Es r;exact PySem.P.str_of_int hz ⟨.str _,H,I.tok _,⟨_,Z⟩,q⟩
end
structure Na(h:dw)(x dx C:ad)(mA:Str->Option am):Prop where
 obj:h.get? x=some (Yp C dx)
 ns:h.Ns1 dx mA
 ne:dx≠x
theorem OD{h:dw}{dx:ad}{mA:Str->Option am}(n:h.Ns1 dx mA):∃W,h.get? dx=some W/\∀name,YO name W=some (mA name):=by
 obtain⟨o,es,ep,J,hd,hk,_,hm⟩:=n;refine⟨o,J,fun name=>?_⟩;have e:=hm name;unfold nsFind findBy at e;rw[<- Array.find?_toList]at e;unfold YO;rw[hd];dsimp only
 split
 ·rename_i y q
  rw[q]at e;exact congrArg some e
 ·rename_i q
  rw[q]at e
  have a:es.toList.any (·.refKey)=false:=by
   rw[YQ];intro y hy;obtain⟨z,t,Y⟩:=hk y (Array.mem_toList_iff.mp hy);simp[DictEntry.refKey,Y]
  have O:¬es.toList.any (·.refKey)=true:=by rw[a];exact Bool.false_ne_true
  rw[if_neg O];exact congrArg some e
theorem Na.look{h:dw}{x dx C:ad}{mA:Str->Option am}(I:Na h x dx C mA):∃Y,PySem.W.InstAt h x (Yp C dx) C (some Y)/\∀name,YO name Y=some (mA name) :=
 let ⟨Y,ho,hl⟩:=OD I.ns
 ⟨Y,⟨I.obj,Z,Z,ho⟩,hl⟩
section
variable {prog:ce}{w:db}{A:dl}{E:am->aI->Prop}{s:aI}{K:Yx}{x dx C f:ad}{mA:Str->Option am}{name:Str}{v:am}
theorem Sh{Y:Bool}{Q:am->aI->Prop}(X:K.In s.heap)(I:Na s.heap x dx C mA)(hg:YR K C name=true)(hh:YS K C=true)
 (ha:YT K (.ref C) name=some none) (hv:mA name=some v) (O:PySem.W.handedIn v=true) (h:Q v { s with toks:=s.toks+1 }) :
 bv (cr prog w) A (getAttr (.ref x) name Y) Q E s:=by
 obtain⟨od,J,hl⟩:=I.look;exact PySem.W.get_value X J (YU hg).1 (PySem.W.findObj_own hh ha rfl (by rw[hl,hv])) O h
theorem QL{pl:Sem Bool}{Q:am×List am->aI->Prop}(X:K.In s.heap)(I:Na s.heap x dx C mA)(Y:YR K C name=true)
 (hf:YT K (.ref C) name=some (some (.ref f))) (ht:YV K (.ref f)=true) (hv:mA name=none) (h:Q (.ref f,[.ref x]) s) :
 bv (cr prog w) A (getMethod (.ref x) name pl) Q E s:=by
 obtain⟨O,J,hl⟩:=I.look;exact PySem.W.method_fn X J (YU Y).1 (YU Y).2 hf (beq_iff_eq.mp ht) (by show(YO name O).map (·.isSome)=some false;rw[hl,hv];rfl) h
theorem RG{ns:List Str}{Q:Unit->aI->Prop}(X:K.In s.heap)(I:Na s.heap x dx C mA)
 (hs:YT K (.ref C) "__setattr__" = some (some (.builtin "object.__setattr__"))) (hp:YW K C=true) (ht:YX K C name=some none) (hh:YS K C=true)
 (hw:PySem.Within mA ns) (hsz:ns.length<=bi)
 (h:∀h',Na h' x dx C (fun y=>if y=name then some v else mA y)->Heap.SameBut dx s.heap h'->Q () { s with heap:=h',toks:=s.toks+2 }) :
 bv (cr prog w) A (setAttr (.ref x) name v) Q E s:=by
 obtain⟨od,J,hl⟩:=I.look;refine PySem.W.set_plain X J hs (PySem.W.osa_open (s:={ s with toks:=s.toks+1 }) (r:=none) X J hp ht fun b=>?_)
 obtain⟨cd,hc,al⟩:=PySem.W.any_some hh;have hx:s.heap.get? x=some ⟨.ref C,some dx,.plain,#[]⟩:=I.obj;refine ac (aQ (ac (ac (wpAny_loadPart hx (ac (PySem.W.Looks.here (s:={ s with toks:=s.toks+1 }) (PySem.W.looks_clsIn X hc) ?_))))))
 rw[al];refine aQ (a:=some dx) (ac (aQ (ac ?_)));refine wpAny_nsSet1 (s:={ s with toks:=s.toks+1 }) I.ns fun h' O Y=>?_
 obtain⟨oD,as,ap,ab,an,ak⟩:=O.count (PySem.Within.cons name v hw);refine ac (wpAny_lookBehind ab (by rw[an];exact pastItsLine_dict (Yy ak (by rw[YY];lia))) ?_)
 exact aQ (h _ ⟨(Y.2 _ (Ne.symm I.ne)).trans I.obj,O,I.ne⟩ Y)
theorem Qt{R:Result->aI->Prop}{vs:List am}{O:List (Str×am)}(X:K.In s.heap)(hm:YZ K C=true)
 (hi:YT K (.ref C) "__init__" = some (some (.ref f))) (J:PySem.W.typeIn K (.ref f)=some (.type "function"))
 (h:eC (cr prog w) (A.under (.builtin "type.__call__" ⟨.ref C::vs,O⟩)) (.call (.ref f) ⟨.ref (s.heap.objs.size+1)::vs,O⟩) (PySem.W.InitBack (s.heap.objs.size+1) R)
  { s with heap:=(s.heap.push Z0).push (Yp C s.heap.objs.size) }) :
 eC (cr prog w) A (.call (.ref C) ⟨vs,O⟩) R s:=by
 obtain⟨hh,g,d,t,os⟩:=s;exact PySem.W.make_core (PySem.W.makes_of X hm) (PySem.W.looks_findIn X hi) (fun Y=>PySem.W.bind_fn X Y J) (.inl rfl) h
end
def Em(f:Str)(v:V):List (Str×V)->List (Str×V)
 | []=>[(f,v)]
 | (g,x)::r=>if g=f then (g,v)::r else (g,x)::Em f v r
theorem Gx(f g:Str)(v:V):∀fs:List (Str×V),(Em f v fs).lookup g=if g=f then some v else fs.lookup g
 | []=>by
   show Z1 g [(f,v)]=_;by_cases h:g=f
   ·have Y:(g == f)=true:=beq_iff_eq.mpr h;simp only[Z1,Y,if_pos h]
   ·have Y:(g == f)=false:=beq_eq_false_iff_ne.mpr h;simp only[Z1,Y,if_neg h]
 | (k,x)::r=>by
   have W:=Gx f g v r;rw[show Em f v ((k,x)::r)=(if k=f then (k,v)::r else (k,x)::Em f v r) from rfl];by_cases hk:k=f
   ·rw[if_pos hk];by_cases h:g=k
    ·have Y:(g == k)=true:=beq_iff_eq.mpr h;simp only[Z1,Y,if_pos (h.trans hk)]
    ·have Y:(g == k)=false:=beq_eq_false_iff_ne.mpr h;simp only[Z1,Y,if_neg (fun e:g=f=>h (e.trans hk.symm))]
   ·rw[if_neg hk];by_cases h:g=k
    ·have Y:(g == k)=true:=beq_iff_eq.mpr h;simp only[Z1,Y,if_neg (fun e:g=f=>hk (h.symm.trans e))]
    ·have Y:(g == k)=false:=beq_eq_false_iff_ne.mpr h;simp only[Z1,Y];exact W
theorem Gf(f:Str)(v:V):∀fs:List (Str×V),f∈(Em f v fs).map (·.1)/\∀g,g∈fs.map (·.1)->g∈(Em f v fs).map (·.1)
 | []=>⟨by simp[Em],fun g h=>by simp at h⟩
 | (k,x)::r=>by
   obtain⟨i1,i2⟩:=Gf f v r;rw[show Em f v ((k,x)::r)=(if k=f then (k,v)::r else (k,x)::Em f v r) from rfl];by_cases hk:k=f
   ·rw[if_pos hk];subst hk;exact⟨by simp,fun g h=>by simpa using h⟩
   ·rw[if_neg hk];refine⟨?_,fun g h=>?_⟩
    ·rw[Z2];exact YC _ i1
    ·rw[Z2]at h ⊢
     rcases YD.mp h with e | e
     ·exact YD.mpr (.inl e)
     ·exact YC _ (i2 g e)
theorem Gy(f:Str)(v:V):∀fs:List (Str×V),(Em f v fs).length<=fs.length+1
 | []=>by simp[Em]
 | (k,x)::r=>by
   have ih:=Gy f v r;rw[show Em f v ((k,x)::r)=(if k=f then (k,v)::r else (k,x)::Em f v r) from rfl];by_cases hk:k=f
   ·rw[if_pos hk,YY,YY];lia
   ·rw[if_neg hk,YY,YY];lia
theorem Er.some_of{v:V}{o:Option am}(r:Er (some v) o):∃u,o=some u/\AJ v u:=by
 cases o with
 | none=>exact(show False from r).elim
 | some u=>exact⟨u,Z,r⟩
theorem Er.none_of{o:Option am}(r:Er none o):o=none:=by
 cases o with
 | none=>rfl
 | some u=>exact(show False from r).elim
theorem OM{v:V}{u:am}(r:AJ v u):PySem.W.handedIn u=true:=by
 cases v with
 | non=>cases (show u=Value.none from r);rfl
 | bl b=>cases (show u=Value.bool b from r);rfl
 | int i=>obtain⟨t,e⟩:=(show ∃t,u=Value.int i t from r);cases e;rfl
 | str x=>obtain⟨t,e⟩:=(show ∃t,u=Value.str x t from r);cases e;rfl
 | byt b=>obtain⟨t,e⟩:=(show ∃t,u=Value.bytes b t from r);cases e;rfl
 | flt b=>obtain⟨t,e⟩:=(show ∃t,u=Value.float b t from r);cases e;rfl
 | ref a=>cases (show u=Value.ref a from r);rfl
 | ty n=>cases (show u=Value.type n from r);rfl
section
variable {P:ce}{w:db}{H H':Hp}{h h':dw}{a C dx:ad}{fs fs':List (Str×V)}
theorem GV(Y:HOk P w H h)(e:H a=some (.ins C dx fs)):∃mA,Na h a dx C mA/\(∀f,Er (fs.lookup f) (mA f))/\PySem.Within mA (fs.map (·.1))/\fs.length<=1000/\H dx=some (.own a):=by
 obtain⟨d,z,O,W,mA,n,r,q⟩:=(show BH P w H h a (.ins C dx fs) from Y a _ e);exact⟨mA,⟨W,n,O⟩,r,q,z,d⟩
end
structure Cls(K:Yx)(C:ad):Prop where
 pg:YR K C Str.empty=true
 hd:YS K C=true
 po:YW K C=true
 sa:YT K (.ref C) "__setattr__" = some (some (.builtin "object.__setattr__"))
theorem Cls.get{K:Yx}{C:ad}(c:Cls K C)(f:Str):YR K C f=true:=c.pg
def ET(K:Yx)(C:ad)(f:Str):Prop:=YT K (.ref C) f=some none
theorem ET.taker{K:Yx}{C:ad}{f:Str}(n:ET K C f):YX K C f=some none:=by
 unfold YX;rw[show YT K (.ref C) f=some none from n]
 rfl
structure Con(K:Yx)(C:ad)(f:Str)(v:V)(u:am):Prop where
 at_:YT K (.ref C) f=some (some u)
 rel:AJ v u
 get:PySem.W.specialIn K u "__get__" = some none
 cp:PySem.W.copiedNames.contains f=false
structure UI(K:Yx)(C:ad)(m:Str)(f:ad):Prop where
 at_:YT K (.ref C) m=some (some (.ref f))
 fn:YV K (.ref f)=true
 kp:Z3 K (.ref f)=true
section
variable {X:Cx}{pins:List (ad×Obj)}{σ:St}{H:Hp}{s:aI}{a C dx:ad}{fs:List (Str×V)}{f:Str}{v:V}{A:dl}{E:am->aI->Prop}
theorem MX{b:Bool}{Q:am->aI->Prop}(I:Inv X pins σ H s)(e:H a=some (.ins C dx fs))(c:Cls X.K C)(n:ET X.K C f)(l:fs.lookup f=some v)
 (h:∀u s',Inv X pins σ H s'->AJ v u->Q u s'):bv (cr X.prog X.w) A (getAttr (.ref a) f b) Q E s:=by
 obtain⟨mA,O,r,_,_,_⟩:=GV I.hok e;obtain⟨u,W,Y⟩:=Er.some_of (v:=v) (o:=mA f) (by rw[<- l];exact r f)
 exact Sh I.kIn O (c.get f) c.hd n W (OM Y) (h u _ (I.tok _) Y)
theorem MW{m:Str}{g:ad}{pl:Sem Bool}{Q:am×List am->aI->Prop}(I:Inv X pins σ H s)(e:H a=some (.ins C dx fs))(c:Cls X.K C)(k:UI X.K C m g)(l:fs.lookup m=none)
 (h:Q (.ref g,[.ref a]) s):bv (cr X.prog X.w) A (getMethod (.ref a) m pl) Q E s:=by
 obtain⟨mA,O,r,_,_,_⟩:=GV I.hok e;have Y:mA m=none:=Er.none_of (by rw[<- l];exact r m)
 exact QL I.kIn O (c.get m) k.at_ k.fn Y h
theorem Mr{y:V}{u:am}{Q:Unit->aI->Prop}(I:Inv X pins σ H s)(e:H a=some (.ins C dx fs))(c:Cls X.K C)(n:ET X.K C f)(hl:fs.length<1000)(J:AJ y u)
 (h:∀s',Inv X pins σ (upd H a (.ins C dx (Em f y fs))) s'->Q () s'):bv (cr X.prog X.w) A (setAttr (.ref a) f u) Q E s:=by
 obtain⟨mA,O,r,wi,_,W⟩:=GV I.hok e;have hz:(fs.map (·.1)).length<=bi:=by rw[Z4,dv];lia
 refine RG I.kIn O c.sa c.po n.taker c.hd wi hz fun h' Y sb=>h _ ?_;have hd:∃o,h'.get? dx=some o:=let ⟨o,_,_,e',_⟩:=Y.ns;⟨o,e'⟩;refine I.write (x:=a) (e:=dx) (by rw[e];exact True.intro) (.inr W) (fun b q hb z=>(sb.2 b hb).trans z) hd ?_
 refine⟨by rw[Aq O.ne];exact W,?_,O.ne,Y.obj,_,Y.ns,fun g=>?_,fun g hg=>?_⟩
 ·have:=Gy f y fs;lia
 ·show Er ((Em f y fs).lookup g) (if g=f then some u else mA g);rw[Gx];by_cases q:g=f
  ·rw[if_pos q,if_pos q];exact J
  ·rw[if_neg q,if_neg q];exact r g
 ·by_cases q:g=f
  ·rw[q];exact(Gf f y fs).1
  ·refine(Gf f y fs).2 g (wi g fun z=>hg ?_);show(if g=f then some u else mA g)=none;rw[if_neg q];exact z
theorem Inv.made(I:Inv X pins σ H s):Inv X pins σ (upd (upd H s.heap.objs.size (.own (s.heap.objs.size+1))) (s.heap.objs.size+1) (.ins C s.heap.objs.size []))
 { s with heap:=(s.heap.push Z0).push (Yp C s.heap.objs.size) }:=by
 have e1:(s.heap.push Z0).get? s.heap.objs.size=some Z0:=Heap.get?_push_size s.heap rfl
 have J:((s.heap.push Z0).push (Yp C s.heap.objs.size)).get? (s.heap.objs.size+1)=some (Yp C s.heap.objs.size):=by
  have:=Heap.get?_push_size (s.heap.push Z0) (o:=Yp C s.heap.objs.size) rfl
  rwa [Heap.size_push]at this
 have e3:(s.heap.push Z0).Ns s.heap.objs.size (fun _=>none):=⟨Z0,#[],_,e1,Z,(fun e O=>absurd O (by simp)),fun _=>rfl⟩
 have W:=I.laid (a:=s.heap.objs.size) (o:=.own (s.heap.objs.size+1)) (h':=s.heap.push Z0) (t':=s.toks) (fun b u q=>Heap.get?_push_of_some _ q) (YL _) ⟨_,e1⟩;refine W.laid (a:=s.heap.objs.size+1) (o:=.ins C s.heap.objs.size []) (t':=s.toks) (fun b u q=>Heap.get?_push_of_some _ q) (Z5 (Heap.size_push _ _)) ?_;have Y:s.heap.objs.size≠s.heap.objs.size+1:=Yt (Z6 _);refine⟨by rw[Aq Y,A9],YN _,Y,J,fun _=>none,(Heap.Ns1.of_empty e3).at fun o q=>Heap.get?_push_of_some _ q,fun _=>True.intro,fun y hy=>absurd rfl hy⟩
theorem Su{prog:ce}{w:db}{env:Env}{e:Expr}{f:Str}{pos:Pos}{s:aI}{Q:am->aI->Prop}(W:eI e f env (dE e env)=dE e env)
 (h:bv (cr prog w) A (dE e env) (fun o Y=>bv (cr prog w) A (getAttr o f true) Q E Y) E s):bv (cr prog w) A (dE (.Attribute e f pos) env) Q E s :=
 Attribute_any_ h (by rw[arm_eval_Attribute,W])
end
def UW(K:Yx)(ta:TE)(f:Str):TE:=fun σ H Q=>ta σ H fun x H1=>∃a C dx fs v,x = .ref a/\H1 a=some (.ins C dx fs)/\Cls K C/\ET K C f/\fs.lookup f=some v/\Q v H1
def UZ(K:Yx)(ta tv:TE)(f:Str):TS:=fun D σ H=>tv σ H fun y H1=>ta σ H1 fun x H2=>∃a C dx fs,x = .ref a/\H2 a=some (.ins C dx fs)/\Cls K C/\ET K C f/\fs.length<1000 /\
 D.nx σ (upd H2 a (.ins C dx (Em f y fs)))
section
variable {X:Cx}{o e value:Expr}{f:Str}{pos pos' tpos:Pos}{ta tv:TE}
theorem TY(O:PE X e ta)(J:eI e f X.env (dE e X.env)=dE e X.env):PE X (.Attribute e f pos) (UW X.K ta f):=by
 intro pins s σ H Q I h;refine Su J (thn (O pins s σ H _ I h) fun u s1 ⟨x,H1,Y,W,a,C,dx,fs,v,ex,ea,c,n,l,q⟩=>?_);subst ex;obtain rfl:u=Value.ref a:=W;exact MX Y ea c n l fun u' s2 I2 ru=>⟨v,H1,I2,ru,q⟩
theorem TK(ha:PE X o ta)(hv:PE X value tv)(hs:swapsWith value (some (.Attribute o f pos')) pos.line X.env=pure false):PS X (.Assign [.Attribute o f pos'] value pos) (UZ X.K ta tv f):=by
 intro pins s σ H D I h;refine plainObj_wpAny_Assign_Attribute (thn (hv pins s σ H _ I h) fun u s1 ⟨y,H1,Y,O,q⟩=>thn (ha pins s1 σ H1 _ Y q) fun ov s2 ⟨x,H2,I2,W,a,C,dx,fs,ex,ea,c,n,l,q2⟩=>?_) hs;subst ex;obtain rfl:ov=Value.ref a:=W;exact Mr I2 ea c n l O fun s3 J=>⟨σ,_,J,q2⟩
end
section
variable {X:Cx}{pins:List (ad×Obj)}{σ:St}{H:Hp}{s:aI}{A:dl}{E:am->aI->Prop}{Q:am->aI->Prop}{c:am}{b:Bool}
inductive Gq(K:Yx)(H:Hp):V->am->Prop where
 | non:Gq K H .non (.type "NoneType")
 | bl (x:Bool):Gq K H (.bl x) (.type "bool")
 | int (i:Int):Gq K H (.int i) (.type "int")
 | str (x:Str):Gq K H (.str x) (.type "str")
 | flt (x:UInt64):Gq K H (.flt x) (.type "float")
 | lst {a:ad} {xs:List V} (e:H a=some (.lst xs)):Gq K H (.ref a) (.type "list")
 | frz {a:ad} {o:Obj} {xs:List V} (e:H a=some (.frz o (.lst xs))):Gq K H (.ref a) (.type "list")
 | tup {a:ad} {xs:List V} (e:H a=some (.tup xs)):Gq K H (.ref a) (.type "tuple")
 | dK {a:ad} {kvs:List (Key×V)} (e:H a=some (.dK kvs)):Gq K H (.ref a) (.type "dict")
 | dT {a:ad} {kvs:List (List Key×V)} (e:H a=some (.dT kvs)):Gq K H (.ref a) (.type "dict")
 | ins {a C dx:ad} {fs:List (Str×V)} (e:H a=some (.ins C dx fs)) (cl:Cls K C) (ha:YT K (.ref C) "__class__" = some (some (.builtin "object.__class__")))
  (hn:PySem.W.specialIn K (.builtin "object.__class__") "__get__" = some (some (.builtin "getset_descriptor.__get__"))) (htk:PySem.W.takesIn K (.builtin "object.__class__")=some true)
  (hm:PySem.W.mroIn K C (.type "object")=some true):Gq K H (.ref a) (.ref C)
theorem OI{x:V}{u t:am}(I:Inv X pins σ H s)(Y:AJ x u)(ty:Gq X.K H x t)(e:Z7 X.K t c=some b)(h:∀tk,Q (.bool b) { s with toks:=tk }) :
 bv (cr X.prog X.w) A (call (.builtin "isinstance") [u,c]) Q E s:=by
 cases ty with
 | non=>cases (show u=Value.none from Y);exact Z8 PySem.W.kitx_none I.kIn True.intro e (fun z=>nomatch z) h
 | bl y=>cases (show u=Value.bool y from Y);exact Z8 PySem.W.kitx_bool I.kIn True.intro e (fun z=>nomatch z) h
 | int i=>obtain⟨t,q⟩:=(show ∃t,u=Value.int i t from Y);cases q;exact Z8 PySem.W.kitx_int I.kIn True.intro e (fun z=>nomatch z) h
 | str y=>obtain⟨t,q⟩:=(show ∃t,u=Value.str y t from Y);cases q;exact Z8 PySem.W.kitx_str I.kIn True.intro e (fun z=>nomatch z) h
 | flt y=>obtain⟨t,q⟩:=(show ∃t,u=Value.float y t from Y);cases q;exact Z8 PySem.W.kitx_float I.kIn True.intro e (fun z=>nomatch z) h
 | @lst a xs ea =>
   cases (show u=Value.ref a from Y);obtain⟨_,_,n,_,h1⟩:=(show BH X.prog X.w H s.heap a (.lst xs) from I.hok a _ ea);exact Z8 Z9 I.kIn ⟨_,h1,Z⟩ e (fun z=>nomatch z) h
 | @frz a ob xs ea =>
   cases (show u=Value.ref a from Y);obtain⟨_,_,_,n,_,h1⟩:=(show BH X.prog X.w H s.heap a (.frz ob (.lst xs)) from I.hok a _ ea);exact Z8 Z9 I.kIn ⟨_,h1,Z⟩ e (fun z=>nomatch z) h
 | @tup a xs ea =>
   cases (show u=Value.ref a from Y);obtain⟨_,_,_,p⟩:=(show BH X.prog X.w H s.heap a (.tup xs) from I.hok a _ ea);obtain⟨o,h1,h2,_⟩:=p;exact Z8 PySem.W.kitx_tuple I.kIn ⟨o,h1,h2⟩ e (fun z=>nomatch z) h
 | @dK a kvs ea =>
   cases (show u=Value.ref a from Y);obtain⟨_,_,vs,_,p⟩:=(show BH X.prog X.w H s.heap a (.dK kvs) from I.hok a _ ea);obtain⟨o,es,ep,h1,h2,_⟩:=p;exact Z8 PySem.W.kitx_dict I.kIn ⟨o,h1,h2.1⟩ e (fun z=>nomatch z) h
 | @dT a kvs ea =>
   cases (show u=Value.ref a from Y);obtain⟨_,_,xs,_,o,es,ep,h1,h2,_⟩:=(show BH X.prog X.w H s.heap a (.dT kvs) from I.hok a _ ea);exact Z8 PySem.W.kitx_dict I.kIn ⟨o,h1,h2.1⟩ e (fun z=>nomatch z) h
 | @ins a C dx fs ea cl ha hn htk hm =>
   cases (show u=Value.ref a from Y);obtain⟨mA,O,_⟩:=GV I.hok ea;obtain⟨od,J,_⟩:=O.look;exact Z8 (PySem.W.kitx_own (cl.get _) cl.hd ha hn htk hm) I.kIn J e (fun z=>nomatch z) h
end
structure BK(k:Nat)(A:dl):Prop where
 hd:A.handled=none
 dp:A.depth+3*k+5<recursionLimit
 un:A.units+16*k+200<cLine
theorem BK.mono{j k:Nat}{A:dl}(r:BK k A)(h:j<=k):BK j A:=⟨r.hd,by have:=r.dp;lia,by have:=r.un;lia⟩
theorem BK.deeper{k:Nat}{A:dl}(r:BK (k+1) A)(env:Env):BK k (A.deeper env) :=
 ⟨r.hd,by have:=r.dp;show A.depth+1+3*k+5<_;lia,by have:=r.un;show A.units+3+16*k+200<_;lia⟩
theorem BK.in1{k:Nat}{A:dl}(r:BK (k+1) A):BK k A.in1 :=
 ⟨r.hd,by have:=r.dp;show A.depth+3*k+5<_;lia,by have:=r.un;show A.units+1+16*k+200<_;lia⟩
theorem MP{A:dl}{C:ad}{us:List am}{Y:List (Str×am)}:(A.under (.builtin "type.__call__" ⟨.ref C::us,Y⟩)).depth=A.depth+1:=by
 first | rfl | simp[Around.under,Code.weight,Code.isCreation,Code.isGuard,Code.isCaller,Code.frames,Code.isFrame,guardIds]
theorem MO{A:dl}{C:ad}{us:List am}{Y:List (Str×am)}:(A.under (.builtin "type.__call__" ⟨.ref C::us,Y⟩)).units=A.units+1:=by
 first | rfl | simp[Around.under,Code.cUnits,Code.frames,Code.isFrame]
theorem BK.make{k:Nat}{A:dl}(r:BK (k+1) A)(C:ad)(us:List am)(Y:List (Str×am)):BK k (A.under (.builtin "type.__call__" ⟨.ref C::us,Y⟩)) :=
 ⟨r.hd,by have:=r.dp;rw[MP];lia,by have:=r.un;rw[MO];lia⟩
theorem BK.depth{k:Nat}{A:dl}(r:BK k A):A.depth<recursionLimit:=by have:=r.dp;lia
theorem BK.units{k:Nat}{A:dl}(r:BK k A):A.units+64<cLine:=by have:=r.un;lia
def Rw:TA:=fun _ H Q=>Q [] H
def Ku(ta:TE)(tr:TA):TA:=fun σ H Q=>ta σ H fun x H1=>tr σ H1 fun xs H2=>Q (x::xs) H2
section
variable {X:Cx}{e:Expr}{es:List Expr}{te:TE}{t:TA}{pos:Pos}
theorem A8:PA X [] Rw:=fun _ _ _ _ H Q I h=>Calls.spliced_nil ⟨[],H,I,.nil,h⟩
theorem A0(ha:PE X e te)(O:PA X es t)(hs:cQ (e::es) X.env=(false,dE e X.env)::cQ es X.env:=by rfl):PA X (e::es) (Ku te t):=by
 intro pos pins s σ H Q I h;rw[hs];show bv _ _ (spliced ((false,dE e X.env)::dU pos (cQ es X.env))) _ _ s;refine Calls.spliced_cons (thn (ha pins s σ H _ I h) fun u J ⟨x,H1,Y,r1,W⟩=>?_);exact thn (O pos pins J σ H1 _ Y W) fun us s2 ⟨xs,H2,I2,r2,q2⟩=>⟨x::xs,H2,I2,.cons r1 r2,q2⟩
def Vy(t:TA):TE:=fun σ H Q=>t σ H fun xs H1=>xs.length<=bi/\∀p,H1 p=none->Q (.ref p) (upd H1 p (.tup xs))
def VC(t:TA):TE:=fun σ H Q=>t σ H fun xs H1=>xs.length<=bi/\∀p,H1 p=none->Q (.ref p) (upd H1 p (.lst xs))
theorem AO{x1}(h:PA X es t):PE X (.Tuple es x1 pos) (Vy t):=by
 intro pins s σ H Q I O;refine wpAny_Tuple_spliced (thn (h pos pins s σ H _ I O) fun us Y ⟨xs,H1,W,r,z,q⟩=>⟨by rw[<- r.length];exact z,?_⟩)
 have J:H1 Y.heap.objs.size=none:=W.hok.fresh (YL _);refine⟨.ref Y.heap.objs.size,upd H1 Y.heap.objs.size (.tup xs),W.laid (t':=Y.toks) (fun b u e=>Heap.get?_push_of_some _ e) (YL _) ?_,Z,q _ J⟩;exact⟨z,us,r,⟨_,Heap.get?_push_size _ rfl,Z,_,Z⟩⟩
theorem Bu(h:PA X es t):PE X (.List es pos) (VC t):=by
 intro pins s σ H Q I O;refine wpAny_List_spliced (thn (h pos pins s σ H _ I O) fun us Y ⟨xs,H1,W,r,z,q⟩=>⟨by rw[<- r.length];exact z,?_⟩)
 have J:H1 Y.heap.objs.size=none:=W.hok.fresh (YL _);refine⟨.ref Y.heap.objs.size,upd H1 Y.heap.objs.size (.lst xs),W.laid (t':=Y.toks) (fun b u e=>Heap.get?_push_of_some _ e) (YL _) ?_,Z,q _ J⟩;exact⟨z,us,0,r,Heap.get?_push_size _ rfl⟩
end
abbrev Sp:=List V->Hp->VK->XK->Prop
abbrev CXT:=List Env->Hp->aI->XK->am->aI->Prop
structure IQ(P:ce)(w:db)(K:Yx)(mg:Str->Option am)(base:dw)(A:dl)(outer:List Env)(s:aI)(H:Hp):Prop where
 frames:A.frames=some outer
 mod:Mod K mg base
 bs:∀b o,base.get? b=some o->s.heap.get? b=some o/\H b=none
 bsz:base.objs.size<=s.heap.objs.size
 funs:s.heap.FunFrames base outer
 frf:∀b∈frs outer,H b=none
 hok:HOk P w H s.heap
 bare:fo s.gens
def CE(outer:List Env)(P:ce)(w:db)(H:Hp)(s:aI)(Q:VK)(u:am)(s':aI):Prop :=
 ∃v H',s'.os=s.os/\fo s'.gens/\Un (frs outer) [] H H' s.heap s'.heap/\HOk P w H' s'.heap/\AJ v u/\Q v H'
def CR(CX:CXT)(outer:List Env)(P:ce)(w:db)(H:Hp)(s:aI)(Q:VK)(E:XK)(r:Result)(s':aI):Prop :=
 match r with
 | .ok (.ret u)=>CE outer P w H s Q u s'
 | .ok _=>False
 | .error e=>CX outer H s E e s'
structure Ax(P:ce)(w:db)(K:Yx)(mg:Str->Option am)(base:dw)(CX:CXT)(k:Nat)(f:ad)(fd:bn)(ps:List Str)(sp:Sp):Prop where
 len:∀vs H Q E,sp vs H Q E->vs.length=ps.length
 run:∀(A:dl) (outer:List Env) (s:aI) (H:Hp) (args:Args) (us:List am) (vs:List V) (Q:VK) (E:XK),BK k A->IQ P w K mg base A outer s H->BindsTo s fd args (ps.zip us)->AF vs us->sp vs H Q E ->
  eC (cr P w) A (.call (.ref f) args) (CR CX outer P w H s Q E) s
theorem IQ.make{P:ce}{w:db}{K:Yx}{mg:Str->Option am}{base:dw}{A:dl}{outer:List Env}{s:aI}{H:Hp}(e:IQ P w K mg base A outer s H)(C:ad)(us:List am)(Y:List (Str×am)) :
 IQ P w K mg base (A.under (.builtin "type.__call__" ⟨.ref C::us,Y⟩)) outer s H:=⟨by first | exact e.frames | (simpa [Around.under,Code.envs,Code.isFrame,pushEnvs] using e.frames),e.mod,e.bs,e.bsz,e.funs,e.frf,e.hok,e.bare⟩
section
variable {X:Cx}{pins:List (ad×Obj)}{σ:St}{H:Hp}{s s':aI}
theorem Inv.env0(I:Inv X pins σ H s):IQ X.prog X.w X.K X.mg X.base X.A X.stack s H :=
 ⟨I.ok.frames,I.ok.mod,I.bs,Yy I.ok.bsz I.sz,I.stack,I.stkFree,I.hok,I.bare⟩
theorem Inv.after{Q:VK}{u:am}(I:Inv X pins σ H s)(h:CE X.stack X.prog X.w H s Q u s'):EP X pins σ Q u s':=by
 obtain⟨v,H',os,Y,un,W,r,q⟩:=h;obtain⟨J,g,d,t,O⟩:=s';obtain rfl:O=s.os:=os;exact⟨v,H',I.call (h':=J) (g':=g) (d':=d) (t':=t) (ch:=[]) un W Y (fun b z=>absurd z (by simp)),r,q⟩
end
def SH(sp:Sp)(dvs:List V)(E:XK)(t:TA):TE:=fun σ H Q=>t σ H fun vs H1=>sp (vs++dvs) H1 Q E
def SD(C:ad)(m:Str)(sp:Sp)(dvs:List V)(E:XK)(ta:TE)(t:TA):TE:=fun σ H Q=>ta σ H fun x H1=>∃a dx fs,x = .ref a/\H1 a=some (.ins C dx fs)/\fs.lookup m=none /\
 t σ H1 fun vs H2=>sp (x::(vs++dvs)) H2 Q E
def SE(C:ad)(sp:Sp)(dvs:List V)(E:XK)(t:TA):TE:=fun σ H Q=>t σ H fun vs H1=>∀x dx,H1 x=none->H1 dx=none->dx≠x ->
 sp (.ref x::(vs++dvs)) (upd (upd H1 dx (.own x)) x (.ins C dx [])) (fun v H2=>v = .non/\Q (.ref x) H2) E
def Be(K:Yx)(fd:bn)(ps:List Str)(ds:List am):Prop :=
 ∀(s:aI) (us:List am),K.In s.heap->(us++ds).length=ps.length->BindsTo s fd ⟨us,[]⟩ (ps.zip (us++ds))
theorem Be.all{K:Yx}{fd:bn}{ps:List Str}(h:∀us:List am,us.length=ps.length->eX fd ⟨us,[]⟩=pure (ps.zip us)):Be K fd ps []:=fun s us _ Y=>by
 rw[Za]at Y ⊢;exact .of_eq (h us Y)
def DM(CX:CXT)(X:Cx)(E:XK):Prop:=∀(pins:List (ad×Obj)) (σ:St) (H:Hp) (s:aI) (e:am) (s':aI),Inv X pins σ H s->CX X.stack H s E e s'->X.xe e s'
section
variable {X:Cx}{CX:CXT}{k:Nat}{f C:ad}{fd:bn}{ps:List Str}{sp:Sp}{dvs:List V}{ds:List am}{E:XK}{x m:Str}{p pos apos:Pos}{e o:Expr}{es:List Expr}{ta:TE}{t:TA}
theorem Mt{pins:List (ad×Obj)}{σ:St}{H:Hp}{s:aI}{Q:VK}{us:List am}{vs:List V}(F:Ax X.prog X.w X.K X.mg X.base CX k f fd ps sp)(O:BK k X.A)(W:Be X.K fd ps ds)(hd:AF dvs ds)(J:DM CX X E)
 (I:Inv X pins σ H s) (r:AF vs us) (h:sp (vs++dvs) H Q E):bv (cr X.prog X.w) X.A (call (.ref f) us) (EP X pins σ Q) X.xe s:=by
 have r2:AF (vs++dvs) (us++ds):=r.append hd;have hl:(us++ds).length=ps.length:=by rw[<- r2.length];exact F.len _ _ _ _ h
 refine wpAny_call (eO (F.run X.A X.stack s H ⟨us,[]⟩ (us++ds) (vs++dvs) Q E O I.env0 (W s us I.kIn hl) r2 h) fun r s' Y=>?_);cases r with
 | error e=>exact J pins σ H s e s' I Y
 | ok fl =>
   cases fl with
   | ret u=>exact I.after Y
   | next=>exact False.elim Y
   | brk=>exact False.elim Y
   | cont=>exact False.elim Y
theorem RY(F:Ax X.prog X.w X.K X.mg X.base CX k f fd ps sp)(hr:BK k X.A)(hg:Gl X x)(hm:X.mg x=some (.ref f))(hk:Z3 X.K (.ref f)=true)(hb:Be X.K fd ps ds)(hd:AF dvs ds)(hx:DM CX X E)
 (ha:PA X (e::es) t) (Y:(x == ("__debug__" : Str))=false:=by decide) (J:cQ (e::es) X.env=(false,dE e X.env)::cQ es X.env:=by rfl) (W:(dU pos (cQ es X.env)).any (·.1)=false:=by rfl) :
 PE X (.Call (.Name x p) (e::es) [] pos) (SH sp dvs E t):=by
 intro pins s σ H Q I h;refine eF (K5 I hg hm ?_ Y);refine Zb (h₀:=X.base) I.ok.mod.kin hk (thn (ha pos pins s σ H _ I h) fun us s1 ⟨vs,H1,O,r,q⟩=>⟨O.kIn,?_⟩) J W;exact Mt F hr hb hd hx O r q
theorem RU{pl:Sem Bool}(he:PE X o ta)(c:Cls X.K C)(hm:UI X.K C m f)(F:Ax X.prog X.w X.K X.mg X.base CX k f fd ps sp)(hr:BK k X.A)(hb:Be X.K fd ps ds)(hd:AF dvs ds)(hx:DM CX X E)(ha:PA X (e::es) t)
 (O:cQ (e::es) X.env=(false,dE e X.env)::cQ es X.env:=by rfl) (Y:(dU pos (cQ es X.env)).any (·.1)=false:=by rfl)
 (ht:dE (.Call (.Attribute o m apos) (e::es) [] pos) X.env=(do
  let ov <- dE o X.env
  standAt apos.atName
  let (f,first) <- holding [ov] (getMethod ov m pl)
  callWith pos f first (dU pos (cQ (e::es) X.env)) (fS pos (fc [] X.env))):=by rfl) :
 PE X (.Call (.Attribute o m apos) (e::es) [] pos) (SD C m sp dvs E ta t):=by
 intro pins s σ H Q I h;refine PySem.W.methodCall_KW (pl:=pl) (thn (he pins s σ H _ I h) fun u s1 ⟨x,H1,J,rx,a,dx,fs,ex,ea,l,q⟩=>?_) ht;subst ex;obtain rfl:u=Value.ref a:=rx;refine MW J ea c hm l ?_;refine Zb (first:=[.ref a]) (h₀:=X.base) I.ok.mod.kin hm.kp (thn (ha pos pins s1 σ H1 _ J q) fun us s2 ⟨vs,H2,I2,r,q2⟩=>⟨I2.kIn,?_⟩) O Y;exact Mt (us:=.ref a::us) (vs:=.ref a::vs) F hr hb hd hx I2 (.cons rfl r) q2
structure Mk(K:Yx)(C f:ad):Prop where
 makes:YZ K C=true
 init:YT K (.ref C) "__init__" = some (some (.ref f))
 fn:YV K (.ref f)=true
 kp:Z3 K (.ref C)=true
theorem PR{pins:List (ad×Obj)}{σ:St}{H:Hp}{s:aI}{Q:VK}{us:List am}{vs:List V}(M:Mk X.K C f)(F:Ax X.prog X.w X.K X.mg X.base CX k f fd ps sp)(hr:BK (k+1) X.A)(hb:Be X.K fd ps ds)(hd:AF dvs ds)
 (hx:DM CX X E) (I:Inv X pins σ H s) (r:AF vs us)
 (h:∀x dx,H x=none->H dx=none->dx≠x->sp (.ref x::(vs++dvs)) (upd (upd H dx (.own x)) x (.ins C dx [])) (fun v H2=>v = .non/\Q (.ref x) H2) E) :
 bv (cr X.prog X.w) X.A (call (.ref C) us) (EP X pins σ Q) X.xe s:=by
 have O:=h (s.heap.objs.size+1) s.heap.objs.size (I.hok.fresh (Zc _)) (I.hok.fresh (YL _)) (Yt (Z6 _));have W:=Inv.made (C:=C) I;have r2:AF (V.ref (s.heap.objs.size+1)::(vs++dvs)) (Value.ref (s.heap.objs.size+1)::(us++ds)):=.cons rfl (r.append hd)
 have hl:(Value.ref (s.heap.objs.size+1)::us++ds).length=ps.length:=by
  have e:=r2.length;rw[F.len _ _ _ _ O]at e;exact e.symm
 refine wpAny_call (Qt (f:=f) I.kIn M.makes M.init (beq_iff_eq.mp M.fn) (eO (F.run _ X.stack _ _ ⟨Value.ref (s.heap.objs.size+1)::us,[]⟩ (Value.ref (s.heap.objs.size+1)::(us++ds)) _ _ E (hr.make C us [])
  (W.env0.make C us []) (hb _ (Value.ref (s.heap.objs.size+1)::us) W.kIn hl) r2 O) fun r s' Y=>?_))
 cases r with
 | error e=>exact hx pins σ _ _ e s' W Y
 | ok fl =>
   cases fl with
   | ret u =>
     obtain⟨v,H',I3,rv,ev,J⟩:=W.after Y;subst ev;exact⟨rv,⟨V.ref (s.heap.objs.size+1),H',I3,Z,J⟩⟩
   | next=>exact False.elim Y
   | brk=>exact False.elim Y
   | cont=>exact False.elim Y
theorem RV(M:Mk X.K C f)(F:Ax X.prog X.w X.K X.mg X.base CX k f fd ps sp)(hr:BK (k+1) X.A)(hg:Gl X x)(hm:X.mg x=some (.ref C))(hb:Be X.K fd ps ds)(hd:AF dvs ds)(hx:DM CX X E)
 (ha:PA X (e::es) t) (Y:(x == ("__debug__" : Str))=false:=by decide) (J:cQ (e::es) X.env=(false,dE e X.env)::cQ es X.env:=by rfl) (W:(dU pos (cQ es X.env)).any (·.1)=false:=by rfl) :
 PE X (.Call (.Name x p) (e::es) [] pos) (SE C sp dvs E t):=by
 intro pins s σ H Q I h;refine eF (K5 I hg hm ?_ Y);refine Zb (h₀:=X.base) I.ok.mod.kin M.kp (thn (ha pos pins s σ H _ I h) fun us s1 ⟨vs,H1,O,r,q⟩=>⟨O.kIn,?_⟩) J W;exact PR M F hr hb hd hx O r q
end
section
variable {X:Cx}{CX:CXT}{k:Nat}{f C:ad}{fd:bn}{ps ks:List Str}{sp:Sp}{E:XK}{x m:Str}{p pos apos kpos:Pos}{e o:Expr}{es:List Expr}{kws:List fL}{te ta:TE}{t tk:TA}{nm:Option Str}
structure VW(K:Yx)(fd:bn)(ps ks:List Str)(g:List am->List am->List am)(gV:List V->List V->List V):Prop where
 to:∀(s:aI) (us ws:List am),K.In s.heap->(g us ws).length=ps.length->BindsTo s fd ⟨us,ks.zip ws⟩ (ps.zip (g us ws))
 rel:∀{vs:List V} {us:List am} {zs:List V} {ws:List am},AF vs us->AF zs ws->AF (gV vs zs) (g us ws)
variable {g:List am->List am->List am}{gV:List V->List V->List V}
end
structure Ah(N P:List Str)(sc:dJ):Prop where
 kind:sc.kind = .function
 co:sc.isCoroutine=false
 gen:sc.isGenerator=false
 nd:N.Nodup
 pre:N.take P.length=P
 par:∀x∈P,sc.names.lookup x=some .local\/sc.names.lookup x=some .cell
 nofree:∀y∈sc.names,y.2 ≠ .free
theorem Jc{W:Str->Option fT}{x:Str}:∀{Y:List (Str×am)} {m:Str->Option am},(∀v,(x,v)∉Y)->bindL W Y m x=m x
 | [],_,_=>rfl
 | (n,v)::r,m,h=>by
   unfold bindL;rw[Jc fun w hw=>h w (YC _ hw)]
   split
   ·have:x≠n:=by rintro rfl;exact h v YB
    simp[this]
   ·rfl
theorem Je{W:Str->Option fT}{x:Str}:∀{Y:List (Str×am)} {m:Str->Option am},(∀v,(x,v)∉Y)->bindC W Y m x=m x
 | [],_,_=>rfl
 | (n,v)::r,m,h=>by
   unfold bindC;rw[Je fun w hw=>h w (YC _ hw)]
   split
   ·rfl
   ·have:x≠n:=by rintro rfl;exact h v YB
    simp[this]
theorem Jd{kindOf:Str->Option fT}{x:Str}{v:am}:∀{P:List Str} {vs:List am} {i:Nat} {m:Str->Option am},P.Nodup->P[i]? = some x->vs[i]? = some v->kindOf x=some .local ->
 bindL kindOf (P.zip vs) m x=some v
 | [],_,_,_,_,h,_,_=>by simp at h
 | _::_,[],_,_,_,_,h,_=>by simp at h
 | p::P,w::vs,0,m,nd,h1,h2,hk=>by
   simp at h1 h2;subst h1;subst h2;show bindL kindOf ((p,w)::P.zip vs) m p=_;unfold bindL;rw[Jc fun v hv=>(Zd.mp nd).1 (Ze hv).1,if_pos hk];simp
 | p::P,w::vs,i+1,m,nd,h1,h2,hk=>by
   show bindL kindOf ((p,w)::P.zip vs) m x=_;unfold bindL;exact Jd (i:=i) (Zd.mp nd).2 (by simpa using h1) (by simpa using h2) hk
theorem Jf{kindOf:Str->Option fT}{x:Str}{v:am}:∀{P:List Str} {vs:List am} {i:Nat} {m:Str->Option am},P.Nodup->P[i]? = some x->vs[i]? = some v->kindOf x≠some .local ->
 bindC kindOf (P.zip vs) m x=some v
 | [],_,_,_,_,h,_,_=>by simp at h
 | _::_,[],_,_,_,_,h,_=>by simp at h
 | p::P,w::vs,0,m,nd,h1,h2,hk=>by
   simp at h1 h2;subst h1;subst h2;show bindC kindOf ((p,w)::P.zip vs) m p=_;unfold bindC;rw[Je fun v hv=>(Zd.mp nd).1 (Ze hv).1,if_neg hk];simp
 | p::P,w::vs,i+1,m,nd,h1,h2,hk=>by
   show bindC kindOf ((p,w)::P.zip vs) m x=_;unfold bindC;exact Jf (i:=i) (Zd.mp nd).2 (by simpa using h1) (by simpa using h2) hk
def EX(N:List Str)(vs:List V):St:=vs.map some++Zf (N.length-vs.length) none
def N4(CX:CXT)(P:ce)(w:db)(K:Yx)(mg:Str->Option am)(base:dw)(N:List Str)(qual:Str)(scope:dJ)(f:ad)(cd:am)(A:dl)(outer:List Env)(s:aI)(H:Hp)(E:XK):Cx where
 prog:=P
 w:=w
 K:=K
 mg:=mg
 base:=base
 A:=A.deeper (envOfC qual scope s.heap.objs.size f cd)
 N:=N
 s₀:=s
 H₀:=H
 env:=envOfC qual scope s.heap.objs.size f cd
 outer:=outer
 stack:=envOfC qual scope s.heap.objs.size f cd::outer
 ex:=[]
 calm:=true
 fn:=fun _=>true
 pn:=[]
 xe:=fun e s'=>bv (cr P w) (A.deeper (envOfC qual scope s.heap.objs.size f cd)) (leaving (envOfC qual scope s.heap.objs.size f cd) e) (fun _ s''=>CX outer H s E e s'') (fun e' s''=>CX outer H s E e' s'') s'
theorem LP{sc:dJ}{n:Nat}{x:Str}(h:sc.names.lookup x=some .cell):∃c,(cellsFrom n sc.names []).lookup x=some c:=by
 have q:=PySem.W.cellsFrom_some sc.names n [] (.inl h);exact Option.isSome_iff_exists.mp q
theorem OK{CX:CXT}{P:ce}{w:db}{K:Yx}{mg:Str->Option am}{base:dw}{N ps:List Str}{qual:Str}{scope:dJ}{f:ad}{cd:am}{A:dl}{outer:List Env}{s s1:aI}{H:Hp}{E:XK}{us:List am}{vs:List V}
 (S:Ah N ps scope) (hd:A.handled=none) (Y:IQ P w K mg base A outer s H) (hl:vs.length=ps.length) (r:AF vs us)
 (x:InCallC s s.heap.objs.size (bindL (envOfC qual scope s.heap.objs.size f cd).kindOf (ps.zip us) fun _=>none) (cellsFrom (s.heap.objs.size+1) scope.names []) (bindC (envOfC qual scope s.heap.objs.size f cd).kindOf (ps.zip us) fun _=>none) s1) :
 Inv (N4 CX P w K mg base N qual scope f cd A outer s H E) [] (EX N vs) H s1:=by
 have ak:ps.length<=N.length:=by have:=congrArg Zg S.pre;rw[Zh]at this;lia
 obtain⟨h1,tk,rfl,hk⟩:=x.done;have W:∀b:ad,b∉(N4 CX P w K mg base N qual scope f cd A outer s H E).ex:=fun b z=>absurd (show b∈([]:List ad) from z) (by simp)
 refine⟨⟨Y.mod,S.kind,Z,Z,YL _,fun y z c h1 h2=>?_,fun y O=>?_,fun y c _ h=>?_,fun _=>hd,Around.frames_deeper Y.frames,.inr ⟨Z,Z⟩,fun b z=>absurd z (W b),Y.bs,Y.bsz,fun b _ _=>W b,fun b z=>absurd z (W b),Y.funs,Y.frf⟩,
  rfl,Y.bare,Un.kept hk,⟨_,x.toInCall.ns,fun i y v h1 h2 h3=>?_⟩,fun y c h=>⟨_,x.cell y c h⟩,Y.hok.fresh (YL _),fun y c h=>?_,fun p J=>absurd (show p∈([]:List (ad×Obj)) from J) (by simp),Y.hok.kept hk,?_⟩
 ·exact name_of_addr x.apart (PySem.mem_of_lookup h1) (PySem.mem_of_lookup h2)
 ·have O:scope.names.lookup y=some .cell\/scope.names.lookup y=some .free:=O
  rcases O with O | O
  ·exact LP O
  ·exact absurd rfl (S.nofree _ (PySem.mem_of_lookup O))
 ·exact Yz (x.above y c (PySem.mem_of_lookup h))
 ·have hi:i<vs.length:=by
   unfold EX at h2;by_cases hi:i<vs.length
   ·exact hi
   ·rw[Zi (by simpa using hi)]at h2
    rw[Zj]at h2
    split at h2<;>cases h2
  have ha:vs[i]? = some v:=by
   unfold EX at h2;rw[Zk (by simpa using hi),Zl]at h2
   cases e:vs[i]? with
   | none=>rw[e]at h2;cases h2
   | some a=>rw[e]at h2;cases h2;rfl
  obtain⟨u,hu,rv⟩:=r.get ha
  have J:ps[i]? = some y:=by
   rw[<- S.pre,List.getElem?_take_of_lt (by lia)];exact h1
  have ab:ps.Nodup:=by rw[<- S.pre];exact S.nd.sublist (Zm _ _)
  refine⟨u,rv,?_⟩
  rcases S.par y (Zn J) with k | k
  ·exact .inl ⟨k,Jd ab J hu k⟩
  ·obtain⟨c,e⟩:=LP (n:=s.heap.objs.size+1) k;refine .inr ⟨.inl k,c,e,?_⟩;have q:=x.cell y c e;rw[Jf ab J hu (by show scope.names.lookup y≠_;rw[k];decide)]at q
   exact q
 ·exact Y.hok.fresh (Yz (x.above y c (PySem.mem_of_lookup h)))
 ·unfold EX;show _=N.length;rw[Zo,Z4,Zp]
  lia
theorem T1{CX:CXT}{P:ce}{w:db}{K:Yx}{mg:Str->Option am}{base:dw}{k:Nat}{f:ad}{name qual:Str}{O:fG}{body:List eU}{scope:dJ}{dV kV as pm Y ct oc:am}{an od:Option ad}
 {ba:Array (Option am)} {N ps:List Str} {sp:Sp} (lk:K.lookup f=some ⟨oc,od,.func (Zq name qual O body scope dV kV as pm an Y ct),ba⟩) (a0:Zr K Y qual=true) (S:Ah N ps scope)
 (ap:∀vs H Q E,sp vs H Q E->vs.length=ps.length)
 (al:∀(A:dl) (outer:List Env) (s:aI) (H:Hp) (vs:List V) (Q:VK) (E:XK),BK k (A.deeper (envOfC qual scope s.heap.objs.size f Y))->sp vs H Q E ->
  ∃t,PSs (N4 CX P w K mg base N qual scope f Y A outer s H E) body t/\t { nx:=fun _ H'=>Q .non H',rt:=Q } (EX N vs) H) :
 Ax P w K mg base CX (k+1) f (Zq name qual O body scope dV kV as pm an Y ct) ps sp:=by
 refine⟨ap,fun A outer s H args us vs Q E hr e0 hb r aC=>?_⟩;have hl:=ap _ _ _ _ aC;have KX:K.In s.heap:=e0.mod.kin.keeps fun b o e=>(e0.bs b o e).1;have aP:s.heap.NoLimit:=e0.mod.nolimit.keeps fun b o e=>(e0.bs b o e).1
 have ak:∀y∈ps.zip us,scope.names.lookup y.1=some .local\/(scope.names.lookup y.1=some .cell/\((cellsFrom (s.heap.objs.size+1) scope.names []).lookup y.1).isSome=true):=fun⟨n,v⟩ hy=>by
  rcases S.par n (Ze hy).1 with q | q
  ·exact .inl q
  ·exact .inr ⟨q,PySem.W.cellsFrom_some _ _ _ (.inl q)⟩
 refine codeAny_call_function hr.depth (KX _ _ lk) rfl S.co S.gen rfl (PySem.W.codeRec_of KX a0) (hb _ _ _ _ ?_);refine wpAny_newFunctionEnv_cells S.kind ak fun env he s1 x=>?_;subst he;refine⟨aP.keeps x.toInCall.keep,codeAny_func ?_⟩;obtain⟨t,ht,hq⟩:=al A outer s H vs Q E (hr.deeper _) aC;have I:Inv (N4 CX P w K mg base N qual scope f Y A outer s H E) [] (EX N vs) H s1:=OK S hr.hd e0 hl r x;refine dF (ht [] s1 (EX N vs) H _ I hq) (fun fl s' hs=>?_) fun e s' hs=>hs
 have aF:∀{ab:St} {H':Hp} {v:V} {u:am},Inv (N4 CX P w K mg base N qual scope f Y A outer s H E) [] ab H' s'->AJ v u->Q v H'->CE outer P w H s Q u s' :=
  fun{ab H' v u} J rv q=>⟨v,H',J.os,J.bare,J.base,J.hok,rv,q⟩
 cases fl with
 | ret u =>
   obtain⟨v,ab,H',J,rv,q⟩:=hs;exact aF J rv q
 | next =>
   obtain⟨ab,H',J,q⟩:=hs;exact aF (v:=V.non) (u:=Value.none) J rfl q
 | brk =>
   obtain⟨_,_,_,q⟩:=hs;exact False.elim q
 | cont =>
   obtain⟨_,_,_,q⟩:=hs;exact False.elim q
section
variable {X:Cx}{x:Str}{p pos:Pos}{e:Expr}{es:List Expr}{t:TA}{id T:String}{r:List V->Hp->VK->Prop}
def tCB(r:List V->Hp->VK->Prop)(t:TA):TE:=fun σ H Q=>t σ H fun vs H1=>r vs H1 Q
theorem Ak(hc:Cp X (.builtin id) r)(hg:Gl X x)(hm:X.mg x=none)(hv:dy x=some (.builtin id))(ha:PA X (e::es) t)(hn:x ≠ "__name__":=by decide)(Y:(x == ("__debug__" : Str))=false:=by decide)
 (J:cQ (e::es) X.env=(false,dE e X.env)::cQ es X.env:=by rfl) (W:(dU pos (cQ es X.env)).any (·.1)=false:=by rfl):PE X (.Call (.Name x p) (e::es) [] pos) (tCB r t):=by
 intro pins s σ H Q I h;refine eF (CG I hg hm hv ?_ hn Y);exact PyProof.Rows.callWith_builtin1 (thn (ha pos pins s σ H _ I h) fun us s1 ⟨vs,H1,O,r1,q1⟩=>hc pins s1 σ H1 vs us Q O r1 q1) J W
theorem AQ(hc:Cp X (.type T) r)(hg:Gl X x)(hm:X.mg x=none)(hv:dy x=some (.type T))(ha:PA X (e::es) t)(hn:x ≠ "__name__":=by decide)(Y:(x == ("__debug__" : Str))=false:=by decide)
 (J:cQ (e::es) X.env=(false,dE e X.env)::cQ es X.env:=by rfl) (W:(dU pos (cQ es X.env)).any (·.1)=false:=by rfl):PE X (.Call (.Name x p) (e::es) [] pos) (tCB r t):=by
 intro pins s σ H Q I h;refine eF (CG I hg hm hv ?_ hn Y);exact PyProof.Rows.callWith_type1 (thn (ha pos pins s σ H _ I h) fun us s1 ⟨vs,H1,O,r1,q1⟩=>hc pins s1 σ H1 vs us Q O r1 q1) J W
end
end L2
namespace HT
open PySem PyProof.Rows
section
open PySem.SeqAt
open PySem.AutoSeq1 (wpAny_loadPart')
open PySem.MeetsSeq PySem.MeetsSeq2 PySem.MeetsSeq3
end
section
variable {prog:ce}{w:db}{A:dl}{E:am->aI->Prop}{s:aI}
theorem cat_tup{t b:ad}{vs ws:List am}{Q:am->aI->Prop}(ht:IsTup s.heap t vs.toArray)(hb:IsTup s.heap b ws.toArray)(hv:vs≠[])
 (h1:ws=[]->Q (.ref t) s) (h2:ws≠[]->Q (.ref s.heap.objs.size) { s with heap:=s.heap.push { cls:=.type "tuple",data:=.seq (vs++ws).toArray } })
 (hsz:vs.length+ws.length<=bi):bv (cr prog w) A (dY .Add (.ref t) (.ref b)) Q E s:=by
 obtain⟨⟨cls,dd,data,sl⟩,ho,hc,n,hd⟩:=id ht;obtain⟨⟨al,ab,ak,J⟩,Y,O,n2,W⟩:=id hb;simp only at hc hd O W;subst hc hd O W;have e:vs.toArray++ws.toArray=(vs++ws).toArray:=by simp
 by_cases hw:ws=[]
 ·exact concat_meets ⟨_,ho,Z⟩ ⟨_,Y,Z⟩ noFill_tuple_add seq_tuple_add PySem.F.slot_tuple_add PySem.F.entry_tuple_add (PySem.F.args_tuple_add_2 _ _)
   (tuple_addW1 t b vs.toArray ws.toArray n n2 dd ab sl J (by simpa using hv) (by simp[hw])) ⟨ho,Y,h1 hw⟩
 ·refine concat_meets ⟨_,ho,Z⟩ ⟨_,Y,Z⟩ noFill_tuple_add seq_tuple_add PySem.F.slot_tuple_add PySem.F.entry_tuple_add (PySem.F.args_tuple_add_2 _ _)
   (tuple_addW2 t b vs.toArray ws.toArray n n2 dd ab sl J (by simpa using hv) (by simpa using hw) (by rw[Zs,Zs];exact hsz)) ⟨ho,Y,?_⟩
  rw[e];exact h2 hw
def sIx(n d:Nat):Option Int->Nat
 | none=>d
 | some v=>if v<0 then (v+(n:Int)).toNat else min v.toNat n
theorem sIx_nat(n d k:Nat):sIx n d (some (k:Int))=min k n:=by
 show(if (k:Int)<0 then ((k:Int)+(n:Int)).toNat else min (k:Int).toNat n)=min k n;rw[if_neg (by lia),Zt]
theorem sIx_le(n d:Nat)(Y:d<=n)(o:Option Int):sIx n d o<=n:=by
 cases o with
 | none=>exact Y
 | some v =>
   show(if v<0 then (v+(n:Int)).toNat else min v.toNat n)<=n;by_cases hv:v<0
   ·rw[if_pos hv];lia
   ·rw[if_neg hv];exact Zu _ _
theorem clip_eq(v:Int)(n d:Nat):(if v<0 then max (v+(n:Int)) 0 else min v (n:Int))=((sIx n d (some v):Nat):Int):=by
 show(if v<0 then max (v+(n:Int)) 0 else min v (n:Int))=(((if v<0 then (v+(n:Int)).toNat else min v.toNat n):Nat):Int);by_cases hv:v<0
 ·rw[if_pos hv,if_pos hv,Int.toNat_eq_max]
 ·rw[if_neg hv,if_neg hv];obtain⟨k,rfl⟩:=Int.eq_ofNat_of_zero_le (Int.not_lt.mp hv);rw[Zt]
  rcases Nat.le_total k n with h | h
  ·rw[Zv h,Int.min_eq_left (Int.ofNat_le.mpr h)]
  ·rw[Zw h,Int.min_eq_right (Int.ofNat_le.mpr h)]
theorem adjust_gen(lo hi:Option Int)(n:Nat):Builtin.Slice.sliceAdjust lo hi 1 (n:Int)=(((sIx n 0 lo:Nat):Int),((sIx n n hi:Nat):Int)):=by
 have h1:¬((1:Int)<0):=by lia
 unfold Builtin.Slice.sliceAdjust;simp only[h1,if_false];refine Prod.ext ?_ ?_
 ·cases lo with
  | none=>rfl
  | some v=>exact clip_eq v n 0
 ·cases hi with
  | none=>rfl
  | some v=>exact clip_eq v n n
theorem places_gen(i j:Nat):Builtin.Slice.slicePlaces (i:Int) (j:Int) 1=j-i:=by
 unfold Builtin.Slice.slicePlaces;have h1:(1:Int) > 0:=by lia
 simp only[h1,if_true,Int.ediv_one]
 split<;>lia
theorem slicePart_{v:am}{o:Option Int}{Q:Option Int->aI->Prop}(p:IsPart v o)(h:Q o s):bv (cr prog w) A (Builtin.Slice.slicePartIndex v) Q E s:=by
 cases p with
 | none=>exact slicePart_none h
 | int i t=>exact slicePart_int h
theorem sliceApplied_gen{J:ad}{vl O:am}{lo hi:Option Int}{n:Nat}{Q:Int×Int×Nat->aI->Prop}(hs:s.heap.IsSliceOf J vl O .none)(pl:IsPart vl lo)(pu:IsPart O hi)
 (h:Q (((sIx n 0 lo:Nat):Int),1,sIx n n hi-sIx n 0 lo) s):bv (cr prog w) A (Builtin.Slice.sliceApplied (.ref J) (pure (n:Int))) Q E s:=by
 obtain⟨os,W,ab,Y⟩:=id hs;unfold Builtin.Slice.sliceApplied Builtin.Slice.sliceFields;refine ac (ac (dB W Y (x:=vl) rfl (ac (dB W Y (x:=O) rfl (ac (dB W Y (x:=.none) rfl (aQ ?_)))))));refine ac (slicePart_none ?_);show bv _ _ (if ((1:Int) == 0)=true then _ else _) _ _ s;rw[if_neg (by decide)]
 refine ac (slicePart_ pl (ac (slicePart_ pu (ac (aQ ?_)))));show bv _ _ (match Builtin.Slice.sliceAdjust lo hi 1 (n:Int) with | (lo,hi)=>pure (lo,(1:Int),Builtin.Slice.slicePlaces lo hi 1)) _ _ s
 rw[adjust_gen lo hi n];show bv _ _ (pure (((sIx n 0 lo:Nat):Int),(1:Int),Builtin.Slice.slicePlaces ((sIx n 0 lo:Nat):Int) ((sIx n n hi:Nat):Int) 1)) _ _ s;rw[places_gen];exact aQ h
theorem pick_gen(xs:Array am)(i k:Nat):((Yu k).filterMap fun(m:Nat)=>xs[((i:Int)+(m:Int)*1).toNat]?).toArray=((xs.toList.drop i).take k).toArray:=by
 have e:(fun(m:Nat)=>xs[((i:Int)+(m:Int)*1).toNat]?)=fun m=>xs[i+m]?:=by
  funext m
  have:((i:Int)+(m:Int)*1).toNat=i+m:=by lia
  rw[this]
 rw[e];have:=pick_run xs i k;rw[List.filterMap_map]at this;have Y:((fun x=>xs[x]?) ∘ fun x=>i+x)=fun m=>xs[i+m]?:=rfl;rw[Y]at this;rw[this]
theorem getItem_tuple_cut{t O:ad}{items:Array am}{vl vu:am}{lo hi:Option Int}{Q:am->aI->Prop}(W:IsTup s.heap t items)(hs:s.heap.IsSliceOf O vl vu .none)(pl:IsPart vl lo)(pu:IsPart vu hi)
 (hw:¬(sIx items.size 0 lo=0/\sIx items.size items.size hi=items.size))
 (h:Q (.ref s.heap.objs.size) { s with heap:=s.heap.push { cls:=.type "tuple",data:=.seq ((items.toList.drop (sIx items.size 0 lo)).take (sIx items.size items.size hi-sIx items.size 0 lo)).toArray } })
 (hsz:items.size<=bi):bv (cr prog w) A (fE (.ref t) (.ref O)) Q E s:=by
 have Y:sizeOk (.seq ((items.toList.drop (sIx items.size 0 lo)).take (sIx items.size items.size hi-sIx items.size 0 lo)).toArray):=by
  show((items.toList.drop (sIx items.size 0 lo)).take (sIx items.size items.size hi-sIx items.size 0 lo)).toArray.size<=bi;rw[Zs,Zh,Zx,YJ];exact Yy (Yy (Zu _ _) (Zy _ _)) hsz
 have hj:sIx items.size items.size hi<=items.size:=sIx_le _ _ (YL _) hi;obtain⟨os,al,ab,an⟩:=id hs;have J:s.TypeIs (.ref O) "slice":=⟨os,al,ab⟩;unfold fE
 try with_reducible refine dz ?_
 first | refine ac (aQ ?_) | skip
 refine ac (wpAny_sequenceKey W.typeIs (by decide) ?_)
 refine ac (dD (name:=Str.ofString "__getitem__") W.typeIs PyProof.Rows.slot_tuple_getitem
  (dP PyProof.Rows.slot_tuple_getitem W.typeIs entry_tuple_getitem ?_ (args_tuple_getitem _ _)))
 show bv _ _ (Builtin.Tuple.tupleItemsOf (.ref t) >>= _) _ _ s;refine ac (tupleItemsOf_ W ?_);refine ac (fF J ?_);rw[if_pos (by decide)]
 refine ac (sliceApplied_gen hs pl pu ?_)
 have ak:¬((((sIx items.size 0 lo:Nat):Int) == 0&&(1:Int) == 1&&(sIx items.size items.size hi-sIx items.size 0 lo) == items.size)=true):=by
  intro q;rw[Bool.and_eq_true,Bool.and_eq_true]at q;have q1:((sIx items.size 0 lo:Nat):Int)=0:=eq_of_beq q.1.1;have q2:sIx items.size items.size hi-sIx items.size 0 lo=items.size:=eq_of_beq q.2;exact hw ⟨by lia,by lia⟩
 show bv _ _ (if (((sIx items.size 0 lo:Nat):Int) == 0&&(1:Int) == 1&&(sIx items.size items.size hi-sIx items.size 0 lo) == items.size)=true then _ else _) _ _ s;rw[if_neg ak,pick_gen]
 first
  | exact ac (m:=Builtin.Tuple.tupleExact _) (dO (aQ ⟨_,Z,aQ h⟩) Y)
  | exact ac (m:=Builtin.Tuple.tupleExact _) (dO (ac (aQ (aQ ⟨_,Z,aQ h⟩))) Y)
  | exact ac (ac (m:=Builtin.Tuple.tupleExact _) (dO (aQ (aQ ⟨_,Z,aQ h⟩)) Y))
  | exact ac (ac (m:=Builtin.Tuple.tupleExact _) (dO (aQ ⟨_,Z,aQ h⟩) Y))
end
end HT
namespace L2
open PySem PySem.Spec PyProof.Rows
abbrev TO:=St->Hp->(Option Int->Hp->Prop)->Prop
def PO(X:Cx)(e:Option Expr)(t:TO):Prop :=
 ∀ (pins:List (ad×Obj)) (s:aI) (σ:St) (H:Hp) (Q:Option Int->Hp->Prop),Inv X pins σ H s->t σ H Q ->
   bv (cr X.prog X.w) X.A (evalPart e X.env) (fun u s'=>∃o H',Inv X pins σ H' s'/\IsPart u o/\Q o H') X.xe s
def Rv:TO:=fun _ H Q=>Q none H
def UQ(t:TE):TO:=fun σ H Q=>t σ H fun x H1=>∃i,x = .int i/\Q (some i) H1
section
variable {X:Cx}{e:Expr}{te:TE}{lo hi:Option Expr}{tl th:TO}{pos p2:Pos}
theorem C4:PO X none Rv:=by
 intro pins s σ H Q I h;rw[evalPart_none];exact aQ ⟨none,H,I,.none,h⟩
theorem C3(h:PE X e te):PO X (some e) (UQ te):=by
 intro pins s σ H Q I hw;rw[evalPart_some];refine thn (h pins s σ H _ I hw) fun u O ⟨x,H1,Y,r1,W⟩=>?_;obtain⟨i,rfl,q⟩:=W;obtain⟨t,rfl⟩:=r1;exact⟨some i,H1,Y,.int i t,q⟩
def SlR(X:Cx)(r:V->Option Int->Option Int->Hp->VK->Prop):Prop :=
 ∀ (pins:List (ad×Obj)) (s:aI) (σ:St) (H:Hp) (x:V) (v vl vu:am) (lo hi:Option Int) (sl:ad) (Q:VK),Inv X pins σ H s->AJ x v->s.heap.IsSliceOf sl vl vu .none->IsPart vl lo->IsPart vu hi->r x lo hi H Q ->
   ∃T id,fm (.type T) "__getitem__" = pure (some (.builtin id))/\s.TypeIs v T/\bv (cr X.prog X.w) X.A (fE v (.ref sl)) (EP X pins σ Q) X.xe s
theorem SlR.or{r r':V->Option Int->Option Int->Hp->VK->Prop}(h:SlR X r)(h':SlR X r'):SlR X (fun x lo hi H Q=>r x lo hi H Q\/r' x lo hi H Q):=by
 intro pins s σ H x v vl W lo hi O Q I Y hs pl J q
 rcases q with q | q
 ·exact h pins s σ H x v vl W lo hi O Q I Y hs pl J q
 ·exact h' pins s σ H x v vl W lo hi O Q I Y hs pl J q
def tSl(r:V->Option Int->Option Int->Hp->VK->Prop)(te:TE)(tl th:TO):TE:=fun σ H Q=>te σ H fun x H1=>tl σ H1 fun l H2=>th σ H2 fun u H3=>r x l u H3 Q
theorem Bz{r:V->Option Int->Option Int->Hp->VK->Prop}(hr:SlR X r)(O:PE X e te)(hl:PO X lo tl)(hu:PO X hi th):PE X (.Subscript e (.Slice lo hi none p2) pos) (tSl r te tl th):=by
 intro pins s σ H Q I h;refine Subscript_ (thn (O pins s σ H _ I h) fun v s1 ⟨x,H1,I1,r1,q1⟩=>?_);refine wpAny_Slice (thn (hl pins s1 σ H1 _ I1 q1) fun vl s2 ⟨l,H2,I2,pl,q2⟩=>thn (hu pins s2 σ H2 _ I2 q2) fun vu Y ⟨u,W,I3,pu,q3⟩=>?_);rw[evalPart_none];refine aQ ?_;have I4:Inv X pins σ W { Y with heap:=Y.heap.push { cls:=.type "slice",data:=.fields #[vl,vu,.none] } }:=I3.kept (t':=Y.toks) fun b ob q=>Heap.get?_push_of_some _ q
 obtain⟨T,id,J,ht,hg⟩:=hr pins { Y with heap:=Y.heap.push { cls:=.type "slice",data:=.fields #[vl,vu,.none] } } σ W x v vl vu l u Y.heap.objs.size Q I4 r1 (Heap.IsSliceOf.new ..) pl pu q3
 show bv (cr X.prog X.w) X.A (subscriptTail e (.Slice lo hi none p2) v (.ref Y.heap.objs.size)) (EP X pins σ Q) X.xe { Y with heap:=Y.heap.push { cls:=.type "slice",data:=.fields #[vl,vu,.none] } }
 exact tail_any (ops:=[.ref Y.heap.objs.size,v]) ht J hg (by with_unfolding_all rfl)
def CM(xs:List V)(lo hi:Option Int):List V:=(xs.drop (HT.sIx xs.length 0 lo)).take (HT.sIx xs.length xs.length hi-HT.sIx xs.length 0 lo)
theorem GA(xs:List V)(lo hi:Option Int):(CM xs lo hi).length<=xs.length:=by
 unfold CM;rw[Zh,Zx];exact Yy (Zu _ _) (Zy _ _)
inductive Tx(K:Yx)(x:V)(lo:Option Int)(hi:Option Int)(H:Hp)(Q:VK):Prop
 | mk (a:_) (xs:_) (h1:x = .ref a) (h2:SqT K H a xs) (h3:¬(HT.sIx xs.length 0 lo=0/\HT.sIx xs.length xs.length hi=xs.length)) (h4:∀p,H p=none->Q (.ref p) (upd H p (.tup (CM xs lo hi)))):Tx K x lo hi H Q
theorem Ts:SlR X (Tx X.K):=by
 intro pins s σ H x v vl vu lo hi sl Q I J hs pl pu h;obtain⟨a,xs,rfl,hx,hw,q⟩:=h;cases J;obtain⟨W,r,O,hz⟩:=I.tuple hx;have Y:W.toArray.size=xs.length:=by rw[Zs];exact r.length.symm
 refine⟨"tuple",_,PyProof.Rows.slot_tuple_getitem.lookup,O.typeIs,?_⟩;refine HT.getItem_tuple_cut O hs pl pu (by rw[Y];exact hw) ?_ (by rw[Y];exact hz)
 rw[Y];refine⟨.ref s.heap.objs.size,_,I.laid (t':=s.toks) (o:=.tup (CM xs lo hi)) (fun b ob q=>Heap.get?_push_of_some _ q) (YL _) ?_,Z,q _ (I.hok.fresh (YL _))⟩;exact⟨Yy (GA xs lo hi) hz,_,(r.drop (HT.sIx xs.length 0 lo)).take (HT.sIx xs.length xs.length hi-HT.sIx xs.length 0 lo),IsTup.new _ _⟩
inductive Q5(K:Yx)(x:V)(y:V)(H:Hp)(Q:VK):Prop
 | mk (a:_) (b:_) (xs:_) (ys:_) (h1:x = .ref a) (h2:y = .ref b) (h3:SqT K H a xs) (h4:SqT K H b ys) (h5:xs≠[]) (h6:xs.length+ys.length<=bi) (h7:(ys=[]->Q (.ref a) H)) (h8:(ys≠[]->∀p,H p=none->Q (.ref p) (upd H p (.tup (xs++ys))))):Q5 K x y H Q
theorem AF.nil_iff{xs:List V}{us:List am}(r:AF xs us):us=[]↔xs=[]:=by
 cases r with
 | nil=>simp
 | cons _ _=>simp
theorem S2:OpR X (dY .Add) (Q5 X.K):=by
 intro pins s σ H x y v u Q I W O h;obtain⟨a,b,xs,ys,rfl,rfl,ha,hb,hx,hz,q1,q2⟩:=h;cases W;cases O;obtain⟨ab,r1,J,_⟩:=I.tuple ha;obtain⟨Y,r2,p2,_⟩:=I.tuple hb;refine HT.cat_tup J p2 (fun z=>hx (r1.nil_iff.mp z)) (fun z=>⟨.ref a,H,I,Z,q1 (r2.nil_iff.mp z)⟩) (fun z=>?_) (by rw[<- r1.length,<- r2.length];exact hz)
 refine⟨.ref s.heap.objs.size,_,I.laid (t':=s.toks) (o:=.tup (xs++ys)) (fun b ob q=>Heap.get?_push_of_some _ q) (YL _) ?_,Z,q2 (fun w=>z (r2.nil_iff.mpr w)) _ (I.hok.fresh (YL _))⟩;exact⟨by rw[Zo];exact hz,_,r1.append r2,IsTup.new _ _⟩
end
def ixN(n:Nat)(i:Int):Option Nat:=if 0<=i then (if i<n then some i.toNat else none) else if -(n:Int)<=i then some (i+n).toNat else none
def atI{α:Type}(xs:List α)(i:Int):Option α:=(ixN xs.length i).bind fun j=>xs[j]?
theorem NL{n:Nat}{i:Int}{j:Nat}(h:ixN n i=some j):seqIndex? i n=some j/\j<n /\ -(n:Int)<=i/\i<n:=by
 unfold ixN at h;by_cases h0:0<=i
 ·rw[if_pos h0]at h;by_cases h1:i<n
  ·rw[if_pos h1]at h;have e:i.toNat=j:=Yo.inj h;exact⟨by rw[seqIndex_of h0 h1,e],by lia,by lia,h1⟩
  ·rw[if_neg h1]at h;cases h
 ·rw[if_neg h0]at h;by_cases h1 : -(n:Int)<=i
  ·rw[if_pos h1]at h;have e:(i+n).toNat=j:=Yo.inj h;exact⟨by rw[seqIndex_neg (by lia) h1,e],by lia,h1,by lia⟩
  ·rw[if_neg h1]at h;cases h
theorem Ki{Y:Type}{xs:List Y}{i:Int}{v:Y}(h:atI xs i=some v):∃j,seqIndex? i xs.length=some j/\xs[j]? = some v/\j<xs.length /\ -(xs.length:Int)<=i/\i<xs.length:=by
 unfold atI at h;cases e:ixN xs.length i with
 | none=>rw[e]at h;cases h
 | some j =>
   rw[e]at h;obtain⟨h1,h2,O,W⟩:=NL e;exact⟨j,h1,h,h2,O,W⟩
theorem AB{Y:Type}{xs:List Y}{j:Nat}{v:Y}(h:xs[j]? = some v):atI xs (j:Int)=some v:=by
 have W:j<xs.length:=(YG.mp h).1
 have e:ixN xs.length (j:Int)=some j:=by
  unfold ixN;rw[if_pos (by lia),if_pos (by lia)];simp
 unfold atI;rw[e];exact h
def Sz(b:Expr):Prop:=∀o i,subscripted b false o i=operate [o,i] (fE o i)
def IxR(X:Cx)(r:R2):Prop :=
 ∀ (value slice:Expr) (pins:List (ad×Obj)) (s:aI) (σ:St) (H:Hp) (x y:V) (v u:am) (Q:VK),Inv X pins σ H s->AJ x v->AJ y u->r x y H Q ->
   subscripted slice false v u=operate [v,u] (fE v u)->bv (cr X.prog X.w) X.A (subscriptTail value slice v u) (EP X pins σ Q) X.xe s
def MtR(X:Cx)(id:String)(r:V->List V->Hp->VK->Prop):Prop :=
 ∀ (pins:List (ad×Obj)) (s:aI) (σ:St) (H:Hp) (x:V) (xs:List V) (v:am) (us:List am) (Q:VK),Inv X pins σ H s->AJ x v->AF xs us->r x xs H Q ->
   bv (cr X.prog X.w) X.A (call (.builtin id) (v::us)) (EP X pins σ Q) X.xe s
section
variable {X:Cx}{a b:Expr}{ta tb:TE}{pos:Pos}
theorem Ag{r:R2}(hr:IxR X r)(ha:PE X a ta)(J:PE X b tb)(hs:Sz b):PE X (.Subscript a b pos) (tOp r ta tb):=by
 intro pins s σ H Q I h;exact Subscript_ (UD ha J I h fun v u O x y H2 I2 Y W q=>hr a b pins O σ H2 x y v u Q I2 Y W q (hs _ _))
inductive TF(K:Yx)(x:V)(y:V)(H:Hp)(Q:VK):Prop
 | mk (p:_) (xs:_) (i:_) (v:_) (h1:x = .ref p) (h2:y = .int i) (h3:SqL K H p xs) (h4:atI xs i=some v) (h5:Q v H):TF K x y H Q
inductive TC(K:Yx)(x:V)(y:V)(H:Hp)(Q:VK):Prop
 | mk (p:_) (xs:_) (i:_) (v:_) (h1:x = .ref p) (h2:y = .int i) (h3:SqT K H p xs) (h4:atI xs i=some v) (h5:Q v H):TC K x y H Q
inductive V4(x:V)(y:V)(H:Hp)(Q:VK):Prop
 | mk (z:_) (i:_) (c:_) (h1:x = .str z) (h2:y = .int i) (h3:z.length<=bi) (h4:atI z.cps.toList i=some c) (h5:Q (.str ⟨#[c]⟩) H):V4 x y H Q
theorem Se:IxR X (TF X.K):=by
 intro value J pins s σ H x y v u Q I rx ry h hs;obtain⟨p,xs,i,z,rfl,rfl,hq,he,q⟩:=h;cases rx;obtain⟨t,rfl⟩:=ry;obtain⟨ab,r,pl,hz⟩:=I.list hq;obtain⟨j,h1,h2,h3,h4,h5⟩:=Ki he;obtain⟨w,ew,W⟩:=r.get h2;have hl:=r.length;have hn:=Ge;have Y:EP X pins σ Q w s:=⟨z,H,I,W,q⟩;by_cases h0:0<=i
 ·have O:i.toNat=j:=by
   rw[seqIndex_of h0 h5]at h1;exact Yo.inj h1
  exact item_listR pl.isList h0 (by lia) (by rw[O];simpa using ew) Y hs
 ·have O:(i+(ab.toArray.size:Int)).toNat=j:=by
   rw[seqIndex_neg (by lia) h4]at h1
   rw[Zs,<- hl];exact Yo.inj h1
  exact subscriptTail_builtinR (x:=w) pl.isList.typeIs slot_list_getitem.lookup
   (wpAny_getItem_list_neg (Q:=fun r s'=>r=w/\EP X pins σ Q r s') pl.isList (by lia) (by rw[Zs]<;>lia) (by lia) (by rw[O];simpa using ew) ⟨Z,Y⟩) hs
theorem Uo:IxR X (TC X.K):=by
 intro value O pins s σ H x y v u Q I J ry h hs;obtain⟨p,xs,i,z,rfl,rfl,hq,he,q⟩:=h;cases J;obtain⟨t,rfl⟩:=ry;obtain⟨ab,r,pl,hz⟩:=I.tuple hq;obtain⟨j,h1,h2,h3,h4,h5⟩:=Ki he;obtain⟨w,ew,W⟩:=r.get h2;have hl:=r.length;have hn:=Ge;have Y:EP X pins σ Q w s:=⟨z,H,I,W,q⟩
 exact subscriptTail_builtinR (x:=w) pl.typeIs slot_tuple_getitem.lookup
  (getItem_tuple (j:=j) (Q:=fun r s'=>r=w/\EP X pins σ Q r s') pl (by lia) (by lia) (by rw[Zs,<- hl];exact h1) (by simpa using ew) ⟨Z,Y⟩) hs
theorem Uq:IxR X V4:=by
 intro value Y pins s σ H x y v u Q I W J h hs;obtain⟨z,i,c,rfl,rfl,hz,O,q⟩:=h;obtain⟨t,rfl⟩:=W;obtain⟨t',rfl⟩:=J;obtain⟨j,h1,h2,h3,h4,h5⟩:=Ki O;have hl:z.cps.toList.length=z.length:=by simp[Str.length]
 rw[hl]at h1 h4 h5;have hn:=Ge
 exact tail_any (fJ s z t) slot_str_getitem.lookup (getItem_str (c:=c) (by
  have e1:decide (i < -(2 ^ 63:Int))=false:=decide_eq_false (by lia)
  have e2:decide (i ≥ 2 ^ 63)=false:=decide_eq_false (by lia)
  rw[e1,e2,Bool.or_false]) (by rw[h1];simpa using h2) ⟨.str ⟨#[c]⟩,H,I.tok _,⟨_,Z⟩,q⟩) hs
theorem MN(Y:List am)(n j:Nat)(u:am):Obj.mapSeq (·.setIfInBounds j u) { cls:=.type "list",data:=.seq Y.toArray n }={ cls:=.type "list",data:=.seq (Y.set j u).toArray n }:=by
 simp[Obj.mapSeq]
theorem Inv.lst{pins:List (ad×Obj)}{σ:St}{H:Hp}{s:aI}{p:ad}{xs:List V}(I:Inv X pins σ H s)(h:H p=some (.lst xs)) :
 ∃(Y:List am) (n:Nat),AF xs Y/\s.heap.get? p=some { cls:=.type "list",data:=.seq Y.toArray n }/\xs.length<=bi:=by
 obtain⟨z,Y,n,r,e⟩:=I.hok p _ h;exact⟨Y,n,r,e,z⟩
theorem Inv.lstUpd{pins:List (ad×Obj)}{σ:St}{H:Hp}{s:aI}{p:ad}{xs ys:List V}{Y its':List am}{n W:Nat}{f:Obj->Obj}(I:Inv X pins σ H s)(h:H p=some (.lst xs))
 (J:s.heap.get? p=some { cls:=.type "list",data:=.seq Y.toArray n }) (O:f { cls:=.type "list",data:=.seq Y.toArray n }={ cls:=.type "list",data:=.seq its'.toArray W }) (r:AF ys its') (hz:ys.length<=bi) (t:Nat) :
 Inv X pins σ (upd H p (.lst ys)) { s with heap:=s.heap.update p f,toks:=t }:=by
 have e:(s.heap.update p f).get? p=some { cls:=.type "list",data:=.seq its'.toArray W }:=by
  rw[Heap.get?_update_self f J (by rw[O]<;>rfl),O]
 refine I.write (x:=p) (e:=p) (by rw[h];trivial) (.inl rfl) (fun b u hb q=>(Heap.get?_update_other _ _ (Ne.symm hb)).trans q) ⟨_,e⟩ ?_
 exact⟨hz,its',W,r,e⟩
inductive SK(o:V)(i:V)(v:V)(H:Hp)(Q:(Hp->Prop)):Prop
 | mk (p:_) (xs:_) (k:_) (j:_) (h1:o = .ref p) (h2:i = .int k) (h3:H p=some (.lst xs)) (h4:ixN xs.length k=some j) (h5:Q (upd H p (.lst (xs.set j v)))):SK o i v H Q
theorem Ff:Vr X SK:=by
 intro pins s σ H o i v ov iv u Q I ro ri rv h;obtain⟨p,xs,k,j,rfl,rfl,hp,hj,q⟩:=h;cases ro;obtain⟨t,rfl⟩:=ri;obtain⟨Y,n,r,O,hz⟩:=I.lst hp;obtain⟨h1,h2,h3,h4⟩:=NL hj;have J:=r.length;have hn:=Ge
 have I':Inv X pins σ (upd H p (.lst (xs.set j v))) { s with heap:=s.heap.update p (Obj.mapSeq (·.setIfInBounds j u)) } :=
  I.lstUpd hp O (MN Y n j u) (r.set rv j) (by rw[Zz];exact hz) s.toks
 by_cases h0:0<=k
 ·have hk:k.toNat=j:=by
   rw[seqIndex_of h0 h4]at h1;exact Yo.inj h1
  exact PySem.W.ki_setAt O h0 (by lia) (by rw[Zs,<- J];exact h4) (by rw[hk];exact⟨_,I',q⟩)
 ·have hk:(k+(Y.toArray.size:Int)).toNat=j:=by
   rw[seqIndex_neg (by lia) h3]at h1
   rw[Zs,<- J];exact Yo.inj h1
  exact PySem.W.ki_setBack O (by lia) (by rw[Zs,<- J];exact h3) (by lia) (by rw[hk];exact⟨_,I',q⟩)
theorem JB(lo hi:Option Int)(n:Nat):(fP lo hi none n).1=((HT.sIx n 0 lo:Nat):Int)/\(fP lo hi none n).2.1=((HT.sIx n n hi:Nat):Int)/\(fP lo hi none n).2.2=1:=by
 have Y:∀(i:Int) (d:Nat),max 0 (min (if i<0 then i+(n:Int) else i) (n:Int))=((HT.sIx n d (some i):Nat):Int):=by
  intro i d;rw[<- HT.clip_eq];by_cases h:i<0
  ·rw[if_pos h,if_pos h,Int.min_eq_left (by lia),Int.max_comm]
  ·rw[if_neg h,if_neg h,Int.max_eq_right (Int.le_min.mpr ⟨by lia,by lia⟩)]
 refine⟨?_,?_,Z⟩
 ·cases lo with
  | none=>simp[fP,HT.sIx]
  | some i=>exact Y i 0
 ·cases hi with
  | none=>simp[fP,HT.sIx]
  | some i=>exact Y i n
theorem Im(Y:List am)(lo hi:Option Int):slicePick Y.toArray lo hi none=((Y.drop (HT.sIx Y.length 0 lo)).take (HT.sIx Y.length Y.length hi-HT.sIx Y.length 0 lo)).toArray:=by
 obtain⟨h1,h2,W⟩:=JB lo hi Y.toArray.size;unfold slicePick;rw[h1,h2,W];simp only[sliceRange_one,pick_run,Zs]<;>rfl
inductive Tz(K:Yx)(x:V)(lo:Option Int)(hi:Option Int)(H:Hp)(Q:VK):Prop
 | mk (a:_) (xs:_) (h1:x = .ref a) (h2:SqL K H a xs) (h3:∀p,H p=none->Q (.ref p) (upd H p (.lst (CM xs lo hi)))):Tz K x lo hi H Q
theorem RD:SlR X (Tz X.K):=by
 intro pins s σ H x v vl vu lo hi sl Q I O hs pl J h;obtain⟨a,xs,rfl,hx,q⟩:=h;cases O;obtain⟨ab,r,W,hz⟩:=I.list hx;have Y:=r.length;refine⟨"list",_,slot_list_getitem.lookup,W.isList.typeIs,?_⟩;refine wpAny_getItem_list_slice W.isList hs pl J .none (by simp) ?_ (by rw[Zs]<;>lia)
 rw[Im,<- Y];refine⟨.ref s.heap.objs.size,_,I.laid (t':=s.toks) (o:=.lst (CM xs lo hi)) (fun b ob q=>Heap.get?_push_of_some _ q) (YL _) ?_,Z,q _ (I.hok.fresh (YL _))⟩;exact⟨Yy (GA xs lo hi) hz,_,0,(r.drop (HT.sIx xs.length 0 lo)).take (HT.sIx xs.length xs.length hi-HT.sIx xs.length 0 lo),Heap.get?_push_size _ rfl⟩
def Gz:V->Bool
 | .non=>true
 | .bl _=>true
 | .int _=>true
 | .str _=>true
 | _=>false
def eqV:V->V->Bool
 | .non,.non=>true
 | .bl a,.bl b=>a == b
 | .bl a,.int b=>(if a then 1 else 0) == b
 | .int a,.bl b=>a == (if b then 1 else 0)
 | .int a,.int b=>a == b
 | .str a,.str b=>a == b
 | _,_=>false
theorem Uy{A:dl}{s:aI}{y x:V}{u v:am}(O:AJ y u)(Y:AJ x v)(J:Gz y=true)(W:Gz x=true):SeqAt.EqAt A s u v (eqV y x):=by
 cases y with
 | non =>
   cases O;cases x with
   | non=>cases Y;exact SeqAt.EqAt.same _
   | bl b=>cases Y;exact SeqAt.EqAt.none_bool b
   | int b=>obtain⟨t,rfl⟩:=Y;exact SeqAt.EqAt.none_int b t
   | str b=>obtain⟨t,rfl⟩:=Y;exact SeqAt.EqAt.none_str b t
   | _=>exact absurd (show false=true from W) Bool.false_ne_true
 | bl a =>
   cases O;cases x with
   | non=>cases Y;exact SeqAt.EqAt.bool_none a
   | bl b=>cases Y;exact SeqAt.EqAt.bool_bool a b
   | int b=>obtain⟨t,rfl⟩:=Y;exact SeqAt.EqAt.bool_int a b t
   | str b=>obtain⟨t,rfl⟩:=Y;exact SeqAt.EqAt.bool_str a b t
   | _=>exact absurd (show false=true from W) Bool.false_ne_true
 | int a =>
   obtain⟨t',rfl⟩:=O;cases x with
   | non=>cases Y;exact SeqAt.EqAt.int_none a t'
   | bl b=>cases Y;exact SeqAt.EqAt.int_bool a t' b
   | int b=>obtain⟨t,rfl⟩:=Y;exact SeqAt.EqAt.int_int a t' b t
   | str b=>obtain⟨t,rfl⟩:=Y;exact SeqAt.EqAt.int_str a t' b t
   | _=>exact absurd (show false=true from W) Bool.false_ne_true
 | str a =>
   obtain⟨t',rfl⟩:=O;cases x with
   | non=>cases Y;exact SeqAt.EqAt.str_none a t'
   | bl b=>cases Y;exact SeqAt.EqAt.str_bool a t' b
   | int b=>obtain⟨t,rfl⟩:=Y;exact SeqAt.EqAt.str_int a t' b t
   | str b=>obtain⟨t,rfl⟩:=Y;exact SeqAt.EqAt.str_str a t' b t
   | _=>exact absurd (show false=true from W) Bool.false_ne_true
 | _=>exact absurd (show false=true from J) Bool.false_ne_true
def eqU(x:V)(u:am):Bool:=match u with
 | .none=>eqV .non x
 | .bool b=>eqV (.bl b) x
 | .int i _=>eqV (.int i) x
 | .str z _=>eqV (.str z) x
 | _=>false
theorem QS{x y:V}{u:am}(r:AJ y u)(f:Gz y=true):eqU x u=eqV y x:=by
 cases y with
 | non=>cases r;rfl
 | bl b=>cases r;rfl
 | int i=>obtain⟨t,rfl⟩:=r;rfl
 | str z=>obtain⟨t,rfl⟩:=r;rfl
 | _=>exact absurd (show false=true from f) Bool.false_ne_true
theorem Kj{x:V}:∀{xs:List V} {us:List am},AF xs us->xs.all Gz=true->us.any (eqU x)=xs.any fun y=>eqV y x
 | _,_,.nil,_=>rfl
 | y::xs,u::us,.cons r t,f=>by
   rw[List.all_cons,Bool.and_eq_true]at f;rw[ZA,ZA,QS r f.1,Kj t f.2]
theorem HX{A:dl}{s:aI}{x:V}{v:am}(rx:AJ x v)(fx:Gz x=true):∀{xs:List V} {us:List am},AF xs us->xs.all Gz=true->∀u∈us,SeqAt.EqAt A s u v (eqU x u)
 | _,_,.nil,_=>fun u hu=>by cases hu
 | y::xs,u::us,.cons r t,f=>fun u' hu=>by
   rw[List.all_cons,Bool.and_eq_true]at f
   rcases YD.mp hu with rfl | hu
   ·rw[QS r f.1];exact Uy r rx f.1 fx
   ·exact HX rx fx t f.2 u' hu
def inV(x:V)(xs:List V):Bool:=xs.any fun y=>eqV y x
inductive rIn(K:Yx)(neg:Bool)(x:V)(y:V)(H:Hp)(Q:VK):Prop
 | mk (p:_) (xs:_) (h1:y = .ref p) (h2:(SqL K H p xs\/SqT K H p xs)) (h3:Gz x=true) (h4:xs.all Gz=true) (h5:Q (.bl (if neg then !inV x xs else inV x xs)) H):rIn K neg x y H Q
theorem JM:OpR X (dN .NotIn) (rIn X.K true):=by
 intro pins s σ H x y v u Q I O ry h;obtain⟨p,xs,rfl,W,J,fs,q⟩:=h;cases ry
 rcases W with W | W
 ·obtain⟨Y,r,pl,hz⟩:=I.list W;refine SeqAt.notIn_listAt (eqU x) pl.isList (fun w hw=>HX O J r fs w (by simpa using hw)) ⟨.bl _,H,I,Z,?_⟩
  rw[show Y.toArray.any (eqU x)=Y.any (eqU x) by simp,Kj r fs]
  exact q
 ·obtain⟨Y,r,pl,hz⟩:=I.tuple W;refine SeqAt.notIn_tupleAt (eqU x) pl (fun w hw=>HX O J r fs w (by simpa using hw)) ⟨.bl _,H,I,Z,?_⟩
  rw[show Y.toArray.any (eqU x)=Y.any (eqU x) by simp,Kj r fs]
  exact q
theorem Kf:Cp X (.builtin "len") (fun xs H Q=>∃p ys,xs=[.ref p]/\(SqL X.K H p ys\/SqT X.K H p ys)/\Q (.int ys.length) H):=by
 intro pins s σ H xs us Q I r h;obtain⟨p,ys,rfl,W,q⟩:=h;obtain⟨u,rfl,rx⟩:=Es r;cases rx;have hn:=Ge
 rcases W with W | W
 ·obtain⟨J,O,pl,hz⟩:=I.list W;have Y:=O.length;exact Calls.call_len_list pl.isList (by simp only[Zs]<;>lia) ⟨.int ys.length,H,I.tok _,⟨s.toks+1,by rw[Zs,Y]⟩,q⟩
 ·obtain⟨J,O,pl,hz⟩:=I.tuple W;have Y:=O.length;exact len_tuple pl (by simp only[Zs]<;>lia) ⟨.int ys.length,H,I.tok _,⟨s.toks+1,by rw[Zs,Y]⟩,q⟩
theorem IL:Cp X (.type "tuple") (fun xs H Q=>∃p ys,xs=[.ref p]/\((SqL X.K H p ys/\∀l,H l=none->Q (.ref l) (upd H l (.tup ys)))\/(SqT X.K H p ys/\Q (.ref p) H))):=by
 intro pins s σ H xs us Q I r h;obtain⟨p,ys,rfl,h⟩:=h;obtain⟨u,rfl,rx⟩:=Es r;cases rx
 rcases h with ⟨W,q⟩ | ⟨W,q⟩
 ·obtain⟨Y,O,pl,hz⟩:=I.list W;have ab:=O.length;refine call_tuple_list pl.isList (fun h' kp=>?_) (by simp only[Zs]<;>lia)
  have J:Inv X pins σ H { s with heap:=h' }:=I.kept (t':=s.toks) kp
  have I2:Inv X pins σ (upd H h'.objs.size (.tup ys)) { s with heap:=h'.push { cls:=.type "tuple",data:=.seq Y.toArray } } :=
   J.laid (t':=s.toks) (fun b o e=>Heap.get?_push_of_some _ e) (YL _) (show BH X.prog X.w _ _ _ (.tup ys) from⟨hz,Y,O,IsTup.new _ _⟩)
  exact⟨.ref h'.objs.size,_,I2,Z,q _ (J.hok.fresh (YL _))⟩
 ·obtain⟨Y,O,pl,hz⟩:=I.tuple W;exact call_tuple_same pl ⟨.ref p,H,I,Z,q⟩
def tyV(K:Yx)(T:String)(x:V)(H:Hp):Prop:=match x with
 | .str _=>T = "str"
 | .int _=>T = "int"
 | .ref p=>(T = "list" /\ ∃xs,SqL K H p xs)\/(T = "tuple" /\ ∃o,K.lookup p=some o/\o.cls = .type "tuple" /\ o.dict=none) \/
  (T = "dict" /\ ((∃kvs,H p=some (.dK kvs))\/∃kvs,H p=some (.dT kvs)))\/(T = "set" /\ ∃S n,H p=some (.set S n))
 | _=>False
theorem Th{pins:List (ad×Obj)}{σ:St}{H:Hp}{s:aI}{T:String}{x:V}{v:am}(I:Inv X pins σ H s)(r:AJ x v)(ty:tyV X.K T x H) :
 s.TypeIs v T/\∀a,v = .ref a->∃O,s.heap.get? a=some O/\O.dict=none:=by
 cases x with
 | str z =>
   obtain⟨t,rfl⟩:=r;cases (show T = "str" from ty);exact⟨fJ s z t,fun _ e=>nomatch e⟩
 | int i =>
   obtain⟨t,rfl⟩:=r;cases (show T = "int" from ty);exact⟨typeIs_int s i t,fun _ e=>nomatch e⟩
 | ref p =>
   cases r
   rcases ty with ⟨rfl,xs,J⟩ | ⟨rfl,o,hk,hc,Y⟩ | ⟨rfl,hk⟩ | ⟨rfl,S,n,hk⟩
   ·obtain⟨ab,_,pl,_⟩:=I.list J;refine⟨pl.isList.typeIs,fun a e=>?_⟩;cases e;obtain⟨o,n,e,c,Y,_⟩:=pl;exact⟨o,e,Y⟩
   ·refine⟨⟨o,I.kIn p o hk,hc⟩,fun a e=>?_⟩;cases e;exact⟨o,I.kIn _ o hk,Y⟩
   ·have z:∃o,s.heap.get? p=some o/\o.ExactDict:=by
     rcases hk with ⟨kvs,hk⟩ | ⟨kvs,hk⟩
     ·obtain⟨_,_,_,_,o,_,_,e,ex,_⟩:=I.hok p _ hk;exact⟨o,e,ex⟩
     ·obtain⟨_,_,_,_,o,_,_,e,ex,_⟩:=I.hok p _ hk;exact⟨o,e,ex⟩
    obtain⟨o,e,ex⟩:=z;refine⟨⟨o,e,ex.1⟩,fun a W=>?_⟩;cases W;exact⟨o,e,ex.2.1⟩
   ·obtain⟨o,_,_,_,e,ex,_⟩:=I.hok p _ hk;refine⟨⟨o,e,ex.1⟩,fun a W=>?_⟩;cases W;exact⟨o,e,ex.2.1⟩
 | _=>exact False.elim ty
def tBM(K:Yx)(T:String)(r:V->List V->Hp->VK->Prop)(to:TE)(t:TA):TE:=fun σ H Q=>to σ H fun x H1=>tyV K T x H1/\t σ H1 fun xs H2=>r x xs H2 Q
variable {o e:Expr}{es:List Expr}{to:TE}{t:TA}{name:Str}{apos cpos:Pos}{T id:String}{r:V->List V->Hp->VK->Prop}
theorem V9(pa:PlainAttrs T)(J:Slot T name id)(ak:typeOf (.builtin id)=pure (.type "method_descriptor"))(hm:MtR X id r)(ho:PE X o to)(ha:PA X (e::es) t)
 (O:eI o name X.env (dE o X.env)=dE o X.env:=by rfl)
 (ab:((dU cpos (cQ (e::es) X.env)).all (fun x=>!x.1)&&(fS cpos (fc [] X.env)).all (fun x=>x.1.isSome)
  && decide ((e::es).length+([]:List fL).length+(if ([]:List fL).isEmpty then 0 else 1)<30))=true:=by rfl)
 (W:(apos.endLine == cpos.line)=true:=by rfl) (hs:cQ (e::es) X.env=(false,dE e X.env)::cQ es X.env:=by rfl) (Y:(dU cpos (cQ es X.env)).any (·.1)=false:=by rfl) {K:Yx} (eK:X.K=K:=by rfl) :
 PE X (.Call (.Attribute o name apos) (e::es) [] cpos) (tBM K T r to t):=by
 subst eK;intro pins s σ H Q I h;refine wpAny_Call_method_late O ab W rfl (thn (ho pins s σ H _ I h) fun v s1 ⟨x,H1,I1,r1,ty,q1⟩=>?_);obtain⟨h1,h2⟩:=Th I1 r1 ty;refine⟨T,id,pa,J,ak,h1,h2,?_⟩;have hA:=ha cpos pins s1 σ H1 _ I1 q1;rw[hs]at hA ⊢;refine Calls.callWith_builtin (by show(false||(dU cpos (cQ es X.env)).any (·.1))=false;rw[Y]<;>rfl) (Calls.evalArgs_plain ?_)
 exact thn hA fun us s2 ⟨vs,H2,I2,r2,q2⟩=>hm pins s2 σ H2 x vs v us Q I2 r1 r2 q2
end
def MtM(X:Cx)(id:String)(r:V->List V->Hp->VK->Prop):Prop :=
 ∀ (pins:List (ad×Obj)) (s:aI) (σ:St) (H:Hp) (x:V) (xs:List V) (v:am) (us:List am) (Q:VK),Inv X pins σ H s->AJ x v->AF xs us->r x xs H Q ->
   bv (cr X.prog X.w) X.A (call (.builtin id) (v::us)) (EP X pins σ Q) X.xe s
theorem AF.one{x:V}{us:List am}(h:AF [x] us):∃u,us=[u]/\AJ x u:=by
 cases h with
 | cons r t=>cases t;exact⟨_,Z,r⟩
theorem AF.two:∀{x y:V} {us:List am},AF [x,y] us->∃u v,us=[u,v]/\AJ x u/\AJ y v
 | _,_,_,.cons r (.cons q .nil)=>⟨_,_,Z,r,q⟩
theorem AF.rep{xs:List V}{us:List am}(h:AF xs us):∀k:Nat,AF (Zf k xs).flatten (Zf k us).flatten
 | 0=>.nil
 | k+1=>by
   rw[ZC,ZC,ZD,ZD];exact AF.append h (AF.rep h k)
theorem Ja(W:List am):∀(k:Nat) (Y:List am),
 List.foldl (fun x1 J=>x1++J) Y.toArray (Zf k W.toArray)=(Y++(Zf k W).flatten).toArray
 | 0,Y=>by simp
 | k+1,Y=>by
   have e:Y.toArray++W.toArray=(Y++W).toArray:=by simp
   have O:(Y++W)++(Zf k W).flatten=Y++(Zf (k+1) W).flatten:=by
    rw[ZC,ZD,ZE]
   rw[<- O,<- Ja W k (Y++W),<- e,ZC,List.foldl_cons]
section
variable {X:Cx}{pins:List (ad×Obj)}{σ:St}{H:Hp}{s:aI}{l b:ad}{xs ys zs:List V}
theorem Inv.lset{Y its':List am}{n:Nat}{f:Array am->Array am}{t':Nat}(I:Inv X pins σ H s)(O:H l=some (.lst xs))
 (e:s.heap.get? l=some { cls:=.type "list",data:=.seq Y.toArray n }) (hf:f Y.toArray=its'.toArray) (hv:AF ys its') (hz:ys.length<=bi) :
 Inv X pins σ (upd H l (.lst ys)) { s with heap:=s.heap.update l (Obj.mapSeq f),toks:=t' }:=by
 have q:=PySem.IsL.update e f;rw[hf]at q;refine I.write (x:=l) (e:=l) (by rw[O];exact trivial) (.inl rfl) (fun b' u J W=>(Heap.get?_update_other s.heap (Obj.mapSeq f) (Ne.symm J)).trans W) ⟨_,q⟩ ?_
 exact⟨hz,its',_,hv,q⟩
theorem Inv.lnew{Y:List am}{t':Nat}(I:Inv X pins σ H s)(W:AF ys Y)(hz:ys.length<=bi) :
 Inv X pins σ (upd H s.heap.objs.size (.lst ys)) { s with heap:=s.heap.push { cls:=.type "list",data:=.seq Y.toArray },toks:=t' } :=
 I.laid (fun _ _ q=>Heap.get?_push_of_some _ q) (YL _) ⟨hz,Y,0,W,Heap.get?_push_size _ rfl⟩
theorem Inv.fresh(I:Inv X pins σ H s):H s.heap.objs.size=none:=I.hok.fresh (YL _)
theorem Inv.lstM(I:Inv X pins σ H s)(W:H l=some (.lst xs)):xs.length<=bi/\∃(Y:List am) (n:Nat),AF xs Y/\xs.length=Y.length/\s.heap.get? l=some { cls:=.type "list",data:=.seq Y.toArray n }:=by
 obtain⟨z,Y,n,r,e⟩:=I.hok l _ W;exact⟨z,Y,n,r,r.length,e⟩
theorem Lk{n:Nat}(h:n<=bi):Builtin.List.listTooLong n=false:=by
 unfold Builtin.List.listTooLong;exact decide_eq_false (by lia)
end
section
variable {X:Cx}
inductive Nr(x:V)(vs:List V)(H:Hp)(Q:VK):Prop
 | mk (l:_) (xs:_) (y:_) (h1:x = .ref l) (h2:vs=[y]) (h3:H l=some (.lst xs)) (h4:xs.length<bi) (h5:Q .non (upd H l (.lst (xs++[y])))):Nr x vs H Q
theorem Dm:MtM X "list.append" Nr:=by
 intro pins s σ H x vs v us Q I O J h;obtain⟨l,xs,y,rfl,rfl,W,hz,q⟩:=h;cases O;obtain⟨u,rfl,ru⟩:=J.one;obtain⟨z,Y,n,r,hl,e⟩:=I.lstM W;refine fb F.slot_list_append ⟨_,e,Z⟩ F.entry_list_append (F.args_list_append_2 _ _) (PySem.list_append l Y.toArray n u (by rw[Zs];lia)) ⟨e,?_⟩
 refine⟨.non,_,I.lset (its':=Y++[u]) W e (by simp) (r.append (.cons ru .nil)) ?_,Z,q⟩
 rw[Zo,ZF]
 lia
inductive Nq(x:V)(vs:List V)(H:Hp)(Q:VK):Prop
 | mk (l:_) (b:_) (xs:_) (zs:_) (h1:x = .ref l) (h2:vs=[.ref b]) (h3:H l=some (.lst xs)) (h4:H b=some (.lst zs)) (h5:xs.length+zs.length<=bi) (h6:Q .non (upd H l (.lst (xs++zs)))):Nq x vs H Q
theorem OA:MtM X "list.extend" Nq:=by
 intro pins s σ H x vs v us Q I rx rv h;obtain⟨l,b,xs,zs,rfl,rfl,J,hB,hz,q⟩:=h;cases rx;obtain⟨u,rfl,ru⟩:=rv.one;cases ru;obtain⟨z,W,n,r,hl,e⟩:=I.lstM J;obtain⟨z2,Y,n2,r2,ab,e2⟩:=I.lstM hB;have hsz:W.toArray.size+Y.toArray.size<=bi:=by rw[Zs,Zs];lia
 have O:¬(!W.toArray.isEmpty&&Builtin.List.listTooLong (W.toArray.size+Y.toArray.size))=true:=by
  rw[Lk hsz,Bool.and_false];exact Bool.false_ne_true
 refine fb F.slot_list_extend ⟨_,e,Z⟩ F.entry_list_extend (F.args_list_extend_2 _ _)
  (AutoSeq1.list_extend_list_list_0 l W.toArray n b Y.toArray n2 O (by rw[Zs];lia) (by lia)) ⟨e,e2,?_⟩
 refine⟨.non,_,I.lset (its':=W++Y) J e (by simp) (r.append r2) ?_,Z,q⟩
 rw[Zo]
 lia
inductive V5(x:V)(y:V)(H:Hp)(Q:VK):Prop
 | mk (l:_) (b:_) (xs:_) (zs:_) (h1:x = .ref l) (h2:y = .ref b) (h3:H l=some (.lst xs)) (h4:H b=some (.lst zs)) (h5:xs.length+zs.length<=bi) (h6:∀p,H p=none->Q (.ref p) (upd H p (.lst (xs++zs)))):V5 x y H Q
theorem MF:OpR X (dY .Add) V5:=by
 intro pins s σ H x y v u Q I O ry h;obtain⟨l,b,xs,zs,rfl,rfl,J,hB,hz,q⟩:=h;cases O;cases ry;obtain⟨z,W,n,r,hl,e⟩:=I.lstM J;obtain⟨z2,Y,n2,r2,ab,e2⟩:=I.lstM hB;refine PySem.P.add_list e e2 ?_ (by rw[Zs,Zs];lia)
 have ea:W.toArray++Y.toArray=(W++Y).toArray:=by simp
 rw[ea];exact⟨.ref _,_,I.lnew (t':=s.toks) (r.append r2) (by rw[Zo];lia),Z,q _ I.fresh⟩
inductive V3(x:V)(y:V)(H:Hp)(Q:VK):Prop
 | mk (l:_) (k:_) (xs:_) (h1:x = .ref l) (h2:y = .int k) (h3:H l=some (.lst xs)) (h4 : -(2 ^ 63)<=k) (h5:k<2 ^ 63) (h6:xs.length*k.toNat<=bi) (h7:∀p,H p=none->Q (.ref p) (upd H p (.lst (Zf k.toNat xs).flatten))):V3 x y H Q
theorem NF{Y:Type}(xs:List Y)(k:Nat):(Zf k xs).flatten.length=k*xs.length:=by
 induction k with
 | zero=>simp
 | succ k ih=>rw[ZC,ZD,Zo,ih,Nat.succ_mul,Nat.add_comm]
theorem HK:OpR X (dY .Mult) V3:=by
 intro pins s σ H x y v u Q I rx ry h;obtain⟨l,k,xs,rfl,rfl,hH,h1,h2,hz,q⟩:=h;cases rx;obtain⟨t,rfl⟩:=ry;obtain⟨z,Y,n,r,hl,e⟩:=I.lstM hH;have J:Y.toArray.size*k.toNat<=bi:=by rw[Zs,<- hl];exact hz
 have O:¬Y.toArray.size*k.toNat > (2 ^ 63-1) / 8:=by
  have:(bi:Nat)<=(2 ^ 63-1) / 8:=by decide
  lia
 have ab:¬(!Builtin.List.listFitsIndex k)=true:=by
  rw[fitsIndex_both h1 h2];exact Bool.false_ne_true
 have W:¬Builtin.List.listTooLong (Y.toArray.size*k.toNat)=true:=by
  rw[Lk J];exact Bool.false_ne_true
 have ak:List.foldl (fun x1 x2=>x1++x2) #[] (Zf (if Y.toArray.isEmpty=true then 0 else k.toNat) Y.toArray)=(Zf k.toNat Y).flatten.toArray:=by
  have f0:∀m:Nat,List.foldl (fun x1 x2=>x1++x2) #[] (Zf m Y.toArray)=(Zf m Y).flatten.toArray:=fun m=>by
   have:=Ja Y m [];rw[List.nil_append]at this;exact this
  rw[f0];cases Y with
  | nil=>simp
  | cons a r'=>rw[if_neg (by simp)]
 refine wpAny_binaryOp_repeat_ref (T:="list") (U:="int") (by decide) ⟨_,e,Z⟩ (fun s'=>typeIs_int s' k t) noFill_list_mul F.fills_int_mul F.slot_int_rmul repeat_list F.slot_int_index.lookup
  (fb F.slot_int_rmul (typeIs_int s k t) F.entry_int_rmul (F.args_int_rmul_2 _ _) (int___rmul___int_list k t l Y.toArray n)
   ⟨e,Z,⟨_,e,Z⟩,fb F.slot_list_mul ⟨_,e,Z⟩ F.entry_list_mul (F.args_list_mul_2 _ _) (AutoListH.list___mul___list_int_3 l Y.toArray n k t ab O W) ⟨e,?_⟩⟩)
 rw[ak];exact⟨.ref _,_,I.lnew (t':=s.toks) (r.rep k.toNat) (by rw[NF,ZH];exact hz),Z,q _ I.fresh⟩
end
section
variable {prog:ce}{w:db}{A:dl}{E:am->aI->Prop}{s:aI}
set_option maxRecDepth 100000 in
end
section
variable {X:Cx}
end
end L2
namespace Att
open PySem PySem.W PySem.Calls PyProof.Rows
theorem ints_of_wellAll{P:Params}{h:dw}:∀(Y:List Int) (vs:List am),WellAll P h vs (Y.map WData.int)->fM vs Y:=by
 intro Y
 induction Y with
 | nil =>
   intro vs w;rw[List.map_nil]at w;cases w;exact .nil
 | cons n Y ih =>
   intro vs w;rw[Z2]at w;cases w with
   | cons a b =>
     cases a;exact .cons _ _ (ih _ b)
theorem script_of{l:OpenLaw}{n:Nat}(hn:l.most=some n){P:Params}{h:dw}{args:List WData}{O:List am}
 (W:l.row.toRowW.claim.pre args=true) (ab:WellAll P h O args) :
 ∃a vs Y,O=[Value.ref a]/\args=[WData.list (Y.map WData.int)]/\h.get? a=some { cls:=.type "list",data:=.seq vs.toArray }/\fM vs Y/\Y.length<=n:=by
 have ak:WShape.hasAll [] args [.list .int]=true:=(pre_splitW W).1;have hc:l.pre.holds [] { args:=args }=true:=(pre_splitW W).2;obtain⟨d,r,rfl,h1,h2⟩:=hasAllW_cons ak;obtain rfl:=hasAllW_nil h2;obtain⟨xs,rfl,h3⟩:=hasW_list h1;obtain⟨Y,rfl⟩:=items_int h3
 have J:Y.length<=n:=by
  unfold OpenLaw.pre at hc
  have h4:(WTm.not (.lt (.lit (.int (n:Int))) (.len (.arg 0)))).holds [] { args:=[.list (Y.map .int)] }=true:=by
   have h4:=(holds_andW hc).1;rw[hn]at h4;exact h4
  have h5:=condW_of h4 (w_not (w_lt w_lit (w_len_list (w_arg rfl))));rw[Z4]at h5;refine Nat.le_of_not_lt fun q=>?_;have q':(n:Int)<((Y.length:Nat):Int):=by lia
  first
   | (rw[decide_eq_true q']at h5;exact absurd h5 (by decide))
   | (simp at h5;lia)
 cases ab with
 | cons w1 w2 =>
   cases w2;cases w1 with
   | list ho hall=>exact⟨_,_,Y,Z,Z,ho,ints_of_wellAll Y _ hall,J⟩
theorem post_true(l:OpenLaw)(args:List WData):l.row.toRowW.claim.post args (.bool true) args=true :=
 postW_of (r:=l.row.toRowW) (X:=(true == true))
  (show WShape.has [] (.bool true) .bool=true by first | rfl | decide | simp[WShape.has,WShape.arms,WShape.armsAll])
  (show(WTm.eq .res (.lit (.bool true))).value [] { args:=args,res:=some (.bool true),after:=args }=some (.bool (true == true)) from w_eq_bool (w_res rfl) w_lit) rfl
theorem attach_call{l:OpenLaw}{n:Nat}{q:ce}{O:List Str}{XP:(Str->Option am)->dw->Prop}{YP:db->dw->Prop}{d:DefRec}
 (hn:l.most=some n) (aP:d.params.defaults=[])
 (ap:∀(w:db) (s₀ W:aI) (mg mb:Str->Option am) (fa:ad) (o:Obj) (pm cd ab:am) (a:ad) (vs:List am) (ns:List Int),
  Ground q O [] XP w s₀ mg mb W.heap->YP w W.heap ->
  W.heap.get? fa=some o->o.data = .func (docDef d.name d.params d.body d.scope pm cd ab)->W.heap.CodeRec cd d.name->mg d.name=some (.ref fa) ->
  W.heap.get? a=some { cls:=.type "list",data:=.seq vs.toArray }->fM vs ns->ns.length<=n->W.gens = #[] ->
  eC (cr l.prog w) callerA (.call (.ref fa) ⟨[.ref a],[]⟩) (fun r s'=>r = .ok (.ret (.bool true))/\OldK W.heap s'.heap/\s'.os=W.os/\fo s'.gens) W) :
 WalkO q O XP YP l.row.toRowW d [] (fun f vs=>PySem.call f vs):=by
 intro w s₀ W mg mb G Y fa o pm cd ab dV kV ho hd aF hD a0 hg args bb as ak ba bd aC bc;obtain rfl:dV = .none:=Dflts.none hD aP;obtain rfl:kV = .none:=Dflts.noKw hD;obtain⟨a,vs,ns,rfl,rfl,an,J,al⟩:=script_of hn ak aC;refine enter_call (eO (ap w s₀ W mg mb fa o pm cd ab a vs ns G Y ho (fd_plain hd) aF a0 an J al hg) fun r s' hq=>?_);obtain⟨rfl,h2,h3,h4⟩:=hq;exact⟨.inl ⟨.bool true,.bool true,[],Z,fun _=>rfl,.bool true,post_true l _,fun _=>⟨List.Pairwise.nil,fun _ hm=>(nomatch hm)⟩⟩,h2,h3,h4⟩
section
variable {prog:ce}{w:db}{A:dl}{E:am->aI->Prop}{s:aI}{K:Frag}
end
end Att
namespace L2
open PySem PySem.Spec PyProof.Rows
theorem O7{vs:List am}{Y:List Int}(h:fM vs Y):AF (Y.map V.int) vs:=by
 induction h with
 | nil=>exact .nil
 | cons n t h ih=>exact .cons ⟨t,Z⟩ ih
def Cb(s:eU)(j:Nat):eU:=match s with
 | .ClassDef _ _ _ body _ _ _ _ _ _ _=>body.getD j (.Pass ⟨0,0,0,0⟩)
 | _=>.Pass ⟨0,0,0,0⟩
def Br(s:eU):fG:=match s with
 | .FunctionDef _ a _ _ _ _ _ _ _ _=>a
 | _=>{ posonlyargs:=[],args:=[],vararg:=none,kwonlyargs:=[],kw_defaults:=[],kwarg:=none,defaults:=[] }
def Bf(s:eU):List eU:=match s with
 | .FunctionDef _ _ b _ _ _ _ _ _ _=>b
 | _=>[]
def Ad(s:eU):dJ:=match s with
 | .FunctionDef _ _ _ _ _ _ sc _ _ _=>sc
 | _=>{ kind:=.function,names:=[],isGenerator:=false,isCoroutine:=false }
abbrev CX0:CXT:=fun _ _ _ _ _ _=>False
abbrev E0:XK:=fun _ _ _=>False
theorem Fp{X:Cx}:DM CX0 X E0:=fun _ _ _ _ _ _ _ h=>h.elim
structure Fun(K:Yx)(x qual:Str)(st:eU)(f:ad)(fd:bn):Prop where
 ex:∃(oc:am) (od:Option ad) (kV doc pm:am) (an:Option ad) (cdv ct:am) (osl:Array (Option am)),
  fd=Zq x qual (Br st) (Bf st) (Ad st) .none kV doc pm an cdv ct/\K.lookup f=some ⟨oc,od,.func fd,osl⟩/\Zr K cdv qual=true
 kp:Z3 K (.ref f)=true
section
variable {P:ce}{w:db}{K:Yx}{mg:Str->Option am}{base:dw}
theorem Fun.ok{x qual:Str}{st:eU}{f:ad}{fd:bn}{N ps:List Str}{k:Nat}{sp:Sp}(F:Fun K x qual st f fd)(S:Ah N ps (Ad st))(J:∀vs H Q E,sp vs H Q E->vs.length=ps.length)
 (W:∀(Y:am) (A:dl) (outer:List Env) (s:aI) (H:Hp) (vs:List V) (Q:VK) (E:XK),BK k (A.deeper (envOfC qual (Ad st) s.heap.objs.size f Y))->sp vs H Q E ->
  ∃t,PSs (N4 CX0 P w K mg base N qual (Ad st) f Y A outer s H E).nox (Bf st) t/\t { nx:=fun _ H'=>Q .non H',rt:=Q } (EX N vs) H):Ax P w K mg base CX0 (k+1) f fd ps sp:=by
 obtain⟨oc,od,kV,al,pm,an,Y,ct,ak,rfl,lk,O⟩:=F.ex;refine T1 lk O S J fun A outer s H vs Q E hr ab=>?_;obtain⟨t,h,q⟩:=W Y A outer s H vs Q E hr ab;exact⟨t,h.nox,q⟩
theorem Fun.binds{x qual:Str}{st:eU}{f:ad}{fd:bn}{ps:List Str}(F:Fun K x qual st f fd)
 (h:∀(kV W O:am) (J:Option ad) (Y ct:am) (us:List am),us.length=ps.length->eX (Zq x qual (Br st) (Bf st) (Ad st) .none kV W O J Y ct) ⟨us,[]⟩=pure (ps.zip us)):Be K fd ps []:=by
 obtain⟨oc,od,kV,W,O,J,Y,ct,ak,rfl,lk,ab⟩:=F.ex;exact .all (h kV W O J Y ct)
theorem EO{x qual:Str}{st:eU}{f:ad}{oc:am}{od an:Option ad}{O:Array (Option am)}{kV W J Y ct:am}(l:K.lookup f=some ⟨oc,od,.func (Zq x qual (Br st) (Bf st) (Ad st) .none kV W J an Y ct),O⟩)
 (c:Zr K Y qual=true) (k:Z3 K (.ref f)=true):Fun K x qual st f (Zq x qual (Br st) (Bf st) (Ad st) .none kV W J an Y ct):=⟨⟨oc,od,kV,W,J,an,Y,ct,O,Z,l,c⟩,k⟩
end
theorem AS{n:Nat}(h:n<=1000):n<bi:=ZI h (by decide)
section
variable {X:Cx}
theorem pv(i:Nat){x:Str}{pos:Pos}(O:X.N[i]? = some x:=by rfl)(W:Vis X.env.scope x:=by first | exact Or.inl rfl | exact Or.inr (Or.inl rfl) | exact Or.inr (Or.inr rfl))(J:(x == ("__debug__" : Str))=false:=by decide)
 (Y:(x == ("__classdict__" : Str))=false:=by decide):PE X (.Name x pos) (Jk i):=TU O W J Y
end
theorem BP{A B:Prop}(h:B):if false=true then A else B:=by
 rw[if_neg Bool.false_ne_true];exact h
theorem Ia{A B:Prop}(h:A):if true=true then A else B:=by
 rw[if_pos rfl];exact h
theorem MU{c A B:Prop}[Decidable c](h1:c->A)(h2:¬c->B):if c then A else B:=by
 by_cases h:c
 ·rw[if_pos h];exact h1 h
 ·rw[if_neg h];exact h2 h
def Ac(H H':Hp):Prop:=∀b o,H b=some o->H' b=some o
theorem Ac.refl(H:Hp):Ac H H:=fun _ _ h=>h
theorem Ac.trans{H H1 H2:Hp}(a:Ac H H1)(b:Ac H1 H2):Ac H H2:=fun c o h=>b c o (a c o h)
theorem Ac.free{H H':Hp}(e:Ac H H'){l:ad}(h:H' l=Option.none):H l=Option.none:=by
 cases q:H l with
 | none=>rfl
 | some o =>
   rw[e l o q]at h;cases h
theorem Ac.seq{K:Yx}{H H':Hp}{a:ad}{xs:List V}(e:Ac H H')(h:SqL K H a xs):SqL K H' a xs:=by
 rcases h with (h | ⟨o,h⟩) | h
 ·exact .inl (.inl (e _ _ h))
 ·exact .inl (.inr ⟨o,e _ _ h⟩)
 ·exact .inr h
section
variable {κ:Type}[DecidableEq κ]
def D6(kvs:List (κ×V))(k:κ):Option V:=(kvs.find? fun kv=>decide (kv.1=k)).map (·.2)
theorem P7{p:κ×V}{r:List (κ×V)}{k:κ}(e:p.1=k):D6 (p::r) k=some p.2:=by simp[D6,ZJ,e]
theorem P8{p:κ×V}{r:List (κ×V)}{k:κ}(e:¬p.1=k):D6 (p::r) k=D6 r k:=by simp[D6,ZJ,e]
theorem Er.isSome_eq{o:Option V}{u:Option am}(r:Er o u):o.isSome=u.isSome:=by
 cases o with
 | none=>cases u with
   | none=>rfl
   | some _=>exact(show False from r).elim
 | some _=>cases u with
   | none=>exact(show False from r).elim
   | some _=>rfl
theorem Er.getD{o:Option V}{u:Option am}{d:V}{d':am}(r:Er o u)(Y:AJ d d'):AJ (o.getD d) (u.getD d'):=by
 cases o with
 | none=>cases u with
   | none=>exact Y
   | some _=>exact(show False from r).elim
 | some _=>cases u with
   | none=>exact(show False from r).elim
   | some _=>exact r
theorem KV.val{kvs:List (κ×V)}{vs:List (κ×am)}(r:KV kvs vs)(k:κ):Er (D6 kvs k) (valueAt vs k):=by
 unfold KV at r
 induction r with
 | nil=>exact True.intro
 | @cons p q ps qs h t W =>
   obtain⟨h1,h2⟩:=h;by_cases e:p.1=k
   ·have Y:q.1=k:=h1.symm.trans e;have b:valueAt (q::qs) k=some q.2:=by simp[valueAt,ZJ,Y]
    rw[P7 e,b];exact h2
   ·have Y:¬q.1=k:=fun z=>e (h1.trans z);have b:valueAt (q::qs) k=valueAt qs k:=by simp[valueAt,ZJ,Y]
    rw[P8 e,b];exact W
end
theorem LC{P:ce}{w:db}{k:Key}{u:am}(r:AJ (kV k) u):(C7 P w).is k u=true:=by
 cases k with
 | inl i=>obtain⟨t,e⟩:=(show ∃t,u=Value.int i t from r);subst e;exact Lu P w i t
 | inr x=>obtain⟨t,e⟩:=(show ∃t,u=Value.str x t from r);subst e;exact Ls P w x t
theorem J6{P:ce}{w:db}:∀{ks:List Key} {us:List am},AF (ks.map kV) us->ItemsAre (C7 P w) ks us
 | [],_,r=>by rw[List.map_nil]at r;cases r;exact .nil
 | k::ks,_,r=>by
   rw[Z2]at r;cases r with
   | cons h t=>exact .cons (LC h) (J6 t)
section
variable {P:ce}{w:db}{H:Hp}{h:dw}{a:ad}
end
section
variable {X:Cx}{pins:List (ad×Obj)}{σ:St}{H:Hp}{s:aI}{a:ad}{y v:V}{u r:am}{o:Option V}{A:dl}{E:am->aI->Prop}
theorem Inv.big(I:Inv X pins σ H s):ee<s.heap.objs.size:=by
 have h:ci<s.heap.objs.size:=(I.mod.glob.keeps I.bk).lt;exact ZK (by decide) h
end
section
variable {X:Cx}{pins:List (ad×Obj)}{σ:St}{H:Hp}{s:aI}{a:ad}{kvs:List (Key×V)}{k:Key}{u:am}{A:dl}{E:am->aI->Prop}
end
def Vs(i:Expr):Prop:=∀ov iv,subscripted i false ov iv=operate [ov,iv] (fE ov iv)
theorem Rx{prog:ce}{w:db}{A:dl}{E:am->aI->Prop}{s:aI}{env:Env}{value Y:Expr}{pos:Pos}{T id:String}{Q:am->aI->Prop}
 (hl:fm (.type T) "__getitem__" = pure (some (.builtin id))) (hs:Vs Y)
 (h:bv (cr prog w) A (dE value env) (fun o ab=>bv (cr prog w) A (dE Y env) (fun i W=>W.TypeIs o T/\bv (cr prog w) A (fE o i) Q E W) E ab) E s) :
 bv (cr prog w) A (dE (.Subscript value Y pos) env) Q E s:=by
 refine Subscript_ (dF h (fun o ab h₁=>dF h₁ (fun i W O=>?_) fun _ _ x=>x) fun _ _ x=>x);obtain⟨hT,O⟩:=O;unfold subscriptTail;refine ac ?_;rw[getitemInPython_of_ne hT.not_modules];refine ac (fA hT hl ?_)
 have ak:bv (cr prog w) A (subscripted Y false o i) (fun r J=>bv (cr prog w) A (letTemporaryGo value o r >>= fun _=>pure r) Q E J) E W:=by
  rw[hs o i];exact wpAny_operating (dF O (fun r J al=>ac (wpAny_letTemporaryGo (aQ al))) fun _ _ x=>x)
 first
  | exact aQ (ac ak)
  | exact ac (aQ (ac ak))
  | exact ac ak
section
variable {X:Cx}{o i e value:Expr}{pos pos' tpos:Pos}{td ty tv:TE}
end
theorem QT{P:ce}{w:db}{H:Hp}(h:dw)(Y:ee<h.objs.size):BH P w H (h.push { cls:=.type "dict",data:=.dict #[] }) h.objs.size (.dT []) :=
 ⟨YN _,beq_eq_false_iff_ne.mpr (Ne.symm (Yt Y)),[],.nil,_,#[],0,Heap.get?_push_size _ rfl,⟨Z,Z,Z⟩,Z,Z,List.nodup_nil⟩
def Tp:TE:=fun _ H Q=>∀p,H p=none->Q (.ref p) (upd H p (.dT []))
section
variable {X:Cx}{pos:Pos}
theorem Qd:PE X (.Dict [] [] pos) Tp:=fun pins s σ H Q I h =>
 wpAny_Dict_empty ⟨.ref s.heap.objs.size,_,I.laid (a:=s.heap.objs.size) (o:=.dT []) (t':=s.toks) (fun _ _ q=>Heap.get?_push_of_some _ q) (YL _) (QT s.heap I.big),Z,h _ (I.hok.fresh (YL _))⟩
end
structure M1(X:Cx)(o:Expr)(m:Str)(apos:Pos)(e:Expr)(cpos:Pos):Prop where
 base:eI o m X.env (dE o X.env)=dE o X.env
 few:((dU cpos (cQ [e] X.env)).all (fun x=>!x.1)&&(fS cpos (fc [] X.env)).all (fun x=>x.1.isSome)
  && decide (([e]:List Expr).length+([]:List fL).length+(if ([]:List fL).isEmpty then 0 else 1)<30))=true
 line:(apos.endLine == cpos.line)=true
 trees:dU cpos (cQ [e] X.env)=[(false,dE e X.env)]
structure M2(X:Cx)(o:Expr)(m:Str)(apos:Pos)(e f:Expr)(cpos:Pos):Prop where
 base:eI o m X.env (dE o X.env)=dE o X.env
 few:((dU cpos (cQ [e,f] X.env)).all (fun x=>!x.1)&&(fS cpos (fc [] X.env)).all (fun x=>x.1.isSome)
  && decide (([e,f]:List Expr).length+([]:List fL).length+(if ([]:List fL).isEmpty then 0 else 1)<30))=true
 line:(apos.endLine == cpos.line)=true
 trees:dU cpos (cQ [e,f] X.env)=[(false,dE e X.env),(false,dE f X.env)]
section
variable {X:Cx}{pins:List (ad×Obj)}{σ:St}{H:Hp}{s:aI}{a:ad}{y d:V}{u r:am}{o:Option V}{A:dl}{E:am->aI->Prop}
end
section
variable {X:Cx}{o e f:Expr}{apos cpos:Pos}{td ty tx:TE}
end
section
variable {X:Cx}{pins:List (ad×Obj)}{σ:St}{H:Hp}{s:aI}{a:ad}{kvs:List (Key×V)}{A:dl}{E:am->aI->Prop}
end
section
variable {X:Cx}{pins:List (ad×Obj)}{σ:St}{H:Hp}{s:aI}{a:ad}{y:V}{u:am}{A:dl}{E:am->aI->Prop}
end
end L2
namespace Nm
def msr(a b:Int):Int:=if b<0 then -(ZL a b:Int) else (ZL a b:Int)
theorem gcd_pos{a b:Int}(Y:b≠0):0<ZL a b:=Nat.pos_of_ne_zero fun h=>Y (Int.gcd_eq_zero_iff.mp h).2
theorem msr_ne{a b:Int}(Y:b≠0):msr a b≠0:=by
 have:=gcd_pos (a:=a) Y;unfold msr;split<;>lia
theorem fdiv_neg_dvd{a g:Int}(h:g∣a):a.fdiv (-g) = -(a / g):=by
 obtain⟨k,rfl⟩:=h;by_cases hg:g=0
 ·subst hg;simp
 ·rw[Int.mul_ediv_cancel_left _ hg,show g*k = -g * -k by rw[Int.neg_mul_neg],ZM _ (by lia)]
theorem fdiv_dvd{a g:Int}(h:g∣a):a.fdiv g=a / g:=by
 obtain⟨k,rfl⟩:=h;by_cases hg:g=0
 ·subst hg;simp
 ·rw[Int.mul_ediv_cancel_left _ hg,ZM _ hg]
theorem top_msr{a b:Int}(Y:b≠0):a.fdiv (msr a b)=(ZN a b).num:=by
 rw[Rat.num_divInt,Int.gcd_comm b a];have d:(ZL a b:Int)∣a:=ZO ..;unfold msr
 split
 ·rename_i h
  rw[fdiv_neg_dvd d,Int.sign_eq_neg_one_of_neg h,Int.neg_mul,ZP,Int.neg_ediv_of_dvd d]
 ·rw[fdiv_dvd d,Int.sign_eq_one_of_pos (by lia),ZP]
theorem bottom_msr{a b:Int}(Y:b≠0):b.fdiv (msr a b)=(ZN a b).den:=by
 rw[Rat.den_divInt,if_neg Y,Int.gcd_comm b a];have d:(ZL a b:Int)∣b:=ZQ ..;rw[Int.natCast_ediv];unfold msr
 split
 ·rename_i h
  rw[fdiv_neg_dvd d,<- Int.neg_ediv_of_dvd d,Int.ofNat_natAbs_of_nonpos (by lia)]
 ·rw[fdiv_dvd d,Int.natAbs_of_nonneg (by lia)]
theorem gcd_turn(x y:Int):ZL y (x % y)=ZL x y:=by
 have e:x % y+y*(x / y)=x:=Int.emod_add_mul_ediv x y;have h:ZL (x % y+y*(x / y)) y=ZL (x % y) y:=Int.gcd_add_mul_left_left ..;rw[e]at h;rw[h,Int.gcd_comm]
theorem abs_if(i:Int):(if i<0 then -i else i)=(i.natAbs:Int):=by split<;>lia
theorem num_mul(q:Rat):((q.num:Int):Rat)=q*((q.den:Int):Rat):=by
 have Y:((q.den:Nat):Int)≠0:=by have:=q.den_pos;lia
 have h1:q=(q.num:Rat) / ((q.den:Int):Rat):=by
  have:=ZR q;rw[ZS]at this;exact this.symm
 have W:(((q.den:Int)):Rat)≠0:=fun z=>Y (by exact_mod_cast z)
 conv=>rhs;lhs;rw[h1]
 rw[ZT W]
theorem den_ne(q:Rat):((q.den:Nat):Int)≠0:=by have:=q.den_pos;lia
theorem cast_ne{a:Int}(h:a≠0):(a:Rat)≠0:=fun z=>h (by exact_mod_cast z)
theorem div_eq{t b:Int}{q:Rat}(Y:b≠0)(h:(t:Rat)=q*(b:Rat)):ZN t b=q:=by
 rw[ZS,h,Rat.mul_div_cancel (cast_ne Y)]
theorem plus_eq(p q:Rat):ZN (p.num*q.den+q.num*p.den) (p.den*q.den)=p+q :=
 div_eq (ZU (den_ne p) (den_ne q)) (by rw[ZV,ZW,ZW,ZW,num_mul p,num_mul q];grind)
theorem minus_eq(p q:Rat):ZN (p.num*q.den-q.num*p.den) (p.den*q.den)=p-q :=
 div_eq (ZU (den_ne p) (den_ne q)) (by rw[ZX,ZW,ZW,ZW,num_mul p,num_mul q];grind)
theorem times_eq(p q:Rat):ZN (p.num*q.num) (p.den*q.den)=p*q :=
 div_eq (ZU (den_ne p) (den_ne q)) (by rw[ZW,ZW,num_mul p,num_mul q];grind)
theorem pow_add(x:Rat)(m:Nat):∀n:Nat,x ^ (m+n)=x ^ m*x ^ n
 | 0=>by rw[ZY,ZZ];grind
 | n+1=>by rw[<- Nat.add_assoc,aa,aa,pow_add x m n];grind
end Nm
namespace Cv
def ev:List Rat->Rat->Rat
 | [],_=>0
 | q::r,x=>q+x*ev r x
def strip:List Rat->List Rat
 | []=>[]
 | q::r=>if strip r=[]/\q=0 then [] else q::strip r
theorem ev_strip(x:Rat):∀qs,ev (strip qs) x=ev qs x
 | []=>rfl
 | q::r=>by
   have ih:=ev_strip x r;unfold strip
   split
   ·rename_i h
    rw[h.1]at ih;show(0:Rat)=q+x*ev r x;rw[<- ih,h.2];show(0:Rat)=0+x*0;grind
   ·show q+x*ev (strip r) x=_;rw[ih];rfl
theorem strip_length:∀qs,(strip qs).length<=qs.length
 | []=>YL _
 | q::r=>by
   have ih:=strip_length r;unfold strip
   split
   ·exact YN _
   ·exact Nat.succ_le_succ ih
theorem strip_last:∀qs,strip qs≠[]->(strip qs)[(strip qs).length-1]? ≠ some 0
 | [],h=>absurd rfl h
 | q::r,h=>by
   have ih:=strip_last r;unfold strip at h ⊢
   split at h
   ·exact absurd rfl h
   ·rename_i Y
    rw[if_neg Y];by_cases e:strip r=[]
    ·rw[e];intro z;have W:q=0:=by simpa using z
     exact Y ⟨e,W⟩
    ·have O:0<(strip r).length:=ae.mpr e;rw[YY,show(strip r).length+1-1=((strip r).length-1)+1 by lia,af]
     exact ih e
theorem strip_mem:∀qs q,q∈strip qs->q∈qs
 | [],_,h=>h
 | p::r,q,h=>by
   unfold strip at h
   split at h
   ·cases h
   ·rcases YD.mp h with e | e
    ·exact e ▸ YB
    ·exact YC _ (strip_mem r q e)
theorem take_strip:∀(qs:List Rat) (w:Nat),(∀j q,w<=j->qs[j]? = some q->q=0)->(w=0\/∃q,qs[w-1]? = some q/\q≠0)->qs.take w=strip qs
 | [],w,_,_=>by simp[strip]
 | p::r,0,h,_=>by
   have Y:=take_strip r 0 (fun j q _ e=>h (j+1) q (by lia) (by simpa using e)) (.inl rfl)
   have hp:p=0:=h 0 p (YL _) rfl;unfold strip;rw[<- Y,if_pos ⟨Z,hp⟩];rfl
 | p::r,w+1,h,h2=>by
   have hz:∀j q,w<=j->r[j]? = some q->q=0:=fun j q hj e=>h (j+1) q (by lia) (by simpa using e)
   by_cases hw:w=0
   ·subst hw;have Y:=take_strip r 0 hz (.inl rfl)
    rcases h2 with z | ⟨q,e,W⟩
    ·exact absurd z (by lia)
    ·have e':p=q:=by simpa using e
     subst e';unfold strip;rw[<- Y,if_neg (fun z=>W z.2)];rfl
   ·have Y:=take_strip r w hz (by
     rcases h2 with z | ⟨q,e,W⟩
     ·exact absurd z (by lia)
     ·refine .inr ⟨q,?_,W⟩;rw[show w+1-1=(w-1)+1 by lia,af]at e
      exact e)
    have O:strip r≠[]:=by
     rw[<- Y]
     rcases h2 with z | ⟨q,e,W⟩
     ·exact absurd z (by lia)
     ·rw[show w+1-1=(w-1)+1 by lia,af]at e
      intro z
      have J:0<(r.take w).length:=by
       rw[Zh];have:=(YG.mp e).1
       lia
      rw[z]at J;simp at J
    unfold strip;rw[<- Y,if_neg (fun z=>O (by rw[<- Y];exact z.1))];rfl
def pw:List Rat->Rat->Rat->Rat
 | [],_,_=>0
 | q::r,x,p=>q*p+pw r x (p*x)
theorem ev_scale(c x:Rat):∀qs,ev (qs.map (· * c)) x=ev qs x*c
 | []=>by show(0:Rat)=0*c;grind
 | q::r=>by
   show q*c+x*ev (r.map (· * c)) x=(q+x*ev r x)*c;rw[ev_scale c x r];grind
theorem ev_snoc(x q:Rat):∀l:List Rat,ev (l++[q]) x=ev l x+q*x ^ l.length
 | []=>by show q+x*0=0+q*x ^ 0;rw[ZZ];grind
 | p::r=>by
   show p+x*ev (r++[q]) x=(p+x*ev r x)+q*x ^ (r.length+1);rw[ev_snoc x q r,aa];grind
theorem strip_zeros:∀(qs:List Rat) (n:Nat),strip (qs++Zf n 0)=strip qs
 | [],0=>rfl
 | [],n+1=>by
   have Y:=strip_zeros [] n;show strip (0::Zf n 0)=[];unfold strip;have e:strip (Zf n 0)=[]:=by simpa [strip] using Y
   rw[if_pos ⟨e,Z⟩]
 | q::r,n=>by
   have Y:=strip_zeros r n;show strip (q::(r++Zf n 0))=strip (q::r);unfold strip;rw[Y]
theorem ev_set(x d:Rat):∀(l:List Rat) (i:Nat) (v:Rat),l[i]? = some v->ev (l.set i (v+d)) x=ev l x+d*x ^ i
 | [],_,_,h=>by simp at h
 | q::r,0,v,h=>by
   have e:q=v:=by simpa using h
   subst e;show(q+d)+x*ev r x=(q+x*ev r x)+d*x ^ 0;rw[ZZ];grind
 | q::r,i+1,v,h=>by
   show q+x*ev (r.set i (v+d)) x=(q+x*ev r x)+d*x ^ (i+1);rw[ev_set x d r i v (by simpa using h),aa];grind
theorem ev_zeros(x:Rat):∀n,ev (Zf n 0) x=0
 | 0=>rfl
 | n+1=>by
   show(0:Rat)+x*ev (Zf n 0) x=0;rw[ev_zeros x n];grind
def evI(ts:List Int)(x:Rat):Rat:=ev (ts.map fun t:Int=>(t:Rat)) x
theorem evI_set(x:Rat)(l:List Int)(i:Nat)(v d:Int)(h:l[i]? = some v):evI (l.set i (v+d)) x=evI l x+(d:Rat)*x ^ i:=by
 unfold evI;rw[ag,ZV];exact ev_set x _ _ i _ (by rw[Zl,h];rfl)
theorem evI_zeros(x:Rat)(n:Nat):evI (Zf n 0) x=0:=by
 unfold evI;rw[ah];exact ev_zeros x n
theorem evI_take_succ(x:Rat)(l:List Int)(i:Nat)(v:Int)(h:l[i]? = some v):evI (l.take (i+1)) x=evI (l.take i) x+(v:Rat)*x ^ i:=by
 have hi:i<l.length:=(YG.mp h).1;unfold evI;rw[ai,h];show ev ((l.take i++[v]).map _) x=_;rw[aj];show ev (_++[(v:Rat)]) x=_;rw[ev_snoc,Z4,Zh,Zv (by lia)]
theorem evI_cons(x:Rat)(t:Int)(l:List Int):evI (t::l) x=(t:Rat)+x*evI l x:=rfl
def quot(c:Rat):List Rat->List Rat
 | []=>[]
 | [_]=>[]
 | _::b::l=>ev (b::l) c::quot c (b::l)
theorem quot_ev(c x:Rat):∀l:List Rat,ev l x=ev l c+(x-c)*ev (quot c l) x
 | []=>by show(0:Rat)=0+_*0;grind
 | [a]=>by show a+x*0=a+c*0+(x-c)*0;grind
 | a::b::l=>by
   have h:=quot_ev c x (b::l);show a+x*ev (b::l) x=a+c*ev (b::l) c+(x-c)*(ev (b::l) c+x*ev (quot c (b::l)) x);rw[h];grind
theorem quot_length(c:Rat):∀l:List Rat,(quot c l).length=l.length-1
 | []=>rfl
 | [_]=>rfl
 | _::b::l=>by
   show(quot c (b::l)).length+1=_;rw[quot_length c (b::l)];simp
theorem ev_none(x:Rat):∀l:List Rat,(∀q∈l,q=0)->ev l x=0
 | [],_=>rfl
 | a::l,h=>by
   show a+x*ev l x=0;rw[h a YB,ev_none x l fun q hq=>h q (YC _ hq)]
   grind
theorem ident:∀(n:Nat) (l:List Rat),l.length<=n->∀s:Nat,(∀k:Nat,s<=k->ev l (k:Rat)=0)->∀q∈l,q=0
 | 0,l,hl,_,_=>by
   have e:l=[]:=ao (by lia)
   rw[e];exact fun q h=>nomatch h
 | n+1,[],_,_,_=>fun q h=>nomatch h
 | n+1,a::t,hl,s,h=>by
   have J:=h s (YL _)
   have hq:∀q∈quot (s:Rat) (a::t),q=0:=ident n _ (by rw[quot_length];simp at hl ⊢;lia) (s+1) fun k hk=>by
    have e:=quot_ev (s:Rat) (k:Rat) (a::t);rw[h k (by lia),J]at e
    have O:((k:Rat)-(s:Rat))*ev (quot (s:Rat) (a::t)) (k:Rat)=0:=by grind
    rcases aq.mp O with z | z
    ·have z2:(k:Rat)=(s:Rat):=by grind
     have z3:k=s:=by exact_mod_cast z2
     lia
    ·exact z
   have Y:∀x,ev (a::t) x=0:=fun x=>by
    rw[quot_ev (s:Rat) x (a::t),J,ev_none x _ hq];grind
   have ha:a=0:=by
    have:=Y 0;show a=0;have e:ev (a::t) 0=a+0*ev t 0:=rfl;rw[e]at this
    grind
   have ht:∀q∈t,q=0:=ident n t (by simp at hl;lia) 1 fun k hk=>by
    have e:=Y (k:Rat);have e1:ev (a::t) (k:Rat)=a+(k:Rat)*ev t (k:Rat):=rfl;rw[e1,ha]at e;have O:(k:Rat)*ev t (k:Rat)=0:=by grind
    rcases aq.mp O with z | z
    ·have z3:k=0:=by exact_mod_cast z
     lia
    ·exact z
   intro q W
   rcases YD.mp W with z | z
   ·rw[z];exact ha
   ·exact ht q z
def dif:List Rat->List Rat->List Rat
 | [],m=>m.map (· * (-1))
 | a::l,m=>(a-m.headD 0)::dif l m.tail
theorem ev_head(x:Rat)(m:List Rat):ev m x=m.headD 0+x*ev m.tail x:=by
 cases m with
 | nil=>show(0:Rat)=0+x*0;grind
 | cons b m=>rfl
theorem dif_ev(x:Rat):∀l m:List Rat,ev (dif l m) x=ev l x-ev m x
 | [],m=>by
   show ev (m.map (· * (-1))) x=0-ev m x;rw[ev_scale];grind
 | a::l,m=>by
   show(a-m.headD 0)+x*ev (dif l m.tail) x=(a+x*ev l x)-ev m x;rw[dif_ev x l m.tail,ev_head x m];grind
theorem dif_none:∀l m:List Rat,l.length=m.length->(∀q∈dif l m,q=0)->l=m
 | [],[],_,_=>rfl
 | [],_::_,e,_=>nomatch e
 | _::_,[],e,_=>nomatch e
 | a::l,b::m,e,h=>by
   have h1:a-b=0:=h _ YB;have h2:=dif_none l m (by simpa using e) fun q Y=>h q (YC _ Y)
   rw[h2,show a=b by grind]
theorem same_of(l m:List Rat)(e:l.length=m.length)(h:∀x,ev l x=ev m x):l=m :=
 dif_none l m e (ident _ _ (YL _) 0 fun k _=>by rw[dif_ev,h];grind)
end Cv
namespace L2
open PySem PySem.Spec PyProof.Rows
theorem DK{env:Env}:∀(names:List (Str×fT)) (Y:List (Str×ad)),(∀x∈names,x.2 = .free->∃c,env.cells.lookup x.1=some c) ->
 ∃cl:List (Str×ad),(forIn (m:=Sem) names Y fun x r=>do
  if x.2 == .free then pure (ForInStep.yield ((x.1,<- cellOf env x.1)::r)) else pure (ForInStep.yield r))=pure cl /\
  (∀p∈cl,p∈Y\/env.cells.lookup p.1=some p.2)/\(∀p∈Y,p∈cl)/\∀x∈names,x.2 = .free->∃c,(x.1,c)∈cl
 | [],Y,_=>⟨Y,Z,fun _ h=>.inl h,fun _ h=>h,fun _ h=>nomatch h⟩
 | x::r,Y,h=>by
   by_cases hk:x.2 = .free
   ·obtain⟨c,hc⟩:=h x YB hk;obtain⟨cl,e,h1,h2,h3⟩:=DK r ((x.1,c)::Y) fun y W=>h y (YC _ W);refine⟨cl,?_,fun p hp=>?_,fun p hp=>h2 p (YC _ hp),fun y W J=>?_⟩
    ·rw[ar];have z:(x.2 == NameKind.free)=true:=by rw[hk];rfl
     have O:cellOf env x.1=pure c:=by unfold cellOf;rw[hc]
     simp only[z,if_true,O];exact e
    ·rcases h1 p hp with q | q
     ·rcases YD.mp q with rfl | q
      ·exact .inr hc
      ·exact .inl q
     ·exact .inr q
    ·rcases YD.mp W with rfl | W
     ·exact⟨c,h2 _ YB⟩
     ·exact h3 y W J
   ·obtain⟨cl,e,h1,h2,h3⟩:=DK r Y fun y W=>h y (YC _ W);refine⟨cl,?_,h1,h2,fun y W J=>?_⟩
    ·rw[ar]
     have z:(x.2 == NameKind.free)=false:=by
      cases e:x.2<;>first | rfl | exact absurd e hk
     simp only[z,Bool.false_eq_true,if_false];exact e
    ·rcases YD.mp W with rfl | W
     ·exact absurd J hk
     ·exact h3 y W J
theorem EA{x:Str}{c:ad}:∀{cl:List (Str×ad)},(x,c)∈cl->∃Y,cl.lookup x=some Y
 | [],h=>nomatch h
 | (y,d)::r,h=>by
   by_cases e:x=y
   ·subst e;exact⟨d,by simp⟩
   ·rcases YD.mp h with q | q
    ·cases q;exact absurd rfl e
    ·obtain⟨Y,q'⟩:=EA q;refine⟨Y,?_⟩;have:(x == y)=false:=by simpa using e
     rw[au,this];exact q'
theorem EB{scope:dJ}{env:Env}(h:∀x∈scope.names,x.2 = .free->∃c,env.cells.lookup x.1=some c) :
 ∃cl:List (Str×ad),closureFor scope env=pure cl/\(∀x c,cl.lookup x=some c->env.cells.lookup x=some c)/\∀x∈scope.names,x.2 = .free->∃c,cl.lookup x.1=some c:=by
 obtain⟨cl,e,h1,_,O⟩:=DK scope.names [] h;refine⟨cl,?_,fun x c q=>?_,fun x W J=>?_⟩
 ·unfold closureFor;simp only[bind_pure];exact e
 ·rcases h1 _ (PySem.mem_of_lookup q) with z | z
  ·exact nomatch z
  ·exact z
 ·obtain⟨c,Y⟩:=O x W J;exact EA Y
theorem CH{env:Env}:∀{names:List (Str×fT)} {x:Str},names.lookup x=some .free ->
 (names.map fun(n,k)=>if (k == NameKind.free&&env.scope.kind == .function&&env.kindOf n == some .cell) then (n,NameKind.cell) else (n,k)).lookup x=some .cell \/
 (names.map fun(n,k)=>if (k == NameKind.free&&env.scope.kind == .function&&env.kindOf n == some .cell) then (n,NameKind.cell) else (n,k)).lookup x=some .free
 | [],_,h=>by simp at h
 | (n,k)::r,x,h=>by
   have ih:=@CH env r x;show Z1 x ((if (k == NameKind.free&&env.scope.kind == .function&&env.kindOf n == some .cell)=true then (n,NameKind.cell) else (n,k))::_)=_\/Z1 x ((if (k == NameKind.free&&env.scope.kind == .function&&env.kindOf n == some .cell)=true then (n,NameKind.cell) else (n,k))::_)=_;cases hx:x == n with
   | true =>
     simp only[au,hx]at h;cases h;by_cases hc:(NameKind.free == NameKind.free&&env.scope.kind == .function&&env.kindOf n == some .cell)=true
     ·rw[if_pos hc];simp[au,hx]
     ·rw[if_neg hc];simp[au,hx]
   | false =>
     simp only[au,hx]at h;by_cases hc:(k == NameKind.free&&env.scope.kind == .function&&env.kindOf n == some .cell)=true
     ·rw[if_pos hc];simp only[au,hx];exact ih h
     ·rw[if_neg hc];simp only[au,hx];exact ih h
theorem Fl{env:Env}{x:Str}:∀{names:List (Str×fT)},(∀y∈names,y.2 ≠ .cell) ->
 ((names.map fun(n,k)=>if (k == NameKind.free&&env.scope.kind == .function&&env.kindOf n == some .cell) then (n,NameKind.cell) else (n,k)).lookup x=some .cell \/
  (names.map fun(n,k)=>if (k == NameKind.free&&env.scope.kind == .function&&env.kindOf n == some .cell) then (n,NameKind.cell) else (n,k)).lookup x=some .free)->(x,NameKind.free)∈names
 | [],_,h=>by simp at h
 | (n,k)::r,hc,h=>by
   have ih:=@Fl env x r fun y Y=>hc y (YC _ Y);have hk:k ≠ .cell:=hc (n,k) YB;change Z1 x ((if (k == NameKind.free&&env.scope.kind == .function&&env.kindOf n == some .cell)=true then (n,NameKind.cell) else (n,k))::_)=_\/Z1 x ((if (k == NameKind.free&&env.scope.kind == .function&&env.kindOf n == some .cell)=true then (n,NameKind.cell) else (n,k))::_)=_ at h;cases hx:x == n with
   | true =>
     have e:x=n:=by simpa using hx
     subst e;by_cases hq:(k == NameKind.free&&env.scope.kind == .function&&env.kindOf x == some .cell)=true
     ·have:k = .free:=by
       cases k<;>first | rfl | (simp at hq)
      subst this;exact YB
     ·rw[if_neg hq]at h;simp only[au,hx]at h
      rcases h with h | h
      ·cases h;exact absurd rfl hk
      ·cases h;exact YB
   | false =>
     refine YC _ (ih ?_);by_cases hq:(k == NameKind.free&&env.scope.kind == .function&&env.kindOf n == some .cell)=true
     ·rw[if_pos hq]at h;simpa only[au,hx] using h
     ·rw[if_neg hq]at h;simpa only[au,hx] using h
def BI(X:Cx)(N:List Str)(scope:dJ)(cl:List (Str×ad))(C:ad)(s:aI)(H:Hp)(fp:List ad):Cx :=
 { prog:=X.prog,w:=X.w,K:=X.K,mg:=X.mg,base:=X.base,A:=X.A,N:=N,s₀:=s,H₀:=H,env:=compEnvC scope cl C X.env,outer:=X.stack,stack:=X.stack,ex:=fp,
   fn:=fun _=>false,calm:=X.calm,pn:=[],xe:=fun _ _=>False }
def cS(nt:Nat)(js:List Nat)(σ:St):St:=Zf nt none++js.map fun i=>σ.getD i none
abbrev Fz(ys:List am):Obj:={ cls:=.type "list",data:=.seq ys.toArray ys.length }
theorem Ke{prog:ce}{w:db}{A:dl}{R:Result->aI->Prop}{s:aI}{elt Y iter:Expr}{ifs:List Expr}{scope:dJ}{pos:Pos}{it ap:am}{env:Env}(I:Nat->aI->Prop)
 (aC:∀n s,I n s->bv (cr prog w) A (ff it) (fun r J=>match r with
  | none=>R (.ok .next) J
  | some v=>bv (cr prog w) A (fz Y it v) (fun _ W=>bv (cr prog w) A (assign Y env v) (fun _ al =>
   bv (cr prog w) A (forIn ifs true fun c r=>if r=true then do let ok <- isTrue c env (dE c env);pure (ForInStep.yield ok) else pure (ForInStep.yield r)) (fun ok O =>
    if ok=true then bv (cr prog w) A (dE elt env) (fun x ab =>
     bv (cr prog w) A (call (.builtin "list.append") [ap,x]) (fun _ an=>∃m,m<n/\I m an) (fun _ _=>False) ab) (fun _ _=>False) O
    else ∃m,m<n/\I m O) (fun _ _=>False) al) (fun _ _=>False) W) (fun _ _=>False) J) (fun _ _=>False) s)
 (n:Nat) (h:I n s) :
 eC (cr prog w) A (.compLoop (.ListComp elt [⟨Y,iter,ifs,0⟩] scope pos) 0 it ap env) R s:=by
 refine codeAny_loop rfl I (fun n s hI=>?_) n h;show bv _ A ((compTurn (.ListComp elt [⟨Y,iter,ifs,0⟩] scope pos) 0 it ap env).onRaise (fun x=>do noteFrame x env;theTreesLotGoes x)) _ _ s
 refine wpAny_noted ?_;rw[compTurn_list];refine ac (eV (ac (dF (aC n s hI) (fun r J h₁=>?_) fun _ _ h'=>h'.elim)));cases r with
 | none=>exact aQ h₁
 | some v =>
   refine ac (dF h₁ (fun _ W as=>?_) fun _ _ h'=>h'.elim);refine ac (dF as (fun _ al aP=>ac (dF aP (fun ok O ak=>?_) fun _ _ h'=>h'.elim)) fun _ _ h'=>h'.elim);cases ok with
   | false=>exact aQ ⟨Z,ak⟩
   | true =>
     exact ac (ac (dF ak (fun x ab a0=>ac (dF a0 (fun _ an aF=>aQ (aQ ⟨Z,aF⟩)) fun _ _ h'=>h'.elim)) fun _ _ h'=>h'.elim))
def PTs(X:Cx)(ifs:List Expr)(t:TT):Prop :=
 ∀ (pins:List (ad×Obj)) (s:aI) (σ:St) (H:Hp) (Q:Bool->Hp->Prop),Inv X pins σ H s->t σ H Q ->
   bv (cr X.prog X.w) X.A (forIn ifs true fun c r=>if r=true then do let ok <- isTrue c X.env (dE c X.env);pure (ForInStep.yield ok) else pure (ForInStep.yield r)) (TP X pins σ Q) X.xe s
def Ks:TT:=fun _ H Q=>Q true H
theorem AN{X:Cx}:PTs X [] Ks:=fun _ _ _ H _ I h=>wpAny_tests_nil ⟨H,I,h⟩
theorem Fn{X:Cx}{c:Expr}{t:TT}(h:PT X c t):PTs X [c] t:=fun pins s σ H Q I q=>wpAny_tests_one (h pins s σ H Q I q)
structure LcW(J:It)(n nt:Nat)(js:List Nat)(σ:St)(g:TG)(tc:TT)(te:TE)(Fin:List V->Hp->Prop)(W:Nat->List V->Hp->Prop):Prop where
 go:∀i zs H,i<n->W i zs H->J.go i H/\zs.length<bi
 step:∀i zs H x H',i<n->W i zs H->J.yld i H x H'->g x (cS nt js σ) H' fun σ2 H2=>tc σ2 H2 fun b H3=>if b=true then te σ2 H3 fun y H4=>W (i+1) (zs++[y]) H4 else W (i+1) zs H3
 stop:∀zs H,W n zs H->J.stop n H/\zs.length<=bi/\Fin zs H
@[irreducible] def tLC(wi:TI)(nt:Nat)(js:List Nat)(g:TG)(tc:TT)(te:TE):TE:=fun σ H Q=>wi σ H fun J H1 =>
 ∃(n:Nat) (W:Nat->List V->Hp->Prop),W 0 [] H1/\LcW J n nt js σ g tc te (fun zs H'=>∀p,H' p=none->Q (.ref p) (upd H' p (.lst zs))) W
theorem Bh{wi:TI}{nt:Nat}{js:List Nat}{g:TG}{tc:TT}{te:TE}{σ:St}{H:Hp}{Q:VK}
 (h:wi σ H fun J H1=>∃(n:Nat) (W:Nat->List V->Hp->Prop),W 0 [] H1/\LcW J n nt js σ g tc te (fun zs H'=>∀p,H' p=none->Q (.ref p) (upd H' p (.lst zs))) W):tLC wi nt js g tc te σ H Q:=by
 unfold tLC;exact h
theorem SW{wi:TI}{nt:Nat}{js:List Nat}{g:TG}{tc:TT}{te:TE}{σ:St}{H:Hp}{Q:VK}(h:tLC wi nt js g tc te σ H Q) :
 wi σ H fun J H1=>∃(n:Nat) (W:Nat->List V->Hp->Prop),W 0 [] H1/\LcW J n nt js σ g tc te (fun zs H'=>∀p,H' p=none->Q (.ref p) (upd H' p (.lst zs))) W:=by
 unfold tLC at h;exact h
structure AG(X:Cx)(N:List Str)(nt:Nat)(js:List Nat)(scope:dJ):Prop where
 kind:scope.kind = .function
 nocell:∀y∈scope.names,y.2 ≠ .cell
 names:∀y∈scope.names,y.2 = .local->scope.names.lookup y.1=some .local
 free:∀y∈scope.names,y.2 = .free->X.env.kindOf y.1=some .cell\/X.env.kindOf y.1=some .free
 len:N.length=nt+js.length
 outer:∀j i,js[j]? = some i->∃x,N[nt+j]? = some x/\X.N[i]? = some x/\scope.names.lookup x=some .free
def Kd(NX:List Str)(sc:dJ)(N:List Str)(nt:Nat)(js:List Nat)(scope:dJ):Bool :=
 decide (scope.kind = .function)&&scope.names.all (fun y=>decide (y.2 ≠ .cell))&&scope.names.all (fun y=>decide (y.2 ≠ .local)||decide (scope.names.lookup y.1=some .local)) &&
 scope.names.all (fun y=>decide (y.2 ≠ .free)||(decide (sc.names.lookup y.1=some .cell)||decide (sc.names.lookup y.1=some .free)))&&decide (N.length=nt+js.length) &&
 (Yu js.length).all fun j=>match js[j]?,N[nt+j]? with
  | some i,some x=>decide (NX[i]? = some x)&&decide (scope.names.lookup x=some .free)
  | _,_=>false
theorem AG.look{X:Cx}{NX N:List Str}{sc scope:dJ}{nt:Nat}{js:List Nat}(O:X.N=NX)(hs:X.env.scope=sc)(h:Kd NX sc N nt js scope=true):AG X N nt js scope:=by
 unfold Kd at h;simp only[Bool.and_eq_true,av,Bool.or_eq_true,decide_eq_true_eq]at h;obtain⟨⟨⟨⟨⟨h1,h2⟩,h3⟩,h4⟩,h5⟩,W⟩:=h;refine⟨h1,h2,fun y Y hl=>(h3 y Y).resolve_left fun z=>z hl,fun y Y hf=>?_,h5,fun j i e=>?_⟩
 ·have q:=(h4 y Y).resolve_left fun z=>z hf;rw[<- hs]at q;exact q
 ·have J:j<js.length:=(YG.mp e).1;have q:=W j (Yw.mpr J);rw[e]at q;cases en:N[nt+j]? with
  | none=>rw[en]at q;cases q
  | some x =>
    rw[en]at q;simp only[Bool.and_eq_true,decide_eq_true_eq]at q;exact⟨x,Z,by rw[O];exact q.1,q.2⟩
section
variable {X:Cx}{N:List Str}{nt:Nat}{js:List Nat}{scope:dJ}{cl:List (Str×ad)}
theorem HOk.track{P:ce}{w:db}{H:Hp}{h:dw}{a:ad}{o:HO}(x:HOk P w H h)(W:H a=none)(Y:BH P w (upd H a o) h a o):HOk P w (upd H a o) h:=fun b u e=>by
 by_cases hb:b=a
 ·subst hb;rw[A9]at e;cases e;exact Y
 ·rw[Aq hb]at e;exact(x b u e).stay (fun c v _ q=>q) (fun c q=>by rw[Aq (As q W)];exact q) fun c xs q=>by rw[Aq (As q W)];exact q
theorem QD{pins:List (ad×Obj)}{σ:St}{H:Hp}{s:aI}{C D:ad}{h':dw}{tk:Nat}{fp:List ad}{m:Str->Option am}(I:Inv X pins σ H s)(ok:AG X N nt js scope)
 (W:∀x c,cl.lookup x=some c->X.env.cells.lookup x=some c) (O:∀x∈scope.names,x.2 = .free->∃c,cl.lookup x.1=some c)
 (hf:∀b∈fp,DR X pins H b) (ho:∀b∈fp,∃o,s.heap.get? b=some o/\∀v,o.data ≠ .cell v)
 (hD:s.heap.objs.size<=D) (hC:s.heap.objs.size<=C) (ap:D≠C) (k:∀b o,s.heap.get? b=some o->h'.get? b=some o) (hn:h'.Ns C m) (hd:h'.get? D=some (Fz [])) :
 Inv (BI X N scope cl C s H fp) [(D,Fz [])] (cS nt js σ) H { s with heap:=h',toks:=tk }:=by
 have lt:∀b∈fp,b<s.heap.objs.size:=fun b Y=>by obtain⟨o,e,_⟩:=ho b Y;exact Heap.lt_size e
 have al:∀b∈frs X.stack,b<s.heap.objs.size:=fun b Y=>by
  obtain⟨_,o,e,_⟩:=I.stack.mem Y;exact Heap.lt_size e
 refine⟨⟨I.ok.mod,ok.kind,I.ok.glob,I.ok.blt,hC,fun x y c h1 h2=>I.ok.inj x y c (W x c h1) (W y c h2),fun x hx=>?_,fun x c hx=>absurd hx Bool.false_ne_true,I.ok.hd,I.ok.frames,.inl rfl,fun b Y=>⟨?_,fun x c e=>(hf b Y).2.2.2.2.1 x c (W x c e)⟩,I.bs,
  Yy I.ok.bsz I.sz,fun b o e Y=>?_,fun b Y hs=>?_,I.stack,I.stkFree⟩,Z,I.bare,Un.kept k,⟨m,hn,fun j x v h1 h2 h3=>?_⟩,fun x c e=>?_,I.hok.fresh hC,fun x c e=>I.freeC x c (W x c e),fun p hp=>?_,I.hok.kept k,?_⟩
 ·obtain⟨c,hc⟩:=O (x,.free) (Fl ok.nocell hx) rfl;exact⟨c,hc⟩
 ·exact Yt (Yr (lt b Y) hC)
 ·rcases(hf b Y).2.2.2.1 with z | z
  ·exact I.ok.noex b o e z
  ·exact absurd (Yr (Heap.lt_size e) (Yy I.ok.bsz z)) (Ys _)
 ·rcases YD.mp (I.stkSub b hs) with z | z
  ·exact(hf b Y).2.1 z
  ·exact(hf b Y).2.2.1 z
 ·change N[j]? = some x at h1;unfold cS at h2;by_cases hj:j<nt
  ·rw[Zk (by simpa using hj),Zj]at h2
   rw[if_pos hj]at h2;cases h2
  ·rw[Zi (by simpa using Nat.not_lt.mp hj),Zp,Zl]at h2
   cases ei:js[j-nt]? with
   | none=>rw[ei]at h2;cases h2
   | some i =>
     rw[ei]at h2;obtain⟨y,e1,e2,e3⟩:=ok.outer _ i ei;rw[show nt+(j-nt)=j by lia,h1]at e1
     cases e1
     have hv:σ[i]? = some (some v):=by
      simp only[Option.map_some,Yo.injEq]at h2;rw[aw]at h2;cases eσ:σ[i]? with
      | none=>rw[eσ]at h2;cases h2
      | some z=>rw[eσ]at h2;simp at h2;rw[h2]
     obtain⟨as,_,hl⟩:=I.loc;have kf:=ok.free (x,.free) (PySem.mem_of_lookup e3) rfl;obtain⟨u,r,l⟩:=hl i x v e2 hv (kf.elim (fun z=>.inr (.inl z)) fun z=>.inr (.inr z));refine⟨u,r,.inr ⟨CH e3,?_⟩⟩
     rcases l with ⟨kl,_⟩ | ⟨_,c,ec,⟨oc,ab,J⟩⟩
     ·rcases kf with z | z<;>(rw[z]at kl;cases kl)
     ·obtain⟨c',ak⟩:=O (x,.free) (PySem.mem_of_lookup e3) rfl;have e':=W x c' ak;rw[ec]at e';cases e';exact⟨c,ak,oc,k _ _ ab,J⟩
 ·obtain⟨v,oc,ab,J⟩:=I.cell x c (W x c e);exact⟨v,oc,k _ _ ab,J⟩
 ·have e:p=(D,Fz []):=by
   have an:p∈[(D,Fz [])]:=hp
   simpa using an
  subst e;refine⟨hd,I.hok.fresh hD,ap,fun Y=>absurd (Yr (al D Y) hD) (Ys _),fun v z=>by cases z⟩
 ·show(cS nt js σ).length=N.length;unfold cS;rw[Zo,Zp,Z4,ok.len]
end
def LX(g:TG)(nt:Nat):Prop:=∀x σ H Q,g x σ H Q->g x σ H fun σ2 H2=>(σ2.length=σ.length/\σ2.drop nt=σ.drop nt)/\Q σ2 H2
theorem Av{i nt:Nat}(h:i<nt):LX (CI i) nt:=fun x σ H Q q=>⟨⟨Zz,by
 apply ax;intro k;rw[ay,ay,YI (by lia)]⟩,q⟩
section
variable {X:Cx}{N:List Str}{nt:Nat}{js:List Nat}{scope:dJ}{elt iter tg:Expr}{ifs:List Expr}{pos:Pos}{g:TG}{tc:TT}{te:TE}{wi:TI}
theorem NZ{σ Y:St}(O:Y.length=(cS nt js σ).length)(W:Y.drop nt=(cS nt js σ).drop nt):∀(i:Nat) v,(cS nt js σ)[i]? = some (some v)->Y[i]? = some (some v):=fun i v e=>by
 by_cases hi:i<nt
 ·unfold cS at e;rw[Zk (by simpa using hi),Zj,if_pos hi]at e
  cases e
 ·have q:((cS nt js σ).drop nt)[i-nt]? = some (some v):=by rw[ay,show nt+(i-nt)=i by lia];exact e
  rw[<- W,ay,show nt+(i-nt)=i by lia]at q
  exact q
set_option maxHeartbeats 4000000 in
theorem LL{pins:List (ad×Obj)}{σ:St}{H:Hp}{Y:aI}{cl:List (Str×ad)}{J:It}{fp:List ad}{it:ad}{tn:Nat->dw->Prop}{E:am->aI->Prop}{bt:List V->Hp->Prop}{W:Nat->List V->Hp->Prop}{nn:Nat}
 {RR:am->ad->Result->aI->Prop} (aC:X.calm=true) (ok:AG X N nt js scope)
 (bl:∀x c,cl.lookup x=some c->X.env.cells.lookup x=some c) (b2:∀x∈scope.names,x.2 = .free->∃c,cl.lookup x.1=some c)
 (hg:∀cl C s H fp,PG (BI X N scope cl C s H fp) tg g) (hk:LX g nt) (hc:∀cl C s H fp,PTs (BI X N scope cl C s H fp) ifs tc) (he:∀cl C s H fp,PE (BI X N scope cl C s H fp) elt te)
 (I:Inv X pins σ H Y) (T:IP X.prog X.w X.K tg J fp it tn) (st:tn 0 Y.heap) (hf:∀b∈fp,DR X pins H b) (w0:W 0 [] H) (lw:LcW J nn nt js σ g tc te bt W)
 (b8:∀D C s' H' zs m,Inv X pins σ (upd H' D (.lst zs)) s'->s'.heap.Ns C m->H' D=none->(upd H' D (.lst zs)) C=none->C≠X.env.locals->X.s₀.heap.objs.size<=C->(∀x c,X.env.cells.lookup x=some c->c≠C) ->
  (∀p∈X.pn++pins,p.1≠C)->bt zs H'->RR (.ref D) C (.ok .next) s') :
 bv (cr X.prog X.w) X.A (newList []) (fun bp ap=>bv (cr X.prog X.w) X.A (newFunctionEnv scope X.env.globals cl [] X.env.qual none .none (some X.env)) (fun ba bh =>
  eC (cr X.prog X.w) X.A (.compStart (.ListComp elt [⟨tg,iter,ifs,0⟩] scope pos) 0 (.ref it) bp { ba with scope:=relabel scope X.env }) (RR bp ba.locals) bh) E ap) E Y:=by
 refine dO (wpAny_newFunctionEnv ok.nocell (by intro y hy;simp at hy) (fun h₁ ak ab=>?_) ok.kind)
 dsimp only at ak ab ⊢;generalize bf:Y.heap.push { cls:=.type "list",dict:=none,data:=.seq ([]:List am).toArray }=H2 at ak ab ⊢;have hC:H2.objs.size=Y.heap.objs.size+1:=by rw[<- bf,Heap.size_push]
 have as:Y.heap.objs.size≠H2.objs.size:=by rw[hC];exact Yt (Z6 _)
 have an:Y.heap.objs.size<=H2.objs.size:=by rw[hC];exact Zc _
 have al:∀b,b<Y.heap.objs.size->b≠H2.objs.size/\b≠Y.heap.objs.size:=fun b O=>⟨by rw[hC];exact Yt (az O),Yt O⟩
 have bc:∀b o,Y.heap.get? b=some o->h₁.get? b=some o:=fun b o e=>ab.extBut b o (al b (Heap.lt_size e)).1 (Heap.get?_push_of_some _ (bf ▸ Heap.get?_push_of_some _ e));have bq:h₁.get? Y.heap.objs.size=some (Fz []):=ab.extBut _ _ as (Heap.get?_push_of_some _ (bf ▸ Heap.get?_push_size _ rfl));have ho:=T.obj 0 _ st;have lt:∀b∈fp,b<Y.heap.objs.size:=fun b O=>by obtain⟨o,e,_⟩:=ho b O;exact Heap.lt_size e
 have a0:∀ap:aI,ap={ Y with heap:=h₁,toks:=Y.toks+([]:List (Str×am)).length } ->
  eC (cr X.prog X.w) X.A (.compLoop (.ListComp elt [⟨tg,iter,ifs,0⟩] scope pos) 0 (.ref it) (.ref Y.heap.objs.size) (compEnvC scope cl H2.objs.size X.env)) (RR (.ref Y.heap.objs.size) H2.objs.size) ap:=by
  rintro ap rfl
  have I0:Inv (BI X N scope cl H2.objs.size Y H fp) [(Y.heap.objs.size,Fz [])] (cS nt js σ) H { Y with heap:=h₁,toks:=Y.toks+([]:List (Str×am)).length } :=
   QD I ok bl b2 hf ho (YL _) an as bc ak bq
  have bd:∀{H':Hp} {ys:List am},(∀b∈fp,H' b=none)->∀b∈fp,DR (BI X N scope cl H2.objs.size Y H fp) [(Y.heap.objs.size,Fz ys)] H' b:=fun{H' ys} hn b O =>
   ⟨hn b O,(al b (lt b O)).1,I0.ok.exfs b O,.inl O,(I0.ok.exf b O).2,fun p hp=>by
    have b5:p∈[(Y.heap.objs.size,Fz ys)]:=hp;have e:p=(Y.heap.objs.size,Fz ys):=by simpa using b5
    rw[e];exact Ne.symm (al b (lt b O)).2⟩
  refine Ke (fun n s'=>∃i zs ys H',n=nn-i/\i<=nn/\Inv (BI X N scope cl H2.objs.size Y H fp) [(Y.heap.objs.size,Fz ys)] (cS nt js σ) H' s'/\AF zs ys/\tn i s'.heap/\(∀b∈fp,H' b=none)/\W i zs H') ?_ nn
   ⟨0,[],[],H,Z,YN _,I0,.nil,T.keep 0 _ _ st (fun b _ o e=>bc b o e),fun b O=>(hf b O).1,w0⟩
  rintro n s' ⟨i,zs,ys,H',b0,b4,I',rv,be,bD,w'⟩;by_cases hlt:i<nn
  case neg =>
   have b9:i=nn:=Nat.le_antisymm b4 (Nat.not_lt.mp hlt);rw[b9]at w' be;obtain⟨bm,zl,cn⟩:=lw.stop zs H' w';refine thn (T.done (BI X N scope cl H2.objs.size Y H fp) rfl rfl rfl aC nn _ s' _ H' (fun _ _=>False) I' (bd bD) be bm) fun r s4 ⟨hr,I4⟩=>?_;subst hr;have zD:=(I4.pin (Y.heap.objs.size,Fz ys) (YM _ (aA.mpr rfl)));have u:=I4.base
   have u2:Un (frs X.stack) fp H (upd H' Y.heap.objs.size (.lst zs)) Y.heap s4.heap :=
    ⟨u.keep,u.slot,fun b o q n hx=>by rw[Aq (Yt (Heap.lt_size q))];exact u.free b o q n hx,u.there,fun b xs q=>by rw[Aq (As (u.tups b xs q) zD.2.1)];exact u.tups b xs q,
     fun b o xs q=>by rw[Aq (As (u.frzs b o xs q) zD.2.1)];exact u.frzs b o xs q,fun b ps q=>by
      obtain⟨more,e⟩:=u.tbls b ps q;exact⟨more,by rw[Aq (As e zD.2.1)];exact e⟩⟩
   have bg:HOk X.prog X.w (upd H' Y.heap.objs.size (.lst zs)) s4.heap:=HOk.track I4.hok zD.2.1 ⟨zl,ys,_,rv,zD.1⟩;have I5:Inv X pins σ (upd H' Y.heap.objs.size (.lst zs)) s4:=I.call' I4.os u2 bg I4.bare fun b O=>⟨(hf b O).2.2.2.1,(hf b O).2.1,(hf b O).2.2.2.2.1,(hf b O).2.2.2.2.2⟩;obtain⟨m,hn,_⟩:=I4.loc;refine b8 _ _ s4 H' zs m I5 hn zD.2.1 ?_ ?_ (Yy I.sz an) ?_ ?_ cn
   ·rw[Aq (Ne.symm as)];exact I4.free
   ·exact YK (Yr I.lt an)
   ·intro x c e z;obtain⟨v,q⟩:=I.cell x c e;exact absurd (Yr q.lt (by rw[z];exact an)) (Ys _)
   ·intro p hp z;exact absurd (Yr (Heap.lt_size (I.pin p hp).1) (by rw[z];exact an)) (Ys _)
  case pos =>
   obtain⟨go,zl⟩:=lw.go i zs H' hlt w';have step:=lw.step i zs H';refine thn (T.item (BI X N scope cl H2.objs.size Y H fp) rfl rfl rfl aC i _ s' _ H' (fun _ _=>False) I' (bd bD) be go) fun r s4 ⟨u,hr,h4⟩=>?_;subst hr;refine thn h4 fun _ s5 ⟨x,H5,I5,r5,y5,bb,b6⟩=>?_;have cc:=I5.pinned (bd b6) (T.obj _ _ bb);refine thn (hg cl _ Y H fp _ s5 _ H5 x u _ cc r5 (hk _ _ _ _ (step x H5 hlt w' y5))) fun _ s6 ⟨bx,H6,I6,⟨aF,bB⟩,q6⟩=>?_;refine thn (hc cl _ Y H fp _ s6 bx H6 _ I6 q6) fun b7 s7 ⟨H7,I7,q7⟩=>?_
   have aP:∀{H8:Hp} {b3:St} {s8:aI},Inv (BI X N scope cl H2.objs.size Y H fp) ([(Y.heap.objs.size,Fz ys)]++HH fp s5.heap) b3 H8 s8->tn (i+1) s8.heap/\∀b∈fp,H8 b=none:=fun{H8 b3 s8} I8 =>
    ⟨T.keep _ _ _ bb fun b O o e=>(I8.pin (b,o) (YM _ (YM _ (DG O e)))).1,fun b O=>by
     obtain⟨o,e,d⟩:=T.obj _ _ bb b O;exact(I8.pin (b,o) (YM _ (YM _ (DG O e)))).2.1⟩
   cases b7 with
   | false =>
     rw[if_neg Bool.false_ne_true]at q7 ⊢;obtain⟨a1,a2⟩:=aP I7;exact⟨nn-(i+1),by rw[b0];exact Nat.sub_lt_sub_left hlt (Z6 i),i+1,zs,ys,H7,Z,hlt,I7.unpinned.weak (by rw[aF]) (NZ aF bB),rv,a1,a2,q7⟩
   | true =>
     rw[if_pos rfl]at q7 ⊢;refine thn (he cl _ Y H fp _ s7 bx H7 _ I7 q7) fun v s8 ⟨y,H8,I8,r8,q8⟩=>?_;have zD:=(I8.pin (Y.heap.objs.size,Fz ys) (YM _ (YF _ (aA.mpr rfl))));have b1:ys.length<bi:=by rw[<- rv.length];exact zl
     obtain⟨a1,a2⟩:=aP I8;refine append_at (hsz:=by rw[Zs];exact Yz b1) zD.1 fun h9 bN ca=>?_
     have co:Inv (BI X N scope cl H2.objs.size Y H fp) [] (cS nt js σ) H8 s8:=(I8.pins_of (pins':=[]) fun p hp=>nomatch hp).weak (by rw[aF]) (NZ aF bB)
     have I9:Inv (BI X N scope cl H2.objs.size Y H fp) [] (cS nt js σ) H8 { s8 with heap:=h9 }:=co.turned (t':=s8.toks) (it:=Y.heap.objs.size) (fun b o O e=>bN.extBut b o O e) zD.2.1 as (.inr (YL _))
      (fun x c e z=>by
       obtain⟨v,q⟩:=I.cell x c (bl x c e);exact absurd (Yr q.lt (by rw[z];exact YL _)) (Ys _)) (fun p hp=>nomatch hp)
     refine⟨nn-(i+1),by rw[b0];exact Nat.sub_lt_sub_left hlt (Z6 i),i+1,zs++[y],ys++[v],H8,Z,hlt,I9.pins_of (fun p hp=>?_),rv.snoc r8,T.keep _ _ _ a1 fun b O o e=>bN.extBut b o (al b (lt b O)).2 e,a2,q8⟩
     have e:p=(Y.heap.objs.size,Fz (ys++[v])):=by simpa using hp
     subst e;refine⟨?_,zD.2.1,as,zD.2.2.2.1,fun v z=>by cases z⟩
     rw[ca];show some ({ cls:=.type "list",data:=.seq (ys.toArray.push v) (ys.length+1) }:Obj)=some { cls:=.type "list",data:=.seq (ys++[v]).toArray (ys++[v]).length };rw[Zo,ZF,List.push_toArray]
 exact codeAny_compStart_list (a0 _ rfl) (T.self _ 0 _ _ _ (T.keep 0 _ _ st (fun b _ o e=>bc b o e)) (a0 _ rfl))
theorem Bp(Y:X.calm=true)(ok:AG X N nt js scope)(hi:PI X tg iter wi)(hg:∀cl C s H fp,PG (BI X N scope cl C s H fp) tg g)(hk:LX g nt)(hc:∀cl C s H fp,PTs (BI X N scope cl C s H fp) ifs tc)
 (he:∀cl C s H fp,PE (BI X N scope cl C s H fp) elt te) (hs:∀x,fh iter X.env x=pure x:=by intro _;rfl):PE X (.ListComp elt [⟨tg,iter,ifs,0⟩] scope pos) (tLC wi nt js g tc te):=by
 intro pins s σ H Q I h;obtain⟨cl,O,aF,ab⟩:=EB (scope:=scope) (env:=X.env) fun x hx hf=>I.ok.has x.1 (ok.free x hx hf);rw[eval_ListComp];refine wpAny_comprehension_free (use:=none) rfl hs O ok.kind ok.names ?_;refine thn (hi pins s σ H _ I (SW h)) fun v s1 h1=>thn h1 fun bd s2 h2=>?_;obtain⟨it,fp,tn,J,H2,e,I2,T,bb,f2,nn,W,w0,lw⟩:=h2;subst e;refine LL (RR:=fun an C=>compPost (cr X.prog X.w) X.A X.xe none (EP X pins σ Q) an C) Y ok aF ab hg hk hc he I2 T bb f2 w0 lw ?_;intro D C s' H' zs m I3 hn ap as al aC ba a0 aP;exact⟨m,hn,fun bc ak=>⟨.ref D,_,I3.turned (t':=s'.toks) (it:=C) (fun b o hb e=>ak.extBut b o hb e) as al (.inr aC) ba a0,Z,aP D ap⟩⟩
theorem Nu{i:Nat}{y:Str}{py O:Pos}(ab:X.calm=true)(hN:X.N.Nodup)(a0:X.N[i]? = some y)(hy:X.env.kindOf y=some .local)(ok:AG X N nt js scope)(hi:PI X tg iter wi)(hg:∀cl C s H fp,PG (BI X N scope cl C s H fp) tg g)(hk:LX g nt)
 (hc:∀cl C s H fp,PTs (BI X N scope cl C s H fp) ifs tc) (he:∀cl C s H fp,PE (BI X N scope cl C s H fp) elt te)
 (bd:swapsWith (.ListComp elt [⟨tg,iter,ifs,0⟩] scope pos) (some (.Name y py)) O.line X.env=pure true) (hs:∀x,fh iter X.env x=pure x:=by intro _;rfl) :
 PS X (.Assign [.Name y py] (.ListComp elt [⟨tg,iter,ifs,0⟩] scope pos) O) (Tq (tLC wi nt js g tc te) (CI i)):=by
 intro pins s σ H Y I h;obtain⟨cl,ak,be,ap⟩:=EB (scope:=scope) (env:=X.env) fun x hx hf=>I.ok.has x.1 (ok.free x hx hf);rw[exec_Assign_Name_used _ _ _ _ bd];refine ac (eV (ac ?_));show bv _ X.A (do let _ <- comprehension (.ListComp elt [⟨tg,iter,ifs,0⟩] scope pos) scope X.env _ (newList []) false (dE iter X.env) (some (assign (.Name y py) X.env))) _ _ s
 refine ac (dF (wpAny_comprehension_free (use:=some (assign (.Name y py) X.env)) (Q:=fun _ s'=>SP X pins Y .next s') rfl hs ak ok.kind ok.names
  (thn (hi pins s σ H _ I (SW (show tLC wi nt js g tc te σ H fun x H1=>CI i x σ H1 Y.nx from h))) fun v s1 h1=>thn h1 fun bm s2 h2=>?_)) (fun _ s' hq=>aQ (aQ hq)) fun _ _ e=>e)
 obtain⟨it,fp,tn,J,H2,e,I2,T,bc,f2,nn,W,w0,lw⟩:=h2;subst e;refine LL (RR:=fun aF C=>compPost (cr X.prog X.w) X.A X.xe (some (assign (.Name y py) X.env)) (fun _ s'=>SP X pins Y .next s') aF C) ab ok be ap hg hk hc he I2 T bc f2 w0 lw ?_;intro D C s' H' zs m I3 hn aP ba an bb aC bg bf;show bv _ X.A (assign (.Name y py) X.env (.ref D)) _ _ _;refine wpAny_assign_Name (IU (v:=.ref D) I3 hN a0 (.inl hy) rfl (fun s3 I4 al=>?_) (.inr hy));obtain⟨a,al,ha⟩:=al
 have bh:C≠a:=by
  rcases ha with z | z
  ·rw[z];exact an
  ·exact Ne.symm (aC y a z)
 refine⟨m,hn.sameBut al bh,fun bl as=>?_⟩;exact⟨_,_,I4.turned (t':=s3.toks) (it:=C) (fun b o hb e=>as.extBut b o hb e) ba an (.inr bb) aC bg,bf D aP⟩
end
def Bd(n:Nat)(x:Int):Prop:=x.natAbs<2 ^ n
theorem Bd.bits{n:Nat}{x:Int}(h:Bd n x):Builtin.Int.intBits x<=n:=PySem.intBits_le_iff.mpr h
def Ri(i j:Int):Prop:=∃m n,Bd m i/\Bd n j/\m+n<=134217728
theorem Ri.ok{i j:Int}(h:Ri i j):IntMulOk i j:=by
 obtain⟨m,n,h1,h2,Y⟩:=h;exact PySem.IntMulOk.of_le h1.bits h2.bits Y
section
variable {X:Cx}
theorem BY{k:Nat}(hr:BK k X.A)(hT:X.prog.given.tree=none)(hk:32<=k:=by decide)
 (Y:∃(env:Env) (l:List Env),X.stack=env::l/\env.scope.isGenerator=false/\env.scope.isCoroutine=false/\env.builtins=fH/\env.globals=ci:=by exact⟨_,_,Z,Z,Z,Z,Z⟩) :
 OpR X (dY .FloorDiv) (rI (fun _ j=>j≠0) fun i j=>.int (i.fdiv j)):=by
 intro pins s σ H x y v u Q I W O h;obtain⟨i,j,rfl,rfl,hc,q⟩:=h;obtain⟨t,rfl⟩:=W;obtain⟨t',rfl⟩:=O;obtain⟨env,l,e1,e2,e3,e4,J⟩:=Y
 have hd:X.A.depth+Builtin.pylongFrames<recursionLimit:=by
  have:=hr.dp;have e:Builtin.pylongFrames<=101:=by decide
  lia
 refine floordiv_int hc ⟨.int (i.fdiv j),H,I.tok _,⟨_,Z⟩,q⟩ (.inr (PySem.PylongRoom.of I.nolimit hd (PySem.SeerAt.of (I.ok.mod.seer.keeps I.bk) hT (by rw[I.ok.frames,e1]) e2 e3 e4 J)))
end
structure Fd(P:ce)(w:db)(K:Yx)(mg:Str->Option am)(base:dw)(n:Nat)(x:Str)(ps:List Str)(sp:Sp):Prop where
 ex:∃(f:ad) (fd:bn),Ax P w K mg base CX0 n f fd ps sp/\Be K fd ps []/\Z3 K (.ref f)=true/\mg x=some (.ref f)
theorem Aj{X:Cx}{n k:Nat}{x:Str}{ps:List Str}{sp:Sp}{e:Expr}{es:List Expr}{t:TA}{p pos:Pos}(F:Fd X.prog X.w X.K X.mg X.base n x ps sp)(hr:BK k X.A)(hg:Gl X x)(ha:PA X (e::es) t)(hn:n<=k:=by decide)
 (Y:(x == ("__debug__" : Str))=false:=by decide) (J:cQ (e::es) X.env=(false,dE e X.env)::cQ es X.env:=by rfl) (W:(dU pos (cQ es X.env)).any (·.1)=false:=by rfl) :
 PE X (.Call (.Name x p) (e::es) [] pos) (SH sp [] E0 t):=by
 obtain⟨f,fd,F1,O,F3,F4⟩:=F.ex;exact RY F1 (hr.mono hn) hg F4 F3 O .nil Fp ha Y J W
inductive Rds(K:Yx)(H:Hp):V->PyData->Prop where
 | non:Rds K H .non .none
 | bl (b:Bool):Rds K H (.bl b) (.bool b)
 | int (i:Int):Rds K H (.int i) (.int i)
 | str (x:Str):Rds K H (.str x) (.str x)
 | lst {a:ad} {xs:List V} {ds:List PyData}:SqL K H a xs->xs.length=ds.length->(∀(i:Nat) x d,xs[i]? = some x->ds[i]? = some d->Rds K H x d)->Rds K H (.ref a) (.list ds)
 | tup {a:ad} {xs:List V} {ds:List PyData}:SqT K H a xs->xs.length=ds.length->(∀(i:Nat) x d,xs[i]? = some x->ds[i]? = some d->Rds K H x d)->Rds K H (.ref a) (.tuple ds)
theorem E2{h:dw}:∀{us:List am} {xs:List V} {ds:List PyData},AF xs us->xs.length=ds.length->(∀(i:Nat) x d u,xs[i]? = some x->ds[i]? = some d->AJ x u->∃Y,Reads h u d Y)->∃Y,ReadsAll h us ds Y
 | [],_,[],.nil,_,_=>⟨[],.nil⟩
 | [],_,_::_,.nil,hl,_=>by simp at hl
 | _::_,_,[],.cons _ _,hl,_=>by simp at hl
 | u::us,x::xs,d::ds,.cons r t,hl,hr=>by
   obtain⟨a1,r1⟩:=hr 0 x d u rfl rfl r;obtain⟨a2,r2⟩:=E2 (us:=us) (xs:=xs) (ds:=ds) t (by simpa using hl) fun i J d' O e1 W q=>hr (i+1) J d' O (by simpa using e1) (by simpa using W) q
   exact⟨_,.cons r1 r2⟩
theorem Dh{X:Cx}{pins:List (ad×Obj)}{σ:St}{H:Hp}{s:aI}(I:Inv X pins σ H s){x:V}{d:PyData}(r:Rds X.K H x d):∀{u:am},AJ x u->∃O,Reads s.heap u d O:=by
 induction r with
 | non=>intro u Y;cases Y;exact⟨_,.none⟩
 | bl b=>intro u Y;cases Y;exact⟨_,.bool b⟩
 | int i=>intro u Y;obtain⟨t,rfl⟩:=Y;exact⟨_,.int i t⟩
 | str z=>intro u Y;obtain⟨t,rfl⟩:=Y;exact⟨_,.str z t⟩
 | lst q hl _ ih =>
   intro u Y;cases Y;obtain⟨ab,rv,⟨o,n,e,c,_,dd⟩,_⟩:=I.list q;obtain⟨O,W⟩:=E2 rv hl fun i x d u e1 e2 J=>ih i x d e1 e2 J;exact⟨_,.list e c dd (by simpa using W)⟩
 | tup q hl _ ih =>
   intro u Y;cases Y;obtain⟨ab,rv,⟨o,e,c,n,dd⟩,_⟩:=I.tuple q;obtain⟨O,W⟩:=E2 rv hl fun i x d u e1 e2 J=>ih i x d e1 e2 J;exact⟨_,.tuple e c dd (by simpa using W)⟩
section
variable {X:Cx}
@[irreducible] def Iy(K:Yx)(neg:Bool):R2:=fun x y H Q=>∃d e,Rds K H x d/\Rds K H y e/\SeqAt.shaped d=true/\SeqAt.shaped e=true/\Q (.bl (if neg then !PyData.eqv d e else PyData.eqv d e)) H
theorem N0{K:Yx}{neg:Bool}{x y:V}{H:Hp}{Q:VK}(h:∃d e,Rds K H x d/\Rds K H y e/\SeqAt.shaped d=true/\SeqAt.shaped e=true/\Q (.bl (if neg then !PyData.eqv d e else PyData.eqv d e)) H):Iy K neg x y H Q:=by
 unfold Iy;exact h
theorem U0(Y:X.A.units+64<cLine):OpR X (dN .Eq) (Iy X.K false):=by
 intro pins s σ H x y v u Q I W O h;unfold Iy at h;obtain⟨d,e,r1,r2,h1,h2,q⟩:=h;obtain⟨as,J⟩:=Dh I r1 W;obtain⟨bs,q2⟩:=Dh I r2 O;exact SeqAt.compareEq_shaped J q2 h1 h2 Y ⟨.bl _,H,I,Z,q⟩
theorem TZ(Y:X.A.units+64<cLine):OpR X (dN .NotEq) (Iy X.K true):=by
 intro pins s σ H x y v u Q I W O h;unfold Iy at h;obtain⟨d,e,r1,r2,h1,h2,q⟩:=h;obtain⟨as,J⟩:=Dh I r1 W;obtain⟨bs,q2⟩:=Dh I r2 O;exact SeqAt.compareNe_shaped J q2 h1 h2 Y ⟨.bl _,H,I,Z,q⟩
end
theorem AE:dy "len" = some (.builtin "len"):=by decide +kernel
theorem Kh:dy "abs" = some (.builtin "abs"):=by decide +kernel
theorem Bx:dy "isinstance" = some (.builtin "isinstance"):=by decide +kernel
theorem N8:dy "all" = some (.builtin "all"):=by decide +kernel
theorem O0:dy "list" = some (.type "list"):=by decide +kernel
theorem Ck:dy "tuple" = some (.type "tuple"):=by decide +kernel
theorem CU:dy "str" = some (.type "str"):=by decide +kernel
theorem Kg:dy "int" = some (.type "int"):=by decide +kernel
theorem Ss:dy "bool" = some (.type "bool"):=by decide +kernel
theorem LQ:dy "reversed" = some (.type "reversed"):=by decide +kernel
def Fx(H:Hp)(L:List (ad×HO)):Prop:=∀p∈L,H p.1=some p.2
def Mv(a:ad)(H H':Hp):Prop:=∀b o,b≠a->H b=some o->H' b=some o
theorem Mv.refl(a:ad)(H:Hp):Mv a H H:=fun _ _ _ h=>h
theorem Mv.trans{a:ad}{H H1 H2:Hp}(x:Mv a H H1)(y:Mv a H1 H2):Mv a H H2:=fun b o n h=>y b o n (x b o n h)
theorem Mv.new{a p:ad}{H:Hp}{o:HO}(h:H p=none):Mv a H (upd H p o):=fun b u _ q=>by rw[Aq (As q h)];exact q
theorem O1{Y:List Int}{k:Int}(O:0<=k)(h:k<(Y.length:Int)):∃v:Int,atI (Y.map V.int) k=some (.int v):=by
 have hk:k.toNat<Y.length:=by lia
 have W:k=((k.toNat:Nat):Int):=by lia
 have q:atI (Y.map V.int) ((k.toNat:Nat):Int)=some (.int Y[k.toNat]):=AB (by rw[Zl,aB hk]<;>rfl)
 rw[<- W]at q;exact⟨_,q⟩
def nT(q:Rat):HO:=.tup [.int q.num,.int q.den]
def Pen(H:Hp)(a:ad):Prop:=∃c0 c1 c2:Int,H a=some (.lst [.int c0,.int c1,.int c2])
theorem Pen.same{H:Hp}{a p:ad}{o:HO}(x:Pen H a)(h:H p=none):Pen (upd H p o) a:=by
 obtain⟨Y,c1,c2,e⟩:=x;exact⟨Y,c1,c2,by rw[Aq (As e h)];exact e⟩
theorem Pen.put{H:Hp}{a:ad}{Y c1 c2:Int}:Pen (upd H a (.lst [.int Y,.int c1,.int c2])) a:=⟨Y,c1,c2,A9⟩
def BL(i j:Int):Prop:=(-(2 ^ 64)<i/\i<2 ^ 64)\/(-(2 ^ 64)<j/\j<2 ^ 64)\/Ri i j
theorem BL.ok{i j:Int}(h:BL i j):IntMulOk i j:=by
 rcases h with ⟨h1,h2⟩ | ⟨h1,h2⟩ | h
 ·exact .of_left (intBits_le_64 h1 h2)
 ·exact .of_right (intBits_le_64 h1 h2)
 ·exact h.ok
theorem Aw{X:Cx}:OpR X (dY .Mult) (rI BL fun i j=>.int (i*j)):=opI fun _ _ _ _ _ _ _ Y q=>mul_int q Y.ok
def Il(a:ad)(H H':Hp):Prop:=∀b,b≠a->H' b=H b
theorem Il.mv{a:ad}{H H':Hp}(x:Il a H H'):Mv a H H':=fun b o n h=>by rw[x b n];exact h
theorem Il.put{a:ad}{H:Hp}{o:HO}:Il a H (upd H a o):=fun b n=>Aq n
theorem Pen.ne{H:Hp}{a p:ad}{o:HO}(x:Pen H a)(h:H p=some o)(W:∀Y c1 c2:Int,o ≠ .lst [.int Y,.int c1,.int c2]):p≠a:=by
 obtain⟨Y,c1,c2,e⟩:=x;exact CS h e (W Y c1 c2)
structure Lg(a:ad)(H:Hp)(L:List (ad×HO)):Prop where
 fx:Fx H L
 ne:∀x∈L,x.1≠a
 pen:Pen H a
theorem SV(q:Rat):∀Y c1 c2:Int,nT q ≠ .lst [.int Y,.int c1,.int c2]:=fun _ _ _ z=>by cases z
theorem Pp{K:Yx}{H:Hp}{a p:ad}{xs:List V}{o:HO}(W:SqL K H a xs)(Y:H p=none):SqL K (upd H p o) a xs:=by
 have st:∀u,H a=some u->upd H p o a=some u:=fun u e=>by rw[Aq (As e Y)];exact e
 rcases W with (h | ⟨o,h⟩) | h
 ·exact .inl (.inl (st _ h))
 ·exact .inl (.inr ⟨o,st _ h⟩)
 ·exact .inr h
inductive Jy(vs:List V)(H:Hp)(Q:VK)(E_3:XK):Prop
 | mk (a:ad) (m:Int) (h1:vs=[.ref a,.int m]) (h2:Pen H a) (h3:1<=m) (h4:m<1073741824) (h5:∀(d:Int) (H':Hp),0<=d->d<m->Il a H H'->Pen H' a->Q (.int d) H'):Jy vs H Q E_3
inductive Px(K:Yx)(vs:List V)(H:Hp)(Q:VK)(E_3:XK):Prop
 | mk (a:ad) (ns:List Int) (k:Int) (h1:vs=[.ref a,.int k]) (h2:SqL K H a (ns.map V.int)) (h3:ns.length<=63) (h4:0<=k) (h5:k<2 ^ 62) (h6:∀(p:ad) (c0 c1:Int),H p=none->Q (.ref p) (upd H p (.lst [.int c0,.int c1,.int 0]))):Px K vs H Q E_3
inductive DT(vs:List V)(H:Hp)(Q:VK)(E_3:XK):Prop
 | mk (t b:Int) (h1:vs=[.int t,.int b]) (h2:b≠0) (h3:∀p,H p=none->Q (.ref p) (upd H p (nT (ZN t b)))):DT vs H Q E_3
inductive IV(vs:List V)(H:Hp)(Q:VK)(E_3:XK):Prop
 | mk (a b:Int) (h1:vs=[.int a,.int b]) (h2:Q (.int (ZL a b)) H):IV vs H Q E_3
def mu(i:Nat)(σ:St):Nat:=match σ[i]? with | some (some (.int y))=>y.toNat | _=>0
theorem Bd.mono{m n:Nat}{x:Int}(h:Bd m x)(Y:m<=n):Bd n x:=Yr h (aD (by decide) Y)
theorem Bd.num{n:Nat}{t b:Int}(h:Bd n t):Bd n (ZN t b).num:=by
 unfold Bd at *;by_cases hb:b=0
 ·subst hb;simp;exact Nat.pos_of_ne_zero (by simp)
 ·rw[<- Nm.top_msr hb];exact ZI (PySem.natAbs_fdiv_le t _) h
theorem Bd.den{n:Nat}{t b:Int}(Y:b≠0)(h:Bd n b):Bd n (ZN t b).den:=by
 unfold Bd at *;rw[<- Nm.bottom_msr Y];exact ZI (PySem.natAbs_fdiv_le b _) h
def Jg(K:Yx)(a:ad)(xs:List V):It :=
 ⟨fun i H=>SqL K H a xs/\i<xs.length,fun i H x H'=>H'=H/\xs[xs.length-1-i]? = some x,fun i _=>xs.length=i⟩
theorem Pe{P:ce}{w:db}{K:Yx}{tg:Expr}(a it:ad)(xs:List V):IP P w K tg (Jg K a xs) [it] it (fun i h=>i<=xs.length/\h.IsRevIter it a ((xs.length:Int)-1-(i:Int))) where
 mem:=by simp
 obj:=fun i h st b W=>by
  have e:b=it:=by simpa using W
  subst e;obtain⟨_,o,e,c,d⟩:=st;exact⟨o,e,fun v z=>by rw[d]at z;cases z⟩
 keep:=fun i h h' st k=>⟨st.1,st.2.at fun o e=>k it (by simp) o e⟩
 item:=by
  intro X hP hw hK hc i pins s σ H E I J st hg;subst hP hw hK;obtain⟨hq,hi⟩:=hg;obtain⟨ak,rv,p,hz⟩:=I.list hq;have hl:=rv.length;have hx:xs[xs.length-1-i]? = some (xs[xs.length-1-i]'(by lia)):=aB (by lia)
  obtain⟨u,hu,ru⟩:=rv.get hx;obtain⟨f0,f1,f2,f3,f4,f5⟩:=J it (by simp)
  have e:(xs.length:Int)-1-(i:Int)=((xs.length-1-i:Nat):Int):=by lia
  have Y:=st.2;rw[e]at Y;refine wpAny_pyNext_rev_item Y p.isList (x:=u) (by simpa using hu) fun h' O sb=>?_
  have I1:Inv X pins σ H { s with heap:=h' }:=I.turned (t':=s.toks) (fun b o W e=>(sb.2 b W).trans e) f0 f1 f3 f4 f5
  obtain⟨o,e',c,d⟩:=id O;have e2:((xs.length-1-i:Nat):Int)-1=(xs.length:Int)-1-((i+1:Nat):Int):=by lia
  rw[e2]at O;exact⟨u,Z,J7 (s:={ s with heap:=h' }) e' c d (by decide) ⟨_,H,I1,ru,⟨rfl,hx⟩,⟨hi,O⟩,fun b W=>(J b W).1⟩⟩
 done:=by
  intro X hP hw hK hc i pins s σ H E I J st hg;subst hP hw hK;obtain⟨f0,f1,f2,f3,f4,f5⟩:=J it (by simp)
  have ab:xs.length=i:=hg;have Y:=st.2;rw[show(xs.length:Int)-1-(i:Int) = -1 by lia]at Y
  exact wpAny_pyNext_rev_end (I.ok.hd hc) Y fun h' eb=>⟨Z,I.turned (t':=s.toks) (fun b o W e=>eb b o W e) f0 f1 f3 f4 f5⟩
 self:=fun _ _ _ _ _ st h=>wpAny_pyIter_revIter st.2 h
section
variable {X:Cx}{tg:Expr}
def Vf(K:Yx)(tl:TE):TI:=fun σ H R=>tl σ H fun x H1=>∃v,[x]=[v]/\∃a xs,v = .ref a/\SqL K H1 a xs/\R (Jg K a xs) H1
theorem TN{l:Expr}{tl:TE}{p pos:Pos}(hg:Gl X "reversed")(hm:X.mg "reversed" = none)(hl:PE X l tl)(J:cQ [l] X.env=[(false,dE l X.env)]:=by rfl):PI X tg (.Call (.Name "reversed" p) [l] [] pos) (Vf X.K tl):=by
 intro pins s σ H R I h;have ha:PA X [l] (Ku tl Rw):=A0 hl A8 (by rw[J];rfl)
 refine Call_ (CG I hg hm LQ (PyProof.Rows.callWith_type1 (thn (ha pos pins s σ H (fun vs H1=>∃x,vs=[x]/\∃a xs,x = .ref a/\SqL X.K H1 a xs/\R (Jg X.K a xs) H1) I h) fun us Y ⟨vs,H1,O,r1,q1⟩=>?_) J rfl));obtain⟨x,e0,a,xs,e,hq,q⟩:=q1;subst e0;subst e;cases r1 with
 | cons r rr =>
   cases rr;cases r;obtain⟨W,rv,p,hz⟩:=O.list hq;refine call_reversed_list p.isList ?_;have I2:Inv X pins σ H1 { Y with heap:=Y.heap.push (revObj a ((W.toArray.size:Int)-1)) }:=O.kept (t':=Y.toks) fun b o e=>Heap.get?_push_of_some _ e
   have st:({ Y with heap:=Y.heap.push (revObj a ((W.toArray.size:Int)-1)) }:aI).heap.IsRevIter Y.heap.objs.size a ((xs.length:Int)-1-((0:Nat):Int)):=by
    refine⟨_,Heap.get?_push_size _ rfl,Z,?_⟩;have e:((W.toArray.size:Nat):Int)-1=(xs.length:Int)-1-((0:Nat):Int):=by rw[Zs,<- rv.length];simp
    show Data.fields #[.ref a,dW _]=_;rw[e]
   refine wpAny_pyIter_revIter st ?_;refine⟨Y.heap.objs.size,[Y.heap.objs.size],_,_,H1,Z,I2,Pe a _ xs,⟨YN _,st⟩,fun b hb=>?_,q⟩;have e:b=Y.heap.objs.size:=by simpa using hb
   subst e;exact O.fpOk (YL _) (O.hok.fresh (YL _))
end
theorem Sj{K:Yx}{a:ad}{xs:List V}{g:TG}{tb:TS}{D:DP}{σ:St}{H:Hp}(Y:Nat->St->Hp->Prop)(h0:Y 0 σ H)(hl:∀i σ H,i<=xs.length->Y i σ H->SqL K H a xs)
 (hs:∀i x σ H,i<xs.length->xs[xs.length-1-i]? = some x->Y i σ H->g x σ H fun J H2=>tb { D with nx:=Y (i+1),ct:=Y (i+1),bk:=D.nx } J H2) (hd:∀σ H,Y xs.length σ H->D.nx σ H) :
 ∃ W:Nat->Nat->St->Hp->Prop,(∃m,W 0 m σ H)/\∀i m σ H,W i m σ H ->
   ((Jg K a xs).stop i H/\D.nx σ H)\/((Jg K a xs).go i H/\∃N:St->Hp->Prop,(∀O H',N O H'->∃m',m'<m/\W (i+1) m' O H')/\∀x H',(Jg K a xs).yld i H x H'->g x σ H' fun J H2=>tb { D with nx:=N,ct:=N,bk:=D.nx } J H2):=by
 refine⟨fun i m σ H=>m=xs.length-i/\i<=xs.length/\Y i σ H,⟨xs.length,by simp,YN _,h0⟩,?_⟩
 rintro i m σ H ⟨rfl,hi,p⟩;have q:=hl i σ H hi p;by_cases hlt:i<xs.length
 ·refine .inr ⟨⟨q,hlt⟩,Y (i+1),fun O H' p'=>⟨xs.length-(i+1),by lia,Z,hlt,p'⟩,fun x H' y=>?_⟩
  obtain⟨e,y⟩:=y;subst e;exact hs i x σ _ hlt y p
 ·have e:i=xs.length:=by lia
  subst e;exact .inl ⟨Z,hd σ H p⟩
theorem OV{X:Cx}(hc:X.calm=true):Cp X (.builtin "all") (fun xs H Q=>∃(a:ad) (bs:List Bool),xs=[.ref a]/\SqL X.K H a (bs.map V.bl)/\Q (.bl (bs.all id)) H):=by
 intro pins s σ H xs us Q I r h;obtain⟨a,bs,rfl,hq,q⟩:=h;obtain⟨u,rfl,rfl⟩:=Es r;obtain⟨Y,rv,p,hz⟩:=I.list hq;have hl:=rv.length;rw[Z4]at hl;have ab:a<s.heap.objs.size:=by obtain⟨_,e,_⟩:=p.isList;exact Heap.lt_size e
 refine call_all_walk (eJ p.isList ?_)
 refine⟨s.heap.objs.size,[s.heap.objs.size,a],[s.heap.objs.size],Y.toArray.size,_,_,fun i=>(bs[i]?).getD true,Z,Walks.list (A:=X.A.in1) (I.ok.hd hc) _ a (Yt ab) Y.toArray,
  ⟨⟨_,Heap.get?_push_size _ rfl,Z,Z⟩,p.isList.push _⟩,fun i v s' Q' E' hP hQ=>?_,fun h' tk hk=>?_⟩
 ·have J:Y[i]? = some v:=by simpa using hP
  have hi:i<bs.length:=by rw[hl];exact(YG.mp J).1
  obtain⟨u',O,ru⟩:=rv.get (i:=i) (x:=.bl bs[i]) (by rw[Zl,aB hi];rfl)
  rw[J]at O;cases O;cases ru;dsimp only at hQ;rw[aB hi,aE]at hQ;exact dR hQ
 ·have e:((Yu Y.toArray.size).all fun i=>(bs[i]?).getD true)=bs.all id:=by
   rw[Zs,<- hl,Bool.eq_iff_iff,av,av]
   constructor
   ·intro z b hb;obtain⟨i,hi,rfl⟩:=aG hb;have:=z i (Yw.mpr hi);rw[aB hi,aE]at this;exact this
   ·intro z i hi;have W:=Yw.mp hi;rw[aB W,aE];exact z _ (aH W)
  rw[e];exact⟨.bl _,H,I.kept (fun b o e=>hk b o (fun hm=>by rw[aA.mp hm]at e;exact Ys _ (Heap.lt_size e)) (Heap.get?_push_of_some _ e)),Z,q⟩
theorem SqT.same{K:Yx}{H H':Hp}{a:ad}{xs:List V}(h:SqT K H a xs)(e:Ac H H'):SqT K H' a xs:=by
 rcases h with (h | ⟨o,h⟩) | h
 ·exact .inl (.inl (e _ _ h))
 ·exact .inl (.inr ⟨o,e _ _ h⟩)
 ·exact .inr h
theorem Ac.new{H:Hp}{p:ad}{o:HO}(h:H p=none):Ac H (upd H p o):=fun b u q=>by rw[Aq (As q h)];exact q
theorem Ac.mv{H H':Hp}{a:ad}(h:Ac H H'):Mv a H H':=fun b o _ q=>h b o q
theorem Paired.get{Y W:Type}{F:Y->W->Prop}:∀{l₁:List Y} {l₂:List W} {i:Nat} {a:Y},Paired F l₁ l₂->l₁[i]? = some a->∃b,l₂[i]? = some b/\F a b
 | _,_,_,_,.nil,e=>by simp at e
 | _,_,0,_,.cons h _,e=>by simp at e;subst e;exact⟨_,Z,h⟩
 | _,_,i+1,_,.cons _ t,e=>by
   obtain⟨b,h1,h2⟩:=Paired.get (i:=i) t (by simpa using e)
   exact⟨b,by simpa using h1,h2⟩
theorem Paired.get'{W Y:Type}{F:W->Y->Prop}:∀{l₁:List W} {l₂:List Y} {i:Nat} {b:Y},Paired F l₁ l₂->l₂[i]? = some b->∃a,l₁[i]? = some a/\F a b
 | _,_,_,_,.nil,e=>by simp at e
 | _,_,0,_,.cons h _,e=>by simp at e;subst e;exact⟨_,Z,h⟩
 | _,_,i+1,_,.cons _ t,e=>by
   obtain⟨b,h1,h2⟩:=Paired.get' (i:=i) t (by simpa using e)
   exact⟨b,by simpa using h1,h2⟩
theorem Paired.take{α β:Type}{F:α->β->Prop}:∀{l₁:List α} {l₂:List β} (n:Nat),Paired F l₁ l₂->Paired F (l₁.take n) (l₂.take n)
 | _,_,0,_=>by simp;exact .nil
 | _,_,_+1,.nil=>.nil
 | _,_,n+1,.cons h t=>.cons h (Paired.take n t)
theorem Paired.append{J O:Type}{F:J->O->Prop}{l₁ W:List J}{l₂ Y:List O}(a:Paired F l₁ l₂)(b:Paired F W Y):Paired F (l₁++W) (l₂++Y):=by
 induction a with
 | nil=>exact b
 | cons h t ih=>exact .cons h ih
def Az(K:Yx)(H:Hp)(x:V)(q:Rat):Prop:=∃r,x = .ref r/\SqT K H r [.int q.num,.int q.den]
abbrev AD(K:Yx)(H:Hp):List V->List Rat->Prop:=Paired (Az K H)
theorem Az.of{K:Yx}{H:Hp}{r:ad}{q:Rat}(h:H r=some (nT q)):Az K H (.ref r) q:=⟨r,Z,SqT.of h⟩
theorem Az.same{K:Yx}{H H':Hp}{x:V}{q:Rat}(h:Az K H x q)(e:Ac H H'):Az K H' x q:=by
 obtain⟨r,rfl,h⟩:=h;exact⟨r,Z,h.same e⟩
theorem AD.same{K:Yx}{H H':Hp}{xs:List V}{qs:List Rat}(h:AD K H xs qs)(e:Ac H H'):AD K H' xs qs:=Paired.mapP h fun _ _ z=>z.same e
theorem SqT.mv{K:Yx}{H H':Hp}{a p:ad}{xs:List V}(h:SqT K H a xs)(pn:Pen H p)(m:Mv p H H'):SqT K H' a xs:=by
 obtain⟨Y,c1,c2,e⟩:=pn
 rcases h with (h | ⟨o,h⟩) | h
 ·exact .inl (.inl (m _ _ (CS h e (fun z=>by cases z)) h))
 ·exact .inl (.inr ⟨o,m _ _ (CS h e (fun z=>by cases z)) h⟩)
 ·exact .inr h
theorem Az.mv{K:Yx}{H H':Hp}{x:V}{q:Rat}{p:ad}(h:Az K H x q)(pn:Pen H p)(m:Mv p H H'):Az K H' x q:=by
 obtain⟨r,rfl,h⟩:=h;exact⟨r,Z,h.mv pn m⟩
theorem AD.mv{K:Yx}{H H':Hp}{xs:List V}{qs:List Rat}{p:ad}(h:AD K H xs qs)(pn:Pen H p)(m:Mv p H H'):AD K H' xs qs:=Paired.mapP h fun _ _ z=>z.mv pn m
theorem SqT.put{K:Yx}{H:Hp}{a p:ad}{xs ys:List V}{o:HO}(h:SqT K H a xs)(Y:H p=some (.lst ys)):SqT K (upd H p o) a xs:=by
 rcases h with (h | ⟨u,h⟩) | h
 ·exact .inl (.inl (by rw[Aq (CS h Y (fun z=>by cases z))];exact h))
 ·exact .inl (.inr ⟨u,by rw[Aq (CS h Y (fun z=>by cases z))];exact h⟩)
 ·exact .inr h
theorem Az.put{K:Yx}{H:Hp}{x:V}{q:Rat}{p:ad}{ys:List V}{o:HO}(h:Az K H x q)(Y:H p=some (.lst ys)):Az K (upd H p o) x q:=by
 obtain⟨r,rfl,h⟩:=h;exact⟨r,Z,h.put Y⟩
theorem AD.put{K:Yx}{H:Hp}{xs:List V}{qs:List Rat}{p:ad}{ys:List V}{o:HO}(h:AD K H xs qs)(Y:H p=some (.lst ys)):AD K (upd H p o) xs qs:=Paired.mapP h fun _ _ z=>z.put Y
def Crv(K:Yx)(H:Hp)(r:ad)(qs:List Rat):Prop:=∃xs,SqT K H r xs/\AD K H xs qs
theorem Crv.same{K:Yx}{H H':Hp}{r:ad}{qs:List Rat}(h:Crv K H r qs)(e:Ac H H'):Crv K H' r qs:=let ⟨xs,a,b⟩:=h;⟨xs,a.same e,b.same e⟩
def nD(q:Rat):PyData:=.tuple [.int q.num,.int q.den]
theorem Az.rds{K:Yx}{H:Hp}{x:V}{q:Rat}(h:Az K H x q):Rds K H x (nD q):=by
 obtain⟨r,rfl,h⟩:=h;refine .tup h rfl fun i x d e1 Y=>?_
 match i with
 | 0=>simp at e1 Y;subst e1;subst Y;exact .int _
 | 1=>simp at e1 Y;subst e1;subst Y;exact .int _
 | i+2=>simp at e1
theorem ML(p q:Rat):PyData.eqv (nD p) (nD q)=decide (p=q):=by
 show(p.num == q.num&&(((p.den:Int) == (q.den:Int))&&true))=_;rw[Bool.and_true,Bool.eq_iff_iff];simp only[Bool.and_eq_true,beq_iff_eq,decide_eq_true_eq]
 constructor
 ·rintro⟨h1,h2⟩;exact Rat.ext h1 (Int.ofNat.inj h2)
 ·rintro rfl;exact⟨Z,Z⟩
theorem K4:∀ps qs:List Rat,PyData.eqvAll (ps.map nD) (qs.map nD)=decide (ps=qs)
 | [],[]=>rfl
 | [],_::_=>rfl
 | _::_,[]=>rfl
 | p::ps,q::qs=>by
   show(PyData.eqv (nD p) (nD q)&&PyData.eqvAll (ps.map nD) (qs.map nD))=_;rw[ML,K4 ps qs,Bool.eq_iff_iff];simp
theorem Ga(q:Rat):SeqAt.shaped (nD q)=true:=by rfl
theorem AD.rds{K:Yx}{H:Hp}{xs:List V}{qs:List Rat}(h:AD K H xs qs):∀(i:Nat) x d,xs[i]? = some x->(qs.map nD)[i]? = some d->Rds K H x d:=fun i x d e1 Y=>by
 obtain⟨q,W,O⟩:=Paired.get h e1;rw[Zl,W]at Y;cases Y;exact O.rds
theorem AD.rdsT{K:Yx}{H:Hp}{r:ad}{xs:List V}{qs:List Rat}(h:AD K H xs qs)(s:SqT K H r xs):Rds K H (.ref r) (.tuple (qs.map nD)):=.tup s (by rw[h.length,Z4]) h.rds
theorem AD.rdsL{K:Yx}{H:Hp}{r:ad}{xs:List V}{qs:List Rat}(h:AD K H xs qs)(s:SqL K H r xs):Rds K H (.ref r) (.list (qs.map nD)):=.lst s (by rw[h.length,Z4]) h.rds
theorem NC:∀qs:List Rat,PyData.canLayAll0 (qs.map nD)=true
 | []=>rfl
 | q::r=>by
   show(PyData.canLay0 (nD q)&&PyData.canLayAll0 (r.map nD))=true;rw[NC r];rfl
theorem J2:∀qs:List Rat,PyData.depthAll (qs.map nD)<=1
 | []=>YN _
 | q::r=>by
   have ih:=J2 r;show max (PyData.depth (nD q)) (PyData.depthAll (r.map nD))<=1;exact Nat.max_le.mpr ⟨YL _,ih⟩
theorem Ei(qs:List Rat):SeqAt.shaped (.list (qs.map nD))=true:=by
 show(PyData.canLayAll0 (qs.map nD)&&decide (PyData.depthAll (qs.map nD)+1<=64))=true;rw[NC,Bool.true_and];exact decide_eq_true (by have:=J2 qs;lia)
theorem NB(qs:List Rat):SeqAt.shaped (.tuple (qs.map nD))=true:=Ei qs
theorem eqN{K:Yx}{H:Hp}{x y:V}{p q:Rat}{Q:VK}{neg:Bool}(h1:Az K H x p)(h2:Az K H y q)(h:Q (.bl (if neg then !decide (p=q) else decide (p=q))) H):Iy K neg x y H Q :=
 N0 ⟨_,_,h1.rds,h2.rds,Ga _,Ga _,by rw[ML];exact h⟩
theorem eqT{K:Yx}{H:Hp}{a b:ad}{ps qs:List Rat}{Q:VK}{neg:Bool}(h1:Crv K H a ps)(h2:Crv K H b qs)(h:Q (.bl (if neg then !decide (ps=qs) else decide (ps=qs))) H):Iy K neg (.ref a) (.ref b) H Q:=by
 obtain⟨xs,Y,O⟩:=h1;obtain⟨ys,J,W⟩:=h2;refine N0 ⟨_,_,O.rdsT Y,W.rdsT J,NB _,NB _,?_⟩;have e:PyData.eqv (.tuple (ps.map nD)) (.tuple (qs.map nD))=decide (ps=qs):=K4 ps qs;rw[e];exact h
theorem UL{c:TT}{tb:TS}{D:DP}{σ:St}{H:Hp}(W:St->Hp->Prop)(O:St->Hp->Nat)(h0:W σ H)
 (hs:∀σ H,W σ H->c σ H fun b H1=>if b=true then ∃N:St->Hp->Prop,(∀Y H',N Y H'->∃J,J<O σ H/\(J=O Y H'/\W Y H'))/\tb { D with nx:=N,ct:=N,bk:=D.nx } σ H1 else D.nx σ H1):M6 c tb D σ H:=by
 refine⟨fun m σ H=>m=O σ H/\W σ H,⟨_,Z,h0⟩,?_⟩;rintro m σ H ⟨rfl,p⟩;exact hs σ H p
theorem UK{tb:TS}{D:DP}{σ:St}{H1:Hp}{m:Nat}{O:St->Hp->Prop}{W:St->Hp->Nat}
 (h:tb { D with nx:=fun Y H'=>O Y H'/\W Y H'<m,ct:=fun Y H'=>O Y H'/\W Y H'<m,bk:=D.nx } σ H1) :
 ∃N:St->Hp->Prop,(∀Y H',N Y H'->∃J,J<m/\(J=W Y H'/\O Y H'))/\tb { D with nx:=N,ct:=N,bk:=D.nx } σ H1 :=
 ⟨_,fun _ _ ⟨p,l⟩=>⟨_,l,Z,p⟩,h⟩
def RB(n:Nat)(q:Rat):Prop:=Bd n q.num/\Bd n (q.den:Int)
theorem Bd.mul{m n:Nat}{x y:Int}(h1:Bd m x)(h2:Bd n y):Bd (m+n) (x*y):=by
 unfold Bd at *;rw[aJ,Nat.pow_add];exact Nat.mul_lt_mul'' h1 h2
theorem Bd.add{n:Nat}{x y:Int}(h1:Bd n x)(h2:Bd n y):Bd (n+1) (x+y):=by
 unfold Bd at *;rw[Nat.pow_succ,Nat.mul_two];exact ZI (Int.natAbs_add_le x y) (Nat.add_lt_add h1 h2)
theorem Bd.sub{n:Nat}{x y:Int}(h1:Bd n x)(h2:Bd n y):Bd (n+1) (x-y):=by
 rw[Int.sub_eq_add_neg];exact Bd.add h1 (by unfold Bd;rw[Int.natAbs_neg];exact h2)
theorem Bd.fdiv{n:Nat}{x y:Int}(h:Bd n x):Bd n (x.fdiv y):=ZI (PySem.natAbs_fdiv_le x y) h
theorem BL.bd{m n:Nat}{x y:Int}(h1:Bd m x)(h2:Bd n y)(h:m+n<=134217728:=by lia):BL x y:=.inr (.inr ⟨m,n,h1,h2,h⟩)
theorem RB.mono{m n:Nat}{q:Rat}(h:RB m q)(Y:m<=n):RB n q:=⟨h.1.mono Y,h.2.mono Y⟩
theorem RB.div{m n:Nat}{t b:Int}(h1:Bd n t)(h2:Bd n b)(Y:b≠0):RB n (ZN t b):=⟨Bd.num h1,Bd.den Y h2⟩
theorem GX:∀{us:List am} {xs:List V},us.map Ij=xs.map some->(∀u∈us,∀x,Ij u=some x->AJ x u)->AF xs us
 | [],[],_,_=>.nil
 | [],_::_,e,_=>by simp at e
 | _::_,[],e,_=>by simp at e
 | u::us,x::xs,e,h=>by
   simp only[Z2,aK.injEq]at e;exact .cons (h u YB x e.1) (GX e.2 fun v hv=>h v (YC _ hv))
theorem LW{u:am}{x:V}(h:Ij u=some x):AJ x u:=by
 cases u<;>first | (cases h;rfl) | (cases h;exact⟨_,Z⟩) | cases h
theorem OP{K:Yx}{H:Hp}{a:ad}{o:Obj}{vs:Array am}{n:Nat}{q:Rat}(hk:K.lookup a=some o)(O:o.cls = .type "tuple")(W:o.data = .seq vs n)(e:vs.toList.map Ij=[some (.int q.num),some (.int (q.den:Int))]):SqT K H a [.int q.num,.int q.den]:=by
 refine .inr ⟨o,vs,n,hk,O,W,?_,GX e fun u _ x h=>LW h⟩;have Y:=congrArg Zg e;simp at Y;rw[Y];decide
theorem RB.plus{m n:Nat}{p q:Rat}(h1:RB m p)(h2:RB n q):RB (m+n+1) (p+q):=by
 rw[<- Nm.plus_eq];refine⟨Bd.num (Bd.add (h1.1.mul h2.2) ((h2.1.mul h1.2).mono (by lia))),Bd.den (ZU (Nm.den_ne p) (Nm.den_ne q)) ((h1.2.mul h2.2).mono (by lia))⟩
theorem RB.minus{m n:Nat}{p q:Rat}(h1:RB m p)(h2:RB n q):RB (m+n+1) (p-q):=by
 rw[<- Nm.minus_eq];refine⟨Bd.num (Bd.sub (h1.1.mul h2.2) ((h2.1.mul h1.2).mono (by lia))),Bd.den (ZU (Nm.den_ne p) (Nm.den_ne q)) ((h1.2.mul h2.2).mono (by lia))⟩
theorem RB.times{m n:Nat}{p q:Rat}(h1:RB m p)(h2:RB n q):RB (m+n) (p*q):=by
 rw[<- Nm.times_eq];exact⟨Bd.num (h1.1.mul h2.1),Bd.den (ZU (Nm.den_ne p) (Nm.den_ne q)) (h1.2.mul h2.2)⟩
theorem RB.zero{n:Nat}(h:1<=n):RB n 0:=⟨(show Bd 1 0 by unfold Bd;decide).mono h,(show Bd 1 1 by unfold Bd;decide).mono h⟩
theorem RB.one{n:Nat}(h:1<=n):RB n 1:=⟨(show Bd 1 1 by unfold Bd;decide).mono h,(show Bd 1 1 by unfold Bd;decide).mono h⟩
inductive DU(K:Yx)(g:Rat->Rat->Rat)(vs:List V)(H:Hp)(Q:VK)(E_3:XK):Prop
 | mk (x y:V) (p q:Rat) (m n:Nat) (h1:vs=[x,y]) (h2:Az K H x p) (h3:Az K H y q) (h4:RB m p) (h5:RB n q) (h6:m+n<=100000000) (h7:∀r,H r=none->Q (.ref r) (upd H r (nT (g p q)))):DU K g vs H Q E_3
def Sq(b:Bool)(K:Yx)(H:Hp)(a:ad)(xs:List V):Prop:=match b with
 | true=>SqL K H a xs
 | false=>SqT K H a xs
theorem Sq.same{b:Bool}{K:Yx}{H H':Hp}{a:ad}{xs:List V}(h:Sq b K H a xs)(e:Ac H H'):Sq b K H' a xs:=by
 cases b
 ·exact SqT.same h e
 ·exact e.seq h
theorem Ol{X:Cx}{tg l:Expr}{W Y:TI}(h1:PI X tg l W)(h2:PI X tg l Y):PI X tg l (fun σ H R=>W σ H R\/Y σ H R):=fun pins s σ H R I h=>by
 rcases h with h | h
 ·exact h1 pins s σ H R I h
 ·exact h2 pins s σ H R I h
abbrev Uu(K:Yx)(tl:TE):TI:=fun σ H R=>QH K tl σ H R\/Ut K tl σ H R
theorem NP{K:Yx}{b:Bool}{a:ad}{n:Nat}{xs:List V}{g:TG}{tb:TS}{D:DP}{σ:St}{H:Hp}(W:σ[n]? = some (some (.ref a)))(Y:Nat->St->Hp->Prop)(h0:Y 0 σ H)(J:∀i σ H,i<=xs.length->Y i σ H->Sq b K H a xs)
 (hs:∀i x σ H,xs[i]? = some x->Y i σ H->g x σ H fun O H2=>tb { D with nx:=Y (i+1),ct:=Y (i+1),bk:=D.nx } O H2) (hd:∀σ H,Y xs.length σ H->D.nx σ H) :
 To (Uu K (Jk n)) g tb D σ H:=by
 have q:=J 0 σ H (YN _) h0;cases b with
 | true=>exact .inl ⟨_,W,a,Z,⟨xs,q⟩,Dr Y h0 J hs hd⟩
 | false=>exact .inr ⟨_,W,a,Z,⟨xs,q⟩,FD Y h0 J hs hd⟩
theorem HY{K:Yx}{b:Bool}{a:ad}{n:Nat}{js:List Nat}{xs:List V}{te:TE}{σ:St}{H:Hp}{Q:VK}(ab:σ[n]? = some (some (.ref a)))(W:Nat->List V->Hp->Prop)(h0:W 0 [] H)
 (O:∀i zs H,i<=xs.length->W i zs H->Sq b K H a xs/\zs.length=i) (hz:xs.length<=bi)
 (hs:∀i x zs H,xs[i]? = some x->W i zs H->te ((cS 1 js σ).set 0 (some x)) H fun y H4=>W (i+1) (zs++[y]) H4) (J:∀zs H',W xs.length zs H'->∀p,H' p=none->Q (.ref p) (upd H' p (.lst zs))) :
 tLC (Uu K (Jk n)) 1 js (CI 0) Ks te σ H Q:=by
 have q:=(O 0 [] H (YN _) h0).1;cases b with
 | true =>
   refine Bh (.inl ⟨_,ab,a,Z,⟨xs,q⟩,xs.length,W,h0,⟨?_,?_,?_⟩⟩)
   ·intro i zs H' hi p;have Y:=Yz hi;obtain⟨h1,h2⟩:=O i zs H' Y p;exact⟨⟨xs,xs[i],h1,by simp[hi]⟩,by lia⟩
   ·rintro i zs H' x H1 hi p ⟨rfl,y⟩;have Y:=Yz hi;have hx:=y xs (O i zs _ Y p).1;exact hs i x zs _ hx p
   ·intro zs H' p;have Y:=YL xs.length;obtain⟨h1,h2⟩:=O _ zs H' Y p;exact⟨⟨xs,h1,YL _⟩,by lia,J zs H' p⟩
 | false =>
   refine Bh (.inr ⟨_,ab,a,Z,⟨xs,q⟩,xs.length,W,h0,⟨?_,?_,?_⟩⟩)
   ·intro i zs H' hi p;have Y:=Yz hi;obtain⟨h1,h2⟩:=O i zs H' Y p;exact⟨⟨xs,xs[i],h1,by simp[hi]⟩,by lia⟩
   ·rintro i zs H' x H1 hi p ⟨rfl,y⟩;have Y:=Yz hi;have hx:=y xs (O i zs _ Y p).1;exact hs i x zs _ hx p
   ·intro zs H' p;have Y:=YL xs.length;obtain⟨h1,h2⟩:=O _ zs H' Y p;exact⟨⟨xs,h1,YL _⟩,by lia,J zs H' p⟩
section
variable {X:Cx}(K:Yx)
theorem ixT(e:X.K=K:=by rfl):IxR X (TC K):=by subst e;exact Uo
theorem ixL(e:X.K=K:=by rfl):IxR X (TF K):=by subst e;exact Se
theorem eqD(Y:X.A.units+64<cLine)(e:X.K=K:=by rfl):OpR X (dN .Eq) (Iy K false):=by subst e;exact U0 Y
theorem neD(Y:X.A.units+64<cLine)(e:X.K=K:=by rfl):OpR X (dN .NotEq) (Iy K true):=by subst e;exact TZ Y
theorem Qj(e:X.K=K:=by rfl):OpR X (dN .NotIn) (rIn K true):=by subst e;exact JM
theorem slL(e:X.K=K:=by rfl):SlR X (Tz K):=by subst e;exact RD
inductive TyX(K:Yx)(H:Hp):V->am->Prop where
 | of {x:V} {t:am} (h:Gq K H x t):TyX K H x t
 | tup {a:ad} {xs:List V} (h:SqT K H a xs):TyX K H (.ref a) (.type "tuple")
 | lst {a:ad} {xs:List V} (h:SqL K H a xs):TyX K H (.ref a) (.type "list")
inductive Vk(xs:List V)(H:Hp)(Q:VK):Prop
 | mk (x:_) (T:_) (t:_) (b:_) (h1:xs=[x,.ty T]) (h2:TyX K H x t) (h3:Z7 K t (.type T)=some b) (h4:Q (.bl b) H):Vk xs H Q
theorem OJ(e:X.K=K:=by rfl):Cp X (.builtin "isinstance") (Vk K):=by
 subst e;intro pins s σ H xs us Q I r h;obtain⟨x,T,t,b,rfl,ty,e,q⟩:=h;obtain⟨u,w',rfl,Y,rT⟩:=P6 r;cases rT;cases ty with
 | of ty=>exact OI I Y ty e fun tk=>⟨.bl b,H,I.tok _,Z,q⟩
 | tup hq =>
   cases Y;obtain⟨O,J,⟨o,e1,c,_⟩,_⟩:=I.tuple hq;exact Z8 PySem.W.kitx_tuple I.kIn ⟨o,e1,c⟩ e (fun z=>nomatch z) fun tk=>⟨.bl b,H,I.tok _,Z,q⟩
 | lst hq =>
   cases Y;obtain⟨O,J,⟨o,n,e1,c,_⟩,_⟩:=I.list hq;exact Z8 Z9 I.kIn ⟨o,e1,c⟩ e (fun z=>nomatch z) fun tk=>⟨.bl b,H,I.tok _,Z,q⟩
inductive Vj(xs:List V)(H:Hp)(Q:VK):Prop
 | mk (p:_) (ys:_) (h1:xs=[.ref p]) (h2:(SqL K H p ys\/SqT K H p ys)) (h3:Q (.int ys.length) H):Vj xs H Q
theorem BD(e:X.K=K:=by rfl):Cp X (.builtin "len") (Vj K):=by subst e;exact fun pins s σ H xs us Q I r ⟨p,ys,h1,h2,Y⟩=>Kf pins s σ H xs us Q I r ⟨p,ys,h1,h2,Y⟩
inductive R0(xs:List V)(H:Hp)(Q:VK):Prop
 | mk (p:_) (ys:_) (h1:xs=[.ref p]) (h2:((SqL K H p ys/\∀l,H l=none->Q (.ref l) (upd H l (.tup ys)))\/(SqT K H p ys/\Q (.ref p) H))):R0 xs H Q
theorem FK(e:X.K=K:=by rfl):Cp X (.type "tuple") (R0 K):=by subst e;exact fun pins s σ H xs us Q I r ⟨p,ys,h1,h2⟩=>IL pins s σ H xs us Q I r ⟨p,ys,h1,h2⟩
inductive Vm(xs:List V)(H:Hp)(Q:VK):Prop
 | mk (a:ad) (bs:List Bool) (h1:xs=[.ref a]) (h2:SqL K H a (bs.map V.bl)) (h3:Q (.bl (bs.all id)) H):Vm xs H Q
theorem UG(Y:X.calm=true)(e:X.K=K:=by rfl):Cp X (.builtin "all") (Vm K):=by subst e;exact fun pins s σ H xs us Q I r ⟨a,bs,h1,h2,W⟩=>OV Y pins s σ H xs us Q I r ⟨a,bs,h1,h2,W⟩
variable {tg l:Expr}{tl:TE}
theorem piL(Y:PE X l tl)(e:X.K=K:=by rfl):PI X tg l (QH K tl):=by subst e;exact Nx Y
theorem piT(Y:PE X l tl)(e:X.K=K:=by rfl):PI X tg l (Ut K tl):=by subst e;exact Qa Y
theorem piS(Y:PE X l tl)(e:X.K=K:=by rfl):PI X tg l (Uu K tl):=by subst e;exact Ol (Nx Y) (Qa Y)
theorem V8{p pos:Pos}(J:Gl X "reversed")(O:X.mg "reversed" = none)(W:PE X l tl)(Y:cQ [l] X.env=[(false,dE l X.env)]:=by rfl)(e:X.K=K:=by rfl):PI X tg (.Call (.Name "reversed" p) [l] [] pos) (Vf K tl):=by subst e;exact TN J O W Y
theorem pgT{es:List Expr}{k:Nat}{t:TGs}{n:Nat}{pos:Pos}(W:X.calm=true)(h:PGs X es t)(O:(eZ es X.env).length=n:=by rfl)(Y:(eZ es X.env).findIdx? (·.1)=none:=by rfl)(e:X.K=K:=by rfl):PG X (.Tuple es k pos) (ON K n t):=by subst e;exact TR W h O Y
end
inductive O2(K:Yx)(H:Hp):V->Bool->Prop where
 | int (i:Int):O2 K H (.int i) true
 | bl (b:Bool):O2 K H (.bl b) false
 | oth {x:V} {t:am} (ty:TyX K H x t) (h:Z7 K t (.type "int")=some false):O2 K H x false
inductive Jn(K:Yx)(vs:List V)(H:Hp)(Q:VK)(E_3:XK):Prop
 | mk (x:_) (b:_) (h1:vs=[x]) (h2:O2 K H x b) (h3:Q (.bl b) H):Jn K vs H Q E_3
theorem Ub(K:Yx):Z7 K (.type "int") (.type "int")=some true:=by kernel_rfl
theorem Uc(K:Yx):Z7 K (.type "int") (.type "bool")=some false:=by kernel_rfl
theorem Ud(K:Yx):Z7 K (.type "bool") (.type "int")=some true:=by kernel_rfl
theorem Ue(K:Yx):Z7 K (.type "bool") (.type "bool")=some true:=by kernel_rfl
theorem Qz(K:Yx):Z7 K (.type "tuple") (.type "tuple")=some true:=by kernel_rfl
theorem MR{lo:Int}{n:Nat}{js:List Nat}{te:TE}{σ:St}{H:Hp}{O:List V->Hp->Prop}(Y:Nat->List V->Hp->Prop)(h0:Y 0 [] H)(hl:∀i zs H,i<=n->Y i zs H->zs.length=i)(hz:n<=bi)
 (hs:∀i zs H,i<n->Y i zs H->te ((cS 1 js σ).set 0 (some (.int (lo+i)))) H fun y H4=>Y (i+1) (zs++[y]) H4) (J:∀zs H',Y n zs H'->O zs H') :
 ∃(n':Nat) (W:Nat->List V->Hp->Prop),W 0 [] H/\LcW (Itr lo n) n' 1 js σ (CI 0) Ks te O W:=by
 refine⟨n,Y,h0,⟨?_,?_,?_⟩⟩
 ·intro i zs H' hi p;have:=hl i zs H' (Yz hi) p;exact⟨hi,by lia⟩
 ·rintro i zs H' x H1 hi p ⟨rfl,rfl⟩;exact hs i zs _ hi p
 ·intro zs H' p;have:=hl n zs H' (YL _) p;exact⟨YL _,by lia,J zs H' p⟩
theorem R7{Y:Type}{xs:List Y}{v:Y}(h:xs[xs.length-1]? = some v):atI xs (-1)=some v:=by
 have W:xs.length-1<xs.length:=(YG.mp h).1
 have e:ixN xs.length (-1)=some (xs.length-1):=by
  unfold ixN;rw[if_neg (by decide),if_pos (by lia)]
  congr 1
  lia
 unfold atI;rw[e];exact h
inductive Nl(K:Yx)(vs:List V)(H:Hp)(Q:VK)(E_3:XK):Prop
 | mk (x:_) (q:_) (h1:vs=[x]) (h2:Az K H x q) (h3:∀H',Ac H H'->Q (.bl true) H'):Nl K vs H Q E_3
def De(qs:List Rat):Prop:=qs=[]\/∃q,qs[qs.length-1]? = some q/\q≠0
theorem DH(qs:List Rat):De (Cv.strip qs):=by
 by_cases h:Cv.strip qs=[]
 ·exact .inl h
 ·have Y:0<(Cv.strip qs).length:=ae.mpr h;have e:=aB (l:=Cv.strip qs) (i:=(Cv.strip qs).length-1) (by lia)
  refine .inr ⟨_,e,fun z=>Cv.strip_last qs h ?_⟩;rw[e,z]
theorem GW(n:Nat):(Zf n true).all id=true:=by
 rw[av];intro b Y;exact(aL.mp Y).2
theorem Pen.sm{H H':Hp}{p:ad}(h:Pen H p)(e:Ac H H'):Pen H' p:=let ⟨c0,c1,c2,z⟩:=h;⟨c0,c1,c2,e _ _ z⟩
theorem KJ{K:Yx}{H:Hp}{x:V}{q:Rat}(h:Az K H x q):∀n:Nat,AD K H (Zf n [x]).flatten (Zf n q)
 | 0=>.nil
 | n+1=>by
   rw[ZC,ZD,ZC];exact .cons h (KJ h n)
theorem FI{Y:List Int}{i:Nat}{t:Int}{k:Int}(h:Y[i]? = some t)(e:k=(i:Int)):atI (Y.map V.int) k=some (.int t):=by
 subst e;exact AB (by rw[Zl,h];rfl)
theorem LD{n i:Nat}{k:Int}(h:i<n)(e:k=(i:Int)):ixN n k=some i:=by
 subst e;unfold ixN;rw[if_pos (by lia),if_pos (by lia),Zt]
theorem Ac.put{H H':Hp}{p:ad}{o:HO}(h:Ac H H')(Y:H p=none):Ac H (upd H' p o):=fun b u q=>by rw[Aq (As q Y)];exact h b u q
def Up(c M:Nat)(t:Int):Prop:=t.natAbs<=c*2 ^ M
theorem Up.bd{c k M:Nat}{t:Int}(h:Up c M t)(Y:c<2 ^ k):Bd (M+k) t:=by
 unfold Up at h;unfold Bd;rw[Nat.pow_add,ZH (2 ^ M)];exact ZI h (Nat.mul_lt_mul_of_pos_right Y (Nat.pow_pos (by decide)))
theorem Up.add{c M:Nat}{t d:Int}(h:Up c M t)(Y:Bd M d):Up (c+1) M (t+d):=by
 unfold Up at *;unfold Bd at Y;rw[aM,aN];exact Yy (Int.natAbs_add_le t d) (Nat.add_le_add h (Yz Y))
theorem Up.mono{c Y M:Nat}{t:Int}(h:Up c M t)(W:c<=Y):Up Y M t:=Yy h (aO _ W)
def CX1(P:ce)(w:db):CXT:=fun outer H s E e s'=>∃(ea:ad) (cls a0:am) (B:dw) (H':Hp),e = .ref ea/\s'.os=s.os/\fo s'.gens/\Un (frs outer) [] H H' s.heap s'.heap/\HOk P w H' s'.heap /\
 Heap.FlyingW B outer ea cls a0 s'.heap/\(∀b o,s.heap.get? b=some o->b∉frs outer->∃o',B.get? b=some o')/\(∀b u,H' b=some u->∃o',B.get? b=some o')/\E cls none H'
section
variable {X:Cx}{pins:List (ad×Obj)}{σ:St}{H H':Hp}{s s':aI}{B:dw}
end
section
variable {P:ce}{w:db}{K:Yx}{mg:Str->Option am}{base:dw}{N:List Str}{qual:Str}{scope:dJ}{f:ad}{cd:am}{A:dl}{outer:List Env}{s:aI}{H:Hp}{E:XK}
end
structure XCls(K:Yx)(x:Str)(C:ad):Prop where
 ns:aR K ci x=some (some (.ref C))
 ob:∃bm N nm q bs hdct sn sub ab col dd k0 k1 k2 k3 k5,K.lookup C=some (excClassObj nm q C N bs bm hdct sn sub ab col dd k0 k1 k2 k3 k5 "ValueError.__new__")
 ex:PySem.W.excIn K C [.type "ValueError",.type "Exception",.type "BaseException",.type "object"] "ValueError.__new__" = true
abbrev Cx.marked(X:Cx)(ea:ad):Cx:={ X with A:=X.A.mark (some (.ref ea)),calm:=false,xe:=fun _ _=>False }
section
variable {X:Cx}{pins:List (ad×Obj)}{σ:St}{H H':Hp}{s s':aI}{B:dw}
end
section
open PySem.W PySem.Builtin PySem.Builtin.ObjectAttr PySem.Builtin.Getset_descriptor
variable {prog:ce}{w:db}{A:dl}{E:am->aI->Prop}{s:aI}{K:Yx}{x D:ad}
structure XTy(K:Yx)(D:ad):Prop where
 ga:findIn K (.ref D) "__getattribute__" = some (some (.builtin "BaseException.__getattribute__"))
 gt:findIn K (.ref D) "__getattr__" = some none
 ca:findIn K (.ref D) "__class__" = some (some (.builtin "object.__class__"))
 gg:specialIn K (.builtin "object.__class__") "__get__" = some (some (.builtin "getset_descriptor.__get__"))
 tk:takesIn K (.builtin "object.__class__")=some true
 ob:mroIn K D (.type "object")=some true
 be:mroIn K D (.type "BaseException")=some true
 cl:∃c d cd sl,K.lookup D=some ⟨c,d,.cls cd,sl⟩
def UA:V->Option am
 | .ref a=>some (.ref a)
 | .ty T=>some (.type T)
 | _=>none
theorem QZ{y:V}{u c:am}(r:AJ y u)(e:UA y=some c):u=c:=by
 cases y<;>cases e<;>exact r
theorem Jb:∀{ys:List V} {us cs:List am},AF ys us->ys.map UA=cs.map some->us=cs
 | _,_,[],.nil,_=>rfl
 | _,_,_::_,.nil,e=>nomatch e
 | _,_,[],.cons _ _,e=>nomatch e
 | _,_,c::cs,.cons r rs,e=>by
   injection e with e1 e2
   rw[QZ r e1,Jb rs e2]
end
section
open PySem.W
variable {X:Cx}(K:Yx)
end
section
variable {P:ce}{w:db}{K:Yx}{mg:Str->Option am}{base:dw}
end
structure FdX(P:ce)(w:db)(K:Yx)(mg:Str->Option am)(base:dw)(n:Nat)(x:Str)(ps:List Str)(sp:Sp):Prop where
 ex:∃(f:ad) (fd:bn),Ax P w K mg base (CX1 P w) n f fd ps sp/\Be K fd ps []/\Z3 K (.ref f)=true/\mg x=some (.ref f)
end L2
namespace L2
open PySem PySem.Spec PyProof.Rows
def Itd(lo:Int)(n:Nat):It:=⟨fun i _=>i<n,fun i H x H'=>H'=H/\x = .int (lo-i),fun i _=>n<=i⟩
theorem Oa{P:ce}{w:db}{K:Yx}{tg:Expr}(it:ad)(lo:Int)(n:Nat):IP P w K tg (Itd lo n) [it] it (fun i h=>IsRangeIter h it (lo+(i:Nat)*(-1)) ((n:Int)-(i:Nat)) (-1)) where
 mem:=by simp
 obj:=fun i h st b Y=>by
  have e:b=it:=by simpa using Y
  subst e
  exact⟨_,st,fun v z=>by
   have z':Data.fields _=Data.cell v:=z;cases z'⟩
 keep:=fun i h h' st k=>k it (by simp) _ st
 item:=by
  intro X hP hw hK hc i pins s σ H E I O st hg;subst hP hw hK;obtain⟨f0,J,f2,f3,f4,f5⟩:=O it (by simp)
  refine(Walks.range (prog:=X.prog) (w:=X.w) (I.ok.hd hc) it lo (-1) n).item i s _ _ hg st fun v h' tk hv W kk=>?_;obtain⟨t,rfl⟩:=hv;have I1:Inv X pins σ H { s with heap:=h',toks:=tk }:=I.turned (fun b o Y e=>kk b o (by simpa using Y) e) f0 J f3 f4 f5
  refine⟨_,Z,J7 (s:={ s with heap:=h',toks:=tk }) (n:="range_iterator") W rfl rfl (by decide) ⟨.int (lo-i),H,I1,⟨t,?_⟩,⟨rfl,rfl⟩,W,fun b Y=>(O b Y).1⟩⟩
  rw[show lo+(i:Int) * -1=lo-i by lia]
 done:=by
  intro X hP hw hK hc i pins s σ H E I O st hg;subst hP hw hK;obtain⟨f0,J,f2,f3,f4,f5⟩:=O it (by simp)
  exact wpAny_pyNext_range_end (I.ok.hd hc) st (by have:n<=i:=hg;lia) fun h' eb=>⟨Z,I.turned (t':=s.toks) (fun b o Y e=>eb b o Y e) f0 J f3 f4 f5⟩
 self:=fun _ _ _ _ _ st h=>wpAny_pyIter_rangeiter st h
theorem IW(a b:Int):Builtin.Range.rangeSize a b (-1)=(((a-b).toNat:Nat):Int):=by
 unfold Builtin.Range.rangeSize;rw[if_neg (by decide)]
 split
 ·rw[show -(-1:Int)=1 by decide,Int.ediv_one];lia
 ·lia
section
variable {X:Cx}{tg:Expr}
def Vg(ta:TA):TI:=fun σ H R=>ta σ H fun vs H1=>∃i j:Int,vs=[.int i,.int j,.int (-1)]/\(-1000000<=i/\i<=1000000 /\ -1000000<=j/\j<=1000000)/\R (Itd i (i-j).toNat) H1
theorem RT{a b c:Expr}{ta:TA}{p pos:Pos}(hg:Gl X "range")(hm:X.mg "range" = none)(ha:PA X [a,b,c] ta)(hs:cQ [a,b,c] X.env=[(false,dE a X.env),(false,dE b X.env),(false,dE c X.env)]:=by rfl)
 (Y:cQ [b,c] X.env=[(false,dE b X.env),(false,dE c X.env)]:=by rfl):PI X tg (.Call (.Name "range" p) [a,b,c] [] pos) (Vg ta):=by
 intro pins s σ H R I h;refine Call_ (CG I hg hm boot_range (PyProof.Rows.callWith_type1 (thn (ha pos pins s σ H _ I h) fun us W ⟨vs,H1,I1,r1,J⟩=>?_) (by rw[hs,Y]) (by rw[Y];rfl)))
 obtain⟨i,j,e,⟨J,q2,q3,q4⟩,q⟩:=J;subst e;cases r1 with
 | cons r rr =>
   cases rr with
   | cons r' rr =>
     cases rr with
     | cons r3 rr =>
       cases rr;obtain⟨t,rfl⟩:=r;obtain⟨t',rfl⟩:=r';obtain⟨t3,rfl⟩:=r3
       have sm:Builtin.Range.small i j (-1)=true:=by
        unfold Builtin.Range.small;rw[IW];simp only[Builtin.Range.rangeFitsLong,Bool.and_eq_true,Bool.or_eq_true,decide_eq_true_eq,beq_iff_eq];rw[if_neg (by decide)]
        simp only[Bool.and_eq_true,decide_eq_true_eq]
        lia
       refine call_range_3 (by decide) ?_ (.inl (PyProof.noPylong_small (by lia)))
       refine wpAny_pyIter_range (IsRange.new ..) sm ?_;have O:Inv X pins σ H1 { W with heap:=W.heap.push { cls:=.type "range",data:=.fields #[.int i t,.int j t',.int (-1) t3] },toks:=W.toks }:=I1.kept fun b o e=>Heap.get?_push_of_some _ e
       refine⟨_,[_],_,_,H1,Z,O.kept (t':=W.toks) fun b o e=>Heap.get?_push_of_some _ e,Oa _ i (i-j).toNat,?_,fun b hb=>?_,q⟩
       ·show IsRangeIter _ _ (i+((0:Nat):Int)*(-1)) ((((i-j).toNat:Nat):Int)-((0:Nat):Int)) (-1);rw[show i+((0:Nat):Int)*(-1)=i by lia,show(((i-j).toNat:Nat):Int)-((0:Nat):Int)=Builtin.Range.rangeSize i j (-1) by rw[IW];lia]
        exact Heap.get?_push_size _ rfl
       ·have e:=aA.mp hb;subst e;exact O.fpOk (YL _) (O.hok.fresh (YL _))
end
theorem QP{lo:Int}{n:Nat}{g:TG}{tb:TS}{D:DP}{σ:St}{H:Hp}(J:Nat->St->Hp->Prop)(h0:J 0 σ H)
 (hs:∀i σ H,i<n->J i σ H->g (.int (lo-i)) σ H fun O H2=>tb { D with nx:=J (i+1),ct:=J (i+1),bk:=D.nx } O H2) (hd:∀σ H,J n σ H->D.nx σ H) :
 ∃ W:Nat->Nat->St->Hp->Prop,(∃m,W 0 m σ H)/\∀i m σ H,W i m σ H ->
   ((Itd lo n).stop i H/\D.nx σ H)\/((Itd lo n).go i H/\∃N:St->Hp->Prop,(∀Y H',N Y H'->∃m',m'<m/\W (i+1) m' Y H')/\∀x H',(Itd lo n).yld i H x H'->g x σ H' fun O H2=>tb { D with nx:=N,ct:=N,bk:=D.nx } O H2):=by
 refine⟨fun i m σ H=>m=n-i/\i<=n/\J i σ H,⟨n,by simp,YN _,h0⟩,?_⟩
 rintro i m σ H ⟨rfl,hi,p⟩;by_cases hlt:i<n
 ·refine .inr ⟨hlt,J (i+1),fun Y H' p'=>⟨n-(i+1),by lia,Z,hlt,p'⟩,fun x H' y=>?_⟩
  obtain⟨rfl,rfl⟩:=y;exact hs i σ _ hlt p
 ·have e:i=n:=by lia
  subst e;exact .inl ⟨YL _,hd σ H p⟩
theorem Dc{K:Yx}{a:ad}{js:List Nat}{xs:List V}{te:TE}{σ:St}{H:Hp}{O:List V->Hp->Prop}(Y:Nat->List V->Hp->Prop)(h0:Y 0 [] H)
 (hl:∀i zs H,i<=xs.length->Y i zs H->SqL K H a xs/\zs.length=i) (hz:xs.length<=bi)
 (hs:∀i x zs H,xs[i]? = some x->Y i zs H->te ((cS 1 js σ).set 0 (some x)) H fun y H4=>Y (i+1) (zs++[y]) H4) (J:∀zs H',Y xs.length zs H'->O zs H') :
 ∃(n':Nat) (W:Nat->List V->Hp->Prop),W 0 [] H/\LcW (Itl K a) n' 1 js σ (CI 0) Ks te O W:=by
 refine⟨xs.length,Y,h0,⟨?_,?_,?_⟩⟩
 ·intro i zs H' hi p;obtain⟨h1,h2⟩:=hl i zs H' (Yz hi) p;exact⟨⟨xs,xs[i],h1,by simp[hi]⟩,by lia⟩
 ·rintro i zs H' x H1 hi p ⟨rfl,y⟩;exact hs i x zs _ (y xs (hl i zs _ (Yz hi) p).1) p
 ·intro zs H' p;obtain⟨h1,h2⟩:=hl _ zs H' (YL _) p;exact⟨⟨xs,h1,YL _⟩,by lia,J zs H' p⟩
theorem Bd.neg{n:Nat}{x:Int}(h:Bd n x):Bd n (-x):=by unfold Bd at *;rw[Int.natAbs_neg];exact h
theorem RP{a c b:Rat}(Y:b≠0)(h:a*b=c*b):a=c:=by
 have h2:a*b*b⁻¹=c*b*b⁻¹:=by rw[h]
 rw[Rat.mul_assoc,Rat.mul_assoc,Rat.mul_inv_cancel _ Y,Rat.mul_one,Rat.mul_one]at h2;exact h2
theorem QV{b:Int}(Y:b≠0)(t:Int):ZN t b*(b:Rat)=(t:Rat):=by
 rw[ZS];exact ZT (Nm.cast_ne Y)
theorem NS{b:Int}(Y:b≠0)(x:Rat):∀ts:List Int,Cv.ev (ts.map fun t=>ZN t b) x*(b:Rat)=Cv.evI ts x
 | []=>by show(0:Rat)*_=0;grind
 | t::ts=>by
   have ih:=NS Y x ts;have e:=QV Y t;show(ZN t b+x*Cv.ev (ts.map fun t=>ZN t b) x)*(b:Rat)=(t:Rat)+x*Cv.evI ts x;rw[<- ih,<- e]
   grind
theorem Kb{W:Type}{l:List W}{n i:Nat}{v:W}(O:l.length=n)(hi:i<n)(h:l[n-1-i]? = some v):l.drop (n-(i+1))=v::l.drop (n-i):=by
 have Y:n-(i+1)<l.length:=by rw[O];exact Nat.sub_lt (ZI (YN _) hi) (aS i)
 rw[aT Y,show n-(i+1)+1=n-i from Nat.succ_pred_eq_of_pos (Nat.sub_pos_of_lt hi)]
 congr 1
 have e:l[n-(i+1)]? = some v:=by rw[show n-(i+1)=n-1-i by rw[Nat.sub_sub,Nat.add_comm]];exact h
 rw[aB Y]at e;exact Yo.inj e
theorem Mv.put'{a l:ad}{H H':Hp}{o:HO}(m:Mv a H H')(Y:H l=none):Mv a H (upd H' l o):=fun b u n q=>by rw[Aq (As q Y)];exact m b u n q
theorem Pen.put'{H:Hp}{a l:ad}{o:HO}(h:Pen H a)(Y:l≠a):Pen (upd H l o) a:=let ⟨x0,x1,x2,ex⟩:=h;⟨x0,x1,x2,by rw[Aq (Ne.symm Y)];exact ex⟩
theorem Pen.ne'{H:Hp}{a l:ad}(h:Pen H a)(Y:H l=none):l≠a:=let ⟨_,_,_,ex⟩:=h;(As ex Y).symm
def VS(K:Yx)(H:Hp)(x:V)(rs:List Rat):Prop:=∃a ys,x = .ref a/\SqL K H a ys/\AD K H ys rs
abbrev Rows(K:Yx)(H:Hp):List V->List (List Rat)->Prop:=Paired (VS K H)
section
variable {X:Cx}
@[irreducible] def Q4(K:Yx)(neg:Bool):R2:=fun x y H Q=>∃p ds d,y = .ref p/\Rds K H (.ref p) (.list ds)/\Rds K H x d/\SeqAt.shaped (.list ds)=true/\SeqAt.shaped d=true/\Q (.bl (if neg then !(ds.any fun y=>PyData.eqv y d) else ds.any fun y=>PyData.eqv y d)) H
theorem MV{K:Yx}{neg:Bool}{x y:V}{H:Hp}{Q:VK}(h:∃p ds d,y = .ref p/\Rds K H (.ref p) (.list ds)/\Rds K H x d/\SeqAt.shaped (.list ds)=true/\SeqAt.shaped d=true/\Q (.bl (if neg then !(ds.any fun y=>PyData.eqv y d) else ds.any fun y=>PyData.eqv y d)) H):Q4 K neg x y H Q:=by
 unfold Q4;exact h
theorem inD(K:Yx){k:Nat}(hr:BK k X.A)(e:X.K=K:=by rfl):OpR X (dN .In) (Q4 K false):=by
 subst e;intro pins s σ H x y v u Q I Y W h;unfold Q4 at h;obtain⟨p,ds,d,rfl,r1,r2,h1,h2,q⟩:=h;cases W;obtain⟨as,O⟩:=Dh I r1 (u:=.ref p) rfl;obtain⟨bs,J⟩:=Dh I r2 Y;exact SeqAt.in_list_reads O J (SeqAt.canLay_of_shaped h1) (SeqAt.canLay_of_shaped h2) (PyProof.Rows.room_in_shaped h2 (by have:=hr.un;lia)) ⟨.bl _,H,I,Z,q⟩
end
theorem R8(q:Rat):∀qs:List Rat,((qs.map nD).any fun y=>PyData.eqv y (nD q))=decide (q∈qs)
 | []=>by simp
 | c::r=>by
   rw[Z2,ZA,ML,R8 q r,Bool.eq_iff_iff];simp only[Bool.or_eq_true,decide_eq_true_eq,YD]
   constructor
   ·rintro(h | h)
    ·exact .inl h.symm
    ·exact .inr h
   ·rintro(h | h)
    ·exact .inl h.symm
    ·exact .inr h
theorem inN{K:Yx}{H:Hp}{x:V}{a:ad}{xs:List V}{q:Rat}{qs:List Rat}{Q:VK}{neg:Bool}(h1:Az K H x q)(W:SqL K H a xs)(Y:AD K H xs qs)(h:Q (.bl (if neg then !decide (q∈qs) else decide (q∈qs))) H):Q4 K neg x (.ref a) H Q :=
 MV ⟨a,_,_,Z,Y.rdsL W,h1.rds,Ei _,Ga _,by rw[R8];exact h⟩
def PtV(K:Yx)(H:Hp)(x:V)(ps:List Rat):Prop:=∃a,x = .ref a/\Crv K H a ps
abbrev Pts(K:Yx)(H:Hp):List V->List (List Rat)->Prop:=Paired (PtV K H)
theorem PtV.same{K:Yx}{H H':Hp}{x:V}{ps:List Rat}(h:PtV K H x ps)(e:Ac H H'):PtV K H' x ps:=let ⟨a,h1,h2⟩:=h;⟨a,h1,h2.same e⟩
theorem Pts.same{K:Yx}{H H':Hp}{xs:List V}{pss:List (List Rat)}(h:Pts K H xs pss)(e:Ac H H'):Pts K H' xs pss:=Paired.mapP h fun _ _ z=>z.same e
structure ES where
 x:Rat
 k:Int
 n:Rat
deriving DecidableEq
section
variable {X:Cx}{e:Expr}{te:TE}
end
def Kk(t:TGs)(nt:Nat):Prop:=∀(vs:List V) (σ:St) (H:Hp) (Q:St->Hp->Prop) (σ0:St),(σ.length=σ0.length/\σ.drop nt=σ0.drop nt)->t vs σ H Q->t vs σ H fun σ2 H2=>(σ2.length=σ0.length/\σ2.drop nt=σ0.drop nt)/\Q σ2 H2
theorem Dv{nt:Nat}:Kk Si nt:=fun _ _ _ _ _ r ⟨e,q⟩=>⟨e,r,q⟩
theorem Bl{i nt:Nat}{u:TGs}(h:i<nt)(O:Kk u nt):Kk (Ie (CI i) u) nt:=fun vs σ H Q Y r ⟨v,W,e,q⟩=>⟨v,W,e,O W (σ.set i (some v)) H Q Y ⟨by rw[Zz];exact r.1,by
 rw[<- r.2];apply ax;intro k;rw[ay,ay,YI (by lia)]⟩ q⟩
theorem Ed{K:Yx}{n nt:Nat}{t:TGs}(h:Kk t nt):LX (ON K n t) nt:=fun _ σ H Q ⟨a,xs,e,s,l,q⟩=>⟨a,xs,e,s,l,h xs σ H Q σ ⟨Z,Z⟩ q⟩
end L2
namespace L2
def Bt:List Rat->List Rat->List Rat
 | [],m=>m
 | a::l,[]=>a::l
 | a::l,b::m=>(a+b)::Bt l m
theorem LU(l:List Rat):Bt l []=l:=by cases l<;>rfl
theorem Cc(x:Rat):∀l m,Cv.ev (Bt l m) x=Cv.ev l x+Cv.ev m x
 | [],m=>by show _=0+_;grind [Bt]
 | a::l,[]=>by show _=_+0;rw[Bt];grind
 | a::l,b::m=>by
   have ih:=Cc x l m;show(a+b)+x*Cv.ev (Bt l m) x=(a+x*Cv.ev l x)+(b+x*Cv.ev m x);rw[ih];grind
theorem BG:∀l m,(Bt l m).length=max l.length m.length
 | [],m=>by show m.length=max 0 m.length;lia
 | a::l,[]=>by show l.length+1=max (l.length+1) 0;lia
 | a::l,b::m=>by
   have ih:=BG l m;show(Bt l m).length+1=max (l.length+1) (m.length+1)
   lia
theorem LV:∀(l m:List Rat) (i:Nat),l.length<=i->(Bt l m)[i]? = m[i]?
 | [],m,i,_=>rfl
 | a::l,[],i,h=>by rw[LU,aU h];rfl
 | a::l,b::m,0,h=>by simp at h
 | a::l,b::m,i+1,h=>by
   have ih:=LV l m i (by simpa using h)
   show(Bt l m)[i]? = m[i]?;exact ih
def DF:List Rat->List Rat->List Rat
 | [],_=>[]
 | a::l,m=>Bt (m.map (· * a)) (0::DF l m)
theorem D4(x:Rat)(m:List Rat):∀l,Cv.ev (DF l m) x=Cv.ev l x*Cv.ev m x
 | []=>by show(0:Rat)=0*_;grind
 | a::l=>by
   have ih:=D4 x m l;show Cv.ev (Bt (m.map (· * a)) (0::DF l m)) x=(a+x*Cv.ev l x)*_;rw[Cc,Cv.ev_scale];show _+(0+x*Cv.ev (DF l m) x)=_;rw[ih];grind
theorem Cz(m:List Rat)(Y:1<=m.length):∀l,1<=l.length->(DF l m).length=l.length+m.length-1
 | [],h=>by simp at h
 | [a],_=>by
   show(Bt (m.map (· * a)) [0]).length=1+m.length-1;rw[BG,Z4];show max m.length 1=_
   lia
 | a::b::l,_=>by
   have ih:=Cz m Y (b::l) (by simp)
   show(Bt (m.map (· * a)) (0::DF (b::l) m)).length=l.length+1+1+m.length-1;rw[BG,Z4];show max m.length ((DF (b::l) m).length+1)=_;rw[ih];show max m.length (l.length+1+m.length-1+1)=_
   lia
theorem Gb(m:List Rat)(u:Rat)(W:m[m.length-1]? = some u):∀(l:List Rat) (v:Rat),l[l.length-1]? = some v->(DF l m)[l.length+m.length-2]? = some (u*v)
 | [],v,h=>by simp at h
 | [a],v,h=>by
   have J:m.length-1<m.length:=(YG.mp W).1;have e:a=v:=by simpa using h
   subst e;show(Bt (m.map (· * a)) [0])[1+m.length-2]? = _;cases m with
   | nil=>simp at J
   | cons b m' =>
     rw[show 1+(b::m').length-2=m'.length by simp only[YY];lia]
     have Y:(b::m')[m'.length]? = some u:=W;cases m' with
     | nil =>
       have e:b=u:=by simpa using Y
       subst e;show some (b*a+0)=some (b*a)
       congr 1;grind
     | cons c m'' =>
       show(Bt ((c::m'').map (· * a)) [])[m''.length]? = _;rw[LU,Zl];have O:(c::m'')[m''.length]? = some u:=Y;rw[O];rfl
 | a::b::l,v,h=>by
   have J:m.length-1<m.length:=(YG.mp W).1;have ih:=Gb m u W (b::l) v h;show(Bt (m.map (· * a)) (0::DF (b::l) m))[l.length+1+1+m.length-2]? = _;rw[LV _ _ _ (by rw[Z4];lia)]
   rw[show l.length+1+1+m.length-2=(l.length+1+m.length-2)+1 by lia]
   exact ih
theorem QK{l m:List Rat}(J:De l)(hm:De m)(Y:l≠[])(nm:m≠[]):De (DF l m):=by
 rcases J with h | ⟨v,hv,O⟩
 ·exact absurd h Y
 rcases hm with h | ⟨u,W,u0⟩
 ·exact absurd h nm
 have l1:1<=l.length:=ae.mpr Y;have m1:1<=m.length:=ae.mpr nm;refine .inr ⟨u*v,?_,fun z=>?_⟩
 ·rw[Cz m m1 l l1,show l.length+m.length-1-1=l.length+m.length-2 by lia]
  exact Gb m u W l v hv
 ·rcases aq.mp z with z | z
  ·exact u0 z
  ·exact O z
theorem NN{l m:List Rat}(Y:De m)(J:l.length<=m.length)(h:∀x,Cv.ev l x=Cv.ev m x):l=m:=by
 have e:l++Zf (m.length-l.length) 0=m:=by
  refine Cv.same_of _ _ (by rw[Zo,Zp];lia) fun x=>?_
  rw[<- Cv.ev_strip,Cv.strip_zeros,Cv.ev_strip];exact h x
 by_cases hlt:l.length<m.length
 ·rcases Y with Y | ⟨q,W,O⟩
  ·rw[Y]at hlt;simp at hlt
  ·exfalso;rw[<- e,Zo,Zp,Zi (by lia),Zj,if_pos (by lia)]at W
   exact O (Yo.inj W).symm
 ·rw[show m.length-l.length=0 by lia,List.replicate_zero,Za]at e
  exact e
theorem Ic{l m:List Rat}(W:De l)(Y:De m)(h:∀x,Cv.ev l x=Cv.ev m x):l=m:=by
 by_cases hle:l.length<=m.length
 ·exact NN Y hle h
 ·exact(NN W (by lia) fun x=>(h x).symm).symm
open PySem PySem.Spec PyProof.Rows
theorem EN{K:Yx}{a:ad}{js:List Nat}{xs:List V}{te:TE}{σ:St}{H:Hp}{O:List V->Hp->Prop}(Y:Nat->List V->Hp->Prop)(h0:Y 0 [] H)
 (hl:∀i zs H,i<=xs.length->Y i zs H->SqT K H a xs/\zs.length=i) (hz:xs.length<=bi)
 (hs:∀i x zs H,xs[i]? = some x->Y i zs H->te ((cS 1 js σ).set 0 (some x)) H fun y H4=>Y (i+1) (zs++[y]) H4) (J:∀zs H',Y xs.length zs H'->O zs H') :
 ∃(n':Nat) (W:Nat->List V->Hp->Prop),W 0 [] H/\LcW (Itt K a) n' 1 js σ (CI 0) Ks te O W:=by
 refine⟨xs.length,Y,h0,⟨?_,?_,?_⟩⟩
 ·intro i zs H' hi p;obtain⟨h1,h2⟩:=hl i zs H' (Yz hi) p;exact⟨⟨xs,xs[i],h1,by simp[hi]⟩,by lia⟩
 ·rintro i zs H' x H1 hi p ⟨rfl,y⟩;exact hs i x zs _ (y xs (hl i zs _ (Yz hi) p).1) p
 ·intro zs H' p;obtain⟨h1,h2⟩:=hl _ zs H' (YL _) p;exact⟨⟨xs,h1,YL _⟩,by lia,J zs H' p⟩
end L2
namespace L2
def ch:Nat->Nat->Nat
 | _,0=>1
 | 0,_+1=>0
 | n+1,k+1=>ch n k+ch n (k+1)
def goL(a b:Rat):Rat->List Rat->List Rat
 | p,[]=>[a*p]
 | p,c::r=>(a*p+b*c)::goL a b c r
def T4(a b:Rat):List Rat->List Rat
 | []=>[]
 | q::r=>match T4 a b r with
   | []=>[q]
   | c::s=>(q+b*c)::goL a b c s
end L2
namespace L2
def sd:List Rat->List Rat
 | []=>[]
 | [_]=>[]
 | _::p::r=>Bt (0::sd (p::r)) (T4 1 1 (p::r))
end L2
namespace L2
open PySem PySem.Spec PyProof.Rows PySem.SeqAt
end L2
namespace L2
def dL:List Rat->List Rat
 | []=>[]
 | _::r=>Bt r (0::dL r)
def ty(x:Rat):List Rat->List Rat
 | []=>[]
 | q::r=>Bt (q::ty x r) ((ty x r).map (· * x))
theorem CN:∀(l m:List Rat) (k:Nat),(Bt l m).getD k 0=l.getD k 0+m.getD k 0
 | [],m,k=>by show m.getD k 0=0+m.getD k 0;grind
 | a::l,[],k=>by show(a::l).getD k 0=(a::l).getD k 0+0;grind
 | a::l,b::m,0=>rfl
 | a::l,b::m,k+1=>CN l m k
theorem BZ(y:Rat)(l:List Rat)(k:Nat):(l.map (· * y)).getD k 0=l.getD k 0*y:=by
 rw[aw,aw,Zl];cases l[k]? with
 | none=>show(0:Rat)=0*y;grind
 | some t=>rfl
theorem LM{l m:List Rat}(h:∀k:Nat,Cv.ev l ((k:Nat):Rat)=Cv.ev m ((k:Nat):Rat))(k:Nat):l.getD k 0=m.getD k 0:=by
 have z:=Cv.ident _ (Bt l (m.map (· * (-1)))) (YL _) 0 fun k _=>by
  rw[Cc,Cv.ev_scale,h k];grind
 have e:(Bt l (m.map (· * (-1)))).getD k 0=0:=by
  rw[aw];cases q:(Bt l (m.map (· * (-1))))[k]? with
  | none=>rfl
  | some t=>exact z t (Zn q)
 rw[CN,BZ]at e
 grind
def quo(c:Rat):List Rat->List Rat
 | []=>[]
 | _::r=>Bt r ((quo c r).map (· * c))
theorem Q6(c x:Rat):∀l,Cv.ev l x=Cv.ev l c+(x-c)*Cv.ev (quo c l) x
 | []=>by show(0:Rat)=0+_*0;grind
 | q::r=>by
   have ih:=Q6 c x r;show q+x*Cv.ev r x=(q+c*Cv.ev r c)+(x-c)*Cv.ev (Bt r ((quo c r).map (· * c))) x;rw[Cc,Cv.ev_scale];have h:(x-c)*(Cv.ev r x+Cv.ev (quo c r) x*c)=x*Cv.ev r x-c*(Cv.ev r x-(x-c)*Cv.ev (quo c r) x):=by grind
   rw[h,show Cv.ev r x-(x-c)*Cv.ev (quo c r) x=Cv.ev r c by grind]
   grind
theorem HB(c:Rat):∀l,(quo c l).length=l.length-1
 | []=>rfl
 | q::r=>by
   have ih:=HB c r;show(Bt r ((quo c r).map (· * c))).length=r.length;rw[BG,Z4,ih]
   lia
end L2
namespace L2
def prL:List Rat->List Rat
 | []=>[1]
 | o::os=>DF [-o,1] (prL os)
def prV(x:Rat):List Rat->Rat
 | []=>1
 | o::os=>(x-o)*prV x os
theorem FV(x:Rat):∀os,Cv.ev (prL os) x=prV x os
 | []=>by show(1:Rat)+x*0=1;grind
 | o::os=>by
   show Cv.ev (DF [-o,1] (prL os)) x=_;rw[D4,FV x os];show(-o+x*(1+x*0))*prV x os=(x-o)*prV x os
   grind
theorem Mx{x:Rat}:∀{os:List Rat},x∈os->prV x os=0
 | o::os,h=>by
   show(x-o)*prV x os=0
   rcases YD.mp h with e | e
   ·rw[e];grind
   ·rw[Mx e];grind
end L2
namespace L2
open PySem PySem.Spec PyProof.Rows
theorem K6{K:Yx}{a:ad}{js:List Nat}{xs:List V}{tc:TT}{te:TE}{σ:St}{H:Hp}{O:List V->Hp->Prop}(Y:Nat->List V->Hp->Prop)(h0:Y 0 [] H)
 (hl:∀i zs H,i<=xs.length->Y i zs H->SqL K H a xs/\zs.length<=i) (hz:xs.length<=bi)
 (hs:∀i x zs H,xs[i]? = some x->Y i zs H->tc ((cS 1 js σ).set 0 (some x)) H fun b H3=>if b=true then te ((cS 1 js σ).set 0 (some x)) H3 fun y H4=>Y (i+1) (zs++[y]) H4 else Y (i+1) zs H3) (J:∀zs H',Y xs.length zs H'->O zs H') :
 ∃(n':Nat) (W:Nat->List V->Hp->Prop),W 0 [] H/\LcW (Itl K a) n' 1 js σ (CI 0) tc te O W:=by
 refine⟨xs.length,Y,h0,⟨?_,?_,?_⟩⟩
 ·intro i zs H' hi p;obtain⟨h1,h2⟩:=hl i zs H' (Yz hi) p;exact⟨⟨xs,xs[i],h1,by simp[hi]⟩,by lia⟩
 ·rintro i zs H' x H1 hi p ⟨rfl,y⟩;exact hs i x zs _ (y xs (hl i zs _ (Yz hi) p).1) p
 ·intro zs H' p;obtain⟨h1,h2⟩:=hl _ zs H' (YL _) p;exact⟨⟨xs,h1,YL _⟩,by lia,J zs H' p⟩
end L2
namespace PySem
open Sem (wp)
open Builtin
set_option maxRecDepth 100000
end PySem
namespace L2
open PySem PySem.Spec PyProof.Rows
variable {X:Cx}
end L2
namespace L2
open PySem PySem.Spec PyProof.Rows
def kQ(q:Rat):List Key:=[.inl q.num,.inl (q.den:Int)]
theorem Um{p q:Rat}(h:kQ p=kQ q):p=q:=by
 unfold kQ at h
 injection h with h1 h2
 injection h2 with h2 _
 injection h1 with h1
 injection h2 with h2
 exact Rat.ext h1 (Int.ofNat.inj h2)
def DO(H:Hp)(x:V)(q:Rat):Prop:=∃r,x = .ref r/\H r=some (nT q)
abbrev Am(H:Hp):List V->List Rat->Prop:=Paired (DO H)
theorem DO.num{K:Yx}{H:Hp}{x:V}{q:Rat}(h:DO H x q):Az K H x q:=let ⟨r,e,h⟩:=h;⟨r,e,SqT.of h⟩
theorem DO.same{H H':Hp}{x:V}{q:Rat}(h:DO H x q)(e:Ac H H'):DO H' x q:=let ⟨r,z,h⟩:=h;⟨r,z,e _ _ h⟩
theorem DO.mv{H H':Hp}{x:V}{q:Rat}{p:ad}(h:DO H x q)(pn:Pen H p)(m:Mv p H H'):DO H' x q:=let ⟨r,z,h⟩:=h;⟨r,z,m r _ (pn.ne h (SV q)) h⟩
theorem DO.put{H:Hp}{x:V}{q:Rat}{p:ad}{ys:List V}{o:HO}(h:DO H x q)(Y:H p=some (.lst ys)):DO (upd H p o) x q:=let ⟨r,z,h⟩:=h;⟨r,z,by rw[Aq (CS h Y (fun z=>by cases z))];exact h⟩
theorem Am.nums{K:Yx}{H:Hp}{xs:List V}{qs:List Rat}(h:Am H xs qs):AD K H xs qs:=Paired.mapP h fun _ _ z=>z.num
theorem Am.same{H H':Hp}{xs:List V}{qs:List Rat}(h:Am H xs qs)(e:Ac H H'):Am H' xs qs:=Paired.mapP h fun _ _ z=>z.same e
theorem Am.mv{H H':Hp}{xs:List V}{qs:List Rat}{p:ad}(h:Am H xs qs)(pn:Pen H p)(m:Mv p H H'):Am H' xs qs:=Paired.mapP h fun _ _ z=>z.mv pn m
theorem Am.put{H:Hp}{xs:List V}{qs:List Rat}{p:ad}{ys:List V}{o:HO}(h:Am H xs qs)(Y:H p=some (.lst ys)):Am (upd H p o) xs qs:=Paired.mapP h fun _ _ z=>z.put Y
def PtT(K:Yx)(H:Hp)(x:V)(ps:List Rat):Prop:=∃a us p,x = .ref a/\SqT K H a us/\AD K H us ps/\us[0]? = some (.ref p)/\H p=some (nT (ps.getD 0 0))
abbrev AY(K:Yx)(H:Hp):List V->List (List Rat)->Prop:=Paired (PtT K H)
section
variable {K:Yx}{H H':Hp}{x:V}{ps:List Rat}{xs:List V}{pss:List (List Rat)}{p:ad}{ys:List V}{o:HO}
theorem PtT.pt(h:PtT K H x ps):PtV K H x ps:=let ⟨a,us,_,e,h1,h2,_⟩:=h;⟨a,e,us,h1,h2⟩
theorem PtT.same(h:PtT K H x ps)(e:Ac H H'):PtT K H' x ps:=let ⟨a,us,b,z,h1,h2,h3,h4⟩:=h;⟨a,us,b,z,h1.same e,h2.same e,h3,e _ _ h4⟩
theorem PtT.mv(h:PtT K H x ps)(pn:Pen H p)(m:Mv p H H'):PtT K H' x ps:=let ⟨a,us,b,z,h1,h2,h3,h4⟩:=h;⟨a,us,b,z,h1.mv pn m,h2.mv pn m,h3,m b _ (pn.ne h4 (SV _)) h4⟩
theorem PtT.put(h:PtT K H x ps)(Y:H p=some (.lst ys)):PtT K (upd H p o) x ps:=let ⟨a,us,b,z,h1,h2,h3,h4⟩:=h;⟨a,us,b,z,h1.put Y,h2.put Y,h3,by rw[Aq (CS h4 Y (fun z=>by cases z))];exact h4⟩
theorem AY.same(h:AY K H xs pss)(e:Ac H H'):AY K H' xs pss:=Paired.mapP h fun _ _ z=>z.same e
theorem AY.mv(h:AY K H xs pss)(pn:Pen H p)(m:Mv p H H'):AY K H' xs pss:=Paired.mapP h fun _ _ z=>z.mv pn m
theorem AY.put(h:AY K H xs pss)(Y:H p=some (.lst ys)):AY K (upd H p o) xs pss:=Paired.mapP h fun _ _ z=>z.put Y
end
def TlT(K:Yx)(H:Hp)(v:V)(t:ES):Prop:=∃a p rn,v = .ref a/\SqT K H a [.ref p,.int t.k,rn]/\H p=some (nT t.x)/\Az K H rn t.n
abbrev Ik(K:Yx)(H:Hp):List V->List ES->Prop:=Paired (TlT K H)
section
variable {K:Yx}{H H':Hp}{x:V}{t:ES}{xs:List V}{ts:List ES}{p:ad}{ys:List V}{o:HO}
theorem TlT.same(h:TlT K H x t)(e:Ac H H'):TlT K H' x t:=let ⟨a,b,rn,z,h1,h2,h3⟩:=h;⟨a,b,rn,z,h1.same e,e _ _ h2,h3.same e⟩
theorem TlT.put(h:TlT K H x t)(Y:H p=some (.lst ys)):TlT K (upd H p o) x t:=let ⟨a,b,rn,z,h1,h2,h3⟩:=h;⟨a,b,rn,z,h1.put Y,by rw[Aq (CS h2 Y (fun z=>by cases z))];exact h2,h3.put Y⟩
theorem Ik.same(h:Ik K H xs ts)(e:Ac H H'):Ik K H' xs ts:=Paired.mapP h fun _ _ z=>z.same e
theorem Ik.put(h:Ik K H xs ts)(Y:H p=some (.lst ys)):Ik K (upd H p o) xs ts:=Paired.mapP h fun _ _ z=>z.put Y
end
end L2
namespace L2
theorem DD:∀Y,(prL Y).length=Y.length+1
 | []=>rfl
 | o::Y=>by
   have ih:=DD Y;show(Bt ((prL Y).map (· * -o)) (0::Bt ((prL Y).map (· * 1)) (0::DF [] (prL Y)))).length=_;have e:DF [] (prL Y)=[]:=rfl;rw[BG,Z4,YY,BG,Z4,e,ih];simp only[YY,aV]
   lia
def nwT(T:Nat->Nat->Rat)(x:Nat->Rat)(j:Nat):Nat->List Rat
 | 0=>[]
 | n+1=>Bt (nwT T x j n) ((prL ((Yu n).map fun i=>x (j+i))).map (· * T n j))
def prF(x:Nat->Rat)(j n:Nat)(X:Rat):Rat:=prV X ((Yu n).map fun i=>x (j+i))
theorem Nw(X:Rat):∀(l m:List Rat),prV X (l++m)=prV X l*prV X m
 | [],m=>by show prV X m=1*prV X m;grind
 | a::l,m=>by
   show(X-a)*prV X (l++m)=(X-a)*prV X l*prV X m;rw[Nw X l m];grind
theorem HE(x:Nat->Rat)(j n:Nat)(X:Rat):prF x j (n+1) X=prF x j n X*(X-x (j+n)):=by
 unfold prF;rw[aW,aj,Nw];show _*((X-x (j+n))*1)=_
 grind
theorem J1(x:Nat->Rat)(j:Nat)(X:Rat):∀n,prF x j (n+1) X=(X-x j)*prF x (j+1) n X
 | 0=>by show(X-x (j+0))*1=(X-x j)*1;rw[ZY]
 | n+1=>by
   rw[HE,J1 x j X n,HE,show j+(n+1)=j+1+n by lia];grind
theorem G0(T:Nat->Nat->Rat)(x:Nat->Rat)(j n:Nat)(X:Rat):Cv.ev (nwT T x j (n+1)) X=Cv.ev (nwT T x j n) X+T n j*prF x j n X:=by
 show Cv.ev (Bt _ _) X=_;rw[Cc,Cv.ev_scale,FV];show _+prV X _*_=_+_*prV X _
 grind
def Rb(T:Nat->Nat->Rat)(x:Nat->Rat)(N:Nat):Prop:=∀k j,j+k+1<N->T (k+1) j*(x (j+k+1)-x j)=T k (j+1)-T k j
theorem Lj{T:Nat->Nat->Rat}{x:Nat->Rat}{N:Nat}(h:Rb T x N)(X:Rat):∀n j,j+n<N->Cv.ev (nwT T x j (n+1)) X=Cv.ev (nwT T x (j+1) n) X+T n j*prF x (j+1) n X
 | 0,j,_=>by
   rw[G0];show Cv.ev [] X+T 0 j*1=Cv.ev [] X+T 0 j*1
   rfl
 | n+1,j,hj=>by
   have ih:=Lj h X n j (by lia)
   have hk:=h n j (by lia)
   rw[G0,ih,G0 T x (j+1) n,J1,HE x (j+1) n,show j+1+n=j+n+1 by lia]
   grind
theorem Qi{T:Nat->Nat->Rat}{x:Nat->Rat}{N:Nat}(h:Rb T x N):∀n j i,j+n<=N->i<n->Cv.ev (nwT T x j n) (x (j+i))=T 0 (j+i)
 | n+1,j,i,hj,hi=>by
   have IH:=Qi h n;by_cases hin:i<n
   ·rw[G0,IH j i (by lia) hin]
    have:prF x j n (x (j+i))=0:=Mx (aX.mpr ⟨i,Yw.mpr hin,Z⟩);rw[this];grind
   ·have e:i=n:=by lia
    subst e
    match i,hj,IH with
    | 0,_,_ =>
      rw[G0];show(0:Rat)+T 0 j*1=T 0 j
      grind
    | i+1,hj,IH =>
      rw[Lj h _ (i+1) j (by lia)]
      have Y:=IH (j+1) i (by lia) (by lia)
      rw[show j+1+i=j+(i+1) by lia]at Y
      rw[Y];have:prF x (j+1) (i+1) (x (j+(i+1)))=0:=Mx (aX.mpr ⟨i,Yw.mpr (by lia),by show x (j+1+i)=_;rw[show j+1+i=j+(i+1) by lia]⟩)
      rw[this];grind
end L2
namespace HT
open PySem PyProof.Rows
open PySem.SeqAt
open PySem.AutoSeq1 (wpAny_loadPart')
open PySem.MeetsSeq PySem.MeetsSeq2 PySem.MeetsSeq3
theorem getItem_tuple_whole{prog:ce}{w:db}{A:dl}{E:am->aI->Prop}{s:aI}{t O:ad}{items:Array am}{vl vu:am}{lo hi:Option Int}{Q:am->aI->Prop}(W:IsTup s.heap t items)(hs:s.heap.IsSliceOf O vl vu .none)(pl:IsPart vl lo)(pu:IsPart vu hi)
 (hw:sIx items.size 0 lo=0/\sIx items.size items.size hi=items.size) (h:Q (.ref t) s):bv (cr prog w) A (fE (.ref t) (.ref O)) Q E s:=by
 obtain⟨os,ak,ab,al⟩:=id hs;have J:s.TypeIs (.ref O) "slice":=⟨os,ak,ab⟩;unfold fE
 try with_reducible refine dz ?_
 first | refine ac (aQ ?_) | skip
 refine ac (wpAny_sequenceKey W.typeIs (by decide) ?_)
 refine ac (dD (name:=Str.ofString "__getitem__") W.typeIs PyProof.Rows.slot_tuple_getitem
  (dP PyProof.Rows.slot_tuple_getitem W.typeIs entry_tuple_getitem ?_ (args_tuple_getitem _ _)))
 show bv _ _ (Builtin.Tuple.tupleItemsOf (.ref t) >>= _) _ _ s;refine ac (tupleItemsOf_ W ?_);refine ac (fF J ?_);rw[if_pos (by decide)]
 refine ac (sliceApplied_gen hs pl pu ?_)
 have Y:(((sIx items.size 0 lo:Nat):Int) == 0&&(1:Int) == 1&&(sIx items.size items.size hi-sIx items.size 0 lo) == items.size)=true:=by
  rw[hw.1,hw.2];simp
 show bv _ _ (if (((sIx items.size 0 lo:Nat):Int) == 0&&(1:Int) == 1&&(sIx items.size items.size hi-sIx items.size 0 lo) == items.size)=true then _ else _) _ _ s;rw[if_pos Y];refine ac ?_;refine ac (fF W.typeIs ?_);refine aQ ?_;rw[if_pos (by decide)]
 first
  | exact ac (fj (aQ ⟨_,Z,aQ h⟩))
  | exact aQ ⟨_,Z,aQ h⟩
  | trace_state
end HT
namespace L2
open PySem PySem.Spec PyProof.Rows
section
variable {X:Cx}{K:Yx}
inductive Q0(K:Yx)(x:V)(lo:Option Int)(hi:Option Int)(H:Hp)(Q:VK):Prop
 | mk (a:_) (xs:_) (h1:x = .ref a) (h2:SqT K H a xs) (h3:(HT.sIx xs.length 0 lo=0/\HT.sIx xs.length xs.length hi=xs.length)) (h4:Q (.ref a) H):Q0 K x lo hi H Q
theorem RC:SlR X (Q0 X.K):=by
 intro pins s σ H x v vl vu lo hi sl Q I J hs pl pu h;obtain⟨a,xs,rfl,hx,hw,q⟩:=h;cases J;obtain⟨W,r,O,hz⟩:=I.tuple hx;have Y:W.toArray.size=xs.length:=by rw[Zs];exact r.length.symm
 refine⟨"tuple",_,PyProof.Rows.slot_tuple_getitem.lookup,O.typeIs,?_⟩;exact HT.getItem_tuple_whole O hs pl pu (by rw[Y];exact hw) ⟨.ref a,H,I,Z,q⟩
def SJ(K:Yx):V->Option Int->Option Int->Hp->VK->Prop:=fun x lo hi H Q=>Tx K x lo hi H Q\/Q0 K x lo hi H Q
theorem VE(K:Yx)(e:X.K=K:=by rfl):SlR X (SJ K):=by subst e;exact SlR.or Ts RC
end
theorem Eb(xs:List V)(v:Nat):CM xs none (some (v:Int))=xs.take v:=by
 unfold CM;have e1:HT.sIx xs.length 0 none=0:=rfl;have Y:HT.sIx xs.length xs.length (some (v:Int))=min v xs.length:=HT.sIx_nat _ _ v;rw[e1,Y,aY,aZ];by_cases h:v<=xs.length
 ·rw[Zv h]
 ·rw[Zw (by lia),bj (YL _),bj (by lia)]
end L2
namespace L2
open PySem PySem.Spec PyProof.Rows PySem.SeqAt
section
variable {X:Cx}
theorem _root_.HT.cat_tup0{prog:ce}{w:db}{A:dl}{E:am->aI->Prop}{s:aI}{t b:ad}{ws:List am}{Q:am->aI->Prop}(ht:IsTup s.heap t ([]:List am).toArray)(hb:IsTup s.heap b ws.toArray)
 (h1:Q (.ref b) s):bv (cr prog w) A (dY .Add (.ref t) (.ref b)) Q E s:=by
 obtain⟨⟨cls,dd,data,sl⟩,ho,hc,n,hd⟩:=id ht;obtain⟨⟨al,ak,J,ab⟩,W,O,n2,Y⟩:=id hb;simp only at hc hd O Y;subst hc hd O Y
 exact concat_meets ⟨_,ho,Z⟩ ⟨_,W,Z⟩ noFill_tuple_add seq_tuple_add PySem.F.slot_tuple_add PySem.F.entry_tuple_add (PySem.F.args_tuple_add_2 _ _)
  (tuple_addW0 t b ([]:List am).toArray ws.toArray n n2 dd ak sl ab (by simp)) ⟨ho,W,h1⟩
def Mw(K:Yx):R2:=fun x y H Q=>Q5 K x y H Q\/∃a b ys,x = .ref a/\y = .ref b/\SqT K H a []/\SqT K H b ys/\Q (.ref b) H
theorem Qf:OpR X (dY .Add) (Mw X.K):=by
 intro pins s σ H x y v u Q I Y W h
 rcases h with h | ⟨a,b,ys,rfl,rfl,ha,hb,q⟩
 ·exact S2 pins s σ H x y v u Q I Y W h
 ·cases Y;cases W;obtain⟨ab,r1,J,_⟩:=I.tuple ha;obtain⟨O,r2,p2,_⟩:=I.tuple hb;cases r1;exact HT.cat_tup0 J p2 ⟨.ref b,H,I,Z,q⟩
theorem T5(K:Yx)(e:X.K=K:=by rfl):OpR X (dY .Add) (Mw K):=by subst e;exact Qf
end
theorem Ec(xs:List V)(v:Nat):CM xs (some (v:Int)) none=xs.drop v:=by
 unfold CM;have e1:HT.sIx xs.length 0 (some (v:Int))=min v xs.length:=HT.sIx_nat _ _ v;have Y:HT.sIx xs.length xs.length none=xs.length:=rfl;rw[e1,Y];by_cases h:v<=xs.length
 ·rw[Zv h,bj (by rw[Zx];exact YL _)]
 ·rw[Zw (by lia),bo,br,bu (by lia)]
end L2
namespace L2
open PySem PySem.Spec PyProof.Rows
theorem N7:dy "zip" = some (.type "zip"):=by decide +kernel
section
variable {X:Cx}{pins:List (ad×Obj)}{σ:List (Option V)}{H:Hp}{s:aI}{h':dw}
theorem Inv.turnedL{t':Nat}{ch:List ad}(I:Inv X pins σ H s)(k:∀b o,b∉ch->s.heap.get? b=some o->h'.get? b=some o)(O:∀b∈ch,DR X pins H b):Inv X pins σ H { s with heap:=h',toks:=t' }:=by
 have W:∀b u,H b=some u->b∉ch:=fun b u e z=>by rw[(O b z).1]at e;cases e
 refine I.step (g':=s.gens) (d':=s.drawn) (ch:=ch) (fun b hb=>?_) (fun b o _ _ Y e _=>k b o Y e) (fun b o _ _ Y e _=>⟨o.slots,k b o Y e⟩) (fun _ _ _ _ n=>n)
  (fun b o Y e=>⟨o,k b o Y e⟩) (fun _ _ e=>e) (fun _ _ _ e=>e) (fun b ps e=>⟨#[],by rw[e];simp⟩) (fun m hm=>?_) (fun b u e=>?_) I.bare
 ·obtain⟨_,hL,_,h1,h2,h3⟩:=O b hb;exact⟨h1,hL,h2,h3⟩
 ·obtain⟨o,es,ep,J,r⟩:=hm;exact⟨o,es,ep,k _ o (fun z=>(O _ z).2.1 rfl) J,r⟩
 ·refine(I.hok b u e).stay (fun c v Y q=>k c v ?_ q) (fun _ q=>q) fun _ _ q=>q
  rcases Y with z | z
  ·rw[z];exact W b u e
  ·exact W c _ z
end
def Itz(K:Yx)(a b:ad)(xs ys:List V):It :=
 ⟨fun i H=>SqL K H a xs/\SqL K H b ys/\i<min xs.length ys.length,
  fun i H x H'=>∃T x1 y1,xs[i]? = some x1/\ys[i]? = some y1/\H T=none/\x = .ref T/\H'=upd H T (.tup [x1,y1]),
  fun i H=>SqL K H a xs/\SqL K H b ys/\min xs.length ys.length<=i⟩
theorem Pc{P:ce}{w:db}{K:Yx}{aP:List Expr}{kk}{pos:Pos}{a b z TI TO i1 i2:ad}(D:fi z TI TO i1 i2 a b)(xs ys:List V) :
 IP P w K (.Tuple aP kk pos) (Itz K a b xs ys) [z,TI,TO,i1,i2] z (fun i h=>fD h z TI TO .none/\dI h TI (.ref i1) (.ref i2)/\(∃u v,dI h TO u v)/\h.IsListIter i1 a i/\h.IsListIter i2 b i) where
 mem:=by simp
 obj:=fun i h st c hc=>by
  obtain⟨hz,W,⟨u,v,O⟩,⟨o1,e1,_,d1⟩,⟨o2,e2,_,d2⟩⟩:=st;have J:c=z\/c=TI\/c=TO\/c=i1\/c=i2:=by simpa using hc
  rcases J with rfl | rfl | rfl | rfl | rfl
  ·exact⟨_,hz,fun v z=>by cases z⟩
  ·exact⟨_,W,fun v z=>by cases z⟩
  ·exact⟨_,O,fun v z=>by cases z⟩
  ·exact⟨o1,e1,fun v z=>by rw[d1]at z;cases z⟩
  ·exact⟨o2,e2,fun v z=>by rw[d2]at z;cases z⟩
 keep:=fun i h h' st k=>by
  obtain⟨hz,W,⟨u,v,O⟩,h1,h2⟩:=st;exact⟨k z (by simp) _ hz,k TI (by simp) _ W,⟨u,v,k TO (by simp) _ O⟩,h1.at fun o e=>k i1 (by simp) o e,h2.at fun o e=>k i2 (by simp) o e⟩
 item:=by
  intro X hP hw hK hc i pins s σ H E I hf st hg;subst hP hw hK;obtain⟨an,ak,hi⟩:=hg;obtain⟨ba,al,p1,_⟩:=I.list an;obtain⟨aC,ap,p2,_⟩:=I.list ak;have hx:xs[i]? = some (xs[i]'(by lia)):=aB (by lia)
  have hy:ys[i]? = some (ys[i]'(by lia)):=aB (by lia)
  obtain⟨u1,bd,as⟩:=al.get hx;obtain⟨u2,bc,a0⟩:=ap.get hy;generalize xs[i]'(by lia)=x1 at hx as
  generalize ys[i]'(by lia)=y1 at hy a0
  obtain⟨hz,W,⟨ta,tb,O⟩,h1,h2⟩:=st;refine wpAny_pyNext_zip_item D hz W O h1 h2 p1.isList p2.isList (x:=u1) (y:=u2) (by simpa using bd) (by simpa using bc) fun h' a1 a2 a3 a4 a5 a6 a7=>?_
  refine⟨_,Z,wpAny_letOwnedTupleGo_zip (s:={ s with heap:=h' }) a1 fun bb b1 b2=>?_⟩
  have lz:z<s.heap.objs.size:=Heap.lt_size hz;have bg:TI<s.heap.objs.size:=Heap.lt_size W;have bf:TO<s.heap.objs.size:=Heap.lt_size O;have l1:i1<s.heap.objs.size:=by obtain⟨_,e,_⟩:=h1;exact Heap.lt_size e
  have l2:i2<s.heap.objs.size:=by obtain⟨_,e,_⟩:=h2;exact Heap.lt_size e
  have I1:Inv X pins σ (upd H s.heap.objs.size (.tup [x1,y1])) { s with heap:=s.heap.push { cls:=.type "tuple",data:=.seq #[u1,u2] } } :=
   I.laid (t':=s.toks) (o:=.tup [x1,y1]) (fun b ob q=>Heap.get?_push_of_some _ q) (YL _) ⟨by show 2<=bi;decide,[u1,u2],.cons as (.cons a0 .nil),IsTup.new _ _⟩
  have aF:∀c∈[z,TI,TO,i1,i2],DR X pins (upd H s.heap.objs.size (.tup [x1,y1])) c:=fun c hc=>by
   obtain⟨f0,fr⟩:=hf c hc
   have be:c<s.heap.objs.size:=by
    have J:c=z\/c=TI\/c=TO\/c=i1\/c=i2:=by simpa using hc
    rcases J with rfl | rfl | rfl | rfl | rfl<;>assumption
   exact⟨by rw[Aq (Yt be)];exact f0,fr⟩
  have I2:=I1.turnedL (h':=bb) (t':=s.toks) (ch:=[z,TO,i1,i2]) (fun c o ab e=>by
   have Y:c≠z/\c≠TO/\c≠i1/\c≠i2:=by simpa using ab
   obtain⟨c1,c2,c3,c4⟩:=Y;refine b2.extBut _ _ c1 ?_;by_cases hcs:c=s.heap.objs.size
   ·subst hcs;have e':(s.heap.push { cls:=.type "tuple",data:=.seq #[u1,u2] }).get? s.heap.objs.size=some o:=e;rw[Heap.get?_push_size _ rfl]at e';cases e';exact a5
   ·have e':(s.heap.push { cls:=.type "tuple",data:=.seq #[u1,u2] }).get? c=some o:=e;refine a7 c o c1 c2 c3 c4 ?_;rw[Heap.get?_push_ne _ _ _ hcs]at e'
    exact e') (fun c hc=>aF c (by
     have J:c=z\/c=TO\/c=i1\/c=i2:=by simpa using hc
     rcases J with rfl | rfl | rfl | rfl<;>simp))
  refine⟨.ref s.heap.objs.size,upd H s.heap.objs.size (.tup [x1,y1]),I2,Z,⟨_,x1,y1,hx,hy,I.hok.fresh (YL _),Z,Z⟩,⟨b1,?_,⟨_,_,b2.extBut _ _ D.TOz a2⟩,a3.extBut b2.extBut D.i1z,a4.extBut b2.extBut D.i2z⟩,fun c hc=>(aF c hc).1⟩;exact b2.extBut _ _ D.TIz (a7 _ _ D.TIz D.TITO D.TIi1 D.TIi2 W)
 done:=by
  intro X hP hw hK hc i pins s σ H E I hf st hg;subst hP hw hK;obtain⟨an,ak,hi⟩:=hg;obtain⟨ba,al,p1,_⟩:=I.list an;obtain⟨aC,ap,p2,_⟩:=I.list ak;have e1:=al.length;have e2:=ap.length;obtain⟨hz,W,⟨ta,tb,O⟩,h1,h2⟩:=st
  refine wpAny_pyNext_zip_end (I.ok.hd hc) D hz W O h1 h2 p1.isList p2.isList ?_ fun h' k=>⟨Z,I.turnedL (t':=s.toks) (ch:=[z,TO,i1,i2]) (fun c o ab e=>by
   have Y:c≠z/\c≠TO/\c≠i1/\c≠i2:=by simpa using ab
   exact k c o Y.1 Y.2.1 Y.2.2.1 Y.2.2.2 e) fun c hc=>hf c (by
    have J:c=z\/c=TO\/c=i1\/c=i2:=by simpa using hc
    rcases J with rfl | rfl | rfl | rfl<;>simp)⟩
  by_cases h:xs.length<=i
  ·exact .inl (by rw[bw];simp;lia)
  ·exact .inr (by rw[bw];simp;lia)
 self:=fun _ _ _ _ _ st h=>eQ st.1 h
section
variable {X:Cx}
def Vb(K:Yx)(ta:TA):TI:=fun σ H R=>ta σ H fun vs H1=>∃a b xs ys,vs=[.ref a,.ref b]/\SqL K H1 a xs/\SqL K H1 b ys/\R (Itz K a b xs ys) H1
theorem TM{O:List Expr}{kk}{pos':Pos}{e1 W:Expr}{ta:TA}{p pos:Pos}(hg:Gl X "zip")(hm:X.mg "zip" = none)(ha:PA X [e1,W] ta)(hs:cQ [e1,W] X.env=[(false,dE e1 X.env),(false,dE W X.env)]:=by rfl)(ak:cQ [W] X.env=[(false,dE W X.env)]:=by rfl) :
 PI X (.Tuple O kk pos') (.Call (.Name "zip" p) [e1,W] [] pos) (Vb X.K ta):=by
 intro pins s σ H R I h;refine Call_ (CG I hg hm N7 (PyProof.Rows.callWith_type1 (thn (ha pos pins s σ H _ I h) fun us Y ⟨vs,H1,J,r1,q1⟩=>?_) (by rw[hs,ak]) (by rw[ak];rfl)))
 obtain⟨a,b,xs,ys,e,aC,al,q⟩:=q1;subst e;cases r1 with
 | cons r rr =>
   cases rr with
   | cons r' rr =>
     cases rr;cases r;cases r';obtain⟨ba,bb,p1,_⟩:=J.list aC;obtain⟨a0,bc,p2,_⟩:=J.list al;have la:a<Y.heap.objs.size:=by obtain⟨_,e,_⟩:=p1.isList;exact Heap.lt_size e
     have lb:b<Y.heap.objs.size:=by obtain⟨_,e,_⟩:=p2.isList;exact Heap.lt_size e
     refine call_zip_2 p1.isList p2.isList fun h' hz aF ap an aP hsz hk=>?_;refine eQ (s:={ Y with heap:=h' }) hz ?_
     have D:=zipApart_new la lb;refine⟨Y.heap.objs.size+4,[Y.heap.objs.size+4,Y.heap.objs.size+2,Y.heap.objs.size+3,Y.heap.objs.size,Y.heap.objs.size+1],_,_,H1,Z,J.kept (t':=Y.toks) hk,Pc D xs ys,⟨hz,aF,⟨_,_,ap⟩,an,aP⟩,fun c hc=>?_,q⟩
     have ab:Y.heap.objs.size<=c:=by
      have as:c=Y.heap.objs.size+4\/c=Y.heap.objs.size+2\/c=Y.heap.objs.size+3\/c=Y.heap.objs.size\/c=Y.heap.objs.size+1:=by simpa using hc
      rcases as with rfl | rfl | rfl | rfl | rfl
      ·exact bz _ _
      ·exact bz _ _
      ·exact bz _ _
      ·exact YL _
      ·exact bz _ _
     exact J.fpOk ab (J.hok.fresh ab)
theorem SO(K:Yx){W:List Expr}{kk}{pos':Pos}{e1 Y:Expr}{ta:TA}{p pos:Pos}(hg:Gl X "zip")(hm:X.mg "zip" = none)(ha:PA X [e1,Y] ta)(J:cQ [e1,Y] X.env=[(false,dE e1 X.env),(false,dE Y X.env)]:=by rfl)(O:cQ [Y] X.env=[(false,dE Y X.env)]:=by rfl)(e:X.K=K:=by rfl) :
 PI X (.Tuple W kk pos') (.Call (.Name "zip" p) [e1,Y] [] pos) (Vb K ta):=by subst e;exact TM hg hm ha J O
end
theorem NO{K:Yx}{a b:ad}{xs ys:List V}{g:TG}{tb:TS}{D:DP}{σ:St}{H:Hp}(Y:Nat->St->Hp->Prop)(h0:Y 0 σ H)(hl:∀i σ H,i<=min xs.length ys.length->Y i σ H->SqL K H a xs/\SqL K H b ys)
 (hs:∀i x y T σ H,xs[i]? = some x->ys[i]? = some y->H T=none->Y i σ H->g (.ref T) σ (upd H T (.tup [x,y])) fun J H2=>tb { D with nx:=Y (i+1),ct:=Y (i+1),bk:=D.nx } J H2) (hd:∀σ H,Y (min xs.length ys.length) σ H->D.nx σ H) :
 ∃ W:Nat->Nat->St->Hp->Prop,(∃m,W 0 m σ H)/\∀i m σ H,W i m σ H ->
   ((Itz K a b xs ys).stop i H/\D.nx σ H)\/((Itz K a b xs ys).go i H/\∃N:St->Hp->Prop,(∀O H',N O H'->∃m',m'<m/\W (i+1) m' O H')/\∀x H',(Itz K a b xs ys).yld i H x H'->g x σ H' fun J H2=>tb { D with nx:=N,ct:=N,bk:=D.nx } J H2):=by
 refine⟨fun i m σ H=>m=min xs.length ys.length-i/\i<=min xs.length ys.length/\Y i σ H,⟨min xs.length ys.length,by simp,YN _,h0⟩,?_⟩
 rintro i m σ H ⟨rfl,hi,p⟩;obtain⟨q1,q2⟩:=hl i σ H hi p;by_cases hlt:i<min xs.length ys.length
 ·refine .inr ⟨⟨q1,q2,hlt⟩,Y (i+1),fun O H' p'=>⟨min xs.length ys.length-(i+1),by lia,Z,hlt,p'⟩,fun x H' y=>?_⟩
  obtain⟨T,x1,y1,hx,hy,hT,rfl,rfl⟩:=y;exact hs i x1 y1 T σ _ hx hy hT p
 ·have e:i=min xs.length ys.length:=by lia
  subst e;exact .inl ⟨⟨q1,q2,YL _⟩,hd σ H p⟩
namespace St
open SetTable
def it(mask:Nat):Nat->Nat->Nat
 | 0,i=>i
 | n+1,i=>it mask n ((i*5+1) % (mask+1))
theorem cover7:∀i:Fin 8,∀e:Fin 8,∃m:Fin 8,it 7 m.val i.val=e.val:=by decide +kernel
theorem cover31:∀i:Fin 32,∀e:Fin 32,∃m:Fin 32,it 31 m.val i.val=e.val:=by decide +kernel
theorem cover{mask:Nat}(W:mask=7\/mask=31){i e:Nat}(hi:i<mask+1)(Y:e<mask+1):∃m,m<=mask/\it mask m i=e:=by
 rcases W with rfl | rfl
 ·obtain⟨m,h⟩:=cover7 ⟨i,hi⟩ ⟨e,Y⟩;exact⟨m.val,by lia,h⟩
 ·obtain⟨m,h⟩:=cover31 ⟨i,hi⟩ ⟨e,Y⟩;exact⟨m.val,by lia,h⟩
def bs(mask:Nat)(b:Nat):Nat->Nat×Nat
 | 0=>(b % (mask+1),b)
 | n+1=>leap mask (bs mask b n).1 (bs mask b n).2
theorem bs_pert(mask b:Nat):∀n,(bs mask b n).2=b / 32 ^ n
 | 0=>by show b=b / 1;rw[Nat.div_one]
 | n+1=>by
   show(bs mask b n).2 / 32=_;rw[bs_pert mask b n,Nat.div_div_eq_div_mul,Nat.pow_succ]
theorem bs_lt(mask b:Nat):∀n,(bs mask b n).1<mask+1
 | 0=>Nat.mod_lt _ (aS _)
 | _+1=>Nat.mod_lt _ (aS _)
theorem bits_lt(h:Int):bits h<2 ^ 64:=by
 unfold bits;have h1:(0:Int)<=h % 2 ^ 64:=bA _ (by decide)
 have h2:h % 2 ^ 64<2 ^ 64:=bC _ (by decide)
 lia
theorem bs_late{mask b n:Nat}(W:b<2 ^ 64)(Y:13<=n):(bs mask b n).2=0:=by
 rw[bs_pert];refine Nat.div_eq_of_lt (Yr W ?_);exact Yy (by decide:2 ^ 64<=32 ^ 13) (aD (by decide) Y)
theorem bs_cyc{mask b:Nat}(Y:b<2 ^ 64):∀m n,13<=n->(bs mask b (n+m)).1=it mask m (bs mask b n).1
 | 0,n,_=>rfl
 | m+1,n,hn=>by
   have ih:=bs_cyc (mask:=mask) Y m (n+1) (by lia)
   rw[show n+(m+1)=n+1+m by lia,ih]
   show it mask m (leap mask (bs mask b n).1 (bs mask b n).2).1=it mask m (((bs mask b n).1*5+1) % (mask+1));rw[bs_late Y hn]
   rfl
theorem bs_hits{mask b e:Nat}(W:mask=7\/mask=31)(O:b<2 ^ 64)(Y:e<mask+1):∃n,n<=13+mask/\(bs mask b n).1=e:=by
 obtain⟨m,h1,h2⟩:=cover W (bs_lt mask b 13) Y;exact⟨13+m,by lia,by rw[bs_cyc O m 13 (YL _)];exact h2⟩
def base(mask i pert:Nat):Probe:={ j:=i,more:=runEnd mask i-i,i,perturb:=pert,dummy:=none }
def advs(t:dH):Nat->Probe->Probe
 | 0,p=>p
 | n+1,p=>advs t n (t.advance p)
theorem advs_add(t:dH):∀m n p,advs t (m+n) p=advs t n (advs t m p)
 | 0,n,p=>by rw[bE];rfl
 | m+1,n,p=>by rw[show m+1+n=(m+n)+1 by lia];exact advs_add t m n _
theorem run_le(mask i:Nat):runEnd mask i-i<=9:=by unfold runEnd;split<;>lia
theorem advs_run(t:dH):∀(r j i Y:Nat),advs t (r+1) { j:=j,more:=r,i:=i,perturb:=Y,dummy:=none }=base t.mask (leap t.mask i Y).1 (leap t.mask i Y).2
 | 0,j,i,Y=>rfl
 | r+1,j,i,Y=>by
   have ih:=advs_run t r (j+1) i Y;show advs t (r+1) (t.advance { j:=j,more:=r+1,i:=i,perturb:=Y,dummy:=none })=_;rw[<- ih]
   rfl
theorem reach(t:dH)(h:Int):∀n,∃k,k<=10*n/\advs t k (t.probeStart h)=base t.mask (bs t.mask (bits h) n).1 (bs t.mask (bits h) n).2
 | 0=>⟨0,YL _,Z⟩
 | n+1=>by
   obtain⟨k,hk,e⟩:=reach t h n;refine⟨k+(runEnd t.mask (bs t.mask (bits h) n).1-(bs t.mask (bits h) n).1+1),?_,?_⟩
   ·have:=run_le t.mask (bs t.mask (bits h) n).1
    lia
   ·rw[advs_add,e];exact advs_run t _ _ _ _
theorem slot_empty{t:dH}(Y:t.dummies = #[]){e:Nat}(W:∀i:Nat,t.place[i]? ≠ some e):t.slot e = .empty:=by
 unfold slot
 have h1:(t.place[below t.place e]? == some e)=false:=by
  rw[beq_eq_false_iff_ne];exact W _
 have h2:has t.dummies e=false:=by
  rw[Y];unfold has;rfl
 simp only[h1,h2]
 rfl
theorem slot_cases{t:dH}(Y:t.dummies = #[])(j:Nat):t.slot j = .empty\/∃i,t.slot j = .live i/\t.place[i]? = some j:=by
 by_cases h:t.place[below t.place j]? = some j
 ·refine .inr ⟨below t.place j,?_,h⟩;unfold slot;have h1:(t.place[below t.place j]? == some j)=true:=by rw[h];exact beq_self_eq_true _
  simp only[h1]
  rfl
 ·refine .inl ?_;unfold slot;have h1:(t.place[below t.place j]? == some j)=false:=by rw[beq_eq_false_iff_ne];exact h
  have h2:has t.dummies j=false:=by rw[Y];unfold has;rfl
  simp only[h1,h2]
  rfl
def Hit(t:dH)(k:Nat)(p:Probe):Prop:=t.slot (advs t k p).j = .empty
theorem adv_dummy(t:dH){p:Probe}(h:p.dummy=none):(t.advance p).dummy=none:=by
 unfold advance
 split
 ·exact h
 ·exact h
theorem go_hit{t:dH}(hd:t.dummies = #[]){ha:Nat->Int}{h:Int}:∀(Y k:Nat) (p:Probe),k<Y->p.dummy=none->Hit t k p ->
 (∃j,probe.go t ha h Y p=some (.empty j none))\/∃j i next W,probe.go t ha h Y p=some (.candidate j i next)/\t.slot j = .live i/\t.place[i]? = some j/\next.dummy=none/\Hit t W next/\W<k
 | Y+1,k,p,hk,hp,hh=>by
   unfold probe.go
   rcases slot_cases hd p.j with z | ⟨i,z,zp⟩
   ·rw[z];exact .inl ⟨p.j,by simp only[hp]⟩
   ·rw[z]
    have hk0:∃W,k=W+1:=by
     cases k with
     | zero=>unfold Hit at hh;rw[show advs t 0 p=p from rfl,z]at hh;cases hh
     | succ W=>exact⟨W,Z⟩
    obtain⟨W,rfl⟩:=hk0;have O:Hit t W (t.advance p):=hh;by_cases hq:(ha i == h)=true
    ·refine .inr ⟨p.j,i,t.advance p,W,?_,z,zp,adv_dummy t hp,O,by lia⟩
     simp only[hq]
     rfl
    ·have J:(ha i == h)=false:=by simpa using hq
     simp only[J]
     rcases go_hit hd Y W (t.advance p) (by lia) (adv_dummy t hp) O with ⟨j,e⟩ | ⟨j,i',nx,k2,e,r1,r2,r3,r4,r5⟩
     ·exact .inl ⟨j,e⟩
     ·exact .inr ⟨j,i',nx,k2,e,r1,r2,r3,r4,by lia⟩
theorem nd_le:∀{l m:List Nat},l.Nodup->(∀x,x∈l->x∈m)->l.length<=m.length
 | [],m,_,_=>YN _
 | a::l,m,hn,hs=>by
   rw[Zd]at hn;have ha:=hs a YB;have W:=nd_le (l:=l) (m:=m.erase a) hn.2 fun x Y=>(List.mem_erase_of_ne (fun e:x=a=>hn.1 (e ▸ Y))).mpr (hs x (YC _ Y));rw[List.length_erase_of_mem ha]at W;have:=List.length_pos_of_mem ha;rw[YY];lia
theorem start_hit{t:dH}(hm:t.mask=7\/t.mask=31)(hd:t.dummies = #[])(hs:t.place.size<=t.mask)(h:Int):∃k,k<10*turns t.mask/\Hit t k (t.probeStart h):=by
 have Y:∃e,e<t.mask+1/\∀i:Nat,t.place[i]? ≠ some e:=by
  refine Classical.byContradiction fun hn=>?_
  have W:∀e,e<t.mask+1->e∈t.place.toList:=fun e Y=>by
   refine Classical.byContradiction fun ak=>hn ⟨e,Y,fun i hi=>ak ?_⟩;exact Zn (by rw[Array.getElem?_toList];exact hi)
  have O:(Yu (t.mask+1)).Subset t.place.toList:=fun e Y=>W e (Yw.mp Y);have J:=nd_le (List.nodup_range (n:=t.mask+1)) O;rw[bF,YJ]at J
  lia
 obtain⟨e,ab,al⟩:=Y;obtain⟨n,hn,hb⟩:=bs_hits (b:=bits h) hm (bits_lt h) ab;obtain⟨k,hk,hr⟩:=reach t h n;refine⟨k,?_,?_⟩
 ·unfold turns;lia
 ·unfold Hit;rw[hr];show t.slot (bs t.mask (bits h) n).1=_;rw[hb];exact slot_empty hd al
end St
end L2
namespace L2
open PySem PySem.Spec PyProof.Rows
namespace St
open SetTable
section
variable {prog:ce}{w:db}{K:Type}[DecidableEq K](knd:KeyKind prog w K)
def IsN(h:dw)(ks:List K)(a:ad):Prop:=∃o items n,h.get? a=some o/\o.cls = .type "tuple" /\ o.data = .seq items n/\ItemsAre knd ks items.toList/\∀v∈items.toList,∃k t,v = .int k t
variable {knd}
theorem IsN.key{h:dw}{ks:List K}{a:ad}(x:IsN knd h ks a):IsTupleKey knd h ks a:=let ⟨o,i,n,h1,h2,h3,h4,_⟩:=x;⟨o,i,n,h1,h2,h3,h4⟩
theorem IsN.keep{h h':dw}{ks:List K}{a:ad}(x:IsN knd h ks a)(k:∀o,h.get? a=some o->h'.get? a=some o):IsN knd h' ks a:=let ⟨o,i,n,h1,h2⟩:=x;⟨o,i,n,k o h1,h2⟩
variable {A:dl}{E:am->aI->Prop}{s:aI}
theorem wpAny_seqItemsQ{M:Model}{a:ad}{o:Obj}{items n}{Q:Option (Array am)->aI->Prop}(W:s.heap.get? a=some o)(Y:o.data = .seq items n)(h:Q (some items) s):bv M A (seqItems? (.ref a)) Q E s:=by
 unfold seqItems?;refine ac (wpAny_load W ?_);rw[Y];exact aQ h
theorem hashByValue_n{ks:List K}{a:ad}{Q:Bool->aI->Prop}(hk:IsN knd s.heap ks a)(h:Q true s):bv (cr prog w) A (hashByValue 8 (.ref a)) Q E s:=by
 have J:=hk.key.typeIs;obtain⟨o,items,n,ho,_,hd,hi,Y⟩:=hk;unfold hashByValue;refine ac (fA J F.slot_tuple_hash.lookup ?_);show bv _ _ (seqItems? (.ref a) >>= _) _ _ s;refine ac (wpAny_seqItemsQ ho hd ?_);refine ac ?_;show bv _ _ (forIn items _ _) _ _ s;rw[<- bG];refine wpAny_forIn_list _ (fun CL r s'=>r.1=none/\s'=s/\∀v∈CL,∃k t,v=Value.int k t) _ ?_ ?_ _ _ ⟨Z,Z,Y⟩
 ·rintro v CL r s' ⟨O,rfl,Y⟩;obtain⟨k,t,rfl⟩:=Y v YB;refine ac (m:=hashByValue 7 (.int k t)) (aQ ?_);simp only[Bool.not_true,Bool.false_eq_true,if_false];exact aQ ⟨Z,Z,fun u W=>Y u (YC _ W)⟩
 ·rintro⟨r1,r2⟩ s' ⟨O,rfl,_⟩;simp only at O;subst O;exact aQ h
theorem ofClass_n{ks:List K}{a:ad}{Q:Bool->aI->Prop}(hk:IsN knd s.heap ks a)(h:Q false s):bv (cr prog w) A (fN 8 (.ref a)) Q E s:=by
 have J:=hk.key.typeIs;obtain⟨o,items,n,ho,_,hd,hi,Y⟩:=hk;unfold fN;refine ac (fF J ?_);refine ac (m:=pure true) (aQ ?_);simp only[Bool.not_true,Bool.false_eq_true,if_false];refine ac (wpAny_seqItemsQ ho hd ?_);refine ac ?_;show bv _ _ (forIn items _ _) _ _ s;rw[<- bG];refine wpAny_forIn_list _ (fun CL r s'=>r.1=none/\s'=s/\∀v∈CL,∃k t,v=Value.int k t) _ ?_ ?_ _ _ ⟨Z,Z,Y⟩
 ·rintro v CL r s' ⟨O,rfl,Y⟩;obtain⟨k,t,rfl⟩:=Y v YB;refine ac (m:=fN 7 (.int k t)) (aQ ?_);simp only[Bool.false_eq_true,if_false];exact aQ ⟨Z,Z,fun u W=>Y u (YC _ W)⟩
 ·rintro⟨r1,r2⟩ s' ⟨O,rfl,_⟩;simp only at O;subst O;exact aQ h
def Ns(knd:KeyKind prog w K)(h:dw)(l:List am)(ks:List K):Prop:=∀v∈l,∃b k',v = .ref b/\IsN knd h k' b/\k'≠ks
theorem unseen{ks:List K}{x:ad}{Q:Bool->aI->Prop}(hx:IsN knd s.heap ks x){l:List am}(hl:Ns knd s.heap l ks)(h:Q false s):bv (cr prog w) A (searchCouldBeSeen (.ref x) l) Q E s:=by
 unfold searchCouldBeSeen;refine ac ?_;refine wpAny_forIn_list _ (fun CL r s'=>r.1=none/\s'=s/\Ns knd s.heap CL ks) _ ?_ ?_ _ _ ⟨Z,Z,hl⟩
 ·rintro v CL r s' ⟨hr,rfl,Y⟩;obtain⟨b,k',rfl,J,ak⟩:=Y v YB;have W:Ns knd s'.heap CL ks:=fun u O=>Y u (YC _ O)
  have ab:(x == b)=false:=by
   rw[beq_eq_false_iff_ne];intro e;subst e;exact ak (J.key.inj hx.key)
  have hc:((match (Value.ref x),(Value.ref b) with | .ref a,.ref b=>a == b | _,_=>false)||(fK (.ref x)&&fK (.ref b)))=false:=by
   show((x == b)||(false&&false))=false
   rw[ab];rfl
  show bv _ _ (if ((match (Value.ref x),(Value.ref b) with | .ref a,.ref b=>a == b | _,_=>false)||(fK (.ref x)&&fK (.ref b)))=true then _ else _) _ _ _
  rw[if_neg (by rw[hc];exact Bool.false_ne_true)]
  refine ac (wpAny_eqIsQuiet_tuple hx.key ?_);simp only[Bool.not_true,Bool.false_eq_true,if_false];refine ac (wpAny_eqIsQuiet_tuple J.key ?_);simp only[Bool.not_true,Bool.false_eq_true,if_false];refine ac (ofClass_n hx ?_);simp only[Bool.false_eq_true,if_false];refine ac (ofClass_n J ?_);simp only[Bool.false_eq_true,if_false];exact aQ ⟨Z,Z,W⟩
 ·rintro⟨r1,r2⟩ s' ⟨hr,rfl,_⟩;simp only at hr;subst hr;exact aQ h
theorem search_free{S:ad}{o:Obj}{es:Array (Int×am)}{ep:Nat}{t:dH}(ho:s.heap.get? S=some o)(hd:o.data = .set es ep t)(hf:t.fits es.size=true)(hm:t.mask=7\/t.mask=31)(ak:t.dummies = #[])
 {x:ad} {ks:List K} (hx:IsN knd s.heap ks x) (an:∀e∈es.toList,∃b J,e.2=Value.ref b/\IsN knd s.heap J b/\J≠ks) (hu:A.units<cLine) {h:Int} {Q:SetFound->aI->Prop} (hQ:∀j,Q (.free j false) s) :
 ∀(k F:Nat) (Y:Option Probe),k<F->k<10*turns t.mask->(Y.getD (t.probeStart h)).dummy=none->Hit t k (Y.getD (t.probeStart h))->bv (cr prog w) A (setSearchFrom S (.ref x) h true F Y) Q E s:=by
 intro k
 induction k using Nat.strongRecOn with
 | ind k ih =>
   intro F Y hF hk as hh;obtain⟨F',rfl⟩:∃F',F=F'+1:=⟨F-1,by lia⟩
   unfold setSearchFrom;refine ac (dZ ho hd hf ?_);dsimp only
   have aP:t.gaveWay=false:=by
    unfold gaveWay
    rcases hm with z | z<;>rw[z]<;>rfl
   rw[aP];simp only[Bool.false_eq_true,if_false]
   have bad:∀{ha:Nat->Int},(∀al,t.probe ha h (Y.getD (t.probeStart h))=some al->False)->False:=fun{ha} hn=>by
    rcases go_hit (ha:=ha) (h:=h) ak (10*turns t.mask) k _ hk as hh with ⟨j,e⟩ | ⟨j,i,next,J,e,_⟩
    ·exact hn _ e
    ·exact hn _ e
   split
   ·next al O =>
    rcases go_hit ak (10*turns t.mask) k _ hk as hh with ⟨j,e⟩ | ⟨j,i,next,J,e,r1,r2,r3,r4,r5⟩
    ·have e2:=Yo.inj (e.symm.trans O);subst e2;exact aQ (hQ j)
    ·have e2:=Yo.inj (e.symm.trans O);subst e2;dsimp only
     have ba:t.place.size=es.size:=by
      unfold fits at hf;rw[Bool.and_eq_true]at hf;exact eq_of_beq hf.1
     have aF:i<es.size:=by
      have:=(Array.getElem?_eq_some_iff.mp r2).1
      lia
     obtain⟨h0,y,W⟩:∃h0 y,es[i]? = some (h0,y):=⟨es[i].1,es[i].2,bH aF⟩;obtain⟨b,kb,eb,hb,aC⟩:=an (h0,y) (Zn (by rw[Array.getElem?_toList];exact W))
     have eb:y = .ref b:=eb;subst eb
     have a0:Ns knd s.heap (List.map (fun x=>x.snd) (Array.filter (fun x=>x.fst == h) es).toList) ks:=fun v hv=>by
      obtain⟨e0,ap,rfl⟩:=aX.mp hv;rw[Array.toList_filter]at ap;obtain⟨b',k2,q1,q2,q3⟩:=an e0 (Yv.mp ap).1;exact⟨b',k2,q1,q2,q3⟩
     have ab:t.sameMemory t.moves t.mask=some true:=by unfold sameMemory;rw[if_pos (beq_self_eq_true _)]
     rcases Bool.eq_false_or_eq_true t.led with hl | hl
     ·simp only[hl,Bool.not_true,Bool.false_eq_true,if_false];rw[W];dsimp only;refine ac (dz (wpAny_eqBool_tuple hu hb.key hx.key ?_));rw[decide_eq_false aC];refine ac (dZ ho hd hf ?_);simp only[Bool.and_false,Bool.false_eq_true,if_false,ab,if_true,r1,W];refine ac (wpAny_isSame_ref_self ?_);simp only[if_true];refine ac (aQ ?_);simp only[Bool.false_eq_true,if_false];exact ih J r5 F' (some next) (by lia) (by lia) r3 r4
     ·simp only[hl,Bool.not_false,if_true];refine ac (unseen hx a0 ?_);simp only[Bool.false_eq_true,if_false];rw[W];dsimp only;refine ac (dz (wpAny_eqBool_tuple hu hb.key hx.key ?_));rw[decide_eq_false aC];refine ac (dZ ho hd hf ?_);simp only[Bool.and_false,Bool.false_eq_true,if_false,ab,if_true,r1,W];refine ac (wpAny_isSame_ref_self ?_);simp only[if_true];refine ac (aQ ?_);simp only[Bool.false_eq_true,if_false];exact ih J r5 F' (some next) (by lia) (by lia) r3 r4
   ·next O=>exact(bad O).elim
end
end St
end L2
namespace L2
open PySem PySem.Spec PyProof.Rows
namespace St
open SetTable
theorem free_ok{owner:Array (Option Nat)}{b e:Nat}(W:owner.getD e (some 0)=none):∀(Y m n:Nat),m<Y->(bs 31 b (n+m)).1=e ->
 ∃j,layClean.free 31 owner Y (bs 31 b n).1 (bs 31 b n).2=some j/\owner.getD j (some 0)=none
 | Y+1,m,n,hm,hb=>by
   unfold layClean.free
   split
   ·next k hk =>
    have:=List.find?_some hk;exact⟨_,Z,Option.isNone_iff_eq_none.mp this⟩
   ·next hk =>
    cases m with
    | zero =>
      exfalso;rw[List.find?_eq_none]at hk;have O:(0:Nat)∈Yu (runEnd 31 (bs 31 b n).1+1-(bs 31 b n).1):=Yw.mpr (by unfold runEnd;split<;>lia)
      have h1:=hk 0 O;rw[ZY]at hb h1;rw[hb,W]at h1;exact h1 rfl
    | succ m =>
      obtain⟨j,h1,h2⟩:=free_ok W Y m (n+1) (by lia) (by rw[show n+1+m=n+(m+1) by lia];exact hb)
      exact⟨j,h1,h2⟩
def lv(owner:Array (Option Nat))(j:Nat):Option (Nat×Nat):=(owner.getD j none).map (j,·)
theorem lv_set{owner:Array (Option Nat)}{j k:Nat}(hj:owner.getD j (some 0)=none)(hs:owner.size=32):(((Yu 32).filterMap (lv (owner.setIfInBounds j (some k)))).map (·.2)).Perm (k::((Yu 32).filterMap (lv owner)).map (·.2))/\j<32:=by
 have al:j<32:=by
  refine Nat.lt_of_not_le fun aF=>?_;rw[bI,bw (by lia)]at hj
  cases hj
 refine⟨?_,al⟩
 have W:Yu 32=Yu j++j::(Yu 32).drop (j+1):=by
  have h1:(Yu 32)[j]? = some j:=bJ al;obtain⟨O,hg⟩:=YG.mp h1;have h2:=(List.take_append_drop j (Yu 32)).symm;rw[aT O,hg,List.take_range,Zv (by lia)]at h2
  exact h2
 have J:∀a∈Yu j,lv (owner.setIfInBounds j (some k)) a=lv owner a:=fun a ha=>by
  have:a≠j:=by have:=Yw.mp ha;lia
  unfold lv;rw[bI,bI,bK (Ne.symm this)]
 have an:∀a∈(Yu 32).drop (j+1),lv (owner.setIfInBounds j (some k)) a=lv owner a:=fun a ha=>by
  have:a≠j:=by
   obtain⟨i,hi⟩:=bL ha;rw[ay]at hi;have as:=(YG.mp hi);obtain⟨hl,ap⟩:=as;rw[List.getElem_range]at ap
   lia
  unfold lv;rw[bI,bI,bK (Ne.symm this)]
 have ab:lv (owner.setIfInBounds j (some k)) j=some (j,k):=by
  unfold lv;rw[bI,Array.getElem?_setIfInBounds_self_of_lt (by lia)];rfl
 have ak:lv owner j=none:=by
  unfold lv;rw[bI]at hj ⊢;have O:j<owner.size:=by lia
  rw[bH O]at hj ⊢;show(owner[j]).map _=none;have aC:owner[j]=none:=hj;rw[aC];rfl
 have Y:∀{l:List Nat},(∀a∈l,lv (owner.setIfInBounds j (some k)) a=lv owner a)->l.filterMap (lv (owner.setIfInBounds j (some k)))=l.filterMap (lv owner):=fun{l} h=>by
  induction l with
  | nil=>rfl
  | cons a l ih =>
    rw[YA,YA,h a YB,ih fun b hb=>h b (YC _ hb)]
 rw[W,List.filterMap_append,List.filterMap_append,List.filterMap_cons_some ab,List.filterMap_cons_none ak,Y J,Y an,aj,aj,Z2];exact List.perm_middle
def Own(owner:Array (Option Nat))(k:Nat):Prop:=owner.size=32/\(((Yu 32).filterMap (lv owner)).map (·.2)).Perm (Yu k)
theorem own_free{owner:Array (Option Nat)}{k:Nat}(ho:Own owner k)(hk:k<32):∃e,e<32/\owner.getD e (some 0)=none:=by
 refine Classical.byContradiction fun hn=>?_;have J:∀e,e<32->owner.getD e (some 0)≠none:=fun e he z=>hn ⟨e,he,z⟩;have Y:=ho.2.length_eq;rw[Z4,bF]at Y
 have W:∀a∈Yu 32,(lv owner a).isSome=true:=fun a ha=>by
  have O:=Yw.mp ha;have h1:=J a O;unfold lv;rw[bI]at h1 ⊢;have ab:a<owner.size:=by rw[ho.1];exact O
  rw[bH ab]at h1 ⊢;cases hc:owner[a] with
  | none=>rw[hc]at h1;exact absurd rfl h1
  | some v=>show((some v).map (fun x=>(a,x))).isSome=true;rfl
 have ak:∀{l:List Nat},(∀a∈l,(lv owner a).isSome=true)->(l.filterMap (lv owner)).length=l.length:=fun{l} h=>by
  induction l with
  | nil=>rfl
  | cons a l ih =>
    obtain⟨v,hv⟩:=Option.isSome_iff_exists.mp (h a YB);rw[List.filterMap_cons_some hv,YY,YY,ih fun b hb=>h b (YC _ hb)]
 rw[ak W,bF]at Y
 lia
def stp(acc:Option (Array (Option Nat)×Nat))(h:Int):Option (Array (Option Nat)×Nat):=do
 let (owner,k) <- acc
 let j <- layClean.free 31 owner (turns 31) (bits h % (31+1)) (bits h)
 pure (owner.setIfInBounds j (some k),k+1)
theorem stp_ok{owner:Array (Option Nat)}{k:Nat}(O:Own owner k)(hk:k<32)(h:Int):∃Y,stp (some (owner,k)) h=some (Y,k+1)/\Own Y (k+1):=by
 obtain⟨e,he,hn⟩:=own_free O hk;obtain⟨n,al,ab⟩:=bs_hits (mask:=31) (b:=bits h) (.inr rfl) (bits_lt h) (show e<31+1 by lia)
 obtain⟨j,ak,J⟩:=free_ok (owner:=owner) (b:=bits h) hn (turns 31) n 0 (by unfold turns;lia) (by rw[bE];exact ab)
 have hp:=lv_set (k:=k) J O.1;refine⟨owner.setIfInBounds j (some k),?_,?_,?_⟩
 ·have W:layClean.free 31 owner (turns 31) (bits h % (31+1)) (bits h)=some j:=ak;show(do let j <- layClean.free 31 owner (turns 31) (bits h % (31+1)) (bits h);pure (owner.setIfInBounds j (some k),k+1))=_
  rw[W];rfl
 ·rw[Array.size_setIfInBounds];exact O.1
 ·refine hp.1.trans ?_;rw[show Yu (k+1)=Yu k++[k] from aW];exact(List.Perm.cons k O.2).trans (List.perm_append_comm (l₁:=[k]))
theorem fold_ok:∀(W:List Int) {owner:Array (Option Nat)} {k:Nat},Own owner k->k+W.length<=32->∃Y,W.foldl stp (some (owner,k))=some (Y,k+W.length)/\Own Y (k+W.length)
 | [],owner,k,ho,_=>⟨owner,Z,ho⟩
 | h::W,owner,k,ho,hl=>by
   rw[YY]at hl;obtain⟨o1,e1,ho1⟩:=stp_ok ho (by lia) h
   obtain⟨J,e2,O⟩:=fold_ok W ho1 (by lia)
   refine⟨J,?_,?_⟩
   ·rw[List.foldl_cons,e1,e2,YY,show k+1+W.length=k+(W.length+1) by lia]
   ·rw[YY,show k+(W.length+1)=k+1+W.length by lia];exact O
theorem own_none:Own (bM 32 none) 0:=by
 refine⟨Array.size_replicate,?_⟩;have:(Yu 32).filterMap (lv (bM 32 none))=[]:=by decide +kernel
 rw[this];exact List.Perm.refl _
theorem laid_ok(Y:Array Int)(hn:Y.size<=32)(finger moves:Nat)(led plain:Bool):∃t W,laid 31 finger moves led plain Y=some (t,W)/\t.mask=31/\t.dummies = #[]/\t.place.size=Y.size/\W.toList.Perm (Yu Y.size):=by
 obtain⟨owner,e,ho⟩:=fold_ok Y.toList own_none (by rw[YJ];lia)
 have hc:layClean 31 Y=some owner:=by
  unfold layClean;have e':Y.foldl stp (some (bM 32 none,0))=some (owner,0+Y.toList.length):=by rw[<- Array.foldl_toList];exact e
  have e2:Y.foldl (init:=some (bM (31+1) none,0)) (fun O h=>do
   let (owner,k) <- O
   let j <- layClean.free 31 owner (turns 31) (bits h % (31+1)) (bits h)
   pure (owner.setIfInBounds j (some k),k+1))=some (owner,0+Y.toList.length):=e'
  rw[e2];rfl
 have J:=ho.2;rw[bE,YJ]at J;refine⟨{ mask:=31,place:=(((Yu 32).filterMap (lv owner)).map (·.1)).toArray,dummies:=#[],finger,led,moves,plain },(((Yu 32).filterMap (lv owner)).map (·.2)).toArray,?_,Z,Z,?_,?_⟩
 ·unfold laid;rw[hc]
  rfl
 ·have:=J.length_eq;rw[Z4,bF]at this;show(((Yu 32).filterMap (lv owner)).map (·.1)).toArray.size=_;rw[Zs,Z4];exact this
 ·exact J
end St
end L2
namespace L2
open PySem PySem.Spec PyProof.Rows
namespace St
open SetTable
section
variable {prog:ce}{w:db}{K:Type}[DecidableEq K](knd:KeyKind prog w K)(G:ad->Prop)
def SetN(h:dw)(S:ad)(keys:List (List K)):Prop:=∃o es ep t,h.get? S=some o/\o.ExactSet/\o.data = .set es ep t/\(t.mask=7/\es.size<=4\/t.mask=31)/\t.dummies = #[]/\t.place.size=es.size/\es.size=keys.length /\
 ∀e∈es.toList,∃b k,e.2=Value.ref b/\IsN knd h k b/\k∈keys/\G b
variable {knd}{G}
theorem SetN.keep{h h':dw}{S:ad}{keys:List (List K)}(x:SetN knd G h S keys)(k:∀b o,b=S\/G b->h.get? b=some o->h'.get? b=some o):SetN knd G h' S keys:=by
 obtain⟨o,es,ep,t,h1,h2,h3,h4,h5,O,h7,h8⟩:=x;refine⟨o,es,ep,t,k _ _ (.inl rfl) h1,h2,h3,h4,h5,O,h7,fun e W=>?_⟩;obtain⟨b,J,q1,q2,q3,Y⟩:=h8 e W;exact⟨b,J,q1,q2.keep fun o e=>k _ o (.inr Y) e,q3,Y⟩
variable {A:dl}{E:am->aI->Prop}{s:aI}
theorem insert_size{Y:Type}(xs:Array Y)(p:Nat)(x:Y):(insertAt xs p x).size=xs.size+1:=by
 have h:=(SetTable.insertAt_perm xs p x).length_eq;rw[YJ,YJ,bO]at h;exact h
theorem keep_but{h h':dw}{S:ad}(sb:Heap.SameBut S h h'){ks:List K}{b:ad}{o:Obj}{es ep t}(O:h.get? S=some o)(hd:o.data = .set es ep t)(x:IsN knd h ks b):IsN knd h' ks b:=by
 obtain⟨o',items,n,h1,h2,W,h4⟩:=id x
 have Y:b≠S:=by
  rintro rfl;rw[O]at h1;cases h1;rw[hd]at W;cases W
 exact x.keep fun J e=>(sb.2 b Y).trans e
theorem add_tail{S:ad}{o:Obj}{es:Array (Int×am)}{ep:Nat}{t:dH}(ho:s.heap.get? S=some o)(bd:o.ExactSet)(hd:o.data = .set es ep t){es1:Array (Int×am)}{t1:dH}{keys:List (List K)}
 (be:t1.mask=7/\es1.size<=5\/t1.mask=31) (bb:t1.dummies = #[]) (ap:t1.place.size=es1.size) (hn:es1.size=keys.length) (bc:es1.size<=17) (bp:∀e∈es1.toList,∃b k,e.2=Value.ref b/\IsN knd s.heap k b/\k∈keys/\G b) {m:Nat} (hm:m=es1.size) {Q:Bool->aI->Prop}
 (h:∀h',Heap.SameBut S s.heap h'->SetN knd G h' S keys->Q true { s with heap:=h' }) :
 bv (cr prog w) A (do storeSet S es1 t1;if (!false&&t1.tooFull)=true then do { setRelay S (grown m);pure true } else pure true) Q E s:=by
 refine ac (wpAny_storeSet_of ho hd ?_ (Yy bc (by decide)))
 have ak:(s.heap.update S (Obj.putSet es1 t1)).get? S=some { o with data:=.set es1 (ep+1) t1 }:=by
  have:=Heap.get?_update_self (Obj.putSet es1 t1) ho (by rw[putSet_of _ _ hd];rfl)
  rw[putSet_of _ _ hd]at this;exact this
 have al:Heap.SameBut S s.heap (s.heap.update S (Obj.putSet es1 t1)):=Heap.SameBut.update ..;generalize s.heap.update S (Obj.putSet es1 t1)=h1 at ak al ⊢
 have an:∀e∈es1.toList,∃b k,e.2=Value.ref b/\IsN knd h1 k b/\k∈keys/\G b:=fun e he=>by
  obtain⟨b,k,q1,q2,q3,q4⟩:=bp e he;exact⟨b,k,q1,keep_but al ho hd q2,q3,q4⟩
 have aP:SetTable.fill t1=es1.size:=by unfold SetTable.fill;rw[bb,ap];rfl
 by_cases hfull:t1.tooFull=true
 ·have ba:es1.size*5 ≥ t1.mask*3:=by
   unfold tooFull at hfull;rw[aP]at hfull;exact of_decide_eq_true hfull
  have as:t1.mask=7/\es1.size=5:=by
   rcases be with z | z
   ·rw[z.1]at ba;exact⟨z.1,by lia⟩
   ·rw[z]at ba;lia
  simp only[hfull,Bool.not_false,Bool.and_self,if_true];refine ac ?_;unfold setRelay
  have aF:t1.fits es1.size=true:=by
   unfold fits;rw[aP,ap,as.1,as.2];rfl
  refine ac (dZ (s:={ s with heap:=h1 }) (o:={ o with data:=.set es1 (ep+1) t1 }) ak rfl aF ?_)
  dsimp only;have bq:grown m=20:=by rw[hm,as.2];rfl
  have bf:sizeAbove 20=32:=by decide
  rw[bq,bf,if_neg (by decide)]
  have bl:t1.relaid (es1.map (·.1)) 20=laid 31 t1.finger (t1.movedTo 31) t1.led t1.plain (es1.map (·.1)):=by
   unfold relaid;rw[bf]
  obtain⟨t2,W,el,bm,bh,a0,eo⟩:=laid_ok (es1.map (·.1)) (by rw[Array.size_map];lia) t1.finger (t1.movedTo 31) t1.led t1.plain
  rw[Array.size_map]at a0 eo
  have ab:(W.filterMap (es1[·]?)).toList.Perm es1.toList:=by
   rw[Array.toList_filterMap];have:=eo.filterMap (fun i=>es1[i]?);rw[filterMap_getElem?_range]at this;exact this
  have O:(W.filterMap (es1[·]?)).size=es1.size:=by
   have:=ab.length_eq;rw[YJ,YJ]at this;exact this
  rw[bl,el];refine ac ?_;show bv _ _ (if ((W.filterMap (es1[·]?)).size != es1.size)=true then _ else pure (W.filterMap (es1[·]?),t2)) _ _ _;rw[if_neg (by rw[O];simp)]
  refine aQ ?_;generalize W.filterMap (es1[·]?)=J at ab O ⊢;refine wpAny_storeSet_of (s:={ s with heap:=h1 }) (o:={ o with data:=.set es1 (ep+1) t1 }) ak rfl ?_ (by rw[O];exact Yy bc (by decide))
  have bt:(h1.update S (Obj.putSet J t2)).get? S=some { o with data:=.set J (ep+1+1) t2 }:=by
   have:=Heap.get?_update_self (Obj.putSet J t2) ak (by rw[putSet_of (es:=es1) (ep:=ep+1) (t:=t1) _ _ rfl];rfl)
   rw[putSet_of (es:=es1) (ep:=ep+1) (t:=t1) _ _ rfl]at this;exact this
  have aC:Heap.SameBut S h1 (h1.update S (Obj.putSet J t2)):=Heap.SameBut.update ..
  have bg:∀e∈J.toList,∃b k,e.2=Value.ref b/\IsN knd (h1.update S (Obj.putSet J t2)) k b/\k∈keys/\G b:=fun e he=>by
   obtain⟨b,k,q1,q2,q3,q4⟩:=an e (ab.mem_iff.mp he);exact⟨b,k,q1,keep_but (es:=es1) (ep:=ep+1) (t:=t1) aC ak rfl q2,q3,q4⟩
  refine aQ (h (h1.update S (Obj.putSet J t2)) ⟨aC.1.trans al.1,fun b hb=>(aC.2 b hb).trans (al.2 b hb)⟩ ⟨_,_,_,_,bt,bd,Z,.inr bm,bh,by rw[a0,O],by rw[O];exact hn,bg⟩)
 ·have Y:t1.tooFull=false:=by simpa using hfull
  simp only[Y,Bool.and_false,Bool.false_eq_true,if_false];refine aQ (h h1 al ⟨_,_,_,_,ak,bd,Z,?_,bb,ap,hn,an⟩)
  rcases be with z | z
  ·refine .inl ⟨z.1,?_⟩;unfold tooFull at Y;rw[aP,z.1]at Y;have bx:=of_decide_eq_false Y
   lia
  ·exact .inr z
theorem add_n{S x:ad}{ks:List K}{keys:List (List K)}{W:Int}{Q:Bool->aI->Prop}(hS:SetN knd G s.heap S keys)(hx:IsN knd s.heap ks x)(bc:G x)(bh:ks∉keys)(hl:keys.length<=16)(hu:A.units<cLine)
 (h:∀h',Heap.SameBut S s.heap h'->SetN knd G h' S (ks::keys)->Q true { s with heap:=h' }):bv (cr prog w) A (setAddHashed S (.ref x) W) Q E s:=by
 obtain⟨o,es,ep,t,ho,be,hd,aF,J,ak,hn,a0⟩:=hS;have hm:t.mask=7\/t.mask=31:=aF.elim (fun z=>.inl z.1) .inr;have hsz:es.size<=t.mask:=by rcases aF with z | z<;>lia
 have bl:SetTable.fill t=es.size:=by unfold SetTable.fill;rw[J,ak];rfl
 have O:t.fits es.size=true:=by
  unfold fits;rw[bl,ak];simp;exact hsz
 have bf:∀e∈es.toList,∃b k',e.2=Value.ref b/\IsN knd s.heap k' b/\k'≠ks:=fun e he=>by
  obtain⟨b,k,q1,q2,q3,_⟩:=a0 e he;exact⟨b,k,q1,q2,fun z=>bh (z ▸ q3)⟩
 unfold setAddHashed setAddHashedIn;refine dz (ac (dZ ho hd O ?_));dsimp only;have bd:byScan (.ref x) es=false:=rfl;rw[bd];simp only[Bool.false_eq_true,if_false];obtain⟨k,aC,bb⟩:=start_hit hm J (by rw[ak];exact hsz) W
 have bg:k<100000:=by
  unfold turns at aC
  rcases hm with z | z<;>rw[z]at aC<;>lia
 refine ac (m:=setSearch S (.ref x) W true) (search_free ho hd O hm J hx bf hu (fun j=>?_) k 100000 none bg aC rfl bb);dsimp only;refine ac (dZ ho hd O ?_);dsimp only
 have ab:(t.put j).1={ t with place:=insertAt t.place (t.put j).2 j }:=by
  unfold put;have hz:has t.dummies j=false:=by rw[J];unfold has;rfl
  simp only[hz,Bool.false_eq_true,if_false]
 have al:(t.put j).1.place.size=es.size+1:=by rw[ab];show(insertAt _ _ _).size=_;rw[insert_size,ak]
 have ap:(t.put j).1.dummies = #[]:=by rw[ab];exact J
 have an:(t.put j).1.mask=t.mask:=by rw[ab]
 generalize(t.put j).1=t1 at al ap an ⊢;generalize(t.put j).2=p;have Y:(insertAt es p (W,Value.ref x)).size=es.size+1:=insert_size _ _ _
 have ba:∀e∈(insertAt es p (W,Value.ref x)).toList,∃b k,e.2=Value.ref b/\IsN knd s.heap k b/\k∈ks::keys/\G b:=fun e he=>by
  have aP:=(SetTable.insertAt_perm es p (W,Value.ref x)).mem_iff.mp he;rw[Array.toList_push]at aP
  rcases YE.mp aP with z | z
  ·obtain⟨b,k,q1,q2,q3,q4⟩:=a0 e z;exact⟨b,k,q1,q2,YC _ q3,q4⟩
  ·rw[aA.mp z];exact⟨x,ks,Z,hx,YB,bc⟩
 have as:=add_tail (knd:=knd) (G:=G) (A:=A) (E:=E) (Q:=Q) ho be hd (es1:=insertAt es p (W,Value.ref x)) (t1:=t1) (keys:=ks::keys) (by rw[an,Y];rcases aF with z | z;exact .inl ⟨z.1,by lia⟩;exact .inr z) ap (by rw[al,Y]) (by rw[Y,hn];rfl) (by rw[Y];lia) ba (m:=es.size+1) (by rw[Y]) h
 split
 ·refine ac (hashByValue_n hx ?_);simp only[if_true];exact as
 ·refine ac (aQ ?_);simp only[if_true];exact as
end
end St
end L2
namespace L2
open PySem PySem.Spec PyProof.Rows
namespace St
section
variable {prog:ce}{w:db}{K:Type}[DecidableEq K]{knd:KeyKind prog w K}{G:ad->Prop}{A:dl}{R:Result->aI->Prop}{I:ad}{fp wr:List ad}{GG:Array GenState->Array GenState->Prop}{n:Nat}{P:Nat->am->Prop}{St:Nat->aI->Prop}
def ksAt(key:Nat->List K):Nat->List (List K)
 | 0=>[]
 | i+1=>key i::ksAt key i
theorem ksAt_length(key:Nat->List K):∀i,(ksAt key i).length=i
 | 0=>rfl
 | i+1=>by show(ksAt key i).length+1=i+1;rw[ksAt_length key i]
theorem ksAt_mem{Y:Nat->List K}{k:List K}:∀{i},k∈ksAt Y i->∃j,j<i/\Y j=k
 | i+1,h=>by
   rcases YD.mp h with z | z
   ·exact⟨i,Z6 _,z.symm⟩
   ·obtain⟨j,h1,h2⟩:=ksAt_mem z;exact⟨j,az h1,h2⟩
theorem turn_of{S:ad}{s:aI} (hz:bv (cr prog w) A.in1 (Builtin.«set.update.loop» ⟨[.ref S,.ref I],[]⟩)
 (fun Y s'=>match Y with | .done f=>R (.ok f) s' | .again c'=>c'.quiet=true/\eC (cr prog w) A c' R s') (fun e s'=>R (.error e) s') s) :
 eC (cr prog w) A (.builtin "set.update.loop" ⟨[.ref S,.ref I],[]⟩) R s :=
 fB F.entry_set_update_loop ((Around.under_plainId F.plain_set_update_loop (A:=A) ⟨[.ref S,.ref I],[]⟩).symm ▸ hz)
theorem loop_n(W:WalksS prog w A.in1 I fp wr GG n P St)(S:ad)(aP:S∉fp)(Y:Nat->List K)(J:Nat->ad)(as:∀i v,P i v->v=Value.ref (J i))(hG:∀i,i<n->G (J i))(aC:∀b,G b->b∉wr/\b≠S)
 (a0:∀i j,i<n->j<n->Y i=Y j->i=j) (hn:n<=17) (hu:A.units+1<cLine) (left i:Nat) (s:aI) (hk:i+left=n) (aF:St i s) (hN:∀j,j<n->IsN knd s.heap (Y j) (J j)) (hS:SetN knd G s.heap S (ksAt Y i))
 (hR:∀s',Moved (S::wr) GG s s'->SetN knd G s'.heap S (ksAt Y n)->R (.ok (.ret .none)) s'):eC (cr prog w) A (.builtin "set.update.loop" ⟨[.ref S,.ref I],[]⟩) R s:=by
 have al:∀{a b:aI},Moved wr GG a b->Moved (S::wr) GG a b:=fun m=>m.mono fun _=>YC _;have ab:∀{a b:aI},Moved wr GG a b->∀c o,c=S\/G c->a.heap.get? c=some o->b.heap.get? c=some o:=fun m c o hc=>m.heap c o (hc.elim (fun z=>z ▸ mt (W.sub _) aP) fun z=>(aC c z).1)
 induction left generalizing i s with
 | zero =>
   obtain rfl:i=n:=by lia
   refine turn_of (show bv (cr prog w) A.in1 (ff (Value.ref I) >>= _) _ _ s from ac (W.done s _ _ aF fun s' m=>?_));exact aQ (hR s' (al m) (hS.keep (ab m)))
 | succ left ih =>
   have ak:i<n:=by lia
   refine turn_of (show bv (cr prog w) A.in1 (ff (Value.ref I) >>= _) _ _ s from ac (W.item i s _ _ ak aF fun v s' hP ap m=>?_));obtain rfl:=as i v hP;have an:∀j,j<n->IsN knd s'.heap (Y j) (J j):=fun j hj=>(hN j hj).keep fun o e=>ab m _ o (.inr (hG j hj)) e;have ba:SetN knd G s'.heap S (ksAt Y i):=hS.keep (ab m);refine ac (m:=holding [Value.ref (J i)] (setAdd S (Value.ref (J i)))) (dz ?_);unfold setAdd;refine dz (ac (wpAny_pyHash_tuple hu (an i ak).key ?_));refine add_n (knd:=knd) (G:=G) (s:={ s' with toks:=s'.toks+((Y i).length+1) }) ba (an i ak) (hG i ak) (fun z=>?_) (by rw[ksAt_length];lia) hu fun h' sb bd=>?_
   ·obtain⟨j,j1,j2⟩:=ksAt_mem z;have:=a0 j i (by lia) ak j2
    lia
   have O:∀c o,c≠S->s'.heap.get? c=some o->h'.get? c=some o:=fun c o hc e=>(sb.2 c hc).trans e;refine aQ ⟨plainId_quiet F.plain_set_update_loop _,ih (i+1) _ (by lia) (W.frame _ s' _ _ ap (bz _ _) fun b hb o e=>O b o (fun z=>aP (z ▸ hb)) e) (fun j hj=>(an j hj).keep fun o e=>O _ o (aC _ (hG j hj)).2 e) bd fun bb m2 bc=>?_⟩
   exact hR bb (((al m).then_heap (bz _ _) fun b o hb e=>O b o (fun z=>hb (z ▸ YB)) e).trans W.gtrans m2) bc
end
section
variable {prog:ce}{w:db}{K:Type}[DecidableEq K]{knd:KeyKind prog w K}{A:dl}{E:am->aI->Prop}{s:aI}
abbrev nS(led:Bool):Obj:={ cls:=.type "set",dict:=none,data:=.set #[] 0 (.fresh 0 0 led) }
abbrev nI(l:ad):Obj:={ cls:=.type "list_iterator",data:=.fields #[.ref l,.int 0 0] }
theorem init_n{l:ad}{items:Array am}(Y:Bool)(W:Nat->List K)(O:Nat->ad)(hh:A.handled=none)(hl:s.heap.IsList l items)(hv:∀(i:Nat) (v:am),items[i]? = some v->v=Value.ref (O i))(hN:∀j,j<items.size->IsN knd s.heap (W j) (O j))
 (ab:∀i j,i<items.size->j<items.size->W i=W j->i=j) (hb:items.size<=17) (hu:A.units+20<cLine) {Q:Fin->aI->Prop} {E':am->aI->Prop}
 (h:∀(h':dw) (tk:Nat),SetN knd (fun b=>b<s.heap.objs.size) h' s.heap.objs.size (ksAt W items.size)->(∀b o,s.heap.get? b=some o->h'.get? b=some o)->Q (.done (.ret .none)) { s with heap:=h',toks:=tk }) :
 bv (cr prog w) A (Builtin.«set.__init__» ⟨[.ref s.heap.objs.size,.ref l],[]⟩) Q E' { s with heap:=s.heap.push (nS Y) }:=by
 have lS:l<s.heap.objs.size:=by obtain⟨_,e,_⟩:=hl;exact Heap.lt_size e
 obtain⟨⟨_,od,_,aF⟩,el,hc,nl,hd⟩:=id hl;simp only at hc hd;subst hc hd;have aC:(s.heap.push (nS Y)).get? l=some { cls:=.type "list",dict:=od,data:=.seq items nl,slots:=aF }:=Heap.get?_push_of_some _ el;have eS:(s.heap.push (nS Y)).get? s.heap.objs.size=some (nS Y):=Heap.get?_push_size _ rfl;have ak:(s.heap.push (nS Y)).IsList l items:=⟨_,aC,Z,nl,Z⟩;have t1:=F.sub_list_set;have t2:=F.sub_list_frozenset;have t3:(Value.type "list" == Value.type "dict")=false:=by decide
 unfold Builtin.«set.__init__» noKeywords Builtin.Frozenset.updateFrom;generalize ap:pyIter=PI;wp_walk;subst ap;have zS:(s.heap.push (nS Y)).objs.size=s.heap.objs.size+1:=Heap.size_push ..;refine eJ ak (ac (wpAny_runValue ?_));have up:∀b o,s.heap.get? b=some o->((s.heap.push (nS Y)).push (nI l)).get? b=some o:=fun b o e=>Heap.get?_push_of_some _ (Heap.get?_push_of_some _ e);have lI:l≠(s.heap.push (nS Y)).objs.size:=by rw[zS];exact Yt (az lS)
 refine loop_n (knd:=knd) (G:=fun b=>b<s.heap.objs.size) ((Walks.list (A:=A.in1) hh _ l lI items).toS) s.heap.objs.size ?_ W O (fun i v hP=>hv i v hP) (fun i hi=>?_) (fun b hb=>⟨?_,Yt hb⟩) ab hb (by lia) items.size 0 _ (bE _)
  ⟨⟨_,Heap.get?_push_size _ rfl,Z,Z⟩,ak.push _⟩ (fun j hj=>(hN j hj).keep fun o e=>up _ _ e) ⟨_,_,_,_,Heap.get?_push_of_some _ eS,⟨Z,Z,Z⟩,Z,.inl ⟨Z,YN _⟩,Z,Z,Z,(fun e he=>by simp at he)⟩ ?_
 ·rw[zS];intro J
  rcases YD.mp J with z | z
  ·exact absurd z (Yt (Z6 _))
  ·exact absurd (aA.mp z) (YK lS)
 ·obtain⟨_,_,_,e,_⟩:=hN i hi;exact Heap.lt_size e
 ·rw[zS];intro J;exact absurd (aA.mp J) (Yt (az hb))
 rintro⟨h',g',d',as,an⟩ m al;obtain rfl:g'=s.gens:=m.gens;obtain rfl:d'=s.drawn:=m.drawn;obtain rfl:an=s.os:=m.os;refine aQ (aQ (h h' as al fun b o e=>?_));have lb:=Heap.lt_size e;refine m.heap b o (fun J=>?_) (up b o e);rw[zS]at J
 rcases YD.mp J with z | z
 ·exact absurd z (Yt lb)
 ·exact absurd (aA.mp z) (Yt (az lb))
theorem call_setN{l:ad}{items:Array am}{Q:am->aI->Prop}(O:Nat->List K)(ak:Nat->ad)(hh:A.handled=none)(hl:s.heap.IsList l items)(hv:∀(i:Nat) (v:am),items[i]? = some v->v=Value.ref (ak i))(hN:∀j,j<items.size->IsN knd s.heap (O j) (ak j))
 (an:∀i j,i<items.size->j<items.size->O i=O j->i=j) (hb:items.size<=17) (hu:A.units+40<cLine)
 (h:∀(h':dw) (tk:Nat),SetN knd (fun b=>b<s.heap.objs.size) h' s.heap.objs.size (ksAt O items.size)->(∀b o,s.heap.get? b=some o->h'.get? b=some o)->Q (.ref s.heap.objs.size) { s with heap:=h',toks:=tk }) :
 bv (cr prog w) A (call (.type "set") [.ref l]) Q E s:=by
 obtain⟨_,_,as⟩:=F.called_set.mro;have m1:=F.called_set.made;have m2:=F.called_set.sub;have m3:=F.called_set.notType;have m4:=F.called_set.canCreate;have m5:=F.typeCall_set_1 (.ref l);refine wpAny_call (codeAny_of_tree (show bv _ _ (callAny (.type "set") _) _ _ _ from aQ ⟨Code.quiet_builtin _ (by decide +kernel),fB F.entry_type_call ?_⟩))
 rw[Around.under_plain (weight_type_call_type "set" [.ref l] []) rfl]
 repeat any_goals first | assumption | wp_step
 refine eO (code_set_new_1 (.ref l) (E:=E) (Q₁:=fun v J=>v = .ref s.heap.objs.size/\∃W,J={ s with heap:=s.heap.push (nS W) }) fun W=>⟨rfl,W,rfl⟩) fun r J hr=>?_
 rcases r with e | fl
 ·exact hr
 cases fl with
 | ret v =>
   obtain⟨e1,W,e2⟩:=hr;subst e1 e2;have hT:Shared.TypeIs { s with heap:=s.heap.push (nS W) } (.ref s.heap.objs.size) "set":=⟨_,Heap.get?_push_size _ rfl,rfl⟩
   have m6:=F.called_set.init.lookup;have m7:=F.called_set.init.bind (.ref s.heap.objs.size)
   repeat any_goals first | assumption | wp_step
   refine eO (codeAny_call_builtin (R:=wants (fun r ab=>r = .none/\Q (.ref s.heap.objs.size) ab) E) F.called_set.init.plain F.entry_set_init (check_set_init_1 hT ?_)) fun ap ab Y=>?_
   ·refine init_n (knd:=knd) W O ak ?_ hl hv hN an hb ?_ fun h' tk hS hk=>?_
    ·simp[hh]
    ·simp only[Around.in1];lia
    ·exact⟨Z,h h' tk hS hk⟩
   ·rcases ap with e | al
    ·exact Y
    cases al with
    | ret _ =>
      obtain⟨e3,q⟩:=Y;subst e3
      repeat any_goals first | assumption | wp_step
    | _=>exact Y.elim
 | _=>exact hr.elim
end
end St
theorem UB:dy "set" = some (.type "set"):=by decide +kernel
def Rc(p:ad)(n:Nat):HO:=.ext fun h=>∃o es ep t,h.get? p=some o/\o.ExactSet/\o.data = .set es ep t/\SetTable.fits t es.size=true/\es.size=n
theorem Ur{P:ce}{w:db}{H:Hp}{h:dw}{a:ad}{q:Rat}(ok:HOk P w H h)(e:H a=some (nT q)):St.IsN (C7 P w) h (kQ q) a:=by
 obtain⟨_,Y,O,o,ho,hc,n,hd⟩:=ok a _ e;refine⟨o,Y.toArray,n,ho,hc,hd,J6 (ks:=kQ q) O,fun v J=>?_⟩;have W:v∈Y:=by simpa using J
 cases O with
 | cons r1 rr =>
   cases rr with
   | cons r2 rr =>
     cases rr;obtain⟨t1,rfl⟩:=r1;obtain⟨t2,rfl⟩:=r2
     rcases YD.mp W with z | z
     ·exact⟨_,_,z⟩
     ·exact⟨_,_,aA.mp z⟩
section
variable {X:Cx}
inductive Q3(K:Yx)(xs:List V)(H:Hp)(Q:VK):Prop
 | mk (l:ad) (ys:List V) (qs:List Rat) (h1:xs=[.ref l]) (h2:SqL K H l ys) (h3:Am H ys qs) (h4:qs.Nodup) (h5:qs.length<=17) (h6:∀p,H p=none->Q (.ref p) (upd H p (Rc p qs.length))):Q3 K xs H Q
theorem OS(hc:X.calm=true)(hu:X.A.units+64<cLine):Cp X (.type "set") (Q3 X.K):=by
 intro pins s σ H xs us Q I r h;obtain⟨l,ys,qs,rfl,hq,hn,ap,as,q⟩:=h;obtain⟨u,rfl,rfl⟩:=Es r;obtain⟨W,rv,p,hz⟩:=I.list hq;have hl:=rv.length;have aC:=hn.length;have hsz:W.toArray.size=qs.length:=by rw[Zs];lia
 let adr:Nat->ad:=fun j=>match ys[j]? with | some (.ref r)=>r | _=>0
 have ak:∀j,j<qs.length->∃r,ys[j]? = some (.ref r)/\adr j=r/\H r=some (nT (qs.getD j 0)):=fun j Y=>by
  have g:qs[j]? = some (qs.getD j 0):=by rw[aw,aB Y];rfl
  obtain⟨y,hy,r,rfl,J⟩:=Paired.get' hn g;exact⟨r,hy,by show(match ys[j]? with | some (.ref r)=>r | _=>0)=r;rw[hy],J⟩
 refine St.call_setN (knd:=C7 X.prog X.w) (fun j=>kQ (qs.getD j 0)) adr (I.ok.hd hc) p.isList (fun i v hv=>?_) (fun j Y=>?_) (fun i j hi Y e=>?_) (by lia) (by lia) fun h' tk hS hk=>?_
 ·have ab:W[i]? = some v:=by simpa using hv
  have hi:i<W.length:=(YG.mp ab).1;obtain⟨r,hy,J,_⟩:=ak i (by lia)
  obtain⟨u,al,ru⟩:=rv.get hy;rw[ab]at al;cases al;rw[J];exact ru
 ·rw[hsz]at Y;obtain⟨r,_,J,hH⟩:=ak j Y;rw[J];exact Ur I.hok hH
 ·rw[hsz]at hi Y;have e':=Um e;have g1:qs[i]? = some (qs.getD i 0):=by rw[aw,aB hi];rfl
  have g2:qs[j]? = some (qs.getD j 0):=by rw[aw,aB Y];rfl
  exact(List.getElem?_inj hi ap).mp (by rw[g1,g2,e'])
 ·obtain⟨o,es,ep,t,h1,h2,h3,h4,h5,h6,h7,_⟩:=hS;rw[St.ksAt_length,hsz]at h7
  have O:SetTable.fits t es.size=true:=by
   unfold SetTable.fits SetTable.fill;rw[h5,h6]
   rcases h4 with z | z<;>simp<;>lia
  have an:BH X.prog X.w (upd H s.heap.objs.size (Rc s.heap.objs.size qs.length)) h' s.heap.objs.size (Rc s.heap.objs.size qs.length):=by
   refine⟨⟨o,es,ep,t,h1,h2,h3,O,h7⟩,⟨o,h1⟩,fun g1 g2 hg hk=>?_⟩;obtain⟨o,es,ep,t,k1,k2,k3,k4,k5⟩:=hg;exact⟨o,es,ep,t,hk o k1,k2,k3,k4,k5⟩
  exact⟨.ref s.heap.objs.size,_,I.laid (t':=tk) hk (YL _) an,Z,q _ (I.hok.fresh (YL _))⟩
theorem VF(K:Yx)(W:X.calm=true)(Y:X.A.units+64<cLine)(e:X.K=K:=by rfl):Cp X (.type "set") (Q3 K):=by subst e;exact OS W Y
theorem OT:Cp X (.builtin "len") (fun xs H Q=>∃(p:ad) (n:Nat),xs=[.ref p]/\H p=some (Rc p n)/\n<=1000/\Q (.int (n:Int)) H):=by
 intro pins s σ H xs us Q I r h;obtain⟨p,n,rfl,Y,hn,q⟩:=h;obtain⟨u,rfl,rfl⟩:=Es r;obtain⟨⟨o,es,ep,t,h1,h2,J,O,W⟩,_⟩:=I.hok p _ Y;subst W;exact call_len_set h1 h2 J O (by lia) ⟨.int _,H,I.tok _,⟨_,Z⟩,q⟩
end
section
open PySem.W
variable {X:Cx}(K:Yx)
inductive T7(xs:List V)(H:Hp)(Q:VK):Prop
 | mk (a:_) (t:_) (tp:_) (ys:_) (cs:_) (b:_) (h1:xs=[.ref a,.ref tp]) (h2:((∃zs,SqT K H a zs)/\t=Value.type "tuple" \/ (∃zs,SqL K H a zs)/\t=Value.type "list")) (h3:H tp=some (.tup ys)) (h4:ys.map UA=cs.map some) (h5:kitAny K t cs=some b) (h6:Q (.bl b) H):T7 xs H Q
theorem VI(e:X.K=K:=by rfl):Cp X (.builtin "isinstance") (T7 K):=by
 subst e;intro pins s σ H xs us Q I r h;obtain⟨a,t,tp,ys,cs,b,rfl,ht,O,Y,hk,q⟩:=h;obtain⟨u,w',rfl,rx,ry⟩:=P6 r;cases rx;cases ry;obtain⟨_,ab,rv,⟨cc,dd,dt,sl⟩,e1,J,n,e3⟩:=I.hok tp _ O;have J:cc = .type "tuple":=J;have e3:dt = .seq ab.toArray n:=e3;subst J e3;rw[Jb rv Y]at e1
 rcases ht with ⟨⟨zs,hz⟩,rfl⟩ | ⟨⟨zs,hz⟩,rfl⟩
 ·obtain⟨_,_,⟨o,o1,W,_⟩,_⟩:=I.tuple hz;exact kia_tup kitx_tuple I.kIn ⟨o,o1,W⟩ e1 hk (fun z=>nomatch z) fun tk=>⟨.bl b,H,I.tok _,Z,q⟩
 ·obtain⟨_,_,⟨o,_,o1,W,_⟩,_⟩:=I.list hz;exact kia_tup kitx_list I.kIn ⟨o,o1,W⟩ e1 hk (fun z=>nomatch z) fun tk=>⟨.bl b,H,I.tok _,Z,q⟩
theorem Uh:kitAny K (.type "list") [.type "list",.type "tuple"]=some true:=by kernel_rfl
theorem Ug:kitAny K (.type "tuple") [.type "list",.type "tuple"]=some true:=by kernel_rfl
end
end L2
namespace L2
open PySem PySem.Spec PyProof.Rows
structure Vw(X:Cx)(N:List Str)(nt:Nat)(js:List Nat)(scope:dJ)(x:Str):Prop where
 kind:scope.kind = .function
 split:∃pre post,scope.names=pre++(x,.cell)::post/\(∀y∈pre,y.2 ≠ .cell)/\∀y∈post,y.2 ≠ .cell
 only:∀y∈scope.names,y.2 = .cell->y.1=x
 lx:scope.names.lookup x=some .cell
 names:∀y∈scope.names,y.2 = .local->scope.names.lookup y.1=some .local
 free:∀y∈scope.names,y.2 = .free->X.env.kindOf y.1=some .cell\/X.env.kindOf y.1=some .free
 len:N.length=nt+js.length
 outer:∀j i,js[j]? = some i->∃x,N[nt+j]? = some x/\X.N[i]? = some x/\scope.names.lookup x=some .free
section
variable {X:Cx}{N:List Str}{nt:Nat}{js:List Nat}{scope:dJ}{cl:List (Str×ad)}{x:Str}{c:ad}
end
section
variable {X:Cx}{N:List Str}{nt:Nat}{js:List Nat}{scope:dJ}{elt iter tg:Expr}{ifs:List Expr}{pos:Pos}{g:TG}{tc:TT}{te:TE}{wi:TI}{xn:Str}
end
def V0(scope sc:dJ):dJ:={ scope with names:=scope.names.map fun(n,k)=>if (k == .free&&sc.kind == .function&&sc.names.lookup n == some .cell) then (n,.cell) else (n,k) }
@[reducible] def Cl(u:Yx->TS)(K:Yx):TS:=u K
theorem Aa{X:Cx}{st:eU}{CL:List eU}{t v:TS}{K:Yx}{u:Yx->TS}(h1:PS X st t)(h2:PSs X CL v)(e:v=u K):PSs X (st::CL) (UP t (Cl u K)):=by
 subst e;exact Q9 h1 h2
section
variable {X:Cx}{o e:Expr}{es:List Expr}{to:TE}{t:TA}{name:Str}{apos cpos:Pos}{T id:String}{r:V->List V->Hp->VK->Prop}
theorem BA(K:Yx)(pa:PlainAttrs T)(J:Slot T name id)(ak:typeOf (.builtin id)=pure (.type "method_descriptor"))(hm:MtR X id r)(ho:PE X o to)(ha:PA X (e::es) t)
 (O:eI o name X.env (dE o X.env)=dE o X.env:=by rfl)
 (ab:((dU cpos (cQ (e::es) X.env)).all (fun x=>!x.1)&&(fS cpos (fc [] X.env)).all (fun x=>x.1.isSome)
  && decide ((e::es).length+([]:List fL).length+(if ([]:List fL).isEmpty then 0 else 1)<30))=true:=by rfl)
 (W:(apos.endLine == cpos.line)=true:=by rfl) (hs:cQ (e::es) X.env=(false,dE e X.env)::cQ es X.env:=by rfl) (Y:(dU cpos (cQ es X.env)).any (·.1)=false:=by rfl) (eK:X.K=K:=by rfl) :
 PE X (.Call (.Attribute o name apos) (e::es) [] cpos) (tBM K T r to t):=V9 pa J ak hm ho ha O ab W hs Y eK
end
theorem Bi{c:Bool}{A B:Prop}(e:c=true)(h:A):if c=true then A else B:=by
 rw[if_pos e];exact h
theorem AM{c:Bool}{A B:Prop}(e:c=false)(h:B):if c=true then A else B:=by
 rw[if_neg (by rw[e];decide)];exact h
theorem BM{Y:Type}{l:List Y}{n:Nat}(h:l.length=n+1):∃a r,l=a::r/\r.length=n:=by
 cases l with
 | nil=>cases h
 | cons a r=>exact⟨a,r,Z,Nat.succ.inj h⟩
theorem Fun.binds1{K:Yx}{x qual:Str}{st:eU}{f:ad}{fd:bn}(p1:Str)(F:Fun K x qual st f fd)
 (h:∀(kV W O:am) (J:Option ad) (Y ct a1:am),eX (Zq x qual (Br st) (Bf st) (Ad st) .none kV W O J Y ct) ⟨[a1],[]⟩=pure [(p1,a1)]):Be K fd [p1] [] :=
 F.binds fun kV W O J Y ct us l0=>by
  obtain⟨a1,r1,rfl,l1⟩:=BM l0;cases bP.mp l1;exact h kV W O J Y ct a1
theorem Fun.binds2{K:Yx}{x qual:Str}{st:eU}{f:ad}{fd:bn}(p1 p2:Str)(F:Fun K x qual st f fd)
 (h:∀(kV W O:am) (J:Option ad) (Y ct a1 a2:am),eX (Zq x qual (Br st) (Bf st) (Ad st) .none kV W O J Y ct) ⟨[a1,a2],[]⟩=pure [(p1,a1),(p2,a2)]):Be K fd [p1,p2] [] :=
 F.binds fun kV W O J Y ct us l0=>by
  obtain⟨a1,r1,rfl,l1⟩:=BM l0;obtain⟨a2,r2,rfl,l2⟩:=BM l1;cases bP.mp l2;exact h kV W O J Y ct a1 a2
theorem Fun.binds3{K:Yx}{x qual:Str}{st:eU}{f:ad}{fd:bn}(p1 p2 p3:Str)(F:Fun K x qual st f fd)
 (h:∀(kV W O:am) (J:Option ad) (Y ct a1 a2 a3:am),eX (Zq x qual (Br st) (Bf st) (Ad st) .none kV W O J Y ct) ⟨[a1,a2,a3],[]⟩=pure [(p1,a1),(p2,a2),(p3,a3)]):Be K fd [p1,p2,p3] [] :=
 F.binds fun kV W O J Y ct us l0=>by
  obtain⟨a1,r1,rfl,l1⟩:=BM l0;obtain⟨a2,r2,rfl,l2⟩:=BM l1;obtain⟨a3,r3,rfl,l3⟩:=BM l2;cases bP.mp l3;exact h kV W O J Y ct a1 a2 a3
theorem Fun.binds4{K:Yx}{x qual:Str}{st:eU}{f:ad}{fd:bn}(p1 p2 p3 p4:Str)(F:Fun K x qual st f fd)
 (h:∀(kV W O:am) (J:Option ad) (Y ct a1 a2 a3 a4:am),eX (Zq x qual (Br st) (Bf st) (Ad st) .none kV W O J Y ct) ⟨[a1,a2,a3,a4],[]⟩=pure [(p1,a1),(p2,a2),(p3,a3),(p4,a4)]):Be K fd [p1,p2,p3,p4] [] :=
 F.binds fun kV W O J Y ct us l0=>by
  obtain⟨a1,r1,rfl,l1⟩:=BM l0;obtain⟨a2,r2,rfl,l2⟩:=BM l1;obtain⟨a3,r3,rfl,l3⟩:=BM l2;obtain⟨a4,r4,rfl,l4⟩:=BM l3;cases bP.mp l4;exact h kV W O J Y ct a1 a2 a3 a4
@[reducible] def L1{α1:Type}{δ:Type}(x1:α1)(u:α1->δ):δ:=u x1
@[reducible] def L2{α1 α2:Type}{δ:Type}(x1:α1)(x2:α2)(u:α1->α2->δ):δ:=u x1 x2
@[reducible] def L3{α1 α2 α3:Type}{δ:Type}(x1:α1)(x2:α2)(x3:α3)(u:α1->α2->α3->δ):δ:=u x1 x2 x3
@[reducible] def L4{α1 α2 α3 α4:Type}{δ:Type}(x1:α1)(x2:α2)(x3:α3)(x4:α4)(u:α1->α2->α3->α4->δ):δ:=u x1 x2 x3 x4
@[reducible] def L5{α1 α2 α3 α4 α5:Type}{δ:Type}(x1:α1)(x2:α2)(x3:α3)(x4:α4)(x5:α5)(u:α1->α2->α3->α4->α5->δ):δ:=u x1 x2 x3 x4 x5
@[reducible] def L6{α1 α2 α3 α4 α5 α6:Type}{δ:Type}(x1:α1)(x2:α2)(x3:α3)(x4:α4)(x5:α5)(x6:α6)(u:α1->α2->α3->α4->α5->α6->δ):δ:=u x1 x2 x3 x4 x5 x6
@[reducible] def L7{α1 α2 α3 α4 α5 α6 α7:Type}{δ:Type}(x1:α1)(x2:α2)(x3:α3)(x4:α4)(x5:α5)(x6:α6)(x7:α7)(u:α1->α2->α3->α4->α5->α6->α7->δ):δ:=u x1 x2 x3 x4 x5 x6 x7
@[reducible] def L8{α1 α2 α3 α4 α5 α6 α7 α8:Type}{δ:Type}(x1:α1)(x2:α2)(x3:α3)(x4:α4)(x5:α5)(x6:α6)(x7:α7)(x8:α8)(u:α1->α2->α3->α4->α5->α6->α7->α8->δ):δ:=u x1 x2 x3 x4 x5 x6 x7 x8
@[reducible] def L9{α1 α2 α3 α4 α5 α6 α7 α8 α9:Type}{δ:Type}(x1:α1)(x2:α2)(x3:α3)(x4:α4)(x5:α5)(x6:α6)(x7:α7)(x8:α8)(x9:α9)(u:α1->α2->α3->α4->α5->α6->α7->α8->α9->δ):δ:=u x1 x2 x3 x4 x5 x6 x7 x8 x9
@[reducible] def L10{α1 α2 α3 α4 α5 α6 α7 α8 α9 α10:Type}{δ:Type}(x1:α1)(x2:α2)(x3:α3)(x4:α4)(x5:α5)(x6:α6)(x7:α7)(x8:α8)(x9:α9)(x10:α10)(u:α1->α2->α3->α4->α5->α6->α7->α8->α9->α10->δ):δ:=u x1 x2 x3 x4 x5 x6 x7 x8 x9 x10
@[reducible] def L11{α1 α2 α3 α4 α5 α6 α7 α8 α9 α10 α11:Type}{δ:Type}(x1:α1)(x2:α2)(x3:α3)(x4:α4)(x5:α5)(x6:α6)(x7:α7)(x8:α8)(x9:α9)(x10:α10)(x11:α11)(u:α1->α2->α3->α4->α5->α6->α7->α8->α9->α10->α11->δ):δ:=u x1 x2 x3 x4 x5 x6 x7 x8 x9 x10 x11
@[reducible] def L12{α1 α2 α3 α4 α5 α6 α7 α8 α9 α10 α11 α12:Type}{δ:Type}(x1:α1)(x2:α2)(x3:α3)(x4:α4)(x5:α5)(x6:α6)(x7:α7)(x8:α8)(x9:α9)(x10:α10)(x11:α11)(x12:α12)(u:α1->α2->α3->α4->α5->α6->α7->α8->α9->α10->α11->α12->δ):δ:=u x1 x2 x3 x4 x5 x6 x7 x8 x9 x10 x11 x12
@[reducible] def L13{α1 α2 α3 α4 α5 α6 α7 α8 α9 α10 α11 α12 α13:Type}{δ:Type}(x1:α1)(x2:α2)(x3:α3)(x4:α4)(x5:α5)(x6:α6)(x7:α7)(x8:α8)(x9:α9)(x10:α10)(x11:α11)(x12:α12)(x13:α13)(u:α1->α2->α3->α4->α5->α6->α7->α8->α9->α10->α11->α12->α13->δ):δ:=u x1 x2 x3 x4 x5 x6 x7 x8 x9 x10 x11 x12 x13
@[reducible] def L14{α1 α2 α3 α4 α5 α6 α7 α8 α9 α10 α11 α12 α13 α14:Type}{δ:Type}(x1:α1)(x2:α2)(x3:α3)(x4:α4)(x5:α5)(x6:α6)(x7:α7)(x8:α8)(x9:α9)(x10:α10)(x11:α11)(x12:α12)(x13:α13)(x14:α14)(u:α1->α2->α3->α4->α5->α6->α7->α8->α9->α10->α11->α12->α13->α14->δ):δ:=u x1 x2 x3 x4 x5 x6 x7 x8 x9 x10 x11 x12 x13 x14
@[reducible] def L15{α1 α2 α3 α4 α5 α6 α7 α8 α9 α10 α11 α12 α13 α14 α15:Type}{δ:Type}(x1:α1)(x2:α2)(x3:α3)(x4:α4)(x5:α5)(x6:α6)(x7:α7)(x8:α8)(x9:α9)(x10:α10)(x11:α11)(x12:α12)(x13:α13)(x14:α14)(x15:α15)(u:α1->α2->α3->α4->α5->α6->α7->α8->α9->α10->α11->α12->α13->α14->α15->δ):δ:=u x1 x2 x3 x4 x5 x6 x7 x8 x9 x10 x11 x12 x13 x14 x15
@[reducible] def L16{α1 α2 α3 α4 α5 α6 α7 α8 α9 α10 α11 α12 α13 α14 α15 α16:Type}{δ:Type}(x1:α1)(x2:α2)(x3:α3)(x4:α4)(x5:α5)(x6:α6)(x7:α7)(x8:α8)(x9:α9)(x10:α10)(x11:α11)(x12:α12)(x13:α13)(x14:α14)(x15:α15)(x16:α16)(u:α1->α2->α3->α4->α5->α6->α7->α8->α9->α10->α11->α12->α13->α14->α15->α16->δ):δ:=u x1 x2 x3 x4 x5 x6 x7 x8 x9 x10 x11 x12 x13 x14 x15 x16
@[reducible] def L17{α1 α2 α3 α4 α5 α6 α7 α8 α9 α10 α11 α12 α13 α14 α15 α16 α17:Type}{δ:Type}(x1:α1)(x2:α2)(x3:α3)(x4:α4)(x5:α5)(x6:α6)(x7:α7)(x8:α8)(x9:α9)(x10:α10)(x11:α11)(x12:α12)(x13:α13)(x14:α14)(x15:α15)(x16:α16)(x17:α17)(u:α1->α2->α3->α4->α5->α6->α7->α8->α9->α10->α11->α12->α13->α14->α15->α16->α17->δ):δ:=u x1 x2 x3 x4 x5 x6 x7 x8 x9 x10 x11 x12 x13 x14 x15 x16 x17
@[reducible] def L18{α1 α2 α3 α4 α5 α6 α7 α8 α9 α10 α11 α12 α13 α14 α15 α16 α17 α18:Type}{δ:Type}(x1:α1)(x2:α2)(x3:α3)(x4:α4)(x5:α5)(x6:α6)(x7:α7)(x8:α8)(x9:α9)(x10:α10)(x11:α11)(x12:α12)(x13:α13)(x14:α14)(x15:α15)(x16:α16)(x17:α17)(x18:α18)(u:α1->α2->α3->α4->α5->α6->α7->α8->α9->α10->α11->α12->α13->α14->α15->α16->α17->α18->δ):δ:=u x1 x2 x3 x4 x5 x6 x7 x8 x9 x10 x11 x12 x13 x14 x15 x16 x17 x18
@[reducible] def L19{α1 α2 α3 α4 α5 α6 α7 α8 α9 α10 α11 α12 α13 α14 α15 α16 α17 α18 α19:Type}{δ:Type}(x1:α1)(x2:α2)(x3:α3)(x4:α4)(x5:α5)(x6:α6)(x7:α7)(x8:α8)(x9:α9)(x10:α10)(x11:α11)(x12:α12)(x13:α13)(x14:α14)(x15:α15)(x16:α16)(x17:α17)(x18:α18)(x19:α19)(u:α1->α2->α3->α4->α5->α6->α7->α8->α9->α10->α11->α12->α13->α14->α15->α16->α17->α18->α19->δ):δ:=u x1 x2 x3 x4 x5 x6 x7 x8 x9 x10 x11 x12 x13 x14 x15 x16 x17 x18 x19
@[reducible] def L20{α1 α2 α3 α4 α5 α6 α7 α8 α9 α10 α11 α12 α13 α14 α15 α16 α17 α18 α19 α20:Type}{δ:Type}(x1:α1)(x2:α2)(x3:α3)(x4:α4)(x5:α5)(x6:α6)(x7:α7)(x8:α8)(x9:α9)(x10:α10)(x11:α11)(x12:α12)(x13:α13)(x14:α14)(x15:α15)(x16:α16)(x17:α17)(x18:α18)(x19:α19)(x20:α20)(u:α1->α2->α3->α4->α5->α6->α7->α8->α9->α10->α11->α12->α13->α14->α15->α16->α17->α18->α19->α20->δ):δ:=u x1 x2 x3 x4 x5 x6 x7 x8 x9 x10 x11 x12 x13 x14 x15 x16 x17 x18 x19 x20
@[reducible] def L21{α1 α2 α3 α4 α5 α6 α7 α8 α9 α10 α11 α12 α13 α14 α15 α16 α17 α18 α19 α20 α21:Type}{δ:Type}(x1:α1)(x2:α2)(x3:α3)(x4:α4)(x5:α5)(x6:α6)(x7:α7)(x8:α8)(x9:α9)(x10:α10)(x11:α11)(x12:α12)(x13:α13)(x14:α14)(x15:α15)(x16:α16)(x17:α17)(x18:α18)(x19:α19)(x20:α20)(x21:α21)(u:α1->α2->α3->α4->α5->α6->α7->α8->α9->α10->α11->α12->α13->α14->α15->α16->α17->α18->α19->α20->α21->δ):δ:=u x1 x2 x3 x4 x5 x6 x7 x8 x9 x10 x11 x12 x13 x14 x15 x16 x17 x18 x19 x20 x21
@[reducible] def L22{α1 α2 α3 α4 α5 α6 α7 α8 α9 α10 α11 α12 α13 α14 α15 α16 α17 α18 α19 α20 α21 α22:Type}{δ:Type}(x1:α1)(x2:α2)(x3:α3)(x4:α4)(x5:α5)(x6:α6)(x7:α7)(x8:α8)(x9:α9)(x10:α10)(x11:α11)(x12:α12)(x13:α13)(x14:α14)(x15:α15)(x16:α16)(x17:α17)(x18:α18)(x19:α19)(x20:α20)(x21:α21)(x22:α22)(u:α1->α2->α3->α4->α5->α6->α7->α8->α9->α10->α11->α12->α13->α14->α15->α16->α17->α18->α19->α20->α21->α22->δ):δ:=u x1 x2 x3 x4 x5 x6 x7 x8 x9 x10 x11 x12 x13 x14 x15 x16 x17 x18 x19 x20 x21 x22
@[reducible] def L23{α1 α2 α3 α4 α5 α6 α7 α8 α9 α10 α11 α12 α13 α14 α15 α16 α17 α18 α19 α20 α21 α22 α23:Type}{δ:Type}(x1:α1)(x2:α2)(x3:α3)(x4:α4)(x5:α5)(x6:α6)(x7:α7)(x8:α8)(x9:α9)(x10:α10)(x11:α11)(x12:α12)(x13:α13)(x14:α14)(x15:α15)(x16:α16)(x17:α17)(x18:α18)(x19:α19)(x20:α20)(x21:α21)(x22:α22)(x23:α23)(u:α1->α2->α3->α4->α5->α6->α7->α8->α9->α10->α11->α12->α13->α14->α15->α16->α17->α18->α19->α20->α21->α22->α23->δ):δ:=u x1 x2 x3 x4 x5 x6 x7 x8 x9 x10 x11 x12 x13 x14 x15 x16 x17 x18 x19 x20 x21 x22 x23
@[reducible] def L24{α1 α2 α3 α4 α5 α6 α7 α8 α9 α10 α11 α12 α13 α14 α15 α16 α17 α18 α19 α20 α21 α22 α23 α24:Type}{δ:Type}(x1:α1)(x2:α2)(x3:α3)(x4:α4)(x5:α5)(x6:α6)(x7:α7)(x8:α8)(x9:α9)(x10:α10)(x11:α11)(x12:α12)(x13:α13)(x14:α14)(x15:α15)(x16:α16)(x17:α17)(x18:α18)(x19:α19)(x20:α20)(x21:α21)(x22:α22)(x23:α23)(x24:α24)(u:α1->α2->α3->α4->α5->α6->α7->α8->α9->α10->α11->α12->α13->α14->α15->α16->α17->α18->α19->α20->α21->α22->α23->α24->δ):δ:=u x1 x2 x3 x4 x5 x6 x7 x8 x9 x10 x11 x12 x13 x14 x15 x16 x17 x18 x19 x20 x21 x22 x23 x24
theorem Ay{X:Cx}{c:Expr}{a b:List eU}{pos:Pos}{tc:TT}{J Y:TS}{K:Yx}{W O:Yx->TS}(hc:PT X c tc)(ha:PSs X a J)(hb:PSs X b Y)(e1:J=W K)(e2:Y=O K):PS X (.If c a b pos) (UU tc (Cl W K) (Cl O K)):=by
 subst e1;subst e2;exact V6 hc ha hb
theorem B0{X:Cx}{tg iter:Expr}{body:List eU}{wi:TI}{g:TG}{v:TS}{pos:Pos}{K:Yx}{u:Yx->TS}(W:PassesOwn (cr X.prog X.w) X.A X.env X.xe)(hc:X.calm=true)(hi:PI X tg iter wi)(J:PG X tg g)(Y:PSs X body v)(e:v=u K)
 (O:∀x,fh iter X.env x=pure x:=by intro _;rfl):PS X (.For tg iter body [] pos) (To wi g (Cl u K)):=by
 subst e;exact TJ W hc hi J Y O
theorem Qp{a b c d:Nat}(h1:a=c)(h2:b=d):((a:Int)-(b:Int)).toNat=c-d:=by rw[h1,h2];exact Int.toNat_sub c d
theorem E8{a b:Nat}(h:a=b):((a:Int)-1).toNat=b-1:=Qp (b:=1) h rfl
theorem Oy{a b c d:Nat}(h1:a=c)(h2:b=d)(_h:1<=d):((a:Int)+(b:Int)-1).toNat=c+d-1:=by
 rw[h1,h2,<- Int.natCast_add];exact E8 rfl
theorem Qo{a b:Nat}(h:1<=b):((a:Int)+(b:Int)-1).toNat=a+b-1:=Oy rfl rfl h
theorem Ox{a b m:Nat}(h1:a<=m)(h2:b<=m):((a:Int)+(b:Int)-1).toNat<=2*m:=by
 rw[<- Int.natCast_add,E8 rfl,Nat.two_mul];exact Yy (Zy _ _) (Nat.add_le_add h1 h2)
theorem Qq{a b i:Nat}(h:a=b)(hi:i<b):(a:Int)-1-(i:Int)=((b-1-i:Nat):Int):=by
 rw[h,Int.ofNat_sub (show i<=b-1 from Nat.le_pred_of_lt hi),Int.ofNat_sub (show 1<=b from ZI (YN i) hi)]
 rfl
theorem U6{b i:Nat}(hi:i<b):b-1-i<b:=ZI (Zy _ _) (Nat.sub_lt (ZI (YN i) hi) Nat.one_pos)
theorem S7{a b:Nat}(h:a=b):((a:Int)-1 - -1).toNat=b:=by
 rw[h,Int.sub_neg,Int.sub_add_cancel];exact Zt b
theorem S9{a k m t b:Nat}(ha:a<=200)(hk:k<m-1)(W:m=2\/m=3)(e:a=t):t+min k b<=204:=by
 rw[<- e]
 have Y:k<=4:=by
  rcases W with rfl | rfl
  ·exact Yy (Yz hk) (by decide)
  ·exact Yy (Yz hk) (by decide)
 exact Nat.add_le_add ha (Yy (Nat.min_le_left _ _) Y)
theorem S8{a m:Nat}(ha:a<=200)(Y:m=2\/m=3):a+(m-1)*1<=300:=by
 rcases Y with rfl | rfl
 ·exact Yy (bQ ha _) (by decide)
 ·exact Yy (bQ ha _) (by decide)
theorem S6{a m:Nat}(h:a=m)(Y:m=2\/m=3):((a:Int)-1).toNat<=2:=by
 rw[E8 h]
 rcases Y with rfl | rfl<;>decide
theorem U7{i j a b n:Nat}(hi:i<a)(Y:j<b)(h:n=a+b-1):i+j<n:=by
 rw[h];refine Nat.lt_sub_of_add_lt ?_;rw[Nat.add_right_comm];exact Nat.add_lt_add_of_le_of_lt hi Y
def GP(f:ad)(fd:bn):HO:=.ext fun h=>h.get? f=some { cls:=.type "function",data:=.func fd }
def Gr(c:ad)(o:Obj):HO:=.ext fun h=>h.get? c=some o
def Kl(c:ad)(q:Str):HO:=.ext fun h=>h.CodeRec (.ref c) q
def offC(cs:List ad)(H:Hp):Hp:=fun b=>if b∈cs then none else H b
def onC(cs:List ad)(H0 H:Hp):Hp:=fun b=>if b∈cs then H0 b else H b
theorem FZ{cs:List ad}{H:Hp}{b:ad}(h:b∈cs):offC cs H b=none:=if_pos h
theorem C6{cs:List ad}{H:Hp}{b:ad}(h:b∉cs):offC cs H b=H b:=if_neg h
theorem SR{cs:List ad}{Y H:Hp}{b:ad}(h:b∈cs):onC cs Y H b=Y b:=if_pos h
theorem E6{cs:List ad}{Y H:Hp}{b:ad}(h:b∉cs):onC cs Y H b=H b:=if_neg h
theorem E7{cs:List ad}{H:Hp}{b:ad}(h:H b=none):offC cs H b=none:=by
 unfold offC;split
 ·rfl
 ·exact h
section
variable {P:ce}{w:db}{fs cs:List ad}{H H':Hp}{h h':dw}
theorem Un.onC(u:Un fs [] (offC cs H) H' h h')(hc:∀c∈cs,∃o,H c=some (Gr c o)):Un fs [] H (onC cs H H') h h':=by
 have no:∀{b:ad} {o:HO},H b=some o->(∀c W,o≠Gr c W)->b∉cs:=fun{b o} e J Y=>by
  obtain⟨W,q⟩:=hc b Y;rw[e]at q;exact J b W (Yo.inj q)
 refine⟨fun b o e n Y O=>u.keep b o e (E7 n) Y O,fun b o e n Y O=>u.slot b o e (E7 n) Y O,fun b o e n O=>?_,u.there,fun b xs e=>?_,fun b o v e=>?_,fun b ps e=>?_⟩
 ·have Y:b∉cs:=fun z=>by obtain⟨W,q⟩:=hc b z;rw[n]at q;cases q
  rw[E6 Y];exact u.free b o e (E7 n) O
 ·have Y:=no e fun c W z=>by cases z
  rw[E6 Y];exact u.tups b xs (by rw[C6 Y];exact e)
 ·have Y:=no e fun c W z=>by cases z
  rw[E6 Y];exact u.frzs b o v (by rw[C6 Y];exact e)
 ·have Y:=no e fun c W z=>by cases z
  rw[E6 Y];exact u.tbls b ps (by rw[C6 Y];exact e)
theorem HOk.onC(ok:HOk P w H h)(u:Un fs [] (offC cs H) H' h h')(Y:HOk P w H' h')(hc:∀c∈cs,∃o,H c=some (Gr c o))(J:∀c∈cs,H' c=none)(hf:∀c∈cs,c∉fs):HOk P w (onC cs H H') h':=fun b o e=>by
 by_cases hb:b∈cs
 ·rw[SR hb]at e;obtain⟨W,q⟩:=hc b hb;rw[q]at e;cases e;obtain⟨p,_,st⟩:=ok b _ q;have p':h.get? b=some W:=p;have k:=u.keep b W p' (FZ hb) (hf b hb) (by simp)
  exact⟨k,⟨W,k⟩,st⟩
 ·rw[E6 hb]at e;have O:∀{c:ad} {v:HO},H' c=some v->c∉cs:=fun{c v} q z=>by rw[J c z]at q;cases q
  exact(Y b o e).stay (fun _ _ _ q=>q) (fun c q=>by rw[E6 (O q)];exact q) fun c xs q=>by rw[E6 (O q)];exact q
theorem HOk.offC(ok:HOk P w H h)(hc:∀c∈cs,∃o,H c=some (Gr c o)):HOk P w (offC cs H) h:=fun b o e=>by
 by_cases hb:b∈cs
 ·rw[FZ hb]at e;cases e
 ·rw[C6 hb]at e
  have J:∀{c:ad} {v:HO},H c=some v->(∀d Y,v≠Gr d Y)->c∉cs:=fun{c v} q W z=>by
   obtain⟨Y,O⟩:=hc c z;rw[q]at O;exact W c Y (Yo.inj O)
  exact(ok b o e).stay (fun _ _ _ q=>q) (fun c q=>by rw[C6 (J q fun d Y z=>by cases z)];exact q) fun c xs q=>by rw[C6 (J q fun d Y z=>by cases z)];exact q
end
def NW(CX:CXT)(P:ce)(w:db)(K:Yx)(mg:Str->Option am)(base:dw)(N:List Str)(qual:Str)(scope:dJ)(f:ad)(cd:am)(cl:List (Str×ad))(A:dl)(outer:List Env)(s:aI)(H:Hp)(E:XK):Cx where
 prog:=P
 w:=w
 K:=K
 mg:=mg
 base:=base
 A:=A.deeper (bR qual scope s.heap.objs.size f cd cl)
 N:=N
 s₀:=s
 H₀:=H
 env:=bR qual scope s.heap.objs.size f cd cl
 outer:=outer
 stack:=bR qual scope s.heap.objs.size f cd cl::outer
 ex:=[]
 calm:=true
 fn:=fun _=>false
 pn:=[]
 xe:=fun e s'=>bv (cr P w) (A.deeper (bR qual scope s.heap.objs.size f cd cl)) (leaving (bR qual scope s.heap.objs.size f cd cl) e) (fun _ s''=>CX outer H s E e s'') (fun e' s''=>CX outer H s E e' s'') s'
structure LY(H:Hp)(scope:dJ)(N ps:List Str)(cl:List (Str×ad))(σ:St)(vs:List V):Prop where
 kind:scope.kind = .function
 co:scope.isCoroutine=false
 gen:scope.isGenerator=false
 nocell:∀x∈scope.names,x.2 ≠ .cell
 par:∀p∈ps,scope.names.lookup p=some .local
 inj:∀x y c,cl.lookup x=some c->cl.lookup y=some c->x=y
 has:∀x,scope.names.lookup x=some .free->∃c,cl.lookup x=some c
 len:σ.length=N.length
 cel:∀p∈cl,∃(o:Obj) (v:Option am),H p.2=some (Gr p.2 o)/\o.data = .cell v
 val:∀(i:Nat) (x:Str) (v:V),N[i]? = some x->σ[i]? = some (some v) ->
  (scope.names.lookup x=some .local/\∃j:Nat,ps[j]? = some x/\vs[j]? = some v)\/(scope.names.lookup x=some .free/\∃c o u,cl.lookup x=some c/\H c=some (Gr c o)/\o.data = .cell (some u)/\AJ v u)
theorem LY.cells{H:Hp}{scope:dJ}{N ps:List Str}{cl:List (Str×ad)}{σ:St}{vs:List V}(S:LY H scope N ps cl σ vs):∀c∈cl.map (·.2),∃o,H c=some (Gr c o):=fun c Y=>by
 obtain⟨p,W,rfl⟩:=aX.mp Y;obtain⟨o,v,e,_⟩:=S.cel p W;exact⟨o,e⟩
theorem Sg{CX:CXT}{P:ce}{w:db}{K:Yx}{mg:Str->Option am}{base:dw}{N ps:List Str}{qual:Str}{scope:dJ}{f:ad}{cd:am}{cl:List (Str×ad)}{A:dl}{outer:List Env}{s:aI}{H:Hp}{E:XK}{us:List am}{vs:List V}{σ:St}{h1:dw}
 (S:LY H scope N ps cl σ vs) (hd:A.handled=none) (W:IQ P w K mg base A outer s H) (r:AF vs us) (an:∀(j:Nat) (x:Str) (u:am),ps[j]? = some x->us[j]? = some u->(ps.zip us).reverse.lookup x=some u)
 (ak:h1.Ns s.heap.objs.size fun x=>(ps.zip us).reverse.lookup x) (hk:∀b o,s.heap.get? b=some o->h1.get? b=some o) (tk:Nat) :
 Inv (NW CX P w K mg base N qual scope f cd cl A outer s (offC (cl.map (·.2)) H) E) [] σ (offC (cl.map (·.2)) H) { s with heap:=h1,toks:=tk }:=by
 have ab:=S.cells;have J:=W.hok.offC ab;have O:∀b:ad,b∉(NW CX P w K mg base N qual scope f cd cl A outer s (offC (cl.map (·.2)) H) E).ex:=fun b z=>absurd (show b∈([]:List ad) from z) (by simp)
 have al:∀{x:Str} {c:ad},cl.lookup x=some c->c∈cl.map (·.2):=fun h=>bS (f:=(·.2)) (PySem.mem_of_lookup h)
 have Y:∀{x:Str} {c:ad},cl.lookup x=some c->∀o,H c=some (Gr c o)->h1.get? c=some o:=fun{x c} h o q=>by
  obtain⟨p,_,_⟩:=W.hok c _ q;exact hk c o p
 refine⟨⟨W.mod,S.kind,Z,Z,YL _,S.inj,fun y hy=>?_,fun y c h=>?_,fun _=>hd,Around.frames_deeper W.frames,.inr ⟨Z,Z⟩,fun b z=>absurd z (O b),fun b o e=>⟨(W.bs b o e).1,E7 (W.bs b o e).2⟩,W.bsz,fun b _ _=>O b,fun b z=>absurd z (O b),W.funs,fun b hb=>E7 (W.frf b hb)⟩,
  rfl,W.bare,Un.kept hk,⟨_,ak,fun i y v h1 h2 h3=>?_⟩,fun y c h=>?_,J.fresh (YL _),fun y c h=>FZ (al h),fun p hp=>absurd (show p∈([]:List (ad×Obj)) from hp) (by simp),J.kept hk,S.len⟩
 ·rcases hy with hy | hy
  ·exact absurd rfl (S.nocell _ (PySem.mem_of_lookup hy))
  ·exact S.has y hy
 ·cases h
 ·rcases S.val i y v h1 h2 with ⟨hl,j,hp,hv⟩ | ⟨hl,c,o,u,hc,ho,hd,rv⟩
  ·obtain⟨u,hu,rv⟩:=r.get hv;exact⟨u,rv,.inl ⟨hl,an j y u hp hu⟩⟩
  ·exact⟨u,rv,.inr ⟨.inr hl,c,hc,o,Y hc o ho,hd⟩⟩
 ·obtain⟨o,v,ho,hd⟩:=S.cel (y,c) (PySem.mem_of_lookup h);exact⟨v,o,Y h o ho,hd⟩
theorem U9{CX:CXT}{P:ce}{w:db}{K:Yx}{mg:Str->Option am}{base:dw}{k:Nat}{f O:ad}{name qual:Str}{Y:fG}{body:Expr}{scope:dJ}{cl:List (Str×ad)}{pm al:am}{N ps:List Str}{sp:Sp}
 (an:∀vs H Q E,sp vs H Q E->vs.length=ps.length)
 (a0:∀us:List am,us.length=ps.length->∀(j:Nat) (x:Str) (u:am),ps[j]? = some x->us[j]? = some u->(ps.zip us).reverse.lookup x=some u)
 (ak:∀(A:dl) (outer:List Env) (s:aI) (H:Hp) (vs:List V) (Q:VK) (E:XK),BK k (A.deeper (bR qual scope s.heap.objs.size f (.ref O) cl))->sp vs H Q E ->
  H f=some (GP f (bT name qual Y body scope cl pm (.ref O) al))/\H O=some (Kl O qual)/\∃σ,LY H scope N ps cl σ vs /\
  ∃t,PE (NW CX P w K mg base N qual scope f (.ref O) cl A outer s (offC (cl.map (·.2)) H) E) body t/\t σ (offC (cl.map (·.2)) H) (fun v H'=>(∀c∈cl.map (·.2),H' c=none)->Q v (onC (cl.map (·.2)) H H')) /\
  ∀e s',CX outer (offC (cl.map (·.2)) H) s E e s'->CX outer H s E e s') :
 Ax P w K mg base CX (k+1) f (bT name qual Y body scope cl pm (.ref O) al) ps sp:=by
 refine⟨an,fun A outer s H args us vs Q E hr e0 hb r ap=>?_⟩;have hl:=an _ _ _ _ ap;obtain⟨hf,ab,σ,S,t,ht,hq,as⟩:=ak A outer s H vs Q E (hr.deeper _) ap;have bc:s.heap.NoLimit:=e0.mod.nolimit.keeps fun b o e=>(e0.bs b o e).1;obtain⟨aC,_,_⟩:=e0.hok f _ hf;obtain⟨ba,_,_⟩:=e0.hok O _ ab;have bb:us.length=ps.length:=by rw[<- r.length];exact hl
 refine PySem.W.kla_callFunE hr.depth aC rfl S.co S.gen rfl ba (hb _ _ _ _ ?_);refine wpAny_newFunctionEnv S.nocell (fun y hy=>S.par _ (Ze hy).1) (fun h1 aF bd=>?_) S.kind;have hk:∀b o,s.heap.get? b=some o->h1.get? b=some o:=fun b o e=>bd.extBut b o (Yt (Heap.lt_size e)) (Heap.get?_push_of_some _ e);refine⟨bc.keeps hk,?_⟩;show eC _ _ (.expr body (bR qual scope s.heap.objs.size f (.ref O) cl)) _ _;have I:=Sg (CX:=CX) (qual:=qual) (f:=f) (cd:=.ref O) (E:=E) S hr.hd e0 r (a0 us bb) aF hk (s.toks+(ps.zip us).length);refine PySem.W.kla_codeExpr (dF (ht [] _ _ _ _ I hq) (fun u s' hs=>?_) fun e s' hs=>?_)
 ·obtain⟨v,H',J,rv,q⟩:=hs
  have hn:∀c∈cl.map (·.2),H' c=none:=fun c hc=>by
   obtain⟨p,hp,rfl⟩:=aX.mp hc;obtain⟨o,v,e,_⟩:=S.cel p hp;obtain⟨p',_,_⟩:=e0.hok _ _ e;exact J.base.free _ o p' (FZ hc) (by intro z;cases z)
  have ub:Un (frs outer) [] (offC (cl.map (·.2)) H) H' s.heap s'.heap:=J.base;refine⟨v,onC (cl.map (·.2)) H H',J.os,J.bare,Un.onC ub S.cells,HOk.onC e0.hok ub J.hok S.cells hn fun c hc hz=>?_,rv,q hn⟩;obtain⟨o,e⟩:=S.cells c hc;have z:H c=none:=e0.frf c hz;rw[z]at e;cases e
 ·exact dF hs (fun _ aP h=>as _ _ h) fun _ aP h=>as _ _ h
section
variable {X:Cx}{CX:CXT}{k i:Nat}{E:XK}{x:Str}{p pos:Pos}{e:Expr}{es:List Expr}{t:TA}
end
def EC(cs:List ad)(os:ad->Obj)(H:Hp):Hp:=fun b=>if b∈cs then some (Gr b (os b)) else H b
theorem M4{cs:List ad}{Y:ad->Obj}{H:Hp}{b:ad}(h:b∈cs):EC cs Y H b=some (Gr b (Y b)):=if_pos h
theorem BQ{cs:List ad}{Y:ad->Obj}{H:Hp}{b:ad}(h:b∉cs):EC cs Y H b=H b:=if_neg h
structure Km(env:Env)(cl:List (Str×ad)):Prop where
 sub:∀x c,(x,c)∈cl->env.cells.lookup x=some c
 inj:∀x y c,(x,c)∈cl->(y,c)∈cl->x=y
def OW(N:List Str)(σ:St)(sc:dJ)(cl:List (Str×ad))(os:ad->Obj):Prop:=∀x c,(x,c)∈cl->(∃v,(os c).data = .cell v) /\
 ∀(i:Nat) (v:V),N[i]? = some x->σ[i]? = some (some v)->sc.names.lookup x=some .cell->∃u,(os c).data = .cell (some u)/\AJ v u
theorem Km.look{env:Env}{cl:List (Str×ad)}(C:Km env cl){x:Str}{c:ad}(h:(x,c)∈cl):cl.lookup x=some c:=by
 cases e:cl.lookup x with
 | none =>
   have:=List.lookup_eq_none_iff.mp e (x,c) h;simp at this
 | some d =>
   have h2:=C.sub x d (PySem.mem_of_lookup e);rw[C.sub x c h]at h2;exact congrArg some (Yo.inj h2).symm
section
variable {X:Cx}{CX:CXT}{k:Nat}{f:ad}{fd:bn}{ps:List Str}{sp:Sp}{E:XK}{x:Str}{p pos:Pos}{e:Expr}{es:List Expr}{t:TA}
theorem RJ{pins:List (ad×Obj)}{σ:St}{H:Hp}{s:aI}{Q:VK}{us:List am}{vs:List V}{cl:List (Str×ad)}(F:Ax X.prog X.w X.K X.mg X.base CX k f fd ps sp)(hr:BK k X.A)(W:Be X.K fd ps [])
 (bc:∀y,X.fn y=true) (hx:∀(e:am) (H':Hp) (s':aI),Inv X pins σ H s->CX X.stack H' s E e s'->X.xe e s') (I:Inv X pins σ H s) (r:AF vs us) (C:Km X.env cl)
 (h:∀J,(∀c∈cl.map (·.2),H c=none)->OW X.N σ X.env.scope cl J->sp vs (EC (cl.map (·.2)) J H) (fun v H2=>(∀c∈cl.map (·.2),H2 c=some (Gr c (J c)))/\Q v (offC (cl.map (·.2)) H2)) E) :
 bv (cr X.prog X.w) X.A (call (.ref f) us) (EP X pins σ Q) X.xe s:=by
 obtain⟨J,ap⟩:∃J:ad->Obj,∀c∈cl.map (·.2),s.heap.get? c=some (J c)/\∃v,(J c).data = .cell v:=by
  refine⟨fun c=>(s.heap.get? c).getD { cls:=.none,data:=.plain },fun c O=>?_⟩;obtain⟨⟨y,c⟩,hp,rfl⟩:=aX.mp O;obtain⟨v,o,ho,hd⟩:=I.cell y c (C.sub y c hp);have e:((s.heap.get? c).getD { cls:=.none,data:=.plain })=o:=by rw[ho];rfl
  exact⟨by show s.heap.get? c=some ((s.heap.get? c).getD { cls:=.none,data:=.plain });rw[e];exact ho,v,by show((s.heap.get? c).getD { cls:=.none,data:=.plain }).data=_;rw[e];exact hd⟩
 have ab:∀c∈cl.map (·.2),H c=none:=fun c O=>by
  obtain⟨⟨y,c⟩,hp,rfl⟩:=aX.mp O;exact I.freeC y c (C.sub y c hp)
 have aC:∀c∈cl.map (·.2),X.s₀.heap.objs.size<=c:=fun c O=>by
  obtain⟨⟨y,c⟩,hp,rfl⟩:=aX.mp O;exact I.ok.cab y c (bc y) (C.sub y c hp)
 have aP:∀b∈frs X.stack,b∉cl.map (·.2):=fun b W O=>by
  rcases YD.mp (I.stkSub b W) with z | z
  ·obtain⟨⟨y,c⟩,hp,e⟩:=aX.mp O;exact I.cne y c (C.sub y c hp) (by rw[<- z];exact e)
  ·obtain⟨_,o,ho,_⟩:=I.ok.funs.mem z;exact absurd (Yr (Heap.lt_size ho) (aC b O)) (Ys _)
 have be:OW X.N σ X.env.scope cl J:=fun y c hp=>by
  obtain⟨h1,v0,h2⟩:=ap c (bS (f:=(·.2)) hp);refine⟨⟨v0,h2⟩,fun i v hN bd hk=>?_⟩;obtain⟨m,hn,hl⟩:=I.loc;obtain⟨u,ru,lk⟩:=hl i y v hN bd (.inr (.inl hk))
  rcases lk with ⟨a0,_⟩ | ⟨_,c2,ak,o,ho,hd⟩
  ·rw[show X.env.kindOf y=some .cell from hk]at a0;cases a0
  ·rw[C.sub y c hp]at ak;cases ak;rw[h1]at ho;cases ho;exact⟨u,hd,ru⟩
 have q:=h J ab be;have e0:=I.env0
 have bb:HOk X.prog X.w (EC (cl.map (·.2)) J H) s.heap:=fun b o e=>by
  by_cases W:b∈cl.map (·.2)
  ·rw[M4 W]at e;cases e;have g:=(ap b W).1;exact⟨g,⟨_,g⟩,fun h1 h2 z st=>st _ z⟩
  ·rw[BQ W]at e;have no:∀{c:ad} {v:HO},H c=some v->c∉cl.map (·.2):=fun{c v} q z=>by rw[ab c z]at q;cases q
   exact(I.hok b o e).stay (fun _ _ _ q=>q) (fun c q=>by rw[BQ (no q)];exact q) fun c xs q=>by rw[BQ (no q)];exact q
 have eT:IQ X.prog X.w X.K X.mg X.base X.A X.stack s (EC (cl.map (·.2)) J H):=⟨e0.frames,e0.mod,fun b o e=>⟨(e0.bs b o e).1,by
  have W:b∉cl.map (·.2):=fun O=>absurd (Yr (Heap.lt_size e) (Yy I.ok.bsz (aC b O))) (Ys _);rw[BQ W];exact(e0.bs b o e).2⟩,e0.bsz,e0.funs,fun b W=>by rw[BQ (aP b W)];exact e0.frf b W,bb,e0.bare⟩
 have hl:us.length=ps.length:=by rw[<- r.length];exact F.len _ _ _ _ q
 have aF:=W s us I.kIn (by rw[Za];exact hl)
 rw[Za]at aF;refine wpAny_call (eO (F.run X.A X.stack s _ ⟨us,[]⟩ us vs _ E hr eT aF r q) fun rr s' hq=>?_);cases rr with
 | error e=>exact hx e _ s' I hq
 | ok fl =>
   cases fl with
   | next=>exact False.elim hq
   | brk=>exact False.elim hq
   | cont=>exact False.elim hq
   | ret u =>
     obtain⟨v,H2,ba,as,un,an,rv,ak,qv⟩:=hq;refine I.after ⟨v,offC (cl.map (·.2)) H2,ba,as,⟨fun b o e n W al=>?_,fun b o e n W al=>?_,fun b o e n al=>?_,un.there,fun b xs e=>?_,fun b o w' e=>?_,fun b pp e=>?_⟩,HOk.offC an (fun c O=>⟨_,ak c O⟩),rv,qv⟩
     ·by_cases Y:b∈cl.map (·.2)
      ·obtain⟨g,_,_⟩:=an b _ (ak b Y);have g':s'.heap.get? b=some (J b):=g;rw[(ap b Y).1]at e;cases e;exact g'
      ·exact un.keep b o e (by rw[BQ Y];exact n) W al
     ·exact un.slot b o e (by rw[BQ (aP b W)];exact n) W al
     ·by_cases Y:b∈cl.map (·.2)
      ·exact FZ Y
      ·rw[C6 Y];exact un.free b o e (by rw[BQ Y];exact n) al
     ·have Y:b∉cl.map (·.2):=fun z=>by rw[ab b z]at e;cases e
      rw[C6 Y];exact un.tups b xs (by rw[BQ Y];exact e)
     ·have Y:b∉cl.map (·.2):=fun z=>by rw[ab b z]at e;cases e
      rw[C6 Y];exact un.frzs b o w' (by rw[BQ Y];exact e)
     ·have Y:b∉cl.map (·.2):=fun z=>by rw[ab b z]at e;cases e
      rw[C6 Y];exact un.tbls b pp (by rw[BQ Y];exact e)
end
section
variable {K:Yx}{cs:List ad}{H H':Hp}
theorem Ac.trk{W:ad->Obj}(Y:∀c∈cs,H c=none):Ac H (EC cs W H):=fun b o e=>by
 have O:b∉cs:=fun z=>by rw[Y b z]at e;cases e
 rw[BQ O];exact e
theorem Ac.untrk{O:ad->Obj}(s:Ac (EC cs O H) H')(W:∀c∈cs,H c=none):Ac H (offC cs H'):=fun b o e=>by
 have Y:b∉cs:=fun z=>by rw[W b z]at e;cases e
 rw[C6 Y];exact s b o (by rw[BQ Y];exact e)
end
def Bm(mg:Str->Option am)(base:dw):Prop:=∃bm ob,mg "__builtins__" = some (.ref bm)/\bm≠fH/\base.get? bm=some ob/\ob.cls = .type "module" /\ ob.dict=some fH/\ob.data = .plain
def Cq(Pt:ad)(q:Str)(H:Hp):Prop:=∃ps:Array am,H Pt=some (.tbl ps)/\TriplesOk ps.toList/\∀pos cv,fU pos ps.toList=some cv->∃c',cv = .ref c'/\H c'=some (Kl c' q)
theorem IK{pos:Pos}{a b:Int}{c Y:am}(l:List am)(h:TriplesOk l)(e:fU pos (l++[dW a,dW b,c])=some Y):fU pos l=some Y\/Y=c:=by
 fun_induction TriplesOk l with
 | case1 =>
   simp only[List.nil_append,dW,fU]at e
   split at e
   ·exact .inr (Yo.inj e).symm
   ·cases e
 | case2 a' t b' u x CL ih =>
   simp only[List.cons_append,fU]at e ⊢
   split at e
   ·rename_i W;rw[if_pos W];exact .inl e
   ·rename_i W;rw[if_neg W];exact ih h e
 | case3 l h1 h2=>exact h.elim
structure Rj(H H':Hp)(Pt:ad)(q:Str)(f c':ad)(fd:bn):Prop where
 new:H f=none
 lam:H' f=some (GP f fd)
 cod:H' c'=some (Kl c' q)
 tab:Cq Pt q H'
 old:∀b o,b≠Pt->H b=some o->H' b=some o
def UT(env:Env)(mg:Str->Option am)(Pt:ad)(q:Str)(params:fG)(body:Expr)(scope:dJ):TE:=fun _ H Q=>Cq Pt q H/\∀f c' cl ctv H',Km env cl->(∀x∈scope.names,x.2 = .free->∃c,(x.1,c)∈cl) ->
 Rj H H' Pt q f c' (bT "<lambda>" q params body scope cl ((mg "__name__").getD .none) (.ref c') ctv)->Q (.ref f) H'
theorem TX{X:Cx}{Y:fG}{body:Expr}{scope:dJ}{pos:Pos}{c Pt:ad}(hc:X.env.code = .ref c)(bt:bU X.K c Pt=true)(b0:Bm X.mg X.base)
 (bf:defaultsOf Y X.env=([],[]):=by rfl) (bc:∀x∈scope.names,x.2 = .free->X.env.kindOf x.1=some .cell\/X.env.kindOf x.1=some .free) :
 PE X (.Lambda Y body scope pos) (UT X.env X.mg Pt (X.env.qual ++ "<lambda>") Y body scope):=by
 intro pins s σ H Q I h;obtain⟨⟨ps,hP,ht,al⟩,h⟩:=h;have a0:s.heap.get? Pt=some (bV ps):=I.hok Pt _ hP;have as:∀x∈scope.names,x.2 = .free->∃c,X.env.cells.lookup x.1=some c:=fun x hx hf=>I.ok.has _ (bc x hx hf);obtain⟨cl,e1,h1,_,h3⟩:=DK scope.names [] as
 have bl:closureFor scope X.env=pure cl:=by
  unfold closureFor;simp only[bind_pure];exact e1
 have C:Km X.env cl:=⟨fun x c hp=>by
  rcases h1 _ hp with z | z
  ·exact nomatch z
  ·exact z,fun x y c hx hy=>I.ok.inj x y c (by
   rcases h1 _ hx with z | z
   ·exact nomatch z
   ·exact z) (by
   rcases h1 _ hy with z | z
   ·exact nomatch z
   ·exact z)⟩
 have ba:s.heap.Ns ci X.mg:=I.mod.glob.keeps I.bk;obtain⟨bm,ob,b1,b2,b3,b4,b5,b6⟩:=b0;have ap:s.heap.get? bm=some ob:=I.bk _ _ b3
 have cn:ci≠Pt:=fun q=>by
  obtain⟨o,es,ep,e,hd,_⟩:=ba;rw[q,a0]at e;cases e;cases hd
 have co:bm≠Pt:=fun q=>by rw[q,a0]at ap;cases ap;cases b4
 have b9:bm≠ci:=fun q=>by
  obtain⟨o,es,ep,e,hd,_⟩:=ba;rw[q,e]at ap;cases ap;rw[hd]at b6;cases b6
 refine PySem.W.kla_eval bf ?_;have hB:s.heap.BuiltinsAt X.mg Pt:=⟨bm,ob,b1,b2,b9,co,ap,b4,b5,b6⟩;cases hf:fU pos ps.toList with
 | none =>
   refine PySem.W.kla_makeFunction (mg:=X.mg) bl I.ok.glob ba hc (bW I.kIn bt) a0 ht hf cn hB fun O ab h' tk hx bd bx bq bh=>?_;have be:H O=none:=I.hok.fresh bd;have hsz:s.heap.objs.size<=h'.objs.size:=Yy bd (Yz bx);have an:H h'.objs.size=none:=I.hok.fresh hsz;have bN:O≠h'.objs.size:=Yt bx;have cc:Pt≠O:=As hP be;have cp:Pt≠h'.objs.size:=As hP an;have bb:∀b,b≠Pt->b≠O->b≠h'.objs.size->upd (upd (upd H Pt (.tbl (ps ++ #[dW pos.line,dW pos.col,.ref O]))) O (Kl O (X.env.qual ++ "<lambda>"))) h'.objs.size (GP h'.objs.size (bT "<lambda>" (X.env.qual ++ "<lambda>") Y body scope cl ((X.mg "__name__").getD .none) (.ref O) ab)) b=H b:=fun b n1 n2 n3=>by rw[Aq n3,Aq n2,Aq n1]
   have aP:upd (upd (upd H Pt (.tbl (ps ++ #[dW pos.line,dW pos.col,.ref O]))) O (Kl O (X.env.qual ++ "<lambda>"))) h'.objs.size (GP h'.objs.size (bT "<lambda>" (X.env.qual ++ "<lambda>") Y body scope cl ((X.mg "__name__").getD .none) (.ref O) ab)) Pt=some (.tbl (ps ++ #[dW pos.line,dW pos.col,.ref O])):=by rw[Aq cp,Aq cc];exact A9
   have aC:upd (upd (upd H Pt (.tbl (ps ++ #[dW pos.line,dW pos.col,.ref O]))) O (Kl O (X.env.qual ++ "<lambda>"))) h'.objs.size (GP h'.objs.size (bT "<lambda>" (X.env.qual ++ "<lambda>") Y body scope cl ((X.mg "__name__").getD .none) (.ref O) ab)) O=some (Kl O (X.env.qual ++ "<lambda>")):=by rw[Aq bN];exact A9
   have aF:upd (upd (upd H Pt (.tbl (ps ++ #[dW pos.line,dW pos.col,.ref O]))) O (Kl O (X.env.qual ++ "<lambda>"))) h'.objs.size (GP h'.objs.size (bT "<lambda>" (X.env.qual ++ "<lambda>") Y body scope cl ((X.mg "__name__").getD .none) (.ref O) ab)) h'.objs.size=some (GP h'.objs.size (bT "<lambda>" (X.env.qual ++ "<lambda>") Y body scope cl ((X.mg "__name__").getD .none) (.ref O) ab)):=A9;generalize upd (upd (upd H Pt (.tbl (ps ++ #[dW pos.line,dW pos.col,.ref O]))) O (Kl O (X.env.qual ++ "<lambda>"))) h'.objs.size (GP h'.objs.size (bT "<lambda>" (X.env.qual ++ "<lambda>") Y body scope cl ((X.mg "__name__").getD .none) (.ref O) ab))=H' at bb aP aC aF;have ak:∀b o,b≠Pt->H b=some o->H' b=some o:=fun b o n e=>by rw[bb b n (As e be) (As e an)];exact e
   have bp:∀{b:ad} {o:Obj},s.heap.get? b=some o->b≠O/\b≠h'.objs.size:=fun e=>⟨Yt (Yr (Heap.lt_size e) bd),Yt (Yr (Heap.lt_size e) hsz)⟩;have kp:∀b o,b≠Pt->s.heap.get? b=some o->(h'.push (bX "<lambda>" (X.env.qual ++ "<lambda>") Y body scope cl ((X.mg "__name__").getD .none) O ab)).get? b=some o:=fun b o n e=>Heap.get?_push_of_some _ (hx b o n e);have nP:∀{b:ad},H b=none->b≠Pt:=fun n z=>by rw[z,hP]at n;cases n
   refine I.after ⟨.ref h'.objs.size,H',Z,I.bare,⟨fun b o e n _ _=>kp b o (nP n) e,fun b o e n _ _=>⟨o.slots,kp b o (nP n) e⟩,fun b o e n _=>by rw[bb b (nP n) (bp e).1 (bp e).2];exact n,fun b o e _=>?_,fun b xs e=>ak b _ (fun z=>by rw[z,hP]at e;cases e) e,fun b o u e=>ak b _ (fun z=>by rw[z,hP]at e;cases e) e,fun b pp e=>?_⟩,fun b o e=>?_,rfl,?_⟩
   ·by_cases n:b=Pt
    ·subst n;exact⟨_,Heap.get?_push_of_some _ bh⟩
    ·exact⟨o,kp b o n e⟩
   ·by_cases n:b=Pt
    ·subst n;rw[hP]at e;cases e;exact⟨_,aP⟩
    ·exact⟨#[],by rw[ak b _ n e];simp⟩
   ·by_cases n3:b=h'.objs.size
    ·subst n3;rw[aF]at e;cases e;have g:(h'.push (bX "<lambda>" (X.env.qual ++ "<lambda>") Y body scope cl ((X.mg "__name__").getD .none) O ab)).get? h'.objs.size=some (bX "<lambda>" (X.env.qual ++ "<lambda>") Y body scope cl ((X.mg "__name__").getD .none) O ab):=Heap.get?_push_size _ rfl;exact⟨g,⟨_,g⟩,fun h1 h2 z st=>st _ z⟩
    ·by_cases n2:b=O
     ·subst n2;rw[aC]at e;cases e;obtain⟨c2,oc,vs,t,e2,bB,hd,hv⟩:=bq;cases e2;have g:=Heap.get?_push_of_some (bX "<lambda>" (X.env.qual ++ "<lambda>") Y body scope cl ((X.mg "__name__").getD .none) b ab) bB;exact⟨⟨_,oc,vs,t,Z,g,hd,hv⟩,⟨_,g⟩,fun h1 h2 ⟨c3,b8,bD,t3,e3,bg,cu,ca⟩ st=>by cases e3;exact⟨_,b8,bD,t3,Z,st _ bg,cu,ca⟩⟩
     ·by_cases n1:b=Pt
      ·subst n1;rw[aP]at e;cases e;show(h'.push _).get? b=some _;exact Heap.get?_push_of_some _ bh
      ·rw[bb b n1 n2 n3]at e
       exact(I.hok b o e).stay (fun d u hd q=>kp d u (fun z=>by
        rcases hd with hd | hd
        ·exact n1 (by rw[<- hd];exact z)
        ·rw[z,hP]at hd;cases hd) q) (fun d q=>ak d _ (fun z=>by rw[z,hP]at q;cases q) q) fun d xs q=>ak d _ (fun z=>by rw[z,hP]at q;cases q) q
   ·refine h h'.objs.size O cl ab H' C h3 ⟨an,aF,aC,⟨_,aP,?_,fun pos' cv q=>?_⟩,ak⟩
    ·rw[Array.toList_append];exact TriplesOk_snoc _ _ _ _ ht
    ·rw[Array.toList_append]at q
     rcases IK _ ht q with z | z
     ·obtain⟨c2,e2,k2⟩:=al pos' cv z;exact⟨c2,e2,ak c2 _ (fun z=>by rw[z,hP]at k2;cases k2) k2⟩
     ·exact⟨O,z,aC⟩
 | some cv =>
   obtain⟨O,rfl,b7⟩:=al pos cv hf;refine PySem.W.kla_makeFunctionHit (mg:=X.mg) bl I.ok.glob ba hc (bW I.kIn bt) a0 ht hf hB fun ab h' tk hk hsz=>?_;have an:H h'.objs.size=none:=I.hok.fresh hsz
   have J:=I.laid (t':=tk) (h':=h'.push { cls:=.type "function",data:=.func (bT "<lambda>" (X.env.qual ++ "<lambda>") Y body scope cl ((X.mg "__name__").getD .none) (.ref O) ab) }) (a:=h'.objs.size) (o:=GP h'.objs.size (bT "<lambda>" (X.env.qual ++ "<lambda>") Y body scope cl ((X.mg "__name__").getD .none) (.ref O) ab)) (fun b ob q=>Heap.get?_push_of_some _ (hk b ob q)) hsz (by
    have g:(h'.push { cls:=.type "function",data:=.func (bT "<lambda>" (X.env.qual ++ "<lambda>") Y body scope cl ((X.mg "__name__").getD .none) (.ref O) ab) }).get? h'.objs.size=some { cls:=.type "function",data:=.func (bT "<lambda>" (X.env.qual ++ "<lambda>") Y body scope cl ((X.mg "__name__").getD .none) (.ref O) ab) }:=Heap.get?_push_size _ rfl;exact⟨g,⟨_,g⟩,fun h1 h2 z st=>st _ z⟩)
   have ak:∀b o,H b=some o->upd H h'.objs.size (GP h'.objs.size (bT "<lambda>" (X.env.qual ++ "<lambda>") Y body scope cl ((X.mg "__name__").getD .none) (.ref O) ab)) b=some o:=fun b o e=>by rw[Aq (As e an)];exact e
   exact⟨.ref h'.objs.size,_,J,Z,h _ O cl ab _ C h3 ⟨an,A9,ak _ _ b7,⟨ps,ak _ _ hP,ht,fun pos' cv q=>by
    obtain⟨c2,e2,k2⟩:=al pos' cv q;exact⟨c2,e2,ak _ _ k2⟩⟩,fun b o _ e=>ak b o e⟩⟩
def Rg(Pt:ad)(H:Hp):Prop:=∀b,b≠Pt->H b=none\/∃o xs,H b=some (.frz o (.lst xs))
theorem OE{P:ce}{w:db}{K:Yx}{mg mb:Str->Option am}{CX:CXT}{k:Nat}{fa a Pt c:ad}{fd:bn}{x:Str}{sp:Sp}{Y:aI}{vs:List am}{ns:List Int}
 (KX:K.In Y.heap) (a0:Y.heap.Ns ci mg) (J:Y.heap.Ns fH mb) (bN:∀x:Str,x ≠ "__name__" -> mb x=dy x) (bb:Y.heap.NoLimit) (ab:Y.heap.NoSeer) (bt:Bm mg Y.heap) (hg:Y.gens = #[])
 (ak:Y.heap.get? Pt=some (bV #[])) (bp:K.lookup Pt=none) (b0:bU K c Pt=true)
 (ha:Y.heap.get? a=some { cls:=.type "list",data:=.seq vs.toArray }) (hi:fM vs ns) (hl:ns.length<=bi) (hr:BK k callerA)
 (F:∀base:dw,K.In base->base.Ns ci mg->Bm mg base->Ax P w K mg base CX k fa fd [x] sp) (aC:∀(s:aI) (u:am),BindsTo s fd ⟨[u],[]⟩ [(x,u)])
 (bx:∀H:Hp,Rg Pt H->SqL K H a (ns.map V.int)->H Pt=some (.tbl #[])->sp [.ref a] H (fun v _=>v = .bl true) fun _ _ _=>False)
 (bB:∀H e s',CX [] H Y (fun _ _ _=>False) e s'->False) :
 eC (cr P w) callerA (.call (.ref fa) ⟨[.ref a],[]⟩) (fun r s'=>r = .ok (.ret (.bool true))/\OldK Y.heap s'.heap/\s'.os=Y.os/\fo s'.gens) Y:=by
 have rv:=O7 hi;have bd:=hi.length;have aP:a≠Pt:=fun z=>by rw[z,ak]at ha;cases ha
 have an:∀H:Hp,Rg Pt H->H Pt=some (.tbl #[])->SqL K H a (ns.map V.int)->HOk P w H Y.heap->(∀b,H b≠none->b=a\/b=Pt)->(H a≠none->K.lookup a=none) ->
  eC (cr P w) callerA (.call (.ref fa) ⟨[.ref a],[]⟩) (fun r s'=>r = .ok (.ret (.bool true))/\OldK Y.heap s'.heap/\s'.os=Y.os/\fo s'.gens) Y:=by
  intro H hO bc hS be hA hK;have W:∀{b:ad} {o:Obj},Y.heap.get? b=some o->H b=none->(Ib Y.heap H).get? b=some o:=fun e n=>QI e n
  have bh:∀{b:ad} {o:Obj} {es:Array DictEntry} {ep:Nat},Y.heap.get? b=some o->o.data = .dict es ep->H b=none:=fun{b o es ep} e d=>by
   cases q:H b with
   | none=>rfl
   | some u =>
     rcases hA b (by rw[q];simp) with e' | e'
     ·subst e';rw[ha]at e;cases e;have d':Data.seq vs.toArray _=Data.dict es ep:=d;cases d'
     ·subst e';rw[ak]at e;cases e;have d':Data.fields #[]=Data.dict es ep:=d;cases d'
  have O:∀{b:ad} {m:Str->Option am},Y.heap.Ns b m->(Ib Y.heap H).Ns b m:=fun{b m} ⟨o,es,ep,e,d,r⟩=>⟨o,es,ep,W e (bh e d),d,r⟩
  have ba:K.In (Ib Y.heap H):=fun b o e=>W (KX b o e) (by
   cases q:H b with
   | none=>rfl
   | some u =>
     rcases hA b (by rw[q];simp) with e' | e'
     ·subst e';rw[hK (by rw[q];simp)]at e;cases e
     ·subst e';rw[bp]at e;cases e)
  have ap:∀{bm:ad} {ob:Obj},Y.heap.get? bm=some ob->ob.cls = .type "module" -> H bm=none:=fun{bm ob} z u=>by
   cases q:H bm with
   | none=>rfl
   | some o =>
     rcases hA bm (by rw[q];simp) with e' | e'
     ·subst e';rw[ha]at z;cases z;have u':Value.type "list" = Value.type "module":=u;exact absurd u' (by decide)
     ·subst e';rw[ak]at z;cases z;cases u
  have as:(Ib Y.heap H).NoSeer:=⟨let ⟨mc,x,y⟩:=ab.statics;⟨mc,O x,y⟩,let ⟨mm,x,y⟩:=ab.mods;⟨mm,O x,y⟩,let ⟨mi,x,y⟩:=ab.imp;⟨mi,O x,y⟩,by
   obtain⟨bf,bm,ob,x,y,z,u,v⟩:=ab.main;exact⟨bf,bm,ob,O x,y,W z (ap z u),u,v⟩⟩
  have bD:Bm mg (Ib Y.heap H):=by
   obtain⟨bm,ob,x,y,z,u,v,t⟩:=bt;exact⟨bm,ob,x,y,W z (ap z u),u,v,t⟩
  have hM:Mod K mg (Ib Y.heap H):=⟨ba,O a0,⟨mb,O J,bN⟩,let ⟨mc,h1,h2⟩:=bb;⟨mc,O h1,h2⟩,as⟩;have e0:IQ P w K mg (Ib Y.heap H) callerA [] Y H:=⟨Z,hM,fun b o e=>S5 e,Z5 (OL _ _),trivial,fun b J=>absurd (show b∈([]:List ad) from J) (by simp),be,.of_eq hg⟩
  refine eO ((F _ ba (O a0) bD).run callerA [] Y H ⟨[.ref a],[]⟩ [.ref a] [.ref a] _ _ hr e0 (aC Y (.ref a)) (.cons rfl .nil) (bx H hO hS bc)) fun r s' h=>?_;cases r with
  | error e=>exact(bB H e s' h).elim
  | ok fl =>
    cases fl with
    | next=>exact False.elim h
    | brk=>exact False.elim h
    | cont=>exact False.elim h
    | ret u =>
      obtain⟨v,H',os,aF,un,al,r',q⟩:=h;have q':v = .bl true:=q;subst q';obtain rfl:u=Value.bool true:=r';obtain⟨more,bg⟩:=un.tbls Pt _ bc;have gP:s'.heap.get? Pt=some (bV (#[]++more)):=al Pt _ bg
      have kp:∀b o,b≠Pt->Y.heap.get? b=some o->s'.heap.get? b=some o:=fun b o n e=>by
       cases q:H b with
       | none=>exact un.keep b o e q (by intro z;exact absurd (show b∈([]:List ad) from z) (by simp)) (by simp)
       | some u =>
         rcases hO b n with z | ⟨ob,xs,z⟩
         ·rw[q]at z;cases z
         ·have z2:=un.frzs b ob _ z;obtain⟨e1,_⟩:=be b _ z;obtain⟨e2,_⟩:=al b _ z2;rw[e]at e1;cases e1;exact e2
      obtain⟨oc,bq,_,_,_,_,_,_,_,g1,g2,g3,g4,_⟩:=bW KX b0;refine⟨Z,⟨fun b o e=>?_,fun b o e=>?_⟩,os,aF⟩
      ·by_cases n:b=Pt
       ·subst n;rw[ak]at e;cases e;exact .inr (.inl ⟨⟨c,oc,bq,g1,g2,g3,g4⟩,Z,#[],more,Z,gP⟩)
       ·exact .inl (kp b o n e)
      ·by_cases n:b=Pt
       ·subst n;exact⟨_,gP⟩
       ·exact⟨o,kp b o n e⟩
 cases hk:K.lookup a with
 | some o =>
   have e:=KX a o hk;rw[ha]at e;cases e;refine an (fun b=>if b=Pt then some (.tbl #[]) else none) (fun b n=>.inl (if_neg n)) (if_pos rfl) (.inr ⟨_,vs.toArray,_,hk,Z,Z,Z,by rw[Zs,bd];exact hl,by simpa using rv⟩) (fun b u z=>?_) (fun b z=>?_) fun z=>absurd (if_neg aP) z
   ·by_cases n:b=Pt
    ·subst n;have z':=(if_pos rfl).symm.trans z;cases z';exact ak
    ·have z':=(if_neg n).symm.trans z;cases z'
   ·by_cases n:b=Pt
    ·exact .inr n
    ·exact absurd (if_neg n) z
 | none =>
   refine an (fun b=>if b=a then some (.frz { cls:=.type "list",data:=.seq vs.toArray } (.lst (ns.map V.int))) else if b=Pt then some (.tbl #[]) else none) (fun b n=>?_) (by show(if Pt=a then _ else if Pt=Pt then some (HO.tbl #[]) else none)=_;rw[if_neg (Ne.symm aP),if_pos rfl]) (.inl (.inr ⟨{ cls:=.type "list",data:=.seq vs.toArray },if_pos rfl⟩)) (fun b u z=>?_) (fun b z=>?_) fun _=>hk
   ·by_cases J:b=a
    ·exact .inr ⟨_,_,if_pos J⟩
    ·exact .inl (by show(if b=a then _ else if b=Pt then _ else none)=none;rw[if_neg J,if_neg n])
   ·by_cases J:b=a
    ·have z':=(if_pos J).symm.trans z;cases z';subst J;exact⟨ha,by rw[Z4];exact hl,vs,_,rv,ha⟩
    ·by_cases n:b=Pt
     ·subst n;have z':some (HO.tbl #[])=some u:=by rw[<- z];show _=(if b=a then _ else if b=b then some (HO.tbl #[]) else none);rw[if_neg J,if_pos rfl]
      cases z';exact ak
     ·have z':(none:Option HO)=some u:=by rw[<- z];show _=(if b=a then _ else if b=Pt then some (HO.tbl #[]) else none);rw[if_neg J,if_neg n]
      cases z'
   ·by_cases J:b=a
    ·exact .inl J
    ·by_cases n:b=Pt
     ·exact .inr n
     ·exact absurd (by show(if b=a then _ else if b=Pt then _ else none)=none;rw[if_neg J,if_neg n]) z
theorem P5{l:bY}{n k:Nat}{q:ce}{ab:List Str}{XP:(Str->Option am)->dw->Prop}{YP:db->dw->Prop}{d:DefRec}{K:Params->Yx}{CX:db->CXT}{sp:db->Sp}{x:Str}{Pt:ad}
 (hI:importsNone q=true) (hn:l.most=some n) (as:n<=bi) (a0:d.params.defaults=[]) (hr:BK k callerA)
 (hY:∀(w:db) (h:dw),YP w h->(K w.params).In h/\h.get? Pt=some (bV #[])/\(K w.params).lookup Pt=none)
 (F:∀(w:db) (mg:Str->Option am) (fa:ad) (h:dw),(K w.params).In h->h.Ns ci mg->mg d.name=some (.ref fa) ->
  ∃ (fd:bn) (c:ad),bU (K w.params) c Pt=true/\(∀(s:aI) (u:am),BindsTo s fd ⟨[u],[]⟩ [(x,u)]) /\
    ∀base:dw,(K w.params).In base->base.Ns ci mg->Bm mg base->Ax l.prog w (K w.params) mg base (CX w) k fa fd [x] (sp w))
 (aC:∀(w:db) (H:Hp) (a:ad) (ns:List Int),ns.length<=n->Rg Pt H->SqL (K w.params) H a (ns.map V.int)->H Pt=some (.tbl #[])->sp w [.ref a] H (fun v _=>v = .bl true) fun _ _ _=>False)
 (aF:∀(w:db) (H:Hp) (s:aI) (e:am) (s':aI),CX w [] H s (fun _ _ _=>False) e s'->False) :
 PySem.W.WalkO q ab XP YP l.row.toRowW d [] (fun f vs=>PySem.call f vs):=by
 refine Att.attach_call hn a0 fun w s₀ ak mg mb fa o pm cd ba a vs ns G Y ho hd bb an al J O hg=>?_;obtain⟨KX,aP,ap⟩:=hY w _ Y;obtain⟨fd,c,hc,hb,hF⟩:=F w mg fa _ KX G.T.g an;exact OE KX G.T.g G.T.b G.T.builtins G.T.nolimit (G.T.seer hI) G.T.bmain hg aP ap hc al J (Yy O as) hr hF hb (fun H hO hS hP=>aC w H a ns O hO hS hP) fun H e s'=>aF w H ak e s'
def Gk(K:Yx)(f Pt:ad):Bool:=match K.lookup f with
 | some ⟨_,_,.func fd,_⟩=>(match fd.code with | .ref c=>bU K c Pt | _=>false)
 | _=>false
theorem Fun.okL{P:ce}{w:db}{K:Yx}{mg:Str->Option am}{base:dw}{x qual:Str}{st:eU}{f Pt:ad}{fd:bn}{N ps:List Str}{k:Nat}{sp:Sp}(F:Fun K x qual st f fd)(W:Gk K f Pt=true)(S:Ah N ps (Ad st))(ab:∀vs H Q E,sp vs H Q E->vs.length=ps.length)
 (Y:∀(c:ad) (A:dl) (outer:List Env) (s:aI) (H:Hp) (vs:List V) (Q:VK) (E:XK),bU K c Pt=true->BK k (A.deeper (envOfC qual (Ad st) s.heap.objs.size f (.ref c)))->sp vs H Q E ->
  ∃t,PSs (N4 CX0 P w K mg base N qual (Ad st) f (.ref c) A outer s H E).nox (Bf st) t/\t { nx:=fun _ H'=>Q .non H',rt:=Q } (EX N vs) H):Ax P w K mg base CX0 (k+1) f fd ps sp:=by
 obtain⟨oc,od,kV,ap,pm,an,J,ct,al,rfl,lk,O⟩:=F.ex;refine T1 lk O S ab fun A outer s H vs Q E hr ak=>?_;unfold Gk at W;rw[lk]at W;cases J with
 | ref c =>
   obtain⟨t,h,q⟩:=Y c A outer s H vs Q E W hr ak;exact⟨t,h.nox,q⟩
 | _=>cases W
def NH(sc scope:dJ):Bool:=scope.names.all fun x=>decide (x.2 ≠ .free)||decide (sc.names.lookup x.1=some .cell)
theorem RX{X:Cx}{Y:fG}{body:Expr}{scope sc:dJ}{pos:Pos}{c Pt:ad}(O:bU X.K c Pt=true)(J:Bm X.mg X.base)(hc:X.env.code = .ref c:=by rfl)(hs:X.env.scope=sc:=by rfl)(hf:NH sc scope=true:=by decide +kernel)
 (W:defaultsOf Y X.env=([],[]):=by rfl):PE X (.Lambda Y body scope pos) (UT X.env X.mg Pt (X.env.qual ++ "<lambda>") Y body scope) :=
 TX hc O J W fun x hx ab=>.inl (by
  unfold NH at hf;have h:=av.mp hf x hx;rw[Bool.or_eq_true,decide_eq_true_eq,decide_eq_true_eq]at h
  rcases h with h | h
  ·exact absurd ab h
  ·show X.env.scope.names.lookup x.1=_;rw[hs];exact h)
def spT(ps:List Str)(Pre:List V->Prop)(Ans:List V->V->Hp->Prop)(H0:Hp):Sp:=fun vs H Q _=>vs.length=ps.length/\Pre vs/\Ac H0 H/\∀r H',Ac H H'->Ans vs r H'->Q r H'
structure Tells(P:ce)(w:db)(K:Yx)(mg:Str->Option am)(base:dw)(k:Nat)(H:Hp)(f:ad)(ps:List Str)(Pre:List V->Prop)(Ans:List V->V->Hp->Prop):Prop where
 ex:∃fd,Ax P w K mg base CX0 k f fd ps (spT ps Pre Ans H)/\Be K fd ps []/\H f=some (GP f fd)
inductive Cap(sc scope:dJ)(N:List Str)(σ:St):List Str->List V->Prop
 | nil:Cap sc scope N σ [] []
 | cons {y:Str} {v:V} {fr:List Str} {ws:List V} (i:Nat) (h1:scope.names.lookup y=some .free) (h2:sc.names.lookup y=some .cell) (hN:N[i]? = some y) (hσ:σ[i]? = some (some v)) (t:Cap sc scope N σ fr ws):Cap sc scope N σ (y::fr) (v::ws)
theorem Cap.length{sc scope:dJ}{N:List Str}{σ:St}{fr:List Str}{ws:List V}(h:Cap sc scope N σ fr ws):fr.length=ws.length:=by
 induction h with
 | nil=>rfl
 | cons i h1 h2 hN hσ t ih=>exact congrArg (· + 1) ih
theorem Cap.get{sc scope:dJ}{N:List Str}{σ:St}{fr:List Str}{ws:List V}(h:Cap sc scope N σ fr ws):∀{j:Nat} {y:Str} {v:V},fr[j]? = some y->(ws.map some)[j]? = some (some v)->scope.names.lookup y=some .free/\sc.names.lookup y=some .cell/\∃i:Nat,N[i]? = some y/\σ[i]? = some (some v):=by
 induction h with
 | nil=>intro j y v e;cases e
 | cons i h1 h2 hN hσ t ih =>
   intro j y v e1 Y;cases j with
   | zero=>cases e1;cases Y;exact⟨h1,h2,i,hN,hσ⟩
   | succ j=>exact ih e1 Y
structure T9(scope:dJ)(ps:List Str):Prop where
 kind:scope.kind = .function
 co:scope.isCoroutine=false
 gen:scope.isGenerator=false
 nocell:(scope.names.all fun x=>decide (x.2 ≠ .cell))=true
 par:(ps.all fun p=>decide (scope.names.lookup p=some .local))=true
theorem Qw{env:Env}{N:List Str}{σ:St}{scope:dJ}{cl:List (Str×ad)}{os:ad->Obj}{H2 H':Hp}{ps fr:List Str}{vs ws:List V}(S:T9 scope ps)(C:Km env cl)(W:∀x∈scope.names,x.2 = .free->∃c,(x.1,c)∈cl)
 (ak:OW N σ env.scope cl os) (O:Cap env.scope scope N σ fr ws) (hl:vs.length=ps.length) (hm:Ac (EC (cl.map (·.2)) os H2) H'):LY H' scope (ps++fr) ps cl (vs.map some++ws.map some) vs:=by
 have al:∀{x:Str} {c:ad},(x,c)∈cl->c∈cl.map (·.2):=fun h=>bS (f:=(·.2)) h;have J:∀{x:Str} {c:ad},(x,c)∈cl->H' c=some (Gr c (os c)):=fun h=>hm _ _ (M4 (al h));refine⟨S.kind,S.co,S.gen,fun x hx=>?_,fun p hp=>?_,fun x y c h1 h2=>C.inj x y c (PySem.mem_of_lookup h1) (PySem.mem_of_lookup h2),fun x hx=>?_,?_,fun p hp=>?_,fun i x v hN Y=>?_⟩
 ·exact of_decide_eq_true (av.mp S.nocell x hx)
 ·exact of_decide_eq_true (av.mp S.par p hp)
 ·obtain⟨c,hc⟩:=W _ (PySem.mem_of_lookup hx) rfl;exact⟨c,C.look hc⟩
 ·rw[Zo,Zo,Z4,Z4,hl,O.length]
 ·obtain⟨⟨v,hv⟩,_⟩:=ak p.1 p.2 hp;exact⟨os p.2,v,J (x:=p.1) hp,hv⟩
 ·by_cases hi:i<ps.length
  ·rw[Zk hi]at hN;rw[Zk (by rw[Z4,hl];exact hi),Zl]at Y
   refine .inl ⟨of_decide_eq_true (av.mp S.par x (Zn hN)),i,hN,?_⟩;cases e:vs[i]? with
   | none=>rw[e]at Y;cases Y
   | some u=>rw[e]at Y;cases Y;rfl
  ·have ab:ps.length<=i:=Nat.le_of_not_lt hi;rw[Zi ab]at hN;rw[Zi (by rw[Z4,hl];exact ab),Z4,hl]at Y
   obtain⟨h1,h2,j,hj,hs⟩:=O.get hN Y;obtain⟨c,hc⟩:=W _ (PySem.mem_of_lookup h1) rfl;obtain⟨_,hv⟩:=ak x c hc;obtain⟨u,hu,r⟩:=hv j v hj hs h2;exact .inr ⟨h1,c,os c,u,C.look hc,J hc,hu,r⟩
theorem lk1(p:Str)(us:List am)(h:us.length=[p].length)(j:Nat)(x:Str)(u:am)(h1:[p][j]? = some x)(h2:us[j]? = some u):([p].zip us).reverse.lookup x=some u:=by
 obtain⟨a,r,rfl,l1⟩:=BM h;cases bP.mp l1;cases j with
 | zero=>cases h1;cases h2;show(match p == p with | true=>some u | false=>none)=some u;rw[beq_self_eq_true]
 | succ j=>cases h1
theorem OF{K:Yx}{fd:bn}{p:Str}(h:∀a:am,eX fd ⟨[a],[]⟩=pure [(p,a)]):Be K fd [p] []:=.all fun us Y=>by
 obtain⟨a1,r1,rfl,l1⟩:=BM Y;cases bP.mp l1;exact h a1
def Co(Pt:ad)(H H':Hp):Prop:=∀b o,b≠Pt->H b=some o->H' b=some o
theorem Co.trans{Pt:ad}{H H' Y:Hp}(a:Co Pt H H')(b:Co Pt H' Y):Co Pt H Y:=fun c o n e=>b c o n (a c o n e)
theorem Ac.b{Pt:ad}{H H':Hp}(a:Ac H H'):Co Pt H H':=fun b o _ e=>a b o e
theorem Cq.same{Pt:ad}{q:Str}{H H':Hp}(h:Cq Pt q H)(m:Ac H H'):Cq Pt q H':=by
 obtain⟨ps,e,t,c⟩:=h;refine⟨ps,m _ _ e,t,fun pos W z=>?_⟩;obtain⟨Y,O,J⟩:=c pos W z;exact⟨Y,O,m _ _ J⟩
section
variable {K:Yx}{Pt:ad}{q:Str}{H H':Hp}
theorem SqT.but{r:ad}{xs:List V}(h:SqT K H r xs)(c:Cq Pt q H)(m:Co Pt H H'):SqT K H' r xs:=by
 obtain⟨ps,e,_⟩:=c;have Y:∀{b:ad} {o:HO},H b=some o->(∀p,o ≠ .tbl p)->b≠Pt:=fun z n y=>by rw[y,e]at z;exact n _ (Yo.inj z).symm
 rcases h with (h | ⟨o,h⟩) | h
 ·exact .inl (.inl (m _ _ (Y h fun p z=>by cases z) h))
 ·exact .inl (.inr ⟨o,m _ _ (Y h fun p z=>by cases z) h⟩)
 ·exact .inr h
theorem Az.but{x:V}{y:Rat}(h:Az K H x y)(c:Cq Pt q H)(m:Co Pt H H'):Az K H' x y:=let ⟨r,e,h⟩:=h;⟨r,e,h.but c m⟩
theorem Crv.but{r:ad}{qs:List Rat}(h:Crv K H r qs)(c:Cq Pt q H)(m:Co Pt H H'):Crv K H' r qs:=let ⟨xs,a,b⟩:=h;⟨xs,a.but c m,Paired.mapP b fun _ _ z=>z.but c m⟩
end
theorem Sa{K:Yx}{Y:List ad}{b:ad}(h:Y=K.map (·.1))(n:Y.contains b=false):K.lookup b=none:=by
 subst h;refine List.lookup_eq_none_iff.mpr fun p W=>?_;have z:b∉K.map (·.1):=fun O=>by rw[List.contains_iff_mem.mpr O]at n;cases n
 rw[bne_iff_ne];exact fun e=>z (by rw[e];exact bS (f:=(·.1)) W)
theorem OQ{K:Yx}{f Pt:ad}(h:Gk K f Pt=true):∃c,bU K c Pt=true:=by
 unfold Gk at h
 split at h
 ·split at h
  ·exact⟨_,h⟩
  ·cases h
 ·cases h
section
variable {P:ce}{w:db}{K:Yx}{mg:Str->Option am}{base:dw}{N:List Str}{qual:Str}{scope:dJ}{f:ad}{cd:am}{cl:List (Str×ad)}{A:dl}{outer:List Env}{s:aI}{H:Hp}{E:XK}
end
section
variable {X:Cx}
end
structure VT(P:ce)(w:db)(K:Yx)(mg:Str->Option am)(base:dw)(k:Nat)(H:Hp)(f C:ad):Prop where
 ex:∃fd sp,Ax P w K mg base (CX1 P w) k f fd [] sp/\Be K fd [] []/\H f=some (GP f fd)/\∀(Q:VK) (E:XK),(∀H',Ac H H'->E (.ref C) none H')->sp [] H Q E
end L2
namespace Dt
def skip(i a:Nat):Nat:=if a<i then a else a+1
def sg(i:Nat):Int:=if i % 2=0 then 1 else -1
def sumN(f:Nat->Int):Nat->Int
 | 0=>0
 | n+1=>sumN f n+f n
def det:Nat->(Nat->Nat->Int)->Nat->Int
 | 0,M,j=>M 0 j
 | n+1,M,j=>sumN (fun i=>sg i*(M i 0*det n (fun a b=>M (skip i a) (b+1)) j)) (n+2)
def put(M:Nat->Nat->Int)(p:Nat)(u:Nat->Int):Nat->Nat->Int:=fun a b=>if a=p then u b else M a b
def low(i p:Nat):Nat:=if p<i then p else p-1
def sh(i:Nat)(v:Nat->Int):Nat->Int:=fun b=>if b<i then 0 else v (b-i)
def syl(p:Nat)(g f:Nat->Int):Nat->Nat->Int:=fun a=>if a<p then sh a g else sh (a-p) f
def sub(m n k:Nat)(f g:Nat->Int)(j:Nat):Int:=det (m-k+(n-k)-1) (syl (m-k) g f) j
end Dt
namespace Dt
structure Srs(S:Nat->Nat->Int)(m n:Nat)(f g:Nat->Int)(lead held:Int):Prop where
 le:n<=m
 g0:g 0≠0
 l0:lead≠0
 h0:held≠0
 one:n<m\/(lead=1/\held=1)
 is:∀k,k<=n->∃s:Int,(s=1\/s = -1)/\∀j,lead ^ (n-k)*held ^ (m-k-1)*S k j=s*sub m n k f g j
section
variable {S:Nat->Nat->Int}{m n:Nat}{f g r:Nat->Int}{e:Nat->Int}{lead held:Int}
end
end Dt
namespace L2
open Dt
def tf(l:List Int):Nat->Int:=fun b=>if b<l.length then l.getD (l.length-1-b) 0 else 0
structure LR(S:Nat->Nat->Int)(fs gs:List Int)(lead held:Int):Prop where
 fp:1<=fs.length
 srs:1<=gs.length->Srs S (fs.length-1) (gs.length-1) (tf fs) (tf gs) lead held
end L2
namespace L2
def Nc(d p:List Rat):Prop:=∃q:List Rat,∀x,Cv.ev p x=Cv.ev q x*Cv.ev d x
def Com(A B F G:List Rat):Prop:=∀d,(Nc d A/\Nc d B)↔(Nc d F/\Nc d G)
abbrev cst(l:List Int):List Rat:=l.map fun t:Int=>(t:Rat)
structure Part(A B p:List Rat):Prop where
 good:De p
 mono:p[p.length-1]? = some 1
 is:∀d,(Nc d A/\Nc d B)↔Nc d p
end L2
namespace L2
open Dt
def Sy(l:List Int):Prop:=∀t,l[l.length-1]? = some t->t≠0
def PD(l:List Int):Prop:=∃D:Nat->Int,D 0≠0/\(∀j,Bd 45100 (D j))/\∀j,tf l j*D 0=D j*tf l 0
structure LRI(S:Nat->Nat->Int)(fs gs fs' gs':List Int)(lead held:Int)(B d0:Nat):Prop where
 lr:LR S fs' gs' lead held
 le:gs'.length<=fs'.length
 l8:fs'.length<=8
 t1:Sy fs'
 t2:Sy gs'
 com:Com (cst fs) (cst gs) (cst fs') (cst gs')
 bf:∀t∈fs',Bd B t
 bg:∀t∈gs',Bd B t
 bl:Bd (B+1) lead
 bh:Bd (B*d0+1) held
 d8:d0+fs'.length<=8
 bb:B+1<=3 ^ (9-fs'.length)*3001
 b3:fs'.length=gs'.length->B<=3000
 pd:PD fs'
section
variable {S:Nat->Nat->Int}{fs gs fs' gs':List Int}{lead held:Int}{B d0:Nat}
end
end L2
namespace L2
open Dt
structure LRJ(S:Nat->Nat->Int)(fs gs fs' gs':List Int)(lead held:Int)(X:Nat):Prop where
 lr:LR S fs' gs' lead held
 le:gs'.length<=fs'.length
 l10:fs'.length<=10
 t1:Sy fs'
 t2:Sy gs'
 com:Com (cst fs) (cst gs) (cst fs') (cst gs')
 bf:∀t∈fs',Bd X t
 bg:∀t∈gs',Bd X t
 bl:Bd X lead
 bh:Bd X held
section
variable {S:Nat->Nat->Int}{fs gs fs' gs':List Int}{lead held:Int}{X:Nat}
end
end L2
namespace L2
theorem KO:∀Y:List Rat,(prL Y).getD Y.length 0=1
 | []=>rfl
 | o::Y=>by
   have ih:=KO Y;show(Bt ((prL Y).map (· * -o)) (0::Bt ((prL Y).map (· * 1)) (0::[]))).getD (Y.length+1) 0=1;rw[CN,BZ]
   have e1:(prL Y).getD (Y.length+1) 0=0:=by
    rw[aw,aU (by rw[DD];lia)];rfl
   show _+(Bt ((prL Y).map (· * 1)) (0::[])).getD Y.length 0=1;rw[CN,BZ,e1,ih];have e:([0]:List Rat).getD Y.length 0=0:=by match Y.length with | 0=>rfl | k+1=>rfl
   rw[e];grind
end L2
namespace L2
def Cop(A B:List Rat):Prop:=∃u v,∀x,Cv.ev u x*Cv.ev A x+Cv.ev v x*Cv.ev B x=1
theorem Sr{D A B:List Rat}(Y:Cv.strip D≠[])(h:∀x,Cv.ev D x*Cv.ev A x=Cv.ev D x*Cv.ev B x)(x:Rat):Cv.ev A x=Cv.ev B x:=by
 have W:Cv.strip (Bt A (B.map (· * (-1))))=[]:=by
  by_cases hE:Cv.strip (Bt A (B.map (· * (-1))))=[]
  ·exact hE
  exfalso;have O:=QK (DH D) (DH (Bt A (B.map (· * (-1))))) Y hE
  have e:=Ic O (.inl rfl:De []) fun x=>by
   rw[D4,Cv.ev_strip,Cv.ev_strip,Cc,Cv.ev_scale];have:=h x;show _=(0:Rat)
   grind
  have l:=Cz (Cv.strip (Bt A (B.map (· * (-1))))) (ae.mpr hE) (Cv.strip D) (ae.mpr Y);rw[e]at l;have:=ae.mpr hE;have:=ae.mpr Y;simp only[aV]at l
  lia
 have z:Cv.ev (Cv.strip (Bt A (B.map (· * (-1))))) x=0:=by rw[W];rfl
 rw[Cv.ev_strip,Cc,Cv.ev_scale]at z
 grind
def pw(d:List Rat):Nat->List Rat
 | 0=>[1]
 | n+1=>DF (pw d n) d
end L2
namespace L2
structure Kn(f l g:List Rat):Prop where
 gg:De g
 mono:g[g.length-1]? = some 1
 fe:∀x,Cv.ev f x=Cv.ev l x*Cv.ev g x
 un:∃u,(∀x,Cv.ev (dL f) x=Cv.ev g x*Cv.ev u x)/\Cop l u
end L2
namespace L2
open PySem PySem.Spec PyProof.Rows
section
variable {X:Cx}{e:Expr}{es:List Expr}{te:TE}{t:TA}{pos:Pos}
@[irreducible] def PEk(X:Cx)(e:Expr)(te:TE):Prop:=PE X e te
@[irreducible] def PAk(X:Cx)(es:List Expr)(t:TA):Prop:=PA X es t
theorem pek(h:PE X e te):PEk X e te:=by unfold PEk;exact h
end
end L2
namespace L2
theorem CP:∀(qs:List Rat) {l:List Rat},qs.Nodup->l.length<=qs.length->(∀q∈qs,Cv.ev l q=0)->∀x,Cv.ev l x=0
 | [],l,_,hl,_,x=>by
   have:l=[]:=ao (Nat.le_zero.mp hl);rw[this];rfl
 | c::r,l,hn,hl,h,x=>by
   rw[Zd]at hn;have h0:=h c (YB ..);have e:∀x,Cv.ev l x=(x-c)*Cv.ev (quo c l) x:=fun x=>by rw[Q6 c x l,h0,Rat.zero_add]
   have J:l.length<=r.length+1:=hl
   have O:=CP r (l:=quo c l) hn.2 (by rw[HB];lia) fun q W=>by
    have Y:=h q (YC _ W);rw[e q]at Y
    rcases aq.mp Y with z | z
    ·exact absurd (show q=c by grind) fun z=>hn.1 (z ▸ W)
    ·exact z
   rw[e x,O x,bZ]
theorem ER:∀(l:List Rat) (a:Nat),(∀j,a<=j->l.getD j 0=0)->∀x,Cv.ev (l.take a) x=Cv.ev l x
 | [],a,_,x=>by rw[List.take_nil]
 | q::r,0,h,x=>by
   show(0:Rat)=q+x*Cv.ev r x;have h0:q=0:=h 0 (YL _);have Y:=ER r 0 (fun j _=>h (j+1) (YN _)) x;rw[br]at Y;have Y:(0:Rat)=Cv.ev r x:=Y;rw[h0,<- Y,bZ,Rat.add_zero]
 | q::r,a+1,h,x=>by
   show q+x*Cv.ev (r.take a) x=q+x*Cv.ev r x;rw[ER r a (fun j W=>h (j+1) (Nat.succ_le_succ W)) x]
theorem HD{N D:List Rat}{a b k:Nat}(J:∀j,a<=j->N.getD j 0=0)(O:∀j,b<=j->D.getD j 0=0)(h:a=0\/b=0\/a+b<=k+1):∃l:List Rat,l.length<=k/\∀x,Cv.ev l x=Cv.ev N x*Cv.ev D x:=by
 have W:=ER N a J;have Y:=ER D b O;by_cases z:(N.take a).length=0\/(D.take b).length=0
 ·refine⟨[],YN _,fun x=>?_⟩;show(0:Rat)=_
  rcases z with z | z
  ·rw[<- W,ao z];show _=0*_;rw[cb]
  ·rw[<- Y,ao z];show _=_*0;rw[bZ]
 ·have h1:(N.take a).length<=a:=by rw[Zh];lia
  have h2:(D.take b).length<=b:=by rw[Zh];lia
  refine⟨DF (N.take a) (D.take b),?_,fun x=>by rw[D4,W,Y]⟩
  rw[Cz _ (by lia) _ (by lia)]
  lia
def DL(w v r:Int)(N D:List Rat):Prop:=(∀j:Nat,r<2*((j:Int)+1-w)->N.getD j 0=0)/\(∀j:Nat,r<2*((j:Int)+1-v)+1->D.getD j 0=0)
def D5(w v r:Int)(N D:List Rat):Prop:=(∃j:Nat,2*((j:Int)+1-w)=r/\N.getD j 0≠0)\/(∃j:Nat,2*((j:Int)+1-v)+1=r/\D.getD j 0≠0)
theorem J0{w v r1 r2:Int}{N D:List Rat}{n k:Nat}(W:∀j:Nat,r1<2*((j:Int)+1-w)->N.getD j 0=0)(Y:∀j:Nat,r2<2*((j:Int)+1-v)+1->D.getD j 0=0)(hw:w+v=n+1)(J:r1+r2<=2*(k:Int)-2*n+2):∃l:List Rat,l.length<=k/\∀x,Cv.ev l x=Cv.ev N x*Cv.ev D x:=by
 refine HD (a:=(r1 / 2+w).toNat) (b:=((r2-1) / 2+v).toNat) (fun j O=>W j ?_) (fun j O=>Y j ?_) ?_
 ·lia
 ·lia
 ·lia
theorem LK{w v r1 r2:Int}{N1 D1 N2 D2 qs:List Rat}{n:Nat}(h1:DL w v r1 N1 D1)(h2:DL w v r2 N2 D2)(hw:w+v=n+1)(O:r1+r2<=2*(qs.length:Int)-2*n+2)(W:qs.Nodup)(h:∀q∈qs,Cv.ev N1 q*Cv.ev D2 q=Cv.ev N2 q*Cv.ev D1 q)(x:Rat):Cv.ev N1 x*Cv.ev D2 x=Cv.ev N2 x*Cv.ev D1 x:=by
 obtain⟨l1,ab,e1⟩:=J0 (k:=qs.length) h1.1 h2.2 hw O;obtain⟨l2,ak,J⟩:=J0 (k:=qs.length) h2.1 h1.2 hw (by lia)
 have e:∀x,Cv.ev (Bt l1 (l2.map (· * (-1)))) x=Cv.ev N1 x*Cv.ev D2 x-Cv.ev N2 x*Cv.ev D1 x:=fun x=>by
  rw[Cc,Cv.ev_scale,e1,J];grind
 have:=CP qs (l:=Bt l1 (l2.map (· * (-1)))) W (by rw[BG,Z4];lia) (fun q Y=>by rw[e,h q Y];grind) x
 rw[e]at this
 grind
theorem J8{l:List Rat}{a j:Nat}(h:j<a):(l.take a).getD j 0=l.getD j 0:=by
 rw[aw,aw,cf,if_pos h]
theorem Nf{l:List Rat}{j:Nat}(h:l.getD j 0≠0):j<l.length:=by
 rcases cg j l.length with z | z
 ·exact z
 ·exact absurd (by rw[aw,aU z];rfl) h
theorem NG{N1 D2 N2 D1:List Rat}{j i a b:Nat}(O:N1.getD j 0≠0)(hi:D2.getD i 0≠0)(h1:∀t,j<t->N1.getD t 0=0)(h2:∀t,i<t->D2.getD t 0=0)(ha:∀t,a<=t->N2.getD t 0=0)(hb:∀t,b<=t->D1.getD t 0=0)(Y:a=0\/b=0\/a+b<=j+i+1):¬ ∀x,Cv.ev N1 x*Cv.ev D2 x=Cv.ev N2 x*Cv.ev D1 x:=fun h=>by
 obtain⟨l,hl,el⟩:=HD (k:=j+i) ha hb Y;have lj:=Nf O;have li:=Nf hi;have J:(N1.take (j+1)).length=j+1:=by rw[Zh];lia
 have n2:(D2.take (i+1)).length=i+1:=by rw[Zh];lia
 have g:∀{q:List Rat} {t:Nat},t<q.length->q[t]? = some (q.getD t 0):=fun{q t} W=>by rw[aw,aB W];rfl
 have m1:=Gb (D2.take (i+1)) (D2.getD i 0) (by rw[n2,cj,g (by lia),J8 (by lia)]) (N1.take (j+1)) (N1.getD j 0) (by rw[J,cj,g (by lia),J8 (by lia)])
 have e:=LM (l:=DF (N1.take (j+1)) (D2.take (i+1))) (m:=l) (fun k=>by rw[el,<- h,D4,ER N1 (j+1) fun t W=>h1 t (by lia),ER D2 (i+1) fun t W=>h2 t (by lia)]) (j+i)
 have e2:l.getD (j+i) 0=0:=by rw[aw,aU hl];rfl
 rw[J,n2,show j+1+(i+1)-2=j+i by lia]at m1
 rw[e2,aw,m1]at e
 rcases aq.mp (show D2.getD i 0*N1.getD j 0=0 from e) with z | z
 ·exact hi z
 ·exact O z
theorem QX{w v r1 r2:Int}{N1 D1 N2 D2:List Rat}(h1:DL w v r1 N1 D1)(h2:DL w v r2 N2 D2)(t1:D5 w v r1 N1 D1)(J:D5 w v r2 N2 D2)(hp:(r1+r2) % 2=1):¬ ∀x,Cv.ev N1 x*Cv.ev D2 x=Cv.ev N2 x*Cv.ev D1 x:=by
 rcases t1 with ⟨j,ej,O⟩ | ⟨j,ej,O⟩
 ·rcases J with ⟨i,W,hi⟩ | ⟨i,W,hi⟩
  ·lia
  ·exact NG (a:=(r2 / 2+w).toNat) (b:=((r1-1) / 2+v).toNat) O hi (fun t Y=>h1.1 t (by lia)) (fun t Y=>h2.2 t (by lia)) (fun t Y=>h2.1 t (by lia)) (fun t Y=>h1.2 t (by lia)) (by lia)
 ·rcases J with ⟨i,W,hi⟩ | ⟨i,W,hi⟩
  ·exact fun h=>NG (a:=(r1 / 2+w).toNat) (b:=((r2-1) / 2+v).toNat) hi O (fun t Y=>h2.1 t (by lia)) (fun t Y=>h1.2 t (by lia)) (fun t Y=>h1.1 t (by lia)) (fun t Y=>h2.2 t (by lia)) (by lia) fun x=>(h x).symm
  ·lia
structure DN(w v:Int)(n:Nat)(ps:List (Rat×Rat))(r1 r2:Int)(N1 D1 N2 D2:List Rat):Prop where
 le1:DL w v r1 N1 D1
 top1:D5 w v r1 N1 D1
 le2:DL w v r2 N2 D2
 top2:D5 w v r2 N2 D2
 lt:r1<r2
 sum:r1+r2=2*(ps.length:Int)-2*n+3
 on1:∀q∈ps,Cv.ev N1 q.1=q.2*Cv.ev D1 q.1
 on2:∀q∈ps,Cv.ev N2 q.1=q.2*Cv.ev D2 q.1
section
variable {w v:Int}{n:Nat}{ps:List (Rat×Rat)}{r1 r2:Int}{N1 D1 N2 D2:List Rat}
theorem DN.ne(I:DN w v n ps r1 r2 N1 D1 N2 D2):¬ ∀x,Cv.ev N1 x*Cv.ev D2 x=Cv.ev N2 x*Cv.ev D1 x:=QX I.le1 I.le2 I.top1 I.top2 (by have:=I.sum;lia)
theorem DN.some(I:DN w v n ps r1 r2 N1 D1 N2 D2)(hw:w+v=n+1){x y:Rat}(O:((ps++[(x,y)]).map Prod.fst).Nodup):¬(Cv.ev N1 x=y*Cv.ev D1 x/\Cv.ev N2 x=y*Cv.ev D2 x):=fun⟨h1,h2⟩=>by
 refine I.ne fun t=>LK (qs:=(ps++[(x,y)]).map Prod.fst) I.le1 I.le2 hw ?_ O (fun q Y=>?_) t
 ·have:=I.sum;rw[Z4,Zo,ZF]
  lia
 ·obtain⟨p,W,rfl⟩:=aX.mp Y
  rcases YE.mp W with z | z
  ·rw[I.on1 p z,I.on2 p z];grind
  ·rw[aA.mp z];show Cv.ev N1 x*Cv.ev D2 x=Cv.ev N2 x*Cv.ev D1 x;rw[h1,h2];grind
end
theorem Ka:∀{l m:List Rat},(∀j,l.getD j 0=m.getD j 0)->∀x,Cv.ev l x=Cv.ev m x
 | [],m,h,x=>by
   show(0:Rat)=_;rw[Cv.ev_none];intro q Y;obtain⟨j,W,rfl⟩:=aG Y;have:=h j;rw[aw,aw,aB W]at this;exact this.symm
 | a::l,[],h,x=>by
   show _=(0:Rat);rw[Cv.ev_none];intro q Y;obtain⟨j,W,rfl⟩:=aG Y;have:=h j;rw[aw,aw,aB W]at this;exact this
 | a::l,b::m,h,x=>by
   show a+x*Cv.ev l x=b+x*Cv.ev m x;rw[show a=b from h 0,Ka (l:=l) (m:=m) (fun j=>h (j+1)) x]
def Shf(c d:Rat)(L L':List Rat):Prop:=∀j:Nat,L'.getD j 0=d*(if j=0 then 0 else L.getD (j-1) 0)-c*L.getD j 0
theorem Shf.ev{c d:Rat}{L Y:List Rat}(h:Shf c d L Y)(x:Rat):Cv.ev Y x=(d*x-c)*Cv.ev L x:=by
 have e:Cv.ev Y x=Cv.ev (Bt ((0::L).map (· * d)) (L.map (· * (-c)))) x:=Ka (fun j=>by
  rw[h j,CN,BZ,BZ];cases j with
  | zero=>show d*(if 0=0 then 0 else _)-c*_=0*d+_;rw[if_pos rfl];grind
  | succ j=>show d*(if j+1=0 then 0 else L.getD (j+1-1) 0)-c*_=L.getD j 0*d+_;rw[if_neg (by lia),cj];grind) x
 rw[e,Cc,Cv.ev_scale,Cv.ev_scale];show(0+x*Cv.ev L x)*d+_=_
 grind
def Mix(m a b:Rat)(A B L':List Rat):Prop:=∀j:Nat,m*L'.getD j 0=a*B.getD j 0-b*A.getD j 0
theorem Mix.ev{m a b:Rat}{A B Y:List Rat}(h:Mix m a b A B Y)(x:Rat):m*Cv.ev Y x=a*Cv.ev B x-b*Cv.ev A x:=by
 have e:Cv.ev (Y.map (· * m)) x=Cv.ev (Bt (B.map (· * a)) (A.map (· * (-b)))) x:=Ka (fun j=>by
  rw[BZ,CN,BZ,BZ];have:=h j
  grind) x
 rw[Cc,Cv.ev_scale,Cv.ev_scale,Cv.ev_scale]at e
 grind
theorem DL.shift{w v r:Int}{c d:Rat}{N D N' D':List Rat}(h:DL w v r N D)(W:Shf c d N N')(Y:Shf c d D D'):DL w v (r+2) N' D':=by
 refine⟨fun j O=>?_,fun j O=>?_⟩
 ·rw[W j,h.1 j (by lia)]
  by_cases z:j=0
  ·rw[if_pos z];grind
  ·rw[if_neg z,h.1 (j-1) (by lia)];grind
 ·rw[Y j,h.2 j (by lia)]
  by_cases z:j=0
  ·rw[if_pos z];grind
  ·rw[if_neg z,h.2 (j-1) (by lia)];grind
theorem D5.shift{w v r:Int}{c d:Rat}{N D N' D':List Rat}(h:D5 w v r N D)(Y:DL w v r N D)(hd:d≠0)(J:Shf c d N N')(hD:Shf c d D D'):D5 w v (r+2) N' D':=by
 have W:∀{y:Rat},y≠0->d*y-c*0≠0:=fun{y} hy e=>by
  have:d*y=0:=by grind
  rcases aq.mp this with z | z
  ·exact hd z
  ·exact hy z
 rcases h with ⟨j,e,O⟩ | ⟨j,e,O⟩
 ·refine .inl ⟨j+1,by lia,?_⟩
  rw[J (j+1),if_neg (by lia),cj,Y.1 (j+1) (by lia)]
  exact W O
 ·refine .inr ⟨j+1,by lia,?_⟩
  rw[hD (j+1),if_neg (by lia),cj,Y.2 (j+1) (by lia)]
  exact W O
theorem Mix.zero{m a b:Rat}{A B Y:List Rat}(h:Mix m a b A B Y)(O:m≠0){j:Nat}(J:A.getD j 0=0)(W:B.getD j 0=0):Y.getD j 0=0:=by
 have:=h j;rw[J,W]at this
 rcases aq.mp (show m*Y.getD j 0=0 by grind) with z | z
 ·exact absurd z O
 ·exact z
theorem DL.mix{w v r1 r2:Int}{m a b:Rat}{N1 D1 N2 D2 N' D':List Rat}(h1:DL w v r1 N1 D1)(h2:DL w v r2 N2 D2)(ab:r1<r2)(W:m≠0)(O:Mix m a b N1 N2 N')(J:Mix m a b D1 D2 D'):DL w v r2 N' D' :=
 ⟨fun j Y=>O.zero W (h1.1 j (by lia)) (h2.1 j Y),fun j Y=>J.zero W (h1.2 j (by lia)) (h2.2 j Y)⟩
theorem D5.mix{w v r1 r2:Int}{m a b:Rat}{N1 D1 N2 D2 N' D':List Rat}(t2:D5 w v r2 N2 D2)(h1:DL w v r1 N1 D1)(ab:r1<r2)(ha:a≠0)(O:Mix m a b N1 N2 N')(J:Mix m a b D1 D2 D'):D5 w v r2 N' D':=by
 have Y:∀{y z:Rat},y≠0->m*z=a*y-b*0->z≠0:=fun{y z} hy e hz=>by
  have:a*y=0:=by rw[hz]at e;grind
  rcases aq.mp this with q | q
  ·exact ha q
  ·exact hy q
 rcases t2 with ⟨j,e,W⟩ | ⟨j,e,W⟩
 ·have:=O j;rw[h1.1 j (by lia)]at this
  exact .inl ⟨j,e,Y W this⟩
 ·have:=J j;rw[h1.2 j (by lia)]at this
  exact .inr ⟨j,e,Y W this⟩
structure PUn(w v:Int)(n:Nat)(ps:List (Rat×Rat))(r1 r2:Int)(N1 D1 N2 D2:List Rat):Prop where
 le1:DL w v r1 N1 D1
 top1:D5 w v r1 N1 D1
 le2:DL w v r2 N2 D2
 top2:D5 w v r2 N2 D2
 sum:r1+r2=2*(ps.length:Int)-2*n+3
 on1:∀q∈ps,Cv.ev N1 q.1=q.2*Cv.ev D1 q.1
 on2:∀q∈ps,Cv.ev N2 q.1=q.2*Cv.ev D2 q.1
section
variable {w v:Int}{n:Nat}{ps:List (Rat×Rat)}{r1 r2:Int}{N1 D1 N2 D2 N1' D1' N2' D2':List Rat}{x y:Rat}
theorem PUn.inv(h:PUn w v n ps r1 r2 N1 D1 N2 D2)(Y:r1<r2):DN w v n ps r1 r2 N1 D1 N2 D2:=⟨h.le1,h.top1,h.le2,h.top2,Y,h.sum,h.on1,h.on2⟩
theorem PUn.turn(h:PUn w v n ps r1 r2 N1 D1 N2 D2)(Y:¬r1<r2):DN w v n ps r2 r1 N2 D2 N1 D1:=⟨h.le2,h.top2,h.le1,h.top1,by have:=h.sum;lia,by have:=h.sum;lia,h.on2,h.on1⟩
theorem GU{N D:List Rat}(h:∀q∈ps,Cv.ev N q.1=q.2*Cv.ev D q.1)(W:Cv.ev N x=y*Cv.ev D x):∀q∈ps++[(x,y)],Cv.ev N q.1=q.2*Cv.ev D q.1:=fun q Y=>by
 rcases YE.mp Y with z | z
 ·exact h q z
 ·rw[aA.mp z];exact W
theorem HL{c d:Rat}{N D N' D':List Rat}(h:∀q∈ps,Cv.ev N q.1=q.2*Cv.ev D q.1)(W:Shf c d N N')(Y:Shf c d D D')(J:d*x=c):∀q∈ps++[(x,y)],Cv.ev N' q.1=q.2*Cv.ev D' q.1:=GU (fun q O=>by rw[W.ev,Y.ev,h q O];grind) (by rw[W.ev,Y.ev,J];grind)
theorem DN.stepA{c d:Rat}(I:DN w v n ps r1 r2 N1 D1 N2 D2)(J:d≠0)(O:d*x=c)(h0:Cv.ev N1 x=y*Cv.ev D1 x)(Y:Shf c d N2 N2')(W:Shf c d D2 D2'):PUn w v n (ps++[(x,y)]) r1 (r2+2) N1 D1 N2' D2' :=
 ⟨I.le1,I.top1,I.le2.shift Y W,I.top2.shift I.le2 J Y W,by have:=I.sum;rw[Zo,ZF];lia,GU I.on1 h0,HL I.on2 Y W O⟩
theorem DN.stepB{c d:Rat}(I:DN w v n ps r1 r2 N1 D1 N2 D2)(J:d≠0)(O:d*x=c)(h0:Cv.ev N2 x=y*Cv.ev D2 x)(Y:Shf c d N1 N1')(W:Shf c d D1 D1'):PUn w v n (ps++[(x,y)]) (r1+2) r2 N1' D1' N2 D2 :=
 ⟨I.le1.shift Y W,I.top1.shift I.le1 J Y W,I.le2,I.top2,by have:=I.sum;rw[Zo,ZF];lia,HL I.on1 Y W O,GU I.on2 h0⟩
theorem DN.stepC{c d m a b s:Rat}(I:DN w v n ps r1 r2 N1 D1 N2 D2)(hd:d≠0)(hx:d*x=c)(ha:a≠0)(hm:m≠0)(ea:a=s*(Cv.ev N1 x-y*Cv.ev D1 x))(eb:b=s*(Cv.ev N2 x-y*Cv.ev D2 x))(O:Shf c d N1 N1')(J:Shf c d D1 D1')(Y:Mix m a b N1 N2 N2')(W:Mix m a b D1 D2 D2'):PUn w v n (ps++[(x,y)]) (r1+2) r2 N1' D1' N2' D2':=by
 refine⟨I.le1.shift O J,I.top1.shift I.le1 hd O J,DL.mix I.le1 I.le2 I.lt hm Y W,D5.mix I.top2 I.le1 I.lt ha Y W,by have:=I.sum;rw[Zo,ZF];lia,HL I.on1 O J hx,?_⟩
 have ab:∀{p q:Rat},m*p=m*q->p=q:=fun{p q} h=>by
  rcases aq.mp (show m*(p-q)=0 by grind) with z | z
  ·exact absurd z hm
  ·grind
 refine GU (fun q hq=>ab ?_) (ab ?_)
 ·have e1:=Y.ev q.1;have e2:=W.ev q.1;rw[I.on1 q hq,I.on2 q hq]at e1;rw[e1,show m*(q.2*Cv.ev D2' q.1)=q.2*(m*Cv.ev D2' q.1) by grind,e2]
  grind
 ·have e1:=Y.ev x;have e2:=W.ev x;rw[e1,show m*(y*Cv.ev D2' x)=y*(m*Cv.ev D2' x) by grind,e2,ea,eb]
  grind
theorem DN.fin(I:DN w v n ps r1 r2 N1 D1 N2 D2)(Y:ps.length=n):r1<=1:=by
 have:=I.sum;have:=I.lt
 lia
theorem DN.below(I:DN w v n ps r1 r2 N1 D1 N2 D2)(hl:ps.length=n)(ab:w<=n)(J:(ps.map Prod.fst).Nodup):Cv.strip D1≠[]:=fun z=>by
 have hr:=I.fin hl;have Y:∀x,Cv.ev D1 x=0:=fun x=>by rw[<- Cv.ev_strip,z];rfl
 have W:=ER N1 n fun j hj=>I.le1.1 j (by lia)
 have zN:∀x,Cv.ev N1 x=0:=fun x=>by
  rw[<- W];refine CP (ps.map Prod.fst) J (by rw[Z4,Zh];lia) (fun q O=>?_) x
  obtain⟨p,hp,rfl⟩:=aX.mp O;rw[W,I.on1 p hp,Y,bZ]
 exact I.ne fun x=>by rw[Y x,zN x,bZ,cb]
end
end L2
namespace L2
section
variable {w v:Int}{n:Nat}{ps:List (Rat×Rat)}{r1 r2:Int}{N1 D1 N2 D2:List Rat}
end
end L2
namespace L2
open PySem PySem.Spec PyProof.Rows
theorem Gv{α β:Type}{F:α->β->Prop}{l' m':List β}(h:l'.Perm m'):∀{l:List α},Paired F l l'->∃m,m.Perm l/\Paired F m m':=by
 induction h with
 | nil=>exact fun{l} p=>⟨l,List.Perm.refl _,p⟩
 | cons x _ ih =>
   intro l p;cases p with
   | @cons a _ as _ h t =>
     obtain⟨m,O,W⟩:=ih t;exact⟨a::m,O.cons a,.cons h W⟩
 | swap x y l =>
   intro k p;cases p with
   | @cons a _ as _ h t =>
     cases t with
     | @cons b _ bs _ h2 t2=>exact⟨b::a::bs,List.Perm.swap ..,.cons h2 (.cons h t2)⟩
 | trans _ _ i1 i2 =>
   intro l p;obtain⟨m,O,W⟩:=i1 p;obtain⟨m2,Y,J⟩:=i2 W;exact⟨m2,Y.trans O,J⟩
section
variable {prog:ce}{w:db}{A:dl}{E:am->aI->Prop}{s:aI}{a kS:ad}{vs:List am}{kz:List Int}{keys:Array am}{e e1:Nat}{P:PySem.Fin->aI->Prop}
set_option maxHeartbeats 4000000 in
theorem Kv{st:SortSt}(nk:s.heap.get? kS=some (dG "list" keys e))(na:s.heap.get? a=some (dG "list" #[] e1))(ab:kS≠a)
 (hk:fM keys.toList kz) (an:kz.length=vs.length) (ap:vs.length<64) (hp:(arrOf st).Perm (keys.zip vs.toArray)) (hs:SortedTo (arrOf st) (arrOf st).size) (al:failedOf st=none)
 (h:∀h' W c,(∀b o,b≠kS->b≠a->s.heap.get? b=some o->h'.get? b=some o)->h'.get? a=some (dG "list" W c)->KskOut false kz vs W.toList->P (.done (.ret .none)) { s with heap:=h' }) :
 bv (cr prog w) A (ksk_tail a false e1 (.ref kS) st) P E s:=by
 have hsz:keys.size=vs.length:=by
  have h1:=hk.length;rw[YJ]at h1
  lia
 have J:(arrOf st).size=vs.length:=by rw[hp.size_eq,Array.size_zip,hsz,Zs,Nat.min_self]
 have O:((arrOf st).map (·.2)).size=vs.length:=by rw[Array.size_map];exact J
 have s1:=Heap.SameBut.update s.heap kS (Obj.mapSeq fun _=>(#[]:Array am));have Y:(s.heap.update kS (Obj.mapSeq fun _=>(#[]:Array am))).get? a=some (dG "list" #[] e1):=(s1.2 a ab.symm).trans na;have s2:=Heap.SameBut.update (s.heap.update kS (Obj.mapSeq fun _=>(#[]:Array am))) a (Obj.mapSeq fun _=>(arrOf st).map (·.2));obtain⟨c2,ak⟩:∃c2,((s.heap.update kS (Obj.mapSeq fun _=>(#[]:Array am))).update a (Obj.mapSeq fun _=>(arrOf st).map (·.2))).get? a=some (dG "list" ((arrOf st).map (·.2)) c2):=⟨_,get?_update_seq Y fun _=>(arrOf st).map (·.2)⟩;unfold ksk_tail
 try dsimp only
 refine ac (fQ nk rfl ?_ (by rw[hsz,dv];lia) (YN _))
 refine ac (fO ?_);refine ac (seqEpoch_at Y rfl ?_);refine ac (fQ Y rfl ?_ (YN _) (Yy (Z5 O) (by rw[dv];lia)))
 rw[al];simp only[bne_self_eq_false,Bool.false_eq_true,if_false];exact aQ (h _ _ c2 (fun b o h1 h2 q=>(s2.2 b h2).trans ((s1.2 b h1).trans q)) ak (ksk_out (b:=false) hk hp hs))
set_option maxHeartbeats 4000000 in
theorem Rz(nk:s.heap.get? kS=some (dG "list" keys e))(na:s.heap.get? a=some (dG "list" #[] e1))(ab:kS≠a)
 (hk:fM keys.toList kz) (W:kz.length=vs.length) (O:vs.length<64)
 (h:∀h' ak c,(∀b o,b≠kS->b≠a->s.heap.get? b=some o->h'.get? b=some o)->h'.get? a=some (dG "list" ak c)->KskOut false kz vs ak.toList->P (.done (.ret .none)) { s with heap:=h' }) :
 bv (cr prog w) A (ksk_end a false vs.toArray e1 (.ref kS) keys) P E s:=by
 have hsz:keys.size=vs.length:=by
  have h1:=hk.length;rw[YJ]at h1
  lia
 have J:(keys.zip vs.toArray).size=vs.length:=by rw[Array.size_zip,hsz,Zs,Nat.min_self]
 unfold ksk_end
 try dsimp only
 simp only[Bool.false_eq_true,if_false];by_cases h2:vs.toArray.size<2
 ·rw[if_pos h2,if_pos h2];refine ac (aQ ?_);rw[StateT.run_pure];refine ac (aQ ?_)
  try dsimp only
  refine Kv (st:=SortSt.mk' general' (keys.zip vs.toArray) #[] 7 none) nk na ab hk W O (Array.Perm.refl _) ?_ rfl h;intro i j an hj;have al:j<(keys.zip vs.toArray).size:=hj;rw[J]at al;rw[Zs]at h2;have:i=j:=by lia
  subst this;exact Int.le_refl _
 ·rw[if_neg h2,if_neg h2];rw[Zs]at h2;rw[ksk_kind hk (by rw[hsz];lia)]
  refine ac (aQ ?_)
  refine ac (dF (wpS_sortRuns (a₀:=keys.zip vs.toArray) (st:=SortSt.mk' oneType' (keys.zip vs.toArray) #[] 7 none)
   (Q:=fun _ Y=>(arrOf Y).Perm (keys.zip vs.toArray)/\failedOf Y=none/\SortedTo (arrOf Y) (keys.zip vs.toArray).size)
   (ksk_intKeys hk) ⟨Array.Perm.refl _,Z,Z,Z⟩ (by rw[J];lia) (by rw[J];exact O) fun Y a1 a2 a3=>⟨a1,a2,a3⟩) ?_ fun _ _ e=>e)
  rintro⟨⟨⟩,Y⟩ s' ⟨rfl,hp,hf,hs⟩
  try dsimp only
  exact Kv nk na ab hk W O hp (by rw[hp.size_eq];exact hs) hf h
end
section
variable {X:Cx}{pins:List (ad×Obj)}{σ:St}{H:Hp}{A:dl}{E:am->aI->Prop}{a kS:ad}{vs:List am}{kz:List Int}{e1:Nat}{P:PySem.Fin->aI->Prop}{f:am}
set_option maxHeartbeats 4000000 in
theorem Po{s:aI}(fa:DR X pins H a)(O:DR X pins H kS)(ap:kS≠a)(I:Inv X (pins++[(a,dG "list" #[] e1),(kS,dG "list" #[] 0)]) σ H s)(ak:kz.length=vs.length)(a0:vs.length<64)
 (as:∀(i:Nat) (v:am) (k:Int),vs[i]? = some v->kz[i]? = some k->∀(pins':List (ad×Obj)) (s':aI),Inv X pins' σ H s'->bv (cr X.prog X.w) A (call f [v]) (fun u Y=>(∃t,u = .int k t)/\Inv X pins' σ H Y) (fun _ _=>False) s')
 (h:∀s' ab c,Inv X pins σ H s'->s'.heap.get? a=some (dG "list" ab c)->KskOut false kz vs ab.toList->P (.done (.ret .none)) s') :
 bv (cr X.prog X.w) A (ksk_rest a f false vs.toArray e1 (.ref kS)) P E s:=by
 unfold ksk_rest;refine ac (fj ?_)
 first
  | rw[List.forIn_toArray]
  | (rw[<- bG];simp only[List.toList_toArray])
  | rw[<- bG]
 have an:∀{W:Array am} {e:Nat} {s':aI},Inv X (pins++[(a,dG "list" #[] e1),(kS,dG "list" W e)]) σ H s'->Inv X pins σ H s'/\s'.heap.get? a=some (dG "list" #[] e1)/\s'.heap.get? kS=some (dG "list" W e):=fun{W e s'} J =>
  ⟨J.pins_of fun p hp=>J.pin p (YM _ (YF _ hp)),(J.pin (a,dG "list" #[] e1) (YM _ (YM _ (.head _)))).1,(J.pin (kS,dG "list" W e) (YM _ (YM _ (.tail _ (.head _))))).1⟩
 refine ac (ksk_fold (fun i s'=>∃W e,Inv X (pins++[(a,dG "list" #[] e1),(kS,dG "list" W e)]) σ H s'/\fM W.toList (kz.take i)) vs 0 s ⟨#[],0,I,by simpa using IntsAre.nil⟩ ?step ?done)
 case step =>
  rintro j x s' hx ⟨W,e,I',hk⟩;simp only[bE]at hk ⊢;have hj:j<vs.length:=(YG.mp hx).1;obtain⟨k,al⟩:∃k,kz[j]? = some k:=⟨_,aB (by lia)⟩
  have hz:W.size<=vs.length:=by
   have h1:=hk.length;rw[YJ,Zh]at h1
   lia
  refine ac (ft (dF (as j x k hx al _ s' I') (fun v Y he=>?_) fun _ _ hF=>hF.elim));obtain⟨⟨t2,rfl⟩,I2⟩:=he;obtain⟨I3,pa,pk⟩:=an I2
  try dsimp only
  have s1:=Heap.SameBut.update Y.heap kS (Obj.mapSeq (·.push (.int k t2)));obtain⟨c2,aP⟩:∃c2,(Y.heap.update kS (Obj.mapSeq (·.push (.int k t2)))).get? kS=some (dG "list" (W.push (.int k t2)) c2):=⟨_,get?_update_seq pk (·.push (.int k t2))⟩;have ek:kz.take (j+1)=kz.take j++[k]:=by rw[ai,al];simp
  have ea:(W.push (Value.int k t2)).toList=W.toList++[Value.int k t2]:=by simp
  refine ac (fQ pk rfl ?_ (by rw[dv];lia) (Yy (Z5 (bO ..)) (by rw[dv];lia)))
  refine aQ ⟨Z,W.push (.int k t2),c2,?_,by rw[ea,ek];exact ksk_snoc hk⟩
  have I4:Inv X pins σ H { Y with heap:=Y.heap.update kS (Obj.mapSeq (·.push (.int k t2))),toks:=Y.toks }:=I3.turned (it:=kS) (fun b o hb q=>(s1.2 b hb).trans q) O.1 O.2.1 O.2.2.2.1 O.2.2.2.2.1 O.2.2.2.2.2
  refine I4.pins_of fun p hp=>?_
  rcases YE.mp hp with z | z
  ·exact I4.pin p (YM _ z)
  ·rcases YD.mp z with rfl | z
   ·exact⟨(s1.2 a ap.symm).trans pa,fa.1,fa.2.1,fa.2.2.1,fun v z=>by cases z⟩
   ·rw[aA.mp z];exact⟨aP,O.1,O.2.1,O.2.2.1,fun v z=>by cases z⟩
 case done =>
  rintro s' ⟨W,e,I',hk⟩
  have ba:fM W.toList kz:=by
   have e3:kz.take (0+vs.length)=kz:=bj (by lia)
   rw[e3]at hk;exact hk
  obtain⟨I3,pa,pk⟩:=an I'
  try dsimp only
  refine ac (listItems_at pk rfl ?_);refine Rz pk pa ap ba ak a0 fun h' ab c aF aC ko=>h _ ab c ?_ aC ko
  exact I3.turnedL (t':=s'.toks) (ch:=[kS,a]) (fun b o hb q=>aF b o (fun z=>hb (by rw[z];simp)) (fun z=>hb (by rw[z];simp)) q) fun b hb=>by
   rcases YD.mp hb with rfl | hb
   ·exact O
   ·rw[aA.mp hb];exact fa
end
theorem MC{xs:List V}{us:List am}(r:AF xs us):∀kz:List Int,Paired (fun(p:Int×V) (q:Int×am)=>p.1=q.1/\AJ p.2 q.2) (kz.zip xs) (kz.zip us):=by
 induction r with
 | nil=>intro kz;rw[List.zip_nil_right,List.zip_nil_right];exact .nil
 | cons h _ ih =>
   intro kz;cases kz with
   | nil=>exact .nil
   | cons k kz=>exact .cons ⟨Z,h⟩ (ih kz)
theorem ME{zs:List (Int×V)}{ps:List (Int×am)}(h:Paired (fun(p:Int×V) (q:Int×am)=>p.1=q.1/\AJ p.2 q.2) zs ps):zs.map Prod.fst=ps.map Prod.fst:=by
 induction h with
 | nil=>rfl
 | cons h _ ih=>rw[Z2,Z2,ih,h.1]
theorem MD{zs:List (Int×V)}{ps:List (Int×am)}(h:Paired (fun(p:Int×V) (q:Int×am)=>p.1=q.1/\AJ p.2 q.2) zs ps):AF (zs.map Prod.snd) (ps.map Prod.snd):=by
 induction h with
 | nil=>exact .nil
 | cons h _ ih=>exact .cons h.2 ih
theorem Inv.own{X:Cx}{pins:List (ad×Obj)}{σ:St}{H:Hp}{s:aI}{D:ad}{o:HO}(J:Inv X pins σ H s)(fp:DR X pins H D)(Y:BH X.prog X.w (upd H D o) s.heap D o):Inv X pins σ (upd H D o) s:=by
 have nD:∀{b:ad} {u:HO},H b=some u->b≠D:=fun{b u} e z=>by rw[z,fp.1]at e;cases e
 refine J.step (g':=s.gens) (d':=s.drawn) (t':=s.toks) (h':=s.heap) (ch:=[D]) (fun b hb=>?_) (fun b o _ _ _ e _=>e) (fun b o _ _ _ e _=>⟨o.slots,e⟩) (fun b o W e n=>by rw[Aq (fun z=>W (by simp[z]))];exact n)
  (fun b o _ e=>⟨o,e⟩) (fun b xs e=>by rw[Aq (nD e)];exact e) (fun b o u e=>by rw[Aq (nD e)];exact e) (fun b ps e=>⟨#[],by rw[Aq (nD e),e];simp⟩) (fun m O=>O) (fun b u e=>?_) J.bare
 ·rw[aA.mp hb];exact⟨fp.2.2.2.1,fp.2.1,fp.2.2.2.2.1,fp.2.2.2.2.2⟩
 ·by_cases z:b=D
  ·subst z;rw[A9]at e;cases e;exact Y
  ·rw[Aq z]at e;exact(J.hok b u e).stay (fun _ _ _ q=>q) (fun c q=>by rw[Aq (nD q)];exact q) fun c xs q=>by rw[Aq (nD q)];exact q
section
variable {X:Cx}{pins:List (ad×Obj)}{σ:St}{H:Hp}{E:am->aI->Prop}{kz:List Int}{f:ad}{s:aI}{l:ad}{xs:List V}{Q:VK}
set_option maxHeartbeats 4000000 in
theorem M9(I:Inv X pins σ H s)(hl:SqL X.K H l xs)(bl:kz.length=xs.length)(bp:xs.length<64)
 (aP:∀(i:Nat) (x:V) (k:Int) (v:am),xs[i]? = some x->kz[i]? = some k->AJ x v->∀(pins':List (ad×Obj)) (s':aI),Inv X pins' σ H s'->bv (cr X.prog X.w) X.A.in1.in1 (call (.ref f) [v]) (fun u be=>(∃t,u = .int k t)/\Inv X pins' σ H be) (fun _ _=>False) s')
 (q:∀p ys,H p=none->(∃zs:List (Int×V),zs.Perm (kz.zip xs)/\ys=zs.map Prod.snd/\zs.Pairwise fun p q=>p.1<=q.1)->Q (.ref p) (upd H p (.lst ys))) :
 bv (cr X.prog X.w) X.A (call (.builtin "sorted") [.ref l] [(Str.ofString "key",.ref f)]) (EP X pins σ Q) E s:=by
 obtain⟨vs,r,ht,hz⟩:=I.list hl;have bm:vs.length=xs.length:=r.length.symm;refine call_function_entry_kw kind_sorted plain_sorted entry_sorted (ksk_s1 _ _) ?_;unfold Builtin.«sorted»;refine ac (m:=checkCount "sorted" 1 1 _) (aQ ?_);refine ac (collect_list ht.isList ?_ (by rw[dv];lia))
 refine ac (wpAny_newList ?_ (by rw[dv];lia))
 have hsz:((s.heap.push (dG "list" #[] 0)).update s.heap.objs.size (Obj.mapSeq (· ++ vs.toArray))).objs.size=s.heap.objs.size+1:=by
  rw[Heap.size_update,size_push']
 have W:(((s.heap.push (dG "list" #[] 0)).update s.heap.objs.size (Obj.mapSeq (· ++ vs.toArray))).push (dG "list" vs.toArray 0)).get? (s.heap.objs.size+1)=some (dG "list" vs.toArray 0):=by
  rw[<- hsz];exact Heap.get?_push_size _ rfl
 have ba:∀b o,s.heap.get? b=some o->(((s.heap.push (dG "list" #[] 0)).update s.heap.objs.size (Obj.mapSeq (· ++ vs.toArray))).push (dG "list" vs.toArray 0)).get? b=some o:=fun b o q=>by
  have an:b<s.heap.objs.size:=Heap.lt_size q;rw[Heap.get?_push_ne _ _ _ (by rw[hsz];exact Yt (az an)),Heap.get?_update_ne _ _ _ _ (Yt an),Heap.get?_push_ne _ _ _ (Yt an)]
  exact q
 show bv _ _ _ _ _ { s with heap:=((s.heap.push (dG "list" #[] 0)).update s.heap.objs.size (Obj.mapSeq (· ++ vs.toArray))).push (dG "list" vs.toArray 0) }
 rw[hsz];have I1:Inv X pins σ H { s with heap:=((s.heap.push (dG "list" #[] 0)).update s.heap.objs.size (Obj.mapSeq (· ++ vs.toArray))).push (dG "list" vs.toArray 0),toks:=s.toks }:=I.kept ba
 have aF:H (s.heap.objs.size+1)=none:=I.hok.fresh (Zc _);have O:DR X pins H (s.heap.objs.size+1):=I.fpOk (Zc _) aF;refine ac (dz (wpAny_call_entry_kw slot_list_sort ⟨_,W,Z⟩ entry_list_sort ?body (ksk_l1 _ _)))
 case body =>
  show bv (cr X.prog X.w) X.A.in1.in1 (Builtin.«list.sort» ⟨[.ref (s.heap.objs.size+1)],[(Str.ofString "key",.ref f)]⟩) _ _ _;rw[ksk_t1];generalize((s.heap.push (dG "list" #[] 0)).update s.heap.objs.size (Obj.mapSeq (· ++ vs.toArray))).push (dG "list" vs.toArray 0)=h2 at W I1 ⊢;have s1:=Heap.SameBut.update h2 (s.heap.objs.size+1) (Obj.mapSeq fun _=>(#[]:Array am));obtain⟨e1,ab⟩:∃e1,(h2.update (s.heap.objs.size+1) (Obj.mapSeq fun _=>(#[]:Array am))).get? (s.heap.objs.size+1)=some (dG "list" #[] e1):=⟨_,get?_update_seq W fun _=>#[]⟩;unfold ksk_tree;refine ac (listItems_at W rfl ?_);refine ac (fQ W rfl ?_ (by rw[Zs,dv];lia) (YN _))
  refine ac (seqEpoch_at ab rfl ?_);refine ac (wpAny_newTuple ?_ (by show vs.length<=_;rw[dv];lia))
  refine ac (wpAny_newList ?_ (YN _));refine dz ?_;have I2:=I1.turned (it:=s.heap.objs.size+1) (t':=s.toks) (h':=h2.update (s.heap.objs.size+1) (Obj.mapSeq fun _=>(#[]:Array am))) (fun b o hb q=>(s1.2 b hb).trans q) O.1 O.2.1 O.2.2.2.1 O.2.2.2.2.1 O.2.2.2.2.2;have I2:Inv X pins σ H { s with heap:=h2.update (s.heap.objs.size+1) (Obj.mapSeq fun _=>(#[]:Array am)),toks:=s.toks }:=I2
  generalize h2.update (s.heap.objs.size+1) (Obj.mapSeq fun _=>(#[]:Array am))=h3 at ab I2 ⊢;have I3:Inv X pins σ H { s with heap:=h3.push (dG "tuple" vs.toArray 0),toks:=s.toks }:=I2.kept fun b o q=>Heap.get?_push_of_some _ q
  have al:(h3.push (dG "tuple" vs.toArray 0)).get? (s.heap.objs.size+1)=some (dG "list" #[] e1):=Heap.get?_push_of_some _ ab;show bv _ _ _ _ _ { s with heap:=(h3.push (dG "tuple" vs.toArray 0)).push (dG "list" #[] 0) }
  generalize h3.push (dG "tuple" vs.toArray 0)=h4 at I3 al ⊢;have bc:H h4.objs.size=none:=I3.hok.fresh (YL _);have fk:DR X pins H h4.objs.size:=I3.fpOk (YL _) bc;have bd:h4.objs.size≠s.heap.objs.size+1:=YK (Heap.lt_size al);have I4:Inv X pins σ H { s with heap:=h4.push (dG "list" #[] 0),toks:=s.toks }:=I3.kept fun b o q=>Heap.get?_push_of_some _ q
  refine Po (a:=s.heap.objs.size+1) (kS:=h4.objs.size) (e1:=e1) (kz:=kz) (vs:=vs) O fk bd (I4.pins_of fun p hp=>?_) (by lia) (by lia) (fun i v k hv hk pins' s' I'=>?_) fun s' bh c J a0 ko=>⟨_,Z,?_⟩
  ·rcases YE.mp hp with z | z
   ·exact I4.pin p (YM _ z)
   ·rcases YD.mp z with rfl | z
    ·exact⟨Heap.get?_push_of_some _ al,O.1,O.2.1,O.2.2.1,fun v z=>by cases z⟩
    ·rw[aA.mp z];exact⟨Heap.get?_push_size _ rfl,fk.1,fk.2.1,fk.2.2.1,fun v z=>by cases z⟩
  ·have hi:i<xs.length:=by have:=(YG.mp hv).1;lia
   have hx:xs[i]? = some xs[i]:=aB hi;obtain⟨u,hu,ru⟩:=r.get hx;rw[hv]at hu;cases hu;exact aP i _ k v hx hk ru pins' s' I'
  ·refine aQ ⟨_,Z,?_⟩;obtain⟨ps,ak,as,Y⟩:=ko;obtain⟨zs,aC,bb⟩:=Gv ak.symm (MC r kz);have ap:=MD bb;rw[<- as]at ap
   have bg:(zs.map Prod.snd).length<=bi:=by
    rw[Z4,aC.length_eq,ck,dv];lia
   have bf:zs.Pairwise fun p q=>p.1<=q.1:=by
    have h1:(zs.map Prod.fst).Pairwise (· <= ·):=by
     rw[ME bb];exact cm.mpr (Y.imp fun h=>by simpa using h)
    exact cm.mp h1
   refine⟨.ref (s.heap.objs.size+1),upd H (s.heap.objs.size+1) (.lst (zs.map Prod.snd)),J.own O ⟨bg,bh.toList,c,ap,?_⟩,Z,q _ _ aF ⟨zs,aC,Z,bf⟩⟩;rw[a0]
end
theorem U2{cs:List ad}{H:Hp}:onC cs H (offC cs H)=H:=by
 funext b
 by_cases h:b∈cs
 ·rw[SR h]
 ·rw[E6 h,C6 h]
theorem S4{cs:List ad}{W:ad->Obj}{H:Hp}(Y:∀c∈cs,H c=none):offC cs (EC cs W H)=H:=by
 funext b
 by_cases h:b∈cs
 ·rw[FZ h,Y b h]
 ·rw[C6 h,BQ h]
theorem Ua{P:ce}{w:db}{K:Yx}{mg:Str->Option am}{base:dw}{k:Nat}{f c' Pt:ad}{q:Str}{Y:fG}{body:Expr}{scope:dJ}{cl:List (Str×ad)}{pm ab:am}{env:Env}{N ps fr:List Str}{σ:St}{os:ad->Obj}{H1 H2:Hp}{ws:List V}{Ok:List V->V->Prop}
 (LN:Rj H1 H2 Pt q f c' (bT "<lambda>" q Y body scope cl pm (.ref c') ab)) (C:Km env cl) (W:∀x∈scope.names,x.2 = .free->∃c,(x.1,c)∈cl) (J:∀c∈cl.map (·.2),H2 c=none) (ap:OW N σ env.scope cl os)
 (S:T9 scope ps) (as:∀us:List am,us.length=ps.length->∀(j:Nat) (x:Str) (u:am),ps[j]? = some x->us[j]? = some u->(ps.zip us).reverse.lookup x=some u)
 (an:Cap env.scope scope N σ fr ws)
 (O:∀(A:dl) (outer:List Env) (s:aI) (E:XK) (vs:List V) (r:V) (H':Hp) (Q:VK),BK k (A.deeper (bR q scope s.heap.objs.size f (.ref c') cl))->vs.length=ps.length->Ok vs r->Ac H2 H'->Q r H' ->
  ∃t,PE (NW CX0 P w K mg base (ps++fr) q scope f (.ref c') cl A outer s H' E) body t/\t (vs.map some++ws.map some) H' Q) :
 Ax P w K mg base CX0 (k+1) f (bT "<lambda>" q Y body scope cl pm (.ref c') ab) ps (fun vs H Q _=>vs.length=ps.length/\Ac (EC (cl.map (·.2)) os H2) H/\∃r,Ok vs r/\Q r H):=by
 have aC:Ac H2 (EC (cl.map (·.2)) os H2):=Ac.trk J;refine U9 (N:=ps++fr) (fun vs H Q E h=>h.1) as fun A outer s H vs Q E hr h=>?_;obtain⟨hl,hm,r,ho,hq⟩:=h;have al:=aC.trans hm;have L:=Qw S C W ap an hl hm;have ak:Ac H2 (offC (cl.map (·.2)) H):=Ac.untrk hm J;obtain⟨t,h1,h2⟩:=O A outer s E vs r (offC (cl.map (·.2)) H) (fun v H'=>(∀c∈cl.map (·.2),H' c=none)->Q v (onC (cl.map (·.2)) H H')) hr hl ho ak fun _=>by rw[U2];exact hq
 exact⟨al _ _ LN.lam,al _ _ LN.cod,_,L,t,h1,h2,fun e s' z=>z.elim⟩
abbrev Cx.deep(X:Cx)(A:dl):Cx:={ X with A:=A }
theorem Inv.deep{X:Cx}{pins:List (ad×Obj)}{σ:St}{H:Hp}{s:aI}{A:dl}(I:Inv X pins σ H s)(h1:A.handled=X.A.handled)(h2:A.frames=X.A.frames):Inv (X.deep A) pins σ H s :=
 ⟨⟨I.ok.mod,I.ok.kind,I.ok.glob,I.ok.blt,I.ok.above,I.ok.inj,I.ok.has,I.ok.cab,fun z=>by rw[show(X.deep A).A.handled=A.handled from rfl,h1];exact I.ok.hd z,by rw[show(X.deep A).A.frames=A.frames from rfl,h2];exact I.ok.frames,I.ok.stk,I.ok.exf,I.ok.bs,I.ok.bsz,I.ok.noex,I.ok.exfs,I.ok.funs,I.ok.frf⟩,I.os,I.bare,I.base,I.loc,I.cell,I.free,I.freeC,I.pin,I.hok,I.len⟩
theorem Inv.undeep{X:Cx}{pins:List (ad×Obj)}{σ:St}{H:Hp}{s:aI}{A:dl}(I:Inv (X.deep A) pins σ H s)(h1:A.handled=X.A.handled)(h2:A.frames=X.A.frames):Inv X pins σ H s :=
 ⟨⟨I.ok.mod,I.ok.kind,I.ok.glob,I.ok.blt,I.ok.above,I.ok.inj,I.ok.has,I.ok.cab,fun z=>by rw[<- h1];exact I.ok.hd z,by rw[<- h2];exact I.ok.frames,I.ok.stk,I.ok.exf,I.ok.bs,I.ok.bsz,I.ok.noex,I.ok.exfs,I.ok.funs,I.ok.frf⟩,I.os,I.bare,I.base,I.loc,I.cell,I.free,I.freeC,I.pin,I.hok,I.len⟩
theorem RI{X:Cx}{pins:List (ad×Obj)}{σ:St}{H:Hp}{s:aI}{A:dl}{k:Nat}{f:ad}{fd:bn}{ps:List Str}{us:List am}{vs:List V}{cl:List (Str×ad)}{kk:Int}(O:A.handled=X.A.handled)(Y:A.frames=X.A.frames)(hr:BK k A)(hb:Be X.K fd ps [])(ab:∀y,X.fn y=true)(I:Inv X pins σ H s)(r:AF vs us)(C:Km X.env cl)
 (h:∀W,(∀c∈cl.map (·.2),H c=none)->OW X.N σ X.env.scope cl W->∃sp,Ax X.prog X.w X.K X.mg X.base CX0 k f fd ps sp/\∀Q:VK,Q (.int kk) (EC (cl.map (·.2)) W H)->sp vs (EC (cl.map (·.2)) W H) Q (fun _ _ _=>False)) :
 bv (cr X.prog X.w) A (call (.ref f) us) (fun u s'=>(∃t,u = .int kk t)/\Inv X pins σ H s') (fun _ _=>False) s:=by
 have F:Ax X.prog X.w X.K X.mg X.base CX0 k f fd ps (fun vs H Q E=>∃sp,Ax X.prog X.w X.K X.mg X.base CX0 k f fd ps sp/\sp vs H Q E) :=
  ⟨fun vs H Q E ⟨sp,F,h⟩=>F.len vs H Q E h,fun A outer s H args us vs Q E hr he hb hv ⟨sp,F,h⟩=>F.run A outer s H args us vs Q E hr he hb hv h⟩
 have J:Inv ((X.nox).deep A) pins σ H s:=(I.wish _).deep O Y;refine dF (RJ (X:=(X.nox).deep A) (CX:=CX0) (E:=fun _ _ _=>False) (Q:=fun v H'=>v = .int kk/\H'=H) F hr hb ab (fun e H' s' _ z=>z.elim) J r C fun W hn hi=>?_) (fun u s' ⟨v,H',I',rv,ev,eH⟩=>?_) fun _ _ z=>z
 ·obtain⟨sp,F1,q⟩:=h W hn hi;exact⟨sp,F1,q _ ⟨fun c hc=>M4 hc,Z,S4 hn⟩⟩
 ·subst ev;subst eH;obtain⟨t,rfl⟩:=rv;exact⟨⟨t,Z⟩,(I'.undeep O Y).unwish⟩
theorem Eo{M:Model}{A:dl}{E:am->aI->Prop}{s:aI}{pos:Pos}{id:String}{first:List am}{args:List (Bool×Sem am)}{Y:List (Option Str×Sem am)}{Q:am->aI->Prop}(W:(args.any (·.1)||Y.any (·.1.isNone))=false)
 (h:bv M A (evalArgs (.builtin id) true args Y) (fun a O=>bv M A (call (.builtin id) (first++a.pos) a.kw) Q E O) E s) :
 bv M A (callWith pos (.builtin id) first args Y) Q E s:=by
 unfold callWith;refine ac (dz (dF h (fun a O h₁=>ac (eV ?_)) fun _ _ x=>x));simp only[W];refine ac (aQ ?_);exact ac (dF h₁ (fun r J hr=>ac (dz (wpAny_point (aQ hr)))) fun _ _ x=>x)
def UO(env:Env)(N:List Str)(P:ce)(w:db)(K:Yx)(mg:Str->Option am)(base:dw)(k:Nat)(te tk:TE):TE:=fun σ H Q=>te σ H fun x H1=>∃l,x = .ref l/\tk σ H1 fun y H2=>∃(f:ad) (fd:bn) (ps:List Str) (cl:List (Str×ad)) (xs:List V) (kz:List Int),y = .ref f/\SqL K H2 l xs/\kz.length=xs.length/\xs.length<64/\Be K fd ps []/\Km env cl /\
 (∀os,(∀c∈cl.map (·.2),H2 c=none)->OW N σ env.scope cl os->∃sp,Ax P w K mg base CX0 k f fd ps sp/\∀(i:Nat) (x:V) (kk:Int),xs[i]? = some x->kz[i]? = some kk->∀Q':VK,Q' (.int kk) (EC (cl.map (·.2)) os H2)->sp [x] (EC (cl.map (·.2)) os H2) Q' (fun _ _ _=>False)) /\
 ∀(p:ad) (ys:List V),H2 p=none->(∃zs:List (Int×V),zs.Perm (kz.zip xs)/\ys=zs.map Prod.snd/\zs.Pairwise fun p q=>p.1<=q.1)->Q (.ref p) (upd H2 p (.lst ys))
theorem Qb(K:Yx){X:Cx}{e W:Expr}{te tk:TE}{k m:Nat}{p pos kp:Pos}(hr:BK m X.A)(O:∀y,X.fn y=true)(hg:Gl X "sorted")(hm:X.mg "sorted" = none)(he:PE X e te)(hk:PE X W tk)(ak:k+2<=m:=by decide)(hs:cQ [e] X.env=[(false,dE e X.env)]:=by rfl)(e0:X.K=K:=by rfl) :
 PE X (.Call (.Name "sorted" p) [e] [⟨some "key",W,kp⟩] pos) (UO X.env X.N X.prog X.w K X.mg X.base k te tk):=by
 subst e0;intro pins s σ H Q I h;refine eF (CG I hg hm (show dy "sorted" = some (.builtin "sorted") by with_unfolding_all rfl) ?_ (by decide) (by decide))
 rw[hs];show bv _ _ (callWith pos (.builtin "sorted") [] [(false,dE e X.env)] [(some "key",do let v <- dE W X.env;standAt pos;pure v)]) _ _ s
 refine Eo rfl (evalArgs_kw rfl ?_);refine Calls.spliced_cons (thn (he pins s σ H _ I h) fun u s1 ⟨x,H1,I1,r1,q1⟩=>Calls.spliced_nil ?_);obtain⟨l,rfl,q1⟩:=q1;cases r1;show bv _ _ (evalAll [do let v <- dE W X.env;standAt pos;pure v]) _ _ s1
 refine wpAny_evalAll_cons (ac (thn (hk pins s1 σ H1 _ I1 q1) fun u s2 ⟨y,H2,I2,r2,q2⟩=>ac (eV (aQ (wpAny_evalAll_nil ?_)))));obtain⟨f,fd,ps,cl,xs,kz,rfl,hl,Y,ab,hb,C,hF,q⟩:=q2;cases r2;show bv _ _ (call (.builtin "sorted") [.ref l] [(Str.ofString "key",.ref f)]) _ _ s2;exact M9 I2 hl Y ab (fun i x kk v hx J rv pins' s' I'=>RI rfl rfl (hr.mono ak).in1.in1 hb O I' (.cons rv .nil) C fun os hn hi=>let ⟨sp,F,qq⟩:=hF os hn hi;⟨sp,F,fun Q' hq=>qq i x kk hx J Q' hq⟩) q
abbrev EU(h:dw)(z TI TO a:ad)(f:Bool):Prop :=
 h.get? z=some { cls:=.type "zip",dict:=none,data:=.fields #[dW a,.bool f,.bool false,.ref TI,.ref TO],slots:=#[] }
section
variable {prog:ce}{w:db}{A:dl}{E:am->aI->Prop}{s:aI}
theorem Rn{a:ad}{o:Obj}{Q:Option Obj->aI->Prop}(Y:s.heap.get? a=some o)(h:Q (some o) s):bv (cr prog w) A (loadIfAlive a) Q E s:=by
 have h':Q (s.heap.get? a) s:=by rw[Y];exact h
 exact fun _ _ _=>h'
theorem OZ{z TI TO a:ad}{f:Bool}{oa:Obj}{Q:Bool->aI->Prop}(hz:EU s.heap z TI TO a f)(ha:s.heap.get? a=some oa)
 (J:∀h',EU h' z TI TO a true->Heap.SameBut z s.heap h'->Q false { s with heap:=h' }):bv (cr prog w) A (Builtin.SmallTypes.ownedTupleIsFree (.ref z)) Q E s:=by
 unfold Builtin.SmallTypes.ownedTupleIsFree;refine ac (dB hz rfl (x:=dW a) rfl ?_);show bv _ _ (loadIfAlive ((a:Int).toNat) >>= _) _ _ _;rw[Zt];refine ac (Rn ha ?_);simp only[Option.isNone_some,Bool.false_eq_true,if_false];refine ac (dB hz rfl (x:=.bool f) rfl ?_);cases f with
 | true =>
   rw[if_neg (show ¬((Value.bool true != Value.bool true)=true) from Bool.false_ne_true)];exact aQ (J _ hz (Heap.SameBut.refl _ _))
 | false =>
   rw[if_pos (show(Value.bool false != Value.bool true)=true from rfl)];refine ac (dQ hz (by simp) fun O W Y=>?_)
   exact aQ (J O W Y)
theorem Jh{z TI TO a i1 i2 l1 l2:ad}{f:Bool}{oa:Obj}{k1 k2:Nat}{xs ys:Array am}{x y:am}{Q:am->aI->Prop}(D:fi z TI TO i1 i2 l1 l2)
 (hz:EU s.heap z TI TO a f) (ha:s.heap.get? a=some oa) (aC:dI s.heap TI (.ref i1) (.ref i2))
 (h1:s.heap.IsListIter i1 l1 k1) (h2:s.heap.IsListIter i2 l2 k2) (aF:s.heap.IsList l1 xs) (a0:s.heap.IsList l2 ys) (hx:xs[k1]? = some x) (hy:ys[k2]? = some y)
 (hQ:∀h',EU h' z TI TO a true->h'.IsListIter i1 l1 (k1+1)->h'.IsListIter i2 l2 (k2+1)->dI h' s.heap.objs.size x y->h'.objs.size=s.heap.objs.size+1 ->
  (∀c o,c≠z->c≠i1->c≠i2->s.heap.get? c=some o->h'.get? c=some o)->Q (.ref s.heap.objs.size) { s with heap:=h' }) :
 bv (cr prog w) A (Builtin.«zip.__next__» ⟨[.ref z],[]⟩) (fun aP s'=>∃v,aP = .done (.ret v)/\Q v s') E s:=by
 show bv _ _ (field (.ref z) 2 >>= _) _ _ _;refine ac (dB hz rfl (x:=.bool false) rfl ?_);show bv _ _ (field (.ref z) 3 >>= _) _ _ _;refine ac (dB hz rfl (x:=.ref TI) rfl ?_);refine ac (dM aC rfl ?_);show bv _ _ (Builtin.SmallTypes.ownedTupleIsFree (.ref z) >>= _) _ _ _;refine ac (OZ hz ha fun h₁ an Y=>?_);simp only[Bool.false_eq_true,if_false];refine ac ?_;simp only[<- bG,ar,cq];refine ac (ac (dz ?_));show bv _ _ (Builtin.SmallTypes.nextOf (.ref i1) >>= _) _ _ _;refine ac (eG (h1.extBut Y.extBut D.i1z) (aF.extBut Y.extBut D.l1z) hx fun ba ap W=>aQ ?_);refine aQ ?_;refine ac (ac (dz ?_));show bv _ _ (Builtin.SmallTypes.nextOf (.ref i2) >>= _) _ _ _
 refine ac (eG ((h2.extBut Y.extBut D.i2z).extBut W.extBut D.i12.symm)
  ((a0.extBut Y.extBut D.l2z).extBut W.extBut D.l2i1) hy fun O al J=>aQ ?_)
 refine aQ (aQ ?_);show bv _ _ (newTuple [x,y] >>= _) _ _ _;refine ac (wpAny_newTuple ?_);have hsz:O.objs.size=s.heap.objs.size:=by rw[J.1,W.1,Y.1]
 have ak:EU O z TI TO a true:=J.extBut _ _ D.i2z.symm (W.extBut _ _ D.i1z.symm an);have as:∀c o,c≠z->c≠i1->c≠i2->s.heap.get? c=some o->O.get? c=some o:=fun c o c1 c3 c4 e=>J.extBut _ _ c4 (W.extBut _ _ c3 (Y.extBut _ _ c1 e));have ab:O.IsListIter i1 l1 (k1+1):=ap.extBut J.extBut D.i12;refine aQ ⟨_,Z,?_⟩;show Q (.ref O.objs.size) _;have hT:dI (O.push { cls:=.type "tuple",data:=.seq #[x,y] }) O.objs.size x y:=Heap.get?_push_size _ rfl;rw[hsz]at hT ⊢;exact hQ _ (Heap.get?_push_of_some _ ak) (ab.at fun o e=>Heap.get?_push_of_some _ e) (al.at fun o e=>Heap.get?_push_of_some _ e) hT (by rw[Heap.size_push,hsz]) fun c o c1 c2 c3 e=>Heap.get?_push_of_some _ (as c o c1 c2 c3 e)
theorem Kq{z TI TO a i1 i2 l1 l2:ad}{f:Bool}{oa:Obj}{k1:Nat}{xs:Array am}{Q:Fin->aI->Prop}(hh:A.handled=none)(D:fi z TI TO i1 i2 l1 l2)
 (hz:EU s.heap z TI TO a f) (ha:s.heap.get? a=some oa) (J:dI s.heap TI (.ref i1) (.ref i2))
 (h1:s.heap.IsListIter i1 l1 k1) (ak:s.heap.IsList l1 xs) (hx:xs[k1]? = none)
 (hE:∀h' e,(∀c o,c≠z->c≠i1->s.heap.get? c=some o->h'.get? c=some o)->(∃o,h'.get? e=some o/\o.cls = .type "StopIteration")->E (.ref e) { s with heap:=h' }) :
 bv (cr prog w) A (Builtin.«zip.__next__» ⟨[.ref z],[]⟩) Q E s:=by
 show bv _ _ (field (.ref z) 2 >>= _) _ _ _;refine ac (dB hz rfl (x:=.bool false) rfl ?_);show bv _ _ (field (.ref z) 3 >>= _) _ _ _;refine ac (dB hz rfl (x:=.ref TI) rfl ?_);refine ac (dM J rfl ?_);show bv _ _ (Builtin.SmallTypes.ownedTupleIsFree (.ref z) >>= _) _ _ _;refine ac (OZ hz ha fun h₁ ab Y=>?_);simp only[Bool.false_eq_true,if_false];refine ac ?_;simp only[<- bG,ar,cq];refine ac (ac (dz ?_));show bv _ _ (Builtin.SmallTypes.nextOf (.ref i1) >>= _) _ _ _;refine ac (wpAny_nextOf_list_end hh (h1.extBut Y.extBut D.i1z) (ak.extBut Y.extBut D.l1z) hx fun O e W he=>?_);exact hE O e (fun c o c1 c3 x=>W _ _ c3 (Y.extBut _ _ c1 x)) he
def ZSt(h:dw)(z TI TO S:ad):Prop:=(fD h z TI TO .none/\∃a b,dI h TO a b)\/∃a f oa,EU h z TI TO a f/\h.get? a=some oa/\S<a
theorem Te{z TI TO S i1 i2 l1 l2:ad}{k1 k2:Nat}{xs ys:Array am}{x y:am}{Q:Option am->aI->Prop}(D:fi z TI TO i1 i2 l1 l2)
 (hz:ZSt s.heap z TI TO S) (hS:S<s.heap.objs.size) (W:z<S/\TO<S/\i1<S/\i2<S) (O:dI s.heap TI (.ref i1) (.ref i2))
 (h1:s.heap.IsListIter i1 l1 k1) (h2:s.heap.IsListIter i2 l2 k2) (J:s.heap.IsList l1 xs) (ab:s.heap.IsList l2 ys) (hx:xs[k1]? = some x) (hy:ys[k2]? = some y)
 (hQ:∀h',ZSt h' z TI TO S->h'.IsListIter i1 l1 (k1+1)->h'.IsListIter i2 l2 (k2+1)->dI h' s.heap.objs.size x y->h'.objs.size=s.heap.objs.size+1 ->
  (∀c o,c≠z->c≠TO->c≠i1->c≠i2->s.heap.get? c=some o->h'.get? c=some o)->Q (some (.ref s.heap.objs.size)) { s with heap:=h' }) :
 bv (cr prog w) A (ff (.ref z)) Q E s:=by
 rcases hz with ⟨hz,a,b,ak⟩ | ⟨a,f,oa,hz,ha,Y⟩
 ·refine wpAny_pyNext_zip_item D hz O ak h1 h2 J ab hx hy fun h' a1 a2 a3 a4 a5 a6 a7=>?_;exact hQ h' (.inr ⟨_,false,_,a1,a5,hS⟩) a3 a4 a5 a6 a7
 ·have hT:s.TypeIs (.ref z) "zip":=⟨_,hz,Z⟩;unfold ff
  exact ac (ft (dD (name:=Str.ofString "__next__") hT F.slot_zip_next
   (dP F.slot_zip_next hT F.entry_zip_next
    (Jh D hz ha O h1 h2 J ab hx hy fun h' a1 a3 a4 a5 a6 a7=>aQ (hQ h' (.inr ⟨a,true,oa,a1,a7 a oa (YK (ZK W.1 Y)) (YK (ZK W.2.2.1 Y)) (YK (ZK W.2.2.2 Y)) ha,Y⟩) a3 a4 a5 a6 fun c o c1 _ c3 c4 e=>a7 c o c1 c3 c4 e)) (F.args_zip_next_1 _))))
theorem Tf{z TI TO S i1 i2 l1 l2:ad}{k1 k2:Nat}{xs ys:Array am}{Q:Option am->aI->Prop}(hh:A.handled=none)(D:fi z TI TO i1 i2 l1 l2)
 (hz:ZSt s.heap z TI TO S) (Y:dI s.heap TI (.ref i1) (.ref i2))
 (h1:s.heap.IsListIter i1 l1 k1) (h2:s.heap.IsListIter i2 l2 k2) (W:s.heap.IsList l1 xs) (J:s.heap.IsList l2 ys) (hx:xs[k1]? = none)
 (hQ:∀h',(∀c o,c≠z->c≠TO->c≠i1->c≠i2->s.heap.get? c=some o->h'.get? c=some o)->Q none { s with heap:=h' }):bv (cr prog w) A (ff (.ref z)) Q E s:=by
 rcases hz with ⟨hz,a,b,O⟩ | ⟨a,f,oa,hz,ha,ab⟩
 ·exact wpAny_pyNext_zip_end hh D hz Y O h1 h2 W J (.inl hx) hQ
 ·have hT:s.TypeIs (.ref z) "zip":=⟨_,hz,Z⟩;unfold ff
  refine ac (ft (dD (name:=Str.ofString "__next__") hT F.slot_zip_next
   (dP F.slot_zip_next hT F.entry_zip_next (Kq hh D hz ha Y h1 W hx fun h' e hk he=>?_) (F.args_zip_next_1 _))))
  obtain⟨o,ho,hc⟩:=he;refine ac (wpAny_isInstance (T:="StopIteration") (b:=true) ⟨o,ho,hc⟩ isSubtype_stop ?_);exact aQ (hQ _ fun c o c1 _ c3 _ e=>hk c o c1 c3 e)
theorem ZSt.keep{h h':dw}{z TI TO S:ad}(x:ZSt h z TI TO S)(hk:∀b o,b≠S->h.get? b=some o->h'.get? b=some o)(h1:z≠S)(h2:TO≠S):ZSt h' z TI TO S:=by
 rcases x with ⟨hz,a,b,W⟩ | ⟨a,f,O,hz,ha,Y⟩
 ·exact .inl ⟨hk _ _ h1 hz,a,b,hk _ _ h2 W⟩
 ·exact .inr ⟨a,f,O,hk _ _ h1 hz,hk _ _ (YK Y) ha,Y⟩
structure ZG(xs ys:Array am)(S:ad)(h:dw)(as:List ad):Prop where
 rise:as.Pairwise (· < ·)
 above:∀a∈as,S<a
 pairs:∀(j:Nat) (a:ad),as[j]? = some a->∃x y,xs[j]? = some x/\ys[j]? = some y/\dI h a x y
theorem ZG.there{xs ys:Array am}{S:ad}{h:dw}{Y:List ad}(g:ZG xs ys S h Y){a:ad}(ha:a∈Y):a<h.objs.size:=by
 obtain⟨j,W⟩:=List.mem_iff_getElem?.mp ha;obtain⟨_,_,_,_,e⟩:=g.pairs j a W;exact Heap.lt_size e
end
section
variable {prog:ce}{w:db}{A:dl}{s:aI}{R:Result->aI->Prop}{xs ys:Array am}{S z TI TO i1 i2 l1 l2 lo:ad}
structure Ra(z TI TO i1 i2 l1 l2 lo S:ad):Prop where
 ap:fi z TI TO i1 i2 l1 l2
 z1:lo<=z
 TO1:lo<=TO
 i11:lo<=i1
 i21:lo<=i2
 z2:z<S
 TI2:TI<S
 TO2:TO<S
 i12:i1<S
 i22:i2<S
 l1:l1<S
 l2:l2<S
 lS:lo<=S
theorem Td(hh:A.handled=none)(D:Ra z TI TO i1 i2 l1 l2 lo S)(bl:xs.size=ys.size)(hn:xs.size<=bi)(res:am){h₁:dw}
 (hR:∀h' tk J c as,(∀b o,b<lo->h₁.get? b=some o->h'.get? b=some o)->h'.get? S=some { cls:=.type "list",dict:=none,data:=.seq J c,slots:=#[] }->as.length=xs.size->ZG xs ys S h' as ->
  J.toList=as.map Value.ref->R (.ok (.ret res)) { s with heap:=h',toks:=tk }) :
 ∀ (k i:Nat) (h:dw) (tk c:Nat) (J:Array am) (as:List ad),xs.size-i=k->i<=xs.size->ZSt h z TI TO S->dI h TI (.ref i1) (.ref i2)->h.IsListIter i1 l1 i->h.IsListIter i2 l2 i->h.IsList l1 xs->h.IsList l2 ys->(∀b o,b<lo->h₁.get? b=some o->h.get? b=some o) ->
   h.get? S=some { cls:=.type "list",dict:=none,data:=.seq J c,slots:=#[] }->J.toList=as.map Value.ref->as.length=i->ZG xs ys S h as->S<h.objs.size ->
   eC (cr prog w) A (.builtin "list.extend.loop" ⟨[.ref S,.ref z,res],[]⟩) R { s with heap:=h,toks:=tk }:=by
 have W:∀b,b<lo->b≠z/\b≠TO/\b≠i1/\b≠i2/\b≠S:=fun b O=>⟨Yt (Yr O D.z1),Yt (Yr O D.TO1),Yt (Yr O D.i11),Yt (Yr O D.i21),Yt (Yr O D.lS)⟩;have ba:∀b,S<b->b≠z/\b≠TO/\b≠i1/\b≠i2:=fun b O=>⟨YK (ZK D.z2 O),YK (ZK D.TO2 O),YK (ZK D.i12 O),YK (ZK D.i22 O)⟩;have Y:=D.ap;intro k
 induction k with
 | zero =>
   intro i h tk c J as hk hi bb aF h1 h2 aP a0 ak hS al aC hG an;refine fB PySem.F.entry_extend_loop ?_;rw[Around.under_plainId PySem.F.plain_extend_loop _];show bv _ A.in1 (ff (.ref z) >>= _) _ _ _;refine ac (Tf (s:={ s with heap:=h,toks:=tk }) (A:=A.in1) hh Y bb aF h1 h2 aP a0 (bw (by lia)) fun h' he=>?_)
   refine aQ (hR h' tk J c as (fun b o O e=>he b o (W b O).1 (W b O).2.1 (W b O).2.2.1 (W b O).2.2.2.1 (ak b o O e)) (he S _ (YK D.z2) (YK D.TO2) (YK D.i12) (YK D.i22) hS) (by lia) ⟨hG.rise,hG.above,fun j a hj=>?_⟩ al)
   obtain⟨x,y,e1,e2,e3⟩:=hG.pairs j a hj;have p:=ba a (hG.above a (Zn hj));exact⟨x,y,e1,e2,he a _ p.1 p.2.1 p.2.2.1 p.2.2.2 e3⟩
 | succ k ih =>
   intro i h tk c J as hk hi bb aF h1 h2 aP a0 ak hS al aC hG an;have bf:i<xs.size:=by lia
   have hx:xs[i]? = some xs[i]:=bH bf;have hy:ys[i]? = some (ys[i]'(by lia)):=bH (by lia)
   generalize xs[i]=x at hx;generalize ys[i]'(by lia)=y at hy
   have hsz:J.size=i:=by rw[<- YJ,al,Z4,aC]
   refine fB PySem.F.entry_extend_loop ?_;rw[Around.under_plainId PySem.F.plain_extend_loop _];show bv _ A.in1 (ff (.ref z) >>= _) _ _ _;refine ac (Te (s:={ s with heap:=h,toks:=tk }) (S:=S) Y bb an ⟨D.z2,D.TO2,D.i12,D.i22⟩ aF h1 h2 aP a0 hx hy fun h' bd bg bh ht hz ab=>?_)
   dsimp only at ht hz ab ⊢;have be:=ab S _ (YK D.z2) (YK D.TO2) (YK D.i12) (YK D.i22) hS;have up:∀b o,b≠S->h'.get? b=some o->(h'.update S (Obj.mapSeq (·.push (Value.ref h.objs.size)))).get? b=some o:=fun b o O e=>(Heap.get?_update_other _ _ (Ne.symm O)).trans e;show bv _ A.in1 (updateSeq S (·.push (Value.ref h.objs.size)) >>= _) _ _ _;refine ac ?_
   refine fC be rfl (aQ ⟨plainId_quiet PySem.F.plain_extend_loop _,ih (i+1) _ tk _ (J.push (Value.ref h.objs.size)) (as++[h.objs.size]) (by lia) bf (bd.keep up (Yt D.z2) (Yt D.TO2))
    (up _ _ (Yt D.TI2) (ab _ _ Y.TIz Y.TITO Y.TIi1 Y.TIi2 aF)) (bg.at fun o e=>up _ o (Yt D.i12) e) (bh.at fun o e=>up _ o (Yt D.i22) e)
    (aP.at fun o e=>up _ o (Yt D.l1) (ab _ o Y.l1z Y.l1TO Y.l1i1 Y.l1i2 e)) (a0.at fun o e=>up _ o (Yt D.l2) (ab _ o Y.l2z Y.l2TO Y.l2i1 Y.l2i2 e))
    (fun b o O e=>up b o (W b O).2.2.2.2 (ab b o (W b O).1 (W b O).2.1 (W b O).2.2.1 (W b O).2.2.2.1 (ak b o O e))) (Heap.get?_update_self _ be rfl) (by rw[Array.toList_push,al,aj];rfl) (by rw[Zo,aC];rfl) ⟨?_,?_,?_⟩ ?_⟩) (by rw[hsz];lia) (by show(J.push (Value.ref h.objs.size)).size<=bi+1;rw[bO,hsz];lia)
   ·refine List.pairwise_append.mpr ⟨hG.rise,List.pairwise_singleton _ _,fun a ha b O=>?_⟩;rw[aA.mp O];exact hG.there ha
   ·intro a ha
    rcases YE.mp ha with ha | ha
    ·exact hG.above a ha
    ·rw[aA.mp ha];exact an
   ·intro j b hj
    rcases cw j as.length with q1 | q1 | q1
    ·rw[Zk q1]at hj;obtain⟨x',y',e1,e2,e3⟩:=hG.pairs j b hj;have O:=hG.above b (Zn hj);have p:=ba b O;exact⟨x',y',e1,e2,up b _ (YK O) (ab b _ p.1 p.2.1 p.2.2.1 p.2.2.2 e3)⟩
    ·subst q1;have O:h.objs.size=b:=by simpa using hj
     subst O;exact⟨x,y,by rw[aC];exact hx,by rw[aC];exact hy,up _ _ (YK an) ht⟩
    ·have bc:(as++[h.objs.size])[j]? = none:=aU (by rw[Zo,ZF];lia)
     rw[bc]at hj;cases hj
   ·have e:(h'.update S (Obj.mapSeq (·.push (Value.ref h.objs.size)))).get? h.objs.size=_:=up _ _ (YK an) ht;exact ZK an (Heap.lt_size e)
theorem LZ:fm (.type "zip") "__len__" = pure none:=by rw[eY,dS];kernel_rfl
theorem Kp:fm (.type "zip") "__length_hint__" = pure none:=by rw[eY,dS];kernel_rfl
structure ZGo(h:dw)(xs ys:Array am)(z TI TO i1 i2 l1 l2:ad):Prop where
 zip:fD h z TI TO .none
 own:∃a b,dI h TO a b
 its:dI h TI (.ref i1) (.ref i2)
 it1:h.IsListIter i1 l1 0
 it2:h.IsListIter i2 l2 0
 ls1:h.IsList l1 xs
 ls2:h.IsList l2 ys
theorem ZGo.keep{h h':dw}(g:ZGo h xs ys z TI TO i1 i2 l1 l2)(D:Ra z TI TO i1 i2 l1 l2 lo S)(hk:∀b o,b≠S->h.get? b=some o->h'.get? b=some o):ZGo h' xs ys z TI TO i1 i2 l1 l2 :=
 ⟨hk _ _ (Yt D.z2) g.zip,let ⟨a,b,e⟩:=g.own;⟨a,b,hk _ _ (Yt D.TO2) e⟩,hk _ _ (Yt D.TI2) g.its,g.it1.at fun o e=>hk _ o (Yt D.i12) e,g.it2.at fun o e=>hk _ o (Yt D.i22) e,g.ls1.at fun o e=>hk _ o (Yt D.l1) e,g.ls2.at fun o e=>hk _ o (Yt D.l2) e⟩
theorem P4(hh:A.handled=none)(D:Ra z TI TO i1 i2 l1 l2 lo S)(g:ZGo s.heap xs ys z TI TO i1 i2 l1 l2)(aP:xs.size=ys.size)(hn:xs.size<=bi)(res:am)(an:Nat)(hS:s.heap.get? S=some { cls:=.type "list",data:=.seq #[] an })
 (hR:∀h' tk O c as,(∀b o,b<lo->s.heap.get? b=some o->h'.get? b=some o)->h'.get? S=some { cls:=.type "list",dict:=none,data:=.seq O c,slots:=#[] }->as.length=xs.size->ZG xs ys S h' as ->
  O.toList=as.map Value.ref->R (.ok (.ret res)) { s with heap:=h',toks:=tk }) :
 bv (cr prog w) A.in1 (Builtin.List.listExtendWith (.ref S) (.ref z) res)
  (fun aF s'=>match aF with | .done f=>R (.ok f) s' | .again c'=>c'.quiet=true/\eC (cr prog w) A c' R s') (fun e s'=>R (.error e) s') s:=by
 have hT:s.TypeIs (.ref z) "zip":=⟨_,g.zip,Z⟩;have a0:S≠z:=YK D.z2;unfold Builtin.List.listExtendWith;refine ac (fF hT ?_);have h1:Builtin.List.listSameRef (.ref S) (.ref z)=false:=by simp[Builtin.List.listSameRef,a0]
 have h2:(Value.type "zip" == Value.type "list")=false:=by decide
 have h3:(Value.type "zip" == Value.type "tuple")=false:=by decide
 simp only[h1,h2,h3,Bool.or_false,Bool.false_eq_true,if_false];refine ac (eQ g.zip ?_);refine ac (dz ?_);unfold Builtin.List.listLengthHint;refine ac (fA hT LZ ?_);show bv _ A.in1 (specialOf (Value.ref z) (Str.ofString "__length_hint__") >>= _) _ _ _;refine ac (fA hT Kp ?_);refine aQ ?_
 show bv _ A.in1 (rule "list.extend.makes-room" >>= fun _=>Builtin.List.listTouch (.ref S) >>= fun _ =>
  again (.builtin "list.extend.loop" ⟨[.ref S,.ref z,res],[]⟩)) _ _ _
 refine ac (fj ?_);refine ac ?_;show bv _ A.in1 (updateSeq S (·.push .none) >>= fun _=>updateSeq S (·.pop)) _ _ _;refine ac (fC hS rfl ?_);have Y:=Heap.get?_update_self (Obj.mapSeq (·.push Value.none)) hS rfl;refine fC (hz:=by seq_fits) Y rfl ?_
 have W:=Heap.get?_update_self (Obj.mapSeq (·.pop)) Y rfl
 have al:∀b o,b≠S->s.heap.get? b=some o->((s.heap.update S (Obj.mapSeq (·.push Value.none))).update S (Obj.mapSeq (·.pop))).get? b=some o :=
  fun b o J e=>(Heap.get?_update_other _ _ (Ne.symm J)).trans ((Heap.get?_update_other _ _ (Ne.symm J)).trans e)
 have g':=g.keep D al;have ab:∀b,b<lo->b≠S:=fun b J=>Yt (Yr J D.lS)
 refine aQ ⟨plainId_quiet F.plain_extend_loop _,Td (s:=s) hh D aP hn res (h₁:=(s.heap.update S (Obj.mapSeq (·.push Value.none))).update S (Obj.mapSeq (·.pop))) (fun h' tk O c as hk ap aC hG ak=>hR h' tk O c as (fun b o J e=>hk b o J (al b o (ab b J) e)) ap aC hG ak) xs.size 0 _ s.toks _ _ [] rfl (YN _)
  (.inl ⟨g'.zip,g'.own⟩) g'.its g'.it1 g'.it2 g'.ls1 g'.ls2 (fun b o _ e=>e) W rfl rfl ⟨.nil,(fun _ h=>nomatch h),fun j a e=>by simp at e⟩ (Heap.lt_size W)⟩
end
section
variable {prog:ce}{w:db}{A:dl}{E:am->aI->Prop}{s:aI}{xs ys:Array am}{z TI TO i1 i2 l1 l2 lo:ad}
theorem IM{Q:am->aI->Prop}(hh:A.handled=none)(D:Ra z TI TO i1 i2 l1 l2 lo s.heap.objs.size)(g:ZGo s.heap xs ys z TI TO i1 i2 l1 l2)(an:xs.size=ys.size)(hn:xs.size<=bi)
 (hQ:∀h' tk Y c J,(∀b o,b<lo->s.heap.get? b=some o->h'.get? b=some o)->h'.get? s.heap.objs.size=some { cls:=.type "list",dict:=none,data:=.seq Y c,slots:=#[] }->J.length=xs.size->ZG xs ys s.heap.objs.size h' J ->
  Y.toList=J.map Value.ref->Q (.ref s.heap.objs.size) { s with heap:=h',toks:=tk }) :
 bv (cr prog w) A (call (.type "list") [.ref z]) Q E s:=by
 refine callType_codes (Q₁:=fun ab W=>ab = .ref s.heap.objs.size/\W={ s with heap:=s.heap.push { cls:=.type "list",data:=.seq #[] } }) F.called_list (F.typeCall_list_1 _) F.entry_list_init
  (code_list_new _ ⟨Z,Z⟩) fun ab W h₁=>?_
 obtain⟨rfl,rfl⟩:=h₁;have hS:(s.heap.push { cls:=.type "list",data:=.seq #[] }).get? s.heap.objs.size=some { cls:=.type "list",data:=.seq #[] }:=Heap.get?_push_size _ rfl;refine⟨⟨_,hS,Z⟩,F.args_list_init_2 _ _,?_⟩;show bv _ A.in1.in1 (do let old <- Builtin.List.listItems (.ref s.heap.objs.size);Builtin.List.listUpdate (.ref s.heap.objs.size) (fun _=>#[]);letGo old.toList.reverse;Builtin.List.listExtendWith (.ref s.heap.objs.size) (.ref z) .none) _ _ _
 refine ac ?_;unfold Builtin.List.listItems;refine ac (dM hS rfl (aQ ?_));show bv _ A.in1.in1 (updateSeq s.heap.objs.size (fun _=>#[]) >>= fun _=>letGo (#[]:Array am).toList.reverse >>= fun _=>Builtin.List.listExtendWith (.ref s.heap.objs.size) (.ref z) .none) _ _ _;refine ac (fC hS rfl ?_);have O:=Heap.get?_update_self (Obj.mapSeq (fun _=>(#[]:Array am))) hS rfl
 have ak:∀b o,b≠s.heap.objs.size->s.heap.get? b=some o->((s.heap.push { cls:=.type "list",data:=.seq #[] }).update s.heap.objs.size (Obj.mapSeq (fun _=>(#[]:Array am)))).get? b=some o :=
  fun b o hb e=>(Heap.get?_update_other _ _ (Ne.symm hb)).trans (Heap.get?_push_of_some _ e)
 refine ac (fO ?_);refine P4 (A:=A.in1) hh D (g.keep D ak) an hn .none _ O fun h' tk Y c J hk aC ap hG al=>?_;exact⟨Z,hQ h' tk Y c J (fun b o hb e=>hk b o hb (ak b o (Yt (Yr hb D.lS)) e)) aC ap hG al⟩
end
theorem Eh{α β:Type}{F:α->β->Prop}:∀{l₁:List α} {l₂:List β},l₁.length=l₂.length->(∀(j:Nat) a b,l₁[j]? = some a->l₂[j]? = some b->F a b)->Paired F l₁ l₂
 | [],[],_,_=>.nil
 | a::r,b::t,hl,h=>.cons (h 0 a b rfl rfl) (Eh (Nat.succ.inj hl) fun j x y e1 e2=>h (j+1) x y (by simpa using e1) (by simpa using e2))
section
variable {X:Cx}
theorem Inv.tracked{pins:List (ad×Obj)}{σ:St}{H:Hp}{s:aI}{a:ad}{o:HO}(I:Inv X pins σ H s)(f:DR X pins H a)(Y:BH X.prog X.w (upd H a o) s.heap a o):Inv X pins σ (upd H a o) s:=by
 have W:∀b u,H b=some u->b≠a:=fun b u e z=>by rw[z,f.1]at e;cases e
 have J:=HOk.track I.hok f.1 Y;obtain⟨hp,gg,dd,tk,os⟩:=s;refine I.step (H':=upd H a o) (h':=hp) (g':=gg) (t':=tk) (d':=dd) (ch:=[a]) ?_ ?_ ?_ ?_ ?_ ?_ ?_ ?_ ?_ J I.bare
 ·intro b O;have e:b=a:=by simpa using O
  subst e;exact⟨f.2.2.2.1,f.2.1,f.2.2.2.2.1,f.2.2.2.2.2⟩
 ·intro b u _ _ _ e _;exact e
 ·intro b u _ _ _ e _;exact⟨u.slots,e⟩
 ·intro b u O _ n;rw[Aq (fun z=>O (by simp[z]))];exact n
 ·intro b u _ e;exact⟨u,e⟩
 ·intro b us e;rw[Aq (W b _ e)];exact e
 ·intro b u v e;rw[Aq (W b _ e)];exact e
 ·intro b ps e;exact⟨#[],by rw[Aq (W b _ e),e];simp⟩
 ·intro m hm;exact hm
abbrev Sx(H:Hp)(v:V)(p:V×V):Prop:=∃t,v = .ref t/\H t=some (.tup [p.1,p.2])
theorem Ob{pins:List (ad×Obj)}{σ:St}{H0:Hp}{s0 s:aI}(I0:Inv X pins σ H0 s0):∀(Y:List ad) (ps:List (V×V)) (H:Hp),Inv X pins σ H s->(∀a∈Y,s0.heap.objs.size<=a/\H a=none)->Y.Nodup ->
 Paired (fun a (p:V×V)=>∃u v,AJ p.1 u/\AJ p.2 v/\dI s.heap a u v) Y ps->∃H',Inv X pins σ H' s/\Ac H H'/\(∀b,b∉Y->H' b=H b)/\Paired (Sx H') (Y.map V.ref) ps:=by
 intro Y
 induction Y with
 | nil =>
   intro ps H I hn hd hp;cases hp;exact⟨H,I,Ac.refl _,fun _ _=>rfl,.nil⟩
 | cons a Y ih =>
   intro ps H I hn hd hp
   obtain⟨p,W,rfl,⟨u,v,ru,rv,hp⟩,t⟩:∃p W,ps=p::W/\(∃u v,AJ p.1 u/\AJ p.2 v/\dI s.heap a u v)/\Paired (fun a (p:V×V)=>∃u v,AJ p.1 u/\AJ p.2 v/\dI s.heap a u v) Y W:=by
    cases hp with
    | cons h t=>exact⟨_,_,Z,h,t⟩
   have ha:=hn a YB;have J:=Zd.mp hd;have ab:BH X.prog X.w (upd H a (.tup [p.1,p.2])) s.heap a (.tup [p.1,p.2]):=⟨by show 2<=bi;decide,[u,v],.cons ru (.cons rv .nil),⟨_,hp,Z,0,Z⟩⟩
   have I1:Inv X pins σ (upd H a (.tup [p.1,p.2])) s:=Inv.tracked I (I0.fpOk ha.1 ha.2) ab;obtain⟨H',I',s',k',q'⟩:=ih W _ I1 (fun b hb=>⟨(hn b (YC _ hb)).1,by rw[Aq (fun z:b=a=>J.1 (z ▸ hb))];exact(hn b (YC _ hb)).2⟩) J.2 t
   refine⟨H',I',(Ac.new ha.2).trans s',fun b hb=>?_,.cons ⟨a,Z,s' _ _ A9⟩ q'⟩;have O:b≠a/\b∉Y:=by simpa using hb
   rw[k' b O.2,Aq O.1]
def Vp(s s1:aI)(xs ys:Array am)(l1 l2:ad)(u:am):Prop :=
 ∃ h',u = .ref (s.heap.objs.size+4)/\s1={ s with heap:=h' }/\ZGo h' xs ys (s.heap.objs.size+4) (s.heap.objs.size+2) (s.heap.objs.size+3) s.heap.objs.size (s.heap.objs.size+1) l1 l2 /\
   Ra (s.heap.objs.size+4) (s.heap.objs.size+2) (s.heap.objs.size+3) s.heap.objs.size (s.heap.objs.size+1) l1 l2 s.heap.objs.size h'.objs.size/\∀c o,s.heap.get? c=some o->h'.get? c=some o
theorem Tc{P:ce}{w:db}{A:dl}{E:am->aI->Prop}{s:aI}{l1 l2:ad}{xs ys:Array am}{Q:am->aI->Prop}(Y:s.heap.IsList l1 xs)(W:s.heap.IsList l2 ys)(h:∀u s1,Vp s s1 xs ys l1 l2 u->Q u s1) :
 bv (cr P w) A (call (.type "zip") [.ref l1,.ref l2]) Q E s:=by
 have la:l1<s.heap.objs.size:=by obtain⟨_,e,_⟩:=Y;exact Heap.lt_size e
 have lb:l2<s.heap.objs.size:=by obtain⟨_,e,_⟩:=W;exact Heap.lt_size e
 refine call_zip_2 Y W fun h' hz J O ak ab hsz hk=>h _ _ ⟨h',Z,Z,⟨hz,⟨_,_,O⟩,J,ak,ab,Y.at fun o e=>hk _ o e,W.at fun o e=>hk _ o e⟩,?_,hk⟩;rw[hsz];have p:∀a b:Nat,a<=b->s.heap.objs.size+a<=s.heap.objs.size+b:=fun a b h=>Nat.add_le_add_left h _;exact⟨zipApart_new la lb,bz _ _,bz _ _,YL _,bz _ _,p 5 5 (YL _),p 3 5 (by decide),p 4 5 (by decide),p 1 5 (by decide),p 2 5 (by decide),Yr la (bz _ _),Yr lb (bz _ _),bz _ _⟩
theorem Rm{pins:List (ad×Obj)}{σ:St}{H:Hp}{s s':aI}{xs ys:List V}{W Y:List am}{S:ad}{O:List ad}(I:Inv X pins σ H s)(hk:∀b o,s.heap.get? b=some o->s'.heap.get? b=some o)(ak:∃h' tk,s'={ s with heap:=h',toks:=tk })(hS:s.heap.objs.size<=S)
 (r1:AF xs W) (r2:AF ys Y) (an:O.length=xs.length) (ap:xs.length=ys.length) (hG:ZG W.toArray Y.toArray S s'.heap O):∃H',Inv X pins σ H' s'/\Ac H H'/\(∀b,b∉O->H' b=H b)/\Paired (Sx H') (O.map V.ref) (xs.zip ys):=by
 obtain⟨h',tk,rfl⟩:=ak;have I':Inv X pins σ H { s with heap:=h',toks:=tk }:=I.kept (t':=tk) hk
 refine Ob I O (xs.zip ys) H I' (fun a ha=>?_) (hG.rise.imp fun h=>Yt h) ?_
 ·have J:=Yy hS (Yz (hG.above a ha));exact⟨J,I.hok.fresh J⟩
 ·refine Eh (by rw[ck];lia) fun j a p hj hp=>?_
  obtain⟨x,y,e1,e2,e3⟩:=hG.pairs j a hj;obtain⟨al,ab⟩:=cx.mp hp;obtain⟨u1,q1,q2⟩:=r1.get al;obtain⟨u2,q3,q4⟩:=r2.get ab;rw[List.getElem?_toArray]at e1 e2;rw[e1]at q1;cases q1;rw[e2]at q3;cases q3;exact⟨x,y,q2,q4,e3⟩
def tLZ(K:Yx)(ta:TA):TE:=fun σ H Q=>ta σ H fun vs H1=>∃a b xs ys,vs=[.ref a,.ref b]/\SqL K H1 a xs/\SqL K H1 b ys/\xs.length=ys.length /\
 ∀l us H',Ac H1 H'->H1 l=none->H' l=some (.lst us)->Paired (Sx H') us (xs.zip ys)->Q (.ref l) H'
theorem Mz(K:Yx)(J:X.calm=true){e1 W:Expr}{ta:TA}{p p2 pos al:Pos}(bd:Gl X "list")(bl:X.mg "list" = none)(hg:Gl X "zip")(hm:X.mg "zip" = none)(ha:PA X [e1,W] ta)
 (hs:cQ [e1,W] X.env=[(false,dE e1 X.env),(false,dE W X.env)]:=by rfl) (ap:cQ [W] X.env=[(false,dE W X.env)]:=by rfl)
 (aC:cQ [.Call (.Name "zip" p) [e1,W] [] pos] X.env=[(false,dE (.Call (.Name "zip" p) [e1,W] [] pos) X.env)]:=by rfl) (e:X.K=K:=by rfl) :
 PE X (.Call (.Name "list" p2) [.Call (.Name "zip" p) [e1,W] [] pos] [] al) (tLZ K ta):=by
 subst e;intro pins s σ H Q I h;refine Call_ (CG I bd bl O0 (PyProof.Rows.callWith_type1 ?_ aC rfl));rw[aC];refine Calls.spliced_cons (Q:=_) ?_;refine Call_ (CG I hg hm N7 (PyProof.Rows.callWith_type1 (thn (ha pos pins s σ H _ I h) fun us s1 ⟨vs,H1,I1,r1,q1⟩=>?_) (by rw[hs,ap]) (by rw[ap];rfl)))
 obtain⟨a,b,xs,ys,e,bf,bb,bh,q⟩:=q1;subst e;obtain⟨u,u',rfl,ra,rb⟩:=P6 r1;cases ra;cases rb;obtain⟨bp,an,p1,z1⟩:=I1.list bf;obtain⟨bm,aP,p2,_⟩:=I1.list bb;have n1:=an.length;have n2:=aP.length;refine Tc p1.isList p2.isList fun u s2 hM=>?_;obtain⟨h',rfl,rfl,g,D,hk⟩:=hM;refine Calls.spliced_nil ?_;refine IM (s:={ s1 with heap:=h' }) (I1.ok.hd J) D g (by simp;lia) (by simp;lia) fun h2 tk bq c O a0 hS aF hG ak=>?_
 have bc:∀b o,s1.heap.get? b=some o->h2.get? b=some o:=fun b o e=>a0 b o (Heap.lt_size e) (hk b o e);obtain⟨H',I',sm,ko,hp⟩:=Rm (s':={ s1 with heap:=h2,toks:=tk }) I1 bc ⟨h2,tk,rfl⟩ D.lS an aP (by rw[aF];simp;lia) bh hG
 have ab:H1 h'.objs.size=none:=I1.hok.fresh D.lS;have ba:h'.objs.size∉O:=fun z=>Ys _ (hG.above _ z);have Y:H' h'.objs.size=none:=by rw[ko _ ba];exact ab
 have bg:AF (O.map V.ref) (O.map Value.ref):=Eh (by simp) fun j v u hv hu=>by
  rw[Zl]at hv hu;cases z:O[j]? with
  | none=>rw[z]at hv;cases hv
  | some t=>rw[z]at hv hu;cases hv;cases hu;exact rfl
 have be:BH X.prog X.w (upd H' h'.objs.size (.lst (O.map V.ref))) h2 h'.objs.size (.lst (O.map V.ref)):=⟨by rw[Z4,aF];simp;lia,O.map Value.ref,c,bg,by rw[<- ak];exact hS⟩
 exact⟨.ref h'.objs.size,_,Inv.tracked I' (I1.fpOk D.lS Y) be,Z,q _ _ _ (sm.trans (Ac.new Y)) ab A9 (Paired.mapP hp fun v p ⟨t,e,z⟩=>⟨t,e,by rw[Aq (As z Y)];exact z⟩)⟩
end
def VX(B:dw)(l:List Env)(e:ad)(c a0 m:am)(h:dw):Prop :=
 B.StaysIn h/\B.get? e=none/\h.FunFrames B l/\∃(o:Obj) (v:Array am) (T:ad) (oT:Obj) (ts:Array am),h.get? e=some o/\o.cls=c/\o.data = .fields v/\v[0]? = some a0/\v[2]? = some .none /\
  v[1]? = some (.ref T)/\B.get? T=none/\T≠e/\h.get? T=some oT/\oT.data = .fields ts/\ts[3]? = some m
def Vu(o:Obj):Prop:=∃v,o.data = .fields v/\v[2]? = some .none
section
variable {M:Model}{A:dl}{E:am->aI->Prop}{s:aI}{B:dw}{env:Env}{outer:List Env}{L e:ad}
end
section
variable {prog:ce}{w:db}{A:dl}{E:am->aI->Prop}{s:aI}{ea:ad}{oe:Obj}
end
structure Hx(X:Cx)(ea:ad)(oe:Obj):Prop where
 hd:X.A.handled=some (.ref ea)
 ct:Vu oe
 ob:X.s₀.heap.get? ea=some oe
 fr:X.H₀ ea=none
 nf:ea∉X.fs
 nx:ea∉X.ex
section
variable {X:Cx}{pins:List (ad×Obj)}{σ:St}{H:Hp}{s:aI}{ea:ad}{oe:Obj}
end
section
variable {X:Cx}{N:List Str}{nt:Nat}{js:List Nat}{scope:dJ}{elt iter tg:Expr}{ifs:List Expr}{pos:Pos}{g:TG}{tc:TT}{te tl:TE}{ea:ad}{oe:Obj}
end
def CX2(P:ce)(w:db):CXT:=fun outer H s E e s'=>∃(ea:ad) (cls a0:am) (B:dw) (H':Hp),e = .ref ea/\s'.os=s.os/\fo s'.gens/\Un (frs outer) [] H H' s.heap s'.heap/\HOk P w H' s'.heap /\
 VX B outer ea cls a0 .none s'.heap/\(∀b o,s.heap.get? b=some o->b∉frs outer->∃o',B.get? b=some o')/\(∀b u,H' b=some u->∃o',B.get? b=some o')/\E cls none H'
section
variable {P:ce}{w:db}{K:Yx}{mg:Str->Option am}{base:dw}{N:List Str}{qual:Str}{scope:dJ}{f:ad}{cd:am}{A:dl}{outer:List Env}{s:aI}{H:Hp}{E:XK}
end
structure FdY(P:ce)(w:db)(K:Yx)(mg:Str->Option am)(base:dw)(n:Nat)(x:Str)(ps:List Str)(sp:Sp):Prop where
 ex:∃(f:ad) (fd:bn),Ax P w K mg base (CX2 P w) n f fd ps sp/\Be K fd ps []/\Z3 K (.ref f)=true/\mg x=some (.ref f)
section
variable {X:Cx}{n k:Nat}{x:Str}{ps:List Str}{sp:Sp}{e:Expr}{es:List Expr}{t:TA}{p pos:Pos}
end
abbrev SpH:=am->ad->Hp->VK->Prop
structure FnH(P:ce)(w:db)(K:Yx)(mg:Str->Option am)(base:dw)(k:Nat)(f:ad)(fd:bn)(x:Str)(sp:SpH):Prop where
 run:∀(A:dl) (outer:List Env) (s:aI) (H:Hp) (ea:ad) (oe:Obj) (Q:VK),BK k A->IQ P w K mg base (A.mark (some (.ref ea))) outer s H->BindsTo s fd ⟨[.ref ea],[]⟩ [(x,.ref ea)]->s.heap.get? ea=some oe->Vu oe->H ea=none->ea∉frs outer->sp oe.cls ea H Q ->
  eC (cr P w) (A.mark (some (.ref ea))) (.call (.ref f) ⟨[.ref ea],[]⟩) (CR CX0 outer P w H s Q E0) s
section
variable {P:ce}{w:db}{K:Yx}{mg:Str->Option am}{base:dw}
end
structure FdH(P:ce)(w:db)(K:Yx)(mg:Str->Option am)(base:dw)(n:Nat)(x y:Str)(sp:SpH):Prop where
 ex:∃(f:ad) (fd:bn),FnH P w K mg base n f fd y sp/\Be K fd [y] []/\Z3 K (.ref f)=true/\mg x=some (.ref f)
abbrev Cx.kept(X:Cx)(ea:ad)(oe:Obj):Cx:={ X.marked ea with pn:=(ea,oe)::X.pn }
section
variable {X:Cx}{pins:List (ad×Obj)}{σ:St}{H:Hp}{s:aI}{ea:ad}{oe:Obj}
end
section
open PySem.W
variable {X:Cx}(K:Yx)
end
end L2
namespace L2
open PySem PySem.Spec PyProof.Rows PySem.W
structure RefK(K:Frag)(D:ad)(cs:List ad)(n:Nat):Prop where
 ty:XTy K D
 ve:kitOne K (.ref D) (.type "ValueError")=some true
 of:∀i c,cs[i]? = some c->kitOne K (.ref D) (.ref c)=some (i == n)
end L2
namespace L2
open PySem PySem.Spec PyProof.Rows
section
variable {prog:ce}{w:db}{A:dl}{E:am->aI->Prop}
end
namespace St
open SetTable
abbrev Ris(xs:Array Nat):Prop:=xs.toList.Pairwise (· < ·)
def Way(t:dH)(occ:Nat->Prop)(p:Probe)(j:Nat):Prop:=∃m,(advs t m p).j=j/\∀i,i<m->occ (advs t i p).j
end St
end L2
namespace L2
open PySem PySem.Spec PyProof.Rows
namespace St
open SetTable
abbrev Occ(t:dH)(s:Nat):Prop:=∃q:Nat,t.place[q]? = some s
section
variable {prog:ce}{w:db}{K:Type}[DecidableEq K]{knd:KeyKind prog w K}{A:dl}{E:am->aI->Prop}{s:aI}
variable {S:ad}{o:Obj}{es:Array (Int×am)}{ep:Nat}{t:dH}
end
end St
end L2
namespace L2
open PySem PySem.Spec PyProof.Rows
namespace St
open SetTable
section
variable {prog:ce}{w:db}{K:Type}[DecidableEq K](knd:KeyKind prog w K)(G:ad->Prop)
structure Bdy(h:dw)(keys:List (List K))(es:Array (Int×am))(t:dH):Prop where
 dm:t.dummies = #[]
 ps:t.place.size=es.size
 len:es.size=keys.length
 ris:Ris t.place
 ent:∀(i:Nat) (e:Int×am),es[i]? = some e->∃(b:ad) (k:List K) (j:Nat),e=(tupleKeyHash knd k,Value.ref b)/\IsN knd h k b/\k∈keys/\G b/\t.place[i]? = some j/\Way t (Occ t) (t.probeStart e.1) j
 key:∀k∈keys,∃(i:Nat) (b:ad),es[i]? = some (tupleKeyHash knd k,Value.ref b)/\IsN knd h k b
variable {knd}{G}
variable {A:dl}{E:am->aI->Prop}{s:aI}
end
end St
end L2
namespace L2
open PySem PySem.Spec PyProof.Rows
namespace St
section
variable {prog:ce}{w:db}{K:Type}[DecidableEq K]{knd:KeyKind prog w K}{G:ad->Prop}{A:dl}{R:Result->aI->Prop}{I:ad}{fp wr:List ad}{GG:Array GenState->Array GenState->Prop}{n:Nat}{P:Nat->am->Prop}{St:Nat->aI->Prop}
end
section
variable {prog:ce}{w:db}{K:Type}[DecidableEq K]{knd:KeyKind prog w K}{A:dl}{E:am->aI->Prop}{s:aI}
end
end St
section
variable {X:Cx}
end
section
open PySem.W
variable {X:Cx}(K:Yx)
inductive TyP(K:Yx)(H:Hp):V->am->Prop where
 | non:TyP K H .non (.type "NoneType")
 | bl (x:Bool):TyP K H (.bl x) (.type "bool")
 | int (i:Int):TyP K H (.int i) (.type "int")
 | str (x:Str):TyP K H (.str x) (.type "str")
 | lst {a:ad} {xs:List V} (e:SqL K H a xs):TyP K H (.ref a) (.type "list")
 | tup {a:ad} {xs:List V} (e:SqT K H a xs):TyP K H (.ref a) (.type "tuple")
 | dK {a:ad} {kvs:List (Key×V)} (e:H a=some (.dK kvs)):TyP K H (.ref a) (.type "dict")
 | dT {a:ad} {kvs:List (List Key×V)} (e:H a=some (.dT kvs)):TyP K H (.ref a) (.type "dict")
end
end L2
namespace L2
open PySem PySem.Spec PyProof.Rows
section
variable {X:Cx}{e k:Expr}{te tk:TE}
end
def sg(x:Str):List Nat:=x.cps.toList
theorem Dw{x y:Str}(h:sg x=sg y):x=y:=by
 obtain⟨a⟩:=x;obtain⟨b⟩:=y;exact congrArg Str.mk (Array.toList_inj.mp h)
theorem AR(x y:Str):sg (x++y)=sg x++sg y:=cps_toList_append x y
theorem AK(x:Str):x.length=(sg x).length:=by
 show x.cps.size=x.cps.toList.length;simp
theorem CQ(s:String):sg (Str.ofString s)=s.toList.map Char.toNat:=signs_ofString s
def dg(n:Nat):List Nat:=(Nat.toDigits 10 n).map Char.toNat
theorem FG{n c:Nat}(h:c∈dg n):48<=c/\c<=57:=by
 obtain⟨ch,Y,e⟩:=aX.mp h;rw[<- e];exact digit_range (Nat.isDigit_of_mem_toDigits (by decide) (by decide) Y)
theorem LJ(n:Nat):dg n≠[]:=fun h=>Nat.toDigits_ne_nil (List.map_eq_nil_iff.mp h)
theorem Ii{n k:Nat}(hk:0<k)(h:n<10 ^ k):(dg n).length<=k:=by
 unfold dg;rw[Z4];exact(Nat.length_toDigits_le_iff (by decide) hk).mpr h
def vl(l:List Nat)(a:Nat):Nat:=l.foldl (fun a c=>a*10+(c-48)) a
theorem SA:∀(l:List Char) (a:Nat),vl (l.map Char.toNat) a=Nat.ofDigitChars 10 l a
 | [],a=>rfl
 | c::r,a=>by
   have e:vl ((c::r).map Char.toNat) a=vl (r.map Char.toNat) (a*10+(c.toNat-48)):=rfl;rw[e,SA r,Nat.ofDigitChars_cons,ZH]
   rfl
theorem Nd(n:Nat):vl (dg n) 0=n:=by
 unfold dg;rw[SA,Nat.ofDigitChars_ten_toDigits]
theorem So{n:Nat}(h:10<=n):dg n=dg (n / 10)++[(Nat.digitChar (n % 10)).toNat]:=by
 unfold dg;rw[Nat.toDigits_of_base_le (by decide) h,aj]
 rfl
theorem QW{n:Nat}(h:n<10):dg n=[(Nat.digitChar n).toNat]:=by
 unfold dg;rw[Nat.toDigits_of_lt_base h]
 rfl
theorem Kc:∀{n:Nat} {r:List Nat},dg n=48::r->n=0:=by
 intro n
 induction n using Nat.strongRecOn with
 | _ n ih =>
   intro r h;by_cases hn:n<10
   ·rw[QW hn]at h;have e:=(aK.inj h).1;have:∀m,m<10->(Nat.digitChar m).toNat=48->m=0:=by decide
    exact this n hn e
   ·rw[So (by lia)]at h
    cases hd:dg (n / 10) with
    | nil=>exact absurd hd (LJ _)
    | cons c t =>
      rw[hd]at h;have e:c=48:=(aK.inj h).1;subst e;have:=ih (n / 10) (by lia) hd
      lia
def txI(i:Int):Str:=Str.ofString (toString i)
theorem Mq(n:Nat):sg (txI n)=dg n:=by
 unfold txI dg;rw[CQ];have e:toString ((n:Nat):Int)=Nat.repr n:=rfl;rw[e,Nat.toList_repr]
theorem Tu{n:Nat}(h:0<n):sg (txI (-(n:Int)))=45::dg n:=by
 unfold txI dg;rw[CQ];obtain⟨m,rfl⟩:∃m,n=m+1:=⟨n-1,by lia⟩
 have e:toString (-((m+1:Nat):Int)) = "-" ++ Nat.repr (m+1):=rfl;rw[e,String.toList_append,aj,Nat.toList_repr]
 rfl
theorem FJ(i:Int):(∃n:Nat,i=n/\sg (txI i)=dg n)\/(∃n:Nat,0<n/\i = -(n:Int)/\sg (txI i)=45::dg n):=by
 by_cases h:0<=i
 ·exact .inl ⟨i.toNat,by lia,by rw[<- Mq];congr;lia⟩
 ·exact .inr ⟨(-i).toNat,by lia,by lia,by rw[<- Tu (by lia)];congr;lia⟩
theorem Df(i:Int){c:Nat}(h:c≠45/\(c<48\/57<c)):c∉sg (txI i):=int_text_free' c h i
def tx(x:Rat):Str:=if x.den=1 then txI x.num else txI x.num++Str.ofString "/" ++ txI x.den
theorem SI:Str.ofString "/" = ⟨#[47]⟩:=by apply Dw;rw[CQ];rfl
theorem Pr{x:Str}{c:Nat}(h:c∉sg x):Txt.split x ⟨#[c]⟩=[x]:=by
 have Y:=split_len x c;have W:=StrLaws.join_split x ⟨#[c]⟩;rw[cnt_none c x.cps.toList h]at Y;cases e:Txt.split x ⟨#[c]⟩ with
 | nil=>rw[e]at Y;simp at Y
 | cons p r =>
   cases r with
   | nil=>rw[e,join_one]at W;rw[W]
   | cons q r=>rw[e]at Y;simp at Y;lia
theorem LS{c:Nat}:∀{a b p q:List Nat},c∉a->c∉p->a++c::b=p++c::q->a=p/\b=q
 | [],b,[],q,_,_,h=>⟨Z,(aK.inj h).2⟩
 | [],b,y::p,q,_,hp,h=>absurd (YD.mpr (.inl (aK.inj h).1)) hp
 | x::a,b,[],q,ha,_,h=>absurd (YD.mpr (.inl (aK.inj h).1.symm)) ha
 | x::a,b,y::p,q,ha,hp,h=>by
   have h1:=aK.inj h;obtain⟨e1,Y⟩:=LS (fun z=>ha (YC _ z)) (fun z=>hp (YC _ z)) h1.2;rw[h1.1,e1];exact⟨Z,Y⟩
theorem Of{a b:Str}{c:Nat}(ha:c∉sg a)(hb:c∉sg b):Txt.split (a++⟨#[c]⟩++b) ⟨#[c]⟩=[a,b]:=by
 have Y:=split_len (a++⟨#[c]⟩++b) c;have W:=StrLaws.join_split (a++⟨#[c]⟩++b) ⟨#[c]⟩;have O:=StrLaws.split_free (a++⟨#[c]⟩++b) c
 have es:(a++⟨#[c]⟩++b).cps.toList=sg a++c::sg b:=by
  show sg (a++⟨#[c]⟩++b)=_;rw[AR,AR,ZE]
  rfl
 rw[es,cnt_append,cnt_cons,cnt_none c _ ha,cnt_none c _ hb,if_pos rfl]at Y;cases e:Txt.split (a++⟨#[c]⟩++b) ⟨#[c]⟩ with
 | nil=>rw[e]at Y;simp at Y
 | cons p r =>
   cases r with
   | nil=>rw[e]at Y;simp at Y
   | cons q r =>
     cases r with
     | nil =>
       rw[e,join_cons_cons,join_one]at W;rw[e]at O;have J:=congrArg sg W
       have e2:sg (p++⟨#[c]⟩++q)=sg p++c::sg q:=by
        rw[AR,AR,ZE]
        rfl
       rw[e2,show sg (a++⟨#[c]⟩++b)=_ from es]at J;obtain⟨z1,z2⟩:=LS (O p (by simp)) ha J
       rw[Dw z1,Dw z2]
     | cons _ _=>rw[e]at Y;simp at Y;lia
theorem P9(x:Rat):Txt.split (tx x) (Str.ofString "/")=if x.den=1 then [txI x.num] else [txI x.num,txI x.den]:=by
 unfold tx;rw[SI]
 split
 ·exact Pr (Df _ (by decide))
 ·exact Of (Df _ (by decide)) (Df _ (by decide))
section
variable {X:Cx}
inductive Np(x:V)(vs:List V)(H:Hp)(Q:VK):Prop
 | mk (y z:Str) (h1:x = .str y) (h2:vs=[.str z]) (h3:Q (.bl (Txt.startswith y z)) H):Np x vs H Q
theorem IJ:MtR X "str.startswith" Np:=by
 intro pins s σ H x vs v us Q I W Y h;obtain⟨y,z,rfl,rfl,q⟩:=h;obtain⟨t,rfl⟩:=W;obtain⟨u,rfl,O⟩:=Y.one;obtain⟨t',rfl⟩:=O;exact SC.startswith ⟨.bl _,H,I,Z,q⟩
theorem IS:∀l:List (Str×Tok),AF (l.map fun p=>V.str p.1) (strValues l)
 | []=>.nil
 | p::r=>.cons ⟨p.2,Z⟩ (IS r)
inductive PZ(x:V)(vs:List V)(H:Hp)(Q:VK):Prop
 | mk (y z:Str) (h1:x = .str y) (h2:vs=[.str z]) (h3:(z.length == 0)=false) (h4:y.length+2<=bi) (h5:∀p,H p=none->Q (.ref p) (upd H p (.lst ((Txt.split y z).map V.str)))):PZ x vs H Q
theorem Fw:MtR X "str.split" PZ:=by
 intro pins s σ H x vs v us Q I J rv h;obtain⟨y,z,rfl,rfl,hz,hy,q⟩:=h;obtain⟨t,rfl⟩:=J;obtain⟨u,rfl,ru⟩:=rv.one;obtain⟨t',rfl⟩:=ru
 have Y:∀(l:List (Str×Tok)) (k:Nat),l.map (·.1)=Txt.split y z->EP X pins σ Q (.ref s.heap.objs.size) { s with heap:=s.heap.push { cls:=.type "list",data:=.seq (strValues l).toArray },toks:=k }:=by
  intro l k e;have O:l.map (fun p=>V.str p.1)=(Txt.split y z).map V.str:=by rw[<- e,cy];rfl
  have W:=IS l;rw[O]at W
  have hb:((Txt.split y z).map V.str).length<=bi:=by
   rw[Z4];exact Yy (split_le y z) hy
  exact⟨.ref s.heap.objs.size,_,I.laid (t':=k) (o:=.lst ((Txt.split y z).map V.str)) (fun b ob q=>Heap.get?_push_of_some _ q) (YL _) ⟨hb,_,0,W,Heap.get?_push_size _ rfl⟩,Z,q _ (I.hok.fresh (YL _))⟩
 cases h1:(decide (y.length<z.length)||decide (Builtin.Str.strKind y<Builtin.Str.strKind z))
 ·have hn:(Builtin.Str.partsBetween y (Builtin.Str.occurrences y z 0 y.length (y.length+1)) z.length).length<=bi:=by
   have e1:=StrLaws.occ_length_le y z 0 y.length (y.length+1);rw[len_partsBetween];lia
  cases hf:(Builtin.Str.occurrences y z 0 y.length (y.length+1)).isEmpty
  ·refine fb F.slot_str_split (fJ _ _ _) F.entry_str_split (F.args_str_split_2 _ _) (meets_str_split_sep y z t t' h1 hz hf (by lia) hn) ?_
   show wants (EP X pins σ Q) X.xe _ { s with toks:=_,heap:=s.heap.push { cls:=.type "list",data:=.seq (strsFrom s.toks (Builtin.Str.partsBetween y (Builtin.Str.occurrences y z 0 y.length (y.length+1)) z.length)).toArray } }
   rw[strsFrom_eq];exact Y (numbered s.toks _) _ ((numbered_texts _ _).trans ((if_neg (ne_true_of_eq_false h1)).trans (if_neg (ne_true_of_eq_false hf))).symm)
  ·exact fb F.slot_str_split (fJ _ _ _) F.entry_str_split (F.args_str_split_2 _ _) (meets_str_split_not_found y z t t' h1 hz hf)
    (Y [(y,t)] s.toks ((if_neg (ne_true_of_eq_false h1)).trans (if_pos hf)).symm)
 ·exact fb F.slot_str_split (fJ _ _ _) F.entry_str_split (F.args_str_split_2 _ _) (meets_str_split_cannot_occur y z t t' h1)
   (Y [(y,t)] s.toks (if_pos h1).symm)
inductive V1(x:V)(lo:Option Int)(hi:Option Int)(H:Hp)(Q:VK):Prop
 | mk (y:Str) (c:Nat) (r:List Nat) (h1:x = .str y) (h2:lo=some 1) (h3:hi=none) (h4:sg y=c::r) (h5:y.length<=bi) (h6:Q (.str ⟨r.toArray⟩) H):V1 x lo hi H Q
theorem Tt:SlR X V1:=by
 intro pins s σ H x v vl vu lo hi sl Q I O hs pl pu h;obtain⟨y,c,r,rfl,rfl,rfl,e,hy,q⟩:=h;obtain⟨t,rfl⟩:=O;cases pl with
 | int i u =>
   cases pu;have e2:y.length=r.length+1:=by rw[AK,e];rfl
   have e1:=StrLaws.sliced_plain y (a:=1) (b:=y.length) (by lia) (YL _)
   have W:Builtin.Str.strSliceIndices (some 1) none 1 y.length=Builtin.Str.strSliceIndices (some ((1:Nat):Int)) (some (y.length:Int)) 1 y.length:=StrLaws.sliceIdx_none_hi _ _
   have e4:(Builtin.Str.strSliceIndices (some 1) none 1 y.length).length=r.length:=by
    rw[W,StrLaws.strSliceIndices_plain (by lia) (YL _),Z4,bF];lia
   refine⟨"str",_,F.slot_str_getitem.lookup,fJ s y t,?_⟩;refine wpAny_getItem_str_slice (l:=some (1,u)) (u:=none) (st:=none) hs rfl ?_;unfold sliceMade slicePicked
   have J:(((none:Option (Int×Tok)).map (·.1)).getD 1 == 1&&(Builtin.Str.strSliceIndices ((some ((1:Int),u)).map (·.1)) ((none:Option (Int×Tok)).map (·.1)) (((none:Option (Int×Tok)).map (·.1)).getD 1) y.length).length == y.length)=false:=by
    show(true&&(Builtin.Str.strSliceIndices (some 1) none 1 y.length).length == y.length)=false;rw[e4,e2];simp
   rw[J,if_neg Bool.false_ne_true]
   have e6:((Builtin.Str.strSliceIndices (some 1) none 1 y.length).filterMap (y.cps[·]?))=r:=by
    rw[W,e1];show((sg y).drop 1).take _=r;rw[e];show r.take (y.length-1)=r;exact bj (by lia)
   have Y:(Made.str ⟨((Builtin.Str.strSliceIndices (some 1) none 1 y.length).filterMap (y.cps[·]?)).toArray⟩).post (EP X pins σ Q) s:=by
    rw[e6];exact⟨by show r.toArray.size<=bi;simp;lia,⟨.str ⟨r.toArray⟩,H,I.tok _,⟨_,Z⟩,q⟩⟩
   exact Y
def Its(x:Str):It:=⟨fun i _=>i<(sg x).length,fun i H v H'=>H'=H/\∃c,(sg x)[i]? = some c/\v = .str ⟨#[c]⟩,fun i _=>(sg x).length<=i⟩
theorem Pd{P:ce}{w:db}{K:Yx}{tg:Expr}(it:ad)(x:Str)(t:Tok):IP P w K tg (Its x) [it] it (fun i h=>h.IsStrIter it "str_ascii_iterator" x t i) where
 mem:=by simp
 obj:=fun i h st b Y=>by
  have e:b=it:=by simpa using Y
  subst e;obtain⟨o,e,c,d⟩:=st;exact⟨o,e,fun v z=>by rw[d]at z;cases z⟩
 keep:=fun i h h' st k=>let ⟨o,e,r⟩:=st;⟨o,k it (by simp) o e,r⟩
 item:=by
  intro X hP hw hK hc i pins s σ H E I J st hg;subst hP hw hK;obtain⟨f0,f1,f2,f3,f4,f5⟩:=J it (by simp)
  obtain⟨c,O⟩:∃c,(sg x)[i]? = some c:=⟨_,aB hg⟩;refine wpAny_pyNext_ascii_item st (c:=c) (by rw[<- O];simp[sg]) fun h' W sb=>?_
  have I1:Inv X pins σ H { s with heap:=h',toks:=s.toks+1 }:=I.turned (fun b o Y e=>(sb.2 b Y).trans e) f0 f1 f3 f4 f5
  obtain⟨o,e,c',d⟩:=id W;exact⟨_,Z,J7 (s:={ s with heap:=h',toks:=s.toks+1 }) e c' d (by decide) ⟨.str ⟨#[c]⟩,H,I1,⟨_,rfl⟩,⟨rfl,c,O,rfl⟩,W,fun b Y=>(J b Y).1⟩⟩
 done:=by
  intro X hP hw hK hc i pins s σ H E I J st hg;subst hP hw hK;obtain⟨f0,f1,f2,f3,f4,f5⟩:=J it (by simp)
  have O:x.cps[i]? = none:=by
   have:(sg x).length<=i:=hg;simp[sg]at this;simp[this]
  exact wpAny_pyNext_ascii_end (I.ok.hd hc) st O fun h' eb=>⟨Z,I.turned (t':=s.toks) (fun b o Y e=>eb b o Y e) f0 f1 f3 f4 f5⟩
 self:=fun _ _ _ _ _ st h=>wpAny_pyIter_striter_ascii st h
inductive Vc(tl:TE)(σ:St)(H:Hp)(R:It->Hp->Prop):Prop
 | mk (h:tl σ H fun v H1=>∃x,v = .str x/\(∀c∈sg x,c<128)/\R (Its x) H1):Vc tl σ H R
theorem V7{tg l:Expr}{tl:TE}(hl:PE X l tl):PI X tg l (Vc tl):=by
 intro pins s σ H R I h;obtain⟨h⟩:=h;refine thn (hl pins s σ H _ I h) fun v Y ⟨x,H1,W,r1,J⟩=>?_;obtain⟨x,rfl,ha,q⟩:=J;obtain⟨t,rfl⟩:=r1
 refine wpAny_pyIter_ascii (by
  rw[cz];intro c hc;exact decide_eq_true (ha c (by simpa [sg] using hc))) ?_
 refine⟨Y.heap.objs.size,[Y.heap.objs.size],_,_,H1,Z,W.kept (t':=Y.toks) fun b o e=>Heap.get?_push_of_some _ e,Pd _ x t,⟨_,Heap.get?_push_size _ rfl,Z,Z⟩,fun b O=>?_,q⟩;have e:b=Y.heap.objs.size:=by simpa using O
 subst e;exact W.fpOk (YL _) (W.hok.fresh (YL _))
end
theorem LA{x:Str}{js:List Nat}{te:TE}{σ:St}{H:Hp}{O:List V->Hp->Prop}(Y:Nat->List V->Hp->Prop)(h0:Y 0 [] H)(hl:∀i zs H,i<=(sg x).length->Y i zs H->zs.length=i)(hz:(sg x).length<=bi)
 (hs:∀i c zs H,(sg x)[i]? = some c->Y i zs H->te ((cS 1 js σ).set 0 (some (.str ⟨#[c]⟩))) H fun y H4=>Y (i+1) (zs++[y]) H4) (J:∀zs H',Y (sg x).length zs H'->O zs H') :
 ∃(n':Nat) (W:Nat->List V->Hp->Prop),W 0 [] H/\LcW (Its x) n' 1 js σ (CI 0) Ks te O W:=by
 refine⟨(sg x).length,Y,h0,⟨?_,?_,?_⟩⟩
 ·intro i zs H' hi p;have h2:=hl i zs H' (Yz hi) p;exact⟨hi,by lia⟩
 ·rintro i zs H' v H1 hi p ⟨rfl,c,hc,rfl⟩;exact hs i c zs _ hc p
 ·intro zs H' p;have h2:=hl _ zs H' (YL _) p;exact⟨YL _,by lia,J zs H' p⟩
theorem U4:fm (.type "str") "__int__" = pure none:=by rw[eY,dS];kernel_rfl
theorem Ql:fm (.type "str") "__index__" = pure none:=by rw[eY,dS];kernel_rfl
theorem Qk:fm (.type "str") "__trunc__" = pure none:=by rw[eY,dS];kernel_rfl
theorem DJ{p:Nat->Bool}:∀{l:List Nat},(∀c∈l,p c=false)->l.dropWhile p=l
 | [],_=>rfl
 | c::r,h=>by rw[List.dropWhile_cons,h c (by simp)];rfl
theorem Et{p:Nat->Bool}:∀{l:List Nat},(∀c∈l,p c=true)->l.takeWhile p=l
 | [],_=>rfl
 | c::r,h=>by rw[List.takeWhile_cons,h c (by simp),Et fun d hd=>h d (YC _ hd)];rfl
theorem Gh{f:(Array Nat×Bool)->Nat->Option (Array Nat×Bool)}(hf:∀ds b c,48<=c->c<=57->f (ds,b) c=some (ds.push (c-48),true)) :
 ∀(l:List Nat) (ds:Array Nat) (b:Bool),(∀c∈l,48<=c/\c<=57)->l.foldlM f (ds,b)=some (ds++(l.map (· - 48)).toArray,b || !l.isEmpty)
 | [],ds,b,_=>by simp
 | c::r,ds,b,h=>by
   rw[List.foldlM_cons,hf ds b c (h c (by simp)).1 (h c (by simp)).2]
   show r.foldlM f (ds.push (c-48),true)=_;rw[Gh hf r _ _ fun d hd=>h d (YC _ hd)];simp
theorem LG:∀(l:List Nat) (a:Nat),(l.map (· - 48)).foldl (fun acc d=>acc*10+d) a=vl l a
 | [],_=>rfl
 | c::r,a=>LG r (a*10+(c-48))
theorem NQ(l:List Nat):(#[]++(l.map (· - 48)).toArray).foldl (fun Y d=>Y*10+d) 0=vl l 0:=by
 rw[<- Array.foldl_toList]
 simpa using LG l 0
open Lean in
local macro_rules
 | `(tactic| trivial)=>do
   let p:Name:=.num (.str (.str (.str (.str (.str .anonymous "_private") "PySem") "Builtin") "Int") "W0All") 0
   let n:=mkIdent (p ++ `PySem.Builtin.isBlank)
   `(tactic| unfold $n:ident)
open Lean in
local macro_rules
 | `(tactic| trivial)=>do
   let p:Name:=.num (.str (.str (.str (.str (.str .anonymous "_private") "PySem") "Builtin") "Int") "W0All") 0
   let n:=mkIdent (p ++ `PySem.Builtin.digitValue?)
   `(tactic| unfold $n:ident)
open Lean in
local macro_rules
 | `(tactic| trivial)=>do
   let p:Name:=.num (.str (.str (.str (.str (.str .anonymous "_private") "PySem") "Builtin") "Int") "W0All") 0
   let n:=mkIdent (p ++ `PySem.Builtin.numeralDigits?)
   `(tactic| unfold $n:ident)
open Lean in
local macro_rules
 | `(tactic| trivial)=>do
   let p:Name:=.num (.str (.str (.str (.str (.str .anonymous "_private") "PySem") "Builtin") "Int") "W0All") 0
   let n:=mkIdent (p ++ `PySem.Builtin.prefixBase?)
   `(tactic| unfold $n:ident)
open Lean in
local macro_rules
 | `(tactic| trivial)=>do
   let p:Name:=.num (.str (.str (.str (.str (.str .anonymous "_private") "PySem") "Builtin") "Int") "W0All") 0
   let n:=mkIdent (p ++ `PySem.Builtin.readNumeral)
   `(tactic| unfold $n:ident)
set_option maxHeartbeats 0 in
theorem E9(x:Str)(u:Tok)(t l:List Nat)(n:Int)(hx:sg x=t)(ht:t=l/\n=vl l 0\/t=45::l/\n = -(vl l 0:Int))(ak:l.length<=100)(J:∀c∈l,48<=c/\c<=57)(hn:l≠[])(h0:∀r,l=48::r->r=[]) :
 Meets (Builtin.«int.__new__» ⟨[.type "int",.str x u],[]⟩) (Made.int n).spec :=
 Meets.of_wp fun prog w A R s hs=>by
  have hr:∀c∈t,45<=c/\c<=57:=by
   intro c W
   rcases ht with ⟨rfl,_⟩ | ⟨rfl,_⟩
   ·have:=J c W;lia
   ·rcases YD.mp W with z | z
    ·lia
    ·have:=J c z;lia
  have al:t.length<=101:=by
   rcases ht with ⟨rfl,_⟩ | ⟨rfl,_⟩
   ·lia
   ·simp;lia
  obtain⟨hp,g,d,tk,os⟩:=s;have f1:=F.conv_sub_int;have f2:=F.madeHere_int;have hT:(⟨hp,g,d,tk,os⟩:aI).TypeIs (.str x u) "str":=rfl;have f3:=U4;have f4:=Ql;have f5:=Qk
  repeat (any_goals (first | assumption | wp_step))
  have e1:(if (x.cps.all fun x=>decide (x<128))=true then x.cps.toList else Unicode.numberText x.cps.toList)=t:=by
   rw[if_pos]
   ·exact hx
   ·rw[cz];intro c W;have:=hr c (by rw[<- hx];simpa [sg] using W)
    exact decide_eq_true (by lia)
  have e2:t.takeWhile (fun x=>x != 0)=t:=Et fun c W=>by have:=hr c W;simp;lia
  rw[e1,e2,if_pos (by lia)]
  refine ac (aQ ?_);dsimp only;have hB:∀c,45<=c->¬(c == 32||(decide (9<=c)&&decide (c<=13)))=true:=fun c h=>by simp;lia
  obtain⟨c,r,rfl⟩:∃c r,l=c::r:=by
   cases l with
   | nil=>exact absurd rfl hn
   | cons c r=>exact⟨c,r,Z⟩
  have c1:=J c (by simp)
  have c45:¬c=45:=by lia
  have c43:¬c=43:=by lia
  have O:∀p:Nat->Bool,(∀d∈c::r,p d=false)->((c::r).reverse.dropWhile p).reverse=c::r:=fun p h=>by
   rw[DJ fun d hd=>h d (List.mem_reverse.mp hd),List.reverse_reverse]
  have c48:c=48->r=[]:=fun e=>h0 r (by rw[e])
  by_cases z:c=48
  ·have y:=c48 z;clear c48 h0;subst y;subst z;clear c45 c43
   split
   all_goals rename_i Y
   all_goals revert Y
   all_goals trivial
   all_goals rw[DJ (l:=t) (fun c W=>by trivial;exact Bool.eq_false_iff.mpr (hB c (hr c W).1))]
   all_goals rcases ht with ⟨rfl,rfl⟩ | ⟨rfl,rfl⟩
   all_goals dsimp only
   all_goals try simp only[aK.injEq,false_and,imp_self,implies_true,not_false_eq_true]
   all_goals trivial
   all_goals first | dsimp only | skip
   all_goals try simp only[aK.injEq,false_and,imp_self,implies_true,not_false_eq_true]
   all_goals try rw[if_neg (by simp:¬(10 == 0)=true)]
   all_goals try dsimp only
   all_goals rw[O _ (fun d hd=>by trivial;exact Bool.eq_false_iff.mpr (hB d (by have:=J d hd;lia)))]
   all_goals trivial
   all_goals rw[Gh (fun ds b e h1 h2=>by
    have ab:¬(e == 95)=true:=by simp;lia
    dsimp only;rw[if_neg ab]
    trivial
    rw[if_pos (by simp;lia)]
    dsimp only;rw[if_pos (by lia)]) _ _ _ J]
   all_goals simp only[Option.bind_eq_bind,Option.bind_some,List.isEmpty_cons,Bool.not_false,Bool.false_or,if_true,reduceIte]
   all_goals rw[if_neg (by simp),if_neg (by first | (simp;done) | (have h61:=ak;simp at h61 ⊢;lia)),if_neg (by simp),NQ]
   all_goals try rw[if_neg Bool.false_ne_true]
   all_goals try rw[if_pos _root_.trivial]
   all_goals intro Y
   all_goals cases Y
   all_goals rw[if_pos (by simp)]
   all_goals repeat (first | assumption | wp_step)
   all_goals exact⟨_,Z,hs⟩
  ·split
   all_goals rename_i Y
   all_goals revert Y
   all_goals trivial
   all_goals rw[DJ (l:=t) (fun c W=>by trivial;exact Bool.eq_false_iff.mpr (hB c (hr c W).1))]
   all_goals rcases ht with ⟨rfl,rfl⟩ | ⟨rfl,rfl⟩
   all_goals dsimp only
   all_goals try simp only[c45,c43,aK.injEq,false_and,imp_self,implies_true,not_false_eq_true]
   all_goals trivial
   all_goals first | dsimp only | skip
   all_goals try simp only[z,aK.injEq,false_and,imp_self,implies_true,not_false_eq_true]
   all_goals try rw[if_neg (by simp:¬(10 == 0)=true)]
   all_goals try dsimp only
   all_goals rw[O _ (fun d hd=>by trivial;exact Bool.eq_false_iff.mpr (hB d (by have:=J d hd;lia)))]
   all_goals trivial
   all_goals rw[Gh (fun ds b e h1 h2=>by
    have ab:¬(e == 95)=true:=by simp;lia
    dsimp only;rw[if_neg ab]
    trivial
    rw[if_pos (by simp;lia)]
    dsimp only;rw[if_pos (by lia)]) _ _ _ J]
   all_goals simp only[Option.bind_eq_bind,Option.bind_some,List.isEmpty_cons,Bool.not_false,Bool.false_or,if_true,reduceIte]
   all_goals rw[if_neg (by simp),if_neg (by first | (simp;done) | (have h61:=ak;simp at h61 ⊢;lia)),if_neg (by simp),NQ]
   all_goals try rw[if_neg Bool.false_ne_true]
   all_goals try rw[if_pos _root_.trivial]
   all_goals intro Y
   all_goals cases Y
   all_goals rw[if_pos (by simp)]
   all_goals repeat (first | assumption | wp_step)
   all_goals exact⟨_,Z,hs⟩
section
variable {X:Cx}
theorem QA(K:Yx):Z7 K (.type "str") (.type "str")=some true:=by kernel_rfl
inductive T6(xs:List V)(H:Hp)(Q:VK):Prop
 | mk (y:Str) (h1:xs=[.str y]) (h2:y.length<=bi) (h3:Q (.int (y.length:Nat)) H):T6 xs H Q
theorem Gm:Cp X (.builtin "len") T6:=by
 intro pins s σ H xs us Q I r h;obtain⟨y,rfl,W,q⟩:=h;obtain⟨u,rfl,Y⟩:=Es r;obtain⟨t,rfl⟩:=Y;have J:=Ge;have O:bi=16777216:=dv;exact len_str (by lia) ⟨.int _,H,I.tok _,⟨_,Z⟩,q⟩
inductive T8(xs:List V)(H:Hp)(Q:VK):Prop
 | mk (i:Int) (h1:xs=[.str (txI i)]) (h2:i.natAbs<10 ^ 60) (h3:Q (.int i) H):T8 xs H Q
theorem Gn:Cp X (.type "int") T8:=by
 intro pins s σ H xs us Q I r h;obtain⟨i,rfl,hi,q⟩:=h;obtain⟨u,rfl,rx⟩:=Es r;obtain⟨t,rfl⟩:=rx;have O:(Made.int i).post (fun W Y=>Y.TypeIs W "int" /\ EP X pins σ Q W Y) s:=⟨Z,⟨.int i,H,I.tok _,⟨_,Z⟩,q⟩⟩
 rcases FJ i with ⟨n,e,hs⟩ | ⟨n,hp,e,hs⟩
 ·exact call_int_1 (E9 (txI i) t (dg n) (dg n) i hs (.inl ⟨Z,by rw[Nd];exact e⟩) (Yy (Ii (k:=60) (by decide) (by lia)) (by decide)) (fun c hc=>FG hc) (LJ n) (fun r J=>by
   have z:=Kc J;subst z;exact(aK.inj J).2.symm)) O
 ·exact call_int_1 (E9 (txI i) t (45::dg n) (dg n) i hs (.inr ⟨Z,by rw[Nd];exact e⟩) (Yy (Ii (k:=60) (by decide) (by lia)) (by decide)) (fun c hc=>FG hc) (LJ n) (fun r J=>by
   have z:=Kc J;subst z;exact(aK.inj J).2.symm)) O
end
theorem Sv{x sep:Str}{c:Nat}{w:List Nat}(hw:sg sep=c::w){k:Nat}(h:StrLaws.At x sep x.length k):(sg x)[k]? = some c:=by
 obtain⟨h1,h2⟩:=h;rw[StrLaws.subAt_eq]at h2;have W:((sg x).drop k).take sep.length=sg sep:=by simpa [sg] using h2
 have Y:(((sg x).drop k).take sep.length)[0]? = some c:=by rw[W,hw];rfl
 have O:0<sep.length:=by rw[AK,hw];simp
 rw[List.getElem?_take_of_lt O,ay]at Y
 simpa using Y
theorem Vn{x sep:Str}{k:Nat}{r:List Nat}(h:(sg x).drop k=sg sep++r)(hk:k<=(sg x).length):StrLaws.At x sep x.length k:=by
 have Y:=congrArg Zg h;rw[Zx,Zo]at Y;refine⟨by rw[AK x,AK sep];lia,?_⟩
 rw[StrLaws.subAt_eq,AK];show(((sg x).drop k).take (sg sep).length == sg sep)=true;rw[h,List.take_left']
 ·simp
 ·rfl
theorem Pl{x t:Str}{a b:Nat}{r:List Nat}(h:(sg x).drop a=sg t++r)(Y:b=a+(sg t).length):Builtin.Str.strSub x a b=t:=by
 apply Dw;show(Builtin.Str.strSub x a b).cps.toList=sg t;rw[StrLaws.strSub_toList];show((sg x).drop a).take (b-a)=sg t;rw[h,List.take_left']
 lia
theorem KQ{x sep:Str}{c:Nat}{w:List Nat}(hw:sg sep=c::w):∀(ts:List Str) (t:Str) (a:Nat) (Y:List Nat) (f:Nat),(sg x).drop a=sg (Str.join sep (t::ts))->a<=(sg x).length->(∀u∈t::ts,c∉sg u) ->
 StrLaws.ChainG x sep x.length a Y f->(∀k,f<=k->¬StrLaws.At x sep x.length k)->StrLaws.partsFrom x sep.length a Y=t::ts
 | ts,t,a,Y,f,h,ha,hf,hc,hn=>by
   have hlen:=congrArg Zg h;rw[Zx]at hlen
   -- no cut within the first text
   have W:∀(r:List Nat),(sg x).drop a=sg t++r->∀k,a<=k->k<a+(sg t).length->¬StrLaws.At x sep x.length k:=by
    intro r hr k h1 h2 O;have e:=Sv hw O;have e2:((sg x).drop a)[k-a]? = some c:=by rw[ay,show a+(k-a)=k by lia];exact e
    rw[hr,Zk (by lia)]at e2
    exact hf t (by simp) (Zn e2)
   cases ts with
   | nil =>
     rw[join_one]at h hlen;have h':(sg x).drop a=sg t++[]:=by rw[h,Za]
     cases Y with
     | nil =>
       show[Builtin.Str.strSub x a x.length]=[t];rw[Pl h' (by rw[AK];lia)]
     | cons d r =>
       obtain⟨h1,h2,h3,h4⟩:=hc;have:=h2.1;rw[AK x,AK sep,hw,YY]at this;exact absurd h2 (W [] h' d h1 (by lia))
   | cons u ts =>
     rw[join_cons_cons,AR,AR,ZE]at h
     have hd:(sg x).drop (a+(sg t).length)=sg sep++sg (Str.join sep (u::ts)):=by
      rw[<- List.drop_drop,h,List.drop_left']
      rfl
     rw[join_cons_cons,AR,AR,Zo,Zo]at hlen;have O:StrLaws.At x sep x.length (a+(sg t).length):=Vn hd (by lia)
     cases Y with
     | nil =>
       have e:f=a:=hc;exact absurd O (hn _ (by lia))
     | cons d r =>
       obtain⟨h1,h2,h3,h4⟩:=hc
       have J:d=a+(sg t).length:=by
        rcases cw d (a+(sg t).length) with z | z | z
        ·exact absurd h2 (W _ h d h1 z)
        ·exact z
        ·exact absurd O (h3 _ (by lia) z)
       show Builtin.Str.strSub x a d::StrLaws.partsFrom x sep.length (d+sep.length) r=t::u::ts;rw[Pl h J];refine congrArg (t :: ·) (KQ hw ts u (d+sep.length) r f ?_ ?_ (fun v hv=>hf v (YC _ hv)) h4 hn)
       ·rw[J,AK sep,<- List.drop_drop,hd,List.drop_left']
        rfl
       ·rw[J,AK sep];lia
theorem QB(x:Str):1<=Builtin.Str.strKind x:=by
 unfold Builtin.Str.strKind
 split
 ·decide
 ·split<;>decide
theorem ED{sep:Str}{c:Nat}{w:List Nat}(hw:sg sep=c::w)(hk:Builtin.Str.strKind sep=1)(t:Str)(ts:List Str)(hf:∀u∈t::ts,c∉sg u):Txt.split (Str.join sep (t::ts)) sep=t::ts:=by
 have hs:1<=sep.length:=by rw[AK,hw];simp
 obtain⟨f,J,W⟩:=StrLaws.occ_tight (Str.join sep (t::ts)) sep hs;have Y:=KQ (x:=Str.join sep (t::ts)) hw ts t 0 _ f (by rw[aY]) (YN _) hf J W
 unfold Txt.split
 split
 ·rename_i h1
  rw[Bool.or_eq_true,decide_eq_true_eq,decide_eq_true_eq]at h1
  rcases h1 with h1 | h1
  ·cases ts with
   | nil=>rw[join_one]
   | cons u ts =>
     rw[join_cons_cons,AK,AR,AR,Zo,Zo,<- AK sep]at h1
     lia
  ·rw[hk]at h1;have:=QB (Str.join sep (t::ts))
   lia
 ·split
  ·rename_i O
   rw[List.isEmpty_iff.mp O]at Y;have k2:[Builtin.Str.strSub (Str.join sep (t::ts)) 0 (Str.join sep (t::ts)).length]=t::ts:=Y;rw[StrLaws.sub_whole]at k2;exact k2
  ·rw[StrLaws.partsBetween_eq];exact Y
theorem Ni:∀{ts:List Str} {us:List am},AF (ts.map V.str) us->∃l:List (Str×Tok),us=strValues l/\l.map (·.1)=ts
 | [],_,.nil=>⟨[],Z,Z⟩
 | x::ts,_,.cons ⟨t,e⟩ r=>by
   obtain⟨l,rfl,e2⟩:=Ni r;subst e;exact⟨(x,t)::l,Z,by rw[Z2,e2]⟩
theorem M7{b:Nat}:∀{l:List Nat},(∀x∈l,x<=b)->l.sum<=l.length*b
 | [],_=>by simp
 | x::r,h=>by
   have h1:=h x (by simp)
   have h2:=M7 fun y Y=>h y (YC _ Y);rw[List.sum_cons,YY,Nat.succ_mul]
   lia
theorem Cg{sep:Str}{ts:List Str}(W:sep.length<=2)(h:∀t∈ts,t.length<=1000)(J:ts.length<=100):JoinOk sep ts=true:=by
 unfold JoinOk;rw[StrLaws.joinTotal]
 have h1:(ts.map (·.length)).sum<=ts.length*1000:=by
  have:=M7 (b:=1000) (l:=ts.map (·.length)) (fun x Y=>by
   obtain⟨t,O,rfl⟩:=aX.mp Y;exact h t O)
  rwa [Z4]at this
 have h2:ts.length*sep.length<=ts.length*2:=cA _ W;have h3:=dv;unfold Builtin.Str.tooLong;rw[decide_eq_false (by lia)]
 rfl
theorem Ea{sep:Str}(W:sep.length<=2){b:Nat}:∀{ts:List Str},(∀t∈ts,t.length<=b)->(Str.join sep ts).length<=ts.length*(b+2):=by
 intro ts h;have J:=StrLaws.join_length_le sep ts
 have h1:(ts.map (·.length)).sum<=ts.length*b:=by
  have:=M7 (b:=b) (l:=ts.map (·.length)) (fun x Y=>by
   obtain⟨t,O,rfl⟩:=aX.mp Y;exact h t O)
  rwa [Z4]at this
 have h2:ts.length*sep.length<=ts.length*2:=cA _ W;rw[cB]
 lia
theorem J5{sep:Str}{c:Nat}(hs:c∉sg sep):∀{ts:List Str},(∀t∈ts,c∉sg t)->c∉sg (Str.join sep ts)
 | [],_=>by intro h;cases h
 | [x],h=>by rw[join_one];exact h x (by simp)
 | x::y::r,h=>by
   rw[join_cons_cons,AR,AR];intro hm
   rcases YE.mp hm with hm | hm
   ·rcases YE.mp hm with hm | hm
    ·exact h x (by simp) hm
    ·exact hs hm
   ·exact J5 hs (ts:=y::r) (fun t ht=>h t (YC _ ht)) hm
theorem Jj(x:Rat){c:Nat}(h:c≠45/\c≠47/\(c<48\/57<c)):c∉sg (tx x):=by
 unfold tx
 split
 ·exact Df _ ⟨h.1,h.2.2⟩
 ·rw[AR,AR,SI];intro Y
  rcases YE.mp Y with Y | Y
  ·rcases YE.mp Y with Y | Y
   ·exact Df _ ⟨h.1,h.2.2⟩ Y
   ·exact h.2.1 (aA.mp Y)
  ·exact Df _ ⟨h.1,h.2.2⟩ Y
section
variable {X:Cx}
inductive SM(K:Yx)(x:V)(vs:List V)(H:Hp)(Q:VK):Prop
 | mk (sep:Str) (l:ad) (ts:List Str) (h1:x = .str sep) (h2:vs=[.ref l]) (h3:SqL K H l (ts.map V.str)) (h4:JoinOk sep ts=true) (h5:Q (.str (Str.join sep ts)) H):SM K x vs H Q
theorem D0(K:Yx)(e:X.K=K:=by rfl):MtR X "str.join" (SM K):=by
 subst e;intro pins s σ H x vs v us Q I Y O h;obtain⟨sep,l,ts,rfl,rfl,W,hj,q⟩:=h;obtain⟨t,rfl⟩:=Y;obtain⟨u,rfl,ru⟩:=O.one;cases ru;obtain⟨ab,r,pl,hz⟩:=I.list W;obtain⟨ls,rfl,J⟩:=Ni r;refine SC.join pl.isList J hj fun t' k=>?_;rw[show Txt.join sep ts=Str.join sep ts from StrLaws.glued_eq_join sep ts];exact⟨.str (Str.join sep ts),H,I.tok _,⟨_,Z⟩,q⟩
end
theorem AG.lookN{X:Cx}{NX N:List Str}{sc Y scope:dJ}{nt:Nat}{js:List Nat}{cl:List (Str×ad)}{C:ad}{s:aI}{H:Hp}{fp:List ad}(W:X.env.scope=sc)(h:Kd NX (V0 Y sc) N nt js scope=true) :
 AG (BI X NX Y cl C s H fp) N nt js scope:=AG.look (NX:=NX) (sc:=V0 Y sc) rfl (by rw[<- W];rfl) h
inductive KDk(P:ce)(w:db)(K:Yx)(a:ad)(kvs:List (Key×V)):Prop
 | mk (o:Obj) (es:Array DictEntry) (ep:Nat) (vs:List (Key×am)) (hk:K.lookup a=some o) (hx:o.ExactDict) (hd:o.data = .dict es ep) (ks:KeysOf (C7 P w) es) (ps:Pairs (C7 P w) es.toList vs) (nd:(vs.map (·.1)).Nodup) (rel:KV kvs vs) (hs:(a == ee)=false):KDk P w K a kvs
section
variable {X:Cx}{pins:List (ad×Obj)}{σ:St}{H:Hp}{s:aI}{a:ad}{y v:V}{u r:am}{A:dl}{E:am->aI->Prop}{kvs:List (Key×V)}{k:Key}
theorem KDk.of(d:KDk X.prog X.w X.K a kvs)(I:Inv X pins σ H s):(a == ee)=false/\∃vs,KV kvs vs/\s.heap.DictOf (C7 X.prog X.w) a vs:=by
 obtain⟨o,es,ep,vs,hk,O,hd,ks,ps,W,Y,J⟩:=d;exact⟨J,vs,Y,o,es,ep,I.kIn a o hk,O,hd,ks,ps,W⟩
theorem N3{Q:am->aI->Prop}(I:Inv X pins σ H s)(d:KDk X.prog X.w X.K a kvs)(l:D6 kvs k=some v)(J:AJ (kV k) u)(h:∀Y s',Inv X pins σ H s'->AJ v Y->Q Y s') :
 bv (cr X.prog X.w) A (fE (.ref a) u) Q E s:=by
 obtain⟨hd,vs,W,dd⟩:=d.of I;obtain⟨Y,hw,O⟩:=Er.some_of (v:=v) (o:=valueAt vs k) (by rw[<- l];exact W.val k)
 exact wpAny_getItem_of (LC J) dd.mapOf hw (h Y _ (I.tok _) O)
theorem Vh{Q:am->aI->Prop}(I:Inv X pins σ H s)(d:KDk X.prog X.w X.K a kvs)(O:AJ (kV k) u)(h:∀s',Inv X pins σ H s'->Q (.bool (D6 kvs k).isSome) s') :
 bv (cr X.prog X.w) A (dN .In u (.ref a)) Q E s:=by
 obtain⟨J,vs,Y,W⟩:=d.of I;refine wpAny_in_of (LC O) J W.mapOf ?_;rw[<- (Y.val k).isSome_eq];exact h _ (I.tok _)
theorem QU{Q:am->aI->Prop}(I:Inv X pins σ H s)(d:KDk X.prog X.w X.K a kvs)(O:AJ (kV k) u)(h:∀s',Inv X pins σ H s'->Q (.bool (!(D6 kvs k).isSome)) s') :
 bv (cr X.prog X.w) A (dN .NotIn u (.ref a)) Q E s:=by
 obtain⟨J,vs,Y,W⟩:=d.of I;refine wpAny_notIn_of (LC O) J W.mapOf ?_;rw[<- (Y.val k).isSome_eq];exact h _ (I.tok _)
end
section
variable {X:Cx}{pins:List (ad×Obj)}{σ:St}{H:Hp}{s:aI}{a:ad}{v d:V}{u r:am}{A:dl}{E:am->aI->Prop}{kvs:List (Key×V)}{k:Key}
theorem Sn{Q:am->aI->Prop}(I:Inv X pins σ H s)(g:KDk X.prog X.w X.K a kvs)(ry:AJ (kV k) u)(J:AJ d r)(h:∀W s',Inv X pins σ H s'->AJ ((D6 kvs k).getD d) W->Q W s') :
 bv (cr X.prog X.w) A (call (.builtin "dict.get") [.ref a,u,r]) Q E s:=by
 obtain⟨hd,vs,Y,O⟩:=g.of I;exact call_meetsIn PySem.F.slot_dict_get O.typeIs PySem.F.entry_dict_get (PySem.F.args_dict_get_3 _ _ _) (meets_dict_get_default (C7 X.prog X.w) a (LC ry) hd r) ⟨_,O.mapOf,h _ _ (I.tok _) ((Y.val k).getD J)⟩
end
inductive Pj(P:ce)(w:db)(K:Yx)(td ty:TE)(σ:St)(H:Hp)(Q:VK):Prop
 | mk (h:td σ H fun x H1=>ty σ H1 fun y H2=>∃a kvs k v,x = .ref a/\KDk P w K a kvs/\y=kV k/\D6 kvs k=some v/\Q v H2):Pj P w K td ty σ H Q
inductive SG(P:ce)(w:db)(K:Yx)(ty td:TE)(σ:St)(H:Hp)(Q:VK):Prop
 | mk (h:ty σ H fun y H1=>td σ H1 fun x H2=>∃a kvs k,x = .ref a/\KDk P w K a kvs/\y=kV k/\Q (.bl (D6 kvs k).isSome) H2):SG P w K ty td σ H Q
inductive Kt(P:ce)(w:db)(K:Yx)(ty td:TE)(σ:St)(H:Hp)(Q:VK):Prop
 | mk (h:ty σ H fun y H1=>td σ H1 fun x H2=>∃a kvs k,x = .ref a/\KDk P w K a kvs/\y=kV k/\Q (.bl (!(D6 kvs k).isSome)) H2):Kt P w K ty td σ H Q
inductive Nh(P:ce)(w:db)(K:Yx)(td ty tx:TE)(σ:St)(H:Hp)(Q:VK):Prop
 | mk (h:td σ H fun x H1=>∃a kvs,x = .ref a/\KDk P w K a kvs/\ty σ H1 fun y H2=>tx σ H2 fun z H3=>∃k,y=kV k/\Q ((D6 kvs k).getD z) H3):Nh P w K td ty tx σ H Q
inductive Pk(CX:CXT)(P:ce)(w:db)(K:Yx)(mg:Str->Option am)(base:dw)(n:Nat)(E:XK)(tv:TE)(t:TA)(σ:St)(H:Hp)(Q:VK):Prop
 | mk (h:tv σ H fun x H1=>∃f fd,x = .ref f/\Z3 K (.ref f)=true/\t σ H1 fun vs H2=>∃ps sp,Ax P w K mg base CX n f fd ps sp/\Be K fd ps []/\sp vs H2 Q E):Pk CX P w K mg base n E tv t σ H Q
section
variable {X:Cx}{CX:CXT}{n:Nat}{E:XK}{p pos apos cpos:Pos}{e f o i:Expr}{es:List Expr}{td ty tx tv:TE}{t:TA}
theorem HJ(P:ce)(w:db)(K:Yx)(J:PE X o td)(hi:PE X i ty)(hs:Vs i)(eP:X.prog=P:=by rfl)(eW:X.w=w:=by rfl)(eK:X.K=K:=by rfl):PE X (.Subscript o i pos) (Pj P w K td ty):=by
 subst eP eW eK;rintro pins s σ H Q I ⟨h⟩;refine Rx PySem.F.slot_dict_getitem.lookup hs (thn (J pins s σ H _ I h) fun u s1 ⟨x,H1,I1,O,q1⟩=>thn (hi pins s1 σ H1 _ I1 q1) fun iv s2 ⟨y,H2,W,ry,a,kvs,k,v,ex,g,ey,l,q2⟩=>?_);subst ex ey;obtain rfl:u=Value.ref a:=O;obtain⟨_,_,_,dd⟩:=g.of W;exact⟨dd.typeIs,N3 W g l ry fun w' s3 I3 Y=>⟨v,H2,I3,Y,q2⟩⟩
theorem RZ(P:ce)(w:db)(K:Yx)(hi:PE X i ty)(ho:PE X o td)(J:X.prog=P:=by rfl)(eW:X.w=w:=by rfl)(eK:X.K=K:=by rfl):PC X .In i o (SG P w K ty td):=by
 subst J eW eK;rintro pins s σ H Q I ⟨h⟩;refine thn (hi pins s σ H _ I h) fun iv s1 ⟨y,H1,Y,O,q1⟩=>thn (ho pins s1 σ H1 _ Y q1) fun u s2 ⟨x,H2,I2,W,a,kvs,k,ex,g,ey,q2⟩=>?_;subst ex ey;obtain rfl:u=Value.ref a:=W;exact Vh I2 g O fun s3 I3=>⟨.bl _,H2,I3,Z,q2⟩
theorem MB(P:ce)(w:db)(K:Yx)(hi:PE X i ty)(ho:PE X o td)(J:X.prog=P:=by rfl)(eW:X.w=w:=by rfl)(eK:X.K=K:=by rfl):PC X .NotIn i o (Kt P w K ty td):=by
 subst J eW eK;rintro pins s σ H Q I ⟨h⟩;refine thn (hi pins s σ H _ I h) fun iv s1 ⟨y,H1,Y,O,q1⟩=>thn (ho pins s1 σ H1 _ Y q1) fun u s2 ⟨x,H2,I2,W,a,kvs,k,ex,g,ey,q2⟩=>?_;subst ex ey;obtain rfl:u=Value.ref a:=W;exact QU I2 g O fun s3 I3=>⟨.bl _,H2,I3,Z,q2⟩
theorem Om(P:ce)(w:db)(K:Yx)(ho:PE X o td)(he:PE X e ty)(hf:PE X f tx)(m:M2 X o "get" apos e f cpos)(eP:X.prog=P:=by rfl)(eW:X.w=w:=by rfl)(eK:X.K=K:=by rfl):PE X (.Call (.Attribute o "get" apos) [e,f] [] cpos) (Nh P w K td ty tx):=by
 subst eP eW eK;rintro pins s σ H Q I ⟨h⟩;refine wpAny_Call_method m.base m.few m.line PySem.F.plainAttrs_dict PySem.F.slot_dict_get PySem.F.type_dict_get (thn (ho pins s σ H _ I h) fun u s1 ⟨x,H1,O,rx,a,kvs,ex,g,q1⟩=>?_);subst ex;obtain rfl:u=Value.ref a:=rx;obtain⟨_,_,_,J⟩:=g.of O;refine⟨J.typeIs,fun b eb=>?_,?_⟩
 ·cases eb;obtain⟨o,_,_,Y,hx,_⟩:=J;exact⟨o,Y,hx.2.1⟩
 rw[m.trees]
 refine Calls.callWith_builtin rfl (Calls.evalArgs_plain (Calls.spliced_cons (thn (he pins s1 σ H1 _ O q1) fun iv s2 ⟨y,H2,I2,ry,q2⟩ =>
  Calls.spliced_cons (thn (hf pins s2 σ H2 _ I2 q2) fun fv s3 ⟨z,H3,I3,rz,k,ey,q3⟩=>Calls.spliced_nil ?_))))
 subst ey;exact Sn I3 g ry rz fun w' s4 I4 W=>⟨_,H3,I4,W,q3⟩
theorem KP(P:ce)(w:db)(K:Yx)(mg:Str->Option am)(base:dw)(hr:BK n X.A)(hx:DM CX X E)(hv:PE X (.Subscript o i p) tv)(ha:PA X (e::es) t)(he:cQ (e::es) X.env=(false,dE e X.env)::cQ es X.env:=by rfl)(Y:(dU pos (cQ es X.env)).any (·.1)=false:=by rfl)(eP:X.prog=P:=by rfl)(eW:X.w=w:=by rfl)(eK:X.K=K:=by rfl)(eM:X.mg=mg:=by rfl)(eB:X.base=base:=by rfl) :
 PE X (.Call (.Subscript o i p) (e::es) [] pos) (Pk CX P w K mg base n E tv t):=by
 subst eP eW eK eM eB;rintro pins s σ H Q I ⟨h⟩;show bv _ _ (do let f <- dE (Expr.Subscript o i p) X.env;callWith pos f [] (dU pos (cQ (e::es) X.env)) (fS pos (fc [] X.env))) _ _ _
 refine ac (thn (hv pins s σ H _ I h) fun u J ⟨x,H0,O,r0,f,fd,ex,hk,q⟩=>?_);subst ex;obtain rfl:u=Value.ref f:=r0;refine Zb (h₀:=X.base) O.ok.mod.kin hk (thn (ha pos pins J σ H0 _ O q) fun us s1 ⟨vs,H1,W,r,ps,sp,F,hb,q1⟩=>⟨W.kIn,?_⟩) he Y;exact Mt F hr hb .nil hx W r (by rw[Za];exact q1)
end
structure FdM(CX:CXT)(P:ce)(w:db)(K:Yx)(mg:Str->Option am)(base:dw)(n:Nat)(C:ad)(m:Str)(ps:List Str)(sp:Sp):Prop where
 ex:∃(f:ad) (fd:bn),Ax P w K mg base CX n f fd ps sp/\Be K fd ps []/\UI K C m f
structure FdI(CX:CXT)(P:ce)(w:db)(K:Yx)(mg:Str->Option am)(base:dw)(n:Nat)(C:ad)(x:Str)(ps:List Str)(sp:Sp):Prop where
 ex:∃(f:ad) (fd:bn),Ax P w K mg base CX n f fd ps sp/\Be K fd ps []/\Mk K C f/\mg x=some (.ref C)
section
variable {X:Cx}{CX:CXT}{n k:Nat}{C:ad}{ps:List Str}{sp:Sp}{E:XK}{x m:Str}{p pos apos:Pos}{e o:Expr}{es:List Expr}{ta:TE}{t:TA}
theorem E4{pl:Sem Bool}(J:PE X o ta)(c:Cls X.K C)(F:FdM CX X.prog X.w X.K X.mg X.base n C m ps sp)(hr:BK k X.A)(hx:DM CX X E)(ha:PA X (e::es) t)(hn:n<=k:=by decide)
 (Y:cQ (e::es) X.env=(false,dE e X.env)::cQ es X.env:=by rfl) (W:(dU pos (cQ es X.env)).any (·.1)=false:=by rfl)
 (ht:dE (.Call (.Attribute o m apos) (e::es) [] pos) X.env=(do
  let ov <- dE o X.env
  standAt apos.atName
  let (f,first) <- holding [ov] (getMethod ov m pl)
  callWith pos f first (dU pos (cQ (e::es) X.env)) (fS pos (fc [] X.env))):=by rfl) :
 PE X (.Call (.Attribute o m apos) (e::es) [] pos) (SD C m sp [] E ta t):=by
 obtain⟨f,fd,F1,O,F3⟩:=F.ex;exact RU J c F3 F1 (hr.mono hn) O .nil hx ha Y W ht
theorem Qc(F:FdI CX X.prog X.w X.K X.mg X.base n C x ps sp)(hr:BK k X.A)(hg:Gl X x)(hx:DM CX X E)(ha:PA X (e::es) t)(J:n+1<=k:=by decide)(Y:(x == ("__debug__" : Str))=false:=by decide)(he:cQ (e::es) X.env=(false,dE e X.env)::cQ es X.env:=by rfl)(W:(dU pos (cQ es X.env)).any (·.1)=false:=by rfl) :
 PE X (.Call (.Name x p) (e::es) [] pos) (SE C sp [] E t):=by
 obtain⟨f,fd,F1,O,F3,F4⟩:=F.ex;exact RV F3 F1 (hr.mono J) hg F4 O .nil hx ha Y he W
end
section
variable {X:Cx}{o value:Expr}{f:Str}{pos pos':Pos}{ta tv:TE}
theorem Nz(K:Yx)(Y:PE X o ta)(W:eI o f X.env (dE o X.env)=dE o X.env)(e:X.K=K:=by rfl):PE X (.Attribute o f pos) (UW K ta f):=by subst e;exact TY Y W
theorem Nv(K:Yx)(ha:PE X o ta)(Y:PE X value tv)(W:swapsWith value (some (.Attribute o f pos')) pos.line X.env=pure false)(e:X.K=K:=by rfl):PS X (.Assign [.Attribute o f pos'] value pos) (UZ K ta tv f):=by subst e;exact TK ha Y W
end
def J4(w:db)(q:Str×Tok×ad):DictEntry:=⟨PyData.keyHash w.params q.1,.str q.1 q.2.1,.ref q.2.2⟩
theorem LB{P:ce}{w:db}:∀(qs:List (Str×Tok×ad)),Pairs (C7 P w) (qs.map (J4 w)) (qs.map fun q=>((Sum.inr q.1:Key),Value.ref q.2.2))
 | []=>.nil
 | q::qs=>.cons (by show Value.isStrOf q.1 (.str q.1 q.2.1)=true;simp[Value.isStrOf]) rfl (LB qs)
theorem NK{P:ce}{w:db}{K:Yx}{a:ad}{n:Nat}(qs:List (Str×Tok×ad))(hk:K.lookup a=some ⟨.type "dict",none,.dict (qs.map (J4 w)).toArray n,#[]⟩)(Y:(qs.map (·.1)).Nodup)(O:(a == ee)=false) :
 KDk P w K a (qs.map fun q=>((Sum.inr q.1:Key),V.ref q.2.2)):=by
 refine⟨_,_,n,qs.map fun q=>((Sum.inr q.1:Key),Value.ref q.2.2),hk,⟨Z,Z,Z⟩,Z,fun e W=>?_,?_,?_,?_,O⟩
 ·obtain⟨q,J,rfl⟩:=aX.mp (List.mem_toArray.mp W);exact⟨Sum.inr q.1,by show Value.isStrOf q.1 (.str q.1 q.2.1)=true;simp[Value.isStrOf],Z⟩
 ·simpa using LB qs
 ·rw[cy];have e:((fun x:Key×am=>x.1) ∘ fun q:Str×Tok×ad=>((Sum.inr q.1:Key),Value.ref q.2.2))=(Sum.inr:Str->Key) ∘ (·.1):=rfl;rw[e,<- cy];exact cm.mpr (Y.imp fun h z=>h (Sum.inr.inj z))
 ·clear hk Y
  induction qs with
  | nil=>exact .nil
  | cons q qs ih=>exact .cons ⟨Z,Z⟩ ih
theorem Ek{K:Yx}{H:Hp}{a:ad}{o:Obj}{vs:Array am}{n:Nat}{i j:Int}(hk:K.lookup a=some o)(O:o.cls = .type "tuple")(W:o.data = .seq vs n)(e:vs.toList.map Ij=[some (.int i),some (.int j)]):SqT K H a [.int i,.int j]:=by
 refine .inr ⟨o,vs,n,hk,O,W,?_,GX e fun u _ x h=>LW h⟩;have Y:=congrArg Zg e;simp at Y;rw[Y];decide
section
variable {prog:ce}{w:db}{A:dl}{E:am->aI->Prop}{s:aI}
abbrev zp1(h:dw)(l:ad):dw:=h.push { cls:=.type "list_iterator",data:=.fields #[.ref l,.int 0 0] }
abbrev zp2(h:dw)(l t:ad):dw:=(zp1 h l).push { cls:=.type "tuple_iterator",data:=.fields #[.ref t,.int 0 0] }
abbrev zp3(h:dw)(l t:ad):dw:=(zp2 h l t).push { cls:=.type "tuple",data:=.seq #[.ref h.objs.size,.ref (zp1 h l).objs.size] }
abbrev zp4(h:dw)(l t:ad):dw:=(zp3 h l t).push { cls:=.type "tuple",data:=.seq #[.none,.none] }
abbrev zp5(h:dw)(l t:ad):dw:=(zp4 h l t).push { cls:=.type "zip",data:=.fields #[.none,.bool false,.bool false,.ref (zp2 h l t).objs.size,.ref (zp3 h l t).objs.size] }
theorem MM(l t:ad)(xs ys:Array am) :
 Meets (Builtin.«zip.__new__» ⟨[.type "zip",.ref l,.ref t],[]⟩) (fun _ R s=>s.heap.IsList l xs/\s.heap.IsTuple t ys/\R (.ok (.ret (.ref (zp4 s.heap l t).objs.size))) { s with heap:=zp5 s.heap l t }) :=
 .of_wp fun prog w A R s h=>by
  obtain⟨hp,g,d,tk,os⟩:=s;obtain⟨O,J,h⟩:=h;have ab:=sub_zip;have W:Heap.IsList (Shared.heap ⟨hp,g,d,tk,os⟩) l xs:=O;have Y:Heap.IsTuple (Shared.heap ⟨hp.push { cls:=.type "list_iterator",data:=.fields #[.ref l,.int 0 0] },g,d,tk,os⟩) t ys:=Heap.IsTuple.push J _
  wp_walk using eJ W,wpAny_pyIter_tuple Y
  exact⟨_,Z,h⟩
theorem OR{l t:ad}{xs ys:Array am}{Q:am->aI->Prop}(hl:s.heap.IsList l xs)(ht:s.heap.IsTuple t ys)
 (h:∀h',fD h' (s.heap.objs.size+4) (s.heap.objs.size+2) (s.heap.objs.size+3) .none->dI h' (s.heap.objs.size+2) (.ref s.heap.objs.size) (.ref (s.heap.objs.size+1))->dI h' (s.heap.objs.size+3) .none .none ->
  h'.IsListIter s.heap.objs.size l 0->h'.IsTupleIter (s.heap.objs.size+1) t 0->(∀c o,s.heap.get? c=some o->h'.get? c=some o)->Q (.ref (s.heap.objs.size+4)) { s with heap:=h' }) :
 bv (cr prog w) A (call (.type "zip") [.ref l,.ref t]) Q E s:=by
 refine callType_new F.called_zip (by decide) (F.typeCall_zip_2 _ _) (F.newCall_zip_2 _ _) (fun W=>F.args_object_init_3 W _ _) F.entry_zip_new (MM l t xs ys) ⟨hl,ht,?_⟩
 have O:(zp1 s.heap l).objs.size=s.heap.objs.size+1:=Heap.size_push ..;have J:(zp2 s.heap l t).objs.size=s.heap.objs.size+2:=by rw[Heap.size_push,O]
 have z3:(zp3 s.heap l t).objs.size=s.heap.objs.size+3:=by rw[Heap.size_push,J]
 have z4:(zp4 s.heap l t).objs.size=s.heap.objs.size+4:=by rw[Heap.size_push,z3]
 have Y:∀{h:dw} {o:Obj} {c:ad} {p:Obj},h.get? c=some p->(h.push o).get? c=some p:=fun e=>Heap.get?_push_of_some _ e;have g5:(zp5 s.heap l t).get? (zp4 s.heap l t).objs.size=some _:=Heap.get?_push_size _ rfl;have g4:(zp5 s.heap l t).get? (zp3 s.heap l t).objs.size=some _:=Y (Heap.get?_push_size _ rfl);have g3:(zp5 s.heap l t).get? (zp2 s.heap l t).objs.size=some _:=Y (Y (Heap.get?_push_size _ rfl));have g2:(zp5 s.heap l t).get? (zp1 s.heap l).objs.size=some _:=Y (Y (Y (Heap.get?_push_size _ rfl)));have g1:(zp5 s.heap l t).get? s.heap.objs.size=some _:=Y (Y (Y (Y (Heap.get?_push_size _ rfl))));show _/\_;rw[J,z3,z4]at g5;rw[O,J]at g3;rw[z3]at g4;rw[O]at g2;rw[z4];exact⟨⟨_,g5,Z⟩,h _ g5 g3 g4 ⟨_,g1,Z,Z⟩ ⟨_,g2,Z,Z⟩ fun c o x=>Y (Y (Y (Y (Y x))))⟩
end
section
variable {prog:ce}{w:db}{A:dl}{E:am->aI->Prop}{s:aI}
theorem Ln{it t:ad}{Q:am->aI->Prop}(hh:A.handled=none){k:Nat}{ys:Array am}(Y:s.heap.IsTupleIter it t k)(ht:s.heap.IsTuple t ys)(hy:ys[k]? = none)
 (hE:∀h' e,Heap.ExtBut it s.heap h'->(∃o,h'.get? e=some o/\o.cls = .type "StopIteration")->E (.ref e) { s with heap:=h' }):bv (cr prog w) A (Builtin.SmallTypes.nextOf (.ref it)) Q E s:=by
 obtain⟨o,O,hc,J⟩:=id Y;obtain⟨ot,ab,_,nt,W⟩:=ht;unfold Builtin.SmallTypes.nextOf;refine ac (dD (name:=Str.ofString "__next__") Y.typeIs F.slot_tuple_iterator_next (dP F.slot_tuple_iterator_next Y.typeIs F.entry_tuple_iterator_next ?_ (F.args_tuple_iterator_next_1 _)));show bv _ _ (field (.ref it) 0 >>= _) _ _ s;refine ac (dB O J (x:=.ref t) rfl ?_);show bv _ _ (if (Value.ref t == Value.none)=true then _ else _) _ _ s;rw[if_neg (show ¬((Value.ref t == Value.none)=true) from Bool.false_ne_true)];show bv _ _ (field (.ref it) 1 >>= _) _ _ s;refine ac (dB O J (x:=.int (k:Int) 0) rfl ?_);show bv _ _ (seqItems? (.ref t) >>= _) _ _ s;refine ac (dM ab W ?_);simp only[Zt,hy];refine ac (fj (ac (wpAny_setField O J (by simp) ?_)))
 show bv _ _ (newExc (.type "StopIteration") [] >>= _) _ _ _;refine ac ?_;simp only[newExc,newTuple];refine ac (dO ?_ (by size_fits))
 refine ac (m:=firstArgMember _ _) (wpAny_of_eq (a:=Value.none) (by first | rfl | (simp only[firstArgMember];rfl)) ?_)
 refine dO ?_ (by size_fits)
 simp only[raiseNew];refine ac (wpAny_handled ?_)
 first | rw[show A.in1.handled=none from hh] | rw[hh]
 refine ac (aQ (wpAny_throw ?_));exact hE _ _ (((Heap.SameBut.update ..).extBut.push _).push _) ⟨_,Heap.get?_push_size _ rfl,Z⟩
theorem OY{z TI TO i1 i2 l1 l2:ad}{k1 k2:Nat}{xs ys:Array am}{a b:am}{Q:Fin->aI->Prop}(hh:A.handled=none)(D:fi z TI TO i1 i2 l1 l2)
 (hz:fD s.heap z TI TO .none) (aF:dI s.heap TI (.ref i1) (.ref i2)) (aC:dI s.heap TO a b) (h1:s.heap.IsListIter i1 l1 k1) (h2:s.heap.IsTupleIter i2 l2 k2) (as:s.heap.IsList l1 xs) (aP:s.heap.IsTuple l2 ys) (an:xs[k1]? = none\/ys[k2]? = none)
 (hE:∀h' e,(∀c o,c≠z->c≠TO->c≠i1->c≠i2->s.heap.get? c=some o->h'.get? c=some o)->(∃o,h'.get? e=some o/\o.cls = .type "StopIteration")->E (.ref e) { s with heap:=h' }) :
 bv (cr prog w) A (Builtin.«zip.__next__» ⟨[.ref z],[]⟩) Q E s:=by
 show bv _ _ (field (.ref z) 2 >>= _) _ _ _;refine ac (dB hz rfl (x:=.bool false) rfl ?_);show bv _ _ (field (.ref z) 3 >>= _) _ _ _;refine ac (dB hz rfl (x:=.ref TI) rfl ?_);refine ac (dM aF rfl ?_);show bv _ _ (Builtin.SmallTypes.ownedTupleIsFree (.ref z) >>= _) _ _ _;refine ac ?_;unfold Builtin.SmallTypes.ownedTupleIsFree;refine ac (dB hz rfl (x:=.none) rfl (aQ ?_));simp only[if_true];refine ac (fj ?_);refine ac (dB hz rfl (x:=.ref TO) rfl ?_);refine ac (dQ hz (by simp) fun g1 O t1=>?_)
 replace O:fD g1 z TI TO .ellipsis:=O
 refine ac ?_;simp only[List.zipIdx_cons,List.zipIdx_nil,ar,cq];refine ac (ac (fR ?_));show bv _ _ (Builtin.SmallTypes.nextOf (.ref i1) >>= _) _ _ _;cases hx:xs[k1]? with
 | none =>
   refine ac (wpAny_nextOf_list_end hh (h1.extBut t1.extBut D.i1z) (as.extBut t1.extBut D.l1z) hx fun g2 e J he=>?_);obtain⟨oe,Y,W⟩:=he;have ap:fD g2 z TI TO .ellipsis:=J _ _ D.i1z.symm O;have ak:e≠z:=fun x=>by subst x;rw[ap]at Y;cases Y;simp at W
   exact dQ ap (by simp) fun g3 _ t3=>hE g3 e (fun c o c1 _ c3 _ x=>t3.extBut _ _ c1 (J _ _ c3 (t1.extBut _ _ c1 x))) ⟨oe,t3.extBut _ _ ak Y,W⟩
 | some x =>
   refine ac (eG (h1.extBut t1.extBut D.i1z) (as.extBut t1.extBut D.l1z) hx fun g2 _ J=>aQ ?_);have ab:dI g2 TO a b:=J.extBut _ _ D.TOi1 (t1.extBut _ _ D.TOz aC);refine ac (dM ab rfl ?_);refine ac (fu ab fun g3 _ t3=>?_);refine ac (fO (aQ ?_));refine ac (ac (fR ?_));show bv _ _ (Builtin.SmallTypes.nextOf (.ref i2) >>= _) _ _ _;refine ac (Ln hh (((h2.extBut t1.extBut D.i2z).extBut J.extBut D.i12.symm).extBut t3.extBut D.TOi2.symm) (((aP.extBut t1.extBut D.l2z).extBut J.extBut D.l2i1).extBut t3.extBut D.l2TO) (an.resolve_left (by rw[hx];exact fun q=>nomatch q)) fun g4 e t4 he=>?_)
   obtain⟨oe,Y,W⟩:=he;have al:fD g4 z TI TO .ellipsis:=t4 _ _ D.i2z.symm (t3.extBut _ _ D.TOz.symm (J.extBut _ _ D.i1z.symm O));have ak:e≠z:=fun x=>by subst x;rw[al]at Y;cases Y;simp at W
   exact dQ al (by simp) fun g5 _ t5=>hE g5 e (fun c o c1 c2 c3 c4 x=>t5.extBut _ _ c1 (t4 _ _ c4 (t3.extBut _ _ c2 (J.extBut _ _ c3 (t1.extBut _ _ c1 x))))) ⟨oe,t5.extBut _ _ ak Y,W⟩
theorem K3{it t:ad}{k:Nat}{ys:Array am}{y:am}{Q:am->aI->Prop}(Y:s.heap.IsTupleIter it t k)(ht:s.heap.IsTuple t ys)(hy:ys[k]? = some y)
 (hQ:∀h',h'.IsTupleIter it t (k+1)->Heap.SameBut it s.heap h'->Q y { s with heap:=h' }):bv (cr prog w) A (Builtin.SmallTypes.nextOf (.ref it)) Q E s:=by
 obtain⟨o,O,hc,W⟩:=id Y;obtain⟨ot,ab,_,nt,J⟩:=ht;unfold Builtin.SmallTypes.nextOf;refine ac (dD (name:=Str.ofString "__next__") Y.typeIs F.slot_tuple_iterator_next (dP F.slot_tuple_iterator_next Y.typeIs F.entry_tuple_iterator_next ?_ (F.args_tuple_iterator_next_1 _)));show bv _ _ (field (.ref it) 0 >>= _) _ _ s;refine ac (dB O W (x:=.ref t) rfl ?_);show bv _ _ (if (Value.ref t == Value.none)=true then _ else _) _ _ s;rw[if_neg (show ¬((Value.ref t == Value.none)=true) from Bool.false_ne_true)];show bv _ _ (field (.ref it) 1 >>= _) _ _ s;refine ac (dB O W (x:=.int (k:Int) 0) rfl ?_);show bv _ _ (seqItems? (.ref t) >>= _) _ _ s;refine ac (dM ab J ?_);simp only[Zt,hy];refine ac (wpAny_setField O W (by simp) (aQ ⟨y,Z,aQ (hQ _ ⟨_,Heap.get?_update_self _ O (Obj.isFreed_of_fields (Obj.data_mapFields W _)),(Obj.cls_mapFields ..).trans hc,?_⟩ (Heap.SameBut.update ..))⟩))
 rw[Obj.data_mapFields W];simp[dW]
theorem O6{z TI TO i1 i2 l1 l2:ad}{k1 k2:Nat}{xs ys:Array am}{x y a b:am}{Q:Option am->aI->Prop}(D:fi z TI TO i1 i2 l1 l2)
 (hz:fD s.heap z TI TO .none) (ak:dI s.heap TI (.ref i1) (.ref i2)) (ab:dI s.heap TO a b) (h1:s.heap.IsListIter i1 l1 k1) (h2:s.heap.IsTupleIter i2 l2 k2) (al:s.heap.IsList l1 xs) (an:s.heap.IsTuple l2 ys) (hx:xs[k1]? = some x) (hy:ys[k2]? = some y)
 (hQ:∀h',fD h' z TI TO (dW s.heap.objs.size)->dI h' TO x y->h'.IsListIter i1 l1 (k1+1)->h'.IsTupleIter i2 l2 (k2+1)->dI h' s.heap.objs.size x y->h'.objs.size=s.heap.objs.size+1 ->
  (∀c o,c≠z->c≠TO->c≠i1->c≠i2->s.heap.get? c=some o->h'.get? c=some o)->Q (some (.ref s.heap.objs.size)) { s with heap:=h' }):bv (cr prog w) A (ff (.ref z)) Q E s:=by
 have hT:s.TypeIs (.ref z) "zip":=⟨_,hz,Z⟩;unfold ff;refine ac (ft (dD (name:=Str.ofString "__next__") hT F.slot_zip_next (dP F.slot_zip_next hT F.entry_zip_next ?_ (F.args_zip_next_1 _))));show bv _ _ (field (.ref z) 2 >>= _) _ _ _;refine ac (dB hz rfl (x:=.bool false) rfl ?_);show bv _ _ (field (.ref z) 3 >>= _) _ _ _;refine ac (dB hz rfl (x:=.ref TI) rfl ?_);refine ac (dM ak rfl ?_);show bv _ _ (Builtin.SmallTypes.ownedTupleIsFree (.ref z) >>= _) _ _ _;refine ac ?_;unfold Builtin.SmallTypes.ownedTupleIsFree;refine ac (dB hz rfl (x:=.none) rfl (aQ ?_));simp only[if_true];refine ac (fj ?_);refine ac (dB hz rfl (x:=.ref TO) rfl ?_);refine ac (dQ hz (by simp) fun g1 W t1=>?_)
 replace W:fD g1 z TI TO .ellipsis:=W
 refine ac ?_;simp only[List.zipIdx_cons,List.zipIdx_nil,ar,cq];refine ac (ac (fR ?_));show bv _ _ (Builtin.SmallTypes.nextOf (.ref i1) >>= _) _ _ _;refine ac (eG (h1.extBut t1.extBut D.i1z) (al.extBut t1.extBut D.l1z) hx fun g2 q2 O=>aQ ?_);have o2:dI g2 TO a b:=O.extBut _ _ D.TOi1 (t1.extBut _ _ D.TOz ab);refine ac (dM o2 rfl (ac (fu o2 fun g3 o3 J=>?_)))
 replace o3:dI g3 TO x b:=o3
 refine ac (fO (aQ ?_));refine ac (ac (fR ?_));show bv _ _ (Builtin.SmallTypes.nextOf (.ref i2) >>= _) _ _ _;refine ac (K3 (((h2.extBut t1.extBut D.i2z).extBut O.extBut D.i12.symm).extBut J.extBut D.TOi2.symm) (((an.extBut t1.extBut D.l2z).extBut O.extBut D.l2i1).extBut J.extBut D.l2TO) hy fun g4 q4 t4=>aQ ?_);have o4:dI g4 TO x b:=t4.extBut _ _ D.TOi2 o3;refine ac (dM o4 rfl (ac (fu o4 fun Y o5 t5=>?_)))
 replace o5:dI Y TO x y:=o5
 refine ac (fO (aQ (aQ ?_)));refine ac (dM o5 rfl (ac (wpAny_newTuple ?_)));have z5:Y.objs.size=s.heap.objs.size:=by rw[t5.1,t4.1,J.1,O.1,t1.1]
 have y5:fD Y z TI TO .ellipsis:=t5.extBut _ _ D.TOz.symm (t4.extBut _ _ D.i2z.symm (J.extBut _ _ D.TOz.symm (O.extBut _ _ D.i1z.symm W)));have k5:∀c o,c≠z->c≠TO->c≠i1->c≠i2->s.heap.get? c=some o->Y.get? c=some o:=fun c o c1 c2 c3 c4 e=>t5.extBut _ _ c2 (t4.extBut _ _ c4 (J.extBut _ _ c2 (O.extBut _ _ c3 (t1.extBut _ _ c1 e))));have p5:Y.IsListIter i1 l1 (k1+1):=((q2.extBut J.extBut D.TOi1.symm).extBut t4.extBut D.i12).extBut t5.extBut D.TOi1.symm;have r5:Y.IsTupleIter i2 l2 (k2+1):=q4.extBut t5.extBut D.TOi2.symm;have lz:z<Y.objs.size:=Heap.lt_size y5;show bv _ _ (Builtin.SmallTypes.ownedTupleHandOut (.ref z) (.ref Y.objs.size) >>= _) _ _ _;refine ac ?_;unfold Builtin.SmallTypes.ownedTupleHandOut;have y6:fD (Y.push { cls:=.type "tuple",data:=.seq #[x,y] }) z TI TO .ellipsis:=Heap.get?_push_of_some _ y5;refine ac (dQ y6 (by simp) fun g7 y7 t7=>?_)
 replace y7:fD g7 z TI TO (dW Y.objs.size):=y7
 refine dQ y7 (by simp) fun g8 y8 t8=>?_
 replace y8:fD g8 z TI TO (dW Y.objs.size):=y8
 have up:∀c o,c≠z->Y.get? c=some o->g8.get? c=some o:=fun c o c1 e=>t8.extBut _ _ c1 (t7.extBut _ _ c1 (Heap.get?_push_of_some _ e));have n8:dI g8 Y.objs.size x y:=t8.extBut _ _ (YK lz) (t7.extBut _ _ (YK lz) (Heap.get?_push_size _ rfl));have s8:g8.objs.size=Y.objs.size+1:=by rw[t8.1,t7.1,Heap.size_push]
 rw[z5]at y8 n8 s8;refine aQ ⟨_,Z,?_⟩;refine aQ ?_;show Q (some (.ref Y.objs.size)) _;rw[z5];exact hQ g8 y8 (up _ _ D.TOz o5) (p5.at fun o e=>up _ o D.i1z e) (r5.at fun o e=>up _ o D.i2z e) n8 s8 fun c o c1 c2 c3 c4 e=>up c o c1 (k5 c o c1 c2 c3 c4 e)
theorem O5{z TI TO i1 i2 l1 l2:ad}{k1 k2:Nat}{xs ys:Array am}{a b:am}{Q:Option am->aI->Prop}(hh:A.handled=none)(D:fi z TI TO i1 i2 l1 l2)
 (hz:fD s.heap z TI TO .none) (O:dI s.heap TI (.ref i1) (.ref i2)) (W:dI s.heap TO a b) (h1:s.heap.IsListIter i1 l1 k1) (h2:s.heap.IsTupleIter i2 l2 k2) (J:s.heap.IsList l1 xs) (ab:s.heap.IsTuple l2 ys) (Y:xs[k1]? = none\/ys[k2]? = none)
 (hQ:∀h',(∀c o,c≠z->c≠TO->c≠i1->c≠i2->s.heap.get? c=some o->h'.get? c=some o)->Q none { s with heap:=h' }):bv (cr prog w) A (ff (.ref z)) Q E s:=by
 have hT:s.TypeIs (.ref z) "zip":=⟨_,hz,Z⟩;unfold ff
 refine ac (ft (dD (name:=Str.ofString "__next__") hT F.slot_zip_next
  (dP F.slot_zip_next hT F.entry_zip_next (OY hh D hz O W h1 h2 J ab Y fun h' e hk he=>?_) (F.args_zip_next_1 _))))
 obtain⟨o,ho,hc⟩:=he;exact ac (wpAny_isInstance (T:="StopIteration") (b:=true) ⟨o,ho,hc⟩ isSubtype_stop (aQ (hQ _ hk)))
end
def Rk(K:Yx)(a b:ad)(xs ys:List V):It :=
 ⟨fun i H=>SqL K H a xs/\SqT K H b ys/\i<min xs.length ys.length,
  fun i H x H'=>∃T x1 y1,xs[i]? = some x1/\ys[i]? = some y1/\H T=none/\x = .ref T/\H'=upd H T (.tup [x1,y1]),
  fun i H=>SqL K H a xs/\SqT K H b ys/\min xs.length ys.length<=i⟩
theorem O8{P:ce}{w:db}{K:Yx}{aP:List Expr}{kk}{pos:Pos}{a b z TI TO i1 i2:ad}(D:fi z TI TO i1 i2 a b)(xs ys:List V) :
 IP P w K (.Tuple aP kk pos) (Rk K a b xs ys) [z,TI,TO,i1,i2] z (fun i h=>fD h z TI TO .none/\dI h TI (.ref i1) (.ref i2)/\(∃u v,dI h TO u v)/\h.IsListIter i1 a i/\h.IsTupleIter i2 b i) where
 mem:=by simp
 obj:=fun i h st c hc=>by
  obtain⟨hz,W,⟨u,v,O⟩,⟨o1,e1,_,d1⟩,⟨o2,e2,_,d2⟩⟩:=st;have J:c=z\/c=TI\/c=TO\/c=i1\/c=i2:=by simpa using hc
  rcases J with rfl | rfl | rfl | rfl | rfl
  ·exact⟨_,hz,fun v z=>by cases z⟩
  ·exact⟨_,W,fun v z=>by cases z⟩
  ·exact⟨_,O,fun v z=>by cases z⟩
  ·exact⟨o1,e1,fun v z=>by rw[d1]at z;cases z⟩
  ·exact⟨o2,e2,fun v z=>by rw[d2]at z;cases z⟩
 keep:=fun i h h' st k=>by
  obtain⟨hz,W,⟨u,v,O⟩,h1,h2⟩:=st;exact⟨k z (by simp) _ hz,k TI (by simp) _ W,⟨u,v,k TO (by simp) _ O⟩,h1.at fun o e=>k i1 (by simp) o e,h2.at fun o e=>k i2 (by simp) o e⟩
 item:=by
  intro X hP hw hK hc i pins s σ H E I hf st hg;subst hP hw hK;obtain⟨an,ak,hi⟩:=hg;obtain⟨ba,al,p1,_⟩:=I.list an;obtain⟨aC,ap,p2,_⟩:=I.tuple ak;have hx:xs[i]? = some (xs[i]'(by lia)):=aB (by lia)
  have hy:ys[i]? = some (ys[i]'(by lia)):=aB (by lia)
  obtain⟨u1,bd,as⟩:=al.get hx;obtain⟨u2,bc,a0⟩:=ap.get hy;generalize xs[i]'(by lia)=x1 at hx as
  generalize ys[i]'(by lia)=y1 at hy a0
  obtain⟨hz,W,⟨ta,tb,O⟩,h1,h2⟩:=st;refine O6 D hz W O h1 h2 p1.isList p2 (x:=u1) (y:=u2) (by simpa using bd) (by simpa using bc) fun h' a1 a2 a3 a4 a5 a6 a7=>?_
  refine⟨_,Z,wpAny_letOwnedTupleGo_zip (s:={ s with heap:=h' }) a1 fun bb b1 b2=>?_⟩
  have lz:z<s.heap.objs.size:=Heap.lt_size hz;have bg:TI<s.heap.objs.size:=Heap.lt_size W;have bf:TO<s.heap.objs.size:=Heap.lt_size O;have l1:i1<s.heap.objs.size:=by obtain⟨_,e,_⟩:=h1;exact Heap.lt_size e
  have l2:i2<s.heap.objs.size:=by obtain⟨_,e,_⟩:=h2;exact Heap.lt_size e
  have I1:Inv X pins σ (upd H s.heap.objs.size (.tup [x1,y1])) { s with heap:=s.heap.push { cls:=.type "tuple",data:=.seq #[u1,u2] } } :=
   I.laid (t':=s.toks) (o:=.tup [x1,y1]) (fun b ob q=>Heap.get?_push_of_some _ q) (YL _) ⟨by show 2<=bi;decide,[u1,u2],.cons as (.cons a0 .nil),IsTup.new _ _⟩
  have aF:∀c∈[z,TI,TO,i1,i2],DR X pins (upd H s.heap.objs.size (.tup [x1,y1])) c:=fun c hc=>by
   obtain⟨f0,fr⟩:=hf c hc
   have be:c<s.heap.objs.size:=by
    have J:c=z\/c=TI\/c=TO\/c=i1\/c=i2:=by simpa using hc
    rcases J with rfl | rfl | rfl | rfl | rfl<;>assumption
   exact⟨by rw[Aq (Yt be)];exact f0,fr⟩
  have I2:=I1.turnedL (h':=bb) (t':=s.toks) (ch:=[z,TO,i1,i2]) (fun c o ab e=>by
   have Y:c≠z/\c≠TO/\c≠i1/\c≠i2:=by simpa using ab
   obtain⟨c1,c2,c3,c4⟩:=Y;refine b2.extBut _ _ c1 ?_;by_cases hcs:c=s.heap.objs.size
   ·subst hcs;have e':(s.heap.push { cls:=.type "tuple",data:=.seq #[u1,u2] }).get? s.heap.objs.size=some o:=e;rw[Heap.get?_push_size _ rfl]at e';cases e';exact a5
   ·have e':(s.heap.push { cls:=.type "tuple",data:=.seq #[u1,u2] }).get? c=some o:=e;refine a7 c o c1 c2 c3 c4 ?_;rw[Heap.get?_push_ne _ _ _ hcs]at e'
    exact e') (fun c hc=>aF c (by
     have J:c=z\/c=TO\/c=i1\/c=i2:=by simpa using hc
     rcases J with rfl | rfl | rfl | rfl<;>simp))
  refine⟨.ref s.heap.objs.size,upd H s.heap.objs.size (.tup [x1,y1]),I2,Z,⟨_,x1,y1,hx,hy,I.hok.fresh (YL _),Z,Z⟩,⟨b1,?_,⟨_,_,b2.extBut _ _ D.TOz a2⟩,a3.extBut b2.extBut D.i1z,a4.extBut b2.extBut D.i2z⟩,fun c hc=>(aF c hc).1⟩;exact b2.extBut _ _ D.TIz (a7 _ _ D.TIz D.TITO D.TIi1 D.TIi2 W)
 done:=by
  intro X hP hw hK hc i pins s σ H E I hf st hg;subst hP hw hK;obtain⟨an,ak,hi⟩:=hg;obtain⟨ba,al,p1,_⟩:=I.list an;obtain⟨aC,ap,p2,_⟩:=I.tuple ak;have e1:=al.length;have e2:=ap.length;obtain⟨hz,W,⟨ta,tb,O⟩,h1,h2⟩:=st
  refine O5 (I.ok.hd hc) D hz W O h1 h2 p1.isList p2 ?_ fun h' k=>⟨Z,I.turnedL (t':=s.toks) (ch:=[z,TO,i1,i2]) (fun c o ab e=>by
   have Y:c≠z/\c≠TO/\c≠i1/\c≠i2:=by simpa using ab
   exact k c o Y.1 Y.2.1 Y.2.2.1 Y.2.2.2 e) fun c hc=>hf c (by
    have J:c=z\/c=TO\/c=i1\/c=i2:=by simpa using hc
    rcases J with rfl | rfl | rfl | rfl<;>simp)⟩
  by_cases h:xs.length<=i
  ·exact .inl (by rw[bw];simp;lia)
  ·exact .inr (by rw[bw];simp;lia)
 self:=fun _ _ _ _ _ st h=>eQ st.1 h
inductive SY(K:Yx)(ta:TA)(σ:St)(H:Hp)(R:It->Hp->Prop):Prop
 | mk (h:ta σ H fun vs H1=>∃a b xs ys,vs=[.ref a,.ref b]/\SqL K H1 a xs/\SqT K H1 b ys/\R (Rk K a b xs ys) H1):SY K ta σ H R
theorem TQ{X:Cx}(K:Yx){O:List Expr}{kk}{pos':Pos}{e1 W:Expr}{ta:TA}{p pos:Pos}(hg:Gl X "zip")(hm:X.mg "zip" = none)(ha:PA X [e1,W] ta)(hs:cQ [e1,W] X.env=[(false,dE e1 X.env),(false,dE W X.env)]:=by rfl)(ak:cQ [W] X.env=[(false,dE W X.env)]:=by rfl)(e:X.K=K:=by rfl) :
 PI X (.Tuple O kk pos') (.Call (.Name "zip" p) [e1,W] [] pos) (SY K ta):=by
 subst e;rintro pins s σ H R I ⟨h⟩;refine Call_ (CG I hg hm N7 (PyProof.Rows.callWith_type1 (thn (ha pos pins s σ H _ I h) fun us Y ⟨vs,H1,J,r1,q1⟩=>?_) (by rw[hs,ak]) (by rw[ak];rfl)))
 obtain⟨a,b,xs,ys,e,aC,al,q⟩:=q1;subst e;cases r1 with
 | cons r rr =>
   cases rr with
   | cons r' rr =>
     cases rr;cases r;cases r';obtain⟨ba,bb,p1,_⟩:=J.list aC;obtain⟨a0,bc,p2,_⟩:=J.tuple al;have la:a<Y.heap.objs.size:=by obtain⟨_,e,_⟩:=p1.isList;exact Heap.lt_size e
     have lb:b<Y.heap.objs.size:=by obtain⟨_,e,_⟩:=p2;exact Heap.lt_size e
     refine OR p1.isList p2 fun h' hz aF ap an aP hk=>?_;refine eQ (s:={ Y with heap:=h' }) hz ?_
     have D:=zipApart_new la lb;refine⟨Y.heap.objs.size+4,[Y.heap.objs.size+4,Y.heap.objs.size+2,Y.heap.objs.size+3,Y.heap.objs.size,Y.heap.objs.size+1],_,_,H1,Z,J.kept (t':=Y.toks) hk,O8 D xs ys,⟨hz,aF,⟨_,_,ap⟩,an,aP⟩,fun c hc=>?_,q⟩
     have ab:Y.heap.objs.size<=c:=by
      have as:c=Y.heap.objs.size+4\/c=Y.heap.objs.size+2\/c=Y.heap.objs.size+3\/c=Y.heap.objs.size\/c=Y.heap.objs.size+1:=by simpa using hc
      rcases as with rfl | rfl | rfl | rfl | rfl
      ·exact bz _ _
      ·exact bz _ _
      ·exact bz _ _
      ·exact YL _
      ·exact bz _ _
     exact J.fpOk ab (J.hok.fresh ab)
theorem QO{K:Yx}{a b:ad}{xs ys:List V}{g:TG}{tb:TS}{D:DP}{σ:St}{H:Hp}(Y:Nat->St->Hp->Prop)(h0:Y 0 σ H)(hl:∀i σ H,i<=min xs.length ys.length->Y i σ H->SqL K H a xs/\SqT K H b ys)
 (hs:∀i x y T σ H,xs[i]? = some x->ys[i]? = some y->H T=none->Y i σ H->g (.ref T) σ (upd H T (.tup [x,y])) fun J H2=>tb { D with nx:=Y (i+1),ct:=Y (i+1),bk:=D.nx } J H2) (hd:∀σ H,Y (min xs.length ys.length) σ H->D.nx σ H) :
 ∃ W:Nat->Nat->St->Hp->Prop,(∃m,W 0 m σ H)/\∀i m σ H,W i m σ H ->
   ((Rk K a b xs ys).stop i H/\D.nx σ H)\/((Rk K a b xs ys).go i H/\∃N:St->Hp->Prop,(∀O H',N O H'->∃m',m'<m/\W (i+1) m' O H')/\∀x H',(Rk K a b xs ys).yld i H x H'->g x σ H' fun J H2=>tb { D with nx:=N,ct:=N,bk:=D.nx } J H2):=by
 refine⟨fun i m σ H=>m=min xs.length ys.length-i/\i<=min xs.length ys.length/\Y i σ H,⟨min xs.length ys.length,by simp,YN _,h0⟩,?_⟩
 rintro i m σ H ⟨rfl,hi,p⟩;obtain⟨q1,q2⟩:=hl i σ H hi p;by_cases hlt:i<min xs.length ys.length
 ·refine .inr ⟨⟨q1,q2,hlt⟩,Y (i+1),fun O H' p'=>⟨min xs.length ys.length-(i+1),by lia,Z,hlt,p'⟩,fun x H' y=>?_⟩
  obtain⟨T,x1,y1,hx,hy,hT,rfl,rfl⟩:=y;exact hs i x1 y1 T σ _ hx hy hT p
 ·have e:i=min xs.length ys.length:=by lia
  subst e;exact .inl ⟨⟨q1,q2,YL _⟩,hd σ H p⟩
section
variable {X:Cx}{n k:Nat}{C:ad}{ps:List Str}{sp:Sp}{E:XK}{x m:Str}{p pos apos:Pos}{e o:Expr}{es:List Expr}{ta:TE}{t:TA}
end
section
variable {X:Cx}
end
inductive V2(x:V)(lo:Option Int)(hi:Option Int)(H:Hp)(Q:VK):Prop
 | to (y:Str) (k:Nat) (h1:x = .str y) (h2:lo=none) (h3:hi=some (k:Nat)) (h5:y.length<=bi) (h6:Q (.str ⟨((sg y).take k).toArray⟩) H):V2 x lo hi H Q
 | frm (y:Str) (k:Nat) (h1:x = .str y) (h2:lo=some (k:Nat)) (h3:hi=none) (h5:y.length<=bi) (h6:Q (.str ⟨((sg y).drop k).toArray⟩) H):V2 x lo hi H Q
@[irreducible] def SN(K:Yx):R2:=fun x y H Q=>∃p ds d,y = .ref p/\Rds K H (.ref p) (.tuple ds)/\Rds K H x d/\SeqAt.shaped (.tuple ds)=true/\SeqAt.shaped d=true/\Q (.bl (ds.any fun y=>PyData.eqv y d)) H
theorem Vv{K:Yx}{x y:V}{H:Hp}{Q:VK}(h:∃p ds d,y = .ref p/\Rds K H (.ref p) (.tuple ds)/\Rds K H x d/\SeqAt.shaped (.tuple ds)=true/\SeqAt.shaped d=true/\Q (.bl (ds.any fun y=>PyData.eqv y d)) H):SN K x y H Q:=by
 unfold SN;exact h
theorem UC:dy "any" = some (.builtin "any"):=by decide +kernel
theorem OU{X:Cx}(hc:X.calm=true):Cp X (.builtin "any") (fun xs H Q=>∃(a:ad) (bs:List Bool),xs=[.ref a]/\SqL X.K H a (bs.map V.bl)/\Q (.bl (bs.any id)) H):=by
 intro pins s σ H xs us Q I r h;obtain⟨a,bs,rfl,hq,q⟩:=h;obtain⟨u,rfl,rfl⟩:=Es r;obtain⟨Y,rv,p,hz⟩:=I.list hq;have hl:=rv.length;rw[Z4]at hl;have ab:a<s.heap.objs.size:=by obtain⟨_,e,_⟩:=p.isList;exact Heap.lt_size e
 refine call_any_walk (eJ p.isList ?_)
 refine⟨s.heap.objs.size,[s.heap.objs.size,a],[s.heap.objs.size],Y.toArray.size,_,_,fun i=>(bs[i]?).getD false,Z,Walks.list (A:=X.A.in1) (I.ok.hd hc) _ a (Yt ab) Y.toArray,
  ⟨⟨_,Heap.get?_push_size _ rfl,Z,Z⟩,p.isList.push _⟩,fun i v s' Q' E' hP hQ=>?_,fun h' tk hk=>?_⟩
 ·have J:Y[i]? = some v:=by simpa using hP
  have hi:i<bs.length:=by rw[hl];exact(YG.mp J).1
  obtain⟨u',O,ru⟩:=rv.get (i:=i) (x:=.bl bs[i]) (by rw[Zl,aB hi];rfl)
  rw[J]at O;cases O;cases ru;dsimp only at hQ;rw[aB hi,aE]at hQ;exact dR hQ
 ·have e:((Yu Y.toArray.size).any fun i=>(bs[i]?).getD false)=bs.any id:=by
   rw[Zs,<- hl,Bool.eq_iff_iff,List.any_eq_true,List.any_eq_true]
   constructor
   ·rintro⟨i,hi,z⟩;have W:=Yw.mp hi;rw[aB W,aE]at z;exact⟨_,aH W,z⟩
   ·rintro⟨b,hb,z⟩;obtain⟨i,hi,rfl⟩:=aG hb;exact⟨i,Yw.mpr hi,by rw[aB hi,aE];exact z⟩
  rw[e];exact⟨.bl _,H,I.kept (fun b o e=>hk b o (fun hm=>by rw[aA.mp hm]at e;exact Ys _ (Heap.lt_size e)) (Heap.get?_push_of_some _ e)),Z,q⟩
inductive Vl(K:Yx)(xs:List V)(H:Hp)(Q:VK):Prop
 | mk (a:ad) (bs:List Bool) (h1:xs=[.ref a]) (h2:SqL K H a (bs.map V.bl)) (h3:Q (.bl (bs.any id)) H):Vl K xs H Q
theorem VR{X:Cx}(K:Yx)(Y:X.calm=true)(e:X.K=K:=by rfl):Cp X (.builtin "any") (Vl K):=by
 subst e;intro pins s σ H xs us Q I r h;obtain⟨a,bs,h1,h2,W⟩:=h;exact OU Y pins s σ H xs us Q I r ⟨a,bs,h1,h2,W⟩
end L2
namespace Pf
set_option maxHeartbeats 4000000
open PySem L2
def top(i:Nat):eU:=PySem.Challenge.pw_onecurve_k69_whole_wrong_heights_at_a_de.main.body.getD i (.Pass ⟨0,0,0,0⟩)
theorem MZ{a1:Type}{p:a1->Prop}{G:Prop}(h:∃Y,p Y)(f:∀Y,p Y->G):G:=Exists.elim h f
theorem Cj{a1 a2:Type}{p:a1->a2->Prop}{G:Prop}(h:∃Y W,p Y W)(f:∀Y W,p Y W->G):G:=Exists.elim h fun Y h=>MZ h (f Y)
theorem Dd{a1 a2 a3:Type}{p:a1->a2->a3->Prop}{G:Prop}(h:∃Y W O,p Y W O)(f:∀Y W O,p Y W O->G):G:=Exists.elim h fun Y h=>Cj h (f Y)
theorem MY{a1 a2 a3 a4:Type}{p:a1->a2->a3->a4->Prop}{G:Prop}(h:∃Y W J O,p Y W J O)(f:∀Y W J O,p Y W J O->G):G:=Exists.elim h fun Y h=>Dd h (f Y)
theorem VQ{a1 a2 a3 a4 a5:Type}{p:a1->a2->a3->a4->a5->Prop}{G:Prop}(h:∃Y J x3 W O,p Y J x3 W O)(f:∀Y J x3 W O,p Y J x3 W O->G):G:=Exists.elim h fun Y h=>MY h (f Y)
theorem VP{a1 a2 a3 a4 a5 a6:Type}{p:a1->a2->a3->a4->a5->a6->Prop}{G:Prop}(h:∃Y x2 x3 O J W,p Y x2 x3 O J W)(f:∀Y x2 x3 O J W,p Y x2 x3 O J W->G):G:=Exists.elim h fun Y h=>VQ h (f Y)
theorem VO{a1 a2 a3 a4 a5 a6 a7:Type}{p:a1->a2->a3->a4->a5->a6->a7->Prop}{G:Prop}(h:∃Y x2 x3 O J W x7,p Y x2 x3 O J W x7)(f:∀Y x2 x3 O J W x7,p Y x2 x3 O J W x7->G):G:=Exists.elim h fun Y h=>VP h (f Y)
theorem VN{a1 a2 a3 a4 a5 a6 a7 a8:Type}{p:a1->a2->a3->a4->a5->a6->a7->a8->Prop}{G:Prop}(h:∃Y x2 x3 O J W x7 x8,p Y x2 x3 O J W x7 x8)(f:∀Y x2 x3 O J W x7 x8,p Y x2 x3 O J W x7 x8->G):G:=Exists.elim h fun Y h=>VO h (f Y)
theorem Sk{a1 a2 a3 a4 a5 a6 a7 a8 a9:Type}{p:a1->a2->a3->a4->a5->a6->a7->a8->a9->Prop}{G:Prop}(h:∃Y x2 x3 O x5 W x7 x8 J,p Y x2 x3 O x5 W x7 x8 J)(f:∀Y x2 x3 O x5 W x7 x8 J,p Y x2 x3 O x5 W x7 x8 J->G):G:=Exists.elim h fun Y h=>VN h (f Y)
theorem BJ{W Y G:Prop}(h:W/\Y)(f:W->Y->G):G:=f h.1 h.2
theorem Cm{O Y W G:Prop}(h:O/\Y/\W)(f:O->Y->W->G):G:=BJ h.2 (f h.1)
theorem Ep{J W O Y G:Prop}(h:J/\W/\O/\Y)(f:J->W->O->Y->G):G:=Cm h.2 (f h.1)
theorem DQ{O J A3 W Y G:Prop}(h:O/\J/\A3/\W/\Y)(f:O->J->A3->W->Y->G):G:=Ep h.2 (f h.1)
theorem R9{O J A3 W Y A6 G:Prop}(h:O/\J/\A3/\W/\Y/\A6)(f:O->J->A3->W->Y->A6->G):G:=DQ h.2 (f h.1)
theorem Vo{J A2 A3 O W A6 Y G:Prop}(h:J/\A2/\A3/\O/\W/\A6/\Y)(f:J->A2->A3->O->W->A6->Y->G):G:=R9 h.2 (f h.1)
structure O4(K:Yx)(C:ad):Prop where
 cl:Cls K C
 na_points:ET K C "points"
def C9(B:Int)(q:Rat):Int:=q.num*B.fdiv q.den
theorem IT{B:Int}{q:Rat}(h:(q.den:Int)∣B):((C9 B q:Int):Rat)=q*(B:Rat):=by
 obtain⟨k,rfl⟩:=h;have e:(((q.den:Int)*k).fdiv (q.den:Int))=k:=ZM _ (Nm.den_ne q);unfold C9;rw[e,ZW,ZW,Nm.num_mul q]
 grind
theorem Rq{B:Int}{qs:List Rat}(h:∀q∈qs,(q.den:Int)∣B)(x:Rat):Cv.ev ((qs.map (C9 B)).map fun t:Int=>(t:Rat)) x=Cv.ev qs x*(B:Rat):=by
 rw[<- Cv.ev_scale,cy]
 congr 1
 exact cE fun q Y=>IT (h q Y)
inductive Ky(K:Yx)(vs:List V)(H:Hp)(Q:VK)(E_3:XK):Prop
 | mk (b:Bool) (r:ad) (xs:List V) (qs:List Rat) (n:Nat) (h1:vs=[.ref r]) (h2:Sq b K H r xs) (h3:AD K H xs qs) (h4:(∀q∈qs,Bd n (q.den:Int))) (h5:n*(qs.length+2)<=60000000) (h6:∀B:Int,0<B->(∀q∈qs,(q.den:Int)∣B)->Bd (n*qs.length+1) B->Q (.int B) H):Ky K vs H Q E_3
inductive Jo(K:Yx)(vs:List V)(H:Hp)(Q:VK)(E_3:XK):Prop
 | mk (b:Bool) (r:ad) (xs:List V) (qs:List Rat) (B:Int) (m n:Nat) (h1:vs=[.ref r,.int B]) (h2:Sq b K H r xs) (h3:AD K H xs qs) (h4:Bd m B) (h5:(∀q∈qs,Bd n q.num)) (h6:m+n<=134217728) (h7:qs.length<=1000) (h8:∀p,H p=none->Q (.ref p) (upd H p (.lst ((qs.map (C9 B)).map V.int)))):Jo K vs H Q E_3
inductive Ef(K:Yx)(vs:List V)(H:Hp)(Q:VK)(E_3:XK):Prop
 | mk (r:ad) (xs:List V) (qs:List Rat) (h1:vs=[.ref r]) (h2:SqL K H r xs) (h3:AD K H xs qs) (h4:qs.length<=1000) (h5:∀p H',Ac H H'->Crv K H' p (Cv.strip qs)->Q (.ref p) H'):Ef K vs H Q E_3
inductive RA(K:Yx)(vs:List V)(H:Hp)(Q:VK)(E_3:XK):Prop
 | mk (l rx:ad) (ts:List Int) (x:Rat) (m n:Nat) (h1:vs=[.ref l,.ref rx]) (h2:SqL K H l (ts.map V.int)) (h3:Az K H (.ref rx) x) (h4:(∀t∈ts,Bd m t)) (h5:RB n x) (h6:m+(n+1)*(ts.length+4)<=100000000) (h7:∀(h s:Int) (p:ad),s=(x.den:Int) ^ ts.length->s≠0->(h:Rat)=Cv.evI ts x*(s:Rat)->Bd (m+(n+1)*(ts.length+2)) h->Bd (n*ts.length+1) s->H p=none->Q (.ref p) (upd H p (.tup [.int h,.int s]))):RA K vs H Q E_3
theorem Qu{b d:Int}(W:0<b)(hd:0<d):0<b*d.fdiv (ZL b d:Int)/\b∣b*d.fdiv (ZL b d:Int)/\d∣b*d.fdiv (ZL b d:Int):=by
 have J:(0:Int)<(ZL b d:Int):=by have:=Nm.gcd_pos (a:=b) (b:=d) (by lia);lia
 obtain⟨k,hk⟩:(ZL b d:Int)∣d:=ZQ ..;obtain⟨j,O⟩:(ZL b d:Int)∣b:=ZO ..;generalize(ZL b d:Int)=g at *;subst hk;subst O;have e:(g*k).fdiv g=k:=ZM _ (by lia)
 rw[e]
 have Y:0<k:=by
  rcases Int.lt_trichotomy k 0 with z | z | z
  ·have:g*k<0:=Int.mul_neg_of_pos_of_neg J z
   lia
  ·rw[z,cF]at hd;lia
  ·exact z
 exact⟨Int.mul_pos W Y,⟨k,Z⟩,⟨j,by grind⟩⟩
inductive Mf(K:Yx)(vs:List V)(H:Hp)(Q:VK)(E_3:XK):Prop
 | mk (f g:ad) (fs gs:List Int) (m n:Nat) (h1:vs=[.ref f,.ref g]) (h2:SqL K H f (fs.map V.int)) (h3:SqL K H g (gs.map V.int)) (h4:1<=gs.length) (h5:fs.length<=1000) (h6:gs.length<=1000) (h7:(∀t∈fs,Bd m t)) (h8:(∀t∈gs,Bd n t)) (h9:m+n<=60000000) (h10:∀(p:ad) (H':Hp) (ps:List Int),Ac H H'->H p=none->H' p=some (.lst (ps.map V.int))->ps.length=fs.length+gs.length-1->(∀x,Cv.evI ps x=Cv.evI fs x*Cv.evI gs x)->(∀t∈ps,Bd (m+n+20) t)->Q (.ref p) H'):Mf K vs H Q E_3
inductive CV(K:Yx)(vs:List V)(H:Hp)(Q:VK)(E_3:XK):Prop
 | mk (l:ad) (ts:List Int) (b:Int) (h1:vs=[.ref l,.int b]) (h2:SqL K H l (ts.map V.int)) (h3:b≠0) (h4:ts.length<=1000) (h5:∀p H',Ac H H'->Crv K H' p (Cv.strip (ts.map fun t=>ZN t b))->Q (.ref p) H'):CV K vs H Q E_3
def EG(qs:List Rat):List Rat:=(Yu (qs.length-1)).map fun j=>qs.getD (j+1) 0*((j+1:Nat):Rat)
inductive Js(K:Yx)(vs:List V)(H:Hp)(Q:VK)(E_3:XK):Prop
 | mk (r:ad) (qs:List Rat) (n:Nat) (h1:vs=[.ref r]) (h2:Crv K H r qs) (h3:qs.length<=1000) (h4:(∀q∈qs,RB n q)) (h5:n<=10000000) (h6:∀p H',Ac H H'->Crv K H' p (EG qs)->Q (.ref p) H'):Js K vs H Q E_3
def Cd:List Rat->List Rat->Rat->Rat
 | k::ks,s::ss,x=>s+(x-k)*Cd ks ss x
 | _,_,_=>0
inductive FQ(K:Yx)(vs:List V)(H:Hp)(Q:VK)(E_3:XK):Prop
 | mk (rk rst:ad) (xs ys:List V) (ks ss:List Rat) (n:Nat) (h1:vs=[.ref rk,.ref rst]) (h2:SqL K H rk xs) (h3:AD K H xs ks) (h4:SqL K H rst ys) (h5:AD K H ys ss) (h6:ks.length=ss.length) (h7:ks.length<=12) (h8:(∀q∈ks,RB n q)) (h9:(∀q∈ss,RB n q)) (h10:n<=2048000) (h11:∀p H' cs,Ac H H'->Crv K H' p cs->cs.length<=ks.length->De cs->(∀q∈cs,RB (2*(n*ks.length)+21*ks.length+2*n+30) q)->(∀x,Cv.ev cs x=Cd ks ss x)->Q (.ref p) H'):FQ K vs H Q E_3
theorem QR(c x:Rat):Cv.evI [-c.num,(c.den:Int)] x=(x-c)*((c.den:Int):Rat):=by
 show((-c.num:Int):Rat)+x*(((c.den:Int):Rat)+x*0)=_;rw[Rat.intCast_neg,Nm.num_mul c]
 grind
theorem NA(p q:Rat)(Y:q≠0):ZN (p.num*q.den) (p.den*q.num)=p / q:=by
 have W:q.num≠0:=fun z=>Y (Rat.num_eq_zero.mp z);apply Nm.div_eq (ZU (Nm.den_ne p) W);rw[ZW,ZW,Nm.num_mul p,Nm.num_mul q];have e:p / q*q=p:=ZT Y;have h:p / q*(((p.den:Int):Rat)*(q*((q.den:Int):Rat)))=(p / q*q)*(((p.den:Int):Rat)*((q.den:Int):Rat)):=by grind
 rw[h,e]
 grind
inductive Mh(K:Yx)(vs:List V)(H:Hp)(Q:VK)(E_3:XK):Prop
 | mk (x y:V) (p q:Rat) (m n:Nat) (h1:vs=[x,y]) (h2:Az K H x p) (h3:Az K H y q) (h4:q≠0) (h5:RB m p) (h6:RB n q) (h7:m+n<=100000000) (h8:∀r,H r=none->Q (.ref r) (upd H r (nT (p / q)))):Mh K vs H Q E_3
theorem RB.over{m n:Nat}{p q:Rat}(h1:RB m p)(h2:RB n q)(Y:q≠0):RB (m+n) (p / q):=by
 have W:q.num≠0:=fun z=>Y (Rat.num_eq_zero.mp z);rw[<- NA p q Y];exact⟨Bd.num (h1.1.mul h2.2),Bd.den (ZU (Nm.den_ne p) W) (h1.2.mul h2.1)⟩
theorem Mp{K:Yx}{H:Hp}{r:ad}{xs:List V}{v:Nat}{Q:VK}(Y:SqT K H r xs)(O:v<=xs.length)(h:∀(p:ad) (H':Hp),Ac H H'->SqT K H' p (xs.drop v)->Q (.ref p) H'):SJ K (.ref r) (some (v:Int)) none H Q:=by
 by_cases e:v=0
 ·subst e;refine .inr ⟨r,xs,Z,Y,⟨by rw[HT.sIx_nat];lia,Z⟩,h r H (Ac.refl _) ?_⟩
  rw[aY];exact Y
 ·by_cases e0:xs.length=0
  ·lia
  ·refine .inl ⟨r,xs,Z,Y,by rw[HT.sIx_nat];lia,fun p W=>?_⟩
   rw[Ec];exact h p _ (Ac.new W) (SqT.of A9)
theorem NY{K:Yx}{H:Hp}{a b:ad}{xs ys:List V}{Q:VK}(ha:SqT K H a xs)(Y:SqT K H b ys)(J:xs.length+ys.length<=bi)(h:∀(p:ad) (H':Hp),Ac H H'->SqT K H' p (xs++ys)->Q (.ref p) H'):Mw K (.ref a) (.ref b) H Q:=by
 by_cases ex:xs=[]
 ·subst ex;exact .inr ⟨a,b,ys,Z,Z,ha,Y,h b H (Ac.refl _) Y⟩
 ·refine .inl ⟨a,b,xs,ys,Z,Z,ha,Y,ex,J,fun W=>?_,fun _ p O=>h p _ (Ac.new O) (SqT.of A9)⟩;subst W;exact h a H (Ac.refl _) (by rw[Za];exact ha)
theorem E5{α β:Type}{F:α->β->Prop}:∀{l₁:List α} {l₂:List β} (i:Nat),Paired F l₁ l₂->Paired F (l₁.drop i) (l₂.drop i)
 | _,_,i,.nil=>by rw[List.drop_nil,List.drop_nil];exact .nil
 | _,_,0,.cons h t=>.cons h t
 | _,_,i+1,.cons _ t=>E5 i t
def Bc(ps:List Rat):List ES:=(Yu (ps.length-1)).map fun k:Nat=>(⟨ps.getD 0 0,(k:Int),ps.getD (k+1) 0⟩:ES)
def AA(pss:List (List Rat)):List ES:=(pss.map Bc).flatten
theorem AW(ps:List Rat):(Bc ps).length=ps.length-1:=by unfold Bc;rw[Z4,bF]
theorem Oc(pss:List (List Rat))(ps:List Rat):AA (pss++[ps])=AA pss++Bc ps:=by
 unfold AA;rw[aj,List.flatten_append];simp
theorem BV:∀pss:List (List Rat),(∀ps∈pss,ps.length<=3)->(AA pss).length<=2*pss.length
 | [],_=>YL _
 | p::r,h=>by
   have ih:=BV r fun ps Y=>h ps (YC _ Y);have Y:=h p YB;have e:AA (p::r)=Bc p++AA r:=rfl;rw[e,Zo,AW,YY]
   lia
def P23(pss:List (List Rat)):Prop:=∀ps∈pss,ps.length=2\/ps.length=3
theorem P23.take{pss:List (List Rat)}(h:P23 pss)(i:Nat):∀ps∈pss.take i,ps.length<=3:=fun ps Y=>by
 have:=h ps (cG Y);lia
theorem getD_some{l:List Rat}{i:Nat}(h:i<l.length):l[i]? = some (l.getD i 0):=by rw[aw,aB h];rfl
def cnt(x:Rat):List Rat->Nat
 | []=>0
 | y::r=>(if x<=y then 1 else 0)+cnt x r
theorem N6(x:Rat):∀l,cnt x l<=l.length
 | []=>YL _
 | y::r=>by
   have:=N6 x r;show(if x<=y then 1 else 0)+cnt x r<=r.length+1
   split<;>lia
theorem PY(x:Rat):x<=x+1:=by grind
theorem Tw(x:Rat):¬x+1<=x:=by grind
theorem LO(x:Rat):∀l,cnt (x+1) l<=cnt x l
 | []=>YL _
 | y::r=>by
   have:=LO x r;show(if x+1<=y then 1 else 0)+cnt (x+1) r<=(if x<=y then 1 else 0)+cnt x r;by_cases h:x+1<=y
   ·rw[if_pos h,if_pos (cH (PY x) h)];lia
   ·rw[if_neg h];lia
theorem N5{x:Rat}:∀{l},x∈l->cnt (x+1) l<cnt x l
 | y::r,h=>by
   show(if x+1<=y then 1 else 0)+cnt (x+1) r<(if x<=y then 1 else 0)+cnt x r
   rcases YD.mp h with z | z
   ·subst z;have:=LO x r;rw[if_neg (Tw x),if_pos Rat.le_refl];lia
   ·have:=N5 z;by_cases h:x+1<=y
    ·rw[if_pos h,if_pos (cH (PY x) h)];lia
    ·rw[if_neg h];lia
inductive EZ(K:Yx)(vs:List V)(H:Hp)(Q:VK)(E_3:XK):Prop
 | mk (r:ad) (xs:List V) (pss:List (List Rat)) (h1:vs=[.ref r]) (h2:SqT K H r xs) (h3:AY K H xs pss) (h4:P23 pss) (h5:pss.length<=100) (h6:∀(p:ad) (H':Hp) (ys:List V),Ac H H'->H p=none->H' p=some (.lst ys)->Ik K H' ys (AA pss)->Q (.ref p) H'):EZ K vs H Q E_3
inductive F0(K:Yx)(vs:List V)(H:Hp)(Q:VK)(E_3:XK):Prop
 | mk (r:ad) (xs:List V) (pss:List (List Rat)) (h1:vs=[.ref r]) (h2:SqT K H r xs) (h3:AY K H xs pss) (h4:P23 pss) (h5:pss.length<=100) (h6:∀(p:ad) (H':Hp) (ys:List V),Ac H H'->H p=none->H' p=some (.lst ys)->Am H' ys ((AA pss).map ES.x)->Q (.ref p) H'):F0 K vs H Q E_3
def P2(pss:List (List Rat)):Prop:=∀ps∈pss,ps.length=2
theorem P2.p23{pss:List (List Rat)}(h:P2 pss):P23 pss:=fun ps Y=>.inl (h ps Y)
inductive FN(K:Yx)(vs:List V)(H:Hp)(Q:VK)(E_3:XK):Prop
 | mk (r:ad) (xs:List V) (pss:List (List Rat)) (h1:vs=[.ref r]) (h2:SqT K H r xs) (h3:AY K H xs pss) (h4:P2 pss) (h5:pss.length<=100) (h6:∀(d:ad) (H':Hp),Ac H H'->Q (.ref d) H'):FN K vs H Q E_3
def Dg(pss:List (List Rat)):List Rat:=(pss.map fun ps=>Zf (ps.length-1) (ps.getD 1 0)).flatten
theorem Oh(pss:List (List Rat))(ps:List Rat):Dg (pss++[ps])=Dg pss++Zf (ps.length-1) (ps.getD 1 0):=by
 unfold Dg;rw[aj,List.flatten_append];simp
theorem DZ:∀pss,(Dg pss).length=(AA pss).length
 | []=>rfl
 | p::r=>by
   have e:AA (p::r)=Bc p++AA r:=rfl;have Y:Dg (p::r)=Zf (p.length-1) (p.getD 1 0)++Dg r:=rfl;rw[e,Y,Zo,Zo,Zp,AW,DZ r]
inductive Mb(K:Yx)(vs:List V)(H:Hp)(Q:VK)(E_3:XK):Prop
 | mk (r:ad) (xs:List V) (pss:List (List Rat)) (h1:vs=[.ref r]) (h2:SqT K H r xs) (h3:AY K H xs pss) (h4:P23 pss) (h5:pss.length<=100) (h6:∀(p:ad) (H':Hp) (ys:List V),Ac H H'->H p=none->H' p=some (.lst ys)->AD K H' ys (Dg pss)->Q (.ref p) H'):Mb K vs H Q E_3
def kn(pss:List (List Rat)):List Rat:=(AA pss).map ES.x
theorem BO(pss:List (List Rat)):(kn pss).length=(AA pss).length:=Z4 _
def RF(pss:List (List Rat))(x:Rat):Rat :=
 match pss.find? (fun ps=>decide (ps.length=3)&&decide (ps.getD 0 0=x)) with
 | some ps=>ps.getD 2 0
 | none=>0
def Dl(A kn:List Rat)(sl:Rat->Rat)(k:Nat):List Rat :=
 (Yu (kn.length-k)).map fun j=>if kn.getD (j+k) 0=kn.getD j 0 then sl (kn.getD j 0) else (A.getD (j+1) 0-A.getD j 0) / (kn.getD (j+k) 0-kn.getD j 0)
theorem DE(A kn:List Rat)(Y:Rat->Rat)(k:Nat):(Dl A kn Y k).length=kn.length-k:=by unfold Dl;rw[Z4,bF]
theorem HV{A kn:List Rat}{Y:Rat->Rat}{k j:Nat}(h:j<kn.length-k):(Dl A kn Y k).getD j 0=if kn.getD (j+k) 0=kn.getD j 0 then Y (kn.getD j 0) else (A.getD (j+1) 0-A.getD j 0) / (kn.getD (j+k) 0-kn.getD j 0):=by
 unfold Dl;rw[aw,Zl,bJ h];rfl
theorem BN{l:List Rat}{i:Nat}(h:i<l.length):l.getD i 0∈l:=Zn (getD_some h)
theorem Qm{A kn:List Rat}{O:Rat->Rat}{k m n:Nat}(J:∀q∈A,RB m q)(hk:∀q∈kn,RB n q)(hs:∀x,RB (2*m+2*n+2) (O x))(h1:1<=k)(hl:A.length+k=kn.length+1):∀q∈Dl A kn O k,RB (2*m+2*n+2) q:=fun q W=>by
 unfold Dl at W;obtain⟨j,hj,rfl⟩:=aX.mp W;have hj:=Yw.mp hj
 split
 ·exact hs _
 ·next Y =>
  have a1:=J _ (BN (l:=A) (i:=j+1) (by lia))
  have a0:=J _ (BN (l:=A) (i:=j) (by lia))
  have k1:=hk _ (BN (l:=kn) (i:=j+k) (by lia))
  have k0:=hk _ (BN (l:=kn) (i:=j) (by lia))
  exact(RB.over (a1.minus a0) (k1.minus k0) (fun z=>Y (by grind))).mono (by lia)
def tab(pss:List (List Rat)):Nat->List Rat
 | 0=>Dg pss
 | k+1=>Dl (tab pss k) (kn pss) (RF pss) (k+1)
theorem Du(pss:List (List Rat)):∀k,k<=(AA pss).length->(tab pss k).length=(AA pss).length-k
 | 0,_=>DZ pss
 | k+1,_=>by rw[tab,DE,BO]
def bnd(h n:Nat):Nat->Nat
 | 0=>h
 | k+1=>2*bnd h n k+2*n+2
theorem R6(h n:Nat):∀k,bnd h n k+(2*n+2)=2 ^ k*(h+2*n+2)
 | 0=>by show h+(2*n+2)=1*_;lia
 | k+1=>by
   have:=R6 h n k;rw[Nat.pow_succ,ZH (2 ^ k) 2,Nat.mul_assoc,<- this];show 2*bnd h n k+2*n+2+_=_
   lia
theorem R3{h n k m c:Nat}(Y:h+2*n+2<=c)(hk:k<=m):bnd h n k<=2 ^ m*c:=by
 have h1:=R6 h n k;have h2:2 ^ k<=2 ^ m:=aD (by decide) hk
 have W:2 ^ k*(h+2*n+2)<=2 ^ m*c:=cI h2 Y
 lia
theorem N9(h n:Nat):∀k,h<=bnd h n k
 | 0=>YL _
 | k+1=>by have:=N9 h n k;show h<=2*bnd h n k+2*n+2;lia
theorem R4(h n k:Nat):bnd h n k<=bnd h n (k+1):=by show _<=2*bnd h n k+2*n+2;lia
theorem R5(h n:Nat){j k:Nat}(Y:j<=k):bnd h n j<=bnd h n k:=by
 induction Y with
 | refl=>exact YL _
 | step _ ih=>exact Yy ih (R4 h n _)
theorem Ru{ps:List Rat}:∀t∈Bc ps,t.x=ps.getD 0 0:=fun t Y=>by
 unfold Bc at Y;obtain⟨k,_,rfl⟩:=aX.mp Y
 rfl
theorem K7(p:List Rat)(r:List (List Rat)):kn (p::r)=Zf (p.length-1) (p.getD 0 0)++kn r:=by
 have e:AA (p::r)=Bc p++AA r:=rfl;unfold kn;rw[e,aj]
 congr 1
 refine List.eq_replicate_iff.mpr ⟨by rw[Z4,AW],fun x Y=>?_⟩
 obtain⟨t,W,rfl⟩:=aX.mp Y;exact Ru t W
theorem MT:∀{pss:List (List Rat)} {x:Rat},x∈kn pss->∃ps∈pss,ps.getD 0 0=x
 | p::r,x,h=>by
   rw[K7]at h
   rcases YE.mp h with z | z
   ·exact⟨p,YB,(aL.mp z).2.symm⟩
   ·obtain⟨ps,h1,h2⟩:=MT z;exact⟨ps,YC _ h1,h2⟩
theorem Qy{pss:List (List Rat)}{n:Nat}(Y:∀ps∈pss,RB n (ps.getD 0 0)):∀x∈kn pss,RB n x:=fun x W=>by
 obtain⟨ps,h1,rfl⟩:=MT W;exact Y ps h1
theorem RM{pss:List (List Rat)}{n:Nat}(W:P23 pss)(J:∀ps∈pss,∀q∈ps,RB n q):∀x∈Dg pss,RB n x:=fun x Y=>by
 unfold Dg at Y;obtain⟨l,O,Y⟩:=cJ.mp Y;obtain⟨ps,h1,rfl⟩:=aX.mp O;rw[(aL.mp Y).2];exact J ps h1 _ (BN (by have:=W ps h1;lia))
theorem RE{pss:List (List Rat)}{n:Nat}(h1:1<=n)(W:∀ps∈pss,∀q∈ps,RB n q)(x:Rat):RB n (RF pss x):=by
 unfold RF
 split
 ·next ps h =>
  have h2:=List.mem_of_find?_eq_some h;have Y:=List.find?_some h;rw[Bool.and_eq_true,decide_eq_true_eq,decide_eq_true_eq]at Y;exact W ps h2 _ (BN (by lia))
 ·exact RB.zero h1
theorem M5{pss:List (List Rat)}{h n:Nat}(h23:P23 pss)(hn:1<=h)(hb:∀ps∈pss,∀q∈ps,RB h q)(hbk:∀ps∈pss,RB n (ps.getD 0 0)):∀k,k<=(AA pss).length->∀q∈tab pss k,RB (bnd h n k) q
 | 0,_=>RM h23 hb
 | k+1,hk=>by
   rw[tab];exact Qm (M5 h23 hn hb hbk k (by lia)) (Qy hbk) (fun x=>(RE hn hb x).mono (Yy (N9 h n k) (by lia))) (by lia) (by rw[Du _ _ (by lia),BO];lia)
theorem HZ:∀{pss:List (List Rat)},P23 pss->(pss.map fun ps=>ps.getD 0 0).Nodup->∀{j k:Nat},1<=k->j+k<(AA pss).length->(kn pss).getD (j+k) 0=(kn pss).getD j 0 ->
 k=1/\∃ps∈pss,ps.length=3/\ps.getD 0 0=(kn pss).getD j 0/\((AA pss).map ES.n).getD (j+1) 0=ps.getD 2 0/\(Dg pss).getD (j+1) 0=(Dg pss).getD j 0
 | p::r,h23,hnd,j,k,h1,hjk,he=>by
   rw[Z2,Zd]at hnd
   have hout:∀i,i<(kn r).length->(kn r).getD i 0≠p.getD 0 0:=fun i hi e=>by
    obtain⟨ps,h1,h2⟩:=MT (BN hi);exact hnd.1 (e ▸ h2 ▸ bS (f:=fun ps:List Rat=>ps.getD 0 0) h1)
   have et:AA (p::r)=Bc p++AA r:=rfl;have er:Dg (p::r)=Zf (p.length-1) (p.getD 1 0)++Dg r:=rfl;have ih:=@HZ r (fun ps h=>h23 ps (YC _ h)) hnd.2;have ab:=BO r;rw[K7]at he ⊢;rw[et,Zo,AW]at hjk
   rcases h23 p YB with Y | Y
   ·have e1:Zf (p.length-1) (p.getD 0 0)=[p.getD 0 0]:=by rw[Y];rfl
    have J:Bc p=[⟨p.getD 0 0,0,p.getD 1 0⟩]:=by unfold Bc;rw[Y];rfl
    have e3:Zf (p.length-1) (p.getD 1 0)=[p.getD 1 0]:=by rw[Y];rfl
    rw[e1]at he ⊢;rw[et,er,J,e3]
    match j with
    | 0 =>
      obtain⟨k',rfl⟩:∃k',k=k'+1:=⟨k-1,by lia⟩
      rw[bE]at he;exact absurd he (hout k' (by lia))
    | j'+1 =>
      rw[show j'+1+k=(j'+k)+1 by lia]at he
      obtain⟨W,ps,O,z3,z4,z5,z6⟩:=ih (j:=j') (k:=k) h1 (by lia) he
      exact⟨W,ps,YC _ O,z3,z4,z5,z6⟩
   ·have e1:Zf (p.length-1) (p.getD 0 0)=[p.getD 0 0,p.getD 0 0]:=by rw[Y];rfl
    have J:Bc p=[⟨p.getD 0 0,0,p.getD 1 0⟩,⟨p.getD 0 0,1,p.getD 2 0⟩]:=by unfold Bc;rw[Y];rfl
    have e3:Zf (p.length-1) (p.getD 1 0)=[p.getD 1 0,p.getD 1 0]:=by rw[Y];rfl
    rw[e1]at he ⊢;rw[et,er,J,e3]
    match j with
    | 0 =>
      match k,h1 with
      | 1,_=>exact⟨Z,p,YB,Y,Z,Z,Z⟩
      | k'+2,_ =>
        rw[bE]at he;exact absurd he (hout k' (by lia))
    | 1 =>
      obtain⟨k',rfl⟩:∃k',k=k'+1:=⟨k-1,by lia⟩
      rw[show 1+(k'+1)=k'+2 by lia]at he
      exact absurd he (hout k' (by lia))
    | j'+2 =>
      rw[show j'+2+k=(j'+k)+2 by lia]at he
      obtain⟨W,ps,O,z3,z4,z5,z6⟩:=ih (j:=j') (k:=k) h1 (by lia) he
      exact⟨W,ps,YC _ O,z3,z4,z5,z6⟩
def FR(K:Yx)(H:Hp)(p:ad)(H':Hp)(x:V)(rs:List Rat):Prop:=∃a zs,x = .ref a/\a≠p/\H a=none/\H' a=some (.lst zs)/\AD K H' zs rs
theorem FR.same{K:Yx}{H H1 H2:Hp}{p:ad}{x:V}{Y:List Rat}(h:FR K H p H1 x Y)(e:Ac H1 H2):FR K H p H2 x Y:=let ⟨a,zs,h1,h2,h3,h4,h5⟩:=h;⟨a,zs,h1,h2,h3,e _ _ h4,AD.same h5 e⟩
theorem FR.put{K:Yx}{H H1:Hp}{p:ad}{x:V}{Y:List Rat}{ys:List V}{o:HO}(h:FR K H p H1 x Y)(e:H1 p=some (.lst ys)):FR K H p (upd H1 p o) x Y:=let ⟨a,zs,h1,h2,h3,h4,h5⟩:=h;⟨a,zs,h1,h2,h3,by rw[Aq h2];exact h4,AD.put h5 e⟩
theorem MS{Y:Type}(f:Nat->Y)(i:Nat):((Yu (i+1)).map f)[i]? = some (f i):=by
 rw[Zl,bJ (by lia)];rfl
inductive Jq(K:Yx)(vs:List V)(H:Hp)(Q:VK)(E_3:XK):Prop
 | mk (r:ad) (xs:List V) (pss:List (List Rat)) (hh n:Nat) (h1:vs=[.ref r]) (h2:SqT K H r xs) (h3:AY K H xs pss) (h4:P2 pss) (h5:pss.length<=100) (h6:(pss.map fun ps=>ps.getD 0 0).Nodup) (h7:(AA pss).length<=8) (h8:(∀ps∈pss,∀q∈ps,RB hh q)) (h9:(∀ps∈pss,RB n (ps.getD 0 0))) (h10:1<=hh) (h11:hh+9*n+2<=8000) (h12:∀(p:ad) (H':Hp) (ys:List V),Ac H H'->H p=none->H' p=some (.lst ys)->Paired (FR K H p H') ys ((Yu (AA pss).length).map (tab pss))->Q (.ref p) H'):Jq K vs H Q E_3
def C0(pss:List (List Rat)):List Rat:=(Yu (AA pss).length).map fun k=>(tab pss k).getD 0 0
theorem DS(pss:List (List Rat)):(C0 pss).length=(AA pss).length:=by unfold C0;rw[Z4,bF]
inductive Jr(K:Yx)(vs:List V)(H:Hp)(Q:VK)(E_3:XK):Prop
 | mk (r:ad) (xs:List V) (pss:List (List Rat)) (hh n:Nat) (h1:vs=[.ref r]) (h2:SqT K H r xs) (h3:AY K H xs pss) (h4:P2 pss) (h5:pss.length<=100) (h6:(pss.map fun ps=>ps.getD 0 0).Nodup) (h7:(AA pss).length<=8) (h8:(∀ps∈pss,∀q∈ps,RB hh q)) (h9:(∀ps∈pss,RB n (ps.getD 0 0))) (h10:1<=hh) (h11:hh+9*n+2<=8000) (h12:∀(p:ad) (H':Hp) (zs:List V),Ac H H'->H p=none->H' p=some (.lst zs)->AD K H' zs (C0 pss)->Q (.ref p) H'):Jr K vs H Q E_3
theorem Pn{pss:List (List Rat)}{Y n:Nat}(O:P23 pss)(hb:∀ps∈pss,∀q∈ps,RB Y q)(W:∀ps∈pss,RB n (ps.getD 0 0))(h1:1<=Y)(ab:(AA pss).length<=8):∀q∈C0 pss,RB (bnd Y n 7) q:=fun q J=>by
 unfold C0 at J;obtain⟨k,hk,rfl⟩:=aX.mp J;have hk:=Yw.mp hk;have hl:=Du pss k (by lia)
 exact(M5 O h1 hb W k (by lia) _ (BN (by lia))).mono (R5 Y n (by lia))
inductive Ma(K:Yx)(vs:List V)(H:Hp)(Q:VK)(E_3:XK):Prop
 | mk (r:ad) (xs:List V) (pss:List (List Rat)) (hh n:Nat) (h1:vs=[.ref r]) (h2:SqT K H r xs) (h3:AY K H xs pss) (h4:P2 pss) (h5:pss.length<=100) (h6:(pss.map fun ps=>ps.getD 0 0).Nodup) (h7:(AA pss).length<=8) (h8:(∀ps∈pss,∀q∈ps,RB hh q)) (h9:(∀ps∈pss,RB n (ps.getD 0 0))) (h10:1<=hh) (h11:hh+9*n+2<=8000) (h12:∀(p:ad) (H':Hp) (cs:List Rat),Ac H H'->Crv K H' p cs->cs.length<=(AA pss).length->De cs->(∀q∈cs,RB (26*bnd hh n 7+300) q)->(∀x,Cv.ev cs x=Cd (kn pss) (C0 pss) x)->Q (.ref p) H'):Ma K vs H Q E_3
theorem EV:∀{pss:List (List Rat)},P23 pss->pss.length<=(AA pss).length
 | [],_=>YL _
 | p::r,h=>by
   have ih:=EV (pss:=r) fun ps Y=>h ps (YC _ Y);have Y:=h p YB;have e:AA (p::r)=Bc p++AA r:=rfl;rw[e,Zo,AW,YY]
   lia
inductive EF(K:Yx)(vs:List V)(H:Hp)(Q:VK)(E_3:XK):Prop
 | mk (ra rk d:ad) (as ks:List V) (A kn:List Rat) (sl:Rat->Rat) (k m n:Nat) (h1:vs=[.ref ra,.ref rk,.ref d,.int (k:Int)]) (h2:SqL K H ra as) (h3:AD K H as A) (h4:SqL K H rk ks) (h5:Am H ks kn) (h6:(∀j,j+k<kn.length->kn.getD (j+k) 0≠kn.getD j 0)) (h7:1<=k) (h8:k<=kn.length) (h9:A.length+k=kn.length+1) (h10:kn.length<=100) (h11:(∀q∈A,RB m q)) (h12:(∀q∈kn,RB n q)) (h13:m<=2000000) (h14:n<=1000) (h15:∀(p:ad) (H':Hp) (zs:List V),Ac H H'->H p=none->H' p=some (.lst zs)->AD K H' zs (Dl A kn sl k)->Q (.ref p) H'):EF K vs H Q E_3
theorem Gw(X k s:Rat):∀(ks Y:List Rat),ks.length=Y.length->Cd (ks++[k]) (Y++[s]) X=Cd ks Y X+s*L2.prV X ks
 | [],[],_=>by show s+(X-k)*0=0+s*1;grind
 | a::ks,b::Y,h=>by
   have ih:=Gw X k s ks Y (by simpa using h)
   show b+(X-a)*Cd (ks++[k]) (Y++[s]) X=(b+(X-a)*Cd ks Y X)+s*((X-a)*L2.prV X ks);rw[ih];grind
theorem HW(T:Nat->Nat->Rat)(x:Nat->Rat)(X:Rat):∀n,Cd ((Yu n).map x) ((Yu n).map fun k=>T k 0) X=Cv.ev (L2.nwT T x 0 n) X
 | 0=>rfl
 | n+1=>by
   rw[aW,aj,aj,L2.G0,<- HW T x X n];show Cd (_++[x n]) (_++[T n 0]) X=_;rw[Gw _ _ _ _ _ (by rw[Z4,Z4])]
   unfold L2.prF;have e:(Yu n).map x=(Yu n).map fun i=>x (0+i):=cE fun i _=>by rw[bE]
   rw[e]
theorem MQ(l:List Rat):l=(Yu l.length).map fun i=>l.getD i 0:=by
 refine ax fun i=>?_;rw[Zl];by_cases h:i<l.length
 ·rw[bJ h];exact getD_some h
 ·rw[aU (by lia),aU (by rw[bF];lia)];rfl
def tT(pss:List (List Rat))(k j:Nat):Rat:=(tab pss k).getD j 0
def xT(pss:List (List Rat))(j:Nat):Rat:=(kn pss).getD j 0
theorem Rr(pss:List (List Rat))(X:Rat):Cd (kn pss) (C0 pss) X=Cv.ev (L2.nwT (tT pss) (xT pss) 0 (AA pss).length) X:=by
 rw[<- HW];have e:=MQ (kn pss);rw[BO]at e;show Cd (kn pss) _ X=Cd ((Yu (AA pss).length).map fun i=>(kn pss).getD i 0) _ X;rw[<- e];rfl
theorem Tj{pss:List (List Rat)}(Y:P23 pss)(W:(pss.map fun ps=>ps.getD 0 0).Nodup):L2.Rb (tT pss) (xT pss) (AA pss).length:=fun k j hj=>by
 unfold tT xT;rw[tab,HV (by rw[BO];lia),show j+(k+1)=j+k+1 by lia]
 by_cases he:(kn pss).getD (j+k+1) 0=(kn pss).getD j 0
 ·rw[if_pos he,he];obtain⟨hk,ps,_,_,_,_,J⟩:=HZ Y W (j:=j) (k:=k+1) (by lia) (by lia) he
  have O:k=0:=by lia
  subst O;show _=(Dg pss).getD (j+1) 0-(Dg pss).getD j 0;rw[J];grind
 ·rw[if_neg he];have hd:(kn pss).getD (j+k+1) 0-(kn pss).getD j 0≠0:=fun z=>he (by grind)
  exact ZT hd
theorem Q7:∀{pss:List (List Rat)} {ps:List Rat},P23 pss->ps∈pss->∃i,i<(AA pss).length/\(kn pss).getD i 0=ps.getD 0 0/\(Dg pss).getD i 0=ps.getD 1 0/\(ps.length=3->i+1<(AA pss).length/\(kn pss).getD (i+1) 0=ps.getD 0 0)
 | p::r,ps,h23,hm=>by
   have et:AA (p::r)=Bc p++AA r:=rfl;have er:Dg (p::r)=Zf (p.length-1) (p.getD 1 0)++Dg r:=rfl;have Y:=h23 p YB;rw[et,er,K7,Zo,AW]
   rcases YD.mp hm with z | z
   ·subst z
    rcases Y with Y | Y
    ·rw[Y];exact⟨0,by lia,Z,Z,fun z=>by lia⟩
    ·rw[Y];exact⟨0,by lia,Z,Z,fun _=>⟨by lia,Z⟩⟩
   ·obtain⟨i,h1,h2,O,W⟩:=Q7 (pss:=r) (fun q J=>h23 q (YC _ J)) z
    rcases Y with Y | Y
    ·rw[Y];exact⟨i+1,by lia,h2,O,fun z=>⟨by have:=(W z).1;lia,(W z).2⟩⟩
    ·rw[Y];exact⟨i+2,by lia,h2,O,fun z=>⟨by have:=(W z).1;lia,(W z).2⟩⟩
theorem Pg{pss:List (List Rat)}(h2:P2 pss)(Y:(pss.map fun ps=>ps.getD 0 0).Nodup){cs:List Rat}(h:∀X,Cv.ev cs X=Cd (kn pss) (C0 pss) X):∀ps∈pss,Cv.ev cs (ps.getD 0 0)=ps.getD 1 0:=fun ps hm=>by
 have W:=Tj h2.p23 Y;obtain⟨i,h1,O,J,h4⟩:=Q7 h2.p23 hm;have e:=L2.Qi W (AA pss).length 0 i (by lia) h1
 rw[bE]at e;rw[h,Rr,<- O,<- J];exact e
theorem Ng:∀{pss:List (List Rat)},P2 pss->(AA pss).length=pss.length
 | [],_=>rfl
 | p::r,h=>by
   have ih:=Ng (pss:=r) fun ps W=>h ps (YC _ W);have Y:AA (p::r)=Bc p++AA r:=rfl;rw[Y,Zo,AW,h p YB,ih,YY]
   lia
theorem MG{pss:List (List Rat)}(h2:P2 pss)(Y:(pss.map fun ps=>ps.getD 0 0).Nodup){c d:List Rat}(hc:c.length<=(AA pss).length)(hd:d.length<=(AA pss).length)(oc:∀ps∈pss,Cv.ev c (ps.getD 0 0)=ps.getD 1 0)(J:∀ps∈pss,Cv.ev d (ps.getD 0 0)=ps.getD 1 0)(X:Rat):Cv.ev c X=Cv.ev d X:=by
 rw[Ng h2]at hc hd
 have:=L2.CP (pss.map fun ps=>ps.getD 0 0) (l:=L2.Bt c (d.map (· * -1))) Y (by rw[L2.BG,Z4,Z4];lia) (fun q O=>by
  obtain⟨ps,W,rfl⟩:=aX.mp O;rw[L2.Cc,Cv.ev_scale,oc ps W,J ps W];grind) X
 rw[L2.Cc,Cv.ev_scale]at this
 grind
inductive PH(K:Yx)(vs:List V)(H:Hp)(Q:VK)(E_3:XK):Prop
 | mk (b:Bool) (r rx:ad) (xs:List V) (qs:List Rat) (x:Rat) (c n:Nat) (h1:vs=[.ref r,.ref rx]) (h2:Sq b K H r xs) (h3:AD K H xs qs) (h4:Az K H (.ref rx) x) (h5:(∀q∈qs,RB c q)) (h6:RB n x) (h7:(c+n*qs.length+4)*(qs.length+2)<=90000000) (h8:∀p H',Ac H H'->H' p=some (nT (Cv.ev qs x))->RB ((c+n*qs.length+4)*(qs.length+1)) (Cv.ev qs x)->Q (.ref p) H'):PH K vs H Q E_3
def ic(ts:List Int):List Rat:=ts.map fun t:Int=>(t:Rat)
theorem Bb(ts:List Int)(j:Nat):(ic ts).getD j 0=((ts.getD j 0:Int):Rat):=by
 unfold ic;rw[aw,aw,Zl];cases ts[j]? with
 | none=>rfl
 | some t=>rfl
inductive Mm(K:Yx)(vs:List V)(H:Hp)(Q:VK)(E_3:XK):Prop
 | mk (l rx ry:ad) (ts:List Int) (x y:Rat) (R m nx ny:Nat) (h1:vs=[.ref l,.ref rx,.ref ry]) (h2:SqL K H l (ts.map V.int)) (h3:ts.length=2*R) (h4:Az K H (.ref rx) x) (h5:Az K H (.ref ry) y) (h6:(∀t∈ts,Bd m t)) (h7:RB nx x) (h8:RB ny y) (h9:m+(nx+1)*(R+4)+ny<=100000000) (h10:∀(L:Int) (H':Hp),Ac H H'->(L:Rat)=(((y.den:Int)*(x.den:Int) ^ R:Int):Rat)*(Cv.evI (ts.take R) x-y*Cv.evI (ts.drop R) x)->Bd (m+(nx+1)*(R+2)+ny+1) L->Q (.int L) H'):Mm K vs H Q E_3
def shI(c d:Int)(ts:List Int):List Int:=(Yu ts.length).map fun k=>d*(if k=0 then 0 else ts.getD (k-1) 0)-c*ts.getD k 0
inductive Ju(K:Yx)(vs:List V)(H:Hp)(Q:VK)(E_3:XK):Prop
 | mk (l rx:ad) (ts:List Int) (x:Rat) (m n:Nat) (h1:vs=[.ref l,.ref rx]) (h2:SqL K H l (ts.map V.int)) (h3:Az K H (.ref rx) x) (h4:1<=ts.length) (h5:ts.length<=100) (h6:ts.getD (ts.length-1) 0=0) (h7:(∀t∈ts,Bd m t)) (h8:RB n x) (h9:m+n<=100000000) (h10:∀(p:ad) (H':Hp),Ac H H'->H' p=some (.lst ((shI x.num x.den ts).map V.int))->(∀t∈shI x.num x.den ts,Bd (m+n+1) t)->Q (.ref p) H'):Ju K vs H Q E_3
inductive Pu(K:Yx)(vs:List V)(H:Hp)(Q:VK)(E_3:XK):Prop
 | mk (l:ad) (ts:List Int) (m:Nat) (h1:vs=[.ref l]) (h2:SqL K H l (ts.map V.int)) (h3:(∃t∈ts,t≠0)) (h4:ts.length<=100) (h5:(∀t∈ts,Bd m t)) (h6:∀(p:ad) (H':Hp) (g:Int) (us:List Int),Ac H H'->H' p=some (.lst (us.map V.int))->g≠0->us.length=ts.length->(∀j,g*us.getD j 0=ts.getD j 0)->(∀t∈us,Bd m t)->Q (.ref p) H'):Pu K vs H Q E_3
theorem J9{ts:List Int}{j:Nat}(h:j<ts.length):ts.getD j 0∈ts:=by
 rw[aw,aB h];exact aH h
theorem D3{ts:List Int}{m:Nat}(h:∀t∈ts,Bd m t)(j:Nat):Bd m (ts.getD j 0):=by
 rcases cg j ts.length with z | z
 ·exact h _ (J9 z)
 ·rw[aw,aU z];show Bd m 0;unfold Bd;exact Nat.pow_pos (by decide)
theorem U8{K:Yx}{a b:ad}{js:List Nat}{xs ys:List V}{te:TE}{σ:St}{H:Hp}{O:List V->Hp->Prop}(Y:Nat->List V->Hp->Prop)(h0:Y 0 [] H)
 (hl:∀i zs H,i<=min xs.length ys.length->Y i zs H->SqL K H a xs/\SqL K H b ys/\zs.length=i) (hz:min xs.length ys.length<=bi)
 (hs:∀i x y T zs H,xs[i]? = some x->ys[i]? = some y->H T=none->Y i zs H->te (((cS 2 js σ).set 0 (some x)).set 1 (some y)) (upd H T (.tup [x,y])) fun y H4=>Y (i+1) (zs++[y]) H4) (J:∀zs H',Y (min xs.length ys.length) zs H'->O zs H') :
 ∃(n':Nat) (W:Nat->List V->Hp->Prop),W 0 [] H/\LcW (Itz K a b xs ys) n' 2 js σ (ON K 2 (Ie (CI 0) (Ie (CI 1) Si))) Ks te O W:=by
 refine⟨min xs.length ys.length,Y,h0,⟨?_,?_,?_⟩⟩
 ·intro i zs H' hi p;obtain⟨h1,h2,h3⟩:=hl i zs H' (Yz hi) p;exact⟨⟨h1,h2,hi⟩,by lia⟩
 ·rintro i zs H' x H1 hi p ⟨T,x1,y1,hx,hy,hT,rfl,rfl⟩;exact⟨T,_,Z,SqT.of A9,Z,x1,_,Z,y1,_,Z,Z,hs i x1 y1 T zs H' hx hy hT p⟩
 ·intro zs H' p;obtain⟨h1,h2,h3⟩:=hl _ zs H' (YL _) p;exact⟨⟨h1,h2,YL _⟩,by lia,J zs H' p⟩
def Rpr(K:Yx)(H:Hp)(v:V)(r:Int)(ts:List Int):Prop:=∃p l,v = .ref p/\SqT K H p [.int r,.ref l]/\SqL K H l (ts.map V.int)
theorem Rpr.same{K:Yx}{H H':Hp}{v:V}{r:Int}{ts:List Int}(h:Rpr K H v r ts)(e:Ac H H'):Rpr K H' v r ts:=let ⟨p,l,z,h1,h2⟩:=h;⟨p,l,z,h1.same e,Ac.seq e h2⟩
structure PSt(w v:Int)(n R:Nat)(ps:List (Rat×Rat))(A S:Nat)(r1:Int)(ts1:List Int)(r2:Int)(ts2:List Int):Prop where
 inv:DN w v n ps r1 r2 (ic (ts1.take R)) (ic (ts1.drop R)) (ic (ts2.take R)) (ic (ts2.drop R))
 l1:ts1.length=2*R
 l2:ts2.length=2*R
 z1:∀j,ps.length+1<=j->j<R->ts1.getD j 0=0/\ts1.getD (R+j) 0=0
 z2:∀j,ps.length+1<=j->j<R->ts2.getD j 0=0/\ts2.getD (R+j) 0=0
 bd:∃a1 a2,(∀t∈ts1,Bd a1 t)/\(∀t∈ts2,Bd a2 t)/\a1<=A/\a2<=A/\a1+a2<=S
inductive Mo(K:Yx)(vs:List V)(H:Hp)(Q:VK)(E_3:XK):Prop
 | mk (b rx ry:ad) (v1 v2:V) (r1 r2:Int) (ts1 ts2:List Int) (w v:Int) (n R:Nat) (ps:List (Rat×Rat)) (A S C nx ny:Nat) (x y:Rat) (h1:vs=[.ref b,.ref rx,.ref ry]) (h2:SqT K H b [v1,v2]) (h3:Rpr K H v1 r1 ts1) (h4:Rpr K H v2 r2 ts2) (h5:PSt w v n R ps A S r1 ts1 r2 ts2) (h6:R=n+1) (h7:w+v=n+1) (h8:Az K H (.ref rx) x) (h9:Az K H (.ref ry) y) (h10:RB nx x) (h11:RB ny y) (h12:((ps++[(x,y)]).map Prod.fst).Nodup) (h13:ps.length<n) (h14:n<=12) (h15:(nx+1)*(R+2)+ny+2<=C) (h16:A+3*C<=50000000) (h17:S+3*C<=50000000) (h18:∀(b':ad) (H':Hp) (v1' v2':V) (r1' r2':Int) (us1 us2:List Int),Ac H H'->SqT K H' b' [v1',v2']->Rpr K H' v1' r1' us1->Rpr K H' v2' r2' us2->PSt w v n R (ps++[(x,y)]) (S+C) (A+S+2*C) r1' us1 r2' us2->Q (.ref b') H'):Mo K vs H Q E_3
theorem Fb(c d:Int)(ts:List Int)(k:Nat):(shI c d ts).getD k 0=if k<ts.length then d*(if k=0 then 0 else ts.getD (k-1) 0)-c*ts.getD k 0 else 0:=by
 unfold shI;rw[aw,Zl];by_cases h:k<ts.length
 ·rw[if_pos h,bJ h];rfl
 ·rw[if_neg h,aU (by rw[bF];lia)];rfl
theorem EH(c d:Int)(ts:List Int):(shI c d ts).length=ts.length:=by unfold shI;rw[Z4,bF]
theorem Bv(ts:List Int)(R j:Nat):(ts.take R).getD j 0=if j<R then ts.getD j 0 else 0:=by
 rw[aw,cf,aw]
 split<;>rfl
theorem Bw(ts:List Int)(R j:Nat):(ts.drop R).getD j 0=ts.getD (R+j) 0:=by
 rw[aw,ay,aw]
theorem Dq{ts:List Int}{j:Nat}(h:ts.length<=j):ts.getD j 0=0:=by rw[aw,aU h];rfl
theorem Hn{c d:Int}{ts:List Int}{R:Nat}(Y:ts.length=2*R)(W:1<=R)(h1:ts.getD (R-1) 0=0):Shf (c:Rat) (d:Rat) (ic (ts.take R)) (ic ((shI c d ts).take R)):=fun j=>by
 rw[Bb,Bb,Bb,Bv,Bv,Bv,Fb];by_cases h:j<R
 ·rw[if_pos h,if_pos (by lia),if_pos h]
  by_cases z:j=0
  ·rw[if_pos z,if_pos z,ZX,ZW,ZW];rfl
  ·rw[if_neg z,if_neg z,if_pos (by lia),ZX,ZW,ZW]
 ·rw[if_neg h,if_neg h,if_neg (by lia)]
  by_cases z:j-1<R
  ·rw[if_pos z,show j-1=R-1 by lia,h1]
   show(0:Rat)=(d:Rat)*0-(c:Rat)*0
   grind
  ·rw[if_neg z];show(0:Rat)=(d:Rat)*0-(c:Rat)*0
   grind
theorem Ho{c d:Int}{ts:List Int}{R:Nat}(Y:ts.length=2*R)(W:1<=R)(h1:ts.getD (R-1) 0=0)(h2:ts.getD (R+(R-1)) 0=0):Shf (c:Rat) (d:Rat) (ic (ts.drop R)) (ic ((shI c d ts).drop R)):=fun j=>by
 rw[Bb,Bb,Bb,Bw,Bw,Bw,Fb];by_cases h:R+j<ts.length
 ·rw[if_pos h,if_neg (by lia)]
  by_cases z:j=0
  ·subst z;rw[if_pos rfl,ZY,h1,ZX,ZW,ZW];rfl
  ·rw[if_neg z,show R+j-1=R+(j-1) by lia,ZX,ZW,ZW]
 ·rw[if_neg h,if_neg (by lia),Dq (show ts.length<=R+j by lia)]
  by_cases z:j-1=R-1
  ·rw[z,h2];show(0:Rat)=(d:Rat)*0-(c:Rat)*0
   grind
  ·rw[Dq (show ts.length<=R+(j-1) by lia)]
   show(0:Rat)=(d:Rat)*0-(c:Rat)*0
   grind
theorem Hr{c d:Int}{ts:List Int}{R k:Nat}(z:∀j,k+1<=j->j<R->ts.getD j 0=0/\ts.getD (R+j) 0=0):∀j,k+1+1<=j->j<R->(shI c d ts).getD j 0=0/\(shI c d ts).getD (R+j) 0=0:=fun j h1 h2=>by
 have a:=z j (by lia) h2
 have b:=z (j-1) (by lia) (by lia)
 constructor
 ·rw[Fb];by_cases hh:j<ts.length
  ·rw[if_pos hh,if_neg (by lia),a.1,b.1,cF,cF];rfl
  ·rw[if_neg hh]
 ·rw[Fb];by_cases hh:R+j<ts.length
  ·rw[if_pos hh,if_neg (by lia),a.2,show R+j-1=R+(j-1) by lia,b.2,cF,cF];rfl
  ·rw[if_neg hh]
theorem Lq{g a b:Int}{t1 Y us:List Int}(R:Nat)(h:∀j,g*us.getD j 0=a*Y.getD j 0-b*t1.getD j 0):Mix (g:Rat) (a:Rat) (b:Rat) (ic (t1.take R)) (ic (Y.take R)) (ic (us.take R)):=fun j=>by
 rw[Bb,Bb,Bb,Bv,Bv,Bv]
 split
 ·rw[<- ZW,h j,ZX,ZW,ZW]
 ·show(g:Rat)*0=(a:Rat)*0-(b:Rat)*0
  grind
theorem Lr{g a b:Int}{t1 Y us:List Int}(R:Nat)(h:∀j,g*us.getD j 0=a*Y.getD j 0-b*t1.getD j 0):Mix (g:Rat) (a:Rat) (b:Rat) (ic (t1.drop R)) (ic (Y.drop R)) (ic (us.drop R)):=fun j=>by
 rw[Bb,Bb,Bb,Bw,Bw,Bw,<- ZW,h (R+j),ZX,ZW,ZW]
theorem Lp{g a b:Int}{t1 Y us:List Int}{j:Nat}(J:g≠0)(h:∀j,g*us.getD j 0=a*Y.getD j 0-b*t1.getD j 0)(W:t1.getD j 0=0)(O:Y.getD j 0=0):us.getD j 0=0:=by
 have:=h j;rw[W,O,cF,cF]at this
 rcases Int.mul_eq_zero.mp (show g*us.getD j 0=0 from this) with z | z
 ·exact absurd z J
 ·exact z
theorem FA{L:Int}{s a:Rat}(Y:s≠0)(h:(L:Rat)=s*a):L=0↔a=0:=by
 constructor
 ·intro z;rw[z]at h
  rcases aq.mp (show s*a=0 from h.symm) with q | q
  ·exact absurd q Y
  ·exact q
 ·intro z;rw[z,bZ]at h;exact cK.mp (h.trans cL.symm)
theorem Ry{a b:Rat}(h:a-b=0):a=b:=by grind
theorem LF{L:Int}(h:L≠0):(L:Rat)≠0:=fun z=>h (cK.mp (z.trans cL.symm))
def gAS(C:Nat):Nat->Nat×Nat
 | 0=>(1,2)
 | k+1=>((gAS C k).2+C,(gAS C k).1+(gAS C k).2+2*C)
theorem K8(C:Nat):∀k,(gAS C k).1<=(gAS C k).2
 | 0=>by show 1<=2;decide
 | k+1=>by show(gAS C k).2+C<=(gAS C k).1+(gAS C k).2+2*C;lia
theorem FC(C:Nat){i:Nat}:∀{n},i<=n->(gAS C i).2<=(gAS C n).2
 | 0,h=>by rw[Nat.le_zero.mp h];exact YL _
 | n+1,h=>by
   rcases cg i (n+1) with z | z
   ·have:=FC C (i:=i) (n:=n) (by lia)
    show _<=(gAS C n).1+(gAS C n).2+2*C
    lia
   ·rw[show i=n+1 by lia];exact YL _
theorem RO:∀k:Nat,(Zf k [V.int 0]).flatten=(Zf k (0:Int)).map V.int
 | 0=>rfl
 | k+1=>by rw[ZC,ZD,RO k,ZC];rfl
theorem QG(ts:List Int):(ts.map fun t=>ZN t 1)=ic ts:=by
 unfold ic;refine cE fun t _=>?_;have e:=ZR ((t:Int):Rat);rw[cM,cO]at e;exact e
def DI(R:Nat):List Int:=1::Zf (2*R-1) 0
def BR(R:Nat):List Int:=Zf R 0++[1]++Zf (R-1) 0
theorem QM(k j:Nat):(Zf k (0:Int)).getD j 0=0:=by
 rw[aw,Zj]
 split<;>rfl
theorem CT(R j:Nat):(DI R).getD j 0=if j=0 then 1 else 0:=by
 cases j with
 | zero=>rfl
 | succ j=>rw[if_neg (by lia)];exact QM _ j
theorem Cu(R j:Nat):(BR R).getD j 0=if j=R then 1 else 0:=by
 unfold BR;rw[ZE,aw]
 rcases cg j R with z | z
 ·rw[Zk (by rw[Zp];exact z),if_neg (by lia),Zj,if_pos z];rfl
 ·rw[Zi (by rw[Zp];exact z),Zp]
  by_cases e:j=R
  ·rw[if_pos e,show j-R=0 by lia];rfl
  ·rw[if_neg e];obtain⟨k,hk⟩:∃k,j-R=k+1:=⟨j-R-1,by lia⟩
   rw[hk,List.singleton_append,af,Zj]
   split<;>rfl
theorem VG{W n:Nat}(J:1<=W)(O:W<=n):PUn (W:Int) ((n:Int)+1-W) n [] (2*(1-(W:Int))) (2*(1-((n:Int)+1-W))+1) (ic ((DI (n+1)).take (n+1))) (ic ((DI (n+1)).drop (n+1))) (ic ((BR (n+1)).take (n+1))) (ic ((BR (n+1)).drop (n+1))):=by
 refine⟨⟨fun j Y=>?_,fun j Y=>?_⟩,.inl ⟨0,by lia,?_⟩,⟨fun j Y=>?_,fun j Y=>?_⟩,.inr ⟨0,by lia,?_⟩,by rw[aV];lia,(fun _ h=>nomatch h),fun _ h=>nomatch h⟩
 ·rw[Bb,Bv,CT,if_neg (show ¬j=0 by lia)]
  split<;>rfl
 ·rw[Bb,Bw,CT,if_neg (by lia)];rfl
 ·rw[Bb,Bv,CT,if_pos (by lia),if_pos rfl];decide
 ·rw[Bb,Bv,Cu]
  split
  ·rw[if_neg (by lia)];rfl
  ·rfl
 ·rw[Bb,Bw,Cu,if_neg (by lia)];rfl
 ·rw[Bb,Bw,Cu,if_pos (by lia)];decide
theorem LH(R:Nat):∀t∈DI R,Bd 1 t:=fun t Y=>by
 rcases YD.mp Y with z | z
 ·rw[z];unfold Bd;decide
 ·rw[cP z];unfold Bd;decide
theorem IX(R:Nat):∀t∈BR R,Bd 1 t:=fun t Y=>by
 rcases YE.mp Y with z | z
 ·rcases YE.mp z with z | z
  ·rw[cP z];unfold Bd;decide
  ·rw[aA.mp z];unfold Bd;decide
 ·rw[cP z];unfold Bd;decide
theorem FE(n:Nat):(DI (n+1)).length=2*(n+1):=by unfold DI;rw[YY,Zp];lia
theorem Eu(n:Nat):(BR (n+1)).length=2*(n+1):=by unfold BR;rw[Zo,Zo,Zp,Zp,ZF];lia
theorem Ig(n:Nat):∀j,0+1<=j->j<n+1->(DI (n+1)).getD j 0=0/\(DI (n+1)).getD (n+1+j) 0=0:=fun j h _=>⟨by rw[CT,if_neg (by lia)],by rw[CT,if_neg (by lia)]⟩
theorem Gs(n:Nat):∀j,0+1<=j->j<n+1->(BR (n+1)).getD j 0=0/\(BR (n+1)).getD (n+1+j) 0=0:=fun j h _=>⟨by rw[Cu,if_neg (by lia)],by rw[Cu,if_neg (by lia)]⟩
inductive Mg(K:Yx)(vs:List V)(H:Hp)(Q:VK)(E_3:XK):Prop
 | mk (lp lh:ad) (zs ys:List V) (qs hs:List Rat) (W n nx ny C:Nat) (h1:vs=[.ref lp,.ref lh,.int (W:Int)]) (h2:SqL K H lp zs) (h3:AD K H zs qs) (h4:SqL K H lh ys) (h5:AD K H ys hs) (h6:qs.length=n) (h7:hs.length=n) (h8:1<=n) (h9:n<=12) (h10:qs.Nodup) (h11:1<=W) (h12:W<=n) (h13:(∀c∈qs,RB nx c)) (h14:(∀c∈hs,RB ny c)) (h15:(nx+1)*(n+3)+ny+2<=C) (h16:(gAS C n).2+3*C<=50000000) (h17:∀(t pN pD:ad) (H':Hp) (r1 r2:Int) (N D N2 D2:List Rat),Ac H H'->SqT K H' t [.ref pN,.ref pD]->Crv K H' pN (Cv.strip N)->Crv K H' pD (Cv.strip D)->(∀c∈N,Bd ((gAS C n).2+1) c.num/\Bd 1 (c.den:Int))->(∀c∈D,Bd ((gAS C n).2+1) c.num/\Bd 1 (c.den:Int))->DN (W:Int) ((n:Int)+1-W) n (qs.zip hs) r1 r2 N D N2 D2->Q (.ref t) H'):Mg K vs H Q E_3
theorem NM{ts:List Int}{m k:Nat}(h:∀t∈ts,Bd m t)(hk:m<=k):∀c∈ic ts,Bd k c.num/\Bd 1 (c.den:Int):=fun c Y=>by
 obtain⟨t,W,rfl⟩:=aX.mp Y;exact⟨by rw[cM];exact(h t W).mono hk,by rw[cO];unfold Bd;decide⟩
def E1:Str:="rising.<locals>.<lambda>"
def Gg(B:Int)(q:Rat):Int:=q.num*B.fdiv (q.den:Int)
theorem NJ{B:Int}{q:Rat}(Y:(q.den:Int)∣B):((Gg B q:Int):Rat)=q*(B:Rat):=by
 unfold Gg;have W:(0:Int)<=(q.den:Int):=by lia
 rw[cR _ W,ZW,Nm.num_mul q];have e:(q.den:Int)*(B / (q.den:Int))=B:=Int.mul_ediv_cancel' Y;have O:((q.den:Int):Rat)*((B / (q.den:Int):Int):Rat)=(B:Rat):=by rw[<- ZW,e]
 grind
theorem Sd{B:Int}(O:0<B){p q:Rat}(J:(p.den:Int)∣B)(W:(q.den:Int)∣B)(h:Gg B p<=Gg B q):p<=q:=by
 have h':((Gg B p:Int):Rat)<=((Gg B q:Int):Rat):=Rat.intCast_le_intCast.mpr h;rw[NJ J,NJ W]at h'
 have Y:(0:Rat)<(B:Rat):=by
  have:=Rat.intCast_lt_intCast.mpr O;rw[cL]at this;exact this
 by_cases z:p<=q
 ·exact z
 ·exfalso;have z':q<p:=Rat.not_le.mp z;have:=Rat.mul_lt_mul_of_pos_right z' Y
  grind
theorem PM{K:Yx}{Pt:ad}{q:Str}{H H':Hp}{r:ad}{xs:List V}(h:SqL K H r xs)(c:Cq Pt q H)(m:Co Pt H H'):SqL K H' r xs:=by
 obtain⟨ps,e,_⟩:=c;have Y:∀{b:ad} {o:HO},H b=some o->(∀p,o ≠ .tbl p)->b≠Pt:=fun z n y=>by rw[y,e]at z;exact n _ (Yo.inj z).symm
 rcases h with (h | ⟨o,h⟩) | h
 ·exact .inl (.inl (m _ _ (Y h fun p z=>by cases z) h))
 ·exact .inl (.inr ⟨o,m _ _ (Y h fun p z=>by cases z) h⟩)
 ·exact .inr h
theorem KR{O W:Type}{F:O->W->Prop}{l:List O}{Y:List W}(h:Paired F l Y):Paired (fun b a=>F a b) Y l:=by
 induction h with
 | nil=>exact .nil
 | cons h _ ih=>exact .cons h ih
theorem QN{Pt:ad}{q:Str}{H H':Hp}{p:ad}(c:Cq Pt q H')(m:Co Pt H H')(h:H' p=none):H p=none:=by
 cases e:H p with
 | none=>rfl
 | some o =>
   exfalso;by_cases z:p=Pt
   ·obtain⟨ps,Y,_⟩:=c;rw[z,Y]at h;cases h
   ·rw[m p o z e]at h;cases h
theorem PV{K:Yx}{H:Hp}{B:Int}{xs:List V}{qs:List Rat}(h:AD K H xs qs):Paired (fun(z:Int×V) (c:Rat)=>z.1=Gg B c/\Az K H z.2 c) ((qs.map (Gg B)).zip xs) qs:=by
 induction h with
 | nil=>exact .nil
 | cons h _ ih=>exact .cons ⟨Z,h⟩ ih
theorem Oi{K:Yx}{H:Hp}{B:Int}{zs:List (Int×V)}{Y:List Rat}(h:Paired (fun(c:Rat) (z:Int×V)=>z.1=Gg B c/\Az K H z.2 c) Y zs):Y.map (Gg B)=zs.map Prod.fst/\AD K H (zs.map Prod.snd) Y:=by
 induction h with
 | nil=>exact⟨Z,.nil⟩
 | cons h _ ih=>exact⟨by rw[Z2,Z2,ih.1,h.1],.cons h.2 ih.2⟩
inductive Mc(K:Yx)(Pt:ad)(vs:List V)(H:Hp)(Q:VK)(E_3:XK):Prop
 | mk (l:ad) (xs:List V) (qs:List Rat) (n:Nat) (h1:vs=[.ref l]) (h2:SqL K H l xs) (h3:AD K H xs qs) (h4:(∀q∈qs,RB n q)) (h5:n<=1000000) (h6:qs.length<=20) (h7:Cq Pt E1 H) (h8:∀(p:ad) (H':Hp) (ys:List V) (rs:List Rat),Co Pt H H'->Cq Pt E1 H'->H p=none->H' p=some (.lst ys)->AD K H' ys rs->rs.Perm qs->rs.Pairwise (· <= ·)->Q (.ref p) H'):Mc K Pt vs H Q E_3
inductive Ee(K:Yx)(vs:List V)(H:Hp)(Q:VK)(E_3:XK):Prop
 | mk (r rx:ad) (qs:List Rat) (x:Rat) (g d m:Nat) (h1:vs=[.ref r,.ref rx]) (h2:Crv K H r qs) (h3:Az K H (.ref rx) x) (h4:(∀q∈qs,Bd g q.num/\Bd d (q.den:Int))) (h5:RB m x) (h6:g+d*(qs.length+2)+(m+1)*(qs.length+4)<=50000000) (h7:qs.length<=1000) (h8:∀p H',Ac H H'->H' p=some (nT (Cv.ev qs x))->RB (g+d*(qs.length+2)+(m+1)*(qs.length+4)) (Cv.ev qs x)->Q (.ref p) H'):Ee K vs H Q E_3
inductive EY(K:Yx)(vs:List V)(H:Hp)(Q:VK)(E_3:XK):Prop
 | mk (l:ad) (ys:List V) (qs:List Rat) (h1:vs=[.ref l]) (h2:SqL K H l ys) (h3:Am H ys qs) (h4:qs.Nodup) (h5:qs.length<=17) (h6:∀H',Ac H H'->Q (.bl true) H'):EY K vs H Q E_3
inductive Jz(K:Yx)(vs:List V)(H:Hp)(Q:VK)(E_3:XK):Prop
 | mk (l:ad) (few:Int) (ys:List V) (qs:List Rat) (h1:vs=[.ref l,.int few]) (h2:SqL K H l ys) (h3:Am H ys qs) (h4:qs.Nodup) (h5:qs.length<=12) (h6:few<=qs.length) (h7:∀H',Ac H H'->Q .non H'):Jz K vs H Q E_3
section
variable {X:Cx}
inductive JI(x:V)(vs:List V)(H:Hp)(Q:VK):Prop
 | mk (l:_) (xs:_) (i:_) (k:_) (y:_) (h1:x = .ref l) (h2:vs=[.int i,y]) (h3:i=((k:Nat):Int)) (h4:H l=some (.lst xs)) (h5:k<=xs.length) (h6:xs.length<=1000) (h7:Q .non (upd H l (.lst (xs.take k++y::xs.drop k)))):JI x vs H Q
theorem QF{i:Int}{k:Nat}(e:i=(k:Int))(h:k<=1000):¬(!Builtin.List.listFitsIndex i)=true:=by
 have e:Builtin.List.listFitsIndex i=true:=by
  unfold Builtin.List.listFitsIndex;rw[decide_eq_true (by lia),decide_eq_true (by lia)];rfl
 rw[e];decide
theorem Us(l:List am)(i:Int)(k:Nat)(hi:i=(k:Int))(hk:k<=l.length)(y:am):(fun xs:Array am=>have k:=if i<0 then (i+(xs.size:Int)).toNat else min i.toNat xs.size;(xs.extract 0 k).push y++xs.extract k) l.toArray=(l.take k++y::l.drop k).toArray:=by
 have e:(if i<0 then (i+(l.toArray.size:Int)).toNat else min i.toNat l.toArray.size)=k:=by
  rw[if_neg (by lia),Zs,hi,Zt,Zv hk]
 show(l.toArray.extract 0 _).push y++l.toArray.extract _=_;rw[e];apply Array.toList_inj.mp;simp;exact bj (by simp)
theorem Oz:MtM X "list.insert" JI:=by
 intro pins s σ H x vs v us Q I rx rv h;obtain⟨l,xs,i,k,y,rfl,rfl,hi,hH,hk,hz,q⟩:=h;cases rx;obtain⟨u,O,rfl,ru,W⟩:=rv.two;obtain⟨t,rfl⟩:=ru;obtain⟨z,Y,n,r,hl,e⟩:=I.lstM hH;have J:k<=1000:=by lia
 have hsz:Y.toArray.size<=bi:=by rw[Zs,<- hl];exact z
 have M:=AutoSeq1.list_insert_list_int_val_1 l Y.toArray n i t O (QF hi J) hsz;refine fb F.slot_list_insert ⟨_,e,Z⟩ F.entry_list_insert (F.args_list_insert_3 _ _ _) M ⟨e,?_⟩;refine⟨.non,_,I.lset (its':=Y.take k++O::Y.drop k) hH e (Us Y i k hi (by lia) O) ((r.take k).append (.cons W (r.drop k))) ?_,Z,q⟩
 have hs:1000<bi:=AS (YL _);rw[Zo,YY,Zh,Zx]
 lia
end
inductive Hk(K:Yx)(Pt:ad)(vs:List V)(H:Hp)(Q:VK)(E_3:XK):Prop
 | mk (a:ad) (ns:List Int) (h1:vs=[.ref a]) (h2:SqL K H a (ns.map V.int)) (h3:ns.length<=63) (h4:H Pt=some (.tbl #[])) (h5:∀H',Q (.bl true) H'):Hk K Pt vs H Q E_3
theorem GZ{Pt p:ad}{ps:Array am}{H H':Hp}(e:H Pt=some (.tbl ps))(pn:Pen H p)(m:Mv p H H'):H' Pt=some (.tbl ps):=m _ _ (pn.ne e fun _ _ _ z=>by cases z) e
theorem Uz{Pt:ad}{q:Str}{H:Hp}(e:H Pt=some (.tbl #[])):Cq Pt q H:=⟨#[],e,trivial,fun pos Y z=>by cases z⟩
theorem MK(k:Int):nT ((k:Int):Rat) = .tup [.int k,.int 1]:=by
 unfold nT;rw[cM,cO]
 rfl
theorem LI{U qs:List Rat}(Y:De U)(O:U≠[])(J:qs.Nodup):(qs.filter fun x=>decide (Cv.ev U x=0)).length+1<=U.length:=by
 rcases cg (qs.filter fun x=>decide (Cv.ev U x=0)).length U.length with z | z
 ·exact z
 ·exfalso;have:=CP (qs.filter fun x=>decide (Cv.ev U x=0)) (l:=U) (J.filter _) z fun q W=>by simpa using(Yv.mp W).2
  exact O (Ic Y (.inl rfl) fun x=>this x)
theorem FF(f:Rat->Bool):∀qs:List Rat,(qs.filter f).length+(qs.filter fun x=>!f x).length=qs.length
 | []=>rfl
 | q::r=>by
   have ih:=FF f r;cases h:f q with
   | true=>rw[cT h,cU (by rw[h];decide),YY,YY];lia
   | false=>rw[cU (by rw[h];decide),cT (by rw[h];rfl),YY,YY];lia
theorem Vi{Pt p:ad}{q:Str}{H H':Hp}(c:Cq Pt q H)(pn:Pen H p)(m:Mv p H H'):Cq Pt q H':=by
 obtain⟨ps,e,t,c⟩:=c;refine⟨ps,GZ e pn m,t,fun pos W z=>?_⟩;obtain⟨J,O,Y⟩:=c pos W z;exact⟨J,O,m _ _ (pn.ne Y fun _ _ _ z=>by cases z) Y⟩
theorem NR{L:List Rat}{j:Nat}(h:L.length<=j):L.getD j 0=0:=by rw[aw,aU h];rfl
theorem He{l:List Rat}(h:De l):Cv.strip l=l:=by
 have e:=Cv.take_strip l l.length (fun j q Y e=>absurd (YG.mp e).1 (by lia)) (by
  rcases h with h | h
  ·left;rw[h];rfl
  ·right;exact h)
 rw[cV]at e;exact e.symm
theorem QJ(Y:List Rat):De (prL Y):=by
 right;refine⟨1,?_,by decide⟩
 have W:=DD Y;have:=KO Y;rw[aw,aB (by lia)]at this
 rw[show(prL Y).length-1=Y.length by lia,aB (by lia)]
 exact congrArg some this
theorem Pm{L:List Rat}{a:Nat}(h:∀j,a<=j->L.getD j 0=0):(Cv.strip L).length<=a:=by
 rcases cg a (Cv.strip L).length with z | z
 ·exfalso;have Y:Cv.strip L≠[]:=fun e=>by rw[e]at z;cases z
  have O:=Cv.strip_last L Y;have W:=LM (l:=Cv.strip L) (m:=L) (fun k=>Cv.ev_strip _ L) ((Cv.strip L).length-1);rw[h _ (by lia),aw,aB (by lia)]at W
  exact O (by rw[aB (by lia)];exact congrArg some W)
 ·exact z
inductive Hm(K:Yx)(vs:List V)(H:Hp)(Q:VK)(E_3:XK):Prop
 | mk (lp lh:ad) (zs ys:List V) (qs:List Rat) (h1:vs=[.ref lp,.ref lh]) (h2:SqL K H lp zs) (h3:Am H zs qs) (h4:qs.Nodup) (h5:1<=qs.length) (h6:qs.length<=12) (h7:SqL K H lh ys) (h8:ys.length=zs.length) (h9:∀H',Ac H H'->Q .non H'):Hm K vs H Q E_3
theorem Rl{n:Nat}{qs Y:List Rat}(W:qs.length=n)(O:Y.length=n){i:Nat}(h:i<n):(qs[i]'(by lia),Y[i]'(by lia))∈qs.zip Y:=by
 have:(qs.zip Y)[i]'(by rw[ck];lia)=(qs[i]'(by lia),Y[i]'(by lia)):=List.getElem_zip ..
 rw[<- this];exact aH _
theorem QE{x:Rat}{Y:List Rat}{k:Nat}:(Y.take k++x::Y.drop k).Perm (x::Y):=by
 have:=List.perm_middle (a:=x) (l₁:=Y.take k) (l₂:=Y.drop k)
 rwa [List.take_append_drop]at this
theorem RN{l m:List Rat}(h1:l.Pairwise (· <= ·))(h2:m.Pairwise (· <= ·))(h:l.Perm m):l=m:=List.Perm.eq_of_pairwise (fun _ _ _ _ a b=>Rat.le_antisymm a b) h1 h2 h
theorem RQ{K:Yx}{H:Hp}{us zs ys:List V}{qs hs:List Rat}(hp:Paired (Sx H) us (zs.zip ys))(hz:Am H zs qs)(hy:AD K H ys hs):AY K H us ((qs.zip hs).map fun p=>[p.1,p.2]):=by
 have l1:=hp.length;have l2:=hz.length;have l3:=hy.length;refine Eh (by rw[l1,Z4,ck,ck,l2,l3]) fun j v ps hv W=>?_
 obtain⟨pr,ab,tt,rfl,ht⟩:=Paired.get hp hv;obtain⟨ak,J⟩:=cx.mp ab;obtain⟨x,hx,rx,er,Y⟩:=Paired.get hz ak;obtain⟨y,O,al⟩:=Paired.get hy J;rw[Zl,(cx (z:=(x,y))).mpr ⟨hx,O⟩]at W;cases W;exact⟨tt,_,rx,Z,SqT.of ht,.cons ⟨rx,er,SqT.of Y⟩ (.cons al .nil),by rw[er];rfl,Y⟩
theorem Ph:∀l:List (Rat×Rat),(AA (l.map fun p=>[p.1,p.2])).length=l.length
 | []=>rfl
 | a::r=>by
   have:=Ph r;show((Bc [a.1,a.2])++AA (r.map fun p=>[p.1,p.2])).length=r.length+1;rw[Zo,this];show 1+r.length=_
   lia
def bad(c:List Rat)(p:Rat×Rat):Bool:=!decide (Cv.ev c p.1=p.2)
def BC(qs hs c:List Rat):List Rat:=((qs.zip hs).filter (bad c)).map Prod.fst
theorem Lv{qs Y c:List Rat}:(BC qs Y c).length=((qs.zip Y).filter (bad c)).length:=by unfold BC;rw[Z4]
theorem OB{qs Y c:List Rat}(i:Nat):(BC (qs.take i) (Y.take i) c).length<=(BC qs Y c).length:=by
 rw[Lv,Lv];have e:(qs.take i).zip (Y.take i)=(qs.zip Y).take i:=(List.take_zipWith (f:=Prod.mk)).symm;rw[e];exact((Zm i _).filter _).length_le
theorem TL{x:Rat}{S:List Rat}(h:x∈S):prV x S=0:=by
 induction S with
 | nil=>cases h
 | cons a r ih =>
   show(x-a)*prV x r=0
   rcases YD.mp h with z | z
   ·rw[z,Rat.sub_self,cb]
   ·rw[ih z,bZ]
theorem QC{W e m:Nat}{qs Y c N D N2 D2:List Rat}{r1 r2:Int}(hm:m=2*e+W)(ap:qs.length=m)(aC:Y.length=m)(aF:qs.Nodup)(hW:1<=W)(gc:De c)(lc:c.length<=W)(aP:(BC qs Y c).length<=e)
 (I:DN ((e+W:Nat):Int) ((m:Int)+1-((e+W:Nat):Int)) m (qs.zip Y) r1 r2 N D N2 D2):∀x,Cv.ev N x=Cv.ev c x*Cv.ev D x:=fun x=>by
 have an:(qs.zip Y).length=m:=by rw[ck];lia
 have a0:=I.fin an;have ab:=DD (BC qs Y c);have ak:prL (BC qs Y c)≠[]:=fun z=>by rw[z]at ab;cases ab
 obtain⟨A,hA,eA⟩:∃A:List Rat,A.length<=e+W/\∀x,Cv.ev A x=Cv.ev c x*prV x (BC qs Y c):=by
  by_cases z:c=[]
  ·exact⟨[],YN _,fun x=>by rw[z];show(0:Rat)=0*_;rw[cb]⟩
  ·have lz:=ae.mpr z;exact⟨DF c (prL (BC qs Y c)),by rw[Cz _ (by lia) _ (by lia)];lia,fun x=>by rw[D4,FV]⟩
 have al:DL ((e+W:Nat):Int) ((m:Int)+1-((e+W:Nat):Int)) 1 A (prL (BC qs Y c)):=⟨fun j hj=>NR (by lia),fun j hj=>NR (by lia)⟩
 have as:=LK (qs:=qs) I.le1 al (n:=m) (by lia) (by lia) aF fun x hx=>by
  obtain⟨i,hi,rfl⟩:=aG hx;have O:=Rl ap aC (i:=i) (by lia)
  have h1:Cv.ev N qs[i]=Y[i]'(by lia)*Cv.ev D qs[i]:=I.on1 _ O
  have h2:Cv.ev c qs[i]*prV qs[i] (BC qs Y c)=Y[i]'(by lia)*prV qs[i] (BC qs Y c):=by
   by_cases z:Cv.ev c qs[i]=Y[i]'(by lia)
   ·rw[z]
   ·have J:qs[i]∈BC qs Y c:=by
     unfold BC;exact aX.mpr ⟨(qs[i],Y[i]'(by lia)),Yv.mpr ⟨O,by unfold bad;rw[decide_eq_false z];rfl⟩,Z⟩
    rw[TL J,bZ,bZ]
  rw[FV,eA,h1,h2];grind
 have:=Sr (D:=prL (BC qs Y c)) (A:=N) (B:=DF c D) (by rw[He (QJ _)];exact ak) (fun x=>by
  have k:=as x;rw[FV,eA]at k;rw[FV,D4]
  grind) x
 rw[D4]at this;exact this
inductive Hl(K:Yx)(Pt:ad)(vs:List V)(H:Hp)(Q:VK)(E_3:XK):Prop
 | mk (lp lh:ad) (zs ys:List V) (qs hs c:List Rat) (W e n nx ny mc C:Nat) (h1:vs=[.ref lp,.ref lh,.int (W:Int),.int (e:Int)]) (h2:SqL K H lp zs) (h3:Am H zs qs) (h4:SqL K H lh ys) (h5:AD K H ys hs) (h6:qs.length=n) (h7:hs.length=n) (h8:n<=12) (h9:qs.Nodup) (h10:1<=W) (h11:W<=8) (h12:2*e+W<=n) (h13:(∀x∈qs,RB nx x)) (h14:(∀y∈hs,RB ny y)) (h15:1<=nx) (h16:nx<=40) (h17:nx<=ny) (h18:ny<=7000) (h19:(nx+1)*(n+3)+ny+2<=C) (h20:(gAS C n).2+3*C<=2000000) (h21:Cq Pt E1 H) (h22:De c) (h23:c.length<=W) (h24:(∀x∈c,RB mc x)) (h25:mc<=100000) (h26:(BC qs hs c).length<=e) (h27:∀(t pc lw:ad) (H':Hp) (us:List V) (rs:List Rat),Co Pt H H'->Cq Pt E1 H'->SqT K H' t [.str "one",.ref pc,.ref lw]->Crv K H' pc c->H lw=none->H' lw=some (.lst us)->AD K H' us rs->rs.Perm (BC qs hs c)->rs.Pairwise (· <= ·)->Q (.ref t) H'):Hl K Pt vs H Q E_3
theorem Qv{K:Yx}{a:ad}{js:List Nat}{xs:List V}{tc:TT}{te:TE}{σ:St}{H:Hp}{O:List V->Hp->Prop}(Y:Nat->List V->Hp->Prop)(h0:Y 0 [] H)
 (hl:∀i zs H,i<=xs.length->Y i zs H->SqL K H a xs/\zs.length<=i) (hz:xs.length<=bi)
 (hs:∀i v zs H,xs[i]? = some v->Y i zs H->∃t x y,v = .ref t/\SqT K H t [x,y]/\tc (((cS 2 js σ).set 0 (some x)).set 1 (some y)) H fun b H3=>if b=true then te (((cS 2 js σ).set 0 (some x)).set 1 (some y)) H3 fun y H4=>Y (i+1) (zs++[y]) H4 else Y (i+1) zs H3) (ab:∀zs H',Y xs.length zs H'->O zs H') :
 ∃(n':Nat) (W:Nat->List V->Hp->Prop),W 0 [] H/\LcW (Itl K a) n' 2 js σ (ON K 2 (Ie (CI 0) (Ie (CI 1) Si))) tc te O W:=by
 refine⟨xs.length,Y,h0,⟨?_,?_,?_⟩⟩
 ·intro i zs H' hi p;obtain⟨h1,h2⟩:=hl i zs H' (Yz hi) p;exact⟨⟨xs,xs[i],h1,by simp[hi]⟩,by lia⟩
 ·rintro i zs H' x H1 hi p ⟨rfl,y⟩;have hx:=y xs (hl i zs _ (Yz hi) p).1;obtain⟨t,u,v,rfl,J,h⟩:=hs i x zs _ hx p;exact⟨t,_,Z,J,Z,_,_,Z,_,_,Z,Z,h⟩
 ·intro zs H' p;obtain⟨h1,h2⟩:=hl _ zs H' (YL _) p;exact⟨⟨xs,h1,YL _⟩,by lia,ab zs H' p⟩
theorem OC{qs Y c:List Rat}{i:Nat}{x y:Rat}(J:Y.length=qs.length)(O:qs[i]? = some x)(W:Y[i]? = some y):BC (qs.take (i+1)) (Y.take (i+1)) c=BC (qs.take i) (Y.take i) c++if Cv.ev c x=y then [] else [x]:=by
 unfold BC;rw[ai,ai,O,W,List.zip_append (by rw[Zh,Zh];lia),cW,aj]
 congr 1
 show(([(x,y)]:List (Rat×Rat)).filter (bad c)).map Prod.fst=_;by_cases z:Cv.ev c x=y
 ·rw[if_pos z,cU (by unfold bad;rw[decide_eq_true z];decide)];rfl
 ·rw[if_neg z,cT (by unfold bad;rw[decide_eq_false z];rfl)];rfl
theorem Qs{qs O c:List Rat}{x:Rat}(h:x∈BC qs O c):x∈qs:=by
 unfold BC at h;obtain⟨W,Y,rfl⟩:=aX.mp h;exact(Ze (show(W.1,W.2)∈qs.zip O from(Yv.mp Y).1)).1
structure Cs7(K:Yx)(p l rc:ad)(zs:List V)(qs cs:List Rat)(G:Hp):Prop where
 pen:Pen G p
 lp:l≠p
 el:G l=some (.lst zs)
 nz:Am G zs qs
 cc:Crv K G rc cs
structure Lp7(K:Yx)(Pt l1 l2 lg lh td lm rc:ad)(zs ys us:List V)(qs hs rs:List Rat)(G:Hp):Prop where
 eh:G lh=some (.lst ys)
 ny:AD K G ys hs
 td:SqT K G td [.str "one",.ref rc,.ref lm]
 em:G lm=some (.lst us)
 nm:AD K G us rs
 eg:G lg=some (.lst [.ref l1,.ref l2])
 e1:G l1=some (.lst zs)
 e2:G l2=some (.lst ys)
 ct:Cq Pt E1 G
abbrev Ms:=Rat×Int
def MsV(K:Yx)(H:Hp)(v:V)(t:Ms):Prop:=∃a rx,v = .ref a/\SqT K H a [rx,.int t.2]/\Az K H rx t.1
abbrev Mss(K:Yx)(H:Hp):List V->List Ms->Prop:=Paired (MsV K H)
theorem Qr{K:Yx}{H H':Hp}{x:V}{t:Ms}(h:MsV K H x t)(e:Ac H H'):MsV K H' x t:=let ⟨a,rx,h1,h2,h3⟩:=h;⟨a,rx,h1,h2.same e,h3.same e⟩
theorem Fy{K:Yx}{H H':Hp}{xs:List V}{ts:List Ms}(h:Mss K H xs ts)(e:Ac H H'):Mss K H' xs ts:=Paired.mapP h fun _ _ z=>Qr z e
def hk(cs:List Rat)(t:ES):Rat:=if t.k=1 then Cv.ev (EG cs) t.x else Cv.ev cs t.x
def msd(cs:List Rat)(ts:List ES):List Ms:=(ts.filter fun t=>!decide (hk cs t=t.n)).map fun t=>(t.x,t.k)
theorem Lo(cs:List Rat)(ts:List ES)(t:ES):msd cs (ts++[t])=msd cs ts++(if hk cs t=t.n then [] else [(t.x,t.k)]):=by
 unfold msd;rw[cW,aj]
 congr 1
 by_cases h:hk cs t=t.n
 ·rw[if_pos h,cX,decide_eq_true h];rfl
 ·rw[if_neg h,cX,decide_eq_false h];rfl
theorem Ti{pss:List (List Rat)}(h:P23 pss):∀t∈AA pss,t.k=0\/t.k=1:=fun t Y=>by
 unfold AA at Y;obtain⟨l,O,Y⟩:=cJ.mp Y;obtain⟨ps,W,rfl⟩:=aX.mp O;unfold Bc at Y;obtain⟨k,hk,rfl⟩:=aX.mp Y;have:=Yw.mp hk;have:=h ps W;show(k:Int)=0\/(k:Int)=1
 lia
theorem Rt{pss:List (List Rat)}{n:Nat}(O:1<=n)(h:∀ps∈pss,∀q∈ps,RB n q):∀t∈AA pss,RB n t.x/\RB n t.n:=fun t Y=>by
 unfold AA at Y;obtain⟨l,J,Y⟩:=cJ.mp Y;obtain⟨ps,W,rfl⟩:=aX.mp J
 have g:∀j,RB n (ps.getD j 0):=fun j=>by
  rw[aw];cases e:ps[j]? with
  | none=>exact RB.zero O
  | some t=>exact h ps W t (Zn e)
 unfold Bc at Y;obtain⟨k,hk,rfl⟩:=aX.mp Y;exact⟨g _,g _⟩
theorem PX{k:Nat}(hk:k<=1000):RB 11 ((k:Nat):Rat):=⟨by rw[cY];unfold Bd;lia,by rw[cZ];unfold Bd;decide⟩
theorem PJ{cs:List Rat}{n:Nat}(hl:cs.length<=1000)(W:1<=n)(h:∀q∈cs,RB n q):∀q∈EG cs,RB (n+11) q:=fun q Y=>by
 unfold EG at Y;obtain⟨j,O,rfl⟩:=aX.mp Y;have J:=Yw.mp O
 have g:RB n (cs.getD (j+1) 0):=by
  rw[aw];cases e:cs[j+1]? with
  | none=>exact RB.zero W
  | some t=>exact h t (Zn e)
 exact g.times (PX (by lia))
theorem JA(cs:List Rat):(EG cs).length=cs.length-1:=by unfold EG;rw[Z4,bF]
inductive Mn(K:Yx)(vs:List V)(H:Hp)(Q:VK)(E_3:XK):Prop
 | mk (x:V) (ps:List Rat) (h1:vs=[x]) (h2:PtV K H x ps) (h3:(ps.length=2\/ps.length=3)) (h4:∀H',Ac H H'->Q (.bl true) H'):Mn K vs H Q E_3
inductive GQ(K:Yx)(vs:List V)(H:Hp)(Q:VK)(E_3:XK):Prop
 | mk (b:Bool) (r:ad) (xs:List V) (pss:List (List Rat)) (h1:vs=[.ref r]) (h2:Sq b K H r xs) (h3:AY K H xs pss) (h4:P23 pss) (h5:1<=pss.length) (h6:(pss.map fun ps=>ps.getD 0 0).Nodup) (h7:(AA pss).length<=12) (h8:∀(p:ad) (H':Hp),Ac H H'->SqT K H' p xs->(b=false->p=r)->Q (.ref p) H'):GQ K vs H Q E_3
theorem Sf(q:Rat):(ZL q.num (q.den:Int):Int)=1:=by
 have h:ZL q.num (q.den:Int)=1:=q.reduced;rw[h];rfl
theorem Sq.len{b:Bool}{K:Yx}{H:Hp}{r:ad}{xs:List V}(h:Sq b K H r xs):SqL K H r xs\/SqT K H r xs:=by
 cases b
 ·exact .inr h
 ·exact .inl h
def Fg(x:Rat):Prop:=x.num.natAbs<10 ^ 6/\x.den<10 ^ 6
theorem Uv{t b:Int}(W:b≠0)(O:t.natAbs<10 ^ 6)(Y:b.natAbs<10 ^ 6):Fg (ZN t b):=by
 refine⟨?_,?_⟩
 ·rw[<- Nm.top_msr W];exact ZI (PySem.natAbs_fdiv_le t _) O
 ·have h:(((ZN t b).den:Nat):Int).natAbs<10 ^ 6:=by
   rw[<- Nm.bottom_msr W];exact ZI (PySem.natAbs_fdiv_le b _) Y
  simpa using h
theorem Gd{i:Int}(h:i.natAbs<10 ^ 6):i.natAbs.log2<1920:=by
 by_cases h0:i.natAbs=0
 ·rw[h0];decide +kernel
 ·have:=(Nat.log2_lt (k:=200) h0).mpr (by lia);lia
theorem EM{i:Int}(h:i.natAbs<10 ^ 6):(txI i).length<=61:=by
 rw[AK]
 rcases FJ i with ⟨n,e,Y⟩ | ⟨n,W,e,Y⟩
 ·rw[Y];exact Yy (Ii (k:=6) (by decide) (by lia)) (by decide)
 ·rw[Y,YY];have:=Ii (n:=n) (k:=6) (by decide) (by lia)
  lia
theorem CF{x:Rat}(h:Fg x):(tx x).length<=123:=by
 have h1:=EM h.1;have h2:=EM (i:=(x.den:Int)) (by have:=h.2;lia)
 unfold tx
 split
 ·lia
 ·have l3:(Str.ofString "/").length=1:=by rw[AK,CQ];rfl
  rw[AK,AR,AR,Zo,Zo,<- AK,<- AK,<- AK]
  lia
def Vt(t:Str):Prop:=sg t≠[]/\(sg t).length<=6/\(∀c∈sg t,48<=c/\c<=57)/\∀r,sg t=48::r->r=[]
theorem K9{t:Str}{n:Nat}(Y:sg t=dg n)(h:n<10 ^ 6):Vt t:=by
 refine⟨by rw[Y];exact LJ n,by rw[Y];exact Ii (by decide) h,fun c O=>FG (by rw[<- Y];exact O),fun r W=>?_⟩
 have z:=Kc (Y.symm.trans W);subst z;exact(aK.inj (Y.symm.trans W)).2.symm
theorem QQ{c:Nat}(h1:48<=c)(h2:c<=57):(!(Builtin.Str.occurrences (Str.ofString "0123456789") ⟨#[c]⟩ 0 (Str.ofString "0123456789").length 1).isEmpty)=true:=by
 rw[PyProof.Rows.empty_one,Bool.not_not];refine decide_eq_true ?_;show c∈sg _;rw[CQ];have:c=48\/c=49\/c=50\/c=51\/c=52\/c=53\/c=54\/c=55\/c=56\/c=57:=by lia
 rcases this with rfl | rfl | rfl | rfl | rfl | rfl | rfl | rfl | rfl | rfl<;>decide
theorem Fc:sg (Str.ofString "-")=[45]:=by rw[CQ];rfl
theorem M8{t:Str}{r:List Nat}(h:sg t=45::r):Txt.startswith t (Str.ofString "-")=true:=by
 unfold Txt.startswith;rw[StrLaws.subAt_eq,AK,AK t,Fc,h];show(decide (0+1<=(45::r).length)&&((((sg t).drop 0).take 1) == sg (Str.ofString "-")))=true;rw[h,Fc];simp
theorem Oe{t:Str}{c:Nat}{r:List Nat}(h:sg t=c::r)(Y:c≠45):Txt.startswith t (Str.ofString "-")=false:=by
 unfold Txt.startswith;rw[StrLaws.subAt_eq,AK,AK t,Fc,h];show(decide (0+1<=(c::r).length)&&((((sg t).drop 0).take 1) == sg (Str.ofString "-")))=false;rw[h,Fc];simp[Y]
theorem Ll(xs:List Rat):((xs.map nD).any fun y=>PyData.eqv y .none)=false:=by
 induction xs with
 | nil=>rfl
 | cons x r ih=>rw[Z2,ZA,ih];rfl
inductive D7(K:Yx)(vs:List V)(H:Hp)(Q:VK)(E_3:XK):Prop
 | mk (x:V) (q:Rat) (h1:vs=[x]) (h2:Az K H x q) (h3:Fg q) (h4:Q (.str (tx q)) H):D7 K vs H Q E_3
inductive Nn(vs:List V)(H:Hp)(Q:VK)(E_3:XK):Prop
 | mk (t:Str) (h1:vs=[.str t,.int 6]) (h2:Vt t) (h3:∀H',Ac H H'->Q (.bl true) H'):Nn vs H Q E_3
inductive Pw(vs:List V)(H:Hp)(Q:VK)(E_3:XK):Prop
 | mk (i:Int) (h1:vs=[.str (txI i),.int 6]) (h2:i.natAbs<10 ^ 6) (h3:∀H',Ac H H'->Q (.bl true) H'):Pw vs H Q E_3
inductive GR(vs:List V)(H:Hp)(Q:VK)(E_3:XK):Prop
 | mk (x:Rat) (h1:vs=[.str (tx x),.int 6]) (h2:Fg x) (h3:∀p H',Ac H H'->H p=none->H' p=some (nT x)->Q (.ref p) H'):GR vs H Q E_3
inductive Pz(vs:List V)(H:Hp)(Q:VK)(E_3:XK):Prop
 | mk (t:Str) (h1:vs=[.str t]) (h2:Q .non H):Pz vs H Q E_3
inductive Hj(K:Yx)(vs:List V)(H:Hp)(Q:VK)(E_3:XK):Prop
 | mk (l:ad) (xs:List Rat) (h1:vs=[.ref l,.int 6]) (h2:SqL K H l (xs.map fun x=>V.str (tx x))) (h3:(∀x∈xs,Fg x)) (h4:xs.length<=1000) (h5:∀p ys H',Ac H H'->H p=none->H' p=some (.lst ys)->Am H' ys xs->Q (.ref p) H'):Hj K vs H Q E_3
def BF:Str:=Str.ofString " "
def GC:Str:=Str.ofString ":"
def GB:Str:=Str.ofString ", "
theorem PL:sg BF=[32]:=by unfold BF;rw[CQ];rfl
theorem Fe:sg GC=[58]:=by unfold GC;rw[CQ];rfl
theorem Hs:sg GB=[44,32]:=by unfold GB;rw[CQ];rfl
theorem Gp:BF.length=1:=by rw[AK,PL];rfl
theorem Gj:GC.length=1:=by rw[AK,Fe];rfl
theorem Gi:GB.length=2:=by rw[AK,Hs];rfl
theorem SX{x:Str}(h:∀c∈sg x,c<256):Builtin.Str.strKind x=1:=by
 unfold Builtin.Str.strKind;rw[if_pos];rw[cz];intro c Y;exact decide_eq_true (h c (by simpa [sg] using Y))
def ptx(ps:List Rat):Str:=Str.join GC (ps.map tx)
def JJ(pss:List (List Rat)):Str:=Str.join GB (pss.map ptx)
theorem Kx{ps:List Rat}(h:ps≠[]):Txt.split (ptx ps) GC=ps.map tx:=by
 unfold ptx;cases ps with
 | nil=>exact absurd rfl h
 | cons x r =>
   rw[Z2]
   exact ED (c:=58) Fe (SX (by rw[Fe];decide)) _ _ (by
    rw[<- Z2 (f:=tx)];intro u Y;obtain⟨y,_,rfl⟩:=aX.mp Y;exact Jj y (by decide))
theorem Kw{pss:List (List Rat)}(h:pss≠[]):Txt.split (JJ pss) GB=pss.map ptx:=by
 unfold JJ;cases pss with
 | nil=>exact absurd rfl h
 | cons x r =>
   rw[Z2]
   exact ED (c:=44) Hs (SX (by rw[Hs];decide)) _ _ (by
    rw[<- Z2 (f:=ptx)];intro u Y;obtain⟨y,_,rfl⟩:=aX.mp Y
    exact J5 (by rw[Fe];decide) fun t W=>by
     obtain⟨z,_,rfl⟩:=aX.mp W;exact Jj z (by decide))
theorem Ds{qs:List Rat}(h:∀q∈qs,Fg q):∀t∈qs.map tx,t.length<=123:=fun t W=>by
 obtain⟨x,Y,rfl⟩:=aX.mp W;exact CF (h x Y)
theorem Nt{ps:List Rat}(h:∀q∈ps,Fg q)(Y:ps.length<=3):(ptx ps).length<=375:=by
 have:=Ea (sep:=GC) (by rw[Gj];decide) (Ds h)
 rw[Z4]at this;unfold ptx
 lia
theorem KN{pss:List (List Rat)}(h:∀ps∈pss,∀q∈ps,Fg q)(W:P23 pss):∀t∈pss.map ptx,t.length<=375:=fun t O=>by
 obtain⟨x,Y,rfl⟩:=aX.mp O;exact Nt (h x Y) (by rcases W x Y with z | z<;>lia)
inductive Jp(K:Yx)(sep:Str)(vs:List V)(H:Hp)(Q:VK)(E_3:XK):Prop
 | mk (r:ad) (xs:List V) (qs:List Rat) (h1:vs=[.ref r]) (h2:SqT K H r xs) (h3:AD K H xs qs) (h4:(∀q∈qs,Fg q)) (h5:qs.length<=100) (h6:∀H',Ac H H'->Q (.str (Str.join sep (qs.map tx))) H'):Jp K sep vs H Q E_3
def ctx(qs:List Rat):Str:=if qs=[] then Str.ofString "0" else Str.join BF (qs.map tx)
inductive Jt(K:Yx)(vs:List V)(H:Hp)(Q:VK)(E_3:XK):Prop
 | mk (r:ad) (qs:List Rat) (h1:vs=[.ref r]) (h2:Crv K H r qs) (h3:(∀q∈qs,Fg q)) (h4:qs.length<=100) (h5:∀H',Ac H H'->Q (.str (ctx qs)) H'):Jt K vs H Q E_3
inductive Hi(K:Yx)(vs:List V)(H:Hp)(Q:VK)(E_3:XK):Prop
 | mk (pss:List (List Rat)) (h1:vs=[.str (JJ pss),.int 6]) (h2:1<=pss.length) (h3:P23 pss) (h4:(∀ps∈pss,∀q∈ps,Fg q)) (h5:(pss.map fun ps=>ps.getD 0 0).Nodup) (h6:(AA pss).length<=12) (h7:∀p xs H',Ac H H'->SqT K H' p xs->AY K H' xs pss->Q (.ref p) H'):Hi K vs H Q E_3
inductive Wh(K:Yx)(H:Hp):V->Bool->Prop where
 | int (i:Int):Wh K H (.int i) true
 | bl (b:Bool):Wh K H (.bl b) false
 | oth {x:V} {t:am} (ty:TyX K H x t) (h:Z7 K t (.type "int")=some false):Wh K H x false
inductive Nb(K:Yx)(H:Hp):V->Bool->Prop where
 | no {x:V} {t:am} (ty:TyX K H x t) (h:Z7 K t (.type "tuple")=some false):Nb K H x false
 | len {a:ad} {xs:List V} (h:SqT K H a xs) (hl:xs.length≠2):Nb K H (.ref a) false
 | one {a:ad} {p q:V} (h:SqT K H a [p,q]) (w:Wh K H p false):Nb K H (.ref a) false
 | two {a:ad} {i:Int} {q:V} (h:SqT K H a [.int i,q]) (w:Wh K H q false):Nb K H (.ref a) false
 | nums {a:ad} {i j:Int} {b:Bool} (h:SqT K H a [.int i,.int j]) (e:b=(decide (1<=j)&&decide ((ZL i j:Int)=1))):Nb K H (.ref a) b
inductive Pb(K:Yx)(H:Hp):V->Bool->Prop where
 | no {x:V} {t:am} (ty:TyX K H x t) (h:Z7 K t (.type "tuple")=some false):Pb K H x false
 | len {a:ad} {xs:List V} (h:SqT K H a xs) (h2:xs.length≠2) (h3:xs.length≠3):Pb K H (.ref a) false
 | all {a:ad} {xs:List V} {bs:List Bool} (h:SqT K H a xs) (h23:xs.length=2\/xs.length=3) (hb:Paired (Nb K H) xs bs):Pb K H (.ref a) (bs.all id)
inductive Ko(K:Yx)(H:Hp):V->Prop where
 | no {x:V} {t:am} (ty:TyP K H x t) (h:PySem.W.kitAny K t [.type "list",.type "tuple"]=some false):Ko K H x
 | nil {b:Bool} {r:ad} (h:Sq b K H r []):Ko K H (.ref r)
 | pt {b:Bool} {r:ad} {xs:List V} {bs:List Bool} (h:Sq b K H r xs) (hp:Paired (Pb K H) xs bs) (hb:bs.all id=false) (h17:xs.length<=17):Ko K H (.ref r)
 | twice {b:Bool} {r:ad} {xs:List V} {pss:List (List Rat)} (h:Sq b K H r xs) (hp:AY K H xs pss) (h23:P23 pss) (hnd:¬(pss.map fun ps=>ps.getD 0 0).Nodup) (h17:pss.length<=17):Ko K H (.ref r)
theorem EK{α β:Type}{F:α->β->Prop}:∀{l₁:List α} {l₂:List β} (i:Nat) {x:α} {y:β},Paired F l₁ l₂->F x y->Paired F (l₁.set i x) (l₂.set i y)
 | _,_,_,_,_,.nil,_=>.nil
 | _,_,0,_,_,.cons _ t,h=>.cons h t
 | _,_,i+1,_,_,.cons g t,h=>.cons g (EK i t h)
theorem S1{pss:List (List Rat)}{m:Nat}{ps:List Rat}(h:P23 pss)(h2:ps.length=2\/ps.length=3):P23 (pss.set m ps):=fun qs Y=>by
 rcases d5 Y with z | z
 ·exact h qs z
 ·subst z;exact h2
theorem U5{pss:List (List Rat)}{m:Nat}{ps qs:List Rat}(h:pss[m]? = some ps)(W:qs.getD 0 0=ps.getD 0 0)(Y:(pss.map fun ps=>ps.getD 0 0).Nodup):((pss.set m qs).map fun ps=>ps.getD 0 0).Nodup:=by
 rw[ag,W];have e:(pss.map fun ps=>ps.getD 0 0)[m]? = some (ps.getD 0 0):=by rw[Zl,h];rfl
 obtain⟨O,e⟩:=YG.mp e;rw[<- e,List.set_getElem_self];exact Y
theorem Qn{pss:List (List Rat)}{i j:Nat}{ps qs:List Rat}(Y:(pss.map fun ps=>ps.getD 0 0).Nodup)(h1:pss[i]? = some ps)(h2:pss[j]? = some qs)(he:ps.getD 0 0=qs.getD 0 0):i=j:=by
 have W:(pss.map fun ps=>ps.getD 0 0)[i]? = some (ps.getD 0 0):=by rw[Zl,h1];rfl
 have O:(pss.map fun ps=>ps.getD 0 0)[j]? = some (ps.getD 0 0):=by rw[Zl,h2,he];rfl
 obtain⟨b1,W⟩:=YG.mp W;obtain⟨J,O⟩:=YG.mp O
 rcases cw i j with z | z | z
 ·exact absurd (W.trans O.symm) (List.pairwise_iff_getElem.mp Y i j b1 J z)
 ·exact z
 ·exact absurd (O.trans W.symm) (List.pairwise_iff_getElem.mp Y j i J b1 z)
inductive Me(K:Yx)(vs:List V)(H:Hp)(Q:VK)(E_3:XK):Prop
 | mk (r:ad) (x v:V) (xs:List V) (pss:List (List Rat)) (m:Nat) (ps:List Rat) (h1:vs=[.ref r,x]) (h2:SqT K H r xs) (h3:AY K H xs pss) (h4:(pss.map fun ps=>ps.getD 0 0).Nodup) (h5:pss[m]? = some ps) (h6:xs[m]? = some v) (h7:Az K H x (ps.getD 0 0)) (h8:Q v H):Me K vs H Q E_3
inductive EE(K:Yx)(vs:List V)(H:Hp)(Q:VK)(E_3:XK):Prop
 | mk (r:ad) (v y:V) (xs:List V) (pss:List (List Rat)) (m:Nat) (ps qs:List Rat) (h1:vs=[.ref r,v,y]) (h2:SqT K H r xs) (h3:AY K H xs pss) (h4:(pss.map fun ps=>ps.getD 0 0).Nodup) (h5:P23 pss) (h6:pss[m]? = some ps) (h7:xs[m]? = some v) (h8:PtT K H y qs) (h9:qs.getD 0 0=ps.getD 0 0) (h10:(qs.length=2\/qs.length=3)) (h11:(AA pss).length<=12) (h12:(AA (pss.set m qs)).length<=12) (h13:∀(p:ad) (H':Hp),Ac H H'->SqT K H' p (xs.set m y)->Q (.ref p) H'):EE K vs H Q E_3
inductive Jm(K:Yx)(vs:List V)(H:Hp)(Q:VK)(E_3:XK):Prop
 | mk (r px:ad) (y:V) (xs:List V) (pss:List (List Rat)) (m:Nat) (ps:List Rat) (c:Rat) (h1:vs=[.ref r,.ref px,y]) (h2:SqT K H r xs) (h3:AY K H xs pss) (h4:(pss.map fun ps=>ps.getD 0 0).Nodup) (h5:P23 pss) (h6:pss[m]? = some ps) (h7:H px=some (nT (ps.getD 0 0))) (h8:Az K H y c) (h9:(AA pss).length<=12) (h10:(AA (pss.set m ([ps.getD 0 0,c]++ps.drop 2))).length<=12) (h11:∀(p:ad) (H':Hp) (xs':List V),Ac H H'->SqT K H' p xs'->AY K H' xs' (pss.set m ([ps.getD 0 0,c]++ps.drop 2))->Q (.ref p) H'):Jm K vs H Q E_3
structure Pok(K:Yx)(H:Hp)(r:ad)(xs:List V)(pss:List (List Rat)):Prop where
 S:SqT K H r xs
 P:AY K H xs pss
 h23:P23 pss
 h1:1<=pss.length
 nd:(pss.map fun ps=>ps.getD 0 0).Nodup
 h12:(AA pss).length<=12
theorem Pok.same{K:Yx}{H H':Hp}{r:ad}{xs:List V}{pss:List (List Rat)}(h:Pok K H r xs pss)(e:Ac H H'):Pok K H' r xs pss:=⟨h.S.same e,AY.same h.P e,h.h23,h.h1,h.nd,h.h12⟩
theorem Pok.mv{K:Yx}{p:ad}{H H':Hp}{r:ad}{xs:List V}{pss:List (List Rat)}(h:Pok K H r xs pss)(pn:Pen H p)(m:Mv p H H'):Pok K H' r xs pss:=⟨h.S.mv pn m,AY.mv h.P pn m,h.h23,h.h1,h.nd,h.h12⟩
inductive Rh(K:Yx)(H:Hp)(pss:List (List Rat)):V->Nat->Prop where
 | pt {y:V} (h:Pb K H y false):Rh K H pss y 1
 | twice {y:V} {ps:List Rat} (h:PtT K H y ps) (h23:ps.length=2\/ps.length=3) (hm:ps.getD 0 0∈pss.map fun ps=>ps.getD 0 0):Rh K H pss y 1
 | many {y:V} {ps:List Rat} (h:PtT K H y ps) (h23:ps.length=2\/ps.length=3) (hm:ps.getD 0 0∉pss.map fun ps=>ps.getD 0 0) (ht:12<(AA (pss++[ps])).length):Rh K H pss y 0
def TkR(pss:List (List Rat))(q:Rat)(n:Nat):Prop:=(n=2/\q∉pss.map fun ps=>ps.getD 0 0)\/(n=1/\pss.length=1/\q∈pss.map fun ps=>ps.getD 0 0)
inductive Vq(K:Yx)(H:Hp)(pss:List (List Rat))(m:Nat)(ps:List Rat):V->Nat->Prop where
 | pt {y:V} (h:Pb K H y false):Vq K H pss m ps y 1
 | many {y:V} {qs:List Rat} (h:PtT K H y qs) (h0:qs.getD 0 0=ps.getD 0 0) (h23:qs.length=2\/qs.length=3) (ht:12<(AA (pss.set m qs)).length):Vq K H pss m ps y 0
def HtR(K:Yx)(H:Hp)(pss:List (List Rat))(q:Rat)(y:V)(n:Nat):Prop:=(n=2/\q∉pss.map fun ps=>ps.getD 0 0)\/(n=1/\(q∈pss.map fun ps=>ps.getD 0 0)/\Nb K H y false)
inductive O3(K:Yx)(H:Hp)(pss:List (List Rat))(q:Rat):V->Nat->Prop where
 | far {s:V} (h:q∉pss.map fun ps=>ps.getD 0 0):O3 K H pss q s 2
 | odd {s:V} (h:q∈pss.map fun ps=>ps.getD 0 0) (hs:Nb K H s false) (hn:s ≠ .non):O3 K H pss q s 1
 | many {s:V} {c:Rat} {m:Nat} {ps:List Rat} (hm:pss[m]? = some ps) (hq:ps.getD 0 0=q) (hs:Az K H s c) (ht:12<(AA (pss.set m (ps.take 2++[c]))).length):O3 K H pss q s 0
inductive Rf(K:Yx)(H:Hp)(pss:List (List Rat)):Int->V->V->Nat->Prop where
 | put {x y:V} {n:Nat} (h:Rh K H pss y n):Rf K H pss 0 x y n
 | out {x y:V} {q:Rat} {n:Nat} (hx:DO H x q) (h:TkR pss q n):Rf K H pss 1 x y n
 | hgt {x y:V} {q:Rat} {n:Nat} (hx:DO H x q) (h:HtR K H pss q y n):Rf K H pss 2 x y n
 | slo {x y:V} {q:Rat} {n:Nat} (hx:DO H x q) (h:O3 K H pss q y n):Rf K H pss 3 x y n
 | gain {x:V} {q:Rat} {k:Int} (hx:DO H x q) (h:(q,k)∉((AA pss).map fun t=>(t.x,t.k))):Rf K H pss 4 x (.int k) 2
 | loss {x y:V} {q:Rat} {n:Nat} (hx:DO H x q) (h:TkR pss q n):Rf K H pss 5 x y n
 | new {x y:V} {n:Nat} (h:Rh K H pss y n):Rf K H pss 6 x y n
theorem GY{n:Nat}:∀{pss:List (List Rat)},(∀ps∈pss,ps.length=n+1)->(AA pss).length=n*pss.length
 | [],_=>by rw[aV,Nat.mul_zero];rfl
 | p::r,h=>by
   have e:AA (p::r)=Bc p++AA r:=rfl;rw[e,Zo,AW,h p (YB ..),GY fun ps Y=>h ps (YC _ Y),YY,cB,da]
   lia
theorem Od{pss:List (List Rat)}{m:Nat}{ps qs:List Rat}(W:pss[m]? = some ps):(AA (pss.set m qs)).length+(ps.length-1)=(AA pss).length+(qs.length-1):=by
 induction pss generalizing m with
 | nil=>cases W
 | cons p r ih =>
   cases m with
   | zero =>
     cases W;have e:AA ((ps::r).set 0 qs)=Bc qs++AA r:=rfl;have Y:AA (ps::r)=Bc ps++AA r:=rfl;rw[e,Y,Zo,Zo,AW,AW];lia
   | succ m =>
     have e:AA ((p::r).set (m+1) qs)=Bc p++AA (r.set m qs):=rfl;have Y:AA (p::r)=Bc p++AA r:=rfl;have:=ih (m:=m) W;rw[e,Y,Zo,Zo];lia
def loW:Nat->Nat
 | 0=>2
 | 1=>1
 | 2=>2
 | 3=>2
 | 4=>1
 | _=>0
def hiW:Nat->Nat
 | 0=>3
 | 1=>1
 | 2=>2
 | 3=>2
 | 4=>1
 | _=>0
inductive Chg(pss:List (List Rat))(qs:List Rat):Nat->Except Nat (List (List Rat))->Prop
 | put2 (h:qs.getD 0 0∈pss.map fun ps=>ps.getD 0 0):Chg pss qs 0 (.error 1)
 | putM (h:qs.getD 0 0∉pss.map fun ps=>ps.getD 0 0) (ht:12<(AA (pss++[qs])).length):Chg pss qs 0 (.error 0)
 | put (h:qs.getD 0 0∉pss.map fun ps=>ps.getD 0 0) (ht:(AA (pss++[qs])).length<=12):Chg pss qs 0 (.ok (pss++[qs]))
 | far {i:Nat} (hi:1<=i) (h:qs.getD 0 0∉pss.map fun ps=>ps.getD 0 0):Chg pss qs i (.error 2)
 | only(h:qs.getD 0 0∈pss.map fun ps=>ps.getD 0 0) (h1:pss.length=1):Chg pss qs 1 (.error 1)
 | take {m:Nat} {ps:List Rat} (hm:pss[m]? = some ps) (h0:ps.getD 0 0=qs.getD 0 0) (h2:2<=pss.length):Chg pss qs 1 (.ok (pss.take m++pss.drop (m+1)))
 | height {m:Nat} {ps:List Rat} (hm:pss[m]? = some ps) (h0:ps.getD 0 0=qs.getD 0 0):Chg pss qs 2 (.ok (pss.set m ([ps.getD 0 0,qs.getD 1 0]++ps.drop 2)))
 | slopeM {m:Nat} {ps:List Rat} (hm:pss[m]? = some ps) (h0:ps.getD 0 0=qs.getD 0 0) (ht:12<(AA (pss.set m (ps.take 2++[qs.getD 1 0]))).length):Chg pss qs 3 (.error 0)
 | slope {m:Nat} {ps:List Rat} (hm:pss[m]? = some ps) (h0:ps.getD 0 0=qs.getD 0 0) (ht:(AA (pss.set m (ps.take 2++[qs.getD 1 0]))).length<=12):Chg pss qs 3 (.ok (pss.set m (ps.take 2++[qs.getD 1 0])))
 | noslope {m:Nat} {ps:List Rat} (hm:pss[m]? = some ps) (h0:ps.getD 0 0=qs.getD 0 0):Chg pss qs 4 (.ok (pss.set m (ps.take 2)))
inductive Nk(K:Yx)(i:Nat)(vs:List V)(H:Hp)(Q:VK)(E_3:XK):Prop
 | mk (r l:ad) (xs ys:List V) (pss pss':List (List Rat)) (qs:List Rat) (h1:vs=[.ref r,.ref l]) (h2:Pok K H r xs pss) (h3:SqL K H l ys) (h4:Am H ys qs) (h5:loW i<=qs.length) (h6:qs.length<=hiW i) (h7:Chg pss qs i (.ok pss')) (h8:∀(p:ad) (xs':List V) (H':Hp),Ac H H'->SqT K H' p xs'->AY K H' xs' pss'->Q (.ref p) H'):Nk K i vs H Q E_3
theorem SU{H:Hp}{ys:List V}{qs:List Rat}(h:Am H ys qs)(h1:1<=qs.length):∃r,ys[0]? = some (.ref r)/\H r=some (nT (qs.getD 0 0)):=by
 cases h with
 | nil=>exact absurd h1 (by decide)
 | cons a b=>obtain⟨r,rfl,Y⟩:=a;exact⟨r,Z,Y⟩
theorem SS{H:Hp}{ys:List V}{qs:List Rat}(h:Am H ys qs)(h2:2<=qs.length):∃r,ys[1]? = some (.ref r)/\H r=some (nT (qs.getD 1 0)):=by
 cases h with
 | nil=>exact absurd h2 (by decide)
 | cons a b =>
   cases b with
   | nil=>exact absurd h2 (by simp)
   | cons a b=>obtain⟨r,rfl,Y⟩:=a;exact⟨r,Z,Y⟩
def dk(C dx r:ad):HO:=.ins C dx [("points",.ref r)]
def But(p:ad)(H H':Hp):Prop:=∀b o,b≠p->H b=some o->H' b=some o
inductive GS(K:Yx)(C:ad)(vs:List V)(H:Hp)(Q:VK)(E_3:XK):Prop
 | mk (p dx:ad) (pss:List (List Rat)) (h1:vs=[.ref p,.str (JJ pss)]) (h2:H p=some (.ins C dx [])) (h3:1<=pss.length) (h4:P23 pss) (h5:(∀ps∈pss,∀q∈ps,Fg q)) (h6:(pss.map fun ps=>ps.getD 0 0).Nodup) (h7:(AA pss).length<=12) (h8:∀(r:ad) (xs:List V) (H':Hp),But p H H'->H' p=some (dk C dx r)->Pok K H' r xs pss->Q .non H'):GS K C vs H Q E_3
theorem Ax.up{P:ce}{w:db}{K:Yx}{mg:Str->Option am}{base:dw}{CX:CXT}{k n:Nat}{f:ad}{fd:bn}{ps:List Str}{sp:Sp}(F:Ax P w K mg base CX k f fd ps sp)(h:k<=n):Ax P w K mg base CX n f fd ps sp:=⟨F.len,fun A outer s H args us vs Q E Y=>F.run A outer s H args us vs Q E (Y.mono h)⟩
theorem SqT.but{K:Yx}{H:Hp}{p r C dx:ad}{fs:List (Str×V)}{xs:List V}{o:HO}(h:SqT K H r xs)(Y:H p=some (.ins C dx fs)):SqT K (upd H p o) r xs:=by
 rcases h with h | h
 ·refine .inl ?_
  rcases h with h | ⟨W,h⟩
  ·exact .inl (by rw[Aq (CS h Y (by intro z;cases z))];exact h)
  ·exact .inr ⟨W,by rw[Aq (CS h Y (by intro z;cases z))];exact h⟩
 ·exact .inr h
theorem Az.but{K:Yx}{H:Hp}{p C dx:ad}{fs:List (Str×V)}{v:V}{q:Rat}{o:HO}(h:Az K H v q)(Y:H p=some (.ins C dx fs)):Az K (upd H p o) v q:=by
 obtain⟨r,e,h⟩:=h;exact⟨r,e,SqT.but h Y⟩
theorem AY.but{K:Yx}{H:Hp}{p C dx:ad}{fs:List (Str×V)}{xs:List V}{pss:List (List Rat)}{o:HO}(h:AY K H xs pss)(Y:H p=some (.ins C dx fs)):AY K (upd H p o) xs pss :=
 Paired.mapP h fun _ _ z=>by
  obtain⟨a,us,r,e,J,O,h0,W⟩:=z;exact⟨a,us,r,e,SqT.but J Y,Paired.mapP O fun _ _ z=>Az.but z Y,h0,by rw[Aq (CS W Y (by intro z;cases z))];exact W⟩
def wi:Nat->Nat
 | 0=>0
 | n+1=>n
structure Pq(pss:List (List Rat)):Prop where
 h23:P23 pss
 h1:1<=pss.length
 nd:(pss.map fun ps=>ps.getD 0 0).Nodup
 h12:(AA pss).length<=12
 fg:∀ps∈pss,∀q∈ps,Fg q
def whB(qs:List Rat)(ls:List Int):Bool:=(qs.zip ls).any fun p=>!(p.1.den == 1)||decide (p.1.num<p.2)
inductive FL(K:Yx)(vs:List V)(H:Hp)(Q:VK)(E_3:XK):Prop
 | mk (l t:ad) (xs:List V) (qs:List Rat) (ls:List Int) (h1:vs=[.ref l,.ref t]) (h2:SqL K H l xs) (h3:Am H xs qs) (h4:SqT K H t (ls.map V.int)) (h5:whB qs ls=false) (h6:∀H',Ac H H'->Q .non H'):FL K vs H Q E_3
theorem UM{qs:List Rat}{Y:List Int}{i:Nat}{c:Rat}{f:Int}(h:whB qs Y=false)(W:qs[i]? = some c)(O:Y[i]? = some f):c.den=1/\¬c.num<f:=by
 unfold whB at h;rw[YQ]at h;have J:(c,f)∈qs.zip Y:=List.mem_iff_getElem?.mpr ⟨i,cx.mpr ⟨W,O⟩⟩;have:=h _ J
 simpa using this
def Sm(x:Rat):Prop:=x.num.natAbs<=40/\x.den<=3
theorem Tr{t b:Int}(h1:0<b)(h2:b<=3)(Y:t.natAbs<=40):Sm (ZN t b):=by
 refine⟨?_,?_⟩
 ·rw[<- Nm.top_msr (by lia)];exact Yy (PySem.natAbs_fdiv_le t _) Y
 ·have W:(((ZN t b).den:Nat):Int).natAbs<=3:=by rw[<- Nm.bottom_msr (by lia)];exact Yy (PySem.natAbs_fdiv_le b _) (by lia)
  lia
theorem OO{t b:Int}{j:Nat}(h1:0<b):ZN t b+(j:Rat)=ZN (t+j*b) b:=by
 have e:(j:Rat)=ZN (j*b) b:=by
  rw[ZS,ZW];have Y:(b:Rat)≠0:=fun z=>by have:=cK.mp (z.trans (show(0:Rat)=((0:Int):Rat) from rfl));lia
  rw[Rat.mul_div_cancel Y]
  rfl
 rw[e,ZS,ZS,ZS,Rat.div_def,Rat.div_def,Rat.div_def,<- Rat.add_mul,<- ZV]
theorem Kz{x:Rat}(h:Sm x):RB 8 x:=⟨ZI h.1 (by decide),ZI h.2 (by decide)⟩
inductive Py(K:Yx)(vs:List V)(H:Hp)(Q:VK)(E_3:XK):Prop
 | mk (a:ad) (m:Int) (h1:vs=[.ref a,.int m]) (h2:Pen H a) (h3:0<=m) (h4:m<=9) (h5:∀l H' zs qs,Mv a H H'->Pen H' a->H l=none->H' l=some (.lst zs)->Am H' zs qs->qs.length=m.toNat->qs.Nodup->(∀q∈qs,Sm q)->Q (.ref l) H'):Py K vs H Q E_3
def beh(rs:List Rat):Str:=Str.ofString ";" ++ Str.join (Str.ofString "") (rs.map fun x=>Str.ofString " " ++ tx x)
inductive PF(K:Yx)(vs:List V)(H:Hp)(Q:VK)(E_3:XK):Prop
 | mk (r:ad) (xs:List V) (qs:List Rat) (h1:vs=[.ref r]) (h2:SqL K H r xs) (h3:AD K H xs qs) (h4:(∀q∈qs,Fg q)) (h5:qs.length<=100) (h6:∀H',Ac H H'->Q (.str (beh qs)) H'):PF K vs H Q E_3
def msT(rs:List Rat):Str:=if rs=[] then Str.ofString "none" else Str.join BF (rs.map fun x=>tx x++Str.ofString ";0")
inductive Mj(K:Yx)(vs:List V)(H:Hp)(Q:VK)(E_3:XK):Prop
 | mk (r:ad) (xs:List V) (qs:List Rat) (h1:vs=[.ref r]) (h2:SqL K H r xs) (h3:AD K H xs qs) (h4:(∀q∈qs,Fg q)) (h5:qs.length<=100) (h6:∀H',Ac H H'->Q (.str (msT qs)) H'):Mj K vs H Q E_3
inductive Ml(K:Yx)(vs:List V)(H:Hp)(Q:VK)(E_3:XK):Prop
 | mk (x y:V) (p q:Rat) (m n:Nat) (h1:vs=[x,y]) (h2:Az K H x p) (h3:Az K H y q) (h4:RB m p) (h5:RB n q) (h6:m+n<=100000000) (h7:Q (.bl (decide (p<q))) H):Ml K vs H Q E_3
theorem Sb(p q:Rat):decide (p.num*q.den<q.num*p.den)=decide (p<q):=by
 rw[Bool.eq_iff_iff];simp only[decide_eq_true_eq];exact(Rat.lt_iff p q).symm
inductive Mi(K:Yx)(vs:List V)(H:Hp)(Q:VK)(E_3:XK):Prop
 | mk (r:ad) (xs:List V) (pss:List (List Rat)) (h1:vs=[.ref r]) (h2:SqT K H r xs) (h3:AY K H xs pss) (h4:(∀ps∈pss,ps.length=2)) (h5:pss.length<=12) (h6:∀H',Ac H H'->Q .non H'):Mi K vs H Q E_3
inductive Hf(K:Yx)(sep:Str)(vs:List V)(H:Hp)(Q:VK)(E_3:XK):Prop
 | mk (b:Bool) (r:ad) (xs:List V) (qs:List Rat) (h1:vs=[.ref r]) (h2:Sq b K H r xs) (h3:AD K H xs qs) (h4:(∀q∈qs,Fg q)) (h5:qs.length<=100) (h6:∀H',Ac H H'->Q (.str (Str.join sep (qs.map tx))) H'):Hf K sep vs H Q E_3
inductive Hh(K:Yx)(vs:List V)(H:Hp)(Q:VK)(E_3:XK):Prop
 | mk (r:ad) (xs:List V) (pss:List (List Rat)) (h1:vs=[.ref r]) (h2:SqL K H r xs) (h3:Pts K H xs pss) (h4:P23 pss) (h5:(∀ps∈pss,∀q∈ps,Fg q)) (h6:pss.length<=100) (h7:∀H',Ac H H'->Q (.str (JJ pss)) H'):Hh K vs H Q E_3
theorem Bs(x y:Str):(x++y).length=x.length+y.length:=by rw[AK,AR,Zo,<- AK,<- AK]
theorem Ej{n:Nat}:∀{ts:List Str},(∀t∈ts,t.length<=n)->(Str.join (Str.ofString "") ts).length<=ts.length*n
 | [],_=>by rw[show(Str.join (Str.ofString "") []).length=0 by decide +kernel];exact YN _
 | [t],h=>by rw[PyProof.Rows.join_one];have:=h t (aA.mpr rfl);simp;exact this
 | t::v::r,h=>by
   have W:=Ej (ts:=v::r) fun x Y=>h x (YC _ Y);have O:=h t (YB ..);rw[PyProof.Rows.join_cons_cons,Bs,Bs,show(Str.ofString "").length=0 by decide +kernel,YY,Nat.succ_mul]
   lia
inductive FP(K:Yx)(vs:List V)(H:Hp)(Q:VK)(E_3:XK):Prop
 | mk (r c:ad) (xs:List V) (pss:List (List Rat)) (cs:List Rat) (n:Nat) (h1:vs=[.ref r,.ref c]) (h2:SqT K H r xs) (h3:AY K H xs pss) (h4:P23 pss) (h5:pss.length<=20) (h6:Crv K H c cs) (h7:cs.length<=20) (h8:(∀ps∈pss,∀q∈ps,RB n q)) (h9:(∀q∈cs,RB n q)) (h10:n<=10000) (h11:1<=n) (h12:∀(p:ad) (H':Hp) (ys:List V),Ac H H'->H p=none->H' p=some (.lst ys)->Mss K H' ys (msd cs (AA pss))->Q (.ref p) H'):FP K vs H Q E_3
def CA(pss:List (List Rat))(cs:List Rat):List Rat:=(pss.filter fun ps=>!decide (Cv.ev cs (ps.getD 0 0)=ps.getD 1 0)).map fun ps=>ps.getD 0 0
theorem ND{cs:List Rat}:∀{pss:List (List Rat)},(∀ps∈pss,ps.length=2)->msd cs (AA pss)=(CA pss cs).map fun x=>(x,0)
 | [],_=>rfl
 | ps::r,h=>by
   have ih:=ND (cs:=cs) (pss:=r) fun p W=>h p (YC _ W);have e:Bc ps=[⟨ps.getD 0 0,0,ps.getD 1 0⟩]:=by unfold Bc;rw[h ps (YB ..)];rfl
   have Y:AA (ps::r)=⟨ps.getD 0 0,0,ps.getD 1 0⟩::AA r:=by
    show(Bc ps)++_=_;rw[e];rfl
   unfold msd at ih ⊢;unfold CA at ih ⊢;have O:hk cs ⟨ps.getD 0 0,0,ps.getD 1 0⟩=Cv.ev cs (ps.getD 0 0):=by unfold hk;exact if_neg (show ¬(0:Int)=1 by decide)
   rw[Y,cX,cX,O];by_cases z:Cv.ev cs (ps.getD 0 0)=ps.getD 1 0
   ·rw[decide_eq_true z];exact ih
   ·rw[decide_eq_false z];exact congrArg ((ps.getD 0 0,0) :: ·) ih
theorem Lw{pss:List (List Rat)}{cs:List Rat}(h:∀ps∈pss,ps.length=2)(J:∀ps∈pss,∀q∈ps,Fg q):∀x∈CA pss cs,Fg x:=fun x W=>by
 obtain⟨ps,O,rfl⟩:=aX.mp W;have Y:=(Yv.mp O).1;refine J ps Y _ ?_;have:=h ps Y;rw[aw,aB (by lia)]
 exact aH _
theorem Ih{x:Rat}(h:Fg x):RB 20 x:=⟨Yr h.1 (by decide),Yr h.2 (by decide)⟩
inductive Jx(K:Yx)(vs:List V)(H:Hp)(Q:VK)(E_3:XK):Prop
 | mk (r l:ad) (xs ys:List V) (pss:List (List Rat)) (cs:List Rat) (h1:vs=[.ref r,.ref l]) (h2:Pok K H r xs pss) (h3:(∀ps∈pss,ps.length=2)) (h4:(∀ps∈pss,∀q∈ps,Fg q)) (h5:SqL K H l ys) (h6:Am H ys cs) (h7:Cv.strip cs=cs) (h8:cs.length<=16) (h9:(∀q∈cs,Fg q)) (h10:∀H',Ac H H'->Q (.str (msT (CA pss cs))) H'):Jx K vs H Q E_3
def wd9:Nat->Str
 | 0=>"height"
 | 1=>"wrong"
 | _=>"misses"
def lo9:Nat->Nat
 | 0=>2
 | 1=>2
 | _=>1
def hi9:Nat->Nat
 | 0=>2
 | 1=>2
 | _=>16
def ls9:Nat->List Int
 | 1=>[1,0]
 | _=>[]
inductive Jw(K:Yx)(vs:List V)(H:Hp)(Q:VK)(E_3:XK):Prop
 | mk (l:ad) (i:Nat) (qs:List Rat) (h1:vs=[.ref l]) (h2:SqL K H l (.str (wd9 i)::qs.map fun x=>V.str (tx x))) (h3:i<3) (h4:lo9 i<=qs.length) (h5:qs.length<=hi9 i) (h6:(∀q∈qs,Fg q)) (h7:whB qs (ls9 i)=false) (h8:∀(p:ad) (ys:List V) (H':Hp),Ac H H'->H p=none->H' p=some (.lst ys)->Am H' ys qs->Q (.ref p) H'):Jw K vs H Q E_3
def txW(c rs:List Rat):Str:=ctx c++beh rs
theorem OX:∀(pss:List (List Rat)) {c:List Rat},BC (pss.map fun ps=>ps.getD 0 0) (pss.map fun ps=>ps.getD 1 0) c=CA pss c:=by
 intro pss c;unfold BC CA
 induction pss with
 | nil=>rfl
 | cons ps r ih =>
   rw[Z2,Z2,List.zip_cons_cons,cX,cX];by_cases z:Cv.ev c (ps.getD 0 0)=ps.getD 1 0
   ·rw[decide_eq_true z,show bad c (ps.getD 0 0,ps.getD 1 0)=false by unfold bad;rw[decide_eq_true z];rfl]
    exact ih
   ·rw[decide_eq_false z,show bad c (ps.getD 0 0,ps.getD 1 0)=true by unfold bad;rw[decide_eq_false z];rfl]
    exact congrArg (ps.getD 0 0 :: ·) ih
theorem VL:∀n,n<=8->(gAS 253 n).2+3*253<=2000000:=by decide +kernel
inductive Nj(K:Yx)(Pt:ad)(vs:List V)(H:Hp)(Q:VK)(E_3:XK):Prop
 | mk (r l:ad) (xs ys:List V) (pss:List (List Rat)) (c:List Rat) (W e:Nat) (h1:vs=[.ref r,.ref l]) (h2:Pok K H r xs pss) (h3:(∀ps∈pss,ps.length=2)) (h4:(∀ps∈pss,∀q∈ps,Fg q)) (h5:pss.length<=8) (h6:SqL K H l ys) (h7:Am H ys [(W:Rat),(e:Rat)]) (h8:1<=W) (h9:W<=8) (h10:2*e+W<=pss.length) (h11:De c) (h12:c.length<=W) (h13:(∀x∈c,Fg x)) (h14:(CA pss c).length<=e) (h15:Cq Pt E1 H) (h16:∀(rs:List Rat) (H':Hp),Co Pt H H'->Cq Pt E1 H'->rs.Perm (CA pss c)->rs.Pairwise (· <= ·)->Q (.str (txW c rs)) H'):Nj K Pt vs H Q E_3
inductive Jv(K:Yx)(C Pt:ad)(vs:List V)(H:Hp)(Q:VK)(E_3:XK):Prop
 | mk (p dx r:ad) (xs:List V) (t:Str) (i:Nat) (qs:List Rat) (pss:List (List Rat)) (h1:vs=[.ref p,.str t]) (h2:Txt.split t (Str.ofString " ")=wd9 i::qs.map tx) (h3:t.length+2<=bi) (h4:H p=some (dk C dx r)) (h5:Pok K H r xs pss) (h6:lo9 i<=qs.length) (h7:qs.length<=hi9 i) (h8:(∀q∈qs,Fg q)) (h9:((i=0/\∃pss',Chg pss qs 2 (.ok pss')/\∀(r':ad) (xs':List V) (H':Hp),But p H H'->H' p=some (dk C dx r')->SqT K H' r' xs'->AY K H' xs' pss'->Q (.str (Str.ofString "ok")) H')\/(i=1/\∃(c:List Rat) (W e:Nat),qs=[(W:Rat),(e:Rat)]/\(∀ps∈pss,ps.length=2)/\(∀ps∈pss,∀q∈ps,Fg q)/\pss.length<=8/\1<=W/\W<=8/\2*e+W<=pss.length/\De c/\c.length<=W/\(∀x∈c,Fg x)/\(CA pss c).length<=e/\Cq Pt E1 H/\∀(rs:List Rat) (H':Hp),Co Pt H H'->Cq Pt E1 H'->rs.Perm (CA pss c)->rs.Pairwise (· <= ·)->Q (.str (txW c rs)) H')\/(i=2/\(∀ps∈pss,ps.length=2)/\(∀ps∈pss,∀q∈ps,Fg q)/\Cv.strip qs=qs/\∀H',Ac H H'->Q (.str (msT (CA pss qs))) H'))):Jv K C Pt vs H Q E_3
theorem Tg(W e:Nat)(h:1<=W):whB [(W:Rat),(e:Rat)] [1,0]=false:=by
 show((!((W:Rat).den == 1)||decide ((W:Rat).num<1))||((!((e:Rat).den == 1)||decide ((e:Rat).num<0))||false))=false
 rw[cZ,cY,cZ,cY,decide_eq_false (show ¬(W:Int)<1 by lia),decide_eq_false (show ¬(e:Int)<0 by lia)]
 rfl
theorem VJ{x:Rat}{Y:List Rat}{k:Nat}(h:Y.Pairwise (· <= ·))(c1:∀y∈Y.take k,y<x)(c2:∀y∈Y.drop k,x<=y):(Y.take k++x::Y.drop k).Pairwise (· <= ·):=by
 refine List.pairwise_append.mpr ⟨h.take,List.pairwise_cons.mpr ⟨c2,h.drop⟩,fun a ha b W=>?_⟩;have h1:=c1 a ha
 rcases YD.mp W with z | z
 ·rw[z];exact Rat.le_of_lt h1
 ·exact cH (Rat.le_of_lt h1) (c2 b z)
theorem Sl{x O:Rat}{Y:List Rat}{k:Nat}(h:Y.Pairwise (· <= ·))(hk:Y[k]? = some O)(J:x<=O):∀y∈Y.drop k,x<=y:=fun y hy=>by
 obtain⟨W,rfl⟩:=YG.mp hk;have hd:=h.drop (i:=k);rw[aT W]at hd hy
 rcases YD.mp hy with z | z
 ·rw[z];exact J
 ·exact cH J ((List.pairwise_cons.mp hd).1 y z)
inductive Md(K:Yx)(vs:List V)(H:Hp)(Q:VK)(E_3:XK):Prop
 | mk (l:ad) (zs:List V) (qs:List Rat) (h1:vs=[.ref l]) (h2:SqL K H l zs) (h3:AD K H zs qs) (h4:qs.length<=12) (h5:(∀q∈qs,RB 40 q)) (h6:∀p us rs H',Ac H H'->H' p=some (.lst us)->AD K H' us rs->rs.Perm qs->rs.Pairwise (· <= ·)->Q (.ref p) H'):Md K vs H Q E_3
theorem Uw{ks:List Int}{x:Rat}(W:ks.length<=3)(h1:1<=ks.length):Cv.ev (ks.map fun z:Int=>(z:Rat)) x=((ks.getD 0 0:Int):Rat)+x*(((ks.getD 1 0:Int):Rat)+x*((ks.getD 2 0:Int):Rat)):=by
 have Y:((0:Int):Rat)=0:=rfl
 match ks,W,h1 with
 | [a],_,_ =>
   show(a:Rat)+x*0=(a:Rat)+x*(((0:Int):Rat)+x*((0:Int):Rat));rw[Y];grind
 | [a,b],_,_ =>
   show(a:Rat)+x*((b:Rat)+x*0)=(a:Rat)+x*((b:Rat)+x*((0:Int):Rat));rw[Y]
 | [a,b,c],_,_ =>
   show(a:Rat)+x*((b:Rat)+x*((c:Rat)+x*0))=(a:Rat)+x*((b:Rat)+x*(c:Rat))
   grind
theorem Ux(a b c:Int)(x:Rat)(j:Nat):(a:Rat)+x*((b:Rat)+x*(c:Rat))+(j:Rat)=ZN (a*((x.den:Int)*x.den)+b*(x.num*x.den)+c*(x.num*x.num)+j*((x.den:Int)*x.den)) ((x.den:Int)*x.den):=by
 have W:((x.den:Int):Rat)≠0:=fun z=>by have:=cK.mp (z.trans (show(0:Rat)=((0:Int):Rat) from rfl));have:=x.den_pos;lia
 have Y:x=(x.num:Rat) / ((x.den:Int):Rat):=by rw[<- ZS,ZR]
 have O:(j:Rat)=((j:Int):Rat):=rfl;rw[ZS,O];simp only[ZV,ZW];generalize((x.den:Int):Rat)=D at W Y ⊢;generalize(x.num:Rat)=U at Y ⊢;generalize(a:Rat)=A;generalize(b:Rat)=B;generalize(c:Rat)=C;generalize((j:Int):Rat)=J;rw[Y]
 grind
theorem T2{ks:List Int}{x:Rat}{j:Nat}(hl:ks.length<=3)(h1:1<=ks.length)(hb:∀c∈ks,-4<=c/\c<=4)(Y:Sm x)(hj:j<=5):Fg (Cv.ev (ks.map fun z:Int=>(z:Rat)) x+(j:Rat)):=by
 have J:∀i,(ks.getD i 0).natAbs<=4:=fun i=>by
  rw[aw];cases z:ks[i]? with
  | none=>decide
  | some c=>have:=hb c (Zn z);show c.natAbs<=4;lia
 rw[Uw hl h1,Ux];have W:=x.den_pos;have d1:x.den*x.den<=3*3:=cI Y.2 Y.2;have d0:1*1<=x.den*x.den:=cI W W;have O:((x.den:Int)*x.den).natAbs=x.den*x.den:=by rw[aJ];rfl
 refine Uv (fun z=>by rw[z]at O;simp at O;lia) ?_ (by rw[O];lia)
 have t0:(ks.getD 0 0*((x.den:Int)*x.den)).natAbs<=4*9:=by rw[aJ,O];exact cI (J 0) d1
 have t1:(ks.getD 1 0*(x.num*x.den)).natAbs<=4*(40*3):=by rw[aJ,aJ];exact cI (J 1) (cI Y.1 Y.2)
 have t2:(ks.getD 2 0*(x.num*x.num)).natAbs<=4*(40*40):=by rw[aJ,aJ];exact cI (J 2) (cI Y.1 Y.1)
 have t3:((j:Int)*((x.den:Int)*x.den)).natAbs<=5*9:=by rw[aJ,O];exact cI hj d1
 lia
theorem pt0{qs:List Rat}{f:Rat->Rat}:(qs.map fun x=>[x,f x]).map (fun ps:List Rat=>ps.getD 0 0)=qs:=by
 rw[cy];exact List.map_id'' (fun _=>rfl) qs
def RL(N M:Nat):Str:=Str.ofString "wrong " ++ Str.ofString (toString ((N:Nat):Int))++Str.ofString " " ++ Str.ofString (toString ((M:Nat):Int))
theorem RK:∀N,N<4->∀M,M<3->(RL N M).length<=20/\(Str.ofString (toString ((N:Nat):Int))).length<=3/\(Str.ofString (toString ((M:Nat):Int))).length<=3:=by decide +kernel
theorem Mu:∀N,N<4->∀M,M<3->Txt.split (RL N M) (Str.ofString " ")=wd9 1::([((N:Nat):Rat),((M:Nat):Rat)]:List Rat).map tx:=by decide +kernel
theorem Hc{wr qs:List Rat}(h:wr.Sublist qs)(W:qs.Nodup):qs.filter (fun x=>decide (x∈wr))=wr:=by
 induction h with
 | slnil=>rfl
 | @cons l1 l2 a h ih =>
   have Y:=Zd.mp W;rw[cX,if_neg (by simpa using fun z=>Y.1 (h.subset z)),ih Y.2]
 | @cons_cons l1 l2 a h ih =>
   have Y:=Zd.mp W;rw[cX,if_pos (by simp)]
   congr 1
   rw[<- ih Y.2];refine List.filter_congr fun x O=>?_;rw[ih Y.2];have:x≠a:=fun z=>Y.1 (z ▸ O);simp[this]
theorem Lz{pss:List (List Rat)}{c wr:List Rat}(h:∀ps∈pss,(Cv.ev c (ps.getD 0 0)=ps.getD 1 0↔ps.getD 0 0∉wr)):CA pss c=(pss.map fun ps=>ps.getD 0 0).filter fun x=>decide (x∈wr):=by
 unfold CA;rw[List.filter_map]
 congr 1
 refine List.filter_congr fun ps Y=>?_;have:=h ps Y;show(!decide (Cv.ev c (ps.getD 0 0)=ps.getD 1 0))=decide (ps.getD 0 0∈wr);by_cases z:ps.getD 0 0∈wr
 ·rw[decide_eq_true z,decide_eq_false (fun e=>(this.mp e) z)];rfl
 ·rw[decide_eq_false z,decide_eq_true (this.mpr z)];rfl
theorem strip_last{ks:List Int}{k:Int}(h:ks[ks.length-1]? = some k)(Y:k≠0):De (ks.map fun z:Int=>(z:Rat)):=by
 refine .inr ⟨(k:Rat),?_,fun z=>Y (cK.mp (z.trans (show(0:Rat)=((0:Int):Rat) from rfl)))⟩;rw[Z4,Zl,h];rfl
theorem EJ(i:Nat)(qs:List Rat):Txt.split (Str.join BF (wd9 i::qs.map tx)) (Str.ofString " ")=wd9 i::qs.map tx:=by
 refine ED (sep:=BF) (c:=32) (w:=[]) (by decide +kernel) (by decide +kernel) (wd9 i) (qs.map tx) fun u Y=>?_
 rcases YD.mp Y with z | z
 ·rw[z]
  match i with
  | 0=>decide +kernel
  | 1=>decide +kernel
  | _+2=>exact(show 32∉sg (Str.ofString "misses") by decide +kernel)
 ·obtain⟨q,_,rfl⟩:=aX.mp z;exact Jj q (by decide)
theorem PU(qs:List Rat)(Y:1<=qs.length):Str.ofString "height " ++ Str.join BF (qs.map tx)=Str.join BF (wd9 0::qs.map tx):=by
 match qs,Y with
 | q::r,_ =>
   rw[Z2,PyProof.Rows.join_cons_cons];refine Dw ?_;rw[AR,AR,AR,show sg (wd9 0)++sg BF=sg (Str.ofString "height ") by decide +kernel]
theorem Tv(qs:List Rat)(Y:1<=qs.length):Str.ofString "misses " ++ Str.join BF (qs.map tx)=Str.join BF (wd9 2::qs.map tx):=by
 match qs,Y with
 | q::r,_ =>
   rw[Z2,PyProof.Rows.join_cons_cons];refine Dw ?_;rw[AR,AR,AR,show sg (wd9 2)++sg BF=sg (Str.ofString "misses ") by decide +kernel]
theorem HA{i:Nat}{qs:List Rat}(Y:∀q∈qs,Fg q)(O:qs.length<=3):(Str.join BF (wd9 i::qs.map tx)).length+2<=1000:=by
 have h:∀t∈wd9 i::qs.map tx,t.length<=123:=fun t W=>by
  rcases YD.mp W with z | z
  ·rw[z]
   match i with
   | 0=>decide
   | 1=>decide
   | _+2=>exact(show(Str.ofString "misses").length<=123 by decide)
  ·exact Ds Y t z
 have:=Ea (sep:=BF) (by decide) h
 rw[YY,Z4]at this;have:(qs.length+1)*(123+2)<=4*125:=cI (by lia) (YL _)
 lia
structure B9(K:Yx)(Pt p l lq cv:ad)(pz wv cxs:List V)(qs wr c:List Rat)(G:Hp):Prop where
 pn:Pen G p
 ct:Cq Pt E1 G
 cv:SqT K G cv cxs
 cn:Am G cxs c
 lp:l≠p
 el:G l=some (.lst pz)
 hz:Am G pz qs
 qp:lq≠p
 eq:G lq=some (.lst wv)
 hw:Am G wv wr
theorem B9.mv{K:Yx}{Pt p l lq O:ad}{J wv Y:List V}{qs wr c:List Rat}{G W:Hp}(h:B9 K Pt p l lq O J wv Y qs wr c G)(m:Mv p G W)(pn:Pen W p):B9 K Pt p l lq O J wv Y qs wr c W :=
 ⟨pn,Vi h.ct h.pn m,SqT.mv h.cv h.pn m,Am.mv h.cn h.pn m,h.lp,m _ _ h.lp h.el,Am.mv h.hz h.pn m,h.qp,m _ _ h.qp h.eq,Am.mv h.hw h.pn m⟩
theorem B9.same{K:Yx}{Pt p l lq W:ad}{J wv Y:List V}{qs wr c:List Rat}{G O:Hp}(h:B9 K Pt p l lq W J wv Y qs wr c G)(e:Ac G O):B9 K Pt p l lq W J wv Y qs wr c O :=
 ⟨h.pn.sm e,h.ct.same e,h.cv.same e,Am.same h.cn e,h.lp,e _ _ h.el,Am.same h.hz e,h.qp,e _ _ h.eq,Am.same h.hw e⟩
def Kps(G G':Hp):Prop:=∀b u,(∀C d fs,u≠HO.ins C d fs)->(∀ps,u≠HO.tbl ps)->G b=some u->G' b=some u
theorem NI{o C dx:ad}{fs:List (Str×V)}{G Y:Hp}(W:G o=some (.ins C dx fs))(h:But o G Y):Kps G Y:=fun b u h1 _ e=>h b u (CS e W (h1 _ _ _)) e
theorem Qx{Pt:ad}{q:Str}{G Y:Hp}(c:Cq Pt q G)(h:Co Pt G Y):Kps G Y:=fun b u _ h2 e=>h b u (fun z=>by obtain⟨ps,ep,_⟩:=c;rw[z]at e;exact h2 ps (Yo.inj (e.symm.trans ep))) e
theorem Jl{K:Yx}{G Y:Hp}(k:Kps G Y){r:ad}{xs:List V}(h:SqT K G r xs):SqT K Y r xs:=by
 rcases h with (h | ⟨o,h⟩) | h
 ·exact .inl (.inl (k _ _ (fun _ _ _ z=>by cases z) (fun _ z=>by cases z) h))
 ·exact .inl (.inr ⟨o,k _ _ (fun _ _ _ z=>by cases z) (fun _ z=>by cases z) h⟩)
 ·exact .inr h
theorem HU{G Y:Hp}(k:Kps G Y){xs:List V}{qs:List Rat}(h:Am G xs qs):Am Y xs qs:=Paired.mapP h fun _ _ z=>let ⟨r,e,h⟩:=z;⟨r,e,k _ _ (fun _ _ _ z=>by cases z) (fun _ z=>by cases z) h⟩
theorem RS{K:Yx}{G Y:Hp}(k:Kps G Y){xs:List V}{pss:List (List Rat)}(h:AY K G xs pss):AY K Y xs pss:=Paired.mapP h fun _ _ z=>by
 obtain⟨a,us,r,e,J,W,h0,O⟩:=z;exact⟨a,us,r,e,Jl k J,Paired.mapP W fun _ _ z=>let ⟨r,e,h⟩:=z;⟨r,e,Jl k h⟩,h0,k _ _ (fun _ _ _ z=>by cases z) (fun _ z=>by cases z) O⟩
theorem T3{o C dx Pt:ad}{q:Str}{fs:List (Str×V)}{G Y:Hp}(c:Cq Pt q G)(O:G o=some (.ins C dx fs))(h:But o G Y):Cq Pt q Y:=by
 obtain⟨ps,e,t,c⟩:=c;refine⟨ps,h _ _ (CS e O (by intro z;cases z)) e,t,fun pos J z=>?_⟩
 obtain⟨c',e',W⟩:=c pos J z;exact⟨c',e',h _ _ (CS W O (by intro y;cases y)) W⟩
theorem B9.kp{K:Yx}{Pt p l lq J:ad}{pz wv Y:List V}{qs wr c:List Rat}{G W:Hp}(h:B9 K Pt p l lq J pz wv Y qs wr c G)(k:Kps G W)(ct:Cq Pt E1 W):B9 K Pt p l lq J pz wv Y qs wr c W :=
 have O:∀{b:ad} {zs:List V},G b=some (.lst zs)->W b=some (.lst zs):=fun e=>k _ _ (fun _ _ _ z=>by cases z) (fun _ z=>by cases z) e
 ⟨let ⟨c0,c1,c2,z⟩:=h.pn;⟨c0,c1,c2,O z⟩,ct,Jl k h.cv,HU k h.cn,h.lp,O h.el,HU k h.hz,h.qp,O h.eq,HU k h.hw⟩
structure Dp(qs c ws:List Rat)(pss:List (List Rat)):Prop where
 h2:∀ps∈pss,ps.length=2
 hf:∀ps∈pss,∀q∈ps,Fg q
 hm:(pss.map fun ps=>ps.getD 0 0)=qs
 hi:∀ps∈pss,(Cv.ev c (ps.getD 0 0)=ps.getD 1 0↔ps.getD 0 0∉ws)
theorem Dp.len{qs c ws:List Rat}{pss:List (List Rat)}(h:Dp qs c ws pss):pss.length=qs.length:=by rw[<- h.hm,Z4]
theorem Dp.put{qs c ws ws':List Rat}{pss:List (List Rat)}{x y:Rat}(h:Dp qs c ws pss)(nd:qs.Nodup)(hx:x∈qs)(fx:Fg x)(fy:Fg y)(h1:Cv.ev c x=y↔x∉ws')(h2:∀z∈qs,z≠x->(z∈ws↔z∈ws')):∃W,Chg pss [x,y] 2 (.ok W)/\Dp qs c ws' W:=by
 rw[<- h.hm]at hx;obtain⟨ps,hp,e0⟩:=aX.mp hx;obtain⟨m,ak⟩:=bL hp;have hl:=h.h2 ps hp;refine⟨_,.height ak e0,?_⟩;have hd:[ps.getD 0 0,([x,y]:List Rat).getD 1 0]++ps.drop 2=[x,y]:=by rw[bu (by lia),e0];rfl
 rw[hd];have hq:qs[m]? = some x:=by rw[<- h.hm,Zl,ak,<- e0];rfl
 have ab:=(YG.mp hq).1
 have J:∀Y∈pss.set m [x,y],Y=[x,y]\/(Y∈pss/\Y.getD 0 0≠x):=fun Y O=>by
  obtain⟨j,hj⟩:=bL O;by_cases hjm:m=j
  ·subst hjm;rw[YH (by rw[h.len];exact ab)]at hj
   exact .inl (Yo.inj hj).symm
  ·rw[YI hjm]at hj;refine .inr ⟨Zn hj,fun z=>hjm ?_⟩;have al:qs[j]? = some x:=by rw[<- h.hm,Zl,hj,<- z];rfl
   exact(List.getElem?_inj ab nd).mp (hq.trans al.symm)
 refine⟨fun Y O=>?_,fun Y O q hq=>?_,?_,fun Y O=>?_⟩
 ·rcases J Y O with rfl | ⟨z,_⟩
  ·rfl
  ·exact h.h2 Y z
 ·rcases J Y O with rfl | ⟨z,_⟩
  ·rcases YD.mp hq with z | z
   ·rw[z];exact fx
   ·rw[aA.mp z];exact fy
  ·exact h.hf Y z q hq
 ·rw[ag,h.hm];obtain⟨ab,e⟩:=YG.mp hq;rw[show([x,y]:List Rat).getD 0 0=x from rfl,<- e];exact List.set_getElem_self _
 ·rcases J Y O with rfl | ⟨z,an⟩
  ·exact h1
  ·have ap:Y.getD 0 0∈qs:=by rw[<- h.hm];exact aX.mpr ⟨Y,z,Z⟩
   rw[h.hi Y z,h2 _ ap an]
theorem Dp.ok{K:Yx}{H:Hp}{r:ad}{xs:List V}{qs c ws:List Rat}{pss:List (List Rat)}(h:Dp qs c ws pss)(W:qs.Nodup)(h1:1<=qs.length)(Y:qs.length<=12)(O:SqT K H r xs)(hP:AY K H xs pss):Pok K H r xs pss :=
 ⟨O,hP,fun ps J=>.inl (h.h2 ps J),by rw[h.len];exact h1,by rw[h.hm];exact W,by rw[GY (n:=1) h.h2,h.len];lia⟩
def D9(K:Yx)(C dx o:ad)(qs c ws:List Rat)(G:Hp):Prop:=∃(r:ad) (xs:List V) (pss:List (List Rat)),G o=some (dk C dx r)/\Pok K G r xs pss/\Dp qs c ws pss
theorem D9.same{K:Yx}{C dx o:ad}{qs c ws:List Rat}{G Y:Hp}(h:D9 K C dx o qs c ws G)(s:Ac G Y):D9 K C dx o qs c ws Y:=let ⟨r,xs,pss,e,k,d⟩:=h;⟨r,xs,pss,s _ _ e,k.same s,d⟩
theorem D9.mv{K:Yx}{C dx o p:ad}{qs c ws:List Rat}{G Y:Hp}(h:D9 K C dx o qs c ws G)(pn:Pen G p)(m:Mv p G Y):D9 K C dx o qs c ws Y:=let ⟨r,xs,pss,e,k,d⟩:=h;⟨r,xs,pss,m _ _ (pn.ne e fun _ _ _ z=>by cases z) e,k.mv pn m,d⟩
theorem D9.b{K:Yx}{C dx o Pt:ad}{O:Str}{qs c ws:List Rat}{G W:Hp}(h:D9 K C dx o qs c ws G)(ct:Cq Pt O G)(m:Co Pt G W):D9 K C dx o qs c ws W:=by
 obtain⟨r,xs,pss,e,k,d⟩:=h;have Y:=Qx ct m;refine⟨r,xs,pss,m _ _ (fun z=>?_) e,⟨Jl Y k.S,RS Y k.P,k.h23,k.h1,k.nd,k.h12⟩,d⟩;obtain⟨ps,ep,_⟩:=ct;rw[z]at e;cases e.symm.trans ep
theorem Dp.lost{qs c ws:List Rat}{pss:List (List Rat)}(h:Dp qs c ws pss)(Y:qs.Nodup)(W:ws.Sublist qs):CA pss c=ws:=by rw[Lz h.hi,h.hm,Hc W Y]
theorem Pa{c Y:List Rat}(h:c≠[]):txW c Y=(Str.join BF (c.map tx)++Str.ofString ";")++Str.join (Str.ofString "") (Y.map fun x=>Str.ofString " " ++ tx x):=by
 unfold txW ctx beh;rw[if_neg h];exact Dw (by rw[AR,AR,AR,AR,ZE])
theorem Rp{c:List Rat}(h:c≠[]):txW c []=Str.join BF (c.map tx)++Str.ofString ";":=by
 rw[Pa h];exact Dw (by rw[AR,show sg (Str.join (Str.ofString "") (([]:List Rat).map fun x=>Str.ofString " " ++ tx x))=[] by decide +kernel,Za])
section
variable {P:ce}{w:db}{K:Yx}{mg:Str->Option am}{base:dw}
theorem fsc{N P:List Str}{sc:dJ}(h1:sc.kind = .function:=by rfl)(h2:sc.isCoroutine=false:=by rfl)(h3:sc.isGenerator=false:=by rfl)(J:N.Nodup:=by decide +kernel)(O:N.take P.length=P:=by rfl)(Y:∀x∈P,sc.names.lookup x=some .local\/sc.names.lookup x=some .cell:=by decide +kernel)(W:∀y∈sc.names,y.2 ≠ .free:=by decide +kernel):Ah N P sc:=⟨h1,h2,h3,J,O,Y,W⟩
theorem CW:Ah ["_law_script","_law_k","_law_cell"] ["_law_script","_law_k"] (Ad (top 132)):=fsc
theorem Lf{f:ad}{fd:bn}(F:Fun K "_law_pen" "_law_pen" (top 132) f fd)(VY:mg "len" = none)(hT:P.given.tree=none) :
 Ax P w K mg base CX0 33 f fd ["_law_script","_law_k"] (Px K):=by
 refine F.ok CW (fun vs H Q E h=>?_) (fun an A outer s H vs Q E hr h=>?_)
 ·obtain⟨_,_,_,rfl,_⟩:=h;rfl
 refine⟨_,(Aa (K:=K) (Ai (i:=2) CW.nd rfl (Or.inl rfl) (Af AV (Af Aw Ab (pv 1)) Ab))
  (Aa (K:=K) (Ay (K:=K) (Ao Ez (pv 1) (Ak (BD K) rfl VY AE (A0 (pv 0) A8)) (Ar _)) (Ae (Ai (i:=2) CW.nd rfl (Or.inl rfl) (Ag (ixL K) (pv 0) (pv 1) (fun u v=>rfl)))) (Ae (Ay (K:=K) (Ao Dk (Ak (BD K) rfl VY AE (A0 (pv 0) A8)) Ab (Ar _)) (Ae (Ai (i:=2) CW.nd rfl (Or.inl rfl) (Af AV (Ag (ixL K) (pv 0) (Af CD (pv 1) (Ak (BD K) rfl VY AE (A0 (pv 0) A8))) (fun u v=>rfl)) (Af Aw Ab (pv 1))))) Au (by rfl) (by rfl))) (by rfl) (by rfl))
  (Aa (K:=K) (Ay (K:=K) (Ao SQ (pv 2) (Af Qe Ab Ab) (Ar _)) (Ae (Al (Bu (A0 (Af Bj (pv 2) (Af Qe Ab Ab)) (A0 (Af CD (pv 2) Ab) (A0 Ab A8)))))) Au (by rfl) (by rfl))
  (Ae (Al (Bu (A0 Ab (A0 (Af AV (Af CD (pv 2) Ab) (Af Aw Ab (pv 1))) (A0 Ab A8)))))) (by rfl)) (by rfl)) (by rfl)),?_⟩
 obtain⟨a,W,k,rfl,hS,ap,h0,al,q⟩:=h;have hl:(W.map V.int).length=W.length:=Z4 _;have J:3<=bi:=by decide
 have O:UJ 10 18:=by unfold UJ;decide
 refine⟨_,Z,_,_,Z,Z,.inl ⟨by decide,by decide⟩,_,_,Z,Z,?_⟩
 refine⟨_,Z,_,Z,a,_,Z,.inl hS,_,_,Z,Z,_,Z,?_⟩;rw[hl];have ak:k<(W.length:Int)->∃v:Int,atI (W.map V.int) k=some (.int v):=fun c=>O1 h0 c;have ab:0<(W.length:Int)->∃v:Int,atI (W.map V.int) (k % (W.length:Int))=some (.int v):=fun c=>O1 (bA _ (by lia)) (bC _ c)
 refine MU (fun c=>?_) (fun c=>?_)
 ·obtain⟨v,hv⟩:=(ak (of_decide_eq_true c));refine⟨_,Z,_,Z,a,_,_,_,Z,Z,hS,hv,?_⟩;refine⟨_,Z,_,_,Z,Z,O,_,_,Z,Z,_,Z,?_⟩;refine MU (fun c=>?_) (fun c=>?_)
  ·exact⟨_,Z,_,_,Z,Z,O,_,_,Z,Z,_,Z,_,_,Z,Z,(by first | decide | (dsimp only;decide)),J,fun p Y=>q p _ _ Y⟩
  ·exact⟨_,Z,_,_,Z,Z,(by first | decide | (dsimp only;decide)),_,rfl,_,_,rfl,rfl,.inl ⟨by decide,by decide⟩,_,_,rfl,rfl,J,fun p Y=>q p _ _ Y⟩
 ·refine⟨_,Z,a,_,Z,.inl hS,_,_,Z,Z,_,Z,?_⟩;rw[hl];refine MU (fun c=>?_) (fun c=>?_)
  ·obtain⟨v,hv⟩:=(ab (of_decide_eq_true c));have c':0<(((W.map V.int).length:Nat):Int):=by rw[hl];exact of_decide_eq_true c
   rw[<- hl]at hv;refine⟨_,Z,_,Z,_,Z,a,_,Z,.inl hS,_,_,Z,Z,c',a,_,_,_,Z,Z,hS,hv,_,Z,_,_,Z,Z,.inl ⟨by decide,by decide⟩,_,_,Z,Z,?_⟩
   refine⟨_,Z,_,_,Z,Z,O,_,_,Z,Z,_,Z,?_⟩;refine MU (fun c=>?_) (fun c=>?_)
   ·exact⟨_,Z,_,_,Z,Z,O,_,_,Z,Z,_,Z,_,_,Z,Z,(by first | decide | (dsimp only;decide)),J,fun p Y=>q p _ _ Y⟩
   ·exact⟨_,Z,_,_,Z,Z,(by first | decide | (dsimp only;decide)),_,rfl,_,_,rfl,rfl,.inl ⟨by decide,by decide⟩,_,_,rfl,rfl,J,fun p Y=>q p _ _ Y⟩
  ·refine⟨_,Z,_,_,Z,Z,O,_,_,Z,Z,_,Z,?_⟩;refine MU (fun c=>?_) (fun c=>?_)
   ·exact⟨_,Z,_,_,Z,Z,O,_,_,Z,Z,_,Z,_,_,Z,Z,(by first | decide | (dsimp only;decide)),J,fun p Y=>q p _ _ Y⟩
   ·exact⟨_,Z,_,_,Z,Z,(by first | decide | (dsimp only;decide)),_,rfl,_,_,rfl,rfl,.inl ⟨by decide,by decide⟩,_,_,rfl,rfl,J,fun p Y=>q p _ _ Y⟩
theorem CK:Ah ["_law_pen_here","_law_many","_law_drawn","_law_number"] ["_law_pen_here","_law_many"] (Ad (top 133)):=fsc
theorem K1{f:ad}{fd:bn}(F:Fun K "_law_draw" "_law_draw" (top 133) f fd)(hT:P.given.tree=none) :
 Ax P w K mg base CX0 33 f fd ["_law_pen_here","_law_many"] (Jy):=by
 refine F.ok CK (fun vs H Q E h=>?_) (fun ab A outer s H vs Q E hr h=>?_)
 ·obtain⟨_,_,rfl,_⟩:=h;rfl
 refine⟨_,(Aa (K:=K) (JK (Af AV (Ag (ixL K) (pv 0) Ab (fun u v=>rfl)) Ab) (JL (pv 0) Ab Ff))
  (Aa (K:=K) (Ay (K:=K) (Ao Dk (Ag (ixL K) (pv 0) Ab (fun u v=>rfl)) Ab (Ar _)) (Aa (K:=K) (Ai (i:=2) CK.nd rfl (Or.inl rfl) (Af CD (Ag (ixL K) (pv 0) Ab (fun u v=>rfl)) (pv 1)))
  (Aa (K:=K) (JK (Af (BY hr hT) (Ag (ixL K) (pv 0) Ab (fun u v=>rfl)) (pv 1)) (JL (pv 0) Ab Ff))
  (Ae (Al (pv 2))) (by rfl)) (by rfl)) Au (by rfl) (by rfl))
  (Aa (K:=K) (Ai (i:=3) CK.nd rfl (Or.inl rfl) (Af CD (Af Aw (Af AV (Af AV (Ag (ixL K) (pv 0) Ab (fun u v=>rfl)) (Af Aw Ab (Ag (ixL K) (pv 0) Ab (fun u v=>rfl)))) Ab) Ab) Ab))
  (Aa (K:=K) (Ai (i:=3) CK.nd rfl (Or.inl rfl) (Af CD (Af Aw (pv 3) (Af AV (Af AV (Af CD (pv 3) Ab) (Ag (ixL K) (pv 0) Ab (fun u v=>rfl))) Ab)) Ab))
  (Ae (Al (Af CD (Af (BY hr hT) (Af CD (Af Aw (pv 3) (Af AV (Af CD (pv 3) Ab) Ab)) Ab) Ab) (pv 1)))) (by rfl)) (by rfl)) (by rfl)) (by rfl)),?_⟩
 obtain⟨a,m,rfl,⟨c0,c1,c2,hp⟩,h1,h2,q0⟩:=h;have q:∀d W Y:Int,0<=d->d<m->Q (.int d) (upd H a (.lst [.int W,.int c1,.int Y])):=fun d _ _ J O=>q0 d _ J O .put .put;have hm:m≠0:=by lia
 have q':∀(o:HO) (d W Y:Int),0<=d->d<m->Q (.int d) (upd (upd H a o) a (.lst [.int W,.int c1,.int Y])):=fun o d W Y J O=>by rw[Ro];exact q d W Y J O
 refine⟨_,Z,a,_,_,_,Z,Z,SqL.of hp,Z,_,_,Z,Z,_,Z,a,_,_,_,Z,Z,hp,Z,?_⟩;refine⟨_,Z,a,_,_,_,Z,Z,SqL.of A9,Z,_,_,Z,Z,_,Z,?_⟩;refine MU (fun c=>?_) (fun c=>?_)
 ·refine⟨_,Z,a,_,_,_,Z,Z,SqL.of A9,Z,_,Z,_,_,Z,Z,(by lia:0<m),?_⟩
  refine⟨_,Z,a,_,_,_,Z,Z,SqL.of A9,Z,_,Z,_,_,Z,Z,hm,_,Z,a,_,_,_,Z,Z,A9,Z,?_⟩;refine⟨_,Z,?_⟩;exact q' _ _ _ _ (bA _ (by lia)) (bC _ (by lia))
 ·have cl:∀z:Int,0<z->(0:Int)<z:=fun _ h=>h;refine⟨_,Z,a,_,_,_,Z,Z,SqL.of A9,Z,_,Z,a,_,_,_,Z,Z,SqL.of A9,Z,_,_,Z,Z,.inl ⟨by decide,by decide⟩,_,_,Z,Z,_,_,Z,Z,_,_,Z,Z,.inr (.inl ⟨by decide,by decide⟩),_,_,Z,Z,(by first | decide | (dsimp only;decide)),?_⟩
  have n1:=bA ((c1+40503*(c2+1)+1)*48271) (show(2147483647:Int)≠0 by decide)
  have n2:=bC ((c1+40503*(c2+1)+1)*48271) (show(0:Int)<2147483647 by decide)
  generalize hN:(c1+40503*(c2+1)+1)*48271 % 2147483647=N at n1 n2;refine⟨_,Z,_,Z,_,_,Z,Z,(by first | decide | (dsimp only;decide)),_,Z,a,_,_,_,Z,Z,SqL.of A9,Z,_,_,Z,Z,_,_,Z,Z,_,_,Z,Z,.inl ?_,_,_,Z,Z,(by first | decide | (dsimp only;decide)),?_⟩
  ·(try rw[hN]);lia
  try rw[hN]
  have n3:=bA (N*(N % 65521+(c2+1)+3)) (show(2147483629:Int)≠0 by decide)
  have n4:=bC (N*(N % 65521+(c2+1)+3)) (show(0:Int)<2147483629 by decide)
  generalize N*(N % 65521+(c2+1)+3) % 2147483629=M at n3 n4;refine⟨_,Z,_,Z,_,_,Z,Z,(by first | decide | (dsimp only;decide)),_,_,Z,Z,_,_,Z,Z,.inl ⟨by lia,by lia⟩,_,_,Z,Z,(by first | decide | (dsimp only;decide)),_,_,Z,Z,(by first | decide | (dsimp only;decide)),_,Z,_,_,Z,Z,(by lia:0<m),?_⟩
  exact q _ _ _ (bA _ (by lia)) (bC _ (by lia))
theorem BX:Ah ["_law_top","_law_bottom","_law_one","_law_other"] ["_law_top","_law_bottom"] (Ad (top 134)):=fsc
theorem HS{f:ad}{fd:bn}(F:Fun K "_law_lowest" "_law_lowest" (top 134) f fd)(W8:mg "abs" = none)(hT:P.given.tree=none) :
 Ax P w K mg base CX0 33 f fd ["_law_top","_law_bottom"] (DT):=by
 refine F.ok BX (fun vs H Q E h=>?_) (fun as A outer s H vs Q E hr h=>?_)
 ·obtain⟨_,_,rfl,_⟩:=h;rfl
 refine⟨_,(Aa (K:=K) (Ai (i:=2) BX.nd rfl (Or.inl rfl) (Ak FH rfl W8 Kh (A0 (pv 0) A8)))
  (Aa (K:=K) (Ai (i:=3) BX.nd rfl (Or.inl rfl) (Ak FH rfl W8 Kh (A0 (pv 1) A8)))
  (Aa (K:=K) (E3 PassesOwn.never (Ao Dk (pv 3) Ab (Ar _)) (Ae (TH (i:=2) (j:=3) rfl BX.nd rfl rfl (by decide) rfl rfl (A0 (pv 3) (A0 (Af CD (pv 2) (pv 3)) A8)) (by with_unfolding_all rfl))))
  (Aa (K:=K) (Ay (K:=K) (Ao Ez (pv 1) Ab (Ar _)) (Ae (Ai (i:=2) BX.nd rfl (Or.inl rfl) (Af Bj Ab (pv 2)))) Au (by rfl) (by rfl))
  (Ae (Al (AO (A0 (Af (BY hr hT) (pv 0) (pv 2)) (A0 (Af (BY hr hT) (pv 1) (pv 2)) A8))))) (by rfl)) (by rfl)) (by rfl)) (by rfl)),?_⟩
 obtain⟨a,b,rfl,hb,q⟩:=h;refine⟨_,Z,a,Z,?_⟩;refine⟨_,Z,b,Z,?_⟩
 refine Kr (L3 H a b fun H a b σ H'=>H'=H/\∃(x y:Int),σ=[some (.int a),some (.int b),some (.int x),some (.int y)]/\0<=x/\0<=y/\ZL x y=ZL a b) (fun σ _=>mu 3 σ)
  ⟨Z,_,_,Z,?_,?_,?_⟩ ?_ ?_
 ·rw[Nm.abs_if];exact de _
 ·rw[Nm.abs_if];exact de _
 ·rw[Nm.abs_if,Nm.abs_if];rfl
 ·rintro σ H' ab;refine BJ ab fun ap al=>?_;refine Cj al fun x y W=>?_;clear al;refine Ep W fun an hx hy hg=>?_;clear W;obtain rfl:=ap;obtain rfl:=an
  try clear ab
  refine⟨_,Z,_,_,Z,Z,_,Z,?_⟩;by_cases hy0:y=0
  ·subst hy0;refine BP ?_;have e:(ZL a b:Int)=x:=by rw[<- hg,Int.gcd_zero];lia
   subst e;refine⟨_,Z,_,_,Z,Z,_,Z,?_⟩;have hd:Nm.msr a b≠0:=Nm.msr_ne hb
   have Y:∀p,H' p=none->Q (.ref p) (upd H' p (.tup [.int (a.fdiv (Nm.msr a b)),.int (b.fdiv (Nm.msr a b))])):=fun p hp=>by
    rw[Nm.top_msr hb,Nm.bottom_msr hb];exact q p hp
   by_cases hb0:b<0
   ·have O:Nm.msr a b=0-(ZL a b:Int):=by unfold Nm.msr;rw[if_pos hb0];lia
    rw[O]at hd Y;refine Bi (by rw[decide_eq_true hb0]<;>rfl) ⟨_,Z,_,_,Z,Z,?_⟩
    exact⟨_,Z,_,Z,_,_,Z,Z,hd,_,Z,_,Z,_,_,Z,Z,hd,(by decide:2<=bi),Y⟩
   ·have O:Nm.msr a b=(ZL a b:Int):=by unfold Nm.msr;rw[if_neg hb0]
    rw[O]at hd Y;refine AM (by rw[decide_eq_false hb0]<;>rfl) ?_
    exact⟨_,Z,_,Z,_,_,Z,Z,hd,_,Z,_,Z,_,_,Z,Z,hd,(by decide:2<=bi),Y⟩
  ·have J:0<y:=by lia
   refine Bi (by rw[decide_eq_true J]<;>rfl) ?_
   refine⟨_,Z,_,Z,_,Z,_,_,Z,Z,J,_,_,Z,⟨Z,y,x % y,Z,hy,bA _ hy0,?_⟩,?_⟩
   ·rw[Nm.gcd_turn];exact hg
   ·show(x % y).toNat<y.toNat;have:=bC x J
    lia
 ·rintro σ H' Q1 Q2 hm ak;obtain⟨v,e,i,j,e1,e2,k,ek,q1⟩:=ak
  try clear ak
  exact⟨v,e,i,j,e1,e2,k,ek,hm _ _ q1⟩
theorem JF:Ah ["_law_a","_law_b"] ["_law_a","_law_b"] (Ad (top 135)):=fsc
theorem JZ{f:ad}{fd:bn}(F:Fun K "_law_plus" "_law_plus" (top 135) f fd)(Wd:Fd P w K mg base 33 "_law_lowest" ["_law_top","_law_bottom"] (DT))(hT:P.given.tree=none) :
 Ax P w K mg base CX0 34 f fd ["_law_a","_law_b"] (DU K (· + ·)):=by
 refine F.ok JF (fun vs H Q E h=>?_) (fun ak A outer s H vs Q E Y h=>?_)
 ·obtain⟨_,_,_,_,_,_,rfl,_⟩:=h;rfl
 refine⟨_,(Ae (Al (Aj Wd Y rfl (A0 (Af AV (Af Aw (Ag (ixT K) (pv 0) Ab (fun u v=>rfl)) (Ag (ixT K) (pv 1) Ab (fun u v=>rfl))) (Af Aw (Ag (ixT K) (pv 1) Ab (fun u v=>rfl)) (Ag (ixT K) (pv 0) Ab (fun u v=>rfl)))) (A0 (Af Aw (Ag (ixT K) (pv 0) Ab (fun u v=>rfl)) (Ag (ixT K) (pv 1) Ab (fun u v=>rfl))) A8))))),?_⟩;obtain⟨x,y,p,q,m,n,rfl,⟨r,rfl,Y⟩,⟨u,rfl,W⟩,J,O,ab,k⟩:=h;refine⟨_,Z,r,_,_,_,Z,Z,Y,Z,_,Z,u,_,_,_,Z,Z,W,Z,_,_,Z,Z,BL.bd J.1 O.2,_,Z,u,_,_,_,Z,Z,W,Z,_,Z,r,_,_,_,Z,Z,Y,Z,_,_,Z,Z,BL.bd O.1 J.2,_,_,Z,Z,?_⟩;refine⟨_,Z,r,_,_,_,Z,Z,Y,Z,_,Z,u,_,_,_,Z,Z,W,Z,_,_,Z,Z,BL.bd J.2 O.2,?_⟩;refine⟨_,_,Z,ZU (Nm.den_ne p) (Nm.den_ne q),fun z hz=>?_⟩;have e:=k z hz
 try dsimp only at e
 rw[<- Nm.plus_eq]at e;exact e
theorem Cy:Ah ["_law_pen_here","_law_many","_law_found","_law_k","_law_x"] ["_law_pen_here","_law_many"] (Ad (top 142)):=fsc
theorem Lh{f:ad}{fd:bn}(F:Fun K "_law_few" "_law_few" (top 142) f fd)(Wd:Fd P w K mg base 33 "_law_lowest" ["_law_top","_law_bottom"] (DT))(We:Fd P w K mg base 34 "_law_plus" ["_law_a","_law_b"] (DU K (· + ·)))(W5:Fd P w K mg base 33 "_law_draw" ["_law_pen_here","_law_many"] (Jy))(VZ:mg "range" = none)(hT:P.given.tree=none) :
 Ax P w K mg base CX0 35 f fd ["_law_pen_here","_law_many"] (Py K):=by
 refine F.ok Cy (fun vs H Q E h=>?_) (fun bx A outer s H vs Q E O h=>?_)
 ·obtain⟨_,_,rfl,_⟩:=h;rfl
 refine⟨_,(Aa (K:=K) (Ai (i:=2) Cy.nd rfl (Or.inl rfl) (Bu A8))
  (Aa (K:=K) (B0 (K:=K) PassesOwn.never rfl (Cf rfl VZ (A0 (pv 1) A8)) (Ap (i:=3) Cy.nd rfl (Or.inl rfl)) (Aa (K:=K) (Ai (i:=4) Cy.nd rfl (Or.inl rfl) (Aj Wd O rfl (A0 (Af Bj (Aj W5 O rfl (A0 (pv 0) (A0 Ab A8))) Ab) (A0 (Af AV Ab (Aj W5 O rfl (A0 (pv 0) (A0 Ab A8)))) A8))))
  (Aa (K:=K) (E3 PassesOwn.never (Ao (inD K O) (pv 4) (pv 2) (by with_unfolding_all rfl)) (Ae (Ai (i:=4) Cy.nd rfl (Or.inl rfl) (Aj We O rfl (A0 (pv 4) (A0 (AO (A0 Ab (A0 Ab A8))) A8))))))
  (Ae (Ca (BA K PySem.F.plainAttrs_list PySem.F.slot_list_append PySem.F.type_list_append Dm (pv 2) (A0 (pv 4) A8)))) (by rfl)) (by rfl)) (by rfl))
  (Ae (Al (pv 2))) (by rfl)) (by rfl)),?_⟩
 obtain⟨a,m,rfl,pn,h0,bq,q⟩:=h;have P0:0<=bi:=by decide
 have P2:2<=bi:=by decide
 refine⟨P0,fun l hl=>?_⟩;have la:l≠a:=pn.ne' hl;obtain⟨M,hM⟩:∃M:Nat,(M:Int)=m:=⟨m.toNat,by lia⟩
 subst hM;refine⟨_,Z,(M:Int),Z,by lia,by lia,?_⟩
 rw[Zt];refine CO (n:=M) (L4 a H M l fun a H M l i σ H'=>Mv a H H'/\Pen H' a/\∃zs qs z3 z4,σ=[some (.ref a),some (.int (M:Int)),some (.ref l),z3,z4]/\H' l=some (.lst zs)/\Am H' zs qs/\qs.length=i/\qs.Nodup/\∀q∈qs,Sm q) ⟨Mv.new hl,pn.same hl,[],[],none,none,Z,A9,.nil,Z,List.nodup_nil,(fun _ h=>nomatch h)⟩ ?_ ?_
 ·rintro i σ H' hi aP;refine Cm aP fun mv J a0=>?_;refine MY a0 fun zs qs z3 z4 al=>?_;clear a0;refine R9 al fun bp el hz as an hb=>?_;clear al;obtain rfl:=bp
  try clear aP
  refine⟨_,Z,a,25,Z,J,by decide,by decide,fun d Ha d0 d1 oa pa=>⟨_,_,Z,Z,_,Z,a,3,Z,pa,by decide,by decide,fun e Hb e0 e1 ob pb=>⟨_,_,Z,Z,_,_,Z,by lia,fun r aC=>?_⟩⟩⟩
  obtain⟨x0,be⟩:∃x0,x0=ZN (d-12) (1+e):=⟨_,Z⟩;have m3:Mv a H' (upd Hb r (nT (ZN (d-12) (1+e)))):=oa.mv.trans (ob.mv.trans (Mv.new aC));have p3:=pb.same (o:=nT (ZN (d-12) (1+e))) aC;have O:=A9 (H:=Hb) (a:=r) (o:=nT (ZN (d-12) (1+e)));rw[<- be]at m3 p3 O ⊢;generalize upd Hb r (nT x0)=H3 at m3 p3 O ⊢;have bg:=m3 _ _ la el;have bf:=Am.mv hz J m3;have bt:=hz.length
  refine⟨fun μ σ H4=>Ac H3 H4/\∃(r:ad) (x:Rat) (j:Nat),σ=[some (.ref a),some (.int (M:Int)),some (.ref l),some (.int (0+(i:Int))),some (.ref r)]/\H4 r=some (nT x)/\x=x0+(j:Rat)/\μ=cnt x qs/\j+cnt x qs<=qs.length,
   ⟨_,Ac.refl _,r,x0,0,Z,O,(by have z:((0:Nat):Rat)=0:=rfl;rw[z];grind),Z,by have:=N6 x0 qs;lia⟩,?_⟩
  rintro μ σ H4 bb;refine BJ bb fun s4 ba=>?_;refine Dd ba fun r' x j ab=>?_;clear ba;refine DQ ab fun bm ap hx bl hj=>?_;clear ab;obtain rfl:=bm;obtain rfl:=bl
  try clear bb
  have aF:Sm x:=by
   have:=N6 x qs;rw[hx,be,OO (by lia)]
   refine Tr (by lia) (by lia) ?_
   have h1:0<=(j:Int)*(1+e):=Int.mul_nonneg (by lia) (by lia)
   have h2:(j:Int)*(1+e)<=(j:Int)*3:=Int.mul_le_mul_of_nonneg_left (by lia) (by lia)
   lia
  have bh:=Kz aF;refine⟨_,Z,_,Z,?_⟩;refine inN (Az.of ap) (SqL.of (s4 _ _ bg)) (Am.same bf s4).nums ?_;refine⟨_,Z,?_⟩;by_cases hin:x∈qs
  ·refine Bi (by rw[decide_eq_true hin]<;>rfl) ⟨_,fun _ _ h=>h,?_⟩
   refine⟨_,Z,P2,fun t ht=>⟨_,_,_,_,8,1,Z,Az.of ((Ac.new ht) _ _ ap),Az.of (A9 (o:=nT 1)),bh,RB.one (by decide),by lia,fun u hu=>?_⟩⟩
   refine⟨_,N5 hin,(s4.trans (Ac.new ht)).trans (Ac.new hu),u,x+1,j+1,Z,A9,?_,Z,by have:=N5 hin;lia⟩
   rw[hx,Rat.natCast_add];have z:((1:Nat):Rat)=1:=rfl;rw[z];grind
  ·refine AM (by rw[decide_eq_false hin]<;>rfl) ?_
   have W:=s4 _ _ bg;refine⟨_,Z,.inl ⟨Z,_,SqL.of W⟩,_,Z,l,zs,.ref r',Z,Z,W,Yr (show zs.length<300 by lia) (by decide),?_⟩
   refine⟨Mv.put' ((mv.trans m3).trans s4.mv) hl,(p3.sm s4).put' la,zs++[.ref r'],qs++[x],_,_,Z,A9,Paired.snoc (Am.put (Am.same bf s4) W) (DO.put ⟨_,Z,ap⟩ W),by simp[as],?_,fun c hc=>?_⟩
   ·rw[List.nodup_append];exact⟨an,by simp,fun b hb c hc=>by rw[aA.mp hc];exact fun z=>hin (z ▸ hb)⟩
   ·rcases YE.mp hc with z | z
    ·exact hb c z
    ·rw[aA.mp z];exact aF
 ·rintro σ H' bd;refine Cm bd fun mv J ak=>?_;refine MY ak fun zs qs z3 z4 Y=>?_;clear ak;refine R9 Y fun bc el hz as an hb=>?_;clear Y;obtain rfl:=bc
  try clear bd
  exact⟨_,Z,q l H' zs qs mv J hl el hz (by rw[as];lia) an hb⟩
theorem JE:Ah ["_law_number"] ["_law_number"] (Ad (top 138)):=fsc
theorem JY{f:ad}{fd:bn}(F:Fun K "_law_text" "_law_text" (top 138) f fd)(J:mg "str" = none)(hT:P.given.tree=none) :
 Ax P w K mg base CX0 33 f fd ["_law_number"] (D7 K):=by
 refine F.ok JE (fun vs H Q E h=>?_) (fun ab A outer s H vs Q E hr h=>?_)
 ·obtain⟨_,_,rfl,_⟩:=h;rfl
 refine⟨_,(Aa (K:=K) (Ay (K:=K) (Ao Cr (Ag (ixT K) (pv 0) Ab (fun u v=>rfl)) Ab (Ar _)) (Ae (Al (AQ Bg rfl J CU (A0 (Ag (ixT K) (pv 0) Ab (fun u v=>rfl)) A8)))) Au (by rfl) (by rfl))
  (Ae (Al (Af AH (Af AH (AQ Bg rfl J CU (A0 (Ag (ixT K) (pv 0) Ab (fun u v=>rfl)) A8)) AI) (AQ Bg rfl J CU (A0 (Ag (ixT K) (pv 0) Ab (fun u v=>rfl)) A8))))) (by rfl)),?_⟩
 obtain⟨x,q,rfl,⟨r,rfl,Y⟩,W,O⟩:=h;have hd:=W.2;have hs:=dv;have l1:=EM W.1;have l2:=EM (i:=(q.den:Int)) (by lia)
 refine⟨_,Z,r,_,_,_,Z,Z,Y,Z,Z,_,Z,?_⟩;by_cases h1:q.den=1
 ·have e:tx q=txI q.num:=if_pos h1;rw[e]at O;exact Bi (by rw[decide_eq_true (show V.int (q.den:Int)=V.int 1 by rw[h1];rfl)]<;>rfl) ⟨_,Z,r,_,_,_,Z,Z,Y,Z,_,Z,Gd W.1,O⟩
 ·have e:tx q=txI q.num++Str.ofString "/" ++ txI q.den:=if_neg h1;rw[e]at O;rw[decide_eq_false (fun z=>h1 (by have:=V.int.inj z;lia))]
  have l3:(Str.ofString "/").length=1:=by rw[AK,CQ];rfl
  have l4:(txI q.num++Str.ofString "/").length=(txI q.num).length+1:=by rw[AK,AR,Zo,<- AK,<- AK,l3]
  refine BP ⟨_,Z,r,_,_,_,Z,Z,Y,Z,_,Z,Gd W.1,_,_,Z,Z,?_,_,Z,r,_,_,_,Z,Z,Y,Z,_,Z,Gd (by lia),_,_,Z,Z,?_,O⟩
  ·show(txI q.num).length+(Str.ofString "/").length<=bi
   lia
  ·show(txI q.num++Str.ofString "/").length+(txI q.den).length<=bi
   lia
theorem El:Ah ["_law_points"] ["_law_points"] (Ad (top 140)):=fsc
theorem En{f:ad}{fd:bn}(F:Fun K "_law_points_text" "_law_points_text" (top 140) f fd)(Wa:Fd P w K mg base 33 "_law_text" ["_law_number"] (D7 K))(hT:P.given.tree=none) :
 Ax P w K mg base CX0 34 f fd ["_law_points"] (Hh K):=by
 refine F.ok El (fun vs H Q E h=>?_) (fun aC A outer s H vs Q E hr h=>?_)
 ·obtain⟨_,_,_,rfl,_⟩:=h;rfl
 refine⟨_,(Ae (Al (BA K PySem.F.plainAttrs_str PySem.F.slot_str_join PySem.F.type_str_join (D0 K) AI (A0 (Bp rfl (N:=["_law_point"]) (nt:=1) (js:=[]) (AG.look (NX:=["_law_points"]) (sc:=Ad (top 140)) rfl rfl (by decide +kernel)) (piL K (pv 0)) (fun u1 u2 W O u5=>(Ap (i:=0) (show List.Nodup (["_law_point"]:List Str) from by decide +kernel) rfl (Or.inl rfl))) (Av (by decide)) (fun u1 u2 W O u5=>AN) (fun u1 u2 W O u5=>(BA K PySem.F.plainAttrs_str PySem.F.slot_str_join PySem.F.type_str_join (D0 K) AI (A0 (Bp rfl (N:=["_law_number"]) (nt:=1) (js:=[]) (AG.lookN (NX:=["_law_point"]) (sc:=Ad (top 140)) rfl (by decide +kernel)) (piT K (pv 0)) (fun u1 u2 W O u5=>(Ap (i:=0) (show List.Nodup (["_law_number"]:List Str) from by decide +kernel) rfl (Or.inl rfl))) (Av (by decide)) (fun u1 u2 W O u5=>AN) (fun u1 u2 W O u5=>(Aj Wa hr rfl (A0 (pv 0) A8)))) A8)))) A8)))),?_⟩
 obtain⟨r,xs,pss,rfl,hS,hn,ak,hf,ab,q⟩:=h;have hs:=dv;have hl:=hn.length;refine⟨Z,?_⟩;refine Bh ⟨_,Z,r,Z,⟨_,hS⟩,Dc (xs:=xs) (fun i zs H'=>Ac H H'/\zs=((pss.take i).map ptx).map V.str) ⟨Ac.refl _,Z⟩ (fun i zs H' hi p=>⟨Ac.seq p.1 hS,by rw[p.2,Z4,Z4,Zh];lia⟩) (by lia) ?_ ?_⟩
 ·rintro i x zs H' hx ⟨sm,rfl⟩;obtain⟨ps,Y,ap⟩:=(Paired.get hn hx);have hm:=Zn Y;have h3:ps.length<=3:=by rcases ak ps hm with z | z<;>lia
  obtain⟨a,rfl,us,J,al⟩:=(ap.same sm);have as:=al.length;refine⟨Z,?_⟩;refine Bh ⟨_,Z,a,Z,⟨_,J⟩,EN (xs:=us) (fun i zs H2=>H2=H'/\zs=((ps.take i).map tx).map V.str) ⟨Z,Z⟩ (fun i zs H2 hi p=>⟨by rw[p.1];exact J,by rw[p.2,Z4,Z4,Zh];lia⟩) (by lia) ?_ ?_⟩
  ·rintro j y ys H2 hy ⟨rfl,rfl⟩;obtain⟨c,hc,an⟩:=(Paired.get al hy);refine⟨_,Z,y,c,Z,an,hf ps hm c (Zn hc),Z,?_⟩;rw[ai,hc,aj,aj];rfl
  rintro ys H2 ⟨rfl,rfl⟩ p hp;rw[as,cV];refine⟨_,p,ps.map tx,Z,Z,SqL.of A9,Cg (by show GC.length<=2;rw[Gj];decide) (fun t ht=>Yy (Ds (hf ps hm) t ht) (by decide)) (by rw[Z4];lia),sm.trans (Ac.new hp),?_⟩
  rw[ai,Y,aj,aj];rfl
 rintro zs H' ⟨sm,rfl⟩ p hp;rw[hl,cV];exact⟨_,p,pss.map ptx,Z,Z,SqL.of A9,Cg (by show GB.length<=2;rw[Gi];decide) (fun t ht=>Yy (KN hf ak t ht) (by decide)) (by rw[Z4];exact ab),q _ (sm.trans (Ac.new hp))⟩
theorem Hz:Ah ["_law_places"] ["_law_places"] (Ad (top 144)):=fsc
theorem HR{f:ad}{fd:bn}(F:Fun K "_law_misses" "_law_misses" (top 144) f fd)(Wa:Fd P w K mg base 33 "_law_text" ["_law_number"] (D7 K))(hT:P.given.tree=none) :
 Ax P w K mg base CX0 34 f fd ["_law_places"] (Mj K):=by
 refine F.ok Hz (fun vs H Q E h=>?_) (fun al A outer s H vs Q E hr h=>?_)
 ·obtain⟨_,_,_,rfl,_⟩:=h;rfl
 refine⟨_,(Aa (K:=K) (Ay (K:=K) (Ao (eqD K hr.units) (pv 0) (Bu A8) (Ar _)) (Ae (Al AI)) Au (by rfl) (by rfl))
  (Ae (Al (BA K PySem.F.plainAttrs_str PySem.F.slot_str_join PySem.F.type_str_join (D0 K) AI (A0 (Bp rfl (N:=["_law_x"]) (nt:=1) (js:=[]) (AG.look (NX:=["_law_places"]) (sc:=Ad (top 144)) rfl rfl (by decide +kernel)) (piL K (pv 0)) (fun u1 u2 u3 u4 u5=>(Ap (i:=0) (show List.Nodup (["_law_x"]:List Str) from by decide +kernel) rfl (Or.inl rfl))) (Av (by decide)) (fun u1 u2 u3 u4 u5=>AN) (fun u1 u2 u3 u4 u5=>(Af AH (Aj Wa hr rfl (A0 (pv 0) A8)) AI))) A8)))) (by rfl)),?_⟩
 obtain⟨r,xs,qs,rfl,hS,hn,hf,ab,q⟩:=h;have hs:=dv;have hl:=hn.length;have P0:0<=bi:=by decide
 refine⟨_,Z,P0,fun e he=>?_⟩;have J:=Ac.new (o:=.lst []) he;have Y:=Ac.seq J hS;have W:=AD.same hn J;refine N0 ⟨.list (qs.map nD),.list (([]:List Rat).map nD),AD.rdsL W Y,AD.rdsL (qs:=[]) .nil (SqL.of A9),Ei qs,Ei [],?_⟩;rw[show PyData.eqv (.list (qs.map nD)) (.list (([]:List Rat).map nD))=decide (qs=[]) from K4 qs []];generalize upd H e (.lst [])=H1 at J Y W ⊢;refine⟨_,Z,?_⟩;by_cases h0:qs=[]
 ·exact Bi (by rw[decide_eq_true h0]<;>rfl) (by have:=q H1 J;rw[show msT qs=_ from if_pos h0]at this;exact this)
 refine AM (by rw[decide_eq_false h0]<;>rfl) ⟨Z,?_⟩
 refine Bh ⟨_,Z,r,Z,⟨_,Y⟩,Dc (xs:=xs) (L2 H1 qs fun H1 qs i zs H'=>H'=H1/\zs=((qs.take i).map fun x=>tx x++Str.ofString ";0").map V.str) ⟨Z,Z⟩ (fun i zs H' hi p=>⟨by rw[p.1];exact Y,by rw[p.2,Z4,Z4,Zh];lia⟩) (by lia) ?_ ?_⟩
 ·rintro i x zs H' hx ⟨rfl,rfl⟩;obtain⟨c,hc,ak⟩:=(Paired.get W hx);have O:=hf c (Zn hc);have an:=CF O;refine⟨_,Z,x,c,Z,ak,O,_,_,Z,Z,?_,Z,?_⟩
  ·have:(Str.ofString ";0").length=2:=by decide +kernel
   rw[this,hs];lia
  rw[ai,hc,aj,aj];rfl
 rintro zs H' ⟨rfl,rfl⟩ p hp;rw[hl,cV];refine⟨_,p,qs.map fun x=>tx x++Str.ofString ";0",Z,Z,SqL.of A9,Cg (by decide +kernel) (fun t ht=>?_) (by rw[Z4];exact ab),?_⟩
 ·obtain⟨c,hc,rfl⟩:=(aX.mp ht);have:=CF (hf c hc);rw[Bs,show(Str.ofString ";0").length=2 by decide +kernel]
  lia
 have:=q _ (J.trans (Ac.new (o:=.lst ((qs.map fun x=>tx x++Str.ofString ";0").map V.str)) hp));rw[show msT qs=_ from if_neg h0]at this;exact this
theorem Iv:Ah ["_law_a","_law_b"] ["_law_a","_law_b"] (Ad (top 136)):=fsc
theorem IG{f:ad}{fd:bn}(F:Fun K "_law_times" "_law_times" (top 136) f fd)(Wd:Fd P w K mg base 33 "_law_lowest" ["_law_top","_law_bottom"] (DT))(hT:P.given.tree=none) :
 Ax P w K mg base CX0 34 f fd ["_law_a","_law_b"] (DU K (· * ·)):=by
 refine F.ok Iv (fun vs H Q E h=>?_) (fun ak A outer s H vs Q E Y h=>?_)
 ·obtain⟨_,_,_,_,_,_,rfl,_⟩:=h;rfl
 refine⟨_,(Ae (Al (Aj Wd Y rfl (A0 (Af Aw (Ag (ixT K) (pv 0) Ab (fun u v=>rfl)) (Ag (ixT K) (pv 1) Ab (fun u v=>rfl))) (A0 (Af Aw (Ag (ixT K) (pv 0) Ab (fun u v=>rfl)) (Ag (ixT K) (pv 1) Ab (fun u v=>rfl))) A8))))),?_⟩;obtain⟨x,y,p,q,m,n,rfl,⟨r,rfl,Y⟩,⟨u,rfl,W⟩,J,O,ab,k⟩:=h;refine⟨_,Z,r,_,_,_,Z,Z,Y,Z,_,Z,u,_,_,_,Z,Z,W,Z,_,_,Z,Z,BL.bd J.1 O.1,?_⟩;refine⟨_,Z,r,_,_,_,Z,Z,Y,Z,_,Z,u,_,_,_,Z,Z,W,Z,_,_,Z,Z,BL.bd J.2 O.2,?_⟩;refine⟨_,_,Z,ZU (Nm.den_ne p) (Nm.den_ne q),fun z hz=>?_⟩;have e:=k z hz
 try dsimp only at e
 rw[<- Nm.times_eq]at e;exact e
theorem Ct:Ah ["_law_curve","_law_x","_law_found","_law_power","_law_number"] ["_law_curve","_law_x"] (Ad (top 137)):=fsc
theorem MJ{f:ad}{fd:bn}(F:Fun K "_law_at" "_law_at" (top 137) f fd)(We:Fd P w K mg base 34 "_law_plus" ["_law_a","_law_b"] (DU K (· + ·)))(WL:Fd P w K mg base 34 "_law_times" ["_law_a","_law_b"] (DU K (· * ·)))(hT:P.given.tree=none) :
 Ax P w K mg base CX0 35 f fd ["_law_curve","_law_x"] (PH K):=by
 refine F.ok Ct (fun vs H Q E h=>?_) (fun be A outer s H vs Q E hr h=>?_)
 ·obtain⟨_,_,_,_,_,_,_,_,rfl,_⟩:=h;rfl
 refine⟨_,(Aa (K:=K) (Ai (i:=2) Ct.nd rfl (Or.inl rfl) (AO (A0 Ab (A0 Ab A8))))
  (Aa (K:=K) (Ai (i:=3) Ct.nd rfl (Or.inl rfl) (AO (A0 Ab (A0 Ab A8))))
  (Aa (K:=K) (B0 (K:=K) PassesOwn.never rfl (piS K (pv 0)) (Ap (i:=4) Ct.nd rfl (Or.inl rfl)) (Aa (K:=K) (Ai (i:=2) Ct.nd rfl (Or.inl rfl) (Aj We hr rfl (A0 (pv 2) (A0 (Aj WL hr rfl (A0 (pv 4) (A0 (pv 3) A8))) A8))))
  (Ae (Ai (i:=3) Ct.nd rfl (Or.inl rfl) (Aj WL hr rfl (A0 (pv 3) (A0 (pv 1) A8))))) (by rfl)) (by rfl))
  (Ae (Al (pv 2))) (by rfl)) (by rfl)) (by rfl)),?_⟩
 obtain⟨b,r,rx,xs,qs,x,c0,n,rfl,hS,hn,hx,hB,ab,hz,q⟩:=h;have hl:=hn.length;generalize hM:c0+n*qs.length+4=M at hz q;have bb:M*2<=90000000:=Yy (cA _ (by lia)) hz
 have bd:(qs.length+2)*M<=90000000:=by rw[ZH];exact hz
 refine⟨(by decide:2<=bi),fun f hf=>?_⟩
 refine⟨(by decide:2<=bi),fun g hg=>?_⟩
 have s0:Ac H (upd (upd H f (.tup [.int 0,.int 1])) g (.tup [.int 1,.int 1])):=(Ac.new hf).trans (Ac.new hg)
 refine NP (b:=b) (a:=r) (xs:=xs) rfl (L7 H r rx qs x M n fun H r rx qs x M n i σ H'=>Ac H H'/\∃(f g:ad) (z:Option V),σ=[some (.ref r),some (.ref rx),some (.ref f),some (.ref g),z]/\H' f=some (nT (Cv.ev (qs.take i) x))/\H' g=some (nT (x ^ i))/\RB ((i+1)*M) (Cv.ev (qs.take i) x)/\RB (n*i+1) (x ^ i))
  ⟨s0,f,g,none,Z,(Ac.new hg) _ _ A9,?_,RB.zero (by lia),?_⟩ (fun i σ H' _ p=>Sq.same hS p.1) ?_ ?_
 ·rw[ZZ];exact A9
 ·rw[ZZ];exact RB.one (by lia)
 ·rintro i v σ H' hv al;refine BJ al fun sm J=>?_;refine Dd J fun f' g' z W=>?_;clear J;refine DQ W fun ap ef eg bf bg=>?_;clear W;obtain rfl:=ap
  try clear al
  obtain⟨c,hc,a0⟩:=(Paired.get hn hv);have hi:i<qs.length:=(YG.mp hc).1;have aC:c∈qs:=Zn hc;have bh:n*i<=n*qs.length:=cA n (by lia)
  have ak:n*(i+1)=n*i+n:=by rw[cB,da]
  have ba:n*(i+1)<=n*qs.length:=cA n (by lia)
  have bc:(i+1+1)*M<=(qs.length+2)*M:=aO _ (by lia)
  have an:(i+1+1)*M=(i+1)*M+M:=by rw[aM,aN]
  have bt:RB (c0+(n*i+1)) (c*x ^ i):=(hB c aC).times bg;refine⟨_,Z,_,Z,_,Z,_,_,_,_,c0,n*i+1,Z,a0.same sm,Az.of eg,hB c aC,bg,by lia,fun t ht=>?_⟩
  have s1:Ac H' (upd H' t (nT (c*x ^ i))):=Ac.new ht;refine⟨_,_,_,_,(i+1)*M,c0+(n*i+1),Z,Az.of (s1 _ _ ef),Az.of A9,bf,bt,by lia,fun u hu=>?_⟩
  have s2:=s1.trans (Ac.new (o:=nT (Cv.ev (qs.take i) x+c*x ^ i)) hu);refine⟨_,Z,_,Z,_,_,_,_,n*i+1,n,Z,Az.of (s2 _ _ eg),(hx.same sm).same s2,bg,ab,by lia,fun v' as=>?_⟩
  have s3:=s2.trans (Ac.new (o:=nT (x ^ i*x)) as)
  have e1:Cv.ev (qs.take (i+1)) x=Cv.ev (qs.take i) x+c*x ^ i:=by
   rw[ai,hc];show Cv.ev (qs.take i++[c]) x=_;rw[Cv.ev_snoc,Zh,Zv (by lia)]
  refine⟨sm.trans s3,u,v',_,Z,?_,?_,?_,?_⟩
  ·rw[e1];exact(Ac.new as) _ _ A9
  ·rw[aa];exact A9
  ·rw[e1,an];exact(bf.plus bt).mono (by lia)
  ·rw[aa,ak];exact(bg.times ab).mono (by lia)
 ·rintro σ H' aF;refine BJ aF fun sm O=>?_;refine Dd O fun f' g' z Y=>?_;clear O;refine DQ Y fun aP ef eg bf bg=>?_;clear Y;obtain rfl:=aP
  try clear aF
  rw[hl,cV]at ef bf;exact⟨_,Z,q _ _ sm ef (by rw[ZH];exact bf)⟩
theorem Iw:Ah ["_law_numbers"] ["_law_numbers"] (Ad (top 139)):=fsc
theorem II{f:ad}{fd:bn}(F:Fun K "_law_texts" "_law_texts" (top 139) f fd)(Wa:Fd P w K mg base 33 "_law_text" ["_law_number"] (D7 K))(hT:P.given.tree=none) :
 Ax P w K mg base CX0 34 f fd ["_law_numbers"] (Hf K BF):=by
 refine F.ok Iw (fun vs H Q E h=>?_) (fun ab A outer s H vs Q E hr h=>?_)
 ·obtain⟨_,_,_,_,rfl,_⟩:=h;rfl
 refine⟨_,(Ae (Al (BA K PySem.F.plainAttrs_str PySem.F.slot_str_join PySem.F.type_str_join (D0 K) AI (A0 (Bp rfl (N:=["_law_number"]) (nt:=1) (js:=[]) (AG.look (NX:=["_law_numbers"]) (sc:=Ad (top 139)) rfl rfl (by decide +kernel)) (piS K (pv 0)) (fun u1 u2 J O u5=>(Ap (i:=0) (show List.Nodup (["_law_number"]:List Str) from by decide +kernel) rfl (Or.inl rfl))) (Av (by decide)) (fun u1 u2 J O u5=>AN) (fun u1 u2 J O u5=>(Aj Wa hr rfl (A0 (pv 0) A8)))) A8)))),?_⟩
 obtain⟨b,r,xs,qs,rfl,hS,hn,hf,Y,q⟩:=h;have hs:=dv;have hl:=hn.length;refine⟨Z,?_⟩;refine HY (b:=b) (a:=r) (xs:=xs) rfl (fun i zs H'=>H'=H/\zs=((qs.take i).map tx).map V.str) ⟨Z,Z⟩ (fun i zs H' hi p=>⟨by rw[p.1];exact hS,by rw[p.2,Z4,Z4,Zh];lia⟩) (by lia) ?_ ?_
 ·rintro i x zs H' hx ⟨rfl,rfl⟩;obtain⟨c,hc,W⟩:=(Paired.get hn hx);refine⟨_,Z,x,c,Z,W,hf c (Zn hc),Z,?_⟩;rw[ai,hc,aj,aj];rfl
 rintro zs H' ⟨rfl,rfl⟩ p hp;rw[hl,cV];exact⟨_,p,qs.map tx,Z,Z,SqL.of A9,Cg (by show BF.length<=2;rw[Gp];decide) (fun t ht=>Yy (Ds hf t ht) (by decide)) (by rw[Z4];exact Y),q _ (Ac.new hp)⟩
theorem JG:Ah ["_law_a","_law_b"] ["_law_a","_law_b"] (Ad (top 141)):=fsc
theorem K0{f:ad}{fd:bn}(F:Fun K "_law_less" "_law_less" (top 141) f fd)(hT:P.given.tree=none) :
 Ax P w K mg base CX0 33 f fd ["_law_a","_law_b"] (Ml K):=by
 refine F.ok JG (fun vs H Q E h=>?_) (fun ak A outer s H vs Q E hr h=>?_)
 ·obtain⟨_,_,_,_,_,_,rfl,_⟩:=h;rfl
 refine⟨_,(Ae (Al (CY Ez (Af Aw (Ag (ixT K) (pv 0) Ab (fun u v=>rfl)) (Ag (ixT K) (pv 1) Ab (fun u v=>rfl))) (Af Aw (Ag (ixT K) (pv 1) Ab (fun u v=>rfl)) (Ag (ixT K) (pv 0) Ab (fun u v=>rfl))) (Ar _)))),?_⟩;obtain⟨x,y,p,q,m,n,rfl,⟨r,rfl,Y⟩,⟨u,rfl,W⟩,J,O,ab,k⟩:=h;refine⟨_,Z,r,_,_,_,Z,Z,Y,Z,_,Z,u,_,_,_,Z,Z,W,Z,_,_,Z,Z,BL.bd J.1 O.2,?_⟩;refine⟨_,Z,u,_,_,_,Z,Z,W,Z,_,Z,r,_,_,_,Z,Z,Y,Z,_,_,Z,Z,BL.bd O.1 J.2,_,_,Z,Z,?_⟩;have e:=Sb p q;show Q (.bl (decide (p.num*q.den<q.num*p.den))) H;rw[e];exact k
theorem BW:Ah ["_law_places","_law_found","_law_x","_law_at_here"] ["_law_places"] (Ad (top 143)):=fsc
theorem HQ{f:ad}{fd:bn}(F:Fun K "_law_rising" "_law_rising" (top 143) f fd)(X4:Fd P w K mg base 33 "_law_less" ["_law_a","_law_b"] (Ml K))(VY:mg "len" = none)(hT:P.given.tree=none) :
 Ax P w K mg base CX0 34 f fd ["_law_places"] (Md K):=by
 refine F.ok BW (fun vs H Q E h=>?_) (fun bN A outer s H vs Q E hr h=>?_)
 ·obtain⟨_,_,_,rfl,_⟩:=h;rfl
 refine⟨_,(Aa (K:=K) (Ai (i:=1) BW.nd rfl (Or.inl rfl) (Bu A8))
  (Aa (K:=K) (B0 (K:=K) PassesOwn.never rfl (piL K (pv 0)) (Ap (i:=2) BW.nd rfl (Or.inl rfl)) (Aa (K:=K) (Ai (i:=3) BW.nd rfl (Or.inl rfl) Ab)
  (Aa (K:=K) (E3 PassesOwn.never (PW.pt (HC (Ao Ez (pv 3) (Ak (BD K) rfl VY AE (A0 (pv 1) A8)) (Ar _)) (Fm (C8 (Aj X4 hr rfl (A0 (Ag (ixL K) (pv 1) (pv 3) (fun u v=>rfl)) (A0 (pv 2) A8))))))) (Ae (Ai (i:=3) BW.nd rfl (Or.inl rfl) (Af AV (pv 3) Ab))))
  (Ae (Ca (BA K PySem.F.plainAttrs_list PySem.F.slot_list_insert PySem.F.type_list_insert Oz (pv 1) (A0 (pv 3) (A0 (pv 2) A8))))) (by rfl)) (by rfl)) (by rfl))
  (Ae (Al (pv 1))) (by rfl)) (by rfl)),?_⟩
 obtain⟨l,zs,qs,rfl,hl,hz,bB,hb,q⟩:=h;have hs:=dv;have P0:0<=bi:=by decide
 have bm:=hz.length;refine⟨P0,fun f hf=>?_⟩;have s0:Ac H (upd H f (.lst [])):=Ac.new hf;refine⟨_,Z,l,Z,⟨_,Ac.seq s0 hl⟩,Dr (xs:=zs) (L5 H l f K qs fun H l f K qs i σ G=>Ac H G/\∃us O z2 z3,σ=[some (.ref l),some (.ref f),z2,z3]/\G f=some (.lst us)/\AD K G us O/\O.Perm (qs.take i)/\O.Pairwise (· <= ·)) ⟨s0,[],[],none,none,Z,A9,.nil,.nil,.nil⟩ (fun i σ G _ h=>Ac.seq h.1 hl) ?_ ?_⟩
 ·rintro i v σ G hv bc;refine BJ bc fun sg ap=>?_;refine MY ap fun us O y2 y3 J=>?_;clear ap;refine DQ J fun bd ef ab Y an=>?_;clear J;obtain rfl:=bd
  try clear bc
  obtain⟨x,hx,aP⟩:=(Paired.get hz hv);obtain⟨rx,rfl,_⟩:=(id aP);have bx:=hb x (Zn hx);have b0:=ab.length;have bD:O.length<=12:=by rw[Y.length_eq,Zh];lia
  have bq:∀c∈O,RB 40 c:=fun c hc=>hb c (cG (Y.mem_iff.mp hc));refine⟨fun μ σ W=>W=G/\∃k:Nat,σ=[some (.ref l),some (.ref f),some (.ref rx),some (.int (k:Int))]/\μ=us.length-k/\k<=us.length/\∀y∈O.take k,y<x,⟨_,Z,0,Z,Z,YN _,by rw[br];exact fun _ h=>nomatch h⟩,?_⟩
  rintro μ σ W bf;refine BJ bf fun bg as=>?_;refine MZ as fun k ak=>?_;clear as;refine Ep ak fun ba be hk bl=>?_;clear ak;obtain rfl:=bg;obtain rfl:=ba;obtain rfl:=be
  try clear bf
  have aC:(∀y∈O.drop k,x<=y)->SF (tBM K "list" JI (Jk 1) (Ku (Jk 3) (Ku (Jk 2) Rw))) { nx:=fun σ G=>Ac H G/\∃us O z2 z3,σ=[some (.ref l),some (.ref f),z2,z3]/\G f=some (.lst us)/\AD K G us O/\O.Perm (qs.take (i+1))/\O.Pairwise (· <= ·),rt:=fun _ _=>False } [some (.ref l),some (.ref f),some (.ref rx),some (.int (k:Int))] W:=fun bp=>by
   refine⟨_,Z,.inl ⟨Z,_,SqL.of ef⟩,_,Z,_,Z,f,us,_,k,.ref rx,Z,Z,Z,ef,hk,by lia,?_⟩
   have nz:=AD.put (o:=.lst (us.take k++V.ref rx::us.drop k)) ab ef;refine⟨sg.put hf,_,O.take k++x::O.drop k,_,_,Z,A9,Paired.append (Paired.take _ nz) (.cons (Az.put (aP.same sg) ef) (E5 _ nz)),?_,VJ an bl bp⟩;refine QE.trans ?_;rw[ai,hx];exact(List.Perm.cons x Y).trans (List.perm_append_comm (l₁:=[x]))
  refine⟨_,Z,_,Z,f,_,Z,.inl (SqL.of ef),_,_,Z,Z,_,Z,?_⟩;by_cases hku:k<us.length
  ·rw[decide_eq_true (show(k:Int)<((us.length:Nat):Int) by lia)]
   obtain⟨y0,a0,bt⟩:=(Paired.get ab (aB hku));refine Ia ⟨_,Z,_,Z,f,us,_,_,Z,Z,SqL.of ef,AB (aB hku),_,Z,_,_,y0,x,40,40,Z,bt,aP.same sg,bq y0 (Zn a0),bx,by decide,_,Z,?_⟩
   by_cases hyx:y0<x
   ·refine Bi (by rw[decide_eq_true hyx]<;>rfl) ⟨_,fun _ _ h=>h,_,Z,_,_,Z,Z,?_⟩
    refine⟨us.length-(k+1),by lia,Z,k+1,Z,Z,hku,fun y hy=>?_⟩
    rw[ai,a0]at hy
    rcases YE.mp hy with z | z
    ·exact bl y z
    ·rw[aA.mp z];exact hyx
   ·exact AM (by rw[decide_eq_false hyx]<;>rfl) (aC (Sl an a0 (Rat.not_lt.mp hyx)))
  ·refine AM (by rw[decide_eq_false (show ¬(k:Int)<((us.length:Nat):Int) by lia)]<;>rfl) ?_
   exact BP (aC (by rw[bu (by lia)];exact fun _ h=>nomatch h))
 rintro σ G bh;refine BJ bh fun sg aF=>?_;refine MY aF fun us O y2 y3 al=>?_;clear aF;refine DQ al fun bb ef ab Y an=>?_;clear al;obtain rfl:=bb
 try clear bh
 rw[bm,cV]at Y;exact⟨_,Z,q f us O G sg ef ab Y an⟩
theorem Ir:Ah ["text"] ["text"] (Ad (top 100)):=fsc
theorem IE{f:ad}{fd:bn}(F:Fun K "check_text" "check_text" (top 100) f fd)(W:mg "isinstance" = none)(Y:mg "str" = none)(J:P.given.tree=none) :
 Ax P w K mg base CX0 33 f fd ["text"] (Pz):=by
 refine F.ok Ir (fun vs H Q E h=>?_) (fun O A outer s H vs Q E hr h=>?_)
 ·obtain⟨_,rfl,_⟩:=h;rfl
 refine⟨_,(Ae (Ay (K:=K) (CC (C8 (Ak (OJ K) rfl W Bx (A0 (pv 0) (A0 (CZ (v:=.ty "str") rfl Y CU rfl) A8))))) (Ae AU) Au (by rfl) (by rfl))),?_⟩
 obtain⟨t,rfl,q⟩:=h;exact⟨_,Z,_,_,_,_,Z,.of (.str _),QA K,true,Z,BP q⟩
theorem Iu:Ah ["places"] ["places"] (Ad (top 49)):=fsc
theorem IF{f:ad}{fd:bn}(F:Fun K "are_unlike" "are_unlike" (top 49) f fd)(VY:mg "len" = none)(Y:mg "set" = none)(hT:P.given.tree=none) :
 Ax P w K mg base CX0 33 f fd ["places"] (EY K):=by
 refine F.ok Iu (fun vs H Q E h=>?_) (fun ab A outer s H vs Q E hr h=>?_)
 ·obtain⟨_,_,_,rfl,_⟩:=h;rfl
 refine⟨_,(Ae (Al (CY Cr (Ak OT rfl VY AE (A0 (AQ (VF K rfl hr.units) rfl Y UB (A0 (pv 0) A8)) A8)) (Ak (BD K) rfl VY AE (A0 (pv 0) A8)) (Ar _)))),?_⟩;obtain⟨l,ys,qs,rfl,hS,J,O,W,q⟩:=h;have hl:=J.length;refine⟨_,Z,l,ys,qs,Z,hS,J,O,W,fun p hp=>⟨p,qs.length,Z,A9,by lia,?_⟩⟩
 have s1:Ac H (upd H p (Rc p qs.length)):=Ac.new hp;refine⟨_,Z,l,ys,Z,.inl (Ac.seq s1 hS),Z,?_⟩;have e:(V.int ((qs.length:Nat):Int)=V.int ((ys.length:Nat):Int)):=by rw[hl]
 rw[decide_eq_true e];exact q _ s1
theorem Dx:Ah ["points","told","point","k"] ["points"] (Ad (top 52)):=fsc
theorem MH{f:ad}{fd:bn}(F:Fun K "told_in" "told_in" (top 52) f fd)(VZ:mg "range" = none)(VY:mg "len" = none)(hT:P.given.tree=none) :
 Ax P w K mg base CX0 33 f fd ["points"] (EZ K):=by
 refine F.ok Dx (fun vs H Q E h=>?_) (fun b8 A outer s H vs Q E hr h=>?_)
 ·obtain⟨_,_,_,rfl,_⟩:=h;rfl
 refine⟨_,(Aa (K:=K) (Ai (i:=1) Dx.nd rfl (Or.inl rfl) (Bu A8))
  (Aa (K:=K) (B0 (K:=K) PassesOwn.never rfl (piT K (pv 0)) (Ap (i:=2) Dx.nd rfl (Or.inl rfl)) (Ae (B0 (K:=K) PassesOwn.never rfl (Cf rfl VZ (A0 (Af Bj (Ak (BD K) rfl VY AE (A0 (pv 2) A8)) Ab) A8)) (Ap (i:=3) Dx.nd rfl (Or.inl rfl)) (Ae (Ca (BA K PySem.F.plainAttrs_list PySem.F.slot_list_append PySem.F.type_list_append Dm (pv 1) (A0 (AO (A0 (Ag (ixT K) (pv 2) Ab (fun u v=>rfl)) (A0 (pv 3) (A0 (Ag (ixT K) (pv 2) (Af AV (pv 3) Ab) (fun u v=>rfl)) A8)))) A8)))) (by rfl))) (by rfl))
  (Ae (Al (pv 1))) (by rfl)) (by rfl)),?_⟩
 obtain⟨r,xs,pss,rfl,hS,hp,bt,b6,q⟩:=h;have P0:0<=bi:=by decide
 have P3:3<=bi:=by decide
 have bN:=hp.length;refine⟨P0,fun p aC=>?_⟩;refine⟨_,Z,r,Z,⟨_,SqT.same hS (Ac.new aC)⟩,FD (xs:=xs) (L5 H r p K pss fun H r p K pss i σ H'=>Ac H H'/\∃ys z2 z3,σ=[some (.ref r),some (.ref p),z2,z3]/\H' p=some (.lst ys)/\Ik K H' ys (AA (pss.take i))) ⟨Ac.new aC,[],none,none,Z,A9,.nil⟩ (fun i σ H' _ h=>hS.same h.1) ?_ ?_⟩
 ·rintro i v σ H' hv bf;refine BJ bf fun sm ba=>?_;refine Dd ba fun ys z2 z3 as=>?_;clear ba;refine Cm as fun bl ep ab=>?_;clear as;obtain rfl:=bl
  try clear bf
  obtain⟨ps,be,a,zs,pp,rfl,bb,bc,b3,b4⟩:=(Paired.get hp hv);have bD:=bt ps (Zn be);have bB:=bc.length
  have b2:ys.length<=200:=by
   have h1:=BV (pss.take i) (bt.take i);rw[Zh]at h1;rw[ab.length];lia
  refine⟨_,Z,a,zs,Z,.inr (bb.same sm),_,_,Z,Z,_,Z,by lia,by lia,?_⟩
  rw[show(((zs.length:Nat):Int)-1).toNat=ps.length-1 from E8 bB];refine CO (n:=ps.length-1) (L8 H r p a K pss i ps fun H r p a K pss i ps k σ H2=>Ac H H2/\∃Y z3,σ=[some (.ref r),some (.ref p),some (.ref a),z3]/\H2 p=some (.lst Y)/\Ik K H2 Y (AA (pss.take i)++(Bc ps).take k)) ⟨sm,ys,z3,Z,ep,by rw[br,Za];exact ab⟩ ?_ ?_
  ·rintro k σ H2 hk bh;refine BJ bh fun J a0=>?_;refine Cj a0 fun Y b1 al=>?_;clear a0;refine Cm al fun bq O W=>?_;clear al;obtain rfl:=bq
   try clear bh
   have g0:=getD_some (l:=ps) (i:=0) (by lia)
   have gk:=getD_some (l:=ps) (i:=k+1) (by lia)
   obtain⟨xk,b5,b0⟩:=(Paired.get' bc gk);have ak:atI zs (0+(k:Int)+1)=some xk:=by rw[show 0+(k:Int)+1=((k+1:Nat):Int) by lia];exact AB b5
   have b7:Y.length<=204:=by
    have h1:=ab.length;have h2:=AW ps;rw[W.length,Zo,Zh];exact S9 b2 hk bD h1
   refine⟨_,Z,.inl ⟨Z,_,SqL.of O⟩,_,Z,a,zs,_,.ref pp,Z,Z,bb.same J,AB (j:=0) b3,_,Z,_,Z,_,Z,_,_,Z,Z,a,zs,_,xk,Z,Z,bb.same J,ak,P3,fun t ht=>?_⟩;have s3:Ac H2 (upd H2 t (.tup [.ref pp,.int (0+(k:Int)),xk])):=Ac.new ht;have tp:t≠p:=(As O ht).symm
   have bx:(upd (upd H2 t (.tup [.ref pp,.int (0+(k:Int)),xk])) p (.lst (Y++[.ref t]))) pp=some (nT (ps.getD 0 0)):=by
    have z:=s3 _ _ (J _ _ b4);rw[Aq (CS z (s3 _ _ O) (fun z=>by cases z))];exact z
   refine⟨p,Y,.ref t,Z,Z,s3 _ _ O,Yr (show Y.length<300 by lia) (by decide),(J.trans s3).put aC,Y++[.ref t],_,Z,A9,?_⟩
   have gt:(Bc ps)[k]? = some ⟨ps.getD 0 0,(k:Int),ps.getD (k+1) 0⟩:=by
    unfold Bc;rw[Zl,bJ hk];rfl
   rw[ai,gt,<- ZE];refine Paired.snoc (Ik.put (Ik.same W s3) (s3 _ _ O)) ⟨t,pp,xk,Z,SqT.of ?_,bx,((b0.same J).same s3).put (s3 _ _ O)⟩;rw[Aq tp,A9,Int.zero_add]
  ·rintro σ H2 bp;refine BJ bp fun J aP=>?_;refine Cj aP fun Y b1 ap=>?_;clear aP;refine Cm ap fun bg O W=>?_;clear ap;obtain rfl:=bg
   try clear bp
   refine⟨J,Y,_,_,Z,O,?_⟩;have e:pss.take (i+1)=pss.take i++[ps]:=by rw[ai,be];rfl
   rw[e,Oc];have et:(Bc ps).take (ps.length-1)=Bc ps:=bj (by rw[AW];exact YL _)
   rw[et]at W;exact W
 ·rintro σ H' bd;refine BJ bd fun sm aF=>?_;refine Dd aF fun ys z2 z3 an=>?_;clear aF;refine Cm an fun bm ep ab=>?_;clear an;obtain rfl:=bm
  try clear bd
  rw[bN,cV]at ab;exact⟨_,Z,q p H' ys sm aC ep ab⟩
theorem KH:Ah ["thing"] ["thing"] (Ad (top 13)):=fsc
theorem Lb{f:ad}{fd:bn}(F:Fun K "is_whole" "is_whole" (top 13) f fd)(Y:mg "isinstance" = none)(W:mg "int" = none)(J:mg "bool" = none)(hT:P.given.tree=none) :
 Ax P w K mg base CX0 33 f fd ["thing"] (Jn K):=by
 refine F.ok KH (fun vs H Q E h=>?_) (fun O A outer s H vs Q E hr h=>?_)
 ·obtain⟨_,_,rfl,_⟩:=h;rfl
 refine⟨_,(Ae (Al (MA (Ak (OJ K) rfl Y Bx (A0 (pv 0) (A0 (CZ (v:=.ty "int") rfl W Kg rfl) A8))) (My (TV (Ak (OJ K) rfl Y Bx (A0 (pv 0) (A0 (CZ (v:=.ty "bool") rfl J Ss rfl) A8)))))))),?_⟩;obtain⟨x,b,rfl,wx,q⟩:=h;cases wx with
 | int i=>exact⟨_,Z,_,_,_,_,Z,.of (.int i),Ub K,true,Z,Ia ⟨_,Z,_,_,_,_,Z,.of (.int i),Uc K,false,Z,q⟩⟩
 | bl y=>exact⟨_,Z,_,_,_,_,Z,.of (.bl y),Ud K,true,Z,Ia ⟨_,Z,_,_,_,_,Z,.of (.bl y),Ue K,true,Z,q⟩⟩
 | oth ty hk=>exact⟨_,Z,_,_,_,_,Z,ty,hk,false,Z,BP q⟩
theorem Ba:Ah ["one","other","great","small","rest"] ["one","other"] (Ad (top 14)):=fsc
theorem Fv{f:ad}{fd:bn}(F:Fun K "common_measure" "common_measure" (top 14) f fd)(W8:mg "abs" = none)(hT:P.given.tree=none) :
 Ax P w K mg base CX0 33 f fd ["one","other"] (IV):=by
 refine F.ok Ba (fun vs H Q E h=>?_) (fun an A outer s H vs Q E hr h=>?_)
 ·obtain⟨_,_,rfl,_⟩:=h;rfl
 refine⟨_,(Aa (K:=K) (Ai (i:=2) Ba.nd rfl (Or.inl rfl) (Ak FH rfl W8 Kh (A0 (pv 0) A8)))
  (Aa (K:=K) (Ai (i:=3) Ba.nd rfl (Or.inl rfl) (Ak FH rfl W8 Kh (A0 (pv 1) A8)))
  (Aa (K:=K) (E3 PassesOwn.never (Ao Dj (pv 3) Ab (Ar _)) (Aa (K:=K) (Ai (i:=4) Ba.nd rfl (Or.inl rfl) (Af CD (pv 2) (pv 3)))
  (Aa (K:=K) (Ai (i:=2) Ba.nd rfl (Or.inl rfl) (pv 3))
  (Ae (Ai (i:=3) Ba.nd rfl (Or.inl rfl) (pv 4))) (by rfl)) (by rfl)))
  (Ae (Al (pv 2))) (by rfl)) (by rfl)) (by rfl)),?_⟩
 obtain⟨a,b,rfl,q⟩:=h;refine⟨_,Z,a,Z,?_⟩;refine⟨_,Z,b,Z,?_⟩
 refine Kr (L3 H a b fun H a b σ H'=>H'=H/\∃(x y:Int) (r:Option V),σ=[some (.int a),some (.int b),some (.int x),some (.int y),r]/\0<=x/\0<=y/\ZL x y=ZL a b) (fun σ _=>mu 3 σ)
  ⟨Z,_,_,none,Z,?_,?_,?_⟩ ?_ ?_
 ·rw[Nm.abs_if];exact de _
 ·rw[Nm.abs_if];exact de _
 ·rw[Nm.abs_if,Nm.abs_if];rfl
 ·rintro σ H' O;refine BJ O fun ab W=>?_;refine Dd W fun x y r Y=>?_;clear W;refine Ep Y fun ak hx hy hg=>?_;clear Y;obtain rfl:=ab;obtain rfl:=ak
  try clear O
  refine⟨_,Z,Z,_,Z,?_⟩;by_cases hy0:y=0
  ·subst hy0;refine AM (by rw[decide_eq_true rfl]<;>rfl) ⟨_,Z,?_⟩
   have e:(ZL a b:Int)=x:=by rw[<- hg,Int.gcd_zero];lia
   rw[e]at q;exact q
  ·refine Bi (by rw[decide_eq_false (fun z=>hy0 (V.int.inj z))]<;>rfl) ?_
   have J:0<y:=by lia
   refine⟨_,Z,_,Z,_,_,Z,Z,J,?_⟩;refine⟨_,Z,_,Z,⟨Z,y,x % y,_,Z,hy,bA _ hy0,?_⟩,?_⟩
   ·rw[Nm.gcd_turn];exact hg
   ·show(x % y).toNat<y.toNat;have:=bC x J
    lia
 ·rintro σ H' Q1 Q2 hm al;obtain⟨v,e,s1,k,ek,q1⟩:=al
  try clear al
  exact⟨v,e,s1,k,ek,hm _ _ q1⟩
theorem JD:Ah ["thing"] ["thing"] (Ad (top 15)):=fsc
theorem JT{f:ad}{fd:bn}(F:Fun K "is_number" "is_number" (top 15) f fd)(O:Fd P w K mg base 33 "is_whole" ["thing"] (Jn K))(Wb:Fd P w K mg base 33 "common_measure" ["one","other"] (IV))(J:mg "isinstance" = none)(W0:mg "tuple" = none)(VY:mg "len" = none)(hT:P.given.tree=none) :
 Ax P w K mg base CX0 34 f fd ["thing"] (Nl K):=by
 refine F.ok JD (fun vs H Q E h=>?_) (fun ab A outer s H vs Q E W h=>?_)
 ·obtain⟨_,_,rfl,_⟩:=h;rfl
 refine⟨_,(Aa (K:=K) (Ay (K:=K) (PW.pt (Ey (CC (C8 (Ak (OJ K) rfl J Bx (A0 (pv 0) (A0 (CZ (v:=.ty "tuple") rfl W0 Ck rfl) A8))))) (D8 (Ao Dj (Ak (BD K) rfl VY AE (A0 (pv 0) A8)) Ab (Ar _))))) (Ae (Al Fo)) Au (by rfl) (by rfl))
  (Aa (K:=K) (Ay (K:=K) (PW.pt (Ey (CC (C8 (Aj O W rfl (A0 (Ag (ixT K) (pv 0) Ab (fun u v=>rfl)) A8)))) (D8 (CC (C8 (Aj O W rfl (A0 (Ag (ixT K) (pv 0) Ab (fun u v=>rfl)) A8))))))) (Ae (Al Fo)) Au (by rfl) (by rfl))
  (Ae (Al (MA (CY SQ (Ag (ixT K) (pv 0) Ab (fun u v=>rfl)) Ab (Ar _)) (My (CY Cr (Aj Wb W rfl (A0 (Ag (ixT K) (pv 0) Ab (fun u v=>rfl)) (A0 (Ag (ixT K) (pv 0) Ab (fun u v=>rfl)) A8))) Ab (Ar _)))))) (by rfl)) (by rfl)),?_⟩
 obtain⟨x,p,rfl,⟨r,rfl,Y⟩,q⟩:=h;refine⟨_,Z,_,_,_,_,Z,.tup Y,Qz K,true,Z,BP ?_⟩;refine⟨_,Z,r,_,Z,.inr Y,Z,_,Z,BP ?_⟩;refine⟨_,Z,r,_,_,_,Z,Z,Y,Z,_,_,Z,.int _,_,Z,BP ?_⟩;refine⟨_,Z,r,_,_,_,Z,Z,Y,Z,_,_,Z,.int _,_,Z,BP ?_⟩;refine⟨_,Z,r,_,_,_,Z,Z,Y,Z,_,_,Z,Z,_,Z,?_⟩;refine Bi (by rw[decide_eq_true (show(1:Int)<=(p.den:Int) by have:=p.den_pos;lia)]<;>rfl) ?_
 refine⟨_,Z,r,_,_,_,Z,Z,Y,Z,_,Z,r,_,_,_,Z,Z,Y,Z,_,_,Z,Z,?_⟩;rw[decide_eq_true (show V.int (ZL p.num (p.den:Int):Int)=V.int 1 by rw[Sf])]
 exact q _ (Ac.refl _)
theorem KI:Ah ["thing"] ["thing"] (Ad (top 48)):=fsc
theorem Lc{f:ad}{fd:bn}(F:Fun K "is_point" "is_point" (top 48) f fd)(Wu:Fd P w K mg base 34 "is_number" ["thing"] (Nl K))(W6:mg "all" = none)(W3:mg "isinstance" = none)(W0:mg "tuple" = none)(VY:mg "len" = none)(hT:P.given.tree=none) :
 Ax P w K mg base CX0 35 f fd ["thing"] (Mn K):=by
 refine F.ok KI (fun vs H Q E h=>?_) (fun ak A outer s H vs Q E hr h=>?_)
 ·obtain⟨_,_,rfl,_⟩:=h;rfl
 refine⟨_,(Aa (K:=K) (Ay (K:=K) (PW.pt (Ey (CC (C8 (Ak (OJ K) rfl W3 Bx (A0 (pv 0) (A0 (CZ (v:=.ty "tuple") rfl W0 Ck rfl) A8))))) (D8 (Ao (Qj K) (Ak (BD K) rfl VY AE (A0 (pv 0) A8)) (AO (A0 Ab (A0 Ab A8))) (by with_unfolding_all rfl))))) (Ae (Al Fo)) Au (by rfl) (by rfl))
  (Ae (Al (Ak (UG K rfl) rfl W6 N8 (A0 (Bp rfl (N:=["each"]) (nt:=1) (js:=[]) (AG.look (NX:=["thing"]) (sc:=Ad (top 48)) rfl rfl (by decide +kernel)) (piT K (pv 0)) (fun u1 u2 u3 u4 u5=>(Ap (i:=0) (show List.Nodup (["each"]:List Str) from by decide +kernel) rfl (Or.inl rfl))) (Av (by decide)) (fun u1 u2 u3 u4 u5=>AN) (fun u1 u2 u3 u4 u5=>(Aj Wu hr rfl (A0 (pv 0) A8)))) A8)))) (by rfl)),?_⟩
 obtain⟨x,ps,rfl,⟨r,rfl,xs,Y,hn⟩,ab,q⟩:=h;have P2:2<=bi:=by decide
 have hl:=hn.length;refine⟨_,Z,_,_,_,_,Z,.tup Y,Qz K,true,Z,BP ?_⟩;refine⟨_,Z,r,xs,Z,.inr Y,P2,fun t ht=>?_⟩;have s1:Ac H (upd H t (.tup [.int 2,.int 3])):=Ac.new ht;refine⟨t,_,Z,.inr (SqT.of A9),Z,Z,_,Z,?_⟩
 have J:inV (V.int ((xs.length:Nat):Int)) [.int 2,.int 3]=true:=by
  rcases ab with z | z
  ·rw[hl,z];rfl
  ·rw[hl,z];rfl
 rw[J];refine BP ?_;refine Bh ⟨_,Z,r,Z,⟨_,SqT.same Y s1⟩,?_⟩;refine EN (xs:=xs) (fun i zs H'=>Ac H H'/\zs=Zf i (.bl true)) ⟨s1,Z⟩ (fun i zs H' _ p=>⟨SqT.same Y p.1,by rw[p.2,Zp]⟩) (Yz (AS (by lia))) ?_ ?_
 ·rintro i x zs H' hx ⟨W,rfl⟩;obtain⟨c,hc,O⟩:=(Paired.get hn hx);refine⟨_,Z,x,c,Z,O.same W,fun H2 s2=>⟨W.trans s2,?_⟩⟩;rw[<- df]
 rintro zs H' ⟨W,rfl⟩ p hp;refine⟨p,Zf xs.length true,Z,SqL.of (by rw[ah];exact A9),?_⟩
 rw[GW];exact q _ (W.trans (Ac.new hp))
theorem Fj:Ah ["thing","points"] ["thing"] (Ad (top 51)):=fsc
theorem JQ{f:ad}{fd:bn}(F:Fun K "points_of" "points_of" (top 51) f fd)(Wv:Fd P w K mg base 33 "are_unlike" ["places"] (EY K))(Wf:Fd P w K mg base 33 "told_in" ["points"] (EZ K))(X5:Fd P w K mg base 35 "is_point" ["thing"] (Mn K))(W0:mg "tuple" = none)(W6:mg "all" = none)(VY:mg "len" = none)(W3:mg "isinstance" = none)(Wc:mg "list" = none){W:Tok}(Y:mg "MOST_TOLD" = some (.int 12 W))(hT:P.given.tree=none) :
 Ax P w K mg base CX0 36 f fd ["thing"] (GQ K):=by
 refine F.ok Fj (fun vs H Q E h=>?_) (fun b1 A outer s H vs Q E hr h=>?_)
 ·obtain⟨_,_,_,_,rfl,_⟩:=h;rfl
 refine⟨_,(Aa (K:=K) (Ay (K:=K) (PW.pt (Ey (CC (C8 (Ak (VI K) rfl W3 Bx (A0 (pv 0) (A0 (AO (A0 (CZ (v:=.ty "list") rfl Wc O0 rfl) (A0 (CZ (v:=.ty "tuple") rfl W0 Ck rfl) A8))) A8))))) (D8 (Ao Cr (Ak (BD K) rfl VY AE (A0 (pv 0) A8)) Ab (Ar _))))) (Ae AU) Au (by rfl) (by rfl))
  (Aa (K:=K) (Ay (K:=K) (CC (C8 (Ak (UG K rfl) rfl W6 N8 (A0 (Bp rfl (N:=["each"]) (nt:=1) (js:=[]) (AG.look (NX:=["thing","points"]) (sc:=Ad (top 51)) rfl rfl (by decide +kernel)) (piS K (pv 0)) (fun u1 u2 u3 u4 u5=>(Ap (i:=0) (show List.Nodup (["each"]:List Str) from by decide +kernel) rfl (Or.inl rfl))) (Av (by decide)) (fun u1 u2 u3 u4 u5=>AN) (fun u1 u2 u3 u4 u5=>(Aj X5 hr rfl (A0 (pv 0) A8)))) A8)))) (Ae AU) Au (by rfl) (by rfl))
  (Aa (K:=K) (Ay (K:=K) (CC (C8 (Aj Wv hr rfl (A0 (Bp rfl (N:=["point"]) (nt:=1) (js:=[]) (AG.look (NX:=["thing","points"]) (sc:=Ad (top 51)) rfl rfl (by decide +kernel)) (piS K (pv 0)) (fun u1 u2 u3 u4 u5=>(Ap (i:=0) (show List.Nodup (["point"]:List Str) from by decide +kernel) rfl (Or.inl rfl))) (Av (by decide)) (fun u1 u2 u3 u4 u5=>AN) (fun u1 u2 u3 u4 u5=>(Ag (ixT K) (pv 0) Ab (fun u v=>rfl)))) A8)))) (Ae AU) Au (by rfl) (by rfl))
  (Aa (K:=K) (Ai (i:=1) Fj.nd rfl (Or.inl rfl) (AQ (FK K) rfl W0 Ck (A0 (pv 0) A8)))
  (Aa (K:=K) (Ay (K:=K) (Ao Dk (Ak (BD K) rfl VY AE (A0 (Aj Wf hr rfl (A0 (pv 1) A8)) A8)) (C5 (v:=.int 12) rfl Y ⟨_,Z⟩) (Ar _)) (Ae AU) Au (by rfl) (by rfl))
  (Ae (Al (pv 1))) (by rfl)) (by rfl)) (by rfl)) (by rfl)) (by rfl)),?_⟩
 obtain⟨b,r,xs,pss,rfl,hS,hp,an,h1,bD,bN,q⟩:=h;have P2:2<=bi:=by decide
 have hl:=hp.length;have b0:=EV an;refine⟨_,Z,P2,fun tp bg=>?_⟩;have s1:Ac H (upd H tp (.tup [.ty "list",.ty "tuple"])):=Ac.new bg;have O:=Sq.same hS s1;refine⟨r,if b then .type "list" else .type "tuple",tp,[.ty "list",.ty "tuple"],[.type "list",.type "tuple"],true,Z,?_,A9,Z,?_,_,Z,BP ?_⟩
 ·cases b
  ·exact .inl ⟨⟨_,O⟩,Z⟩
  ·exact .inr ⟨⟨_,O⟩,Z⟩
 ·cases b
  ·exact Ug K
  ·exact Uh K
 generalize upd H tp (.tup [.ty "list",.ty "tuple"])=H1 at s1 O ⊢;refine⟨_,Z,r,xs,Z,Sq.len O,Z,_,Z,?_⟩;refine AM (by rw[decide_eq_false (show ¬V.int ((xs.length:Nat):Int)=V.int 0 from fun z=>by have:=V.int.inj z;lia)]<;>rfl) ?_
 have bb:=AY.same hp s1;refine HY (b:=b) (a:=r) (xs:=xs) rfl (fun i zs H'=>Ac H1 H'/\zs=Zf i (.bl true)) ⟨Ac.refl _,Z⟩ (fun i zs H' _ p=>⟨Sq.same O p.1,by rw[p.2,Zp]⟩) (Yz (AS (by lia))) ?_ ?_
 ·rintro i x zs H' hx ⟨sm,rfl⟩;obtain⟨ps,as,bh⟩:=(Paired.get bb hx);refine⟨_,Z,x,ps,Z,(bh.pt).same sm,an ps (Zn as),fun H2 s2=>⟨sm.trans s2,?_⟩⟩;rw[<- df]
 rintro zs H2 ⟨s2,rfl⟩ al bq;have s3:=s2.trans (Ac.new (o:=.lst (Zf xs.length (.bl true))) bq);refine⟨al,Zf xs.length true,Z,SqL.of (by rw[ah];exact A9),_,Z,?_⟩
 refine AM (by rw[GW]<;>rfl) ?_
 generalize upd H2 al (.lst (Zf xs.length (.bl true)))=H3 at s3 ⊢;have bd:=Sq.same O s3;have aP:=AY.same bb s3;refine HY (b:=b) (a:=r) (xs:=xs) rfl (L2 H3 pss fun H3 pss i zs H'=>H'=H3/\zs.length=i/\Am H3 zs ((pss.take i).map fun ps=>ps.getD 0 0)) ⟨Z,Z,.nil⟩ (fun i zs H' _ p=>⟨by rw[p.1];exact bd,p.2.1⟩) (Yz (AS (by lia))) ?_ ?_
 ·rintro i x zs H' hx ⟨rfl,a0,ap⟩;obtain⟨ps,as,a,us,pp,rfl,bp,b2,bt,bB⟩:=(Paired.get aP hx);refine⟨_,Z,a,us,_,_,Z,Z,bp,AB (j:=0) bt,Z,by simp[a0],?_⟩
  rw[ai,as,aj];exact Paired.snoc ap ⟨pp,Z,bB⟩
 rintro zs Hq ⟨hq,a0,ap⟩ pl bf;obtain rfl:H3=Hq:=hq.symm;rw[hl,cV]at ap;have s4:Ac H3 (upd H3 pl (.lst zs)):=Ac.new bf;refine⟨pl,zs,_,Z,SqL.of A9,Am.same ap s4,bD,by rw[Z4];lia,fun H5 s5=>⟨_,Z,BP ?_⟩⟩
 have aC:=s4.trans s5;have ak:=Sq.same bd aC;have ba:=AY.same aP aC;have bc:=(s1.trans s3).trans aC;have bx:∀(t:ad) (H6:Hp),Ac H5 H6->SqT K H6 t xs->(b=false->t=r)->(Ku (Jk 1) Rw) [some (.ref r),some (.ref t)] H6 fun vs H7=>True:=fun t H6 _ _ _=>⟨_,Z,trivial⟩;clear bx;refine⟨_,Z,r,xs,Z,?_⟩;cases b
 ·refine .inr ⟨ak,?_⟩;have sR:=Ac.refl H5;refine⟨_,Z,r,xs,pss,Z,(show SqT K H5 r xs from ak),AY.same ba sR,an,by lia,fun tl H7 J s7 bm aF ab=>?_⟩
  refine⟨tl,J,Z,.inl (SqL.of aF),_,_,Z,Z,_,Z,?_⟩;have be:=ab.length;refine AM (by rw[decide_eq_false (show ¬((12:Int)<((J.length:Nat):Int)) by lia)]<;>rfl) ⟨_,Z,q r H7 ((bc.trans sR).trans s7) ((show SqT K H5 r xs from ak).same s7) (fun _=>rfl)⟩
 ·refine .inl ⟨ak,fun t ht=>?_⟩;have sT:Ac H5 (upd H5 t (.tup xs)):=Ac.new ht;have eT:SqT K (upd H5 t (.tup xs)) t xs:=SqT.of A9;refine⟨_,Z,t,xs,pss,Z,eT,AY.same ba sT,an,by lia,fun tl H7 J s7 bm aF ab=>?_⟩
  refine⟨tl,J,Z,.inl (SqL.of aF),_,_,Z,Z,_,Z,?_⟩;have be:=ab.length;refine AM (by rw[decide_eq_false (show ¬((12:Int)<((J.length:Nat):Int)) by lia)]<;>rfl) ⟨_,Z,q t H7 ((bc.trans sT).trans s7) (eT.same s7) (fun z=>by cases z)⟩
theorem Hy:Ah ["text","most"] ["text","most"] (Ad (top 97)):=fsc
theorem HP{f:ad}{fd:bn}(F:Fun K "are_figures" "are_figures" (top 97) f fd)(W6:mg "all" = none)(VY:mg "len" = none){Y:Tok}(W:mg "FIGURES" = some (.str "0123456789" Y))(hT:P.given.tree=none) :
 Ax P w K mg base CX0 33 f fd ["text","most"] (Nn):=by
 refine F.ok Hy (fun vs H Q E h=>?_) (fun ak A outer s H vs Q E hr h=>?_)
 ·obtain⟨_,rfl,_⟩:=h;rfl
 refine⟨_,(Aa (K:=K) (Ay (K:=K) (PW.pt (Ey (Ao Cr (Ak Gm rfl VY AE (A0 (pv 0) A8)) Ab (Ar _)) (D8 (Ao Dk (Ak Gm rfl VY AE (A0 (pv 0) A8)) (pv 1) (Ar _))))) (Ae (Al Fo)) Au (by rfl) (by rfl))
  (Aa (K:=K) (Ay (K:=K) (PW.pt (HC (Ao Cr (Ag Uq (pv 0) Ab (fun u v=>rfl)) AI (Ar _)) (Fm (Ao Dk (Ak Gm rfl VY AE (A0 (pv 0) A8)) Ab (Ar _))))) (Ae (Al Fo)) Au (by rfl) (by rfl))
  (Ae (Al (Ak (UG K rfl) rfl W6 N8 (A0 (Bp rfl (N:=["sign"]) (nt:=1) (js:=[]) (AG.look (NX:=["text","most"]) (sc:=Ad (top 97)) rfl rfl (by decide +kernel)) (V7 (pv 0)) (fun u1 u2 u3 u4 u5=>(Ap (i:=0) (show List.Nodup (["sign"]:List Str) from by decide +kernel) rfl (Or.inl rfl))) (Av (by decide)) (fun u1 u2 u3 u4 u5=>AN) (fun u1 u2 u3 u4 u5=>(CY Oo (pv 0) (C5 (v:=.str "0123456789") rfl W ⟨_,Z⟩) (by with_unfolding_all rfl)))) A8)))) (by rfl)) (by rfl)),?_⟩
 obtain⟨t,rfl,⟨f1,f2,f3,f4⟩,q⟩:=h;have hs:=dv
 obtain⟨c,r,e⟩:∃c r,sg t=c::r:=by
  cases hc:sg t with
  | nil=>exact absurd hc f1
  | cons c r=>exact⟨c,r,Z⟩
 have hl:=AK t;have hz:t.length<=bi:=by lia
 have h0:1<=t.length:=by rw[hl,e];simp
 refine⟨_,Z,t,Z,hz,Z,_,Z,?_⟩;refine AM (by rw[decide_eq_false (show ¬V.int ((t.length:Nat):Int)=V.int 0 from fun z=>by have:=V.int.inj z;lia)]<;>rfl) ⟨_,Z,t,Z,hz,_,Z,_,_,Z,Z,_,Z,?_⟩
 refine AM (by rw[decide_eq_false (show ¬((t.length:Nat):Int) > 6 by lia)]<;>rfl) ⟨_,Z,t,_,c,Z,Z,hz,(by rw[show t.cps.toList=c::r from e];exact AB (j:=0) rfl),Z,_,Z,?_⟩
 by_cases hc:c=48
 ·subst hc;have ab:=f4 r e;have h1:t.length=1:=by rw[hl,e,ab];rfl
  refine Bi (by rw[decide_eq_true (show V.str ⟨#[48]⟩=V.str (Str.ofString "0") from by decide +kernel)]<;>rfl) ⟨_,Z,t,Z,hz,_,_,Z,Z,_,Z,?_⟩
  refine AM (by rw[decide_eq_false (show ¬((t.length:Nat):Int) > 1 by lia)]<;>rfl) ?_
  refine Bh ⟨⟨_,Z,t,Z,fun d O=>by have:=f3 d O;lia,LA (fun i zs H'=>H'=H/\zs=Zf i (.bl true)) ⟨Z,Z⟩ (fun i zs H' _ h=>by rw[h.2,Zp]) (by lia) ?_ ?_⟩⟩
  ·rintro i d zs H' O ⟨rfl,rfl⟩;have J:=f3 d (Zn O);refine⟨_,Z,_,_,Z,Z,?_⟩;rw[QQ J.1 J.2];exact⟨Z,by rw[<- df]⟩
  rintro zs H' ⟨rfl,rfl⟩ p hp;refine⟨p,Zf (sg t).length true,Z,SqL.of (by rw[ah];exact A9),?_⟩
  rw[GW];exact q _ (Ac.new hp)
 ·rw[decide_eq_false (show ¬V.str ⟨#[c]⟩=V.str (Str.ofString "0") from fun z=>hc (by
   have z1:=congrArg sg (V.str.inj z);rw[CQ]at z1;exact(aK.inj z1).1))]
  refine BP ?_;refine Bh ⟨⟨_,Z,t,Z,fun d O=>by have:=f3 d O;lia,LA (fun i zs H'=>H'=H/\zs=Zf i (.bl true)) ⟨Z,Z⟩ (fun i zs H' _ h=>by rw[h.2,Zp]) (by lia) ?_ ?_⟩⟩
  ·rintro i d zs H' O ⟨rfl,rfl⟩;have J:=f3 d (Zn O);refine⟨_,Z,_,_,Z,Z,?_⟩;rw[QQ J.1 J.2];exact⟨Z,by rw[<- df]⟩
  rintro zs H' ⟨rfl,rfl⟩ p hp;refine⟨p,Zf (sg t).length true,Z,SqL.of (by rw[ah];exact A9),?_⟩
  rw[GW];exact q _ (Ac.new hp)
theorem Og:Ah ["text","most"] ["text","most"] (Ad (top 98)):=fsc
theorem Ov{f:ad}{fd:bn}(F:Fun K "is_top" "is_top" (top 98) f fd)(Wm:Fd P w K mg base 33 "are_figures" ["text","most"] (Nn))(hT:P.given.tree=none) :
 Ax P w K mg base CX0 34 f fd ["text","most"] (Pw):=by
 refine F.ok Og (fun vs H Q E h=>?_) (fun ak A outer s H vs Q E hr h=>?_)
 ·obtain⟨_,rfl,_⟩:=h;rfl
 refine⟨_,(Aa (K:=K) (Ay (K:=K) (C8 (BA K PySem.F.plainAttrs_str PySem.F.slot_str_startswith PySem.F.type_str_startswith IJ (pv 0) (A0 AI A8))) (Ae (Al (MA (CY Dj (pv 0) AI (Ar _)) (My (Aj Wm hr rfl (A0 (Bz Tt (pv 0) (C3 Ab) C4) (A0 (pv 1) A8))))))) Au (by rfl) (by rfl))
  (Ae (Al (Aj Wm hr rfl (A0 (pv 0) (A0 (pv 1) A8))))) (by rfl)),?_⟩
 obtain⟨i,rfl,hi,q⟩:=h;have ab:=dv;have ln:=EM hi
 rcases FJ i with ⟨n,e,Y⟩ | ⟨n,hp,e,Y⟩
 ·obtain⟨c,r,W⟩:∃c r,dg n=c::r:=by
   cases hc:dg n with
   | nil=>exact absurd hc (LJ n)
   | cons c r=>exact⟨c,r,Z⟩
  have hc:=FG (n:=n) (c:=c) (by rw[W];simp)
  refine⟨_,Z,Z,_,_,Z,Z,_,Z,?_⟩;rw[Oe (Y.trans W) (by lia)]
  exact BP ⟨_,Z,_,Z,_,Z,K9 Y (by lia),q⟩
 ·refine⟨_,Z,Z,_,_,Z,Z,_,Z,?_⟩;rw[M8 Y];refine Ia ⟨_,Z,Z,_,Z,?_⟩
  rw[decide_eq_false (show ¬V.str (txI i)=V.str (Str.ofString "-0") from fun z=>by
   have O:=congrArg sg (V.str.inj z);rw[CQ,Y]at O;have J:=Nd n;rw[(aK.inj O).2]at J;have:n=0:=J.symm
   lia)]
  exact Ia ⟨_,Z,_,Z,txI i,45,dg n,Z,Z,Z,Y,by lia,_,Z,_,Z,K9 (n:=n) (by simp[sg]) (by lia),q⟩
theorem DA:Ah ["text","most","parts","number"] ["text","most"] (Ad (top 99)):=fsc
theorem JS{f:ad}{fd:bn}(F:Fun K "number_in" "number_in" (top 99) f fd)(Wu:Fd P w K mg base 34 "is_number" ["thing"] (Nl K))(Y:Fd P w K mg base 34 "is_top" ["text","most"] (Pw))(Wm:Fd P w K mg base 33 "are_figures" ["text","most"] (Nn))(VY:mg "len" = none)(W9:mg "int" = none)(hT:P.given.tree=none) :
 Ax P w K mg base CX0 35 f fd ["text","most"] (GR):=by
 refine F.ok DA (fun vs H Q E h=>?_) (fun ab A outer s H vs Q E hr h=>?_)
 ·obtain⟨_,rfl,_⟩:=h;rfl
 refine⟨_,(Aa (K:=K) (Ai (i:=2) DA.nd rfl (Or.inl rfl) (BA K PySem.F.plainAttrs_str PySem.F.slot_str_split PySem.F.type_str_split Fw (pv 0) (A0 AI A8)))
  (Aa (K:=K) (Ay (K:=K) (PW.pt (Ey (Ao Dk (Ak (BD K) rfl VY AE (A0 (pv 2) A8)) Ab (Ar _)) (D8 (CC (C8 (Aj Y hr rfl (A0 (Ag (ixL K) (pv 2) Ab (fun u v=>rfl)) (A0 (pv 1) A8)))))))) (Ae (Al HI)) Au (by rfl) (by rfl))
  (Aa (K:=K) (Ay (K:=K) (Ao Cr (Ak (BD K) rfl VY AE (A0 (pv 2) A8)) Ab (Ar _)) (Ae (Al (AO (A0 (AQ Gn rfl W9 Kg (A0 (pv 0) A8)) (A0 Ab A8))))) Au (by rfl) (by rfl))
  (Aa (K:=K) (Ay (K:=K) (PW.pt (Ey (Ao Cr (Ag (ixL K) (pv 2) Ab (fun u v=>rfl)) AI (Ar _)) (D8 (CC (C8 (Aj Wm hr rfl (A0 (Ag (ixL K) (pv 2) Ab (fun u v=>rfl)) (A0 (pv 1) A8)))))))) (Ae (Al HI)) Au (by rfl) (by rfl))
  (Aa (K:=K) (Ai (i:=3) DA.nd rfl (Or.inl rfl) (AO (A0 (AQ Gn rfl W9 Kg (A0 (Ag (ixL K) (pv 2) Ab (fun u v=>rfl)) A8)) (A0 (AQ Gn rfl W9 Kg (A0 (Ag (ixL K) (pv 2) Ab (fun u v=>rfl)) A8)) A8))))
  (Ae (Al (Di (C8 (Aj Wu hr rfl (A0 (pv 3) A8))) (pv 3) HI))) (by rfl)) (by rfl)) (by rfl)) (by rfl)) (by rfl)),?_⟩
 obtain⟨x,rfl,O,q⟩:=h;have hs:=dv;have P2:2<=bi:=by decide
 have lt:=CF O;have hd:=O.2;refine⟨_,Z,Z,_,_,Z,Z,by rw[AK,CQ];rfl,by lia,fun p hp=>?_⟩
 rw[P9];have s1:∀o,Ac H (upd H p o):=fun o=>Ac.new hp;by_cases h1:x.den=1
 ·have e:tx x=txI x.num:=if_pos h1;rw[if_pos h1,e];refine⟨_,Z,p,_,Z,.inl (SqL.of A9),_,_,Z,Z,_,Z,BP ?_⟩;refine⟨_,Z,p,_,_,_,Z,Z,SqL.of A9,Z,_,Z,_,Z,O.1,fun H1 W=>?_⟩;refine⟨_,Z,BP ?_⟩;have e1:H1 p=some (.lst [.str (txI x.num)]):=W _ _ A9;refine⟨_,Z,p,_,Z,.inl (SqL.of e1),Z,_,Z,Ia ?_⟩;refine⟨_,Z,_,Z,ZK O.1 (by decide),P2,fun t ht=>?_⟩
  have J:=(s1 _).trans (W.trans (Ac.new (o:=.tup [.int x.num,.int 1]) ht));refine q t _ J ?_ (by rw[show nT x = .tup [.int x.num,.int 1] from by unfold nT;rw[h1];rfl];exact A9)
  cases hn:H t with
  | none=>rfl
  | some o=>exact absurd (W _ _ (s1 _ _ _ hn)) (by rw[ht];exact fun z=>nomatch z)
 ·rw[if_neg h1];refine⟨_,Z,p,_,Z,.inl (SqL.of A9),_,_,Z,Z,_,Z,BP ?_⟩;refine⟨_,Z,p,_,_,_,Z,Z,SqL.of A9,Z,_,Z,_,Z,O.1,fun H1 W=>?_⟩;refine⟨_,Z,BP ?_⟩;have e1:H1 p=some (.lst [.str (txI x.num),.str (txI x.den)]):=W _ _ A9;refine⟨_,Z,p,_,Z,.inl (SqL.of e1),Z,_,Z,BP ?_⟩;refine⟨_,Z,p,_,_,_,Z,Z,SqL.of e1,Z,Z,_,Z,?_⟩
  rw[decide_eq_false (show ¬V.str (txI x.den)=V.str (Str.ofString "1") from fun z=>h1 (by
   have z1:=congrArg sg (V.str.inj z);rw[CQ,Mq]at z1;have z2:=Nd x.den;rw[z1]at z2;exact z2.symm))]
  refine BP ?_;refine⟨_,Z,p,_,_,_,Z,Z,SqL.of e1,Z,_,Z,_,Z,K9 (Mq x.den) hd,fun H2 J=>?_⟩;refine⟨_,Z,BP ?_⟩;have e2:H2 p=some (.lst [.str (txI x.num),.str (txI x.den)]):=J _ _ e1;refine⟨_,Z,p,_,_,_,Z,Z,SqL.of e2,Z,_,Z,ZK O.1 (by decide),_,Z,p,_,_,_,Z,Z,SqL.of e2,Z,_,Z,by lia,P2,fun t ht=>?_⟩
  have et:upd H2 t (.tup [.int x.num,.int (x.den:Int)]) t=some (nT x):=A9;refine⟨_,Z,_,x,Z,Az.of et,fun G3 m3=>?_⟩;refine⟨_,Z,Ia ⟨_,Z,?_⟩⟩;refine q t _ ((s1 _).trans (W.trans (J.trans ((Ac.new ht).trans m3)))) ?_ (m3 _ _ et);cases hn:H t with
  | none=>rfl
  | some o=>exact absurd (J _ _ (W _ _ (s1 _ _ _ hn))) (by rw[ht];exact fun z=>nomatch z)
theorem Ew:Ah ["parts","most","numbers"] ["parts","most"] (Ad (top 101)):=fsc
theorem IA{f:ad}{fd:bn}(F:Fun K "numbers_in" "numbers_in" (top 101) f fd)(Ww:Fd P w K mg base 35 "number_in" ["text","most"] (GR))(hT:P.given.tree=none) :
 Ax P w K mg base CX0 36 f fd ["parts","most"] (Hj K):=by
 refine F.ok Ew (fun vs H Q E h=>?_) (fun ab A outer s H vs Q E hr h=>?_)
 ·obtain⟨_,_,rfl,_⟩:=h;rfl
 refine⟨_,(Aa (K:=K) (Nu (i:=2) rfl Ew.nd rfl rfl (N:=["part","most"]) (nt:=1) (js:=[1]) (AG.look (NX:=["parts","most","numbers"]) (sc:=Ad (top 101)) rfl rfl (by decide +kernel)) (piL K (pv 0)) (fun u1 u2 u3 u4 u5=>(Ap (i:=0) (show List.Nodup (["part","most"]:List Str) from by decide +kernel) rfl (Or.inl rfl))) (Av (by decide)) (fun u1 u2 u3 u4 u5=>AN) (fun u1 u2 u3 u4 u5=>(Aj Ww hr rfl (A0 (pv 0) (A0 (pv 1) A8)))) rfl)
  (Aa (K:=K) (Ay (K:=K) (Ao (inD K hr) HI (pv 2) (by with_unfolding_all rfl)) (Ae AU) Au (by rfl) (by rfl))
  (Ae (Al (pv 2))) (by rfl)) (by rfl)),?_⟩
 obtain⟨l,xs,rfl,hS,hf,hz,q⟩:=h;have hs:=dv;refine Bh ⟨_,Z,l,Z,⟨_,hS⟩,Dc (xs:=xs.map fun x=>V.str (tx x)) (fun i zs H'=>Ac H H'/\zs.length=i/\Am H' zs (xs.take i)) ⟨Ac.refl _,Z,.nil⟩ (fun i zs H' _ h=>⟨Ac.seq h.1 hS,h.2.1⟩) (by rw[Z4];lia) ?_ ?_⟩
 ·rintro i v zs H' hv ⟨O,hl,W⟩;rw[Zl]at hv;obtain⟨x,J,rfl⟩:=(dh.mp hv);refine⟨_,Z,_,Z,x,Z,hf x (Zn J),fun p H2 m2 hp e2=>⟨O.trans m2,by simp[hl],?_⟩⟩
  have hi:i<xs.length:=(YG.mp J).1;rw[ai,J];exact Paired.snoc (Am.same W m2) ⟨p,Z,e2⟩
 rintro zs H' ⟨O,hl,W⟩ p hp;rw[Z4,cV]at *;have sn:Ac H' (upd H' p (.lst zs)):=Ac.new hp;have Y:=Am.same W sn;have e1:upd H' p (.lst zs) p=some (.lst zs):=A9;refine⟨_,Z,MV ⟨p,xs.map nD,.none,Z,AD.rdsL Y.nums (SqL.of e1),.non,?_,Z,_,Z,?_⟩⟩
 ·exact Ei xs
 rw[show((xs.map nD).any fun y=>PyData.eqv y .none)=false from Ll xs];refine BP ⟨_,Z,?_⟩;refine q p zs _ (O.trans sn) ?_ e1 Y;cases W:H p with
 | none=>rfl
 | some o=>exact absurd (O _ _ W) (by rw[hp];exact fun z=>nomatch z)
theorem BU:Ah ["text","most","points","part","point"] ["text","most"] (Ad (top 102)):=fsc
theorem Ft{f:ad}{fd:bn}(F:Fun K "read_points_of" "read_points_of" (top 102) f fd)(X6:Fd P w K mg base 33 "check_text" ["text"] (Pz))(Wx:Fd P w K mg base 36 "points_of" ["thing"] (GQ K))(X7:Fd P w K mg base 36 "numbers_in" ["parts","most"] (Hj K))(W0:mg "tuple" = none)(VY:mg "len" = none)(hT:P.given.tree=none) :
 Ax P w K mg base CX0 37 f fd ["text","most"] (Hi K):=by
 refine F.ok BU (fun vs H Q E h=>?_) (fun b8 A outer s H vs Q E hr h=>?_)
 ·obtain⟨_,rfl,_⟩:=h;rfl
 refine⟨_,(Aa (K:=K) (Ca (Aj X6 hr rfl (A0 (pv 0) A8)))
  (Aa (K:=K) (Ai (i:=2) BU.nd rfl (Or.inl rfl) (Bu A8))
  (Aa (K:=K) (B0 (K:=K) PassesOwn.never rfl (piL K (BA K PySem.F.plainAttrs_str PySem.F.slot_str_split PySem.F.type_str_split Fw (pv 0) (A0 AI A8))) (Ap (i:=3) BU.nd rfl (Or.inl rfl)) (Aa (K:=K) (Ai (i:=4) BU.nd rfl (Or.inl rfl) (AQ (FK K) rfl W0 Ck (A0 (Aj X7 hr rfl (A0 (BA K PySem.F.plainAttrs_str PySem.F.slot_str_split PySem.F.type_str_split Fw (pv 3) (A0 AI A8)) (A0 (pv 1) A8))) A8)))
  (Aa (K:=K) (Ay (K:=K) (Ao (Qj K) (Ak (BD K) rfl VY AE (A0 (pv 4) A8)) (AO (A0 Ab (A0 Ab A8))) (by with_unfolding_all rfl)) (Ae AU) Au (by rfl) (by rfl))
  (Ae (Ca (BA K PySem.F.plainAttrs_list PySem.F.slot_list_append PySem.F.type_list_append Dm (pv 2) (A0 (pv 4) A8)))) (by rfl)) (by rfl)) (by rfl))
  (Ae (Al (Aj Wx hr rfl (A0 (pv 2) A8)))) (by rfl)) (by rfl)) (by rfl)),?_⟩
 obtain⟨pss,rfl,bm,an,hf,bq,bt,q⟩:=h;have hs:=dv;have P0:0<=bi:=by decide
 have P2:2<=bi:=by decide
 have be:pss≠[]:=ae.mp bm;have b7:=EV an;have jl:=Ea (sep:=GB) (by rw[Gi];decide) (KN hf an)
 rw[Z4]at jl;refine⟨_,Z,_,Z,?_⟩;refine⟨P0,fun pl ba=>?_⟩;have s0:∀o,Ac H (upd H pl o):=fun o=>Ac.new ba;refine⟨_,Z,Z,_,_,Z,Z,(by show(GB.length == 0)=false;rw[Gi];rfl),by show(JJ pss).length+2<=bi;unfold JJ;lia,fun l hl=>?_⟩
 have es:Txt.split (JJ pss) (Str.ofString ", ")=pss.map ptx:=Kw be;rw[es];have lp:l≠pl:=(As A9 hl).symm;have ep:upd (upd H pl (.lst [])) l (.lst ((pss.map ptx).map V.str)) pl=some (.lst []):=by rw[Aq lp.symm];exact A9
 have el:upd (upd H pl (.lst [])) l (.lst ((pss.map ptx).map V.str)) l=some (.lst ((pss.map ptx).map V.str)):=A9;have s1:Ac H (upd (upd H pl (.lst [])) l (.lst ((pss.map ptx).map V.str))):=(s0 _).trans (Ac.new hl);generalize upd (upd H pl (.lst [])) l (.lst ((pss.map ptx).map V.str))=H1 at ep el s1 ⊢;refine⟨l,Z,⟨_,SqL.of el⟩,Dr (xs:=(pss.map ptx).map V.str) (L5 H l pss pl K fun H l pss pl K i σ H'=>Ac H H'/\H' l=some (.lst ((pss.map ptx).map V.str))/\∃(zs:List V) (z3 z4:Option V),σ=[some (.str (JJ pss)),some (.int 6),some (.ref pl),z3,z4]/\H' pl=some (.lst zs)/\zs.length=i/\AY K H' zs (pss.take i)) ⟨s1,el,[],none,none,Z,ep,Z,.nil⟩ (fun i σ H' _ h=>SqL.of h.2.1) ?_ ?_⟩
 ·rintro i v σ H2 hv bc;refine Cm bc fun sm a0 aC=>?_;refine Dd aC fun zs z3 z4 ab=>?_;clear aC;refine Ep ab fun bh ez aP al=>?_;clear ab;obtain rfl:=bh
  try clear bc
  rw[Zl,Zl]at hv;obtain⟨t,ht,rfl⟩:=(dh.mp hv);obtain⟨ps,aF,rfl⟩:=(dh.mp ht);have hm:=Zn aF;have Y:=an ps hm;have bl:ps≠[]:=fun z=>by rw[z]at Y;simp at Y
  have b5:=Nt (hf ps hm) (by rcases Y with z | z<;>lia)
  refine⟨_,Z,Z,_,_,Z,Z,(by show(GC.length == 0)=false;rw[Gj];rfl),by lia,fun lc b0=>?_⟩
  have b4:Txt.split (ptx ps) (Str.ofString ":")=ps.map tx:=Kx bl;rw[b4];have s3:Ac H2 (upd H2 lc (.lst ((ps.map tx).map V.str))):=Ac.new b0;refine⟨_,Z,lc,ps,Z,SqL.of (by rw[show(ps.map fun x=>V.str (tx x))=(ps.map tx).map V.str by rw[cy];rfl];exact A9),hf ps hm,by rcases Y with z | z<;>lia,fun pn us H4 m4 b6 e4 hn=>?_⟩
  have bp:=hn.length;refine⟨pn,us,Z,.inl ⟨SqL.of e4,fun J bx=>?_⟩⟩;have s5:Ac H4 (upd H4 J (.tup us)):=Ac.new bx;have b1:Ac H2 (upd H4 J (.tup us)):=s3.trans (m4.trans s5);refine⟨_,Z,J,us,Z,.inr (SqT.of A9),P2,fun tt bD=>?_⟩;have s6:Ac (upd H4 J (.tup us)) (upd (upd H4 J (.tup us)) tt (.tup [.int 2,.int 3])):=Ac.new bD;refine⟨tt,_,Z,.inr (SqT.of A9),Z,Z,_,Z,?_⟩
  have bB:inV (V.int ((us.length:Nat):Int)) [.int 2,.int 3]=true:=by
   rcases Y with z | z
   ·rw[bp,z];rfl
   ·rw[bp,z];rfl
  rw[bB];refine BP ?_;have W:=b1.trans s6;have et:SqT K (upd (upd H4 J (.tup us)) tt (.tup [.int 2,.int 3])) J us:=SqT.of (s6 _ _ A9);have bd:=Am.same hn (s5.trans s6);have O:=W _ _ ez;have bb:=W _ _ a0;have ap:=AY.same al W;generalize upd (upd H4 J (.tup us)) tt (.tup [.int 2,.int 3])=H6 at W et bd O bb ap ⊢;refine⟨_,Z,.inl ⟨Z,_,SqL.of O⟩,_,Z,pl,zs,_,Z,Z,O,by rw[aP];have:=(YG.mp aF).1;lia,?_⟩
  have b2:PtT K H6 (.ref J) ps:=by
   cases bd with
   | nil=>exact absurd rfl bl
   | cons a b =>
     obtain⟨r,rfl,hr⟩:=a;exact⟨J,_,r,Z,et,Paired.cons (Az.of hr) (Am.nums b),Z,hr⟩
  have bN:H pl=none:=ba;refine⟨?_,?_,zs++[.ref J],_,_,Z,A9,by simp[aP],?_⟩
  ·exact Ac.put (sm.trans W) bN
  ·rw[Aq lp];exact bb
  ·rw[ai,aF];exact Paired.snoc (AY.put ap O) (PtT.put b2 O)
 rintro σ H2 bf;refine Cm bf fun sm a0 as=>?_;refine Dd as fun zs z3 z4 ak=>?_;clear as;refine Ep ak fun bg ez aP al=>?_;clear ak;obtain rfl:=bg
 try clear bf
 rw[Z4,Z4,cV]at *;refine⟨_,Z,true,pl,zs,pss,Z,SqL.of ez,al,an,bm,bq,bt,fun p H3 m3 b3 _=>?_⟩;exact q p zs H3 (sm.trans m3) b3 (AY.same al m3)
theorem JH:Ah ["self","text"] ["self","text"] (Ad (Cb (top 130) 0)):=fsc
theorem K2{f:ad}{fd:bn}(F:Fun K "__init__" "Desk.__init__" (Cb (top 130) 0) f fd){Y:ad}(W:O4 K Y)(X8:Fd P w K mg base 37 "read_points_of" ["text","most"] (Hi K)){ab:Tok}(O:mg "SIX" = some (.int 6 ab))(hT:P.given.tree=none) :
 Ax P w K mg base CX0 38 f fd ["self","text"] (GS K Y):=by
 refine F.ok JH (fun vs H Q E h=>?_) (fun ak A outer s H vs Q E hr h=>?_)
 ·obtain⟨_,_,_,rfl,_⟩:=h;rfl
 refine⟨_,(Ae (Nv K (pv 0) (Aj X8 hr rfl (A0 (pv 1) (A0 (C5 (v:=.int 6) rfl O ⟨_,Z⟩) A8))) rfl)),?_⟩;obtain⟨p,dx,pss,rfl,hp,h1,h2,h3,h4,h5,q⟩:=h;refine⟨_,Z,pss,Z,h1,h2,h3,h4,h5,fun r xs H' s hr hx=>?_⟩;have J:=s _ _ hp;refine⟨_,Z,p,Y,dx,[],Z,J,W.cl,W.na_points,(by show 0<1000;decide),?_⟩
 exact q r xs _ (fun b o hb e=>by rw[Aq hb];exact s _ _ e) A9 ⟨SqT.but hr J,AY.but hx J,h2,h1,h4,h5⟩
theorem CB:Ah ["numbers","least","number","fewest"] ["numbers","least"] (Ad (top 128)):=fsc
theorem GN{f:ad}{fd:bn}(F:Fun K "check_wholes" "check_wholes" (top 128) f fd)(W4:mg "zip" = none)(hT:P.given.tree=none) :
 Ax P w K mg base CX0 33 f fd ["numbers","least"] (FL K):=by
 refine F.ok CB (fun vs H Q E h=>?_) (fun an A outer s H vs Q E hr h=>?_)
 ·obtain⟨_,_,_,_,_,rfl,_⟩:=h;rfl
 refine⟨_,(Ae (B0 (K:=K) PassesOwn.never rfl (TQ K rfl W4 (A0 (pv 0) (A0 (pv 1) A8))) (pgT K (n:=2) rfl (By (Ap (i:=2) CB.nd rfl (Or.inl rfl)) (By (Ap (i:=3) CB.nd rfl (Or.inl rfl)) Eg))) (Ae (Ay (K:=K) (PW.pt (Ey (Ao Dj (Ag (ixT K) (pv 2) Ab (fun u v=>rfl)) Ab (Ar _)) (D8 (Ao Ez (Ag (ixT K) (pv 2) Ab (fun u v=>rfl)) (pv 3) (Ar _))))) (Ae AU) Au (by rfl) (by rfl))) (by rfl))),?_⟩
 obtain⟨l,t,xs,qs,ls,rfl,h1,hn,h2,hb,q⟩:=h;refine⟨_,Z,_,Z,l,t,xs,_,Z,h1,h2,QO (fun i σ H'=>Ac H H'/\∃z2 z3,σ=[some (.ref l),some (.ref t),z2,z3]) ⟨Ac.refl _,_,_,Z⟩ (fun i σ H' _ h=>⟨Ac.seq h.1 h1,h2.same h.1⟩) ?_ ?_⟩
 ·rintro i x y T σ H' hx hy hT J;refine BJ J fun sm Y=>?_;refine Cj Y fun z2 z3 ab=>?_;clear Y;obtain rfl:=ab
  try clear J
  rw[Zl]at hy;obtain⟨f,hf,rfl⟩:=(dh.mp hy);obtain⟨c,hc,r,rfl,hr⟩:=(Paired.get hn hx);have s1:=sm.trans (Ac.new (o:=.tup [.ref r,.int f]) hT);have O:SqT K (upd H' T (.tup [.ref r,.int f])) r [.int c.num,.int (c.den:Int)]:=SqT.of (s1 _ _ hr);refine⟨T,_,Z,SqT.of A9,Z,_,_,Z,_,_,Z,Z,?_⟩;refine⟨_,Z,r,_,_,_,Z,Z,O,Z,Z,_,Z,?_⟩;obtain⟨hd,hl⟩:=(UM hb hc hf);refine AM (by rw[decide_eq_true (show V.int (c.den:Int)=V.int 1 by rw[hd];rfl)]<;>rfl) ⟨_,Z,r,_,_,_,Z,Z,O,Z,_,Z,_,_,Z,Z,_,Z,?_⟩
  exact AM (by rw[decide_eq_false hl]<;>rfl) ⟨s1,_,_,Z⟩
 ·rintro σ H' ak;refine BJ ak fun sm W=>?_;refine Cj W fun z2 z3 al=>?_;clear W;obtain rfl:=al
  try clear ak
  exact q H' sm
theorem Ci:Ah ["words","numbers","counts"] ["words"] (Ad (top 129)):=fsc
theorem Fu{f:ad}{fd:bn}(F:Fun K "numbers_of_row" "numbers_of_row" (top 129) f fd)(X9:Fd P w K mg base 33 "check_wholes" ["numbers","least"] (FL K))(Ww:Fd P w K mg base 35 "number_in" ["text","most"] (GR))(VY:mg "len" = none){bN:Tok}(b0:mg "SIX" = some (.int 6 bN))(hT:P.given.tree=none){be:ad}{bh:ad}{as:ad}(ap:∀H:Hp,SqT K H as [.int 2,.int 2]){bg:ad}{bf:ad}{bm:ad}{bd:ad}{bl:ad}{bp:ad}{bc:ad}{ak:ad}(an:∀H:Hp,SqT K H ak [.int 1,.int 16]){a0:ad}{bb:ad}{J:ad}(al:∀H:Hp,SqT K H J [.int 2,.int 2]){ba:ad}{Y:ad}(aP:mg "COUNTS" = some (.ref Y))(O:KDk P w K Y [(Sum.inr "put",.ref be),(Sum.inr "take",.ref bh),(Sum.inr "height",.ref as),(Sum.inr "slope",.ref bg),(Sum.inr "noslope",.ref bf),(Sum.inr "points",.ref bm),(Sum.inr "curve",.ref bd),(Sum.inr "steps",.ref bl),(Sum.inr "at",.ref bp),(Sum.inr "slopeat",.ref bc),(Sum.inr "misses",.ref ak),(Sum.inr "bounds",.ref a0),(Sum.inr "noughts",.ref bb),(Sum.inr "wrong",.ref J),(Sum.inr "quotient",.ref ba)]){aF:ad}(aC:∀H:Hp,SqT K H aF [.int 1,.int 0]){bq:ad}{W:ad}(bt:mg "LEAST" = some (.ref W))(ab:KDk P w K W [(Sum.inr "wrong",.ref aF),(Sum.inr "quotient",.ref bq)]) :
 Ax P w K mg base CX0 36 f fd ["words"] (Jw K):=by
 refine F.ok Ci (fun vs H Q E h=>?_) (fun b8 A outer s H vs Q E hr h=>?_)
 ·obtain⟨_,_,_,rfl,_⟩:=h;rfl
 refine⟨_,(Aa (K:=K) (Ay (K:=K) (Q8 (MB P w K (Ag (ixL K) (pv 0) Ab (fun u v=>rfl)) (C5 (v:=.ref Y) rfl aP rfl)) (by with_unfolding_all rfl)) (Ae AU) Au (by rfl) (by rfl))
  (Aa (K:=K) (Nu (i:=1) rfl Ci.nd rfl rfl (N:=["word"]) (nt:=1) (js:=[]) (AG.look (NX:=["words","numbers","counts"]) (sc:=Ad (top 129)) rfl rfl (by decide +kernel)) (piL K (Bz (slL K) (pv 0) (C3 Ab) C4)) (fun u1 u2 u3 u4 u5=>(Ap (i:=0) (show List.Nodup (["word"]:List Str) from by decide +kernel) rfl (Or.inl rfl))) (Av (by decide)) (fun u1 u2 u3 u4 u5=>AN) (fun u1 u2 u3 u4 u5=>(Aj Ww hr rfl (A0 (pv 0) (A0 (C5 (v:=.int 6) rfl b0 ⟨_,Z⟩) A8)))) rfl)
  (Aa (K:=K) (Ai (i:=2) Ci.nd rfl (Or.inl rfl) (HJ P w K (C5 (v:=.ref Y) rfl aP rfl) (Ag (ixL K) (pv 0) Ab (fun u v=>rfl)) (fun u v=>rfl)))
  (Aa (K:=K) (Ay (K:=K) (PW.pt (Ey (Ao Ez (Ak (BD K) rfl VY AE (A0 (pv 1) A8)) (Ag (ixT K) (pv 2) Ab (fun u v=>rfl)) (Ar _)) (D8 (Ao Dk (Ak (BD K) rfl VY AE (A0 (pv 1) A8)) (Ag (ixT K) (pv 2) Ab (fun u v=>rfl)) (Ar _))))) (Ae AU) Au (by rfl) (by rfl))
  (Aa (K:=K) (Ay (K:=K) (Ao (inD K hr) HI (pv 1) (by with_unfolding_all rfl)) (Ae AU) Au (by rfl) (by rfl))
  (Aa (K:=K) (Ca (Aj X9 hr rfl (A0 (pv 1) (A0 (Om P w K (C5 (v:=.ref W) rfl bt rfl) (Ag (ixL K) (pv 0) Ab (fun u v=>rfl)) (AO A8) ⟨Z,Z,Z,Z⟩) A8))))
  (Ae (Al (pv 1))) (by rfl)) (by rfl)) (by rfl)) (by rfl)) (by rfl)) (by rfl)),?_⟩
 obtain⟨l,i,qs,rfl,hS,i6,b7,b3,hf,hw,q⟩:=h;have hs:=dv;have P0:0<=bi:=by decide
 have hi:i=0\/i=1\/i=2:=by lia
 have b6:qs.length<=16:=by rcases hi with rfl | rfl | rfl<;>exact Yy b3 (by decide)
 obtain⟨kvs,g,dC,hg,hT⟩:∃kvs g,KDk P w K Y kvs/\D6 kvs (Sum.inr (wd9 i))=some (.ref g)/\∀H:Hp,SqT K H g [.int (lo9 i:Nat),.int (hi9 i:Nat)]:=by
  rcases hi with rfl | rfl | rfl
  ·exact⟨_,_,O,Z,ap⟩
  ·exact⟨_,_,O,Z,al⟩
  ·exact⟨_,_,O,Z,an⟩
 obtain⟨b4,dL,hn⟩:∃kvs,KDk P w K W kvs/\((D6 kvs (Sum.inr (wd9 i))=none/\ls9 i=[])\/∃g,D6 kvs (Sum.inr (wd9 i))=some (.ref g)/\∀H:Hp,SqT K H g ((ls9 i).map V.int)):=by
  rcases hi with rfl | rfl | rfl
  ·exact⟨_,ab,.inl ⟨Z,Z⟩⟩
  ·exact⟨_,ab,.inr ⟨_,Z,aC⟩⟩
  ·exact⟨_,ab,.inl ⟨Z,Z⟩⟩
 clear O ab ap al an aC hi i6;refine⟨⟨_,Z,l,_,_,_,Z,Z,hS,AB (j:=0) rfl,Y,kvs,Sum.inr (wd9 i),Z,dC,Z,_,Z,?_⟩⟩;rw[hg];refine BP ?_;refine Bh ⟨_,Z,1,Z,l,_,Z,hS,fun c hc=>?_⟩;have ec:CM (V.str (wd9 i)::qs.map fun x=>V.str (tx x)) (some 1) none=qs.map (fun x=>V.str (tx x)):=(Ec _ 1).trans rfl;rw[ec];have s1:Ac H (upd H c (.lst (qs.map fun x=>V.str (tx x)))):=Ac.new hc;have e1:upd H c (.lst (qs.map fun x=>V.str (tx x))) c=some (.lst (qs.map fun x=>V.str (tx x))):=A9;generalize upd H c (.lst (qs.map fun x=>V.str (tx x)))=H1 at s1 e1 ⊢;refine⟨c,Z,⟨_,SqL.of e1⟩,Dc (xs:=qs.map fun x=>V.str (tx x)) (fun i zs H'=>Ac H1 H'/\zs.length=i/\Am H' zs (qs.take i)) ⟨Ac.refl _,Z,.nil⟩ (fun i zs H' _ h=>⟨SqL.of (h.1 _ _ e1),h.2.1⟩) (by rw[Z4];lia) ?_ ?_⟩
 ·rintro j v zs H' hv ⟨sm,hl,hn⟩;rw[Zl]at hv;obtain⟨x,hx,rfl⟩:=(dh.mp hv);refine⟨_,Z,x,Z,hf x (Zn hx),fun p H2 m2 hp e2=>⟨sm.trans m2,by simp[hl],?_⟩⟩
  rw[ai,hx];exact Paired.snoc (Am.same hn m2) ⟨p,Z,e2⟩
 rintro zs H' ⟨sm,hl,hz⟩ p hp;rw[Z4,cV]at *;have s2:Ac H (upd H' p (.lst zs)):=(s1.trans sm).trans (Ac.new hp);have b1:H p=none:=(s1.trans sm).free hp;have ep:upd H' p (.lst zs) p=some (.lst zs):=A9;have bB:=Am.same hz (Ac.new (o:=.lst zs) hp);generalize upd H' p (.lst zs)=H2 at s2 ep bB ⊢;clear hz hp sm s1 e1;refine⟨⟨_,Z,l,_,_,_,Z,Z,Ac.seq s2 hS,AB (j:=0) rfl,Y,kvs,Sum.inr (wd9 i),_,Z,dC,Z,hg,?_⟩⟩;refine⟨_,Z,p,_,Z,.inl (SqL.of ep),_,Z,g,_,_,_,Z,Z,hT H2,AB (j:=0) rfl,_,_,Z,Z,?_⟩;have b9:zs.length=qs.length:=bB.length;refine⟨_,Z,?_⟩;refine AM (by rw[decide_eq_false (show ¬((zs.length:Nat):Int)<((lo9 i:Nat):Int) by lia)]<;>rfl) ⟨_,Z,p,_,Z,.inl (SqL.of ep),_,Z,g,_,_,_,Z,Z,hT H2,AB (j:=1) rfl,_,_,Z,Z,_,Z,?_⟩
 refine AM (by rw[decide_eq_false (show ¬((zs.length:Nat):Int) > ((hi9 i:Nat):Int) by lia)]<;>rfl) ?_
 refine⟨_,Z,MV ⟨p,qs.map nD,.none,Z,AD.rdsL bB.nums (SqL.of ep),.non,Ei qs,Z,_,Z,?_⟩⟩;rw[show((qs.map nD).any fun y=>PyData.eqv y .none)=false from Ll qs];refine BP ⟨_,Z,⟨W,b4,Z,dL,_,Z,l,_,_,_,Z,Z,Ac.seq s2 hS,AB (j:=0) rfl,P0,fun e he=>⟨Sum.inr (wd9 i),Z,?_⟩⟩⟩;have s3:=s2.trans (Ac.new (o:=.tup []) he);have bx:=(Ac.new (o:=.tup []) he) _ _ ep;have bD:=Am.same bB (Ac.new (o:=.tup []) he)
 rcases hn with ⟨hn,b5⟩ | ⟨g',hn,b2⟩
 ·rw[hn];exact⟨p,e,zs,qs,[],Z,SqL.of bx,bD,SqT.of A9,by cases qs<;>rfl,fun H9 s9=>⟨_,Z,q p zs _ (s3.trans s9) b1 (s9 _ _ bx) (Am.same bD s9)⟩⟩
 ·rw[hn];exact⟨p,g',zs,qs,ls9 i,Z,SqL.of bx,bD,b2 _,hw,fun H9 s9=>⟨_,Z,q p zs _ (s3.trans s9) b1 (s9 _ _ bx) (Am.same bD s9)⟩⟩
theorem Dz:Ah ["top","bottom","measure"] ["top","bottom"] (Ad (top 16)):=fsc
theorem JR{f:ad}{fd:bn}(F:Fun K "number_of" "number_of" (top 16) f fd)(Wb:Fd P w K mg base 33 "common_measure" ["one","other"] (IV))(hT:P.given.tree=none) :
 Ax P w K mg base CX0 34 f fd ["top","bottom"] (DT):=by
 refine F.ok Dz (fun vs H Q E h=>?_) (fun ab A outer s H vs Q E hr h=>?_)
 ·obtain⟨_,_,rfl,_⟩:=h;rfl
 refine⟨_,(Aa (K:=K) (Ay (K:=K) (Ao Cr (pv 1) Ab (Ar _)) (Ae AU) Au (by rfl) (by rfl))
  (Aa (K:=K) (Ai (i:=2) Dz.nd rfl (Or.inl rfl) (Aj Wb hr rfl (A0 (pv 0) (A0 (pv 1) A8))))
  (Aa (K:=K) (Ay (K:=K) (Ao Ez (pv 1) Ab (Ar _)) (Ae (Ai (i:=2) Dz.nd rfl (Or.inl rfl) (Ny Ji (pv 2)))) Au (by rfl) (by rfl))
  (Ae (Al (AO (A0 (Af (BY hr hT) (pv 0) (pv 2)) (A0 (Af (BY hr hT) (pv 1) (pv 2)) A8))))) (by rfl)) (by rfl)) (by rfl)),?_⟩
 obtain⟨a,b,rfl,J,q⟩:=h;refine⟨_,Z,Z,_,Z,?_⟩;refine AM (by rw[decide_eq_false (fun z=>J (V.int.inj z))]<;>rfl) ?_
 refine⟨_,Z,_,Z,a,b,Z,?_⟩;refine⟨_,Z,_,_,Z,Z,_,Z,?_⟩;have O:Nm.msr a b≠0:=Nm.msr_ne J
 have Y:∀p,H p=none->Q (.ref p) (upd H p (.tup [.int (a.fdiv (Nm.msr a b)),.int (b.fdiv (Nm.msr a b))])):=fun p hp=>by
  rw[Nm.top_msr J,Nm.bottom_msr J];exact q p hp
 by_cases hb0:b<0
 ·have W:Nm.msr a b = -(ZL a b:Int):=by unfold Nm.msr;rw[if_pos hb0]
  rw[W]at O Y;refine Bi (by rw[decide_eq_true hb0]<;>rfl) ⟨_,Z,_,Z,?_⟩
  exact⟨_,Z,_,Z,_,_,Z,Z,O,_,Z,_,Z,_,_,Z,Z,O,(by decide:2<=bi),Y⟩
 ·have W:Nm.msr a b=(ZL a b:Int):=by unfold Nm.msr;rw[if_neg hb0]
  rw[W]at O Y;refine AM (by rw[decide_eq_false hb0]<;>rfl) ?_
  exact⟨_,Z,_,Z,_,_,Z,Z,O,_,Z,_,Z,_,_,Z,Z,O,(by decide:2<=bi),Y⟩
theorem PN:Ah ["a","b"] ["a","b"] (Ad (top 19)):=fsc
theorem Qg{f:ad}{fd:bn}(F:Fun K "times" "times" (top 19) f fd)(W7:Fd P w K mg base 34 "number_of" ["top","bottom"] (DT))(hT:P.given.tree=none) :
 Ax P w K mg base CX0 35 f fd ["a","b"] (DU K (· * ·)):=by
 refine F.ok PN (fun vs H Q E h=>?_) (fun ak A outer s H vs Q E Y h=>?_)
 ·obtain⟨_,_,_,_,_,_,rfl,_⟩:=h;rfl
 refine⟨_,(Ae (Al (Aj W7 Y rfl (A0 (Af Aw (Ag (ixT K) (pv 0) Ab (fun u v=>rfl)) (Ag (ixT K) (pv 1) Ab (fun u v=>rfl))) (A0 (Af Aw (Ag (ixT K) (pv 0) Ab (fun u v=>rfl)) (Ag (ixT K) (pv 1) Ab (fun u v=>rfl))) A8))))),?_⟩;obtain⟨x,y,p,q,m,n,rfl,⟨r,rfl,Y⟩,⟨u,rfl,W⟩,J,O,ab,k⟩:=h;refine⟨_,Z,r,_,_,_,Z,Z,Y,Z,_,Z,u,_,_,_,Z,Z,W,Z,_,_,Z,Z,BL.bd J.1 O.1,?_⟩;refine⟨_,Z,r,_,_,_,Z,Z,Y,Z,_,Z,u,_,_,_,Z,Z,W,Z,_,_,Z,Z,BL.bd J.2 O.2,?_⟩;refine⟨_,_,Z,ZU (Nm.den_ne p) (Nm.den_ne q),fun z hz=>?_⟩;have e:=k z hz
 try dsimp only at e
 rw[<- Nm.times_eq]at e;exact e
theorem KC:Ah ["curve"] ["curve"] (Ad (top 32)):=fsc
theorem KW{f:ad}{fd:bn}(F:Fun K "slope_of" "slope_of" (top 32) f fd)(Y:Fd P w K mg base 35 "times" ["a","b"] (DU K (· * ·)))(W0:mg "tuple" = none)(VZ:mg "range" = none)(VY:mg "len" = none)(hT:P.given.tree=none) :
 Ax P w K mg base CX0 36 f fd ["curve"] (Js K):=by
 refine F.ok KC (fun vs H Q E h=>?_) (fun ap A outer s H vs Q E hr h=>?_)
 ·obtain⟨_,_,_,rfl,_⟩:=h;rfl
 refine⟨_,(Ae (Al (AQ (FK K) rfl W0 Ck (A0 (Bp rfl (N:=["k","curve"]) (nt:=1) (js:=[0]) (AG.look (NX:=["curve"]) (sc:=Ad (top 32)) rfl rfl (by decide +kernel)) (Oj rfl VZ (A0 Ab (A0 (Ak (BD K) rfl VY AE (A0 (pv 0) A8)) A8))) (fun u1 u2 u3 u4 u5=>(Ap (i:=0) (show List.Nodup (["k","curve"]:List Str) from by decide +kernel) rfl (Or.inl rfl))) (Av (by decide)) (fun u1 u2 u3 u4 u5=>AN) (fun u1 u2 u3 u4 u5=>(Aj Y hr rfl (A0 (Ag (ixT K) (pv 1) (pv 0) (fun u v=>rfl)) (A0 (AO (A0 (pv 0) (A0 Ab A8))) A8))))) A8)))),?_⟩
 obtain⟨r,qs,n,rfl,⟨xs,hS,hn⟩,hz,hB,an,q⟩:=h;have hl:=hn.length;have bk:∀k:Nat,k<=1000->RB 11 ((k:Nat):Rat):=fun k hk=>⟨by show Bd 11 (((k:Nat):Rat)).num;rw[cY];unfold Bd;lia,by rw[cZ];unfold Bd;decide⟩
 refine Bh ⟨_,Z,r,xs,Z,.inr hS,1,(xs.length:Int),Z,⟨by decide,by decide,by lia,by lia⟩,?_⟩
 have en:((xs.length:Int)-1).toNat=qs.length-1:=by rw[hl];lia
 rw[en];refine MR (L3 H K qs fun H K qs i zs H'=>Ac H H'/\zs.length=i/\AD K H' zs ((Yu i).map fun j=>qs.getD (j+1) 0*((j+1:Nat):Rat))) ⟨Ac.refl _,Z,.nil⟩ (fun i zs H' _ p=>p.2.1) (Yy (Zy _ _) (Yz (AS hz))) ?_ ?_
 ·rintro i zs H' hi ⟨sm,O,W⟩;have J:i+1<qs.length:=by lia
  have hq:qs[i+1]? = some qs[i+1]:=aB J;obtain⟨x,hx,ab⟩:=(Paired.get' hn hq)
  have al:atI xs (1+(i:Int))=some x:=by
   rw[show 1+(i:Int)=((i+1:Nat):Int) by lia]
   exact AB hx
  refine⟨_,Z,_,Z,r,xs,_,x,Z,Z,SqT.same hS sm,al,_,Z,(by decide:2<=bi),fun t ht=>?_⟩
  have ak:Az K (upd H' t (.tup [.int (1+(i:Int)),.int 1])) (.ref t) (((i+1:Nat)):Rat):=Az.of (by
   rw[A9];unfold nT;rw[cY,cZ,show 1+(i:Int)=((i+1:Nat):Int) by lia]
   rfl)
  refine⟨_,_,_,_,n,11,Z,(ab.same sm).same (Ac.new ht),ak,hB _ (aH J),bk (i+1) (by lia),by lia,fun p hp=>⟨(sm.trans (Ac.new ht)).trans (Ac.new hp),by simp[O],?_⟩⟩
  rw[aW,aj];refine Paired.snoc (AD.same (AD.same W (Ac.new ht)) (Ac.new hp)) ?_;have e:qs.getD (i+1) 0=qs[i+1]:=by rw[aw,hq];rfl
  show Az K _ _ (qs.getD (i+1) 0*((i+1:Nat):Rat));rw[e];exact Az.of A9
 ·rintro zs H' ⟨sm,O,W⟩ p hp;exact⟨p,zs,Z,.inl ⟨SqL.of A9,fun u hu=>q u _ ((sm.trans (Ac.new hp)).trans (Ac.new hu)) ⟨zs,SqT.of A9,AD.same (AD.same W (Ac.new hp)) (Ac.new hu)⟩⟩⟩
theorem CJ:Ah ["numbers","bottom","number"] ["numbers"] (Ad (top 25)):=fsc
theorem JW{f:ad}{fd:bn}(F:Fun K "bottom_of" "bottom_of" (top 25) f fd)(Wb:Fd P w K mg base 33 "common_measure" ["one","other"] (IV))(hT:P.given.tree=none) :
 Ax P w K mg base CX0 34 f fd ["numbers"] (Ky K):=by
 refine F.ok CJ (fun vs H Q E h=>?_) (fun be A outer s H vs Q E hr h=>?_)
 ·obtain⟨_,_,_,_,_,rfl,_⟩:=h;rfl
 refine⟨_,(Aa (K:=K) (Ai (i:=1) CJ.nd rfl (Or.inl rfl) Ab)
  (Aa (K:=K) (B0 (K:=K) PassesOwn.never rfl (piS K (pv 0)) (Ap (i:=2) CJ.nd rfl (Or.inl rfl)) (Ae (Ai (i:=1) CJ.nd rfl (Or.inl rfl) (Af Aw (pv 1) (Af (BY hr hT) (Ag (ixT K) (pv 2) Ab (fun u v=>rfl)) (Aj Wb hr rfl (A0 (pv 1) (A0 (Ag (ixT K) (pv 2) Ab (fun u v=>rfl)) A8))))))) (by rfl))
  (Ae (Al (pv 1))) (by rfl)) (by rfl)),?_⟩
 obtain⟨b,r,xs,qs,n,rfl,hS,hn,hB,hz,q⟩:=h;have hl:=hn.length;refine NP (b:=b) (a:=r) (xs:=xs) rfl (L4 H r qs n fun H r qs n i σ H'=>H'=H/\∃(B:Int) (z:Option V),σ=[some (.ref r),some (.int B),z]/\0<B/\(∀q∈qs.take i,(q.den:Int)∣B)/\Bd (n*i+1) B) ⟨Z,1,none,Z,by decide,fun q hq=>by simp at hq,by unfold Bd;rw[Nat.mul_zero];decide⟩ (fun i σ H' _ p=>by rw[p.1];exact hS) ?_ ?_
 ·rintro i x σ H' hx as;refine BJ as fun a0 ab=>?_;refine Cj ab fun B z O=>?_;clear ab;refine Ep O fun aP al J W=>?_;clear O;obtain rfl:=a0;obtain rfl:=aP
  try clear as
  obtain⟨c,hc,r',rfl,hr⟩:=(Paired.get hn hx);have hi:i<qs.length:=(YG.mp hc).1;have bc:c∈qs:=Zn hc;have bb:0<(c.den:Int):=by have:=c.den_pos;lia
  obtain⟨l1,l2,l3⟩:=(Qu al bb);have g0:(ZL B c.den:Int)≠0:=by have:=Nm.gcd_pos (a:=B) (b:=c.den) (by lia);lia
  have ba:Bd n (Int.fdiv c.den (ZL B c.den:Int)):=(hB c bc).fdiv;have bg:n*i<=n*qs.length:=cA n (by lia)
  have bf:n*(qs.length+2)=n*qs.length+2*n:=by rw[cB];lia
  refine⟨_,Z,_,Z,r',_,_,_,Z,Z,hr,Z,_,Z,_,Z,r',_,_,_,Z,Z,hr,Z,_,_,Z,_,_,Z,Z,g0,_,_,Z,Z,BL.bd W ba (by lia),?_⟩
  refine⟨Z,_,_,Z,l1,fun q' an=>?_,?_⟩
  ·rw[ai,hc]at an
   rcases YE.mp an with z | z
   ·exact Int.dvd_trans (J q' z) l2
   ·have:q'=c:=by simpa using z
    subst this;exact l3
  ·have:=W.mul ba;rw[cB,da,show n*i+n+1=n*i+1+n by lia]
   exact this
 ·rintro σ H' aF;refine BJ aF fun ap ak=>?_;refine Cj ak fun B z Y=>?_;clear ak;refine Ep Y fun aC al J W=>?_;clear Y;obtain rfl:=ap;obtain rfl:=aC
  try clear aF
  rw[hl,cV]at J;rw[hl]at W;exact⟨_,Z,q B al J W⟩
theorem Bk:Ah ["tops","x","height","scale","top"] ["tops","x"] (Ad (top 28)):=fsc
theorem GI{f:ad}{fd:bn}(F:Fun K "whole_height" "whole_height" (top 28) f fd)(Wy:mg "reversed" = none)(hT:P.given.tree=none) :
 Ax P w K mg base CX0 33 f fd ["tops","x"] (RA K):=by
 refine F.ok Bk (fun vs H Q E h=>?_) (fun bf A outer s H vs Q E hr h=>?_)
 ·obtain⟨_,_,_,_,_,_,rfl,_⟩:=h;rfl
 refine⟨_,(Aa (K:=K) (Ai (i:=2) Bk.nd rfl (Or.inl rfl) Ab)
  (Aa (K:=K) (Ai (i:=3) Bk.nd rfl (Or.inl rfl) Ab)
  (Aa (K:=K) (B0 (K:=K) PassesOwn.never rfl (V8 K rfl Wy (pv 0)) (Ap (i:=4) Bk.nd rfl (Or.inl rfl)) (Aa (K:=K) (Ai (i:=2) Bk.nd rfl (Or.inl rfl) (Af AV (Af Aw (pv 2) (Ag (ixT K) (pv 1) Ab (fun u v=>rfl))) (Af Aw (pv 4) (pv 3))))
  (Ae (Ai (i:=3) Bk.nd rfl (Or.inl rfl) (Af Aw (pv 3) (Ag (ixT K) (pv 1) Ab (fun u v=>rfl))))) (by rfl)) (by rfl))
  (Ae (Al (AO (A0 (Af Aw (pv 2) (Ag (ixT K) (pv 1) Ab (fun u v=>rfl))) (A0 (pv 3) A8))))) (by rfl)) (by rfl)) (by rfl)),?_⟩
 obtain⟨l,rx,ts,x,m,n,rfl,hS,⟨_,bc,hx⟩,hB,W,hz,q⟩:=h;cases bc;have tl:(ts.map V.int).length=ts.length:=Z4 _
 have bg:m+n*ts.length+4*n+ts.length+4<=100000000:=by
  have e:(n+1)*(ts.length+4)=n*ts.length+4*n+ts.length+4:=by rw[aM,cB];lia
  lia
 have P2:2<=bi:=by decide
 refine⟨_,Z,_,Z,l,_,Z,hS,?_⟩
 refine Sj (L7 H l rx x ts m n fun H l rx x ts m n i σ H'=>H'=H/\∃(h s:Int) (z:Option V),σ=[some (.ref l),some (.ref rx),some (.int h),some (.int s),z]/\s=(x.den:Int) ^ i/\s≠0 /\
  (h:Rat)*((x.den:Int):Rat)=Cv.evI (ts.drop (ts.length-i)) x*(s:Rat)/\Bd (m+n*i+i+2) h/\Bd (n*i+1) s)
  ⟨Z,0,1,none,Z,Z,by decide,?_,?_,?_⟩ (fun i σ H' _ p=>by rw[p.1];exact hS) ?_ ?_
 ·rw[aZ,bu (YL _)];show((0:Int):Rat)*_=0*_;rw[cL];grind
 ·exact(show Bd 1 0 by unfold Bd;decide).mono (by lia)
 ·exact(show Bd 1 1 by unfold Bd;decide).mono (by lia)
 ·rintro i v σ H' hi hv as;refine BJ as fun aF al=>?_;refine Dd al fun h s z ab=>?_;clear al;refine R9 ab fun ba es ap he O Y=>?_;clear ab;obtain rfl:=aF;obtain rfl:=ba
  try clear as
  rw[tl]at hi hv;have hj:ts.length-1-i<ts.length:=by lia
  have an:ts[ts.length-1-i]? = some ts[ts.length-1-i]:=aB hj;have aC:ts[ts.length-1-i]∈ts:=aH hj;rw[Zl,an]at hv;cases hv;generalize ts[ts.length-1-i]=t at an aC;have bt:=hB _ aC;have bh:n*i<=n*ts.length:=cA n (by lia)
  have be:n*(i+1)=n*i+n:=by rw[cB,da]
  refine⟨_,Z,_,Z,rx,_,_,_,Z,Z,hx,Z,_,_,Z,Z,BL.bd O W.1 (by lia),_,Z,_,Z,_,_,Z,Z,BL.bd bt Y (by lia),_,_,Z,Z,?_⟩
  refine⟨_,Z,_,Z,rx,_,_,_,Z,Z,hx,Z,_,_,Z,Z,BL.bd Y W.2 (by lia),⟨Z,_,_,_,Z,?_,ZU ap (Nm.den_ne x),?_,?_,?_⟩⟩
  ·rw[es,Int.pow_succ]
  ·rw[Kb rfl hi an,Cv.evI_cons,ZV,ZW,ZW,ZW,Nm.num_mul x]
   grind
  ·have b1:=O.mul W.1;have b2:=bt.mul Y;exact(Bd.add (b1.mono (n:=m+n*i+i+2+n) (by lia)) (b2.mono (by lia))).mono (by lia)
  ·exact(Y.mul W.2).mono (by lia)
 ·rintro σ H' a0;refine BJ a0 fun aP ak=>?_;refine Dd ak fun h s z J=>?_;clear ak;refine R9 J fun bb es ap he O Y=>?_;clear J;obtain rfl:=aP;obtain rfl:=bb
  try clear a0
  rw[tl]at es he O Y;rw[bo,aY]at he;refine⟨_,Z,_,Z,rx,_,_,_,Z,Z,hx,Z,_,_,Z,Z,BL.bd O W.2 (by lia),_,Z,P2,fun p hp=>?_⟩
  exact q _ _ p es ap (by rw[ZW];exact he) ((O.mul W.2).mono (by rw[aM,cB];lia)) Y hp
theorem JC:Ah ["numbers","bottom"] ["numbers","bottom"] (Ad (top 26)):=fsc
theorem JO{f:ad}{fd:bn}(F:Fun K "tops_over" "tops_over" (top 26) f fd)(hT:P.given.tree=none) :
 Ax P w K mg base CX0 33 f fd ["numbers","bottom"] (Jo K):=by
 refine F.ok JC (fun vs H Q E h=>?_) (fun al A outer s H vs Q E Y h=>?_)
 ·obtain⟨_,_,_,_,_,_,_,rfl,_⟩:=h;rfl
 refine⟨_,(Ae (Al (Bp rfl (N:=["number","bottom"]) (nt:=1) (js:=[1]) (AG.look (NX:=["numbers","bottom"]) (sc:=Ad (top 26)) rfl rfl (by decide +kernel)) (piS K (pv 0)) (fun u1 u2 u3 u4 u5=>(Ap (i:=0) (show List.Nodup (["number","bottom"]:List Str) from by decide +kernel) rfl (Or.inl rfl))) (Av (by decide)) (fun u1 u2 u3 u4 u5=>AN) (fun u1 u2 u3 u4 u5=>(Af Aw (Ag (ixT K) (pv 0) Ab (fun u v=>rfl)) (Af (BY Y hT) (pv 1) (Ag (ixT K) (pv 0) Ab (fun u v=>rfl)))))))),?_⟩
 obtain⟨b,r,xs,qs,B,m,n,rfl,hS,hn,O,ab,ak,hz,q⟩:=h;have hl:=hn.length;refine HY (b:=b) (a:=r) (xs:=xs) rfl (fun i zs H'=>H'=H/\zs=((qs.take i).map (C9 B)).map V.int) ⟨Z,Z⟩ (fun i zs H' hi p=>⟨by rw[p.1];exact hS,by rw[p.2,Z4,Z4,Zh];lia⟩) (by rw[hl];exact Yz (AS hz)) ?_ ?_
 ·rintro i x zs H' hx ⟨rfl,rfl⟩;obtain⟨c,hc,r',rfl,Y⟩:=(Paired.get hn hx);have J:c∈qs:=Zn hc;have W:(c.den:Int)≠0:=by have:=c.den_pos;lia
  refine⟨_,Z,r',_,_,_,Z,Z,Y,Z,_,Z,_,Z,r',_,_,_,Z,Z,Y,Z,_,_,Z,Z,W,_,_,Z,Z,BL.bd (ab c J) (O.fdiv (y:=c.den)) (by lia),Z,?_⟩
  rw[ai,hc,aj,aj]
  rfl
 ·rintro zs H' ⟨rfl,rfl⟩ p hp;rw[hl,cV];exact q p hp
theorem DB:Ah ["curve","x","bottom","told"] ["curve","x"] (Ad (top 29)):=fsc
theorem JU{f:ad}{fd:bn}(F:Fun K "height_at" "height_at" (top 29) f fd)(Wg:Fd P w K mg base 34 "bottom_of" ["numbers"] (Ky K))(Wn:Fd P w K mg base 33 "whole_height" ["tops","x"] (RA K))(W7:Fd P w K mg base 34 "number_of" ["top","bottom"] (DT))(Wz:Fd P w K mg base 33 "tops_over" ["numbers","bottom"] (Jo K))(hT:P.given.tree=none) :
 Ax P w K mg base CX0 35 f fd ["curve","x"] (Ee K):=by
 refine F.ok DB (fun vs H Q E h=>?_) (fun aP A outer s H vs Q E hr h=>?_)
 ·obtain⟨_,_,_,_,_,_,_,rfl,_⟩:=h;rfl
 refine⟨_,(Aa (K:=K) (Ai (i:=2) DB.nd rfl (Or.inl rfl) (Aj Wg hr rfl (A0 (pv 0) A8)))
  (Aa (K:=K) (Ai (i:=3) DB.nd rfl (Or.inl rfl) (Aj Wn hr rfl (A0 (Aj Wz hr rfl (A0 (pv 0) (A0 (pv 2) A8))) (A0 (pv 1) A8))))
  (Ae (Al (Aj W7 hr rfl (A0 (Ag (ixT K) (pv 3) Ab (fun u v=>rfl)) (A0 (Af Aw (pv 2) (Ag (ixT K) (pv 3) Ab (fun u v=>rfl))) A8))))) (by rfl)) (by rfl)),?_⟩
 obtain⟨r,rx,qs,x,g,d,m,rfl,⟨xs,hS,hn⟩,⟨_,ap,hx⟩,hB,al,hz,O,q⟩:=h;cases ap;have hl:=hn.length;have e1:d*(qs.length+2)=d*qs.length+d*2:=cB ..;have e2:(m+1)*(qs.length+4)=m*qs.length+qs.length+(m+1)*4:=by rw[cB,aM,aN]
 refine⟨_,Z,false,r,xs,qs,d,Z,hS,hn,(fun q hq=>(hB q hq).2),by lia,fun B a0 aF Y=>?_⟩
 refine⟨_,Z,_,Z,false,r,xs,qs,B,d*qs.length+1,g,Z,hS,hn,Y,(fun q hq=>(hB q hq).1),by lia,O,fun l ak=>?_⟩
 have tl:(qs.map (C9 B)).length=qs.length:=Z4 _;have as:SqT K (upd H l (.lst ((qs.map (C9 B)).map V.int))) rx [.int x.num,.int x.den]:=SqT.same hx (Ac.new ak)
 have tB:∀t∈qs.map (C9 B),Bd (g+(d*qs.length+1)) t:=fun t ht=>by
  obtain⟨c,hc,rfl⟩:=(aX.mp ht);exact((hB c hc).1.mul (Y.fdiv (y:=c.den))).mono (by lia)
 refine⟨_,Z,l,rx,qs.map (C9 B),x,g+(d*qs.length+1),m,Z,SqL.of A9,⟨rx,Z,as⟩,tB,al,by rw[tl];lia,fun h s p es aC he ab J hp=>?_⟩
 rw[tl]at J;have ep:SqT K (upd (upd H l (.lst ((qs.map (C9 B)).map V.int))) p (.tup [.int h,.int s])) p [.int h,.int s]:=SqT.of A9;have W:B*s≠0:=ZU (by lia) aC
 refine⟨_,Z,p,_,_,_,Z,Z,ep,Z,_,Z,_,Z,p,_,_,_,Z,Z,ep,Z,_,_,Z,Z,BL.bd Y J (by lia),_,_,Z,W,fun u hu=>?_⟩
 have ev:=Rq aF x
 have e:ZN h (B*s)=Cv.ev qs x:=Nm.div_eq W (by
  have an:(h:Rat)=Cv.ev ((qs.map (C9 B)).map fun t:Int=>(t:Rat)) x*(s:Rat):=he;rw[an,ev,ZW];grind)
 rw[tl]at ab;have e3:(m+1)*(qs.length+2)=m*qs.length+qs.length+(m+1)*2:=by rw[cB,aM,aN]
 have d1:1<=d\/qs.length=0:=by
  cases qs with
  | nil=>exact .inr rfl
  | cons c r =>
    left;have:=(hB c (YB ..)).2;unfold Bd at this
    rcases Nat.eq_zero_or_pos d with z | z
    ·rw[z]at this;have:=c.den_pos
     lia
    ·exact z
 refine q u _ (((Ac.new ak).trans (Ac.new hp)).trans (Ac.new hu)) ?_ ?_
 ·rw[<- e];exact A9
 ·rw[<- e];exact RB.div (m:=0) (ab.mono (by lia)) ((Y.mul J).mono (by lia)) W
theorem IZ:Ah ["points","curve","both"] ["points","curve"] (Ad (top 54)):=fsc
theorem Ot{f:ad}{fd:bn}(F:Fun K "missed" "missed" (top 54) f fd)(Xa:Fd P w K mg base 36 "slope_of" ["curve"] (Js K))(Wf:Fd P w K mg base 33 "told_in" ["points"] (EZ K))(Wo:Fd P w K mg base 35 "height_at" ["curve","x"] (Ee K))(hT:P.given.tree=none) :
 Ax P w K mg base CX0 37 f fd ["points","curve"] (FP K):=by
 refine F.ok IZ (fun vs H Q E h=>?_) (fun bD A outer s H vs Q E hr h=>?_)
 ·obtain⟨_,_,_,_,_,_,rfl,_⟩:=h;rfl
 refine⟨_,(Aa (K:=K) (Ai (i:=2) IZ.nd rfl (Or.inr rfl) (AO (A0 (pv 1) (A0 (Aj Xa hr rfl (A0 (pv 1) A8)) A8))))
  (Ae (Al (Bp rfl (N:=["x","k","number","both"]) (nt:=3) (js:=[2]) (AG.look (NX:=["points","curve","both"]) (sc:=Ad (top 54)) rfl rfl (by decide +kernel)) (piL K (Aj Wf hr rfl (A0 (pv 0) A8))) (fun u1 u2 u3 u4 u5=>(pgT K (n:=3) rfl (By (Ap (i:=0) (show List.Nodup (["x","k","number","both"]:List Str) from by decide +kernel) rfl (Or.inl rfl)) (By (Ap (i:=1) (show List.Nodup (["x","k","number","both"]:List Str) from by decide +kernel) rfl (Or.inl rfl)) (By (Ap (i:=2) (show List.Nodup (["x","k","number","both"]:List Str) from by decide +kernel) rfl (Or.inl rfl)) Eg))))) (Ed (Bl (by decide) (Bl (by decide) (Bl (by decide) Dv)))) (fun u1 u2 u3 u4 u5=>Fn (Ao (neD K hr.units) (Aj Wo hr rfl (A0 (Ag (ixT K) (pv 3) (pv 1) (fun u v=>rfl)) (A0 (pv 0) A8))) (pv 2) (Ar _))) (fun u1 u2 u3 u4 u5=>(AO (A0 (pv 0) (A0 (pv 1) A8))))))) (by rfl)),?_⟩
 obtain⟨r,c,xs,pss,cs,n,rfl,hS,hp,al,bB,hc,bg,bd,ak,bq,as,q⟩:=h;have P2:2<=bi:=by decide
 refine⟨_,Z,_,Z,c,cs,n,Z,hc,by lia,ak,by lia,fun sl H1 s1 bc=>⟨P2,fun b hb=>?_⟩⟩
 have s2:Ac H (upd H1 b (.tup [.ref c,.ref sl])):=s1.trans (Ac.new hb);have eb:SqT K (upd H1 b (.tup [.ref c,.ref sl])) b [.ref c,.ref sl]:=SqT.of A9;have an:=hc.same s2;have J:=bc.same (Ac.new (o:=.tup [.ref c,.ref sl]) hb);generalize upd H1 b (.tup [.ref c,.ref sl])=H2 at s2 eb an J ⊢;refine Bh ⟨_,Z,r,xs,pss,Z,hS.same s2,AY.same hp s2,al,by lia,fun w Hw ws sw hw ew aF=>⟨w,Z,⟨_,SqL.of ew⟩,?_⟩⟩
 have bb:=aF.length;have bt:=BV pss fun ps hp=>by have:=al ps hp;lia
 refine⟨ws.length,fun i zs H'=>Ac Hw H'/\zs.length<=i/\Mss K H' zs (msd cs ((AA pss).take i)),⟨Ac.refl _,YL _,.nil⟩,⟨?_,?_,?_⟩⟩
 ·rintro i zs H' hi ⟨Y,hl,hz⟩;exact⟨⟨_,ws[i],SqL.of (Y _ _ ew),aB hi⟩,AS (by lia)⟩
 ·rintro i zs H' x bx hi ⟨Y,hl,hz⟩ ⟨rfl,y⟩;have hx:=y _ (SqL.of (Y _ _ ew));obtain⟨t,ht,a,bl,rn,rfl,ha,W,bh⟩:=(Paired.get aF hx);have W:=Az.of (K:=K) W;have aC:=Zn ht;have aP:=Ti al t aC;obtain⟨a0,bN⟩:=(Rt as bd t aC);have ap:=sw.trans Y;have e1:(AA pss).take (i+1)=(AA pss).take i++[t]:=by rw[ai,ht];rfl
  refine⟨a,_,Z,ha.same Y,Z,_,_,Z,_,_,Z,_,_,Z,Z,?_⟩
  obtain⟨cu,us,bp,ba,bf,b0,bm⟩:∃(cu:ad) (us:List Rat),atI [V.ref c,V.ref sl] t.k=some (.ref cu)/\Crv K H2 cu us/\Cv.ev us t.x=hk cs t/\us.length<=20/\(∀q∈us,RB (n+11) q):=by
   rcases aP with z | z
   ·refine⟨c,cs,by rw[z];rfl,an,?_,bg,fun q hq=>(ak q hq).mono (by lia)⟩
    unfold hk;rw[if_neg (by lia)]
   ·refine⟨sl,EG cs,by rw[z];rfl,J,?_,by rw[JA];lia,PJ (by lia) as ak⟩
    unfold hk;rw[if_pos z]
  have be:n+11+(n+11)*(us.length+2)+(n+11+1)*(us.length+4)<=50000000:=by
   have h1:(n+11)*(us.length+2)<=10011*22:=cI (by lia) (by lia)
   have h2:(n+11+1)*(us.length+4)<=10012*24:=cI (by lia) (by lia)
   lia
  refine⟨_,Z,_,Z,b,_,_,_,Z,Z,eb.same ap,bp,_,Z,cu,bl,us,t.x,n+11,n+11,n+11,Z,ba.same ap,W.same Y,bm,a0.mono (by lia),be,by lia,fun p Hp sp ep _=>?_⟩
  rw[bf]at ep;refine⟨_,Z,?_⟩;have O:=Y.trans sp;refine eqN (Az.of ep) (bh.same O) ?_;refine⟨_,Z,?_⟩;by_cases he:hk cs t=t.n
  ·refine AM (by rw[decide_eq_true he]<;>rfl) ⟨O,by lia,?_⟩
   rw[e1,Lo,if_pos he,Za];exact Fy hz sp
  ·refine Bi (by rw[decide_eq_false he]<;>rfl) ⟨_,Z,_,Z,P2,fun v hv=>⟨O.trans (Ac.new hv),by rw[Zo,ZF];lia,?_⟩⟩
   rw[e1,Lo,if_neg he];exact Paired.snoc (Fy (Fy hz sp) (Ac.new hv)) ⟨v,_,Z,SqT.of A9,(W.same O).same (Ac.new hv)⟩
 rintro zs H' ⟨Y,hl,hz⟩;rw[bb,cV]at hz;refine⟨⟨_,SqL.of (Y _ _ ew),YL _⟩,Yz (AS (by lia)),fun p ab=>?_⟩
 exact q p _ zs (((s2.trans sw).trans Y).trans (Ac.new ab)) (((s2.trans sw).trans Y).free ab) A9 (Fy hz (Ac.new ab))
theorem DX:Ah ["numbers","width"] ["numbers"] (Ad (top 24)):=fsc
theorem Ld{f:ad}{fd:bn}(F:Fun K "curve_of" "curve_of" (top 24) f fd)(VY:mg "len" = none)(W0:mg "tuple" = none){Y:ad}(W:mg "NOUGHT" = some (.ref Y))(O:∀H:Hp,Az K H (.ref Y) (0))(hT:P.given.tree=none) :
 Ax P w K mg base CX0 33 f fd ["numbers"] (Ef K):=by
 refine F.ok DX (fun vs H Q E h=>?_) (fun ba A outer s H vs Q E hr h=>?_)
 ·obtain⟨_,_,_,rfl,_⟩:=h;rfl
 refine⟨_,(Aa (K:=K) (Ai (i:=1) DX.nd rfl (Or.inl rfl) (Ak (BD K) rfl VY AE (A0 (pv 0) A8)))
  (Aa (K:=K) (E3 PassesOwn.never (PW.pt (HC (Ao Dk (pv 1) Ab (Ar _)) (Fm (Ao (eqD K hr.units) (Ag (ixL K) (pv 0) (Af Bj (pv 1) Ab) (fun u v=>rfl)) (C5 (v:=.ref Y) rfl W rfl) (Ar _))))) (Ae (Ai (i:=1) DX.nd rfl (Or.inl rfl) (Af Bj (pv 1) Ab))))
  (Ae (Al (AQ (FK K) rfl W0 Ck (A0 (Bz (slL K) (pv 0) C4 (C3 (pv 1))) A8)))) (by rfl)) (by rfl)),?_⟩
 obtain⟨r,xs,qs,rfl,hS,hn,hz,q⟩:=h;have hl:=hn.length;refine⟨_,Z,r,xs,Z,.inl hS,?_⟩;refine UL (L3 H r qs fun H r qs σ H'=>H'=H/\∃(v:Nat),σ=[some (.ref r),some (.int (v:Int))]/\v<=qs.length/\∀j q,v<=j->qs[j]? = some q->q=0) (fun σ _=>mu 1 σ) ⟨Z,qs.length,by rw[<- hl];rfl,YL _,fun j q hj e=>absurd (YG.mp e).1 (by lia)⟩ ?_
 rintro σ H' an;refine BJ an fun as al=>?_;refine MZ al fun v ab=>?_;clear al;refine Cm ab fun ap hv ak=>?_;clear ab;obtain rfl:=as;obtain rfl:=ap
 try clear an
 have aC:(v=0\/∃q,qs[v-1]? = some q/\q≠0)->∀p,H' p=none->∀p',upd H' p (.lst (CM xs none (some (v:Int)))) p'=none->Q (.ref p') (upd (upd H' p (.lst (CM xs none (some (v:Int))))) p' (.tup (CM xs none (some (v:Int))))):=fun hc p hp p' J=>by
  have e:CM xs none (some (v:Int))=xs.take v:=by
   unfold CM;have e1:HT.sIx xs.length 0 none=0:=rfl;have e2:HT.sIx xs.length xs.length (some (v:Int))=min v xs.length:=HT.sIx_nat _ _ v;rw[e1,e2,aY,aZ];apply ax;intro i;rw[cf,cf]
   split<;>split<;>first | rfl | lia | (rename_i h1 h2;exact(aU (by lia)).symm) | (rename_i h1 h2;exact aU (by lia))
  have sm:Ac H' (upd (upd H' p (.lst (CM xs none (some (v:Int))))) p' (.tup (CM xs none (some (v:Int))))):=(Ac.new hp).trans (Ac.new J);refine q p' _ sm ⟨xs.take v,SqT.of (by rw[e];exact A9),?_⟩
  rw[<- Cv.take_strip qs v ak hc];exact Paired.take v (AD.same hn sm)
 refine⟨_,Z,_,_,Z,Z,_,Z,?_⟩;by_cases hv0:v=0
 ·subst hv0;refine BP (BP ?_);exact⟨_,Z,_,Z,_,Z,r,xs,Z,hS,fun p hp=>⟨p,_,Z,.inl ⟨SqL.of A9,fun p' J=>aC (.inl rfl) p hp p' J⟩⟩⟩
 ·refine Bi (by rw[decide_eq_true (show(0:Int)<(v:Int) by lia)]<;>rfl) ?_
  have aF:v-1<qs.length:=by lia
  have hq:qs[v-1]? = some qs[v-1]:=aB aF;obtain⟨x,hx,aP⟩:=(Paired.get' hn hq)
  have a0:atI xs ((v:Int)-1)=some x:=by
   rw[show(v:Int)-1=((v-1:Nat):Int) by lia]
   exact AB hx
  refine⟨_,Z,_,Z,_,_,Z,Z,r,xs,_,x,Z,Z,hS,a0,?_⟩;refine eqN aP (O _) ?_;refine⟨_,Z,?_⟩;by_cases hq0:qs[v-1]=0
  ·refine Bi (by rw[decide_eq_true hq0]<;>rfl) (UK ?_)
   refine⟨_,Z,_,_,Z,Z,⟨Z,v-1,?_,by lia,fun j q' hj e=>?_⟩,?_⟩
   ·show[some (V.ref r),some (V.int ((v:Int)-1))]=[some (V.ref r),some (V.int ((v-1:Nat):Int))];rw[show(v:Int)-1=((v-1:Nat):Int) by lia]
   ·by_cases hjv:v<=j
    ·exact ak j q' hjv e
    ·have:j=v-1:=by lia
     subst this;rw[hq]at e;cases e;exact hq0
   ·show((v:Int)-1).toNat<(v:Int).toNat
    lia
  ·refine AM (by rw[decide_eq_false hq0]<;>rfl) ?_
   exact⟨_,Z,_,Z,_,Z,r,xs,Z,hS,fun p hp=>⟨p,_,Z,.inl ⟨SqL.of A9,fun p' J=>aC (.inr ⟨_,hq,hq0⟩) p hp p' J⟩⟩⟩
theorem Hu:Ah ["number"] ["number"] (Ad (top 92)):=fsc
theorem HN{f:ad}{fd:bn}(F:Fun K "show_number" "show_number" (top 92) f fd)(J:mg "str" = none)(hT:P.given.tree=none) :
 Ax P w K mg base CX0 33 f fd ["number"] (D7 K):=by
 refine F.ok Hu (fun vs H Q E h=>?_) (fun ab A outer s H vs Q E hr h=>?_)
 ·obtain⟨_,_,rfl,_⟩:=h;rfl
 refine⟨_,(Aa (K:=K) (Ay (K:=K) (Ao Cr (Ag (ixT K) (pv 0) Ab (fun u v=>rfl)) Ab (Ar _)) (Ae (Al (AQ Bg rfl J CU (A0 (Ag (ixT K) (pv 0) Ab (fun u v=>rfl)) A8)))) Au (by rfl) (by rfl))
  (Ae (Al (Af AH (Af AH (AQ Bg rfl J CU (A0 (Ag (ixT K) (pv 0) Ab (fun u v=>rfl)) A8)) AI) (AQ Bg rfl J CU (A0 (Ag (ixT K) (pv 0) Ab (fun u v=>rfl)) A8))))) (by rfl)),?_⟩
 obtain⟨x,q,rfl,⟨r,rfl,Y⟩,W,O⟩:=h;have hd:=W.2;have hs:=dv;have l1:=EM W.1;have l2:=EM (i:=(q.den:Int)) (by lia)
 refine⟨_,Z,r,_,_,_,Z,Z,Y,Z,Z,_,Z,?_⟩;by_cases h1:q.den=1
 ·have e:tx q=txI q.num:=if_pos h1;rw[e]at O;exact Bi (by rw[decide_eq_true (show V.int (q.den:Int)=V.int 1 by rw[h1];rfl)]<;>rfl) ⟨_,Z,r,_,_,_,Z,Z,Y,Z,_,Z,Gd W.1,O⟩
 ·have e:tx q=txI q.num++Str.ofString "/" ++ txI q.den:=if_neg h1;rw[e]at O;rw[decide_eq_false (fun z=>h1 (by have:=V.int.inj z;lia))]
  have l3:(Str.ofString "/").length=1:=by rw[AK,CQ];rfl
  have l4:(txI q.num++Str.ofString "/").length=(txI q.num).length+1:=by rw[AK,AR,Zo,<- AK,<- AK,l3]
  refine BP ⟨_,Z,r,_,_,_,Z,Z,Y,Z,_,Z,Gd W.1,_,_,Z,Z,?_,_,Z,r,_,_,_,Z,Z,Y,Z,_,Z,Gd (by lia),_,_,Z,Z,?_,O⟩
  ·show(txI q.num).length+(Str.ofString "/").length<=bi
   lia
  ·show(txI q.num++Str.ofString "/").length+(txI q.den).length<=bi
   lia
theorem Ex:Ah ["points","numbers","lost"] ["points","numbers"] (Ad (top 119)):=fsc
theorem IB{f:ad}{fd:bn}(F:Fun K "misses_row" "misses_row" (top 119) f fd)(Y:Fd P w K mg base 37 "missed" ["points","curve"] (FP K))(WA:Fd P w K mg base 33 "curve_of" ["numbers"] (Ef K))(Wi:Fd P w K mg base 33 "show_number" ["number"] (D7 K))(VY:mg "len" = none)(W2:mg "str" = none)(hT:P.given.tree=none) :
 Ax P w K mg base CX0 38 f fd ["points","numbers"] (Jx K):=by
 refine F.ok Ex (fun vs H Q E h=>?_) (fun aP A outer s H vs Q E hr h=>?_)
 ·obtain⟨_,_,_,_,_,_,rfl,_⟩:=h;rfl
 refine⟨_,(Aa (K:=K) (Ai (i:=2) Ex.nd rfl (Or.inl rfl) (Aj Y hr rfl (A0 (pv 0) (A0 (Aj WA hr rfl (A0 (pv 1) A8)) A8))))
  (Aa (K:=K) (Ay (K:=K) (Ao Cr (Ak (BD K) rfl VY AE (A0 (pv 2) A8)) Ab (Ar _)) (Ae (Al AI)) Au (by rfl) (by rfl))
  (Ae (Al (BA K PySem.F.plainAttrs_str PySem.F.slot_str_join PySem.F.type_str_join (D0 K) AI (A0 (Bp rfl (N:=["x","k"]) (nt:=2) (js:=[]) (AG.look (NX:=["points","numbers","lost"]) (sc:=Ad (top 119)) rfl rfl (by decide +kernel)) (piL K (pv 2)) (fun u1 u2 u3 u4 u5=>(pgT K (n:=2) rfl (By (Ap (i:=0) (show List.Nodup (["x","k"]:List Str) from by decide +kernel) rfl (Or.inl rfl)) (By (Ap (i:=1) (show List.Nodup (["x","k"]:List Str) from by decide +kernel) rfl (Or.inl rfl)) Eg)))) (Ed (Bl (by decide) (Bl (by decide) Dv))) (fun u1 u2 u3 u4 u5=>AN) (fun u1 u2 u3 u4 u5=>(Af AH (Af AH (Aj Wi hr rfl (A0 (pv 0) A8)) AI) (AQ Bg rfl W2 CU (A0 (pv 1) A8))))) A8)))) (by rfl)) (by rfl)),?_⟩
 obtain⟨r,l,xs,ys,pss,cs,rfl,W,h2,hf,hS,hn,ap,aF,an,q⟩:=h;have hs:=dv;have ba:=EV W.h23;have aC:=W.h12;refine⟨_,Z,_,Z,l,ys,cs,Z,hS,Am.nums hn,by lia,fun c H1 s1 J=>?_⟩
 rw[ap]at J;refine⟨r,c,xs,pss,cs,20,Z,W.S.same s1,AY.same W.P s1,W.h23,by lia,J,by lia,fun ps hp x hx=>Ih (hf ps hp x hx),fun x hx=>Ih (an x hx),by decide,by decide,fun p H2 zs s2 hp ep hz=>?_⟩
 rw[ND h2]at hz;have ab:=Lw (cs:=cs) h2 hf;have as:(CA pss cs).length<=pss.length:=by unfold CA;rw[Z4];exact List.length_filter_le ..
 have q2:=fun H' (s:Ac H2 H')=>q H' ((s1.trans s2).trans s);generalize CA pss cs=rs at hz ab as q2;have O:=hz.length;rw[Z4]at O;refine⟨_,Z,p,_,Z,.inl (SqL.of ep),Z,_,Z,?_⟩;by_cases h0:rs=[]
 ·exact Bi (by rw[decide_eq_true (show V.int ((zs.length:Nat):Int)=V.int 0 by rw[O,h0];rfl)]<;>rfl) (by have:=q2 H2 (Ac.refl _);rw[show msT rs=_ from if_pos h0]at this;exact this)
 have h1:rs.length≠0:=fun z=>h0 (bP.mp z);refine AM (by rw[decide_eq_false (show ¬V.int ((zs.length:Nat):Int)=V.int 0 from fun z=>by have:=V.int.inj z;lia)]<;>rfl) ⟨Z,?_⟩
 refine Bh ⟨_,Z,p,Z,⟨_,SqL.of ep⟩,?_⟩;refine Qv (xs:=zs) (fun i vs G=>G=H2/\vs=((rs.take i).map fun x=>tx x++Str.ofString ";0").map V.str) ⟨Z,Z⟩ (fun i vs G hi h=>⟨by rw[h.1];exact SqL.of ep,by rw[h.2,Z4,Z4,Zh];exact Nat.min_le_left ..⟩) (by lia) ?_ ?_
 ·rintro i v vs G hv ⟨rfl,rfl⟩;obtain⟨c,J,a,rx,rfl,ha,hx⟩:=(Paired.get hz hv);rw[Zl]at J;obtain⟨x,ak,rfl⟩:=(dh.mp J);have al:=ab x (Zn ak);have a0:=CF al;have l1:(Str.ofString ";").length=1:=by decide +kernel
  have l2:(Str.ofString (toString (0:Int))).length=1:=by decide +kernel
  have ej:(tx x++Str.ofString ";")++Str.ofString (toString (0:Int))=tx x++Str.ofString ";0":=Dw (by
   rw[AR,AR,AR,ZE,show sg (Str.ofString ";")++sg (Str.ofString (toString (0:Int)))=sg (Str.ofString ";0") by decide +kernel])
  refine⟨a,rx,.int 0,Z,ha,?_⟩;unfold Ks;refine Ia ⟨_,Z,rx,x,Z,hx,al,_,_,Z,Z,by rw[l1,hs];lia,_,Z,0,Z,by decide,_,_,Z,Z,by rw[Bs,l1,l2,hs];lia,Z,?_⟩
  rw[ej,ai,ak,aj,aj];rfl
 rintro vs G ⟨rfl,rfl⟩ j hj;rw[O,cV];refine⟨_,j,rs.map fun x=>tx x++Str.ofString ";0",Z,Z,SqL.of A9,Cg (by decide +kernel) (fun t ht=>?_) (by rw[Z4];lia),?_⟩
 ·obtain⟨c,J,rfl⟩:=(aX.mp ht);have:=CF (ab c J);rw[Bs,show(Str.ofString ";0").length=2 by decide +kernel]
  lia
 have:=q2 _ (Ac.new (o:=.lst ((rs.map fun x=>tx x++Str.ofString ";0").map V.str)) hj);rw[show msT rs=_ from if_neg h0]at this;exact this
theorem EI:Ah ["points"] ["points"] (Ad (top 122)):=fsc
theorem EL{f:ad}{fd:bn}(F:Fun K "check_no_slopes" "check_no_slopes" (top 122) f fd)(Y:mg "any" = none)(VY:mg "len" = none)(hT:P.given.tree=none) :
 Ax P w K mg base CX0 33 f fd ["points"] (Mi K):=by
 refine F.ok EI (fun vs H Q E h=>?_) (fun ak A outer s H vs Q E hr h=>?_)
 ·obtain⟨_,_,_,rfl,_⟩:=h;rfl
 refine⟨_,(Ae (Ay (K:=K) (C8 (Ak (VR K rfl) rfl Y UC (A0 (Bp rfl (N:=["point"]) (nt:=1) (js:=[]) (AG.look (NX:=["points"]) (sc:=Ad (top 122)) rfl rfl (by decide +kernel)) (piT K (pv 0)) (fun u1 u2 u3 u4 u5=>(Ap (i:=0) (show List.Nodup (["point"]:List Str) from by decide +kernel) rfl (Or.inl rfl))) (Av (by decide)) (fun u1 u2 u3 u4 u5=>AN) (fun u1 u2 u3 u4 u5=>(CY Cr (Ak (BD K) rfl VY AE (A0 (pv 0) A8)) Ab (Ar _)))) A8))) (Ae AU) Au (by rfl) (by rfl))),?_⟩
 obtain⟨r,xs,pss,rfl,hS,hP,h2,ab,q⟩:=h;have hs:=dv;have hl:=hP.length;refine Bh ⟨_,Z,r,Z,⟨_,hS⟩,EN (xs:=xs) (fun i zs H'=>H'=H/\zs=(Zf i false).map V.bl) ⟨Z,Z⟩ (fun i zs H' hi p=>⟨by rw[p.1];exact hS,by rw[p.2,Z4,Zp]⟩) (by lia) ?_ ?_⟩
 ·rintro i x zs H' hx ⟨rfl,rfl⟩;obtain⟨ps,W,a,us,r0,rfl,O,J,_,_⟩:=(Paired.get hP hx);have an:=J.length;have al:=h2 ps (Zn W);refine⟨_,Z,a,_,Z,.inr O,Z,?_⟩;rw[decide_eq_false (show ¬V.int ((us.length:Nat):Int)=V.int 3 from fun z=>by have:=V.int.inj z;lia)]
  exact⟨Z,by rw[df,aj];rfl⟩
 rintro zs H' ⟨rfl,rfl⟩ p hp;refine⟨p,_,Z,SqL.of A9,_,Z,?_⟩;rw[show((Zf xs.length false).any id)=false by rw[YQ];intro b hb;rw[cP hb];exact Bool.false_ne_true]
 exact BP (q _ (Ac.new hp))
theorem GH:Ah ["places","fewest"] ["places","fewest"] (Ad (top 50)):=fsc
theorem GO{f:ad}{fd:bn}(F:Fun K "check_places" "check_places" (top 50) f fd)(Wv:Fd P w K mg base 33 "are_unlike" ["places"] (EY K))(VY:mg "len" = none){W:Tok}(Y:mg "MOST_TOLD" = some (.int 12 W))(hT:P.given.tree=none) :
 Ax P w K mg base CX0 34 f fd ["places","fewest"] (Jz K):=by
 refine F.ok GH (fun vs H Q E h=>?_) (fun al A outer s H vs Q E hr h=>?_)
 ·obtain⟨_,_,_,_,rfl,_⟩:=h;rfl
 refine⟨_,(Aa (K:=K) (Ay (K:=K) (PW.pt (Ey (Ao Ez (Ak (BD K) rfl VY AE (A0 (pv 0) A8)) (pv 1) (Ar _)) (D8 (Ao Dk (Ak (BD K) rfl VY AE (A0 (pv 0) A8)) (C5 (v:=.int 12) rfl Y ⟨_,Z⟩) (Ar _))))) (Ae AU) Au (by rfl) (by rfl))
  (Ae (Ay (K:=K) (CC (C8 (Aj Wv hr rfl (A0 (pv 0) A8)))) (Ae AU) Au (by rfl) (by rfl))) (by rfl)),?_⟩
 obtain⟨l,O,ys,qs,rfl,J,hn,ab,ak,hf,q⟩:=h;have hl:=hn.length;refine⟨_,Z,l,ys,Z,.inl J,_,Z,_,_,Z,Z,_,Z,?_⟩;refine AM (by rw[decide_eq_false (show ¬((ys.length:Int)<O) by lia)]<;>rfl) ?_
 refine⟨_,Z,l,ys,Z,.inl J,_,_,Z,Z,_,Z,?_⟩;refine AM (by rw[decide_eq_false (show ¬((12:Int)<(ys.length:Int)) by lia)]<;>rfl) ?_
 exact⟨_,Z,l,ys,qs,Z,J,hn,ab,by lia,fun H' s=>⟨_,Z,BP (q H' s)⟩⟩
theorem FU:Ah ["places","heights"] ["places","heights"] (Ad (top 78)):=fsc
theorem FY{f:ad}{fd:bn}(F:Fun K "check_heights" "check_heights" (top 78) f fd)(Xb:Fd P w K mg base 34 "check_places" ["places","fewest"] (Jz K))(VY:mg "len" = none)(hT:P.given.tree=none) :
 Ax P w K mg base CX0 35 f fd ["places","heights"] (Hm K):=by
 refine F.ok FU (fun vs H Q E h=>?_) (fun ab A outer s H vs Q E hr h=>?_)
 ·obtain⟨_,_,_,_,_,rfl,_⟩:=h;rfl
 refine⟨_,(Aa (K:=K) (Ca (Aj Xb hr rfl (A0 (pv 0) (A0 Ab A8))))
  (Ae (Ay (K:=K) (Ao Dj (Ak (BD K) rfl VY AE (A0 (pv 1) A8)) (Ak (BD K) rfl VY AE (A0 (pv 0) A8)) (Ar _)) (Ae AU) Au (by rfl) (by rfl))) (by rfl)),?_⟩
 obtain⟨lp,lh,zs,ys,qs,rfl,J,hN,O,h1,Y,hH,hl,q⟩:=h;refine⟨_,Z,lp,1,zs,qs,Z,J,hN,O,Y,by lia,fun H1 W=>?_⟩
 exact⟨_,Z,lh,ys,Z,.inl (Ac.seq W hH),_,Z,lp,zs,Z,.inl (Ac.seq W J),Z,_,Z,AM (by rw[hl,decide_eq_true rfl];rfl) (q H1 W)⟩
theorem Hv:Ah ["pair","x","y","room"] ["pair","x","y"] (Ad (top 80)):=fsc
theorem MI{f:ad}{fd:bn}(F:Fun K "lack_at" "lack_at" (top 80) f fd)(Wn:Fd P w K mg base 33 "whole_height" ["tops","x"] (RA K))(VY:mg "len" = none)(hT:P.given.tree=none) :
 Ax P w K mg base CX0 34 f fd ["pair","x","y"] (Mm K):=by
 refine F.ok Hv (fun vs H Q E h=>?_) (fun aP A outer s H vs Q E hr h=>?_)
 ·obtain⟨_,_,_,_,_,_,_,_,_,_,rfl,_⟩:=h;rfl
 refine⟨_,(Aa (K:=K) (Ai (i:=3) Hv.nd rfl (Or.inl rfl) (Af (BY hr hT) (Ak (BD K) rfl VY AE (A0 (pv 0) A8)) Ab))
  (Ae (Al (Af Bj (Af Aw (Ag (ixT K) (pv 2) Ab (fun u v=>rfl)) (Ag (ixT K) (Aj Wn hr rfl (A0 (Bz (slL K) (pv 0) C4 (C3 (pv 3))) (A0 (pv 1) A8))) Ab (fun u v=>rfl))) (Af Aw (Ag (ixT K) (pv 2) Ab (fun u v=>rfl)) (Ag (ixT K) (Aj Wn hr rfl (A0 (Bz (slL K) (pv 0) (C3 (pv 3)) C4) (A0 (pv 1) A8))) Ab (fun u v=>rfl)))))) (by rfl)),?_⟩
 obtain⟨l,rx,ry,ts,x,y,R,m,nx,ny,rfl,hS,hl,hx,⟨_,al,hy⟩,hB,bx,Y,hz,q⟩:=h;cases al;have aF:(nx+1)*(R+4)=(nx+1)*(R+2)+(nx+1)*2:=by rw[<- cB]
 generalize hP:(nx+1)*(R+2)=P at *;refine⟨_,Z,l,_,Z,.inl hS,_,_,Z,Z,by decide,?_⟩
 have eR:(((ts.map V.int).length:Nat):Int).fdiv 2=(R:Int):=by
  rw[Z4,hl,cR _ (by decide)];lia
 rw[eR];have W:(ts.take R).length=R:=by rw[Zh];lia
 have J:(ts.drop R).length=R:=by rw[Zx];lia
 refine⟨_,Z,ry,_,_,_,Z,Z,hy,Z,_,Z,_,Z,_,Z,l,_,Z,hS,fun p1 h1=>?_⟩;have c1:CM (ts.map V.int) none (some (R:Int))=(ts.take R).map V.int:=by rw[Eb,di]
 rw[c1];have n1:=Ac.new (o:=.lst ((ts.take R).map V.int)) h1;have e1:(upd H p1 (.lst ((ts.take R).map V.int))) p1=some (.lst ((ts.take R).map V.int)):=A9;generalize upd H p1 (.lst ((ts.take R).map V.int))=H1 at n1 e1 ⊢;refine⟨_,Z,p1,rx,ts.take R,x,m,nx,Z,SqL.of e1,hx.same n1,fun t ht=>hB t (cG ht),bx,by rw[W];lia,fun hN s p2 es a0 ap bN bs an=>?_⟩
 rw[W]at es bN bs;have n2:=Ac.new (o:=.tup [.int hN,.int s]) an;refine⟨p2,_,_,_,Z,Z,SqT.of A9,Z,_,_,Z,Z,BL.bd Y.2 bN (by lia),?_⟩
 have s2:=n1.trans n2;generalize upd H1 p2 (.tup [.int hN,.int s])=H2 at s2 ⊢;refine⟨_,Z,ry,_,_,_,Z,Z,hy.same s2,Z,_,Z,_,Z,_,Z,l,_,Z,Ac.seq s2 hS,fun p3 h3=>?_⟩;have c2:CM (ts.map V.int) (some (R:Int)) none=(ts.drop R).map V.int:=by rw[Ec,List.map_drop]
 rw[c2];have n3:=s2.trans (Ac.new (o:=.lst ((ts.drop R).map V.int)) h3);have e3:(upd H2 p3 (.lst ((ts.drop R).map V.int))) p3=some (.lst ((ts.drop R).map V.int)):=A9;generalize upd H2 p3 (.lst ((ts.drop R).map V.int))=H3 at n3 e3 ⊢;refine⟨_,Z,p3,rx,ts.drop R,x,m,nx,Z,SqL.of e3,hx.same n3,fun t ht=>hB t (dj ht),bx,by rw[J];lia,fun hD s' p4 O aC as bD ab ak=>?_⟩
 rw[J]at O bD ab;have n4:=Ac.new (o:=.tup [.int hD,.int s']) ak;refine⟨p4,_,_,_,Z,Z,SqT.of A9,Z,_,_,Z,Z,BL.bd Y.1 bD (by lia),_,_,Z,Z,?_⟩
 refine q _ _ (n3.trans n4) ?_ ?_
 ·rw[ZX,ZW,ZW,ap,as,O,<- es,ZW,Nm.num_mul y]
  grind
 ·exact Bd.sub (n:=m+P+ny) ((Y.2.mul bN).mono (by lia)) ((Y.1.mul bD).mono (by lia))
theorem Fi:Ah ["pair","x"] ["pair","x"] (Ad (top 81)):=fsc
theorem Fs{f:ad}{fd:bn}(F:Fun K "with_nought_at" "with_nought_at" (top 81) f fd)(VZ:mg "range" = none)(VY:mg "len" = none)(hT:P.given.tree=none) :
 Ax P w K mg base CX0 33 f fd ["pair","x"] (Ju K):=by
 refine F.ok Fi (fun vs H Q E h=>?_) (fun al A outer s H vs Q E hr h=>?_)
 ·obtain⟨_,_,_,_,_,_,rfl,_⟩:=h;rfl
 refine⟨_,(Ae (Al (Bp rfl (N:=["k","pair","x"]) (nt:=1) (js:=[0,1]) (AG.look (NX:=["pair","x"]) (sc:=Ad (top 81)) rfl rfl (by decide +kernel)) (Cf rfl VZ (A0 (Ak (BD K) rfl VY AE (A0 (pv 0) A8)) A8)) (fun u1 u2 u3 u4 u5=>(Ap (i:=0) (show List.Nodup (["k","pair","x"]:List Str) from by decide +kernel) rfl (Or.inl rfl))) (Av (by decide)) (fun u1 u2 u3 u4 u5=>AN) (fun u1 u2 u3 u4 u5=>(Af Bj (Af Aw (Ag (ixT K) (pv 2) Ab (fun u v=>rfl)) (Ag (ixL K) (pv 1) (Af Bj (pv 0) Ab) (fun u v=>rfl))) (Af Aw (Ag (ixT K) (pv 2) Ab (fun u v=>rfl)) (Ag (ixL K) (pv 1) (pv 0) (fun u v=>rfl)))))))),?_⟩
 obtain⟨l,rx,ts,x,m,n,rfl,hS,⟨_,ab,hx⟩,h1,ak,Y,hB,J,hz,q⟩:=h;cases ab;have tl:(ts.map V.int).length=ts.length:=Z4 _;refine Bh ⟨_,Z,l,_,Z,.inl hS,_,Z,by rw[tl];lia,by rw[tl];lia,?_⟩
 rw[Zt,tl];refine MR (L3 H x ts fun H x ts i zs G=>G=H/\zs=((Yu i).map fun k=>(x.den:Int)*(if k=0 then 0 else ts.getD (k-1) 0)-x.num*ts.getD k 0).map V.int) ⟨Z,Z⟩ (fun i zs G _ h=>by rw[h.2,Z4,Z4,bF]) (Yz (AS (by lia))) ?_ ?_
 ·rintro i zs G hi ⟨rfl,rfl⟩
  have O:atI (ts.map V.int) (0+(i:Int))=some (.int (ts.getD i 0)):=by
   rw[Int.zero_add];refine AB ?_;rw[Zl,aB hi,aw,aB hi];rfl
  have W:atI (ts.map V.int) (0+(i:Int)-1)=some (.int (if i=0 then 0 else ts.getD (i-1) 0)):=by
   by_cases z:i=0
   ·subst z;rw[if_pos rfl]
    have:atI (ts.map V.int) (-1)=some (.int 0):=R7 (by
     rw[tl,Zl,aB (by lia)]
     rw[aw,aB (by lia)]at Y
     exact congrArg (fun t=>some (V.int t)) Y)
    exact this
   ·rw[if_neg z,show(0:Int)+(i:Int)-1=((i-1:Nat):Int) by lia]
    refine AB ?_;rw[Zl,aB (by lia),aw,aB (by lia)];rfl
  have bp:Bd m (if i=0 then 0 else ts.getD (i-1) 0):=by
   split
   ·exact(show Bd 0 0 by unfold Bd;decide).mono (by lia)
   ·exact D3 hB _
  refine⟨_,Z,rx,_,_,_,Z,Z,hx,Z,_,Z,_,Z,_,_,Z,Z,l,_,_,_,Z,Z,hS,W,_,_,Z,Z,BL.bd J.2 bp (by lia),?_⟩
  refine⟨_,Z,rx,_,_,_,Z,Z,hx,Z,_,Z,_,Z,l,_,_,_,Z,Z,hS,O,_,_,Z,Z,BL.bd J.1 (D3 hB i) (by lia),_,_,Z,Z,Z,?_⟩
  rw[aW,aj,aj]
  rfl
 rintro zs G ⟨hG,rfl⟩ p hp;obtain rfl:H=G:=hG.symm;refine q p _ (Ac.new hp) A9 fun t ht=>?_;unfold shI at ht;obtain⟨k,_,rfl⟩:=(aX.mp ht)
 have bp:Bd m (if k=0 then 0 else ts.getD (k-1) 0):=by
  split
  ·exact(show Bd 0 0 by unfold Bd;decide).mono (by lia)
  ·exact D3 hB _
 exact Bd.sub (n:=m+n) ((J.2.mul bp).mono (by lia)) ((J.1.mul (D3 hB k)).mono (by lia))
theorem BS:Ah ["tops","measure","top"] ["tops"] (Ad (top 82)):=fsc
theorem Fq{f:ad}{fd:bn}(F:Fun K "without_common" "without_common" (top 82) f fd)(Wb:Fd P w K mg base 33 "common_measure" ["one","other"] (IV))(hT:P.given.tree=none) :
 Ax P w K mg base CX0 34 f fd ["tops"] (Pu K):=by
 refine F.ok BS (fun vs H Q E h=>?_) (fun bb A outer s H vs Q E hr h=>?_)
 ·obtain⟨_,_,_,rfl,_⟩:=h;rfl
 refine⟨_,(Aa (K:=K) (Ai (i:=1) BS.nd rfl (Or.inr rfl) Ab)
  (Aa (K:=K) (B0 (K:=K) PassesOwn.never rfl (piL K (pv 0)) (Ap (i:=2) BS.nd rfl (Or.inl rfl)) (Ae (Ai (i:=1) BS.nd rfl (Or.inr rfl) (Aj Wb hr rfl (A0 (pv 1) (A0 (pv 2) A8))))) (by rfl))
  (Ae (Al (Bp rfl (N:=["top","measure"]) (nt:=1) (js:=[1]) (AG.look (NX:=["tops","measure","top"]) (sc:=Ad (top 82)) rfl rfl (by decide +kernel)) (piL K (pv 0)) (fun u1 u2 u3 u4 u5=>(Ap (i:=0) (show List.Nodup (["top","measure"]:List Str) from by decide +kernel) rfl (Or.inl rfl))) (Av (by decide)) (fun u1 u2 u3 u4 u5=>AN) (fun u1 u2 u3 u4 u5=>(Af (BY hr hT) (pv 0) (pv 1)))))) (by rfl)) (by rfl)),?_⟩
 obtain⟨l,ts,m,rfl,hS,a0,ba,hB,q⟩:=h;have tl:(ts.map V.int).length=ts.length:=Z4 _;refine⟨_,Z,l,Z,⟨_,hS⟩,Dr (xs:=ts.map V.int) (L3 H l ts fun H l ts i σ G=>G=H/\∃(g:Int) (z:Option V),σ=[some (.ref l),some (.int g),z]/\0<=g/\(∀t∈ts.take i,g∣t)/\(g=0->∀t∈ts.take i,t=0)) ⟨Z,0,none,Z,by decide,(fun _ h=>nomatch h),fun _ _ h=>nomatch h⟩ (fun i σ G _ h=>by rw[h.1];exact hS) ?_ ?_⟩
 ·rintro i v σ G O ap;refine BJ ap fun an ak=>?_;refine Cj ak fun g z J=>?_;clear ak;refine Ep J fun as g0 hg ab=>?_;clear J;obtain rfl:=an;obtain rfl:=as
  try clear ap
  rw[Zl]at O;cases Y:ts[i]? with
  | none=>rw[Y]at O;cases O
  | some t =>
    rw[Y]at O;cases O;refine⟨_,Z,_,Z,g,t,Z,Z,_,_,Z,by lia,fun u hu=>?_,fun z u hu=>?_⟩
    ·rw[ai,Y]at hu
     rcases YE.mp hu with w | w
     ·exact Int.dvd_trans (ZO ..) (hg u w)
     ·rw[show u=t from aA.mp w];exact ZQ ..
    ·have z':ZL g t=0:=by lia
     rw[Int.gcd_eq_zero_iff]at z';rw[ai,Y]at hu
     rcases YE.mp hu with w | w
     ·exact ab z'.1 u w
     ·rw[show u=t from aA.mp w];exact z'.2
 rintro σ G aF;refine BJ aF fun hG al=>?_;refine Cj al fun g z W=>?_;clear al;refine Ep W fun aC g0 hg ab=>?_;clear W;obtain rfl:=aC
 try clear aF
 obtain rfl:H=G:=hG.symm;rw[tl,cV]at hg ab
 have aP:g≠0:=fun z=>by
  obtain⟨t,Y,hn⟩:=a0;exact hn (ab z t Y)
 refine Bh ⟨_,Z,l,Z,⟨_,hS⟩,?_⟩;refine Dc (xs:=ts.map V.int) (fun i zs G=>G=H/\zs=((ts.take i).map fun t=>t.fdiv g).map V.int) ⟨Z,Z⟩ (fun i zs G hi h=>⟨by rw[h.1];exact hS,by rw[h.2,Z4,Z4,Zh];lia⟩) (Yz (AS (by lia))) ?_ ?_
 ·rintro i v zs G O ⟨rfl,rfl⟩;rw[Zl]at O;cases Y:ts[i]? with
  | none=>rw[Y]at O;cases O
  | some t =>
    rw[Y]at O;cases O;refine⟨_,Z,_,Z,_,_,Z,Z,aP,Z,?_⟩;rw[ai,Y,aj,aj]
    rfl
 rintro zs G ⟨hG,rfl⟩ p hp;obtain rfl:H=G:=hG.symm;rw[tl,cV];refine q p _ g _ (Ac.new hp) A9 aP (by rw[Z4]) (fun j=>?_) fun t Y=>?_
 ·rw[aw,aw,Zl];cases Y:ts[j]? with
  | none=>exact cF _
  | some t =>
    show g*t.fdiv g=t;rw[cR _ g0];exact Int.mul_ediv_cancel' (hg t (Zn Y))
 ·obtain⟨u,hu,rfl⟩:=(aX.mp Y);rw[cR _ g0];have b:=hB u hu;unfold Bd at b ⊢;exact ZI (Int.natAbs_ediv_le_natAbs ..) b
theorem Bo:Ah ["both","x","y","low","high","lack","other"] ["both","x","y"] (Ad (top 83)):=fsc
theorem JX{f:ad}{fd:bn}(F:Fun K "both_with" "both_with" (top 83) f fd)(WN:Fd P w K mg base 34 "lack_at" ["pair","x","y"] (Mm K))(WQ:Fd P w K mg base 33 "with_nought_at" ["pair","x"] (Ju K))(Xc:Fd P w K mg base 34 "without_common" ["tops"] (Pu K))(W4:mg "zip" = none)(hT:P.given.tree=none) :
 Ax P w K mg base CX0 35 f fd ["both","x","y"] (Mo K):=by
 refine F.ok Bo (fun vs H Q E h=>?_) (fun dT A outer s H vs Q E hr h=>?_)
 ·obtain⟨_,_,_,_,_,_,_,_,_,_,_,_,_,_,_,_,_,_,_,_,_,rfl,_⟩:=h;rfl
 refine⟨_,(Aa (K:=K) (Ai (i:=3) Bo.nd rfl (Or.inl rfl) (Ag (ixT K) (pv 0) Ab (fun u v=>rfl)))
  (Aa (K:=K) (Ai (i:=4) Bo.nd rfl (Or.inl rfl) (Ag (ixT K) (pv 0) Ab (fun u v=>rfl)))
  (Aa (K:=K) (Ai (i:=5) Bo.nd rfl (Or.inr rfl) (Aj WN hr rfl (A0 (Ag (ixT K) (pv 3) Ab (fun u v=>rfl)) (A0 (pv 1) (A0 (pv 2) A8)))))
  (Aa (K:=K) (Ai (i:=6) Bo.nd rfl (Or.inr rfl) (Aj WN hr rfl (A0 (Ag (ixT K) (pv 4) Ab (fun u v=>rfl)) (A0 (pv 1) (A0 (pv 2) A8)))))
  (Aa (K:=K) (Ay (K:=K) (PW.pt (HC (Ao Cr (pv 5) Ab (Ar _)) (Fm (Ao Dj (pv 6) Ab (Ar _))))) (Ae (Ai (i:=4) Bo.nd rfl (Or.inl rfl) (AO (A0 (Af AV (Ag (ixT K) (pv 4) Ab (fun u v=>rfl)) Ab) (A0 (Aj WQ hr rfl (A0 (Ag (ixT K) (pv 4) Ab (fun u v=>rfl)) (A0 (pv 1) A8))) A8))))) Au (by rfl) (by rfl))
  (Aa (K:=K) (Ay (K:=K) (PW.pt (HC (Ao Dj (pv 5) Ab (Ar _)) (Fm (Ao Dj (pv 6) Ab (Ar _))))) (Ae (Ai (i:=4) Bo.nd rfl (Or.inl rfl) (AO (A0 (Ag (ixT K) (pv 4) Ab (fun u v=>rfl)) (A0 (Aj Xc hr rfl (A0 (Bp rfl (N:=["a","b","lack","other"]) (nt:=2) (js:=[5,6]) (AG.look (NX:=["both","x","y","low","high","lack","other"]) (sc:=Ad (top 83)) rfl rfl (by decide +kernel)) (SO K rfl W4 (A0 (Ag (ixT K) (pv 3) Ab (fun u v=>rfl)) (A0 (Ag (ixT K) (pv 4) Ab (fun u v=>rfl)) A8))) (fun u1 u2 u3 u4 u5=>(pgT K (n:=2) rfl (By (Ap (i:=0) (show List.Nodup (["a","b","lack","other"]:List Str) from by decide +kernel) rfl (Or.inl rfl)) (By (Ap (i:=1) (show List.Nodup (["a","b","lack","other"]:List Str) from by decide +kernel) rfl (Or.inl rfl)) Eg)))) (Ed (Bl (by decide) (Bl (by decide) Dv))) (fun u1 u2 u3 u4 u5=>AN) (fun u1 u2 u3 u4 u5=>(Af Bj (Af Aw (pv 2) (pv 1)) (Af Aw (pv 3) (pv 0))))) A8)) A8))))) Au (by rfl) (by rfl))
  (Aa (K:=K) (Ay (K:=K) (Ao Dj (pv 5) Ab (Ar _)) (Ae (Ai (i:=3) Bo.nd rfl (Or.inl rfl) (AO (A0 (Af AV (Ag (ixT K) (pv 3) Ab (fun u v=>rfl)) Ab) (A0 (Aj WQ hr rfl (A0 (Ag (ixT K) (pv 3) Ab (fun u v=>rfl)) (A0 (pv 1) A8))) A8))))) Au (by rfl) (by rfl))
  (Ae (Al (Di (Ao Ez (Ag (ixT K) (pv 3) Ab (fun u v=>rfl)) (Ag (ixT K) (pv 4) Ab (fun u v=>rfl)) (Ar _)) (AO (A0 (pv 3) (A0 (pv 4) A8))) (AO (A0 (pv 4) (A0 (pv 3) A8)))))) (by rfl)) (by rfl)) (by rfl)) (by rfl)) (by rfl)) (by rfl)) (by rfl)),?_⟩
 obtain⟨b,rx,ry,v1,v2,r1,r2,Y,W,w,v,n,R,ps,A,S,C,nx,ny,x,y,rfl,hb,⟨p1,l1,rfl,aP,bc⟩,⟨p2,l2,rfl,bb,bg⟩,I,eR,hw,hx,hy,bx,cC,dp,hk,dK,hC,hA,d4,q⟩:=h;have P2:2<=bi:=by decide
 refine Cj I.bd fun a1 a2 bl=>?_;refine DQ bl fun bf bt d3 d7 d6=>?_;clear bl;have dA:(nx+1)*(R+4)=(nx+1)*(R+2)+(nx+1)*2:=by rw[<- cB]
 have dn:(nx+1)*2<=(nx+1)*(R+2):=cA _ (by lia)
 obtain⟨c0,dt⟩:∃c0,c0=(nx+1)*(R+2)+ny:=⟨_,Z⟩;have d1:c0+2<=C:=by lia
 have dV:nx+1<=C:=by lia
 have be:1<=R:=by lia
 have b3:Y.getD (R-1) 0=0:=(I.z1 (R-1) (by lia) (by lia)).1
 have b6:Y.getD (R+(R-1)) 0=0:=(I.z1 (R-1) (by lia) (by lia)).2
 have cc:W.getD (R-1) 0=0:=(I.z2 (R-1) (by lia) (by lia)).1
 have co:W.getD (R+(R-1)) 0=0:=(I.z2 (R-1) (by lia) (by lia)).2
 have bm:Y.getD (Y.length-1) 0=0:=by rw[I.l1,show 2*R-1=R+(R-1) by lia];exact b6
 have b8:W.getD (W.length-1) 0=0:=by rw[I.l2,show 2*R-1=R+(R-1) by lia];exact co
 have bB:(((x.den:Int)):Rat)≠0:=LF (Nm.den_ne x);have bq:(((x.den:Int)):Rat)*x=((x.num:Int):Rat):=by rw[Nm.num_mul x];grind
 have hs:(((y.den:Int)*(x.den:Int) ^ R:Int):Rat)≠0:=LF (ZU (Nm.den_ne y) (Int.pow_ne_zero (Nm.den_ne x)));refine⟨_,Z,b,_,_,_,Z,Z,hb,Z,_,Z,b,_,_,_,Z,Z,hb,Z,?_⟩;refine⟨_,Z,p1,_,_,_,Z,Z,aP,Z,_,Z,_,Z,l1,rx,ry,Y,x,y,R,a1,nx,ny,Z,bc,I.l1,hx,hy,bf,bx,cC,by lia,fun L1 H1 s1 bp b2=>?_⟩
 refine⟨_,Z,p2,_,_,_,Z,Z,bb.same s1,Z,_,Z,_,Z,l2,rx,ry,W,x,y,R,a2,nx,ny,Z,Ac.seq s1 bg,I.l2,hx.same s1,hy.same s1,bt,bx,cC,by lia,fun L2 H2 s2 bh bD=>?_⟩
 have s2:=s1.trans s2;have b2:Bd (a1+(c0+1)) L1:=b2.mono (by lia)
 have bD:Bd (a2+(c0+1)) L2:=bD.mono (by lia)
 have bp:(L1:Rat)=(((y.den:Int)*(x.den:Int) ^ R:Int):Rat)*(Cv.ev (ic (Y.take R)) x-y*Cv.ev (ic (Y.drop R)) x):=bp;have bh:(L2:Rat)=(((y.den:Int)*(x.den:Int) ^ R:Int):Rat)*(Cv.ev (ic (W.take R)) x-y*Cv.ev (ic (W.drop R)) x):=bh;clear dA dn s1 hC dt hb;by_cases h1:L1=0
 ·by_cases h2:L2=0
  ·exact absurd ⟨Ry ((FA hs bp).mp h1),Ry ((FA hs bh).mp h2)⟩ (I.inv.some hw dp)
  ·-- lack=0,other≠0
   have dm:Cv.ev (ic (Y.take R)) x=y*Cv.ev (ic (Y.drop R)) x:=by have:=(FA hs bp).mp h1;exact Ry this
   refine⟨_,Z,Z,_,Z,Bi (decide_eq_true (by rw[h1])) ⟨_,Z,Z,_,Z,Bi (by rw[decide_eq_false fun z=>h2 (V.int.inj z)];rfl) ?_⟩⟩
   refine⟨_,Z,p2,_,_,_,Z,Z,bb.same s2,Z,_,_,Z,Z,_,Z,p2,_,_,_,Z,Z,bb.same s2,Z,_,Z,?_⟩;refine⟨l2,rx,W,x,a2,nx,Z,Ac.seq s2 bg,hx.same s2,by rw[I.l2];lia,by rw[I.l2];lia,b8,bt,bx,by lia,fun l9 G9 J e9 b9=>⟨P2,fun p9 aF=>?_⟩⟩
   have J:=s2.trans J;have O:=Ac.new (o:=.tup [.int (r2+2),.ref l9]) aF;have ab:(upd G9 p9 (.tup [.int (r2+2),.ref l9])) p9=some (.tup [.int (r2+2),.ref l9]):=A9;have e9:=O _ _ e9;have J:=J.trans O;generalize upd G9 p9 (.tup [.int (r2+2),.ref l9])=G at ab e9 J ⊢;clear O aF;refine⟨_,Z,Z,_,Z,AM (by rw[decide_eq_true (by rw[h1])];rfl) (BP ?_)⟩
   refine⟨_,Z,Z,_,Z,AM (by rw[decide_eq_true (by rw[h1])];rfl) ?_⟩
   have un:=I.inv.stepA (y:=y) bB bq dm (Hn I.l2 be cc) (Ho I.l2 be cc co);have ak:=I.l1;have an:=(EH x.num x.den W).trans I.l2;have ap:∀j,(ps++[(x,y)]).length+1<=j->j<R->Y.getD j 0=0/\Y.getD (R+j) 0=0:=fun j h=>I.z1 j (by rw[Zo]at h;lia)
   have al:∀j,(ps++[(x,y)]).length+1<=j->j<R->(shI x.num x.den W).getD j 0=0/\(shI x.num x.den W).getD (R+j) 0=0:=by rw[Zo];exact Hr (c:=x.num) (d:=x.den) I.z2
   have a0:=bf;have ba:=b9;refine⟨_,Z,p1,_,_,_,Z,Z,aP.same J,Z,_,Z,p9,_,_,_,Z,Z,SqT.of ab,Z,_,_,Z,Z,_,Z,?_⟩;by_cases hlt:r1<r2+2
   ·refine Bi (decide_eq_true hlt) ⟨_,Z,_,Z,P2,fun t9 as=>?_⟩;have O:=Ac.new (o:=.tup [.ref p1,.ref p9]) as;exact q t9 _ _ _ _ _ _ _ (J.trans O) (SqT.of A9) ⟨p1,_,Z,(aP.same J).same O,Ac.seq O (Ac.seq J bc)⟩ ⟨p9,_,Z,(SqT.of ab).same O,Ac.seq O (SqL.of e9)⟩ ⟨un.inv hlt,ak,an,ap,al,_,_,a0,ba,by lia,by lia,by lia⟩
   ·refine AM (decide_eq_false hlt) ⟨_,Z,_,Z,P2,fun t9 as=>?_⟩;have O:=Ac.new (o:=.tup [.ref p9,.ref p1]) as;exact q t9 _ _ _ _ _ _ _ (J.trans O) (SqT.of A9) ⟨p9,_,Z,(SqT.of ab).same O,Ac.seq O (SqL.of e9)⟩ ⟨p1,_,Z,(aP.same J).same O,Ac.seq O (Ac.seq J bc)⟩ ⟨un.turn hlt,an,ak,al,ap,_,_,ba,a0,by lia,by lia,by lia⟩
 ·by_cases h2:L2=0
  ·-- lack≠0,other=0
   have dC:Cv.ev (ic (W.take R)) x=y*Cv.ev (ic (W.drop R)) x:=by have:=(FA hs bh).mp h2;exact Ry this
   refine⟨_,Z,Z,_,Z,AM (decide_eq_false fun z=>h1 (V.int.inj z)) (BP ?_)⟩;refine⟨_,Z,Z,_,Z,Bi (by rw[decide_eq_false fun z=>h1 (V.int.inj z)];rfl) ⟨_,Z,Z,_,Z,AM (by rw[decide_eq_true (by rw[h2])];rfl) ?_⟩⟩
   refine⟨_,Z,Z,_,Z,Bi (by rw[decide_eq_false fun z=>h1 (V.int.inj z)];rfl) ?_⟩
   refine⟨_,Z,p1,_,_,_,Z,Z,aP.same s2,Z,_,_,Z,Z,_,Z,p1,_,_,_,Z,Z,aP.same s2,Z,_,Z,?_⟩;refine⟨l1,rx,Y,x,a1,nx,Z,Ac.seq s2 bc,hx.same s2,by rw[I.l1];lia,by rw[I.l1];lia,bm,bf,bx,by lia,fun l9 G9 J e9 b9=>⟨P2,fun p9 aF=>?_⟩⟩
   have J:=s2.trans J;have O:=Ac.new (o:=.tup [.int (r1+2),.ref l9]) aF;have ab:(upd G9 p9 (.tup [.int (r1+2),.ref l9])) p9=some (.tup [.int (r1+2),.ref l9]):=A9;have e9:=O _ _ e9;have J:=J.trans O;generalize upd G9 p9 (.tup [.int (r1+2),.ref l9])=G at ab e9 J ⊢;clear O aF;have un:=I.inv.stepB (y:=y) bB bq dC (Hn I.l1 be b3) (Ho I.l1 be b3 b6);have ak:=(EH x.num x.den Y).trans I.l1;have an:=I.l2;have al:∀j,(ps++[(x,y)]).length+1<=j->j<R->W.getD j 0=0/\W.getD (R+j) 0=0:=fun j h=>I.z2 j (by rw[Zo]at h;lia)
   have ap:∀j,(ps++[(x,y)]).length+1<=j->j<R->(shI x.num x.den Y).getD j 0=0/\(shI x.num x.den Y).getD (R+j) 0=0:=by rw[Zo];exact Hr (c:=x.num) (d:=x.den) I.z1
   have a0:=b9;have ba:=bt;refine⟨_,Z,p9,_,_,_,Z,Z,SqT.of ab,Z,_,Z,p2,_,_,_,Z,Z,bb.same J,Z,_,_,Z,Z,_,Z,?_⟩;by_cases hlt:r1+2<r2
   ·refine Bi (decide_eq_true hlt) ⟨_,Z,_,Z,P2,fun t9 as=>?_⟩;have O:=Ac.new (o:=.tup [.ref p9,.ref p2]) as;exact q t9 _ _ _ _ _ _ _ (J.trans O) (SqT.of A9) ⟨p9,_,Z,(SqT.of ab).same O,Ac.seq O (SqL.of e9)⟩ ⟨p2,_,Z,(bb.same J).same O,Ac.seq O (Ac.seq J bg)⟩ ⟨un.inv hlt,ak,an,ap,al,_,_,a0,ba,by lia,by lia,by lia⟩
   ·refine AM (decide_eq_false hlt) ⟨_,Z,_,Z,P2,fun t9 as=>?_⟩;have O:=Ac.new (o:=.tup [.ref p2,.ref p9]) as;exact q t9 _ _ _ _ _ _ _ (J.trans O) (SqT.of A9) ⟨p2,_,Z,(bb.same J).same O,Ac.seq O (Ac.seq J bg)⟩ ⟨p9,_,Z,(SqT.of ab).same O,Ac.seq O (SqL.of e9)⟩ ⟨un.turn hlt,an,ak,al,ap,_,_,ba,a0,by lia,by lia,by lia⟩
  ·-- both
   refine⟨_,Z,Z,_,Z,AM (decide_eq_false fun z=>h1 (V.int.inj z)) (BP ?_)⟩;refine⟨_,Z,Z,_,Z,Bi (by rw[decide_eq_false fun z=>h1 (V.int.inj z)];rfl) ⟨_,Z,Z,_,Z,Bi (by rw[decide_eq_false fun z=>h2 (V.int.inj z)];rfl) ?_⟩⟩
   refine⟨_,Z,p2,_,_,_,Z,Z,bb.same s2,Z,?_⟩;refine Bh ⟨_,Z,p1,_,_,_,Z,Z,aP.same s2,Z,_,Z,p2,_,_,_,Z,Z,bb.same s2,Z,l1,l2,Y.map V.int,W.map V.int,Z,Ac.seq s2 bc,Ac.seq s2 bg,?_⟩;have d2:(Y.map V.int).length=2*R:=by rw[Z4];exact I.l1
   have d8:(W.map V.int).length=2*R:=by rw[Z4];exact I.l2
   have cN:min (Y.map V.int).length (W.map V.int).length=2*R:=by lia
   refine U8 (xs:=Y.map V.int) (ys:=W.map V.int) (L5 H2 L1 W L2 Y fun H2 L1 W L2 Y i zs G=>Ac H2 G/\zs=((Yu i).map fun k=>L1*W.getD k 0-L2*Y.getD k 0).map V.int) ⟨Ac.refl _,Z⟩ (fun i zs G _ h=>⟨Ac.seq (s2.trans h.1) bc,Ac.seq (s2.trans h.1) bg,by rw[h.2,Z4,Z4,bF]⟩) (Yz (AS (by lia))) ?_ ?_
   ·rintro i u1 u2 T zs G b7 cp hT ⟨sg,rfl⟩;have hi:i<2*R:=by have:=(YG.mp b7).1;lia
    have g1:Y[i]? = some (Y.getD i 0):=by rw[aw,aB (by have:=I.l1;lia)];rfl
    have g2:W[i]? = some (W.getD i 0):=by rw[aw,aB (by have:=I.l2;lia)];rfl
    rw[Zl,g1]at b7;rw[Zl,g2]at cp;cases b7;cases cp;refine⟨_,Z,_,Z,_,_,Z,Z,BL.bd b2 (D3 bt i) (by lia),_,Z,_,Z,_,_,Z,Z,BL.bd bD (D3 bf i) (by lia),_,_,Z,Z,sg.trans (Ac.new hT),?_⟩
    rw[aW,aj,aj]
    rfl
   rintro zs G ⟨sg,rfl⟩ m9 cD;rw[cN];generalize b1:((Yu (2*R)).map fun k=>L1*W.getD k 0-L2*Y.getD k 0)=ms;have b5:ms.length=2*R:=by rw[<- b1,Z4,bF]
   have bN:∀j,ms.getD j 0=L1*W.getD j 0-L2*Y.getD j 0:=fun j=>by
    rcases cg j (2*R) with z | z
    ·rw[<- b1,aw,Zl,bJ z];rfl
    ·rw[Dq (by lia),Dq (by have:=I.l2;lia),Dq (by have:=I.l1;lia),cF,cF];rfl
   have ca:∀t∈ms,Bd (a1+a2+(c0+2)) t:=fun t ht=>by
    rw[<- b1]at ht;obtain⟨k,_,rfl⟩:=(aX.mp ht);exact Bd.sub (n:=a1+a2+(c0+1)) ((b2.mul (D3 bt k)).mono (by lia)) ((bD.mul (D3 bf k)).mono (by lia))
   have cv:∃t∈ms,t≠0:=by
    have top:=D5.mix (m:=1) (a:=(L1:Rat)) (b:=(L2:Rat)) I.inv.top2 I.inv.le1 I.inv.lt (LF h1) (N':=ic (ms.take R)) (D':=ic (ms.drop R)) (Lq (g:=1) R fun j=>by rw[ZP,bN]) (Lr (g:=1) R fun j=>by rw[ZP,bN])
    have cn:∀j,((ms.getD j 0:Int):Rat)≠0->∃t∈ms,t≠0:=fun j hj=>by
     have h0:ms.getD j 0≠0:=fun z=>hj (by rw[z];exact cL)
     rcases cg j ms.length with z | z
     ·exact⟨_,J9 z,h0⟩
     ·exact absurd (Dq z) h0
    rcases top with ⟨j,_,hj⟩ | ⟨j,_,hj⟩
    ·rw[Bb,Bv]at hj
     split at hj
     ·exact cn j hj
     ·exact absurd cL hj
    ·rw[Bb,Bw]at hj;exact cn _ hj
   refine⟨m9,ms,a1+a2+(c0+2),Z,SqL.of A9,cv,by rw[b5];lia,ca,fun l8 G8 g us s8 e8 g0 b4 aC dd=>⟨P2,fun p8 cu=>?_⟩⟩
   have s8:=((s2.trans sg).trans (Ac.new (o:=.lst (ms.map V.int)) cD)).trans s8;have n8:=Ac.new (o:=.tup [.int r2,.ref l8]) cu;have b0:(upd G8 p8 (.tup [.int r2,.ref l8])) p8=some (.tup [.int r2,.ref l8]):=A9;have e8:=n8 _ _ e8;have s8:=s8.trans n8;generalize upd G8 p8 (.tup [.int r2,.ref l8])=G7 at b0 e8 s8 ⊢;have aC:∀j,g*us.getD j 0=L1*W.getD j 0-L2*Y.getD j 0:=fun j=>by rw[aC j,bN j]
   have b4:us.length=2*R:=b4.trans b5;clear n8 cu cv ca bN b1 b5 sg cD;refine⟨_,Z,Z,_,Z,Bi (by rw[decide_eq_false fun z=>h1 (V.int.inj z)];rfl) ?_⟩
   refine⟨_,Z,p1,_,_,_,Z,Z,aP.same s8,Z,_,_,Z,Z,_,Z,p1,_,_,_,Z,Z,aP.same s8,Z,_,Z,?_⟩;refine⟨l1,rx,Y,x,a1,nx,Z,Ac.seq s8 bc,hx.same s8,by rw[I.l1];lia,by rw[I.l1];lia,bm,bf,bx,by lia,fun l9 G9 J e9 b9=>⟨P2,fun p9 aF=>?_⟩⟩
   have dc:=J.trans (Ac.new (o:=.tup [.int (r1+2),.ref l9]) aF);have J:=s8.trans J;have O:=Ac.new (o:=.tup [.int (r1+2),.ref l9]) aF;have ab:(upd G9 p9 (.tup [.int (r1+2),.ref l9])) p9=some (.tup [.int (r1+2),.ref l9]):=A9;have e9:=O _ _ e9;have J:=J.trans O;generalize upd G9 p9 (.tup [.int (r1+2),.ref l9])=G at ab e9 J dc ⊢;clear O aF;have un:=I.inv.stepC (y:=y) (s:=(((y.den:Int)*(x.den:Int) ^ R:Int):Rat)) bB bq (LF h1) (LF g0) bp bh (Hn I.l1 be b3) (Ho I.l1 be b3 b6) (Lq R aC) (Lr R aC);have ak:=(EH x.num x.den Y).trans I.l1;have an:=b4;have ap:∀j,(ps++[(x,y)]).length+1<=j->j<R->(shI x.num x.den Y).getD j 0=0/\(shI x.num x.den Y).getD (R+j) 0=0:=by rw[Zo];exact Hr (c:=x.num) (d:=x.den) I.z1
   have al:∀j,(ps++[(x,y)]).length+1<=j->j<R->us.getD j 0=0/\us.getD (R+j) 0=0:=fun j h hj=>by
    rw[Zo]at h;have q1:=I.z1 j (by lia) hj
    have q2:=I.z2 j (by lia) hj
    exact⟨Lp g0 aC q1.1 q2.1,Lp g0 aC q1.2 q2.2⟩
   have a0:=b9;have ba:=dd;have sG:Ac G7 G:=dc;refine⟨_,Z,p9,_,_,_,Z,Z,SqT.of ab,Z,_,Z,p8,_,_,_,Z,Z,(SqT.of (K:=K) b0).same sG,Z,_,_,Z,Z,_,Z,?_⟩;by_cases hlt:r1+2<r2
   ·refine Bi (decide_eq_true hlt) ⟨_,Z,_,Z,P2,fun t9 as=>?_⟩;have O:=Ac.new (o:=.tup [.ref p9,.ref p8]) as;exact q t9 _ _ _ _ _ _ _ (J.trans O) (SqT.of A9) ⟨p9,_,Z,(SqT.of ab).same O,Ac.seq O (SqL.of e9)⟩ ⟨p8,_,Z,((SqT.of (K:=K) b0).same sG).same O,Ac.seq O (Ac.seq sG (SqL.of (K:=K) e8))⟩ ⟨un.inv hlt,ak,an,ap,al,_,_,a0,ba,by lia,by lia,by lia⟩
   ·refine AM (decide_eq_false hlt) ⟨_,Z,_,Z,P2,fun t9 as=>?_⟩;have O:=Ac.new (o:=.tup [.ref p8,.ref p9]) as;exact q t9 _ _ _ _ _ _ _ (J.trans O) (SqT.of A9) ⟨p8,_,Z,((SqT.of (K:=K) b0).same sG).same O,Ac.seq O (Ac.seq sG (SqL.of (K:=K) e8))⟩ ⟨p9,_,Z,(SqT.of ab).same O,Ac.seq O (SqL.of e9)⟩ ⟨un.turn hlt,an,ak,al,ap,_,_,ba,a0,by lia,by lia,by lia⟩
theorem Iq:Ah ["tops","bottom"] ["tops","bottom"] (Ad (top 27)):=fsc
theorem ID{f:ad}{fd:bn}(F:Fun K "curve_over" "curve_over" (top 27) f fd)(WA:Fd P w K mg base 33 "curve_of" ["numbers"] (Ef K))(W7:Fd P w K mg base 34 "number_of" ["top","bottom"] (DT))(hT:P.given.tree=none) :
 Ax P w K mg base CX0 35 f fd ["tops","bottom"] (CV K):=by
 refine F.ok Iq (fun vs H Q E h=>?_) (fun ab A outer s H vs Q E hr h=>?_)
 ·obtain⟨_,_,_,rfl,_⟩:=h;rfl
 refine⟨_,(Ae (Al (Aj WA hr rfl (A0 (Bp rfl (N:=["top","bottom"]) (nt:=1) (js:=[1]) (AG.look (NX:=["tops","bottom"]) (sc:=Ad (top 27)) rfl rfl (by decide +kernel)) (piS K (pv 0)) (fun u1 u2 u3 u4 u5=>(Ap (i:=0) (show List.Nodup (["top","bottom"]:List Str) from by decide +kernel) rfl (Or.inl rfl))) (Av (by decide)) (fun u1 u2 u3 u4 u5=>AN) (fun u1 u2 u3 u4 u5=>(Aj W7 hr rfl (A0 (pv 0) (A0 (pv 1) A8))))) A8)))),?_⟩
 obtain⟨l,ts,b,rfl,hS,hb,hz,q⟩:=h;have ll:(ts.map V.int).length=ts.length:=Z4 _;refine HY (b:=true) (a:=l) (xs:=ts.map V.int) rfl (L4 H K ts b fun H K ts b i zs H'=>Ac H H'/\zs.length=i/\AD K H' zs ((ts.take i).map fun t=>ZN t b)) ⟨Ac.refl _,Z,.nil⟩ (fun i zs H' _ p=>⟨Ac.seq p.1 hS,p.2.1⟩) (by rw[ll];exact Yz (AS hz)) ?_ ?_
 ·rintro i x zs H' Y ⟨J,hl,O⟩;rw[Zl]at Y;cases et:ts[i]? with
  | none=>rw[et]at Y;cases Y
  | some t =>
    rw[et]at Y;cases Y;refine⟨_,Z,_,Z,t,b,Z,hb,fun p W=>⟨J.trans (Ac.new W),by simp[hl],?_⟩⟩
    rw[ai,et,aj];exact Paired.snoc (AD.same O (Ac.new W)) (Az.of A9)
 ·rintro zs H' ⟨J,hl,O⟩ p W;rw[ll,cV]at O;refine⟨p,zs,_,Z,SqL.of A9,AD.same O (Ac.new W),by rw[Z4];exact hz,fun r H2 s2 c=>q r H2 ((J.trans (Ac.new W)).trans s2) c⟩
theorem AX:Ah ["places","heights","width","room","first","second","both","x","y","tops"] ["places","heights","width"] (Ad (top 84)):=fsc
theorem GL{f:ad}{fd:bn}(F:Fun K "pair_through" "pair_through" (top 84) f fd)(Xd:Fd P w K mg base 35 "both_with" ["both","x","y"] (Mo K))(Wq:Fd P w K mg base 35 "curve_over" ["tops","bottom"] (CV K))(W4:mg "zip" = none)(VY:mg "len" = none)(hT:P.given.tree=none) :
 Ax P w K mg base CX0 36 f fd ["places","heights","width"] (Mg K):=by
 refine F.ok AX (fun vs H Q E h=>?_) (fun ez A outer s H vs Q E hr h=>?_)
 ·obtain⟨_,_,_,_,_,_,_,_,_,_,_,rfl,_⟩:=h;rfl
 refine⟨_,(Aa (K:=K) (Ai (i:=3) AX.nd rfl (Or.inl rfl) (Af AV (Ak (BD K) rfl VY AE (A0 (pv 0) A8)) Ab))
  (Aa (K:=K) (Ai (i:=4) AX.nd rfl (Or.inl rfl) (AO (A0 (Af Aw Ab (Af Bj Ab (pv 2))) (A0 (Af MF (Bu (A0 Ab A8)) (Af HK (Bu (A0 Ab A8)) (Af Bj (Af Aw Ab (pv 3)) Ab))) A8))))
  (Aa (K:=K) (Ai (i:=5) AX.nd rfl (Or.inl rfl) (AO (A0 (Af AV (Af Aw Ab (Af Bj Ab (Af Bj (pv 3) (pv 2)))) Ab) (A0 (Af MF (Af MF (Af HK (Bu (A0 Ab A8)) (pv 3)) (Bu (A0 Ab A8))) (Af HK (Bu (A0 Ab A8)) (Af Bj (pv 3) Ab))) A8))))
  (Aa (K:=K) (Ai (i:=6) AX.nd rfl (Or.inl rfl) (Di (Ao Ez (Ag (ixT K) (pv 4) Ab (fun u v=>rfl)) (Ag (ixT K) (pv 5) Ab (fun u v=>rfl)) (Ar _)) (AO (A0 (pv 4) (A0 (pv 5) A8))) (AO (A0 (pv 5) (A0 (pv 4) A8)))))
  (Aa (K:=K) (B0 (K:=K) PassesOwn.never rfl (SO K rfl W4 (A0 (pv 0) (A0 (pv 1) A8))) (pgT K (n:=2) rfl (By (Ap (i:=7) AX.nd rfl (Or.inl rfl)) (By (Ap (i:=8) AX.nd rfl (Or.inl rfl)) Eg))) (Ae (Ai (i:=6) AX.nd rfl (Or.inl rfl) (Aj Xd hr rfl (A0 (pv 6) (A0 (pv 7) (A0 (pv 8) A8)))))) (by rfl))
  (Aa (K:=K) (Ai (i:=9) AX.nd rfl (Or.inl rfl) (Ag (ixT K) (Ag (ixT K) (pv 6) Ab (fun u v=>rfl)) Ab (fun u v=>rfl)))
  (Ae (Al (AO (A0 (Aj Wq hr rfl (A0 (Bz (slL K) (pv 9) C4 (C3 (pv 3))) (A0 Ab A8))) (A0 (Aj Wq hr rfl (A0 (Bz (slL K) (pv 9) (C3 (pv 3)) C4) (A0 Ab A8))) A8))))) (by rfl)) (by rfl)) (by rfl)) (by rfl)) (by rfl)) (by rfl)),?_⟩
 obtain⟨lp,lh,zs,ys,qs,hs,W,n,nx,ny,C,rfl,hP,hZ,hH,hY,eA,eD,ey,b2,d3,eu,ew,bq,bh,hC,hG,q⟩:=h;have P1:1<=bi:=by decide
 have P2:2<=bi:=by decide
 have aP:60<=bi:=by decide
 have eB:=hZ.length;refine⟨_,Z,lp,_,Z,.inl hP,_,_,Z,Z,?_⟩;have eR:((zs.length:Nat):Int)+1=((n+1:Nat):Int):=by lia
 rw[eR];refine⟨_,Z,_,_,Z,Z,_,_,Z,Z,.inl ⟨by decide,by decide⟩,P1,fun o1 dp=>⟨P1,fun o2 dT=>?_⟩⟩
 have n1:=Ac.new (o:=.lst [.int 1]) dp;have n2:=Ac.new (o:=.lst [.int 0]) dT;refine⟨_,Z,_,_,Z,Z,.inl ⟨by decide,by decide⟩,_,_,Z,Z,o2,_,[.int 0],Z,Z,A9,by lia,by lia,Yy (show _<=60 by show 1*_<=60;lia) aP,fun o3 d9=>?_⟩
 have e3:(Zf (2*((n+1:Nat):Int)-1).toNat [V.int 0]).flatten=(Zf (2*(n+1)-1) (0:Int)).map V.int:=by rw[show(2*((n+1:Nat):Int)-1).toNat=2*(n+1)-1 by lia,RO]
 rw[e3];have n3:=Ac.new (o:=.lst ((Zf (2*(n+1)-1) (0:Int)).map V.int)) d9;refine⟨o1,o3,[.int 1],_,Z,Z,n3 _ _ (n2 _ _ A9),A9,Yy (show _<=60 by rw[ZF,Z4,Zp];lia) aP,fun k1 d8=>⟨P2,fun f1 dt=>?_⟩⟩
 have n4:=Ac.new (o:=.lst ([V.int 1]++(Zf (2*(n+1)-1) (0:Int)).map V.int)) d8;have n5:=Ac.new (o:=.tup [.int (2*(1-(W:Int))),.ref k1]) dt;have sF:=(((n1.trans n2).trans n3).trans n4).trans n5;have al:=n5 _ _ (A9 (H:=upd (upd (upd H o1 (.lst [.int 1])) o2 (.lst [.int 0])) o3 (.lst ((Zf (2*(n+1)-1) (0:Int)).map V.int))) (a:=k1) (o:=.lst ([V.int 1]++(Zf (2*(n+1)-1) (0:Int)).map V.int)));have aF:=A9 (H:=upd (upd (upd (upd H o1 (.lst [.int 1])) o2 (.lst [.int 0])) o3 (.lst ((Zf (2*(n+1)-1) (0:Int)).map V.int))) k1 (.lst ([V.int 1]++(Zf (2*(n+1)-1) (0:Int)).map V.int))) (a:=f1) (o:=.tup [.int (2*(1-(W:Int))),.ref k1]);generalize upd (upd (upd (upd (upd H o1 (.lst [.int 1])) o2 (.lst [.int 0])) o3 (.lst ((Zf (2*(n+1)-1) (0:Int)).map V.int))) k1 (.lst ([V.int 1]++(Zf (2*(n+1)-1) (0:Int)).map V.int))) f1 (.tup [.int (2*(1-(W:Int))),.ref k1])=HF at sF al aF ⊢;have al:HF k1=some (.lst ((DI (n+1)).map V.int)):=al;clear n1 n2 n3 n4 n5 e3 dp dT d9 d8 dt;refine⟨_,Z,_,Z,_,_,Z,Z,_,_,Z,Z,_,_,Z,Z,.inl ⟨by decide,by decide⟩,_,_,Z,Z,P1,fun o5 el=>?_⟩
 have O:=Ac.new (o:=.lst [.int 0]) el;have e5:=A9 (H:=HF) (a:=o5) (o:=.lst [.int 0]);generalize upd HF o5 (.lst [.int 0])=A1 at O e5 ⊢;refine⟨_,Z,o5,_,[.int 0],Z,Z,e5,by lia,by lia,Yy (show _<=60 by show 1*_<=60;lia) aP,fun o6 eh=>?_⟩
 rw[Zt,RO];have O:=O.trans (Ac.new (o:=.lst ((Zf (n+1) (0:Int)).map V.int)) eh);have e6:=A9 (H:=A1) (a:=o6) (o:=.lst ((Zf (n+1) (0:Int)).map V.int));generalize upd A1 o6 (.lst ((Zf (n+1) (0:Int)).map V.int))=A2 at O e6 ⊢;refine⟨P1,fun o7 eo=>?_⟩;have n3:=Ac.new (o:=.lst [.int 1]) eo;have e7:=A9 (H:=A2) (a:=o7) (o:=.lst [.int 1]);have e6:=n3 _ _ e6;have O:=O.trans n3;generalize upd A2 o7 (.lst [.int 1])=A3 at O e6 e7 ⊢;refine⟨o6,o7,_,_,Z,Z,e6,e7,Yy (show _<=60 by rw[ZF,Z4,Zp];lia) aP,fun o8 et=>?_⟩
 have O:=O.trans (Ac.new (o:=.lst ((Zf (n+1) (0:Int)).map V.int++[V.int 1])) et);have e8:=A9 (H:=A3) (a:=o8) (o:=.lst ((Zf (n+1) (0:Int)).map V.int++[V.int 1]));generalize upd A3 o8 (.lst ((Zf (n+1) (0:Int)).map V.int++[V.int 1]))=A4 at O e8 ⊢;refine⟨P1,fun o9 ej=>?_⟩;have n5:=Ac.new (o:=.lst [.int 0]) ej;have e9:=A9 (H:=A4) (a:=o9) (o:=.lst [.int 0]);have e8:=n5 _ _ e8;have O:=O.trans n5;generalize upd A4 o9 (.lst [.int 0])=A5 at O e8 e9 ⊢;refine⟨_,Z,_,_,Z,Z,o9,_,[.int 0],Z,Z,e9,by lia,by lia,Yy (show _<=60 by show 1*_<=60;lia) aP,fun b7 d1=>?_⟩
 have dK:(Zf (((n+1:Nat):Int)-1).toNat [V.int 0]).flatten=(Zf (n+1-1) (0:Int)).map V.int:=by rw[show(((n+1:Nat):Int)-1).toNat=n+1-1 by lia,RO]
 rw[dK];have n6:=Ac.new (o:=.lst ((Zf (n+1-1) (0:Int)).map V.int)) d1;have e8:=n6 _ _ e8;have ea:=A9 (H:=A5) (a:=b7) (o:=.lst ((Zf (n+1-1) (0:Int)).map V.int));have O:=O.trans n6;generalize upd A5 b7 (.lst ((Zf (n+1-1) (0:Int)).map V.int))=A6 at O e8 ea ⊢;refine⟨o8,b7,_,_,Z,Z,e8,ea,Yy (show _<=60 by rw[Zo,ZF,Z4,Zp,Z4,Zp];lia) aP,fun k2 ef=>?_⟩
 have b1:(Zf (n+1) (0:Int)).map V.int++[V.int 1]++(Zf (n+1-1) (0:Int)).map V.int=(BR (n+1)).map V.int:=by unfold BR;rw[aj,aj];rfl
 rw[b1];have O:=O.trans (Ac.new (o:=.lst ((BR (n+1)).map V.int)) ef);have a0:=A9 (H:=A6) (a:=k2) (o:=.lst ((BR (n+1)).map V.int));generalize upd A6 k2 (.lst ((BR (n+1)).map V.int))=A7 at O a0 ⊢;refine⟨P2,fun f2 ei=>?_⟩;have n8:=Ac.new (o:=.tup [.int (2*(1-(((n+1:Nat):Int)-(W:Int)))+1),.ref k2]) ei;have bB:=A9 (H:=A7) (a:=f2) (o:=.tup [.int (2*(1-(((n+1:Nat):Int)-(W:Int)))+1),.ref k2]);have a0:=n8 _ _ a0;have O:=O.trans n8;generalize upd A7 f2 (.tup [.int (2*(1-(((n+1:Nat):Int)-(W:Int)))+1),.ref k2])=HG at O a0 bB ⊢;have sG:=sF.trans O;have aF:=O _ _ aF;have al:=O _ _ al;clear n3 n5 n6 n8 b1 dK sF O;have eg:(2*(1-(((n+1:Nat):Int)-(W:Int)))+1)=2*(1-((n:Int)+1-W))+1:=by lia
 rw[eg]at bB;have un:=VG (n:=n) eu ew;refine⟨_,Z,f1,_,_,_,Z,Z,SqT.of aF,Z,_,Z,f2,_,_,_,Z,Z,SqT.of bB,Z,_,_,Z,Z,_,Z,?_⟩;by_cases hlt:2*(1-(W:Int))<2*(1-((n:Int)+1-W))+1
 ·refine Bi (decide_eq_true hlt) ⟨_,Z,_,Z,P2,fun b0 ak=>?_⟩;have nb:=Ac.new (o:=.tup [.ref f1,.ref f2]) ak
  obtain⟨va,vb,ra,J,Y,Tb,ak,R1,R2,S0⟩:∃(va vb:V) (ra J:Int) (Y Tb:List Int),SqT K (upd HG b0 (.tup [.ref f1,.ref f2])) b0 [va,vb]/\Rpr K (upd HG b0 (.tup [.ref f1,.ref f2])) va ra Y/\Rpr K (upd HG b0 (.tup [.ref f1,.ref f2])) vb J Tb/\PSt (W:Int) ((n:Int)+1-W) n (n+1) ((qs.zip hs).take 0) (gAS C 0).1 (gAS C 0).2 ra Y J Tb :=
   ⟨_,_,_,_,_,_,SqT.of A9,⟨f1,k1,Z,SqT.of (nb _ _ aF),SqL.of (nb _ _ al)⟩,⟨f2,k2,Z,SqT.of (nb _ _ bB),SqL.of (nb _ _ a0)⟩,⟨un.inv hlt,FE n,Eu n,Ig n,Gs n,1,1,LH _,IX _,YL 1,YL 1,YL 2⟩⟩
  have sB:=sG.trans nb;generalize upd HG b0 (.tup [.ref f1,.ref f2])=H0 at sB ak R1 R2 ⊢;refine⟨_,Z,_,Z,lp,lh,zs,ys,Z,Ac.seq sB hP,Ac.seq sB hH,NO (xs:=zs) (ys:=ys) (L11 H lp lh W n f1 f2 K qs hs C fun H lp lh W n f1 f2 K qs hs C i σ G=>Ac H G/\∃(b:ad) (va vb:V) (ra J:Int) (Y Tb:List Int) (z7 z8:Option V),σ=[some (.ref lp),some (.ref lh),some (.int (W:Int)),some (.int ((n+1:Nat):Int)),some (.ref f1),some (.ref f2),some (.ref b),z7,z8,none]/\SqT K G b [va,vb]/\Rpr K G va ra Y/\Rpr K G vb J Tb/\PSt (W:Int) ((n:Int)+1-W) n (n+1) ((qs.zip hs).take i) (gAS C i).1 (gAS C i).2 ra Y J Tb) ⟨sB,b0,va,vb,ra,J,Y,Tb,none,none,Z,ak,R1,R2,S0⟩ (fun i σ G _ h=>⟨Ac.seq h.1 hP,Ac.seq h.1 hH⟩) ?_ ?_⟩
  ·rintro i x y T σ G hx hy hT dC;refine BJ dC fun sg b3=>?_;refine Sk b3 fun b va vb ra J Y Tb z7 z8 bD=>?_;clear b3;refine DQ bD fun dA hb R1 R2 S=>?_;clear bD;obtain rfl:=dA
   try clear dC
   obtain⟨qx,an,rx,rfl,dd⟩:=(Paired.get hZ hx);obtain⟨hv,bc,ry,rfl,cu⟩:=(Paired.get hY hy);have hi:i<n:=by have:=(YG.mp an).1;lia
   have nT:=Ac.new (o:=.tup [.ref rx,.ref ry]) hT;have sT:=sg.trans nT;refine⟨T,_,Z,SqT.of A9,Z,_,_,Z,_,_,Z,Z,?_⟩;have ba:(qs.zip hs)[i]? = some (qx,hv):=by rw[cx];exact⟨an,bc⟩
   have ab:(qs.zip hs).take (i+1)=(qs.zip hs).take i++[(qx,hv)]:=by rw[ai,ba];rfl
   have d7:((qs.zip hs).take i).length=i:=by rw[Zh,ck];lia
   have hm:=FC C (i:=i) (n:=n) (by lia)
   have hl:=K8 C i;refine⟨_,Z,_,Z,_,Z,b,rx,ry,va,vb,ra,J,Y,Tb,(W:Int),(n:Int)+1-W,n,n+1,(qs.zip hs).take i,(gAS C i).1,(gAS C i).2,C,nx,ny,qx,hv,Z,hb.same nT,R1.same nT,R2.same nT,S,Z,by lia,Az.same ⟨rx,Z,dd⟩ sT,Az.same ⟨ry,Z,cu⟩ sT,bq qx (Zn an),bh hv (Zn bc),?_,by lia,b2,hC,by lia,by lia,fun b' G' cC cp dn dm cc b9 s' b5 dc co S'=>?_⟩
   ·rw[<- ab,di,dq (by lia)]
    exact(Zm _ _).nodup d3
   ·refine⟨sT.trans s',b',cC,cp,dn,dm,cc,b9,_,_,Z,b5,dc,co,?_⟩;rw[ab];exact S'
  rintro σ G dV;refine BJ dV fun sg bN=>?_;refine Sk bN fun b va vb ra J Y Tb z7 z8 bf=>?_;clear bN;refine DQ bf fun d4 hb ed R2 S=>?_;clear bf;obtain rfl:=d4;refine Cj ed fun pa la bx=>?_;refine Cm bx fun d2 c0 bp=>?_;clear bx;obtain rfl:=d2
  try clear dV
  have bt:min zs.length ys.length=n:=by rw[hZ.length,hY.length];lia
  rw[bt,bj (by rw[ck];lia)]at S
  have hR:=S.l1;refine Cj S.bd fun a1 a2 be=>?_;refine DQ be fun bm eq ek er em=>?_;clear be;have en:=K8 C n;refine⟨_,Z,b,_,_,_,Z,Z,hb,Z,pa,_,_,_,Z,Z,c0,Z,?_⟩;refine⟨_,Z,_,Z,_,Z,la,_,Z,bp,fun s1 b8=>?_⟩;have c1:CM (Y.map V.int) none (some ((n+1:Nat):Int))=(Y.take (n+1)).map V.int:=by rw[Eb,di]
  rw[c1];have n1:=Ac.new (o:=.lst ((Y.take (n+1)).map V.int)) b8;refine⟨s1,Y.take (n+1),1,Z,SqL.of A9,by decide,by rw[Zh];lia,fun pN G1 sN cN=>?_⟩
  have bg:=n1.trans sN;refine⟨_,Z,_,Z,_,Z,la,_,Z,Ac.seq bg bp,fun s2 b6=>?_⟩;have c2:CM (Y.map V.int) (some ((n+1:Nat):Int)) none=(Y.drop (n+1)).map V.int:=by rw[Ec,List.map_drop]
  rw[c2];have n2:=Ac.new (o:=.lst ((Y.drop (n+1)).map V.int)) b6;refine⟨s2,Y.drop (n+1),1,Z,SqL.of A9,by decide,by rw[Zx];lia,fun pD G2 sD cD=>⟨P2,fun t ht=>?_⟩⟩
  have n3:=Ac.new (o:=.tup [.ref pN,.ref pD]) ht;rw[QG]at cN cD;refine q t pN pD _ ra J _ _ _ _ ((((sg.trans bg).trans n2).trans sD).trans n3) (SqT.of A9) (((cN.same n2).same sD).same n3) (cD.same n3) ?_ ?_ S.inv
  ·exact NM (fun t ht=>bm t (cG ht)) (by lia)
  ·exact NM (fun t ht=>bm t (dj ht)) (by lia)
 ·refine AM (decide_eq_false hlt) ⟨_,Z,_,Z,P2,fun b0 ak=>?_⟩;have nb:=Ac.new (o:=.tup [.ref f2,.ref f1]) ak
  obtain⟨va,vb,ra,J,Y,Tb,ak,R1,R2,S0⟩:∃(va vb:V) (ra J:Int) (Y Tb:List Int),SqT K (upd HG b0 (.tup [.ref f2,.ref f1])) b0 [va,vb]/\Rpr K (upd HG b0 (.tup [.ref f2,.ref f1])) va ra Y/\Rpr K (upd HG b0 (.tup [.ref f2,.ref f1])) vb J Tb/\PSt (W:Int) ((n:Int)+1-W) n (n+1) ((qs.zip hs).take 0) (gAS C 0).1 (gAS C 0).2 ra Y J Tb :=
   ⟨_,_,_,_,_,_,SqT.of A9,⟨f2,k2,Z,SqT.of (nb _ _ bB),SqL.of (nb _ _ a0)⟩,⟨f1,k1,Z,SqT.of (nb _ _ aF),SqL.of (nb _ _ al)⟩,⟨un.turn hlt,Eu n,FE n,Gs n,Ig n,1,1,IX _,LH _,YL 1,YL 1,YL 2⟩⟩
  have sB:=sG.trans nb;generalize upd HG b0 (.tup [.ref f2,.ref f1])=H0 at sB ak R1 R2 ⊢;refine⟨_,Z,_,Z,lp,lh,zs,ys,Z,Ac.seq sB hP,Ac.seq sB hH,NO (xs:=zs) (ys:=ys) (L11 H lp lh W n f1 f2 K qs hs C fun H lp lh W n f1 f2 K qs hs C i σ G=>Ac H G/\∃(b:ad) (va vb:V) (ra J:Int) (Y Tb:List Int) (z7 z8:Option V),σ=[some (.ref lp),some (.ref lh),some (.int (W:Int)),some (.int ((n+1:Nat):Int)),some (.ref f1),some (.ref f2),some (.ref b),z7,z8,none]/\SqT K G b [va,vb]/\Rpr K G va ra Y/\Rpr K G vb J Tb/\PSt (W:Int) ((n:Int)+1-W) n (n+1) ((qs.zip hs).take i) (gAS C i).1 (gAS C i).2 ra Y J Tb) ⟨sB,b0,va,vb,ra,J,Y,Tb,none,none,Z,ak,R1,R2,S0⟩ (fun i σ G _ h=>⟨Ac.seq h.1 hP,Ac.seq h.1 hH⟩) ?_ ?_⟩
  ·rintro i x y T σ G hx hy hT ec;refine BJ ec fun sg b4=>?_;refine Sk b4 fun b va vb ra J Y Tb z7 z8 bb=>?_;clear b4;refine DQ bb fun eb hb R1 R2 S=>?_;clear bb;obtain rfl:=eb
   try clear ec
   obtain⟨qx,an,rx,rfl,dd⟩:=(Paired.get hZ hx);obtain⟨hv,bc,ry,rfl,cu⟩:=(Paired.get hY hy);have hi:i<n:=by have:=(YG.mp an).1;lia
   have nT:=Ac.new (o:=.tup [.ref rx,.ref ry]) hT;have sT:=sg.trans nT;refine⟨T,_,Z,SqT.of A9,Z,_,_,Z,_,_,Z,Z,?_⟩;have ba:(qs.zip hs)[i]? = some (qx,hv):=by rw[cx];exact⟨an,bc⟩
   have ab:(qs.zip hs).take (i+1)=(qs.zip hs).take i++[(qx,hv)]:=by rw[ai,ba];rfl
   have d7:((qs.zip hs).take i).length=i:=by rw[Zh,ck];lia
   have hm:=FC C (i:=i) (n:=n) (by lia)
   have hl:=K8 C i;refine⟨_,Z,_,Z,_,Z,b,rx,ry,va,vb,ra,J,Y,Tb,(W:Int),(n:Int)+1-W,n,n+1,(qs.zip hs).take i,(gAS C i).1,(gAS C i).2,C,nx,ny,qx,hv,Z,hb.same nT,R1.same nT,R2.same nT,S,Z,by lia,Az.same ⟨rx,Z,dd⟩ sT,Az.same ⟨ry,Z,cu⟩ sT,bq qx (Zn an),bh hv (Zn bc),?_,by lia,b2,hC,by lia,by lia,fun b' G' cC cp dn dm cc b9 s' b5 dc co S'=>?_⟩
   ·rw[<- ab,di,dq (by lia)]
    exact(Zm _ _).nodup d3
   ·refine⟨sT.trans s',b',cC,cp,dn,dm,cc,b9,_,_,Z,b5,dc,co,?_⟩;rw[ab];exact S'
  rintro σ G d6;refine BJ d6 fun sg bl=>?_;refine Sk bl fun b va vb ra J Y Tb z7 z8 as=>?_;clear bl;refine DQ as fun ca hb cv R2 S=>?_;clear as;obtain rfl:=ca;refine Cj cv fun pa la aC=>?_;refine Cm aC fun cn c0 bp=>?_;clear aC;obtain rfl:=cn
  try clear d6
  have bt:min zs.length ys.length=n:=by rw[hZ.length,hY.length];lia
  rw[bt,bj (by rw[ck];lia)]at S
  have hR:=S.l1;refine Cj S.bd fun a1 a2 ap=>?_;refine DQ ap fun bm eq ek er em=>?_;clear ap;have en:=K8 C n;refine⟨_,Z,b,_,_,_,Z,Z,hb,Z,pa,_,_,_,Z,Z,c0,Z,?_⟩;refine⟨_,Z,_,Z,_,Z,la,_,Z,bp,fun s1 b8=>?_⟩;have c1:CM (Y.map V.int) none (some ((n+1:Nat):Int))=(Y.take (n+1)).map V.int:=by rw[Eb,di]
  rw[c1];have n1:=Ac.new (o:=.lst ((Y.take (n+1)).map V.int)) b8;refine⟨s1,Y.take (n+1),1,Z,SqL.of A9,by decide,by rw[Zh];lia,fun pN G1 sN cN=>?_⟩
  have bg:=n1.trans sN;refine⟨_,Z,_,Z,_,Z,la,_,Z,Ac.seq bg bp,fun s2 b6=>?_⟩;have c2:CM (Y.map V.int) (some ((n+1:Nat):Int)) none=(Y.drop (n+1)).map V.int:=by rw[Ec,List.map_drop]
  rw[c2];have n2:=Ac.new (o:=.lst ((Y.drop (n+1)).map V.int)) b6;refine⟨s2,Y.drop (n+1),1,Z,SqL.of A9,by decide,by rw[Zx];lia,fun pD G2 sD cD=>⟨P2,fun t ht=>?_⟩⟩
  have n3:=Ac.new (o:=.tup [.ref pN,.ref pD]) ht;rw[QG]at cN cD;refine q t pN pD _ ra J _ _ _ _ ((((sg.trans bg).trans n2).trans sD).trans n3) (SqT.of A9) (((cN.same n2).same sD).same n3) (cD.same n3) ?_ ?_ S.inv
  ·exact NM (fun t ht=>bm t (cG ht)) (by lia)
  ·exact NM (fun t ht=>bm t (dj ht)) (by lia)
theorem C2:Ah ["first","second","product","k","j"] ["first","second"] (Ad (top 30)):=fsc
theorem FW{f:ad}{fd:bn}(F:Fun K "whole_product" "whole_product" (top 30) f fd)(VZ:mg "range" = none)(VY:mg "len" = none)(hT:P.given.tree=none) :
 Ax P w K mg base CX0 33 f fd ["first","second"] (Mf K):=by
 refine F.ok C2 (fun vs H Q E h=>?_) (fun cc A outer s H vs Q E hr h=>?_)
 ·obtain⟨_,_,_,_,_,_,rfl,_⟩:=h;rfl
 refine⟨_,(Aa (K:=K) (Ai (i:=2) C2.nd rfl (Or.inl rfl) (Af HK (Bu (A0 Ab A8)) (Af Bj (Af AV (Ak (BD K) rfl VY AE (A0 (pv 0) A8)) (Ak (BD K) rfl VY AE (A0 (pv 1) A8))) Ab)))
  (Aa (K:=K) (B0 (K:=K) PassesOwn.never rfl (Cf rfl VZ (A0 (Ak (BD K) rfl VY AE (A0 (pv 0) A8)) A8)) (Ap (i:=3) C2.nd rfl (Or.inl rfl)) (Ae (B0 (K:=K) PassesOwn.never rfl (Cf rfl VZ (A0 (Ak (BD K) rfl VY AE (A0 (pv 1) A8)) A8)) (Ap (i:=4) C2.nd rfl (Or.inl rfl)) (Ae (JK (Af AV (Ag (ixL K) (pv 2) (Af AV (pv 3) (pv 4)) (fun u v=>rfl)) (Af Aw (Ag (ixL K) (pv 0) (pv 3) (fun u v=>rfl)) (Ag (ixL K) (pv 1) (pv 4) (fun u v=>rfl)))) (JL (pv 2) (Af AV (pv 3) (pv 4)) Ff))) (by rfl))) (by rfl))
  (Ae (Al (pv 2))) (by rfl)) (by rfl)),?_⟩
 obtain⟨f,g,fs,gs,m,n,rfl,hf,hg,b7,ak,an,b0,bB,b9,q⟩:=h;have lf:(fs.map V.int).length=fs.length:=Z4 _;have lg:(gs.map V.int).length=gs.length:=Z4 _;have P1:1<=bi:=by decide
 have ca:fs.length*gs.length<=1000*1000:=cI ak an;refine⟨P1,fun o ho=>?_⟩;have b8:SqL K (upd H o (.lst [.int 0])) f (fs.map V.int):=Pp hf ho;have b6:SqL K (upd H o (.lst [.int 0])) g (gs.map V.int):=Pp hg ho;refine⟨_,Z,f,_,Z,.inl b8,_,Z,g,_,Z,.inl b6,_,_,Z,Z,_,_,Z,Z,o,_,_,Z,Z,A9,?_,?_,?_,fun p hp=>?_⟩
 ·rw[lf,lg];lia
 ·rw[lf,lg];lia
 ·show 1*(((fs.map V.int).length:Int)+((gs.map V.int).length:Int)-1).toNat<=bi;rw[lf,lg,aN];exact Yy (Ox ak an) (by decide:2*1000<=bi)
 have bx:H p=none:=by
  cases z:H p with
  | none=>rfl
  | some u=>rw[(Ac.new ho) p u z]at hp;cases hp
 have eL:(((fs.map V.int).length:Int)+((gs.map V.int).length:Int)-1).toNat=fs.length+gs.length-1:=by rw[lf,lg];exact Qo b7
 rw[eL];have s0:Ac H (upd (upd H o (.lst [.int 0])) p (.lst (Zf (fs.length+gs.length-1) [V.int 0]).flatten)):=(Ac.new ho).trans (Ac.new hp);have e0:(Zf (fs.length+gs.length-1) [V.int 0]).flatten=(Zf (fs.length+gs.length-1) (0:Int)).map V.int:=by rw[List.flatten_replicate_singleton,ah]
 rw[e0]at s0 ⊢;refine⟨_,Z,f,_,Z,.inl (Ac.seq s0 hf),_,Z,by rw[lf];lia,by rw[lf];lia,?_⟩
 rw[lf,Zt]
 refine CO (n:=fs.length) (L8 H f g p fs gs m n fun H f g p fs gs m n i σ H'=>Ac H H'/\∃(ps:List Int) (z3 z4:Option V),σ=[some (.ref f),some (.ref g),some (.ref p),z3,z4]/\H' p=some (.lst (ps.map V.int))/\ps.length=fs.length+gs.length-1/\(∀x,Cv.evI ps x=Cv.evI (fs.take i) x*Cv.evI gs x)/\∀t∈ps,Up (i*gs.length) (m+n) t)
  ⟨s0,_,none,none,Z,A9,Zp,fun x=>?_,fun t ht=>?_⟩ ?_ ?_
 ·rw[Cv.evI_zeros,br];show(0:Rat)=0*_
  grind
 ·rw[(aL.mp ht).2];exact YN _
 ·rintro i σ H' hi bN;refine BJ bN fun sm aC=>?_;refine Dd aC fun ps z3 z4 W=>?_;clear aC;refine DQ W fun bh ep bf bl bc=>?_;clear W;obtain rfl:=bh
  try clear bN
  have bD:fs[i]? = some fs[i]:=aB hi;refine⟨_,Z,g,_,Z,.inl (Ac.seq sm hg),_,Z,by rw[lg];lia,by rw[lg];lia,?_⟩
  rw[lg,Zt]
  refine CO (n:=gs.length) (fun j σ H'=>Ac H H'/\∃(ps:List Int) (z4:Option V),σ=[some (.ref f),some (.ref g),some (.ref p),some (.int (0+(i:Int))),z4]/\H' p=some (.lst (ps.map V.int))/\ps.length=fs.length+gs.length-1/\(∀x,Cv.evI ps x=Cv.evI (fs.take i) x*Cv.evI gs x+(fs[i]:Rat)*x ^ i*Cv.evI (gs.take j) x)/\∀t∈ps,Up (i*gs.length+j) (m+n) t)
   ⟨sm,ps,z4,Z,ep,bf,fun x=>?_,bc⟩ ?_ ?_
  ·rw[bl x,br];show _=_+_*(0:Rat)
   grind
  ·rintro j σ H2 hj b2;refine BJ b2 fun ba a0=>?_;refine Cj a0 fun Y b5 ab=>?_;clear a0;refine DQ ab fun bq bb al as O=>?_;clear ab;obtain rfl:=bq
   try clear b2
   have b4:gs[j]? = some gs[j]:=aB hj;have bg:i+j<Y.length:=U7 hi hj al;have b1:Y[i+j]? = some Y[i+j]:=aB bg;have bm:BL fs[i] gs[j]:=BL.bd (b0 _ (aH hi)) (bB _ (aH hj)) (by lia)
   refine⟨_,Z,_,Z,_,Z,_,_,Z,Z,p,_,_,_,Z,Z,SqL.of bb,FI b1 (by lia),_,Z,_,Z,f,_,_,_,Z,Z,Ac.seq ba hf,FI bD (by lia),_,Z,_,Z,g,_,_,_,Z,Z,Ac.seq ba hg,FI b4 (by lia),_,_,Z,Z,bm,_,_,Z,Z,?_⟩
   refine⟨_,Z,_,Z,_,Z,_,_,Z,Z,p,_,_,i+j,Z,Z,bb,LD (by rw[Z4];exact bg) (by lia),?_⟩
   refine⟨ba.put bx,Y.set (i+j) (Y[i+j]+fs[i]*gs[j]),_,Z,?_,by rw[Zz];exact al,fun x=>?_,fun t ht=>?_⟩
   ·rw[A9,ag]
   ·rw[Cv.evI_set x Y (i+j) _ _ b1,as x,Cv.evI_take_succ x gs j _ b4,ZW,Nm.pow_add]
    grind
   ·rcases d5 ht with z | z
    ·exact(O t z).mono (by lia)
    ·subst z;exact(O _ (aH bg)).add ((b0 _ (aH hi)).mul (bB _ (aH hj)))
  ·rintro σ H2 b3;refine BJ b3 fun ba aP=>?_;refine Cj aP fun Y b5 ap=>?_;clear aP;refine DQ ap fun bp bb al as O=>?_;clear ap;obtain rfl:=bp
   try clear b3
   refine⟨ba,Y,_,_,Z,bb,al,fun x=>?_,fun t ht=>?_⟩
   ·rw[as x,cV,Cv.evI_take_succ x fs i _ bD]
    grind
   ·have:=O t ht;rw[aM,aN];exact this
 ·rintro σ H' bt;refine BJ bt fun sm aF=>?_;refine Dd aF fun ps z3 z4 J=>?_;clear aF;refine DQ J fun be ep bf bl bc=>?_;clear J;obtain rfl:=be
  try clear bt
  refine⟨_,Z,q p H' ps sm bx ep bf (fun x=>?_) (fun t ht=>?_)⟩
  ·rw[bl x,cV]
  ·exact(bc t ht).bd (k:=20) (by lia)
theorem BE:Ah ["knots","steps","bottom","step_tops","tops","scale","k"] ["knots","steps"] (Ad (top 61)):=fsc
theorem Le{f:ad}{fd:bn}(F:Fun K "by_steps" "by_steps" (top 61) f fd)(Wg:Fd P w K mg base 34 "bottom_of" ["numbers"] (Ky K))(Wz:Fd P w K mg base 33 "tops_over" ["numbers","bottom"] (Jo K))(Wq:Fd P w K mg base 35 "curve_over" ["tops","bottom"] (CV K))(Xe:Fd P w K mg base 33 "whole_product" ["first","second"] (Mf K))(VZ:mg "range" = none)(VY:mg "len" = none)(hT:P.given.tree=none) :
 Ax P w K mg base CX0 36 f fd ["knots","steps"] (FQ K):=by
 refine F.ok BE (fun vs H Q E h=>?_) (fun dK A outer s H vs Q E hr h=>?_)
 ·obtain⟨_,_,_,_,_,_,_,rfl,_⟩:=h;rfl
 refine⟨_,(Aa (K:=K) (Ai (i:=2) BE.nd rfl (Or.inl rfl) (Aj Wg hr rfl (A0 (pv 1) A8)))
  (Aa (K:=K) (Ai (i:=3) BE.nd rfl (Or.inl rfl) (Aj Wz hr rfl (A0 (pv 1) (A0 (pv 2) A8))))
  (Aa (K:=K) (Ai (i:=4) BE.nd rfl (Or.inl rfl) (Bu A8))
  (Aa (K:=K) (Ai (i:=5) BE.nd rfl (Or.inl rfl) Ab)
  (Aa (K:=K) (B0 (K:=K) PassesOwn.never rfl (RT rfl VZ (A0 (Af Bj (Ak (BD K) rfl VY AE (A0 (pv 0) A8)) Ab) (A0 (Ny Ji Ab) (A0 (Ny Ji Ab) A8)))) (Ap (i:=6) BE.nd rfl (Or.inl rfl)) (Aa (K:=K) (Ai (i:=4) BE.nd rfl (Or.inl rfl) (Aj Xe hr rfl (A0 (pv 4) (A0 (Bu (A0 (Ny Ji (Ag (ixT K) (Ag (ixL K) (pv 0) (pv 6) (fun u v=>rfl)) Ab (fun u v=>rfl))) (A0 (Ag (ixT K) (Ag (ixL K) (pv 0) (pv 6) (fun u v=>rfl)) Ab (fun u v=>rfl)) A8))) A8))))
  (Aa (K:=K) (Ai (i:=5) BE.nd rfl (Or.inl rfl) (Af Aw (pv 5) (Ag (ixT K) (Ag (ixL K) (pv 0) (pv 6) (fun u v=>rfl)) Ab (fun u v=>rfl))))
  (Ae (JK (Af AV (Ag (ixL K) (pv 4) Ab (fun u v=>rfl)) (Af Aw (Ag (ixL K) (pv 3) (pv 6) (fun u v=>rfl)) (pv 5))) (JL (pv 4) Ab Ff))) (by rfl)) (by rfl)) (by rfl))
  (Ae (Al (Aj Wq hr rfl (A0 (pv 4) (A0 (Af Aw (pv 2) (pv 5)) A8))))) (by rfl)) (by rfl)) (by rfl)) (by rfl)) (by rfl)),?_⟩
 obtain⟨rk,al,xs,ys,ks,Y,n,rfl,hk,ca,hs,bB,bc,dp,as,bD,dn,q⟩:=h;have cp:=ca.length;have dV:=bB.length;have P0:0<=bi:=by decide
 have P2:2<=bi:=by decide
 have d1:n*ks.length<=2048000*12:=cI dn dp;have dC:n*Y.length=n*ks.length:=by rw[bc]
 refine⟨_,Z,true,al,ys,Y,n,Z,hs,bB,(fun c hc=>(bD c hc).2),by rw[cB];lia,fun B d2 dt aF=>?_⟩
 refine⟨_,Z,_,Z,true,al,ys,Y,B,n*Y.length+1,n,Z,hs,bB,aF,(fun c hc=>(bD c hc).1),by lia,by lia,fun st h1=>?_⟩
 refine⟨P0,fun tp h2=>?_⟩;have s2:Ac H (upd (upd H st (.lst ((Y.map (C9 B)).map V.int))) tp (.lst [])):=(Ac.new h1).trans (Ac.new h2);have co:(upd (upd H st (.lst ((Y.map (C9 B)).map V.int))) tp (.lst [])) st=some (.lst ((Y.map (C9 B)).map V.int)):=(Ac.new h2) _ _ A9;have b9:(upd (upd H st (.lst ((Y.map (C9 B)).map V.int))) tp (.lst [])) tp=some (.lst (([]:List Int).map V.int)):=A9;generalize upd (upd H st (.lst ((Y.map (C9 B)).map V.int))) tp (.lst [])=H2 at s2 co b9 ⊢;refine⟨_,Z,rk,xs,Z,.inl (Ac.seq s2 hk),_,_,Z,Z,_,Z,_,Z,_,_,Z,⟨by lia,by lia,by decide,by decide⟩,?_⟩
 have eT:((xs.length:Int)-1 - -1).toNat=ks.length:=S7 cp;rw[eT]
 refine QP (n:=ks.length) (L8 H2 rk al B st ks Y n fun H2 rk al B st ks Y n i σ H'=>Ac H2 H'/\∃(tp:ad) (ts:List Int) (s:Int) (z:Option V),σ=[some (.ref rk),some (.ref al),some (.int B),some (.ref st),some (.ref tp),some (.int s),z]/\H' tp=some (.lst (ts.map V.int))/\ts.length=i/\s≠0 /\
  (∀x,Cv.evI ts x=Cd (ks.drop (ks.length-i)) (Y.drop (ks.length-i)) x*((B:Rat)*(s:Rat)))/\(∀t∈ts,Bd (n*ks.length+n*i+21*i+2*n+30) t)/\Bd (n*i+1) s)
  ⟨Ac.refl _,tp,[],1,none,Z,b9,Z,by decide,fun x=>?_,(fun _ h=>nomatch h),?_⟩ ?_ ?_
 ·rw[aZ,bu (YL _)];show(0:Rat)=0*_
  grind
 ·exact(show Bd 1 1 by unfold Bd;decide).mono (by lia)
 ·rintro i σ H' hi b0;refine BJ b0 fun sm an=>?_;refine MY an fun bm ts s z J=>?_;clear an;refine Vo J fun bq ab cn bp he bx W=>?_;clear J;obtain rfl:=bq
  try clear b0
  have hj:ks.length-1-i<ks.length:=U6 hi;have b7:ks.length-1-i<Y.length:=by lia
  have bl:ks[ks.length-1-i]? = some ks[ks.length-1-i]:=aB hj;have bg:Y[ks.length-1-i]? = some Y[ks.length-1-i]:=aB b7;have ak:ks[ks.length-1-i]∈ks:=aH hj;have bh:Y[ks.length-1-i]∈Y:=aH b7;generalize ks[ks.length-1-i]=c at bl ak;generalize Y[ks.length-1-i]=d at bg bh;obtain⟨xk,cD,aP,rfl,cv⟩:=(Paired.get' ca bl);have ei:(xs.length:Int)-1-(i:Int)=((ks.length-1-i:Nat):Int):=Qq cp hi;have bN:atI xs ((xs.length:Int)-1-(i:Int))=some (.ref aP):=by rw[ei];exact AB cD
  have cC:atI ((Y.map (C9 B)).map V.int) ((xs.length:Int)-1-(i:Int))=some (.int (C9 B d)):=FI (by rw[Zl,bg];rfl) ei
  have dT:n*i<=n*ks.length:=cA n (by lia)
  have dA:n*(i+1)=n*i+n:=by rw[cB,da]
  have bt:Bd (n*ks.length+n+1) (C9 B d):=((bD d bh).1.mul (aF.fdiv (y:=d.den))).mono (by lia)
  have sH:=s2.trans sm;have a0:=cv.same sH;refine⟨_,Z,_,Z,_,Z,rk,xs,_,_,Z,Z,Ac.seq sH hk,bN,aP,_,_,_,Z,Z,a0,Z,_,Z,_,Z,_,Z,rk,xs,_,_,Z,Z,Ac.seq sH hk,bN,aP,_,_,_,Z,Z,a0,Z,P2,fun g hg=>?_⟩;have sg:Ac H' (upd H' g (.lst [.int (-c.num),.int (c.den:Int)])):=Ac.new hg;have eg:(upd H' g (.lst [.int (-c.num),.int (c.den:Int)])) g=some (.lst ([-c.num,(c.den:Int)].map V.int)):=A9;generalize upd H' g (.lst [.int (-c.num),.int (c.den:Int)])=Hg at sg eg ⊢
  have b3:∀t∈[-c.num,(c.den:Int)],Bd n t:=fun t ht=>by
   rcases YD.mp ht with z | z
   ·subst z;exact(as c ak).1.neg
   ·rw[aA.mp z];exact(as c ak).2
  refine⟨bm,g,ts,[-c.num,(c.den:Int)],n*ks.length+n*i+21*i+2*n+30,n,Z,SqL.of (sg _ _ ab),SqL.of eg,(show 1<=2 by decide),by lia,(show 2<=1000 by decide),bx,b3,by lia,fun pr H6 ps s6 dd b4 cN c0 cu=>?_⟩
  have ba:ps.length=i+1:=by rw[cN,cn];rfl
  have b6:0<ps.length:=by rw[ba];exact aS i
  have h0:ps[0]? = some ps[0]:=aB b6;have cc:=sg.trans s6;have b5:=sH.trans cc;have ms:BL s (c.den:Int):=BL.bd W (as c ak).2 (by lia)
  have be:Bd (n*(i+1)+1) (s*(c.den:Int)):=(W.mul (as c ak).2).mono (by lia)
  refine⟨_,Z,_,Z,_,Z,rk,xs,_,_,Z,Z,Ac.seq b5 hk,bN,aP,_,_,_,Z,Z,cv.same b5,Z,_,_,Z,Z,ms,?_⟩;refine⟨_,Z,pr,_,_,_,Z,Z,SqL.of b4,FI h0 rfl,_,Z,_,Z,st,_,_,_,Z,Z,SqL.of (cc _ _ (sm _ _ co)),cC,_,Z,_,_,Z,Z,BL.bd bt be (by lia),_,_,Z,Z,?_⟩
  refine⟨_,Z,pr,_,_,0,Z,Z,b4,LD (by rw[Z4];lia) rfl,?_⟩
  have dm:Ac H2 (upd H6 pr (.lst ((ps.map V.int).set 0 (.int (ps[0]+C9 B d*(s*(c.den:Int))))))):=fun bb u zz=>by
   have z1:=sg _ _ (sm bb u zz);rw[Aq (As z1 dd)];exact s6 bb u z1
  refine⟨dm,pr,ps.set 0 (ps[0]+C9 B d*(s*(c.den:Int))),s*(c.den:Int),_,Z,?_,by rw[Zz];exact ba,ZU bp (Nm.den_ne c),fun x=>?_,fun t ht=>?_,be⟩
  ·rw[A9,ag]
  ·rw[Cv.evI_set x ps 0 _ _ h0,c0 x,QR,he x,ZZ,Kb rfl hi bl,Kb bc.symm hi bg];show _=(d+(x-c)*Cd _ _ x)*_;rw[ZW,ZW,IT (dt d bh)]
   grind
  ·rcases d5 ht with zz | zz
   ·exact(cu t zz).mono (by lia)
   ·subst zz;have b1:=(cu _ (aH b6)).mono (n:=n*ks.length+n*i+21*i+2*n+30+n+20) (by lia)
    have b2:=(bt.mul be).mono (n:=n*ks.length+n*i+21*i+2*n+30+n+20) (by lia)
    exact(Bd.add b1 b2).mono (by lia)
 ·rintro σ H' b8;refine BJ b8 fun sm ap=>?_;refine MY ap fun bm ts s z O=>?_;clear ap;refine Vo O fun bf ab cn bp he bx W=>?_;clear O;obtain rfl:=bf
  try clear b8
  have aC:B*s≠0:=ZU (by lia) bp
  refine⟨_,Z,_,Z,_,Z,_,_,Z,Z,BL.bd aF W (by lia),bm,ts,B*s,Z,SqL.of ab,aC,by lia,fun p H6 s6 c6=>?_⟩
  refine q p H6 _ ((s2.trans sm).trans s6) c6 (by have:=Cv.strip_length (ts.map fun t=>ZN t (B*s));rw[Z4]at this;lia) (DH _) (fun c hc=>?_) fun x=>?_
  ·have dc:=Cv.strip_mem _ c hc;obtain⟨t,ht,rfl⟩:=(aX.mp dc);exact RB.div (m:=0) ((bx t ht).mono (by lia)) ((aF.mul W).mono (by lia)) aC
  rw[Cv.ev_strip];have h7:=NS aC x ts;rw[he x,bo,aY,aY,<- ZW]at h7;exact RP (Nm.cast_ne aC) h7
theorem KG:Ah ["points"] ["points"] (Ad (top 53)):=fsc
theorem La{f:ad}{fd:bn}(F:Fun K "knots_of" "knots_of" (top 53) f fd)(Wf:Fd P w K mg base 33 "told_in" ["points"] (EZ K))(hT:P.given.tree=none) :
 Ax P w K mg base CX0 34 f fd ["points"] (F0 K):=by
 refine F.ok KG (fun vs H Q E h=>?_) (fun an A outer s H vs Q E hr h=>?_)
 ·obtain⟨_,_,_,rfl,_⟩:=h;rfl
 refine⟨_,(Ae (Al (Bp rfl (N:=["told"]) (nt:=1) (js:=[]) (AG.look (NX:=["points"]) (sc:=Ad (top 53)) rfl rfl (by decide +kernel)) (piL K (Aj Wf hr rfl (A0 (pv 0) A8))) (fun u1 u2 u3 u4 u5=>(Ap (i:=0) (show List.Nodup (["told"]:List Str) from by decide +kernel) rfl (Or.inl rfl))) (Av (by decide)) (fun u1 u2 u3 u4 u5=>AN) (fun u1 u2 u3 u4 u5=>(Ag (ixT K) (pv 0) Ab (fun u v=>rfl)))))),?_⟩
 obtain⟨r,xs,pss,rfl,hS,hp,ak,ab,q⟩:=h;refine Bh ⟨_,Z,r,xs,pss,Z,hS,hp,ak,ab,fun w Hw ws sw hw ew O=>⟨w,Z,⟨_,SqL.of ew⟩,?_⟩⟩
 have al:ws.length<=200:=by
  have h1:=BV pss fun ps hp=>by have:=ak ps hp;lia
  rw[O.length];lia
 refine Dc (xs:=ws) (L2 Hw pss fun Hw pss i zs H'=>H'=Hw/\zs.length=i/\Am Hw zs (((AA pss).take i).map ES.x)) ⟨Z,Z,.nil⟩ (fun i zs H' _ h=>⟨by rw[h.1];exact SqL.of ew,h.2.1⟩) (Yz (AS (by lia))) ?_ ?_
 ·rintro i v zs H' hv ⟨rfl,J,Y⟩;obtain⟨t,ht,a,rx,rn,rfl,ha,hx,_⟩:=(Paired.get O hv);have hx:DO H' (.ref rx) t.x:=⟨_,Z,hx⟩;refine⟨_,Z,a,_,_,_,Z,Z,ha,Z,Z,by simp[J],?_⟩
  rw[ai,ht,aj];exact Paired.snoc Y hx
 rintro zs H' ⟨rfl,J,Y⟩ p W;rw[O.length,cV]at Y;exact q p _ zs (sw.trans (Ac.new W)) (sw.free W) A9 (Am.same Y (Ac.new W))
theorem Dy:Ah ["points","slopes","point"] ["points"] (Ad (top 57)):=fsc
theorem JP{f:ad}{fd:bn}(F:Fun K "slopes_in" "slopes_in" (top 57) f fd)(VY:mg "len" = none)(hT:P.given.tree=none) :
 Ax P w K mg base CX0 33 f fd ["points"] (FN K):=by
 refine F.ok Dy (fun vs H Q E h=>?_) (fun ap A outer s H vs Q E hr h=>?_)
 ·obtain⟨_,_,_,rfl,_⟩:=h;rfl
 refine⟨_,(Aa (K:=K) (Ai (i:=1) Dy.nd rfl (Or.inl rfl) Qd)
  (Aa (K:=K) (B0 (K:=K) PassesOwn.never rfl (piT K (pv 0)) (Ap (i:=2) Dy.nd rfl (Or.inl rfl)) (Ae (Ay (K:=K) (Ao Cr (Ak (BD K) rfl VY AE (A0 (pv 2) A8)) Ab (Ar _)) (Ae AU) Au (by rfl) (by rfl))) (by rfl))
  (Ae (Al (pv 1))) (by rfl)) (by rfl)),?_⟩
 obtain⟨r,xs,pss,rfl,hS,hp,h2,ak,q⟩:=h;refine fun d hd=>?_;refine⟨_,Z,r,Z,⟨_,SqT.same hS (Ac.new hd)⟩,FD (xs:=xs) (fun i σ H'=>Ac H H'/\∃O,σ=[some (.ref r),some (.ref d),O]) ⟨Ac.new hd,none,Z⟩ (fun i σ H' _ h=>hS.same h.1) ?_ ?_⟩
 ·rintro i v σ H' hv ⟨Y,O,rfl⟩;obtain⟨ps,W,a,us,p,rfl,J,ab,aC,al⟩:=(Paired.get hp hv);have as:=h2 ps (Zn W);have an:=ab.length;refine⟨_,Z,a,us,Z,.inr (J.same Y),Z,_,Z,?_⟩;exact AM (decide_eq_false (show ¬V.int (us.length:Int)=V.int 3 from fun z=>by have:=V.int.inj z;lia)) ⟨Y,_,Z⟩
 ·rintro σ H' ⟨Y,O,rfl⟩;exact⟨_,Z,q d H' Y⟩
theorem DC:Ah ["points","row","point"] ["points"] (Ad (top 56)):=fsc
theorem JV{f:ad}{fd:bn}(F:Fun K "first_row" "first_row" (top 56) f fd)(VY:mg "len" = none)(hT:P.given.tree=none) :
 Ax P w K mg base CX0 33 f fd ["points"] (Mb K):=by
 refine F.ok DC (fun vs H Q E h=>?_) (fun bl A outer s H vs Q E hr h=>?_)
 ·obtain⟨_,_,_,rfl,_⟩:=h;rfl
 refine⟨_,(Aa (K:=K) (Ai (i:=1) DC.nd rfl (Or.inl rfl) (Bu A8))
  (Aa (K:=K) (B0 (K:=K) PassesOwn.never rfl (piT K (pv 0)) (Ap (i:=2) DC.nd rfl (Or.inl rfl)) (Ae (Ca (BA K PySem.F.plainAttrs_list PySem.F.slot_list_extend PySem.F.type_list_extend OA (pv 1) (A0 (Af HK (Bu (A0 (Ag (ixT K) (pv 2) Ab (fun u v=>rfl)) A8)) (Af Bj (Ak (BD K) rfl VY AE (A0 (pv 2) A8)) Ab)) A8)))) (by rfl))
  (Ae (Al (pv 1))) (by rfl)) (by rfl)),?_⟩
 obtain⟨r,xs,pss,rfl,hS,hp,ba,bh,q⟩:=h;have P0:0<=bi:=by decide
 have P1:1<=bi:=by decide
 have bd:=hp.length;refine⟨P0,fun p ak=>?_⟩;refine⟨_,Z,r,Z,⟨_,SqT.same hS (Ac.new ak)⟩,FD (xs:=xs) (L5 H r p K pss fun H r p K pss i σ H'=>Ac H H'/\∃ys z2,σ=[some (.ref r),some (.ref p),z2]/\H' p=some (.lst ys)/\AD K H' ys (Dg (pss.take i))) ⟨Ac.new ak,[],none,Z,A9,.nil⟩ (fun i σ H' _ h=>hS.same h.1) ?_ ?_⟩
 ·rintro i v σ H' hv aF;refine BJ aF fun sm J=>?_;refine Cj J fun ys z2 Y=>?_;clear J;refine Cm Y fun ap ep O=>?_;clear Y;obtain rfl:=ap
  try clear aF
  obtain⟨ps,as,a,us,pp,rfl,aP,bb,bm,bp⟩:=(Paired.get hp hv);have aC:=ba ps (Zn as);have bc:=bb.length;have e:pss.take (i+1)=pss.take i++[ps]:=by rw[ai,as];rfl
  have g1:=getD_some (l:=ps) (i:=1) (by lia)
  obtain⟨x1,be,bf⟩:=(Paired.get' bb g1)
  have bg:ys.length<=200:=by
   have h1:=BV (pss.take i) (ba.take i);rw[Zh]at h1;rw[O.length,DZ];lia
  refine⟨_,Z,.inl ⟨Z,_,SqL.of ep⟩,_,Z,a,us,_,x1,Z,Z,aP.same sm,AB (j:=1) be,P1,fun l hl=>?_⟩;have s1:Ac H' (upd H' l (.lst [x1])):=Ac.new hl;refine⟨_,Z,a,us,Z,.inr ((aP.same sm).same s1),_,_,Z,Z,l,_,[x1],Z,Z,A9,by lia,by lia,?_,fun m hm=>?_⟩
  ·have z:(((us.length:Nat):Int)-1).toNat<=2:=S6 bc aC;exact Yy (cI (YL _) z) (by show 2<=bi;decide)
  have s2:=s1.trans (Ac.new (o:=.lst (Zf (((us.length:Nat):Int)-1).toNat [x1]).flatten) hm);have en:(((us.length:Nat):Int)-1).toNat=ps.length-1:=E8 bc;have al:=s2 _ _ ep;refine⟨p,m,ys,_,Z,Z,al,A9,?_,?_⟩
  ·rw[NF,en];exact Yy (show ys.length+(ps.length-1)*1<=300 from S8 bg aC) (by decide)
  refine⟨(sm.trans s2).put ak,_,_,Z,A9,?_⟩;rw[e,Oh,en];have hr:AD K (upd (upd H' l (.lst [x1])) m (.lst (Zf (((us.length:Nat):Int)-1).toNat [x1]).flatten)) (Zf (ps.length-1) [x1]).flatten (Zf (ps.length-1) (ps.getD 1 0)):=KJ ((bf.same sm).same s2) _;rw[en]at hr al s2;exact Paired.append (AD.put (AD.same O s2) al) (AD.put hr al)
 ·rintro σ H' a0;refine BJ a0 fun sm ab=>?_;refine Cj ab fun ys z2 W=>?_;clear ab;refine Cm W fun an ep O=>?_;clear W;obtain rfl:=an
  try clear a0
  rw[bd,cV]at O;exact⟨_,Z,q p H' ys sm ak ep O⟩
theorem RH:Ah ["a","b"] ["a","b"] (Ad (top 20)):=fsc
theorem S3{f:ad}{fd:bn}(F:Fun K "over" "over" (top 20) f fd)(W7:Fd P w K mg base 34 "number_of" ["top","bottom"] (DT))(hT:P.given.tree=none) :
 Ax P w K mg base CX0 35 f fd ["a","b"] (Mh K):=by
 refine F.ok RH (fun vs H Q E h=>?_) (fun ak A outer s H vs Q E hr h=>?_)
 ·obtain⟨_,_,_,_,_,_,rfl,_⟩:=h;rfl
 refine⟨_,(Ae (Al (Aj W7 hr rfl (A0 (Af Aw (Ag (ixT K) (pv 0) Ab (fun u v=>rfl)) (Ag (ixT K) (pv 1) Ab (fun u v=>rfl))) (A0 (Af Aw (Ag (ixT K) (pv 0) Ab (fun u v=>rfl)) (Ag (ixT K) (pv 1) Ab (fun u v=>rfl))) A8))))),?_⟩;obtain⟨x,y,p,q,m,n,rfl,⟨r,rfl,Y⟩,⟨u,rfl,W⟩,q0,J,O,ab,k⟩:=h;have hn:q.num≠0:=fun z=>q0 (Rat.num_eq_zero.mp z);refine⟨_,Z,r,_,_,_,Z,Z,Y,Z,_,Z,u,_,_,_,Z,Z,W,Z,_,_,Z,Z,BL.bd J.1 O.2,?_⟩;refine⟨_,Z,r,_,_,_,Z,Z,Y,Z,_,Z,u,_,_,_,Z,Z,W,Z,_,_,Z,Z,BL.bd J.2 O.1,?_⟩;refine⟨_,_,Z,ZU (Nm.den_ne p) hn,fun z hz=>?_⟩;have e:=k z hz;rw[<- NA p q q0]at e;exact e
theorem PQ:Ah ["a","b"] ["a","b"] (Ad (top 18)):=fsc
theorem Qh{f:ad}{fd:bn}(F:Fun K "minus" "minus" (top 18) f fd)(W7:Fd P w K mg base 34 "number_of" ["top","bottom"] (DT))(hT:P.given.tree=none) :
 Ax P w K mg base CX0 35 f fd ["a","b"] (DU K (· - ·)):=by
 refine F.ok PQ (fun vs H Q E h=>?_) (fun ak A outer s H vs Q E Y h=>?_)
 ·obtain⟨_,_,_,_,_,_,rfl,_⟩:=h;rfl
 refine⟨_,(Ae (Al (Aj W7 Y rfl (A0 (Af Bj (Af Aw (Ag (ixT K) (pv 0) Ab (fun u v=>rfl)) (Ag (ixT K) (pv 1) Ab (fun u v=>rfl))) (Af Aw (Ag (ixT K) (pv 1) Ab (fun u v=>rfl)) (Ag (ixT K) (pv 0) Ab (fun u v=>rfl)))) (A0 (Af Aw (Ag (ixT K) (pv 0) Ab (fun u v=>rfl)) (Ag (ixT K) (pv 1) Ab (fun u v=>rfl))) A8))))),?_⟩;obtain⟨x,y,p,q,m,n,rfl,⟨r,rfl,Y⟩,⟨u,rfl,W⟩,J,O,ab,k⟩:=h;refine⟨_,Z,r,_,_,_,Z,Z,Y,Z,_,Z,u,_,_,_,Z,Z,W,Z,_,_,Z,Z,BL.bd J.1 O.2,_,Z,u,_,_,_,Z,Z,W,Z,_,Z,r,_,_,_,Z,Z,Y,Z,_,_,Z,Z,BL.bd O.1 J.2,_,_,Z,Z,?_⟩;refine⟨_,Z,r,_,_,_,Z,Z,Y,Z,_,Z,u,_,_,_,Z,Z,W,Z,_,_,Z,Z,BL.bd J.2 O.2,?_⟩;refine⟨_,_,Z,ZU (Nm.den_ne p) (Nm.den_ne q),fun z hz=>?_⟩;have e:=k z hz
 try dsimp only at e
 rw[<- Nm.minus_eq]at e;exact e
theorem DW:Ah ["ahead","knots","slopes","k","row","j"] ["ahead","knots","slopes","k"] (Ad (top 58)):=fsc
theorem L0{f:ad}{fd:bn}(F:Fun K "next_row" "next_row" (top 58) f fd)(ab:Fd P w K mg base 35 "over" ["a","b"] (Mh K))(WR:Fd P w K mg base 35 "minus" ["a","b"] (DU K (· - ·)))(VZ:mg "range" = none)(VY:mg "len" = none)(hT:P.given.tree=none) :
 Ax P w K mg base CX0 36 f fd ["ahead","knots","slopes","k"] (EF K):=by
 refine F.ok DW (fun vs H Q E h=>?_) (fun b9 A outer s H vs Q E hr h=>?_)
 ·obtain⟨_,_,_,_,_,_,_,_,_,_,_,rfl,_⟩:=h;rfl
 refine⟨_,(Aa (K:=K) (Ai (i:=4) DW.nd rfl (Or.inl rfl) (Bu A8))
  (Aa (K:=K) (B0 (K:=K) PassesOwn.never rfl (Cf rfl VZ (A0 (Af Bj (Ak (BD K) rfl VY AE (A0 (pv 1) A8)) (pv 3)) A8)) (Ap (i:=5) DW.nd rfl (Or.inl rfl)) (Ae (Ay (K:=K) (Ao (eqD K hr.units) (Ag (ixL K) (pv 1) (Af AV (pv 5) (pv 3)) (fun u v=>rfl)) (Ag (ixL K) (pv 1) (pv 5) (fun u v=>rfl)) (Ar _)) (Ae AU) (Ae (Ca (BA K PySem.F.plainAttrs_list PySem.F.slot_list_append PySem.F.type_list_append Dm (pv 4) (A0 (Aj ab hr rfl (A0 (Aj WR hr rfl (A0 (Ag (ixL K) (pv 0) (Af AV (pv 5) Ab) (fun u v=>rfl)) (A0 (Ag (ixL K) (pv 0) (pv 5) (fun u v=>rfl)) A8))) (A0 (Aj WR hr rfl (A0 (Ag (ixL K) (pv 1) (Af AV (pv 5) (pv 3)) (fun u v=>rfl)) (A0 (Ag (ixL K) (pv 1) (pv 5) (fun u v=>rfl)) A8))) A8))) A8)))) (by rfl) (by rfl))) (by rfl))
  (Ae (Al (pv 4))) (by rfl)) (by rfl)),?_⟩
 obtain⟨ra,rk,d,as,ks,A,kn,sl,k,m,n,rfl,hA,bd,hK,aP,bq,h1,cc,b8,b6,bm,bl,hm,hn,q⟩:=h;have P0:0<=bi:=by decide
 have ca:=bd.length;have b7:=aP.length;refine⟨P0,fun p aF=>?_⟩;have s0:Ac H (upd H p (.lst [])):=Ac.new aF;refine⟨_,Z,rk,ks,Z,.inl (Ac.seq s0 hK),_,Z,_,_,Z,Z,_,Z,by lia,by lia,?_⟩
 rw[show(((ks.length:Nat):Int)-(k:Int)).toNat=kn.length-k by lia]
 refine CO (n:=kn.length-k) (L10 H ra rk d k p K A kn sl fun H ra rk d k p K A kn sl i σ H'=>Ac H H'/\∃zs z5,σ=[some (.ref ra),some (.ref rk),some (.ref d),some (.int (k:Int)),some (.ref p),z5]/\H' p=some (.lst zs)/\zs.length=i/\AD K H' zs ((Dl A kn sl k).take i)) ⟨s0,[],none,Z,A9,Z,.nil⟩ ?_ ?_
 ·rintro j σ H' hj be;refine BJ be fun sm J=>?_;refine Cj J fun zs z5 W=>?_;clear J;refine Ep W fun bc ep bh an=>?_;clear W;obtain rfl:=bc
  try clear be
  have gk:=getD_some (l:=kn) (i:=j+k) (by lia)
  have g0:=getD_some (l:=kn) (i:=j) (by lia)
  have ga:=getD_some (l:=A) (i:=j+1) (by lia)
  have gb:=getD_some (l:=A) (i:=j) (by lia)
  obtain⟨xk,bp,ak,rfl,b5⟩:=(Paired.get' aP gk);obtain⟨x0,b4,a0,rfl,b3⟩:=(Paired.get' aP g0);obtain⟨xa,bx,bD⟩:=(Paired.get' bd ga);obtain⟨xb,bN,b2⟩:=(Paired.get' bd gb);have ek:atI ks (0+(j:Int)+(k:Int))=some (.ref ak):=by rw[show 0+(j:Int)+(k:Int)=((j+k:Nat):Int) by lia];exact AB bp
  have e0:atI ks (0+(j:Int))=some (.ref a0):=by rw[show 0+(j:Int)=((j:Nat):Int) by lia];exact AB b4
  have ea:atI as (0+(j:Int)+1)=some xa:=by rw[show 0+(j:Int)+1=((j+1:Nat):Int) by lia];exact AB bx
  have eb:atI as (0+(j:Int))=some xb:=by rw[show 0+(j:Int)=((j:Nat):Int) by lia];exact AB bN
  have al:=Ac.seq sm hK;have bf:=Ac.seq sm hA;have nk:Az K H' (.ref ak) (kn.getD (j+k) 0):=Az.of (sm _ _ b5);have n0:Az K H' (.ref a0) (kn.getD j 0):=Az.of (sm _ _ b3);have bt:j<(Dl A kn sl k).length:=by rw[DE];exact hj
  have et:(Dl A kn sl k).take (j+1)=(Dl A kn sl k).take j++[(Dl A kn sl k).getD j 0]:=by rw[ai,getD_some bt];rfl
  have bB:zs.length<bi:=Yr (show zs.length<300 by lia) (by decide)
  refine⟨_,Z,_,Z,_,Z,_,_,Z,Z,rk,ks,_,_,Z,Z,al,ek,_,Z,_,Z,rk,ks,_,_,Z,Z,al,e0,?_⟩;refine eqN nk n0 ?_;refine⟨_,Z,?_⟩;by_cases he:kn.getD (j+k) 0=kn.getD j 0
  ·exact absurd he (bq j (by lia))
  ·refine AM (by rw[decide_eq_false he]<;>rfl) ?_
   have ba:=bm _ (BN (l:=A) (i:=j+1) (by lia))
   have bb:=bm _ (BN (l:=A) (i:=j) (by lia))
   have bk:=bl _ (BN (l:=kn) (i:=j+k) (by lia))
   have b0:=bl _ (BN (l:=kn) (i:=j) (by lia))
   refine⟨_,Z,.inl ⟨Z,_,SqL.of ep⟩,_,Z,_,Z,_,_,Z,Z,ra,as,_,_,Z,Z,bf,ea,_,Z,_,Z,ra,as,_,_,Z,Z,bf,eb,_,_,_,_,m,m,Z,bD.same sm,b2.same sm,ba,bb,by lia,fun t ht=>?_⟩
   have s1:Ac H' (upd H' t (nT (A.getD (j+1) 0-A.getD j 0))):=Ac.new ht;refine⟨_,Z,_,Z,_,Z,_,_,Z,Z,rk,ks,_,_,Z,Z,Ac.seq s1 al,ek,_,Z,_,Z,rk,ks,_,_,Z,Z,Ac.seq s1 al,e0,_,_,_,_,n,n,Z,nk.same s1,n0.same s1,bk,b0,by lia,fun u hu=>?_⟩
   have s2:=s1.trans (Ac.new (o:=nT (kn.getD (j+k) 0-kn.getD j 0)) hu);refine⟨_,_,_,_,m+m+1,n+n+1,Z,Az.of ((Ac.new hu) _ _ A9),Az.of A9,(fun z=>he (by grind)),ba.minus bb,bk.minus b0,by lia,fun r b1=>?_⟩
   have s3:=s2.trans (Ac.new (o:=nT ((A.getD (j+1) 0-A.getD j 0) / (kn.getD (j+k) 0-kn.getD j 0))) b1);have aC:=s3 _ _ ep;refine⟨p,zs,.ref r,Z,Z,aC,bB,(sm.trans s3).put aF,_,_,Z,A9,by simp[bh],?_⟩
   rw[et,HV hj,if_neg he];exact Paired.snoc (AD.put (AD.same an s3) aC) ((Az.of A9).put aC)
 ·rintro σ H' bg;refine BJ bg fun sm O=>?_;refine Cj O fun zs z5 Y=>?_;clear O;refine Ep Y fun ap ep bh an=>?_;clear Y;obtain rfl:=ap
  try clear bg
  rw[bj (by rw[DE];exact YL _)]at an
  exact⟨_,Z,q p H' zs sm aF ep an⟩
theorem Cw:Ah ["points","knots","slopes","table","k"] ["points"] (Ad (top 59)):=fsc
theorem KS{f:ad}{fd:bn}(F:Fun K "table_of" "table_of" (top 59) f fd)(WC:Fd P w K mg base 34 "knots_of" ["points"] (F0 K))(Xf:Fd P w K mg base 33 "slopes_in" ["points"] (FN K))(Xg:Fd P w K mg base 33 "first_row" ["points"] (Mb K))(Xh:Fd P w K mg base 36 "next_row" ["ahead","knots","slopes","k"] (EF K))(VZ:mg "range" = none)(VY:mg "len" = none)(hT:P.given.tree=none) :
 Ax P w K mg base CX0 37 f fd ["points"] (Jq K):=by
 refine F.ok Cw (fun vs H Q E h=>?_) (fun b4 A outer s H vs Q E hr h=>?_)
 ·obtain⟨_,_,_,_,_,rfl,_⟩:=h;rfl
 refine⟨_,(Aa (K:=K) (Ai (i:=1) Cw.nd rfl (Or.inl rfl) (Aj WC hr rfl (A0 (pv 0) A8)))
  (Aa (K:=K) (Ai (i:=2) Cw.nd rfl (Or.inl rfl) (Aj Xf hr rfl (A0 (pv 0) A8)))
  (Aa (K:=K) (Ai (i:=3) Cw.nd rfl (Or.inl rfl) (Bu A8))
  (Aa (K:=K) (B0 (K:=K) PassesOwn.never rfl (Cf rfl VZ (A0 (Ak (BD K) rfl VY AE (A0 (pv 1) A8)) A8)) (Ap (i:=4) Cw.nd rfl (Or.inl rfl)) (Ae (Ca (BA K PySem.F.plainAttrs_list PySem.F.slot_list_append PySem.F.type_list_append Dm (pv 3) (A0 (Di (Ao Cr (pv 4) Ab (Ar _)) (Aj Xg hr rfl (A0 (pv 0) A8)) (Aj Xh hr rfl (A0 (Ag (ixL K) (pv 3) (Af Bj (pv 4) Ab) (fun u v=>rfl)) (A0 (pv 1) (A0 (pv 2) (A0 (pv 4) A8)))))) A8)))) (by rfl))
  (Ae (Al (pv 3))) (by rfl)) (by rfl)) (by rfl)) (by rfl)),?_⟩
 obtain⟨r,xs,pss,hh,n,rfl,hS,hp,ab,al,bD,b0,hb,bc,bt,bN,q⟩:=h;have P0:0<=bi:=by decide
 refine⟨_,Z,r,xs,pss,Z,hS,hp,ab.p23,al,fun w Hw ws sw hw ew bh=>?_⟩;refine⟨_,Z,r,xs,pss,Z,hS.same sw,AY.same hp sw,ab,al,fun d Hd sd=>?_⟩;refine⟨P0,fun p aF=>?_⟩;have s0:Ac Hd (upd Hd p (.lst [])):=Ac.new aF;have sH:Ac H Hd:=sw.trans sd;have bp:H p=none:=sH.free aF;have b1:ws.length=(AA pss).length:=by rw[bh.length,Z4]
 have bf:=sd _ _ ew;have bx:Am Hd ws (kn pss):=Am.same bh sd;refine⟨_,Z,w,ws,Z,.inl (SqL.of (s0 _ _ bf)),_,Z,by lia,by lia,?_⟩
 rw[show((ws.length:Nat):Int).toNat=(AA pss).length by lia]
 refine CO (n:=(AA pss).length) (L8 Hd r w d p K H pss fun Hd r w d p K H pss i σ H'=>Ac Hd H'/\∃ys z,σ=[some (.ref r),some (.ref w),some (.ref d),some (.ref p),z]/\H' p=some (.lst ys)/\Paired (FR K H p H') ys ((Yu i).map (tab pss))) ⟨s0,[],none,Z,A9,.nil⟩ ?_ ?_
 ·rintro i σ H' hi be;refine BJ be fun sm ap=>?_;refine Cj ap fun ys z O=>?_;clear ap;refine Cm O fun aC ep Y=>?_;clear O;obtain rfl:=aC
  try clear be
  have aP:ys.length=i:=by rw[Y.length,Z4,bF]
  have ba:=sH.trans sm;have bd:ys.length<bi:=Yr (show ys.length<300 by lia) (by decide)
  have er:(Yu (i+1)).map (tab pss)=(Yu i).map (tab pss)++[tab pss i]:=by rw[aW,aj];rfl
  have as:∀(l:ad) (H3:Hp) (zs:List V),Ac H' H3->H' l=none->H3 l=some (.lst zs)->AD K H3 zs (tab pss i)->Ac Hd (upd H3 p (.lst (ys++[.ref l])))/\∃bl z,[some (V.ref r),some (.ref w),some (.ref d),some (.ref p),some (.int (0+(i:Int)))]=[some (.ref r),some (.ref w),some (.ref d),some (.ref p),z]/\(upd H3 p (.lst (ys++[.ref l]))) p=some (.lst bl)/\Paired (FR K H p (upd H3 p (.lst (ys++[.ref l])))) bl ((Yu (i+1)).map (tab pss)):=fun l H3 zs s3 hl el hn=>by
   have bb:=s3 _ _ ep;have lp:l≠p:=(As ep hl).symm;refine⟨(sm.trans s3).put aF,_,_,Z,A9,?_⟩;rw[er];exact Paired.snoc (Paired.mapP Y fun _ _ z=>(z.same s3).put bb) (FR.put ⟨l,zs,Z,lp,ba.free hl,el,hn⟩ bb)
  refine⟨_,Z,.inl ⟨Z,_,SqL.of ep⟩,_,Z,Z,_,Z,?_⟩
  match i,hi,as,Y,aP with
  | 0,hi,as,Y,aP =>
    refine Ia ?_;refine⟨_,Z,r,xs,pss,Z,hS.same ba,AY.same hp ba,ab.p23,al,fun l H3 zs s3 hl el hn=>?_⟩;exact⟨p,ys,.ref l,Z,Z,s3 _ _ ep,bd,as l H3 zs s3 hl el hn⟩
  | i+1,hi,as,Y,aP =>
    refine AM (by rw[decide_eq_false (show ¬V.int (0+((i+1:Nat):Int))=V.int 0 from fun z=>by have:=V.int.inj z;lia)]<;>rfl) ?_
    obtain⟨xv,bm,a,zs,rfl,b2,b3,ha,bB⟩:=(Paired.get' Y (MS (tab pss) i));have ea:atI ys (0+((i+1:Nat):Int)-1)=some (.ref a):=by rw[show 0+((i+1:Nat):Int)-1=((i:Nat):Int) by lia];exact AB bm
    have b5:=R3 (show hh+2*n+2<=8000 by lia) (show i<=7 by lia)
    refine⟨_,Z,_,Z,_,_,Z,Z,p,ys,_,_,Z,Z,SqL.of ep,ea,_,Z,_,Z,_,Z,a,w,d,zs,ws,tab pss i,kn pss,RF pss,i+1,bnd hh n i,n,by rw[Int.zero_add];rfl,SqL.of ha,bB,SqL.of (sm _ _ bf),Am.same bx sm,?_,by lia,by rw[BO];lia,by rw[Du _ _ (by lia),BO];lia,by rw[BO];lia,M5 ab.p23 bt hb bc i (by lia),Qy bc,by lia,by lia,fun l H3 bq s3 hl el hn=>?_⟩
    ·intro j hj he;rw[BO]at hj;refine BJ (HZ ab.p23 bD (by lia) hj he) fun _ ak=>?_
     refine MZ ak fun ps J=>?_;clear ak;refine Cm J fun h1 h2 _=>?_;clear J;have:=ab ps h1
     lia
    ·exact⟨p,ys,.ref l,Z,Z,s3 _ _ ep,bd,as l H3 bq s3 hl el hn⟩
 ·rintro σ H' bg;refine BJ bg fun sm an=>?_;refine Cj an fun ys z W=>?_;clear an;refine Cm W fun a0 ep Y=>?_;clear W;obtain rfl:=a0
  try clear bg
  exact⟨_,Z,q p H' ys (sH.trans sm) bp ep Y⟩
theorem KA:Ah ["points"] ["points"] (Ad (top 60)):=fsc
theorem KU{f:ad}{fd:bn}(F:Fun K "steps_of" "steps_of" (top 60) f fd)(Xi:Fd P w K mg base 37 "table_of" ["points"] (Jq K))(hT:P.given.tree=none) :
 Ax P w K mg base CX0 38 f fd ["points"] (Jr K):=by
 refine F.ok KA (fun vs H Q E h=>?_) (fun bf A outer s H vs Q E hr h=>?_)
 ·obtain⟨_,_,_,_,_,rfl,_⟩:=h;rfl
 refine⟨_,(Ae (Al (Bp rfl (N:=["row"]) (nt:=1) (js:=[]) (AG.look (NX:=["points"]) (sc:=Ad (top 60)) rfl rfl (by decide +kernel)) (piL K (Aj Xi hr rfl (A0 (pv 0) A8))) (fun u1 u2 u3 u4 u5=>(Ap (i:=0) (show List.Nodup (["row"]:List Str) from by decide +kernel) rfl (Or.inl rfl))) (Av (by decide)) (fun u1 u2 u3 u4 u5=>AN) (fun u1 u2 u3 u4 u5=>(Ag (ixL K) (pv 0) Ab (fun u v=>rfl)))))),?_⟩
 obtain⟨r,xs,pss,hh,n,rfl,hS,hp,ba,ab,bc,an,hb,as,aP,ak,q⟩:=h;refine Bh ⟨_,Z,r,xs,pss,hh,n,Z,hS,hp,ba,ab,bc,an,hb,as,aP,ak,fun w Hw ws sw hw ew al=>⟨w,Z,⟨_,SqL.of ew⟩,?_⟩⟩;have aC:ws.length=(AA pss).length:=by rw[al.length,Z4,bF]
 refine Dc (xs:=ws) (L3 Hw K pss fun Hw K pss i zs H'=>H'=Hw/\zs.length=i/\AD K Hw zs ((C0 pss).take i)) ⟨Z,Z,.nil⟩ (fun i zs H' _ h=>⟨by rw[h.1];exact SqL.of ew,h.2.1⟩) (Yz (AS (by lia))) ?_ ?_
 ·rintro i v zs H' hv ⟨rfl,O,Y⟩;have hi:i<ws.length:=(YG.mp hv).1;obtain⟨rs,J,a,us,rfl,bd,be,ha,aF⟩:=(Paired.get al hv)
  have bb:rs=tab pss i:=by
   rw[Zl,bJ (by lia)]at J
   exact(Yo.inj J).symm
  subst bb;have hl:=Du pss i (by lia)
  obtain⟨x0,a0,ap⟩:=(Paired.get' aF (getD_some (l:=tab pss i) (i:=0) (by lia)))
  refine⟨_,Z,a,us,_,x0,Z,Z,SqL.of ha,AB (j:=0) a0,Z,by simp[O],?_⟩
  have e:(C0 pss).take (i+1)=(C0 pss).take i++[(tab pss i).getD 0 0]:=by
   rw[ai]
   congr 1
   unfold C0;rw[Zl,bJ (by lia)];rfl
  rw[e];exact Paired.snoc Y ap
 rintro zs H' ⟨rfl,O,Y⟩ p W;rw[aC,<- DS,cV]at Y;exact q p _ zs (sw.trans (Ac.new W)) (sw.free W) A9 (AD.same Y (Ac.new W))
theorem FT:Ah ["points"] ["points"] (Ad (top 62)):=fsc
theorem FX{f:ad}{fd:bn}(F:Fun K "curve_through" "curve_through" (top 62) f fd)(Xj:Fd P w K mg base 36 "by_steps" ["knots","steps"] (FQ K))(WC:Fd P w K mg base 34 "knots_of" ["points"] (F0 K))(Xk:Fd P w K mg base 38 "steps_of" ["points"] (Jr K))(hT:P.given.tree=none) :
 Ax P w K mg base CX0 39 f fd ["points"] (Ma K):=by
 refine F.ok FT (fun vs H Q E h=>?_) (fun bc A outer s H vs Q E hr h=>?_)
 ·obtain⟨_,_,_,_,_,rfl,_⟩:=h;rfl
 refine⟨_,(Ae (Al (Aj Xj hr rfl (A0 (Aj WC hr rfl (A0 (pv 0) A8)) (A0 (Aj Xk hr rfl (A0 (pv 0) A8)) A8))))),?_⟩;obtain⟨r,xs,pss,Y,n,rfl,hS,hp,J,W,ba,ab,hb,O,ak,al,q⟩:=h;refine⟨_,Z,r,xs,pss,Z,hS,hp,J.p23,W,fun w Hw ws sw hw ew aC=>?_⟩;refine⟨_,Z,r,xs,pss,Y,n,Z,hS.same sw,AY.same hp sw,J,W,ba,ab,hb,O,ak,al,fun t Ht zs st ht et a0=>?_⟩;have bd:=R3 (show Y+2*n+2<=8000 by lia) (YL 7)
 have ap:n<=bnd Y n 7:=by
  have:=N9 Y n 6;show n<=2*bnd Y n 6+2*n+2
  lia
 have aP:=BO pss;refine⟨w,t,ws,zs,kn pss,C0 pss,bnd Y n 7,Z,SqL.of (st _ _ ew),(Am.same aC st).nums,SqL.of et,a0,by rw[DS];exact aP,by lia,fun c hc=>(Qy O c hc).mono ap,Pn J.p23 hb O ak ab,by lia,fun p Hp cs an hc bb hg aF as=>?_⟩
 have hm:bnd Y n 7*(kn pss).length<=bnd Y n 7*12:=cA _ (by lia)
 exact q p Hp cs ((sw.trans st).trans an) hc (by lia) hg (fun c hc=>(aF c hc).mono (by lia)) as
theorem IY:Ah ["places","bottom"] ["places"] (Ad (top 79)):=fsc
theorem Oq{f:ad}{fd:bn}(F:Fun K "rising" "rising" (top 79) f fd)(Wg:Fd P w K mg base 34 "bottom_of" ["numbers"] (Ky K))(WD:mg "sorted" = none)(hT:P.given.tree=none)(bh:Bm mg base)(hl:Gk K f 497=true) :
 Ax P w K mg base CX0 38 f fd ["places"] (Mc K 497):=by
 refine F.okL hl IY (fun vs H Q E h=>?_) (fun b4 A outer s H vs Q E bx hr h=>?_)
 ·obtain⟨_,_,_,_,rfl,_⟩:=h;rfl
 refine⟨_,(Aa (K:=K) (Ai (i:=1) IY.nd rfl (Or.inr rfl) (Aj Wg hr rfl (A0 (pv 0) A8)))
  (Ae (Al (Qb K (k:=33) hr (fun _=>rfl) rfl WD (pv 0) (RX (sc:=Ad (top 79)) bx bh)))) (by rfl)),?_⟩
 obtain⟨l,xs,qs,n,rfl,hS,hN,hb,bb,bl,O,q⟩:=h;have b3:=hN.length;have b0:n*(qs.length+2)<=1000000*22:=cI bb (by lia)
 have b1:n*qs.length<=1000000*20:=cI bb bl;refine⟨_,Z,true,l,xs,qs,n,Z,hS,hN,fun q hq=>(hb q hq).2,by lia,fun B hB hd bB=>?_⟩
 refine⟨_,Z,l,Z,O,fun f c' cl b2 H2 C ab J=>?_⟩;have bN:=PM hS O J.old;refine⟨f,_,["place"],cl,xs,qs.map (Gg B),Z,bN,by rw[Z4];lia,by lia,OF fun a=>rfl,C,fun os be bg=>⟨_,Ua (k:=32) (fr:=["bottom"]) (ws:=[.int B]) (Ok:=fun vs r=>∃x q,vs=[x]/\q∈qs/\Az K H2 x q/\r = .int (Gg B q)) J C ab be bg ⟨Z,Z,Z,by decide +kernel,by decide +kernel⟩ (lk1 _) (.cons 1 rfl rfl rfl rfl .nil) (fun A outer s E vs r H' Q hr b5 ho hm hQ=>?_),fun i x kk hx al Q' hQ=>?_⟩,fun p ys hp hz=>?_⟩
 ·refine Cj ho fun x c W=>?_;refine Ep W fun aC hc an ak=>?_;clear W;obtain rfl:=aC;obtain⟨rx,rfl,bt⟩:=an;obtain rfl:=ak;refine⟨_,(Af Aw (Ag (ixT K) (pv 0) Ab (fun u v=>rfl)) (Af (BY hr hT) (pv 1) (Ag (ixT K) (pv 0) Ab (fun u v=>rfl)))),?_⟩;have a0:=bt.same hm;have bD:(c.den:Int)≠0:=Nm.den_ne c
  have bq:Bd (n*qs.length+1) (B.fdiv (c.den:Int)):=by
   rw[cR _ (by lia)]
   unfold Bd at bB ⊢;exact ZI (Int.natAbs_ediv_le_natAbs ..) bB
  exact⟨_,Z,rx,_,_,_,Z,Z,a0,Z,_,Z,_,Z,rx,_,_,_,Z,Z,a0,Z,_,_,Z,Z,bD,_,_,Z,Z,BL.bd (hb c hc).1 bq (by lia),hQ⟩
 ·rw[Zl]at al;obtain⟨c,hc,bc⟩:=(Paired.get hN hx);rw[hc]at al;cases al;exact⟨Z,Ac.refl _,_,⟨x,c,Z,Zn hc,bc.but O J.old,Z⟩,hQ⟩
 ·refine MZ hz fun zs Y=>?_;refine Cm Y fun as aP aF=>?_;clear Y;obtain rfl:=aP;have bm:=PV (B:=B) (show AD K H2 xs qs from Paired.mapP hN fun _ _ z=>z.but O J.old);obtain⟨rs,ap,bp⟩:=(Gv as.symm (KR bm));obtain⟨ek,ba⟩:=(Oi bp);have nN:=Ac.new (o:=.lst (zs.map Prod.snd)) hp;refine q p _ _ rs (Co.trans J.old nN.b) (J.tab.same nN) (QN J.tab J.old hp) A9 (AD.same ba nN) ap ?_
  have h1:(rs.map (Gg B)).Pairwise (· <= ·):=by
   rw[ek];exact cm.mpr aF
  refine List.Pairwise.imp_of_mem (fun{a b} ha bf h=>?_) (cm.mp h1);exact Sd hB (hd a (ap.mem_iff.mp ha)) (hd b (ap.mem_iff.mp bf)) h
theorem Ce:Ah ["places","heights","width","most","many","pair","lock","points","sure","curve","wrong"] ["places","heights","width","most"] (Ad (top 104)):=fsc
theorem Ou{f:ad}{fd:bn}(F:Fun K "judged" "judged" (top 104) f fd)(Xl:Fd P w K mg base 35 "check_heights" ["places","heights"] (Hm K))(Xm:Fd P w K mg base 36 "pair_through" ["places","heights","width"] (Mg K))(Xn:Fd P w K mg base 39 "curve_through" ["points"] (Ma K))(aP:Fd P w K mg base 38 "rising" ["places"] (Mc K 497))(Wo:Fd P w K mg base 35 "height_at" ["curve","x"] (Ee K))(Wc:mg "list" = none)(VY:mg "len" = none)(W4:mg "zip" = none)(W0:mg "tuple" = none){J:ad}(aF:mg "NOUGHT" = some (.ref J))(aC:∀H:Hp,Az K H (.ref J) (0))(hT:P.given.tree=none) :
 Ax P w K mg base CX0 40 f fd ["places","heights","width","most"] (Hl K 497):=by
 refine F.ok Ce (fun vs H Q E h=>?_) (fun eK A outer s H vs Q E hr h=>?_)
 ·obtain⟨_,_,_,_,_,_,_,_,_,_,_,_,_,_,rfl,_⟩:=h;rfl
 refine⟨_,(Aa (K:=K) (Ca (Aj Xl hr rfl (A0 (pv 0) (A0 (pv 1) A8))))
  (Aa (K:=K) (Ai (i:=4) Ce.nd rfl (Or.inl rfl) (Af AV (Af Aw Ab (pv 3)) (pv 2)))
  (Aa (K:=K) (Ay (K:=K) (Ao Dk (pv 4) (Ak (BD K) rfl VY AE (A0 (pv 0) A8)) (Ar _)) (Ae AU) Au (by rfl) (by rfl))
  (Aa (K:=K) (Ai (i:=5) Ce.nd rfl (Or.inl rfl) (Aj Xm hr rfl (A0 (Bz (slL K) (pv 0) C4 (C3 (pv 4))) (A0 (Bz (slL K) (pv 1) C4 (C3 (pv 4))) (A0 (Af AV (pv 3) (pv 2)) A8)))))
  (Aa (K:=K) (Ai (i:=6) Ce.nd rfl (Or.inr rfl) (Ag (ixT K) (pv 5) Ab (fun u v=>rfl)))
  (Aa (K:=K) (Ai (i:=7) Ce.nd rfl (Or.inl rfl) (Mz K rfl rfl Wc rfl W4 (A0 (pv 0) (A0 (pv 1) A8))))
  (Aa (K:=K) (Nu (i:=8) rfl Ce.nd rfl rfl (N:=["point","lock"]) (nt:=1) (js:=[6]) (AG.look (NX:=["places","heights","width","most","many","pair","lock","points","sure","curve","wrong"]) (sc:=Ad (top 104)) rfl rfl (by decide +kernel)) (piL K (Bz (slL K) (pv 7) C4 (C3 (pv 4)))) (fun u1 u2 u3 u4 u5=>(Ap (i:=0) (show List.Nodup (["point","lock"]:List Str) from by decide +kernel) rfl (Or.inl rfl))) (Av (by decide)) (fun u1 u2 u3 u4 u5=>Fn (Ao (neD K hr.units) (Aj Wo hr rfl (A0 (pv 1) (A0 (Ag (ixT K) (pv 0) Ab (fun u v=>rfl)) A8))) (C5 (v:=.ref J) rfl aF rfl) (Ar _))) (fun u1 u2 u3 u4 u5=>(pv 0)) rfl)
  (Aa (K:=K) (Ai (i:=9) Ce.nd rfl (Or.inr rfl) (Aj Xn hr rfl (A0 (AQ (FK K) rfl W0 Ck (A0 (Bz (slL K) (pv 8) C4 (C3 (pv 2))) A8)) A8)))
  (Aa (K:=K) (Ai (i:=10) Ce.nd rfl (Or.inl rfl) (Aj aP hr rfl (A0 (Bp rfl (N:=["x","y","curve"]) (nt:=2) (js:=[9]) (AG.look (NX:=["places","heights","width","most","many","pair","lock","points","sure","curve","wrong"]) (sc:=Ad (top 104)) rfl rfl (by decide +kernel)) (piL K (pv 7)) (fun u1 u2 u3 u4 u5=>(pgT K (n:=2) rfl (By (Ap (i:=0) (show List.Nodup (["x","y","curve"]:List Str) from by decide +kernel) rfl (Or.inl rfl)) (By (Ap (i:=1) (show List.Nodup (["x","y","curve"]:List Str) from by decide +kernel) rfl (Or.inl rfl)) Eg)))) (Ed (Bl (by decide) (Bl (by decide) Dv))) (fun u1 u2 u3 u4 u5=>Fn (Ao (neD K hr.units) (Aj Wo hr rfl (A0 (pv 2) (A0 (pv 0) A8))) (pv 1) (Ar _))) (fun u1 u2 u3 u4 u5=>(pv 0))) A8)))
  (Aa (K:=K) (Ay (K:=K) (Ao Dk (Ak (BD K) rfl VY AE (A0 (pv 10) A8)) (pv 3) (Ar _)) (Ae (Al (AO (A0 AI (A0 (pv 6) (A0 (Ag (ixT K) (pv 5) Ab (fun u v=>rfl)) A8)))))) Au (by rfl) (by rfl))
  (Ae (Al (AO (A0 AI (A0 (pv 9) (A0 (pv 10) A8)))))) (by rfl)) (by rfl)) (by rfl)) (by rfl)) (by rfl)) (by rfl)) (by rfl)) (by rfl)) (by rfl)) (by rfl)),?_⟩
 obtain⟨lp,lh,zs,ys,qs,hs,c,W,e,n,nx,ny,mc,C,rfl,hP,b3,hH,hY,eW,e8,eA,b9,er,fe,hm,bq,bh,eD,eL,eh,eN,hC,hG,dd,gc,lc,bc,d7,bp,q⟩:=h;have P3:3<=bi:=by decide
 have hZ:AD K H zs qs:=b3.nums;have e7:=hZ.length;have eP:=hY.length;refine⟨_,Z,_,Z,lp,lh,zs,ys,qs,Z,hP,b3,b9,by lia,by lia,hH,by lia,fun H1 s1=>?_⟩
 obtain⟨m,ej⟩:∃m,m=2*e+W:=⟨_,Z⟩;refine⟨_,Z,_,_,Z,Z,.inl ⟨by decide,by decide⟩,_,Z,_,_,Z,Z,?_⟩
 rw[show(2:Int)*(e:Int)+(W:Int)=(m:Int) by lia]
 refine⟨_,Z,_,Z,lp,zs,Z,.inl (Ac.seq s1 hP),_,_,Z,Z,_,Z,AM (decide_eq_false (by lia)) ?_⟩
 refine⟨_,Z,_,Z,_,Z,lp,zs,Z,Ac.seq s1 hP,fun o1 h1=>?_⟩;rw[Eb];have w1:=Ac.new (o:=.lst (zs.take m)) h1;refine⟨_,Z,_,Z,_,Z,lh,ys,Z,Ac.seq (s1.trans w1) hH,fun o2 h2=>?_⟩;rw[Eb];have w2:=Ac.new (o:=.lst (ys.take m)) h2;have s2:=(s1.trans w1).trans w2;have e1:=w2 _ _ (A9 (H:=H1) (a:=o1) (o:=.lst (zs.take m)));have e2:=A9 (H:=upd H1 o1 (.lst (zs.take m))) (a:=o2) (o:=.lst (ys.take m));generalize upd (upd H1 o1 (.lst (zs.take m))) o2 (.lst (ys.take m))=H2 at s2 e1 e2 ⊢;have dc:(qs.take m).length=m:=by rw[Zh];lia
 have cv:(hs.take m).length=m:=by rw[Zh];lia
 have ap:(qs.take m).Nodup:=b9.sublist (Zm _ _)
 have dV:(nx+1)*(m+3)+ny+2<=C:=by
  have:=cA (nx+1) (show m+3<=n+3 by lia)
  lia
 have e3:(gAS C m).2+3*C<=2000000:=Yy (bQ (FC C (show m<=n by lia)) _) hG
 refine⟨_,Z,_,Z,_,_,Z,Z,?_⟩;rw[show(e:Int)+(W:Int)=((e+W:Nat):Int) by lia]
 refine⟨o1,o2,_,_,qs.take m,hs.take m,e+W,m,nx,ny,C,Z,SqL.of e1,Paired.take _ (AD.same hZ s2),SqL.of e2,Paired.take _ (AD.same hY s2),dc,cv,by lia,by lia,ap,by lia,by lia,fun x hx=>bq x (cG hx),fun x hx=>bh x (cG hx),dV,by lia,fun t pN pD H3 r1 r2 N D N2 D2 s3 hT cN cD bN bD I=>?_⟩
 have on:=QC ej dc cv ap er gc lc (Yy (OB m) bp) I;have bB:((qs.take m).zip (hs.take m)).length=m:=by rw[ck];lia
 have d3:=I.below bB (by lia) (by rw[dq (by lia)];exact ap)
 have eH:=I.fin bB;have eS:(Cv.strip D).length<=e+1:=Pm fun j hj=>I.le1.2 j (by lia)
 have b5:=s2.trans s3;clear w1 w2 h1 h2 e1 e2 s1 s2 dV;refine⟨_,Z,t,_,_,_,Z,Z,hT,Z,?_⟩;refine⟨_,Z,_,Z,lp,lh,zs,ys,Z,Ac.seq b5 hP,Ac.seq b5 hH,by lia,fun d1 us H4 s4 d2 bb dK=>?_⟩
 have b1:=b5.trans s4;have al:AY K H4 us ((qs.zip hs).map fun p=>[p.1,p.2]):=RQ dK (Am.same b3 b1) (AD.same hY b1);have eg:us.length=n:=by rw[al.length,Z4,ck];lia
 have e4:(qs.zip hs).length=n:=by rw[ck];lia
 have ed:∀c∈Cv.strip D,Bd ((gAS C m).2+1) c.num/\Bd 1 (c.den:Int):=fun c hc=>bD c (Cv.strip_mem _ _ hc);refine Bh ⟨_,Z,_,Z,_,Z,d1,us,Z,SqL.of bb,fun o5 h5=>?_⟩;rw[Eb];have w5:=Ac.new (o:=.lst (us.take m)) h5;have e5:=A9 (H:=H4) (a:=o5) (o:=.lst (us.take m));have b4:=(cD.same s4).same w5;have b2:=b1.trans w5;have al:=AY.same al w5;generalize upd H4 o5 (.lst (us.take m))=H5 at w5 e5 b4 b2 al ⊢;refine⟨o5,Z,⟨_,SqL.of e5⟩,?_⟩;have eB:(nx+1)*((Cv.strip D).length+4)<=41*17:=cI (by lia) (by lia)
 refine K6 (xs:=us.take m) (L5 H5 K qs hs D fun H5 K qs hs D i ws G=>Ac H5 G/\ws.length<=i/\AY K G ws ((((qs.zip hs).take i).filter fun p=>!decide (Cv.ev D p.1=0)).map fun p=>[p.1,p.2])) ⟨Ac.refl _,YL _,.nil⟩ (fun i ws G _ h=>⟨SqL.of (h.1 _ _ e5),h.2.1⟩) (Yz (AS (by rw[Zh];lia))) ?_ ?_
 ·rintro i v ws G hv ⟨sg,cc,ak⟩
  have hi:i<m:=by
   have:=(YG.mp hv).1;rw[Zh]at this;lia
  rw[cf,if_pos hi]at hv;obtain⟨ps,ab,pt⟩:=(Paired.get al hv);rw[Zl]at ab
  obtain⟨⟨x,y⟩,O,rfl⟩:∃Y,(qs.zip hs)[i]? = some Y/\ps=[Y.1,Y.2]:=by
   cases z:(qs.zip hs)[i]? with
   | none=>rw[z]at ab;cases ab
   | some Y=>rw[z]at ab;cases ab;exact⟨Y,Z,Z⟩
  refine Dd (id pt) fun ta tu px as=>?_;refine DQ as fun ca ec eR ez eo=>?_;clear as;obtain rfl:=ca;have ey:x∈qs:=(Ze (Zn O)).1;refine⟨_,Z,_,Z,ta,tu,_,_,Z,Z,ec.same sg,AB (j:=0) ez,pD,px,Cv.strip D,x,(gAS C m).2+1,1,nx,Z,b4.same sg,Az.of (sg _ _ eo),ed,bq x ey,by lia,by lia,fun p1 G1 s1 e1 _=>?_⟩
  refine eqN (Az.of e1) (aC _) ?_;refine⟨_,Z,?_⟩;rw[Cv.ev_strip];have et:(((qs.zip hs).take (i+1)).filter fun p=>!decide (Cv.ev D p.1=0))=(((qs.zip hs).take i).filter fun p=>!decide (Cv.ev D p.1=0))++([(x,y)].filter fun p=>!decide (Cv.ev D p.1=0)):=by rw[ai,O,cW];rfl
  by_cases h0:Cv.ev D x=0
  ·refine AM (by rw[decide_eq_true h0];rfl) ⟨sg.trans s1,by lia,?_⟩
   rw[et,cU (by show ¬(!decide (Cv.ev D x=0))=true;rw[decide_eq_true h0];decide),List.filter_nil,Za]
   exact AY.same ak s1
  ·refine Bi (by rw[decide_eq_false h0];rfl) ⟨_,Z,sg.trans s1,by rw[Zo,ZF];lia,?_⟩
   rw[et,cT (by show(!decide (Cv.ev D x=0))=true;rw[decide_eq_false h0];rfl),aj]
   exact Paired.snoc (AY.same ak s1) (pt.same (sg.trans s1))
 rintro ws G ⟨sg,cc,ak⟩ b7 bm;have eb:(us.take m).length=m:=by rw[Zh];lia
 rw[eb]at ak cc;have w6:=Ac.new (o:=.lst ws) bm;have dn:=(b2.trans sg).trans w6;have cp:=(w5.trans sg).trans w6;have ak:=AY.same ak w6;have e6:=A9 (H:=G) (a:=b7) (o:=.lst ws);generalize upd G b7 (.lst ws)=H6 at dn cp ak e6 ⊢;clear w6 sg w5 e5 b4 b2 al bm h5;have dp:(qs.zip hs).take m=(qs.take m).zip (hs.take m):=List.take_zipWith (f:=Prod.mk);generalize hL:((qs.zip hs).take m).filter (fun p=>!decide (Cv.ev D p.1=0))=L at ak;have b0:List.Sublist L (qs.zip hs):=by rw[<- hL];exact(List.filter_sublist).trans (Zm _ _)
 have be:∀Y∈L,Y∈qs.zip hs/\Cv.ev c Y.1=Y.2:=fun Y O=>by
  refine⟨b0.subset O,?_⟩;rw[<- hL,dp]at O;obtain⟨h1,h2⟩:=(Yv.mp O);have h0:Cv.ev D Y.1≠0:=by simpa using h2
  have o1:=I.on1 Y h1;rw[on Y.1]at o1;have:(Cv.ev c Y.1-Y.2)*Cv.ev D Y.1=0:=by grind
  rcases aq.mp this with z | z
  ·grind
  ·exact absurd z h0
 have fa:W<=L.length:=by
  have f1:=LI (DH D) d3 ap;have f2:=FF (fun x=>decide (Cv.ev (Cv.strip D) x=0)) (qs.take m)
  have f3:L.length=((qs.take m).filter fun x=>!decide (Cv.ev (Cv.strip D) x=0)).length:=by
   rw[<- hL,dp];have e:((qs.take m).zip (hs.take m)).map Prod.fst=qs.take m:=dq (by lia)
   rw[<- e,List.filter_map,Z4,e]
   congr 2
   funext p
   show(!decide (Cv.ev D p.1=0))=(!decide (Cv.ev (Cv.strip D) p.1=0));rw[Cv.ev_strip]
  lia
 have bl:P2 ((L.take W).map fun p=>[p.1,p.2]):=fun ps ab=>by
  obtain⟨Y,_,rfl⟩:=(aX.mp ab)
  rfl
 have an:(((L.take W).map fun p=>[p.1,p.2]).map fun ps=>ps.getD 0 0).Nodup:=by
  rw[cy];show((L.take W).map Prod.fst).Nodup;have bx:List.Sublist ((L.take W).map Prod.fst) ((qs.zip hs).map Prod.fst):=((Zm _ _).trans b0).map _;rw[dq (by lia)]at bx
  exact b9.sublist bx
 have d6:(L.take W).length=W:=by rw[Zh];lia
 have dT:∀ps∈(L.take W).map (fun p=>[p.1,p.2]),∀z∈ps,RB ny z:=fun ps ab z hz=>by
  obtain⟨Y,O,rfl⟩:=(aX.mp ab);have:=Ze (show(Y.1,Y.2)∈qs.zip hs from(be Y (cG O)).1)
  rcases YD.mp hz with y | y
  ·rw[y];exact(bq _ this.1).mono eh
  ·rw[aA.mp y];exact bh _ this.2
 have c0:∀ps∈(L.take W).map (fun p=>[p.1,p.2]),RB nx (ps.getD 0 0):=fun ps ab=>by
  obtain⟨Y,O,rfl⟩:=(aX.mp ab);exact bq _ (Ze (show(Y.1,Y.2)∈qs.zip hs from(be Y (cG O)).1)).1
 refine⟨_,Z,_,Z,_,Z,b7,ws,Z,SqL.of e6,fun o6 h6=>?_⟩;rw[Eb];have w7:=Ac.new (o:=.lst (ws.take W)) h6;refine⟨o6,ws.take W,Z,.inl ⟨SqL.of A9,fun o7 h7=>?_⟩⟩;have w8:=Ac.new (o:=.tup (ws.take W)) h7;have bg:=w7.trans w8
 have dm:AY K (upd (upd H6 o6 (.lst (ws.take W))) o7 (.tup (ws.take W))) (ws.take W) ((L.take W).map fun p=>[p.1,p.2]):=by
  have:=Paired.take W (AY.same ak bg)
  rwa [<- di]at this
 refine⟨o7,ws.take W,(L.take W).map fun p=>[p.1,p.2],ny,nx,Z,SqT.of A9,dm,bl,by rw[Z4];lia,an,by rw[Ph];lia,dT,c0,by lia,by lia,fun pc H8 cs s8 cC cu dC ew dt=>?_⟩
 have ek:cs=c:=Ic dC gc fun x=>MG bl an cu (by rw[Ph,d6];exact lc) (Pg bl an dt) (fun ps ab=>by
  obtain⟨Y,O,rfl⟩:=(aX.mp ab);exact(be Y (cG O)).2) x
 subst ek;have cn:=(cp.trans bg).trans s8;have co:=(dn.trans bg).trans s8;have bb:=cn _ _ bb;clear w7 w8 bg h6 h7 dm ew dt cu dC dT c0 an bl ak e6 be b0 hL cc;refine Bh ⟨_,Z,d1,Z,⟨_,SqL.of bb⟩,?_⟩;have eE:mc*(cs.length+2)<=100000*10:=cI d7 (by lia)
 have eM:(nx+1)*(cs.length+4)<=41*12:=cI (by lia) (by lia)
 refine Qv (xs:=us) (fun i vs G=>Ac H8 G/\vs.length<=i/\AD K G vs (BC (qs.take i) (hs.take i) cs)) ⟨Ac.refl _,YL _,.nil⟩ (fun i vs G _ h=>⟨SqL.of (h.1 _ _ bb),h.2.1⟩) (Yz (AS (by lia))) ?_ ?_
 ·rintro i v vs G hv ⟨sg,ei,a0⟩;obtain⟨Y,O,tt,rfl,el⟩:=(Paired.get dK hv);obtain⟨eu,d9⟩:=(cx.mp O);obtain⟨x,hx,bd⟩:=(Paired.get hZ eu);obtain⟨y,hy,eq⟩:=(Paired.get hY d9);obtain⟨rx,em,_⟩:=(id bd);have b8:=co.trans sg;refine⟨tt,Y.1,Y.2,Z,SqT.of (sg _ _ (cn _ _ el)),?_⟩;rw[em]at bd ⊢;refine⟨_,Z,_,Z,pc,rx,cs,x,mc,mc,nx,Z,cC.same sg,bd.same b8,bc,bq x (Zn hx),by lia,by lia,fun p1 G1 s1 e1 _=>?_⟩
  refine⟨_,Z,?_⟩;refine eqN (Az.of e1) ((eq.same b8).same s1) ?_;refine⟨_,Z,?_⟩;have ms:=OC (c:=cs) (by lia) hx hy
  by_cases he:Cv.ev cs x=y
  ·refine AM (by rw[decide_eq_true he];rfl) ⟨sg.trans s1,by lia,?_⟩
   rw[ms,if_pos he,Za];exact AD.same a0 s1
  ·refine Bi (by rw[decide_eq_false he];rfl) ⟨_,Z,sg.trans s1,by rw[Zo,ZF];lia,?_⟩
   rw[ms,if_neg he];exact Paired.snoc (AD.same a0 s1) ((bd.same b8).same s1)
 rintro vs G ⟨sg,ei,a0⟩ lv en;rw[eg,bj (by lia),bj (by lia)]at a0
 have w9:=Ac.new (o:=.lst vs) en;have bf:=(co.trans sg).trans w9;have eT:(BC qs hs cs).length<=12:=by lia
 refine⟨lv,vs,BC qs hs cs,nx,Z,SqL.of A9,AD.same a0 w9,fun x hx=>bq x (Qs hx),by lia,by lia,dd.same bf,fun Y H9 b6 rs m9 d4 bt e9 dA ba d8=>?_⟩
 have e0:b6.length<=e:=by rw[dA.length,ba.length_eq];exact bp
 refine⟨_,Z,Y,b6,Z,.inl (SqL.of e9),_,Z,_,_,Z,Z,_,Z,AM (decide_eq_false (by lia)) ?_⟩
 refine⟨_,Z,_,Z,P3,fun tf ef=>?_⟩;have nf:=Ac.new (o:=.tup [.str "one",.ref pc,.ref Y]) ef
 have d2:H Y=none:=by
  cases z:H Y with
  | none=>rfl
  | some o=>rw[bf _ _ z]at bt;cases bt
 exact q tf pc Y _ b6 rs (Co.trans (Ac.b bf) (Co.trans m9 nf.b)) (d4.same nf) (SqT.of A9) ((((cC.same sg).same w9).but (dd.same bf) m9).same nf) d2 (nf _ _ e9) (AD.same dA nf) ba d8
theorem GF:Ah ["numbers"] ["numbers"] (Ad (top 93)):=fsc
theorem GK{f:ad}{fd:bn}(F:Fun K "show_numbers" "show_numbers" (top 93) f fd)(Wi:Fd P w K mg base 33 "show_number" ["number"] (D7 K))(hT:P.given.tree=none) :
 Ax P w K mg base CX0 34 f fd ["numbers"] (Jp K BF):=by
 refine F.ok GF (fun vs H Q E h=>?_) (fun ab A outer s H vs Q E hr h=>?_)
 ·obtain⟨_,_,_,rfl,_⟩:=h;rfl
 refine⟨_,(Ae (Al (BA K PySem.F.plainAttrs_str PySem.F.slot_str_join PySem.F.type_str_join (D0 K) AI (A0 (Bp rfl (N:=["number"]) (nt:=1) (js:=[]) (AG.look (NX:=["numbers"]) (sc:=Ad (top 93)) rfl rfl (by decide +kernel)) (piT K (pv 0)) (fun u1 u2 J O u5=>(Ap (i:=0) (show List.Nodup (["number"]:List Str) from by decide +kernel) rfl (Or.inl rfl))) (Av (by decide)) (fun u1 u2 J O u5=>AN) (fun u1 u2 J O u5=>(Aj Wi hr rfl (A0 (pv 0) A8)))) A8)))),?_⟩
 obtain⟨r,xs,qs,rfl,hS,hn,hf,Y,q⟩:=h;have hs:=dv;have hl:=hn.length;refine⟨Z,?_⟩;refine Bh ⟨_,Z,r,Z,⟨_,hS⟩,EN (xs:=xs) (fun i zs H'=>H'=H/\zs=((qs.take i).map tx).map V.str) ⟨Z,Z⟩ (fun i zs H' hi p=>⟨by rw[p.1];exact hS,by rw[p.2,Z4,Z4,Zh];lia⟩) (by lia) ?_ ?_⟩
 ·rintro i x zs H' hx ⟨rfl,rfl⟩;obtain⟨c,hc,W⟩:=(Paired.get hn hx);refine⟨_,Z,x,c,Z,W,hf c (Zn hc),Z,?_⟩;rw[ai,hc,aj,aj];rfl
 rintro zs H' ⟨rfl,rfl⟩ p hp;rw[hl,cV];exact⟨_,p,qs.map tx,Z,Z,SqL.of A9,Cg (by show BF.length<=2;rw[Gp];decide) (fun t ht=>Yy (Ds hf t ht) (by decide)) (by rw[Z4];exact Y),q _ (Ac.new hp)⟩
theorem Io:Ah ["curve"] ["curve"] (Ad (top 94)):=fsc
theorem Iz{f:ad}{fd:bn}(F:Fun K "show_curve" "show_curve" (top 94) f fd)(Xo:Fd P w K mg base 34 "show_numbers" ["numbers"] (Jp K BF))(VY:mg "len" = none)(hT:P.given.tree=none) :
 Ax P w K mg base CX0 35 f fd ["curve"] (Jt K):=by
 refine F.ok Io (fun vs H Q E h=>?_) (fun ab A outer s H vs Q E hr h=>?_)
 ·obtain⟨_,_,rfl,_⟩:=h;rfl
 refine⟨_,(Ae (Al (Di (Ao Dk (Ak (BD K) rfl VY AE (A0 (pv 0) A8)) Ab (Ar _)) (Aj Xo hr rfl (A0 (pv 0) A8)) AI))),?_⟩;obtain⟨r,qs,rfl,⟨xs,J,O⟩,hf,W,q⟩:=h;have hl:=O.length;refine⟨_,Z,r,xs,Z,.inr J,_,_,Z,Z,_,Z,?_⟩;by_cases hq:qs=[]
 ·refine AM (by rw[decide_eq_false (show ¬((xs.length:Nat):Int) > 0 by rw[hl,hq];decide)]<;>rfl) ?_
  have e:ctx qs=Str.ofString "0":=if_pos hq;have Y:=q _ (Ac.refl _);rw[e]at Y;exact Y
 ·refine Bi (by rw[decide_eq_true (show((xs.length:Nat):Int) > 0 by have:=ae.mpr hq;lia)]<;>rfl) ⟨_,Z,r,xs,qs,Z,J,O,hf,W,fun H1 m1=>?_⟩
  have Y:=q _ m1;rw[show ctx qs=_ from if_neg hq]at Y;exact Y
theorem GD:Ah ["places"] ["places"] (Ad (top 123)):=fsc
theorem GJ{f:ad}{fd:bn}(F:Fun K "shown_behind" "shown_behind" (top 123) f fd)(Wi:Fd P w K mg base 33 "show_number" ["number"] (D7 K))(hT:P.given.tree=none) :
 Ax P w K mg base CX0 34 f fd ["places"] (PF K):=by
 refine F.ok GD (fun vs H Q E h=>?_) (fun ab A outer s H vs Q E hr h=>?_)
 ·obtain⟨_,_,_,rfl,_⟩:=h;rfl
 refine⟨_,(Ae (Al (Af AH AI (BA K PySem.F.plainAttrs_str PySem.F.slot_str_join PySem.F.type_str_join (D0 K) AI (A0 (Bp rfl (N:=["x"]) (nt:=1) (js:=[]) (AG.look (NX:=["places"]) (sc:=Ad (top 123)) rfl rfl (by decide +kernel)) (piL K (pv 0)) (fun u1 u2 u3 u4 u5=>(Ap (i:=0) (show List.Nodup (["x"]:List Str) from by decide +kernel) rfl (Or.inl rfl))) (Av (by decide)) (fun u1 u2 u3 u4 u5=>AN) (fun u1 u2 u3 u4 u5=>(Af AH AI (Aj Wi hr rfl (A0 (pv 0) A8))))) A8))))),?_⟩
 obtain⟨r,xs,qs,rfl,hS,hn,hf,Y,q⟩:=h;have hs:=dv;have hl:=hn.length;refine⟨Z,?_⟩;refine Bh ⟨_,Z,r,Z,⟨_,hS⟩,Dc (xs:=xs) (L2 H qs fun H qs i zs H'=>H'=H/\zs=((qs.take i).map fun x=>Str.ofString " " ++ tx x).map V.str) ⟨Z,Z⟩ (fun i zs H' hi p=>⟨by rw[p.1];exact hS,by rw[p.2,Z4,Z4,Zh];lia⟩) (by lia) ?_ ?_⟩
 ·rintro i x zs H' hx ⟨rfl,rfl⟩;obtain⟨c,W,J⟩:=(Paired.get hn hx);have O:=hf c (Zn W);have ak:=CF O;refine⟨_,Z,x,c,Z,J,O,_,_,Z,Z,?_,Z,?_⟩
  ·have:(Str.ofString " ").length=1:=by decide +kernel
   rw[this,hs];lia
  rw[ai,W,aj,aj];rfl
 rintro zs H' ⟨rfl,rfl⟩ p hp;rw[hl,cV];refine⟨_,p,qs.map fun x=>Str.ofString " " ++ tx x,Z,Z,SqL.of A9,Cg (by decide +kernel) (fun t ht=>?_) (by rw[Z4];exact Y),_,_,Z,Z,?_,q _ (Ac.new hp)⟩
 ·obtain⟨c,W,rfl⟩:=(aX.mp ht);have:=CF (hf c W);rw[Bs,show(Str.ofString " ").length=1 by decide +kernel]
  lia
 ·have h1:(Str.ofString ";").length=1:=by decide +kernel
  have h2:=Ej (n:=200) (ts:=qs.map fun x=>Str.ofString " " ++ tx x) (fun t ht=>by
   obtain⟨c,W,rfl⟩:=(aX.mp ht);have:=CF (hf c W);rw[Bs,show(Str.ofString " ").length=1 by decide +kernel]
   lia)
  rw[Z4]at h2;rw[h1,hs];have:qs.length*200<=100*200:=aO _ Y
  lia
theorem Fh:Ah ["points","numbers","told"] ["points","numbers"] (Ad (top 124)):=fsc
theorem JN{f:ad}{fd:bn}(F:Fun K "wrong_row" "wrong_row" (top 124) f fd)(Xp:Fd P w K mg base 33 "check_no_slopes" ["points"] (Mi K))(O:Fd P w K mg base 40 "judged" ["places","heights","width","most"] (Hl K 497))(Xq:Fd P w K mg base 35 "show_curve" ["curve"] (Jt K))(Xr:Fd P w K mg base 34 "shown_behind" ["places"] (PF K))(hT:P.given.tree=none) :
 Ax P w K mg base CX0 41 f fd ["points","numbers"] (Nj K 497):=by
 refine F.ok Fh (fun vs H Q E h=>?_) (fun b9 A outer s H vs Q E hr h=>?_)
 ·obtain⟨_,_,_,_,_,_,_,_,rfl,_⟩:=h;rfl
 refine⟨_,(Aa (K:=K) (Ca (Aj Xp hr rfl (A0 (pv 0) A8)))
  (Aa (K:=K) (Ai (i:=2) Fh.nd rfl (Or.inl rfl) (Aj O hr rfl (A0 (Bp rfl (N:=["point"]) (nt:=1) (js:=[]) (AG.look (NX:=["points","numbers","told"]) (sc:=Ad (top 124)) rfl rfl (by decide +kernel)) (piT K (pv 0)) (fun u1 u2 u3 u4 u5=>(Ap (i:=0) (show List.Nodup (["point"]:List Str) from by decide +kernel) rfl (Or.inl rfl))) (Av (by decide)) (fun u1 u2 u3 u4 u5=>AN) (fun u1 u2 u3 u4 u5=>(Ag (ixT K) (pv 0) Ab (fun u v=>rfl)))) (A0 (Bp rfl (N:=["point"]) (nt:=1) (js:=[]) (AG.look (NX:=["points","numbers","told"]) (sc:=Ad (top 124)) rfl rfl (by decide +kernel)) (piT K (pv 0)) (fun u1 u2 u3 u4 u5=>(Ap (i:=0) (show List.Nodup (["point"]:List Str) from by decide +kernel) rfl (Or.inl rfl))) (Av (by decide)) (fun u1 u2 u3 u4 u5=>AN) (fun u1 u2 u3 u4 u5=>(Ag (ixT K) (pv 0) Ab (fun u v=>rfl)))) (A0 (Ag (ixT K) (Ag (ixL K) (pv 1) Ab (fun u v=>rfl)) Ab (fun u v=>rfl)) (A0 (Ag (ixT K) (Ag (ixL K) (pv 1) Ab (fun u v=>rfl)) Ab (fun u v=>rfl)) A8))))))
  (Aa (K:=K) (Ay (K:=K) (Ao Cr (Ag (ixT K) (pv 2) Ab (fun u v=>rfl)) AI (Ar _)) (Ae (Al AI)) Au (by rfl) (by rfl))
  (Ae (Al (Af AH (Aj Xq hr rfl (A0 (Ag (ixT K) (pv 2) Ab (fun u v=>rfl)) A8)) (Aj Xr hr rfl (A0 (Ag (ixT K) (pv 2) Ab (fun u v=>rfl)) A8))))) (by rfl)) (by rfl)) (by rfl)),?_⟩
 obtain⟨r,l,xs,ys,pss,c,W,e,rfl,J,h2,hf,h8,hS,hn,b6,b8,b3,hg,bN,aP,a0,b2,q⟩:=h;have hs:=dv;have bp:=J.P.length;refine⟨_,Z,r,xs,pss,Z,J.S,J.P,h2,by lia,fun H1 s1=>?_⟩
 have an:=J.same s1;refine Bh ⟨_,Z,r,Z,⟨_,an.S⟩,EN (xs:=xs) (L2 H1 pss fun H1 pss i zs G=>G=H1/\zs.length=i/\Am H1 zs ((pss.take i).map fun ps=>ps.getD 0 0)) ⟨Z,Z,.nil⟩ (fun i zs G hi p=>⟨by rw[p.1];exact an.S,p.2.1⟩) (by lia) ?_ ?_⟩
 ·rintro i x zs G hx ⟨rfl,bt,hz⟩;obtain⟨ps,ap,a,us,r0,rfl,ab,bb,h0,bd⟩:=(Paired.get an.P hx);refine⟨_,Z,a,us,_,_,Z,Z,ab,AB (j:=0) h0,Z,by simp[bt],?_⟩
  rw[ai,ap,aj];exact Paired.snoc hz ⟨r0,Z,bd⟩
 rintro zs G ⟨rfl,bt,hz⟩ lp aC;rw[bp,cV]at hz;have s2:=s1.trans (Ac.new (o:=.lst zs) aC);have bc:=A9 (H:=G) (a:=lp) (o:=.lst zs);have aF:=Am.same hz (Ac.new (o:=.lst zs) aC);have ak:=J.same s2;generalize upd G lp (.lst zs)=H2 at s2 bc aF ak ⊢;clear hz aC an s1;refine Bh ⟨_,Z,r,Z,⟨_,ak.S⟩,EN (xs:=xs) (L3 H2 K pss fun H2 K pss i ws G=>G=H2/\ws.length=i/\AD K H2 ws ((pss.take i).map fun ps=>ps.getD 1 0)) ⟨Z,Z,.nil⟩ (fun i zs G hi p=>⟨by rw[p.1];exact ak.S,p.2.1⟩) (by lia) ?_ ?_⟩
 ·rintro i x ws G' hx ⟨rfl,bq,hw⟩;obtain⟨ps,ap,a,us,r0,rfl,ab,bb,h0,bd⟩:=(Paired.get ak.P hx);have co:=h2 ps (Zn ap);have cc:=bb.length;obtain⟨y,hy,b0⟩:=(Paired.get' bb (i:=1) (aB (show 1<ps.length by lia)))
  refine⟨_,Z,a,us,_,_,Z,Z,ab,AB (j:=1) hy,Z,by simp[bq],?_⟩
  rw[ai,ap,aj];refine Paired.snoc hw ?_;show Az K G' y (ps.getD 1 0);rw[aw,aB (show 1<ps.length by lia)]
  exact b0
 rintro ws G' ⟨rfl,bq,hw⟩ lh al;rw[bp,cV]at hw;have s3:=s2.trans (Ac.new (o:=.lst ws) al);have bg:=A9 (H:=G') (a:=lh) (o:=.lst ws);have as:=(Ac.new (o:=.lst ws) al) _ _ bc;have bh:=Am.same aF (Ac.new (o:=.lst ws) al);have bl:=AD.same hw (Ac.new (o:=.lst ws) al);generalize upd G' lh (.lst ws)=H3 at s3 bg as bh bl ⊢;clear aF hw al bc ak;have bf:=Am.same hn s3;have be:=Ac.seq s3 hS;have bm:=b2.same s3;obtain⟨rW,hW,eW⟩:=(SU bf (by decide:1<=2))
 obtain⟨rE,hE,eE⟩:=(SS bf (by decide:2<=2))
 have nW:((W:Nat):Rat).num=(W:Int):=cY W;have nE:((e:Nat):Rat).num=(e:Int):=cY e;have g8:=VL pss.length h8
 have b4:∀x∈pss.map (fun ps=>ps.getD 0 0),RB 20 x:=fun x hx=>by
  obtain⟨ps,hp,rfl⟩:=(aX.mp hx);have:=h2 ps hp;refine Ih (hf ps hp _ ?_);rw[aw,aB (by lia)]
  exact aH _
 have bB:∀x∈pss.map (fun ps=>ps.getD 1 0),RB 20 x:=fun x hx=>by
  obtain⟨ps,hp,rfl⟩:=(aX.mp hx);have:=h2 ps hp;refine Ih (hf ps hp _ ?_);rw[aw,aB (by lia)]
  exact aH _
 refine⟨_,Z,l,ys,_,_,Z,Z,be,AB (j:=0) hW,rW,_,_,_,Z,Z,SqT.of eW,Z,_,Z,l,ys,_,_,Z,Z,be,AB (j:=1) hE,rE,_,_,_,Z,Z,SqT.of eE,Z,?_⟩;refine⟨lp,lh,zs,ws,pss.map fun ps=>ps.getD 0 0,pss.map fun ps=>ps.getD 1 0,c,W,e,pss.length,20,20,20,253,by show[V.ref lp,.ref lh,.int ((W:Nat):Rat).num,.int ((e:Nat):Rat).num]=_;rw[nW,nE],SqL.of as,bh,SqL.of bg,bl,by rw[Z4],by rw[Z4],by lia,J.nd,b6,b8,b3,b4,bB,by decide,by decide,by decide,by decide,by lia,g8,bm,hg,bN,fun x hx=>Ih (aP x hx),by decide,by rw[OX pss];exact a0,fun t pc lw H4 us rs s4 bD ht b5 cu b1 ab Y ba=>?_⟩
 rw[OX pss]at Y;have b7:¬V.str (Str.ofString "one")=V.str (Str.ofString "none"):=fun z=>absurd (V.str.inj z) (by decide +kernel)
 refine⟨_,Z,t,_,_,_,Z,Z,ht,Z,Z,_,Z,?_⟩;rw[decide_eq_false b7];have bx:∀x∈rs,Fg x:=fun x hx=>Lw h2 hf x (Y.mem_iff.mp hx);have cn:=Y.length_eq
 have ca:(beh rs).length<=1+rs.length*200:=by
  unfold beh
  have h2:=Ej (n:=200) (ts:=rs.map fun x=>Str.ofString " " ++ tx x) (fun t ht=>by
   obtain⟨c,hc,rfl⟩:=(aX.mp ht);have:=CF (bx c hc);rw[Bs,show(Str.ofString " ").length=1 by decide +kernel]
   lia)
  rw[Z4]at h2;rw[Bs,show(Str.ofString ";").length=1 by decide +kernel]
  lia
 have cp:(ctx c).length<=1+c.length*125:=by
  unfold ctx
  split
  ·exact Yy (show(Str.ofString "0").length<=1 by decide +kernel) (bz ..)
  ·have:=Ea (sep:=BF) (by rw[Gp];decide) (Ds aP)
   rw[Z4]at this
   lia
 refine BP ⟨_,Z,t,_,_,_,Z,Z,ht,Z,pc,c,Z,b5,aP,by lia,fun H5 s5=>⟨_,Z,t,_,_,_,Z,Z,ht.same s5,Z,lw,us,rs,Z,SqL.of (s5 _ _ b1),AD.same ab s5,bx,by lia,fun H6 s6=>⟨_,_,Z,Z,by rw[hs];lia,?_⟩⟩⟩
 exact q rs H6 ((s3.b.trans s4).trans (s5.trans s6).b) (bD.same (s5.trans s6)) Y ba
theorem Gu:Ah ["points","x","point"] ["points","x"] (Ad (top 65)):=fsc
theorem KZ{f:ad}{fd:bn}(F:Fun K "point_at" "point_at" (top 65) f fd)(hT:P.given.tree=none) :
 Ax P w K mg base CX0 33 f fd ["points","x"] (Me K):=by
 refine F.ok Gu (fun vs H Q E h=>?_) (fun ba A outer s H vs Q E hr h=>?_)
 ·obtain⟨_,_,_,_,_,_,_,rfl,_⟩:=h;rfl
 refine⟨_,(Aa (K:=K) (B0 (K:=K) PassesOwn.never rfl (piT K (pv 0)) (Ap (i:=2) Gu.nd rfl (Or.inl rfl)) (Ae (Ay (K:=K) (Ao (eqD K hr.units) (Ag (ixT K) (pv 2) Ab (fun u v=>rfl)) (pv 1) (Ar _)) (Ae (Al (pv 2))) Au (by rfl) (by rfl))) (by rfl))
  (Ae AU) (by rfl)),?_⟩
 obtain⟨r,x,v,xs,pss,m,ps,rfl,hS,hp,a0,hm,hv,hx,q⟩:=h;refine⟨_,Z,r,Z,⟨_,hS⟩,FD (xs:=xs) (fun i σ H'=>H'=H/\i<=m/\∃z,σ=[some (.ref r),some x,z]) ⟨Z,YN _,_,Z⟩ (fun i σ H' _ h=>by rw[h.1];exact hS) ?_ ?_⟩
 ·rintro i u σ H' hu an;refine Cm an fun ab as W=>?_;refine MZ W fun z J=>?_;clear W;obtain rfl:=ab;obtain rfl:=J
  try clear an
  obtain⟨qs,ak,a,us,pp,rfl,aC,bb,aF,aP⟩:=(Paired.get hp hu);refine⟨_,Z,a,us,_,_,Z,Z,aC,AB (j:=0) aF,_,Z,?_⟩;refine eqN (Az.of aP) hx ?_;refine⟨_,Z,?_⟩;by_cases he:qs.getD 0 0=ps.getD 0 0
  ·rw[decide_eq_true he];obtain rfl:=Qn a0 ak hm he;rw[hv]at hu;cases hu;exact Ia ⟨_,Z,q⟩
  ·refine AM (by rw[decide_eq_false he]<;>rfl) ⟨Z,?_,_,Z⟩
   rcases cg i m with z | z
   ·lia
   ·obtain rfl:i=m:=by lia
    rw[hm]at ak;cases ak;exact absurd rfl he
 ·rintro σ H' ap;refine Cm ap fun O as Y=>?_;refine MZ Y fun z al=>?_;clear Y;obtain rfl:=O;obtain rfl:=al
  try clear ap
  exact absurd (YG.mp hv).1 (by lia)
theorem KD:Ah ["points","old","new"] ["points","old","new"] (Ad (top 67)):=fsc
theorem KY{f:ad}{fd:bn}(F:Fun K "replaced" "replaced" (top 67) f fd)(Wx:Fd P w K mg base 36 "points_of" ["thing"] (GQ K))(hT:P.given.tree=none) :
 Ax P w K mg base CX0 37 f fd ["points","old","new"] (EE K):=by
 refine F.ok KD (fun vs H Q E h=>?_) (fun ba A outer s H vs Q E hr h=>?_)
 ·obtain⟨_,_,_,_,_,_,_,_,rfl,_⟩:=h;rfl
 refine⟨_,(Ae (Al (Aj Wx hr rfl (A0 (Bp rfl (N:=["point","old","new"]) (nt:=1) (js:=[1,2]) (AG.look (NX:=["points","old","new"]) (sc:=Ad (top 67)) rfl rfl (by decide +kernel)) (piT K (pv 0)) (fun u1 u2 u3 u4 u5=>(Ap (i:=0) (show List.Nodup (["point","old","new"]:List Str) from by decide +kernel) rfl (Or.inl rfl))) (Av (by decide)) (fun u1 u2 u3 u4 u5=>AN) (fun u1 u2 u3 u4 u5=>(Di (Ao (eqD K hr.units) (pv 0) (pv 1) (Ar _)) (pv 2) (pv 0)))) A8)))),?_⟩
 obtain⟨r,v,y,xs,pss,m,ps,qs,rfl,hS,hp,ab,O,hm,hv,hy,h0,J,a0,ak,q⟩:=h;have hl:=hp.length;have aP:=EV O;have aC:=(YG.mp hv).1;refine Bh ⟨_,Z,r,Z,⟨_,hS⟩,?_⟩;refine EN (xs:=xs) (fun i zs H'=>H'=H/\zs=(xs.set m y).take i) ⟨Z,Z⟩ (fun i zs H' _ p=>⟨by rw[p.1];exact hS,by rw[p.2,Zh,Zz];lia⟩) (Yz (AS (by lia))) ?_ ?_
 ·rintro i u zs H' hu ⟨rfl,rfl⟩;obtain⟨us,W,al⟩:=(Paired.get hp hu);obtain⟨bb,Y,ap⟩:=(Paired.get hp hv);rw[hm]at Y;cases Y;have aF:=(YG.mp hu).1;obtain⟨a,rfl,cu⟩:=al.pt;obtain⟨b,rfl,cv⟩:=ap.pt;refine⟨_,Z,_,Z,?_⟩;refine eqT cu cv ?_;refine⟨_,Z,?_⟩;by_cases he:i=m
  ·subst he;rw[hm]at W;cases W;refine Bi (by rw[decide_eq_true rfl]<;>rfl) ⟨_,Z,Z,?_⟩
   rw[ai,YH aC];rfl
  ·refine AM (by rw[decide_eq_false (show ¬us=ps from fun z=>he (Qn ab W hm (by rw[z])))]<;>rfl) ⟨_,Z,Z,?_⟩
   rw[ai,YI (Ne.symm he),hu];rfl
 rintro zs Hq ⟨hq,rfl⟩ l as;obtain rfl:H=Hq:=hq.symm;rw[bj (by rw[Zz];lia)]
 have s1:Ac H (upd H l (.lst (xs.set m y))):=Ac.new as;refine⟨true,l,xs.set m y,pss.set m qs,Z,SqL.of A9,EK m (AY.same hp s1) (hy.same s1),S1 O J,by rw[Zz];lia,U5 hm h0 ab,ak,fun p H' s4 an _=>?_⟩
 exact q p H' (s1.trans s4) an
theorem DV:Ah ["points","x","y","old"] ["points","x","y"] (Ad (top 68)):=fsc
theorem HM{f:ad}{fd:bn}(F:Fun K "with_height" "with_height" (top 68) f fd)(Xs:Fd P w K mg base 33 "point_at" ["points","x"] (Me K))(Xt:Fd P w K mg base 37 "replaced" ["points","old","new"] (EE K))(hT:P.given.tree=none) :
 Ax P w K mg base CX0 38 f fd ["points","x","y"] (Jm K):=by
 refine F.ok DV (fun vs H Q E h=>?_) (fun aP A outer s H vs Q E hr h=>?_)
 ·obtain⟨_,_,_,_,_,_,_,_,rfl,_⟩:=h;rfl
 refine⟨_,(Aa (K:=K) (Ai (i:=3) DV.nd rfl (Or.inl rfl) (Aj Xs hr rfl (A0 (pv 0) (A0 (pv 1) A8))))
  (Ae (Al (Aj Xt hr rfl (A0 (pv 0) (A0 (pv 3) (A0 (Af (T5 K) (AO (A0 (pv 1) (A0 (pv 2) A8))) (Bz (VE K) (pv 3) (C3 Ab) C4)) A8)))))) (by rfl)),?_⟩
 obtain⟨r,px,y,xs,pss,m,ps,c,rfl,hS,hp,ak,J,hm,hx,hy,as,al,q⟩:=h;have P2:2<=bi:=by decide
 have aF:=J ps (Zn hm);obtain⟨v,hv,a,us,pp,rfl,ap,ab,a0,ba⟩:=(Paired.get' hp hm);have bb:=ab.length;refine⟨_,Z,_,Z,r,_,_,xs,pss,m,ps,Z,hS,hp,ak,hm,hv,Az.of hx,?_⟩;refine⟨_,Z,_,Z,_,Z,_,Z,P2,fun t ht=>?_⟩;have s1:Ac H (upd H t (.tup [.ref px,y])):=Ac.new ht;refine⟨_,Z,2,Z,Mp (v:=2) (ap.same s1) (by lia) fun w H2 s2 hw=>?_⟩
 have bc:(us.drop 2).length<=1:=by rw[Zx];lia
 have aC:=s1.trans s2;refine NY (SqT.of (s2 _ _ A9)) hw (Yy (show _<=300 by show 2+_<=300;lia) (by decide)) (fun n H3 s3 hn=>?_)
 have Y:=aC.trans s3;have W:PtT K H3 (.ref n) ([ps.getD 0 0,c]++ps.drop 2):=⟨n,_,px,Z,hn,.cons (Az.of (Y _ _ hx)) (.cons (hy.same Y) (E5 2 (ab.same Y))),Z,Y _ _ hx⟩;refine⟨r,_,_,xs,pss,m,ps,_,Z,hS.same Y,AY.same hp Y,ak,J,hm,hv,W,Z,by simp only[Zo,Zx,YY,aV];lia,as,al,fun p H4 s4 an=>?_⟩
 have O:=Y.trans s4;exact q p H4 _ O an (EK m (AY.same hp O) (W.same s4))
theorem Ip:Ah ["points","numbers"] ["points","numbers"] (Ad (top 111)):=fsc
theorem IC{f:ad}{fd:bn}(F:Fun K "height_row" "height_row" (top 111) f fd)(Xu:Fd P w K mg base 38 "with_height" ["points","x","y"] (Jm K))(hT:P.given.tree=none) :
 Ax P w K mg base CX0 39 f fd ["points","numbers"] (Nk K 2):=by
 refine F.ok Ip (fun vs H Q E h=>?_) (fun al A outer s H vs Q E hr h=>?_)
 ·obtain⟨_,_,_,_,_,_,_,rfl,_⟩:=h;rfl
 refine⟨_,(Ae (Al (Aj Xu hr rfl (A0 (pv 0) (A0 (Ag (ixL K) (pv 1) Ab (fun u v=>rfl)) (A0 (Ag (ixL K) (pv 1) Ab (fun u v=>rfl)) A8)))))),?_⟩;obtain⟨r,l,xs,ys,pss,ak,qs,rfl,Y,hS,hn,h1,h2,hc,q⟩:=h

 obtain⟨a,ha,ea⟩:=(SU hn (Yy (by decide) h1))
 obtain⟨b,hb,eb⟩:=(SS hn h1);cases hc with
 | @height m ps hm h0 =>
   have hp:=Y.h23 ps (Zn hm);have hl:=Od (qs:=[ps.getD 0 0,qs.getD 1 0]++ps.drop 2) hm;have e:([ps.getD 0 0,qs.getD 1 0]++ps.drop 2).length=ps.length:=by rw[Zo,Zx];show 2+_=_;lia
   rw[e]at hl;have O:=Y.h12;exact⟨_,Z,_,Z,l,_,_,_,Z,Z,hS,AB (j:=0) ha,_,Z,l,_,_,_,Z,Z,hS,AB (j:=1) hb,r,a,_,xs,pss,m,ps,qs.getD 1 0,Z,Y.S,Y.P,Y.nd,Y.h23,hm,by rw[h0];exact ea,Az.of eb,O,by lia,fun p H' W s J ab=>q p W H' s J ab⟩
theorem DY:Ah ["self","row","words","numbers"] ["self","row"] (Ad (Cb (top 130) 1)):=fsc
theorem Li{f:ad}{fd:bn}(F:Fun K "say" "Desk.say" (Cb (top 130) 1) f fd){ab:ad}(J:O4 K ab)(Xv:Fd P w K mg base 36 "numbers_of_row" ["words"] (Jw K))(bb:Fd P w K mg base 38 "misses_row" ["points","numbers"] (Jx K))(bq:Fd P w K mg base 41 "wrong_row" ["points","numbers"] (Nj K 497))(aP:Fd P w K mg base 39 "height_row" ["points","numbers"] (Nk K 2))(W3:mg "isinstance" = none)(W2:mg "str" = none)(hT:P.given.tree=none){bm:ad}{be:ad}{ak:ad}(ba:mg "height_row" = some (.ref ak)){bd:ad}{bD:ad}{Y:ad}(as:mg "CHANGES" = some (.ref Y))(aF:KDk P w K Y [(Sum.inr "put",.ref bm),(Sum.inr "take",.ref be),(Sum.inr "height",.ref ak),(Sum.inr "slope",.ref bd),(Sum.inr "noslope",.ref bD)]){bp:ad}{bg:ad}{bB:ad}{bl:ad}{bc:ad}{al:ad}(a0:mg "misses_row" = some (.ref al)){bf:ad}{bt:ad}{ap:ad}(bx:mg "wrong_row" = some (.ref ap)){bh:ad}{O:ad}(bN:mg "ANSWERS" = some (.ref O))(aC:KDk P w K O [(Sum.inr "points",.ref bp),(Sum.inr "curve",.ref bg),(Sum.inr "steps",.ref bB),(Sum.inr "at",.ref bl),(Sum.inr "slopeat",.ref bc),(Sum.inr "misses",.ref al),(Sum.inr "bounds",.ref bf),(Sum.inr "noughts",.ref bt),(Sum.inr "wrong",.ref ap),(Sum.inr "quotient",.ref bh)]) :
 Ax P w K mg base CX0 42 f fd ["self","row"] (Jv K ab 497):=by
 refine F.ok DY (fun vs H Q E h=>?_) (fun c0 A outer s H vs Q E hr h=>?_)
 ·obtain⟨_,_,_,_,_,_,_,_,rfl,_⟩:=h;rfl
 refine⟨_,(Aa (K:=K) (Ay (K:=K) (CC (C8 (Ak (OJ K) rfl W3 Bx (A0 (pv 1) (A0 (CZ (v:=.ty "str") rfl W2 CU rfl) A8))))) (Ae AU) Au (by rfl) (by rfl))
  (Aa (K:=K) (Ai (i:=2) DY.nd rfl (Or.inl rfl) (BA K PySem.F.plainAttrs_str PySem.F.slot_str_split PySem.F.type_str_split Fw (pv 1) (A0 AI A8)))
  (Aa (K:=K) (Ai (i:=3) DY.nd rfl (Or.inl rfl) (Aj Xv hr rfl (A0 (pv 2) A8)))
  (Aa (K:=K) (Ay (K:=K) (Q8 (RZ P w K (Ag (ixL K) (pv 2) Ab (fun u v=>rfl)) (C5 (v:=.ref Y) rfl as rfl)) (by with_unfolding_all rfl)) (Aa (K:=K) (Nv K (pv 0) (KP P w K mg base (CX:=CX0) (n:=39) (hr.mono (by decide)) Fp (HJ P w K (C5 (v:=.ref Y) rfl as rfl) (Ag (ixL K) (pv 2) Ab (fun u v=>rfl)) (fun u v=>rfl)) (A0 (Nz K (pv 0) rfl) (A0 (pv 3) A8))) rfl)
  (Ae (Al AI)) (by rfl)) Au (by rfl) (by rfl))
  (Ae (Al (KP P w K mg base (CX:=CX0) (n:=41) (hr.mono (by decide)) Fp (HJ P w K (C5 (v:=.ref O) rfl bN rfl) (Ag (ixL K) (pv 2) Ab (fun u v=>rfl)) (fun u v=>rfl)) (A0 (Nz K (pv 0) rfl) (A0 (pv 3) A8))))) (by rfl)) (by rfl)) (by rfl)) (by rfl)),?_⟩
 obtain⟨p,dx,r,xs,t,i,qs,pss,rfl,cp,cD,hp,cc,h1,h2,hf,hq⟩:=h;have i3:i<3:=by rcases hq with ⟨z,_⟩ | ⟨z,_⟩ | ⟨z,_⟩<;>lia
 have cn:whB qs (ls9 i)=false:=by
  rcases hq with ⟨rfl,_⟩ | ⟨rfl,c,W,e,rfl,_,_,_,hW,_⟩ | ⟨rfl,_⟩
  ·cases qs<;>rfl
  ·exact Tg W e hW
  ·cases qs<;>rfl
 refine⟨_,Z,_,_,_,_,Z,.of (.str _),QA K,true,Z,BP ?_⟩;refine⟨_,Z,Z,_,_,Z,Z,Z,cD,fun l hl=>?_⟩;rw[cp];have s1:=Ac.new (o:=.lst ((wd9 i::qs.map tx).map V.str)) hl;have el:upd H l (.lst ((wd9 i::qs.map tx).map V.str)) l=some (.lst (.str (wd9 i)::qs.map fun x=>V.str (tx x))):=by rw[A9,Z2,cy];rfl
 generalize upd H l (.lst ((wd9 i::qs.map tx).map V.str))=H1 at s1 el ⊢;refine⟨_,Z,l,i,qs,Z,SqL.of el,i3,h1,h2,hf,cn,fun nl ys H2 s2 dc en hn=>?_⟩;have b3:=s1.trans s2;have b4:=s2 _ _ el;have b5:=cc.same b3;have b6:=b3 _ _ hp
 rcases hq with ⟨rfl,ca,co,q⟩ | hq
 ·obtain⟨kvs,fa,an,dC,hv,kp,FO,BB⟩:∃kvs fa an,KDk P w K Y kvs/\D6 kvs (Sum.inr (wd9 0))=some (.ref fa)/\Z3 K (.ref fa)=true/\Ax P w K mg base CX0 39 fa an ["points","numbers"] (Nk K 2)/\Be K an ["points","numbers"] []:=by
   refine Cj aP.ex fun _ _ b2=>?_;refine Ep b2 fun FO B kp m=>?_;clear b2;cases ba.symm.trans m;exact⟨_,_,_,aF,Z,kp,Ax.up FO (by decide),B⟩
  refine⟨⟨_,Z,l,_,_,_,Z,Z,SqL.of b4,AB (j:=0) rfl,Y,kvs,Sum.inr (wd9 0),Z,dC,Z,_,Z,?_⟩⟩;rw[hv];refine Ia ?_;refine⟨⟨_,Z,l,_,_,_,Z,Z,SqL.of b4,AB (j:=0) rfl,Y,kvs,Sum.inr (wd9 0),_,Z,dC,Z,hv,fa,an,Z,kp,_,Z,p,ab,dx,_,_,Z,b6,J.cl,J.na_points,Z,_,Z,_,_,FO,BB,r,nl,xs,ys,pss,ca,qs,Z,b5,SqL.of en,hn,h1,h2,co,fun r' cu H3 s3 hr hx=>?_⟩⟩;have b7:=s3 _ _ b6;refine⟨_,Z,p,ab,dx,_,Z,b7,J.cl,J.na_points,(by show 1<1000;decide),?_⟩
  have cN:=b3.trans s3;refine q r' cu _ (fun b o hb e=>by rw[Aq hb];exact cN _ _ e) ?_ (SqT.but hr b7) (AY.but hx b7)
  rw[A9];rfl
 obtain⟨kvs,dC,hv⟩:∃kvs,KDk P w K Y kvs/\D6 kvs (Sum.inr (wd9 i))=none:=by
  rcases hq with ⟨rfl,_⟩ | ⟨rfl,_⟩<;>exact⟨_,aF,Z⟩
 refine⟨⟨_,Z,l,_,_,_,Z,Z,SqL.of b4,AB (j:=0) rfl,Y,kvs,Sum.inr (wd9 i),Z,dC,Z,_,Z,?_⟩⟩;rw[hv];refine BP ?_
 rcases hq with ⟨rfl,c,W,e,rfl,q1,q2,q3,q4,q5,q6,q7,q8,q9,cv,cC,q⟩ | ⟨rfl,q1,q2,q3,q⟩
 ·obtain⟨b9,fa,an,dA,b8,kp,FO,BB⟩:∃kvs fa an,KDk P w K O kvs/\D6 kvs (Sum.inr (wd9 1))=some (.ref fa)/\Z3 K (.ref fa)=true/\Ax P w K mg base CX0 41 fa an ["points","numbers"] (Nj K 497)/\Be K an ["points","numbers"] []:=by
   refine Cj bq.ex fun _ _ b1=>?_;refine Ep b1 fun FO B kp m=>?_;clear b1;cases bx.symm.trans m;exact⟨_,_,_,aC,Z,kp,Ax.up FO (by decide),B⟩
  exact⟨⟨_,Z,l,_,_,_,Z,Z,SqL.of b4,AB (j:=0) rfl,O,b9,Sum.inr (wd9 1),_,Z,dA,Z,b8,fa,an,Z,kp,_,Z,p,ab,dx,_,_,Z,b6,J.cl,J.na_points,Z,_,Z,_,_,FO,BB,r,nl,xs,ys,pss,c,W,e,Z,b5,q1,q2,q3,SqL.of en,hn,q4,q5,q6,q7,q8,q9,cv,cC.same b3,fun rs H3 s3=>q rs H3 (b3.b.trans s3)⟩⟩
 ·obtain⟨b9,fa,an,dA,b8,kp,FO,BB⟩:∃kvs fa an,KDk P w K O kvs/\D6 kvs (Sum.inr (wd9 2))=some (.ref fa)/\Z3 K (.ref fa)=true/\Ax P w K mg base CX0 41 fa an ["points","numbers"] (Jx K)/\Be K an ["points","numbers"] []:=by
   refine Cj bb.ex fun _ _ b0=>?_;refine Ep b0 fun FO B kp m=>?_;clear b0;cases a0.symm.trans m;exact⟨_,_,_,aC,Z,kp,Ax.up FO (by decide),B⟩
  exact⟨⟨_,Z,l,_,_,_,Z,Z,SqL.of b4,AB (j:=0) rfl,O,b9,Sum.inr (wd9 2),_,Z,dA,Z,b8,fa,an,Z,kp,_,Z,p,ab,dx,_,_,Z,b6,J.cl,J.na_points,Z,_,Z,_,_,FO,BB,r,nl,xs,ys,pss,qs,Z,b5,q1,q2,SqL.of en,hn,q3,h2,hf,fun H3 s3=>q H3 (b3.trans s3)⟩⟩
theorem Cs:Ah ["_law_script","_law_pen_here","_law_curve","_law_most","_law_places","_law_points","_law_desk","_law_wrong","_law_row","_law_x","_law_more","_law_due"] ["_law_script"] (Ad (top 145)):=fsc
theorem U3{f:ad}{fd:bn}(F:Fun K "law" "law" (top 145) f fd){O:ad}(aC:O4 K O)(Xw:Fd P w K mg base 33 "_law_pen" ["_law_script","_law_k"] (Px K))(W5:Fd P w K mg base 33 "_law_draw" ["_law_pen_here","_law_many"] (Jy))(Xx:Fd P w K mg base 35 "_law_few" ["_law_pen_here","_law_many"] (Py K))(Xy:Fd P w K mg base 34 "_law_points_text" ["_law_points"] (Hh K))(We:Fd P w K mg base 34 "_law_plus" ["_law_a","_law_b"] (DU K (· + ·)))(Xz:Fd P w K mg base 34 "_law_misses" ["_law_places"] (Mj K))(WE:Fd P w K mg base 35 "_law_at" ["_law_curve","_law_x"] (PH K))(Wj:Fd P w K mg base 34 "_law_texts" ["_law_numbers"] (Hf K BF))(Wa:Fd P w K mg base 33 "_law_text" ["_law_number"] (D7 K))(XA:Fd P w K mg base 34 "_law_rising" ["_law_places"] (Md K))(XB:FdI CX0 P w K mg base 38 O "Desk" ["self","text"] (GS K O))(Wk:FdM CX0 P w K mg base 42 O "say" ["self","row"] (Jv K O 497))(W0:mg "tuple" = none)(W2:mg "str" = none)(VY:mg "len" = none)(VZ:mg "range" = none)(hT:P.given.tree=none) :
 Ax P w K mg base CX0 43 f fd ["_law_script"] (Hk K 497):=by
 refine F.ok Cs (fun vs H Q E h=>?_) (fun gM A outer s H vs Q E hr h=>?_)
 ·obtain⟨_,_,rfl,_⟩:=h;rfl
 refine⟨_,(Aa (K:=K) (Ai (i:=1) Cs.nd rfl (Or.inr rfl) (Aj Xw hr rfl (A0 (pv 0) (A0 Ab A8))))
  (Aa (K:=K) (Ai (i:=2) Cs.nd rfl (Or.inr rfl) (Af (T5 K) (AQ (FK K) rfl W0 Ck (A0 (Bp rfl (N:=["_law_k","_law_pen_here"]) (nt:=1) (js:=[1]) (AG.look (NX:=["_law_script","_law_pen_here","_law_curve","_law_most","_law_places","_law_points","_law_desk","_law_wrong","_law_row","_law_x","_law_more","_law_due"]) (sc:=Ad (top 145)) rfl rfl (by decide +kernel)) (Cf rfl VZ (A0 (Aj W5 hr rfl (A0 (pv 1) (A0 Ab A8))) A8)) (fun u1 u2 u3 u4 u5=>(Ap (i:=0) (show List.Nodup (["_law_k","_law_pen_here"]:List Str) from by decide +kernel) rfl (Or.inl rfl))) (Av (by decide)) (fun u1 u2 u3 u4 u5=>AN) (fun u1 u2 u3 u4 u5=>(AO (A0 (Af Bj (Aj W5 hr rfl (A0 (pv 1) (A0 Ab A8))) Ab) (A0 Ab A8))))) A8)) (AO (A0 (AO (A0 (Af AV Ab (Aj W5 hr rfl (A0 (pv 1) (A0 Ab A8)))) (A0 Ab A8))) A8))))
  (Aa (K:=K) (Ai (i:=3) Cs.nd rfl (Or.inl rfl) (Aj W5 hr rfl (A0 (pv 1) (A0 Ab A8))))
  (Aa (K:=K) (Ai (i:=4) Cs.nd rfl (Or.inl rfl) (Aj Xx hr rfl (A0 (pv 1) (A0 (Af AV (Af AV (Ak (BD K) rfl VY AE (A0 (pv 2) A8)) (Af Aw Ab (pv 3))) (Aj W5 hr rfl (A0 (pv 1) (A0 Ab A8)))) A8))))
  (Aa (K:=K) (Nu (i:=5) rfl Cs.nd rfl rfl (N:=["_law_x","_law_curve"]) (nt:=1) (js:=[2]) (AG.look (NX:=["_law_script","_law_pen_here","_law_curve","_law_most","_law_places","_law_points","_law_desk","_law_wrong","_law_row","_law_x","_law_more","_law_due"]) (sc:=Ad (top 145)) rfl rfl (by decide +kernel)) (piL K (pv 4)) (fun u1 u2 u3 u4 u5=>(Ap (i:=0) (show List.Nodup (["_law_x","_law_curve"]:List Str) from by decide +kernel) rfl (Or.inl rfl))) (Av (by decide)) (fun u1 u2 u3 u4 u5=>AN) (fun u1 u2 u3 u4 u5=>(AO (A0 (pv 0) (A0 (Aj WE hr rfl (A0 (pv 1) (A0 (pv 0) A8))) A8)))) rfl)
  (Aa (K:=K) (Ai (i:=6) Cs.nd rfl (Or.inl rfl) (Qc XB hr rfl Fp (A0 (Aj Xy hr rfl (A0 (pv 5) A8)) A8)))
  (Aa (K:=K) (Ai (i:=7) Cs.nd rfl (Or.inr rfl) (Bz (slL K) (Bp rfl (N:=["_law_x","_law_pen_here"]) (nt:=1) (js:=[1]) (AG.look (NX:=["_law_script","_law_pen_here","_law_curve","_law_most","_law_places","_law_points","_law_desk","_law_wrong","_law_row","_law_x","_law_more","_law_due"]) (sc:=Ad (top 145)) rfl rfl (by decide +kernel)) (piL K (pv 4)) (fun u1 u2 u3 u4 u5=>(Ap (i:=0) (show List.Nodup (["_law_x","_law_pen_here"]:List Str) from by decide +kernel) rfl (Or.inl rfl))) (Av (by decide)) (fun u1 u2 u3 u4 u5=>Fn (Ao Cr (Aj W5 hr rfl (A0 (pv 1) (A0 Ab A8))) Ab (Ar _))) (fun u1 u2 u3 u4 u5=>(pv 0))) C4 (C3 (pv 3))))
  (Aa (K:=K) (Ai (i:=8) Cs.nd rfl (Or.inl rfl) (Af AH (Af AH (Af AH AI (AQ Bg rfl W2 CU (A0 (Ak (BD K) rfl VY AE (A0 (pv 2) A8)) A8))) AI) (AQ Bg rfl W2 CU (A0 (pv 3) A8))))
  (Aa (K:=K) (B0 (K:=K) PassesOwn.never rfl (piL K (pv 7)) (Ap (i:=9) Cs.nd rfl (Or.inl rfl)) (Aa (K:=K) (Ai (i:=10) Cs.nd rfl (Or.inl rfl) (Aj We hr rfl (A0 (Aj WE hr rfl (A0 (pv 2) (A0 (pv 9) A8))) (A0 (AO (A0 (Af AV Ab (Aj W5 hr rfl (A0 (pv 1) (A0 Ab A8)))) (A0 Ab A8))) A8))))
  (Ae (Ay (K:=K) (Ao Dj (E4 (pv 6) aC.cl Wk hr Fp (A0 (Af AH AI (Aj Wj hr rfl (A0 (Bu (A0 (pv 9) (A0 (pv 10) A8))) A8))) A8)) AI (Ar _)) (Ae (Al Fo)) Au (by rfl) (by rfl))) (by rfl)) (by rfl))
  (Aa (K:=K) (Ai (i:=11) Cs.nd rfl (Or.inl rfl) (Af AH (Af AH (Aj Wj hr rfl (A0 (pv 2) A8)) AI) (BA K PySem.F.plainAttrs_str PySem.F.slot_str_join PySem.F.type_str_join (D0 K) AI (A0 (Bp rfl (N:=["_law_x"]) (nt:=1) (js:=[]) (AG.look (NX:=["_law_script","_law_pen_here","_law_curve","_law_most","_law_places","_law_points","_law_desk","_law_wrong","_law_row","_law_x","_law_more","_law_due"]) (sc:=Ad (top 145)) rfl rfl (by decide +kernel)) (piL K (Aj XA hr rfl (A0 (pv 7) A8))) (fun u1 u2 u3 u4 u5=>(Ap (i:=0) (show List.Nodup (["_law_x"]:List Str) from by decide +kernel) rfl (Or.inl rfl))) (Av (by decide)) (fun u1 u2 u3 u4 u5=>AN) (fun u1 u2 u3 u4 u5=>(Af AH AI (Aj Wa hr rfl (A0 (pv 0) A8))))) A8))))
  (Aa (K:=K) (Ay (K:=K) (Ao Dj (E4 (pv 6) aC.cl Wk hr Fp (A0 (pv 8) A8)) (pv 11) (Ar _)) (Ae (Al Fo)) Au (by rfl) (by rfl))
  (Aa (K:=K) (Ay (K:=K) (Ao Dj (E4 (pv 6) aC.cl Wk hr Fp (A0 (Af AH AI (Aj Wj hr rfl (A0 (pv 2) A8))) A8)) (Aj Xz hr rfl (A0 (Bp rfl (N:=["_law_x","_law_wrong"]) (nt:=1) (js:=[7]) (AG.look (NX:=["_law_script","_law_pen_here","_law_curve","_law_most","_law_places","_law_points","_law_desk","_law_wrong","_law_row","_law_x","_law_more","_law_due"]) (sc:=Ad (top 145)) rfl rfl (by decide +kernel)) (piL K (pv 4)) (fun u1 u2 u3 u4 u5=>(Ap (i:=0) (show List.Nodup (["_law_x","_law_wrong"]:List Str) from by decide +kernel) rfl (Or.inl rfl))) (Av (by decide)) (fun u1 u2 u3 u4 u5=>Fn (Ao (inD K hr) (pv 0) (pv 1) (by with_unfolding_all rfl))) (fun u1 u2 u3 u4 u5=>(pv 0))) A8)) (Ar _)) (Ae (Al Fo)) Au (by rfl) (by rfl))
  (Aa (K:=K) (B0 (K:=K) PassesOwn.never rfl (piL K (pv 7)) (Ap (i:=9) Cs.nd rfl (Or.inl rfl)) (Ae (Ay (K:=K) (Ao Dj (E4 (pv 6) aC.cl Wk hr Fp (A0 (Af AH AI (Aj Wj hr rfl (A0 (Bu (A0 (pv 9) (A0 (Aj WE hr rfl (A0 (pv 2) (A0 (pv 9) A8))) A8))) A8))) A8)) AI (Ar _)) (Ae (Al Fo)) Au (by rfl) (by rfl))) (by rfl))
  (Ae (Al (CY Cr (E4 (pv 6) aC.cl Wk hr Fp (A0 (pv 8) A8)) (Af AH (Aj Wj hr rfl (A0 (pv 2) A8)) AI) (Ar _)))) (by rfl)) (by rfl)) (by rfl)) (by rfl)) (by rfl)) (by rfl)) (by rfl)) (by rfl)) (by rfl)) (by rfl)) (by rfl)) (by rfl)) (by rfl)),?_⟩
 obtain⟨a0,ns,rfl,hS,gy,gp,q⟩:=h;have hs:=dv;have P0:0<=bi:=by decide
 have P1:1<=bi:=by decide
 have P2:2<=bi:=by decide
 refine⟨_,Z,a0,ns,0,Z,hS,gy,by decide,by decide,fun p c0 c1 hp=>?_⟩
 have pn:Pen (upd H p (.lst [.int c0,.int c1,.int 0])) p:=.put;have tb:(upd H p (.lst [.int c0,.int c1,.int 0])) 497=some (.tbl #[]):=(Ac.new hp) _ _ gp;generalize upd H p (.lst [.int c0,.int c1,.int 0])=H1 at pn tb ⊢;clear hS hp gp;refine Bh ⟨_,Z,p,3,Z,pn,by decide,by decide,fun d H2 d0 d1 o2 p2=>?_⟩
 obtain⟨N,rfl⟩:∃N:Nat,d=(N:Int):=⟨d.toNat,by lia⟩
 have tb:=GZ tb pn o2.mv;refine⟨_,Z,by lia,by lia,?_⟩
 refine MR (n:=N) (L2 p H2 fun p H2 i zs G=>Mv p H2 G/\Pen G p/\zs.length=i/\∃cs:List Int,Am G zs (cs.map fun z:Int=>(z:Rat))/\∀c∈cs,-4<=c/\c<=4) ⟨Mv.refl _ _,p2,Z,[],.nil,(fun _ h=>nomatch h)⟩ (fun i ys G _ h=>h.2.2.1) (by lia) ?_ ?_
 ·rintro i zs G hi fY;obtain⟨mg,pg,ca,cs,aP,en⟩:=fY
  try clear fY
  refine⟨_,Z,p,9,Z,pg,by decide,by decide,fun v G1 v0 v1 og gw=>⟨_,_,Z,Z,P2,fun t ht=>?_⟩⟩
  have nt:=Ac.new (o:=.tup [.int (v-4),.int 1]) ht;refine⟨(mg.trans og.mv).trans nt.mv,gw.sm nt,by simp[ca],cs++[v-4],?_,fun c hc=>?_⟩
  ·rw[aj];exact Paired.snoc (Am.same (Am.mv aP pg og.mv) nt) ⟨t,Z,by rw[MK];exact A9⟩
  ·rcases YE.mp hc with z | z
   ·exact en c z
   ·rw[aA.mp z];lia
 rintro zs G gc cl dt;obtain⟨mg,pg,ca,cs,aP,en⟩:=gc
 try clear gc
 have tb:=GZ tb p2 mg;have Y:=Ac.new (o:=.lst zs) dt;have aP:=Am.same aP Y;have pg:=pg.sm Y;have tb:=Y _ _ tb;have eL:=A9 (H:=G) (a:=cl) (o:=.lst zs);generalize upd G cl (.lst zs)=G1 at aP pg tb eL ⊢;clear mg Y dt;refine⟨cl,zs,Z,.inl ⟨SqL.of eL,fun ct ga=>?_⟩⟩;have n2:=Ac.new (o:=.tup zs) ga;have aP:=Am.same aP n2;have pg:=pg.sm n2;have tb:=n2 _ _ tb;have b0:=A9 (H:=G1) (a:=ct) (o:=.tup zs);generalize upd G1 ct (.tup zs)=G2 at aP pg tb b0 ⊢;clear n2 ga eL;refine⟨_,Z,p,4,Z,pg,by decide,by decide,fun v G3 v0 v1 o3 p3=>⟨_,_,Z,Z,P2,fun t1 gu=>⟨P1,fun t2 f4=>?_⟩⟩⟩
 have Y:=(Ac.new (o:=.tup [.int (1+v),.int 1]) gu).trans (Ac.new (o:=.tup [.ref t1]) f4);have tb:=Y _ _ (GZ tb pg o3.mv);have gI:ct≠p:=pg.ne b0 fun _ _ _ z=>by cases z
 have b0:=Y _ _ (o3.mv _ _ gI b0);have aP:=Am.same (Am.mv aP pg o3.mv) Y;have p3:=p3.sm Y;have e1:=(Ac.new (o:=.tup [.ref t1]) f4) _ _ (A9 (H:=G3) (a:=t1) (o:=.tup [.int (1+v),.int 1]));have e2:=A9 (H:=upd G3 t1 (.tup [.int (1+v),.int 1])) (a:=t2) (o:=.tup [.ref t1]);generalize upd (upd G3 t1 (.tup [.int (1+v),.int 1])) t2 (.tup [.ref t1])=G4 at tb b0 aP p3 e1 e2 ⊢;clear Y;have f8:=aP.length;rw[Z4]at f8;refine NY (SqT.of b0) (SqT.of e2) (Yz (AS (by rw[ZF];lia))) fun cv H4 s4 ap=>?_
 have ab:Am H4 (zs++[.ref t1]) ((cs++[1+v]).map fun z:Int=>(z:Rat)):=by
  rw[aj];exact Paired.snoc (Am.same aP s4) ⟨t1,Z,by rw[MK];exact s4 _ _ e1⟩
 have tb:=s4 _ _ tb;have p4:=p3.sm s4
 have bd:∀c∈cs++[1+v],-4<=c/\c<=4:=fun c hc=>by
  rcases YE.mp hc with z | z
  ·exact en c z
  ·rw[aA.mp z];lia
 have dt:(cs++[1+v]).length=N+1:=by rw[Zo,ZF];lia
 have bg:(cs++[1+v])[(cs++[1+v]).length-1]? = some (1+v):=by rw[Zo,ZF,cj,Zi (YL _),bo];rfl
 have eM:(1:Int)+v≠0:=by lia
 generalize cs++[1+v]=ks at ab bd dt bg;generalize 1+v=kv at bg eM;generalize zs++[V.ref t1]=al at ap ab;clear aP b0 e1 e2 s4 p3 en f8 ca;refine⟨_,Z,p,3,Z,p4,by decide,by decide,fun d2 H5 e0 e1 o5 p5=>?_⟩
 obtain⟨M,rfl⟩:∃M:Nat,d2=(M:Int):=⟨d2.toNat,by lia⟩
 have tb:=GZ tb p4 o5.mv;have ap:=SqT.mv ap p4 o5.mv;have ab:=Am.mv ab p4 o5.mv;have eh:=ab.length;rw[Z4]at eh;refine⟨_,Z,_,Z,cv,_,Z,.inr ap,_,Z,_,_,Z,Z,.inl ⟨by decide,by decide⟩,_,_,Z,Z,_,Z,p,2,Z,p5,by decide,by decide,fun w2 H6 w0 w1 o6 p6=>⟨_,_,Z,Z,p,_,Z,p6,by lia,by lia,fun l H7 pz qs m7 p7 hl el hz gF bc dA=>?_⟩⟩
 have mm:=o6.mv.trans m7;have tb:=GZ tb p5 mm;have ap:=SqT.mv ap p5 mm;have ab:=Am.mv ab p5 mm;have lp:l≠p:=p6.ne' hl;obtain⟨c,hc⟩:∃c:List Rat,c=ks.map fun z:Int=>(z:Rat):=⟨_,Z⟩;rw[<- hc]at ab;have ek:c.length=N+1:=by rw[hc,Z4,dt]
 have e3:∀x∈c,RB 8 x:=fun x hx=>by
  rw[hc]at hx;obtain⟨z,hz,rfl⟩:=(aX.mp hx);have:=bd z hz;exact⟨by rw[cM];unfold Bd;lia,by rw[cO];unfold Bd;decide⟩
 have eP:=hz.length;refine Bh ⟨_,Z,l,Z,⟨_,SqL.of el⟩,Dc (xs:=pz) (L4 H7 K qs c fun H7 K qs c i zs G=>Ac H7 G/\zs.length=i/\Pts K G zs ((qs.take i).map fun x=>[x,Cv.ev c x])) ⟨Ac.refl _,Z,.nil⟩ (fun i zs G _ h=>⟨SqL.of (h.1 _ _ el),h.2.1⟩) (by lia) ?_ ?_⟩
 ·rintro i v zs G hv ⟨sg,ca,bp⟩;obtain⟨x,hx,rx,rfl,as⟩:=(Paired.get hz hv);have ba:=dA x (Zn hx);have gz:(8+8*c.length+4)*(c.length+2)<=36*5:=cI (by lia) (by lia)
  refine⟨_,Z,_,Z,_,Z,false,cv,rx,al,c,x,8,8,Z,ap.same sg,Am.nums (Am.same ab sg),Az.of (sg _ _ as),e3,Kz ba,by lia,fun y G1 s1 ey _=>⟨P2,fun t ht=>?_⟩⟩
  have Y:=Ac.new (o:=.tup [.ref rx,.ref y]) ht;have s2:=(sg.trans s1).trans Y;refine⟨s2,by simp[ca],?_⟩
  rw[ai,hx,aj];exact Paired.snoc (Pts.same bp (s1.trans Y)) ⟨t,Z,_,SqT.of A9,.cons (Az.of (s2 _ _ as)) (.cons (Az.of (Y _ _ ey)) .nil)⟩
 rintro zs G ⟨sg,ca,bp⟩ bh eD;rw[eP,cV]at bp;have Y:=Ac.new (o:=.lst zs) eD;have sA:=sg.trans Y;have bp:=Pts.same bp Y;have eg:=A9 (H:=G) (a:=bh) (o:=.lst zs);generalize upd G bh (.lst zs)=H8 at sA bp eg ⊢;clear Y sg eD ca;have tb:=sA _ _ tb;have ap:=ap.same sA;have ab:=Am.same ab sA;have p8:=p7.sm sA;have el:=sA _ _ el;have hz:=Am.same hz sA
 have eS:∀x,Sm x->Fg (Cv.ev c x):=fun x hx=>by
  have:=T2 (ks:=ks) (j:=0) (by lia) (by lia) bd hx (by decide)
  rw[<- hc]at this;rw[show((0:Nat):Rat)=0 from rfl]at this
  grind
 have bD:∀x,Sm x->Fg x:=fun x hx=>⟨ZI hx.1 (by decide),ZI hx.2 (by decide)⟩
 have gS:qs.length=N+1+2*M+w2.toNat:=by rw[gF];lia
 have er:∀ps∈qs.map (fun x=>[x,Cv.ev c x]),ps.length=2:=fun ps h=>by
  obtain⟨x,_,rfl⟩:=aX.mp h;rfl
 have dT:P23 (qs.map fun x=>[x,Cv.ev c x]):=fun ps h=>.inl (er ps h)
 have ew:∀ps∈qs.map (fun x=>[x,Cv.ev c x]),∀y∈ps,Fg y:=fun ps h y hy=>by
  obtain⟨x,hx,rfl⟩:=(aX.mp h);have hs:=dA x hx
  rcases YD.mp hy with z | z
  ·rw[z];exact bD x hs
  ·rw[aA.mp z];exact eS x hs
 have f9:(AA (qs.map fun x=>[x,Cv.ev c x])).length<=12:=by rw[GY (n:=1) er,Z4];lia
 have go:((qs.map fun x=>[x,Cv.ev c x]).map fun ps=>ps.getD 0 0).Nodup:=by rw[pt0];exact bc
 refine⟨_,Z,bh,zs,_,Z,SqL.of eg,bp,dT,ew,by rw[Z4];lia,fun H9 s9=>?_⟩
 intro o dx ho gf gD;have sd:Ac H9 (upd (upd H9 dx (.own o)) o (.ins O dx [])):=fun b u e=>by rw[Aq (As e ho),Aq (As e gf)];exact e
 refine⟨o,dx,qs.map fun x=>[x,Cv.ev c x],Z,A9,by rw[Z4];lia,dT,ew,go,f9,fun r xs G1 bt ed an=>⟨Z,?_⟩⟩
 have sB:Ac H8 G1:=fun b u e=>bt b u (As (s9 _ _ e) ho) (sd _ _ (s9 _ _ e));have tb:=sB _ _ tb;have ap:=ap.same sB;have ab:=Am.same ab sB;have p9:=p8.sm sB;have el:=sB _ _ el;have hz:=Am.same hz sB;clear sB bt sd ho gf gD s9 eg bp sA;refine Bh ⟨_,Z,l,Z,⟨_,SqL.of el⟩,?_⟩;refine K6 (xs:=pz) (L3 p G1 qs fun p G1 qs j ws W=>Mv p G1 W/\Pen W p/\ws.length<=j/\∃rs,Am W ws rs/\rs.Sublist (qs.take j)) ⟨Mv.refl _ _,p9,YL _,[],.nil,List.nil_sublist _⟩ (fun j ws W _ h=>⟨SqL.of (h.1 _ _ lp el),h.2.2.1⟩) (by lia) ?_ ?_
 ·rintro j u ws W hu gr;obtain⟨mw,pw,ei,rs,ez,J⟩:=gr
  try clear gr
  obtain⟨x,hx,rx,rfl,as⟩:=(Paired.get hz hu);refine⟨_,Z,p,3,Z,pw,by decide,by decide,fun d W1 d0 d1 ow f5=>⟨Z,_,Z,?_⟩⟩
  have m1:=mw.trans ow.mv;have eB:=Am.mv ez pw ow.mv;refine MU (fun _=>?_) (fun _=>?_)
  ·refine⟨_,Z,m1,f5,by rw[Zo,ZF];lia,rs++[x],Paired.snoc eB ⟨rx,Z,m1 _ _ (p9.ne as fun _ _ _ z=>by cases z) as⟩,?_⟩
   rw[ai,hx];exact J.append (List.Sublist.refl _)
  ·refine⟨m1,f5,by lia,rs,eB,?_⟩
   rw[ai];exact J.trans (List.sublist_append_left ..)
 rintro ws W gl lw gq;obtain⟨mw,pw,ei,rs,ez,J⟩:=gl
 try clear gl
 rw[eP,cV]at J;refine⟨_,Z,_,Z,lw,ws,Z,SqL.of A9,fun lq fX=>?_⟩;rw[Eb];have Y:=Ac.new (o:=.lst ws) gq;have n2:=Ac.new (o:=.lst (ws.take M)) fX;have gH:lq≠p:=(pw.sm Y).ne' fX;have tb:=n2 _ _ (Y _ _ (GZ tb p9 mw));have ap:=((SqT.mv ap p9 mw).same Y).same n2;have ab:=Am.same (Am.same (Am.mv ab p9 mw) Y) n2;have el:=n2 _ _ (Y _ _ (mw _ _ lp el));have hz:=Am.same (Am.same (Am.mv hz p9 mw) Y) n2;have ed:=n2 _ _ (Y _ _ (mw _ _ (p9.ne ed fun _ _ _ z=>by cases z) ed))
 have an:=((an.mv p9 mw).same Y).same n2;have pw:=(pw.sm Y).sm n2;have dn:=Am.same (Am.same (Paired.take M ez) Y) n2;have eo:=A9 (H:=upd W lw (.lst ws)) (a:=lq) (o:=.lst (ws.take M));have J:(rs.take M).Sublist qs:=(Zm ..).trans J;have f2:(rs.take M).length<=M:=by rw[Zh];lia
 generalize upd (upd W lw (.lst ws)) lq (.lst (ws.take M))=W1 at tb ap ab el hz ed an pw dn eo ⊢;generalize rs.take M=wr at dn J f2;generalize ws.take M=wv at dn eo;clear Y n2 gq fX mw ez ei p9;have eh:=ab.length;obtain⟨r1,r2,r3⟩:=(RK (N+1) (by lia) M (by lia))
 have l6:(Str.ofString "wrong ").length=6:=by decide +kernel
 have l1:(Str.ofString " ").length=1:=by decide +kernel
 have cN:al.length=N+1:=by rw[eh,ek]
 have e6:∀n,n<4->(((n:Nat):Int)).natAbs.log2<1920:=by decide
 have eR:Str.ofString "wrong " ++ Str.ofString (toString ((al.length:Nat):Int))++Str.ofString " " ++ Str.ofString (toString ((M:Nat):Int))=RL (N+1) M:=by rw[cN];rfl
 have q1:(Str.ofString "wrong ").length+(Str.ofString (toString ((al.length:Nat):Int))).length<=bi:=by rw[cN,hs];lia
 have q2:(Str.ofString "wrong " ++ Str.ofString (toString ((al.length:Nat):Int))).length+(Str.ofString " ").length<=bi:=by rw[Bs,cN,hs];lia
 have q3:(Str.ofString "wrong " ++ Str.ofString (toString ((al.length:Nat):Int))++Str.ofString " ").length+(Str.ofString (toString ((M:Nat):Int))).length<=bi:=by rw[Bs,Bs,cN,hs];lia
 refine⟨_,Z,cv,_,Z,.inr ap,_,Z,e6 _ (by lia),_,_,Z,Z,q1,_,_,Z,Z,q2,_,Z,_,Z,e6 _ (by lia),_,_,Z,Z,q3,?_⟩
 rw[eR];have fe:=Mu (N+1) (by lia) M (by lia)
 generalize RL (N+1) M=RW at r1 fe ⊢;clear q1 q2 q3 eR r2 r3 l6 e6;have b9:B9 K 497 p l lq cv pz wv al qs wr c W1:=⟨pw,Uz tb,ap,ab,lp,el,hz,gH,eo,dn⟩;have e9:∀x∈wr,x∈qs:=fun x hx=>J.subset hx;have ei:=dn.length;clear tb ap ab el hz pw dn;have f3:(2:Nat)<=3:=by decide
 have f1:(1:Nat)<=2:=by decide
 have bB:(2:Nat)<=2:=by decide
 have eH:(2:Nat)<=100:=by decide
 have d9:D9 K O dx o qs c [] W1:=⟨r,xs,_,ed,an,er,ew,pt0,fun ps hp=>⟨fun _=>List.not_mem_nil,fun _=>by obtain⟨x,_,rfl⟩:=aX.mp hp;rfl⟩⟩
 have gb:1<=qs.length:=by lia
 have gP:qs.length<=8:=by lia
 have gk:c≠[]:=fun z=>by rw[z]at ek;cases ek
 have fW:De c:=by rw[hc];exact strip_last bg eM
 have bb:∀x∈c,Fg x:=fun x hx=>by
  rw[hc]at hx;obtain⟨z,hz,rfl⟩:=(aX.mp hx);have:=bd z hz;exact⟨by rw[cM];lia,by rw[cO];decide⟩
 have gE:wr.Nodup:=J.nodup bc;have gB:∀(x:Rat) (j:Nat),Sm x->j<=5->Fg (Cv.ev c x+(j:Rat)):=fun x j hx hj=>by rw[hc];exact T2 (by lia) (by lia) bd hx hj
 have bm:c.length<=3:=by lia
 have l7:(Str.ofString "height ").length=7:=by decide +kernel
 have l8:(Str.ofString "misses ").length=7:=by decide +kernel
 have gz:(8+8*c.length+4)*(c.length+2)<=36*5:=cI (by lia) (by lia)
 have gN:(8+8*c.length+4)*(c.length+1)<=36*4:=cI (by lia) (by lia)
 have jl:∀qs:List Rat,(∀q∈qs,Fg q)->qs.length<=3->(Str.join BF (qs.map tx)).length<=400:=fun qs hf hl=>by
  have:=Ea (sep:=BF) (by decide) (Ds hf)
  rw[Z4]at this;have:qs.length*(123+2)<=3*125:=cI hl (YL _)
  lia
 clear ed an dT ew er f9 go e9 ei bd bg eM;refine⟨_,Z,lq,Z,⟨_,SqL.of eo⟩,Dr (xs:=wv) (L15 K p l lq cv pz wv al qs wr c a0 M bh RW fun K p l lq cv pz wv al qs wr c a0 M bh RW i σ G=>B9 K 497 p l lq cv pz wv al qs wr c G/\D9 K O dx o qs c (wr.take i) G/\∃(z9 bN:Option V),σ=[some (.ref a0),some (.ref p),some (.ref cv),some (.int (M:Int)),some (.ref l),some (.ref bh),some (.ref o),some (.ref lq),some (.str RW),z9,bN,none]) ⟨b9,by rw[br];exact d9,none,none,Z⟩ (fun i σ G _ h=>SqL.of h.1.eq) ?_ ?_⟩
 ·rintro i v σ G hv gh;refine Cm gh fun b d9 ej=>?_;refine Cj ej fun z9 bN fv=>?_;clear ej;obtain rfl:=fv
  try clear gh
  obtain⟨x,hx,rx,rfl,as⟩:=(Paired.get b.hw hv);have bq:=Zn hx;have em:=J.subset bq;have ba:=dA x em;refine⟨_,Z,_,Z,false,cv,rx,al,c,x,8,8,Z,b.cv,Am.nums b.cn,Az.of as,e3,Kz ba,by lia,fun y G1 s1 ey gd=>?_⟩
  have b1:=b.same s1;refine⟨_,Z,p,5,Z,b1.pn,by decide,by decide,fun dd G2 d0 d1 o2 p2=>⟨_,_,Z,Z,P2,fun t ht=>?_⟩⟩
  obtain⟨j,hj⟩:∃j:Nat,1+dd=(j:Int):=⟨(1+dd).toNat,by lia⟩
  have Y:=Ac.new (o:=.tup [.int (1+dd),.int 1]) ht;have b2:=(b1.mv o2.mv p2).same Y;have d2:=(((d9.same s1).mv b1.pn o2.mv)).same Y;have d8:=Y _ _ (o2.mv _ _ (b1.pn.ne (s1 _ _ as) fun _ _ _ z=>by cases z) (s1 _ _ as))
  have e4:=Y _ _ (o2.mv _ _ (b1.pn.ne ey fun _ _ _ z=>by cases z) ey)
  have et:upd G2 t (.tup [.int (1+dd),.int 1]) t=some (nT (((1+dd:Int)):Rat)):=by rw[MK];exact A9
  generalize upd G2 t (.tup [.int (1+dd),.int 1])=G3 at b2 d2 d8 e4 et ⊢;rw[hj]at et;refine⟨_,_,_,_,_,3,Z,Az.of e4,Az.of et,gd,⟨by rw[cM];unfold Bd;lia,by rw[cO];unfold Bd;decide⟩,by lia,fun u hu=>?_⟩
  have n2:=Ac.new (o:=nT (Cv.ev c x+((j:Int):Rat))) hu;have b3:=b2.same n2;have d3:=d2.same n2;have eK:=n2 _ _ d8;have eu:=A9 (H:=G3) (a:=u) (o:=nT (Cv.ev c x+((j:Int):Rat)));have dc:Fg (Cv.ev c x+((j:Int):Rat)):=gB x j ba (by lia)
  have gj:¬Cv.ev c x=Cv.ev c x+((j:Int):Rat):=fun z=>by
   have h0:((j:Int):Rat)=0:=by grind
   have:=cK.mp (h0.trans (show(0:Rat)=((0:Int):Rat) from rfl))
   lia
  generalize upd G3 u (nT (Cv.ev c x+((j:Int):Rat)))=G4 at b3 d3 eK eu ⊢;generalize Cv.ev c x+((j:Int):Rat)=y2 at eu dc gj;clear b2 d2 d8 e4 et Y n2 b1 s1 ey gd b d9 as;refine Dd d3 fun r xs pss co=>?_;refine Cm co fun ed an dp=>?_;clear co;have ge:∀z:Rat,z∈wr.take (i+1)↔z∈wr.take i\/z=x:=fun z=>by rw[ai,hx];simp
  obtain⟨bx,eT,dK⟩:=dp.put (ws':=wr.take (i+1)) (x:=x) (y:=y2) bc em (bD x ba) dc ⟨fun z=>absurd z gj,fun z=>absurd ((ge x).mpr (.inr rfl)) z⟩ (fun z _ hz=>by rw[ge];exact⟨.inl,fun h=>h.resolve_right hz⟩)
  have be:∀q∈[x,y2],Fg q:=fun q hq=>by
   rcases YD.mp hq with z | z
   ·rw[z];exact bD x ba
   ·rw[aA.mp z];exact dc
  refine⟨_,Z,o,dx,_,Z,ed,Z,_,Z,_,Z,P2,fun a ha=>?_⟩;have Y:=Ac.new (o:=.lst [.ref rx,.ref u]) ha;have ea:=A9 (H:=G4) (a:=a) (o:=.lst [.ref rx,.ref u]);have b4:=b3.same Y;have eb:=Y _ _ eK;have dC:=Y _ _ eu;have bf:=Y _ _ ed;have bl:=an.same Y;generalize upd G4 a (.lst [.ref rx,.ref u])=G5 at ea b4 eb dC bf bl ⊢;have gt:=jl _ be f3;refine⟨true,a,_,[x,y2],Z,SqL.of ea,.cons (Az.of eb) (.cons (Az.of dC) .nil),be,eH,fun G6 s6=>⟨_,_,Z,Z,by rw[l7,hs];lia,?_⟩⟩
  rw[PU [x,y2] f1];refine⟨o,dx,r,xs,_,0,[x,y2],pss,Z,EJ 0 _,by have:=HA (i:=0) be f3;rw[hs];lia,s6 _ _ bf,bl.same s6,bB,bB,be,.inl ⟨Z,bx,eT,fun r' fa G7 bt e7 hS hP=>⟨Z,_,Z,?_⟩⟩⟩
  exact AM (by rw[decide_eq_true rfl]<;>rfl) ⟨(b4.same s6).kp (NI (s6 _ _ bf) bt) (T3 (b4.same s6).ct (s6 _ _ bf) bt),⟨r',fa,bx,e7,dK.ok bc gb (by lia) hS hP,dK⟩,_,_,Z⟩
 rintro σ G f0;refine Cm f0 fun b d9 ec=>?_;refine Cj ec fun z9 bN fV=>?_;clear ec;obtain rfl:=fV
 try clear f0
 have ei:=b.hw.length;rw[bj (by lia)]at d9
 refine⟨_,Z,false,cv,al,c,Z,b.cv,Am.nums b.cn,bb,by lia,fun G1 s1=>⟨_,_,Z,Z,?_,Z,?_⟩⟩
 ·have:=jl c bb bm;rw[show(Str.ofString ";").length=1 by decide +kernel,hs];lia
 have b1:=b.same s1;have d1:=d9.same s1;clear b d9 s1 b9;have fk:∀x∈wr,Sm x:=fun x hx=>dA x (J.subset hx);refine Bh ⟨_,Z,lq,wv,wr,Z,SqL.of b1.eq,Am.nums b1.hw,by lia,fun x hx=>(Kz (fk x hx)).mono (by decide),fun pr us rs G2 s2 eW fg b5 fl=>⟨pr,Z,⟨_,SqL.of eW⟩,?_⟩⟩
 have b2:=b1.same s2;have d2:=d1.same s2;have gC:=fg.length;have gR:=b5.length_eq;have gn:∀x∈rs,Fg x:=fun x hx=>bD x (fk x (b5.mem_iff.mp hx));refine Dc (xs:=us) (L2 G2 rs fun G2 rs i zs G'=>G'=G2/\zs=((rs.take i).map fun x=>Str.ofString " " ++ tx x).map V.str) ⟨Z,Z⟩ (fun i zs H' hi p=>⟨by rw[p.1];exact SqL.of eW,by rw[p.2,Z4,Z4,Zh];lia⟩) (by lia) ?_ ?_
 ·rintro i x zs G' hx ⟨rfl,rfl⟩;obtain⟨y,hy,gv⟩:=(Paired.get fg hx);have dc:=gn y (Zn hy);have gO:=CF dc;refine⟨_,Z,x,y,Z,gv,dc,_,_,Z,Z,by rw[l1,hs];lia,Z,?_⟩
  rw[ai,hy,aj,aj];rfl
 rintro zs G' ⟨rfl,rfl⟩ pj gJ;rw[gC,cV];have Y:=Ac.new (o:=.lst ((rs.map fun x=>Str.ofString " " ++ tx x).map V.str)) gJ;have b3:=b2.same Y;have d3:=d2.same Y;have eN:=A9 (H:=G') (a:=pj) (o:=.lst ((rs.map fun x=>Str.ofString " " ++ tx x).map V.str));generalize upd G' pj (.lst ((rs.map fun x=>Str.ofString " " ++ tx x).map V.str))=G3 at b3 d3 eN ⊢;clear b1 b2 d1 d2 Y
 have fx:∀t∈rs.map (fun x=>Str.ofString " " ++ tx x),t.length<=200:=fun t ht=>by
  obtain⟨y,hy,rfl⟩:=(aX.mp ht);have:=CF (gn y hy);rw[Bs,l1];lia
 refine⟨_,pj,rs.map fun x=>Str.ofString " " ++ tx x,Z,Z,SqL.of eN,Cg (by decide +kernel) (fun t ht=>Yy (fx t ht) (by decide)) (by rw[Z4];lia),_,_,Z,Z,?_,?_⟩
 ·have h2:=Ej fx;rw[Z4]at h2;have:=jl c bb bm;have:rs.length*200<=12*200:=aO _ (by lia)
  rw[Bs,show(Str.ofString ";").length=1 by decide +kernel,hs];lia
 rw[<- Pa gk];clear fx eN;refine Dd (id d3) fun r xs pss cu=>?_;refine Cm cu fun ed an dp=>?_;clear cu;have ak:=dp.lost bc J;have gQ:M<3:=by lia
 have gL:N+1<4:=by lia
 have f7:∀q∈([((N+1:Nat):Rat),((M:Nat):Rat)]:List Rat),Fg q:=fun q hq=>by
  rcases YD.mp hq with z | z
  ·rw[z];exact⟨by rw[cY];lia,by rw[cZ];decide⟩
  ·rw[aA.mp z];exact⟨by rw[cY];lia,by rw[cZ];decide⟩
 have eE:=dp.len;refine⟨_,Z,o,dx,_,Z,ed,Z,_,Z,o,dx,r,xs,RW,1,[((N+1:Nat):Rat),((M:Nat):Rat)],pss,Z,fe,by rw[hs];lia,ed,an,bB,bB,f7,.inr (.inl ⟨Z,c,N+1,M,Z,dp.h2,dp.hf,by lia,by lia,by lia,by lia,fW,by lia,bb,by rw[ak];exact f2,b3.ct,fun gG G4 s4 fZ aF cp=>?_⟩)⟩
 rw[ak]at aF;cases RN cp fl (aF.trans b5.symm);have b4:=b3.kp (Qx b3.ct s4) fZ;have d4:=d3.b b3.ct s4;clear b3 d3 ed an dp ak s4 fZ eE eW fg;refine⟨_,Z,Z,_,Z,?_⟩;refine AM (by rw[decide_eq_true rfl]<;>rfl) ?_
 refine Dd (id d4) fun r xs pss cD=>?_;refine Cm cD fun ed an dp=>?_;clear cD;have ak:=dp.lost bc J;refine⟨_,Z,o,dx,_,Z,ed,Z,_,Z,false,cv,al,c,Z,b4.cv,Am.nums b4.cn,bb,by lia,fun G5 s5=>⟨_,_,Z,Z,by have:=jl c bb bm;rw[l8,hs];lia,?_⟩⟩
 rw[Tv _ (by lia)]
 refine⟨o,dx,r,xs,_,2,c,pss,Z,EJ 2 _,by have:=HA (i:=2) bb bm;rw[hs];lia,s5 _ _ ed,an.same s5,(show 1<=c.length by lia),(show c.length<=16 by lia),bb,.inr (.inr ⟨Z,dp.h2,dp.hf,He fW,fun G6 s6=>?_⟩)⟩
 rw[ak];have b6:=b4.same (s5.trans s6);have d6:=d4.same (s5.trans s6);clear b4 d4 ed an dp ak s5 s6;refine Bh ⟨_,Z,l,Z,⟨_,SqL.of b6.el⟩,?_⟩;refine K6 (xs:=pz) (L3 G6 qs wr fun G6 qs wr j ws W=>W=G6/\ws.length<=j/\Am G6 ws ((qs.take j).filter fun x=>decide (x∈wr))) ⟨Z,YL _,.nil⟩ (fun j ws W _ h=>⟨by rw[h.1];exact SqL.of b6.el,h.2.1⟩) (by lia) ?_ ?_
 ·rintro j u ws W hu ⟨rfl,eA,dm⟩;obtain⟨x,hx,rx,rfl,as⟩:=(Paired.get b6.hz hu);refine⟨_,Z,_,Z,inN (Az.of as) (SqL.of b6.eq) (Am.nums b6.hw) ⟨_,Z,?_⟩⟩;show if decide (x∈wr)=true then _ else _;by_cases bq:x∈wr
  ·rw[if_pos (decide_eq_true bq)];refine⟨_,Z,Z,by rw[Zo,ZF];lia,?_⟩
   rw[ai,hx,cW,show(some x).toList.filter (fun x=>decide (x∈wr))=[x] from cT (decide_eq_true bq)];exact Paired.snoc dm ⟨rx,Z,as⟩
  ·rw[if_neg (fun z=>bq (of_decide_eq_true z))];refine⟨Z,by lia,?_⟩
   rw[ai,hx,cW,show(some x).toList.filter (fun x=>decide (x∈wr))=[] from cU (fun z=>bq (of_decide_eq_true z)),Za];exact dm
 rintro ws W ⟨rfl,eA,dm⟩ lm gi;rw[eP,cV,Hc J bc]at dm;have Y:=Ac.new (o:=.lst ws) gi;refine⟨lm,ws,wr,Z,SqL.of A9,Am.nums (Am.same dm Y),fun x hx=>bD x (fk x hx),by lia,fun G7 s7=>⟨Z,_,Z,?_⟩⟩
 refine AM (by rw[decide_eq_true rfl]<;>rfl) ?_
 have b7:=b6.same (Y.trans s7);have d7:=d6.same (Y.trans s7);clear b6 d6 Y s7 dm gi eA;refine⟨_,Z,lq,Z,⟨_,SqL.of b7.eq⟩,Dr (xs:=wv) (L15 K p l lq cv pz wv al qs wr c a0 M bh RW fun K p l lq cv pz wv al qs wr c a0 M bh RW i σ G=>B9 K 497 p l lq cv pz wv al qs wr c G/\D9 K O dx o qs c (wr.drop i) G/\∃(z9 bN e5:Option V),σ=[some (.ref a0),some (.ref p),some (.ref cv),some (.int (M:Int)),some (.ref l),some (.ref bh),some (.ref o),some (.ref lq),some (.str RW),z9,bN,e5]) ⟨b7,by rw[aY];exact d7,_,_,_,Z⟩ (fun i σ G _ h=>SqL.of h.1.eq) ?_ ?_⟩
 ·rintro i v σ G hv f6;refine Cm f6 fun b d9 dV=>?_;refine Dd dV fun z9 bN e5 fy=>?_;clear dV;obtain rfl:=fy
  try clear f6
  obtain⟨x,hx,rx,rfl,as⟩:=(Paired.get b.hw hv);have bq:=Zn hx;have em:=J.subset bq;have ba:=dA x em;refine Dd d9 fun r xs pss cc=>?_;refine Cm cc fun ed an dp=>?_;clear cc
  have gm:wr.drop i=x::wr.drop (i+1):=by
   obtain⟨gA,rfl⟩:=(YG.mp hx);exact aT gA
  have gx:x∉wr.drop (i+1):=by
   have:=gE.sublist (List.drop_sublist i wr);rw[gm]at this;exact(Zd.mp this).1
  obtain⟨bx,eT,dK⟩:=dp.put (ws':=wr.drop (i+1)) (x:=x) (y:=Cv.ev c x) bc em (bD x ba) (eS x ba) ⟨fun _=>gx,fun _=>rfl⟩ (fun z _ hz=>by rw[gm,YD];exact⟨fun h=>h.resolve_left hz,.inr⟩)
  have be:∀q∈[x,Cv.ev c x],Fg q:=fun q hq=>by
   rcases YD.mp hq with z | z
   ·rw[z];exact bD x ba
   ·rw[aA.mp z];exact eS x ba
  refine⟨_,Z,o,dx,_,Z,ed,Z,_,Z,_,Z,_,Z,false,cv,rx,al,c,x,8,8,Z,b.cv,Am.nums b.cn,Az.of as,e3,Kz ba,by lia,fun u G4 s4 eu _=>⟨P2,fun a ha=>?_⟩⟩
  have Y:=Ac.new (o:=.lst [.ref rx,.ref u]) ha;have ea:=A9 (H:=G4) (a:=a) (o:=.lst [.ref rx,.ref u]);have b4:=(b.same s4).same Y;have eb:=Y _ _ (s4 _ _ as);have dC:=Y _ _ eu;have bf:=Y _ _ (s4 _ _ ed);have bl:=(an.same s4).same Y;generalize upd G4 a (.lst [.ref rx,.ref u])=G5 at ea b4 eb dC bf bl ⊢;have gt:=jl _ be f3;refine⟨true,a,_,[x,Cv.ev c x],Z,SqL.of ea,.cons (Az.of eb) (.cons (Az.of dC) .nil),be,eH,fun G6 s6=>⟨_,_,Z,Z,by rw[l7,hs];lia,?_⟩⟩
  rw[PU [x,Cv.ev c x] f1];refine⟨o,dx,r,xs,_,0,[x,Cv.ev c x],pss,Z,EJ 0 _,by have:=HA (i:=0) be f3;rw[hs];lia,s6 _ _ bf,bl.same s6,bB,bB,be,.inl ⟨Z,bx,eT,fun r' fa G7 bt e7 hS hP=>⟨Z,_,Z,?_⟩⟩⟩
  exact AM (by rw[decide_eq_true rfl]<;>rfl) ⟨(b4.same s6).kp (NI (s6 _ _ bf) bt) (T3 (b4.same s6).ct (s6 _ _ bf) bt),⟨r',fa,bx,e7,dK.ok bc gb (by lia) hS hP,dK⟩,_,_,_,Z⟩
 rintro σ G gg;refine Cm gg fun b d9 ef=>?_;refine Dd ef fun z9 bN e5 e8=>?_;clear ef;obtain rfl:=e8
 try clear gg
 rw[bu (by lia)]at d9
 refine Dd (id d9) fun r xs pss cC=>?_;refine Cm cC fun ed an dp=>?_;clear cC;have ak:=dp.lost bc (List.nil_sublist _);have eE:=dp.len;refine⟨_,Z,o,dx,_,Z,ed,Z,_,Z,o,dx,r,xs,RW,1,[((N+1:Nat):Rat),((M:Nat):Rat)],pss,Z,fe,by rw[hs];lia,ed,an,bB,bB,f7,.inr (.inl ⟨Z,c,N+1,M,Z,dp.h2,dp.hf,by lia,by lia,by lia,by lia,fW,by lia,bb,by rw[ak];exact YN _,b.ct,fun gG G8 s8 gK aF cp=>?_⟩)⟩
 rw[ak]at aF;cases aF.eq_nil;have b8:=b.kp (Qx b.ct s8) gK;refine⟨_,Z,false,cv,al,c,Z,b8.cv,Am.nums b8.cn,bb,by lia,fun G9 s9=>⟨_,_,Z,Z,by have:=jl c bb bm;rw[show(Str.ofString ";").length=1 by decide +kernel,hs];lia,Z,?_⟩⟩
 rw[<- Rp gk,decide_eq_true rfl];exact q _
end
inductive AL(K:Yx)(x:Str)(st:eU)(f:ad):Prop
 | mk {oc kV dc pm cd ct:am} {od an:Option ad} {sl:Array (Option am)} (a:aR K ci x=some (some (.ref f))) (l:K.lookup f=some ⟨oc,od,.func (Zq x x (Br st) (Bf st) (Ad st) .none kV dc pm an cd ct),sl⟩) (c:Zr K cd x=true) (k:Z3 K (.ref f)=true):AL K x st f
theorem AL.b1{K:Yx}{x:Str}{st:eU}{f:ad}{h:dw}{mg:Str->Option am}(q:AL K x st f)(X:K.In h)(G:h.Ns ci mg)(Y:Str)(hb:∀(kV O J:am) (an:Option ad) (W ct a1:am),eX (Zq x x (Br st) (Bf st) (Ad st) .none kV O J an W ct) ⟨[a1],[]⟩=pure [(Y,a1)]:=by intros;rfl):∃fd,Fun K x x st f fd/\Be K fd [Y] []/\Z3 K (.ref f)=true/\mg x=some (.ref f):=by
 obtain⟨a,l,c,k⟩:=q;have F:=EO (st:=st) l c k;exact⟨_,F,Fun.binds1 Y F hb,k,dr X G a⟩
theorem AL.b2{K:Yx}{x:Str}{st:eU}{f:ad}{h:dw}{mg:Str->Option am}(q:AL K x st f)(X:K.In h)(G:h.Ns ci mg)(Y p2:Str)(hb:∀(kV O J:am) (an:Option ad) (W ct a1 a2:am),eX (Zq x x (Br st) (Bf st) (Ad st) .none kV O J an W ct) ⟨[a1,a2],[]⟩=pure [(Y,a1),(p2,a2)]:=by intros;rfl):∃fd,Fun K x x st f fd/\Be K fd [Y,p2] []/\Z3 K (.ref f)=true/\mg x=some (.ref f):=by
 obtain⟨a,l,c,k⟩:=q;have F:=EO (st:=st) l c k;exact⟨_,F,Fun.binds2 Y p2 F hb,k,dr X G a⟩
theorem AL.b3{K:Yx}{x:Str}{st:eU}{f:ad}{h:dw}{mg:Str->Option am}(q:AL K x st f)(X:K.In h)(G:h.Ns ci mg)(W p2 Y:Str)(hb:∀(kV J pm:am) (an:Option ad) (O ct a1 a2 a3:am),eX (Zq x x (Br st) (Bf st) (Ad st) .none kV J pm an O ct) ⟨[a1,a2,a3],[]⟩=pure [(W,a1),(p2,a2),(Y,a3)]:=by intros;rfl):∃fd,Fun K x x st f fd/\Be K fd [W,p2,Y] []/\Z3 K (.ref f)=true/\mg x=some (.ref f):=by
 obtain⟨a,l,c,k⟩:=q;have F:=EO (st:=st) l c k;exact⟨_,F,Fun.binds3 W p2 Y F hb,k,dr X G a⟩
theorem AL.b4{K:Yx}{x:Str}{st:eU}{f:ad}{h:dw}{mg:Str->Option am}(q:AL K x st f)(X:K.In h)(G:h.Ns ci mg)(O p2 Y W:Str)(hb:∀(kV ab pm:am) (an:Option ad) (J ct a1 a2 a3 a4:am),eX (Zq x x (Br st) (Bf st) (Ad st) .none kV ab pm an J ct) ⟨[a1,a2,a3,a4],[]⟩=pure [(O,a1),(p2,a2),(Y,a3),(W,a4)]:=by intros;rfl):∃fd,Fun K x x st f fd/\Be K fd [O,p2,Y,W] []/\Z3 K (.ref f)=true/\mg x=some (.ref f):=by
 obtain⟨a,l,c,k⟩:=q;have F:=EO (st:=st) l c k;exact⟨_,F,Fun.binds4 O p2 Y W F hb,k,dr X G a⟩
theorem fdm{P:ce}(w:db){K:Yx}{mg:Str->Option am}(base:dw){n:Nat}{x:Str}{ps:List Str}{sp:Sp}{f:ad}{fd:bn}(a:Ax P w K mg base CX0 n f fd ps sp)(b:Be K fd ps [])(c:Z3 K (.ref f)=true)(d:mg x=some (.ref f)):Fd P w K mg base n x ps sp:=⟨_,_,a,b,c,d⟩
theorem UE{l:bY}{w:db}{K:Yx}{h:dw}{mg:Str->Option am}{fa f1 f2 f3 f4 f5 f6 f7 f8 f9 jX gC g3 i5 hr hs iF jd hI iP ik hh iX lt ht iH jM fV kY kL iY ho kk gI kx iA hp kT li iM fY iL iu jj iS lk lj j8 lF gM gy kD hV i0 lc ig iU iJ iw jS ip ge ku hf ij hS f0 lr j9 gG gc fW ga:ad}(W:l.prog.given.tree=none)(X:K.In h)(G:h.Ns ci mg)(go:mg "law" = some (.ref fa))
 { od27 an27 od71 an71 od72 an72:Option ad} { sl27 sl71 sl72:Array (Option am)} { oc27 kV27 dc27 pm27 cd27 ct27 oc71 kV71 dc71 pm71 cd71 ct71 oc72 kV72 dc72 pm72 cd72 ct72:am}
 {Y:ad} (aC_Desk:aR K ci "Desk" = some (some (.ref Y)))
  (q1:AL K "_law_pen" (top 132) f1)
  (q2:AL K "_law_draw" (top 133) f2)
  (q3:AL K "_law_lowest" (top 134) f3)
  (q4:AL K "_law_plus" (top 135) f4)
  (q5:AL K "_law_few" (top 142) f5)
  (q6:AL K "_law_text" (top 138) f6)
  (q7:AL K "_law_points_text" (top 140) f7)
  (q8:AL K "_law_misses" (top 144) f8)
  (q9:AL K "_law_times" (top 136) f9)
  (g0:AL K "_law_at" (top 137) jX)
  (hm:AL K "_law_texts" (top 139) gC)
  (kl:AL K "_law_less" (top 141) g3)
  (kw:AL K "_law_rising" (top 143) i5)
  (lm:AL K "check_text" (top 100) hr)
  (jC:AL K "are_unlike" (top 49) hs)
  (hn:AL K "told_in" (top 52) iF)
  (ih:AL K "is_whole" (top 13) jd)
  (hE:AL K "common_measure" (top 14) hI)
  (jN:AL K "is_number" (top 15) iP)
  (hJ:AL K "is_point" (top 48) ik)
  (hK:AL K "points_of" (top 51) hh)
  (h6:AL K "are_figures" (top 97) iX)
  (jh:AL K "is_top" (top 98) lt)
  (i4:AL K "number_in" (top 99) ht)
  (io:AL K "numbers_in" (top 101) iH)
  (gA:AL K "read_points_of" (top 102) jM)
   (a27:YT K (.ref Y) "__init__" = some (some (.ref fV))) (i27:YV K (.ref fV)=true) (l27:K.lookup fV=some ⟨oc27,od27,.func (Zq "__init__" "Desk.__init__" (Br (Cb (top 130) 0)) (Bf (Cb (top 130) 0)) (Ad (Cb (top 130) 0)) .none kV27 dc27 pm27 an27 cd27 ct27),sl27⟩) (c27:Zr K cd27 "Desk.__init__" = true) (k27:Z3 K (.ref fV)=true)
  (lx:AL K "check_wholes" (top 128) kY)
  (h4:AL K "numbers_of_row" (top 129) kL)
  (g1:AL K "number_of" (top 16) iY)
  (j6:AL K "times" (top 19) ho)
  (he:AL K "slope_of" (top 32) kk)
  (gu:AL K "bottom_of" (top 25) gI)
  (hD:AL K "whole_height" (top 28) kx)
  (iI:AL K "tops_over" (top 26) iA)
  (kH:AL K "height_at" (top 29) hp)
  (gt:AL K "missed" (top 54) kT)
  (ll:AL K "curve_of" (top 24) li)
  (kZ:AL K "show_number" (top 92) iM)
  (jx:AL K "misses_row" (top 119) fY)
  (hO:AL K "check_no_slopes" (top 122) iL)
  (ln:AL K "check_places" (top 50) iu)
  (lu:AL K "check_heights" (top 78) jj)
  (kr:AL K "lack_at" (top 80) iS)
  (hd:AL K "with_nought_at" (top 81) lk)
  (lq:AL K "without_common" (top 82) lj)
  (gU:AL K "both_with" (top 83) j8)
  (is:AL K "curve_over" (top 27) lF)
  (gr:AL K "pair_through" (top 84) gM)
  (jD:AL K "whole_product" (top 30) gy)
  (lB:AL K "by_steps" (top 61) kD)
  (jg:AL K "knots_of" (top 53) hV)
  (g5:AL K "slopes_in" (top 57) i0)
  (i9:AL K "first_row" (top 56) lc)
  (kR:AL K "over" (top 20) ig)
  (ls:AL K "minus" (top 18) iU)
  (h5:AL K "next_row" (top 58) iJ)
  (jG:AL K "table_of" (top 59) iw)
  (kj:AL K "steps_of" (top 60) jS)
  (iR:AL K "curve_through" (top 62) ip)
  (lf:AL K "rising" (top 79) ge)
  (ji:AL K "judged" (top 104) ku)
  (lb:AL K "show_numbers" (top 93) hf)
  (hv:AL K "show_curve" (top 94) ij)
  (jW:AL K "shown_behind" (top 123) hS)
  (gl:AL K "wrong_row" (top 124) f0)
  (gx:AL K "point_at" (top 65) lr)
  (ke:AL K "replaced" (top 67) j9)
  (kh:AL K "with_height" (top 68) gG)
  (gR:AL K "height_row" (top 111) gc)
   (a71:YT K (.ref Y) "say" = some (some (.ref fW))) (i71:YV K (.ref fW)=true) (l71:K.lookup fW=some ⟨oc71,od71,.func (Zq "say" "Desk.say" (Br (Cb (top 130) 1)) (Bf (Cb (top 130) 1)) (Ad (Cb (top 130) 1)) .none kV71 dc71 pm71 an71 cd71 ct71),sl71⟩) (c71:Zr K cd71 "Desk.say" = true) (k71:Z3 K (.ref fW)=true)
   (a72:aR K ci "law" = some (some (.ref ga))) (l72:K.lookup ga=some ⟨oc72,od72,.func (Zq "law" "law" (Br (top 145)) (Bf (top 145)) (Ad (top 145)) .none kV72 dc72 pm72 an72 cd72 ct72),sl72⟩) (c72:Zr K cd72 "law" = true) (k72:Z3 K (.ref ga)=true)
   (z_len:aR K ci "len" = some none)
   (z_abs:aR K ci "abs" = some none)
   (z_range:aR K ci "range" = some none)
   (z_str:aR K ci "str" = some none)
   (z_isinstance:aR K ci "isinstance" = some none)
   (z_set:aR K ci "set" = some none)
   (z_int:aR K ci "int" = some none)
   (z_bool:aR K ci "bool" = some none)
   (z_tuple:aR K ci "tuple" = some none)
   (z_all:aR K ci "all" = some none)
   (z_list:aR K ci "list" = some none)
   (z_zip:aR K ci "zip" = some none)
   (z_reversed:aR K ci "reversed" = some none)
   (z_any:aR K ci "any" = some none)
   (z_sorted:aR K ci "sorted" = some none)
 {eE:Tok} (x_MOST_TOLD:aR K ci "MOST_TOLD" = some (some (.int 12 eE)))
 {eW:Tok} (x_FIGURES:aR K ci "FIGURES" = some (some (.str "0123456789" eW)))
 {gb:Tok} (x_SIX:aR K ci "SIX" = some (some (.int 6 gb)))
 {d6:ad} {d4:Obj} {et:Array am} {fe:Nat} (x_NOUGHT:aR K ci "NOUGHT" = some (some (.ref d6))) (y_NOUGHT:K.lookup d6=some d4) (w_NOUGHT:d4.cls = .type "tuple") (d_NOUGHT:d4.data = .seq et fe) (e_NOUGHT:et.toList.map Ij=[some (.int (0:Rat).num),some (.int ((0:Rat).den:Int))])
  (h61:Gk K ge 497=true)
  (pg_Desk:YR K Y Str.empty=true)
  (hd_Desk:YS K Y=true)
  (po_Desk:YW K Y=true)
  (sa_Desk:YT K (.ref Y) "__setattr__" = some (some (.builtin "object.__setattr__")))
  (mk_Desk:YZ K Y=true)
  (kc_Desk:Z3 K (.ref Y)=true)
  (na_points_Desk:YT K (.ref Y) "points" = some none)
 {d3:ad} (nx_COUNTS:aR K ci "COUNTS" = some (some (.ref d3)))
 {dA:Tok} {d9:ad}
 {b5:Tok} {ek:ad}
 {dn:Tok} {ab:ad}
 {cp:Tok} {eg:ad}
 {dt:Tok} {ej:ad}
 {d2:Tok} {d8:ad}
 {dc:Tok} {ef:ad}
 {cD:Tok} {d7:ad}
 {dd:Tok} {ed:ad}
 {cn:Tok} {eb:ad}
 {ba:Tok} {O:ad}
 {bh:Tok} {dp:ad}
 {bt:Tok} {b8:ad}
 {bm:Tok} {J:ad}
 {bp:Tok} {cv:ad}
 {e5:Nat} (yd_COUNTS:K.lookup d3=some ⟨.type "dict",none,.dict (([("put",dA,d9),("take",b5,ek),("height",dn,ab),("slope",cp,eg),("noslope",dt,ej),("points",d2,d8),("curve",dc,ef),("steps",cD,d7),("at",dd,ed),("slopeat",cn,eb),("misses",ba,O),("bounds",bh,dp),("noughts",bt,b8),("wrong",bm,J),("quotient",bp,cv)]:List (Str×Tok×ad)).map (J4 w)).toArray e5,#[]⟩) (hs_COUNTS:(d3 == ee)=false)
 {ap:Obj} {eh:Array am} {eK:Nat} (y_COUNTS_2:K.lookup ab=some ap) (w_COUNTS_2:ap.cls = .type "tuple") (d_COUNTS_2:ap.data = .seq eh eK) (e_COUNTS_2:eh.toList.map Ij=[some (.int 2),some (.int 2)])
 {an:Obj} {cC:Array am} {eD:Nat} (y_COUNTS_10:K.lookup O=some an) (w_COUNTS_10:an.cls = .type "tuple") (d_COUNTS_10:an.data = .seq cC eD) (e_COUNTS_10:cC.toList.map Ij=[some (.int 1),some (.int 16)])
 {ak:Obj} {d1:Array am} {ew:Nat} (y_COUNTS_13:K.lookup J=some ak) (w_COUNTS_13:ak.cls = .type "tuple") (d_COUNTS_13:ak.data = .seq d1 ew) (e_COUNTS_13:d1.toList.map Ij=[some (.int 2),some (.int 2)])
 {el:ad} (nx_LEAST:aR K ci "LEAST" = some (some (.ref el)))
 {ec:Tok} {al:ad}
 {ei:Tok} {em:ad}
 {fy:Nat} (yd_LEAST:K.lookup el=some ⟨.type "dict",none,.dict (([("wrong",ec,al),("quotient",ei,em)]:List (Str×Tok×ad)).map (J4 w)).toArray fy,#[]⟩) (hs_LEAST:(el == ee)=false)
 {bN:Obj} {en:Array am} {eL:Nat} (y_LEAST_0:K.lookup al=some bN) (w_LEAST_0:bN.cls = .type "tuple") (d_LEAST_0:bN.data = .seq en eL) (e_LEAST_0:en.toList.map Ij=[some (.int 1),some (.int 0)])
 {bD:ad} (nx_CHANGES:aR K ci "CHANGES" = some (some (.ref bD)))
 {aC:Tok} {dV:ad}
 {bg:Tok} {b7:ad}
 {a0:Tok}
 {aF:Tok} {dC:ad}
 {be:Tok} {co:ad}
 {eT:Nat} (yd_CHANGES:K.lookup bD=some ⟨.type "dict",none,.dict (([("put",aC,dV),("take",bg,b7),("height",a0,gc),("slope",aF,dC),("noslope",be,co)]:List (Str×Tok×ad)).map (J4 w)).toArray eT,#[]⟩) (hs_CHANGES:(bD == ee)=false)
 {b0:ad} (nx_ANSWERS:aR K ci "ANSWERS" = some (some (.ref b0)))
 {bc:Tok} {ca:ad}
 {bq:Tok} {dm:ad}
 {bB:Tok} {c0:ad}
 {bf:Tok} {b9:ad}
 {bx:Tok} {b6:ad}
 {bl:Tok}
 {bd:Tok} {cu:ad}
 {aP:Tok} {cN:ad}
 {bb:Tok}
 {as:Tok} {dT:ad}
 {e2:Nat} (yd_ANSWERS:K.lookup b0=some ⟨.type "dict",none,.dict (([("points",bc,ca),("curve",bq,dm),("steps",bB,c0),("at",bf,b9),("slopeat",bx,b6),("misses",bl,fY),("bounds",bd,cu),("noughts",aP,cN),("wrong",bb,f0),("quotient",as,dT)]:List (Str×Tok×ad)).map (J4 w)).toArray e2,#[]⟩) (hs_ANSWERS:(b0 == ee)=false) :
 ∃(fd:bn) (c:ad),bU K c 497=true/\(∀(s:aI) (v:am),BindsTo s fd ⟨[v],[]⟩ [("_law_script",v)])/\∀base:dw,K.In base->base.Ns ci mg->Bm mg base->Ax l.prog w K mg base CX0 43 fa fd ["_law_script"] (Hk K 497):=by
 obtain⟨_,F1,B1,k1,m1⟩:=q1.b2 X G "_law_script" "_law_k";obtain⟨_,F2,B2,k2,m2⟩:=q2.b2 X G "_law_pen_here" "_law_many";obtain⟨_,F3,B3,k3,m3⟩:=q3.b2 X G "_law_top" "_law_bottom";obtain⟨_,F4,B4,k4,m4⟩:=q4.b2 X G "_law_a" "_law_b";obtain⟨_,F5,B5,k5,m5⟩:=q5.b2 X G "_law_pen_here" "_law_many";obtain⟨_,F6,B6,k6,m6⟩:=q6.b1 X G "_law_number";obtain⟨_,F7,B7,k7,m7⟩:=q7.b1 X G "_law_points";obtain⟨_,F8,B8,k8,m8⟩:=q8.b1 X G "_law_places";obtain⟨_,F9,B9,k9,m9⟩:=q9.b2 X G "_law_a" "_law_b";obtain⟨_,hG,g4,k10,gT⟩:=g0.b2 X G "_law_curve" "_law_x";obtain⟨_,gE,jV,k11,iB⟩:=hm.b1 X G "_law_numbers";obtain⟨_,ir,iV,k12,hg⟩:=kl.b2 X G "_law_a" "_law_b";obtain⟨_,jK,hL,k13,g6⟩:=kw.b1 X G "_law_places";obtain⟨_,lp,gm,k14,jL⟩:=lm.b1 X G "text";obtain⟨_,jp,g9,k15,jF⟩:=jC.b1 X G "places";obtain⟨_,jz,jO,k16,gS⟩:=hn.b1 X G "points";obtain⟨_,hb,hF,k17,jn⟩:=ih.b1 X G "thing";obtain⟨_,ko,jm,k18,hH⟩:=hE.b2 X G "one" "other";obtain⟨_,ib,gq,k19,hx⟩:=jN.b1 X G "thing";obtain⟨_,hc,kM,k20,jT⟩:=hJ.b1 X G "thing";obtain⟨_,gF,ky,k21,gD⟩:=hK.b1 X G "thing";obtain⟨_,hQ,ld,k22,jY⟩:=h6.b2 X G "text" "most";obtain⟨_,kc,h3,k23,kf⟩:=jh.b2 X G "text" "most";obtain⟨_,j2,h8,k24,lg⟩:=i4.b2 X G "text" "most";obtain⟨_,iq,hj,k25,iE⟩:=io.b2 X G "parts" "most";obtain⟨_,iG,kX,k26,kI⟩:=gA.b2 X G "text" "most";obtain⟨_,iD,lw,k28,hy⟩:=lx.b2 X G "numbers" "least";obtain⟨_,j3,j1,k29,lH⟩:=h4.b1 X G "words";obtain⟨_,g7,hN,k30,lE⟩:=g1.b2 X G "top" "bottom";obtain⟨_,j0,gB,k31,iW⟩:=j6.b2 X G "a" "b";obtain⟨_,gk,kN,k32,jP⟩:=he.b1 X G "curve";obtain⟨_,jl,kg,k33,gH⟩:=gu.b1 X G "numbers";obtain⟨_,h7,jH,k34,iN⟩:=hD.b2 X G "tops" "x";obtain⟨_,g2,hW,k35,kA⟩:=iI.b2 X G "numbers" "bottom";obtain⟨_,ly,kO,k36,ka⟩:=kH.b2 X G "curve" "x";obtain⟨_,km,kU,k37,iZ⟩:=gt.b2 X G "points" "curve";obtain⟨_,jc,le,k38,kP⟩:=ll.b1 X G "numbers";obtain⟨_,kF,gv,k39,j5⟩:=kZ.b1 X G "number";obtain⟨_,i3,kd,k40,gi⟩:=jx.b2 X G "points" "numbers";obtain⟨_,kJ,g8,k41,kv⟩:=hO.b1 X G "points";obtain⟨_,jU,hB,k42,gX⟩:=ln.b2 X G "places" "fewest";obtain⟨_,gP,jr,k43,kp⟩:=lu.b2 X G "places" "heights";obtain⟨_,ix,kb,k44,jv⟩:=kr.b3 X G "pair" "x" "y";obtain⟨_,i6,jI,k45,iv⟩:=hd.b2 X G "pair" "x";obtain⟨_,hC,jQ,k46,lh⟩:=lq.b1 X G "tops";obtain⟨_,jZ,lG,k47,ki⟩:=gU.b3 X G "both" "x" "y";obtain⟨_,iy,gw,k48,jE⟩:=is.b2 X G "tops" "bottom";obtain⟨_,gY,hZ,k49,im⟩:=gr.b3 X G "places" "heights" "width";obtain⟨_,jt,gQ,k50,gz⟩:=jD.b2 X G "first" "second";obtain⟨_,kK,hU,k51,gL⟩:=lB.b2 X G "knots" "steps";obtain⟨_,gp,jo,k52,gO⟩:=jg.b1 X G "points";obtain⟨_,hl,jA,k53,kW⟩:=g5.b1 X G "points";obtain⟨_,hX,i8,k54,iC⟩:=i9.b1 X G "points";obtain⟨_,kC,gJ,k55,jf⟩:=kR.b2 X G "a" "b";obtain⟨_,hq,iT,k56,ja⟩:=ls.b2 X G "a" "b";obtain⟨_,kq,il,k57,iQ⟩:=h5.b4 X G "ahead" "knots" "slopes" "k";obtain⟨_,kE,gN,k58,jk⟩:=jG.b1 X G "points";obtain⟨_,hM,iK,k59,ju⟩:=kj.b1 X G "points";obtain⟨_,jB,j7,k60,lz⟩:=iR.b1 X G "points";obtain⟨_,iz,ie,k61,k0⟩:=lf.b1 X G "places";obtain⟨_,lC,hY,k62,gW⟩:=ji.b4 X G "places" "heights" "width" "most";obtain⟨_,kt,jR,k63,kB⟩:=lb.b1 X G "numbers";obtain⟨_,i7,hA,k64,kG⟩:=hv.b1 X G "curve";obtain⟨_,lA,la,k65,lD⟩:=jW.b1 X G "places";obtain⟨_,jJ,h0,k66,gf⟩:=gl.b2 X G "points" "numbers";obtain⟨_,jq,gK,k67,gn⟩:=gx.b2 X G "points" "x";obtain⟨_,je,hR,k68,hu⟩:=ke.b3 X G "points" "old" "new";obtain⟨_,ia,jw,k69,j4⟩:=kh.b3 X G "points" "x" "y";obtain⟨_,jb,iO,k70,gj⟩:=gR.b2 X G "points" "numbers";obtain⟨cc,h9⟩:=OQ h61;have e:=go.symm.trans (dr X G a72);cases e;have VY:=du X G z_len;have W8:=du X G z_abs;have VZ:=du X G z_range;have W2:=du X G z_str;have W3:=du X G z_isinstance;have fZ:=du X G z_set;have W9:=du X G z_int;have Wt:=du X G z_bool;have W0:=du X G z_tuple;have W6:=du X G z_all;have Wc:=du X G z_list;have W4:=du X G z_zip;have Wy:=du X G z_reversed;have gd:=du X G z_any;have WD:=du X G z_sorted;have dK:=dr X G x_MOST_TOLD;have e0:=dr X G x_FIGURES;have fx:=dr X G x_SIX;have er:=dr X G x_NOUGHT;have eu:∀H:Hp,Az K H (.ref d6) (0):=fun H=>⟨_,Z,OP y_NOUGHT w_NOUGHT d_NOUGHT e_NOUGHT⟩;have eA:O4 K Y:=⟨⟨pg_Desk,hd_Desk,po_Desk,sa_Desk⟩,na_points_Desk⟩;have eH:∀H:Hp,SqT K H ab [.int 2,.int 2]:=fun H=>Ek y_COUNTS_2 w_COUNTS_2 d_COUNTS_2 e_COUNTS_2;have ez:∀H:Hp,SqT K H O [.int 1,.int 16]:=fun H=>Ek y_COUNTS_10 w_COUNTS_10 d_COUNTS_10 e_COUNTS_10;have ey:∀H:Hp,SqT K H J [.int 2,.int 2]:=fun H=>Ek y_COUNTS_13 w_COUNTS_13 d_COUNTS_13 e_COUNTS_13;have e4:=dr X G nx_COUNTS;have e3:=NK (P:=l.prog) [("put",dA,d9),("take",b5,ek),("height",dn,ab),("slope",cp,eg),("noslope",dt,ej),("points",d2,d8),("curve",dc,ef),("steps",cD,d7),("at",dd,ed),("slopeat",cn,eb),("misses",ba,O),("bounds",bh,dp),("noughts",bt,b8),("wrong",bm,J),("quotient",bp,cv)] yd_COUNTS (show(["put","take","height","slope","noslope","points","curve","steps","at","slopeat","misses","bounds","noughts","wrong","quotient"]:List Str).Nodup from by decide +kernel) hs_COUNTS
 have eM:∀H:Hp,SqT K H al [.int 1,.int 0]:=fun H=>Ek y_LEAST_0 w_LEAST_0 d_LEAST_0 e_LEAST_0;have fl:=dr X G nx_LEAST;have fv:=NK (P:=l.prog) [("wrong",ec,al),("quotient",ei,em)] yd_LEAST (show(["wrong","quotient"]:List Str).Nodup from by decide +kernel) hs_LEAST
 have eq:=gj;have eR:=dr X G nx_CHANGES;have eP:=NK (P:=l.prog) [("put",aC,dV),("take",bg,b7),("height",a0,gc),("slope",aF,dC),("noslope",be,co)] yd_CHANGES (show(["put","take","height","slope","noslope"]:List Str).Nodup from by decide +kernel) hs_CHANGES
 have eo:=gi;have eB:=gf;have eN:=dr X G nx_ANSWERS;have eS:=NK (P:=l.prog) [("points",bc,ca),("curve",bq,dm),("steps",bB,c0),("at",bf,b9),("slopeat",bx,b6),("misses",bl,fY),("bounds",bd,cu),("noughts",aP,cN),("wrong",bb,f0),("quotient",as,dT)] yd_ANSWERS (show(["points","curve","steps","at","slopeat","misses","bounds","noughts","wrong","quotient"]:List Str).Nodup from by decide +kernel) hs_ANSWERS
 have gh:=EO (st:=Cb (top 130) 0) l27 c27 k27;have jy:=Fun.binds2 "self" "text" gh fun _ _ _ _ _ _ _ _=>rfl;have gg:=EO (st:=Cb (top 130) 1) l71 c71 k71;have ii:=Fun.binds2 "self" "row" gg fun _ _ _ _ _ _ _ _=>rfl;have gZ:=EO (st:=top 145) l72 c72 k72;refine⟨Zq "law" "law" (Br (top 145)) (Bf (top 145)) (Ad (top 145)) .none kV72 dc72 pm72 an72 cd72 ct72,cc,h9,fun s v=>.of_eq rfl,fun base _ _ hP=>?_⟩;have XC:=fdm w base (Lf F1 VY W) B1 k1 (m1);have WS:=fdm w base (K1 F2 W) B2 k2 (m2);have WG:=fdm w base (HS F3 W8 W) B3 k3 (m3);have WH:=fdm w base (JZ F4 WG W) B4 k4 (m4);have XD:=fdm w base (Lh F5 WG WH WS VZ W) B5 k5 (m5);have Wr:=fdm w base (JY F6 W2 W) B6 k6 (m6);have XE:=fdm w base (En F7 Wr W) B7 k7 (m7);have XF:=fdm w base (HR F8 Wr W) B8 k8 (m8);have XG:=fdm w base (IG F9 WG W) B9 k9 (m9);have XH:=fdm w base (MJ hG WH XG W) g4 k10 (gT);have XI:=fdm w base (II gE Wr W) jV k11 (iB);have XJ:=fdm w base (K0 ir W) iV k12 (hg);have XM:=fdm w base (HQ jK XJ VY W) hL k13 (g6);have XN:=fdm w base (IE lp W3 W2 W) gm k14 (jL);have WT:=fdm w base (IF jp VY fZ W) g9 k15 (jF);have WI:=fdm w base (MH jz VZ VY W) jO k16 (gS);have XO:=fdm w base (Lb hb W3 W9 Wt W) hF k17 (jn);have Ws:=fdm w base (Fv ko W8 W) jm k18 (hH);have WU:=fdm w base (JT ib XO Ws W3 W0 VY W) gq k19 (hx);have XQ:=fdm w base (Lc hc WU W6 W3 W0 VY W) kM k20 (jT);have WV:=fdm w base (JQ gF WT WI XQ W0 W6 VY W3 Wc dK W) ky k21 (gD);have WW:=fdm w base (HP hQ W6 VY e0 W) ld k22 (jY);have e7:=fdm w base (Ov kc WW W) h3 k23 (kf);have WX:=fdm w base (JS j2 WU e7 WW VY W9 W) h8 k24 (lg);have XR:=fdm w base (IA iq WX W) hj k25 (iE);have XS:=fdm w base (Ft iG XN WV XR W0 VY W) kX k26 (kI);have XT:FdI CX0 l.prog w K mg base 38 Y "Desk" ["self","text"] (GS K Y):=⟨_,_,K2 gh eA XS fx W,jy,⟨mk_Desk,a27,i27,kc_Desk⟩,dr X G aC_Desk⟩;have XU:=fdm w base (GN iD W4 W) lw k28 (hy);have XW:=fdm w base (Fu j3 XU WX VY fx W eH ez ey e4 e3 eM fl fv) j1 k29 (lH);have Wl:=fdm w base (JR g7 Ws W) hN k30 (lE);have fg:=fdm w base (Qg j0 Wl W) gB k31 (iW);have XX:=fdm w base (KW gk fg W0 VZ VY W) kN k32 (jP);have WJ:=fdm w base (JW jl Ws W) kg k33 (gH);have WY:=fdm w base (GI h7 Wy W) jH k34 (iN);have WZ:=fdm w base (JO g2 W) hW k35 (kA);have X0:=fdm w base (JU ly WJ WY Wl WZ W) kO k36 (ka);have e9:=fdm w base (Ot km XX WI X0 W) kU k37 (iZ);have X1:=fdm w base (Ld jc VY W0 er eu W) le k38 (kP);have WK:=fdm w base (HN kF W2 W) gv k39 (j5);have XY:=fdm w base (IB i3 e9 X1 WK VY W2 W) kd k40 (gi);have XZ:=fdm w base (EL kJ gd VY W) g8 k41 (kv);have Y0:=fdm w base (GO jU WT VY dK W) hB k42 (gX);have Y1:=fdm w base (FY gP Y0 VY W) jr k43 (kp);have Y2:=fdm w base (MI ix WY VY W) kb k44 (jv);have Y3:=fdm w base (Fs i6 VZ VY W) jI k45 (iv);have Y4:=fdm w base (Fq hC Ws W) jQ k46 (lh);have Y5:=fdm w base (JX jZ Y2 Y3 Y4 W4 W) lG k47 (ki);have X2:=fdm w base (ID iy X1 Wl W) gw k48 (jE);have Y6:=fdm w base (GL gY Y5 X2 W4 VY W) hZ k49 (im);have Y7:=fdm w base (FW jt VZ VY W) gQ k50 (gz);have Y8:=fdm w base (Le kK WJ WZ X2 Y7 VZ VY W) hU k51 (gL);have X3:=fdm w base (La gp WI W) jo k52 (gO);have Y9:=fdm w base (JP hl VY W) jA k53 (kW);have Ya:=fdm w base (JV hX VY W) i8 k54 (iC);have fX:=fdm w base (S3 kC Wl W) gJ k55 (jf);have fk:=fdm w base (Qh hq Wl W) iT k56 (ja);have Yb:=fdm w base (L0 kq fX fk VZ VY W) il k57 (iQ);have Yc:=fdm w base (KS kE X3 Y9 Ya Yb VZ VY W) gN k58 (jk);have Yd:=fdm w base (KU hM Yc W) iK k59 (ju);have Ye:=fdm w base (FX jB Y8 X3 Yd W) j7 k60 (lz);have e6:=fdm w base (Oq iz WJ WD W hP h61) ie k61 (k0);have e8:=fdm w base (Ou lC Y1 Y6 Ye e6 X0 Wc VY W4 W0 er eu W) hY k62 (gW);have Yf:=fdm w base (GK kt WK W) jR k63 (kB);have Yg:=fdm w base (Iz i7 Yf VY W) hA k64 (kG);have Yh:=fdm w base (GJ lA WK W) la k65 (lD);have Yi:=fdm w base (JN jJ XZ e8 Yg Yh W) h0 k66 (gf);have Yj:=fdm w base (KZ jq W) gK k67 (gn);have Yk:=fdm w base (KY je WV W) hR k68 (hu);have Yl:=fdm w base (HM ia Yj Yk W) jw k69 (j4);have Ym:=fdm w base (IC jb Yl W) iO k70 (gj);have Yn:FdM CX0 l.prog w K mg base 42 Y "say" ["self","row"] (Jv K Y 497):=⟨_,_,Li gg eA XW XY Yi Ym W3 W2 W eq eR eP eo eB eN eS,ii,⟨a71,i71,k71⟩⟩;exact U3 gZ eA XC WS XD XE WH XF XH XI Wr XM XT Yn W0 W2 VY VZ W
theorem Vx{l:bY}{q:ce}{O:List Str}{XP:(Str->Option am)->dw->Prop}{d:DefRec}{K:Params->Yx}{as:List ad}{e:∀P,as=(K P).map (·.1)}(hI:PyProof.Rows.importsNone q=true)(hn:l.most=some 63)(ab:d.params.defaults=[])(J:as.contains 497=false)
 (F:∀(w:db) (mg:Str->Option am) (fa:ad) (h:dw),(K w.params).In h->h.Ns ci mg->mg d.name=some (.ref fa) ->
  ∃(fd:bn) (c:ad),bU (K w.params) c 497=true/\(∀(s:aI) (u:am),BindsTo s fd ⟨[u],[]⟩ [("_law_script",u)])/\∀base:dw,(K w.params).In base->base.Ns ci mg->Bm mg base->Ax l.prog w (K w.params) mg base CX0 43 fa fd ["_law_script"] ((fun(K:Yx)=>(Hk K 497:Sp)) (K w.params))) :
 PySem.W.WalkO q O XP (PySem.W.kmHook K as e [497]).says l.row.toRowW d [] (fun f vs=>PySem.call f vs) :=
 L2.P5 (n:=63) (k:=43) (x:="_law_script") (Pt:=497) (CX:=fun _=>CX0) (sp:=fun w=>(fun(K:Yx)=>(Hk K 497:Sp)) (K w.params)) hI hn (by decide) ab ⟨Z,by decide,by decide⟩ (fun w h Y=>⟨PySem.W.km_in_of Y,PySem.W.km_tabs_of Y _ YB,Sa (e _) J⟩) F (fun _ _ a ns hl _ hS hP=>⟨a,ns,Z,hS,hl,hP,fun _=>rfl⟩) fun _ _ _ _ _ z=>z
end Pf
open PySem PySem.W PyProof.Rows
set_option maxRecDepth 100000 in
set_option maxHeartbeats 0 in
theorem PySem.Challenge.cw_onecurve_k69_whole_wrong_heights_at_a_de_holds : PySem.Challenge.rw_onecurve_k69_whole_wrong_heights_at_a_de.Holds := by
 refine zzH ?_
 k_fill
 refine Pf.Vx (l:=PySem.Challenge.rw_onecurve_k69_whole_wrong_heights_at_a_de) (by decide +kernel) rfl rfl rfl ?F
 case F =>
  intro w mg fa h KX G hmg
  refine' Pf.UE rfl KX G hmg ?aC_Desk (.mk ?a1 ?l1 ?c1 ?k1) (.mk ?a2 ?l2 ?c2 ?k2) (.mk ?a3 ?l3 ?c3 ?k3) (.mk ?a4 ?l4 ?c4 ?k4) (.mk ?a5 ?l5 ?c5 ?k5) (.mk ?a6 ?l6 ?c6 ?k6) (.mk ?a7 ?l7 ?c7 ?k7) (.mk ?a8 ?l8 ?c8 ?k8) (.mk ?a9 ?l9 ?c9 ?k9) (.mk ?a10 ?l10 ?c10 ?k10) (.mk ?a11 ?l11 ?c11 ?k11) (.mk ?a12 ?l12 ?c12 ?k12) (.mk ?a13 ?l13 ?c13 ?k13) (.mk ?a14 ?l14 ?c14 ?k14) (.mk ?a15 ?l15 ?c15 ?k15) (.mk ?a16 ?l16 ?c16 ?k16) (.mk ?a17 ?l17 ?c17 ?k17) (.mk ?a18 ?l18 ?c18 ?k18) (.mk ?a19 ?l19 ?c19 ?k19) (.mk ?a20 ?l20 ?c20 ?k20) (.mk ?a21 ?l21 ?c21 ?k21) (.mk ?a22 ?l22 ?c22 ?k22) (.mk ?a23 ?l23 ?c23 ?k23) (.mk ?a24 ?l24 ?c24 ?k24) (.mk ?a25 ?l25 ?c25 ?k25) (.mk ?a26 ?l26 ?c26 ?k26) ?a27 ?i27 ?l27 ?c27 ?k27 (.mk ?a28 ?l28 ?c28 ?k28) (.mk ?a29 ?l29 ?c29 ?k29) (.mk ?a30 ?l30 ?c30 ?k30) (.mk ?a31 ?l31 ?c31 ?k31) (.mk ?a32 ?l32 ?c32 ?k32) (.mk ?a33 ?l33 ?c33 ?k33) (.mk ?a34 ?l34 ?c34 ?k34) (.mk ?a35 ?l35 ?c35 ?k35) (.mk ?a36 ?l36 ?c36 ?k36) (.mk ?a37 ?l37 ?c37 ?k37) (.mk ?a38 ?l38 ?c38 ?k38) (.mk ?a39 ?l39 ?c39 ?k39) (.mk ?a40 ?l40 ?c40 ?k40) (.mk ?a41 ?l41 ?c41 ?k41) (.mk ?a42 ?l42 ?c42 ?k42) (.mk ?a43 ?l43 ?c43 ?k43) (.mk ?a44 ?l44 ?c44 ?k44) (.mk ?a45 ?l45 ?c45 ?k45) (.mk ?a46 ?l46 ?c46 ?k46) (.mk ?a47 ?l47 ?c47 ?k47) (.mk ?a48 ?l48 ?c48 ?k48) (.mk ?a49 ?l49 ?c49 ?k49) (.mk ?a50 ?l50 ?c50 ?k50) (.mk ?a51 ?l51 ?c51 ?k51) (.mk ?a52 ?l52 ?c52 ?k52) (.mk ?a53 ?l53 ?c53 ?k53) (.mk ?a54 ?l54 ?c54 ?k54) (.mk ?a55 ?l55 ?c55 ?k55) (.mk ?a56 ?l56 ?c56 ?k56) (.mk ?a57 ?l57 ?c57 ?k57) (.mk ?a58 ?l58 ?c58 ?k58) (.mk ?a59 ?l59 ?c59 ?k59) (.mk ?a60 ?l60 ?c60 ?k60) (.mk ?a61 ?l61 ?c61 ?k61) (.mk ?a62 ?l62 ?c62 ?k62) (.mk ?a63 ?l63 ?c63 ?k63) (.mk ?a64 ?l64 ?c64 ?k64) (.mk ?a65 ?l65 ?c65 ?k65) (.mk ?a66 ?l66 ?c66 ?k66) (.mk ?a67 ?l67 ?c67 ?k67) (.mk ?a68 ?l68 ?c68 ?k68) (.mk ?a69 ?l69 ?c69 ?k69) (.mk ?a70 ?l70 ?c70 ?k70) ?a71 ?i71 ?l71 ?c71 ?k71 ?a72 ?l72 ?c72 ?k72 ?z_len ?z_abs ?z_range ?z_str ?z_isinstance ?z_set ?z_int ?z_bool ?z_tuple ?z_all ?z_list ?z_zip ?z_reversed ?z_any ?z_sorted ?x_MOST_TOLD ?x_FIGURES ?x_SIX ?x_NOUGHT ?y_NOUGHT ?w_NOUGHT ?d_NOUGHT ?e_NOUGHT ?h61 ?pg_Desk ?hd_Desk ?po_Desk ?sa_Desk ?mk_Desk ?kc_Desk ?na_points_Desk ?nx_COUNTS ?yd_COUNTS ?hs_COUNTS ?y_COUNTS_2 ?w_COUNTS_2 ?d_COUNTS_2 ?e_COUNTS_2 ?y_COUNTS_10 ?w_COUNTS_10 ?d_COUNTS_10 ?e_COUNTS_10 ?y_COUNTS_13 ?w_COUNTS_13 ?d_COUNTS_13 ?e_COUNTS_13 ?nx_LEAST ?yd_LEAST ?hs_LEAST ?y_LEAST_0 ?w_LEAST_0 ?d_LEAST_0 ?e_LEAST_0 ?nx_CHANGES ?yd_CHANGES ?hs_CHANGES ?nx_ANSWERS ?yd_ANSWERS ?hs_ANSWERS
  case aC_Desk | a1 | l1 | c1 | k1 | a2 | l2 | c2 | k2 | a3 | l3 | c3 | k3 | a4 | l4 | c4 | k4 | a5 | l5 | c5 | k5 | a6 | l6 | c6 | k6 | a7 | l7 | c7 | k7 | a8 | l8 | c8 | k8 | a9 | l9 | c9 | k9 | a10 | l10 | c10 | k10 | a11 | l11 | c11 | k11 | a12 | l12 | c12 | k12 | a13 | l13 | c13 | k13 | a14 | l14 | c14 | k14 | a15 | l15 | c15 | k15 | a16 | l16 | c16 | k16 | a17 | l17 | c17 | k17 | a18 | l18 | c18 | k18 | a19 | l19 | c19 | k19 | a20 | l20 | c20 | k20 | a21 | l21 | c21 | k21 | a22 | l22 | c22 | k22 | a23 | l23 | c23 | k23 | a24 | l24 | c24 | k24 | a25 | l25 | c25 | k25 | a26 | l26 | c26 | k26 | a27 | i27 | l27 | c27 | k27 | a28 | l28 | c28 | k28 | a29 | l29 | c29 | k29 | a30 | l30 | c30 | k30 | a31 | l31 | c31 | k31 | a32 | l32 | c32 | k32 | a33 | l33 | c33 | k33 | a34 | l34 | c34 | k34 | a35 | l35 | c35 | k35 | a36 | l36 | c36 | k36 | a37 | l37 | c37 | k37 | a38 | l38 | c38 | k38 | a39 | l39 | c39 | k39 | a40 | l40 | c40 | k40 | a41 | l41 | c41 | k41 | a42 | l42 | c42 | k42 | a43 | l43 | c43 | k43 | a44 | l44 | c44 | k44 | a45 | l45 | c45 | k45 | a46 | l46 | c46 | k46 | a47 | l47 | c47 | k47 | a48 | l48 | c48 | k48 | a49 | l49 | c49 | k49 | a50 | l50 | c50 | k50 | a51 | l51 | c51 | k51 | a52 | l52 | c52 | k52 | a53 | l53 | c53 | k53 | a54 | l54 | c54 | k54 | a55 | l55 | c55 | k55 | a56 | l56 | c56 | k56 | a57 | l57 | c57 | k57 | a58 | l58 | c58 | k58 | a59 | l59 | c59 | k59 | a60 | l60 | c60 | k60 | a61 | l61 | c61 | k61 | a62 | l62 | c62 | k62 | a63 | l63 | c63 | k63 | a64 | l64 | c64 | k64 | a65 | l65 | c65 | k65 | a66 | l66 | c66 | k66 | a67 | l67 | c67 | k67 | a68 | l68 | c68 | k68 | a69 | l69 | c69 | k69 | a70 | l70 | c70 | k70 | a71 | i71 | l71 | c71 | k71 | a72 | l72 | c72 | k72 | z_len | z_abs | z_range | z_str | z_isinstance | z_set | z_int | z_bool | z_tuple | z_all | z_list | z_zip | z_reversed | z_any | z_sorted | x_MOST_TOLD | x_FIGURES | x_SIX | x_NOUGHT | y_NOUGHT=>k_is
  case w_NOUGHT | d_NOUGHT | e_NOUGHT=>rfl
  case h61=>first | rfl | with_unfolding_all rfl
  case pg_Desk | hd_Desk | po_Desk | sa_Desk | mk_Desk | kc_Desk | na_points_Desk | nx_COUNTS | yd_COUNTS=>first | k_is | rfl
  case hs_COUNTS=>rfl
  case y_COUNTS_2=>first | k_is | rfl
  case w_COUNTS_2 | d_COUNTS_2 | e_COUNTS_2=>rfl
  case y_COUNTS_10=>first | k_is | rfl
  case w_COUNTS_10 | d_COUNTS_10 | e_COUNTS_10=>rfl
  case y_COUNTS_13=>first | k_is | rfl
  case w_COUNTS_13 | d_COUNTS_13 | e_COUNTS_13=>rfl
  case nx_LEAST | yd_LEAST=>first | k_is | rfl
  case hs_LEAST=>rfl
  case y_LEAST_0=>first | k_is | rfl
  case w_LEAST_0 | d_LEAST_0 | e_LEAST_0=>rfl
  case nx_CHANGES | yd_CHANGES=>first | k_is | rfl
  case hs_CHANGES=>rfl
  case nx_ANSWERS | yd_ANSWERS=>first | k_is | rfl
  case hs_ANSWERS=>rfl
#print axioms PySem.Challenge.cw_onecurve_k69_whole_wrong_heights_at_a_de_holds
