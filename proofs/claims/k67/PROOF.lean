import PyProof.Rows.All
import Wide.All
import OpenK.AllK
import Wide.FinOn
import Lean
import PyProof.EqAt
import PyProof.EqKinds
import PyProof.TupleCall
import KE.KLam
import KE.KNestM
import PySem.Challenge.RW_onecurve_k67_rows_refused_at_a_desk
open Option renaming some → SD,getD_some → Ux,map_eq_some_iff → Vg
open PySem.W renaming instObj → SE,methodObj → SG,hideAll → SM,of_hideAll → SO,Frag → SR,lookIn → Td,plainGet → Tf,hasDictIn → Th,findIn → Ti,plainGet_of → Tj,isFn → Tn,plainOver → To,takerIn → Tp,makesIn → Tr,emptyDict → Ts,specialIn → Tv,keepIn → Tw,mroIn → TC,kitOne → TF,kia_one → TH,kitx_list → TJ,callWith_K → TL,cellsFrom_some → TU,fnOf → U6,codeIn → U7,OpenLaw → Ue,nsIn → Uz,excIn → UA,mg_of → UB,exmOne → UU,mg_none_of → Vi
open Nat renaming lt_of_lt_of_le → SH,lt_irrefl → SI,ne_of_lt → SJ,le_trans → SU,le_of_lt → SV,ne_of_gt → T8,le_refl → T9,zero_le → Tc,lt_succ_self → Tz,le_succ → TM,lt_of_le_of_lt → Ug,not_lt → Uo,lt_succ_of_lt → Us,sub_lt_sub_left → Uu,zero_add → UG,lt_or_ge → UY,not_lt_zero → UZ,lt_trichotomy → V0,le_add_right → V2,digitChar → V5,gcd → V9
open List renaming range → SK,mem_filter → SN,mem_range → SQ,filterMap_cons → SW,mem_cons_self → SX,mem_cons_of_mem → SY,mem_cons → T1,mem_append → T2,mem_append_left → T3,getElem?_eq_some_iff → T4,getElem?_set_self → T5,getElem?_set_ne → T6,mem_filterMap → Ta,mem_append_right → Tb,any_eq_false → Te,length_cons → Tq,lookup → Tt,map_cons → Tu,length_map → Tx,append_nil → TK,nodup_cons → TN,of_mem_zip → TQ,replicate → TR,length → TV,length_take → TX,getElem?_append_right → TY,getElem?_replicate → TZ,getElem?_append_left → U0,getElem?_map → U1,getElem?_take_of_lt → U2,mem_of_getElem? → U3,length_append → U4,length_replicate → U5,size_toArray → U8,length_drop → Ua,length_set → Ub,any_cons → Uc,length_singleton → Ud,find?_cons → Uh,forIn_cons → Uk,lookup_cons → Ul,all_eq_true → Um,getD_eq_getElem?_getD → Uq,getElem?_drop → Ur,mem_singleton → Ut,getElem?_eq_getElem → Uv,getElem_mem → Uw,cons → Uy,take_of_length_le → UC,length_range → UI,getElem?_of_mem → UM,getElem_range → UN,filterMap_cons_some → UP,map_append → UQ,length_eq_zero_iff → US,take_add_one → UW,take_length → UX,getElem?_cons_succ → V1,mem_map → V4,append_assoc → V6,map_map → V7,cons_ne_nil → Va,any_eq_true → Vb,append_eq_nil_iff → Vc,map_singleton → Vd,eq_nil_of_length_eq_zero → Vf,length_pos_iff → Vh
open Array renaming length_toList → T7,getElem?_toList → UH,getD_eq_getD_getElem? → UJ,getElem?_eq_none → UK,getElem?_setIfInBounds_ne → UL,getElem?_eq_getElem → UO,replicate → UR,getElem?_eq_some_iff → UT,getElem?_setIfInBounds → V3,all_eq_true' → V8
open Int renaming toNat_natCast → U9,gcd → Ui,emod_nonneg → UD,emod_lt_of_pos → UE,natCast_nonneg → Ve
open Rat renaming divInt → Uj
set_option Elab.async false
set_option linter.all false
set_option maxRecDepth 100000
def PySem.W.Fast.tw41940119405678152 : Unit:=()
def PySem.W.Fast.tw3647506103418065830 : Unit:=()
def PySem.W.Fast.tw15125268521013800432 : Unit:=()
def PySem.W.Fast.tw8652606531853447430 : Unit:=()
def PySem.W.Fast.tw12600986460215746521 : Unit:=()
def PySem.W.Fast.tw16156531822901150848 : Unit:=()
def PySem.W.Fast.tw16476309637179774507 : Unit:=()
def PySem.W.Fast.tw17995831548903249077 : Unit:=()
def PySem.W.Fast.tw3744656172259277748 : Unit:=()
def PySem.W.Fast.tw4349086225591987104 : Unit:=()
def PySem.W.Fast.tw16963355737192293252 : Unit:=()
def PySem.W.Fast.tw14133214668321589594 : Unit:=()
def PySem.W.Fast.tw15907899601189671491 : Unit:=()
def PySem.W.Fast.tw13791088588405483266 : Unit:=()
def PySem.W.Fast.tw11007294475530563535 : Unit:=()
def PySem.W.Fast.tw58727109729296271 : Unit:=()
def PySem.W.Fast.tw5802136952342732369 : Unit:=()
def PySem.W.Fast.tw17327258937719769749 : Unit:=()
def PySem.W.Fast.tw4350815776203002379 : Unit:=()
def PySem.W.Fast.tw2971110750642716655 : Unit:=()
def PySem.W.Fast.tw8445394877626628703 : Unit:=()
def PySem.W.Fast.tw3087598524068303787 : Unit:=()
def PySem.W.Fast.tw16663665872693583879 : Unit:=()
def PySem.W.Fast.tw6907198427832384120 : Unit:=()
def PySem.W.Fast.tw45587561405241109 : Unit:=()
def PySem.W.Fast.tw11932656125198246662 : Unit:=()
def PySem.W.Fast.tw9786901057210549964 : Unit:=()
def PySem.W.Fast.tw10875894179560836994 : Unit:=()
def PySem.W.Fast.tw16187243010738414880 : Unit:=()
def PySem.W.Fast.tw6700848251746395416 : Unit:=()
def PySem.W.Fast.tw7029062910374691035 : Unit:=()
def PySem.W.Fast.tw17035058623459334709 : Unit:=()
def PySem.W.Fast.tw10086163200740409125 : Unit:=()
def PySem.W.Fast.tw10417207482658295045 : Unit:=()
def PySem.W.Fast.tw15278149986580057852 : Unit:=()
def PySem.W.Fast.tw4962163642110340596 : Unit:=()
def PySem.W.Fast.tw6423249325811627400 : Unit:=()
def PySem.W.Fast.tw9760925466902936584 : Unit:=()
def PySem.W.Fast.tw458424175314854565 : Unit:=()
def PySem.W.Fast.tw13805201485325413149 : Unit:=()
def PySem.W.Fast.tw11443179240108620161 : Unit:=()
def PySem.W.Fast.tw6764302976007871798 : Unit:=()
def PySem.W.Fast.tw10872739280795056216 : Unit:=()
def PySem.W.Fast.tw17870516956767888997 : Unit:=()
def PySem.W.Fast.tw17047305155303337922 : Unit:=()
def PySem.W.Fast.tw12291748348010164357 : Unit:=()
def PySem.W.Fast.tw8960253024066001690 : Unit:=()
def PySem.W.Fast.tw7909468246413039282 : Unit:=()
def PySem.W.Fast.tw17298743294678249128 : Unit:=()
def PySem.W.Fast.tw17468564105531723366 : Unit:=()
def PySem.W.Fast.tw6636171649978883540 : Unit:=()
def PySem.W.Fast.tw17894986314786945117 : Unit:=()
def PySem.W.Fast.tw18259054480742618924 : Unit:=()
def PySem.W.Fast.tw16397586679558622713 : Unit:=()
def PySem.W.Fast.tw12444765193489341390 : Unit:=()
def PySem.W.Fast.tw15125249793092713167 : Unit:=()
def PySem.W.Fast.tw4305700656662797487 : Unit:=()
def PySem.W.Fast.tw4122762355578813193 : Unit:=()
def PySem.W.Fast.tw15231123294709006171 : Unit:=()
def PySem.W.Fast.tw8813971360865096443 : Unit:=()
def PySem.W.Fast.tw34973819011298372 : Unit:=()
def PySem.W.Fast.tw7998882145499527291 : Unit:=()
def PySem.W.Fast.tw8444485474815169660 : Unit:=()
def PySem.W.Fast.tw18077252451504420907 : Unit:=()
def PySem.W.Fast.tw17523141691240183947 : Unit:=()
def PySem.W.Fast.tw14083174811912550360 : Unit:=()
def PySem.W.Fast.tw15049915579882222966 : Unit:=()
def PySem.W.Fast.tw10832372714902493594 : Unit:=()
def PySem.W.Fast.tw475504637203379571 : Unit:=()
def PySem.W.Fast.tw9011261684028344089 : Unit:=()
def PySem.W.Fast.tw13693151698970425645 : Unit:=()
def PySem.W.Fast.tw1131947718004389158 : Unit:=()
def PySem.W.Fast.tw10526450278244441347 : Unit:=()
def PySem.W.Fast.tw14444243655846921180 : Unit:=()
def PySem.W.Fast.tw1187621738648859521 : Unit:=()
def PySem.W.Fast.tw12751941453178770398 : Unit:=()
def PySem.W.Fast.tw4021553388958230548 : Unit:=()
def PySem.W.Fast.tw13768022111668724869 : Unit:=()
def PySem.W.Fast.tw12694839693287152077 : Unit:=()
def PySem.W.Fast.tw682118853340491869 : Unit:=()
def PySem.W.Fast.tw15514582627573258888 : Unit:=()
def PySem.W.Fast.tw11557597321514647845 : Unit:=()
def PySem.W.Fast.tw14867786009866499097 : Unit:=()
def PySem.W.Fast.tw14566508052013018515 : Unit:=()
def PySem.W.Fast.tw1260109841076350968 : Unit:=()
def PySem.W.Fast.tw3854841386772124976 : Unit:=()
def PySem.W.Fast.tw15047622715211203024 : Unit:=()
def PySem.W.Fast.tw17140658278270960245 : Unit:=()
def PySem.W.Fast.tw16243889811187139481 : Unit:=()
def PySem.W.Fast.tw361988391260621986 : Unit:=()
def PySem.W.Fast.tw7679866490473911567 : Unit:=()
def PySem.W.Fast.tw1794366587606141612 : Unit:=()
def PySem.W.Fast.tw13044712297643904012 : Unit:=()
def PySem.W.Fast.tw1209302167439636750 : Unit:=()
def PySem.W.Fast.tw8240843510282647560 : Unit:=()
def PySem.W.Fast.tw7402331550376179462 : Unit:=()
def PySem.W.Fast.tw4413022062167165213 : Unit:=()
def PySem.W.Fast.tw1184046474409959372 : Unit:=()
def PySem.W.Fast.tw13785016668194262028 : Unit:=()
def PySem.W.Fast.tw12604268014939324214 : Unit:=()
def PySem.W.Fast.tw4850474363754552651 : Unit:=()
def PySem.W.Fast.tw16614997268779884555 : Unit:=()
def PySem.W.Fast.tw3560395354772753168 : Unit:=()
def PySem.W.Fast.tw17459055506807565144 : Unit:=()
def PySem.W.Fast.tw11583934255650758092 : Unit:=()
def PySem.W.Fast.tw8051175819202115056 : Unit:=()
def PySem.W.Fast.tw9769508752530027236 : Unit:=()
def PySem.W.Fast.tw11715771771521356290 : Unit:=()
def PySem.W.Fast.tw68583207552925679 : Unit:=()
def PySem.W.Fast.tw16561358892256376566 : Unit:=()
def PySem.W.Fast.tw14910196054460333845 : Unit:=()
def PySem.W.Fast.tw3181263768780339815 : Unit:=()
def PySem.W.Fast.tw3456759982494602791 : Unit:=()
def PySem.W.Fast.tw17754226604838882737 : Unit:=()
def PySem.W.Fast.tw3107251899477543632 : Unit:=()
def PySem.W.Fast.tw15852167397033561657 : Unit:=()
def PySem.W.Fast.tw2344555252993093685 : Unit:=()
def PySem.W.Fast.tw7655348549001961377 : Unit:=()
def PySem.W.Fast.tw2502255005325697731 : Unit:=()
def PySem.W.Fast.tw2696803057755942406 : Unit:=()
def PySem.W.Fast.tw12551272122512833202 : Unit:=()
def PySem.W.Fast.tw4389886886427072020 : Unit:=()
def PySem.W.Fast.tw621280365857966615 : Unit:=()
def PySem.W.Fast.tw1738568732085095695 : Unit:=()
def PySem.W.Fast.tw6296442822449079070 : Unit:=()
def PySem.W.Fast.tw8598008129510287140 : Unit:=()
def PySem.W.Fast.tw4896991943567978086 : Unit:=()
def PySem.W.Fast.tw1717908055543718119 : Unit:=()
def PySem.W.Fast.tw343466167905086371 : Unit:=()
def PySem.W.Fast.tw16010082561611172176 : Unit:=()
def PySem.W.Fast.tw10010073308102505051 : Unit:=()
def PySem.W.Fast.tw2606605179533921204 : Unit:=()
def PySem.W.Fast.tw3779278523833752615 : Unit:=()
def PySem.W.Fast.tw6669637016587956254 : Unit:=()
def PySem.W.Fast.tw17366483908993452237 : Unit:=()
def PySem.W.Fast.tw5768017029299390605 : Unit:=()
def PySem.W.Fast.tw14080317841664900947 : Unit:=()
def PySem.W.Fast.tw10561614532807449646 : Unit:=()
def PySem.W.Fast.tw11732770032957261708 : Unit:=()
def PySem.W.Fast.tw12671635077959887559 : Unit:=()
def PySem.W.Fast.tw9077499961655234275 : Unit:=()
def PySem.W.Fast.tw14676607702438317844 : Unit:=()
def PySem.W.Fast.tw17981127900538233253 : Unit:=()
def PySem.W.Fast.tw12883226717174072929 : Unit:=()
def PySem.W.Fast.tw11563222243963900501 : Unit:=()
def PySem.W.Fast.tw14351239917468089635 : Unit:=()
def PySem.W.Fast.tw6272106215586880770 : Unit:=()
def PySem.W.Fast.tw13766890929068508089 : Unit:=()
def PySem.W.Fast.tw15951822209966280781 : Unit:=()
def PySem.W.Fast.tw2464449550956264604 : Unit:=()
def PySem.W.Fast.tw993318610756450481 : Unit:=()
def PySem.W.Fast.tw17574924007504898019 : Unit:=()
def PySem.W.Fast.tw1573883241084570941 : Unit:=()
def PySem.W.Fast.tw7158325666586535050 : Unit:=()
def PySem.W.Fast.tw3033000801795871308 : Unit:=()
def PySem.W.Fast.tw11936862169826932937 : Unit:=()
def PySem.W.Fast.tw5966370430561559827 : Unit:=()
def PySem.W.Fast.tw14141145716924045246 : Unit:=()
def PySem.W.Fast.tw6685873950768423580 : Unit:=()
def PySem.W.Fast.tw8082525622098575004 : Unit:=()
def PySem.W.Fast.tw17941838207570625409 : Unit:=()
def PySem.W.Fast.tw5615041290372728251 : Unit:=()
def PySem.W.Fast.tw2374508889342742352 : Unit:=()
def PySem.W.Fast.tw3646038578455805271 : Unit:=()
def PySem.W.Fast.tw1716020845021695711 : Unit:=()
def PySem.W.Fast.tw13745468481787434895 : Unit:=()
def PySem.W.Fast.tw12712464894885122247 : Unit:=()
def PySem.W.Fast.tw8726136223719687720 : Unit:=()
def PySem.W.Fast.tw3619904248306880355 : Unit:=()
def PySem.W.Fast.tw15167467963170242115 : Unit:=()
def PySem.W.Fast.tw1726650934361328923 : Unit:=()
def PySem.W.Fast.tw14512900130325651676 : Unit:=()
def PySem.W.Fast.tw5644102173096833478 : Unit:=()
def PySem.W.Fast.tw1493195895237328973 : Unit:=()
def PySem.W.Fast.tw9873085400873918191 : Unit:=()
def PySem.W.Fast.tw5598960901190125371 : Unit:=()
def PySem.W.Fast.tw11021576845535984082 : Unit:=()
def PySem.W.Fast.tw12711737379761468000 : Unit:=()
def PySem.W.Fast.tw18046769329787935796 : Unit:=()
def PySem.W.Fast.tw1266551375814185321 : Unit:=()
def PySem.W.Fast.tw3844435602250123641 : Unit:=()
def PySem.W.Fast.tw15912748628071754266 : Unit:=()
def PySem.W.Fast.tw18019686006727952325 : Unit:=()
def PySem.W.Fast.tw4252253213113263801 : Unit:=()
def PySem.W.Fast.tw5786802440916883519 : Unit:=()
def PySem.W.Fast.tw15115280993331158948 : Unit:=()
def PySem.W.Fast.tw9436797506925631088 : Unit:=()
def PySem.W.Fast.tw16696970110862347987 : Unit:=()
def PySem.W.Fast.tw9487412729115586208 : Unit:=()
def PySem.W.Fast.tw1235205170296859753 : Unit:=()
def PySem.W.Fast.tw422942714345350134 : Unit:=()
def PySem.W.Fast.tw10735498157041466061 : Unit:=()
def PySem.W.Fast.tw5967894683388254108 : Unit:=()
def PySem.W.Fast.tw10288005310680499490 : Unit:=()
def PySem.W.Fast.tw9456907927593901006 : Unit:=()
def PySem.W.Fast.tw16014238922788342806 : Unit:=()
def PySem.W.Fast.tw10608064211566036177 : Unit:=()
def PySem.W.Fast.tw8289436998967072545 : Unit:=()
def PySem.W.Fast.tw3296228719597986181 : Unit:=()
def PySem.W.Fast.tw7214506149311207702 : Unit:=()
def PySem.W.Fast.tw14203232895248225991 : Unit:=()
def PySem.W.Fast.tw7052487374083455452 : Unit:=()
def PySem.W.Fast.tw5626402333611626420 : Unit:=()
def PySem.W.Fast.tw5221072658367912132 : Unit:=()
def PySem.W.Fast.tw8948394456235634372 : Unit:=()
def PySem.W.Fast.tw10812323210790656532 : Unit:=()
def PySem.W.Fast.tw4215102954309214178 : Unit:=()
def PySem.W.Fast.tw14819705321083490113 : Unit:=()
def PySem.W.Fast.tw3234516348037348279 : Unit:=()
def PySem.W.Fast.tw6566435876232116532 : Unit:=()
def PySem.W.Fast.tw8622572040931022249 : Unit:=()
def PySem.W.Fast.tw2369676268678431522 : Unit:=()
def PySem.W.Fast.tw12291773697627041310 : Unit:=()
def PySem.W.Fast.tw98228648622377046 : Unit:=()
def PySem.W.Fast.tw15693690533555310053 : Unit:=()
def PySem.W.Fast.tw9818848077531319480 : Unit:=()
def PySem.W.Fast.tw12583791730926513808 : Unit:=()
def PySem.W.Fast.tw16825922959432277694 : Unit:=()
def PySem.W.Fast.tw493863384071365690 : Unit:=()
def PySem.W.Fast.tw3312534623212979352 : Unit:=()
def PySem.W.Fast.tw16271440589024261677 : Unit:=()
def PySem.W.Fast.tw8578183088252433100 : Unit:=()
def PySem.W.Fast.tw4200517277410706507 : Unit:=()
def PySem.W.Fast.tw15490191427132048272 : Unit:=()
def PySem.W.Fast.tw1087128724078904015 : Unit:=()
def PySem.W.Fast.tw12899950670419690754 : Unit:=()
def PySem.W.Fast.tw5577183979937703330 : Unit:=()
def PySem.W.Fast.tw11317107572557847266 : Unit:=()
def PySem.W.Fast.tw14844654170374437369 : Unit:=()
def PySem.W.Fast.tw5310848642536407941 : Unit:=()
def PySem.W.Fast.tw8907380731241373628 : Unit:=()
def PySem.W.Fast.tw2717855910545709703 : Unit:=()
set_option maxRecDepth 100000 in
set_option maxHeartbeats 0 in
open_top zzH for PySem.Challenge.rw_onecurve_k67_rows_refused_at_a_desk
namespace L2
open PySem PySem.Spec PyProof.Rows
abbrev Key:=Sum Int Str
def Hz : Key → Value → Bool
 | .inl k,v=>Value.isInt k v
 | .inr x,v=>Value.isStrOf x v
def QM (w : World) : Key → Int
 | .inl k=>hashInt k
 | .inr x=>hashStr w x
theorem Bs : ∀ {k : Key} {v : Value},Hz k v = true → (∃ i t,k = Sum.inl i ∧ v = Value.int i t) ∨ (∃ x t,k = Sum.inr x ∧ v = Value.str x t)
 | .inl i,v,h=>by
   obtain ⟨t,e⟩:=Value.isInt_shape (k:=i) (v:=v) h
   exact .inl ⟨i,t,rfl,e⟩
 | .inr x,v,h=>by
   obtain ⟨t,e⟩:=Value.isStrOf_shape (x:=x) (v:=v) h
   exact .inr ⟨x,t,rfl,e⟩
theorem Lq (i : Int) (t : Tok) : Hz (.inl i) (.int i t) = true:=by simp [Hz,Value.isInt]
theorem Lp (x : Str) (t : Tok) : Hz (.inr x) (.str x t) = true:=by simp [Hz,Value.isStrOf]
theorem OZ (a b : Int) : decide ((Sum.inl a : Key) = Sum.inl b) = (a == b):=by
 by_cases e : a = b
 ·subst e; simp
 ·have h : ¬ (Sum.inl a : Key) = Sum.inl b:=fun q=>e (Sum.inl.inj q)
  rw [decide_eq_false h]
  exact (beq_eq_false_iff_ne.mpr e).symm
theorem OW (a b : Str) : decide ((Sum.inr a : Key) = Sum.inr b) = decide (a = b):=by
 by_cases e : a = b
 ·subst e; simp
 ·have h : ¬ (Sum.inr a : Key) = Sum.inr b:=fun q=>e (Sum.inr.inj q)
  rw [decide_eq_false h,decide_eq_false e]
theorem OY (a : Int) (b : Str) : decide ((Sum.inl a : Key) = Sum.inr b) = false:=decide_eq_false (fun q=>nomatch q)
theorem OX (a : Str) (b : Int) : decide ((Sum.inr a : Key) = Sum.inl b) = false:=decide_eq_false (fun q=>nomatch q)
def BO (prog : Program) (w : World) : PySem.KeyKind prog w Key where
 is:=Hz
 hash:=QM w
 inj:=fun v a b ha hb=>by
  rcases Bs ha with ⟨i,t,rfl,rfl⟩ | ⟨x,t,rfl,rfl⟩
  ·rcases Bs hb with ⟨j,u,rfl,e⟩ | ⟨y,u,rfl,e⟩
   ·injection e with e1 _; rw [e1]
   ·exact nomatch e
  ·rcases Bs hb with ⟨j,u,rfl,e⟩ | ⟨y,u,rfl,e⟩
   ·exact nomatch e
   ·injection e with e1 _; rw [e1]
 byValue:=fun k v h=>by
  rcases Bs h with ⟨i,t,rfl,rfl⟩ | ⟨x,t,rfl,rfl⟩ <;> rfl
 pyHash:=fun hv h=>by
  rcases Bs hv with ⟨i,t,rfl,rfl⟩ | ⟨x,t,rfl,rfl⟩
  ·exact wpAny_pyHash_int h
  ·exact wpAny_pyHash_str h
 eqBool:=fun hu hv h=>by
  rcases Bs hu with ⟨i,t,rfl,rfl⟩ | ⟨x,t,rfl,rfl⟩
  ·rcases Bs hv with ⟨j,u,rfl,rfl⟩ | ⟨y,u,rfl,rfl⟩
   ·rw [OZ] at h; exact wpAny_eqBool_int h
   ·rw [OY] at h; exact SeqAt.EqAt.int_str i t y u _ _ _ _ h
  ·rcases Bs hv with ⟨j,u,rfl,rfl⟩ | ⟨y,u,rfl,rfl⟩
   ·rw [OX] at h; exact SeqAt.EqAt.str_int x t j u _ _ _ _ h
   ·rw [OW] at h; exact wpAny_eqBool_str h
 «strs»:=fun k x t v h=>by
  rcases Bs h with ⟨i,u,rfl,e⟩ | ⟨y,u,rfl,e⟩
  ·exact nomatch e
  ·injection e with e1 _
   subst e1
   cases v <;> rfl
theorem Jg (prog : Program) (w : World) (i : Int) (t : Tok) : (BO prog w).is (.inl i) (.int i t) = true:=Lq i t
theorem Jf (prog : Program) (w : World) (x : Str) (t : Tok) : (BO prog w).is (.inr x) (.str x t) = true:=Lp x t
end L2
namespace L2
open PySem PySem.Spec PyProof.Rows
inductive V where
 | non | bl (b : Bool) | int (i : Int) | str (x : Str) | byt (b : Array UInt8) | flt (b : UInt64) | ref (a : Addr) | ty (n : String)
 deriving DecidableEq
def AR : V → Value → Prop
 | .non,u=>u = Value.none
 | .bl b,u=>u = Value.bool b
 | .int i,u=>∃ t,u = Value.int i t
 | .str x,u=>∃ t,u = Value.str x t
 | .byt b,u=>∃ t,u = Value.bytes b t
 | .flt b,u=>∃ t,u = Value.float b t
 | .ref a,u=>u = Value.ref a
 | .ty n,u=>u = Value.type n
abbrev AN : List V → List Value → Prop:=Paired AR
theorem AN.length {xs : List V} {us : List Value} (r : AN xs us) : xs.length = us.length:=Paired.length r
theorem AN.get : ∀ {xs : List V} {us : List Value} {i : Nat} {x : V},AN xs us → xs[i]? = some x → ∃ u,us[i]? = some u ∧ AR x u
 | _,_,_,_,.nil,e=>by simp at e
 | _,_,0,_,.cons r _,e=>by simp at e; subst e; exact ⟨_,rfl,r⟩
 | _,_,i + 1,x,.cons _ t,e=>by
   obtain ⟨u,h1,h2⟩:=AN.get (i:=i) (x:=x) t (by simpa using e)
   exact ⟨u,by simpa using h1,h2⟩
theorem AN.set {x : V} {u : Value} (r : AR x u) : ∀ {xs : List V} {us : List Value} (i : Nat),AN xs us → AN (xs.set i x) (us.set i u)
 | _,_,_,.nil=>.nil
 | _,_,0,.cons _ t=>.cons r t
 | _,_,i + 1,.cons q t=>.cons q (AN.set r i t)
theorem AN.append {xs ys : List V} {us ws : List Value} (a : AN xs us) (b : AN ys ws) : AN (xs ++ ys) (us ++ ws):=by
 induction a with
 | nil=>exact b
 | cons r t ih=>exact .cons r ih
theorem AN.take : ∀ {xs : List V} {us : List Value} (n : Nat),AN xs us → AN (xs.take n) (us.take n)
 | _,_,0,_=>.nil
 | _,_,_ + 1,.nil=>.nil
 | _,_,n + 1,.cons r t=>.cons r (AN.take n t)
theorem AN.drop : ∀ {xs : List V} {us : List Value} (n : Nat),AN xs us → AN (xs.drop n) (us.drop n)
 | _,_,0,r=>r
 | _,_,_ + 1,.nil=>.nil
 | _,_,n + 1,.cons _ t=>AN.drop n t
def E7 : Option V → Option Value → Prop
 | some v,some u=>AR v u
 | none,none=>True
 | _,_=>False
def KV {κ : Type} : List (κ × V) → List (κ × Value) → Prop:=Paired fun (p : κ × V) (q : κ × Value)=>p.1 = q.1 ∧ AR p.2 q.2
def kV : Key → V
 | .inl i=>.int i
 | .inr x=>.str x
inductive HO where
 | lst (xs : List V)
 | tup (xs : List V)
 | dK (kvs : List (Key × V)) | dT (kvs : List (List Key × V))
 | set (S : Int → Bool) (n : Nat)
 | ins (C dx : Addr) (fs : List (Str × V))
 | own (x : Addr)
 | xd (fs : List (Str × V))
 | met (f x : Addr)
 | rng (lo hi : Int)
 | frz (o : Obj) (u : HO)
 | tbl (ps : Array Value)
 | ext (φ : Heap → Prop)
abbrev Hp:=Addr → Option HO
def upd (H : Hp) (a : Addr) (o : HO) : Hp:=fun b=>if b = a then some o else H b
theorem Ab {H : Hp} {a : Addr} {o : HO} : upd H a o a = some o:=by unfold upd; rw [if_pos rfl]
theorem As {H : Hp} {a b : Addr} {o : HO} (h : b ≠ a) : upd H a o b = H b:=by unfold upd; rw [if_neg h]
theorem N4 {H : Hp} {a : Addr} {o u : HO} : upd (upd H a o) a u = upd H a u:=by
 funext b; unfold upd; split <;> rfl
theorem DN {H : Hp} {a b : Addr} {o u : HO} (h : H a = some o) (h' : H b = some u) (d : o ≠ u) : a ≠ b:=by
 intro e; subst e; rw [h] at h'; exact d (SD.inj h')
theorem Aq {H : Hp} {a b : Addr} {o : HO} (h : H a = some o) (h' : H b = none) : a ≠ b:=by
 intro e; subst e; rw [h] at h'; cases h'
section
variable (P : Program) (w : World)
def BF (H : Hp) (h : Heap) (a : Addr) : HO → Prop
 | .lst xs=>xs.length ≤ sizeLine ∧ ∃ (its : List Value) (n : Nat),AN xs its ∧ h.get? a = some { cls:=.type "list",data:=.seq its.toArray n }
 | .tup xs=>xs.length ≤ sizeLine ∧ ∃ its : List Value,AN xs its ∧ IsTup h a its.toArray
 | .dK kvs=>kvs.length ≤ sizeLine ∧ (a == sysModules) = false ∧ ∃ vs,KV kvs vs ∧ h.DictOf (BO P w) a vs
 | .dT kvs=>kvs.length ≤ sizeLine ∧ (a == sysModules) = false ∧ ∃ xs : List (List Key × Addr × Value),
  Paired (fun (p : List Key × V) (q : List Key × Addr × Value)=>p.1 = q.1 ∧ H q.2.1 = some (.tup (p.1.map kV)) ∧ AR p.2 q.2.2) kvs xs ∧
  ∃ o es ep,h.get? a = some o ∧ o.ExactDict ∧ o.data = .dict es ep ∧ es.toList = xs.map (entryOfKey (tupleKind (BO P w))) ∧ (xs.map (·.1)).Nodup
 | .set S n=>h.SetOf (intKind P w) a S n
 | .ins C dx fs=>H dx = some (.own a) ∧ fs.length ≤ 1000 ∧ dx ≠ a ∧ h.get? a = some (SE C dx) ∧
  ∃ mA,h.Ns1 dx mA ∧ (∀ f,E7 (fs.lookup f) (mA f)) ∧ PySem.Within mA (fs.map (·.1))
 | .own _=>∃ o,h.get? a = some o
 | .xd fs=>∃ mA,h.Ns1 a mA ∧ ∀ f,E7 (fs.lookup f) (mA f)
 | .rng lo hi=>∃ t u v,h.get? a = some { cls:=.type "range",data:=.fields #[.int lo t,.int hi u,.int 1 v] }
 | .frz o u=>h.get? a = some o ∧ BF H h a u
 | .tbl ps=>h.get? a = some { cls:=.none,data:=.fields ps }
 | .met f x=>h.get? a = some (SG (.ref f) (.ref x))
 | .ext φ=>φ h ∧ (∃ o,h.get? a = some o) ∧ ∀ h1 h2 : Heap,φ h1 → (∀ o,h1.get? a = some o → h2.get? a = some o) → φ h2
def HOk (H : Hp) (h : Heap) : Prop:=∀ a o,H a = some o → BF P w H h a o
end
section
variable {P : Program} {w : World} {H H' : Hp} {h h' : Heap} {a : Addr} {o : HO}
theorem BF.lt (x : BF P w H h a o) : a < h.objs.size:=by
 cases o with
 | lst xs=>obtain ⟨_,_,_,_,e⟩:=x; exact Heap.lt_size e
 | tup xs=>obtain ⟨_,_,_,p⟩:=x; exact p.lt
 | dK kvs=>obtain ⟨_,_,_,_,o,_,_,e,_⟩:=x; exact Heap.lt_size e
 | dT kvs=>obtain ⟨_,_,_,_,o,_,_,e,_⟩:=x; exact Heap.lt_size e
 | set S n=>obtain ⟨o,_,_,_,e,_⟩:=x; exact Heap.lt_size e
 | ins C dx fs=>obtain ⟨_,_,_,e,_⟩:=x; exact Heap.lt_size e
 | own y=>obtain ⟨_,e⟩:=x; exact Heap.lt_size e
 | xd fs=>obtain ⟨_,⟨_,_,_,e,_⟩,_⟩:=x; exact Heap.lt_size e
 | rng lo hi=>obtain ⟨_,_,_,e⟩:=x; exact Heap.lt_size e
 | frz ob u=>obtain ⟨e,_⟩:=x; exact Heap.lt_size e
 | tbl ps=>exact Heap.lt_size (show h.get? a = some _ from x)
 | met f y=>exact Heap.lt_size (show h.get? a = some _ from x)
 | ext φ=>obtain ⟨_,⟨_,e⟩,_⟩:=x; exact Heap.lt_size e
theorem Paired.mapP {α β : Type} {F G : α → β → Prop} {l₁ : List α} {l₂ : List β} (h : Paired F l₁ l₂) (f : ∀ a b,F a b → G a b) : Paired G l₁ l₂:=by
 induction h with
 | nil=>exact .nil
 | cons r t ih=>exact .cons (f _ _ r) ih
theorem BF.stay (x : BF P w H h a o) (k : ∀ b u,(b = a ∨ H b = some (.own a)) → h.get? b = some u → h'.get? b = some u)
 (ho : ∀ b,H b = some (.own a) → H' b = some (.own a)) (ht : ∀ b xs,H b = some (.tup xs) → H' b = some (.tup xs)) : BF P w H' h' a o:=by
 induction o with
 | lst xs=>obtain ⟨z,its,n,r,e⟩:=x; exact ⟨z,its,n,r,k _ _ (.inl rfl) e⟩
 | tup xs=>obtain ⟨z,its,r,ob,e,c⟩:=x; exact ⟨z,its,r,ob,k _ _ (.inl rfl) e,c⟩
 | dK kvs=>obtain ⟨z,y,vs,r,ob,es,ep,e,c⟩:=x; exact ⟨z,y,vs,r,ob,es,ep,k _ _ (.inl rfl) e,c⟩
 | dT kvs =>
   obtain ⟨z,y,xs,r,ob,es,ep,e,c⟩:=x
   exact ⟨z,y,xs,Paired.mapP r fun p q z=>⟨z.1,ht _ _ z.2.1,z.2.2⟩,ob,es,ep,k _ _ (.inl rfl) e,c⟩
 | set S n=>obtain ⟨ob,es,ep,t,e,c⟩:=x; exact ⟨ob,es,ep,t,k _ _ (.inl rfl) e,c⟩
 | ins C dx fs =>
   obtain ⟨d,z,ne,e,mA,⟨od,es,ep,e2,c⟩,r⟩:=x
   exact ⟨ho _ d,z,ne,k _ _ (.inl rfl) e,mA,⟨od,es,ep,k _ _ (.inr d) e2,c⟩,r⟩
 | own y=>obtain ⟨ob,e⟩:=x; exact ⟨ob,k _ _ (.inl rfl) e⟩
 | xd fs=>obtain ⟨mA,⟨od,es,ep,e,c⟩,r⟩:=x; exact ⟨mA,⟨od,es,ep,k _ _ (.inl rfl) e,c⟩,r⟩
 | rng lo hi=>obtain ⟨t,u,v,e⟩:=x; exact ⟨t,u,v,k _ _ (.inl rfl) e⟩
 | frz ob u ih=>obtain ⟨e,q⟩:=x; exact ⟨k _ _ (.inl rfl) e,ih q⟩
 | tbl ps =>
   have e : h.get? a = some { cls:=.none,data:=.fields ps }:=x
   show h'.get? a = some { cls:=.none,data:=.fields ps }
   exact k a _ (.inl rfl) e
 | met f y =>
   have e : h.get? a = some (SG (.ref f) (.ref y)):=x
   show h'.get? a = some (SG (.ref f) (.ref y))
   exact k a _ (.inl rfl) e
 | ext φ=>obtain ⟨p,⟨o,e⟩,st⟩:=x; exact ⟨st _ _ p fun o q=>k _ _ (.inl rfl) q,⟨o,k _ _ (.inl rfl) e⟩,st⟩
theorem HOk.lt (x : HOk P w H h) (e : H a = some o) : a < h.objs.size:=(x a o e).lt
theorem HOk.fresh (x : HOk P w H h) (e : h.objs.size ≤ a) : H a = none:=by
 cases q : H a with
 | none=>rfl
 | some u=>exact absurd (SH (x.lt q) e) (SI _)
theorem HOk.kept (x : HOk P w H h) (k : ∀ b u,h.get? b = some u → h'.get? b = some u) : HOk P w H h':=fun a o e =>
 (x a o e).stay (fun b u _ q=>k b u q) (fun _ q=>q) fun _ _ q=>q
theorem HOk.laid (x : HOk P w H h) (k : ∀ b u,h.get? b = some u → h'.get? b = some u) (hp : h.objs.size ≤ a) (new : BF P w (upd H a o) h' a o) : HOk P w (upd H a o) h':=fun b u e=>by
 have hn:=x.fresh hp
 by_cases hb : b = a
 ·subst hb; rw [Ab] at e; cases e; exact new
 ·rw [As hb] at e
  exact (x b u e).stay (fun c v _ q=>k c v q) (fun c q=>by rw [As (Aq q hn)]; exact q) fun c xs q=>by rw [As (Aq q hn)]; exact q
end
def Rd (H : Hp) (a : Addr) (u : HO) : Prop:=H a = some u ∨ ∃ o,H a = some (.frz o u)
theorem Rd.ok {P : Program} {w : World} {H : Hp} {h : Heap} {a : Addr} {u : HO} (r : Rd H a u) (x : HOk P w H h) : BF P w H h a u:=by
 rcases r with r | ⟨o,r⟩
 ·exact x a u r
 ·obtain ⟨_,q⟩:=x a _ r
  exact q
def Mut : Option HO → Prop
 | some (.lst _)=>True
 | some (.dK _)=>True
 | some (.dT _)=>True
 | some (.set _ _)=>True
 | some (.ins _ _ _)=>True
 | some (.ext _)=>True
 | _=>False
section
variable {P : Program} {w : World} {H : Hp} {h h' : Heap} {x e : Addr} {o' : HO}
theorem HOk.write (ok : HOk P w H h) (mu : Mut (H x)) (he : e = x ∨ H e = some (.own x)) (k : ∀ b u,b ≠ e → h.get? b = some u → h'.get? b = some u) (heo : ∃ u,h'.get? e = some u)
 (new : BF P w (upd H x o') h' x o') : HOk P w (upd H x o') h':=fun b u q=>by
 have nown : ∀ c y,H c = some (.own y) → c ≠ x:=fun c y r z=>by subst z; rw [r] at mu; exact mu
 have ntup : ∀ c xs,H c = some (.tup xs) → c ≠ x:=fun c xs r z=>by subst z; rw [r] at mu; exact mu
 by_cases hb : b = x
 ·subst hb; rw [Ab] at q; cases q; exact new
 ·rw [As hb] at q
  by_cases hbe : b = e
  ·have q' : H b = some (.own x):=by
    rcases he with z | z
    ·exact absurd (hbe.trans z) hb
    ·rw [hbe]; exact z
   rw [q] at q'; cases q'
   obtain ⟨v,hv⟩:=heo
   exact ⟨v,by rw [hbe]; exact hv⟩
  ·refine (ok b u q).stay (fun c v hc r=>k c v ?_ r) (fun c r=>by rw [As (nown c b r)]; exact r) fun c xs r=>by rw [As (ntup c xs r)]; exact r
   rcases hc with rfl | hc
   ·exact hbe
   ·rintro rfl
    rcases he with z | z
    ·exact nown c b hc z
    ·rw [hc] at z; cases z; exact hb rfl
end
structure Un (fs ex : List Addr) (H H' : Hp) (h h' : Heap) : Prop where
 keep : ∀ b o,h.get? b = some o → H b = none → b ∉ fs → b ∉ ex → h'.get? b = some o
 slot : ∀ b o,h.get? b = some o → H b = none → b ∈ fs → b ∉ ex → ∃ sl,h'.get? b = some { o with slots:=sl }
 free : ∀ b o,h.get? b = some o → H b = none → b ∉ ex → H' b = none
 there : ∀ b o,h.get? b = some o → b ∉ ex → ∃ o',h'.get? b = some o'
 tups : ∀ b xs,H b = some (.tup xs) → H' b = some (.tup xs)
 frzs : ∀ b o u,H b = some (.frz o u) → H' b = some (.frz o u)
 tbls : ∀ b ps,H b = some (.tbl ps) → ∃ more,H' b = some (.tbl (ps ++ more))
section
variable {fs fs' ex ex' : List Addr} {H H1 H2 : Hp} {h h1 h2 h' : Heap} {a x e : Addr} {o : HO}
theorem Un.any (u : Un fs ex H H1 h h1) {b : Addr} {ob : Obj} (q : h.get? b = some ob) (n : H b = none) (hx : b ∉ ex) : ∃ sl,h1.get? b = some { ob with slots:=sl }:=by
 by_cases hb : b ∈ fs
 ·exact u.slot b ob q n hb hx
 ·exact ⟨ob.slots,u.keep b ob q n hb hx⟩
theorem Un.kept (k : ∀ b u,h.get? b = some u → h'.get? b = some u) : Un fs ex H H h h' :=
 ⟨fun b ob q _ _ _=>k b ob q,fun b ob q _ _ _=>⟨ob.slots,k b ob q⟩,fun _ _ _ n _=>n,fun b ob q _=>⟨ob,k b ob q⟩,fun _ _ q=>q,fun _ _ _ q=>q,fun _ ps q=>⟨#[],by rw [q]; simp⟩⟩
theorem Un.refl : Un fs ex H H h h:=Un.kept fun _ _ q=>q
theorem Un.laid (k : ∀ b u,h.get? b = some u → h'.get? b = some u) (hp : h.objs.size ≤ a) (hn : H a = none) : Un fs ex H (upd H a o) h h' where
 keep:=fun b u q _ _ _=>k b u q
 slot:=fun b u q _ _ _=>⟨u.slots,k b u q⟩
 free:=fun b u q n _=>by rw [As (SJ (SH (Heap.lt_size q) hp))]; exact n
 there:=fun b u q _=>⟨u,k b u q⟩
 tups:=fun b xs q=>by rw [As (Aq q hn)]; exact q
 frzs:=fun b u xs q=>by rw [As (Aq q hn)]; exact q
 tbls:=fun b ps q=>⟨#[],by rw [As (Aq q hn),q]; simp⟩
theorem Un.write (mu : Mut (H x)) (he : e = x ∨ H e = some (.own x)) (k : ∀ b u,b ≠ e → h.get? b = some u → h'.get? b = some u) (heo : ∃ u,h'.get? e = some u) : Un fs ex H (upd H x o) h h':=by
 have hx : ∀ b,H b = none → b ≠ x:=fun b n z=>by subst z; rw [n] at mu; exact mu
 have hb : ∀ b,H b = none → b ≠ e:=fun b n z=>by
  subst z
  rcases he with r | r
  ·exact hx b n r
  ·rw [n] at r; cases r
 have hm : ∀ b u,H b = some u → ¬ Mut (some u) → b ≠ x:=fun b u q nm z=>by subst z; rw [q] at mu; exact nm mu
 refine ⟨fun b u q n _ _=>k b u (hb b n) q,fun b u q n _ _=>⟨u.slots,k b u (hb b n) q⟩,fun b u q n _=>by rw [As (hx b n)]; exact n,fun b u q _=>?_,
  fun b xs q=>by rw [As (hm b _ q fun z=>z)]; exact q,fun b u xs q=>by rw [As (hm b _ q fun z=>z)]; exact q,fun b ps q=>⟨#[],by rw [As (hm b _ q fun z=>z),q]; simp⟩⟩
 by_cases hbe : b = e
 ·subst hbe; exact heo
 ·exact ⟨u,k b u hbe q⟩
end
def trk (h : Heap) (H : Hp) : List Addr:=(SK h.objs.size).filter fun a=>(H a).isSome
def Hg (h : Heap) (H : Hp) : Heap:=SM h (trk h H)
theorem Ls (h : Heap) (H : Hp) : (Hg h H).objs.size = h.objs.size:=PySem.W.hideAll_size _ _
theorem MG {h : Heap} {H : Hp} {b : Addr} {o : Obj} (e : h.get? b = some o) (n : H b = none) : (Hg h H).get? b = some o :=
 PySem.W.hideAll_get _ e fun hm=>by
  have q : (H b).isSome = true:=(SN.mp hm).2
  rw [n] at q; simp at q
theorem Nu {h : Heap} {H : Hp} {b : Addr} {o : Obj} (e : (Hg h H).get? b = some o) : h.get? b = some o ∧ H b = none:=by
 have e' : h.get? b = some o:=SO (trk h H) e
 refine ⟨e',?_⟩
 cases q : H b with
 | none=>rfl
 | some x =>
   have hm : b ∈ trk h H:=SN.mpr ⟨SQ.mpr (Heap.lt_size e'),by simp [q]⟩
   have z : (Hg h H).get? b = none:=PySem.W.hideAll_none (trk h H) hm
   rw [z] at e; cases e
def NQ (g h : Heap) (L : Addr) : List (Addr × Obj):=(SK h.objs.size).filterMap fun a=>if a = L ∨ (g.get? a).isSome = true then none else (h.get? a).map fun o=>(a,o)
def Bx (g h : Heap) (L d : Addr) : List (Addr × Obj):=(NQ g h L).filter fun p=>decide (p.1 ≠ d)
end L2
namespace L2
open PySem PySem.Spec PyProof.Rows
structure Mod (K : SR) (mg : Str → Option Value) (base : Heap) : Prop where
 kin : K.In base
 glob : base.Ns mainGlobals mg
 blt : ∃ mb,base.Ns builtinsNs mb ∧ ∀ x : Str,x ≠ "__name__" → mb x = bootBuiltins x
 nolimit : base.NoLimit
 seer : base.NoSeer
structure Cx where
 prog : Program
 w : World
 K : SR
 mg : Str → Option Value
 base : Heap
 A : Around
 N : List Str
 s₀ : Shared
 H₀ : Hp
 env : Env
 outer : List Env
 stack : List Env
 ex : List Addr
 fn : Str → Bool
 calm : Bool
 pn : List (Addr × Obj)
 xe : Value → Shared → Prop
def frs (l : List Env) : List Addr:=l.filterMap (·.frame)
abbrev Cx.fs (X : Cx) : List Addr:=frs X.outer
def Vis (sc : Scope) (x : Str) : Prop:=sc.names.lookup x = some .local ∨ sc.names.lookup x = some .cell ∨ sc.names.lookup x = some .free
def Loc (sc : Scope) (x : Str) : Prop:=sc.names.lookup x = some .local ∨ sc.names.lookup x = some .cell
def Qs (env : Env) (h : Heap) (m : Str → Option Value) (x : Str) (u : Value) : Prop :=
 (env.kindOf x = some .local ∧ m x = some u) ∨ ((env.kindOf x = some .cell ∨ env.kindOf x = some .free) ∧ ∃ c,env.cells.lookup x = some c ∧ h.IsCell c (some u))
structure Cx.Ok (X : Cx) : Prop where
 mod : Mod X.K X.mg X.base
 kind : X.env.scope.kind = .function
 glob : X.env.globals = mainGlobals
 blt : X.env.builtins = builtinsNs
 above : X.s₀.heap.objs.size ≤ X.env.locals
 inj : ∀ x y c,X.env.cells.lookup x = some c → X.env.cells.lookup y = some c → x = y
 has : ∀ x,(X.env.kindOf x = some .cell ∨ X.env.kindOf x = some .free) → ∃ c,X.env.cells.lookup x = some c
 cab : ∀ x c,X.fn x = true → X.env.cells.lookup x = some c → X.s₀.heap.objs.size ≤ c
 hd : X.calm = true → X.A.handled = none
 frames : X.A.frames = some X.stack
 stk : X.stack = X.outer ∨ (X.stack = X.env :: X.outer ∧ X.env.frame = some X.env.locals)
 exf : ∀ b ∈ X.ex,b ≠ X.env.locals ∧ ∀ x c,X.env.cells.lookup x = some c → c ≠ b
 bs : ∀ b o,X.base.get? b = some o → X.s₀.heap.get? b = some o ∧ X.H₀ b = none
 bsz : X.base.objs.size ≤ X.s₀.heap.objs.size
 noex : ∀ b o,X.base.get? b = some o → b ∉ X.ex
 exfs : ∀ b ∈ X.ex,b ∉ X.fs
 funs : X.s₀.heap.FunFrames X.base X.outer
 frf : ∀ b ∈ X.fs,X.H₀ b = none
structure Inv (X : Cx) (pins : List (Addr × Obj)) (σ : List (Option V)) (H : Hp) (s : Shared) : Prop where
 ok : X.Ok
 os : s.os = X.s₀.os
 bare : AllBare s.gens
 base : Un X.fs X.ex X.H₀ H X.s₀.heap s.heap
 loc : ∃ m,s.heap.Ns X.env.locals m ∧ ∀ (i : Nat) (x : Str) (v : V),X.N[i]? = some x → σ[i]? = some (some v) → Vis X.env.scope x → ∃ u,AR v u ∧ Qs X.env s.heap m x u
 cell : ∀ x c,X.env.cells.lookup x = some c → ∃ v,s.heap.IsCell c v
 free : H X.env.locals = none
 freeC : ∀ x c,X.env.cells.lookup x = some c → H c = none
 pin : ∀ p ∈ X.pn ++ pins,s.heap.get? p.1 = some p.2 ∧ H p.1 = none ∧ p.1 ≠ X.env.locals ∧ p.1 ∉ X.fs ∧ ∀ v,p.2.data ≠ .cell v
 hok : HOk X.prog X.w H s.heap
 len : σ.length = X.N.length
section
variable {X : Cx} {pins : List (Addr × Obj)} {σ : List (Option V)} {H H' : Hp} {s : Shared} {h' : Heap}
theorem Cx.Ok.nofr (ok : X.Ok) {b : Addr} {o : Obj} (e : X.base.get? b = some o) : b ∉ X.fs:=fun hb=>by
 have:=(ok.funs.mem hb).1
 rw [e] at this; cases this
theorem Inv.bs (I : Inv X pins σ H s) : ∀ b o,X.base.get? b = some o → s.heap.get? b = some o ∧ H b = none:=fun b o e =>
 ⟨I.base.keep b o (I.ok.bs b o e).1 (I.ok.bs b o e).2 (I.ok.nofr e) (I.ok.noex b o e),I.base.free b o (I.ok.bs b o e).1 (I.ok.bs b o e).2 (I.ok.noex b o e)⟩
theorem Inv.bk (I : Inv X pins σ H s) : ∀ b o,X.base.get? b = some o → s.heap.get? b = some o:=fun b o e=>(I.bs b o e).1
theorem Inv.mod (I : Inv X pins σ H s) : Mod X.K X.mg X.base:=I.ok.mod
theorem Inv.kIn (I : Inv X pins σ H s) : X.K.In s.heap:=I.ok.mod.kin.keeps I.bk
theorem Inv.nolimit (I : Inv X pins σ H s) : s.heap.NoLimit:=I.ok.mod.nolimit.keeps I.bk
theorem Inv.lt (I : Inv X pins σ H s) : X.env.locals < s.heap.objs.size:=let ⟨_,hn,_⟩:=I.loc; hn.lt
theorem Inv.sz (I : Inv X pins σ H s) : X.s₀.heap.objs.size ≤ s.heap.objs.size:=SU I.ok.above (SV I.lt)
theorem Inv.nofs (I : Inv X pins σ H s) {a : Addr} (h : s.heap.objs.size ≤ a) : a ∉ X.fs:=fun hb=>by
 obtain ⟨_,o,ho,_⟩:=I.ok.funs.mem hb
 exact absurd (SH (Heap.lt_size ho) (SU I.sz h)) (SI _)
theorem Inv.cne (I : Inv X pins σ H s) : ∀ x c,X.env.cells.lookup x = some c → c ≠ X.env.locals:=fun x c e z=>by
 obtain ⟨v,o,ho,hd⟩:=I.cell x c e
 obtain ⟨m,⟨o',es,ep,ho',hd',_⟩,_⟩:=I.loc
 rw [z,ho'] at ho; cases ho; rw [hd'] at hd; cases hd
theorem Inv.funs (I : Inv X pins σ H s) : s.heap.FunFrames X.base X.outer:=by
 have all : ∀ (l : List Env),(∀ b ∈ frs l,b ∈ X.fs) → X.s₀.heap.FunFrames X.base l → s.heap.FunFrames X.base l:=by
  intro l
  induction l with
  | nil=>intro _ _; trivial
  | cons env r ih =>
    intro hs hl
    obtain ⟨hk,⟨L,o,hf,hn,ho,hd⟩,hr⟩:=hl
    have hL : L ∈ X.fs:=hs L (by unfold frs; rw [SW,hf]; exact SX)
    obtain ⟨sl,e⟩:=I.base.slot L o ho (I.ok.frf L hL) hL fun z=>I.ok.exfs L z hL
    exact ⟨hk,⟨L,_,hf,hn,e,hd⟩,ih (fun b hb=>hs b (by unfold frs; rw [SW,hf]; exact SY _ hb)) hr⟩
 exact all X.outer (fun _ hb=>hb) I.ok.funs
theorem Inv.stack (I : Inv X pins σ H s) : s.heap.FunFrames X.base X.stack:=by
 rcases I.ok.stk with e | ⟨e,hf⟩
 ·rw [e]; exact I.funs
 ·rw [e]
  obtain ⟨m,hn,_⟩:=I.loc
  refine .cons (by rw [I.ok.kind]; decide) hf hn ?_ I.funs
  exact Heap.get?_none_of_le (SU I.ok.bsz I.ok.above)
theorem Inv.stkSub (I : Inv X pins σ H s) : ∀ b ∈ frs X.stack,b ∈ X.env.locals :: X.fs:=fun b hb=>by
 rcases I.ok.stk with e | ⟨e,hf⟩
 ·rw [e] at hb; exact SY _ hb
 ·rw [e] at hb
  unfold frs at hb
  rw [SW,hf] at hb
  exact hb
theorem Inv.stkFree (I : Inv X pins σ H s) : ∀ b ∈ frs X.stack,H b = none:=fun b hb=>by
 rcases T1.mp (I.stkSub b hb) with e | hb
 ·rw [e]; exact I.free
 ·obtain ⟨_,o,ho,_⟩:=I.ok.funs.mem hb
  exact I.base.free b o ho (I.ok.frf b hb) fun z=>I.ok.exfs b z hb
theorem Inv.step {g' : Array GenState} {t' : Nat} {d' : Drawn} {ch : List Addr} (I : Inv X pins σ H s)
 (hch : ∀ b ∈ ch,(b ∈ X.ex ∨ X.s₀.heap.objs.size ≤ b) ∧ b ≠ X.env.locals ∧ (∀ x c,X.env.cells.lookup x = some c → c ≠ b) ∧ ∀ p ∈ X.pn ++ pins,p.1 ≠ b)
 (keep : ∀ b o,b ≠ X.env.locals → b ∉ X.fs → b ∉ ch → s.heap.get? b = some o → H b = none → h'.get? b = some o)
 (slot : ∀ b o,b ≠ X.env.locals → b ∈ X.fs → b ∉ ch → s.heap.get? b = some o → H b = none → ∃ sl,h'.get? b = some { o with slots:=sl }) (free : ∀ b o,b ∉ ch → s.heap.get? b = some o → H b = none → H' b = none)
 (there : ∀ b o,b ∉ ch → s.heap.get? b = some o → ∃ o',h'.get? b = some o')
 (tups : ∀ b xs,H b = some (.tup xs) → H' b = some (.tup xs)) (frzs : ∀ b o u,H b = some (.frz o u) → H' b = some (.frz o u)) (tbls : ∀ b ps,H b = some (.tbl ps) → ∃ more,H' b = some (.tbl (ps ++ more)))
 (ns : ∀ m,s.heap.Ns X.env.locals m → h'.Ns X.env.locals m) (hok : HOk X.prog X.w H' h') (hg : AllBare g') :
 Inv X pins σ H' { s with heap:=h',gens:=g',drawn:=d',toks:=t' }:=by
 have neL : ∀ b o,X.s₀.heap.get? b = some o → b ≠ X.env.locals:=fun b o e=>SJ (SH (Heap.lt_size e) I.ok.above)
 have neC : ∀ b o,X.s₀.heap.get? b = some o → b ∉ X.ex → b ∉ ch:=fun b o e hx hb=>by
  rcases (hch b hb).1 with z | z
  ·exact hx z
  ·exact absurd (SH (Heap.lt_size e) z) (SI _)
 have cellK : ∀ x c,X.env.cells.lookup x = some c → ∀ v,s.heap.IsCell c v → h'.IsCell c v:=fun x c e v ⟨o,ho,hd⟩=>by
  have nch : c ∉ ch:=fun z=>(hch c z).2.2.1 x c e rfl
  by_cases hc : c ∈ X.fs
  ·obtain ⟨sl,q⟩:=slot c o (I.cne x c e) hc nch ho (I.freeC x c e)
   exact ⟨_,q,hd⟩
  ·exact ⟨o,keep c o (I.cne x c e) hc nch ho (I.freeC x c e),hd⟩
 refine ⟨I.ok,I.os,hg,⟨fun b o e n hb hx=>?_,fun b o e n hb hx=>?_,fun b o e n hx=>?_,fun b o e hx=>?_,fun b xs e=>tups b xs (I.base.tups b xs e),fun b o xs e=>frzs b o xs (I.base.frzs b o xs e),fun b ps e=>?_⟩,?_,fun x c e=>?_,?_,fun x c e=>?_,fun p hp=>?_,hok,I.len⟩
 ·exact keep b o (neL b o e) hb (neC b o e hx) (I.base.keep b o e n hb hx) (I.base.free b o e n hx)
 ·obtain ⟨sl,e1⟩:=I.base.slot b o e n hb hx
  obtain ⟨sl',e2⟩:=slot b _ (neL b o e) hb (neC b o e hx) e1 (I.base.free b o e n hx)
  exact ⟨sl',e2⟩
 ·obtain ⟨o',e1⟩:=I.base.there b o e hx
  exact free b o' (neC b o e hx) e1 (I.base.free b o e n hx)
 ·obtain ⟨o',e1⟩:=I.base.there b o e hx
  exact there b o' (neC b o e hx) e1
 ·obtain ⟨m1,e1⟩:=I.base.tbls b ps e
  obtain ⟨m2,e2⟩:=tbls b _ e1
  exact ⟨m1 ++ m2,by rw [e2,Array.append_assoc]⟩
 ·obtain ⟨m,hn,hl⟩:=I.loc
  refine ⟨m,ns m hn,fun i x v e1 e2 e3=>?_⟩
  obtain ⟨u,r,l⟩:=hl i x v e1 e2 e3
  refine ⟨u,r,?_⟩
  rcases l with l | ⟨k,c,e,z⟩
  ·exact .inl l
  ·exact .inr ⟨k,c,e,cellK x c e _ z⟩
 ·obtain ⟨v,z⟩:=I.cell x c e
  exact ⟨v,cellK x c e v z⟩
 ·obtain ⟨m,⟨o,_,_,ho,_⟩,_⟩:=I.loc
  exact free _ o (fun z=>(hch _ z).2.1 rfl) ho I.free
 ·obtain ⟨v,o,ho,hd⟩:=I.cell x c e
  exact free c o (fun z=>(hch c z).2.2.1 x c e rfl) ho (I.freeC x c e)
 ·obtain ⟨e,n,ne,nf,d⟩:=I.pin p hp
  have nch : p.1 ∉ ch:=fun z=>(hch p.1 z).2.2.2 p hp rfl
  exact ⟨keep p.1 p.2 ne nf nch e n,free p.1 p.2 nch e n,ne,nf,d⟩
theorem Inv.un {t' : Nat} (I : Inv X pins σ H s) (u : Un X.fs [] H H' s.heap h') (hok : HOk X.prog X.w H' h') : Inv X pins σ H' { s with heap:=h',toks:=t' }:=by
 obtain ⟨m,⟨o,es,ep,ho,r⟩,_⟩:=id I.loc
 obtain ⟨sl,hL⟩:=u.any ho I.free (by simp)
 exact I.step (g':=s.gens) (d':=s.drawn) (ch:=[]) (fun _ z=>nomatch z) (fun b o _ hb _ e n=>u.keep b o e n hb (by simp)) (fun b o _ hb _ e n=>u.slot b o e n hb (by simp)) (fun b o _ e n=>u.free b o e n (by simp)) (fun b o _ e=>u.there b o e (by simp)) u.tups u.frzs u.tbls (fun m' hm=>by
  obtain ⟨o',es',ep',ho',r'⟩:=hm
  rw [ho] at ho'; cases ho'
  exact ⟨_,es',ep',hL,r'⟩) hok I.bare
theorem Inv.call {g' : Array GenState} {t' : Nat} {d' : Drawn} {ch : List Addr} (I : Inv X pins σ H s) (u : Un (frs X.stack) ch H H' s.heap h') (hok : HOk X.prog X.w H' h') (hg : AllBare g')
 (hch : ∀ b ∈ ch,(b ∈ X.ex ∨ X.s₀.heap.objs.size ≤ b) ∧ b ≠ X.env.locals ∧ (∀ x c,X.env.cells.lookup x = some c → c ≠ b) ∧ ∀ p ∈ X.pn ++ pins,p.1 ≠ b) :
 Inv X pins σ H' { s with heap:=h',gens:=g',drawn:=d',toks:=t' }:=by
 obtain ⟨m,⟨o,es,ep,ho,r⟩,_⟩:=id I.loc
 obtain ⟨sl,hL⟩:=u.any ho I.free fun z=>(hch _ z).2.1 rfl
 exact I.step (ch:=ch) hch (fun b o hL hb hc e n=>u.keep b o e n (fun z=>(T1.mp (I.stkSub b z)).elim hL hb) hc) (fun b o _ _ hc e n=>u.any e n hc) (fun b o hc e n=>u.free b o e n hc) (fun b o hc e=>u.there b o e hc) u.tups u.frzs u.tbls (fun m' hm=>by
  obtain ⟨o',es',ep',ho',r'⟩:=hm
  rw [ho] at ho'; cases ho'
  exact ⟨_,es',ep',hL,r'⟩) hok hg
theorem Inv.turned {t' : Nat} {it : Addr} (I : Inv X pins σ H s) (k : ∀ b o,b ≠ it → s.heap.get? b = some o → h'.get? b = some o) (hn : H it = none) (hL : it ≠ X.env.locals)
 (h1 : it ∈ X.ex ∨ X.s₀.heap.objs.size ≤ it) (h2 : ∀ x c,X.env.cells.lookup x = some c → c ≠ it) (h3 : ∀ p ∈ X.pn ++ pins,p.1 ≠ it) : Inv X pins σ H { s with heap:=h',toks:=t' }:=by
 have nit : ∀ b u,H b = some u → b ≠ it:=fun b u e z=>by rw [z,hn] at e; cases e
 refine I.step (g':=s.gens) (d':=s.drawn) (ch:=[it]) (fun b hb=>?_) (fun b o _ _ hc e _=>k b o (fun z=>hc (by simp [z])) e) (fun b o _ _ hc e _=>⟨o.slots,k b o (fun z=>hc (by simp [z])) e⟩) (fun _ _ _ _ n=>n)
  (fun b o hc e=>⟨o,k b o (fun z=>hc (by simp [z])) e⟩) (fun _ _ e=>e) (fun _ _ _ e=>e) (fun b ps e=>⟨#[],by rw [e]; simp⟩) (fun m hm=>?_) (fun b u e=>?_) I.bare
 ·have e : b = it:=by simpa using hb
  subst e
  exact ⟨h1,hL,h2,h3⟩
 ·obtain ⟨o,es,ep,ho,r⟩:=hm
  exact ⟨o,es,ep,k _ o (Ne.symm hL) ho,r⟩
 ·refine (I.hok b u e).stay (fun c v hc q=>k c v ?_ q) (fun _ q=>q) fun _ _ q=>q
  rcases hc with z | z
  ·rw [z]; exact nit b u e
  ·exact nit c _ z
theorem Inv.tok (I : Inv X pins σ H s) (t : Nat) : Inv X pins σ H { s with toks:=t }:=I.un (h':=s.heap) (t':=t) Un.refl I.hok
theorem Inv.kept {t' : Nat} (I : Inv X pins σ H s) (k : ∀ b u,s.heap.get? b = some u → h'.get? b = some u) : Inv X pins σ H { s with heap:=h',toks:=t' }:=I.un (Un.kept k) (I.hok.kept k)
theorem Inv.laid {a : Addr} {o : HO} {t' : Nat} (I : Inv X pins σ H s) (k : ∀ b u,s.heap.get? b = some u → h'.get? b = some u) (hp : s.heap.objs.size ≤ a) (new : BF X.prog X.w (upd H a o) h' a o) :
 Inv X pins σ (upd H a o) { s with heap:=h',toks:=t' }:=I.un (Un.laid k hp (I.hok.fresh hp)) (I.hok.laid k hp new)
theorem Inv.write {x e : Addr} {o : HO} {t' : Nat} (I : Inv X pins σ H s) (mu : Mut (H x)) (he : e = x ∨ H e = some (.own x)) (k : ∀ b u,b ≠ e → s.heap.get? b = some u → h'.get? b = some u) (heo : ∃ u,h'.get? e = some u)
 (new : BF X.prog X.w (upd H x o) h' x o) : Inv X pins σ (upd H x o) { s with heap:=h',toks:=t' }:=I.un (Un.write mu he k heo) (I.hok.write mu he k heo new)
theorem Inv.weak {σ' : List (Option V)} (I : Inv X pins σ H s) (hl : σ'.length = σ.length) (w : ∀ (i : Nat) v,σ'[i]? = some (some v) → σ[i]? = some (some v)) : Inv X pins σ' H s :=
 ⟨I.ok,I.os,I.bare,I.base,let ⟨m,hn,hl'⟩:=I.loc; ⟨m,hn,fun i x v e1 e2 e3=>hl' i x v e1 (w i v e2) e3⟩,I.cell,I.free,I.freeC,I.pin,I.hok,hl.trans I.len⟩
theorem Inv.pins_of {pins' : List (Addr × Obj)} (I : Inv X pins σ H s) (h : ∀ p ∈ pins',s.heap.get? p.1 = some p.2 ∧ H p.1 = none ∧ p.1 ≠ X.env.locals ∧ p.1 ∉ X.fs ∧ ∀ v,p.2.data ≠ .cell v) : Inv X pins' σ H s :=
 ⟨I.ok,I.os,I.bare,I.base,I.loc,I.cell,I.free,I.freeC,fun p hp=>(T2.mp hp).elim (fun z=>I.pin p (T3 _ z)) (h p),I.hok,I.len⟩
theorem Gs {N : List Str} (hN : N.Nodup) {i j : Nat} {x : Str} (a : N[i]? = some x) (b : N[j]? = some x) : i = j:=by
 obtain ⟨h1,e1⟩:=T4.mp a
 obtain ⟨h2,e2⟩:=T4.mp b
 exact (List.getElem_inj hN).mp (e1.trans e2.symm)
theorem EO {M : Model} {A : Around} {E : Value → Shared → Prop} {i : Nat} {x : Str} {v : V} {u : Value} {Q : Unit → Shared → Prop} (I : Inv X pins σ H s) (hN : X.N.Nodup) (hi : X.N[i]? = some x) (hx : Loc X.env.scope x) (r : AR v u)
 (h : ∀ s',Inv X pins (σ.set i (some v)) H s' → (∃ a,Heap.SameBut a s.heap s'.heap ∧ (a = X.env.locals ∨ X.env.cells.lookup x = some a)) → Q () s') (hf : X.fn x = true ∨ X.env.scope.names.lookup x = some .local:=by first | exact .inl rfl | exact .inr rfl | assumption) : wpAny M A (storeName X.env x u) Q E s:=by
 obtain ⟨m,hn,hl⟩:=id I.loc
 have hcls : (X.env.scope.kind == .class || (X.env.scope.kind == .module && X.env.locals != X.env.globals)) = false:=by rw [I.ok.kind]; rfl
 have hiσ : i < σ.length:=by rw [I.len]; exact (T4.mp hi).1
 have cne:=I.cne
 have tracked : ∀ {a : Addr} {h' : Heap},(∃ o,s.heap.get? a = some o ∧ H a = none) → Heap.SameBut a s.heap h' → HOk X.prog X.w H h':=fun {a h'} ha hs b ob e=>by
  obtain ⟨_,_,hfree⟩:=ha
  refine (I.hok b ob e).stay (fun c w' hc q=>(hs.2 c ?_).trans q) (fun _ q=>q) fun _ _ q=>q
  rintro rfl
  rcases hc with rfl | hc
  ·rw [hfree] at e; cases e
  ·rw [hfree] at hc; cases hc
 rcases hx with hk | hk
 ·refine wpAny_storeName_local hk hn (fun h' hn' hs=>?_) hcls
  obtain ⟨oL,_,_,hoL,_⟩:=id hn
  refine h _ ⟨I.ok,I.os,I.bare,⟨fun b o e n hb hx=>?_,fun b o e n hb hx=>?_,I.base.free,fun b o e hx=>?_,I.base.tups,I.base.frzs,I.base.tbls⟩,⟨_,hn',fun j y v' e1 e2 e3=>?_⟩,fun y c e=>?_,I.free,I.freeC,fun p hp=>?_,tracked ⟨oL,hoL,I.free⟩ hs,by simpa using I.len⟩ ⟨_,hs,.inl rfl⟩
  ·exact (hs.2 b (SJ (SH (Heap.lt_size e) I.ok.above))).trans (I.base.keep b o e n hb hx)
  ·obtain ⟨sl,e1⟩:=I.base.slot b o e n hb hx
   exact ⟨sl,(hs.2 b (SJ (SH (Heap.lt_size e) I.ok.above))).trans e1⟩
  ·obtain ⟨o',e1⟩:=I.base.there b o e hx
   exact ⟨o',(hs.2 b (SJ (SH (Heap.lt_size e) I.ok.above))).trans e1⟩
  ·by_cases hj : j = i
   ·subst hj
    rw [hi] at e1; cases e1
    rw [T5 hiσ] at e2
    cases e2
    exact ⟨u,r,.inl ⟨hk,by simp⟩⟩
   ·rw [T6 (Ne.symm hj)] at e2
    obtain ⟨u',r',q⟩:=hl j y v' e1 e2 e3
    refine ⟨u',r',?_⟩
    rcases q with ⟨k,e⟩ | ⟨k,c,e,z⟩
    ·refine .inl ⟨k,?_⟩
     have : y ≠ x:=fun e=>hj (Gs hN e1 (e ▸ hi))
     simp [this,e]
    ·exact .inr ⟨k,c,e,z.sameBut hs (cne y c e)⟩
  ·obtain ⟨w',z⟩:=I.cell y c e
   exact ⟨w',z.sameBut hs (cne y c e)⟩
  ·obtain ⟨e,n,ne,nf,d⟩:=I.pin p hp
   exact ⟨(hs.2 p.1 ne).trans e,n,ne,nf,d⟩
 ·have hfn : X.fn x = true:=by
   rcases hf with z | z
   ·exact z
   ·rw [z] at hk; cases hk
  obtain ⟨c,hc⟩:=I.ok.has x (.inl hk)
  obtain ⟨w',z⟩:=I.cell x c hc
  refine wpAny_storeName_cell I.ok.kind hk hc z (fun h' hc' hs=>?_)
  obtain ⟨oc,hoc,hocd⟩:=id z
  refine h { s with heap:=h' } ⟨I.ok,I.os,I.bare,⟨fun b o e n hb hx=>?_,fun b o e n hb hx=>?_,I.base.free,fun b o e hx=>?_,I.base.tups,I.base.frzs,I.base.tbls⟩,⟨m,hn.sameBut hs (Ne.symm (cne x c hc)),fun j y v' e1 e2 e3=>?_⟩,fun y c' e=>?_,I.free,I.freeC,fun p hp=>?_,tracked ⟨oc,hoc,I.freeC x c hc⟩ hs,by simpa using I.len⟩ ⟨c,hs,.inr hc⟩
  ·exact (hs.2 b (SJ (SH (Heap.lt_size e) (I.ok.cab x c hfn hc)))).trans (I.base.keep b o e n hb hx)
  ·obtain ⟨sl,e1⟩:=I.base.slot b o e n hb hx
   exact ⟨sl,(hs.2 b (SJ (SH (Heap.lt_size e) (I.ok.cab x c hfn hc)))).trans e1⟩
  ·obtain ⟨o',e1⟩:=I.base.there b o e hx
   exact ⟨o',(hs.2 b (SJ (SH (Heap.lt_size e) (I.ok.cab x c hfn hc)))).trans e1⟩
  ·by_cases hj : j = i
   ·subst hj
    rw [hi] at e1; cases e1
    rw [T5 hiσ] at e2
    cases e2
    exact ⟨u,r,.inr ⟨.inl hk,c,hc,hc'⟩⟩
   ·rw [T6 (Ne.symm hj)] at e2
    obtain ⟨u',r',q⟩:=hl j y v' e1 e2 e3
    refine ⟨u',r',?_⟩
    rcases q with q | ⟨k,c',e,z'⟩
    ·exact .inl q
    ·refine .inr ⟨k,c',e,z'.sameBut hs ?_⟩
     rintro rfl
     exact hj (Gs hN e1 (I.ok.inj _ _ _ e hc ▸ hi))
  ·by_cases hcc : c' = c
   ·subst hcc; exact ⟨_,hc'⟩
   ·obtain ⟨w2,z2⟩:=I.cell y c' e
    exact ⟨w2,z2.sameBut hs hcc⟩
  ·obtain ⟨e,n,ne,nf,d⟩:=I.pin p hp
   refine ⟨(hs.2 p.1 ?_).trans e,n,ne,nf,d⟩
   intro q
   rw [q,hoc] at e
   have q' : oc = p.2:=SD.inj e
   exact d w' (by rw [← q']; exact hocd)
theorem D6 {M : Model} {A : Around} {E : Value → Shared → Prop} {i : Nat} {x : Str} {v : V} {u : Value} {Q : Unit → Shared → Prop} (I : Inv X pins σ H s) (hN : X.N.Nodup) (hi : X.N[i]? = some x) (hx : Loc X.env.scope x) (r : AR v u)
 (h : ∀ s',Inv X pins (σ.set i (some v)) H s' → Q () s') (hf : X.fn x = true ∨ X.env.scope.names.lookup x = some .local:=by first | exact .inl rfl | exact .inr rfl | assumption) : wpAny M A (storeName X.env x u) Q E s :=
 EO I hN hi hx r (fun s' I' _=>h s' I') hf
theorem Inv.call' {s' : Shared} {ch : List Addr} (I : Inv X pins σ H s) (ho : s'.os = s.os) (u : Un (frs X.stack) ch H H' s.heap s'.heap) (hok : HOk X.prog X.w H' s'.heap) (hg : AllBare s'.gens)
 (hch : ∀ b ∈ ch,(b ∈ X.ex ∨ X.s₀.heap.objs.size ≤ b) ∧ b ≠ X.env.locals ∧ (∀ x c,X.env.cells.lookup x = some c → c ≠ b) ∧ ∀ p ∈ X.pn ++ pins,p.1 ≠ b) : Inv X pins σ H' s':=by
 obtain ⟨h',g',d',t',o'⟩:=s'
 have e : o' = s.os:=ho
 subst e
 exact I.call (g':=g') (t':=t') (d':=d') u hok hg hch
end
abbrev XK:=Value → Option Addr → Hp → Prop
abbrev St:=List (Option V)
abbrev VK:=V → Hp → Prop
abbrev TE:=St → Hp → VK → Prop
abbrev TT:=St → Hp → (Bool → Hp → Prop) → Prop
abbrev TA:=St → Hp → (List V → Hp → Prop) → Prop
structure EM where
 nx : St → Hp → Prop
 rt : VK
 bk : St → Hp → Prop:=fun _ _=>False
 ct : St → Hp → Prop:=fun _ _=>False
abbrev TS:=EM → St → Hp → Prop
inductive EP (X : Cx) (pins : List (Addr × Obj)) (σ : St) (Q : VK) (u : Value) (s' : Shared) : Prop
 | mk (v : _) (H' : _) (h1 : Inv X pins σ H' s') (h2 : AR v u) (h3 : Q v H') : EP X pins σ Q u s'
def TP (X : Cx) (pins : List (Addr × Obj)) (σ : St) (Q : Bool → Hp → Prop) (b : Bool) (s' : Shared) : Prop:=∃ H',Inv X pins σ H' s' ∧ Q b H'
inductive AP (X : Cx) (pins : List (Addr × Obj)) (σ : St) (Q : List V → Hp → Prop) (us : List Value) (s' : Shared) : Prop
 | mk (vs : _) (H' : _) (h1 : Inv X pins σ H' s') (h2 : AN vs us) (h3 : Q vs H') : AP X pins σ Q us s'
def SP (X : Cx) (pins : List (Addr × Obj)) (D : EM) (f : Flow) (s' : Shared) : Prop :=
 match f with
 | .next=>∃ σ' H',Inv X pins σ' H' s' ∧ D.nx σ' H'
 | .brk=>∃ σ' H',Inv X pins σ' H' s' ∧ D.bk σ' H'
 | .cont=>∃ σ' H',Inv X pins σ' H' s' ∧ D.ct σ' H'
 | .ret u=>∃ v σ' H',Inv X pins σ' H' s' ∧ AR v u ∧ D.rt v H'
def PE (X : Cx) (e : Expr) (t : TE) : Prop :=
 ∀ (pins : List (Addr × Obj)) (s : Shared) (σ : St) (H : Hp) (Q : VK),Inv X pins σ H s → t σ H Q → wpAny (model X.prog X.w) X.A (eval e X.env) (EP X pins σ Q) X.xe s
def PT (X : Cx) (e : Expr) (t : TT) : Prop :=
 ∀ (pins : List (Addr × Obj)) (s : Shared) (σ : St) (H : Hp) (Q : Bool → Hp → Prop),Inv X pins σ H s → t σ H Q → wpAny (model X.prog X.w) X.A (isTrue e X.env (eval e X.env)) (TP X pins σ Q) X.xe s
def PW (X : Cx) (e : Expr) (t : TT) : Prop :=
 ∀ (whole : Sem Value) (pins : List (Addr × Obj)) (s : Shared) (σ : St) (H : Hp) (Q : Bool → Hp → Prop),Inv X pins σ H s → t σ H Q → wpAny (model X.prog X.w) X.A (isTrue e X.env whole) (TP X pins σ Q) X.xe s
theorem PW.pt {X : Cx} {e : Expr} {t : TT} (h : PW X e t) : PT X e t:=h _
def PA (X : Cx) (es : List Expr) (t : TA) : Prop :=
 ∀ (pos : Pos) (pins : List (Addr × Obj)) (s : Shared) (σ : St) (H : Hp) (Q : List V → Hp → Prop),Inv X pins σ H s → t σ H Q → wpAny (model X.prog X.w) X.A (spliced (backTo pos (starEach es X.env))) (AP X pins σ Q) X.xe s
def PS (X : Cx) (st : Stmt) (t : TS) : Prop :=
 ∀ (pins : List (Addr × Obj)) (s : Shared) (σ : St) (H : Hp) (D : EM),Inv X pins σ H s → t D σ H → wpAny (model X.prog X.w) X.A (exec st X.env) (SP X pins D) X.xe s
def PSs (X : Cx) (st : List Stmt) (t : TS) : Prop :=
 ∀ (pins : List (Addr × Obj)) (s : Shared) (σ : St) (H : Hp) (D : EM),Inv X pins σ H s → t D σ H → wpAny (model X.prog X.w) X.A (execs st X.env) (SP X pins D) X.xe s
theorem thn {α : Type} {t : Sem α} {Q Q' : α → Shared → Prop} {M : Model} {A : Around} {E : Value → Shared → Prop} {s : Shared} (h : wpAny M A t Q E s) (hQ : ∀ a s,Q a s → Q' a s) : wpAny M A t Q' E s:=wpAny_mono h hQ fun _ _ x=>x
end L2
namespace L2
open PySem PySem.Spec PyProof.Rows
section
variable {X : Cx}
inductive HM (i : Nat) (σ : St) (H : Hp) (Q : VK) : Prop
 | mk (v : _) (h1 : σ[i]? = some (some v)) (h2 : Q v H) : HM i σ H Q
def tC (v : V) : TE:=fun _ H Q=>Q v H
theorem Mh {i : Nat} {x : Str} {pos : Pos} (hN : X.N[i]? = some x) (hv : Vis X.env.scope x) (hd : (x == ("__debug__" : Str)) = false:=by decide) (hcd : (x == ("__classdict__" : Str)) = false:=by decide) : PE X (.Name x pos) (HM i):=by
 intro pins s σ H Q I h
 obtain ⟨v,e,h⟩:=h
 obtain ⟨m,hn,hl⟩:=I.loc
 obtain ⟨u,r,l⟩:=hl i x v hN e hv
 have fin : EP X pins σ Q u s:=⟨v,H,I,r,h⟩
 rcases l with ⟨hk,hm⟩ | ⟨hk,c,hc,hcell⟩
 ·exact wpAny_Name (wpAny_loadName_local I.ok.kind hk hn hm fin) hd
 ·rcases hk with hk | hk
  ·exact wpAny_Name (wpAny_loadName_cell I.ok.kind hk hc hcell fin) hd
  ·exact wpAny_Name (wpAny_loadName_free I.ok.kind hk hc hcell fin hcd) hd
theorem Ag {i j pos} : PE X (.Constant (.int i) j pos) (tC (.int i)):=fun _ _ _ H _ I h=>wpAny_Constant_int ⟨.int i,H,I.tok _,⟨_,rfl⟩,h⟩
theorem Fs {b j pos} : PE X (.Constant (.bool b) j pos) (tC (.bl b)):=fun _ _ _ H _ I h=>Constant_bool ⟨.bl b,H,I,rfl,h⟩
theorem Cj {j pos} : PE X (.Constant .none j pos) (tC .non):=fun _ _ _ H _ I h=>Constant_none ⟨.non,H,I,rfl,h⟩
theorem Aj {x j pos} : PE X (.Constant (.str x) j pos) (tC (.str x)):=fun _ _ _ H _ I h=>Calls.Constant_str ⟨.str x,H,I.tok _,⟨_,rfl⟩,h⟩
def Gl (X : Cx) (x : Str) : Prop:=X.env.kindOf x = some .globalImplicit
theorem Dr {E : Value → Shared → Prop} {pins : List (Addr × Obj)} {s : Shared} {σ : St} {H : Hp} {x : Str} {u : Value} {pos : Pos} {Q : Value → Shared → Prop} (I : Inv X pins σ H s) (hg : Gl X x) (hm : X.mg x = some u) (h : Q u s)
 (hd : (x == ("__debug__" : Str)) = false:=by decide) : wpAny (model X.prog X.w) X.A (eval (.Name x pos) X.env) Q E s :=
 Calls.Name_function_global I.ok.kind hg (Calls.loadGlobal_global (by rw [I.ok.glob]; exact I.mod.glob.keeps I.bk) hm h) hd
theorem Gw {E : Value → Shared → Prop} {pins : List (Addr × Obj)} {s : Shared} {σ : St} {H : Hp} {x : Str} {u : Value} {pos : Pos} {Q : Value → Shared → Prop} (I : Inv X pins σ H s) (hg : Gl X x) (hm : X.mg x = none) (hv : bootBuiltins x = some u) (h : Q u s)
 (hn : x ≠ "__name__":=by decide) (hd : (x == ("__debug__" : Str)) = false:=by decide) : wpAny (model X.prog X.w) X.A (eval (.Name x pos) X.env) Q E s:=by
 obtain ⟨mb,h1,h2⟩:=I.mod.blt
 exact Calls.Name_function_global I.ok.kind hg (Calls.loadGlobal_builtin (by rw [I.ok.glob]; exact I.mod.glob.keeps I.bk) hm (by rw [I.ok.blt]; exact h1.keeps I.bk) ((h2 x hn).trans hv) h) hd
theorem AV {x : Str} {v : V} {u : Value} {pos : Pos} (hg : Gl X x) (hm : X.mg x = some u) (r : AR v u) (hd : (x == ("__debug__" : Str)) = false:=by decide) : PE X (.Name x pos) (tC v) :=
 fun _ _ _ H _ I h=>Dr I hg hm ⟨v,H,I,r,h⟩ hd
theorem BN {x : Str} {v : V} {u : Value} {pos : Pos} (hg : Gl X x) (hm : X.mg x = none) (hv : bootBuiltins x = some u) (r : AR v u) (hn : x ≠ "__name__":=by decide) (hd : (x == ("__debug__" : Str)) = false:=by decide) : PE X (.Name x pos) (tC v) :=
 fun _ _ _ H _ I h=>Gw I hg hm hv ⟨v,H,I,r,h⟩ hn hd
variable {a b : Expr} {ta tb : TE} {pos : Pos}
def PC (X : Cx) (op : CmpOp) (a b : Expr) (t : TE) : Prop :=
 ∀ (pins : List (Addr × Obj)) (s : Shared) (σ : St) (H : Hp) (Q : VK),Inv X pins σ H s → t σ H Q →
   wpAny (model X.prog X.w) X.A (eval a X.env) (fun v s₁=>wpAny (model X.prog X.w) X.A (eval b X.env) (fun u s₂=>wpAny (model X.prog X.w) X.A (compareOp op v u) (EP X pins σ Q) X.xe s₂) X.xe s₁) X.xe s
def tB (t : TE) : TT:=fun σ H Q=>t σ H fun x H1=>∃ c,x = .bl c ∧ Q c H1
theorem JS {op : CmpOp} {t : TE} (h : PC X op a b t) (h1 : behindInMarks op b = false:=by first | exact nobehind _ (by decide) (by decide) | rfl) : PT X (.Compare a [op] [b] pos) (tB t):=by
 intro pins s σ H Q I hw
 refine wpAny_isTrue_Compare1 (thn (h pins s σ H _ I hw) fun v s1 h1=>thn h1 fun u s2 h2=>thn h2 fun c s3 ⟨x,H1,I1,r1,q1⟩=>?_) h1
 obtain ⟨d,rfl,q⟩:=q1
 cases r1
 exact wpAny_truthy_bool ⟨H1,I1,q⟩
theorem Bu {e : Expr} {t : TE} (h : PE X e t) (he : ∀ whole,isTrue e X.env whole = (do let v ← whole; standAt e.pos; holding [v] (truthy v)):=by intro _; rfl) : PT X e (tB t):=by
 intro pins s σ H Q I hw
 refine isTrue_plain (thn (h pins s σ H _ I hw) fun v s1 ⟨x,H1,I1,r1,q1⟩=>?_) (he _)
 obtain ⟨d,rfl,q⟩:=q1
 cases r1
 exact wpAny_truthy_bool ⟨H1,I1,q⟩
variable {tA tB' : TT} {Bx : List Expr}
def QA (t u : TT) : TT:=fun σ H Q=>t σ H fun c H1=>if c = true then u σ H1 Q else Q false H1
def tOr (t u : TT) : TT:=fun σ H Q=>t σ H fun c H1=>if c = true then Q true H1 else u σ H1 Q
def Qx (t : TT) : TT:=fun σ H Q=>t σ H fun c H1=>Q (!c) H1
theorem Ko (ha : PT X a tA) : PW X (.BoolOp .And [a] pos) tA:=by
 intro wh pins s σ H Q I h
 refine isTrue_and (thn (ha pins s σ H Q I h) fun c s1 e=>?_)
 cases c with
 | true=>exact isTrue_and_nil e
 | false=>exact e
theorem BY (ha : PT X a tA) : PW X (.BoolOp .Or [a] pos) tA:=by
 intro wh pins s σ H Q I h
 refine isTrue_or (thn (ha pins s σ H Q I h) fun c s1 e=>?_)
 cases c with
 | false=>exact isTrue_or_nil e
 | true=>exact e
theorem Md (ha : PT X a tA) (hb : PW X (.BoolOp .And (b :: Bx) pos) tB') : PW X (.BoolOp .And (a :: b :: Bx) pos) (QA tA tB'):=by
 intro wh pins s σ H Q I h
 refine isTrue_and (thn (ha pins s σ H _ I h) fun c s1 ⟨H1,I1,q1⟩=>?_)
 cases c with
 | true=>exact hb wh pins s1 σ H1 Q I1 q1
 | false=>exact ⟨H1,I1,q1⟩
theorem CU (ha : PT X a tA) (hb : PW X (.BoolOp .Or (b :: Bx) pos) tB') : PW X (.BoolOp .Or (a :: b :: Bx) pos) (tOr tA tB'):=by
 intro wh pins s σ H Q I h
 refine isTrue_or (thn (ha pins s σ H _ I h) fun c s1 ⟨H1,I1,q1⟩=>?_)
 cases c with
 | true=>exact ⟨H1,I1,q1⟩
 | false=>exact hb wh pins s1 σ H1 Q I1 q1
theorem BL (ha : PT X a tA) : PT X (.UnaryOp .Not a pos) (Qx tA):=by
 intro pins s σ H Q I h
 exact isTrue_not (ha pins s σ H (fun c H1=>Q (!c) H1) I h)
def PQ (ta tb : TE) : TE:=fun σ H Q=>ta σ H fun x H1=>∃ c,x = .bl c ∧ if c = true then tb σ H1 Q else Q (.bl false) H1
def PF (ta : TE) : TE:=fun σ H Q=>ta σ H fun x H1=>∃ c,x = .bl c ∧ Q (.bl (!c)) H1
theorem JU {op} {t : TE} (h : PE X a t) : PE X (.BoolOp op [a] pos) t:=fun pins s σ H Q I hw=>BoolOp_one (h pins s σ H Q I hw)
theorem JV (ha : PE X a ta) (hb : PE X (.BoolOp .And (b :: Bx) pos) tb) : PE X (.BoolOp .And (a :: b :: Bx) pos) (PQ ta tb):=by
 intro pins s σ H Q I h
 refine BoolOp_and (thn (ha pins s σ H _ I h) fun v s1 ⟨x,H1,I1,r1,q1⟩=>?_)
 obtain ⟨c,rfl,q1⟩:=q1
 cases r1
 refine wpAny_truthy_bool ?_
 cases c with
 | true=>exact hb pins s1 σ H1 Q I1 q1
 | false=>exact ⟨.bl false,H1,I1,rfl,q1⟩
theorem OF (ha : PE X a ta) : PE X (.UnaryOp .Not a pos) (PF ta):=by
 intro pins s σ H Q I h
 refine UnaryOp_ (thn (ha pins s σ H _ I h) fun v s1 ⟨x,H1,I1,r1,q1⟩=>?_)
 obtain ⟨c,rfl,q1⟩:=q1
 cases r1
 exact not_of (wpAny_truthy_bool ⟨.bl (!c),H1,I1,rfl,q1⟩)
def tIf (t : TT) (ta tb : TE) : TE:=fun σ H Q=>t σ H fun c H1=>if c = true then ta σ H1 Q else tb σ H1 Q
theorem Mj {c : Expr} (hc : PT X c tA) (ha : PE X a ta) (hb : PE X b tb) : PE X (.IfExp c a b pos) (tIf tA ta tb):=by
 intro pins s σ H Q I h
 refine wpAny_IfExp (thn (hc pins s σ H _ I h) fun d s1 ⟨H1,I1,q1⟩=>?_)
 cases d with
 | true=>exact ha pins s1 σ H1 Q I1 q1
 | false=>exact hb pins s1 σ H1 Q I1 q1
end
end L2
namespace L2
open PySem PySem.Spec PyProof.Rows
def SqL (K : SR) (H : Hp) (a : Addr) (xs : List V) : Prop :=
 Rd H a (.lst xs) ∨
  ∃ (o : Obj) (its : Array Value) (n : Nat),K.lookup a = some o ∧ o.cls = .type "list" ∧ o.dict = none ∧ o.data = .seq its n ∧ its.size ≤ sizeLine ∧ AN xs its.toList
def SqT (K : SR) (H : Hp) (a : Addr) (xs : List V) : Prop :=
 Rd H a (.tup xs) ∨
  ∃ (o : Obj) (its : Array Value) (n : Nat),K.lookup a = some o ∧ o.cls = .type "tuple" ∧ o.data = .seq its n ∧ its.size ≤ sizeLine ∧ AN xs its.toList
def CK : Value → Option V
 | .none=>some .non
 | .bool b=>some (.bl b)
 | .int i _=>some (.int i)
 | .str x _=>some (.str x)
 | .bytes b _=>some (.byt b)
 | .float b _=>some (.flt b)
 | .ref a=>some (.ref a)
 | .type n=>some (.ty n)
 | _=>none
theorem AR.abs {x : V} {u : Value} (r : AR x u) : CK u = some x:=by
 cases x with
 | non=>cases r; rfl
 | bl _=>cases r; rfl
 | int _=>obtain ⟨t,rfl⟩:=r; rfl
 | str _=>obtain ⟨t,rfl⟩:=r; rfl
 | byt _=>obtain ⟨t,rfl⟩:=r; rfl
 | flt _=>obtain ⟨t,rfl⟩:=r; rfl
 | ref _=>cases r; rfl
 | ty _=>cases r; rfl
theorem AR.inj {x y : V} {u : Value} (r : AR x u) (q : AR y u) : x = y:=SD.inj (r.abs.symm.trans q.abs)
theorem AN.inj {xs ys : List V} {us : List Value} (a : AN xs us) (b : AN ys us) : xs = ys:=by
 induction a generalizing ys with
 | nil=>cases b; rfl
 | cons r t ih=>cases b with | cons r' t'=>rw [r.inj r',ih t']
section
variable {X : Cx} {pins : List (Addr × Obj)} {σ : St} {H : Hp} {s : Shared} {a : Addr} {xs ys : List V}
theorem SqL.of {K : SR} (h : H a = some (.lst xs)) : SqL K H a xs:=.inl (.inl h)
theorem SqT.of {K : SR} (h : H a = some (.tup xs)) : SqT K H a xs:=.inl (.inl h)
theorem Inv.list (I : Inv X pins σ H s) (h : SqL X.K H a xs) : ∃ its : List Value,AN xs its ∧ PlainL s.heap a its.toArray ∧ xs.length ≤ sizeLine:=by
 rcases h with h | ⟨o,its,n,hk,hc,hd,hs,hz,r⟩
 ·obtain ⟨z,its,n,r,e⟩:=h.ok I.hok
  exact ⟨its,r,⟨_,n,e,rfl,rfl,rfl⟩,z⟩
 ·refine ⟨its.toList,r,⟨o,n,I.kIn a o hk,hc,hd,by simpa using hs⟩,?_⟩
  have e:=r.length
  simp only [T7] at e
  lia
theorem Inv.tuple (I : Inv X pins σ H s) (h : SqT X.K H a xs) : ∃ its : List Value,AN xs its ∧ IsTup s.heap a its.toArray ∧ xs.length ≤ sizeLine:=by
 rcases h with h | ⟨o,its,n,hk,hc,hs,hz,r⟩
 ·obtain ⟨z,its,r,p⟩:=h.ok I.hok
  exact ⟨its,r,p,z⟩
 ·refine ⟨its.toList,r,⟨o,I.kIn a o hk,hc,n,by simpa using hs⟩,?_⟩
  have e:=r.length
  simp only [T7] at e
  lia
theorem Inv.list_inj (I : Inv X pins σ H s) (h : SqL X.K H a xs) (h' : SqL X.K H a ys) : xs = ys:=by
 obtain ⟨its,r,⟨o,n,e,_,_,d⟩,_⟩:=I.list h
 obtain ⟨its',r',⟨o',n',e',_,_,d'⟩,_⟩:=I.list h'
 rw [e] at e'; cases e'
 rw [d] at d'
 injection d' with d1 _
 have : its = its':=by simpa using congrArg Array.toList d1
 subst this
 exact r.inj r'
theorem Inv.tuple_inj (I : Inv X pins σ H s) (h : SqT X.K H a xs) (h' : SqT X.K H a ys) : xs = ys:=by
 obtain ⟨its,r,⟨o,e,_,n,d⟩,_⟩:=I.tuple h
 obtain ⟨its',r',⟨o',e',_,n',d'⟩,_⟩:=I.tuple h'
 rw [e] at e'; cases e'
 rw [d] at d'
 injection d' with d1 _
 have : its = its':=by simpa using congrArg Array.toList d1
 subst this
 exact r.inj r'
end
abbrev Cx.wish (X : Cx) (E : Value → Shared → Prop) : Cx:={ X with xe:=E }
abbrev Cx.nox (X : Cx) : Cx:=X.wish fun _ _=>False
theorem Cx.Ok.wish {X : Cx} (ok : X.Ok) (E : Value → Shared → Prop) : (X.wish E).Ok :=
 ⟨ok.mod,ok.kind,ok.glob,ok.blt,ok.above,ok.inj,ok.has,ok.cab,ok.hd,ok.frames,ok.stk,ok.exf,ok.bs,ok.bsz,ok.noex,ok.exfs,ok.funs,ok.frf⟩
theorem Cx.Ok.unwish {X : Cx} {E : Value → Shared → Prop} (ok : (X.wish E).Ok) : X.Ok :=
 ⟨ok.mod,ok.kind,ok.glob,ok.blt,ok.above,ok.inj,ok.has,ok.cab,ok.hd,ok.frames,ok.stk,ok.exf,ok.bs,ok.bsz,ok.noex,ok.exfs,ok.funs,ok.frf⟩
section
variable {X : Cx} {pins : List (Addr × Obj)} {σ : St} {H : Hp} {s : Shared} {E : Value → Shared → Prop}
theorem Inv.wish (I : Inv X pins σ H s) (E : Value → Shared → Prop) : Inv (X.wish E) pins σ H s:=⟨I.ok.wish E,I.os,I.bare,I.base,I.loc,I.cell,I.free,I.freeC,I.pin,I.hok,I.len⟩
theorem Inv.unwish (I : Inv (X.wish E) pins σ H s) : Inv X pins σ H s:=⟨I.ok.unwish,I.os,I.bare,I.base,I.loc,I.cell,I.free,I.freeC,I.pin,I.hok,I.len⟩
theorem SP.unwish {D : EM} {f : Flow} {s' : Shared} (h : SP (X.wish E) pins D f s') : SP X pins D f s':=by
 cases f with
 | next=>obtain ⟨σ',H',I,q⟩:=h; exact ⟨σ',H',I.unwish,q⟩
 | brk=>obtain ⟨σ',H',I,q⟩:=h; exact ⟨σ',H',I.unwish,q⟩
 | cont=>obtain ⟨σ',H',I,q⟩:=h; exact ⟨σ',H',I.unwish,q⟩
 | ret u=>obtain ⟨v,σ',H',I,r,q⟩:=h; exact ⟨v,σ',H',I.unwish,r,q⟩
theorem PSs.nox {st : List Stmt} {t : TS} (h : PSs X.nox st t) : PSs X st t:=fun pins s σ H D I hw =>
 wpAny_mono (h pins s σ H D (I.wish _) hw) (fun _ _ q=>q.unwish) fun _ _ z=>False.elim z
end
section
variable {X : Cx} {st : Stmt} {Bx : List Stmt} {t u : TS} {e : Expr} {te : TE} {pos : Pos}
def PH : TS:=fun D σ H=>D.nx σ H
@[reducible] def EM.to (D : EM) (n : St → Hp → Prop) : EM:={ D with nx:=n }
def Ol (t u : TS) : TS:=fun D σ H=>t (D.to (u D)) σ H
theorem Ax : PSs X [] PH:=fun _ _ σ H _ I h=>wpAny_execs_nil ⟨σ,H,I,h⟩
theorem AY (h1 : PS X st t) (h2 : PSs X Bx u) : PSs X (st :: Bx) (Ol t u):=by
 intro pins s σ H D I h
 refine wpAny_execs_cons (thn (h1 pins s σ H { D with nx:=u D } I h) fun f s1 q=>?_)
 cases f with
 | next =>
   obtain ⟨σ',H',I',q⟩:=q
   exact h2 pins s1 σ' H' D I' q
 | ret v=>exact q
 | brk=>exact q
 | cont=>exact q
theorem Ah (h1 : PS X st t) : PSs X [st] t:=by
 intro pins s σ H D I h
 refine wpAny_execs_cons (thn (h1 pins s σ H D I h) fun f s1 q=>?_)
 cases f with
 | next=>exact wpAny_execs_nil q
 | ret v=>exact q
 | brk=>exact q
 | cont=>exact q
theorem Inv.quiet {pins : List (Addr × Obj)} {σ : St} {H : Hp} {s : Shared} (I : Inv X pins σ H s) : interactive X.env = false:=by simp [interactive,I.ok.kind]
def PN (te : TE) : TS:=fun D σ H=>te σ H fun _ H1=>D.nx σ H1
theorem Cu (he : PE X e te) (hs : swapsWith e none pos.line X.env = pure false:=by rfl) : PS X (.Expr e pos) (PN te):=by
 intro pins s σ H D I h
 exact wpAny_Expr_any (thn (he pins s σ H _ I h) fun v s1 ⟨x,H1,I1,r1,q1⟩=>⟨σ,H1,I1,q1⟩) I.quiet hs
def Qv (te : TE) : TS:=fun D σ H=>te σ H D.rt
theorem Az (he : PE X e te) : PS X (.Return (some e) pos) (Qv te):=by
 intro pins s σ H D I h
 exact wpAny_Return_some (thn (he pins s σ H _ I h) fun v s1 ⟨x,H1,I1,r1,q1⟩=>⟨x,σ,H1,I1,r1,q1⟩)
def N9 (c : TT) (t u : TS) : TS:=fun D σ H=>c σ H fun b H1=>if b = true then t D σ H1 else u D σ H1
theorem Q8 {c : Expr} {a b : List Stmt} {tc : TT} (hc : PT X c tc) (ha : PSs X a t) (hb : PSs X b u) : PS X (.If c a b pos) (N9 tc t u):=by
 intro pins s σ H D I h
 refine wpAny_If (thn (hc pins s σ H _ I h) fun d s1 ⟨H1,I1,q1⟩=>?_)
 cases d with
 | true=>exact ha pins s1 σ H1 D I1 q1
 | false=>exact hb pins s1 σ H1 D I1 q1
def LU : TS:=fun _ _ _=>False
theorem BE : PS X st LU:=fun _ _ _ _ _ _ h=>h.elim
theorem CA {sts : List Stmt} : PSs X sts LU:=fun _ _ _ _ _ _ h=>h.elim
end
abbrev TG:=V → St → Hp → (St → Hp → Prop) → Prop
abbrev TGs:=List V → St → Hp → (St → Hp → Prop) → Prop
def PG (X : Cx) (target : Expr) (t : TG) : Prop :=
 ∀ (pins : List (Addr × Obj)) (s : Shared) (σ : St) (H : Hp) (v : V) (u : Value) (Q : St → Hp → Prop),Inv X pins σ H s → AR v u → t v σ H Q →
   wpAny (model X.prog X.w) X.A (assign target X.env u) (fun _ s'=>∃ σ' H',Inv X pins σ' H' s' ∧ Q σ' H') X.xe s
def PGs (X : Cx) (ts : List Expr) (t : TGs) : Prop :=
 ∀ (pins : List (Addr × Obj)) (s : Shared) (σ : St) (H : Hp) (vs : List V) (us : List Value) (Q : St → Hp → Prop),Inv X pins σ H s → AN vs us → t vs σ H Q →
   wpAny (model X.prog X.w) X.A (assignInOrder ((assignEach ts X.env).map (·.2)) us) (fun _ s'=>∃ σ' H',Inv X pins σ' H' s' ∧ Q σ' H') X.xe s
abbrev Pl:=V → V → V → Hp → (Hp → Prop) → Prop
def Qq (X : Cx) (t : Pl) : Prop :=
 ∀ (pins : List (Addr × Obj)) (s : Shared) (σ : St) (H : Hp) (o i v : V) (ov iv u : Value) (Q : Hp → Prop),Inv X pins σ H s → AR o ov → AR i iv → AR v u → t o i v H Q →
   wpAny (model X.prog X.w) X.A (setItem ov iv u) (fun _ s'=>∃ H',Inv X pins σ H' s' ∧ Q H') X.xe s
section
variable {X : Cx} {pos : Pos}
def C8 (i : Nat) : TG:=fun v σ H Q=>Q (σ.set i (some v)) H
theorem AK {i : Nat} {x : Str} (hN : X.N.Nodup) (hi : X.N[i]? = some x) (hx : Loc X.env.scope x) (hf : X.fn x = true ∨ X.env.scope.names.lookup x = some .local:=by first | exact .inl rfl | exact .inr rfl | assumption) : PG X (.Name x pos) (C8 i):=by
 intro pins s σ H v u Q I r h
 exact wpAny_assign_Name (D6 I hN hi hx r (fun s' I'=>⟨_,H,I',h⟩) hf)
def Pa : TGs:=fun vs σ H Q=>vs = [] ∧ Q σ H
inductive Jr (t : TG) (u : TGs) (vs : List V) (σ : St) (H : Hp) (Q : (St → Hp → Prop)) : Prop
 | mk (v : _) (r : _) (h1 : vs = v :: r) (h2 : t v σ H fun σ' H'=>u r σ' H' Q) : Jr t u vs σ H Q
theorem FG : PGs X [] Pa:=by
 intro pins s σ H vs us Q I r h
 obtain ⟨e,h⟩:=h
 subst e
 cases r
 exact assignInOrder_nil ⟨σ,H,I,h⟩
theorem Cg {e : Expr} {es : List Expr} {t : TG} {u : TGs} (h1 : PG X e t) (h2 : PGs X es u)
 (hs : (assignEach (e :: es) X.env).map (·.2) = assign e X.env :: (assignEach es X.env).map (·.2):=by rfl) : PGs X (e :: es) (Jr t u):=by
 intro pins s σ H vs us Q I r h
 obtain ⟨v,vr,e1,h⟩:=h
 subst e1
 cases r with
 | cons r rr =>
   rw [hs]
   refine assignInOrder_cons (thn (h1 pins s σ H _ _ _ I r h) fun _ s1 ⟨σ1,H1,I1,q1⟩=>?_)
   exact h2 pins s1 σ1 H1 _ _ Q I1 rr q1
inductive Lv (K : SR) (n : Nat) (t : TGs) (v : V) (σ : St) (H : Hp) (Q : (St → Hp → Prop)) : Prop
 | mk (a : _) (xs : _) (h1 : v = .ref a) (h2 : SqT K H a xs) (h3 : xs.length = n) (h4 : t xs σ H Q) : Lv K n t v σ H Q
theorem OC {es : List Expr} {k : Nat} {t : TGs} {n : Nat} (hc : X.calm = true) (h : PGs X es t)
 (hn : (assignEach es X.env).length = n:=by rfl) (hst : (assignEach es X.env).findIdx? (·.1) = none:=by rfl) : PG X (.Tuple es k pos) (Lv X.K n t):=by
 intro pins s σ H v u Q I r hw
 obtain ⟨a,xs,e1,hq,hl,hw⟩:=hw
 subst e1
 cases r
 obtain ⟨its,rv,ht,hz⟩:=I.tuple hq
 refine assign_Tuple_tuple (I.ok.hd hc) ht (by simp [hn,← hl,rv.length]) hst fun h' hx=>?_
 have I1 : Inv X pins σ H { s with heap:=h' }:=I.kept (t':=s.toks) fun b o e=>hx b o (SJ (Heap.lt_size e)) e
 exact h pins _ σ H xs _ Q I1 (by simpa using rv) hw
def QP (to ti : TE) (t : Pl) : TG:=fun v σ H Q=>to σ H fun o H1=>ti σ H1 fun i H2=>t o i v H2 fun H3=>Q σ H3
theorem Mg {o i : Expr} {to ti : TE} {t : Pl} (ho : PE X o to) (hi : PE X i ti) (hs : Qq X t)
 (ha : ∀ v,assign (.Subscript o i pos) X.env v = (do
  let ov ← holding [v] (eval o X.env)
  let iv ← holding [v,ov] (eval i X.env)
  standAt pos
  holding [v,ov,iv] (setItem ov iv v)
  release [v,ov,iv] []):=by intro _; rfl) : PG X (.Subscript o i pos) (QP to ti t):=by
 intro pins s σ H v u Q I r h
 rw [ha]
 refine wpAny_bind (wpAny_holding (thn (ho pins s σ H _ I h) fun ov s1 ⟨x,H1,I1,r1,q1⟩=>?_))
 refine wpAny_bind (wpAny_holding (thn (hi pins s1 σ H1 _ I1 q1) fun iv s2 ⟨y,H2,I2,r2,q2⟩=>?_))
 refine wpAny_bind (wpAny_standAt (wpAny_bind (wpAny_holding (thn (hs pins s2 σ H2 x y v ov iv u _ I2 r1 r2 r q2) fun _ s3 ⟨H3,I3,q3⟩=>?_))))
 exact wpAny_release ⟨σ,H3,I3,q3⟩
def KY (te : TE) (g : TG) : TS:=fun D σ H=>te σ H fun x H1=>g x σ H1 D.nx
theorem JT {tg e : Expr} {te : TE} {g : TG} (he : PE X e te) (hg : PG X tg g) (hs : swapsWithSole [tg] e pos.line X.env = pure false:=by rfl) (hw : swappedStores [tg] e X.env = pure none:=by rfl)
 (h1 : (assignEach [tg] X.env).map (·.2) = [assign tg X.env]:=by rfl) : PS X (.Assign [tg] e pos) (KY te g):=by
 intro pins s σ H D I h
 refine wpAny_Assign_stores (thn (he pins s σ H _ I h) fun v s1 ⟨x,H1,I1,r1,q1⟩=>?_) hs hw
 rw [h1]
 exact thn (hg pins s1 σ H1 x v _ I1 r1 q1) fun _ s2 q=>q
theorem Ap {i : Nat} {x : Str} {e : Expr} {te : TE} {pos' : Pos} (hN : X.N.Nodup) (hi : X.N[i]? = some x) (hx : Loc X.env.scope x) (he : PE X e te) (hs : swapsWith e (some (.Name x pos')) pos.line X.env = pure false:=by rfl) (hf : X.fn x = true ∨ X.env.scope.names.lookup x = some .local:=by first | exact .inl rfl | exact .inr rfl | assumption) :
 PS X (.Assign [.Name x pos'] e pos) (KY te (C8 i)):=by
 intro pins s σ H D I h
 refine wpAny_Assign_Name (thn (he pins s σ H _ I h) fun v s1 ⟨y,H1,I1,r1,q1⟩=>?_) hs
 exact D6 I1 hN hi hx r1 (fun s2 I2=>⟨_,H1,I2,q1⟩) hf
def Qw (i j : Nat) (ta : TA) : TS:=fun D σ H=>ta σ H fun vs H1=>∃ v w,vs = [v,w] ∧ D.nx ((σ.set i (some v)).set j (some w)) H1
theorem Oy {i j : Nat} {x y : Str} {a b : Expr} {ta : TA} {px py pt : Pos} {kt k2 pt2} (hc : X.calm = true) (hN : X.N.Nodup) (hi : X.N[i]? = some x) (hj : X.N[j]? = some y) (hij : i ≠ j)
 (hx : X.env.scope.names.lookup x = some .local) (hy : X.env.scope.names.lookup y = some .local) (ha : PA X [a,b] ta)
 (hw : swappedStores [.Tuple [.Name x px,.Name y py] kt pt] (.Tuple [a,b] k2 pt2) X.env = pure (some [x,y]))
 (hs : swapsWithSole [.Tuple [.Name x px,.Name y py] kt pt] (.Tuple [a,b] k2 pt2) pos.line X.env = pure false:=by rfl) :
 PS X (.Assign [.Tuple [.Name x px,.Name y py] kt pt] (.Tuple [a,b] k2 pt2) pos) (Qw i j ta):=by
 intro pins s σ H D I h
 rw [exec_Assign_arm]
 refine wpAny_bind (wpAny_standAt ?_)
 rw [hs]
 refine wpAny_bind (wpAny_pure ?_)
 rw [if_neg (by decide)]
 refine wpAny_bind (Tuple_ (thn (ha _ pins s σ H _ I h) fun us s1 ⟨vs,H1,I1,r1,q1⟩=>?_))
 obtain ⟨v,w,e1,q1⟩:=q1
 subst e1
 obtain ⟨u1,u2,rfl,rv,rw'⟩ : ∃ u1 u2,us = [u1,u2] ∧ AR v u1 ∧ AR w u2:=by
  cases r1 with
  | cons p q =>
    cases q with
    | cons p' q' =>
      cases q'
      exact ⟨_,_,rfl,p,p'⟩
 refine wpAny_newObj_type ?_ (by show 2 ≤ sizeLine; decide)
 have I2 : Inv X pins σ H1 { s1 with heap:=s1.heap.push { cls:=.type "tuple",data:=.seq [u1,u2].toArray } }:=I1.kept (t':=s1.toks) fun b o e=>Heap.get?_push_of_some _ e
 rw [hw]
 refine wpAny_bind (wpAny_pure ?_)
 show wpAny (model X.prog X.w) X.A (do rule "assign.swapped-stores"; let items ← unpackItems (.ref s1.heap.objs.size) 2 none; assignInOrder [fun v=>bindName X.env y v,fun v=>bindName X.env x v] items.reverse; pure Flow.next) _ _ _
 refine wpAny_bind (wpAny_rule (wpAny_bind (unpackItems_tuple (items:=#[u1,u2]) (I.ok.hd hc) (IsTup.new s1.heap _) fun h' hx'=>?_)))
 have I3:=I2.kept (h':=h') (t':=s1.toks) fun b o e=>hx' b o (SJ (Heap.lt_size e)) e
 show wpAny _ _ (assignInOrder [fun v=>bindName X.env y v,fun v=>bindName X.env x v] [u2,u1] >>= fun _=>pure Flow.next) _ _ _
 refine wpAny_bind (assignInOrder_cons (wpAny_bindName (D6 I3 hN hj (.inl hy) rw' (fun s2 I4=>?_) (.inr hy))))
 refine assignInOrder_cons (wpAny_bindName (D6 I4 hN hi (.inl hx) rv (fun s3 I5=>assignInOrder_nil (wpAny_pure ?_)) (.inr hx)))
 rw [List.set_comm _ _ (Ne.symm hij)] at I5
 exact ⟨_,H1,I5,q1⟩
end
section
variable {X : Cx} {pos : Pos}
def LS (c : TT) (tb : TS) : TS:=fun D σ H=>∃ W : Nat → St → Hp → Prop,(∃ m,W m σ H) ∧ ∀ m σ H,W m σ H →
 c σ H fun b H1=>if b = true then ∃ N : St → Hp → Prop,(∀ σ' H',N σ' H' → ∃ m',m' < m ∧ W m' σ' H') ∧ tb { D with nx:=N,ct:=N,bk:=D.nx } σ H1 else D.nx σ H1
theorem Eu {c : Expr} {body : List Stmt} {tc : TT} {tb : TS} (hp : PassesOwn (model X.prog X.w) X.A X.env X.xe) (hc : PT X c tc) (hb : PSs X body tb) : PS X (.While c body [] pos) (LS tc tb):=by
 intro pins s σ H D I h
 obtain ⟨W,⟨m0,w0⟩,turn⟩:=h
 refine wpAny_While (codeAny_whileLoop (fun n s'=>∃ σ' H',Inv X pins σ' H' s' ∧ W n σ' H') ?_ m0 ⟨σ,H,I,w0⟩)
 rintro n s1 ⟨σ1,H1,I1,w1⟩
 refine wpAny_passesOwn hp (thn (hc pins s1 σ1 H1 _ I1 (turn n σ1 H1 w1)) fun b s2 ⟨H2,I2,q2⟩=>?_)
 cases b with
 | true =>
   obtain ⟨N,hN,q2⟩:=q2
   rw [if_pos rfl]
   refine wpAny_passesOwn hp (thn (hb pins s2 σ1 H2 _ I2 q2) fun f s3 q3=>?_)
   cases f with
   | next =>
     obtain ⟨σ3,H3,I3,n3⟩:=q3
     obtain ⟨m',hm,w3⟩:=hN σ3 H3 n3
     exact ⟨m',hm,σ3,H3,I3,w3⟩
   | cont =>
     obtain ⟨σ3,H3,I3,n3⟩:=q3
     obtain ⟨m',hm,w3⟩:=hN σ3 H3 n3
     exact ⟨m',hm,σ3,H3,I3,w3⟩
   | brk=>exact q3
   | ret v=>exact q3
 | false =>
   rw [if_neg Bool.false_ne_true]
   exact wpAny_execs_nil ⟨σ1,H2,I2,q2⟩
end
structure It where
 go : Nat → Hp → Prop
 yld : Nat → Hp → V → Hp → Prop
 stop : Nat → Hp → Prop
def DS (X : Cx) (pins : List (Addr × Obj)) (H : Hp) (b : Addr) : Prop :=
 H b = none ∧ b ≠ X.env.locals ∧ b ∉ X.fs ∧ (b ∈ X.ex ∨ X.s₀.heap.objs.size ≤ b) ∧ (∀ x c,X.env.cells.lookup x = some c → c ≠ b) ∧ ∀ p ∈ X.pn ++ pins,p.1 ≠ b
theorem Inv.fpOk {X : Cx} {pins : List (Addr × Obj)} {σ : St} {H H' : Hp} {s : Shared} {b : Addr} (I : Inv X pins σ H s) (hb : s.heap.objs.size ≤ b) (hn : H' b = none) : DS X pins H' b:=by
 refine ⟨hn,T8 (SH I.lt hb),I.nofs hb,.inr (SU I.sz hb),fun x c e z=>?_,fun p hp z=>?_⟩
 ·obtain ⟨v,q⟩:=I.cell x c e
  exact absurd (SH q.lt (by rw [z]; exact hb)) (SI _)
 ·exact absurd (SH (Heap.lt_size (I.pin p hp).1) (by rw [z]; exact hb)) (SI _)
structure JG (P : Program) (w : World) (K : SR) (tg : Expr) (J : It) (fp : List Addr) (it : Addr) (tn : Nat → Heap → Prop) : Prop where
 mem : it ∈ fp
 obj : ∀ i h,tn i h → ∀ b ∈ fp,∃ o,h.get? b = some o ∧ ∀ v,o.data ≠ .cell v
 keep : ∀ i h h',tn i h → (∀ b ∈ fp,∀ o,h.get? b = some o → h'.get? b = some o) → tn i h'
 item : ∀ (X : Cx),X.prog = P → X.w = w → X.K = K → X.calm = true → ∀ (i : Nat) (pins : List (Addr × Obj)) (s : Shared) (σ : St) (H : Hp) (E : Value → Shared → Prop),Inv X pins σ H s → (∀ b ∈ fp,DS X pins H b) → tn i s.heap → J.go i H →
  wpAny (model P w) X.A (pyNext (.ref it)) (fun r s1=>∃ u,r = some u ∧
   wpAny (model P w) X.A (letOwnedTupleGo tg (.ref it) u) (fun _ s2=>∃ x H',Inv X pins σ H' s2 ∧ AR x u ∧ J.yld i H x H' ∧ tn (i + 1) s2.heap ∧ ∀ b ∈ fp,H' b = none) E s1) E s
 done : ∀ (X : Cx),X.prog = P → X.w = w → X.K = K → X.calm = true → ∀ (i : Nat) (pins : List (Addr × Obj)) (s : Shared) (σ : St) (H : Hp) (E : Value → Shared → Prop),Inv X pins σ H s → (∀ b ∈ fp,DS X pins H b) → tn i s.heap → J.stop i H →
  wpAny (model P w) X.A (pyNext (.ref it)) (fun r s1=>r = none ∧ Inv X pins σ H s1) E s
 self : ∀ (A : Around) (i : Nat) (s : Shared) (Q : Value → Shared → Prop) (E : Value → Shared → Prop),tn i s.heap → Q (.ref it) s → wpAny (model P w) A (pyIter (.ref it)) Q E s
abbrev TI:=St → Hp → (It → Hp → Prop) → Prop
def PIE (X : Cx) (pins : List (Addr × Obj)) (σ : St) (tg : Expr) (R : It → Hp → Prop) (itv : Value) (s2 : Shared) : Prop :=
 ∃ (it : Addr) (fp : List Addr) (tn : Nat → Heap → Prop) (J : It) (H' : Hp),itv = .ref it ∧ Inv X pins σ H' s2 ∧ JG X.prog X.w X.K tg J fp it tn ∧ tn 0 s2.heap ∧ (∀ b ∈ fp,DS X pins H' b) ∧ R J H'
def PI (X : Cx) (tg iter : Expr) (wi : TI) : Prop :=
 ∀ (pins : List (Addr × Obj)) (s : Shared) (σ : St) (H : Hp) (R : It → Hp → Prop),Inv X pins σ H s → wi σ H R →
   wpAny (model X.prog X.w) X.A (eval iter X.env) (fun v s1=>wpAny (model X.prog X.w) X.A (pyIter v) (PIE X pins σ tg R) X.xe s1) X.xe s
theorem Jq {M : Model} {A : Around} {E : Value → Shared → Prop} {s : Shared} {tg : Expr} {it : Addr} {u : Value} {o : Obj} {n : String} {vs : Array Value} {Q : Unit → Shared → Prop} (ho : s.heap.get? it = some o) (hc : o.cls = .type n) (hd : o.data = .fields vs)
 (hn : ["enumerate","zip","dict_itemiterator","dict_reverseitemiterator","odict_iterator","itertools.zip_longest","itertools.pairwise"].contains n = false) (hQ : Q () s) : wpAny M A (letOwnedTupleGo tg (.ref it) u) Q E s:=by
 unfold letOwnedTupleGo
 cases tg <;> first
  | exact wpAny_pure hQ
  | (cases u <;> first
   | exact wpAny_pure hQ
   | (refine wpAny_bind (wpAny_load ho ?_)
      rw [hc,hd]
      show wpAny M A (if (["enumerate","zip","dict_itemiterator","dict_reverseitemiterator","odict_iterator","itertools.zip_longest","itertools.pairwise"].contains n && vs[0]? == some (rawInt _)) = true then _ else _) Q E s
      rw [if_neg (by intro h; rw [hn,Bool.false_and] at h; cases h)]
      exact wpAny_pure hQ))
def Itl (K : SR) (a : Addr) : It :=
 ⟨fun i H=>∃ xs x,SqL K H a xs ∧ xs[i]? = some x,fun i H x H'=>H' = H ∧ ∀ xs,SqL K H a xs → xs[i]? = some x,fun i H=>∃ xs,SqL K H a xs ∧ xs.length ≤ i⟩
def Itt (K : SR) (a : Addr) : It :=
 ⟨fun i H=>∃ xs x,SqT K H a xs ∧ xs[i]? = some x,fun i H x H'=>H' = H ∧ ∀ xs,SqT K H a xs → xs[i]? = some x,fun i H=>∃ xs,SqT K H a xs ∧ xs.length ≤ i⟩
def Itr (lo : Int) (n : Nat) : It:=⟨fun i _=>i < n,fun i H x H'=>H' = H ∧ x = .int (lo + i),fun i _=>n ≤ i⟩
theorem Hr {P : Program} {w : World} {K : SR} {tg : Expr} (a it : Addr) : JG P w K tg (Itl K a) [it] it (fun i h=>h.IsListIter it a i) where
 mem:=by simp
 obj:=fun i h st b hb=>by
  have e : b = it:=by simpa using hb
  subst e
  obtain ⟨o,e,c,d⟩:=st
  exact ⟨o,e,fun v z=>by rw [d] at z; cases z⟩
 keep:=fun i h h' st k=>st.at fun o e=>k it (by simp) o e
 item:=by
  intro X hP hw hK hc i pins s σ H E I hf st hg
  subst hP hw hK
  obtain ⟨xs,x,hq,hx⟩:=hg
  obtain ⟨its,rv,p,hz⟩:=I.list hq
  obtain ⟨u,hu,ru⟩:=rv.get hx
  obtain ⟨f0,f1,f2,f3,f4,f5⟩:=hf it (by simp)
  refine wpAny_pyNext_list_item st p.isList (x:=u) (by simpa using hu) fun h' st' sb=>?_
  have I1 : Inv X pins σ H { s with heap:=h' }:=I.turned (t':=s.toks) (fun b o hb e=>(sb.2 b hb).trans e) f0 f1 f3 f4 f5
  obtain ⟨o,e,c,d⟩:=id st'
  exact ⟨u,rfl,Jq (s:={ s with heap:=h' }) e c d (by decide) ⟨x,H,I1,ru,⟨rfl,fun ys hy=>by rw [I.list_inj hy hq]; exact hx⟩,st',fun b hb=>(hf b hb).1⟩⟩
 done:=by
  intro X hP hw hK hc i pins s σ H E I hf st hg
  subst hP hw hK
  obtain ⟨xs,hq,hx⟩:=hg
  obtain ⟨its,rv,p,hz⟩:=I.list hq
  obtain ⟨f0,f1,f2,f3,f4,f5⟩:=hf it (by simp)
  have hl:=rv.length
  exact wpAny_pyNext_list_end (I.ok.hd hc) st p.isList (by simp; lia) fun h' eb=>⟨rfl,I.turned (t':=s.toks) (fun b o hb e=>eb b o hb e) f0 f1 f3 f4 f5⟩
 self:=fun _ _ _ _ _ st h=>wpAny_pyIter_listiter st h
theorem JJ {P : Program} {w : World} {K : SR} {tg : Expr} (a it : Addr) : JG P w K tg (Itt K a) [it] it (fun i h=>h.IsTupleIter it a i) where
 mem:=by simp
 obj:=fun i h st b hb=>by
  have e : b = it:=by simpa using hb
  subst e
  obtain ⟨o,e,c,d⟩:=st
  exact ⟨o,e,fun v z=>by rw [d] at z; cases z⟩
 keep:=fun i h h' st k=>st.at fun o e=>k it (by simp) o e
 item:=by
  intro X hP hw hK hc i pins s σ H E I hf st hg
  subst hP hw hK
  obtain ⟨xs,x,hq,hx⟩:=hg
  obtain ⟨its,rv,p,hz⟩:=I.tuple hq
  obtain ⟨u,hu,ru⟩:=rv.get hx
  obtain ⟨f0,f1,f2,f3,f4,f5⟩:=hf it (by simp)
  refine wpAny_pyNext_tuple_item st (show s.heap.IsTuple a its.toArray from p) (x:=u) (by simpa using hu) fun h' st' sb=>?_
  have I1 : Inv X pins σ H { s with heap:=h' }:=I.turned (t':=s.toks) (fun b o hb e=>(sb.2 b hb).trans e) f0 f1 f3 f4 f5
  obtain ⟨o,e,c,d⟩:=id st'
  exact ⟨u,rfl,Jq (s:={ s with heap:=h' }) e c d (by decide) ⟨x,H,I1,ru,⟨rfl,fun ys hy=>by rw [I.tuple_inj hy hq]; exact hx⟩,st',fun b hb=>(hf b hb).1⟩⟩
 done:=by
  intro X hP hw hK hc i pins s σ H E I hf st hg
  subst hP hw hK
  obtain ⟨xs,hq,hx⟩:=hg
  obtain ⟨its,rv,p,hz⟩:=I.tuple hq
  obtain ⟨f0,f1,f2,f3,f4,f5⟩:=hf it (by simp)
  have hl:=rv.length
  exact wpAny_pyNext_tuple_end (I.ok.hd hc) st (show s.heap.IsTuple a its.toArray from p) (by simp; lia) fun h' eb=>⟨rfl,I.turned (t':=s.toks) (fun b o hb e=>eb b o hb e) f0 f1 f3 f4 f5⟩
 self:=fun _ _ _ _ _ st h=>wpAny_pyIter_tupleiter st h
theorem JK {P : Program} {w : World} {K : SR} {tg : Expr} (it : Addr) (lo : Int) (n : Nat) : JG P w K tg (Itr lo n) [it] it (fun i h=>IsRangeIter h it (lo + (i : Nat) * 1) ((n : Int) - (i : Nat)) 1) where
 mem:=by simp
 obj:=fun i h st b hb=>by
  have e : b = it:=by simpa using hb
  subst e
  exact ⟨_,st,fun v z=>by
   have z' : Data.fields _ = Data.cell v:=z
   cases z'⟩
 keep:=fun i h h' st k=>k it (by simp) _ st
 item:=by
  intro X hP hw hK hc i pins s σ H E I hf st hg
  subst hP hw hK
  obtain ⟨f0,f1,f2,f3,f4,f5⟩:=hf it (by simp)
  have W:=Walks.range (prog:=X.prog) (w:=X.w) (I.ok.hd hc) it lo 1 n
  refine W.item i s _ _ hg st fun v h' tk hv st' kk=>?_
  obtain ⟨t,rfl⟩:=hv
  have I1 : Inv X pins σ H { s with heap:=h',toks:=tk }:=I.turned (fun b o hb e=>kk b o (by simpa using hb) e) f0 f1 f3 f4 f5
  refine ⟨_,rfl,Jq (s:={ s with heap:=h',toks:=tk }) (n:="range_iterator") st' rfl rfl (by decide) ⟨.int (lo + i),H,I1,⟨t,?_⟩,⟨rfl,rfl⟩,st',fun b hb=>(hf b hb).1⟩⟩
  rw [Int.mul_one]
 done:=by
  intro X hP hw hK hc i pins s σ H E I hf st hg
  subst hP hw hK
  obtain ⟨f0,f1,f2,f3,f4,f5⟩:=hf it (by simp)
  exact wpAny_pyNext_range_end (I.ok.hd hc) st (by have : n ≤ i:=hg; lia) fun h' eb=>⟨rfl,I.turned (t':=s.toks) (fun b o hb e=>eb b o hb e) f0 f1 f3 f4 f5⟩
 self:=fun _ _ _ _ _ st h=>wpAny_pyIter_rangeiter st h
end L2
namespace L2
open PySem PySem.Spec PyProof.Rows
section
variable {X : Cx} {tg : Expr}
def Jp (K : SR) (tl : TE) : TI:=fun σ H R=>tl σ H fun x H1=>∃ a,x = .ref a ∧ (∃ xs,SqL K H1 a xs) ∧ R (Itl K a) H1
def P9 (K : SR) (tl : TE) : TI:=fun σ H R=>tl σ H fun x H1=>∃ a,x = .ref a ∧ (∃ xs,SqT K H1 a xs) ∧ R (Itt K a) H1
theorem Kr {l : Expr} {tl : TE} (hl : PE X l tl) : PI X tg l (Jp X.K tl):=by
 intro pins s σ H R I h
 refine thn (hl pins s σ H _ I h) fun v s1 ⟨x,H1,I1,r1,q1⟩=>?_
 obtain ⟨a,e,⟨xs,hq⟩,q⟩:=q1
 subst e
 cases r1
 obtain ⟨its,rv,p,hz⟩:=I1.list hq
 refine wpAny_pyIter_list p.isList ?_
 refine ⟨s1.heap.objs.size,[s1.heap.objs.size],_,_,H1,rfl,I1.kept (t':=s1.toks) fun b o e=>Heap.get?_push_of_some _ e,Hr a _,⟨_,Heap.get?_push_size _ rfl,rfl,rfl⟩,fun b hb=>?_,q⟩
 have e : b = s1.heap.objs.size:=by simpa using hb
 subst e
 exact I1.fpOk (T9 _) (I1.hok.fresh (T9 _))
theorem Me {l : Expr} {tl : TE} (hl : PE X l tl) : PI X tg l (P9 X.K tl):=by
 intro pins s σ H R I h
 refine thn (hl pins s σ H _ I h) fun v s1 ⟨x,H1,I1,r1,q1⟩=>?_
 obtain ⟨a,e,⟨xs,hq⟩,q⟩:=q1
 subst e
 cases r1
 obtain ⟨its,rv,p,hz⟩:=I1.tuple hq
 refine wpAny_pyIter_tuple (show s1.heap.IsTuple a its.toArray from p) ?_
 refine ⟨s1.heap.objs.size,[s1.heap.objs.size],_,_,H1,rfl,I1.kept (t':=s1.toks) fun b o e=>Heap.get?_push_of_some _ e,JJ a _,⟨_,Heap.get?_push_size _ rfl,rfl,rfl⟩,fun b hb=>?_,q⟩
 have e : b = s1.heap.objs.size:=by simpa using hb
 subst e
 exact I1.fpOk (T9 _) (I1.hok.fresh (T9 _))
theorem M8 {pins : List (Addr × Obj)} {σ : St} {H : Hp} {s : Shared} {R : It → Hp → Prop} {E : Value → Shared → Prop} {lo hi : Int} {t u v : Tok} {tk : Nat} (I : Inv X pins σ H s) (h1 : -(2 ^ 62) ≤ lo) (h2 : lo < 2 ^ 62) (h3 : -(2 ^ 62) ≤ hi) (h4 : hi < 2 ^ 62)
 (q : R (Itr lo (hi - lo).toNat) H) : wpAny (model X.prog X.w) X.A (pyIter (.ref s.heap.objs.size)) (PIE X pins σ tg R) E { s with heap:=s.heap.push { cls:=.type "range",data:=.fields #[.int lo t,.int hi u,.int 1 v] },toks:=tk }:=by
 refine wpAny_pyIter_range (IsRange.new ..) (small_one h1 h2 h3 h4) ?_
 have I1 : Inv X pins σ H { s with heap:=s.heap.push { cls:=.type "range",data:=.fields #[.int lo t,.int hi u,.int 1 v] },toks:=tk }:=I.kept fun b o e=>Heap.get?_push_of_some _ e
 refine ⟨(s.heap.push { cls:=.type "range",data:=.fields #[.int lo t,.int hi u,.int 1 v] }).objs.size,[(s.heap.push { cls:=.type "range",data:=.fields #[.int lo t,.int hi u,.int 1 v] }).objs.size],_,_,H,rfl,
  I1.kept (t':=tk) fun b o e=>Heap.get?_push_of_some _ e,JK _ lo (hi - lo).toNat,?_,fun b hb=>?_,q⟩
 ·have e1 : lo + ((0 : Nat) : Int) * 1 = lo:=by simp
  have e2 : (((hi - lo).toNat : Nat) : Int) - ((0 : Nat) : Int) = Builtin.Range.rangeSize lo hi 1:=by rw [rangeSize_one]; split <;> lia
  show IsRangeIter _ _ (lo + ((0 : Nat) : Int) * 1) ((((hi - lo).toNat : Nat) : Int) - ((0 : Nat) : Int)) 1
  rw [e1,e2]
  exact Heap.get?_push_size _ rfl
 ·have e : b = (s.heap.push { cls:=.type "range",data:=.fields #[.int lo t,.int hi u,.int 1 v] }).objs.size:=by simpa using hb
  subst e
  exact I1.fpOk (T9 _) (I1.hok.fresh (T9 _))
def Qg (ta : TA) : TI:=fun σ H R=>ta σ H fun vs H1=>∃ j : Int,vs = [.int j] ∧ -(2 ^ 62) ≤ j ∧ j < 2 ^ 62 ∧ R (Itr 0 j.toNat) H1
theorem DZ {a : Expr} {ta : TA} {p pos : Pos} (hg : Gl X "range") (hm : X.mg "range" = none) (ha : PA X [a] ta) (hs : starEach [a] X.env = [(false,eval a X.env)]:=by rfl) : PI X tg (.Call (.Name "range" p) [a] [] pos) (Qg ta):=by
 intro pins s σ H R I h
 refine Call_ (Gw I hg hm boot_range (PyProof.Rows.callWith_type1 (thn (ha pos pins s σ H _ I h) fun us s1 ⟨vs,H1,I1,r1,q1⟩=>?_) hs rfl))
 obtain ⟨j,e,q1,q2,q⟩:=q1
 subst e
 cases r1 with
 | cons r rr =>
   cases rr
   obtain ⟨t,rfl⟩:=r
   exact call_range_1 (M8 I1 (by lia) (by lia) q1 q2 (by simpa using q))
def PL (wi : TI) (g : TG) (tb : TS) : TS:=fun D σ H=>wi σ H fun J H1=>∃ W : Nat → Nat → St → Hp → Prop,(∃ m,W 0 m σ H1) ∧ ∀ i m σ H,W i m σ H →
 (J.stop i H ∧ D.nx σ H) ∨ (J.go i H ∧ ∃ N : St → Hp → Prop,(∀ σ' H',N σ' H' → ∃ m',m' < m ∧ W (i + 1) m' σ' H') ∧ ∀ x H',J.yld i H x H' → g x σ H' fun σ2 H2=>tb { D with nx:=N,ct:=N,bk:=D.nx } σ2 H2)
def EX (fp : List Addr) (h : Heap) : List (Addr × Obj):=fp.filterMap fun b=>(h.get? b).map fun o=>(b,o)
theorem Cb {fp : List Addr} {h : Heap} {b : Addr} {o : Obj} (hb : b ∈ fp) (e : h.get? b = some o) : (b,o) ∈ EX fp h:=Ta.mpr ⟨b,hb,by rw [e]; rfl⟩
theorem Lk {fp : List Addr} {h : Heap} {p : Addr × Obj} (hp : p ∈ EX fp h) : p.1 ∈ fp ∧ h.get? p.1 = some p.2:=by
 obtain ⟨b,hb,e⟩:=Ta.mp hp
 cases q : h.get? b with
 | none=>rw [q] at e; cases e
 | some o =>
   rw [q] at e
   have e' : (b,o) = p:=SD.inj e
   subst e'
   exact ⟨hb,q⟩
theorem Inv.pinned {pins : List (Addr × Obj)} {σ : St} {H : Hp} {s : Shared} {fp : List Addr} (I : Inv X pins σ H s) (hf : ∀ b ∈ fp,DS X pins H b) (ho : ∀ b ∈ fp,∃ o,s.heap.get? b = some o ∧ ∀ v,o.data ≠ .cell v) : Inv X (pins ++ EX fp s.heap) σ H s :=
 I.pins_of fun p hp=>(T2.mp hp).elim (fun z=>I.pin p (Tb _ z)) fun z=>by
  obtain ⟨hb,e⟩:=Lk z
  obtain ⟨f0,f1,f2,_⟩:=hf p.1 hb
  obtain ⟨o,e',d⟩:=ho p.1 hb
  rw [e] at e'; cases e'
  exact ⟨e,f0,f1,f2,d⟩
theorem Inv.unpinned {pins pl : List (Addr × Obj)} {σ : St} {H : Hp} {s : Shared} (I : Inv X (pins ++ pl) σ H s) : Inv X pins σ H s:=I.pins_of fun p hp=>I.pin p (Tb _ (T3 _ hp))
theorem OA {iter : Expr} {body : List Stmt} {wi : TI} {g : TG} {tb : TS} {pos : Pos} (hp : PassesOwn (model X.prog X.w) X.A X.env X.xe) (hc : X.calm = true) (hi : PI X tg iter wi) (hg : PG X tg g) (hb : PSs X body tb)
 (hs : ∀ x,foldedSetIterable iter X.env x = pure x:=by intro _; rfl) : PS X (.For tg iter body [] pos) (PL wi g tb):=by
 intro pins s σ H D I h
 refine wpAny_For (thn (hi pins s σ H _ I h) fun v s1 h1=>thn h1 fun itv s2 h2=>?_) hs
 obtain ⟨it,fp,tn,J,H2,e,I2,T,st2,f2,W,⟨m0,w0⟩,turn⟩:=h2
 subst e
 -- what stays true of the iterator's objects through the loop
 have stat : ∀ {H' : Hp},(∀ b ∈ fp,H' b = none) → ∀ b ∈ fp,DS X pins H' b:=fun hn b hb=>⟨hn b hb,(f2 b hb).2⟩
 refine codeAny_forLoop_any (fun n s'=>∃ i σ' H',Inv X pins σ' H' s' ∧ tn i s'.heap ∧ (∀ b ∈ fp,H' b = none) ∧ W i n σ' H') ?_ m0 ⟨0,σ,H2,I2,st2,fun b hb=>(f2 b hb).1,w0⟩
 rintro n s3 ⟨i,σ3,H3,I3,st3,fr3,w3⟩
 rcases turn i n σ3 H3 w3 with ⟨stop,qn⟩ | ⟨go,N,hN,step⟩
 ·refine wpAny_passesOwn hp (thn (T.done X rfl rfl rfl hc i pins s3 σ3 H3 X.xe I3 (stat fr3) st3 stop) fun r s4 ⟨hr,I4⟩=>?_)
  subst hr
  exact wpAny_execs_nil ⟨σ3,H3,I4,qn⟩
 ·refine wpAny_passesOwn hp (thn (T.item X rfl rfl rfl hc i pins s3 σ3 H3 X.xe I3 (stat fr3) st3 go) fun r s4 ⟨u,hr,h4⟩=>?_)
  subst hr
  refine wpAny_passesOwn hp (thn h4 fun _ s5 ⟨x,H5,I5,r5,y5,st5,fr5⟩=>?_)
  have I5':=I5.pinned (stat fr5) (T.obj _ _ st5)
  refine wpAny_passesOwn hp (thn (hg _ s5 σ3 H5 x u _ I5' r5 (step x H5 y5)) fun _ s6 ⟨σ6,H6,I6,q6⟩=>?_)
  refine wpAny_passesOwn hp (thn (hb _ s6 σ6 H6 _ I6 q6) fun f s7 q7=>?_)
  have again : ∀ {σ7 : St} {H7 : Hp},Inv X (pins ++ EX fp s5.heap) σ7 H7 s7 → N σ7 H7 → ∃ m,m < n ∧ ∃ i σ' H',Inv X pins σ' H' s7 ∧ tn i s7.heap ∧ (∀ b ∈ fp,H' b = none) ∧ W i m σ' H':=fun {σ7 H7} I7 n7=>by
   obtain ⟨m',hm,w7⟩:=hN σ7 H7 n7
   refine ⟨m',hm,i + 1,σ7,H7,I7.unpinned,T.keep _ _ _ st5 fun b hb o e=>(I7.pin (b,o) (Tb _ (Tb _ (Cb hb e)))).1,fun b hb=>?_,w7⟩
   obtain ⟨o,e,d⟩:=T.obj _ _ st5 b hb
   exact (I7.pin (b,o) (Tb _ (Tb _ (Cb hb e)))).2.1
  cases f with
  | next=>obtain ⟨σ7,H7,I7,n7⟩:=q7; exact again I7 n7
  | cont=>obtain ⟨σ7,H7,I7,n7⟩:=q7; exact again I7 n7
  | brk=>obtain ⟨σ7,H7,I7,q7⟩:=q7; exact ⟨σ7,H7,I7.unpinned,q7⟩
  | ret v=>obtain ⟨x7,σ7,H7,I7,r7,q7⟩:=q7; exact ⟨x7,σ7,H7,I7.unpinned,r7,q7⟩
end
theorem EH {K : SR} {a : Addr} {xs : List V} {g : TG} {tb : TS} {D : EM} {σ : St} {H : Hp} (Pv : Nat → St → Hp → Prop) (h0 : Pv 0 σ H) (hl : ∀ i σ H,i ≤ xs.length → Pv i σ H → SqL K H a xs)
 (hs : ∀ i x σ H,xs[i]? = some x → Pv i σ H → g x σ H fun σ2 H2=>tb { D with nx:=Pv (i + 1),ct:=Pv (i + 1),bk:=D.nx } σ2 H2) (hd : ∀ σ H,Pv xs.length σ H → D.nx σ H) :
 ∃ W : Nat → Nat → St → Hp → Prop,(∃ m,W 0 m σ H) ∧ ∀ i m σ H,W i m σ H →
   ((Itl K a).stop i H ∧ D.nx σ H) ∨ ((Itl K a).go i H ∧ ∃ N : St → Hp → Prop,(∀ σ' H',N σ' H' → ∃ m',m' < m ∧ W (i + 1) m' σ' H') ∧ ∀ x H',(Itl K a).yld i H x H' → g x σ H' fun σ2 H2=>tb { D with nx:=N,ct:=N,bk:=D.nx } σ2 H2):=by
 refine ⟨fun i m σ H=>m = xs.length - i ∧ i ≤ xs.length ∧ Pv i σ H,⟨xs.length,by simp,Tc _,h0⟩,?_⟩
 rintro i m σ H ⟨rfl,hi,p⟩
 have q:=hl i σ H hi p
 by_cases hlt : i < xs.length
 ·refine .inr ⟨⟨xs,xs[i],q,by simp [hlt]⟩,Pv (i + 1),fun σ' H' p'=>⟨xs.length - (i + 1),by lia,rfl,hlt,p'⟩,fun x H' y=>?_⟩
  obtain ⟨e,y⟩:=y
  subst e
  exact hs i x σ _ (y xs q) p
 ·have e : i = xs.length:=by lia
  subst e
  exact .inl ⟨⟨xs,q,T9 _⟩,hd σ H p⟩
theorem ND {K : SR} {a : Addr} {xs : List V} {g : TG} {tb : TS} {D : EM} {σ : St} {H : Hp} (Pv : Nat → St → Hp → Prop) (h0 : Pv 0 σ H) (hl : ∀ i σ H,i ≤ xs.length → Pv i σ H → SqT K H a xs)
 (hs : ∀ i x σ H,xs[i]? = some x → Pv i σ H → g x σ H fun σ2 H2=>tb { D with nx:=Pv (i + 1),ct:=Pv (i + 1),bk:=D.nx } σ2 H2) (hd : ∀ σ H,Pv xs.length σ H → D.nx σ H) :
 ∃ W : Nat → Nat → St → Hp → Prop,(∃ m,W 0 m σ H) ∧ ∀ i m σ H,W i m σ H →
   ((Itt K a).stop i H ∧ D.nx σ H) ∨ ((Itt K a).go i H ∧ ∃ N : St → Hp → Prop,(∀ σ' H',N σ' H' → ∃ m',m' < m ∧ W (i + 1) m' σ' H') ∧ ∀ x H',(Itt K a).yld i H x H' → g x σ H' fun σ2 H2=>tb { D with nx:=N,ct:=N,bk:=D.nx } σ2 H2):=by
 refine ⟨fun i m σ H=>m = xs.length - i ∧ i ≤ xs.length ∧ Pv i σ H,⟨xs.length,by simp,Tc _,h0⟩,?_⟩
 rintro i m σ H ⟨rfl,hi,p⟩
 have q:=hl i σ H hi p
 by_cases hlt : i < xs.length
 ·refine .inr ⟨⟨xs,xs[i],q,by simp [hlt]⟩,Pv (i + 1),fun σ' H' p'=>⟨xs.length - (i + 1),by lia,rfl,hlt,p'⟩,fun x H' y=>?_⟩
  obtain ⟨e,y⟩:=y
  subst e
  exact hs i x σ _ (y xs q) p
 ·have e : i = xs.length:=by lia
  subst e
  exact .inl ⟨⟨xs,q,T9 _⟩,hd σ H p⟩
theorem Fj {lo : Int} {n : Nat} {g : TG} {tb : TS} {D : EM} {σ : St} {H : Hp} (Pv : Nat → St → Hp → Prop) (h0 : Pv 0 σ H)
 (hs : ∀ i σ H,i < n → Pv i σ H → g (.int (lo + i)) σ H fun σ2 H2=>tb { D with nx:=Pv (i + 1),ct:=Pv (i + 1),bk:=D.nx } σ2 H2) (hd : ∀ σ H,Pv n σ H → D.nx σ H) :
 ∃ W : Nat → Nat → St → Hp → Prop,(∃ m,W 0 m σ H) ∧ ∀ i m σ H,W i m σ H →
   ((Itr lo n).stop i H ∧ D.nx σ H) ∨ ((Itr lo n).go i H ∧ ∃ N : St → Hp → Prop,(∀ σ' H',N σ' H' → ∃ m',m' < m ∧ W (i + 1) m' σ' H') ∧ ∀ x H',(Itr lo n).yld i H x H' → g x σ H' fun σ2 H2=>tb { D with nx:=N,ct:=N,bk:=D.nx } σ2 H2):=by
 refine ⟨fun i m σ H=>m = n - i ∧ i ≤ n ∧ Pv i σ H,⟨n,by simp,Tc _,h0⟩,?_⟩
 rintro i m σ H ⟨rfl,hi,p⟩
 by_cases hlt : i < n
 ·refine .inr ⟨hlt,Pv (i + 1),fun σ' H' p'=>⟨n - (i + 1),by lia,rfl,hlt,p'⟩,fun x H' y=>?_⟩
  obtain ⟨e,y⟩:=y
  subst e y
  exact hs i σ _ hlt p
 ·have e : i = n:=by lia
  subst e
  exact .inl ⟨T9 _,hd σ H p⟩
theorem IL {c : TT} {tb : TS} {D : EM} {σ : St} {H : Hp} (Pv : St → Hp → Prop) (μ : St → Hp → Nat) (h0 : Pv σ H)
 (hs : ∀ σ H,Pv σ H → c σ H fun b H1=>if b = true then tb { D with nx:=fun σ' H'=>Pv σ' H' ∧ μ σ' H' < μ σ H,ct:=fun σ' H'=>Pv σ' H' ∧ μ σ' H' < μ σ H,bk:=D.nx } σ H1 else D.nx σ H1)
 (mono : ∀ σ H Q Q',(∀ b H1,Q b H1 → Q' b H1) → c σ H Q → c σ H Q') : LS c tb D σ H:=by
 refine ⟨fun m σ H=>m = μ σ H ∧ Pv σ H,⟨_,rfl,h0⟩,?_⟩
 rintro m σ H ⟨rfl,p⟩
 refine mono σ H _ _ (fun b H1 q=>?_) (hs σ H p)
 cases b with
 | true=>exact ⟨_,fun σ' H' ⟨p',l⟩=>⟨_,l,rfl,p'⟩,q⟩
 | false=>exact q
end L2
namespace L2
open PySem PySem.Spec PyProof.Rows
abbrev R2:=V → V → Hp → VK → Prop
def OpR (X : Cx) (f : Value → Value → Sem Value) (r : R2) : Prop :=
 ∀ (pins : List (Addr × Obj)) (s : Shared) (σ : St) (H : Hp) (x y : V) (v u : Value) (Q : VK),Inv X pins σ H s → AR x v → AR y u → r x y H Q →
   wpAny (model X.prog X.w) X.A (f v u) (EP X pins σ Q) X.xe s
def C9 (X : Cx) (f : Value) (r : List V → Hp → VK → Prop) : Prop :=
 ∀ (pins : List (Addr × Obj)) (s : Shared) (σ : St) (H : Hp) (xs : List V) (us : List Value) (Q : VK),Inv X pins σ H s → AN xs us → r xs H Q →
   wpAny (model X.prog X.w) X.A (call f us) (EP X pins σ Q) X.xe s
def tOp (r : R2) (ta tb : TE) : TE:=fun σ H Q=>ta σ H fun x H1=>tb σ H1 fun y H2=>r x y H2 Q
inductive rI (C : Int → Int → Prop) (g : Int → Int → V) (x : V) (y : V) (H : Hp) (Q : VK) : Prop
 | mk (i : _) (j : _) (h1 : x = .int i) (h2 : y = .int j) (h3 : C i j) (h4 : Q (g i j) H) : rI C g x y H Q
inductive rI0 (g : Int → Int → V) (x : V) (y : V) (H : Hp) (Q : VK) : Prop
 | mk (i : _) (j : _) (h1 : x = .int i) (h2 : y = .int j) (h3 : Q (g i j) H) : rI0 g x y H Q
section
variable {X : Cx} {a b c : Expr} {ta tb tc : TE} {pos : Pos}
theorem Pj (ha : PE X a ta) (hb : PE X b tb) {pins : List (Addr × Obj)} {s : Shared} {σ : St} {H : Hp} {R : V → V → Hp → Prop} (I : Inv X pins σ H s)
 (h : ta σ H fun x H1=>tb σ H1 fun y H2=>R x y H2) {Q : Value → Shared → Prop} {f : Value → Value → Sem Value}
 (hf : ∀ v u s2 x y H2,Inv X pins σ H2 s2 → AR x v → AR y u → R x y H2 → wpAny (model X.prog X.w) X.A (f v u) Q X.xe s2) :
 wpAny (model X.prog X.w) X.A (eval a X.env) (fun v s₁=>wpAny (model X.prog X.w) X.A (eval b X.env) (fun u s₂=>wpAny (model X.prog X.w) X.A (f v u) Q X.xe s₂) X.xe s₁) X.xe s:=by
 refine thn (ha pins s σ H _ I h) fun v s1 ⟨x,H1,I1,r1,q1⟩=>?_
 refine thn (hb pins s1 σ H1 _ I1 q1) fun u s2 ⟨y,H2,I2,r2,q2⟩=>?_
 exact hf v u s2 x y H2 I2 r1 r2 q2
theorem Am {op : Operator} {r : R2} (ho : OpR X (binaryOp op) r) (ha : PE X a ta) (hb : PE X b tb) : PE X (.BinOp a op b pos) (tOp r ta tb):=by
 intro pins s σ H Q I h
 exact wpAny_BinOp (Pj ha hb I h fun v u s2 x y H2 I2 rx ry q=>ho pins s2 σ H2 x y v u Q I2 rx ry q)
theorem opI {f : Value → Value → Sem Value} {C : Int → Int → Prop} {g : Int → Int → Int}
 (rule : ∀ (i j : Int) (t u : Tok) (s : Shared) (Q : Value → Shared → Prop) (E : Value → Shared → Prop),C i j → Q (.int (g i j) s.toks) { s with toks:=s.toks + 1 } → wpAny (model X.prog X.w) X.A (f (.int i t) (.int j u)) Q E s) :
 OpR X f (rI C fun i j=>.int (g i j)):=by
 intro pins s σ H x y v u Q I rx ry h
 obtain ⟨i,j,rfl,rfl,hc,q⟩:=h
 obtain ⟨t,rfl⟩:=rx
 obtain ⟨t',rfl⟩:=ry
 exact rule i j t t' s _ _ hc ⟨.int (g i j),H,I.tok _,⟨_,rfl⟩,q⟩
theorem Qb {f : Value → Value → Sem Value} {g : Int → Int → Int}
 (rule : ∀ (i j : Int) (t u : Tok) (s : Shared) (Q : Value → Shared → Prop) (E : Value → Shared → Prop),Q (.int (g i j) s.toks) { s with toks:=s.toks + 1 } → wpAny (model X.prog X.w) X.A (f (.int i t) (.int j u)) Q E s) :
 OpR X f (rI0 fun i j=>.int (g i j)):=by
 intro pins s σ H x y v u Q I rx ry h
 obtain ⟨i,j,rfl,rfl,q⟩:=h
 obtain ⟨t,rfl⟩:=rx
 obtain ⟨t',rfl⟩:=ry
 exact rule i j t t' s _ _ ⟨.int (g i j),H,I.tok _,⟨_,rfl⟩,q⟩
theorem OK {f : Value → Value → Sem Value} {g : Int → Int → Bool}
 (rule : ∀ (i j : Int) (t u : Tok) (s : Shared) (Q : Value → Shared → Prop) (E : Value → Shared → Prop),Q (.bool (g i j)) s → wpAny (model X.prog X.w) X.A (f (.int i t) (.int j u)) Q E s) :
 OpR X f (rI0 fun i j=>.bl (g i j)):=by
 intro pins s σ H x y v u Q I rx ry h
 obtain ⟨i,j,rfl,rfl,q⟩:=h
 obtain ⟨t,rfl⟩:=rx
 obtain ⟨t',rfl⟩:=ry
 exact rule i j t t' s _ _ ⟨.bl (g i j),H,I,rfl,q⟩
def Pp (i j : Int) : Prop:=0 ≤ j ∧ j ≤ 1000000 ∧ i.natAbs < 2 ^ 64
theorem BS : OpR X (binaryOp .Add) (rI0 fun i j=>.int (i + j)):=Qb fun _ _ _ _ _ _ _ q=>add_int q
theorem Ef : OpR X (binaryOp .Sub) (rI0 fun i j=>.int (i - j)):=Qb fun _ _ _ _ _ _ _ q=>sub_int q
theorem Ck : OpR X (binaryOp .Mod) (rI (fun _ j=>0 < j) fun i j=>.int (i % j)):=opI fun i j _ _ _ _ _ hc q=>by
 have h1 : (0 : Int) < j:=hc
 exact mod_int' (by lia) (by rw [Int.fmod_eq_emod_of_nonneg i (by lia)]; exact q)
theorem Mn : OpR X (binaryOp .Pow) (rI Pp fun i j=>.int (i ^ j.toNat)):=opI fun _ _ _ _ _ _ _ hc q=>pow_int_small hc.1 hc.2.1 hc.2.2 q
end
def PR : V → V → Bool
 | .non,.non=>true | .non,.int _=>true | .int _,.non=>true | .non,.bl _=>true | .bl _,.non=>true | .non,.str _=>true | .str _,.non=>true
 | .int _,.int _=>true | .bl _,.bl _=>true | .str _,.str _=>true | .byt _,.byt _=>true
 | .int _,.str _=>true | .str _,.int _=>true | .bl _,.str _=>true | .str _,.bl _=>true
 | _,_=>false
def rEq : R2:=fun x y H Q=>PR x y = true ∧ Q (.bl (decide (x = y))) H
def rNe : R2:=fun x y H Q=>PR x y = true ∧ Q (.bl (!decide (x = y))) H
theorem KH {i j : Int} : decide (V.int i = V.int j) = (i == j):=by
 rw [Bool.eq_iff_iff]
 simp
theorem MO {i j : Bool} : decide (V.bl i = V.bl j) = (i == j):=by
 rw [Bool.eq_iff_iff]
 simp
theorem KG {i j : Str} : decide (V.str i = V.str j) = (i == j):=by
 rw [Bool.eq_iff_iff]
 simp
theorem KI {i j : Array UInt8} : decide (V.byt i = V.byt j) = (i.toList == j.toList):=by
 rw [Bool.eq_iff_iff]
 cases i
 cases j
 simp
section
variable {X : Cx} {a b c : Expr} {ta tb tc : TE} {pos : Pos}
theorem AW {pins : List (Addr × Obj)} {σ : St} {H : Hp} {s : Shared} {Q : VK} {k k' : Bool} (I : Inv X pins σ H s) (q : Q (.bl k) H) (e : k = k') : EP X pins σ Q (.bool k') s:=by
 subst e
 exact ⟨.bl k,H,I,rfl,q⟩
theorem DL : OpR X (compareOp .Eq) rEq:=by
 intro pins s σ H x y v u Q I rx ry h
 obtain ⟨hs,q⟩:=h
 cases x with
 | non =>
   cases rx
   cases y with
   | non=>cases ry; exact PySem.EqNone.eq_none_none (AW I q (by simp))
   | bl j=>cases ry; exact PySem.EqNone.eq_none_bool (AW I q (by simp))
   | int j=>obtain ⟨t',rfl⟩:=ry; exact PySem.EqNone.eq_none_int (AW I q (by simp))
   | str j=>obtain ⟨t',rfl⟩:=ry; exact PySem.EqNone.eq_none_str (AW I q (by simp))
   | _=>exact absurd (show false = true from hs) Bool.false_ne_true
 | bl i =>
   cases rx
   cases y with
   | non=>cases ry; exact PySem.EqNone.eq_bool_none (AW I q (by simp))
   | bl j=>cases ry; exact eq_bool (AW I q MO)
   | str j=>obtain ⟨t',rfl⟩:=ry; exact PySem.EqMixed.eq_bool_str (AW I q (by simp))
   | _=>exact absurd (show false = true from hs) Bool.false_ne_true
 | int i =>
   obtain ⟨t,rfl⟩:=rx
   cases y with
   | non=>cases ry; exact PySem.EqNone.eq_int_none (AW I q (by simp))
   | int j=>obtain ⟨t',rfl⟩:=ry; exact eq_int (AW I q KH)
   | str j=>obtain ⟨t',rfl⟩:=ry; exact PySem.EqMixed.eq_int_str (AW I q (by simp))
   | _=>exact absurd (show false = true from hs) Bool.false_ne_true
 | str i =>
   obtain ⟨t,rfl⟩:=rx
   cases y with
   | non=>cases ry; exact PySem.EqNone.eq_str_none (AW I q (by simp))
   | bl j=>cases ry; exact PySem.EqMixed.eq_str_bool (AW I q (by simp))
   | int j=>obtain ⟨t',rfl⟩:=ry; exact PySem.EqMixed.eq_str_int (AW I q (by simp))
   | str j=>obtain ⟨t',rfl⟩:=ry; exact eq_str (AW I q KG)
   | _=>exact absurd (show false = true from hs) Bool.false_ne_true
 | byt i =>
   obtain ⟨t,rfl⟩:=rx
   cases y with
   | byt j=>obtain ⟨t',rfl⟩:=ry; exact PySem.W.eq_bytes (AW I q KI)
   | _=>exact absurd (show false = true from hs) Bool.false_ne_true
 | _=>cases y <;> exact absurd (show false = true from hs) Bool.false_ne_true
theorem Ey : OpR X (compareOp .NotEq) rNe:=by
 intro pins s σ H x y v u Q I rx ry h
 obtain ⟨hs,q⟩:=h
 cases x with
 | non =>
   cases rx
   cases y with
   | non=>cases ry; exact PySem.EqNone.ne_none_none (AW I q (by simp))
   | bl j=>cases ry; exact PySem.EqNone.ne_none_bool (AW I q (by simp))
   | int j=>obtain ⟨t',rfl⟩:=ry; exact PySem.EqNone.ne_none_int (AW I q (by simp))
   | str j=>obtain ⟨t',rfl⟩:=ry; exact PySem.EqNone.ne_none_str (AW I q (by simp))
   | _=>exact absurd (show false = true from hs) Bool.false_ne_true
 | bl i =>
   cases rx
   cases y with
   | non=>cases ry; exact PySem.EqNone.ne_bool_none (AW I q (by simp))
   | bl j=>cases ry; exact ne_bool (AW I q (congrArg not MO))
   | str j=>obtain ⟨t',rfl⟩:=ry; exact PySem.EqMixed.ne_bool_str (AW I q (by simp))
   | _=>exact absurd (show false = true from hs) Bool.false_ne_true
 | int i =>
   obtain ⟨t,rfl⟩:=rx
   cases y with
   | non=>cases ry; exact PySem.EqNone.ne_int_none (AW I q (by simp))
   | int j=>obtain ⟨t',rfl⟩:=ry; exact ne_int (AW I q (congrArg not KH))
   | str j=>obtain ⟨t',rfl⟩:=ry; exact PySem.EqMixed.ne_int_str (AW I q (by simp))
   | _=>exact absurd (show false = true from hs) Bool.false_ne_true
 | str i =>
   obtain ⟨t,rfl⟩:=rx
   cases y with
   | non=>cases ry; exact PySem.EqNone.ne_str_none (AW I q (by simp))
   | bl j=>cases ry; exact PySem.EqMixed.ne_str_bool (AW I q (by simp))
   | int j=>obtain ⟨t',rfl⟩:=ry; exact PySem.EqMixed.ne_str_int (AW I q (by simp))
   | str j=>obtain ⟨t',rfl⟩:=ry; exact ne_str (AW I q (congrArg not KG))
   | _=>exact absurd (show false = true from hs) Bool.false_ne_true
 | byt i =>
   obtain ⟨t,rfl⟩:=rx
   cases y with
   | byt j=>obtain ⟨t',rfl⟩:=ry; exact PySem.W.ne_bytes (AW I q (congrArg not KI))
   | _=>exact absurd (show false = true from hs) Bool.false_ne_true
 | _=>cases y <;> exact absurd (show false = true from hs) Bool.false_ne_true
theorem Gf : OpR X (compareOp .Lt) (rI0 fun i j=>.bl (decide (i < j))):=OK fun _ _ _ _ _ _ _ q=>lt_int q
theorem Dw : OpR X (compareOp .Gt) (rI0 fun i j=>.bl (decide (j < i))):=OK fun _ _ _ _ _ _ _ q=>gt_int q
theorem O7 : OpR X (compareOp .GtE) (rI0 fun i j=>.bl (decide (j ≤ i))):=OK fun _ _ _ _ _ _ _ q=>ge_int q
theorem Li : OpR X (compareOp .In) (fun x y H Q=>∃ i j,x = .str i ∧ y = .str j ∧ Q (.bl (!(Builtin.Str.occurrences j i 0 j.length 1).isEmpty)) H):=by
 intro pins s σ H x y v u Q I rx ry h
 obtain ⟨i,j,rfl,rfl,q⟩:=h
 obtain ⟨t,rfl⟩:=rx
 obtain ⟨t',rfl⟩:=ry
 exact in_str (AW I q rfl)
theorem OJ : OpR X (compareOp .Is) (fun x y H Q=>y = .non ∧ Q (.bl (decide (x = .non))) H):=by
 intro pins s σ H x y v u Q I rx ry h
 obtain ⟨rfl,q⟩:=h
 cases ry
 refine is_none_gen (AW I q ?_)
 cases x <;> first
  | (cases rx; rfl)
  | (obtain ⟨t,rfl⟩:=rx; rfl)
theorem AH (b : Expr) {op : CmpOp} (h : op ≠ .In:=by decide) (h2 : op ≠ .NotIn:=by decide) : behindInMarks op b = false:=by
 have e1 : (op == CmpOp.In) = false:=by cases op <;> first | rfl | exact absurd rfl h
 have e2 : (op == CmpOp.NotIn) = false:=by cases op <;> first | rfl | exact absurd rfl h2
 cases b <;> simp [behindInMarks,e1,e2]
theorem E1 {op : CmpOp} {r : R2} (ho : OpR X (compareOp op) r) (ha : PE X a ta) (hb : PE X b tb) (hm : behindInMarks op b = false) : PE X (.Compare a [op] [b] pos) (tOp r ta tb):=by
 intro pins s σ H Q I h
 exact wpAny_Compare1 (Pj ha hb I h fun v u s2 x y H2 I2 rx ry q=>ho pins s2 σ H2 x y v u Q I2 rx ry q) hm
def Px (t : TE) : TT:=fun σ H Q=>t σ H fun x H'=>∃ k,x = .bl k ∧ Q k H'
theorem Aw {op : CmpOp} {r : R2} (ho : OpR X (compareOp op) r) (ha : PE X a ta) (hb : PE X b tb) (hm : behindInMarks op b = false) : PT X (.Compare a [op] [b] pos) (Px (tOp r ta tb)):=by
 intro pins s σ H Q I h
 refine wpAny_isTrue_Compare1 (thn (ha pins s σ H _ I h) fun v s1 ⟨x,H1,I1,r1,q1⟩=>thn (hb pins s1 σ H1 _ I1 q1) fun u s2 ⟨y,H2,I2,r2,q2⟩ =>
  thn (ho pins s2 σ H2 x y v u _ I2 r1 r2 q2) fun c s3 ⟨z,H3,I3,r3,k,e,q3⟩=>?_) hm
 subst e
 cases r3
 exact wpAny_truthy_bool ⟨H3,I3,q3⟩
theorem Fc : (sizeLine : Nat) < 2 ^ 63:=by rw [sizeLine_eq]; decide
theorem Al : OpR X (binaryOp .Add) (fun x y H Q=>∃ i j,x = .str i ∧ y = .str j ∧ i.length + j.length ≤ sizeLine ∧ Q (.str (i ++ j)) H):=by
 intro pins s σ H x y v u Q I rx ry h
 obtain ⟨i,j,rfl,rfl,hz,q⟩:=h
 obtain ⟨t,rfl⟩:=rx
 obtain ⟨t',rfl⟩:=ry
 exact add_str (fun t' tk=>⟨.str (i ++ j),H,I.tok _,⟨_,rfl⟩,q⟩) hz
theorem Em {x : V} {us : List Value} (r : AN [x] us) : ∃ u,us = [u] ∧ AR x u:=by
 cases r with
 | cons r1 r2=>cases r2; exact ⟨_,rfl,r1⟩
theorem LK {x y : V} {us : List Value} (r : AN [x,y] us) : ∃ u w',us = [u,w'] ∧ AR x u ∧ AR y w':=by
 cases r with
 | cons r1 r2 =>
   cases r2 with
   | cons r3 r4=>cases r4; exact ⟨_,_,rfl,r1,r3⟩
theorem EJ : C9 X (.builtin "abs") (fun xs H Q=>∃ i,xs = [.int i] ∧ Q (.int (if i < 0 then -i else i)) H):=by
 intro pins s σ H xs us Q I r h
 obtain ⟨i,rfl,q⟩:=h
 obtain ⟨u,rfl,t,rfl⟩:=Em r
 exact call_abs_int fun u tk=>⟨.int (if i < 0 then -i else i),H,I.tok _,⟨_,rfl⟩,q⟩
theorem Bz : C9 X (.type "str") (fun xs H Q=>∃ i,xs = [.int i] ∧ i.natAbs.log2 < 1920 ∧ Q (.str (toString i)) H):=by
 intro pins s σ H xs us Q I r h
 obtain ⟨i,rfl,hz,q⟩:=h
 obtain ⟨u,rfl,t,rfl⟩:=Em r
 exact PySem.P.str_of_int hz ⟨.str _,H,I.tok _,⟨_,rfl⟩,q⟩
end
end L2
namespace L2
open PySem PySem.Spec PyProof.Rows
structure Kf (h : Heap) (x dx C : Addr) (mA : Str → Option Value) : Prop where
 obj : h.get? x = some (SE C dx)
 ns : h.Ns1 dx mA
 ne : dx ≠ x
theorem Ln {h : Heap} {dx : Addr} {mA : Str → Option Value} (n : h.Ns1 dx mA) : ∃ od,h.get? dx = some od ∧ ∀ name,Td name od = some (mA name):=by
 obtain ⟨o,es,ep,ho,hd,hk,_,hm⟩:=n
 refine ⟨o,ho,fun name=>?_⟩
 have e:=hm name
 unfold nsFind findBy at e
 rw [← Array.find?_toList] at e
 unfold Td
 rw [hd]
 dsimp only
 split
 ·rename_i y q
  rw [q] at e
  exact congrArg some e
 ·rename_i q
  rw [q] at e
  have a : es.toList.any (·.refKey) = false:=by
   rw [Te]
   intro y hy
   obtain ⟨z,t,hkey⟩:=hk y (Array.mem_toList_iff.mp hy)
   simp [DictEntry.refKey,hkey]
  have a' : ¬ es.toList.any (·.refKey) = true:=by rw [a]; exact Bool.false_ne_true
  rw [if_neg a']
  exact congrArg some e
theorem Kf.look {h : Heap} {x dx C : Addr} {mA : Str → Option Value} (I : Kf h x dx C mA) : ∃ od,PySem.W.InstAt h x (SE C dx) C (some od) ∧ ∀ name,Td name od = some (mA name) :=
 let ⟨od,ho,hl⟩:=Ln I.ns
 ⟨od,⟨I.obj,rfl,rfl,ho⟩,hl⟩
section
variable {prog : Program} {w : World} {A : Around} {E : Value → Shared → Prop} {s : Shared} {K : SR} {x dx C f : Addr} {mA : Str → Option Value} {name : Str} {v : Value}
theorem NA {expr : Bool} {Q : Value → Shared → Prop} (X : K.In s.heap) (I : Kf s.heap x dx C mA) (hg : Tf K C name = true) (hh : Th K C = true)
 (ha : Ti K (.ref C) name = some none) (hv : mA name = some v) (hv' : PySem.W.handedIn v = true) (h : Q v { s with toks:=s.toks + 1 }) :
 wpAny (model prog w) A (getAttr (.ref x) name expr) Q E s:=by
 obtain ⟨od,J,hl⟩:=I.look
 exact PySem.W.get_value X J (Tj hg).1 (PySem.W.findObj_own hh ha rfl (by rw [hl,hv])) hv' h
theorem MI {pl : Sem Bool} {Q : Value × List Value → Shared → Prop} (X : K.In s.heap) (I : Kf s.heap x dx C mA) (hg : Tf K C name = true)
 (hf : Ti K (.ref C) name = some (some (.ref f))) (ht : Tn K (.ref f) = true) (hv : mA name = none) (h : Q (.ref f,[.ref x]) s) :
 wpAny (model prog w) A (getMethod (.ref x) name pl) Q E s:=by
 obtain ⟨od,J,hl⟩:=I.look
 exact PySem.W.method_fn X J (Tj hg).1 (Tj hg).2 hf (beq_iff_eq.mp ht) (by show (Td name od).map (·.isSome) = some false; rw [hl,hv]; rfl) h
theorem Nf {ns : List Str} {Q : Unit → Shared → Prop} (X : K.In s.heap) (I : Kf s.heap x dx C mA)
 (hs : Ti K (.ref C) "__setattr__" = some (some (.builtin "object.__setattr__"))) (hp : To K C = true) (ht : Tp K C name = some none) (hh : Th K C = true)
 (hw : PySem.Within mA ns) (hsz : ns.length ≤ sizeLine)
 (h : ∀ h',Kf h' x dx C (fun y=>if y = name then some v else mA y) → Heap.SameBut dx s.heap h' → Q () { s with heap:=h',toks:=s.toks + 2 }) :
 wpAny (model prog w) A (setAttr (.ref x) name v) Q E s:=by
 obtain ⟨od,J,hl⟩:=I.look
 refine PySem.W.set_plain X J hs (PySem.W.osa_open (s:={ s with toks:=s.toks + 1 }) (r:=none) X J hp ht fun b=>?_)
 obtain ⟨cd,hc,hd'⟩:=PySem.W.any_some hh
 have hx : s.heap.get? x = some ⟨.ref C,some dx,.plain,#[]⟩:=I.obj
 refine wpAny_bind (wpAny_pure (wpAny_bind (wpAny_bind (wpAny_loadPart hx (wpAny_bind (PySem.W.Looks.here (s:={ s with toks:=s.toks + 1 }) (PySem.W.looks_clsIn X hc) ?_))))))
 rw [hd']
 refine wpAny_pure (a:=some dx) (wpAny_bind (wpAny_pure (wpAny_bind ?_)))
 refine wpAny_nsSet1 (s:={ s with toks:=s.toks + 1 }) I.ns fun h' hn2 hs2=>?_
 obtain ⟨oD,esD,epD,hoD,hdD,hcD⟩:=hn2.count (PySem.Within.cons name v hw)
 refine wpAny_bind (wpAny_lookBehind hoD (by rw [hdD]; exact pastItsLine_dict (SU hcD (by rw [Tq]; lia))) ?_)
 exact wpAny_pure (h _ ⟨(hs2.2 _ (Ne.symm I.ne)).trans I.obj,hn2,I.ne⟩ hs2)
theorem Jh {R : Result → Shared → Prop} {vs : List Value} {kw : List (Str × Value)} (X : K.In s.heap) (hm : Tr K C = true)
 (hi : Ti K (.ref C) "__init__" = some (some (.ref f))) (hf : PySem.W.typeIn K (.ref f) = some (.type "function"))
 (h : codeAny (model prog w) (A.under (.builtin "type.__call__" ⟨.ref C :: vs,kw⟩)) (.call (.ref f) ⟨.ref (s.heap.objs.size + 1) :: vs,kw⟩) (PySem.W.InitBack (s.heap.objs.size + 1) R)
  { s with heap:=(s.heap.push Ts).push (SE C s.heap.objs.size) }) :
 codeAny (model prog w) A (.call (.ref C) ⟨vs,kw⟩) R s:=by
 obtain ⟨hh,g,d,t,os⟩:=s
 exact PySem.W.make_core (PySem.W.makes_of X hm) (PySem.W.looks_findIn X hi) (fun self=>PySem.W.bind_fn X self hf) (.inl rfl) h
end
def E4 (f : Str) (v : V) : List (Str × V) → List (Str × V)
 | []=>[(f,v)]
 | (g,x) :: r=>if g = f then (g,v) :: r else (g,x) :: E4 f v r
theorem Fu (f g : Str) (v : V) : ∀ fs : List (Str × V),(E4 f v fs).lookup g = if g = f then some v else fs.lookup g
 | []=>by
   show Tt g [(f,v)] = _
   by_cases h : g = f
   ·have hb : (g == f) = true:=beq_iff_eq.mpr h
    simp only [Tt,hb,if_pos h]
   ·have hb : (g == f) = false:=beq_eq_false_iff_ne.mpr h
    simp only [Tt,hb,if_neg h]
 | (k,x) :: r=>by
   have ih:=Fu f g v r
   rw [show E4 f v ((k,x) :: r) = (if k = f then (k,v) :: r else (k,x) :: E4 f v r) from rfl]
   by_cases hk : k = f
   ·rw [if_pos hk]
    by_cases h : g = k
    ·have hb : (g == k) = true:=beq_iff_eq.mpr h
     simp only [Tt,hb,if_pos (h.trans hk)]
    ·have hb : (g == k) = false:=beq_eq_false_iff_ne.mpr h
     simp only [Tt,hb,if_neg (fun e : g = f=>h (e.trans hk.symm))]
   ·rw [if_neg hk]
    by_cases h : g = k
    ·have hb : (g == k) = true:=beq_iff_eq.mpr h
     simp only [Tt,hb,if_neg (fun e : g = f=>hk (h.symm.trans e))]
    ·have hb : (g == k) = false:=beq_eq_false_iff_ne.mpr h
     simp only [Tt,hb]
     exact ih
theorem Ff (f : Str) (v : V) : ∀ fs : List (Str × V),f ∈ (E4 f v fs).map (·.1) ∧ ∀ g,g ∈ fs.map (·.1) → g ∈ (E4 f v fs).map (·.1)
 | []=>⟨by simp [E4],fun g h=>by simp at h⟩
 | (k,x) :: r=>by
   obtain ⟨i1,i2⟩:=Ff f v r
   rw [show E4 f v ((k,x) :: r) = (if k = f then (k,v) :: r else (k,x) :: E4 f v r) from rfl]
   by_cases hk : k = f
   ·rw [if_pos hk]
    subst hk
    exact ⟨by simp,fun g h=>by simpa using h⟩
   ·rw [if_neg hk]
    refine ⟨?_,fun g h=>?_⟩
    ·rw [Tu]
     exact SY _ i1
    ·rw [Tu] at h ⊢
     rcases T1.mp h with e | e
     ·exact T1.mpr (.inl e)
     ·exact SY _ (i2 g e)
theorem Fv (f : Str) (v : V) : ∀ fs : List (Str × V),(E4 f v fs).length ≤ fs.length + 1
 | []=>by simp [E4]
 | (k,x) :: r=>by
   have ih:=Fv f v r
   rw [show E4 f v ((k,x) :: r) = (if k = f then (k,v) :: r else (k,x) :: E4 f v r) from rfl]
   by_cases hk : k = f
   ·rw [if_pos hk,Tq,Tq]; lia
   ·rw [if_neg hk,Tq,Tq]; lia
theorem E7.some_of {v : V} {o : Option Value} (r : E7 (some v) o) : ∃ u,o = some u ∧ AR v u:=by
 cases o with
 | none=>exact (show False from r).elim
 | some u=>exact ⟨u,rfl,r⟩
theorem E7.none_of {o : Option Value} (r : E7 none o) : o = none:=by
 cases o with
 | none=>rfl
 | some u=>exact (show False from r).elim
theorem Lu {v : V} {u : Value} (r : AR v u) : PySem.W.handedIn u = true:=by
 cases v with
 | non=>cases (show u = Value.none from r); rfl
 | bl b=>cases (show u = Value.bool b from r); rfl
 | int i=>obtain ⟨t,e⟩:=(show ∃ t,u = Value.int i t from r); cases e; rfl
 | str x=>obtain ⟨t,e⟩:=(show ∃ t,u = Value.str x t from r); cases e; rfl
 | byt b=>obtain ⟨t,e⟩:=(show ∃ t,u = Value.bytes b t from r); cases e; rfl
 | flt b=>obtain ⟨t,e⟩:=(show ∃ t,u = Value.float b t from r); cases e; rfl
 | ref a=>cases (show u = Value.ref a from r); rfl
 | ty n=>cases (show u = Value.type n from r); rfl
section
variable {P : Program} {w : World} {H H' : Hp} {h h' : Heap} {a C dx : Addr} {fs fs' : List (Str × V)}
theorem FI (hok : HOk P w H h) (e : H a = some (.ins C dx fs)) : ∃ mA,Kf h a dx C mA ∧ (∀ f,E7 (fs.lookup f) (mA f)) ∧ PySem.Within mA (fs.map (·.1)) ∧ fs.length ≤ 1000 ∧ H dx = some (.own a):=by
 obtain ⟨d,z,ne,ob,mA,n,r,q⟩:=(show BF P w H h a (.ins C dx fs) from hok a _ e)
 exact ⟨mA,⟨ob,n,ne⟩,r,q,z,d⟩
end
structure Cls (K : SR) (C : Addr) : Prop where
 pg : Tf K C Str.empty = true
 hd : Th K C = true
 po : To K C = true
 sa : Ti K (.ref C) "__setattr__" = some (some (.builtin "object.__setattr__"))
theorem Cls.get {K : SR} {C : Addr} (c : Cls K C) (f : Str) : Tf K C f = true:=c.pg
def Ek (K : SR) (C : Addr) (f : Str) : Prop:=Ti K (.ref C) f = some none
theorem Ek.taker {K : SR} {C : Addr} {f : Str} (n : Ek K C f) : Tp K C f = some none:=by
 unfold Tp
 rw [show Ti K (.ref C) f = some none from n]
 rfl
structure Con (K : SR) (C : Addr) (f : Str) (v : V) (u : Value) : Prop where
 at_ : Ti K (.ref C) f = some (some u)
 rel : AR v u
 get : Tv K u "__get__" = some none
 cp : PySem.W.copiedNames.contains f = false
structure Pn (K : SR) (C : Addr) (m : Str) (f : Addr) : Prop where
 at_ : Ti K (.ref C) m = some (some (.ref f))
 fn : Tn K (.ref f) = true
 kp : Tw K (.ref f) = true
section
variable {X : Cx} {pins : List (Addr × Obj)} {σ : St} {H : Hp} {s : Shared} {a C dx : Addr} {fs : List (Str × V)} {f : Str} {v : V} {A : Around} {E : Value → Shared → Prop}
theorem K7 {b : Bool} {Q : Value → Shared → Prop} (I : Inv X pins σ H s) (e : H a = some (.ins C dx fs)) (c : Cls X.K C) (n : Ek X.K C f) (l : fs.lookup f = some v)
 (h : ∀ u s',Inv X pins σ H s' → AR v u → Q u s') : wpAny (model X.prog X.w) A (getAttr (.ref a) f b) Q E s:=by
 obtain ⟨mA,O,r,_,_,_⟩:=FI I.hok e
 obtain ⟨u,hu,ru⟩:=E7.some_of (v:=v) (o:=mA f) (by rw [← l]; exact r f)
 exact NA I.kIn O (c.get f) c.hd n hu (Lu ru) (h u _ (I.tok _) ru)
theorem GK {m : Str} {g : Addr} {pl : Sem Bool} {Q : Value × List Value → Shared → Prop} (I : Inv X pins σ H s) (e : H a = some (.ins C dx fs)) (c : Cls X.K C) (k : Pn X.K C m g) (l : fs.lookup m = none)
 (h : Q (.ref g,[.ref a]) s) : wpAny (model X.prog X.w) A (getMethod (.ref a) m pl) Q E s:=by
 obtain ⟨mA,O,r,_,_,_⟩:=FI I.hok e
 have hn : mA m = none:=E7.none_of (by rw [← l]; exact r m)
 exact MI I.kIn O (c.get m) k.at_ k.fn hn h
theorem JQ {y : V} {u : Value} {Q : Unit → Shared → Prop} (I : Inv X pins σ H s) (e : H a = some (.ins C dx fs)) (c : Cls X.K C) (n : Ek X.K C f) (hl : fs.length < 1000) (ry : AR y u)
 (h : ∀ s',Inv X pins σ (upd H a (.ins C dx (E4 f y fs))) s' → Q () s') : wpAny (model X.prog X.w) A (setAttr (.ref a) f u) Q E s:=by
 obtain ⟨mA,O,r,wi,_,ho⟩:=FI I.hok e
 have hz : (fs.map (·.1)).length ≤ sizeLine:=by rw [Tx,sizeLine_eq]; lia
 refine Nf I.kIn O c.sa c.po n.taker c.hd wi hz fun h' O' sb=>h _ ?_
 have hd : ∃ o,h'.get? dx = some o:=let ⟨o,_,_,e',_⟩:=O'.ns; ⟨o,e'⟩
 refine I.write (x:=a) (e:=dx) (by rw [e]; exact True.intro) (.inr ho) (fun b q hb z=>(sb.2 b hb).trans z) hd ?_
 refine ⟨by rw [As O.ne]; exact ho,?_,O.ne,O'.obj,_,O'.ns,fun g=>?_,fun g hg=>?_⟩
 ·have:=Fv f y fs; lia
 ·show E7 ((E4 f y fs).lookup g) (if g = f then some u else mA g)
  rw [Fu]
  by_cases q : g = f
  ·rw [if_pos q,if_pos q]; exact ry
  ·rw [if_neg q,if_neg q]; exact r g
 ·by_cases q : g = f
  ·rw [q]; exact (Ff f y fs).1
  ·refine (Ff f y fs).2 g (wi g fun z=>hg ?_)
   show (if g = f then some u else mA g) = none
   rw [if_neg q]; exact z
theorem Inv.made (I : Inv X pins σ H s) : Inv X pins σ (upd (upd H s.heap.objs.size (.own (s.heap.objs.size + 1))) (s.heap.objs.size + 1) (.ins C s.heap.objs.size []))
 { s with heap:=(s.heap.push Ts).push (SE C s.heap.objs.size) }:=by
 have e1 : (s.heap.push Ts).get? s.heap.objs.size = some Ts:=Heap.get?_push_size s.heap rfl
 have e2 : ((s.heap.push Ts).push (SE C s.heap.objs.size)).get? (s.heap.objs.size + 1) = some (SE C s.heap.objs.size):=by
  have:=Heap.get?_push_size (s.heap.push Ts) (o:=SE C s.heap.objs.size) rfl
  rwa [Heap.size_push] at this
 have e3 : (s.heap.push Ts).Ns s.heap.objs.size (fun _=>none):=⟨Ts,#[],_,e1,rfl,(fun e he=>absurd he (by simp)),fun _=>rfl⟩
 have I1:=I.laid (a:=s.heap.objs.size) (o:=.own (s.heap.objs.size + 1)) (h':=s.heap.push Ts) (t':=s.toks) (fun b u q=>Heap.get?_push_of_some _ q) (T9 _) ⟨_,e1⟩
 refine I1.laid (a:=s.heap.objs.size + 1) (o:=.ins C s.heap.objs.size []) (t':=s.toks) (fun b u q=>Heap.get?_push_of_some _ q) (Nat.le_of_eq (Heap.size_push _ _)) ?_
 have ne : s.heap.objs.size ≠ s.heap.objs.size + 1:=SJ (Tz _)
 refine ⟨by rw [As ne,Ab],Tc _,ne,e2,fun _=>none,(Heap.Ns1.of_empty e3).at fun o q=>Heap.get?_push_of_some _ q,fun _=>True.intro,fun y hy=>absurd rfl hy⟩
theorem NK {prog : Program} {w : World} {env : Env} {e : Expr} {f : Str} {pos : Pos} {s : Shared} {Q : Value → Shared → Prop} (hb : attributeBase e f env (eval e env) = eval e env)
 (h : wpAny (model prog w) A (eval e env) (fun o s₁=>wpAny (model prog w) A (getAttr o f true) Q E s₁) E s) : wpAny (model prog w) A (eval (.Attribute e f pos) env) Q E s :=
 Attribute_any_ h (by rw [arm_eval_Attribute,hb])
end
def PM (K : SR) (ta : TE) (f : Str) : TE:=fun σ H Q=>ta σ H fun x H1=>∃ a C dx fs v,x = .ref a ∧ H1 a = some (.ins C dx fs) ∧ Cls K C ∧ Ek K C f ∧ fs.lookup f = some v ∧ Q v H1
def PU (K : SR) (ta tv : TE) (f : Str) : TS:=fun D σ H=>tv σ H fun y H1=>ta σ H1 fun x H2=>∃ a C dx fs,x = .ref a ∧ H2 a = some (.ins C dx fs) ∧ Cls K C ∧ Ek K C f ∧ fs.length < 1000 ∧
 D.nx σ (upd H2 a (.ins C dx (E4 f y fs)))
section
variable {X : Cx} {o e value : Expr} {f : Str} {pos pos' tpos : Pos} {ta tv : TE}
theorem OG (he : PE X e ta) (hb : attributeBase e f X.env (eval e X.env) = eval e X.env) : PE X (.Attribute e f pos) (PM X.K ta f):=by
 intro pins s σ H Q I h
 refine NK hb (thn (he pins s σ H _ I h) fun u s1 ⟨x,H1,I1,rx,a,C,dx,fs,v,ex,ea,c,n,l,q⟩=>?_)
 subst ex
 obtain rfl : u = Value.ref a:=rx
 exact K7 I1 ea c n l fun u' s2 I2 ru=>⟨v,H1,I2,ru,q⟩
theorem OB (ha : PE X o ta) (hv : PE X value tv) (hs : swapsWith value (some (.Attribute o f pos')) pos.line X.env = pure false) : PS X (.Assign [.Attribute o f pos'] value pos) (PU X.K ta tv f):=by
 intro pins s σ H D I h
 refine plainObj_wpAny_Assign_Attribute (thn (hv pins s σ H _ I h) fun u s1 ⟨y,H1,I1,ry,q⟩=>thn (ha pins s1 σ H1 _ I1 q) fun ov s2 ⟨x,H2,I2,rx,a,C,dx,fs,ex,ea,c,n,l,q2⟩=>?_) hs
 subst ex
 obtain rfl : ov = Value.ref a:=rx
 exact JQ I2 ea c n l ry fun s3 I3=>⟨σ,_,I3,q2⟩
end
section
variable {X : Cx} {pins : List (Addr × Obj)} {σ : St} {H : Hp} {s : Shared} {A : Around} {E : Value → Shared → Prop} {Q : Value → Shared → Prop} {c : Value} {b : Bool}
inductive Fo (K : SR) (H : Hp) : V → Value → Prop where
 | non : Fo K H .non (.type "NoneType")
 | bl (x : Bool) : Fo K H (.bl x) (.type "bool")
 | int (i : Int) : Fo K H (.int i) (.type "int")
 | str (x : Str) : Fo K H (.str x) (.type "str")
 | flt (x : UInt64) : Fo K H (.flt x) (.type "float")
 | lst {a : Addr} {xs : List V} (e : H a = some (.lst xs)) : Fo K H (.ref a) (.type "list")
 | frz {a : Addr} {o : Obj} {xs : List V} (e : H a = some (.frz o (.lst xs))) : Fo K H (.ref a) (.type "list")
 | tup {a : Addr} {xs : List V} (e : H a = some (.tup xs)) : Fo K H (.ref a) (.type "tuple")
 | dK {a : Addr} {kvs : List (Key × V)} (e : H a = some (.dK kvs)) : Fo K H (.ref a) (.type "dict")
 | dT {a : Addr} {kvs : List (List Key × V)} (e : H a = some (.dT kvs)) : Fo K H (.ref a) (.type "dict")
 | ins {a C dx : Addr} {fs : List (Str × V)} (e : H a = some (.ins C dx fs)) (cl : Cls K C) (ha : Ti K (.ref C) "__class__" = some (some (.builtin "object.__class__")))
  (hn : Tv K (.builtin "object.__class__") "__get__" = some (some (.builtin "getset_descriptor.__get__"))) (htk : PySem.W.takesIn K (.builtin "object.__class__") = some true)
  (hm : TC K C (.type "object") = some true) : Fo K H (.ref a) (.ref C)
theorem Lr {x : V} {u t : Value} (I : Inv X pins σ H s) (rx : AR x u) (ty : Fo X.K H x t) (e : TF X.K t c = some b) (h : ∀ tk,Q (.bool b) { s with toks:=tk }) :
 wpAny (model X.prog X.w) A (call (.builtin "isinstance") [u,c]) Q E s:=by
 cases ty with
 | non=>cases (show u = Value.none from rx); exact TH PySem.W.kitx_none I.kIn True.intro e (fun z=>nomatch z) h
 | bl y=>cases (show u = Value.bool y from rx); exact TH PySem.W.kitx_bool I.kIn True.intro e (fun z=>nomatch z) h
 | int i=>obtain ⟨t,q⟩:=(show ∃ t,u = Value.int i t from rx); cases q; exact TH PySem.W.kitx_int I.kIn True.intro e (fun z=>nomatch z) h
 | str y=>obtain ⟨t,q⟩:=(show ∃ t,u = Value.str y t from rx); cases q; exact TH PySem.W.kitx_str I.kIn True.intro e (fun z=>nomatch z) h
 | flt y=>obtain ⟨t,q⟩:=(show ∃ t,u = Value.float y t from rx); cases q; exact TH PySem.W.kitx_float I.kIn True.intro e (fun z=>nomatch z) h
 | @lst a xs ea =>
   cases (show u = Value.ref a from rx)
   obtain ⟨_,_,n,_,h1⟩:=(show BF X.prog X.w H s.heap a (.lst xs) from I.hok a _ ea)
   exact TH TJ I.kIn ⟨_,h1,rfl⟩ e (fun z=>nomatch z) h
 | @frz a ob xs ea =>
   cases (show u = Value.ref a from rx)
   obtain ⟨_,_,_,n,_,h1⟩:=(show BF X.prog X.w H s.heap a (.frz ob (.lst xs)) from I.hok a _ ea)
   exact TH TJ I.kIn ⟨_,h1,rfl⟩ e (fun z=>nomatch z) h
 | @tup a xs ea =>
   cases (show u = Value.ref a from rx)
   obtain ⟨_,_,_,p⟩:=(show BF X.prog X.w H s.heap a (.tup xs) from I.hok a _ ea)
   obtain ⟨o,h1,h2,_⟩:=p
   exact TH PySem.W.kitx_tuple I.kIn ⟨o,h1,h2⟩ e (fun z=>nomatch z) h
 | @dK a kvs ea =>
   cases (show u = Value.ref a from rx)
   obtain ⟨_,_,vs,_,p⟩:=(show BF X.prog X.w H s.heap a (.dK kvs) from I.hok a _ ea)
   obtain ⟨o,es,ep,h1,h2,_⟩:=p
   exact TH PySem.W.kitx_dict I.kIn ⟨o,h1,h2.1⟩ e (fun z=>nomatch z) h
 | @dT a kvs ea =>
   cases (show u = Value.ref a from rx)
   obtain ⟨_,_,xs,_,o,es,ep,h1,h2,_⟩:=(show BF X.prog X.w H s.heap a (.dT kvs) from I.hok a _ ea)
   exact TH PySem.W.kitx_dict I.kIn ⟨o,h1,h2.1⟩ e (fun z=>nomatch z) h
 | @ins a C dx fs ea cl ha hn htk hm =>
   cases (show u = Value.ref a from rx)
   obtain ⟨mA,O,_⟩:=FI I.hok ea
   obtain ⟨od,J,_⟩:=O.look
   exact TH (PySem.W.kitx_own (cl.get _) cl.hd ha hn htk hm) I.kIn J e (fun z=>nomatch z) h
end
end L2
namespace L2
open PySem PySem.Spec PyProof.Rows
structure BA (k : Nat) (A : Around) : Prop where
 hd : A.handled = none
 dp : A.depth + 3 * k + 5 < recursionLimit
 un : A.units + 16 * k + 200 < cLine
theorem BA.mono {j k : Nat} {A : Around} (r : BA k A) (h : j ≤ k) : BA j A:=⟨r.hd,by have:=r.dp; lia,by have:=r.un; lia⟩
theorem BA.deeper {k : Nat} {A : Around} (r : BA (k + 1) A) (env : Env) : BA k (A.deeper env) :=
 ⟨r.hd,by have:=r.dp; show A.depth + 1 + 3 * k + 5 < _; lia,by have:=r.un; show A.units + 3 + 16 * k + 200 < _; lia⟩
theorem K2 {A : Around} {C : Addr} {us : List Value} {kw : List (Str × Value)} : (A.under (.builtin "type.__call__" ⟨.ref C :: us,kw⟩)).depth = A.depth + 1:=by
 first | rfl | simp [Around.under,Code.weight,Code.isCreation,Code.isGuard,Code.isCaller,Code.frames,Code.isFrame,guardIds]
theorem K1 {A : Around} {C : Addr} {us : List Value} {kw : List (Str × Value)} : (A.under (.builtin "type.__call__" ⟨.ref C :: us,kw⟩)).units = A.units + 1:=by
 first | rfl | simp [Around.under,Code.cUnits,Code.frames,Code.isFrame]
theorem BA.make {k : Nat} {A : Around} (r : BA (k + 1) A) (C : Addr) (us : List Value) (kw : List (Str × Value)) : BA k (A.under (.builtin "type.__call__" ⟨.ref C :: us,kw⟩)) :=
 ⟨r.hd,by have:=r.dp; rw [K2]; lia,by have:=r.un; rw [K1]; lia⟩
theorem BA.depth {k : Nat} {A : Around} (r : BA k A) : A.depth < recursionLimit:=by have:=r.dp; lia
theorem BA.units {k : Nat} {A : Around} (r : BA k A) : A.units + 64 < cLine:=by have:=r.un; lia
def N8 : TA:=fun _ H Q=>Q [] H
def Kh (ta : TE) (tr : TA) : TA:=fun σ H Q=>ta σ H fun x H1=>tr σ H1 fun xs H2=>Q (x :: xs) H2
section
variable {X : Cx} {e : Expr} {es : List Expr} {te : TE} {t : TA} {pos : Pos}
theorem Ac : PA X [] N8:=fun _ _ _ _ H Q I h=>Calls.spliced_nil ⟨[],H,I,.nil,h⟩
theorem Aa (ha : PE X e te) (hr : PA X es t) (hs : starEach (e :: es) X.env = (false,eval e X.env) :: starEach es X.env:=by rfl) : PA X (e :: es) (Kh te t):=by
 intro pos pins s σ H Q I h
 rw [hs]
 show wpAny _ _ (spliced ((false,eval e X.env) :: backTo pos (starEach es X.env))) _ _ s
 refine Calls.spliced_cons (thn (ha pins s σ H _ I h) fun u s1 ⟨x,H1,I1,r1,q1⟩=>?_)
 exact thn (hr pos pins s1 σ H1 _ I1 q1) fun us s2 ⟨xs,H2,I2,r2,q2⟩=>⟨x :: xs,H2,I2,.cons r1 r2,q2⟩
def Pu (t : TA) : TE:=fun σ H Q=>t σ H fun xs H1=>xs.length ≤ sizeLine ∧ ∀ p,H1 p = none → Q (.ref p) (upd H1 p (.tup xs))
def PJ (t : TA) : TE:=fun σ H Q=>t σ H fun xs H1=>xs.length ≤ sizeLine ∧ ∀ p,H1 p = none → Q (.ref p) (upd H1 p (.lst xs))
theorem AG {x1} (h : PA X es t) : PE X (.Tuple es x1 pos) (Pu t):=by
 intro pins s σ H Q I hq
 refine wpAny_Tuple_spliced (thn (h pos pins s σ H _ I hq) fun us s1 ⟨xs,H1,I1,r,z,q⟩=>⟨by rw [← r.length]; exact z,?_⟩)
 have hf : H1 s1.heap.objs.size = none:=I1.hok.fresh (T9 _)
 refine ⟨.ref s1.heap.objs.size,upd H1 s1.heap.objs.size (.tup xs),I1.laid (t':=s1.toks) (fun b u e=>Heap.get?_push_of_some _ e) (T9 _) ?_,rfl,q _ hf⟩
 exact ⟨z,us,r,⟨_,Heap.get?_push_size _ rfl,rfl,_,rfl⟩⟩
theorem Bq (h : PA X es t) : PE X (.List es pos) (PJ t):=by
 intro pins s σ H Q I hq
 refine wpAny_List_spliced (thn (h pos pins s σ H _ I hq) fun us s1 ⟨xs,H1,I1,r,z,q⟩=>⟨by rw [← r.length]; exact z,?_⟩)
 have hf : H1 s1.heap.objs.size = none:=I1.hok.fresh (T9 _)
 refine ⟨.ref s1.heap.objs.size,upd H1 s1.heap.objs.size (.lst xs),I1.laid (t':=s1.toks) (fun b u e=>Heap.get?_push_of_some _ e) (T9 _) ?_,rfl,q _ hf⟩
 exact ⟨z,us,0,r,Heap.get?_push_size _ rfl⟩
end
abbrev Sp:=List V → Hp → VK → XK → Prop
abbrev CXT:=List Env → Hp → Shared → XK → Value → Shared → Prop
structure IK (P : Program) (w : World) (K : SR) (mg : Str → Option Value) (base : Heap) (A : Around) (outer : List Env) (s : Shared) (H : Hp) : Prop where
 frames : A.frames = some outer
 mod : Mod K mg base
 bs : ∀ b o,base.get? b = some o → s.heap.get? b = some o ∧ H b = none
 bsz : base.objs.size ≤ s.heap.objs.size
 funs : s.heap.FunFrames base outer
 frf : ∀ b ∈ frs outer,H b = none
 hok : HOk P w H s.heap
 bare : AllBare s.gens
def CE (outer : List Env) (P : Program) (w : World) (H : Hp) (s : Shared) (Q : VK) (u : Value) (s' : Shared) : Prop :=
 ∃ v H',s'.os = s.os ∧ AllBare s'.gens ∧ Un (frs outer) [] H H' s.heap s'.heap ∧ HOk P w H' s'.heap ∧ AR v u ∧ Q v H'
def CR (CX : CXT) (outer : List Env) (P : Program) (w : World) (H : Hp) (s : Shared) (Q : VK) (E : XK) (r : Result) (s' : Shared) : Prop :=
 match r with
 | .ok (.ret u)=>CE outer P w H s Q u s'
 | .ok _=>False
 | .error e=>CX outer H s E e s'
structure AI (P : Program) (w : World) (K : SR) (mg : Str → Option Value) (base : Heap) (CX : CXT) (k : Nat) (f : Addr) (fd : FuncData) (ps : List Str) (sp : Sp) : Prop where
 len : ∀ vs H Q E,sp vs H Q E → vs.length = ps.length
 run : ∀ (A : Around) (outer : List Env) (s : Shared) (H : Hp) (args : Args) (us : List Value) (vs : List V) (Q : VK) (E : XK),BA k A → IK P w K mg base A outer s H → BindsTo s fd args (ps.zip us) → AN vs us → sp vs H Q E →
  codeAny (model P w) A (.call (.ref f) args) (CR CX outer P w H s Q E) s
theorem IK.make {P : Program} {w : World} {K : SR} {mg : Str → Option Value} {base : Heap} {A : Around} {outer : List Env} {s : Shared} {H : Hp} (e : IK P w K mg base A outer s H) (C : Addr) (us : List Value) (kw : List (Str × Value)) :
 IK P w K mg base (A.under (.builtin "type.__call__" ⟨.ref C :: us,kw⟩)) outer s H:=⟨by first | exact e.frames | (simpa [Around.under,Code.envs,Code.isFrame,pushEnvs] using e.frames),e.mod,e.bs,e.bsz,e.funs,e.frf,e.hok,e.bare⟩
section
variable {X : Cx} {pins : List (Addr × Obj)} {σ : St} {H : Hp} {s s' : Shared}
theorem Inv.env0 (I : Inv X pins σ H s) : IK X.prog X.w X.K X.mg X.base X.A X.stack s H :=
 ⟨I.ok.frames,I.ok.mod,I.bs,SU I.ok.bsz I.sz,I.stack,I.stkFree,I.hok,I.bare⟩
theorem Inv.after {Q : VK} {u : Value} (I : Inv X pins σ H s) (h : CE X.stack X.prog X.w H s Q u s') : EP X pins σ Q u s':=by
 obtain ⟨v,H',os,bare,un,hok,r,q⟩:=h
 obtain ⟨hh,g,d,t,os'⟩:=s'
 obtain rfl : os' = s.os:=os
 exact ⟨v,H',I.call (h':=hh) (g':=g) (d':=d) (t':=t) (ch:=[]) un hok bare (fun b z=>absurd z (by simp)),r,q⟩
end
def LX (sp : Sp) (dvs : List V) (E : XK) (t : TA) : TE:=fun σ H Q=>t σ H fun vs H1=>sp (vs ++ dvs) H1 Q E
def NZ (C : Addr) (m : Str) (sp : Sp) (dvs : List V) (E : XK) (ta : TE) (t : TA) : TE:=fun σ H Q=>ta σ H fun x H1=>∃ a dx fs,x = .ref a ∧ H1 a = some (.ins C dx fs) ∧ fs.lookup m = none ∧
 t σ H1 fun vs H2=>sp (x :: (vs ++ dvs)) H2 Q E
def O0 (C : Addr) (sp : Sp) (dvs : List V) (E : XK) (t : TA) : TE:=fun σ H Q=>t σ H fun vs H1=>∀ x dx,H1 x = none → H1 dx = none → dx ≠ x →
 sp (.ref x :: (vs ++ dvs)) (upd (upd H1 dx (.own x)) x (.ins C dx [])) (fun v H2=>v = .non ∧ Q (.ref x) H2) E
def BW (K : SR) (fd : FuncData) (ps : List Str) (ds : List Value) : Prop :=
 ∀ (s : Shared) (us : List Value),K.In s.heap → (us ++ ds).length = ps.length → BindsTo s fd ⟨us,[]⟩ (ps.zip (us ++ ds))
theorem BW.all {K : SR} {fd : FuncData} {ps : List Str} (h : ∀ us : List Value,us.length = ps.length → bindArgs fd ⟨us,[]⟩ = pure (ps.zip us)) : BW K fd ps []:=fun s us _ hl=>by
 rw [TK] at hl ⊢
 exact .of_eq (h us hl)
def CL (CX : CXT) (X : Cx) (E : XK) : Prop:=∀ (pins : List (Addr × Obj)) (σ : St) (H : Hp) (s : Shared) (e : Value) (s' : Shared),Inv X pins σ H s → CX X.stack H s E e s' → X.xe e s'
section
variable {X : Cx} {CX : CXT} {k : Nat} {f C : Addr} {fd : FuncData} {ps : List Str} {sp : Sp} {dvs : List V} {ds : List Value} {E : XK} {x m : Str} {p pos apos : Pos} {e o : Expr} {es : List Expr} {ta : TE} {t : TA}
theorem JR {pins : List (Addr × Obj)} {σ : St} {H : Hp} {s : Shared} {Q : VK} {us : List Value} {vs : List V} (F : AI X.prog X.w X.K X.mg X.base CX k f fd ps sp) (hr : BA k X.A) (hb : BW X.K fd ps ds) (hd : AN dvs ds) (hx : CL CX X E)
 (I : Inv X pins σ H s) (r : AN vs us) (h : sp (vs ++ dvs) H Q E) : wpAny (model X.prog X.w) X.A (call (.ref f) us) (EP X pins σ Q) X.xe s:=by
 have r2 : AN (vs ++ dvs) (us ++ ds):=r.append hd
 have hl : (us ++ ds).length = ps.length:=by rw [← r2.length]; exact F.len _ _ _ _ h
 refine wpAny_call (codeAny_mono (F.run X.A X.stack s H ⟨us,[]⟩ (us ++ ds) (vs ++ dvs) Q E hr I.env0 (hb s us I.kIn hl) r2 h) fun r s' hq=>?_)
 cases r with
 | error e=>exact hx pins σ H s e s' I hq
 | ok fl =>
   cases fl with
   | ret u=>exact I.after hq
   | next=>exact False.elim hq
   | brk=>exact False.elim hq
   | cont=>exact False.elim hq
theorem Kt (F : AI X.prog X.w X.K X.mg X.base CX k f fd ps sp) (hr : BA k X.A) (hg : Gl X x) (hm : X.mg x = some (.ref f)) (hk : Tw X.K (.ref f) = true) (hb : BW X.K fd ps ds) (hd : AN dvs ds) (hx : CL CX X E)
 (ha : PA X (e :: es) t) (hdb : (x == ("__debug__" : Str)) = false:=by decide) (he : starEach (e :: es) X.env = (false,eval e X.env) :: starEach es X.env:=by rfl) (hpl : (backTo pos (starEach es X.env)).any (·.1) = false:=by rfl) :
 PE X (.Call (.Name x p) (e :: es) [] pos) (LX sp dvs E t):=by
 intro pins s σ H Q I h
 refine wpAny_Call_Name_kw (Dr I hg hm ?_ hdb)
 refine TL (h₀:=X.base) I.ok.mod.kin hk (thn (ha pos pins s σ H _ I h) fun us s1 ⟨vs,H1,I1,r,q⟩=>⟨I1.kIn,?_⟩) he hpl
 exact JR F hr hb hd hx I1 r q
theorem Nl {pl : Sem Bool} (he : PE X o ta) (c : Cls X.K C) (hm : Pn X.K C m f) (F : AI X.prog X.w X.K X.mg X.base CX k f fd ps sp) (hr : BA k X.A) (hb : BW X.K fd ps ds) (hd : AN dvs ds) (hx : CL CX X E) (ha : PA X (e :: es) t)
 (hst : starEach (e :: es) X.env = (false,eval e X.env) :: starEach es X.env:=by rfl) (hpl : (backTo pos (starEach es X.env)).any (·.1) = false:=by rfl)
 (ht : eval (.Call (.Attribute o m apos) (e :: es) [] pos) X.env = (do
  let ov ← eval o X.env
  standAt apos.atName
  let (f,first) ← holding [ov] (getMethod ov m pl)
  callWith pos f first (backTo pos (starEach (e :: es) X.env)) (backToKw pos (keywordEach [] X.env))):=by rfl) :
 PE X (.Call (.Attribute o m apos) (e :: es) [] pos) (NZ C m sp dvs E ta t):=by
 intro pins s σ H Q I h
 refine PySem.W.methodCall_KW (pl:=pl) (thn (he pins s σ H _ I h) fun u s1 ⟨x,H1,I1,rx,a,dx,fs,ex,ea,l,q⟩=>?_) ht
 subst ex
 obtain rfl : u = Value.ref a:=rx
 refine GK I1 ea c hm l ?_
 refine TL (first:=[.ref a]) (h₀:=X.base) I.ok.mod.kin hm.kp (thn (ha pos pins s1 σ H1 _ I1 q) fun us s2 ⟨vs,H2,I2,r,q2⟩=>⟨I2.kIn,?_⟩) hst hpl
 exact JR (us:=.ref a :: us) (vs:=.ref a :: vs) F hr hb hd hx I2 (.cons rfl r) q2
structure Mk (K : SR) (C f : Addr) : Prop where
 makes : Tr K C = true
 init : Ti K (.ref C) "__init__" = some (some (.ref f))
 fn : Tn K (.ref f) = true
 kp : Tw K (.ref C) = true
theorem M6 {pins : List (Addr × Obj)} {σ : St} {H : Hp} {s : Shared} {Q : VK} {us : List Value} {vs : List V} (M : Mk X.K C f) (F : AI X.prog X.w X.K X.mg X.base CX k f fd ps sp) (hr : BA (k + 1) X.A) (hb : BW X.K fd ps ds) (hd : AN dvs ds)
 (hx : CL CX X E) (I : Inv X pins σ H s) (r : AN vs us)
 (h : ∀ x dx,H x = none → H dx = none → dx ≠ x → sp (.ref x :: (vs ++ dvs)) (upd (upd H dx (.own x)) x (.ins C dx [])) (fun v H2=>v = .non ∧ Q (.ref x) H2) E) :
 wpAny (model X.prog X.w) X.A (call (.ref C) us) (EP X pins σ Q) X.xe s:=by
 have hq:=h (s.heap.objs.size + 1) s.heap.objs.size (I.hok.fresh (TM _)) (I.hok.fresh (T9 _)) (SJ (Tz _))
 have I2:=Inv.made (C:=C) I
 have r2 : AN (V.ref (s.heap.objs.size + 1) :: (vs ++ dvs)) (Value.ref (s.heap.objs.size + 1) :: (us ++ ds)):=.cons rfl (r.append hd)
 have hl : (Value.ref (s.heap.objs.size + 1) :: us ++ ds).length = ps.length:=by
  have e:=r2.length
  rw [F.len _ _ _ _ hq] at e
  exact e.symm
 refine wpAny_call (Jh (f:=f) I.kIn M.makes M.init (beq_iff_eq.mp M.fn) (codeAny_mono (F.run _ X.stack _ _ ⟨Value.ref (s.heap.objs.size + 1) :: us,[]⟩ (Value.ref (s.heap.objs.size + 1) :: (us ++ ds)) _ _ E (hr.make C us [])
  (I2.env0.make C us []) (hb _ (Value.ref (s.heap.objs.size + 1) :: us) I2.kIn hl) r2 hq) fun r s' hq'=>?_))
 cases r with
 | error e=>exact hx pins σ _ _ e s' I2 hq'
 | ok fl =>
   cases fl with
   | ret u =>
     obtain ⟨v,H',I3,rv,ev,q3⟩:=I2.after hq'
     subst ev
     exact ⟨rv,⟨V.ref (s.heap.objs.size + 1),H',I3,rfl,q3⟩⟩
   | next=>exact False.elim hq'
   | brk=>exact False.elim hq'
   | cont=>exact False.elim hq'
theorem Nn (M : Mk X.K C f) (F : AI X.prog X.w X.K X.mg X.base CX k f fd ps sp) (hr : BA (k + 1) X.A) (hg : Gl X x) (hm : X.mg x = some (.ref C)) (hb : BW X.K fd ps ds) (hd : AN dvs ds) (hx : CL CX X E)
 (ha : PA X (e :: es) t) (hdb : (x == ("__debug__" : Str)) = false:=by decide) (he : starEach (e :: es) X.env = (false,eval e X.env) :: starEach es X.env:=by rfl) (hpl : (backTo pos (starEach es X.env)).any (·.1) = false:=by rfl) :
 PE X (.Call (.Name x p) (e :: es) [] pos) (O0 C sp dvs E t):=by
 intro pins s σ H Q I h
 refine wpAny_Call_Name_kw (Dr I hg hm ?_ hdb)
 refine TL (h₀:=X.base) I.ok.mod.kin M.kp (thn (ha pos pins s σ H _ I h) fun us s1 ⟨vs,H1,I1,r,q⟩=>⟨I1.kIn,?_⟩) he hpl
 exact M6 M F hr hb hd hx I1 r q
end
section
variable {X : Cx} {CX : CXT} {k : Nat} {f C : Addr} {fd : FuncData} {ps ks : List Str} {sp : Sp} {E : XK} {x m : Str} {p pos apos kpos : Pos} {e o : Expr} {es : List Expr} {kws : List Keyword} {te ta : TE} {t tk : TA} {nm : Option Str}
structure QY (K : SR) (fd : FuncData) (ps ks : List Str) (g : List Value → List Value → List Value) (gV : List V → List V → List V) : Prop where
 to : ∀ (s : Shared) (us ws : List Value),K.In s.heap → (g us ws).length = ps.length → BindsTo s fd ⟨us,ks.zip ws⟩ (ps.zip (g us ws))
 rel : ∀ {vs : List V} {us : List Value} {zs : List V} {ws : List Value},AN vs us → AN zs ws → AN (gV vs zs) (g us ws)
variable {g : List Value → List Value → List Value} {gV : List V → List V → List V}
end
structure AA (N P : List Str) (sc : Scope) : Prop where
 kind : sc.kind = .function
 co : sc.isCoroutine = false
 gen : sc.isGenerator = false
 nd : N.Nodup
 pre : N.take P.length = P
 par : ∀ x ∈ P,sc.names.lookup x = some .local ∨ sc.names.lookup x = some .cell
 nofree : ∀ y ∈ sc.names,y.2 ≠ .free
theorem HG {kindOf : Str → Option NameKind} {x : Str} : ∀ {binds : List (Str × Value)} {m : Str → Option Value},(∀ v,(x,v) ∉ binds) → bindL kindOf binds m x = m x
 | [],_,_=>rfl
 | (n,v) :: r,m,h=>by
   unfold bindL
   rw [HG fun w hw=>h w (SY _ hw)]
   split
   ·have : x ≠ n:=by rintro rfl; exact h v SX
    simp [this]
   ·rfl
theorem HI {kindOf : Str → Option NameKind} {x : Str} : ∀ {binds : List (Str × Value)} {m : Str → Option Value},(∀ v,(x,v) ∉ binds) → bindC kindOf binds m x = m x
 | [],_,_=>rfl
 | (n,v) :: r,m,h=>by
   unfold bindC
   rw [HI fun w hw=>h w (SY _ hw)]
   split
   ·rfl
   ·have : x ≠ n:=by rintro rfl; exact h v SX
    simp [this]
theorem HH {kindOf : Str → Option NameKind} {x : Str} {v : Value} : ∀ {P : List Str} {vs : List Value} {i : Nat} {m : Str → Option Value},P.Nodup → P[i]? = some x → vs[i]? = some v → kindOf x = some .local →
 bindL kindOf (P.zip vs) m x = some v
 | [],_,_,_,_,h,_,_=>by simp at h
 | _ :: _,[],_,_,_,_,h,_=>by simp at h
 | p :: P,w :: vs,0,m,nd,h1,h2,hk=>by
   simp at h1 h2; subst h1; subst h2
   show bindL kindOf ((p,w) :: P.zip vs) m p = _
   unfold bindL
   rw [HG fun v hv=>(TN.mp nd).1 (TQ hv).1,if_pos hk]
   simp
 | p :: P,w :: vs,i + 1,m,nd,h1,h2,hk=>by
   show bindL kindOf ((p,w) :: P.zip vs) m x = _
   unfold bindL
   exact HH (i:=i) (TN.mp nd).2 (by simpa using h1) (by simpa using h2) hk
theorem HJ {kindOf : Str → Option NameKind} {x : Str} {v : Value} : ∀ {P : List Str} {vs : List Value} {i : Nat} {m : Str → Option Value},P.Nodup → P[i]? = some x → vs[i]? = some v → kindOf x ≠ some .local →
 bindC kindOf (P.zip vs) m x = some v
 | [],_,_,_,_,h,_,_=>by simp at h
 | _ :: _,[],_,_,_,_,h,_=>by simp at h
 | p :: P,w :: vs,0,m,nd,h1,h2,hk=>by
   simp at h1 h2; subst h1; subst h2
   show bindC kindOf ((p,w) :: P.zip vs) m p = _
   unfold bindC
   rw [HI fun v hv=>(TN.mp nd).1 (TQ hv).1,if_neg hk]
   simp
 | p :: P,w :: vs,i + 1,m,nd,h1,h2,hk=>by
   show bindC kindOf ((p,w) :: P.zip vs) m x = _
   unfold bindC
   exact HJ (i:=i) (TN.mp nd).2 (by simpa using h1) (by simpa using h2) hk
def Du (N : List Str) (vs : List V) : St:=vs.map some ++ TR (N.length - vs.length) none
def Dx (CX : CXT) (P : Program) (w : World) (K : SR) (mg : Str → Option Value) (base : Heap) (N : List Str) (qual : Str) (scope : Scope) (f : Addr) (cd : Value) (A : Around) (outer : List Env) (s : Shared) (H : Hp) (E : XK) : Cx where
 prog:=P
 w:=w
 K:=K
 mg:=mg
 base:=base
 A:=A.deeper (envOfC qual scope s.heap.objs.size f cd)
 N:=N
 s₀:=s
 H₀:=H
 env:=envOfC qual scope s.heap.objs.size f cd
 outer:=outer
 stack:=envOfC qual scope s.heap.objs.size f cd :: outer
 ex:=[]
 calm:=true
 fn:=fun _=>true
 pn:=[]
 xe:=fun e s'=>wpAny (model P w) (A.deeper (envOfC qual scope s.heap.objs.size f cd)) (leaving (envOfC qual scope s.heap.objs.size f cd) e) (fun _ s''=>CX outer H s E e s'') (fun e' s''=>CX outer H s E e' s'') s'
theorem JD {sc : Scope} {n : Nat} {x : Str} (h : sc.names.lookup x = some .cell) : ∃ c,(cellsFrom n sc.names []).lookup x = some c:=by
 have q:=TU sc.names n [] (.inl h)
 exact Option.isSome_iff_exists.mp q
theorem HC {CX : CXT} {P : Program} {w : World} {K : SR} {mg : Str → Option Value} {base : Heap} {N ps : List Str} {qual : Str} {scope : Scope} {f : Addr} {cd : Value} {A : Around} {outer : List Env} {s s1 : Shared} {H : Hp} {E : XK} {us : List Value} {vs : List V}
 (S : AA N ps scope) (hd : A.handled = none) (e0 : IK P w K mg base A outer s H) (hl : vs.length = ps.length) (r : AN vs us)
 (x : InCallC s s.heap.objs.size (bindL (envOfC qual scope s.heap.objs.size f cd).kindOf (ps.zip us) fun _=>none) (cellsFrom (s.heap.objs.size + 1) scope.names []) (bindC (envOfC qual scope s.heap.objs.size f cd).kindOf (ps.zip us) fun _=>none) s1) :
 Inv (Dx CX P w K mg base N qual scope f cd A outer s H E) [] (Du N vs) H s1:=by
 have hpl : ps.length ≤ N.length:=by have:=congrArg TV S.pre; rw [TX] at this; lia
 obtain ⟨h1,tk,rfl,hk⟩:=x.done
 have noA : ∀ b : Addr,b ∉ (Dx CX P w K mg base N qual scope f cd A outer s H E).ex:=fun b z=>absurd (show b ∈ ([] : List Addr) from z) (by simp)
 refine ⟨⟨e0.mod,S.kind,rfl,rfl,T9 _,fun y z c h1 h2=>?_,fun y hy=>?_,fun y c _ h=>?_,fun _=>hd,Around.frames_deeper e0.frames,.inr ⟨rfl,rfl⟩,fun b z=>absurd z (noA b),e0.bs,e0.bsz,fun b _ _=>noA b,fun b z=>absurd z (noA b),e0.funs,e0.frf⟩,
  rfl,e0.bare,Un.kept hk,⟨_,x.toInCall.ns,fun i y v h1 h2 h3=>?_⟩,fun y c h=>⟨_,x.cell y c h⟩,e0.hok.fresh (T9 _),fun y c h=>?_,fun p hp=>absurd (show p ∈ ([] : List (Addr × Obj)) from hp) (by simp),e0.hok.kept hk,?_⟩
 ·exact name_of_addr x.apart (PySem.mem_of_lookup h1) (PySem.mem_of_lookup h2)
 ·have hy : scope.names.lookup y = some .cell ∨ scope.names.lookup y = some .free:=hy
  rcases hy with hy | hy
  ·exact JD hy
  ·exact absurd rfl (S.nofree _ (PySem.mem_of_lookup hy))
 ·exact SV (x.above y c (PySem.mem_of_lookup h))
 ·have hi : i < vs.length:=by
   unfold Du at h2
   by_cases hi : i < vs.length
   ·exact hi
   ·rw [TY (by simpa using hi)] at h2
    rw [TZ] at h2
    split at h2 <;> cases h2
  have ha : vs[i]? = some v:=by
   unfold Du at h2
   rw [U0 (by simpa using hi),U1] at h2
   cases e : vs[i]? with
   | none=>rw [e] at h2; cases h2
   | some a=>rw [e] at h2; cases h2; rfl
  obtain ⟨u,hu,rv⟩:=r.get ha
  have hp : ps[i]? = some y:=by
   rw [← S.pre,U2 (by lia)]; exact h1
  have ndP : ps.Nodup:=by rw [← S.pre]; exact S.nd.sublist (List.take_sublist _ _)
  refine ⟨u,rv,?_⟩
  rcases S.par y (U3 hp) with k | k
  ·exact .inl ⟨k,HH ndP hp hu k⟩
  ·obtain ⟨c,e⟩:=JD (n:=s.heap.objs.size + 1) k
   refine .inr ⟨.inl k,c,e,?_⟩
   have q:=x.cell y c e
   rw [HJ ndP hp hu (by show scope.names.lookup y ≠ _; rw [k]; decide)] at q
   exact q
 ·exact e0.hok.fresh (SV (x.above y c (PySem.mem_of_lookup h)))
 ·unfold Du
  show _ = N.length
  rw [U4,Tx,U5]
  lia
theorem Oc {CX : CXT} {P : Program} {w : World} {K : SR} {mg : Str → Option Value} {base : Heap} {k : Nat} {f : Addr} {name qual : Str} {params : Arguments} {body : List Stmt} {scope : Scope} {dV kV doc pm cdv ct oc : Value} {an od : Option Addr}
 {osl : Array (Option Value)} {N ps : List Str} {sp : Sp} (lk : K.lookup f = some ⟨oc,od,.func (U6 name qual params body scope dV kV doc pm an cdv ct),osl⟩) (hcd : U7 K cdv qual = true) (S : AA N ps scope)
 (len : ∀ vs H Q E,sp vs H Q E → vs.length = ps.length)
 (hbody : ∀ (A : Around) (outer : List Env) (s : Shared) (H : Hp) (vs : List V) (Q : VK) (E : XK),BA k (A.deeper (envOfC qual scope s.heap.objs.size f cdv)) → sp vs H Q E →
  ∃ t,PSs (Dx CX P w K mg base N qual scope f cdv A outer s H E) body t ∧ t { nx:=fun _ H'=>Q .non H',rt:=Q } (Du N vs) H) :
 AI P w K mg base CX (k + 1) f (U6 name qual params body scope dV kV doc pm an cdv ct) ps sp:=by
 refine ⟨len,fun A outer s H args us vs Q E hr e0 hb r hsp=>?_⟩
 have hl:=len _ _ _ _ hsp
 have KX : K.In s.heap:=e0.mod.kin.keeps fun b o e=>(e0.bs b o e).1
 have lim : s.heap.NoLimit:=e0.mod.nolimit.keeps fun b o e=>(e0.bs b o e).1
 have hkind : ∀ y ∈ ps.zip us,scope.names.lookup y.1 = some .local ∨ (scope.names.lookup y.1 = some .cell ∧ ((cellsFrom (s.heap.objs.size + 1) scope.names []).lookup y.1).isSome = true):=fun ⟨n,v⟩ hy=>by
  rcases S.par n (TQ hy).1 with q | q
  ·exact .inl q
  ·exact .inr ⟨q,TU _ _ _ (.inl q)⟩
 refine codeAny_call_function hr.depth (KX _ _ lk) rfl S.co S.gen rfl (PySem.W.codeRec_of KX hcd) (hb _ _ _ _ ?_)
 refine wpAny_newFunctionEnv_cells S.kind hkind fun env he s1 x=>?_
 subst he
 refine ⟨lim.keeps x.toInCall.keep,codeAny_func ?_⟩
 obtain ⟨t,ht,hq⟩:=hbody A outer s H vs Q E (hr.deeper _) hsp
 have I : Inv (Dx CX P w K mg base N qual scope f cdv A outer s H E) [] (Du N vs) H s1:=HC S hr.hd e0 hl r x
 refine wpAny_mono (ht [] s1 (Du N vs) H _ I hq) (fun fl s' hs=>?_) fun e s' hs=>hs
 have fin : ∀ {σ' : St} {H' : Hp} {v : V} {u : Value},Inv (Dx CX P w K mg base N qual scope f cdv A outer s H E) [] σ' H' s' → AR v u → Q v H' → CE outer P w H s Q u s' :=
  fun {σ' H' v u} J rv q=>⟨v,H',J.os,J.bare,J.base,J.hok,rv,q⟩
 cases fl with
 | ret u =>
   obtain ⟨v,σ',H',J,rv,q⟩:=hs
   exact fin J rv q
 | next =>
   obtain ⟨σ',H',J,q⟩:=hs
   exact fin (v:=V.non) (u:=Value.none) J rfl q
 | brk =>
   obtain ⟨_,_,_,q⟩:=hs
   exact False.elim q
 | cont =>
   obtain ⟨_,_,_,q⟩:=hs
   exact False.elim q
end L2
namespace L2
open PySem PySem.Spec PyProof.Rows
section
variable {X : Cx} {x : Str} {p pos : Pos} {e : Expr} {es : List Expr} {t : TA} {id T : String} {r : List V → Hp → VK → Prop}
def tCB (r : List V → Hp → VK → Prop) (t : TA) : TE:=fun σ H Q=>t σ H fun vs H1=>r vs H1 Q
theorem Ak (hc : C9 X (.builtin id) r) (hg : Gl X x) (hm : X.mg x = none) (hv : bootBuiltins x = some (.builtin id)) (ha : PA X (e :: es) t) (hn : x ≠ "__name__":=by decide) (hdb : (x == ("__debug__" : Str)) = false:=by decide)
 (he : starEach (e :: es) X.env = (false,eval e X.env) :: starEach es X.env:=by rfl) (hpl : (backTo pos (starEach es X.env)).any (·.1) = false:=by rfl) : PE X (.Call (.Name x p) (e :: es) [] pos) (tCB r t):=by
 intro pins s σ H Q I h
 refine wpAny_Call_Name_kw (Gw I hg hm hv ?_ hn hdb)
 exact PyProof.Rows.callWith_builtin1 (thn (ha pos pins s σ H _ I h) fun us s1 ⟨vs,H1,I1,r1,q1⟩=>hc pins s1 σ H1 vs us Q I1 r1 q1) he hpl
theorem Ba (hc : C9 X (.type T) r) (hg : Gl X x) (hm : X.mg x = none) (hv : bootBuiltins x = some (.type T)) (ha : PA X (e :: es) t) (hn : x ≠ "__name__":=by decide) (hdb : (x == ("__debug__" : Str)) = false:=by decide)
 (he : starEach (e :: es) X.env = (false,eval e X.env) :: starEach es X.env:=by rfl) (hpl : (backTo pos (starEach es X.env)).any (·.1) = false:=by rfl) : PE X (.Call (.Name x p) (e :: es) [] pos) (tCB r t):=by
 intro pins s σ H Q I h
 refine wpAny_Call_Name_kw (Gw I hg hm hv ?_ hn hdb)
 exact PyProof.Rows.callWith_type1 (thn (ha pos pins s σ H _ I h) fun us s1 ⟨vs,H1,I1,r1,q1⟩=>hc pins s1 σ H1 vs us Q I1 r1 q1) he hpl
end
end L2
namespace HT
open PySem PyProof.Rows
section
open PySem.SeqAt
open PySem.AutoSeq1 (wpAny_loadPart')
open PySem.MeetsSeq PySem.MeetsSeq2 PySem.MeetsSeq3
end
section
variable {prog : Program} {w : World} {A : Around} {E : Value → Shared → Prop} {s : Shared}
theorem cat_tup {t b : Addr} {vs ws : List Value} {Q : Value → Shared → Prop} (ht : IsTup s.heap t vs.toArray) (hb : IsTup s.heap b ws.toArray) (hv : vs ≠ [])
 (h1 : ws = [] → Q (.ref t) s) (h2 : ws ≠ [] → Q (.ref s.heap.objs.size) { s with heap:=s.heap.push { cls:=.type "tuple",data:=.seq (vs ++ ws).toArray } })
 (hsz : vs.length + ws.length ≤ sizeLine) : wpAny (model prog w) A (binaryOp .Add (.ref t) (.ref b)) Q E s:=by
 obtain ⟨⟨cls,dd,data,sl⟩,ho,hc,n,hd⟩:=id ht
 obtain ⟨⟨cls2,dd2,data2,sl2⟩,ho2,hc2,n2,hd2⟩:=id hb
 simp only at hc hd hc2 hd2
 subst hc hd hc2 hd2
 have e : vs.toArray ++ ws.toArray = (vs ++ ws).toArray:=by simp
 by_cases hw : ws = []
 ·exact concat_meets ⟨_,ho,rfl⟩ ⟨_,ho2,rfl⟩ noFill_tuple_add seq_tuple_add PySem.F.slot_tuple_add PySem.F.entry_tuple_add (PySem.F.args_tuple_add_2 _ _)
   (tuple_addW1 t b vs.toArray ws.toArray n n2 dd dd2 sl sl2 (by simpa using hv) (by simp [hw])) ⟨ho,ho2,h1 hw⟩
 ·refine concat_meets ⟨_,ho,rfl⟩ ⟨_,ho2,rfl⟩ noFill_tuple_add seq_tuple_add PySem.F.slot_tuple_add PySem.F.entry_tuple_add (PySem.F.args_tuple_add_2 _ _)
   (tuple_addW2 t b vs.toArray ws.toArray n n2 dd dd2 sl sl2 (by simpa using hv) (by simpa using hw) (by rw [U8,U8]; exact hsz)) ⟨ho,ho2,?_⟩
  rw [e]
  exact h2 hw
def sIx (n d : Nat) : Option Int → Nat
 | none=>d
 | some v=>if v < 0 then (v + (n : Int)).toNat else min v.toNat n
theorem sIx_nat (n d k : Nat) : sIx n d (some (k : Int)) = min k n:=by
 show (if (k : Int) < 0 then ((k : Int) + (n : Int)).toNat else min (k : Int).toNat n) = min k n
 rw [if_neg (by lia),U9]
theorem clip_eq (v : Int) (n d : Nat) : (if v < 0 then max (v + (n : Int)) 0 else min v (n : Int)) = ((sIx n d (some v) : Nat) : Int):=by
 show (if v < 0 then max (v + (n : Int)) 0 else min v (n : Int)) = (((if v < 0 then (v + (n : Int)).toNat else min v.toNat n) : Nat) : Int)
 by_cases hv : v < 0
 ·rw [if_pos hv,if_pos hv,Int.toNat_eq_max]
 ·rw [if_neg hv,if_neg hv]
  obtain ⟨k,rfl⟩:=Int.eq_ofNat_of_zero_le (Int.not_lt.mp hv)
  rw [U9]
  rcases Nat.le_total k n with h | h
  ·rw [Nat.min_eq_left h,Int.min_eq_left (Int.ofNat_le.mpr h)]
  ·rw [Nat.min_eq_right h,Int.min_eq_right (Int.ofNat_le.mpr h)]
end
end HT
namespace L2
open PySem PySem.Spec PyProof.Rows
abbrev TO:=St → Hp → (Option Int → Hp → Prop) → Prop
def PO (X : Cx) (e : Option Expr) (t : TO) : Prop :=
 ∀ (pins : List (Addr × Obj)) (s : Shared) (σ : St) (H : Hp) (Q : Option Int → Hp → Prop),Inv X pins σ H s → t σ H Q →
   wpAny (model X.prog X.w) X.A (evalPart e X.env) (fun u s'=>∃ o H',Inv X pins σ H' s' ∧ IsPart u o ∧ Q o H') X.xe s
def N7 : TO:=fun _ H Q=>Q none H
def Pz (t : TE) : TO:=fun σ H Q=>t σ H fun x H1=>∃ i,x = .int i ∧ Q (some i) H1
section
variable {X : Cx} {e : Expr} {te : TE} {lo hi : Option Expr} {tl th : TO} {pos p2 : Pos}
theorem Ig : PO X none N7:=by
 intro pins s σ H Q I h
 rw [evalPart_none]
 exact wpAny_pure ⟨none,H,I,.none,h⟩
theorem Ie (h : PE X e te) : PO X (some e) (Pz te):=by
 intro pins s σ H Q I hw
 rw [evalPart_some]
 refine thn (h pins s σ H _ I hw) fun u s1 ⟨x,H1,I1,r1,q1⟩=>?_
 obtain ⟨i,rfl,q⟩:=q1
 obtain ⟨t,rfl⟩:=r1
 exact ⟨some i,H1,I1,.int i t,q⟩
def SlR (X : Cx) (r : V → Option Int → Option Int → Hp → VK → Prop) : Prop :=
 ∀ (pins : List (Addr × Obj)) (s : Shared) (σ : St) (H : Hp) (x : V) (v vl vu : Value) (lo hi : Option Int) (sl : Addr) (Q : VK),Inv X pins σ H s → AR x v → s.heap.IsSliceOf sl vl vu .none → IsPart vl lo → IsPart vu hi → r x lo hi H Q →
   ∃ T id,typeLookup (.type T) "__getitem__" = pure (some (.builtin id)) ∧ s.TypeIs v T ∧ wpAny (model X.prog X.w) X.A (getItem v (.ref sl)) (EP X pins σ Q) X.xe s
def tSl (r : V → Option Int → Option Int → Hp → VK → Prop) (te : TE) (tl th : TO) : TE:=fun σ H Q=>te σ H fun x H1=>tl σ H1 fun l H2=>th σ H2 fun u H3=>r x l u H3 Q
theorem Gd {r : V → Option Int → Option Int → Hp → VK → Prop} (hr : SlR X r) (he : PE X e te) (hl : PO X lo tl) (hu : PO X hi th) : PE X (.Subscript e (.Slice lo hi none p2) pos) (tSl r te tl th):=by
 intro pins s σ H Q I h
 refine Subscript_ (thn (he pins s σ H _ I h) fun v s1 ⟨x,H1,I1,r1,q1⟩=>?_)
 refine wpAny_Slice (thn (hl pins s1 σ H1 _ I1 q1) fun vl s2 ⟨l,H2,I2,pl,q2⟩=>thn (hu pins s2 σ H2 _ I2 q2) fun vu s3 ⟨u,H3,I3,pu,q3⟩=>?_)
 rw [evalPart_none]
 refine wpAny_pure ?_
 have I4 : Inv X pins σ H3 { s3 with heap:=s3.heap.push { cls:=.type "slice",data:=.fields #[vl,vu,.none] } }:=I3.kept (t':=s3.toks) fun b ob q=>Heap.get?_push_of_some _ q
 obtain ⟨T,id,hT,ht,hg⟩:=hr pins { s3 with heap:=s3.heap.push { cls:=.type "slice",data:=.fields #[vl,vu,.none] } } σ H3 x v vl vu l u s3.heap.objs.size Q I4 r1 (Heap.IsSliceOf.new ..) pl pu q3
 show wpAny (model X.prog X.w) X.A (subscriptTail e (.Slice lo hi none p2) v (.ref s3.heap.objs.size)) (EP X pins σ Q) X.xe { s3 with heap:=s3.heap.push { cls:=.type "slice",data:=.fields #[vl,vu,.none] } }
 exact tail_any (ops:=[.ref s3.heap.objs.size,v]) ht hT hg (by with_unfolding_all rfl)
def Jy (xs : List V) (lo hi : Option Int) : List V:=(xs.drop (HT.sIx xs.length 0 lo)).take (HT.sIx xs.length xs.length hi - HT.sIx xs.length 0 lo)
theorem Jx (xs : List V) (lo hi : Option Int) : (Jy xs lo hi).length ≤ xs.length:=by
 unfold Jy
 rw [TX,Ua]
 exact SU (Nat.min_le_right _ _) (Nat.sub_le _ _)
inductive Mc (K : SR) (x : V) (y : V) (H : Hp) (Q : VK) : Prop
 | mk (a : _) (b : _) (xs : _) (ys : _) (h1 : x = .ref a) (h2 : y = .ref b) (h3 : SqT K H a xs) (h4 : SqT K H b ys) (h5 : xs ≠ []) (h6 : xs.length + ys.length ≤ sizeLine) (h7 : (ys = [] → Q (.ref a) H)) (h8 : (ys ≠ [] → ∀ p,H p = none → Q (.ref p) (upd H p (.tup (xs ++ ys))))) : Mc K x y H Q
theorem AN.nil_iff {xs : List V} {us : List Value} (r : AN xs us) : us = [] ↔ xs = []:=by
 cases r with
 | nil=>simp
 | cons _ _=>simp
theorem Nt : OpR X (binaryOp .Add) (Mc X.K):=by
 intro pins s σ H x y v u Q I rx ry h
 obtain ⟨a,b,xs,ys,rfl,rfl,ha,hb,hx,hz,q1,q2⟩:=h
 cases rx
 cases ry
 obtain ⟨its,r1,p1,_⟩:=I.tuple ha
 obtain ⟨its2,r2,p2,_⟩:=I.tuple hb
 refine HT.cat_tup p1 p2 (fun z=>hx (r1.nil_iff.mp z)) (fun z=>⟨.ref a,H,I,rfl,q1 (r2.nil_iff.mp z)⟩) (fun z=>?_) (by rw [← r1.length,← r2.length]; exact hz)
 refine ⟨.ref s.heap.objs.size,_,I.laid (t':=s.toks) (o:=.tup (xs ++ ys)) (fun b ob q=>Heap.get?_push_of_some _ q) (T9 _) ?_,rfl,q2 (fun w=>z (r2.nil_iff.mpr w)) _ (I.hok.fresh (T9 _))⟩
 exact ⟨by rw [U4]; exact hz,_,r1.append r2,IsTup.new _ _⟩
end
end L2
namespace L2
open PySem PySem.Spec PyProof.Rows
def ixN (n : Nat) (i : Int) : Option Nat:=if 0 ≤ i then (if i < n then some i.toNat else none) else if -(n : Int) ≤ i then some (i + n).toNat else none
def atI {α : Type} (xs : List α) (i : Int) : Option α:=(ixN xs.length i).bind fun j=>xs[j]?
theorem Kz {n : Nat} {i : Int} {j : Nat} (h : ixN n i = some j) : seqIndex? i n = some j ∧ j < n ∧ -(n : Int) ≤ i ∧ i < n:=by
 unfold ixN at h
 by_cases h0 : 0 ≤ i
 ·rw [if_pos h0] at h
  by_cases h1 : i < n
  ·rw [if_pos h1] at h
   have e : i.toNat = j:=SD.inj h
   exact ⟨by rw [seqIndex_of h0 h1,e],by lia,by lia,h1⟩
  ·rw [if_neg h1] at h; cases h
 ·rw [if_neg h0] at h
  by_cases h1 : -(n : Int) ≤ i
  ·rw [if_pos h1] at h
   have e : (i + n).toNat = j:=SD.inj h
   exact ⟨by rw [seqIndex_neg (by lia) h1,e],by lia,h1,by lia⟩
  ·rw [if_neg h1] at h; cases h
theorem IF {α : Type} {xs : List α} {i : Int} {v : α} (h : atI xs i = some v) : ∃ j,seqIndex? i xs.length = some j ∧ xs[j]? = some v ∧ j < xs.length ∧ -(xs.length : Int) ≤ i ∧ i < xs.length:=by
 unfold atI at h
 cases e : ixN xs.length i with
 | none=>rw [e] at h; cases h
 | some j =>
   rw [e] at h
   obtain ⟨h1,h2,h3,h4⟩:=Kz e
   exact ⟨j,h1,h,h2,h3,h4⟩
theorem AX {α : Type} {xs : List α} {j : Nat} {v : α} (h : xs[j]? = some v) : atI xs (j : Int) = some v:=by
 have hj : j < xs.length:=(T4.mp h).1
 have e : ixN xs.length (j : Int) = some j:=by
  unfold ixN
  rw [if_pos (by lia),if_pos (by lia)]; simp
 unfold atI; rw [e]; exact h
def NT (b : Expr) : Prop:=∀ o i,subscripted b false o i = operate [o,i] (getItem o i)
def IxR (X : Cx) (r : R2) : Prop :=
 ∀ (value slice : Expr) (pins : List (Addr × Obj)) (s : Shared) (σ : St) (H : Hp) (x y : V) (v u : Value) (Q : VK),Inv X pins σ H s → AR x v → AR y u → r x y H Q →
   subscripted slice false v u = operate [v,u] (getItem v u) → wpAny (model X.prog X.w) X.A (subscriptTail value slice v u) (EP X pins σ Q) X.xe s
def MtR (X : Cx) (id : String) (r : V → List V → Hp → VK → Prop) : Prop :=
 ∀ (pins : List (Addr × Obj)) (s : Shared) (σ : St) (H : Hp) (x : V) (xs : List V) (v : Value) (us : List Value) (Q : VK),Inv X pins σ H s → AR x v → AN xs us → r x xs H Q →
   wpAny (model X.prog X.w) X.A (call (.builtin id) (v :: us)) (EP X pins σ Q) X.xe s
section
variable {X : Cx} {a b : Expr} {ta tb : TE} {pos : Pos}
theorem AB {r : R2} (hr : IxR X r) (ha : PE X a ta) (hb : PE X b tb) (hs : NT b) : PE X (.Subscript a b pos) (tOp r ta tb):=by
 intro pins s σ H Q I h
 exact Subscript_ (Pj ha hb I h fun v u s2 x y H2 I2 rx ry q=>hr a b pins s2 σ H2 x y v u Q I2 rx ry q (hs _ _))
inductive Ow (K : SR) (x : V) (y : V) (H : Hp) (Q : VK) : Prop
 | mk (p : _) (xs : _) (i : _) (v : _) (h1 : x = .ref p) (h2 : y = .int i) (h3 : SqL K H p xs) (h4 : atI xs i = some v) (h5 : Q v H) : Ow K x y H Q
inductive Ov (K : SR) (x : V) (y : V) (H : Hp) (Q : VK) : Prop
 | mk (p : _) (xs : _) (i : _) (v : _) (h1 : x = .ref p) (h2 : y = .int i) (h3 : SqT K H p xs) (h4 : atI xs i = some v) (h5 : Q v H) : Ov K x y H Q
inductive Q5 (x : V) (y : V) (H : Hp) (Q : VK) : Prop
 | mk (z : _) (i : _) (c : _) (h1 : x = .str z) (h2 : y = .int i) (h3 : z.length ≤ sizeLine) (h4 : atI z.cps.toList i = some c) (h5 : Q (.str ⟨#[c]⟩) H) : Q5 x y H Q
theorem Ny : IxR X (Ow X.K):=by
 intro value slice pins s σ H x y v u Q I rx ry h hs
 obtain ⟨p,xs,i,z,rfl,rfl,hq,he,q⟩:=h
 cases rx
 obtain ⟨t,rfl⟩:=ry
 obtain ⟨its,r,pl,hz⟩:=I.list hq
 obtain ⟨j,h1,h2,h3,h4,h5⟩:=IF he
 obtain ⟨w,ew,rw'⟩:=r.get h2
 have hl:=r.length
 have hn:=Fc
 have fin : EP X pins σ Q w s:=⟨z,H,I,rw',q⟩
 by_cases h0 : 0 ≤ i
 ·have hj : i.toNat = j:=by
   rw [seqIndex_of h0 h5] at h1
   exact SD.inj h1
  exact item_listR pl.isList h0 (by lia) (by rw [hj]; simpa using ew) fin hs
 ·have hj : (i + (its.toArray.size : Int)).toNat = j:=by
   rw [seqIndex_neg (by lia) h4] at h1
   rw [U8,← hl]
   exact SD.inj h1
  exact subscriptTail_builtinR (x:=w) pl.isList.typeIs slot_list_getitem.lookup
   (wpAny_getItem_list_neg (Q:=fun r s'=>r = w ∧ EP X pins σ Q r s') pl.isList (by lia) (by rw [U8] <;> lia) (by lia) (by rw [hj]; simpa using ew) ⟨rfl,fin⟩) hs
theorem P6 : IxR X (Ov X.K):=by
 intro value slice pins s σ H x y v u Q I rx ry h hs
 obtain ⟨p,xs,i,z,rfl,rfl,hq,he,q⟩:=h
 cases rx
 obtain ⟨t,rfl⟩:=ry
 obtain ⟨its,r,pl,hz⟩:=I.tuple hq
 obtain ⟨j,h1,h2,h3,h4,h5⟩:=IF he
 obtain ⟨w,ew,rw'⟩:=r.get h2
 have hl:=r.length
 have hn:=Fc
 have fin : EP X pins σ Q w s:=⟨z,H,I,rw',q⟩
 exact subscriptTail_builtinR (x:=w) pl.typeIs slot_tuple_getitem.lookup
  (getItem_tuple (j:=j) (Q:=fun r s'=>r = w ∧ EP X pins σ Q r s') pl (by lia) (by lia) (by rw [U8,← hl]; exact h1) (by simpa using ew) ⟨rfl,fin⟩) hs
theorem P7 : IxR X Q5:=by
 intro value slice pins s σ H x y v u Q I rx ry h hs
 obtain ⟨z,i,c,rfl,rfl,hz,he,q⟩:=h
 obtain ⟨t,rfl⟩:=rx
 obtain ⟨t',rfl⟩:=ry
 obtain ⟨j,h1,h2,h3,h4,h5⟩:=IF he
 have hl : z.cps.toList.length = z.length:=by simp [Str.length]
 rw [hl] at h1 h4 h5
 have hn:=Fc
 exact tail_any (typeIs_str s z t) slot_str_getitem.lookup (getItem_str (c:=c) (by
  have e1 : decide (i < -(2 ^ 63 : Int)) = false:=decide_eq_false (by lia)
  have e2 : decide (i ≥ 2 ^ 63) = false:=decide_eq_false (by lia)
  rw [e1,e2,Bool.or_false]) (by rw [h1]; simpa using h2) ⟨.str ⟨#[c]⟩,H,I.tok _,⟨_,rfl⟩,q⟩) hs
theorem K0 (its : List Value) (n j : Nat) (u : Value) : Obj.mapSeq (·.setIfInBounds j u) { cls:=.type "list",data:=.seq its.toArray n } = { cls:=.type "list",data:=.seq (its.set j u).toArray n }:=by
 simp [Obj.mapSeq]
theorem Inv.lst {pins : List (Addr × Obj)} {σ : St} {H : Hp} {s : Shared} {p : Addr} {xs : List V} (I : Inv X pins σ H s) (h : H p = some (.lst xs)) :
 ∃ (its : List Value) (n : Nat),AN xs its ∧ s.heap.get? p = some { cls:=.type "list",data:=.seq its.toArray n } ∧ xs.length ≤ sizeLine:=by
 obtain ⟨z,its,n,r,e⟩:=I.hok p _ h
 exact ⟨its,n,r,e,z⟩
theorem Inv.lstUpd {pins : List (Addr × Obj)} {σ : St} {H : Hp} {s : Shared} {p : Addr} {xs ys : List V} {its its' : List Value} {n n' : Nat} {f : Obj → Obj} (I : Inv X pins σ H s) (h : H p = some (.lst xs))
 (ho : s.heap.get? p = some { cls:=.type "list",data:=.seq its.toArray n }) (hf : f { cls:=.type "list",data:=.seq its.toArray n } = { cls:=.type "list",data:=.seq its'.toArray n' }) (r : AN ys its') (hz : ys.length ≤ sizeLine) (t : Nat) :
 Inv X pins σ (upd H p (.lst ys)) { s with heap:=s.heap.update p f,toks:=t }:=by
 have e : (s.heap.update p f).get? p = some { cls:=.type "list",data:=.seq its'.toArray n' }:=by
  rw [Heap.get?_update_self f ho (by rw [hf] <;> rfl),hf]
 refine I.write (x:=p) (e:=p) (by rw [h]; trivial) (.inl rfl) (fun b u hb q=>(Heap.get?_update_other _ _ (Ne.symm hb)).trans q) ⟨_,e⟩ ?_
 exact ⟨hz,its',n',r,e⟩
inductive O4 (o : V) (i : V) (v : V) (H : Hp) (Q : (Hp → Prop)) : Prop
 | mk (p : _) (xs : _) (k : _) (j : _) (h1 : o = .ref p) (h2 : i = .int k) (h3 : H p = some (.lst xs)) (h4 : ixN xs.length k = some j) (h5 : Q (upd H p (.lst (xs.set j v)))) : O4 o i v H Q
theorem IX : Qq X O4:=by
 intro pins s σ H o i v ov iv u Q I ro ri rv h
 obtain ⟨p,xs,k,j,rfl,rfl,hp,hj,q⟩:=h
 cases ro
 obtain ⟨t,rfl⟩:=ri
 obtain ⟨its,n,r,ho,hz⟩:=I.lst hp
 obtain ⟨h1,h2,h3,h4⟩:=Kz hj
 have hl:=r.length
 have hn:=Fc
 have I' : Inv X pins σ (upd H p (.lst (xs.set j v))) { s with heap:=s.heap.update p (Obj.mapSeq (·.setIfInBounds j u)) } :=
  I.lstUpd hp ho (K0 its n j u) (r.set rv j) (by rw [Ub]; exact hz) s.toks
 by_cases h0 : 0 ≤ k
 ·have hk : k.toNat = j:=by
   rw [seqIndex_of h0 h4] at h1
   exact SD.inj h1
  exact PySem.W.ki_setAt ho h0 (by lia) (by rw [U8,← hl]; exact h4) (by rw [hk]; exact ⟨_,I',q⟩)
 ·have hk : (k + (its.toArray.size : Int)).toNat = j:=by
   rw [seqIndex_neg (by lia) h3] at h1
   rw [U8,← hl]
   exact SD.inj h1
  exact PySem.W.ki_setBack ho (by lia) (by rw [U8,← hl]; exact h3) (by lia) (by rw [hk]; exact ⟨_,I',q⟩)
theorem HV (lo hi : Option Int) (n : Nat) : (sliceBounds lo hi none n).1 = ((HT.sIx n 0 lo : Nat) : Int) ∧ (sliceBounds lo hi none n).2.1 = ((HT.sIx n n hi : Nat) : Int) ∧ (sliceBounds lo hi none n).2.2 = 1:=by
 have key : ∀ (i : Int) (d : Nat),max 0 (min (if i < 0 then i + (n : Int) else i) (n : Int)) = ((HT.sIx n d (some i) : Nat) : Int):=by
  intro i d
  rw [← HT.clip_eq]
  by_cases h : i < 0
  ·rw [if_pos h,if_pos h,Int.min_eq_left (by lia),Int.max_comm]
  ·rw [if_neg h,if_neg h,Int.max_eq_right (Int.le_min.mpr ⟨by lia,by lia⟩)]
 refine ⟨?_,?_,rfl⟩
 ·cases lo with
  | none=>simp [sliceBounds,HT.sIx]
  | some i=>exact key i 0
 ·cases hi with
  | none=>simp [sliceBounds,HT.sIx]
  | some i=>exact key i n
theorem GV (its : List Value) (lo hi : Option Int) : slicePick its.toArray lo hi none = ((its.drop (HT.sIx its.length 0 lo)).take (HT.sIx its.length its.length hi - HT.sIx its.length 0 lo)).toArray:=by
 obtain ⟨h1,h2,h3⟩:=HV lo hi its.toArray.size
 unfold slicePick
 rw [h1,h2,h3]
 simp only [sliceRange_one,pick_run,U8] <;> rfl
inductive Ou (K : SR) (x : V) (lo : Option Int) (hi : Option Int) (H : Hp) (Q : VK) : Prop
 | mk (a : _) (xs : _) (h1 : x = .ref a) (h2 : SqL K H a xs) (h3 : ∀ p,H p = none → Q (.ref p) (upd H p (.lst (Jy xs lo hi)))) : Ou K x lo hi H Q
theorem Nd : SlR X (Ou X.K):=by
 intro pins s σ H x v vl vu lo hi sl Q I rx hs pl pu h
 obtain ⟨a,xs,rfl,hx,q⟩:=h
 cases rx
 obtain ⟨its,r,ht,hz⟩:=I.list hx
 have hlen:=r.length
 refine ⟨"list",_,slot_list_getitem.lookup,ht.isList.typeIs,?_⟩
 refine wpAny_getItem_list_slice ht.isList hs pl pu .none (by simp) ?_ (by rw [U8] <;> lia)
 rw [GV,← hlen]
 refine ⟨.ref s.heap.objs.size,_,I.laid (t':=s.toks) (o:=.lst (Jy xs lo hi)) (fun b ob q=>Heap.get?_push_of_some _ q) (T9 _) ?_,rfl,q _ (I.hok.fresh (T9 _))⟩
 exact ⟨SU (Jx xs lo hi) hz,_,0,(r.drop (HT.sIx xs.length 0 lo)).take (HT.sIx xs.length xs.length hi - HT.sIx xs.length 0 lo),Heap.get?_push_size _ rfl⟩
def Fw : V → Bool
 | .non=>true
 | .bl _=>true
 | .int _=>true
 | .str _=>true
 | _=>false
def eqV : V → V → Bool
 | .non,.non=>true
 | .bl a,.bl b=>a == b
 | .bl a,.int b=>(if a then 1 else 0) == b
 | .int a,.bl b=>a == (if b then 1 else 0)
 | .int a,.int b=>a == b
 | .str a,.str b=>a == b
 | _,_=>false
theorem Pe {A : Around} {s : Shared} {y x : V} {u v : Value} (ry : AR y u) (rx : AR x v) (fy : Fw y = true) (fx : Fw x = true) : SeqAt.EqAt A s u v (eqV y x):=by
 cases y with
 | non =>
   cases ry
   cases x with
   | non=>cases rx; exact SeqAt.EqAt.same _
   | bl b=>cases rx; exact SeqAt.EqAt.none_bool b
   | int b=>obtain ⟨t,rfl⟩:=rx; exact SeqAt.EqAt.none_int b t
   | str b=>obtain ⟨t,rfl⟩:=rx; exact SeqAt.EqAt.none_str b t
   | _=>exact absurd (show false = true from fx) Bool.false_ne_true
 | bl a =>
   cases ry
   cases x with
   | non=>cases rx; exact SeqAt.EqAt.bool_none a
   | bl b=>cases rx; exact SeqAt.EqAt.bool_bool a b
   | int b=>obtain ⟨t,rfl⟩:=rx; exact SeqAt.EqAt.bool_int a b t
   | str b=>obtain ⟨t,rfl⟩:=rx; exact SeqAt.EqAt.bool_str a b t
   | _=>exact absurd (show false = true from fx) Bool.false_ne_true
 | int a =>
   obtain ⟨t',rfl⟩:=ry
   cases x with
   | non=>cases rx; exact SeqAt.EqAt.int_none a t'
   | bl b=>cases rx; exact SeqAt.EqAt.int_bool a t' b
   | int b=>obtain ⟨t,rfl⟩:=rx; exact SeqAt.EqAt.int_int a t' b t
   | str b=>obtain ⟨t,rfl⟩:=rx; exact SeqAt.EqAt.int_str a t' b t
   | _=>exact absurd (show false = true from fx) Bool.false_ne_true
 | str a =>
   obtain ⟨t',rfl⟩:=ry
   cases x with
   | non=>cases rx; exact SeqAt.EqAt.str_none a t'
   | bl b=>cases rx; exact SeqAt.EqAt.str_bool a t' b
   | int b=>obtain ⟨t,rfl⟩:=rx; exact SeqAt.EqAt.str_int a t' b t
   | str b=>obtain ⟨t,rfl⟩:=rx; exact SeqAt.EqAt.str_str a t' b t
   | _=>exact absurd (show false = true from fx) Bool.false_ne_true
 | _=>exact absurd (show false = true from fy) Bool.false_ne_true
def eqU (x : V) (u : Value) : Bool:=match u with
 | .none=>eqV .non x
 | .bool b=>eqV (.bl b) x
 | .int i _=>eqV (.int i) x
 | .str z _=>eqV (.str z) x
 | _=>false
theorem ML {x y : V} {u : Value} (r : AR y u) (f : Fw y = true) : eqU x u = eqV y x:=by
 cases y with
 | non=>cases r; rfl
 | bl b=>cases r; rfl
 | int i=>obtain ⟨t,rfl⟩:=r; rfl
 | str z=>obtain ⟨t,rfl⟩:=r; rfl
 | _=>exact absurd (show false = true from f) Bool.false_ne_true
theorem IH {x : V} : ∀ {xs : List V} {us : List Value},AN xs us → xs.all Fw = true → us.any (eqU x) = xs.any fun y=>eqV y x
 | _,_,.nil,_=>rfl
 | y :: xs,u :: us,.cons r t,f=>by
   rw [List.all_cons,Bool.and_eq_true] at f
   rw [Uc,Uc,ML r f.1,IH t f.2]
theorem Gu {A : Around} {s : Shared} {x : V} {v : Value} (rx : AR x v) (fx : Fw x = true) : ∀ {xs : List V} {us : List Value},AN xs us → xs.all Fw = true → ∀ u ∈ us,SeqAt.EqAt A s u v (eqU x u)
 | _,_,.nil,_=>fun u hu=>by cases hu
 | y :: xs,u :: us,.cons r t,f=>fun u' hu=>by
   rw [List.all_cons,Bool.and_eq_true] at f
   rcases T1.mp hu with rfl | hu
   ·rw [ML r f.1]; exact Pe r rx f.1 fx
   ·exact Gu rx fx t f.2 u' hu
def inV (x : V) (xs : List V) : Bool:=xs.any fun y=>eqV y x
inductive rIn (K : SR) (neg : Bool) (x : V) (y : V) (H : Hp) (Q : VK) : Prop
 | mk (p : _) (xs : _) (h1 : y = .ref p) (h2 : (SqL K H p xs ∨ SqT K H p xs)) (h3 : Fw x = true) (h4 : xs.all Fw = true) (h5 : Q (.bl (if neg then !inV x xs else inV x xs)) H) : rIn K neg x y H Q
theorem Ih : OpR X (compareOp .NotIn) (rIn X.K true):=by
 intro pins s σ H x y v u Q I rx ry h
 obtain ⟨p,xs,rfl,hq,fx,fs,q⟩:=h
 cases ry
 rcases hq with hq | hq
 ·obtain ⟨its,r,pl,hz⟩:=I.list hq
  refine SeqAt.notIn_listAt (eqU x) pl.isList (fun w hw=>Gu rx fx r fs w (by simpa using hw)) ⟨.bl _,H,I,rfl,?_⟩
  rw [show its.toArray.any (eqU x) = its.any (eqU x) by simp,IH r fs]
  exact q
 ·obtain ⟨its,r,pl,hz⟩:=I.tuple hq
  refine SeqAt.notIn_tupleAt (eqU x) pl (fun w hw=>Gu rx fx r fs w (by simpa using hw)) ⟨.bl _,H,I,rfl,?_⟩
  rw [show its.toArray.any (eqU x) = its.any (eqU x) by simp,IH r fs]
  exact q
theorem IA : C9 X (.builtin "len") (fun xs H Q=>∃ p ys,xs = [.ref p] ∧ (SqL X.K H p ys ∨ SqT X.K H p ys) ∧ Q (.int ys.length) H):=by
 intro pins s σ H xs us Q I r h
 obtain ⟨p,ys,rfl,hq,q⟩:=h
 obtain ⟨u,rfl,rx⟩:=Em r
 cases rx
 have hn:=Fc
 rcases hq with hq | hq
 ·obtain ⟨its,r',pl,hz⟩:=I.list hq
  have hlen:=r'.length
  exact Calls.call_len_list pl.isList (by simp only [U8] <;> lia) ⟨.int ys.length,H,I.tok _,⟨s.toks + 1,by rw [U8,hlen]⟩,q⟩
 ·obtain ⟨its,r',pl,hz⟩:=I.tuple hq
  have hlen:=r'.length
  exact len_tuple pl (by simp only [U8] <;> lia) ⟨.int ys.length,H,I.tok _,⟨s.toks + 1,by rw [U8,hlen]⟩,q⟩
theorem Hi : C9 X (.type "tuple") (fun xs H Q=>∃ p ys,xs = [.ref p] ∧ ((SqL X.K H p ys ∧ ∀ l,H l = none → Q (.ref l) (upd H l (.tup ys))) ∨ (SqT X.K H p ys ∧ Q (.ref p) H))):=by
 intro pins s σ H xs us Q I r h
 obtain ⟨p,ys,rfl,h⟩:=h
 obtain ⟨u,rfl,rx⟩:=Em r
 cases rx
 rcases h with ⟨hq,q⟩ | ⟨hq,q⟩
 ·obtain ⟨its,r',pl,hz⟩:=I.list hq
  have hlen:=r'.length
  refine call_tuple_list pl.isList (fun h' kp=>?_) (by simp only [U8] <;> lia)
  have I1 : Inv X pins σ H { s with heap:=h' }:=I.kept (t':=s.toks) kp
  have I2 : Inv X pins σ (upd H h'.objs.size (.tup ys)) { s with heap:=h'.push { cls:=.type "tuple",data:=.seq its.toArray } } :=
   I1.laid (t':=s.toks) (fun b o e=>Heap.get?_push_of_some _ e) (T9 _) (show BF X.prog X.w _ _ _ (.tup ys) from ⟨hz,its,r',IsTup.new _ _⟩)
  exact ⟨.ref h'.objs.size,_,I2,rfl,q _ (I1.hok.fresh (T9 _))⟩
 ·obtain ⟨its,r',pl,hz⟩:=I.tuple hq
  exact call_tuple_same pl ⟨.ref p,H,I,rfl,q⟩
def tyV (K : SR) (T : String) (x : V) (H : Hp) : Prop:=match x with
 | .str _=>T = "str"
 | .int _=>T = "int"
 | .ref p=>(T = "list" ∧ ∃ xs,SqL K H p xs) ∨ (T = "tuple" ∧ ∃ o,K.lookup p = some o ∧ o.cls = .type "tuple" ∧ o.dict = none) ∨
  (T = "dict" ∧ ((∃ kvs,H p = some (.dK kvs)) ∨ ∃ kvs,H p = some (.dT kvs))) ∨ (T = "set" ∧ ∃ S n,H p = some (.set S n))
 | _=>False
theorem Oh {pins : List (Addr × Obj)} {σ : St} {H : Hp} {s : Shared} {T : String} {x : V} {v : Value} (I : Inv X pins σ H s) (r : AR x v) (ty : tyV X.K T x H) :
 s.TypeIs v T ∧ ∀ a,v = .ref a → ∃ ob,s.heap.get? a = some ob ∧ ob.dict = none:=by
 cases x with
 | str z =>
   obtain ⟨t,rfl⟩:=r
   cases (show T = "str" from ty)
   exact ⟨typeIs_str s z t,fun _ e=>nomatch e⟩
 | int i =>
   obtain ⟨t,rfl⟩:=r
   cases (show T = "int" from ty)
   exact ⟨typeIs_int s i t,fun _ e=>nomatch e⟩
 | ref p =>
   cases r
   rcases ty with ⟨rfl,xs,hq⟩ | ⟨rfl,o,hk,hc,hd⟩ | ⟨rfl,hk⟩ | ⟨rfl,S,n,hk⟩
   ·obtain ⟨its,_,pl,_⟩:=I.list hq
    refine ⟨pl.isList.typeIs,fun a e=>?_⟩
    cases e
    obtain ⟨o,n,e,c,hd,_⟩:=pl
    exact ⟨o,e,hd⟩
   ·refine ⟨⟨o,I.kIn p o hk,hc⟩,fun a e=>?_⟩
    cases e
    exact ⟨o,I.kIn _ o hk,hd⟩
   ·have z : ∃ o,s.heap.get? p = some o ∧ o.ExactDict:=by
     rcases hk with ⟨kvs,hk⟩ | ⟨kvs,hk⟩
     ·obtain ⟨_,_,_,_,o,_,_,e,ex,_⟩:=I.hok p _ hk
      exact ⟨o,e,ex⟩
     ·obtain ⟨_,_,_,_,o,_,_,e,ex,_⟩:=I.hok p _ hk
      exact ⟨o,e,ex⟩
    obtain ⟨o,e,ex⟩:=z
    refine ⟨⟨o,e,ex.1⟩,fun a e2=>?_⟩
    cases e2
    exact ⟨o,e,ex.2.1⟩
   ·obtain ⟨o,_,_,_,e,ex,_⟩:=I.hok p _ hk
    refine ⟨⟨o,e,ex.1⟩,fun a e2=>?_⟩
    cases e2
    exact ⟨o,e,ex.2.1⟩
 | _=>exact False.elim ty
def tBM (K : SR) (T : String) (r : V → List V → Hp → VK → Prop) (to : TE) (t : TA) : TE:=fun σ H Q=>to σ H fun x H1=>tyV K T x H1 ∧ t σ H1 fun xs H2=>r x xs H2 Q
variable {o e : Expr} {es : List Expr} {to : TE} {t : TA} {name : Str} {apos cpos : Pos} {T id : String} {r : V → List V → Hp → VK → Prop}
theorem Qa (pa : PlainAttrs T) (slot : Slot T name id) (hty : typeOf (.builtin id) = pure (.type "method_descriptor")) (hm : MtR X id r) (ho : PE X o to) (ha : PA X (e :: es) t)
 (hbase : attributeBase o name X.env (eval o X.env) = eval o X.env:=by rfl)
 (hfew : ((backTo cpos (starEach (e :: es) X.env)).all (fun x=>!x.1) && (backToKw cpos (keywordEach [] X.env)).all (fun x=>x.1.isSome)
  && decide ((e :: es).length + ([] : List Keyword).length + (if ([] : List Keyword).isEmpty then 0 else 1) < 30)) = true:=by rfl)
 (hline : (apos.endLine == cpos.line) = true:=by rfl) (hs : starEach (e :: es) X.env = (false,eval e X.env) :: starEach es X.env:=by rfl) (hplain : (backTo cpos (starEach es X.env)).any (·.1) = false:=by rfl) {K : SR} (eK : X.K = K:=by rfl) :
 PE X (.Call (.Attribute o name apos) (e :: es) [] cpos) (tBM K T r to t):=by
 subst eK
 intro pins s σ H Q I h
 refine wpAny_Call_method_late hbase hfew hline rfl (thn (ho pins s σ H _ I h) fun v s1 ⟨x,H1,I1,r1,ty,q1⟩=>?_)
 obtain ⟨h1,h2⟩:=Oh I1 r1 ty
 refine ⟨T,id,pa,slot,hty,h1,h2,?_⟩
 have hA:=ha cpos pins s1 σ H1 _ I1 q1
 rw [hs] at hA ⊢
 refine Calls.callWith_builtin (by show (false || (backTo cpos (starEach es X.env)).any (·.1)) = false; rw [hplain] <;> rfl) (Calls.evalArgs_plain ?_)
 exact thn hA fun us s2 ⟨vs,H2,I2,r2,q2⟩=>hm pins s2 σ H2 x vs v us Q I2 r1 r2 q2
end
end L2
namespace L2
open PySem PySem.Spec PyProof.Rows
def MtM (X : Cx) (id : String) (r : V → List V → Hp → VK → Prop) : Prop :=
 ∀ (pins : List (Addr × Obj)) (s : Shared) (σ : St) (H : Hp) (x : V) (xs : List V) (v : Value) (us : List Value) (Q : VK),Inv X pins σ H s → AR x v → AN xs us → r x xs H Q →
   wpAny (model X.prog X.w) X.A (call (.builtin id) (v :: us)) (EP X pins σ Q) X.xe s
theorem AN.one {x : V} {us : List Value} (h : AN [x] us) : ∃ u,us = [u] ∧ AR x u:=by
 cases h with
 | cons r t=>cases t; exact ⟨_,rfl,r⟩
section
variable {X : Cx} {pins : List (Addr × Obj)} {σ : St} {H : Hp} {s : Shared} {l b : Addr} {xs ys zs : List V}
theorem Inv.lset {its its' : List Value} {n : Nat} {f : Array Value → Array Value} {t' : Nat} (I : Inv X pins σ H s) (hH : H l = some (.lst xs))
 (e : s.heap.get? l = some { cls:=.type "list",data:=.seq its.toArray n }) (hf : f its.toArray = its'.toArray) (hv : AN ys its') (hz : ys.length ≤ sizeLine) :
 Inv X pins σ (upd H l (.lst ys)) { s with heap:=s.heap.update l (Obj.mapSeq f),toks:=t' }:=by
 have q:=PySem.IsL.update e f
 rw [hf] at q
 refine I.write (x:=l) (e:=l) (by rw [hH]; exact trivial) (.inl rfl) (fun b' u hb hu=>(Heap.get?_update_other s.heap (Obj.mapSeq f) (Ne.symm hb)).trans hu) ⟨_,q⟩ ?_
 exact ⟨hz,its',_,hv,q⟩
theorem Inv.lnew {its : List Value} {t' : Nat} (I : Inv X pins σ H s) (hv : AN ys its) (hz : ys.length ≤ sizeLine) :
 Inv X pins σ (upd H s.heap.objs.size (.lst ys)) { s with heap:=s.heap.push { cls:=.type "list",data:=.seq its.toArray },toks:=t' } :=
 I.laid (fun _ _ q=>Heap.get?_push_of_some _ q) (T9 _) ⟨hz,its,0,hv,Heap.get?_push_size _ rfl⟩
theorem Inv.fresh (I : Inv X pins σ H s) : H s.heap.objs.size = none:=I.hok.fresh (T9 _)
theorem Inv.lstM (I : Inv X pins σ H s) (hH : H l = some (.lst xs)) : xs.length ≤ sizeLine ∧ ∃ (its : List Value) (n : Nat),AN xs its ∧ xs.length = its.length ∧ s.heap.get? l = some { cls:=.type "list",data:=.seq its.toArray n }:=by
 obtain ⟨z,its,n,r,e⟩:=I.hok l _ hH
 exact ⟨z,its,n,r,r.length,e⟩
end
section
variable {X : Cx}
inductive Km (x : V) (vs : List V) (H : Hp) (Q : VK) : Prop
 | mk (l : _) (xs : _) (y : _) (h1 : x = .ref l) (h2 : vs = [y]) (h3 : H l = some (.lst xs)) (h4 : xs.length < sizeLine) (h5 : Q .non (upd H l (.lst (xs ++ [y])))) : Km x vs H Q
theorem E2 : MtM X "list.append" Km:=by
 intro pins s σ H x vs v us Q I rx rv h
 obtain ⟨l,xs,y,rfl,rfl,hH,hz,q⟩:=h
 cases rx
 obtain ⟨u,rfl,ru⟩:=rv.one
 obtain ⟨z,its,n,r,hl,e⟩:=I.lstM hH
 refine call_meets F.slot_list_append ⟨_,e,rfl⟩ F.entry_list_append (F.args_list_append_2 _ _) (PySem.list_append l its.toArray n u (by rw [U8]; lia)) ⟨e,?_⟩
 refine ⟨.non,_,I.lset (its':=its ++ [u]) hH e (by simp) (r.append (.cons ru .nil)) ?_,rfl,q⟩
 rw [U4,Ud]
 lia
inductive Q7 (x : V) (y : V) (H : Hp) (Q : VK) : Prop
 | mk (l : _) (b : _) (xs : _) (zs : _) (h1 : x = .ref l) (h2 : y = .ref b) (h3 : H l = some (.lst xs)) (h4 : H b = some (.lst zs)) (h5 : xs.length + zs.length ≤ sizeLine) (h6 : ∀ p,H p = none → Q (.ref p) (upd H p (.lst (xs ++ zs)))) : Q7 x y H Q
theorem By : OpR X (binaryOp .Add) Q7:=by
 intro pins s σ H x y v u Q I rx ry h
 obtain ⟨l,b,xs,zs,rfl,rfl,hH,hB,hz,q⟩:=h
 cases rx
 cases ry
 obtain ⟨z,its,n,r,hl,e⟩:=I.lstM hH
 obtain ⟨z2,its2,n2,r2,hl2,e2⟩:=I.lstM hB
 refine PySem.P.add_list e e2 ?_ (by rw [U8,U8]; lia)
 have ea : its.toArray ++ its2.toArray = (its ++ its2).toArray:=by simp
 rw [ea]
 exact ⟨.ref _,_,I.lnew (t':=s.toks) (r.append r2) (by rw [U4]; lia),rfl,q _ I.fresh⟩
end
section
variable {prog : Program} {w : World} {A : Around} {E : Value → Shared → Prop} {s : Shared}
set_option maxRecDepth 100000 in
end
section
variable {X : Cx}
end
end L2
namespace Att
open PySem PySem.W PySem.Calls PyProof.Rows
theorem ints_of_wellAll {P : Params} {h : Heap} : ∀ (ns : List Int) (vs : List Value),WellAll P h vs (ns.map WData.int) → IntsAre vs ns:=by
 intro ns
 induction ns with
 | nil =>
   intro vs w
   rw [List.map_nil] at w
   cases w
   exact .nil
 | cons n ns ih =>
   intro vs w
   rw [Tu] at w
   cases w with
   | cons a b =>
     cases a
     exact .cons _ _ (ih _ b)
theorem script_of {l : OpenLaw} {n : Nat} (hn : l.most = some n) {P : Params} {h : Heap} {args : List WData} {vals : List Value}
 (hpre : l.row.toRowW.claim.pre args = true) (hwl : WellAll P h vals args) :
 ∃ a vs ns,vals = [Value.ref a] ∧ args = [WData.list (ns.map WData.int)] ∧ h.get? a = some { cls:=.type "list",data:=.seq vs.toArray } ∧ IntsAre vs ns ∧ ns.length ≤ n:=by
 have hsh : WShape.hasAll [] args [.list .int] = true:=(pre_splitW hpre).1
 have hc : l.pre.holds [] { args:=args } = true:=(pre_splitW hpre).2
 obtain ⟨d,r,rfl,h1,h2⟩:=hasAllW_cons hsh
 obtain rfl:=hasAllW_nil h2
 obtain ⟨xs,rfl,h3⟩:=hasW_list h1
 obtain ⟨ns,rfl⟩:=items_int h3
 have hlen : ns.length ≤ n:=by
  unfold OpenLaw.pre at hc
  have h4 : (WTm.not (.lt (.lit (.int (n : Int))) (.len (.arg 0)))).holds [] { args:=[.list (ns.map .int)] } = true:=by
   have h4:=(holds_andW hc).1
   rw [hn] at h4
   exact h4
  have h5:=condW_of h4 (w_not (w_lt w_lit (w_len_list (w_arg rfl))))
  rw [Tx] at h5
  refine Nat.le_of_not_lt fun q=>?_
  have q' : (n : Int) < ((ns.length : Nat) : Int):=by lia
  first
   | (rw [decide_eq_true q'] at h5; exact absurd h5 (by decide))
   | (simp at h5; lia)
 cases hwl with
 | cons w1 w2 =>
   cases w2
   cases w1 with
   | list ho hall=>exact ⟨_,_,ns,rfl,rfl,ho,ints_of_wellAll ns _ hall,hlen⟩
theorem post_true (l : OpenLaw) (args : List WData) : l.row.toRowW.claim.post args (.bool true) args = true :=
 postW_of (r:=l.row.toRowW) (X:=(true == true))
  (show WShape.has [] (.bool true) .bool = true by first | rfl | decide | simp [WShape.has,WShape.arms,WShape.armsAll])
  (show (WTm.eq .res (.lit (.bool true))).value [] { args:=args,res:=some (.bool true),after:=args } = some (.bool (true == true)) from w_eq_bool (w_res rfl) w_lit) rfl
theorem attach_call {l : OpenLaw} {n : Nat} {q : Program} {loose : List Str} {XP : (Str → Option Value) → Heap → Prop} {YP : World → Heap → Prop} {d : DefRec}
 (hn : l.most = some n) (hdf : d.params.defaults = [])
 (call : ∀ (w : World) (s₀ s₁ : Shared) (mg mb : Str → Option Value) (fa : Addr) (o : Obj) (pm cd doc : Value) (a : Addr) (vs : List Value) (ns : List Int),
  Ground q loose [] XP w s₀ mg mb s₁.heap → YP w s₁.heap →
  s₁.heap.get? fa = some o → o.data = .func (docDef d.name d.params d.body d.scope pm cd doc) → s₁.heap.CodeRec cd d.name → mg d.name = some (.ref fa) →
  s₁.heap.get? a = some { cls:=.type "list",data:=.seq vs.toArray } → IntsAre vs ns → ns.length ≤ n → s₁.gens = #[] →
  codeAny (model l.prog w) callerA (.call (.ref fa) ⟨[.ref a],[]⟩) (fun r s'=>r = .ok (.ret (.bool true)) ∧ OldK s₁.heap s'.heap ∧ s'.os = s₁.os ∧ AllBare s'.gens) s₁) :
 WalkO q loose XP YP l.row.toRowW d [] (fun f vs=>PySem.call f vs):=by
 intro w s₀ s₁ mg mb G Y fa o pm cd doc dV kV ho hd hcd hD hmg hg args vals as hpre hlay hrd hwl hlo
 obtain rfl : dV = .none:=Dflts.none hD hdf
 obtain rfl : kV = .none:=Dflts.noKw hD
 obtain ⟨a,vs,ns,rfl,rfl,hobj,hints,hlen⟩:=script_of hn hpre hwl
 refine enter_call (codeAny_mono (call w s₀ s₁ mg mb fa o pm cd doc a vs ns G Y ho (fd_plain hd) hcd hmg hobj hints hlen hg) fun r s' hq=>?_)
 obtain ⟨rfl,h2,h3,h4⟩:=hq
 exact ⟨.inl ⟨.bool true,.bool true,[],rfl,fun _=>rfl,.bool true,post_true l _,fun _=>⟨List.Pairwise.nil,fun _ hm=>(nomatch hm)⟩⟩,h2,h3,h4⟩
section
variable {prog : Program} {w : World} {A : Around} {E : Value → Shared → Prop} {s : Shared} {K : Frag}
end
end Att
namespace L2
open PySem PySem.Spec PyProof.Rows
theorem KR {vs : List Value} {ns : List Int} (h : IntsAre vs ns) : AN (ns.map V.int) vs:=by
 induction h with
 | nil=>exact .nil
 | cons n t h ih=>exact .cons ⟨t,rfl⟩ ih
def Pm (H : Hp) : Prop:=∀ b,H b = none ∨ ∃ o xs,H b = some (.frz o (.lst xs))
theorem MA {P : Program} {w : World} {K : SR} {mg mb : Str → Option Value} {CX : CXT} {k : Nat} {fa a : Addr} {fd : FuncData} {x : Str} {sp : Sp} {s₁ : Shared} {vs : List Value} {ns : List Int}
 (KX : K.In s₁.heap) (hns : s₁.heap.Ns mainGlobals mg) (hb : s₁.heap.Ns builtinsNs mb) (hbb : ∀ x : Str,x ≠ "__name__" → mb x = bootBuiltins x) (hlim : s₁.heap.NoLimit) (hsee : s₁.heap.NoSeer) (hg : s₁.gens = #[])
 (ha : s₁.heap.get? a = some { cls:=.type "list",data:=.seq vs.toArray }) (hi : IntsAre vs ns) (hl : ns.length ≤ sizeLine) (hr : BA k callerA)
 (F : ∀ base : Heap,K.In base → base.Ns mainGlobals mg → AI P w K mg base CX k fa fd [x] sp) (hbind : ∀ (s : Shared) (u : Value),BindsTo s fd ⟨[u],[]⟩ [(x,u)])
 (hsp : ∀ H : Hp,Pm H → SqL K H a (ns.map V.int) → sp [.ref a] H (fun v _=>v = .bl true) fun _ _ _=>False)
 (hCX : ∀ H e s',CX [] H s₁ (fun _ _ _=>False) e s' → False) :
 codeAny (model P w) callerA (.call (.ref fa) ⟨[.ref a],[]⟩) (fun r s'=>r = .ok (.ret (.bool true)) ∧ OldK s₁.heap s'.heap ∧ s'.os = s₁.os ∧ AllBare s'.gens) s₁:=by
 have rv:=KR hi
 have lenV:=hi.length
 -- from an abstract heap in which nothing but the script may be tracked
 have core : ∀ H : Hp,Pm H → SqL K H a (ns.map V.int) → HOk P w H s₁.heap → (∀ b,H b ≠ none → b = a) → (H a ≠ none → K.lookup a = none) →
  codeAny (model P w) callerA (.call (.ref fa) ⟨[.ref a],[]⟩) (fun r s'=>r = .ok (.ret (.bool true)) ∧ OldK s₁.heap s'.heap ∧ s'.os = s₁.os ∧ AllBare s'.gens) s₁:=by
  intro H hO hS hok hA hK
  have base_of : ∀ {b : Addr} {o : Obj},s₁.heap.get? b = some o → H b = none → (Hg s₁.heap H).get? b = some o:=fun e n=>MG e n
  have noA : ∀ {b : Addr} {o : Obj} {es : Array DictEntry} {ep : Nat},s₁.heap.get? b = some o → o.data = .dict es ep → H b = none:=fun {b o es ep} e d=>by
   cases q : H b with
   | none=>rfl
   | some u =>
     have e' : b = a:=hA b (by rw [q]; simp)
     subst e'
     rw [ha] at e; cases e
     have d' : Data.seq vs.toArray _ = Data.dict es ep:=d
     cases d'
  have nsK : ∀ {b : Addr} {m : Str → Option Value},s₁.heap.Ns b m → (Hg s₁.heap H).Ns b m:=fun {b m} ⟨o,es,ep,e,d,r⟩=>⟨o,es,ep,base_of e (noA e d),d,r⟩
  have hKb : K.In (Hg s₁.heap H):=fun b o e=>base_of (KX b o e) (by
   cases q : H b with
   | none=>rfl
   | some u =>
     have e' : b = a:=hA b (by rw [q]; simp)
     subst e'
     rw [hK (by rw [q]; simp)] at e; cases e)
  have seerK : (Hg s₁.heap H).NoSeer:=⟨let ⟨mc,x,y⟩:=hsee.statics; ⟨mc,nsK x,y⟩,let ⟨mm,x,y⟩:=hsee.mods; ⟨mm,nsK x,y⟩,let ⟨mi,x,y⟩:=hsee.imp; ⟨mi,nsK x,y⟩,by
   obtain ⟨mg',bm,ob,x,y,z,u,v⟩:=hsee.main
   refine ⟨mg',bm,ob,nsK x,y,base_of z ?_,u,v⟩
   cases q : H bm with
   | none=>rfl
   | some o =>
     have e' : bm = a:=hA bm (by rw [q]; simp)
     subst e'
     rw [ha] at z
     cases z
     have u' : Value.type "list" = Value.type "module":=u
     exact absurd u' (by decide)⟩
  have hM : Mod K mg (Hg s₁.heap H):=⟨hKb,nsK hns,⟨mb,nsK hb,hbb⟩,let ⟨mc,h1,h2⟩:=hlim; ⟨mc,nsK h1,h2⟩,seerK⟩
  have e0 : IK P w K mg (Hg s₁.heap H) callerA [] s₁ H:=⟨rfl,hM,fun b o e=>Nu e,Nat.le_of_eq (Ls _ _),trivial,fun b hb=>absurd (show b ∈ ([] : List Addr) from hb) (by simp),hok,.of_eq hg⟩
  refine codeAny_mono ((F _ hKb (nsK hns)).run callerA [] s₁ H ⟨[.ref a],[]⟩ [.ref a] [.ref a] _ _ hr e0 (hbind s₁ (.ref a)) (.cons rfl .nil) (hsp H hO hS)) fun r s' h=>?_
  cases r with
  | error e=>exact (hCX H e s' h).elim
  | ok fl =>
    cases fl with
    | next=>exact False.elim h
    | brk=>exact False.elim h
    | cont=>exact False.elim h
    | ret u =>
      obtain ⟨v,H',os,bare,un,hok',r',q⟩:=h
      have q' : v = .bl true:=q
      subst q'
      obtain rfl : u = Value.bool true:=r'
      refine ⟨rfl,OldK.of_keep fun b o e=>?_,os,bare⟩
      cases q : H b with
      | none=>exact un.keep b o e q (by intro z; exact absurd (show b ∈ ([] : List Addr) from z) (by simp)) (by simp)
      | some u =>
        rcases hO b with z | ⟨ob,xs,z⟩
        ·rw [q] at z; cases z
        ·have z2:=un.frzs b ob _ z
         obtain ⟨e1,_⟩:=hok b _ z
         obtain ⟨e2,_⟩:=hok' b _ z2
         rw [e] at e1; cases e1
         exact e2
 cases hk : K.lookup a with
 | some o =>
   -- the script is one of the module's own objects
   have e:=KX a o hk
   rw [ha] at e
   cases e
   refine core (fun _=>none) (fun _=>.inl rfl) (.inr ⟨_,vs.toArray,_,hk,rfl,rfl,rfl,by rw [U8,lenV]; exact hl,by simpa using rv⟩) (fun b u z=>by have z' : (none : Option HO) = some u:=z; cases z') (fun b z=>absurd rfl z) fun z=>absurd rfl z
 | none =>
   refine core (fun b=>if b = a then some (.frz { cls:=.type "list",data:=.seq vs.toArray } (.lst (ns.map V.int))) else none) (fun b=>?_) (.inl (.inr ⟨{ cls:=.type "list",data:=.seq vs.toArray },if_pos rfl⟩)) (fun b u z=>?_) (fun b z=>?_) fun _=>hk
   ·by_cases hb : b = a
    ·exact .inr ⟨_,_,if_pos hb⟩
    ·exact .inl (if_neg hb)
   ·by_cases hb : b = a
    ·have z':=(if_pos hb).symm.trans z
     cases z'
     subst hb
     exact ⟨ha,by rw [Tx]; exact hl,vs,_,rv,ha⟩
    ·have z':=(if_neg hb).symm.trans z
     cases z'
   ·by_cases hb : b = a
    ·exact hb
    ·exact absurd (if_neg hb) z
end L2
namespace L2
open PySem PySem.Spec PyProof.Rows
theorem N3 {l : Ue} {n k : Nat} {q : Program} {loose : List Str} {XP : (Str → Option Value) → Heap → Prop} {YP : World → Heap → Prop} {d : DefRec} {K : Params → SR} {CX : World → CXT} {sp : World → Sp} {x : Str}
 (hI : importsNone q = true) (hn : l.most = some n) (hn2 : n ≤ sizeLine) (hdf : d.params.defaults = []) (hr : BA k callerA)
 (hY : ∀ (w : World) (h : Heap),YP w h → (K w.params).In h)
 (F : ∀ (w : World) (mg : Str → Option Value) (fa : Addr) (h : Heap),(K w.params).In h → h.Ns mainGlobals mg → mg d.name = some (.ref fa) →
  ∃ fd : FuncData,(∀ (s : Shared) (u : Value),BindsTo s fd ⟨[u],[]⟩ [(x,u)]) ∧
    ∀ base : Heap,(K w.params).In base → base.Ns mainGlobals mg → AI l.prog w (K w.params) mg base (CX w) k fa fd [x] (sp w))
 (hsp : ∀ (w : World) (H : Hp) (a : Addr) (ns : List Int),ns.length ≤ n → Pm H → SqL (K w.params) H a (ns.map V.int) → sp w [.ref a] H (fun v _=>v = .bl true) fun _ _ _=>False)
 (hCX : ∀ (w : World) (H : Hp) (s : Shared) (e : Value) (s' : Shared),CX w [] H s (fun _ _ _=>False) e s' → False) :
 PySem.W.WalkO q loose XP YP l.row.toRowW d [] (fun f vs=>PySem.call f vs):=by
 refine Att.attach_call hn hdf fun w s₀ s₁ mg mb fa o pm cd doc a vs ns G Y ho hd hcd hmg hobj hints hlen hg=>?_
 have KX:=hY w _ Y
 obtain ⟨fd,hb,hF⟩:=F w mg fa _ KX G.T.g hmg
 exact MA KX G.T.g G.T.b G.T.builtins G.T.nolimit (G.T.seer hI) hg hobj hints (SU hlen hn2) hr hF hb (fun H hO hS=>hsp w H a ns hlen hO hS) fun H e s'=>hCX w H s₁ e s'
end L2
namespace L2
open PySem PySem.Spec PyProof.Rows
def BI (s : Stmt) (j : Nat) : Stmt:=match s with
 | .ClassDef _ _ _ body _ _ _ _ _ _ _=>body.getD j (.Pass ⟨0,0,0,0⟩)
 | _=>.Pass ⟨0,0,0,0⟩
def Ay (s : Stmt) : Arguments:=match s with
 | .FunctionDef _ a _ _ _ _ _ _ _ _=>a
 | _=>{ posonlyargs:=[],args:=[],vararg:=none,kwonlyargs:=[],kw_defaults:=[],kwarg:=none,defaults:=[] }
def Au (s : Stmt) : List Stmt:=match s with
 | .FunctionDef _ _ b _ _ _ _ _ _ _=>b
 | _=>[]
def Af (s : Stmt) : Scope:=match s with
 | .FunctionDef _ _ _ _ _ _ sc _ _ _=>sc
 | _=>{ kind:=.function,names:=[],isGenerator:=false,isCoroutine:=false }
abbrev CX0 : CXT:=fun _ _ _ _ _ _=>False
abbrev E0 : XK:=fun _ _ _=>False
theorem Hw {X : Cx} : CL CX0 X E0:=fun _ _ _ _ _ _ _ h=>h.elim
structure Fun (K : SR) (x qual : Str) (st : Stmt) (f : Addr) (fd : FuncData) : Prop where
 ex : ∃ (oc : Value) (od : Option Addr) (kV doc pm : Value) (an : Option Addr) (cdv ct : Value) (osl : Array (Option Value)),
  fd = U6 x qual (Ay st) (Au st) (Af st) .none kV doc pm an cdv ct ∧ K.lookup f = some ⟨oc,od,.func fd,osl⟩ ∧ U7 K cdv qual = true
 kp : Tw K (.ref f) = true
section
variable {P : Program} {w : World} {K : SR} {mg : Str → Option Value} {base : Heap}
theorem Fun.ok {x qual : Str} {st : Stmt} {f : Addr} {fd : FuncData} {N ps : List Str} {k : Nat} {sp : Sp} (F : Fun K x qual st f fd) (S : AA N ps (Af st)) (len : ∀ vs H Q E,sp vs H Q E → vs.length = ps.length)
 (hbody : ∀ (cdv : Value) (A : Around) (outer : List Env) (s : Shared) (H : Hp) (vs : List V) (Q : VK) (E : XK),BA k (A.deeper (envOfC qual (Af st) s.heap.objs.size f cdv)) → sp vs H Q E →
  ∃ t,PSs (Dx CX0 P w K mg base N qual (Af st) f cdv A outer s H E).nox (Au st) t ∧ t { nx:=fun _ H'=>Q .non H',rt:=Q } (Du N vs) H) : AI P w K mg base CX0 (k + 1) f fd ps sp:=by
 obtain ⟨oc,od,kV,doc,pm,an,cdv,ct,osl,rfl,lk,hcd⟩:=F.ex
 refine Oc lk hcd S len fun A outer s H vs Q E hr hsp=>?_
 obtain ⟨t,h,q⟩:=hbody cdv A outer s H vs Q E hr hsp
 exact ⟨t,h.nox,q⟩
theorem Fun.binds {x qual : Str} {st : Stmt} {f : Addr} {fd : FuncData} {ps : List Str} (F : Fun K x qual st f fd)
 (h : ∀ (kV doc pm : Value) (an : Option Addr) (cdv ct : Value) (us : List Value),us.length = ps.length → bindArgs (U6 x qual (Ay st) (Au st) (Af st) .none kV doc pm an cdv ct) ⟨us,[]⟩ = pure (ps.zip us)) : BW K fd ps []:=by
 obtain ⟨oc,od,kV,doc,pm,an,cdv,ct,osl,rfl,lk,hcd⟩:=F.ex
 exact .all (h kV doc pm an cdv ct)
theorem AM {x qual : Str} {st : Stmt} {f : Addr} {oc : Value} {od an : Option Addr} {osl : Array (Option Value)} {kV doc pm cdv ct : Value} (l : K.lookup f = some ⟨oc,od,.func (U6 x qual (Ay st) (Au st) (Af st) .none kV doc pm an cdv ct),osl⟩)
 (c : U7 K cdv qual = true) (k : Tw K (.ref f) = true) : Fun K x qual st f (U6 x qual (Ay st) (Au st) (Af st) .none kV doc pm an cdv ct):=⟨⟨oc,od,kV,doc,pm,an,cdv,ct,osl,rfl,l,c⟩,k⟩
end
theorem BG {n : Nat} (h : n ≤ 1000) : n < sizeLine:=Ug h (by decide)
section
variable {X : Cx}
theorem pv (i : Nat) {x : Str} {pos : Pos} (hN : X.N[i]? = some x:=by rfl) (hv : Vis X.env.scope x:=by first | exact Or.inl rfl | exact Or.inr (Or.inl rfl) | exact Or.inr (Or.inr rfl)) (hd : (x == ("__debug__" : Str)) = false:=by decide)
 (hcd : (x == ("__classdict__" : Str)) = false:=by decide) : PE X (.Name x pos) (HM i):=Mh hN hv hd hcd
end
theorem Bk {A B : Prop} (h : B) : if false = true then A else B:=by
 rw [if_neg Bool.false_ne_true]
 exact h
theorem C5 {A B : Prop} (h : A) : if true = true then A else B:=by
 rw [if_pos rfl]
 exact h
theorem K6 {c A B : Prop} [Decidable c] (h1 : c → A) (h2 : ¬ c → B) : if c then A else B:=by
 by_cases h : c
 ·rw [if_pos h]
  exact h1 h
 ·rw [if_neg h]
  exact h2 h
def Ae (H H' : Hp) : Prop:=∀ b o,H b = some o → H' b = some o
theorem Ae.refl (H : Hp) : Ae H H:=fun _ _ h=>h
theorem Ae.trans {H H1 H2 : Hp} (a : Ae H H1) (b : Ae H1 H2) : Ae H H2:=fun c o h=>b c o (a c o h)
theorem Ae.free {H H' : Hp} (e : Ae H H') {l : Addr} (h : H' l = Option.none) : H l = Option.none:=by
 cases q : H l with
 | none=>rfl
 | some o =>
   rw [e l o q] at h
   cases h
theorem Ae.seq {K : SR} {H H' : Hp} {a : Addr} {xs : List V} (e : Ae H H') (h : SqL K H a xs) : SqL K H' a xs:=by
 rcases h with (h | ⟨o,h⟩) | h
 ·exact .inl (.inl (e _ _ h))
 ·exact .inl (.inr ⟨o,e _ _ h⟩)
 ·exact .inr h
end L2
namespace L2
open PySem PySem.Spec PyProof.Rows
section
variable {κ : Type} [DecidableEq κ]
def CN (kvs : List (κ × V)) (k : κ) : Option V:=(kvs.find? fun kv=>decide (kv.1 = k)).map (·.2)
theorem IM {p : κ × V} {r : List (κ × V)} {k : κ} (e : p.1 = k) : CN (p :: r) k = some p.2:=by simp [CN,Uh,e]
theorem IP {p : κ × V} {r : List (κ × V)} {k : κ} (e : ¬ p.1 = k) : CN (p :: r) k = CN r k:=by simp [CN,Uh,e]
theorem E7.isSome_eq {o : Option V} {u : Option Value} (r : E7 o u) : o.isSome = u.isSome:=by
 cases o with
 | none=>cases u with
   | none=>rfl
   | some _=>exact (show False from r).elim
 | some _=>cases u with
   | none=>exact (show False from r).elim
   | some _=>rfl
theorem E7.getD {o : Option V} {u : Option Value} {d : V} {d' : Value} (r : E7 o u) (rd : AR d d') : AR (o.getD d) (u.getD d'):=by
 cases o with
 | none=>cases u with
   | none=>exact rd
   | some _=>exact (show False from r).elim
 | some _=>cases u with
   | none=>exact (show False from r).elim
   | some _=>exact r
theorem KV.val {kvs : List (κ × V)} {vs : List (κ × Value)} (r : KV kvs vs) (k : κ) : E7 (CN kvs k) (valueAt vs k):=by
 unfold KV at r
 induction r with
 | nil=>exact True.intro
 | @cons p q ps qs h t ih =>
   obtain ⟨h1,h2⟩:=h
   by_cases e : p.1 = k
   ·have e' : q.1 = k:=h1.symm.trans e
    have b : valueAt (q :: qs) k = some q.2:=by simp [valueAt,Uh,e']
    rw [IM e,b]; exact h2
   ·have e' : ¬ q.1 = k:=fun z=>e (h1.trans z)
    have b : valueAt (q :: qs) k = valueAt qs k:=by simp [valueAt,Uh,e']
    rw [IP e,b]; exact ih
end
theorem Jl {P : Program} {w : World} {k : Key} {u : Value} (r : AR (kV k) u) : (BO P w).is k u = true:=by
 cases k with
 | inl i=>obtain ⟨t,e⟩:=(show ∃ t,u = Value.int i t from r); subst e; exact Jg P w i t
 | inr x=>obtain ⟨t,e⟩:=(show ∃ t,u = Value.str x t from r); subst e; exact Jf P w x t
theorem HB {P : Program} {w : World} : ∀ {ks : List Key} {us : List Value},AN (ks.map kV) us → ItemsAre (BO P w) ks us
 | [],_,r=>by rw [List.map_nil] at r; cases r; exact .nil
 | k :: ks,_,r=>by
   rw [Tu] at r
   cases r with
   | cons h t=>exact .cons (Jl h) (HB t)
section
variable {P : Program} {w : World} {H : Hp} {h : Heap} {a : Addr}
end
section
variable {X : Cx} {pins : List (Addr × Obj)} {σ : St} {H : Hp} {s : Shared} {a : Addr} {y v : V} {u r : Value} {o : Option V} {A : Around} {E : Value → Shared → Prop}
end
section
variable {X : Cx} {pins : List (Addr × Obj)} {σ : St} {H : Hp} {s : Shared} {a : Addr} {kvs : List (Key × V)} {k : Key} {u : Value} {A : Around} {E : Value → Shared → Prop}
end
def Qr (i : Expr) : Prop:=∀ ov iv,subscripted i false ov iv = operate [ov,iv] (getItem ov iv)
theorem Na {prog : Program} {w : World} {A : Around} {E : Value → Shared → Prop} {s : Shared} {env : Env} {value slice : Expr} {pos : Pos} {T id : String} {Q : Value → Shared → Prop}
 (hl : typeLookup (.type T) "__getitem__" = pure (some (.builtin id))) (hs : Qr slice)
 (h : wpAny (model prog w) A (eval value env) (fun o s₁=>wpAny (model prog w) A (eval slice env) (fun i s₂=>s₂.TypeIs o T ∧ wpAny (model prog w) A (getItem o i) Q E s₂) E s₁) E s) :
 wpAny (model prog w) A (eval (.Subscript value slice pos) env) Q E s:=by
 refine Subscript_ (wpAny_mono h (fun o s₁ h₁=>wpAny_mono h₁ (fun i s₂ h₂=>?_) fun _ _ x=>x) fun _ _ x=>x)
 obtain ⟨hT,h₂⟩:=h₂
 unfold subscriptTail
 refine wpAny_bind ?_
 rw [getitemInPython_of_ne hT.not_modules]
 refine wpAny_bind (wpAny_specialOf hT hl ?_)
 have fin : wpAny (model prog w) A (subscripted slice false o i) (fun r s₃=>wpAny (model prog w) A (letTemporaryGo value o r >>= fun _=>pure r) Q E s₃) E s₂:=by
  rw [hs o i]
  exact wpAny_operating (wpAny_mono h₂ (fun r s₃ h₃=>wpAny_bind (wpAny_letTemporaryGo (wpAny_pure h₃))) fun _ _ x=>x)
 first
  | exact wpAny_pure (wpAny_bind fin)
  | exact wpAny_bind (wpAny_pure (wpAny_bind fin))
  | exact wpAny_bind fin
section
variable {X : Cx} {o i e value : Expr} {pos pos' tpos : Pos} {td ty tv : TE}
end
section
variable {X : Cx} {pos : Pos}
end
structure M1 (X : Cx) (o : Expr) (m : Str) (apos : Pos) (e : Expr) (cpos : Pos) : Prop where
 base : attributeBase o m X.env (eval o X.env) = eval o X.env
 few : ((backTo cpos (starEach [e] X.env)).all (fun x=>!x.1) && (backToKw cpos (keywordEach [] X.env)).all (fun x=>x.1.isSome)
  && decide (([e] : List Expr).length + ([] : List Keyword).length + (if ([] : List Keyword).isEmpty then 0 else 1) < 30)) = true
 line : (apos.endLine == cpos.line) = true
 trees : backTo cpos (starEach [e] X.env) = [(false,eval e X.env)]
structure M2 (X : Cx) (o : Expr) (m : Str) (apos : Pos) (e f : Expr) (cpos : Pos) : Prop where
 base : attributeBase o m X.env (eval o X.env) = eval o X.env
 few : ((backTo cpos (starEach [e,f] X.env)).all (fun x=>!x.1) && (backToKw cpos (keywordEach [] X.env)).all (fun x=>x.1.isSome)
  && decide (([e,f] : List Expr).length + ([] : List Keyword).length + (if ([] : List Keyword).isEmpty then 0 else 1) < 30)) = true
 line : (apos.endLine == cpos.line) = true
 trees : backTo cpos (starEach [e,f] X.env) = [(false,eval e X.env),(false,eval f X.env)]
section
variable {X : Cx} {pins : List (Addr × Obj)} {σ : St} {H : Hp} {s : Shared} {a : Addr} {y d : V} {u r : Value} {o : Option V} {A : Around} {E : Value → Shared → Prop}
end
section
variable {X : Cx} {o e f : Expr} {apos cpos : Pos} {td ty tx : TE}
end
section
variable {X : Cx} {pins : List (Addr × Obj)} {σ : St} {H : Hp} {s : Shared} {a : Addr} {kvs : List (Key × V)} {A : Around} {E : Value → Shared → Prop}
end
section
variable {X : Cx} {pins : List (Addr × Obj)} {σ : St} {H : Hp} {s : Shared} {a : Addr} {y : V} {u : Value} {A : Around} {E : Value → Shared → Prop}
end
end L2
namespace Nm
def msr (a b : Int) : Int:=if b < 0 then -(Ui a b : Int) else (Ui a b : Int)
theorem gcd_pos {a b : Int} (hb : b ≠ 0) : 0 < Ui a b:=Nat.pos_of_ne_zero fun h=>hb (Int.gcd_eq_zero_iff.mp h).2
theorem msr_ne {a b : Int} (hb : b ≠ 0) : msr a b ≠ 0:=by
 have:=gcd_pos (a:=a) hb
 unfold msr; split <;> lia
theorem fdiv_neg_dvd {a g : Int} (h : g ∣ a) : a.fdiv (-g) = -(a / g):=by
 obtain ⟨k,rfl⟩:=h
 by_cases hg : g = 0
 ·subst hg; simp
 ·rw [Int.mul_ediv_cancel_left _ hg,show g * k = -g * -k by rw [Int.neg_mul_neg],Int.mul_fdiv_cancel_left _ (by lia)]
theorem fdiv_dvd {a g : Int} (h : g ∣ a) : a.fdiv g = a / g:=by
 obtain ⟨k,rfl⟩:=h
 by_cases hg : g = 0
 ·subst hg; simp
 ·rw [Int.mul_ediv_cancel_left _ hg,Int.mul_fdiv_cancel_left _ hg]
theorem top_msr {a b : Int} (hb : b ≠ 0) : a.fdiv (msr a b) = (Uj a b).num:=by
 rw [Rat.num_divInt,Int.gcd_comm b a]
 have d : (Ui a b : Int) ∣ a:=Int.gcd_dvd_left ..
 unfold msr
 split
 ·rename_i h
  rw [fdiv_neg_dvd d,Int.sign_eq_neg_one_of_neg h,Int.neg_mul,Int.one_mul,Int.neg_ediv_of_dvd d]
 ·rw [fdiv_dvd d,Int.sign_eq_one_of_pos (by lia),Int.one_mul]
theorem bottom_msr {a b : Int} (hb : b ≠ 0) : b.fdiv (msr a b) = (Uj a b).den:=by
 rw [Rat.den_divInt,if_neg hb,Int.gcd_comm b a]
 have d : (Ui a b : Int) ∣ b:=Int.gcd_dvd_right ..
 rw [Int.natCast_ediv]
 unfold msr
 split
 ·rename_i h
  rw [fdiv_neg_dvd d,← Int.neg_ediv_of_dvd d,Int.ofNat_natAbs_of_nonpos (by lia)]
 ·rw [fdiv_dvd d,Int.natAbs_of_nonneg (by lia)]
theorem gcd_turn (x y : Int) : Ui y (x % y) = Ui x y:=by
 have e : x % y + y * (x / y) = x:=Int.emod_add_mul_ediv x y
 have h : Ui (x % y + y * (x / y)) y = Ui (x % y) y:=Int.gcd_add_mul_left_left ..
 rw [e] at h
 rw [h,Int.gcd_comm]
theorem abs_if (i : Int) : (if i < 0 then -i else i) = (i.natAbs : Int):=by split <;> lia
theorem num_mul (q : Rat) : ((q.num : Int) : Rat) = q * ((q.den : Int) : Rat):=by
 have hd : ((q.den : Nat) : Int) ≠ 0:=by have:=q.den_pos; lia
 have h1 : q = (q.num : Rat) / ((q.den : Int) : Rat):=by
  have:=Rat.num_divInt_den q
  rw [Rat.divInt_eq_div] at this
  exact this.symm
 have h0 : (((q.den : Int)) : Rat) ≠ 0:=fun z=>hd (by exact_mod_cast z)
 conv=>rhs; lhs; rw [h1]
 rw [Rat.div_mul_cancel h0]
theorem den_ne (q : Rat) : ((q.den : Nat) : Int) ≠ 0:=by have:=q.den_pos; lia
theorem cast_ne {a : Int} (h : a ≠ 0) : (a : Rat) ≠ 0:=fun z=>h (by exact_mod_cast z)
theorem div_eq {t b : Int} {q : Rat} (hb : b ≠ 0) (h : (t : Rat) = q * (b : Rat)) : Uj t b = q:=by
 rw [Rat.divInt_eq_div,h,Rat.mul_div_cancel (cast_ne hb)]
theorem plus_eq (p q : Rat) : Uj (p.num * q.den + q.num * p.den) (p.den * q.den) = p + q :=
 div_eq (Int.mul_ne_zero (den_ne p) (den_ne q)) (by rw [Rat.intCast_add,Rat.intCast_mul,Rat.intCast_mul,Rat.intCast_mul,num_mul p,num_mul q]; grind)
end Nm
namespace Cv
def ev : List Rat → Rat → Rat
 | [],_=>0
 | q :: r,x=>q + x * ev r x
end Cv
namespace L2
open PySem PySem.Spec PyProof.Rows
theorem Ej {env : Env} : ∀ (names : List (Str × NameKind)) (acc : List (Str × Addr)),(∀ x ∈ names,x.2 = .free → ∃ c,env.cells.lookup x.1 = some c) →
 ∃ cl : List (Str × Addr),(forIn (m:=Sem) names acc fun x r=>do
  if x.2 == .free then pure (ForInStep.yield ((x.1,← cellOf env x.1) :: r)) else pure (ForInStep.yield r)) = pure cl ∧
  (∀ p ∈ cl,p ∈ acc ∨ env.cells.lookup p.1 = some p.2) ∧ (∀ p ∈ acc,p ∈ cl) ∧ ∀ x ∈ names,x.2 = .free → ∃ c,(x.1,c) ∈ cl
 | [],acc,_=>⟨acc,rfl,fun _ h=>.inl h,fun _ h=>h,fun _ h=>nomatch h⟩
 | x :: r,acc,h=>by
   by_cases hk : x.2 = .free
   ·obtain ⟨c,hc⟩:=h x SX hk
    obtain ⟨cl,e,h1,h2,h3⟩:=Ej r ((x.1,c) :: acc) fun y hy=>h y (SY _ hy)
    refine ⟨cl,?_,fun p hp=>?_,fun p hp=>h2 p (SY _ hp),fun y hy hf=>?_⟩
    ·rw [Uk]
     have z : (x.2 == NameKind.free) = true:=by rw [hk]; rfl
     have cell : cellOf env x.1 = pure c:=by unfold cellOf; rw [hc]
     simp only [z,if_true,cell]
     exact e
    ·rcases h1 p hp with q | q
     ·rcases T1.mp q with rfl | q
      ·exact .inr hc
      ·exact .inl q
     ·exact .inr q
    ·rcases T1.mp hy with rfl | hy
     ·exact ⟨c,h2 _ SX⟩
     ·exact h3 y hy hf
   ·obtain ⟨cl,e,h1,h2,h3⟩:=Ej r acc fun y hy=>h y (SY _ hy)
    refine ⟨cl,?_,h1,h2,fun y hy hf=>?_⟩
    ·rw [Uk]
     have z : (x.2 == NameKind.free) = false:=by
      cases e : x.2 <;> first | rfl | exact absurd e hk
     simp only [z,Bool.false_eq_true,if_false]
     exact e
    ·rcases T1.mp hy with rfl | hy
     ·exact absurd hf hk
     ·exact h3 y hy hf
theorem Ec {x : Str} {c : Addr} : ∀ {cl : List (Str × Addr)},(x,c) ∈ cl → ∃ c',cl.lookup x = some c'
 | [],h=>nomatch h
 | (y,d) :: r,h=>by
   by_cases e : x = y
   ·subst e; exact ⟨d,by simp⟩
   ·rcases T1.mp h with q | q
    ·cases q; exact absurd rfl e
    ·obtain ⟨c',q'⟩:=Ec q
     refine ⟨c',?_⟩
     have : (x == y) = false:=by simpa using e
     rw [Ul,this]
     exact q'
theorem CY {scope : Scope} {env : Env} (h : ∀ x ∈ scope.names,x.2 = .free → ∃ c,env.cells.lookup x.1 = some c) :
 ∃ cl : List (Str × Addr),closureFor scope env = pure cl ∧ (∀ x c,cl.lookup x = some c → env.cells.lookup x = some c) ∧ ∀ x ∈ scope.names,x.2 = .free → ∃ c,cl.lookup x.1 = some c:=by
 obtain ⟨cl,e,h1,_,h3⟩:=Ej scope.names [] h
 refine ⟨cl,?_,fun x c q=>?_,fun x hx hf=>?_⟩
 ·unfold closureFor
  simp only [bind_pure]
  exact e
 ·rcases h1 _ (PySem.mem_of_lookup q) with z | z
  ·exact nomatch z
  ·exact z
 ·obtain ⟨c,hc⟩:=h3 x hx hf
  exact Ec hc
theorem Cp {env : Env} : ∀ {names : List (Str × NameKind)} {x : Str},names.lookup x = some .free →
 (names.map fun (n,k)=>if (k == NameKind.free && env.scope.kind == .function && env.kindOf n == some .cell) then (n,NameKind.cell) else (n,k)).lookup x = some .cell ∨
 (names.map fun (n,k)=>if (k == NameKind.free && env.scope.kind == .function && env.kindOf n == some .cell) then (n,NameKind.cell) else (n,k)).lookup x = some .free
 | [],_,h=>by simp at h
 | (n,k) :: r,x,h=>by
   have ih:=@Cp env r x
   show Tt x ((if (k == NameKind.free && env.scope.kind == .function && env.kindOf n == some .cell) = true then (n,NameKind.cell) else (n,k)) :: _) = _ ∨ Tt x ((if (k == NameKind.free && env.scope.kind == .function && env.kindOf n == some .cell) = true then (n,NameKind.cell) else (n,k)) :: _) = _
   cases hx : x == n with
   | true =>
     simp only [Ul,hx] at h
     cases h
     by_cases hc : (NameKind.free == NameKind.free && env.scope.kind == .function && env.kindOf n == some .cell) = true
     ·rw [if_pos hc]; simp [Ul,hx]
     ·rw [if_neg hc]; simp [Ul,hx]
   | false =>
     simp only [Ul,hx] at h
     by_cases hc : (k == NameKind.free && env.scope.kind == .function && env.kindOf n == some .cell) = true
     ·rw [if_pos hc]; simp only [Ul,hx]; exact ih h
     ·rw [if_neg hc]; simp only [Ul,hx]; exact ih h
theorem Et {env : Env} {x : Str} : ∀ {names : List (Str × NameKind)},(∀ y ∈ names,y.2 ≠ .cell) →
 ((names.map fun (n,k)=>if (k == NameKind.free && env.scope.kind == .function && env.kindOf n == some .cell) then (n,NameKind.cell) else (n,k)).lookup x = some .cell ∨
  (names.map fun (n,k)=>if (k == NameKind.free && env.scope.kind == .function && env.kindOf n == some .cell) then (n,NameKind.cell) else (n,k)).lookup x = some .free) → (x,NameKind.free) ∈ names
 | [],_,h=>by simp at h
 | (n,k) :: r,hc,h=>by
   have ih:=@Et env x r fun y hy=>hc y (SY _ hy)
   have hk : k ≠ .cell:=hc (n,k) SX
   change Tt x ((if (k == NameKind.free && env.scope.kind == .function && env.kindOf n == some .cell) = true then (n,NameKind.cell) else (n,k)) :: _) = _ ∨ Tt x ((if (k == NameKind.free && env.scope.kind == .function && env.kindOf n == some .cell) = true then (n,NameKind.cell) else (n,k)) :: _) = _ at h
   cases hx : x == n with
   | true =>
     have e : x = n:=by simpa using hx
     subst e
     by_cases hq : (k == NameKind.free && env.scope.kind == .function && env.kindOf x == some .cell) = true
     ·have : k = .free:=by
       cases k <;> first | rfl | (simp at hq)
      subst this; exact SX
     ·rw [if_neg hq] at h
      simp only [Ul,hx] at h
      rcases h with h | h
      ·cases h; exact absurd rfl hk
      ·cases h; exact SX
   | false =>
     refine SY _ (ih ?_)
     by_cases hq : (k == NameKind.free && env.scope.kind == .function && env.kindOf n == some .cell) = true
     ·rw [if_pos hq] at h; simpa only [Ul,hx] using h
     ·rw [if_neg hq] at h; simpa only [Ul,hx] using h
def AO (X : Cx) (N : List Str) (scope : Scope) (cl : List (Str × Addr)) (C : Addr) (s : Shared) (H : Hp) (fp : List Addr) : Cx :=
 { prog:=X.prog,w:=X.w,K:=X.K,mg:=X.mg,base:=X.base,A:=X.A,N:=N,s₀:=s,H₀:=H,env:=compEnvC scope cl C X.env,outer:=X.stack,stack:=X.stack,ex:=fp,
   fn:=fun _=>false,calm:=X.calm,pn:=[],xe:=fun _ _=>False }
def cS (nt : Nat) (js : List Nat) (σ : St) : St:=TR nt none ++ js.map fun i=>σ.getD i none
abbrev Cy (ys : List Value) : Obj:={ cls:=.type "list",data:=.seq ys.toArray ys.length }
theorem EI {prog : Program} {w : World} {A : Around} {R : Result → Shared → Prop} {s : Shared} {elt target iter : Expr} {ifs : List Expr} {scope : Scope} {pos : Pos} {it acc : Value} {env : Env} (I : Nat → Shared → Prop)
 (turn : ∀ n s,I n s → wpAny (model prog w) A (pyNext it) (fun r s₁=>match r with
  | none=>R (.ok .next) s₁
  | some v=>wpAny (model prog w) A (letOwnedTupleGo target it v) (fun _ s₁'=>wpAny (model prog w) A (assign target env v) (fun _ s₂ =>
   wpAny (model prog w) A (forIn ifs true fun c r=>if r = true then do let ok ← isTrue c env (eval c env); pure (ForInStep.yield ok) else pure (ForInStep.yield r)) (fun ok s₃ =>
    if ok = true then wpAny (model prog w) A (eval elt env) (fun x s₄ =>
     wpAny (model prog w) A (call (.builtin "list.append") [acc,x]) (fun _ s₅=>∃ m,m < n ∧ I m s₅) (fun _ _=>False) s₄) (fun _ _=>False) s₃
    else ∃ m,m < n ∧ I m s₃) (fun _ _=>False) s₂) (fun _ _=>False) s₁') (fun _ _=>False) s₁) (fun _ _=>False) s)
 (n : Nat) (h : I n s) :
 codeAny (model prog w) A (.compLoop (.ListComp elt [⟨target,iter,ifs,0⟩] scope pos) 0 it acc env) R s:=by
 refine codeAny_loop rfl I (fun n s hI=>?_) n h
 show wpAny _ A ((compTurn (.ListComp elt [⟨target,iter,ifs,0⟩] scope pos) 0 it acc env).onRaise (fun x=>do noteFrame x env; theTreesLotGoes x)) _ _ s
 refine wpAny_noted ?_
 rw [compTurn_list]
 refine wpAny_bind (wpAny_standAt (wpAny_bind (wpAny_mono (turn n s hI) (fun r s₁ h₁=>?_) fun _ _ h'=>h'.elim)))
 cases r with
 | none=>exact wpAny_pure h₁
 | some v =>
   refine wpAny_bind (wpAny_mono h₁ (fun _ s₁' h₁'=>?_) fun _ _ h'=>h'.elim)
   refine wpAny_bind (wpAny_mono h₁' (fun _ s₂ h₂=>wpAny_bind (wpAny_mono h₂ (fun ok s₃ h₃=>?_) fun _ _ h'=>h'.elim)) fun _ _ h'=>h'.elim)
   cases ok with
   | false=>exact wpAny_pure ⟨rfl,h₃⟩
   | true =>
     exact wpAny_bind (wpAny_bind (wpAny_mono h₃ (fun x s₄ h₄=>wpAny_bind (wpAny_mono h₄ (fun _ s₅ h₅=>wpAny_pure (wpAny_pure ⟨rfl,h₅⟩)) fun _ _ h'=>h'.elim)) fun _ _ h'=>h'.elim))
def PTs (X : Cx) (ifs : List Expr) (t : TT) : Prop :=
 ∀ (pins : List (Addr × Obj)) (s : Shared) (σ : St) (H : Hp) (Q : Bool → Hp → Prop),Inv X pins σ H s → t σ H Q →
   wpAny (model X.prog X.w) X.A (forIn ifs true fun c r=>if r = true then do let ok ← isTrue c X.env (eval c X.env); pure (ForInStep.yield ok) else pure (ForInStep.yield r)) (TP X pins σ Q) X.xe s
def KW : TT:=fun _ H Q=>Q true H
theorem Bt {X : Cx} : PTs X [] KW:=fun _ _ _ H _ I h=>wpAny_tests_nil ⟨H,I,h⟩
theorem Ng {X : Cx} {c : Expr} {t : TT} (h : PT X c t) : PTs X [c] t:=fun pins s σ H Q I q=>wpAny_tests_one (h pins s σ H Q I q)
structure LcW (J : It) (n nt : Nat) (js : List Nat) (σ : St) (g : TG) (tc : TT) (te : TE) (Fin : List V → Hp → Prop) (W : Nat → List V → Hp → Prop) : Prop where
 go : ∀ i zs H,i < n → W i zs H → J.go i H ∧ zs.length < sizeLine
 step : ∀ i zs H x H',i < n → W i zs H → J.yld i H x H' → g x (cS nt js σ) H' fun σ2 H2=>tc σ2 H2 fun b H3=>if b = true then te σ2 H3 fun y H4=>W (i + 1) (zs ++ [y]) H4 else W (i + 1) zs H3
 stop : ∀ zs H,W n zs H → J.stop n H ∧ zs.length ≤ sizeLine ∧ Fin zs H
@[irreducible] def tLC (wi : TI) (nt : Nat) (js : List Nat) (g : TG) (tc : TT) (te : TE) : TE:=fun σ H Q=>wi σ H fun J H1 =>
 ∃ (n : Nat) (W : Nat → List V → Hp → Prop),W 0 [] H1 ∧ LcW J n nt js σ g tc te (fun zs H'=>∀ p,H' p = none → Q (.ref p) (upd H' p (.lst zs))) W
theorem Cq {wi : TI} {nt : Nat} {js : List Nat} {g : TG} {tc : TT} {te : TE} {σ : St} {H : Hp} {Q : VK}
 (h : wi σ H fun J H1=>∃ (n : Nat) (W : Nat → List V → Hp → Prop),W 0 [] H1 ∧ LcW J n nt js σ g tc te (fun zs H'=>∀ p,H' p = none → Q (.ref p) (upd H' p (.lst zs))) W) : tLC wi nt js g tc te σ H Q:=by
 unfold tLC; exact h
theorem Mz {wi : TI} {nt : Nat} {js : List Nat} {g : TG} {tc : TT} {te : TE} {σ : St} {H : Hp} {Q : VK} (h : tLC wi nt js g tc te σ H Q) :
 wi σ H fun J H1=>∃ (n : Nat) (W : Nat → List V → Hp → Prop),W 0 [] H1 ∧ LcW J n nt js σ g tc te (fun zs H'=>∀ p,H' p = none → Q (.ref p) (upd H' p (.lst zs))) W:=by
 unfold tLC at h; exact h
structure Be (X : Cx) (N : List Str) (nt : Nat) (js : List Nat) (scope : Scope) : Prop where
 kind : scope.kind = .function
 nocell : ∀ y ∈ scope.names,y.2 ≠ .cell
 names : ∀ y ∈ scope.names,y.2 = .local → scope.names.lookup y.1 = some .local
 free : ∀ y ∈ scope.names,y.2 = .free → X.env.kindOf y.1 = some .cell ∨ X.env.kindOf y.1 = some .free
 len : N.length = nt + js.length
 outer : ∀ j i,js[j]? = some i → ∃ x,N[nt + j]? = some x ∧ X.N[i]? = some x ∧ scope.names.lookup x = some .free
def Iy (NX : List Str) (sc : Scope) (N : List Str) (nt : Nat) (js : List Nat) (scope : Scope) : Bool :=
 decide (scope.kind = .function) && scope.names.all (fun y=>decide (y.2 ≠ .cell)) && scope.names.all (fun y=>decide (y.2 ≠ .local) || decide (scope.names.lookup y.1 = some .local)) &&
 scope.names.all (fun y=>decide (y.2 ≠ .free) || (decide (sc.names.lookup y.1 = some .cell) || decide (sc.names.lookup y.1 = some .free))) && decide (N.length = nt + js.length) &&
 (SK js.length).all fun j=>match js[j]?,N[nt + j]? with
  | some i,some x=>decide (NX[i]? = some x) && decide (scope.names.lookup x = some .free)
  | _,_=>false
theorem Be.look {X : Cx} {NX N : List Str} {sc scope : Scope} {nt : Nat} {js : List Nat} (hN : X.N = NX) (hs : X.env.scope = sc) (h : Iy NX sc N nt js scope = true) : Be X N nt js scope:=by
 unfold Iy at h
 simp only [Bool.and_eq_true,Um,Bool.or_eq_true,decide_eq_true_eq] at h
 obtain ⟨⟨⟨⟨⟨h1,h2⟩,h3⟩,h4⟩,h5⟩,h6⟩:=h
 refine ⟨h1,h2,fun y hy hl=>(h3 y hy).resolve_left fun z=>z hl,fun y hy hf=>?_,h5,fun j i e=>?_⟩
 ·have q:=(h4 y hy).resolve_left fun z=>z hf
  rw [← hs] at q
  exact q
 ·have hj : j < js.length:=(T4.mp e).1
  have q:=h6 j (SQ.mpr hj)
  rw [e] at q
  cases en : N[nt + j]? with
  | none=>rw [en] at q; cases q
  | some x =>
    rw [en] at q
    simp only [Bool.and_eq_true,decide_eq_true_eq] at q
    exact ⟨x,rfl,by rw [hN]; exact q.1,q.2⟩
section
variable {X : Cx} {N : List Str} {nt : Nat} {js : List Nat} {scope : Scope} {cl : List (Str × Addr)}
theorem HOk.track {P : Program} {w : World} {H : Hp} {h : Heap} {a : Addr} {o : HO} (x : HOk P w H h) (hn : H a = none) (new : BF P w (upd H a o) h a o) : HOk P w (upd H a o) h:=fun b u e=>by
 by_cases hb : b = a
 ·subst hb; rw [Ab] at e; cases e; exact new
 ·rw [As hb] at e
  exact (x b u e).stay (fun c v _ q=>q) (fun c q=>by rw [As (Aq q hn)]; exact q) fun c xs q=>by rw [As (Aq q hn)]; exact q
theorem Jo {pins : List (Addr × Obj)} {σ : St} {H : Hp} {s : Shared} {C D : Addr} {h' : Heap} {tk : Nat} {fp : List Addr} {m : Str → Option Value} (I : Inv X pins σ H s) (ok : Be X N nt js scope)
 (hcl : ∀ x c,cl.lookup x = some c → X.env.cells.lookup x = some c) (hcl2 : ∀ x ∈ scope.names,x.2 = .free → ∃ c,cl.lookup x.1 = some c)
 (hf : ∀ b ∈ fp,DS X pins H b) (ho : ∀ b ∈ fp,∃ o,s.heap.get? b = some o ∧ ∀ v,o.data ≠ .cell v)
 (hD : s.heap.objs.size ≤ D) (hC : s.heap.objs.size ≤ C) (hDC : D ≠ C) (k : ∀ b o,s.heap.get? b = some o → h'.get? b = some o) (hn : h'.Ns C m) (hd : h'.get? D = some (Cy [])) :
 Inv (AO X N scope cl C s H fp) [(D,Cy [])] (cS nt js σ) H { s with heap:=h',toks:=tk }:=by
 have lt : ∀ b ∈ fp,b < s.heap.objs.size:=fun b hb=>by obtain ⟨o,e,_⟩:=ho b hb; exact Heap.lt_size e
 have frlt : ∀ b ∈ frs X.stack,b < s.heap.objs.size:=fun b hb=>by
  obtain ⟨_,o,e,_⟩:=I.stack.mem hb
  exact Heap.lt_size e
 refine ⟨⟨I.ok.mod,ok.kind,I.ok.glob,I.ok.blt,hC,fun x y c h1 h2=>I.ok.inj x y c (hcl x c h1) (hcl y c h2),fun x hx=>?_,fun x c hx=>absurd hx Bool.false_ne_true,I.ok.hd,I.ok.frames,.inl rfl,fun b hb=>⟨?_,fun x c e=>(hf b hb).2.2.2.2.1 x c (hcl x c e)⟩,I.bs,
  SU I.ok.bsz I.sz,fun b o e hb=>?_,fun b hb hs=>?_,I.stack,I.stkFree⟩,rfl,I.bare,Un.kept k,⟨m,hn,fun j x v h1 h2 h3=>?_⟩,fun x c e=>?_,I.hok.fresh hC,fun x c e=>I.freeC x c (hcl x c e),fun p hp=>?_,I.hok.kept k,?_⟩
 ·obtain ⟨c,hc⟩:=hcl2 (x,.free) (Et ok.nocell hx) rfl
  exact ⟨c,hc⟩
 ·exact SJ (SH (lt b hb) hC)
 ·rcases (hf b hb).2.2.2.1 with z | z
  ·exact I.ok.noex b o e z
  ·exact absurd (SH (Heap.lt_size e) (SU I.ok.bsz z)) (SI _)
 ·rcases T1.mp (I.stkSub b hs) with z | z
  ·exact (hf b hb).2.1 z
  ·exact (hf b hb).2.2.1 z
 ·change N[j]? = some x at h1
  unfold cS at h2
  by_cases hj : j < nt
  ·rw [U0 (by simpa using hj),TZ] at h2
   rw [if_pos hj] at h2; cases h2
  ·rw [TY (by simpa using Uo.mp hj),U5,U1] at h2
   cases ei : js[j - nt]? with
   | none=>rw [ei] at h2; cases h2
   | some i =>
     rw [ei] at h2
     obtain ⟨y,e1,e2,e3⟩:=ok.outer _ i ei
     rw [show nt + (j - nt) = j by lia,h1] at e1
     cases e1
     have hv : σ[i]? = some (some v):=by
      simp only [Option.map_some,SD.injEq] at h2
      rw [Uq] at h2
      cases eσ : σ[i]? with
      | none=>rw [eσ] at h2; cases h2
      | some z=>rw [eσ] at h2; simp at h2; rw [h2]
     obtain ⟨m₀,_,hl⟩:=I.loc
     have kf:=ok.free (x,.free) (PySem.mem_of_lookup e3) rfl
     obtain ⟨u,r,l⟩:=hl i x v e2 hv (kf.elim (fun z=>.inr (.inl z)) fun z=>.inr (.inr z))
     refine ⟨u,r,.inr ⟨Cp e3,?_⟩⟩
     rcases l with ⟨kl,_⟩ | ⟨_,c,ec,⟨oc,hoc,hod⟩⟩
     ·rcases kf with z | z <;> (rw [z] at kl; cases kl)
     ·obtain ⟨c',hc'⟩:=hcl2 (x,.free) (PySem.mem_of_lookup e3) rfl
      have e':=hcl x c' hc'
      rw [ec] at e'
      cases e'
      exact ⟨c,hc',oc,k _ _ hoc,hod⟩
 ·obtain ⟨v,oc,hoc,hod⟩:=I.cell x c (hcl x c e)
  exact ⟨v,oc,k _ _ hoc,hod⟩
 ·have e : p = (D,Cy []):=by
   have hp' : p ∈ [(D,Cy [])]:=hp
   simpa using hp'
  subst e
  refine ⟨hd,I.hok.fresh hD,hDC,fun hb=>absurd (SH (frlt D hb) hD) (SI _),fun v z=>by cases z⟩
 ·show (cS nt js σ).length = N.length
  unfold cS
  rw [U4,U5,Tx,ok.len]
end
end L2
namespace L2
open PySem PySem.Spec PyProof.Rows
def GQ (g : TG) (nt : Nat) : Prop:=∀ x σ H Q,g x σ H Q → g x σ H fun σ2 H2=>(σ2.length = σ.length ∧ σ2.drop nt = σ.drop nt) ∧ Q σ2 H2
theorem AS {i nt : Nat} (h : i < nt) : GQ (C8 i) nt:=fun x σ H Q q=>⟨⟨Ub,by
 apply List.ext_getElem?
 intro k
 rw [Ur,Ur,T6 (by lia)]⟩,q⟩
section
variable {X : Cx} {N : List Str} {nt : Nat} {js : List Nat} {scope : Scope} {elt iter tg : Expr} {ifs : List Expr} {pos : Pos} {g : TG} {tc : TT} {te : TE} {wi : TI}
theorem FP {σ σ2 : St} (hl : σ2.length = (cS nt js σ).length) (hd : σ2.drop nt = (cS nt js σ).drop nt) : ∀ (i : Nat) v,(cS nt js σ)[i]? = some (some v) → σ2[i]? = some (some v):=fun i v e=>by
 by_cases hi : i < nt
 ·unfold cS at e
  rw [U0 (by simpa using hi),TZ,if_pos hi] at e
  cases e
 ·have q : ((cS nt js σ).drop nt)[i - nt]? = some (some v):=by rw [Ur,show nt + (i - nt) = i by lia]; exact e
  rw [← hd,Ur,show nt + (i - nt) = i by lia] at q
  exact q
set_option maxHeartbeats 4000000 in
theorem Jz {pins : List (Addr × Obj)} {σ : St} {H : Hp} {s₂ : Shared} {cl : List (Str × Addr)} {J : It} {fp : List Addr} {it : Addr} {tn : Nat → Heap → Prop} {E : Value → Shared → Prop} {Fin : List V → Hp → Prop} {W : Nat → List V → Hp → Prop} {nn : Nat}
 {RR : Value → Addr → Result → Shared → Prop} (hcalm : X.calm = true) (ok : Be X N nt js scope)
 (hcl : ∀ x c,cl.lookup x = some c → X.env.cells.lookup x = some c) (hcl2 : ∀ x ∈ scope.names,x.2 = .free → ∃ c,cl.lookup x.1 = some c)
 (hg : ∀ cl C s H fp,PG (AO X N scope cl C s H fp) tg g) (hk : GQ g nt) (hc : ∀ cl C s H fp,PTs (AO X N scope cl C s H fp) ifs tc) (he : ∀ cl C s H fp,PE (AO X N scope cl C s H fp) elt te)
 (I : Inv X pins σ H s₂) (T : JG X.prog X.w X.K tg J fp it tn) (st : tn 0 s₂.heap) (hf : ∀ b ∈ fp,DS X pins H b) (w0 : W 0 [] H) (lw : LcW J nn nt js σ g tc te Fin W)
 (hRR : ∀ D C s' H' zs m,Inv X pins σ (upd H' D (.lst zs)) s' → s'.heap.Ns C m → H' D = none → (upd H' D (.lst zs)) C = none → C ≠ X.env.locals → X.s₀.heap.objs.size ≤ C → (∀ x c,X.env.cells.lookup x = some c → c ≠ C) →
  (∀ p ∈ X.pn ++ pins,p.1 ≠ C) → Fin zs H' → RR (.ref D) C (.ok .next) s') :
 wpAny (model X.prog X.w) X.A (newList []) (fun acc s₃=>wpAny (model X.prog X.w) X.A (newFunctionEnv scope X.env.globals cl [] X.env.qual none .none (some X.env)) (fun cenv s₄ =>
  codeAny (model X.prog X.w) X.A (.compStart (.ListComp elt [⟨tg,iter,ifs,0⟩] scope pos) 0 (.ref it) acc { cenv with scope:=relabel scope X.env }) (RR acc cenv.locals) s₄) E s₃) E s₂:=by
 refine wpAny_newObj_type (wpAny_newFunctionEnv ok.nocell (by intro y hy; simp at hy) (fun h₁ hns₁ hsb₁=>?_) ok.kind)
 dsimp only at hns₁ hsb₁ ⊢
 generalize hH2 : s₂.heap.push { cls:=.type "list",dict:=none,data:=.seq ([] : List Value).toArray } = H2 at hns₁ hsb₁ ⊢
 have hC : H2.objs.size = s₂.heap.objs.size + 1:=by rw [← hH2,Heap.size_push]
 have hDC : s₂.heap.objs.size ≠ H2.objs.size:=by rw [hC]; exact SJ (Tz _)
 have hCle : s₂.heap.objs.size ≤ H2.objs.size:=by rw [hC]; exact TM _
 have below : ∀ b,b < s₂.heap.objs.size → b ≠ H2.objs.size ∧ b ≠ s₂.heap.objs.size:=fun b hb=>⟨by rw [hC]; exact SJ (Us hb),SJ hb⟩
 have old : ∀ b o,s₂.heap.get? b = some o → h₁.get? b = some o:=fun b o e=>hsb₁.extBut b o (below b (Heap.lt_size e)).1 (Heap.get?_push_of_some _ (hH2 ▸ Heap.get?_push_of_some _ e))
 have hacc : h₁.get? s₂.heap.objs.size = some (Cy []):=hsb₁.extBut _ _ hDC (Heap.get?_push_of_some _ (hH2 ▸ Heap.get?_push_size _ rfl))
 have ho:=T.obj 0 _ st
 have lt : ∀ b ∈ fp,b < s₂.heap.objs.size:=fun b hb=>by obtain ⟨o,e,_⟩:=ho b hb; exact Heap.lt_size e
 have loop : ∀ s₃ : Shared,s₃ = { s₂ with heap:=h₁,toks:=s₂.toks + ([] : List (Str × Value)).length } →
  codeAny (model X.prog X.w) X.A (.compLoop (.ListComp elt [⟨tg,iter,ifs,0⟩] scope pos) 0 (.ref it) (.ref s₂.heap.objs.size) (compEnvC scope cl H2.objs.size X.env)) (RR (.ref s₂.heap.objs.size) H2.objs.size) s₃:=by
  rintro s₃ rfl
  have I0 : Inv (AO X N scope cl H2.objs.size s₂ H fp) [(s₂.heap.objs.size,Cy [])] (cS nt js σ) H { s₂ with heap:=h₁,toks:=s₂.toks + ([] : List (Str × Value)).length } :=
   Jo I ok hcl hcl2 hf ho (T9 _) hCle hDC old hns₁ hacc
  have fpy : ∀ {H' : Hp} {ys : List Value},(∀ b ∈ fp,H' b = none) → ∀ b ∈ fp,DS (AO X N scope cl H2.objs.size s₂ H fp) [(s₂.heap.objs.size,Cy ys)] H' b:=fun {H' ys} hn b hb =>
   ⟨hn b hb,(below b (lt b hb)).1,I0.ok.exfs b hb,.inl hb,(I0.ok.exf b hb).2,fun p hp=>by
    have hp' : p ∈ [(s₂.heap.objs.size,Cy ys)]:=hp
    have e : p = (s₂.heap.objs.size,Cy ys):=by simpa using hp'
    rw [e]; exact Ne.symm (below b (lt b hb)).2⟩
  refine EI (fun n s'=>∃ i zs ys H',n = nn - i ∧ i ≤ nn ∧ Inv (AO X N scope cl H2.objs.size s₂ H fp) [(s₂.heap.objs.size,Cy ys)] (cS nt js σ) H' s' ∧ AN zs ys ∧ tn i s'.heap ∧ (∀ b ∈ fp,H' b = none) ∧ W i zs H') ?_ nn
   ⟨0,[],[],H,rfl,Tc _,I0,.nil,T.keep 0 _ _ st (fun b _ o e=>old b o e),fun b hb=>(hf b hb).1,w0⟩
  rintro n s' ⟨i,zs,ys,H',hn0,hile,I',rv,st',fr',w'⟩
  by_cases hlt : i < nn
  case neg =>
   have hie : i = nn:=Nat.le_antisymm hile (Uo.mp hlt)
   rw [hie] at w' st'
   obtain ⟨stop,zl,fin⟩:=lw.stop zs H' w'
   refine thn (T.done (AO X N scope cl H2.objs.size s₂ H fp) rfl rfl rfl hcalm nn _ s' _ H' (fun _ _=>False) I' (fpy fr') st' stop) fun r s4 ⟨hr,I4⟩=>?_
   subst hr
   have zD:=(I4.pin (s₂.heap.objs.size,Cy ys) (Tb _ (Ut.mpr rfl)))
   have u:=I4.base
   have u2 : Un (frs X.stack) fp H (upd H' s₂.heap.objs.size (.lst zs)) s₂.heap s4.heap :=
    ⟨u.keep,u.slot,fun b o q n hx=>by rw [As (SJ (Heap.lt_size q))]; exact u.free b o q n hx,u.there,fun b xs q=>by rw [As (Aq (u.tups b xs q) zD.2.1)]; exact u.tups b xs q,
     fun b o xs q=>by rw [As (Aq (u.frzs b o xs q) zD.2.1)]; exact u.frzs b o xs q,fun b ps q=>by
      obtain ⟨more,e⟩:=u.tbls b ps q
      exact ⟨more,by rw [As (Aq e zD.2.1)]; exact e⟩⟩
   have hok2 : HOk X.prog X.w (upd H' s₂.heap.objs.size (.lst zs)) s4.heap:=HOk.track I4.hok zD.2.1 ⟨zl,ys,_,rv,zD.1⟩
   have I5 : Inv X pins σ (upd H' s₂.heap.objs.size (.lst zs)) s4:=I.call' I4.os u2 hok2 I4.bare fun b hb=>⟨(hf b hb).2.2.2.1,(hf b hb).2.1,(hf b hb).2.2.2.2.1,(hf b hb).2.2.2.2.2⟩
   obtain ⟨m,hn,_⟩:=I4.loc
   refine hRR _ _ s4 H' zs m I5 hn zD.2.1 ?_ ?_ (SU I.sz hCle) ?_ ?_ fin
   ·rw [As (Ne.symm hDC)]; exact I4.free
   ·exact T8 (SH I.lt hCle)
   ·intro x c e z
    obtain ⟨v,q⟩:=I.cell x c e
    exact absurd (SH q.lt (by rw [z]; exact hCle)) (SI _)
   ·intro p hp z
    exact absurd (SH (Heap.lt_size (I.pin p hp).1) (by rw [z]; exact hCle)) (SI _)
  case pos =>
   obtain ⟨go,zl⟩:=lw.go i zs H' hlt w'
   have step:=lw.step i zs H'
   refine thn (T.item (AO X N scope cl H2.objs.size s₂ H fp) rfl rfl rfl hcalm i _ s' _ H' (fun _ _=>False) I' (fpy fr') st' go) fun r s4 ⟨u,hr,h4⟩=>?_
   subst hr
   refine thn h4 fun _ s5 ⟨x,H5,I5,r5,y5,st5,fr5⟩=>?_
   have I5':=I5.pinned (fpy fr5) (T.obj _ _ st5)
   refine thn (hg cl _ s₂ H fp _ s5 _ H5 x u _ I5' r5 (hk _ _ _ _ (step x H5 hlt w' y5))) fun _ s6 ⟨σ6,H6,I6,⟨hl6,hd6⟩,q6⟩=>?_
   refine thn (hc cl _ s₂ H fp _ s6 σ6 H6 _ I6 q6) fun okb s7 ⟨H7,I7,q7⟩=>?_
   have frs' : ∀ {H8 : Hp} {σ8 : St} {s8 : Shared},Inv (AO X N scope cl H2.objs.size s₂ H fp) ([(s₂.heap.objs.size,Cy ys)] ++ EX fp s5.heap) σ8 H8 s8 → tn (i + 1) s8.heap ∧ ∀ b ∈ fp,H8 b = none:=fun {H8 σ8 s8} I8 =>
    ⟨T.keep _ _ _ st5 fun b hb o e=>(I8.pin (b,o) (Tb _ (Tb _ (Cb hb e)))).1,fun b hb=>by
     obtain ⟨o,e,d⟩:=T.obj _ _ st5 b hb
     exact (I8.pin (b,o) (Tb _ (Tb _ (Cb hb e)))).2.1⟩
   cases okb with
   | false =>
     rw [if_neg Bool.false_ne_true] at q7 ⊢
     obtain ⟨a1,a2⟩:=frs' I7
     exact ⟨nn - (i + 1),by rw [hn0]; exact Uu hlt (Tz i),i + 1,zs,ys,H7,rfl,hlt,I7.unpinned.weak (by rw [hl6]) (FP hl6 hd6),rv,a1,a2,q7⟩
   | true =>
     rw [if_pos rfl] at q7 ⊢
     refine thn (he cl _ s₂ H fp _ s7 σ6 H7 _ I7 q7) fun v s8 ⟨y,H8,I8,r8,q8⟩=>?_
     have zD:=(I8.pin (s₂.heap.objs.size,Cy ys) (Tb _ (T3 _ (Ut.mpr rfl))))
     have ylen : ys.length < sizeLine:=by rw [← rv.length]; exact zl
     obtain ⟨a1,a2⟩:=frs' I8
     refine append_at (hsz:=by rw [U8]; exact SV ylen) zD.1 fun h9 hs9 hD9=>?_
     have I8u : Inv (AO X N scope cl H2.objs.size s₂ H fp) [] (cS nt js σ) H8 s8:=(I8.pins_of (pins':=[]) fun p hp=>nomatch hp).weak (by rw [hl6]) (FP hl6 hd6)
     have I9 : Inv (AO X N scope cl H2.objs.size s₂ H fp) [] (cS nt js σ) H8 { s8 with heap:=h9 }:=I8u.turned (t':=s8.toks) (it:=s₂.heap.objs.size) (fun b o hb e=>hs9.extBut b o hb e) zD.2.1 hDC (.inr (T9 _))
      (fun x c e z=>by
       obtain ⟨v,q⟩:=I.cell x c (hcl x c e)
       exact absurd (SH q.lt (by rw [z]; exact T9 _)) (SI _)) (fun p hp=>nomatch hp)
     refine ⟨nn - (i + 1),by rw [hn0]; exact Uu hlt (Tz i),i + 1,zs ++ [y],ys ++ [v],H8,rfl,hlt,I9.pins_of (fun p hp=>?_),rv.snoc r8,T.keep _ _ _ a1 fun b hb o e=>hs9.extBut b o (below b (lt b hb)).2 e,a2,q8⟩
     have e : p = (s₂.heap.objs.size,Cy (ys ++ [v])):=by simpa using hp
     subst e
     refine ⟨?_,zD.2.1,hDC,zD.2.2.2.1,fun v z=>by cases z⟩
     rw [hD9]
     show some ({ cls:=.type "list",data:=.seq (ys.toArray.push v) (ys.length + 1) } : Obj) = some { cls:=.type "list",data:=.seq (ys ++ [v]).toArray (ys ++ [v]).length }
     rw [U4,Ud,List.push_toArray]
 exact codeAny_compStart_list (loop _ rfl) (T.self _ 0 _ _ _ (T.keep 0 _ _ st (fun b _ o e=>old b o e)) (loop _ rfl))
theorem Dv (hcalm : X.calm = true) (ok : Be X N nt js scope) (hi : PI X tg iter wi) (hg : ∀ cl C s H fp,PG (AO X N scope cl C s H fp) tg g) (hk : GQ g nt) (hc : ∀ cl C s H fp,PTs (AO X N scope cl C s H fp) ifs tc)
 (he : ∀ cl C s H fp,PE (AO X N scope cl C s H fp) elt te) (hs : ∀ x,foldedSetIterable iter X.env x = pure x:=by intro _; rfl) : PE X (.ListComp elt [⟨tg,iter,ifs,0⟩] scope pos) (tLC wi nt js g tc te):=by
 intro pins s σ H Q I h
 obtain ⟨cl,hclos,hcl,hcl2⟩:=CY (scope:=scope) (env:=X.env) fun x hx hf=>I.ok.has x.1 (ok.free x hx hf)
 rw [eval_ListComp]
 refine wpAny_comprehension_free (use:=none) rfl hs hclos ok.kind ok.names ?_
 refine thn (hi pins s σ H _ I (Mz h)) fun v s1 h1=>thn h1 fun itv s2 h2=>?_
 obtain ⟨it,fp,tn,J,H2,e,I2,T,st2,f2,nn,W,w0,lw⟩:=h2
 subst e
 refine Jz (RR:=fun acc C=>compPost (model X.prog X.w) X.A X.xe none (EP X pins σ Q) acc C) hcalm ok hcl hcl2 hg hk hc he I2 T st2 f2 w0 lw ?_
 intro D C s' H' zs m I3 hn hDn hCn hCL hC0 hCc hCp fin
 exact ⟨m,hn,fun h'' hs''=>⟨.ref D,_,I3.turned (t':=s'.toks) (it:=C) (fun b o hb e=>hs''.extBut b o hb e) hCn hCL (.inr hC0) hCc hCp,rfl,fin D hDn⟩⟩
theorem Kq {i : Nat} {y : Str} {py spos : Pos} (hcalm : X.calm = true) (hN : X.N.Nodup) (hi' : X.N[i]? = some y) (hy : X.env.kindOf y = some .local) (ok : Be X N nt js scope) (hi : PI X tg iter wi) (hg : ∀ cl C s H fp,PG (AO X N scope cl C s H fp) tg g) (hk : GQ g nt)
 (hc : ∀ cl C s H fp,PTs (AO X N scope cl C s H fp) ifs tc) (he : ∀ cl C s H fp,PE (AO X N scope cl C s H fp) elt te)
 (hsw : swapsWith (.ListComp elt [⟨tg,iter,ifs,0⟩] scope pos) (some (.Name y py)) spos.line X.env = pure true) (hs : ∀ x,foldedSetIterable iter X.env x = pure x:=by intro _; rfl) :
 PS X (.Assign [.Name y py] (.ListComp elt [⟨tg,iter,ifs,0⟩] scope pos) spos) (KY (tLC wi nt js g tc te) (C8 i)):=by
 intro pins s σ H D₀ I h
 obtain ⟨cl,hclos,hcl,hcl2⟩:=CY (scope:=scope) (env:=X.env) fun x hx hf=>I.ok.has x.1 (ok.free x hx hf)
 rw [exec_Assign_Name_used _ _ _ _ hsw]
 refine wpAny_bind (wpAny_standAt (wpAny_bind ?_))
 show wpAny _ X.A (do let _ ← comprehension (.ListComp elt [⟨tg,iter,ifs,0⟩] scope pos) scope X.env _ (newList []) false (eval iter X.env) (some (assign (.Name y py) X.env))) _ _ s
 refine wpAny_bind (wpAny_mono (wpAny_comprehension_free (use:=some (assign (.Name y py) X.env)) (Q:=fun _ s'=>SP X pins D₀ .next s') rfl hs hclos ok.kind ok.names
  (thn (hi pins s σ H _ I (Mz (show tLC wi nt js g tc te σ H fun x H1=>C8 i x σ H1 D₀.nx from h))) fun v s1 h1=>thn h1 fun itv s2 h2=>?_)) (fun _ s' hq=>wpAny_pure (wpAny_pure hq)) fun _ _ e=>e)
 obtain ⟨it,fp,tn,J,H2,e,I2,T,st2,f2,nn,W,w0,lw⟩:=h2
 subst e
 refine Jz (RR:=fun acc C=>compPost (model X.prog X.w) X.A X.xe (some (assign (.Name y py) X.env)) (fun _ s'=>SP X pins D₀ .next s') acc C) hcalm ok hcl hcl2 hg hk hc he I2 T st2 f2 w0 lw ?_
 intro D C s' H' zs m I3 hn hDn hCn hCL hC0 hCc hCp fin
 show wpAny _ X.A (assign (.Name y py) X.env (.ref D)) _ _ _
 refine wpAny_assign_Name (EO (v:=.ref D) I3 hN hi' (.inl hy) rfl (fun s3 I4 hsb=>?_) (.inr hy))
 obtain ⟨a,hsb,ha⟩:=hsb
 have haC : C ≠ a:=by
  rcases ha with z | z
  ·rw [z]; exact hCL
  ·exact Ne.symm (hCc y a z)
 refine ⟨m,hn.sameBut hsb haC,fun h'' hs''=>?_⟩
 exact ⟨_,_,I4.turned (t':=s3.toks) (it:=C) (fun b o hb e=>hs''.extBut b o hb e) hCn hCL (.inr hC0) hCc hCp,fin D hDn⟩
end
end L2
namespace L2
open PySem PySem.Spec PyProof.Rows
def Bd (n : Nat) (x : Int) : Prop:=x.natAbs < 2 ^ n
theorem Bd.bits {n : Nat} {x : Int} (h : Bd n x) : Builtin.Int.intBits x ≤ n:=PySem.intBits_le_iff.mpr h
def N1 (i j : Int) : Prop:=∃ m n,Bd m i ∧ Bd n j ∧ m + n ≤ 134217728
theorem N1.ok {i j : Int} (h : N1 i j) : IntMulOk i j:=by
 obtain ⟨m,n,h1,h2,h3⟩:=h
 exact PySem.IntMulOk.of_le h1.bits h2.bits h3
section
variable {X : Cx}
theorem Ez {k : Nat} (hr : BA k X.A) (hT : X.prog.given.tree = none) (hk : 32 ≤ k:=by decide)
 (hst : ∃ (env : Env) (l : List Env),X.stack = env :: l ∧ env.scope.isGenerator = false ∧ env.scope.isCoroutine = false ∧ env.builtins = builtinsNs ∧ env.globals = mainGlobals:=by exact ⟨_,_,rfl,rfl,rfl,rfl,rfl⟩) :
 OpR X (binaryOp .FloorDiv) (rI (fun _ j=>j ≠ 0) fun i j=>.int (i.fdiv j)):=by
 intro pins s σ H x y v u Q I rx ry h
 obtain ⟨i,j,rfl,rfl,hc,q⟩:=h
 obtain ⟨t,rfl⟩:=rx
 obtain ⟨t',rfl⟩:=ry
 obtain ⟨env,l,e1,e2,e3,e4,e5⟩:=hst
 have hd : X.A.depth + Builtin.pylongFrames < recursionLimit:=by
  have:=hr.dp
  have e : Builtin.pylongFrames ≤ 101:=by decide
  lia
 refine floordiv_int hc ⟨.int (i.fdiv j),H,I.tok _,⟨_,rfl⟩,q⟩ (.inr (PySem.PylongRoom.of I.nolimit hd (PySem.SeerAt.of (I.ok.mod.seer.keeps I.bk) hT (by rw [I.ok.frames,e1]) e2 e3 e4 e5)))
end
structure Fd (P : Program) (w : World) (K : SR) (mg : Str → Option Value) (base : Heap) (n : Nat) (x : Str) (ps : List Str) (sp : Sp) : Prop where
 ex : ∃ (f : Addr) (fd : FuncData),AI P w K mg base CX0 n f fd ps sp ∧ BW K fd ps [] ∧ Tw K (.ref f) = true ∧ mg x = some (.ref f)
theorem AF {X : Cx} {n k : Nat} {x : Str} {ps : List Str} {sp : Sp} {e : Expr} {es : List Expr} {t : TA} {p pos : Pos} (F : Fd X.prog X.w X.K X.mg X.base n x ps sp) (hr : BA k X.A) (hg : Gl X x) (ha : PA X (e :: es) t) (hn : n ≤ k:=by decide)
 (hdb : (x == ("__debug__" : Str)) = false:=by decide) (he : starEach (e :: es) X.env = (false,eval e X.env) :: starEach es X.env:=by rfl) (hpl : (backTo pos (starEach es X.env)).any (·.1) = false:=by rfl) :
 PE X (.Call (.Name x p) (e :: es) [] pos) (LX sp [] E0 t):=by
 obtain ⟨f,fd,F1,F2,F3,F4⟩:=F.ex
 exact Kt F1 (hr.mono hn) hg F4 F3 F2 .nil Hw ha hdb he hpl
inductive Rds (K : SR) (H : Hp) : V → PyData → Prop where
 | non : Rds K H .non .none
 | bl (b : Bool) : Rds K H (.bl b) (.bool b)
 | int (i : Int) : Rds K H (.int i) (.int i)
 | str (x : Str) : Rds K H (.str x) (.str x)
 | lst {a : Addr} {xs : List V} {ds : List PyData} : SqL K H a xs → xs.length = ds.length → (∀ (i : Nat) x d,xs[i]? = some x → ds[i]? = some d → Rds K H x d) → Rds K H (.ref a) (.list ds)
 | tup {a : Addr} {xs : List V} {ds : List PyData} : SqT K H a xs → xs.length = ds.length → (∀ (i : Nat) x d,xs[i]? = some x → ds[i]? = some d → Rds K H x d) → Rds K H (.ref a) (.tuple ds)
theorem DI {h : Heap} : ∀ {us : List Value} {xs : List V} {ds : List PyData},AN xs us → xs.length = ds.length → (∀ (i : Nat) x d u,xs[i]? = some x → ds[i]? = some d → AR x u → ∃ as,Reads h u d as) → ∃ as,ReadsAll h us ds as
 | [],_,[],.nil,_,_=>⟨[],.nil⟩
 | [],_,_ :: _,.nil,hl,_=>by simp at hl
 | _ :: _,_,[],.cons _ _,hl,_=>by simp at hl
 | u :: us,x :: xs,d :: ds,.cons r t,hl,hr=>by
   obtain ⟨a1,r1⟩:=hr 0 x d u rfl rfl r
   obtain ⟨a2,r2⟩:=DI (us:=us) (xs:=xs) (ds:=ds) t (by simpa using hl) fun i x' d' u' e1 e2 q=>hr (i + 1) x' d' u' (by simpa using e1) (by simpa using e2) q
   exact ⟨_,.cons r1 r2⟩
theorem J1 {X : Cx} {pins : List (Addr × Obj)} {σ : St} {H : Hp} {s : Shared} (I : Inv X pins σ H s) {x : V} {d : PyData} (r : Rds X.K H x d) : ∀ {u : Value},AR x u → ∃ as,Reads s.heap u d as:=by
 induction r with
 | non=>intro u ru; cases ru; exact ⟨_,.none⟩
 | bl b=>intro u ru; cases ru; exact ⟨_,.bool b⟩
 | int i=>intro u ru; obtain ⟨t,rfl⟩:=ru; exact ⟨_,.int i t⟩
 | str z=>intro u ru; obtain ⟨t,rfl⟩:=ru; exact ⟨_,.str z t⟩
 | lst q hl _ ih =>
   intro u ru
   cases ru
   obtain ⟨its,rv,⟨o,n,e,c,_,dd⟩,_⟩:=I.list q
   obtain ⟨as,ra⟩:=DI rv hl fun i x d u e1 e2 rr=>ih i x d e1 e2 rr
   exact ⟨_,.list e c dd (by simpa using ra)⟩
 | tup q hl _ ih =>
   intro u ru
   cases ru
   obtain ⟨its,rv,⟨o,e,c,n,dd⟩,_⟩:=I.tuple q
   obtain ⟨as,ra⟩:=DI rv hl fun i x d u e1 e2 rr=>ih i x d e1 e2 rr
   exact ⟨_,.tuple e c dd (by simpa using ra)⟩
section
variable {X : Cx}
@[irreducible] def Q6 (K : SR) (neg : Bool) : R2:=fun x y H Q=>∃ d e,Rds K H x d ∧ Rds K H y e ∧ SeqAt.shaped d = true ∧ SeqAt.shaped e = true ∧ Q (.bl (if neg then !PyData.eqv d e else PyData.eqv d e)) H
theorem QR {K : SR} {neg : Bool} {x y : V} {H : Hp} {Q : VK} (h : ∃ d e,Rds K H x d ∧ Rds K H y e ∧ SeqAt.shaped d = true ∧ SeqAt.shaped e = true ∧ Q (.bl (if neg then !PyData.eqv d e else PyData.eqv d e)) H) : Q6 K neg x y H Q:=by
 unfold Q6; exact h
end
end L2
namespace L2
open PySem PySem.Spec PyProof.Rows
theorem Bf : bootBuiltins "len" = some (.builtin "len"):=by decide +kernel
theorem ID : bootBuiltins "abs" = some (.builtin "abs"):=by decide +kernel
theorem Ar : bootBuiltins "isinstance" = some (.builtin "isinstance"):=by decide +kernel
theorem IC : bootBuiltins "all" = some (.builtin "all"):=by decide +kernel
theorem KJ : bootBuiltins "list" = some (.type "list"):=by decide +kernel
theorem C6 : bootBuiltins "tuple" = some (.type "tuple"):=by decide +kernel
theorem CJ : bootBuiltins "str" = some (.type "str"):=by decide +kernel
theorem IB : bootBuiltins "int" = some (.type "int"):=by decide +kernel
theorem NI : bootBuiltins "bool" = some (.type "bool"):=by decide +kernel
def Fx (H : Hp) (L : List (Addr × HO)) : Prop:=∀ p ∈ L,H p.1 = some p.2
def Mv (a : Addr) (H H' : Hp) : Prop:=∀ b o,b ≠ a → H b = some o → H' b = some o
theorem Mv.trans {a : Addr} {H H1 H2 : Hp} (x : Mv a H H1) (y : Mv a H1 H2) : Mv a H H2:=fun b o n h=>y b o n (x b o n h)
theorem Mv.new {a p : Addr} {H : Hp} {o : HO} (h : H p = none) : Mv a H (upd H p o):=fun b u _ q=>by rw [As (Aq q h)]; exact q
theorem KN {ns : List Int} {k : Int} (h0 : 0 ≤ k) (h : k < (ns.length : Int)) : ∃ v : Int,atI (ns.map V.int) k = some (.int v):=by
 have hk : k.toNat < ns.length:=by lia
 have ek : k = ((k.toNat : Nat) : Int):=by lia
 have q : atI (ns.map V.int) ((k.toNat : Nat) : Int) = some (.int ns[k.toNat]):=AX (by rw [U1,Uv hk] <;> rfl)
 rw [← ek] at q
 exact ⟨_,q⟩
def nT (q : Rat) : HO:=.tup [.int q.num,.int q.den]
def Pen (H : Hp) (a : Addr) : Prop:=∃ c0 c1 c2 : Int,H a = some (.lst [.int c0,.int c1,.int c2])
theorem Pen.same {H : Hp} {a p : Addr} {o : HO} (x : Pen H a) (h : H p = none) : Pen (upd H p o) a:=by
 obtain ⟨c0,c1,c2,e⟩:=x
 exact ⟨c0,c1,c2,by rw [As (Aq e h)]; exact e⟩
theorem Pen.put {H : Hp} {a : Addr} {c0 c1 c2 : Int} : Pen (upd H a (.lst [.int c0,.int c1,.int c2])) a:=⟨c0,c1,c2,Ab⟩
def JH (i j : Int) : Prop:=(-(2 ^ 64) < i ∧ i < 2 ^ 64) ∨ (-(2 ^ 64) < j ∧ j < 2 ^ 64) ∨ N1 i j
theorem JH.ok {i j : Int} (h : JH i j) : IntMulOk i j:=by
 rcases h with ⟨h1,h2⟩ | ⟨h1,h2⟩ | h
 ·exact .of_left (intBits_le_64 h1 h2)
 ·exact .of_right (intBits_le_64 h1 h2)
 ·exact h.ok
theorem Cf {X : Cx} : OpR X (binaryOp .Mult) (rI JH fun i j=>.int (i * j)):=opI fun _ _ _ _ _ _ _ hc q=>mul_int q hc.ok
def GR (a : Addr) (H H' : Hp) : Prop:=∀ b,b ≠ a → H' b = H b
theorem GR.mv {a : Addr} {H H' : Hp} (x : GR a H H') : Mv a H H':=fun b o n h=>by rw [x b n]; exact h
theorem GR.put {a : Addr} {H : Hp} {o : HO} : GR a H (upd H a o):=fun b n=>As n
theorem Pen.ne {H : Hp} {a p : Addr} {o : HO} (x : Pen H a) (h : H p = some o) (hd : ∀ c0 c1 c2 : Int,o ≠ .lst [.int c0,.int c1,.int c2]) : p ≠ a:=by
 obtain ⟨c0,c1,c2,e⟩:=x
 exact DN h e (hd c0 c1 c2)
structure Lg (a : Addr) (H : Hp) (L : List (Addr × HO)) : Prop where
 fx : Fx H L
 ne : ∀ x ∈ L,x.1 ≠ a
 pen : Pen H a
theorem O9 (q : Rat) : ∀ c0 c1 c2 : Int,nT q ≠ .lst [.int c0,.int c1,.int c2]:=fun _ _ _ z=>by cases z
theorem NL {xs : List Int} {i : Int} (h0 : 0 ≤ i) (h : i < (xs.length : Int)) : ∃ v : Int,atI (xs.map V.int) i = some (.int v) ∧ v ∈ xs:=by
 have hk : i.toNat < xs.length:=by lia
 have ek : i = ((i.toNat : Nat) : Int):=by lia
 have q : atI (xs.map V.int) ((i.toNat : Nat) : Int) = some (.int xs[i.toNat]):=AX (by rw [U1,Uv hk] <;> rfl)
 rw [← ek] at q
 exact ⟨_,q,Uw hk⟩
inductive DE (vs : List V) (H : Hp) (Q : VK) (E_3 : XK) : Prop
 | mk (a : Addr) (m : Int) (h1 : vs = [.ref a,.int m]) (h2 : Pen H a) (h3 : 1 ≤ m) (h4 : m < 1073741824) (h5 : ∀ (d : Int) (H' : Hp),0 ≤ d → d < m → GR a H H' → Pen H' a → Q (.int d) H') : DE vs H Q E_3
inductive M0 (K : SR) (vs : List V) (H : Hp) (Q : VK) (E_3 : XK) : Prop
 | mk (a : Addr) (ns : List Int) (k : Int) (h1 : vs = [.ref a,.int k]) (h2 : SqL K H a (ns.map V.int)) (h3 : ns.length ≤ 63) (h4 : 0 ≤ k) (h5 : k < 2 ^ 62) (h6 : ∀ (p : Addr) (c0 c1 : Int),H p = none → Q (.ref p) (upd H p (.lst [.int c0,.int c1,.int 0]))) : M0 K vs H Q E_3
inductive IV (vs : List V) (H : Hp) (Q : VK) (E_3 : XK) : Prop
 | mk (t b : Int) (h1 : vs = [.int t,.int b]) (h2 : b ≠ 0) (h3 : ∀ p,H p = none → Q (.ref p) (upd H p (nT (Uj t b)))) : IV vs H Q E_3
inductive M3 (vs : List V) (H : Hp) (Q : VK) (E_3 : XK) : Prop
 | mk (a b : Int) (h1 : vs = [.int a,.int b]) (h2 : Q (.int (Ui a b)) H) : M3 vs H Q E_3
inductive IW (K : SR) (vs : List V) (H : Hp) (Q : VK) (E_3 : XK) : Prop
 | mk (a : Addr) (ns : List Int) (h1 : vs = [.ref a]) (h2 : SqL K H a (ns.map V.int)) (h3 : ns.length ≤ 63) (h4 : ∀ H',Q (.bl true) H') : IW K vs H Q E_3
def mu (i : Nat) (σ : St) : Nat:=match σ[i]? with | some (some (.int y))=>y.toNat | _=>0
theorem Bd.mono {m n : Nat} {x : Int} (h : Bd m x) (hmn : m ≤ n) : Bd n x:=SH h (Nat.pow_le_pow_right (by decide) hmn)
end L2
namespace L2
open PySem PySem.Spec PyProof.Rows
section
variable {X : Cx} {tg : Expr}
end
theorem LD {X : Cx} (hc : X.calm = true) : C9 X (.builtin "all") (fun xs H Q=>∃ (a : Addr) (bs : List Bool),xs = [.ref a] ∧ SqL X.K H a (bs.map V.bl) ∧ Q (.bl (bs.all id)) H):=by
 intro pins s σ H xs us Q I r h
 obtain ⟨a,bs,rfl,hq,q⟩:=h
 obtain ⟨u,rfl,rfl⟩:=Em r
 obtain ⟨its,rv,p,hz⟩:=I.list hq
 have hl:=rv.length
 rw [Tx] at hl
 have hlt : a < s.heap.objs.size:=by obtain ⟨_,e,_⟩:=p.isList; exact Heap.lt_size e
 refine call_all_walk (wpAny_pyIter_list p.isList ?_)
 refine ⟨s.heap.objs.size,[s.heap.objs.size,a],[s.heap.objs.size],its.toArray.size,_,_,fun i=>(bs[i]?).getD true,rfl,Walks.list (A:=X.A.in1) (I.ok.hd hc) _ a (SJ hlt) its.toArray,
  ⟨⟨_,Heap.get?_push_size _ rfl,rfl,rfl⟩,p.isList.push _⟩,fun i v s' Q' E' hP hQ=>?_,fun h' tk hk=>?_⟩
 ·have hP' : its[i]? = some v:=by simpa using hP
  have hi : i < bs.length:=by rw [hl]; exact (T4.mp hP').1
  obtain ⟨u',hu',ru⟩:=rv.get (i:=i) (x:=.bl bs[i]) (by rw [U1,Uv hi]; rfl)
  rw [hP'] at hu'
  cases hu'
  cases ru
  dsimp only at hQ
  rw [Uv hi,Ux] at hQ
  exact wpAny_truthy_bool hQ
 ·have e : ((SK its.toArray.size).all fun i=>(bs[i]?).getD true) = bs.all id:=by
   rw [U8,← hl,Bool.eq_iff_iff,Um,Um]
   constructor
   ·intro z b hb
    obtain ⟨i,hi,rfl⟩:=List.getElem_of_mem hb
    have:=z i (SQ.mpr hi)
    rw [Uv hi,Ux] at this
    exact this
   ·intro z i hi
    have hi':=SQ.mp hi
    rw [Uv hi',Ux]
    exact z _ (Uw hi')
  rw [e]
  exact ⟨.bl _,H,I.kept (fun b o e=>hk b o (fun hm=>by rw [Ut.mp hm] at e; exact SI _ (Heap.lt_size e)) (Heap.get?_push_of_some _ e)),rfl,q⟩
end L2
namespace L2
open PySem PySem.Spec PyProof.Rows
theorem SqT.same {K : SR} {H H' : Hp} {a : Addr} {xs : List V} (h : SqT K H a xs) (e : Ae H H') : SqT K H' a xs:=by
 rcases h with (h | ⟨o,h⟩) | h
 ·exact .inl (.inl (e _ _ h))
 ·exact .inl (.inr ⟨o,e _ _ h⟩)
 ·exact .inr h
theorem Ae.new {H : Hp} {p : Addr} {o : HO} (h : H p = none) : Ae H (upd H p o):=fun b u q=>by rw [As (Aq q h)]; exact q
theorem Ae.mv {H H' : Hp} {a : Addr} (h : Ae H H') : Mv a H H':=fun b o _ q=>h b o q
theorem Paired.get {α β : Type} {F : α → β → Prop} : ∀ {l₁ : List α} {l₂ : List β} {i : Nat} {a : α},Paired F l₁ l₂ → l₁[i]? = some a → ∃ b,l₂[i]? = some b ∧ F a b
 | _,_,_,_,.nil,e=>by simp at e
 | _,_,0,_,.cons h _,e=>by simp at e; subst e; exact ⟨_,rfl,h⟩
 | _,_,i + 1,_,.cons _ t,e=>by
   obtain ⟨b,h1,h2⟩:=Paired.get (i:=i) t (by simpa using e)
   exact ⟨b,by simpa using h1,h2⟩
theorem Paired.get' {α β : Type} {F : α → β → Prop} : ∀ {l₁ : List α} {l₂ : List β} {i : Nat} {b : β},Paired F l₁ l₂ → l₂[i]? = some b → ∃ a,l₁[i]? = some a ∧ F a b
 | _,_,_,_,.nil,e=>by simp at e
 | _,_,0,_,.cons h _,e=>by simp at e; subst e; exact ⟨_,rfl,h⟩
 | _,_,i + 1,_,.cons _ t,e=>by
   obtain ⟨b,h1,h2⟩:=Paired.get' (i:=i) t (by simpa using e)
   exact ⟨b,by simpa using h1,h2⟩
def BC (K : SR) (H : Hp) (x : V) (q : Rat) : Prop:=∃ r,x = .ref r ∧ SqT K H r [.int q.num,.int q.den]
abbrev C7 (K : SR) (H : Hp) : List V → List Rat → Prop:=Paired (BC K H)
theorem BC.of {K : SR} {H : Hp} {r : Addr} {q : Rat} (h : H r = some (nT q)) : BC K H (.ref r) q:=⟨r,rfl,SqT.of h⟩
theorem BC.same {K : SR} {H H' : Hp} {x : V} {q : Rat} (h : BC K H x q) (e : Ae H H') : BC K H' x q:=by
 obtain ⟨r,rfl,h⟩:=h
 exact ⟨r,rfl,h.same e⟩
theorem C7.same {K : SR} {H H' : Hp} {xs : List V} {qs : List Rat} (h : C7 K H xs qs) (e : Ae H H') : C7 K H' xs qs:=Paired.mapP h fun _ _ z=>z.same e
theorem SqT.mv {K : SR} {H H' : Hp} {a p : Addr} {xs : List V} (h : SqT K H a xs) (pn : Pen H p) (m : Mv p H H') : SqT K H' a xs:=by
 obtain ⟨c0,c1,c2,e⟩:=pn
 rcases h with (h | ⟨o,h⟩) | h
 ·exact .inl (.inl (m _ _ (DN h e (fun z=>by cases z)) h))
 ·exact .inl (.inr ⟨o,m _ _ (DN h e (fun z=>by cases z)) h⟩)
 ·exact .inr h
theorem BC.mv {K : SR} {H H' : Hp} {x : V} {q : Rat} {p : Addr} (h : BC K H x q) (pn : Pen H p) (m : Mv p H H') : BC K H' x q:=by
 obtain ⟨r,rfl,h⟩:=h
 exact ⟨r,rfl,h.mv pn m⟩
theorem C7.mv {K : SR} {H H' : Hp} {xs : List V} {qs : List Rat} {p : Addr} (h : C7 K H xs qs) (pn : Pen H p) (m : Mv p H H') : C7 K H' xs qs:=Paired.mapP h fun _ _ z=>z.mv pn m
theorem SqT.put {K : SR} {H : Hp} {a p : Addr} {xs ys : List V} {o : HO} (h : SqT K H a xs) (hp : H p = some (.lst ys)) : SqT K (upd H p o) a xs:=by
 rcases h with (h | ⟨u,h⟩) | h
 ·exact .inl (.inl (by rw [As (DN h hp (fun z=>by cases z))]; exact h))
 ·exact .inl (.inr ⟨u,by rw [As (DN h hp (fun z=>by cases z))]; exact h⟩)
 ·exact .inr h
theorem BC.put {K : SR} {H : Hp} {x : V} {q : Rat} {p : Addr} {ys : List V} {o : HO} (h : BC K H x q) (hp : H p = some (.lst ys)) : BC K (upd H p o) x q:=by
 obtain ⟨r,rfl,h⟩:=h
 exact ⟨r,rfl,h.put hp⟩
theorem C7.put {K : SR} {H : Hp} {xs : List V} {qs : List Rat} {p : Addr} {ys : List V} {o : HO} (h : C7 K H xs qs) (hp : H p = some (.lst ys)) : C7 K (upd H p o) xs qs:=Paired.mapP h fun _ _ z=>z.put hp
def Crv (K : SR) (H : Hp) (r : Addr) (qs : List Rat) : Prop:=∃ xs,SqT K H r xs ∧ C7 K H xs qs
theorem Crv.same {K : SR} {H H' : Hp} {r : Addr} {qs : List Rat} (h : Crv K H r qs) (e : Ae H H') : Crv K H' r qs:=let ⟨xs,a,b⟩:=h; ⟨xs,a.same e,b.same e⟩
def nD (q : Rat) : PyData:=.tuple [.int q.num,.int q.den]
theorem BC.rds {K : SR} {H : Hp} {x : V} {q : Rat} (h : BC K H x q) : Rds K H x (nD q):=by
 obtain ⟨r,rfl,h⟩:=h
 refine .tup h rfl fun i x d e1 e2=>?_
 match i with
 | 0=>simp at e1 e2; subst e1; subst e2; exact .int _
 | 1=>simp at e1 e2; subst e1; subst e2; exact .int _
 | i + 2=>simp at e1
theorem ON (p q : Rat) : PyData.eqv (nD p) (nD q) = decide (p = q):=by
 show (p.num == q.num && (((p.den : Int) == (q.den : Int)) && true)) = _
 rw [Bool.and_true,Bool.eq_iff_iff]
 simp only [Bool.and_eq_true,beq_iff_eq,decide_eq_true_eq]
 constructor
 ·rintro ⟨h1,h2⟩
  exact Rat.ext h1 (Int.ofNat.inj h2)
 ·rintro rfl
  exact ⟨rfl,rfl⟩
theorem Ll (q : Rat) : SeqAt.shaped (nD q) = true:=by rfl
theorem C7.rds {K : SR} {H : Hp} {xs : List V} {qs : List Rat} (h : C7 K H xs qs) : ∀ (i : Nat) x d,xs[i]? = some x → (qs.map nD)[i]? = some d → Rds K H x d:=fun i x d e1 e2=>by
 obtain ⟨q,hq,hn⟩:=Paired.get h e1
 rw [U1,hq] at e2
 cases e2
 exact hn.rds
theorem C7.rdsL {K : SR} {H : Hp} {r : Addr} {xs : List V} {qs : List Rat} (h : C7 K H xs qs) (s : SqL K H r xs) : Rds K H (.ref r) (.list (qs.map nD)):=.lst s (by rw [h.length,Tx]) h.rds
theorem Ku : ∀ qs : List Rat,PyData.canLayAll0 (qs.map nD) = true
 | []=>rfl
 | q :: r=>by
   show (PyData.canLay0 (nD q) && PyData.canLayAll0 (r.map nD)) = true
   rw [Ku r]; rfl
theorem Hy : ∀ qs : List Rat,PyData.depthAll (qs.map nD) ≤ 1
 | []=>Tc _
 | q :: r=>by
   have ih:=Hy r
   show max (PyData.depth (nD q)) (PyData.depthAll (r.map nD)) ≤ 1
   exact Nat.max_le.mpr ⟨T9 _,ih⟩
theorem Ir (qs : List Rat) : SeqAt.shaped (.list (qs.map nD)) = true:=by
 show (PyData.canLayAll0 (qs.map nD) && decide (PyData.depthAll (qs.map nD) + 1 ≤ 64)) = true
 rw [Ku,Bool.true_and]
 exact decide_eq_true (by have:=Hy qs; lia)
def RB (n : Nat) (q : Rat) : Prop:=Bd n q.num ∧ Bd n (q.den : Int)
theorem JH.bd {m n : Nat} {x y : Int} (h1 : Bd m x) (h2 : Bd n y) (h : m + n ≤ 134217728:=by lia) : JH x y:=.inr (.inr ⟨m,n,h1,h2,h⟩)
theorem FQ : ∀ {us : List Value} {xs : List V},us.map CK = xs.map some → (∀ u ∈ us,∀ x,CK u = some x → AR x u) → AN xs us
 | [],[],_,_=>.nil
 | [],_ :: _,e,_=>by simp at e
 | _ :: _,[],e,_=>by simp at e
 | u :: us,x :: xs,e,h=>by
   simp only [Tu,Uy.injEq] at e
   exact .cons (h u SX x e.1) (FQ e.2 fun v hv=>h v (SY _ hv))
theorem JF {u : Value} {x : V} (h : CK u = some x) : AR x u:=by
 cases u <;> first | (cases h; rfl) | (cases h; exact ⟨_,rfl⟩) | cases h
theorem RB.one {n : Nat} (h : 1 ≤ n) : RB n 1:=⟨(show Bd 1 1 by unfold Bd; decide).mono h,(show Bd 1 1 by unfold Bd; decide).mono h⟩
inductive M4 (K : SR) (g : Rat → Rat → Rat) (vs : List V) (H : Hp) (Q : VK) (E_3 : XK) : Prop
 | mk (x y : V) (p q : Rat) (m n : Nat) (h1 : vs = [x,y]) (h2 : BC K H x p) (h3 : BC K H y q) (h4 : RB m p) (h5 : RB n q) (h6 : m + n ≤ 100000000) (h7 : ∀ r,H r = none → Q (.ref r) (upd H r (nT (g p q)))) : M4 K g vs H Q E_3
end L2
namespace L2
open PySem PySem.Spec PyProof.Rows
def Sq (b : Bool) (K : SR) (H : Hp) (a : Addr) (xs : List V) : Prop:=match b with
 | true=>SqL K H a xs
 | false=>SqT K H a xs
theorem Sq.same {b : Bool} {K : SR} {H H' : Hp} {a : Addr} {xs : List V} (h : Sq b K H a xs) (e : Ae H H') : Sq b K H' a xs:=by
 cases b
 ·exact SqT.same h e
 ·exact e.seq h
theorem Lh {X : Cx} {tg l : Expr} {w1 w2 : TI} (h1 : PI X tg l w1) (h2 : PI X tg l w2) : PI X tg l (fun σ H R=>w1 σ H R ∨ w2 σ H R):=fun pins s σ H R I h=>by
 rcases h with h | h
 ·exact h1 pins s σ H R I h
 ·exact h2 pins s σ H R I h
abbrev Qf (K : SR) (tl : TE) : TI:=fun σ H R=>Jp K tl σ H R ∨ P9 K tl σ H R
theorem Ei {K : SR} {b : Bool} {a : Addr} {n : Nat} {js : List Nat} {xs : List V} {te : TE} {σ : St} {H : Hp} {Q : VK} (hσ : σ[n]? = some (some (.ref a))) (Pv : Nat → List V → Hp → Prop) (h0 : Pv 0 [] H)
 (hl : ∀ i zs H,i ≤ xs.length → Pv i zs H → Sq b K H a xs ∧ zs.length = i) (hz : xs.length ≤ sizeLine)
 (hs : ∀ i x zs H,xs[i]? = some x → Pv i zs H → te ((cS 1 js σ).set 0 (some x)) H fun y H4=>Pv (i + 1) (zs ++ [y]) H4) (fin : ∀ zs H',Pv xs.length zs H' → ∀ p,H' p = none → Q (.ref p) (upd H' p (.lst zs))) :
 tLC (Qf K (HM n)) 1 js (C8 0) KW te σ H Q:=by
 have q:=(hl 0 [] H (Tc _) h0).1
 cases b with
 | true =>
   refine Cq (.inl ⟨_,hσ,a,rfl,⟨xs,q⟩,xs.length,Pv,h0,⟨?_,?_,?_⟩⟩)
   ·intro i zs H' hi p
    have hle:=SV hi
    obtain ⟨h1,h2⟩:=hl i zs H' hle p
    exact ⟨⟨xs,xs[i],h1,by simp [hi]⟩,by lia⟩
   ·rintro i zs H' x H1 hi p ⟨rfl,y⟩
    have hle:=SV hi
    have hx:=y xs (hl i zs _ hle p).1
    exact hs i x zs _ hx p
   ·intro zs H' p
    have hle:=T9 xs.length
    obtain ⟨h1,h2⟩:=hl _ zs H' hle p
    exact ⟨⟨xs,h1,T9 _⟩,by lia,fin zs H' p⟩
 | false =>
   refine Cq (.inr ⟨_,hσ,a,rfl,⟨xs,q⟩,xs.length,Pv,h0,⟨?_,?_,?_⟩⟩)
   ·intro i zs H' hi p
    have hle:=SV hi
    obtain ⟨h1,h2⟩:=hl i zs H' hle p
    exact ⟨⟨xs,xs[i],h1,by simp [hi]⟩,by lia⟩
   ·rintro i zs H' x H1 hi p ⟨rfl,y⟩
    have hle:=SV hi
    have hx:=y xs (hl i zs _ hle p).1
    exact hs i x zs _ hx p
   ·intro zs H' p
    have hle:=T9 xs.length
    obtain ⟨h1,h2⟩:=hl _ zs H' hle p
    exact ⟨⟨xs,h1,T9 _⟩,by lia,fin zs H' p⟩
section
variable {X : Cx} (K : SR)
theorem ixT (e : X.K = K:=by rfl) : IxR X (Ov K):=by subst e; exact P6
theorem ixL (e : X.K = K:=by rfl) : IxR X (Ow K):=by subst e; exact Ny
theorem JX (e : X.K = K:=by rfl) : OpR X (compareOp .NotIn) (rIn K true):=by subst e; exact Ih
theorem QS (e : X.K = K:=by rfl) : OpR X (binaryOp .Add) (Mc K):=by subst e; exact Nt
theorem slL (e : X.K = K:=by rfl) : SlR X (Ou K):=by subst e; exact Nd
inductive TyX (K : SR) (H : Hp) : V → Value → Prop where
 | of {x : V} {t : Value} (h : Fo K H x t) : TyX K H x t
 | tup {a : Addr} {xs : List V} (h : SqT K H a xs) : TyX K H (.ref a) (.type "tuple")
 | lst {a : Addr} {xs : List V} (h : SqL K H a xs) : TyX K H (.ref a) (.type "list")
inductive Ql (xs : List V) (H : Hp) (Q : VK) : Prop
 | mk (x : _) (T : _) (t : _) (b : _) (h1 : xs = [x,.ty T]) (h2 : TyX K H x t) (h3 : TF K t (.type T) = some b) (h4 : Q (.bl b) H) : Ql xs H Q
theorem Jn (e : X.K = K:=by rfl) : C9 X (.builtin "isinstance") (Ql K):=by
 subst e
 intro pins s σ H xs us Q I r h
 obtain ⟨x,T,t,b,rfl,ty,e,q⟩:=h
 obtain ⟨u,w',rfl,rx,rT⟩:=LK r
 cases rT
 cases ty with
 | of ty=>exact Lr I rx ty e fun tk=>⟨.bl b,H,I.tok _,rfl,q⟩
 | tup hq =>
   cases rx
   obtain ⟨its,rv,⟨o,e1,c,_⟩,_⟩:=I.tuple hq
   exact TH PySem.W.kitx_tuple I.kIn ⟨o,e1,c⟩ e (fun z=>nomatch z) fun tk=>⟨.bl b,H,I.tok _,rfl,q⟩
 | lst hq =>
   cases rx
   obtain ⟨its,rv,⟨o,n,e1,c,_⟩,_⟩:=I.list hq
   exact TH TJ I.kIn ⟨o,e1,c⟩ e (fun z=>nomatch z) fun tk=>⟨.bl b,H,I.tok _,rfl,q⟩
inductive Qk (xs : List V) (H : Hp) (Q : VK) : Prop
 | mk (p : _) (ys : _) (h1 : xs = [.ref p]) (h2 : (SqL K H p ys ∨ SqT K H p ys)) (h3 : Q (.int ys.length) H) : Qk xs H Q
theorem CG (e : X.K = K:=by rfl) : C9 X (.builtin "len") (Qk K):=by subst e; exact fun pins s σ H xs us Q I r ⟨p,ys,h1,h2,h3⟩=>IA pins s σ H xs us Q I r ⟨p,ys,h1,h2,h3⟩
inductive MR (xs : List V) (H : Hp) (Q : VK) : Prop
 | mk (p : _) (ys : _) (h1 : xs = [.ref p]) (h2 : ((SqL K H p ys ∧ ∀ l,H l = none → Q (.ref l) (upd H l (.tup ys))) ∨ (SqT K H p ys ∧ Q (.ref p) H))) : MR xs H Q
theorem FR (e : X.K = K:=by rfl) : C9 X (.type "tuple") (MR K):=by subst e; exact fun pins s σ H xs us Q I r ⟨p,ys,h1,h2⟩=>Hi pins s σ H xs us Q I r ⟨p,ys,h1,h2⟩
inductive Qm (xs : List V) (H : Hp) (Q : VK) : Prop
 | mk (a : Addr) (bs : List Bool) (h1 : xs = [.ref a]) (h2 : SqL K H a (bs.map V.bl)) (h3 : Q (.bl (bs.all id)) H) : Qm xs H Q
theorem NR (hc : X.calm = true) (e : X.K = K:=by rfl) : C9 X (.builtin "all") (Qm K):=by subst e; exact fun pins s σ H xs us Q I r ⟨a,bs,h1,h2,h3⟩=>LD hc pins s σ H xs us Q I r ⟨a,bs,h1,h2,h3⟩
variable {tg l : Expr} {tl : TE}
theorem piL (hl : PE X l tl) (e : X.K = K:=by rfl) : PI X tg l (Jp K tl):=by subst e; exact Kr hl
theorem piT (hl : PE X l tl) (e : X.K = K:=by rfl) : PI X tg l (P9 K tl):=by subst e; exact Me hl
theorem piS (hl : PE X l tl) (e : X.K = K:=by rfl) : PI X tg l (Qf K tl):=by subst e; exact Lh (Kr hl) (Me hl)
theorem pgT {es : List Expr} {k : Nat} {t : TGs} {n : Nat} {pos : Pos} (hc : X.calm = true) (h : PGs X es t) (hn : (assignEach es X.env).length = n:=by rfl) (hst : (assignEach es X.env).findIdx? (·.1) = none:=by rfl) (e : X.K = K:=by rfl) : PG X (.Tuple es k pos) (Lv K n t):=by subst e; exact OC hc h hn hst
end
end L2
namespace L2
open PySem PySem.Spec PyProof.Rows
inductive MY (K : SR) (H : Hp) : V → Bool → Prop where
 | int (i : Int) : MY K H (.int i) true
 | bl (b : Bool) : MY K H (.bl b) false
 | oth {x : V} {t : Value} (ty : TyX K H x t) (h : TF K t (.type "int") = some false) : MY K H x false
theorem OR (K : SR) : TF K (.type "int") (.type "int") = some true:=by kernel_rfl
theorem OS (K : SR) : TF K (.type "int") (.type "bool") = some false:=by kernel_rfl
theorem OU (K : SR) : TF K (.type "bool") (.type "int") = some true:=by kernel_rfl
theorem OV (K : SR) : TF K (.type "bool") (.type "bool") = some true:=by kernel_rfl
theorem Fe (K : SR) : TF K (.type "tuple") (.type "tuple") = some true:=by kernel_rfl
theorem OP {lo : Int} {n : Nat} {js : List Nat} {te : TE} {σ : St} {H : Hp} {Fin : List V → Hp → Prop} (Pv : Nat → List V → Hp → Prop) (h0 : Pv 0 [] H) (hl : ∀ i zs H,i ≤ n → Pv i zs H → zs.length = i) (hz : n ≤ sizeLine)
 (hs : ∀ i zs H,i < n → Pv i zs H → te ((cS 1 js σ).set 0 (some (.int (lo + i)))) H fun y H4=>Pv (i + 1) (zs ++ [y]) H4) (fin : ∀ zs H',Pv n zs H' → Fin zs H') :
 ∃ (n' : Nat) (W : Nat → List V → Hp → Prop),W 0 [] H ∧ LcW (Itr lo n) n' 1 js σ (C8 0) KW te Fin W:=by
 refine ⟨n,Pv,h0,⟨?_,?_,?_⟩⟩
 ·intro i zs H' hi p
  have:=hl i zs H' (SV hi) p
  exact ⟨hi,by lia⟩
 ·rintro i zs H' x H1 hi p ⟨rfl,rfl⟩
  exact hs i zs _ hi p
 ·intro zs H' p
  have:=hl n zs H' (T9 _) p
  exact ⟨T9 _,by lia,fin zs H' p⟩
theorem NP (n : Nat) : (TR n true).all id = true:=by
 rw [Um]
 intro b hb
 exact (List.mem_replicate.mp hb).2
theorem Pen.sm {H H' : Hp} {p : Addr} (h : Pen H p) (e : Ae H H') : Pen H' p:=let ⟨c0,c1,c2,z⟩:=h; ⟨c0,c1,c2,e _ _ z⟩
theorem Ae.put {H H' : Hp} {p : Addr} {o : HO} (h : Ae H H') (hp : H p = none) : Ae H (upd H' p o):=fun b u q=>by rw [As (Aq q hp)]; exact h b u q
end L2
namespace L2
open PySem PySem.Spec PyProof.Rows
def CX1 (P : Program) (w : World) : CXT:=fun outer H s E e s'=>∃ (ea : Addr) (cls a0 : Value) (B : Heap) (H' : Hp),e = .ref ea ∧ s'.os = s.os ∧ AllBare s'.gens ∧ Un (frs outer) [] H H' s.heap s'.heap ∧ HOk P w H' s'.heap ∧
 Heap.FlyingW B outer ea cls a0 s'.heap ∧ (∀ b o,s.heap.get? b = some o → b ∉ frs outer → ∃ o',B.get? b = some o') ∧ (∀ b u,H' b = some u → ∃ o',B.get? b = some o') ∧ E cls none H'
theorem BF.got {P : Program} {w : World} {H : Hp} {h : Heap} {a : Addr} {o : HO} (x : BF P w H h a o) : ∃ ob,h.get? a = some ob:=by
 induction o with
 | lst xs=>obtain ⟨_,_,_,_,e⟩:=x; exact ⟨_,e⟩
 | tup xs=>obtain ⟨_,_,_,ob,e,_⟩:=x; exact ⟨_,e⟩
 | dK kvs=>obtain ⟨_,_,_,_,ob,_,_,e,_⟩:=x; exact ⟨_,e⟩
 | dT kvs=>obtain ⟨_,_,_,_,ob,_,_,e,_⟩:=x; exact ⟨_,e⟩
 | set S n=>obtain ⟨ob,_,_,_,e,_⟩:=x; exact ⟨_,e⟩
 | ins C dx fs=>obtain ⟨_,_,_,e,_⟩:=x; exact ⟨_,e⟩
 | own y=>exact x
 | xd fs=>obtain ⟨_,⟨ob,_,_,e,_⟩,_⟩:=x; exact ⟨_,e⟩
 | met f y=>exact ⟨_,x⟩
 | rng lo hi=>obtain ⟨_,_,_,e⟩:=x; exact ⟨_,e⟩
 | frz ob u ih=>exact ⟨_,x.1⟩
 | tbl ps=>exact ⟨_,x⟩
 | ext φ=>exact x.2.1
section
variable {X : Cx} {pins : List (Addr × Obj)} {σ : St} {H H' : Hp} {s s' : Shared} {B : Heap}
theorem Inv.flown {h2 : Heap} {toks : Nat} (I : Inv X pins σ H s) (un : Un (frs X.stack) [] H H' s.heap s'.heap) (hok : HOk X.prog X.w H' s'.heap) (os : s'.os = s.os) (bare : AllBare s'.gens)
 (hs : ∀ b o,B.get? b = some o → s'.heap.get? b = some o) (k1 : ∀ b o,s.heap.get? b = some o → b ∉ frs X.stack → ∃ o',B.get? b = some o') (k2 : ∀ b u,H' b = some u → ∃ o',B.get? b = some o')
 (h2s : ∀ b o,B.get? b = some o → h2.get? b = some o) (sl : ∀ b o,b ∈ frs X.stack → s'.heap.get? b = some o → ∃ z,h2.get? b = some { o with slots:=z }) : Inv X pins σ H' { s' with heap:=h2,toks:=toks }:=by
 have key : ∀ b o,s'.heap.get? b = some o → (∃ o',B.get? b = some o') → h2.get? b = some o:=fun b o e ⟨o',q⟩=>by
  have:=hs b o' q
  rw [e] at this
  cases this
  exact h2s b o q
 refine I.call' (ch:=[]) os ⟨fun b o e n nb nx=>key b o (un.keep b o e n nb nx) (k1 b o e nb),fun b o e n nb nx=>?_,un.free,fun b o e nx=>?_,un.tups,un.frzs,un.tbls⟩ (fun b u e=>?_) bare (fun _ z=>nomatch z)
 ·obtain ⟨z,q⟩:=un.slot b o e n nb nx
  obtain ⟨z',q'⟩:=sl b _ nb q
  exact ⟨z',q'⟩
 ·obtain ⟨o',q⟩:=un.there b o e nx
  by_cases hb : b ∈ frs X.stack
  ·obtain ⟨z',q'⟩:=sl b _ hb q
   exact ⟨_,q'⟩
  ·exact ⟨_,key b o' q (k1 b o e hb)⟩
 ·refine (hok b u e).stay (fun c v hc q=>key c v q ?_) (fun _ q=>q) fun _ _ q=>q
  rcases hc with rfl | z
  ·exact k2 _ u e
  ·exact k2 c _ z
theorem Nz (h : Heap) (l : List Env) : ∀ env ∈ l,∀ b,env.frame = some b → b ∈ frs l:=fun env he b hb=>Ta.mpr ⟨env,he,hb⟩
theorem Inv.slots {h2 : Heap} (hf : s'.heap.FunFrames B X.stack) (u : s'.heap.UpToSlots h2) : ∀ b o,b ∈ frs X.stack → s'.heap.get? b = some o → ∃ z,h2.get? b = some { o with slots:=z }:=fun b o hb e=>by
 obtain ⟨_,o',e',nf⟩:=hf.mem hb
 rw [e] at e'
 cases e'
 exact u b o e nf
end
section
variable {P : Program} {w : World} {K : SR} {mg : Str → Option Value} {base : Heap} {N : List Str} {qual : Str} {scope : Scope} {f : Addr} {cd : Value} {A : Around} {outer : List Env} {s : Shared} {H : Hp} {E : XK}
end
structure EK (K : SR) (x : Str) (C : Addr) : Prop where
 ns : Uz K mainGlobals x = some (some (.ref C))
 ob : ∃ bm N nm q bs hdct sn sub ab col dd k0 k1 k2 k3 k5,K.lookup C = some (excClassObj nm q C N bs bm hdct sn sub ab col dd k0 k1 k2 k3 k5 "ValueError.__new__")
 ex : UA K C [.type "ValueError",.type "Exception",.type "BaseException",.type "object"] "ValueError.__new__" = true
def Om (E : XK) (C : Addr) (t : TA) : TS:=fun _ σ H=>t σ H fun xs H1=>xs.length ≤ sizeLine ∧ E (.ref C) none H1
def Og (X : Cx) (E : XK) : Prop:=∀ (pins : List (Addr × Obj)) (σ : St) (H1 : Hp) (s1 : Shared) (h2 : Heap) (ea : Addr) (cls : Value) (vs : List Value),Inv X pins σ H1 s1 → Heap.MadeExcOf s1.heap h2 ea cls vs → E cls none H1 → X.xe (.ref ea) { s1 with heap:=h2 }
theorem OI {K : SR} {h : Heap} {mg : Str → Option Value} {x : Str} {C : Addr} (X : K.In h) (g : h.Ns mainGlobals mg) (c : EK K x C) : OwnCls x C [.type "ValueError",.type "Exception",.type "BaseException",.type "object"] "ValueError.__new__" mg h:=by
 obtain ⟨bm,N,nm,q,bs,hdct,sn,sub,ab,col,dd,k0,k1,k2,k3,k5,l⟩:=c.ob
 have ex:=c.ex
 unfold UA at ex
 rw [l] at ex
 simp only [excClassObj,Bool.and_eq_true,beq_iff_eq] at ex
 exact ⟨UB X g c.ns,bm,N,nm,q,bs,hdct,sn,sub,ab,col,dd,k0,k1,k2,k3,k5,_,X _ _ l,.of_isNs (PySem.W.isNs_of_in X ex.1.2),PySem.W.nsMap_none_of_in X ex.1.2 ex.2,PySem.W.tail_of_in X ex.1.1.2⟩
theorem BD {X : Cx} {E : XK} {x : Str} {C : Addr} {np cpos pos : Pos} {e₀ : Expr} {Bx : List Expr} {t : TA} (c : EK X.K x C) (hg : Gl X x) (hM : Og X E) (hc : X.calm = true) (ha : PA X (e₀ :: Bx) t)
 (hdb : (x == ("__debug__" : Str)) = false:=by decide) (he : starEach (e₀ :: Bx) X.env = (false,eval e₀ X.env) :: starEach Bx X.env:=by rfl) (hpl : (backTo cpos (starEach Bx X.env)).any (·.1) = false:=by rfl) :
 PS X (.Raise (some (.Call (.Name x np) (e₀ :: Bx) [] cpos)) none pos) (Om E C t):=by
 intro pins s σ H D I h
 have O:=OI I.mod.kin I.mod.glob c
 obtain ⟨tl,N,nm,q,bs,hdct,sn,sub,ab,col,dd,k0,k1,k2,k3,k5,mN,hC,hN,hni,T⟩:=O.obj
 have FB:=PySem.F.excBase_ValueError
 refine wpAny_Raise_call_subT (C:=C) (nm:=nm) (q:=q) (N:=N) (bs:=bs) (bm:=tl) (hdct:=hdct) (sn:=sn) (sub:=sub) (ab:=ab) (col:=col) (dd:=dd) (k0:=k0) (k1:=k1) (k2:=k2) (k3:=k3) (k5:=k5)
  FB (mN:=mN) (T.hasType FB.hasBase) (I.ok.hd hc) (by rw [he]; show (false || (backTo cpos (starEach Bx X.env)).any (·.1)) = false; rw [hpl]; rfl) hni (Dr I hg O.bound ⟨rfl,?_⟩ hdb)
 rw [he]
 refine Calls.evalArgs_plain ?_
 have z:=ha cpos pins s σ H _ I h
 rw [he] at z
 refine thn z fun us s2 ⟨xs,H1,I1,r,hz,hE⟩=>⟨rfl,by rw [← r.length]; exact hz,I1.bk _ _ hC,hN.keeps I1.bk,T.keeps I1.bk,fun h' e hx=>hM pins σ H1 s2 h' e _ _ I1 hx hE⟩
abbrev Cx.marked (X : Cx) (ea : Addr) : Cx:={ X with A:=X.A.mark (some (.ref ea)),calm:=false,xe:=fun _ _=>False }
section
variable {X : Cx} {pins : List (Addr × Obj)} {σ : St} {H H' : Hp} {s s' : Shared} {B : Heap}
theorem Cx.Ok.marked (ok : X.Ok) (ea : Addr) : (X.marked ea).Ok :=
 ⟨ok.mod,ok.kind,ok.glob,ok.blt,ok.above,ok.inj,ok.has,ok.cab,(fun z=>nomatch z),ok.frames,ok.stk,ok.exf,ok.bs,ok.bsz,ok.noex,ok.exfs,ok.funs,ok.frf⟩
theorem Inv.marked (I : Inv X pins σ H s) (ea : Addr) : Inv (X.marked ea) pins σ H s:=⟨I.ok.marked ea,I.os,I.bare,I.base,I.loc,I.cell,I.free,I.freeC,I.pin,I.hok,I.len⟩
theorem Inv.gone {h2 : Heap} {toks : Nat} {i : Nat} {n : Str} {v : Option Value} {m : Str → Option Value} (I : Inv X pins σ H s) (hN : X.N.Nodup) (hi : X.N[i]? = some n)
 (hl : ∀ (j : Nat) (x : Str) (v : V),X.N[j]? = some x → σ[j]? = some (some v) → Vis X.env.scope x → ∃ u,AR v u ∧ Qs X.env s.heap m x u)
 (hn : h2.Ns X.env.locals fun x=>if x = n then v else m x) (sb : Heap.SameBut X.env.locals s.heap h2) : Inv X pins (σ.set i none) H { s with heap:=h2,toks:=toks }:=by
 have kp : ∀ b o,b ≠ X.env.locals → s.heap.get? b = some o → h2.get? b = some o:=fun b o nb e=>(sb.2 b nb).trans e
 have neL : ∀ b o,X.s₀.heap.get? b = some o → b ≠ X.env.locals:=fun b o e=>SJ (SH (Heap.lt_size e) I.ok.above)
 have cellK : ∀ x c,X.env.cells.lookup x = some c → ∀ v,s.heap.IsCell c v → h2.IsCell c v:=fun x c e v ⟨o,ho,hd⟩=>⟨o,kp c o (I.cne x c e) ho,hd⟩
 refine ⟨I.ok,I.os,I.bare,⟨fun b o e nn hb hx=>kp b o (neL b o e) (I.base.keep b o e nn hb hx),fun b o e nn hb hx=>?_,I.base.free,fun b o e hx=>?_,I.base.tups,I.base.frzs,I.base.tbls⟩,⟨_,hn,fun j x v' e1 e2 e3=>?_⟩,fun x c e=>?_,I.free,I.freeC,fun p hp=>?_,fun b u e=>?_,by rw [Ub]; exact I.len⟩
 ·obtain ⟨sl,q⟩:=I.base.slot b o e nn hb hx
  exact ⟨sl,kp b _ (neL b o e) q⟩
 ·obtain ⟨o',q⟩:=I.base.there b o e hx
  exact ⟨o',kp b _ (neL b o e) q⟩
 ·by_cases hij : i = j
  ·subst hij
   rw [List.getElem?_set] at e2
   split at e2
   ·split at e2 <;> cases e2
   ·exact absurd rfl (by assumption)
  ·rw [T6 hij] at e2
   obtain ⟨u,r,l⟩:=hl j x v' e1 e2 e3
   have hx : x ≠ n:=fun z=>hij (Gs hN hi (by rw [← z]; exact e1))
   refine ⟨u,r,?_⟩
   rcases l with ⟨k,l⟩ | ⟨k,c,e,z⟩
   ·exact .inl ⟨k,by show (if x = n then v else m x) = _; rw [if_neg hx]; exact l⟩
   ·exact .inr ⟨k,c,e,cellK x c e _ z⟩
 ·obtain ⟨v,z⟩:=I.cell x c e
  exact ⟨v,cellK x c e v z⟩
 ·obtain ⟨e,nn,ne,nf,d⟩:=I.pin p hp
  exact ⟨kp _ _ ne e,nn,ne,nf,d⟩
 ·refine (I.hok b u e).stay (fun c v hc q=>kp c v ?_ q) (fun _ q=>q) fun _ _ q=>q
  rcases hc with rfl | z
  ·intro y; rw [y,I.free] at e; cases e
  ·intro y; rw [y,I.free] at z; cases z
end
section
open PySem.W PySem.Builtin PySem.Builtin.ObjectAttr PySem.Builtin.Getset_descriptor
variable {prog : Program} {w : World} {A : Around} {E : Value → Shared → Prop} {s : Shared} {K : SR} {x D : Addr}
structure XTy (K : SR) (D : Addr) : Prop where
 ga : findIn K (.ref D) "__getattribute__" = some (some (.builtin "BaseException.__getattribute__"))
 gt : findIn K (.ref D) "__getattr__" = some none
 ca : findIn K (.ref D) "__class__" = some (some (.builtin "object.__class__"))
 gg : specialIn K (.builtin "object.__class__") "__get__" = some (some (.builtin "getset_descriptor.__get__"))
 tk : takesIn K (.builtin "object.__class__") = some true
 ob : mroIn K D (.type "object") = some true
 be : mroIn K D (.type "BaseException") = some true
 cl : ∃ c d cd sl,K.lookup D = some ⟨c,d,.cls cd,sl⟩
theorem Lm (X : K.In s.heap) (T : XTy K D) : Looks (model prog w) s.heap (find (.ref x) (.ref D) "__class__") (.bind (.builtin "getset_descriptor.__get__") (.builtin "object.__class__")):=by
 have L1:=looks_findIn (M:=model prog w) X T.ca
 have L2 : Looks (model prog w) s.heap (getOf (some (.builtin "object.__class__"))) (some (.builtin "getset_descriptor.__get__")):=looks_specialIn X T.gg
 have L3:=looks_takesIn (M:=model prog w) X T.tk
 exact L1.andThen (L2.andThen ((show Looks (model prog w) s.heap (dataDescriptor? (some (.builtin "object.__class__")) (some (.builtin "getset_descriptor.__get__"))) (some (.builtin "getset_descriptor.__get__",.builtin "object.__class__")) from L3.andThen .now).andThen (Looks.tag .now)))
theorem Lw {Q : Option Value → Shared → Prop} (X : K.In s.heap) (L0 : Looks (model prog w) s.heap (typeOf (.ref x)) (.ref D)) (T : XTy K D) (h : Q (some (.ref D)) { s with toks:=s.toks + 1 }) : wpAny (model prog w) A (getAttr? (.ref x) "__class__") Q E s:=by
 have L1:=looks_findIn (M:=model prog w) X T.ga
 have L2:=Lm (prog:=prog) (w:=w) (x:=x) X T
 have L3:=looks_findIn (M:=model prog w) X T.gt
 have L4:=looks_mroIn (M:=model prog w) X T.ob
 obtain ⟨hh,g,d,t,os⟩:=s
 unfold getAttr? getAttrBy? getAttrBy
 have L5:=looks_mroIn (M:=model prog w) X T.be
 refine wpAny_bind (wpAny_mkText (wpAny_bind (wpAny_attempt (wpAny_holding (wpAny_bind (L0.at (wpAny_bind (L1.at ?_))))))))
 have hx2 : (Value.builtin "BaseException.__getattribute__" == Value.builtin "object.__getattribute__") = false:=by decide +kernel
 dsimp only
 rw [hx2,Bool.and_false,if_neg (by decide)]
 have hk : builtinKind "BaseException.__getattribute__" = some .slot:=by decide +kernel
 have hsplit : splitId "BaseException.__getattribute__" = some ("BaseException","__getattribute__"):=by decide +kernel
 have ha:=F.args_bexc_ga (.ref x) (.str "__class__" t)
 unfold getAttrByItsOwn hookBefore
 refine wpAny_bind ?_
 show wpAny _ _ (typeLookup (.ref D) "__getattr__") _ _ _
 refine L3.at (wpAny_bind (wpAny_attempt (wpAny_holding ?_)))
 show wpAny _ _ (boundAndCalled (.builtin "BaseException.__getattribute__") (.ref x) _) _ _ _
 unfold boundAndCalled
 rw [F.excAttr_ValueError.ga.bind (.ref x)]
 refine wpAny_bind (wpAny_pure ?_)
 first | refine wpAny_call (codeAny_call_builtin F.excAttr_ValueError.ga.plain F.entry_bexc_ga ?_) | refine wpAny_holding (wpAny_call (codeAny_call_builtin F.excAttr_ValueError.ga.plain F.entry_bexc_ga ?_))
 simp only [checkBuiltinCall,hk,hsplit]
 unfold isInstance
 show wpAny _ _ (do let b ← (do let tp ← typeOf (.ref x); isSubtype tp (.type "BaseException")); _) _ _ _
 refine wpAny_bind (wpAny_bind (L0.at (L5.at ?_)))
 rw [if_neg (by decide)]
 unfold argsOk at ha
 refine wpAny_of_eq ha ?_
 show wpAny _ _ (Builtin.«object.__getattribute__» ⟨[.ref x,.str "__class__" t],[]⟩) _ _ _
 unfold Builtin.«object.__getattribute__»
 refine wpAny_bind (wpAny_of_eq (show slotArgs "__getattribute__" 1 ⟨[.ref x,.str "__class__" t],[]⟩ = pure (.ref x,[.str "__class__" t]) from by kernel_rfl) ?_)
 refine wpAny_bind (wpAny_of_eq (show attrName (.str "__class__" t) = pure "__class__" from by kernel_rfl) ?_)
 refine wpAny_bind (L0.at (wpAny_bind (L2.at ?_)))
 unfold bindTo
 show wpAny _ _ (holding [Value.builtin "object.__class__"] (call (.builtin "getset_descriptor.__get__") [.builtin "object.__class__",.ref x,.ref D]) >>= ret) _ _ _
 refine wpAny_bind (wpAny_holding (wpAny_call ?_))
 refine codeAny_call_builtin KF.slot_gs.plain KF.entry_gs (KF.slot_gs.check _ _ _ _ _ _ _ _ KF.type_class (KF.args_gs _ _ _) ?_)
 unfold Builtin.«getset_descriptor.__get__» descrGet
 rw [dga_obj]
 refine wpAny_bind (wpAny_pure ?_)
 unfold descrGetter descrCheckInstance descrNameAndClass isInstance
 simp only [KF.owner_class]
 repeat lk
 refine ⟨Code.quiet_builtin _ (by decide +kernel),codeAny_builtin KF.entry_class ?_⟩
 unfold Builtin.«object.__class__» shownTypeOf
 repeat lk
 exact h
def Po (x D : Addr) (h : Heap) : Prop:=∃ o,h.get? x = some o ∧ o.cls = .ref D
theorem KC {M : Model} {h : Heap} (p : Po x D h) : Looks M h (typeOf (.ref x)) (.ref D):=by
 obtain ⟨o,h1,h2⟩:=p
 exact h2 ▸ (Looks.ld h1).andThen .now
theorem MB (T : XTy K D) : KitX K (.ref x) (.ref D) (Po x D) where
 ty:=fun _ _ _ p=>KC p
 it:=fun _ _ X _=>by
  obtain ⟨c,d,cd,sl,ho⟩:=T.cl
  intro A' Q' E' s' k q
  unfold isType loadHead
  exact wpAny_bind (wpAny_loadPart (k _ _ (X _ _ ho)) (wpAny_pure q))
 ne:=fun h tp dd its n sl X htp=>by
  obtain ⟨c,d,cd,sl',ho⟩:=T.cl
  refine Bool.eq_false_iff.mpr fun q=>?_
  have e : D = tp:=Value.ref.inj (beq_iff_eq.mp q)
  subst e
  have z:=(X _ _ ho).symm.trans htp
  cases z
 ca:=fun X p k=>Lw X (KC p) T k
def NG : V → Option Value
 | .ref a=>some (.ref a)
 | .ty T=>some (.type T)
 | _=>none
theorem JC {y : V} {u c : Value} (r : AR y u) (e : NG y = some c) : u = c:=by
 cases y <;> cases e <;> exact r
theorem HF : ∀ {ys : List V} {us cs : List Value},AN ys us → ys.map NG = cs.map some → us = cs
 | _,_,[],.nil,_=>rfl
 | _,_,_ :: _,.nil,e=>nomatch e
 | _,_,[],.cons _ _,e=>nomatch e
 | _,_,c :: cs,.cons r rs,e=>by
   injection e with e1 e2
   rw [JC r e1,HF rs e2]
end
section
open PySem.W
variable {X : Cx} (K : SR)
end
section
variable {P : Program} {w : World} {K : SR} {mg : Str → Option Value} {base : Heap}
end
structure FdX (P : Program) (w : World) (K : SR) (mg : Str → Option Value) (base : Heap) (n : Nat) (x : Str) (ps : List Str) (sp : Sp) : Prop where
 ex : ∃ (f : Addr) (fd : FuncData),AI P w K mg base (CX1 P w) n f fd ps sp ∧ BW K fd ps [] ∧ Tw K (.ref f) = true ∧ mg x = some (.ref f)
end L2
namespace L2
open PySem PySem.Spec PyProof.Rows
section
variable {X : Cx} {tg : Expr}
end
theorem Gy {K : SR} {a : Addr} {js : List Nat} {xs : List V} {te : TE} {σ : St} {H : Hp} {Fin : List V → Hp → Prop} (Pv : Nat → List V → Hp → Prop) (h0 : Pv 0 [] H)
 (hl : ∀ i zs H,i ≤ xs.length → Pv i zs H → SqL K H a xs ∧ zs.length = i) (hz : xs.length ≤ sizeLine)
 (hs : ∀ i x zs H,xs[i]? = some x → Pv i zs H → te ((cS 1 js σ).set 0 (some x)) H fun y H4=>Pv (i + 1) (zs ++ [y]) H4) (fin : ∀ zs H',Pv xs.length zs H' → Fin zs H') :
 ∃ (n' : Nat) (W : Nat → List V → Hp → Prop),W 0 [] H ∧ LcW (Itl K a) n' 1 js σ (C8 0) KW te Fin W:=by
 refine ⟨xs.length,Pv,h0,⟨?_,?_,?_⟩⟩
 ·intro i zs H' hi p
  obtain ⟨h1,h2⟩:=hl i zs H' (SV hi) p
  exact ⟨⟨xs,xs[i],h1,by simp [hi]⟩,by lia⟩
 ·rintro i zs H' x H1 hi p ⟨rfl,y⟩
  exact hs i x zs _ (y xs (hl i zs _ (SV hi) p).1) p
 ·intro zs H' p
  obtain ⟨h1,h2⟩:=hl _ zs H' (T9 _) p
  exact ⟨⟨xs,h1,T9 _⟩,by lia,fin zs H' p⟩
theorem Hj : bootBuiltins "ValueError" = some (.type "ValueError"):=by decide +kernel
end L2
namespace L2
open PySem PySem.Spec PyProof.Rows
theorem Ld {i : Nat} {v : V} {c : TT} {t u Bx : TS} {D : EM} {σ : St} {H : Hp} (Pv : St → Hp → Prop) (h : ∀ nx : St → Hp → Prop,(∀ σ' H',Pv σ' H' → nx σ' H') → N9 c t u { D with nx:=nx } (σ.set i (some v)) H) (k : ∀ σ' H',Pv σ' H' → Bx D σ' H') : C8 i v σ H (Ol (N9 c t u) Bx D):=h _ k
theorem Mv.put' {a l : Addr} {H H' : Hp} {o : HO} (m : Mv a H H') (hl : H l = none) : Mv a H (upd H' l o):=fun b u n q=>by rw [As (Aq q hl)]; exact m b u n q
theorem Mv.free {a l : Addr} {H H' : Hp} (m : Mv a H H') (la : l ≠ a) (h : H' l = none) : H l = none:=by
 cases z : H l with
 | none=>rfl
 | some u=>rw [m l u la z] at h; cases h
theorem Pen.put' {H : Hp} {a l : Addr} {o : HO} (h : Pen H a) (la : l ≠ a) : Pen (upd H l o) a:=let ⟨x0,x1,x2,ex⟩:=h; ⟨x0,x1,x2,by rw [As (Ne.symm la)]; exact ex⟩
theorem Pen.ne' {H : Hp} {a l : Addr} (h : Pen H a) (hl : H l = none) : l ≠ a:=let ⟨_,_,_,ex⟩:=h; (Aq ex hl).symm
def QX (K : SR) (H : Hp) (x : V) (rs : List Rat) : Prop:=∃ a ys,x = .ref a ∧ SqL K H a ys ∧ C7 K H ys rs
abbrev Rows (K : SR) (H : Hp) : List V → List (List Rat) → Prop:=Paired (QX K H)
end L2
namespace L2
open PySem PySem.Spec PyProof.Rows
section
variable {X : Cx}
@[irreducible] def Mb (K : SR) (neg : Bool) : R2:=fun x y H Q=>∃ p ds d,y = .ref p ∧ Rds K H (.ref p) (.list ds) ∧ Rds K H x d ∧ SeqAt.shaped (.list ds) = true ∧ SeqAt.shaped d = true ∧ Q (.bl (if neg then !(ds.any fun y=>PyData.eqv y d) else ds.any fun y=>PyData.eqv y d)) H
theorem GJ {K : SR} {neg : Bool} {x y : V} {H : Hp} {Q : VK} (h : ∃ p ds d,y = .ref p ∧ Rds K H (.ref p) (.list ds) ∧ Rds K H x d ∧ SeqAt.shaped (.list ds) = true ∧ SeqAt.shaped d = true ∧ Q (.bl (if neg then !(ds.any fun y=>PyData.eqv y d) else ds.any fun y=>PyData.eqv y d)) H) : Mb K neg x y H Q:=by
 unfold Mb; exact h
theorem inD (K : SR) {k : Nat} (hr : BA k X.A) (e : X.K = K:=by rfl) : OpR X (compareOp .In) (Mb K false):=by
 subst e
 intro pins s σ H x y v u Q I rx ry h
 unfold Mb at h
 obtain ⟨p,ds,d,rfl,r1,r2,h1,h2,q⟩:=h
 cases ry
 obtain ⟨as,q1⟩:=J1 I r1 (u:=.ref p) rfl
 obtain ⟨bs,q2⟩:=J1 I r2 rx
 exact SeqAt.in_list_reads q1 q2 (SeqAt.canLay_of_shaped h1) (SeqAt.canLay_of_shaped h2) (PyProof.Rows.room_in_shaped h2 (by have:=hr.un; lia)) ⟨.bl _,H,I,rfl,q⟩
end
theorem MW (q : Rat) : ∀ qs : List Rat,((qs.map nD).any fun y=>PyData.eqv y (nD q)) = decide (q ∈ qs)
 | []=>by simp
 | c :: r=>by
   rw [Tu,Uc,ON,MW q r,Bool.eq_iff_iff]
   simp only [Bool.or_eq_true,decide_eq_true_eq,T1]
   constructor
   ·rintro (h | h)
    ·exact .inl h.symm
    ·exact .inr h
   ·rintro (h | h)
    ·exact .inl h.symm
    ·exact .inr h
theorem inN {K : SR} {H : Hp} {x : V} {a : Addr} {xs : List V} {q : Rat} {qs : List Rat} {Q : VK} {neg : Bool} (h1 : BC K H x q) (s2 : SqL K H a xs) (n2 : C7 K H xs qs) (h : Q (.bl (if neg then !decide (q ∈ qs) else decide (q ∈ qs))) H) : Mb K neg x (.ref a) H Q :=
 GJ ⟨a,_,_,rfl,n2.rdsL s2,h1.rds,Ir _,Ll _,by rw [MW]; exact h⟩
def PtV (K : SR) (H : Hp) (x : V) (ps : List Rat) : Prop:=∃ a,x = .ref a ∧ Crv K H a ps
abbrev Pts (K : SR) (H : Hp) : List V → List (List Rat) → Prop:=Paired (PtV K H)
theorem PtV.same {K : SR} {H H' : Hp} {x : V} {ps : List Rat} (h : PtV K H x ps) (e : Ae H H') : PtV K H' x ps:=let ⟨a,h1,h2⟩:=h; ⟨a,h1,h2.same e⟩
structure Ke where
 x : Rat
 k : Int
 n : Rat
deriving DecidableEq
end L2
namespace L2
open PySem PySem.Spec PyProof.Rows
section
variable {X : Cx} {e : Expr} {te : TE}
end
def IJ (t : TGs) (nt : Nat) : Prop:=∀ (vs : List V) (σ : St) (H : Hp) (Q : St → Hp → Prop) (σ0 : St),(σ.length = σ0.length ∧ σ.drop nt = σ0.drop nt) → t vs σ H Q → t vs σ H fun σ2 H2=>(σ2.length = σ0.length ∧ σ2.drop nt = σ0.drop nt) ∧ Q σ2 H2
theorem JN {nt : Nat} : IJ Pa nt:=fun _ _ _ _ _ r ⟨e,q⟩=>⟨e,r,q⟩
theorem Fq {i nt : Nat} {u : TGs} (h : i < nt) (hu : IJ u nt) : IJ (Jr (C8 i) u) nt:=fun vs σ H Q σ0 r ⟨v,rs,e,q⟩=>⟨v,rs,e,hu rs (σ.set i (some v)) H Q σ0 ⟨by rw [Ub]; exact r.1,by
 rw [← r.2]
 apply List.ext_getElem?
 intro k
 rw [Ur,Ur,T6 (by lia)]⟩ q⟩
theorem KZ {K : SR} {n nt : Nat} {t : TGs} (h : IJ t nt) : GQ (Lv K n t) nt:=fun _ σ H Q ⟨a,xs,e,s,l,q⟩=>⟨a,xs,e,s,l,h xs σ H Q σ ⟨rfl,rfl⟩ q⟩
end L2
namespace L2
def NS : List Rat → List Rat → List Rat
 | [],m=>m
 | a :: l,[]=>a :: l
 | a :: l,b :: m=>(a + b) :: NS l m
open PySem PySem.Spec PyProof.Rows
theorem Gx {K : SR} {a : Addr} {js : List Nat} {xs : List V} {te : TE} {σ : St} {H : Hp} {Fin : List V → Hp → Prop} (Pv : Nat → List V → Hp → Prop) (h0 : Pv 0 [] H)
 (hl : ∀ i zs H,i ≤ xs.length → Pv i zs H → SqT K H a xs ∧ zs.length = i) (hz : xs.length ≤ sizeLine)
 (hs : ∀ i x zs H,xs[i]? = some x → Pv i zs H → te ((cS 1 js σ).set 0 (some x)) H fun y H4=>Pv (i + 1) (zs ++ [y]) H4) (fin : ∀ zs H',Pv xs.length zs H' → Fin zs H') :
 ∃ (n' : Nat) (W : Nat → List V → Hp → Prop),W 0 [] H ∧ LcW (Itt K a) n' 1 js σ (C8 0) KW te Fin W:=by
 refine ⟨xs.length,Pv,h0,⟨?_,?_,?_⟩⟩
 ·intro i zs H' hi p
  obtain ⟨h1,h2⟩:=hl i zs H' (SV hi) p
  exact ⟨⟨xs,xs[i],h1,by simp [hi]⟩,by lia⟩
 ·rintro i zs H' x H1 hi p ⟨rfl,y⟩
  exact hs i x zs _ (y xs (hl i zs _ (SV hi) p).1) p
 ·intro zs H' p
  obtain ⟨h1,h2⟩:=hl _ zs H' (T9 _) p
  exact ⟨⟨xs,h1,T9 _⟩,by lia,fin zs H' p⟩
end L2
namespace L2
def ch : Nat → Nat → Nat
 | _,0=>1
 | 0,_ + 1=>0
 | n + 1,k + 1=>ch n k + ch n (k + 1)
def aQ (l : List Rat) : List Rat:=(SK (l.length - 1)).map fun j=>l.getD j 0 + l.getD (j + 1) 0
def aQN : Nat → List Rat → List Rat
 | 0,l=>l
 | n + 1,l=>aQ (aQN n l)
def OH (al : List Rat) : List Rat:=(SK al.length).map fun k=>al.getD k 0 / ((ch (al.length - 1) k : Nat) : Rat)
def QO (al : List Rat) : List Rat:=(SK al.length).map fun j=>(aQN j (OH al)).getD 0 0
def goL (a b : Rat) : Rat → List Rat → List Rat
 | p,[]=>[a * p]
 | p,c :: r=>(a * p + b * c) :: goL a b c r
def MP (a b : Rat) : List Rat → List Rat
 | []=>[]
 | q :: r=>match MP a b r with
   | []=>[q]
   | c :: s=>(q + b * c) :: goL a b c s
def hts (cs : List Rat) (lo hi : Rat) : List Rat:=if cs = [] then [0] else QO (MP (hi - lo) lo cs)
end L2
namespace L2
def sd : List Rat → List Rat
 | []=>[]
 | [_]=>[]
 | _ :: p :: r=>NS (0 :: sd (p :: r)) (MP 1 1 (p :: r))
end L2
namespace L2
open PySem PySem.Spec PyProof.Rows PySem.SeqAt
end L2
namespace L2
def dL : List Rat → List Rat
 | []=>[]
 | _ :: r=>NS r (0 :: dL r)
def ty (x : Rat) : List Rat → List Rat
 | []=>[]
 | q :: r=>NS (q :: ty x r) ((ty x r).map (· * x))
end L2
namespace L2
end L2
namespace L2
open PySem PySem.Spec PyProof.Rows
end L2
namespace PySem
open Sem (wp)
open Builtin
set_option maxRecDepth 100000
end PySem
namespace L2
open PySem PySem.Spec PyProof.Rows
variable {X : Cx}
end L2
namespace L2
open PySem PySem.Spec PyProof.Rows
end L2
namespace L2
open PySem PySem.Spec PyProof.Rows
def kQ (q : Rat) : List Key:=[.inl q.num,.inl (q.den : Int)]
theorem P5 {p q : Rat} (h : kQ p = kQ q) : p = q:=by
 unfold kQ at h
 injection h with h1 h2
 injection h2 with h2 _
 injection h1 with h1
 injection h2 with h2
 exact Rat.ext h1 (Int.ofNat.inj h2)
def FD (H : Hp) (x : V) (q : Rat) : Prop:=∃ r,x = .ref r ∧ H r = some (nT q)
abbrev Bl (H : Hp) : List V → List Rat → Prop:=Paired (FD H)
theorem FD.num {K : SR} {H : Hp} {x : V} {q : Rat} (h : FD H x q) : BC K H x q:=let ⟨r,e,h⟩:=h; ⟨r,e,SqT.of h⟩
theorem FD.same {H H' : Hp} {x : V} {q : Rat} (h : FD H x q) (e : Ae H H') : FD H' x q:=let ⟨r,z,h⟩:=h; ⟨r,z,e _ _ h⟩
theorem Bl.nums {K : SR} {H : Hp} {xs : List V} {qs : List Rat} (h : Bl H xs qs) : C7 K H xs qs:=Paired.mapP h fun _ _ z=>z.num
theorem Bl.same {H H' : Hp} {xs : List V} {qs : List Rat} (h : Bl H xs qs) (e : Ae H H') : Bl H' xs qs:=Paired.mapP h fun _ _ z=>z.same e
def PtT (K : SR) (H : Hp) (x : V) (ps : List Rat) : Prop:=∃ a us p,x = .ref a ∧ SqT K H a us ∧ C7 K H us ps ∧ us[0]? = some (.ref p) ∧ H p = some (nT (ps.getD 0 0))
abbrev Bg (K : SR) (H : Hp) : List V → List (List Rat) → Prop:=Paired (PtT K H)
section
variable {K : SR} {H H' : Hp} {x : V} {ps : List Rat} {xs : List V} {pss : List (List Rat)} {p : Addr} {ys : List V} {o : HO}
theorem PtT.pt (h : PtT K H x ps) : PtV K H x ps:=let ⟨a,us,_,e,h1,h2,_⟩:=h; ⟨a,e,us,h1,h2⟩
theorem PtT.same (h : PtT K H x ps) (e : Ae H H') : PtT K H' x ps:=let ⟨a,us,b,z,h1,h2,h3,h4⟩:=h; ⟨a,us,b,z,h1.same e,h2.same e,h3,e _ _ h4⟩
theorem PtT.mv (h : PtT K H x ps) (pn : Pen H p) (m : Mv p H H') : PtT K H' x ps:=let ⟨a,us,b,z,h1,h2,h3,h4⟩:=h; ⟨a,us,b,z,h1.mv pn m,h2.mv pn m,h3,m b _ (pn.ne h4 (O9 _)) h4⟩
theorem PtT.put (h : PtT K H x ps) (hp : H p = some (.lst ys)) : PtT K (upd H p o) x ps:=let ⟨a,us,b,z,h1,h2,h3,h4⟩:=h; ⟨a,us,b,z,h1.put hp,h2.put hp,h3,by rw [As (DN h4 hp (fun z=>by cases z))]; exact h4⟩
theorem Bg.pts (h : Bg K H xs pss) : Pts K H xs pss:=Paired.mapP h fun _ _ z=>z.pt
theorem Bg.same (h : Bg K H xs pss) (e : Ae H H') : Bg K H' xs pss:=Paired.mapP h fun _ _ z=>z.same e
theorem Bg.mv (h : Bg K H xs pss) (pn : Pen H p) (m : Mv p H H') : Bg K H' xs pss:=Paired.mapP h fun _ _ z=>z.mv pn m
theorem Bg.put (h : Bg K H xs pss) (hp : H p = some (.lst ys)) : Bg K (upd H p o) xs pss:=Paired.mapP h fun _ _ z=>z.put hp
end
def TlT (K : SR) (H : Hp) (v : V) (t : Ke) : Prop:=∃ a p rn,v = .ref a ∧ SqT K H a [.ref p,.int t.k,rn] ∧ H p = some (nT t.x) ∧ BC K H rn t.n
abbrev GP (K : SR) (H : Hp) : List V → List Ke → Prop:=Paired (TlT K H)
section
variable {K : SR} {H H' : Hp} {x : V} {t : Ke} {xs : List V} {ts : List Ke} {p : Addr} {ys : List V} {o : HO}
theorem TlT.same (h : TlT K H x t) (e : Ae H H') : TlT K H' x t:=let ⟨a,b,rn,z,h1,h2,h3⟩:=h; ⟨a,b,rn,z,h1.same e,e _ _ h2,h3.same e⟩
theorem TlT.put (h : TlT K H x t) (hp : H p = some (.lst ys)) : TlT K (upd H p o) x t:=let ⟨a,b,rn,z,h1,h2,h3⟩:=h; ⟨a,b,rn,z,h1.put hp,by rw [As (DN h2 hp (fun z=>by cases z))]; exact h2,h3.put hp⟩
theorem GP.same (h : GP K H xs ts) (e : Ae H H') : GP K H' xs ts:=Paired.mapP h fun _ _ z=>z.same e
theorem GP.put (h : GP K H xs ts) (hp : H p = some (.lst ys)) : GP K (upd H p o) xs ts:=Paired.mapP h fun _ _ z=>z.put hp
end
end L2
namespace L2
end L2
namespace HT
open PySem PyProof.Rows
open PySem.SeqAt
open PySem.AutoSeq1 (wpAny_loadPart')
open PySem.MeetsSeq PySem.MeetsSeq2 PySem.MeetsSeq3
end HT
namespace L2
open PySem PySem.Spec PyProof.Rows
section
variable {X : Cx} {K : SR}
end
end L2
namespace L2
open PySem PySem.Spec PyProof.Rows PySem.SeqAt
section
variable {X : Cx}
end
theorem Jw (xs : List V) (v : Nat) : Jy xs (some (v : Int)) none = xs.drop v:=by
 unfold Jy
 have e1 : HT.sIx xs.length 0 (some (v : Int)) = min v xs.length:=HT.sIx_nat _ _ v
 have e2 : HT.sIx xs.length xs.length none = xs.length:=rfl
 rw [e1,e2]
 by_cases h : v ≤ xs.length
 ·rw [Nat.min_eq_left h,UC (by rw [Ua]; exact T9 _)]
 ·rw [Nat.min_eq_right (by lia),Nat.sub_self,List.take_zero,List.drop_eq_nil_of_le (by lia)]
end L2
namespace L2
open PySem PySem.Spec PyProof.Rows
theorem Pg : bootBuiltins "zip" = some (.type "zip"):=by decide +kernel
section
variable {X : Cx} {pins : List (Addr × Obj)} {σ : List (Option V)} {H : Hp} {s : Shared} {h' : Heap}
theorem Inv.turnedL {t' : Nat} {ch : List Addr} (I : Inv X pins σ H s) (k : ∀ b o,b ∉ ch → s.heap.get? b = some o → h'.get? b = some o) (hf : ∀ b ∈ ch,DS X pins H b) : Inv X pins σ H { s with heap:=h',toks:=t' }:=by
 have nit : ∀ b u,H b = some u → b ∉ ch:=fun b u e z=>by rw [(hf b z).1] at e; cases e
 refine I.step (g':=s.gens) (d':=s.drawn) (ch:=ch) (fun b hb=>?_) (fun b o _ _ hc e _=>k b o hc e) (fun b o _ _ hc e _=>⟨o.slots,k b o hc e⟩) (fun _ _ _ _ n=>n)
  (fun b o hc e=>⟨o,k b o hc e⟩) (fun _ _ e=>e) (fun _ _ _ e=>e) (fun b ps e=>⟨#[],by rw [e]; simp⟩) (fun m hm=>?_) (fun b u e=>?_) I.bare
 ·obtain ⟨_,hL,_,h1,h2,h3⟩:=hf b hb
  exact ⟨h1,hL,h2,h3⟩
 ·obtain ⟨o,es,ep,ho,r⟩:=hm
  exact ⟨o,es,ep,k _ o (fun z=>(hf _ z).2.1 rfl) ho,r⟩
 ·refine (I.hok b u e).stay (fun c v hc q=>k c v ?_ q) (fun _ q=>q) fun _ _ q=>q
  rcases hc with z | z
  ·rw [z]; exact nit b u e
  ·exact nit c _ z
end
section
variable {X : Cx}
end
end L2
namespace L2
open PySem PySem.Spec PyProof.Rows
namespace St
open SetTable
def it (mask : Nat) : Nat → Nat → Nat
 | 0,i=>i
 | n + 1,i=>it mask n ((i * 5 + 1) % (mask + 1))
theorem cover7 : ∀ i : Fin 8,∀ e : Fin 8,∃ m : Fin 8,it 7 m.val i.val = e.val:=by decide +kernel
theorem cover31 : ∀ i : Fin 32,∀ e : Fin 32,∃ m : Fin 32,it 31 m.val i.val = e.val:=by decide +kernel
theorem cover {mask : Nat} (hm : mask = 7 ∨ mask = 31) {i e : Nat} (hi : i < mask + 1) (he : e < mask + 1) : ∃ m,m ≤ mask ∧ it mask m i = e:=by
 rcases hm with rfl | rfl
 ·obtain ⟨m,h⟩:=cover7 ⟨i,hi⟩ ⟨e,he⟩
  exact ⟨m.val,by lia,h⟩
 ·obtain ⟨m,h⟩:=cover31 ⟨i,hi⟩ ⟨e,he⟩
  exact ⟨m.val,by lia,h⟩
def bs (mask : Nat) (b : Nat) : Nat → Nat × Nat
 | 0=>(b % (mask + 1),b)
 | n + 1=>leap mask (bs mask b n).1 (bs mask b n).2
theorem bs_pert (mask b : Nat) : ∀ n,(bs mask b n).2 = b / 32 ^ n
 | 0=>by show b = b / 1; rw [Nat.div_one]
 | n + 1=>by
   show (bs mask b n).2 / 32 = _
   rw [bs_pert mask b n,Nat.div_div_eq_div_mul,Nat.pow_succ]
theorem bs_lt (mask b : Nat) : ∀ n,(bs mask b n).1 < mask + 1
 | 0=>Nat.mod_lt _ (Nat.succ_pos _)
 | _ + 1=>Nat.mod_lt _ (Nat.succ_pos _)
theorem bits_lt (h : Int) : bits h < 2 ^ 64:=by
 unfold bits
 have h1 : (0 : Int) ≤ h % 2 ^ 64:=UD _ (by decide)
 have h2 : h % 2 ^ 64 < 2 ^ 64:=UE _ (by decide)
 lia
theorem bs_late {mask b n : Nat} (hb : b < 2 ^ 64) (hn : 13 ≤ n) : (bs mask b n).2 = 0:=by
 rw [bs_pert]
 refine Nat.div_eq_of_lt (SH hb ?_)
 exact SU (by decide : 2 ^ 64 ≤ 32 ^ 13) (Nat.pow_le_pow_right (by decide) hn)
theorem bs_cyc {mask b : Nat} (hb : b < 2 ^ 64) : ∀ m n,13 ≤ n → (bs mask b (n + m)).1 = it mask m (bs mask b n).1
 | 0,n,_=>rfl
 | m + 1,n,hn=>by
   have ih:=bs_cyc (mask:=mask) hb m (n + 1) (by lia)
   rw [show n + (m + 1) = n + 1 + m by lia,ih]
   show it mask m (leap mask (bs mask b n).1 (bs mask b n).2).1 = it mask m (((bs mask b n).1 * 5 + 1) % (mask + 1))
   rw [bs_late hb hn]
   rfl
theorem bs_hits {mask b e : Nat} (hm : mask = 7 ∨ mask = 31) (hb : b < 2 ^ 64) (he : e < mask + 1) : ∃ n,n ≤ 13 + mask ∧ (bs mask b n).1 = e:=by
 obtain ⟨m,h1,h2⟩:=cover hm (bs_lt mask b 13) he
 exact ⟨13 + m,by lia,by rw [bs_cyc hb m 13 (T9 _)]; exact h2⟩
def base (mask i pert : Nat) : Probe:={ j:=i,more:=runEnd mask i - i,i,perturb:=pert,dummy:=none }
def advs (t : SetTable) : Nat → Probe → Probe
 | 0,p=>p
 | n + 1,p=>advs t n (t.advance p)
theorem advs_add (t : SetTable) : ∀ m n p,advs t (m + n) p = advs t n (advs t m p)
 | 0,n,p=>by rw [UG]; rfl
 | m + 1,n,p=>by rw [show m + 1 + n = (m + n) + 1 by lia]; exact advs_add t m n _
theorem run_le (mask i : Nat) : runEnd mask i - i ≤ 9:=by unfold runEnd; split <;> lia
theorem advs_run (t : SetTable) : ∀ (r j i pert : Nat),advs t (r + 1) { j:=j,more:=r,i:=i,perturb:=pert,dummy:=none } = base t.mask (leap t.mask i pert).1 (leap t.mask i pert).2
 | 0,j,i,pert=>rfl
 | r + 1,j,i,pert=>by
   have ih:=advs_run t r (j + 1) i pert
   show advs t (r + 1) (t.advance { j:=j,more:=r + 1,i:=i,perturb:=pert,dummy:=none }) = _
   rw [← ih]
   rfl
theorem reach (t : SetTable) (h : Int) : ∀ n,∃ k,k ≤ 10 * n ∧ advs t k (t.probeStart h) = base t.mask (bs t.mask (bits h) n).1 (bs t.mask (bits h) n).2
 | 0=>⟨0,T9 _,rfl⟩
 | n + 1=>by
   obtain ⟨k,hk,e⟩:=reach t h n
   refine ⟨k + (runEnd t.mask (bs t.mask (bits h) n).1 - (bs t.mask (bits h) n).1 + 1),?_,?_⟩
   ·have:=run_le t.mask (bs t.mask (bits h) n).1
    lia
   ·rw [advs_add,e]
    exact advs_run t _ _ _ _
theorem slot_empty {t : SetTable} (hd : t.dummies = #[]) {e : Nat} (he : ∀ i : Nat,t.place[i]? ≠ some e) : t.slot e = .empty:=by
 unfold slot
 have h1 : (t.place[below t.place e]? == some e) = false:=by
  rw [beq_eq_false_iff_ne]; exact he _
 have h2 : has t.dummies e = false:=by
  rw [hd]; unfold has; rfl
 simp only [h1,h2]
 rfl
theorem slot_cases {t : SetTable} (hd : t.dummies = #[]) (j : Nat) : t.slot j = .empty ∨ ∃ i,t.slot j = .live i ∧ t.place[i]? = some j:=by
 by_cases h : t.place[below t.place j]? = some j
 ·refine .inr ⟨below t.place j,?_,h⟩
  unfold slot
  have h1 : (t.place[below t.place j]? == some j) = true:=by rw [h]; exact beq_self_eq_true _
  simp only [h1]
  rfl
 ·refine .inl ?_
  unfold slot
  have h1 : (t.place[below t.place j]? == some j) = false:=by rw [beq_eq_false_iff_ne]; exact h
  have h2 : has t.dummies j = false:=by rw [hd]; unfold has; rfl
  simp only [h1,h2]
  rfl
def Hit (t : SetTable) (k : Nat) (p : Probe) : Prop:=t.slot (advs t k p).j = .empty
theorem adv_dummy (t : SetTable) {p : Probe} (h : p.dummy = none) : (t.advance p).dummy = none:=by
 unfold advance
 split
 ·exact h
 ·exact h
theorem nd_le : ∀ {l m : List Nat},l.Nodup → (∀ x,x ∈ l → x ∈ m) → l.length ≤ m.length
 | [],m,_,_=>Tc _
 | a :: l,m,hn,hs=>by
   rw [TN] at hn
   have ha:=hs a SX
   have ih:=nd_le (l:=l) (m:=m.erase a) hn.2 fun x hx=>(List.mem_erase_of_ne (fun e : x = a=>hn.1 (e ▸ hx))).mpr (hs x (SY _ hx))
   rw [List.length_erase_of_mem ha] at ih
   have:=List.length_pos_of_mem ha
   rw [Tq]; lia
theorem start_hit {t : SetTable} (hm : t.mask = 7 ∨ t.mask = 31) (hd : t.dummies = #[]) (hs : t.place.size ≤ t.mask) (h : Int) : ∃ k,k < 10 * turns t.mask ∧ Hit t k (t.probeStart h):=by
 have he : ∃ e,e < t.mask + 1 ∧ ∀ i : Nat,t.place[i]? ≠ some e:=by
  refine Classical.byContradiction fun hn=>?_
  have hall : ∀ e,e < t.mask + 1 → e ∈ t.place.toList:=fun e he=>by
   refine Classical.byContradiction fun hne=>hn ⟨e,he,fun i hi=>hne ?_⟩
   exact U3 (by rw [UH]; exact hi)
  have hsub : (SK (t.mask + 1)).Subset t.place.toList:=fun e he=>hall e (SQ.mp he)
  have hlen:=nd_le (List.nodup_range (n:=t.mask + 1)) hsub
  rw [UI,T7] at hlen
  lia
 obtain ⟨e,he1,he2⟩:=he
 obtain ⟨n,hn,hb⟩:=bs_hits (b:=bits h) hm (bits_lt h) he1
 obtain ⟨k,hk,hr⟩:=reach t h n
 refine ⟨k,?_,?_⟩
 ·unfold turns; lia
 ·unfold Hit
  rw [hr]
  show t.slot (bs t.mask (bits h) n).1 = _
  rw [hb]
  exact slot_empty hd he2
end St
end L2
namespace L2
open PySem PySem.Spec PyProof.Rows
namespace St
open SetTable
section
variable {prog : Program} {w : World} {K : Type} [DecidableEq K] (knd : KeyKind prog w K)
def IsN (h : Heap) (ks : List K) (a : Addr) : Prop:=∃ o items n,h.get? a = some o ∧ o.cls = .type "tuple" ∧ o.data = .seq items n ∧ ItemsAre knd ks items.toList ∧ ∀ v ∈ items.toList,∃ k t,v = .int k t
variable {knd}
theorem IsN.key {h : Heap} {ks : List K} {a : Addr} (x : IsN knd h ks a) : IsTupleKey knd h ks a:=let ⟨o,i,n,h1,h2,h3,h4,_⟩:=x; ⟨o,i,n,h1,h2,h3,h4⟩
theorem IsN.keep {h h' : Heap} {ks : List K} {a : Addr} (x : IsN knd h ks a) (k : ∀ o,h.get? a = some o → h'.get? a = some o) : IsN knd h' ks a:=let ⟨o,i,n,h1,h2⟩:=x; ⟨o,i,n,k o h1,h2⟩
variable {A : Around} {E : Value → Shared → Prop} {s : Shared}
theorem wpAny_seqItemsQ {M : Model} {a : Addr} {o : Obj} {items n} {Q : Option (Array Value) → Shared → Prop} (ho : s.heap.get? a = some o) (hd : o.data = .seq items n) (h : Q (some items) s) : wpAny M A (seqItems? (.ref a)) Q E s:=by
 unfold seqItems?
 refine wpAny_bind (wpAny_load ho ?_)
 rw [hd]
 exact wpAny_pure h
theorem hashByValue_n {ks : List K} {a : Addr} {Q : Bool → Shared → Prop} (hk : IsN knd s.heap ks a) (h : Q true s) : wpAny (model prog w) A (hashByValue 8 (.ref a)) Q E s:=by
 have hT:=hk.key.typeIs
 obtain ⟨o,items,n,ho,_,hd,hi,hall⟩:=hk
 unfold hashByValue
 refine wpAny_bind (wpAny_specialOf hT F.slot_tuple_hash.lookup ?_)
 show wpAny _ _ (seqItems? (.ref a) >>= _) _ _ s
 refine wpAny_bind (wpAny_seqItemsQ ho hd ?_)
 refine wpAny_bind ?_
 show wpAny _ _ (forIn items _ _) _ _ s
 rw [← Array.forIn_toList]
 refine wpAny_forIn_list _ (fun Bx r s'=>r.1 = none ∧ s' = s ∧ ∀ v ∈ Bx,∃ k t,v = Value.int k t) _ ?_ ?_ _ _ ⟨rfl,rfl,hall⟩
 ·rintro v Bx r s' ⟨hr,rfl,hall⟩
  obtain ⟨k,t,rfl⟩:=hall v SX
  refine wpAny_bind (m:=hashByValue 7 (.int k t)) (wpAny_pure ?_)
  simp only [Bool.not_true,Bool.false_eq_true,if_false]
  exact wpAny_pure ⟨rfl,rfl,fun u hu'=>hall u (SY _ hu')⟩
 ·rintro ⟨r1,r2⟩ s' ⟨hr,rfl,_⟩
  simp only at hr
  subst hr
  exact wpAny_pure h
theorem ofClass_n {ks : List K} {a : Addr} {Q : Bool → Shared → Prop} (hk : IsN knd s.heap ks a) (h : Q false s) : wpAny (model prog w) A (ofAClassStatement 8 (.ref a)) Q E s:=by
 have hT:=hk.key.typeIs
 obtain ⟨o,items,n,ho,_,hd,hi,hall⟩:=hk
 unfold ofAClassStatement
 refine wpAny_bind (wpAny_typeOf hT ?_)
 refine wpAny_bind (m:=pure true) (wpAny_pure ?_)
 simp only [Bool.not_true,Bool.false_eq_true,if_false]
 refine wpAny_bind (wpAny_seqItemsQ ho hd ?_)
 refine wpAny_bind ?_
 show wpAny _ _ (forIn items _ _) _ _ s
 rw [← Array.forIn_toList]
 refine wpAny_forIn_list _ (fun Bx r s'=>r.1 = none ∧ s' = s ∧ ∀ v ∈ Bx,∃ k t,v = Value.int k t) _ ?_ ?_ _ _ ⟨rfl,rfl,hall⟩
 ·rintro v Bx r s' ⟨hr,rfl,hall⟩
  obtain ⟨k,t,rfl⟩:=hall v SX
  refine wpAny_bind (m:=ofAClassStatement 7 (.int k t)) (wpAny_pure ?_)
  simp only [Bool.false_eq_true,if_false]
  exact wpAny_pure ⟨rfl,rfl,fun u hu'=>hall u (SY _ hu')⟩
 ·rintro ⟨r1,r2⟩ s' ⟨hr,rfl,_⟩
  simp only at hr
  subst hr
  exact wpAny_pure h
def Ns (knd : KeyKind prog w K) (h : Heap) (l : List Value) (ks : List K) : Prop:=∀ v ∈ l,∃ b k',v = .ref b ∧ IsN knd h k' b ∧ k' ≠ ks
end
end St
end L2
namespace L2
open PySem PySem.Spec PyProof.Rows
namespace St
open SetTable
theorem free_ok {owner : Array (Option Nat)} {b e : Nat} (he : owner.getD e (some 0) = none) : ∀ (fuel m n : Nat),m < fuel → (bs 31 b (n + m)).1 = e →
 ∃ j,layClean.free 31 owner fuel (bs 31 b n).1 (bs 31 b n).2 = some j ∧ owner.getD j (some 0) = none
 | fuel + 1,m,n,hm,hb=>by
   unfold layClean.free
   split
   ·next k hk =>
    have:=List.find?_some hk
    exact ⟨_,rfl,Option.isNone_iff_eq_none.mp this⟩
   ·next hk =>
    cases m with
    | zero =>
      exfalso
      rw [List.find?_eq_none] at hk
      have h0 : (0 : Nat) ∈ SK (runEnd 31 (bs 31 b n).1 + 1 - (bs 31 b n).1):=SQ.mpr (by unfold runEnd; split <;> lia)
      have h1:=hk 0 h0
      rw [Nat.add_zero] at hb h1
      rw [hb,he] at h1
      exact h1 rfl
    | succ m =>
      obtain ⟨j,h1,h2⟩:=free_ok he fuel m (n + 1) (by lia) (by rw [show n + 1 + m = n + (m + 1) by lia]; exact hb)
      exact ⟨j,h1,h2⟩
def lv (owner : Array (Option Nat)) (j : Nat) : Option (Nat × Nat):=(owner.getD j none).map (j,·)
theorem lv_set {owner : Array (Option Nat)} {j k : Nat} (hj : owner.getD j (some 0) = none) (hs : owner.size = 32) : (((SK 32).filterMap (lv (owner.setIfInBounds j (some k)))).map (·.2)).Perm (k :: ((SK 32).filterMap (lv owner)).map (·.2)) ∧ j < 32:=by
 have hjl : j < 32:=by
  refine Nat.lt_of_not_le fun hle=>?_
  rw [UJ,UK (by lia)] at hj
  cases hj
 refine ⟨?_,hjl⟩
 have hsplit : SK 32 = SK j ++ j :: (SK 32).drop (j + 1):=by
  have h1 : (SK 32)[j]? = some j:=List.getElem?_range hjl
  obtain ⟨hlt,hg⟩:=T4.mp h1
  have h2:=(List.take_append_drop j (SK 32)).symm
  rw [List.drop_eq_getElem_cons hlt,hg,List.take_range,Nat.min_eq_left (by lia)] at h2
  exact h2
 have hne1 : ∀ a ∈ SK j,lv (owner.setIfInBounds j (some k)) a = lv owner a:=fun a ha=>by
  have : a ≠ j:=by have:=SQ.mp ha; lia
  unfold lv
  rw [UJ,UJ,UL (Ne.symm this)]
 have hne2 : ∀ a ∈ (SK 32).drop (j + 1),lv (owner.setIfInBounds j (some k)) a = lv owner a:=fun a ha=>by
  have : a ≠ j:=by
   obtain ⟨i,hi⟩:=UM ha
   rw [Ur] at hi
   have hi2:=(T4.mp hi)
   obtain ⟨hl,hi3⟩:=hi2
   rw [UN] at hi3
   lia
  unfold lv
  rw [UJ,UJ,UL (Ne.symm this)]
 have hnew : lv (owner.setIfInBounds j (some k)) j = some (j,k):=by
  unfold lv
  rw [UJ,Array.getElem?_setIfInBounds_self_of_lt (by lia)]; rfl
 have hold : lv owner j = none:=by
  unfold lv
  rw [UJ] at hj ⊢
  have hlt : j < owner.size:=by lia
  rw [UO hlt] at hj ⊢
  show (owner[j]).map _ = none
  have hj' : owner[j] = none:=hj
  rw [hj']; rfl
 have hcong : ∀ {l : List Nat},(∀ a ∈ l,lv (owner.setIfInBounds j (some k)) a = lv owner a) → l.filterMap (lv (owner.setIfInBounds j (some k))) = l.filterMap (lv owner):=fun {l} h=>by
  induction l with
  | nil=>rfl
  | cons a l ih =>
    rw [SW,SW,h a SX,ih fun b hb=>h b (SY _ hb)]
 rw [hsplit,List.filterMap_append,List.filterMap_append,UP hnew,List.filterMap_cons_none hold,hcong hne1,hcong hne2,UQ,UQ,Tu]
 exact List.perm_middle
def Own (owner : Array (Option Nat)) (k : Nat) : Prop:=owner.size = 32 ∧ (((SK 32).filterMap (lv owner)).map (·.2)).Perm (SK k)
theorem own_free {owner : Array (Option Nat)} {k : Nat} (ho : Own owner k) (hk : k < 32) : ∃ e,e < 32 ∧ owner.getD e (some 0) = none:=by
 refine Classical.byContradiction fun hn=>?_
 have hall : ∀ e,e < 32 → owner.getD e (some 0) ≠ none:=fun e he z=>hn ⟨e,he,z⟩
 have hlen:=ho.2.length_eq
 rw [Tx,UI] at hlen
 have hall2 : ∀ a ∈ SK 32,(lv owner a).isSome = true:=fun a ha=>by
  have ha':=SQ.mp ha
  have h1:=hall a ha'
  unfold lv
  rw [UJ] at h1 ⊢
  have hlt : a < owner.size:=by rw [ho.1]; exact ha'
  rw [UO hlt] at h1 ⊢
  cases hc : owner[a] with
  | none=>rw [hc] at h1; exact absurd rfl h1
  | some v=>show ((some v).map (fun x=>(a,x))).isSome = true; rfl
 have hfl : ∀ {l : List Nat},(∀ a ∈ l,(lv owner a).isSome = true) → (l.filterMap (lv owner)).length = l.length:=fun {l} h=>by
  induction l with
  | nil=>rfl
  | cons a l ih =>
    obtain ⟨v,hv⟩:=Option.isSome_iff_exists.mp (h a SX)
    rw [UP hv,Tq,Tq,ih fun b hb=>h b (SY _ hb)]
 rw [hfl hall2,UI] at hlen
 lia
def stp (acc : Option (Array (Option Nat) × Nat)) (h : Int) : Option (Array (Option Nat) × Nat):=do
 let (owner,k) ← acc
 let j ← layClean.free 31 owner (turns 31) (bits h % (31 + 1)) (bits h)
 pure (owner.setIfInBounds j (some k),k + 1)
theorem stp_ok {owner : Array (Option Nat)} {k : Nat} (ho : Own owner k) (hk : k < 32) (h : Int) : ∃ owner',stp (some (owner,k)) h = some (owner',k + 1) ∧ Own owner' (k + 1):=by
 obtain ⟨e,he,hn⟩:=own_free ho hk
 obtain ⟨n,hn1,hn2⟩:=bs_hits (mask:=31) (b:=bits h) (.inr rfl) (bits_lt h) (show e < 31 + 1 by lia)
 obtain ⟨j,hj1,hj2⟩:=free_ok (owner:=owner) (b:=bits h) hn (turns 31) n 0 (by unfold turns; lia) (by rw [UG]; exact hn2)
 have hp:=lv_set (k:=k) hj2 ho.1
 refine ⟨owner.setIfInBounds j (some k),?_,?_,?_⟩
 ·have hj1' : layClean.free 31 owner (turns 31) (bits h % (31 + 1)) (bits h) = some j:=hj1
  show (do let j ← layClean.free 31 owner (turns 31) (bits h % (31 + 1)) (bits h); pure (owner.setIfInBounds j (some k),k + 1)) = _
  rw [hj1']; rfl
 ·rw [Array.size_setIfInBounds]; exact ho.1
 ·refine hp.1.trans ?_
  rw [show SK (k + 1) = SK k ++ [k] from List.range_succ]
  exact (List.Perm.cons k ho.2).trans (List.perm_append_comm (l₁:=[k]))
theorem own_none : Own (UR 32 none) 0:=by
 refine ⟨Array.size_replicate,?_⟩
 have : (SK 32).filterMap (lv (UR 32 none)) = []:=by decide +kernel
 rw [this]; exact List.Perm.refl _
end St
end L2
namespace L2
open PySem PySem.Spec PyProof.Rows
namespace St
open SetTable
section
variable {prog : Program} {w : World} {K : Type} [DecidableEq K] (knd : KeyKind prog w K) (G : Addr → Prop)
variable {knd} {G}
variable {A : Around} {E : Value → Shared → Prop} {s : Shared}
theorem insert_size {α : Type} (xs : Array α) (p : Nat) (x : α) : (insertAt xs p x).size = xs.size + 1:=by
 have h:=(SetTable.insertAt_perm xs p x).length_eq
 rw [T7,T7,Array.size_push] at h
 exact h
end
end St
end L2
namespace L2
open PySem PySem.Spec PyProof.Rows
namespace St
section
variable {prog : Program} {w : World} {K : Type} [DecidableEq K] {knd : KeyKind prog w K} {G : Addr → Prop} {A : Around} {R : Result → Shared → Prop} {I : Addr} {fp wr : List Addr} {GG : Array GenState → Array GenState → Prop} {n : Nat} {P : Nat → Value → Prop} {St : Nat → Shared → Prop}
theorem turn_of {S : Addr} {s : Shared} (hz : wpAny (model prog w) A.in1 (Builtin.«set.update.loop» ⟨[.ref S,.ref I],[]⟩)
 (fun fin s'=>match fin with | .done f=>R (.ok f) s' | .again c'=>c'.quiet = true ∧ codeAny (model prog w) A c' R s') (fun e s'=>R (.error e) s') s) :
 codeAny (model prog w) A (.builtin "set.update.loop" ⟨[.ref S,.ref I],[]⟩) R s :=
 codeAny_builtin F.entry_set_update_loop ((Around.under_plainId F.plain_set_update_loop (A:=A) ⟨[.ref S,.ref I],[]⟩).symm ▸ hz)
end
section
variable {prog : Program} {w : World} {K : Type} [DecidableEq K] {knd : KeyKind prog w K} {A : Around} {E : Value → Shared → Prop} {s : Shared}
abbrev nS (led : Bool) : Obj:={ cls:=.type "set",dict:=none,data:=.set #[] 0 (.fresh 0 0 led) }
abbrev nI (l : Addr) : Obj:={ cls:=.type "list_iterator",data:=.fields #[.ref l,.int 0 0] }
end
end St
end L2
namespace L2
open PySem PySem.Spec PyProof.Rows
theorem Ph : bootBuiltins "set" = some (.type "set"):=by decide +kernel
def MZ (p : Addr) (n : Nat) : HO:=.ext fun h=>∃ o es ep t,h.get? p = some o ∧ o.ExactSet ∧ o.data = .set es ep t ∧ SetTable.fits t es.size = true ∧ es.size = n
theorem P8 {P : Program} {w : World} {H : Hp} {h : Heap} {a : Addr} {q : Rat} (ok : HOk P w H h) (e : H a = some (nT q)) : St.IsN (BO P w) h (kQ q) a:=by
 obtain ⟨_,its,rv,o,ho,hc,n,hd⟩:=ok a _ e
 refine ⟨o,its.toArray,n,ho,hc,hd,HB (ks:=kQ q) rv,fun v hv=>?_⟩
 have hv' : v ∈ its:=by simpa using hv
 cases rv with
 | cons r1 rr =>
   cases rr with
   | cons r2 rr =>
     cases rr
     obtain ⟨t1,rfl⟩:=r1
     obtain ⟨t2,rfl⟩:=r2
     rcases T1.mp hv' with z | z
     ·exact ⟨_,_,z⟩
     ·exact ⟨_,_,Ut.mp z⟩
section
variable {X : Cx}
theorem LC : C9 X (.builtin "len") (fun xs H Q=>∃ (p : Addr) (n : Nat),xs = [.ref p] ∧ H p = some (MZ p n) ∧ n ≤ 1000 ∧ Q (.int (n : Int)) H):=by
 intro pins s σ H xs us Q I r h
 obtain ⟨p,n,rfl,hp,hn,q⟩:=h
 obtain ⟨u,rfl,rfl⟩:=Em r
 obtain ⟨⟨o,es,ep,t,h1,h2,h3,h4,h5⟩,_⟩:=I.hok p _ hp
 subst h5
 exact call_len_set h1 h2 h3 h4 (by lia) ⟨.int _,H,I.tok _,⟨_,rfl⟩,q⟩
end
end L2
namespace L2
open PySem PySem.Spec PyProof.Rows
section
open PySem.W
variable {X : Cx} (K : SR)
theorem GD : kitAny K (.type "list") [.type "list",.type "tuple"] = some true:=by kernel_rfl
theorem Gz : kitAny K (.type "tuple") [.type "list",.type "tuple"] = some true:=by kernel_rfl
end
end L2
namespace L2
open PySem PySem.Spec PyProof.Rows
structure Qt (X : Cx) (N : List Str) (nt : Nat) (js : List Nat) (scope : Scope) (x : Str) : Prop where
 kind : scope.kind = .function
 split : ∃ pre post,scope.names = pre ++ (x,.cell) :: post ∧ (∀ y ∈ pre,y.2 ≠ .cell) ∧ ∀ y ∈ post,y.2 ≠ .cell
 only : ∀ y ∈ scope.names,y.2 = .cell → y.1 = x
 lx : scope.names.lookup x = some .cell
 names : ∀ y ∈ scope.names,y.2 = .local → scope.names.lookup y.1 = some .local
 free : ∀ y ∈ scope.names,y.2 = .free → X.env.kindOf y.1 = some .cell ∨ X.env.kindOf y.1 = some .free
 len : N.length = nt + js.length
 outer : ∀ j i,js[j]? = some i → ∃ x,N[nt + j]? = some x ∧ X.N[i]? = some x ∧ scope.names.lookup x = some .free
section
variable {X : Cx} {N : List Str} {nt : Nat} {js : List Nat} {scope : Scope} {cl : List (Str × Addr)} {x : Str} {c : Addr}
end
section
variable {X : Cx} {N : List Str} {nt : Nat} {js : List Nat} {scope : Scope} {elt iter tg : Expr} {ifs : List Expr} {pos : Pos} {g : TG} {tc : TT} {te : TE} {wi : TI} {xn : Str}
end
def PY (scope sc : Scope) : Scope:={ scope with names:=scope.names.map fun (n,k)=>if (k == .free && sc.kind == .function && sc.names.lookup n == some .cell) then (n,.cell) else (n,k) }
end L2
namespace L2
open PySem PySem.Spec PyProof.Rows
@[reducible] def Cl (u : SR → TS) (K : SR) : TS:=u K
theorem Ad {X : Cx} {st : Stmt} {Bx : List Stmt} {t v : TS} {K : SR} {u : SR → TS} (h1 : PS X st t) (h2 : PSs X Bx v) (e : v = u K) : PSs X (st :: Bx) (Ol t (Cl u K)):=by
 subst e; exact AY h1 h2
section
variable {X : Cx} {o e : Expr} {es : List Expr} {to : TE} {t : TA} {name : Str} {apos cpos : Pos} {T id : String} {r : V → List V → Hp → VK → Prop}
theorem BM (K : SR) (pa : PlainAttrs T) (slot : Slot T name id) (hty : typeOf (.builtin id) = pure (.type "method_descriptor")) (hm : MtR X id r) (ho : PE X o to) (ha : PA X (e :: es) t)
 (hbase : attributeBase o name X.env (eval o X.env) = eval o X.env:=by rfl)
 (hfew : ((backTo cpos (starEach (e :: es) X.env)).all (fun x=>!x.1) && (backToKw cpos (keywordEach [] X.env)).all (fun x=>x.1.isSome)
  && decide ((e :: es).length + ([] : List Keyword).length + (if ([] : List Keyword).isEmpty then 0 else 1) < 30)) = true:=by rfl)
 (hline : (apos.endLine == cpos.line) = true:=by rfl) (hs : starEach (e :: es) X.env = (false,eval e X.env) :: starEach es X.env:=by rfl) (hplain : (backTo cpos (starEach es X.env)).any (·.1) = false:=by rfl) (eK : X.K = K:=by rfl) :
 PE X (.Call (.Attribute o name apos) (e :: es) [] cpos) (tBM K T r to t):=Qa pa slot hty hm ho ha hbase hfew hline hs hplain eK
end
theorem BQ {c : Bool} {A B : Prop} (e : c = true) (h : A) : if c = true then A else B:=by
 rw [if_pos e]; exact h
theorem Bp {c : Bool} {A B : Prop} (e : c = false) (h : B) : if c = true then A else B:=by
 rw [if_neg (by rw [e]; decide)]; exact h
theorem Df {α : Type} {l : List α} {n : Nat} (h : l.length = n + 1) : ∃ a r,l = a :: r ∧ r.length = n:=by
 cases l with
 | nil=>cases h
 | cons a r=>exact ⟨a,r,rfl,Nat.succ.inj h⟩
theorem Fun.binds1 {K : SR} {x qual : Str} {st : Stmt} {f : Addr} {fd : FuncData} (p1 : Str) (F : Fun K x qual st f fd)
 (h : ∀ (kV doc pm : Value) (an : Option Addr) (cdv ct a1 : Value),bindArgs (U6 x qual (Ay st) (Au st) (Af st) .none kV doc pm an cdv ct) ⟨[a1],[]⟩ = pure [(p1,a1)]) : BW K fd [p1] [] :=
 F.binds fun kV doc pm an cdv ct us l0=>by
  obtain ⟨a1,r1,rfl,l1⟩:=Df l0
  cases US.mp l1
  exact h kV doc pm an cdv ct a1
theorem Fun.binds2 {K : SR} {x qual : Str} {st : Stmt} {f : Addr} {fd : FuncData} (p1 p2 : Str) (F : Fun K x qual st f fd)
 (h : ∀ (kV doc pm : Value) (an : Option Addr) (cdv ct a1 a2 : Value),bindArgs (U6 x qual (Ay st) (Au st) (Af st) .none kV doc pm an cdv ct) ⟨[a1,a2],[]⟩ = pure [(p1,a1),(p2,a2)]) : BW K fd [p1,p2] [] :=
 F.binds fun kV doc pm an cdv ct us l0=>by
  obtain ⟨a1,r1,rfl,l1⟩:=Df l0
  obtain ⟨a2,r2,rfl,l2⟩:=Df l1
  cases US.mp l2
  exact h kV doc pm an cdv ct a1 a2
theorem Fun.binds3 {K : SR} {x qual : Str} {st : Stmt} {f : Addr} {fd : FuncData} (p1 p2 p3 : Str) (F : Fun K x qual st f fd)
 (h : ∀ (kV doc pm : Value) (an : Option Addr) (cdv ct a1 a2 a3 : Value),bindArgs (U6 x qual (Ay st) (Au st) (Af st) .none kV doc pm an cdv ct) ⟨[a1,a2,a3],[]⟩ = pure [(p1,a1),(p2,a2),(p3,a3)]) : BW K fd [p1,p2,p3] [] :=
 F.binds fun kV doc pm an cdv ct us l0=>by
  obtain ⟨a1,r1,rfl,l1⟩:=Df l0
  obtain ⟨a2,r2,rfl,l2⟩:=Df l1
  obtain ⟨a3,r3,rfl,l3⟩:=Df l2
  cases US.mp l3
  exact h kV doc pm an cdv ct a1 a2 a3
@[reducible] def L1 {α1 : Type} {δ : Type} (x1 : α1) (u : α1 → δ) : δ:=u x1
@[reducible] def L2 {α1 α2 : Type} {δ : Type} (x1 : α1) (x2 : α2) (u : α1 → α2 → δ) : δ:=u x1 x2
@[reducible] def L3 {α1 α2 α3 : Type} {δ : Type} (x1 : α1) (x2 : α2) (x3 : α3) (u : α1 → α2 → α3 → δ) : δ:=u x1 x2 x3
@[reducible] def L4 {α1 α2 α3 α4 : Type} {δ : Type} (x1 : α1) (x2 : α2) (x3 : α3) (x4 : α4) (u : α1 → α2 → α3 → α4 → δ) : δ:=u x1 x2 x3 x4
@[reducible] def L5 {α1 α2 α3 α4 α5 : Type} {δ : Type} (x1 : α1) (x2 : α2) (x3 : α3) (x4 : α4) (x5 : α5) (u : α1 → α2 → α3 → α4 → α5 → δ) : δ:=u x1 x2 x3 x4 x5
@[reducible] def L6 {α1 α2 α3 α4 α5 α6 : Type} {δ : Type} (x1 : α1) (x2 : α2) (x3 : α3) (x4 : α4) (x5 : α5) (x6 : α6) (u : α1 → α2 → α3 → α4 → α5 → α6 → δ) : δ:=u x1 x2 x3 x4 x5 x6
@[reducible] def L7 {α1 α2 α3 α4 α5 α6 α7 : Type} {δ : Type} (x1 : α1) (x2 : α2) (x3 : α3) (x4 : α4) (x5 : α5) (x6 : α6) (x7 : α7) (u : α1 → α2 → α3 → α4 → α5 → α6 → α7 → δ) : δ:=u x1 x2 x3 x4 x5 x6 x7
@[reducible] def L8 {α1 α2 α3 α4 α5 α6 α7 α8 : Type} {δ : Type} (x1 : α1) (x2 : α2) (x3 : α3) (x4 : α4) (x5 : α5) (x6 : α6) (x7 : α7) (x8 : α8) (u : α1 → α2 → α3 → α4 → α5 → α6 → α7 → α8 → δ) : δ:=u x1 x2 x3 x4 x5 x6 x7 x8
@[reducible] def L9 {α1 α2 α3 α4 α5 α6 α7 α8 α9 : Type} {δ : Type} (x1 : α1) (x2 : α2) (x3 : α3) (x4 : α4) (x5 : α5) (x6 : α6) (x7 : α7) (x8 : α8) (x9 : α9) (u : α1 → α2 → α3 → α4 → α5 → α6 → α7 → α8 → α9 → δ) : δ:=u x1 x2 x3 x4 x5 x6 x7 x8 x9
@[reducible] def L10 {α1 α2 α3 α4 α5 α6 α7 α8 α9 α10 : Type} {δ : Type} (x1 : α1) (x2 : α2) (x3 : α3) (x4 : α4) (x5 : α5) (x6 : α6) (x7 : α7) (x8 : α8) (x9 : α9) (x10 : α10) (u : α1 → α2 → α3 → α4 → α5 → α6 → α7 → α8 → α9 → α10 → δ) : δ:=u x1 x2 x3 x4 x5 x6 x7 x8 x9 x10
@[reducible] def L11 {α1 α2 α3 α4 α5 α6 α7 α8 α9 α10 α11 : Type} {δ : Type} (x1 : α1) (x2 : α2) (x3 : α3) (x4 : α4) (x5 : α5) (x6 : α6) (x7 : α7) (x8 : α8) (x9 : α9) (x10 : α10) (x11 : α11) (u : α1 → α2 → α3 → α4 → α5 → α6 → α7 → α8 → α9 → α10 → α11 → δ) : δ:=u x1 x2 x3 x4 x5 x6 x7 x8 x9 x10 x11
@[reducible] def L12 {α1 α2 α3 α4 α5 α6 α7 α8 α9 α10 α11 α12 : Type} {δ : Type} (x1 : α1) (x2 : α2) (x3 : α3) (x4 : α4) (x5 : α5) (x6 : α6) (x7 : α7) (x8 : α8) (x9 : α9) (x10 : α10) (x11 : α11) (x12 : α12) (u : α1 → α2 → α3 → α4 → α5 → α6 → α7 → α8 → α9 → α10 → α11 → α12 → δ) : δ:=u x1 x2 x3 x4 x5 x6 x7 x8 x9 x10 x11 x12
@[reducible] def L13 {α1 α2 α3 α4 α5 α6 α7 α8 α9 α10 α11 α12 α13 : Type} {δ : Type} (x1 : α1) (x2 : α2) (x3 : α3) (x4 : α4) (x5 : α5) (x6 : α6) (x7 : α7) (x8 : α8) (x9 : α9) (x10 : α10) (x11 : α11) (x12 : α12) (x13 : α13) (u : α1 → α2 → α3 → α4 → α5 → α6 → α7 → α8 → α9 → α10 → α11 → α12 → α13 → δ) : δ:=u x1 x2 x3 x4 x5 x6 x7 x8 x9 x10 x11 x12 x13
@[reducible] def L14 {α1 α2 α3 α4 α5 α6 α7 α8 α9 α10 α11 α12 α13 α14 : Type} {δ : Type} (x1 : α1) (x2 : α2) (x3 : α3) (x4 : α4) (x5 : α5) (x6 : α6) (x7 : α7) (x8 : α8) (x9 : α9) (x10 : α10) (x11 : α11) (x12 : α12) (x13 : α13) (x14 : α14) (u : α1 → α2 → α3 → α4 → α5 → α6 → α7 → α8 → α9 → α10 → α11 → α12 → α13 → α14 → δ) : δ:=u x1 x2 x3 x4 x5 x6 x7 x8 x9 x10 x11 x12 x13 x14
@[reducible] def L15 {α1 α2 α3 α4 α5 α6 α7 α8 α9 α10 α11 α12 α13 α14 α15 : Type} {δ : Type} (x1 : α1) (x2 : α2) (x3 : α3) (x4 : α4) (x5 : α5) (x6 : α6) (x7 : α7) (x8 : α8) (x9 : α9) (x10 : α10) (x11 : α11) (x12 : α12) (x13 : α13) (x14 : α14) (x15 : α15) (u : α1 → α2 → α3 → α4 → α5 → α6 → α7 → α8 → α9 → α10 → α11 → α12 → α13 → α14 → α15 → δ) : δ:=u x1 x2 x3 x4 x5 x6 x7 x8 x9 x10 x11 x12 x13 x14 x15
@[reducible] def L16 {α1 α2 α3 α4 α5 α6 α7 α8 α9 α10 α11 α12 α13 α14 α15 α16 : Type} {δ : Type} (x1 : α1) (x2 : α2) (x3 : α3) (x4 : α4) (x5 : α5) (x6 : α6) (x7 : α7) (x8 : α8) (x9 : α9) (x10 : α10) (x11 : α11) (x12 : α12) (x13 : α13) (x14 : α14) (x15 : α15) (x16 : α16) (u : α1 → α2 → α3 → α4 → α5 → α6 → α7 → α8 → α9 → α10 → α11 → α12 → α13 → α14 → α15 → α16 → δ) : δ:=u x1 x2 x3 x4 x5 x6 x7 x8 x9 x10 x11 x12 x13 x14 x15 x16
@[reducible] def L17 {α1 α2 α3 α4 α5 α6 α7 α8 α9 α10 α11 α12 α13 α14 α15 α16 α17 : Type} {δ : Type} (x1 : α1) (x2 : α2) (x3 : α3) (x4 : α4) (x5 : α5) (x6 : α6) (x7 : α7) (x8 : α8) (x9 : α9) (x10 : α10) (x11 : α11) (x12 : α12) (x13 : α13) (x14 : α14) (x15 : α15) (x16 : α16) (x17 : α17) (u : α1 → α2 → α3 → α4 → α5 → α6 → α7 → α8 → α9 → α10 → α11 → α12 → α13 → α14 → α15 → α16 → α17 → δ) : δ:=u x1 x2 x3 x4 x5 x6 x7 x8 x9 x10 x11 x12 x13 x14 x15 x16 x17
@[reducible] def L18 {α1 α2 α3 α4 α5 α6 α7 α8 α9 α10 α11 α12 α13 α14 α15 α16 α17 α18 : Type} {δ : Type} (x1 : α1) (x2 : α2) (x3 : α3) (x4 : α4) (x5 : α5) (x6 : α6) (x7 : α7) (x8 : α8) (x9 : α9) (x10 : α10) (x11 : α11) (x12 : α12) (x13 : α13) (x14 : α14) (x15 : α15) (x16 : α16) (x17 : α17) (x18 : α18) (u : α1 → α2 → α3 → α4 → α5 → α6 → α7 → α8 → α9 → α10 → α11 → α12 → α13 → α14 → α15 → α16 → α17 → α18 → δ) : δ:=u x1 x2 x3 x4 x5 x6 x7 x8 x9 x10 x11 x12 x13 x14 x15 x16 x17 x18
@[reducible] def L19 {α1 α2 α3 α4 α5 α6 α7 α8 α9 α10 α11 α12 α13 α14 α15 α16 α17 α18 α19 : Type} {δ : Type} (x1 : α1) (x2 : α2) (x3 : α3) (x4 : α4) (x5 : α5) (x6 : α6) (x7 : α7) (x8 : α8) (x9 : α9) (x10 : α10) (x11 : α11) (x12 : α12) (x13 : α13) (x14 : α14) (x15 : α15) (x16 : α16) (x17 : α17) (x18 : α18) (x19 : α19) (u : α1 → α2 → α3 → α4 → α5 → α6 → α7 → α8 → α9 → α10 → α11 → α12 → α13 → α14 → α15 → α16 → α17 → α18 → α19 → δ) : δ:=u x1 x2 x3 x4 x5 x6 x7 x8 x9 x10 x11 x12 x13 x14 x15 x16 x17 x18 x19
@[reducible] def L20 {α1 α2 α3 α4 α5 α6 α7 α8 α9 α10 α11 α12 α13 α14 α15 α16 α17 α18 α19 α20 : Type} {δ : Type} (x1 : α1) (x2 : α2) (x3 : α3) (x4 : α4) (x5 : α5) (x6 : α6) (x7 : α7) (x8 : α8) (x9 : α9) (x10 : α10) (x11 : α11) (x12 : α12) (x13 : α13) (x14 : α14) (x15 : α15) (x16 : α16) (x17 : α17) (x18 : α18) (x19 : α19) (x20 : α20) (u : α1 → α2 → α3 → α4 → α5 → α6 → α7 → α8 → α9 → α10 → α11 → α12 → α13 → α14 → α15 → α16 → α17 → α18 → α19 → α20 → δ) : δ:=u x1 x2 x3 x4 x5 x6 x7 x8 x9 x10 x11 x12 x13 x14 x15 x16 x17 x18 x19 x20
@[reducible] def L21 {α1 α2 α3 α4 α5 α6 α7 α8 α9 α10 α11 α12 α13 α14 α15 α16 α17 α18 α19 α20 α21 : Type} {δ : Type} (x1 : α1) (x2 : α2) (x3 : α3) (x4 : α4) (x5 : α5) (x6 : α6) (x7 : α7) (x8 : α8) (x9 : α9) (x10 : α10) (x11 : α11) (x12 : α12) (x13 : α13) (x14 : α14) (x15 : α15) (x16 : α16) (x17 : α17) (x18 : α18) (x19 : α19) (x20 : α20) (x21 : α21) (u : α1 → α2 → α3 → α4 → α5 → α6 → α7 → α8 → α9 → α10 → α11 → α12 → α13 → α14 → α15 → α16 → α17 → α18 → α19 → α20 → α21 → δ) : δ:=u x1 x2 x3 x4 x5 x6 x7 x8 x9 x10 x11 x12 x13 x14 x15 x16 x17 x18 x19 x20 x21
@[reducible] def L22 {α1 α2 α3 α4 α5 α6 α7 α8 α9 α10 α11 α12 α13 α14 α15 α16 α17 α18 α19 α20 α21 α22 : Type} {δ : Type} (x1 : α1) (x2 : α2) (x3 : α3) (x4 : α4) (x5 : α5) (x6 : α6) (x7 : α7) (x8 : α8) (x9 : α9) (x10 : α10) (x11 : α11) (x12 : α12) (x13 : α13) (x14 : α14) (x15 : α15) (x16 : α16) (x17 : α17) (x18 : α18) (x19 : α19) (x20 : α20) (x21 : α21) (x22 : α22) (u : α1 → α2 → α3 → α4 → α5 → α6 → α7 → α8 → α9 → α10 → α11 → α12 → α13 → α14 → α15 → α16 → α17 → α18 → α19 → α20 → α21 → α22 → δ) : δ:=u x1 x2 x3 x4 x5 x6 x7 x8 x9 x10 x11 x12 x13 x14 x15 x16 x17 x18 x19 x20 x21 x22
@[reducible] def L23 {α1 α2 α3 α4 α5 α6 α7 α8 α9 α10 α11 α12 α13 α14 α15 α16 α17 α18 α19 α20 α21 α22 α23 : Type} {δ : Type} (x1 : α1) (x2 : α2) (x3 : α3) (x4 : α4) (x5 : α5) (x6 : α6) (x7 : α7) (x8 : α8) (x9 : α9) (x10 : α10) (x11 : α11) (x12 : α12) (x13 : α13) (x14 : α14) (x15 : α15) (x16 : α16) (x17 : α17) (x18 : α18) (x19 : α19) (x20 : α20) (x21 : α21) (x22 : α22) (x23 : α23) (u : α1 → α2 → α3 → α4 → α5 → α6 → α7 → α8 → α9 → α10 → α11 → α12 → α13 → α14 → α15 → α16 → α17 → α18 → α19 → α20 → α21 → α22 → α23 → δ) : δ:=u x1 x2 x3 x4 x5 x6 x7 x8 x9 x10 x11 x12 x13 x14 x15 x16 x17 x18 x19 x20 x21 x22 x23
@[reducible] def L24 {α1 α2 α3 α4 α5 α6 α7 α8 α9 α10 α11 α12 α13 α14 α15 α16 α17 α18 α19 α20 α21 α22 α23 α24 : Type} {δ : Type} (x1 : α1) (x2 : α2) (x3 : α3) (x4 : α4) (x5 : α5) (x6 : α6) (x7 : α7) (x8 : α8) (x9 : α9) (x10 : α10) (x11 : α11) (x12 : α12) (x13 : α13) (x14 : α14) (x15 : α15) (x16 : α16) (x17 : α17) (x18 : α18) (x19 : α19) (x20 : α20) (x21 : α21) (x22 : α22) (x23 : α23) (x24 : α24) (u : α1 → α2 → α3 → α4 → α5 → α6 → α7 → α8 → α9 → α10 → α11 → α12 → α13 → α14 → α15 → α16 → α17 → α18 → α19 → α20 → α21 → α22 → α23 → α24 → δ) : δ:=u x1 x2 x3 x4 x5 x6 x7 x8 x9 x10 x11 x12 x13 x14 x15 x16 x17 x18 x19 x20 x21 x22 x23 x24
theorem AD {X : Cx} {c : Expr} {a b : List Stmt} {pos : Pos} {tc : TT} {v1 v2 : TS} {K : SR} {u1 u2 : SR → TS} (hc : PT X c tc) (ha : PSs X a v1) (hb : PSs X b v2) (e1 : v1 = u1 K) (e2 : v2 = u2 K) : PS X (.If c a b pos) (N9 tc (Cl u1 K) (Cl u2 K)):=by
 subst e1; subst e2; exact Q8 hc ha hb
theorem CV {X : Cx} {tg iter : Expr} {body : List Stmt} {wi : TI} {g : TG} {v : TS} {pos : Pos} {K : SR} {u : SR → TS} (hp : PassesOwn (model X.prog X.w) X.A X.env X.xe) (hc : X.calm = true) (hi : PI X tg iter wi) (hg : PG X tg g) (hb : PSs X body v) (e : v = u K)
 (hs : ∀ x,foldedSetIterable iter X.env x = pure x:=by intro _; rfl) : PS X (.For tg iter body [] pos) (PL wi g (Cl u K)):=by
 subst e; exact OA hp hc hi hg hb hs
theorem Mt {a b c d : Nat} (h1 : a = c) (h2 : b = d) : ((a : Int) - (b : Int)).toNat = c - d:=by rw [h1,h2]; exact Int.toNat_sub c d
theorem Ms {a b : Nat} (h : a = b) : ((a : Int) - 1).toNat = b - 1:=Mt (b:=1) h rfl
theorem Nv {a k m t b : Nat} (ha : a ≤ 200) (hk : k < m - 1) (hm : m = 2 ∨ m = 3) (e : a = t) : t + min k b ≤ 204:=by
 rw [← e]
 have h4 : k ≤ 4:=by
  rcases hm with rfl | rfl
  ·exact SU (SV hk) (by decide)
  ·exact SU (SV hk) (by decide)
 exact Nat.add_le_add ha (SU (Nat.min_le_left _ _) h4)
end L2
namespace L2
open PySem PySem.Spec PyProof.Rows
def EL (B : Heap) (l : List Env) (e : Addr) (c a0 m : Value) (h : Heap) : Prop :=
 B.StaysIn h ∧ B.get? e = none ∧ h.FunFrames B l ∧ ∃ (o : Obj) (v : Array Value) (T : Addr) (oT : Obj) (ts : Array Value),h.get? e = some o ∧ o.cls = c ∧ o.data = .fields v ∧ v[0]? = some a0 ∧ v[2]? = some .none ∧
  v[1]? = some (.ref T) ∧ B.get? T = none ∧ T ≠ e ∧ h.get? T = some oT ∧ oT.data = .fields ts ∧ ts[3]? = some m
def Hm (o : Obj) : Prop:=∃ v,o.data = .fields v ∧ v[2]? = some .none
theorem EL.obj {B h : Heap} {l : List Env} {e : Addr} {c a0 m : Value} (x : EL B l e c a0 m h) : ∃ o,h.get? e = some o ∧ o.cls = c ∧ Hm o:=by
 obtain ⟨_,_,_,o,v,_,_,_,q1,q2,q3,_,q5,_⟩:=x
 exact ⟨o,q1,q2,v,q3,q5⟩
section
variable {M : Model} {A : Around} {E : Value → Shared → Prop} {s : Shared} {B : Heap} {env : Env} {outer : List Env} {L e : Addr}
theorem Gr {o : Obj} {v : Array Value} {hd0 a0 : Value} {had : Bool} {Q : Unit → Shared → Prop} (hA : A.frames = some (env :: outer)) (hF : s.heap.FunFrames B (env :: outer)) (hL : env.frame = some L)
 (he : s.heap.get? e = some o) (hB : B.StaysIn s.heap) (hn : B.get? e = none) (hv : o.data = .fields v) (z1 : 1 < v.size) (z0 : v[0]? = some a0) (z2 : v[2]? = some .none)
 (k : ∀ h',EL B (env :: outer) e o.cls a0 (rawInt L) h' → s.heap.UpToSlots h' → Q () { s with heap:=h' }) :
 wpAny M A (do let fr ← frameOf env; let ps ← entryPlaceOf L had; let en ← EntryCells.newEntry hd0 fr .none (rawInt L) .none ps; setField (.ref e) 1 en) Q E s:=by
 have out : e ∉ (env :: outer).filterMap (·.frame):=fun z=>by
  obtain ⟨_,o',e',nf⟩:=hF.mem z
  rw [he] at e'
  cases e'
  exact nf v hv
 refine wpAny_bind (wpAny_frameOf_fun hA hF hL fun g sg=>wpAny_bind (wpAny_entryPlaceOf fun ps hp=>?_))
 unfold EntryCells.newEntry newFields
 refine wpAny_bind (wpAny_newObj_type ?_ (hp.sizeOk5 _ _ _ _ _))
 generalize hob : ({ cls:=.type "traceback",dict:=none,data:=.fields ([hd0,.ref L,.none,rawInt L,.none] ++ (if ps.isEmpty then TR 6 Value.none else ps)).toArray } : Obj) = ob
 have hg : g.get? e = some o:=(sg.2.1 e out).trans he
 have gB : B.StaysIn g:=fun b u q=>(sg.2.1 b fun z=>by rw [(hF.mem z).1] at q; cases q).trans (hB b u q)
 have nT : g.objs.size ≠ e:=T8 (Heap.lt_size hg)
 have hp1 : (g.push ob).get? e = some o:=Heap.get?_push_of_some _ hg
 refine wpAny_setField hp1 hv z1 (k _ ?_ ?_)
 ·have d1:=Obj.data_mapFields hv (·.setIfInBounds 1 (Value.ref g.objs.size))
  have old : ∀ b u,b ≠ e → g.get? b = some u → ((g.push ob).update e (Obj.mapFields (·.setIfInBounds 1 (Value.ref g.objs.size)))).get? b = some u:=fun b u n q=>by
   rw [Heap.get?_update_other _ _ (Ne.symm n)]
   exact Heap.get?_push_of_some _ q
  have fresh : ob.isFreed = false:=by rw [← hob]; rfl
  refine ⟨fun b u q=>old b u (fun z=>by rw [z,hn] at q; cases q) (gB b u q),hn,hF.of_keeps fun b u q nf=>?_,_,_,g.objs.size,ob,_,Heap.get?_update_self _ hp1 (Obj.isFreed_of_fields d1),Obj.cls_mapFields _ _,d1,?_,?_,?_,gB.fresh,nT,?_,by rw [← hob],?_⟩
  ·obtain ⟨sl,q'⟩:=sg.2.2 b u q
   exact ⟨_,old b _ (fun z=>by rw [z,he] at q; cases q; exact nf v hv) q',rfl⟩
  ·rw [UL (by decide)]; exact z0
  ·rw [UL (by decide)]; exact z2
  ·simp [z1]
  ·rw [Heap.get?_update_other _ _ (Ne.symm nT)]
   exact Heap.get?_push_size g fresh
  ·rcases hp with rfl | ⟨_,_,_,_,_,_,_,rfl⟩ <;> simp
 ·intro b u q nf
  obtain ⟨sl,q'⟩:=sg.2.2 b u q
  refine ⟨sl,?_⟩
  rw [Heap.get?_update_other _ _ (fun z=>by rw [← z,he] at q; cases q; exact nf v hv)]
  exact Heap.get?_push_of_some _ q'
theorem O8 {c a0 : Value} {Q : Unit → Shared → Prop} (hA : A.frames = some (env :: outer)) (hL : env.frame = some L) (x : EL B (env :: outer) e c a0 .none s.heap)
 (k : ∀ h',EL B (env :: outer) e c a0 (rawInt L) h' → s.heap.UpToSlots h' → Q () { s with heap:=h' }) : wpAny M A (noteFrame (.ref e) env) Q E s:=by
 obtain ⟨b1,b2,b3,o,v,T,oT,ts,q1,q2,q3,q4,q5,q6,q7,q8,q9,q10,q11⟩:=x
 subst q2
 unfold noteFrame
 simp only [hL]
 refine wpAny_bind (wpAny_field q1 q3 q6 ?_)
 rw [if_pos (by simp)]
 refine wpAny_bind (wpAny_field q9 q10 q11 ?_)
 rw [if_neg (by simp [rawInt])]
 refine wpAny_bind (wpAny_setField q9 q10 (UT.mp q11).1 ?_)
 have no : ∀ b u,s.heap.get? b = some u → (∀ w,u.data ≠ .fields w) → b ≠ T:=fun b u q nf z=>by
  rw [z,q9] at q
  cases q
  exact nf ts q10
 have ot : ∀ b u,b ≠ T → s.heap.get? b = some u → (s.heap.update T (Obj.mapFields (·.setIfInBounds 3 Value.none))).get? b = some u:=fun b u n q=>(Heap.get?_update_other _ _ (Ne.symm n)).trans q
 refine Gr hA (b3.of_keeps fun b u q nf=>⟨u,ot b u (no b u q nf) q,rfl⟩) hL (ot e o (Ne.symm q8) q1) (fun b u q=>ot b u (fun z=>by rw [z,q7] at q; cases q) (b1 b u q)) b2 q3 (UT.mp q6).1 q4 q5 fun h' f us=>k h' f fun b u q nf=>?_
 exact us b u (ot b u (no b u q nf) q) nf
theorem Kw {l : List Env} {c a0 m : Value} {Q : Unit → Shared → Prop} (x : EL B l e c a0 m s.heap) (k : ∀ h',EL B l e c a0 .none h' → s.heap.UpToSlots h' → Q () { s with heap:=h' }) : wpAny M A (setFlight (.ref e) none) Q E s:=by
 obtain ⟨b1,b2,b3,o,v,T,oT,ts,q1,q2,q3,q4,q5,q6,q7,q8,q9,q10,q11⟩:=x
 have z3 : 3 < ts.size:=(UT.mp q11).1
 unfold setFlight
 refine wpAny_bind (wpAny_field q1 q3 q6 ?_)
 rw [if_pos (by simp)]
 refine wpAny_setField q9 q10 z3 ?_
 have no : ∀ b u,s.heap.get? b = some u → (∀ w,u.data ≠ .fields w) → b ≠ T:=fun b u q nf z=>by
  rw [z,q9] at q
  cases q
  exact nf ts q10
 have ot : ∀ b u,b ≠ T → s.heap.get? b = some u → (s.heap.update T (Obj.mapFields (·.setIfInBounds 3 ((none : Option Addr).elim Value.none fun f=>rawInt f)))).get? b = some u:=fun b u n q=>(Heap.get?_update_other _ _ (Ne.symm n)).trans q
 have d1:=Obj.data_mapFields q10 (·.setIfInBounds 3 ((none : Option Addr).elim Value.none fun f=>rawInt f))
 exact k _ ⟨fun b u q=>ot b u (fun z=>by rw [z,q7] at q; cases q) (b1 b u q),b2,b3.of_keeps fun b u q nf=>⟨u,ot b u (no b u q nf) q,rfl⟩,o,v,T,_,_,ot e o (Ne.symm q8) q1,q2,q3,q4,q5,q6,q7,q8,Heap.get?_update_self _ q9 (Obj.isFreed_of_fields d1),d1,by simp [z3]⟩
  fun b u q nf=>⟨u.slots,ot b u (no b u q nf) q⟩
theorem EL.up {c a0 m : Value} {h : Heap} (x : EL B (env :: outer) e c a0 m h) : EL B outer e c a0 m h:=by
 obtain ⟨b1,b2,⟨_,_,b3⟩,r⟩:=x
 exact ⟨b1,b2,b3,r⟩
theorem OO {c a0 : Value} {Q : Unit → Shared → Prop} (hA : A.frames = some (env :: outer)) (hL : env.frame = some L) (x : EL B (env :: outer) e c a0 .none s.heap)
 (k : ∀ h',EL B outer e c a0 .none h' → s.heap.UpToSlots h' → Q () { s with heap:=h' }) : wpAny M A (leaving env (.ref e)) Q E s:=by
 unfold leaving
 exact wpAny_bind (O8 hA hL x fun h1 f1 u1=>Kw (s:={ s with heap:=h1 }) f1 fun h2 f2 u2=>k h2 f2.up (u1.trans u2))
theorem Qc {h : Heap} {c : Value} {vs : List Value} {Q : Unit → Shared → Prop} (hA : A.frames = some (env :: outer)) (hL : env.frame = some L) (hB : B.StaysIn h) (hF : h.FunFrames B (env :: outer)) (hx : Heap.MadeExcOf h s.heap e c vs)
 (k : ∀ h' a0,EL B outer e c a0 .none h' → s.heap.UpToSlots h' → Q () { s with heap:=h' }) : wpAny M A (leaving env (.ref e)) Q E s:=by
 obtain ⟨t,he,_,_⟩:=hx.there
 have fresh : B.get? e = none:=by
  cases q : B.get? e with
  | none=>rfl
  | some u=>have:=hB e u q; rw [hx.new] at this; cases this
 unfold leaving noteFrame
 simp only [hL]
 refine wpAny_bind (wpAny_bind (wpAny_field he rfl (x:=.none) rfl ?_))
 rw [if_neg (by decide)]
 exact Gr hA (hF.of_keeps fun b u q _=>⟨u,hx.keeps b u q,rfl⟩) hL he (fun b u q=>hx.keeps b u (hB b u q)) fresh rfl (show 1 < 6 by decide) rfl rfl
  fun h1 f1 u1=>Kw (s:={ s with heap:=h1 }) f1 fun h2 f2 u2=>k h2 _ f2.up (u1.trans u2)
end
theorem Hh : entryFor table "proto.unchain" = some Builtin.«proto.unchain»:=entryFor_of_fast (by kernel_rfl)
section
variable {prog : Program} {w : World} {A : Around} {E : Value → Shared → Prop} {s : Shared} {ea : Addr} {oe : Obj}
theorem Ot {α : Type} {a : Addr} {o : Obj} {v : Array Value} {Q : α → Shared → Prop} (hh : A.handled = some (.ref ea)) (he : s.heap.get? ea = some oe) (hc : Hm oe) (ha : s.heap.get? a = some o) (hv : o.data = .fields v) (hz : 2 < v.size) (ne : ea ≠ a)
 (k : E (.ref a) { s with heap:=s.heap.update a (Obj.mapFields (·.setIfInBounds 2 (.ref ea))) }) : wpAny (model prog w) A (raiseNew (.ref a) : Sem α) Q E s:=by
 obtain ⟨ve,hd,h2⟩:=hc
 unfold raiseNew
 refine wpAny_bind (wpAny_handled ?_)
 rw [hh]
 dsimp only
 rw [if_pos (by simp [ne])]
 refine wpAny_bind (wpAny_holding (wpAny_runValue (codeAny_builtin Hh ?_)))
 show wpAny _ _ (field (.ref ea) 2 >>= _) _ _ s
 refine wpAny_bind (wpAny_field he hd h2 ?_)
 rw [if_pos (by decide)]
 refine wpAny_bind (wpAny_pure (wpAny_pure ?_))
 refine wpAny_bind ?_
 unfold updateField
 refine wpAny_bind (wpAny_load ha ?_)
 rw [hv]
 dsimp only
 rw [if_pos hz]
 exact wpAny_update ha (wpAny_throw k)
theorem O2 {it : Addr} {h0 : Heap} {α : Type} {P : α → Shared → Prop} {G : Value → Shared → Prop} (hh : A.handled = some (.ref ea)) (he : s.heap.get? ea = some oe) (hc : Hm oe) (hb : Heap.ExtBut it h0 s.heap)
 (k : ∀ a h',Shared.TypeIs { s with heap:=h' } (.ref a) "StopIteration" → Heap.ExtBut it h0 h' → G (.ref a) { s with heap:=h' }) : wpAny (model prog w) A (newExc (.type "StopIteration") [] >>= fun x=>(raiseNew x : Sem α)) P G s:=by
 refine wpAny_bind ?_
 simp only [newExc,newTuple]
 refine wpAny_bind (wpAny_newObj_type ?_ (by size_fits))
 refine wpAny_bind (m:=firstArgMember _ _) (wpAny_of_eq (a:=Value.none) (by first | rfl | (simp only [firstArgMember]; rfl)) ?_)
 refine wpAny_newObj_type ?_ (by size_fits)
 have old : ∀ (b : Addr) (u o1 o2 : Obj),s.heap.get? b = some u → ((s.heap.push o1).push o2).get? b = some u:=fun b u o1 o2 q=>Heap.get?_push_of_some _ (Heap.get?_push_of_some _ q)
 have lt : ∀ (b : Addr) (u o1 : Obj),s.heap.get? b = some u → (s.heap.push o1).objs.size ≠ b:=fun b u o1 q z=>by
  have:=Heap.lt_size q
  rw [← z,Heap.size_push] at this
  exact absurd this (Uo.mpr (TM _))
 refine Ot hh (old ea oe _ _ he) hc (Heap.get?_push_size _ rfl) rfl (show 2 < 6 by decide) (fun z=>lt ea oe _ he z.symm) (k _ _ ⟨_,Heap.get?_update_self _ (Heap.get?_push_size _ rfl) rfl,rfl⟩ fun b u n q=>?_)
 rw [Heap.get?_update_other _ _ (lt b u _ (hb b u n q))]
 exact old b u _ _ (hb b u n q)
theorem Lo {it l : Addr} {i : Nat} {items : Array Value} {Q : Option Value → Shared → Prop} (hh : A.handled = some (.ref ea)) (he : s.heap.get? ea = some oe) (hc : Hm oe) (ni : ea ≠ it) (st : s.heap.IsListIter it l i) (hl : s.heap.IsList l items) (hx : items[i]? = none)
 (k : ∀ h',Heap.ExtBut it s.heap h' → Q none { s with heap:=h' }) : wpAny (model prog w) A (pyNext (.ref it)) Q E s:=by
 obtain ⟨o,q1,q2,q3⟩:=id st
 obtain ⟨ol,p1,_,nl,p2⟩:=hl
 unfold pyNext
 refine wpAny_bind (wpAny_attempt (wpAny_callSpecial?_slot (name:=Str.ofString "__next__") st.typeIs slot_listiter_next (wpAny_call_entry slot_listiter_next st.typeIs entry_listiter_next ?_ (args_listiter_next _))))
 show wpAny _ A.in1 (field (.ref it) 0 >>= _) _ _ s
 refine wpAny_bind (wpAny_field q1 q3 (x:=.ref l) rfl ?_)
 show wpAny _ _ (if (Value.ref l == Value.none) = true then _ else _) _ _ s
 rw [if_neg (fun z=>nomatch z)]
 refine wpAny_bind (wpAny_field q1 q3 (x:=.int i 0) rfl (wpAny_bind (wpAny_seqItems p1 p2 ?_)))
 simp only [U9,hx]
 refine wpAny_bind (wpAny_rule (wpAny_bind (wpAny_setField q1 q3 (by simp) ?_)))
 refine O2 (A:=A.in1) (it:=it) (h0:=s.heap) hh ((Heap.get?_update_other _ _ (Ne.symm ni)).trans he) hc (Heap.SameBut.update ..).extBut fun a h' ty eb=>?_
 exact wpAny_bind (wpAny_isInstance (T:="StopIteration") (b:=true) ty isSubtype_stop (wpAny_pure (k h' eb)))
theorem LO {it l : Addr} {i : Nat} {items : Array Value} {Q : Option Value → Shared → Prop} (hh : A.handled = some (.ref ea)) (he : s.heap.get? ea = some oe) (hc : Hm oe) (ni : ea ≠ it) (st : IsTupIter s.heap it l i) (hl : IsTup s.heap l items) (hx : items[i]? = none)
 (k : ∀ h',Heap.ExtBut it s.heap h' → Q none { s with heap:=h' }) : wpAny (model prog w) A (pyNext (.ref it)) Q E s:=by
 obtain ⟨o,q1,q2,q3⟩:=id st
 obtain ⟨ol,p1,_,nl,p2⟩:=hl
 unfold pyNext
 refine wpAny_bind (wpAny_attempt (wpAny_callSpecial?_slot (name:=Str.ofString "__next__") st.typeIs slot_tupleiter_next (wpAny_call_entry slot_tupleiter_next st.typeIs entry_tupleiter_next ?_ (args_tupleiter_next _))))
 show wpAny _ A.in1 (field (.ref it) 0 >>= _) _ _ s
 refine wpAny_bind (wpAny_field q1 q3 (x:=.ref l) rfl ?_)
 show wpAny _ _ (if (Value.ref l == Value.none) = true then _ else _) _ _ s
 rw [if_neg (fun z=>nomatch z)]
 refine wpAny_bind (wpAny_field q1 q3 (x:=.int i 0) rfl (wpAny_bind (wpAny_seqItems p1 p2 ?_)))
 simp only [U9,hx]
 refine wpAny_bind (wpAny_rule (wpAny_bind (wpAny_setField q1 q3 (by simp) ?_)))
 refine O2 (A:=A.in1) (it:=it) (h0:=s.heap) hh ((Heap.get?_update_other _ _ (Ne.symm ni)).trans he) hc (Heap.SameBut.update ..).extBut fun a h' ty eb=>?_
 exact wpAny_bind (wpAny_isInstance (T:="StopIteration") (b:=true) ty isSubtype_stop (wpAny_pure (k h' eb)))
theorem N5 {env : Env} {es : List Expr} {kk} {pos : Pos} {t : Addr} {items : Array Value} {Q : Unit → Shared → Prop} (hh : A.handled = some (.ref ea)) (he : s.heap.get? ea = some oe) (hc : Hm oe) (ht : IsTup s.heap t items) (hn : (assignEach es env).length = items.size)
 (hs : (assignEach es env).findIdx? (·.1) = none) (k : ∀ h',Heap.ExtBut s.heap.objs.size s.heap h' → wpAny (model prog w) A (assignInOrder ((assignEach es env).map (·.2)) items.toList) Q E { s with heap:=h' }) :
 wpAny (model prog w) A (assign (.Tuple es kk pos) env (.ref t)) Q E s:=by
 have nt : t ≠ s.heap.objs.size:=by obtain ⟨o,q,_⟩:=ht; exact SJ (Heap.lt_size q)
 rw [assign_Tuple]
 refine wpAny_bind (wpAny_standAt ?_)
 unfold unpack
 rw [hn,hs]
 refine wpAny_bind (wpAny_holding ?_)
 unfold unpackItems notIterableAtAll
 refine wpAny_bind (wpAny_bind (wpAny_specialOf ht.typeIs slot_tuple_iter.lookup (wpAny_pure ?_)))
 simp only [Bool.false_eq_true,if_false]
 refine wpAny_bind (wpAny_holding (iter_tuple ht (wpAny_bind (wpAny_holding (draw_tuple nt items.size 0 _ _ ⟨_,Heap.get?_push_size _ rfl,rfl,rfl⟩ (ht.push _) (by lia) fun h1 i1 s1=>?_)))))
 rw [show List.take items.size (List.drop 0 items.toList) = items.toList by rw [List.drop_zero]; exact UC (by simp),if_neg (by simp)]
 have ne : ea ≠ s.heap.objs.size:=SJ (Heap.lt_size he)
 refine wpAny_bind (wpAny_holding (LO (s:={ s with heap:=h1 }) hh (s1.extBut ea oe ne (Heap.get?_push_of_some _ he)) hc ne i1 ((ht.push _).extBut s1.extBut nt) (by simp) fun h2 e2=>?_))
 simp only [Option.isSome_none,Bool.false_eq_true,if_false]
 exact wpAny_pure (k h2 fun b u n q=>e2 b u n (s1.extBut b u n (Heap.get?_push_of_some _ q)))
end
end L2
namespace L2
open PySem PySem.Spec PyProof.Rows
structure Hx (X : Cx) (ea : Addr) (oe : Obj) : Prop where
 hd : X.A.handled = some (.ref ea)
 ct : Hm oe
 ob : X.s₀.heap.get? ea = some oe
 fr : X.H₀ ea = none
 nf : ea ∉ X.fs
 nx : ea ∉ X.ex
section
variable {X : Cx} {pins : List (Addr × Obj)} {σ : St} {H : Hp} {s : Shared} {ea : Addr} {oe : Obj}
theorem Hx.at (x : Hx X ea oe) (I : Inv X pins σ H s) : s.heap.get? ea = some oe:=I.base.keep ea oe x.ob x.fr x.nf x.nx
theorem Hx.no (x : Hx X ea oe) (I : Inv X pins σ H s) : H ea = none:=I.base.free ea oe x.ob x.fr x.nx
theorem Hx.lt (x : Hx X ea oe) : ea < X.s₀.heap.objs.size:=Heap.lt_size x.ob
theorem Hx.ns (x : Hx X ea oe) (I : Inv X pins σ H s) : ea ∉ frs X.stack:=fun z=>by
 rcases T1.mp (I.stkSub ea z) with e | z
 ·exact SJ (SH x.lt I.ok.above) e
 ·exact x.nf z
theorem hxC {N : List Str} {scope : Scope} {fp : List Addr} (x : Hx X ea oe) (I : Inv X pins σ H s) (hf : ∀ b ∈ fp,DS X pins H b) (cl : List (Str × Addr)) (C : Addr) : Hx (AO X N scope cl C s H fp) ea oe :=
 ⟨x.hd,x.ct,x.at I,x.no I,x.ns I,fun z=>by
  rcases (hf ea z).2.2.2.1 with y | y
  ·exact x.nx y
  ·exact absurd x.lt (Uo.mpr y)⟩
theorem K4 {a it : Addr} (x : Hx X ea oe) (i : Nat) (pins : List (Addr × Obj)) (s : Shared) (σ : St) (H : Hp) (E : Value → Shared → Prop) (I : Inv X pins σ H s) (hf : ∀ b ∈ [it],DS X pins H b) (st : s.heap.IsListIter it a i) (hg : (Itl X.K a).stop i H) :
 wpAny (model X.prog X.w) X.A (pyNext (.ref it)) (fun r s1=>r = none ∧ Inv X pins σ H s1) E s:=by
 obtain ⟨xs,hq,hx⟩:=hg
 obtain ⟨its,rv,p,hz⟩:=I.list hq
 obtain ⟨f0,f1,f2,f3,f4,f5⟩:=hf it (Ut.mpr rfl)
 have hl:=rv.length
 have ni : ea ≠ it:=fun z=>by
  rcases f3 with y | y
  ·exact x.nx (z ▸ y)
  ·exact absurd x.lt (Uo.mpr (z ▸ y))
 exact Lo x.hd (x.at I) x.ct ni st p.isList (by simp; lia) fun h' eb=>⟨rfl,I.turned (t':=s.toks) (fun b o hb e=>eb b o hb e) f0 f1 f3 f4 f5⟩
theorem K3 {tg : Expr} {a it : Addr} (i : Nat) (pins : List (Addr × Obj)) (s : Shared) (σ : St) (H : Hp) (E : Value → Shared → Prop) (I : Inv X pins σ H s) (hf : ∀ b ∈ [it],DS X pins H b) (st : s.heap.IsListIter it a i) (hg : (Itl X.K a).go i H) :
 wpAny (model X.prog X.w) X.A (pyNext (.ref it)) (fun r s1=>∃ u,r = some u ∧
  wpAny (model X.prog X.w) X.A (letOwnedTupleGo tg (.ref it) u) (fun _ s2=>∃ x H',Inv X pins σ H' s2 ∧ AR x u ∧ (Itl X.K a).yld i H x H' ∧ s2.heap.IsListIter it a (i + 1) ∧ ∀ b ∈ [it],H' b = none) E s1) E s:=by
 obtain ⟨xs,x,hq,hx⟩:=hg
 obtain ⟨its,rv,p,hz⟩:=I.list hq
 obtain ⟨u,hu,ru⟩:=rv.get hx
 obtain ⟨f0,f1,f2,f3,f4,f5⟩:=hf it (Ut.mpr rfl)
 refine wpAny_pyNext_list_item st p.isList (x:=u) (by simpa using hu) fun h' st' sb=>?_
 have I1 : Inv X pins σ H { s with heap:=h' }:=I.turned (t':=s.toks) (fun b o hb e=>(sb.2 b hb).trans e) f0 f1 f3 f4 f5
 obtain ⟨o,e,c,d⟩:=id st'
 exact ⟨u,rfl,Jq (s:={ s with heap:=h' }) e c d (by decide) ⟨x,H,I1,ru,⟨rfl,fun ys hy=>by rw [I.list_inj hy hq]; exact hx⟩,st',fun b hb=>(hf b hb).1⟩⟩
theorem QL {K : SR} {es : List Expr} {k : Nat} {t : TGs} {n : Nat} {pos : Pos} (x : Hx X ea oe) (h : PGs X es t) (hn : (assignEach es X.env).length = n:=by rfl) (hst : (assignEach es X.env).findIdx? (·.1) = none:=by rfl) (e : X.K = K:=by rfl) : PG X (.Tuple es k pos) (Lv K n t):=by
 subst e
 intro pins s σ H v u Q I r hw
 obtain ⟨a,xs,e1,hq,hl,hw⟩:=hw
 subst e1
 cases r
 obtain ⟨its,rv,ht,hz⟩:=I.tuple hq
 refine N5 x.hd (x.at I) x.ct ht (by simp [hn,← hl,rv.length]) hst fun h' hx=>?_
 have I1 : Inv X pins σ H { s with heap:=h' }:=I.kept (t':=s.toks) fun b o e=>hx b o (SJ (Heap.lt_size e)) e
 exact h pins _ σ H xs _ Q I1 (by simpa using rv) hw
end
section
variable {X : Cx} {N : List Str} {nt : Nat} {js : List Nat} {scope : Scope} {elt iter tg : Expr} {ifs : List Expr} {pos : Pos} {g : TG} {tc : TT} {te tl : TE} {ea : Addr} {oe : Obj}
set_option maxHeartbeats 4000000 in
theorem Lz {pins : List (Addr × Obj)} {σ : St} {H : Hp} {s₂ : Shared} {cl : List (Str × Addr)} {it a : Addr} {E : Value → Shared → Prop} {Fin : List V → Hp → Prop} {W : Nat → List V → Hp → Prop} {nn : Nat}
 {RR : Value → Addr → Result → Shared → Prop} (hx : Hx X ea oe) (ok : Be X N nt js scope)
 (hcl : ∀ x c,cl.lookup x = some c → X.env.cells.lookup x = some c) (hcl2 : ∀ x ∈ scope.names,x.2 = .free → ∃ c,cl.lookup x.1 = some c)
 (hg : ∀ cl C s H fp,Hx (AO X N scope cl C s H fp) ea oe → PG (AO X N scope cl C s H fp) tg g) (hk : GQ g nt) (hc : ∀ cl C s H fp,PTs (AO X N scope cl C s H fp) ifs tc) (he : ∀ cl C s H fp,PE (AO X N scope cl C s H fp) elt te)
 (I : Inv X pins σ H s₂) (st : s₂.heap.IsListIter it a 0) (hf : ∀ b ∈ [it],DS X pins H b) (w0 : W 0 [] H) (lw : LcW (Itl X.K a) nn nt js σ g tc te Fin W)
 (hRR : ∀ D C s' H' zs m,Inv X pins σ (upd H' D (.lst zs)) s' → s'.heap.Ns C m → H' D = none → (upd H' D (.lst zs)) C = none → C ≠ X.env.locals → X.s₀.heap.objs.size ≤ C → (∀ x c,X.env.cells.lookup x = some c → c ≠ C) →
  (∀ p ∈ X.pn ++ pins,p.1 ≠ C) → Fin zs H' → RR (.ref D) C (.ok .next) s') :
 wpAny (model X.prog X.w) X.A (newList []) (fun acc s₃=>wpAny (model X.prog X.w) X.A (newFunctionEnv scope X.env.globals cl [] X.env.qual none .none (some X.env)) (fun cenv s₄ =>
  codeAny (model X.prog X.w) X.A (.compStart (.ListComp elt [⟨tg,iter,ifs,0⟩] scope pos) 0 (.ref it) acc { cenv with scope:=relabel scope X.env }) (RR acc cenv.locals) s₄) E s₃) E s₂:=by
 have T : JG X.prog X.w X.K tg (Itl X.K a) [it] it (fun i h=>h.IsListIter it a i):=Hr a it
 refine wpAny_newObj_type (wpAny_newFunctionEnv ok.nocell (by intro y hy; simp at hy) (fun h₁ hns₁ hsb₁=>?_) ok.kind)
 dsimp only at hns₁ hsb₁ ⊢
 generalize hH2 : s₂.heap.push { cls:=.type "list",dict:=none,data:=.seq ([] : List Value).toArray } = H2 at hns₁ hsb₁ ⊢
 have hC : H2.objs.size = s₂.heap.objs.size + 1:=by rw [← hH2,Heap.size_push]
 have hDC : s₂.heap.objs.size ≠ H2.objs.size:=by rw [hC]; exact SJ (Tz _)
 have hCle : s₂.heap.objs.size ≤ H2.objs.size:=by rw [hC]; exact TM _
 have below : ∀ b,b < s₂.heap.objs.size → b ≠ H2.objs.size ∧ b ≠ s₂.heap.objs.size:=fun b hb=>⟨by rw [hC]; exact SJ (Us hb),SJ hb⟩
 have old : ∀ b o,s₂.heap.get? b = some o → h₁.get? b = some o:=fun b o e=>hsb₁.extBut b o (below b (Heap.lt_size e)).1 (Heap.get?_push_of_some _ (hH2 ▸ Heap.get?_push_of_some _ e))
 have hacc : h₁.get? s₂.heap.objs.size = some (Cy []):=hsb₁.extBut _ _ hDC (Heap.get?_push_of_some _ (hH2 ▸ Heap.get?_push_size _ rfl))
 have ho:=T.obj 0 _ st
 have lt : ∀ b ∈ [it],b < s₂.heap.objs.size:=fun b hb=>by obtain ⟨o,e,_⟩:=ho b hb; exact Heap.lt_size e
 have loop : ∀ s₃ : Shared,s₃ = { s₂ with heap:=h₁,toks:=s₂.toks + ([] : List (Str × Value)).length } →
  codeAny (model X.prog X.w) X.A (.compLoop (.ListComp elt [⟨tg,iter,ifs,0⟩] scope pos) 0 (.ref it) (.ref s₂.heap.objs.size) (compEnvC scope cl H2.objs.size X.env)) (RR (.ref s₂.heap.objs.size) H2.objs.size) s₃:=by
  rintro s₃ rfl
  have I0 : Inv (AO X N scope cl H2.objs.size s₂ H [it]) [(s₂.heap.objs.size,Cy [])] (cS nt js σ) H { s₂ with heap:=h₁,toks:=s₂.toks + ([] : List (Str × Value)).length } :=
   Jo I ok hcl hcl2 hf ho (T9 _) hCle hDC old hns₁ hacc
  have fpy : ∀ {H' : Hp} {ys : List Value},(∀ b ∈ [it],H' b = none) → ∀ b ∈ [it],DS (AO X N scope cl H2.objs.size s₂ H [it]) [(s₂.heap.objs.size,Cy ys)] H' b:=fun {H' ys} hn b hb =>
   ⟨hn b hb,(below b (lt b hb)).1,I0.ok.exfs b hb,.inl hb,(I0.ok.exf b hb).2,fun p hp=>by
    have hp' : p ∈ [(s₂.heap.objs.size,Cy ys)]:=hp
    have e : p = (s₂.heap.objs.size,Cy ys):=by simpa using hp'
    rw [e]; exact Ne.symm (below b (lt b hb)).2⟩
  refine EI (fun n s'=>∃ i zs ys H',n = nn - i ∧ i ≤ nn ∧ Inv (AO X N scope cl H2.objs.size s₂ H [it]) [(s₂.heap.objs.size,Cy ys)] (cS nt js σ) H' s' ∧ AN zs ys ∧ s'.heap.IsListIter it a i ∧ (∀ b ∈ [it],H' b = none) ∧ W i zs H') ?_ nn
   ⟨0,[],[],H,rfl,Tc _,I0,.nil,T.keep 0 _ _ st (fun b _ o e=>old b o e),fun b hb=>(hf b hb).1,w0⟩
  rintro n s' ⟨i,zs,ys,H',hn0,hile,I',rv,st',fr',w'⟩
  by_cases hlt : i < nn
  case neg =>
   have hie : i = nn:=Nat.le_antisymm hile (Uo.mp hlt)
   rw [hie] at w' st'
   obtain ⟨stop,zl,fin⟩:=lw.stop zs H' w'
   refine thn (K4 (hxC hx I hf cl H2.objs.size) nn _ s' _ H' (fun _ _=>False) I' (fpy fr') st' stop) fun r s4 ⟨hr,I4⟩=>?_
   subst hr
   have zD:=(I4.pin (s₂.heap.objs.size,Cy ys) (Tb _ (Ut.mpr rfl)))
   have u:=I4.base
   have u2 : Un (frs X.stack) [it] H (upd H' s₂.heap.objs.size (.lst zs)) s₂.heap s4.heap :=
    ⟨u.keep,u.slot,fun b o q n hx=>by rw [As (SJ (Heap.lt_size q))]; exact u.free b o q n hx,u.there,fun b xs q=>by rw [As (Aq (u.tups b xs q) zD.2.1)]; exact u.tups b xs q,
     fun b o xs q=>by rw [As (Aq (u.frzs b o xs q) zD.2.1)]; exact u.frzs b o xs q,fun b ps q=>by
      obtain ⟨more,e⟩:=u.tbls b ps q
      exact ⟨more,by rw [As (Aq e zD.2.1)]; exact e⟩⟩
   have hok2 : HOk X.prog X.w (upd H' s₂.heap.objs.size (.lst zs)) s4.heap:=HOk.track I4.hok zD.2.1 ⟨zl,ys,_,rv,zD.1⟩
   have I5 : Inv X pins σ (upd H' s₂.heap.objs.size (.lst zs)) s4:=I.call' I4.os u2 hok2 I4.bare fun b hb=>⟨(hf b hb).2.2.2.1,(hf b hb).2.1,(hf b hb).2.2.2.2.1,(hf b hb).2.2.2.2.2⟩
   obtain ⟨m,hn,_⟩:=I4.loc
   refine hRR _ _ s4 H' zs m I5 hn zD.2.1 ?_ ?_ (SU I.sz hCle) ?_ ?_ fin
   ·rw [As (Ne.symm hDC)]; exact I4.free
   ·exact T8 (SH I.lt hCle)
   ·intro x c e z
    obtain ⟨v,q⟩:=I.cell x c e
    exact absurd (SH q.lt (by rw [z]; exact hCle)) (SI _)
   ·intro p hp z
    exact absurd (SH (Heap.lt_size (I.pin p hp).1) (by rw [z]; exact hCle)) (SI _)
  case pos =>
   obtain ⟨go,zl⟩:=lw.go i zs H' hlt w'
   have step:=lw.step i zs H'
   refine thn (K3 (tg:=tg) (X:=AO X N scope cl H2.objs.size s₂ H [it]) i _ s' _ H' (fun _ _=>False) I' (fpy fr') st' go) fun r s4 ⟨u,hr,h4⟩=>?_
   subst hr
   refine thn h4 fun _ s5 ⟨x,H5,I5,r5,y5,st5,fr5⟩=>?_
   have I5':=I5.pinned (fpy fr5) (T.obj _ _ st5)
   refine thn (hg cl _ s₂ H [it] (hxC hx I hf cl _) _ s5 _ H5 x u _ I5' r5 (hk _ _ _ _ (step x H5 hlt w' y5))) fun _ s6 ⟨σ6,H6,I6,⟨hl6,hd6⟩,q6⟩=>?_
   refine thn (hc cl _ s₂ H [it] _ s6 σ6 H6 _ I6 q6) fun okb s7 ⟨H7,I7,q7⟩=>?_
   have frs' : ∀ {H8 : Hp} {σ8 : St} {s8 : Shared},Inv (AO X N scope cl H2.objs.size s₂ H [it]) ([(s₂.heap.objs.size,Cy ys)] ++ EX [it] s5.heap) σ8 H8 s8 → s8.heap.IsListIter it a (i + 1) ∧ ∀ b ∈ [it],H8 b = none:=fun {H8 σ8 s8} I8 =>
    ⟨T.keep _ _ _ st5 fun b hb o e=>(I8.pin (b,o) (Tb _ (Tb _ (Cb hb e)))).1,fun b hb=>by
     obtain ⟨o,e,d⟩:=T.obj _ _ st5 b hb
     exact (I8.pin (b,o) (Tb _ (Tb _ (Cb hb e)))).2.1⟩
   cases okb with
   | false =>
     rw [if_neg Bool.false_ne_true] at q7 ⊢
     obtain ⟨a1,a2⟩:=frs' I7
     exact ⟨nn - (i + 1),by rw [hn0]; exact Uu hlt (Tz i),i + 1,zs,ys,H7,rfl,hlt,I7.unpinned.weak (by rw [hl6]) (FP hl6 hd6),rv,a1,a2,q7⟩
   | true =>
     rw [if_pos rfl] at q7 ⊢
     refine thn (he cl _ s₂ H [it] _ s7 σ6 H7 _ I7 q7) fun v s8 ⟨y,H8,I8,r8,q8⟩=>?_
     have zD:=(I8.pin (s₂.heap.objs.size,Cy ys) (Tb _ (T3 _ (Ut.mpr rfl))))
     have ylen : ys.length < sizeLine:=by rw [← rv.length]; exact zl
     obtain ⟨a1,a2⟩:=frs' I8
     refine append_at (hsz:=by rw [U8]; exact SV ylen) zD.1 fun h9 hs9 hD9=>?_
     have I8u : Inv (AO X N scope cl H2.objs.size s₂ H [it]) [] (cS nt js σ) H8 s8:=(I8.pins_of (pins':=[]) fun p hp=>nomatch hp).weak (by rw [hl6]) (FP hl6 hd6)
     have I9 : Inv (AO X N scope cl H2.objs.size s₂ H [it]) [] (cS nt js σ) H8 { s8 with heap:=h9 }:=I8u.turned (t':=s8.toks) (it:=s₂.heap.objs.size) (fun b o hb e=>hs9.extBut b o hb e) zD.2.1 hDC (.inr (T9 _))
      (fun x c e z=>by
       obtain ⟨v,q⟩:=I.cell x c (hcl x c e)
       exact absurd (SH q.lt (by rw [z]; exact T9 _)) (SI _)) (fun p hp=>nomatch hp)
     refine ⟨nn - (i + 1),by rw [hn0]; exact Uu hlt (Tz i),i + 1,zs ++ [y],ys ++ [v],H8,rfl,hlt,I9.pins_of (fun p hp=>?_),rv.snoc r8,T.keep _ _ _ a1 fun b hb o e=>hs9.extBut b o (below b (lt b hb)).2 e,a2,q8⟩
     have e : p = (s₂.heap.objs.size,Cy (ys ++ [v])):=by simpa using hp
     subst e
     refine ⟨?_,zD.2.1,hDC,zD.2.2.2.1,fun v z=>by cases z⟩
     rw [hD9]
     show some ({ cls:=.type "list",data:=.seq (ys.toArray.push v) (ys.length + 1) } : Obj) = some { cls:=.type "list",data:=.seq (ys ++ [v]).toArray (ys ++ [v]).length }
     rw [U4,Ud,List.push_toArray]
 exact codeAny_compStart_list (loop _ rfl) (T.self _ 0 _ _ _ (T.keep 0 _ _ st (fun b _ o e=>old b o e)) (loop _ rfl))
theorem Oz {K : SR} {i : Nat} {y : Str} {py spos : Pos} (hx : Hx X ea oe) (hN : X.N.Nodup) (hi' : X.N[i]? = some y) (hy : X.env.kindOf y = some .local) (ok : Be X N nt js scope) (hi : PE X iter tl) (hg : ∀ cl C s H fp,Hx (AO X N scope cl C s H fp) ea oe → PG (AO X N scope cl C s H fp) tg g) (hk : GQ g nt)
 (hc : ∀ cl C s H fp,PTs (AO X N scope cl C s H fp) ifs tc) (he : ∀ cl C s H fp,PE (AO X N scope cl C s H fp) elt te)
 (hsw : swapsWith (.ListComp elt [⟨tg,iter,ifs,0⟩] scope pos) (some (.Name y py)) spos.line X.env = pure true) (hs : ∀ x,foldedSetIterable iter X.env x = pure x:=by intro _; rfl) (eK : X.K = K:=by rfl) :
 PS X (.Assign [.Name y py] (.ListComp elt [⟨tg,iter,ifs,0⟩] scope pos) spos) (KY (tLC (Jp K tl) nt js g tc te) (C8 i)):=by
 subst eK
 intro pins s σ H D₀ I h
 obtain ⟨cl,hclos,hcl,hcl2⟩:=CY (scope:=scope) (env:=X.env) fun x hx hf=>I.ok.has x.1 (ok.free x hx hf)
 rw [exec_Assign_Name_used _ _ _ _ hsw]
 refine wpAny_bind (wpAny_standAt (wpAny_bind ?_))
 show wpAny _ X.A (do let _ ← comprehension (.ListComp elt [⟨tg,iter,ifs,0⟩] scope pos) scope X.env _ (newList []) false (eval iter X.env) (some (assign (.Name y py) X.env))) _ _ s
 refine wpAny_bind (wpAny_mono (wpAny_comprehension_free (use:=some (assign (.Name y py) X.env)) (Q:=fun _ s'=>SP X pins D₀ .next s') rfl hs hclos ok.kind ok.names
  (thn (hi pins s σ H _ I (Mz (show tLC (Jp X.K tl) nt js g tc te σ H fun x H1=>C8 i x σ H1 D₀.nx from h))) fun v s1 ⟨x,H1,I1,r1,q1⟩=>?_)) (fun _ s' hq=>wpAny_pure (wpAny_pure hq)) fun _ _ e=>e)
 obtain ⟨a,e,⟨xs,hq⟩,nn,W,w0,lw⟩:=q1
 subst e
 cases r1
 obtain ⟨its,rv,p,hz⟩:=I1.list hq
 refine wpAny_pyIter_list p.isList ?_
 have I2 : Inv X pins σ H1 { s1 with heap:=s1.heap.push { cls:=.type "list_iterator",data:=.fields #[.ref a,.int 0 0] } }:=I1.kept (t':=s1.toks) fun b o e=>Heap.get?_push_of_some _ e
 have f2 : ∀ b ∈ [s1.heap.objs.size],DS X pins H1 b:=fun b hb=>by
  have e : b = s1.heap.objs.size:=Ut.mp hb
  subst e
  exact I1.fpOk (T9 _) (I1.hok.fresh (T9 _))
 refine Lz (RR:=fun acc C=>compPost (model X.prog X.w) X.A X.xe (some (assign (.Name y py) X.env)) (fun _ s'=>SP X pins D₀ .next s') acc C) hx ok hcl hcl2 hg hk hc he I2 ⟨_,Heap.get?_push_size _ rfl,rfl,rfl⟩ f2 w0 lw ?_
 intro D C s' H' zs m I3 hn hDn hCn hCL hC0 hCc hCp fin
 show wpAny _ X.A (assign (.Name y py) X.env (.ref D)) _ _ _
 refine wpAny_assign_Name (EO (v:=.ref D) I3 hN hi' (.inl hy) rfl (fun s3 I4 hsb=>?_) (.inr hy))
 obtain ⟨a,hsb,ha⟩:=hsb
 have haC : C ≠ a:=by
  rcases ha with z | z
  ·rw [z]; exact hCL
  ·exact Ne.symm (hCc y a z)
 refine ⟨m,hn.sameBut hsb haC,fun h'' hs''=>?_⟩
 exact ⟨_,_,I4.turned (t':=s3.toks) (it:=C) (fun b o hb e=>hs''.extBut b o hb e) hCn hCL (.inr hC0) hCc hCp,fin D hDn⟩
end
end L2
namespace L2
open PySem PySem.Spec PyProof.Rows
def CX2 (P : Program) (w : World) : CXT:=fun outer H s E e s'=>∃ (ea : Addr) (cls a0 : Value) (B : Heap) (H' : Hp),e = .ref ea ∧ s'.os = s.os ∧ AllBare s'.gens ∧ Un (frs outer) [] H H' s.heap s'.heap ∧ HOk P w H' s'.heap ∧
 EL B outer ea cls a0 .none s'.heap ∧ (∀ b o,s.heap.get? b = some o → b ∉ frs outer → ∃ o',B.get? b = some o') ∧ (∀ b u,H' b = some u → ∃ o',B.get? b = some o') ∧ E cls none H'
section
variable {P : Program} {w : World} {K : SR} {mg : Str → Option Value} {base : Heap} {N : List Str} {qual : Str} {scope : Scope} {f : Addr} {cd : Value} {A : Around} {outer : List Env} {s : Shared} {H : Hp} {E : XK}
theorem Cm : Og (Dx (CX2 P w) P w K mg base N qual scope f cd A outer s H E) E:=by
 intro pins σ H1 s1 h2 ea cls vs I hx hE
 have k1 : ∀ b o,s1.heap.get? b = some o → b ∉ frs (Dx (CX2 P w) P w K mg base N qual scope f cd A outer s H E).stack → ∃ o',(SM s1.heap (frs (Dx (CX2 P w) P w K mg base N qual scope f cd A outer s H E).stack)).get? b = some o':=fun b o e n=>⟨o,PySem.W.hideAll_get _ e n⟩
 have k2 : ∀ b u,H1 b = some u → ∃ o',(SM s1.heap (frs (Dx (CX2 P w) P w K mg base N qual scope f cd A outer s H E).stack)).get? b = some o':=fun b u e=>by
  obtain ⟨o,q⟩:=(I.hok b u e).got
  exact k1 b o q fun z=>by rw [I.stkFree b z] at e; cases e
 refine Qc (B:=SM s1.heap (frs (Dx (CX2 P w) P w K mg base N qual scope f cd A outer s H E).stack)) (h:=s1.heap) (outer:=outer) I.ok.frames rfl (fun b o q=>SO _ q) (PySem.W.funFrames_hide I.stack (Nz s1.heap _)) hx fun h' t fly us=>?_
 have us1 : s1.heap.UpToSlots h':=(Heap.UpToSlots.of_keeps hx.keeps).trans us
 have J:=I.flown (s':=s1) (toks:=s1.toks) Un.refl I.hok rfl I.bare (fun b o q=>SO _ q) k1 k2 fly.1 (Inv.slots I.stack us1)
 refine ⟨ea,cls,_,_,H1,rfl,I.os,I.bare,J.base,J.hok,fly,fun b o e n=>?_,k2,hE⟩
 obtain ⟨o1,q⟩:=I.base.there b o e (fun z=>nomatch z)
 refine k1 b o1 q fun z=>?_
 rcases T1.mp (I.stkSub b z) with e1 | z
 ·exact SJ (SH (Heap.lt_size e) I.ok.above) e1
 ·exact n z
theorem Hv : CL (CX2 P w) (Dx (CX2 P w) P w K mg base N qual scope f cd A outer s H E) E:=by
 rintro pins σ H1 s1 e s2 I ⟨ea,cls,a0,B,H',rfl,os,bare,un,hok,fly,k1,k2,hE⟩
 refine OO (B:=B) (outer:=outer) I.ok.frames rfl fly fun h' fly' us=>?_
 have J:=I.flown (toks:=s2.toks) un hok os bare fly.1 k1 k2 fly'.1 (Inv.slots fly.2.2.1 us)
 refine ⟨ea,cls,a0,B,H',rfl,os.trans I.os,bare,J.base,J.hok,fly',fun b o e n=>?_,k2,hE⟩
 obtain ⟨o1,q⟩:=I.base.there b o e (fun z=>nomatch z)
 refine k1 b o1 q fun z=>?_
 rcases T1.mp (I.stkSub b z) with e1 | z
 ·exact SJ (SH (Heap.lt_size e) I.ok.above) e1
 ·exact n z
theorem Fun.okY {x : Str} {st : Stmt} {fd : FuncData} {ps : List Str} {k : Nat} {sp : Sp} (F : Fun K x qual st f fd) (S : AA N ps (Af st)) (len : ∀ vs H Q E,sp vs H Q E → vs.length = ps.length)
 (hbody : ∀ (cdv : Value) (A : Around) (outer : List Env) (s : Shared) (H : Hp) (vs : List V) (Q : VK) (E : XK),BA k (A.deeper (envOfC qual (Af st) s.heap.objs.size f cdv)) → sp vs H Q E →
  ∃ t,PSs (Dx (CX2 P w) P w K mg base N qual (Af st) f cdv A outer s H E) (Au st) t ∧ t { nx:=fun _ H'=>Q .non H',rt:=Q } (Du N vs) H) : AI P w K mg base (CX2 P w) (k + 1) f fd ps sp:=by
 obtain ⟨oc,od,kV,doc,pm,an,cdv,ct,osl,rfl,lk,hcd⟩:=F.ex
 exact Oc lk hcd S len fun A outer s H vs Q E hr hsp=>hbody cdv A outer s H vs Q E hr hsp
theorem AI.calm {fd : FuncData} {ps : List Str} {k : Nat} {sp : Sp} {CX : CXT} (F : AI P w K mg base CX0 k f fd ps sp) : AI P w K mg base CX k f fd ps sp :=
 ⟨F.len,fun A outer s H args us vs Q E hr he hb hv hs=>codeAny_mono (F.run A outer s H args us vs Q E hr he hb hv hs) fun r s' q=>by
  cases r with
  | ok fl=>cases fl <;> exact q
  | error e=>exact False.elim q⟩
theorem AI.or {fd : FuncData} {ps : List Str} {k : Nat} {sp sp' : Sp} {CX : CXT} (F : AI P w K mg base CX k f fd ps sp) (G : AI P w K mg base CX k f fd ps sp') : AI P w K mg base CX k f fd ps (fun vs H Q E=>sp vs H Q E ∨ sp' vs H Q E) :=
 ⟨fun vs H Q E h=>h.elim (F.len vs H Q E) (G.len vs H Q E),fun A outer s H args us vs Q E hr he hb hv hs=>hs.elim (F.run A outer s H args us vs Q E hr he hb hv) (G.run A outer s H args us vs Q E hr he hb hv)⟩
end
structure FdY (P : Program) (w : World) (K : SR) (mg : Str → Option Value) (base : Heap) (n : Nat) (x : Str) (ps : List Str) (sp : Sp) : Prop where
 ex : ∃ (f : Addr) (fd : FuncData),AI P w K mg base (CX2 P w) n f fd ps sp ∧ BW K fd ps [] ∧ Tw K (.ref f) = true ∧ mg x = some (.ref f)
theorem EY {X : Cx} {n k : Nat} {x : Str} {ps : List Str} {sp : Sp} {E : XK} {e : Expr} {es : List Expr} {t : TA} {p pos : Pos} (F : FdY X.prog X.w X.K X.mg X.base n x ps sp) (hr : BA k X.A) (hg : Gl X x) (hp : CL (CX2 X.prog X.w) X E) (ha : PA X (e :: es) t) (hn : n ≤ k:=by decide)
 (hdb : (x == ("__debug__" : Str)) = false:=by decide) (he : starEach (e :: es) X.env = (false,eval e X.env) :: starEach es X.env:=by rfl) (hpl : (backTo pos (starEach es X.env)).any (·.1) = false:=by rfl) :
 PE X (.Call (.Name x p) (e :: es) [] pos) (LX sp [] E t):=by
 obtain ⟨f,fd,F1,F2,F3,F4⟩:=F.ex
 exact Kt F1 (hr.mono hn) hg F4 F3 F2 .nil hp ha hdb he hpl
abbrev TB:=(St → Hp → Prop) → XK → St → Hp → Prop
def PB (X : Cx) (body : List Stmt) (t : TB) : Prop:=∀ (pins : List (Addr × Obj)) (s : Shared) (σ : St) (H : Hp) (nx : St → Hp → Prop) (E : XK),Inv X pins σ H s → t nx E σ H →
 wpAny (model X.prog X.w) X.A (execs body X.env) (fun fl s1=>fl = .next ∧ ∃ σ' H',Inv X pins σ' H' s1 ∧ nx σ' H') (fun e s2=>∃ H1 s1,Inv X pins σ H1 s1 ∧ CX2 X.prog X.w X.stack H1 s1 E e s2) s
section
variable {X : Cx} {n k : Nat} {x : Str} {ps : List Str} {sp : Sp} {e : Expr} {es : List Expr} {t : TA} {p pos : Pos}
end
abbrev SpH:=Value → Addr → Hp → VK → Prop
structure FnH (P : Program) (w : World) (K : SR) (mg : Str → Option Value) (base : Heap) (k : Nat) (f : Addr) (fd : FuncData) (x : Str) (sp : SpH) : Prop where
 run : ∀ (A : Around) (outer : List Env) (s : Shared) (H : Hp) (ea : Addr) (oe : Obj) (Q : VK),BA k A → IK P w K mg base (A.mark (some (.ref ea))) outer s H → BindsTo s fd ⟨[.ref ea],[]⟩ [(x,.ref ea)] → s.heap.get? ea = some oe → Hm oe → H ea = none → ea ∉ frs outer → sp oe.cls ea H Q →
  codeAny (model P w) (A.mark (some (.ref ea))) (.call (.ref f) ⟨[.ref ea],[]⟩) (CR CX0 outer P w H s Q E0) s
section
variable {P : Program} {w : World} {K : SR} {mg : Str → Option Value} {base : Heap}
theorem Fun.okH {x qual y : Str} {st : Stmt} {f : Addr} {fd : FuncData} {N : List Str} {k : Nat} {sp : SpH} (F : Fun K x qual st f fd) (S : AA N [y] (Af st))
 (hbody : ∀ (cdv : Value) (A : Around) (outer : List Env) (s : Shared) (H : Hp) (ea : Addr) (oe : Obj) (Q : VK),BA k (A.deeper (envOfC qual (Af st) s.heap.objs.size f cdv)) → Hx ((Dx CX0 P w K mg base N qual (Af st) f cdv A outer s H E0).marked ea) ea oe → sp oe.cls ea H Q →
  ∃ t,PSs ((Dx CX0 P w K mg base N qual (Af st) f cdv A outer s H E0).marked ea) (Au st) t ∧ t { nx:=fun _ H'=>Q .non H',rt:=Q } (Du N [.ref ea]) H) : FnH P w K mg base (k + 1) f fd y sp:=by
 obtain ⟨oc,od,kV,doc,pm,an,cdv,ct,osl,rfl,lk,hcd⟩:=F.ex
 refine ⟨fun A outer s H ea oe Q hr e0 hb ho hc hn hf hsp=>?_⟩
 have e1 : IK P w K mg base A outer s H:=⟨e0.frames,e0.mod,e0.bs,e0.bsz,e0.funs,e0.frf,e0.hok,e0.bare⟩
 have KX : K.In s.heap:=e0.mod.kin.keeps fun b o e=>(e0.bs b o e).1
 have lim : s.heap.NoLimit:=e0.mod.nolimit.keeps fun b o e=>(e0.bs b o e).1
 have hkind : ∀ z ∈ [y].zip [Value.ref ea],(Af st).names.lookup z.1 = some .local ∨ ((Af st).names.lookup z.1 = some .cell ∧ ((cellsFrom (s.heap.objs.size + 1) (Af st).names []).lookup z.1).isSome = true):=fun ⟨n,v⟩ hy=>by
  rcases S.par n (TQ hy).1 with q | q
  ·exact .inl q
  ·exact .inr ⟨q,TU _ _ _ (.inl q)⟩
 refine codeAny_call_function (show (A.mark (some (.ref ea))).depth < _ from hr.depth) (KX _ _ lk) rfl S.co S.gen rfl (PySem.W.codeRec_of KX hcd) (hb _ _ _ _ ?_)
 refine wpAny_newFunctionEnv_cells S.kind hkind fun env he s1 x=>?_
 subst he
 refine ⟨lim.keeps x.toInCall.keep,codeAny_func ?_⟩
 have hx : Hx ((Dx CX0 P w K mg base N qual (Af st) f cdv A outer s H E0).marked ea) ea oe:=⟨rfl,hc,ho,hn,hf,fun z=>nomatch z⟩
 obtain ⟨t,ht,hq⟩:=hbody cdv A outer s H ea oe Q (hr.deeper _) hx hsp
 have I : Inv (Dx CX0 P w K mg base N qual (Af st) f cdv A outer s H E0) [] (Du N [.ref ea]) H s1:=HC S hr.hd e1 rfl (.cons rfl .nil) x
 refine wpAny_mono (ht [] s1 (Du N [.ref ea]) H _ (I.marked ea) hq) (fun fl s' hs=>?_) fun e s' hs=>hs.elim
 have fin : ∀ {σ' : St} {H' : Hp} {v : V} {u : Value},Inv ((Dx CX0 P w K mg base N qual (Af st) f cdv A outer s H E0).marked ea) [] σ' H' s' → AR v u → Q v H' → CE outer P w H s Q u s' :=
  fun {σ' H' v u} J rv q=>⟨v,H',J.os,J.bare,J.base,J.hok,rv,q⟩
 cases fl with
 | ret u =>
   obtain ⟨v,σ',H',J,rv,q⟩:=hs
   exact fin J rv q
 | next =>
   obtain ⟨σ',H',J,q⟩:=hs
   exact fin (v:=V.non) (u:=Value.none) J rfl q
 | brk=>obtain ⟨_,_,_,q⟩:=hs; exact False.elim q
 | cont=>obtain ⟨_,_,_,q⟩:=hs; exact False.elim q
end
structure FdH (P : Program) (w : World) (K : SR) (mg : Str → Option Value) (base : Heap) (n : Nat) (x y : Str) (sp : SpH) : Prop where
 ex : ∃ (f : Addr) (fd : FuncData),FnH P w K mg base n f fd y sp ∧ BW K fd [y] [] ∧ Tw K (.ref f) = true ∧ mg x = some (.ref f)
abbrev Cx.kept (X : Cx) (ea : Addr) (oe : Obj) : Cx:={ X.marked ea with pn:=(ea,oe) :: X.pn }
section
variable {X : Cx} {pins : List (Addr × Obj)} {σ : St} {H : Hp} {s : Shared} {ea : Addr} {oe : Obj}
theorem Inv.kept2 (I : Inv X pins σ H s) (h1 : s.heap.get? ea = some oe) (h2 : H ea = none) (h3 : ea ≠ X.env.locals) (h4 : ea ∉ X.fs) (h5 : Hm oe) : Inv (X.kept ea oe) pins σ H s :=
 ⟨⟨I.ok.mod,I.ok.kind,I.ok.glob,I.ok.blt,I.ok.above,I.ok.inj,I.ok.has,I.ok.cab,(fun z=>nomatch z),I.ok.frames,I.ok.stk,I.ok.exf,I.ok.bs,I.ok.bsz,I.ok.noex,I.ok.exfs,I.ok.funs,I.ok.frf⟩,I.os,I.bare,I.base,I.loc,I.cell,I.free,I.freeC,fun p hp=>by
   rcases T1.mp (show p ∈ (ea,oe) :: (X.pn ++ pins) from hp) with e | z
   ·subst e
    obtain ⟨v,hv,_⟩:=h5
    exact ⟨h1,h2,h3,h4,fun w z=>by rw [hv] at z; cases z⟩
   ·exact I.pin p z,I.hok,I.len⟩
theorem Inv.unkept (J : Inv (X.kept ea oe) pins σ H s) (ok : X.Ok) : Inv X pins σ H s:=⟨ok,J.os,J.bare,J.base,J.loc,J.cell,J.free,J.freeC,fun p hp=>J.pin p (SY _ hp),J.hok,J.len⟩
end
def Py (sp : SpH) (ea : Addr) (cls : Value) (t : TA) : TE:=fun σ H Q=>t σ H fun vs H1=>vs = [.ref ea] ∧ sp cls ea H1 Q
theorem OE {X : Cx} {ea : Addr} {oe : Obj} {k n : Nat} {x y : Str} {sp : SpH} {e : Expr} {t : TA} {p pos : Pos} (F : FdH X.prog X.w X.K X.mg X.base n x y sp) (hr : BA k X.A) (hc : Hm oe) (hst : X.stack = X.env :: X.outer) (hfr : X.env.frame = some X.env.locals) (hg : Gl X x) (ha : PA (X.kept ea oe) [e] t) (hn : n ≤ k)
 (hdb : (x == ("__debug__" : Str)) = false) (he : starEach [e] X.env = [(false,eval e X.env)]) : PE (X.kept ea oe) (.Call (.Name x p) [e] [] pos) (Py sp ea oe.cls t):=by
 obtain ⟨f,fd,F1,F2,F3,F4⟩:=F.ex
 intro pins s σ H Q I h
 refine wpAny_Call_Name_kw (Dr I hg F4 ?_ hdb)
 refine TL (h₀:=X.base) I.ok.mod.kin F3 (thn (ha pos pins s σ H _ I h) fun us s1 ⟨vs,H1,I1,r,ev,q⟩=>⟨I1.kIn,?_⟩) he rfl
 subst ev
 obtain ⟨u,rfl,ru⟩:=r.one
 have ru : u = .ref ea:=ru
 subst ru
 obtain ⟨p1,p2,p3,p4,_⟩:=I1.pin (ea,oe) SX
 have p5 : ea ∉ frs X.stack:=fun z=>by
  rw [hst] at z
  have z : ea ∈ (X.env :: X.outer).filterMap (·.frame):=z
  rw [SW,hfr] at z
  rcases T1.mp z with z | z
  ·exact p3 z
  ·exact p4 z
 have hb':=F2 s1 [.ref ea] I1.kIn rfl
 refine wpAny_call (codeAny_mono (F1.run X.A X.stack s1 H1 ea oe Q (hr.mono hn) I1.env0 hb' p1 hc p2 p5 q) fun r s2 hq=>?_)
 cases r with
 | error e=>exact False.elim hq
 | ok fl =>
   cases fl with
   | ret u=>exact I1.after hq
   | next=>exact False.elim hq
   | brk=>exact False.elim hq
   | cont=>exact False.elim hq
def Pw (K : SR) (CE : Addr) (i j : Nat) (sp : SpH) (tb : TB) : TS:=fun D σ H=>tb D.nx (fun cls _ H2=>UU K cls (.ref CE) = some true ∧ ∀ ea,H2 ea = none → sp cls ea H2 fun v H3=>D.nx (((σ.set i (some (.ref ea))).set j (some v)).set i none) H3) σ H
theorem Kp {X : Cx} {k m : Nat} {CE : Addr} {sp : SpH} {g y n a c : Str} {i j : Nat} {gp np ap cpos spos yp hpos pos : Pos} {body : List Stmt} {tb : TB} (hb : PB X body tb) (F : FdH X.prog X.w X.K X.mg X.base m g c sp) (hr : BA k X.A) (hg : Gl X g)
 (hgy : Gl X y) (hmy : X.mg y = some (.ref CE)) (nd : X.N.Nodup) (hi : X.N[i]? = some n) (hl : X.env.scope.names.lookup n = some .local) (hj : X.N[j]? = some a) (hla : X.env.scope.names.lookup a = some .local) (hst : X.stack = X.env :: X.outer) (hfr : X.env.frame = some X.env.locals) (hm : m ≤ k:=by decide)
 (hs : swapsWith (.Call (.Name g gp) [.Name n np] [] cpos) (some (.Name a ap)) spos.line X.env = pure false:=by rfl) (hdb : (g == ("__debug__" : Str)) = false:=by decide) (hdy : (y == ("__debug__" : Str)) = false:=by decide) (hdn : (n == ("__debug__" : Str)) = false:=by decide) (hcn : (n == ("__classdict__" : Str)) = false:=by decide)
 (he : starEach [.Name n np] X.env = [(false,eval (.Name n np) X.env)]:=by rfl) :
 PS X (.Try body [.ExceptHandler (some (.Name y yp)) (some n) [.Assign [.Name a ap] (.Call (.Name g gp) [.Name n np] [] cpos) spos] hpos] [] [] pos) (Pw X.K CE i j sp tb):=by
 intro pins s σ H D I h
 refine wpAny_Try_except (wpAny_mono (hb pins s σ H _ _ I h) (fun fl s1 ⟨ef,σ',H',I1,q⟩=>?_) fun ex s2 ⟨H1,s1,I1,hq⟩=>?_)
 ·subst ef
  exact wpAny_execs_nil ⟨σ',H',I1,q⟩
 obtain ⟨ea,cls,a0,B,H2,rfl,os,bare,un,hok,fly,k1,k2,hxm,hts⟩:=hq
 have hH2 : H2 ea = none:=by
  cases z : H2 ea with
  | none=>rfl
  | some u=>obtain ⟨o',q'⟩:=k2 ea u z; rw [fly.2.1] at q'; cases q'
 have hts:=hts ea hH2
 have hA : X.A.frames = some (X.env :: X.outer):=by rw [← hst]; exact I.ok.frames
 have ff:=fly.2.2.1
 rw [hst] at fly
 refine O8 (B:=B) hA hfr fly fun h3 held us3=>?_
 refine Kw (s:={ s2 with heap:=h3 }) held fun h4 fly4 us4=>?_
 have u4:=us3.trans us4
 have J4:=I1.flown (toks:=s2.toks) un hok os bare fly.1 k1 k2 fly4.1 (Inv.slots ff u4)
 refine wpAny_handleBy_cons (codeAny_handlers_test ?_) (by intro q; cases q)
 refine Dr (X:=X.marked ea) (J4.marked ea) hgy hmy ?_ hdy
 obtain ⟨ob,hob,hcl,_⟩:=fly4.obj
 have LT : PySem.W.Looks (model X.prog X.w) h4 (typeOf (.ref ea)) cls:=by subst hcl; exact (PySem.W.Looks.ld hob).andThen .now
 refine (PySem.W.exm_one J4.kIn LT hxm).here ?_
 refine codeAny_handlers_suite_as ?_
 refine Kw (s:={ s2 with heap:=h4 }) fly4 fun h5 fly5 us5=>?_
 obtain ⟨oe,heo,hec,hct⟩:=fly5.obj
 have J5:=I1.flown (toks:=s2.toks) un hok os bare fly.1 k1 k2 fly5.1 (Inv.slots ff (u4.trans us5))
 have p5 : ea ∉ (X.env :: X.outer).filterMap (·.frame):=fun z=>by
  obtain ⟨_,o',e',nf⟩:=fly5.2.2.1.mem z
  rw [heo] at e'
  cases e'
  obtain ⟨v,hv,_⟩:=hct
  exact nf v hv
 rw [SW,hfr] at p5
 have p3 : ea ≠ X.env.locals:=fun z=>p5 (z ▸ SX)
 have p4 : ea ∉ X.fs:=fun z=>p5 (SY _ z)
 have J6 : Inv (X.kept ea oe) pins σ H2 { s2 with heap:=h5 }:=J5.kept2 heo hH2 p3 p4 hct
 have il : i < σ.length:=by rw [I.len]; exact (T4.mp hi).1
 have pn : PE (X.kept ea oe) (.Name n np) (HM i):=Mh hi (.inl hl) hdn hcn
 have PC:=OE (p:=gp) (pos:=cpos) F hr hct hst hfr hg (Aa pn Ac he) hm hdb he
 have PA1 : PS (X.kept ea oe) (.Assign [.Name a ap] (.Call (.Name g gp) [.Name n np] [] cpos) spos) _:=Ap nd hj (.inl hla) PC hs (.inr hla)
 refine D6 (X:=X.kept ea oe) J6 nd hi (.inl hl) (v:=.ref ea) rfl (fun s6 I6=>?_) (.inr hl)
 have hq6 : KY (Py sp ea oe.cls (Kh (HM i) N8)) (C8 j) { nx:=fun σ' H3=>D.nx (σ'.set i none) H3,rt:=fun _ _=>False } (σ.set i (some (.ref ea))) H2 :=
  ⟨.ref ea,by rw [T5 il],rfl,by rw [hec]; exact hts⟩
 refine wpAny_execs_cons (wpAny_mono (PA1 pins s6 _ _ _ I6 hq6) (fun fl s7 hs7=>?_) fun _ _ z=>False.elim z)
 cases fl with
 | next =>
   obtain ⟨σ',H7,I7,q7⟩:=hs7
   refine wpAny_execs_nil ?_
   obtain ⟨m,hn,hl7⟩:=id I7.loc
   refine wpAny_nameGoes_keeps hl hn (by rw [I.ok.kind]; rfl) fun h8 v hn8 sb=>?_
   exact ⟨_,_,(I7.unkept I.ok).gone nd hi hl7 hn8 sb,q7⟩
 | ret u=>obtain ⟨_,_,_,_,_,q7⟩:=hs7; exact q7.elim
 | brk=>obtain ⟨_,_,_,q7⟩:=hs7; exact q7.elim
 | cont=>obtain ⟨_,_,_,q7⟩:=hs7; exact q7.elim
section
open PySem.W
variable {X : Cx} (K : SR)
inductive Oe (ea : Addr) (cls : Value) (xs : List V) (H : Hp) (Q : VK) : Prop
 | mk (D : _) (y : _) (c : _) (b : _) (h1 : cls = .ref D) (h2 : XTy K D) (h3 : xs = [.ref ea,y]) (h4 : NG y = some c) (h5 : kitOne K (.ref D) c = some b) (h6 : Q (.bl b) H) : Oe ea cls xs H Q
theorem GI {ea : Addr} {oe : Obj} (hx : Hx X ea oe) (e : X.K = K:=by rfl) : C9 X (.builtin "isinstance") (Oe K ea oe.cls):=by
 subst e
 intro pins s σ H xs us Q I r h
 obtain ⟨D,y,c,b,hD,T,rfl,hy,hk,q⟩:=h
 have hp : Po ea D s.heap:=⟨oe,hx.at I,hD⟩
 obtain ⟨u,w',rfl,rx,ry⟩:=LK r
 cases rx
 rw [JC ry hy]
 exact kia_one (MB T) I.kIn hp hk (fun z=>nomatch z) fun tk=>⟨.bl b,H,I.tok _,rfl,q⟩
end
end L2
namespace L2
open PySem PySem.Spec PyProof.Rows PySem.W
def DH : List Str:=["many","points","point","number","curve","stretch","deep","few","text","row"]
structure Fp (K : Frag) (D : Addr) (cs : List Addr) (n : Nat) : Prop where
 ty : XTy K D
 ve : kitOne K (.ref D) (.type "ValueError") = some true
 of : ∀ i c,cs[i]? = some c → kitOne K (.ref D) (.ref c) = some (i == n)
def HP (K : Frag) (cs : List Addr) : SpH:=fun cls _ H Q=>∃ D n w,cls = .ref D ∧ Fp K D cs n ∧ DH[n]? = some w ∧ ∀ H',Ae H H' → Q (.str w) H'
def WB (K : Frag) (H : Hp) (x : V) (p : Str × Bool) : Prop:=∃ a,x = .ref a ∧ SqT K H a [.str p.1,.bl p.2]
theorem WB.same {K : Frag} {H H' : Hp} {x : V} {p : Str × Bool} (h : WB K H x p) (e : Ae H H') : WB K H' x p:=let ⟨a,q,r⟩:=h; ⟨a,q,r.same e⟩
theorem WBs.same {K : Frag} {H H' : Hp} {xs : List V} {ps : List (Str × Bool)} (h : Paired (WB K H) xs ps) (e : Ae H H') : Paired (WB K H') xs ps:=Paired.mapP h fun _ _ q=>WB.same q e
theorem WBs.snoc {K : Frag} {H : Hp} {xs : List V} {ps : List (Str × Bool)} {x y : V} {p r : Str × Bool} (h : Paired (WB K H) xs ps) (h1 : WB K H x p) (h2 : WB K H y r) : Paired (WB K H) (xs ++ [x,y]) (ps ++ [p,r]):=by
 induction h with
 | nil=>exact .cons h1 (.cons h2 .nil)
 | cons a b ih=>exact .cons a ih
def CD (ps : List (Str × Bool)) : List V:=(ps.filter (·.2)).map fun p=>.str p.1
theorem J2 (ps : List (Str × Bool)) (p : Str × Bool) : CD (ps ++ [p]) = if p.2 = true then CD ps ++ [.str p.1] else CD ps:=by
 unfold CD
 rw [List.filter_append]
 by_cases h : p.2 = true
 ·rw [if_pos h,UQ]
  simp [h]
 ·rw [if_neg h]
  simp [h]
theorem Nx {K : Frag} {a : Addr} {xs : List V} {ps : List (Str × Bool)} {σ : St} {H : Hp} {Fin : List V → Hp → Prop} (hS : SqL K H a xs) (hP : Paired (WB K H) xs ps) (hz : xs.length ≤ sizeLine) (fin : Fin (CD ps) H) :
 ∃ (n' : Nat) (W : Nat → List V → Hp → Prop),W 0 [] H ∧ LcW (Itl K a) n' 2 [] σ (Lv K 2 (Jr (C8 0) (Jr (C8 1) Pa))) (tB (HM 1)) (HM 0) Fin W:=by
 have hl:=hP.length
 have le : ∀ i,i ≤ xs.length → (CD (ps.take i)).length ≤ i:=fun i hi=>by
  unfold CD
  rw [Tx]
  exact SU (List.length_filter_le _ _) (by rw [TX]; exact Nat.min_le_left _ _)
 refine ⟨xs.length,fun i zs H'=>H' = H ∧ zs = CD (ps.take i),⟨rfl,rfl⟩,⟨?_,?_,?_⟩⟩
 ·rintro i zs H' hi ⟨rfl,rfl⟩
  exact ⟨⟨xs,xs[i],hS,by simp [hi]⟩,Ug (le i (SV hi)) (SH hi hz)⟩
 ·rintro i zs H' x H1 hi ⟨rfl,rfl⟩ ⟨rfl,y⟩
  have hx:=y xs hS
  have hi' : i < ps.length:=by rw [← hl]; exact hi
  obtain ⟨q,hq,c,rfl,hT⟩:=Paired.get hP hx
  have et : ps.take (i + 1) = ps.take i ++ [q]:=by rw [UW,hq]; rfl
  refine ⟨c,_,rfl,hT,rfl,.str q.1,_,rfl,.bl q.2,_,rfl,rfl,⟨.bl q.2,rfl,q.2,rfl,?_⟩⟩
  have e:=J2 (ps.take i) q
  rw [← et] at e
  by_cases h : q.2 = true
  ·rw [if_pos h] at e
   show if q.2 = true then _ else _
   rw [if_pos h]
   exact ⟨.str q.1,rfl,rfl,e.symm⟩
  ·rw [if_neg h] at e
   show if q.2 = true then _ else _
   rw [if_neg h]
   exact ⟨rfl,e.symm⟩
 ·rintro zs H' ⟨rfl,rfl⟩
  refine ⟨⟨xs,hS,T9 _⟩,SU (le _ (T9 _)) hz,?_⟩
  rw [hl,UX]
  exact fin
theorem Mo {n : Nat} {w : Str} (h : DH[n]? = some w) : CD (List.zip DH ((SK 10).map fun i=>i == n)) = [.str w]:=by
 have hn : n < 10:=by
  have:=(T4.mp h).1
  exact this
 have key : ∀ n : Fin 10,∀ w,DH[n.val]? = some w → CD (List.zip DH ((SK 10).map fun i=>i == n.val)) = [.str w]:=by
  intro n w h
  match n,h with
  | 0,h=>cases h; rfl
  | 1,h=>cases h; rfl
  | 2,h=>cases h; rfl
  | 3,h=>cases h; rfl
  | 4,h=>cases h; rfl
  | 5,h=>cases h; rfl
  | 6,h=>cases h; rfl
  | 7,h=>cases h; rfl
  | 8,h=>cases h; rfl
  | 9,h=>cases h; rfl
 exact key ⟨n,hn⟩ w h
end L2
namespace L2
open PySem PySem.Spec PyProof.Rows
section
variable {prog : Program} {w : World} {A : Around} {E : Value → Shared → Prop}
end
end L2
namespace L2
open PySem PySem.Spec PyProof.Rows
namespace St
open SetTable
abbrev Ris (xs : Array Nat) : Prop:=xs.toList.Pairwise (· < ·)
theorem Ris.lt {xs : Array Nat} (h : Ris xs) {i k x y : Nat} (hi : xs[i]? = some x) (hk : xs[k]? = some y) (hl : i < k) : x < y:=by
 rw [← UH] at hi hk
 obtain ⟨h1,e1⟩:=T4.mp hi
 obtain ⟨h2,e2⟩:=T4.mp hk
 rw [← e1,← e2]
 exact List.pairwise_iff_getElem.mp h i k h1 h2 hl
theorem below_go {xs : Array Nat} (hr : Ris xs) (j : Nat) : ∀ (fuel lo hi : Nat),hi ≤ xs.size → lo ≤ hi → hi - lo ≤ fuel → (∀ i x,i < lo → xs[i]? = some x → x < j) → (∀ i x,hi ≤ i → xs[i]? = some x → j ≤ x) →
 ∃ p,below.go xs j fuel lo hi = p ∧ p ≤ xs.size ∧ (∀ i x,i < p → xs[i]? = some x → x < j) ∧ ∀ i x,p ≤ i → xs[i]? = some x → j ≤ x:=by
 intro fuel
 induction fuel with
 | zero =>
   intro lo hi h1 h2 h3 hA hB
   exact ⟨lo,rfl,by lia,hA,fun i x hi'=>hB i x (by lia)⟩
 | succ fuel ih =>
   intro lo hi h1 h2 h3 hA hB
   unfold below.go
   by_cases hl : lo < hi
   ·rw [if_pos hl]
    have hm : (lo + hi) / 2 < xs.size:=by lia
    have g : xs[(lo + hi) / 2]? = some xs[(lo + hi) / 2]:=UO hm
    have gd : xs.getD ((lo + hi) / 2) j = xs[(lo + hi) / 2]:=by rw [UJ,g]; rfl
    dsimp only
    rw [gd]
    by_cases hc : xs[(lo + hi) / 2] < j
    ·rw [if_pos hc]
     refine ih ((lo + hi) / 2 + 1) hi h1 (by lia) (by lia) (fun i x hi' hx=>?_) hB
     rcases UY i ((lo + hi) / 2) with z | z
     ·exact Nat.lt_trans (hr.lt hx g z) hc
     ·have e : i = (lo + hi) / 2:=by lia
      subst e
      rw [g] at hx
      cases hx
      exact hc
    ·rw [if_neg hc]
     refine ih lo ((lo + hi) / 2) (by lia) (by lia) (by lia) hA (fun i x hi' hx=>?_)
     rcases UY ((lo + hi) / 2) i with z | z
     ·exact SU (Uo.mp hc) (SV (hr.lt g hx z))
     ·have e : i = (lo + hi) / 2:=by lia
      subst e
      rw [g] at hx
      cases hx
      exact Uo.mp hc
   ·rw [if_neg hl]
    exact ⟨lo,rfl,by lia,hA,fun i x hi'=>hB i x (by lia)⟩
theorem below_ok {xs : Array Nat} (hr : Ris xs) (j : Nat) : below xs j ≤ xs.size ∧ (∀ i x,i < below xs j → xs[i]? = some x → x < j) ∧ ∀ i x,below xs j ≤ i → xs[i]? = some x → j ≤ x:=by
 obtain ⟨p,e,h⟩:=below_go hr j xs.size 0 xs.size (T9 _) (Tc _) (by lia) (fun i x h=>absurd h (UZ _)) (fun i x h hx=>by
  have:=(UT.mp hx).1
  lia)
 unfold below
 rw [e]
 exact h
theorem slot_live {t : SetTable} (hr : Ris t.place) {i j : Nat} (h : t.place[i]? = some j) : t.slot j = .live i:=by
 obtain ⟨_,b2,b3⟩:=below_ok hr j
 have e : below t.place j = i:=by
  rcases V0 (below t.place j) i with z | z | z
  ·have hs : i < t.place.size:=(UT.mp h).1
   have g : t.place[below t.place j]? = some t.place[below t.place j]:=UO (by lia)
   have h1:=b3 _ _ (T9 _) g
   have h2:=hr.lt g h z
   lia
  ·exact z
  ·exact absurd (b2 i j z h) (SI _)
 unfold slot
 rw [e]
 dsimp only
 rw [h]
 simp
theorem insert_list {α : Type} (xs : Array α) (p : Nat) (x : α) : (insertAt xs p x).toList = xs.toList.take p ++ x :: xs.toList.drop p:=by
 unfold insertAt
 simp [Array.toList_append,Array.toList_push,Array.toList_extract,List.extract_eq_drop_take]
 exact UC (by rw [Ua,T7]; exact T9 _)
theorem insert_at {α : Type} {xs : Array α} {p : Nat} {x : α} (hp : p ≤ xs.size) {i : Nat} : (insertAt xs p x)[i]? = if i < p then xs[i]? else if i = p then some x else xs[i - 1]?:=by
 rw [← UH,insert_list]
 have hl : (xs.toList.take p).length = p:=by rw [TX,T7]; lia
 by_cases h1 : i < p
 ·rw [if_pos h1,U0 (by rw [hl]; exact h1),U2 h1,UH]
 ·rw [if_neg h1,TY (by rw [hl]; lia),hl]
  by_cases h2 : i = p
  ·subst h2
   rw [if_pos rfl,Nat.sub_self]
   rfl
  ·rw [if_neg h2]
   obtain ⟨k,hk⟩ : ∃ k,i - p = k + 1:=⟨i - p - 1,by lia⟩
   rw [hk,V1,Ur,UH]
   congr 1
   lia
theorem Ris.put {xs : Array Nat} (hr : Ris xs) {j : Nat} (hn : ∀ i : Nat,xs[i]? ≠ some j) : Ris (insertAt xs (below xs j) j):=by
 obtain ⟨b1,b2,b3⟩:=below_ok hr j
 show List.Pairwise _ _
 rw [insert_list,List.pairwise_append]
 refine ⟨hr.sublist (List.take_sublist _ _),?_,?_⟩
 ·rw [List.pairwise_cons]
  refine ⟨fun y hy=>?_,hr.sublist (List.drop_sublist _ _)⟩
  obtain ⟨i,hi⟩:=UM hy
  rw [Ur,UH] at hi
  have h1:=b3 _ y (V2 _ _) hi
  have h2 : y ≠ j:=fun z=>hn _ (z ▸ hi)
  lia
 ·intro a ha b hb
  obtain ⟨i,hi⟩:=UM ha
  have hil : i < below xs j:=by
   have:=(T4.mp hi).1
   rw [TX] at this
   lia
  rw [U2 hil,UH] at hi
  have h1:=b2 i a hil hi
  rcases T1.mp hb with z | z
  ·rw [z]; exact h1
  ·obtain ⟨k,hk⟩:=UM z
   rw [Ur,UH] at hk
   have:=b3 _ b (V2 _ _) hk
   lia
theorem adv_mask {t u : SetTable} (h : t.mask = u.mask) (p : Probe) : t.advance p = u.advance p:=by unfold advance; rw [h]
theorem advs_mask {t u : SetTable} (h : t.mask = u.mask) : ∀ n p,advs t n p = advs u n p
 | 0,_=>rfl
 | n + 1,p=>by show advs t n (t.advance p) = advs u n (u.advance p); rw [adv_mask h,advs_mask h n]
theorem start_mask {t u : SetTable} (h : t.mask = u.mask) (x : Int) : t.probeStart x = u.probeStart x:=by unfold probeStart; rw [h]
def Way (t : SetTable) (occ : Nat → Prop) (p : Probe) (j : Nat) : Prop:=∃ m,(advs t m p).j = j ∧ ∀ i,i < m → occ (advs t i p).j
theorem Way.mono {t : SetTable} {o1 o2 : Nat → Prop} {p : Probe} {j : Nat} (h : Way t o1 p j) (k : ∀ s,o1 s → o2 s) : Way t o2 p j:=let ⟨m,e,a⟩:=h; ⟨m,e,fun i hi=>k _ (a i hi)⟩
theorem Way.mask {t u : SetTable} {o : Nat → Prop} {p : Probe} {j : Nat} (h : Way t o p j) (e : t.mask = u.mask) : Way u o p j:=by
 obtain ⟨m,e1,a⟩:=h
 exact ⟨m,by rw [← advs_mask e]; exact e1,fun i hi=>by rw [← advs_mask e]; exact a i hi⟩
theorem advs_in (t : SetTable) : ∀ (c j r i pert : Nat),c ≤ r → advs t c { j:=j,more:=r,i:=i,perturb:=pert,dummy:=none } = { j:=j + c,more:=r - c,i:=i,perturb:=pert,dummy:=none }
 | 0,j,r,i,pert,_=>rfl
 | c + 1,j,r,i,pert,h=>by
   show advs t c (t.advance _) = _
   have e : t.advance { j:=j,more:=r,i:=i,perturb:=pert,dummy:=none } = { j:=j + 1,more:=r - 1,i:=i,perturb:=pert,dummy:=none }:=by
    unfold advance
    rw [if_pos (by show 0 < r; lia)]
   rw [e,advs_in t c (j + 1) (r - 1) i pert (by lia)]
   congr 1 <;> lia
theorem way_run {t : SetTable} {occ : Nat → Prop} {i pert c : Nat} (hc : c ≤ runEnd t.mask i - i) (h : ∀ d,d < c → occ (i + d)) : Way t occ (base t.mask i pert) (i + c) :=
 ⟨c,by unfold base; rw [advs_in t c i _ i pert hc],fun d hd=>by unfold base; rw [advs_in t d i _ i pert (by lia)]; exact h d hd⟩
theorem way_on {t : SetTable} {occ : Nat → Prop} {i pert j : Nat} (h : ∀ d,d ≤ runEnd t.mask i - i → occ (i + d)) (k : Way t occ (base t.mask (leap t.mask i pert).1 (leap t.mask i pert).2) j) : Way t occ (base t.mask i pert) j:=by
 obtain ⟨m,e,a⟩:=k
 have er : advs t (runEnd t.mask i - i + 1) (base t.mask i pert) = base t.mask (leap t.mask i pert).1 (leap t.mask i pert).2:=advs_run t _ _ _ _
 refine ⟨runEnd t.mask i - i + 1 + m,by rw [advs_add,er]; exact e,fun d hd=>?_⟩
 rcases UY d (runEnd t.mask i - i + 1) with z | z
 ·have:=h d (by lia)
  unfold base
  rw [advs_in t d i _ i pert (by lia)]
  exact this
 ·obtain ⟨c,rfl⟩ : ∃ c,d = runEnd t.mask i - i + 1 + c:=⟨d - (runEnd t.mask i - i + 1),by lia⟩
  rw [advs_add,er]
  exact a c (by lia)
theorem run_31 {i : Nat} (h : i < 32) : i ≤ runEnd 31 i ∧ runEnd 31 i < 32:=by unfold runEnd; split <;> lia
def Tk (owner : Array (Option Nat)) (s : Nat) : Prop:=s < 32 ∧ owner.getD s (some 0) ≠ none
theorem free_way {t : SetTable} (hm : t.mask = 31) {owner : Array (Option Nat)} : ∀ (fuel i pert j : Nat),i < 32 → layClean.free 31 owner fuel i pert = some j → Way t (Tk owner) (base t.mask i pert) j:=by
 intro fuel
 induction fuel with
 | zero=>intro i pert j _ h; cases h
 | succ fuel ih =>
   intro i pert j hi h
   have hrun:=run_31 hi
   unfold layClean.free at h
   split at h
   ·next k hk =>
    cases h
    have hmem:=List.mem_of_find?_eq_some hk
    have hkl:=SQ.mp hmem
    refine way_run (by rw [hm]; lia) fun d hd=>⟨by lia,?_⟩
    have:=List.find?_eq_some_iff_getElem.mp hk
    obtain ⟨_,n,hn,e,hbef⟩:=this
    rw [UN] at e
    subst e
    have:=hbef d hd
    rw [UN] at this
    intro z
    rw [z] at this
    cases this
   ·next hk =>
    refine way_on (fun d hd=>?_) ?_
    ·rw [List.find?_eq_none] at hk
     rw [hm] at hd
     have:=hk d (SQ.mpr (by lia))
     refine ⟨by lia,fun z=>?_⟩
     rw [z] at this
     exact this rfl
    ·have h' : layClean.free 31 owner fuel (leap 31 i pert).1 (leap 31 i pert).2 = some j:=h
     have:=ih _ _ _ (Nat.mod_lt _ (by decide)) h'
     rw [hm] at this ⊢
     exact this
def WO (t : SetTable) (hs : List Int) (owner : Array (Option Nat)) : Prop:=∀ j i,owner.getD j none = some i → ∃ h,hs[i]? = some h ∧ Way t (Tk owner) (base t.mask (bits h % 32) (bits h)) j
theorem tk_set {owner : Array (Option Nat)} {j k s : Nat} (h : Tk owner s) : Tk (owner.setIfInBounds j (some k)) s:=by
 refine ⟨h.1,fun z=>?_⟩
 rw [UJ,V3] at z
 split at z
 ·split at z <;> cases z
 ·rw [← UJ] at z
  exact h.2 z
theorem stp_way {t : SetTable} (hm : t.mask = 31) {hs : List Int} {owner owner' : Array (Option Nat)} {k k' : Nat} {h : Int} (w : WO t hs owner) (hk : hs[k]? = some h) (e : stp (some (owner,k)) h = some (owner',k')) : WO t hs owner':=by
 have e' : (do let j ← layClean.free 31 owner (turns 31) (bits h % (31 + 1)) (bits h); pure (owner.setIfInBounds j (some k),k + 1)) = some (owner',k'):=e
 cases ef : layClean.free 31 owner (turns 31) (bits h % (31 + 1)) (bits h) with
 | none=>rw [ef] at e'; cases e'
 | some j =>
   rw [ef] at e'
   have e2 : some (owner.setIfInBounds j (some k),k + 1) = some (owner',k'):=e'
   cases e2
   intro s i hsi
   rw [UJ,V3] at hsi
   by_cases hjs : j = s
   ·rw [if_pos hjs] at hsi
    split at hsi
    ·have ei : some k = some i:=hsi
     cases ei
     refine ⟨h,hk,?_⟩
     subst hjs
     exact (free_way hm _ _ _ _ (Nat.mod_lt _ (by decide)) ef).mono fun _=>tk_set
    ·cases hsi
   ·rw [if_neg hjs,← UJ] at hsi
    obtain ⟨g,g1,g2⟩:=w s i hsi
    exact ⟨g,g1,g2.mono fun _=>tk_set⟩
theorem fold_way {t : SetTable} (hm : t.mask = 31) {hs0 : List Int} : ∀ (hs : List Int) {owner : Array (Option Nat)} {k : Nat},Own owner k → WO t hs0 owner → (∀ i h,hs[i]? = some h → hs0[k + i]? = some h) → k + hs.length ≤ 32 →
 ∃ owner',hs.foldl stp (some (owner,k)) = some (owner',k + hs.length) ∧ Own owner' (k + hs.length) ∧ WO t hs0 owner'
 | [],owner,k,ho,w,_,_=>⟨owner,rfl,ho,w⟩
 | h :: hs,owner,k,ho,w,hh,hl=>by
   rw [Tq] at hl
   obtain ⟨o1,e1,ho1⟩:=stp_ok ho (by lia) h
   have w1:=stp_way hm w (hh 0 h rfl) e1
   obtain ⟨o2,e2,ho2,w2⟩:=fold_way hm hs ho1 w1 (fun i g hg=>by rw [show k + 1 + i = k + (i + 1) by lia]; exact hh (i + 1) g hg) (by lia)
   refine ⟨o2,?_,?_,w2⟩
   ·rw [List.foldl_cons,e1,e2,Tq,show k + 1 + hs.length = k + (hs.length + 1) by lia]
   ·rw [Tq,show k + (hs.length + 1) = k + 1 + hs.length by lia]; exact ho2
theorem wo_none (t : SetTable) (hs : List Int) : WO t hs (UR 32 none):=fun j i h=>by
 rw [UJ,Array.getElem?_replicate] at h
 split at h <;> cases h
theorem lv_first (owner : Array (Option Nat)) : ∀ l : List Nat,(l.filterMap (lv owner)).map (·.1) = l.filter fun j=>(owner.getD j none).isSome
 | []=>rfl
 | a :: l=>by
   rw [SW,List.filter_cons]
   cases e : owner.getD a none with
   | none =>
     have : lv owner a = none:=by unfold lv; rw [e]; rfl
     rw [this]
     simp only [Option.isSome_none,Bool.false_eq_true,if_false]
     exact lv_first owner l
   | some v =>
     have : lv owner a = some (a,v):=by unfold lv; rw [e]; rfl
     rw [this]
     simp only [Option.isSome_some,if_true,Tu]
     rw [lv_first owner l]
theorem laid_way (hashes : Array Int) (hn : hashes.size ≤ 32) (finger moves : Nat) (led plain : Bool) : ∃ t order,laid 31 finger moves led plain hashes = some (t,order) ∧ t.mask = 31 ∧ t.dummies = #[] ∧ t.place.size = hashes.size ∧ order.toList.Perm (SK hashes.size) ∧ Ris t.place ∧
 ∀ i k : Nat,order[i]? = some k → ∃ (j : Nat) (h : Int),t.place[i]? = some j ∧ hashes[k]? = some h ∧ Way t (fun s=>∃ q : Nat,t.place[q]? = some s) (t.probeStart h) j:=by
 have hm0 : (SetTable.fresh 0 0 false).mask = 7:=rfl
 obtain ⟨t0,ht0⟩ : ∃ t0 : SetTable,t0.mask = 31:=⟨{ (SetTable.fresh 0 0 false) with mask:=31 },rfl⟩
 obtain ⟨owner,e,ho,w⟩:=fold_way ht0 hashes.toList (hs0:=hashes.toList) own_none (wo_none t0 _) (fun i h hh=>by rw [UG]; exact hh) (by rw [T7]; lia)
 have hc : layClean 31 hashes = some owner:=by
  unfold layClean
  have e' : hashes.foldl stp (some (UR 32 none,0)) = some (owner,0 + hashes.toList.length):=by rw [← Array.foldl_toList]; exact e
  have e2 : hashes.foldl (init:=some (UR (31 + 1) none,0)) (fun acc h=>do
   let (owner,k) ← acc
   let j ← layClean.free 31 owner (turns 31) (bits h % (31 + 1)) (bits h)
   pure (owner.setIfInBounds j (some k),k + 1)) = some (owner,0 + hashes.toList.length):=e'
  rw [e2]; rfl
 have hp:=ho.2
 rw [UG,T7] at hp
 obtain ⟨t,ht⟩ : ∃ t : SetTable,t = { mask:=31,place:=(((SK 32).filterMap (lv owner)).map (·.1)).toArray,dummies:=#[],finger,led,moves,plain }:=⟨_,rfl⟩
 have htm : t.mask = 31:=by rw [ht]
 have hpl : t.place.toList = ((SK 32).filterMap (lv owner)).map (·.1):=by rw [ht]
 have occ : ∀ s,Tk owner s → ∃ q : Nat,t.place[q]? = some s:=fun s hs=>by
  have h1 : ∃ v,owner.getD s none = some v:=by
   have h2:=hs.2
   rw [UJ] at h2
   have hlt : s < owner.size:=by rw [ho.1]; exact hs.1
   rw [UO hlt] at h2
   cases hv : owner[s] with
   | none=>rw [hv] at h2; exact absurd rfl h2
   | some v=>exact ⟨v,by rw [UJ,UO hlt,hv]; rfl⟩
  obtain ⟨v,hv⟩:=h1
  have hmem : s ∈ t.place.toList:=by
   rw [hpl,lv_first]
   exact SN.mpr ⟨SQ.mpr hs.1,by rw [hv]; rfl⟩
  obtain ⟨q,hq⟩:=UM hmem
  exact ⟨q,by rw [← UH]; exact hq⟩
 refine ⟨t,(((SK 32).filterMap (lv owner)).map (·.2)).toArray,?_,htm,by rw [ht],?_,hp,?_,fun i k hk=>?_⟩
 ·unfold laid
  rw [hc,ht]
  rfl
 ·have:=hp.length_eq
  rw [Tx,UI] at this
  rw [← T7,hpl,Tx]; exact this
 ·show List.Pairwise _ _
  rw [hpl,lv_first]
  exact List.Pairwise.sublist List.filter_sublist List.pairwise_lt_range
 ·rw [← UH] at hk
  have hk : (((SK 32).filterMap (lv owner)).map (·.2))[i]? = some k:=hk
  rw [U1] at hk
  cases hg : ((SK 32).filterMap (lv owner))[i]? with
  | none=>rw [hg] at hk; cases hk
  | some x =>
    obtain ⟨j,k'⟩:=x
    rw [hg] at hk
    have ek : k' = k:=SD.inj hk
    obtain ⟨j',_,hj'⟩:=Ta.mp (U3 hg)
    unfold lv at hj'
    cases hv : owner.getD j' none with
    | none=>rw [hv] at hj'; cases hj'
    | some v =>
      rw [hv] at hj'
      have e3 : (j',v) = (j,k'):=SD.inj hj'
      have ej : j' = j:=congrArg Prod.fst e3
      have ev : v = k:=(congrArg Prod.snd e3).trans ek
      rw [ej,ev] at hv
      obtain ⟨h,h1,h2⟩:=w j k hv
      refine ⟨j,h,?_,by rw [← UH]; exact h1,?_⟩
      ·rw [← UH,hpl,U1,hg]; rfl
      ·have h3:=(h2.mono occ).mask (u:=t) (by rw [htm]; exact ht0)
       rw [ht0] at h3
       unfold probeStart
       rw [htm]
       exact h3
end St
end L2
namespace L2
open PySem PySem.Spec PyProof.Rows
namespace St
open SetTable
abbrev Occ (t : SetTable) (s : Nat) : Prop:=∃ q : Nat,t.place[q]? = some s
theorem go_way {t : SetTable} (hd : t.dummies = #[]) {ha : Nat → Int} {h : Int} : ∀ (fuel k : Nat) (p : Probe),k < fuel → p.dummy = none → Hit t k p →
 (∃ c j,probe.go t ha h fuel p = some (.empty j none) ∧ (advs t c p).j = j ∧ t.slot j = .empty ∧ ∀ l,l < c → Occ t (advs t l p).j) ∨
 ∃ c j i k',probe.go t ha h fuel p = some (.candidate j i (advs t (c + 1) p)) ∧ t.slot j = .live i ∧ t.place[i]? = some j ∧ (advs t (c + 1) p).dummy = none ∧ Hit t k' (advs t (c + 1) p) ∧ k' < k ∧ ∀ l,l < c + 1 → Occ t (advs t l p).j
 | fuel + 1,k,p,hk,hp,hh=>by
   unfold probe.go
   rcases slot_cases hd p.j with z | ⟨i,z,zp⟩
   ·rw [z]
    exact .inl ⟨0,p.j,by simp only [hp],rfl,z,fun l hl=>absurd hl (UZ _)⟩
   ·rw [z]
    have hk0 : ∃ k',k = k' + 1:=by
     cases k with
     | zero=>unfold Hit at hh; rw [show advs t 0 p = p from rfl,z] at hh; cases hh
     | succ k'=>exact ⟨k',rfl⟩
    obtain ⟨k',rfl⟩:=hk0
    have hh' : Hit t k' (t.advance p):=hh
    by_cases hq : (ha i == h) = true
    ·refine .inr ⟨0,p.j,i,k',?_,z,zp,adv_dummy t hp,hh',by lia,fun l hl=>?_⟩
     ·simp only [hq]
      rfl
     ·obtain rfl : l = 0:=by lia
      exact ⟨i,zp⟩
    ·have hq' : (ha i == h) = false:=by simpa using hq
     simp only [hq']
     have front : ∀ {c : Nat},(∀ l,l < c → Occ t (advs t l (t.advance p)).j) → ∀ l,l < c + 1 → Occ t (advs t l p).j:=fun {c} hc l hl=>by
      cases l with
      | zero=>exact ⟨i,zp⟩
      | succ l=>exact hc l (by lia)
     rcases go_way hd fuel k' (t.advance p) (by lia) (adv_dummy t hp) hh' with ⟨c,j,e,r0,r1,r2⟩ | ⟨c,j,i',k2,e,r1,r2,r3,r4,r5,r6⟩
     ·exact .inl ⟨c + 1,j,e,r0,r1,front r2⟩
     ·exact .inr ⟨c + 1,j,i',k2,e,r1,r2,r3,r4,by lia,front r6⟩
theorem go_there {t : SetTable} (hr : Ris t.place) {ha : Nat → Int} {h : Int} {i0 j0 : Nat} (h0 : t.place[i0]? = some j0) (hh : (ha i0 == h) = true) : ∀ (fuel r : Nat) (p : Probe),r < fuel → p.dummy = none → (advs t r p).j = j0 → (∀ l,l < r → Occ t (advs t l p).j) →
 ∃ j i next,probe.go t ha h fuel p = some (.candidate j i next) ∧ t.slot j = .live i ∧ t.place[i]? = some j ∧ (i = i0 ∨ ∃ r',r' < r ∧ next.dummy = none ∧ (advs t r' next).j = j0 ∧ ∀ l,l < r' → Occ t (advs t l next).j)
 | fuel + 1,0,p,_,hp,hj,_=>by
   have hj : p.j = j0:=hj
   have z : t.slot p.j = .live i0:=by rw [hj]; exact slot_live hr h0
   unfold probe.go
   rw [z]
   refine ⟨p.j,i0,t.advance p,?_,z,by rw [hj]; exact h0,.inl rfl⟩
   simp only [hh]
   rfl
 | fuel + 1,r + 1,p,hk,hp,hj,ho=>by
   obtain ⟨i,hi⟩:=ho 0 (Nat.succ_pos _)
   have hi : t.place[i]? = some p.j:=hi
   have z : t.slot p.j = .live i:=slot_live hr hi
   unfold probe.go
   rw [z]
   have ho' : ∀ l,l < r → Occ t (advs t l (t.advance p)).j:=fun l hl=>ho (l + 1) (by lia)
   by_cases hq : (ha i == h) = true
   ·refine ⟨p.j,i,t.advance p,?_,z,hi,.inr ⟨r,Tz _,adv_dummy t hp,hj,ho'⟩⟩
    simp only [hq]
    rfl
   ·have hq' : (ha i == h) = false:=by simpa using hq
    simp only [hq']
    obtain ⟨j,i',next,e,r1,r2,r3⟩:=go_there hr h0 hh fuel r (t.advance p) (by lia) (adv_dummy t hp) hj ho'
    refine ⟨j,i',next,e,r1,r2,?_⟩
    rcases r3 with z | ⟨r',q1,q2⟩
    ·exact .inl z
    ·exact .inr ⟨r',by lia,q2⟩
section
variable {prog : Program} {w : World} {K : Type} [DecidableEq K] {knd : KeyKind prog w K} {A : Around} {E : Value → Shared → Prop} {s : Shared}
def Nms (knd : KeyKind prog w K) (h : Heap) (l : List Value) : Prop:=∀ v ∈ l,∃ b k',v = .ref b ∧ IsN knd h k' b
theorem unseen2 {ks : List K} {x : Addr} {Q : Bool → Shared → Prop} (hx : IsN knd s.heap ks x) {l : List Value} (hl : Nms knd s.heap l) (h : Q false s) : wpAny (model prog w) A (searchCouldBeSeen (.ref x) l) Q E s:=by
 unfold searchCouldBeSeen
 refine wpAny_bind ?_
 refine wpAny_forIn_list _ (fun Bx r s'=>r.1 = none ∧ s' = s ∧ Nms knd s.heap Bx) _ ?_ ?_ _ _ ⟨rfl,rfl,hl⟩
 ·rintro v Bx r s' ⟨hr,rfl,hall⟩
  obtain ⟨b,k',rfl,hb⟩:=hall v SX
  have hrest : Nms knd s'.heap Bx:=fun u hu'=>hall u (SY _ hu')
  have hc : ((match (Value.ref x),(Value.ref b) with | .ref a,.ref b=>a == b | _,_=>false) || (carriedByValue (.ref x) && carriedByValue (.ref b))) = (x == b):=by
   show ((x == b) || (false && false)) = _
   simp
  show wpAny _ _ (if ((match (Value.ref x),(Value.ref b) with | .ref a,.ref b=>a == b | _,_=>false) || (carriedByValue (.ref x) && carriedByValue (.ref b))) = true then _ else _) _ _ _
  rw [hc]
  by_cases hxb : (x == b) = true
  ·rw [if_pos hxb]
   exact wpAny_pure ⟨rfl,rfl,hrest⟩
  rw [if_neg hxb]
  refine wpAny_bind (wpAny_eqIsQuiet_tuple hx.key ?_)
  simp only [Bool.not_true,Bool.false_eq_true,if_false]
  refine wpAny_bind (wpAny_eqIsQuiet_tuple hb.key ?_)
  simp only [Bool.not_true,Bool.false_eq_true,if_false]
  refine wpAny_bind (ofClass_n hx ?_)
  simp only [Bool.false_eq_true,if_false]
  refine wpAny_bind (ofClass_n hb ?_)
  simp only [Bool.false_eq_true,if_false]
  exact wpAny_pure ⟨rfl,rfl,hrest⟩
 ·rintro ⟨r1,r2⟩ s' ⟨hr,rfl,_⟩
  simp only at hr
  subst hr
  exact wpAny_pure h
variable {S : Addr} {o : Obj} {es : Array (Int × Value)} {ep : Nat} {t : SetTable}
theorem nms_of {ks : List K} (hes : ∀ e ∈ es.toList,∃ b k',e.2 = Value.ref b ∧ IsN knd s.heap k' b) {h : Int} : Nms knd s.heap (List.map (fun x=>x.snd) (Array.filter (fun x=>x.fst == h) es).toList):=fun v hv=>by
 obtain ⟨e0,he0,rfl⟩:=V4.mp hv
 rw [Array.toList_filter] at he0
 exact hes e0 (SN.mp he0).1
theorem same_self (t : SetTable) : t.sameMemory t.moves t.mask = some true:=by unfold sameMemory; rw [if_pos (beq_self_eq_true _)]
theorem look_one (ho : s.heap.get? S = some o) (hd : o.data = .set es ep t) (hf : t.fits es.size = true) {x b : Addr} {ks kb : List K} (hx : IsN knd s.heap ks x) (hb : IsN knd s.heap kb b) (hes : ∀ e ∈ es.toList,∃ b k',e.2 = Value.ref b ∧ IsN knd s.heap k' b)
 (hu : A.units < cLine) {h h1 : Int} {F j i : Nat} {next : Probe} (r1 : t.slot j = .live i) (hei : es[i]? = some (h1,Value.ref b)) {Q : SetFound → Shared → Prop} (yes : kb = ks → Q (.there none) s) (no : kb ≠ ks → wpAny (model prog w) A (setSearchFrom S (.ref x) h true F (some next)) Q E s) :
 wpAny (model prog w) A (do
  if !t.led then
   if ← searchCouldBeSeen (.ref x) ((es.filter (·.1 == h)).toList.map (·.2)) then unsupported "set:the-search-would-show-the-table"
  let some (_,y):=es[i]? | unsupported "internal:set-entry"
  let equal ← holding [y] (eqBool y (.ref x))
  let (es',_,t') ← setState S
  if true && equal then return .there none
  let some same:=t'.sameMemory t.moves t.mask | unsupported "set.changed-during-lookup:is-the-new-block-at-the-old-address"
  let still ← match (if same then t'.slot j else .empty) with
   | .live i'=>match es'[i']? with
     | some (_,y')=>do pure (if ← isSame y' y then some i' else none)
     | none=>pure none
   | _=>pure none
  match still with
  | none=>rule "set.search.anew"; setSearchFrom S (.ref x) h true F none
  | some i'=>if equal then return .there (some i') else setSearchFrom S (.ref x) h true F (some next)) Q E s:=by
 have Bx : wpAny (model prog w) A (do
  let some (_,y):=es[i]? | unsupported "internal:set-entry"
  let equal ← holding [y] (eqBool y (.ref x))
  let (es',_,t') ← setState S
  if true && equal then return .there none
  let some same:=t'.sameMemory t.moves t.mask | unsupported "set.changed-during-lookup:is-the-new-block-at-the-old-address"
  let still ← match (if same then t'.slot j else .empty) with
   | .live i'=>match es'[i']? with
     | some (_,y')=>do pure (if ← isSame y' y then some i' else none)
     | none=>pure none
   | _=>pure none
  match still with
  | none=>rule "set.search.anew"; setSearchFrom S (.ref x) h true F none
  | some i'=>if equal then return .there (some i') else setSearchFrom S (.ref x) h true F (some next)) Q E s:=by
  rw [hei]
  dsimp only
  refine wpAny_bind (wpAny_holding (wpAny_eqBool_tuple hu hb.key hx.key ?_))
  refine wpAny_bind (wpAny_setState_of ho hd hf ?_)
  by_cases hk : kb = ks
  ·rw [decide_eq_true hk]
   simp only [Bool.and_self,if_true]
   exact wpAny_pure (yes hk)
  ·rw [decide_eq_false hk]
   simp only [Bool.and_false,Bool.false_eq_true,if_false,same_self,if_true,r1,hei]
   refine wpAny_bind (wpAny_isSame_ref_self ?_)
   simp only [if_true]
   refine wpAny_bind (wpAny_pure ?_)
   simp only [Bool.false_eq_true,if_false]
   exact no hk
 rcases Bool.eq_false_or_eq_true t.led with hl | hl
 ·simp only [hl,Bool.not_true,Bool.false_eq_true,if_false]
  exact Bx
 ·simp only [hl,Bool.not_false,if_true]
  refine wpAny_bind (unseen2 hx (nms_of (ks:=ks) hes) ?_)
  simp only [Bool.false_eq_true,if_false]
  exact Bx
theorem search_new (ho : s.heap.get? S = some o) (hd : o.data = .set es ep t) (hf : t.fits es.size = true) (hm : t.mask = 7 ∨ t.mask = 31) (hdm : t.dummies = #[]) {x : Addr} {ks : List K} (hx : IsN knd s.heap ks x)
 (hes : ∀ e ∈ es.toList,∃ b k',e.2 = Value.ref b ∧ IsN knd s.heap k' b ∧ k' ≠ ks) (hu : A.units < cLine) {h : Int} {Q : SetFound → Shared → Prop} (hQ : ∀ j,t.slot j = .empty → Way t (Occ t) (t.probeStart h) j → Q (.free j false) s) :
 ∀ (k F c0 : Nat) (stand : Option Probe),k < F → k < 10 * turns t.mask → stand.getD (t.probeStart h) = advs t c0 (t.probeStart h) → (∀ l,l < c0 → Occ t (advs t l (t.probeStart h)).j) → (stand.getD (t.probeStart h)).dummy = none → Hit t k (stand.getD (t.probeStart h)) → wpAny (model prog w) A (setSearchFrom S (.ref x) h true F stand) Q E s:=by
 have hes' : ∀ e ∈ es.toList,∃ b k',e.2 = Value.ref b ∧ IsN knd s.heap k' b:=fun e he=>let ⟨b,k',q1,q2,_⟩:=hes e he; ⟨b,k',q1,q2⟩
 have hps : t.place.size = es.size:=by
  unfold fits at hf
  rw [Bool.and_eq_true] at hf
  exact eq_of_beq hf.1
 intro k
 induction k using Nat.strongRecOn with
 | ind k ih =>
   intro F c0 stand hF hk hst hoc hdn hh
   obtain ⟨F',rfl⟩ : ∃ F',F = F' + 1:=⟨F - 1,by lia⟩
   unfold setSearchFrom
   refine wpAny_bind (wpAny_setState_of ho hd hf ?_)
   dsimp only
   have hgw : t.gaveWay = false:=by
    unfold gaveWay
    rcases hm with z | z <;> rw [z] <;> rfl
   rw [hgw]
   simp only [Bool.false_eq_true,if_false]
   have more : ∀ {c : Nat},(∀ l,l < c → Occ t (advs t l (stand.getD (t.probeStart h))).j) → ∀ l,l < c0 + c → Occ t (advs t l (t.probeStart h)).j:=fun {c} hc l hl=>by
    rcases UY l c0 with z | z
    ·exact hoc l z
    ·obtain ⟨d,rfl⟩ : ∃ d,l = c0 + d:=⟨l - c0,by lia⟩
     have:=hc d (by lia)
     rw [hst,← advs_add] at this
     exact this
   split
   ·next met heq =>
    rcases go_way hdm (10 * turns t.mask) k _ hk hdn hh with ⟨c,j,e,r0,r1,r2⟩ | ⟨c,j,i,k',e,r1,r2,r3,r4,r5,r6⟩
    ·have e2:=SD.inj (e.symm.trans heq)
     subst e2
     refine wpAny_pure (hQ j r1 ⟨c0 + c,?_,more r2⟩)
     rw [advs_add,← hst]; exact r0
    ·have e2:=SD.inj (e.symm.trans heq)
     subst e2
     dsimp only
     have hil : i < es.size:=by
      have:=(UT.mp r2).1
      lia
     obtain ⟨h0,y,hei⟩ : ∃ h0 y,es[i]? = some (h0,y):=⟨es[i].1,es[i].2,UO hil⟩
     obtain ⟨b,kb,eb,hb,hne⟩:=hes (h0,y) (U3 (by rw [UH]; exact hei))
     have eb : y = .ref b:=eb
     subst eb
     refine look_one ho hd hf hx hb hes' hu r1 hei (fun z=>absurd z hne) fun _=>?_
     refine ih k' r5 F' (c0 + (c + 1)) (some _) (by lia) (by lia) ?_ (more r6) r3 r4
     show advs t (c + 1) (stand.getD (t.probeStart h)) = _
     rw [hst,← advs_add]
   ·next heq =>
    exfalso
    rcases go_way hdm (10 * turns t.mask) k _ hk hdn hh with ⟨c,j,e,_⟩ | ⟨c,j,i,k',e,_⟩
    ·exact heq _ e
    ·exact heq _ e
theorem search_old (ho : s.heap.get? S = some o) (hd : o.data = .set es ep t) (hf : t.fits es.size = true) (hm : t.mask = 7 ∨ t.mask = 31) (hr : Ris t.place) {x : Addr} {ks : List K} (hx : IsN knd s.heap ks x)
 (hes : ∀ e ∈ es.toList,∃ b k',e.2 = Value.ref b ∧ IsN knd s.heap k' b) (hu : A.units < cLine) {h : Int} {i0 j0 : Nat} {b0 : Addr} (h0 : t.place[i0]? = some j0) (he0 : es[i0]? = some (h,Value.ref b0)) (hb0 : IsN knd s.heap ks b0) {Q : SetFound → Shared → Prop} (hQ : Q (.there none) s) :
 ∀ (r F : Nat) (stand : Option Probe),r < F → r < 10 * turns t.mask → (stand.getD (t.probeStart h)).dummy = none → (advs t r (stand.getD (t.probeStart h))).j = j0 → (∀ l,l < r → Occ t (advs t l (stand.getD (t.probeStart h))).j) → wpAny (model prog w) A (setSearchFrom S (.ref x) h true F stand) Q E s:=by
 have hps : t.place.size = es.size:=by
  unfold fits at hf
  rw [Bool.and_eq_true] at hf
  exact eq_of_beq hf.1
 intro r
 induction r using Nat.strongRecOn with
 | ind r ih =>
   intro F stand hF hk hdn hj hoc
   obtain ⟨F',rfl⟩ : ∃ F',F = F' + 1:=⟨F - 1,by lia⟩
   unfold setSearchFrom
   refine wpAny_bind (wpAny_setState_of ho hd hf ?_)
   dsimp only
   have hgw : t.gaveWay = false:=by
    unfold gaveWay
    rcases hm with z | z <;> rw [z] <;> rfl
   rw [hgw]
   simp only [Bool.false_eq_true,if_false]
   have hh : ∀ {ha : Nat → Int},(∀ i,ha i = (es[i]?.map (·.1)).getD 0) → (ha i0 == h) = true:=fun {ha} e=>by
    rw [e,he0]
    simp
   split
   ·next met heq =>
    obtain ⟨j,i,next,e,r1,r2,r3⟩:=go_there hr h0 (hh fun _=>rfl) (10 * turns t.mask) r _ hk hdn hj hoc
    have e2:=SD.inj (e.symm.trans heq)
    subst e2
    dsimp only
    have hil : i < es.size:=by
     have:=(UT.mp r2).1
     lia
    obtain ⟨h1,y,hei⟩ : ∃ h1 y,es[i]? = some (h1,y):=⟨es[i].1,es[i].2,UO hil⟩
    obtain ⟨b,kb,eb,hb⟩:=hes (h1,y) (U3 (by rw [UH]; exact hei))
    have eb : y = .ref b:=eb
    subst eb
    refine look_one ho hd hf hx hb hes hu r1 hei (fun _=>hQ) fun hne=>?_
    rcases r3 with z | ⟨r',q1,q2,q3,q4⟩
    ·subst z
     rw [he0] at hei
     cases hei
     exact absurd (hb.key.inj hb0.key) hne
    ·exact ih r' q1 F' (some next) (by lia) (by lia) q2 q3 q4
   ·next heq =>
    exfalso
    obtain ⟨j,i,next,e,_⟩:=go_there hr h0 (hh fun _=>rfl) (10 * turns t.mask) r _ hk hdn hj hoc
    exact heq _ e
end
end St
end L2
namespace L2
open PySem PySem.Spec PyProof.Rows
namespace St
open SetTable
theorem fm_at {α β : Type} {f : α → Option β} : ∀ {l : List α} {i : Nat},(∀ x ∈ l,∃ y,f x = some y) → (l.filterMap f)[i]? = l[i]?.bind f
 | [],i,_=>by simp
 | a :: l,i,h=>by
   obtain ⟨y,hy⟩:=h a SX
   rw [UP hy]
   cases i with
   | zero=>rw [List.getElem?_cons_zero,List.getElem?_cons_zero]; exact hy.symm
   | succ i=>rw [V1,V1]; exact fm_at fun x hx=>h x (SY _ hx)
section
variable {prog : Program} {w : World} {K : Type} [DecidableEq K] (knd : KeyKind prog w K) (G : Addr → Prop)
structure Bdy (h : Heap) (keys : List (List K)) (es : Array (Int × Value)) (t : SetTable) : Prop where
 dm : t.dummies = #[]
 ps : t.place.size = es.size
 len : es.size = keys.length
 ris : Ris t.place
 ent : ∀ (i : Nat) (e : Int × Value),es[i]? = some e → ∃ (b : Addr) (k : List K) (j : Nat),e = (tupleKeyHash knd k,Value.ref b) ∧ IsN knd h k b ∧ k ∈ keys ∧ G b ∧ t.place[i]? = some j ∧ Way t (Occ t) (t.probeStart e.1) j
 key : ∀ k ∈ keys,∃ (i : Nat) (b : Addr),es[i]? = some (tupleKeyHash knd k,Value.ref b) ∧ IsN knd h k b
def SetM (h : Heap) (S : Addr) (keys : List (List K)) : Prop:=∃ o es ep t,h.get? S = some o ∧ o.ExactSet ∧ o.data = .set es ep t ∧ (t.mask = 7 ∧ es.size ≤ 4 ∨ t.mask = 31) ∧ Bdy knd G h keys es t
variable {knd} {G}
theorem Bdy.keep {h h' : Heap} {keys : List (List K)} {es : Array (Int × Value)} {t : SetTable} (x : Bdy knd G h keys es t) (k : ∀ b o ks,IsN knd h ks b → h.get? b = some o → h'.get? b = some o) : Bdy knd G h' keys es t :=
 ⟨x.dm,x.ps,x.len,x.ris,fun i e he=>let ⟨b,ks,j,q1,q2,q3⟩:=x.ent i e he; ⟨b,ks,j,q1,q2.keep fun o eo=>k b o ks q2 eo,q3⟩,fun ks hk=>let ⟨i,b,q1,q2⟩:=x.key ks hk; ⟨i,b,q1,q2.keep fun o eo=>k b o ks q2 eo⟩⟩
theorem Bdy.nums {h : Heap} {keys : List (List K)} {es : Array (Int × Value)} {t : SetTable} (x : Bdy knd G h keys es t) : ∀ e ∈ es.toList,∃ b k',e.2 = Value.ref b ∧ IsN knd h k' b ∧ k' ∈ keys:=fun e he=>by
 obtain ⟨i,hi⟩:=UM he
 rw [UH] at hi
 obtain ⟨b,k,j,rfl,q2,q3,_⟩:=x.ent i e hi
 exact ⟨b,k,rfl,q2,q3⟩
variable {A : Around} {E : Value → Shared → Prop} {s : Shared}
theorem Bdy.again {h : Heap} {keys : List (List K)} {es es2 : Array (Int × Value)} {t t2 : SetTable} {order : Array Nat} (x : Bdy knd G h keys es t) (eo : order.toList.Perm (SK es.size)) (e2 : es2 = order.filterMap (es[·]?)) (d2 : t2.dummies = #[]) (p2 : t2.place.size = es.size) (r2 : Ris t2.place)
 (w2 : ∀ i k : Nat,order[i]? = some k → ∃ (j : Nat) (g : Int),t2.place[i]? = some j ∧ (es.map (·.1))[k]? = some g ∧ Way t2 (Occ t2) (t2.probeStart g) j) : es2.toList.Perm es.toList ∧ Bdy knd G h keys es2 t2:=by
 have hall : ∀ k ∈ order.toList,∃ y,es[k]? = some y:=fun k hk=>⟨_,UO (SQ.mp (eo.mem_iff.mp hk))⟩
 have at2 : ∀ i : Nat,es2[i]? = order[i]?.bind (es[·]?):=fun i=>by
  rw [← UH,e2,Array.toList_filterMap,fm_at hall,UH]
 have hperm : es2.toList.Perm es.toList:=by
  rw [e2,Array.toList_filterMap]
  have:=eo.filterMap (fun i=>es[i]?)
  rw [filterMap_getElem?_range] at this
  exact this
 have hsz : es2.size = es.size:=by
  have:=hperm.length_eq
  rw [T7,T7] at this
  exact this
 refine ⟨hperm,d2,by rw [p2,hsz],by rw [hsz]; exact x.len,r2,fun i e he=>?_,fun k hk=>?_⟩
 ·rw [at2] at he
  cases ho : order[i]? with
  | none=>rw [ho] at he; cases he
  | some k =>
    rw [ho] at he
    have he : es[k]? = some e:=he
    obtain ⟨b,ks,_,q1,q2,q3,q4,_⟩:=x.ent k e he
    obtain ⟨j,g,w1,w2',w3⟩:=w2 i k ho
    rw [Array.getElem?_map,he] at w2'
    have eg : e.1 = g:=SD.inj w2'
    exact ⟨b,ks,j,q1,q2,q3,q4,w1,by rw [eg]; exact w3⟩
 ·obtain ⟨i,b,q1,q2⟩:=x.key k hk
  have hm : (tupleKeyHash knd k,Value.ref b) ∈ es2.toList:=hperm.mem_iff.mpr (U3 (by rw [UH]; exact q1))
  obtain ⟨i2,hi2⟩:=UM hm
  rw [UH] at hi2
  exact ⟨i2,b,hi2,q2⟩
theorem Bdy.more {h : Heap} {keys : List (List K)} {es : Array (Int × Value)} {t t1 : SetTable} {x : Addr} {ks : List K} {j p : Nat} (B : Bdy knd G h keys es t) (hx : IsN knd h ks x) (hG : G x) (he : t.slot j = .empty) (hw : Way t (Occ t) (t.probeStart (tupleKeyHash knd ks)) j) (e1 : t1 = (t.put j).1) (ep : p = (t.put j).2) :
 t1.mask = t.mask ∧ Bdy knd G h (ks :: keys) (insertAt es p (tupleKeyHash knd ks,Value.ref x)) t1:=by
 have hput : t1 = { t with place:=insertAt t.place (below t.place j) j }:=by
  rw [e1]
  unfold put
  have hz : has t.dummies j = false:=by rw [B.dm]; unfold has; rfl
  simp only [hz,Bool.false_eq_true,if_false]
 have ep : p = below t.place j:=by rw [ep]; rfl
 have hn : ∀ i : Nat,t.place[i]? ≠ some j:=fun i z=>by rw [slot_live B.ris z] at he; cases he
 have hple : p ≤ t.place.size:=by rw [ep]; exact (below_ok B.ris j).1
 have hple' : p ≤ es.size:=by rw [← B.ps]; exact hple
 have hmk : t1.mask = t.mask:=by rw [hput]
 have pl : ∀ i : Nat,t1.place[i]? = if i < p then t.place[i]? else if i = p then some j else t.place[i - 1]?:=fun i=>by
  rw [hput]
  show (insertAt t.place (below t.place j) j)[i]? = _
  rw [← ep,insert_at hple]
 have up : ∀ s,Occ t s → Occ t1 s:=fun s ⟨q,hq⟩=>by
  rcases UY q p with z | z
  ·exact ⟨q,by rw [pl,if_pos z]; exact hq⟩
  ·exact ⟨q + 1,by rw [pl,if_neg (by lia),if_neg (by lia)]; exact hq⟩
 have mv : ∀ {g : Int} {r : Nat},Way t (Occ t) (t.probeStart g) r → Way t1 (Occ t1) (t1.probeStart g) r:=fun {g r} z=>by
  have:=(z.mono up).mask (u:=t1) hmk.symm
  rw [start_mask hmk.symm g] at this
  exact this
 refine ⟨hmk,?_,?_,?_,?_,fun i e he=>?_,fun k hk=>?_⟩
 ·rw [hput]; exact B.dm
 ·rw [hput]
  show (insertAt _ _ _).size = _
  rw [insert_size,insert_size,B.ps]
 ·rw [insert_size,B.len]; rfl
 ·rw [hput]
  exact B.ris.put hn
 ·rw [insert_at hple'] at he
  rcases V0 i p with z | z | z
  ·rw [if_pos z] at he
   obtain ⟨b,k,r,q1,q2,q3,q4,q5,q6⟩:=B.ent i e he
   exact ⟨b,k,r,q1,q2,SY _ q3,q4,by rw [pl,if_pos z]; exact q5,mv q6⟩
  ·rw [if_neg (by lia),if_pos z] at he
   cases he
   exact ⟨x,ks,j,rfl,hx,SX,hG,by rw [pl,if_neg (by lia),if_pos z],mv hw⟩
  ·rw [if_neg (by lia),if_neg (by lia)] at he
   obtain ⟨b,k,r,q1,q2,q3,q4,q5,q6⟩:=B.ent (i - 1) e he
   exact ⟨b,k,r,q1,q2,SY _ q3,q4,by rw [pl,if_neg (by lia),if_neg (by lia)]; exact q5,mv q6⟩
 ·rcases T1.mp hk with z | z
  ·subst z
   exact ⟨p,x,by rw [insert_at hple',if_neg (SI _),if_pos rfl],hx⟩
  ·obtain ⟨i,b,q1,q2⟩:=B.key k z
   rcases UY i p with y | y
   ·exact ⟨i,b,by rw [insert_at hple',if_pos y]; exact q1,q2⟩
   ·exact ⟨i + 1,b,by rw [insert_at hple',if_neg (by lia),if_neg (by lia)]; exact q1,q2⟩
theorem add_tail2 {S : Addr} {o : Obj} {es : Array (Int × Value)} {ep : Nat} {t : SetTable} (ho : s.heap.get? S = some o) (hcl : o.ExactSet) (hd : o.data = .set es ep t) {es1 : Array (Int × Value)} {t1 : SetTable} {keys : List (List K)}
 (hmk : t1.mask = 7 ∧ es1.size ≤ 5 ∨ t1.mask = 31) (B : Bdy knd G s.heap keys es1 t1) (h17 : es1.size ≤ 17) {m : Nat} (hm : m = es1.size) {Q : Bool → Shared → Prop}
 (h : ∀ h',Heap.SameBut S s.heap h' → SetM knd G h' S keys → Q true { s with heap:=h' }) :
 wpAny (model prog w) A (do storeSet S es1 t1; if (!false && t1.tooFull) = true then do { setRelay S (grown m); pure true } else pure true) Q E s:=by
 refine wpAny_bind (wpAny_storeSet_of ho hd ?_ (SU h17 (by decide)))
 have hg1 : (s.heap.update S (Obj.putSet es1 t1)).get? S = some { o with data:=.set es1 (ep + 1) t1 }:=by
  have:=Heap.get?_update_self (Obj.putSet es1 t1) ho (by rw [putSet_of _ _ hd]; rfl)
  rw [putSet_of _ _ hd] at this; exact this
 have sb1 : Heap.SameBut S s.heap (s.heap.update S (Obj.putSet es1 t1)):=Heap.SameBut.update ..
 generalize s.heap.update S (Obj.putSet es1 t1) = h1 at hg1 sb1 ⊢
 have other : ∀ {g g' : Heap} {o' : Obj} {es' ep' t'},g.get? S = some o' → o'.data = .set es' ep' t' → Heap.SameBut S g g' → ∀ b oo ks,IsN knd g ks b → g.get? b = some oo → g'.get? b = some oo:=fun {g g' o' es' ep' t'} e1 e2 sb b oo ks hN e=>by
  have hne : b ≠ S:=by
   rintro rfl
   obtain ⟨o2,items,n,q1,q2,q3,_⟩:=hN
   rw [e1] at q1
   cases q1
   rw [e2] at q3
   cases q3
  exact (sb.2 b hne).trans e
 have B1 : Bdy knd G h1 keys es1 t1:=B.keep (other ho hd sb1)
 have hfl : SetTable.fill t1 = es1.size:=by unfold SetTable.fill; rw [B.dm,B.ps]; rfl
 by_cases hfull : t1.tooFull = true
 ·have hf5 : es1.size * 5 ≥ t1.mask * 3:=by
   unfold tooFull at hfull
   rw [hfl] at hfull
   exact of_decide_eq_true hfull
  have hm7 : t1.mask = 7 ∧ es1.size = 5:=by
   rcases hmk with z | z
   ·rw [z.1] at hf5; exact ⟨z.1,by lia⟩
   ·rw [z] at hf5; lia
  simp only [hfull,Bool.not_false,Bool.and_self,if_true]
  refine wpAny_bind ?_
  unfold setRelay
  have hfit1 : t1.fits es1.size = true:=by
   unfold fits
   rw [hfl,B.ps,hm7.1,hm7.2]; rfl
  refine wpAny_bind (wpAny_setState_of (s:={ s with heap:=h1 }) (o:={ o with data:=.set es1 (ep + 1) t1 }) hg1 rfl hfit1 ?_)
  dsimp only
  have hgr : grown m = 20:=by rw [hm,hm7.2]; rfl
  have hsa : sizeAbove 20 = 32:=by decide
  rw [hgr,hsa,if_neg (by decide)]
  have hrl : t1.relaid (es1.map (·.1)) 20 = laid 31 t1.finger (t1.movedTo 31) t1.led t1.plain (es1.map (·.1)):=by
   unfold relaid
   rw [hsa]
  obtain ⟨t2,order,el,et1,et2,et3,eo,er,ew⟩:=laid_way (es1.map (·.1)) (by rw [Array.size_map]; lia) t1.finger (t1.movedTo 31) t1.led t1.plain
  rw [Array.size_map] at et3 eo
  obtain ⟨hperm,B2⟩:=B1.again eo rfl et2 et3 er ew
  have hsz2 : (order.filterMap (es1[·]?)).size = es1.size:=by
   have:=hperm.length_eq
   rw [T7,T7] at this
   exact this
  rw [hrl,el]
  refine wpAny_bind ?_
  show wpAny _ _ (if ((order.filterMap (es1[·]?)).size != es1.size) = true then _ else pure (order.filterMap (es1[·]?),t2)) _ _ _
  rw [if_neg (by rw [hsz2]; simp)]
  refine wpAny_pure ?_
  generalize order.filterMap (es1[·]?) = es2 at hperm hsz2 B2 ⊢
  refine wpAny_storeSet_of (s:={ s with heap:=h1 }) (o:={ o with data:=.set es1 (ep + 1) t1 }) hg1 rfl ?_ (by rw [hsz2]; exact SU h17 (by decide))
  have hg2 : (h1.update S (Obj.putSet es2 t2)).get? S = some { o with data:=.set es2 (ep + 1 + 1) t2 }:=by
   have:=Heap.get?_update_self (Obj.putSet es2 t2) hg1 (by rw [putSet_of (es:=es1) (ep:=ep + 1) (t:=t1) _ _ rfl]; rfl)
   rw [putSet_of (es:=es1) (ep:=ep + 1) (t:=t1) _ _ rfl] at this; exact this
  have sb2 : Heap.SameBut S h1 (h1.update S (Obj.putSet es2 t2)):=Heap.SameBut.update ..
  exact wpAny_pure (h (h1.update S (Obj.putSet es2 t2)) ⟨sb2.1.trans sb1.1,fun b hb=>(sb2.2 b hb).trans (sb1.2 b hb)⟩ ⟨_,_,_,_,hg2,hcl,rfl,.inr et1,B2.keep (other (es':=es1) (ep':=ep + 1) (t':=t1) hg1 rfl sb2)⟩)
 ·have hfull' : t1.tooFull = false:=by simpa using hfull
  simp only [hfull',Bool.and_false,Bool.false_eq_true,if_false]
  refine wpAny_pure (h h1 sb1 ⟨_,_,_,_,hg1,hcl,rfl,?_,B1⟩)
  rcases hmk with z | z
  ·refine .inl ⟨z.1,?_⟩
   unfold tooFull at hfull'
   rw [hfl,z.1] at hfull'
   have hf':=of_decide_eq_false hfull'
   lia
  ·exact .inr z
def kAdd (ks : List K) (keys : List (List K)) : List (List K):=if ks ∈ keys then keys else ks :: keys
theorem add_m {S x : Addr} {ks : List K} {keys : List (List K)} {Q : Bool → Shared → Prop} (hS : SetM knd G s.heap S keys) (hx : IsN knd s.heap ks x) (hGx : G x) (hl : keys.length ≤ 16) (hu : A.units < cLine)
 (h : ∀ b h',Heap.SameBut S s.heap h' → SetM knd G h' S (kAdd ks keys) → Q b { s with heap:=h' }) : wpAny (model prog w) A (setAddHashed S (.ref x) (tupleKeyHash knd ks)) Q E s:=by
 obtain ⟨o,es,ep,t,ho,hcl,hd,hmk,B⟩:=id hS
 have hn:=B.len
 have hm : t.mask = 7 ∨ t.mask = 31:=hmk.elim (fun z=>.inl z.1) .inr
 have hsz : es.size ≤ t.mask:=by rcases hmk with z | z <;> lia
 have hfl : SetTable.fill t = es.size:=by unfold SetTable.fill; rw [B.dm,B.ps]; rfl
 have hfit : t.fits es.size = true:=by
  unfold fits
  rw [hfl,B.ps]
  simp
  exact hsz
 unfold setAddHashed setAddHashedIn
 refine wpAny_holding (wpAny_bind (wpAny_setState_of ho hd hfit ?_))
 dsimp only
 have hbs : byScan (.ref x) es = false:=rfl
 rw [hbs]
 simp only [Bool.false_eq_true,if_false]
 obtain ⟨k,hk1,hk2⟩:=start_hit hm B.dm (by rw [B.ps]; exact hsz) (tupleKeyHash knd ks)
 have hkF : k < 100000:=by
  unfold turns at hk1
  rcases hm with z | z <;> rw [z] at hk1 <;> lia
 by_cases hin : ks ∈ keys
 ·obtain ⟨i0,b0,he0,hb0⟩:=B.key ks hin
  obtain ⟨b,k',j0,q1,q2,q3,q4,q5,q6⟩:=B.ent i0 _ he0
  obtain ⟨m,m1,m2⟩:=q6
  have hmk' : m < k:=by
   refine Nat.lt_of_not_le fun hle=>?_
   unfold Hit at hk2
   rcases UY k m with z | z
   ·obtain ⟨q,hq⟩:=m2 k z
    rw [slot_live B.ris hq] at hk2
    cases hk2
   ·have e : k = m:=by lia
    rw [e,m1,slot_live B.ris q5] at hk2
    cases hk2
  refine wpAny_bind (m:=setSearch S (.ref x) (tupleKeyHash knd ks) true) (search_old ho hd hfit hm B.ris hx (fun e he=>let ⟨b,k',q1,q2,_⟩:=B.nums e he; ⟨b,k',q1,q2⟩) hu q5 he0 hb0 ?_ m 100000 none (by lia) (by lia) rfl m1 m2)
  dsimp only
  refine wpAny_pure (h false s.heap (Heap.SameBut.refl ..) ?_)
  unfold kAdd
  rw [if_pos hin]
  exact hS
 ·have hes : ∀ e ∈ es.toList,∃ b k',e.2 = Value.ref b ∧ IsN knd s.heap k' b ∧ k' ≠ ks:=fun e he=>by
   obtain ⟨b,k,q1,q2,q3⟩:=B.nums e he
   exact ⟨b,k,q1,q2,fun z=>hin (z ▸ q3)⟩
  refine wpAny_bind (m:=setSearch S (.ref x) (tupleKeyHash knd ks) true) (search_new ho hd hfit hm B.dm hx hes hu (fun j hj hw=>?_) k 100000 0 none hkF hk1 rfl (fun l hl=>absurd hl (UZ _)) rfl hk2)
  dsimp only
  refine wpAny_bind (wpAny_setState_of ho hd hfit ?_)
  dsimp only
  obtain ⟨hmk1,B1⟩:=B.more hx hGx hj hw rfl rfl
  generalize (t.put j).1 = t1 at hmk1 B1 ⊢
  generalize (t.put j).2 = p at B1 ⊢
  have hsz1 : (insertAt es p (tupleKeyHash knd ks,Value.ref x)).size = es.size + 1:=insert_size _ _ _
  have tail:=add_tail2 (knd:=knd) (G:=G) (A:=A) (E:=E) (Q:=Q) ho hcl hd (es1:=insertAt es p (tupleKeyHash knd ks,Value.ref x)) (t1:=t1) (keys:=ks :: keys) (by rw [hmk1,hsz1]; rcases hmk with z | z; exact .inl ⟨z.1,by lia⟩; exact .inr z) B1 (by rw [hsz1]; lia) (m:=es.size + 1) (by rw [hsz1]) (fun h' sb hM=>h true h' sb (by unfold kAdd; rw [if_neg hin]; exact hM))
  split
  ·refine wpAny_bind (hashByValue_n hx ?_)
   simp only [if_true]
   exact tail
  ·refine wpAny_bind (wpAny_pure ?_)
   simp only [if_true]
   exact tail
end
end St
end L2
namespace L2
open PySem PySem.Spec PyProof.Rows
namespace St
section
variable {prog : Program} {w : World} {K : Type} [DecidableEq K] {knd : KeyKind prog w K} {G : Addr → Prop} {A : Around} {R : Result → Shared → Prop} {I : Addr} {fp wr : List Addr} {GG : Array GenState → Array GenState → Prop} {n : Nat} {P : Nat → Value → Prop} {St : Nat → Shared → Prop}
theorem SetM.stay {h h' : Heap} {S : Addr} {keys : List (List K)} (x : SetM knd G h S keys) (k : ∀ b o,b = S ∨ G b → h.get? b = some o → h'.get? b = some o) : SetM knd G h' S keys:=by
 obtain ⟨o,es,ep,t,h1,h2,h3,h4,B⟩:=x
 refine ⟨o,es,ep,t,k _ _ (.inl rfl) h1,h2,h3,h4,B.dm,B.ps,B.len,B.ris,fun i e he=>?_,fun ks hk=>?_⟩
 ·obtain ⟨b,ks,j,q1,q2,q3,q4,q5⟩:=B.ent i e he
  exact ⟨b,ks,j,q1,q2.keep fun o eo=>k b o (.inr q4) eo,q3,q4,q5⟩
 ·obtain ⟨i,b,q1,q2⟩:=B.key ks hk
  obtain ⟨b',_,_,e,_,_,q4,_⟩:=B.ent i _ q1
  have eb : b = b':=Value.ref.inj (congrArg Prod.snd e)
  exact ⟨i,b,q1,q2.keep fun o eo=>k b o (.inr (eb ▸ q4)) eo⟩
def kD (key : Nat → List K) : Nat → List (List K)
 | 0=>[]
 | i + 1=>kAdd (key i) (kD key i)
theorem kD_length (key : Nat → List K) : ∀ i,(kD key i).length ≤ i
 | 0=>T9 _
 | i + 1=>by
   have:=kD_length key i
   show (kAdd _ _).length ≤ _
   unfold kAdd
   split
   ·lia
   ·rw [Tq]; lia
theorem kD_mem {key : Nat → List K} {k : List K} : ∀ {i},k ∈ kD key i ↔ ∃ j,j < i ∧ key j = k
 | 0=>⟨(fun h=>nomatch h),(fun ⟨_,h,_⟩=>absurd h (UZ _))⟩
 | i + 1=>by
   show k ∈ kAdd (key i) (kD key i) ↔ _
   unfold kAdd
   split
   ·next h =>
    rw [kD_mem (i:=i)]
    refine ⟨fun ⟨j,h1,h2⟩=>⟨j,by lia,h2⟩,fun ⟨j,h1,h2⟩=>?_⟩
    rcases UY j i with z | z
    ·exact ⟨j,z,h2⟩
    ·obtain rfl : j = i:=by lia
     rw [← h2]
     exact kD_mem.mp h
   ·rw [T1,kD_mem (i:=i)]
    refine ⟨fun h=>?_,fun ⟨j,h1,h2⟩=>?_⟩
    ·rcases h with z | ⟨j,h1,h2⟩
     ·exact ⟨i,Tz _,z.symm⟩
     ·exact ⟨j,by lia,h2⟩
    ·rcases UY j i with z | z
     ·exact .inr ⟨j,z,h2⟩
     ·obtain rfl : j = i:=by lia
      exact .inl h2.symm
theorem kD_all {key : Nat → List K} : ∀ {n},(kD key n).length = n ↔ ∀ i j,i < n → j < n → key i = key j → i = j
 | 0=>⟨fun _ i _ h=>absurd h (UZ _),fun _=>rfl⟩
 | n + 1=>by
   have hl:=kD_length key n
   have ih:=kD_all (key:=key) (n:=n)
   show (kAdd (key n) (kD key n)).length = n + 1 ↔ _
   unfold kAdd
   split
   ·next h =>
    refine ⟨fun z=>by lia,fun z=>?_⟩
    obtain ⟨j,h1,h2⟩:=kD_mem.mp h
    have:=z j n (by lia) (Tz _) h2
    lia
   ·next h =>
    rw [Tq]
    refine ⟨fun z i j hi hj e=>?_,fun z=>?_⟩
    ·have z':=ih.mp (by lia)
     rcases UY i n with a | a
     ·rcases UY j n with b | b
      ·exact z' i j a b e
      ·obtain rfl : j = n:=by lia
       exact absurd (kD_mem.mpr ⟨i,a,e⟩) h
     ·obtain rfl : i = n:=by lia
      rcases UY j i with b | b
      ·exact absurd (kD_mem.mpr ⟨j,b,e.symm⟩) h
      ·lia
    ·have:=ih.mpr fun i j hi hj e=>z i j (by lia) (by lia) e
     lia
theorem loop_m (W : WalksS prog w A.in1 I fp wr GG n P St) (S : Addr) (hSf : S ∉ fp) (key : Nat → List K) (adr : Nat → Addr) (hval : ∀ i v,P i v → v = Value.ref (adr i)) (hG : ∀ i,i < n → G (adr i)) (hGw : ∀ b,G b → b ∉ wr ∧ b ≠ S)
 (hn : n ≤ 17) (hu : A.units + 1 < cLine) (left i : Nat) (s : Shared) (hk : i + left = n) (hst : St i s) (hN : ∀ j,j < n → IsN knd s.heap (key j) (adr j)) (hS : SetM knd G s.heap S (kD key i))
 (hR : ∀ s',Moved (S :: wr) GG s s' → SetM knd G s'.heap S (kD key n) → R (.ok (.ret .none)) s') : codeAny (model prog w) A (.builtin "set.update.loop" ⟨[.ref S,.ref I],[]⟩) R s:=by
 have grow : ∀ {a b : Shared},Moved wr GG a b → Moved (S :: wr) GG a b:=fun m=>m.mono fun _=>SY _
 have stay : ∀ {a b : Shared},Moved wr GG a b → ∀ c o,c = S ∨ G c → a.heap.get? c = some o → b.heap.get? c = some o:=fun m c o hc=>m.heap c o (hc.elim (fun z=>z ▸ mt (W.sub _) hSf) fun z=>(hGw c z).1)
 induction left generalizing i s with
 | zero =>
   obtain rfl : i = n:=by lia
   refine turn_of (show wpAny (model prog w) A.in1 (pyNext (Value.ref I) >>= _) _ _ s from wpAny_bind (W.done s _ _ hst fun s' m=>?_))
   exact wpAny_pure (hR s' (grow m) (hS.stay (stay m)))
 | succ left ih =>
   have hlt : i < n:=by lia
   refine turn_of (show wpAny (model prog w) A.in1 (pyNext (Value.ref I) >>= _) _ _ s from wpAny_bind (W.item i s _ _ hlt hst fun v s' hP hst' m=>?_))
   obtain rfl:=hval i v hP
   have hN' : ∀ j,j < n → IsN knd s'.heap (key j) (adr j):=fun j hj=>(hN j hj).keep fun o e=>stay m _ o (.inr (hG j hj)) e
   have hS' : SetM knd G s'.heap S (kD key i):=hS.stay (stay m)
   refine wpAny_bind (m:=holding [Value.ref (adr i)] (setAdd S (Value.ref (adr i)))) (wpAny_holding ?_)
   unfold setAdd
   refine wpAny_holding (wpAny_bind (wpAny_pyHash_tuple hu (hN' i hlt).key ?_))
   refine add_m (knd:=knd) (G:=G) (s:={ s' with toks:=s'.toks + ((key i).length + 1) }) hS' (hN' i hlt) (hG i hlt) (by have:=kD_length key i; lia) hu fun bb h' sb hS2=>?_
   have other : ∀ c o,c ≠ S → s'.heap.get? c = some o → h'.get? c = some o:=fun c o hc e=>(sb.2 c hc).trans e
   refine wpAny_pure ⟨plainId_quiet F.plain_set_update_loop _,ih (i + 1) _ (by lia) (W.frame _ s' _ _ hst' (V2 _ _) fun b hb o e=>other b o (fun z=>hSf (z ▸ hb)) e) (fun j hj=>(hN' j hj).keep fun o e=>other _ o (hGw _ (hG j hj)).2 e) hS2 fun s'' m2 hS3=>?_⟩
   exact hR s'' (((grow m).then_heap (V2 _ _) fun b o hb e=>other b o (fun z=>hb (z ▸ SX)) e).trans W.gtrans m2) hS3
end
section
variable {prog : Program} {w : World} {K : Type} [DecidableEq K] {knd : KeyKind prog w K} {A : Around} {E : Value → Shared → Prop} {s : Shared}
theorem init_m {l : Addr} {items : Array Value} (led : Bool) (key : Nat → List K) (adr : Nat → Addr) (hh : A.handled = none) (hl : s.heap.IsList l items) (hv : ∀ (i : Nat) (v : Value),items[i]? = some v → v = Value.ref (adr i)) (hN : ∀ j,j < items.size → IsN knd s.heap (key j) (adr j))
 (hb : items.size ≤ 17) (hu : A.units + 20 < cLine) {Q : Fin → Shared → Prop} {E' : Value → Shared → Prop}
 (h : ∀ (h' : Heap) (tk : Nat),SetM knd (fun b=>b < s.heap.objs.size) h' s.heap.objs.size (kD key items.size) → (∀ b o,s.heap.get? b = some o → h'.get? b = some o) → Q (.done (.ret .none)) { s with heap:=h',toks:=tk }) :
 wpAny (model prog w) A (Builtin.«set.__init__» ⟨[.ref s.heap.objs.size,.ref l],[]⟩) Q E' { s with heap:=s.heap.push (nS led) }:=by
 have lS : l < s.heap.objs.size:=by obtain ⟨_,e,_⟩:=hl; exact Heap.lt_size e
 obtain ⟨⟨_,od,_,osl⟩,el,hc,nl,hd⟩:=id hl
 simp only at hc hd; subst hc hd
 have el1 : (s.heap.push (nS led)).get? l = some { cls:=.type "list",dict:=od,data:=.seq items nl,slots:=osl }:=Heap.get?_push_of_some _ el
 have eS : (s.heap.push (nS led)).get? s.heap.objs.size = some (nS led):=Heap.get?_push_size _ rfl
 have hl1 : (s.heap.push (nS led)).IsList l items:=⟨_,el1,rfl,nl,rfl⟩
 have t1:=F.sub_list_set; have t2:=F.sub_list_frozenset; have t3 : (Value.type "list" == Value.type "dict") = false:=by decide
 unfold Builtin.«set.__init__» noKeywords Builtin.Frozenset.updateFrom
 generalize hPI : pyIter = PI; wp_walk; subst hPI
 have zS : (s.heap.push (nS led)).objs.size = s.heap.objs.size + 1:=Heap.size_push ..
 refine wpAny_pyIter_list hl1 (wpAny_bind (wpAny_runValue ?_))
 have up : ∀ b o,s.heap.get? b = some o → ((s.heap.push (nS led)).push (nI l)).get? b = some o:=fun b o e=>Heap.get?_push_of_some _ (Heap.get?_push_of_some _ e)
 have lI : l ≠ (s.heap.push (nS led)).objs.size:=by rw [zS]; exact SJ (Us lS)
 have empty : Bdy knd (fun b=>b < s.heap.objs.size) ((s.heap.push (nS led)).push (nI l)) (kD key 0) #[] (.fresh 0 0 led):=⟨rfl,rfl,rfl,List.Pairwise.nil,fun i e he=>by simp at he,fun k hk=>nomatch hk⟩
 refine loop_m (knd:=knd) (G:=fun b=>b < s.heap.objs.size) ((Walks.list (A:=A.in1) hh _ l lI items).toS) s.heap.objs.size ?_ key adr (fun i v hP=>hv i v hP) (fun i hi=>?_) (fun b hb=>⟨?_,SJ hb⟩) hb (by lia) items.size 0 _ (UG _)
  ⟨⟨_,Heap.get?_push_size _ rfl,rfl,rfl⟩,hl1.push _⟩ (fun j hj=>(hN j hj).keep fun o e=>up _ _ e) ⟨_,_,_,_,Heap.get?_push_of_some _ eS,⟨rfl,rfl,rfl⟩,rfl,.inl ⟨rfl,Tc _⟩,empty⟩ ?_
 ·rw [zS]; intro hm
  rcases T1.mp hm with z | z
  ·exact absurd z (SJ (Tz _))
  ·exact absurd (Ut.mp z) (T8 lS)
 ·obtain ⟨_,_,_,e,_⟩:=hN i hi; exact Heap.lt_size e
 ·rw [zS]; intro hm
  exact absurd (Ut.mp hm) (SJ (Us hb))
 rintro ⟨h',g',d',tk',os'⟩ m hS'
 obtain rfl : g' = s.gens:=m.gens
 obtain rfl : d' = s.drawn:=m.drawn
 obtain rfl : os' = s.os:=m.os
 refine wpAny_pure (wpAny_pure (h h' tk' hS' fun b o e=>?_))
 have lb:=Heap.lt_size e
 refine m.heap b o (fun hm=>?_) (up b o e)
 rw [zS] at hm
 rcases T1.mp hm with z | z
 ·exact absurd z (SJ lb)
 ·exact absurd (Ut.mp z) (SJ (Us lb))
theorem call_setM {l : Addr} {items : Array Value} {Q : Value → Shared → Prop} (key : Nat → List K) (adr : Nat → Addr) (hh : A.handled = none) (hl : s.heap.IsList l items) (hv : ∀ (i : Nat) (v : Value),items[i]? = some v → v = Value.ref (adr i)) (hN : ∀ j,j < items.size → IsN knd s.heap (key j) (adr j))
 (hb : items.size ≤ 17) (hu : A.units + 40 < cLine)
 (h : ∀ (h' : Heap) (tk : Nat),SetM knd (fun b=>b < s.heap.objs.size) h' s.heap.objs.size (kD key items.size) → (∀ b o,s.heap.get? b = some o → h'.get? b = some o) → Q (.ref s.heap.objs.size) { s with heap:=h',toks:=tk }) :
 wpAny (model prog w) A (call (.type "set") [.ref l]) Q E s:=by
 obtain ⟨_,_,hmro⟩:=F.called_set.mro
 have m1:=F.called_set.made; have m2:=F.called_set.sub; have m3:=F.called_set.notType; have m4:=F.called_set.canCreate; have m5:=F.typeCall_set_1 (.ref l)
 refine wpAny_call (codeAny_of_tree (show wpAny _ _ (callAny (.type "set") _) _ _ _ from wpAny_pure ⟨Code.quiet_builtin _ (by decide +kernel),codeAny_builtin F.entry_type_call ?_⟩))
 rw [Around.under_plain (weight_type_call_type "set" [.ref l] []) rfl]
 repeat any_goals first | assumption | wp_step
 refine codeAny_mono (code_set_new_1 (.ref l) (E:=E) (Q₁:=fun v s₁=>v = .ref s.heap.objs.size ∧ ∃ led,s₁ = { s with heap:=s.heap.push (nS led) }) fun led=>⟨rfl,led,rfl⟩) fun r s₁ hr=>?_
 rcases r with e | fl
 ·exact hr
 cases fl with
 | ret v =>
   obtain ⟨e1,led,e2⟩:=hr
   subst e1 e2
   have hT : Shared.TypeIs { s with heap:=s.heap.push (nS led) } (.ref s.heap.objs.size) "set":=⟨_,Heap.get?_push_size _ rfl,rfl⟩
   have m6:=F.called_set.init.lookup; have m7:=F.called_set.init.bind (.ref s.heap.objs.size)
   repeat any_goals first | assumption | wp_step
   refine codeAny_mono (codeAny_call_builtin (R:=wants (fun r s₂=>r = .none ∧ Q (.ref s.heap.objs.size) s₂) E) F.called_set.init.plain F.entry_set_init (check_set_init_1 hT ?_)) fun r₂ s₂ hr₂=>?_
   ·refine init_m (knd:=knd) led key adr ?_ hl hv hN hb ?_ fun h' tk hS hk=>?_
    ·simp [hh]
    ·simp only [Around.in1]; lia
    ·exact ⟨rfl,h h' tk hS hk⟩
   ·rcases r₂ with e | fl₂
    ·exact hr₂
    cases fl₂ with
    | ret _ =>
      obtain ⟨e3,q⟩:=hr₂
      subst e3
      repeat any_goals first | assumption | wp_step
    | _=>exact hr₂.elim
 | _=>exact hr.elim
end
end St
section
variable {X : Cx}
inductive Ma (K : SR) (xs : List V) (H : Hp) (Q : VK) : Prop
 | mk (l : Addr) (ys : List V) (qs : List Rat) (h1 : xs = [.ref l]) (h2 : SqL K H l ys) (h3 : Bl H ys qs) (h4 : qs.length ≤ 17) (h5 : ∀ p n,n ≤ qs.length → (n = qs.length ↔ qs.Nodup) → H p = none → Q (.ref p) (upd H p (MZ p n))) : Ma K xs H Q
theorem LB (hc : X.calm = true) (hu : X.A.units + 64 < cLine) : C9 X (.type "set") (Ma X.K):=by
 intro pins s σ H xs us Q I r h
 obtain ⟨l,ys,qs,rfl,hq,hn,h17,q⟩:=h
 obtain ⟨u,rfl,rfl⟩:=Em r
 obtain ⟨its,rv,p,hz⟩:=I.list hq
 have hl:=rv.length
 have hyl:=hn.length
 have hsz : its.toArray.size = qs.length:=by rw [U8]; lia
 let adr : Nat → Addr:=fun j=>match ys[j]? with | some (.ref r)=>r | _=>0
 have had : ∀ j,j < qs.length → ∃ r,ys[j]? = some (.ref r) ∧ adr j = r ∧ H r = some (nT (qs.getD j 0)):=fun j hj=>by
  have g : qs[j]? = some (qs.getD j 0):=by rw [Uq,Uv hj]; rfl
  obtain ⟨y,hy,r,rfl,hr⟩:=Paired.get' hn g
  exact ⟨r,hy,by show (match ys[j]? with | some (.ref r)=>r | _=>0) = r; rw [hy],hr⟩
 refine St.call_setM (knd:=BO X.prog X.w) (fun j=>kQ (qs.getD j 0)) adr (I.ok.hd hc) p.isList (fun i v hv=>?_) (fun j hj=>?_) (by lia) (by lia) fun h' tk hS hk=>?_
 ·have hv' : its[i]? = some v:=by simpa using hv
  have hi : i < its.length:=(T4.mp hv').1
  obtain ⟨r,hy,hr,_⟩:=had i (by lia)
  obtain ⟨u,hu1,ru⟩:=rv.get hy
  rw [hv'] at hu1
  cases hu1
  rw [hr]; exact ru
 ·rw [hsz] at hj
  obtain ⟨r,_,hr,hH⟩:=had j hj
  rw [hr]
  exact P8 I.hok hH
 ·have hnd : (St.kD (fun j=>kQ (qs.getD j 0)) its.toArray.size).length = qs.length ↔ qs.Nodup:=by
   rw [hsz,St.kD_all]
   refine ⟨fun z=>?_,fun z i j hi hj e=>?_⟩
   ·refine List.pairwise_iff_getElem.mpr fun i j hi hj hlt e=>?_
    have:=z i j hi hj (by rw [Uq,Uq,Uv hi,Uv hj,e])
    lia
   ·have e':=P5 e
    have g1 : qs[i]? = some (qs.getD i 0):=by rw [Uq,Uv hi]; rfl
    have g2 : qs[j]? = some (qs.getD j 0):=by rw [Uq,Uv hj]; rfl
    exact (List.getElem?_inj hi z).mp (by rw [g1,g2,e'])
  have hle:=St.kD_length (fun j=>kQ (qs.getD j 0)) its.toArray.size
  generalize hkk : St.kD (fun j=>kQ (qs.getD j 0)) its.toArray.size = kk at hS hnd hle
  obtain ⟨o,es,ep,t,h1,h2,h3,h4,B⟩:=hS
  have h7:=B.len
  have hfit : SetTable.fits t es.size = true:=by
   unfold SetTable.fits SetTable.fill
   rw [B.dm,B.ps]
   rcases h4 with z | z <;> simp <;> lia
  have new : BF X.prog X.w (upd H s.heap.objs.size (MZ s.heap.objs.size kk.length)) h' s.heap.objs.size (MZ s.heap.objs.size kk.length):=by
   refine ⟨⟨o,es,ep,t,h1,h2,h3,hfit,h7⟩,⟨o,h1⟩,fun g1 g2 hg hk=>?_⟩
   obtain ⟨o,es,ep,t,k1,k2,k3,k4,k5⟩:=hg
   exact ⟨o,es,ep,t,hk o k1,k2,k3,k4,k5⟩
  exact ⟨.ref s.heap.objs.size,_,I.laid (t':=tk) hk (T9 _) new,rfl,q _ _ (by lia) hnd (I.hok.fresh (T9 _))⟩
theorem QB (K : SR) (hc : X.calm = true) (hu : X.A.units + 64 < cLine) (e : X.K = K:=by rfl) : C9 X (.type "set") (Ma K):=by subst e; exact LB hc hu
end
end L2
namespace L2
open PySem PySem.Spec PyProof.Rows
section
open PySem.W
variable {X : Cx} (K : SR)
inductive TyP (K : SR) (H : Hp) : V → Value → Prop where
 | non : TyP K H .non (.type "NoneType")
 | bl (x : Bool) : TyP K H (.bl x) (.type "bool")
 | int (i : Int) : TyP K H (.int i) (.type "int")
 | str (x : Str) : TyP K H (.str x) (.type "str")
 | lst {a : Addr} {xs : List V} (e : SqL K H a xs) : TyP K H (.ref a) (.type "list")
 | tup {a : Addr} {xs : List V} (e : SqT K H a xs) : TyP K H (.ref a) (.type "tuple")
 | dK {a : Addr} {kvs : List (Key × V)} (e : H a = some (.dK kvs)) : TyP K H (.ref a) (.type "dict")
 | dT {a : Addr} {kvs : List (List Key × V)} (e : H a = some (.dT kvs)) : TyP K H (.ref a) (.type "dict")
inductive MS (xs : List V) (H : Hp) (Q : VK) : Prop
 | mk (x : _) (t : _) (tp : _) (ys : _) (cs : _) (b : _) (h1 : xs = [x,.ref tp]) (h2 : TyP K H x t) (h3 : H tp = some (.tup ys)) (h4 : ys.map NG = cs.map some) (h5 : kitAny K t cs = some b) (h6 : Q (.bl b) H) : MS xs H Q
theorem Oa (e : X.K = K:=by rfl) : C9 X (.builtin "isinstance") (MS K):=by
 subst e
 intro pins s σ H xs us Q I r h
 obtain ⟨x,t,tp,ys,cs,b,rfl,ty,htp,hys,hk,q⟩:=h
 obtain ⟨u,w',rfl,rx,ry⟩:=LK r
 cases ry
 obtain ⟨_,its,rv,⟨cc,dd,dt,sl⟩,e1,e2,n,e3⟩:=I.hok tp _ htp
 have e2 : cc = .type "tuple":=e2
 have e3 : dt = .seq its.toArray n:=e3
 subst e2 e3
 rw [HF rv hys] at e1
 have fin : ∀ tk,EP X pins σ Q (.bool b) { s with toks:=tk }:=fun tk=>⟨.bl b,H,I.tok _,rfl,q⟩
 cases ty with
 | non=>cases (show u = Value.none from rx); exact kia_tup kitx_none I.kIn True.intro e1 hk (fun z=>nomatch z) fin
 | bl y=>cases (show u = Value.bool y from rx); exact kia_tup kitx_bool I.kIn True.intro e1 hk (fun z=>nomatch z) fin
 | int i=>obtain ⟨t,q⟩:=(show ∃ t,u = Value.int i t from rx); cases q; exact kia_tup kitx_int I.kIn True.intro e1 hk (fun z=>nomatch z) fin
 | str y=>obtain ⟨t,q⟩:=(show ∃ t,u = Value.str y t from rx); cases q; exact kia_tup kitx_str I.kIn True.intro e1 hk (fun z=>nomatch z) fin
 | @lst a xs hz =>
   cases (show u = Value.ref a from rx)
   obtain ⟨_,_,⟨o,_,o1,o2,_⟩,_⟩:=I.list hz
   exact kia_tup kitx_list I.kIn ⟨o,o1,o2⟩ e1 hk (fun z=>nomatch z) fin
 | @tup a xs hz =>
   cases (show u = Value.ref a from rx)
   obtain ⟨_,_,⟨o,o1,o2,_⟩,_⟩:=I.tuple hz
   exact kia_tup kitx_tuple I.kIn ⟨o,o1,o2⟩ e1 hk (fun z=>nomatch z) fin
 | @dK a kvs ea =>
   cases (show u = Value.ref a from rx)
   obtain ⟨_,_,vs,_,p⟩:=(show BF X.prog X.w H s.heap a (.dK kvs) from I.hok a _ ea)
   obtain ⟨o,es,ep,h1,h2,_⟩:=p
   exact kia_tup kitx_dict I.kIn ⟨o,h1,h2.1⟩ e1 hk (fun z=>nomatch z) fin
 | @dT a kvs ea =>
   cases (show u = Value.ref a from rx)
   obtain ⟨_,_,vs,_,p⟩:=(show BF X.prog X.w H s.heap a (.dT kvs) from I.hok a _ ea)
   obtain ⟨o,es,ep,h1,h2,_⟩:=p
   exact kia_tup kitx_dict I.kIn ⟨o,h1,h2.1⟩ e1 hk (fun z=>nomatch z) fin
end
theorem Bc {c k pos es env} : starEach (.Constant c k pos :: es) env = (false,eval (.Constant c k pos) env) :: starEach es env:=by rfl
theorem QC {xs k pos es env} : starEach (.Tuple xs k pos :: es) env = (false,eval (.Tuple xs k pos) env) :: starEach es env:=by rfl
theorem QD {xs pos es env} : starEach (.List xs pos :: es) env = (false,eval (.List xs pos) env) :: starEach es env:=by rfl
theorem EW {x op y pos es env} : starEach (.BinOp x op y pos :: es) env = (false,eval (.BinOp x op y pos) env) :: starEach es env:=by rfl
end L2
namespace L2
open PySem PySem.Spec PyProof.Rows
section
variable {X : Cx} {e : Expr} {es : List Expr} {te : TE} {t : TA} {pos : Pos}
@[irreducible] def PEk (X : Cx) (e : Expr) (te : TE) : Prop:=PE X e te
@[irreducible] def PAk (X : Cx) (es : List Expr) (t : TA) : Prop:=PA X es t
theorem pek (h : PE X e te) : PEk X e te:=by unfold PEk; exact h
theorem PEk.to (h : PEk X e te) : PE X e te:=by unfold PEk at h; exact h
theorem PAk.to (h : PAk X es t) : PA X es t:=by unfold PAk at h; exact h
theorem BU : PAk X [] N8:=by unfold PAk; exact Ac
theorem Ai (ha : PEk X e te) (hr : PAk X es t) (hs : starEach (e :: es) X.env = (false,eval e X.env) :: starEach es X.env) : PAk X (e :: es) (Kh te t):=by unfold PAk; exact Aa ha.to hr.to hs
theorem Nk {i j pos} : PEk X (.Constant (.int i) j pos) (tC (.int i)):=pek Ag
theorem OD {b j pos} : PEk X (.Constant (.bool b) j pos) (tC (.bl b)):=pek Fs
theorem Nj {j pos} : PEk X (.Constant .none j pos) (tC .non):=pek Cj
theorem Ao {x j pos} : PEk X (.Constant (.str x) j pos) (tC (.str x)):=pek Aj
theorem Ni {x1} (h : PAk X es t) : PEk X (.Tuple es x1 pos) (Pu t):=pek (AG h.to)
theorem BZ (h : PAk X es t) : PEk X (.List es pos) (PJ t):=pek (Bq h.to)
theorem DK {a b : Expr} {ta tb : TE} {op : Operator} {r : R2} (ho : OpR X (binaryOp op) r) (ha : PEk X a ta) (hb : PEk X b tb) : PEk X (.BinOp a op b pos) (tOp r ta tb):=pek (Am ho ha.to hb.to)
theorem Ce {i : Nat} {x : Str} {pos' : Pos} (hN : X.N.Nodup) (hi : X.N[i]? = some x) (hx : Loc X.env.scope x) (he : PEk X e te) (hs : swapsWith e (some (.Name x pos')) pos.line X.env = pure false:=by rfl) (hf : X.fn x = true ∨ X.env.scope.names.lookup x = some .local:=by first | exact .inl rfl | exact .inr rfl | assumption) :
 PS X (.Assign [.Name x pos'] e pos) (KY te (C8 i)):=Ap hN hi hx he.to hs hf
end
end L2
namespace L2
open PySem PySem.Spec PyProof.Rows
section
variable {X : Cx} {e k : Expr} {te tk : TE}
end
end L2
namespace L2
open PySem PySem.Spec PyProof.Rows
def sg (x : Str) : List Nat:=x.cps.toList
theorem Ca {x y : Str} (h : sg x = sg y) : x = y:=by
 obtain ⟨a⟩:=x
 obtain ⟨b⟩:=y
 exact congrArg Str.mk (Array.toList_inj.mp h)
theorem AL (x y : Str) : sg (x ++ y) = sg x ++ sg y:=cps_toList_append x y
theorem AE (x : Str) : x.length = (sg x).length:=by
 show x.cps.size = x.cps.toList.length
 simp
theorem BP (s : String) : sg (Str.ofString s) = s.toList.map Char.toNat:=signs_ofString s
def dg (n : Nat) : List Nat:=(Nat.toDigits 10 n).map Char.toNat
theorem Dj {n c : Nat} (h : c ∈ dg n) : 48 ≤ c ∧ c ≤ 57:=by
 obtain ⟨ch,hc,e⟩:=V4.mp h
 rw [← e]
 exact digit_range (Nat.isDigit_of_mem_toDigits (by decide) (by decide) hc)
theorem HE (n : Nat) : dg n ≠ []:=fun h=>Nat.toDigits_ne_nil (List.map_eq_nil_iff.mp h)
theorem GL {n k : Nat} (hk : 0 < k) (h : n < 10 ^ k) : (dg n).length ≤ k:=by
 unfold dg
 rw [Tx]
 exact (Nat.length_toDigits_le_iff (by decide) hk).mpr h
def vl (l : List Nat) (a : Nat) : Nat:=l.foldl (fun a c=>a * 10 + (c - 48)) a
theorem NW : ∀ (l : List Char) (a : Nat),vl (l.map Char.toNat) a = Nat.ofDigitChars 10 l a
 | [],a=>rfl
 | c :: r,a=>by
   have e : vl ((c :: r).map Char.toNat) a = vl (r.map Char.toNat) (a * 10 + (c.toNat - 48)):=rfl
   rw [e,NW r,Nat.ofDigitChars_cons,Nat.mul_comm]
   rfl
theorem Hn (n : Nat) : vl (dg n) 0 = n:=by
 unfold dg
 rw [NW,Nat.ofDigitChars_ten_toDigits]
theorem KD {n : Nat} (h : 10 ≤ n) : dg n = dg (n / 10) ++ [(V5 (n % 10)).toNat]:=by
 unfold dg
 rw [Nat.toDigits_of_base_le (by decide) h,UQ]
 rfl
theorem Jv {n : Nat} (h : n < 10) : dg n = [(V5 n).toNat]:=by
 unfold dg
 rw [Nat.toDigits_of_lt_base h]
 rfl
theorem FN : ∀ {n : Nat} {r : List Nat},dg n = 48 :: r → n = 0:=by
 intro n
 induction n using Nat.strongRecOn with
 | _ n ih =>
   intro r h
   by_cases hn : n < 10
   ·rw [Jv hn] at h
    have e:=(Uy.inj h).1
    have : ∀ m,m < 10 → (V5 m).toNat = 48 → m = 0:=by decide
    exact this n hn e
   ·rw [KD (by lia)] at h
    cases hd : dg (n / 10) with
    | nil=>exact absurd hd (HE _)
    | cons c t =>
      rw [hd] at h
      have e : c = 48:=(Uy.inj h).1
      subst e
      have:=ih (n / 10) (by lia) hd
      lia
def txI (i : Int) : Str:=Str.ofString (toString i)
theorem FX (n : Nat) : sg (txI n) = dg n:=by
 unfold txI dg
 rw [BP]
 have e : toString ((n : Nat) : Int) = Nat.repr n:=rfl
 rw [e,Nat.toList_repr]
theorem M5 {n : Nat} (h : 0 < n) : sg (txI (-(n : Int))) = 45 :: dg n:=by
 unfold txI dg
 rw [BP]
 obtain ⟨m,rfl⟩ : ∃ m,n = m + 1:=⟨n - 1,by lia⟩
 have e : toString (-((m + 1 : Nat) : Int)) = "-" ++ Nat.repr (m + 1):=rfl
 rw [e,String.toList_append,UQ,Nat.toList_repr]
 rfl
theorem D0 (i : Int) : (∃ n : Nat,i = n ∧ sg (txI i) = dg n) ∨ (∃ n : Nat,0 < n ∧ i = -(n : Int) ∧ sg (txI i) = 45 :: dg n):=by
 by_cases h : 0 ≤ i
 ·exact .inl ⟨i.toNat,by lia,by rw [← FX]; congr; lia⟩
 ·exact .inr ⟨(-i).toNat,by lia,by lia,by rw [← M5 (by lia)]; congr; lia⟩
theorem CZ (i : Int) {c : Nat} (h : c ≠ 45 ∧ (c < 48 ∨ 57 < c)) : c ∉ sg (txI i):=int_text_free' c h i
def tx (x : Rat) : Str:=if x.den = 1 then txI x.num else txI x.num ++ Str.ofString "/" ++ txI x.den
theorem O3 : Str.ofString "/" = ⟨#[47]⟩:=by apply Ca; rw [BP]; rfl
theorem IS {x : Str} {c : Nat} (h : c ∉ sg x) : Txt.split x ⟨#[c]⟩ = [x]:=by
 have hl:=split_len x c
 have hj:=StrLaws.join_split x ⟨#[c]⟩
 rw [cnt_none c x.cps.toList h] at hl
 cases e : Txt.split x ⟨#[c]⟩ with
 | nil=>rw [e] at hl; simp at hl
 | cons p r =>
   cases r with
   | nil=>rw [e,join_one] at hj; rw [hj]
   | cons q r=>rw [e] at hl; simp at hl; lia
theorem JE {c : Nat} : ∀ {a b p q : List Nat},c ∉ a → c ∉ p → a ++ c :: b = p ++ c :: q → a = p ∧ b = q
 | [],b,[],q,_,_,h=>⟨rfl,(Uy.inj h).2⟩
 | [],b,y :: p,q,_,hp,h=>absurd (T1.mpr (.inl (Uy.inj h).1)) hp
 | x :: a,b,[],q,ha,_,h=>absurd (T1.mpr (.inl (Uy.inj h).1.symm)) ha
 | x :: a,b,y :: p,q,ha,hp,h=>by
   have h1:=Uy.inj h
   obtain ⟨e1,e2⟩:=JE (fun z=>ha (SY _ z)) (fun z=>hp (SY _ z)) h1.2
   rw [h1.1,e1]
   exact ⟨rfl,e2⟩
theorem Lc {a b : Str} {c : Nat} (ha : c ∉ sg a) (hb : c ∉ sg b) : Txt.split (a ++ ⟨#[c]⟩ ++ b) ⟨#[c]⟩ = [a,b]:=by
 have hl:=split_len (a ++ ⟨#[c]⟩ ++ b) c
 have hj:=StrLaws.join_split (a ++ ⟨#[c]⟩ ++ b) ⟨#[c]⟩
 have hf:=StrLaws.split_free (a ++ ⟨#[c]⟩ ++ b) c
 have es : (a ++ ⟨#[c]⟩ ++ b).cps.toList = sg a ++ c :: sg b:=by
  show sg (a ++ ⟨#[c]⟩ ++ b) = _
  rw [AL,AL,V6]
  rfl
 rw [es,cnt_append,cnt_cons,cnt_none c _ ha,cnt_none c _ hb,if_pos rfl] at hl
 cases e : Txt.split (a ++ ⟨#[c]⟩ ++ b) ⟨#[c]⟩ with
 | nil=>rw [e] at hl; simp at hl
 | cons p r =>
   cases r with
   | nil=>rw [e] at hl; simp at hl
   | cons q r =>
     cases r with
     | nil =>
       rw [e,join_cons_cons,join_one] at hj
       rw [e] at hf
       have hs:=congrArg sg hj
       have e2 : sg (p ++ ⟨#[c]⟩ ++ q) = sg p ++ c :: sg q:=by
        rw [AL,AL,V6]
        rfl
       rw [e2,show sg (a ++ ⟨#[c]⟩ ++ b) = _ from es] at hs
       obtain ⟨z1,z2⟩:=JE (hf p (by simp)) ha hs
       rw [Ca z1,Ca z2]
     | cons _ _=>rw [e] at hl; simp at hl; lia
theorem LL (x : Rat) : Txt.split (tx x) (Str.ofString "/") = if x.den = 1 then [txI x.num] else [txI x.num,txI x.den]:=by
 unfold tx
 rw [O3]
 split
 ·exact IS (CZ _ (by decide))
 ·exact Lc (CZ _ (by decide)) (CZ _ (by decide))
section
variable {X : Cx}
inductive Kl (x : V) (vs : List V) (H : Hp) (Q : VK) : Prop
 | mk (y z : Str) (h1 : x = .str y) (h2 : vs = [.str z]) (h3 : Q (.bl (Txt.startswith y z)) H) : Kl x vs H Q
theorem Hf : MtR X "str.startswith" Kl:=by
 intro pins s σ H x vs v us Q I rx rv h
 obtain ⟨y,z,rfl,rfl,q⟩:=h
 obtain ⟨t,rfl⟩:=rx
 obtain ⟨u,rfl,ru⟩:=rv.one
 obtain ⟨t',rfl⟩:=ru
 exact SC.startswith ⟨.bl _,H,I,rfl,q⟩
theorem Ho : ∀ l : List (Str × Tok),AN (l.map fun p=>V.str p.1) (strValues l)
 | []=>.nil
 | p :: r=>.cons ⟨p.2,rfl⟩ (Ho r)
inductive M9 (x : V) (vs : List V) (H : Hp) (Q : VK) : Prop
 | mk (y z : Str) (h1 : x = .str y) (h2 : vs = [.str z]) (h3 : (z.length == 0) = false) (h4 : y.length + 2 ≤ sizeLine) (h5 : ∀ p,H p = none → Q (.ref p) (upd H p (.lst ((Txt.split y z).map V.str)))) : M9 x vs H Q
theorem CF : MtR X "str.split" M9:=by
 intro pins s σ H x vs v us Q I rx rv h
 obtain ⟨y,z,rfl,rfl,hz,hy,q⟩:=h
 obtain ⟨t,rfl⟩:=rx
 obtain ⟨u,rfl,ru⟩:=rv.one
 obtain ⟨t',rfl⟩:=ru
 have fin : ∀ (l : List (Str × Tok)) (k : Nat),l.map (·.1) = Txt.split y z → EP X pins σ Q (.ref s.heap.objs.size) { s with heap:=s.heap.push { cls:=.type "list",data:=.seq (strValues l).toArray },toks:=k }:=by
  intro l k e
  have em : l.map (fun p=>V.str p.1) = (Txt.split y z).map V.str:=by rw [← e,V7]; rfl
  have hv:=Ho l
  rw [em] at hv
  have hb : ((Txt.split y z).map V.str).length ≤ sizeLine:=by
   rw [Tx]
   exact SU (split_le y z) hy
  exact ⟨.ref s.heap.objs.size,_,I.laid (t':=k) (o:=.lst ((Txt.split y z).map V.str)) (fun b ob q=>Heap.get?_push_of_some _ q) (T9 _) ⟨hb,_,0,hv,Heap.get?_push_size _ rfl⟩,rfl,q _ (I.hok.fresh (T9 _))⟩
 cases h1 : (decide (y.length < z.length) || decide (Builtin.Str.strKind y < Builtin.Str.strKind z))
 ·have hn : (Builtin.Str.partsBetween y (Builtin.Str.occurrences y z 0 y.length (y.length + 1)) z.length).length ≤ sizeLine:=by
   have e1:=StrLaws.occ_length_le y z 0 y.length (y.length + 1)
   rw [len_partsBetween]; lia
  cases hf : (Builtin.Str.occurrences y z 0 y.length (y.length + 1)).isEmpty
  ·refine call_meets F.slot_str_split (typeIs_str _ _ _) F.entry_str_split (F.args_str_split_2 _ _) (meets_str_split_sep y z t t' h1 hz hf (by lia) hn) ?_
   show wants (EP X pins σ Q) X.xe _ { s with toks:=_,heap:=s.heap.push { cls:=.type "list",data:=.seq (strsFrom s.toks (Builtin.Str.partsBetween y (Builtin.Str.occurrences y z 0 y.length (y.length + 1)) z.length)).toArray } }
   rw [strsFrom_eq]
   exact fin (numbered s.toks _) _ ((numbered_texts _ _).trans ((if_neg (ne_true_of_eq_false h1)).trans (if_neg (ne_true_of_eq_false hf))).symm)
  ·exact call_meets F.slot_str_split (typeIs_str _ _ _) F.entry_str_split (F.args_str_split_2 _ _) (meets_str_split_not_found y z t t' h1 hz hf)
    (fin [(y,t)] s.toks ((if_neg (ne_true_of_eq_false h1)).trans (if_pos hf)).symm)
 ·exact call_meets F.slot_str_split (typeIs_str _ _ _) F.entry_str_split (F.args_str_split_2 _ _) (meets_str_split_cannot_occur y z t t' h1)
   (fin [(y,t)] s.toks (if_pos h1).symm)
inductive Q4 (x : V) (lo : Option Int) (hi : Option Int) (H : Hp) (Q : VK) : Prop
 | mk (y : Str) (c : Nat) (r : List Nat) (h1 : x = .str y) (h2 : lo = some 1) (h3 : hi = none) (h4 : sg y = c :: r) (h5 : y.length ≤ sizeLine) (h6 : Q (.str ⟨r.toArray⟩) H) : Q4 x lo hi H Q
theorem Oo : SlR X Q4:=by
 intro pins s σ H x v vl vu lo hi sl Q I rx hs pl pu h
 obtain ⟨y,c,r,rfl,rfl,rfl,e,hy,q⟩:=h
 obtain ⟨t,rfl⟩:=rx
 cases pl with
 | int i u =>
   cases pu
   have e2 : y.length = r.length + 1:=by rw [AE,e]; rfl
   have e1:=StrLaws.sliced_plain y (a:=1) (b:=y.length) (by lia) (T9 _)
   have e3 : Builtin.Str.strSliceIndices (some 1) none 1 y.length = Builtin.Str.strSliceIndices (some ((1 : Nat) : Int)) (some (y.length : Int)) 1 y.length:=StrLaws.sliceIdx_none_hi _ _
   have e4 : (Builtin.Str.strSliceIndices (some 1) none 1 y.length).length = r.length:=by
    rw [e3,StrLaws.strSliceIndices_plain (by lia) (T9 _),Tx,UI]; lia
   refine ⟨"str",_,F.slot_str_getitem.lookup,typeIs_str s y t,?_⟩
   refine wpAny_getItem_str_slice (l:=some (1,u)) (u:=none) (st:=none) hs rfl ?_
   unfold sliceMade slicePicked
   have e5 : (((none : Option (Int × Tok)).map (·.1)).getD 1 == 1 && (Builtin.Str.strSliceIndices ((some ((1 : Int),u)).map (·.1)) ((none : Option (Int × Tok)).map (·.1)) (((none : Option (Int × Tok)).map (·.1)).getD 1) y.length).length == y.length) = false:=by
    show (true && (Builtin.Str.strSliceIndices (some 1) none 1 y.length).length == y.length) = false
    rw [e4,e2]; simp
   rw [e5,if_neg Bool.false_ne_true]
   have e6 : ((Builtin.Str.strSliceIndices (some 1) none 1 y.length).filterMap (y.cps[·]?)) = r:=by
    rw [e3,e1]
    show ((sg y).drop 1).take _ = r
    rw [e]
    show r.take (y.length - 1) = r
    exact UC (by lia)
   have fin : (Made.str ⟨((Builtin.Str.strSliceIndices (some 1) none 1 y.length).filterMap (y.cps[·]?)).toArray⟩).post (EP X pins σ Q) s:=by
    rw [e6]
    exact ⟨by show r.toArray.size ≤ sizeLine; simp; lia,⟨.str ⟨r.toArray⟩,H,I.tok _,⟨_,rfl⟩,q⟩⟩
   exact fin
def Its (x : Str) : It:=⟨fun i _=>i < (sg x).length,fun i H v H'=>H' = H ∧ ∃ c,(sg x)[i]? = some c ∧ v = .str ⟨#[c]⟩,fun i _=>(sg x).length ≤ i⟩
theorem LN {P : Program} {w : World} {K : SR} {tg : Expr} (it : Addr) (x : Str) (t : Tok) : JG P w K tg (Its x) [it] it (fun i h=>h.IsStrIter it "str_ascii_iterator" x t i) where
 mem:=by simp
 obj:=fun i h st b hb=>by
  have e : b = it:=by simpa using hb
  subst e
  obtain ⟨o,e,c,d⟩:=st
  exact ⟨o,e,fun v z=>by rw [d] at z; cases z⟩
 keep:=fun i h h' st k=>let ⟨o,e,r⟩:=st; ⟨o,k it (by simp) o e,r⟩
 item:=by
  intro X hP hw hK hc i pins s σ H E I hf st hg
  subst hP hw hK
  obtain ⟨f0,f1,f2,f3,f4,f5⟩:=hf it (by simp)
  obtain ⟨c,hx⟩ : ∃ c,(sg x)[i]? = some c:=⟨_,Uv hg⟩
  refine wpAny_pyNext_ascii_item st (c:=c) (by rw [← hx]; simp [sg]) fun h' st' sb=>?_
  have I1 : Inv X pins σ H { s with heap:=h',toks:=s.toks + 1 }:=I.turned (fun b o hb e=>(sb.2 b hb).trans e) f0 f1 f3 f4 f5
  obtain ⟨o,e,c',d⟩:=id st'
  exact ⟨_,rfl,Jq (s:={ s with heap:=h',toks:=s.toks + 1 }) e c' d (by decide) ⟨.str ⟨#[c]⟩,H,I1,⟨_,rfl⟩,⟨rfl,c,hx,rfl⟩,st',fun b hb=>(hf b hb).1⟩⟩
 done:=by
  intro X hP hw hK hc i pins s σ H E I hf st hg
  subst hP hw hK
  obtain ⟨f0,f1,f2,f3,f4,f5⟩:=hf it (by simp)
  have hx : x.cps[i]? = none:=by
   have : (sg x).length ≤ i:=hg
   simp [sg] at this
   simp [this]
  exact wpAny_pyNext_ascii_end (I.ok.hd hc) st hx fun h' eb=>⟨rfl,I.turned (t':=s.toks) (fun b o hb e=>eb b o hb e) f0 f1 f3 f4 f5⟩
 self:=fun _ _ _ _ _ st h=>wpAny_pyIter_striter_ascii st h
inductive Qe (tl : TE) (σ : St) (H : Hp) (R : It → Hp → Prop) : Prop
 | mk (h : tl σ H fun v H1=>∃ x,v = .str x ∧ (∀ c ∈ sg x,c < 128) ∧ R (Its x) H1) : Qe tl σ H R
theorem Q9 {tg l : Expr} {tl : TE} (hl : PE X l tl) : PI X tg l (Qe tl):=by
 intro pins s σ H R I h
 obtain ⟨h⟩:=h
 refine thn (hl pins s σ H _ I h) fun v s1 ⟨x,H1,I1,r1,q1⟩=>?_
 obtain ⟨x,rfl,ha,q⟩:=q1
 obtain ⟨t,rfl⟩:=r1
 refine wpAny_pyIter_ascii (by
  rw [V8]
  intro c hc
  exact decide_eq_true (ha c (by simpa [sg] using hc))) ?_
 refine ⟨s1.heap.objs.size,[s1.heap.objs.size],_,_,H1,rfl,I1.kept (t':=s1.toks) fun b o e=>Heap.get?_push_of_some _ e,LN _ x t,⟨_,Heap.get?_push_size _ rfl,rfl,rfl⟩,fun b hb=>?_,q⟩
 have e : b = s1.heap.objs.size:=by simpa using hb
 subst e
 exact I1.fpOk (T9 _) (I1.hok.fresh (T9 _))
end
theorem Jj {x : Str} {js : List Nat} {te : TE} {σ : St} {H : Hp} {Fin : List V → Hp → Prop} (Pv : Nat → List V → Hp → Prop) (h0 : Pv 0 [] H) (hl : ∀ i zs H,i ≤ (sg x).length → Pv i zs H → zs.length = i) (hz : (sg x).length ≤ sizeLine)
 (hs : ∀ i c zs H,(sg x)[i]? = some c → Pv i zs H → te ((cS 1 js σ).set 0 (some (.str ⟨#[c]⟩))) H fun y H4=>Pv (i + 1) (zs ++ [y]) H4) (fin : ∀ zs H',Pv (sg x).length zs H' → Fin zs H') :
 ∃ (n' : Nat) (W : Nat → List V → Hp → Prop),W 0 [] H ∧ LcW (Its x) n' 1 js σ (C8 0) KW te Fin W:=by
 refine ⟨(sg x).length,Pv,h0,⟨?_,?_,?_⟩⟩
 ·intro i zs H' hi p
  have h2:=hl i zs H' (SV hi) p
  exact ⟨hi,by lia⟩
 ·rintro i zs H' v H1 hi p ⟨rfl,c,hc,rfl⟩
  exact hs i c zs _ hc p
 ·intro zs H' p
  have h2:=hl _ zs H' (T9 _) p
  exact ⟨T9 _,by lia,fin zs H' p⟩
end L2
namespace L2
open PySem PySem.Spec PyProof.Rows
theorem OM : typeLookup (.type "str") "__int__" = pure none:=by rw [typeLookup_type,builtinLookup_eq_fast]; kernel_rfl
theorem Mq : typeLookup (.type "str") "__index__" = pure none:=by rw [typeLookup_type,builtinLookup_eq_fast]; kernel_rfl
theorem Mp : typeLookup (.type "str") "__trunc__" = pure none:=by rw [typeLookup_type,builtinLookup_eq_fast]; kernel_rfl
theorem Ds {p : Nat → Bool} : ∀ {l : List Nat},(∀ c ∈ l,p c = false) → l.dropWhile p = l
 | [],_=>rfl
 | c :: r,h=>by rw [List.dropWhile_cons,h c (by simp)]; rfl
theorem E8 {p : Nat → Bool} : ∀ {l : List Nat},(∀ c ∈ l,p c = true) → l.takeWhile p = l
 | [],_=>rfl
 | c :: r,h=>by rw [List.takeWhile_cons,h c (by simp),E8 fun d hd=>h d (SY _ hd)]; rfl
theorem Fl {f : (Array Nat × Bool) → Nat → Option (Array Nat × Bool)} (hf : ∀ ds b c,48 ≤ c → c ≤ 57 → f (ds,b) c = some (ds.push (c - 48),true)) :
 ∀ (l : List Nat) (ds : Array Nat) (b : Bool),(∀ c ∈ l,48 ≤ c ∧ c ≤ 57) → l.foldlM f (ds,b) = some (ds ++ (l.map (· - 48)).toArray,b || !l.isEmpty)
 | [],ds,b,_=>by simp
 | c :: r,ds,b,h=>by
   rw [List.foldlM_cons,hf ds b c (h c (by simp)).1 (h c (by simp)).2]
   show r.foldlM f (ds.push (c - 48),true) = _
   rw [Fl hf r _ _ fun d hd=>h d (SY _ hd)]
   simp
theorem Ju : ∀ (l : List Nat) (a : Nat),(l.map (· - 48)).foldl (fun acc d=>acc * 10 + d) a = vl l a
 | [],_=>rfl
 | c :: r,a=>Ju r (a * 10 + (c - 48))
theorem KA (l : List Nat) : (#[] ++ (l.map (· - 48)).toArray).foldl (fun acc d=>acc * 10 + d) 0 = vl l 0:=by
 rw [← Array.foldl_toList]
 simpa using Ju l 0
open Lean in
local macro_rules
 | `(tactic| trivial)=>do
   let p : Name:=.num (.str (.str (.str (.str (.str .anonymous "_private") "PySem") "Builtin") "Int") "W0All") 0
   let n:=mkIdent (p ++ `PySem.Builtin.isBlank)
   `(tactic| unfold $n:ident)
open Lean in
local macro_rules
 | `(tactic| trivial)=>do
   let p : Name:=.num (.str (.str (.str (.str (.str .anonymous "_private") "PySem") "Builtin") "Int") "W0All") 0
   let n:=mkIdent (p ++ `PySem.Builtin.digitValue?)
   `(tactic| unfold $n:ident)
open Lean in
local macro_rules
 | `(tactic| trivial)=>do
   let p : Name:=.num (.str (.str (.str (.str (.str .anonymous "_private") "PySem") "Builtin") "Int") "W0All") 0
   let n:=mkIdent (p ++ `PySem.Builtin.numeralDigits?)
   `(tactic| unfold $n:ident)
open Lean in
local macro_rules
 | `(tactic| trivial)=>do
   let p : Name:=.num (.str (.str (.str (.str (.str .anonymous "_private") "PySem") "Builtin") "Int") "W0All") 0
   let n:=mkIdent (p ++ `PySem.Builtin.prefixBase?)
   `(tactic| unfold $n:ident)
open Lean in
local macro_rules
 | `(tactic| trivial)=>do
   let p : Name:=.num (.str (.str (.str (.str (.str .anonymous "_private") "PySem") "Builtin") "Int") "W0All") 0
   let n:=mkIdent (p ++ `PySem.Builtin.readNumeral)
   `(tactic| unfold $n:ident)
set_option maxHeartbeats 0 in
theorem DO (x : Str) (u : Tok) (t l : List Nat) (n : Int) (hx : sg x = t) (ht : t = l ∧ n = vl l 0 ∨ t = 45 :: l ∧ n = -(vl l 0 : Int)) (h60 : l.length ≤ 100) (hl : ∀ c ∈ l,48 ≤ c ∧ c ≤ 57) (hn : l ≠ []) (h0 : ∀ r,l = 48 :: r → r = []) :
 Meets (Builtin.«int.__new__» ⟨[.type "int",.str x u],[]⟩) (Made.int n).spec :=
 Meets.of_wp fun prog w A R s hs=>by
  have hr : ∀ c ∈ t,45 ≤ c ∧ c ≤ 57:=by
   intro c hc
   rcases ht with ⟨rfl,_⟩ | ⟨rfl,_⟩
   ·have:=hl c hc; lia
   ·rcases T1.mp hc with z | z
    ·lia
    ·have:=hl c z; lia
  have hlen : t.length ≤ 101:=by
   rcases ht with ⟨rfl,_⟩ | ⟨rfl,_⟩
   ·lia
   ·simp; lia
  obtain ⟨hp,g,d,tk,os⟩:=s
  have f1:=F.conv_sub_int
  have f2:=F.madeHere_int
  have hT : (⟨hp,g,d,tk,os⟩ : Shared).TypeIs (.str x u) "str":=rfl
  have f3:=OM
  have f4:=Mq
  have f5:=Mp
  repeat (any_goals (first | assumption | wp_step))
  have e1 : (if (x.cps.all fun x=>decide (x < 128)) = true then x.cps.toList else Unicode.numberText x.cps.toList) = t:=by
   rw [if_pos]
   ·exact hx
   ·rw [V8]
    intro c hc
    have:=hr c (by rw [← hx]; simpa [sg] using hc)
    exact decide_eq_true (by lia)
  have e2 : t.takeWhile (fun x=>x != 0) = t:=E8 fun c hc=>by have:=hr c hc; simp; lia
  rw [e1,e2,if_pos (by lia)]
  refine wpAny_bind (wpAny_pure ?_)
  dsimp only
  have hB : ∀ c,45 ≤ c → ¬ (c == 32 || (decide (9 ≤ c) && decide (c ≤ 13))) = true:=fun c h=>by simp; lia
  obtain ⟨c,r,rfl⟩ : ∃ c r,l = c :: r:=by
   cases l with
   | nil=>exact absurd rfl hn
   | cons c r=>exact ⟨c,r,rfl⟩
  have c1:=hl c (by simp)
  have c45 : ¬ c = 45:=by lia
  have c43 : ¬ c = 43:=by lia
  have hrev : ∀ p : Nat → Bool,(∀ d ∈ c :: r,p d = false) → ((c :: r).reverse.dropWhile p).reverse = c :: r:=fun p h=>by
   rw [Ds fun d hd=>h d (List.mem_reverse.mp hd),List.reverse_reverse]
  have c48 : c = 48 → r = []:=fun e=>h0 r (by rw [e])
  by_cases z : c = 48
  ·have y:=c48 z
   clear c48 h0
   subst y
   subst z
   clear c45 c43
   split
   all_goals rename_i heq
   all_goals revert heq
   all_goals trivial
   all_goals rw [Ds (l:=t) (fun c hc=>by trivial; exact Bool.eq_false_iff.mpr (hB c (hr c hc).1))]
   all_goals rcases ht with ⟨rfl,rfl⟩ | ⟨rfl,rfl⟩
   all_goals dsimp only
   all_goals try simp only [Uy.injEq,false_and,imp_self,implies_true,not_false_eq_true]
   all_goals trivial
   all_goals first | dsimp only | skip
   all_goals try simp only [Uy.injEq,false_and,imp_self,implies_true,not_false_eq_true]
   all_goals try rw [if_neg (by simp : ¬ (10 == 0) = true)]
   all_goals try dsimp only
   all_goals rw [hrev _ (fun d hd=>by trivial; exact Bool.eq_false_iff.mpr (hB d (by have:=hl d hd; lia)))]
   all_goals trivial
   all_goals rw [Fl (fun ds b e h1 h2=>by
    have e95 : ¬ (e == 95) = true:=by simp; lia
    dsimp only
    rw [if_neg e95]
    trivial
    rw [if_pos (by simp; lia)]
    dsimp only
    rw [if_pos (by lia)]) _ _ _ hl]
   all_goals simp only [Option.bind_eq_bind,Option.bind_some,List.isEmpty_cons,Bool.not_false,Bool.false_or,if_true,reduceIte]
   all_goals rw [if_neg (by simp),if_neg (by first | (simp; done) | (have h61:=h60; simp at h61 ⊢; lia)),if_neg (by simp),KA]
   all_goals try rw [if_neg Bool.false_ne_true]
   all_goals try rw [if_pos _root_.trivial]
   all_goals intro heq
   all_goals cases heq
   all_goals rw [if_pos (by simp)]
   all_goals repeat (first | assumption | wp_step)
   all_goals exact ⟨_,rfl,hs⟩
  ·split
   all_goals rename_i heq
   all_goals revert heq
   all_goals trivial
   all_goals rw [Ds (l:=t) (fun c hc=>by trivial; exact Bool.eq_false_iff.mpr (hB c (hr c hc).1))]
   all_goals rcases ht with ⟨rfl,rfl⟩ | ⟨rfl,rfl⟩
   all_goals dsimp only
   all_goals try simp only [c45,c43,Uy.injEq,false_and,imp_self,implies_true,not_false_eq_true]
   all_goals trivial
   all_goals first | dsimp only | skip
   all_goals try simp only [z,Uy.injEq,false_and,imp_self,implies_true,not_false_eq_true]
   all_goals try rw [if_neg (by simp : ¬ (10 == 0) = true)]
   all_goals try dsimp only
   all_goals rw [hrev _ (fun d hd=>by trivial; exact Bool.eq_false_iff.mpr (hB d (by have:=hl d hd; lia)))]
   all_goals trivial
   all_goals rw [Fl (fun ds b e h1 h2=>by
    have e95 : ¬ (e == 95) = true:=by simp; lia
    dsimp only
    rw [if_neg e95]
    trivial
    rw [if_pos (by simp; lia)]
    dsimp only
    rw [if_pos (by lia)]) _ _ _ hl]
   all_goals simp only [Option.bind_eq_bind,Option.bind_some,List.isEmpty_cons,Bool.not_false,Bool.false_or,if_true,reduceIte]
   all_goals rw [if_neg (by simp),if_neg (by first | (simp; done) | (have h61:=h60; simp at h61 ⊢; lia)),if_neg (by simp),KA]
   all_goals try rw [if_neg Bool.false_ne_true]
   all_goals try rw [if_pos _root_.trivial]
   all_goals intro heq
   all_goals cases heq
   all_goals rw [if_pos (by simp)]
   all_goals repeat (first | assumption | wp_step)
   all_goals exact ⟨_,rfl,hs⟩
section
variable {X : Cx}
theorem K5 (K : SR) : TF K (.type "str") (.type "str") = some true:=by kernel_rfl
inductive Od (xs : List V) (H : Hp) (Q : VK) : Prop
 | mk (y : Str) (h1 : xs = [.str y]) (h2 : y.length ≤ sizeLine) (h3 : Q (.int (y.length : Nat)) H) : Od xs H Q
theorem Fm : C9 X (.builtin "len") Od:=by
 intro pins s σ H xs us Q I r h
 obtain ⟨y,rfl,hy,q⟩:=h
 obtain ⟨u,rfl,rx⟩:=Em r
 obtain ⟨t,rfl⟩:=rx
 have hl:=Fc
 have hs : sizeLine = 16777216:=sizeLine_eq
 exact len_str (by lia) ⟨.int _,H,I.tok _,⟨_,rfl⟩,q⟩
inductive Of (xs : List V) (H : Hp) (Q : VK) : Prop
 | mk (i : Int) (h1 : xs = [.str (txI i)]) (h2 : i.natAbs < 10 ^ 60) (h3 : Q (.int i) H) : Of xs H Q
theorem Fn : C9 X (.type "int") Of:=by
 intro pins s σ H xs us Q I r h
 obtain ⟨i,rfl,hi,q⟩:=h
 obtain ⟨u,rfl,rx⟩:=Em r
 obtain ⟨t,rfl⟩:=rx
 have fin : (Made.int i).post (fun obj s₁=>s₁.TypeIs obj "int" ∧ EP X pins σ Q obj s₁) s:=⟨rfl,⟨.int i,H,I.tok _,⟨_,rfl⟩,q⟩⟩
 rcases D0 i with ⟨n,e,hs⟩ | ⟨n,hp,e,hs⟩
 ·exact call_int_1 (DO (txI i) t (dg n) (dg n) i hs (.inl ⟨rfl,by rw [Hn]; exact e⟩) (SU (GL (k:=60) (by decide) (by lia)) (by decide)) (fun c hc=>Dj hc) (HE n) (fun r hr=>by
   have z:=FN hr
   subst z
   exact (Uy.inj hr).2.symm)) fin
 ·exact call_int_1 (DO (txI i) t (45 :: dg n) (dg n) i hs (.inr ⟨rfl,by rw [Hn]; exact e⟩) (SU (GL (k:=60) (by decide) (by lia)) (by decide)) (fun c hc=>Dj hc) (HE n) (fun r hr=>by
   have z:=FN hr
   subst z
   exact (Uy.inj hr).2.symm)) fin
end
end L2
namespace L2
open PySem PySem.Spec PyProof.Rows
theorem NM {x sep : Str} {c : Nat} {w : List Nat} (hw : sg sep = c :: w) {k : Nat} (h : StrLaws.At x sep x.length k) : (sg x)[k]? = some c:=by
 obtain ⟨h1,h2⟩:=h
 rw [StrLaws.subAt_eq] at h2
 have h3 : ((sg x).drop k).take sep.length = sg sep:=by simpa [sg] using h2
 have h4 : (((sg x).drop k).take sep.length)[0]? = some c:=by rw [h3,hw]; rfl
 have h5 : 0 < sep.length:=by rw [AE,hw]; simp
 rw [U2 h5,Ur] at h4
 simpa using h4
theorem Qn {x sep : Str} {k : Nat} {r : List Nat} (h : (sg x).drop k = sg sep ++ r) (hk : k ≤ (sg x).length) : StrLaws.At x sep x.length k:=by
 have hl:=congrArg TV h
 rw [Ua,U4] at hl
 refine ⟨by rw [AE x,AE sep]; lia,?_⟩
 rw [StrLaws.subAt_eq,AE]
 show (((sg x).drop k).take (sg sep).length == sg sep) = true
 rw [h,List.take_left']
 ·simp
 ·rfl
theorem LY {x t : Str} {a b : Nat} {r : List Nat} (h : (sg x).drop a = sg t ++ r) (hb : b = a + (sg t).length) : Builtin.Str.strSub x a b = t:=by
 apply Ca
 show (Builtin.Str.strSub x a b).cps.toList = sg t
 rw [StrLaws.strSub_toList]
 show ((sg x).drop a).take (b - a) = sg t
 rw [h,List.take_left']
 lia
theorem J8 {x sep : Str} {c : Nat} {w : List Nat} (hw : sg sep = c :: w) : ∀ (ts : List Str) (t : Str) (a : Nat) (cuts : List Nat) (f : Nat),(sg x).drop a = sg (Str.join sep (t :: ts)) → a ≤ (sg x).length → (∀ u ∈ t :: ts,c ∉ sg u) →
 StrLaws.ChainG x sep x.length a cuts f → (∀ k,f ≤ k → ¬ StrLaws.At x sep x.length k) → StrLaws.partsFrom x sep.length a cuts = t :: ts
 | ts,t,a,cuts,f,h,ha,hf,hc,hn=>by
   have hlen:=congrArg TV h
   rw [Ua] at hlen
   -- no cut within the first text
   have inT : ∀ (r : List Nat),(sg x).drop a = sg t ++ r → ∀ k,a ≤ k → k < a + (sg t).length → ¬ StrLaws.At x sep x.length k:=by
    intro r hr k h1 h2 hA
    have e:=NM hw hA
    have e2 : ((sg x).drop a)[k - a]? = some c:=by rw [Ur,show a + (k - a) = k by lia]; exact e
    rw [hr,U0 (by lia)] at e2
    exact hf t (by simp) (U3 e2)
   cases ts with
   | nil =>
     rw [join_one] at h hlen
     have h' : (sg x).drop a = sg t ++ []:=by rw [h,TK]
     cases cuts with
     | nil =>
       show [Builtin.Str.strSub x a x.length] = [t]
       rw [LY h' (by rw [AE]; lia)]
     | cons d r =>
       obtain ⟨h1,h2,h3,h4⟩:=hc
       have:=h2.1
       rw [AE x,AE sep,hw,Tq] at this
       exact absurd h2 (inT [] h' d h1 (by lia))
   | cons u ts =>
     rw [join_cons_cons,AL,AL,V6] at h
     have hd : (sg x).drop (a + (sg t).length) = sg sep ++ sg (Str.join sep (u :: ts)):=by
      rw [← List.drop_drop,h,List.drop_left']
      rfl
     rw [join_cons_cons,AL,AL,U4,U4] at hlen
     have hA : StrLaws.At x sep x.length (a + (sg t).length):=Qn hd (by lia)
     cases cuts with
     | nil =>
       have e : f = a:=hc
       exact absurd hA (hn _ (by lia))
     | cons d r =>
       obtain ⟨h1,h2,h3,h4⟩:=hc
       have ed : d = a + (sg t).length:=by
        rcases V0 d (a + (sg t).length) with z | z | z
        ·exact absurd h2 (inT _ h d h1 z)
        ·exact z
        ·exact absurd hA (h3 _ (by lia) z)
       show Builtin.Str.strSub x a d :: StrLaws.partsFrom x sep.length (d + sep.length) r = t :: u :: ts
       rw [LY h ed]
       refine congrArg (t :: ·) (J8 hw ts u (d + sep.length) r f ?_ ?_ (fun v hv=>hf v (SY _ hv)) h4 hn)
       ·rw [ed,AE sep,← List.drop_drop,hd,List.drop_left']
        rfl
       ·rw [ed,AE sep]; lia
theorem ME (x : Str) : 1 ≤ Builtin.Str.strKind x:=by
 unfold Builtin.Str.strKind
 split
 ·decide
 ·split <;> decide
theorem Ed {sep : Str} {c : Nat} {w : List Nat} (hw : sg sep = c :: w) (hk : Builtin.Str.strKind sep = 1) (t : Str) (ts : List Str) (hf : ∀ u ∈ t :: ts,c ∉ sg u) : Txt.split (Str.join sep (t :: ts)) sep = t :: ts:=by
 have hs : 1 ≤ sep.length:=by rw [AE,hw]; simp
 obtain ⟨f,hG,hn⟩:=StrLaws.occ_tight (Str.join sep (t :: ts)) sep hs
 have key:=J8 (x:=Str.join sep (t :: ts)) hw ts t 0 _ f (by rw [List.drop_zero]) (Tc _) hf hG hn
 unfold Txt.split
 split
 ·rename_i h1
  rw [Bool.or_eq_true,decide_eq_true_eq,decide_eq_true_eq] at h1
  rcases h1 with h1 | h1
  ·cases ts with
   | nil=>rw [join_one]
   | cons u ts =>
     rw [join_cons_cons,AE,AL,AL,U4,U4,← AE sep] at h1
     lia
  ·rw [hk] at h1
   have:=ME (Str.join sep (t :: ts))
   lia
 ·split
  ·rename_i he
   rw [List.isEmpty_iff.mp he] at key
   have k2 : [Builtin.Str.strSub (Str.join sep (t :: ts)) 0 (Str.join sep (t :: ts)).length] = t :: ts:=key
   rw [StrLaws.sub_whole] at k2
   exact k2
  ·rw [StrLaws.partsBetween_eq]
   exact key
theorem Ki : ∀ {ts : List Str} {us : List Value},AN (ts.map V.str) us → ∃ l : List (Str × Tok),us = strValues l ∧ l.map (·.1) = ts
 | [],_,.nil=>⟨[],rfl,rfl⟩
 | x :: ts,_,.cons ⟨t,e⟩ r=>by
   obtain ⟨l,rfl,e2⟩:=Ki r
   subst e
   exact ⟨(x,t) :: l,rfl,by rw [Tu,e2]⟩
theorem JM {b : Nat} : ∀ {l : List Nat},(∀ x ∈ l,x ≤ b) → l.sum ≤ l.length * b
 | [],_=>by simp
 | x :: r,h=>by
   have h1:=h x (by simp)
   have h2:=JM fun y hy=>h y (SY _ hy)
   rw [List.sum_cons,Tq,Nat.succ_mul]
   lia
theorem Dh {sep : Str} {ts : List Str} (hs : sep.length ≤ 2) (h : ∀ t ∈ ts,t.length ≤ 1000) (hn : ts.length ≤ 100) : JoinOk sep ts = true:=by
 unfold JoinOk
 rw [StrLaws.joinTotal]
 have h1 : (ts.map (·.length)).sum ≤ ts.length * 1000:=by
  have:=JM (b:=1000) (l:=ts.map (·.length)) (fun x hx=>by
   obtain ⟨t,ht,rfl⟩:=V4.mp hx
   exact h t ht)
  rwa [Tx] at this
 have h2 : ts.length * sep.length ≤ ts.length * 2:=Nat.mul_le_mul_left _ hs
 have h3:=sizeLine_eq
 unfold Builtin.Str.tooLong
 rw [decide_eq_false (by lia)]
 rfl
theorem DQ {sep : Str} (hs : sep.length ≤ 2) {b : Nat} : ∀ {ts : List Str},(∀ t ∈ ts,t.length ≤ b) → (Str.join sep ts).length ≤ ts.length * (b + 2):=by
 intro ts h
 have h0:=StrLaws.join_length_le sep ts
 have h1 : (ts.map (·.length)).sum ≤ ts.length * b:=by
  have:=JM (b:=b) (l:=ts.map (·.length)) (fun x hx=>by
   obtain ⟨t,ht,rfl⟩:=V4.mp hx
   exact h t ht)
  rwa [Tx] at this
 have h2 : ts.length * sep.length ≤ ts.length * 2:=Nat.mul_le_mul_left _ hs
 rw [Nat.mul_add]
 lia
theorem Fh {sep : Str} {c : Nat} (hs : c ∉ sg sep) : ∀ {ts : List Str},(∀ t ∈ ts,c ∉ sg t) → c ∉ sg (Str.join sep ts)
 | [],_=>by intro h; cases h
 | [x],h=>by rw [join_one]; exact h x (by simp)
 | x :: y :: r,h=>by
   rw [join_cons_cons,AL,AL]
   intro hm
   rcases T2.mp hm with hm | hm
   ·rcases T2.mp hm with hm | hm
    ·exact h x (by simp) hm
    ·exact hs hm
   ·exact Fh hs (ts:=y :: r) (fun t ht=>h t (SY _ ht)) hm
theorem HL (x : Rat) {c : Nat} (h : c ≠ 45 ∧ c ≠ 47 ∧ (c < 48 ∨ 57 < c)) : c ∉ sg (tx x):=by
 unfold tx
 split
 ·exact CZ _ ⟨h.1,h.2.2⟩
 ·rw [AL,AL,O3]
  intro hm
  rcases T2.mp hm with hm | hm
  ·rcases T2.mp hm with hm | hm
   ·exact CZ _ ⟨h.1,h.2.2⟩ hm
   ·exact h.2.1 (Ut.mp hm)
  ·exact CZ _ ⟨h.1,h.2.2⟩ hm
section
variable {X : Cx}
inductive O6 (K : SR) (x : V) (vs : List V) (H : Hp) (Q : VK) : Prop
 | mk (sep : Str) (l : Addr) (ts : List Str) (h1 : x = .str sep) (h2 : vs = [.ref l]) (h3 : SqL K H l (ts.map V.str)) (h4 : JoinOk sep ts = true) (h5 : Q (.str (Str.join sep ts)) H) : O6 K x vs H Q
theorem EG (K : SR) (e : X.K = K:=by rfl) : MtR X "str.join" (O6 K):=by
 subst e
 intro pins s σ H x vs v us Q I rx rv h
 obtain ⟨sep,l,ts,rfl,rfl,hS,hj,q⟩:=h
 obtain ⟨t,rfl⟩:=rx
 obtain ⟨u,rfl,ru⟩:=rv.one
 cases ru
 obtain ⟨its,r,pl,hz⟩:=I.list hS
 obtain ⟨ls,rfl,e2⟩:=Ki r
 refine SC.join pl.isList e2 hj fun t' k=>?_
 rw [show Txt.join sep ts = Str.join sep ts from StrLaws.glued_eq_join sep ts]
 exact ⟨.str (Str.join sep ts),H,I.tok _,⟨_,rfl⟩,q⟩
end
theorem Be.lookN {X : Cx} {NX N : List Str} {sc scope0 scope : Scope} {nt : Nat} {js : List Nat} {cl : List (Str × Addr)} {C : Addr} {s : Shared} {H : Hp} {fp : List Addr} (hs : X.env.scope = sc) (h : Iy NX (PY scope0 sc) N nt js scope = true) :
 Be (AO X NX scope0 cl C s H fp) N nt js scope:=Be.look (NX:=NX) (sc:=PY scope0 sc) rfl (by rw [← hs]; rfl) h
end L2
namespace L2
open PySem PySem.Spec PyProof.Rows
inductive KDk (P : Program) (w : World) (K : SR) (a : Addr) (kvs : List (Key × V)) : Prop
 | mk (o : Obj) (es : Array DictEntry) (ep : Nat) (vs : List (Key × Value)) (hk : K.lookup a = some o) (hx : o.ExactDict) (hd : o.data = .dict es ep) (ks : KeysOf (BO P w) es) (ps : Pairs (BO P w) es.toList vs) (nd : (vs.map (·.1)).Nodup) (rel : KV kvs vs) (hs : (a == sysModules) = false) : KDk P w K a kvs
section
variable {X : Cx} {pins : List (Addr × Obj)} {σ : St} {H : Hp} {s : Shared} {a : Addr} {y v : V} {u r : Value} {A : Around} {E : Value → Shared → Prop} {kvs : List (Key × V)} {k : Key}
theorem KDk.of (d : KDk X.prog X.w X.K a kvs) (I : Inv X pins σ H s) : (a == sysModules) = false ∧ ∃ vs,KV kvs vs ∧ s.heap.DictOf (BO X.prog X.w) a vs:=by
 obtain ⟨o,es,ep,vs,hk,hx,hd,ks,ps,nd,rel,hs⟩:=d
 exact ⟨hs,vs,rel,o,es,ep,I.kIn a o hk,hx,hd,ks,ps,nd⟩
theorem Ka {Q : Value → Shared → Prop} (I : Inv X pins σ H s) (d : KDk X.prog X.w X.K a kvs) (l : CN kvs k = some v) (ry : AR (kV k) u) (h : ∀ w' s',Inv X pins σ H s' → AR v w' → Q w' s') :
 wpAny (model X.prog X.w) A (getItem (.ref a) u) Q E s:=by
 obtain ⟨hd,vs,rel,dd⟩:=d.of I
 obtain ⟨w',hw,rw'⟩:=E7.some_of (v:=v) (o:=valueAt vs k) (by rw [← l]; exact rel.val k)
 exact wpAny_getItem_of (Jl ry) dd.mapOf hw (h w' _ (I.tok _) rw')
theorem Qh {Q : Value → Shared → Prop} (I : Inv X pins σ H s) (d : KDk X.prog X.w X.K a kvs) (ry : AR (kV k) u) (h : ∀ s',Inv X pins σ H s' → Q (.bool (CN kvs k).isSome) s') :
 wpAny (model X.prog X.w) A (compareOp .In u (.ref a)) Q E s:=by
 obtain ⟨hd,vs,rel,dd⟩:=d.of I
 refine wpAny_in_of (Jl ry) hd dd.mapOf ?_
 rw [← (rel.val k).isSome_eq]
 exact h _ (I.tok _)
theorem MN {Q : Value → Shared → Prop} (I : Inv X pins σ H s) (d : KDk X.prog X.w X.K a kvs) (ry : AR (kV k) u) (h : ∀ s',Inv X pins σ H s' → Q (.bool (!(CN kvs k).isSome)) s') :
 wpAny (model X.prog X.w) A (compareOp .NotIn u (.ref a)) Q E s:=by
 obtain ⟨hd,vs,rel,dd⟩:=d.of I
 refine wpAny_notIn_of (Jl ry) hd dd.mapOf ?_
 rw [← (rel.val k).isSome_eq]
 exact h _ (I.tok _)
end
section
variable {X : Cx} {pins : List (Addr × Obj)} {σ : St} {H : Hp} {s : Shared} {a : Addr} {v d : V} {u r : Value} {A : Around} {E : Value → Shared → Prop} {kvs : List (Key × V)} {k : Key}
theorem NF {Q : Value → Shared → Prop} (I : Inv X pins σ H s) (g : KDk X.prog X.w X.K a kvs) (ry : AR (kV k) u) (rd : AR d r) (h : ∀ w' s',Inv X pins σ H s' → AR ((CN kvs k).getD d) w' → Q w' s') :
 wpAny (model X.prog X.w) A (call (.builtin "dict.get") [.ref a,u,r]) Q E s:=by
 obtain ⟨hd,vs,rel,dd⟩:=g.of I
 exact call_meetsIn PySem.F.slot_dict_get dd.typeIs PySem.F.entry_dict_get (PySem.F.args_dict_get_3 _ _ _) (meets_dict_get_default (BO X.prog X.w) a (Jl ry) hd r) ⟨_,dd.mapOf,h _ _ (I.tok _) ((rel.val k).getD rd)⟩
end
inductive LV (P : Program) (w : World) (K : SR) (td ty : TE) (σ : St) (H : Hp) (Q : VK) : Prop
 | mk (h : td σ H fun x H1=>ty σ H1 fun y H2=>∃ a kvs k v,x = .ref a ∧ KDk P w K a kvs ∧ y = kV k ∧ CN kvs k = some v ∧ Q v H2) : LV P w K td ty σ H Q
inductive O1 (P : Program) (w : World) (K : SR) (ty td : TE) (σ : St) (H : Hp) (Q : VK) : Prop
 | mk (h : ty σ H fun y H1=>td σ H1 fun x H2=>∃ a kvs k,x = .ref a ∧ KDk P w K a kvs ∧ y = kV k ∧ Q (.bl (CN kvs k).isSome) H2) : O1 P w K ty td σ H Q
inductive IQ (P : Program) (w : World) (K : SR) (ty td : TE) (σ : St) (H : Hp) (Q : VK) : Prop
 | mk (h : ty σ H fun y H1=>td σ H1 fun x H2=>∃ a kvs k,x = .ref a ∧ KDk P w K a kvs ∧ y = kV k ∧ Q (.bl (!(CN kvs k).isSome)) H2) : IQ P w K ty td σ H Q
inductive Kg (P : Program) (w : World) (K : SR) (td ty tx : TE) (σ : St) (H : Hp) (Q : VK) : Prop
 | mk (h : td σ H fun x H1=>∃ a kvs,x = .ref a ∧ KDk P w K a kvs ∧ ty σ H1 fun y H2=>tx σ H2 fun z H3=>∃ k,y = kV k ∧ Q ((CN kvs k).getD z) H3) : Kg P w K td ty tx σ H Q
inductive LW (CX : CXT) (P : Program) (w : World) (K : SR) (mg : Str → Option Value) (base : Heap) (n : Nat) (E : XK) (tv : TE) (t : TA) (σ : St) (H : Hp) (Q : VK) : Prop
 | mk (h : tv σ H fun x H1=>∃ f fd,x = .ref f ∧ Tw K (.ref f) = true ∧ t σ H1 fun vs H2=>∃ ps sp,AI P w K mg base CX n f fd ps sp ∧ BW K fd ps [] ∧ sp vs H2 Q E) : LW CX P w K mg base n E tv t σ H Q
section
variable {X : Cx} {CX : CXT} {n : Nat} {E : XK} {p pos apos cpos : Pos} {e f o i : Expr} {es : List Expr} {td ty tx tv : TE} {t : TA}
theorem Ew (P : Program) (w : World) (K : SR) (ho : PE X o td) (hi : PE X i ty) (hs : Qr i) (eP : X.prog = P:=by rfl) (eW : X.w = w:=by rfl) (eK : X.K = K:=by rfl) : PE X (.Subscript o i pos) (LV P w K td ty):=by
 subst eP eW eK
 rintro pins s σ H Q I ⟨h⟩
 refine Na PySem.F.slot_dict_getitem.lookup hs (thn (ho pins s σ H _ I h) fun u s1 ⟨x,H1,I1,rx,q1⟩=>thn (hi pins s1 σ H1 _ I1 q1) fun iv s2 ⟨y,H2,I2,ry,a,kvs,k,v,ex,g,ey,l,q2⟩=>?_)
 subst ex ey
 obtain rfl : u = Value.ref a:=rx
 obtain ⟨_,_,_,dd⟩:=g.of I2
 exact ⟨dd.typeIs,Ka I2 g l ry fun w' s3 I3 rw'=>⟨v,H2,I3,rw',q2⟩⟩
theorem Np (P : Program) (w : World) (K : SR) (hi : PE X i ty) (ho : PE X o td) (eP : X.prog = P:=by rfl) (eW : X.w = w:=by rfl) (eK : X.K = K:=by rfl) : PC X .In i o (O1 P w K ty td):=by
 subst eP eW eK
 rintro pins s σ H Q I ⟨h⟩
 refine thn (hi pins s σ H _ I h) fun iv s1 ⟨y,H1,I1,ry,q1⟩=>thn (ho pins s1 σ H1 _ I1 q1) fun u s2 ⟨x,H2,I2,rx,a,kvs,k,ex,g,ey,q2⟩=>?_
 subst ex ey
 obtain rfl : u = Value.ref a:=rx
 exact Qh I2 g ry fun s3 I3=>⟨.bl _,H2,I3,rfl,q2⟩
theorem Ge (P : Program) (w : World) (K : SR) (hi : PE X i ty) (ho : PE X o td) (eP : X.prog = P:=by rfl) (eW : X.w = w:=by rfl) (eK : X.K = K:=by rfl) : PC X .NotIn i o (IQ P w K ty td):=by
 subst eP eW eK
 rintro pins s σ H Q I ⟨h⟩
 refine thn (hi pins s σ H _ I h) fun iv s1 ⟨y,H1,I1,ry,q1⟩=>thn (ho pins s1 σ H1 _ I1 q1) fun u s2 ⟨x,H2,I2,rx,a,kvs,k,ex,g,ey,q2⟩=>?_
 subst ex ey
 obtain rfl : u = Value.ref a:=rx
 exact MN I2 g ry fun s3 I3=>⟨.bl _,H2,I3,rfl,q2⟩
theorem Hu (P : Program) (w : World) (K : SR) (ho : PE X o td) (he : PE X e ty) (hf : PE X f tx) (m : M2 X o "get" apos e f cpos) (eP : X.prog = P:=by rfl) (eW : X.w = w:=by rfl) (eK : X.K = K:=by rfl) : PE X (.Call (.Attribute o "get" apos) [e,f] [] cpos) (Kg P w K td ty tx):=by
 subst eP eW eK
 rintro pins s σ H Q I ⟨h⟩
 refine wpAny_Call_method m.base m.few m.line PySem.F.plainAttrs_dict PySem.F.slot_dict_get PySem.F.type_dict_get (thn (ho pins s σ H _ I h) fun u s1 ⟨x,H1,I1,rx,a,kvs,ex,g,q1⟩=>?_)
 subst ex
 obtain rfl : u = Value.ref a:=rx
 obtain ⟨_,_,_,dd⟩:=g.of I1
 refine ⟨dd.typeIs,fun b eb=>?_,?_⟩
 ·cases eb
  obtain ⟨o,_,_,ho',hx,_⟩:=dd
  exact ⟨o,ho',hx.2.1⟩
 rw [m.trees]
 refine Calls.callWith_builtin rfl (Calls.evalArgs_plain (Calls.spliced_cons (thn (he pins s1 σ H1 _ I1 q1) fun iv s2 ⟨y,H2,I2,ry,q2⟩ =>
  Calls.spliced_cons (thn (hf pins s2 σ H2 _ I2 q2) fun fv s3 ⟨z,H3,I3,rz,k,ey,q3⟩=>Calls.spliced_nil ?_))))
 subst ey
 exact NF I3 g ry rz fun w' s4 I4 rw'=>⟨_,H3,I4,rw',q3⟩
theorem J7 (P : Program) (w : World) (K : SR) (mg : Str → Option Value) (base : Heap) (hr : BA n X.A) (hx : CL CX X E) (hv : PE X (.Subscript o i p) tv) (ha : PA X (e :: es) t) (he : starEach (e :: es) X.env = (false,eval e X.env) :: starEach es X.env:=by rfl) (hpl : (backTo pos (starEach es X.env)).any (·.1) = false:=by rfl) (eP : X.prog = P:=by rfl) (eW : X.w = w:=by rfl) (eK : X.K = K:=by rfl) (eM : X.mg = mg:=by rfl) (eB : X.base = base:=by rfl) :
 PE X (.Call (.Subscript o i p) (e :: es) [] pos) (LW CX P w K mg base n E tv t):=by
 subst eP eW eK eM eB
 rintro pins s σ H Q I ⟨h⟩
 show wpAny _ _ (do let f ← eval (Expr.Subscript o i p) X.env; callWith pos f [] (backTo pos (starEach (e :: es) X.env)) (backToKw pos (keywordEach [] X.env))) _ _ _
 refine wpAny_bind (thn (hv pins s σ H _ I h) fun u s0 ⟨x,H0,I0,r0,f,fd,ex,hk,q⟩=>?_)
 subst ex
 obtain rfl : u = Value.ref f:=r0
 refine TL (h₀:=X.base) I0.ok.mod.kin hk (thn (ha pos pins s0 σ H0 _ I0 q) fun us s1 ⟨vs,H1,I1,r,ps,sp,F,hb,q1⟩=>⟨I1.kIn,?_⟩) he hpl
 exact JR F hr hb .nil hx I1 r (by rw [TK]; exact q1)
end
structure FdM (CX : CXT) (P : Program) (w : World) (K : SR) (mg : Str → Option Value) (base : Heap) (n : Nat) (C : Addr) (m : Str) (ps : List Str) (sp : Sp) : Prop where
 ex : ∃ (f : Addr) (fd : FuncData),AI P w K mg base CX n f fd ps sp ∧ BW K fd ps [] ∧ Pn K C m f
structure FdI (CX : CXT) (P : Program) (w : World) (K : SR) (mg : Str → Option Value) (base : Heap) (n : Nat) (C : Addr) (x : Str) (ps : List Str) (sp : Sp) : Prop where
 ex : ∃ (f : Addr) (fd : FuncData),AI P w K mg base CX n f fd ps sp ∧ BW K fd ps [] ∧ Mk K C f ∧ mg x = some (.ref C)
section
variable {X : Cx} {CX : CXT} {n k : Nat} {C : Addr} {ps : List Str} {sp : Sp} {E : XK} {x m : Str} {p pos apos : Pos} {e o : Expr} {es : List Expr} {ta : TE} {t : TA}
theorem J3 {pl : Sem Bool} (he : PE X o ta) (c : Cls X.K C) (F : FdM CX X.prog X.w X.K X.mg X.base n C m ps sp) (hr : BA k X.A) (hx : CL CX X E) (ha : PA X (e :: es) t) (hn : n ≤ k:=by decide)
 (hst : starEach (e :: es) X.env = (false,eval e X.env) :: starEach es X.env:=by rfl) (hpl : (backTo pos (starEach es X.env)).any (·.1) = false:=by rfl)
 (ht : eval (.Call (.Attribute o m apos) (e :: es) [] pos) X.env = (do
  let ov ← eval o X.env
  standAt apos.atName
  let (f,first) ← holding [ov] (getMethod ov m pl)
  callWith pos f first (backTo pos (starEach (e :: es) X.env)) (backToKw pos (keywordEach [] X.env))):=by rfl) :
 PE X (.Call (.Attribute o m apos) (e :: es) [] pos) (NZ C m sp [] E ta t):=by
 obtain ⟨f,fd,F1,F2,F3⟩:=F.ex
 exact Nl he c F3 F1 (hr.mono hn) F2 .nil hx ha hst hpl ht
theorem Mi (F : FdI CX X.prog X.w X.K X.mg X.base n C x ps sp) (hr : BA k X.A) (hg : Gl X x) (hx : CL CX X E) (ha : PA X (e :: es) t) (hn : n + 1 ≤ k:=by decide) (hdb : (x == ("__debug__" : Str)) = false:=by decide) (he : starEach (e :: es) X.env = (false,eval e X.env) :: starEach es X.env:=by rfl) (hpl : (backTo pos (starEach es X.env)).any (·.1) = false:=by rfl) :
 PE X (.Call (.Name x p) (e :: es) [] pos) (O0 C sp [] E t):=by
 obtain ⟨f,fd,F1,F2,F3,F4⟩:=F.ex
 exact Nn F3 F1 (hr.mono hn) hg F4 F2 .nil hx ha hdb he hpl
theorem PV {pl : Sem Bool} {pins : List (Addr × Obj)} {σ : St} {H : Hp} {s : Shared} {Q : VK} (ho : PE X.nox o ta) (c : Cls X.K C) (F : FdM (CX2 X.prog X.w) X.prog X.w X.K X.mg X.base n C m ps sp) (hr : BA k X.A) (ha : PA X.nox (e :: es) t) (I : Inv X pins σ H s)
 (h : ta σ H fun x H1=>∃ a dx fs,x = .ref a ∧ H1 a = some (.ins C dx fs) ∧ fs.lookup m = none ∧ t σ H1 fun vs H2=>sp (x :: vs) H2 Q E) (hn : n ≤ k)
 (hst : starEach (e :: es) X.env = (false,eval e X.env) :: starEach es X.env) (hpl : (backTo pos (starEach es X.env)).any (·.1) = false)
 (ht : eval (.Call (.Attribute o m apos) (e :: es) [] pos) X.env = (do
  let ov ← eval o X.env
  standAt apos.atName
  let (f,first) ← holding [ov] (getMethod ov m pl)
  callWith pos f first (backTo pos (starEach (e :: es) X.env)) (backToKw pos (keywordEach [] X.env)))) :
 wpAny (model X.prog X.w) X.A (eval (.Call (.Attribute o m apos) (e :: es) [] pos) X.env) (EP X pins σ Q) (fun e s2=>∃ H1 s1,Inv X pins σ H1 s1 ∧ CX2 X.prog X.w X.stack H1 s1 E e s2) s:=by
 obtain ⟨f,fd,F1,F2,F3⟩:=F.ex
 refine PySem.W.methodCall_KW (pl:=pl) (wpAny_mono (ho pins s σ H _ (I.wish _) h) (fun u s1 ⟨x,H1,I1,rx,a,dx,fs,ex,ea,l,q⟩=>?_) fun _ _ z=>False.elim z) ht
 subst ex
 obtain rfl : u = Value.ref a:=rx
 have I1:=I1.unwish
 refine GK I1 ea c F3 l ?_
 refine TL (first:=[.ref a]) (h₀:=X.base) I.ok.mod.kin F3.kp (wpAny_mono (ha pos pins s1 σ H1 _ (I1.wish _) q) (fun us s2 ⟨vs,H2,I2,r,q2⟩=>⟨I2.unwish.kIn,?_⟩) fun _ _ z=>False.elim z) hst hpl
 have I2:=I2.unwish
 have r2 : AN (V.ref a :: vs) (Value.ref a :: us):=.cons rfl r
 have hlen : (Value.ref a :: us).length = ps.length:=by rw [← r2.length]; exact F1.len _ _ _ _ q2
 have hb':=F2 s2 (.ref a :: us) I2.kIn (by rw [TK]; exact hlen)
 rw [TK] at hb'
 refine wpAny_call (codeAny_mono (F1.run X.A X.stack s2 H2 ⟨.ref a :: us,[]⟩ (.ref a :: us) (.ref a :: vs) _ _ (hr.mono hn) I2.env0 hb' r2 q2) fun r s2 hq=>?_)
 cases r with
 | error e=>exact ⟨H2,_,I2,hq⟩
 | ok fl =>
   cases fl with
   | ret u=>exact I2.after hq
   | next=>exact False.elim hq
   | brk=>exact False.elim hq
   | cont=>exact False.elim hq
end
section
variable {X : Cx} {o value : Expr} {f : Str} {pos pos' : Pos} {ta tv : TE}
theorem Ks (K : SR) (he : PE X o ta) (hb : attributeBase o f X.env (eval o X.env) = eval o X.env) (e : X.K = K:=by rfl) : PE X (.Attribute o f pos) (PM K ta f):=by subst e; exact OG he hb
theorem Ic (K : SR) (ha : PE X o ta) (hv : PE X value tv) (hs : swapsWith value (some (.Attribute o f pos')) pos.line X.env = pure false) (e : X.K = K:=by rfl) : PS X (.Assign [.Attribute o f pos'] value pos) (PU K ta tv f):=by subst e; exact OB ha hv hs
end
def HA (w : World) (q : Str × Tok × Addr) : DictEntry:=⟨PyData.keyHash w.params q.1,.str q.1 q.2.1,.ref q.2.2⟩
theorem Jk {P : Program} {w : World} : ∀ (qs : List (Str × Tok × Addr)),Pairs (BO P w) (qs.map (HA w)) (qs.map fun q=>((Sum.inr q.1 : Key),Value.ref q.2.2))
 | []=>.nil
 | q :: qs=>.cons (by show Value.isStrOf q.1 (.str q.1 q.2.1) = true; simp [Value.isStrOf]) rfl (Jk qs)
theorem Ky {P : Program} {w : World} {K : SR} {a : Addr} {n : Nat} (qs : List (Str × Tok × Addr)) (hk : K.lookup a = some ⟨.type "dict",none,.dict (qs.map (HA w)).toArray n,#[]⟩) (nd : (qs.map (·.1)).Nodup) (hs : (a == sysModules) = false) :
 KDk P w K a (qs.map fun q=>((Sum.inr q.1 : Key),V.ref q.2.2)):=by
 refine ⟨_,_,n,qs.map fun q=>((Sum.inr q.1 : Key),Value.ref q.2.2),hk,⟨rfl,rfl,rfl⟩,rfl,fun e he=>?_,?_,?_,?_,hs⟩
 ·obtain ⟨q,hq,rfl⟩:=V4.mp (List.mem_toArray.mp he)
  exact ⟨Sum.inr q.1,by show Value.isStrOf q.1 (.str q.1 q.2.1) = true; simp [Value.isStrOf],rfl⟩
 ·simpa using Jk qs
 ·rw [V7]
  have e : ((fun x : Key × Value=>x.1) ∘ fun q : Str × Tok × Addr=>((Sum.inr q.1 : Key),Value.ref q.2.2)) = (Sum.inr : Str → Key) ∘ (·.1):=rfl
  rw [e,← V7]
  exact List.pairwise_map.mpr (nd.imp fun h z=>h (Sum.inr.inj z))
 ·clear hk nd
  induction qs with
  | nil=>exact .nil
  | cons q qs ih=>exact .cons ⟨rfl,rfl⟩ ih
theorem Bb {K : SR} {H : Hp} {a : Addr} {o : Obj} {vs : Array Value} {n : Nat} {i j : Int} (hk : K.lookup a = some o) (hc : o.cls = .type "tuple") (hd : o.data = .seq vs n) (e : vs.toList.map CK = [some (.int i),some (.int j)]) : SqT K H a [.int i,.int j]:=by
 refine .inr ⟨o,vs,n,hk,hc,hd,?_,FQ e fun u _ x h=>JF h⟩
 have hl:=congrArg TV e
 simp at hl
 rw [hl]; decide
end L2
namespace L2
open PySem PySem.Spec PyProof.Rows
section
variable {prog : Program} {w : World} {A : Around} {E : Value → Shared → Prop} {s : Shared}
abbrev zp1 (h : Heap) (l : Addr) : Heap:=h.push { cls:=.type "list_iterator",data:=.fields #[.ref l,.int 0 0] }
abbrev zp2 (h : Heap) (l t : Addr) : Heap:=(zp1 h l).push { cls:=.type "tuple_iterator",data:=.fields #[.ref t,.int 0 0] }
abbrev zp3 (h : Heap) (l t : Addr) : Heap:=(zp2 h l t).push { cls:=.type "tuple",data:=.seq #[.ref h.objs.size,.ref (zp1 h l).objs.size] }
abbrev zp4 (h : Heap) (l t : Addr) : Heap:=(zp3 h l t).push { cls:=.type "tuple",data:=.seq #[.none,.none] }
abbrev zp5 (h : Heap) (l t : Addr) : Heap:=(zp4 h l t).push { cls:=.type "zip",data:=.fields #[.none,.bool false,.bool false,.ref (zp2 h l t).objs.size,.ref (zp3 h l t).objs.size] }
theorem JY (l t : Addr) (xs ys : Array Value) :
 Meets (Builtin.«zip.__new__» ⟨[.type "zip",.ref l,.ref t],[]⟩) (fun _ R s=>s.heap.IsList l xs ∧ s.heap.IsTuple t ys ∧ R (.ok (.ret (.ref (zp4 s.heap l t).objs.size))) { s with heap:=zp5 s.heap l t }) :=
 .of_wp fun prog w A R s h=>by
  obtain ⟨hp,g,d,tk,os⟩:=s; obtain ⟨hl1,hl2,h⟩:=h
  have hsub:=sub_zip
  have hL1 : Heap.IsList (Shared.heap ⟨hp,g,d,tk,os⟩) l xs:=hl1
  have hL2 : Heap.IsTuple (Shared.heap ⟨hp.push { cls:=.type "list_iterator",data:=.fields #[.ref l,.int 0 0] },g,d,tk,os⟩) t ys:=Heap.IsTuple.push hl2 _
  wp_walk using wpAny_pyIter_list hL1,wpAny_pyIter_tuple hL2
  exact ⟨_,rfl,h⟩
theorem LA {l t : Addr} {xs ys : Array Value} {Q : Value → Shared → Prop} (hl : s.heap.IsList l xs) (ht : s.heap.IsTuple t ys)
 (h : ∀ h',IsZip h' (s.heap.objs.size + 4) (s.heap.objs.size + 2) (s.heap.objs.size + 3) .none → IsPair h' (s.heap.objs.size + 2) (.ref s.heap.objs.size) (.ref (s.heap.objs.size + 1)) → IsPair h' (s.heap.objs.size + 3) .none .none →
  h'.IsListIter s.heap.objs.size l 0 → h'.IsTupleIter (s.heap.objs.size + 1) t 0 → (∀ c o,s.heap.get? c = some o → h'.get? c = some o) → Q (.ref (s.heap.objs.size + 4)) { s with heap:=h' }) :
 wpAny (model prog w) A (call (.type "zip") [.ref l,.ref t]) Q E s:=by
 refine callType_new F.called_zip (by decide) (F.typeCall_zip_2 _ _) (F.newCall_zip_2 _ _) (fun obj=>F.args_object_init_3 obj _ _) F.entry_zip_new (JY l t xs ys) ⟨hl,ht,?_⟩
 have z1 : (zp1 s.heap l).objs.size = s.heap.objs.size + 1:=Heap.size_push ..
 have z2 : (zp2 s.heap l t).objs.size = s.heap.objs.size + 2:=by rw [Heap.size_push,z1]
 have z3 : (zp3 s.heap l t).objs.size = s.heap.objs.size + 3:=by rw [Heap.size_push,z2]
 have z4 : (zp4 s.heap l t).objs.size = s.heap.objs.size + 4:=by rw [Heap.size_push,z3]
 have up : ∀ {h : Heap} {o : Obj} {c : Addr} {p : Obj},h.get? c = some p → (h.push o).get? c = some p:=fun e=>Heap.get?_push_of_some _ e
 have g5 : (zp5 s.heap l t).get? (zp4 s.heap l t).objs.size = some _:=Heap.get?_push_size _ rfl
 have g4 : (zp5 s.heap l t).get? (zp3 s.heap l t).objs.size = some _:=up (Heap.get?_push_size _ rfl)
 have g3 : (zp5 s.heap l t).get? (zp2 s.heap l t).objs.size = some _:=up (up (Heap.get?_push_size _ rfl))
 have g2 : (zp5 s.heap l t).get? (zp1 s.heap l).objs.size = some _:=up (up (up (Heap.get?_push_size _ rfl)))
 have g1 : (zp5 s.heap l t).get? s.heap.objs.size = some _:=up (up (up (up (Heap.get?_push_size _ rfl))))
 show _ ∧ _
 rw [z2,z3,z4] at g5
 rw [z1,z2] at g3
 rw [z3] at g4
 rw [z1] at g2
 rw [z4]
 exact ⟨⟨_,g5,rfl⟩,h _ g5 g3 g4 ⟨_,g1,rfl,rfl⟩ ⟨_,g2,rfl,rfl⟩ fun c o x=>up (up (up (up (up x))))⟩
end
end L2
namespace L2
open PySem PySem.Spec PyProof.Rows
end L2
namespace L2
open PySem PySem.Spec PyProof.Rows
section
variable {prog : Program} {w : World} {A : Around} {E : Value → Shared → Prop} {s : Shared}
theorem Je {it t : Addr} {Q : Value → Shared → Prop} (hh : A.handled = none) {k : Nat} {ys : Array Value} (hit : s.heap.IsTupleIter it t k) (ht : s.heap.IsTuple t ys) (hy : ys[k]? = none)
 (hE : ∀ h' e,Heap.ExtBut it s.heap h' → (∃ o,h'.get? e = some o ∧ o.cls = .type "StopIteration") → E (.ref e) { s with heap:=h' }) : wpAny (model prog w) A (Builtin.SmallTypes.nextOf (.ref it)) Q E s:=by
 obtain ⟨o,ho,hc,hd⟩:=id hit
 obtain ⟨ot,hot,_,nt,hdt⟩:=ht
 unfold Builtin.SmallTypes.nextOf
 refine wpAny_bind (wpAny_callSpecial?_slot (name:=Str.ofString "__next__") hit.typeIs F.slot_tuple_iterator_next (wpAny_call_entry F.slot_tuple_iterator_next hit.typeIs F.entry_tuple_iterator_next ?_ (F.args_tuple_iterator_next_1 _)))
 show wpAny _ _ (field (.ref it) 0 >>= _) _ _ s
 refine wpAny_bind (wpAny_field ho hd (x:=.ref t) rfl ?_)
 show wpAny _ _ (if (Value.ref t == Value.none) = true then _ else _) _ _ s
 rw [if_neg (show ¬ ((Value.ref t == Value.none) = true) from Bool.false_ne_true)]
 show wpAny _ _ (field (.ref it) 1 >>= _) _ _ s
 refine wpAny_bind (wpAny_field ho hd (x:=.int (k : Int) 0) rfl ?_)
 show wpAny _ _ (seqItems? (.ref t) >>= _) _ _ s
 refine wpAny_bind (wpAny_seqItems hot hdt ?_)
 simp only [U9,hy]
 refine wpAny_bind (wpAny_rule (wpAny_bind (wpAny_setField ho hd (by simp) ?_)))
 show wpAny _ _ (newExc (.type "StopIteration") [] >>= _) _ _ _
 refine wpAny_bind ?_
 simp only [newExc,newTuple]
 refine wpAny_bind (wpAny_newObj_type ?_ (by size_fits))
 refine wpAny_bind (m:=firstArgMember _ _) (wpAny_of_eq (a:=Value.none) (by first | rfl | (simp only [firstArgMember]; rfl)) ?_)
 refine wpAny_newObj_type ?_ (by size_fits)
 simp only [raiseNew]
 refine wpAny_bind (wpAny_handled ?_)
 first | rw [show A.in1.handled = none from hh] | rw [hh]
 refine wpAny_bind (wpAny_pure (wpAny_throw ?_))
 exact hE _ _ (((Heap.SameBut.update ..).extBut.push _).push _) ⟨_,Heap.get?_push_size _ rfl,rfl⟩
theorem LG {z TI TO i1 i2 l1 l2 : Addr} {k1 k2 : Nat} {xs ys : Array Value} {a b : Value} {Q : Fin → Shared → Prop} (hh : A.handled = none) (D : ZipApart z TI TO i1 i2 l1 l2)
 (hz : IsZip s.heap z TI TO .none) (hTI : IsPair s.heap TI (.ref i1) (.ref i2)) (hTO : IsPair s.heap TO a b) (h1 : s.heap.IsListIter i1 l1 k1) (h2 : s.heap.IsTupleIter i2 l2 k2) (hl1 : s.heap.IsList l1 xs) (hl2 : s.heap.IsTuple l2 ys) (hend : xs[k1]? = none ∨ ys[k2]? = none)
 (hE : ∀ h' e,(∀ c o,c ≠ z → c ≠ TO → c ≠ i1 → c ≠ i2 → s.heap.get? c = some o → h'.get? c = some o) → (∃ o,h'.get? e = some o ∧ o.cls = .type "StopIteration") → E (.ref e) { s with heap:=h' }) :
 wpAny (model prog w) A (Builtin.«zip.__next__» ⟨[.ref z],[]⟩) Q E s:=by
 show wpAny _ _ (field (.ref z) 2 >>= _) _ _ _
 refine wpAny_bind (wpAny_field hz rfl (x:=.bool false) rfl ?_)
 show wpAny _ _ (field (.ref z) 3 >>= _) _ _ _
 refine wpAny_bind (wpAny_field hz rfl (x:=.ref TI) rfl ?_)
 refine wpAny_bind (wpAny_seqItems hTI rfl ?_)
 show wpAny _ _ (Builtin.SmallTypes.ownedTupleIsFree (.ref z) >>= _) _ _ _
 refine wpAny_bind ?_
 unfold Builtin.SmallTypes.ownedTupleIsFree
 refine wpAny_bind (wpAny_field hz rfl (x:=.none) rfl (wpAny_pure ?_))
 simp only [if_true]
 refine wpAny_bind (wpAny_rule ?_)
 refine wpAny_bind (wpAny_field hz rfl (x:=.ref TO) rfl ?_)
 refine wpAny_bind (wpAny_setField_rec hz (by simp) fun g1 hz1 t1=>?_)
 replace hz1 : IsZip g1 z TI TO .ellipsis:=hz1
 refine wpAny_bind ?_
 simp only [List.zipIdx_cons,List.zipIdx_nil,Uk,List.forIn_nil]
 refine wpAny_bind (wpAny_bind (wpAny_onRaise ?_))
 show wpAny _ _ (Builtin.SmallTypes.nextOf (.ref i1) >>= _) _ _ _
 cases hx : xs[k1]? with
 | none =>
   refine wpAny_bind (wpAny_nextOf_list_end hh (h1.extBut t1.extBut D.i1z) (hl1.extBut t1.extBut D.l1z) hx fun g2 e t2 he=>?_)
   obtain ⟨oe,hoe,hce⟩:=he
   have hz2 : IsZip g2 z TI TO .ellipsis:=t2 _ _ D.i1z.symm hz1
   have hez : e ≠ z:=fun x=>by subst x; rw [hz2] at hoe; cases hoe; simp at hce
   exact wpAny_setField_rec hz2 (by simp) fun g3 _ t3=>hE g3 e (fun c o c1 _ c3 _ x=>t3.extBut _ _ c1 (t2 _ _ c3 (t1.extBut _ _ c1 x))) ⟨oe,t3.extBut _ _ hez hoe,hce⟩
 | some x =>
   refine wpAny_bind (wpAny_nextOf_list_item (h1.extBut t1.extBut D.i1z) (hl1.extBut t1.extBut D.l1z) hx fun g2 _ t2=>wpAny_pure ?_)
   have hTO2 : IsPair g2 TO a b:=t2.extBut _ _ D.TOi1 (t1.extBut _ _ D.TOz hTO)
   refine wpAny_bind (wpAny_seqItems hTO2 rfl ?_)
   refine wpAny_bind (wpAny_updateSeq_pair hTO2 fun g3 _ t3=>?_)
   refine wpAny_bind (wpAny_letGo (wpAny_pure ?_))
   refine wpAny_bind (wpAny_bind (wpAny_onRaise ?_))
   show wpAny _ _ (Builtin.SmallTypes.nextOf (.ref i2) >>= _) _ _ _
   refine wpAny_bind (Je hh (((h2.extBut t1.extBut D.i2z).extBut t2.extBut D.i12.symm).extBut t3.extBut D.TOi2.symm) (((hl2.extBut t1.extBut D.l2z).extBut t2.extBut D.l2i1).extBut t3.extBut D.l2TO) (hend.resolve_left (by rw [hx]; exact fun q=>nomatch q)) fun g4 e t4 he=>?_)
   obtain ⟨oe,hoe,hce⟩:=he
   have hz4 : IsZip g4 z TI TO .ellipsis:=t4 _ _ D.i2z.symm (t3.extBut _ _ D.TOz.symm (t2.extBut _ _ D.i1z.symm hz1))
   have hez : e ≠ z:=fun x=>by subst x; rw [hz4] at hoe; cases hoe; simp at hce
   exact wpAny_setField_rec hz4 (by simp) fun g5 _ t5=>hE g5 e (fun c o c1 c2 c3 c4 x=>t5.extBut _ _ c1 (t4 _ _ c4 (t3.extBut _ _ c2 (t2.extBut _ _ c3 (t1.extBut _ _ c1 x))))) ⟨oe,t5.extBut _ _ hez hoe,hce⟩
theorem Iq {it t : Addr} {k : Nat} {ys : Array Value} {y : Value} {Q : Value → Shared → Prop} (hit : s.heap.IsTupleIter it t k) (ht : s.heap.IsTuple t ys) (hy : ys[k]? = some y)
 (hQ : ∀ h',h'.IsTupleIter it t (k + 1) → Heap.SameBut it s.heap h' → Q y { s with heap:=h' }) : wpAny (model prog w) A (Builtin.SmallTypes.nextOf (.ref it)) Q E s:=by
 obtain ⟨o,ho,hc,hd⟩:=id hit
 obtain ⟨ot,hot,_,nt,hdt⟩:=ht
 unfold Builtin.SmallTypes.nextOf
 refine wpAny_bind (wpAny_callSpecial?_slot (name:=Str.ofString "__next__") hit.typeIs F.slot_tuple_iterator_next (wpAny_call_entry F.slot_tuple_iterator_next hit.typeIs F.entry_tuple_iterator_next ?_ (F.args_tuple_iterator_next_1 _)))
 show wpAny _ _ (field (.ref it) 0 >>= _) _ _ s
 refine wpAny_bind (wpAny_field ho hd (x:=.ref t) rfl ?_)
 show wpAny _ _ (if (Value.ref t == Value.none) = true then _ else _) _ _ s
 rw [if_neg (show ¬ ((Value.ref t == Value.none) = true) from Bool.false_ne_true)]
 show wpAny _ _ (field (.ref it) 1 >>= _) _ _ s
 refine wpAny_bind (wpAny_field ho hd (x:=.int (k : Int) 0) rfl ?_)
 show wpAny _ _ (seqItems? (.ref t) >>= _) _ _ s
 refine wpAny_bind (wpAny_seqItems hot hdt ?_)
 simp only [U9,hy]
 refine wpAny_bind (wpAny_setField ho hd (by simp) (wpAny_pure ⟨y,rfl,wpAny_pure (hQ _ ⟨_,Heap.get?_update_self _ ho (Obj.isFreed_of_fields (Obj.data_mapFields hd _)),(Obj.cls_mapFields ..).trans hc,?_⟩ (Heap.SameBut.update ..))⟩))
 rw [Obj.data_mapFields hd]; simp [rawInt]
theorem KQ {z TI TO i1 i2 l1 l2 : Addr} {k1 k2 : Nat} {xs ys : Array Value} {x y a b : Value} {Q : Option Value → Shared → Prop} (D : ZipApart z TI TO i1 i2 l1 l2)
 (hz : IsZip s.heap z TI TO .none) (hTI : IsPair s.heap TI (.ref i1) (.ref i2)) (hTO : IsPair s.heap TO a b) (h1 : s.heap.IsListIter i1 l1 k1) (h2 : s.heap.IsTupleIter i2 l2 k2) (hl1 : s.heap.IsList l1 xs) (hl2 : s.heap.IsTuple l2 ys) (hx : xs[k1]? = some x) (hy : ys[k2]? = some y)
 (hQ : ∀ h',IsZip h' z TI TO (rawInt s.heap.objs.size) → IsPair h' TO x y → h'.IsListIter i1 l1 (k1 + 1) → h'.IsTupleIter i2 l2 (k2 + 1) → IsPair h' s.heap.objs.size x y → h'.objs.size = s.heap.objs.size + 1 →
  (∀ c o,c ≠ z → c ≠ TO → c ≠ i1 → c ≠ i2 → s.heap.get? c = some o → h'.get? c = some o) → Q (some (.ref s.heap.objs.size)) { s with heap:=h' }) : wpAny (model prog w) A (pyNext (.ref z)) Q E s:=by
 have hT : s.TypeIs (.ref z) "zip":=⟨_,hz,rfl⟩
 unfold pyNext
 refine wpAny_bind (wpAny_attempt (wpAny_callSpecial?_slot (name:=Str.ofString "__next__") hT F.slot_zip_next (wpAny_call_entry F.slot_zip_next hT F.entry_zip_next ?_ (F.args_zip_next_1 _))))
 show wpAny _ _ (field (.ref z) 2 >>= _) _ _ _
 refine wpAny_bind (wpAny_field hz rfl (x:=.bool false) rfl ?_)
 show wpAny _ _ (field (.ref z) 3 >>= _) _ _ _
 refine wpAny_bind (wpAny_field hz rfl (x:=.ref TI) rfl ?_)
 refine wpAny_bind (wpAny_seqItems hTI rfl ?_)
 show wpAny _ _ (Builtin.SmallTypes.ownedTupleIsFree (.ref z) >>= _) _ _ _
 refine wpAny_bind ?_
 unfold Builtin.SmallTypes.ownedTupleIsFree
 refine wpAny_bind (wpAny_field hz rfl (x:=.none) rfl (wpAny_pure ?_))
 simp only [if_true]
 refine wpAny_bind (wpAny_rule ?_)
 refine wpAny_bind (wpAny_field hz rfl (x:=.ref TO) rfl ?_)
 refine wpAny_bind (wpAny_setField_rec hz (by simp) fun g1 hz1 t1=>?_)
 replace hz1 : IsZip g1 z TI TO .ellipsis:=hz1
 refine wpAny_bind ?_
 simp only [List.zipIdx_cons,List.zipIdx_nil,Uk,List.forIn_nil]
 refine wpAny_bind (wpAny_bind (wpAny_onRaise ?_))
 show wpAny _ _ (Builtin.SmallTypes.nextOf (.ref i1) >>= _) _ _ _
 refine wpAny_bind (wpAny_nextOf_list_item (h1.extBut t1.extBut D.i1z) (hl1.extBut t1.extBut D.l1z) hx fun g2 q2 t2=>wpAny_pure ?_)
 have o2 : IsPair g2 TO a b:=t2.extBut _ _ D.TOi1 (t1.extBut _ _ D.TOz hTO)
 refine wpAny_bind (wpAny_seqItems o2 rfl (wpAny_bind (wpAny_updateSeq_pair o2 fun g3 o3 t3=>?_)))
 replace o3 : IsPair g3 TO x b:=o3
 refine wpAny_bind (wpAny_letGo (wpAny_pure ?_))
 refine wpAny_bind (wpAny_bind (wpAny_onRaise ?_))
 show wpAny _ _ (Builtin.SmallTypes.nextOf (.ref i2) >>= _) _ _ _
 refine wpAny_bind (Iq (((h2.extBut t1.extBut D.i2z).extBut t2.extBut D.i12.symm).extBut t3.extBut D.TOi2.symm) (((hl2.extBut t1.extBut D.l2z).extBut t2.extBut D.l2i1).extBut t3.extBut D.l2TO) hy fun g4 q4 t4=>wpAny_pure ?_)
 have o4 : IsPair g4 TO x b:=t4.extBut _ _ D.TOi2 o3
 refine wpAny_bind (wpAny_seqItems o4 rfl (wpAny_bind (wpAny_updateSeq_pair o4 fun g5 o5 t5=>?_)))
 replace o5 : IsPair g5 TO x y:=o5
 refine wpAny_bind (wpAny_letGo (wpAny_pure (wpAny_pure ?_)))
 refine wpAny_bind (wpAny_seqItems o5 rfl (wpAny_bind (wpAny_newTuple ?_)))
 have z5 : g5.objs.size = s.heap.objs.size:=by rw [t5.1,t4.1,t3.1,t2.1,t1.1]
 have y5 : IsZip g5 z TI TO .ellipsis:=t5.extBut _ _ D.TOz.symm (t4.extBut _ _ D.i2z.symm (t3.extBut _ _ D.TOz.symm (t2.extBut _ _ D.i1z.symm hz1)))
 have k5 : ∀ c o,c ≠ z → c ≠ TO → c ≠ i1 → c ≠ i2 → s.heap.get? c = some o → g5.get? c = some o:=fun c o c1 c2 c3 c4 e=>t5.extBut _ _ c2 (t4.extBut _ _ c4 (t3.extBut _ _ c2 (t2.extBut _ _ c3 (t1.extBut _ _ c1 e))))
 have p5 : g5.IsListIter i1 l1 (k1 + 1):=((q2.extBut t3.extBut D.TOi1.symm).extBut t4.extBut D.i12).extBut t5.extBut D.TOi1.symm
 have r5 : g5.IsTupleIter i2 l2 (k2 + 1):=q4.extBut t5.extBut D.TOi2.symm
 have lz : z < g5.objs.size:=Heap.lt_size y5
 show wpAny _ _ (Builtin.SmallTypes.ownedTupleHandOut (.ref z) (.ref g5.objs.size) >>= _) _ _ _
 refine wpAny_bind ?_
 unfold Builtin.SmallTypes.ownedTupleHandOut
 have y6 : IsZip (g5.push { cls:=.type "tuple",data:=.seq #[x,y] }) z TI TO .ellipsis:=Heap.get?_push_of_some _ y5
 refine wpAny_bind (wpAny_setField_rec y6 (by simp) fun g7 y7 t7=>?_)
 replace y7 : IsZip g7 z TI TO (rawInt g5.objs.size):=y7
 refine wpAny_setField_rec y7 (by simp) fun g8 y8 t8=>?_
 replace y8 : IsZip g8 z TI TO (rawInt g5.objs.size):=y8
 have up : ∀ c o,c ≠ z → g5.get? c = some o → g8.get? c = some o:=fun c o c1 e=>t8.extBut _ _ c1 (t7.extBut _ _ c1 (Heap.get?_push_of_some _ e))
 have n8 : IsPair g8 g5.objs.size x y:=t8.extBut _ _ (T8 lz) (t7.extBut _ _ (T8 lz) (Heap.get?_push_size _ rfl))
 have s8 : g8.objs.size = g5.objs.size + 1:=by rw [t8.1,t7.1,Heap.size_push]
 rw [z5] at y8 n8 s8
 refine wpAny_pure ⟨_,rfl,?_⟩
 refine wpAny_pure ?_
 show Q (some (.ref g5.objs.size)) _
 rw [z5]
 exact hQ g8 y8 (up _ _ D.TOz o5) (p5.at fun o e=>up _ o D.i1z e) (r5.at fun o e=>up _ o D.i2z e) n8 s8 fun c o c1 c2 c3 c4 e=>up c o c1 (k5 c o c1 c2 c3 c4 e)
theorem KP {z TI TO i1 i2 l1 l2 : Addr} {k1 k2 : Nat} {xs ys : Array Value} {a b : Value} {Q : Option Value → Shared → Prop} (hh : A.handled = none) (D : ZipApart z TI TO i1 i2 l1 l2)
 (hz : IsZip s.heap z TI TO .none) (hTI : IsPair s.heap TI (.ref i1) (.ref i2)) (hTO : IsPair s.heap TO a b) (h1 : s.heap.IsListIter i1 l1 k1) (h2 : s.heap.IsTupleIter i2 l2 k2) (hl1 : s.heap.IsList l1 xs) (hl2 : s.heap.IsTuple l2 ys) (hend : xs[k1]? = none ∨ ys[k2]? = none)
 (hQ : ∀ h',(∀ c o,c ≠ z → c ≠ TO → c ≠ i1 → c ≠ i2 → s.heap.get? c = some o → h'.get? c = some o) → Q none { s with heap:=h' }) : wpAny (model prog w) A (pyNext (.ref z)) Q E s:=by
 have hT : s.TypeIs (.ref z) "zip":=⟨_,hz,rfl⟩
 unfold pyNext
 refine wpAny_bind (wpAny_attempt (wpAny_callSpecial?_slot (name:=Str.ofString "__next__") hT F.slot_zip_next
  (wpAny_call_entry F.slot_zip_next hT F.entry_zip_next (LG hh D hz hTI hTO h1 h2 hl1 hl2 hend fun h' e hk he=>?_) (F.args_zip_next_1 _))))
 obtain ⟨o,ho,hc⟩:=he
 exact wpAny_bind (wpAny_isInstance (T:="StopIteration") (b:=true) ⟨o,ho,hc⟩ isSubtype_stop (wpAny_pure (hQ _ hk)))
end
def N2 (K : SR) (a b : Addr) (xs ys : List V) : It :=
 ⟨fun i H=>SqL K H a xs ∧ SqT K H b ys ∧ i < min xs.length ys.length,
  fun i H x H'=>∃ T x1 y1,xs[i]? = some x1 ∧ ys[i]? = some y1 ∧ H T = none ∧ x = .ref T ∧ H' = upd H T (.tup [x1,y1]),
  fun i H=>SqL K H a xs ∧ SqT K H b ys ∧ min xs.length ys.length ≤ i⟩
theorem KS {P : Program} {w : World} {K : SR} {elts : List Expr} {kk} {pos : Pos} {a b z TI TO i1 i2 : Addr} (D : ZipApart z TI TO i1 i2 a b) (xs ys : List V) :
 JG P w K (.Tuple elts kk pos) (N2 K a b xs ys) [z,TI,TO,i1,i2] z (fun i h=>IsZip h z TI TO .none ∧ IsPair h TI (.ref i1) (.ref i2) ∧ (∃ u v,IsPair h TO u v) ∧ h.IsListIter i1 a i ∧ h.IsTupleIter i2 b i) where
 mem:=by simp
 obj:=fun i h st c hc=>by
  obtain ⟨hz,hTI,⟨u,v,hTO⟩,⟨o1,e1,_,d1⟩,⟨o2,e2,_,d2⟩⟩:=st
  have hc' : c = z ∨ c = TI ∨ c = TO ∨ c = i1 ∨ c = i2:=by simpa using hc
  rcases hc' with rfl | rfl | rfl | rfl | rfl
  ·exact ⟨_,hz,fun v z=>by cases z⟩
  ·exact ⟨_,hTI,fun v z=>by cases z⟩
  ·exact ⟨_,hTO,fun v z=>by cases z⟩
  ·exact ⟨o1,e1,fun v z=>by rw [d1] at z; cases z⟩
  ·exact ⟨o2,e2,fun v z=>by rw [d2] at z; cases z⟩
 keep:=fun i h h' st k=>by
  obtain ⟨hz,hTI,⟨u,v,hTO⟩,h1,h2⟩:=st
  exact ⟨k z (by simp) _ hz,k TI (by simp) _ hTI,⟨u,v,k TO (by simp) _ hTO⟩,h1.at fun o e=>k i1 (by simp) o e,h2.at fun o e=>k i2 (by simp) o e⟩
 item:=by
  intro X hP hw hK hc i pins s σ H E I hf st hg
  subst hP hw hK
  obtain ⟨hq1,hq2,hi⟩:=hg
  obtain ⟨its1,rv1,p1,_⟩:=I.list hq1
  obtain ⟨its2,rv2,p2,_⟩:=I.tuple hq2
  have hx : xs[i]? = some (xs[i]'(by lia)):=Uv (by lia)
  have hy : ys[i]? = some (ys[i]'(by lia)):=Uv (by lia)
  obtain ⟨u1,hu1,ru1⟩:=rv1.get hx
  obtain ⟨u2,hu2,ru2⟩:=rv2.get hy
  generalize xs[i]'(by lia) = x1 at hx ru1
  generalize ys[i]'(by lia) = y1 at hy ru2
  obtain ⟨hz,hTI,⟨ta,tb,hTO⟩,h1,h2⟩:=st
  refine KQ D hz hTI hTO h1 h2 p1.isList p2 (x:=u1) (y:=u2) (by simpa using hu1) (by simpa using hu2) fun h' a1 a2 a3 a4 a5 a6 a7=>?_
  refine ⟨_,rfl,wpAny_letOwnedTupleGo_zip (s:={ s with heap:=h' }) a1 fun h'' b1 b2=>?_⟩
  have lz : z < s.heap.objs.size:=Heap.lt_size hz
  have lTI : TI < s.heap.objs.size:=Heap.lt_size hTI
  have lTO : TO < s.heap.objs.size:=Heap.lt_size hTO
  have l1 : i1 < s.heap.objs.size:=by obtain ⟨_,e,_⟩:=h1; exact Heap.lt_size e
  have l2 : i2 < s.heap.objs.size:=by obtain ⟨_,e,_⟩:=h2; exact Heap.lt_size e
  have I1 : Inv X pins σ (upd H s.heap.objs.size (.tup [x1,y1])) { s with heap:=s.heap.push { cls:=.type "tuple",data:=.seq #[u1,u2] } } :=
   I.laid (t':=s.toks) (o:=.tup [x1,y1]) (fun b ob q=>Heap.get?_push_of_some _ q) (T9 _) ⟨by show 2 ≤ sizeLine; decide,[u1,u2],.cons ru1 (.cons ru2 .nil),IsTup.new _ _⟩
  have hfp : ∀ c ∈ [z,TI,TO,i1,i2],DS X pins (upd H s.heap.objs.size (.tup [x1,y1])) c:=fun c hc=>by
   obtain ⟨f0,fr⟩:=hf c hc
   have hlt : c < s.heap.objs.size:=by
    have hc' : c = z ∨ c = TI ∨ c = TO ∨ c = i1 ∨ c = i2:=by simpa using hc
    rcases hc' with rfl | rfl | rfl | rfl | rfl <;> assumption
   exact ⟨by rw [As (SJ hlt)]; exact f0,fr⟩
  have I2:=I1.turnedL (h':=h'') (t':=s.toks) (ch:=[z,TO,i1,i2]) (fun c o hcn e=>by
   have hcn' : c ≠ z ∧ c ≠ TO ∧ c ≠ i1 ∧ c ≠ i2:=by simpa using hcn
   obtain ⟨c1,c2,c3,c4⟩:=hcn'
   refine b2.extBut _ _ c1 ?_
   by_cases hcs : c = s.heap.objs.size
   ·subst hcs
    have e' : (s.heap.push { cls:=.type "tuple",data:=.seq #[u1,u2] }).get? s.heap.objs.size = some o:=e
    rw [Heap.get?_push_size _ rfl] at e'
    cases e'
    exact a5
   ·have e' : (s.heap.push { cls:=.type "tuple",data:=.seq #[u1,u2] }).get? c = some o:=e
    refine a7 c o c1 c2 c3 c4 ?_
    rw [Heap.get?_push_ne _ _ _ hcs] at e'
    exact e') (fun c hc=>hfp c (by
     have hc' : c = z ∨ c = TO ∨ c = i1 ∨ c = i2:=by simpa using hc
     rcases hc' with rfl | rfl | rfl | rfl <;> simp))
  refine ⟨.ref s.heap.objs.size,upd H s.heap.objs.size (.tup [x1,y1]),I2,rfl,⟨_,x1,y1,hx,hy,I.hok.fresh (T9 _),rfl,rfl⟩,⟨b1,?_,⟨_,_,b2.extBut _ _ D.TOz a2⟩,a3.extBut b2.extBut D.i1z,a4.extBut b2.extBut D.i2z⟩,fun c hc=>(hfp c hc).1⟩
  exact b2.extBut _ _ D.TIz (a7 _ _ D.TIz D.TITO D.TIi1 D.TIi2 hTI)
 done:=by
  intro X hP hw hK hc i pins s σ H E I hf st hg
  subst hP hw hK
  obtain ⟨hq1,hq2,hi⟩:=hg
  obtain ⟨its1,rv1,p1,_⟩:=I.list hq1
  obtain ⟨its2,rv2,p2,_⟩:=I.tuple hq2
  have e1:=rv1.length
  have e2:=rv2.length
  obtain ⟨hz,hTI,⟨ta,tb,hTO⟩,h1,h2⟩:=st
  refine KP (I.ok.hd hc) D hz hTI hTO h1 h2 p1.isList p2 ?_ fun h' k=>⟨rfl,I.turnedL (t':=s.toks) (ch:=[z,TO,i1,i2]) (fun c o hcn e=>by
   have hcn' : c ≠ z ∧ c ≠ TO ∧ c ≠ i1 ∧ c ≠ i2:=by simpa using hcn
   exact k c o hcn'.1 hcn'.2.1 hcn'.2.2.1 hcn'.2.2.2 e) fun c hc=>hf c (by
    have hc' : c = z ∨ c = TO ∨ c = i1 ∨ c = i2:=by simpa using hc
    rcases hc' with rfl | rfl | rfl | rfl <;> simp)⟩
  by_cases h : xs.length ≤ i
  ·exact .inl (by rw [UK]; simp; lia)
  ·exact .inr (by rw [UK]; simp; lia)
 self:=fun _ _ _ _ _ st h=>wpAny_pyIter_zip st.1 h
inductive Ob (K : SR) (ta : TA) (σ : St) (H : Hp) (R : It → Hp → Prop) : Prop
 | mk (h : ta σ H fun vs H1=>∃ a b xs ys,vs = [.ref a,.ref b] ∧ SqL K H1 a xs ∧ SqT K H1 b ys ∧ R (N2 K a b xs ys) H1) : Ob K ta σ H R
theorem Mf {X : Cx} (K : SR) {elts : List Expr} {kk} {pos' : Pos} {e1 e2 : Expr} {ta : TA} {p pos : Pos} (hg : Gl X "zip") (hm : X.mg "zip" = none) (ha : PA X [e1,e2] ta) (hs : starEach [e1,e2] X.env = [(false,eval e1 X.env),(false,eval e2 X.env)]:=by rfl) (hs2 : starEach [e2] X.env = [(false,eval e2 X.env)]:=by rfl) (e : X.K = K:=by rfl) :
 PI X (.Tuple elts kk pos') (.Call (.Name "zip" p) [e1,e2] [] pos) (Ob K ta):=by
 subst e
 rintro pins s σ H R I ⟨h⟩
 refine Call_ (Gw I hg hm Pg (PyProof.Rows.callWith_type1 (thn (ha pos pins s σ H _ I h) fun us s1 ⟨vs,H1,I1,r1,q1⟩=>?_) (by rw [hs,hs2]) (by rw [hs2]; rfl)))
 obtain ⟨a,b,xs,ys,e,hq1,hq2,q⟩:=q1
 subst e
 cases r1 with
 | cons r rr =>
   cases rr with
   | cons r' rr =>
     cases rr
     cases r
     cases r'
     obtain ⟨its1,rv1,p1,_⟩:=I1.list hq1
     obtain ⟨its2,rv2,p2,_⟩:=I1.tuple hq2
     have la : a < s1.heap.objs.size:=by obtain ⟨_,e,_⟩:=p1.isList; exact Heap.lt_size e
     have lb : b < s1.heap.objs.size:=by obtain ⟨_,e,_⟩:=p2; exact Heap.lt_size e
     refine LA p1.isList p2 fun h' hz hTI hTO hi1 hi2 hk=>?_
     refine wpAny_pyIter_zip (s:={ s1 with heap:=h' }) hz ?_
     have D:=zipApart_new la lb
     refine ⟨s1.heap.objs.size + 4,[s1.heap.objs.size + 4,s1.heap.objs.size + 2,s1.heap.objs.size + 3,s1.heap.objs.size,s1.heap.objs.size + 1],_,_,H1,rfl,I1.kept (t':=s1.toks) hk,KS D xs ys,⟨hz,hTI,⟨_,_,hTO⟩,hi1,hi2⟩,fun c hc=>?_,q⟩
     have hge : s1.heap.objs.size ≤ c:=by
      have hc' : c = s1.heap.objs.size + 4 ∨ c = s1.heap.objs.size + 2 ∨ c = s1.heap.objs.size + 3 ∨ c = s1.heap.objs.size ∨ c = s1.heap.objs.size + 1:=by simpa using hc
      rcases hc' with rfl | rfl | rfl | rfl | rfl
      ·exact V2 _ _
      ·exact V2 _ _
      ·exact V2 _ _
      ·exact T9 _
      ·exact V2 _ _
     exact I1.fpOk hge (I1.hok.fresh hge)
theorem Jt {K : SR} {a b : Addr} {xs ys : List V} {g : TG} {tb : TS} {D : EM} {σ : St} {H : Hp} (Pv : Nat → St → Hp → Prop) (h0 : Pv 0 σ H) (hl : ∀ i σ H,i ≤ min xs.length ys.length → Pv i σ H → SqL K H a xs ∧ SqT K H b ys)
 (hs : ∀ i x y T σ H,xs[i]? = some x → ys[i]? = some y → H T = none → Pv i σ H → g (.ref T) σ (upd H T (.tup [x,y])) fun σ2 H2=>tb { D with nx:=Pv (i + 1),ct:=Pv (i + 1),bk:=D.nx } σ2 H2) (hd : ∀ σ H,Pv (min xs.length ys.length) σ H → D.nx σ H) :
 ∃ W : Nat → Nat → St → Hp → Prop,(∃ m,W 0 m σ H) ∧ ∀ i m σ H,W i m σ H →
   ((N2 K a b xs ys).stop i H ∧ D.nx σ H) ∨ ((N2 K a b xs ys).go i H ∧ ∃ N : St → Hp → Prop,(∀ σ' H',N σ' H' → ∃ m',m' < m ∧ W (i + 1) m' σ' H') ∧ ∀ x H',(N2 K a b xs ys).yld i H x H' → g x σ H' fun σ2 H2=>tb { D with nx:=N,ct:=N,bk:=D.nx } σ2 H2):=by
 refine ⟨fun i m σ H=>m = min xs.length ys.length - i ∧ i ≤ min xs.length ys.length ∧ Pv i σ H,⟨min xs.length ys.length,by simp,Tc _,h0⟩,?_⟩
 rintro i m σ H ⟨rfl,hi,p⟩
 obtain ⟨q1,q2⟩:=hl i σ H hi p
 by_cases hlt : i < min xs.length ys.length
 ·refine .inr ⟨⟨q1,q2,hlt⟩,Pv (i + 1),fun σ' H' p'=>⟨min xs.length ys.length - (i + 1),by lia,rfl,hlt,p'⟩,fun x H' y=>?_⟩
  obtain ⟨T,x1,y1,hx,hy,hT,rfl,rfl⟩:=y
  exact hs i x1 y1 T σ _ hx hy hT p
 ·have e : i = min xs.length ys.length:=by lia
  subst e
  exact .inl ⟨⟨q1,q2,T9 _⟩,hd σ H p⟩
end L2
namespace L2
open PySem PySem.Spec PyProof.Rows
section
variable {X : Cx} {n k : Nat} {C : Addr} {ps : List Str} {sp : Sp} {E : XK} {x m : Str} {p pos apos : Pos} {e o : Expr} {es : List Expr} {ta : TE} {t : TA}
theorem PX {pins : List (Addr × Obj)} {σ : St} {H : Hp} {s : Shared} {Q : VK} (F : FdI (CX2 X.prog X.w) X.prog X.w X.K X.mg X.base n C x ps sp) (hr : BA k X.A) (hg : Gl X x) (ha : PA X.nox (e :: es) t) (I : Inv X pins σ H s)
 (h : t σ H fun vs H1=>∀ o dx,H1 o = none → H1 dx = none → dx ≠ o → sp (.ref o :: vs) (upd (upd H1 dx (.own o)) o (.ins C dx [])) (fun v H2=>v = .non ∧ Q (.ref o) H2) E) (hn : n + 1 ≤ k)
 (hdb : (x == ("__debug__" : Str)) = false) (he : starEach (e :: es) X.env = (false,eval e X.env) :: starEach es X.env) (hpl : (backTo pos (starEach es X.env)).any (·.1) = false) :
 wpAny (model X.prog X.w) X.A (eval (.Call (.Name x p) (e :: es) [] pos) X.env) (EP X pins σ Q) (fun e s2=>∃ H1 s1,Inv X pins σ H1 s1 ∧ CX2 X.prog X.w X.stack H1 s1 E e s2) s:=by
 obtain ⟨f,fd,F1,F2,M,F4⟩:=F.ex
 refine wpAny_Call_Name_kw (Dr I hg F4 ?_ hdb)
 refine TL (h₀:=X.base) I.ok.mod.kin M.kp (wpAny_mono (ha pos pins s σ H _ (I.wish _) h) (fun us s1 ⟨vs,H1,I1,r,q⟩=>⟨I1.unwish.kIn,?_⟩) fun _ _ z=>False.elim z) he hpl
 have I1:=I1.unwish
 have hq:=q (s1.heap.objs.size + 1) s1.heap.objs.size (I1.hok.fresh (TM _)) (I1.hok.fresh (T9 _)) (SJ (Tz _))
 have I2:=Inv.made (C:=C) I1
 have r2 : AN (V.ref (s1.heap.objs.size + 1) :: vs) (Value.ref (s1.heap.objs.size + 1) :: us):=.cons rfl r
 have hlen : (Value.ref (s1.heap.objs.size + 1) :: us).length = ps.length:=by rw [← r2.length]; exact F1.len _ _ _ _ hq
 have hb':=F2 _ (Value.ref (s1.heap.objs.size + 1) :: us) I2.kIn (by rw [TK]; exact hlen)
 rw [TK] at hb'
 refine wpAny_call (Jh (f:=f) I1.kIn M.makes M.init (beq_iff_eq.mp M.fn) (codeAny_mono (F1.run _ X.stack _ _ ⟨Value.ref (s1.heap.objs.size + 1) :: us,[]⟩ (Value.ref (s1.heap.objs.size + 1) :: us) _ _ E ((hr.mono hn).make C us []) (I2.env0.make C us []) hb' r2 hq) fun r s' hq'=>?_))
 cases r with
 | error e=>exact ⟨_,_,I2,hq'⟩
 | ok fl =>
   cases fl with
   | ret u =>
     obtain ⟨v,H',I3,rv,ev,q3⟩:=I2.after hq'
     subst ev
     exact ⟨rv,⟨V.ref (s1.heap.objs.size + 1),H',I3,rfl,q3⟩⟩
   | next=>exact False.elim hq'
   | brk=>exact False.elim hq'
   | cont=>exact False.elim hq'
def Qz (C : Addr) (sp : Sp) (t : TA) (j : Nat) (tr : TS) : TB:=fun nx E σ H=>t σ H fun vs H1=>∀ o dx,H1 o = none → H1 dx = none → dx ≠ o → sp (.ref o :: vs) (upd (upd H1 dx (.own o)) o (.ins C dx [])) (fun v H2=>v = .non ∧ tr { nx:=nx,rt:=fun _ _=>False } (σ.set j (some (.ref o))) H2) E
theorem Nq {j : Nat} {y : Str} {yp spos : Pos} {Bx : List Stmt} {tr : TS} (F : FdI (CX2 X.prog X.w) X.prog X.w X.K X.mg X.base n C x ps sp) (hr : BA k X.A) (hg : Gl X x) (ha : PA X.nox (e :: es) t) (nd : X.N.Nodup) (hj : X.N[j]? = some y) (hy : Loc X.env.scope y) (hrest : PSs X.nox Bx tr) (hn : n + 1 ≤ k:=by decide)
 (hs : swapsWith (.Call (.Name x p) (e :: es) [] pos) (some (.Name y yp)) spos.line X.env = pure false:=by rfl) (hf : X.fn y = true ∨ X.env.scope.names.lookup y = some .local:=by first | exact .inl rfl | exact .inr rfl | assumption)
 (hdb : (x == ("__debug__" : Str)) = false:=by decide) (he : starEach (e :: es) X.env = (false,eval e X.env) :: starEach es X.env:=by rfl) (hpl : (backTo pos (starEach es X.env)).any (·.1) = false:=by rfl) :
 PB X (.Assign [.Name y yp] (.Call (.Name x p) (e :: es) [] pos) spos :: Bx) (Qz C sp t j tr):=by
 intro pins s σ H nx E I h
 refine wpAny_execs_cons (wpAny_Assign_Name (thn (PX (Q:=fun v H2=>tr { nx:=nx,rt:=fun _ _=>False } (σ.set j (some v)) H2) F hr hg ha I h hn hdb he hpl) fun v s1 ⟨z,H1,I1,r1,q1⟩=>D6 I1 nd hj hy r1 (fun s2 I2=>?_) hf) hs)
 refine wpAny_mono (hrest pins s2 _ H1 _ (I2.wish _) q1) (fun fl s3 hq=>?_) fun _ _ z=>False.elim z
 cases fl with
 | next=>obtain ⟨σ',H',I3,q3⟩:=hq; exact ⟨rfl,σ',H',I3.unwish,q3⟩
 | ret u=>obtain ⟨_,_,_,_,_,q3⟩:=hq; exact q3.elim
 | brk=>obtain ⟨_,_,_,q3⟩:=hq; exact q3.elim
 | cont=>obtain ⟨_,_,_,q3⟩:=hq; exact q3.elim
def Qy (C : Addr) (m : Str) (sp : Sp) (ta : TE) (t : TA) : TB:=fun nx E σ H=>ta σ H fun x H1=>∃ a dx fs,x = .ref a ∧ H1 a = some (.ins C dx fs) ∧ fs.lookup m = none ∧ t σ H1 fun vs H2=>sp (x :: vs) H2 (fun _ H2=>nx σ H2) E
theorem Mm {pl : Sem Bool} {epos : Pos} (ho : PE X.nox o ta) (c : Cls X.K C) (F : FdM (CX2 X.prog X.w) X.prog X.w X.K X.mg X.base n C m ps sp) (hr : BA k X.A) (ha : PA X.nox (e :: es) t) (hn : n ≤ k:=by decide)
 (hs : swapsWith (.Call (.Attribute o m apos) (e :: es) [] pos) none epos.line X.env = pure false:=by rfl)
 (hst : starEach (e :: es) X.env = (false,eval e X.env) :: starEach es X.env:=by rfl) (hpl : (backTo pos (starEach es X.env)).any (·.1) = false:=by rfl)
 (ht : eval (.Call (.Attribute o m apos) (e :: es) [] pos) X.env = (do
  let ov ← eval o X.env
  standAt apos.atName
  let (f,first) ← holding [ov] (getMethod ov m pl)
  callWith pos f first (backTo pos (starEach (e :: es) X.env)) (backToKw pos (keywordEach [] X.env))):=by rfl) :
 PB X [.Expr (.Call (.Attribute o m apos) (e :: es) [] pos) epos] (Qy C m sp ta t):=by
 intro pins s σ H nx E I h
 exact wpAny_execs_cons (wpAny_Expr_any (thn (PV ho c F hr ha I h hn hst hpl ht) fun v s1 ⟨y,H1,I1,r1,q1⟩=>wpAny_execs_nil ⟨rfl,σ,H1,I1,q1⟩) I.quiet hs)
end
end L2
namespace L2
open PySem PySem.Spec PyProof.Rows
def Es (i : Str) (n : Nat) : Str:=⟨(TR n i.cps).foldl (· ++ ·) #[]⟩
inductive O5 (x y : V) (H : Hp) (Q : VK) : Prop
 | mk (i : Str) (n : Nat) (h1 : x = .str i) (h2 : y = .int (n : Nat)) (hn : 2 ≤ n) (hi : 1 ≤ i.length) (hl : i.length * n ≤ 100000) (hz : (Es i n).length ≤ sizeLine) (q : Q (.str (Es i n)) H) : O5 x y H Q
theorem Nr {X : Cx} : OpR X (binaryOp .Mult) O5:=by
 intro pins s σ H x y v u Q I rx ry h
 obtain ⟨i,n,rfl,rfl,hn,hi,hl,hz,q⟩:=h
 obtain ⟨t,rfl⟩:=rx
 obtain ⟨t',rfl⟩:=ry
 have hn' : n ≤ 100000:=SU (Nat.le_mul_of_pos_left n hi) hl
 have e1 : ¬ ((n : Int) < 1):=by lia
 have e2 : ((n : Int) == 1 || i.length == 0) = false:=by
  rw [Bool.or_eq_false_iff]
  exact ⟨beq_eq_false_iff_ne.mpr (by lia),beq_eq_false_iff_ne.mpr (by lia)⟩
 refine P.mul_str (by rw [decide_eq_false (show ¬ ((n : Int) < -(2 ^ 63 : Int)) by lia),decide_eq_false (show ¬ ((n : Int) ≥ 2 ^ 63) by lia)]; rfl) (fun _ _=>?_) (fun _ _=>?_) ?_
 ·have h2 : ((i.length * n : Nat) : Int) ≤ ((100000 : Nat) : Int):=Int.ofNat_le.mpr hl
  rw [Int.natCast_mul] at h2
  intro hc
  have:=Int.lt_mul_of_ediv_lt (show (0 : Int) < n by lia) hc
  lia
 ·show decide _ = false
  simp only [U9]
  exact decide_eq_false (by have:=sizeLine_eq; lia)
 ·rw [if_neg e1,if_neg (by rw [e2]; exact Bool.false_ne_true),U9]
  exact ⟨hz,⟨.str (Es i n),H,I.tok _,⟨_,rfl⟩,q⟩⟩
end L2
namespace L2
open PySem PySem.Spec PyProof.Rows
theorem Kb {K : SR} {H : Hp} {a : Addr} {o : Obj} {vs : Array Value} {n : Nat} {i : Int} (hk : K.lookup a = some o) (hc : o.cls = .type "tuple") (hd : o.data = .seq vs n) (e : vs.toList.map CK = [some (.int i)]) : SqT K H a [.int i]:=by
 refine .inr ⟨o,vs,n,hk,hc,hd,?_,FQ e fun u _ x h=>JF h⟩
 have hl:=congrArg TV e
 simp at hl
 rw [hl]; decide
end L2
namespace Pf
set_option maxHeartbeats 4000000
open PySem L2
def top (i : Nat) : Stmt:=PySem.Challenge.pw_onecurve_k67_rows_refused_at_a_desk.main.body.getD i (.Pass ⟨0,0,0,0⟩)
theorem Pd {a1 : Type} {p : a1 → Prop} {G : Prop} (h : ∃ x1,p x1) (f : ∀ x1,p x1 → G) : G:=Exists.elim h f
theorem K9 {a1 a2 : Type} {p : a1 → a2 → Prop} {G : Prop} (h : ∃ x1 x2,p x1 x2) (f : ∀ x1 x2,p x1 x2 → G) : G:=Exists.elim h fun x1 h=>Pd h (f x1)
theorem FA {a1 a2 a3 : Type} {p : a1 → a2 → a3 → Prop} {G : Prop} (h : ∃ x1 x2 x3,p x1 x2 x3) (f : ∀ x1 x2 x3,p x1 x2 x3 → G) : G:=Exists.elim h fun x1 h=>K9 h (f x1)
theorem QQ {a1 a2 a3 a4 : Type} {p : a1 → a2 → a3 → a4 → Prop} {G : Prop} (h : ∃ x1 x2 x3 x4,p x1 x2 x3 x4) (f : ∀ x1 x2 x3 x4,p x1 x2 x3 x4 → G) : G:=Exists.elim h fun x1 h=>FA h (f x1)
theorem Hl {A1 A2 G : Prop} (h : A1 ∧ A2) (f : A1 → A2 → G) : G:=f h.1 h.2
theorem Hk {A1 A2 A3 G : Prop} (h : A1 ∧ A2 ∧ A3) (f : A1 → A2 → A3 → G) : G:=Hl h.2 (f h.1)
theorem II {A1 A2 A3 A4 G : Prop} (h : A1 ∧ A2 ∧ A3 ∧ A4) (f : A1 → A2 → A3 → A4 → G) : G:=Hk h.2 (f h.1)
theorem NO {A1 A2 A3 A4 A5 G : Prop} (h : A1 ∧ A2 ∧ A3 ∧ A4 ∧ A5) (f : A1 → A2 → A3 → A4 → A5 → G) : G:=II h.2 (f h.1)
theorem QW {A1 A2 A3 A4 A5 A6 G : Prop} (h : A1 ∧ A2 ∧ A3 ∧ A4 ∧ A5 ∧ A6) (f : A1 → A2 → A3 → A4 → A5 → A6 → G) : G:=NO h.2 (f h.1)
theorem QV {A1 A2 A3 A4 A5 A6 A7 G : Prop} (h : A1 ∧ A2 ∧ A3 ∧ A4 ∧ A5 ∧ A6 ∧ A7) (f : A1 → A2 → A3 → A4 → A5 → A6 → A7 → G) : G:=QW h.2 (f h.1)
theorem QU {A1 A2 A3 A4 A5 A6 A7 A8 G : Prop} (h : A1 ∧ A2 ∧ A3 ∧ A4 ∧ A5 ∧ A6 ∧ A7 ∧ A8) (f : A1 → A2 → A3 → A4 → A5 → A6 → A7 → A8 → G) : G:=QV h.2 (f h.1)
theorem QT {A1 A2 A3 A4 A5 A6 A7 A8 A9 G : Prop} (h : A1 ∧ A2 ∧ A3 ∧ A4 ∧ A5 ∧ A6 ∧ A7 ∧ A8 ∧ A9) (f : A1 → A2 → A3 → A4 → A5 → A6 → A7 → A8 → A9 → G) : G:=QU h.2 (f h.1)
theorem Qo {A1 A2 A3 A4 A5 A6 A7 A8 A9 A10 G : Prop} (h : A1 ∧ A2 ∧ A3 ∧ A4 ∧ A5 ∧ A6 ∧ A7 ∧ A8 ∧ A9 ∧ A10) (f : A1 → A2 → A3 → A4 → A5 → A6 → A7 → A8 → A9 → A10 → G) : G:=QT h.2 (f h.1)
structure GS (K : SR) (C : Addr) : Prop where
 cl : Cls K C
 na_points : Ek K C "points"
def DA (ps : List Rat) : List Ke:=(SK (ps.length - 1)).map fun k : Nat=>(⟨ps.getD 0 0,(k : Int),ps.getD (k + 1) 0⟩ : Ke)
def BJ (pss : List (List Rat)) : List Ke:=(pss.map DA).flatten
theorem Cr (ps : List Rat) : (DA ps).length = ps.length - 1:=by unfold DA; rw [Tx,UI]
theorem KU (pss : List (List Rat)) (ps : List Rat) : BJ (pss ++ [ps]) = BJ pss ++ DA ps:=by
 unfold BJ
 rw [UQ,List.flatten_append]
 simp
theorem Dz : ∀ pss : List (List Rat),(∀ ps ∈ pss,ps.length ≤ 3) → (BJ pss).length ≤ 2 * pss.length
 | [],_=>T9 _
 | p :: r,h=>by
   have ih:=Dz r fun ps hp=>h ps (SY _ hp)
   have hp:=h p SX
   have e : BJ (p :: r) = DA p ++ BJ r:=rfl
   rw [e,U4,Cr,Tq]
   lia
def P23 (pss : List (List Rat)) : Prop:=∀ ps ∈ pss,ps.length = 2 ∨ ps.length = 3
theorem P23.take {pss : List (List Rat)} (h : P23 pss) (i : Nat) : ∀ ps ∈ pss.take i,ps.length ≤ 3:=fun ps hp=>by
 have:=h ps (List.mem_of_mem_take hp); lia
theorem getD_some {l : List Rat} {i : Nat} (h : i < l.length) : l[i]? = some (l.getD i 0):=by rw [Uq,Uv h]; rfl
def cnt (x : Rat) : List Rat → Nat
 | []=>0
 | y :: r=>(if x ≤ y then 1 else 0) + cnt x r
theorem MQ (x : Rat) : ∀ l,cnt x l ≤ l.length
 | []=>T9 _
 | y :: r=>by
   have:=MQ x r
   show (if x ≤ y then 1 else 0) + cnt x r ≤ r.length + 1
   split <;> lia
theorem M7 (x : Rat) : x ≤ x + 1:=by grind
theorem Oq (x : Rat) : ¬ x + 1 ≤ x:=by grind
theorem JB (x : Rat) : ∀ l,cnt (x + 1) l ≤ cnt x l
 | []=>T9 _
 | y :: r=>by
   have:=JB x r
   show (if x + 1 ≤ y then 1 else 0) + cnt (x + 1) r ≤ (if x ≤ y then 1 else 0) + cnt x r
   by_cases h : x + 1 ≤ y
   ·rw [if_pos h,if_pos (Rat.le_trans (M7 x) h)]; lia
   ·rw [if_neg h]; lia
theorem Kc {x : Rat} : ∀ {l},x ∈ l → cnt (x + 1) l < cnt x l
 | y :: r,h=>by
   show (if x + 1 ≤ y then 1 else 0) + cnt (x + 1) r < (if x ≤ y then 1 else 0) + cnt x r
   rcases T1.mp h with z | z
   ·subst z
    have:=JB x r
    rw [if_neg (Oq x),if_pos Rat.le_refl]; lia
   ·have:=Kc z
    by_cases h : x + 1 ≤ y
    ·rw [if_pos h,if_pos (Rat.le_trans (M7 x) h)]; lia
    ·rw [if_neg h]; lia
inductive FE (K : SR) (vs : List V) (H : Hp) (Q : VK) (E_3 : XK) : Prop
 | mk (r : Addr) (xs : List V) (pss : List (List Rat)) (h1 : vs = [.ref r]) (h2 : SqT K H r xs) (h3 : Bg K H xs pss) (h4 : P23 pss) (h5 : pss.length ≤ 100) (h6 : ∀ (p : Addr) (H' : Hp) (ys : List V),Ae H H' → H p = none → H' p = some (.lst ys) → GP K H' ys (BJ pss) → Q (.ref p) H') : FE K vs H Q E_3
theorem DT : ∀ {pss : List (List Rat)},P23 pss → pss.length ≤ (BJ pss).length
 | [],_=>T9 _
 | p :: r,h=>by
   have ih:=DT (pss:=r) fun ps hp=>h ps (SY _ hp)
   have hp:=h p SX
   have e : BJ (p :: r) = DA p ++ BJ r:=rfl
   rw [e,U4,Cr,Tq]
   lia
inductive DX (K : SR) (vs : List V) (H : Hp) (Q : VK) (E_3 : XK) : Prop
 | mk (b : Bool) (r : Addr) (xs : List V) (pss : List (List Rat)) (h1 : vs = [.ref r]) (h2 : Sq b K H r xs) (h3 : Bg K H xs pss) (h4 : P23 pss) (h5 : 1 ≤ pss.length) (h6 : (pss.map fun ps=>ps.getD 0 0).Nodup) (h7 : (BJ pss).length ≤ 12) (h8 : ∀ (p : Addr) (H' : Hp),Ae H H' → SqT K H' p xs → (b = false → p = r) → Q (.ref p) H') : DX K vs H Q E_3
theorem Sq.len {b : Bool} {K : SR} {H : Hp} {r : Addr} {xs : List V} (h : Sq b K H r xs) : SqL K H r xs ∨ SqT K H r xs:=by
 cases b
 ·exact .inr h
 ·exact .inl h
inductive DV (K : SR) (vs : List V) (H : Hp) (Q : VK) (E_3 : XK) : Prop
 | mk (l : Addr) (ys : List V) (qs : List Rat) (h1 : vs = [.ref l]) (h2 : SqL K H l ys) (h3 : Bl H ys qs) (h4 : qs.length ≤ 17) (h5 : ∀ H',Ae H H' → Q (.bl (decide qs.Nodup)) H') : DV K vs H Q E_3
inductive Wh (K : SR) (H : Hp) : V → Bool → Prop where
 | int (i : Int) : Wh K H (.int i) true
 | bl (b : Bool) : Wh K H (.bl b) false
 | oth {x : V} {t : Value} (ty : TyX K H x t) (h : TF K t (.type "int") = some false) : Wh K H x false
inductive Nb (K : SR) (H : Hp) : V → Bool → Prop where
 | no {x : V} {t : Value} (ty : TyX K H x t) (h : TF K t (.type "tuple") = some false) : Nb K H x false
 | len {a : Addr} {xs : List V} (h : SqT K H a xs) (hl : xs.length ≠ 2) : Nb K H (.ref a) false
 | one {a : Addr} {p q : V} (h : SqT K H a [p,q]) (w : Wh K H p false) : Nb K H (.ref a) false
 | two {a : Addr} {i : Int} {q : V} (h : SqT K H a [.int i,q]) (w : Wh K H q false) : Nb K H (.ref a) false
 | nums {a : Addr} {i j : Int} {b : Bool} (h : SqT K H a [.int i,.int j]) (e : b = (decide (1 ≤ j) && decide ((Ui i j : Int) = 1))) : Nb K H (.ref a) b
inductive Pb (K : SR) (H : Hp) : V → Bool → Prop where
 | no {x : V} {t : Value} (ty : TyX K H x t) (h : TF K t (.type "tuple") = some false) : Pb K H x false
 | len {a : Addr} {xs : List V} (h : SqT K H a xs) (h2 : xs.length ≠ 2) (h3 : xs.length ≠ 3) : Pb K H (.ref a) false
 | all {a : Addr} {xs : List V} {bs : List Bool} (h : SqT K H a xs) (h23 : xs.length = 2 ∨ xs.length = 3) (hb : Paired (Nb K H) xs bs) : Pb K H (.ref a) (bs.all id)
theorem TyX.same {K : SR} {H H' : Hp} {x : V} {t : Value} (h : TyX K H x t) (e : Ae H H') : TyX K H' x t:=by
 cases h with
 | of ty=>exact .of (by
  cases ty with
  | non=>exact .non
  | bl x=>exact .bl x
  | int i=>exact .int i
  | str x=>exact .str x
  | flt x=>exact .flt x
  | lst q=>exact .lst (e _ _ q)
  | frz q=>exact .frz (e _ _ q)
  | tup q=>exact .tup (e _ _ q)
  | dK q=>exact .dK (e _ _ q)
  | dT q=>exact .dT (e _ _ q)
  | ins q a b c d f=>exact .ins (e _ _ q) a b c d f)
 | tup q=>exact .tup (q.same e)
 | lst q=>exact .lst (Ae.seq e q)
theorem Wh.same {K : SR} {H H' : Hp} {x : V} {b : Bool} (h : Wh K H x b) (e : Ae H H') : Wh K H' x b:=by
 cases h with
 | int i=>exact .int i
 | bl b=>exact .bl b
 | oth ty k=>exact .oth (TyX.same ty e) k
theorem Nb.same {K : SR} {H H' : Hp} {x : V} {b : Bool} (h : Nb K H x b) (e : Ae H H') : Nb K H' x b:=by
 cases h with
 | no ty k=>exact .no (TyX.same ty e) k
 | len q l=>exact .len (q.same e) l
 | one q w=>exact .one (q.same e) (w.same e)
 | two q w=>exact .two (q.same e) (w.same e)
 | nums q k=>exact .nums (q.same e) k
theorem Pb.same {K : SR} {H H' : Hp} {x : V} {b : Bool} (h : Pb K H x b) (e : Ae H H') : Pb K H' x b:=by
 cases h with
 | no ty k=>exact .no (TyX.same ty e) k
 | len q l2 l3=>exact .len (q.same e) l2 l3
 | all q l hb=>exact .all (q.same e) l (Paired.mapP hb fun _ _ z=>z.same e)
theorem Nb.of {K : SR} {H : Hp} {x : V} {q : Rat} (h : BC K H x q) : Nb K H x true:=by
 obtain ⟨r,rfl,hS⟩:=h
 refine .nums hS ?_
 have h1 : 1 ≤ (q.den : Int):=by have:=q.den_pos; lia
 have h2 : (Ui q.num (q.den : Int) : Int) = 1:=by
  have:=q.reduced
  show ((V9 q.num.natAbs (q.den : Int).natAbs : Nat) : Int) = 1
  rw [Int.natAbs_natCast]
  exact_mod_cast this
 rw [decide_eq_true h1,decide_eq_true h2]
 rfl
theorem Nb.all {K : SR} {H : Hp} {xs : List V} {qs : List Rat} (h : C7 K H xs qs) : Paired (Nb K H) xs (TR qs.length true):=by
 induction h with
 | nil=>exact .nil
 | cons a _ ih=>exact .cons (Nb.of a) ih
theorem GO (n : Nat) : (TR n true).all id = true:=by
 induction n with
 | zero=>rfl
 | succ n ih=>rw [List.replicate_succ,List.all_cons,ih]; rfl
theorem Pb.of {K : SR} {H : Hp} {x : V} {ps : List Rat} (h : PtV K H x ps) (h23 : ps.length = 2 ∨ ps.length = 3) : Pb K H x true:=by
 obtain ⟨a,rfl,xs,hS,hn⟩:=h
 have:=Pb.all hS (by rw [hn.length]; exact h23) (Nb.all hn)
 rw [GO] at this
 exact this
inductive LZ (K : SR) (vs : List V) (H : Hp) (Q : VK) (E_3 : XK) : Prop
 | mk (x : _) (b : _) (h1 : vs = [x]) (h2 : Wh K H x b) (h3 : Q (.bl b) H) : LZ K vs H Q E_3
inductive Kk (K : SR) (vs : List V) (H : Hp) (Q : VK) (E_3 : XK) : Prop
 | mk (x : _) (b : _) (h1 : vs = [x]) (h2 : Nb K H x b) (h3 : Q (.bl b) H) : Kk K vs H Q E_3
inductive Kj (K : SR) (vs : List V) (H : Hp) (Q : VK) (E_3 : XK) : Prop
 | mk (x : _) (b : _) (h1 : vs = [x]) (h2 : Pb K H x b) (h3 : ∀ H',Ae H H' → Q (.bl b) H') : Kj K vs H Q E_3
inductive GU (K : SR) (H : Hp) : V → Prop where
 | no {x : V} {t : Value} (ty : TyP K H x t) (h : PySem.W.kitAny K t [.type "list",.type "tuple"] = some false) : GU K H x
 | nil {b : Bool} {r : Addr} (h : Sq b K H r []) : GU K H (.ref r)
 | pt {b : Bool} {r : Addr} {xs : List V} {bs : List Bool} (h : Sq b K H r xs) (hp : Paired (Pb K H) xs bs) (hb : bs.all id = false) (h17 : xs.length ≤ 17) : GU K H (.ref r)
 | twice {b : Bool} {r : Addr} {xs : List V} {pss : List (List Rat)} (h : Sq b K H r xs) (hp : Bg K H xs pss) (h23 : P23 pss) (hnd : ¬ (pss.map fun ps=>ps.getD 0 0).Nodup) (h17 : pss.length ≤ 17) : GU K H (.ref r)
def NU (K : SR) (H : Hp) (x : V) : Prop:=∃ (b : Bool) (r : Addr) (xs : List V) (pss : List (List Rat)),x = .ref r ∧ Sq b K H r xs ∧ Bg K H xs pss ∧ P23 pss ∧ 1 ≤ pss.length ∧ (pss.map fun ps=>ps.getD 0 0).Nodup ∧ 12 < (BJ pss).length ∧ pss.length ≤ 17
inductive ET (K : SR) (CP CM : Addr) (vs : List V) (H : Hp) (E_2 : VK) (E : XK) : Prop
 | mk (x : V) (h1 : vs = [x]) (h2 : ((GU K H x ∧ ∀ H',Ae H H' → E (.ref CP) none H') ∨ (NU K H x ∧ ∀ H',Ae H H' → E (.ref CM) none H'))) : ET K CP CM vs H E_2 E
theorem TyP.same {K : SR} {H H' : Hp} {x : V} {t : Value} (h : TyP K H x t) (e : Ae H H') : TyP K H' x t:=by
 cases h with
 | non=>exact .non
 | bl x=>exact .bl x
 | int i=>exact .int i
 | str x=>exact .str x
 | lst q=>exact .lst (Ae.seq e q)
 | tup q=>exact .tup (q.same e)
 | dK q=>exact .dK (e _ _ q)
 | dT q=>exact .dT (e _ _ q)
theorem Ml {K : SR} {H : Hp} {xs : List V} {pss : List (List Rat)} (h : Bg K H xs pss) (h23 : P23 pss) : Paired (Pb K H) xs (TR pss.length true):=by
 induction h with
 | nil=>exact .nil
 | cons a _ ih=>exact .cons (Pb.of a.pt (h23 _ SX)) (ih fun ps hp=>h23 ps (SY _ hp))
structure Pok (K : SR) (H : Hp) (r : Addr) (xs : List V) (pss : List (List Rat)) : Prop where
 S : SqT K H r xs
 P : Bg K H xs pss
 h23 : P23 pss
 h1 : 1 ≤ pss.length
 nd : (pss.map fun ps=>ps.getD 0 0).Nodup
 h12 : (BJ pss).length ≤ 12
theorem Pok.same {K : SR} {H H' : Hp} {r : Addr} {xs : List V} {pss : List (List Rat)} (h : Pok K H r xs pss) (e : Ae H H') : Pok K H' r xs pss:=⟨h.S.same e,Bg.same h.P e,h.h23,h.h1,h.nd,h.h12⟩
theorem Pok.mv {K : SR} {p : Addr} {H H' : Hp} {r : Addr} {xs : List V} {pss : List (List Rat)} (h : Pok K H r xs pss) (pn : Pen H p) (m : Mv p H H') : Pok K H' r xs pss:=⟨h.S.mv pn m,Bg.mv h.P pn m,h.h23,h.h1,h.nd,h.h12⟩
inductive N0 (K : SR) (H : Hp) (pss : List (List Rat)) : V → Nat → Prop where
 | pt {y : V} (h : Pb K H y false) : N0 K H pss y 1
 | twice {y : V} {ps : List Rat} (h : PtT K H y ps) (h23 : ps.length = 2 ∨ ps.length = 3) (hm : ps.getD 0 0 ∈ pss.map fun ps=>ps.getD 0 0) : N0 K H pss y 1
 | many {y : V} {ps : List Rat} (h : PtT K H y ps) (h23 : ps.length = 2 ∨ ps.length = 3) (hm : ps.getD 0 0 ∉ pss.map fun ps=>ps.getD 0 0) (ht : 12 < (BJ (pss ++ [ps])).length) : N0 K H pss y 0
theorem Ex {pss : List (List Rat)} {ps : List Rat} (h : P23 pss) (h2 : ps.length = 2 ∨ ps.length = 3) : P23 (pss ++ [ps]):=fun qs hq=>by
 rcases T2.mp hq with z | z
 ·exact h qs z
 ·rw [Ut.mp z]; exact h2
def TkR (pss : List (List Rat)) (q : Rat) (n : Nat) : Prop:=(n = 2 ∧ q ∉ pss.map fun ps=>ps.getD 0 0) ∨ (n = 1 ∧ pss.length = 1 ∧ q ∈ pss.map fun ps=>ps.getD 0 0)
inductive Qp (K : SR) (H : Hp) (pss : List (List Rat)) (m : Nat) (ps : List Rat) : V → Nat → Prop where
 | pt {y : V} (h : Pb K H y false) : Qp K H pss m ps y 1
 | many {y : V} {qs : List Rat} (h : PtT K H y qs) (h0 : qs.getD 0 0 = ps.getD 0 0) (h23 : qs.length = 2 ∨ qs.length = 3) (ht : 12 < (BJ (pss.set m qs)).length) : Qp K H pss m ps y 0
def HtR (K : SR) (H : Hp) (pss : List (List Rat)) (q : Rat) (y : V) (n : Nat) : Prop:=(n = 2 ∧ q ∉ pss.map fun ps=>ps.getD 0 0) ∨ (n = 1 ∧ (q ∈ pss.map fun ps=>ps.getD 0 0) ∧ Nb K H y false)
inductive KO (K : SR) (H : Hp) (pss : List (List Rat)) (q : Rat) : V → Nat → Prop where
 | far {s : V} (h : q ∉ pss.map fun ps=>ps.getD 0 0) : KO K H pss q s 2
 | odd {s : V} (h : q ∈ pss.map fun ps=>ps.getD 0 0) (hs : Nb K H s false) (hn : s ≠ .non) : KO K H pss q s 1
 | many {s : V} {c : Rat} {m : Nat} {ps : List Rat} (hm : pss[m]? = some ps) (hq : ps.getD 0 0 = q) (hs : BC K H s c) (ht : 12 < (BJ (pss.set m (ps.take 2 ++ [c]))).length) : KO K H pss q s 0
inductive Rf (K : SR) (H : Hp) (pss : List (List Rat)) : Int → V → V → Nat → Prop where
 | put {x y : V} {n : Nat} (h : N0 K H pss y n) : Rf K H pss 0 x y n
 | out {x y : V} {q : Rat} {n : Nat} (hx : FD H x q) (h : TkR pss q n) : Rf K H pss 1 x y n
 | hgt {x y : V} {q : Rat} {n : Nat} (hx : FD H x q) (h : HtR K H pss q y n) : Rf K H pss 2 x y n
 | slo {x y : V} {q : Rat} {n : Nat} (hx : FD H x q) (h : KO K H pss q y n) : Rf K H pss 3 x y n
 | gain {x : V} {q : Rat} {k : Int} (hx : FD H x q) (h : (q,k) ∉ ((BJ pss).map fun t=>(t.x,t.k))) : Rf K H pss 4 x (.int k) 2
 | loss {x y : V} {q : Rat} {n : Nat} (hx : FD H x q) (h : TkR pss q n) : Rf K H pss 5 x y n
 | new {x y : V} {n : Nat} (h : N0 K H pss y n) : Rf K H pss 6 x y n
theorem MU {xs : List V} {i : Int} (h0 : 0 ≤ i) (h : i < (xs.length : Int)) : ∃ x,atI xs i = some x ∧ x ∈ xs:=by
 have hk : i.toNat < xs.length:=by lia
 have e : ((i.toNat : Nat) : Int) = i:=by lia
 have q : atI xs ((i.toNat : Nat) : Int) = some xs[i.toNat]:=AX (Uv hk)
 rw [e] at q
 exact ⟨_,q,Uw hk⟩
theorem JL (as bs : List (List Rat)) : BJ (as ++ bs) = BJ as ++ BJ bs:=by unfold BJ; rw [UQ,List.flatten_append]
def Fg (x : Rat) : Prop:=x.num.natAbs < 10 ^ 6 ∧ x.den < 10 ^ 6
theorem K8 {t b : Int} (hb : b ≠ 0) (ht : t.natAbs < 10 ^ 6) (hb' : b.natAbs < 10 ^ 6) : Fg (Uj t b):=by
 refine ⟨?_,?_⟩
 ·rw [← Nm.top_msr hb]
  exact Ug (PySem.natAbs_fdiv_le t _) ht
 ·have h : (((Uj t b).den : Nat) : Int).natAbs < 10 ^ 6:=by
   rw [← Nm.bottom_msr hb]
   exact Ug (PySem.natAbs_fdiv_le b _) hb'
  simpa using h
theorem Fb {i : Int} (h : i.natAbs < 10 ^ 6) : i.natAbs.log2 < 1920:=by
 by_cases h0 : i.natAbs = 0
 ·rw [h0]; decide +kernel
 ·have:=(Nat.log2_lt (k:=200) h0).mpr (by lia); lia
theorem DP {i : Int} (h : i.natAbs < 10 ^ 6) : (txI i).length ≤ 61:=by
 rw [AE]
 rcases D0 i with ⟨n,e,hs⟩ | ⟨n,hp,e,hs⟩
 ·rw [hs]
  exact SU (GL (k:=6) (by decide) (by lia)) (by decide)
 ·rw [hs,Tq]
  have:=GL (n:=n) (k:=6) (by decide) (by lia)
  lia
theorem Iu {x : Rat} (h : Fg x) : (tx x).length ≤ 123:=by
 have h1:=DP h.1
 have h2:=DP (i:=(x.den : Int)) (by have:=h.2; lia)
 unfold tx
 split
 ·lia
 ·have l3 : (Str.ofString "/").length = 1:=by rw [AE,BP]; rfl
  rw [AE,AL,AL,U4,U4,← AE,← AE,← AE]
  lia
theorem Pc {c : Nat} (h1 : 48 ≤ c) (h2 : c ≤ 57) : (!(Builtin.Str.occurrences (Str.ofString "0123456789") ⟨#[c]⟩ 0 (Str.ofString "0123456789").length 1).isEmpty) = true:=by
 rw [PyProof.Rows.empty_one,Bool.not_not]
 refine decide_eq_true ?_
 show c ∈ sg _
 rw [BP]
 have : c = 48 ∨ c = 49 ∨ c = 50 ∨ c = 51 ∨ c = 52 ∨ c = 53 ∨ c = 54 ∨ c = 55 ∨ c = 56 ∨ c = 57:=by lia
 rcases this with rfl | rfl | rfl | rfl | rfl | rfl | rfl | rfl | rfl | rfl <;> decide
theorem DF : sg (Str.ofString "-") = [45]:=by rw [BP]; rfl
theorem JO {t : Str} {r : List Nat} (h : sg t = 45 :: r) : Txt.startswith t (Str.ofString "-") = true:=by
 unfold Txt.startswith
 rw [StrLaws.subAt_eq,AE,AE t,DF,h]
 show (decide (0 + 1 ≤ (45 :: r).length) && ((((sg t).drop 0).take 1) == sg (Str.ofString "-"))) = true
 rw [h,DF]
 simp
theorem La {t : Str} {c : Nat} {r : List Nat} (h : sg t = c :: r) (hc : c ≠ 45) : Txt.startswith t (Str.ofString "-") = false:=by
 unfold Txt.startswith
 rw [StrLaws.subAt_eq,AE,AE t,DF,h]
 show (decide (0 + 1 ≤ (c :: r).length) && ((((sg t).drop 0).take 1) == sg (Str.ofString "-"))) = false
 rw [h,DF]
 simp [hc]
theorem Jc (xs : List Rat) : ((xs.map nD).any fun y=>PyData.eqv y .none) = false:=by
 induction xs with
 | nil=>rfl
 | cons x r ih=>rw [Tu,Uc,ih]; rfl
inductive ER (K : SR) (vs : List V) (H : Hp) (Q : VK) (E_3 : XK) : Prop
 | mk (x : V) (q : Rat) (h1 : vs = [x]) (h2 : BC K H x q) (h3 : Fg q) (h4 : Q (.str (tx q)) H) : ER K vs H Q E_3
inductive Hs (vs : List V) (H : Hp) (Q : VK) (E_3 : XK) : Prop
 | mk (t : Str) (h1 : vs = [.str t]) (h2 : Q .non H) : Hs vs H Q E_3
inductive D8 (K : SR) (vs : List V) (H : Hp) (Q : VK) (E_3 : XK) : Prop
 | mk (l : Addr) (xs : List Rat) (h1 : vs = [.ref l,.int 6]) (h2 : SqL K H l (xs.map fun x=>V.str (tx x))) (h3 : (∀ x ∈ xs,Fg x)) (h4 : xs.length ≤ 10000) (h5 : ∀ p ys H',Ae H H' → H p = none → H' p = some (.lst ys) → Bl H' ys xs → Q (.ref p) H') : D8 K vs H Q E_3
def CI : Str:=Str.ofString ":"
def Bw : Str:=Str.ofString ", "
theorem Dd : sg CI = [58]:=by unfold CI; rw [BP]; rfl
theorem CC : sg Bw = [44,32]:=by unfold Bw; rw [BP]; rfl
theorem Cc : CI.length = 1:=by rw [AE,Dd]; rfl
theorem BH : Bw.length = 2:=by rw [AE,CC]; rfl
theorem MF {x : Str} (h : ∀ c ∈ sg x,c < 256) : Builtin.Str.strKind x = 1:=by
 unfold Builtin.Str.strKind
 rw [if_pos]
 rw [V8]
 intro c hc
 exact decide_eq_true (h c (by simpa [sg] using hc))
def ptx (ps : List Rat) : Str:=Str.join CI (ps.map tx)
def Av (pss : List (List Rat)) : Str:=Str.join Bw (pss.map ptx)
theorem DC {ps : List Rat} (h : ps ≠ []) : Txt.split (ptx ps) CI = ps.map tx:=by
 unfold ptx
 cases ps with
 | nil=>exact absurd rfl h
 | cons x r =>
   rw [Tu]
   exact Ed (c:=58) Dd (MF (by rw [Dd]; decide)) _ _ (by
    rw [← Tu (f:=tx)]
    intro u hu
    obtain ⟨y,_,rfl⟩:=V4.mp hu
    exact HL y (by decide))
theorem DB {pss : List (List Rat)} (h : pss ≠ []) : Txt.split (Av pss) Bw = pss.map ptx:=by
 unfold Av
 cases pss with
 | nil=>exact absurd rfl h
 | cons x r =>
   rw [Tu]
   exact Ed (c:=44) CC (MF (by rw [CC]; decide)) _ _ (by
    rw [← Tu (f:=ptx)]
    intro u hu
    obtain ⟨y,_,rfl⟩:=V4.mp hu
    exact Fh (by rw [Dd]; decide) fun t ht=>by
     obtain ⟨z,_,rfl⟩:=V4.mp ht
     exact HL z (by decide))
theorem HK {qs : List Rat} (h : ∀ q ∈ qs,Fg q) : ∀ t ∈ qs.map tx,t.length ≤ 123:=fun t ht=>by
 obtain ⟨x,hx,rfl⟩:=V4.mp ht
 exact Iu (h x hx)
theorem FF {ps : List Rat} (h : ∀ q ∈ ps,Fg q) (h3 : ps.length ≤ 3) : (ptx ps).length ≤ 375:=by
 have:=DQ (sep:=CI) (by rw [Cc]; decide) (HK h)
 rw [Tx] at this
 unfold ptx
 lia
theorem De {pss : List (List Rat)} (h : ∀ ps ∈ pss,∀ q ∈ ps,Fg q) (h3 : P23 pss) : ∀ t ∈ pss.map ptx,t.length ≤ 375:=fun t ht=>by
 obtain ⟨x,hx,rfl⟩:=V4.mp ht
 exact FF (h x hx) (by rcases h3 x hx with z | z <;> lia)
inductive HN (K : SR) (sep : Str) (vs : List V) (H : Hp) (Q : VK) (E_3 : XK) : Prop
 | mk (r : Addr) (xs : List V) (qs : List Rat) (h1 : vs = [.ref r]) (h2 : SqT K H r xs) (h3 : C7 K H xs qs) (h4 : (∀ q ∈ qs,Fg q)) (h5 : qs.length ≤ 100) (h6 : ∀ H',Ae H H' → Q (.str (Str.join sep (qs.map tx))) H') : HN K sep vs H Q E_3
inductive DW (K : SR) (vs : List V) (H : Hp) (Q : VK) (E_3 : XK) : Prop
 | mk (r : Addr) (xs : List V) (pss : List (List Rat)) (h1 : vs = [.ref r]) (h2 : SqT K H r xs) (h3 : Pts K H xs pss) (h4 : P23 pss) (h5 : (∀ ps ∈ pss,∀ q ∈ ps,Fg q)) (h6 : pss.length ≤ 100) (h7 : ∀ H',Ae H H' → Q (.str (Av pss)) H') : DW K vs H Q E_3
inductive Ep (K : SR) (vs : List V) (H : Hp) (Q : VK) (E_3 : XK) : Prop
 | mk (pss : List (List Rat)) (h1 : vs = [.str (Av pss),.int 6]) (h2 : 1 ≤ pss.length) (h3 : P23 pss) (h4 : (∀ ps ∈ pss,∀ q ∈ ps,Fg q)) (h5 : (pss.map fun ps=>ps.getD 0 0).Nodup) (h6 : (BJ pss).length ≤ 12) (h7 : ∀ p xs H',Ae H H' → SqT K H' p xs → Bg K H' xs pss → Q (.ref p) H') : Ep K vs H Q E_3
inductive FV (vs : List V) (H : Hp) (Q : VK) (E_3 : XK) : Prop
 | mk (a : _) (h1 : vs = [.ref a]) (h2 : Pen H a) (h3 : ∀ (q : Rat) (r : Addr) (H' : Hp),Mv a H H' → Pen H' a → H' r = some (nT q) → Fg q → Q (.ref r) H') : FV vs H Q E_3
inductive DD (K : SR) (vs : List V) (H : Hp) (Q : VK) (E_3 : XK) : Prop
 | mk (r l : Addr) (xs : List V) (pss : List (List Rat)) (h1 : vs = [.ref r,.ref l]) (h2 : SqT K H r xs) (h3 : Pts K H xs pss) (h4 : P23 pss) (h5 : (∀ ps ∈ pss,∀ q ∈ ps,Fg q)) (h6 : pss.length ≤ 100) (h7 : ∀ H',Ae H H' → Q (.str (Av pss)) H') : DD K vs H Q E_3
def wd : Nat → Str
 | 0=>"put"
 | 1=>"take"
 | 2=>"height"
 | 3=>"slope"
 | 4=>"noslope"
 | _=>"points"
def loW : Nat → Nat
 | 0=>2
 | 1=>1
 | 2=>2
 | 3=>2
 | 4=>1
 | _=>0
def hiW : Nat → Nat
 | 0=>3
 | 1=>1
 | 2=>2
 | 3=>2
 | 4=>1
 | _=>0
inductive DY (K : SR) (vs : List V) (H : Hp) (Q : VK) (E_3 : XK) : Prop
 | mk (l : Addr) (i : Nat) (qs : List Rat) (h1 : vs = [.ref l]) (h2 : SqL K H l (.str (wd i) :: qs.map fun x=>V.str (tx x))) (h3 : i < 6) (h4 : loW i ≤ qs.length) (h5 : qs.length ≤ hiW i) (h6 : (∀ q ∈ qs,Fg q)) (h7 : ∀ (p : Addr) (ys : List V) (H' : Hp),Ae H H' → H p = none → H' p = some (.lst ys) → Bl H' ys qs → Q (.ref p) H') : DY K vs H Q E_3
inductive Chg (pss : List (List Rat)) (qs : List Rat) : Nat → Except Nat (List (List Rat)) → Prop
 | put2 (h : qs.getD 0 0 ∈ pss.map fun ps=>ps.getD 0 0) : Chg pss qs 0 (.error 1)
 | putM (h : qs.getD 0 0 ∉ pss.map fun ps=>ps.getD 0 0) (ht : 12 < (BJ (pss ++ [qs])).length) : Chg pss qs 0 (.error 0)
 | put (h : qs.getD 0 0 ∉ pss.map fun ps=>ps.getD 0 0) (ht : (BJ (pss ++ [qs])).length ≤ 12) : Chg pss qs 0 (.ok (pss ++ [qs]))
 | far {i : Nat} (hi : 1 ≤ i) (h : qs.getD 0 0 ∉ pss.map fun ps=>ps.getD 0 0) : Chg pss qs i (.error 2)
 | only (h : qs.getD 0 0 ∈ pss.map fun ps=>ps.getD 0 0) (h1 : pss.length = 1) : Chg pss qs 1 (.error 1)
 | take {m : Nat} {ps : List Rat} (hm : pss[m]? = some ps) (h0 : ps.getD 0 0 = qs.getD 0 0) (h2 : 2 ≤ pss.length) : Chg pss qs 1 (.ok (pss.take m ++ pss.drop (m + 1)))
 | height {m : Nat} {ps : List Rat} (hm : pss[m]? = some ps) (h0 : ps.getD 0 0 = qs.getD 0 0) : Chg pss qs 2 (.ok (pss.set m ([ps.getD 0 0,qs.getD 1 0] ++ ps.drop 2)))
 | slopeM {m : Nat} {ps : List Rat} (hm : pss[m]? = some ps) (h0 : ps.getD 0 0 = qs.getD 0 0) (ht : 12 < (BJ (pss.set m (ps.take 2 ++ [qs.getD 1 0]))).length) : Chg pss qs 3 (.error 0)
 | slope {m : Nat} {ps : List Rat} (hm : pss[m]? = some ps) (h0 : ps.getD 0 0 = qs.getD 0 0) (ht : (BJ (pss.set m (ps.take 2 ++ [qs.getD 1 0]))).length ≤ 12) : Chg pss qs 3 (.ok (pss.set m (ps.take 2 ++ [qs.getD 1 0])))
 | noslope {m : Nat} {ps : List Rat} (hm : pss[m]? = some ps) (h0 : ps.getD 0 0 = qs.getD 0 0) : Chg pss qs 4 (.ok (pss.set m (ps.take 2)))
def dk (C dx r : Addr) : HO:=.ins C dx [("points",.ref r)]
def But (p : Addr) (H H' : Hp) : Prop:=∀ b o,b ≠ p → H b = some o → H' b = some o
inductive Dm (K : SR) (C : Addr) (vs : List V) (H : Hp) (Q : VK) (E_3 : XK) : Prop
 | mk (p dx : Addr) (pss : List (List Rat)) (h1 : vs = [.ref p,.str (Av pss)]) (h2 : H p = some (.ins C dx [])) (h3 : 1 ≤ pss.length) (h4 : P23 pss) (h5 : (∀ ps ∈ pss,∀ q ∈ ps,Fg q)) (h6 : (pss.map fun ps=>ps.getD 0 0).Nodup) (h7 : (BJ pss).length ≤ 12) (h8 : ∀ (r : Addr) (xs : List V) (H' : Hp),But p H H' → H' p = some (dk C dx r) → Pok K H' r xs pss → Q .non H') : Dm K C vs H Q E_3
theorem AI.up {P : Program} {w : World} {K : SR} {mg : Str → Option Value} {base : Heap} {CX : CXT} {k n : Nat} {f : Addr} {fd : FuncData} {ps : List Str} {sp : Sp} (F : AI P w K mg base CX k f fd ps sp) (h : k ≤ n) : AI P w K mg base CX n f fd ps sp:=⟨F.len,fun A outer s H args us vs Q E hr=>F.run A outer s H args us vs Q E (hr.mono h)⟩
theorem SqT.but {K : SR} {H : Hp} {p r C dx : Addr} {fs : List (Str × V)} {xs : List V} {o : HO} (h : SqT K H r xs) (hp : H p = some (.ins C dx fs)) : SqT K (upd H p o) r xs:=by
 rcases h with h | h
 ·refine .inl ?_
  rcases h with h | ⟨ob,h⟩
  ·exact .inl (by rw [As (DN h hp (by intro z; cases z))]; exact h)
  ·exact .inr ⟨ob,by rw [As (DN h hp (by intro z; cases z))]; exact h⟩
 ·exact .inr h
theorem BC.but {K : SR} {H : Hp} {p C dx : Addr} {fs : List (Str × V)} {v : V} {q : Rat} {o : HO} (h : BC K H v q) (hp : H p = some (.ins C dx fs)) : BC K (upd H p o) v q:=by
 obtain ⟨r,e,h⟩:=h
 exact ⟨r,e,SqT.but h hp⟩
theorem Bg.but {K : SR} {H : Hp} {p C dx : Addr} {fs : List (Str × V)} {xs : List V} {pss : List (List Rat)} {o : HO} (h : Bg K H xs pss) (hp : H p = some (.ins C dx fs)) : Bg K (upd H p o) xs pss :=
 Paired.mapP h fun _ _ z=>by
  obtain ⟨a,us,r,e,hs,hn,h0,hr⟩:=z
  exact ⟨a,us,r,e,SqT.but hs hp,Paired.mapP hn fun _ _ z=>BC.but z hp,h0,by rw [As (DN hr hp (by intro z; cases z))]; exact hr⟩
theorem MK {t b : Int} {j : Nat} (h1 : 0 < b) (h2 : b ≤ 3) (h3 : t.natAbs ≤ 20) (hj : j ≤ 100) : Fg (Uj t b + (j : Rat)):=by
 have n1 : (Uj t b).num.natAbs ≤ 20:=by rw [← Nm.top_msr (by lia)]; exact SU (PySem.natAbs_fdiv_le t _) h3
 have n2 : (((Uj t b).den : Nat) : Int).natAbs ≤ 3:=by rw [← Nm.bottom_msr (by lia)]; exact SU (PySem.natAbs_fdiv_le b _) (by lia)
 have n3:=(Uj t b).den_pos
 rw [← Nm.plus_eq,Rat.num_natCast,Rat.den_natCast]
 generalize (Uj t b).num = u at n1
 generalize (Uj t b).den = v at n2 n3
 have hm : (j : Int) * (v : Int) ≤ 100 * 3:=Int.mul_le_mul (by lia) (by lia) (by lia) (by decide)
 have hm0 : 0 ≤ (j : Int) * (v : Int):=Int.mul_nonneg (by lia) (by lia)
 exact K8 (by lia) (by lia) (by lia)
inductive HS (K : SR) (vs : List V) (H : Hp) (Q : VK) (E_3 : XK) : Prop
 | mk (a l : Addr) (zs : List V) (qs : List Rat) (h1 : vs = [.ref a,.ref l]) (h2 : Pen H a) (h3 : l ≠ a) (h4 : H l = some (.lst zs)) (h5 : C7 K H zs qs) (h6 : qs.length ≤ 50) (h7 : ∀ (r : Addr) (x : Rat) (H' : Hp),Mv a H H' → Pen H' a → H' r = some (nT x) → x ∉ qs → Fg x → Q (.ref r) H') : HS K vs H Q E_3
inductive EU (K : SR) (vs : List V) (H : Hp) (Q : VK) (E_3 : XK) : Prop
 | mk (a : Addr) (most : Int) (h1 : vs = [.ref a,.int most]) (h2 : Pen H a) (h3 : 1 ≤ most) (h4 : most ≤ 12) (h5 : ∀ (r : Addr) (xs : List V) (pss : List (List Rat)) (H' : Hp),Mv a H H' → Pen H' a → Pok K H' r xs pss → (∀ ps ∈ pss,∀ q ∈ ps,Fg q) → ((BJ pss).length : Int) ≤ most → Q (.ref r) H') : EU K vs H Q E_3
def wi : Nat → Nat
 | 0=>0
 | n + 1=>n
theorem NB {l : List Rat} {k : Nat} (h : k < l.length) : l.getD k 0 ∈ l:=by
 rw [Uq,Uv h]; exact Uw h
structure Pq (pss : List (List Rat)) : Prop where
 h23 : P23 pss
 h1 : 1 ≤ pss.length
 nd : (pss.map fun ps=>ps.getD 0 0).Nodup
 h12 : (BJ pss).length ≤ 12
 fg : ∀ ps ∈ pss,∀ q ∈ ps,Fg q
theorem Pok.pq {K : SR} {H : Hp} {r : Addr} {xs : List V} {pss : List (List Rat)} (h : Pok K H r xs pss) (hf : ∀ ps ∈ pss,∀ q ∈ ps,Fg q) : Pq pss:=⟨h.h23,h.h1,h.nd,h.h12,hf⟩
theorem Lf : Txt.split (Str.ofString "points") (Str.ofString " ") = wd 5 :: ([] : List Rat).map tx:=by
 have e : Str.ofString " " = ⟨#[32]⟩:=by apply Ca; rw [BP]; rfl
 rw [e]
 exact IS (by rw [BP]; decide +kernel)
theorem Nh : (Str.ofString "points").length + 2 ≤ sizeLine:=by decide +kernel
theorem OQ (K : SR) : TF K (.type "tuple") (.type "str") = some false:=by kernel_rfl
def CH (l : List Nat) : Bool:=!l.isEmpty && decide (l.length ≤ 6) && !(l.head? == some 48 && decide (1 < l.length)) && l.all fun c=>decide (48 ≤ c) && decide (c ≤ 57)
def CO : List Nat → Bool
 | 45 :: r=>!(r == [48]) && CH r
 | l=>CH l
def BR : List Nat → Int
 | 45 :: r=>-(vl r 0 : Int)
 | l=>(vl l 0 : Int)
def ni (t : Str) : Option (Int × Nat) :=
 match Txt.split t (Str.ofString "/") with
 | [p]=>if CO (sg p) = true then some (BR (sg p),1) else none
 | [p,q]=>if (CO (sg p) && !(sg q == [49]) && CH (sg q) && decide (0 < vl (sg q) 0) && decide (V9 (BR (sg p)).natAbs (vl (sg q) 0) = 1)) = true then some (BR (sg p),vl (sg q) 0) else none
 | _=>none
theorem LJ : ∀ (l : List Nat) (a c : Nat),vl (l ++ [c]) a = vl l a * 10 + (c - 48)
 | [],_,_=>rfl
 | d :: r,a,c=>LJ r (a * 10 + (d - 48)) c
theorem LI : ∀ {l : List Nat} {a : Nat},0 < a → 0 < vl l a
 | [],_,h=>h
 | c :: r,a,h=>LI (l:=r) (a:=a * 10 + (c - 48)) (by lia)
theorem HD : ∀ (n : Nat) (l : List Nat),l.length = n → l ≠ [] → (∀ c ∈ l,48 ≤ c ∧ c ≤ 57) → (∀ r,l = 48 :: r → r = []) → dg (vl l 0) = l
 | 0,l,hn,hne,_,_=>absurd (US.mp hn) hne
 | n + 1,l,hn,hne,hd,h0=>by
   obtain ⟨p,c,rfl⟩ : ∃ p c,l = p ++ [c]:=⟨l.dropLast,l.getLast hne,(List.dropLast_concat_getLast hne).symm⟩
   rw [LJ]
   have hc:=hd c (Tb _ (Ut.mpr rfl))
   have key : ∀ m,m < 10 → (V5 m).toNat = m + 48:=by decide
   by_cases hp : p = []
   ·subst hp
    have e : vl [] 0 * 10 + (c - 48) = c - 48:=by show 0 * 10 + _ = _; lia
    rw [e,Jv (by lia),key _ (by lia),Nat.sub_add_cancel hc.1]; rfl
   ·have hd' : ∀ d ∈ p,48 ≤ d ∧ d ≤ 57:=fun d h=>hd d (T3 _ h)
    obtain ⟨d,r,rfl⟩ : ∃ d r,p = d :: r:=by
     cases p with
     | nil=>exact absurd rfl hp
     | cons d r=>exact ⟨d,r,rfl⟩
    have hd48 : d ≠ 48:=fun z=>by subst z; have:=h0 _ rfl; simp at this
    have hdd:=hd' d (SX ..)
    have ih:=HD n (d :: r) (by simp at hn; exact hn) hp hd' (fun r' e=>absurd (Uy.inj e).1 hd48)
    have hpos : 0 < vl (d :: r) 0:=LI (l:=r) (a:=0 * 10 + (d - 48)) (by lia)
    rw [KD (by lia)]
    have e1 : (vl (d :: r) 0 * 10 + (c - 48)) / 10 = vl (d :: r) 0:=by lia
    have e2 : (vl (d :: r) 0 * 10 + (c - 48)) % 10 = c - 48:=by lia
    rw [e1,e2,ih,key _ (by lia),Nat.sub_add_cancel hc.1]
theorem Di {l : List Nat} : CH l = true ↔ l ≠ [] ∧ l.length ≤ 6 ∧ (∀ c ∈ l,48 ≤ c ∧ c ≤ 57) ∧ ∀ r,l = 48 :: r → r = []:=by
 unfold CH
 rw [Bool.and_eq_true,Bool.and_eq_true,Bool.and_eq_true,Um]
 constructor
 ·rintro ⟨⟨⟨h1,h2⟩,h3⟩,h4⟩
  refine ⟨fun z=>by rw [z] at h1; simp at h1,of_decide_eq_true h2,fun c hc=>by have:=h4 c hc; simpa using this,fun r hr=>?_⟩
  rw [hr] at h3
  cases r with
  | nil=>rfl
  | cons c r=>simp at h3
 ·rintro ⟨h1,h2,h3,h4⟩
  refine ⟨⟨⟨by cases l; exact absurd rfl h1; rfl,decide_eq_true h2⟩,?_⟩,fun c hc=>by have:=h3 c hc; simpa using this⟩
  cases l with
  | nil=>exact absurd rfl h1
  | cons c r =>
    by_cases hc : c = 48
    ·subst hc; rw [h4 r rfl]; rfl
    ·simp [hc]
theorem FK {l : List Nat} (h : CH l = true) : l = dg (vl l 0) ∧ vl l 0 < 10 ^ 6:=by
 obtain ⟨h1,h2,h3,h4⟩:=Di.mp h
 have e:=HD _ l rfl h1 h3 h4
 refine ⟨e.symm,?_⟩
 have:=(Nat.length_toDigits_le_iff (b:=10) (n:=vl l 0) (k:=6) (by decide) (by decide)).mp (by
  have e' : ((Nat.toDigits 10 (vl l 0)).map Char.toNat).length = l.length:=congrArg TV e
  rw [Tx] at e'; lia)
 exact this
theorem Iw {n : Nat} (h : n < 10 ^ 6) : CH (dg n) = true:=Di.mpr ⟨HE n,GL (by decide) h,fun _ hc=>Dj hc,fun r hr=>by
 have z:=FN hr
 subst z
 exact (Uy.inj hr).2.symm⟩
theorem LP {i : Int} (h : i.natAbs < 10 ^ 6) : CO (sg (txI i)) = true ∧ BR (sg (txI i)) = i:=by
 rcases D0 i with ⟨n,e,hs⟩ | ⟨n,hp,e,hs⟩
 ·rw [hs]
  obtain ⟨c,r,ec⟩ : ∃ c r,dg n = c :: r:=by
   cases hc : dg n with
   | nil=>exact absurd hc (HE n)
   | cons c r=>exact ⟨c,r,rfl⟩
  have hc:=Dj (n:=n) (c:=c) (by rw [ec]; simp)
  have h45 : c ≠ 45:=by lia
  have t1 : CO (c :: r) = CH (c :: r):=by unfold CO; split; exact absurd (Uy.inj ‹_›).1 h45; rfl
  have t2 : BR (c :: r) = (vl (c :: r) 0 : Int):=by unfold BR; split; exact absurd (Uy.inj ‹_›).1 h45; rfl
  have f:=Iw (n:=n) (by lia)
  have v:=Hn n
  rw [ec] at f v ⊢
  exact ⟨by rw [t1,f],by rw [t2,v,e]⟩
 ·rw [hs]
  have f:=Iw (n:=n) (by lia)
  refine ⟨?_,?_⟩
  ·show (!(dg n == [48]) && CH (dg n)) = true
   rw [f,Bool.and_true,Bool.not_eq_true']
   refine beq_eq_false_iff_ne.mpr fun z=>?_
   have:=FN z
   lia
  ·show -(vl (dg n) 0 : Int) = i
   rw [Hn,e]
theorem En {t : Str} (h : CO (sg t) = true) : t = txI (BR (sg t)) ∧ (BR (sg t)).natAbs < 10 ^ 6:=by
 by_cases hm : ∃ r,sg t = 45 :: r
 ·obtain ⟨r,hr⟩:=hm
  rw [hr] at h ⊢
  have h' : (!(r == [48]) && CH r) = true:=h
  rw [Bool.and_eq_true] at h'
  obtain ⟨e,hl⟩:=FK h'.2
  have hp : 0 < vl r 0:=Nat.pos_of_ne_zero fun z=>by
   have e':=e
   rw [z] at e'
   have : r = [48]:=e'.trans (by decide)
   rw [this] at h'
   simp at h'
  refine ⟨Ca ?_,?_⟩
  ·show sg t = sg (txI (-(vl r 0 : Int)))
   rw [M5 hp,hr,← e]
  ·show (-(vl r 0 : Int)).natAbs < 10 ^ 6
   lia
 ·have t1 : CO (sg t) = CH (sg t):=by unfold CO; split; exact absurd ⟨_,‹_›⟩ hm; rfl
  have t2 : BR (sg t) = (vl (sg t) 0 : Int):=by unfold BR; split; exact absurd ⟨_,‹_›⟩ hm; rfl
  rw [t1] at h
  obtain ⟨e,hl⟩:=FK h
  rw [t2]
  exact ⟨Ca (by rw [FX,← e]),by lia⟩
theorem Jd {q : Rat} (h : Fg q) : ni (tx q) = some (q.num,q.den):=by
 obtain ⟨h1,h2⟩:=LP h.1
 unfold ni
 rw [LL]
 by_cases hd : q.den = 1
 ·rw [if_pos hd]
  show (if CO (sg (txI q.num)) = true then some (BR (sg (txI q.num)),1) else none) = _
  rw [if_pos h1,h2,hd]
 ·rw [if_neg hd]
  show (if (CO (sg (txI q.num)) && !(sg (txI (q.den : Int)) == [49]) && CH (sg (txI (q.den : Int))) && decide (0 < vl (sg (txI (q.den : Int))) 0) && decide (V9 (BR (sg (txI q.num))).natAbs (vl (sg (txI (q.den : Int))) 0) = 1)) = true then some (BR (sg (txI q.num)),vl (sg (txI (q.den : Int))) 0) else none) = _
  rw [FX,Hn,h1,h2,Iw h.2,decide_eq_true q.den_pos,decide_eq_true (show V9 q.num.natAbs q.den = 1 from q.reduced)]
  have e1 : (dg q.den == [49]) = false:=beq_eq_false_iff_ne.mpr fun z=>hd (by have z2:=Hn q.den; rw [z] at z2; exact z2.symm)
  rw [e1]; rfl
theorem Ip {t : Str} {a : Int} {b : Nat} (h : ni t = some (a,b)) : ∃ q : Rat,Fg q ∧ t = tx q ∧ q.num = a ∧ q.den = b:=by
 have hj:=StrLaws.join_split t (Str.ofString "/")
 unfold ni at h
 split at h
 ·rename_i p e
  rw [e,PyProof.Rows.join_one] at hj
  split at h
  ·rename_i ht
   obtain ⟨e1,e2⟩:=En ht
   cases h
   refine ⟨((BR (sg p) : Int) : Rat),⟨by rw [Rat.num_intCast]; exact e2,by rw [Rat.den_intCast]; decide⟩,?_,Rat.num_intCast _,Rat.den_intCast _⟩
   unfold tx
   rw [if_pos (Rat.den_intCast _),Rat.num_intCast,← hj,← e1]
  ·cases h
 ·rename_i p q e
  rw [e,PyProof.Rows.join_cons_cons,PyProof.Rows.join_one] at hj
  split at h
  ·rename_i ht
   simp only [Bool.and_eq_true,decide_eq_true_eq] at ht
   obtain ⟨⟨⟨⟨h1,h2⟩,h3⟩,h4⟩,h5⟩:=ht
   obtain ⟨e1,e2⟩:=En h1
   obtain ⟨e3,e4⟩:=FK h3
   cases h
   refine ⟨⟨BR (sg p),vl (sg q) 0,by lia,h5⟩,⟨e2,e4⟩,?_,rfl,rfl⟩
   have hn1 : ¬ vl (sg q) 0 = 1:=fun z=>by
    rw [z] at e3
    rw [e3] at h2
    exact absurd h2 (by decide)
   unfold tx
   show t = if vl (sg q) 0 = 1 then _ else txI (BR (sg p)) ++ Str.ofString "/" ++ txI (vl (sg q) 0 : Int)
   rw [if_neg hn1,← e1,← hj]
   congr 1
   exact Ca (by rw [FX,← e3])
  ·cases h
 ·cases h
def Tg (t : Str) : Prop:=(∀ c ∈ sg t,c < 128) ∧ t.length ≤ 5000
def fgB (c : Nat) : Bool:=decide (48 ≤ c) && decide (c ≤ 57)
theorem MJ (c : Nat) : (!(Builtin.Str.occurrences (Str.ofString "0123456789") ⟨#[c]⟩ 0 (Str.ofString "0123456789").length 1).isEmpty) = fgB c:=by
 by_cases h : 48 ≤ c ∧ c ≤ 57
 ·rw [Pc h.1 h.2]; unfold fgB; rw [decide_eq_true h.1,decide_eq_true h.2]; rfl
 ·rw [PyProof.Rows.empty_one,Bool.not_not]
  have e : fgB c = false:=by
   unfold fgB
   rw [Bool.and_eq_false_iff]
   by_cases h1 : 48 ≤ c
   ·exact .inr (decide_eq_false fun z=>h ⟨h1,z⟩)
   ·exact .inl (decide_eq_false h1)
  rw [e]
  refine decide_eq_false fun z=>h ?_
  have z' : c ∈ sg (Str.ofString "0123456789"):=z
  rw [BP] at z'
  have : c = 48 ∨ c = 49 ∨ c = 50 ∨ c = 51 ∨ c = 52 ∨ c = 53 ∨ c = 54 ∨ c = 55 ∨ c = 56 ∨ c = 57:=by simpa using z'
  rcases this with rfl | rfl | rfl | rfl | rfl | rfl | rfl | rfl | rfl | rfl <;> exact ⟨by decide,by decide⟩
theorem Lb (t : Str) : Txt.startswith t (Str.ofString "-") = ((sg t).head? == some 45):=by
 cases h : sg t with
 | nil =>
   unfold Txt.startswith
   rw [StrLaws.subAt_eq,AE,AE t,DF,h]; rfl
 | cons c r =>
   by_cases hc : c = 45
   ·subst hc; rw [JO h]; rfl
   ·rw [La h hc]; simp [hc]
theorem Jm {sep : Str} : ∀ {ts : List Str} {x : Str},x ∈ ts → (∀ c ∈ sg x,c ∈ sg (Str.join sep ts)) ∧ x.length ≤ (Str.join sep ts).length
 | [y],x,h=>by rw [Ut.mp h,PyProof.Rows.join_one]; exact ⟨fun _ hc=>hc,T9 _⟩
 | y :: z :: r,x,h=>by
   have es : sg (Str.join sep (y :: z :: r)) = sg y ++ sg sep ++ sg (Str.join sep (z :: r)):=by rw [PyProof.Rows.join_cons_cons,AL,AL]
   have el : (Str.join sep (y :: z :: r)).length = (sg y).length + (sg sep).length + (Str.join sep (z :: r)).length:=by rw [AE,es,U4,U4,← AE (Str.join sep (z :: r))]
   rw [es,el]
   rcases T1.mp h with e | e
   ·rw [e]
    exact ⟨fun c hc=>T3 _ (T3 _ hc),by rw [AE]; lia⟩
   ·have ih:=Jm (sep:=sep) e
    exact ⟨fun c hc=>Tb _ (ih.1 c hc),by have:=ih.2; lia⟩
theorem IT (t sep : Str) : Txt.split t sep ≠ []:=by
 unfold Txt.split
 split
 ·exact Va _ _
 ·split
  ·exact Va _ _
  ·intro z
   have z:=congrArg TV z
   rw [PyProof.Rows.len_partsBetween] at z
   exact absurd z (Nat.succ_ne_zero _)
theorem Eo {t sep : Str} (h : Tg t) : ∀ x ∈ Txt.split t sep,Tg x:=fun x hx=>by
 have hj:=StrLaws.join_split t sep
 have hm:=Jm (sep:=sep) hx
 rw [hj] at hm
 exact ⟨fun c hc=>h.1 c (hm.1 c hc),SU hm.2 h.2⟩
theorem LQ {q : Rat} (h : Fg q) : Tg (tx q):=by
 have hI : ∀ i : Int,∀ c ∈ sg (txI i),c < 128:=fun i c hc=>by
  rcases D0 i with ⟨n,_,hs⟩ | ⟨n,_,_,hs⟩
  ·rw [hs] at hc; have:=Dj hc; lia
  ·rw [hs] at hc
   rcases T1.mp hc with z | z
   ·lia
   ·have:=Dj z; lia
 refine ⟨fun c hc=>?_,SU (Iu h) (by decide)⟩
 unfold tx at hc
 split at hc
 ·exact hI _ c hc
 ·rw [AL,AL] at hc
  rcases T2.mp hc with z | z
  ·rcases T2.mp z with z | z
   ·exact hI _ c z
   ·have z' : c ∈ [47]:=by rw [BP] at z; exact z
    rw [Ut.mp z']; decide
  ·exact hI _ c z
inductive HU (vs : List V) (H : Hp) (Q : VK) (E_3 : XK) : Prop
 | mk (t : Str) (h1 : vs = [.str t,.int 6]) (h2 : Tg t) (h3 : ∀ H',Ae H H' → Q (.bl (CH (sg t))) H') : HU vs H Q E_3
inductive JP (vs : List V) (H : Hp) (Q : VK) (E_3 : XK) : Prop
 | mk (t : Str) (h1 : vs = [.str t,.int 6]) (h2 : Tg t) (h3 : ∀ H',Ae H H' → Q (.bl (CO (sg t))) H') : JP vs H Q E_3
inductive D9 (vs : List V) (H : Hp) (Q : VK) (E_3 : XK) : Prop
 | mk (t : Str) (h1 : vs = [.str t,.int 6]) (h2 : Tg t) (h3 : (∀ (q : Rat) (p : Addr) (H' : Hp),Fg q → t = tx q → Ae H H' → H p = none → H' p = some (nT q) → Q (.ref p) H')) (h4 : (ni t = none → ∀ H',Ae H H' → Q .non H')) : D9 vs H Q E_3
theorem N6 {t : Str} {c : Nat} {r : List Nat} (h : Tg t) (e : sg t = c :: r) : Tg ⟨r.toArray⟩:=by
 have e' : sg ⟨r.toArray⟩ = r:=by simp [sg]
 refine ⟨fun d hd=>h.1 d (by rw [e]; rw [e'] at hd; exact SY _ hd),?_⟩
 have:=h.2
 rw [AE,e] at this
 rw [AE,e']
 simp at this
 lia
def rn (t : Str) : Option Rat:=(ni t).map fun p=>Uj p.1 p.2
theorem J0 {q : Rat} (h : Fg q) : rn (tx q) = some q:=by unfold rn; rw [Jd h]; exact congrArg some (Rat.num_divInt_den q)
theorem Ia {t : Str} (h : ni t = none) : rn t = none:=by unfold rn; rw [h]; rfl
theorem LM {x q : Rat} (h1 : Fg x) (h2 : Fg q) (e : tx x = tx q) : x = q:=by
 have h:=J0 h1
 rw [e,J0 h2] at h
 exact (SD.inj h).symm
def Mx (H : Hp) (v : V) : Option Rat → Prop
 | none=>v = .non
 | some q=>FD H v q
def mO : Option Rat → PyData
 | none=>.none
 | some q=>nD q
theorem Mx.same {H H' : Hp} {v : V} {o : Option Rat} (h : Mx H v o) (e : Ae H H') : Mx H' v o:=by
 cases o with
 | none=>exact h
 | some q=>obtain ⟨r,h1,h2⟩:=h; exact ⟨r,h1,e _ _ h2⟩
theorem Mxs.same {H H' : Hp} {vs : List V} {os : List (Option Rat)} (h : Paired (Mx H) vs os) (e : Ae H H') : Paired (Mx H') vs os:=Paired.mapP h fun _ _ z=>Mx.same z e
theorem Mxs.rds {K : SR} {H : Hp} {vs : List V} {os : List (Option Rat)} {p : Addr} (h : Paired (Mx H) vs os) (s : SqL K H p vs) : Rds K H (.ref p) (.list (os.map mO)):=.lst s (by rw [h.length,Tx]) fun i x d e1 e2=>by
 obtain ⟨o,ho,hm⟩:=Paired.get h e1
 rw [U1,ho] at e2
 cases e2
 cases o with
 | none=>rw [show x = .non from hm]; exact .non
 | some q=>obtain ⟨r,rfl,hr⟩:=hm; exact BC.rds (BC.of hr)
theorem My : ∀ os : List (Option Rat),PyData.canLayAll0 (os.map mO) = true
 | []=>rfl
 | o :: r=>by
   show (PyData.canLay0 (mO o) && PyData.canLayAll0 (r.map mO)) = true
   rw [My r]; cases o <;> rfl
theorem Ji : ∀ os : List (Option Rat),PyData.depthAll (os.map mO) ≤ 1
 | []=>Tc _
 | o :: r=>by
   show max (PyData.depth (mO o)) (PyData.depthAll (r.map mO)) ≤ 1
   have:=Ji r
   have h : PyData.depth (mO o) ≤ 1:=by cases o; exact Tc _; exact T9 _
   lia
theorem Mw (os : List (Option Rat)) : SeqAt.shaped (.list (os.map mO)) = true:=by
 show (PyData.canLayAll0 (os.map mO) && decide (PyData.depthAll (os.map mO) + 1 ≤ 64)) = true
 rw [My,Bool.true_and]
 exact decide_eq_true (by have:=Ji os; lia)
theorem FH : ∀ os : List (Option Rat),((os.map mO).any fun y=>PyData.eqv y .none) = os.any Option.isNone
 | []=>rfl
 | o :: r=>by rw [Tu,Uc,Uc,FH r]; cases o <;> rfl
theorem MV {ts : List Str} (h : ∃ t ∈ ts,ni t = none) : ((ts.map rn).any Option.isNone) = true:=by
 obtain ⟨t,ht,e⟩:=h
 exact Vb.mpr ⟨none,V4.mpr ⟨t,ht,Ia e⟩,rfl⟩
theorem El : ∀ {ws : List Str},(∀ w ∈ ws,ni w ≠ none) → ∃ qs : List Rat,ws = qs.map tx ∧ ∀ q ∈ qs,Fg q
 | [],_=>⟨[],rfl,nofun⟩
 | w :: r,h=>by
   obtain ⟨qs,e,hf⟩:=El (ws:=r) fun v hv=>h v (SY _ hv)
   cases hw : ni w with
   | none=>exact absurd hw (h w (SX ..))
   | some p =>
     obtain ⟨q,hq,e2,_⟩:=Ip (a:=p.1) (b:=p.2) hw
     exact ⟨q :: qs,by rw [Tu,← e,← e2],fun x hx=>by
      rcases T1.mp hx with z | z
      ·rw [z]; exact hq
      ·exact hf x z⟩
inductive Cz (K : SR) (CT : Addr) (vs : List V) (H : Hp) (E_2 : VK) (E : XK) : Prop
 | mk (l : Addr) (ts : List Str) (h1 : vs = [.ref l,.int 6]) (h2 : SqL K H l (ts.map V.str)) (h3 : (∀ t ∈ ts,Tg t)) (h4 : ts.length ≤ 10000) (h5 : (∃ t ∈ ts,ni t = none)) (h6 : ∀ H',Ae H H' → E (.ref CT) none H') : Cz K CT vs H E_2 E
def LF (K : SR) (H : Hp) (x : V) : Prop:=∃ t,TyX K H x t ∧ TF K t (.type "str") = some false
theorem LF.same {K : SR} {H H' : Hp} {x : V} (h : LF K H x) (e : Ae H H') : LF K H' x:=by
 obtain ⟨t,ty,k⟩:=h
 exact ⟨t,TyX.same ty e,k⟩
inductive EV (K : SR) (CT : Addr) (vs : List V) (H : Hp) (E_2 : VK) (E : XK) : Prop
 | mk (x : V) (h1 : vs = [x]) (h2 : LF K H x) (h3 : ∀ H',Ae H H' → E (.ref CT) none H') : EV K CT vs H E_2 E
def NV (t : Str) : Prop:=∃ p ∈ Txt.split t (Str.ofString ", "),(∃ w ∈ Txt.split p (Str.ofString ":"),ni w = none) ∨ ¬ ((Txt.split p (Str.ofString ":")).length = 2 ∨ (Txt.split p (Str.ofString ":")).length = 3)
inductive RPX (K : SR) (H : Hp) : V → Nat → Prop
 | no {x : V} (h : LF K H x) : RPX K H x 2
 | bad {t : Str} (h : Tg t) (hb : NV t) : RPX K H (.str t) 2
 | twice {pss : List (List Rat)} (h1 : 1 ≤ pss.length) (h17 : pss.length ≤ 17) (h23 : P23 pss) (hf : ∀ ps ∈ pss,∀ q ∈ ps,Fg q) (hnd : ¬ (pss.map fun ps=>ps.getD 0 0).Nodup) : RPX K H (.str (Av pss)) 1
 | many {pss : List (List Rat)} (h1 : 1 ≤ pss.length) (h17 : pss.length ≤ 17) (h23 : P23 pss) (hf : ∀ ps ∈ pss,∀ q ∈ ps,Fg q) (hnd : (pss.map fun ps=>ps.getD 0 0).Nodup) (ht : 12 < (BJ pss).length) : RPX K H (.str (Av pss)) 0
theorem RPX.same {K : SR} {H H' : Hp} {x : V} {n : Nat} (h : RPX K H x n) (e : Ae H H') : RPX K H' x n:=by
 cases h with
 | no h=>exact .no (h.same e)
 | bad h hb=>exact .bad h hb
 | twice h1 h17 h23 hf hnd=>exact .twice h1 h17 h23 hf hnd
 | many h1 h17 h23 hf hnd ht=>exact .many h1 h17 h23 hf hnd ht
def Iz (CM CP CT : Addr) : Nat → Addr
 | 0=>CM
 | 1=>CP
 | _=>CT
inductive IU (K : SR) (cl : Nat → Addr) (vs : List V) (H : Hp) (E_2 : VK) (E : XK) : Prop
 | mk (x : V) (n : Nat) (h1 : vs = [x,.int 6]) (h2 : RPX K H x n) (h3 : ∀ H',Ae H H' → E (.ref (cl n)) none H') : IU K cl vs H E_2 E
def JI (p : Str) : Prop:=(∀ w ∈ Txt.split p (Str.ofString ":"),ni w ≠ none) ∧ ((Txt.split p (Str.ofString ":")).length = 2 ∨ (Txt.split p (Str.ofString ":")).length = 3)
theorem MH {t : Str} (hb : NV t) (hg : ∀ p ∈ Txt.split t (Str.ofString ", "),JI p) : False:=by
 obtain ⟨p,hp,h⟩:=hb
 obtain ⟨h1,h2⟩:=hg p hp
 rcases h with ⟨w,hw,e⟩ | h
 ·exact h1 w hw e
 ·exact h h2
theorem QN {n : Nat} (h : ¬ (n = 2 ∨ n = 3)) : inV (V.int ((n : Nat) : Int)) [.int 2,.int 3] = false:=by
 have e : inV (V.int ((n : Nat) : Int)) [.int 2,.int 3] = (decide ((2 : Int) = ((n : Nat) : Int)) || (decide ((3 : Int) = ((n : Nat) : Int)) || false)):=rfl
 rw [e,decide_eq_false (by lia),decide_eq_false (by lia)]; rfl
def whB (qs : List Rat) (ls : List Int) : Bool:=(qs.zip ls).any fun p=>!(p.1.den == 1) || decide (p.1.num < p.2)
def whN (ns : List (Option (Int × Nat))) (ls : List Int) : Bool:=(ns.zip ls).any fun p=>match p.1 with
 | some (a,b)=>!(b == 1) || decide (a < p.2)
 | none=>true
def Qi : List (Str × Nat × Nat):=[("put",2,3),("take",1,1),("height",2,2),("slope",2,2),("noslope",1,1),("points",0,0),("curve",0,0),("steps",0,0),("at",1,1),("slopeat",1,1),("misses",1,16),("bounds",2,2),("noughts",2,2),("wrong",2,2),("quotient",1,1)]
def Nw : List (Str × List Int):=[("wrong",[1,0]),("quotient",[1])]
def HZ (w : Str) (ws : List Str) : Bool :=
 match Qi.lookup w with
 | none=>true
 | some (lo,hi)=>decide (ws.length < lo) || decide (hi < ws.length) || (ws.any fun t=>(ni t).isNone) || whN (ws.map ni) ((Nw.lookup w).getD [])
theorem LH : ∀ {qs : List Rat} {ls : List Int},(∀ q ∈ qs,Fg q) → whN ((qs.map tx).map ni) ls = whB qs ls
 | [],_,_=>rfl
 | q :: r,[],_=>rfl
 | q :: r,l :: ls,h=>by
   have ih:=LH (qs:=r) (ls:=ls) fun x hx=>h x (SY _ hx)
   have e : ni (tx q) = some (q.num,q.den):=Jd (h q (SX ..))
   show ((match ni (tx q) with | some (a,b)=>!(b == 1) || decide (a < l) | none=>true) || whN ((r.map tx).map ni) ls) = ((!(q.den == 1) || decide (q.num < l)) || whB r ls)
   rw [ih,e]
theorem Gv {β : Type} {F : V → β → Prop} : ∀ {kvs : List (Key × V)} {cs : List (Str × β)},Paired (fun kv c=>kv.1 = Sum.inr c.1 ∧ F kv.2 c.2) kvs cs → ∀ w : Str,(CN kvs (Sum.inr w) = none ∧ cs.lookup w = none) ∨ ∃ v c,CN kvs (Sum.inr w) = some v ∧ cs.lookup w = some c ∧ F v c
 | _,_,.nil,w=>.inl ⟨rfl,rfl⟩
 | (k,v) :: kvs,(x,c) :: cs,.cons h r,w=>by
   obtain ⟨h1,h2⟩:=h
   have h1 : k = Sum.inr x:=h1
   subst h1
   by_cases e : x = w
   ·subst e
    refine .inr ⟨v,c,IM rfl,?_,h2⟩
    rw [Ul,beq_self_eq_true]
   ·have e1 : ¬ (Sum.inr x : Key) = Sum.inr w:=fun z=>e (Sum.inr.inj z)
    have e2 : (w == x) = false:=beq_eq_false_iff_ne.mpr fun z=>e z.symm
    have hv : CN ((Sum.inr x,v) :: kvs) (Sum.inr w) = CN kvs (Sum.inr w):=IP e1
    have hl : ((x,c) :: cs).lookup w = cs.lookup w:=by rw [Ul,e2]
    rw [hv,hl]
    exact Gv r w
inductive DU (K : SR) (vs : List V) (H : Hp) (Q : VK) (E_3 : XK) : Prop
 | mk (l t : Addr) (xs : List V) (qs : List Rat) (ls : List Int) (h1 : vs = [.ref l,.ref t]) (h2 : SqL K H l xs) (h3 : Bl H xs qs) (h4 : SqT K H t (ls.map V.int)) (h5 : whB qs ls = false) (h6 : ∀ H',Ae H H' → Q .non H') : DU K vs H Q E_3
inductive D7 (K : SR) (CR : Addr) (vs : List V) (H : Hp) (E_2 : VK) (E : XK) : Prop
 | mk (l t : Addr) (xs : List V) (qs : List Rat) (ls : List Int) (h1 : vs = [.ref l,.ref t]) (h2 : SqL K H l xs) (h3 : Bl H xs qs) (h4 : SqT K H t (ls.map V.int)) (h5 : whB qs ls = true) (h6 : ∀ H',Ae H H' → E (.ref CR) none H') : D7 K CR vs H E_2 E
inductive CB (K : SR) (CR : Addr) (vs : List V) (H : Hp) (E_2 : VK) (E : XK) : Prop
 | mk (l : Addr) (w : Str) (ws : List Str) (h1 : vs = [.ref l]) (h2 : SqL K H l (.str w :: ws.map V.str)) (h3 : (∀ t ∈ ws,Tg t)) (h4 : ws.length ≤ 10000) (h5 : HZ w ws = true) (h6 : ∀ H',Ae H H' → E (.ref CR) none H') : CB K CR vs H E_2 E
inductive Dc (K : SR) (cl : Nat → Addr) (C : Addr) (vs : List V) (H : Hp) (E_2 : VK) (E : XK) : Prop
 | mk (p dx : Addr) (x : V) (n : Nat) (h1 : vs = [.ref p,x]) (h2 : H p = some (.ins C dx [])) (h3 : RPX K H x n) (h4 : ∀ H',Ae H H' → E (.ref (cl n)) none H') : Dc K cl C vs H E_2 E
inductive Dy (K : SR) (H : Hp) : V → Prop
 | no {x : V} (h : LF K H x) : Dy K H x
 | row {t w : Str} {ws : List Str} (hT : Tg t) (e : Txt.split t (Str.ofString " ") = w :: ws) (hb : HZ w ws = true) : Dy K H (.str t)
inductive ES (K : SR) (CR : Addr) (C : Addr) (vs : List V) (H : Hp) (E_2 : VK) (E : XK) : Prop
 | mk (p : Addr) (x : V) (h1 : vs = [.ref p,x]) (h2 : Dy K H x) (h3 : ∀ H',Ae H H' → E (.ref CR) none H') : ES K CR C vs H E_2 E
theorem JZ : ∀ {qs : List Rat},(∀ q ∈ qs,Fg q) → (qs.map tx).map rn = qs.map some
 | [],_=>rfl
 | q :: r,h=>by rw [Tu,Tu,Tu,J0 (h q (SX ..)),JZ fun x hx=>h x (SY _ hx)]
theorem any_some : ∀ qs : List Rat,(qs.map some).any Option.isNone = false
 | []=>rfl
 | q :: r=>by rw [Tu,Uc,any_some r]; rfl
theorem Kv : ∀ {H : Hp} {zs : List V} {qs : List Rat},Paired (Mx H) zs (qs.map some) → Bl H zs qs
 | _,_,[],h=>by cases h; exact .nil
 | _,_,q :: r,h=>by
   cases h with
   | cons a b=>exact .cons a (Kv b)
theorem Pr {qs : List Rat} {ls : List Int} (h : ∀ (j : Nat) (c : Rat) (f : Int),qs[j]? = some c → ls[j]? = some f → c.den = 1 ∧ ¬ c.num < f) : whB qs ls = false:=by
 unfold whB
 rw [Te]
 intro p hp
 obtain ⟨j,hj⟩:=List.mem_iff_getElem?.mp hp
 rw [List.getElem?_zip_eq_some] at hj
 obtain ⟨h1,h2⟩:=h j _ _ hj.1 hj.2
 simp [h1,h2]
theorem Pt {qs : List Rat} {ls : List Int} {i : Nat} {c : Rat} {f : Int} (h : whB qs ls = false) (hc : qs[i]? = some c) (hf : ls[i]? = some f) : c.den = 1 ∧ ¬ c.num < f:=by
 unfold whB at h
 rw [Te] at h
 have hm : (c,f) ∈ qs.zip ls:=List.mem_iff_getElem?.mpr ⟨i,List.getElem?_zip_eq_some.mpr ⟨hc,hf⟩⟩
 have:=h _ hm
 simpa using this
def Kd (t : Str) : Bool:=((sg t).all fun c=>decide (c < 128)) && decide (t.length ≤ 5000) && match Txt.split t (Str.ofString " ") with
 | w :: ws=>HZ w ws
 | []=>false
theorem NH {K : SR} {H : Hp} {t : Str} (h : Kd t = true) : Dy K H (.str t):=by
 unfold Kd at h
 rw [Bool.and_eq_true,Bool.and_eq_true] at h
 obtain ⟨⟨h1,h2⟩,h3⟩:=h
 have hT : Tg t:=⟨fun c hc=>of_decide_eq_true (Um.mp h1 c hc),of_decide_eq_true h2⟩
 cases e : Txt.split t (Str.ofString " ") with
 | nil=>exact absurd e (IT _ _)
 | cons w ws=>rw [e] at h3; exact .row hT e h3
def FC : List Str:=["","x","01","2/4","-0","1/0","1000000","-1000000","1/1000000","999999/1000000","1:2","1.5","+1","0/3","--1","1e3"]
inductive HR (vs : List V) (H : Hp) (Q : VK) (E_3 : XK) : Prop
 | mk (a : Addr) (h1 : vs = [.ref a]) (h2 : Pen H a) (h3 : ∀ (b : Str) (H' : Hp),Mv a H H' → Pen H' a → b ∈ FC → Q (.str b) H') : HR vs H Q E_3
theorem Nc {ts : List Str} {d : Int} (h0 : 0 ≤ d) (h1 : d < (ts.length : Int)) : ∃ t,atI (ts.map V.str) d = some (.str t) ∧ t ∈ ts:=by
 obtain ⟨n,rfl⟩ : ∃ n : Nat,d = (n : Int):=⟨d.toNat,by lia⟩
 obtain ⟨t,ht⟩ : ∃ t,ts[n]? = some t:=⟨_,Uv (show n < ts.length by lia)⟩
 exact ⟨t,AX (by rw [U1,ht]; rfl),U3 ht⟩
inductive Ee (K : SR) (C : Addr) (vs : List V) (H : Hp) (Q : VK) (E_3 : XK) : Prop
 | mk (p dx r : Addr) (xs : List V) (pss : List (List Rat)) (h1 : vs = [.ref p,.str "points"]) (h2 : H p = some (dk C dx r)) (h3 : Pok K H r xs pss) (h4 : (∀ ps ∈ pss,∀ q ∈ ps,Fg q)) (h5 : ∀ H',Ae H H' → Q (.str (Av pss)) H') : Ee K C vs H Q E_3
theorem MT {b : Str} (h : b ∈ FC) : b.length ≤ 14:=(by decide +kernel : ∀ b ∈ FC,b.length ≤ 14) b h
theorem IG (x y : Str) : (x ++ y).length = x.length + y.length:=by rw [AE,AL,U4,← AE,← AE]
theorem ok2 {x y : Str} (h1 : x.length ≤ 200) (h2 : y.length ≤ 200) : x.length + y.length ≤ sizeLine:=by have:=sizeLine_eq; lia
theorem ap2 {x y : Str} (h1 : x.length ≤ 20) (h2 : y.length ≤ 14) : (x ++ y).length ≤ 200:=by rw [IG]; lia
theorem Cw {K : SR} {ts : List Str} (h : ts.all Kd = true) : ∀ x ∈ ts.map V.str,∀ H : Hp,Dy K H x:=fun x hx H=>by
 obtain ⟨t,ht,rfl⟩:=V4.mp hx
 exact NH (Um.mp h t ht)
theorem DM {K : SR} {xs ys : List V} (h : ∀ x ∈ xs,∀ H : Hp,Dy K H x) (h2 : ∀ x ∈ ys,∀ H : Hp,Dy K H x) : ∀ x ∈ xs ++ ys,∀ H : Hp,Dy K H x:=fun x hx=>by
 rcases T2.mp hx with z | z
 ·exact h x z
 ·exact h2 x z
theorem MC (K : SR) : TF K (.type "NoneType") (.type "str") = some false:=by kernel_rfl
theorem Kx (K : SR) : TF K (.type "int") (.type "str") = some false:=by kernel_rfl
theorem OT (K : SR) : TF K (.type "bool") (.type "str") = some false:=by kernel_rfl
theorem MD (K : SR) : TF K (.type "list") (.type "str") = some false:=by kernel_rfl
inductive HQ (K : SR) (vs : List V) (H : Hp) (Q : VK) (E_3 : XK) : Prop
 | mk (a : Addr) (h1 : vs = [.ref a]) (h2 : Pen H a) (h3 : ∀ (x : V) (H' : Hp),Mv a H H' → Pen H' a → Dy K H' x → Q x H') : HQ K vs H Q E_3
theorem rb4 : ∀ b ∈ FC,([(Str.ofString "height 1  2"),(Str.ofString "moved 1"),(((Str.ofString "put ") ++ b) ++ (Str.ofString " 1")),((Str.ofString "put 1 ") ++ b),((Str.ofString "put 1 1 ") ++ b),((Str.ofString "take ") ++ b)].all Kd) = true:=by decide +kernel
theorem rb5 : ∀ b ∈ FC,([(((Str.ofString "height ") ++ b) ++ (Str.ofString " 1")),((Str.ofString "height 1 ") ++ b),((Str.ofString "slope 1 ") ++ b),((Str.ofString "noslope ") ++ b),((Str.ofString "at ") ++ b)].all Kd) = true:=by decide +kernel
theorem rb6 : ∀ b ∈ FC,([((Str.ofString "slopeat ") ++ b),((Str.ofString "misses 1 ") ++ b),(((Str.ofString "bounds ") ++ b) ++ (Str.ofString " 1")),((Str.ofString "noughts 0 ") ++ b)].all Kd) = true:=by decide +kernel
theorem rb7 : ∀ b ∈ FC,([(((Str.ofString "wrong ") ++ b) ++ (Str.ofString " 1")),((Str.ofString "wrong 1 ") ++ b),((Str.ofString "quotient ") ++ b),(Str.ofString "wrong 0 1"),(Str.ofString "wrong 1/2 1"),(Str.ofString "wrong -1 1")].all Kd) = true:=by decide +kernel
theorem Dg {sep : Str} : ∀ {ts : List Str} {u : Str},ts ≠ [] → Str.join sep (ts ++ [u]) = Str.join sep ts ++ sep ++ u
 | [],_,h=>absurd rfl h
 | [t],u,_=>by show Str.join sep [t,u] = _; rw [PyProof.Rows.join_cons_cons,PyProof.Rows.join_one,PyProof.Rows.join_one]
 | t :: v :: r,u,_=>by
   have ih:=Dg (sep:=sep) (ts:=v :: r) (u:=u) (Va _ _)
   show Str.join sep (t :: v :: (r ++ [u])) = _
   rw [PyProof.Rows.join_cons_cons,PyProof.Rows.join_cons_cons,show v :: (r ++ [u]) = v :: r ++ [u] from rfl,ih]
   refine Ca ?_
   simp only [AL,V6]
theorem GF {sep : Str} (hs : ∀ c ∈ sg sep,c < 128) : ∀ {ts : List Str},(∀ t ∈ ts,∀ c ∈ sg t,c < 128) → ∀ c ∈ sg (Str.join sep ts),c < 128
 | [],_,c,hc=>by cases (show c ∈ ([] : List Nat) from hc)
 | [t],h,c,hc=>by rw [PyProof.Rows.join_one] at hc; exact h t (Ut.mpr rfl) c hc
 | t :: v :: r,h,c,hc=>by
   rw [PyProof.Rows.join_cons_cons,AL,AL] at hc
   rcases T2.mp hc with z | z
   ·rcases T2.mp z with z | z
    ·exact h t (SX ..) c z
    ·exact hs c z
   ·exact GF hs (fun x hx=>h x (SY _ hx)) c z
theorem NN {ps : List Rat} (h : ∀ q ∈ ps,Fg q) : ∀ c ∈ sg (ptx ps),c < 128:=by
 unfold ptx
 exact GF (by rw [Dd]; decide) fun t ht=>by
  obtain ⟨q,hq,rfl⟩:=V4.mp ht
  exact (LQ (h q hq)).1
theorem Dk {pss : List (List Rat)} (h : ∀ ps ∈ pss,∀ q ∈ ps,Fg q) : ∀ c ∈ sg (Av pss),c < 128:=by
 unfold Av
 exact GF (by rw [CC]; decide) fun t ht=>by
  obtain ⟨ps,hp,rfl⟩:=V4.mp ht
  exact NN (h ps hp)
theorem Gb {pss : List (List Rat)} (h : ∀ ps ∈ pss,∀ q ∈ ps,Fg q) (h23 : P23 pss) : (Av pss).length ≤ pss.length * 377:=by
 have:=DQ (sep:=Bw) (by rw [BH]; decide) (De h h23)
 rw [Tx] at this
 exact this
theorem DJ (ps : List Rat) : 44 ∉ sg (ptx ps):=Fh (by rw [Dd]; decide) fun t ht=>by
 obtain ⟨z,_,rfl⟩:=V4.mp ht
 exact HL z (by decide)
theorem NY (q : Rat) : sg (tx q) ≠ []:=by
 have hI : ∀ i : Int,sg (txI i) ≠ []:=fun i=>by
  rcases D0 i with ⟨n,_,hs⟩ | ⟨n,_,_,hs⟩
  ·rw [hs]; exact HE n
  ·rw [hs]; exact Va _ _
 unfold tx
 split
 ·exact hI _
 ·rw [AL,AL]
  exact fun z=>hI _ (Vc.mp (Vc.mp z).1).1
theorem Ox {ps : List Rat} (h : ps ≠ []) : sg (ptx ps) ≠ []:=by
 obtain ⟨q,r,rfl⟩ : ∃ q r,ps = q :: r:=by
  cases ps with
  | nil=>exact absurd rfl h
  | cons q r=>exact ⟨q,r,rfl⟩
 unfold ptx
 cases r with
 | nil=>rw [Vd,PyProof.Rows.join_one]; exact NY q
 | cons v r =>
   rw [Tu,Tu,PyProof.Rows.join_cons_cons,AL,AL]
   exact fun z=>NY q (Vc.mp (Vc.mp z).1).1
def Cok (l : List Nat) : Prop:=∀ a r,l = a ++ 44 :: r → ∃ d r',r = 32 :: d :: r'
theorem JA : ∀ {pss : List (List Rat)},(∀ ps ∈ pss,ps ≠ []) → Cok (sg (Av pss)) ∧ (pss ≠ [] → sg (Av pss) ≠ [])
 | [],_=>⟨fun a r e=>(by cases a <;> cases (show ([] : List Nat) = _ from e)),fun z=>absurd rfl z⟩
 | [p],h=>by
   unfold Av
   rw [Vd,PyProof.Rows.join_one]
   exact ⟨fun a r e=>absurd (show 44 ∈ sg (ptx p) by rw [e]; simp) (DJ p),fun _=>Ox (h p (Ut.mpr rfl))⟩
 | p :: q :: r,h=>by
   obtain ⟨ih,ihn⟩:=JA (pss:=q :: r) fun ps hp=>h ps (SY _ hp)
   have es : sg (Av (p :: q :: r)) = sg (ptx p) ++ 44 :: 32 :: sg (Av (q :: r)):=by
    unfold Av
    rw [Tu,Tu,PyProof.Rows.join_cons_cons,AL,AL,CC,V6]; rfl
   rw [es]
   have hB:=ihn (Va _ _)
   refine ⟨fun a s e=>?_,fun _ z=>by simp at z⟩
   generalize sg (Av (q :: r)) = B at ih hB e
   have hA:=DJ p
   generalize sg (ptx p) = A at hA e
   clear es ihn h
   induction A generalizing a with
   | nil =>
     cases a with
     | nil =>
       have e':=(Uy.inj e).2
       cases B with
       | nil=>exact absurd rfl hB
       | cons d B=>exact ⟨d,B,e'.symm⟩
     | cons x a =>
       have e1:=(Uy.inj e).2
       cases a with
       | nil=>exact absurd (Uy.inj e1).1 (by decide)
       | cons y a=>exact ih a s (Uy.inj e1).2
   | cons c A iA =>
     cases a with
     | nil=>exact absurd (T1.mpr (.inl (Uy.inj e).1.symm)) hA
     | cons x a=>exact iA a (by first | exact (Uy.inj e).2 | exact fun z=>hA (SY _ z)) (by first | exact (Uy.inj e).2 | exact fun z=>hA (SY _ z))
theorem MX {t : Str} (hg : ∀ p ∈ Txt.split t (Str.ofString ", "),JI p) : ∃ pss : List (List Rat),t = Av pss ∧ ∀ ps ∈ pss,ps ≠ []:=by
 have hj:=StrLaws.join_split t (Str.ofString ", ")
 have hp : ∀ {l : List Str},(∀ p ∈ l,JI p) → ∃ pss : List (List Rat),l = pss.map ptx ∧ ∀ ps ∈ pss,ps ≠ []:=fun {l} hl=>by
  induction l with
  | nil=>exact ⟨[],rfl,nofun⟩
  | cons p l ih =>
    obtain ⟨pss,e,hn⟩:=ih fun x hx=>hl x (SY _ hx)
    obtain ⟨h1,h2⟩:=hl p (SX ..)
    obtain ⟨ps,ep,_⟩:=El h1
    have hjp:=StrLaws.join_split p (Str.ofString ":")
    rw [ep] at hjp h2
    refine ⟨ps :: pss,by rw [Tu,← e]; congr 1; exact hjp.symm,fun x hx=>?_⟩
    rcases T1.mp hx with z | z
    ·rw [z]
     intro z'
     rw [z'] at h2
     simp at h2
    ·exact hn x z
 obtain ⟨pss,e,hn⟩:=hp hg
 rw [e] at hj
 exact ⟨pss,hj.symm,hn⟩
theorem IE {t : Str} (h : ¬ Cok (sg t)) : NV t:=Classical.byContradiction fun hb=>h (by
 obtain ⟨pss,e,hn⟩:=MX (t:=t) fun p hp=>⟨fun w hw z=>hb ⟨p,hp,.inl ⟨w,hw,z⟩⟩,Classical.byContradiction fun z=>hb ⟨p,hp,.inr z⟩⟩
 rw [e]; exact (JA hn).1)
def NJ (p : Str) : Bool:=((Txt.split p (Str.ofString ":")).any fun w=>(ni w).isNone) || !(decide ((Txt.split p (Str.ofString ":")).length = 2) || decide ((Txt.split p (Str.ofString ":")).length = 3))
theorem KL {p : Str} (h : NJ p = true) : (∃ w ∈ Txt.split p (Str.ofString ":"),ni w = none) ∨ ¬ ((Txt.split p (Str.ofString ":")).length = 2 ∨ (Txt.split p (Str.ofString ":")).length = 3):=by
 unfold NJ at h
 rcases Bool.or_eq_true_iff.mp h with z | z
 ·obtain ⟨w,hw,e⟩:=Vb.mp z
  exact .inl ⟨w,hw,Option.isNone_iff_eq_none.mp e⟩
 ·refine .inr fun y=>?_
  rw [Bool.not_eq_true',Bool.or_eq_false_iff] at z
  rcases y with y | y
  ·exact of_decide_eq_false z.1 y
  ·exact of_decide_eq_false z.2 y
def Qj (t : Str) : Bool:=((sg t).all fun c=>decide (c < 128)) && decide (t.length ≤ 5000) && (Txt.split t (Str.ofString ", ")).any NJ
theorem DR {K : SR} {H : Hp} {t : Str} (h : Qj t = true) : RPX K H (.str t) 2:=by
 unfold Qj at h
 rw [Bool.and_eq_true,Bool.and_eq_true] at h
 obtain ⟨⟨h1,h2⟩,h3⟩:=h
 obtain ⟨p,hp,e⟩:=Vb.mp h3
 exact .bad ⟨fun c hc=>of_decide_eq_true (Um.mp h1 c hc),of_decide_eq_true h2⟩ ⟨p,hp,KL e⟩
theorem GN {ts : List Str} {u : Str} (h : ∀ t ∈ ts,44 ∉ sg t) (hu : 44 ∉ sg u) (hb : NJ u = true) : NV (Str.join Bw (ts ++ [u])):=by
 have hs : Txt.split (Str.join Bw (ts ++ [u])) (Str.ofString ", ") = ts ++ [u]:=by
  have hall : ∀ x ∈ ts ++ [u],44 ∉ sg x:=fun x hx=>by
   rcases T2.mp hx with z | z
   ·exact h x z
   ·rw [Ut.mp z]; exact hu
  cases hq : ts ++ [u] with
  | nil=>simp at hq
  | cons x r =>
    rw [hq] at hall
    exact Ed (c:=44) CC (MF (by rw [CC]; decide)) _ _ hall
 exact ⟨u,by rw [hs]; exact Tb _ (Ut.mpr rfl),KL hb⟩
def wdT : Nat → Str
 | 0=>"many"
 | 1=>"points"
 | _=>"text"
theorem Dl (x y z : Str) : x ++ (y ++ z) = (x ++ y) ++ z:=Ca (by simp only [AL,V6])
theorem Co {x y : Str} {A B C : Nat} (h1 : x.length ≤ A) (h2 : y.length ≤ B) (h : A + B ≤ C) : (x ++ y).length ≤ C:=by rw [IG]; lia
theorem ok3 {x y : Str} (h1 : x.length ≤ 5000) (h2 : y.length ≤ 5000) : x.length + y.length ≤ sizeLine:=by have:=sizeLine_eq; lia
theorem EN {x y : Str} (h1 : ∀ c ∈ sg x,c < 128) (h2 : ((sg y).all fun c=>decide (c < 128)) = true) (h : (x ++ y).length ≤ 5000) : Tg (x ++ y):=⟨fun c hc=>by
 rw [AL] at hc
 rcases T2.mp hc with z | z
 ·exact h1 c z
 ·exact of_decide_eq_true (Um.mp h2 c z),h⟩
theorem Oi : tx 1 = Str.ofString "1":=by decide +kernel
theorem Ib (x : Rat) : ptx [x,1] = tx x ++ Str.ofString ":1":=by
 unfold ptx
 rw [Tu,Vd,PyProof.Rows.join_cons_cons,PyProof.Rows.join_one,Oi,← Dl,show CI ++ Str.ofString "1" = Str.ofString ":1" by decide +kernel]
theorem Ht {pss : List (List Rat)} {ps : List Rat} (h : pss ≠ []) : Av (pss ++ [ps]) = Av pss ++ Bw ++ ptx ps:=by
 unfold Av
 rw [UQ,Vd]
 exact Dg (by simpa using h)
theorem Oj (k : Nat) : tx (k : Rat) = txI (k : Int):=by
 unfold tx
 rw [if_pos (Rat.den_natCast ..),Rat.num_natCast]
def Bv : List (List Rat):=(SK 13).map fun k : Nat=>[(k : Rat),1]
theorem NC : Str.join Bw ((SK 13).map fun k : Nat=>txI (k : Int) ++ Str.ofString ":1") = Av Bv:=by
 unfold Av Bv
 rw [V7]
 have e : (fun k : Nat=>txI (k : Int) ++ Str.ofString ":1") = ptx ∘ fun k : Nat=>[(k : Rat),1]:=funext fun k=>by
  show _ = ptx [(k : Rat),1]
  rw [Ib,Oj]
 rw [e]
theorem FJ : ∀ ps ∈ Bv,∀ q ∈ ps,Fg q:=by
 intro ps hp q hq
 obtain ⟨k,hk,rfl⟩:=V4.mp hp
 have hk:=SQ.mp hk
 rcases T1.mp hq with z | z
 ·rw [z]; exact ⟨by rw [Rat.num_natCast]; lia,by rw [Rat.den_natCast]; decide⟩
 ·rw [Ut.mp z]; exact ⟨by decide,by decide⟩
theorem Iv : P23 Bv:=fun ps hp=>by
 obtain ⟨k,_,rfl⟩:=V4.mp hp
 exact .inl rfl
theorem Js : (Av Bv).length ≤ 4901:=Gb FJ Iv
theorem FT {pss : List (List Rat)} (h : Pq pss) (h6 : pss.length ≤ 6) : (Av pss).length ≤ 2262:=SU (Gb h.fg h.h23) (by lia)
theorem QK {K : SR} {pss : List (List Rat)} (h : Pq pss) (h6 : pss.length ≤ 6) (G : Hp) : RPX K G (.str (Av pss ++ Str.ofString ",")) 2:=.bad (EN (Dk h.fg) (by decide +kernel) (Co (FT h h6) (B:=20) (by decide +kernel) (by decide))) (IE fun hc=>by
 obtain ⟨d,r,e⟩:=hc (sg (Av pss)) [] (by rw [AL,BP]; rfl)
 cases e)
theorem QJ {K : SR} {pss : List (List Rat)} (h : Pq pss) (h6 : pss.length ≤ 6) (G : Hp) : RPX K G (.str (Av pss ++ Str.ofString ", ")) 2:=.bad (EN (Dk h.fg) (by decide +kernel) (Co (FT h h6) (B:=20) (by decide +kernel) (by decide))) (IE fun hc=>by
 obtain ⟨d,r,e⟩:=hc (sg (Av pss)) [32] (by rw [AL,BP]; rfl)
 cases e)
theorem QI {K : SR} {pss : List (List Rat)} (h : Pq pss) (h6 : pss.length ≤ 6) (G : Hp) : RPX K G (.str (Av pss ++ Str.ofString ",5:1")) 2:=.bad (EN (Dk h.fg) (by decide +kernel) (Co (FT h h6) (B:=20) (by decide +kernel) (by decide))) (IE fun hc=>by
 obtain ⟨d,r,e⟩:=hc (sg (Av pss)) [53,58,49] (by rw [AL,BP]; rfl)
 exact absurd (Uy.inj e).1 (by decide))
theorem QH {K : SR} {pss : List (List Rat)} (h : Pq pss) (h6 : pss.length ≤ 6) (G : Hp) : RPX K G (.str (Av pss ++ Str.ofString ", 1000000:1")) 2:=.bad (EN (Dk h.fg) (by decide +kernel) (Co (FT h h6) (B:=20) (by decide +kernel) (by decide))) (by
 have e : Av pss ++ Str.ofString ", 1000000:1" = Str.join Bw (pss.map ptx ++ [Str.ofString "1000000:1"]):=by
  rw [Dg (by have:=h.h1; intro z; rw [List.map_eq_nil_iff] at z; rw [z] at this; simp at this),← Dl]
  show _ = Av pss ++ _
  rw [show Bw ++ Str.ofString "1000000:1" = Str.ofString ", 1000000:1" by decide +kernel]
 rw [e]
 exact GN (fun t ht=>by obtain ⟨ps,_,rfl⟩:=V4.mp ht; exact DJ ps) (by decide +kernel) (by decide +kernel))
theorem Mr {pss : List (List Rat)} (h : Pq pss) (h6 : pss.length ≤ 6) : pss ≠ []:=fun z=>by have:=h.h1; rw [z] at this; simp at this
theorem Mu {x0 : Rat} (hx : Fg x0) : (tx x0 ++ Str.ofString ":1").length ≤ 143:=Co (Iu hx) (B:=20) (by decide +kernel) (by decide)
theorem FL {pss : List (List Rat)} {x0 : Rat} (h : Pq pss) (h6 : pss.length ≤ 6) (hx : Fg x0) : ∀ ps ∈ pss ++ [[x0,1]],∀ q ∈ ps,Fg q:=fun ps hp q hq=>by
 rcases T2.mp hp with z | z
 ·exact h.fg ps z q hq
 ·rw [Ut.mp z] at hq
  rcases T1.mp hq with y | y
  ·rw [y]; exact hx
  ·rw [Ut.mp y]; exact ⟨by decide,by decide⟩
theorem MM {pss : List (List Rat)} {x0 : Rat} (h : Pq pss) (h6 : pss.length ≤ 6) : Av pss ++ Str.ofString ", " ++ (tx x0 ++ Str.ofString ":1") = Av (pss ++ [[x0,1]]):=by rw [Ht (Mr h h6),Ib]; rfl
theorem QG {K : SR} {pss : List (List Rat)} {x0 : Rat} (h : Pq pss) (h6 : pss.length ≤ 6) (hx : Fg x0) (G : Hp) : RPX K G (.str (Av pss ++ Str.ofString ", " ++ (tx x0 ++ Str.ofString ":1") ++ Str.ofString ", 1:2000000")) 2:=by
 rw [MM h h6]
 have hl : (Av (pss ++ [[x0,1]])).length ≤ 3000:=SU (Gb (FL h h6 hx) (Ex h.h23 (.inl rfl))) (by rw [U4]; show (_ + 1) * 377 ≤ 3000; lia)
 refine .bad (EN (Dk (FL h h6 hx)) (by decide +kernel) (Co hl (B:=20) (by decide +kernel) (by decide))) ?_
 have e : Av (pss ++ [[x0,1]]) ++ Str.ofString ", 1:2000000" = Str.join Bw ((pss ++ [[x0,1]]).map ptx ++ [Str.ofString "1:2000000"]):=by
  rw [Dg (by simp),← Dl]
  show _ = Av (pss ++ [[x0,1]]) ++ _
  rw [show Bw ++ Str.ofString "1:2000000" = Str.ofString ", 1:2000000" by decide +kernel]
 rw [e]
 exact GN (fun t ht=>by obtain ⟨ps,_,rfl⟩:=V4.mp ht; exact DJ ps) (by decide +kernel) (by decide +kernel)
theorem QF {K : SR} {pss : List (List Rat)} {x0 : Rat} (h : Pq pss) (h6 : pss.length ≤ 6) (h0 : x0 ∈ pss.map fun ps=>ps.getD 0 0) (hx : Fg x0) (G : Hp) : RPX K G (.str (Av pss ++ Str.ofString ", " ++ (tx x0 ++ Str.ofString ":1"))) 1:=by
 rw [MM h h6]
 refine .twice (by rw [U4]; exact Nat.le_add_left 1 _) (by rw [U4]; show _ + 1 ≤ 17; lia) (Ex h.h23 (.inl rfl)) (FL h h6 hx) fun hnd=>?_
 rw [UQ,List.nodup_append] at hnd
 exact hnd.2.2 x0 h0 x0 (Ut.mpr rfl) rfl
theorem QE {K : SR} {pss : List (List Rat)} {x0 : Rat} (h : Pq pss) (h6 : pss.length ≤ 6) (h0 : x0 ∈ pss.map fun ps=>ps.getD 0 0) (hx : Fg x0) (G : Hp) : RPX K G (.str (tx x0 ++ Str.ofString ":1" ++ Str.ofString ", " ++ Av pss)) 1:=by
 have e : tx x0 ++ Str.ofString ":1" ++ Str.ofString ", " ++ Av pss = Av ([x0,1] :: pss):=by
  obtain ⟨p,r,rfl⟩ : ∃ p r,pss = p :: r:=by
   cases pss with
   | nil=>exact absurd rfl (Mr h h6)
   | cons p r=>exact ⟨p,r,rfl⟩
  rw [← Ib]
  show _ = Str.join Bw (ptx [x0,1] :: ptx p :: r.map ptx)
  rw [PyProof.Rows.join_cons_cons]; rfl
 rw [e]
 refine .twice (Nat.le_add_left 1 _) (by rw [Tq]; lia) (fun ps hp=>?_) (fun ps hp q hq=>?_) fun hnd=>?_
 ·rcases T1.mp hp with z | z
  ·rw [z]; exact .inl rfl
  ·exact h.h23 ps z
 ·rcases T1.mp hp with z | z
  ·exact FL h h6 hx ps (Tb _ (by rw [z]; exact Ut.mpr rfl)) q hq
  ·exact h.fg ps z q hq
 ·rw [Tu,TN] at hnd
  exact hnd.1 h0
theorem Q3 {K : SR} (G : Hp) : RPX K G (.str (Av Bv)) 0:=.many (by decide) (by decide) Iv FJ (by decide +kernel) (by decide +kernel)
theorem Q0 {K : SR} (G : Hp) : RPX K G (.str (Av Bv ++ Str.ofString ", 3:4")) 1:=by
 have e : Av Bv ++ Str.ofString ", 3:4" = Av (Bv ++ [[3,4]]):=by
  rw [Ht (by decide),← Dl,show Bw ++ ptx [3,4] = Str.ofString ", 3:4" by decide +kernel]
 rw [e]
 refine .twice (by decide) (by decide) (Ex Iv (.inl rfl)) (fun ps hp q hq=>?_) (by decide +kernel)
 rcases T2.mp hp with z | z
 ·exact FJ ps z q hq
 ·rw [Ut.mp z] at hq
  rcases T1.mp hq with y | y
  ·rw [y]; exact ⟨by decide,by decide⟩
  ·rw [Ut.mp y]; exact ⟨by decide,by decide⟩
theorem PZ {K : SR} (G : Hp) : RPX K G (.str (Av Bv ++ Str.ofString ", 1234567:4")) 2:=by
 refine .bad (EN (Dk FJ) (by decide +kernel) (Co Js (B:=20) (by decide +kernel) (by decide))) ?_
 have e : Av Bv ++ Str.ofString ", 1234567:4" = Str.join Bw (Bv.map ptx ++ [Str.ofString "1234567:4"]):=by
  rw [Dg (by decide),← Dl]
  show _ = Av Bv ++ _
  rw [show Bw ++ Str.ofString "1234567:4" = Str.ofString ", 1234567:4" by decide +kernel]
 rw [e]
 exact GN (fun t ht=>by obtain ⟨ps,_,rfl⟩:=V4.mp ht; exact DJ ps) (by decide +kernel) (by decide +kernel)
def ItM (K : SR) (a : Addr) (H : Hp) (v : V) : Prop:=∃ (t : Addr) (x : V) (n : Nat),v = .ref t ∧ t ≠ a ∧ H t = some (.tup [x,.str (wdT n)]) ∧ ∀ G,Mv a H G → RPX K G x n
theorem ItM.same {K : SR} {a : Addr} {H H' : Hp} {v : V} (h : ItM K a H v) (e : Ae H H') : ItM K a H' v:=by
 obtain ⟨t,x,n,h1,h2,h3,h4⟩:=h
 exact ⟨t,x,n,h1,h2,e _ _ h3,fun G m=>h4 G (e.mv.trans m)⟩
theorem GH {K : SR} {a : Addr} {H H' : Hp} {xs ys : List V} (h : ∀ x ∈ xs,ItM K a H x) (e : Ae H H') (h2 : ∀ x ∈ ys,ItM K a H' x) : ∀ x ∈ xs ++ ys,ItM K a H' x:=fun x hx=>by
 rcases T2.mp hx with z | z
 ·exact (h x z).same e
 ·exact h2 x z
theorem Fi {K : SR} {a : Addr} {H : Hp} : ∀ x ∈ ([] : List V),ItM K a H x:=nofun
theorem Bo {K : SR} {a : Addr} {H : Hp} {v : V} {ys : List V} (h : ItM K a H v) (h2 : ∀ x ∈ ys,ItM K a H x) : ∀ x ∈ v :: ys,ItM K a H x:=fun x hx=>by
 rcases T1.mp hx with z | z
 ·rw [z]; exact h
 ·exact h2 x z
inductive FU (K : SR) (vs : List V) (H : Hp) (Q : VK) (E_3 : XK) : Prop
 | mk (a r : Addr) (xs : List V) (pss : List (List Rat)) (h1 : vs = [.ref a,.ref r]) (h2 : Pen H a) (h3 : Pok K H r xs pss) (h4 : (∀ ps ∈ pss,∀ q ∈ ps,Fg q)) (h5 : pss.length ≤ 6) (h6 : ∀ (t : Addr) (x : V) (n : Nat) (H' : Hp),Mv a H H' → Pen H' a → H' t = some (.tup [x,.str (wdT n)]) → RPX K H' x n → Q (.ref t) H') : FU K vs H Q E_3
theorem Qd {k : Nat} (h : k < 13) : ((k : Int)).natAbs.log2 < 1920:=by
 have : (k : Int).natAbs = k:=rfl
 rw [this]
 by_cases h0 : k = 0
 ·rw [h0]; decide
 ·have:=(Nat.log2_lt (k:=200) h0).mpr (by lia); lia
inductive FW (K : SR) (vs : List V) (H : Hp) (Q : VK) (E_3 : XK) : Prop
 | mk (a x : V) (h1 : vs = [a,x,.str "points"]) (h2 : ((∃ n,RPX K H x n ∧ ∀ H',Ae H H' → Q (.str (wdT n)) H') ∨ (∃ pss,x = .str (Av pss) ∧ Pq pss ∧ ∀ H',Ae H H' → Q .non H'))) : FW K vs H Q E_3
section
variable {P : Program} {w : World} {K : SR} {mg : Str → Option Value} {base : Heap}
theorem CQ : AA ["_law_script","_law_k","_law_cell"] ["_law_script","_law_k"] (Af (top 132)):=⟨rfl,rfl,rfl,by decide +kernel,rfl,by decide +kernel,by decide +kernel⟩
theorem Jb {f : Addr} {fd : FuncData} (F : Fun K "_law_pen" "_law_pen" (top 132) f fd) (QZ : mg "len" = none) (hT : P.given.tree = none) :
 AI P w K mg base CX0 33 f fd ["_law_script","_law_k"] (M0 K):=by
 refine F.ok CQ (fun vs H Q E h=>?_) (fun cdv A outer s H vs Q E hr h=>?_)
 ·obtain ⟨_,_,_,rfl,_⟩:=h; rfl
 refine ⟨_,(Ad (K:=K) (Ap (i:=2) CQ.nd rfl (Or.inl rfl) (Am BS (Am Cf Ag (pv 1)) Ag))
  (Ad (K:=K) (AD (K:=K) (Aw Gf (pv 1) (Ak (CG K) rfl QZ Bf (Aa (pv 0) Ac)) (AH _)) (Ah (Ap (i:=2) CQ.nd rfl (Or.inl rfl) (AB (ixL K) (pv 0) (pv 1) (fun u v=>rfl)))) (Ah (AD (K:=K) (Aw Dw (Ak (CG K) rfl QZ Bf (Aa (pv 0) Ac)) Ag (AH _)) (Ah (Ap (i:=2) CQ.nd rfl (Or.inl rfl) (Am BS (AB (ixL K) (pv 0) (Am Ck (pv 1) (Ak (CG K) rfl QZ Bf (Aa (pv 0) Ac))) (fun u v=>rfl)) (Am Cf Ag (pv 1))))) Ax (by rfl) (by rfl))) (by rfl) (by rfl))
  (Ad (K:=K) (AD (K:=K) (Aw O7 (pv 2) (Am Mn Ag Ag) (AH _)) (Ah (Az (Bq (Aa (Am Ef (pv 2) (Am Mn Ag Ag)) (Aa (Am Ck (pv 2) Ag) (Aa Ag Ac)))))) Ax (by rfl) (by rfl))
  (Ah (Az (Bq (Aa Ag (Aa (Am BS (Am Ck (pv 2) Ag) (Am Cf Ag (pv 1))) (Aa Ag Ac)))))) (by rfl)) (by rfl)) (by rfl)),?_⟩
 obtain ⟨a,ns,k,rfl,hS,h63,h0,h62,q⟩:=h
 have hl : (ns.map V.int).length = ns.length:=Tx _
 have P3 : 3 ≤ sizeLine:=by decide
 have C1 : Pp 10 18:=by unfold Pp; decide
 refine ⟨_,rfl,_,_,rfl,rfl,.inl ⟨by decide,by decide⟩,_,_,rfl,rfl,?_⟩
 refine ⟨_,rfl,_,rfl,a,_,rfl,.inl hS,_,_,rfl,rfl,_,rfl,?_⟩
 rw [hl]
 have hk1 : k < (ns.length : Int) → ∃ v : Int,atI (ns.map V.int) k = some (.int v):=fun c=>KN h0 c
 have hk2 : 0 < (ns.length : Int) → ∃ v : Int,atI (ns.map V.int) (k % (ns.length : Int)) = some (.int v):=fun c=>KN (UD _ (by lia)) (UE _ c)
 refine K6 (fun c=>?_) (fun c=>?_)
 ·obtain ⟨v,hv⟩:=(hk1 (of_decide_eq_true c))
  refine ⟨_,rfl,_,rfl,a,_,_,_,rfl,rfl,hS,hv,?_⟩
  refine ⟨_,rfl,_,_,rfl,rfl,C1,_,_,rfl,rfl,_,rfl,?_⟩
  refine K6 (fun c=>?_) (fun c=>?_)
  ·exact ⟨_,rfl,_,_,rfl,rfl,C1,_,_,rfl,rfl,_,rfl,_,_,rfl,rfl,(by first | decide | (dsimp only; decide)),P3,fun p hp=>q p _ _ hp⟩
  ·exact ⟨_,rfl,_,_,rfl,rfl,(by first | decide | (dsimp only; decide)),_,rfl,_,_,rfl,rfl,.inl ⟨by decide,by decide⟩,_,_,rfl,rfl,P3,fun p hp=>q p _ _ hp⟩
 ·refine ⟨_,rfl,a,_,rfl,.inl hS,_,_,rfl,rfl,_,rfl,?_⟩
  rw [hl]
  refine K6 (fun c=>?_) (fun c=>?_)
  ·obtain ⟨v,hv⟩:=(hk2 (of_decide_eq_true c))
   have c' : 0 < (((ns.map V.int).length : Nat) : Int):=by rw [hl]; exact of_decide_eq_true c
   rw [← hl] at hv
   refine ⟨_,rfl,_,rfl,_,rfl,a,_,rfl,.inl hS,_,_,rfl,rfl,c',a,_,_,_,rfl,rfl,hS,hv,_,rfl,_,_,rfl,rfl,.inl ⟨by decide,by decide⟩,_,_,rfl,rfl,?_⟩
   refine ⟨_,rfl,_,_,rfl,rfl,C1,_,_,rfl,rfl,_,rfl,?_⟩
   refine K6 (fun c=>?_) (fun c=>?_)
   ·exact ⟨_,rfl,_,_,rfl,rfl,C1,_,_,rfl,rfl,_,rfl,_,_,rfl,rfl,(by first | decide | (dsimp only; decide)),P3,fun p hp=>q p _ _ hp⟩
   ·exact ⟨_,rfl,_,_,rfl,rfl,(by first | decide | (dsimp only; decide)),_,rfl,_,_,rfl,rfl,.inl ⟨by decide,by decide⟩,_,_,rfl,rfl,P3,fun p hp=>q p _ _ hp⟩
  ·refine ⟨_,rfl,_,_,rfl,rfl,C1,_,_,rfl,rfl,_,rfl,?_⟩
   refine K6 (fun c=>?_) (fun c=>?_)
   ·exact ⟨_,rfl,_,_,rfl,rfl,C1,_,_,rfl,rfl,_,rfl,_,_,rfl,rfl,(by first | decide | (dsimp only; decide)),P3,fun p hp=>q p _ _ hp⟩
   ·exact ⟨_,rfl,_,_,rfl,rfl,(by first | decide | (dsimp only; decide)),_,rfl,_,_,rfl,rfl,.inl ⟨by decide,by decide⟩,_,_,rfl,rfl,P3,fun p hp=>q p _ _ hp⟩
theorem Ct : AA ["_law_pen_here","_law_many","_law_drawn","_law_number"] ["_law_pen_here","_law_many"] (Af (top 133)):=⟨rfl,rfl,rfl,by decide +kernel,rfl,by decide +kernel,by decide +kernel⟩
theorem Io {f : Addr} {fd : FuncData} (F : Fun K "_law_draw" "_law_draw" (top 133) f fd) (hT : P.given.tree = none) :
 AI P w K mg base CX0 33 f fd ["_law_pen_here","_law_many"] (DE):=by
 refine F.ok Ct (fun vs H Q E h=>?_) (fun cdv A outer s H vs Q E hr h=>?_)
 ·obtain ⟨_,_,rfl,_⟩:=h; rfl
 refine ⟨_,(Ad (K:=K) (JT (Am BS (AB (ixL K) (pv 0) Ag (fun u v=>rfl)) Ag) (Mg (pv 0) Ag IX))
  (Ad (K:=K) (AD (K:=K) (Aw Dw (AB (ixL K) (pv 0) Ag (fun u v=>rfl)) Ag (AH _)) (Ad (K:=K) (Ap (i:=2) Ct.nd rfl (Or.inl rfl) (Am Ck (AB (ixL K) (pv 0) Ag (fun u v=>rfl)) (pv 1)))
  (Ad (K:=K) (JT (Am (Ez hr hT) (AB (ixL K) (pv 0) Ag (fun u v=>rfl)) (pv 1)) (Mg (pv 0) Ag IX))
  (Ah (Az (pv 2))) (by rfl)) (by rfl)) Ax (by rfl) (by rfl))
  (Ad (K:=K) (Ap (i:=3) Ct.nd rfl (Or.inl rfl) (Am Ck (Am Cf (Am BS (Am BS (AB (ixL K) (pv 0) Ag (fun u v=>rfl)) (Am Cf Ag (AB (ixL K) (pv 0) Ag (fun u v=>rfl)))) Ag) Ag) Ag))
  (Ad (K:=K) (Ap (i:=3) Ct.nd rfl (Or.inl rfl) (Am Ck (Am Cf (pv 3) (Am BS (Am BS (Am Ck (pv 3) Ag) (AB (ixL K) (pv 0) Ag (fun u v=>rfl))) Ag)) Ag))
  (Ah (Az (Am Ck (Am (Ez hr hT) (Am Ck (Am Cf (pv 3) (Am BS (Am Ck (pv 3) Ag) Ag)) Ag) Ag) (pv 1)))) (by rfl)) (by rfl)) (by rfl)) (by rfl)),?_⟩
 obtain ⟨a,m,rfl,⟨c0,c1,c2,hp⟩,h1,h2,q0⟩:=h
 have q : ∀ d c0' c2' : Int,0 ≤ d → d < m → Q (.int d) (upd H a (.lst [.int c0',.int c1,.int c2'])):=fun d _ _ h3 h4=>q0 d _ h3 h4 .put .put
 have hm : m ≠ 0:=by lia
 have q' : ∀ (o : HO) (d c0' c2' : Int),0 ≤ d → d < m → Q (.int d) (upd (upd H a o) a (.lst [.int c0',.int c1,.int c2'])):=fun o d c0' c2' h3 h4=>by rw [N4]; exact q d c0' c2' h3 h4
 refine ⟨_,rfl,a,_,_,_,rfl,rfl,SqL.of hp,rfl,_,_,rfl,rfl,_,rfl,a,_,_,_,rfl,rfl,hp,rfl,?_⟩
 refine ⟨_,rfl,a,_,_,_,rfl,rfl,SqL.of Ab,rfl,_,_,rfl,rfl,_,rfl,?_⟩
 refine K6 (fun c=>?_) (fun c=>?_)
 ·refine ⟨_,rfl,a,_,_,_,rfl,rfl,SqL.of Ab,rfl,_,rfl,_,_,rfl,rfl,(by lia : 0 < m),?_⟩
  refine ⟨_,rfl,a,_,_,_,rfl,rfl,SqL.of Ab,rfl,_,rfl,_,_,rfl,rfl,hm,_,rfl,a,_,_,_,rfl,rfl,Ab,rfl,?_⟩
  refine ⟨_,rfl,?_⟩
  exact q' _ _ _ _ (UD _ (by lia)) (UE _ (by lia))
 ·have cl : ∀ z : Int,0 < z → (0 : Int) < z:=fun _ h=>h
  refine ⟨_,rfl,a,_,_,_,rfl,rfl,SqL.of Ab,rfl,_,rfl,a,_,_,_,rfl,rfl,SqL.of Ab,rfl,_,_,rfl,rfl,.inl ⟨by decide,by decide⟩,_,_,rfl,rfl,_,_,rfl,rfl,_,_,rfl,rfl,.inr (.inl ⟨by decide,by decide⟩),_,_,rfl,rfl,(by first | decide | (dsimp only; decide)),?_⟩
  have n1:=UD ((c1 + 40503 * (c2 + 1) + 1) * 48271) (show (2147483647 : Int) ≠ 0 by decide)
  have n2:=UE ((c1 + 40503 * (c2 + 1) + 1) * 48271) (show (0 : Int) < 2147483647 by decide)
  generalize hN : (c1 + 40503 * (c2 + 1) + 1) * 48271 % 2147483647 = N at n1 n2
  refine ⟨_,rfl,_,rfl,_,_,rfl,rfl,(by first | decide | (dsimp only; decide)),_,rfl,a,_,_,_,rfl,rfl,SqL.of Ab,rfl,_,_,rfl,rfl,_,_,rfl,rfl,_,_,rfl,rfl,.inl ?_,_,_,rfl,rfl,(by first | decide | (dsimp only; decide)),?_⟩
  ·(try rw [hN]); lia
  try rw [hN]
  have n3:=UD (N * (N % 65521 + (c2 + 1) + 3)) (show (2147483629 : Int) ≠ 0 by decide)
  have n4:=UE (N * (N % 65521 + (c2 + 1) + 3)) (show (0 : Int) < 2147483629 by decide)
  generalize N * (N % 65521 + (c2 + 1) + 3) % 2147483629 = M at n3 n4
  refine ⟨_,rfl,_,rfl,_,_,rfl,rfl,(by first | decide | (dsimp only; decide)),_,_,rfl,rfl,_,_,rfl,rfl,.inl ⟨by lia,by lia⟩,_,_,rfl,rfl,(by first | decide | (dsimp only; decide)),_,_,rfl,rfl,(by first | decide | (dsimp only; decide)),_,rfl,_,_,rfl,rfl,(by lia : 0 < m),?_⟩
  exact q _ _ _ (UD _ (by lia)) (UE _ (by lia))
theorem BK : AA ["_law_top","_law_bottom","_law_one","_law_other"] ["_law_top","_law_bottom"] (Af (top 134)):=⟨rfl,rfl,rfl,by decide +kernel,rfl,by decide +kernel,by decide +kernel⟩
theorem Gn {f : Addr} {fd : FuncData} (F : Fun K "_law_lowest" "_law_lowest" (top 134) f fd) (R8 : mg "abs" = none) (hT : P.given.tree = none) :
 AI P w K mg base CX0 33 f fd ["_law_top","_law_bottom"] (IV):=by
 refine F.ok BK (fun vs H Q E h=>?_) (fun cdv A outer s H vs Q E hr h=>?_)
 ·obtain ⟨_,_,rfl,_⟩:=h; rfl
 refine ⟨_,(Ad (K:=K) (Ap (i:=2) BK.nd rfl (Or.inl rfl) (Ak EJ rfl R8 ID (Aa (pv 0) Ac)))
  (Ad (K:=K) (Ap (i:=3) BK.nd rfl (Or.inl rfl) (Ak EJ rfl R8 ID (Aa (pv 1) Ac)))
  (Ad (K:=K) (Eu PassesOwn.never (Aw Dw (pv 3) Ag (AH _)) (Ah (Oy (i:=2) (j:=3) rfl BK.nd rfl rfl (by decide) rfl rfl (Aa (pv 3) (Aa (Am Ck (pv 2) (pv 3)) Ac)) (by with_unfolding_all rfl))))
  (Ad (K:=K) (AD (K:=K) (Aw Gf (pv 1) Ag (AH _)) (Ah (Ap (i:=2) BK.nd rfl (Or.inl rfl) (Am Ef Ag (pv 2)))) Ax (by rfl) (by rfl))
  (Ah (Az (AG (Aa (Am (Ez hr hT) (pv 0) (pv 2)) (Aa (Am (Ez hr hT) (pv 1) (pv 2)) Ac))))) (by rfl)) (by rfl)) (by rfl)) (by rfl)),?_⟩
 obtain ⟨a,b,rfl,hb,q⟩:=h
 refine ⟨_,rfl,a,rfl,?_⟩
 refine ⟨_,rfl,b,rfl,?_⟩
 refine IL (L3 H a b fun H a b σ H'=>H' = H ∧ ∃ (x y : Int),σ = [some (.int a),some (.int b),some (.int x),some (.int y)] ∧ 0 ≤ x ∧ 0 ≤ y ∧ Ui x y = Ui a b) (fun σ _=>mu 3 σ)
  ⟨rfl,_,_,rfl,?_,?_,?_⟩ ?_ ?_
 ·rw [Nm.abs_if]; exact Ve _
 ·rw [Nm.abs_if]; exact Ve _
 ·rw [Nm.abs_if,Nm.abs_if]; rfl
 ·rintro σ H' hR1
  refine Hl hR1 fun hq1 hz3=>?_
  refine K9 hz3 fun x y hz3'=>?_
  clear hz3
  refine II hz3' fun hq2 hx hy hg=>?_
  clear hz3'
  obtain rfl:=hq1
  obtain rfl:=hq2
  try clear hR1
  refine ⟨_,rfl,_,_,rfl,rfl,_,rfl,?_⟩
  by_cases hy0 : y = 0
  ·subst hy0
   refine Bk ?_
   have e : (Ui a b : Int) = x:=by rw [← hg,Int.gcd_zero]; lia
   subst e
   refine ⟨_,rfl,_,_,rfl,rfl,_,rfl,?_⟩
   have hd : Nm.msr a b ≠ 0:=Nm.msr_ne hb
   have fin : ∀ p,H' p = none → Q (.ref p) (upd H' p (.tup [.int (a.fdiv (Nm.msr a b)),.int (b.fdiv (Nm.msr a b))])):=fun p hp=>by
    rw [Nm.top_msr hb,Nm.bottom_msr hb]; exact q p hp
   by_cases hb0 : b < 0
   ·have hd' : Nm.msr a b = 0 - (Ui a b : Int):=by unfold Nm.msr; rw [if_pos hb0]; lia
    rw [hd'] at hd fin
    refine BQ (by rw [decide_eq_true hb0] <;> rfl) ⟨_,rfl,_,_,rfl,rfl,?_⟩
    exact ⟨_,rfl,_,rfl,_,_,rfl,rfl,hd,_,rfl,_,rfl,_,_,rfl,rfl,hd,(by decide : 2 ≤ sizeLine),fin⟩
   ·have hd' : Nm.msr a b = (Ui a b : Int):=by unfold Nm.msr; rw [if_neg hb0]
    rw [hd'] at hd fin
    refine Bp (by rw [decide_eq_false hb0] <;> rfl) ?_
    exact ⟨_,rfl,_,rfl,_,_,rfl,rfl,hd,_,rfl,_,rfl,_,_,rfl,rfl,hd,(by decide : 2 ≤ sizeLine),fin⟩
  ·have hyp : 0 < y:=by lia
   refine BQ (by rw [decide_eq_true hyp] <;> rfl) ?_
   refine ⟨_,rfl,_,rfl,_,rfl,_,_,rfl,rfl,hyp,_,_,rfl,⟨rfl,y,x % y,rfl,hy,UD _ hy0,?_⟩,?_⟩
   ·rw [Nm.gcd_turn]; exact hg
   ·show (x % y).toNat < y.toNat
    have:=UE x hyp
    lia
 ·rintro σ H' Q1 Q2 hm hR2
  obtain ⟨v,e,i,j,e1,e2,k,ek,q1⟩:=hR2
  try clear hR2
  exact ⟨v,e,i,j,e1,e2,k,ek,hm _ _ q1⟩
theorem HY : AA ["_law_a","_law_b"] ["_law_a","_law_b"] (Af (top 135)):=⟨rfl,rfl,rfl,by decide +kernel,rfl,by decide +kernel,by decide +kernel⟩
theorem Im {f : Addr} {fd : FuncData} (F : Fun K "_law_plus" "_law_plus" (top 135) f fd) (Rc : Fd P w K mg base 33 "_law_lowest" ["_law_top","_law_bottom"] (IV)) (hT : P.given.tree = none) :
 AI P w K mg base CX0 34 f fd ["_law_a","_law_b"] (M4 K (· + ·)):=by
 refine F.ok HY (fun vs H Q E h=>?_) (fun cdv A outer s H vs Q E hr h=>?_)
 ·obtain ⟨_,_,_,_,_,_,rfl,_⟩:=h; rfl
 refine ⟨_,(Ah (Az (AF Rc hr rfl (Aa (Am BS (Am Cf (AB (ixT K) (pv 0) Ag (fun u v=>rfl)) (AB (ixT K) (pv 1) Ag (fun u v=>rfl))) (Am Cf (AB (ixT K) (pv 1) Ag (fun u v=>rfl)) (AB (ixT K) (pv 0) Ag (fun u v=>rfl)))) (Aa (Am Cf (AB (ixT K) (pv 0) Ag (fun u v=>rfl)) (AB (ixT K) (pv 1) Ag (fun u v=>rfl))) Ac))))),?_⟩
 obtain ⟨x,y,p,q,m,n,rfl,⟨r,rfl,hr⟩,⟨u,rfl,hu⟩,hp,hq,hmn,k⟩:=h
 refine ⟨_,rfl,r,_,_,_,rfl,rfl,hr,rfl,_,rfl,u,_,_,_,rfl,rfl,hu,rfl,_,_,rfl,rfl,JH.bd hp.1 hq.2,_,rfl,u,_,_,_,rfl,rfl,hu,rfl,_,rfl,r,_,_,_,rfl,rfl,hr,rfl,_,_,rfl,rfl,JH.bd hq.1 hp.2,_,_,rfl,rfl,?_⟩
 refine ⟨_,rfl,r,_,_,_,rfl,rfl,hr,rfl,_,rfl,u,_,_,_,rfl,rfl,hu,rfl,_,_,rfl,rfl,JH.bd hp.2 hq.2,?_⟩
 refine ⟨_,_,rfl,Int.mul_ne_zero (Nm.den_ne p) (Nm.den_ne q),fun z hz=>?_⟩
 have e:=k z hz
 try dsimp only at e
 rw [← Nm.plus_eq] at e
 exact e
theorem CW : AA ["_law_pen_here","_law_places","_law_x"] ["_law_pen_here","_law_places"] (Af (top 140)):=⟨rfl,rfl,rfl,by decide +kernel,rfl,by decide +kernel,by decide +kernel⟩
theorem He {f : Addr} {fd : FuncData} (F : Fun K "_law_fresh" "_law_fresh" (top 140) f fd) (Rc : Fd P w K mg base 33 "_law_lowest" ["_law_top","_law_bottom"] (IV)) (RX : Fd P w K mg base 34 "_law_plus" ["_law_a","_law_b"] (M4 K (· + ·))) (R5 : Fd P w K mg base 33 "_law_draw" ["_law_pen_here","_law_many"] (DE)) (hT : P.given.tree = none) :
 AI P w K mg base CX0 35 f fd ["_law_pen_here","_law_places"] (HS K):=by
 refine F.ok CW (fun vs H Q E h=>?_) (fun cdv A outer s H vs Q E hr h=>?_)
 ·obtain ⟨_,_,_,_,rfl,_⟩:=h; rfl
 refine ⟨_,(Ad (K:=K) (Ap (i:=2) CW.nd rfl (Or.inl rfl) (AF Rc hr rfl (Aa (Am Ef (AF R5 hr rfl (Aa (pv 0) (Aa Ag Ac))) Ag) (Aa (Am BS Ag (AF R5 hr rfl (Aa (pv 0) (Aa Ag Ac)))) Ac))))
  (Ad (K:=K) (Eu PassesOwn.never (Aw (inD K hr) (pv 2) (pv 1) (by with_unfolding_all rfl)) (Ah (Ap (i:=2) CW.nd rfl (Or.inl rfl) (AF RX hr rfl (Aa (pv 2) (Aa (AG (Aa Ag (Aa Ag Ac))) Ac))))))
  (Ah (Az (pv 2))) (by rfl)) (by rfl)),?_⟩
 obtain ⟨a,l,zs,qs,rfl,pn,la,el,hz,h50,q⟩:=h
 have P2 : 2 ≤ sizeLine:=by decide
 refine ⟨_,rfl,a,41,rfl,pn,by decide,by decide,fun d H1 d0 d1 o1 p1=>⟨_,_,rfl,rfl,_,rfl,a,3,rfl,p1,by decide,by decide,fun e H2 e0 e1 o2 p2=>⟨_,_,rfl,rfl,_,_,rfl,by lia,fun r hr=>?_⟩⟩⟩
 have m2 : Mv a H (upd H2 r (nT (Uj (d - 20) (1 + e)))):=(o1.mv.trans o2.mv).trans (Mv.new hr)
 have p3:=p2.same (o:=nT (Uj (d - 20) (1 + e))) hr
 have hr0 : upd H2 r (nT (Uj (d - 20) (1 + e))) r = some (nT (Uj (d - 20) (1 + e))):=Ab
 have el3:=m2 _ _ la el
 have hz3:=C7.mv hz pn m2
 generalize upd H2 r (nT (Uj (d - 20) (1 + e))) = H3 at m2 p3 hr0 el3 hz3 ⊢
 refine ⟨fun μ σ H4=>Ae H3 H4 ∧ ∃ (r : Addr) (x : Rat) (j : Nat),σ = [some (.ref a),some (.ref l),some (.ref r)] ∧ H4 r = some (nT x) ∧ x = Uj (d - 20) (1 + e) + (j : Rat) ∧ μ = cnt x qs ∧ j + cnt x qs ≤ qs.length,
  ⟨_,Ae.refl _,r,_,0,rfl,hr0,(by have z : ((0 : Nat) : Rat) = 0:=rfl; rw [z]; grind),rfl,by have:=MQ (Uj (d - 20) (1 + e)) qs; lia⟩,?_⟩
 rintro μ σ H4 hR1
 refine Hl hR1 fun s4 hz7=>?_
 refine FA hz7 fun r' x j hz7'=>?_
 clear hz7
 refine NO hz7' fun hq5 hr' hx hq6 hj=>?_
 clear hz7'
 obtain rfl:=hq5
 obtain rfl:=hq6
 try clear hR1
 have hfg : Fg x:=by rw [hx]; exact MK (by lia) (by lia) (by lia) (by lia)
 have hxb : RB 20 x:=⟨by unfold Bd; exact Nat.lt_trans hfg.1 (by decide),by unfold Bd; have:=hfg.2; lia⟩
 refine ⟨_,rfl,_,rfl,?_⟩
 refine inN (BC.of hr') (SqL.of (s4 _ _ el3)) (C7.same hz3 s4) ?_
 refine ⟨_,rfl,?_⟩
 by_cases hin : x ∈ qs
 ·refine BQ (by rw [decide_eq_true hin] <;> rfl) ⟨_,fun _ _ h=>h,?_⟩
  refine ⟨_,rfl,P2,fun t ht=>⟨_,_,_,_,20,1,rfl,BC.of ((Ae.new ht) _ _ hr'),BC.of (Ab (o:=nT 1)),hxb,RB.one (by decide),by lia,fun u hu=>?_⟩⟩
  refine ⟨_,Kc hin,(s4.trans (Ae.new ht)).trans (Ae.new hu),u,x + 1,j + 1,rfl,Ab,?_,rfl,by have:=Kc hin; lia⟩
  rw [hx,Rat.natCast_add]
  have z : ((1 : Nat) : Rat) = 1:=rfl
  rw [z]; grind
 ·exact Bp (by rw [decide_eq_false hin] <;> rfl) ⟨_,rfl,q r' x H4 (m2.trans s4.mv) (p3.sm s4) hr' hin hfg⟩
theorem DG : AA ["_law_pen_here","_law_way"] ["_law_pen_here"] (Af (top 139)):=⟨rfl,rfl,rfl,by decide +kernel,rfl,by decide +kernel,by decide +kernel⟩
theorem Gp {f : Addr} {fd : FuncData} (F : Fun K "_law_little" "_law_little" (top 139) f fd) (R5 : Fd P w K mg base 33 "_law_draw" ["_law_pen_here","_law_many"] (DE)) (Rc : Fd P w K mg base 33 "_law_lowest" ["_law_top","_law_bottom"] (IV)) (hT : P.given.tree = none) :
 AI P w K mg base CX0 34 f fd ["_law_pen_here"] (FV):=by
 refine F.ok DG (fun vs H Q E h=>?_) (fun cdv A outer s H vs Q E hr h=>?_)
 ·obtain ⟨_,rfl,_⟩:=h; rfl
 refine ⟨_,(Ad (K:=K) (Ap (i:=1) DG.nd rfl (Or.inl rfl) (AF R5 hr rfl (Aa (pv 0) (Aa Ag Ac))))
  (Ad (K:=K) (AD (K:=K) (Aw Gf (pv 1) Ag (AH _)) (Ah (Az (AF Rc hr rfl (Aa (Am Ef (AF R5 hr rfl (Aa (pv 0) (Aa Ag Ac))) Ag) (Aa (Am BS Ag (AF R5 hr rfl (Aa (pv 0) (Aa (AB (ixL K) (Bq (Aa Ag (Aa Ag (Aa Ag Ac)))) (pv 1) (fun u v=>rfl)) Ac)))) Ac))))) Ax (by rfl) (by rfl))
  (Ah (Az (AF Rc hr rfl (Aa (Am Ef (AF R5 hr rfl (Aa (pv 0) (Aa Ag Ac))) Ag) (Aa (Am BS Ag (AF R5 hr rfl (Aa (pv 0) (Aa Ag Ac)))) Ac))))) (by rfl)) (by rfl)),?_⟩
 obtain ⟨a,rfl,pn,q⟩:=h
 refine ⟨_,rfl,a,4,rfl,pn,by decide,by decide,fun w H1 w0 w1 o1 p1=>?_⟩
 refine ⟨_,rfl,_,_,rfl,rfl,_,rfl,?_⟩
 refine K6 (fun c=>?_) (fun c=>?_)
 ·refine ⟨_,rfl,a,21,rfl,p1,by decide,by decide,fun d H2 d0 d1 o2 p2=>⟨_,_,rfl,rfl,?_⟩⟩
  refine ⟨_,rfl,(by decide : 3 ≤ sizeLine),fun l hl=>?_⟩
  have c':=of_decide_eq_true c
  obtain ⟨v,hv,hm⟩:=(NL (xs:=[1,1,6]) (i:=w) w0 c')
  have hv1 : 1 ≤ v ∧ v ≤ 6:=by
   simp at hm; lia
  refine ⟨_,rfl,l,_,_,_,rfl,rfl,SqL.of Ab,hv,?_⟩
  refine ⟨a,v,rfl,p2.same hl,by lia,by lia,fun e H3 e0 e1 o3 p3=>⟨_,_,rfl,rfl,_,_,rfl,by lia,fun r hr=>?_⟩⟩
  exact q _ r _ (o1.mv.trans (o2.mv.trans ((Mv.new hl).trans (o3.mv.trans (Mv.new hr))))) (p3.same hr) Ab (K8 (by lia) (by lia) (by lia))
 refine ⟨_,rfl,a,1999999,rfl,p1,by decide,by decide,fun d H2 d0 d1 o2 p2=>⟨_,_,rfl,rfl,?_⟩⟩
 refine ⟨_,rfl,a,999,rfl,p2,by decide,by decide,fun e H3 e0 e1 o3 p3=>⟨_,_,rfl,rfl,_,_,rfl,by lia,fun r hr=>?_⟩⟩
 exact q _ r _ (o1.mv.trans (o2.mv.trans (o3.mv.trans (Mv.new hr)))) (p3.same hr) Ab (K8 (by lia) (by lia) (by lia))
theorem AZ : AA ["_law_pen_here","_law_most","_law_room","_law_found","_law_point"] ["_law_pen_here","_law_most"] (Af (top 141)):=⟨rfl,rfl,rfl,by decide +kernel,rfl,by decide +kernel,by decide +kernel⟩
theorem E6 {f : Addr} {fd : FuncData} (F : Fun K "_law_desk_points" "_law_desk_points" (top 141) f fd) (R5 : Fd P w K mg base 33 "_law_draw" ["_law_pen_here","_law_many"] (DE)) (RY : Fd P w K mg base 35 "_law_fresh" ["_law_pen_here","_law_places"] (HS K)) (RC : Fd P w K mg base 34 "_law_little" ["_law_pen_here"] (FV)) (R4 : mg "tuple" = none) (QZ : mg "len" = none) (hT : P.given.tree = none) :
 AI P w K mg base CX0 36 f fd ["_law_pen_here","_law_most"] (EU K):=by
 refine F.ok AZ (fun vs H Q E h=>?_) (fun cdv A outer s H vs Q E hr h=>?_)
 ·obtain ⟨_,_,rfl,_⟩:=h; rfl
 refine ⟨_,(Ad (K:=K) (Ap (i:=2) AZ.nd rfl (Or.inl rfl) (Am BS Ag (AF R5 hr rfl (Aa (pv 0) (Aa (pv 1) Ac)))))
  (Ad (K:=K) (Ap (i:=3) AZ.nd rfl (Or.inl rfl) (Bq Ac))
  (Ad (K:=K) (Eu PassesOwn.never (Aw Dw (pv 2) Ag (AH _)) (Ad (K:=K) (Ap (i:=4) AZ.nd rfl (Or.inl rfl) (AG (Aa (AF RY hr rfl (Aa (pv 0) (Aa (Dv rfl (N:=["_law_one"]) (nt:=1) (js:=[]) (Be.look (NX:=["_law_pen_here","_law_most","_law_room","_law_found","_law_point"]) (sc:=Af (top 141)) rfl rfl (by decide +kernel)) (piL K (pv 3)) (fun u1 u2 u3 u4 u5=>(AK (i:=0) (show List.Nodup (["_law_one"] : List Str) from by decide +kernel) rfl (Or.inl rfl))) (AS (by decide)) (fun u1 u2 u3 u4 u5=>Bt) (fun u1 u2 u3 u4 u5=>(AB (ixT K) (pv 0) Ag (fun u v=>rfl)))) Ac))) (Aa (AF RC hr rfl (Aa (pv 0) Ac)) Ac))))
  (Ad (K:=K) (AD (K:=K) (PW.pt (Md (Aw Dw (pv 2) Ag (AH _)) (Ko (Aw DL (AF R5 hr rfl (Aa (pv 0) (Aa Ag Ac))) Ag (AH _))))) (Ah (Ap (i:=4) AZ.nd rfl (Or.inl rfl) (Am (QS K) (pv 4) (AG (Aa (AF RC hr rfl (Aa (pv 0) Ac)) Ac))))) Ax (by rfl) (by rfl))
  (Ad (K:=K) (Ap (i:=2) AZ.nd rfl (Or.inl rfl) (Am BS (Am Ef (pv 2) (Ak (CG K) rfl QZ Bf (Aa (pv 4) Ac))) Ag))
  (Ah (Cu (BM K PySem.F.plainAttrs_list PySem.F.slot_list_append PySem.F.type_list_append E2 (pv 3) (Aa (pv 4) Ac)))) (by rfl)) (by rfl)) (by rfl)))
  (Ah (Az (Ba (FR K) rfl R4 C6 (Aa (pv 3) Ac)))) (by rfl)) (by rfl)) (by rfl)),?_⟩
 obtain ⟨a,most,rfl,pn,h1,h12,q⟩:=h
 have P0 : 0 ≤ sizeLine:=by decide
 have P1 : 1 ≤ sizeLine:=by decide
 have P2 : 2 ≤ sizeLine:=by decide
 refine ⟨_,rfl,_,rfl,a,most,rfl,pn,by lia,by lia,fun d H1 d0 d1 o1 p1=>⟨_,_,rfl,rfl,P0,fun f hf=>?_⟩⟩
 have fa : f ≠ a:=p1.ne' hf
 have hfH : H f = none:=Mv.free o1.mv fa hf
 refine ⟨fun μ σ H'=>Mv a H H' ∧ Pen H' a ∧ ∃ (zs : List V) (pss : List (List Rat)) (R : Int) (z4 : Option V),σ = [some (.ref a),some (.int most),some (.int R),some (.ref f),z4] ∧ H' f = some (.lst zs) ∧ Bg K H' zs pss ∧ P23 pss ∧ (pss.map fun ps=>ps.getD 0 0).Nodup ∧ (∀ ps ∈ pss,∀ q ∈ ps,Fg q) ∧ ((BJ pss).length : Int) + R = 1 + d ∧ 0 ≤ R ∧ (R = 0 → 1 ≤ pss.length) ∧ μ = R.toNat,
  ⟨_,Mv.put' o1.mv hfH,p1.same hf,[],[],1 + d,none,rfl,Ab,.nil,(fun _ h=>nomatch h),List.nodup_nil,(fun _ h=>nomatch h),(by show ((0 : Nat) : Int) + _ = _; lia),by lia,fun z=>by lia,rfl⟩,?_⟩
 rintro μ σ H2 hR1
 refine Hk hR1 fun mv pn2 hz10=>?_
 refine QQ hz10 fun zs pss R z4 hz10'=>?_
 clear hz10
 refine Qo hz10' fun hq8 ef hp h23 hnd hfg hR R0 hne hq9=>?_
 clear hz10'
 obtain rfl:=hq8
 obtain rfl:=hq9
 try clear hR1
 have g12:=DT h23
 have hzl:=hp.length
 refine ⟨_,rfl,_,_,rfl,rfl,_,rfl,?_⟩
 by_cases hR0 : R > 0
 ·refine BQ (by rw [decide_eq_true hR0] <;> rfl) ⟨_,fun _ _ h=>h,?_⟩
  refine ⟨_,rfl,Cq ⟨_,rfl,f,rfl,⟨_,SqL.of ef⟩,Gy (xs:=zs) (L3 H2 K pss fun H2 K pss i ys H'=>H' = H2 ∧ ys.length = i ∧ C7 K H2 ys ((pss.map fun ps=>ps.getD 0 0).take i)) ⟨rfl,rfl,.nil⟩ (fun i ys H' _ h=>⟨by rw [h.1]; exact SqL.of ef,h.2.1⟩) (SV (BG (by lia))) ?_ ?_⟩⟩
  ·rintro i v ys H' hv ⟨rfl,hyl,hyn⟩
   obtain ⟨ps,hps,a',us,rr,rfl,hs,hn,h0,hr⟩:=(Paired.get hp hv)
   refine ⟨_,rfl,a',us,_,.ref rr,rfl,rfl,hs,AX (j:=0) h0,rfl,by simp [hyl],?_⟩
   rw [UW,U1,hps]
   exact Paired.snoc hyn (BC.of hr)
  rintro ys H' ⟨rfl,hyl,hyn⟩ l hl
  rw [UC (by rw [Tx]; lia)] at hyn
  have sl:=Ae.new (o:=.lst ys) hl
  have ef1:=sl _ _ ef
  have hp1:=Bg.same hp sl
  have pn1:=pn2.sm sl
  have mv1:=mv.trans sl.mv
  have la : l ≠ a:=pn2.ne' hl
  refine ⟨a,l,ys,_,rfl,pn1,la,Ab,C7.same hyn sl,by rw [Tx]; lia,fun rx x H3 m3 p3 ex hx hfx=>⟨_,rfl,a,rfl,p3,fun y ry H4 m4 p4 ey hfy=>⟨P2,fun t ht=>?_⟩⟩⟩
  have ex4:=m4 _ _ (p3.ne ex (O9 x)) ex
  have st:=Ae.new (o:=.tup [.ref rx,.ref ry]) ht
  have m15:=(m3.trans m4).trans st.mv
  have p5:=p4.sm st
  have ef5:=m15 _ _ fa ef1
  have hp5:=Bg.mv hp1 pn1 m15
  have mv5:=mv1.trans m15
  have hpt : PtT K (upd H4 t (.tup [.ref rx,.ref ry])) (.ref t) [x,y]:=⟨t,_,rx,rfl,SqT.of Ab,.cons (BC.of (st _ _ ex4)) (.cons (BC.of (st _ _ ey)) .nil),rfl,st _ _ ex4⟩
  generalize upd H4 t (.tup [.ref rx,.ref ry]) = H5 at p5 ef5 hp5 mv5 hpt ⊢
  clear ex4 st m15 ht ef1 hp1 mv1 pn1 hyn hyl sl hl la m3 m4 p3 p4 ex ey
  try dsimp only
  refine Ld (L9 a H f zs K pss most R x fun a H f zs K pss most R x σ' H'=>Mv a H H' ∧ Pen H' a ∧ H' f = some (.lst zs) ∧ Bg K H' zs pss ∧ ∃ (t : Addr) (ps : List Rat),σ' = [some (.ref a),some (.int most),some (.int R),some (.ref f),some (.ref t)] ∧ PtT K H' (.ref t) ps ∧ ps.getD 0 0 = x ∧ (ps.length = 2 ∨ ps.length = 3 ∧ 1 < R) ∧ ∀ q ∈ ps,Fg q) (fun nx hnx=>?_) ?_
  ·refine ⟨_,rfl,_,_,rfl,rfl,_,rfl,?_⟩
   have fin2 : ∀ H',Mv a H H' → Pen H' a → H' f = some (.lst zs) → Bg K H' zs pss → PtT K H' (.ref t) [x,y] → nx [some (.ref a),some (.int most),some (.int R),some (.ref f),some (.ref t)] H':=fun H' u1 u2 u3 u4 u5=>hnx _ _ ⟨u1,u2,u3,u4,t,[x,y],rfl,u5,rfl,.inl rfl,fun c hc=>by
    rcases T1.mp hc with z | z
    ·rw [z]; exact hfx
    ·rw [Ut.mp z]; exact hfy⟩
   by_cases hR1 : (1 : Int) < R
   ·refine BQ (by rw [decide_eq_true hR1] <;> rfl) ⟨_,rfl,a,4,rfl,p5,by decide,by decide,fun e H6 e0 e1 o6 p6=>⟨rfl,_,rfl,?_⟩⟩
    have hpt6:=PtT.mv hpt p5 o6.mv
    have ef6:=o6.mv _ _ fa ef5
    have hp6:=Bg.mv hp5 p5 o6.mv
    by_cases he : V.int e = V.int 0
    ·refine BQ (by rw [decide_eq_true he] <;> rfl) ⟨_,rfl,_,rfl,a,rfl,p6,fun z rz H7 m7 p7 ez hfz=>⟨P1,fun t1 ht1=>?_⟩⟩
     have s8:=Ae.new (o:=.tup [.ref rz]) ht1
     refine FA (PtT.same (PtT.mv hpt6 p6 m7) s8) fun t' us rr hz13'=>?_
     refine NO hz13' fun et hs hn h0 hr=>?_
     clear hz13'
     cases et
     have hul:=hn.length
     refine ⟨t,t1,us,_,rfl,rfl,hs,SqT.of Ab,(fun z=>by rw [z] at hul; cases hul),by show us.length + 1 ≤ _; rw [hul]; exact (show 3 ≤ sizeLine by decide),nofun,fun _ t2 ht2=>?_⟩
     have s9:=Ae.new (o:=.tup (us ++ [.ref rz])) ht2
     have m9:=(m7.trans s8.mv).trans s9.mv
     refine hnx _ _ ⟨(mv5.trans o6.mv).trans m9,(p7.sm s8).sm s9,m9 _ _ fa ef6,Bg.mv hp6 p6 m9,t2,[x,y] ++ [z],rfl,⟨t2,us ++ [.ref rz],rr,rfl,SqT.of Ab,Paired.snoc (C7.same hn s9) (BC.of (s9 _ _ (s8 _ _ ez))),by rw [U0 (by rw [hul]; exact Nat.zero_lt_two)]; exact h0,s9 _ _ hr⟩,rfl,.inr ⟨rfl,hR1⟩,fun c hc=>?_⟩
     rcases T2.mp hc with u | u
     ·rcases T1.mp u with u | u
      ·rw [u]; exact hfx
      ·rw [Ut.mp u]; exact hfy
     ·rw [Ut.mp u]; exact hfz
    ·exact Bp (by rw [decide_eq_false he] <;> rfl) (fin2 _ (mv5.trans o6.mv) p6 ef6 hp6 hpt6)
   ·exact Bp (by rw [decide_eq_false hR1] <;> rfl) (fin2 _ mv5 p5 ef5 hp5 hpt)
  rintro σ' H6 hR2
  obtain ⟨mv6,p6,ef6,hp6,t,ps,rfl,hpt6,hx0,hps,hpf⟩:=hR2
  try clear hR2
  refine FA (id hpt6) fun t' us rr hz16'=>?_
  refine NO hz16' fun et hs hn h0 hr=>?_
  clear hz16'
  cases et
  have hul:=hn.length
  refine ⟨_,rfl,_,rfl,t,us,rfl,.inr hs,_,_,rfl,rfl,_,_,rfl,rfl,?_⟩
  refine ⟨_,rfl,.inl ⟨rfl,_,SqL.of ef6⟩,_,rfl,f,zs,.ref t,rfl,rfl,ef6,BG (by lia),?_⟩
  have hts : (BJ (pss ++ [ps])).length = (BJ pss).length + (ps.length - 1):=by
   rw [JL,U4]
   congr 1
   rcases hps with z | ⟨z,_⟩
   ·match ps,z with
    | [_,_],_=>rfl
   ·match ps,z with
    | [_,_,_],_=>rfl
  refine ⟨_,?_,Mv.put' mv6 hfH,p6.put' fa,zs ++ [.ref t],pss ++ [ps],_,_,rfl,Ab,Paired.snoc (Bg.put hp6 ef6) (PtT.put hpt6 ef6),Ex h23 (by rcases hps with z | ⟨z,_⟩; exact .inl z; exact .inr z),?_,?_,?_,?_,fun _=>by rw [U4]; exact Nat.le_add_left 1 _,rfl⟩
  ·rw [hul]; lia
  ·rw [UQ,List.nodup_append]
   refine ⟨hnd,List.pairwise_singleton ..,fun b hb c hc e=>?_⟩
   rw [Vd,Ut,hx0] at hc
   exact hx (by rw [← hc,← e]; exact hb)
  ·intro p hp q hq
   rcases T2.mp hp with z | z
   ·exact hfg p z q hq
   ·rw [Ut.mp z] at hq; exact hpf q hq
  ·rw [hts,hul]; lia
  ·rw [hul]; lia
 refine Bp (by rw [decide_eq_false hR0] <;> rfl) ?_
 refine ⟨_,rfl,f,zs,rfl,.inl ⟨SqL.of ef,fun r hr=>?_⟩⟩
 have s:=Ae.new (o:=.tup zs) hr
 have hR00 : R = 0:=by lia
 exact q r zs pss _ (mv.trans s.mv) (pn2.sm s) ⟨SqT.of Ab,Bg.same hp s,h23,hne hR00,hnd,by lia⟩ hfg (by lia)
theorem HX : AA ["_law_number"] ["_law_number"] (Af (top 136)):=⟨rfl,rfl,rfl,by decide +kernel,rfl,by decide +kernel,by decide +kernel⟩
theorem Il {f : Addr} {fd : FuncData} (F : Fun K "_law_text" "_law_text" (top 136) f fd) (R3 : mg "str" = none) (hT : P.given.tree = none) :
 AI P w K mg base CX0 33 f fd ["_law_number"] (ER K):=by
 refine F.ok HX (fun vs H Q E h=>?_) (fun cdv A outer s H vs Q E hr h=>?_)
 ·obtain ⟨_,_,rfl,_⟩:=h; rfl
 refine ⟨_,(Ad (K:=K) (AD (K:=K) (Aw DL (AB (ixT K) (pv 0) Ag (fun u v=>rfl)) Ag (AH _)) (Ah (Az (Ba Bz rfl R3 CJ (Aa (AB (ixT K) (pv 0) Ag (fun u v=>rfl)) Ac)))) Ax (by rfl) (by rfl))
  (Ah (Az (Am Al (Am Al (Ba Bz rfl R3 CJ (Aa (AB (ixT K) (pv 0) Ag (fun u v=>rfl)) Ac)) Aj) (Ba Bz rfl R3 CJ (Aa (AB (ixT K) (pv 0) Ag (fun u v=>rfl)) Ac))))) (by rfl)),?_⟩
 obtain ⟨x,q,rfl,⟨r,rfl,hr'⟩,hf,q0⟩:=h
 have hd:=hf.2
 have hs:=sizeLine_eq
 have l1:=DP hf.1
 have l2:=DP (i:=(q.den : Int)) (by lia)
 refine ⟨_,rfl,r,_,_,_,rfl,rfl,hr',rfl,rfl,_,rfl,?_⟩
 by_cases h1 : q.den = 1
 ·have e : tx q = txI q.num:=if_pos h1
  rw [e] at q0
  exact BQ (by rw [decide_eq_true (show V.int (q.den : Int) = V.int 1 by rw [h1]; rfl)] <;> rfl) ⟨_,rfl,r,_,_,_,rfl,rfl,hr',rfl,_,rfl,Fb hf.1,q0⟩
 ·have e : tx q = txI q.num ++ Str.ofString "/" ++ txI q.den:=if_neg h1
  rw [e] at q0
  rw [decide_eq_false (fun z=>h1 (by have:=V.int.inj z; lia))]
  have l3 : (Str.ofString "/").length = 1:=by rw [AE,BP]; rfl
  have l4 : (txI q.num ++ Str.ofString "/").length = (txI q.num).length + 1:=by rw [AE,AL,U4,← AE,← AE,l3]
  refine Bk ⟨_,rfl,r,_,_,_,rfl,rfl,hr',rfl,_,rfl,Fb hf.1,_,_,rfl,rfl,?_,_,rfl,r,_,_,_,rfl,rfl,hr',rfl,_,rfl,Fb (by lia),_,_,rfl,rfl,?_,q0⟩
  ·show (txI q.num).length + (Str.ofString "/").length ≤ sizeLine
   lia
  ·show (txI q.num ++ Str.ofString "/").length + (txI q.den).length ≤ sizeLine
   lia
theorem E3 : AA ["_law_points"] ["_law_points"] (Af (top 138)):=⟨rfl,rfl,rfl,by decide +kernel,rfl,by decide +kernel,by decide +kernel⟩
theorem E5 {f : Addr} {fd : FuncData} (F : Fun K "_law_points_text" "_law_points_text" (top 138) f fd) (Rk : Fd P w K mg base 33 "_law_text" ["_law_number"] (ER K)) (hT : P.given.tree = none) :
 AI P w K mg base CX0 34 f fd ["_law_points"] (DW K):=by
 refine F.ok E3 (fun vs H Q E h=>?_) (fun cdv A outer s H vs Q E hr h=>?_)
 ·obtain ⟨_,_,_,rfl,_⟩:=h; rfl
 refine ⟨_,(Ah (Az (BM K PySem.F.plainAttrs_str PySem.F.slot_str_join PySem.F.type_str_join (EG K) Aj (Aa (Dv rfl (N:=["_law_point"]) (nt:=1) (js:=[]) (Be.look (NX:=["_law_points"]) (sc:=Af (top 138)) rfl rfl (by decide +kernel)) (piT K (pv 0)) (fun u1 u2 u3 u4 u5=>(AK (i:=0) (show List.Nodup (["_law_point"] : List Str) from by decide +kernel) rfl (Or.inl rfl))) (AS (by decide)) (fun u1 u2 u3 u4 u5=>Bt) (fun u1 u2 u3 u4 u5=>(BM K PySem.F.plainAttrs_str PySem.F.slot_str_join PySem.F.type_str_join (EG K) Aj (Aa (Dv rfl (N:=["_law_number"]) (nt:=1) (js:=[]) (Be.lookN (NX:=["_law_point"]) (sc:=Af (top 138)) rfl (by decide +kernel)) (piT K (pv 0)) (fun u1 u2 u3 u4 u5=>(AK (i:=0) (show List.Nodup (["_law_number"] : List Str) from by decide +kernel) rfl (Or.inl rfl))) (AS (by decide)) (fun u1 u2 u3 u4 u5=>Bt) (fun u1 u2 u3 u4 u5=>(AF Rk hr rfl (Aa (pv 0) Ac)))) Ac)))) Ac)))),?_⟩
 obtain ⟨r,xs,pss,rfl,hS,hn,h23,hf,h100,q⟩:=h
 have hs:=sizeLine_eq
 have hl:=hn.length
 refine ⟨rfl,?_⟩
 refine Cq ⟨_,rfl,r,rfl,⟨_,hS⟩,Gx (xs:=xs) (fun i zs H'=>Ae H H' ∧ zs = ((pss.take i).map ptx).map V.str) ⟨Ae.refl _,rfl⟩ (fun i zs H' hi p=>⟨SqT.same hS p.1,by rw [p.2,Tx,Tx,TX]; lia⟩) (by lia) ?_ ?_⟩
 ·rintro i x zs H' hx ⟨sm,rfl⟩
  obtain ⟨ps,hps,hpt⟩:=(Paired.get hn hx)
  have hm:=U3 hps
  have h3 : ps.length ≤ 3:=by rcases h23 ps hm with z | z <;> lia
  obtain ⟨a,rfl,us,hus,hun⟩:=(hpt.same sm)
  have hl2:=hun.length
  refine ⟨rfl,?_⟩
  refine Cq ⟨_,rfl,a,rfl,⟨_,hus⟩,Gx (xs:=us) (fun i zs H2=>H2 = H' ∧ zs = ((ps.take i).map tx).map V.str) ⟨rfl,rfl⟩ (fun i zs H2 hi p=>⟨by rw [p.1]; exact hus,by rw [p.2,Tx,Tx,TX]; lia⟩) (by lia) ?_ ?_⟩
  ·rintro j y ys H2 hy ⟨rfl,rfl⟩
   obtain ⟨c,hc,hcn⟩:=(Paired.get hun hy)
   refine ⟨_,rfl,y,c,rfl,hcn,hf ps hm c (U3 hc),rfl,?_⟩
   rw [UW,hc,UQ,UQ]; rfl
  rintro ys H2 ⟨rfl,rfl⟩ p hp
  rw [hl2,UX]
  refine ⟨_,p,ps.map tx,rfl,rfl,SqL.of Ab,Dh (by show CI.length ≤ 2; rw [Cc]; decide) (fun t ht=>SU (HK (hf ps hm) t ht) (by decide)) (by rw [Tx]; lia),sm.trans (Ae.new hp),?_⟩
  rw [UW,hps,UQ,UQ]; rfl
 rintro zs H' ⟨sm,rfl⟩ p hp
 rw [hl,UX]
 exact ⟨_,p,pss.map ptx,rfl,rfl,SqL.of Ab,Dh (by show Bw.length ≤ 2; rw [BH]; decide) (fun t ht=>SU (De hf h23 t ht) (by decide)) (by rw [Tx]; exact h100),q _ (sm.trans (Ae.new hp))⟩
theorem CS : AA ["_law_pen_here","_law_some"] ["_law_pen_here"] (Af (top 143)):=⟨rfl,rfl,rfl,by decide +kernel,rfl,by decide +kernel,by decide +kernel⟩
theorem EE {f : Addr} {fd : FuncData} (F : Fun K "_law_no_number" "_law_no_number" (top 143) f fd) (R5 : Fd P w K mg base 33 "_law_draw" ["_law_pen_here","_law_many"] (DE)) (hT : P.given.tree = none) :
 AI P w K mg base CX0 34 f fd ["_law_pen_here"] (HR):=by
 refine F.ok CS (fun vs H Q E h=>?_) (fun cdv A outer s H vs Q E hr h=>?_)
 ·obtain ⟨_,rfl,_⟩:=h; rfl
 refine ⟨_,(@Ad _ _ _ _ _ K _ (@Ce _ _ _ _ 1 _ _ CS.nd rfl (Or.inl rfl) (@BZ _ _ _ _ (@Ai _ _ _ _ _ Ao (@Ai _ _ _ _ _ Ao (@Ai _ _ _ _ _ Ao (@Ai _ _ _ _ _ Ao (@Ai _ _ _ _ _ Ao (@Ai _ _ _ _ _ Ao (@Ai _ _ _ _ _ Ao (@Ai _ _ _ _ _ Ao (@Ai _ _ _ _ _ Ao (@Ai _ _ _ _ _ Ao (@Ai _ _ _ _ _ Ao (@Ai _ _ _ _ _ Ao BU Bc) Bc) Bc) Bc) Bc) Bc) Bc) Bc) Bc) Bc) Bc) Bc)) (by rfl) (by first   | exact .inl rfl   | exact .inr rfl   | assumption)) (@Ah _ _ _ (@Az _ _ _ _ (@AB _ _ _ _ _ _ _ (ixL K) (@Am _ _ _ _ _ _ _ _ By (pv 1) (@Bq _ _ _ _ (@Aa _ _ _ _ _ Aj (@Aa _ _ _ _ _ Aj (@Aa _ _ _ _ _ Aj (@Aa _ _ _ _ _ Aj Ac (by rfl)) (by rfl)) (by rfl)) (by rfl)))) (@AF _ _ _ _ _ _ _ _ _ _ _ R5 hr rfl (@Aa _ _ _ _ _ (pv 0) (@Aa _ _ _ _ _ Ag Ac (by rfl)) (by rfl)) (by decide) (by decide) (by rfl) (by rfl)) (fun u v=>rfl)))) (by rfl)),?_⟩
 obtain ⟨a,rfl,pn,q⟩:=h
 have P4 : 4 ≤ sizeLine:=by decide
 have P12 : 12 ≤ sizeLine:=by decide
 refine ⟨P12,fun l hl=>⟨_,rfl,P4,fun m hm'=>?_⟩⟩
 refine ⟨l,m,_,_,rfl,rfl,(Ae.new hm') _ _ Ab,Ab,(by show 16 ≤ sizeLine; decide),fun k hk=>?_⟩
 have s3:=((Ae.new (o:=.lst ((FC.take 12).map V.str)) hl).trans (Ae.new (o:=.lst ((FC.drop 12).map V.str)) hm')).trans (Ae.new (o:=.lst (FC.map V.str)) hk)
 refine ⟨_,rfl,a,16,rfl,pn.sm s3,by decide,by decide,fun d H1 d0 d1 o1 p1=>?_⟩
 obtain ⟨t,ht,hm⟩:=(Nc (ts:=FC) d0 d1)
 exact ⟨k,FC.map V.str,_,_,rfl,rfl,SqL.of (o1.mv _ _ (((pn.same hl).same hm').ne' hk) Ab),ht,q t _ (s3.mv.trans o1.mv) p1 hm⟩
theorem AJ : AA ["_law_pen_here","_law_bad","_law_some"] ["_law_pen_here"] (Af (top 144)):=⟨rfl,rfl,rfl,by decide +kernel,rfl,by decide +kernel,by decide +kernel⟩
theorem Gm {f : Addr} {fd : FuncData} (F : Fun K "_law_no_row" "_law_no_row" (top 144) f fd) (RZ : Fd P w K mg base 34 "_law_no_number" ["_law_pen_here"] (HR)) (R5 : Fd P w K mg base 33 "_law_draw" ["_law_pen_here","_law_many"] (DE)) (QZ : mg "len" = none) (hT : P.given.tree = none) :
 AI P w K mg base CX0 35 f fd ["_law_pen_here"] (HQ K):=by
 refine F.ok AJ (fun vs H Q E h=>?_) (fun cdv A outer s H vs Q E hr h=>?_)
 ·obtain ⟨_,rfl,_⟩:=h; rfl
 refine ⟨_,(@Ad _ _ _ _ _ K _ (@Ap _ _ 1 _ _ _ _ AJ.nd rfl (Or.inl rfl) (@AF _ _ _ _ _ _ _ _ _ _ _ RZ hr rfl (@Aa _ _ _ _ _ (pv 0) Ac (by rfl)) (by decide) (by decide) (by rfl) (by rfl)) (by rfl) (by first   | exact .inl rfl   | exact .inr rfl   | assumption)) (@Ad _ _ _ _ _ K _ (@Ce _ _ _ _ 2 _ _ AJ.nd rfl (Or.inl rfl) (@BZ _ _ _ _ (@Ai _ _ _ _ _ Ao (@Ai _ _ _ _ _ Ao (@Ai _ _ _ _ _ Ao (@Ai _ _ _ _ _ Ao (@Ai _ _ _ _ _ Ao (@Ai _ _ _ _ _ Ao (@Ai _ _ _ _ _ Ao (@Ai _ _ _ _ _ Ao (@Ai _ _ _ _ _ Ao BU Bc) Bc) Bc) Bc) Bc) Bc) Bc) Bc) Bc)) (by rfl) (by first   | exact .inl rfl   | exact .inr rfl   | assumption)) (@Ad _ _ _ _ _ K _ (@Ce _ _ _ _ 2 _ _ AJ.nd rfl (Or.inl rfl) (@DK _ _ _ _ _ _ _ _ By (@pek _ _ _ (pv 2)) (@BZ _ _ _ _ (@Ai _ _ _ _ _ Ao (@Ai _ _ _ _ _ Ao (@Ai _ _ _ _ _ Ao (@Ai _ _ _ _ _ Ao (@Ai _ _ _ _ _ Ao (@Ai _ _ _ _ _ Ao (@Ai _ _ _ _ _ Ao (@Ai _ _ _ _ _ Ao (@Ai _ _ _ _ _ Ao BU Bc) Bc) Bc) Bc) Bc) Bc) Bc) Bc) Bc))) (by rfl) (by first   | exact .inl rfl   | exact .inr rfl   | assumption)) (@Ad _ _ _ _ _ K _ (@Ce _ _ _ _ 2 _ _ AJ.nd rfl (Or.inl rfl) (@DK _ _ _ _ _ _ _ _ By (@pek _ _ _ (pv 2)) (@BZ _ _ _ _ (@Ai _ _ _ _ _ Ao (@Ai _ _ _ _ _ Ao (@Ai _ _ _ _ _ Ao (@Ai _ _ _ _ _ Ao (@Ai _ _ _ _ _ Ao (@Ai _ _ _ _ _ Ao (@Ai _ _ _ _ _ Ao BU Bc) Bc) Bc) Bc) Bc) Bc) Bc))) (by rfl) (by first   | exact .inl rfl   | exact .inr rfl   | assumption)) (@Ad _ _ _ _ _ K _ (@Ce _ _ _ _ 2 _ _ AJ.nd rfl (Or.inl rfl) (@DK _ _ _ _ _ _ _ _ By (@pek _ _ _ (pv 2)) (@BZ _ _ _ _ (@Ai _ _ _ _ _ Ao (@Ai _ _ _ _ _ Ao (@Ai _ _ _ _ _ (@pek _ _ _ (@Am _ _ _ _ _ _ _ _ Al Aj (@Am _ _ _ _ _ _ _ _ Nr Aj Ag))) (@Ai _ _ _ _ _ Ao (@Ai _ _ _ _ _ Ao (@Ai _ _ _ _ _ Ao (@Ai _ _ _ _ _ Ao BU Bc) Bc) Bc) Bc) EW) Bc) Bc))) (by rfl) (by first   | exact .inl rfl   | exact .inr rfl   | assumption)) (@Ad _ _ _ _ _ K _ (@Ce _ _ _ _ 2 _ _ AJ.nd rfl (Or.inl rfl) (@DK _ _ _ _ _ _ _ _ By (@pek _ _ _ (pv 2)) (@BZ _ _ _ _ (@Ai _ _ _ _ _ Ao (@Ai _ _ _ _ _ Ao (@Ai _ _ _ _ _ (@pek _ _ _ (@Am _ _ _ _ _ _ _ _ Al (@Am _ _ _ _ _ _ _ _ Al Aj (pv 1)) Aj)) (@Ai _ _ _ _ _ (@pek _ _ _ (@Am _ _ _ _ _ _ _ _ Al Aj (pv 1))) (@Ai _ _ _ _ _ (@pek _ _ _ (@Am _ _ _ _ _ _ _ _ Al Aj (pv 1))) (@Ai _ _ _ _ _ (@pek _ _ _ (@Am _ _ _ _ _ _ _ _ Al Aj (pv 1))) BU EW) EW) EW) EW) Bc) Bc))) (by rfl) (by first   | exact .inl rfl   | exact .inr rfl   | assumption)) (@Ad _ _ _ _ _ K _ (@Ce _ _ _ _ 2 _ _ AJ.nd rfl (Or.inl rfl) (@DK _ _ _ _ _ _ _ _ By (@pek _ _ _ (pv 2)) (@BZ _ _ _ _ (@Ai _ _ _ _ _ (@pek _ _ _ (@Am _ _ _ _ _ _ _ _ Al (@Am _ _ _ _ _ _ _ _ Al Aj (pv 1)) Aj)) (@Ai _ _ _ _ _ (@pek _ _ _ (@Am _ _ _ _ _ _ _ _ Al Aj (pv 1))) (@Ai _ _ _ _ _ (@pek _ _ _ (@Am _ _ _ _ _ _ _ _ Al Aj (pv 1))) (@Ai _ _ _ _ _ (@pek _ _ _ (@Am _ _ _ _ _ _ _ _ Al Aj (pv 1))) (@Ai _ _ _ _ _ (@pek _ _ _ (@Am _ _ _ _ _ _ _ _ Al Aj (pv 1))) BU EW) EW) EW) EW) EW))) (by rfl) (by first   | exact .inl rfl   | exact .inr rfl   | assumption)) (@Ad _ _ _ _ _ K _ (@Ap _ _ 2 _ _ _ _ AJ.nd rfl (Or.inl rfl) (@Am _ _ _ _ _ _ _ _ By (pv 2) (@Bq _ _ _ _ (@Aa _ _ _ _ _ (@Am _ _ _ _ _ _ _ _ Al Aj (pv 1)) (@Aa _ _ _ _ _ (@Am _ _ _ _ _ _ _ _ Al Aj (pv 1)) (@Aa _ _ _ _ _ (@Am _ _ _ _ _ _ _ _ Al (@Am _ _ _ _ _ _ _ _ Al Aj (pv 1)) Aj) (@Aa _ _ _ _ _ (@Am _ _ _ _ _ _ _ _ Al Aj (pv 1)) Ac (by rfl)) (by rfl)) (by rfl)) (by rfl)))) (by rfl) (by first   | exact .inl rfl   | exact .inr rfl   | assumption)) (@Ad _ _ _ _ _ K _ (@Ce _ _ _ _ 2 _ _ AJ.nd rfl (Or.inl rfl) (@DK _ _ _ _ _ _ _ _ By (@pek _ _ _ (pv 2)) (@BZ _ _ _ _ (@Ai _ _ _ _ _ (@pek _ _ _ (@Am _ _ _ _ _ _ _ _ Al (@Am _ _ _ _ _ _ _ _ Al Aj (pv 1)) Aj)) (@Ai _ _ _ _ _ (@pek _ _ _ (@Am _ _ _ _ _ _ _ _ Al Aj (pv 1))) (@Ai _ _ _ _ _ (@pek _ _ _ (@Am _ _ _ _ _ _ _ _ Al Aj (pv 1))) (@Ai _ _ _ _ _ Ao (@Ai _ _ _ _ _ Ao (@Ai _ _ _ _ _ Ao BU Bc) Bc) Bc) EW) EW) EW))) (by rfl) (by first   | exact .inl rfl   | exact .inr rfl   | assumption)) (@Ad _ _ _ _ _ K _ (@Ce _ _ _ _ 2 _ _ AJ.nd rfl (Or.inl rfl) (@DK _ _ _ _ _ _ _ _ By (@pek _ _ _ (pv 2)) (@BZ _ _ _ _ (@Ai _ _ _ _ _ Ao (@Ai _ _ _ _ _ Ao (@Ai _ _ _ _ _ Ao (@Ai _ _ _ _ _ Ao (@Ai _ _ _ _ _ Ao BU Bc) Bc) Bc) Bc) Bc))) (by rfl) (by first   | exact .inl rfl   | exact .inr rfl   | assumption)) (@Ad _ _ _ _ _ K _ (@Ce _ _ _ _ 2 _ _ AJ.nd rfl (Or.inl rfl) (@DK _ _ _ _ _ _ _ _ By (@pek _ _ _ (pv 2)) (@BZ _ _ _ _ (@Ai _ _ _ _ _ Nj (@Ai _ _ _ _ _ Nk (@Ai _ _ _ _ _ OD (@Ai _ _ _ _ _ (@BZ _ _ _ _ (@Ai _ _ _ _ _ Ao BU Bc)) (@Ai _ _ _ _ _ (@Ni _ _ _ _ _ (@Ai _ _ _ _ _ Ao BU Bc)) BU QC) QD) Bc) Bc) Bc))) (by rfl) (by first   | exact .inl rfl   | exact .inr rfl   | assumption)) (@Ah _ _ _ (@Az _ _ _ _ (@AB _ _ _ _ _ _ _ (ixL K) (pv 2) (@AF _ _ _ _ _ _ _ _ _ _ _ R5 hr rfl (@Aa _ _ _ _ _ (pv 0) (@Aa _ _ _ _ _ (@Ak _ _ _ _ _ _ _ _ _ (CG K) rfl QZ Bf (@Aa _ _ _ _ _ (pv 2) Ac (by rfl)) (by decide) (by decide) (by rfl) (by rfl)) Ac (by rfl)) (by rfl)) (by decide) (by decide) (by rfl) (by rfl)) (fun u v=>rfl)))) (by rfl)) (by rfl)) (by rfl)) (by rfl)) (by rfl)) (by rfl)) (by rfl)) (by rfl)) (by rfl)) (by rfl)) (by rfl)),?_⟩
 obtain ⟨a,rfl,pn,q⟩:=h
 have P1 : 1 ≤ sizeLine:=by decide
 refine ⟨_,rfl,a,rfl,pn,fun b H0 m0 p0 hb=>?_⟩
 have hb14:=MT hb
 have hbl : b.length ≤ 200:=SU hb14 (by decide)
 refine ⟨(by decide : 9 ≤ sizeLine),fun l0 hl0=>?_⟩
 have la0 : l0 ≠ a:=p0.ne' hl0
 have el0 : upd H0 l0 (.lst [V.str (Str.ofString ""),V.str (Str.ofString "put 1"),V.str (Str.ofString "put 1 2 3 4"),V.str (Str.ofString "take"),V.str (Str.ofString "take 1 2"),V.str (Str.ofString "height 1"),V.str (Str.ofString "height 1 2 3"),V.str (Str.ofString "slope 1"),V.str (Str.ofString "slope 1 2 3")]) l0 = some (.lst [V.str (Str.ofString ""),V.str (Str.ofString "put 1"),V.str (Str.ofString "put 1 2 3 4"),V.str (Str.ofString "take"),V.str (Str.ofString "take 1 2"),V.str (Str.ofString "height 1"),V.str (Str.ofString "height 1 2 3"),V.str (Str.ofString "slope 1"),V.str (Str.ofString "slope 1 2 3")]):=Ab
 have s0 : Ae H0 (upd H0 l0 (.lst [V.str (Str.ofString ""),V.str (Str.ofString "put 1"),V.str (Str.ofString "put 1 2 3 4"),V.str (Str.ofString "take"),V.str (Str.ofString "take 1 2"),V.str (Str.ofString "height 1"),V.str (Str.ofString "height 1 2 3"),V.str (Str.ofString "slope 1"),V.str (Str.ofString "slope 1 2 3")])):=Ae.new hl0
 have hx0 : ∀ x ∈ [V.str (Str.ofString ""),V.str (Str.ofString "put 1"),V.str (Str.ofString "put 1 2 3 4"),V.str (Str.ofString "take"),V.str (Str.ofString "take 1 2"),V.str (Str.ofString "height 1"),V.str (Str.ofString "height 1 2 3"),V.str (Str.ofString "slope 1"),V.str (Str.ofString "slope 1 2 3")],∀ H : Hp,Dy K H x:=(Cw (ts:=[(Str.ofString ""),(Str.ofString "put 1"),(Str.ofString "put 1 2 3 4"),(Str.ofString "take"),(Str.ofString "take 1 2"),(Str.ofString "height 1"),(Str.ofString "height 1 2 3"),(Str.ofString "slope 1"),(Str.ofString "slope 1 2 3")]) (by decide +kernel))
 have hn0 : ([V.str (Str.ofString ""),V.str (Str.ofString "put 1"),V.str (Str.ofString "put 1 2 3 4"),V.str (Str.ofString "take"),V.str (Str.ofString "take 1 2"),V.str (Str.ofString "height 1"),V.str (Str.ofString "height 1 2 3"),V.str (Str.ofString "slope 1"),V.str (Str.ofString "slope 1 2 3")] : List V).length = 9:=rfl
 generalize upd H0 l0 (.lst [V.str (Str.ofString ""),V.str (Str.ofString "put 1"),V.str (Str.ofString "put 1 2 3 4"),V.str (Str.ofString "take"),V.str (Str.ofString "take 1 2"),V.str (Str.ofString "height 1"),V.str (Str.ofString "height 1 2 3"),V.str (Str.ofString "slope 1"),V.str (Str.ofString "slope 1 2 3")]) = G0 at el0 s0 ⊢
 generalize [V.str (Str.ofString ""),V.str (Str.ofString "put 1"),V.str (Str.ofString "put 1 2 3 4"),V.str (Str.ofString "take"),V.str (Str.ofString "take 1 2"),V.str (Str.ofString "height 1"),V.str (Str.ofString "height 1 2 3"),V.str (Str.ofString "slope 1"),V.str (Str.ofString "slope 1 2 3")] = xs0 at el0 hx0 hn0
 refine ⟨_,rfl,(by decide : 9 ≤ sizeLine),fun m1 hm1=>?_⟩
 refine ⟨l0,m1,xs0,[V.str (Str.ofString "noslope"),V.str (Str.ofString "noslope 1 2"),V.str (Str.ofString "points 1"),V.str (Str.ofString "curve 1"),V.str (Str.ofString "steps 1"),V.str (Str.ofString "at"),V.str (Str.ofString "at 1 2"),V.str (Str.ofString "slopeat"),V.str (Str.ofString "slopeat 1 2")],rfl,rfl,(Ae.new hm1) _ _ el0,Ab,(by rw [hn0]; exact (show 9 + 9 ≤ sizeLine by decide)),fun l1 hl1=>?_⟩
 have la1 : l1 ≠ a:=((p0.sm s0).same hm1).ne' hl1
 have sT1 : Ae G0 _:=(Ae.new (o:=.lst [V.str (Str.ofString "noslope"),V.str (Str.ofString "noslope 1 2"),V.str (Str.ofString "points 1"),V.str (Str.ofString "curve 1"),V.str (Str.ofString "steps 1"),V.str (Str.ofString "at"),V.str (Str.ofString "at 1 2"),V.str (Str.ofString "slopeat"),V.str (Str.ofString "slopeat 1 2")]) hm1).trans (Ae.new (o:=.lst (xs0 ++ [V.str (Str.ofString "noslope"),V.str (Str.ofString "noslope 1 2"),V.str (Str.ofString "points 1"),V.str (Str.ofString "curve 1"),V.str (Str.ofString "steps 1"),V.str (Str.ofString "at"),V.str (Str.ofString "at 1 2"),V.str (Str.ofString "slopeat"),V.str (Str.ofString "slopeat 1 2")])) hl1)
 have el1:=Ab (H:=upd G0 m1 (.lst [V.str (Str.ofString "noslope"),V.str (Str.ofString "noslope 1 2"),V.str (Str.ofString "points 1"),V.str (Str.ofString "curve 1"),V.str (Str.ofString "steps 1"),V.str (Str.ofString "at"),V.str (Str.ofString "at 1 2"),V.str (Str.ofString "slopeat"),V.str (Str.ofString "slopeat 1 2")])) (a:=l1) (o:=.lst (xs0 ++ [V.str (Str.ofString "noslope"),V.str (Str.ofString "noslope 1 2"),V.str (Str.ofString "points 1"),V.str (Str.ofString "curve 1"),V.str (Str.ofString "steps 1"),V.str (Str.ofString "at"),V.str (Str.ofString "at 1 2"),V.str (Str.ofString "slopeat"),V.str (Str.ofString "slopeat 1 2")]))
 have s1:=s0.trans sT1
 have hx1 : ∀ x ∈ xs0 ++ [V.str (Str.ofString "noslope"),V.str (Str.ofString "noslope 1 2"),V.str (Str.ofString "points 1"),V.str (Str.ofString "curve 1"),V.str (Str.ofString "steps 1"),V.str (Str.ofString "at"),V.str (Str.ofString "at 1 2"),V.str (Str.ofString "slopeat"),V.str (Str.ofString "slopeat 1 2")],∀ H : Hp,Dy K H x:=DM hx0 (Cw (ts:=[(Str.ofString "noslope"),(Str.ofString "noslope 1 2"),(Str.ofString "points 1"),(Str.ofString "curve 1"),(Str.ofString "steps 1"),(Str.ofString "at"),(Str.ofString "at 1 2"),(Str.ofString "slopeat"),(Str.ofString "slopeat 1 2")]) (by decide +kernel))
 have hn1 : (xs0 ++ [V.str (Str.ofString "noslope"),V.str (Str.ofString "noslope 1 2"),V.str (Str.ofString "points 1"),V.str (Str.ofString "curve 1"),V.str (Str.ofString "steps 1"),V.str (Str.ofString "at"),V.str (Str.ofString "at 1 2"),V.str (Str.ofString "slopeat"),V.str (Str.ofString "slopeat 1 2")]).length = 18:=by rw [U4,hn0]; rfl
 generalize upd (upd G0 m1 (.lst [V.str (Str.ofString "noslope"),V.str (Str.ofString "noslope 1 2"),V.str (Str.ofString "points 1"),V.str (Str.ofString "curve 1"),V.str (Str.ofString "steps 1"),V.str (Str.ofString "at"),V.str (Str.ofString "at 1 2"),V.str (Str.ofString "slopeat"),V.str (Str.ofString "slopeat 1 2")])) l1 (.lst (xs0 ++ [V.str (Str.ofString "noslope"),V.str (Str.ofString "noslope 1 2"),V.str (Str.ofString "points 1"),V.str (Str.ofString "curve 1"),V.str (Str.ofString "steps 1"),V.str (Str.ofString "at"),V.str (Str.ofString "at 1 2"),V.str (Str.ofString "slopeat"),V.str (Str.ofString "slopeat 1 2")])) = G1 at el1 s1 ⊢
 generalize xs0 ++ [V.str (Str.ofString "noslope"),V.str (Str.ofString "noslope 1 2"),V.str (Str.ofString "points 1"),V.str (Str.ofString "curve 1"),V.str (Str.ofString "steps 1"),V.str (Str.ofString "at"),V.str (Str.ofString "at 1 2"),V.str (Str.ofString "slopeat"),V.str (Str.ofString "slopeat 1 2")] = xs1 at el1 hx1 hn1
 clear sT1
 refine ⟨_,rfl,(by decide : 7 ≤ sizeLine),fun m2 hm2=>?_⟩
 refine ⟨l1,m2,xs1,[V.str (Str.ofString "misses"),V.str (Str.ofString "bounds 1"),V.str (Str.ofString "bounds 1 2 3"),V.str (Str.ofString "noughts 1"),V.str (Str.ofString "noughts 1 2 3"),V.str (Str.ofString "wrong 1"),V.str (Str.ofString "wrong 1 1 1")],rfl,rfl,(Ae.new hm2) _ _ el1,Ab,(by rw [hn1]; exact (show 18 + 7 ≤ sizeLine by decide)),fun l2 hl2=>?_⟩
 have la2 : l2 ≠ a:=((p0.sm s1).same hm2).ne' hl2
 have sT2 : Ae G1 _:=(Ae.new (o:=.lst [V.str (Str.ofString "misses"),V.str (Str.ofString "bounds 1"),V.str (Str.ofString "bounds 1 2 3"),V.str (Str.ofString "noughts 1"),V.str (Str.ofString "noughts 1 2 3"),V.str (Str.ofString "wrong 1"),V.str (Str.ofString "wrong 1 1 1")]) hm2).trans (Ae.new (o:=.lst (xs1 ++ [V.str (Str.ofString "misses"),V.str (Str.ofString "bounds 1"),V.str (Str.ofString "bounds 1 2 3"),V.str (Str.ofString "noughts 1"),V.str (Str.ofString "noughts 1 2 3"),V.str (Str.ofString "wrong 1"),V.str (Str.ofString "wrong 1 1 1")])) hl2)
 have el2:=Ab (H:=upd G1 m2 (.lst [V.str (Str.ofString "misses"),V.str (Str.ofString "bounds 1"),V.str (Str.ofString "bounds 1 2 3"),V.str (Str.ofString "noughts 1"),V.str (Str.ofString "noughts 1 2 3"),V.str (Str.ofString "wrong 1"),V.str (Str.ofString "wrong 1 1 1")])) (a:=l2) (o:=.lst (xs1 ++ [V.str (Str.ofString "misses"),V.str (Str.ofString "bounds 1"),V.str (Str.ofString "bounds 1 2 3"),V.str (Str.ofString "noughts 1"),V.str (Str.ofString "noughts 1 2 3"),V.str (Str.ofString "wrong 1"),V.str (Str.ofString "wrong 1 1 1")]))
 have s2:=s1.trans sT2
 have hx2 : ∀ x ∈ xs1 ++ [V.str (Str.ofString "misses"),V.str (Str.ofString "bounds 1"),V.str (Str.ofString "bounds 1 2 3"),V.str (Str.ofString "noughts 1"),V.str (Str.ofString "noughts 1 2 3"),V.str (Str.ofString "wrong 1"),V.str (Str.ofString "wrong 1 1 1")],∀ H : Hp,Dy K H x:=DM hx1 (Cw (ts:=[(Str.ofString "misses"),(Str.ofString "bounds 1"),(Str.ofString "bounds 1 2 3"),(Str.ofString "noughts 1"),(Str.ofString "noughts 1 2 3"),(Str.ofString "wrong 1"),(Str.ofString "wrong 1 1 1")]) (by decide +kernel))
 have hn2 : (xs1 ++ [V.str (Str.ofString "misses"),V.str (Str.ofString "bounds 1"),V.str (Str.ofString "bounds 1 2 3"),V.str (Str.ofString "noughts 1"),V.str (Str.ofString "noughts 1 2 3"),V.str (Str.ofString "wrong 1"),V.str (Str.ofString "wrong 1 1 1")]).length = 25:=by rw [U4,hn1]; rfl
 generalize upd (upd G1 m2 (.lst [V.str (Str.ofString "misses"),V.str (Str.ofString "bounds 1"),V.str (Str.ofString "bounds 1 2 3"),V.str (Str.ofString "noughts 1"),V.str (Str.ofString "noughts 1 2 3"),V.str (Str.ofString "wrong 1"),V.str (Str.ofString "wrong 1 1 1")])) l2 (.lst (xs1 ++ [V.str (Str.ofString "misses"),V.str (Str.ofString "bounds 1"),V.str (Str.ofString "bounds 1 2 3"),V.str (Str.ofString "noughts 1"),V.str (Str.ofString "noughts 1 2 3"),V.str (Str.ofString "wrong 1"),V.str (Str.ofString "wrong 1 1 1")])) = G2 at el2 s2 ⊢
 generalize xs1 ++ [V.str (Str.ofString "misses"),V.str (Str.ofString "bounds 1"),V.str (Str.ofString "bounds 1 2 3"),V.str (Str.ofString "noughts 1"),V.str (Str.ofString "noughts 1 2 3"),V.str (Str.ofString "wrong 1"),V.str (Str.ofString "wrong 1 1 1")] = xs2 at el2 hx2 hn2
 clear sT2
 refine ⟨_,rfl,_,17,rfl,rfl,by decide,by decide,by decide,by decide +kernel,_,_,rfl,rfl,by decide +kernel,(by decide : 7 ≤ sizeLine),fun m3 hm3=>?_⟩
 refine ⟨l2,m3,xs2,[V.str (Str.ofString "quotient"),V.str (Str.ofString "quotient 1 1"),V.str ((Str.ofString "misses") ++ Es (Str.ofString " 1") 17),V.str (Str.ofString "Points"),V.str (Str.ofString " points"),V.str (Str.ofString "points "),V.str (Str.ofString "at  1")],rfl,rfl,(Ae.new hm3) _ _ el2,Ab,(by rw [hn2]; exact (show 25 + 7 ≤ sizeLine by decide)),fun l3 hl3=>?_⟩
 have la3 : l3 ≠ a:=((p0.sm s2).same hm3).ne' hl3
 have sT3 : Ae G2 _:=(Ae.new (o:=.lst [V.str (Str.ofString "quotient"),V.str (Str.ofString "quotient 1 1"),V.str ((Str.ofString "misses") ++ Es (Str.ofString " 1") 17),V.str (Str.ofString "Points"),V.str (Str.ofString " points"),V.str (Str.ofString "points "),V.str (Str.ofString "at  1")]) hm3).trans (Ae.new (o:=.lst (xs2 ++ [V.str (Str.ofString "quotient"),V.str (Str.ofString "quotient 1 1"),V.str ((Str.ofString "misses") ++ Es (Str.ofString " 1") 17),V.str (Str.ofString "Points"),V.str (Str.ofString " points"),V.str (Str.ofString "points "),V.str (Str.ofString "at  1")])) hl3)
 have el3:=Ab (H:=upd G2 m3 (.lst [V.str (Str.ofString "quotient"),V.str (Str.ofString "quotient 1 1"),V.str ((Str.ofString "misses") ++ Es (Str.ofString " 1") 17),V.str (Str.ofString "Points"),V.str (Str.ofString " points"),V.str (Str.ofString "points "),V.str (Str.ofString "at  1")])) (a:=l3) (o:=.lst (xs2 ++ [V.str (Str.ofString "quotient"),V.str (Str.ofString "quotient 1 1"),V.str ((Str.ofString "misses") ++ Es (Str.ofString " 1") 17),V.str (Str.ofString "Points"),V.str (Str.ofString " points"),V.str (Str.ofString "points "),V.str (Str.ofString "at  1")]))
 have s3:=s2.trans sT3
 have hx3 : ∀ x ∈ xs2 ++ [V.str (Str.ofString "quotient"),V.str (Str.ofString "quotient 1 1"),V.str ((Str.ofString "misses") ++ Es (Str.ofString " 1") 17),V.str (Str.ofString "Points"),V.str (Str.ofString " points"),V.str (Str.ofString "points "),V.str (Str.ofString "at  1")],∀ H : Hp,Dy K H x:=DM hx2 (Cw (ts:=[(Str.ofString "quotient"),(Str.ofString "quotient 1 1"),((Str.ofString "misses") ++ Es (Str.ofString " 1") 17),(Str.ofString "Points"),(Str.ofString " points"),(Str.ofString "points "),(Str.ofString "at  1")]) (by decide +kernel))
 have hn3 : (xs2 ++ [V.str (Str.ofString "quotient"),V.str (Str.ofString "quotient 1 1"),V.str ((Str.ofString "misses") ++ Es (Str.ofString " 1") 17),V.str (Str.ofString "Points"),V.str (Str.ofString " points"),V.str (Str.ofString "points "),V.str (Str.ofString "at  1")]).length = 32:=by rw [U4,hn2]; rfl
 generalize upd (upd G2 m3 (.lst [V.str (Str.ofString "quotient"),V.str (Str.ofString "quotient 1 1"),V.str ((Str.ofString "misses") ++ Es (Str.ofString " 1") 17),V.str (Str.ofString "Points"),V.str (Str.ofString " points"),V.str (Str.ofString "points "),V.str (Str.ofString "at  1")])) l3 (.lst (xs2 ++ [V.str (Str.ofString "quotient"),V.str (Str.ofString "quotient 1 1"),V.str ((Str.ofString "misses") ++ Es (Str.ofString " 1") 17),V.str (Str.ofString "Points"),V.str (Str.ofString " points"),V.str (Str.ofString "points "),V.str (Str.ofString "at  1")])) = G3 at el3 s3 ⊢
 generalize xs2 ++ [V.str (Str.ofString "quotient"),V.str (Str.ofString "quotient 1 1"),V.str ((Str.ofString "misses") ++ Es (Str.ofString " 1") 17),V.str (Str.ofString "Points"),V.str (Str.ofString " points"),V.str (Str.ofString "points "),V.str (Str.ofString "at  1")] = xs3 at el3 hx3 hn3
 clear sT3
 refine ⟨_,rfl,_,rfl,_,_,rfl,rfl,ok2 (by decide +kernel) hbl,_,_,rfl,rfl,ok2 (ap2 (by decide +kernel) hb14) (by decide +kernel),_,rfl,_,_,rfl,rfl,ok2 (by decide +kernel) hbl,_,rfl,_,_,rfl,rfl,ok2 (by decide +kernel) hbl,_,rfl,_,_,rfl,rfl,ok2 (by decide +kernel) hbl,(by decide : 6 ≤ sizeLine),fun m4 hm4=>?_⟩
 refine ⟨l3,m4,xs3,[V.str (Str.ofString "height 1  2"),V.str (Str.ofString "moved 1"),V.str (((Str.ofString "put ") ++ b) ++ (Str.ofString " 1")),V.str ((Str.ofString "put 1 ") ++ b),V.str ((Str.ofString "put 1 1 ") ++ b),V.str ((Str.ofString "take ") ++ b)],rfl,rfl,(Ae.new hm4) _ _ el3,Ab,(by rw [hn3]; exact (show 32 + 6 ≤ sizeLine by decide)),fun l4 hl4=>?_⟩
 have la4 : l4 ≠ a:=((p0.sm s3).same hm4).ne' hl4
 have sT4 : Ae G3 _:=(Ae.new (o:=.lst [V.str (Str.ofString "height 1  2"),V.str (Str.ofString "moved 1"),V.str (((Str.ofString "put ") ++ b) ++ (Str.ofString " 1")),V.str ((Str.ofString "put 1 ") ++ b),V.str ((Str.ofString "put 1 1 ") ++ b),V.str ((Str.ofString "take ") ++ b)]) hm4).trans (Ae.new (o:=.lst (xs3 ++ [V.str (Str.ofString "height 1  2"),V.str (Str.ofString "moved 1"),V.str (((Str.ofString "put ") ++ b) ++ (Str.ofString " 1")),V.str ((Str.ofString "put 1 ") ++ b),V.str ((Str.ofString "put 1 1 ") ++ b),V.str ((Str.ofString "take ") ++ b)])) hl4)
 have el4:=Ab (H:=upd G3 m4 (.lst [V.str (Str.ofString "height 1  2"),V.str (Str.ofString "moved 1"),V.str (((Str.ofString "put ") ++ b) ++ (Str.ofString " 1")),V.str ((Str.ofString "put 1 ") ++ b),V.str ((Str.ofString "put 1 1 ") ++ b),V.str ((Str.ofString "take ") ++ b)])) (a:=l4) (o:=.lst (xs3 ++ [V.str (Str.ofString "height 1  2"),V.str (Str.ofString "moved 1"),V.str (((Str.ofString "put ") ++ b) ++ (Str.ofString " 1")),V.str ((Str.ofString "put 1 ") ++ b),V.str ((Str.ofString "put 1 1 ") ++ b),V.str ((Str.ofString "take ") ++ b)]))
 have s4:=s3.trans sT4
 have hx4 : ∀ x ∈ xs3 ++ [V.str (Str.ofString "height 1  2"),V.str (Str.ofString "moved 1"),V.str (((Str.ofString "put ") ++ b) ++ (Str.ofString " 1")),V.str ((Str.ofString "put 1 ") ++ b),V.str ((Str.ofString "put 1 1 ") ++ b),V.str ((Str.ofString "take ") ++ b)],∀ H : Hp,Dy K H x:=DM hx3 (Cw (ts:=[(Str.ofString "height 1  2"),(Str.ofString "moved 1"),(((Str.ofString "put ") ++ b) ++ (Str.ofString " 1")),((Str.ofString "put 1 ") ++ b),((Str.ofString "put 1 1 ") ++ b),((Str.ofString "take ") ++ b)]) (rb4 b hb))
 have hn4 : (xs3 ++ [V.str (Str.ofString "height 1  2"),V.str (Str.ofString "moved 1"),V.str (((Str.ofString "put ") ++ b) ++ (Str.ofString " 1")),V.str ((Str.ofString "put 1 ") ++ b),V.str ((Str.ofString "put 1 1 ") ++ b),V.str ((Str.ofString "take ") ++ b)]).length = 38:=by rw [U4,hn3]; rfl
 generalize upd (upd G3 m4 (.lst [V.str (Str.ofString "height 1  2"),V.str (Str.ofString "moved 1"),V.str (((Str.ofString "put ") ++ b) ++ (Str.ofString " 1")),V.str ((Str.ofString "put 1 ") ++ b),V.str ((Str.ofString "put 1 1 ") ++ b),V.str ((Str.ofString "take ") ++ b)])) l4 (.lst (xs3 ++ [V.str (Str.ofString "height 1  2"),V.str (Str.ofString "moved 1"),V.str (((Str.ofString "put ") ++ b) ++ (Str.ofString " 1")),V.str ((Str.ofString "put 1 ") ++ b),V.str ((Str.ofString "put 1 1 ") ++ b),V.str ((Str.ofString "take ") ++ b)])) = G4 at el4 s4 ⊢
 generalize xs3 ++ [V.str (Str.ofString "height 1  2"),V.str (Str.ofString "moved 1"),V.str (((Str.ofString "put ") ++ b) ++ (Str.ofString " 1")),V.str ((Str.ofString "put 1 ") ++ b),V.str ((Str.ofString "put 1 1 ") ++ b),V.str ((Str.ofString "take ") ++ b)] = xs4 at el4 hx4 hn4
 clear sT4
 refine ⟨_,rfl,_,rfl,_,_,rfl,rfl,ok2 (by decide +kernel) hbl,_,_,rfl,rfl,ok2 (ap2 (by decide +kernel) hb14) (by decide +kernel),_,rfl,_,_,rfl,rfl,ok2 (by decide +kernel) hbl,_,rfl,_,_,rfl,rfl,ok2 (by decide +kernel) hbl,_,rfl,_,_,rfl,rfl,ok2 (by decide +kernel) hbl,_,rfl,_,_,rfl,rfl,ok2 (by decide +kernel) hbl,(by decide : 5 ≤ sizeLine),fun m5 hm5=>?_⟩
 refine ⟨l4,m5,xs4,[V.str (((Str.ofString "height ") ++ b) ++ (Str.ofString " 1")),V.str ((Str.ofString "height 1 ") ++ b),V.str ((Str.ofString "slope 1 ") ++ b),V.str ((Str.ofString "noslope ") ++ b),V.str ((Str.ofString "at ") ++ b)],rfl,rfl,(Ae.new hm5) _ _ el4,Ab,(by rw [hn4]; exact (show 38 + 5 ≤ sizeLine by decide)),fun l5 hl5=>?_⟩
 have la5 : l5 ≠ a:=((p0.sm s4).same hm5).ne' hl5
 have sT5 : Ae G4 _:=(Ae.new (o:=.lst [V.str (((Str.ofString "height ") ++ b) ++ (Str.ofString " 1")),V.str ((Str.ofString "height 1 ") ++ b),V.str ((Str.ofString "slope 1 ") ++ b),V.str ((Str.ofString "noslope ") ++ b),V.str ((Str.ofString "at ") ++ b)]) hm5).trans (Ae.new (o:=.lst (xs4 ++ [V.str (((Str.ofString "height ") ++ b) ++ (Str.ofString " 1")),V.str ((Str.ofString "height 1 ") ++ b),V.str ((Str.ofString "slope 1 ") ++ b),V.str ((Str.ofString "noslope ") ++ b),V.str ((Str.ofString "at ") ++ b)])) hl5)
 have el5:=Ab (H:=upd G4 m5 (.lst [V.str (((Str.ofString "height ") ++ b) ++ (Str.ofString " 1")),V.str ((Str.ofString "height 1 ") ++ b),V.str ((Str.ofString "slope 1 ") ++ b),V.str ((Str.ofString "noslope ") ++ b),V.str ((Str.ofString "at ") ++ b)])) (a:=l5) (o:=.lst (xs4 ++ [V.str (((Str.ofString "height ") ++ b) ++ (Str.ofString " 1")),V.str ((Str.ofString "height 1 ") ++ b),V.str ((Str.ofString "slope 1 ") ++ b),V.str ((Str.ofString "noslope ") ++ b),V.str ((Str.ofString "at ") ++ b)]))
 have s5:=s4.trans sT5
 have hx5 : ∀ x ∈ xs4 ++ [V.str (((Str.ofString "height ") ++ b) ++ (Str.ofString " 1")),V.str ((Str.ofString "height 1 ") ++ b),V.str ((Str.ofString "slope 1 ") ++ b),V.str ((Str.ofString "noslope ") ++ b),V.str ((Str.ofString "at ") ++ b)],∀ H : Hp,Dy K H x:=DM hx4 (Cw (ts:=[(((Str.ofString "height ") ++ b) ++ (Str.ofString " 1")),((Str.ofString "height 1 ") ++ b),((Str.ofString "slope 1 ") ++ b),((Str.ofString "noslope ") ++ b),((Str.ofString "at ") ++ b)]) (rb5 b hb))
 have hn5 : (xs4 ++ [V.str (((Str.ofString "height ") ++ b) ++ (Str.ofString " 1")),V.str ((Str.ofString "height 1 ") ++ b),V.str ((Str.ofString "slope 1 ") ++ b),V.str ((Str.ofString "noslope ") ++ b),V.str ((Str.ofString "at ") ++ b)]).length = 43:=by rw [U4,hn4]; rfl
 generalize upd (upd G4 m5 (.lst [V.str (((Str.ofString "height ") ++ b) ++ (Str.ofString " 1")),V.str ((Str.ofString "height 1 ") ++ b),V.str ((Str.ofString "slope 1 ") ++ b),V.str ((Str.ofString "noslope ") ++ b),V.str ((Str.ofString "at ") ++ b)])) l5 (.lst (xs4 ++ [V.str (((Str.ofString "height ") ++ b) ++ (Str.ofString " 1")),V.str ((Str.ofString "height 1 ") ++ b),V.str ((Str.ofString "slope 1 ") ++ b),V.str ((Str.ofString "noslope ") ++ b),V.str ((Str.ofString "at ") ++ b)])) = G5 at el5 s5 ⊢
 generalize xs4 ++ [V.str (((Str.ofString "height ") ++ b) ++ (Str.ofString " 1")),V.str ((Str.ofString "height 1 ") ++ b),V.str ((Str.ofString "slope 1 ") ++ b),V.str ((Str.ofString "noslope ") ++ b),V.str ((Str.ofString "at ") ++ b)] = xs5 at el5 hx5 hn5
 clear sT5
 refine ⟨_,rfl,_,rfl,_,_,rfl,rfl,ok2 (by decide +kernel) hbl,_,rfl,_,_,rfl,rfl,ok2 (by decide +kernel) hbl,_,rfl,_,_,rfl,rfl,ok2 (by decide +kernel) hbl,_,_,rfl,rfl,ok2 (ap2 (by decide +kernel) hb14) (by decide +kernel),_,rfl,_,_,rfl,rfl,ok2 (by decide +kernel) hbl,(by decide : 4 ≤ sizeLine),fun m6 hm6=>?_⟩
 refine ⟨l5,m6,xs5,[V.str ((Str.ofString "slopeat ") ++ b),V.str ((Str.ofString "misses 1 ") ++ b),V.str (((Str.ofString "bounds ") ++ b) ++ (Str.ofString " 1")),V.str ((Str.ofString "noughts 0 ") ++ b)],rfl,rfl,(Ae.new hm6) _ _ el5,Ab,(by rw [hn5]; exact (show 43 + 4 ≤ sizeLine by decide)),fun l6 hl6=>?_⟩
 have la6 : l6 ≠ a:=((p0.sm s5).same hm6).ne' hl6
 have sT6 : Ae G5 _:=(Ae.new (o:=.lst [V.str ((Str.ofString "slopeat ") ++ b),V.str ((Str.ofString "misses 1 ") ++ b),V.str (((Str.ofString "bounds ") ++ b) ++ (Str.ofString " 1")),V.str ((Str.ofString "noughts 0 ") ++ b)]) hm6).trans (Ae.new (o:=.lst (xs5 ++ [V.str ((Str.ofString "slopeat ") ++ b),V.str ((Str.ofString "misses 1 ") ++ b),V.str (((Str.ofString "bounds ") ++ b) ++ (Str.ofString " 1")),V.str ((Str.ofString "noughts 0 ") ++ b)])) hl6)
 have el6:=Ab (H:=upd G5 m6 (.lst [V.str ((Str.ofString "slopeat ") ++ b),V.str ((Str.ofString "misses 1 ") ++ b),V.str (((Str.ofString "bounds ") ++ b) ++ (Str.ofString " 1")),V.str ((Str.ofString "noughts 0 ") ++ b)])) (a:=l6) (o:=.lst (xs5 ++ [V.str ((Str.ofString "slopeat ") ++ b),V.str ((Str.ofString "misses 1 ") ++ b),V.str (((Str.ofString "bounds ") ++ b) ++ (Str.ofString " 1")),V.str ((Str.ofString "noughts 0 ") ++ b)]))
 have s6:=s5.trans sT6
 have hx6 : ∀ x ∈ xs5 ++ [V.str ((Str.ofString "slopeat ") ++ b),V.str ((Str.ofString "misses 1 ") ++ b),V.str (((Str.ofString "bounds ") ++ b) ++ (Str.ofString " 1")),V.str ((Str.ofString "noughts 0 ") ++ b)],∀ H : Hp,Dy K H x:=DM hx5 (Cw (ts:=[((Str.ofString "slopeat ") ++ b),((Str.ofString "misses 1 ") ++ b),(((Str.ofString "bounds ") ++ b) ++ (Str.ofString " 1")),((Str.ofString "noughts 0 ") ++ b)]) (rb6 b hb))
 have hn6 : (xs5 ++ [V.str ((Str.ofString "slopeat ") ++ b),V.str ((Str.ofString "misses 1 ") ++ b),V.str (((Str.ofString "bounds ") ++ b) ++ (Str.ofString " 1")),V.str ((Str.ofString "noughts 0 ") ++ b)]).length = 47:=by rw [U4,hn5]; rfl
 generalize upd (upd G5 m6 (.lst [V.str ((Str.ofString "slopeat ") ++ b),V.str ((Str.ofString "misses 1 ") ++ b),V.str (((Str.ofString "bounds ") ++ b) ++ (Str.ofString " 1")),V.str ((Str.ofString "noughts 0 ") ++ b)])) l6 (.lst (xs5 ++ [V.str ((Str.ofString "slopeat ") ++ b),V.str ((Str.ofString "misses 1 ") ++ b),V.str (((Str.ofString "bounds ") ++ b) ++ (Str.ofString " 1")),V.str ((Str.ofString "noughts 0 ") ++ b)])) = G6 at el6 s6 ⊢
 generalize xs5 ++ [V.str ((Str.ofString "slopeat ") ++ b),V.str ((Str.ofString "misses 1 ") ++ b),V.str (((Str.ofString "bounds ") ++ b) ++ (Str.ofString " 1")),V.str ((Str.ofString "noughts 0 ") ++ b)] = xs6 at el6 hx6 hn6
 clear sT6
 refine ⟨_,rfl,_,rfl,_,_,rfl,rfl,ok2 (by decide +kernel) hbl,_,_,rfl,rfl,ok2 (ap2 (by decide +kernel) hb14) (by decide +kernel),_,rfl,_,_,rfl,rfl,ok2 (by decide +kernel) hbl,_,rfl,_,_,rfl,rfl,ok2 (by decide +kernel) hbl,(by decide : 6 ≤ sizeLine),fun m7 hm7=>?_⟩
 refine ⟨l6,m7,xs6,[V.str (((Str.ofString "wrong ") ++ b) ++ (Str.ofString " 1")),V.str ((Str.ofString "wrong 1 ") ++ b),V.str ((Str.ofString "quotient ") ++ b),V.str (Str.ofString "wrong 0 1"),V.str (Str.ofString "wrong 1/2 1"),V.str (Str.ofString "wrong -1 1")],rfl,rfl,(Ae.new hm7) _ _ el6,Ab,(by rw [hn6]; exact (show 47 + 6 ≤ sizeLine by decide)),fun l7 hl7=>?_⟩
 have la7 : l7 ≠ a:=((p0.sm s6).same hm7).ne' hl7
 have sT7 : Ae G6 _:=(Ae.new (o:=.lst [V.str (((Str.ofString "wrong ") ++ b) ++ (Str.ofString " 1")),V.str ((Str.ofString "wrong 1 ") ++ b),V.str ((Str.ofString "quotient ") ++ b),V.str (Str.ofString "wrong 0 1"),V.str (Str.ofString "wrong 1/2 1"),V.str (Str.ofString "wrong -1 1")]) hm7).trans (Ae.new (o:=.lst (xs6 ++ [V.str (((Str.ofString "wrong ") ++ b) ++ (Str.ofString " 1")),V.str ((Str.ofString "wrong 1 ") ++ b),V.str ((Str.ofString "quotient ") ++ b),V.str (Str.ofString "wrong 0 1"),V.str (Str.ofString "wrong 1/2 1"),V.str (Str.ofString "wrong -1 1")])) hl7)
 have el7:=Ab (H:=upd G6 m7 (.lst [V.str (((Str.ofString "wrong ") ++ b) ++ (Str.ofString " 1")),V.str ((Str.ofString "wrong 1 ") ++ b),V.str ((Str.ofString "quotient ") ++ b),V.str (Str.ofString "wrong 0 1"),V.str (Str.ofString "wrong 1/2 1"),V.str (Str.ofString "wrong -1 1")])) (a:=l7) (o:=.lst (xs6 ++ [V.str (((Str.ofString "wrong ") ++ b) ++ (Str.ofString " 1")),V.str ((Str.ofString "wrong 1 ") ++ b),V.str ((Str.ofString "quotient ") ++ b),V.str (Str.ofString "wrong 0 1"),V.str (Str.ofString "wrong 1/2 1"),V.str (Str.ofString "wrong -1 1")]))
 have s7:=s6.trans sT7
 have hx7 : ∀ x ∈ xs6 ++ [V.str (((Str.ofString "wrong ") ++ b) ++ (Str.ofString " 1")),V.str ((Str.ofString "wrong 1 ") ++ b),V.str ((Str.ofString "quotient ") ++ b),V.str (Str.ofString "wrong 0 1"),V.str (Str.ofString "wrong 1/2 1"),V.str (Str.ofString "wrong -1 1")],∀ H : Hp,Dy K H x:=DM hx6 (Cw (ts:=[(((Str.ofString "wrong ") ++ b) ++ (Str.ofString " 1")),((Str.ofString "wrong 1 ") ++ b),((Str.ofString "quotient ") ++ b),(Str.ofString "wrong 0 1"),(Str.ofString "wrong 1/2 1"),(Str.ofString "wrong -1 1")]) (rb7 b hb))
 have hn7 : (xs6 ++ [V.str (((Str.ofString "wrong ") ++ b) ++ (Str.ofString " 1")),V.str ((Str.ofString "wrong 1 ") ++ b),V.str ((Str.ofString "quotient ") ++ b),V.str (Str.ofString "wrong 0 1"),V.str (Str.ofString "wrong 1/2 1"),V.str (Str.ofString "wrong -1 1")]).length = 53:=by rw [U4,hn6]; rfl
 generalize upd (upd G6 m7 (.lst [V.str (((Str.ofString "wrong ") ++ b) ++ (Str.ofString " 1")),V.str ((Str.ofString "wrong 1 ") ++ b),V.str ((Str.ofString "quotient ") ++ b),V.str (Str.ofString "wrong 0 1"),V.str (Str.ofString "wrong 1/2 1"),V.str (Str.ofString "wrong -1 1")])) l7 (.lst (xs6 ++ [V.str (((Str.ofString "wrong ") ++ b) ++ (Str.ofString " 1")),V.str ((Str.ofString "wrong 1 ") ++ b),V.str ((Str.ofString "quotient ") ++ b),V.str (Str.ofString "wrong 0 1"),V.str (Str.ofString "wrong 1/2 1"),V.str (Str.ofString "wrong -1 1")])) = G7 at el7 s7 ⊢
 generalize xs6 ++ [V.str (((Str.ofString "wrong ") ++ b) ++ (Str.ofString " 1")),V.str ((Str.ofString "wrong 1 ") ++ b),V.str ((Str.ofString "quotient ") ++ b),V.str (Str.ofString "wrong 0 1"),V.str (Str.ofString "wrong 1/2 1"),V.str (Str.ofString "wrong -1 1")] = xs7 at el7 hx7 hn7
 clear sT7
 refine ⟨_,rfl,(by decide : 5 ≤ sizeLine),fun m8 hm8=>?_⟩
 refine ⟨l7,m8,xs7,[V.str (Str.ofString "wrong 1 -1"),V.str (Str.ofString "wrong 1 1/2"),V.str (Str.ofString "quotient 0"),V.str (Str.ofString "quotient 3/2"),V.str (Str.ofString "quotient -2")],rfl,rfl,(Ae.new hm8) _ _ el7,Ab,(by rw [hn7]; exact (show 53 + 5 ≤ sizeLine by decide)),fun l8 hl8=>?_⟩
 have la8 : l8 ≠ a:=((p0.sm s7).same hm8).ne' hl8
 have sT8 : Ae G7 _:=(Ae.new (o:=.lst [V.str (Str.ofString "wrong 1 -1"),V.str (Str.ofString "wrong 1 1/2"),V.str (Str.ofString "quotient 0"),V.str (Str.ofString "quotient 3/2"),V.str (Str.ofString "quotient -2")]) hm8).trans (Ae.new (o:=.lst (xs7 ++ [V.str (Str.ofString "wrong 1 -1"),V.str (Str.ofString "wrong 1 1/2"),V.str (Str.ofString "quotient 0"),V.str (Str.ofString "quotient 3/2"),V.str (Str.ofString "quotient -2")])) hl8)
 have el8:=Ab (H:=upd G7 m8 (.lst [V.str (Str.ofString "wrong 1 -1"),V.str (Str.ofString "wrong 1 1/2"),V.str (Str.ofString "quotient 0"),V.str (Str.ofString "quotient 3/2"),V.str (Str.ofString "quotient -2")])) (a:=l8) (o:=.lst (xs7 ++ [V.str (Str.ofString "wrong 1 -1"),V.str (Str.ofString "wrong 1 1/2"),V.str (Str.ofString "quotient 0"),V.str (Str.ofString "quotient 3/2"),V.str (Str.ofString "quotient -2")]))
 have s8:=s7.trans sT8
 have hx8 : ∀ x ∈ xs7 ++ [V.str (Str.ofString "wrong 1 -1"),V.str (Str.ofString "wrong 1 1/2"),V.str (Str.ofString "quotient 0"),V.str (Str.ofString "quotient 3/2"),V.str (Str.ofString "quotient -2")],∀ H : Hp,Dy K H x:=DM hx7 (Cw (ts:=[(Str.ofString "wrong 1 -1"),(Str.ofString "wrong 1 1/2"),(Str.ofString "quotient 0"),(Str.ofString "quotient 3/2"),(Str.ofString "quotient -2")]) (by decide +kernel))
 have hn8 : (xs7 ++ [V.str (Str.ofString "wrong 1 -1"),V.str (Str.ofString "wrong 1 1/2"),V.str (Str.ofString "quotient 0"),V.str (Str.ofString "quotient 3/2"),V.str (Str.ofString "quotient -2")]).length = 58:=by rw [U4,hn7]; rfl
 generalize upd (upd G7 m8 (.lst [V.str (Str.ofString "wrong 1 -1"),V.str (Str.ofString "wrong 1 1/2"),V.str (Str.ofString "quotient 0"),V.str (Str.ofString "quotient 3/2"),V.str (Str.ofString "quotient -2")])) l8 (.lst (xs7 ++ [V.str (Str.ofString "wrong 1 -1"),V.str (Str.ofString "wrong 1 1/2"),V.str (Str.ofString "quotient 0"),V.str (Str.ofString "quotient 3/2"),V.str (Str.ofString "quotient -2")])) = G8 at el8 s8 ⊢
 generalize xs7 ++ [V.str (Str.ofString "wrong 1 -1"),V.str (Str.ofString "wrong 1 1/2"),V.str (Str.ofString "quotient 0"),V.str (Str.ofString "quotient 3/2"),V.str (Str.ofString "quotient -2")] = xs8 at el8 hx8 hn8
 clear sT8
 refine ⟨_,rfl,P1,fun li hli=>?_⟩
 have pJ:=p0.sm s8
 have lia : li ≠ a:=pJ.ne' hli
 have sA:=Ae.new (o:=.lst [V.str (Str.ofString "points")]) hli
 have eA:=Ab (H:=G8) (a:=li) (o:=.lst [V.str (Str.ofString "points")])
 have eB:=sA _ _ el8
 have sB:=s8.trans sA
 have pK:=pJ.sm sA
 generalize upd G8 li (.lst [V.str (Str.ofString "points")]) = GA at eA eB sB pK ⊢
 refine ⟨P1,fun ti hti=>?_⟩
 have tia : ti ≠ a:=pK.ne' hti
 have sC:=Ae.new (o:=.tup [V.str (Str.ofString "points")]) hti
 have eC:=Ab (H:=GA) (a:=ti) (o:=.tup [V.str (Str.ofString "points")])
 have eA:=sC _ _ eA
 have eB:=sC _ _ eB
 have sB:=sB.trans sC
 have pK:=pK.sm sC
 generalize upd GA ti (.tup [V.str (Str.ofString "points")]) = GB at eA eB eC sB pK ⊢
 refine ⟨(by decide : 5 ≤ sizeLine),fun mz hmz=>?_⟩
 refine ⟨l8,mz,xs8,[.non,.int 3,.bl true,.ref li,.ref ti],rfl,rfl,(Ae.new hmz) _ _ eB,Ab,(by rw [hn8]; exact (show 58 + 5 ≤ sizeLine by decide)),fun lz hlz=>?_⟩
 have laz : lz ≠ a:=(pK.same hmz).ne' hlz
 have sD : Ae GB _:=(Ae.new (o:=.lst [.non,.int 3,.bl true,.ref li,.ref ti]) hmz).trans (Ae.new (o:=.lst (xs8 ++ [.non,.int 3,.bl true,.ref li,.ref ti])) hlz)
 have eZ:=Ab (H:=upd GB mz (.lst [.non,.int 3,.bl true,.ref li,.ref ti])) (a:=lz) (o:=.lst (xs8 ++ [.non,.int 3,.bl true,.ref li,.ref ti]))
 have eA:=sD _ _ eA
 have eC:=sD _ _ eC
 have sB:=sB.trans sD
 have pK:=pK.sm sD
 have hnz : (xs8 ++ [V.non,.int 3,.bl true,.ref li,.ref ti]).length = 63:=by rw [U4,hn8]; rfl
 generalize upd (upd GB mz (.lst [.non,.int 3,.bl true,.ref li,.ref ti])) lz (.lst (xs8 ++ [.non,.int 3,.bl true,.ref li,.ref ti])) = GC at eA eC eZ sB pK ⊢
 refine ⟨_,rfl,_,rfl,_,rfl,lz,_,rfl,.inl (SqL.of eZ),a,_,rfl,pK,by rw [hnz]; decide,by rw [hnz]; decide,fun d H9 d0 d1 o9 p9=>?_⟩
 obtain ⟨x,hx,hm⟩:=(MU (xs:=xs8 ++ [V.non,.int 3,.bl true,.ref li,.ref ti]) d0 d1)
 have eA9:=o9.mv _ _ lia eA
 have eC9:=o9.mv _ _ tia eC
 refine ⟨lz,_,_,x,rfl,rfl,SqL.of (o9.mv _ _ laz eZ),hx,q x _ (m0.trans (sB.mv.trans o9.mv)) p9 ?_⟩
 rcases T2.mp hm with z | z
 ·exact hx8 x z _
 ·simp only [T1,List.not_mem_nil,or_false] at z
  rcases z with rfl | rfl | rfl | rfl | rfl
  ·exact .no ⟨_,.of .non,MC K⟩
  ·exact .no ⟨_,.of (.int _),Kx K⟩
  ·exact .no ⟨_,.of (.bl _),OT K⟩
  ·exact .no ⟨_,.lst (SqL.of eA9),MD K⟩
  ·exact .no ⟨_,.tup (SqT.of eC9),OQ K⟩
theorem AQ : AA ["_law_pen_here","_law_points","_law_text_here","_law_more","_law_full","_law_some"] ["_law_pen_here","_law_points"] (Af (top 146)):=⟨rfl,rfl,rfl,by decide +kernel,rfl,by decide +kernel,by decide +kernel⟩
theorem Fz {f : Addr} {fd : FuncData} (F : Fun K "_law_no_desk" "_law_no_desk" (top 146) f fd) (Rl : Fd P w K mg base 34 "_law_points_text" ["_law_points"] (DW K)) (Rk : Fd P w K mg base 33 "_law_text" ["_law_number"] (ER K)) (R5 : Fd P w K mg base 33 "_law_draw" ["_law_pen_here","_law_many"] (DE)) (QZ : mg "len" = none) (R3 : mg "str" = none) (R7 : mg "range" = none) (hT : P.given.tree = none) :
 AI P w K mg base CX0 35 f fd ["_law_pen_here","_law_points"] (FU K):=by
 refine F.ok AQ (fun vs H Q E h=>?_) (fun cdv A outer s H vs Q E hr h=>?_)
 ·obtain ⟨_,_,_,_,rfl,_⟩:=h; rfl
 refine ⟨_,(@Ad _ _ _ _ _ K _ (@Ap _ _ 2 _ _ _ _ AQ.nd rfl (Or.inl rfl) (@AF _ _ _ _ _ _ _ _ _ _ _ Rl hr rfl (@Aa _ _ _ _ _ (pv 1) Ac (by rfl)) (by decide) (by decide) (by rfl) (by rfl)) (by rfl) (by first   | exact .inl rfl   | exact .inr rfl   | assumption)) (@Ad _ _ _ _ _ K _ (@Ap _ _ 3 _ _ _ _ AQ.nd rfl (Or.inl rfl) (@Am _ _ _ _ _ _ _ _ Al (@AF _ _ _ _ _ _ _ _ _ _ _ Rk hr rfl (@Aa _ _ _ _ _ (@AB _ _ _ _ _ _ _ (ixT K) (@AB _ _ _ _ _ _ _ (ixT K) (pv 1) Ag (fun u v=>rfl)) Ag (fun u v=>rfl)) Ac (by rfl)) (by decide) (by decide) (by rfl) (by rfl)) Aj) (by rfl) (by first   | exact .inl rfl   | exact .inr rfl   | assumption)) (@Ad _ _ _ _ _ K _ (@Ap _ _ 4 _ _ _ _ AQ.nd rfl (Or.inl rfl) (@BM _ _ _ _ _ _ _ _ _ _ _ _ K PySem.F.plainAttrs_str PySem.F.slot_str_join PySem.F.type_str_join (EG K) Aj (@Aa _ _ _ _ _ (@Dv _ (["_law_k"]) 1 ([]) _ _ _ _ _ _ _ _ _ _ rfl (Be.look (NX:=["_law_pen_here","_law_points","_law_text_here","_law_more","_law_full","_law_some"]) (sc:=Af (top 146)) rfl rfl (by decide +kernel)) (@DZ _ _ _ _ _ _ rfl R7 (@Aa _ _ _ _ _ Ag Ac (by rfl)) (by rfl)) (fun u1 u2 u3 u4 u5=>(@AK _ _ 0 _ (show List.Nodup (["_law_k"] : List Str) from by decide +kernel) rfl (Or.inl rfl) (by first   | exact .inl rfl   | exact .inr rfl   | assumption))) (AS (by decide)) (fun u1 u2 u3 u4 u5=>Bt) (fun u1 u2 u3 u4 u5=>(@Am _ _ _ _ _ _ _ _ Al (@Ba _ _ _ _ _ _ _ _ _ Bz rfl R3 CJ (@Aa _ _ _ _ _ (pv 0) Ac (by rfl)) (by decide) (by decide) (by rfl) (by rfl)) Aj)) (by intro _; rfl)) Ac (by rfl)) (by rfl) (by rfl) (by rfl) (by rfl) (by rfl) (by rfl)) (by rfl) (by first   | exact .inl rfl   | exact .inr rfl   | assumption)) (@Ad _ _ _ _ _ K _ (@Ap _ _ 5 _ _ _ _ AQ.nd rfl (Or.inl rfl) (@Bq _ _ _ _ (@Aa _ _ _ _ _ (@AG _ _ _ _ _ (@Aa _ _ _ _ _ Aj (@Aa _ _ _ _ _ Aj Ac (by rfl)) (by rfl))) (@Aa _ _ _ _ _ (@AG _ _ _ _ _ (@Aa _ _ _ _ _ (@Am _ _ _ _ _ _ _ _ Al (pv 2) Aj) (@Aa _ _ _ _ _ Aj Ac (by rfl)) (by rfl))) (@Aa _ _ _ _ _ (@AG _ _ _ _ _ (@Aa _ _ _ _ _ (@Am _ _ _ _ _ _ _ _ Al (pv 2) Aj) (@Aa _ _ _ _ _ Aj Ac (by rfl)) (by rfl))) (@Aa _ _ _ _ _ (@AG _ _ _ _ _ (@Aa _ _ _ _ _ (@Am _ _ _ _ _ _ _ _ Al (pv 2) Aj) (@Aa _ _ _ _ _ Aj Ac (by rfl)) (by rfl))) Ac (by rfl)) (by rfl)) (by rfl)) (by rfl))) (by rfl) (by first   | exact .inl rfl   | exact .inr rfl   | assumption)) (@Ad _ _ _ _ _ K _ (@Ap _ _ 5 _ _ _ _ AQ.nd rfl (Or.inl rfl) (@Am _ _ _ _ _ _ _ _ By (pv 5) (@Bq _ _ _ _ (@Aa _ _ _ _ _ (@AG _ _ _ _ _ (@Aa _ _ _ _ _ (@Am _ _ _ _ _ _ _ _ Al (pv 2) Aj) (@Aa _ _ _ _ _ Aj Ac (by rfl)) (by rfl))) (@Aa _ _ _ _ _ (@AG _ _ _ _ _ (@Aa _ _ _ _ _ Aj (@Aa _ _ _ _ _ Aj Ac (by rfl)) (by rfl))) (@Aa _ _ _ _ _ (@AG _ _ _ _ _ (@Aa _ _ _ _ _ Aj (@Aa _ _ _ _ _ Aj Ac (by rfl)) (by rfl))) Ac (by rfl)) (by rfl)) (by rfl)))) (by rfl) (by first   | exact .inl rfl   | exact .inr rfl   | assumption)) (@Ad _ _ _ _ _ K _ (@Ap _ _ 5 _ _ _ _ AQ.nd rfl (Or.inl rfl) (@Am _ _ _ _ _ _ _ _ By (pv 5) (@Bq _ _ _ _ (@Aa _ _ _ _ _ (@AG _ _ _ _ _ (@Aa _ _ _ _ _ (@Am _ _ _ _ _ _ _ _ Al (@Am _ _ _ _ _ _ _ _ Al (@Am _ _ _ _ _ _ _ _ Al (pv 2) Aj) (pv 3)) Aj) (@Aa _ _ _ _ _ Aj Ac (by rfl)) (by rfl))) (@Aa _ _ _ _ _ (@AG _ _ _ _ _ (@Aa _ _ _ _ _ (@Am _ _ _ _ _ _ _ _ Al (@Am _ _ _ _ _ _ _ _ Al (pv 2) Aj) (pv 3)) (@Aa _ _ _ _ _ Aj Ac (by rfl)) (by rfl))) Ac (by rfl)) (by rfl)))) (by rfl) (by first   | exact .inl rfl   | exact .inr rfl   | assumption)) (@Ad _ _ _ _ _ K _ (@Ap _ _ 5 _ _ _ _ AQ.nd rfl (Or.inl rfl) (@Am _ _ _ _ _ _ _ _ By (pv 5) (@Bq _ _ _ _ (@Aa _ _ _ _ _ (@AG _ _ _ _ _ (@Aa _ _ _ _ _ (@Am _ _ _ _ _ _ _ _ Al (@Am _ _ _ _ _ _ _ _ Al (pv 3) Aj) (pv 2)) (@Aa _ _ _ _ _ Aj Ac (by rfl)) (by rfl))) (@Aa _ _ _ _ _ (@AG _ _ _ _ _ (@Aa _ _ _ _ _ (pv 4) (@Aa _ _ _ _ _ Aj Ac (by rfl)) (by rfl))) (@Aa _ _ _ _ _ (@AG _ _ _ _ _ (@Aa _ _ _ _ _ (@Am _ _ _ _ _ _ _ _ Al (pv 4) Aj) (@Aa _ _ _ _ _ Aj Ac (by rfl)) (by rfl))) Ac (by rfl)) (by rfl)) (by rfl)))) (by rfl) (by first   | exact .inl rfl   | exact .inr rfl   | assumption)) (@Ad _ _ _ _ _ K _ (@Ap _ _ 5 _ _ _ _ AQ.nd rfl (Or.inl rfl) (@Am _ _ _ _ _ _ _ _ By (pv 5) (@Bq _ _ _ _ (@Aa _ _ _ _ _ (@AG _ _ _ _ _ (@Aa _ _ _ _ _ (@Am _ _ _ _ _ _ _ _ Al (pv 4) Aj) (@Aa _ _ _ _ _ Aj Ac (by rfl)) (by rfl))) (@Aa _ _ _ _ _ (@AG _ _ _ _ _ (@Aa _ _ _ _ _ Cj (@Aa _ _ _ _ _ Aj Ac (by rfl)) (by rfl))) (@Aa _ _ _ _ _ (@AG _ _ _ _ _ (@Aa _ _ _ _ _ Ag (@Aa _ _ _ _ _ Aj Ac (by rfl)) (by rfl))) (@Aa _ _ _ _ _ (@AG _ _ _ _ _ (@Aa _ _ _ _ _ (@Bq _ _ _ _ (@Aa _ _ _ _ _ (pv 2) Ac (by rfl))) (@Aa _ _ _ _ _ Aj Ac (by rfl)) (by rfl))) Ac (by rfl)) (by rfl)) (by rfl)) (by rfl)))) (by rfl) (by first   | exact .inl rfl   | exact .inr rfl   | assumption)) (@Ad _ _ _ _ _ K _ (@Ap _ _ 5 _ _ _ _ AQ.nd rfl (Or.inl rfl) (@Am _ _ _ _ _ _ _ _ By (pv 5) (@Bq _ _ _ _ (@Aa _ _ _ _ _ (@AG _ _ _ _ _ (@Aa _ _ _ _ _ Aj (@Aa _ _ _ _ _ Aj Ac (by rfl)) (by rfl))) (@Aa _ _ _ _ _ (@AG _ _ _ _ _ (@Aa _ _ _ _ _ Aj (@Aa _ _ _ _ _ Aj Ac (by rfl)) (by rfl))) Ac (by rfl)) (by rfl)))) (by rfl) (by first   | exact .inl rfl   | exact .inr rfl   | assumption)) (@Ah _ _ _ (@Az _ _ _ _ (@AB _ _ _ _ _ _ _ (ixL K) (pv 5) (@AF _ _ _ _ _ _ _ _ _ _ _ R5 hr rfl (@Aa _ _ _ _ _ (pv 0) (@Aa _ _ _ _ _ (@Ak _ _ _ _ _ _ _ _ _ (CG K) rfl QZ Bf (@Aa _ _ _ _ _ (pv 5) Ac (by rfl)) (by decide) (by decide) (by rfl) (by rfl)) Ac (by rfl)) (by rfl)) (by decide) (by decide) (by rfl) (by rfl)) (fun u v=>rfl)))) (by rfl)) (by rfl)) (by rfl)) (by rfl)) (by rfl)) (by rfl)) (by rfl)) (by rfl)) (by rfl)),?_⟩
 obtain ⟨a,r,xs,pss,rfl,pn,pok,hfg,h6,q⟩:=h
 have P1 : 1 ≤ sizeLine:=by decide
 have P2 : 2 ≤ sizeLine:=by decide
 have hs:=sizeLine_eq
 have hpq:=pok.pq hfg
 have hxl:=pok.P.length
 have h1:=pok.h1
 have hT0:=FT hpq h6
 have hTl : (Av pss).length ≤ 5000:=SU hT0 (by decide)
 have hFl : (Av Bv).length ≤ 5000:=SU Js (by decide)
 refine ⟨_,rfl,r,xs,pss,rfl,pok.S,Bg.pts pok.P,pok.h23,hfg,by lia,fun H0 s0=>?_⟩
 have pok0:=pok.same s0
 obtain ⟨v0,hv0⟩ : ∃ v,xs[0]? = some v:=⟨_,Uv (by lia)⟩
 obtain ⟨ps0,hps0,a0,us,rr,rfl,hus,hun,hu0,hrr⟩:=(Paired.get pok0.P hv0)
 have hpm:=U3 hps0
 have h0 : ps0.getD 0 0 ∈ pss.map fun ps=>ps.getD 0 0:=V4.mpr ⟨ps0,hpm,rfl⟩
 have hx : Fg (ps0.getD 0 0):=hfg ps0 hpm _ (NB (by rcases pok.h23 ps0 hpm with z | z <;> lia))
 generalize ps0.getD 0 0 = x0 at h0 hx hrr
 have hM0:=Mu hx
 have hMl : (tx x0 ++ Str.ofString ":1").length ≤ 5000:=SU hM0 (by decide)
 refine ⟨_,rfl,r,xs,_,_,rfl,rfl,pok0.S,AX (j:=0) hv0,a0,us,_,_,rfl,rfl,hus,AX (j:=0) hu0,_,x0,rfl,BC.of hrr,hx,_,_,rfl,rfl,ok3 (SU (Iu hx) (by decide)) (by decide +kernel),?_⟩
 refine ⟨rfl,?_⟩
 refine Cq ⟨13,rfl,by decide,by decide,OP (n:=13) (L1 H0 fun H0 i zs H'=>H' = H0 ∧ zs = (SK i).map fun k : Nat=>V.str (txI (k : Int) ++ Str.ofString ":1")) ⟨rfl,rfl⟩ (fun i zs H' _ p=>by rw [p.2,Tx,UI]) (by decide) ?_ ?_⟩
 ·rintro i zs H' hi ⟨rfl,rfl⟩
  rw [Int.zero_add]
  refine ⟨_,rfl,_,rfl,Qd hi,_,_,rfl,rfl,ok3 (SU (DP (i:=(i : Int)) (by lia)) (by decide)) (by decide +kernel),rfl,?_⟩
  rw [List.range_succ,UQ]; rfl
 rintro zs H' ⟨rfl,rfl⟩ jl hjl
 have sF:=Ae.new (o:=.lst ((SK 13).map fun k : Nat=>V.str (txI (k : Int) ++ Str.ofString ":1"))) hjl
 have eF:=Ab (H:=H') (a:=jl) (o:=.lst ((SK 13).map fun k : Nat=>V.str (txI (k : Int) ++ Str.ofString ":1")))
 have S0:=s0.trans sF
 have p0:=pn.sm S0
 generalize upd H' jl (.lst ((SK 13).map fun k : Nat=>V.str (txI (k : Int) ++ Str.ofString ":1"))) = G0 at eF S0 p0 ⊢
 refine ⟨_,jl,(SK 13).map fun k : Nat=>txI (k : Int) ++ Str.ofString ":1",rfl,rfl,SqL.of (by rw [V7]; exact eF),Dh (by decide +kernel) (fun t ht=>?_) (by decide),?_⟩
 ·obtain ⟨k,hk,rfl⟩:=(V4.mp ht)
  have hk:=SQ.mp hk
  rw [IG]
  exact SU (Nat.add_le_add (DP (i:=(k : Int)) (by lia)) (show (Str.ofString ":1").length ≤ 2 by decide +kernel)) (by decide)
 have eFull : Str.join (Str.ofString ", ") ((SK 13).map fun k : Nat=>txI (k : Int) ++ Str.ofString ":1") = Av Bv:=NC
 rw [eFull]
 clear eFull eF
 have S1:=S0
 refine ⟨P2,fun t0_0 ht0_0=>?_⟩
 have na : t0_0 ≠ a:=p0.ne' ht0_0
 have sN:=Ae.new (o:=.tup [(.str ((Str.ofString ""))),.str (Str.ofString "text")]) ht0_0
 have ft0_0 : ItM K a (upd G0 t0_0 (.tup [(.str ((Str.ofString ""))),.str (Str.ofString "text")])) (.ref t0_0):=⟨t0_0,(.str ((Str.ofString ""))),2,rfl,na,Ab,fun G _=>DR (by decide +kernel)⟩
 have S2:=S1.trans sN
 have p1:=p0.sm sN
 generalize upd G0 t0_0 (.tup [(.str ((Str.ofString ""))),.str (Str.ofString "text")]) = G1 at ft0_0 S2 p1 ⊢
 clear na sN
 refine ⟨_,rfl,_,_,rfl,rfl,ok3 hTl (by decide +kernel),P2,fun t0_1 ht0_1=>?_⟩
 have na : t0_1 ≠ a:=p1.ne' ht0_1
 have sN:=Ae.new (o:=.tup [(.str ((Av pss) ++ (Str.ofString ","))),.str (Str.ofString "text")]) ht0_1
 have ft0_0:=ft0_0.same sN
 have ft0_1 : ItM K a (upd G1 t0_1 (.tup [(.str ((Av pss) ++ (Str.ofString ","))),.str (Str.ofString "text")])) (.ref t0_1):=⟨t0_1,(.str ((Av pss) ++ (Str.ofString ","))),2,rfl,na,Ab,fun G _=>QK hpq h6 G⟩
 have S3:=S2.trans sN
 have p2:=p1.sm sN
 generalize upd G1 t0_1 (.tup [(.str ((Av pss) ++ (Str.ofString ","))),.str (Str.ofString "text")]) = G2 at ft0_0 ft0_1 S3 p2 ⊢
 clear na sN
 refine ⟨_,rfl,_,_,rfl,rfl,ok3 hTl (by decide +kernel),P2,fun t0_2 ht0_2=>?_⟩
 have na : t0_2 ≠ a:=p2.ne' ht0_2
 have sN:=Ae.new (o:=.tup [(.str ((Av pss) ++ (Str.ofString ", "))),.str (Str.ofString "text")]) ht0_2
 have ft0_0:=ft0_0.same sN
 have ft0_1:=ft0_1.same sN
 have ft0_2 : ItM K a (upd G2 t0_2 (.tup [(.str ((Av pss) ++ (Str.ofString ", "))),.str (Str.ofString "text")])) (.ref t0_2):=⟨t0_2,(.str ((Av pss) ++ (Str.ofString ", "))),2,rfl,na,Ab,fun G _=>QJ hpq h6 G⟩
 have S4:=S3.trans sN
 have p3:=p2.sm sN
 generalize upd G2 t0_2 (.tup [(.str ((Av pss) ++ (Str.ofString ", "))),.str (Str.ofString "text")]) = G3 at ft0_0 ft0_1 ft0_2 S4 p3 ⊢
 clear na sN
 refine ⟨_,rfl,_,_,rfl,rfl,ok3 hTl (by decide +kernel),P2,fun t0_3 ht0_3=>?_⟩
 have na : t0_3 ≠ a:=p3.ne' ht0_3
 have sN:=Ae.new (o:=.tup [(.str ((Av pss) ++ (Str.ofString ",5:1"))),.str (Str.ofString "text")]) ht0_3
 have ft0_0:=ft0_0.same sN
 have ft0_1:=ft0_1.same sN
 have ft0_2:=ft0_2.same sN
 have ft0_3 : ItM K a (upd G3 t0_3 (.tup [(.str ((Av pss) ++ (Str.ofString ",5:1"))),.str (Str.ofString "text")])) (.ref t0_3):=⟨t0_3,(.str ((Av pss) ++ (Str.ofString ",5:1"))),2,rfl,na,Ab,fun G _=>QI hpq h6 G⟩
 have S5:=S4.trans sN
 have p4:=p3.sm sN
 generalize upd G3 t0_3 (.tup [(.str ((Av pss) ++ (Str.ofString ",5:1"))),.str (Str.ofString "text")]) = G4 at ft0_0 ft0_1 ft0_2 ft0_3 S5 p4 ⊢
 clear na sN
 refine ⟨(by decide : 4 ≤ sizeLine),fun l0 hl0=>?_⟩
 have la0 : l0 ≠ a:=p4.ne' hl0
 have SS:=Ae.new (o:=.lst [V.ref t0_0,V.ref t0_1,V.ref t0_2,V.ref t0_3]) hl0
 have el0:=Ab (H:=G4) (a:=l0) (o:=.lst [V.ref t0_0,V.ref t0_1,V.ref t0_2,V.ref t0_3])
 have hx0 : ∀ x ∈ ([V.ref t0_0,V.ref t0_1,V.ref t0_2,V.ref t0_3] : List V),ItM K a (upd G4 l0 (.lst [V.ref t0_0,V.ref t0_1,V.ref t0_2,V.ref t0_3])) x:=(Bo (ft0_0.same SS) (Bo (ft0_1.same SS) (Bo (ft0_2.same SS) (Bo (ft0_3.same SS) Fi))))
 have hn0 : ([V.ref t0_0,V.ref t0_1,V.ref t0_2,V.ref t0_3] : List V).length = 4:=rfl
 have S6:=S5.trans SS
 have p5:=p4.sm SS
 generalize upd G4 l0 (.lst [V.ref t0_0,V.ref t0_1,V.ref t0_2,V.ref t0_3]) = G5 at el0 hx0 S6 p5 ⊢
 generalize ([V.ref t0_0,V.ref t0_1,V.ref t0_2,V.ref t0_3] : List V) = xs0 at el0 hx0 hn0
 clear SS ft0_0 ft0_1 ft0_2 ft0_3
 refine ⟨_,rfl,_,rfl,_,_,rfl,rfl,ok3 hTl (by decide +kernel),P2,fun t1_0 ht1_0=>?_⟩
 have na : t1_0 ≠ a:=p5.ne' ht1_0
 have sN:=Ae.new (o:=.tup [(.str ((Av pss) ++ (Str.ofString ", 1000000:1"))),.str (Str.ofString "text")]) ht1_0
 have ft1_0 : ItM K a (upd G5 t1_0 (.tup [(.str ((Av pss) ++ (Str.ofString ", 1000000:1"))),.str (Str.ofString "text")])) (.ref t1_0):=⟨t1_0,(.str ((Av pss) ++ (Str.ofString ", 1000000:1"))),2,rfl,na,Ab,fun G _=>QH hpq h6 G⟩
 have S7:=S6.trans sN
 have p6:=p5.sm sN
 have sR:=sN
 generalize upd G5 t1_0 (.tup [(.str ((Av pss) ++ (Str.ofString ", 1000000:1"))),.str (Str.ofString "text")]) = G6 at ft1_0 S7 p6 sR ⊢
 clear na sN
 refine ⟨P2,fun t1_1 ht1_1=>?_⟩
 have na : t1_1 ≠ a:=p6.ne' ht1_1
 have sN:=Ae.new (o:=.tup [(.str ((Str.ofString "1:1000000"))),.str (Str.ofString "text")]) ht1_1
 have ft1_0:=ft1_0.same sN
 have ft1_1 : ItM K a (upd G6 t1_1 (.tup [(.str ((Str.ofString "1:1000000"))),.str (Str.ofString "text")])) (.ref t1_1):=⟨t1_1,(.str ((Str.ofString "1:1000000"))),2,rfl,na,Ab,fun G _=>DR (by decide +kernel)⟩
 have S8:=S7.trans sN
 have p7:=p6.sm sN
 have sR:=sR.trans sN
 generalize upd G6 t1_1 (.tup [(.str ((Str.ofString "1:1000000"))),.str (Str.ofString "text")]) = G7 at ft1_0 ft1_1 S8 p7 sR ⊢
 clear na sN
 refine ⟨P2,fun t1_2 ht1_2=>?_⟩
 have na : t1_2 ≠ a:=p7.ne' ht1_2
 have sN:=Ae.new (o:=.tup [(.str ((Str.ofString "1:1:1/1000000"))),.str (Str.ofString "text")]) ht1_2
 have ft1_0:=ft1_0.same sN
 have ft1_1:=ft1_1.same sN
 have ft1_2 : ItM K a (upd G7 t1_2 (.tup [(.str ((Str.ofString "1:1:1/1000000"))),.str (Str.ofString "text")])) (.ref t1_2):=⟨t1_2,(.str ((Str.ofString "1:1:1/1000000"))),2,rfl,na,Ab,fun G _=>DR (by decide +kernel)⟩
 have S9:=S8.trans sN
 have p8:=p7.sm sN
 have sR:=sR.trans sN
 generalize upd G7 t1_2 (.tup [(.str ((Str.ofString "1:1:1/1000000"))),.str (Str.ofString "text")]) = G8 at ft1_0 ft1_1 ft1_2 S9 p8 sR ⊢
 clear na sN
 refine ⟨(by decide : 3 ≤ sizeLine),fun m1 hm1=>?_⟩
 refine ⟨l0,m1,xs0,[V.ref t1_0,V.ref t1_1,V.ref t1_2],rfl,rfl,(Ae.new hm1) _ _ (sR _ _ el0),Ab,(by rw [hn0]; exact (show 4 + 3 ≤ sizeLine by decide)),fun l1 hl1=>?_⟩
 have la1 : l1 ≠ a:=(p8.same hm1).ne' hl1
 have SS:=(Ae.new (o:=.lst [V.ref t1_0,V.ref t1_1,V.ref t1_2]) hm1).trans (Ae.new (o:=.lst (xs0 ++ [V.ref t1_0,V.ref t1_1,V.ref t1_2])) hl1)
 have el1:=Ab (H:=upd G8 m1 (.lst [V.ref t1_0,V.ref t1_1,V.ref t1_2])) (a:=l1) (o:=.lst (xs0 ++ [V.ref t1_0,V.ref t1_1,V.ref t1_2]))
 have hx1 : ∀ x ∈ xs0 ++ [V.ref t1_0,V.ref t1_1,V.ref t1_2],ItM K a _ x:=GH hx0 (sR.trans SS) (Bo (ft1_0.same SS) (Bo (ft1_1.same SS) (Bo (ft1_2.same SS) Fi)))
 have hn1 : (xs0 ++ [V.ref t1_0,V.ref t1_1,V.ref t1_2]).length = 7:=by rw [U4,hn0]; rfl
 have S10:=S9.trans SS
 have p9:=p8.sm SS
 generalize upd (upd G8 m1 (.lst [V.ref t1_0,V.ref t1_1,V.ref t1_2])) l1 (.lst (xs0 ++ [V.ref t1_0,V.ref t1_1,V.ref t1_2])) = G9 at el1 hx1 S10 p9 ⊢
 generalize xs0 ++ [V.ref t1_0,V.ref t1_1,V.ref t1_2] = xs1 at el1 hx1 hn1
 clear SS sR ft1_0 ft1_1 ft1_2
 refine ⟨_,rfl,_,rfl,_,_,rfl,rfl,ok3 hTl (by decide +kernel),_,rfl,_,_,rfl,rfl,ok3 (Co hT0 (B:=20) (by decide +kernel) (by decide)) hMl,_,_,rfl,rfl,ok3 (Co (Co hT0 (B:=20) (by decide +kernel) (C:=2300) (by decide)) hM0 (by decide)) (by decide +kernel),P2,fun t2_0 ht2_0=>?_⟩
 have na : t2_0 ≠ a:=p9.ne' ht2_0
 have sN:=Ae.new (o:=.tup [(.str ((Av pss) ++ (Str.ofString ", ") ++ (tx x0 ++ Str.ofString ":1") ++ (Str.ofString ", 1:2000000"))),.str (Str.ofString "text")]) ht2_0
 have ft2_0 : ItM K a (upd G9 t2_0 (.tup [(.str ((Av pss) ++ (Str.ofString ", ") ++ (tx x0 ++ Str.ofString ":1") ++ (Str.ofString ", 1:2000000"))),.str (Str.ofString "text")])) (.ref t2_0):=⟨t2_0,(.str ((Av pss) ++ (Str.ofString ", ") ++ (tx x0 ++ Str.ofString ":1") ++ (Str.ofString ", 1:2000000"))),2,rfl,na,Ab,fun G _=>QG hpq h6 hx G⟩
 have S11:=S10.trans sN
 have p10:=p9.sm sN
 have sR:=sN
 generalize upd G9 t2_0 (.tup [(.str ((Av pss) ++ (Str.ofString ", ") ++ (tx x0 ++ Str.ofString ":1") ++ (Str.ofString ", 1:2000000"))),.str (Str.ofString "text")]) = G10 at ft2_0 S11 p10 sR ⊢
 clear na sN
 refine ⟨_,rfl,_,_,rfl,rfl,ok3 hTl (by decide +kernel),_,rfl,_,_,rfl,rfl,ok3 (Co hT0 (B:=20) (by decide +kernel) (by decide)) hMl,P2,fun t2_1 ht2_1=>?_⟩
 have na : t2_1 ≠ a:=p10.ne' ht2_1
 have sN:=Ae.new (o:=.tup [(.str ((Av pss) ++ (Str.ofString ", ") ++ (tx x0 ++ Str.ofString ":1"))),.str (Str.ofString "points")]) ht2_1
 have ft2_0:=ft2_0.same sN
 have ft2_1 : ItM K a (upd G10 t2_1 (.tup [(.str ((Av pss) ++ (Str.ofString ", ") ++ (tx x0 ++ Str.ofString ":1"))),.str (Str.ofString "points")])) (.ref t2_1):=⟨t2_1,(.str ((Av pss) ++ (Str.ofString ", ") ++ (tx x0 ++ Str.ofString ":1"))),1,rfl,na,Ab,fun G _=>QF hpq h6 h0 hx G⟩
 have S12:=S11.trans sN
 have p11:=p10.sm sN
 have sR:=sR.trans sN
 generalize upd G10 t2_1 (.tup [(.str ((Av pss) ++ (Str.ofString ", ") ++ (tx x0 ++ Str.ofString ":1"))),.str (Str.ofString "points")]) = G11 at ft2_0 ft2_1 S12 p11 sR ⊢
 clear na sN
 refine ⟨(by decide : 2 ≤ sizeLine),fun m2 hm2=>?_⟩
 refine ⟨l1,m2,xs1,[V.ref t2_0,V.ref t2_1],rfl,rfl,(Ae.new hm2) _ _ (sR _ _ el1),Ab,(by rw [hn1]; exact (show 7 + 2 ≤ sizeLine by decide)),fun l2 hl2=>?_⟩
 have la2 : l2 ≠ a:=(p11.same hm2).ne' hl2
 have SS:=(Ae.new (o:=.lst [V.ref t2_0,V.ref t2_1]) hm2).trans (Ae.new (o:=.lst (xs1 ++ [V.ref t2_0,V.ref t2_1])) hl2)
 have el2:=Ab (H:=upd G11 m2 (.lst [V.ref t2_0,V.ref t2_1])) (a:=l2) (o:=.lst (xs1 ++ [V.ref t2_0,V.ref t2_1]))
 have hx2 : ∀ x ∈ xs1 ++ [V.ref t2_0,V.ref t2_1],ItM K a _ x:=GH hx1 (sR.trans SS) (Bo (ft2_0.same SS) (Bo (ft2_1.same SS) Fi))
 have hn2 : (xs1 ++ [V.ref t2_0,V.ref t2_1]).length = 9:=by rw [U4,hn1]; rfl
 have S13:=S12.trans SS
 have p12:=p11.sm SS
 generalize upd (upd G11 m2 (.lst [V.ref t2_0,V.ref t2_1])) l2 (.lst (xs1 ++ [V.ref t2_0,V.ref t2_1])) = G12 at el2 hx2 S13 p12 ⊢
 generalize xs1 ++ [V.ref t2_0,V.ref t2_1] = xs2 at el2 hx2 hn2
 clear SS sR ft2_0 ft2_1
 refine ⟨_,rfl,_,rfl,_,_,rfl,rfl,ok3 hMl (by decide +kernel),_,rfl,_,_,rfl,rfl,ok3 (Co hM0 (B:=20) (by decide +kernel) (by decide)) hTl,P2,fun t3_0 ht3_0=>?_⟩
 have na : t3_0 ≠ a:=p12.ne' ht3_0
 have sN:=Ae.new (o:=.tup [(.str ((tx x0 ++ Str.ofString ":1") ++ (Str.ofString ", ") ++ (Av pss))),.str (Str.ofString "points")]) ht3_0
 have ft3_0 : ItM K a (upd G12 t3_0 (.tup [(.str ((tx x0 ++ Str.ofString ":1") ++ (Str.ofString ", ") ++ (Av pss))),.str (Str.ofString "points")])) (.ref t3_0):=⟨t3_0,(.str ((tx x0 ++ Str.ofString ":1") ++ (Str.ofString ", ") ++ (Av pss))),1,rfl,na,Ab,fun G _=>QE hpq h6 h0 hx G⟩
 have S14:=S13.trans sN
 have p13:=p12.sm sN
 have sR:=sN
 generalize upd G12 t3_0 (.tup [(.str ((tx x0 ++ Str.ofString ":1") ++ (Str.ofString ", ") ++ (Av pss))),.str (Str.ofString "points")]) = G13 at ft3_0 S14 p13 sR ⊢
 clear na sN
 refine ⟨_,rfl,P2,fun t3_1 ht3_1=>?_⟩
 have na : t3_1 ≠ a:=p13.ne' ht3_1
 have sN:=Ae.new (o:=.tup [(.str ((Av Bv))),.str (Str.ofString "many")]) ht3_1
 have ft3_0:=ft3_0.same sN
 have ft3_1 : ItM K a (upd G13 t3_1 (.tup [(.str ((Av Bv))),.str (Str.ofString "many")])) (.ref t3_1):=⟨t3_1,(.str ((Av Bv))),0,rfl,na,Ab,fun G _=>Q3 G⟩
 have S15:=S14.trans sN
 have p14:=p13.sm sN
 have sR:=sR.trans sN
 generalize upd G13 t3_1 (.tup [(.str ((Av Bv))),.str (Str.ofString "many")]) = G14 at ft3_0 ft3_1 S15 p14 sR ⊢
 clear na sN
 refine ⟨_,rfl,_,_,rfl,rfl,ok3 hFl (by decide +kernel),P2,fun t3_2 ht3_2=>?_⟩
 have na : t3_2 ≠ a:=p14.ne' ht3_2
 have sN:=Ae.new (o:=.tup [(.str ((Av Bv) ++ (Str.ofString ", 3:4"))),.str (Str.ofString "points")]) ht3_2
 have ft3_0:=ft3_0.same sN
 have ft3_1:=ft3_1.same sN
 have ft3_2 : ItM K a (upd G14 t3_2 (.tup [(.str ((Av Bv) ++ (Str.ofString ", 3:4"))),.str (Str.ofString "points")])) (.ref t3_2):=⟨t3_2,(.str ((Av Bv) ++ (Str.ofString ", 3:4"))),1,rfl,na,Ab,fun G _=>Q0 G⟩
 have S16:=S15.trans sN
 have p15:=p14.sm sN
 have sR:=sR.trans sN
 generalize upd G14 t3_2 (.tup [(.str ((Av Bv) ++ (Str.ofString ", 3:4"))),.str (Str.ofString "points")]) = G15 at ft3_0 ft3_1 ft3_2 S16 p15 sR ⊢
 clear na sN
 refine ⟨(by decide : 3 ≤ sizeLine),fun m3 hm3=>?_⟩
 refine ⟨l2,m3,xs2,[V.ref t3_0,V.ref t3_1,V.ref t3_2],rfl,rfl,(Ae.new hm3) _ _ (sR _ _ el2),Ab,(by rw [hn2]; exact (show 9 + 3 ≤ sizeLine by decide)),fun l3 hl3=>?_⟩
 have la3 : l3 ≠ a:=(p15.same hm3).ne' hl3
 have SS:=(Ae.new (o:=.lst [V.ref t3_0,V.ref t3_1,V.ref t3_2]) hm3).trans (Ae.new (o:=.lst (xs2 ++ [V.ref t3_0,V.ref t3_1,V.ref t3_2])) hl3)
 have el3:=Ab (H:=upd G15 m3 (.lst [V.ref t3_0,V.ref t3_1,V.ref t3_2])) (a:=l3) (o:=.lst (xs2 ++ [V.ref t3_0,V.ref t3_1,V.ref t3_2]))
 have hx3 : ∀ x ∈ xs2 ++ [V.ref t3_0,V.ref t3_1,V.ref t3_2],ItM K a _ x:=GH hx2 (sR.trans SS) (Bo (ft3_0.same SS) (Bo (ft3_1.same SS) (Bo (ft3_2.same SS) Fi)))
 have hn3 : (xs2 ++ [V.ref t3_0,V.ref t3_1,V.ref t3_2]).length = 12:=by rw [U4,hn2]; rfl
 have S17:=S16.trans SS
 have p16:=p15.sm SS
 generalize upd (upd G15 m3 (.lst [V.ref t3_0,V.ref t3_1,V.ref t3_2])) l3 (.lst (xs2 ++ [V.ref t3_0,V.ref t3_1,V.ref t3_2])) = G16 at el3 hx3 S17 p16 ⊢
 generalize xs2 ++ [V.ref t3_0,V.ref t3_1,V.ref t3_2] = xs3 at el3 hx3 hn3
 clear SS sR ft3_0 ft3_1 ft3_2
 refine ⟨_,rfl,_,rfl,_,_,rfl,rfl,ok3 hFl (by decide +kernel),P2,fun t4_0 ht4_0=>?_⟩
 have na : t4_0 ≠ a:=p16.ne' ht4_0
 have sN:=Ae.new (o:=.tup [(.str ((Av Bv) ++ (Str.ofString ", 1234567:4"))),.str (Str.ofString "text")]) ht4_0
 have ft4_0 : ItM K a (upd G16 t4_0 (.tup [(.str ((Av Bv) ++ (Str.ofString ", 1234567:4"))),.str (Str.ofString "text")])) (.ref t4_0):=⟨t4_0,(.str ((Av Bv) ++ (Str.ofString ", 1234567:4"))),2,rfl,na,Ab,fun G _=>PZ G⟩
 have S18:=S17.trans sN
 have p17:=p16.sm sN
 have sR:=sN
 generalize upd G16 t4_0 (.tup [(.str ((Av Bv) ++ (Str.ofString ", 1234567:4"))),.str (Str.ofString "text")]) = G17 at ft4_0 S18 p17 sR ⊢
 clear na sN
 refine ⟨P2,fun t4_1 ht4_1=>?_⟩
 have na : t4_1 ≠ a:=p17.ne' ht4_1
 have sN:=Ae.new (o:=.tup [.non,.str (Str.ofString "text")]) ht4_1
 have ft4_0:=ft4_0.same sN
 have ft4_1 : ItM K a (upd G17 t4_1 (.tup [.non,.str (Str.ofString "text")])) (.ref t4_1):=⟨t4_1,.non,2,rfl,na,Ab,fun G _=>.no ⟨_,.of .non,MC K⟩⟩
 have S19:=S18.trans sN
 have p18:=p17.sm sN
 have sR:=sR.trans sN
 generalize upd G17 t4_1 (.tup [.non,.str (Str.ofString "text")]) = G18 at ft4_0 ft4_1 S19 p18 sR ⊢
 clear na sN
 refine ⟨P2,fun t4_2 ht4_2=>?_⟩
 have na : t4_2 ≠ a:=p18.ne' ht4_2
 have sN:=Ae.new (o:=.tup [(.int 7),.str (Str.ofString "text")]) ht4_2
 have ft4_0:=ft4_0.same sN
 have ft4_1:=ft4_1.same sN
 have ft4_2 : ItM K a (upd G18 t4_2 (.tup [(.int 7),.str (Str.ofString "text")])) (.ref t4_2):=⟨t4_2,(.int 7),2,rfl,na,Ab,fun G _=>.no ⟨_,.of (.int _),Kx K⟩⟩
 have S20:=S19.trans sN
 have p19:=p18.sm sN
 have sR:=sR.trans sN
 generalize upd G18 t4_2 (.tup [(.int 7),.str (Str.ofString "text")]) = G19 at ft4_0 ft4_1 ft4_2 S20 p19 sR ⊢
 clear na sN
 refine ⟨_,rfl,P1,fun li hli=>?_⟩
 have lia : li ≠ a:=p19.ne' hli
 have sN:=Ae.new (o:=.lst [.str (Av pss)]) hli
 have eL:=Ab (H:=G19) (a:=li) (o:=.lst [.str (Av pss)])
 have ft4_0:=ft4_0.same sN
 have ft4_1:=ft4_1.same sN
 have ft4_2:=ft4_2.same sN
 have S21:=S20.trans sN
 have sR:=sR.trans sN
 have p20:=p19.sm sN
 generalize upd G19 li (.lst [.str (Av pss)]) = G20 at ft4_0 ft4_1 ft4_2 eL S21 p20 sR ⊢
 refine ⟨P2,fun t4_3 ht4_3=>?_⟩
 have na : t4_3 ≠ a:=p20.ne' ht4_3
 have sN:=Ae.new (o:=.tup [(V.ref li),.str (Str.ofString "text")]) ht4_3
 have ft4_0:=ft4_0.same sN
 have ft4_1:=ft4_1.same sN
 have ft4_2:=ft4_2.same sN
 have eL:=sN _ _ eL
 have ft4_3 : ItM K a (upd G20 t4_3 (.tup [(V.ref li),.str (Str.ofString "text")])) (.ref t4_3):=⟨t4_3,(V.ref li),2,rfl,na,Ab,fun G m=>.no ⟨_,.lst (SqL.of (m _ _ lia eL)),MD K⟩⟩
 clear eL
 have S22:=S21.trans sN
 have p21:=p20.sm sN
 have sR:=sR.trans sN
 generalize upd G20 t4_3 (.tup [(V.ref li),.str (Str.ofString "text")]) = G21 at ft4_0 ft4_1 ft4_2 ft4_3 S22 p21 sR ⊢
 clear na sN
 refine ⟨(by decide : 4 ≤ sizeLine),fun m4 hm4=>?_⟩
 refine ⟨l3,m4,xs3,[V.ref t4_0,V.ref t4_1,V.ref t4_2,V.ref t4_3],rfl,rfl,(Ae.new hm4) _ _ (sR _ _ el3),Ab,(by rw [hn3]; exact (show 12 + 4 ≤ sizeLine by decide)),fun l4 hl4=>?_⟩
 have la4 : l4 ≠ a:=(p21.same hm4).ne' hl4
 have SS:=(Ae.new (o:=.lst [V.ref t4_0,V.ref t4_1,V.ref t4_2,V.ref t4_3]) hm4).trans (Ae.new (o:=.lst (xs3 ++ [V.ref t4_0,V.ref t4_1,V.ref t4_2,V.ref t4_3])) hl4)
 have el4:=Ab (H:=upd G21 m4 (.lst [V.ref t4_0,V.ref t4_1,V.ref t4_2,V.ref t4_3])) (a:=l4) (o:=.lst (xs3 ++ [V.ref t4_0,V.ref t4_1,V.ref t4_2,V.ref t4_3]))
 have hx4 : ∀ x ∈ xs3 ++ [V.ref t4_0,V.ref t4_1,V.ref t4_2,V.ref t4_3],ItM K a _ x:=GH hx3 (sR.trans SS) (Bo (ft4_0.same SS) (Bo (ft4_1.same SS) (Bo (ft4_2.same SS) (Bo (ft4_3.same SS) Fi))))
 have hn4 : (xs3 ++ [V.ref t4_0,V.ref t4_1,V.ref t4_2,V.ref t4_3]).length = 16:=by rw [U4,hn3]; rfl
 have S23:=S22.trans SS
 have p22:=p21.sm SS
 generalize upd (upd G21 m4 (.lst [V.ref t4_0,V.ref t4_1,V.ref t4_2,V.ref t4_3])) l4 (.lst (xs3 ++ [V.ref t4_0,V.ref t4_1,V.ref t4_2,V.ref t4_3])) = G22 at el4 hx4 S23 p22 ⊢
 generalize xs3 ++ [V.ref t4_0,V.ref t4_1,V.ref t4_2,V.ref t4_3] = xs4 at el4 hx4 hn4
 clear SS sR ft4_0 ft4_1 ft4_2 ft4_3
 refine ⟨_,rfl,P2,fun t5_0 ht5_0=>?_⟩
 have na : t5_0 ≠ a:=p22.ne' ht5_0
 have sN:=Ae.new (o:=.tup [(.str ((Str.ofString "1"))),.str (Str.ofString "text")]) ht5_0
 have ft5_0 : ItM K a (upd G22 t5_0 (.tup [(.str ((Str.ofString "1"))),.str (Str.ofString "text")])) (.ref t5_0):=⟨t5_0,(.str ((Str.ofString "1"))),2,rfl,na,Ab,fun G _=>DR (by decide +kernel)⟩
 have S24:=S23.trans sN
 have p23:=p22.sm sN
 have sR:=sN
 generalize upd G22 t5_0 (.tup [(.str ((Str.ofString "1"))),.str (Str.ofString "text")]) = G23 at ft5_0 S24 p23 sR ⊢
 clear na sN
 refine ⟨P2,fun t5_1 ht5_1=>?_⟩
 have na : t5_1 ≠ a:=p23.ne' ht5_1
 have sN:=Ae.new (o:=.tup [(.str ((Str.ofString "1:2:3:4"))),.str (Str.ofString "text")]) ht5_1
 have ft5_0:=ft5_0.same sN
 have ft5_1 : ItM K a (upd G23 t5_1 (.tup [(.str ((Str.ofString "1:2:3:4"))),.str (Str.ofString "text")])) (.ref t5_1):=⟨t5_1,(.str ((Str.ofString "1:2:3:4"))),2,rfl,na,Ab,fun G _=>DR (by decide +kernel)⟩
 have S25:=S24.trans sN
 have p24:=p23.sm sN
 have sR:=sR.trans sN
 generalize upd G23 t5_1 (.tup [(.str ((Str.ofString "1:2:3:4"))),.str (Str.ofString "text")]) = G24 at ft5_0 ft5_1 S25 p24 sR ⊢
 clear na sN
 refine ⟨(by decide : 2 ≤ sizeLine),fun m5 hm5=>?_⟩
 refine ⟨l4,m5,xs4,[V.ref t5_0,V.ref t5_1],rfl,rfl,(Ae.new hm5) _ _ (sR _ _ el4),Ab,(by rw [hn4]; exact (show 16 + 2 ≤ sizeLine by decide)),fun l5 hl5=>?_⟩
 have la5 : l5 ≠ a:=(p24.same hm5).ne' hl5
 have SS:=(Ae.new (o:=.lst [V.ref t5_0,V.ref t5_1]) hm5).trans (Ae.new (o:=.lst (xs4 ++ [V.ref t5_0,V.ref t5_1])) hl5)
 have el5:=Ab (H:=upd G24 m5 (.lst [V.ref t5_0,V.ref t5_1])) (a:=l5) (o:=.lst (xs4 ++ [V.ref t5_0,V.ref t5_1]))
 have hx5 : ∀ x ∈ xs4 ++ [V.ref t5_0,V.ref t5_1],ItM K a _ x:=GH hx4 (sR.trans SS) (Bo (ft5_0.same SS) (Bo (ft5_1.same SS) Fi))
 have hn5 : (xs4 ++ [V.ref t5_0,V.ref t5_1]).length = 18:=by rw [U4,hn4]; rfl
 have S26:=S25.trans SS
 have p25:=p24.sm SS
 generalize upd (upd G24 m5 (.lst [V.ref t5_0,V.ref t5_1])) l5 (.lst (xs4 ++ [V.ref t5_0,V.ref t5_1])) = G25 at el5 hx5 S26 p25 ⊢
 generalize xs4 ++ [V.ref t5_0,V.ref t5_1] = xs5 at el5 hx5 hn5
 clear SS sR ft5_0 ft5_1
 refine ⟨_,rfl,_,rfl,_,rfl,l5,_,rfl,.inl (SqL.of el5),a,_,rfl,p25,by rw [hn5]; decide,by rw [hn5]; decide,fun d H9 d0 d1 o9 p9=>?_⟩
 obtain ⟨x,hx9,hm⟩:=(MU (xs:=xs5) d0 d1)
 refine FA (hx5 x hm) fun t y n hz22'=>?_
 refine II hz22' fun hq21 ta et hr9=>?_
 clear hz22'
 obtain rfl:=hq21
 exact ⟨l5,_,_,_,rfl,rfl,SqL.of (o9.mv _ _ la5 el5),hx9,q t y n _ (S26.mv.trans o9.mv) p9 (o9.mv _ _ ta et) (hr9 _ o9.mv)⟩
theorem Bj : AA ["_law_caught_here","_law_some","_law_found"] ["_law_caught_here"] (Af (top 142)):=⟨rfl,rfl,rfl,by decide +kernel,rfl,by decide +kernel,by decide +kernel⟩
theorem F0 {f : Addr} {fd : FuncData} (F : Fun K "_law_refusal" "_law_refusal" (top 142) f fd) {a_TooMany a_NoPoints a_NoPoint a_NoNumber a_NoCurve a_NoStretch a_TooDeep a_TooFew a_NoText a_NoRow : Addr} (c_TooMany : mg "TooMany" = some (.ref a_TooMany)) (c_NoPoints : mg "NoPoints" = some (.ref a_NoPoints)) (c_NoPoint : mg "NoPoint" = some (.ref a_NoPoint)) (c_NoNumber : mg "NoNumber" = some (.ref a_NoNumber)) (c_NoCurve : mg "NoCurve" = some (.ref a_NoCurve)) (c_NoStretch : mg "NoStretch" = some (.ref a_NoStretch)) (c_TooDeep : mg "TooDeep" = some (.ref a_TooDeep)) (c_TooFew : mg "TooFew" = some (.ref a_TooFew)) (c_NoText : mg "NoText" = some (.ref a_NoText)) (c_NoRow : mg "NoRow" = some (.ref a_NoRow)) (R1 : mg "isinstance" = none) (QZ : mg "len" = none) (Rm : mg "ValueError" = none) (hT : P.given.tree = none) :
 FnH P w K mg base 33 f fd "_law_caught_here" (HP K [a_TooMany,a_NoPoints,a_NoPoint,a_NoNumber,a_NoCurve,a_NoStretch,a_TooDeep,a_TooFew,a_NoText,a_NoRow]):=by
 refine F.okH Bj (fun cdv A outer s H ea oe Q hr hx h=>?_)
 refine ⟨_,(Ad (K:=K) (Ap (i:=1) Bj.nd rfl (Or.inl rfl) (Bq (Aa (AG (Aa Aj (Aa (Ak (GI K hx) rfl R1 Ar (Aa (pv 0) (Aa (AV (v:=.ref a_TooMany) rfl c_TooMany rfl) Ac))) Ac))) (Aa (AG (Aa Aj (Aa (Ak (GI K hx) rfl R1 Ar (Aa (pv 0) (Aa (AV (v:=.ref a_NoPoints) rfl c_NoPoints rfl) Ac))) Ac))) Ac))))
  (Ad (K:=K) (Ap (i:=1) Bj.nd rfl (Or.inl rfl) (Am By (pv 1) (Bq (Aa (AG (Aa Aj (Aa (Ak (GI K hx) rfl R1 Ar (Aa (pv 0) (Aa (AV (v:=.ref a_NoPoint) rfl c_NoPoint rfl) Ac))) Ac))) (Aa (AG (Aa Aj (Aa (Ak (GI K hx) rfl R1 Ar (Aa (pv 0) (Aa (AV (v:=.ref a_NoNumber) rfl c_NoNumber rfl) Ac))) Ac))) Ac)))))
  (Ad (K:=K) (Ap (i:=1) Bj.nd rfl (Or.inl rfl) (Am By (pv 1) (Bq (Aa (AG (Aa Aj (Aa (Ak (GI K hx) rfl R1 Ar (Aa (pv 0) (Aa (AV (v:=.ref a_NoCurve) rfl c_NoCurve rfl) Ac))) Ac))) (Aa (AG (Aa Aj (Aa (Ak (GI K hx) rfl R1 Ar (Aa (pv 0) (Aa (AV (v:=.ref a_NoStretch) rfl c_NoStretch rfl) Ac))) Ac))) Ac)))))
  (Ad (K:=K) (Ap (i:=1) Bj.nd rfl (Or.inl rfl) (Am By (pv 1) (Bq (Aa (AG (Aa Aj (Aa (Ak (GI K hx) rfl R1 Ar (Aa (pv 0) (Aa (AV (v:=.ref a_TooDeep) rfl c_TooDeep rfl) Ac))) Ac))) (Aa (AG (Aa Aj (Aa (Ak (GI K hx) rfl R1 Ar (Aa (pv 0) (Aa (AV (v:=.ref a_TooFew) rfl c_TooFew rfl) Ac))) Ac))) Ac)))))
  (Ad (K:=K) (Ap (i:=1) Bj.nd rfl (Or.inl rfl) (Am By (pv 1) (Bq (Aa (AG (Aa Aj (Aa (Ak (GI K hx) rfl R1 Ar (Aa (pv 0) (Aa (AV (v:=.ref a_NoText) rfl c_NoText rfl) Ac))) Ac))) (Aa (AG (Aa Aj (Aa (Ak (GI K hx) rfl R1 Ar (Aa (pv 0) (Aa (AV (v:=.ref a_NoRow) rfl c_NoRow rfl) Ac))) Ac))) Ac)))))
  (Ad (K:=K) (Oz (K:=K) hx (i:=2) Bj.nd rfl rfl (N:=["_law_word","_law_one"]) (nt:=2) (js:=[]) (Be.look (NX:=["_law_caught_here","_law_some","_law_found"]) (sc:=Af (top 142)) rfl rfl (by decide +kernel)) (pv 1) (fun u1 u2 u3 u4 u5 hxx=>(QL (K:=K) (n:=2) hxx (Cg (AK (i:=0) (show List.Nodup (["_law_word","_law_one"] : List Str) from by decide +kernel) rfl (Or.inl rfl)) (Cg (AK (i:=1) (show List.Nodup (["_law_word","_law_one"] : List Str) from by decide +kernel) rfl (Or.inl rfl)) FG)))) (KZ (Fq (by decide) (Fq (by decide) JN))) (fun u1 u2 u3 u4 u5=>Ng (Bu (pv 1))) (fun u1 u2 u3 u4 u5=>(pv 0)) rfl)
  (Ad (K:=K) (AD (K:=K) (PW.pt (CU (Aw Ey (Ak (CG K) rfl QZ Bf (Aa (pv 2) Ac)) Ag (AH _)) (BY (BL (Bu (Ak (GI K hx) rfl R1 Ar (Aa (pv 0) (Aa (BN (v:=.ty "ValueError") rfl Rm Hj rfl) Ac)))))))) (Ah (Az Aj)) Ax (by rfl) (by rfl))
  (Ah (Az (AB (ixL K) (pv 2) Ag (fun u v=>rfl)))) (by rfl)) (by rfl)) (by rfl)) (by rfl)) (by rfl)) (by rfl)) (by rfl)),?_⟩
 obtain ⟨D,n,w,hD,R,hw,q⟩:=h
 have P2 : 2 ≤ sizeLine:=by decide
 have P10 : 10 ≤ sizeLine:=by decide
 refine ⟨_,rfl,D,_,_,_,hD,R.ty,rfl,rfl,R.of 0 _ rfl,P2,fun p0 h1=>?_⟩
 have s1 : Ae H (upd H p0 (.tup [.str "many",.bl (0 == n)])):=Ae.new h1
 have w1 : WB K (upd H p0 (.tup [.str "many",.bl (0 == n)])) (.ref p0) ("many",(0 == n)):=⟨p0,rfl,SqT.of Ab⟩
 generalize upd H p0 (.tup [.str "many",.bl (0 == n)]) = A0 at s1 w1 ⊢
 refine ⟨_,rfl,D,_,_,_,hD,R.ty,rfl,rfl,R.of 1 _ rfl,P2,fun u0 h2=>?_⟩
 have s2 : Ae A0 (upd A0 u0 (.tup [.str "points",.bl (1 == n)])):=Ae.new h2
 have w2 : WB K (upd A0 u0 (.tup [.str "points",.bl (1 == n)])) (.ref u0) ("points",(1 == n)):=⟨u0,rfl,SqT.of Ab⟩
 have w1:=w1.same s2
 have s2:=s1.trans s2
 generalize upd A0 u0 (.tup [.str "points",.bl (1 == n)]) = B0 at s2 w1 w2 ⊢
 refine ⟨P2,fun b0 hl=>?_⟩
 have s3 : Ae B0 (upd B0 b0 (.lst [.ref p0,.ref u0])):=Ae.new hl
 have eb : upd B0 b0 (.lst [.ref p0,.ref u0]) b0 = some (.lst [.ref p0,.ref u0]):=Ab
 have w1:=w1.same s3
 have w2:=w2.same s3
 have sT:=s2.trans s3
 generalize upd B0 b0 (.lst [.ref p0,.ref u0]) = C0 at sT eb w1 w2 ⊢
 clear s1 s2 s3 h1 h2 hl
 have l0:=b0
 have S0:=sT
 have el0:=eb
 have hn0 : [V.ref p0,V.ref u0].length = 2:=rfl
 have wS0 : Paired (WB K C0) [.ref p0,.ref u0] [("many",(0 == n)),("points",(1 == n))]:=.cons w1 (.cons w2 .nil)
 generalize [V.ref p0,V.ref u0] = xs0 at el0 wS0 hn0
 clear sT eb w1 w2
 refine ⟨_,rfl,_,rfl,D,_,_,_,hD,R.ty,rfl,rfl,R.of 2 _ rfl,P2,fun p1 h1=>?_⟩
 have s1 : Ae C0 (upd C0 p1 (.tup [.str "point",.bl (2 == n)])):=Ae.new h1
 have w1 : WB K (upd C0 p1 (.tup [.str "point",.bl (2 == n)])) (.ref p1) ("point",(2 == n)):=⟨p1,rfl,SqT.of Ab⟩
 generalize upd C0 p1 (.tup [.str "point",.bl (2 == n)]) = A1 at s1 w1 ⊢
 refine ⟨_,rfl,D,_,_,_,hD,R.ty,rfl,rfl,R.of 3 _ rfl,P2,fun u1 h2=>?_⟩
 have s2 : Ae A1 (upd A1 u1 (.tup [.str "number",.bl (3 == n)])):=Ae.new h2
 have w2 : WB K (upd A1 u1 (.tup [.str "number",.bl (3 == n)])) (.ref u1) ("number",(3 == n)):=⟨u1,rfl,SqT.of Ab⟩
 have w1:=w1.same s2
 have s2:=s1.trans s2
 generalize upd A1 u1 (.tup [.str "number",.bl (3 == n)]) = B1 at s2 w1 w2 ⊢
 refine ⟨P2,fun b1 hl=>?_⟩
 have s3 : Ae B1 (upd B1 b1 (.lst [.ref p1,.ref u1])):=Ae.new hl
 have eb : upd B1 b1 (.lst [.ref p1,.ref u1]) b1 = some (.lst [.ref p1,.ref u1]):=Ab
 have w1:=w1.same s3
 have w2:=w2.same s3
 have sT:=s2.trans s3
 generalize upd B1 b1 (.lst [.ref p1,.ref u1]) = C1 at sT eb w1 w2 ⊢
 clear s1 s2 s3 h1 h2 hl
 have wS:=WBs.snoc (WBs.same wS0 sT) w1 w2
 have ST:=S0.trans sT
 refine ⟨b0,b1,xs0,_,rfl,rfl,sT _ _ el0,eb,by rw [hn0]; exact (show 2 + 2 ≤ sizeLine by decide),fun l1 hl=>?_⟩
 have s4 : Ae C1 (upd C1 l1 (.lst (xs0 ++ [.ref p1,.ref u1]))):=Ae.new hl
 have el1 : upd C1 l1 (.lst (xs0 ++ [.ref p1,.ref u1])) l1 = some (.lst (xs0 ++ [.ref p1,.ref u1])):=Ab
 have wS1 : Paired (WB K (upd C1 l1 (.lst (xs0 ++ [.ref p1,.ref u1])))) _ [("many",(0 == n)),("points",(1 == n)),("point",(2 == n)),("number",(3 == n))]:=WBs.same wS s4
 have S1:=ST.trans s4
 have hn1 : (xs0 ++ [V.ref p1,V.ref u1]).length = 2 + 2:=by rw [U4,hn0]; rfl
 generalize upd C1 l1 (.lst (xs0 ++ [.ref p1,.ref u1])) = D1 at S1 el1 wS1 ⊢
 generalize xs0 ++ [V.ref p1,V.ref u1] = xs1 at el1 wS1 hn1
 clear wS sT ST S0 eb w1 w2 s4 hl wS0 el0 hn0
 refine ⟨_,rfl,_,rfl,D,_,_,_,hD,R.ty,rfl,rfl,R.of 4 _ rfl,P2,fun p2 h1=>?_⟩
 have s1 : Ae D1 (upd D1 p2 (.tup [.str "curve",.bl (4 == n)])):=Ae.new h1
 have w1 : WB K (upd D1 p2 (.tup [.str "curve",.bl (4 == n)])) (.ref p2) ("curve",(4 == n)):=⟨p2,rfl,SqT.of Ab⟩
 generalize upd D1 p2 (.tup [.str "curve",.bl (4 == n)]) = A2 at s1 w1 ⊢
 refine ⟨_,rfl,D,_,_,_,hD,R.ty,rfl,rfl,R.of 5 _ rfl,P2,fun u2 h2=>?_⟩
 have s2 : Ae A2 (upd A2 u2 (.tup [.str "stretch",.bl (5 == n)])):=Ae.new h2
 have w2 : WB K (upd A2 u2 (.tup [.str "stretch",.bl (5 == n)])) (.ref u2) ("stretch",(5 == n)):=⟨u2,rfl,SqT.of Ab⟩
 have w1:=w1.same s2
 have s2:=s1.trans s2
 generalize upd A2 u2 (.tup [.str "stretch",.bl (5 == n)]) = B2 at s2 w1 w2 ⊢
 refine ⟨P2,fun b2 hl=>?_⟩
 have s3 : Ae B2 (upd B2 b2 (.lst [.ref p2,.ref u2])):=Ae.new hl
 have eb : upd B2 b2 (.lst [.ref p2,.ref u2]) b2 = some (.lst [.ref p2,.ref u2]):=Ab
 have w1:=w1.same s3
 have w2:=w2.same s3
 have sT:=s2.trans s3
 generalize upd B2 b2 (.lst [.ref p2,.ref u2]) = C2 at sT eb w1 w2 ⊢
 clear s1 s2 s3 h1 h2 hl
 have wS:=WBs.snoc (WBs.same wS1 sT) w1 w2
 have ST:=S1.trans sT
 refine ⟨l1,b2,xs1,_,rfl,rfl,sT _ _ el1,eb,by rw [hn1]; exact (show 4 + 2 ≤ sizeLine by decide),fun l2 hl=>?_⟩
 have s4 : Ae C2 (upd C2 l2 (.lst (xs1 ++ [.ref p2,.ref u2]))):=Ae.new hl
 have el2 : upd C2 l2 (.lst (xs1 ++ [.ref p2,.ref u2])) l2 = some (.lst (xs1 ++ [.ref p2,.ref u2])):=Ab
 have wS2 : Paired (WB K (upd C2 l2 (.lst (xs1 ++ [.ref p2,.ref u2])))) _ [("many",(0 == n)),("points",(1 == n)),("point",(2 == n)),("number",(3 == n)),("curve",(4 == n)),("stretch",(5 == n))]:=WBs.same wS s4
 have S2:=ST.trans s4
 have hn2 : (xs1 ++ [V.ref p2,V.ref u2]).length = 4 + 2:=by rw [U4,hn1]; rfl
 generalize upd C2 l2 (.lst (xs1 ++ [.ref p2,.ref u2])) = D2 at S2 el2 wS2 ⊢
 generalize xs1 ++ [V.ref p2,V.ref u2] = xs2 at el2 wS2 hn2
 clear wS sT ST S1 eb w1 w2 s4 hl wS1 el1 hn1
 refine ⟨_,rfl,_,rfl,D,_,_,_,hD,R.ty,rfl,rfl,R.of 6 _ rfl,P2,fun p3 h1=>?_⟩
 have s1 : Ae D2 (upd D2 p3 (.tup [.str "deep",.bl (6 == n)])):=Ae.new h1
 have w1 : WB K (upd D2 p3 (.tup [.str "deep",.bl (6 == n)])) (.ref p3) ("deep",(6 == n)):=⟨p3,rfl,SqT.of Ab⟩
 generalize upd D2 p3 (.tup [.str "deep",.bl (6 == n)]) = A3 at s1 w1 ⊢
 refine ⟨_,rfl,D,_,_,_,hD,R.ty,rfl,rfl,R.of 7 _ rfl,P2,fun u3 h2=>?_⟩
 have s2 : Ae A3 (upd A3 u3 (.tup [.str "few",.bl (7 == n)])):=Ae.new h2
 have w2 : WB K (upd A3 u3 (.tup [.str "few",.bl (7 == n)])) (.ref u3) ("few",(7 == n)):=⟨u3,rfl,SqT.of Ab⟩
 have w1:=w1.same s2
 have s2:=s1.trans s2
 generalize upd A3 u3 (.tup [.str "few",.bl (7 == n)]) = B3 at s2 w1 w2 ⊢
 refine ⟨P2,fun b3 hl=>?_⟩
 have s3 : Ae B3 (upd B3 b3 (.lst [.ref p3,.ref u3])):=Ae.new hl
 have eb : upd B3 b3 (.lst [.ref p3,.ref u3]) b3 = some (.lst [.ref p3,.ref u3]):=Ab
 have w1:=w1.same s3
 have w2:=w2.same s3
 have sT:=s2.trans s3
 generalize upd B3 b3 (.lst [.ref p3,.ref u3]) = C3 at sT eb w1 w2 ⊢
 clear s1 s2 s3 h1 h2 hl
 have wS:=WBs.snoc (WBs.same wS2 sT) w1 w2
 have ST:=S2.trans sT
 refine ⟨l2,b3,xs2,_,rfl,rfl,sT _ _ el2,eb,by rw [hn2]; exact (show 6 + 2 ≤ sizeLine by decide),fun l3 hl=>?_⟩
 have s4 : Ae C3 (upd C3 l3 (.lst (xs2 ++ [.ref p3,.ref u3]))):=Ae.new hl
 have el3 : upd C3 l3 (.lst (xs2 ++ [.ref p3,.ref u3])) l3 = some (.lst (xs2 ++ [.ref p3,.ref u3])):=Ab
 have wS3 : Paired (WB K (upd C3 l3 (.lst (xs2 ++ [.ref p3,.ref u3])))) _ [("many",(0 == n)),("points",(1 == n)),("point",(2 == n)),("number",(3 == n)),("curve",(4 == n)),("stretch",(5 == n)),("deep",(6 == n)),("few",(7 == n))]:=WBs.same wS s4
 have S3:=ST.trans s4
 have hn3 : (xs2 ++ [V.ref p3,V.ref u3]).length = 6 + 2:=by rw [U4,hn2]; rfl
 generalize upd C3 l3 (.lst (xs2 ++ [.ref p3,.ref u3])) = D3 at S3 el3 wS3 ⊢
 generalize xs2 ++ [V.ref p3,V.ref u3] = xs3 at el3 wS3 hn3
 clear wS sT ST S2 eb w1 w2 s4 hl wS2 el2 hn2
 refine ⟨_,rfl,_,rfl,D,_,_,_,hD,R.ty,rfl,rfl,R.of 8 _ rfl,P2,fun p4 h1=>?_⟩
 have s1 : Ae D3 (upd D3 p4 (.tup [.str "text",.bl (8 == n)])):=Ae.new h1
 have w1 : WB K (upd D3 p4 (.tup [.str "text",.bl (8 == n)])) (.ref p4) ("text",(8 == n)):=⟨p4,rfl,SqT.of Ab⟩
 generalize upd D3 p4 (.tup [.str "text",.bl (8 == n)]) = A4 at s1 w1 ⊢
 refine ⟨_,rfl,D,_,_,_,hD,R.ty,rfl,rfl,R.of 9 _ rfl,P2,fun u4 h2=>?_⟩
 have s2 : Ae A4 (upd A4 u4 (.tup [.str "row",.bl (9 == n)])):=Ae.new h2
 have w2 : WB K (upd A4 u4 (.tup [.str "row",.bl (9 == n)])) (.ref u4) ("row",(9 == n)):=⟨u4,rfl,SqT.of Ab⟩
 have w1:=w1.same s2
 have s2:=s1.trans s2
 generalize upd A4 u4 (.tup [.str "row",.bl (9 == n)]) = B4 at s2 w1 w2 ⊢
 refine ⟨P2,fun b4 hl=>?_⟩
 have s3 : Ae B4 (upd B4 b4 (.lst [.ref p4,.ref u4])):=Ae.new hl
 have eb : upd B4 b4 (.lst [.ref p4,.ref u4]) b4 = some (.lst [.ref p4,.ref u4]):=Ab
 have w1:=w1.same s3
 have w2:=w2.same s3
 have sT:=s2.trans s3
 generalize upd B4 b4 (.lst [.ref p4,.ref u4]) = C4 at sT eb w1 w2 ⊢
 clear s1 s2 s3 h1 h2 hl
 have wS:=WBs.snoc (WBs.same wS3 sT) w1 w2
 have ST:=S3.trans sT
 refine ⟨l3,b4,xs3,_,rfl,rfl,sT _ _ el3,eb,by rw [hn3]; exact (show 8 + 2 ≤ sizeLine by decide),fun l4 hl=>?_⟩
 have s4 : Ae C4 (upd C4 l4 (.lst (xs3 ++ [.ref p4,.ref u4]))):=Ae.new hl
 have el4 : upd C4 l4 (.lst (xs3 ++ [.ref p4,.ref u4])) l4 = some (.lst (xs3 ++ [.ref p4,.ref u4])):=Ab
 have wS4 : Paired (WB K (upd C4 l4 (.lst (xs3 ++ [.ref p4,.ref u4])))) _ [("many",(0 == n)),("points",(1 == n)),("point",(2 == n)),("number",(3 == n)),("curve",(4 == n)),("stretch",(5 == n)),("deep",(6 == n)),("few",(7 == n)),("text",(8 == n)),("row",(9 == n))]:=WBs.same wS s4
 have S4:=ST.trans s4
 have hn4 : (xs3 ++ [V.ref p4,V.ref u4]).length = 8 + 2:=by rw [U4,hn3]; rfl
 generalize upd C4 l4 (.lst (xs3 ++ [.ref p4,.ref u4])) = D4 at S4 el4 wS4 ⊢
 generalize xs3 ++ [V.ref p4,V.ref u4] = xs4 at el4 wS4 hn4
 clear wS sT ST S3 eb w1 w2 s4 hl wS3 el3 hn3
 refine Cq ⟨_,rfl,l4,rfl,⟨xs4,SqL.of el4⟩,?_⟩
 have e : CD [("many",(0 == n)),("points",(1 == n)),("point",(2 == n)),("number",(3 == n)),("curve",(4 == n)),("stretch",(5 == n)),("deep",(6 == n)),("few",(7 == n)),("text",(8 == n)),("row",(9 == n))] = [.str w]:=Mo hw
 generalize [("many",(0 == n)),("points",(1 == n)),("point",(2 == n)),("number",(3 == n)),("curve",(4 == n)),("stretch",(5 == n)),("deep",(6 == n)),("few",(7 == n)),("text",(8 == n)),("row",(9 == n))] = ps at wS4 e
 refine Nx (SqL.of el4) wS4 (by rw [hn4]; exact P10) (fun f hf=>?_)
 rw [e]
 have sf : Ae D4 (upd D4 f (.lst [.str w])):=Ae.new hf
 have ef : upd D4 f (.lst [.str w]) f = some (.lst [.str w]):=Ab
 have SF:=S4.trans sf
 generalize upd D4 f (.lst [.str w]) = D5 at ef SF ⊢
 refine ⟨_,rfl,f,_,rfl,.inl (SqL.of ef),rfl,_,rfl,Bp (by first | rfl | decide) ?_⟩
 refine ⟨_,rfl,D,_,_,_,hD,R.ty,rfl,rfl,R.ve,_,rfl,Bp rfl ?_⟩
 exact ⟨_,rfl,f,_,_,_,rfl,rfl,SqL.of ef,rfl,q _ SF⟩
theorem E9 : AA ["text"] ["text"] (Af (top 100)):=⟨rfl,rfl,rfl,by decide +kernel,rfl,by decide +kernel,by decide +kernel⟩
theorem Eb {f : Addr} {fd : FuncData} (F : Fun K "check_text" "check_text" (top 100) f fd) (R1 : mg "isinstance" = none) (R3 : mg "str" = none) (hT : P.given.tree = none) :
 AI P w K mg base CX0 33 f fd ["text"] (Hs):=by
 refine F.ok E9 (fun vs H Q E h=>?_) (fun cdv A outer s H vs Q E hr h=>?_)
 ·obtain ⟨_,rfl,_⟩:=h; rfl
 refine ⟨_,(Ah (AD (K:=K) (BL (Bu (Ak (Jn K) rfl R1 Ar (Aa (pv 0) (Aa (BN (v:=.ty "str") rfl R3 CJ rfl) Ac))))) (Ah BE) Ax (by rfl) (by rfl))),?_⟩
 obtain ⟨t,rfl,q⟩:=h
 exact ⟨_,rfl,_,_,_,_,rfl,.of (.str _),K5 K,true,rfl,Bk q⟩
theorem Gh {f : Addr} {fd : FuncData} (F : Fun K "check_text" "check_text" (top 100) f fd) {a_NoText : Addr} (k_NoText : EK K "NoText" a_NoText) (R1 : mg "isinstance" = none) (R3 : mg "str" = none) (hT : P.given.tree = none) :
 AI P w K mg base (CX2 P w) 33 f fd ["text"] (EV K a_NoText):=by
 refine F.okY E9 (fun vs H Q E h=>?_) (fun cdv A outer s H vs Q E hr h=>?_)
 ·obtain ⟨_,rfl,_⟩:=h; rfl
 refine ⟨_,(AY (AD (K:=K) (BL (Bu (Ak (Jn K) rfl R1 Ar (Aa (pv 0) (Aa (BN (v:=.ty "str") rfl R3 CJ rfl) Ac))))) (Ah (BD k_NoText rfl Cm rfl (Aa Aj Ac))) Ax (by rfl) (by rfl))
  CA),?_⟩
 obtain ⟨x,rfl,⟨t,ty,hk⟩,q⟩:=h
 have P1 : 1 ≤ sizeLine:=by decide
 exact ⟨_,rfl,_,_,_,_,rfl,ty,hk,false,rfl,C5 ⟨P1,q _ (Ae.refl _)⟩⟩
theorem GY : AA ["places"] ["places"] (Af (top 49)):=⟨rfl,rfl,rfl,by decide +kernel,rfl,by decide +kernel,by decide +kernel⟩
theorem Hd {f : Addr} {fd : FuncData} (F : Fun K "are_unlike" "are_unlike" (top 49) f fd) (QZ : mg "len" = none) (b_set : mg "set" = none) (hT : P.given.tree = none) :
 AI P w K mg base CX0 33 f fd ["places"] (DV K):=by
 refine F.ok GY (fun vs H Q E h=>?_) (fun cdv A outer s H vs Q E hr h=>?_)
 ·obtain ⟨_,_,_,rfl,_⟩:=h; rfl
 refine ⟨_,(Ah (Az (E1 DL (Ak LC rfl QZ Bf (Aa (Ba (QB K rfl hr.units) rfl b_set Ph (Aa (pv 0) Ac)) Ac)) (Ak (CG K) rfl QZ Bf (Aa (pv 0) Ac)) (AH _)))),?_⟩
 obtain ⟨l,ys,qs,rfl,hS,hn,h17,q⟩:=h
 have hl:=hn.length
 refine ⟨_,rfl,l,ys,qs,rfl,hS,hn,h17,fun p n hle hnd hp=>⟨p,n,rfl,Ab,by lia,?_⟩⟩
 have s1 : Ae H (upd H p (MZ p n)):=Ae.new hp
 refine ⟨_,rfl,l,ys,rfl,.inl (Ae.seq s1 hS),rfl,?_⟩
 have e : decide (V.int ((n : Nat) : Int) = V.int ((ys.length : Nat) : Int)) = decide qs.Nodup:=by
  by_cases h : qs.Nodup
  ·rw [decide_eq_true h,decide_eq_true (by rw [hl,hnd.mpr h])]
  ·rw [decide_eq_false h,decide_eq_false (fun z=>h (hnd.mp (by injection z with z; rw [hl] at z; exact Int.ofNat.inj z)))]
 rw [e]
 exact q _ s1
theorem Dp : AA ["points","told","point","k"] ["points"] (Af (top 52)):=⟨rfl,rfl,rfl,by decide +kernel,rfl,by decide +kernel,by decide +kernel⟩
theorem JW {f : Addr} {fd : FuncData} (F : Fun K "told_in" "told_in" (top 52) f fd) (R7 : mg "range" = none) (QZ : mg "len" = none) (hT : P.given.tree = none) :
 AI P w K mg base CX0 33 f fd ["points"] (FE K):=by
 refine F.ok Dp (fun vs H Q E h=>?_) (fun cdv A outer s H vs Q E hr h=>?_)
 ·obtain ⟨_,_,_,rfl,_⟩:=h; rfl
 refine ⟨_,(Ad (K:=K) (Ap (i:=1) Dp.nd rfl (Or.inl rfl) (Bq Ac))
  (Ad (K:=K) (CV (K:=K) PassesOwn.never rfl (piT K (pv 0)) (AK (i:=2) Dp.nd rfl (Or.inl rfl)) (Ah (CV (K:=K) PassesOwn.never rfl (DZ rfl R7 (Aa (Am Ef (Ak (CG K) rfl QZ Bf (Aa (pv 2) Ac)) Ag) Ac)) (AK (i:=3) Dp.nd rfl (Or.inl rfl)) (Ah (Cu (BM K PySem.F.plainAttrs_list PySem.F.slot_list_append PySem.F.type_list_append E2 (pv 1) (Aa (AG (Aa (AB (ixT K) (pv 2) Ag (fun u v=>rfl)) (Aa (pv 3) (Aa (AB (ixT K) (pv 2) (Am BS (pv 3) Ag) (fun u v=>rfl)) Ac)))) Ac)))) (by rfl))) (by rfl))
  (Ah (Az (pv 1))) (by rfl)) (by rfl)),?_⟩
 obtain ⟨r,xs,pss,rfl,hS,hp,h23,h100,q⟩:=h
 have P0 : 0 ≤ sizeLine:=by decide
 have P3 : 3 ≤ sizeLine:=by decide
 have hxl:=hp.length
 refine ⟨P0,fun p hp0=>?_⟩
 refine ⟨_,rfl,r,rfl,⟨_,SqT.same hS (Ae.new hp0)⟩,ND (xs:=xs) (L5 H r p K pss fun H r p K pss i σ H'=>Ae H H' ∧ ∃ ys z2 z3,σ = [some (.ref r),some (.ref p),z2,z3] ∧ H' p = some (.lst ys) ∧ GP K H' ys (BJ (pss.take i))) ⟨Ae.new hp0,[],none,none,rfl,Ab,.nil⟩ (fun i σ H' _ h=>hS.same h.1) ?_ ?_⟩
 ·rintro i v σ H' hv hR1
  refine Hl hR1 fun sm hz24=>?_
  refine FA hz24 fun ys z2 z3 hz24'=>?_
  clear hz24
  refine Hk hz24' fun hq23 ep hys=>?_
  clear hz24'
  obtain rfl:=hq23
  try clear hR1
  obtain ⟨ps,hps,a,zs,pp,rfl,hzs,hzn,hz0,hpp⟩:=(Paired.get hp hv)
  have hpl:=h23 ps (U3 hps)
  have hzl:=hzn.length
  have hyl : ys.length ≤ 200:=by
   have h1:=Dz (pss.take i) (h23.take i)
   rw [TX] at h1
   rw [hys.length]; lia
  refine ⟨_,rfl,a,zs,rfl,.inr (hzs.same sm),_,_,rfl,rfl,_,rfl,by lia,by lia,?_⟩
  rw [show (((zs.length : Nat) : Int) - 1).toNat = ps.length - 1 from Ms hzl]
  refine Fj (n:=ps.length - 1) (L8 H r p a K pss i ps fun H r p a K pss i ps k σ H2=>Ae H H2 ∧ ∃ ys2 z3,σ = [some (.ref r),some (.ref p),some (.ref a),z3] ∧ H2 p = some (.lst ys2) ∧ GP K H2 ys2 (BJ (pss.take i) ++ (DA ps).take k)) ⟨sm,ys,z3,rfl,ep,by rw [List.take_zero,TK]; exact hys⟩ ?_ ?_
  ·rintro k σ H2 hk hR2
   refine Hl hR2 fun sm2 hz28=>?_
   refine K9 hz28 fun ys2 z3' hz28'=>?_
   clear hz28
   refine Hk hz28' fun hq27 ep2 hys2=>?_
   clear hz28'
   obtain rfl:=hq27
   try clear hR2
   have g0:=getD_some (l:=ps) (i:=0) (by lia)
   have gk:=getD_some (l:=ps) (i:=k + 1) (by lia)
   obtain ⟨xk,hxk,hnk⟩:=(Paired.get' hzn gk)
   have ak : atI zs (0 + (k : Int) + 1) = some xk:=by rw [show 0 + (k : Int) + 1 = ((k + 1 : Nat) : Int) by lia]; exact AX hxk
   have hyl2 : ys2.length ≤ 204:=by
    have h1:=hys.length
    have h2:=Cr ps
    rw [hys2.length,U4,TX]; exact Nv hyl hk hpl h1
   refine ⟨_,rfl,.inl ⟨rfl,_,SqL.of ep2⟩,_,rfl,a,zs,_,.ref pp,rfl,rfl,hzs.same sm2,AX (j:=0) hz0,_,rfl,_,rfl,_,rfl,_,_,rfl,rfl,a,zs,_,xk,rfl,rfl,hzs.same sm2,ak,P3,fun t ht=>?_⟩
   have s3 : Ae H2 (upd H2 t (.tup [.ref pp,.int (0 + (k : Int)),xk])):=Ae.new ht
   have tp : t ≠ p:=(Aq ep2 ht).symm
   have hp3 : (upd (upd H2 t (.tup [.ref pp,.int (0 + (k : Int)),xk])) p (.lst (ys2 ++ [.ref t]))) pp = some (nT (ps.getD 0 0)):=by
    have z:=s3 _ _ (sm2 _ _ hpp)
    rw [As (DN z (s3 _ _ ep2) (fun z=>by cases z))]; exact z
   refine ⟨p,ys2,.ref t,rfl,rfl,s3 _ _ ep2,SH (show ys2.length < 300 by lia) (by decide),(sm2.trans s3).put hp0,ys2 ++ [.ref t],_,rfl,Ab,?_⟩
   have gt : (DA ps)[k]? = some ⟨ps.getD 0 0,(k : Int),ps.getD (k + 1) 0⟩:=by
    unfold DA
    rw [U1,List.getElem?_range hk]; rfl
   rw [UW,gt,← V6]
   refine Paired.snoc (GP.put (GP.same hys2 s3) (s3 _ _ ep2)) ⟨t,pp,xk,rfl,SqT.of ?_,hp3,((hnk.same sm2).same s3).put (s3 _ _ ep2)⟩
   rw [As tp,Ab,Int.zero_add]
  ·rintro σ H2 hR3
   refine Hl hR3 fun sm2 hz30=>?_
   refine K9 hz30 fun ys2 z3' hz30'=>?_
   clear hz30
   refine Hk hz30' fun hq29 ep2 hys2=>?_
   clear hz30'
   obtain rfl:=hq29
   try clear hR3
   refine ⟨sm2,ys2,_,_,rfl,ep2,?_⟩
   have e : pss.take (i + 1) = pss.take i ++ [ps]:=by rw [UW,hps]; rfl
   rw [e,KU]
   have et : (DA ps).take (ps.length - 1) = DA ps:=UC (by rw [Cr]; exact T9 _)
   rw [et] at hys2
   exact hys2
 ·rintro σ H' hR4
  refine Hl hR4 fun sm hz32=>?_
  refine FA hz32 fun ys z2 z3 hz32'=>?_
  clear hz32
  refine Hk hz32' fun hq31 ep hys=>?_
  clear hz32'
  obtain rfl:=hq31
  try clear hR4
  rw [hxl,UX] at hys
  exact ⟨_,rfl,q p H' ys sm hp0 ep hys⟩
theorem IY : AA ["thing"] ["thing"] (Af (top 13)):=⟨rfl,rfl,rfl,by decide +kernel,rfl,by decide +kernel,by decide +kernel⟩
theorem J9 {f : Addr} {fd : FuncData} (F : Fun K "is_whole" "is_whole" (top 13) f fd) (R1 : mg "isinstance" = none) (R9 : mg "int" = none) (Rn : mg "bool" = none) (hT : P.given.tree = none) :
 AI P w K mg base CX0 33 f fd ["thing"] (LZ K):=by
 refine F.ok IY (fun vs H Q E h=>?_) (fun cdv A outer s H vs Q E hr h=>?_)
 ·obtain ⟨_,_,rfl,_⟩:=h; rfl
 refine ⟨_,(Ah (Az (JV (Ak (Jn K) rfl R1 Ar (Aa (pv 0) (Aa (BN (v:=.ty "int") rfl R9 IB rfl) Ac))) (JU (OF (Ak (Jn K) rfl R1 Ar (Aa (pv 0) (Aa (BN (v:=.ty "bool") rfl Rn NI rfl) Ac)))))))),?_⟩
 obtain ⟨x,b,rfl,wx,q⟩:=h
 cases wx with
 | int i=>exact ⟨_,rfl,_,_,_,_,rfl,.of (.int i),OR K,true,rfl,C5 ⟨_,rfl,_,_,_,_,rfl,.of (.int i),OS K,false,rfl,q⟩⟩
 | bl y=>exact ⟨_,rfl,_,_,_,_,rfl,.of (.bl y),OU K,true,rfl,C5 ⟨_,rfl,_,_,_,_,rfl,.of (.bl y),OV K,true,rfl,q⟩⟩
 | oth ty hk=>exact ⟨_,rfl,_,_,_,_,rfl,ty,hk,false,rfl,Bk q⟩
theorem Bi : AA ["one","other","great","small","rest"] ["one","other"] (Af (top 14)):=⟨rfl,rfl,rfl,by decide +kernel,rfl,by decide +kernel,by decide +kernel⟩
theorem ED {f : Addr} {fd : FuncData} (F : Fun K "common_measure" "common_measure" (top 14) f fd) (R8 : mg "abs" = none) (hT : P.given.tree = none) :
 AI P w K mg base CX0 33 f fd ["one","other"] (M3):=by
 refine F.ok Bi (fun vs H Q E h=>?_) (fun cdv A outer s H vs Q E hr h=>?_)
 ·obtain ⟨_,_,rfl,_⟩:=h; rfl
 refine ⟨_,(Ad (K:=K) (Ap (i:=2) Bi.nd rfl (Or.inl rfl) (Ak EJ rfl R8 ID (Aa (pv 0) Ac)))
  (Ad (K:=K) (Ap (i:=3) Bi.nd rfl (Or.inl rfl) (Ak EJ rfl R8 ID (Aa (pv 1) Ac)))
  (Ad (K:=K) (Eu PassesOwn.never (Aw Ey (pv 3) Ag (AH _)) (Ad (K:=K) (Ap (i:=4) Bi.nd rfl (Or.inl rfl) (Am Ck (pv 2) (pv 3)))
  (Ad (K:=K) (Ap (i:=2) Bi.nd rfl (Or.inl rfl) (pv 3))
  (Ah (Ap (i:=3) Bi.nd rfl (Or.inl rfl) (pv 4))) (by rfl)) (by rfl)))
  (Ah (Az (pv 2))) (by rfl)) (by rfl)) (by rfl)),?_⟩
 obtain ⟨a,b,rfl,q⟩:=h
 refine ⟨_,rfl,a,rfl,?_⟩
 refine ⟨_,rfl,b,rfl,?_⟩
 refine IL (L3 H a b fun H a b σ H'=>H' = H ∧ ∃ (x y : Int) (r : Option V),σ = [some (.int a),some (.int b),some (.int x),some (.int y),r] ∧ 0 ≤ x ∧ 0 ≤ y ∧ Ui x y = Ui a b) (fun σ _=>mu 3 σ)
  ⟨rfl,_,_,none,rfl,?_,?_,?_⟩ ?_ ?_
 ·rw [Nm.abs_if]; exact Ve _
 ·rw [Nm.abs_if]; exact Ve _
 ·rw [Nm.abs_if,Nm.abs_if]; rfl
 ·rintro σ H' hR1
  refine Hl hR1 fun hq33 hz35=>?_
  refine FA hz35 fun x y r hz35'=>?_
  clear hz35
  refine II hz35' fun hq34 hx hy hg=>?_
  clear hz35'
  obtain rfl:=hq33
  obtain rfl:=hq34
  try clear hR1
  refine ⟨_,rfl,rfl,_,rfl,?_⟩
  by_cases hy0 : y = 0
  ·subst hy0
   refine Bp (by rw [decide_eq_true rfl] <;> rfl) ⟨_,rfl,?_⟩
   have e : (Ui a b : Int) = x:=by rw [← hg,Int.gcd_zero]; lia
   rw [e] at q
   exact q
  ·refine BQ (by rw [decide_eq_false (fun z=>hy0 (V.int.inj z))] <;> rfl) ?_
   have hyp : 0 < y:=by lia
   refine ⟨_,rfl,_,rfl,_,_,rfl,rfl,hyp,?_⟩
   refine ⟨_,rfl,_,rfl,⟨rfl,y,x % y,_,rfl,hy,UD _ hy0,?_⟩,?_⟩
   ·rw [Nm.gcd_turn]; exact hg
   ·show (x % y).toNat < y.toNat
    have:=UE x hyp
    lia
 ·rintro σ H' Q1 Q2 hm hR2
  obtain ⟨v,e,s1,k,ek,q1⟩:=hR2
  try clear hR2
  exact ⟨v,e,s1,k,ek,hm _ _ q1⟩
theorem HW : AA ["thing"] ["thing"] (Af (top 15)):=⟨rfl,rfl,rfl,by decide +kernel,rfl,by decide +kernel,by decide +kernel⟩
theorem Ik {f : Addr} {fd : FuncData} (F : Fun K "is_number" "is_number" (top 15) f fd) (RD : Fd P w K mg base 33 "is_whole" ["thing"] (LZ K)) (Sa : Fd P w K mg base 33 "common_measure" ["one","other"] (M3)) (R1 : mg "isinstance" = none) (R4 : mg "tuple" = none) (QZ : mg "len" = none) (hT : P.given.tree = none) :
 AI P w K mg base CX0 34 f fd ["thing"] (Kk K):=by
 refine F.ok HW (fun vs H Q E h=>?_) (fun cdv A outer s H vs Q E hr h=>?_)
 ·obtain ⟨_,_,rfl,_⟩:=h; rfl
 refine ⟨_,(Ad (K:=K) (AD (K:=K) (PW.pt (CU (BL (Bu (Ak (Jn K) rfl R1 Ar (Aa (pv 0) (Aa (BN (v:=.ty "tuple") rfl R4 C6 rfl) Ac))))) (BY (Aw Ey (Ak (CG K) rfl QZ Bf (Aa (pv 0) Ac)) Ag (AH _))))) (Ah (Az Fs)) Ax (by rfl) (by rfl))
  (Ad (K:=K) (AD (K:=K) (PW.pt (CU (BL (Bu (AF RD hr rfl (Aa (AB (ixT K) (pv 0) Ag (fun u v=>rfl)) Ac)))) (BY (BL (Bu (AF RD hr rfl (Aa (AB (ixT K) (pv 0) Ag (fun u v=>rfl)) Ac))))))) (Ah (Az Fs)) Ax (by rfl) (by rfl))
  (Ah (Az (JV (E1 O7 (AB (ixT K) (pv 0) Ag (fun u v=>rfl)) Ag (AH _)) (JU (E1 DL (AF Sa hr rfl (Aa (AB (ixT K) (pv 0) Ag (fun u v=>rfl)) (Aa (AB (ixT K) (pv 0) Ag (fun u v=>rfl)) Ac))) Ag (AH _)))))) (by rfl)) (by rfl)),?_⟩
 obtain ⟨x,b,rfl,nx,q⟩:=h
 cases nx with
 | no ty hk=>exact ⟨_,rfl,_,_,_,_,rfl,ty,hk,false,rfl,C5 (C5 q)⟩
 | @len a xs ha hl =>
   refine ⟨_,rfl,_,_,_,_,rfl,.tup ha,Fe K,true,rfl,Bk ?_⟩
   refine ⟨_,rfl,a,xs,rfl,.inr ha,rfl,_,rfl,?_⟩
   have hn : ¬ (V.int (xs.length : Int) = V.int 2):=fun z=>hl (by have:=V.int.inj z; lia)
   exact BQ (by rw [decide_eq_false hn] <;> rfl) q
 | @one a p q' ha wp =>
   refine ⟨_,rfl,_,_,_,_,rfl,.tup ha,Fe K,true,rfl,Bk ?_⟩
   refine ⟨_,rfl,a,_,rfl,.inr ha,rfl,_,rfl,Bk ?_⟩
   refine ⟨_,rfl,a,_,_,_,rfl,rfl,ha,rfl,_,_,rfl,wp,_,rfl,C5 (C5 q)⟩
 | @two a i q' ha wq =>
   refine ⟨_,rfl,_,_,_,_,rfl,.tup ha,Fe K,true,rfl,Bk ?_⟩
   refine ⟨_,rfl,a,_,rfl,.inr ha,rfl,_,rfl,Bk ?_⟩
   refine ⟨_,rfl,a,_,_,_,rfl,rfl,ha,rfl,_,_,rfl,.int i,_,rfl,Bk ?_⟩
   refine ⟨_,rfl,a,_,_,_,rfl,rfl,ha,rfl,_,_,rfl,wq,_,rfl,C5 q⟩
 | @nums a i j _ ha e =>
   refine ⟨_,rfl,_,_,_,_,rfl,.tup ha,Fe K,true,rfl,Bk ?_⟩
   refine ⟨_,rfl,a,_,rfl,.inr ha,rfl,_,rfl,Bk ?_⟩
   refine ⟨_,rfl,a,_,_,_,rfl,rfl,ha,rfl,_,_,rfl,.int i,_,rfl,Bk ?_⟩
   refine ⟨_,rfl,a,_,_,_,rfl,rfl,ha,rfl,_,_,rfl,.int j,_,rfl,Bk ?_⟩
   refine ⟨_,rfl,a,_,_,_,rfl,rfl,ha,rfl,_,_,rfl,rfl,_,rfl,?_⟩
   subst e
   by_cases hj : 1 ≤ j
   ·rw [decide_eq_true hj] at q ⊢
    refine C5 ⟨_,rfl,a,_,_,_,rfl,rfl,ha,rfl,_,rfl,a,_,_,_,rfl,rfl,ha,rfl,_,_,rfl,rfl,?_⟩
    have ev : decide (V.int (Ui i j : Int) = V.int 1) = decide ((Ui i j : Int) = 1):=by
     by_cases z : (Ui i j : Int) = 1
     ·rw [z]; rfl
     ·rw [decide_eq_false z,decide_eq_false fun y=>z (V.int.inj y)]
    rw [Bool.true_and] at q
    rw [ev]
    exact q
   ·rw [decide_eq_false hj] at q ⊢
    exact Bk q
theorem IZ : AA ["thing"] ["thing"] (Af (top 48)):=⟨rfl,rfl,rfl,by decide +kernel,rfl,by decide +kernel,by decide +kernel⟩
theorem Ja {f : Addr} {fd : FuncData} (F : Fun K "is_point" "is_point" (top 48) f fd) (Ro : Fd P w K mg base 34 "is_number" ["thing"] (Kk K)) (R6 : mg "all" = none) (R1 : mg "isinstance" = none) (R4 : mg "tuple" = none) (QZ : mg "len" = none) (hT : P.given.tree = none) :
 AI P w K mg base CX0 35 f fd ["thing"] (Kj K):=by
 refine F.ok IZ (fun vs H Q E h=>?_) (fun cdv A outer s H vs Q E hr h=>?_)
 ·obtain ⟨_,_,rfl,_⟩:=h; rfl
 refine ⟨_,(Ad (K:=K) (AD (K:=K) (PW.pt (CU (BL (Bu (Ak (Jn K) rfl R1 Ar (Aa (pv 0) (Aa (BN (v:=.ty "tuple") rfl R4 C6 rfl) Ac))))) (BY (Aw (JX K) (Ak (CG K) rfl QZ Bf (Aa (pv 0) Ac)) (AG (Aa Ag (Aa Ag Ac))) (by with_unfolding_all rfl))))) (Ah (Az Fs)) Ax (by rfl) (by rfl))
  (Ah (Az (Ak (NR K rfl) rfl R6 IC (Aa (Dv rfl (N:=["each"]) (nt:=1) (js:=[]) (Be.look (NX:=["thing"]) (sc:=Af (top 48)) rfl rfl (by decide +kernel)) (piT K (pv 0)) (fun u1 u2 u3 u4 u5=>(AK (i:=0) (show List.Nodup (["each"] : List Str) from by decide +kernel) rfl (Or.inl rfl))) (AS (by decide)) (fun u1 u2 u3 u4 u5=>Bt) (fun u1 u2 u3 u4 u5=>(AF Ro hr rfl (Aa (pv 0) Ac)))) Ac)))) (by rfl)),?_⟩
 obtain ⟨x,b,rfl,px,q⟩:=h
 have P2 : 2 ≤ sizeLine:=by decide
 cases px with
 | no ty hk=>exact ⟨_,rfl,_,_,_,_,rfl,ty,hk,false,rfl,C5 (C5 (q _ (Ae.refl _)))⟩
 | @len a xs ha l2 l3 =>
   refine ⟨_,rfl,_,_,_,_,rfl,.tup ha,Fe K,true,rfl,Bk ?_⟩
   refine ⟨_,rfl,a,xs,rfl,.inr ha,P2,fun t ht=>?_⟩
   have s1 : Ae H (upd H t (.tup [.int 2,.int 3])):=Ae.new ht
   refine ⟨t,_,rfl,.inr (SqT.of Ab),rfl,rfl,_,rfl,?_⟩
   have hin : inV (V.int ((xs.length : Nat) : Int)) [.int 2,.int 3] = false:=by
    show (((2 : Int) == ((xs.length : Nat) : Int)) || (((3 : Int) == ((xs.length : Nat) : Int)) || false)) = false
    have e2 : ((2 : Int) == ((xs.length : Nat) : Int)) = false:=beq_eq_false_iff_ne.mpr (by lia)
    have e3 : ((3 : Int) == ((xs.length : Nat) : Int)) = false:=beq_eq_false_iff_ne.mpr (by lia)
    rw [e2,e3]
    rfl
   rw [hin]
   exact C5 (q _ s1)
 | @all a xs bs ha h23 hb =>
   have hl:=hb.length
   refine ⟨_,rfl,_,_,_,_,rfl,.tup ha,Fe K,true,rfl,Bk ?_⟩
   refine ⟨_,rfl,a,xs,rfl,.inr ha,P2,fun t ht=>?_⟩
   have s1 : Ae H (upd H t (.tup [.int 2,.int 3])):=Ae.new ht
   refine ⟨t,_,rfl,.inr (SqT.of Ab),rfl,rfl,_,rfl,?_⟩
   have hin : inV (V.int ((xs.length : Nat) : Int)) [.int 2,.int 3] = true:=by
    rcases h23 with z | z
    ·rw [z]; rfl
    ·rw [z]; rfl
   rw [hin]
   refine Bk ?_
   generalize upd H t (.tup [.int 2,.int 3]) = H1 at s1 ⊢
   refine Cq ⟨_,rfl,a,rfl,⟨_,SqT.same ha s1⟩,?_⟩
   refine Gx (xs:=xs) (fun i zs H'=>Ae H1 H' ∧ zs = (bs.take i).map V.bl) ⟨Ae.refl _,rfl⟩ (fun i zs H' hi p=>⟨SqT.same ha (s1.trans p.1),by rw [p.2,Tx,TX]; lia⟩) (SV (BG (by lia))) ?_ ?_
   ·rintro i x zs H' hx ⟨sm,rfl⟩
    obtain ⟨c,hc,hcn⟩:=(Paired.get hb hx)
    refine ⟨_,rfl,x,c,rfl,hcn.same (s1.trans sm),sm,?_⟩
    rw [UW,hc,UQ]
    rfl
   rintro zs H' ⟨sm,rfl⟩ p hp
   rw [hl,UX]
   exact ⟨p,bs,rfl,SqL.of Ab,q _ ((s1.trans sm).trans (Ae.new hp))⟩
theorem Cs : AA ["thing","points"] ["thing"] (Af (top 51)):=⟨rfl,rfl,rfl,by decide +kernel,rfl,by decide +kernel,by decide +kernel⟩
theorem EB {f : Addr} {fd : FuncData} (F : Fun K "points_of" "points_of" (top 51) f fd) (Rp : Fd P w K mg base 33 "are_unlike" ["places"] (DV K)) (Rq : Fd P w K mg base 33 "told_in" ["points"] (FE K)) (Rr : Fd P w K mg base 35 "is_point" ["thing"] (Kj K)) (R4 : mg "tuple" = none) (R6 : mg "all" = none) (QZ : mg "len" = none) (R1 : mg "isinstance" = none) (Ra : mg "list" = none) {t_MOST_TOLD : Tok} (c_MOST_TOLD : mg "MOST_TOLD" = some (.int 12 t_MOST_TOLD)) (hT : P.given.tree = none) :
 AI P w K mg base CX0 36 f fd ["thing"] (DX K):=by
 refine F.ok Cs (fun vs H Q E h=>?_) (fun cdv A outer s H vs Q E hr h=>?_)
 ·obtain ⟨_,_,_,_,rfl,_⟩:=h; rfl
 refine ⟨_,(Ad (K:=K) (AD (K:=K) (PW.pt (CU (BL (Bu (Ak (Oa K) rfl R1 Ar (Aa (pv 0) (Aa (AG (Aa (BN (v:=.ty "list") rfl Ra KJ rfl) (Aa (BN (v:=.ty "tuple") rfl R4 C6 rfl) Ac))) Ac))))) (BY (Aw DL (Ak (CG K) rfl QZ Bf (Aa (pv 0) Ac)) Ag (AH _))))) (Ah BE) Ax (by rfl) (by rfl))
  (Ad (K:=K) (AD (K:=K) (BL (Bu (Ak (NR K rfl) rfl R6 IC (Aa (Dv rfl (N:=["each"]) (nt:=1) (js:=[]) (Be.look (NX:=["thing","points"]) (sc:=Af (top 51)) rfl rfl (by decide +kernel)) (piS K (pv 0)) (fun u1 u2 u3 u4 u5=>(AK (i:=0) (show List.Nodup (["each"] : List Str) from by decide +kernel) rfl (Or.inl rfl))) (AS (by decide)) (fun u1 u2 u3 u4 u5=>Bt) (fun u1 u2 u3 u4 u5=>(AF Rr hr rfl (Aa (pv 0) Ac)))) Ac)))) (Ah BE) Ax (by rfl) (by rfl))
  (Ad (K:=K) (AD (K:=K) (BL (Bu (AF Rp hr rfl (Aa (Dv rfl (N:=["point"]) (nt:=1) (js:=[]) (Be.look (NX:=["thing","points"]) (sc:=Af (top 51)) rfl rfl (by decide +kernel)) (piS K (pv 0)) (fun u1 u2 u3 u4 u5=>(AK (i:=0) (show List.Nodup (["point"] : List Str) from by decide +kernel) rfl (Or.inl rfl))) (AS (by decide)) (fun u1 u2 u3 u4 u5=>Bt) (fun u1 u2 u3 u4 u5=>(AB (ixT K) (pv 0) Ag (fun u v=>rfl)))) Ac)))) (Ah BE) Ax (by rfl) (by rfl))
  (Ad (K:=K) (Ap (i:=1) Cs.nd rfl (Or.inl rfl) (Ba (FR K) rfl R4 C6 (Aa (pv 0) Ac)))
  (Ad (K:=K) (AD (K:=K) (Aw Dw (Ak (CG K) rfl QZ Bf (Aa (AF Rq hr rfl (Aa (pv 1) Ac)) Ac)) (AV (v:=.int 12) rfl c_MOST_TOLD ⟨_,rfl⟩) (AH _)) (Ah BE) Ax (by rfl) (by rfl))
  (Ah (Az (pv 1))) (by rfl)) (by rfl)) (by rfl)) (by rfl)) (by rfl)),?_⟩
 obtain ⟨b,r,xs,pss,rfl,hS,hp,h23,h1,hnd,h12,q⟩:=h
 have P2 : 2 ≤ sizeLine:=by decide
 have hl:=hp.length
 have hge:=DT h23
 refine ⟨_,rfl,P2,fun tp htp=>?_⟩
 have s1 : Ae H (upd H tp (.tup [.ty "list",.ty "tuple"])):=Ae.new htp
 have hS1:=Sq.same hS s1
 refine ⟨_,if b then .type "list" else .type "tuple",tp,[.ty "list",.ty "tuple"],[.type "list",.type "tuple"],true,rfl,?_,Ab,rfl,?_,_,rfl,Bk ?_⟩
 ·cases b
  ·exact .tup hS1
  ·exact .lst hS1
 ·cases b
  ·exact Gz K
  ·exact GD K
 generalize upd H tp (.tup [.ty "list",.ty "tuple"]) = H1 at s1 hS1 ⊢
 refine ⟨_,rfl,r,xs,rfl,Sq.len hS1,rfl,_,rfl,?_⟩
 refine Bp (by rw [decide_eq_false (show ¬ V.int ((xs.length : Nat) : Int) = V.int 0 from fun z=>by have:=V.int.inj z; lia)] <;> rfl) ?_
 have hp1:=Bg.same hp s1
 refine Ei (b:=b) (a:=r) (xs:=xs) rfl (fun i zs H'=>Ae H1 H' ∧ zs = TR i (.bl true)) ⟨Ae.refl _,rfl⟩ (fun i zs H' _ p=>⟨Sq.same hS1 p.1,by rw [p.2,U5]⟩) (SV (BG (by lia))) ?_ ?_
 ·rintro i x zs H' hx ⟨sm,rfl⟩
  obtain ⟨ps,hps,hpt⟩:=(Paired.get hp1 hx)
  refine ⟨_,rfl,x,true,rfl,Pb.of ((hpt.pt).same sm) (h23 ps (U3 hps)),fun H2 s2=>⟨sm.trans s2,?_⟩⟩
  rw [← List.replicate_succ']
 rintro zs H2 ⟨s2,rfl⟩ al hal
 have s3:=s2.trans (Ae.new (o:=.lst (TR xs.length (.bl true))) hal)
 refine ⟨al,TR xs.length true,rfl,SqL.of (by rw [List.map_replicate]; exact Ab),_,rfl,?_⟩
 refine Bp (by rw [NP] <;> rfl) ?_
 generalize upd H2 al (.lst (TR xs.length (.bl true))) = H3 at s3 ⊢
 have hS3:=Sq.same hS1 s3
 have hp3:=Bg.same hp1 s3
 refine Ei (b:=b) (a:=r) (xs:=xs) rfl (L2 H3 pss fun H3 pss i zs H'=>H' = H3 ∧ zs.length = i ∧ Bl H3 zs ((pss.take i).map fun ps=>ps.getD 0 0)) ⟨rfl,rfl,.nil⟩ (fun i zs H' _ p=>⟨by rw [p.1]; exact hS3,p.2.1⟩) (SV (BG (by lia))) ?_ ?_
 ·rintro i x zs H' hx ⟨rfl,hzl,hzs⟩
  obtain ⟨ps,hps,a,us,pp,rfl,hus,hun,hu0,hpp⟩:=(Paired.get hp3 hx)
  refine ⟨_,rfl,a,us,_,_,rfl,rfl,hus,AX (j:=0) hu0,rfl,by simp [hzl],?_⟩
  rw [UW,hps,UQ]
  exact Paired.snoc hzs ⟨pp,rfl,hpp⟩
 rintro zs Hq ⟨hq,hzl,hzs⟩ pl hpl
 obtain rfl : H3 = Hq:=hq.symm
 rw [hl,UX] at hzs
 have s4 : Ae H3 (upd H3 pl (.lst zs)):=Ae.new hpl
 refine ⟨pl,zs,_,rfl,SqL.of Ab,Bl.same hzs s4,by rw [Tx]; lia,fun H5 s5=>⟨_,rfl,Bp (by rw [decide_eq_true hnd]; rfl) ?_⟩⟩
 have s35:=s4.trans s5
 have hS5:=Sq.same hS3 s35
 have hp5:=Bg.same hp3 s35
 have s15:=(s1.trans s3).trans s35
 have fin : ∀ (t : Addr) (H6 : Hp),Ae H5 H6 → SqT K H6 t xs → (b = false → t = r) → (Kh (HM 1) N8) [some (.ref r),some (.ref t)] H6 fun vs H7=>True:=fun t H6 _ _ _=>⟨_,rfl,trivial⟩
 clear fin
 refine ⟨_,rfl,r,xs,rfl,?_⟩
 cases b
 ·refine .inr ⟨hS5,?_⟩
  have sR:=Ae.refl H5
  refine ⟨_,rfl,r,xs,pss,rfl,(show SqT K H5 r xs from hS5),Bg.same hp5 sR,h23,by lia,fun tl H7 tys s7 htl etl htls=>?_⟩
  refine ⟨tl,tys,rfl,.inl (SqL.of etl),_,_,rfl,rfl,_,rfl,?_⟩
  have htyl:=htls.length
  refine Bp (by rw [decide_eq_false (show ¬ ((12 : Int) < ((tys.length : Nat) : Int)) by lia)] <;> rfl) ⟨_,rfl,q r H7 ((s15.trans sR).trans s7) ((show SqT K H5 r xs from hS5).same s7) (fun _=>rfl)⟩
 ·refine .inl ⟨hS5,fun t ht=>?_⟩
  have sT : Ae H5 (upd H5 t (.tup xs)):=Ae.new ht
  have eT : SqT K (upd H5 t (.tup xs)) t xs:=SqT.of Ab
  refine ⟨_,rfl,t,xs,pss,rfl,eT,Bg.same hp5 sT,h23,by lia,fun tl H7 tys s7 htl etl htls=>?_⟩
  refine ⟨tl,tys,rfl,.inl (SqL.of etl),_,_,rfl,rfl,_,rfl,?_⟩
  have htyl:=htls.length
  refine Bp (by rw [decide_eq_false (show ¬ ((12 : Int) < ((tys.length : Nat) : Int)) by lia)] <;> rfl) ⟨_,rfl,q t H7 ((s15.trans sT).trans s7) (eT.same s7) (fun z=>by cases z)⟩
theorem GZ {f : Addr} {fd : FuncData} (F : Fun K "points_of" "points_of" (top 51) f fd) {a_NoPoints a_TooMany : Addr} (k_NoPoints : EK K "NoPoints" a_NoPoints) (k_TooMany : EK K "TooMany" a_TooMany) (Rp : Fd P w K mg base 33 "are_unlike" ["places"] (DV K)) (Rq : Fd P w K mg base 33 "told_in" ["points"] (FE K)) (Rr : Fd P w K mg base 35 "is_point" ["thing"] (Kj K)) (R4 : mg "tuple" = none) (R6 : mg "all" = none) (QZ : mg "len" = none) (R1 : mg "isinstance" = none) (Ra : mg "list" = none) {t_MOST_TOLD : Tok} (c_MOST_TOLD : mg "MOST_TOLD" = some (.int 12 t_MOST_TOLD)) (hT : P.given.tree = none) :
 AI P w K mg base (CX2 P w) 36 f fd ["thing"] (ET K a_NoPoints a_TooMany):=by
 refine F.okY Cs (fun vs H Q E h=>?_) (fun cdv A outer s H vs Q E hr h=>?_)
 ·obtain ⟨_,rfl,_⟩:=h; rfl
 refine ⟨_,(AY (AD (K:=K) (PW.pt (CU (BL (Bu (Ak (Oa K) rfl R1 Ar (Aa (pv 0) (Aa (AG (Aa (BN (v:=.ty "list") rfl Ra KJ rfl) (Aa (BN (v:=.ty "tuple") rfl R4 C6 rfl) Ac))) Ac))))) (BY (Aw DL (Ak (CG K) rfl QZ Bf (Aa (pv 0) Ac)) Ag (AH _))))) (Ah (BD k_NoPoints rfl Cm rfl (Aa Aj Ac))) Ax (by rfl) (by rfl))
  (AY (AD (K:=K) (BL (Bu (Ak (NR K rfl) rfl R6 IC (Aa (Dv rfl (N:=["each"]) (nt:=1) (js:=[]) (Be.look (NX:=["thing","points"]) (sc:=Af (top 51)) rfl rfl (by decide +kernel)) (piS K (pv 0)) (fun u1 u2 u3 u4 u5=>(AK (i:=0) (show List.Nodup (["each"] : List Str) from by decide +kernel) rfl (Or.inl rfl))) (AS (by decide)) (fun u1 u2 u3 u4 u5=>Bt) (fun u1 u2 u3 u4 u5=>(AF Rr hr rfl (Aa (pv 0) Ac)))) Ac)))) (Ah (BD k_NoPoints rfl Cm rfl (Aa Aj Ac))) Ax (by rfl) (by rfl))
  (AY (AD (K:=K) (BL (Bu (AF Rp hr rfl (Aa (Dv rfl (N:=["point"]) (nt:=1) (js:=[]) (Be.look (NX:=["thing","points"]) (sc:=Af (top 51)) rfl rfl (by decide +kernel)) (piS K (pv 0)) (fun u1 u2 u3 u4 u5=>(AK (i:=0) (show List.Nodup (["point"] : List Str) from by decide +kernel) rfl (Or.inl rfl))) (AS (by decide)) (fun u1 u2 u3 u4 u5=>Bt) (fun u1 u2 u3 u4 u5=>(AB (ixT K) (pv 0) Ag (fun u v=>rfl)))) Ac)))) (Ah (BD k_NoPoints rfl Cm rfl (Aa Aj Ac))) Ax (by rfl) (by rfl))
  (AY (Ap (i:=1) Cs.nd rfl (Or.inl rfl) (Ba (FR K) rfl R4 C6 (Aa (pv 0) Ac)))
  (AY (AD (K:=K) (Aw Dw (Ak (CG K) rfl QZ Bf (Aa (AF Rq hr rfl (Aa (pv 1) Ac)) Ac)) (AV (v:=.int 12) rfl c_MOST_TOLD ⟨_,rfl⟩) (AH _)) (Ah (BD k_TooMany rfl Cm rfl (Aa Aj Ac))) Ax (by rfl) (by rfl))
  CA))))),?_⟩
 obtain ⟨x,rfl,hx⟩:=h
 have P1 : 1 ≤ sizeLine:=by decide
 have P2 : 2 ≤ sizeLine:=by decide
 rcases hx with ⟨bad,qE⟩ | ⟨many,qE⟩
 ·cases bad with
  | no ty hk =>
    exact ⟨_,rfl,P2,fun tp htp=>⟨_,_,tp,[.ty "list",.ty "tuple"],[.type "list",.type "tuple"],false,rfl,TyP.same ty (Ae.new htp),Ab,rfl,hk,_,rfl,BQ rfl (C5 ⟨P1,qE _ (Ae.new htp)⟩)⟩⟩
  | @nil b r hS =>
    refine ⟨_,rfl,P2,fun tp htp=>?_⟩
    have s1 : Ae H (upd H tp (.tup [.ty "list",.ty "tuple"])):=Ae.new htp
    have hS1:=Sq.same hS s1
    refine ⟨_,if b then .type "list" else .type "tuple",tp,[.ty "list",.ty "tuple"],[.type "list",.type "tuple"],true,rfl,?_,Ab,rfl,?_,_,rfl,Bp rfl ?_⟩
    ·cases b
     ·exact .tup hS1
     ·exact .lst hS1
    ·cases b
     ·exact Gz K
     ·exact GD K
    generalize upd H tp (.tup [.ty "list",.ty "tuple"]) = H1 at s1 hS1 ⊢
    refine ⟨_,rfl,r,_,rfl,Sq.len hS1,rfl,_,rfl,?_⟩
    exact BQ rfl ⟨P1,qE _ s1⟩
  | @pt b r xs bs hS hpb hb h17 =>
    have hne : xs.length ≠ 0:=fun z=>by
     have h0:=hpb.length
     rw [z] at h0
     have : bs = []:=Vf h0.symm
     rw [this] at hb
     cases hb
    refine ⟨_,rfl,P2,fun tp htp=>?_⟩
    have s1 : Ae H (upd H tp (.tup [.ty "list",.ty "tuple"])):=Ae.new htp
    have hS1:=Sq.same hS s1
    refine ⟨_,if b then .type "list" else .type "tuple",tp,[.ty "list",.ty "tuple"],[.type "list",.type "tuple"],true,rfl,?_,Ab,rfl,?_,_,rfl,Bp rfl ?_⟩
    ·cases b
     ·exact .tup hS1
     ·exact .lst hS1
    ·cases b
     ·exact Gz K
     ·exact GD K
    generalize upd H tp (.tup [.ty "list",.ty "tuple"]) = H1 at s1 hS1 ⊢
    refine ⟨_,rfl,r,_,rfl,Sq.len hS1,rfl,_,rfl,?_⟩
    refine Bp (decide_eq_false (fun z=>by have:=V.int.inj z; lia)) ?_
    have hpb1:=Paired.mapP hpb fun _ _ z=>Pb.same z s1
    have hbl:=hpb.length
    refine Ei (b:=b) (a:=r) (xs:=xs) rfl (fun i zs H'=>Ae H1 H' ∧ zs = (bs.take i).map V.bl) ⟨Ae.refl _,rfl⟩ (fun i zs H' hi p=>⟨Sq.same hS1 p.1,by rw [p.2,Tx,TX]; lia⟩) (SV (BG (by lia))) ?_ ?_
    ·rintro i x zs H' hx ⟨sm,rfl⟩
     obtain ⟨c,hc,hcn⟩:=Paired.get hpb1 hx
     refine ⟨_,rfl,x,c,rfl,Pb.same hcn sm,fun H2 s2=>⟨sm.trans s2,?_⟩⟩
     rw [UW,hc,UQ]
     rfl
    rintro zs H2 ⟨s2,rfl⟩ al hal
    have e2 : bs.take xs.length = bs:=by rw [hbl,UX]
    rw [e2]
    refine ⟨al,bs,rfl,SqL.of Ab,_,rfl,?_⟩
    have s3:=s2.trans (Ae.new (o:=.lst (bs.map V.bl)) hal)
    generalize upd H2 al (.lst (bs.map V.bl)) = H3 at s3 ⊢
    exact BQ (by rw [hb]; rfl) ⟨P1,qE _ (s1.trans s3)⟩
  | @twice b r xs pss hS hp h23 hnd h17 =>
    have hpb:=Ml hp h23
    have hall:=GO pss.length
    have hxl:=hp.length
    have hne : xs.length ≠ 0:=fun z=>hnd (by
     have : pss = []:=Vf (by lia)
     rw [this]
     exact List.Pairwise.nil)
    generalize TR pss.length true = bs at hpb hall
    refine ⟨_,rfl,P2,fun tp htp=>?_⟩
    have s1 : Ae H (upd H tp (.tup [.ty "list",.ty "tuple"])):=Ae.new htp
    have hS1:=Sq.same hS s1
    refine ⟨_,if b then .type "list" else .type "tuple",tp,[.ty "list",.ty "tuple"],[.type "list",.type "tuple"],true,rfl,?_,Ab,rfl,?_,_,rfl,Bp rfl ?_⟩
    ·cases b
     ·exact .tup hS1
     ·exact .lst hS1
    ·cases b
     ·exact Gz K
     ·exact GD K
    generalize upd H tp (.tup [.ty "list",.ty "tuple"]) = H1 at s1 hS1 ⊢
    refine ⟨_,rfl,r,_,rfl,Sq.len hS1,rfl,_,rfl,?_⟩
    refine Bp (decide_eq_false (fun z=>by have:=V.int.inj z; lia)) ?_
    have hpb1:=Paired.mapP hpb fun _ _ z=>Pb.same z s1
    have hbl:=hpb.length
    refine Ei (b:=b) (a:=r) (xs:=xs) rfl (fun i zs H'=>Ae H1 H' ∧ zs = (bs.take i).map V.bl) ⟨Ae.refl _,rfl⟩ (fun i zs H' hi p=>⟨Sq.same hS1 p.1,by rw [p.2,Tx,TX]; lia⟩) (SV (BG (by lia))) ?_ ?_
    ·rintro i x zs H' hx ⟨sm,rfl⟩
     obtain ⟨c,hc,hcn⟩:=Paired.get hpb1 hx
     refine ⟨_,rfl,x,c,rfl,Pb.same hcn sm,fun H2 s2=>⟨sm.trans s2,?_⟩⟩
     rw [UW,hc,UQ]
     rfl
    rintro zs H2 ⟨s2,rfl⟩ al hal
    have e2 : bs.take xs.length = bs:=by rw [hbl,UX]
    rw [e2]
    refine ⟨al,bs,rfl,SqL.of Ab,_,rfl,?_⟩
    have s3:=s2.trans (Ae.new (o:=.lst (bs.map V.bl)) hal)
    generalize upd H2 al (.lst (bs.map V.bl)) = H3 at s3 ⊢
    refine Bp (by rw [hall]; rfl) ?_
    have hl:=hp.length
    have hS3:=Sq.same hS1 s3
    have hp3:=Bg.same hp (s1.trans s3)
    refine Ei (b:=b) (a:=r) (xs:=xs) rfl (fun i zs H'=>H' = H3 ∧ zs.length = i ∧ Bl H3 zs ((pss.take i).map fun ps=>ps.getD 0 0)) ⟨rfl,rfl,.nil⟩ (fun i zs H' _ p=>⟨by rw [p.1]; exact hS3,p.2.1⟩) (SV (BG (by lia))) ?_ ?_
    ·rintro i x zs H' hx ⟨rfl,hzl,hzs⟩
     obtain ⟨ps,hps,a,us,pp,rfl,hus,hun,hu0,hpp⟩:=Paired.get hp3 hx
     refine ⟨_,rfl,a,us,_,_,rfl,rfl,hus,AX (j:=0) hu0,rfl,by simp [hzl],?_⟩
     rw [UW,hps,UQ]
     exact Paired.snoc hzs ⟨pp,rfl,hpp⟩
    rintro zs Hq ⟨hq,hzl,hzs⟩ pl hpl
    obtain rfl : H3 = Hq:=hq.symm
    rw [hl,UX] at hzs
    have s4 : Ae H3 (upd H3 pl (.lst zs)):=Ae.new hpl
    refine ⟨pl,zs,_,rfl,SqL.of Ab,Bl.same hzs s4,by rw [Tx]; lia,fun H5 s5=>⟨_,rfl,?_⟩⟩
    have s15:=((s1.trans s3).trans s4).trans s5
    exact BQ (by rw [decide_eq_false hnd]; rfl) ⟨P1,qE _ s15⟩
 ·obtain ⟨b,r,xs,pss,rfl,hS,hp,h23,h1,hnd,h12,h17⟩:=many
  have hpb:=Ml hp h23
  have hall:=GO pss.length
  have hxl:=hp.length
  have hne : xs.length ≠ 0:=by lia
  generalize TR pss.length true = bs at hpb hall
  refine ⟨_,rfl,P2,fun tp htp=>?_⟩
  have s1 : Ae H (upd H tp (.tup [.ty "list",.ty "tuple"])):=Ae.new htp
  have hS1:=Sq.same hS s1
  refine ⟨_,if b then .type "list" else .type "tuple",tp,[.ty "list",.ty "tuple"],[.type "list",.type "tuple"],true,rfl,?_,Ab,rfl,?_,_,rfl,Bp rfl ?_⟩
  ·cases b
   ·exact .tup hS1
   ·exact .lst hS1
  ·cases b
   ·exact Gz K
   ·exact GD K
  generalize upd H tp (.tup [.ty "list",.ty "tuple"]) = H1 at s1 hS1 ⊢
  refine ⟨_,rfl,r,_,rfl,Sq.len hS1,rfl,_,rfl,?_⟩
  refine Bp (decide_eq_false (fun z=>by have:=V.int.inj z; lia)) ?_
  have hpb1:=Paired.mapP hpb fun _ _ z=>Pb.same z s1
  have hbl:=hpb.length
  refine Ei (b:=b) (a:=r) (xs:=xs) rfl (fun i zs H'=>Ae H1 H' ∧ zs = (bs.take i).map V.bl) ⟨Ae.refl _,rfl⟩ (fun i zs H' hi p=>⟨Sq.same hS1 p.1,by rw [p.2,Tx,TX]; lia⟩) (SV (BG (by lia))) ?_ ?_
  ·rintro i x zs H' hx ⟨sm,rfl⟩
   obtain ⟨c,hc,hcn⟩:=Paired.get hpb1 hx
   refine ⟨_,rfl,x,c,rfl,Pb.same hcn sm,fun H2 s2=>⟨sm.trans s2,?_⟩⟩
   rw [UW,hc,UQ]
   rfl
  rintro zs H2 ⟨s2,rfl⟩ al hal
  have e2 : bs.take xs.length = bs:=by rw [hbl,UX]
  rw [e2]
  refine ⟨al,bs,rfl,SqL.of Ab,_,rfl,?_⟩
  have s3:=s2.trans (Ae.new (o:=.lst (bs.map V.bl)) hal)
  generalize upd H2 al (.lst (bs.map V.bl)) = H3 at s3 ⊢
  refine Bp (by rw [hall]; rfl) ?_
  have hl:=hp.length
  have hS3:=Sq.same hS1 s3
  have hp3:=Bg.same hp (s1.trans s3)
  refine Ei (b:=b) (a:=r) (xs:=xs) rfl (fun i zs H'=>H' = H3 ∧ zs.length = i ∧ Bl H3 zs ((pss.take i).map fun ps=>ps.getD 0 0)) ⟨rfl,rfl,.nil⟩ (fun i zs H' _ p=>⟨by rw [p.1]; exact hS3,p.2.1⟩) (SV (BG (by lia))) ?_ ?_
  ·rintro i x zs H' hx ⟨rfl,hzl,hzs⟩
   obtain ⟨ps,hps,a,us,pp,rfl,hus,hun,hu0,hpp⟩:=Paired.get hp3 hx
   refine ⟨_,rfl,a,us,_,_,rfl,rfl,hus,AX (j:=0) hu0,rfl,by simp [hzl],?_⟩
   rw [UW,hps,UQ]
   exact Paired.snoc hzs ⟨pp,rfl,hpp⟩
  rintro zs Hq ⟨hq,hzl,hzs⟩ pl hpl
  obtain rfl : H3 = Hq:=hq.symm
  rw [hl,UX] at hzs
  have s4 : Ae H3 (upd H3 pl (.lst zs)):=Ae.new hpl
  refine ⟨pl,zs,_,rfl,SqL.of Ab,Bl.same hzs s4,by rw [Tx]; lia,fun H5 s5=>⟨_,rfl,?_⟩⟩
  have s15:=((s1.trans s3).trans s4).trans s5
  refine Bp (by rw [decide_eq_true hnd]; rfl) ?_
  have hS5:=Sq.same hS s15
  have hp5:=Bg.same hp s15
  refine ⟨_,rfl,r,xs,rfl,?_⟩
  cases b
  ·refine .inr ⟨hS5,?_⟩
   refine ⟨_,rfl,r,xs,pss,rfl,hS5,hp5,h23,by lia,fun tl H7 tys s7 htl etl htls=>?_⟩
   have htyl:=htls.length
   exact ⟨tl,tys,rfl,.inl (SqL.of etl),_,_,rfl,rfl,_,rfl,BQ (decide_eq_true (by lia)) ⟨P1,qE _ (s15.trans s7)⟩⟩
  ·refine .inl ⟨hS5,fun t ht=>?_⟩
   have sT : Ae H5 (upd H5 t (.tup xs)):=Ae.new ht
   refine ⟨_,rfl,t,xs,pss,rfl,SqT.of Ab,Bg.same hp5 sT,h23,by lia,fun tl H7 tys s7 htl etl htls=>?_⟩
   have htyl:=htls.length
   exact ⟨tl,tys,rfl,.inl (SqL.of etl),_,_,rfl,rfl,_,rfl,BQ (decide_eq_true (by lia)) ⟨P1,qE _ ((s15.trans sT).trans s7)⟩⟩
theorem Ga : AA ["text","most"] ["text","most"] (Af (top 97)):=⟨rfl,rfl,rfl,by decide +kernel,rfl,by decide +kernel,by decide +kernel⟩
theorem Gk {f : Addr} {fd : FuncData} (F : Fun K "are_figures" "are_figures" (top 97) f fd) (R6 : mg "all" = none) (QZ : mg "len" = none) {t_FIGURES : Tok} (c_FIGURES : mg "FIGURES" = some (.str "0123456789" t_FIGURES)) (hT : P.given.tree = none) :
 AI P w K mg base CX0 33 f fd ["text","most"] (HU):=by
 refine F.ok Ga (fun vs H Q E h=>?_) (fun cdv A outer s H vs Q E hr h=>?_)
 ·obtain ⟨_,rfl,_⟩:=h; rfl
 refine ⟨_,(Ad (K:=K) (AD (K:=K) (PW.pt (CU (Aw DL (Ak Fm rfl QZ Bf (Aa (pv 0) Ac)) Ag (AH _)) (BY (Aw Dw (Ak Fm rfl QZ Bf (Aa (pv 0) Ac)) (pv 1) (AH _))))) (Ah (Az Fs)) Ax (by rfl) (by rfl))
  (Ad (K:=K) (AD (K:=K) (PW.pt (Md (Aw DL (AB P7 (pv 0) Ag (fun u v=>rfl)) Aj (AH _)) (Ko (Aw Dw (Ak Fm rfl QZ Bf (Aa (pv 0) Ac)) Ag (AH _))))) (Ah (Az Fs)) Ax (by rfl) (by rfl))
  (Ah (Az (Ak (NR K rfl) rfl R6 IC (Aa (Dv rfl (N:=["sign"]) (nt:=1) (js:=[]) (Be.look (NX:=["text","most"]) (sc:=Af (top 97)) rfl rfl (by decide +kernel)) (Q9 (pv 0)) (fun u1 u2 u3 u4 u5=>(AK (i:=0) (show List.Nodup (["sign"] : List Str) from by decide +kernel) rfl (Or.inl rfl))) (AS (by decide)) (fun u1 u2 u3 u4 u5=>Bt) (fun u1 u2 u3 u4 u5=>(E1 Li (pv 0) (AV (v:=.str "0123456789") rfl c_FIGURES ⟨_,rfl⟩) (by with_unfolding_all rfl)))) Ac)))) (by rfl)) (by rfl)),?_⟩
 obtain ⟨t,rfl,⟨hA,hL⟩,q⟩:=h
 have hs:=sizeLine_eq
 have hl:=AE t
 have hz : t.length ≤ sizeLine:=by lia
 have q0:=q _ (Ae.refl _)
 refine ⟨_,rfl,t,rfl,hz,rfl,_,rfl,?_⟩
 by_cases h0 : t.length = 0
 ·have e : CH (sg t) = false:=by rw [US.mp (hl.symm.trans h0)]; rfl
  rw [e] at q0
  exact BQ (by rw [decide_eq_true (show V.int ((t.length : Nat) : Int) = V.int 0 by rw [h0]; rfl)] <;> rfl) q0
 refine Bp (by rw [decide_eq_false (show ¬ V.int ((t.length : Nat) : Int) = V.int 0 from fun z=>by have:=V.int.inj z; lia)] <;> rfl) ⟨_,rfl,t,rfl,hz,_,rfl,_,_,rfl,rfl,_,rfl,?_⟩
 by_cases h60 : ((t.length : Nat) : Int) > 6
 ·have e : CH (sg t) = false:=Bool.eq_false_iff.mpr fun z=>by have:=(Di.mp z).2.1; lia
  rw [e] at q0
  exact BQ (by rw [decide_eq_true h60] <;> rfl) q0
 rw [decide_eq_false h60]
 obtain ⟨c,r,e⟩ : ∃ c r,sg t = c :: r:=by
  cases hc : sg t with
  | nil=>rw [hc] at hl; exact absurd hl h0
  | cons c r=>exact ⟨c,r,rfl⟩
 have eFig : ∀ b,b = (sg t).all fgB → (c = 48 → r = []) → CH (sg t) = b:=fun b hb h48=>by
  rw [hb]
  cases hx : (sg t).all fgB with
  | true =>
    refine Di.mpr ⟨by rw [e]; exact Va _ _,by lia,fun d hd=>?_,fun r' hr'=>?_⟩
    ·have:=Um.mp hx d hd
     simpa [fgB] using this
    ·rw [e] at hr'
     have:=Uy.inj hr'
     rw [← this.2]; exact h48 this.1
  | false =>
    refine Bool.eq_false_iff.mpr fun z=>?_
    have:=(Di.mp z).2.2.1
    rw [Um.mpr fun d hd=>by have:=this d hd; simpa [fgB] using this] at hx
    exact Bool.noConfusion hx
 refine Bk ⟨_,rfl,t,_,c,rfl,rfl,hz,(by rw [show t.cps.toList = c :: r from e]; exact AX (j:=0) rfl),rfl,_,rfl,?_⟩
 by_cases hc : c = 48
 ·have hc':=hc
  refine BQ (by rw [decide_eq_true (show V.str ⟨#[c]⟩ = V.str (Str.ofString "0") from by rw [hc]; decide +kernel)] <;> rfl) ⟨_,rfl,t,rfl,hz,_,_,rfl,rfl,_,rfl,?_⟩
  by_cases h1 : ((t.length : Nat) : Int) > 1
  ·have e' : CH (sg t) = false:=Bool.eq_false_iff.mpr fun z=>by
    have:=(Di.mp z).2.2.2 r (by rw [e,hc])
    rw [hl,e,this] at h1
    simp at h1
   rw [e'] at q0
   exact BQ (by rw [decide_eq_true h1] <;> rfl) q0
  rw [decide_eq_false h1]
  have hr0 : r = []:=by
   rw [hl,e] at h1
   simp at h1
   exact US.mp (by lia)
  have eFig:=fun b hb=>eFig b hb fun _=>hr0
  refine Bk ?_
  refine Cq ⟨⟨_,rfl,t,rfl,hA,Jj (fun i zs H'=>H' = H ∧ zs = ((sg t).take i).map fun c=>V.bl (fgB c)) ⟨rfl,rfl⟩ (fun i zs H' hi h=>by rw [h.2,Tx,TX]; lia) (by lia) ?_ ?_⟩⟩
  ·rintro i d zs H' hd ⟨rfl,rfl⟩
   refine ⟨_,rfl,_,_,rfl,rfl,?_⟩
   rw [MJ]
   exact ⟨rfl,by rw [UW,hd,UQ]; rfl⟩
  rintro zs H' ⟨rfl,rfl⟩ p hp
  rw [UX]
  refine ⟨p,(sg t).map fgB,rfl,SqL.of (by rw [V7]; exact Ab),?_⟩
  rw [List.all_map]
  exact (eFig _ rfl) ▸ q _ (Ae.new hp)
 ·rw [decide_eq_false (show ¬ V.str ⟨#[c]⟩ = V.str (Str.ofString "0") from fun z=>hc (by
   have z1:=congrArg sg (V.str.inj z)
   rw [BP] at z1
   exact (Uy.inj z1).1))]
  have eFig:=fun b hb=>eFig b hb fun z=>absurd z hc
  refine Bk ?_
  refine Cq ⟨⟨_,rfl,t,rfl,hA,Jj (fun i zs H'=>H' = H ∧ zs = ((sg t).take i).map fun c=>V.bl (fgB c)) ⟨rfl,rfl⟩ (fun i zs H' hi h=>by rw [h.2,Tx,TX]; lia) (by lia) ?_ ?_⟩⟩
  ·rintro i d zs H' hd ⟨rfl,rfl⟩
   refine ⟨_,rfl,_,_,rfl,rfl,?_⟩
   rw [MJ]
   exact ⟨rfl,by rw [UW,hd,UQ]; rfl⟩
  rintro zs H' ⟨rfl,rfl⟩ p hp
  rw [UX]
  refine ⟨p,(sg t).map fgB,rfl,SqL.of (by rw [V7]; exact Ab),?_⟩
  rw [List.all_map]
  exact (eFig _ rfl) ▸ q _ (Ae.new hp)
theorem Le : AA ["text","most"] ["text","most"] (Af (top 98)):=⟨rfl,rfl,rfl,by decide +kernel,rfl,by decide +kernel,by decide +kernel⟩
theorem Lj {f : Addr} {fd : FuncData} (F : Fun K "is_top" "is_top" (top 98) f fd) (Rj : Fd P w K mg base 33 "are_figures" ["text","most"] (HU)) (hT : P.given.tree = none) :
 AI P w K mg base CX0 34 f fd ["text","most"] (JP):=by
 refine F.ok Le (fun vs H Q E h=>?_) (fun cdv A outer s H vs Q E hr h=>?_)
 ·obtain ⟨_,rfl,_⟩:=h; rfl
 refine ⟨_,(Ad (K:=K) (AD (K:=K) (Bu (BM K PySem.F.plainAttrs_str PySem.F.slot_str_startswith PySem.F.type_str_startswith Hf (pv 0) (Aa Aj Ac))) (Ah (Az (JV (E1 Ey (pv 0) Aj (AH _)) (JU (AF Rj hr rfl (Aa (Gd Oo (pv 0) (Ie Ag) Ig) (Aa (pv 1) Ac))))))) Ax (by rfl) (by rfl))
  (Ah (Az (AF Rj hr rfl (Aa (pv 0) (Aa (pv 1) Ac))))) (by rfl)),?_⟩
 obtain ⟨t,rfl,hT,q⟩:=h
 have hs':=sizeLine_eq
 have hL:=hT.2
 refine ⟨_,rfl,rfl,_,_,rfl,rfl,_,rfl,?_⟩
 rw [Lb]
 by_cases h45 : ∃ r,sg t = 45 :: r
 ·obtain ⟨r,hr⟩:=h45
  rw [show ((sg t).head? == some 45) = true by rw [hr]; rfl]
  refine C5 ⟨_,rfl,rfl,_,rfl,?_⟩
  have et : CO (sg t) = (!(r == [48]) && CH r):=by rw [hr]; rfl
  by_cases h0 : t = Str.ofString "-0"
  ·rw [decide_eq_true (show V.str t = V.str (Str.ofString "-0") by rw [h0])]
   have e : CO (sg t) = false:=by rw [h0]; decide +kernel
   have q0:=q _ (Ae.refl _)
   rw [e] at q0
   exact Bk q0
  ·rw [decide_eq_false (show ¬ V.str t = V.str (Str.ofString "-0") from fun z=>h0 (V.str.inj z))]
   have er : sg ⟨r.toArray⟩ = r:=by simp [sg]
   refine C5 ⟨_,rfl,_,rfl,t,45,r,rfl,rfl,rfl,hr,by lia,_,rfl,⟨r.toArray⟩,rfl,N6 hT hr,fun H' s=>?_⟩
   have e : CO (sg t) = CH (sg ⟨r.toArray⟩):=by
    rw [et,er]
    have : (r == [48]) = false:=beq_eq_false_iff_ne.mpr fun z=>h0 (Ca (by rw [hr,z,BP]; rfl))
    rw [this]; rfl
   rw [← e]
   exact q H' s
 ·have e0 : ((sg t).head? == some 45) = false:=by
   cases hx : sg t with
   | nil=>rfl
   | cons c r =>
     have : c ≠ 45:=fun z=>h45 ⟨r,by rw [hx,z]⟩
     simp [this]
  rw [e0]
  have et : CO (sg t) = CH (sg t):=by unfold CO; split; exact absurd ⟨_,‹_›⟩ h45; rfl
  exact Bk ⟨_,rfl,_,rfl,t,rfl,hT,fun H' s=>by rw [← et]; exact q H' s⟩
theorem Dq : AA ["text","most","parts","number"] ["text","most"] (Af (top 99)):=⟨rfl,rfl,rfl,by decide +kernel,rfl,by decide +kernel,by decide +kernel⟩
theorem Ij {f : Addr} {fd : FuncData} (F : Fun K "number_in" "number_in" (top 99) f fd) (Ro : Fd P w K mg base 34 "is_number" ["thing"] (Kk K)) (F_is_top : Fd P w K mg base 34 "is_top" ["text","most"] (JP)) (Rj : Fd P w K mg base 33 "are_figures" ["text","most"] (HU)) (QZ : mg "len" = none) (R9 : mg "int" = none) (hT : P.given.tree = none) :
 AI P w K mg base CX0 35 f fd ["text","most"] (D9):=by
 refine F.ok Dq (fun vs H Q E h=>?_) (fun cdv A outer s H vs Q E hr h=>?_)
 ·obtain ⟨_,rfl,_⟩:=h; rfl
 refine ⟨_,(Ad (K:=K) (Ap (i:=2) Dq.nd rfl (Or.inl rfl) (BM K PySem.F.plainAttrs_str PySem.F.slot_str_split PySem.F.type_str_split CF (pv 0) (Aa Aj Ac)))
  (Ad (K:=K) (AD (K:=K) (PW.pt (CU (Aw Dw (Ak (CG K) rfl QZ Bf (Aa (pv 2) Ac)) Ag (AH _)) (BY (BL (Bu (AF F_is_top hr rfl (Aa (AB (ixL K) (pv 2) Ag (fun u v=>rfl)) (Aa (pv 1) Ac)))))))) (Ah (Az Cj)) Ax (by rfl) (by rfl))
  (Ad (K:=K) (AD (K:=K) (Aw DL (Ak (CG K) rfl QZ Bf (Aa (pv 2) Ac)) Ag (AH _)) (Ah (Az (AG (Aa (Ba Fn rfl R9 IB (Aa (pv 0) Ac)) (Aa Ag Ac))))) Ax (by rfl) (by rfl))
  (Ad (K:=K) (AD (K:=K) (PW.pt (CU (Aw DL (AB (ixL K) (pv 2) Ag (fun u v=>rfl)) Aj (AH _)) (BY (BL (Bu (AF Rj hr rfl (Aa (AB (ixL K) (pv 2) Ag (fun u v=>rfl)) (Aa (pv 1) Ac)))))))) (Ah (Az Cj)) Ax (by rfl) (by rfl))
  (Ad (K:=K) (Ap (i:=3) Dq.nd rfl (Or.inl rfl) (AG (Aa (Ba Fn rfl R9 IB (Aa (AB (ixL K) (pv 2) Ag (fun u v=>rfl)) Ac)) (Aa (Ba Fn rfl R9 IB (Aa (AB (ixL K) (pv 2) Ag (fun u v=>rfl)) Ac)) Ac))))
  (Ah (Az (Mj (Bu (AF Ro hr rfl (Aa (pv 3) Ac))) (pv 3) Cj))) (by rfl)) (by rfl)) (by rfl)) (by rfl)) (by rfl)),?_⟩
 obtain ⟨t,rfl,hT,qS,qN⟩:=h
 have hs:=sizeLine_eq
 have P2 : 2 ≤ sizeLine:=by decide
 have hL:=hT.2
 refine ⟨_,rfl,rfl,_,_,rfl,rfl,by rw [AE,BP]; rfl,by lia,fun p hp=>?_⟩
 have s1 : ∀ o,Ae H (upd H p o):=fun o=>Ae.new hp
 have hg:=Eo (sep:=Str.ofString "/") hT
 have hne:=IT t (Str.ofString "/")
 have hj:=StrLaws.join_split t (Str.ofString "/")
 have fr : ∀ {G : Hp} {a : Addr},Ae H G → G a = none → H a = none:=fun sm ha=>by
  cases hn : H _ with
  | none=>rfl
  | some o=>exact absurd (sm _ _ hn) (by rw [ha]; exact fun z=>nomatch z)
 have nI : ni t = match Txt.split t (Str.ofString "/") with
  | [p]=>if CO (sg p) = true then some (BR (sg p),1) else none
  | [p,q]=>if (CO (sg p) && !(sg q == [49]) && CH (sg q) && decide (0 < vl (sg q) 0) && decide (V9 (BR (sg p)).natAbs (vl (sg q) 0) = 1)) = true then some (BR (sg p),vl (sg q) 0) else none
  | _=>none:=rfl
 generalize Txt.split t (Str.ofString "/") = ps at hg hne hj nI ⊢
 rcases ps with _ | ⟨x,_ | ⟨y,_ | ⟨z,r⟩⟩⟩
 ·exact absurd rfl hne
 ·rw [PyProof.Rows.join_one] at hj
  subst hj
  have nI : ni x = if CO (sg x) = true then some (BR (sg x),1) else none:=nI
  refine ⟨_,rfl,p,_,rfl,.inl (SqL.of Ab),_,_,rfl,rfl,_,rfl,Bk ?_⟩
  refine ⟨_,rfl,p,_,_,_,rfl,rfl,SqL.of Ab,rfl,_,rfl,x,rfl,hT,fun H1 m1=>?_⟩
  cases hb : CO (sg x) with
  | false =>
    rw [hb,if_neg Bool.false_ne_true] at nI
    exact ⟨_,rfl,C5 (qN nI _ ((s1 _).trans m1))⟩
  | true =>
    rw [hb,if_pos rfl] at nI
    refine Pd (Ip nI) fun q hz39'=>?_
    refine II hz39' fun hq e en ed=>?_
    clear hz39'
    obtain ⟨e1,e2⟩:=(En hb)
    refine ⟨_,rfl,Bk ?_⟩
    have e1' : H1 p = some (.lst [.str x]):=m1 _ _ Ab
    refine ⟨_,rfl,p,_,rfl,.inl (SqL.of e1'),rfl,_,rfl,C5 ?_⟩
    refine ⟨_,rfl,BR (sg x),by rw [← e1],SH e2 (by decide),P2,fun u hu=>?_⟩
    have m2:=(s1 _).trans (m1.trans (Ae.new (o:=.tup [.int (BR (sg x)),.int 1]) hu))
    exact qS q u _ hq e m2 (fr ((s1 _).trans m1) hu) (by rw [show nT q = .tup [.int (BR (sg x)),.int 1] from by unfold nT; rw [ed,en]; rfl]; exact Ab)
 ·rw [PyProof.Rows.join_cons_cons,PyProof.Rows.join_one] at hj
  have nI : ni t = if (CO (sg x) && !(sg y == [49]) && CH (sg y) && decide (0 < vl (sg y) 0) && decide (V9 (BR (sg x)).natAbs (vl (sg y) 0) = 1)) = true then some (BR (sg x),vl (sg y) 0) else none:=nI
  refine ⟨_,rfl,p,_,rfl,.inl (SqL.of Ab),_,_,rfl,rfl,_,rfl,Bk ?_⟩
  refine ⟨_,rfl,p,_,_,_,rfl,rfl,SqL.of Ab,rfl,_,rfl,x,rfl,hg x (by simp),fun H1 m1=>?_⟩
  have sH1:=(s1 _).trans m1
  cases hb : CO (sg x) with
  | false =>
    have nI : ni t = none:=by rw [nI,hb]; rfl
    exact ⟨_,rfl,C5 (qN nI _ sH1)⟩
  | true =>
    obtain ⟨e1,e2⟩:=(En hb)
    refine ⟨_,rfl,Bk ?_⟩
    have e1' : H1 p = some (.lst [.str x,.str y]):=m1 _ _ Ab
    refine ⟨_,rfl,p,_,rfl,.inl (SqL.of e1'),rfl,_,rfl,Bk ?_⟩
    refine ⟨_,rfl,p,_,_,_,rfl,rfl,SqL.of e1',rfl,rfl,_,rfl,?_⟩
    by_cases h1 : y = Str.ofString "1"
    ·have nI : ni t = none:=by
      rw [nI,h1]
      rw [show (sg (Str.ofString "1") == [49]) = true by rw [BP]; rfl,Bool.not_true,Bool.and_false,Bool.false_and,Bool.false_and,Bool.false_and]; rfl
     exact BQ (by rw [decide_eq_true (show V.str y = V.str (Str.ofString "1") by rw [h1])] <;> rfl) (qN nI _ sH1)
    rw [decide_eq_false (show ¬ V.str y = V.str (Str.ofString "1") from fun z=>h1 (V.str.inj z))]
    have hy1 : (sg y == [49]) = false:=beq_eq_false_iff_ne.mpr fun z=>h1 (Ca (by rw [z,BP]; rfl))
    refine Bk ⟨_,rfl,p,_,_,_,rfl,rfl,SqL.of e1',rfl,_,rfl,y,rfl,hg y (by simp),fun H2 m2=>?_⟩
    have sH2:=sH1.trans m2
    cases hf : CH (sg y) with
    | false =>
      have nI : ni t = none:=by rw [nI,hf,Bool.and_false,Bool.false_and,Bool.false_and]; rfl
      exact ⟨_,rfl,C5 (qN nI _ sH2)⟩
    | true =>
      refine ⟨_,rfl,Bk ?_⟩
      obtain ⟨e3,e4⟩:=(FK hf)
      have ey : y = txI ((vl (sg y) 0 : Nat) : Int):=Ca (by rw [FX]; exact e3)
      have e2' : H2 p = some (.lst [.str x,.str y]):=m2 _ _ e1'
      refine ⟨_,rfl,p,_,_,_,rfl,rfl,SqL.of e2',rfl,BR (sg x),by rw [← e1],SH e2 (by decide),_,rfl,p,_,_,_,rfl,rfl,SqL.of e2',rfl,((vl (sg y) 0 : Nat) : Int),by rw [← ey],SH (show ((vl (sg y) 0 : Nat) : Int).natAbs < 10 ^ 6 by lia) (by decide),P2,fun u hu=>?_⟩
      have sH3:=sH2.trans (Ae.new (o:=.tup [.int (BR (sg x)),.int ((vl (sg y) 0 : Nat) : Int)]) hu)
      refine ⟨_,rfl,_,_,rfl,Nb.nums (SqT.of Ab) rfl,?_⟩
      have eb : (decide (1 ≤ ((vl (sg y) 0 : Nat) : Int)) && decide ((Ui (BR (sg x)) ((vl (sg y) 0 : Nat) : Int) : Int) = 1)) = (decide (0 < vl (sg y) 0) && decide (V9 (BR (sg x)).natAbs (vl (sg y) 0) = 1)):=by
       congr 1
       ·exact decide_eq_decide.mpr (by lia)
       ·refine decide_eq_decide.mpr ?_
        rw [show Ui (BR (sg x)) ((vl (sg y) 0 : Nat) : Int) = V9 (BR (sg x)).natAbs (vl (sg y) 0) from rfl]
        lia
      rw [hb,hf,hy1,Bool.not_false,Bool.true_and,Bool.true_and,Bool.true_and,← eb] at nI
      refine ⟨_,rfl,?_⟩
      generalize (decide (1 ≤ ((vl (sg y) 0 : Nat) : Int)) && decide ((Ui (BR (sg x)) ((vl (sg y) 0 : Nat) : Int) : Int) = 1)) = bb at nI ⊢
      cases bb with
      | false=>exact Bk (qN nI _ sH3)
      | true =>
        refine Pd (Ip nI) fun q hz40'=>?_
        refine II hz40' fun hq e en ed=>?_
        clear hz40'
        exact C5 ⟨_,rfl,qS q u _ hq e sH3 (fr sH2 hu) (by rw [show nT q = .tup [.int (BR (sg x)),.int ((vl (sg y) 0 : Nat) : Int)] from by unfold nT; rw [ed,en]]; exact Ab)⟩
 ·refine ⟨_,rfl,p,_,rfl,.inl (SqL.of Ab),_,_,rfl,rfl,_,rfl,?_⟩
  exact BQ (by rw [decide_eq_true (show (((x :: y :: z :: r).map V.str).length : Int) > 2 by rw [Tx]; simp; lia)] <;> rfl) (qN nI _ (s1 _))
theorem Cd : AA ["parts","most","numbers"] ["parts","most"] (Af (top 101)):=⟨rfl,rfl,rfl,by decide +kernel,rfl,by decide +kernel,by decide +kernel⟩
theorem Ea {f : Addr} {fd : FuncData} (F : Fun K "numbers_in" "numbers_in" (top 101) f fd) (Rb : Fd P w K mg base 35 "number_in" ["text","most"] (D9)) (hT : P.given.tree = none) :
 AI P w K mg base CX0 36 f fd ["parts","most"] (D8 K):=by
 refine F.ok Cd (fun vs H Q E h=>?_) (fun cdv A outer s H vs Q E hr h=>?_)
 ·obtain ⟨_,_,rfl,_⟩:=h; rfl
 refine ⟨_,(Ad (K:=K) (Kq (i:=2) rfl Cd.nd rfl rfl (N:=["part","most"]) (nt:=1) (js:=[1]) (Be.look (NX:=["parts","most","numbers"]) (sc:=Af (top 101)) rfl rfl (by decide +kernel)) (piL K (pv 0)) (fun u1 u2 u3 u4 u5=>(AK (i:=0) (show List.Nodup (["part","most"] : List Str) from by decide +kernel) rfl (Or.inl rfl))) (AS (by decide)) (fun u1 u2 u3 u4 u5=>Bt) (fun u1 u2 u3 u4 u5=>(AF Rb hr rfl (Aa (pv 0) (Aa (pv 1) Ac)))) rfl)
  (Ad (K:=K) (AD (K:=K) (Aw (inD K hr) Cj (pv 2) (by with_unfolding_all rfl)) (Ah BE) Ax (by rfl) (by rfl))
  (Ah (Az (pv 2))) (by rfl)) (by rfl)),?_⟩
 obtain ⟨l,xs,rfl,hS,hf,hz,q⟩:=h
 have hs:=sizeLine_eq
 refine Cq ⟨_,rfl,l,rfl,⟨_,hS⟩,Gy (xs:=xs.map fun x=>V.str (tx x)) (fun i zs H'=>Ae H H' ∧ zs.length = i ∧ Bl H' zs (xs.take i)) ⟨Ae.refl _,rfl,.nil⟩ (fun i zs H' _ h=>⟨Ae.seq h.1 hS,h.2.1⟩) (by rw [Tx]; lia) ?_ ?_⟩
 ·rintro i v zs H' hv ⟨sm,hl,hn⟩
  rw [U1] at hv
  obtain ⟨x,hx,rfl⟩:=(Vg.mp hv)
  have hfx:=hf x (U3 hx)
  refine ⟨_,rfl,_,rfl,tx x,rfl,LQ hfx,fun q p H2 hq e m2 hp e2=>⟨sm.trans m2,by simp [hl],?_⟩,fun z=>absurd z (by rw [Jd hfx]; exact fun z=>nomatch z)⟩
  obtain rfl:=LM hfx hq e
  have hi : i < xs.length:=(T4.mp hx).1
  rw [UW,hx]
  exact Paired.snoc (Bl.same hn m2) ⟨p,rfl,e2⟩
 rintro zs H' ⟨sm,hl,hn⟩ p hp
 rw [Tx,UX] at *
 have sn : Ae H' (upd H' p (.lst zs)):=Ae.new hp
 have hn1:=Bl.same hn sn
 have e1 : upd H' p (.lst zs) p = some (.lst zs):=Ab
 refine ⟨_,rfl,GJ ⟨p,xs.map nD,.none,rfl,C7.rdsL hn1.nums (SqL.of e1),.non,?_,rfl,_,rfl,?_⟩⟩
 ·exact Ir xs
 rw [show ((xs.map nD).any fun y=>PyData.eqv y .none) = false from Jc xs]
 refine Bk ⟨_,rfl,?_⟩
 refine q p zs _ (sm.trans sn) ?_ e1 hn1
 cases hn : H p with
 | none=>rfl
 | some o=>exact absurd (sm _ _ hn) (by rw [hp]; exact fun z=>nomatch z)
theorem Gg {f : Addr} {fd : FuncData} (F : Fun K "numbers_in" "numbers_in" (top 101) f fd) {a_NoText : Addr} (k_NoText : EK K "NoText" a_NoText) (Rb : Fd P w K mg base 35 "number_in" ["text","most"] (D9)) (hT : P.given.tree = none) :
 AI P w K mg base (CX2 P w) 36 f fd ["parts","most"] (Cz K a_NoText):=by
 refine F.okY Cd (fun vs H Q E h=>?_) (fun cdv A outer s H vs Q E hr h=>?_)
 ·obtain ⟨_,_,rfl,_⟩:=h; rfl
 refine ⟨_,(AY (Kq (i:=2) rfl Cd.nd rfl rfl (N:=["part","most"]) (nt:=1) (js:=[1]) (Be.look (NX:=["parts","most","numbers"]) (sc:=Af (top 101)) rfl rfl (by decide +kernel)) (piL K (pv 0)) (fun u1 u2 u3 u4 u5=>(AK (i:=0) (show List.Nodup (["part","most"] : List Str) from by decide +kernel) rfl (Or.inl rfl))) (AS (by decide)) (fun u1 u2 u3 u4 u5=>Bt) (fun u1 u2 u3 u4 u5=>(AF Rb hr rfl (Aa (pv 0) (Aa (pv 1) Ac)))) rfl)
  (AY (AD (K:=K) (Aw (inD K hr) Cj (pv 2) (by with_unfolding_all rfl)) (Ah (BD k_NoText rfl Cm rfl (Aa Aj Ac))) Ax (by rfl) (by rfl))
  CA)),?_⟩
 obtain ⟨l,ts,rfl,hS,hT,hz,hb,q⟩:=h
 have hs:=sizeLine_eq
 have P1 : 1 ≤ sizeLine:=by decide
 refine Cq ⟨_,rfl,l,rfl,⟨_,hS⟩,Gy (xs:=ts.map V.str) (fun i zs H'=>Ae H H' ∧ zs.length = i ∧ Paired (Mx H') zs ((ts.take i).map rn)) ⟨Ae.refl _,rfl,.nil⟩ (fun i zs H' _ h=>⟨Ae.seq h.1 hS,h.2.1⟩) (by rw [Tx]; lia) ?_ ?_⟩
 ·rintro i v zs H' hv ⟨sm,hl,hn⟩
  rw [U1] at hv
  obtain ⟨t,ht,rfl⟩:=Vg.mp hv
  refine ⟨_,rfl,_,rfl,t,rfl,hT t (U3 ht),fun q p H2 hq e m2 hp e2=>⟨sm.trans m2,by simp [hl],?_⟩,fun hn0 H2 m2=>⟨sm.trans m2,by simp [hl],?_⟩⟩
  ·rw [UW,ht,UQ]
   exact Paired.snoc (Mxs.same hn m2) (by show Mx H2 _ (rn t); rw [e,J0 hq]; exact ⟨p,rfl,e2⟩)
  ·rw [UW,ht,UQ]
   exact Paired.snoc (Mxs.same hn m2) (by show Mx H2 _ (rn t); rw [Ia hn0]; rfl)
 rintro zs H' ⟨sm,hl,hn⟩ p hp
 rw [Tx,UX] at hn
 have sn : Ae H' (upd H' p (.lst zs)):=Ae.new hp
 refine ⟨_,rfl,GJ ⟨p,(ts.map rn).map mO,.none,rfl,Mxs.rds (Mxs.same hn sn) (SqL.of Ab),.non,Mw _,rfl,_,rfl,?_⟩⟩
 rw [show (((ts.map rn).map mO).any fun y=>PyData.eqv y .none) = true by rw [FH,MV hb]]
 exact C5 ⟨P1,q _ (sm.trans sn)⟩
theorem AU : AA ["text","most","points","part","point"] ["text","most"] (Af (top 102)):=⟨rfl,rfl,rfl,by decide +kernel,rfl,by decide +kernel,by decide +kernel⟩
theorem EA {f : Addr} {fd : FuncData} (F : Fun K "read_points_of" "read_points_of" (top 102) f fd) (RE : Fd P w K mg base 33 "check_text" ["text"] (Hs)) (RF : Fd P w K mg base 36 "points_of" ["thing"] (DX K)) (RG : Fd P w K mg base 36 "numbers_in" ["parts","most"] (D8 K)) (R4 : mg "tuple" = none) (QZ : mg "len" = none) (hT : P.given.tree = none) :
 AI P w K mg base CX0 37 f fd ["text","most"] (Ep K):=by
 refine F.ok AU (fun vs H Q E h=>?_) (fun cdv A outer s H vs Q E hr h=>?_)
 ·obtain ⟨_,rfl,_⟩:=h; rfl
 refine ⟨_,(Ad (K:=K) (Cu (AF RE hr rfl (Aa (pv 0) Ac)))
  (Ad (K:=K) (Ap (i:=2) AU.nd rfl (Or.inl rfl) (Bq Ac))
  (Ad (K:=K) (CV (K:=K) PassesOwn.never rfl (piL K (BM K PySem.F.plainAttrs_str PySem.F.slot_str_split PySem.F.type_str_split CF (pv 0) (Aa Aj Ac))) (AK (i:=3) AU.nd rfl (Or.inl rfl)) (Ad (K:=K) (Ap (i:=4) AU.nd rfl (Or.inl rfl) (Ba (FR K) rfl R4 C6 (Aa (AF RG hr rfl (Aa (BM K PySem.F.plainAttrs_str PySem.F.slot_str_split PySem.F.type_str_split CF (pv 3) (Aa Aj Ac)) (Aa (pv 1) Ac))) Ac)))
  (Ad (K:=K) (AD (K:=K) (Aw (JX K) (Ak (CG K) rfl QZ Bf (Aa (pv 4) Ac)) (AG (Aa Ag (Aa Ag Ac))) (by with_unfolding_all rfl)) (Ah BE) Ax (by rfl) (by rfl))
  (Ah (Cu (BM K PySem.F.plainAttrs_list PySem.F.slot_list_append PySem.F.type_list_append E2 (pv 2) (Aa (pv 4) Ac)))) (by rfl)) (by rfl)) (by rfl))
  (Ah (Az (AF RF hr rfl (Aa (pv 2) Ac)))) (by rfl)) (by rfl)) (by rfl)),?_⟩
 obtain ⟨pss,rfl,hne,h23,hf,hnd,h12,q⟩:=h
 have hs:=sizeLine_eq
 have P0 : 0 ≤ sizeLine:=by decide
 have P2 : 2 ≤ sizeLine:=by decide
 have hne' : pss ≠ []:=Vh.mp hne
 have hge:=DT h23
 have jl:=DQ (sep:=Bw) (by rw [BH]; decide) (De hf h23)
 rw [Tx] at jl
 refine ⟨_,rfl,_,rfl,?_⟩
 refine ⟨P0,fun pl hpl=>?_⟩
 have s0 : ∀ o,Ae H (upd H pl o):=fun o=>Ae.new hpl
 refine ⟨_,rfl,rfl,_,_,rfl,rfl,(by show (Bw.length == 0) = false; rw [BH]; rfl),by show (Av pss).length + 2 ≤ sizeLine; unfold Av; lia,fun l hl=>?_⟩
 have es : Txt.split (Av pss) (Str.ofString ", ") = pss.map ptx:=DB hne'
 rw [es]
 have lp : l ≠ pl:=(Aq Ab hl).symm
 have ep : upd (upd H pl (.lst [])) l (.lst ((pss.map ptx).map V.str)) pl = some (.lst []):=by rw [As lp.symm]; exact Ab
 have el : upd (upd H pl (.lst [])) l (.lst ((pss.map ptx).map V.str)) l = some (.lst ((pss.map ptx).map V.str)):=Ab
 have s1 : Ae H (upd (upd H pl (.lst [])) l (.lst ((pss.map ptx).map V.str))):=(s0 _).trans (Ae.new hl)
 generalize upd (upd H pl (.lst [])) l (.lst ((pss.map ptx).map V.str)) = H1 at ep el s1 ⊢
 refine ⟨l,rfl,⟨_,SqL.of el⟩,EH (xs:=(pss.map ptx).map V.str) (L5 H l pss pl K fun H l pss pl K i σ H'=>Ae H H' ∧ H' l = some (.lst ((pss.map ptx).map V.str)) ∧ ∃ (zs : List V) (z3 z4 : Option V),σ = [some (.str (Av pss)),some (.int 6),some (.ref pl),z3,z4] ∧ H' pl = some (.lst zs) ∧ zs.length = i ∧ Bg K H' zs (pss.take i)) ⟨s1,el,[],none,none,rfl,ep,rfl,.nil⟩ (fun i σ H' _ h=>SqL.of h.2.1) ?_ ?_⟩
 ·rintro i v σ H2 hv hR1
  refine Hk hR1 fun sm el2 hz42=>?_
  refine FA hz42 fun zs z3 z4 hz42'=>?_
  clear hz42
  refine II hz42' fun hq41 ez hzl hpt=>?_
  clear hz42'
  obtain rfl:=hq41
  try clear hR1
  rw [U1,U1] at hv
  obtain ⟨t,ht,rfl⟩:=(Vg.mp hv)
  obtain ⟨ps,hps,rfl⟩:=(Vg.mp ht)
  have hm:=U3 hps
  have hp23:=h23 ps hm
  have hpn : ps ≠ []:=fun z=>by rw [z] at hp23; simp at hp23
  have hpl3:=FF (hf ps hm) (by rcases hp23 with z | z <;> lia)
  refine ⟨_,rfl,rfl,_,_,rfl,rfl,(by show (CI.length == 0) = false; rw [Cc]; rfl),by lia,fun lc hlc=>?_⟩
  have esc : Txt.split (ptx ps) (Str.ofString ":") = ps.map tx:=DC hpn
  rw [esc]
  have s3 : Ae H2 (upd H2 lc (.lst ((ps.map tx).map V.str))):=Ae.new hlc
  refine ⟨_,rfl,lc,ps,rfl,SqL.of (by rw [show (ps.map fun x=>V.str (tx x)) = (ps.map tx).map V.str by rw [V7]; rfl]; exact Ab),hf ps hm,by rcases hp23 with z | z <;> lia,fun pn us H4 m4 hpn' e4 hn=>?_⟩
  have hul:=hn.length
  refine ⟨pn,us,rfl,.inl ⟨SqL.of e4,fun tp htp=>?_⟩⟩
  have s5 : Ae H4 (upd H4 tp (.tup us)):=Ae.new htp
  have s25 : Ae H2 (upd H4 tp (.tup us)):=s3.trans (m4.trans s5)
  refine ⟨_,rfl,tp,us,rfl,.inr (SqT.of Ab),P2,fun tt htt=>?_⟩
  have s6 : Ae (upd H4 tp (.tup us)) (upd (upd H4 tp (.tup us)) tt (.tup [.int 2,.int 3])):=Ae.new htt
  refine ⟨tt,_,rfl,.inr (SqT.of Ab),rfl,rfl,_,rfl,?_⟩
  have hin : inV (V.int ((us.length : Nat) : Int)) [.int 2,.int 3] = true:=by
   rcases hp23 with z | z
   ·rw [hul,z]; rfl
   ·rw [hul,z]; rfl
  rw [hin]
  refine Bk ?_
  have s26:=s25.trans s6
  have et : SqT K (upd (upd H4 tp (.tup us)) tt (.tup [.int 2,.int 3])) tp us:=SqT.of (s6 _ _ Ab)
  have hn6:=Bl.same hn (s5.trans s6)
  have ez6:=s26 _ _ ez
  have el6:=s26 _ _ el2
  have hpt6:=Bg.same hpt s26
  generalize upd (upd H4 tp (.tup us)) tt (.tup [.int 2,.int 3]) = H6 at s26 et hn6 ez6 el6 hpt6 ⊢
  refine ⟨_,rfl,.inl ⟨rfl,_,SqL.of ez6⟩,_,rfl,pl,zs,_,rfl,rfl,ez6,by rw [hzl]; have:=(T4.mp hps).1; lia,?_⟩
  have hpT : PtT K H6 (.ref tp) ps:=by
   cases hn6 with
   | nil=>exact absurd rfl hpn
   | cons a b =>
     obtain ⟨r,rfl,hr⟩:=a
     exact ⟨tp,_,r,rfl,et,Paired.cons (BC.of hr) (Bl.nums b),rfl,hr⟩
  have hHp : H pl = none:=hpl
  refine ⟨?_,?_,zs ++ [.ref tp],_,_,rfl,Ab,by simp [hzl],?_⟩
  ·exact Ae.put (sm.trans s26) hHp
  ·rw [As lp]; exact el6
  ·rw [UW,hps]
   exact Paired.snoc (Bg.put hpt6 ez6) (PtT.put hpT ez6)
 rintro σ H2 hR2
 refine Hk hR2 fun sm el2 hz44=>?_
 refine FA hz44 fun zs z3 z4 hz44'=>?_
 clear hz44
 refine II hz44' fun hq43 ez hzl hpt=>?_
 clear hz44'
 obtain rfl:=hq43
 try clear hR2
 rw [Tx,Tx,UX] at *
 refine ⟨_,rfl,true,pl,zs,pss,rfl,SqL.of ez,hpt,h23,hne,hnd,h12,fun p H3 m3 hS3 _=>?_⟩
 exact q p zs H3 (sm.trans m3) hS3 (Bg.same hpt m3)
theorem Eg {f : Addr} {fd : FuncData} (F : Fun K "read_points_of" "read_points_of" (top 102) f fd) {a_TooMany a_NoPoints a_NoText : Addr} (k_NoText : EK K "NoText" a_NoText) (Y_check_text : FdY P w K mg base 33 "check_text" ["text"] (fun vs H Q E=>(Hs : Sp) vs H Q E ∨ (EV K a_NoText : Sp) vs H Q E)) (Y_numbers_in : FdY P w K mg base 36 "numbers_in" ["parts","most"] (fun vs H Q E=>(D8 K : Sp) vs H Q E ∨ (Cz K a_NoText : Sp) vs H Q E)) (Y_points_of : FdY P w K mg base 36 "points_of" ["thing"] (fun vs H Q E=>(DX K : Sp) vs H Q E ∨ (ET K a_NoPoints a_TooMany : Sp) vs H Q E)) (RE : Fd P w K mg base 33 "check_text" ["text"] (Hs)) (RF : Fd P w K mg base 36 "points_of" ["thing"] (DX K)) (RG : Fd P w K mg base 36 "numbers_in" ["parts","most"] (D8 K)) (R4 : mg "tuple" = none) (QZ : mg "len" = none) (hT : P.given.tree = none) :
 AI P w K mg base (CX2 P w) 37 f fd ["text","most"] (IU K (Iz a_TooMany a_NoPoints a_NoText)):=by
 refine F.okY AU (fun vs H Q E h=>?_) (fun cdv A outer s H vs Q E hr h=>?_)
 ·obtain ⟨_,_,rfl,_⟩:=h; rfl
 refine ⟨_,(Ad (K:=K) (Cu (EY Y_check_text hr rfl Hv (Aa (pv 0) Ac)))
  (Ad (K:=K) (Ap (i:=2) AU.nd rfl (Or.inl rfl) (Bq Ac))
  (Ad (K:=K) (CV (K:=K) PassesOwn.leaving rfl (piL K (BM K PySem.F.plainAttrs_str PySem.F.slot_str_split PySem.F.type_str_split CF (pv 0) (Aa Aj Ac))) (AK (i:=3) AU.nd rfl (Or.inl rfl)) (Ad (K:=K) (Ap (i:=4) AU.nd rfl (Or.inl rfl) (Ba (FR K) rfl R4 C6 (Aa (EY Y_numbers_in hr rfl Hv (Aa (BM K PySem.F.plainAttrs_str PySem.F.slot_str_split PySem.F.type_str_split CF (pv 3) (Aa Aj Ac)) (Aa (pv 1) Ac))) Ac)))
  (Ad (K:=K) (AD (K:=K) (Aw (JX K) (Ak (CG K) rfl QZ Bf (Aa (pv 4) Ac)) (AG (Aa Ag (Aa Ag Ac))) (by with_unfolding_all rfl)) (Ah (BD k_NoText rfl Cm rfl (Aa Aj Ac))) Ax (by rfl) (by rfl))
  (Ah (Cu (BM K PySem.F.plainAttrs_list PySem.F.slot_list_append PySem.F.type_list_append E2 (pv 2) (Aa (pv 4) Ac)))) (by rfl)) (by rfl)) (by rfl))
  (Ah (Az (EY Y_points_of hr rfl Hv (Aa (pv 2) Ac)))) (by rfl)) (by rfl)) (by rfl)),?_⟩
 obtain ⟨x,n,rfl,hx,q⟩:=h
 have hs:=sizeLine_eq
 cases hx with
 | no hn=>exact ⟨_,rfl,.inr ⟨x,rfl,hn,q⟩⟩
 | @bad t hT hb =>
   have P0 : 0 ≤ sizeLine:=by decide
   have P1 : 1 ≤ sizeLine:=by decide
   have P2 : 2 ≤ sizeLine:=by decide
   have hTl:=hT.2
   refine ⟨_,rfl,.inl ⟨_,rfl,?_⟩⟩
   refine ⟨P0,fun pl hpl=>?_⟩
   have s0 : ∀ o,Ae H (upd H pl o):=fun o=>Ae.new hpl
   refine ⟨_,rfl,rfl,_,_,rfl,rfl,(by show (Bw.length == 0) = false; rw [BH]; rfl),by lia,fun l hl=>?_⟩
   have hgT:=Eo (sep:=Str.ofString ", ") hT
   have hpl':=PyProof.Rows.split_le t (Str.ofString ", ")
   have hgb:=MH hb
   generalize Txt.split t (Str.ofString ", ") = ps at hgT hpl' hgb ⊢
   have lp : l ≠ pl:=(Aq Ab hl).symm
   have ep : upd (upd H pl (.lst [])) l (.lst (ps.map V.str)) pl = some (.lst []):=by rw [As lp.symm]; exact Ab
   have el : upd (upd H pl (.lst [])) l (.lst (ps.map V.str)) l = some (.lst (ps.map V.str)):=Ab
   have s1 : Ae H (upd (upd H pl (.lst [])) l (.lst (ps.map V.str))):=(s0 _).trans (Ae.new hl)
   generalize upd (upd H pl (.lst [])) l (.lst (ps.map V.str)) = H1 at ep el s1 ⊢
   refine ⟨l,rfl,⟨_,SqL.of el⟩,EH (xs:=ps.map V.str) (fun i σ H'=>Ae H H' ∧ H' l = some (.lst (ps.map V.str)) ∧ (∀ j p,j < i → ps[j]? = some p → JI p) ∧ ∃ (zs : List V) (z3 z4 : Option V),σ = [some (.str t),some (.int 6),some (.ref pl),z3,z4] ∧ H' pl = some (.lst zs) ∧ zs.length = i) ⟨s1,el,(fun j p hj=>absurd hj (UZ _)),[],none,none,rfl,ep,rfl⟩ (fun i σ H' _ h=>SqL.of h.2.1) ?_ ?_⟩
   ·rintro i v σ H2 hv ⟨sm,el2,hg,zs,z3,z4,rfl,ez,hzl⟩
    rw [U1] at hv
    obtain ⟨p,hp,rfl⟩:=Vg.mp hv
    have hpT:=hgT p (U3 hp)
    have hpTl:=hpT.2
    refine ⟨_,rfl,rfl,_,_,rfl,rfl,(by show (CI.length == 0) = false; rw [Cc]; rfl),by lia,fun lc hlc=>?_⟩
    have hwT:=Eo (sep:=Str.ofString ":") hpT
    have hwl:=PyProof.Rows.split_le p (Str.ofString ":")
    have hgp : (∀ w ∈ Txt.split p (Str.ofString ":"),ni w ≠ none) ∧ ((Txt.split p (Str.ofString ":")).length = 2 ∨ (Txt.split p (Str.ofString ":")).length = 3) → JI p:=id
    generalize Txt.split p (Str.ofString ":") = ws at hwT hwl hgp ⊢
    have s3 : Ae H2 (upd H2 lc (.lst (ws.map V.str))):=Ae.new hlc
    by_cases hall : ∀ w ∈ ws,ni w ≠ none
    ·obtain ⟨qs,rfl,hf⟩:=El hall
     rw [Tx] at hwl hgp
     refine ⟨_,rfl,.inl ⟨lc,qs,rfl,SqL.of (by rw [show (qs.map fun x=>V.str (tx x)) = (qs.map tx).map V.str by rw [V7]; rfl]; exact Ab),hf,by lia,fun pn us H4 m4 hpn' e4 hn=>?_⟩⟩
     have hul:=hn.length
     refine ⟨pn,us,rfl,.inl ⟨SqL.of e4,fun tp htp=>?_⟩⟩
     have s5 : Ae H4 (upd H4 tp (.tup us)):=Ae.new htp
     have s25 : Ae H2 (upd H4 tp (.tup us)):=s3.trans (m4.trans s5)
     refine ⟨_,rfl,tp,us,rfl,.inr (SqT.of Ab),P2,fun tt htt=>?_⟩
     have s26:=s25.trans (Ae.new (o:=.tup [.int 2,.int 3]) htt)
     refine ⟨tt,_,rfl,.inr (SqT.of Ab),rfl,rfl,_,rfl,?_⟩
     by_cases h23 : us.length = 2 ∨ us.length = 3
     ·rw [show inV (V.int ((us.length : Nat) : Int)) [.int 2,.int 3] = true by rcases h23 with z | z <;> rw [z] <;> rfl]
      refine Bk ?_
      have ez6:=s26 _ _ ez
      refine ⟨_,rfl,.inl ⟨rfl,_,SqL.of ez6⟩,_,rfl,pl,zs,_,rfl,rfl,ez6,by rw [hzl]; have:=(T4.mp hp).1; lia,?_⟩
      refine ⟨Ae.put (sm.trans s26) hpl,by rw [As lp]; exact s26 _ _ el2,fun j p' hj hp'=>?_,zs ++ [.ref tp],_,_,rfl,Ab,by simp [hzl]⟩
      rcases UY j i with z | z
      ·exact hg j p' z hp'
      ·obtain rfl : j = i:=by lia
       rw [hp] at hp'
       cases hp'
       exact hgp ⟨hall,by rw [← hul]; exact h23⟩
     ·rw [QN h23]
      exact C5 ⟨P1,q _ (sm.trans s26)⟩
    ·have hex : ∃ w ∈ ws,ni w = none:=Classical.byContradiction fun z=>hall fun w hw e=>z ⟨w,hw,e⟩
     exact ⟨_,rfl,.inr ⟨lc,ws,rfl,SqL.of Ab,hwT,by lia,hex,fun H' s=>q H' (sm.trans (s3.trans s))⟩⟩
   ·rintro σ H2 ⟨sm,el2,hg,zs,z3,z4,rfl,ez,hzl⟩
    rw [Tx] at hg
    exact (hgb fun p hp=>by
     obtain ⟨j,hj,e⟩:=List.mem_iff_getElem.mp hp
     exact hg j p hj (by rw [Uv hj,e])).elim
 | @twice pss hne h17 h23 hf hnd =>
   have P0 : 0 ≤ sizeLine:=by decide
   have P2 : 2 ≤ sizeLine:=by decide
   have hne' : pss ≠ []:=Vh.mp hne
   have jl:=DQ (sep:=Bw) (by rw [BH]; decide) (De hf h23)
   rw [Tx] at jl
   refine ⟨_,rfl,.inl ⟨_,rfl,?_⟩⟩
   refine ⟨P0,fun pl hpl=>?_⟩
   have s0 : ∀ o,Ae H (upd H pl o):=fun o=>Ae.new hpl
   refine ⟨_,rfl,rfl,_,_,rfl,rfl,(by show (Bw.length == 0) = false; rw [BH]; rfl),by show (Av pss).length + 2 ≤ sizeLine; unfold Av; lia,fun l hl=>?_⟩
   have es : Txt.split (Av pss) (Str.ofString ", ") = pss.map ptx:=DB hne'
   rw [es]
   have lp : l ≠ pl:=(Aq Ab hl).symm
   have ep : upd (upd H pl (.lst [])) l (.lst ((pss.map ptx).map V.str)) pl = some (.lst []):=by rw [As lp.symm]; exact Ab
   have el : upd (upd H pl (.lst [])) l (.lst ((pss.map ptx).map V.str)) l = some (.lst ((pss.map ptx).map V.str)):=Ab
   have s1 : Ae H (upd (upd H pl (.lst [])) l (.lst ((pss.map ptx).map V.str))):=(s0 _).trans (Ae.new hl)
   generalize upd (upd H pl (.lst [])) l (.lst ((pss.map ptx).map V.str)) = H1 at ep el s1 ⊢
   refine ⟨l,rfl,⟨_,SqL.of el⟩,EH (xs:=(pss.map ptx).map V.str) (fun i σ H'=>Ae H H' ∧ H' l = some (.lst ((pss.map ptx).map V.str)) ∧ ∃ (zs : List V) (z3 z4 : Option V),σ = [some (.str (Av pss)),some (.int 6),some (.ref pl),z3,z4] ∧ H' pl = some (.lst zs) ∧ zs.length = i ∧ Bg K H' zs (pss.take i)) ⟨s1,el,[],none,none,rfl,ep,rfl,.nil⟩ (fun i σ H' _ h=>SqL.of h.2.1) ?_ ?_⟩
   ·rintro i v σ H2 hv ⟨sm,el2,zs,z3,z4,rfl,ez,hzl,hpt⟩
    rw [U1,U1] at hv
    obtain ⟨t,ht,rfl⟩:=Vg.mp hv
    obtain ⟨ps,hps,rfl⟩:=Vg.mp ht
    have hm:=U3 hps
    have hp23:=h23 ps hm
    have hpn : ps ≠ []:=fun z=>by rw [z] at hp23; simp at hp23
    have hpl3:=FF (hf ps hm) (by rcases hp23 with z | z <;> lia)
    refine ⟨_,rfl,rfl,_,_,rfl,rfl,(by show (CI.length == 0) = false; rw [Cc]; rfl),by lia,fun lc hlc=>?_⟩
    have esc : Txt.split (ptx ps) (Str.ofString ":") = ps.map tx:=DC hpn
    rw [esc]
    have s3 : Ae H2 (upd H2 lc (.lst ((ps.map tx).map V.str))):=Ae.new hlc
    refine ⟨_,rfl,.inl ⟨lc,ps,rfl,SqL.of (by rw [show (ps.map fun x=>V.str (tx x)) = (ps.map tx).map V.str by rw [V7]; rfl]; exact Ab),hf ps hm,by rcases hp23 with z | z <;> lia,fun pn us H4 m4 hpn' e4 hn=>?_⟩⟩
    have hul:=hn.length
    refine ⟨pn,us,rfl,.inl ⟨SqL.of e4,fun tp htp=>?_⟩⟩
    have s5 : Ae H4 (upd H4 tp (.tup us)):=Ae.new htp
    have s25 : Ae H2 (upd H4 tp (.tup us)):=s3.trans (m4.trans s5)
    refine ⟨_,rfl,tp,us,rfl,.inr (SqT.of Ab),P2,fun tt htt=>?_⟩
    have s6 : Ae (upd H4 tp (.tup us)) (upd (upd H4 tp (.tup us)) tt (.tup [.int 2,.int 3])):=Ae.new htt
    refine ⟨tt,_,rfl,.inr (SqT.of Ab),rfl,rfl,_,rfl,?_⟩
    have hin : inV (V.int ((us.length : Nat) : Int)) [.int 2,.int 3] = true:=by
     rcases hp23 with z | z
     ·rw [hul,z]; rfl
     ·rw [hul,z]; rfl
    rw [hin]
    refine Bk ?_
    have s26:=s25.trans s6
    have et : SqT K (upd (upd H4 tp (.tup us)) tt (.tup [.int 2,.int 3])) tp us:=SqT.of (s6 _ _ Ab)
    have hn6:=Bl.same hn (s5.trans s6)
    have ez6:=s26 _ _ ez
    have el6:=s26 _ _ el2
    have hpt6:=Bg.same hpt s26
    generalize upd (upd H4 tp (.tup us)) tt (.tup [.int 2,.int 3]) = H6 at s26 et hn6 ez6 el6 hpt6 ⊢
    refine ⟨_,rfl,.inl ⟨rfl,_,SqL.of ez6⟩,_,rfl,pl,zs,_,rfl,rfl,ez6,by rw [hzl]; have:=(T4.mp hps).1; lia,?_⟩
    have hpT : PtT K H6 (.ref tp) ps:=by
     cases hn6 with
     | nil=>exact absurd rfl hpn
     | cons a b =>
       obtain ⟨r,rfl,hr⟩:=a
       exact ⟨tp,_,r,rfl,et,Paired.cons (BC.of hr) (Bl.nums b),rfl,hr⟩
    have hHp : H pl = none:=hpl
    refine ⟨?_,?_,zs ++ [.ref tp],_,_,rfl,Ab,by simp [hzl],?_⟩
    ·exact Ae.put (sm.trans s26) hHp
    ·rw [As lp]; exact el6
    ·rw [UW,hps]
     exact Paired.snoc (Bg.put hpt6 ez6) (PtT.put hpT ez6)
   rintro σ H2 ⟨sm,el2,zs,z3,z4,rfl,ez,hzl,hpt⟩
   rw [Tx,Tx,UX] at *
   exact ⟨_,rfl,.inr ⟨_,rfl,.inl ⟨.twice (b:=true) (SqL.of ez) hpt h23 hnd h17,fun H' s=>q H' (sm.trans s)⟩⟩⟩
 | @many pss hne h17 h23 hf hnd ht =>
   have P0 : 0 ≤ sizeLine:=by decide
   have P2 : 2 ≤ sizeLine:=by decide
   have hne' : pss ≠ []:=Vh.mp hne
   have jl:=DQ (sep:=Bw) (by rw [BH]; decide) (De hf h23)
   rw [Tx] at jl
   refine ⟨_,rfl,.inl ⟨_,rfl,?_⟩⟩
   refine ⟨P0,fun pl hpl=>?_⟩
   have s0 : ∀ o,Ae H (upd H pl o):=fun o=>Ae.new hpl
   refine ⟨_,rfl,rfl,_,_,rfl,rfl,(by show (Bw.length == 0) = false; rw [BH]; rfl),by show (Av pss).length + 2 ≤ sizeLine; unfold Av; lia,fun l hl=>?_⟩
   have es : Txt.split (Av pss) (Str.ofString ", ") = pss.map ptx:=DB hne'
   rw [es]
   have lp : l ≠ pl:=(Aq Ab hl).symm
   have ep : upd (upd H pl (.lst [])) l (.lst ((pss.map ptx).map V.str)) pl = some (.lst []):=by rw [As lp.symm]; exact Ab
   have el : upd (upd H pl (.lst [])) l (.lst ((pss.map ptx).map V.str)) l = some (.lst ((pss.map ptx).map V.str)):=Ab
   have s1 : Ae H (upd (upd H pl (.lst [])) l (.lst ((pss.map ptx).map V.str))):=(s0 _).trans (Ae.new hl)
   generalize upd (upd H pl (.lst [])) l (.lst ((pss.map ptx).map V.str)) = H1 at ep el s1 ⊢
   refine ⟨l,rfl,⟨_,SqL.of el⟩,EH (xs:=(pss.map ptx).map V.str) (fun i σ H'=>Ae H H' ∧ H' l = some (.lst ((pss.map ptx).map V.str)) ∧ ∃ (zs : List V) (z3 z4 : Option V),σ = [some (.str (Av pss)),some (.int 6),some (.ref pl),z3,z4] ∧ H' pl = some (.lst zs) ∧ zs.length = i ∧ Bg K H' zs (pss.take i)) ⟨s1,el,[],none,none,rfl,ep,rfl,.nil⟩ (fun i σ H' _ h=>SqL.of h.2.1) ?_ ?_⟩
   ·rintro i v σ H2 hv ⟨sm,el2,zs,z3,z4,rfl,ez,hzl,hpt⟩
    rw [U1,U1] at hv
    obtain ⟨t,ht,rfl⟩:=Vg.mp hv
    obtain ⟨ps,hps,rfl⟩:=Vg.mp ht
    have hm:=U3 hps
    have hp23:=h23 ps hm
    have hpn : ps ≠ []:=fun z=>by rw [z] at hp23; simp at hp23
    have hpl3:=FF (hf ps hm) (by rcases hp23 with z | z <;> lia)
    refine ⟨_,rfl,rfl,_,_,rfl,rfl,(by show (CI.length == 0) = false; rw [Cc]; rfl),by lia,fun lc hlc=>?_⟩
    have esc : Txt.split (ptx ps) (Str.ofString ":") = ps.map tx:=DC hpn
    rw [esc]
    have s3 : Ae H2 (upd H2 lc (.lst ((ps.map tx).map V.str))):=Ae.new hlc
    refine ⟨_,rfl,.inl ⟨lc,ps,rfl,SqL.of (by rw [show (ps.map fun x=>V.str (tx x)) = (ps.map tx).map V.str by rw [V7]; rfl]; exact Ab),hf ps hm,by rcases hp23 with z | z <;> lia,fun pn us H4 m4 hpn' e4 hn=>?_⟩⟩
    have hul:=hn.length
    refine ⟨pn,us,rfl,.inl ⟨SqL.of e4,fun tp htp=>?_⟩⟩
    have s5 : Ae H4 (upd H4 tp (.tup us)):=Ae.new htp
    have s25 : Ae H2 (upd H4 tp (.tup us)):=s3.trans (m4.trans s5)
    refine ⟨_,rfl,tp,us,rfl,.inr (SqT.of Ab),P2,fun tt htt=>?_⟩
    have s6 : Ae (upd H4 tp (.tup us)) (upd (upd H4 tp (.tup us)) tt (.tup [.int 2,.int 3])):=Ae.new htt
    refine ⟨tt,_,rfl,.inr (SqT.of Ab),rfl,rfl,_,rfl,?_⟩
    have hin : inV (V.int ((us.length : Nat) : Int)) [.int 2,.int 3] = true:=by
     rcases hp23 with z | z
     ·rw [hul,z]; rfl
     ·rw [hul,z]; rfl
    rw [hin]
    refine Bk ?_
    have s26:=s25.trans s6
    have et : SqT K (upd (upd H4 tp (.tup us)) tt (.tup [.int 2,.int 3])) tp us:=SqT.of (s6 _ _ Ab)
    have hn6:=Bl.same hn (s5.trans s6)
    have ez6:=s26 _ _ ez
    have el6:=s26 _ _ el2
    have hpt6:=Bg.same hpt s26
    generalize upd (upd H4 tp (.tup us)) tt (.tup [.int 2,.int 3]) = H6 at s26 et hn6 ez6 el6 hpt6 ⊢
    refine ⟨_,rfl,.inl ⟨rfl,_,SqL.of ez6⟩,_,rfl,pl,zs,_,rfl,rfl,ez6,by rw [hzl]; have:=(T4.mp hps).1; lia,?_⟩
    have hpT : PtT K H6 (.ref tp) ps:=by
     cases hn6 with
     | nil=>exact absurd rfl hpn
     | cons a b =>
       obtain ⟨r,rfl,hr⟩:=a
       exact ⟨tp,_,r,rfl,et,Paired.cons (BC.of hr) (Bl.nums b),rfl,hr⟩
    have hHp : H pl = none:=hpl
    refine ⟨?_,?_,zs ++ [.ref tp],_,_,rfl,Ab,by simp [hzl],?_⟩
    ·exact Ae.put (sm.trans s26) hHp
    ·rw [As lp]; exact el6
    ·rw [UW,hps]
     exact Paired.snoc (Bg.put hpt6 ez6) (PtT.put hpT ez6)
   rintro σ H2 ⟨sm,el2,zs,z3,z4,rfl,ez,hzl,hpt⟩
   rw [Tx,Tx,UX] at *
   exact ⟨_,rfl,.inr ⟨_,rfl,.inr ⟨⟨true,pl,zs,pss,rfl,SqL.of ez,hpt,h23,hne,hnd,ht,h17⟩,fun H' s=>q H' (sm.trans s)⟩⟩⟩
theorem Er : AA ["self","text"] ["self","text"] (Af (BI (top 130) 0)):=⟨rfl,rfl,rfl,by decide +kernel,rfl,by decide +kernel,by decide +kernel⟩
theorem EF {f : Addr} {fd : FuncData} (F : Fun K "__init__" "Desk.__init__" (BI (top 130) 0) f fd) {C_Desk : Addr} (t_Desk : GS K C_Desk) (RH : Fd P w K mg base 37 "read_points_of" ["text","most"] (Ep K)) {t_SIX : Tok} (c_SIX : mg "SIX" = some (.int 6 t_SIX)) (hT : P.given.tree = none) :
 AI P w K mg base CX0 38 f fd ["self","text"] (Dm K C_Desk):=by
 refine F.ok Er (fun vs H Q E h=>?_) (fun cdv A outer s H vs Q E hr h=>?_)
 ·obtain ⟨_,_,_,rfl,_⟩:=h; rfl
 refine ⟨_,(Ah (Ic K (pv 0) (AF RH hr rfl (Aa (pv 1) (Aa (AV (v:=.int 6) rfl c_SIX ⟨_,rfl⟩) Ac))) rfl)),?_⟩
 obtain ⟨p,dx,pss,rfl,hp,h1,h2,h3,h4,h5,q⟩:=h
 refine ⟨_,rfl,pss,rfl,h1,h2,h3,h4,h5,fun r xs H' s hr hx=>?_⟩
 have hp':=s _ _ hp
 refine ⟨_,rfl,p,C_Desk,dx,[],rfl,hp',t_Desk.cl,t_Desk.na_points,(by show 0 < 1000; decide),?_⟩
 exact q r xs _ (fun b o hb e=>by rw [As hb]; exact s _ _ e) Ab ⟨SqT.but hr hp',Bg.but hx hp',h2,h1,h4,h5⟩
theorem Ha {f : Addr} {fd : FuncData} (F : Fun K "__init__" "Desk.__init__" (BI (top 130) 0) f fd) {a_TooMany a_NoPoints a_NoText : Addr} (X_read_points_of : FdY P w K mg base 37 "read_points_of" ["text","most"] (IU K (Iz a_TooMany a_NoPoints a_NoText))) {C_Desk : Addr} (t_Desk : GS K C_Desk) (RH : Fd P w K mg base 37 "read_points_of" ["text","most"] (Ep K)) {t_SIX : Tok} (c_SIX : mg "SIX" = some (.int 6 t_SIX)) (hT : P.given.tree = none) :
 AI P w K mg base (CX2 P w) 38 f fd ["self","text"] (Dc K (Iz a_TooMany a_NoPoints a_NoText) C_Desk):=by
 refine F.okY Er (fun vs H Q E h=>?_) (fun cdv A outer s H vs Q E hr h=>?_)
 ·obtain ⟨_,_,_,_,rfl,_⟩:=h; rfl
 refine ⟨_,(AY (Ic K (pv 0) (EY X_read_points_of hr rfl Hv (Aa (pv 1) (Aa (AV (v:=.int 6) rfl c_SIX ⟨_,rfl⟩) Ac))) rfl)
  CA),?_⟩
 obtain ⟨p,dx,x,n,rfl,hp,hx,q⟩:=h
 exact ⟨_,rfl,x,n,rfl,hx,q⟩
theorem Br : AA ["numbers","least","number","fewest"] ["numbers","least"] (Af (top 128)):=⟨rfl,rfl,rfl,by decide +kernel,rfl,by decide +kernel,by decide +kernel⟩
theorem Fy {f : Addr} {fd : FuncData} (F : Fun K "check_wholes" "check_wholes" (top 128) f fd) (Rg : mg "zip" = none) (hT : P.given.tree = none) :
 AI P w K mg base CX0 33 f fd ["numbers","least"] (DU K):=by
 refine F.ok Br (fun vs H Q E h=>?_) (fun cdv A outer s H vs Q E hr h=>?_)
 ·obtain ⟨_,_,_,_,_,rfl,_⟩:=h; rfl
 refine ⟨_,(Ah (CV (K:=K) PassesOwn.never rfl (Mf K rfl Rg (Aa (pv 0) (Aa (pv 1) Ac))) (pgT K (n:=2) rfl (Cg (AK (i:=2) Br.nd rfl (Or.inl rfl)) (Cg (AK (i:=3) Br.nd rfl (Or.inl rfl)) FG))) (Ah (AD (K:=K) (PW.pt (CU (Aw Ey (AB (ixT K) (pv 2) Ag (fun u v=>rfl)) Ag (AH _)) (BY (Aw Gf (AB (ixT K) (pv 2) Ag (fun u v=>rfl)) (pv 3) (AH _))))) (Ah BE) Ax (by rfl) (by rfl))) (by rfl))),?_⟩
 obtain ⟨l,t,xs,qs,ls,rfl,h1,hn,h2,hb,q⟩:=h
 refine ⟨_,rfl,_,rfl,l,t,xs,_,rfl,h1,h2,Jt (fun i σ H'=>Ae H H' ∧ ∃ z2 z3,σ = [some (.ref l),some (.ref t),z2,z3]) ⟨Ae.refl _,_,_,rfl⟩ (fun i σ H' _ h=>⟨Ae.seq h.1 h1,h2.same h.1⟩) ?_ ?_⟩
 ·rintro i x y T σ H' hx hy hT hR1
  refine Hl hR1 fun sm hz46=>?_
  refine K9 hz46 fun z2 z3 hq45=>?_
  clear hz46
  obtain rfl:=hq45
  try clear hR1
  rw [U1] at hy
  obtain ⟨f,hf,rfl⟩:=(Vg.mp hy)
  obtain ⟨c,hc,r,rfl,hr⟩:=(Paired.get hn hx)
  have s1:=sm.trans (Ae.new (o:=.tup [.ref r,.int f]) hT)
  have hr1 : SqT K (upd H' T (.tup [.ref r,.int f])) r [.int c.num,.int (c.den : Int)]:=SqT.of (s1 _ _ hr)
  refine ⟨T,_,rfl,SqT.of Ab,rfl,_,_,rfl,_,_,rfl,rfl,?_⟩
  refine ⟨_,rfl,r,_,_,_,rfl,rfl,hr1,rfl,rfl,_,rfl,?_⟩
  obtain ⟨hd,hl⟩:=(Pt hb hc hf)
  refine Bp (by rw [decide_eq_true (show V.int (c.den : Int) = V.int 1 by rw [hd]; rfl)] <;> rfl) ⟨_,rfl,r,_,_,_,rfl,rfl,hr1,rfl,_,rfl,_,_,rfl,rfl,_,rfl,?_⟩
  exact Bp (by rw [decide_eq_false hl] <;> rfl) ⟨s1,_,_,rfl⟩
 ·rintro σ H' hR2
  refine Hl hR2 fun sm hz50=>?_
  refine K9 hz50 fun z2 z3 hq49=>?_
  clear hz50
  obtain rfl:=hq49
  try clear hR2
  exact q H' sm
theorem EZ {f : Addr} {fd : FuncData} (F : Fun K "check_wholes" "check_wholes" (top 128) f fd) {a_NoRow : Addr} (k_NoRow : EK K "NoRow" a_NoRow) (Rg : mg "zip" = none) (hT : P.given.tree = none) :
 AI P w K mg base (CX2 P w) 33 f fd ["numbers","least"] (D7 K a_NoRow):=by
 refine F.okY Br (fun vs H Q E h=>?_) (fun cdv A outer s H vs Q E hr h=>?_)
 ·obtain ⟨_,_,_,_,_,rfl,_⟩:=h; rfl
 refine ⟨_,(Ah (CV (K:=K) PassesOwn.leaving rfl (Mf K rfl Rg (Aa (pv 0) (Aa (pv 1) Ac))) (pgT K (n:=2) rfl (Cg (AK (i:=2) Br.nd rfl (Or.inl rfl)) (Cg (AK (i:=3) Br.nd rfl (Or.inl rfl)) FG))) (Ah (AD (K:=K) (PW.pt (CU (Aw Ey (AB (ixT K) (pv 2) Ag (fun u v=>rfl)) Ag (AH _)) (BY (Aw Gf (AB (ixT K) (pv 2) Ag (fun u v=>rfl)) (pv 3) (AH _))))) (Ah (BD k_NoRow rfl Cm rfl (Aa Aj Ac))) Ax (by rfl) (by rfl))) (by rfl))),?_⟩
 obtain ⟨l,t,xs,qs,ls,rfl,h1,hn,h2,hb,q⟩:=h
 have P1 : 1 ≤ sizeLine:=by decide
 have hxl:=hn.length
 refine ⟨_,rfl,_,rfl,l,t,xs,_,rfl,h1,h2,Jt (fun i σ H'=>Ae H H' ∧ (∀ j c f,j < i → qs[j]? = some c → ls[j]? = some f → c.den = 1 ∧ ¬ c.num < f) ∧ ∃ z2 z3,σ = [some (.ref l),some (.ref t),z2,z3]) ⟨Ae.refl _,(fun j c f hj=>absurd hj (UZ _)),_,_,rfl⟩ (fun i σ H' _ h=>⟨Ae.seq h.1 h1,h2.same h.1⟩) ?_ ?_⟩
 ·rintro i x y T σ H' hx hy hT ⟨sm,hg,z2,z3,rfl⟩
  rw [U1] at hy
  obtain ⟨f,hf,rfl⟩:=Vg.mp hy
  obtain ⟨c,hc,r,rfl,hr⟩:=Paired.get hn hx
  have s1:=sm.trans (Ae.new (o:=.tup [.ref r,.int f]) hT)
  have hr1 : SqT K (upd H' T (.tup [.ref r,.int f])) r [.int c.num,.int (c.den : Int)]:=SqT.of (s1 _ _ hr)
  refine ⟨T,_,rfl,SqT.of Ab,rfl,_,_,rfl,_,_,rfl,rfl,?_⟩
  refine ⟨_,rfl,r,_,_,_,rfl,rfl,hr1,rfl,rfl,_,rfl,?_⟩
  by_cases hd : c.den = 1
  ·rw [decide_eq_true (show V.int (c.den : Int) = V.int 1 by rw [hd]; rfl)]
   refine Bk ⟨_,rfl,r,_,_,_,rfl,rfl,hr1,rfl,_,rfl,_,_,rfl,rfl,_,rfl,?_⟩
   by_cases hl : c.num < f
   ·rw [decide_eq_true hl]
    exact C5 ⟨P1,q _ s1⟩
   ·rw [decide_eq_false hl]
    refine Bk ⟨s1,fun j c' f' hj hc' hf'=>?_,_,_,rfl⟩
    rcases UY j i with z | z
    ·exact hg j c' f' z hc' hf'
    ·obtain rfl : j = i:=by lia
     rw [hc] at hc'
     rw [hf] at hf'
     cases hc'
     cases hf'
     exact ⟨hd,hl⟩
  ·rw [decide_eq_false (show ¬ V.int (c.den : Int) = V.int 1 from fun z=>hd (by have:=V.int.inj z; lia))]
   exact C5 ⟨P1,q _ s1⟩
 ·rintro σ H' ⟨sm,hg,z2,z3,rfl⟩
  exact absurd hb (by
   rw [Pr fun j c f hc hf=>hg j c f (by
    have h1:=(T4.mp hc).1
    have h2:=(T4.mp hf).1
    rw [Tx]
    lia) hc hf]
   exact Bool.false_ne_true)
theorem Bh : AA ["words","numbers","counts"] ["words"] (Af (top 129)):=⟨rfl,rfl,rfl,by decide +kernel,rfl,by decide +kernel,by decide +kernel⟩
theorem EC {f : Addr} {fd : FuncData} (F : Fun K "numbers_of_row" "numbers_of_row" (top 129) f fd) (RI : Fd P w K mg base 33 "check_wholes" ["numbers","least"] (DU K)) (Rb : Fd P w K mg base 35 "number_in" ["text","most"] (D9)) (QZ : mg "len" = none) {t_SIX : Tok} (c_SIX : mg "SIX" = some (.int 6 t_SIX)) (hT : P.given.tree = none) {g_COUNTS_0 : Addr} (s_COUNTS_0 : ∀ H : Hp,SqT K H g_COUNTS_0 [.int 2,.int 3]) {g_COUNTS_1 : Addr} (s_COUNTS_1 : ∀ H : Hp,SqT K H g_COUNTS_1 [.int 1,.int 1]) {g_COUNTS_2 : Addr} (s_COUNTS_2 : ∀ H : Hp,SqT K H g_COUNTS_2 [.int 2,.int 2]) {g_COUNTS_3 : Addr} (s_COUNTS_3 : ∀ H : Hp,SqT K H g_COUNTS_3 [.int 2,.int 2]) {g_COUNTS_4 : Addr} (s_COUNTS_4 : ∀ H : Hp,SqT K H g_COUNTS_4 [.int 1,.int 1]) {g_COUNTS_5 : Addr} (s_COUNTS_5 : ∀ H : Hp,SqT K H g_COUNTS_5 [.int 0,.int 0]) {g_COUNTS_6 : Addr} (s_COUNTS_6 : ∀ H : Hp,SqT K H g_COUNTS_6 [.int 0,.int 0]) {g_COUNTS_7 : Addr} (s_COUNTS_7 : ∀ H : Hp,SqT K H g_COUNTS_7 [.int 0,.int 0]) {g_COUNTS_8 : Addr} (s_COUNTS_8 : ∀ H : Hp,SqT K H g_COUNTS_8 [.int 1,.int 1]) {g_COUNTS_9 : Addr} (s_COUNTS_9 : ∀ H : Hp,SqT K H g_COUNTS_9 [.int 1,.int 1]) {g_COUNTS_10 : Addr} (s_COUNTS_10 : ∀ H : Hp,SqT K H g_COUNTS_10 [.int 1,.int 16]) {g_COUNTS_11 : Addr} (s_COUNTS_11 : ∀ H : Hp,SqT K H g_COUNTS_11 [.int 2,.int 2]) {g_COUNTS_12 : Addr} (s_COUNTS_12 : ∀ H : Hp,SqT K H g_COUNTS_12 [.int 2,.int 2]) {g_COUNTS_13 : Addr} (s_COUNTS_13 : ∀ H : Hp,SqT K H g_COUNTS_13 [.int 2,.int 2]) {g_COUNTS_14 : Addr} (s_COUNTS_14 : ∀ H : Hp,SqT K H g_COUNTS_14 [.int 1,.int 1]) {a_COUNTS : Addr} (c_COUNTS : mg "COUNTS" = some (.ref a_COUNTS)) (d_COUNTS : KDk P w K a_COUNTS [(Sum.inr "put",.ref g_COUNTS_0),(Sum.inr "take",.ref g_COUNTS_1),(Sum.inr "height",.ref g_COUNTS_2),(Sum.inr "slope",.ref g_COUNTS_3),(Sum.inr "noslope",.ref g_COUNTS_4),(Sum.inr "points",.ref g_COUNTS_5),(Sum.inr "curve",.ref g_COUNTS_6),(Sum.inr "steps",.ref g_COUNTS_7),(Sum.inr "at",.ref g_COUNTS_8),(Sum.inr "slopeat",.ref g_COUNTS_9),(Sum.inr "misses",.ref g_COUNTS_10),(Sum.inr "bounds",.ref g_COUNTS_11),(Sum.inr "noughts",.ref g_COUNTS_12),(Sum.inr "wrong",.ref g_COUNTS_13),(Sum.inr "quotient",.ref g_COUNTS_14)]) {g_LEAST_0 : Addr} (s_LEAST_0 : ∀ H : Hp,SqT K H g_LEAST_0 [.int 1,.int 0]) {g_LEAST_1 : Addr} (s_LEAST_1 : ∀ H : Hp,SqT K H g_LEAST_1 [.int 1]) {a_LEAST : Addr} (c_LEAST : mg "LEAST" = some (.ref a_LEAST)) (d_LEAST : KDk P w K a_LEAST [(Sum.inr "wrong",.ref g_LEAST_0),(Sum.inr "quotient",.ref g_LEAST_1)]) :
 AI P w K mg base CX0 36 f fd ["words"] (DY K):=by
 refine F.ok Bh (fun vs H Q E h=>?_) (fun cdv A outer s H vs Q E hr h=>?_)
 ·obtain ⟨_,_,_,rfl,_⟩:=h; rfl
 refine ⟨_,(Ad (K:=K) (AD (K:=K) (JS (Ge P w K (AB (ixL K) (pv 0) Ag (fun u v=>rfl)) (AV (v:=.ref a_COUNTS) rfl c_COUNTS rfl)) (by with_unfolding_all rfl)) (Ah BE) Ax (by rfl) (by rfl))
  (Ad (K:=K) (Kq (i:=1) rfl Bh.nd rfl rfl (N:=["word"]) (nt:=1) (js:=[]) (Be.look (NX:=["words","numbers","counts"]) (sc:=Af (top 129)) rfl rfl (by decide +kernel)) (piL K (Gd (slL K) (pv 0) (Ie Ag) Ig)) (fun u1 u2 u3 u4 u5=>(AK (i:=0) (show List.Nodup (["word"] : List Str) from by decide +kernel) rfl (Or.inl rfl))) (AS (by decide)) (fun u1 u2 u3 u4 u5=>Bt) (fun u1 u2 u3 u4 u5=>(AF Rb hr rfl (Aa (pv 0) (Aa (AV (v:=.int 6) rfl c_SIX ⟨_,rfl⟩) Ac)))) rfl)
  (Ad (K:=K) (Ap (i:=2) Bh.nd rfl (Or.inl rfl) (Ew P w K (AV (v:=.ref a_COUNTS) rfl c_COUNTS rfl) (AB (ixL K) (pv 0) Ag (fun u v=>rfl)) (fun u v=>rfl)))
  (Ad (K:=K) (AD (K:=K) (PW.pt (CU (Aw Gf (Ak (CG K) rfl QZ Bf (Aa (pv 1) Ac)) (AB (ixT K) (pv 2) Ag (fun u v=>rfl)) (AH _)) (BY (Aw Dw (Ak (CG K) rfl QZ Bf (Aa (pv 1) Ac)) (AB (ixT K) (pv 2) Ag (fun u v=>rfl)) (AH _))))) (Ah BE) Ax (by rfl) (by rfl))
  (Ad (K:=K) (AD (K:=K) (Aw (inD K hr) Cj (pv 1) (by with_unfolding_all rfl)) (Ah BE) Ax (by rfl) (by rfl))
  (Ad (K:=K) (Cu (AF RI hr rfl (Aa (pv 1) (Aa (Hu P w K (AV (v:=.ref a_LEAST) rfl c_LEAST rfl) (AB (ixL K) (pv 0) Ag (fun u v=>rfl)) (AG Ac) ⟨rfl,rfl,rfl,rfl⟩) Ac))))
  (Ah (Az (pv 1))) (by rfl)) (by rfl)) (by rfl)) (by rfl)) (by rfl)) (by rfl)),?_⟩
 obtain ⟨l,i,qs,rfl,hS,i6,hlo,hhi,hf,q⟩:=h
 have hs:=sizeLine_eq
 have P0 : 0 ≤ sizeLine:=by decide
 have hi : i = 0 ∨ i = 1 ∨ i = 2 ∨ i = 3 ∨ i = 4 ∨ i = 5:=by lia
 have hl3 : qs.length ≤ 3:=by rcases hi with rfl | rfl | rfl | rfl | rfl | rfl <;> exact SU hhi (by decide)
 obtain ⟨kvs,g,dC,hg,hT⟩ : ∃ kvs g,KDk P w K a_COUNTS kvs ∧ CN kvs (Sum.inr (wd i)) = some (.ref g) ∧ ∀ H : Hp,SqT K H g [.int (loW i : Nat),.int (hiW i : Nat)]:=by
  rcases hi with rfl | rfl | rfl | rfl | rfl | rfl
  ·exact ⟨_,_,d_COUNTS,rfl,s_COUNTS_0⟩
  ·exact ⟨_,_,d_COUNTS,rfl,s_COUNTS_1⟩
  ·exact ⟨_,_,d_COUNTS,rfl,s_COUNTS_2⟩
  ·exact ⟨_,_,d_COUNTS,rfl,s_COUNTS_3⟩
  ·exact ⟨_,_,d_COUNTS,rfl,s_COUNTS_4⟩
  ·exact ⟨_,_,d_COUNTS,rfl,s_COUNTS_5⟩
 obtain ⟨kvl,dL,hn⟩ : ∃ kvs,KDk P w K a_LEAST kvs ∧ CN kvs (Sum.inr (wd i)) = none:=by
  rcases hi with rfl | rfl | rfl | rfl | rfl | rfl <;> exact ⟨_,d_LEAST,rfl⟩
 clear d_COUNTS d_LEAST s_COUNTS_0 s_COUNTS_1 s_COUNTS_2 s_COUNTS_3 s_COUNTS_4 s_COUNTS_5 hi i6
 refine ⟨⟨_,rfl,l,_,_,_,rfl,rfl,hS,AX (j:=0) rfl,a_COUNTS,kvs,Sum.inr (wd i),rfl,dC,rfl,_,rfl,?_⟩⟩
 rw [hg]
 refine Bk ?_
 refine Cq ⟨_,rfl,1,rfl,l,_,rfl,hS,fun c hc=>?_⟩
 have ec : Jy (V.str (wd i) :: qs.map fun x=>V.str (tx x)) (some 1) none = qs.map (fun x=>V.str (tx x)):=(Jw _ 1).trans rfl
 rw [ec]
 have s1 : Ae H (upd H c (.lst (qs.map fun x=>V.str (tx x)))):=Ae.new hc
 have e1 : upd H c (.lst (qs.map fun x=>V.str (tx x))) c = some (.lst (qs.map fun x=>V.str (tx x))):=Ab
 generalize upd H c (.lst (qs.map fun x=>V.str (tx x))) = H1 at s1 e1 ⊢
 refine ⟨c,rfl,⟨_,SqL.of e1⟩,Gy (xs:=qs.map fun x=>V.str (tx x)) (fun i zs H'=>Ae H1 H' ∧ zs.length = i ∧ Bl H' zs (qs.take i)) ⟨Ae.refl _,rfl,.nil⟩ (fun i zs H' _ h=>⟨SqL.of (h.1 _ _ e1),h.2.1⟩) (by rw [Tx]; lia) ?_ ?_⟩
 ·rintro j v zs H' hv ⟨sm,hl,hn⟩
  rw [U1] at hv
  obtain ⟨x,hx,rfl⟩:=(Vg.mp hv)
  have hfx:=hf x (U3 hx)
  refine ⟨_,rfl,tx x,rfl,LQ hfx,fun q' p H2 hq e m2 hp e2=>⟨sm.trans m2,by simp [hl],?_⟩,fun z=>absurd z (by rw [Jd hfx]; exact fun z=>nomatch z)⟩
  obtain rfl:=LM hfx hq e
  rw [UW,hx]
  exact Paired.snoc (Bl.same hn m2) ⟨p,rfl,e2⟩
 rintro zs H' ⟨sm,hl,hz⟩ p hp
 rw [Tx,UX] at *
 have s2 : Ae H (upd H' p (.lst zs)):=(s1.trans sm).trans (Ae.new hp)
 have hHp : H p = none:=(s1.trans sm).free hp
 have ep : upd H' p (.lst zs) p = some (.lst zs):=Ab
 have hz2:=Bl.same hz (Ae.new (o:=.lst zs) hp)
 generalize upd H' p (.lst zs) = H2 at s2 ep hz2 ⊢
 clear hz hp sm s1 e1
 refine ⟨⟨_,rfl,l,_,_,_,rfl,rfl,Ae.seq s2 hS,AX (j:=0) rfl,a_COUNTS,kvs,Sum.inr (wd i),_,rfl,dC,rfl,hg,?_⟩⟩
 refine ⟨_,rfl,p,_,rfl,.inl (SqL.of ep),_,rfl,g,_,_,_,rfl,rfl,hT H2,AX (j:=0) rfl,_,_,rfl,rfl,?_⟩
 have hzl : zs.length = qs.length:=hz2.length
 refine ⟨_,rfl,?_⟩
 refine Bp (by rw [decide_eq_false (show ¬ ((zs.length : Nat) : Int) < ((loW i : Nat) : Int) by lia)] <;> rfl) ⟨_,rfl,p,_,rfl,.inl (SqL.of ep),_,rfl,g,_,_,_,rfl,rfl,hT H2,AX (j:=1) rfl,_,_,rfl,rfl,_,rfl,?_⟩
 refine Bp (by rw [decide_eq_false (show ¬ ((zs.length : Nat) : Int) > ((hiW i : Nat) : Int) by lia)] <;> rfl) ?_
 refine ⟨_,rfl,GJ ⟨p,qs.map nD,.none,rfl,C7.rdsL hz2.nums (SqL.of ep),.non,Ir qs,rfl,_,rfl,?_⟩⟩
 rw [show ((qs.map nD).any fun y=>PyData.eqv y .none) = false from Jc qs]
 refine Bk ⟨_,rfl,⟨a_LEAST,kvl,rfl,dL,_,rfl,l,_,_,_,rfl,rfl,Ae.seq s2 hS,AX (j:=0) rfl,P0,fun e he=>⟨Sum.inr (wd i),rfl,?_⟩⟩⟩
 rw [hn]
 have s3:=s2.trans (Ae.new (o:=.tup []) he)
 have ep3:=(Ae.new (o:=.tup []) he) _ _ ep
 have hz3:=Bl.same hz2 (Ae.new (o:=.tup []) he)
 refine ⟨p,e,zs,qs,[],rfl,SqL.of ep3,hz3,SqT.of Ab,by cases qs <;> rfl,fun H9 s9=>⟨_,rfl,?_⟩⟩
 exact q p zs _ (s3.trans s9) hHp (s9 _ _ ep3) (Bl.same hz3 s9)
theorem Eh {f : Addr} {fd : FuncData} (F : Fun K "numbers_of_row" "numbers_of_row" (top 129) f fd) {a_NoRow : Addr} (k_NoRow : EK K "NoRow" a_NoRow) (X_check_wholes : FdY P w K mg base 33 "check_wholes" ["numbers","least"] (D7 K a_NoRow)) (RI : Fd P w K mg base 33 "check_wholes" ["numbers","least"] (DU K)) (Rb : Fd P w K mg base 35 "number_in" ["text","most"] (D9)) (QZ : mg "len" = none) {t_SIX : Tok} (c_SIX : mg "SIX" = some (.int 6 t_SIX)) (hT : P.given.tree = none) {g_COUNTS_0 : Addr} (s_COUNTS_0 : ∀ H : Hp,SqT K H g_COUNTS_0 [.int 2,.int 3]) {g_COUNTS_1 : Addr} (s_COUNTS_1 : ∀ H : Hp,SqT K H g_COUNTS_1 [.int 1,.int 1]) {g_COUNTS_2 : Addr} (s_COUNTS_2 : ∀ H : Hp,SqT K H g_COUNTS_2 [.int 2,.int 2]) {g_COUNTS_3 : Addr} (s_COUNTS_3 : ∀ H : Hp,SqT K H g_COUNTS_3 [.int 2,.int 2]) {g_COUNTS_4 : Addr} (s_COUNTS_4 : ∀ H : Hp,SqT K H g_COUNTS_4 [.int 1,.int 1]) {g_COUNTS_5 : Addr} (s_COUNTS_5 : ∀ H : Hp,SqT K H g_COUNTS_5 [.int 0,.int 0]) {g_COUNTS_6 : Addr} (s_COUNTS_6 : ∀ H : Hp,SqT K H g_COUNTS_6 [.int 0,.int 0]) {g_COUNTS_7 : Addr} (s_COUNTS_7 : ∀ H : Hp,SqT K H g_COUNTS_7 [.int 0,.int 0]) {g_COUNTS_8 : Addr} (s_COUNTS_8 : ∀ H : Hp,SqT K H g_COUNTS_8 [.int 1,.int 1]) {g_COUNTS_9 : Addr} (s_COUNTS_9 : ∀ H : Hp,SqT K H g_COUNTS_9 [.int 1,.int 1]) {g_COUNTS_10 : Addr} (s_COUNTS_10 : ∀ H : Hp,SqT K H g_COUNTS_10 [.int 1,.int 16]) {g_COUNTS_11 : Addr} (s_COUNTS_11 : ∀ H : Hp,SqT K H g_COUNTS_11 [.int 2,.int 2]) {g_COUNTS_12 : Addr} (s_COUNTS_12 : ∀ H : Hp,SqT K H g_COUNTS_12 [.int 2,.int 2]) {g_COUNTS_13 : Addr} (s_COUNTS_13 : ∀ H : Hp,SqT K H g_COUNTS_13 [.int 2,.int 2]) {g_COUNTS_14 : Addr} (s_COUNTS_14 : ∀ H : Hp,SqT K H g_COUNTS_14 [.int 1,.int 1]) {a_COUNTS : Addr} (c_COUNTS : mg "COUNTS" = some (.ref a_COUNTS)) (d_COUNTS : KDk P w K a_COUNTS [(Sum.inr "put",.ref g_COUNTS_0),(Sum.inr "take",.ref g_COUNTS_1),(Sum.inr "height",.ref g_COUNTS_2),(Sum.inr "slope",.ref g_COUNTS_3),(Sum.inr "noslope",.ref g_COUNTS_4),(Sum.inr "points",.ref g_COUNTS_5),(Sum.inr "curve",.ref g_COUNTS_6),(Sum.inr "steps",.ref g_COUNTS_7),(Sum.inr "at",.ref g_COUNTS_8),(Sum.inr "slopeat",.ref g_COUNTS_9),(Sum.inr "misses",.ref g_COUNTS_10),(Sum.inr "bounds",.ref g_COUNTS_11),(Sum.inr "noughts",.ref g_COUNTS_12),(Sum.inr "wrong",.ref g_COUNTS_13),(Sum.inr "quotient",.ref g_COUNTS_14)]) {g_LEAST_0 : Addr} (s_LEAST_0 : ∀ H : Hp,SqT K H g_LEAST_0 [.int 1,.int 0]) {g_LEAST_1 : Addr} (s_LEAST_1 : ∀ H : Hp,SqT K H g_LEAST_1 [.int 1]) {a_LEAST : Addr} (c_LEAST : mg "LEAST" = some (.ref a_LEAST)) (d_LEAST : KDk P w K a_LEAST [(Sum.inr "wrong",.ref g_LEAST_0),(Sum.inr "quotient",.ref g_LEAST_1)]) :
 AI P w K mg base (CX2 P w) 36 f fd ["words"] (CB K a_NoRow):=by
 refine F.okY Bh (fun vs H Q E h=>?_) (fun cdv A outer s H vs Q E hr h=>?_)
 ·obtain ⟨_,_,_,rfl,_⟩:=h; rfl
 refine ⟨_,(AY (AD (K:=K) (JS (Ge P w K (AB (ixL K) (pv 0) Ag (fun u v=>rfl)) (AV (v:=.ref a_COUNTS) rfl c_COUNTS rfl)) (by with_unfolding_all rfl)) (Ah (BD k_NoRow rfl Cm rfl (Aa Aj Ac))) Ax (by rfl) (by rfl))
  (AY (Kq (i:=1) rfl Bh.nd rfl rfl (N:=["word"]) (nt:=1) (js:=[]) (Be.look (NX:=["words","numbers","counts"]) (sc:=Af (top 129)) rfl rfl (by decide +kernel)) (piL K (Gd (slL K) (pv 0) (Ie Ag) Ig)) (fun u1 u2 u3 u4 u5=>(AK (i:=0) (show List.Nodup (["word"] : List Str) from by decide +kernel) rfl (Or.inl rfl))) (AS (by decide)) (fun u1 u2 u3 u4 u5=>Bt) (fun u1 u2 u3 u4 u5=>(AF Rb hr rfl (Aa (pv 0) (Aa (AV (v:=.int 6) rfl c_SIX ⟨_,rfl⟩) Ac)))) rfl)
  (AY (Ap (i:=2) Bh.nd rfl (Or.inl rfl) (Ew P w K (AV (v:=.ref a_COUNTS) rfl c_COUNTS rfl) (AB (ixL K) (pv 0) Ag (fun u v=>rfl)) (fun u v=>rfl)))
  (AY (AD (K:=K) (PW.pt (CU (Aw Gf (Ak (CG K) rfl QZ Bf (Aa (pv 1) Ac)) (AB (ixT K) (pv 2) Ag (fun u v=>rfl)) (AH _)) (BY (Aw Dw (Ak (CG K) rfl QZ Bf (Aa (pv 1) Ac)) (AB (ixT K) (pv 2) Ag (fun u v=>rfl)) (AH _))))) (Ah (BD k_NoRow rfl Cm rfl (Aa Aj Ac))) Ax (by rfl) (by rfl))
  (AY (AD (K:=K) (Aw (inD K hr) Cj (pv 1) (by with_unfolding_all rfl)) (Ah (BD k_NoRow rfl Cm rfl (Aa Aj Ac))) Ax (by rfl) (by rfl))
  (AY (Cu (EY X_check_wholes hr rfl Hv (Aa (pv 1) (Aa (Hu P w K (AV (v:=.ref a_LEAST) rfl c_LEAST rfl) (AB (ixL K) (pv 0) Ag (fun u v=>rfl)) (AG Ac) ⟨rfl,rfl,rfl,rfl⟩) Ac))))
  CA)))))),?_⟩
 obtain ⟨l,wd0,ts,rfl,hS,hT,hz,hb,q⟩:=h
 have hs:=sizeLine_eq
 have P0 : 0 ≤ sizeLine:=by decide
 have P1 : 1 ≤ sizeLine:=by decide
 have hC:=Gv (F:=fun v (c : Nat × Nat)=>∃ g,v = .ref g ∧ ∀ H : Hp,SqT K H g [.int (c.1 : Nat),.int (c.2 : Nat)]) (cs:=Qi) (kvs:=[(Sum.inr "put",.ref g_COUNTS_0),(Sum.inr "take",.ref g_COUNTS_1),(Sum.inr "height",.ref g_COUNTS_2),(Sum.inr "slope",.ref g_COUNTS_3),(Sum.inr "noslope",.ref g_COUNTS_4),(Sum.inr "points",.ref g_COUNTS_5),(Sum.inr "curve",.ref g_COUNTS_6),(Sum.inr "steps",.ref g_COUNTS_7),(Sum.inr "at",.ref g_COUNTS_8),(Sum.inr "slopeat",.ref g_COUNTS_9),(Sum.inr "misses",.ref g_COUNTS_10),(Sum.inr "bounds",.ref g_COUNTS_11),(Sum.inr "noughts",.ref g_COUNTS_12),(Sum.inr "wrong",.ref g_COUNTS_13),(Sum.inr "quotient",.ref g_COUNTS_14)]) (Paired.cons ⟨rfl,_,rfl,s_COUNTS_0⟩ (Paired.cons ⟨rfl,_,rfl,s_COUNTS_1⟩ (Paired.cons ⟨rfl,_,rfl,s_COUNTS_2⟩ (Paired.cons ⟨rfl,_,rfl,s_COUNTS_3⟩ (Paired.cons ⟨rfl,_,rfl,s_COUNTS_4⟩ (Paired.cons ⟨rfl,_,rfl,s_COUNTS_5⟩ (Paired.cons ⟨rfl,_,rfl,s_COUNTS_6⟩ (Paired.cons ⟨rfl,_,rfl,s_COUNTS_7⟩ (Paired.cons ⟨rfl,_,rfl,s_COUNTS_8⟩ (Paired.cons ⟨rfl,_,rfl,s_COUNTS_9⟩ (Paired.cons ⟨rfl,_,rfl,s_COUNTS_10⟩ (Paired.cons ⟨rfl,_,rfl,s_COUNTS_11⟩ (Paired.cons ⟨rfl,_,rfl,s_COUNTS_12⟩ (Paired.cons ⟨rfl,_,rfl,s_COUNTS_13⟩ (Paired.cons ⟨rfl,_,rfl,s_COUNTS_14⟩ (Paired.nil)))))))))))))))) wd0
 have hLs:=Gv (F:=fun v (c : List Int)=>∃ g,v = .ref g ∧ ∀ H : Hp,SqT K H g (c.map V.int)) (cs:=Nw) (kvs:=[(Sum.inr "wrong",.ref g_LEAST_0),(Sum.inr "quotient",.ref g_LEAST_1)]) (Paired.cons ⟨rfl,_,rfl,s_LEAST_0⟩ (Paired.cons ⟨rfl,_,rfl,s_LEAST_1⟩ Paired.nil)) wd0
 have dC:=d_COUNTS
 have dL:=d_LEAST
 clear d_COUNTS d_LEAST s_COUNTS_0 s_COUNTS_1 s_COUNTS_2 s_COUNTS_3 s_COUNTS_4 s_COUNTS_5 s_COUNTS_6 s_COUNTS_7 s_COUNTS_8 s_COUNTS_9 s_COUNTS_10 s_COUNTS_11 s_COUNTS_12 s_COUNTS_13 s_COUNTS_14 s_LEAST_0 s_LEAST_1
 refine ⟨⟨_,rfl,l,_,_,_,rfl,rfl,hS,AX (j:=0) rfl,a_COUNTS,_,Sum.inr wd0,rfl,dC,rfl,_,rfl,?_⟩⟩
 rcases hC with ⟨hC,hc0⟩ | ⟨v,⟨lo,hi⟩,hC,hc0,g,rfl,hg⟩
 ·rw [hC]
  exact C5 ⟨P1,q _ (Ae.refl _)⟩
 rw [hC]
 refine Bk ?_
 refine Cq ⟨_,rfl,1,rfl,l,_,rfl,hS,fun c hc=>?_⟩
 have ec : Jy (V.str wd0 :: ts.map V.str) (some 1) none = ts.map V.str:=(Jw _ 1).trans rfl
 rw [ec]
 have s1 : Ae H (upd H c (.lst (ts.map V.str))):=Ae.new hc
 have e1 : upd H c (.lst (ts.map V.str)) c = some (.lst (ts.map V.str)):=Ab
 generalize upd H c (.lst (ts.map V.str)) = H1 at s1 e1 ⊢
 refine ⟨c,rfl,⟨_,SqL.of e1⟩,Gy (xs:=ts.map V.str) (fun i zs H'=>Ae H1 H' ∧ zs.length = i ∧ Paired (Mx H') zs ((ts.take i).map rn)) ⟨Ae.refl _,rfl,.nil⟩ (fun i zs H' _ h=>⟨SqL.of (h.1 _ _ e1),h.2.1⟩) (by rw [Tx]; lia) ?_ ?_⟩
 ·rintro i v zs H' hv ⟨sm,hl,hn⟩
  rw [U1] at hv
  obtain ⟨t,ht,rfl⟩:=Vg.mp hv
  refine ⟨_,rfl,t,rfl,hT t (U3 ht),fun q p H2 hq e m2 hp e2=>⟨sm.trans m2,by simp [hl],?_⟩,fun hn0 H2 m2=>⟨sm.trans m2,by simp [hl],?_⟩⟩
  ·rw [UW,ht,UQ]
   exact Paired.snoc (Mxs.same hn m2) (by show Mx H2 _ (rn t); rw [e,J0 hq]; exact ⟨p,rfl,e2⟩)
  ·rw [UW,ht,UQ]
   exact Paired.snoc (Mxs.same hn m2) (by show Mx H2 _ (rn t); rw [Ia hn0]; rfl)
 rintro zs H' ⟨sm,hl,hn⟩ p hp
 rw [Tx,UX] at hn
 rw [Tx] at hl
 have s2 : Ae H (upd H' p (.lst zs)):=(s1.trans sm).trans (Ae.new hp)
 have ep : upd H' p (.lst zs) p = some (.lst zs):=Ab
 have hn2:=Mxs.same hn (Ae.new (o:=.lst zs) hp)
 generalize upd H' p (.lst zs) = H2 at s2 ep hn2 ⊢
 clear hn hp sm s1 e1
 refine ⟨⟨_,rfl,l,_,_,_,rfl,rfl,Ae.seq s2 hS,AX (j:=0) rfl,a_COUNTS,_,Sum.inr wd0,_,rfl,dC,rfl,hC,?_⟩⟩
 refine ⟨_,rfl,p,_,rfl,.inl (SqL.of ep),_,rfl,g,_,_,_,rfl,rfl,hg H2,AX (j:=0) rfl,_,_,rfl,rfl,?_⟩
 refine ⟨_,rfl,?_⟩
 by_cases h1 : ((zs.length : Nat) : Int) < ((lo : Nat) : Int)
 ·rw [decide_eq_true h1]
  exact C5 ⟨P1,q _ s2⟩
 rw [decide_eq_false h1]
 refine Bk ⟨_,rfl,p,_,rfl,.inl (SqL.of ep),_,rfl,g,_,_,_,rfl,rfl,hg H2,AX (j:=1) rfl,_,_,rfl,rfl,_,rfl,?_⟩
 by_cases h2 : ((zs.length : Nat) : Int) > ((hi : Nat) : Int)
 ·rw [decide_eq_true h2]
  exact C5 ⟨P1,q _ s2⟩
 rw [decide_eq_false h2]
 refine Bk ?_
 refine ⟨_,rfl,GJ ⟨p,(ts.map rn).map mO,.none,rfl,Mxs.rds hn2 (SqL.of ep),.non,Mw _,rfl,_,rfl,?_⟩⟩
 by_cases hall : ∀ w ∈ ts,ni w ≠ none
 ·obtain ⟨qs,rfl,hf⟩:=El hall
  rw [JZ hf] at hn2
  rw [JZ hf,show (((qs.map some).map mO).any fun y=>PyData.eqv y .none) = false by rw [FH,any_some]]
  refine Bk ?_
  refine ⟨_,rfl,⟨a_LEAST,_,rfl,dL,_,rfl,l,_,_,_,rfl,rfl,Ae.seq s2 hS,AX (j:=0) rfl,P0,fun e he=>⟨Sum.inr wd0,rfl,?_⟩⟩⟩
  have s3:=Ae.new (o:=.tup []) he
  have hw : whB qs ((Nw.lookup wd0).getD []) = true:=by
   unfold HZ at hb
   rw [hc0] at hb
   rw [Tx] at hb hl
   have e3 : ((qs.map tx).any fun t=>(ni t).isNone) = false:=by
    rw [Te]
    intro t ht
    obtain ⟨x,hx,rfl⟩:=V4.mp ht
    rw [Jd (hf x hx)]
    exact Bool.false_ne_true
   have hb : (decide (qs.length < lo) || decide (hi < qs.length) || ((qs.map tx).any fun t=>(ni t).isNone) || whN ((qs.map tx).map ni) ((Nw.lookup wd0).getD [])) = true:=hb
   rw [decide_eq_false (by lia),decide_eq_false (by lia),e3,LH hf] at hb
   exact hb
  rcases hLs with ⟨hL,hl0⟩ | ⟨v,cs,hL,hl0,g2,rfl,hg2⟩
  ·rw [hl0] at hw
   exact absurd hw (by cases qs <;> exact Bool.false_ne_true)
  ·rw [hL]
   rw [hl0] at hw
   exact ⟨p,g2,zs,qs,cs,rfl,SqL.of (s3 _ _ ep),Bl.same (Kv hn2) s3,hg2 _,hw,fun H9 s9=>q _ ((s2.trans s3).trans s9)⟩
 ·have hex : ∃ w ∈ ts,ni w = none:=Classical.byContradiction fun z=>hall fun w hw e=>z ⟨w,hw,e⟩
  rw [show (((ts.map rn).map mO).any fun y=>PyData.eqv y .none) = true by rw [FH,MV hex]]
  exact C5 ⟨P1,q _ s2⟩
theorem FZ : AA ["number"] ["number"] (Af (top 92)):=⟨rfl,rfl,rfl,by decide +kernel,rfl,by decide +kernel,by decide +kernel⟩
theorem Gj {f : Addr} {fd : FuncData} (F : Fun K "show_number" "show_number" (top 92) f fd) (R3 : mg "str" = none) (hT : P.given.tree = none) :
 AI P w K mg base CX0 33 f fd ["number"] (ER K):=by
 refine F.ok FZ (fun vs H Q E h=>?_) (fun cdv A outer s H vs Q E hr h=>?_)
 ·obtain ⟨_,_,rfl,_⟩:=h; rfl
 refine ⟨_,(Ad (K:=K) (AD (K:=K) (Aw DL (AB (ixT K) (pv 0) Ag (fun u v=>rfl)) Ag (AH _)) (Ah (Az (Ba Bz rfl R3 CJ (Aa (AB (ixT K) (pv 0) Ag (fun u v=>rfl)) Ac)))) Ax (by rfl) (by rfl))
  (Ah (Az (Am Al (Am Al (Ba Bz rfl R3 CJ (Aa (AB (ixT K) (pv 0) Ag (fun u v=>rfl)) Ac)) Aj) (Ba Bz rfl R3 CJ (Aa (AB (ixT K) (pv 0) Ag (fun u v=>rfl)) Ac))))) (by rfl)),?_⟩
 obtain ⟨x,q,rfl,⟨r,rfl,hr'⟩,hf,q0⟩:=h
 have hd:=hf.2
 have hs:=sizeLine_eq
 have l1:=DP hf.1
 have l2:=DP (i:=(q.den : Int)) (by lia)
 refine ⟨_,rfl,r,_,_,_,rfl,rfl,hr',rfl,rfl,_,rfl,?_⟩
 by_cases h1 : q.den = 1
 ·have e : tx q = txI q.num:=if_pos h1
  rw [e] at q0
  exact BQ (by rw [decide_eq_true (show V.int (q.den : Int) = V.int 1 by rw [h1]; rfl)] <;> rfl) ⟨_,rfl,r,_,_,_,rfl,rfl,hr',rfl,_,rfl,Fb hf.1,q0⟩
 ·have e : tx q = txI q.num ++ Str.ofString "/" ++ txI q.den:=if_neg h1
  rw [e] at q0
  rw [decide_eq_false (fun z=>h1 (by have:=V.int.inj z; lia))]
  have l3 : (Str.ofString "/").length = 1:=by rw [AE,BP]; rfl
  have l4 : (txI q.num ++ Str.ofString "/").length = (txI q.num).length + 1:=by rw [AE,AL,U4,← AE,← AE,l3]
  refine Bk ⟨_,rfl,r,_,_,_,rfl,rfl,hr',rfl,_,rfl,Fb hf.1,_,_,rfl,rfl,?_,_,rfl,r,_,_,_,rfl,rfl,hr',rfl,_,rfl,Fb (by lia),_,_,rfl,rfl,?_,q0⟩
  ·show (txI q.num).length + (Str.ofString "/").length ≤ sizeLine
   lia
  ·show (txI q.num ++ Str.ofString "/").length + (txI q.den).length ≤ sizeLine
   lia
theorem GW : AA ["point"] ["point"] (Af (top 95)):=⟨rfl,rfl,rfl,by decide +kernel,rfl,by decide +kernel,by decide +kernel⟩
theorem Hb {f : Addr} {fd : FuncData} (F : Fun K "show_point" "show_point" (top 95) f fd) (Sb : Fd P w K mg base 33 "show_number" ["number"] (ER K)) (hT : P.given.tree = none) :
 AI P w K mg base CX0 34 f fd ["point"] (HN K CI):=by
 refine F.ok GW (fun vs H Q E h=>?_) (fun cdv A outer s H vs Q E hr h=>?_)
 ·obtain ⟨_,_,_,rfl,_⟩:=h; rfl
 refine ⟨_,(Ah (Az (BM K PySem.F.plainAttrs_str PySem.F.slot_str_join PySem.F.type_str_join (EG K) Aj (Aa (Dv rfl (N:=["number"]) (nt:=1) (js:=[]) (Be.look (NX:=["point"]) (sc:=Af (top 95)) rfl rfl (by decide +kernel)) (piT K (pv 0)) (fun u1 u2 u3 u4 u5=>(AK (i:=0) (show List.Nodup (["number"] : List Str) from by decide +kernel) rfl (Or.inl rfl))) (AS (by decide)) (fun u1 u2 u3 u4 u5=>Bt) (fun u1 u2 u3 u4 u5=>(AF Sb hr rfl (Aa (pv 0) Ac)))) Ac)))),?_⟩
 obtain ⟨r,xs,qs,rfl,hS,hn,hf,h100,q⟩:=h
 have hs:=sizeLine_eq
 have hl:=hn.length
 refine ⟨rfl,?_⟩
 refine Cq ⟨_,rfl,r,rfl,⟨_,hS⟩,Gx (xs:=xs) (fun i zs H'=>H' = H ∧ zs = ((qs.take i).map tx).map V.str) ⟨rfl,rfl⟩ (fun i zs H' hi p=>⟨by rw [p.1]; exact hS,by rw [p.2,Tx,Tx,TX]; lia⟩) (by lia) ?_ ?_⟩
 ·rintro i x zs H' hx ⟨rfl,rfl⟩
  obtain ⟨c,hc,hcn⟩:=(Paired.get hn hx)
  refine ⟨_,rfl,x,c,rfl,hcn,hf c (U3 hc),rfl,?_⟩
  rw [UW,hc,UQ,UQ]; rfl
 rintro zs H' ⟨rfl,rfl⟩ p hp
 rw [hl,UX]
 exact ⟨_,p,qs.map tx,rfl,rfl,SqL.of Ab,Dh (by show CI.length ≤ 2; rw [Cc]; decide) (fun t ht=>SU (HK hf t ht) (by decide)) (by rw [Tx]; exact h100),q _ (Ae.new hp)⟩
theorem FY : AA ["points"] ["points"] (Af (top 96)):=⟨rfl,rfl,rfl,by decide +kernel,rfl,by decide +kernel,by decide +kernel⟩
theorem Gi {f : Addr} {fd : FuncData} (F : Fun K "show_points" "show_points" (top 96) f fd) (Sd : Fd P w K mg base 34 "show_point" ["point"] (HN K CI)) (hT : P.given.tree = none) :
 AI P w K mg base CX0 35 f fd ["points"] (DW K):=by
 refine F.ok FY (fun vs H Q E h=>?_) (fun cdv A outer s H vs Q E hr h=>?_)
 ·obtain ⟨_,_,_,rfl,_⟩:=h; rfl
 refine ⟨_,(Ah (Az (BM K PySem.F.plainAttrs_str PySem.F.slot_str_join PySem.F.type_str_join (EG K) Aj (Aa (Dv rfl (N:=["point"]) (nt:=1) (js:=[]) (Be.look (NX:=["points"]) (sc:=Af (top 96)) rfl rfl (by decide +kernel)) (piT K (pv 0)) (fun u1 u2 u3 u4 u5=>(AK (i:=0) (show List.Nodup (["point"] : List Str) from by decide +kernel) rfl (Or.inl rfl))) (AS (by decide)) (fun u1 u2 u3 u4 u5=>Bt) (fun u1 u2 u3 u4 u5=>(AF Sd hr rfl (Aa (pv 0) Ac)))) Ac)))),?_⟩
 obtain ⟨r,xs,pss,rfl,hS,hn,h23,hf,h100,q⟩:=h
 have hs:=sizeLine_eq
 have hl:=hn.length
 refine ⟨rfl,?_⟩
 refine Cq ⟨_,rfl,r,rfl,⟨_,hS⟩,Gx (xs:=xs) (fun i zs H'=>Ae H H' ∧ zs = ((pss.take i).map ptx).map V.str) ⟨Ae.refl _,rfl⟩ (fun i zs H' hi p=>⟨SqT.same hS p.1,by rw [p.2,Tx,Tx,TX]; lia⟩) (by lia) ?_ ?_⟩
 ·rintro i x zs H' hx ⟨sm,rfl⟩
  obtain ⟨ps,hps,hpt⟩:=(Paired.get hn hx)
  have hm:=U3 hps
  obtain ⟨a,rfl,us,hus,hun⟩:=(hpt.same sm)
  refine ⟨_,rfl,a,us,ps,rfl,hus,hun,hf ps hm,by rcases h23 ps hm with z | z <;> lia,fun H2 m2=>⟨sm.trans m2,?_⟩⟩
  rw [UW,hps,UQ,UQ]; rfl
 rintro zs H' ⟨sm,rfl⟩ p hp
 rw [hl,UX]
 exact ⟨_,p,pss.map ptx,rfl,rfl,SqL.of Ab,Dh (by show Bw.length ≤ 2; rw [BH]; decide) (fun t ht=>SU (De hf h23 t ht) (by decide)) (by rw [Tx]; exact h100),q _ (sm.trans (Ae.new hp))⟩
theorem GX : AA ["points","numbers"] ["points","numbers"] (Af (top 114)):=⟨rfl,rfl,rfl,by decide +kernel,rfl,by decide +kernel,by decide +kernel⟩
theorem Hc {f : Addr} {fd : FuncData} (F : Fun K "points_row" "points_row" (top 114) f fd) (Se : Fd P w K mg base 35 "show_points" ["points"] (DW K)) (hT : P.given.tree = none) :
 AI P w K mg base CX0 36 f fd ["points","numbers"] (DD K):=by
 refine F.ok GX (fun vs H Q E h=>?_) (fun cdv A outer s H vs Q E hr h=>?_)
 ·obtain ⟨_,_,_,_,rfl,_⟩:=h; rfl
 refine ⟨_,(Ah (Az (AF Se hr rfl (Aa (pv 0) Ac)))),?_⟩
 obtain ⟨r,l,xs,pss,rfl,h1,h2,h3,h4,h5,q⟩:=h
 exact ⟨_,rfl,r,xs,pss,rfl,h1,h2,h3,h4,h5,q⟩
theorem BV : AA ["self","row","words","numbers"] ["self","row"] (Af (BI (top 130) 1)):=⟨rfl,rfl,rfl,by decide +kernel,rfl,by decide +kernel,by decide +kernel⟩
theorem Ft {f : Addr} {fd : FuncData} (F : Fun K "say" "Desk.say" (BI (top 130) 1) f fd) {C_Desk : Addr} (t_Desk : GS K C_Desk) (RJ : Fd P w K mg base 36 "numbers_of_row" ["words"] (DY K)) (Sf : Fd P w K mg base 36 "points_row" ["points","numbers"] (DD K)) (R1 : mg "isinstance" = none) (R3 : mg "str" = none) (hT : P.given.tree = none) {g_CHANGES_0 : Addr} {g_CHANGES_1 : Addr} {g_CHANGES_2 : Addr} {g_CHANGES_3 : Addr} {g_CHANGES_4 : Addr} {a_CHANGES : Addr} (c_CHANGES : mg "CHANGES" = some (.ref a_CHANGES)) (d_CHANGES : KDk P w K a_CHANGES [(Sum.inr "put",.ref g_CHANGES_0),(Sum.inr "take",.ref g_CHANGES_1),(Sum.inr "height",.ref g_CHANGES_2),(Sum.inr "slope",.ref g_CHANGES_3),(Sum.inr "noslope",.ref g_CHANGES_4)]) {f_points_row : Addr} (m_points_row : mg "points_row" = some (.ref f_points_row)) {g_ANSWERS_1 : Addr} {g_ANSWERS_2 : Addr} {g_ANSWERS_3 : Addr} {g_ANSWERS_4 : Addr} {g_ANSWERS_5 : Addr} {g_ANSWERS_6 : Addr} {g_ANSWERS_7 : Addr} {g_ANSWERS_8 : Addr} {g_ANSWERS_9 : Addr} {a_ANSWERS : Addr} (c_ANSWERS : mg "ANSWERS" = some (.ref a_ANSWERS)) (d_ANSWERS : KDk P w K a_ANSWERS [(Sum.inr "points",.ref f_points_row),(Sum.inr "curve",.ref g_ANSWERS_1),(Sum.inr "steps",.ref g_ANSWERS_2),(Sum.inr "at",.ref g_ANSWERS_3),(Sum.inr "slopeat",.ref g_ANSWERS_4),(Sum.inr "misses",.ref g_ANSWERS_5),(Sum.inr "bounds",.ref g_ANSWERS_6),(Sum.inr "noughts",.ref g_ANSWERS_7),(Sum.inr "wrong",.ref g_ANSWERS_8),(Sum.inr "quotient",.ref g_ANSWERS_9)]) :
 AI P w K mg base CX0 37 f fd ["self","row"] (Ee K C_Desk):=by
 refine F.ok BV (fun vs H Q E h=>?_) (fun cdv A outer s H vs Q E hr h=>?_)
 ·obtain ⟨_,_,_,_,_,rfl,_⟩:=h; rfl
 refine ⟨_,(Ad (K:=K) (AD (K:=K) (BL (Bu (Ak (Jn K) rfl R1 Ar (Aa (pv 1) (Aa (BN (v:=.ty "str") rfl R3 CJ rfl) Ac))))) (Ah BE) Ax (by rfl) (by rfl))
  (Ad (K:=K) (Ap (i:=2) BV.nd rfl (Or.inl rfl) (BM K PySem.F.plainAttrs_str PySem.F.slot_str_split PySem.F.type_str_split CF (pv 1) (Aa Aj Ac)))
  (Ad (K:=K) (Ap (i:=3) BV.nd rfl (Or.inl rfl) (AF RJ hr rfl (Aa (pv 2) Ac)))
  (Ad (K:=K) (AD (K:=K) (JS (Np P w K (AB (ixL K) (pv 2) Ag (fun u v=>rfl)) (AV (v:=.ref a_CHANGES) rfl c_CHANGES rfl)) (by with_unfolding_all rfl)) (Ad (K:=K) (Ic K (pv 0) (J7 P w K mg base (CX:=CX0) (n:=33) (hr.mono (by decide)) Hw (Ew P w K (AV (v:=.ref a_CHANGES) rfl c_CHANGES rfl) (AB (ixL K) (pv 2) Ag (fun u v=>rfl)) (fun u v=>rfl)) (Aa (Ks K (pv 0) rfl) (Aa (pv 3) Ac))) rfl)
  (Ah (Az Aj)) (by rfl)) Ax (by rfl) (by rfl))
  (Ah (Az (J7 P w K mg base (CX:=CX0) (n:=36) (hr.mono (by decide)) Hw (Ew P w K (AV (v:=.ref a_ANSWERS) rfl c_ANSWERS rfl) (AB (ixL K) (pv 2) Ag (fun u v=>rfl)) (fun u v=>rfl)) (Aa (Ks K (pv 0) rfl) (Aa (pv 3) Ac))))) (by rfl)) (by rfl)) (by rfl)) (by rfl)),?_⟩
 obtain ⟨p,dx,r,xs,pss,rfl,hp,pok,hg,q⟩:=h
 have h1 : loW 5 ≤ ([] : List Rat).length:=T9 _
 have h2 : ([] : List Rat).length ≤ hiW 5:=T9 _
 refine ⟨_,rfl,_,_,_,_,rfl,.of (.str _),K5 K,true,rfl,Bk ?_⟩
 refine ⟨_,rfl,rfl,_,_,rfl,rfl,rfl,Nh,fun l hl=>?_⟩
 rw [Lf]
 have s1:=Ae.new (o:=.lst ((wd 5 :: ([] : List Rat).map tx).map V.str)) hl
 have el : upd H l (.lst ((wd 5 :: ([] : List Rat).map tx).map V.str)) l = some (.lst (.str (wd 5) :: ([] : List Rat).map fun x=>V.str (tx x))):=Ab
 generalize upd H l (.lst ((wd 5 :: ([] : List Rat).map tx).map V.str)) = H1 at s1 el ⊢
 refine ⟨_,rfl,l,5,[],rfl,SqL.of el,by decide,h1,h2,nofun,fun nl ys H2 s2 hnl en hn=>?_⟩
 have s12:=s1.trans s2
 have el2:=s2 _ _ el
 have pok2:=pok.same s12
 have hp2:=s12 _ _ hp
 obtain ⟨kvs,dC,hv⟩ : ∃ kvs,KDk P w K a_CHANGES kvs ∧ CN kvs (Sum.inr (wd 5)) = none:=⟨_,d_CHANGES,rfl⟩
 obtain ⟨kva,fa,fda,dA,hva,kp,FO,BB⟩ : ∃ kvs fa fda,KDk P w K a_ANSWERS kvs ∧ CN kvs (Sum.inr (wd 5)) = some (.ref fa) ∧ Tw K (.ref fa) = true ∧ AI P w K mg base CX0 36 fa fda ["points","numbers"] (DD K) ∧ BW K fda ["points","numbers"] []:=by
  refine K9 Sf.ex fun _ _ hz53'=>?_
  refine II hz53' fun FO B kp m=>?_
  clear hz53'
  cases m_points_row.symm.trans m
  exact ⟨_,_,_,d_ANSWERS,rfl,kp,AI.up FO (by decide),B⟩
 have g12:=DT pok.h23
 have h12:=pok.h12
 refine ⟨⟨_,rfl,l,_,_,_,rfl,rfl,SqL.of el2,AX (j:=0) rfl,a_CHANGES,kvs,Sum.inr (wd 5),rfl,dC,rfl,_,rfl,?_⟩⟩
 rw [hv]
 refine Bk ?_
 exact ⟨⟨_,rfl,l,_,_,_,rfl,rfl,SqL.of el2,AX (j:=0) rfl,a_ANSWERS,kva,Sum.inr (wd 5),_,rfl,dA,rfl,hva,fa,fda,rfl,kp,_,rfl,p,C_Desk,dx,_,_,rfl,hp2,t_Desk.cl,t_Desk.na_points,rfl,_,rfl,_,_,FO,BB,r,nl,xs,pss,rfl,pok2.S,Bg.pts pok2.P,pok2.h23,hg,by lia,fun H3 s3=>q H3 (s12.trans s3)⟩⟩
theorem Ii {f : Addr} {fd : FuncData} (F : Fun K "say" "Desk.say" (BI (top 130) 1) f fd) {a_NoRow : Addr} (k_NoRow : EK K "NoRow" a_NoRow) (X_numbers_of_row : FdY P w K mg base 36 "numbers_of_row" ["words"] (CB K a_NoRow)) {C_Desk : Addr} (t_Desk : GS K C_Desk) (RJ : Fd P w K mg base 36 "numbers_of_row" ["words"] (DY K)) (Sf : Fd P w K mg base 36 "points_row" ["points","numbers"] (DD K)) (R1 : mg "isinstance" = none) (R3 : mg "str" = none) (hT : P.given.tree = none) {g_CHANGES_0 : Addr} {g_CHANGES_1 : Addr} {g_CHANGES_2 : Addr} {g_CHANGES_3 : Addr} {g_CHANGES_4 : Addr} {a_CHANGES : Addr} (c_CHANGES : mg "CHANGES" = some (.ref a_CHANGES)) (d_CHANGES : KDk P w K a_CHANGES [(Sum.inr "put",.ref g_CHANGES_0),(Sum.inr "take",.ref g_CHANGES_1),(Sum.inr "height",.ref g_CHANGES_2),(Sum.inr "slope",.ref g_CHANGES_3),(Sum.inr "noslope",.ref g_CHANGES_4)]) {f_points_row : Addr} (m_points_row : mg "points_row" = some (.ref f_points_row)) {g_ANSWERS_1 : Addr} {g_ANSWERS_2 : Addr} {g_ANSWERS_3 : Addr} {g_ANSWERS_4 : Addr} {g_ANSWERS_5 : Addr} {g_ANSWERS_6 : Addr} {g_ANSWERS_7 : Addr} {g_ANSWERS_8 : Addr} {g_ANSWERS_9 : Addr} {a_ANSWERS : Addr} (c_ANSWERS : mg "ANSWERS" = some (.ref a_ANSWERS)) (d_ANSWERS : KDk P w K a_ANSWERS [(Sum.inr "points",.ref f_points_row),(Sum.inr "curve",.ref g_ANSWERS_1),(Sum.inr "steps",.ref g_ANSWERS_2),(Sum.inr "at",.ref g_ANSWERS_3),(Sum.inr "slopeat",.ref g_ANSWERS_4),(Sum.inr "misses",.ref g_ANSWERS_5),(Sum.inr "bounds",.ref g_ANSWERS_6),(Sum.inr "noughts",.ref g_ANSWERS_7),(Sum.inr "wrong",.ref g_ANSWERS_8),(Sum.inr "quotient",.ref g_ANSWERS_9)]) :
 AI P w K mg base (CX2 P w) 37 f fd ["self","row"] (ES K a_NoRow C_Desk):=by
 refine F.okY BV (fun vs H Q E h=>?_) (fun cdv A outer s H vs Q E hr h=>?_)
 ·obtain ⟨_,_,rfl,_⟩:=h; rfl
 refine ⟨_,(AY (AD (K:=K) (BL (Bu (Ak (Jn K) rfl R1 Ar (Aa (pv 1) (Aa (BN (v:=.ty "str") rfl R3 CJ rfl) Ac))))) (Ah (BD k_NoRow rfl Cm rfl (Aa Aj Ac))) Ax (by rfl) (by rfl))
  (AY (Ap (i:=2) BV.nd rfl (Or.inl rfl) (BM K PySem.F.plainAttrs_str PySem.F.slot_str_split PySem.F.type_str_split CF (pv 1) (Aa Aj Ac)))
  (AY (Ap (i:=3) BV.nd rfl (Or.inl rfl) (EY X_numbers_of_row hr rfl Hv (Aa (pv 2) Ac)))
  CA))),?_⟩
 obtain ⟨p,x,rfl,hx,q⟩:=h
 have hs:=sizeLine_eq
 have P1 : 1 ≤ sizeLine:=by decide
 cases hx with
 | no hn =>
   obtain ⟨t,ty,hk⟩:=hn
   exact ⟨_,rfl,_,_,_,_,rfl,ty,hk,false,rfl,C5 ⟨P1,q _ (Ae.refl _)⟩⟩
 | @row t w ws hT e hb =>
   have hTl:=hT.2
   have hwl:=PyProof.Rows.split_le t (Str.ofString " ")
   rw [e,Tq] at hwl
   refine ⟨_,rfl,_,_,_,_,rfl,.of (.str _),K5 K,true,rfl,Bk ?_⟩
   refine ⟨_,rfl,rfl,_,_,rfl,rfl,rfl,by lia,fun l hl=>?_⟩
   rw [e]
   exact ⟨_,rfl,l,w,ws,rfl,SqL.of Ab,fun u hu=>Eo (sep:=Str.ofString " ") hT u (by rw [e]; exact SY _ hu),by lia,hb,fun H' s=>q H' ((Ae.new hl).trans s)⟩
theorem BX : AA ["_law_pen_here","_law_text_here","_law_row","_law_word","_law_desk","e"] ["_law_pen_here","_law_text_here","_law_row"] (Af (top 145)):=⟨rfl,rfl,rfl,by decide +kernel,rfl,by decide +kernel,by decide +kernel⟩
theorem Gq {f : Addr} {fd : FuncData} (F : Fun K "_law_caught" "_law_caught" (top 145) f fd) {C_Desk : Addr} (t_Desk : GS K C_Desk) {a_CurveError a_TooMany a_NoPoints a_NoPoint a_NoNumber a_NoCurve a_NoStretch a_TooDeep a_TooFew a_NoText a_NoRow : Addr} (c_CurveError : mg "CurveError" = some (.ref a_CurveError)) (xm_TooMany : UU K (.ref a_TooMany) (.ref a_CurveError) = some true) (xr_TooMany : Fp K a_TooMany [a_TooMany,a_NoPoints,a_NoPoint,a_NoNumber,a_NoCurve,a_NoStretch,a_TooDeep,a_TooFew,a_NoText,a_NoRow] 0) (xm_NoPoints : UU K (.ref a_NoPoints) (.ref a_CurveError) = some true) (xr_NoPoints : Fp K a_NoPoints [a_TooMany,a_NoPoints,a_NoPoint,a_NoNumber,a_NoCurve,a_NoStretch,a_TooDeep,a_TooFew,a_NoText,a_NoRow] 1) (xm_NoText : UU K (.ref a_NoText) (.ref a_CurveError) = some true) (xr_NoText : Fp K a_NoText [a_TooMany,a_NoPoints,a_NoPoint,a_NoNumber,a_NoCurve,a_NoStretch,a_TooDeep,a_TooFew,a_NoText,a_NoRow] 8) (xm_NoRow : UU K (.ref a_NoRow) (.ref a_CurveError) = some true) (xr_NoRow : Fp K a_NoRow [a_TooMany,a_NoPoints,a_NoPoint,a_NoNumber,a_NoCurve,a_NoStretch,a_TooDeep,a_TooFew,a_NoText,a_NoRow] 9) (H__law_refusal : FdH P w K mg base 33 "_law_refusal" "_law_caught_here" (HP K [a_TooMany,a_NoPoints,a_NoPoint,a_NoNumber,a_NoCurve,a_NoStretch,a_TooDeep,a_TooFew,a_NoText,a_NoRow])) (Y_Desk_init : FdI (CX2 P w) P w K mg base 38 C_Desk "Desk" ["self","text"] (fun vs H Q E=>(Dm K C_Desk : Sp) vs H Q E ∨ (Dc K (Iz a_TooMany a_NoPoints a_NoText) C_Desk : Sp) vs H Q E)) (RK : FdI CX0 P w K mg base 38 C_Desk "Desk" ["self","text"] (Dm K C_Desk)) (Rt : FdM CX0 P w K mg base 37 C_Desk "say" ["self","row"] (Ee K C_Desk)) (hT : P.given.tree = none) :
 AI P w K mg base CX0 40 f fd ["_law_pen_here","_law_text_here","_law_row"] (FW K):=by
 refine F.ok BX (fun vs H Q E h=>?_) (fun cdv A outer s H vs Q E hr h=>?_)
 ·obtain ⟨_,_,rfl,_⟩:=h; rfl
 refine ⟨_,(Ad (K:=K) (Ap (i:=3) BX.nd rfl (Or.inl rfl) Cj)
  (Ad (K:=K) (Kp (Nq Y_Desk_init hr rfl (Aa (pv 1) Ac) BX.nd (j:=4) rfl (Or.inl rfl) (Ah (Cu (J3 (pv 4) t_Desk.cl Rt hr Hw (Aa (pv 2) Ac))))) H__law_refusal hr rfl rfl c_CurveError BX.nd (i:=5) rfl rfl (j:=3) rfl rfl rfl rfl)
  (Ah (Az (pv 3))) (by rfl)) (by rfl)),?_⟩
 obtain ⟨a,x,rfl,hc⟩:=h
 refine ⟨_,rfl,fun o dx ho hdx hod=>?_⟩
 have sd : Ae H (upd (upd H dx (.own o)) o (.ins C_Desk dx [])):=fun b u e=>by rw [As (Aq e ho),As (Aq e hdx)]; exact e
 rcases hc with ⟨n,hx,q⟩ | ⟨pss,rfl,hpq,q⟩
 ·refine .inr ⟨o,dx,x,n,rfl,Ab,hx.same sd,fun H1 s1=>?_⟩
  have s1:=sd.trans s1
  match n,q with
  | 0,q=>exact ⟨xm_TooMany,fun ea he=>⟨a_TooMany,0,"many",rfl,xr_TooMany,rfl,fun H' s=>⟨_,rfl,q _ (s1.trans s)⟩⟩⟩
  | 1,q=>exact ⟨xm_NoPoints,fun ea he=>⟨a_NoPoints,1,"points",rfl,xr_NoPoints,rfl,fun H' s=>⟨_,rfl,q _ (s1.trans s)⟩⟩⟩
  | n + 2,q=>exact ⟨xm_NoText,fun ea he=>⟨a_NoText,8,"text",rfl,xr_NoText,rfl,fun H' s=>⟨_,rfl,q _ (s1.trans s)⟩⟩⟩
 ·refine .inl ⟨o,dx,pss,rfl,Ab,hpq.h1,hpq.h23,hpq.fg,hpq.nd,hpq.h12,fun r xs H2 bt ed pk=>⟨rfl,?_⟩⟩
  have s2 : Ae H H2:=fun b u e=>bt b u (Aq e ho) (sd _ _ e)
  exact ⟨_,rfl,o,dx,_,rfl,ed,rfl,_,rfl,o,dx,r,xs,pss,rfl,ed,pk,hpq.fg,fun H3 s3=>⟨_,rfl,q _ (s2.trans s3)⟩⟩
theorem Ci : AA ["_law_script","_law_pen_here","_law_points","_law_text_here","_law_desk","_law_k","_law_row","_law_word","e","_law_bad","_law_due"] ["_law_script"] (Af (top 147)):=⟨rfl,rfl,rfl,by decide +kernel,rfl,by decide +kernel,by decide +kernel⟩
theorem OL {f : Addr} {fd : FuncData} (F : Fun K "law" "law" (top 147) f fd) {C_Desk : Addr} (t_Desk : GS K C_Desk) {a_CurveError a_TooMany a_NoPoints a_NoPoint a_NoNumber a_NoCurve a_NoStretch a_TooDeep a_TooFew a_NoText a_NoRow : Addr} (c_CurveError : mg "CurveError" = some (.ref a_CurveError)) (xm_TooMany : UU K (.ref a_TooMany) (.ref a_CurveError) = some true) (xr_TooMany : Fp K a_TooMany [a_TooMany,a_NoPoints,a_NoPoint,a_NoNumber,a_NoCurve,a_NoStretch,a_TooDeep,a_TooFew,a_NoText,a_NoRow] 0) (xm_NoPoints : UU K (.ref a_NoPoints) (.ref a_CurveError) = some true) (xr_NoPoints : Fp K a_NoPoints [a_TooMany,a_NoPoints,a_NoPoint,a_NoNumber,a_NoCurve,a_NoStretch,a_TooDeep,a_TooFew,a_NoText,a_NoRow] 1) (xm_NoText : UU K (.ref a_NoText) (.ref a_CurveError) = some true) (xr_NoText : Fp K a_NoText [a_TooMany,a_NoPoints,a_NoPoint,a_NoNumber,a_NoCurve,a_NoStretch,a_TooDeep,a_TooFew,a_NoText,a_NoRow] 8) (xm_NoRow : UU K (.ref a_NoRow) (.ref a_CurveError) = some true) (xr_NoRow : Fp K a_NoRow [a_TooMany,a_NoPoints,a_NoPoint,a_NoNumber,a_NoCurve,a_NoStretch,a_TooDeep,a_TooFew,a_NoText,a_NoRow] 9) (H__law_refusal : FdH P w K mg base 33 "_law_refusal" "_law_caught_here" (HP K [a_TooMany,a_NoPoints,a_NoPoint,a_NoNumber,a_NoCurve,a_NoStretch,a_TooDeep,a_TooFew,a_NoText,a_NoRow])) (Y_Desk_say : FdM (CX2 P w) P w K mg base 37 C_Desk "say" ["self","row"] (fun vs H Q E=>(Ee K C_Desk : Sp) vs H Q E ∨ (ES K a_NoRow C_Desk : Sp) vs H Q E)) (Sg : Fd P w K mg base 33 "_law_pen" ["_law_script","_law_k"] (M0 K)) (Sh : Fd P w K mg base 36 "_law_desk_points" ["_law_pen_here","_law_most"] (EU K)) (Rl : Fd P w K mg base 34 "_law_points_text" ["_law_points"] (DW K)) (Si : Fd P w K mg base 35 "_law_no_row" ["_law_pen_here"] (HQ K)) (Sj : Fd P w K mg base 35 "_law_no_desk" ["_law_pen_here","_law_points"] (FU K)) (RL : Fd P w K mg base 40 "_law_caught" ["_law_pen_here","_law_text_here","_law_row"] (FW K)) (RK : FdI CX0 P w K mg base 38 C_Desk "Desk" ["self","text"] (Dm K C_Desk)) (Rt : FdM CX0 P w K mg base 37 C_Desk "say" ["self","row"] (Ee K C_Desk)) (R7 : mg "range" = none) (hT : P.given.tree = none) :
 AI P w K mg base CX0 41 f fd ["_law_script"] (IW K):=by
 refine F.ok Ci (fun vs H Q E h=>?_) (fun cdv A outer s H vs Q E hr h=>?_)
 ·obtain ⟨_,_,rfl,_⟩:=h; rfl
 refine ⟨_,(@Ad _ _ _ _ _ K _ (@Ap _ _ 1 _ _ _ _ Ci.nd rfl (Or.inl rfl) (@AF _ _ _ _ _ _ _ _ _ _ _ Sg hr rfl (@Aa _ _ _ _ _ (pv 0) (@Aa _ _ _ _ _ Ag Ac (by rfl)) (by rfl)) (by decide) (by decide) (by rfl) (by rfl)) (by rfl) (by first   | exact .inl rfl   | exact .inr rfl   | assumption)) (@Ad _ _ _ _ _ K _ (@Ap _ _ 2 _ _ _ _ Ci.nd rfl (Or.inl rfl) (@AF _ _ _ _ _ _ _ _ _ _ _ Sh hr rfl (@Aa _ _ _ _ _ (pv 1) (@Aa _ _ _ _ _ Ag Ac (by rfl)) (by rfl)) (by decide) (by decide) (by rfl) (by rfl)) (by rfl) (by first   | exact .inl rfl   | exact .inr rfl   | assumption)) (@Ad _ _ _ _ _ K _ (@Ap _ _ 3 _ _ _ _ Ci.nd rfl (Or.inl rfl) (@AF _ _ _ _ _ _ _ _ _ _ _ Rl hr rfl (@Aa _ _ _ _ _ (pv 2) Ac (by rfl)) (by decide) (by decide) (by rfl) (by rfl)) (by rfl) (by first   | exact .inl rfl   | exact .inr rfl   | assumption)) (@Ad _ _ _ _ _ K _ (@Ap _ _ 4 _ _ _ _ Ci.nd rfl (Or.inl rfl) (Mi RK hr rfl Hw (@Aa _ _ _ _ _ (pv 3) Ac (by rfl))) (by rfl) (by first   | exact .inl rfl   | exact .inr rfl   | assumption)) (@Ad _ _ _ _ _ K _ (@CV _ _ _ _ _ _ _ _ K _ PassesOwn.never rfl (@DZ _ _ _ _ _ _ rfl R7 (@Aa _ _ _ _ _ Ag Ac (by rfl)) (by rfl)) (@AK _ _ 5 _ Ci.nd rfl (Or.inl rfl) (by first   | exact .inl rfl   | exact .inr rfl   | assumption)) (@Ad _ _ _ _ _ K _ (@Ap _ _ 6 _ _ _ _ Ci.nd rfl (Or.inl rfl) (@AF _ _ _ _ _ _ _ _ _ _ _ Si hr rfl (@Aa _ _ _ _ _ (pv 1) Ac (by rfl)) (by decide) (by decide) (by rfl) (by rfl)) (by rfl) (by first   | exact .inl rfl   | exact .inr rfl   | assumption)) (@Ad _ _ _ _ _ K _ (@Ap _ _ 7 _ _ _ _ Ci.nd rfl (Or.inl rfl) Cj (by rfl) (by first   | exact .inl rfl   | exact .inr rfl   | assumption)) (@Ad _ _ _ _ _ K _ (@Kp _ _ _ _ _ _ _ _ _ _ 8 7 _ _ _ _ _ _ _ _ _ _ (Mm (pv 4) t_Desk.cl Y_Desk_say hr (@Aa _ _ _ _ _ (pv 6) Ac (by rfl))) H__law_refusal hr rfl rfl c_CurveError Ci.nd rfl rfl rfl rfl rfl rfl (by decide) (by rfl) (by decide) (by decide) (by decide) (by decide) (by rfl)) (@Ah _ _ _ (@AD _ _ _ _ _ _ _ _ K _ _ (@PW.pt _ _ _ (@CU _ _ _ _ _ _ _ (@Aw _ _ _ _ _ _ _ _ Ey (pv 7) Aj (AH _)) (@BY _ _ _ _ (@Aw _ _ _ _ _ _ _ _ Ey (J3 (pv 4) t_Desk.cl Rt hr Hw (@Aa _ _ _ _ _ Aj Ac (by rfl))) (pv 3) (AH _))))) (@Ah _ _ _ (@Az _ _ _ _ Fs)) Ax (by rfl) (by rfl))) (by rfl)) (by rfl)) (by rfl)) (by rfl) (by intro _; rfl)) (@Ad _ _ _ _ _ K _ (@CV _ _ _ _ _ _ _ _ K _ PassesOwn.never rfl (@DZ _ _ _ _ _ _ rfl R7 (@Aa _ _ _ _ _ Ag Ac (by rfl)) (by rfl)) (@AK _ _ 5 _ Ci.nd rfl (Or.inl rfl) (by first   | exact .inl rfl   | exact .inr rfl   | assumption)) (@Ad _ _ _ _ _ K _ (@JT _ _ _ _ _ _ (@AF _ _ _ _ _ _ _ _ _ _ _ Sj hr rfl (@Aa _ _ _ _ _ (pv 1) (@Aa _ _ _ _ _ (pv 2) Ac (by rfl)) (by rfl)) (by decide) (by decide) (by rfl) (by rfl)) (@pgT _ K _ _ _ 2 _ rfl (Cg (@AK _ _ 9 _ Ci.nd rfl (Or.inl rfl) (by first   | exact .inl rfl   | exact .inr rfl   | assumption)) (Cg (@AK _ _ 10 _ Ci.nd rfl (Or.inl rfl) (by first   | exact .inl rfl   | exact .inr rfl   | assumption)) FG)) (by rfl) (by rfl) (by rfl)) (by rfl) (by rfl) (by rfl)) (@Ah _ _ _ (@AD _ _ _ _ _ _ _ _ K _ _ (@Aw _ _ _ _ _ _ _ _ Ey (@AF _ _ _ _ _ _ _ _ _ _ _ RL hr rfl (@Aa _ _ _ _ _ (pv 1) (@Aa _ _ _ _ _ (pv 9) (@Aa _ _ _ _ _ Aj Ac (by rfl)) (by rfl)) (by rfl)) (by decide) (by decide) (by rfl) (by rfl)) (pv 10) (AH _)) (@Ah _ _ _ (@Az _ _ _ _ Fs)) Ax (by rfl) (by rfl))) (by rfl)) (by rfl) (by intro _; rfl)) (@Ah _ _ _ (@Az _ _ _ _ (@E1 _ _ _ _ _ _ _ _ OJ (@AF _ _ _ _ _ _ _ _ _ _ _ RL hr rfl (@Aa _ _ _ _ _ (pv 1) (@Aa _ _ _ _ _ (pv 3) (@Aa _ _ _ _ _ Aj Ac (by rfl)) (by rfl)) (by rfl)) (by decide) (by decide) (by rfl) (by rfl)) Cj (AH _)))) (by rfl)) (by rfl)) (by rfl)) (by rfl)) (by rfl)) (by rfl)),?_⟩
 obtain ⟨a,ns,rfl,hS,h63,q⟩:=h
 refine ⟨_,rfl,a,ns,0,rfl,hS,h63,by decide,by decide,fun p c0 c1 hp=>?_⟩
 have pn : Pen (upd H p (.lst [.int c0,.int c1,.int 0])) p:=.put
 generalize upd H p (.lst [.int c0,.int c1,.int 0]) = H1 at pn ⊢
 refine ⟨_,rfl,p,6,rfl,pn,by decide,by decide,fun r xs pss H2 m2 p2 pok hfg htl=>?_⟩
 have g12:=DT pok.h23
 have hpq:=pok.pq hfg
 refine ⟨_,rfl,r,xs,pss,rfl,pok.S,Bg.pts pok.P,pok.h23,hfg,by lia,fun H3 s3=>?_⟩
 refine ⟨_,rfl,fun o dx ho hdx hod=>?_⟩
 have sd : Ae H3 (upd (upd H3 dx (.own o)) o (.ins C_Desk dx [])):=fun b u e=>by rw [As (Aq e ho),As (Aq e hdx)]; exact e
 refine ⟨o,dx,pss,rfl,Ab,pok.h1,pok.h23,hfg,pok.nd,pok.h12,fun r' xs' H4 bt ed pk'=>⟨rfl,?_⟩⟩
 have s4 : Ae H2 H4:=fun b u e=>bt b u (Aq (s3 _ _ e) ho) (sd _ _ (s3 _ _ e))
 have p4:=p2.sm s4
 have pok4:=pok.same s4
 clear hS m2 s3 ho hdx hod sd bt s4 pn p2
 refine ⟨12,rfl,by decide,by decide,Fj (n:=12) (L10 p o dx r' K r xs pss xs' a fun p o dx r' K r xs pss xs' a _ σ G=>Pen G p ∧ G o = some (dk C_Desk dx r') ∧ Pok K G r xs pss ∧ Pok K G r' xs' pss ∧ ∃ (z5 z6 z7 : Option V),σ = [some (.ref a),some (.ref p),some (.ref r),some (.str (Av pss)),some (.ref o),z5,z6,z7,none,none,none]) ⟨p4,ed,pok4,pk',none,none,none,rfl⟩ ?_ ?_⟩
 ·rintro k σ G hk hR1
  obtain ⟨pG,eG,pkG,pkG',z5,z6,z7,rfl⟩:=hR1
  try clear hR1
  refine ⟨_,rfl,p,rfl,pG,fun x G1 m1 p1 hx=>?_⟩
  have e1:=m1 _ _ (pG.ne eG (fun _ _ _ z=>by cases z)) eG
  have pk1:=pkG.mv pG m1
  have pk1':=pkG'.mv pG m1
  refine ⟨_,rfl,o,dx,_,rfl,e1,rfl,_,rfl,.inr ⟨o,x,rfl,hx,fun G2 s2=>⟨xm_NoRow,fun ea he=>⟨a_NoRow,9,"row",rfl,xr_NoRow,rfl,fun G3 s3=>?_⟩⟩⟩⟩
  have s13:=s2.trans s3
  refine ⟨_,rfl,rfl,_,rfl,?_⟩
  refine Bp (by rw [decide_eq_true (rfl : V.str (Str.ofString "row") = V.str (Str.ofString "row"))] <;> rfl) ?_
  refine ⟨_,rfl,o,dx,_,rfl,s13 _ _ e1,rfl,o,dx,r',xs',pss,rfl,s13 _ _ e1,pk1'.same s13,hfg,fun G4 s4=>⟨_,rfl,rfl,_,rfl,?_⟩⟩
  rw [decide_eq_true (rfl : V.str (Av pss) = V.str (Av pss))]
  have s14:=s13.trans s4
  exact Bk ⟨p1.sm s14,s14 _ _ e1,pk1.same s14,pk1'.same s14,_,_,_,rfl⟩
 rintro σ G hR2
 obtain ⟨pG,eG,pkG,pkG',z5,z6,z7,rfl⟩:=hR2
 try clear hR2
 refine ⟨4,rfl,by decide,by decide,Fj (n:=4) (L9 p K r xs pss a o z6 z7 fun p K r xs pss a o z6 z7 _ σ G=>Pen G p ∧ Pok K G r xs pss ∧ ∃ (z5 z9 z10 : Option V),σ = [some (.ref a),some (.ref p),some (.ref r),some (.str (Av pss)),some (.ref o),z5,z6,z7,none,z9,z10]) ⟨pG,pkG,_,_,_,rfl⟩ ?_ ?_⟩
 ·rintro k σ G hk hR3
  refine Hk hR3 fun pG pkG hz59=>?_
  refine FA hz59 fun z5 z9 z10 hq58=>?_
  clear hz59
  obtain rfl:=hq58
  try clear hR3
  refine ⟨_,rfl,_,rfl,p,r,xs,pss,rfl,pG,pkG,hfg,by lia,fun t x n G1 m1 p1 et hx=>⟨t,_,rfl,SqT.of et,rfl,_,_,rfl,_,_,rfl,rfl,?_⟩⟩
  have pk1:=pkG.mv pG m1
  refine ⟨_,rfl,_,rfl,_,_,rfl,.inl ⟨n,hx,fun G2 s2=>⟨_,rfl,rfl,_,rfl,?_⟩⟩⟩
  exact Bp (by rw [decide_eq_true (rfl : V.str (wdT n) = V.str (wdT n))] <;> rfl) ⟨p1.sm s2,pk1.same s2,_,_,_,rfl⟩
 rintro σ G hR4
 refine Hk hR4 fun pG pkG hz61=>?_
 refine FA hz61 fun z5 z9 z10 hq60=>?_
 clear hz61
 obtain rfl:=hq60
 try clear hR4
 refine ⟨_,rfl,_,rfl,_,_,rfl,.inr ⟨pss,rfl,hpq,fun G2 s2=>?_⟩⟩
 refine ⟨rfl,?_⟩
 show Q (V.bl (decide (V.non = V.non))) G2
 rw [decide_eq_true (rfl : V.non = V.non)]
 exact q _
end
theorem fdm {P : Program} (w : World) {K : SR} {mg : Str → Option Value} (base : Heap) {n : Nat} {x : Str} {ps : List Str} {sp : Sp} {f : Addr} {fd : FuncData} (a : AI P w K mg base CX0 n f fd ps sp) (b : BW K fd ps []) (c : Tw K (.ref f) = true) (d : mg x = some (.ref f)) : Fd P w K mg base n x ps sp:=⟨_,_,a,b,c,d⟩
theorem Pk {l : Ue} {w : World} {K : SR} {h : Heap} {mg : Str → Option Value} {fa f1 f2 f3 f4 f5 f6 f7 f8 f9 f10 f11 f12 f13 f14 f15 f16 f17 f18 f19 f20 f21 f22 f23 f24 f25 f26 f27 f28 f29 f30 f31 f32 f33 f34 f35 f36 : Addr} (hT : l.prog.given.tree = none) (X : K.In h) (G : h.Ns mainGlobals mg) (hfa : mg "law" = some (.ref fa))
 {od1 an1 od2 an2 od3 an3 od4 an4 od5 an5 od6 an6 od7 an7 od8 an8 od9 an9 od10 an10 od11 an11 od12 an12 od13 an13 od14 an14 od15 an15 od16 an16 od17 an17 od18 an18 od19 an19 od20 an20 od21 an21 od22 an22 od23 an23 od24 an24 od25 an25 od26 an26 od27 an27 od28 an28 od29 an29 od30 an30 od31 an31 od32 an32 od33 an33 od34 an34 od35 an35 od36 an36 : Option Addr} {sl1 sl2 sl3 sl4 sl5 sl6 sl7 sl8 sl9 sl10 sl11 sl12 sl13 sl14 sl15 sl16 sl17 sl18 sl19 sl20 sl21 sl22 sl23 sl24 sl25 sl26 sl27 sl28 sl29 sl30 sl31 sl32 sl33 sl34 sl35 sl36 : Array (Option Value)} {oc1 kV1 dc1 pm1 cd1 ct1 oc2 kV2 dc2 pm2 cd2 ct2 oc3 kV3 dc3 pm3 cd3 ct3 oc4 kV4 dc4 pm4 cd4 ct4 oc5 kV5 dc5 pm5 cd5 ct5 oc6 kV6 dc6 pm6 cd6 ct6 oc7 kV7 dc7 pm7 cd7 ct7 oc8 kV8 dc8 pm8 cd8 ct8 oc9 kV9 dc9 pm9 cd9 ct9 oc10 kV10 dc10 pm10 cd10 ct10 oc11 kV11 dc11 pm11 cd11 ct11 oc12 kV12 dc12 pm12 cd12 ct12 oc13 kV13 dc13 pm13 cd13 ct13 oc14 kV14 dc14 pm14 cd14 ct14 oc15 kV15 dc15 pm15 cd15 ct15 oc16 kV16 dc16 pm16 cd16 ct16 oc17 kV17 dc17 pm17 cd17 ct17 oc18 kV18 dc18 pm18 cd18 ct18 oc19 kV19 dc19 pm19 cd19 ct19 oc20 kV20 dc20 pm20 cd20 ct20 oc21 kV21 dc21 pm21 cd21 ct21 oc22 kV22 dc22 pm22 cd22 ct22 oc23 kV23 dc23 pm23 cd23 ct23 oc24 kV24 dc24 pm24 cd24 ct24 oc25 kV25 dc25 pm25 cd25 ct25 oc26 kV26 dc26 pm26 cd26 ct26 oc27 kV27 dc27 pm27 cd27 ct27 oc28 kV28 dc28 pm28 cd28 ct28 oc29 kV29 dc29 pm29 cd29 ct29 oc30 kV30 dc30 pm30 cd30 ct30 oc31 kV31 dc31 pm31 cd31 ct31 oc32 kV32 dc32 pm32 cd32 ct32 oc33 kV33 dc33 pm33 cd33 ct33 oc34 kV34 dc34 pm34 cd34 ct34 oc35 kV35 dc35 pm35 cd35 ct35 oc36 kV36 dc36 pm36 cd36 ct36 : Value}
 {C_Desk : Addr} (aC_Desk : Uz K mainGlobals "Desk" = some (some (.ref C_Desk)))
 (a1 : Uz K mainGlobals "_law_pen" = some (some (.ref f1))) (l1 : K.lookup f1 = some ⟨oc1,od1,.func (U6 "_law_pen" "_law_pen" (Ay (top 132)) (Au (top 132)) (Af (top 132)) .none kV1 dc1 pm1 an1 cd1 ct1),sl1⟩) (c1 : U7 K cd1 "_law_pen" = true) (k1 : Tw K (.ref f1) = true)
 (a2 : Uz K mainGlobals "_law_draw" = some (some (.ref f2))) (l2 : K.lookup f2 = some ⟨oc2,od2,.func (U6 "_law_draw" "_law_draw" (Ay (top 133)) (Au (top 133)) (Af (top 133)) .none kV2 dc2 pm2 an2 cd2 ct2),sl2⟩) (c2 : U7 K cd2 "_law_draw" = true) (k2 : Tw K (.ref f2) = true)
 (a3 : Uz K mainGlobals "_law_lowest" = some (some (.ref f3))) (l3 : K.lookup f3 = some ⟨oc3,od3,.func (U6 "_law_lowest" "_law_lowest" (Ay (top 134)) (Au (top 134)) (Af (top 134)) .none kV3 dc3 pm3 an3 cd3 ct3),sl3⟩) (c3 : U7 K cd3 "_law_lowest" = true) (k3 : Tw K (.ref f3) = true)
 (a4 : Uz K mainGlobals "_law_plus" = some (some (.ref f4))) (l4 : K.lookup f4 = some ⟨oc4,od4,.func (U6 "_law_plus" "_law_plus" (Ay (top 135)) (Au (top 135)) (Af (top 135)) .none kV4 dc4 pm4 an4 cd4 ct4),sl4⟩) (c4 : U7 K cd4 "_law_plus" = true) (k4 : Tw K (.ref f4) = true)
 (a5 : Uz K mainGlobals "_law_fresh" = some (some (.ref f5))) (l5 : K.lookup f5 = some ⟨oc5,od5,.func (U6 "_law_fresh" "_law_fresh" (Ay (top 140)) (Au (top 140)) (Af (top 140)) .none kV5 dc5 pm5 an5 cd5 ct5),sl5⟩) (c5 : U7 K cd5 "_law_fresh" = true) (k5 : Tw K (.ref f5) = true)
 (a6 : Uz K mainGlobals "_law_little" = some (some (.ref f6))) (l6 : K.lookup f6 = some ⟨oc6,od6,.func (U6 "_law_little" "_law_little" (Ay (top 139)) (Au (top 139)) (Af (top 139)) .none kV6 dc6 pm6 an6 cd6 ct6),sl6⟩) (c6 : U7 K cd6 "_law_little" = true) (k6 : Tw K (.ref f6) = true)
 (a7 : Uz K mainGlobals "_law_desk_points" = some (some (.ref f7))) (l7 : K.lookup f7 = some ⟨oc7,od7,.func (U6 "_law_desk_points" "_law_desk_points" (Ay (top 141)) (Au (top 141)) (Af (top 141)) .none kV7 dc7 pm7 an7 cd7 ct7),sl7⟩) (c7 : U7 K cd7 "_law_desk_points" = true) (k7 : Tw K (.ref f7) = true)
 (a8 : Uz K mainGlobals "_law_text" = some (some (.ref f8))) (l8 : K.lookup f8 = some ⟨oc8,od8,.func (U6 "_law_text" "_law_text" (Ay (top 136)) (Au (top 136)) (Af (top 136)) .none kV8 dc8 pm8 an8 cd8 ct8),sl8⟩) (c8 : U7 K cd8 "_law_text" = true) (k8 : Tw K (.ref f8) = true)
 (a9 : Uz K mainGlobals "_law_points_text" = some (some (.ref f9))) (l9 : K.lookup f9 = some ⟨oc9,od9,.func (U6 "_law_points_text" "_law_points_text" (Ay (top 138)) (Au (top 138)) (Af (top 138)) .none kV9 dc9 pm9 an9 cd9 ct9),sl9⟩) (c9 : U7 K cd9 "_law_points_text" = true) (k9 : Tw K (.ref f9) = true)
 (a10 : Uz K mainGlobals "_law_no_number" = some (some (.ref f10))) (l10 : K.lookup f10 = some ⟨oc10,od10,.func (U6 "_law_no_number" "_law_no_number" (Ay (top 143)) (Au (top 143)) (Af (top 143)) .none kV10 dc10 pm10 an10 cd10 ct10),sl10⟩) (c10 : U7 K cd10 "_law_no_number" = true) (k10 : Tw K (.ref f10) = true)
 (a11 : Uz K mainGlobals "_law_no_row" = some (some (.ref f11))) (l11 : K.lookup f11 = some ⟨oc11,od11,.func (U6 "_law_no_row" "_law_no_row" (Ay (top 144)) (Au (top 144)) (Af (top 144)) .none kV11 dc11 pm11 an11 cd11 ct11),sl11⟩) (c11 : U7 K cd11 "_law_no_row" = true) (k11 : Tw K (.ref f11) = true)
 (a12 : Uz K mainGlobals "_law_no_desk" = some (some (.ref f12))) (l12 : K.lookup f12 = some ⟨oc12,od12,.func (U6 "_law_no_desk" "_law_no_desk" (Ay (top 146)) (Au (top 146)) (Af (top 146)) .none kV12 dc12 pm12 an12 cd12 ct12),sl12⟩) (c12 : U7 K cd12 "_law_no_desk" = true) (k12 : Tw K (.ref f12) = true)
 (a13 : Uz K mainGlobals "_law_refusal" = some (some (.ref f13))) (l13 : K.lookup f13 = some ⟨oc13,od13,.func (U6 "_law_refusal" "_law_refusal" (Ay (top 142)) (Au (top 142)) (Af (top 142)) .none kV13 dc13 pm13 an13 cd13 ct13),sl13⟩) (c13 : U7 K cd13 "_law_refusal" = true) (k13 : Tw K (.ref f13) = true)
 (a14 : Uz K mainGlobals "check_text" = some (some (.ref f14))) (l14 : K.lookup f14 = some ⟨oc14,od14,.func (U6 "check_text" "check_text" (Ay (top 100)) (Au (top 100)) (Af (top 100)) .none kV14 dc14 pm14 an14 cd14 ct14),sl14⟩) (c14 : U7 K cd14 "check_text" = true) (k14 : Tw K (.ref f14) = true)
 (a15 : Uz K mainGlobals "are_unlike" = some (some (.ref f15))) (l15 : K.lookup f15 = some ⟨oc15,od15,.func (U6 "are_unlike" "are_unlike" (Ay (top 49)) (Au (top 49)) (Af (top 49)) .none kV15 dc15 pm15 an15 cd15 ct15),sl15⟩) (c15 : U7 K cd15 "are_unlike" = true) (k15 : Tw K (.ref f15) = true)
 (a16 : Uz K mainGlobals "told_in" = some (some (.ref f16))) (l16 : K.lookup f16 = some ⟨oc16,od16,.func (U6 "told_in" "told_in" (Ay (top 52)) (Au (top 52)) (Af (top 52)) .none kV16 dc16 pm16 an16 cd16 ct16),sl16⟩) (c16 : U7 K cd16 "told_in" = true) (k16 : Tw K (.ref f16) = true)
 (a17 : Uz K mainGlobals "is_whole" = some (some (.ref f17))) (l17 : K.lookup f17 = some ⟨oc17,od17,.func (U6 "is_whole" "is_whole" (Ay (top 13)) (Au (top 13)) (Af (top 13)) .none kV17 dc17 pm17 an17 cd17 ct17),sl17⟩) (c17 : U7 K cd17 "is_whole" = true) (k17 : Tw K (.ref f17) = true)
 (a18 : Uz K mainGlobals "common_measure" = some (some (.ref f18))) (l18 : K.lookup f18 = some ⟨oc18,od18,.func (U6 "common_measure" "common_measure" (Ay (top 14)) (Au (top 14)) (Af (top 14)) .none kV18 dc18 pm18 an18 cd18 ct18),sl18⟩) (c18 : U7 K cd18 "common_measure" = true) (k18 : Tw K (.ref f18) = true)
 (a19 : Uz K mainGlobals "is_number" = some (some (.ref f19))) (l19 : K.lookup f19 = some ⟨oc19,od19,.func (U6 "is_number" "is_number" (Ay (top 15)) (Au (top 15)) (Af (top 15)) .none kV19 dc19 pm19 an19 cd19 ct19),sl19⟩) (c19 : U7 K cd19 "is_number" = true) (k19 : Tw K (.ref f19) = true)
 (a20 : Uz K mainGlobals "is_point" = some (some (.ref f20))) (l20 : K.lookup f20 = some ⟨oc20,od20,.func (U6 "is_point" "is_point" (Ay (top 48)) (Au (top 48)) (Af (top 48)) .none kV20 dc20 pm20 an20 cd20 ct20),sl20⟩) (c20 : U7 K cd20 "is_point" = true) (k20 : Tw K (.ref f20) = true)
 (a21 : Uz K mainGlobals "points_of" = some (some (.ref f21))) (l21 : K.lookup f21 = some ⟨oc21,od21,.func (U6 "points_of" "points_of" (Ay (top 51)) (Au (top 51)) (Af (top 51)) .none kV21 dc21 pm21 an21 cd21 ct21),sl21⟩) (c21 : U7 K cd21 "points_of" = true) (k21 : Tw K (.ref f21) = true)
 (a22 : Uz K mainGlobals "are_figures" = some (some (.ref f22))) (l22 : K.lookup f22 = some ⟨oc22,od22,.func (U6 "are_figures" "are_figures" (Ay (top 97)) (Au (top 97)) (Af (top 97)) .none kV22 dc22 pm22 an22 cd22 ct22),sl22⟩) (c22 : U7 K cd22 "are_figures" = true) (k22 : Tw K (.ref f22) = true)
 (a23 : Uz K mainGlobals "is_top" = some (some (.ref f23))) (l23 : K.lookup f23 = some ⟨oc23,od23,.func (U6 "is_top" "is_top" (Ay (top 98)) (Au (top 98)) (Af (top 98)) .none kV23 dc23 pm23 an23 cd23 ct23),sl23⟩) (c23 : U7 K cd23 "is_top" = true) (k23 : Tw K (.ref f23) = true)
 (a24 : Uz K mainGlobals "number_in" = some (some (.ref f24))) (l24 : K.lookup f24 = some ⟨oc24,od24,.func (U6 "number_in" "number_in" (Ay (top 99)) (Au (top 99)) (Af (top 99)) .none kV24 dc24 pm24 an24 cd24 ct24),sl24⟩) (c24 : U7 K cd24 "number_in" = true) (k24 : Tw K (.ref f24) = true)
 (a25 : Uz K mainGlobals "numbers_in" = some (some (.ref f25))) (l25 : K.lookup f25 = some ⟨oc25,od25,.func (U6 "numbers_in" "numbers_in" (Ay (top 101)) (Au (top 101)) (Af (top 101)) .none kV25 dc25 pm25 an25 cd25 ct25),sl25⟩) (c25 : U7 K cd25 "numbers_in" = true) (k25 : Tw K (.ref f25) = true)
 (a26 : Uz K mainGlobals "read_points_of" = some (some (.ref f26))) (l26 : K.lookup f26 = some ⟨oc26,od26,.func (U6 "read_points_of" "read_points_of" (Ay (top 102)) (Au (top 102)) (Af (top 102)) .none kV26 dc26 pm26 an26 cd26 ct26),sl26⟩) (c26 : U7 K cd26 "read_points_of" = true) (k26 : Tw K (.ref f26) = true)
 (a27 : Ti K (.ref C_Desk) "__init__" = some (some (.ref f27))) (i27 : Tn K (.ref f27) = true) (l27 : K.lookup f27 = some ⟨oc27,od27,.func (U6 "__init__" "Desk.__init__" (Ay (BI (top 130) 0)) (Au (BI (top 130) 0)) (Af (BI (top 130) 0)) .none kV27 dc27 pm27 an27 cd27 ct27),sl27⟩) (c27 : U7 K cd27 "Desk.__init__" = true) (k27 : Tw K (.ref f27) = true)
 (a28 : Uz K mainGlobals "check_wholes" = some (some (.ref f28))) (l28 : K.lookup f28 = some ⟨oc28,od28,.func (U6 "check_wholes" "check_wholes" (Ay (top 128)) (Au (top 128)) (Af (top 128)) .none kV28 dc28 pm28 an28 cd28 ct28),sl28⟩) (c28 : U7 K cd28 "check_wholes" = true) (k28 : Tw K (.ref f28) = true)
 (a29 : Uz K mainGlobals "numbers_of_row" = some (some (.ref f29))) (l29 : K.lookup f29 = some ⟨oc29,od29,.func (U6 "numbers_of_row" "numbers_of_row" (Ay (top 129)) (Au (top 129)) (Af (top 129)) .none kV29 dc29 pm29 an29 cd29 ct29),sl29⟩) (c29 : U7 K cd29 "numbers_of_row" = true) (k29 : Tw K (.ref f29) = true)
 (a30 : Uz K mainGlobals "show_number" = some (some (.ref f30))) (l30 : K.lookup f30 = some ⟨oc30,od30,.func (U6 "show_number" "show_number" (Ay (top 92)) (Au (top 92)) (Af (top 92)) .none kV30 dc30 pm30 an30 cd30 ct30),sl30⟩) (c30 : U7 K cd30 "show_number" = true) (k30 : Tw K (.ref f30) = true)
 (a31 : Uz K mainGlobals "show_point" = some (some (.ref f31))) (l31 : K.lookup f31 = some ⟨oc31,od31,.func (U6 "show_point" "show_point" (Ay (top 95)) (Au (top 95)) (Af (top 95)) .none kV31 dc31 pm31 an31 cd31 ct31),sl31⟩) (c31 : U7 K cd31 "show_point" = true) (k31 : Tw K (.ref f31) = true)
 (a32 : Uz K mainGlobals "show_points" = some (some (.ref f32))) (l32 : K.lookup f32 = some ⟨oc32,od32,.func (U6 "show_points" "show_points" (Ay (top 96)) (Au (top 96)) (Af (top 96)) .none kV32 dc32 pm32 an32 cd32 ct32),sl32⟩) (c32 : U7 K cd32 "show_points" = true) (k32 : Tw K (.ref f32) = true)
 (a33 : Uz K mainGlobals "points_row" = some (some (.ref f33))) (l33 : K.lookup f33 = some ⟨oc33,od33,.func (U6 "points_row" "points_row" (Ay (top 114)) (Au (top 114)) (Af (top 114)) .none kV33 dc33 pm33 an33 cd33 ct33),sl33⟩) (c33 : U7 K cd33 "points_row" = true) (k33 : Tw K (.ref f33) = true)
 (a34 : Ti K (.ref C_Desk) "say" = some (some (.ref f34))) (i34 : Tn K (.ref f34) = true) (l34 : K.lookup f34 = some ⟨oc34,od34,.func (U6 "say" "Desk.say" (Ay (BI (top 130) 1)) (Au (BI (top 130) 1)) (Af (BI (top 130) 1)) .none kV34 dc34 pm34 an34 cd34 ct34),sl34⟩) (c34 : U7 K cd34 "Desk.say" = true) (k34 : Tw K (.ref f34) = true)
 (a35 : Uz K mainGlobals "_law_caught" = some (some (.ref f35))) (l35 : K.lookup f35 = some ⟨oc35,od35,.func (U6 "_law_caught" "_law_caught" (Ay (top 145)) (Au (top 145)) (Af (top 145)) .none kV35 dc35 pm35 an35 cd35 ct35),sl35⟩) (c35 : U7 K cd35 "_law_caught" = true) (k35 : Tw K (.ref f35) = true)
 (a36 : Uz K mainGlobals "law" = some (some (.ref f36))) (l36 : K.lookup f36 = some ⟨oc36,od36,.func (U6 "law" "law" (Ay (top 147)) (Au (top 147)) (Af (top 147)) .none kV36 dc36 pm36 an36 cd36 ct36),sl36⟩) (c36 : U7 K cd36 "law" = true) (k36 : Tw K (.ref f36) = true)
 (z_len : Uz K mainGlobals "len" = some none)
 (z_abs : Uz K mainGlobals "abs" = some none)
 (z_tuple : Uz K mainGlobals "tuple" = some none)
 (z_str : Uz K mainGlobals "str" = some none)
 (z_range : Uz K mainGlobals "range" = some none)
 (z_isinstance : Uz K mainGlobals "isinstance" = some none)
 (z_ValueError : Uz K mainGlobals "ValueError" = some none)
 (z_set : Uz K mainGlobals "set" = some none)
 (z_int : Uz K mainGlobals "int" = some none)
 (z_bool : Uz K mainGlobals "bool" = some none)
 (z_all : Uz K mainGlobals "all" = some none)
 (z_list : Uz K mainGlobals "list" = some none)
 (z_zip : Uz K mainGlobals "zip" = some none)
 {t_MOST_TOLD : Tok} (x_MOST_TOLD : Uz K mainGlobals "MOST_TOLD" = some (some (.int 12 t_MOST_TOLD)))
 {t_FIGURES : Tok} (x_FIGURES : Uz K mainGlobals "FIGURES" = some (some (.str "0123456789" t_FIGURES)))
 {t_SIX : Tok} (x_SIX : Uz K mainGlobals "SIX" = some (some (.int 6 t_SIX)))
 {a_CurveError : Addr} (nx_CurveError : Uz K mainGlobals "CurveError" = some (some (.ref a_CurveError)))
 {a_TooMany : Addr} (nx_TooMany : Uz K mainGlobals "TooMany" = some (some (.ref a_TooMany)))
 {a_NoPoints : Addr} (nx_NoPoints : Uz K mainGlobals "NoPoints" = some (some (.ref a_NoPoints)))
 {a_NoPoint : Addr} (nx_NoPoint : Uz K mainGlobals "NoPoint" = some (some (.ref a_NoPoint)))
 {a_NoNumber : Addr} (nx_NoNumber : Uz K mainGlobals "NoNumber" = some (some (.ref a_NoNumber)))
 {a_NoCurve : Addr} (nx_NoCurve : Uz K mainGlobals "NoCurve" = some (some (.ref a_NoCurve)))
 {a_NoStretch : Addr} (nx_NoStretch : Uz K mainGlobals "NoStretch" = some (some (.ref a_NoStretch)))
 {a_TooDeep : Addr} (nx_TooDeep : Uz K mainGlobals "TooDeep" = some (some (.ref a_TooDeep)))
 {a_TooFew : Addr} (nx_TooFew : Uz K mainGlobals "TooFew" = some (some (.ref a_TooFew)))
 {a_NoText : Addr} (nx_NoText : Uz K mainGlobals "NoText" = some (some (.ref a_NoText)))
 {a_NoRow : Addr} (nx_NoRow : Uz K mainGlobals "NoRow" = some (some (.ref a_NoRow)))
 {bm0TooMany N0TooMany nm0TooMany q0TooMany bs0TooMany hd0TooMany sn0TooMany sub0TooMany ab0TooMany col0TooMany dd0TooMany j0TooMany j1TooMany j2TooMany j3TooMany j5TooMany} (xl_TooMany : K.lookup a_TooMany = some (PySem.excClassObj nm0TooMany q0TooMany a_TooMany N0TooMany bs0TooMany bm0TooMany hd0TooMany sn0TooMany sub0TooMany ab0TooMany col0TooMany dd0TooMany j0TooMany j1TooMany j2TooMany j3TooMany j5TooMany "ValueError.__new__"))
 (xex_TooMany : UA K a_TooMany [.type "ValueError",.type "Exception",.type "BaseException",.type "object"] "ValueError.__new__" = true)
 (xga_TooMany : Ti K (.ref a_TooMany) "__getattribute__" = some (some (.builtin "BaseException.__getattribute__"))) (xgt_TooMany : Ti K (.ref a_TooMany) "__getattr__" = some none) (xca_TooMany : Ti K (.ref a_TooMany) "__class__" = some (some (.builtin "object.__class__")))
 (xob_TooMany : TC K a_TooMany (.type "object") = some true) (xbe_TooMany : TC K a_TooMany (.type "BaseException") = some true)
 (xm_TooMany : UU K (.ref a_TooMany) (.ref a_CurveError) = some true) (xv_TooMany : TF K (.ref a_TooMany) (.type "ValueError") = some true)
 (xk_TooMany_0 : TF K (.ref a_TooMany) (.ref a_TooMany) = some true)
 (xk_TooMany_1 : TF K (.ref a_TooMany) (.ref a_NoPoints) = some false)
 (xk_TooMany_2 : TF K (.ref a_TooMany) (.ref a_NoPoint) = some false)
 (xk_TooMany_3 : TF K (.ref a_TooMany) (.ref a_NoNumber) = some false)
 (xk_TooMany_4 : TF K (.ref a_TooMany) (.ref a_NoCurve) = some false)
 (xk_TooMany_5 : TF K (.ref a_TooMany) (.ref a_NoStretch) = some false)
 (xk_TooMany_6 : TF K (.ref a_TooMany) (.ref a_TooDeep) = some false)
 (xk_TooMany_7 : TF K (.ref a_TooMany) (.ref a_TooFew) = some false)
 (xk_TooMany_8 : TF K (.ref a_TooMany) (.ref a_NoText) = some false)
 (xk_TooMany_9 : TF K (.ref a_TooMany) (.ref a_NoRow) = some false)
 {bm0NoPoints N0NoPoints nm0NoPoints q0NoPoints bs0NoPoints hd0NoPoints sn0NoPoints sub0NoPoints ab0NoPoints col0NoPoints dd0NoPoints j0NoPoints j1NoPoints j2NoPoints j3NoPoints j5NoPoints} (xl_NoPoints : K.lookup a_NoPoints = some (PySem.excClassObj nm0NoPoints q0NoPoints a_NoPoints N0NoPoints bs0NoPoints bm0NoPoints hd0NoPoints sn0NoPoints sub0NoPoints ab0NoPoints col0NoPoints dd0NoPoints j0NoPoints j1NoPoints j2NoPoints j3NoPoints j5NoPoints "ValueError.__new__"))
 (xex_NoPoints : UA K a_NoPoints [.type "ValueError",.type "Exception",.type "BaseException",.type "object"] "ValueError.__new__" = true)
 (xga_NoPoints : Ti K (.ref a_NoPoints) "__getattribute__" = some (some (.builtin "BaseException.__getattribute__"))) (xgt_NoPoints : Ti K (.ref a_NoPoints) "__getattr__" = some none) (xca_NoPoints : Ti K (.ref a_NoPoints) "__class__" = some (some (.builtin "object.__class__")))
 (xob_NoPoints : TC K a_NoPoints (.type "object") = some true) (xbe_NoPoints : TC K a_NoPoints (.type "BaseException") = some true)
 (xm_NoPoints : UU K (.ref a_NoPoints) (.ref a_CurveError) = some true) (xv_NoPoints : TF K (.ref a_NoPoints) (.type "ValueError") = some true)
 (xk_NoPoints_0 : TF K (.ref a_NoPoints) (.ref a_TooMany) = some false)
 (xk_NoPoints_1 : TF K (.ref a_NoPoints) (.ref a_NoPoints) = some true)
 (xk_NoPoints_2 : TF K (.ref a_NoPoints) (.ref a_NoPoint) = some false)
 (xk_NoPoints_3 : TF K (.ref a_NoPoints) (.ref a_NoNumber) = some false)
 (xk_NoPoints_4 : TF K (.ref a_NoPoints) (.ref a_NoCurve) = some false)
 (xk_NoPoints_5 : TF K (.ref a_NoPoints) (.ref a_NoStretch) = some false)
 (xk_NoPoints_6 : TF K (.ref a_NoPoints) (.ref a_TooDeep) = some false)
 (xk_NoPoints_7 : TF K (.ref a_NoPoints) (.ref a_TooFew) = some false)
 (xk_NoPoints_8 : TF K (.ref a_NoPoints) (.ref a_NoText) = some false)
 (xk_NoPoints_9 : TF K (.ref a_NoPoints) (.ref a_NoRow) = some false)
 {bm0NoText N0NoText nm0NoText q0NoText bs0NoText hd0NoText sn0NoText sub0NoText ab0NoText col0NoText dd0NoText j0NoText j1NoText j2NoText j3NoText j5NoText} (xl_NoText : K.lookup a_NoText = some (PySem.excClassObj nm0NoText q0NoText a_NoText N0NoText bs0NoText bm0NoText hd0NoText sn0NoText sub0NoText ab0NoText col0NoText dd0NoText j0NoText j1NoText j2NoText j3NoText j5NoText "ValueError.__new__"))
 (xex_NoText : UA K a_NoText [.type "ValueError",.type "Exception",.type "BaseException",.type "object"] "ValueError.__new__" = true)
 (xga_NoText : Ti K (.ref a_NoText) "__getattribute__" = some (some (.builtin "BaseException.__getattribute__"))) (xgt_NoText : Ti K (.ref a_NoText) "__getattr__" = some none) (xca_NoText : Ti K (.ref a_NoText) "__class__" = some (some (.builtin "object.__class__")))
 (xob_NoText : TC K a_NoText (.type "object") = some true) (xbe_NoText : TC K a_NoText (.type "BaseException") = some true)
 (xm_NoText : UU K (.ref a_NoText) (.ref a_CurveError) = some true) (xv_NoText : TF K (.ref a_NoText) (.type "ValueError") = some true)
 (xk_NoText_0 : TF K (.ref a_NoText) (.ref a_TooMany) = some false)
 (xk_NoText_1 : TF K (.ref a_NoText) (.ref a_NoPoints) = some false)
 (xk_NoText_2 : TF K (.ref a_NoText) (.ref a_NoPoint) = some false)
 (xk_NoText_3 : TF K (.ref a_NoText) (.ref a_NoNumber) = some false)
 (xk_NoText_4 : TF K (.ref a_NoText) (.ref a_NoCurve) = some false)
 (xk_NoText_5 : TF K (.ref a_NoText) (.ref a_NoStretch) = some false)
 (xk_NoText_6 : TF K (.ref a_NoText) (.ref a_TooDeep) = some false)
 (xk_NoText_7 : TF K (.ref a_NoText) (.ref a_TooFew) = some false)
 (xk_NoText_8 : TF K (.ref a_NoText) (.ref a_NoText) = some true)
 (xk_NoText_9 : TF K (.ref a_NoText) (.ref a_NoRow) = some false)
 {bm0NoRow N0NoRow nm0NoRow q0NoRow bs0NoRow hd0NoRow sn0NoRow sub0NoRow ab0NoRow col0NoRow dd0NoRow j0NoRow j1NoRow j2NoRow j3NoRow j5NoRow} (xl_NoRow : K.lookup a_NoRow = some (PySem.excClassObj nm0NoRow q0NoRow a_NoRow N0NoRow bs0NoRow bm0NoRow hd0NoRow sn0NoRow sub0NoRow ab0NoRow col0NoRow dd0NoRow j0NoRow j1NoRow j2NoRow j3NoRow j5NoRow "ValueError.__new__"))
 (xex_NoRow : UA K a_NoRow [.type "ValueError",.type "Exception",.type "BaseException",.type "object"] "ValueError.__new__" = true)
 (xga_NoRow : Ti K (.ref a_NoRow) "__getattribute__" = some (some (.builtin "BaseException.__getattribute__"))) (xgt_NoRow : Ti K (.ref a_NoRow) "__getattr__" = some none) (xca_NoRow : Ti K (.ref a_NoRow) "__class__" = some (some (.builtin "object.__class__")))
 (xob_NoRow : TC K a_NoRow (.type "object") = some true) (xbe_NoRow : TC K a_NoRow (.type "BaseException") = some true)
 (xm_NoRow : UU K (.ref a_NoRow) (.ref a_CurveError) = some true) (xv_NoRow : TF K (.ref a_NoRow) (.type "ValueError") = some true)
 (xk_NoRow_0 : TF K (.ref a_NoRow) (.ref a_TooMany) = some false)
 (xk_NoRow_1 : TF K (.ref a_NoRow) (.ref a_NoPoints) = some false)
 (xk_NoRow_2 : TF K (.ref a_NoRow) (.ref a_NoPoint) = some false)
 (xk_NoRow_3 : TF K (.ref a_NoRow) (.ref a_NoNumber) = some false)
 (xk_NoRow_4 : TF K (.ref a_NoRow) (.ref a_NoCurve) = some false)
 (xk_NoRow_5 : TF K (.ref a_NoRow) (.ref a_NoStretch) = some false)
 (xk_NoRow_6 : TF K (.ref a_NoRow) (.ref a_TooDeep) = some false)
 (xk_NoRow_7 : TF K (.ref a_NoRow) (.ref a_TooFew) = some false)
 (xk_NoRow_8 : TF K (.ref a_NoRow) (.ref a_NoText) = some false)
 (xk_NoRow_9 : TF K (.ref a_NoRow) (.ref a_NoRow) = some true)
 (xgg : Tv K (.builtin "object.__class__") "__get__" = some (some (.builtin "getset_descriptor.__get__"))) (xtk : PySem.W.takesIn K (.builtin "object.__class__") = some true)
 (pg_Desk : Tf K C_Desk Str.empty = true)
 (hd_Desk : Th K C_Desk = true)
 (po_Desk : To K C_Desk = true)
 (sa_Desk : Ti K (.ref C_Desk) "__setattr__" = some (some (.builtin "object.__setattr__")))
 (mk_Desk : Tr K C_Desk = true)
 (kc_Desk : Tw K (.ref C_Desk) = true)
 (na_points_Desk : Ti K (.ref C_Desk) "points" = some none)
 {a_COUNTS : Addr} (nx_COUNTS : Uz K mainGlobals "COUNTS" = some (some (.ref a_COUNTS)))
 {tk_COUNTS_0 : Tok} {g_COUNTS_0 : Addr}
 {tk_COUNTS_1 : Tok} {g_COUNTS_1 : Addr}
 {tk_COUNTS_2 : Tok} {g_COUNTS_2 : Addr}
 {tk_COUNTS_3 : Tok} {g_COUNTS_3 : Addr}
 {tk_COUNTS_4 : Tok} {g_COUNTS_4 : Addr}
 {tk_COUNTS_5 : Tok} {g_COUNTS_5 : Addr}
 {tk_COUNTS_6 : Tok} {g_COUNTS_6 : Addr}
 {tk_COUNTS_7 : Tok} {g_COUNTS_7 : Addr}
 {tk_COUNTS_8 : Tok} {g_COUNTS_8 : Addr}
 {tk_COUNTS_9 : Tok} {g_COUNTS_9 : Addr}
 {tk_COUNTS_10 : Tok} {g_COUNTS_10 : Addr}
 {tk_COUNTS_11 : Tok} {g_COUNTS_11 : Addr}
 {tk_COUNTS_12 : Tok} {g_COUNTS_12 : Addr}
 {tk_COUNTS_13 : Tok} {g_COUNTS_13 : Addr}
 {tk_COUNTS_14 : Tok} {g_COUNTS_14 : Addr}
 {n_COUNTS : Nat} (yd_COUNTS : K.lookup a_COUNTS = some ⟨.type "dict",none,.dict (([("put",tk_COUNTS_0,g_COUNTS_0),("take",tk_COUNTS_1,g_COUNTS_1),("height",tk_COUNTS_2,g_COUNTS_2),("slope",tk_COUNTS_3,g_COUNTS_3),("noslope",tk_COUNTS_4,g_COUNTS_4),("points",tk_COUNTS_5,g_COUNTS_5),("curve",tk_COUNTS_6,g_COUNTS_6),("steps",tk_COUNTS_7,g_COUNTS_7),("at",tk_COUNTS_8,g_COUNTS_8),("slopeat",tk_COUNTS_9,g_COUNTS_9),("misses",tk_COUNTS_10,g_COUNTS_10),("bounds",tk_COUNTS_11,g_COUNTS_11),("noughts",tk_COUNTS_12,g_COUNTS_12),("wrong",tk_COUNTS_13,g_COUNTS_13),("quotient",tk_COUNTS_14,g_COUNTS_14)] : List (Str × Tok × Addr)).map (HA w)).toArray n_COUNTS,#[]⟩) (hs_COUNTS : (a_COUNTS == sysModules) = false)
 {o_COUNTS_0 : Obj} {v_COUNTS_0 : Array Value} {n_COUNTS_0 : Nat} (y_COUNTS_0 : K.lookup g_COUNTS_0 = some o_COUNTS_0) (w_COUNTS_0 : o_COUNTS_0.cls = .type "tuple") (d_COUNTS_0 : o_COUNTS_0.data = .seq v_COUNTS_0 n_COUNTS_0) (e_COUNTS_0 : v_COUNTS_0.toList.map CK = [some (.int 2),some (.int 3)])
 {o_COUNTS_1 : Obj} {v_COUNTS_1 : Array Value} {n_COUNTS_1 : Nat} (y_COUNTS_1 : K.lookup g_COUNTS_1 = some o_COUNTS_1) (w_COUNTS_1 : o_COUNTS_1.cls = .type "tuple") (d_COUNTS_1 : o_COUNTS_1.data = .seq v_COUNTS_1 n_COUNTS_1) (e_COUNTS_1 : v_COUNTS_1.toList.map CK = [some (.int 1),some (.int 1)])
 {o_COUNTS_2 : Obj} {v_COUNTS_2 : Array Value} {n_COUNTS_2 : Nat} (y_COUNTS_2 : K.lookup g_COUNTS_2 = some o_COUNTS_2) (w_COUNTS_2 : o_COUNTS_2.cls = .type "tuple") (d_COUNTS_2 : o_COUNTS_2.data = .seq v_COUNTS_2 n_COUNTS_2) (e_COUNTS_2 : v_COUNTS_2.toList.map CK = [some (.int 2),some (.int 2)])
 {o_COUNTS_3 : Obj} {v_COUNTS_3 : Array Value} {n_COUNTS_3 : Nat} (y_COUNTS_3 : K.lookup g_COUNTS_3 = some o_COUNTS_3) (w_COUNTS_3 : o_COUNTS_3.cls = .type "tuple") (d_COUNTS_3 : o_COUNTS_3.data = .seq v_COUNTS_3 n_COUNTS_3) (e_COUNTS_3 : v_COUNTS_3.toList.map CK = [some (.int 2),some (.int 2)])
 {o_COUNTS_4 : Obj} {v_COUNTS_4 : Array Value} {n_COUNTS_4 : Nat} (y_COUNTS_4 : K.lookup g_COUNTS_4 = some o_COUNTS_4) (w_COUNTS_4 : o_COUNTS_4.cls = .type "tuple") (d_COUNTS_4 : o_COUNTS_4.data = .seq v_COUNTS_4 n_COUNTS_4) (e_COUNTS_4 : v_COUNTS_4.toList.map CK = [some (.int 1),some (.int 1)])
 {o_COUNTS_5 : Obj} {v_COUNTS_5 : Array Value} {n_COUNTS_5 : Nat} (y_COUNTS_5 : K.lookup g_COUNTS_5 = some o_COUNTS_5) (w_COUNTS_5 : o_COUNTS_5.cls = .type "tuple") (d_COUNTS_5 : o_COUNTS_5.data = .seq v_COUNTS_5 n_COUNTS_5) (e_COUNTS_5 : v_COUNTS_5.toList.map CK = [some (.int 0),some (.int 0)])
 {o_COUNTS_6 : Obj} {v_COUNTS_6 : Array Value} {n_COUNTS_6 : Nat} (y_COUNTS_6 : K.lookup g_COUNTS_6 = some o_COUNTS_6) (w_COUNTS_6 : o_COUNTS_6.cls = .type "tuple") (d_COUNTS_6 : o_COUNTS_6.data = .seq v_COUNTS_6 n_COUNTS_6) (e_COUNTS_6 : v_COUNTS_6.toList.map CK = [some (.int 0),some (.int 0)])
 {o_COUNTS_7 : Obj} {v_COUNTS_7 : Array Value} {n_COUNTS_7 : Nat} (y_COUNTS_7 : K.lookup g_COUNTS_7 = some o_COUNTS_7) (w_COUNTS_7 : o_COUNTS_7.cls = .type "tuple") (d_COUNTS_7 : o_COUNTS_7.data = .seq v_COUNTS_7 n_COUNTS_7) (e_COUNTS_7 : v_COUNTS_7.toList.map CK = [some (.int 0),some (.int 0)])
 {o_COUNTS_8 : Obj} {v_COUNTS_8 : Array Value} {n_COUNTS_8 : Nat} (y_COUNTS_8 : K.lookup g_COUNTS_8 = some o_COUNTS_8) (w_COUNTS_8 : o_COUNTS_8.cls = .type "tuple") (d_COUNTS_8 : o_COUNTS_8.data = .seq v_COUNTS_8 n_COUNTS_8) (e_COUNTS_8 : v_COUNTS_8.toList.map CK = [some (.int 1),some (.int 1)])
 {o_COUNTS_9 : Obj} {v_COUNTS_9 : Array Value} {n_COUNTS_9 : Nat} (y_COUNTS_9 : K.lookup g_COUNTS_9 = some o_COUNTS_9) (w_COUNTS_9 : o_COUNTS_9.cls = .type "tuple") (d_COUNTS_9 : o_COUNTS_9.data = .seq v_COUNTS_9 n_COUNTS_9) (e_COUNTS_9 : v_COUNTS_9.toList.map CK = [some (.int 1),some (.int 1)])
 {o_COUNTS_10 : Obj} {v_COUNTS_10 : Array Value} {n_COUNTS_10 : Nat} (y_COUNTS_10 : K.lookup g_COUNTS_10 = some o_COUNTS_10) (w_COUNTS_10 : o_COUNTS_10.cls = .type "tuple") (d_COUNTS_10 : o_COUNTS_10.data = .seq v_COUNTS_10 n_COUNTS_10) (e_COUNTS_10 : v_COUNTS_10.toList.map CK = [some (.int 1),some (.int 16)])
 {o_COUNTS_11 : Obj} {v_COUNTS_11 : Array Value} {n_COUNTS_11 : Nat} (y_COUNTS_11 : K.lookup g_COUNTS_11 = some o_COUNTS_11) (w_COUNTS_11 : o_COUNTS_11.cls = .type "tuple") (d_COUNTS_11 : o_COUNTS_11.data = .seq v_COUNTS_11 n_COUNTS_11) (e_COUNTS_11 : v_COUNTS_11.toList.map CK = [some (.int 2),some (.int 2)])
 {o_COUNTS_12 : Obj} {v_COUNTS_12 : Array Value} {n_COUNTS_12 : Nat} (y_COUNTS_12 : K.lookup g_COUNTS_12 = some o_COUNTS_12) (w_COUNTS_12 : o_COUNTS_12.cls = .type "tuple") (d_COUNTS_12 : o_COUNTS_12.data = .seq v_COUNTS_12 n_COUNTS_12) (e_COUNTS_12 : v_COUNTS_12.toList.map CK = [some (.int 2),some (.int 2)])
 {o_COUNTS_13 : Obj} {v_COUNTS_13 : Array Value} {n_COUNTS_13 : Nat} (y_COUNTS_13 : K.lookup g_COUNTS_13 = some o_COUNTS_13) (w_COUNTS_13 : o_COUNTS_13.cls = .type "tuple") (d_COUNTS_13 : o_COUNTS_13.data = .seq v_COUNTS_13 n_COUNTS_13) (e_COUNTS_13 : v_COUNTS_13.toList.map CK = [some (.int 2),some (.int 2)])
 {o_COUNTS_14 : Obj} {v_COUNTS_14 : Array Value} {n_COUNTS_14 : Nat} (y_COUNTS_14 : K.lookup g_COUNTS_14 = some o_COUNTS_14) (w_COUNTS_14 : o_COUNTS_14.cls = .type "tuple") (d_COUNTS_14 : o_COUNTS_14.data = .seq v_COUNTS_14 n_COUNTS_14) (e_COUNTS_14 : v_COUNTS_14.toList.map CK = [some (.int 1),some (.int 1)])
 {a_LEAST : Addr} (nx_LEAST : Uz K mainGlobals "LEAST" = some (some (.ref a_LEAST)))
 {tk_LEAST_0 : Tok} {g_LEAST_0 : Addr}
 {tk_LEAST_1 : Tok} {g_LEAST_1 : Addr}
 {n_LEAST : Nat} (yd_LEAST : K.lookup a_LEAST = some ⟨.type "dict",none,.dict (([("wrong",tk_LEAST_0,g_LEAST_0),("quotient",tk_LEAST_1,g_LEAST_1)] : List (Str × Tok × Addr)).map (HA w)).toArray n_LEAST,#[]⟩) (hs_LEAST : (a_LEAST == sysModules) = false)
 {o_LEAST_0 : Obj} {v_LEAST_0 : Array Value} {n_LEAST_0 : Nat} (y_LEAST_0 : K.lookup g_LEAST_0 = some o_LEAST_0) (w_LEAST_0 : o_LEAST_0.cls = .type "tuple") (d_LEAST_0 : o_LEAST_0.data = .seq v_LEAST_0 n_LEAST_0) (e_LEAST_0 : v_LEAST_0.toList.map CK = [some (.int 1),some (.int 0)])
 {o_LEAST_1 : Obj} {v_LEAST_1 : Array Value} {n_LEAST_1 : Nat} (y_LEAST_1 : K.lookup g_LEAST_1 = some o_LEAST_1) (w_LEAST_1 : o_LEAST_1.cls = .type "tuple") (d_LEAST_1 : o_LEAST_1.data = .seq v_LEAST_1 n_LEAST_1) (e_LEAST_1 : v_LEAST_1.toList.map CK = [some (.int 1)])
 {a_CHANGES : Addr} (nx_CHANGES : Uz K mainGlobals "CHANGES" = some (some (.ref a_CHANGES)))
 {tk_CHANGES_0 : Tok} {g_CHANGES_0 : Addr}
 {tk_CHANGES_1 : Tok} {g_CHANGES_1 : Addr}
 {tk_CHANGES_2 : Tok} {g_CHANGES_2 : Addr}
 {tk_CHANGES_3 : Tok} {g_CHANGES_3 : Addr}
 {tk_CHANGES_4 : Tok} {g_CHANGES_4 : Addr}
 {n_CHANGES : Nat} (yd_CHANGES : K.lookup a_CHANGES = some ⟨.type "dict",none,.dict (([("put",tk_CHANGES_0,g_CHANGES_0),("take",tk_CHANGES_1,g_CHANGES_1),("height",tk_CHANGES_2,g_CHANGES_2),("slope",tk_CHANGES_3,g_CHANGES_3),("noslope",tk_CHANGES_4,g_CHANGES_4)] : List (Str × Tok × Addr)).map (HA w)).toArray n_CHANGES,#[]⟩) (hs_CHANGES : (a_CHANGES == sysModules) = false)
 {a_ANSWERS : Addr} (nx_ANSWERS : Uz K mainGlobals "ANSWERS" = some (some (.ref a_ANSWERS)))
 {tk_ANSWERS_0 : Tok}
 {tk_ANSWERS_1 : Tok} {g_ANSWERS_1 : Addr}
 {tk_ANSWERS_2 : Tok} {g_ANSWERS_2 : Addr}
 {tk_ANSWERS_3 : Tok} {g_ANSWERS_3 : Addr}
 {tk_ANSWERS_4 : Tok} {g_ANSWERS_4 : Addr}
 {tk_ANSWERS_5 : Tok} {g_ANSWERS_5 : Addr}
 {tk_ANSWERS_6 : Tok} {g_ANSWERS_6 : Addr}
 {tk_ANSWERS_7 : Tok} {g_ANSWERS_7 : Addr}
 {tk_ANSWERS_8 : Tok} {g_ANSWERS_8 : Addr}
 {tk_ANSWERS_9 : Tok} {g_ANSWERS_9 : Addr}
 {n_ANSWERS : Nat} (yd_ANSWERS : K.lookup a_ANSWERS = some ⟨.type "dict",none,.dict (([("points",tk_ANSWERS_0,f33),("curve",tk_ANSWERS_1,g_ANSWERS_1),("steps",tk_ANSWERS_2,g_ANSWERS_2),("at",tk_ANSWERS_3,g_ANSWERS_3),("slopeat",tk_ANSWERS_4,g_ANSWERS_4),("misses",tk_ANSWERS_5,g_ANSWERS_5),("bounds",tk_ANSWERS_6,g_ANSWERS_6),("noughts",tk_ANSWERS_7,g_ANSWERS_7),("wrong",tk_ANSWERS_8,g_ANSWERS_8),("quotient",tk_ANSWERS_9,g_ANSWERS_9)] : List (Str × Tok × Addr)).map (HA w)).toArray n_ANSWERS,#[]⟩) (hs_ANSWERS : (a_ANSWERS == sysModules) = false) :
 ∃ fd : FuncData,(∀ (s : Shared) (v : Value),BindsTo s fd ⟨[v],[]⟩ [("_law_script",v)]) ∧ ∀ base : Heap,K.In base → base.Ns mainGlobals mg → AI l.prog w K mg base CX0 41 fa fd ["_law_script"] (IW K):=by
 have e:=hfa.symm.trans (UB X G a36)
 cases e
 have QZ:=Vi X G z_len
 have R8:=Vi X G z_abs
 have R4:=Vi X G z_tuple
 have R3:=Vi X G z_str
 have R7:=Vi X G z_range
 have R1:=Vi X G z_isinstance
 have Rm:=Vi X G z_ValueError
 have b_set:=Vi X G z_set
 have R9:=Vi X G z_int
 have Rn:=Vi X G z_bool
 have R6:=Vi X G z_all
 have Ra:=Vi X G z_list
 have Rg:=Vi X G z_zip
 have c_MOST_TOLD:=UB X G x_MOST_TOLD
 have c_FIGURES:=UB X G x_FIGURES
 have c_SIX:=UB X G x_SIX
 have t_Desk : GS K C_Desk:=⟨⟨pg_Desk,hd_Desk,po_Desk,sa_Desk⟩,na_points_Desk⟩
 have s_COUNTS_0 : ∀ H : Hp,SqT K H g_COUNTS_0 [.int 2,.int 3]:=fun H=>Bb y_COUNTS_0 w_COUNTS_0 d_COUNTS_0 e_COUNTS_0
 have s_COUNTS_1 : ∀ H : Hp,SqT K H g_COUNTS_1 [.int 1,.int 1]:=fun H=>Bb y_COUNTS_1 w_COUNTS_1 d_COUNTS_1 e_COUNTS_1
 have s_COUNTS_2 : ∀ H : Hp,SqT K H g_COUNTS_2 [.int 2,.int 2]:=fun H=>Bb y_COUNTS_2 w_COUNTS_2 d_COUNTS_2 e_COUNTS_2
 have s_COUNTS_3 : ∀ H : Hp,SqT K H g_COUNTS_3 [.int 2,.int 2]:=fun H=>Bb y_COUNTS_3 w_COUNTS_3 d_COUNTS_3 e_COUNTS_3
 have s_COUNTS_4 : ∀ H : Hp,SqT K H g_COUNTS_4 [.int 1,.int 1]:=fun H=>Bb y_COUNTS_4 w_COUNTS_4 d_COUNTS_4 e_COUNTS_4
 have s_COUNTS_5 : ∀ H : Hp,SqT K H g_COUNTS_5 [.int 0,.int 0]:=fun H=>Bb y_COUNTS_5 w_COUNTS_5 d_COUNTS_5 e_COUNTS_5
 have s_COUNTS_6 : ∀ H : Hp,SqT K H g_COUNTS_6 [.int 0,.int 0]:=fun H=>Bb y_COUNTS_6 w_COUNTS_6 d_COUNTS_6 e_COUNTS_6
 have s_COUNTS_7 : ∀ H : Hp,SqT K H g_COUNTS_7 [.int 0,.int 0]:=fun H=>Bb y_COUNTS_7 w_COUNTS_7 d_COUNTS_7 e_COUNTS_7
 have s_COUNTS_8 : ∀ H : Hp,SqT K H g_COUNTS_8 [.int 1,.int 1]:=fun H=>Bb y_COUNTS_8 w_COUNTS_8 d_COUNTS_8 e_COUNTS_8
 have s_COUNTS_9 : ∀ H : Hp,SqT K H g_COUNTS_9 [.int 1,.int 1]:=fun H=>Bb y_COUNTS_9 w_COUNTS_9 d_COUNTS_9 e_COUNTS_9
 have s_COUNTS_10 : ∀ H : Hp,SqT K H g_COUNTS_10 [.int 1,.int 16]:=fun H=>Bb y_COUNTS_10 w_COUNTS_10 d_COUNTS_10 e_COUNTS_10
 have s_COUNTS_11 : ∀ H : Hp,SqT K H g_COUNTS_11 [.int 2,.int 2]:=fun H=>Bb y_COUNTS_11 w_COUNTS_11 d_COUNTS_11 e_COUNTS_11
 have s_COUNTS_12 : ∀ H : Hp,SqT K H g_COUNTS_12 [.int 2,.int 2]:=fun H=>Bb y_COUNTS_12 w_COUNTS_12 d_COUNTS_12 e_COUNTS_12
 have s_COUNTS_13 : ∀ H : Hp,SqT K H g_COUNTS_13 [.int 2,.int 2]:=fun H=>Bb y_COUNTS_13 w_COUNTS_13 d_COUNTS_13 e_COUNTS_13
 have s_COUNTS_14 : ∀ H : Hp,SqT K H g_COUNTS_14 [.int 1,.int 1]:=fun H=>Bb y_COUNTS_14 w_COUNTS_14 d_COUNTS_14 e_COUNTS_14
 have c_COUNTS:=UB X G nx_COUNTS
 have d_COUNTS:=Ky (P:=l.prog) [("put",tk_COUNTS_0,g_COUNTS_0),("take",tk_COUNTS_1,g_COUNTS_1),("height",tk_COUNTS_2,g_COUNTS_2),("slope",tk_COUNTS_3,g_COUNTS_3),("noslope",tk_COUNTS_4,g_COUNTS_4),("points",tk_COUNTS_5,g_COUNTS_5),("curve",tk_COUNTS_6,g_COUNTS_6),("steps",tk_COUNTS_7,g_COUNTS_7),("at",tk_COUNTS_8,g_COUNTS_8),("slopeat",tk_COUNTS_9,g_COUNTS_9),("misses",tk_COUNTS_10,g_COUNTS_10),("bounds",tk_COUNTS_11,g_COUNTS_11),("noughts",tk_COUNTS_12,g_COUNTS_12),("wrong",tk_COUNTS_13,g_COUNTS_13),("quotient",tk_COUNTS_14,g_COUNTS_14)] yd_COUNTS (show (["put","take","height","slope","noslope","points","curve","steps","at","slopeat","misses","bounds","noughts","wrong","quotient"] : List Str).Nodup from by decide +kernel) hs_COUNTS
 have s_LEAST_0 : ∀ H : Hp,SqT K H g_LEAST_0 [.int 1,.int 0]:=fun H=>Bb y_LEAST_0 w_LEAST_0 d_LEAST_0 e_LEAST_0
 have s_LEAST_1 : ∀ H : Hp,SqT K H g_LEAST_1 [.int 1]:=fun H=>Kb y_LEAST_1 w_LEAST_1 d_LEAST_1 e_LEAST_1
 have c_LEAST:=UB X G nx_LEAST
 have d_LEAST:=Ky (P:=l.prog) [("wrong",tk_LEAST_0,g_LEAST_0),("quotient",tk_LEAST_1,g_LEAST_1)] yd_LEAST (show (["wrong","quotient"] : List Str).Nodup from by decide +kernel) hs_LEAST
 have c_CHANGES:=UB X G nx_CHANGES
 have d_CHANGES:=Ky (P:=l.prog) [("put",tk_CHANGES_0,g_CHANGES_0),("take",tk_CHANGES_1,g_CHANGES_1),("height",tk_CHANGES_2,g_CHANGES_2),("slope",tk_CHANGES_3,g_CHANGES_3),("noslope",tk_CHANGES_4,g_CHANGES_4)] yd_CHANGES (show (["put","take","height","slope","noslope"] : List Str).Nodup from by decide +kernel) hs_CHANGES
 have m_points_row:=UB X G a33
 have c_ANSWERS:=UB X G nx_ANSWERS
 have d_ANSWERS:=Ky (P:=l.prog) [("points",tk_ANSWERS_0,f33),("curve",tk_ANSWERS_1,g_ANSWERS_1),("steps",tk_ANSWERS_2,g_ANSWERS_2),("at",tk_ANSWERS_3,g_ANSWERS_3),("slopeat",tk_ANSWERS_4,g_ANSWERS_4),("misses",tk_ANSWERS_5,g_ANSWERS_5),("bounds",tk_ANSWERS_6,g_ANSWERS_6),("noughts",tk_ANSWERS_7,g_ANSWERS_7),("wrong",tk_ANSWERS_8,g_ANSWERS_8),("quotient",tk_ANSWERS_9,g_ANSWERS_9)] yd_ANSWERS (show (["points","curve","steps","at","slopeat","misses","bounds","noughts","wrong","quotient"] : List Str).Nodup from by decide +kernel) hs_ANSWERS
 have F1:=AM (st:=top 132) l1 c1 k1
 have B1:=Fun.binds2 "_law_script" "_law_k" F1 fun _ _ _ _ _ _ _ _=>rfl
 have F2:=AM (st:=top 133) l2 c2 k2
 have B2:=Fun.binds2 "_law_pen_here" "_law_many" F2 fun _ _ _ _ _ _ _ _=>rfl
 have F3:=AM (st:=top 134) l3 c3 k3
 have B3:=Fun.binds2 "_law_top" "_law_bottom" F3 fun _ _ _ _ _ _ _ _=>rfl
 have F4:=AM (st:=top 135) l4 c4 k4
 have B4:=Fun.binds2 "_law_a" "_law_b" F4 fun _ _ _ _ _ _ _ _=>rfl
 have F5:=AM (st:=top 140) l5 c5 k5
 have B5:=Fun.binds2 "_law_pen_here" "_law_places" F5 fun _ _ _ _ _ _ _ _=>rfl
 have F6:=AM (st:=top 139) l6 c6 k6
 have B6:=Fun.binds1 "_law_pen_here" F6 fun _ _ _ _ _ _ _=>rfl
 have F7:=AM (st:=top 141) l7 c7 k7
 have B7:=Fun.binds2 "_law_pen_here" "_law_most" F7 fun _ _ _ _ _ _ _ _=>rfl
 have F8:=AM (st:=top 136) l8 c8 k8
 have B8:=Fun.binds1 "_law_number" F8 fun _ _ _ _ _ _ _=>rfl
 have F9:=AM (st:=top 138) l9 c9 k9
 have B9:=Fun.binds1 "_law_points" F9 fun _ _ _ _ _ _ _=>rfl
 have F10:=AM (st:=top 143) l10 c10 k10
 have B10:=Fun.binds1 "_law_pen_here" F10 fun _ _ _ _ _ _ _=>rfl
 have F11:=AM (st:=top 144) l11 c11 k11
 have B11:=Fun.binds1 "_law_pen_here" F11 fun _ _ _ _ _ _ _=>rfl
 have F12:=AM (st:=top 146) l12 c12 k12
 have B12:=Fun.binds2 "_law_pen_here" "_law_points" F12 fun _ _ _ _ _ _ _ _=>rfl
 have F13:=AM (st:=top 142) l13 c13 k13
 have B13:=Fun.binds1 "_law_caught_here" F13 fun _ _ _ _ _ _ _=>rfl
 have F14:=AM (st:=top 100) l14 c14 k14
 have B14:=Fun.binds1 "text" F14 fun _ _ _ _ _ _ _=>rfl
 have F15:=AM (st:=top 49) l15 c15 k15
 have B15:=Fun.binds1 "places" F15 fun _ _ _ _ _ _ _=>rfl
 have F16:=AM (st:=top 52) l16 c16 k16
 have B16:=Fun.binds1 "points" F16 fun _ _ _ _ _ _ _=>rfl
 have F17:=AM (st:=top 13) l17 c17 k17
 have B17:=Fun.binds1 "thing" F17 fun _ _ _ _ _ _ _=>rfl
 have F18:=AM (st:=top 14) l18 c18 k18
 have B18:=Fun.binds2 "one" "other" F18 fun _ _ _ _ _ _ _ _=>rfl
 have F19:=AM (st:=top 15) l19 c19 k19
 have B19:=Fun.binds1 "thing" F19 fun _ _ _ _ _ _ _=>rfl
 have F20:=AM (st:=top 48) l20 c20 k20
 have B20:=Fun.binds1 "thing" F20 fun _ _ _ _ _ _ _=>rfl
 have F21:=AM (st:=top 51) l21 c21 k21
 have B21:=Fun.binds1 "thing" F21 fun _ _ _ _ _ _ _=>rfl
 have F22:=AM (st:=top 97) l22 c22 k22
 have B22:=Fun.binds2 "text" "most" F22 fun _ _ _ _ _ _ _ _=>rfl
 have F23:=AM (st:=top 98) l23 c23 k23
 have B23:=Fun.binds2 "text" "most" F23 fun _ _ _ _ _ _ _ _=>rfl
 have F24:=AM (st:=top 99) l24 c24 k24
 have B24:=Fun.binds2 "text" "most" F24 fun _ _ _ _ _ _ _ _=>rfl
 have F25:=AM (st:=top 101) l25 c25 k25
 have B25:=Fun.binds2 "parts" "most" F25 fun _ _ _ _ _ _ _ _=>rfl
 have F26:=AM (st:=top 102) l26 c26 k26
 have B26:=Fun.binds2 "text" "most" F26 fun _ _ _ _ _ _ _ _=>rfl
 have F27:=AM (st:=BI (top 130) 0) l27 c27 k27
 have B27:=Fun.binds2 "self" "text" F27 fun _ _ _ _ _ _ _ _=>rfl
 have F28:=AM (st:=top 128) l28 c28 k28
 have B28:=Fun.binds2 "numbers" "least" F28 fun _ _ _ _ _ _ _ _=>rfl
 have F29:=AM (st:=top 129) l29 c29 k29
 have B29:=Fun.binds1 "words" F29 fun _ _ _ _ _ _ _=>rfl
 have F30:=AM (st:=top 92) l30 c30 k30
 have B30:=Fun.binds1 "number" F30 fun _ _ _ _ _ _ _=>rfl
 have F31:=AM (st:=top 95) l31 c31 k31
 have B31:=Fun.binds1 "point" F31 fun _ _ _ _ _ _ _=>rfl
 have F32:=AM (st:=top 96) l32 c32 k32
 have B32:=Fun.binds1 "points" F32 fun _ _ _ _ _ _ _=>rfl
 have F33:=AM (st:=top 114) l33 c33 k33
 have B33:=Fun.binds2 "points" "numbers" F33 fun _ _ _ _ _ _ _ _=>rfl
 have F34:=AM (st:=BI (top 130) 1) l34 c34 k34
 have B34:=Fun.binds2 "self" "row" F34 fun _ _ _ _ _ _ _ _=>rfl
 have F35:=AM (st:=top 145) l35 c35 k35
 have B35:=Fun.binds3 "_law_pen_here" "_law_text_here" "_law_row" F35 fun _ _ _ _ _ _ _ _ _=>rfl
 have F36:=AM (st:=top 147) l36 c36 k36
 refine ⟨U6 "law" "law" (Ay (top 147)) (Au (top 147)) (Af (top 147)) .none kV36 dc36 pm36 an36 cd36 ct36,fun s v=>.of_eq rfl,fun base _ _=>?_⟩
 have c_CurveError:=UB X G nx_CurveError
 have c_TooMany:=UB X G nx_TooMany
 have c_NoPoints:=UB X G nx_NoPoints
 have c_NoPoint:=UB X G nx_NoPoint
 have c_NoNumber:=UB X G nx_NoNumber
 have c_NoCurve:=UB X G nx_NoCurve
 have c_NoStretch:=UB X G nx_NoStretch
 have c_TooDeep:=UB X G nx_TooDeep
 have c_TooFew:=UB X G nx_TooFew
 have c_NoText:=UB X G nx_NoText
 have c_NoRow:=UB X G nx_NoRow
 have k_TooMany : EK K "TooMany" a_TooMany:=⟨nx_TooMany,⟨_,_,_,_,_,_,_,_,_,_,_,_,_,_,_,_,xl_TooMany⟩,xex_TooMany⟩
 have xr_TooMany : Fp K a_TooMany [a_TooMany,a_NoPoints,a_NoPoint,a_NoNumber,a_NoCurve,a_NoStretch,a_TooDeep,a_TooFew,a_NoText,a_NoRow] 0:=⟨⟨xga_TooMany,xgt_TooMany,xca_TooMany,xgg,xtk,xob_TooMany,xbe_TooMany,⟨_,_,_,_,xl_TooMany⟩⟩,xv_TooMany,fun i c h=>match i,h with | 0,h=>by cases h; exact xk_TooMany_0 | 1,h=>by cases h; exact xk_TooMany_1 | 2,h=>by cases h; exact xk_TooMany_2 | 3,h=>by cases h; exact xk_TooMany_3 | 4,h=>by cases h; exact xk_TooMany_4 | 5,h=>by cases h; exact xk_TooMany_5 | 6,h=>by cases h; exact xk_TooMany_6 | 7,h=>by cases h; exact xk_TooMany_7 | 8,h=>by cases h; exact xk_TooMany_8 | 9,h=>by cases h; exact xk_TooMany_9 | i + 10,h=>nomatch h⟩
 have k_NoPoints : EK K "NoPoints" a_NoPoints:=⟨nx_NoPoints,⟨_,_,_,_,_,_,_,_,_,_,_,_,_,_,_,_,xl_NoPoints⟩,xex_NoPoints⟩
 have xr_NoPoints : Fp K a_NoPoints [a_TooMany,a_NoPoints,a_NoPoint,a_NoNumber,a_NoCurve,a_NoStretch,a_TooDeep,a_TooFew,a_NoText,a_NoRow] 1:=⟨⟨xga_NoPoints,xgt_NoPoints,xca_NoPoints,xgg,xtk,xob_NoPoints,xbe_NoPoints,⟨_,_,_,_,xl_NoPoints⟩⟩,xv_NoPoints,fun i c h=>match i,h with | 0,h=>by cases h; exact xk_NoPoints_0 | 1,h=>by cases h; exact xk_NoPoints_1 | 2,h=>by cases h; exact xk_NoPoints_2 | 3,h=>by cases h; exact xk_NoPoints_3 | 4,h=>by cases h; exact xk_NoPoints_4 | 5,h=>by cases h; exact xk_NoPoints_5 | 6,h=>by cases h; exact xk_NoPoints_6 | 7,h=>by cases h; exact xk_NoPoints_7 | 8,h=>by cases h; exact xk_NoPoints_8 | 9,h=>by cases h; exact xk_NoPoints_9 | i + 10,h=>nomatch h⟩
 have k_NoText : EK K "NoText" a_NoText:=⟨nx_NoText,⟨_,_,_,_,_,_,_,_,_,_,_,_,_,_,_,_,xl_NoText⟩,xex_NoText⟩
 have xr_NoText : Fp K a_NoText [a_TooMany,a_NoPoints,a_NoPoint,a_NoNumber,a_NoCurve,a_NoStretch,a_TooDeep,a_TooFew,a_NoText,a_NoRow] 8:=⟨⟨xga_NoText,xgt_NoText,xca_NoText,xgg,xtk,xob_NoText,xbe_NoText,⟨_,_,_,_,xl_NoText⟩⟩,xv_NoText,fun i c h=>match i,h with | 0,h=>by cases h; exact xk_NoText_0 | 1,h=>by cases h; exact xk_NoText_1 | 2,h=>by cases h; exact xk_NoText_2 | 3,h=>by cases h; exact xk_NoText_3 | 4,h=>by cases h; exact xk_NoText_4 | 5,h=>by cases h; exact xk_NoText_5 | 6,h=>by cases h; exact xk_NoText_6 | 7,h=>by cases h; exact xk_NoText_7 | 8,h=>by cases h; exact xk_NoText_8 | 9,h=>by cases h; exact xk_NoText_9 | i + 10,h=>nomatch h⟩
 have k_NoRow : EK K "NoRow" a_NoRow:=⟨nx_NoRow,⟨_,_,_,_,_,_,_,_,_,_,_,_,_,_,_,_,xl_NoRow⟩,xex_NoRow⟩
 have xr_NoRow : Fp K a_NoRow [a_TooMany,a_NoPoints,a_NoPoint,a_NoNumber,a_NoCurve,a_NoStretch,a_TooDeep,a_TooFew,a_NoText,a_NoRow] 9:=⟨⟨xga_NoRow,xgt_NoRow,xca_NoRow,xgg,xtk,xob_NoRow,xbe_NoRow,⟨_,_,_,_,xl_NoRow⟩⟩,xv_NoRow,fun i c h=>match i,h with | 0,h=>by cases h; exact xk_NoRow_0 | 1,h=>by cases h; exact xk_NoRow_1 | 2,h=>by cases h; exact xk_NoRow_2 | 3,h=>by cases h; exact xk_NoRow_3 | 4,h=>by cases h; exact xk_NoRow_4 | 5,h=>by cases h; exact xk_NoRow_5 | 6,h=>by cases h; exact xk_NoRow_6 | 7,h=>by cases h; exact xk_NoRow_7 | 8,h=>by cases h; exact xk_NoRow_8 | 9,h=>by cases h; exact xk_NoRow_9 | i + 10,h=>nomatch h⟩
 have Sk:=fdm w base (Jb F1 QZ hT) B1 k1 (UB X G a1)
 have Rh:=fdm w base (Io F2 hT) B2 k2 (UB X G a2)
 have Ru:=fdm w base (Gn F3 R8 hT) B3 k3 (UB X G a3)
 have Sl:=fdm w base (Im F4 Ru hT) B4 k4 (UB X G a4)
 have Sm:=fdm w base (He F5 Ru Sl Rh hT) B5 k5 (UB X G a5)
 have Sn:=fdm w base (Gp F6 Rh Ru hT) B6 k6 (UB X G a6)
 have So:=fdm w base (E6 F7 Rh Sm Sn R4 QZ hT) B7 k7 (UB X G a7)
 have RM:=fdm w base (Il F8 R3 hT) B8 k8 (UB X G a8)
 have RN:=fdm w base (E5 F9 RM hT) B9 k9 (UB X G a9)
 have Sr:=fdm w base (EE F10 Rh hT) B10 k10 (UB X G a10)
 have Ss:=fdm w base (Gm F11 Sr Rh QZ hT) B11 k11 (UB X G a11)
 have Su:=fdm w base (Fz F12 RN RM Rh QZ R3 R7 hT) B12 k12 (UB X G a12)
 have H__law_refusal : FdH l.prog w K mg base 33 "_law_refusal" "_law_caught_here" (HP K [a_TooMany,a_NoPoints,a_NoPoint,a_NoNumber,a_NoCurve,a_NoStretch,a_TooDeep,a_TooFew,a_NoText,a_NoRow]):=⟨_,_,F0 F13 c_TooMany c_NoPoints c_NoPoint c_NoNumber c_NoCurve c_NoStretch c_TooDeep c_TooFew c_NoText c_NoRow R1 QZ Rm hT,B13,k13,UB X G a13⟩
 have RO:=fdm w base (Eb F14 R1 R3 hT) B14 k14 (UB X G a14)
 have XF_check_text : AI l.prog w K mg base (CX2 l.prog w) 33 _ _ ["text"] (EV K a_NoText):=Gh (base:=base) (w:=w) F14 k_NoText R1 R3 hT
 have X_check_text : FdY l.prog w K mg base 33 "check_text" ["text"] (EV K a_NoText):=⟨_,_,XF_check_text,B14,k14,UB X G a14⟩
 have Y_check_text : FdY l.prog w K mg base 33 "check_text" ["text"] (fun vs H Q E=>(Hs : Sp) vs H Q E ∨ (EV K a_NoText : Sp) vs H Q E):=⟨_,_,(Eb F14 R1 R3 hT).calm.or XF_check_text,B14,k14,UB X G a14⟩
 have Rv:=fdm w base (Hd F15 QZ b_set hT) B15 k15 (UB X G a15)
 have Rw:=fdm w base (JW F16 R7 QZ hT) B16 k16 (UB X G a16)
 have Sv:=fdm w base (J9 F17 R1 R9 Rn hT) B17 k17 (UB X G a17)
 have Sw:=fdm w base (ED F18 R8 hT) B18 k18 (UB X G a18)
 have RP:=fdm w base (Ik F19 Sv Sw R1 R4 QZ hT) B19 k19 (UB X G a19)
 have Rx:=fdm w base (Ja F20 RP R6 R1 R4 QZ hT) B20 k20 (UB X G a20)
 have RQ:=fdm w base (EB F21 Rv Rw Rx R4 R6 QZ R1 Ra c_MOST_TOLD hT) B21 k21 (UB X G a21)
 have XF_points_of : AI l.prog w K mg base (CX2 l.prog w) 36 _ _ ["thing"] (ET K a_NoPoints a_TooMany):=GZ (base:=base) (w:=w) F21 k_NoPoints k_TooMany Rv Rw Rx R4 R6 QZ R1 Ra c_MOST_TOLD hT
 have X_points_of : FdY l.prog w K mg base 36 "points_of" ["thing"] (ET K a_NoPoints a_TooMany):=⟨_,_,XF_points_of,B21,k21,UB X G a21⟩
 have Y_points_of : FdY l.prog w K mg base 36 "points_of" ["thing"] (fun vs H Q E=>(DX K : Sp) vs H Q E ∨ (ET K a_NoPoints a_TooMany : Sp) vs H Q E):=⟨_,_,(EB F21 Rv Rw Rx R4 R6 QZ R1 Ra c_MOST_TOLD hT).calm.or XF_points_of,B21,k21,UB X G a21⟩
 have RS:=fdm w base (Gk F22 R6 QZ c_FIGURES hT) B22 k22 (UB X G a22)
 have E_is_top:=fdm w base (Lj F23 RS hT) B23 k23 (UB X G a23)
 have Ri:=fdm w base (Ij F24 RP E_is_top RS QZ R9 hT) B24 k24 (UB X G a24)
 have RT:=fdm w base (Ea F25 Ri hT) B25 k25 (UB X G a25)
 have XF_numbers_in : AI l.prog w K mg base (CX2 l.prog w) 36 _ _ ["parts","most"] (Cz K a_NoText):=Gg (base:=base) (w:=w) F25 k_NoText Ri hT
 have X_numbers_in : FdY l.prog w K mg base 36 "numbers_in" ["parts","most"] (Cz K a_NoText):=⟨_,_,XF_numbers_in,B25,k25,UB X G a25⟩
 have Y_numbers_in : FdY l.prog w K mg base 36 "numbers_in" ["parts","most"] (fun vs H Q E=>(D8 K : Sp) vs H Q E ∨ (Cz K a_NoText : Sp) vs H Q E):=⟨_,_,(Ea F25 Ri hT).calm.or XF_numbers_in,B25,k25,UB X G a25⟩
 have Ry:=fdm w base (EA F26 RO RQ RT R4 QZ hT) B26 k26 (UB X G a26)
 have XF_read_points_of : AI l.prog w K mg base (CX2 l.prog w) 37 _ _ ["text","most"] (IU K (Iz a_TooMany a_NoPoints a_NoText)):=Eg (base:=base) (w:=w) F26 k_NoText Y_check_text Y_numbers_in Y_points_of RO RQ RT R4 QZ hT
 have X_read_points_of : FdY l.prog w K mg base 37 "read_points_of" ["text","most"] (IU K (Iz a_TooMany a_NoPoints a_NoText)):=⟨_,_,XF_read_points_of,B26,k26,UB X G a26⟩
 have RU : FdI CX0 l.prog w K mg base 38 C_Desk "Desk" ["self","text"] (Dm K C_Desk):=⟨_,_,EF F27 t_Desk Ry c_SIX hT,B27,⟨mk_Desk,a27,i27,kc_Desk⟩,UB X G aC_Desk⟩
 have XF_Desk_init : AI l.prog w K mg base (CX2 l.prog w) 38 _ _ ["self","text"] (Dc K (Iz a_TooMany a_NoPoints a_NoText) C_Desk):=Ha (base:=base) (w:=w) F27 X_read_points_of t_Desk Ry c_SIX hT
 have X_Desk_init : FdI (CX2 l.prog w) l.prog w K mg base 38 C_Desk "Desk" ["self","text"] (Dc K (Iz a_TooMany a_NoPoints a_NoText) C_Desk):=⟨_,_,XF_Desk_init,B27,⟨mk_Desk,a27,i27,kc_Desk⟩,UB X G aC_Desk⟩
 have Y_Desk_init : FdI (CX2 l.prog w) l.prog w K mg base 38 C_Desk "Desk" ["self","text"] (fun vs H Q E=>(Dm K C_Desk : Sp) vs H Q E ∨ (Dc K (Iz a_TooMany a_NoPoints a_NoText) C_Desk : Sp) vs H Q E):=⟨_,_,(EF F27 t_Desk Ry c_SIX hT).calm.or XF_Desk_init,B27,⟨mk_Desk,a27,i27,kc_Desk⟩,UB X G aC_Desk⟩
 have RV:=fdm w base (Fy F28 Rg hT) B28 k28 (UB X G a28)
 have XF_check_wholes : AI l.prog w K mg base (CX2 l.prog w) 33 _ _ ["numbers","least"] (D7 K a_NoRow):=EZ (base:=base) (w:=w) F28 k_NoRow Rg hT
 have X_check_wholes : FdY l.prog w K mg base 33 "check_wholes" ["numbers","least"] (D7 K a_NoRow):=⟨_,_,XF_check_wholes,B28,k28,UB X G a28⟩
 have Rz:=fdm w base (EC F29 RV Ri QZ c_SIX hT s_COUNTS_0 s_COUNTS_1 s_COUNTS_2 s_COUNTS_3 s_COUNTS_4 s_COUNTS_5 s_COUNTS_6 s_COUNTS_7 s_COUNTS_8 s_COUNTS_9 s_COUNTS_10 s_COUNTS_11 s_COUNTS_12 s_COUNTS_13 s_COUNTS_14 c_COUNTS d_COUNTS s_LEAST_0 s_LEAST_1 c_LEAST d_LEAST) B29 k29 (UB X G a29)
 have XF_numbers_of_row : AI l.prog w K mg base (CX2 l.prog w) 36 _ _ ["words"] (CB K a_NoRow):=Eh (base:=base) (w:=w) F29 k_NoRow X_check_wholes RV Ri QZ c_SIX hT s_COUNTS_0 s_COUNTS_1 s_COUNTS_2 s_COUNTS_3 s_COUNTS_4 s_COUNTS_5 s_COUNTS_6 s_COUNTS_7 s_COUNTS_8 s_COUNTS_9 s_COUNTS_10 s_COUNTS_11 s_COUNTS_12 s_COUNTS_13 s_COUNTS_14 c_COUNTS d_COUNTS s_LEAST_0 s_LEAST_1 c_LEAST d_LEAST
 have X_numbers_of_row : FdY l.prog w K mg base 36 "numbers_of_row" ["words"] (CB K a_NoRow):=⟨_,_,XF_numbers_of_row,B29,k29,UB X G a29⟩
 have Sx:=fdm w base (Gj F30 R3 hT) B30 k30 (UB X G a30)
 have Sy:=fdm w base (Hb F31 Sx hT) B31 k31 (UB X G a31)
 have Sz:=fdm w base (Gi F32 Sy hT) B32 k32 (UB X G a32)
 have RA:=fdm w base (Hc F33 Sz hT) B33 k33 (UB X G a33)
 have RW : FdM CX0 l.prog w K mg base 37 C_Desk "say" ["self","row"] (Ee K C_Desk):=⟨_,_,Ft F34 t_Desk Rz RA R1 R3 hT c_CHANGES d_CHANGES m_points_row c_ANSWERS d_ANSWERS,B34,⟨a34,i34,k34⟩⟩
 have XF_Desk_say : AI l.prog w K mg base (CX2 l.prog w) 37 _ _ ["self","row"] (ES K a_NoRow C_Desk):=Ii (base:=base) (w:=w) F34 k_NoRow X_numbers_of_row t_Desk Rz RA R1 R3 hT c_CHANGES d_CHANGES m_points_row c_ANSWERS d_ANSWERS
 have X_Desk_say : FdM (CX2 l.prog w) l.prog w K mg base 37 C_Desk "say" ["self","row"] (ES K a_NoRow C_Desk):=⟨_,_,XF_Desk_say,B34,⟨a34,i34,k34⟩⟩
 have Y_Desk_say : FdM (CX2 l.prog w) l.prog w K mg base 37 C_Desk "say" ["self","row"] (fun vs H Q E=>(Ee K C_Desk : Sp) vs H Q E ∨ (ES K a_NoRow C_Desk : Sp) vs H Q E):=⟨_,_,(Ft F34 t_Desk Rz RA R1 R3 hT c_CHANGES d_CHANGES m_points_row c_ANSWERS d_ANSWERS).calm.or XF_Desk_say,B34,⟨a34,i34,k34⟩⟩
 have SA:=fdm w base (Gq F35 t_Desk c_CurveError xm_TooMany xr_TooMany xm_NoPoints xr_NoPoints xm_NoText xr_NoText xm_NoRow xr_NoRow H__law_refusal Y_Desk_init RU RW hT) B35 k35 (UB X G a35)
 exact OL F36 t_Desk c_CurveError xm_TooMany xr_TooMany xm_NoPoints xr_NoPoints xm_NoText xr_NoText xm_NoRow xr_NoRow H__law_refusal Y_Desk_say Sk So RN Ss Su SA RU RW R7 hT
theorem Qu {l : Ue} {q : Program} {loose : List Str} {XP : (Str → Option Value) → Heap → Prop} {YP : World → Heap → Prop} {d : DefRec} {K : Params → SR} (hI : PyProof.Rows.importsNone q = true) (hn : l.most = some 63) (hdf : d.params.defaults = [])
 (hY : ∀ (w : World) (h : Heap),YP w h → (K w.params).In h)
 (F : ∀ (w : World) (mg : Str → Option Value) (fa : Addr) (h : Heap),(K w.params).In h → h.Ns mainGlobals mg → mg d.name = some (.ref fa) →
  ∃ fd : FuncData,(∀ (s : Shared) (u : Value),BindsTo s fd ⟨[u],[]⟩ [("_law_script",u)]) ∧ ∀ base : Heap,(K w.params).In base → base.Ns mainGlobals mg → AI l.prog w (K w.params) mg base CX0 41 fa fd ["_law_script"] ((fun (K : SR)=>(IW K : Sp)) (K w.params))) :
 PySem.W.WalkO q loose XP YP l.row.toRowW d [] (fun f vs=>PySem.call f vs) :=
 L2.N3 (n:=63) (k:=41) (x:="_law_script") (CX:=fun _=>CX0) (sp:=fun w=>(fun (K : SR)=>(IW K : Sp)) (K w.params)) hI hn (by decide) hdf ⟨rfl,by decide,by decide⟩ hY F (fun _ _ a ns hl _ hS=>⟨a,ns,rfl,hS,hl,fun _=>rfl⟩) fun _ _ _ _ _ z=>z
end Pf
open PySem PySem.W PyProof.Rows
set_option maxRecDepth 100000 in
set_option maxHeartbeats 0 in
theorem PySem.Challenge.cw_onecurve_k67_rows_refused_at_a_desk_holds : PySem.Challenge.rw_onecurve_k67_rows_refused_at_a_desk.Holds := by
 refine zzH ?_
 k_fill
 refine Pf.Qu (l:=PySem.Challenge.rw_onecurve_k67_rows_refused_at_a_desk) (by decide +kernel) rfl rfl (fun w h Y=>PySem.W.km_in_of Y) ?F
 case F =>
  intro w mg fa h KX G hmg
  refine' Pf.Pk rfl KX G hmg ?aC_Desk ?a1 ?l1 ?c1 ?k1 ?a2 ?l2 ?c2 ?k2 ?a3 ?l3 ?c3 ?k3 ?a4 ?l4 ?c4 ?k4 ?a5 ?l5 ?c5 ?k5 ?a6 ?l6 ?c6 ?k6 ?a7 ?l7 ?c7 ?k7 ?a8 ?l8 ?c8 ?k8 ?a9 ?l9 ?c9 ?k9 ?a10 ?l10 ?c10 ?k10 ?a11 ?l11 ?c11 ?k11 ?a12 ?l12 ?c12 ?k12 ?a13 ?l13 ?c13 ?k13 ?a14 ?l14 ?c14 ?k14 ?a15 ?l15 ?c15 ?k15 ?a16 ?l16 ?c16 ?k16 ?a17 ?l17 ?c17 ?k17 ?a18 ?l18 ?c18 ?k18 ?a19 ?l19 ?c19 ?k19 ?a20 ?l20 ?c20 ?k20 ?a21 ?l21 ?c21 ?k21 ?a22 ?l22 ?c22 ?k22 ?a23 ?l23 ?c23 ?k23 ?a24 ?l24 ?c24 ?k24 ?a25 ?l25 ?c25 ?k25 ?a26 ?l26 ?c26 ?k26 ?a27 ?i27 ?l27 ?c27 ?k27 ?a28 ?l28 ?c28 ?k28 ?a29 ?l29 ?c29 ?k29 ?a30 ?l30 ?c30 ?k30 ?a31 ?l31 ?c31 ?k31 ?a32 ?l32 ?c32 ?k32 ?a33 ?l33 ?c33 ?k33 ?a34 ?i34 ?l34 ?c34 ?k34 ?a35 ?l35 ?c35 ?k35 ?a36 ?l36 ?c36 ?k36 ?z_len ?z_abs ?z_tuple ?z_str ?z_range ?z_isinstance ?z_ValueError ?z_set ?z_int ?z_bool ?z_all ?z_list ?z_zip ?x_MOST_TOLD ?x_FIGURES ?x_SIX ?nx_CurveError ?nx_TooMany ?nx_NoPoints ?nx_NoPoint ?nx_NoNumber ?nx_NoCurve ?nx_NoStretch ?nx_TooDeep ?nx_TooFew ?nx_NoText ?nx_NoRow ?xl_TooMany ?xex_TooMany ?xga_TooMany ?xgt_TooMany ?xca_TooMany ?xob_TooMany ?xbe_TooMany ?xm_TooMany ?xv_TooMany ?xk_TooMany_0 ?xk_TooMany_1 ?xk_TooMany_2 ?xk_TooMany_3 ?xk_TooMany_4 ?xk_TooMany_5 ?xk_TooMany_6 ?xk_TooMany_7 ?xk_TooMany_8 ?xk_TooMany_9 ?xl_NoPoints ?xex_NoPoints ?xga_NoPoints ?xgt_NoPoints ?xca_NoPoints ?xob_NoPoints ?xbe_NoPoints ?xm_NoPoints ?xv_NoPoints ?xk_NoPoints_0 ?xk_NoPoints_1 ?xk_NoPoints_2 ?xk_NoPoints_3 ?xk_NoPoints_4 ?xk_NoPoints_5 ?xk_NoPoints_6 ?xk_NoPoints_7 ?xk_NoPoints_8 ?xk_NoPoints_9 ?xl_NoText ?xex_NoText ?xga_NoText ?xgt_NoText ?xca_NoText ?xob_NoText ?xbe_NoText ?xm_NoText ?xv_NoText ?xk_NoText_0 ?xk_NoText_1 ?xk_NoText_2 ?xk_NoText_3 ?xk_NoText_4 ?xk_NoText_5 ?xk_NoText_6 ?xk_NoText_7 ?xk_NoText_8 ?xk_NoText_9 ?xl_NoRow ?xex_NoRow ?xga_NoRow ?xgt_NoRow ?xca_NoRow ?xob_NoRow ?xbe_NoRow ?xm_NoRow ?xv_NoRow ?xk_NoRow_0 ?xk_NoRow_1 ?xk_NoRow_2 ?xk_NoRow_3 ?xk_NoRow_4 ?xk_NoRow_5 ?xk_NoRow_6 ?xk_NoRow_7 ?xk_NoRow_8 ?xk_NoRow_9 ?xgg ?xtk ?pg_Desk ?hd_Desk ?po_Desk ?sa_Desk ?mk_Desk ?kc_Desk ?na_points_Desk ?nx_COUNTS ?yd_COUNTS ?hs_COUNTS ?y_COUNTS_0 ?w_COUNTS_0 ?d_COUNTS_0 ?e_COUNTS_0 ?y_COUNTS_1 ?w_COUNTS_1 ?d_COUNTS_1 ?e_COUNTS_1 ?y_COUNTS_2 ?w_COUNTS_2 ?d_COUNTS_2 ?e_COUNTS_2 ?y_COUNTS_3 ?w_COUNTS_3 ?d_COUNTS_3 ?e_COUNTS_3 ?y_COUNTS_4 ?w_COUNTS_4 ?d_COUNTS_4 ?e_COUNTS_4 ?y_COUNTS_5 ?w_COUNTS_5 ?d_COUNTS_5 ?e_COUNTS_5 ?y_COUNTS_6 ?w_COUNTS_6 ?d_COUNTS_6 ?e_COUNTS_6 ?y_COUNTS_7 ?w_COUNTS_7 ?d_COUNTS_7 ?e_COUNTS_7 ?y_COUNTS_8 ?w_COUNTS_8 ?d_COUNTS_8 ?e_COUNTS_8 ?y_COUNTS_9 ?w_COUNTS_9 ?d_COUNTS_9 ?e_COUNTS_9 ?y_COUNTS_10 ?w_COUNTS_10 ?d_COUNTS_10 ?e_COUNTS_10 ?y_COUNTS_11 ?w_COUNTS_11 ?d_COUNTS_11 ?e_COUNTS_11 ?y_COUNTS_12 ?w_COUNTS_12 ?d_COUNTS_12 ?e_COUNTS_12 ?y_COUNTS_13 ?w_COUNTS_13 ?d_COUNTS_13 ?e_COUNTS_13 ?y_COUNTS_14 ?w_COUNTS_14 ?d_COUNTS_14 ?e_COUNTS_14 ?nx_LEAST ?yd_LEAST ?hs_LEAST ?y_LEAST_0 ?w_LEAST_0 ?d_LEAST_0 ?e_LEAST_0 ?y_LEAST_1 ?w_LEAST_1 ?d_LEAST_1 ?e_LEAST_1 ?nx_CHANGES ?yd_CHANGES ?hs_CHANGES ?nx_ANSWERS ?yd_ANSWERS ?hs_ANSWERS
  (case aC_Desk=>k_is)
  (case a1=>k_is)
  (case l1=>k_is)
  (case c1=>k_is)
  (case k1=>k_is)
  (case a2=>k_is)
  (case l2=>k_is)
  (case c2=>k_is)
  (case k2=>k_is)
  (case a3=>k_is)
  (case l3=>k_is)
  (case c3=>k_is)
  (case k3=>k_is)
  (case a4=>k_is)
  (case l4=>k_is)
  (case c4=>k_is)
  (case k4=>k_is)
  (case a5=>k_is)
  (case l5=>k_is)
  (case c5=>k_is)
  (case k5=>k_is)
  (case a6=>k_is)
  (case l6=>k_is)
  (case c6=>k_is)
  (case k6=>k_is)
  (case a7=>k_is)
  (case l7=>k_is)
  (case c7=>k_is)
  (case k7=>k_is)
  (case a8=>k_is)
  (case l8=>k_is)
  (case c8=>k_is)
  (case k8=>k_is)
  (case a9=>k_is)
  (case l9=>k_is)
  (case c9=>k_is)
  (case k9=>k_is)
  (case a10=>k_is)
  (case l10=>k_is)
  (case c10=>k_is)
  (case k10=>k_is)
  (case a11=>k_is)
  (case l11=>k_is)
  (case c11=>k_is)
  (case k11=>k_is)
  (case a12=>k_is)
  (case l12=>k_is)
  (case c12=>k_is)
  (case k12=>k_is)
  (case a13=>k_is)
  (case l13=>k_is)
  (case c13=>k_is)
  (case k13=>k_is)
  (case a14=>k_is)
  (case l14=>k_is)
  (case c14=>k_is)
  (case k14=>k_is)
  (case a15=>k_is)
  (case l15=>k_is)
  (case c15=>k_is)
  (case k15=>k_is)
  (case a16=>k_is)
  (case l16=>k_is)
  (case c16=>k_is)
  (case k16=>k_is)
  (case a17=>k_is)
  (case l17=>k_is)
  (case c17=>k_is)
  (case k17=>k_is)
  (case a18=>k_is)
  (case l18=>k_is)
  (case c18=>k_is)
  (case k18=>k_is)
  (case a19=>k_is)
  (case l19=>k_is)
  (case c19=>k_is)
  (case k19=>k_is)
  (case a20=>k_is)
  (case l20=>k_is)
  (case c20=>k_is)
  (case k20=>k_is)
  (case a21=>k_is)
  (case l21=>k_is)
  (case c21=>k_is)
  (case k21=>k_is)
  (case a22=>k_is)
  (case l22=>k_is)
  (case c22=>k_is)
  (case k22=>k_is)
  (case a23=>k_is)
  (case l23=>k_is)
  (case c23=>k_is)
  (case k23=>k_is)
  (case a24=>k_is)
  (case l24=>k_is)
  (case c24=>k_is)
  (case k24=>k_is)
  (case a25=>k_is)
  (case l25=>k_is)
  (case c25=>k_is)
  (case k25=>k_is)
  (case a26=>k_is)
  (case l26=>k_is)
  (case c26=>k_is)
  (case k26=>k_is)
  (case a27=>k_is)
  (case i27=>k_is)
  (case l27=>k_is)
  (case c27=>k_is)
  (case k27=>k_is)
  (case a28=>k_is)
  (case l28=>k_is)
  (case c28=>k_is)
  (case k28=>k_is)
  (case a29=>k_is)
  (case l29=>k_is)
  (case c29=>k_is)
  (case k29=>k_is)
  (case a30=>k_is)
  (case l30=>k_is)
  (case c30=>k_is)
  (case k30=>k_is)
  (case a31=>k_is)
  (case l31=>k_is)
  (case c31=>k_is)
  (case k31=>k_is)
  (case a32=>k_is)
  (case l32=>k_is)
  (case c32=>k_is)
  (case k32=>k_is)
  (case a33=>k_is)
  (case l33=>k_is)
  (case c33=>k_is)
  (case k33=>k_is)
  (case a34=>k_is)
  (case i34=>k_is)
  (case l34=>k_is)
  (case c34=>k_is)
  (case k34=>k_is)
  (case a35=>k_is)
  (case l35=>k_is)
  (case c35=>k_is)
  (case k35=>k_is)
  (case a36=>k_is)
  (case l36=>k_is)
  (case c36=>k_is)
  (case k36=>k_is)
  (case z_len=>k_is)
  (case z_abs=>k_is)
  (case z_tuple=>k_is)
  (case z_str=>k_is)
  (case z_range=>k_is)
  (case z_isinstance=>k_is)
  (case z_ValueError=>k_is)
  (case z_set=>k_is)
  (case z_int=>k_is)
  (case z_bool=>k_is)
  (case z_all=>k_is)
  (case z_list=>k_is)
  (case z_zip=>k_is)
  (case x_MOST_TOLD=>k_is)
  (case x_FIGURES=>k_is)
  (case x_SIX=>k_is)
  (case nx_CurveError=>k_is)
  (case nx_TooMany=>k_is)
  (case nx_NoPoints=>k_is)
  (case nx_NoPoint=>k_is)
  (case nx_NoNumber=>k_is)
  (case nx_NoCurve=>k_is)
  (case nx_NoStretch=>k_is)
  (case nx_TooDeep=>k_is)
  (case nx_TooFew=>k_is)
  (case nx_NoText=>k_is)
  (case nx_NoRow=>k_is)
  (case xl_TooMany=>k_is)
  (case xex_TooMany=>k_exc)
  (case xga_TooMany=>k_is)
  (case xgt_TooMany=>k_is)
  (case xca_TooMany=>k_is)
  (case xob_TooMany=>k_is)
  (case xbe_TooMany=>k_is)
  (case xm_TooMany=>kts_exm)
  (case xv_TooMany=>kit_is)
  (case xk_TooMany_0=>kit_is)
  (case xk_TooMany_1=>kit_is)
  (case xk_TooMany_2=>kit_is)
  (case xk_TooMany_3=>kit_is)
  (case xk_TooMany_4=>kit_is)
  (case xk_TooMany_5=>kit_is)
  (case xk_TooMany_6=>kit_is)
  (case xk_TooMany_7=>kit_is)
  (case xk_TooMany_8=>kit_is)
  (case xk_TooMany_9=>kit_is)
  (case xl_NoPoints=>k_is)
  (case xex_NoPoints=>k_exc)
  (case xga_NoPoints=>k_is)
  (case xgt_NoPoints=>k_is)
  (case xca_NoPoints=>k_is)
  (case xob_NoPoints=>k_is)
  (case xbe_NoPoints=>k_is)
  (case xm_NoPoints=>kts_exm)
  (case xv_NoPoints=>kit_is)
  (case xk_NoPoints_0=>kit_is)
  (case xk_NoPoints_1=>kit_is)
  (case xk_NoPoints_2=>kit_is)
  (case xk_NoPoints_3=>kit_is)
  (case xk_NoPoints_4=>kit_is)
  (case xk_NoPoints_5=>kit_is)
  (case xk_NoPoints_6=>kit_is)
  (case xk_NoPoints_7=>kit_is)
  (case xk_NoPoints_8=>kit_is)
  (case xk_NoPoints_9=>kit_is)
  (case xl_NoText=>k_is)
  (case xex_NoText=>k_exc)
  (case xga_NoText=>k_is)
  (case xgt_NoText=>k_is)
  (case xca_NoText=>k_is)
  (case xob_NoText=>k_is)
  (case xbe_NoText=>k_is)
  (case xm_NoText=>kts_exm)
  (case xv_NoText=>kit_is)
  (case xk_NoText_0=>kit_is)
  (case xk_NoText_1=>kit_is)
  (case xk_NoText_2=>kit_is)
  (case xk_NoText_3=>kit_is)
  (case xk_NoText_4=>kit_is)
  (case xk_NoText_5=>kit_is)
  (case xk_NoText_6=>kit_is)
  (case xk_NoText_7=>kit_is)
  (case xk_NoText_8=>kit_is)
  (case xk_NoText_9=>kit_is)
  (case xl_NoRow=>k_is)
  (case xex_NoRow=>k_exc)
  (case xga_NoRow=>k_is)
  (case xgt_NoRow=>k_is)
  (case xca_NoRow=>k_is)
  (case xob_NoRow=>k_is)
  (case xbe_NoRow=>k_is)
  (case xm_NoRow=>kts_exm)
  (case xv_NoRow=>kit_is)
  (case xk_NoRow_0=>kit_is)
  (case xk_NoRow_1=>kit_is)
  (case xk_NoRow_2=>kit_is)
  (case xk_NoRow_3=>kit_is)
  (case xk_NoRow_4=>kit_is)
  (case xk_NoRow_5=>kit_is)
  (case xk_NoRow_6=>kit_is)
  (case xk_NoRow_7=>kit_is)
  (case xk_NoRow_8=>kit_is)
  (case xk_NoRow_9=>kit_is)
  (case xgg=>k_is)
  (case xtk=>k_is)
  (case pg_Desk=>first | k_is | rfl)
  (case hd_Desk=>first | k_is | rfl)
  (case po_Desk=>first | k_is | rfl)
  (case sa_Desk=>first | k_is | rfl)
  (case mk_Desk=>first | k_is | rfl)
  (case kc_Desk=>first | k_is | rfl)
  (case na_points_Desk=>first | k_is | rfl)
  (case nx_COUNTS=>first | k_is | rfl)
  (case yd_COUNTS=>first | k_is | rfl)
  (case hs_COUNTS=>rfl)
  (case y_COUNTS_0=>first | k_is | rfl)
  (case w_COUNTS_0=>rfl)
  (case d_COUNTS_0=>rfl)
  (case e_COUNTS_0=>rfl)
  (case y_COUNTS_1=>first | k_is | rfl)
  (case w_COUNTS_1=>rfl)
  (case d_COUNTS_1=>rfl)
  (case e_COUNTS_1=>rfl)
  (case y_COUNTS_2=>first | k_is | rfl)
  (case w_COUNTS_2=>rfl)
  (case d_COUNTS_2=>rfl)
  (case e_COUNTS_2=>rfl)
  (case y_COUNTS_3=>first | k_is | rfl)
  (case w_COUNTS_3=>rfl)
  (case d_COUNTS_3=>rfl)
  (case e_COUNTS_3=>rfl)
  (case y_COUNTS_4=>first | k_is | rfl)
  (case w_COUNTS_4=>rfl)
  (case d_COUNTS_4=>rfl)
  (case e_COUNTS_4=>rfl)
  (case y_COUNTS_5=>first | k_is | rfl)
  (case w_COUNTS_5=>rfl)
  (case d_COUNTS_5=>rfl)
  (case e_COUNTS_5=>rfl)
  (case y_COUNTS_6=>first | k_is | rfl)
  (case w_COUNTS_6=>rfl)
  (case d_COUNTS_6=>rfl)
  (case e_COUNTS_6=>rfl)
  (case y_COUNTS_7=>first | k_is | rfl)
  (case w_COUNTS_7=>rfl)
  (case d_COUNTS_7=>rfl)
  (case e_COUNTS_7=>rfl)
  (case y_COUNTS_8=>first | k_is | rfl)
  (case w_COUNTS_8=>rfl)
  (case d_COUNTS_8=>rfl)
  (case e_COUNTS_8=>rfl)
  (case y_COUNTS_9=>first | k_is | rfl)
  (case w_COUNTS_9=>rfl)
  (case d_COUNTS_9=>rfl)
  (case e_COUNTS_9=>rfl)
  (case y_COUNTS_10=>first | k_is | rfl)
  (case w_COUNTS_10=>rfl)
  (case d_COUNTS_10=>rfl)
  (case e_COUNTS_10=>rfl)
  (case y_COUNTS_11=>first | k_is | rfl)
  (case w_COUNTS_11=>rfl)
  (case d_COUNTS_11=>rfl)
  (case e_COUNTS_11=>rfl)
  (case y_COUNTS_12=>first | k_is | rfl)
  (case w_COUNTS_12=>rfl)
  (case d_COUNTS_12=>rfl)
  (case e_COUNTS_12=>rfl)
  (case y_COUNTS_13=>first | k_is | rfl)
  (case w_COUNTS_13=>rfl)
  (case d_COUNTS_13=>rfl)
  (case e_COUNTS_13=>rfl)
  (case y_COUNTS_14=>first | k_is | rfl)
  (case w_COUNTS_14=>rfl)
  (case d_COUNTS_14=>rfl)
  (case e_COUNTS_14=>rfl)
  (case nx_LEAST=>first | k_is | rfl)
  (case yd_LEAST=>first | k_is | rfl)
  (case hs_LEAST=>rfl)
  (case y_LEAST_0=>first | k_is | rfl)
  (case w_LEAST_0=>rfl)
  (case d_LEAST_0=>rfl)
  (case e_LEAST_0=>rfl)
  (case y_LEAST_1=>first | k_is | rfl)
  (case w_LEAST_1=>rfl)
  (case d_LEAST_1=>rfl)
  (case e_LEAST_1=>rfl)
  (case nx_CHANGES=>first | k_is | rfl)
  (case yd_CHANGES=>first | k_is | rfl)
  (case hs_CHANGES=>rfl)
  (case nx_ANSWERS=>first | k_is | rfl)
  (case yd_ANSWERS=>first | k_is | rfl)
  (case hs_ANSWERS=>rfl)
#print axioms PySem.Challenge.cw_onecurve_k67_rows_refused_at_a_desk_holds
