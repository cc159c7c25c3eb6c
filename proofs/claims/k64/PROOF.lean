import PyProof.Rows.All
import Wide.All
import OpenK.AllK
import Wide.FinOn
import Lean
import PyProof.EqAt
import PyProof.EqKinds
import PyProof.TupleCall
import KE.KLam
import KE.KNestM
import PySem.Challenge.RW_onecurve_k64_points_changed_at_a_desk
open Option renaming some → So, getD_some → Ul, map_eq_some_iff → Va
open PySem.W renaming instObj → Sr, methodObj → Ss, hideAll → Sy, of_hideAll → SA, Frag → SE, lookIn → T2, plainGet → T3, hasDictIn → T4, findIn → T5, plainGet_of → T6, isFn → T7, plainOver → T8, takerIn → T9, makesIn → Tb, emptyDict → Tc, specialIn → Tf, keepIn → Tg, mroIn → Tj, kitOne → Tn, kia_one → To, kitx_list → Tp, callWith_K → Tr, cellsFrom_some → Tw, fnOf → TQ, codeIn → TR, OpenLaw → U4, nsIn → Uo, excIn → Uq, mg_of → Ur, exmOne → UK, mg_none_of → Vd
open Nat renaming lt_of_lt_of_le → Su, lt_irrefl → Sv, ne_of_lt → Sw, le_trans → SG, le_of_lt → SH, ne_of_gt → SV, le_refl → SW, zero_le → T1, lt_succ_self → Ti, le_succ → Ts, min_le_right → TX, min_eq_left → TY, min_eq_right → TZ, lt_of_le_of_lt → U5, not_lt → Uc, lt_succ_of_lt → Ug, sub_lt_sub_left → Ui, zero_add → Uw, lt_or_ge → UO, lt_trans → UP, not_lt_zero → UQ, lt_trichotomy → UR, le_add_right → UT, add_sub_cancel → Vc
open List renaming range → Sx, mem_filter → Sz, mem_range → SD, filterMap_cons → SI, mem_cons_self → SJ, mem_cons_of_mem → SK, mem_cons → SM, mem_append → SN, mem_append_left → SO, getElem?_eq_some_iff → SQ, getElem?_set_self → SR, getElem?_set_ne → SS, mem_filterMap → SX, mem_append_right → SY, length_cons → Ta, lookup → Td, map_cons → Te, length_map → Th, append_nil → Tq, nodup_cons → Tt, of_mem_zip → Tu, replicate → Tv, length → Tx, length_take → Tz, getElem?_append_right → TC, getElem?_replicate → TF, getElem?_append_left → TH, getElem?_map → TJ, getElem?_take_of_lt → TK, mem_of_getElem? → TL, length_append → TM, length_replicate → TN, size_toArray → TU, length_drop → U0, length_set → U1, any_cons → U2, length_singleton → U3, find?_cons → U6, forIn_cons → U9, lookup_cons → Ua, all_eq_true → Ub, getD_eq_getElem?_getD → Ud, getElem?_drop → Ue, mem_singleton → Uh, getElem?_eq_getElem → Uj, getElem_mem → Uk, cons → Um, drop_zero → Us, take_of_length_le → Ut, length_range → Uy, getElem?_of_mem → UB, getElem_range → UC, filterMap_cons_some → UE, map_append → UG, length_eq_zero_iff → UI, take_add_one → UL, take_length → UM, pairwise_iff_getElem → UN, getElem?_cons_succ → US, mem_map → UW, append_assoc → UX, map_map → UY, mem_of_mem_take → V0, mem_or_eq_of_mem_set → V1, getElem?_take → V2, nodup_append → V3, pairwise_singleton → V4, map_singleton → V5, set_eq_take_append_cons_drop → V7, replicate_succ' → V8, map_replicate → V9, eq_nil_of_length_eq_zero → Vb
open Array renaming length_toList → SU, getElem?_toList → Ux, getD_eq_getD_getElem? → Uz, getElem?_setIfInBounds_ne → UA, getElem?_eq_getElem → UD, replicate → UH, getElem?_eq_some_iff → UJ, getElem?_setIfInBounds → UU, all_eq_true' → UZ
open Int renaming toNat_natCast → TV, gcd → U7, emod_nonneg → Uu, emod_lt_of_pos → Uv, natCast_nonneg → V6
open Rat renaming divInt → U8
set_option Elab.async false
set_option linter.all false
set_option maxRecDepth 100000
def PySem.W.Fast.tw11551035625198223459 : Unit := ()
def PySem.W.Fast.tw6430216176785174681 : Unit := ()
def PySem.W.Fast.tw3647506103418065830 : Unit := ()
def PySem.W.Fast.tw8652606531853447430 : Unit := ()
def PySem.W.Fast.tw12600986460215746521 : Unit := ()
def PySem.W.Fast.tw16156531822901150848 : Unit := ()
def PySem.W.Fast.tw17995831548903249077 : Unit := ()
def PySem.W.Fast.tw4349086225591987104 : Unit := ()
def PySem.W.Fast.tw16476309637179774507 : Unit := ()
def PySem.W.Fast.tw10727745878077593539 : Unit := ()
def PySem.W.Fast.tw16963355737192293252 : Unit := ()
def PySem.W.Fast.tw14133214668321589594 : Unit := ()
def PySem.W.Fast.tw15907899601189671491 : Unit := ()
def PySem.W.Fast.tw13791088588405483266 : Unit := ()
def PySem.W.Fast.tw11007294475530563535 : Unit := ()
def PySem.W.Fast.tw5802136952342732369 : Unit := ()
def PySem.W.Fast.tw17327258937719769749 : Unit := ()
def PySem.W.Fast.tw4350815776203002379 : Unit := ()
def PySem.W.Fast.tw2971110750642716655 : Unit := ()
def PySem.W.Fast.tw8445394877626628703 : Unit := ()
def PySem.W.Fast.tw3087598524068303787 : Unit := ()
def PySem.W.Fast.tw6907198427832384120 : Unit := ()
def PySem.W.Fast.tw11932656125198246662 : Unit := ()
def PySem.W.Fast.tw58727109729296271 : Unit := ()
def PySem.W.Fast.tw16663665872693583879 : Unit := ()
def PySem.W.Fast.tw16187243010738414880 : Unit := ()
def PySem.W.Fast.tw10875894179560836994 : Unit := ()
def PySem.W.Fast.tw45587561405241109 : Unit := ()
def PySem.W.Fast.tw9786901057210549964 : Unit := ()
def PySem.W.Fast.tw6700848251746395416 : Unit := ()
def PySem.W.Fast.tw7029062910374691035 : Unit := ()
def PySem.W.Fast.tw17035058623459334709 : Unit := ()
def PySem.W.Fast.tw15278149986580057852 : Unit := ()
def PySem.W.Fast.tw4962163642110340596 : Unit := ()
def PySem.W.Fast.tw10086163200740409125 : Unit := ()
def PySem.W.Fast.tw9760925466902936584 : Unit := ()
def PySem.W.Fast.tw458424175314854565 : Unit := ()
def PySem.W.Fast.tw13805201485325413149 : Unit := ()
def PySem.W.Fast.tw10872739280795056216 : Unit := ()
def PySem.W.Fast.tw6764302976007871798 : Unit := ()
def PySem.W.Fast.tw17870516956767888997 : Unit := ()
def PySem.W.Fast.tw8960253024066001690 : Unit := ()
def PySem.W.Fast.tw7909468246413039282 : Unit := ()
def PySem.W.Fast.tw17468564105531723366 : Unit := ()
def PySem.W.Fast.tw17894986314786945117 : Unit := ()
def PySem.W.Fast.tw17047305155303337922 : Unit := ()
def PySem.W.Fast.tw18259054480742618924 : Unit := ()
def PySem.W.Fast.tw2023049991557454867 : Unit := ()
def PySem.W.Fast.tw14444243655846921180 : Unit := ()
def PySem.W.Fast.tw5620308575535154993 : Unit := ()
def PySem.W.Fast.tw12444765193489341390 : Unit := ()
def PySem.W.Fast.tw6636171649978883540 : Unit := ()
def PySem.W.Fast.tw14767149804701304144 : Unit := ()
def PySem.W.Fast.tw17298743294678249128 : Unit := ()
def PySem.W.Fast.tw4305700656662797487 : Unit := ()
def PySem.W.Fast.tw34973819011298372 : Unit := ()
def PySem.W.Fast.tw4122762355578813193 : Unit := ()
def PySem.W.Fast.tw8813971360865096443 : Unit := ()
def PySem.W.Fast.tw7471604116040055179 : Unit := ()
def PySem.W.Fast.tw15231123294709006171 : Unit := ()
def PySem.W.Fast.tw7998882145499527291 : Unit := ()
def PySem.W.Fast.tw18077252451504420907 : Unit := ()
def PySem.W.Fast.tw8444485474815169660 : Unit := ()
def PySem.W.Fast.tw14083174811912550360 : Unit := ()
def PySem.W.Fast.tw10832372714902493594 : Unit := ()
def PySem.W.Fast.tw15049915579882222966 : Unit := ()
def PySem.W.Fast.tw475504637203379571 : Unit := ()
def PySem.W.Fast.tw10526450278244441347 : Unit := ()
def PySem.W.Fast.tw13693151698970425645 : Unit := ()
def PySem.W.Fast.tw1131947718004389158 : Unit := ()
def PySem.W.Fast.tw1187621738648859521 : Unit := ()
def PySem.W.Fast.tw15514582627573258888 : Unit := ()
def PySem.W.Fast.tw12751941453178770398 : Unit := ()
def PySem.W.Fast.tw13768022111668724869 : Unit := ()
def PySem.W.Fast.tw12694839693287152077 : Unit := ()
def PySem.W.Fast.tw682118853340491869 : Unit := ()
def PySem.W.Fast.tw15125249793092713167 : Unit := ()
def PySem.W.Fast.tw14566508052013018515 : Unit := ()
def PySem.W.Fast.tw14867786009866499097 : Unit := ()
def PySem.W.Fast.tw11557597321514647845 : Unit := ()
def PySem.W.Fast.tw17523141691240183947 : Unit := ()
def PySem.W.Fast.tw1260109841076350968 : Unit := ()
def PySem.W.Fast.tw17140658278270960245 : Unit := ()
def PySem.W.Fast.tw4021553388958230548 : Unit := ()
def PySem.W.Fast.tw3854841386772124976 : Unit := ()
def PySem.W.Fast.tw361988391260621986 : Unit := ()
def PySem.W.Fast.tw7679866490473911567 : Unit := ()
def PySem.W.Fast.tw1794366587606141612 : Unit := ()
def PySem.W.Fast.tw7402331550376179462 : Unit := ()
def PySem.W.Fast.tw13044712297643904012 : Unit := ()
def PySem.W.Fast.tw8240843510282647560 : Unit := ()
def PySem.W.Fast.tw4413022062167165213 : Unit := ()
def PySem.W.Fast.tw1184046474409959372 : Unit := ()
def PySem.W.Fast.tw13785016668194262028 : Unit := ()
def PySem.W.Fast.tw12604268014939324214 : Unit := ()
def PySem.W.Fast.tw5768017029299390605 : Unit := ()
def PySem.W.Fast.tw4850474363754552651 : Unit := ()
def PySem.W.Fast.tw9011261684028344089 : Unit := ()
def PySem.W.Fast.tw9769508752530027236 : Unit := ()
def PySem.W.Fast.tw17459055506807565144 : Unit := ()
def PySem.W.Fast.tw16614997268779884555 : Unit := ()
def PySem.W.Fast.tw1209302167439636750 : Unit := ()
def PySem.W.Fast.tw11715771771521356290 : Unit := ()
def PySem.W.Fast.tw11583934255650758092 : Unit := ()
def PySem.W.Fast.tw68583207552925679 : Unit := ()
def PySem.W.Fast.tw14910196054460333845 : Unit := ()
def PySem.W.Fast.tw3181263768780339815 : Unit := ()
def PySem.W.Fast.tw16561358892256376566 : Unit := ()
def PySem.W.Fast.tw15047622715211203024 : Unit := ()
def PySem.W.Fast.tw3456759982494602791 : Unit := ()
def PySem.W.Fast.tw8051175819202115056 : Unit := ()
def PySem.W.Fast.tw15852167397033561657 : Unit := ()
def PySem.W.Fast.tw2344555252993093685 : Unit := ()
def PySem.W.Fast.tw12671635077959887559 : Unit := ()
def PySem.W.Fast.tw2696803057755942406 : Unit := ()
def PySem.W.Fast.tw2502255005325697731 : Unit := ()
def PySem.W.Fast.tw12551272122512833202 : Unit := ()
def PySem.W.Fast.tw4389886886427072020 : Unit := ()
def PySem.W.Fast.tw621280365857966615 : Unit := ()
def PySem.W.Fast.tw1738568732085095695 : Unit := ()
def PySem.W.Fast.tw1493195895237328973 : Unit := ()
def PySem.W.Fast.tw16010082561611172176 : Unit := ()
def PySem.W.Fast.tw3560395354772753168 : Unit := ()
def PySem.W.Fast.tw2606605179533921204 : Unit := ()
def PySem.W.Fast.tw10010073308102505051 : Unit := ()
def PySem.W.Fast.tw6272106215586880770 : Unit := ()
def PySem.W.Fast.tw12450439599250325617 : Unit := ()
def PySem.W.Fast.tw10561614532807449646 : Unit := ()
def PySem.W.Fast.tw9077499961655234275 : Unit := ()
def PySem.W.Fast.tw4896991943567978086 : Unit := ()
def PySem.W.Fast.tw14351239917468089635 : Unit := ()
def PySem.W.Fast.tw17981127900538233253 : Unit := ()
def PySem.W.Fast.tw12883226717174072929 : Unit := ()
def PySem.W.Fast.tw1717908055543718119 : Unit := ()
def PySem.W.Fast.tw15115280993331158948 : Unit := ()
def PySem.W.Fast.tw13766890929068508089 : Unit := ()
def PySem.W.Fast.tw15951822209966280781 : Unit := ()
def PySem.W.Fast.tw14080317841664900947 : Unit := ()
def PySem.W.Fast.tw17574924007504898019 : Unit := ()
def PySem.W.Fast.tw7158325666586535050 : Unit := ()
def PySem.W.Fast.tw3033000801795871308 : Unit := ()
def PySem.W.Fast.tw5644102173096833478 : Unit := ()
def PySem.W.Fast.tw11936862169826932937 : Unit := ()
def PySem.W.Fast.tw1573883241084570941 : Unit := ()
def PySem.W.Fast.tw5966370430561559827 : Unit := ()
def PySem.W.Fast.tw6669637016587956254 : Unit := ()
def PySem.W.Fast.tw14676607702438317844 : Unit := ()
def PySem.W.Fast.tw6296442822449079070 : Unit := ()
def PySem.W.Fast.tw3646038578455805271 : Unit := ()
def PySem.W.Fast.tw1716020845021695711 : Unit := ()
def PySem.W.Fast.tw9347881946896426695 : Unit := ()
def PySem.W.Fast.tw14141145716924045246 : Unit := ()
def PySem.W.Fast.tw993318610756450481 : Unit := ()
def PySem.W.Fast.tw5615041290372728251 : Unit := ()
def PySem.W.Fast.tw13745468481787434895 : Unit := ()
def PySem.W.Fast.tw8726136223719687720 : Unit := ()
def PySem.W.Fast.tw12712464894885122247 : Unit := ()
def PySem.W.Fast.tw18046769329787935796 : Unit := ()
def PySem.W.Fast.tw11021576845535984082 : Unit := ()
def PySem.W.Fast.tw5598960901190125371 : Unit := ()
def PySem.W.Fast.tw9873085400873918191 : Unit := ()
def PySem.W.Fast.tw12711737379761468000 : Unit := ()
def PySem.W.Fast.tw6685873950768423580 : Unit := ()
def PySem.W.Fast.tw5786802440916883519 : Unit := ()
def PySem.W.Fast.tw4252253213113263801 : Unit := ()
def PySem.W.Fast.tw2374508889342742352 : Unit := ()
def PySem.W.Fast.tw11563222243963900501 : Unit := ()
def PySem.W.Fast.tw3779278523833752615 : Unit := ()
def PySem.W.Fast.tw10735498157041466061 : Unit := ()
def PySem.W.Fast.tw3296228719597986181 : Unit := ()
def PySem.W.Fast.tw17941838207570625409 : Unit := ()
def PySem.W.Fast.tw5967894683388254108 : Unit := ()
def PySem.W.Fast.tw17754226604838882737 : Unit := ()
def PySem.W.Fast.tw15912748628071754266 : Unit := ()
def PySem.W.Fast.tw8948394456235634372 : Unit := ()
def PySem.W.Fast.tw16696970110862347987 : Unit := ()
def PySem.W.Fast.tw10288005310680499490 : Unit := ()
def PySem.W.Fast.tw15167467963170242115 : Unit := ()
def PySem.W.Fast.tw9487412729115586208 : Unit := ()
def PySem.W.Fast.tw14819705321083490113 : Unit := ()
def PySem.W.Fast.tw8289436998967072545 : Unit := ()
def PySem.W.Fast.tw1266551375814185321 : Unit := ()
def PySem.W.Fast.tw7214506149311207702 : Unit := ()
def PySem.W.Fast.tw18019686006727952325 : Unit := ()
def PySem.W.Fast.tw7052487374083455452 : Unit := ()
def PySem.W.Fast.tw3234516348037348279 : Unit := ()
def PySem.W.Fast.tw98228648622377046 : Unit := ()
def PySem.W.Fast.tw5221072658367912132 : Unit := ()
def PySem.W.Fast.tw8598008129510287140 : Unit := ()
def PySem.W.Fast.tw10812323210790656532 : Unit := ()
def PySem.W.Fast.tw1726650934361328923 : Unit := ()
def PySem.W.Fast.tw6566435876232116532 : Unit := ()
def PySem.W.Fast.tw14203232895248225991 : Unit := ()
def PySem.W.Fast.tw8622572040931022249 : Unit := ()
def PySem.W.Fast.tw4770844647068181574 : Unit := ()
def PySem.W.Fast.tw14512900130325651676 : Unit := ()
def PySem.W.Fast.tw2369676268678431522 : Unit := ()
def PySem.W.Fast.tw12291773697627041310 : Unit := ()
def PySem.W.Fast.tw15693690533555310053 : Unit := ()
def PySem.W.Fast.tw9818848077531319480 : Unit := ()
def PySem.W.Fast.tw2464449550956264604 : Unit := ()
def PySem.W.Fast.tw8907380731241373628 : Unit := ()
def PySem.W.Fast.tw12583791730926513808 : Unit := ()
def PySem.W.Fast.tw16825922959432277694 : Unit := ()
def PySem.W.Fast.tw8082525622098575004 : Unit := ()
def PySem.W.Fast.tw11732770032957261708 : Unit := ()
def PySem.W.Fast.tw1235205170296859753 : Unit := ()
def PySem.W.Fast.tw10608064211566036177 : Unit := ()
def PySem.W.Fast.tw15490191427132048272 : Unit := ()
def PySem.W.Fast.tw493863384071365690 : Unit := ()
def PySem.W.Fast.tw16271440589024261677 : Unit := ()
def PySem.W.Fast.tw11623062517991078843 : Unit := ()
def PySem.W.Fast.tw17366483908993452237 : Unit := ()
def PySem.W.Fast.tw3107251899477543632 : Unit := ()
def PySem.W.Fast.tw9456907927593901006 : Unit := ()
def PySem.W.Fast.tw8578183088252433100 : Unit := ()
def PySem.W.Fast.tw1087128724078904015 : Unit := ()
def PySem.W.Fast.tw5626402333611626420 : Unit := ()
def PySem.W.Fast.tw3844435602250123641 : Unit := ()
def PySem.W.Fast.tw16014238922788342806 : Unit := ()
def PySem.W.Fast.tw5577183979937703330 : Unit := ()
def PySem.W.Fast.tw11317107572557847266 : Unit := ()
def PySem.W.Fast.tw9436797506925631088 : Unit := ()
def PySem.W.Fast.tw14844654170374437369 : Unit := ()
def PySem.W.Fast.tw14423270745371902628 : Unit := ()
def PySem.W.Fast.tw8686948558297565097 : Unit := ()
set_option maxRecDepth 100000 in
set_option maxHeartbeats 0 in
open_top zzH for PySem.Challenge.rw_onecurve_k64_points_changed_at_a_desk
namespace L2
open PySem PySem.Spec PyProof.Rows
abbrev Key := Sum Int Str
def Hw : Key → Value → Bool
 | .inl k, v => Value.isInt k v
 | .inr x, v => Value.isStrOf x v
def Qn (w : World) : Key → Int
 | .inl k => hashInt k
 | .inr x => hashStr w x
theorem Bp : ∀ {k : Key} {v : Value}, Hw k v = true → (∃ i t, k = Sum.inl i ∧ v = Value.int i t) ∨ (∃ x t, k = Sum.inr x ∧ v = Value.str x t)
 | .inl i, v, h => by
   obtain ⟨t, e⟩ := Value.isInt_shape (k := i) (v := v) h
   exact .inl ⟨i, t, rfl, e⟩
 | .inr x, v, h => by
   obtain ⟨t, e⟩ := Value.isStrOf_shape (x := x) (v := v) h
   exact .inr ⟨x, t, rfl, e⟩
theorem LD (i : Int) (t : Tok) : Hw (.inl i) (.int i t) = true := by simp [Hw, Value.isInt]
theorem LC (x : Str) (t : Tok) : Hw (.inr x) (.str x t) = true := by simp [Hw, Value.isStrOf]
theorem OP (a b : Int) : decide ((Sum.inl a : Key) = Sum.inl b) = (a == b) := by
 by_cases e : a = b
 ·subst e; simp
 ·have h : ¬ (Sum.inl a : Key) = Sum.inl b := fun q => e (Sum.inl.inj q)
  rw [decide_eq_false h]
  exact (beq_eq_false_iff_ne.mpr e).symm
theorem OM (a b : Str) : decide ((Sum.inr a : Key) = Sum.inr b) = decide (a = b) := by
 by_cases e : a = b
 ·subst e; simp
 ·have h : ¬ (Sum.inr a : Key) = Sum.inr b := fun q => e (Sum.inr.inj q)
  rw [decide_eq_false h, decide_eq_false e]
theorem OO (a : Int) (b : Str) : decide ((Sum.inl a : Key) = Sum.inr b) = false := decide_eq_false (fun q => nomatch q)
theorem ON (a : Str) (b : Int) : decide ((Sum.inr a : Key) = Sum.inl b) = false := decide_eq_false (fun q => nomatch q)
def BK (prog : Program) (w : World) : PySem.KeyKind prog w Key where
 is := Hw
 hash := Qn w
 inj := fun v a b ha hb => by
  rcases Bp ha with ⟨i, t, rfl, rfl⟩ | ⟨x, t, rfl, rfl⟩
  ·rcases Bp hb with ⟨j, u, rfl, e⟩ | ⟨y, u, rfl, e⟩
   ·injection e with e1 _; rw [e1]
   ·exact nomatch e
  ·rcases Bp hb with ⟨j, u, rfl, e⟩ | ⟨y, u, rfl, e⟩
   ·exact nomatch e
   ·injection e with e1 _; rw [e1]
 byValue := fun k v h => by
  rcases Bp h with ⟨i, t, rfl, rfl⟩ | ⟨x, t, rfl, rfl⟩ <;> rfl
 pyHash := fun hv h => by
  rcases Bp hv with ⟨i, t, rfl, rfl⟩ | ⟨x, t, rfl, rfl⟩
  ·exact wpAny_pyHash_int h
  ·exact wpAny_pyHash_str h
 eqBool := fun hu hv h => by
  rcases Bp hu with ⟨i, t, rfl, rfl⟩ | ⟨x, t, rfl, rfl⟩
  ·rcases Bp hv with ⟨j, u, rfl, rfl⟩ | ⟨y, u, rfl, rfl⟩
   ·rw [OP] at h; exact wpAny_eqBool_int h
   ·rw [OO] at h; exact SeqAt.EqAt.int_str i t y u _ _ _ _ h
  ·rcases Bp hv with ⟨j, u, rfl, rfl⟩ | ⟨y, u, rfl, rfl⟩
   ·rw [ON] at h; exact SeqAt.EqAt.str_int x t j u _ _ _ _ h
   ·rw [OM] at h; exact wpAny_eqBool_str h
 «strs» := fun k x t v h => by
  rcases Bp h with ⟨i, u, rfl, e⟩ | ⟨y, u, rfl, e⟩
  ·exact nomatch e
  ·injection e with e1 _
   subst e1
   cases v <;> rfl
theorem Jo (prog : Program) (w : World) (i : Int) (t : Tok) : (BK prog w).is (.inl i) (.int i t) = true := LD i t
theorem Jn (prog : Program) (w : World) (x : Str) (t : Tok) : (BK prog w).is (.inr x) (.str x t) = true := LC x t
end L2
namespace L2
open PySem PySem.Spec PyProof.Rows
inductive V where
 | non | bl (b : Bool) | int (i : Int) | str (x : Str) | byt (b : Array UInt8) | flt (b : UInt64) | ref (a : Addr) | ty (n : String)
 deriving DecidableEq
def AS : V → Value → Prop
 | .non, u => u = Value.none
 | .bl b, u => u = Value.bool b
 | .int i, u => ∃ t, u = Value.int i t
 | .str x, u => ∃ t, u = Value.str x t
 | .byt b, u => ∃ t, u = Value.bytes b t
 | .flt b, u => ∃ t, u = Value.float b t
 | .ref a, u => u = Value.ref a
 | .ty n, u => u = Value.type n
abbrev AQ : List V → List Value → Prop := Paired AS
theorem AQ.length {xs : List V} {us : List Value} (r : AQ xs us) : xs.length = us.length := Paired.length r
theorem AQ.get : ∀ {xs : List V} {us : List Value} {i : Nat} {x : V}, AQ xs us → xs[i]? = some x → ∃ u, us[i]? = some u ∧ AS x u
 | _, _, _, _, .nil, e => by simp at e
 | _, _, 0, _, .cons r _, e => by simp at e; subst e; exact ⟨_, rfl, r⟩
 | _, _, i + 1, x, .cons _ t, e => by
   obtain ⟨u, h1, h2⟩ := AQ.get (i := i) (x := x) t (by simpa using e)
   exact ⟨u, by simpa using h1, h2⟩
theorem AQ.set {x : V} {u : Value} (r : AS x u) : ∀ {xs : List V} {us : List Value} (i : Nat), AQ xs us → AQ (xs.set i x) (us.set i u)
 | _, _, _, .nil => .nil
 | _, _, 0, .cons _ t => .cons r t
 | _, _, i + 1, .cons q t => .cons q (AQ.set r i t)
theorem AQ.append {xs ys : List V} {us ws : List Value} (a : AQ xs us) (b : AQ ys ws) : AQ (xs ++ ys) (us ++ ws) := by
 induction a with
 | nil => exact b
 | cons r t ih => exact .cons r ih
theorem AQ.take : ∀ {xs : List V} {us : List Value} (n : Nat), AQ xs us → AQ (xs.take n) (us.take n)
 | _, _, 0, _ => .nil
 | _, _, _ + 1, .nil => .nil
 | _, _, n + 1, .cons r t => .cons r (AQ.take n t)
theorem AQ.drop : ∀ {xs : List V} {us : List Value} (n : Nat), AQ xs us → AQ (xs.drop n) (us.drop n)
 | _, _, 0, r => r
 | _, _, _ + 1, .nil => .nil
 | _, _, n + 1, .cons _ t => AQ.drop n t
def DS : Option V → Option Value → Prop
 | some v, some u => AS v u
 | none, none => True
 | _, _ => False
def KV {κ : Type} : List (κ × V) → List (κ × Value) → Prop := Paired fun (p : κ × V) (q : κ × Value) => p.1 = q.1 ∧ AS p.2 q.2
def kV : Key → V
 | .inl i => .int i
 | .inr x => .str x
inductive HO where
 | lst (xs : List V)
 | tup (xs : List V)
 | dK (kvs : List (Key × V)) | dT (kvs : List (List Key × V))
 | set (S : Int → Bool) (n : Nat)
 | ins (C dx : Addr) (fs : List (Str × V))
 | own (x : Addr)
 | xd (fs : List (Str × V))
 | met (f x : Addr)
 | rng (lo hi : Int)
 | frz (o : Obj) (u : HO)
 | tbl (ps : Array Value)
 | ext (φ : Heap → Prop)
abbrev Hp := Addr → Option HO
def upd (H : Hp) (a : Addr) (o : HO) : Hp := fun b => if b = a then some o else H b
theorem Ac {H : Hp} {a : Addr} {o : HO} : upd H a o a = some o := by unfold upd; rw [if_pos rfl]
theorem AA {H : Hp} {a b : Addr} {o : HO} (h : b ≠ a) : upd H a o b = H b := by unfold upd; rw [if_neg h]
theorem Na {H : Hp} {a : Addr} {o u : HO} : upd (upd H a o) a u = upd H a u := by
 funext b; unfold upd; split <;> rfl
theorem C5 {H : Hp} {a b : Addr} {o u : HO} (h : H a = some o) (h' : H b = some u) (d : o ≠ u) : a ≠ b := by
 intro e; subst e; rw [h] at h'; exact d (So.inj h')
theorem AE {H : Hp} {a b : Addr} {o : HO} (h : H a = some o) (h' : H b = none) : a ≠ b := by
 intro e; subst e; rw [h] at h'; cases h'
section
variable (P : Program) (w : World)
def Bt (H : Hp) (h : Heap) (a : Addr) : HO → Prop
 | .lst xs => xs.length ≤ sizeLine ∧ ∃ (its : List Value) (n : Nat), AQ xs its ∧ h.get? a = some { cls := .type "list", data := .seq its.toArray n }
 | .tup xs => xs.length ≤ sizeLine ∧ ∃ its : List Value, AQ xs its ∧ IsTup h a its.toArray
 | .dK kvs => kvs.length ≤ sizeLine ∧ (a == sysModules) = false ∧ ∃ vs, KV kvs vs ∧ h.DictOf (BK P w) a vs
 | .dT kvs => kvs.length ≤ sizeLine ∧ (a == sysModules) = false ∧ ∃ xs : List (List Key × Addr × Value),
  Paired (fun (p : List Key × V) (q : List Key × Addr × Value) => p.1 = q.1 ∧ H q.2.1 = some (.tup (p.1.map kV)) ∧ AS p.2 q.2.2) kvs xs ∧
  ∃ o es ep, h.get? a = some o ∧ o.ExactDict ∧ o.data = .dict es ep ∧ es.toList = xs.map (entryOfKey (tupleKind (BK P w))) ∧ (xs.map (·.1)).Nodup
 | .set S n => h.SetOf (intKind P w) a S n
 | .ins C dx fs => H dx = some (.own a) ∧ fs.length ≤ 1000 ∧ dx ≠ a ∧ h.get? a = some (Sr C dx) ∧
  ∃ mA, h.Ns1 dx mA ∧ (∀ f, DS (fs.lookup f) (mA f)) ∧ PySem.Within mA (fs.map (·.1))
 | .own _ => ∃ o, h.get? a = some o
 | .xd fs => ∃ mA, h.Ns1 a mA ∧ ∀ f, DS (fs.lookup f) (mA f)
 | .rng lo hi => ∃ t u v, h.get? a = some { cls := .type "range", data := .fields #[.int lo t, .int hi u, .int 1 v] }
 | .frz o u => h.get? a = some o ∧ Bt H h a u
 | .tbl ps => h.get? a = some { cls := .none, data := .fields ps }
 | .met f x => h.get? a = some (Ss (.ref f) (.ref x))
 | .ext φ => φ h ∧ (∃ o, h.get? a = some o) ∧ ∀ h1 h2 : Heap, φ h1 → (∀ o, h1.get? a = some o → h2.get? a = some o) → φ h2
def HOk (H : Hp) (h : Heap) : Prop := ∀ a o, H a = some o → Bt P w H h a o
end
section
variable {P : Program} {w : World} {H H' : Hp} {h h' : Heap} {a : Addr} {o : HO}
theorem Bt.lt (x : Bt P w H h a o) : a < h.objs.size := by
 cases o with
 | lst xs => obtain ⟨_, _, _, _, e⟩ := x; exact Heap.lt_size e
 | tup xs => obtain ⟨_, _, _, p⟩ := x; exact p.lt
 | dK kvs => obtain ⟨_, _, _, _, o, _, _, e, _⟩ := x; exact Heap.lt_size e
 | dT kvs => obtain ⟨_, _, _, _, o, _, _, e, _⟩ := x; exact Heap.lt_size e
 | set S n => obtain ⟨o, _, _, _, e, _⟩ := x; exact Heap.lt_size e
 | ins C dx fs => obtain ⟨_, _, _, e, _⟩ := x; exact Heap.lt_size e
 | own y => obtain ⟨_, e⟩ := x; exact Heap.lt_size e
 | xd fs => obtain ⟨_, ⟨_, _, _, e, _⟩, _⟩ := x; exact Heap.lt_size e
 | rng lo hi => obtain ⟨_, _, _, e⟩ := x; exact Heap.lt_size e
 | frz ob u => obtain ⟨e, _⟩ := x; exact Heap.lt_size e
 | tbl ps => exact Heap.lt_size (show h.get? a = some _ from x)
 | met f y => exact Heap.lt_size (show h.get? a = some _ from x)
 | ext φ => obtain ⟨_, ⟨_, e⟩, _⟩ := x; exact Heap.lt_size e
theorem Paired.mapP {α β : Type} {F G : α → β → Prop} {l₁ : List α} {l₂ : List β} (h : Paired F l₁ l₂) (f : ∀ a b, F a b → G a b) : Paired G l₁ l₂ := by
 induction h with
 | nil => exact .nil
 | cons r t ih => exact .cons (f _ _ r) ih
theorem Bt.stay (x : Bt P w H h a o) (k : ∀ b u, (b = a ∨ H b = some (.own a)) → h.get? b = some u → h'.get? b = some u)
 (ho : ∀ b, H b = some (.own a) → H' b = some (.own a)) (ht : ∀ b xs, H b = some (.tup xs) → H' b = some (.tup xs)) : Bt P w H' h' a o := by
 induction o with
 | lst xs => obtain ⟨z, its, n, r, e⟩ := x; exact ⟨z, its, n, r, k _ _ (.inl rfl) e⟩
 | tup xs => obtain ⟨z, its, r, ob, e, c⟩ := x; exact ⟨z, its, r, ob, k _ _ (.inl rfl) e, c⟩
 | dK kvs => obtain ⟨z, y, vs, r, ob, es, ep, e, c⟩ := x; exact ⟨z, y, vs, r, ob, es, ep, k _ _ (.inl rfl) e, c⟩
 | dT kvs =>
   obtain ⟨z, y, xs, r, ob, es, ep, e, c⟩ := x
   exact ⟨z, y, xs, Paired.mapP r fun p q z => ⟨z.1, ht _ _ z.2.1, z.2.2⟩, ob, es, ep, k _ _ (.inl rfl) e, c⟩
 | set S n => obtain ⟨ob, es, ep, t, e, c⟩ := x; exact ⟨ob, es, ep, t, k _ _ (.inl rfl) e, c⟩
 | ins C dx fs =>
   obtain ⟨d, z, ne, e, mA, ⟨od, es, ep, e2, c⟩, r⟩ := x
   exact ⟨ho _ d, z, ne, k _ _ (.inl rfl) e, mA, ⟨od, es, ep, k _ _ (.inr d) e2, c⟩, r⟩
 | own y => obtain ⟨ob, e⟩ := x; exact ⟨ob, k _ _ (.inl rfl) e⟩
 | xd fs => obtain ⟨mA, ⟨od, es, ep, e, c⟩, r⟩ := x; exact ⟨mA, ⟨od, es, ep, k _ _ (.inl rfl) e, c⟩, r⟩
 | rng lo hi => obtain ⟨t, u, v, e⟩ := x; exact ⟨t, u, v, k _ _ (.inl rfl) e⟩
 | frz ob u ih => obtain ⟨e, q⟩ := x; exact ⟨k _ _ (.inl rfl) e, ih q⟩
 | tbl ps =>
   have e : h.get? a = some { cls := .none, data := .fields ps } := x
   show h'.get? a = some { cls := .none, data := .fields ps }
   exact k a _ (.inl rfl) e
 | met f y =>
   have e : h.get? a = some (Ss (.ref f) (.ref y)) := x
   show h'.get? a = some (Ss (.ref f) (.ref y))
   exact k a _ (.inl rfl) e
 | ext φ => obtain ⟨p, ⟨o, e⟩, st⟩ := x; exact ⟨st _ _ p fun o q => k _ _ (.inl rfl) q, ⟨o, k _ _ (.inl rfl) e⟩, st⟩
theorem HOk.lt (x : HOk P w H h) (e : H a = some o) : a < h.objs.size := (x a o e).lt
theorem HOk.fresh (x : HOk P w H h) (e : h.objs.size ≤ a) : H a = none := by
 cases q : H a with
 | none => rfl
 | some u => exact absurd (Su (x.lt q) e) (Sv _)
theorem HOk.kept (x : HOk P w H h) (k : ∀ b u, h.get? b = some u → h'.get? b = some u) : HOk P w H h' := fun a o e =>
 (x a o e).stay (fun b u _ q => k b u q) (fun _ q => q) fun _ _ q => q
theorem HOk.laid (x : HOk P w H h) (k : ∀ b u, h.get? b = some u → h'.get? b = some u) (hp : h.objs.size ≤ a) (new : Bt P w (upd H a o) h' a o) : HOk P w (upd H a o) h' := fun b u e => by
 have hn := x.fresh hp
 by_cases hb : b = a
 ·subst hb; rw [Ac] at e; cases e; exact new
 ·rw [AA hb] at e
  exact (x b u e).stay (fun c v _ q => k c v q) (fun c q => by rw [AA (AE q hn)]; exact q) fun c xs q => by rw [AA (AE q hn)]; exact q
end
def Rd (H : Hp) (a : Addr) (u : HO) : Prop := H a = some u ∨ ∃ o, H a = some (.frz o u)
theorem Rd.ok {P : Program} {w : World} {H : Hp} {h : Heap} {a : Addr} {u : HO} (r : Rd H a u) (x : HOk P w H h) : Bt P w H h a u := by
 rcases r with r | ⟨o, r⟩
 ·exact x a u r
 ·obtain ⟨_, q⟩ := x a _ r
  exact q
def Mut : Option HO → Prop
 | some (.lst _) => True
 | some (.dK _) => True
 | some (.dT _) => True
 | some (.set _ _) => True
 | some (.ins _ _ _) => True
 | some (.ext _) => True
 | _ => False
section
variable {P : Program} {w : World} {H : Hp} {h h' : Heap} {x e : Addr} {o' : HO}
theorem HOk.write (ok : HOk P w H h) (mu : Mut (H x)) (he : e = x ∨ H e = some (.own x)) (k : ∀ b u, b ≠ e → h.get? b = some u → h'.get? b = some u) (heo : ∃ u, h'.get? e = some u)
 (new : Bt P w (upd H x o') h' x o') : HOk P w (upd H x o') h' := fun b u q => by
 have nown : ∀ c y, H c = some (.own y) → c ≠ x := fun c y r z => by subst z; rw [r] at mu; exact mu
 have ntup : ∀ c xs, H c = some (.tup xs) → c ≠ x := fun c xs r z => by subst z; rw [r] at mu; exact mu
 by_cases hb : b = x
 ·subst hb; rw [Ac] at q; cases q; exact new
 ·rw [AA hb] at q
  by_cases hbe : b = e
  ·have q' : H b = some (.own x) := by
    rcases he with z | z
    ·exact absurd (hbe.trans z) hb
    ·rw [hbe]; exact z
   rw [q] at q'; cases q'
   obtain ⟨v, hv⟩ := heo
   exact ⟨v, by rw [hbe]; exact hv⟩
  ·refine (ok b u q).stay (fun c v hc r => k c v ?_ r) (fun c r => by rw [AA (nown c b r)]; exact r) fun c xs r => by rw [AA (ntup c xs r)]; exact r
   rcases hc with rfl | hc
   ·exact hbe
   ·rintro rfl
    rcases he with z | z
    ·exact nown c b hc z
    ·rw [hc] at z; cases z; exact hb rfl
end
structure Un (fs ex : List Addr) (H H' : Hp) (h h' : Heap) : Prop where
 keep : ∀ b o, h.get? b = some o → H b = none → b ∉ fs → b ∉ ex → h'.get? b = some o
 slot : ∀ b o, h.get? b = some o → H b = none → b ∈ fs → b ∉ ex → ∃ sl, h'.get? b = some { o with slots := sl }
 free : ∀ b o, h.get? b = some o → H b = none → b ∉ ex → H' b = none
 there : ∀ b o, h.get? b = some o → b ∉ ex → ∃ o', h'.get? b = some o'
 tups : ∀ b xs, H b = some (.tup xs) → H' b = some (.tup xs)
 frzs : ∀ b o u, H b = some (.frz o u) → H' b = some (.frz o u)
 tbls : ∀ b ps, H b = some (.tbl ps) → ∃ more, H' b = some (.tbl (ps ++ more))
section
variable {fs fs' ex ex' : List Addr} {H H1 H2 : Hp} {h h1 h2 h' : Heap} {a x e : Addr} {o : HO}
theorem Un.any (u : Un fs ex H H1 h h1) {b : Addr} {ob : Obj} (q : h.get? b = some ob) (n : H b = none) (hx : b ∉ ex) : ∃ sl, h1.get? b = some { ob with slots := sl } := by
 by_cases hb : b ∈ fs
 ·exact u.slot b ob q n hb hx
 ·exact ⟨ob.slots, u.keep b ob q n hb hx⟩
theorem Un.kept (k : ∀ b u, h.get? b = some u → h'.get? b = some u) : Un fs ex H H h h' :=
 ⟨fun b ob q _ _ _ => k b ob q, fun b ob q _ _ _ => ⟨ob.slots, k b ob q⟩, fun _ _ _ n _ => n, fun b ob q _ => ⟨ob, k b ob q⟩, fun _ _ q => q, fun _ _ _ q => q, fun _ ps q => ⟨#[], by rw [q]; simp⟩⟩
theorem Un.refl : Un fs ex H H h h := Un.kept fun _ _ q => q
theorem Un.laid (k : ∀ b u, h.get? b = some u → h'.get? b = some u) (hp : h.objs.size ≤ a) (hn : H a = none) : Un fs ex H (upd H a o) h h' where
 keep := fun b u q _ _ _ => k b u q
 slot := fun b u q _ _ _ => ⟨u.slots, k b u q⟩
 free := fun b u q n _ => by rw [AA (Sw (Su (Heap.lt_size q) hp))]; exact n
 there := fun b u q _ => ⟨u, k b u q⟩
 tups := fun b xs q => by rw [AA (AE q hn)]; exact q
 frzs := fun b u xs q => by rw [AA (AE q hn)]; exact q
 tbls := fun b ps q => ⟨#[], by rw [AA (AE q hn), q]; simp⟩
theorem Un.write (mu : Mut (H x)) (he : e = x ∨ H e = some (.own x)) (k : ∀ b u, b ≠ e → h.get? b = some u → h'.get? b = some u) (heo : ∃ u, h'.get? e = some u) : Un fs ex H (upd H x o) h h' := by
 have hx : ∀ b, H b = none → b ≠ x := fun b n z => by subst z; rw [n] at mu; exact mu
 have hb : ∀ b, H b = none → b ≠ e := fun b n z => by
  subst z
  rcases he with r | r
  ·exact hx b n r
  ·rw [n] at r; cases r
 have hm : ∀ b u, H b = some u → ¬ Mut (some u) → b ≠ x := fun b u q nm z => by subst z; rw [q] at mu; exact nm mu
 refine ⟨fun b u q n _ _ => k b u (hb b n) q, fun b u q n _ _ => ⟨u.slots, k b u (hb b n) q⟩, fun b u q n _ => by rw [AA (hx b n)]; exact n, fun b u q _ => ?_,
  fun b xs q => by rw [AA (hm b _ q fun z => z)]; exact q, fun b u xs q => by rw [AA (hm b _ q fun z => z)]; exact q, fun b ps q => ⟨#[], by rw [AA (hm b _ q fun z => z), q]; simp⟩⟩
 by_cases hbe : b = e
 ·subst hbe; exact heo
 ·exact ⟨u, k b u hbe q⟩
end
def trk (h : Heap) (H : Hp) : List Addr := (Sx h.objs.size).filter fun a => (H a).isSome
def Hb (h : Heap) (H : Hp) : Heap := Sy h (trk h H)
theorem LG (h : Heap) (H : Hp) : (Hb h H).objs.size = h.objs.size := PySem.W.hideAll_size _ _
theorem MP {h : Heap} {H : Hp} {b : Addr} {o : Obj} (e : h.get? b = some o) (n : H b = none) : (Hb h H).get? b = some o :=
 PySem.W.hideAll_get _ e fun hm => by
  have q : (H b).isSome = true := (Sz.mp hm).2
  rw [n] at q; simp at q
theorem Nx {h : Heap} {H : Hp} {b : Addr} {o : Obj} (e : (Hb h H).get? b = some o) : h.get? b = some o ∧ H b = none := by
 have e' : h.get? b = some o := SA (trk h H) e
 refine ⟨e', ?_⟩
 cases q : H b with
 | none => rfl
 | some x =>
   have hm : b ∈ trk h H := Sz.mpr ⟨SD.mpr (Heap.lt_size e'), by simp [q]⟩
   have z : (Hb h H).get? b = none := PySem.W.hideAll_none (trk h H) hm
   rw [z] at e; cases e
def NL (g h : Heap) (L : Addr) : List (Addr × Obj) := (Sx h.objs.size).filterMap fun a => if a = L ∨ (g.get? a).isSome = true then none else (h.get? a).map fun o => (a, o)
def Bu (g h : Heap) (L d : Addr) : List (Addr × Obj) := (NL g h L).filter fun p => decide (p.1 ≠ d)
end L2
namespace L2
open PySem PySem.Spec PyProof.Rows
structure Mod (K : SE) (mg : Str → Option Value) (base : Heap) : Prop where
 kin : K.In base
 glob : base.Ns mainGlobals mg
 blt : ∃ mb, base.Ns builtinsNs mb ∧ ∀ x : Str, x ≠ "__name__" → mb x = bootBuiltins x
 nolimit : base.NoLimit
 seer : base.NoSeer
structure Cx where
 prog : Program
 w : World
 K : SE
 mg : Str → Option Value
 base : Heap
 A : Around
 N : List Str
 s₀ : Shared
 H₀ : Hp
 env : Env
 outer : List Env
 stack : List Env
 ex : List Addr
 fn : Str → Bool
 calm : Bool
 pn : List (Addr × Obj)
 xe : Value → Shared → Prop
def frs (l : List Env) : List Addr := l.filterMap (·.frame)
abbrev Cx.fs (X : Cx) : List Addr := frs X.outer
def Vis (sc : Scope) (x : Str) : Prop := sc.names.lookup x = some .local ∨ sc.names.lookup x = some .cell ∨ sc.names.lookup x = some .free
def Loc (sc : Scope) (x : Str) : Prop := sc.names.lookup x = some .local ∨ sc.names.lookup x = some .cell
def Qc (env : Env) (h : Heap) (m : Str → Option Value) (x : Str) (u : Value) : Prop :=
 (env.kindOf x = some .local ∧ m x = some u) ∨ ((env.kindOf x = some .cell ∨ env.kindOf x = some .free) ∧ ∃ c, env.cells.lookup x = some c ∧ h.IsCell c (some u))
structure Cx.Ok (X : Cx) : Prop where
 mod : Mod X.K X.mg X.base
 kind : X.env.scope.kind = .function
 glob : X.env.globals = mainGlobals
 blt : X.env.builtins = builtinsNs
 above : X.s₀.heap.objs.size ≤ X.env.locals
 inj : ∀ x y c, X.env.cells.lookup x = some c → X.env.cells.lookup y = some c → x = y
 has : ∀ x, (X.env.kindOf x = some .cell ∨ X.env.kindOf x = some .free) → ∃ c, X.env.cells.lookup x = some c
 cab : ∀ x c, X.fn x = true → X.env.cells.lookup x = some c → X.s₀.heap.objs.size ≤ c
 hd : X.calm = true → X.A.handled = none
 frames : X.A.frames = some X.stack
 stk : X.stack = X.outer ∨ (X.stack = X.env :: X.outer ∧ X.env.frame = some X.env.locals)
 exf : ∀ b ∈ X.ex, b ≠ X.env.locals ∧ ∀ x c, X.env.cells.lookup x = some c → c ≠ b
 bs : ∀ b o, X.base.get? b = some o → X.s₀.heap.get? b = some o ∧ X.H₀ b = none
 bsz : X.base.objs.size ≤ X.s₀.heap.objs.size
 noex : ∀ b o, X.base.get? b = some o → b ∉ X.ex
 exfs : ∀ b ∈ X.ex, b ∉ X.fs
 funs : X.s₀.heap.FunFrames X.base X.outer
 frf : ∀ b ∈ X.fs, X.H₀ b = none
structure Inv (X : Cx) (pins : List (Addr × Obj)) (σ : List (Option V)) (H : Hp) (s : Shared) : Prop where
 ok : X.Ok
 os : s.os = X.s₀.os
 bare : AllBare s.gens
 base : Un X.fs X.ex X.H₀ H X.s₀.heap s.heap
 loc : ∃ m, s.heap.Ns X.env.locals m ∧ ∀ (i : Nat) (x : Str) (v : V), X.N[i]? = some x → σ[i]? = some (some v) → Vis X.env.scope x → ∃ u, AS v u ∧ Qc X.env s.heap m x u
 cell : ∀ x c, X.env.cells.lookup x = some c → ∃ v, s.heap.IsCell c v
 free : H X.env.locals = none
 freeC : ∀ x c, X.env.cells.lookup x = some c → H c = none
 pin : ∀ p ∈ X.pn ++ pins, s.heap.get? p.1 = some p.2 ∧ H p.1 = none ∧ p.1 ≠ X.env.locals ∧ p.1 ∉ X.fs ∧ ∀ v, p.2.data ≠ .cell v
 hok : HOk X.prog X.w H s.heap
 len : σ.length = X.N.length
section
variable {X : Cx} {pins : List (Addr × Obj)} {σ : List (Option V)} {H H' : Hp} {s : Shared} {h' : Heap}
theorem Cx.Ok.nofr (ok : X.Ok) {b : Addr} {o : Obj} (e : X.base.get? b = some o) : b ∉ X.fs := fun hb => by
 have := (ok.funs.mem hb).1
 rw [e] at this; cases this
theorem Inv.bs (I : Inv X pins σ H s) : ∀ b o, X.base.get? b = some o → s.heap.get? b = some o ∧ H b = none := fun b o e =>
 ⟨I.base.keep b o (I.ok.bs b o e).1 (I.ok.bs b o e).2 (I.ok.nofr e) (I.ok.noex b o e), I.base.free b o (I.ok.bs b o e).1 (I.ok.bs b o e).2 (I.ok.noex b o e)⟩
theorem Inv.bk (I : Inv X pins σ H s) : ∀ b o, X.base.get? b = some o → s.heap.get? b = some o := fun b o e => (I.bs b o e).1
theorem Inv.mod (I : Inv X pins σ H s) : Mod X.K X.mg X.base := I.ok.mod
theorem Inv.kIn (I : Inv X pins σ H s) : X.K.In s.heap := I.ok.mod.kin.keeps I.bk
theorem Inv.nolimit (I : Inv X pins σ H s) : s.heap.NoLimit := I.ok.mod.nolimit.keeps I.bk
theorem Inv.lt (I : Inv X pins σ H s) : X.env.locals < s.heap.objs.size := let ⟨_, hn, _⟩ := I.loc; hn.lt
theorem Inv.sz (I : Inv X pins σ H s) : X.s₀.heap.objs.size ≤ s.heap.objs.size := SG I.ok.above (SH I.lt)
theorem Inv.nofs (I : Inv X pins σ H s) {a : Addr} (h : s.heap.objs.size ≤ a) : a ∉ X.fs := fun hb => by
 obtain ⟨_, o, ho, _⟩ := I.ok.funs.mem hb
 exact absurd (Su (Heap.lt_size ho) (SG I.sz h)) (Sv _)
theorem Inv.cne (I : Inv X pins σ H s) : ∀ x c, X.env.cells.lookup x = some c → c ≠ X.env.locals := fun x c e z => by
 obtain ⟨v, o, ho, hd⟩ := I.cell x c e
 obtain ⟨m, ⟨o', es, ep, ho', hd', _⟩, _⟩ := I.loc
 rw [z, ho'] at ho; cases ho; rw [hd'] at hd; cases hd
theorem Inv.funs (I : Inv X pins σ H s) : s.heap.FunFrames X.base X.outer := by
 have all : ∀ (l : List Env), (∀ b ∈ frs l, b ∈ X.fs) → X.s₀.heap.FunFrames X.base l → s.heap.FunFrames X.base l := by
  intro l
  induction l with
  | nil => intro _ _; trivial
  | cons env r ih =>
    intro hs hl
    obtain ⟨hk, ⟨L, o, hf, hn, ho, hd⟩, hr⟩ := hl
    have hL : L ∈ X.fs := hs L (by unfold frs; rw [SI, hf]; exact SJ)
    obtain ⟨sl, e⟩ := I.base.slot L o ho (I.ok.frf L hL) hL fun z => I.ok.exfs L z hL
    exact ⟨hk, ⟨L, _, hf, hn, e, hd⟩, ih (fun b hb => hs b (by unfold frs; rw [SI, hf]; exact SK _ hb)) hr⟩
 exact all X.outer (fun _ hb => hb) I.ok.funs
theorem Inv.stack (I : Inv X pins σ H s) : s.heap.FunFrames X.base X.stack := by
 rcases I.ok.stk with e | ⟨e, hf⟩
 ·rw [e]; exact I.funs
 ·rw [e]
  obtain ⟨m, hn, _⟩ := I.loc
  refine .cons (by rw [I.ok.kind]; decide) hf hn ?_ I.funs
  exact Heap.get?_none_of_le (SG I.ok.bsz I.ok.above)
theorem Inv.stkSub (I : Inv X pins σ H s) : ∀ b ∈ frs X.stack, b ∈ X.env.locals :: X.fs := fun b hb => by
 rcases I.ok.stk with e | ⟨e, hf⟩
 ·rw [e] at hb; exact SK _ hb
 ·rw [e] at hb
  unfold frs at hb
  rw [SI, hf] at hb
  exact hb
theorem Inv.stkFree (I : Inv X pins σ H s) : ∀ b ∈ frs X.stack, H b = none := fun b hb => by
 rcases SM.mp (I.stkSub b hb) with e | hb
 ·rw [e]; exact I.free
 ·obtain ⟨_, o, ho, _⟩ := I.ok.funs.mem hb
  exact I.base.free b o ho (I.ok.frf b hb) fun z => I.ok.exfs b z hb
theorem Inv.step {g' : Array GenState} {t' : Nat} {d' : Drawn} {ch : List Addr} (I : Inv X pins σ H s)
 (hch : ∀ b ∈ ch, (b ∈ X.ex ∨ X.s₀.heap.objs.size ≤ b) ∧ b ≠ X.env.locals ∧ (∀ x c, X.env.cells.lookup x = some c → c ≠ b) ∧ ∀ p ∈ X.pn ++ pins, p.1 ≠ b)
 (keep : ∀ b o, b ≠ X.env.locals → b ∉ X.fs → b ∉ ch → s.heap.get? b = some o → H b = none → h'.get? b = some o)
 (slot : ∀ b o, b ≠ X.env.locals → b ∈ X.fs → b ∉ ch → s.heap.get? b = some o → H b = none → ∃ sl, h'.get? b = some { o with slots := sl }) (free : ∀ b o, b ∉ ch → s.heap.get? b = some o → H b = none → H' b = none)
 (there : ∀ b o, b ∉ ch → s.heap.get? b = some o → ∃ o', h'.get? b = some o')
 (tups : ∀ b xs, H b = some (.tup xs) → H' b = some (.tup xs)) (frzs : ∀ b o u, H b = some (.frz o u) → H' b = some (.frz o u)) (tbls : ∀ b ps, H b = some (.tbl ps) → ∃ more, H' b = some (.tbl (ps ++ more)))
 (ns : ∀ m, s.heap.Ns X.env.locals m → h'.Ns X.env.locals m) (hok : HOk X.prog X.w H' h') (hg : AllBare g') :
 Inv X pins σ H' { s with heap := h', gens := g', drawn := d', toks := t' } := by
 have neL : ∀ b o, X.s₀.heap.get? b = some o → b ≠ X.env.locals := fun b o e => Sw (Su (Heap.lt_size e) I.ok.above)
 have neC : ∀ b o, X.s₀.heap.get? b = some o → b ∉ X.ex → b ∉ ch := fun b o e hx hb => by
  rcases (hch b hb).1 with z | z
  ·exact hx z
  ·exact absurd (Su (Heap.lt_size e) z) (Sv _)
 have cellK : ∀ x c, X.env.cells.lookup x = some c → ∀ v, s.heap.IsCell c v → h'.IsCell c v := fun x c e v ⟨o, ho, hd⟩ => by
  have nch : c ∉ ch := fun z => (hch c z).2.2.1 x c e rfl
  by_cases hc : c ∈ X.fs
  ·obtain ⟨sl, q⟩ := slot c o (I.cne x c e) hc nch ho (I.freeC x c e)
   exact ⟨_, q, hd⟩
  ·exact ⟨o, keep c o (I.cne x c e) hc nch ho (I.freeC x c e), hd⟩
 refine ⟨I.ok, I.os, hg, ⟨fun b o e n hb hx => ?_, fun b o e n hb hx => ?_, fun b o e n hx => ?_, fun b o e hx => ?_, fun b xs e => tups b xs (I.base.tups b xs e), fun b o xs e => frzs b o xs (I.base.frzs b o xs e), fun b ps e => ?_⟩, ?_, fun x c e => ?_, ?_, fun x c e => ?_, fun p hp => ?_, hok, I.len⟩
 ·exact keep b o (neL b o e) hb (neC b o e hx) (I.base.keep b o e n hb hx) (I.base.free b o e n hx)
 ·obtain ⟨sl, e1⟩ := I.base.slot b o e n hb hx
  obtain ⟨sl', e2⟩ := slot b _ (neL b o e) hb (neC b o e hx) e1 (I.base.free b o e n hx)
  exact ⟨sl', e2⟩
 ·obtain ⟨o', e1⟩ := I.base.there b o e hx
  exact free b o' (neC b o e hx) e1 (I.base.free b o e n hx)
 ·obtain ⟨o', e1⟩ := I.base.there b o e hx
  exact there b o' (neC b o e hx) e1
 ·obtain ⟨m1, e1⟩ := I.base.tbls b ps e
  obtain ⟨m2, e2⟩ := tbls b _ e1
  exact ⟨m1 ++ m2, by rw [e2, Array.append_assoc]⟩
 ·obtain ⟨m, hn, hl⟩ := I.loc
  refine ⟨m, ns m hn, fun i x v e1 e2 e3 => ?_⟩
  obtain ⟨u, r, l⟩ := hl i x v e1 e2 e3
  refine ⟨u, r, ?_⟩
  rcases l with l | ⟨k, c, e, z⟩
  ·exact .inl l
  ·exact .inr ⟨k, c, e, cellK x c e _ z⟩
 ·obtain ⟨v, z⟩ := I.cell x c e
  exact ⟨v, cellK x c e v z⟩
 ·obtain ⟨m, ⟨o, _, _, ho, _⟩, _⟩ := I.loc
  exact free _ o (fun z => (hch _ z).2.1 rfl) ho I.free
 ·obtain ⟨v, o, ho, hd⟩ := I.cell x c e
  exact free c o (fun z => (hch c z).2.2.1 x c e rfl) ho (I.freeC x c e)
 ·obtain ⟨e, n, ne, nf, d⟩ := I.pin p hp
  have nch : p.1 ∉ ch := fun z => (hch p.1 z).2.2.2 p hp rfl
  exact ⟨keep p.1 p.2 ne nf nch e n, free p.1 p.2 nch e n, ne, nf, d⟩
theorem Inv.un {t' : Nat} (I : Inv X pins σ H s) (u : Un X.fs [] H H' s.heap h') (hok : HOk X.prog X.w H' h') : Inv X pins σ H' { s with heap := h', toks := t' } := by
 obtain ⟨m, ⟨o, es, ep, ho, r⟩, _⟩ := id I.loc
 obtain ⟨sl, hL⟩ := u.any ho I.free (by simp)
 exact I.step (g' := s.gens) (d' := s.drawn) (ch := []) (fun _ z => nomatch z) (fun b o _ hb _ e n => u.keep b o e n hb (by simp)) (fun b o _ hb _ e n => u.slot b o e n hb (by simp)) (fun b o _ e n => u.free b o e n (by simp)) (fun b o _ e => u.there b o e (by simp)) u.tups u.frzs u.tbls (fun m' hm => by
  obtain ⟨o', es', ep', ho', r'⟩ := hm
  rw [ho] at ho'; cases ho'
  exact ⟨_, es', ep', hL, r'⟩) hok I.bare
theorem Inv.call {g' : Array GenState} {t' : Nat} {d' : Drawn} {ch : List Addr} (I : Inv X pins σ H s) (u : Un (frs X.stack) ch H H' s.heap h') (hok : HOk X.prog X.w H' h') (hg : AllBare g')
 (hch : ∀ b ∈ ch, (b ∈ X.ex ∨ X.s₀.heap.objs.size ≤ b) ∧ b ≠ X.env.locals ∧ (∀ x c, X.env.cells.lookup x = some c → c ≠ b) ∧ ∀ p ∈ X.pn ++ pins, p.1 ≠ b) :
 Inv X pins σ H' { s with heap := h', gens := g', drawn := d', toks := t' } := by
 obtain ⟨m, ⟨o, es, ep, ho, r⟩, _⟩ := id I.loc
 obtain ⟨sl, hL⟩ := u.any ho I.free fun z => (hch _ z).2.1 rfl
 exact I.step (ch := ch) hch (fun b o hL hb hc e n => u.keep b o e n (fun z => (SM.mp (I.stkSub b z)).elim hL hb) hc) (fun b o _ _ hc e n => u.any e n hc) (fun b o hc e n => u.free b o e n hc) (fun b o hc e => u.there b o e hc) u.tups u.frzs u.tbls (fun m' hm => by
  obtain ⟨o', es', ep', ho', r'⟩ := hm
  rw [ho] at ho'; cases ho'
  exact ⟨_, es', ep', hL, r'⟩) hok hg
theorem Inv.turned {t' : Nat} {it : Addr} (I : Inv X pins σ H s) (k : ∀ b o, b ≠ it → s.heap.get? b = some o → h'.get? b = some o) (hn : H it = none) (hL : it ≠ X.env.locals)
 (h1 : it ∈ X.ex ∨ X.s₀.heap.objs.size ≤ it) (h2 : ∀ x c, X.env.cells.lookup x = some c → c ≠ it) (h3 : ∀ p ∈ X.pn ++ pins, p.1 ≠ it) : Inv X pins σ H { s with heap := h', toks := t' } := by
 have nit : ∀ b u, H b = some u → b ≠ it := fun b u e z => by rw [z, hn] at e; cases e
 refine I.step (g' := s.gens) (d' := s.drawn) (ch := [it]) (fun b hb => ?_) (fun b o _ _ hc e _ => k b o (fun z => hc (by simp [z])) e) (fun b o _ _ hc e _ => ⟨o.slots, k b o (fun z => hc (by simp [z])) e⟩) (fun _ _ _ _ n => n)
  (fun b o hc e => ⟨o, k b o (fun z => hc (by simp [z])) e⟩) (fun _ _ e => e) (fun _ _ _ e => e) (fun b ps e => ⟨#[], by rw [e]; simp⟩) (fun m hm => ?_) (fun b u e => ?_) I.bare
 ·have e : b = it := by simpa using hb
  subst e
  exact ⟨h1, hL, h2, h3⟩
 ·obtain ⟨o, es, ep, ho, r⟩ := hm
  exact ⟨o, es, ep, k _ o (Ne.symm hL) ho, r⟩
 ·refine (I.hok b u e).stay (fun c v hc q => k c v ?_ q) (fun _ q => q) fun _ _ q => q
  rcases hc with z | z
  ·rw [z]; exact nit b u e
  ·exact nit c _ z
theorem Inv.tok (I : Inv X pins σ H s) (t : Nat) : Inv X pins σ H { s with toks := t } := I.un (h' := s.heap) (t' := t) Un.refl I.hok
theorem Inv.kept {t' : Nat} (I : Inv X pins σ H s) (k : ∀ b u, s.heap.get? b = some u → h'.get? b = some u) : Inv X pins σ H { s with heap := h', toks := t' } := I.un (Un.kept k) (I.hok.kept k)
theorem Inv.laid {a : Addr} {o : HO} {t' : Nat} (I : Inv X pins σ H s) (k : ∀ b u, s.heap.get? b = some u → h'.get? b = some u) (hp : s.heap.objs.size ≤ a) (new : Bt X.prog X.w (upd H a o) h' a o) :
 Inv X pins σ (upd H a o) { s with heap := h', toks := t' } := I.un (Un.laid k hp (I.hok.fresh hp)) (I.hok.laid k hp new)
theorem Inv.write {x e : Addr} {o : HO} {t' : Nat} (I : Inv X pins σ H s) (mu : Mut (H x)) (he : e = x ∨ H e = some (.own x)) (k : ∀ b u, b ≠ e → s.heap.get? b = some u → h'.get? b = some u) (heo : ∃ u, h'.get? e = some u)
 (new : Bt X.prog X.w (upd H x o) h' x o) : Inv X pins σ (upd H x o) { s with heap := h', toks := t' } := I.un (Un.write mu he k heo) (I.hok.write mu he k heo new)
theorem Inv.weak {σ' : List (Option V)} (I : Inv X pins σ H s) (hl : σ'.length = σ.length) (w : ∀ (i : Nat) v, σ'[i]? = some (some v) → σ[i]? = some (some v)) : Inv X pins σ' H s :=
 ⟨I.ok, I.os, I.bare, I.base, let ⟨m, hn, hl'⟩ := I.loc; ⟨m, hn, fun i x v e1 e2 e3 => hl' i x v e1 (w i v e2) e3⟩, I.cell, I.free, I.freeC, I.pin, I.hok, hl.trans I.len⟩
theorem Inv.pins_of {pins' : List (Addr × Obj)} (I : Inv X pins σ H s) (h : ∀ p ∈ pins', s.heap.get? p.1 = some p.2 ∧ H p.1 = none ∧ p.1 ≠ X.env.locals ∧ p.1 ∉ X.fs ∧ ∀ v, p.2.data ≠ .cell v) : Inv X pins' σ H s :=
 ⟨I.ok, I.os, I.bare, I.base, I.loc, I.cell, I.free, I.freeC, fun p hp => (SN.mp hp).elim (fun z => I.pin p (SO _ z)) (h p), I.hok, I.len⟩
theorem Gm {N : List Str} (hN : N.Nodup) {i j : Nat} {x : Str} (a : N[i]? = some x) (b : N[j]? = some x) : i = j := by
 obtain ⟨h1, e1⟩ := SQ.mp a
 obtain ⟨h2, e2⟩ := SQ.mp b
 exact (List.getElem_inj hN).mp (e1.trans e2.symm)
theorem EG {M : Model} {A : Around} {E : Value → Shared → Prop} {i : Nat} {x : Str} {v : V} {u : Value} {Q : Unit → Shared → Prop} (I : Inv X pins σ H s) (hN : X.N.Nodup) (hi : X.N[i]? = some x) (hx : Loc X.env.scope x) (r : AS v u)
 (h : ∀ s', Inv X pins (σ.set i (some v)) H s' → (∃ a, Heap.SameBut a s.heap s'.heap ∧ (a = X.env.locals ∨ X.env.cells.lookup x = some a)) → Q () s') (hf : X.fn x = true ∨ X.env.scope.names.lookup x = some .local := by first | exact .inl rfl | exact .inr rfl | assumption) : wpAny M A (storeName X.env x u) Q E s := by
 obtain ⟨m, hn, hl⟩ := id I.loc
 have hcls : (X.env.scope.kind == .class || (X.env.scope.kind == .module && X.env.locals != X.env.globals)) = false := by rw [I.ok.kind]; rfl
 have hiσ : i < σ.length := by rw [I.len]; exact (SQ.mp hi).1
 have cne := I.cne
 have tracked : ∀ {a : Addr} {h' : Heap}, (∃ o, s.heap.get? a = some o ∧ H a = none) → Heap.SameBut a s.heap h' → HOk X.prog X.w H h' := fun {a h'} ha hs b ob e => by
  obtain ⟨_, _, hfree⟩ := ha
  refine (I.hok b ob e).stay (fun c w' hc q => (hs.2 c ?_).trans q) (fun _ q => q) fun _ _ q => q
  rintro rfl
  rcases hc with rfl | hc
  ·rw [hfree] at e; cases e
  ·rw [hfree] at hc; cases hc
 rcases hx with hk | hk
 ·refine wpAny_storeName_local hk hn (fun h' hn' hs => ?_) hcls
  obtain ⟨oL, _, _, hoL, _⟩ := id hn
  refine h _ ⟨I.ok, I.os, I.bare, ⟨fun b o e n hb hx => ?_, fun b o e n hb hx => ?_, I.base.free, fun b o e hx => ?_, I.base.tups, I.base.frzs, I.base.tbls⟩, ⟨_, hn', fun j y v' e1 e2 e3 => ?_⟩, fun y c e => ?_, I.free, I.freeC, fun p hp => ?_, tracked ⟨oL, hoL, I.free⟩ hs, by simpa using I.len⟩ ⟨_, hs, .inl rfl⟩
  ·exact (hs.2 b (Sw (Su (Heap.lt_size e) I.ok.above))).trans (I.base.keep b o e n hb hx)
  ·obtain ⟨sl, e1⟩ := I.base.slot b o e n hb hx
   exact ⟨sl, (hs.2 b (Sw (Su (Heap.lt_size e) I.ok.above))).trans e1⟩
  ·obtain ⟨o', e1⟩ := I.base.there b o e hx
   exact ⟨o', (hs.2 b (Sw (Su (Heap.lt_size e) I.ok.above))).trans e1⟩
  ·by_cases hj : j = i
   ·subst hj
    rw [hi] at e1; cases e1
    rw [SR hiσ] at e2
    cases e2
    exact ⟨u, r, .inl ⟨hk, by simp⟩⟩
   ·rw [SS (Ne.symm hj)] at e2
    obtain ⟨u', r', q⟩ := hl j y v' e1 e2 e3
    refine ⟨u', r', ?_⟩
    rcases q with ⟨k, e⟩ | ⟨k, c, e, z⟩
    ·refine .inl ⟨k, ?_⟩
     have : y ≠ x := fun e => hj (Gm hN e1 (e ▸ hi))
     simp [this, e]
    ·exact .inr ⟨k, c, e, z.sameBut hs (cne y c e)⟩
  ·obtain ⟨w', z⟩ := I.cell y c e
   exact ⟨w', z.sameBut hs (cne y c e)⟩
  ·obtain ⟨e, n, ne, nf, d⟩ := I.pin p hp
   exact ⟨(hs.2 p.1 ne).trans e, n, ne, nf, d⟩
 ·have hfn : X.fn x = true := by
   rcases hf with z | z
   ·exact z
   ·rw [z] at hk; cases hk
  obtain ⟨c, hc⟩ := I.ok.has x (.inl hk)
  obtain ⟨w', z⟩ := I.cell x c hc
  refine wpAny_storeName_cell I.ok.kind hk hc z (fun h' hc' hs => ?_)
  obtain ⟨oc, hoc, hocd⟩ := id z
  refine h { s with heap := h' } ⟨I.ok, I.os, I.bare, ⟨fun b o e n hb hx => ?_, fun b o e n hb hx => ?_, I.base.free, fun b o e hx => ?_, I.base.tups, I.base.frzs, I.base.tbls⟩, ⟨m, hn.sameBut hs (Ne.symm (cne x c hc)), fun j y v' e1 e2 e3 => ?_⟩, fun y c' e => ?_, I.free, I.freeC, fun p hp => ?_, tracked ⟨oc, hoc, I.freeC x c hc⟩ hs, by simpa using I.len⟩ ⟨c, hs, .inr hc⟩
  ·exact (hs.2 b (Sw (Su (Heap.lt_size e) (I.ok.cab x c hfn hc)))).trans (I.base.keep b o e n hb hx)
  ·obtain ⟨sl, e1⟩ := I.base.slot b o e n hb hx
   exact ⟨sl, (hs.2 b (Sw (Su (Heap.lt_size e) (I.ok.cab x c hfn hc)))).trans e1⟩
  ·obtain ⟨o', e1⟩ := I.base.there b o e hx
   exact ⟨o', (hs.2 b (Sw (Su (Heap.lt_size e) (I.ok.cab x c hfn hc)))).trans e1⟩
  ·by_cases hj : j = i
   ·subst hj
    rw [hi] at e1; cases e1
    rw [SR hiσ] at e2
    cases e2
    exact ⟨u, r, .inr ⟨.inl hk, c, hc, hc'⟩⟩
   ·rw [SS (Ne.symm hj)] at e2
    obtain ⟨u', r', q⟩ := hl j y v' e1 e2 e3
    refine ⟨u', r', ?_⟩
    rcases q with q | ⟨k, c', e, z'⟩
    ·exact .inl q
    ·refine .inr ⟨k, c', e, z'.sameBut hs ?_⟩
     rintro rfl
     exact hj (Gm hN e1 (I.ok.inj _ _ _ e hc ▸ hi))
  ·by_cases hcc : c' = c
   ·subst hcc; exact ⟨_, hc'⟩
   ·obtain ⟨w2, z2⟩ := I.cell y c' e
    exact ⟨w2, z2.sameBut hs hcc⟩
  ·obtain ⟨e, n, ne, nf, d⟩ := I.pin p hp
   refine ⟨(hs.2 p.1 ?_).trans e, n, ne, nf, d⟩
   intro q
   rw [q, hoc] at e
   have q' : oc = p.2 := So.inj e
   exact d w' (by rw [← q']; exact hocd)
theorem CO {M : Model} {A : Around} {E : Value → Shared → Prop} {i : Nat} {x : Str} {v : V} {u : Value} {Q : Unit → Shared → Prop} (I : Inv X pins σ H s) (hN : X.N.Nodup) (hi : X.N[i]? = some x) (hx : Loc X.env.scope x) (r : AS v u)
 (h : ∀ s', Inv X pins (σ.set i (some v)) H s' → Q () s') (hf : X.fn x = true ∨ X.env.scope.names.lookup x = some .local := by first | exact .inl rfl | exact .inr rfl | assumption) : wpAny M A (storeName X.env x u) Q E s :=
 EG I hN hi hx r (fun s' I' _ => h s' I') hf
theorem Inv.call' {s' : Shared} {ch : List Addr} (I : Inv X pins σ H s) (ho : s'.os = s.os) (u : Un (frs X.stack) ch H H' s.heap s'.heap) (hok : HOk X.prog X.w H' s'.heap) (hg : AllBare s'.gens)
 (hch : ∀ b ∈ ch, (b ∈ X.ex ∨ X.s₀.heap.objs.size ≤ b) ∧ b ≠ X.env.locals ∧ (∀ x c, X.env.cells.lookup x = some c → c ≠ b) ∧ ∀ p ∈ X.pn ++ pins, p.1 ≠ b) : Inv X pins σ H' s' := by
 obtain ⟨h', g', d', t', o'⟩ := s'
 have e : o' = s.os := ho
 subst e
 exact I.call (g' := g') (t' := t') (d' := d') u hok hg hch
end
abbrev XK := Value → Option Addr → Hp → Prop
abbrev St := List (Option V)
abbrev VK := V → Hp → Prop
abbrev TE := St → Hp → VK → Prop
abbrev TT := St → Hp → (Bool → Hp → Prop) → Prop
abbrev TA := St → Hp → (List V → Hp → Prop) → Prop
structure Ea where
 nx : St → Hp → Prop
 rt : VK
 bk : St → Hp → Prop := fun _ _ => False
 ct : St → Hp → Prop := fun _ _ => False
abbrev TS := Ea → St → Hp → Prop
inductive EP (X : Cx) (pins : List (Addr × Obj)) (σ : St) (Q : VK) (u : Value) (s' : Shared) : Prop
 | mk (v : _) (H' : _) (h1 : Inv X pins σ H' s') (h2 : AS v u) (h3 : Q v H') : EP X pins σ Q u s'
def TP (X : Cx) (pins : List (Addr × Obj)) (σ : St) (Q : Bool → Hp → Prop) (b : Bool) (s' : Shared) : Prop := ∃ H', Inv X pins σ H' s' ∧ Q b H'
inductive AP (X : Cx) (pins : List (Addr × Obj)) (σ : St) (Q : List V → Hp → Prop) (us : List Value) (s' : Shared) : Prop
 | mk (vs : _) (H' : _) (h1 : Inv X pins σ H' s') (h2 : AQ vs us) (h3 : Q vs H') : AP X pins σ Q us s'
def SP (X : Cx) (pins : List (Addr × Obj)) (D : Ea) (f : Flow) (s' : Shared) : Prop :=
 match f with
 | .next => ∃ σ' H', Inv X pins σ' H' s' ∧ D.nx σ' H'
 | .brk => ∃ σ' H', Inv X pins σ' H' s' ∧ D.bk σ' H'
 | .cont => ∃ σ' H', Inv X pins σ' H' s' ∧ D.ct σ' H'
 | .ret u => ∃ v σ' H', Inv X pins σ' H' s' ∧ AS v u ∧ D.rt v H'
def PE (X : Cx) (e : Expr) (t : TE) : Prop :=
 ∀ (pins : List (Addr × Obj)) (s : Shared) (σ : St) (H : Hp) (Q : VK), Inv X pins σ H s → t σ H Q → wpAny (model X.prog X.w) X.A (eval e X.env) (EP X pins σ Q) X.xe s
def PT (X : Cx) (e : Expr) (t : TT) : Prop :=
 ∀ (pins : List (Addr × Obj)) (s : Shared) (σ : St) (H : Hp) (Q : Bool → Hp → Prop), Inv X pins σ H s → t σ H Q → wpAny (model X.prog X.w) X.A (isTrue e X.env (eval e X.env)) (TP X pins σ Q) X.xe s
def PW (X : Cx) (e : Expr) (t : TT) : Prop :=
 ∀ (whole : Sem Value) (pins : List (Addr × Obj)) (s : Shared) (σ : St) (H : Hp) (Q : Bool → Hp → Prop), Inv X pins σ H s → t σ H Q → wpAny (model X.prog X.w) X.A (isTrue e X.env whole) (TP X pins σ Q) X.xe s
theorem PW.pt {X : Cx} {e : Expr} {t : TT} (h : PW X e t) : PT X e t := h _
def PA (X : Cx) (es : List Expr) (t : TA) : Prop :=
 ∀ (pos : Pos) (pins : List (Addr × Obj)) (s : Shared) (σ : St) (H : Hp) (Q : List V → Hp → Prop), Inv X pins σ H s → t σ H Q → wpAny (model X.prog X.w) X.A (spliced (backTo pos (starEach es X.env))) (AP X pins σ Q) X.xe s
def PS (X : Cx) (st : Stmt) (t : TS) : Prop :=
 ∀ (pins : List (Addr × Obj)) (s : Shared) (σ : St) (H : Hp) (D : Ea), Inv X pins σ H s → t D σ H → wpAny (model X.prog X.w) X.A (exec st X.env) (SP X pins D) X.xe s
def PSs (X : Cx) (st : List Stmt) (t : TS) : Prop :=
 ∀ (pins : List (Addr × Obj)) (s : Shared) (σ : St) (H : Hp) (D : Ea), Inv X pins σ H s → t D σ H → wpAny (model X.prog X.w) X.A (execs st X.env) (SP X pins D) X.xe s
theorem thn {α : Type} {t : Sem α} {Q Q' : α → Shared → Prop} {M : Model} {A : Around} {E : Value → Shared → Prop} {s : Shared} (h : wpAny M A t Q E s) (hQ : ∀ a s, Q a s → Q' a s) : wpAny M A t Q' E s := wpAny_mono h hQ fun _ _ x => x
end L2
namespace L2
open PySem PySem.Spec PyProof.Rows
section
variable {X : Cx}
inductive HL (i : Nat) (σ : St) (H : Hp) (Q : VK) : Prop
 | mk (v : _) (h1 : σ[i]? = some (some v)) (h2 : Q v H) : HL i σ H Q
def tC (v : V) : TE := fun _ H Q => Q v H
theorem Mu {i : Nat} {x : Str} {pos : Pos} (hN : X.N[i]? = some x) (hv : Vis X.env.scope x) (hd : (x == ("__debug__" : Str)) = false := by decide) (hcd : (x == ("__classdict__" : Str)) = false := by decide) : PE X (.Name x pos) (HL i) := by
 intro pins s σ H Q I h
 obtain ⟨v, e, h⟩ := h
 obtain ⟨m, hn, hl⟩ := I.loc
 obtain ⟨u, r, l⟩ := hl i x v hN e hv
 have fin : EP X pins σ Q u s := ⟨v, H, I, r, h⟩
 rcases l with ⟨hk, hm⟩ | ⟨hk, c, hc, hcell⟩
 ·exact wpAny_Name (wpAny_loadName_local I.ok.kind hk hn hm fin) hd
 ·rcases hk with hk | hk
  ·exact wpAny_Name (wpAny_loadName_cell I.ok.kind hk hc hcell fin) hd
  ·exact wpAny_Name (wpAny_loadName_free I.ok.kind hk hc hcell fin hcd) hd
theorem Af {i j pos} : PE X (.Constant (.int i) j pos) (tC (.int i)) := fun _ _ _ H _ I h => wpAny_Constant_int ⟨.int i, H, I.tok _, ⟨_, rfl⟩, h⟩
theorem Em {b j pos} : PE X (.Constant (.bool b) j pos) (tC (.bl b)) := fun _ _ _ H _ I h => Constant_bool ⟨.bl b, H, I, rfl, h⟩
theorem Dd {j pos} : PE X (.Constant .none j pos) (tC .non) := fun _ _ _ H _ I h => Constant_none ⟨.non, H, I, rfl, h⟩
theorem AD {x j pos} : PE X (.Constant (.str x) j pos) (tC (.str x)) := fun _ _ _ H _ I h => Calls.Constant_str ⟨.str x, H, I.tok _, ⟨_, rfl⟩, h⟩
def Gl (X : Cx) (x : Str) : Prop := X.env.kindOf x = some .globalImplicit
theorem DL {E : Value → Shared → Prop} {pins : List (Addr × Obj)} {s : Shared} {σ : St} {H : Hp} {x : Str} {u : Value} {pos : Pos} {Q : Value → Shared → Prop} (I : Inv X pins σ H s) (hg : Gl X x) (hm : X.mg x = some u) (h : Q u s)
 (hd : (x == ("__debug__" : Str)) = false := by decide) : wpAny (model X.prog X.w) X.A (eval (.Name x pos) X.env) Q E s :=
 Calls.Name_function_global I.ok.kind hg (Calls.loadGlobal_global (by rw [I.ok.glob]; exact I.mod.glob.keeps I.bk) hm h) hd
theorem Gn {E : Value → Shared → Prop} {pins : List (Addr × Obj)} {s : Shared} {σ : St} {H : Hp} {x : Str} {u : Value} {pos : Pos} {Q : Value → Shared → Prop} (I : Inv X pins σ H s) (hg : Gl X x) (hm : X.mg x = none) (hv : bootBuiltins x = some u) (h : Q u s)
 (hn : x ≠ "__name__" := by decide) (hd : (x == ("__debug__" : Str)) = false := by decide) : wpAny (model X.prog X.w) X.A (eval (.Name x pos) X.env) Q E s := by
 obtain ⟨mb, h1, h2⟩ := I.mod.blt
 exact Calls.Name_function_global I.ok.kind hg (Calls.loadGlobal_builtin (by rw [I.ok.glob]; exact I.mod.glob.keeps I.bk) hm (by rw [I.ok.blt]; exact h1.keeps I.bk) ((h2 x hn).trans hv) h) hd
theorem AY {x : Str} {v : V} {u : Value} {pos : Pos} (hg : Gl X x) (hm : X.mg x = some u) (r : AS v u) (hd : (x == ("__debug__" : Str)) = false := by decide) : PE X (.Name x pos) (tC v) :=
 fun _ _ _ H _ I h => DL I hg hm ⟨v, H, I, r, h⟩ hd
theorem BJ {x : Str} {v : V} {u : Value} {pos : Pos} (hg : Gl X x) (hm : X.mg x = none) (hv : bootBuiltins x = some u) (r : AS v u) (hn : x ≠ "__name__" := by decide) (hd : (x == ("__debug__" : Str)) = false := by decide) : PE X (.Name x pos) (tC v) :=
 fun _ _ _ H _ I h => Gn I hg hm hv ⟨v, H, I, r, h⟩ hn hd
variable {a b : Expr} {ta tb : TE} {pos : Pos}
def PC (X : Cx) (op : CmpOp) (a b : Expr) (t : TE) : Prop :=
 ∀ (pins : List (Addr × Obj)) (s : Shared) (σ : St) (H : Hp) (Q : VK), Inv X pins σ H s → t σ H Q →
   wpAny (model X.prog X.w) X.A (eval a X.env) (fun v s₁ => wpAny (model X.prog X.w) X.A (eval b X.env) (fun u s₂ => wpAny (model X.prog X.w) X.A (compareOp op v u) (EP X pins σ Q) X.xe s₂) X.xe s₁) X.xe s
def tB (t : TE) : TT := fun σ H Q => t σ H fun x H1 => ∃ c, x = .bl c ∧ Q c H1
theorem JZ {op : CmpOp} {t : TE} (h : PC X op a b t) (h1 : behindInMarks op b = false := by first | exact nobehind _ (by decide) (by decide) | rfl) : PT X (.Compare a [op] [b] pos) (tB t) := by
 intro pins s σ H Q I hw
 refine wpAny_isTrue_Compare1 (thn (h pins s σ H _ I hw) fun v s1 h1 => thn h1 fun u s2 h2 => thn h2 fun c s3 ⟨x, H1, I1, r1, q1⟩ => ?_) h1
 obtain ⟨d, rfl, q⟩ := q1
 cases r1
 exact wpAny_truthy_bool ⟨H1, I1, q⟩
theorem Br {e : Expr} {t : TE} (h : PE X e t) (he : ∀ whole, isTrue e X.env whole = (do let v ← whole; standAt e.pos; holding [v] (truthy v)) := by intro _; rfl) : PT X e (tB t) := by
 intro pins s σ H Q I hw
 refine isTrue_plain (thn (h pins s σ H _ I hw) fun v s1 ⟨x, H1, I1, r1, q1⟩ => ?_) (he _)
 obtain ⟨d, rfl, q⟩ := q1
 cases r1
 exact wpAny_truthy_bool ⟨H1, I1, q⟩
variable {tA tB' : TT} {Bu : List Expr}
def Qk (t u : TT) : TT := fun σ H Q => t σ H fun c H1 => if c = true then u σ H1 Q else Q false H1
def tOr (t u : TT) : TT := fun σ H Q => t σ H fun c H1 => if c = true then Q true H1 else u σ H1 Q
def Qj (t : TT) : TT := fun σ H Q => t σ H fun c H1 => Q (!c) H1
theorem HV (ha : PT X a tA) : PW X (.BoolOp .And [a] pos) tA := by
 intro wh pins s σ H Q I h
 refine isTrue_and (thn (ha pins s σ H Q I h) fun c s1 e => ?_)
 cases c with
 | true => exact isTrue_and_nil e
 | false => exact e
theorem Cw (ha : PT X a tA) : PW X (.BoolOp .Or [a] pos) tA := by
 intro wh pins s σ H Q I h
 refine isTrue_or (thn (ha pins s σ H Q I h) fun c s1 e => ?_)
 cases c with
 | false => exact isTrue_or_nil e
 | true => exact e
theorem JW (ha : PT X a tA) (hb : PW X (.BoolOp .And (b :: Bu) pos) tB') : PW X (.BoolOp .And (a :: b :: Bu) pos) (Qk tA tB') := by
 intro wh pins s σ H Q I h
 refine isTrue_and (thn (ha pins s σ H _ I h) fun c s1 ⟨H1, I1, q1⟩ => ?_)
 cases c with
 | true => exact hb wh pins s1 σ H1 Q I1 q1
 | false => exact ⟨H1, I1, q1⟩
theorem Dx (ha : PT X a tA) (hb : PW X (.BoolOp .Or (b :: Bu) pos) tB') : PW X (.BoolOp .Or (a :: b :: Bu) pos) (tOr tA tB') := by
 intro wh pins s σ H Q I h
 refine isTrue_or (thn (ha pins s σ H _ I h) fun c s1 ⟨H1, I1, q1⟩ => ?_)
 cases c with
 | true => exact ⟨H1, I1, q1⟩
 | false => exact hb wh pins s1 σ H1 Q I1 q1
theorem BQ (ha : PT X a tA) : PT X (.UnaryOp .Not a pos) (Qj tA) := by
 intro pins s σ H Q I h
 exact isTrue_not (ha pins s σ H (fun c H1 => Q (!c) H1) I h)
def Pt (ta tb : TE) : TE := fun σ H Q => ta σ H fun x H1 => ∃ c, x = .bl c ∧ if c = true then tb σ H1 Q else Q (.bl false) H1
def Pl (ta : TE) : TE := fun σ H Q => ta σ H fun x H1 => ∃ c, x = .bl c ∧ Q (.bl (!c)) H1
theorem K1 {op} {t : TE} (h : PE X a t) : PE X (.BoolOp op [a] pos) t := fun pins s σ H Q I hw => BoolOp_one (h pins s σ H Q I hw)
theorem K2 (ha : PE X a ta) (hb : PE X (.BoolOp .And (b :: Bu) pos) tb) : PE X (.BoolOp .And (a :: b :: Bu) pos) (Pt ta tb) := by
 intro pins s σ H Q I h
 refine BoolOp_and (thn (ha pins s σ H _ I h) fun v s1 ⟨x, H1, I1, r1, q1⟩ => ?_)
 obtain ⟨c, rfl, q1⟩ := q1
 cases r1
 refine wpAny_truthy_bool ?_
 cases c with
 | true => exact hb pins s1 σ H1 Q I1 q1
 | false => exact ⟨.bl false, H1, I1, rfl, q1⟩
theorem Ox (ha : PE X a ta) : PE X (.UnaryOp .Not a pos) (Pl ta) := by
 intro pins s σ H Q I h
 refine UnaryOp_ (thn (ha pins s σ H _ I h) fun v s1 ⟨x, H1, I1, r1, q1⟩ => ?_)
 obtain ⟨c, rfl, q1⟩ := q1
 cases r1
 exact not_of (wpAny_truthy_bool ⟨.bl (!c), H1, I1, rfl, q1⟩)
def tIf (t : TT) (ta tb : TE) : TE := fun σ H Q => t σ H fun c H1 => if c = true then ta σ H1 Q else tb σ H1 Q
theorem G8 {c : Expr} (hc : PT X c tA) (ha : PE X a ta) (hb : PE X b tb) : PE X (.IfExp c a b pos) (tIf tA ta tb) := by
 intro pins s σ H Q I h
 refine wpAny_IfExp (thn (hc pins s σ H _ I h) fun d s1 ⟨H1, I1, q1⟩ => ?_)
 cases d with
 | true => exact ha pins s1 σ H1 Q I1 q1
 | false => exact hb pins s1 σ H1 Q I1 q1
end
end L2
namespace L2
open PySem PySem.Spec PyProof.Rows
def SqL (K : SE) (H : Hp) (a : Addr) (xs : List V) : Prop :=
 Rd H a (.lst xs) ∨
  ∃ (o : Obj) (its : Array Value) (n : Nat), K.lookup a = some o ∧ o.cls = .type "list" ∧ o.dict = none ∧ o.data = .seq its n ∧ its.size ≤ sizeLine ∧ AQ xs its.toList
def SqT (K : SE) (H : Hp) (a : Addr) (xs : List V) : Prop :=
 Rd H a (.tup xs) ∨
  ∃ (o : Obj) (its : Array Value) (n : Nat), K.lookup a = some o ∧ o.cls = .type "tuple" ∧ o.data = .seq its n ∧ its.size ≤ sizeLine ∧ AQ xs its.toList
def GA : Value → Option V
 | .none => some .non
 | .bool b => some (.bl b)
 | .int i _ => some (.int i)
 | .str x _ => some (.str x)
 | .bytes b _ => some (.byt b)
 | .float b _ => some (.flt b)
 | .ref a => some (.ref a)
 | .type n => some (.ty n)
 | _ => none
theorem AS.abs {x : V} {u : Value} (r : AS x u) : GA u = some x := by
 cases x with
 | non => cases r; rfl
 | bl _ => cases r; rfl
 | int _ => obtain ⟨t, rfl⟩ := r; rfl
 | str _ => obtain ⟨t, rfl⟩ := r; rfl
 | byt _ => obtain ⟨t, rfl⟩ := r; rfl
 | flt _ => obtain ⟨t, rfl⟩ := r; rfl
 | ref _ => cases r; rfl
 | ty _ => cases r; rfl
theorem AS.inj {x y : V} {u : Value} (r : AS x u) (q : AS y u) : x = y := So.inj (r.abs.symm.trans q.abs)
theorem AQ.inj {xs ys : List V} {us : List Value} (a : AQ xs us) (b : AQ ys us) : xs = ys := by
 induction a generalizing ys with
 | nil => cases b; rfl
 | cons r t ih => cases b with | cons r' t' => rw [r.inj r', ih t']
section
variable {X : Cx} {pins : List (Addr × Obj)} {σ : St} {H : Hp} {s : Shared} {a : Addr} {xs ys : List V}
theorem SqL.of {K : SE} (h : H a = some (.lst xs)) : SqL K H a xs := .inl (.inl h)
theorem SqT.of {K : SE} (h : H a = some (.tup xs)) : SqT K H a xs := .inl (.inl h)
theorem Inv.list (I : Inv X pins σ H s) (h : SqL X.K H a xs) : ∃ its : List Value, AQ xs its ∧ PlainL s.heap a its.toArray ∧ xs.length ≤ sizeLine := by
 rcases h with h | ⟨o, its, n, hk, hc, hd, hs, hz, r⟩
 ·obtain ⟨z, its, n, r, e⟩ := h.ok I.hok
  exact ⟨its, r, ⟨_, n, e, rfl, rfl, rfl⟩, z⟩
 ·refine ⟨its.toList, r, ⟨o, n, I.kIn a o hk, hc, hd, by simpa using hs⟩, ?_⟩
  have e := r.length
  simp only [SU] at e
  lia
theorem Inv.tuple (I : Inv X pins σ H s) (h : SqT X.K H a xs) : ∃ its : List Value, AQ xs its ∧ IsTup s.heap a its.toArray ∧ xs.length ≤ sizeLine := by
 rcases h with h | ⟨o, its, n, hk, hc, hs, hz, r⟩
 ·obtain ⟨z, its, r, p⟩ := h.ok I.hok
  exact ⟨its, r, p, z⟩
 ·refine ⟨its.toList, r, ⟨o, I.kIn a o hk, hc, n, by simpa using hs⟩, ?_⟩
  have e := r.length
  simp only [SU] at e
  lia
theorem Inv.list_inj (I : Inv X pins σ H s) (h : SqL X.K H a xs) (h' : SqL X.K H a ys) : xs = ys := by
 obtain ⟨its, r, ⟨o, n, e, _, _, d⟩, _⟩ := I.list h
 obtain ⟨its', r', ⟨o', n', e', _, _, d'⟩, _⟩ := I.list h'
 rw [e] at e'; cases e'
 rw [d] at d'
 injection d' with d1 _
 have : its = its' := by simpa using congrArg Array.toList d1
 subst this
 exact r.inj r'
theorem Inv.tuple_inj (I : Inv X pins σ H s) (h : SqT X.K H a xs) (h' : SqT X.K H a ys) : xs = ys := by
 obtain ⟨its, r, ⟨o, e, _, n, d⟩, _⟩ := I.tuple h
 obtain ⟨its', r', ⟨o', e', _, n', d'⟩, _⟩ := I.tuple h'
 rw [e] at e'; cases e'
 rw [d] at d'
 injection d' with d1 _
 have : its = its' := by simpa using congrArg Array.toList d1
 subst this
 exact r.inj r'
end
abbrev Cx.wish (X : Cx) (E : Value → Shared → Prop) : Cx := { X with xe := E }
abbrev Cx.nox (X : Cx) : Cx := X.wish fun _ _ => False
theorem Cx.Ok.wish {X : Cx} (ok : X.Ok) (E : Value → Shared → Prop) : (X.wish E).Ok :=
 ⟨ok.mod, ok.kind, ok.glob, ok.blt, ok.above, ok.inj, ok.has, ok.cab, ok.hd, ok.frames, ok.stk, ok.exf, ok.bs, ok.bsz, ok.noex, ok.exfs, ok.funs, ok.frf⟩
theorem Cx.Ok.unwish {X : Cx} {E : Value → Shared → Prop} (ok : (X.wish E).Ok) : X.Ok :=
 ⟨ok.mod, ok.kind, ok.glob, ok.blt, ok.above, ok.inj, ok.has, ok.cab, ok.hd, ok.frames, ok.stk, ok.exf, ok.bs, ok.bsz, ok.noex, ok.exfs, ok.funs, ok.frf⟩
section
variable {X : Cx} {pins : List (Addr × Obj)} {σ : St} {H : Hp} {s : Shared} {E : Value → Shared → Prop}
theorem Inv.wish (I : Inv X pins σ H s) (E : Value → Shared → Prop) : Inv (X.wish E) pins σ H s := ⟨I.ok.wish E, I.os, I.bare, I.base, I.loc, I.cell, I.free, I.freeC, I.pin, I.hok, I.len⟩
theorem Inv.unwish (I : Inv (X.wish E) pins σ H s) : Inv X pins σ H s := ⟨I.ok.unwish, I.os, I.bare, I.base, I.loc, I.cell, I.free, I.freeC, I.pin, I.hok, I.len⟩
theorem SP.unwish {D : Ea} {f : Flow} {s' : Shared} (h : SP (X.wish E) pins D f s') : SP X pins D f s' := by
 cases f with
 | next => obtain ⟨σ', H', I, q⟩ := h; exact ⟨σ', H', I.unwish, q⟩
 | brk => obtain ⟨σ', H', I, q⟩ := h; exact ⟨σ', H', I.unwish, q⟩
 | cont => obtain ⟨σ', H', I, q⟩ := h; exact ⟨σ', H', I.unwish, q⟩
 | ret u => obtain ⟨v, σ', H', I, r, q⟩ := h; exact ⟨v, σ', H', I.unwish, r, q⟩
theorem PSs.nox {st : List Stmt} {t : TS} (h : PSs X.nox st t) : PSs X st t := fun pins s σ H D I hw =>
 wpAny_mono (h pins s σ H D (I.wish _) hw) (fun _ _ q => q.unwish) fun _ _ z => False.elim z
end
section
variable {X : Cx} {st : Stmt} {Bu : List Stmt} {t u : TS} {e : Expr} {te : TE} {pos : Pos}
def Pm : TS := fun D σ H => D.nx σ H
@[reducible] def Ea.to (D : Ea) (n : St → Hp → Prop) : Ea := { D with nx := n }
def Nd (t u : TS) : TS := fun D σ H => t (D.to (u D)) σ H
theorem Ao : PSs X [] Pm := fun _ _ σ H _ I h => wpAny_execs_nil ⟨σ, H, I, h⟩
theorem Bl (h1 : PS X st t) (h2 : PSs X Bu u) : PSs X (st :: Bu) (Nd t u) := by
 intro pins s σ H D I h
 refine wpAny_execs_cons (thn (h1 pins s σ H { D with nx := u D } I h) fun f s1 q => ?_)
 cases f with
 | next =>
   obtain ⟨σ', H', I', q⟩ := q
   exact h2 pins s1 σ' H' D I' q
 | ret v => exact q
 | brk => exact q
 | cont => exact q
theorem Ag (h1 : PS X st t) : PSs X [st] t := by
 intro pins s σ H D I h
 refine wpAny_execs_cons (thn (h1 pins s σ H D I h) fun f s1 q => ?_)
 cases f with
 | next => exact wpAny_execs_nil q
 | ret v => exact q
 | brk => exact q
 | cont => exact q
theorem Inv.quiet {pins : List (Addr × Obj)} {σ : St} {H : Hp} {s : Shared} (I : Inv X pins σ H s) : interactive X.env = false := by simp [interactive, I.ok.kind]
def Pr (te : TE) : TS := fun D σ H => te σ H fun _ H1 => D.nx σ H1
theorem Dc (he : PE X e te) (hs : swapsWith e none pos.line X.env = pure false := by rfl) : PS X (.Expr e pos) (Pr te) := by
 intro pins s σ H D I h
 exact wpAny_Expr_any (thn (he pins s σ H _ I h) fun v s1 ⟨x, H1, I1, r1, q1⟩ => ⟨σ, H1, I1, q1⟩) I.quiet hs
def Qh (te : TE) : TS := fun D σ H => te σ H D.rt
theorem Aj (he : PE X e te) : PS X (.Return (some e) pos) (Qh te) := by
 intro pins s σ H D I h
 exact wpAny_Return_some (thn (he pins s σ H _ I h) fun v s1 ⟨x, H1, I1, r1, q1⟩ => ⟨x, σ, H1, I1, r1, q1⟩)
def Li (c : TT) (t u : TS) : TS := fun D σ H => c σ H fun b H1 => if b = true then t D σ H1 else u D σ H1
theorem PJ {c : Expr} {a b : List Stmt} {tc : TT} (hc : PT X c tc) (ha : PSs X a t) (hb : PSs X b u) : PS X (.If c a b pos) (Li tc t u) := by
 intro pins s σ H D I h
 refine wpAny_If (thn (hc pins s σ H _ I h) fun d s1 ⟨H1, I1, q1⟩ => ?_)
 cases d with
 | true => exact ha pins s1 σ H1 D I1 q1
 | false => exact hb pins s1 σ H1 D I1 q1
def M6 : TS := fun _ _ _ => False
theorem Bg : PS X st M6 := fun _ _ _ _ _ _ h => h.elim
theorem DJ {sts : List Stmt} : PSs X sts M6 := fun _ _ _ _ _ _ h => h.elim
end
abbrev TG := V → St → Hp → (St → Hp → Prop) → Prop
abbrev TGs := List V → St → Hp → (St → Hp → Prop) → Prop
def PG (X : Cx) (target : Expr) (t : TG) : Prop :=
 ∀ (pins : List (Addr × Obj)) (s : Shared) (σ : St) (H : Hp) (v : V) (u : Value) (Q : St → Hp → Prop), Inv X pins σ H s → AS v u → t v σ H Q →
   wpAny (model X.prog X.w) X.A (assign target X.env u) (fun _ s' => ∃ σ' H', Inv X pins σ' H' s' ∧ Q σ' H') X.xe s
def PGs (X : Cx) (ts : List Expr) (t : TGs) : Prop :=
 ∀ (pins : List (Addr × Obj)) (s : Shared) (σ : St) (H : Hp) (vs : List V) (us : List Value) (Q : St → Hp → Prop), Inv X pins σ H s → AQ vs us → t vs σ H Q →
   wpAny (model X.prog X.w) X.A (assignInOrder ((assignEach ts X.env).map (·.2)) us) (fun _ s' => ∃ σ' H', Inv X pins σ' H' s' ∧ Q σ' H') X.xe s
abbrev P9 := V → V → V → Hp → (Hp → Prop) → Prop
def Qa (X : Cx) (t : P9) : Prop :=
 ∀ (pins : List (Addr × Obj)) (s : Shared) (σ : St) (H : Hp) (o i v : V) (ov iv u : Value) (Q : Hp → Prop), Inv X pins σ H s → AS o ov → AS i iv → AS v u → t o i v H Q →
   wpAny (model X.prog X.w) X.A (setItem ov iv u) (fun _ s' => ∃ H', Inv X pins σ H' s' ∧ Q H') X.xe s
section
variable {X : Cx} {pos : Pos}
def C6 (i : Nat) : TG := fun v σ H Q => Q (σ.set i (some v)) H
theorem AL {i : Nat} {x : Str} (hN : X.N.Nodup) (hi : X.N[i]? = some x) (hx : Loc X.env.scope x) (hf : X.fn x = true ∨ X.env.scope.names.lookup x = some .local := by first | exact .inl rfl | exact .inr rfl | assumption) : PG X (.Name x pos) (C6 i) := by
 intro pins s σ H v u Q I r h
 exact wpAny_assign_Name (CO I hN hi hx r (fun s' I' => ⟨_, H, I', h⟩) hf)
def OV : TGs := fun vs σ H Q => vs = [] ∧ Q σ H
inductive Jx (t : TG) (u : TGs) (vs : List V) (σ : St) (H : Hp) (Q : (St → Hp → Prop)) : Prop
 | mk (v : _) (r : _) (h1 : vs = v :: r) (h2 : t v σ H fun σ' H' => u r σ' H' Q) : Jx t u vs σ H Q
theorem HY : PGs X [] OV := by
 intro pins s σ H vs us Q I r h
 obtain ⟨e, h⟩ := h
 subst e
 cases r
 exact assignInOrder_nil ⟨σ, H, I, h⟩
theorem CU {e : Expr} {es : List Expr} {t : TG} {u : TGs} (h1 : PG X e t) (h2 : PGs X es u)
 (hs : (assignEach (e :: es) X.env).map (·.2) = assign e X.env :: (assignEach es X.env).map (·.2) := by rfl) : PGs X (e :: es) (Jx t u) := by
 intro pins s σ H vs us Q I r h
 obtain ⟨v, vr, e1, h⟩ := h
 subst e1
 cases r with
 | cons r rr =>
   rw [hs]
   refine assignInOrder_cons (thn (h1 pins s σ H _ _ _ I r h) fun _ s1 ⟨σ1, H1, I1, q1⟩ => ?_)
   exact h2 pins s1 σ1 H1 _ _ Q I1 rr q1
inductive LI (K : SE) (n : Nat) (t : TGs) (v : V) (σ : St) (H : Hp) (Q : (St → Hp → Prop)) : Prop
 | mk (a : _) (xs : _) (h1 : v = .ref a) (h2 : SqT K H a xs) (h3 : xs.length = n) (h4 : t xs σ H Q) : LI K n t v σ H Q
theorem Ou {es : List Expr} {k : Nat} {t : TGs} {n : Nat} (hc : X.calm = true) (h : PGs X es t)
 (hn : (assignEach es X.env).length = n := by rfl) (hst : (assignEach es X.env).findIdx? (·.1) = none := by rfl) : PG X (.Tuple es k pos) (LI X.K n t) := by
 intro pins s σ H v u Q I r hw
 obtain ⟨a, xs, e1, hq, hl, hw⟩ := hw
 subst e1
 cases r
 obtain ⟨its, rv, ht, hz⟩ := I.tuple hq
 refine assign_Tuple_tuple (I.ok.hd hc) ht (by simp [hn, ← hl, rv.length]) hst fun h' hx => ?_
 have I1 : Inv X pins σ H { s with heap := h' } := I.kept (t' := s.toks) fun b o e => hx b o (Sw (Heap.lt_size e)) e
 exact h pins _ σ H xs _ Q I1 (by simpa using rv) hw
def Qp (to ti : TE) (t : P9) : TG := fun v σ H Q => to σ H fun o H1 => ti σ H1 fun i H2 => t o i v H2 fun H3 => Q σ H3
theorem Mt {o i : Expr} {to ti : TE} {t : P9} (ho : PE X o to) (hi : PE X i ti) (hs : Qa X t)
 (ha : ∀ v, assign (.Subscript o i pos) X.env v = (do
  let ov ← holding [v] (eval o X.env)
  let iv ← holding [v, ov] (eval i X.env)
  standAt pos
  holding [v, ov, iv] (setItem ov iv v)
  release [v, ov, iv] []) := by intro _; rfl) : PG X (.Subscript o i pos) (Qp to ti t) := by
 intro pins s σ H v u Q I r h
 rw [ha]
 refine wpAny_bind (wpAny_holding (thn (ho pins s σ H _ I h) fun ov s1 ⟨x, H1, I1, r1, q1⟩ => ?_))
 refine wpAny_bind (wpAny_holding (thn (hi pins s1 σ H1 _ I1 q1) fun iv s2 ⟨y, H2, I2, r2, q2⟩ => ?_))
 refine wpAny_bind (wpAny_standAt (wpAny_bind (wpAny_holding (thn (hs pins s2 σ H2 x y v ov iv u _ I2 r1 r2 r q2) fun _ s3 ⟨H3, I3, q3⟩ => ?_))))
 exact wpAny_release ⟨σ, H3, I3, q3⟩
def Lj (te : TE) (g : TG) : TS := fun D σ H => te σ H fun x H1 => g x σ H1 D.nx
theorem K0 {tg e : Expr} {te : TE} {g : TG} (he : PE X e te) (hg : PG X tg g) (hs : swapsWithSole [tg] e pos.line X.env = pure false := by rfl) (hw : swappedStores [tg] e X.env = pure none := by rfl)
 (h1 : (assignEach [tg] X.env).map (·.2) = [assign tg X.env] := by rfl) : PS X (.Assign [tg] e pos) (Lj te g) := by
 intro pins s σ H D I h
 refine wpAny_Assign_stores (thn (he pins s σ H _ I h) fun v s1 ⟨x, H1, I1, r1, q1⟩ => ?_) hs hw
 rw [h1]
 exact thn (hg pins s1 σ H1 x v _ I1 r1 q1) fun _ s2 q => q
theorem Aq {i : Nat} {x : Str} {e : Expr} {te : TE} {pos' : Pos} (hN : X.N.Nodup) (hi : X.N[i]? = some x) (hx : Loc X.env.scope x) (he : PE X e te) (hs : swapsWith e (some (.Name x pos')) pos.line X.env = pure false := by rfl) (hf : X.fn x = true ∨ X.env.scope.names.lookup x = some .local := by first | exact .inl rfl | exact .inr rfl | assumption) :
 PS X (.Assign [.Name x pos'] e pos) (Lj te (C6 i)) := by
 intro pins s σ H D I h
 refine wpAny_Assign_Name (thn (he pins s σ H _ I h) fun v s1 ⟨y, H1, I1, r1, q1⟩ => ?_) hs
 exact CO I1 hN hi hx r1 (fun s2 I2 => ⟨_, H1, I2, q1⟩) hf
def Qi (i j : Nat) (ta : TA) : TS := fun D σ H => ta σ H fun vs H1 => ∃ v w, vs = [v, w] ∧ D.nx ((σ.set i (some v)).set j (some w)) H1
theorem Ol {i j : Nat} {x y : Str} {a b : Expr} {ta : TA} {px py pt : Pos} {kt k2 pt2} (hc : X.calm = true) (hN : X.N.Nodup) (hi : X.N[i]? = some x) (hj : X.N[j]? = some y) (hij : i ≠ j)
 (hx : X.env.scope.names.lookup x = some .local) (hy : X.env.scope.names.lookup y = some .local) (ha : PA X [a, b] ta)
 (hw : swappedStores [.Tuple [.Name x px, .Name y py] kt pt] (.Tuple [a, b] k2 pt2) X.env = pure (some [x, y]))
 (hs : swapsWithSole [.Tuple [.Name x px, .Name y py] kt pt] (.Tuple [a, b] k2 pt2) pos.line X.env = pure false := by rfl) :
 PS X (.Assign [.Tuple [.Name x px, .Name y py] kt pt] (.Tuple [a, b] k2 pt2) pos) (Qi i j ta) := by
 intro pins s σ H D I h
 rw [exec_Assign_arm]
 refine wpAny_bind (wpAny_standAt ?_)
 rw [hs]
 refine wpAny_bind (wpAny_pure ?_)
 rw [if_neg (by decide)]
 refine wpAny_bind (Tuple_ (thn (ha _ pins s σ H _ I h) fun us s1 ⟨vs, H1, I1, r1, q1⟩ => ?_))
 obtain ⟨v, w, e1, q1⟩ := q1
 subst e1
 obtain ⟨u1, u2, rfl, rv, rw'⟩ : ∃ u1 u2, us = [u1, u2] ∧ AS v u1 ∧ AS w u2 := by
  cases r1 with
  | cons p q =>
    cases q with
    | cons p' q' =>
      cases q'
      exact ⟨_, _, rfl, p, p'⟩
 refine wpAny_newObj_type ?_ (by show 2 ≤ sizeLine; decide)
 have I2 : Inv X pins σ H1 { s1 with heap := s1.heap.push { cls := .type "tuple", data := .seq [u1, u2].toArray } } := I1.kept (t' := s1.toks) fun b o e => Heap.get?_push_of_some _ e
 rw [hw]
 refine wpAny_bind (wpAny_pure ?_)
 show wpAny (model X.prog X.w) X.A (do rule "assign.swapped-stores"; let items ← unpackItems (.ref s1.heap.objs.size) 2 none; assignInOrder [fun v => bindName X.env y v, fun v => bindName X.env x v] items.reverse; pure Flow.next) _ _ _
 refine wpAny_bind (wpAny_rule (wpAny_bind (unpackItems_tuple (items := #[u1, u2]) (I.ok.hd hc) (IsTup.new s1.heap _) fun h' hx' => ?_)))
 have I3 := I2.kept (h' := h') (t' := s1.toks) fun b o e => hx' b o (Sw (Heap.lt_size e)) e
 show wpAny _ _ (assignInOrder [fun v => bindName X.env y v, fun v => bindName X.env x v] [u2, u1] >>= fun _ => pure Flow.next) _ _ _
 refine wpAny_bind (assignInOrder_cons (wpAny_bindName (CO I3 hN hj (.inl hy) rw' (fun s2 I4 => ?_) (.inr hy))))
 refine assignInOrder_cons (wpAny_bindName (CO I4 hN hi (.inl hx) rv (fun s3 I5 => assignInOrder_nil (wpAny_pure ?_)) (.inr hx)))
 rw [List.set_comm _ _ (Ne.symm hij)] at I5
 exact ⟨_, H1, I5, q1⟩
end
section
variable {X : Cx} {pos : Pos}
def M5 (c : TT) (tb : TS) : TS := fun D σ H => ∃ W : Nat → St → Hp → Prop, (∃ m, W m σ H) ∧ ∀ m σ H, W m σ H →
 c σ H fun b H1 => if b = true then ∃ N : St → Hp → Prop, (∀ σ' H', N σ' H' → ∃ m', m' < m ∧ W m' σ' H') ∧ tb { D with nx := N, ct := N, bk := D.nx } σ H1 else D.nx σ H1
theorem Ek {c : Expr} {body : List Stmt} {tc : TT} {tb : TS} (hp : PassesOwn (model X.prog X.w) X.A X.env X.xe) (hc : PT X c tc) (hb : PSs X body tb) : PS X (.While c body [] pos) (M5 tc tb) := by
 intro pins s σ H D I h
 obtain ⟨W, ⟨m0, w0⟩, turn⟩ := h
 refine wpAny_While (codeAny_whileLoop (fun n s' => ∃ σ' H', Inv X pins σ' H' s' ∧ W n σ' H') ?_ m0 ⟨σ, H, I, w0⟩)
 rintro n s1 ⟨σ1, H1, I1, w1⟩
 refine wpAny_passesOwn hp (thn (hc pins s1 σ1 H1 _ I1 (turn n σ1 H1 w1)) fun b s2 ⟨H2, I2, q2⟩ => ?_)
 cases b with
 | true =>
   obtain ⟨N, hN, q2⟩ := q2
   rw [if_pos rfl]
   refine wpAny_passesOwn hp (thn (hb pins s2 σ1 H2 _ I2 q2) fun f s3 q3 => ?_)
   cases f with
   | next =>
     obtain ⟨σ3, H3, I3, n3⟩ := q3
     obtain ⟨m', hm, w3⟩ := hN σ3 H3 n3
     exact ⟨m', hm, σ3, H3, I3, w3⟩
   | cont =>
     obtain ⟨σ3, H3, I3, n3⟩ := q3
     obtain ⟨m', hm, w3⟩ := hN σ3 H3 n3
     exact ⟨m', hm, σ3, H3, I3, w3⟩
   | brk => exact q3
   | ret v => exact q3
 | false =>
   rw [if_neg Bool.false_ne_true]
   exact wpAny_execs_nil ⟨σ1, H2, I2, q2⟩
end
structure It where
 go : Nat → Hp → Prop
 yld : Nat → Hp → V → Hp → Prop
 stop : Nat → Hp → Prop
def DT (X : Cx) (pins : List (Addr × Obj)) (H : Hp) (b : Addr) : Prop :=
 H b = none ∧ b ≠ X.env.locals ∧ b ∉ X.fs ∧ (b ∈ X.ex ∨ X.s₀.heap.objs.size ≤ b) ∧ (∀ x c, X.env.cells.lookup x = some c → c ≠ b) ∧ ∀ p ∈ X.pn ++ pins, p.1 ≠ b
theorem Inv.fpOk {X : Cx} {pins : List (Addr × Obj)} {σ : St} {H H' : Hp} {s : Shared} {b : Addr} (I : Inv X pins σ H s) (hb : s.heap.objs.size ≤ b) (hn : H' b = none) : DT X pins H' b := by
 refine ⟨hn, SV (Su I.lt hb), I.nofs hb, .inr (SG I.sz hb), fun x c e z => ?_, fun p hp z => ?_⟩
 ·obtain ⟨v, q⟩ := I.cell x c e
  exact absurd (Su q.lt (by rw [z]; exact hb)) (Sv _)
 ·exact absurd (Su (Heap.lt_size (I.pin p hp).1) (by rw [z]; exact hb)) (Sv _)
structure JG (P : Program) (w : World) (K : SE) (tg : Expr) (J : It) (fp : List Addr) (it : Addr) (tn : Nat → Heap → Prop) : Prop where
 mem : it ∈ fp
 obj : ∀ i h, tn i h → ∀ b ∈ fp, ∃ o, h.get? b = some o ∧ ∀ v, o.data ≠ .cell v
 keep : ∀ i h h', tn i h → (∀ b ∈ fp, ∀ o, h.get? b = some o → h'.get? b = some o) → tn i h'
 item : ∀ (X : Cx), X.prog = P → X.w = w → X.K = K → X.calm = true → ∀ (i : Nat) (pins : List (Addr × Obj)) (s : Shared) (σ : St) (H : Hp) (E : Value → Shared → Prop), Inv X pins σ H s → (∀ b ∈ fp, DT X pins H b) → tn i s.heap → J.go i H →
  wpAny (model P w) X.A (pyNext (.ref it)) (fun r s1 => ∃ u, r = some u ∧
   wpAny (model P w) X.A (letOwnedTupleGo tg (.ref it) u) (fun _ s2 => ∃ x H', Inv X pins σ H' s2 ∧ AS x u ∧ J.yld i H x H' ∧ tn (i + 1) s2.heap ∧ ∀ b ∈ fp, H' b = none) E s1) E s
 done : ∀ (X : Cx), X.prog = P → X.w = w → X.K = K → X.calm = true → ∀ (i : Nat) (pins : List (Addr × Obj)) (s : Shared) (σ : St) (H : Hp) (E : Value → Shared → Prop), Inv X pins σ H s → (∀ b ∈ fp, DT X pins H b) → tn i s.heap → J.stop i H →
  wpAny (model P w) X.A (pyNext (.ref it)) (fun r s1 => r = none ∧ Inv X pins σ H s1) E s
 self : ∀ (A : Around) (i : Nat) (s : Shared) (Q : Value → Shared → Prop) (E : Value → Shared → Prop), tn i s.heap → Q (.ref it) s → wpAny (model P w) A (pyIter (.ref it)) Q E s
abbrev TI := St → Hp → (It → Hp → Prop) → Prop
def PIE (X : Cx) (pins : List (Addr × Obj)) (σ : St) (tg : Expr) (R : It → Hp → Prop) (itv : Value) (s2 : Shared) : Prop :=
 ∃ (it : Addr) (fp : List Addr) (tn : Nat → Heap → Prop) (J : It) (H' : Hp), itv = .ref it ∧ Inv X pins σ H' s2 ∧ JG X.prog X.w X.K tg J fp it tn ∧ tn 0 s2.heap ∧ (∀ b ∈ fp, DT X pins H' b) ∧ R J H'
def PI (X : Cx) (tg iter : Expr) (wi : TI) : Prop :=
 ∀ (pins : List (Addr × Obj)) (s : Shared) (σ : St) (H : Hp) (R : It → Hp → Prop), Inv X pins σ H s → wi σ H R →
   wpAny (model X.prog X.w) X.A (eval iter X.env) (fun v s1 => wpAny (model X.prog X.w) X.A (pyIter v) (PIE X pins σ tg R) X.xe s1) X.xe s
theorem Jw {M : Model} {A : Around} {E : Value → Shared → Prop} {s : Shared} {tg : Expr} {it : Addr} {u : Value} {o : Obj} {n : String} {vs : Array Value} {Q : Unit → Shared → Prop} (ho : s.heap.get? it = some o) (hc : o.cls = .type n) (hd : o.data = .fields vs)
 (hn : ["enumerate", "zip", "dict_itemiterator", "dict_reverseitemiterator", "odict_iterator", "itertools.zip_longest", "itertools.pairwise"].contains n = false) (hQ : Q () s) : wpAny M A (letOwnedTupleGo tg (.ref it) u) Q E s := by
 unfold letOwnedTupleGo
 cases tg <;> first
  | exact wpAny_pure hQ
  | (cases u <;> first
   | exact wpAny_pure hQ
   | (refine wpAny_bind (wpAny_load ho ?_)
      rw [hc, hd]
      show wpAny M A (if (["enumerate", "zip", "dict_itemiterator", "dict_reverseitemiterator", "odict_iterator", "itertools.zip_longest", "itertools.pairwise"].contains n && vs[0]? == some (rawInt _)) = true then _ else _) Q E s
      rw [if_neg (by intro h; rw [hn, Bool.false_and] at h; cases h)]
      exact wpAny_pure hQ))
def Itl (K : SE) (a : Addr) : It :=
 ⟨fun i H => ∃ xs x, SqL K H a xs ∧ xs[i]? = some x, fun i H x H' => H' = H ∧ ∀ xs, SqL K H a xs → xs[i]? = some x, fun i H => ∃ xs, SqL K H a xs ∧ xs.length ≤ i⟩
def Itt (K : SE) (a : Addr) : It :=
 ⟨fun i H => ∃ xs x, SqT K H a xs ∧ xs[i]? = some x, fun i H x H' => H' = H ∧ ∀ xs, SqT K H a xs → xs[i]? = some x, fun i H => ∃ xs, SqT K H a xs ∧ xs.length ≤ i⟩
def Itr (lo : Int) (n : Nat) : It := ⟨fun i _ => i < n, fun i H x H' => H' = H ∧ x = .int (lo + i), fun i _ => n ≤ i⟩
theorem Hl {P : Program} {w : World} {K : SE} {tg : Expr} (a it : Addr) : JG P w K tg (Itl K a) [it] it (fun i h => h.IsListIter it a i) where
 mem := by simp
 obj := fun i h st b hb => by
  have e : b = it := by simpa using hb
  subst e
  obtain ⟨o, e, c, d⟩ := st
  exact ⟨o, e, fun v z => by rw [d] at z; cases z⟩
 keep := fun i h h' st k => st.at fun o e => k it (by simp) o e
 item := by
  intro X hP hw hK hc i pins s σ H E I hf st hg
  subst hP hw hK
  obtain ⟨xs, x, hq, hx⟩ := hg
  obtain ⟨its, rv, p, hz⟩ := I.list hq
  obtain ⟨u, hu, ru⟩ := rv.get hx
  obtain ⟨f0, f1, f2, f3, f4, f5⟩ := hf it (by simp)
  refine wpAny_pyNext_list_item st p.isList (x := u) (by simpa using hu) fun h' st' sb => ?_
  have I1 : Inv X pins σ H { s with heap := h' } := I.turned (t' := s.toks) (fun b o hb e => (sb.2 b hb).trans e) f0 f1 f3 f4 f5
  obtain ⟨o, e, c, d⟩ := id st'
  exact ⟨u, rfl, Jw (s := { s with heap := h' }) e c d (by decide) ⟨x, H, I1, ru, ⟨rfl, fun ys hy => by rw [I.list_inj hy hq]; exact hx⟩, st', fun b hb => (hf b hb).1⟩⟩
 done := by
  intro X hP hw hK hc i pins s σ H E I hf st hg
  subst hP hw hK
  obtain ⟨xs, hq, hx⟩ := hg
  obtain ⟨its, rv, p, hz⟩ := I.list hq
  obtain ⟨f0, f1, f2, f3, f4, f5⟩ := hf it (by simp)
  have hl := rv.length
  exact wpAny_pyNext_list_end (I.ok.hd hc) st p.isList (by simp; lia) fun h' eb => ⟨rfl, I.turned (t' := s.toks) (fun b o hb e => eb b o hb e) f0 f1 f3 f4 f5⟩
 self := fun _ _ _ _ _ st h => wpAny_pyIter_listiter st h
theorem JJ {P : Program} {w : World} {K : SE} {tg : Expr} (a it : Addr) : JG P w K tg (Itt K a) [it] it (fun i h => h.IsTupleIter it a i) where
 mem := by simp
 obj := fun i h st b hb => by
  have e : b = it := by simpa using hb
  subst e
  obtain ⟨o, e, c, d⟩ := st
  exact ⟨o, e, fun v z => by rw [d] at z; cases z⟩
 keep := fun i h h' st k => st.at fun o e => k it (by simp) o e
 item := by
  intro X hP hw hK hc i pins s σ H E I hf st hg
  subst hP hw hK
  obtain ⟨xs, x, hq, hx⟩ := hg
  obtain ⟨its, rv, p, hz⟩ := I.tuple hq
  obtain ⟨u, hu, ru⟩ := rv.get hx
  obtain ⟨f0, f1, f2, f3, f4, f5⟩ := hf it (by simp)
  refine wpAny_pyNext_tuple_item st (show s.heap.IsTuple a its.toArray from p) (x := u) (by simpa using hu) fun h' st' sb => ?_
  have I1 : Inv X pins σ H { s with heap := h' } := I.turned (t' := s.toks) (fun b o hb e => (sb.2 b hb).trans e) f0 f1 f3 f4 f5
  obtain ⟨o, e, c, d⟩ := id st'
  exact ⟨u, rfl, Jw (s := { s with heap := h' }) e c d (by decide) ⟨x, H, I1, ru, ⟨rfl, fun ys hy => by rw [I.tuple_inj hy hq]; exact hx⟩, st', fun b hb => (hf b hb).1⟩⟩
 done := by
  intro X hP hw hK hc i pins s σ H E I hf st hg
  subst hP hw hK
  obtain ⟨xs, hq, hx⟩ := hg
  obtain ⟨its, rv, p, hz⟩ := I.tuple hq
  obtain ⟨f0, f1, f2, f3, f4, f5⟩ := hf it (by simp)
  have hl := rv.length
  exact wpAny_pyNext_tuple_end (I.ok.hd hc) st (show s.heap.IsTuple a its.toArray from p) (by simp; lia) fun h' eb => ⟨rfl, I.turned (t' := s.toks) (fun b o hb e => eb b o hb e) f0 f1 f3 f4 f5⟩
 self := fun _ _ _ _ _ st h => wpAny_pyIter_tupleiter st h
theorem JK {P : Program} {w : World} {K : SE} {tg : Expr} (it : Addr) (lo : Int) (n : Nat) : JG P w K tg (Itr lo n) [it] it (fun i h => IsRangeIter h it (lo + (i : Nat) * 1) ((n : Int) - (i : Nat)) 1) where
 mem := by simp
 obj := fun i h st b hb => by
  have e : b = it := by simpa using hb
  subst e
  exact ⟨_, st, fun v z => by
   have z' : Data.fields _ = Data.cell v := z
   cases z'⟩
 keep := fun i h h' st k => k it (by simp) _ st
 item := by
  intro X hP hw hK hc i pins s σ H E I hf st hg
  subst hP hw hK
  obtain ⟨f0, f1, f2, f3, f4, f5⟩ := hf it (by simp)
  have W := Walks.range (prog := X.prog) (w := X.w) (I.ok.hd hc) it lo 1 n
  refine W.item i s _ _ hg st fun v h' tk hv st' kk => ?_
  obtain ⟨t, rfl⟩ := hv
  have I1 : Inv X pins σ H { s with heap := h', toks := tk } := I.turned (fun b o hb e => kk b o (by simpa using hb) e) f0 f1 f3 f4 f5
  refine ⟨_, rfl, Jw (s := { s with heap := h', toks := tk }) (n := "range_iterator") st' rfl rfl (by decide) ⟨.int (lo + i), H, I1, ⟨t, ?_⟩, ⟨rfl, rfl⟩, st', fun b hb => (hf b hb).1⟩⟩
  rw [Int.mul_one]
 done := by
  intro X hP hw hK hc i pins s σ H E I hf st hg
  subst hP hw hK
  obtain ⟨f0, f1, f2, f3, f4, f5⟩ := hf it (by simp)
  exact wpAny_pyNext_range_end (I.ok.hd hc) st (by have : n ≤ i := hg; lia) fun h' eb => ⟨rfl, I.turned (t' := s.toks) (fun b o hb e => eb b o hb e) f0 f1 f3 f4 f5⟩
 self := fun _ _ _ _ _ st h => wpAny_pyIter_rangeiter st h
end L2
namespace L2
open PySem PySem.Spec PyProof.Rows
section
variable {X : Cx} {tg : Expr}
def Jv (K : SE) (tl : TE) : TI := fun σ H R => tl σ H fun x H1 => ∃ a, x = .ref a ∧ (∃ xs, SqL K H1 a xs) ∧ R (Itl K a) H1
def OU (K : SE) (tl : TE) : TI := fun σ H R => tl σ H fun x H1 => ∃ a, x = .ref a ∧ (∃ xs, SqT K H1 a xs) ∧ R (Itt K a) H1
theorem KD {l : Expr} {tl : TE} (hl : PE X l tl) : PI X tg l (Jv X.K tl) := by
 intro pins s σ H R I h
 refine thn (hl pins s σ H _ I h) fun v s1 ⟨x, H1, I1, r1, q1⟩ => ?_
 obtain ⟨a, e, ⟨xs, hq⟩, q⟩ := q1
 subst e
 cases r1
 obtain ⟨its, rv, p, hz⟩ := I1.list hq
 refine wpAny_pyIter_list p.isList ?_
 refine ⟨s1.heap.objs.size, [s1.heap.objs.size], _, _, H1, rfl, I1.kept (t' := s1.toks) fun b o e => Heap.get?_push_of_some _ e, Hl a _, ⟨_, Heap.get?_push_size _ rfl, rfl, rfl⟩, fun b hb => ?_, q⟩
 have e : b = s1.heap.objs.size := by simpa using hb
 subst e
 exact I1.fpOk (SW _) (I1.hok.fresh (SW _))
theorem Ms {l : Expr} {tl : TE} (hl : PE X l tl) : PI X tg l (OU X.K tl) := by
 intro pins s σ H R I h
 refine thn (hl pins s σ H _ I h) fun v s1 ⟨x, H1, I1, r1, q1⟩ => ?_
 obtain ⟨a, e, ⟨xs, hq⟩, q⟩ := q1
 subst e
 cases r1
 obtain ⟨its, rv, p, hz⟩ := I1.tuple hq
 refine wpAny_pyIter_tuple (show s1.heap.IsTuple a its.toArray from p) ?_
 refine ⟨s1.heap.objs.size, [s1.heap.objs.size], _, _, H1, rfl, I1.kept (t' := s1.toks) fun b o e => Heap.get?_push_of_some _ e, JJ a _, ⟨_, Heap.get?_push_size _ rfl, rfl, rfl⟩, fun b hb => ?_, q⟩
 have e : b = s1.heap.objs.size := by simpa using hb
 subst e
 exact I1.fpOk (SW _) (I1.hok.fresh (SW _))
theorem Mm {pins : List (Addr × Obj)} {σ : St} {H : Hp} {s : Shared} {R : It → Hp → Prop} {E : Value → Shared → Prop} {lo hi : Int} {t u v : Tok} {tk : Nat} (I : Inv X pins σ H s) (h1 : -(2 ^ 62) ≤ lo) (h2 : lo < 2 ^ 62) (h3 : -(2 ^ 62) ≤ hi) (h4 : hi < 2 ^ 62)
 (q : R (Itr lo (hi - lo).toNat) H) : wpAny (model X.prog X.w) X.A (pyIter (.ref s.heap.objs.size)) (PIE X pins σ tg R) E { s with heap := s.heap.push { cls := .type "range", data := .fields #[.int lo t, .int hi u, .int 1 v] }, toks := tk } := by
 refine wpAny_pyIter_range (IsRange.new ..) (small_one h1 h2 h3 h4) ?_
 have I1 : Inv X pins σ H { s with heap := s.heap.push { cls := .type "range", data := .fields #[.int lo t, .int hi u, .int 1 v] }, toks := tk } := I.kept fun b o e => Heap.get?_push_of_some _ e
 refine ⟨(s.heap.push { cls := .type "range", data := .fields #[.int lo t, .int hi u, .int 1 v] }).objs.size, [(s.heap.push { cls := .type "range", data := .fields #[.int lo t, .int hi u, .int 1 v] }).objs.size], _, _, H, rfl,
  I1.kept (t' := tk) fun b o e => Heap.get?_push_of_some _ e, JK _ lo (hi - lo).toNat, ?_, fun b hb => ?_, q⟩
 ·have e1 : lo + ((0 : Nat) : Int) * 1 = lo := by simp
  have e2 : (((hi - lo).toNat : Nat) : Int) - ((0 : Nat) : Int) = Builtin.Range.rangeSize lo hi 1 := by rw [rangeSize_one]; split <;> lia
  show IsRangeIter _ _ (lo + ((0 : Nat) : Int) * 1) ((((hi - lo).toNat : Nat) : Int) - ((0 : Nat) : Int)) 1
  rw [e1, e2]
  exact Heap.get?_push_size _ rfl
 ·have e : b = (s.heap.push { cls := .type "range", data := .fields #[.int lo t, .int hi u, .int 1 v] }).objs.size := by simpa using hb
  subst e
  exact I1.fpOk (SW _) (I1.hok.fresh (SW _))
def PV (ta : TA) : TI := fun σ H R => ta σ H fun vs H1 => ∃ j : Int, vs = [.int j] ∧ -(2 ^ 62) ≤ j ∧ j < 2 ^ 62 ∧ R (Itr 0 j.toNat) H1
theorem EO {a : Expr} {ta : TA} {p pos : Pos} (hg : Gl X "range") (hm : X.mg "range" = none) (ha : PA X [a] ta) (hs : starEach [a] X.env = [(false, eval a X.env)] := by rfl) : PI X tg (.Call (.Name "range" p) [a] [] pos) (PV ta) := by
 intro pins s σ H R I h
 refine Call_ (Gn I hg hm boot_range (PyProof.Rows.callWith_type1 (thn (ha pos pins s σ H _ I h) fun us s1 ⟨vs, H1, I1, r1, q1⟩ => ?_) hs rfl))
 obtain ⟨j, e, q1, q2, q⟩ := q1
 subst e
 cases r1 with
 | cons r rr =>
   cases rr
   obtain ⟨t, rfl⟩ := r
   exact call_range_1 (Mm I1 (by lia) (by lia) q1 q2 (by simpa using q))
def Po (wi : TI) (g : TG) (tb : TS) : TS := fun D σ H => wi σ H fun J H1 => ∃ W : Nat → Nat → St → Hp → Prop, (∃ m, W 0 m σ H1) ∧ ∀ i m σ H, W i m σ H →
 (J.stop i H ∧ D.nx σ H) ∨ (J.go i H ∧ ∃ N : St → Hp → Prop, (∀ σ' H', N σ' H' → ∃ m', m' < m ∧ W (i + 1) m' σ' H') ∧ ∀ x H', J.yld i H x H' → g x σ H' fun σ2 H2 => tb { D with nx := N, ct := N, bk := D.nx } σ2 H2)
def EN (fp : List Addr) (h : Heap) : List (Addr × Obj) := fp.filterMap fun b => (h.get? b).map fun o => (b, o)
theorem Ca {fp : List Addr} {h : Heap} {b : Addr} {o : Obj} (hb : b ∈ fp) (e : h.get? b = some o) : (b, o) ∈ EN fp h := SX.mpr ⟨b, hb, by rw [e]; rfl⟩
theorem Lw {fp : List Addr} {h : Heap} {p : Addr × Obj} (hp : p ∈ EN fp h) : p.1 ∈ fp ∧ h.get? p.1 = some p.2 := by
 obtain ⟨b, hb, e⟩ := SX.mp hp
 cases q : h.get? b with
 | none => rw [q] at e; cases e
 | some o =>
   rw [q] at e
   have e' : (b, o) = p := So.inj e
   subst e'
   exact ⟨hb, q⟩
theorem Inv.pinned {pins : List (Addr × Obj)} {σ : St} {H : Hp} {s : Shared} {fp : List Addr} (I : Inv X pins σ H s) (hf : ∀ b ∈ fp, DT X pins H b) (ho : ∀ b ∈ fp, ∃ o, s.heap.get? b = some o ∧ ∀ v, o.data ≠ .cell v) : Inv X (pins ++ EN fp s.heap) σ H s :=
 I.pins_of fun p hp => (SN.mp hp).elim (fun z => I.pin p (SY _ z)) fun z => by
  obtain ⟨hb, e⟩ := Lw z
  obtain ⟨f0, f1, f2, _⟩ := hf p.1 hb
  obtain ⟨o, e', d⟩ := ho p.1 hb
  rw [e] at e'; cases e'
  exact ⟨e, f0, f1, f2, d⟩
theorem Inv.unpinned {pins pl : List (Addr × Obj)} {σ : St} {H : Hp} {s : Shared} (I : Inv X (pins ++ pl) σ H s) : Inv X pins σ H s := I.pins_of fun p hp => I.pin p (SY _ (SO _ hp))
theorem Oo {iter : Expr} {body : List Stmt} {wi : TI} {g : TG} {tb : TS} {pos : Pos} (hp : PassesOwn (model X.prog X.w) X.A X.env X.xe) (hc : X.calm = true) (hi : PI X tg iter wi) (hg : PG X tg g) (hb : PSs X body tb)
 (hs : ∀ x, foldedSetIterable iter X.env x = pure x := by intro _; rfl) : PS X (.For tg iter body [] pos) (Po wi g tb) := by
 intro pins s σ H D I h
 refine wpAny_For (thn (hi pins s σ H _ I h) fun v s1 h1 => thn h1 fun itv s2 h2 => ?_) hs
 obtain ⟨it, fp, tn, J, H2, e, I2, T, st2, f2, W, ⟨m0, w0⟩, turn⟩ := h2
 subst e
 -- what stays true of the iterator's objects through the loop
 have stat : ∀ {H' : Hp}, (∀ b ∈ fp, H' b = none) → ∀ b ∈ fp, DT X pins H' b := fun hn b hb => ⟨hn b hb, (f2 b hb).2⟩
 refine codeAny_forLoop_any (fun n s' => ∃ i σ' H', Inv X pins σ' H' s' ∧ tn i s'.heap ∧ (∀ b ∈ fp, H' b = none) ∧ W i n σ' H') ?_ m0 ⟨0, σ, H2, I2, st2, fun b hb => (f2 b hb).1, w0⟩
 rintro n s3 ⟨i, σ3, H3, I3, st3, fr3, w3⟩
 rcases turn i n σ3 H3 w3 with ⟨stop, qn⟩ | ⟨go, N, hN, step⟩
 ·refine wpAny_passesOwn hp (thn (T.done X rfl rfl rfl hc i pins s3 σ3 H3 X.xe I3 (stat fr3) st3 stop) fun r s4 ⟨hr, I4⟩ => ?_)
  subst hr
  exact wpAny_execs_nil ⟨σ3, H3, I4, qn⟩
 ·refine wpAny_passesOwn hp (thn (T.item X rfl rfl rfl hc i pins s3 σ3 H3 X.xe I3 (stat fr3) st3 go) fun r s4 ⟨u, hr, h4⟩ => ?_)
  subst hr
  refine wpAny_passesOwn hp (thn h4 fun _ s5 ⟨x, H5, I5, r5, y5, st5, fr5⟩ => ?_)
  have I5' := I5.pinned (stat fr5) (T.obj _ _ st5)
  refine wpAny_passesOwn hp (thn (hg _ s5 σ3 H5 x u _ I5' r5 (step x H5 y5)) fun _ s6 ⟨σ6, H6, I6, q6⟩ => ?_)
  refine wpAny_passesOwn hp (thn (hb _ s6 σ6 H6 _ I6 q6) fun f s7 q7 => ?_)
  have again : ∀ {σ7 : St} {H7 : Hp}, Inv X (pins ++ EN fp s5.heap) σ7 H7 s7 → N σ7 H7 → ∃ m, m < n ∧ ∃ i σ' H', Inv X pins σ' H' s7 ∧ tn i s7.heap ∧ (∀ b ∈ fp, H' b = none) ∧ W i m σ' H' := fun {σ7 H7} I7 n7 => by
   obtain ⟨m', hm, w7⟩ := hN σ7 H7 n7
   refine ⟨m', hm, i + 1, σ7, H7, I7.unpinned, T.keep _ _ _ st5 fun b hb o e => (I7.pin (b, o) (SY _ (SY _ (Ca hb e)))).1, fun b hb => ?_, w7⟩
   obtain ⟨o, e, d⟩ := T.obj _ _ st5 b hb
   exact (I7.pin (b, o) (SY _ (SY _ (Ca hb e)))).2.1
  cases f with
  | next => obtain ⟨σ7, H7, I7, n7⟩ := q7; exact again I7 n7
  | cont => obtain ⟨σ7, H7, I7, n7⟩ := q7; exact again I7 n7
  | brk => obtain ⟨σ7, H7, I7, q7⟩ := q7; exact ⟨σ7, H7, I7.unpinned, q7⟩
  | ret v => obtain ⟨x7, σ7, H7, I7, r7, q7⟩ := q7; exact ⟨x7, σ7, H7, I7.unpinned, r7, q7⟩
end
theorem MS {K : SE} {a : Addr} {xs : List V} {g : TG} {tb : TS} {D : Ea} {σ : St} {H : Hp} (Pv : Nat → St → Hp → Prop) (h0 : Pv 0 σ H) (hl : ∀ i σ H, i ≤ xs.length → Pv i σ H → SqL K H a xs)
 (hs : ∀ i x σ H, xs[i]? = some x → Pv i σ H → g x σ H fun σ2 H2 => tb { D with nx := Pv (i + 1), ct := Pv (i + 1), bk := D.nx } σ2 H2) (hd : ∀ σ H, Pv xs.length σ H → D.nx σ H) :
 ∃ W : Nat → Nat → St → Hp → Prop, (∃ m, W 0 m σ H) ∧ ∀ i m σ H, W i m σ H →
   ((Itl K a).stop i H ∧ D.nx σ H) ∨ ((Itl K a).go i H ∧ ∃ N : St → Hp → Prop, (∀ σ' H', N σ' H' → ∃ m', m' < m ∧ W (i + 1) m' σ' H') ∧ ∀ x H', (Itl K a).yld i H x H' → g x σ H' fun σ2 H2 => tb { D with nx := N, ct := N, bk := D.nx } σ2 H2) := by
 refine ⟨fun i m σ H => m = xs.length - i ∧ i ≤ xs.length ∧ Pv i σ H, ⟨xs.length, by simp, T1 _, h0⟩, ?_⟩
 rintro i m σ H ⟨rfl, hi, p⟩
 have q := hl i σ H hi p
 by_cases hlt : i < xs.length
 ·refine .inr ⟨⟨xs, xs[i], q, by simp [hlt]⟩, Pv (i + 1), fun σ' H' p' => ⟨xs.length - (i + 1), by lia, rfl, hlt, p'⟩, fun x H' y => ?_⟩
  obtain ⟨e, y⟩ := y
  subst e
  exact hs i x σ _ (y xs q) p
 ·have e : i = xs.length := by lia
  subst e
  exact .inl ⟨⟨xs, q, SW _⟩, hd σ H p⟩
theorem FI {K : SE} {a : Addr} {xs : List V} {g : TG} {tb : TS} {D : Ea} {σ : St} {H : Hp} (Pv : Nat → St → Hp → Prop) (h0 : Pv 0 σ H) (hl : ∀ i σ H, i ≤ xs.length → Pv i σ H → SqT K H a xs)
 (hs : ∀ i x σ H, xs[i]? = some x → Pv i σ H → g x σ H fun σ2 H2 => tb { D with nx := Pv (i + 1), ct := Pv (i + 1), bk := D.nx } σ2 H2) (hd : ∀ σ H, Pv xs.length σ H → D.nx σ H) :
 ∃ W : Nat → Nat → St → Hp → Prop, (∃ m, W 0 m σ H) ∧ ∀ i m σ H, W i m σ H →
   ((Itt K a).stop i H ∧ D.nx σ H) ∨ ((Itt K a).go i H ∧ ∃ N : St → Hp → Prop, (∀ σ' H', N σ' H' → ∃ m', m' < m ∧ W (i + 1) m' σ' H') ∧ ∀ x H', (Itt K a).yld i H x H' → g x σ H' fun σ2 H2 => tb { D with nx := N, ct := N, bk := D.nx } σ2 H2) := by
 refine ⟨fun i m σ H => m = xs.length - i ∧ i ≤ xs.length ∧ Pv i σ H, ⟨xs.length, by simp, T1 _, h0⟩, ?_⟩
 rintro i m σ H ⟨rfl, hi, p⟩
 have q := hl i σ H hi p
 by_cases hlt : i < xs.length
 ·refine .inr ⟨⟨xs, xs[i], q, by simp [hlt]⟩, Pv (i + 1), fun σ' H' p' => ⟨xs.length - (i + 1), by lia, rfl, hlt, p'⟩, fun x H' y => ?_⟩
  obtain ⟨e, y⟩ := y
  subst e
  exact hs i x σ _ (y xs q) p
 ·have e : i = xs.length := by lia
  subst e
  exact .inl ⟨⟨xs, q, SW _⟩, hd σ H p⟩
theorem HC {lo : Int} {n : Nat} {g : TG} {tb : TS} {D : Ea} {σ : St} {H : Hp} (Pv : Nat → St → Hp → Prop) (h0 : Pv 0 σ H)
 (hs : ∀ i σ H, i < n → Pv i σ H → g (.int (lo + i)) σ H fun σ2 H2 => tb { D with nx := Pv (i + 1), ct := Pv (i + 1), bk := D.nx } σ2 H2) (hd : ∀ σ H, Pv n σ H → D.nx σ H) :
 ∃ W : Nat → Nat → St → Hp → Prop, (∃ m, W 0 m σ H) ∧ ∀ i m σ H, W i m σ H →
   ((Itr lo n).stop i H ∧ D.nx σ H) ∨ ((Itr lo n).go i H ∧ ∃ N : St → Hp → Prop, (∀ σ' H', N σ' H' → ∃ m', m' < m ∧ W (i + 1) m' σ' H') ∧ ∀ x H', (Itr lo n).yld i H x H' → g x σ H' fun σ2 H2 => tb { D with nx := N, ct := N, bk := D.nx } σ2 H2) := by
 refine ⟨fun i m σ H => m = n - i ∧ i ≤ n ∧ Pv i σ H, ⟨n, by simp, T1 _, h0⟩, ?_⟩
 rintro i m σ H ⟨rfl, hi, p⟩
 by_cases hlt : i < n
 ·refine .inr ⟨hlt, Pv (i + 1), fun σ' H' p' => ⟨n - (i + 1), by lia, rfl, hlt, p'⟩, fun x H' y => ?_⟩
  obtain ⟨e, y⟩ := y
  subst e y
  exact hs i σ _ hlt p
 ·have e : i = n := by lia
  subst e
  exact .inl ⟨SW _, hd σ H p⟩
theorem IS {c : TT} {tb : TS} {D : Ea} {σ : St} {H : Hp} (Pv : St → Hp → Prop) (μ : St → Hp → Nat) (h0 : Pv σ H)
 (hs : ∀ σ H, Pv σ H → c σ H fun b H1 => if b = true then tb { D with nx := fun σ' H' => Pv σ' H' ∧ μ σ' H' < μ σ H, ct := fun σ' H' => Pv σ' H' ∧ μ σ' H' < μ σ H, bk := D.nx } σ H1 else D.nx σ H1)
 (mono : ∀ σ H Q Q', (∀ b H1, Q b H1 → Q' b H1) → c σ H Q → c σ H Q') : M5 c tb D σ H := by
 refine ⟨fun m σ H => m = μ σ H ∧ Pv σ H, ⟨_, rfl, h0⟩, ?_⟩
 rintro m σ H ⟨rfl, p⟩
 refine mono σ H _ _ (fun b H1 q => ?_) (hs σ H p)
 cases b with
 | true => exact ⟨_, fun σ' H' ⟨p', l⟩ => ⟨_, l, rfl, p'⟩, q⟩
 | false => exact q
end L2
namespace L2
open PySem PySem.Spec PyProof.Rows
abbrev R2 := V → V → Hp → VK → Prop
def OpR (X : Cx) (f : Value → Value → Sem Value) (r : R2) : Prop :=
 ∀ (pins : List (Addr × Obj)) (s : Shared) (σ : St) (H : Hp) (x y : V) (v u : Value) (Q : VK), Inv X pins σ H s → AS x v → AS y u → r x y H Q →
   wpAny (model X.prog X.w) X.A (f v u) (EP X pins σ Q) X.xe s
def BO (X : Cx) (f : Value) (r : List V → Hp → VK → Prop) : Prop :=
 ∀ (pins : List (Addr × Obj)) (s : Shared) (σ : St) (H : Hp) (xs : List V) (us : List Value) (Q : VK), Inv X pins σ H s → AQ xs us → r xs H Q →
   wpAny (model X.prog X.w) X.A (call f us) (EP X pins σ Q) X.xe s
def tOp (r : R2) (ta tb : TE) : TE := fun σ H Q => ta σ H fun x H1 => tb σ H1 fun y H2 => r x y H2 Q
inductive rI (C : Int → Int → Prop) (g : Int → Int → V) (x : V) (y : V) (H : Hp) (Q : VK) : Prop
 | mk (i : _) (j : _) (h1 : x = .int i) (h2 : y = .int j) (h3 : C i j) (h4 : Q (g i j) H) : rI C g x y H Q
inductive rI0 (g : Int → Int → V) (x : V) (y : V) (H : Hp) (Q : VK) : Prop
 | mk (i : _) (j : _) (h1 : x = .int i) (h2 : y = .int j) (h3 : Q (g i j) H) : rI0 g x y H Q
section
variable {X : Cx} {a b c : Expr} {ta tb tc : TE} {pos : Pos}
theorem P7 (ha : PE X a ta) (hb : PE X b tb) {pins : List (Addr × Obj)} {s : Shared} {σ : St} {H : Hp} {R : V → V → Hp → Prop} (I : Inv X pins σ H s)
 (h : ta σ H fun x H1 => tb σ H1 fun y H2 => R x y H2) {Q : Value → Shared → Prop} {f : Value → Value → Sem Value}
 (hf : ∀ v u s2 x y H2, Inv X pins σ H2 s2 → AS x v → AS y u → R x y H2 → wpAny (model X.prog X.w) X.A (f v u) Q X.xe s2) :
 wpAny (model X.prog X.w) X.A (eval a X.env) (fun v s₁ => wpAny (model X.prog X.w) X.A (eval b X.env) (fun u s₂ => wpAny (model X.prog X.w) X.A (f v u) Q X.xe s₂) X.xe s₁) X.xe s := by
 refine thn (ha pins s σ H _ I h) fun v s1 ⟨x, H1, I1, r1, q1⟩ => ?_
 refine thn (hb pins s1 σ H1 _ I1 q1) fun u s2 ⟨y, H2, I2, r2, q2⟩ => ?_
 exact hf v u s2 x y H2 I2 r1 r2 q2
theorem Ax {op : Operator} {r : R2} (ho : OpR X (binaryOp op) r) (ha : PE X a ta) (hb : PE X b tb) : PE X (.BinOp a op b pos) (tOp r ta tb) := by
 intro pins s σ H Q I h
 exact wpAny_BinOp (P7 ha hb I h fun v u s2 x y H2 I2 rx ry q => ho pins s2 σ H2 x y v u Q I2 rx ry q)
theorem opI {f : Value → Value → Sem Value} {C : Int → Int → Prop} {g : Int → Int → Int}
 (rule : ∀ (i j : Int) (t u : Tok) (s : Shared) (Q : Value → Shared → Prop) (E : Value → Shared → Prop), C i j → Q (.int (g i j) s.toks) { s with toks := s.toks + 1 } → wpAny (model X.prog X.w) X.A (f (.int i t) (.int j u)) Q E s) :
 OpR X f (rI C fun i j => .int (g i j)) := by
 intro pins s σ H x y v u Q I rx ry h
 obtain ⟨i, j, rfl, rfl, hc, q⟩ := h
 obtain ⟨t, rfl⟩ := rx
 obtain ⟨t', rfl⟩ := ry
 exact rule i j t t' s _ _ hc ⟨.int (g i j), H, I.tok _, ⟨_, rfl⟩, q⟩
theorem PN {f : Value → Value → Sem Value} {g : Int → Int → Int}
 (rule : ∀ (i j : Int) (t u : Tok) (s : Shared) (Q : Value → Shared → Prop) (E : Value → Shared → Prop), Q (.int (g i j) s.toks) { s with toks := s.toks + 1 } → wpAny (model X.prog X.w) X.A (f (.int i t) (.int j u)) Q E s) :
 OpR X f (rI0 fun i j => .int (g i j)) := by
 intro pins s σ H x y v u Q I rx ry h
 obtain ⟨i, j, rfl, rfl, q⟩ := h
 obtain ⟨t, rfl⟩ := rx
 obtain ⟨t', rfl⟩ := ry
 exact rule i j t t' s _ _ ⟨.int (g i j), H, I.tok _, ⟨_, rfl⟩, q⟩
theorem OD {f : Value → Value → Sem Value} {g : Int → Int → Bool}
 (rule : ∀ (i j : Int) (t u : Tok) (s : Shared) (Q : Value → Shared → Prop) (E : Value → Shared → Prop), Q (.bool (g i j)) s → wpAny (model X.prog X.w) X.A (f (.int i t) (.int j u)) Q E s) :
 OpR X f (rI0 fun i j => .bl (g i j)) := by
 intro pins s σ H x y v u Q I rx ry h
 obtain ⟨i, j, rfl, rfl, q⟩ := h
 obtain ⟨t, rfl⟩ := rx
 obtain ⟨t', rfl⟩ := ry
 exact rule i j t t' s _ _ ⟨.bl (g i j), H, I, rfl, q⟩
def Pe (i j : Int) : Prop := 0 ≤ j ∧ j ≤ 1000000 ∧ i.natAbs < 2 ^ 64
theorem BA : OpR X (binaryOp .Add) (rI0 fun i j => .int (i + j)) := PN fun _ _ _ _ _ _ _ q => add_int q
theorem DA : OpR X (binaryOp .Sub) (rI0 fun i j => .int (i - j)) := PN fun _ _ _ _ _ _ _ q => sub_int q
theorem Cj : OpR X (binaryOp .Mod) (rI (fun _ j => 0 < j) fun i j => .int (i % j)) := opI fun i j _ _ _ _ _ hc q => by
 have h1 : (0 : Int) < j := hc
 exact mod_int' (by lia) (by rw [Int.fmod_eq_emod_of_nonneg i (by lia)]; exact q)
theorem My : OpR X (binaryOp .Pow) (rI Pe fun i j => .int (i ^ j.toNat)) := opI fun _ _ _ _ _ _ _ hc q => pow_int_small hc.1 hc.2.1 hc.2.2 q
end
def Pu : V → V → Bool
 | .non, .non => true | .non, .int _ => true | .int _, .non => true | .non, .bl _ => true | .bl _, .non => true | .non, .str _ => true | .str _, .non => true
 | .int _, .int _ => true | .bl _, .bl _ => true | .str _, .str _ => true | .byt _, .byt _ => true
 | .int _, .str _ => true | .str _, .int _ => true | .bl _, .str _ => true | .str _, .bl _ => true
 | _, _ => false
def rEq : R2 := fun x y H Q => Pu x y = true ∧ Q (.bl (decide (x = y))) H
def rNe : R2 := fun x y H Q => Pu x y = true ∧ Q (.bl (!decide (x = y))) H
theorem KZ {i j : Int} : decide (V.int i = V.int j) = (i == j) := by
 rw [Bool.eq_iff_iff]
 simp
theorem MY {i j : Bool} : decide (V.bl i = V.bl j) = (i == j) := by
 rw [Bool.eq_iff_iff]
 simp
theorem KY {i j : Str} : decide (V.str i = V.str j) = (i == j) := by
 rw [Bool.eq_iff_iff]
 simp
theorem La {i j : Array UInt8} : decide (V.byt i = V.byt j) = (i.toList == j.toList) := by
 rw [Bool.eq_iff_iff]
 cases i
 cases j
 simp
section
variable {X : Cx} {a b c : Expr} {ta tb tc : TE} {pos : Pos}
theorem AW {pins : List (Addr × Obj)} {σ : St} {H : Hp} {s : Shared} {Q : VK} {k k' : Bool} (I : Inv X pins σ H s) (q : Q (.bl k) H) (e : k = k') : EP X pins σ Q (.bool k') s := by
 subst e
 exact ⟨.bl k, H, I, rfl, q⟩
theorem BH : OpR X (compareOp .Eq) rEq := by
 intro pins s σ H x y v u Q I rx ry h
 obtain ⟨hs, q⟩ := h
 cases x with
 | non =>
   cases rx
   cases y with
   | non => cases ry; exact PySem.EqNone.eq_none_none (AW I q (by simp))
   | bl j => cases ry; exact PySem.EqNone.eq_none_bool (AW I q (by simp))
   | int j => obtain ⟨t', rfl⟩ := ry; exact PySem.EqNone.eq_none_int (AW I q (by simp))
   | str j => obtain ⟨t', rfl⟩ := ry; exact PySem.EqNone.eq_none_str (AW I q (by simp))
   | _ => exact absurd (show false = true from hs) Bool.false_ne_true
 | bl i =>
   cases rx
   cases y with
   | non => cases ry; exact PySem.EqNone.eq_bool_none (AW I q (by simp))
   | bl j => cases ry; exact eq_bool (AW I q MY)
   | str j => obtain ⟨t', rfl⟩ := ry; exact PySem.EqMixed.eq_bool_str (AW I q (by simp))
   | _ => exact absurd (show false = true from hs) Bool.false_ne_true
 | int i =>
   obtain ⟨t, rfl⟩ := rx
   cases y with
   | non => cases ry; exact PySem.EqNone.eq_int_none (AW I q (by simp))
   | int j => obtain ⟨t', rfl⟩ := ry; exact eq_int (AW I q KZ)
   | str j => obtain ⟨t', rfl⟩ := ry; exact PySem.EqMixed.eq_int_str (AW I q (by simp))
   | _ => exact absurd (show false = true from hs) Bool.false_ne_true
 | str i =>
   obtain ⟨t, rfl⟩ := rx
   cases y with
   | non => cases ry; exact PySem.EqNone.eq_str_none (AW I q (by simp))
   | bl j => cases ry; exact PySem.EqMixed.eq_str_bool (AW I q (by simp))
   | int j => obtain ⟨t', rfl⟩ := ry; exact PySem.EqMixed.eq_str_int (AW I q (by simp))
   | str j => obtain ⟨t', rfl⟩ := ry; exact eq_str (AW I q KY)
   | _ => exact absurd (show false = true from hs) Bool.false_ne_true
 | byt i =>
   obtain ⟨t, rfl⟩ := rx
   cases y with
   | byt j => obtain ⟨t', rfl⟩ := ry; exact PySem.W.eq_bytes (AW I q La)
   | _ => exact absurd (show false = true from hs) Bool.false_ne_true
 | _ => cases y <;> exact absurd (show false = true from hs) Bool.false_ne_true
theorem En : OpR X (compareOp .NotEq) rNe := by
 intro pins s σ H x y v u Q I rx ry h
 obtain ⟨hs, q⟩ := h
 cases x with
 | non =>
   cases rx
   cases y with
   | non => cases ry; exact PySem.EqNone.ne_none_none (AW I q (by simp))
   | bl j => cases ry; exact PySem.EqNone.ne_none_bool (AW I q (by simp))
   | int j => obtain ⟨t', rfl⟩ := ry; exact PySem.EqNone.ne_none_int (AW I q (by simp))
   | str j => obtain ⟨t', rfl⟩ := ry; exact PySem.EqNone.ne_none_str (AW I q (by simp))
   | _ => exact absurd (show false = true from hs) Bool.false_ne_true
 | bl i =>
   cases rx
   cases y with
   | non => cases ry; exact PySem.EqNone.ne_bool_none (AW I q (by simp))
   | bl j => cases ry; exact ne_bool (AW I q (congrArg not MY))
   | str j => obtain ⟨t', rfl⟩ := ry; exact PySem.EqMixed.ne_bool_str (AW I q (by simp))
   | _ => exact absurd (show false = true from hs) Bool.false_ne_true
 | int i =>
   obtain ⟨t, rfl⟩ := rx
   cases y with
   | non => cases ry; exact PySem.EqNone.ne_int_none (AW I q (by simp))
   | int j => obtain ⟨t', rfl⟩ := ry; exact ne_int (AW I q (congrArg not KZ))
   | str j => obtain ⟨t', rfl⟩ := ry; exact PySem.EqMixed.ne_int_str (AW I q (by simp))
   | _ => exact absurd (show false = true from hs) Bool.false_ne_true
 | str i =>
   obtain ⟨t, rfl⟩ := rx
   cases y with
   | non => cases ry; exact PySem.EqNone.ne_str_none (AW I q (by simp))
   | bl j => cases ry; exact PySem.EqMixed.ne_str_bool (AW I q (by simp))
   | int j => obtain ⟨t', rfl⟩ := ry; exact PySem.EqMixed.ne_str_int (AW I q (by simp))
   | str j => obtain ⟨t', rfl⟩ := ry; exact ne_str (AW I q (congrArg not KY))
   | _ => exact absurd (show false = true from hs) Bool.false_ne_true
 | byt i =>
   obtain ⟨t, rfl⟩ := rx
   cases y with
   | byt j => obtain ⟨t', rfl⟩ := ry; exact PySem.W.ne_bytes (AW I q (congrArg not La))
   | _ => exact absurd (show false = true from hs) Bool.false_ne_true
 | _ => cases y <;> exact absurd (show false = true from hs) Bool.false_ne_true
theorem Ja : OpR X (compareOp .Lt) (rI0 fun i j => .bl (decide (i < j))) := OD fun _ _ _ _ _ _ _ q => lt_int q
theorem Di : OpR X (compareOp .Gt) (rI0 fun i j => .bl (decide (j < i))) := OD fun _ _ _ _ _ _ _ q => gt_int q
theorem NW : OpR X (compareOp .GtE) (rI0 fun i j => .bl (decide (j ≤ i))) := OD fun _ _ _ _ _ _ _ q => ge_int q
theorem Lr : OpR X (compareOp .In) (fun x y H Q => ∃ i j, x = .str i ∧ y = .str j ∧ Q (.bl (!(Builtin.Str.occurrences j i 0 j.length 1).isEmpty)) H) := by
 intro pins s σ H x y v u Q I rx ry h
 obtain ⟨i, j, rfl, rfl, q⟩ := h
 obtain ⟨t, rfl⟩ := rx
 obtain ⟨t', rfl⟩ := ry
 exact in_str (AW I q rfl)
theorem Mz : OpR X (compareOp .Is) (fun x y H Q => y = .non ∧ Q (.bl (decide (x = .non))) H) := by
 intro pins s σ H x y v u Q I rx ry h
 obtain ⟨rfl, q⟩ := h
 cases ry
 refine is_none_gen (AW I q ?_)
 cases x <;> first
  | (cases rx; rfl)
  | (obtain ⟨t, rfl⟩ := rx; rfl)
theorem As (b : Expr) {op : CmpOp} (h : op ≠ .In := by decide) (h2 : op ≠ .NotIn := by decide) : behindInMarks op b = false := by
 have e1 : (op == CmpOp.In) = false := by cases op <;> first | rfl | exact absurd rfl h
 have e2 : (op == CmpOp.NotIn) = false := by cases op <;> first | rfl | exact absurd rfl h2
 cases b <;> simp [behindInMarks, e1, e2]
theorem Cr {op : CmpOp} {r : R2} (ho : OpR X (compareOp op) r) (ha : PE X a ta) (hb : PE X b tb) (hm : behindInMarks op b = false) : PE X (.Compare a [op] [b] pos) (tOp r ta tb) := by
 intro pins s σ H Q I h
 exact wpAny_Compare1 (P7 ha hb I h fun v u s2 x y H2 I2 rx ry q => ho pins s2 σ H2 x y v u Q I2 rx ry q) hm
def Ph (t : TE) : TT := fun σ H Q => t σ H fun x H' => ∃ k, x = .bl k ∧ Q k H'
theorem Ak {op : CmpOp} {r : R2} (ho : OpR X (compareOp op) r) (ha : PE X a ta) (hb : PE X b tb) (hm : behindInMarks op b = false) : PT X (.Compare a [op] [b] pos) (Ph (tOp r ta tb)) := by
 intro pins s σ H Q I h
 refine wpAny_isTrue_Compare1 (thn (ha pins s σ H _ I h) fun v s1 ⟨x, H1, I1, r1, q1⟩ => thn (hb pins s1 σ H1 _ I1 q1) fun u s2 ⟨y, H2, I2, r2, q2⟩ =>
  thn (ho pins s2 σ H2 x y v u _ I2 r1 r2 q2) fun c s3 ⟨z, H3, I3, r3, k, e, q3⟩ => ?_) hm
 subst e
 cases r3
 exact wpAny_truthy_bool ⟨H3, I3, q3⟩
theorem EW : (sizeLine : Nat) < 2 ^ 63 := by rw [sizeLine_eq]; decide
theorem C9 : OpR X (binaryOp .Add) (fun x y H Q => ∃ i j, x = .str i ∧ y = .str j ∧ i.length + j.length ≤ sizeLine ∧ Q (.str (i ++ j)) H) := by
 intro pins s σ H x y v u Q I rx ry h
 obtain ⟨i, j, rfl, rfl, hz, q⟩ := h
 obtain ⟨t, rfl⟩ := rx
 obtain ⟨t', rfl⟩ := ry
 exact add_str (fun t' tk => ⟨.str (i ++ j), H, I.tok _, ⟨_, rfl⟩, q⟩) hz
theorem CK {x : V} {us : List Value} (r : AQ [x] us) : ∃ u, us = [u] ∧ AS x u := by
 cases r with
 | cons r1 r2 => cases r2; exact ⟨_, rfl, r1⟩
theorem LV {x y : V} {us : List Value} (r : AQ [x, y] us) : ∃ u w', us = [u, w'] ∧ AS x u ∧ AS y w' := by
 cases r with
 | cons r1 r2 =>
   cases r2 with
   | cons r3 r4 => cases r4; exact ⟨_, _, rfl, r1, r3⟩
theorem EB : BO X (.builtin "abs") (fun xs H Q => ∃ i, xs = [.int i] ∧ Q (.int (if i < 0 then -i else i)) H) := by
 intro pins s σ H xs us Q I r h
 obtain ⟨i, rfl, q⟩ := h
 obtain ⟨u, rfl, t, rfl⟩ := CK r
 exact call_abs_int fun u tk => ⟨.int (if i < 0 then -i else i), H, I.tok _, ⟨_, rfl⟩, q⟩
theorem HE : BO X (.type "int") (fun xs H Q => (∃ i, xs = [.int i] ∧ Q (.int i) H) ∨ ∃ k, xs = [.bl k] ∧ Q (.int (if k then 1 else 0)) H) := by
 intro pins s σ H xs us Q I r h
 rcases h with ⟨i, rfl, q⟩ | ⟨k, rfl, q⟩
 ·obtain ⟨u, rfl, t, rfl⟩ := CK r
  exact call_int_int ⟨.int i, H, I, ⟨_, rfl⟩, q⟩
 ·obtain ⟨u, rfl, r1⟩ := CK r
  cases r1
  exact call_int_bool ⟨.int (if k then 1 else 0), H, I.tok _, ⟨_, rfl⟩, q⟩
theorem BM : BO X (.type "str") (fun xs H Q => ∃ i, xs = [.int i] ∧ i.natAbs.log2 < 1920 ∧ Q (.str (toString i)) H) := by
 intro pins s σ H xs us Q I r h
 obtain ⟨i, rfl, hz, q⟩ := h
 obtain ⟨u, rfl, t, rfl⟩ := CK r
 exact PySem.P.str_of_int hz ⟨.str _, H, I.tok _, ⟨_, rfl⟩, q⟩
end
end L2
namespace L2
open PySem PySem.Spec PyProof.Rows
structure Km (h : Heap) (x dx C : Addr) (mA : Str → Option Value) : Prop where
 obj : h.get? x = some (Sr C dx)
 ns : h.Ns1 dx mA
 ne : dx ≠ x
theorem LA {h : Heap} {dx : Addr} {mA : Str → Option Value} (n : h.Ns1 dx mA) : ∃ od, h.get? dx = some od ∧ ∀ name, T2 name od = some (mA name) := by
 obtain ⟨o, es, ep, ho, hd, hk, _, hm⟩ := n
 refine ⟨o, ho, fun name => ?_⟩
 have e := hm name
 unfold nsFind findBy at e
 rw [← Array.find?_toList] at e
 unfold T2
 rw [hd]
 dsimp only
 split
 ·rename_i y q
  rw [q] at e
  exact congrArg some e
 ·rename_i q
  rw [q] at e
  have a : es.toList.any (·.refKey) = false := by
   rw [List.any_eq_false]
   intro y hy
   obtain ⟨z, t, hkey⟩ := hk y (Array.mem_toList_iff.mp hy)
   simp [DictEntry.refKey, hkey]
  have a' : ¬ es.toList.any (·.refKey) = true := by rw [a]; exact Bool.false_ne_true
  rw [if_neg a']
  exact congrArg some e
theorem Km.look {h : Heap} {x dx C : Addr} {mA : Str → Option Value} (I : Km h x dx C mA) : ∃ od, PySem.W.InstAt h x (Sr C dx) C (some od) ∧ ∀ name, T2 name od = some (mA name) :=
 let ⟨od, ho, hl⟩ := LA I.ns
 ⟨od, ⟨I.obj, rfl, rfl, ho⟩, hl⟩
section
variable {prog : Program} {w : World} {A : Around} {E : Value → Shared → Prop} {s : Shared} {K : SE} {x dx C f : Addr} {mA : Str → Option Value} {name : Str} {v : Value}
theorem NC {expr : Bool} {Q : Value → Shared → Prop} (X : K.In s.heap) (I : Km s.heap x dx C mA) (hg : T3 K C name = true) (hh : T4 K C = true)
 (ha : T5 K (.ref C) name = some none) (hv : mA name = some v) (hv' : PySem.W.handedIn v = true) (h : Q v { s with toks := s.toks + 1 }) :
 wpAny (model prog w) A (getAttr (.ref x) name expr) Q E s := by
 obtain ⟨od, J, hl⟩ := I.look
 exact PySem.W.get_value X J (T6 hg).1 (PySem.W.findObj_own hh ha rfl (by rw [hl, hv])) hv' h
theorem MQ {pl : Sem Bool} {Q : Value × List Value → Shared → Prop} (X : K.In s.heap) (I : Km s.heap x dx C mA) (hg : T3 K C name = true)
 (hf : T5 K (.ref C) name = some (some (.ref f))) (ht : T7 K (.ref f) = true) (hv : mA name = none) (h : Q (.ref f, [.ref x]) s) :
 wpAny (model prog w) A (getMethod (.ref x) name pl) Q E s := by
 obtain ⟨od, J, hl⟩ := I.look
 exact PySem.W.method_fn X J (T6 hg).1 (T6 hg).2 hf (beq_iff_eq.mp ht) (by show (T2 name od).map (·.isSome) = some false; rw [hl, hv]; rfl) h
theorem Nk {ns : List Str} {Q : Unit → Shared → Prop} (X : K.In s.heap) (I : Km s.heap x dx C mA)
 (hs : T5 K (.ref C) "__setattr__" = some (some (.builtin "object.__setattr__"))) (hp : T8 K C = true) (ht : T9 K C name = some none) (hh : T4 K C = true)
 (hw : PySem.Within mA ns) (hsz : ns.length ≤ sizeLine)
 (h : ∀ h', Km h' x dx C (fun y => if y = name then some v else mA y) → Heap.SameBut dx s.heap h' → Q () { s with heap := h', toks := s.toks + 2 }) :
 wpAny (model prog w) A (setAttr (.ref x) name v) Q E s := by
 obtain ⟨od, J, hl⟩ := I.look
 refine PySem.W.set_plain X J hs (PySem.W.osa_open (s := { s with toks := s.toks + 1 }) (r := none) X J hp ht fun b => ?_)
 obtain ⟨cd, hc, hd'⟩ := PySem.W.any_some hh
 have hx : s.heap.get? x = some ⟨.ref C, some dx, .plain, #[]⟩ := I.obj
 refine wpAny_bind (wpAny_pure (wpAny_bind (wpAny_bind (wpAny_loadPart hx (wpAny_bind (PySem.W.Looks.here (s := { s with toks := s.toks + 1 }) (PySem.W.looks_clsIn X hc) ?_))))))
 rw [hd']
 refine wpAny_pure (a := some dx) (wpAny_bind (wpAny_pure (wpAny_bind ?_)))
 refine wpAny_nsSet1 (s := { s with toks := s.toks + 1 }) I.ns fun h' hn2 hs2 => ?_
 obtain ⟨oD, esD, epD, hoD, hdD, hcD⟩ := hn2.count (PySem.Within.cons name v hw)
 refine wpAny_bind (wpAny_lookBehind hoD (by rw [hdD]; exact pastItsLine_dict (SG hcD (by rw [Ta]; lia))) ?_)
 exact wpAny_pure (h _ ⟨(hs2.2 _ (Ne.symm I.ne)).trans I.obj, hn2, I.ne⟩ hs2)
theorem MH {R : Result → Shared → Prop} {vs : List Value} {kw : List (Str × Value)} (X : K.In s.heap) (hm : Tb K C = true)
 (hi : T5 K (.ref C) "__init__" = some (some (.ref f))) (hf : PySem.W.typeIn K (.ref f) = some (.type "function"))
 (h : codeAny (model prog w) (A.under (.builtin "type.__call__" ⟨.ref C :: vs, kw⟩)) (.call (.ref f) ⟨.ref (s.heap.objs.size + 1) :: vs, kw⟩) (PySem.W.InitBack (s.heap.objs.size + 1) R)
  { s with heap := (s.heap.push Tc).push (Sr C s.heap.objs.size) }) :
 codeAny (model prog w) A (.call (.ref C) ⟨vs, kw⟩) R s := by
 obtain ⟨hh, g, d, t, os⟩ := s
 exact PySem.W.make_core (PySem.W.makes_of X hm) (PySem.W.looks_findIn X hi) (fun self => PySem.W.bind_fn X self hf) (.inl rfl) h
end
def DP (f : Str) (v : V) : List (Str × V) → List (Str × V)
 | [] => [(f, v)]
 | (g, x) :: r => if g = f then (g, v) :: r else (g, x) :: DP f v r
theorem Fn (f g : Str) (v : V) : ∀ fs : List (Str × V), (DP f v fs).lookup g = if g = f then some v else fs.lookup g
 | [] => by
   show Td g [(f, v)] = _
   by_cases h : g = f
   ·have hb : (g == f) = true := beq_iff_eq.mpr h
    simp only [Td, hb, if_pos h]
   ·have hb : (g == f) = false := beq_eq_false_iff_ne.mpr h
    simp only [Td, hb, if_neg h]
 | (k, x) :: r => by
   have ih := Fn f g v r
   rw [show DP f v ((k, x) :: r) = (if k = f then (k, v) :: r else (k, x) :: DP f v r) from rfl]
   by_cases hk : k = f
   ·rw [if_pos hk]
    by_cases h : g = k
    ·have hb : (g == k) = true := beq_iff_eq.mpr h
     simp only [Td, hb, if_pos (h.trans hk)]
    ·have hb : (g == k) = false := beq_eq_false_iff_ne.mpr h
     simp only [Td, hb, if_neg (fun e : g = f => h (e.trans hk.symm))]
   ·rw [if_neg hk]
    by_cases h : g = k
    ·have hb : (g == k) = true := beq_iff_eq.mpr h
     simp only [Td, hb, if_neg (fun e : g = f => hk (h.symm.trans e))]
    ·have hb : (g == k) = false := beq_eq_false_iff_ne.mpr h
     simp only [Td, hb]
     exact ih
theorem EY (f : Str) (v : V) : ∀ fs : List (Str × V), f ∈ (DP f v fs).map (·.1) ∧ ∀ g, g ∈ fs.map (·.1) → g ∈ (DP f v fs).map (·.1)
 | [] => ⟨by simp [DP], fun g h => by simp at h⟩
 | (k, x) :: r => by
   obtain ⟨i1, i2⟩ := EY f v r
   rw [show DP f v ((k, x) :: r) = (if k = f then (k, v) :: r else (k, x) :: DP f v r) from rfl]
   by_cases hk : k = f
   ·rw [if_pos hk]
    subst hk
    exact ⟨by simp, fun g h => by simpa using h⟩
   ·rw [if_neg hk]
    refine ⟨?_, fun g h => ?_⟩
    ·rw [Te]
     exact SK _ i1
    ·rw [Te] at h ⊢
     rcases SM.mp h with e | e
     ·exact SM.mpr (.inl e)
     ·exact SK _ (i2 g e)
theorem Fo (f : Str) (v : V) : ∀ fs : List (Str × V), (DP f v fs).length ≤ fs.length + 1
 | [] => by simp [DP]
 | (k, x) :: r => by
   have ih := Fo f v r
   rw [show DP f v ((k, x) :: r) = (if k = f then (k, v) :: r else (k, x) :: DP f v r) from rfl]
   by_cases hk : k = f
   ·rw [if_pos hk, Ta, Ta]; lia
   ·rw [if_neg hk, Ta, Ta]; lia
theorem DS.some_of {v : V} {o : Option Value} (r : DS (some v) o) : ∃ u, o = some u ∧ AS v u := by
 cases o with
 | none => exact (show False from r).elim
 | some u => exact ⟨u, rfl, r⟩
theorem DS.none_of {o : Option Value} (r : DS none o) : o = none := by
 cases o with
 | none => rfl
 | some u => exact (show False from r).elim
theorem LH {v : V} {u : Value} (r : AS v u) : PySem.W.handedIn u = true := by
 cases v with
 | non => cases (show u = Value.none from r); rfl
 | bl b => cases (show u = Value.bool b from r); rfl
 | int i => obtain ⟨t, e⟩ := (show ∃ t, u = Value.int i t from r); cases e; rfl
 | str x => obtain ⟨t, e⟩ := (show ∃ t, u = Value.str x t from r); cases e; rfl
 | byt b => obtain ⟨t, e⟩ := (show ∃ t, u = Value.bytes b t from r); cases e; rfl
 | flt b => obtain ⟨t, e⟩ := (show ∃ t, u = Value.float b t from r); cases e; rfl
 | ref a => cases (show u = Value.ref a from r); rfl
 | ty n => cases (show u = Value.type n from r); rfl
section
variable {P : Program} {w : World} {H H' : Hp} {h h' : Heap} {a C dx : Addr} {fs fs' : List (Str × V)}
theorem FH (hok : HOk P w H h) (e : H a = some (.ins C dx fs)) : ∃ mA, Km h a dx C mA ∧ (∀ f, DS (fs.lookup f) (mA f)) ∧ PySem.Within mA (fs.map (·.1)) ∧ fs.length ≤ 1000 ∧ H dx = some (.own a) := by
 obtain ⟨d, z, ne, ob, mA, n, r, q⟩ := (show Bt P w H h a (.ins C dx fs) from hok a _ e)
 exact ⟨mA, ⟨ob, n, ne⟩, r, q, z, d⟩
end
structure Cls (K : SE) (C : Addr) : Prop where
 pg : T3 K C Str.empty = true
 hd : T4 K C = true
 po : T8 K C = true
 sa : T5 K (.ref C) "__setattr__" = some (some (.builtin "object.__setattr__"))
theorem Cls.get {K : SE} {C : Addr} (c : Cls K C) (f : Str) : T3 K C f = true := c.pg
def E9 (K : SE) (C : Addr) (f : Str) : Prop := T5 K (.ref C) f = some none
theorem E9.taker {K : SE} {C : Addr} {f : Str} (n : E9 K C f) : T9 K C f = some none := by
 unfold T9
 rw [show T5 K (.ref C) f = some none from n]
 rfl
structure Con (K : SE) (C : Addr) (f : Str) (v : V) (u : Value) : Prop where
 at_ : T5 K (.ref C) f = some (some u)
 rel : AS v u
 get : Tf K u "__get__" = some none
 cp : PySem.W.copiedNames.contains f = false
structure Pc (K : SE) (C : Addr) (m : Str) (f : Addr) : Prop where
 at_ : T5 K (.ref C) m = some (some (.ref f))
 fn : T7 K (.ref f) = true
 kp : Tg K (.ref f) = true
section
variable {X : Cx} {pins : List (Addr × Obj)} {σ : St} {H : Hp} {s : Shared} {a C dx : Addr} {fs : List (Str × V)} {f : Str} {v : V} {A : Around} {E : Value → Shared → Prop}
theorem Kf {b : Bool} {Q : Value → Shared → Prop} (I : Inv X pins σ H s) (e : H a = some (.ins C dx fs)) (c : Cls X.K C) (n : E9 X.K C f) (l : fs.lookup f = some v)
 (h : ∀ u s', Inv X pins σ H s' → AS v u → Q u s') : wpAny (model X.prog X.w) A (getAttr (.ref a) f b) Q E s := by
 obtain ⟨mA, O, r, _, _, _⟩ := FH I.hok e
 obtain ⟨u, hu, ru⟩ := DS.some_of (v := v) (o := mA f) (by rw [← l]; exact r f)
 exact NC I.kIn O (c.get f) c.hd n hu (LH ru) (h u _ (I.tok _) ru)
theorem Gu {m : Str} {g : Addr} {pl : Sem Bool} {Q : Value × List Value → Shared → Prop} (I : Inv X pins σ H s) (e : H a = some (.ins C dx fs)) (c : Cls X.K C) (k : Pc X.K C m g) (l : fs.lookup m = none)
 (h : Q (.ref g, [.ref a]) s) : wpAny (model X.prog X.w) A (getMethod (.ref a) m pl) Q E s := by
 obtain ⟨mA, O, r, _, _, _⟩ := FH I.hok e
 have hn : mA m = none := DS.none_of (by rw [← l]; exact r m)
 exact MQ I.kIn O (c.get m) k.at_ k.fn hn h
theorem JT {y : V} {u : Value} {Q : Unit → Shared → Prop} (I : Inv X pins σ H s) (e : H a = some (.ins C dx fs)) (c : Cls X.K C) (n : E9 X.K C f) (hl : fs.length < 1000) (ry : AS y u)
 (h : ∀ s', Inv X pins σ (upd H a (.ins C dx (DP f y fs))) s' → Q () s') : wpAny (model X.prog X.w) A (setAttr (.ref a) f u) Q E s := by
 obtain ⟨mA, O, r, wi, _, ho⟩ := FH I.hok e
 have hz : (fs.map (·.1)).length ≤ sizeLine := by rw [Th, sizeLine_eq]; lia
 refine Nk I.kIn O c.sa c.po n.taker c.hd wi hz fun h' O' sb => h _ ?_
 have hd : ∃ o, h'.get? dx = some o := let ⟨o, _, _, e', _⟩ := O'.ns; ⟨o, e'⟩
 refine I.write (x := a) (e := dx) (by rw [e]; exact True.intro) (.inr ho) (fun b q hb z => (sb.2 b hb).trans z) hd ?_
 refine ⟨by rw [AA O.ne]; exact ho, ?_, O.ne, O'.obj, _, O'.ns, fun g => ?_, fun g hg => ?_⟩
 ·have := Fo f y fs; lia
 ·show DS ((DP f y fs).lookup g) (if g = f then some u else mA g)
  rw [Fn]
  by_cases q : g = f
  ·rw [if_pos q, if_pos q]; exact ry
  ·rw [if_neg q, if_neg q]; exact r g
 ·by_cases q : g = f
  ·rw [q]; exact (EY f y fs).1
  ·refine (EY f y fs).2 g (wi g fun z => hg ?_)
   show (if g = f then some u else mA g) = none
   rw [if_neg q]; exact z
theorem Inv.made (I : Inv X pins σ H s) : Inv X pins σ (upd (upd H s.heap.objs.size (.own (s.heap.objs.size + 1))) (s.heap.objs.size + 1) (.ins C s.heap.objs.size []))
 { s with heap := (s.heap.push Tc).push (Sr C s.heap.objs.size) } := by
 have e1 : (s.heap.push Tc).get? s.heap.objs.size = some Tc := Heap.get?_push_size s.heap rfl
 have e2 : ((s.heap.push Tc).push (Sr C s.heap.objs.size)).get? (s.heap.objs.size + 1) = some (Sr C s.heap.objs.size) := by
  have := Heap.get?_push_size (s.heap.push Tc) (o := Sr C s.heap.objs.size) rfl
  rwa [Heap.size_push] at this
 have e3 : (s.heap.push Tc).Ns s.heap.objs.size (fun _ => none) := ⟨Tc, #[], _, e1, rfl, (fun e he => absurd he (by simp)), fun _ => rfl⟩
 have I1 := I.laid (a := s.heap.objs.size) (o := .own (s.heap.objs.size + 1)) (h' := s.heap.push Tc) (t' := s.toks) (fun b u q => Heap.get?_push_of_some _ q) (SW _) ⟨_, e1⟩
 refine I1.laid (a := s.heap.objs.size + 1) (o := .ins C s.heap.objs.size []) (t' := s.toks) (fun b u q => Heap.get?_push_of_some _ q) (Nat.le_of_eq (Heap.size_push _ _)) ?_
 have ne : s.heap.objs.size ≠ s.heap.objs.size + 1 := Sw (Ti _)
 refine ⟨by rw [AA ne, Ac], T1 _, ne, e2, fun _ => none, (Heap.Ns1.of_empty e3).at fun o q => Heap.get?_push_of_some _ q, fun _ => True.intro, fun y hy => absurd rfl hy⟩
theorem NI {prog : Program} {w : World} {env : Env} {e : Expr} {f : Str} {pos : Pos} {s : Shared} {Q : Value → Shared → Prop} (hb : attributeBase e f env (eval e env) = eval e env)
 (h : wpAny (model prog w) A (eval e env) (fun o s₁ => wpAny (model prog w) A (getAttr o f true) Q E s₁) E s) : wpAny (model prog w) A (eval (.Attribute e f pos) env) Q E s :=
 Attribute_any_ h (by rw [arm_eval_Attribute, hb])
end
def Pp (K : SE) (ta : TE) (f : Str) : TE := fun σ H Q => ta σ H fun x H1 => ∃ a C dx fs v, x = .ref a ∧ H1 a = some (.ins C dx fs) ∧ Cls K C ∧ E9 K C f ∧ fs.lookup f = some v ∧ Q v H1
def Pw (K : SE) (ta tv : TE) (f : Str) : TS := fun D σ H => tv σ H fun y H1 => ta σ H1 fun x H2 => ∃ a C dx fs, x = .ref a ∧ H2 a = some (.ins C dx fs) ∧ Cls K C ∧ E9 K C f ∧ fs.length < 1000 ∧
 D.nx σ (upd H2 a (.ins C dx (DP f y fs)))
section
variable {X : Cx} {o e value : Expr} {f : Str} {pos pos' tpos : Pos} {ta tv : TE}
theorem Oy (he : PE X e ta) (hb : attributeBase e f X.env (eval e X.env) = eval e X.env) : PE X (.Attribute e f pos) (Pp X.K ta f) := by
 intro pins s σ H Q I h
 refine NI hb (thn (he pins s σ H _ I h) fun u s1 ⟨x, H1, I1, rx, a, C, dx, fs, v, ex, ea, c, n, l, q⟩ => ?_)
 subst ex
 obtain rfl : u = Value.ref a := rx
 exact Kf I1 ea c n l fun u' s2 I2 ru => ⟨v, H1, I2, ru, q⟩
theorem Oq (ha : PE X o ta) (hv : PE X value tv) (hs : swapsWith value (some (.Attribute o f pos')) pos.line X.env = pure false) : PS X (.Assign [.Attribute o f pos'] value pos) (Pw X.K ta tv f) := by
 intro pins s σ H D I h
 refine plainObj_wpAny_Assign_Attribute (thn (hv pins s σ H _ I h) fun u s1 ⟨y, H1, I1, ry, q⟩ => thn (ha pins s1 σ H1 _ I1 q) fun ov s2 ⟨x, H2, I2, rx, a, C, dx, fs, ex, ea, c, n, l, q2⟩ => ?_) hs
 subst ex
 obtain rfl : ov = Value.ref a := rx
 exact JT I2 ea c n l ry fun s3 I3 => ⟨σ, _, I3, q2⟩
end
section
variable {X : Cx} {pins : List (Addr × Obj)} {σ : St} {H : Hp} {s : Shared} {A : Around} {E : Value → Shared → Prop} {Q : Value → Shared → Prop} {c : Value} {b : Bool}
inductive Fe (K : SE) (H : Hp) : V → Value → Prop where
 | non : Fe K H .non (.type "NoneType")
 | bl (x : Bool) : Fe K H (.bl x) (.type "bool")
 | int (i : Int) : Fe K H (.int i) (.type "int")
 | str (x : Str) : Fe K H (.str x) (.type "str")
 | flt (x : UInt64) : Fe K H (.flt x) (.type "float")
 | lst {a : Addr} {xs : List V} (e : H a = some (.lst xs)) : Fe K H (.ref a) (.type "list")
 | frz {a : Addr} {o : Obj} {xs : List V} (e : H a = some (.frz o (.lst xs))) : Fe K H (.ref a) (.type "list")
 | tup {a : Addr} {xs : List V} (e : H a = some (.tup xs)) : Fe K H (.ref a) (.type "tuple")
 | dK {a : Addr} {kvs : List (Key × V)} (e : H a = some (.dK kvs)) : Fe K H (.ref a) (.type "dict")
 | dT {a : Addr} {kvs : List (List Key × V)} (e : H a = some (.dT kvs)) : Fe K H (.ref a) (.type "dict")
 | ins {a C dx : Addr} {fs : List (Str × V)} (e : H a = some (.ins C dx fs)) (cl : Cls K C) (ha : T5 K (.ref C) "__class__" = some (some (.builtin "object.__class__")))
  (hn : Tf K (.builtin "object.__class__") "__get__" = some (some (.builtin "getset_descriptor.__get__"))) (htk : PySem.W.takesIn K (.builtin "object.__class__") = some true)
  (hm : Tj K C (.type "object") = some true) : Fe K H (.ref a) (.ref C)
theorem LF {x : V} {u t : Value} (I : Inv X pins σ H s) (rx : AS x u) (ty : Fe X.K H x t) (e : Tn X.K t c = some b) (h : ∀ tk, Q (.bool b) { s with toks := tk }) :
 wpAny (model X.prog X.w) A (call (.builtin "isinstance") [u, c]) Q E s := by
 cases ty with
 | non => cases (show u = Value.none from rx); exact To PySem.W.kitx_none I.kIn True.intro e (fun z => nomatch z) h
 | bl y => cases (show u = Value.bool y from rx); exact To PySem.W.kitx_bool I.kIn True.intro e (fun z => nomatch z) h
 | int i => obtain ⟨t, q⟩ := (show ∃ t, u = Value.int i t from rx); cases q; exact To PySem.W.kitx_int I.kIn True.intro e (fun z => nomatch z) h
 | str y => obtain ⟨t, q⟩ := (show ∃ t, u = Value.str y t from rx); cases q; exact To PySem.W.kitx_str I.kIn True.intro e (fun z => nomatch z) h
 | flt y => obtain ⟨t, q⟩ := (show ∃ t, u = Value.float y t from rx); cases q; exact To PySem.W.kitx_float I.kIn True.intro e (fun z => nomatch z) h
 | @lst a xs ea =>
   cases (show u = Value.ref a from rx)
   obtain ⟨_, _, n, _, h1⟩ := (show Bt X.prog X.w H s.heap a (.lst xs) from I.hok a _ ea)
   exact To Tp I.kIn ⟨_, h1, rfl⟩ e (fun z => nomatch z) h
 | @frz a ob xs ea =>
   cases (show u = Value.ref a from rx)
   obtain ⟨_, _, _, n, _, h1⟩ := (show Bt X.prog X.w H s.heap a (.frz ob (.lst xs)) from I.hok a _ ea)
   exact To Tp I.kIn ⟨_, h1, rfl⟩ e (fun z => nomatch z) h
 | @tup a xs ea =>
   cases (show u = Value.ref a from rx)
   obtain ⟨_, _, _, p⟩ := (show Bt X.prog X.w H s.heap a (.tup xs) from I.hok a _ ea)
   obtain ⟨o, h1, h2, _⟩ := p
   exact To PySem.W.kitx_tuple I.kIn ⟨o, h1, h2⟩ e (fun z => nomatch z) h
 | @dK a kvs ea =>
   cases (show u = Value.ref a from rx)
   obtain ⟨_, _, vs, _, p⟩ := (show Bt X.prog X.w H s.heap a (.dK kvs) from I.hok a _ ea)
   obtain ⟨o, es, ep, h1, h2, _⟩ := p
   exact To PySem.W.kitx_dict I.kIn ⟨o, h1, h2.1⟩ e (fun z => nomatch z) h
 | @dT a kvs ea =>
   cases (show u = Value.ref a from rx)
   obtain ⟨_, _, xs, _, o, es, ep, h1, h2, _⟩ := (show Bt X.prog X.w H s.heap a (.dT kvs) from I.hok a _ ea)
   exact To PySem.W.kitx_dict I.kIn ⟨o, h1, h2.1⟩ e (fun z => nomatch z) h
 | @ins a C dx fs ea cl ha hn htk hm =>
   cases (show u = Value.ref a from rx)
   obtain ⟨mA, O, _⟩ := FH I.hok ea
   obtain ⟨od, J, _⟩ := O.look
   exact To (PySem.W.kitx_own (cl.get _) cl.hd ha hn htk hm) I.kIn J e (fun z => nomatch z) h
end
end L2
namespace L2
open PySem PySem.Spec PyProof.Rows
structure BC (k : Nat) (A : Around) : Prop where
 hd : A.handled = none
 dp : A.depth + 3 * k + 5 < recursionLimit
 un : A.units + 16 * k + 200 < cLine
theorem BC.mono {j k : Nat} {A : Around} (r : BC k A) (h : j ≤ k) : BC j A := ⟨r.hd, by have := r.dp; lia, by have := r.un; lia⟩
theorem BC.deeper {k : Nat} {A : Around} (r : BC (k + 1) A) (env : Env) : BC k (A.deeper env) :=
 ⟨r.hd, by have := r.dp; show A.depth + 1 + 3 * k + 5 < _; lia, by have := r.un; show A.units + 3 + 16 * k + 200 < _; lia⟩
theorem Kb {A : Around} {C : Addr} {us : List Value} {kw : List (Str × Value)} : (A.under (.builtin "type.__call__" ⟨.ref C :: us, kw⟩)).depth = A.depth + 1 := by
 first | rfl | simp [Around.under, Code.weight, Code.isCreation, Code.isGuard, Code.isCaller, Code.frames, Code.isFrame, guardIds]
theorem Ka {A : Around} {C : Addr} {us : List Value} {kw : List (Str × Value)} : (A.under (.builtin "type.__call__" ⟨.ref C :: us, kw⟩)).units = A.units + 1 := by
 first | rfl | simp [Around.under, Code.cUnits, Code.frames, Code.isFrame]
theorem BC.make {k : Nat} {A : Around} (r : BC (k + 1) A) (C : Addr) (us : List Value) (kw : List (Str × Value)) : BC k (A.under (.builtin "type.__call__" ⟨.ref C :: us, kw⟩)) :=
 ⟨r.hd, by have := r.dp; rw [Kb]; lia, by have := r.un; rw [Ka]; lia⟩
theorem BC.depth {k : Nat} {A : Around} (r : BC k A) : A.depth < recursionLimit := by have := r.dp; lia
theorem BC.units {k : Nat} {A : Around} (r : BC k A) : A.units + 64 < cLine := by have := r.un; lia
def Ng : TA := fun _ H Q => Q [] H
def Kq (ta : TE) (tr : TA) : TA := fun σ H Q => ta σ H fun x H1 => tr σ H1 fun xs H2 => Q (x :: xs) H2
section
variable {X : Cx} {e : Expr} {es : List Expr} {te : TE} {t : TA} {pos : Pos}
theorem Ab : PA X [] Ng := fun _ _ _ _ H Q I h => Calls.spliced_nil ⟨[], H, I, .nil, h⟩
theorem Aa (ha : PE X e te) (hr : PA X es t) (hs : starEach (e :: es) X.env = (false, eval e X.env) :: starEach es X.env := by rfl) : PA X (e :: es) (Kq te t) := by
 intro pos pins s σ H Q I h
 rw [hs]
 show wpAny _ _ (spliced ((false, eval e X.env) :: backTo pos (starEach es X.env))) _ _ s
 refine Calls.spliced_cons (thn (ha pins s σ H _ I h) fun u s1 ⟨x, H1, I1, r1, q1⟩ => ?_)
 exact thn (hr pos pins s1 σ H1 _ I1 q1) fun us s2 ⟨xs, H2, I2, r2, q2⟩ => ⟨x :: xs, H2, I2, .cons r1 r2, q2⟩
def Qg (t : TA) : TE := fun σ H Q => t σ H fun xs H1 => xs.length ≤ sizeLine ∧ ∀ p, H1 p = none → Q (.ref p) (upd H1 p (.tup xs))
def Pn (t : TA) : TE := fun σ H Q => t σ H fun xs H1 => xs.length ≤ sizeLine ∧ ∀ p, H1 p = none → Q (.ref p) (upd H1 p (.lst xs))
theorem AV {x1} (h : PA X es t) : PE X (.Tuple es x1 pos) (Qg t) := by
 intro pins s σ H Q I hq
 refine wpAny_Tuple_spliced (thn (h pos pins s σ H _ I hq) fun us s1 ⟨xs, H1, I1, r, z, q⟩ => ⟨by rw [← r.length]; exact z, ?_⟩)
 have hf : H1 s1.heap.objs.size = none := I1.hok.fresh (SW _)
 refine ⟨.ref s1.heap.objs.size, upd H1 s1.heap.objs.size (.tup xs), I1.laid (t' := s1.toks) (fun b u e => Heap.get?_push_of_some _ e) (SW _) ?_, rfl, q _ hf⟩
 exact ⟨z, us, r, ⟨_, Heap.get?_push_size _ rfl, rfl, _, rfl⟩⟩
theorem Bx (h : PA X es t) : PE X (.List es pos) (Pn t) := by
 intro pins s σ H Q I hq
 refine wpAny_List_spliced (thn (h pos pins s σ H _ I hq) fun us s1 ⟨xs, H1, I1, r, z, q⟩ => ⟨by rw [← r.length]; exact z, ?_⟩)
 have hf : H1 s1.heap.objs.size = none := I1.hok.fresh (SW _)
 refine ⟨.ref s1.heap.objs.size, upd H1 s1.heap.objs.size (.lst xs), I1.laid (t' := s1.toks) (fun b u e => Heap.get?_push_of_some _ e) (SW _) ?_, rfl, q _ hf⟩
 exact ⟨z, us, 0, r, Heap.get?_push_size _ rfl⟩
end
abbrev Sp := List V → Hp → VK → XK → Prop
abbrev CXT := List Env → Hp → Shared → XK → Value → Shared → Prop
structure IQ (P : Program) (w : World) (K : SE) (mg : Str → Option Value) (base : Heap) (A : Around) (outer : List Env) (s : Shared) (H : Hp) : Prop where
 frames : A.frames = some outer
 mod : Mod K mg base
 bs : ∀ b o, base.get? b = some o → s.heap.get? b = some o ∧ H b = none
 bsz : base.objs.size ≤ s.heap.objs.size
 funs : s.heap.FunFrames base outer
 frf : ∀ b ∈ frs outer, H b = none
 hok : HOk P w H s.heap
 bare : AllBare s.gens
def CE (outer : List Env) (P : Program) (w : World) (H : Hp) (s : Shared) (Q : VK) (u : Value) (s' : Shared) : Prop :=
 ∃ v H', s'.os = s.os ∧ AllBare s'.gens ∧ Un (frs outer) [] H H' s.heap s'.heap ∧ HOk P w H' s'.heap ∧ AS v u ∧ Q v H'
def CR (CX : CXT) (outer : List Env) (P : Program) (w : World) (H : Hp) (s : Shared) (Q : VK) (E : XK) (r : Result) (s' : Shared) : Prop :=
 match r with
 | .ok (.ret u) => CE outer P w H s Q u s'
 | .ok _ => False
 | .error e => CX outer H s E e s'
structure Ay (P : Program) (w : World) (K : SE) (mg : Str → Option Value) (base : Heap) (CX : CXT) (k : Nat) (f : Addr) (fd : FuncData) (ps : List Str) (sp : Sp) : Prop where
 len : ∀ vs H Q E, sp vs H Q E → vs.length = ps.length
 run : ∀ (A : Around) (outer : List Env) (s : Shared) (H : Hp) (args : Args) (us : List Value) (vs : List V) (Q : VK) (E : XK), BC k A → IQ P w K mg base A outer s H → BindsTo s fd args (ps.zip us) → AQ vs us → sp vs H Q E →
  codeAny (model P w) A (.call (.ref f) args) (CR CX outer P w H s Q E) s
theorem IQ.make {P : Program} {w : World} {K : SE} {mg : Str → Option Value} {base : Heap} {A : Around} {outer : List Env} {s : Shared} {H : Hp} (e : IQ P w K mg base A outer s H) (C : Addr) (us : List Value) (kw : List (Str × Value)) :
 IQ P w K mg base (A.under (.builtin "type.__call__" ⟨.ref C :: us, kw⟩)) outer s H := ⟨by first | exact e.frames | (simpa [Around.under, Code.envs, Code.isFrame, pushEnvs] using e.frames), e.mod, e.bs, e.bsz, e.funs, e.frf, e.hok, e.bare⟩
section
variable {X : Cx} {pins : List (Addr × Obj)} {σ : St} {H : Hp} {s s' : Shared}
theorem Inv.env0 (I : Inv X pins σ H s) : IQ X.prog X.w X.K X.mg X.base X.A X.stack s H :=
 ⟨I.ok.frames, I.ok.mod, I.bs, SG I.ok.bsz I.sz, I.stack, I.stkFree, I.hok, I.bare⟩
theorem Inv.after {Q : VK} {u : Value} (I : Inv X pins σ H s) (h : CE X.stack X.prog X.w H s Q u s') : EP X pins σ Q u s' := by
 obtain ⟨v, H', os, bare, un, hok, r, q⟩ := h
 obtain ⟨hh, g, d, t, os'⟩ := s'
 obtain rfl : os' = s.os := os
 exact ⟨v, H', I.call (h' := hh) (g' := g) (d' := d) (t' := t) (ch := []) un hok bare (fun b z => absurd z (by simp)), r, q⟩
end
def M9 (sp : Sp) (dvs : List V) (E : XK) (t : TA) : TE := fun σ H Q => t σ H fun vs H1 => sp (vs ++ dvs) H1 Q E
def NP (C : Addr) (m : Str) (sp : Sp) (dvs : List V) (E : XK) (ta : TE) (t : TA) : TE := fun σ H Q => ta σ H fun x H1 => ∃ a dx fs, x = .ref a ∧ H1 a = some (.ins C dx fs) ∧ fs.lookup m = none ∧
 t σ H1 fun vs H2 => sp (x :: (vs ++ dvs)) H2 Q E
def NQ (C : Addr) (sp : Sp) (dvs : List V) (E : XK) (t : TA) : TE := fun σ H Q => t σ H fun vs H1 => ∀ x dx, H1 x = none → H1 dx = none → dx ≠ x →
 sp (.ref x :: (vs ++ dvs)) (upd (upd H1 dx (.own x)) x (.ins C dx [])) (fun v H2 => v = .non ∧ Q (.ref x) H2) E
def BP (K : SE) (fd : FuncData) (ps : List Str) (ds : List Value) : Prop :=
 ∀ (s : Shared) (us : List Value), K.In s.heap → (us ++ ds).length = ps.length → BindsTo s fd ⟨us, []⟩ (ps.zip (us ++ ds))
theorem BP.all {K : SE} {fd : FuncData} {ps : List Str} (h : ∀ us : List Value, us.length = ps.length → bindArgs fd ⟨us, []⟩ = pure (ps.zip us)) : BP K fd ps [] := fun s us _ hl => by
 rw [Tq] at hl ⊢
 exact .of_eq (h us hl)
def Cz (CX : CXT) (X : Cx) (E : XK) : Prop := ∀ (pins : List (Addr × Obj)) (σ : St) (H : Hp) (s : Shared) (e : Value) (s' : Shared), Inv X pins σ H s → CX X.stack H s E e s' → X.xe e s'
section
variable {X : Cx} {CX : CXT} {k : Nat} {f C : Addr} {fd : FuncData} {ps : List Str} {sp : Sp} {dvs : List V} {ds : List Value} {E : XK} {x m : Str} {p pos apos : Pos} {e o : Expr} {es : List Expr} {ta : TE} {t : TA}
theorem JU {pins : List (Addr × Obj)} {σ : St} {H : Hp} {s : Shared} {Q : VK} {us : List Value} {vs : List V} (F : Ay X.prog X.w X.K X.mg X.base CX k f fd ps sp) (hr : BC k X.A) (hb : BP X.K fd ps ds) (hd : AQ dvs ds) (hx : Cz CX X E)
 (I : Inv X pins σ H s) (r : AQ vs us) (h : sp (vs ++ dvs) H Q E) : wpAny (model X.prog X.w) X.A (call (.ref f) us) (EP X pins σ Q) X.xe s := by
 have r2 : AQ (vs ++ dvs) (us ++ ds) := r.append hd
 have hl : (us ++ ds).length = ps.length := by rw [← r2.length]; exact F.len _ _ _ _ h
 refine wpAny_call (codeAny_mono (F.run X.A X.stack s H ⟨us, []⟩ (us ++ ds) (vs ++ dvs) Q E hr I.env0 (hb s us I.kIn hl) r2 h) fun r s' hq => ?_)
 cases r with
 | error e => exact hx pins σ H s e s' I hq
 | ok fl =>
   cases fl with
   | ret u => exact I.after hq
   | next => exact False.elim hq
   | brk => exact False.elim hq
   | cont => exact False.elim hq
theorem KG (F : Ay X.prog X.w X.K X.mg X.base CX k f fd ps sp) (hr : BC k X.A) (hg : Gl X x) (hm : X.mg x = some (.ref f)) (hk : Tg X.K (.ref f) = true) (hb : BP X.K fd ps ds) (hd : AQ dvs ds) (hx : Cz CX X E)
 (ha : PA X (e :: es) t) (hdb : (x == ("__debug__" : Str)) = false := by decide) (he : starEach (e :: es) X.env = (false, eval e X.env) :: starEach es X.env := by rfl) (hpl : (backTo pos (starEach es X.env)).any (·.1) = false := by rfl) :
 PE X (.Call (.Name x p) (e :: es) [] pos) (M9 sp dvs E t) := by
 intro pins s σ H Q I h
 refine wpAny_Call_Name_kw (DL I hg hm ?_ hdb)
 refine Tr (h₀ := X.base) I.ok.mod.kin hk (thn (ha pos pins s σ H _ I h) fun us s1 ⟨vs, H1, I1, r, q⟩ => ⟨I1.kIn, ?_⟩) he hpl
 exact JU F hr hb hd hx I1 r q
theorem Nt {pl : Sem Bool} (he : PE X o ta) (c : Cls X.K C) (hm : Pc X.K C m f) (F : Ay X.prog X.w X.K X.mg X.base CX k f fd ps sp) (hr : BC k X.A) (hb : BP X.K fd ps ds) (hd : AQ dvs ds) (hx : Cz CX X E) (ha : PA X (e :: es) t)
 (hst : starEach (e :: es) X.env = (false, eval e X.env) :: starEach es X.env := by rfl) (hpl : (backTo pos (starEach es X.env)).any (·.1) = false := by rfl)
 (ht : eval (.Call (.Attribute o m apos) (e :: es) [] pos) X.env = (do
  let ov ← eval o X.env
  standAt apos.atName
  let (f, first) ← holding [ov] (getMethod ov m pl)
  callWith pos f first (backTo pos (starEach (e :: es) X.env)) (backToKw pos (keywordEach [] X.env))) := by rfl) :
 PE X (.Call (.Attribute o m apos) (e :: es) [] pos) (NP C m sp dvs E ta t) := by
 intro pins s σ H Q I h
 refine PySem.W.methodCall_KW (pl := pl) (thn (he pins s σ H _ I h) fun u s1 ⟨x, H1, I1, rx, a, dx, fs, ex, ea, l, q⟩ => ?_) ht
 subst ex
 obtain rfl : u = Value.ref a := rx
 refine Gu I1 ea c hm l ?_
 refine Tr (first := [.ref a]) (h₀ := X.base) I.ok.mod.kin hm.kp (thn (ha pos pins s1 σ H1 _ I1 q) fun us s2 ⟨vs, H2, I2, r, q2⟩ => ⟨I2.kIn, ?_⟩) hst hpl
 exact JU (us := .ref a :: us) (vs := .ref a :: vs) F hr hb hd hx I2 (.cons rfl r) q2
structure Mk (K : SE) (C f : Addr) : Prop where
 makes : Tb K C = true
 init : T5 K (.ref C) "__init__" = some (some (.ref f))
 fn : T7 K (.ref f) = true
 kp : Tg K (.ref C) = true
theorem Mj {pins : List (Addr × Obj)} {σ : St} {H : Hp} {s : Shared} {Q : VK} {us : List Value} {vs : List V} (M : Mk X.K C f) (F : Ay X.prog X.w X.K X.mg X.base CX k f fd ps sp) (hr : BC (k + 1) X.A) (hb : BP X.K fd ps ds) (hd : AQ dvs ds)
 (hx : Cz CX X E) (I : Inv X pins σ H s) (r : AQ vs us)
 (h : ∀ x dx, H x = none → H dx = none → dx ≠ x → sp (.ref x :: (vs ++ dvs)) (upd (upd H dx (.own x)) x (.ins C dx [])) (fun v H2 => v = .non ∧ Q (.ref x) H2) E) :
 wpAny (model X.prog X.w) X.A (call (.ref C) us) (EP X pins σ Q) X.xe s := by
 have hq := h (s.heap.objs.size + 1) s.heap.objs.size (I.hok.fresh (Ts _)) (I.hok.fresh (SW _)) (Sw (Ti _))
 have I2 := Inv.made (C := C) I
 have r2 : AQ (V.ref (s.heap.objs.size + 1) :: (vs ++ dvs)) (Value.ref (s.heap.objs.size + 1) :: (us ++ ds)) := .cons rfl (r.append hd)
 have hl : (Value.ref (s.heap.objs.size + 1) :: us ++ ds).length = ps.length := by
  have e := r2.length
  rw [F.len _ _ _ _ hq] at e
  exact e.symm
 refine wpAny_call (MH (f := f) I.kIn M.makes M.init (beq_iff_eq.mp M.fn) (codeAny_mono (F.run _ X.stack _ _ ⟨Value.ref (s.heap.objs.size + 1) :: us, []⟩ (Value.ref (s.heap.objs.size + 1) :: (us ++ ds)) _ _ E (hr.make C us [])
  (I2.env0.make C us []) (hb _ (Value.ref (s.heap.objs.size + 1) :: us) I2.kIn hl) r2 hq) fun r s' hq' => ?_))
 cases r with
 | error e => exact hx pins σ _ _ e s' I2 hq'
 | ok fl =>
   cases fl with
   | ret u =>
     obtain ⟨v, H', I3, rv, ev, q3⟩ := I2.after hq'
     subst ev
     exact ⟨rv, ⟨V.ref (s.heap.objs.size + 1), H', I3, rfl, q3⟩⟩
   | next => exact False.elim hq'
   | brk => exact False.elim hq'
   | cont => exact False.elim hq'
theorem Nu (M : Mk X.K C f) (F : Ay X.prog X.w X.K X.mg X.base CX k f fd ps sp) (hr : BC (k + 1) X.A) (hg : Gl X x) (hm : X.mg x = some (.ref C)) (hb : BP X.K fd ps ds) (hd : AQ dvs ds) (hx : Cz CX X E)
 (ha : PA X (e :: es) t) (hdb : (x == ("__debug__" : Str)) = false := by decide) (he : starEach (e :: es) X.env = (false, eval e X.env) :: starEach es X.env := by rfl) (hpl : (backTo pos (starEach es X.env)).any (·.1) = false := by rfl) :
 PE X (.Call (.Name x p) (e :: es) [] pos) (NQ C sp dvs E t) := by
 intro pins s σ H Q I h
 refine wpAny_Call_Name_kw (DL I hg hm ?_ hdb)
 refine Tr (h₀ := X.base) I.ok.mod.kin M.kp (thn (ha pos pins s σ H _ I h) fun us s1 ⟨vs, H1, I1, r, q⟩ => ⟨I1.kIn, ?_⟩) he hpl
 exact Mj M F hr hb hd hx I1 r q
end
section
variable {X : Cx} {CX : CXT} {k : Nat} {f C : Addr} {fd : FuncData} {ps ks : List Str} {sp : Sp} {E : XK} {x m : Str} {p pos apos kpos : Pos} {e o : Expr} {es : List Expr} {kws : List Keyword} {te ta : TE} {t tk : TA} {nm : Option Str}
structure Qy (K : SE) (fd : FuncData) (ps ks : List Str) (g : List Value → List Value → List Value) (gV : List V → List V → List V) : Prop where
 to : ∀ (s : Shared) (us ws : List Value), K.In s.heap → (g us ws).length = ps.length → BindsTo s fd ⟨us, ks.zip ws⟩ (ps.zip (g us ws))
 rel : ∀ {vs : List V} {us : List Value} {zs : List V} {ws : List Value}, AQ vs us → AQ zs ws → AQ (gV vs zs) (g us ws)
variable {g : List Value → List Value → List Value} {gV : List V → List V → List V}
end
structure Ap (N P : List Str) (sc : Scope) : Prop where
 kind : sc.kind = .function
 co : sc.isCoroutine = false
 gen : sc.isGenerator = false
 nd : N.Nodup
 pre : N.take P.length = P
 par : ∀ x ∈ P, sc.names.lookup x = some .local ∨ sc.names.lookup x = some .cell
 nofree : ∀ y ∈ sc.names, y.2 ≠ .free
theorem HF {kindOf : Str → Option NameKind} {x : Str} : ∀ {binds : List (Str × Value)} {m : Str → Option Value}, (∀ v, (x, v) ∉ binds) → bindL kindOf binds m x = m x
 | [], _, _ => rfl
 | (n, v) :: r, m, h => by
   unfold bindL
   rw [HF fun w hw => h w (SK _ hw)]
   split
   ·have : x ≠ n := by rintro rfl; exact h v SJ
    simp [this]
   ·rfl
theorem HH {kindOf : Str → Option NameKind} {x : Str} : ∀ {binds : List (Str × Value)} {m : Str → Option Value}, (∀ v, (x, v) ∉ binds) → bindC kindOf binds m x = m x
 | [], _, _ => rfl
 | (n, v) :: r, m, h => by
   unfold bindC
   rw [HH fun w hw => h w (SK _ hw)]
   split
   ·rfl
   ·have : x ≠ n := by rintro rfl; exact h v SJ
    simp [this]
theorem HG {kindOf : Str → Option NameKind} {x : Str} {v : Value} : ∀ {P : List Str} {vs : List Value} {i : Nat} {m : Str → Option Value}, P.Nodup → P[i]? = some x → vs[i]? = some v → kindOf x = some .local →
 bindL kindOf (P.zip vs) m x = some v
 | [], _, _, _, _, h, _, _ => by simp at h
 | _ :: _, [], _, _, _, _, h, _ => by simp at h
 | p :: P, w :: vs, 0, m, nd, h1, h2, hk => by
   simp at h1 h2; subst h1; subst h2
   show bindL kindOf ((p, w) :: P.zip vs) m p = _
   unfold bindL
   rw [HF fun v hv => (Tt.mp nd).1 (Tu hv).1, if_pos hk]
   simp
 | p :: P, w :: vs, i + 1, m, nd, h1, h2, hk => by
   show bindL kindOf ((p, w) :: P.zip vs) m x = _
   unfold bindL
   exact HG (i := i) (Tt.mp nd).2 (by simpa using h1) (by simpa using h2) hk
theorem HI {kindOf : Str → Option NameKind} {x : Str} {v : Value} : ∀ {P : List Str} {vs : List Value} {i : Nat} {m : Str → Option Value}, P.Nodup → P[i]? = some x → vs[i]? = some v → kindOf x ≠ some .local →
 bindC kindOf (P.zip vs) m x = some v
 | [], _, _, _, _, h, _, _ => by simp at h
 | _ :: _, [], _, _, _, _, h, _ => by simp at h
 | p :: P, w :: vs, 0, m, nd, h1, h2, hk => by
   simp at h1 h2; subst h1; subst h2
   show bindC kindOf ((p, w) :: P.zip vs) m p = _
   unfold bindC
   rw [HH fun v hv => (Tt.mp nd).1 (Tu hv).1, if_neg hk]
   simp
 | p :: P, w :: vs, i + 1, m, nd, h1, h2, hk => by
   show bindC kindOf ((p, w) :: P.zip vs) m x = _
   unfold bindC
   exact HI (i := i) (Tt.mp nd).2 (by simpa using h1) (by simpa using h2) hk
def Dh (N : List Str) (vs : List V) : St := vs.map some ++ Tv (N.length - vs.length) none
def Dj (CX : CXT) (P : Program) (w : World) (K : SE) (mg : Str → Option Value) (base : Heap) (N : List Str) (qual : Str) (scope : Scope) (f : Addr) (cd : Value) (A : Around) (outer : List Env) (s : Shared) (H : Hp) (E : XK) : Cx where
 prog := P
 w := w
 K := K
 mg := mg
 base := base
 A := A.deeper (envOfC qual scope s.heap.objs.size f cd)
 N := N
 s₀ := s
 H₀ := H
 env := envOfC qual scope s.heap.objs.size f cd
 outer := outer
 stack := envOfC qual scope s.heap.objs.size f cd :: outer
 ex := []
 calm := true
 fn := fun _ => true
 pn := []
 xe := fun e s' => wpAny (model P w) (A.deeper (envOfC qual scope s.heap.objs.size f cd)) (leaving (envOfC qual scope s.heap.objs.size f cd) e) (fun _ s'' => CX outer H s E e s'') (fun e' s'' => CX outer H s E e' s'') s'
theorem JE {sc : Scope} {n : Nat} {x : Str} (h : sc.names.lookup x = some .cell) : ∃ c, (cellsFrom n sc.names []).lookup x = some c := by
 have q := Tw sc.names n [] (.inl h)
 exact Option.isSome_iff_exists.mp q
theorem HB {CX : CXT} {P : Program} {w : World} {K : SE} {mg : Str → Option Value} {base : Heap} {N ps : List Str} {qual : Str} {scope : Scope} {f : Addr} {cd : Value} {A : Around} {outer : List Env} {s s1 : Shared} {H : Hp} {E : XK} {us : List Value} {vs : List V}
 (S : Ap N ps scope) (hd : A.handled = none) (e0 : IQ P w K mg base A outer s H) (hl : vs.length = ps.length) (r : AQ vs us)
 (x : InCallC s s.heap.objs.size (bindL (envOfC qual scope s.heap.objs.size f cd).kindOf (ps.zip us) fun _ => none) (cellsFrom (s.heap.objs.size + 1) scope.names []) (bindC (envOfC qual scope s.heap.objs.size f cd).kindOf (ps.zip us) fun _ => none) s1) :
 Inv (Dj CX P w K mg base N qual scope f cd A outer s H E) [] (Dh N vs) H s1 := by
 have hpl : ps.length ≤ N.length := by have := congrArg Tx S.pre; rw [Tz] at this; lia
 obtain ⟨h1, tk, rfl, hk⟩ := x.done
 have noA : ∀ b : Addr, b ∉ (Dj CX P w K mg base N qual scope f cd A outer s H E).ex := fun b z => absurd (show b ∈ ([] : List Addr) from z) (by simp)
 refine ⟨⟨e0.mod, S.kind, rfl, rfl, SW _, fun y z c h1 h2 => ?_, fun y hy => ?_, fun y c _ h => ?_, fun _ => hd, Around.frames_deeper e0.frames, .inr ⟨rfl, rfl⟩, fun b z => absurd z (noA b), e0.bs, e0.bsz, fun b _ _ => noA b, fun b z => absurd z (noA b), e0.funs, e0.frf⟩,
  rfl, e0.bare, Un.kept hk, ⟨_, x.toInCall.ns, fun i y v h1 h2 h3 => ?_⟩, fun y c h => ⟨_, x.cell y c h⟩, e0.hok.fresh (SW _), fun y c h => ?_, fun p hp => absurd (show p ∈ ([] : List (Addr × Obj)) from hp) (by simp), e0.hok.kept hk, ?_⟩
 ·exact name_of_addr x.apart (PySem.mem_of_lookup h1) (PySem.mem_of_lookup h2)
 ·have hy : scope.names.lookup y = some .cell ∨ scope.names.lookup y = some .free := hy
  rcases hy with hy | hy
  ·exact JE hy
  ·exact absurd rfl (S.nofree _ (PySem.mem_of_lookup hy))
 ·exact SH (x.above y c (PySem.mem_of_lookup h))
 ·have hi : i < vs.length := by
   unfold Dh at h2
   by_cases hi : i < vs.length
   ·exact hi
   ·rw [TC (by simpa using hi)] at h2
    rw [TF] at h2
    split at h2 <;> cases h2
  have ha : vs[i]? = some v := by
   unfold Dh at h2
   rw [TH (by simpa using hi), TJ] at h2
   cases e : vs[i]? with
   | none => rw [e] at h2; cases h2
   | some a => rw [e] at h2; cases h2; rfl
  obtain ⟨u, hu, rv⟩ := r.get ha
  have hp : ps[i]? = some y := by
   rw [← S.pre, TK (by lia)]; exact h1
  have ndP : ps.Nodup := by rw [← S.pre]; exact S.nd.sublist (List.take_sublist _ _)
  refine ⟨u, rv, ?_⟩
  rcases S.par y (TL hp) with k | k
  ·exact .inl ⟨k, HG ndP hp hu k⟩
  ·obtain ⟨c, e⟩ := JE (n := s.heap.objs.size + 1) k
   refine .inr ⟨.inl k, c, e, ?_⟩
   have q := x.cell y c e
   rw [HI ndP hp hu (by show scope.names.lookup y ≠ _; rw [k]; decide)] at q
   exact q
 ·exact e0.hok.fresh (SH (x.above y c (PySem.mem_of_lookup h)))
 ·unfold Dh
  show _ = N.length
  rw [TM, Th, TN]
  lia
theorem O3 {CX : CXT} {P : Program} {w : World} {K : SE} {mg : Str → Option Value} {base : Heap} {k : Nat} {f : Addr} {name qual : Str} {params : Arguments} {body : List Stmt} {scope : Scope} {dV kV doc pm cdv ct oc : Value} {an od : Option Addr}
 {osl : Array (Option Value)} {N ps : List Str} {sp : Sp} (lk : K.lookup f = some ⟨oc, od, .func (TQ name qual params body scope dV kV doc pm an cdv ct), osl⟩) (hcd : TR K cdv qual = true) (S : Ap N ps scope)
 (len : ∀ vs H Q E, sp vs H Q E → vs.length = ps.length)
 (hbody : ∀ (A : Around) (outer : List Env) (s : Shared) (H : Hp) (vs : List V) (Q : VK) (E : XK), BC k (A.deeper (envOfC qual scope s.heap.objs.size f cdv)) → sp vs H Q E →
  ∃ t, PSs (Dj CX P w K mg base N qual scope f cdv A outer s H E) body t ∧ t { nx := fun _ H' => Q .non H', rt := Q } (Dh N vs) H) :
 Ay P w K mg base CX (k + 1) f (TQ name qual params body scope dV kV doc pm an cdv ct) ps sp := by
 refine ⟨len, fun A outer s H args us vs Q E hr e0 hb r hsp => ?_⟩
 have hl := len _ _ _ _ hsp
 have KX : K.In s.heap := e0.mod.kin.keeps fun b o e => (e0.bs b o e).1
 have lim : s.heap.NoLimit := e0.mod.nolimit.keeps fun b o e => (e0.bs b o e).1
 have hkind : ∀ y ∈ ps.zip us, scope.names.lookup y.1 = some .local ∨ (scope.names.lookup y.1 = some .cell ∧ ((cellsFrom (s.heap.objs.size + 1) scope.names []).lookup y.1).isSome = true) := fun ⟨n, v⟩ hy => by
  rcases S.par n (Tu hy).1 with q | q
  ·exact .inl q
  ·exact .inr ⟨q, Tw _ _ _ (.inl q)⟩
 refine codeAny_call_function hr.depth (KX _ _ lk) rfl S.co S.gen rfl (PySem.W.codeRec_of KX hcd) (hb _ _ _ _ ?_)
 refine wpAny_newFunctionEnv_cells S.kind hkind fun env he s1 x => ?_
 subst he
 refine ⟨lim.keeps x.toInCall.keep, codeAny_func ?_⟩
 obtain ⟨t, ht, hq⟩ := hbody A outer s H vs Q E (hr.deeper _) hsp
 have I : Inv (Dj CX P w K mg base N qual scope f cdv A outer s H E) [] (Dh N vs) H s1 := HB S hr.hd e0 hl r x
 refine wpAny_mono (ht [] s1 (Dh N vs) H _ I hq) (fun fl s' hs => ?_) fun e s' hs => hs
 have fin : ∀ {σ' : St} {H' : Hp} {v : V} {u : Value}, Inv (Dj CX P w K mg base N qual scope f cdv A outer s H E) [] σ' H' s' → AS v u → Q v H' → CE outer P w H s Q u s' :=
  fun {σ' H' v u} J rv q => ⟨v, H', J.os, J.bare, J.base, J.hok, rv, q⟩
 cases fl with
 | ret u =>
   obtain ⟨v, σ', H', J, rv, q⟩ := hs
   exact fin J rv q
 | next =>
   obtain ⟨σ', H', J, q⟩ := hs
   exact fin (v := V.non) (u := Value.none) J rfl q
 | brk =>
   obtain ⟨_, _, _, q⟩ := hs
   exact False.elim q
 | cont =>
   obtain ⟨_, _, _, q⟩ := hs
   exact False.elim q
end L2
namespace L2
open PySem PySem.Spec PyProof.Rows
section
variable {X : Cx} {x : Str} {p pos : Pos} {e : Expr} {es : List Expr} {t : TA} {id T : String} {r : List V → Hp → VK → Prop}
def tCB (r : List V → Hp → VK → Prop) (t : TA) : TE := fun σ H Q => t σ H fun vs H1 => r vs H1 Q
theorem Ai (hc : BO X (.builtin id) r) (hg : Gl X x) (hm : X.mg x = none) (hv : bootBuiltins x = some (.builtin id)) (ha : PA X (e :: es) t) (hn : x ≠ "__name__" := by decide) (hdb : (x == ("__debug__" : Str)) = false := by decide)
 (he : starEach (e :: es) X.env = (false, eval e X.env) :: starEach es X.env := by rfl) (hpl : (backTo pos (starEach es X.env)).any (·.1) = false := by rfl) : PE X (.Call (.Name x p) (e :: es) [] pos) (tCB r t) := by
 intro pins s σ H Q I h
 refine wpAny_Call_Name_kw (Gn I hg hm hv ?_ hn hdb)
 exact PyProof.Rows.callWith_builtin1 (thn (ha pos pins s σ H _ I h) fun us s1 ⟨vs, H1, I1, r1, q1⟩ => hc pins s1 σ H1 vs us Q I1 r1 q1) he hpl
theorem AN (hc : BO X (.type T) r) (hg : Gl X x) (hm : X.mg x = none) (hv : bootBuiltins x = some (.type T)) (ha : PA X (e :: es) t) (hn : x ≠ "__name__" := by decide) (hdb : (x == ("__debug__" : Str)) = false := by decide)
 (he : starEach (e :: es) X.env = (false, eval e X.env) :: starEach es X.env := by rfl) (hpl : (backTo pos (starEach es X.env)).any (·.1) = false := by rfl) : PE X (.Call (.Name x p) (e :: es) [] pos) (tCB r t) := by
 intro pins s σ H Q I h
 refine wpAny_Call_Name_kw (Gn I hg hm hv ?_ hn hdb)
 exact PyProof.Rows.callWith_type1 (thn (ha pos pins s σ H _ I h) fun us s1 ⟨vs, H1, I1, r1, q1⟩ => hc pins s1 σ H1 vs us Q I1 r1 q1) he hpl
end
end L2
namespace HT
open PySem PyProof.Rows
section
open PySem.SeqAt
open PySem.AutoSeq1 (wpAny_loadPart')
open PySem.MeetsSeq PySem.MeetsSeq2 PySem.MeetsSeq3
end
section
variable {prog : Program} {w : World} {A : Around} {E : Value → Shared → Prop} {s : Shared}
theorem cat_tup {t b : Addr} {vs ws : List Value} {Q : Value → Shared → Prop} (ht : IsTup s.heap t vs.toArray) (hb : IsTup s.heap b ws.toArray) (hv : vs ≠ [])
 (h1 : ws = [] → Q (.ref t) s) (h2 : ws ≠ [] → Q (.ref s.heap.objs.size) { s with heap := s.heap.push { cls := .type "tuple", data := .seq (vs ++ ws).toArray } })
 (hsz : vs.length + ws.length ≤ sizeLine) : wpAny (model prog w) A (binaryOp .Add (.ref t) (.ref b)) Q E s := by
 obtain ⟨⟨cls, dd, data, sl⟩, ho, hc, n, hd⟩ := id ht
 obtain ⟨⟨cls2, dd2, data2, sl2⟩, ho2, hc2, n2, hd2⟩ := id hb
 simp only at hc hd hc2 hd2
 subst hc hd hc2 hd2
 have e : vs.toArray ++ ws.toArray = (vs ++ ws).toArray := by simp
 by_cases hw : ws = []
 ·exact concat_meets ⟨_, ho, rfl⟩ ⟨_, ho2, rfl⟩ noFill_tuple_add seq_tuple_add PySem.F.slot_tuple_add PySem.F.entry_tuple_add (PySem.F.args_tuple_add_2 _ _)
   (tuple_addW1 t b vs.toArray ws.toArray n n2 dd dd2 sl sl2 (by simpa using hv) (by simp [hw])) ⟨ho, ho2, h1 hw⟩
 ·refine concat_meets ⟨_, ho, rfl⟩ ⟨_, ho2, rfl⟩ noFill_tuple_add seq_tuple_add PySem.F.slot_tuple_add PySem.F.entry_tuple_add (PySem.F.args_tuple_add_2 _ _)
   (tuple_addW2 t b vs.toArray ws.toArray n n2 dd dd2 sl sl2 (by simpa using hv) (by simpa using hw) (by rw [TU, TU]; exact hsz)) ⟨ho, ho2, ?_⟩
  rw [e]
  exact h2 hw
def sIx (n d : Nat) : Option Int → Nat
 | none => d
 | some v => if v < 0 then (v + (n : Int)).toNat else min v.toNat n
theorem sIx_nat (n d k : Nat) : sIx n d (some (k : Int)) = min k n := by
 show (if (k : Int) < 0 then ((k : Int) + (n : Int)).toNat else min (k : Int).toNat n) = min k n
 rw [if_neg (by lia), TV]
theorem sIx_le (n d : Nat) (hd : d ≤ n) (o : Option Int) : sIx n d o ≤ n := by
 cases o with
 | none => exact hd
 | some v =>
   show (if v < 0 then (v + (n : Int)).toNat else min v.toNat n) ≤ n
   by_cases hv : v < 0
   ·rw [if_pos hv]; lia
   ·rw [if_neg hv]; exact TX _ _
theorem clip_eq (v : Int) (n d : Nat) : (if v < 0 then max (v + (n : Int)) 0 else min v (n : Int)) = ((sIx n d (some v) : Nat) : Int) := by
 show (if v < 0 then max (v + (n : Int)) 0 else min v (n : Int)) = (((if v < 0 then (v + (n : Int)).toNat else min v.toNat n) : Nat) : Int)
 by_cases hv : v < 0
 ·rw [if_pos hv, if_pos hv, Int.toNat_eq_max]
 ·rw [if_neg hv, if_neg hv]
  obtain ⟨k, rfl⟩ := Int.eq_ofNat_of_zero_le (Int.not_lt.mp hv)
  rw [TV]
  rcases Nat.le_total k n with h | h
  ·rw [TY h, Int.min_eq_left (Int.ofNat_le.mpr h)]
  ·rw [TZ h, Int.min_eq_right (Int.ofNat_le.mpr h)]
theorem adjust_gen (lo hi : Option Int) (n : Nat) : Builtin.Slice.sliceAdjust lo hi 1 (n : Int) = (((sIx n 0 lo : Nat) : Int), ((sIx n n hi : Nat) : Int)) := by
 have h1 : ¬ ((1 : Int) < 0) := by lia
 unfold Builtin.Slice.sliceAdjust
 simp only [h1, if_false]
 refine Prod.ext ?_ ?_
 ·cases lo with
  | none => rfl
  | some v => exact clip_eq v n 0
 ·cases hi with
  | none => rfl
  | some v => exact clip_eq v n n
theorem places_gen (i j : Nat) : Builtin.Slice.slicePlaces (i : Int) (j : Int) 1 = j - i := by
 unfold Builtin.Slice.slicePlaces
 have h1 : (1 : Int) > 0 := by lia
 simp only [h1, if_true, Int.ediv_one]
 split <;> lia
theorem slicePart_ {v : Value} {o : Option Int} {Q : Option Int → Shared → Prop} (p : IsPart v o) (h : Q o s) : wpAny (model prog w) A (Builtin.Slice.slicePartIndex v) Q E s := by
 cases p with
 | none => exact slicePart_none h
 | int i t => exact slicePart_int h
theorem sliceApplied_gen {sl : Addr} {vl vu : Value} {lo hi : Option Int} {n : Nat} {Q : Int × Int × Nat → Shared → Prop} (hs : s.heap.IsSliceOf sl vl vu .none) (pl : IsPart vl lo) (pu : IsPart vu hi)
 (h : Q (((sIx n 0 lo : Nat) : Int), 1, sIx n n hi - sIx n 0 lo) s) : wpAny (model prog w) A (Builtin.Slice.sliceApplied (.ref sl) (pure (n : Int))) Q E s := by
 obtain ⟨os, hos, hcs, hds⟩ := id hs
 unfold Builtin.Slice.sliceApplied Builtin.Slice.sliceFields
 refine wpAny_bind (wpAny_bind (wpAny_field hos hds (x := vl) rfl (wpAny_bind (wpAny_field hos hds (x := vu) rfl (wpAny_bind (wpAny_field hos hds (x := .none) rfl (wpAny_pure ?_)))))))
 refine wpAny_bind (slicePart_none ?_)
 show wpAny _ _ (if ((1 : Int) == 0) = true then _ else _) _ _ s
 rw [if_neg (by decide)]
 refine wpAny_bind (slicePart_ pl (wpAny_bind (slicePart_ pu (wpAny_bind (wpAny_pure ?_)))))
 show wpAny _ _ (match Builtin.Slice.sliceAdjust lo hi 1 (n : Int) with | (lo, hi) => pure (lo, (1 : Int), Builtin.Slice.slicePlaces lo hi 1)) _ _ s
 rw [adjust_gen lo hi n]
 show wpAny _ _ (pure (((sIx n 0 lo : Nat) : Int), (1 : Int), Builtin.Slice.slicePlaces ((sIx n 0 lo : Nat) : Int) ((sIx n n hi : Nat) : Int) 1)) _ _ s
 rw [places_gen]
 exact wpAny_pure h
theorem pick_gen (xs : Array Value) (i k : Nat) : ((Sx k).filterMap fun (m : Nat) => xs[((i : Int) + (m : Int) * 1).toNat]?).toArray = ((xs.toList.drop i).take k).toArray := by
 have e : (fun (m : Nat) => xs[((i : Int) + (m : Int) * 1).toNat]?) = fun m => xs[i + m]? := by
  funext m
  have : ((i : Int) + (m : Int) * 1).toNat = i + m := by lia
  rw [this]
 rw [e]
 have := pick_run xs i k
 rw [List.filterMap_map] at this
 have e2 : ((fun x => xs[x]?) ∘ fun x => i + x) = fun m => xs[i + m]? := rfl
 rw [e2] at this
 rw [this]
theorem getItem_tuple_cut {t sl : Addr} {items : Array Value} {vl vu : Value} {lo hi : Option Int} {Q : Value → Shared → Prop} (ht : IsTup s.heap t items) (hs : s.heap.IsSliceOf sl vl vu .none) (pl : IsPart vl lo) (pu : IsPart vu hi)
 (hw : ¬ (sIx items.size 0 lo = 0 ∧ sIx items.size items.size hi = items.size))
 (h : Q (.ref s.heap.objs.size) { s with heap := s.heap.push { cls := .type "tuple", data := .seq ((items.toList.drop (sIx items.size 0 lo)).take (sIx items.size items.size hi - sIx items.size 0 lo)).toArray } })
 (hsz : items.size ≤ sizeLine) : wpAny (model prog w) A (getItem (.ref t) (.ref sl)) Q E s := by
 have htake : sizeOk (.seq ((items.toList.drop (sIx items.size 0 lo)).take (sIx items.size items.size hi - sIx items.size 0 lo)).toArray) := by
  show ((items.toList.drop (sIx items.size 0 lo)).take (sIx items.size items.size hi - sIx items.size 0 lo)).toArray.size ≤ sizeLine
  rw [TU, Tz, U0, SU]
  exact SG (SG (TX _ _) (Nat.sub_le _ _)) hsz
 have hj : sIx items.size items.size hi ≤ items.size := sIx_le _ _ (SW _) hi
 obtain ⟨os, hos, hcs, hds⟩ := id hs
 have hTs : s.TypeIs (.ref sl) "slice" := ⟨os, hos, hcs⟩
 unfold getItem
 try with_reducible refine wpAny_holding ?_
 first | refine wpAny_bind (wpAny_pure ?_) | skip
 refine wpAny_bind (wpAny_sequenceKey ht.typeIs (by decide) ?_)
 refine wpAny_bind (wpAny_callSpecial?_slot (name := Str.ofString "__getitem__") ht.typeIs PyProof.Rows.slot_tuple_getitem
  (wpAny_call_entry PyProof.Rows.slot_tuple_getitem ht.typeIs entry_tuple_getitem ?_ (args_tuple_getitem _ _)))
 show wpAny _ _ (Builtin.Tuple.tupleItemsOf (.ref t) >>= _) _ _ s
 refine wpAny_bind (tupleItemsOf_ ht ?_)
 refine wpAny_bind (wpAny_typeOf hTs ?_)
 rw [if_pos (by decide)]
 refine wpAny_bind (sliceApplied_gen hs pl pu ?_)
 have hno : ¬ ((((sIx items.size 0 lo : Nat) : Int) == 0 && (1 : Int) == 1 && (sIx items.size items.size hi - sIx items.size 0 lo) == items.size) = true) := by
  intro q
  rw [Bool.and_eq_true, Bool.and_eq_true] at q
  have q1 : ((sIx items.size 0 lo : Nat) : Int) = 0 := eq_of_beq q.1.1
  have q2 : sIx items.size items.size hi - sIx items.size 0 lo = items.size := eq_of_beq q.2
  exact hw ⟨by lia, by lia⟩
 show wpAny _ _ (if (((sIx items.size 0 lo : Nat) : Int) == 0 && (1 : Int) == 1 && (sIx items.size items.size hi - sIx items.size 0 lo) == items.size) = true then _ else _) _ _ s
 rw [if_neg hno, pick_gen]
 first
  | exact wpAny_bind (m := Builtin.Tuple.tupleExact _) (wpAny_newObj_type (wpAny_pure ⟨_, rfl, wpAny_pure h⟩) htake)
  | exact wpAny_bind (m := Builtin.Tuple.tupleExact _) (wpAny_newObj_type (wpAny_bind (wpAny_pure (wpAny_pure ⟨_, rfl, wpAny_pure h⟩))) htake)
  | exact wpAny_bind (wpAny_bind (m := Builtin.Tuple.tupleExact _) (wpAny_newObj_type (wpAny_pure (wpAny_pure ⟨_, rfl, wpAny_pure h⟩)) htake))
  | exact wpAny_bind (wpAny_bind (m := Builtin.Tuple.tupleExact _) (wpAny_newObj_type (wpAny_pure ⟨_, rfl, wpAny_pure h⟩) htake))
end
end HT
namespace L2
open PySem PySem.Spec PyProof.Rows
abbrev TO := St → Hp → (Option Int → Hp → Prop) → Prop
def PO (X : Cx) (e : Option Expr) (t : TO) : Prop :=
 ∀ (pins : List (Addr × Obj)) (s : Shared) (σ : St) (H : Hp) (Q : Option Int → Hp → Prop), Inv X pins σ H s → t σ H Q →
   wpAny (model X.prog X.w) X.A (evalPart e X.env) (fun u s' => ∃ o H', Inv X pins σ H' s' ∧ IsPart u o ∧ Q o H') X.xe s
def Nf : TO := fun _ H Q => Q none H
def Pk (t : TE) : TO := fun σ H Q => t σ H fun x H1 => ∃ i, x = .int i ∧ Q (some i) H1
section
variable {X : Cx} {e : Expr} {te : TE} {lo hi : Option Expr} {tl th : TO} {pos p2 : Pos}
theorem Bw : PO X none Nf := by
 intro pins s σ H Q I h
 rw [evalPart_none]
 exact wpAny_pure ⟨none, H, I, .none, h⟩
theorem Bv (h : PE X e te) : PO X (some e) (Pk te) := by
 intro pins s σ H Q I hw
 rw [evalPart_some]
 refine thn (h pins s σ H _ I hw) fun u s1 ⟨x, H1, I1, r1, q1⟩ => ?_
 obtain ⟨i, rfl, q⟩ := q1
 obtain ⟨t, rfl⟩ := r1
 exact ⟨some i, H1, I1, .int i t, q⟩
def SlR (X : Cx) (r : V → Option Int → Option Int → Hp → VK → Prop) : Prop :=
 ∀ (pins : List (Addr × Obj)) (s : Shared) (σ : St) (H : Hp) (x : V) (v vl vu : Value) (lo hi : Option Int) (sl : Addr) (Q : VK), Inv X pins σ H s → AS x v → s.heap.IsSliceOf sl vl vu .none → IsPart vl lo → IsPart vu hi → r x lo hi H Q →
   ∃ T id, typeLookup (.type T) "__getitem__" = pure (some (.builtin id)) ∧ s.TypeIs v T ∧ wpAny (model X.prog X.w) X.A (getItem v (.ref sl)) (EP X pins σ Q) X.xe s
theorem SlR.or {r r' : V → Option Int → Option Int → Hp → VK → Prop} (h : SlR X r) (h' : SlR X r') : SlR X (fun x lo hi H Q => r x lo hi H Q ∨ r' x lo hi H Q) := by
 intro pins s σ H x v vl vu lo hi sl Q I rx hs pl pu q
 rcases q with q | q
 ·exact h pins s σ H x v vl vu lo hi sl Q I rx hs pl pu q
 ·exact h' pins s σ H x v vl vu lo hi sl Q I rx hs pl pu q
def tSl (r : V → Option Int → Option Int → Hp → VK → Prop) (te : TE) (tl th : TO) : TE := fun σ H Q => te σ H fun x H1 => tl σ H1 fun l H2 => th σ H2 fun u H3 => r x l u H3 Q
theorem Bh {r : V → Option Int → Option Int → Hp → VK → Prop} (hr : SlR X r) (he : PE X e te) (hl : PO X lo tl) (hu : PO X hi th) : PE X (.Subscript e (.Slice lo hi none p2) pos) (tSl r te tl th) := by
 intro pins s σ H Q I h
 refine Subscript_ (thn (he pins s σ H _ I h) fun v s1 ⟨x, H1, I1, r1, q1⟩ => ?_)
 refine wpAny_Slice (thn (hl pins s1 σ H1 _ I1 q1) fun vl s2 ⟨l, H2, I2, pl, q2⟩ => thn (hu pins s2 σ H2 _ I2 q2) fun vu s3 ⟨u, H3, I3, pu, q3⟩ => ?_)
 rw [evalPart_none]
 refine wpAny_pure ?_
 have I4 : Inv X pins σ H3 { s3 with heap := s3.heap.push { cls := .type "slice", data := .fields #[vl, vu, .none] } } := I3.kept (t' := s3.toks) fun b ob q => Heap.get?_push_of_some _ q
 obtain ⟨T, id, hT, ht, hg⟩ := hr pins { s3 with heap := s3.heap.push { cls := .type "slice", data := .fields #[vl, vu, .none] } } σ H3 x v vl vu l u s3.heap.objs.size Q I4 r1 (Heap.IsSliceOf.new ..) pl pu q3
 show wpAny (model X.prog X.w) X.A (subscriptTail e (.Slice lo hi none p2) v (.ref s3.heap.objs.size)) (EP X pins σ Q) X.xe { s3 with heap := s3.heap.push { cls := .type "slice", data := .fields #[vl, vu, .none] } }
 exact tail_any (ops := [.ref s3.heap.objs.size, v]) ht hT hg (by with_unfolding_all rfl)
def Gw (xs : List V) (lo hi : Option Int) : List V := (xs.drop (HT.sIx xs.length 0 lo)).take (HT.sIx xs.length xs.length hi - HT.sIx xs.length 0 lo)
theorem Fq (xs : List V) (lo hi : Option Int) : (Gw xs lo hi).length ≤ xs.length := by
 unfold Gw
 rw [Tz, U0]
 exact SG (TX _ _) (Nat.sub_le _ _)
inductive Og (K : SE) (x : V) (lo : Option Int) (hi : Option Int) (H : Hp) (Q : VK) : Prop
 | mk (a : _) (xs : _) (h1 : x = .ref a) (h2 : SqT K H a xs) (h3 : ¬ (HT.sIx xs.length 0 lo = 0 ∧ HT.sIx xs.length xs.length hi = xs.length)) (h4 : ∀ p, H p = none → Q (.ref p) (upd H p (.tup (Gw xs lo hi)))) : Og K x lo hi H Q
theorem Ob : SlR X (Og X.K) := by
 intro pins s σ H x v vl vu lo hi sl Q I rx hs pl pu h
 obtain ⟨a, xs, rfl, hx, hw, q⟩ := h
 cases rx
 obtain ⟨its, r, ht, hz⟩ := I.tuple hx
 have hlen : its.toArray.size = xs.length := by rw [TU]; exact r.length.symm
 refine ⟨"tuple", _, PyProof.Rows.slot_tuple_getitem.lookup, ht.typeIs, ?_⟩
 refine HT.getItem_tuple_cut ht hs pl pu (by rw [hlen]; exact hw) ?_ (by rw [hlen]; exact hz)
 rw [hlen]
 refine ⟨.ref s.heap.objs.size, _, I.laid (t' := s.toks) (o := .tup (Gw xs lo hi)) (fun b ob q => Heap.get?_push_of_some _ q) (SW _) ?_, rfl, q _ (I.hok.fresh (SW _))⟩
 exact ⟨SG (Fq xs lo hi) hz, _, (r.drop (HT.sIx xs.length 0 lo)).take (HT.sIx xs.length xs.length hi - HT.sIx xs.length 0 lo), IsTup.new _ _⟩
inductive Kw (K : SE) (x : V) (y : V) (H : Hp) (Q : VK) : Prop
 | mk (a : _) (b : _) (xs : _) (ys : _) (h1 : x = .ref a) (h2 : y = .ref b) (h3 : SqT K H a xs) (h4 : SqT K H b ys) (h5 : xs ≠ []) (h6 : xs.length + ys.length ≤ sizeLine) (h7 : (ys = [] → Q (.ref a) H)) (h8 : (ys ≠ [] → ∀ p, H p = none → Q (.ref p) (upd H p (.tup (xs ++ ys))))) : Kw K x y H Q
theorem AQ.nil_iff {xs : List V} {us : List Value} (r : AQ xs us) : us = [] ↔ xs = [] := by
 cases r with
 | nil => simp
 | cons _ _ => simp
theorem KI : OpR X (binaryOp .Add) (Kw X.K) := by
 intro pins s σ H x y v u Q I rx ry h
 obtain ⟨a, b, xs, ys, rfl, rfl, ha, hb, hx, hz, q1, q2⟩ := h
 cases rx
 cases ry
 obtain ⟨its, r1, p1, _⟩ := I.tuple ha
 obtain ⟨its2, r2, p2, _⟩ := I.tuple hb
 refine HT.cat_tup p1 p2 (fun z => hx (r1.nil_iff.mp z)) (fun z => ⟨.ref a, H, I, rfl, q1 (r2.nil_iff.mp z)⟩) (fun z => ?_) (by rw [← r1.length, ← r2.length]; exact hz)
 refine ⟨.ref s.heap.objs.size, _, I.laid (t' := s.toks) (o := .tup (xs ++ ys)) (fun b ob q => Heap.get?_push_of_some _ q) (SW _) ?_, rfl, q2 (fun w => z (r2.nil_iff.mpr w)) _ (I.hok.fresh (SW _))⟩
 exact ⟨by rw [TM]; exact hz, _, r1.append r2, IsTup.new _ _⟩
end
end L2
namespace L2
open PySem PySem.Spec PyProof.Rows
def ixN (n : Nat) (i : Int) : Option Nat := if 0 ≤ i then (if i < n then some i.toNat else none) else if -(n : Int) ≤ i then some (i + n).toNat else none
def atI {α : Type} (xs : List α) (i : Int) : Option α := (ixN xs.length i).bind fun j => xs[j]?
theorem KQ {n : Nat} {i : Int} {j : Nat} (h : ixN n i = some j) : seqIndex? i n = some j ∧ j < n ∧ -(n : Int) ≤ i ∧ i < n := by
 unfold ixN at h
 by_cases h0 : 0 ≤ i
 ·rw [if_pos h0] at h
  by_cases h1 : i < n
  ·rw [if_pos h1] at h
   have e : i.toNat = j := So.inj h
   exact ⟨by rw [seqIndex_of h0 h1, e], by lia, by lia, h1⟩
  ·rw [if_neg h1] at h; cases h
 ·rw [if_neg h0] at h
  by_cases h1 : -(n : Int) ≤ i
  ·rw [if_pos h1] at h
   have e : (i + n).toNat = j := So.inj h
   exact ⟨by rw [seqIndex_neg (by lia) h1, e], by lia, h1, by lia⟩
  ·rw [if_neg h1] at h; cases h
theorem IJ {α : Type} {xs : List α} {i : Int} {v : α} (h : atI xs i = some v) : ∃ j, seqIndex? i xs.length = some j ∧ xs[j]? = some v ∧ j < xs.length ∧ -(xs.length : Int) ≤ i ∧ i < xs.length := by
 unfold atI at h
 cases e : ixN xs.length i with
 | none => rw [e] at h; cases h
 | some j =>
   rw [e] at h
   obtain ⟨h1, h2, h3, h4⟩ := KQ e
   exact ⟨j, h1, h, h2, h3, h4⟩
theorem Ar {α : Type} {xs : List α} {j : Nat} {v : α} (h : xs[j]? = some v) : atI xs (j : Int) = some v := by
 have hj : j < xs.length := (SQ.mp h).1
 have e : ixN xs.length (j : Int) = some j := by
  unfold ixN
  rw [if_pos (by lia), if_pos (by lia)]; simp
 unfold atI; rw [e]; exact h
def Lc (b : Expr) : Prop := ∀ o i, subscripted b false o i = operate [o, i] (getItem o i)
def IxR (X : Cx) (r : R2) : Prop :=
 ∀ (value slice : Expr) (pins : List (Addr × Obj)) (s : Shared) (σ : St) (H : Hp) (x y : V) (v u : Value) (Q : VK), Inv X pins σ H s → AS x v → AS y u → r x y H Q →
   subscripted slice false v u = operate [v, u] (getItem v u) → wpAny (model X.prog X.w) X.A (subscriptTail value slice v u) (EP X pins σ Q) X.xe s
def MtR (X : Cx) (id : String) (r : V → List V → Hp → VK → Prop) : Prop :=
 ∀ (pins : List (Addr × Obj)) (s : Shared) (σ : St) (H : Hp) (x : V) (xs : List V) (v : Value) (us : List Value) (Q : VK), Inv X pins σ H s → AS x v → AQ xs us → r x xs H Q →
   wpAny (model X.prog X.w) X.A (call (.builtin id) (v :: us)) (EP X pins σ Q) X.xe s
section
variable {X : Cx} {a b : Expr} {ta tb : TE} {pos : Pos}
theorem Au {r : R2} (hr : IxR X r) (ha : PE X a ta) (hb : PE X b tb) (hs : Lc b) : PE X (.Subscript a b pos) (tOp r ta tb) := by
 intro pins s σ H Q I h
 exact Subscript_ (P7 ha hb I h fun v u s2 x y H2 I2 rx ry q => hr a b pins s2 σ H2 x y v u Q I2 rx ry q (hs _ _))
inductive Oj (K : SE) (x : V) (y : V) (H : Hp) (Q : VK) : Prop
 | mk (p : _) (xs : _) (i : _) (v : _) (h1 : x = .ref p) (h2 : y = .int i) (h3 : SqL K H p xs) (h4 : atI xs i = some v) (h5 : Q v H) : Oj K x y H Q
inductive Oi (K : SE) (x : V) (y : V) (H : Hp) (Q : VK) : Prop
 | mk (p : _) (xs : _) (i : _) (v : _) (h1 : x = .ref p) (h2 : y = .int i) (h3 : SqT K H p xs) (h4 : atI xs i = some v) (h5 : Q v H) : Oi K x y H Q
inductive PF (x : V) (y : V) (H : Hp) (Q : VK) : Prop
 | mk (z : _) (i : _) (c : _) (h1 : x = .str z) (h2 : y = .int i) (h3 : z.length ≤ sizeLine) (h4 : atI z.cps.toList i = some c) (h5 : Q (.str ⟨#[c]⟩) H) : PF x y H Q
theorem NA : IxR X (Oj X.K) := by
 intro value slice pins s σ H x y v u Q I rx ry h hs
 obtain ⟨p, xs, i, z, rfl, rfl, hq, he, q⟩ := h
 cases rx
 obtain ⟨t, rfl⟩ := ry
 obtain ⟨its, r, pl, hz⟩ := I.list hq
 obtain ⟨j, h1, h2, h3, h4, h5⟩ := IJ he
 obtain ⟨w, ew, rw'⟩ := r.get h2
 have hl := r.length
 have hn := EW
 have fin : EP X pins σ Q w s := ⟨z, H, I, rw', q⟩
 by_cases h0 : 0 ≤ i
 ·have hj : i.toNat = j := by
   rw [seqIndex_of h0 h5] at h1
   exact So.inj h1
  exact item_listR pl.isList h0 (by lia) (by rw [hj]; simpa using ew) fin hs
 ·have hj : (i + (its.toArray.size : Int)).toNat = j := by
   rw [seqIndex_neg (by lia) h4] at h1
   rw [TU, ← hl]
   exact So.inj h1
  exact subscriptTail_builtinR (x := w) pl.isList.typeIs slot_list_getitem.lookup
   (wpAny_getItem_list_neg (Q := fun r s' => r = w ∧ EP X pins σ Q r s') pl.isList (by lia) (by rw [TU] <;> lia) (by lia) (by rw [hj]; simpa using ew) ⟨rfl, fin⟩) hs
theorem OR : IxR X (Oi X.K) := by
 intro value slice pins s σ H x y v u Q I rx ry h hs
 obtain ⟨p, xs, i, z, rfl, rfl, hq, he, q⟩ := h
 cases rx
 obtain ⟨t, rfl⟩ := ry
 obtain ⟨its, r, pl, hz⟩ := I.tuple hq
 obtain ⟨j, h1, h2, h3, h4, h5⟩ := IJ he
 obtain ⟨w, ew, rw'⟩ := r.get h2
 have hl := r.length
 have hn := EW
 have fin : EP X pins σ Q w s := ⟨z, H, I, rw', q⟩
 exact subscriptTail_builtinR (x := w) pl.typeIs slot_tuple_getitem.lookup
  (getItem_tuple (j := j) (Q := fun r s' => r = w ∧ EP X pins σ Q r s') pl (by lia) (by lia) (by rw [TU, ← hl]; exact h1) (by simpa using ew) ⟨rfl, fin⟩) hs
theorem OS : IxR X PF := by
 intro value slice pins s σ H x y v u Q I rx ry h hs
 obtain ⟨z, i, c, rfl, rfl, hz, he, q⟩ := h
 obtain ⟨t, rfl⟩ := rx
 obtain ⟨t', rfl⟩ := ry
 obtain ⟨j, h1, h2, h3, h4, h5⟩ := IJ he
 have hl : z.cps.toList.length = z.length := by simp [Str.length]
 rw [hl] at h1 h4 h5
 have hn := EW
 exact tail_any (typeIs_str s z t) slot_str_getitem.lookup (getItem_str (c := c) (by
  have e1 : decide (i < -(2 ^ 63 : Int)) = false := decide_eq_false (by lia)
  have e2 : decide (i ≥ 2 ^ 63) = false := decide_eq_false (by lia)
  rw [e1, e2, Bool.or_false]) (by rw [h1]; simpa using h2) ⟨.str ⟨#[c]⟩, H, I.tok _, ⟨_, rfl⟩, q⟩) hs
theorem K9 (its : List Value) (n j : Nat) (u : Value) : Obj.mapSeq (·.setIfInBounds j u) { cls := .type "list", data := .seq its.toArray n } = { cls := .type "list", data := .seq (its.set j u).toArray n } := by
 simp [Obj.mapSeq]
theorem Inv.lst {pins : List (Addr × Obj)} {σ : St} {H : Hp} {s : Shared} {p : Addr} {xs : List V} (I : Inv X pins σ H s) (h : H p = some (.lst xs)) :
 ∃ (its : List Value) (n : Nat), AQ xs its ∧ s.heap.get? p = some { cls := .type "list", data := .seq its.toArray n } ∧ xs.length ≤ sizeLine := by
 obtain ⟨z, its, n, r, e⟩ := I.hok p _ h
 exact ⟨its, n, r, e, z⟩
theorem Inv.lstUpd {pins : List (Addr × Obj)} {σ : St} {H : Hp} {s : Shared} {p : Addr} {xs ys : List V} {its its' : List Value} {n n' : Nat} {f : Obj → Obj} (I : Inv X pins σ H s) (h : H p = some (.lst xs))
 (ho : s.heap.get? p = some { cls := .type "list", data := .seq its.toArray n }) (hf : f { cls := .type "list", data := .seq its.toArray n } = { cls := .type "list", data := .seq its'.toArray n' }) (r : AQ ys its') (hz : ys.length ≤ sizeLine) (t : Nat) :
 Inv X pins σ (upd H p (.lst ys)) { s with heap := s.heap.update p f, toks := t } := by
 have e : (s.heap.update p f).get? p = some { cls := .type "list", data := .seq its'.toArray n' } := by
  rw [Heap.get?_update_self f ho (by rw [hf] <;> rfl), hf]
 refine I.write (x := p) (e := p) (by rw [h]; trivial) (.inl rfl) (fun b u hb q => (Heap.get?_update_other _ _ (Ne.symm hb)).trans q) ⟨_, e⟩ ?_
 exact ⟨hz, its', n', r, e⟩
inductive NU (o : V) (i : V) (v : V) (H : Hp) (Q : (Hp → Prop)) : Prop
 | mk (p : _) (xs : _) (k : _) (j : _) (h1 : o = .ref p) (h2 : i = .int k) (h3 : H p = some (.lst xs)) (h4 : ixN xs.length k = some j) (h5 : Q (upd H p (.lst (xs.set j v)))) : NU o i v H Q
theorem J0 : Qa X NU := by
 intro pins s σ H o i v ov iv u Q I ro ri rv h
 obtain ⟨p, xs, k, j, rfl, rfl, hp, hj, q⟩ := h
 cases ro
 obtain ⟨t, rfl⟩ := ri
 obtain ⟨its, n, r, ho, hz⟩ := I.lst hp
 obtain ⟨h1, h2, h3, h4⟩ := KQ hj
 have hl := r.length
 have hn := EW
 have I' : Inv X pins σ (upd H p (.lst (xs.set j v))) { s with heap := s.heap.update p (Obj.mapSeq (·.setIfInBounds j u)) } :=
  I.lstUpd hp ho (K9 its n j u) (r.set rv j) (by rw [U1]; exact hz) s.toks
 by_cases h0 : 0 ≤ k
 ·have hk : k.toNat = j := by
   rw [seqIndex_of h0 h4] at h1
   exact So.inj h1
  exact PySem.W.ki_setAt ho h0 (by lia) (by rw [TU, ← hl]; exact h4) (by rw [hk]; exact ⟨_, I', q⟩)
 ·have hk : (k + (its.toArray.size : Int)).toNat = j := by
   rw [seqIndex_neg (by lia) h3] at h1
   rw [TU, ← hl]
   exact So.inj h1
  exact PySem.W.ki_setBack ho (by lia) (by rw [TU, ← hl]; exact h3) (by lia) (by rw [hk]; exact ⟨_, I', q⟩)
theorem HN (lo hi : Option Int) (n : Nat) : (sliceBounds lo hi none n).1 = ((HT.sIx n 0 lo : Nat) : Int) ∧ (sliceBounds lo hi none n).2.1 = ((HT.sIx n n hi : Nat) : Int) ∧ (sliceBounds lo hi none n).2.2 = 1 := by
 have key : ∀ (i : Int) (d : Nat), max 0 (min (if i < 0 then i + (n : Int) else i) (n : Int)) = ((HT.sIx n d (some i) : Nat) : Int) := by
  intro i d
  rw [← HT.clip_eq]
  by_cases h : i < 0
  ·rw [if_pos h, if_pos h, Int.min_eq_left (by lia), Int.max_comm]
  ·rw [if_neg h, if_neg h, Int.max_eq_right (Int.le_min.mpr ⟨by lia, by lia⟩)]
 refine ⟨?_, ?_, rfl⟩
 ·cases lo with
  | none => simp [sliceBounds, HT.sIx]
  | some i => exact key i 0
 ·cases hi with
  | none => simp [sliceBounds, HT.sIx]
  | some i => exact key i n
theorem GF (its : List Value) (lo hi : Option Int) : slicePick its.toArray lo hi none = ((its.drop (HT.sIx its.length 0 lo)).take (HT.sIx its.length its.length hi - HT.sIx its.length 0 lo)).toArray := by
 obtain ⟨h1, h2, h3⟩ := HN lo hi its.toArray.size
 unfold slicePick
 rw [h1, h2, h3]
 simp only [sliceRange_one, pick_run, TU] <;> rfl
inductive Oh (K : SE) (x : V) (lo : Option Int) (hi : Option Int) (H : Hp) (Q : VK) : Prop
 | mk (a : _) (xs : _) (h1 : x = .ref a) (h2 : SqL K H a xs) (h3 : ∀ p, H p = none → Q (.ref p) (upd H p (.lst (Gw xs lo hi)))) : Oh K x lo hi H Q
theorem Nj : SlR X (Oh X.K) := by
 intro pins s σ H x v vl vu lo hi sl Q I rx hs pl pu h
 obtain ⟨a, xs, rfl, hx, q⟩ := h
 cases rx
 obtain ⟨its, r, ht, hz⟩ := I.list hx
 have hlen := r.length
 refine ⟨"list", _, slot_list_getitem.lookup, ht.isList.typeIs, ?_⟩
 refine wpAny_getItem_list_slice ht.isList hs pl pu .none (by simp) ?_ (by rw [TU] <;> lia)
 rw [GF, ← hlen]
 refine ⟨.ref s.heap.objs.size, _, I.laid (t' := s.toks) (o := .lst (Gw xs lo hi)) (fun b ob q => Heap.get?_push_of_some _ q) (SW _) ?_, rfl, q _ (I.hok.fresh (SW _))⟩
 exact ⟨SG (Fq xs lo hi) hz, _, 0, (r.drop (HT.sIx xs.length 0 lo)).take (HT.sIx xs.length xs.length hi - HT.sIx xs.length 0 lo), Heap.get?_push_size _ rfl⟩
def Fp : V → Bool
 | .non => true
 | .bl _ => true
 | .int _ => true
 | .str _ => true
 | _ => false
def eqV : V → V → Bool
 | .non, .non => true
 | .bl a, .bl b => a == b
 | .bl a, .int b => (if a then 1 else 0) == b
 | .int a, .bl b => a == (if b then 1 else 0)
 | .int a, .int b => a == b
 | .str a, .str b => a == b
 | _, _ => false
theorem OX {A : Around} {s : Shared} {y x : V} {u v : Value} (ry : AS y u) (rx : AS x v) (fy : Fp y = true) (fx : Fp x = true) : SeqAt.EqAt A s u v (eqV y x) := by
 cases y with
 | non =>
   cases ry
   cases x with
   | non => cases rx; exact SeqAt.EqAt.same _
   | bl b => cases rx; exact SeqAt.EqAt.none_bool b
   | int b => obtain ⟨t, rfl⟩ := rx; exact SeqAt.EqAt.none_int b t
   | str b => obtain ⟨t, rfl⟩ := rx; exact SeqAt.EqAt.none_str b t
   | _ => exact absurd (show false = true from fx) Bool.false_ne_true
 | bl a =>
   cases ry
   cases x with
   | non => cases rx; exact SeqAt.EqAt.bool_none a
   | bl b => cases rx; exact SeqAt.EqAt.bool_bool a b
   | int b => obtain ⟨t, rfl⟩ := rx; exact SeqAt.EqAt.bool_int a b t
   | str b => obtain ⟨t, rfl⟩ := rx; exact SeqAt.EqAt.bool_str a b t
   | _ => exact absurd (show false = true from fx) Bool.false_ne_true
 | int a =>
   obtain ⟨t', rfl⟩ := ry
   cases x with
   | non => cases rx; exact SeqAt.EqAt.int_none a t'
   | bl b => cases rx; exact SeqAt.EqAt.int_bool a t' b
   | int b => obtain ⟨t, rfl⟩ := rx; exact SeqAt.EqAt.int_int a t' b t
   | str b => obtain ⟨t, rfl⟩ := rx; exact SeqAt.EqAt.int_str a t' b t
   | _ => exact absurd (show false = true from fx) Bool.false_ne_true
 | str a =>
   obtain ⟨t', rfl⟩ := ry
   cases x with
   | non => cases rx; exact SeqAt.EqAt.str_none a t'
   | bl b => cases rx; exact SeqAt.EqAt.str_bool a t' b
   | int b => obtain ⟨t, rfl⟩ := rx; exact SeqAt.EqAt.str_int a t' b t
   | str b => obtain ⟨t, rfl⟩ := rx; exact SeqAt.EqAt.str_str a t' b t
   | _ => exact absurd (show false = true from fx) Bool.false_ne_true
 | _ => exact absurd (show false = true from fy) Bool.false_ne_true
def eqU (x : V) (u : Value) : Bool := match u with
 | .none => eqV .non x
 | .bool b => eqV (.bl b) x
 | .int i _ => eqV (.int i) x
 | .str z _ => eqV (.str z) x
 | _ => false
theorem MV {x y : V} {u : Value} (r : AS y u) (f : Fp y = true) : eqU x u = eqV y x := by
 cases y with
 | non => cases r; rfl
 | bl b => cases r; rfl
 | int i => obtain ⟨t, rfl⟩ := r; rfl
 | str z => obtain ⟨t, rfl⟩ := r; rfl
 | _ => exact absurd (show false = true from f) Bool.false_ne_true
theorem EC {x : V} : ∀ {xs : List V} {us : List Value}, AQ xs us → xs.all Fp = true → us.any (eqU x) = xs.any fun y => eqV y x
 | _, _, .nil, _ => rfl
 | y :: xs, u :: us, .cons r t, f => by
   rw [List.all_cons, Bool.and_eq_true] at f
   rw [U2, U2, MV r f.1, EC t f.2]
theorem DC {A : Around} {s : Shared} {x : V} {v : Value} (rx : AS x v) (fx : Fp x = true) : ∀ {xs : List V} {us : List Value}, AQ xs us → xs.all Fp = true → ∀ u ∈ us, SeqAt.EqAt A s u v (eqU x u)
 | _, _, .nil, _ => fun u hu => by cases hu
 | y :: xs, u :: us, .cons r t, f => fun u' hu => by
   rw [List.all_cons, Bool.and_eq_true] at f
   rcases SM.mp hu with rfl | hu
   ·rw [MV r f.1]; exact OX r rx f.1 fx
   ·exact DC rx fx t f.2 u' hu
def inV (x : V) (xs : List V) : Bool := xs.any fun y => eqV y x
inductive rIn (K : SE) (neg : Bool) (x : V) (y : V) (H : Hp) (Q : VK) : Prop
 | mk (p : _) (xs : _) (h1 : y = .ref p) (h2 : (SqL K H p xs ∨ SqT K H p xs)) (h3 : Fp x = true) (h4 : xs.all Fp = true) (h5 : Q (.bl (if neg then !inV x xs else inV x xs)) H) : rIn K neg x y H Q
theorem Ls : OpR X (compareOp .In) (rIn X.K false) := by
 intro pins s σ H x y v u Q I rx ry h
 obtain ⟨p, xs, rfl, hq, fx, fs, q⟩ := h
 cases ry
 rcases hq with hq | hq
 ·obtain ⟨its, r, pl, hz⟩ := I.list hq
  refine SeqAt.in_listAt (eqU x) pl.isList (fun w hw => DC rx fx r fs w (by simpa using hw)) ⟨.bl _, H, I, rfl, ?_⟩
  rw [show its.toArray.any (eqU x) = its.any (eqU x) by simp, EC r fs]
  exact q
 ·obtain ⟨its, r, pl, hz⟩ := I.tuple hq
  refine SeqAt.in_tupleAt (eqU x) pl (fun w hw => DC rx fx r fs w (by simpa using hw)) ⟨.bl _, H, I, rfl, ?_⟩
  rw [show its.toArray.any (eqU x) = its.any (eqU x) by simp, EC r fs]
  exact q
theorem Ib : OpR X (compareOp .NotIn) (rIn X.K true) := by
 intro pins s σ H x y v u Q I rx ry h
 obtain ⟨p, xs, rfl, hq, fx, fs, q⟩ := h
 cases ry
 rcases hq with hq | hq
 ·obtain ⟨its, r, pl, hz⟩ := I.list hq
  refine SeqAt.notIn_listAt (eqU x) pl.isList (fun w hw => DC rx fx r fs w (by simpa using hw)) ⟨.bl _, H, I, rfl, ?_⟩
  rw [show its.toArray.any (eqU x) = its.any (eqU x) by simp, EC r fs]
  exact q
 ·obtain ⟨its, r, pl, hz⟩ := I.tuple hq
  refine SeqAt.notIn_tupleAt (eqU x) pl (fun w hw => DC rx fx r fs w (by simpa using hw)) ⟨.bl _, H, I, rfl, ?_⟩
  rw [show its.toArray.any (eqU x) = its.any (eqU x) by simp, EC r fs]
  exact q
theorem IG : BO X (.builtin "len") (fun xs H Q => ∃ p ys, xs = [.ref p] ∧ (SqL X.K H p ys ∨ SqT X.K H p ys) ∧ Q (.int ys.length) H) := by
 intro pins s σ H xs us Q I r h
 obtain ⟨p, ys, rfl, hq, q⟩ := h
 obtain ⟨u, rfl, rx⟩ := CK r
 cases rx
 have hn := EW
 rcases hq with hq | hq
 ·obtain ⟨its, r', pl, hz⟩ := I.list hq
  have hlen := r'.length
  exact Calls.call_len_list pl.isList (by simp only [TU] <;> lia) ⟨.int ys.length, H, I.tok _, ⟨s.toks + 1, by rw [TU, hlen]⟩, q⟩
 ·obtain ⟨its, r', pl, hz⟩ := I.tuple hq
  have hlen := r'.length
  exact len_tuple pl (by simp only [TU] <;> lia) ⟨.int ys.length, H, I.tok _, ⟨s.toks + 1, by rw [TU, hlen]⟩, q⟩
theorem IF : BO X (.type "list") (fun xs H Q => ∃ p ys, xs = [.ref p] ∧ (SqL X.K H p ys ∨ SqT X.K H p ys) ∧ ∀ l, H l = none → Q (.ref l) (upd H l (.lst ys))) := by
 intro pins s σ H xs us Q I r h
 obtain ⟨p, ys, rfl, hq, q⟩ := h
 obtain ⟨u, rfl, rx⟩ := CK r
 cases rx
 have fin : ∀ (its : List Value), AQ ys its → ys.length ≤ sizeLine → ∀ (h' : Heap) (c' : Nat), (∀ b o', s.heap.get? b = some o' → h'.get? b = some o') →
  h'.get? s.heap.objs.size = some { cls := .type "list", dict := none, data := .seq its.toArray c', slots := #[] } → EP X pins σ Q (.ref s.heap.objs.size) { s with heap := h' } := fun its r' hz h' c' kp e =>
  ⟨.ref s.heap.objs.size, _, I.laid (t' := s.toks) kp (SW _) (show Bt X.prog X.w _ h' _ (.lst ys) from ⟨hz, its, c', r', e⟩), rfl, q _ (I.hok.fresh (SW _))⟩
 rcases hq with hq | hq
 ·obtain ⟨its, r', pl, hz⟩ := I.list hq
  have hlen := r'.length
  obtain ⟨o, ho, hc, n, hd⟩ := pl.isList
  exact call_list_seq p (.inl rfl) ho hc hd (fun h' c' kp e => fin its r' hz h' c' kp e) (by simp only [TU] <;> lia)
 ·obtain ⟨its, r', pl, hz⟩ := I.tuple hq
  have hlen := r'.length
  obtain ⟨o, ho, hc, n, hd⟩ := pl
  exact call_list_seq p (.inr rfl) ho hc hd (fun h' c' kp e => fin its r' hz h' c' kp e) (by simp only [TU] <;> lia)
theorem Hg : BO X (.type "tuple") (fun xs H Q => ∃ p ys, xs = [.ref p] ∧ ((SqL X.K H p ys ∧ ∀ l, H l = none → Q (.ref l) (upd H l (.tup ys))) ∨ (SqT X.K H p ys ∧ Q (.ref p) H))) := by
 intro pins s σ H xs us Q I r h
 obtain ⟨p, ys, rfl, h⟩ := h
 obtain ⟨u, rfl, rx⟩ := CK r
 cases rx
 rcases h with ⟨hq, q⟩ | ⟨hq, q⟩
 ·obtain ⟨its, r', pl, hz⟩ := I.list hq
  have hlen := r'.length
  refine call_tuple_list pl.isList (fun h' kp => ?_) (by simp only [TU] <;> lia)
  have I1 : Inv X pins σ H { s with heap := h' } := I.kept (t' := s.toks) kp
  have I2 : Inv X pins σ (upd H h'.objs.size (.tup ys)) { s with heap := h'.push { cls := .type "tuple", data := .seq its.toArray } } :=
   I1.laid (t' := s.toks) (fun b o e => Heap.get?_push_of_some _ e) (SW _) (show Bt X.prog X.w _ _ _ (.tup ys) from ⟨hz, its, r', IsTup.new _ _⟩)
  exact ⟨.ref h'.objs.size, _, I2, rfl, q _ (I1.hok.fresh (SW _))⟩
 ·obtain ⟨its, r', pl, hz⟩ := I.tuple hq
  exact call_tuple_same pl ⟨.ref p, H, I, rfl, q⟩
def tyV (K : SE) (T : String) (x : V) (H : Hp) : Prop := match x with
 | .str _ => T = "str"
 | .int _ => T = "int"
 | .ref p => (T = "list" ∧ ∃ xs, SqL K H p xs) ∨ (T = "tuple" ∧ ∃ o, K.lookup p = some o ∧ o.cls = .type "tuple" ∧ o.dict = none) ∨
  (T = "dict" ∧ ((∃ kvs, H p = some (.dK kvs)) ∨ ∃ kvs, H p = some (.dT kvs))) ∨ (T = "set" ∧ ∃ S n, H p = some (.set S n))
 | _ => False
theorem O9 {pins : List (Addr × Obj)} {σ : St} {H : Hp} {s : Shared} {T : String} {x : V} {v : Value} (I : Inv X pins σ H s) (r : AS x v) (ty : tyV X.K T x H) :
 s.TypeIs v T ∧ ∀ a, v = .ref a → ∃ ob, s.heap.get? a = some ob ∧ ob.dict = none := by
 cases x with
 | str z =>
   obtain ⟨t, rfl⟩ := r
   cases (show T = "str" from ty)
   exact ⟨typeIs_str s z t, fun _ e => nomatch e⟩
 | int i =>
   obtain ⟨t, rfl⟩ := r
   cases (show T = "int" from ty)
   exact ⟨typeIs_int s i t, fun _ e => nomatch e⟩
 | ref p =>
   cases r
   rcases ty with ⟨rfl, xs, hq⟩ | ⟨rfl, o, hk, hc, hd⟩ | ⟨rfl, hk⟩ | ⟨rfl, S, n, hk⟩
   ·obtain ⟨its, _, pl, _⟩ := I.list hq
    refine ⟨pl.isList.typeIs, fun a e => ?_⟩
    cases e
    obtain ⟨o, n, e, c, hd, _⟩ := pl
    exact ⟨o, e, hd⟩
   ·refine ⟨⟨o, I.kIn p o hk, hc⟩, fun a e => ?_⟩
    cases e
    exact ⟨o, I.kIn _ o hk, hd⟩
   ·have z : ∃ o, s.heap.get? p = some o ∧ o.ExactDict := by
     rcases hk with ⟨kvs, hk⟩ | ⟨kvs, hk⟩
     ·obtain ⟨_, _, _, _, o, _, _, e, ex, _⟩ := I.hok p _ hk
      exact ⟨o, e, ex⟩
     ·obtain ⟨_, _, _, _, o, _, _, e, ex, _⟩ := I.hok p _ hk
      exact ⟨o, e, ex⟩
    obtain ⟨o, e, ex⟩ := z
    refine ⟨⟨o, e, ex.1⟩, fun a e2 => ?_⟩
    cases e2
    exact ⟨o, e, ex.2.1⟩
   ·obtain ⟨o, _, _, _, e, ex, _⟩ := I.hok p _ hk
    refine ⟨⟨o, e, ex.1⟩, fun a e2 => ?_⟩
    cases e2
    exact ⟨o, e, ex.2.1⟩
 | _ => exact False.elim ty
def tBM (K : SE) (T : String) (r : V → List V → Hp → VK → Prop) (to : TE) (t : TA) : TE := fun σ H Q => to σ H fun x H1 => tyV K T x H1 ∧ t σ H1 fun xs H2 => r x xs H2 Q
variable {o e : Expr} {es : List Expr} {to : TE} {t : TA} {name : Str} {apos cpos : Pos} {T id : String} {r : V → List V → Hp → VK → Prop}
theorem PM (pa : PlainAttrs T) (slot : Slot T name id) (hty : typeOf (.builtin id) = pure (.type "method_descriptor")) (hm : MtR X id r) (ho : PE X o to) (ha : PA X (e :: es) t)
 (hbase : attributeBase o name X.env (eval o X.env) = eval o X.env := by rfl)
 (hfew : ((backTo cpos (starEach (e :: es) X.env)).all (fun x => !x.1) && (backToKw cpos (keywordEach [] X.env)).all (fun x => x.1.isSome)
  && decide ((e :: es).length + ([] : List Keyword).length + (if ([] : List Keyword).isEmpty then 0 else 1) < 30)) = true := by rfl)
 (hline : (apos.endLine == cpos.line) = true := by rfl) (hs : starEach (e :: es) X.env = (false, eval e X.env) :: starEach es X.env := by rfl) (hplain : (backTo cpos (starEach es X.env)).any (·.1) = false := by rfl) {K : SE} (eK : X.K = K := by rfl) :
 PE X (.Call (.Attribute o name apos) (e :: es) [] cpos) (tBM K T r to t) := by
 subst eK
 intro pins s σ H Q I h
 refine wpAny_Call_method_late hbase hfew hline rfl (thn (ho pins s σ H _ I h) fun v s1 ⟨x, H1, I1, r1, ty, q1⟩ => ?_)
 obtain ⟨h1, h2⟩ := O9 I1 r1 ty
 refine ⟨T, id, pa, slot, hty, h1, h2, ?_⟩
 have hA := ha cpos pins s1 σ H1 _ I1 q1
 rw [hs] at hA ⊢
 refine Calls.callWith_builtin (by show (false || (backTo cpos (starEach es X.env)).any (·.1)) = false; rw [hplain] <;> rfl) (Calls.evalArgs_plain ?_)
 exact thn hA fun us s2 ⟨vs, H2, I2, r2, q2⟩ => hm pins s2 σ H2 x vs v us Q I2 r1 r2 q2
end
end L2
namespace L2
open PySem PySem.Spec PyProof.Rows
def MtM (X : Cx) (id : String) (r : V → List V → Hp → VK → Prop) : Prop :=
 ∀ (pins : List (Addr × Obj)) (s : Shared) (σ : St) (H : Hp) (x : V) (xs : List V) (v : Value) (us : List Value) (Q : VK), Inv X pins σ H s → AS x v → AQ xs us → r x xs H Q →
   wpAny (model X.prog X.w) X.A (call (.builtin id) (v :: us)) (EP X pins σ Q) X.xe s
theorem AQ.one {x : V} {us : List Value} (h : AQ [x] us) : ∃ u, us = [u] ∧ AS x u := by
 cases h with
 | cons r t => cases t; exact ⟨_, rfl, r⟩
section
variable {X : Cx} {pins : List (Addr × Obj)} {σ : St} {H : Hp} {s : Shared} {l b : Addr} {xs ys zs : List V}
theorem Inv.lset {its its' : List Value} {n : Nat} {f : Array Value → Array Value} {t' : Nat} (I : Inv X pins σ H s) (hH : H l = some (.lst xs))
 (e : s.heap.get? l = some { cls := .type "list", data := .seq its.toArray n }) (hf : f its.toArray = its'.toArray) (hv : AQ ys its') (hz : ys.length ≤ sizeLine) :
 Inv X pins σ (upd H l (.lst ys)) { s with heap := s.heap.update l (Obj.mapSeq f), toks := t' } := by
 have q := PySem.IsL.update e f
 rw [hf] at q
 refine I.write (x := l) (e := l) (by rw [hH]; exact trivial) (.inl rfl) (fun b' u hb hu => (Heap.get?_update_other s.heap (Obj.mapSeq f) (Ne.symm hb)).trans hu) ⟨_, q⟩ ?_
 exact ⟨hz, its', _, hv, q⟩
theorem Inv.lnew {its : List Value} {t' : Nat} (I : Inv X pins σ H s) (hv : AQ ys its) (hz : ys.length ≤ sizeLine) :
 Inv X pins σ (upd H s.heap.objs.size (.lst ys)) { s with heap := s.heap.push { cls := .type "list", data := .seq its.toArray }, toks := t' } :=
 I.laid (fun _ _ q => Heap.get?_push_of_some _ q) (SW _) ⟨hz, its, 0, hv, Heap.get?_push_size _ rfl⟩
theorem Inv.fresh (I : Inv X pins σ H s) : H s.heap.objs.size = none := I.hok.fresh (SW _)
theorem Inv.lstM (I : Inv X pins σ H s) (hH : H l = some (.lst xs)) : xs.length ≤ sizeLine ∧ ∃ (its : List Value) (n : Nat), AQ xs its ∧ xs.length = its.length ∧ s.heap.get? l = some { cls := .type "list", data := .seq its.toArray n } := by
 obtain ⟨z, its, n, r, e⟩ := I.hok l _ hH
 exact ⟨z, its, n, r, r.length, e⟩
end
section
variable {X : Cx}
inductive Kx (x : V) (vs : List V) (H : Hp) (Q : VK) : Prop
 | mk (l : _) (xs : _) (y : _) (h1 : x = .ref l) (h2 : vs = [y]) (h3 : H l = some (.lst xs)) (h4 : xs.length < sizeLine) (h5 : Q .non (upd H l (.lst (xs ++ [y])))) : Kx x vs H Q
theorem CW : MtM X "list.append" Kx := by
 intro pins s σ H x vs v us Q I rx rv h
 obtain ⟨l, xs, y, rfl, rfl, hH, hz, q⟩ := h
 cases rx
 obtain ⟨u, rfl, ru⟩ := rv.one
 obtain ⟨z, its, n, r, hl, e⟩ := I.lstM hH
 refine call_meets F.slot_list_append ⟨_, e, rfl⟩ F.entry_list_append (F.args_list_append_2 _ _) (PySem.list_append l its.toArray n u (by rw [TU]; lia)) ⟨e, ?_⟩
 refine ⟨.non, _, I.lset (its' := its ++ [u]) hH e (by simp) (r.append (.cons ru .nil)) ?_, rfl, q⟩
 rw [TM, U3]
 lia
inductive PH (x : V) (y : V) (H : Hp) (Q : VK) : Prop
 | mk (l : _) (b : _) (xs : _) (zs : _) (h1 : x = .ref l) (h2 : y = .ref b) (h3 : H l = some (.lst xs)) (h4 : H b = some (.lst zs)) (h5 : xs.length + zs.length ≤ sizeLine) (h6 : ∀ p, H p = none → Q (.ref p) (upd H p (.lst (xs ++ zs)))) : PH x y H Q
theorem ER : OpR X (binaryOp .Add) PH := by
 intro pins s σ H x y v u Q I rx ry h
 obtain ⟨l, b, xs, zs, rfl, rfl, hH, hB, hz, q⟩ := h
 cases rx
 cases ry
 obtain ⟨z, its, n, r, hl, e⟩ := I.lstM hH
 obtain ⟨z2, its2, n2, r2, hl2, e2⟩ := I.lstM hB
 refine PySem.P.add_list e e2 ?_ (by rw [TU, TU]; lia)
 have ea : its.toArray ++ its2.toArray = (its ++ its2).toArray := by simp
 rw [ea]
 exact ⟨.ref _, _, I.lnew (t' := s.toks) (r.append r2) (by rw [TM]; lia), rfl, q _ I.fresh⟩
end
section
variable {prog : Program} {w : World} {A : Around} {E : Value → Shared → Prop} {s : Shared}
set_option maxRecDepth 100000 in
end
section
variable {X : Cx}
end
end L2
namespace Att
open PySem PySem.W PySem.Calls PyProof.Rows
theorem ints_of_wellAll {P : Params} {h : Heap} : ∀ (ns : List Int) (vs : List Value), WellAll P h vs (ns.map WData.int) → IntsAre vs ns := by
 intro ns
 induction ns with
 | nil =>
   intro vs w
   rw [List.map_nil] at w
   cases w
   exact .nil
 | cons n ns ih =>
   intro vs w
   rw [Te] at w
   cases w with
   | cons a b =>
     cases a
     exact .cons _ _ (ih _ b)
theorem script_of {l : OpenLaw} {n : Nat} (hn : l.most = some n) {P : Params} {h : Heap} {args : List WData} {vals : List Value}
 (hpre : l.row.toRowW.claim.pre args = true) (hwl : WellAll P h vals args) :
 ∃ a vs ns, vals = [Value.ref a] ∧ args = [WData.list (ns.map WData.int)] ∧ h.get? a = some { cls := .type "list", data := .seq vs.toArray } ∧ IntsAre vs ns ∧ ns.length ≤ n := by
 have hsh : WShape.hasAll [] args [.list .int] = true := (pre_splitW hpre).1
 have hc : l.pre.holds [] { args := args } = true := (pre_splitW hpre).2
 obtain ⟨d, r, rfl, h1, h2⟩ := hasAllW_cons hsh
 obtain rfl := hasAllW_nil h2
 obtain ⟨xs, rfl, h3⟩ := hasW_list h1
 obtain ⟨ns, rfl⟩ := items_int h3
 have hlen : ns.length ≤ n := by
  unfold OpenLaw.pre at hc
  have h4 : (WTm.not (.lt (.lit (.int (n : Int))) (.len (.arg 0)))).holds [] { args := [.list (ns.map .int)] } = true := by
   have h4 := (holds_andW hc).1
   rw [hn] at h4
   exact h4
  have h5 := condW_of h4 (w_not (w_lt w_lit (w_len_list (w_arg rfl))))
  rw [Th] at h5
  refine Nat.le_of_not_lt fun q => ?_
  have q' : (n : Int) < ((ns.length : Nat) : Int) := by lia
  first
   | (rw [decide_eq_true q'] at h5; exact absurd h5 (by decide))
   | (simp at h5; lia)
 cases hwl with
 | cons w1 w2 =>
   cases w2
   cases w1 with
   | list ho hall => exact ⟨_, _, ns, rfl, rfl, ho, ints_of_wellAll ns _ hall, hlen⟩
theorem post_true (l : OpenLaw) (args : List WData) : l.row.toRowW.claim.post args (.bool true) args = true :=
 postW_of (r := l.row.toRowW) (X := (true == true))
  (show WShape.has [] (.bool true) .bool = true by first | rfl | decide | simp [WShape.has, WShape.arms, WShape.armsAll])
  (show (WTm.eq .res (.lit (.bool true))).value [] { args := args, res := some (.bool true), after := args } = some (.bool (true == true)) from w_eq_bool (w_res rfl) w_lit) rfl
theorem attach_call {l : OpenLaw} {n : Nat} {q : Program} {loose : List Str} {XP : (Str → Option Value) → Heap → Prop} {YP : World → Heap → Prop} {d : DefRec}
 (hn : l.most = some n) (hdf : d.params.defaults = [])
 (call : ∀ (w : World) (s₀ s₁ : Shared) (mg mb : Str → Option Value) (fa : Addr) (o : Obj) (pm cd doc : Value) (a : Addr) (vs : List Value) (ns : List Int),
  Ground q loose [] XP w s₀ mg mb s₁.heap → YP w s₁.heap →
  s₁.heap.get? fa = some o → o.data = .func (docDef d.name d.params d.body d.scope pm cd doc) → s₁.heap.CodeRec cd d.name → mg d.name = some (.ref fa) →
  s₁.heap.get? a = some { cls := .type "list", data := .seq vs.toArray } → IntsAre vs ns → ns.length ≤ n → s₁.gens = #[] →
  codeAny (model l.prog w) callerA (.call (.ref fa) ⟨[.ref a], []⟩) (fun r s' => r = .ok (.ret (.bool true)) ∧ OldK s₁.heap s'.heap ∧ s'.os = s₁.os ∧ AllBare s'.gens) s₁) :
 WalkO q loose XP YP l.row.toRowW d [] (fun f vs => PySem.call f vs) := by
 intro w s₀ s₁ mg mb G Y fa o pm cd doc dV kV ho hd hcd hD hmg hg args vals as hpre hlay hrd hwl hlo
 obtain rfl : dV = .none := Dflts.none hD hdf
 obtain rfl : kV = .none := Dflts.noKw hD
 obtain ⟨a, vs, ns, rfl, rfl, hobj, hints, hlen⟩ := script_of hn hpre hwl
 refine enter_call (codeAny_mono (call w s₀ s₁ mg mb fa o pm cd doc a vs ns G Y ho (fd_plain hd) hcd hmg hobj hints hlen hg) fun r s' hq => ?_)
 obtain ⟨rfl, h2, h3, h4⟩ := hq
 exact ⟨.inl ⟨.bool true, .bool true, [], rfl, fun _ => rfl, .bool true, post_true l _, fun _ => ⟨List.Pairwise.nil, fun _ hm => (nomatch hm)⟩⟩, h2, h3, h4⟩
section
variable {prog : Program} {w : World} {A : Around} {E : Value → Shared → Prop} {s : Shared} {K : Frag}
end
end Att
namespace L2
open PySem PySem.Spec PyProof.Rows
theorem Le {vs : List Value} {ns : List Int} (h : IntsAre vs ns) : AQ (ns.map V.int) vs := by
 induction h with
 | nil => exact .nil
 | cons n t h ih => exact .cons ⟨t, rfl⟩ ih
def Pa (H : Hp) : Prop := ∀ b, H b = none ∨ ∃ o xs, H b = some (.frz o (.lst xs))
theorem MM {P : Program} {w : World} {K : SE} {mg mb : Str → Option Value} {CX : CXT} {k : Nat} {fa a : Addr} {fd : FuncData} {x : Str} {sp : Sp} {s₁ : Shared} {vs : List Value} {ns : List Int}
 (KX : K.In s₁.heap) (hns : s₁.heap.Ns mainGlobals mg) (hb : s₁.heap.Ns builtinsNs mb) (hbb : ∀ x : Str, x ≠ "__name__" → mb x = bootBuiltins x) (hlim : s₁.heap.NoLimit) (hsee : s₁.heap.NoSeer) (hg : s₁.gens = #[])
 (ha : s₁.heap.get? a = some { cls := .type "list", data := .seq vs.toArray }) (hi : IntsAre vs ns) (hl : ns.length ≤ sizeLine) (hr : BC k callerA)
 (F : ∀ base : Heap, K.In base → base.Ns mainGlobals mg → Ay P w K mg base CX k fa fd [x] sp) (hbind : ∀ (s : Shared) (u : Value), BindsTo s fd ⟨[u], []⟩ [(x, u)])
 (hsp : ∀ H : Hp, Pa H → SqL K H a (ns.map V.int) → sp [.ref a] H (fun v _ => v = .bl true) fun _ _ _ => False)
 (hCX : ∀ H e s', CX [] H s₁ (fun _ _ _ => False) e s' → False) :
 codeAny (model P w) callerA (.call (.ref fa) ⟨[.ref a], []⟩) (fun r s' => r = .ok (.ret (.bool true)) ∧ OldK s₁.heap s'.heap ∧ s'.os = s₁.os ∧ AllBare s'.gens) s₁ := by
 have rv := Le hi
 have lenV := hi.length
 -- from an abstract heap in which nothing but the script may be tracked
 have core : ∀ H : Hp, Pa H → SqL K H a (ns.map V.int) → HOk P w H s₁.heap → (∀ b, H b ≠ none → b = a) → (H a ≠ none → K.lookup a = none) →
  codeAny (model P w) callerA (.call (.ref fa) ⟨[.ref a], []⟩) (fun r s' => r = .ok (.ret (.bool true)) ∧ OldK s₁.heap s'.heap ∧ s'.os = s₁.os ∧ AllBare s'.gens) s₁ := by
  intro H hO hS hok hA hK
  have base_of : ∀ {b : Addr} {o : Obj}, s₁.heap.get? b = some o → H b = none → (Hb s₁.heap H).get? b = some o := fun e n => MP e n
  have noA : ∀ {b : Addr} {o : Obj} {es : Array DictEntry} {ep : Nat}, s₁.heap.get? b = some o → o.data = .dict es ep → H b = none := fun {b o es ep} e d => by
   cases q : H b with
   | none => rfl
   | some u =>
     have e' : b = a := hA b (by rw [q]; simp)
     subst e'
     rw [ha] at e; cases e
     have d' : Data.seq vs.toArray _ = Data.dict es ep := d
     cases d'
  have nsK : ∀ {b : Addr} {m : Str → Option Value}, s₁.heap.Ns b m → (Hb s₁.heap H).Ns b m := fun {b m} ⟨o, es, ep, e, d, r⟩ => ⟨o, es, ep, base_of e (noA e d), d, r⟩
  have hKb : K.In (Hb s₁.heap H) := fun b o e => base_of (KX b o e) (by
   cases q : H b with
   | none => rfl
   | some u =>
     have e' : b = a := hA b (by rw [q]; simp)
     subst e'
     rw [hK (by rw [q]; simp)] at e; cases e)
  have seerK : (Hb s₁.heap H).NoSeer := ⟨let ⟨mc, x, y⟩ := hsee.statics; ⟨mc, nsK x, y⟩, let ⟨mm, x, y⟩ := hsee.mods; ⟨mm, nsK x, y⟩, let ⟨mi, x, y⟩ := hsee.imp; ⟨mi, nsK x, y⟩, by
   obtain ⟨mg', bm, ob, x, y, z, u, v⟩ := hsee.main
   refine ⟨mg', bm, ob, nsK x, y, base_of z ?_, u, v⟩
   cases q : H bm with
   | none => rfl
   | some o =>
     have e' : bm = a := hA bm (by rw [q]; simp)
     subst e'
     rw [ha] at z
     cases z
     have u' : Value.type "list" = Value.type "module" := u
     exact absurd u' (by decide)⟩
  have hM : Mod K mg (Hb s₁.heap H) := ⟨hKb, nsK hns, ⟨mb, nsK hb, hbb⟩, let ⟨mc, h1, h2⟩ := hlim; ⟨mc, nsK h1, h2⟩, seerK⟩
  have e0 : IQ P w K mg (Hb s₁.heap H) callerA [] s₁ H := ⟨rfl, hM, fun b o e => Nx e, Nat.le_of_eq (LG _ _), trivial, fun b hb => absurd (show b ∈ ([] : List Addr) from hb) (by simp), hok, .of_eq hg⟩
  refine codeAny_mono ((F _ hKb (nsK hns)).run callerA [] s₁ H ⟨[.ref a], []⟩ [.ref a] [.ref a] _ _ hr e0 (hbind s₁ (.ref a)) (.cons rfl .nil) (hsp H hO hS)) fun r s' h => ?_
  cases r with
  | error e => exact (hCX H e s' h).elim
  | ok fl =>
    cases fl with
    | next => exact False.elim h
    | brk => exact False.elim h
    | cont => exact False.elim h
    | ret u =>
      obtain ⟨v, H', os, bare, un, hok', r', q⟩ := h
      have q' : v = .bl true := q
      subst q'
      obtain rfl : u = Value.bool true := r'
      refine ⟨rfl, OldK.of_keep fun b o e => ?_, os, bare⟩
      cases q : H b with
      | none => exact un.keep b o e q (by intro z; exact absurd (show b ∈ ([] : List Addr) from z) (by simp)) (by simp)
      | some u =>
        rcases hO b with z | ⟨ob, xs, z⟩
        ·rw [q] at z; cases z
        ·have z2 := un.frzs b ob _ z
         obtain ⟨e1, _⟩ := hok b _ z
         obtain ⟨e2, _⟩ := hok' b _ z2
         rw [e] at e1; cases e1
         exact e2
 cases hk : K.lookup a with
 | some o =>
   -- the script is one of the module's own objects
   have e := KX a o hk
   rw [ha] at e
   cases e
   refine core (fun _ => none) (fun _ => .inl rfl) (.inr ⟨_, vs.toArray, _, hk, rfl, rfl, rfl, by rw [TU, lenV]; exact hl, by simpa using rv⟩) (fun b u z => by have z' : (none : Option HO) = some u := z; cases z') (fun b z => absurd rfl z) fun z => absurd rfl z
 | none =>
   refine core (fun b => if b = a then some (.frz { cls := .type "list", data := .seq vs.toArray } (.lst (ns.map V.int))) else none) (fun b => ?_) (.inl (.inr ⟨{ cls := .type "list", data := .seq vs.toArray }, if_pos rfl⟩)) (fun b u z => ?_) (fun b z => ?_) fun _ => hk
   ·by_cases hb : b = a
    ·exact .inr ⟨_, _, if_pos hb⟩
    ·exact .inl (if_neg hb)
   ·by_cases hb : b = a
    ·have z' := (if_pos hb).symm.trans z
     cases z'
     subst hb
     exact ⟨ha, by rw [Th]; exact hl, vs, _, rv, ha⟩
    ·have z' := (if_neg hb).symm.trans z
     cases z'
   ·by_cases hb : b = a
    ·exact hb
    ·exact absurd (if_neg hb) z
end L2
namespace L2
open PySem PySem.Spec PyProof.Rows
theorem N9 {l : U4} {n k : Nat} {q : Program} {loose : List Str} {XP : (Str → Option Value) → Heap → Prop} {YP : World → Heap → Prop} {d : DefRec} {K : Params → SE} {CX : World → CXT} {sp : World → Sp} {x : Str}
 (hI : importsNone q = true) (hn : l.most = some n) (hn2 : n ≤ sizeLine) (hdf : d.params.defaults = []) (hr : BC k callerA)
 (hY : ∀ (w : World) (h : Heap), YP w h → (K w.params).In h)
 (F : ∀ (w : World) (mg : Str → Option Value) (fa : Addr) (h : Heap), (K w.params).In h → h.Ns mainGlobals mg → mg d.name = some (.ref fa) →
  ∃ fd : FuncData, (∀ (s : Shared) (u : Value), BindsTo s fd ⟨[u], []⟩ [(x, u)]) ∧
    ∀ base : Heap, (K w.params).In base → base.Ns mainGlobals mg → Ay l.prog w (K w.params) mg base (CX w) k fa fd [x] (sp w))
 (hsp : ∀ (w : World) (H : Hp) (a : Addr) (ns : List Int), ns.length ≤ n → Pa H → SqL (K w.params) H a (ns.map V.int) → sp w [.ref a] H (fun v _ => v = .bl true) fun _ _ _ => False)
 (hCX : ∀ (w : World) (H : Hp) (s : Shared) (e : Value) (s' : Shared), CX w [] H s (fun _ _ _ => False) e s' → False) :
 PySem.W.WalkO q loose XP YP l.row.toRowW d [] (fun f vs => PySem.call f vs) := by
 refine Att.attach_call hn hdf fun w s₀ s₁ mg mb fa o pm cd doc a vs ns G Y ho hd hcd hmg hobj hints hlen hg => ?_
 have KX := hY w _ Y
 obtain ⟨fd, hb, hF⟩ := F w mg fa _ KX G.T.g hmg
 exact MM KX G.T.g G.T.b G.T.builtins G.T.nolimit (G.T.seer hI) hg hobj hints (SG hlen hn2) hr hF hb (fun H hO hS => hsp w H a ns hlen hO hS) fun H e s' => hCX w H s₁ e s'
end L2
namespace L2
open PySem PySem.Spec PyProof.Rows
def BL (s : Stmt) (j : Nat) : Stmt := match s with
 | .ClassDef _ _ _ body _ _ _ _ _ _ _ => body.getD j (.Pass ⟨0, 0, 0, 0⟩)
 | _ => .Pass ⟨0, 0, 0, 0⟩
def Am (s : Stmt) : Arguments := match s with
 | .FunctionDef _ a _ _ _ _ _ _ _ _ => a
 | _ => { posonlyargs := [], args := [], vararg := none, kwonlyargs := [], kw_defaults := [], kwarg := none, defaults := [] }
def Al (s : Stmt) : List Stmt := match s with
 | .FunctionDef _ _ b _ _ _ _ _ _ _ => b
 | _ => []
def Ad (s : Stmt) : Scope := match s with
 | .FunctionDef _ _ _ _ _ _ sc _ _ _ => sc
 | _ => { kind := .function, names := [], isGenerator := false, isCoroutine := false }
abbrev CX0 : CXT := fun _ _ _ _ _ _ => False
abbrev E0 : XK := fun _ _ _ => False
theorem J8 {X : Cx} : Cz CX0 X E0 := fun _ _ _ _ _ _ _ h => h.elim
structure Fun (K : SE) (x qual : Str) (st : Stmt) (f : Addr) (fd : FuncData) : Prop where
 ex : ∃ (oc : Value) (od : Option Addr) (kV doc pm : Value) (an : Option Addr) (cdv ct : Value) (osl : Array (Option Value)),
  fd = TQ x qual (Am st) (Al st) (Ad st) .none kV doc pm an cdv ct ∧ K.lookup f = some ⟨oc, od, .func fd, osl⟩ ∧ TR K cdv qual = true
 kp : Tg K (.ref f) = true
section
variable {P : Program} {w : World} {K : SE} {mg : Str → Option Value} {base : Heap}
theorem Fun.ok {x qual : Str} {st : Stmt} {f : Addr} {fd : FuncData} {N ps : List Str} {k : Nat} {sp : Sp} (F : Fun K x qual st f fd) (S : Ap N ps (Ad st)) (len : ∀ vs H Q E, sp vs H Q E → vs.length = ps.length)
 (hbody : ∀ (cdv : Value) (A : Around) (outer : List Env) (s : Shared) (H : Hp) (vs : List V) (Q : VK) (E : XK), BC k (A.deeper (envOfC qual (Ad st) s.heap.objs.size f cdv)) → sp vs H Q E →
  ∃ t, PSs (Dj CX0 P w K mg base N qual (Ad st) f cdv A outer s H E).nox (Al st) t ∧ t { nx := fun _ H' => Q .non H', rt := Q } (Dh N vs) H) : Ay P w K mg base CX0 (k + 1) f fd ps sp := by
 obtain ⟨oc, od, kV, doc, pm, an, cdv, ct, osl, rfl, lk, hcd⟩ := F.ex
 refine O3 lk hcd S len fun A outer s H vs Q E hr hsp => ?_
 obtain ⟨t, h, q⟩ := hbody cdv A outer s H vs Q E hr hsp
 exact ⟨t, h.nox, q⟩
theorem Fun.binds {x qual : Str} {st : Stmt} {f : Addr} {fd : FuncData} {ps : List Str} (F : Fun K x qual st f fd)
 (h : ∀ (kV doc pm : Value) (an : Option Addr) (cdv ct : Value) (us : List Value), us.length = ps.length → bindArgs (TQ x qual (Am st) (Al st) (Ad st) .none kV doc pm an cdv ct) ⟨us, []⟩ = pure (ps.zip us)) : BP K fd ps [] := by
 obtain ⟨oc, od, kV, doc, pm, an, cdv, ct, osl, rfl, lk, hcd⟩ := F.ex
 exact .all (h kV doc pm an cdv ct)
theorem AG {x qual : Str} {st : Stmt} {f : Addr} {oc : Value} {od an : Option Addr} {osl : Array (Option Value)} {kV doc pm cdv ct : Value} (l : K.lookup f = some ⟨oc, od, .func (TQ x qual (Am st) (Al st) (Ad st) .none kV doc pm an cdv ct), osl⟩)
 (c : TR K cdv qual = true) (k : Tg K (.ref f) = true) : Fun K x qual st f (TQ x qual (Am st) (Al st) (Ad st) .none kV doc pm an cdv ct) := ⟨⟨oc, od, kV, doc, pm, an, cdv, ct, osl, rfl, l, c⟩, k⟩
end
theorem AF {n : Nat} (h : n ≤ 1000) : n < sizeLine := U5 h (by decide)
section
variable {X : Cx}
theorem pv (i : Nat) {x : Str} {pos : Pos} (hN : X.N[i]? = some x := by rfl) (hv : Vis X.env.scope x := by first | exact Or.inl rfl | exact Or.inr (Or.inl rfl) | exact Or.inr (Or.inr rfl)) (hd : (x == ("__debug__" : Str)) = false := by decide)
 (hcd : (x == ("__classdict__" : Str)) = false := by decide) : PE X (.Name x pos) (HL i) := Mu hN hv hd hcd
end
theorem Bs {A B : Prop} (h : B) : if false = true then A else B := by
 rw [if_neg Bool.false_ne_true]
 exact h
theorem CA {A B : Prop} (h : A) : if true = true then A else B := by
 rw [if_pos rfl]
 exact h
theorem Iy {c A B : Prop} [Decidable c] (h1 : c → A) (h2 : ¬ c → B) : if c then A else B := by
 by_cases h : c
 ·rw [if_pos h]
  exact h1 h
 ·rw [if_neg h]
  exact h2 h
def Ah (H H' : Hp) : Prop := ∀ b o, H b = some o → H' b = some o
theorem Ah.refl (H : Hp) : Ah H H := fun _ _ h => h
theorem Ah.trans {H H1 H2 : Hp} (a : Ah H H1) (b : Ah H1 H2) : Ah H H2 := fun c o h => b c o (a c o h)
theorem Ah.free {H H' : Hp} (e : Ah H H') {l : Addr} (h : H' l = Option.none) : H l = Option.none := by
 cases q : H l with
 | none => rfl
 | some o =>
   rw [e l o q] at h
   cases h
theorem Ah.seq {K : SE} {H H' : Hp} {a : Addr} {xs : List V} (e : Ah H H') (h : SqL K H a xs) : SqL K H' a xs := by
 rcases h with (h | ⟨o, h⟩) | h
 ·exact .inl (.inl (e _ _ h))
 ·exact .inl (.inr ⟨o, e _ _ h⟩)
 ·exact .inr h
end L2
namespace L2
open PySem PySem.Spec PyProof.Rows
section
variable {κ : Type} [DecidableEq κ]
def CL (kvs : List (κ × V)) (k : κ) : Option V := (kvs.find? fun kv => decide (kv.1 = k)).map (·.2)
theorem LW {p : κ × V} {r : List (κ × V)} {k : κ} (e : p.1 = k) : CL (p :: r) k = some p.2 := by simp [CL, U6, e]
theorem LX {p : κ × V} {r : List (κ × V)} {k : κ} (e : ¬ p.1 = k) : CL (p :: r) k = CL r k := by simp [CL, U6, e]
theorem DS.isSome_eq {o : Option V} {u : Option Value} (r : DS o u) : o.isSome = u.isSome := by
 cases o with
 | none => cases u with
   | none => rfl
   | some _ => exact (show False from r).elim
 | some _ => cases u with
   | none => exact (show False from r).elim
   | some _ => rfl
theorem DS.getD {o : Option V} {u : Option Value} {d : V} {d' : Value} (r : DS o u) (rd : AS d d') : AS (o.getD d) (u.getD d') := by
 cases o with
 | none => cases u with
   | none => exact rd
   | some _ => exact (show False from r).elim
 | some _ => cases u with
   | none => exact (show False from r).elim
   | some _ => exact r
theorem KV.val {kvs : List (κ × V)} {vs : List (κ × Value)} (r : KV kvs vs) (k : κ) : DS (CL kvs k) (valueAt vs k) := by
 unfold KV at r
 induction r with
 | nil => exact True.intro
 | @cons p q ps qs h t ih =>
   obtain ⟨h1, h2⟩ := h
   by_cases e : p.1 = k
   ·have e' : q.1 = k := h1.symm.trans e
    have b : valueAt (q :: qs) k = some q.2 := by simp [valueAt, U6, e']
    rw [LW e, b]; exact h2
   ·have e' : ¬ q.1 = k := fun z => e (h1.trans z)
    have b : valueAt (q :: qs) k = valueAt qs k := by simp [valueAt, U6, e']
    rw [LX e, b]; exact ih
end
theorem Jr {P : Program} {w : World} {k : Key} {u : Value} (r : AS (kV k) u) : (BK P w).is k u = true := by
 cases k with
 | inl i => obtain ⟨t, e⟩ := (show ∃ t, u = Value.int i t from r); subst e; exact Jo P w i t
 | inr x => obtain ⟨t, e⟩ := (show ∃ t, u = Value.str x t from r); subst e; exact Jn P w x t
theorem HA {P : Program} {w : World} : ∀ {ks : List Key} {us : List Value}, AQ (ks.map kV) us → ItemsAre (BK P w) ks us
 | [], _, r => by rw [List.map_nil] at r; cases r; exact .nil
 | k :: ks, _, r => by
   rw [Te] at r
   cases r with
   | cons h t => exact .cons (Jr h) (HA t)
section
variable {P : Program} {w : World} {H : Hp} {h : Heap} {a : Addr}
end
section
variable {X : Cx} {pins : List (Addr × Obj)} {σ : St} {H : Hp} {s : Shared} {a : Addr} {y v : V} {u r : Value} {o : Option V} {A : Around} {E : Value → Shared → Prop}
end
section
variable {X : Cx} {pins : List (Addr × Obj)} {σ : St} {H : Hp} {s : Shared} {a : Addr} {kvs : List (Key × V)} {k : Key} {u : Value} {A : Around} {E : Value → Shared → Prop}
end
def Qb (i : Expr) : Prop := ∀ ov iv, subscripted i false ov iv = operate [ov, iv] (getItem ov iv)
theorem Nh {prog : Program} {w : World} {A : Around} {E : Value → Shared → Prop} {s : Shared} {env : Env} {value slice : Expr} {pos : Pos} {T id : String} {Q : Value → Shared → Prop}
 (hl : typeLookup (.type T) "__getitem__" = pure (some (.builtin id))) (hs : Qb slice)
 (h : wpAny (model prog w) A (eval value env) (fun o s₁ => wpAny (model prog w) A (eval slice env) (fun i s₂ => s₂.TypeIs o T ∧ wpAny (model prog w) A (getItem o i) Q E s₂) E s₁) E s) :
 wpAny (model prog w) A (eval (.Subscript value slice pos) env) Q E s := by
 refine Subscript_ (wpAny_mono h (fun o s₁ h₁ => wpAny_mono h₁ (fun i s₂ h₂ => ?_) fun _ _ x => x) fun _ _ x => x)
 obtain ⟨hT, h₂⟩ := h₂
 unfold subscriptTail
 refine wpAny_bind ?_
 rw [getitemInPython_of_ne hT.not_modules]
 refine wpAny_bind (wpAny_specialOf hT hl ?_)
 have fin : wpAny (model prog w) A (subscripted slice false o i) (fun r s₃ => wpAny (model prog w) A (letTemporaryGo value o r >>= fun _ => pure r) Q E s₃) E s₂ := by
  rw [hs o i]
  exact wpAny_operating (wpAny_mono h₂ (fun r s₃ h₃ => wpAny_bind (wpAny_letTemporaryGo (wpAny_pure h₃))) fun _ _ x => x)
 first
  | exact wpAny_pure (wpAny_bind fin)
  | exact wpAny_bind (wpAny_pure (wpAny_bind fin))
  | exact wpAny_bind fin
section
variable {X : Cx} {o i e value : Expr} {pos pos' tpos : Pos} {td ty tv : TE}
end
section
variable {X : Cx} {pos : Pos}
end
structure M1 (X : Cx) (o : Expr) (m : Str) (apos : Pos) (e : Expr) (cpos : Pos) : Prop where
 base : attributeBase o m X.env (eval o X.env) = eval o X.env
 few : ((backTo cpos (starEach [e] X.env)).all (fun x => !x.1) && (backToKw cpos (keywordEach [] X.env)).all (fun x => x.1.isSome)
  && decide (([e] : List Expr).length + ([] : List Keyword).length + (if ([] : List Keyword).isEmpty then 0 else 1) < 30)) = true
 line : (apos.endLine == cpos.line) = true
 trees : backTo cpos (starEach [e] X.env) = [(false, eval e X.env)]
structure M2 (X : Cx) (o : Expr) (m : Str) (apos : Pos) (e f : Expr) (cpos : Pos) : Prop where
 base : attributeBase o m X.env (eval o X.env) = eval o X.env
 few : ((backTo cpos (starEach [e, f] X.env)).all (fun x => !x.1) && (backToKw cpos (keywordEach [] X.env)).all (fun x => x.1.isSome)
  && decide (([e, f] : List Expr).length + ([] : List Keyword).length + (if ([] : List Keyword).isEmpty then 0 else 1) < 30)) = true
 line : (apos.endLine == cpos.line) = true
 trees : backTo cpos (starEach [e, f] X.env) = [(false, eval e X.env), (false, eval f X.env)]
section
variable {X : Cx} {pins : List (Addr × Obj)} {σ : St} {H : Hp} {s : Shared} {a : Addr} {y d : V} {u r : Value} {o : Option V} {A : Around} {E : Value → Shared → Prop}
end
section
variable {X : Cx} {o e f : Expr} {apos cpos : Pos} {td ty tx : TE}
end
section
variable {X : Cx} {pins : List (Addr × Obj)} {σ : St} {H : Hp} {s : Shared} {a : Addr} {kvs : List (Key × V)} {A : Around} {E : Value → Shared → Prop}
end
section
variable {X : Cx} {pins : List (Addr × Obj)} {σ : St} {H : Hp} {s : Shared} {a : Addr} {y : V} {u : Value} {A : Around} {E : Value → Shared → Prop}
end
end L2
namespace Nm
def msr (a b : Int) : Int := if b < 0 then -(U7 a b : Int) else (U7 a b : Int)
theorem gcd_pos {a b : Int} (hb : b ≠ 0) : 0 < U7 a b := Nat.pos_of_ne_zero fun h => hb (Int.gcd_eq_zero_iff.mp h).2
theorem msr_ne {a b : Int} (hb : b ≠ 0) : msr a b ≠ 0 := by
 have := gcd_pos (a := a) hb
 unfold msr; split <;> lia
theorem fdiv_neg_dvd {a g : Int} (h : g ∣ a) : a.fdiv (-g) = -(a / g) := by
 obtain ⟨k, rfl⟩ := h
 by_cases hg : g = 0
 ·subst hg; simp
 ·rw [Int.mul_ediv_cancel_left _ hg, show g * k = -g * -k by rw [Int.neg_mul_neg], Int.mul_fdiv_cancel_left _ (by lia)]
theorem fdiv_dvd {a g : Int} (h : g ∣ a) : a.fdiv g = a / g := by
 obtain ⟨k, rfl⟩ := h
 by_cases hg : g = 0
 ·subst hg; simp
 ·rw [Int.mul_ediv_cancel_left _ hg, Int.mul_fdiv_cancel_left _ hg]
theorem top_msr {a b : Int} (hb : b ≠ 0) : a.fdiv (msr a b) = (U8 a b).num := by
 rw [Rat.num_divInt, Int.gcd_comm b a]
 have d : (U7 a b : Int) ∣ a := Int.gcd_dvd_left ..
 unfold msr
 split
 ·rename_i h
  rw [fdiv_neg_dvd d, Int.sign_eq_neg_one_of_neg h, Int.neg_mul, Int.one_mul, Int.neg_ediv_of_dvd d]
 ·rw [fdiv_dvd d, Int.sign_eq_one_of_pos (by lia), Int.one_mul]
theorem bottom_msr {a b : Int} (hb : b ≠ 0) : b.fdiv (msr a b) = (U8 a b).den := by
 rw [Rat.den_divInt, if_neg hb, Int.gcd_comm b a]
 have d : (U7 a b : Int) ∣ b := Int.gcd_dvd_right ..
 rw [Int.natCast_ediv]
 unfold msr
 split
 ·rename_i h
  rw [fdiv_neg_dvd d, ← Int.neg_ediv_of_dvd d, Int.ofNat_natAbs_of_nonpos (by lia)]
 ·rw [fdiv_dvd d, Int.natAbs_of_nonneg (by lia)]
theorem gcd_turn (x y : Int) : U7 y (x % y) = U7 x y := by
 have e : x % y + y * (x / y) = x := Int.emod_add_mul_ediv x y
 have h : U7 (x % y + y * (x / y)) y = U7 (x % y) y := Int.gcd_add_mul_left_left ..
 rw [e] at h
 rw [h, Int.gcd_comm]
theorem abs_if (i : Int) : (if i < 0 then -i else i) = (i.natAbs : Int) := by split <;> lia
theorem num_mul (q : Rat) : ((q.num : Int) : Rat) = q * ((q.den : Int) : Rat) := by
 have hd : ((q.den : Nat) : Int) ≠ 0 := by have := q.den_pos; lia
 have h1 : q = (q.num : Rat) / ((q.den : Int) : Rat) := by
  have := Rat.num_divInt_den q
  rw [Rat.divInt_eq_div] at this
  exact this.symm
 have h0 : (((q.den : Int)) : Rat) ≠ 0 := fun z => hd (by exact_mod_cast z)
 conv => rhs; lhs; rw [h1]
 rw [Rat.div_mul_cancel h0]
theorem den_ne (q : Rat) : ((q.den : Nat) : Int) ≠ 0 := by have := q.den_pos; lia
theorem cast_ne {a : Int} (h : a ≠ 0) : (a : Rat) ≠ 0 := fun z => h (by exact_mod_cast z)
theorem div_eq {t b : Int} {q : Rat} (hb : b ≠ 0) (h : (t : Rat) = q * (b : Rat)) : U8 t b = q := by
 rw [Rat.divInt_eq_div, h, Rat.mul_div_cancel (cast_ne hb)]
theorem plus_eq (p q : Rat) : U8 (p.num * q.den + q.num * p.den) (p.den * q.den) = p + q :=
 div_eq (Int.mul_ne_zero (den_ne p) (den_ne q)) (by rw [Rat.intCast_add, Rat.intCast_mul, Rat.intCast_mul, Rat.intCast_mul, num_mul p, num_mul q]; grind)
end Nm
namespace Cv
def ev : List Rat → Rat → Rat
 | [], _ => 0
 | q :: r, x => q + x * ev r x
end Cv
namespace L2
open PySem PySem.Spec PyProof.Rows
theorem E8 {env : Env} : ∀ (names : List (Str × NameKind)) (acc : List (Str × Addr)), (∀ x ∈ names, x.2 = .free → ∃ c, env.cells.lookup x.1 = some c) →
 ∃ cl : List (Str × Addr), (forIn (m := Sem) names acc fun x r => do
  if x.2 == .free then pure (ForInStep.yield ((x.1, ← cellOf env x.1) :: r)) else pure (ForInStep.yield r)) = pure cl ∧
  (∀ p ∈ cl, p ∈ acc ∨ env.cells.lookup p.1 = some p.2) ∧ (∀ p ∈ acc, p ∈ cl) ∧ ∀ x ∈ names, x.2 = .free → ∃ c, (x.1, c) ∈ cl
 | [], acc, _ => ⟨acc, rfl, fun _ h => .inl h, fun _ h => h, fun _ h => nomatch h⟩
 | x :: r, acc, h => by
   by_cases hk : x.2 = .free
   ·obtain ⟨c, hc⟩ := h x SJ hk
    obtain ⟨cl, e, h1, h2, h3⟩ := E8 r ((x.1, c) :: acc) fun y hy => h y (SK _ hy)
    refine ⟨cl, ?_, fun p hp => ?_, fun p hp => h2 p (SK _ hp), fun y hy hf => ?_⟩
    ·rw [U9]
     have z : (x.2 == NameKind.free) = true := by rw [hk]; rfl
     have cell : cellOf env x.1 = pure c := by unfold cellOf; rw [hc]
     simp only [z, if_true, cell]
     exact e
    ·rcases h1 p hp with q | q
     ·rcases SM.mp q with rfl | q
      ·exact .inr hc
      ·exact .inl q
     ·exact .inr q
    ·rcases SM.mp hy with rfl | hy
     ·exact ⟨c, h2 _ SJ⟩
     ·exact h3 y hy hf
   ·obtain ⟨cl, e, h1, h2, h3⟩ := E8 r acc fun y hy => h y (SK _ hy)
    refine ⟨cl, ?_, h1, h2, fun y hy hf => ?_⟩
    ·rw [U9]
     have z : (x.2 == NameKind.free) = false := by
      cases e : x.2 <;> first | rfl | exact absurd e hk
     simp only [z, Bool.false_eq_true, if_false]
     exact e
    ·rcases SM.mp hy with rfl | hy
     ·exact absurd hf hk
     ·exact h3 y hy hf
theorem DX {x : Str} {c : Addr} : ∀ {cl : List (Str × Addr)}, (x, c) ∈ cl → ∃ c', cl.lookup x = some c'
 | [], h => nomatch h
 | (y, d) :: r, h => by
   by_cases e : x = y
   ·subst e; exact ⟨d, by simp⟩
   ·rcases SM.mp h with q | q
    ·cases q; exact absurd rfl e
    ·obtain ⟨c', q'⟩ := DX q
     refine ⟨c', ?_⟩
     have : (x == y) = false := by simpa using e
     rw [Ua, this]
     exact q'
theorem CI {scope : Scope} {env : Env} (h : ∀ x ∈ scope.names, x.2 = .free → ∃ c, env.cells.lookup x.1 = some c) :
 ∃ cl : List (Str × Addr), closureFor scope env = pure cl ∧ (∀ x c, cl.lookup x = some c → env.cells.lookup x = some c) ∧ ∀ x ∈ scope.names, x.2 = .free → ∃ c, cl.lookup x.1 = some c := by
 obtain ⟨cl, e, h1, _, h3⟩ := E8 scope.names [] h
 refine ⟨cl, ?_, fun x c q => ?_, fun x hx hf => ?_⟩
 ·unfold closureFor
  simp only [bind_pure]
  exact e
 ·rcases h1 _ (PySem.mem_of_lookup q) with z | z
  ·exact nomatch z
  ·exact z
 ·obtain ⟨c, hc⟩ := h3 x hx hf
  exact DX hc
theorem Cm {env : Env} : ∀ {names : List (Str × NameKind)} {x : Str}, names.lookup x = some .free →
 (names.map fun (n, k) => if (k == NameKind.free && env.scope.kind == .function && env.kindOf n == some .cell) then (n, NameKind.cell) else (n, k)).lookup x = some .cell ∨
 (names.map fun (n, k) => if (k == NameKind.free && env.scope.kind == .function && env.kindOf n == some .cell) then (n, NameKind.cell) else (n, k)).lookup x = some .free
 | [], _, h => by simp at h
 | (n, k) :: r, x, h => by
   have ih := @Cm env r x
   show Td x ((if (k == NameKind.free && env.scope.kind == .function && env.kindOf n == some .cell) = true then (n, NameKind.cell) else (n, k)) :: _) = _ ∨ Td x ((if (k == NameKind.free && env.scope.kind == .function && env.kindOf n == some .cell) = true then (n, NameKind.cell) else (n, k)) :: _) = _
   cases hx : x == n with
   | true =>
     simp only [Ua, hx] at h
     cases h
     by_cases hc : (NameKind.free == NameKind.free && env.scope.kind == .function && env.kindOf n == some .cell) = true
     ·rw [if_pos hc]; simp [Ua, hx]
     ·rw [if_neg hc]; simp [Ua, hx]
   | false =>
     simp only [Ua, hx] at h
     by_cases hc : (k == NameKind.free && env.scope.kind == .function && env.kindOf n == some .cell) = true
     ·rw [if_pos hc]; simp only [Ua, hx]; exact ih h
     ·rw [if_neg hc]; simp only [Ua, hx]; exact ih h
theorem Ej {env : Env} {x : Str} : ∀ {names : List (Str × NameKind)}, (∀ y ∈ names, y.2 ≠ .cell) →
 ((names.map fun (n, k) => if (k == NameKind.free && env.scope.kind == .function && env.kindOf n == some .cell) then (n, NameKind.cell) else (n, k)).lookup x = some .cell ∨
  (names.map fun (n, k) => if (k == NameKind.free && env.scope.kind == .function && env.kindOf n == some .cell) then (n, NameKind.cell) else (n, k)).lookup x = some .free) → (x, NameKind.free) ∈ names
 | [], _, h => by simp at h
 | (n, k) :: r, hc, h => by
   have ih := @Ej env x r fun y hy => hc y (SK _ hy)
   have hk : k ≠ .cell := hc (n, k) SJ
   change Td x ((if (k == NameKind.free && env.scope.kind == .function && env.kindOf n == some .cell) = true then (n, NameKind.cell) else (n, k)) :: _) = _ ∨ Td x ((if (k == NameKind.free && env.scope.kind == .function && env.kindOf n == some .cell) = true then (n, NameKind.cell) else (n, k)) :: _) = _ at h
   cases hx : x == n with
   | true =>
     have e : x = n := by simpa using hx
     subst e
     by_cases hq : (k == NameKind.free && env.scope.kind == .function && env.kindOf x == some .cell) = true
     ·have : k = .free := by
       cases k <;> first | rfl | (simp at hq)
      subst this; exact SJ
     ·rw [if_neg hq] at h
      simp only [Ua, hx] at h
      rcases h with h | h
      ·cases h; exact absurd rfl hk
      ·cases h; exact SJ
   | false =>
     refine SK _ (ih ?_)
     by_cases hq : (k == NameKind.free && env.scope.kind == .function && env.kindOf n == some .cell) = true
     ·rw [if_pos hq] at h; simpa only [Ua, hx] using h
     ·rw [if_neg hq] at h; simpa only [Ua, hx] using h
def AR (X : Cx) (N : List Str) (scope : Scope) (cl : List (Str × Addr)) (C : Addr) (s : Shared) (H : Hp) (fp : List Addr) : Cx :=
 { prog := X.prog, w := X.w, K := X.K, mg := X.mg, base := X.base, A := X.A, N := N, s₀ := s, H₀ := H, env := compEnvC scope cl C X.env, outer := X.stack, stack := X.stack, ex := fp,
   fn := fun _ => false, calm := X.calm, pn := [], xe := fun _ _ => False }
def cS (nt : Nat) (js : List Nat) (σ : St) : St := Tv nt none ++ js.map fun i => σ.getD i none
abbrev Cs (ys : List Value) : Obj := { cls := .type "list", data := .seq ys.toArray ys.length }
theorem Ez {prog : Program} {w : World} {A : Around} {R : Result → Shared → Prop} {s : Shared} {elt target iter : Expr} {ifs : List Expr} {scope : Scope} {pos : Pos} {it acc : Value} {env : Env} (I : Nat → Shared → Prop)
 (turn : ∀ n s, I n s → wpAny (model prog w) A (pyNext it) (fun r s₁ => match r with
  | none => R (.ok .next) s₁
  | some v => wpAny (model prog w) A (letOwnedTupleGo target it v) (fun _ s₁' => wpAny (model prog w) A (assign target env v) (fun _ s₂ =>
   wpAny (model prog w) A (forIn ifs true fun c r => if r = true then do let ok ← isTrue c env (eval c env); pure (ForInStep.yield ok) else pure (ForInStep.yield r)) (fun ok s₃ =>
    if ok = true then wpAny (model prog w) A (eval elt env) (fun x s₄ =>
     wpAny (model prog w) A (call (.builtin "list.append") [acc, x]) (fun _ s₅ => ∃ m, m < n ∧ I m s₅) (fun _ _ => False) s₄) (fun _ _ => False) s₃
    else ∃ m, m < n ∧ I m s₃) (fun _ _ => False) s₂) (fun _ _ => False) s₁') (fun _ _ => False) s₁) (fun _ _ => False) s)
 (n : Nat) (h : I n s) :
 codeAny (model prog w) A (.compLoop (.ListComp elt [⟨target, iter, ifs, 0⟩] scope pos) 0 it acc env) R s := by
 refine codeAny_loop rfl I (fun n s hI => ?_) n h
 show wpAny _ A ((compTurn (.ListComp elt [⟨target, iter, ifs, 0⟩] scope pos) 0 it acc env).onRaise (fun x => do noteFrame x env; theTreesLotGoes x)) _ _ s
 refine wpAny_noted ?_
 rw [compTurn_list]
 refine wpAny_bind (wpAny_standAt (wpAny_bind (wpAny_mono (turn n s hI) (fun r s₁ h₁ => ?_) fun _ _ h' => h'.elim)))
 cases r with
 | none => exact wpAny_pure h₁
 | some v =>
   refine wpAny_bind (wpAny_mono h₁ (fun _ s₁' h₁' => ?_) fun _ _ h' => h'.elim)
   refine wpAny_bind (wpAny_mono h₁' (fun _ s₂ h₂ => wpAny_bind (wpAny_mono h₂ (fun ok s₃ h₃ => ?_) fun _ _ h' => h'.elim)) fun _ _ h' => h'.elim)
   cases ok with
   | false => exact wpAny_pure ⟨rfl, h₃⟩
   | true =>
     exact wpAny_bind (wpAny_bind (wpAny_mono h₃ (fun x s₄ h₄ => wpAny_bind (wpAny_mono h₄ (fun _ s₅ h₅ => wpAny_pure (wpAny_pure ⟨rfl, h₅⟩)) fun _ _ h' => h'.elim)) fun _ _ h' => h'.elim))
def PTs (X : Cx) (ifs : List Expr) (t : TT) : Prop :=
 ∀ (pins : List (Addr × Obj)) (s : Shared) (σ : St) (H : Hp) (Q : Bool → Hp → Prop), Inv X pins σ H s → t σ H Q →
   wpAny (model X.prog X.w) X.A (forIn ifs true fun c r => if r = true then do let ok ← isTrue c X.env (eval c X.env); pure (ForInStep.yield ok) else pure (ForInStep.yield r)) (TP X pins σ Q) X.xe s
def M4 : TT := fun _ H Q => Q true H
theorem Bi {X : Cx} : PTs X [] M4 := fun _ _ _ H _ I h => wpAny_tests_nil ⟨H, I, h⟩
theorem HW {X : Cx} {c : Expr} {t : TT} (h : PT X c t) : PTs X [c] t := fun pins s σ H Q I q => wpAny_tests_one (h pins s σ H Q I q)
structure LcW (J : It) (n nt : Nat) (js : List Nat) (σ : St) (g : TG) (tc : TT) (te : TE) (Fin : List V → Hp → Prop) (W : Nat → List V → Hp → Prop) : Prop where
 go : ∀ i zs H, i < n → W i zs H → J.go i H ∧ zs.length < sizeLine
 step : ∀ i zs H x H', i < n → W i zs H → J.yld i H x H' → g x (cS nt js σ) H' fun σ2 H2 => tc σ2 H2 fun b H3 => if b = true then te σ2 H3 fun y H4 => W (i + 1) (zs ++ [y]) H4 else W (i + 1) zs H3
 stop : ∀ zs H, W n zs H → J.stop n H ∧ zs.length ≤ sizeLine ∧ Fin zs H
@[irreducible] def tLC (wi : TI) (nt : Nat) (js : List Nat) (g : TG) (tc : TT) (te : TE) : TE := fun σ H Q => wi σ H fun J H1 =>
 ∃ (n : Nat) (W : Nat → List V → Hp → Prop), W 0 [] H1 ∧ LcW J n nt js σ g tc te (fun zs H' => ∀ p, H' p = none → Q (.ref p) (upd H' p (.lst zs))) W
theorem BX {wi : TI} {nt : Nat} {js : List Nat} {g : TG} {tc : TT} {te : TE} {σ : St} {H : Hp} {Q : VK}
 (h : wi σ H fun J H1 => ∃ (n : Nat) (W : Nat → List V → Hp → Prop), W 0 [] H1 ∧ LcW J n nt js σ g tc te (fun zs H' => ∀ p, H' p = none → Q (.ref p) (upd H' p (.lst zs))) W) : tLC wi nt js g tc te σ H Q := by
 unfold tLC; exact h
theorem MJ {wi : TI} {nt : Nat} {js : List Nat} {g : TG} {tc : TT} {te : TE} {σ : St} {H : Hp} {Q : VK} (h : tLC wi nt js g tc te σ H Q) :
 wi σ H fun J H1 => ∃ (n : Nat) (W : Nat → List V → Hp → Prop), W 0 [] H1 ∧ LcW J n nt js σ g tc te (fun zs H' => ∀ p, H' p = none → Q (.ref p) (upd H' p (.lst zs))) W := by
 unfold tLC at h; exact h
structure AX (X : Cx) (N : List Str) (nt : Nat) (js : List Nat) (scope : Scope) : Prop where
 kind : scope.kind = .function
 nocell : ∀ y ∈ scope.names, y.2 ≠ .cell
 names : ∀ y ∈ scope.names, y.2 = .local → scope.names.lookup y.1 = some .local
 free : ∀ y ∈ scope.names, y.2 = .free → X.env.kindOf y.1 = some .cell ∨ X.env.kindOf y.1 = some .free
 len : N.length = nt + js.length
 outer : ∀ j i, js[j]? = some i → ∃ x, N[nt + j]? = some x ∧ X.N[i]? = some x ∧ scope.names.lookup x = some .free
def IE (NX : List Str) (sc : Scope) (N : List Str) (nt : Nat) (js : List Nat) (scope : Scope) : Bool :=
 decide (scope.kind = .function) && scope.names.all (fun y => decide (y.2 ≠ .cell)) && scope.names.all (fun y => decide (y.2 ≠ .local) || decide (scope.names.lookup y.1 = some .local)) &&
 scope.names.all (fun y => decide (y.2 ≠ .free) || (decide (sc.names.lookup y.1 = some .cell) || decide (sc.names.lookup y.1 = some .free))) && decide (N.length = nt + js.length) &&
 (Sx js.length).all fun j => match js[j]?, N[nt + j]? with
  | some i, some x => decide (NX[i]? = some x) && decide (scope.names.lookup x = some .free)
  | _, _ => false
theorem AX.look {X : Cx} {NX N : List Str} {sc scope : Scope} {nt : Nat} {js : List Nat} (hN : X.N = NX) (hs : X.env.scope = sc) (h : IE NX sc N nt js scope = true) : AX X N nt js scope := by
 unfold IE at h
 simp only [Bool.and_eq_true, Ub, Bool.or_eq_true, decide_eq_true_eq] at h
 obtain ⟨⟨⟨⟨⟨h1, h2⟩, h3⟩, h4⟩, h5⟩, h6⟩ := h
 refine ⟨h1, h2, fun y hy hl => (h3 y hy).resolve_left fun z => z hl, fun y hy hf => ?_, h5, fun j i e => ?_⟩
 ·have q := (h4 y hy).resolve_left fun z => z hf
  rw [← hs] at q
  exact q
 ·have hj : j < js.length := (SQ.mp e).1
  have q := h6 j (SD.mpr hj)
  rw [e] at q
  cases en : N[nt + j]? with
  | none => rw [en] at q; cases q
  | some x =>
    rw [en] at q
    simp only [Bool.and_eq_true, decide_eq_true_eq] at q
    exact ⟨x, rfl, by rw [hN]; exact q.1, q.2⟩
section
variable {X : Cx} {N : List Str} {nt : Nat} {js : List Nat} {scope : Scope} {cl : List (Str × Addr)}
theorem HOk.track {P : Program} {w : World} {H : Hp} {h : Heap} {a : Addr} {o : HO} (x : HOk P w H h) (hn : H a = none) (new : Bt P w (upd H a o) h a o) : HOk P w (upd H a o) h := fun b u e => by
 by_cases hb : b = a
 ·subst hb; rw [Ac] at e; cases e; exact new
 ·rw [AA hb] at e
  exact (x b u e).stay (fun c v _ q => q) (fun c q => by rw [AA (AE q hn)]; exact q) fun c xs q => by rw [AA (AE q hn)]; exact q
theorem Jt {pins : List (Addr × Obj)} {σ : St} {H : Hp} {s : Shared} {C D : Addr} {h' : Heap} {tk : Nat} {fp : List Addr} {m : Str → Option Value} (I : Inv X pins σ H s) (ok : AX X N nt js scope)
 (hcl : ∀ x c, cl.lookup x = some c → X.env.cells.lookup x = some c) (hcl2 : ∀ x ∈ scope.names, x.2 = .free → ∃ c, cl.lookup x.1 = some c)
 (hf : ∀ b ∈ fp, DT X pins H b) (ho : ∀ b ∈ fp, ∃ o, s.heap.get? b = some o ∧ ∀ v, o.data ≠ .cell v)
 (hD : s.heap.objs.size ≤ D) (hC : s.heap.objs.size ≤ C) (hDC : D ≠ C) (k : ∀ b o, s.heap.get? b = some o → h'.get? b = some o) (hn : h'.Ns C m) (hd : h'.get? D = some (Cs [])) :
 Inv (AR X N scope cl C s H fp) [(D, Cs [])] (cS nt js σ) H { s with heap := h', toks := tk } := by
 have lt : ∀ b ∈ fp, b < s.heap.objs.size := fun b hb => by obtain ⟨o, e, _⟩ := ho b hb; exact Heap.lt_size e
 have frlt : ∀ b ∈ frs X.stack, b < s.heap.objs.size := fun b hb => by
  obtain ⟨_, o, e, _⟩ := I.stack.mem hb
  exact Heap.lt_size e
 refine ⟨⟨I.ok.mod, ok.kind, I.ok.glob, I.ok.blt, hC, fun x y c h1 h2 => I.ok.inj x y c (hcl x c h1) (hcl y c h2), fun x hx => ?_, fun x c hx => absurd hx Bool.false_ne_true, I.ok.hd, I.ok.frames, .inl rfl, fun b hb => ⟨?_, fun x c e => (hf b hb).2.2.2.2.1 x c (hcl x c e)⟩, I.bs,
  SG I.ok.bsz I.sz, fun b o e hb => ?_, fun b hb hs => ?_, I.stack, I.stkFree⟩, rfl, I.bare, Un.kept k, ⟨m, hn, fun j x v h1 h2 h3 => ?_⟩, fun x c e => ?_, I.hok.fresh hC, fun x c e => I.freeC x c (hcl x c e), fun p hp => ?_, I.hok.kept k, ?_⟩
 ·obtain ⟨c, hc⟩ := hcl2 (x, .free) (Ej ok.nocell hx) rfl
  exact ⟨c, hc⟩
 ·exact Sw (Su (lt b hb) hC)
 ·rcases (hf b hb).2.2.2.1 with z | z
  ·exact I.ok.noex b o e z
  ·exact absurd (Su (Heap.lt_size e) (SG I.ok.bsz z)) (Sv _)
 ·rcases SM.mp (I.stkSub b hs) with z | z
  ·exact (hf b hb).2.1 z
  ·exact (hf b hb).2.2.1 z
 ·change N[j]? = some x at h1
  unfold cS at h2
  by_cases hj : j < nt
  ·rw [TH (by simpa using hj), TF] at h2
   rw [if_pos hj] at h2; cases h2
  ·rw [TC (by simpa using Uc.mp hj), TN, TJ] at h2
   cases ei : js[j - nt]? with
   | none => rw [ei] at h2; cases h2
   | some i =>
     rw [ei] at h2
     obtain ⟨y, e1, e2, e3⟩ := ok.outer _ i ei
     rw [show nt + (j - nt) = j by lia, h1] at e1
     cases e1
     have hv : σ[i]? = some (some v) := by
      simp only [Option.map_some, So.injEq] at h2
      rw [Ud] at h2
      cases eσ : σ[i]? with
      | none => rw [eσ] at h2; cases h2
      | some z => rw [eσ] at h2; simp at h2; rw [h2]
     obtain ⟨m₀, _, hl⟩ := I.loc
     have kf := ok.free (x, .free) (PySem.mem_of_lookup e3) rfl
     obtain ⟨u, r, l⟩ := hl i x v e2 hv (kf.elim (fun z => .inr (.inl z)) fun z => .inr (.inr z))
     refine ⟨u, r, .inr ⟨Cm e3, ?_⟩⟩
     rcases l with ⟨kl, _⟩ | ⟨_, c, ec, ⟨oc, hoc, hod⟩⟩
     ·rcases kf with z | z <;> (rw [z] at kl; cases kl)
     ·obtain ⟨c', hc'⟩ := hcl2 (x, .free) (PySem.mem_of_lookup e3) rfl
      have e' := hcl x c' hc'
      rw [ec] at e'
      cases e'
      exact ⟨c, hc', oc, k _ _ hoc, hod⟩
 ·obtain ⟨v, oc, hoc, hod⟩ := I.cell x c (hcl x c e)
  exact ⟨v, oc, k _ _ hoc, hod⟩
 ·have e : p = (D, Cs []) := by
   have hp' : p ∈ [(D, Cs [])] := hp
   simpa using hp'
  subst e
  refine ⟨hd, I.hok.fresh hD, hDC, fun hb => absurd (Su (frlt D hb) hD) (Sv _), fun v z => by cases z⟩
 ·show (cS nt js σ).length = N.length
  unfold cS
  rw [TM, TN, Th, ok.len]
end
end L2
namespace L2
open PySem PySem.Spec PyProof.Rows
def GC (g : TG) (nt : Nat) : Prop := ∀ x σ H Q, g x σ H Q → g x σ H fun σ2 H2 => (σ2.length = σ.length ∧ σ2.drop nt = σ.drop nt) ∧ Q σ2 H2
theorem AK {i nt : Nat} (h : i < nt) : GC (C6 i) nt := fun x σ H Q q => ⟨⟨U1, by
 apply List.ext_getElem?
 intro k
 rw [Ue, Ue, SS (by lia)]⟩, q⟩
section
variable {X : Cx} {N : List Str} {nt : Nat} {js : List Nat} {scope : Scope} {elt iter tg : Expr} {ifs : List Expr} {pos : Pos} {g : TG} {tc : TT} {te : TE} {wi : TI}
theorem FJ {σ σ2 : St} (hl : σ2.length = (cS nt js σ).length) (hd : σ2.drop nt = (cS nt js σ).drop nt) : ∀ (i : Nat) v, (cS nt js σ)[i]? = some (some v) → σ2[i]? = some (some v) := fun i v e => by
 by_cases hi : i < nt
 ·unfold cS at e
  rw [TH (by simpa using hi), TF, if_pos hi] at e
  cases e
 ·have q : ((cS nt js σ).drop nt)[i - nt]? = some (some v) := by rw [Ue, show nt + (i - nt) = i by lia]; exact e
  rw [← hd, Ue, show nt + (i - nt) = i by lia] at q
  exact q
set_option maxHeartbeats 4000000 in
theorem JB {pins : List (Addr × Obj)} {σ : St} {H : Hp} {s₂ : Shared} {cl : List (Str × Addr)} {J : It} {fp : List Addr} {it : Addr} {tn : Nat → Heap → Prop} {E : Value → Shared → Prop} {Fin : List V → Hp → Prop} {W : Nat → List V → Hp → Prop} {nn : Nat}
 {RR : Value → Addr → Result → Shared → Prop} (hcalm : X.calm = true) (ok : AX X N nt js scope)
 (hcl : ∀ x c, cl.lookup x = some c → X.env.cells.lookup x = some c) (hcl2 : ∀ x ∈ scope.names, x.2 = .free → ∃ c, cl.lookup x.1 = some c)
 (hg : ∀ cl C s H fp, PG (AR X N scope cl C s H fp) tg g) (hk : GC g nt) (hc : ∀ cl C s H fp, PTs (AR X N scope cl C s H fp) ifs tc) (he : ∀ cl C s H fp, PE (AR X N scope cl C s H fp) elt te)
 (I : Inv X pins σ H s₂) (T : JG X.prog X.w X.K tg J fp it tn) (st : tn 0 s₂.heap) (hf : ∀ b ∈ fp, DT X pins H b) (w0 : W 0 [] H) (lw : LcW J nn nt js σ g tc te Fin W)
 (hRR : ∀ D C s' H' zs m, Inv X pins σ (upd H' D (.lst zs)) s' → s'.heap.Ns C m → H' D = none → (upd H' D (.lst zs)) C = none → C ≠ X.env.locals → X.s₀.heap.objs.size ≤ C → (∀ x c, X.env.cells.lookup x = some c → c ≠ C) →
  (∀ p ∈ X.pn ++ pins, p.1 ≠ C) → Fin zs H' → RR (.ref D) C (.ok .next) s') :
 wpAny (model X.prog X.w) X.A (newList []) (fun acc s₃ => wpAny (model X.prog X.w) X.A (newFunctionEnv scope X.env.globals cl [] X.env.qual none .none (some X.env)) (fun cenv s₄ =>
  codeAny (model X.prog X.w) X.A (.compStart (.ListComp elt [⟨tg, iter, ifs, 0⟩] scope pos) 0 (.ref it) acc { cenv with scope := relabel scope X.env }) (RR acc cenv.locals) s₄) E s₃) E s₂ := by
 refine wpAny_newObj_type (wpAny_newFunctionEnv ok.nocell (by intro y hy; simp at hy) (fun h₁ hns₁ hsb₁ => ?_) ok.kind)
 dsimp only at hns₁ hsb₁ ⊢
 generalize hH2 : s₂.heap.push { cls := .type "list", dict := none, data := .seq ([] : List Value).toArray } = H2 at hns₁ hsb₁ ⊢
 have hC : H2.objs.size = s₂.heap.objs.size + 1 := by rw [← hH2, Heap.size_push]
 have hDC : s₂.heap.objs.size ≠ H2.objs.size := by rw [hC]; exact Sw (Ti _)
 have hCle : s₂.heap.objs.size ≤ H2.objs.size := by rw [hC]; exact Ts _
 have below : ∀ b, b < s₂.heap.objs.size → b ≠ H2.objs.size ∧ b ≠ s₂.heap.objs.size := fun b hb => ⟨by rw [hC]; exact Sw (Ug hb), Sw hb⟩
 have old : ∀ b o, s₂.heap.get? b = some o → h₁.get? b = some o := fun b o e => hsb₁.extBut b o (below b (Heap.lt_size e)).1 (Heap.get?_push_of_some _ (hH2 ▸ Heap.get?_push_of_some _ e))
 have hacc : h₁.get? s₂.heap.objs.size = some (Cs []) := hsb₁.extBut _ _ hDC (Heap.get?_push_of_some _ (hH2 ▸ Heap.get?_push_size _ rfl))
 have ho := T.obj 0 _ st
 have lt : ∀ b ∈ fp, b < s₂.heap.objs.size := fun b hb => by obtain ⟨o, e, _⟩ := ho b hb; exact Heap.lt_size e
 have loop : ∀ s₃ : Shared, s₃ = { s₂ with heap := h₁, toks := s₂.toks + ([] : List (Str × Value)).length } →
  codeAny (model X.prog X.w) X.A (.compLoop (.ListComp elt [⟨tg, iter, ifs, 0⟩] scope pos) 0 (.ref it) (.ref s₂.heap.objs.size) (compEnvC scope cl H2.objs.size X.env)) (RR (.ref s₂.heap.objs.size) H2.objs.size) s₃ := by
  rintro s₃ rfl
  have I0 : Inv (AR X N scope cl H2.objs.size s₂ H fp) [(s₂.heap.objs.size, Cs [])] (cS nt js σ) H { s₂ with heap := h₁, toks := s₂.toks + ([] : List (Str × Value)).length } :=
   Jt I ok hcl hcl2 hf ho (SW _) hCle hDC old hns₁ hacc
  have fpy : ∀ {H' : Hp} {ys : List Value}, (∀ b ∈ fp, H' b = none) → ∀ b ∈ fp, DT (AR X N scope cl H2.objs.size s₂ H fp) [(s₂.heap.objs.size, Cs ys)] H' b := fun {H' ys} hn b hb =>
   ⟨hn b hb, (below b (lt b hb)).1, I0.ok.exfs b hb, .inl hb, (I0.ok.exf b hb).2, fun p hp => by
    have hp' : p ∈ [(s₂.heap.objs.size, Cs ys)] := hp
    have e : p = (s₂.heap.objs.size, Cs ys) := by simpa using hp'
    rw [e]; exact Ne.symm (below b (lt b hb)).2⟩
  refine Ez (fun n s' => ∃ i zs ys H', n = nn - i ∧ i ≤ nn ∧ Inv (AR X N scope cl H2.objs.size s₂ H fp) [(s₂.heap.objs.size, Cs ys)] (cS nt js σ) H' s' ∧ AQ zs ys ∧ tn i s'.heap ∧ (∀ b ∈ fp, H' b = none) ∧ W i zs H') ?_ nn
   ⟨0, [], [], H, rfl, T1 _, I0, .nil, T.keep 0 _ _ st (fun b _ o e => old b o e), fun b hb => (hf b hb).1, w0⟩
  rintro n s' ⟨i, zs, ys, H', hn0, hile, I', rv, st', fr', w'⟩
  by_cases hlt : i < nn
  case neg =>
   have hie : i = nn := Nat.le_antisymm hile (Uc.mp hlt)
   rw [hie] at w' st'
   obtain ⟨stop, zl, fin⟩ := lw.stop zs H' w'
   refine thn (T.done (AR X N scope cl H2.objs.size s₂ H fp) rfl rfl rfl hcalm nn _ s' _ H' (fun _ _ => False) I' (fpy fr') st' stop) fun r s4 ⟨hr, I4⟩ => ?_
   subst hr
   have zD := (I4.pin (s₂.heap.objs.size, Cs ys) (SY _ (Uh.mpr rfl)))
   have u := I4.base
   have u2 : Un (frs X.stack) fp H (upd H' s₂.heap.objs.size (.lst zs)) s₂.heap s4.heap :=
    ⟨u.keep, u.slot, fun b o q n hx => by rw [AA (Sw (Heap.lt_size q))]; exact u.free b o q n hx, u.there, fun b xs q => by rw [AA (AE (u.tups b xs q) zD.2.1)]; exact u.tups b xs q,
     fun b o xs q => by rw [AA (AE (u.frzs b o xs q) zD.2.1)]; exact u.frzs b o xs q, fun b ps q => by
      obtain ⟨more, e⟩ := u.tbls b ps q
      exact ⟨more, by rw [AA (AE e zD.2.1)]; exact e⟩⟩
   have hok2 : HOk X.prog X.w (upd H' s₂.heap.objs.size (.lst zs)) s4.heap := HOk.track I4.hok zD.2.1 ⟨zl, ys, _, rv, zD.1⟩
   have I5 : Inv X pins σ (upd H' s₂.heap.objs.size (.lst zs)) s4 := I.call' I4.os u2 hok2 I4.bare fun b hb => ⟨(hf b hb).2.2.2.1, (hf b hb).2.1, (hf b hb).2.2.2.2.1, (hf b hb).2.2.2.2.2⟩
   obtain ⟨m, hn, _⟩ := I4.loc
   refine hRR _ _ s4 H' zs m I5 hn zD.2.1 ?_ ?_ (SG I.sz hCle) ?_ ?_ fin
   ·rw [AA (Ne.symm hDC)]; exact I4.free
   ·exact SV (Su I.lt hCle)
   ·intro x c e z
    obtain ⟨v, q⟩ := I.cell x c e
    exact absurd (Su q.lt (by rw [z]; exact hCle)) (Sv _)
   ·intro p hp z
    exact absurd (Su (Heap.lt_size (I.pin p hp).1) (by rw [z]; exact hCle)) (Sv _)
  case pos =>
   obtain ⟨go, zl⟩ := lw.go i zs H' hlt w'
   have step := lw.step i zs H'
   refine thn (T.item (AR X N scope cl H2.objs.size s₂ H fp) rfl rfl rfl hcalm i _ s' _ H' (fun _ _ => False) I' (fpy fr') st' go) fun r s4 ⟨u, hr, h4⟩ => ?_
   subst hr
   refine thn h4 fun _ s5 ⟨x, H5, I5, r5, y5, st5, fr5⟩ => ?_
   have I5' := I5.pinned (fpy fr5) (T.obj _ _ st5)
   refine thn (hg cl _ s₂ H fp _ s5 _ H5 x u _ I5' r5 (hk _ _ _ _ (step x H5 hlt w' y5))) fun _ s6 ⟨σ6, H6, I6, ⟨hl6, hd6⟩, q6⟩ => ?_
   refine thn (hc cl _ s₂ H fp _ s6 σ6 H6 _ I6 q6) fun okb s7 ⟨H7, I7, q7⟩ => ?_
   have frs' : ∀ {H8 : Hp} {σ8 : St} {s8 : Shared}, Inv (AR X N scope cl H2.objs.size s₂ H fp) ([(s₂.heap.objs.size, Cs ys)] ++ EN fp s5.heap) σ8 H8 s8 → tn (i + 1) s8.heap ∧ ∀ b ∈ fp, H8 b = none := fun {H8 σ8 s8} I8 =>
    ⟨T.keep _ _ _ st5 fun b hb o e => (I8.pin (b, o) (SY _ (SY _ (Ca hb e)))).1, fun b hb => by
     obtain ⟨o, e, d⟩ := T.obj _ _ st5 b hb
     exact (I8.pin (b, o) (SY _ (SY _ (Ca hb e)))).2.1⟩
   cases okb with
   | false =>
     rw [if_neg Bool.false_ne_true] at q7 ⊢
     obtain ⟨a1, a2⟩ := frs' I7
     exact ⟨nn - (i + 1), by rw [hn0]; exact Ui hlt (Ti i), i + 1, zs, ys, H7, rfl, hlt, I7.unpinned.weak (by rw [hl6]) (FJ hl6 hd6), rv, a1, a2, q7⟩
   | true =>
     rw [if_pos rfl] at q7 ⊢
     refine thn (he cl _ s₂ H fp _ s7 σ6 H7 _ I7 q7) fun v s8 ⟨y, H8, I8, r8, q8⟩ => ?_
     have zD := (I8.pin (s₂.heap.objs.size, Cs ys) (SY _ (SO _ (Uh.mpr rfl))))
     have ylen : ys.length < sizeLine := by rw [← rv.length]; exact zl
     obtain ⟨a1, a2⟩ := frs' I8
     refine append_at (hsz := by rw [TU]; exact SH ylen) zD.1 fun h9 hs9 hD9 => ?_
     have I8u : Inv (AR X N scope cl H2.objs.size s₂ H fp) [] (cS nt js σ) H8 s8 := (I8.pins_of (pins' := []) fun p hp => nomatch hp).weak (by rw [hl6]) (FJ hl6 hd6)
     have I9 : Inv (AR X N scope cl H2.objs.size s₂ H fp) [] (cS nt js σ) H8 { s8 with heap := h9 } := I8u.turned (t' := s8.toks) (it := s₂.heap.objs.size) (fun b o hb e => hs9.extBut b o hb e) zD.2.1 hDC (.inr (SW _))
      (fun x c e z => by
       obtain ⟨v, q⟩ := I.cell x c (hcl x c e)
       exact absurd (Su q.lt (by rw [z]; exact SW _)) (Sv _)) (fun p hp => nomatch hp)
     refine ⟨nn - (i + 1), by rw [hn0]; exact Ui hlt (Ti i), i + 1, zs ++ [y], ys ++ [v], H8, rfl, hlt, I9.pins_of (fun p hp => ?_), rv.snoc r8, T.keep _ _ _ a1 fun b hb o e => hs9.extBut b o (below b (lt b hb)).2 e, a2, q8⟩
     have e : p = (s₂.heap.objs.size, Cs (ys ++ [v])) := by simpa using hp
     subst e
     refine ⟨?_, zD.2.1, hDC, zD.2.2.2.1, fun v z => by cases z⟩
     rw [hD9]
     show some ({ cls := .type "list", data := .seq (ys.toArray.push v) (ys.length + 1) } : Obj) = some { cls := .type "list", data := .seq (ys ++ [v]).toArray (ys ++ [v]).length }
     rw [TM, U3, List.push_toArray]
 exact codeAny_compStart_list (loop _ rfl) (T.self _ 0 _ _ _ (T.keep 0 _ _ st (fun b _ o e => old b o e)) (loop _ rfl))
theorem Ck (hcalm : X.calm = true) (ok : AX X N nt js scope) (hi : PI X tg iter wi) (hg : ∀ cl C s H fp, PG (AR X N scope cl C s H fp) tg g) (hk : GC g nt) (hc : ∀ cl C s H fp, PTs (AR X N scope cl C s H fp) ifs tc)
 (he : ∀ cl C s H fp, PE (AR X N scope cl C s H fp) elt te) (hs : ∀ x, foldedSetIterable iter X.env x = pure x := by intro _; rfl) : PE X (.ListComp elt [⟨tg, iter, ifs, 0⟩] scope pos) (tLC wi nt js g tc te) := by
 intro pins s σ H Q I h
 obtain ⟨cl, hclos, hcl, hcl2⟩ := CI (scope := scope) (env := X.env) fun x hx hf => I.ok.has x.1 (ok.free x hx hf)
 rw [eval_ListComp]
 refine wpAny_comprehension_free (use := none) rfl hs hclos ok.kind ok.names ?_
 refine thn (hi pins s σ H _ I (MJ h)) fun v s1 h1 => thn h1 fun itv s2 h2 => ?_
 obtain ⟨it, fp, tn, J, H2, e, I2, T, st2, f2, nn, W, w0, lw⟩ := h2
 subst e
 refine JB (RR := fun acc C => compPost (model X.prog X.w) X.A X.xe none (EP X pins σ Q) acc C) hcalm ok hcl hcl2 hg hk hc he I2 T st2 f2 w0 lw ?_
 intro D C s' H' zs m I3 hn hDn hCn hCL hC0 hCc hCp fin
 exact ⟨m, hn, fun h'' hs'' => ⟨.ref D, _, I3.turned (t' := s'.toks) (it := C) (fun b o hb e => hs''.extBut b o hb e) hCn hCL (.inr hC0) hCc hCp, rfl, fin D hDn⟩⟩
theorem KC {i : Nat} {y : Str} {py spos : Pos} (hcalm : X.calm = true) (hN : X.N.Nodup) (hi' : X.N[i]? = some y) (hy : X.env.kindOf y = some .local) (ok : AX X N nt js scope) (hi : PI X tg iter wi) (hg : ∀ cl C s H fp, PG (AR X N scope cl C s H fp) tg g) (hk : GC g nt)
 (hc : ∀ cl C s H fp, PTs (AR X N scope cl C s H fp) ifs tc) (he : ∀ cl C s H fp, PE (AR X N scope cl C s H fp) elt te)
 (hsw : swapsWith (.ListComp elt [⟨tg, iter, ifs, 0⟩] scope pos) (some (.Name y py)) spos.line X.env = pure true) (hs : ∀ x, foldedSetIterable iter X.env x = pure x := by intro _; rfl) :
 PS X (.Assign [.Name y py] (.ListComp elt [⟨tg, iter, ifs, 0⟩] scope pos) spos) (Lj (tLC wi nt js g tc te) (C6 i)) := by
 intro pins s σ H D₀ I h
 obtain ⟨cl, hclos, hcl, hcl2⟩ := CI (scope := scope) (env := X.env) fun x hx hf => I.ok.has x.1 (ok.free x hx hf)
 rw [exec_Assign_Name_used _ _ _ _ hsw]
 refine wpAny_bind (wpAny_standAt (wpAny_bind ?_))
 show wpAny _ X.A (do let _ ← comprehension (.ListComp elt [⟨tg, iter, ifs, 0⟩] scope pos) scope X.env _ (newList []) false (eval iter X.env) (some (assign (.Name y py) X.env))) _ _ s
 refine wpAny_bind (wpAny_mono (wpAny_comprehension_free (use := some (assign (.Name y py) X.env)) (Q := fun _ s' => SP X pins D₀ .next s') rfl hs hclos ok.kind ok.names
  (thn (hi pins s σ H _ I (MJ (show tLC wi nt js g tc te σ H fun x H1 => C6 i x σ H1 D₀.nx from h))) fun v s1 h1 => thn h1 fun itv s2 h2 => ?_)) (fun _ s' hq => wpAny_pure (wpAny_pure hq)) fun _ _ e => e)
 obtain ⟨it, fp, tn, J, H2, e, I2, T, st2, f2, nn, W, w0, lw⟩ := h2
 subst e
 refine JB (RR := fun acc C => compPost (model X.prog X.w) X.A X.xe (some (assign (.Name y py) X.env)) (fun _ s' => SP X pins D₀ .next s') acc C) hcalm ok hcl hcl2 hg hk hc he I2 T st2 f2 w0 lw ?_
 intro D C s' H' zs m I3 hn hDn hCn hCL hC0 hCc hCp fin
 show wpAny _ X.A (assign (.Name y py) X.env (.ref D)) _ _ _
 refine wpAny_assign_Name (EG (v := .ref D) I3 hN hi' (.inl hy) rfl (fun s3 I4 hsb => ?_) (.inr hy))
 obtain ⟨a, hsb, ha⟩ := hsb
 have haC : C ≠ a := by
  rcases ha with z | z
  ·rw [z]; exact hCL
  ·exact Ne.symm (hCc y a z)
 refine ⟨m, hn.sameBut hsb haC, fun h'' hs'' => ?_⟩
 exact ⟨_, _, I4.turned (t' := s3.toks) (it := C) (fun b o hb e => hs''.extBut b o hb e) hCn hCL (.inr hC0) hCc hCp, fin D hDn⟩
end
end L2
namespace L2
open PySem PySem.Spec PyProof.Rows
def Bd (n : Nat) (x : Int) : Prop := x.natAbs < 2 ^ n
theorem Bd.bits {n : Nat} {x : Int} (h : Bd n x) : Builtin.Int.intBits x ≤ n := PySem.intBits_le_iff.mpr h
def N7 (i j : Int) : Prop := ∃ m n, Bd m i ∧ Bd n j ∧ m + n ≤ 134217728
theorem N7.ok {i j : Int} (h : N7 i j) : IntMulOk i j := by
 obtain ⟨m, n, h1, h2, h3⟩ := h
 exact PySem.IntMulOk.of_le h1.bits h2.bits h3
section
variable {X : Cx}
theorem Eo {k : Nat} (hr : BC k X.A) (hT : X.prog.given.tree = none) (hk : 32 ≤ k := by decide)
 (hst : ∃ (env : Env) (l : List Env), X.stack = env :: l ∧ env.scope.isGenerator = false ∧ env.scope.isCoroutine = false ∧ env.builtins = builtinsNs ∧ env.globals = mainGlobals := by exact ⟨_, _, rfl, rfl, rfl, rfl, rfl⟩) :
 OpR X (binaryOp .FloorDiv) (rI (fun _ j => j ≠ 0) fun i j => .int (i.fdiv j)) := by
 intro pins s σ H x y v u Q I rx ry h
 obtain ⟨i, j, rfl, rfl, hc, q⟩ := h
 obtain ⟨t, rfl⟩ := rx
 obtain ⟨t', rfl⟩ := ry
 obtain ⟨env, l, e1, e2, e3, e4, e5⟩ := hst
 have hd : X.A.depth + Builtin.pylongFrames < recursionLimit := by
  have := hr.dp
  have e : Builtin.pylongFrames ≤ 101 := by decide
  lia
 refine floordiv_int hc ⟨.int (i.fdiv j), H, I.tok _, ⟨_, rfl⟩, q⟩ (.inr (PySem.PylongRoom.of I.nolimit hd (PySem.SeerAt.of (I.ok.mod.seer.keeps I.bk) hT (by rw [I.ok.frames, e1]) e2 e3 e4 e5)))
end
structure Fd (P : Program) (w : World) (K : SE) (mg : Str → Option Value) (base : Heap) (n : Nat) (x : Str) (ps : List Str) (sp : Sp) : Prop where
 ex : ∃ (f : Addr) (fd : FuncData), Ay P w K mg base CX0 n f fd ps sp ∧ BP K fd ps [] ∧ Tg K (.ref f) = true ∧ mg x = some (.ref f)
theorem Az {X : Cx} {n k : Nat} {x : Str} {ps : List Str} {sp : Sp} {e : Expr} {es : List Expr} {t : TA} {p pos : Pos} (F : Fd X.prog X.w X.K X.mg X.base n x ps sp) (hr : BC k X.A) (hg : Gl X x) (ha : PA X (e :: es) t) (hn : n ≤ k := by decide)
 (hdb : (x == ("__debug__" : Str)) = false := by decide) (he : starEach (e :: es) X.env = (false, eval e X.env) :: starEach es X.env := by rfl) (hpl : (backTo pos (starEach es X.env)).any (·.1) = false := by rfl) :
 PE X (.Call (.Name x p) (e :: es) [] pos) (M9 sp [] E0 t) := by
 obtain ⟨f, fd, F1, F2, F3, F4⟩ := F.ex
 exact KG F1 (hr.mono hn) hg F4 F3 F2 .nil J8 ha hdb he hpl
inductive Rds (K : SE) (H : Hp) : V → PyData → Prop where
 | non : Rds K H .non .none
 | bl (b : Bool) : Rds K H (.bl b) (.bool b)
 | int (i : Int) : Rds K H (.int i) (.int i)
 | str (x : Str) : Rds K H (.str x) (.str x)
 | lst {a : Addr} {xs : List V} {ds : List PyData} : SqL K H a xs → xs.length = ds.length → (∀ (i : Nat) x d, xs[i]? = some x → ds[i]? = some d → Rds K H x d) → Rds K H (.ref a) (.list ds)
 | tup {a : Addr} {xs : List V} {ds : List PyData} : SqT K H a xs → xs.length = ds.length → (∀ (i : Nat) x d, xs[i]? = some x → ds[i]? = some d → Rds K H x d) → Rds K H (.ref a) (.tuple ds)
theorem Dw {h : Heap} : ∀ {us : List Value} {xs : List V} {ds : List PyData}, AQ xs us → xs.length = ds.length → (∀ (i : Nat) x d u, xs[i]? = some x → ds[i]? = some d → AS x u → ∃ as, Reads h u d as) → ∃ as, ReadsAll h us ds as
 | [], _, [], .nil, _, _ => ⟨[], .nil⟩
 | [], _, _ :: _, .nil, hl, _ => by simp at hl
 | _ :: _, _, [], .cons _ _, hl, _ => by simp at hl
 | u :: us, x :: xs, d :: ds, .cons r t, hl, hr => by
   obtain ⟨a1, r1⟩ := hr 0 x d u rfl rfl r
   obtain ⟨a2, r2⟩ := Dw (us := us) (xs := xs) (ds := ds) t (by simpa using hl) fun i x' d' u' e1 e2 q => hr (i + 1) x' d' u' (by simpa using e1) (by simpa using e2) q
   exact ⟨_, .cons r1 r2⟩
theorem CS {X : Cx} {pins : List (Addr × Obj)} {σ : St} {H : Hp} {s : Shared} (I : Inv X pins σ H s) {x : V} {d : PyData} (r : Rds X.K H x d) : ∀ {u : Value}, AS x u → ∃ as, Reads s.heap u d as := by
 induction r with
 | non => intro u ru; cases ru; exact ⟨_, .none⟩
 | bl b => intro u ru; cases ru; exact ⟨_, .bool b⟩
 | int i => intro u ru; obtain ⟨t, rfl⟩ := ru; exact ⟨_, .int i t⟩
 | str z => intro u ru; obtain ⟨t, rfl⟩ := ru; exact ⟨_, .str z t⟩
 | lst q hl _ ih =>
   intro u ru
   cases ru
   obtain ⟨its, rv, ⟨o, n, e, c, _, dd⟩, _⟩ := I.list q
   obtain ⟨as, ra⟩ := Dw rv hl fun i x d u e1 e2 rr => ih i x d e1 e2 rr
   exact ⟨_, .list e c dd (by simpa using ra)⟩
 | tup q hl _ ih =>
   intro u ru
   cases ru
   obtain ⟨its, rv, ⟨o, e, c, n, dd⟩, _⟩ := I.tuple q
   obtain ⟨as, ra⟩ := Dw rv hl fun i x d u e1 e2 rr => ih i x d e1 e2 rr
   exact ⟨_, .tuple e c dd (by simpa using ra)⟩
section
variable {X : Cx}
@[irreducible] def Fs (K : SE) (neg : Bool) : R2 := fun x y H Q => ∃ d e, Rds K H x d ∧ Rds K H y e ∧ SeqAt.shaped d = true ∧ SeqAt.shaped e = true ∧ Q (.bl (if neg then !PyData.eqv d e else PyData.eqv d e)) H
theorem IC {K : SE} {neg : Bool} {x y : V} {H : Hp} {Q : VK} (h : ∃ d e, Rds K H x d ∧ Rds K H y e ∧ SeqAt.shaped d = true ∧ SeqAt.shaped e = true ∧ Q (.bl (if neg then !PyData.eqv d e else PyData.eqv d e)) H) : Fs K neg x y H Q := by
 unfold Fs; exact h
theorem OC (hu : X.A.units + 64 < cLine) : OpR X (compareOp .Eq) (Fs X.K false) := by
 intro pins s σ H x y v u Q I rx ry h
 unfold Fs at h
 obtain ⟨d, e, r1, r2, h1, h2, q⟩ := h
 obtain ⟨as, q1⟩ := CS I r1 rx
 obtain ⟨bs, q2⟩ := CS I r2 ry
 exact SeqAt.compareEq_shaped q1 q2 h1 h2 hu ⟨.bl _, H, I, rfl, q⟩
theorem OB (hu : X.A.units + 64 < cLine) : OpR X (compareOp .NotEq) (Fs X.K true) := by
 intro pins s σ H x y v u Q I rx ry h
 unfold Fs at h
 obtain ⟨d, e, r1, r2, h1, h2, q⟩ := h
 obtain ⟨as, q1⟩ := CS I r1 rx
 obtain ⟨bs, q2⟩ := CS I r2 ry
 exact SeqAt.compareNe_shaped q1 q2 h1 h2 hu ⟨.bl _, H, I, rfl, q⟩
end
end L2
namespace L2
open PySem PySem.Spec PyProof.Rows
theorem Ba : bootBuiltins "len" = some (.builtin "len") := by decide +kernel
theorem II : bootBuiltins "abs" = some (.builtin "abs") := by decide +kernel
theorem Av : bootBuiltins "isinstance" = some (.builtin "isinstance") := by decide +kernel
theorem IH : bootBuiltins "all" = some (.builtin "all") := by decide +kernel
theorem P4 : bootBuiltins "sum" = some (.builtin "sum") := by decide +kernel
theorem FK : bootBuiltins "list" = some (.type "list") := by decide +kernel
theorem Bz : bootBuiltins "tuple" = some (.type "tuple") := by decide +kernel
theorem CJ : bootBuiltins "str" = some (.type "str") := by decide +kernel
theorem Fc : bootBuiltins "int" = some (.type "int") := by decide +kernel
theorem NH : bootBuiltins "bool" = some (.type "bool") := by decide +kernel
def Fx (H : Hp) (L : List (Addr × HO)) : Prop := ∀ p ∈ L, H p.1 = some p.2
def Mv (a : Addr) (H H' : Hp) : Prop := ∀ b o, b ≠ a → H b = some o → H' b = some o
theorem Mv.trans {a : Addr} {H H1 H2 : Hp} (x : Mv a H H1) (y : Mv a H1 H2) : Mv a H H2 := fun b o n h => y b o n (x b o n h)
theorem Mv.new {a p : Addr} {H : Hp} {o : HO} (h : H p = none) : Mv a H (upd H p o) := fun b u _ q => by rw [AA (AE q h)]; exact q
theorem Lb {ns : List Int} {k : Int} (h0 : 0 ≤ k) (h : k < (ns.length : Int)) : ∃ v : Int, atI (ns.map V.int) k = some (.int v) := by
 have hk : k.toNat < ns.length := by lia
 have ek : k = ((k.toNat : Nat) : Int) := by lia
 have q : atI (ns.map V.int) ((k.toNat : Nat) : Int) = some (.int ns[k.toNat]) := Ar (by rw [TJ, Uj hk] <;> rfl)
 rw [← ek] at q
 exact ⟨_, q⟩
def nT (q : Rat) : HO := .tup [.int q.num, .int q.den]
def Pen (H : Hp) (a : Addr) : Prop := ∃ c0 c1 c2 : Int, H a = some (.lst [.int c0, .int c1, .int c2])
theorem Pen.same {H : Hp} {a p : Addr} {o : HO} (x : Pen H a) (h : H p = none) : Pen (upd H p o) a := by
 obtain ⟨c0, c1, c2, e⟩ := x
 exact ⟨c0, c1, c2, by rw [AA (AE e h)]; exact e⟩
theorem Pen.put {H : Hp} {a : Addr} {c0 c1 c2 : Int} : Pen (upd H a (.lst [.int c0, .int c1, .int c2])) a := ⟨c0, c1, c2, Ac⟩
def JI (i j : Int) : Prop := (-(2 ^ 64) < i ∧ i < 2 ^ 64) ∨ (-(2 ^ 64) < j ∧ j < 2 ^ 64) ∨ N7 i j
theorem JI.ok {i j : Int} (h : JI i j) : IntMulOk i j := by
 rcases h with ⟨h1, h2⟩ | ⟨h1, h2⟩ | h
 ·exact .of_left (intBits_le_64 h1 h2)
 ·exact .of_right (intBits_le_64 h1 h2)
 ·exact h.ok
theorem Cd {X : Cx} : OpR X (binaryOp .Mult) (rI JI fun i j => .int (i * j)) := opI fun _ _ _ _ _ _ _ hc q => mul_int q hc.ok
def GD (a : Addr) (H H' : Hp) : Prop := ∀ b, b ≠ a → H' b = H b
theorem GD.mv {a : Addr} {H H' : Hp} (x : GD a H H') : Mv a H H' := fun b o n h => by rw [x b n]; exact h
theorem GD.put {a : Addr} {H : Hp} {o : HO} : GD a H (upd H a o) := fun b n => AA n
theorem Pen.ne {H : Hp} {a p : Addr} {o : HO} (x : Pen H a) (h : H p = some o) (hd : ∀ c0 c1 c2 : Int, o ≠ .lst [.int c0, .int c1, .int c2]) : p ≠ a := by
 obtain ⟨c0, c1, c2, e⟩ := x
 exact C5 h e (hd c0 c1 c2)
structure Lg (a : Addr) (H : Hp) (L : List (Addr × HO)) : Prop where
 fx : Fx H L
 ne : ∀ x ∈ L, x.1 ≠ a
 pen : Pen H a
theorem Jm (q : Rat) : ∀ c0 c1 c2 : Int, nT q ≠ .lst [.int c0, .int c1, .int c2] := fun _ _ _ z => by cases z
theorem NJ {xs : List Int} {i : Int} (h0 : 0 ≤ i) (h : i < (xs.length : Int)) : ∃ v : Int, atI (xs.map V.int) i = some (.int v) ∧ v ∈ xs := by
 have hk : i.toNat < xs.length := by lia
 have ek : i = ((i.toNat : Nat) : Int) := by lia
 have q : atI (xs.map V.int) ((i.toNat : Nat) : Int) = some (.int xs[i.toNat]) := Ar (by rw [TJ, Uj hk] <;> rfl)
 rw [← ek] at q
 exact ⟨_, q, Uk hk⟩
inductive EJ (vs : List V) (H : Hp) (Q : VK) (E_3 : XK) : Prop
 | mk (a : Addr) (m : Int) (h1 : vs = [.ref a, .int m]) (h2 : Pen H a) (h3 : 1 ≤ m) (h4 : m < 1073741824) (h5 : ∀ (d : Int) (H' : Hp), 0 ≤ d → d < m → GD a H H' → Pen H' a → Q (.int d) H') : EJ vs H Q E_3
inductive Md (K : SE) (vs : List V) (H : Hp) (Q : VK) (E_3 : XK) : Prop
 | mk (a : Addr) (ns : List Int) (k : Int) (h1 : vs = [.ref a, .int k]) (h2 : SqL K H a (ns.map V.int)) (h3 : ns.length ≤ 63) (h4 : 0 ≤ k) (h5 : k < 2 ^ 62) (h6 : ∀ (p : Addr) (c0 c1 : Int), H p = none → Q (.ref p) (upd H p (.lst [.int c0, .int c1, .int 0]))) : Md K vs H Q E_3
inductive IY (vs : List V) (H : Hp) (Q : VK) (E_3 : XK) : Prop
 | mk (t b : Int) (h1 : vs = [.int t, .int b]) (h2 : b ≠ 0) (h3 : ∀ p, H p = none → Q (.ref p) (upd H p (nT (U8 t b)))) : IY vs H Q E_3
inductive Me (vs : List V) (H : Hp) (Q : VK) (E_3 : XK) : Prop
 | mk (a b : Int) (h1 : vs = [.int a, .int b]) (h2 : Q (.int (U7 a b)) H) : Me vs H Q E_3
inductive IZ (K : SE) (vs : List V) (H : Hp) (Q : VK) (E_3 : XK) : Prop
 | mk (a : Addr) (ns : List Int) (h1 : vs = [.ref a]) (h2 : SqL K H a (ns.map V.int)) (h3 : ns.length ≤ 63) (h4 : ∀ H', Q (.bl true) H') : IZ K vs H Q E_3
def mu (i : Nat) (σ : St) : Nat := match σ[i]? with | some (some (.int y)) => y.toNat | _ => 0
theorem Bd.mono {m n : Nat} {x : Int} (h : Bd m x) (hmn : m ≤ n) : Bd n x := Su h (Nat.pow_le_pow_right (by decide) hmn)
end L2
namespace L2
open PySem PySem.Spec PyProof.Rows
section
variable {X : Cx} {tg : Expr}
end
theorem LP {X : Cx} (hc : X.calm = true) : BO X (.builtin "all") (fun xs H Q => ∃ (a : Addr) (bs : List Bool), xs = [.ref a] ∧ SqL X.K H a (bs.map V.bl) ∧ Q (.bl (bs.all id)) H) := by
 intro pins s σ H xs us Q I r h
 obtain ⟨a, bs, rfl, hq, q⟩ := h
 obtain ⟨u, rfl, rfl⟩ := CK r
 obtain ⟨its, rv, p, hz⟩ := I.list hq
 have hl := rv.length
 rw [Th] at hl
 have hlt : a < s.heap.objs.size := by obtain ⟨_, e, _⟩ := p.isList; exact Heap.lt_size e
 refine call_all_walk (wpAny_pyIter_list p.isList ?_)
 refine ⟨s.heap.objs.size, [s.heap.objs.size, a], [s.heap.objs.size], its.toArray.size, _, _, fun i => (bs[i]?).getD true, rfl, Walks.list (A := X.A.in1) (I.ok.hd hc) _ a (Sw hlt) its.toArray,
  ⟨⟨_, Heap.get?_push_size _ rfl, rfl, rfl⟩, p.isList.push _⟩, fun i v s' Q' E' hP hQ => ?_, fun h' tk hk => ?_⟩
 ·have hP' : its[i]? = some v := by simpa using hP
  have hi : i < bs.length := by rw [hl]; exact (SQ.mp hP').1
  obtain ⟨u', hu', ru⟩ := rv.get (i := i) (x := .bl bs[i]) (by rw [TJ, Uj hi]; rfl)
  rw [hP'] at hu'
  cases hu'
  cases ru
  dsimp only at hQ
  rw [Uj hi, Ul] at hQ
  exact wpAny_truthy_bool hQ
 ·have e : ((Sx its.toArray.size).all fun i => (bs[i]?).getD true) = bs.all id := by
   rw [TU, ← hl, Bool.eq_iff_iff, Ub, Ub]
   constructor
   ·intro z b hb
    obtain ⟨i, hi, rfl⟩ := List.getElem_of_mem hb
    have := z i (SD.mpr hi)
    rw [Uj hi, Ul] at this
    exact this
   ·intro z i hi
    have hi' := SD.mp hi
    rw [Uj hi', Ul]
    exact z _ (Uk hi')
  rw [e]
  exact ⟨.bl _, H, I.kept (fun b o e => hk b o (fun hm => by rw [Uh.mp hm] at e; exact Sv _ (Heap.lt_size e)) (Heap.get?_push_of_some _ e)), rfl, q⟩
end L2
namespace L2
open PySem PySem.Spec PyProof.Rows
theorem SqT.same {K : SE} {H H' : Hp} {a : Addr} {xs : List V} (h : SqT K H a xs) (e : Ah H H') : SqT K H' a xs := by
 rcases h with (h | ⟨o, h⟩) | h
 ·exact .inl (.inl (e _ _ h))
 ·exact .inl (.inr ⟨o, e _ _ h⟩)
 ·exact .inr h
theorem Ah.new {H : Hp} {p : Addr} {o : HO} (h : H p = none) : Ah H (upd H p o) := fun b u q => by rw [AA (AE q h)]; exact q
theorem Ah.mv {H H' : Hp} {a : Addr} (h : Ah H H') : Mv a H H' := fun b o _ q => h b o q
theorem Paired.get {α β : Type} {F : α → β → Prop} : ∀ {l₁ : List α} {l₂ : List β} {i : Nat} {a : α}, Paired F l₁ l₂ → l₁[i]? = some a → ∃ b, l₂[i]? = some b ∧ F a b
 | _, _, _, _, .nil, e => by simp at e
 | _, _, 0, _, .cons h _, e => by simp at e; subst e; exact ⟨_, rfl, h⟩
 | _, _, i + 1, _, .cons _ t, e => by
   obtain ⟨b, h1, h2⟩ := Paired.get (i := i) t (by simpa using e)
   exact ⟨b, by simpa using h1, h2⟩
theorem Paired.get' {α β : Type} {F : α → β → Prop} : ∀ {l₁ : List α} {l₂ : List β} {i : Nat} {b : β}, Paired F l₁ l₂ → l₂[i]? = some b → ∃ a, l₁[i]? = some a ∧ F a b
 | _, _, _, _, .nil, e => by simp at e
 | _, _, 0, _, .cons h _, e => by simp at e; subst e; exact ⟨_, rfl, h⟩
 | _, _, i + 1, _, .cons _ t, e => by
   obtain ⟨b, h1, h2⟩ := Paired.get' (i := i) t (by simpa using e)
   exact ⟨b, by simpa using h1, h2⟩
theorem Paired.take {α β : Type} {F : α → β → Prop} : ∀ {l₁ : List α} {l₂ : List β} (n : Nat), Paired F l₁ l₂ → Paired F (l₁.take n) (l₂.take n)
 | _, _, 0, _ => by simp; exact .nil
 | _, _, _ + 1, .nil => .nil
 | _, _, n + 1, .cons h t => .cons h (Paired.take n t)
theorem Paired.append {α β : Type} {F : α → β → Prop} {l₁ l₁' : List α} {l₂ l₂' : List β} (a : Paired F l₁ l₂) (b : Paired F l₁' l₂') : Paired F (l₁ ++ l₁') (l₂ ++ l₂') := by
 induction a with
 | nil => exact b
 | cons h t ih => exact .cons h ih
def AU (K : SE) (H : Hp) (x : V) (q : Rat) : Prop := ∃ r, x = .ref r ∧ SqT K H r [.int q.num, .int q.den]
abbrev BI (K : SE) (H : Hp) : List V → List Rat → Prop := Paired (AU K H)
theorem AU.of {K : SE} {H : Hp} {r : Addr} {q : Rat} (h : H r = some (nT q)) : AU K H (.ref r) q := ⟨r, rfl, SqT.of h⟩
theorem AU.same {K : SE} {H H' : Hp} {x : V} {q : Rat} (h : AU K H x q) (e : Ah H H') : AU K H' x q := by
 obtain ⟨r, rfl, h⟩ := h
 exact ⟨r, rfl, h.same e⟩
theorem BI.same {K : SE} {H H' : Hp} {xs : List V} {qs : List Rat} (h : BI K H xs qs) (e : Ah H H') : BI K H' xs qs := Paired.mapP h fun _ _ z => z.same e
theorem SqT.mv {K : SE} {H H' : Hp} {a p : Addr} {xs : List V} (h : SqT K H a xs) (pn : Pen H p) (m : Mv p H H') : SqT K H' a xs := by
 obtain ⟨c0, c1, c2, e⟩ := pn
 rcases h with (h | ⟨o, h⟩) | h
 ·exact .inl (.inl (m _ _ (C5 h e (fun z => by cases z)) h))
 ·exact .inl (.inr ⟨o, m _ _ (C5 h e (fun z => by cases z)) h⟩)
 ·exact .inr h
theorem AU.mv {K : SE} {H H' : Hp} {x : V} {q : Rat} {p : Addr} (h : AU K H x q) (pn : Pen H p) (m : Mv p H H') : AU K H' x q := by
 obtain ⟨r, rfl, h⟩ := h
 exact ⟨r, rfl, h.mv pn m⟩
theorem BI.mv {K : SE} {H H' : Hp} {xs : List V} {qs : List Rat} {p : Addr} (h : BI K H xs qs) (pn : Pen H p) (m : Mv p H H') : BI K H' xs qs := Paired.mapP h fun _ _ z => z.mv pn m
theorem SqT.put {K : SE} {H : Hp} {a p : Addr} {xs ys : List V} {o : HO} (h : SqT K H a xs) (hp : H p = some (.lst ys)) : SqT K (upd H p o) a xs := by
 rcases h with (h | ⟨u, h⟩) | h
 ·exact .inl (.inl (by rw [AA (C5 h hp (fun z => by cases z))]; exact h))
 ·exact .inl (.inr ⟨u, by rw [AA (C5 h hp (fun z => by cases z))]; exact h⟩)
 ·exact .inr h
theorem AU.put {K : SE} {H : Hp} {x : V} {q : Rat} {p : Addr} {ys : List V} {o : HO} (h : AU K H x q) (hp : H p = some (.lst ys)) : AU K (upd H p o) x q := by
 obtain ⟨r, rfl, h⟩ := h
 exact ⟨r, rfl, h.put hp⟩
theorem BI.put {K : SE} {H : Hp} {xs : List V} {qs : List Rat} {p : Addr} {ys : List V} {o : HO} (h : BI K H xs qs) (hp : H p = some (.lst ys)) : BI K (upd H p o) xs qs := Paired.mapP h fun _ _ z => z.put hp
def Crv (K : SE) (H : Hp) (r : Addr) (qs : List Rat) : Prop := ∃ xs, SqT K H r xs ∧ BI K H xs qs
theorem Crv.same {K : SE} {H H' : Hp} {r : Addr} {qs : List Rat} (h : Crv K H r qs) (e : Ah H H') : Crv K H' r qs := let ⟨xs, a, b⟩ := h; ⟨xs, a.same e, b.same e⟩
def nD (q : Rat) : PyData := .tuple [.int q.num, .int q.den]
theorem AU.rds {K : SE} {H : Hp} {x : V} {q : Rat} (h : AU K H x q) : Rds K H x (nD q) := by
 obtain ⟨r, rfl, h⟩ := h
 refine .tup h rfl fun i x d e1 e2 => ?_
 match i with
 | 0 => simp at e1 e2; subst e1; subst e2; exact .int _
 | 1 => simp at e1 e2; subst e1; subst e2; exact .int _
 | i + 2 => simp at e1
theorem K7 (p q : Rat) : PyData.eqv (nD p) (nD q) = decide (p = q) := by
 show (p.num == q.num && (((p.den : Int) == (q.den : Int)) && true)) = _
 rw [Bool.and_true, Bool.eq_iff_iff]
 simp only [Bool.and_eq_true, beq_iff_eq, decide_eq_true_eq]
 constructor
 ·rintro ⟨h1, h2⟩
  exact Rat.ext h1 (Int.ofNat.inj h2)
 ·rintro rfl
  exact ⟨rfl, rfl⟩
theorem KN : ∀ ps qs : List Rat, PyData.eqvAll (ps.map nD) (qs.map nD) = decide (ps = qs)
 | [], [] => rfl
 | [], _ :: _ => rfl
 | _ :: _, [] => rfl
 | p :: ps, q :: qs => by
   show (PyData.eqv (nD p) (nD q) && PyData.eqvAll (ps.map nD) (qs.map nD)) = _
   rw [K7, KN ps qs, Bool.eq_iff_iff]
   simp
theorem ET (q : Rat) : SeqAt.shaped (nD q) = true := by rfl
theorem BI.rds {K : SE} {H : Hp} {xs : List V} {qs : List Rat} (h : BI K H xs qs) : ∀ (i : Nat) x d, xs[i]? = some x → (qs.map nD)[i]? = some d → Rds K H x d := fun i x d e1 e2 => by
 obtain ⟨q, hq, hn⟩ := Paired.get h e1
 rw [TJ, hq] at e2
 cases e2
 exact hn.rds
theorem BI.rdsT {K : SE} {H : Hp} {r : Addr} {xs : List V} {qs : List Rat} (h : BI K H xs qs) (s : SqT K H r xs) : Rds K H (.ref r) (.tuple (qs.map nD)) := .tup s (by rw [h.length, Th]) h.rds
theorem BI.rdsL {K : SE} {H : Hp} {r : Addr} {xs : List V} {qs : List Rat} (h : BI K H xs qs) (s : SqL K H r xs) : Rds K H (.ref r) (.list (qs.map nD)) := .lst s (by rw [h.length, Th]) h.rds
theorem KL : ∀ qs : List Rat, PyData.canLayAll0 (qs.map nD) = true
 | [] => rfl
 | q :: r => by
   show (PyData.canLay0 (nD q) && PyData.canLayAll0 (r.map nD)) = true
   rw [KL r]; rfl
theorem Hv : ∀ qs : List Rat, PyData.depthAll (qs.map nD) ≤ 1
 | [] => T1 _
 | q :: r => by
   have ih := Hv r
   show max (PyData.depth (nD q)) (PyData.depthAll (r.map nD)) ≤ 1
   exact Nat.max_le.mpr ⟨SW _, ih⟩
theorem FG (qs : List Rat) : SeqAt.shaped (.list (qs.map nD)) = true := by
 show (PyData.canLayAll0 (qs.map nD) && decide (PyData.depthAll (qs.map nD) + 1 ≤ 64)) = true
 rw [KL, Bool.true_and]
 exact decide_eq_true (by have := Hv qs; lia)
theorem KJ (qs : List Rat) : SeqAt.shaped (.tuple (qs.map nD)) = true := FG qs
theorem eqN {K : SE} {H : Hp} {x y : V} {p q : Rat} {Q : VK} {neg : Bool} (h1 : AU K H x p) (h2 : AU K H y q) (h : Q (.bl (if neg then !decide (p = q) else decide (p = q))) H) : Fs K neg x y H Q :=
 IC ⟨_, _, h1.rds, h2.rds, ET _, ET _, by rw [K7]; exact h⟩
theorem eqT {K : SE} {H : Hp} {a b : Addr} {ps qs : List Rat} {Q : VK} {neg : Bool} (h1 : Crv K H a ps) (h2 : Crv K H b qs) (h : Q (.bl (if neg then !decide (ps = qs) else decide (ps = qs))) H) : Fs K neg (.ref a) (.ref b) H Q := by
 obtain ⟨xs, s1, n1⟩ := h1
 obtain ⟨ys, s2, n2⟩ := h2
 refine IC ⟨_, _, n1.rdsT s1, n2.rdsT s2, KJ _, KJ _, ?_⟩
 have e : PyData.eqv (.tuple (ps.map nD)) (.tuple (qs.map nD)) = decide (ps = qs) := KN ps qs
 rw [e]; exact h
def RB (n : Nat) (q : Rat) : Prop := Bd n q.num ∧ Bd n (q.den : Int)
theorem JI.bd {m n : Nat} {x y : Int} (h1 : Bd m x) (h2 : Bd n y) (h : m + n ≤ 134217728 := by lia) : JI x y := .inr (.inr ⟨m, n, h1, h2, h⟩)
theorem IT : ∀ {us : List Value} {xs : List V}, us.map GA = xs.map some → (∀ u ∈ us, ∀ x, GA u = some x → AS x u) → AQ xs us
 | [], [], _, _ => .nil
 | [], _ :: _, e, _ => by simp at e
 | _ :: _, [], e, _ => by simp at e
 | u :: us, x :: xs, e, h => by
   simp only [Te, Um.injEq] at e
   exact .cons (h u SJ x e.1) (IT e.2 fun v hv => h v (SK _ hv))
theorem N4 {u : Value} {x : V} (h : GA u = some x) : AS x u := by
 cases u <;> first | (cases h; rfl) | (cases h; exact ⟨_, rfl⟩) | cases h
theorem RB.one {n : Nat} (h : 1 ≤ n) : RB n 1 := ⟨(show Bd 1 1 by unfold Bd; decide).mono h, (show Bd 1 1 by unfold Bd; decide).mono h⟩
inductive Mh (K : SE) (g : Rat → Rat → Rat) (vs : List V) (H : Hp) (Q : VK) (E_3 : XK) : Prop
 | mk (x y : V) (p q : Rat) (m n : Nat) (h1 : vs = [x, y]) (h2 : AU K H x p) (h3 : AU K H y q) (h4 : RB m p) (h5 : RB n q) (h6 : m + n ≤ 100000000) (h7 : ∀ r, H r = none → Q (.ref r) (upd H r (nT (g p q)))) : Mh K g vs H Q E_3
end L2
namespace L2
open PySem PySem.Spec PyProof.Rows
def Sq (b : Bool) (K : SE) (H : Hp) (a : Addr) (xs : List V) : Prop := match b with
 | true => SqL K H a xs
 | false => SqT K H a xs
theorem Sq.same {b : Bool} {K : SE} {H H' : Hp} {a : Addr} {xs : List V} (h : Sq b K H a xs) (e : Ah H H') : Sq b K H' a xs := by
 cases b
 ·exact SqT.same h e
 ·exact e.seq h
theorem Lp {X : Cx} {tg l : Expr} {w1 w2 : TI} (h1 : PI X tg l w1) (h2 : PI X tg l w2) : PI X tg l (fun σ H R => w1 σ H R ∨ w2 σ H R) := fun pins s σ H R I h => by
 rcases h with h | h
 ·exact h1 pins s σ H R I h
 ·exact h2 pins s σ H R I h
abbrev PU (K : SE) (tl : TE) : TI := fun σ H R => Jv K tl σ H R ∨ OU K tl σ H R
theorem E7 {K : SE} {b : Bool} {a : Addr} {n : Nat} {js : List Nat} {xs : List V} {te : TE} {σ : St} {H : Hp} {Q : VK} (hσ : σ[n]? = some (some (.ref a))) (Pv : Nat → List V → Hp → Prop) (h0 : Pv 0 [] H)
 (hl : ∀ i zs H, i ≤ xs.length → Pv i zs H → Sq b K H a xs ∧ zs.length = i) (hz : xs.length ≤ sizeLine)
 (hs : ∀ i x zs H, xs[i]? = some x → Pv i zs H → te ((cS 1 js σ).set 0 (some x)) H fun y H4 => Pv (i + 1) (zs ++ [y]) H4) (fin : ∀ zs H', Pv xs.length zs H' → ∀ p, H' p = none → Q (.ref p) (upd H' p (.lst zs))) :
 tLC (PU K (HL n)) 1 js (C6 0) M4 te σ H Q := by
 have q := (hl 0 [] H (T1 _) h0).1
 cases b with
 | true =>
   refine BX (.inl ⟨_, hσ, a, rfl, ⟨xs, q⟩, xs.length, Pv, h0, ⟨?_, ?_, ?_⟩⟩)
   ·intro i zs H' hi p
    have hle := SH hi
    obtain ⟨h1, h2⟩ := hl i zs H' hle p
    exact ⟨⟨xs, xs[i], h1, by simp [hi]⟩, by lia⟩
   ·rintro i zs H' x H1 hi p ⟨rfl, y⟩
    have hle := SH hi
    have hx := y xs (hl i zs _ hle p).1
    exact hs i x zs _ hx p
   ·intro zs H' p
    have hle := SW xs.length
    obtain ⟨h1, h2⟩ := hl _ zs H' hle p
    exact ⟨⟨xs, h1, SW _⟩, by lia, fin zs H' p⟩
 | false =>
   refine BX (.inr ⟨_, hσ, a, rfl, ⟨xs, q⟩, xs.length, Pv, h0, ⟨?_, ?_, ?_⟩⟩)
   ·intro i zs H' hi p
    have hle := SH hi
    obtain ⟨h1, h2⟩ := hl i zs H' hle p
    exact ⟨⟨xs, xs[i], h1, by simp [hi]⟩, by lia⟩
   ·rintro i zs H' x H1 hi p ⟨rfl, y⟩
    have hle := SH hi
    have hx := y xs (hl i zs _ hle p).1
    exact hs i x zs _ hx p
   ·intro zs H' p
    have hle := SW xs.length
    obtain ⟨h1, h2⟩ := hl _ zs H' hle p
    exact ⟨⟨xs, h1, SW _⟩, by lia, fin zs H' p⟩
section
variable {X : Cx} (K : SE)
theorem ixT (e : X.K = K := by rfl) : IxR X (Oi K) := by subst e; exact OR
theorem ixL (e : X.K = K := by rfl) : IxR X (Oj K) := by subst e; exact NA
theorem eqD (hu : X.A.units + 64 < cLine) (e : X.K = K := by rfl) : OpR X (compareOp .Eq) (Fs K false) := by subst e; exact OC hu
theorem neD (hu : X.A.units + 64 < cLine) (e : X.K = K := by rfl) : OpR X (compareOp .NotEq) (Fs K true) := by subst e; exact OB hu
theorem inS (e : X.K = K := by rfl) : OpR X (compareOp .In) (rIn K false) := by subst e; exact Ls
theorem MC (e : X.K = K := by rfl) : OpR X (compareOp .NotIn) (rIn K true) := by subst e; exact Ib
theorem Qu (e : X.K = K := by rfl) : OpR X (binaryOp .Add) (Kw K) := by subst e; exact KI
theorem slL (e : X.K = K := by rfl) : SlR X (Oh K) := by subst e; exact Nj
inductive TyX (K : SE) (H : Hp) : V → Value → Prop where
 | of {x : V} {t : Value} (h : Fe K H x t) : TyX K H x t
 | tup {a : Addr} {xs : List V} (h : SqT K H a xs) : TyX K H (.ref a) (.type "tuple")
 | lst {a : Addr} {xs : List V} (h : SqL K H a xs) : TyX K H (.ref a) (.type "list")
inductive Q4 (xs : List V) (H : Hp) (Q : VK) : Prop
 | mk (x : _) (T : _) (t : _) (b : _) (h1 : xs = [x, .ty T]) (h2 : TyX K H x t) (h3 : Tn K t (.type T) = some b) (h4 : Q (.bl b) H) : Q4 xs H Q
theorem Js (e : X.K = K := by rfl) : BO X (.builtin "isinstance") (Q4 K) := by
 subst e
 intro pins s σ H xs us Q I r h
 obtain ⟨x, T, t, b, rfl, ty, e, q⟩ := h
 obtain ⟨u, w', rfl, rx, rT⟩ := LV r
 cases rT
 cases ty with
 | of ty => exact LF I rx ty e fun tk => ⟨.bl b, H, I.tok _, rfl, q⟩
 | tup hq =>
   cases rx
   obtain ⟨its, rv, ⟨o, e1, c, _⟩, _⟩ := I.tuple hq
   exact To PySem.W.kitx_tuple I.kIn ⟨o, e1, c⟩ e (fun z => nomatch z) fun tk => ⟨.bl b, H, I.tok _, rfl, q⟩
 | lst hq =>
   cases rx
   obtain ⟨its, rv, ⟨o, n, e1, c, _⟩, _⟩ := I.list hq
   exact To Tp I.kIn ⟨o, e1, c⟩ e (fun z => nomatch z) fun tk => ⟨.bl b, H, I.tok _, rfl, q⟩
inductive Q3 (xs : List V) (H : Hp) (Q : VK) : Prop
 | mk (p : _) (ys : _) (h1 : xs = [.ref p]) (h2 : (SqL K H p ys ∨ SqT K H p ys)) (h3 : Q (.int ys.length) H) : Q3 xs H Q
theorem Ct (e : X.K = K := by rfl) : BO X (.builtin "len") (Q3 K) := by subst e; exact fun pins s σ H xs us Q I r ⟨p, ys, h1, h2, h3⟩ => IG pins s σ H xs us Q I r ⟨p, ys, h1, h2, h3⟩
inductive O4 (xs : List V) (H : Hp) (Q : VK) : Prop
 | mk (p : _) (ys : _) (h1 : xs = [.ref p]) (h2 : (SqL K H p ys ∨ SqT K H p ys)) (h3 : ∀ l, H l = none → Q (.ref l) (upd H l (.lst ys))) : O4 xs H Q
theorem NZ (e : X.K = K := by rfl) : BO X (.type "list") (O4 K) := by subst e; exact fun pins s σ H xs us Q I r ⟨p, ys, h1, h2, h3⟩ => IF pins s σ H xs us Q I r ⟨p, ys, h1, h2, h3⟩
inductive N1 (xs : List V) (H : Hp) (Q : VK) : Prop
 | mk (p : _) (ys : _) (h1 : xs = [.ref p]) (h2 : ((SqL K H p ys ∧ ∀ l, H l = none → Q (.ref l) (upd H l (.tup ys))) ∨ (SqT K H p ys ∧ Q (.ref p) H))) : N1 xs H Q
theorem Dk (e : X.K = K := by rfl) : BO X (.type "tuple") (N1 K) := by subst e; exact fun pins s σ H xs us Q I r ⟨p, ys, h1, h2⟩ => Hg pins s σ H xs us Q I r ⟨p, ys, h1, h2⟩
inductive Q5 (xs : List V) (H : Hp) (Q : VK) : Prop
 | mk (a : Addr) (bs : List Bool) (h1 : xs = [.ref a]) (h2 : SqL K H a (bs.map V.bl)) (h3 : Q (.bl (bs.all id)) H) : Q5 xs H Q
theorem NM (hc : X.calm = true) (e : X.K = K := by rfl) : BO X (.builtin "all") (Q5 K) := by subst e; exact fun pins s σ H xs us Q I r ⟨a, bs, h1, h2, h3⟩ => LP hc pins s σ H xs us Q I r ⟨a, bs, h1, h2, h3⟩
variable {tg l : Expr} {tl : TE}
theorem piL (hl : PE X l tl) (e : X.K = K := by rfl) : PI X tg l (Jv K tl) := by subst e; exact KD hl
theorem piT (hl : PE X l tl) (e : X.K = K := by rfl) : PI X tg l (OU K tl) := by subst e; exact Ms hl
theorem piS (hl : PE X l tl) (e : X.K = K := by rfl) : PI X tg l (PU K tl) := by subst e; exact Lp (KD hl) (Ms hl)
theorem pgT {es : List Expr} {k : Nat} {t : TGs} {n : Nat} {pos : Pos} (hc : X.calm = true) (h : PGs X es t) (hn : (assignEach es X.env).length = n := by rfl) (hst : (assignEach es X.env).findIdx? (·.1) = none := by rfl) (e : X.K = K := by rfl) : PG X (.Tuple es k pos) (LI K n t) := by subst e; exact Ou hc h hn hst
end
end L2
namespace L2
open PySem PySem.Spec PyProof.Rows
inductive N5 (K : SE) (H : Hp) : V → Bool → Prop where
 | int (i : Int) : N5 K H (.int i) true
 | bl (b : Bool) : N5 K H (.bl b) false
 | oth {x : V} {t : Value} (ty : TyX K H x t) (h : Tn K t (.type "int") = some false) : N5 K H x false
theorem OI (K : SE) : Tn K (.type "int") (.type "int") = some true := by kernel_rfl
theorem OJ (K : SE) : Tn K (.type "int") (.type "bool") = some false := by kernel_rfl
theorem OK (K : SE) : Tn K (.type "bool") (.type "int") = some true := by kernel_rfl
theorem OL (K : SE) : Tn K (.type "bool") (.type "bool") = some true := by kernel_rfl
theorem EX (K : SE) : Tn K (.type "tuple") (.type "tuple") = some true := by kernel_rfl
theorem IK (n : Nat) : (Tv n true).all id = true := by
 rw [Ub]
 intro b hb
 exact (List.mem_replicate.mp hb).2
theorem Pen.sm {H H' : Hp} {p : Addr} (h : Pen H p) (e : Ah H H') : Pen H' p := let ⟨c0, c1, c2, z⟩ := h; ⟨c0, c1, c2, e _ _ z⟩
theorem Ah.put {H H' : Hp} {p : Addr} {o : HO} (h : Ah H H') (hp : H p = none) : Ah H (upd H' p o) := fun b u q => by rw [AA (AE q hp)]; exact h b u q
end L2
namespace L2
open PySem PySem.Spec PyProof.Rows
def CX1 (P : Program) (w : World) : CXT := fun outer H s E e s' => ∃ (ea : Addr) (cls a0 : Value) (B : Heap) (H' : Hp), e = .ref ea ∧ s'.os = s.os ∧ AllBare s'.gens ∧ Un (frs outer) [] H H' s.heap s'.heap ∧ HOk P w H' s'.heap ∧
 Heap.FlyingW B outer ea cls a0 s'.heap ∧ (∀ b o, s.heap.get? b = some o → b ∉ frs outer → ∃ o', B.get? b = some o') ∧ (∀ b u, H' b = some u → ∃ o', B.get? b = some o') ∧ E cls none H'
theorem Bt.got {P : Program} {w : World} {H : Hp} {h : Heap} {a : Addr} {o : HO} (x : Bt P w H h a o) : ∃ ob, h.get? a = some ob := by
 induction o with
 | lst xs => obtain ⟨_, _, _, _, e⟩ := x; exact ⟨_, e⟩
 | tup xs => obtain ⟨_, _, _, ob, e, _⟩ := x; exact ⟨_, e⟩
 | dK kvs => obtain ⟨_, _, _, _, ob, _, _, e, _⟩ := x; exact ⟨_, e⟩
 | dT kvs => obtain ⟨_, _, _, _, ob, _, _, e, _⟩ := x; exact ⟨_, e⟩
 | set S n => obtain ⟨ob, _, _, _, e, _⟩ := x; exact ⟨_, e⟩
 | ins C dx fs => obtain ⟨_, _, _, e, _⟩ := x; exact ⟨_, e⟩
 | own y => exact x
 | xd fs => obtain ⟨_, ⟨ob, _, _, e, _⟩, _⟩ := x; exact ⟨_, e⟩
 | met f y => exact ⟨_, x⟩
 | rng lo hi => obtain ⟨_, _, _, e⟩ := x; exact ⟨_, e⟩
 | frz ob u ih => exact ⟨_, x.1⟩
 | tbl ps => exact ⟨_, x⟩
 | ext φ => exact x.2.1
section
variable {X : Cx} {pins : List (Addr × Obj)} {σ : St} {H H' : Hp} {s s' : Shared} {B : Heap}
theorem Inv.flown {h2 : Heap} {toks : Nat} (I : Inv X pins σ H s) (un : Un (frs X.stack) [] H H' s.heap s'.heap) (hok : HOk X.prog X.w H' s'.heap) (os : s'.os = s.os) (bare : AllBare s'.gens)
 (hs : ∀ b o, B.get? b = some o → s'.heap.get? b = some o) (k1 : ∀ b o, s.heap.get? b = some o → b ∉ frs X.stack → ∃ o', B.get? b = some o') (k2 : ∀ b u, H' b = some u → ∃ o', B.get? b = some o')
 (h2s : ∀ b o, B.get? b = some o → h2.get? b = some o) (sl : ∀ b o, b ∈ frs X.stack → s'.heap.get? b = some o → ∃ z, h2.get? b = some { o with slots := z }) : Inv X pins σ H' { s' with heap := h2, toks := toks } := by
 have key : ∀ b o, s'.heap.get? b = some o → (∃ o', B.get? b = some o') → h2.get? b = some o := fun b o e ⟨o', q⟩ => by
  have := hs b o' q
  rw [e] at this
  cases this
  exact h2s b o q
 refine I.call' (ch := []) os ⟨fun b o e n nb nx => key b o (un.keep b o e n nb nx) (k1 b o e nb), fun b o e n nb nx => ?_, un.free, fun b o e nx => ?_, un.tups, un.frzs, un.tbls⟩ (fun b u e => ?_) bare (fun _ z => nomatch z)
 ·obtain ⟨z, q⟩ := un.slot b o e n nb nx
  obtain ⟨z', q'⟩ := sl b _ nb q
  exact ⟨z', q'⟩
 ·obtain ⟨o', q⟩ := un.there b o e nx
  by_cases hb : b ∈ frs X.stack
  ·obtain ⟨z', q'⟩ := sl b _ hb q
   exact ⟨_, q'⟩
  ·exact ⟨_, key b o' q (k1 b o e hb)⟩
 ·refine (hok b u e).stay (fun c v hc q => key c v q ?_) (fun _ q => q) fun _ _ q => q
  rcases hc with rfl | z
  ·exact k2 _ u e
  ·exact k2 c _ z
theorem NB (h : Heap) (l : List Env) : ∀ env ∈ l, ∀ b, env.frame = some b → b ∈ frs l := fun env he b hb => SX.mpr ⟨env, he, hb⟩
theorem Inv.slots {h2 : Heap} (hf : s'.heap.FunFrames B X.stack) (u : s'.heap.UpToSlots h2) : ∀ b o, b ∈ frs X.stack → s'.heap.get? b = some o → ∃ z, h2.get? b = some { o with slots := z } := fun b o hb e => by
 obtain ⟨_, o', e', nf⟩ := hf.mem hb
 rw [e] at e'
 cases e'
 exact u b o e nf
end
section
variable {P : Program} {w : World} {K : SE} {mg : Str → Option Value} {base : Heap} {N : List Str} {qual : Str} {scope : Scope} {f : Addr} {cd : Value} {A : Around} {outer : List Env} {s : Shared} {H : Hp} {E : XK}
end
structure IL (K : SE) (x : Str) (C : Addr) : Prop where
 ns : Uo K mainGlobals x = some (some (.ref C))
 ob : ∃ bm N nm q bs hdct sn sub ab col dd k0 k1 k2 k3 k5, K.lookup C = some (excClassObj nm q C N bs bm hdct sn sub ab col dd k0 k1 k2 k3 k5 "ValueError.__new__")
 ex : Uq K C [.type "ValueError", .type "Exception", .type "BaseException", .type "object"] "ValueError.__new__" = true
def Oa (E : XK) (C : Addr) (t : TA) : TS := fun _ σ H => t σ H fun xs H1 => xs.length ≤ sizeLine ∧ E (.ref C) none H1
def O8 (X : Cx) (E : XK) : Prop := ∀ (pins : List (Addr × Obj)) (σ : St) (H1 : Hp) (s1 : Shared) (h2 : Heap) (ea : Addr) (cls : Value) (vs : List Value), Inv X pins σ H1 s1 → Heap.MadeExcOf s1.heap h2 ea cls vs → E cls none H1 → X.xe (.ref ea) { s1 with heap := h2 }
theorem OA {K : SE} {h : Heap} {mg : Str → Option Value} {x : Str} {C : Addr} (X : K.In h) (g : h.Ns mainGlobals mg) (c : IL K x C) : OwnCls x C [.type "ValueError", .type "Exception", .type "BaseException", .type "object"] "ValueError.__new__" mg h := by
 obtain ⟨bm, N, nm, q, bs, hdct, sn, sub, ab, col, dd, k0, k1, k2, k3, k5, l⟩ := c.ob
 have ex := c.ex
 unfold Uq at ex
 rw [l] at ex
 simp only [excClassObj, Bool.and_eq_true, beq_iff_eq] at ex
 exact ⟨Ur X g c.ns, bm, N, nm, q, bs, hdct, sn, sub, ab, col, dd, k0, k1, k2, k3, k5, _, X _ _ l, .of_isNs (PySem.W.isNs_of_in X ex.1.2), PySem.W.nsMap_none_of_in X ex.1.2 ex.2, PySem.W.tail_of_in X ex.1.1.2⟩
theorem CT {X : Cx} {E : XK} {x : Str} {C : Addr} {np cpos pos : Pos} {e₀ : Expr} {Bu : List Expr} {t : TA} (c : IL X.K x C) (hg : Gl X x) (hM : O8 X E) (hc : X.calm = true) (ha : PA X (e₀ :: Bu) t)
 (hdb : (x == ("__debug__" : Str)) = false := by decide) (he : starEach (e₀ :: Bu) X.env = (false, eval e₀ X.env) :: starEach Bu X.env := by rfl) (hpl : (backTo cpos (starEach Bu X.env)).any (·.1) = false := by rfl) :
 PS X (.Raise (some (.Call (.Name x np) (e₀ :: Bu) [] cpos)) none pos) (Oa E C t) := by
 intro pins s σ H D I h
 have O := OA I.mod.kin I.mod.glob c
 obtain ⟨tl, N, nm, q, bs, hdct, sn, sub, ab, col, dd, k0, k1, k2, k3, k5, mN, hC, hN, hni, T⟩ := O.obj
 have FB := PySem.F.excBase_ValueError
 refine wpAny_Raise_call_subT (C := C) (nm := nm) (q := q) (N := N) (bs := bs) (bm := tl) (hdct := hdct) (sn := sn) (sub := sub) (ab := ab) (col := col) (dd := dd) (k0 := k0) (k1 := k1) (k2 := k2) (k3 := k3) (k5 := k5)
  FB (mN := mN) (T.hasType FB.hasBase) (I.ok.hd hc) (by rw [he]; show (false || (backTo cpos (starEach Bu X.env)).any (·.1)) = false; rw [hpl]; rfl) hni (DL I hg O.bound ⟨rfl, ?_⟩ hdb)
 rw [he]
 refine Calls.evalArgs_plain ?_
 have z := ha cpos pins s σ H _ I h
 rw [he] at z
 refine thn z fun us s2 ⟨xs, H1, I1, r, hz, hE⟩ => ⟨rfl, by rw [← r.length]; exact hz, I1.bk _ _ hC, hN.keeps I1.bk, T.keeps I1.bk, fun h' e hx => hM pins σ H1 s2 h' e _ _ I1 hx hE⟩
abbrev Cx.marked (X : Cx) (ea : Addr) : Cx := { X with A := X.A.mark (some (.ref ea)), calm := false, xe := fun _ _ => False }
section
variable {X : Cx} {pins : List (Addr × Obj)} {σ : St} {H H' : Hp} {s s' : Shared} {B : Heap}
theorem Cx.Ok.marked (ok : X.Ok) (ea : Addr) : (X.marked ea).Ok :=
 ⟨ok.mod, ok.kind, ok.glob, ok.blt, ok.above, ok.inj, ok.has, ok.cab, (fun z => nomatch z), ok.frames, ok.stk, ok.exf, ok.bs, ok.bsz, ok.noex, ok.exfs, ok.funs, ok.frf⟩
theorem Inv.marked (I : Inv X pins σ H s) (ea : Addr) : Inv (X.marked ea) pins σ H s := ⟨I.ok.marked ea, I.os, I.bare, I.base, I.loc, I.cell, I.free, I.freeC, I.pin, I.hok, I.len⟩
theorem Inv.gone {h2 : Heap} {toks : Nat} {i : Nat} {n : Str} {v : Option Value} {m : Str → Option Value} (I : Inv X pins σ H s) (hN : X.N.Nodup) (hi : X.N[i]? = some n)
 (hl : ∀ (j : Nat) (x : Str) (v : V), X.N[j]? = some x → σ[j]? = some (some v) → Vis X.env.scope x → ∃ u, AS v u ∧ Qc X.env s.heap m x u)
 (hn : h2.Ns X.env.locals fun x => if x = n then v else m x) (sb : Heap.SameBut X.env.locals s.heap h2) : Inv X pins (σ.set i none) H { s with heap := h2, toks := toks } := by
 have kp : ∀ b o, b ≠ X.env.locals → s.heap.get? b = some o → h2.get? b = some o := fun b o nb e => (sb.2 b nb).trans e
 have neL : ∀ b o, X.s₀.heap.get? b = some o → b ≠ X.env.locals := fun b o e => Sw (Su (Heap.lt_size e) I.ok.above)
 have cellK : ∀ x c, X.env.cells.lookup x = some c → ∀ v, s.heap.IsCell c v → h2.IsCell c v := fun x c e v ⟨o, ho, hd⟩ => ⟨o, kp c o (I.cne x c e) ho, hd⟩
 refine ⟨I.ok, I.os, I.bare, ⟨fun b o e nn hb hx => kp b o (neL b o e) (I.base.keep b o e nn hb hx), fun b o e nn hb hx => ?_, I.base.free, fun b o e hx => ?_, I.base.tups, I.base.frzs, I.base.tbls⟩, ⟨_, hn, fun j x v' e1 e2 e3 => ?_⟩, fun x c e => ?_, I.free, I.freeC, fun p hp => ?_, fun b u e => ?_, by rw [U1]; exact I.len⟩
 ·obtain ⟨sl, q⟩ := I.base.slot b o e nn hb hx
  exact ⟨sl, kp b _ (neL b o e) q⟩
 ·obtain ⟨o', q⟩ := I.base.there b o e hx
  exact ⟨o', kp b _ (neL b o e) q⟩
 ·by_cases hij : i = j
  ·subst hij
   rw [List.getElem?_set] at e2
   split at e2
   ·split at e2 <;> cases e2
   ·exact absurd rfl (by assumption)
  ·rw [SS hij] at e2
   obtain ⟨u, r, l⟩ := hl j x v' e1 e2 e3
   have hx : x ≠ n := fun z => hij (Gm hN hi (by rw [← z]; exact e1))
   refine ⟨u, r, ?_⟩
   rcases l with ⟨k, l⟩ | ⟨k, c, e, z⟩
   ·exact .inl ⟨k, by show (if x = n then v else m x) = _; rw [if_neg hx]; exact l⟩
   ·exact .inr ⟨k, c, e, cellK x c e _ z⟩
 ·obtain ⟨v, z⟩ := I.cell x c e
  exact ⟨v, cellK x c e v z⟩
 ·obtain ⟨e, nn, ne, nf, d⟩ := I.pin p hp
  exact ⟨kp _ _ ne e, nn, ne, nf, d⟩
 ·refine (I.hok b u e).stay (fun c v hc q => kp c v ?_ q) (fun _ q => q) fun _ _ q => q
  rcases hc with rfl | z
  ·intro y; rw [y, I.free] at e; cases e
  ·intro y; rw [y, I.free] at z; cases z
end
section
open PySem.W PySem.Builtin PySem.Builtin.ObjectAttr PySem.Builtin.Getset_descriptor
variable {prog : Program} {w : World} {A : Around} {E : Value → Shared → Prop} {s : Shared} {K : SE} {x D : Addr}
structure XTy (K : SE) (D : Addr) : Prop where
 ga : findIn K (.ref D) "__getattribute__" = some (some (.builtin "BaseException.__getattribute__"))
 gt : findIn K (.ref D) "__getattr__" = some none
 ca : findIn K (.ref D) "__class__" = some (some (.builtin "object.__class__"))
 gg : specialIn K (.builtin "object.__class__") "__get__" = some (some (.builtin "getset_descriptor.__get__"))
 tk : takesIn K (.builtin "object.__class__") = some true
 ob : mroIn K D (.type "object") = some true
 be : mroIn K D (.type "BaseException") = some true
 cl : ∃ c d cd sl, K.lookup D = some ⟨c, d, .cls cd, sl⟩
theorem Lz (X : K.In s.heap) (T : XTy K D) : Looks (model prog w) s.heap (find (.ref x) (.ref D) "__class__") (.bind (.builtin "getset_descriptor.__get__") (.builtin "object.__class__")) := by
 have L1 := looks_findIn (M := model prog w) X T.ca
 have L2 : Looks (model prog w) s.heap (getOf (some (.builtin "object.__class__"))) (some (.builtin "getset_descriptor.__get__")) := looks_specialIn X T.gg
 have L3 := looks_takesIn (M := model prog w) X T.tk
 exact L1.andThen (L2.andThen ((show Looks (model prog w) s.heap (dataDescriptor? (some (.builtin "object.__class__")) (some (.builtin "getset_descriptor.__get__"))) (some (.builtin "getset_descriptor.__get__", .builtin "object.__class__")) from L3.andThen .now).andThen (Looks.tag .now)))
theorem LJ {Q : Option Value → Shared → Prop} (X : K.In s.heap) (L0 : Looks (model prog w) s.heap (typeOf (.ref x)) (.ref D)) (T : XTy K D) (h : Q (some (.ref D)) { s with toks := s.toks + 1 }) : wpAny (model prog w) A (getAttr? (.ref x) "__class__") Q E s := by
 have L1 := looks_findIn (M := model prog w) X T.ga
 have L2 := Lz (prog := prog) (w := w) (x := x) X T
 have L3 := looks_findIn (M := model prog w) X T.gt
 have L4 := looks_mroIn (M := model prog w) X T.ob
 obtain ⟨hh, g, d, t, os⟩ := s
 unfold getAttr? getAttrBy? getAttrBy
 have L5 := looks_mroIn (M := model prog w) X T.be
 refine wpAny_bind (wpAny_mkText (wpAny_bind (wpAny_attempt (wpAny_holding (wpAny_bind (L0.at (wpAny_bind (L1.at ?_))))))))
 have hx2 : (Value.builtin "BaseException.__getattribute__" == Value.builtin "object.__getattribute__") = false := by decide +kernel
 dsimp only
 rw [hx2, Bool.and_false, if_neg (by decide)]
 have hk : builtinKind "BaseException.__getattribute__" = some .slot := by decide +kernel
 have hsplit : splitId "BaseException.__getattribute__" = some ("BaseException", "__getattribute__") := by decide +kernel
 have ha := F.args_bexc_ga (.ref x) (.str "__class__" t)
 unfold getAttrByItsOwn hookBefore
 refine wpAny_bind ?_
 show wpAny _ _ (typeLookup (.ref D) "__getattr__") _ _ _
 refine L3.at (wpAny_bind (wpAny_attempt (wpAny_holding ?_)))
 show wpAny _ _ (boundAndCalled (.builtin "BaseException.__getattribute__") (.ref x) _) _ _ _
 unfold boundAndCalled
 rw [F.excAttr_ValueError.ga.bind (.ref x)]
 refine wpAny_bind (wpAny_pure ?_)
 first | refine wpAny_call (codeAny_call_builtin F.excAttr_ValueError.ga.plain F.entry_bexc_ga ?_) | refine wpAny_holding (wpAny_call (codeAny_call_builtin F.excAttr_ValueError.ga.plain F.entry_bexc_ga ?_))
 simp only [checkBuiltinCall, hk, hsplit]
 unfold isInstance
 show wpAny _ _ (do let b ← (do let tp ← typeOf (.ref x); isSubtype tp (.type "BaseException")); _) _ _ _
 refine wpAny_bind (wpAny_bind (L0.at (L5.at ?_)))
 rw [if_neg (by decide)]
 unfold argsOk at ha
 refine wpAny_of_eq ha ?_
 show wpAny _ _ (Builtin.«object.__getattribute__» ⟨[.ref x, .str "__class__" t], []⟩) _ _ _
 unfold Builtin.«object.__getattribute__»
 refine wpAny_bind (wpAny_of_eq (show slotArgs "__getattribute__" 1 ⟨[.ref x, .str "__class__" t], []⟩ = pure (.ref x, [.str "__class__" t]) from by kernel_rfl) ?_)
 refine wpAny_bind (wpAny_of_eq (show attrName (.str "__class__" t) = pure "__class__" from by kernel_rfl) ?_)
 refine wpAny_bind (L0.at (wpAny_bind (L2.at ?_)))
 unfold bindTo
 show wpAny _ _ (holding [Value.builtin "object.__class__"] (call (.builtin "getset_descriptor.__get__") [.builtin "object.__class__", .ref x, .ref D]) >>= ret) _ _ _
 refine wpAny_bind (wpAny_holding (wpAny_call ?_))
 refine codeAny_call_builtin KF.slot_gs.plain KF.entry_gs (KF.slot_gs.check _ _ _ _ _ _ _ _ KF.type_class (KF.args_gs _ _ _) ?_)
 unfold Builtin.«getset_descriptor.__get__» descrGet
 rw [dga_obj]
 refine wpAny_bind (wpAny_pure ?_)
 unfold descrGetter descrCheckInstance descrNameAndClass isInstance
 simp only [KF.owner_class]
 repeat lk
 refine ⟨Code.quiet_builtin _ (by decide +kernel), codeAny_builtin KF.entry_class ?_⟩
 unfold Builtin.«object.__class__» shownTypeOf
 repeat lk
 exact h
def Pd (x D : Addr) (h : Heap) : Prop := ∃ o, h.get? x = some o ∧ o.cls = .ref D
theorem KS {M : Model} {h : Heap} (p : Pd x D h) : Looks M h (typeOf (.ref x)) (.ref D) := by
 obtain ⟨o, h1, h2⟩ := p
 exact h2 ▸ (Looks.ld h1).andThen .now
theorem MN (T : XTy K D) : KitX K (.ref x) (.ref D) (Pd x D) where
 ty := fun _ _ _ p => KS p
 it := fun _ _ X _ => by
  obtain ⟨c, d, cd, sl, ho⟩ := T.cl
  intro A' Q' E' s' k q
  unfold isType loadHead
  exact wpAny_bind (wpAny_loadPart (k _ _ (X _ _ ho)) (wpAny_pure q))
 ne := fun h tp dd its n sl X htp => by
  obtain ⟨c, d, cd, sl', ho⟩ := T.cl
  refine Bool.eq_false_iff.mpr fun q => ?_
  have e : D = tp := Value.ref.inj (beq_iff_eq.mp q)
  subst e
  have z := (X _ _ ho).symm.trans htp
  cases z
 ca := fun X p k => LJ X (KS p) T k
def NG : V → Option Value
 | .ref a => some (.ref a)
 | .ty T => some (.type T)
 | _ => none
theorem JD {y : V} {u c : Value} (r : AS y u) (e : NG y = some c) : u = c := by
 cases y <;> cases e <;> exact r
theorem HD : ∀ {ys : List V} {us cs : List Value}, AQ ys us → ys.map NG = cs.map some → us = cs
 | _, _, [], .nil, _ => rfl
 | _, _, _ :: _, .nil, e => nomatch e
 | _, _, [], .cons _ _, e => nomatch e
 | _, _, c :: cs, .cons r rs, e => by
   injection e with e1 e2
   rw [JD r e1, HD rs e2]
end
section
open PySem.W
variable {X : Cx} (K : SE)
end
section
variable {P : Program} {w : World} {K : SE} {mg : Str → Option Value} {base : Heap}
end
structure FdX (P : Program) (w : World) (K : SE) (mg : Str → Option Value) (base : Heap) (n : Nat) (x : Str) (ps : List Str) (sp : Sp) : Prop where
 ex : ∃ (f : Addr) (fd : FuncData), Ay P w K mg base (CX1 P w) n f fd ps sp ∧ BP K fd ps [] ∧ Tg K (.ref f) = true ∧ mg x = some (.ref f)
end L2
namespace L2
open PySem PySem.Spec PyProof.Rows
section
variable {X : Cx} {tg : Expr}
end
theorem Iv {K : SE} {a : Addr} {js : List Nat} {xs : List V} {te : TE} {σ : St} {H : Hp} {Fin : List V → Hp → Prop} (Pv : Nat → List V → Hp → Prop) (h0 : Pv 0 [] H)
 (hl : ∀ i zs H, i ≤ xs.length → Pv i zs H → SqL K H a xs ∧ zs.length = i) (hz : xs.length ≤ sizeLine)
 (hs : ∀ i x zs H, xs[i]? = some x → Pv i zs H → te ((cS 1 js σ).set 0 (some x)) H fun y H4 => Pv (i + 1) (zs ++ [y]) H4) (fin : ∀ zs H', Pv xs.length zs H' → Fin zs H') :
 ∃ (n' : Nat) (W : Nat → List V → Hp → Prop), W 0 [] H ∧ LcW (Itl K a) n' 1 js σ (C6 0) M4 te Fin W := by
 refine ⟨xs.length, Pv, h0, ⟨?_, ?_, ?_⟩⟩
 ·intro i zs H' hi p
  obtain ⟨h1, h2⟩ := hl i zs H' (SH hi) p
  exact ⟨⟨xs, xs[i], h1, by simp [hi]⟩, by lia⟩
 ·rintro i zs H' x H1 hi p ⟨rfl, y⟩
  exact hs i x zs _ (y xs (hl i zs _ (SH hi) p).1) p
 ·intro zs H' p
  obtain ⟨h1, h2⟩ := hl _ zs H' (SW _) p
  exact ⟨⟨xs, h1, SW _⟩, by lia, fin zs H' p⟩
theorem Hh : bootBuiltins "ValueError" = some (.type "ValueError") := by decide +kernel
end L2
namespace L2
open PySem PySem.Spec PyProof.Rows
theorem J1 {s Bu : TS} {D : Ea} {σ : St} {H : Hp} (Pv : St → Hp → Prop) (h : ∀ nx : St → Hp → Prop, (∀ σ' H', Pv σ' H' → nx σ' H') → s { D with nx := nx } σ H) (k : ∀ σ' H', Pv σ' H' → Bu D σ' H') : Nd s Bu D σ H := h _ k
theorem EM {i : Nat} {v : V} {c : TT} {t u Bu : TS} {D : Ea} {σ : St} {H : Hp} (Pv : St → Hp → Prop) (h : ∀ nx : St → Hp → Prop, (∀ σ' H', Pv σ' H' → nx σ' H') → Li c t u { D with nx := nx } (σ.set i (some v)) H) (k : ∀ σ' H', Pv σ' H' → Bu D σ' H') : C6 i v σ H (Nd (Li c t u) Bu D) := h _ k
theorem Mv.put' {a l : Addr} {H H' : Hp} {o : HO} (m : Mv a H H') (hl : H l = none) : Mv a H (upd H' l o) := fun b u n q => by rw [AA (AE q hl)]; exact m b u n q
theorem Mv.free {a l : Addr} {H H' : Hp} (m : Mv a H H') (la : l ≠ a) (h : H' l = none) : H l = none := by
 cases z : H l with
 | none => rfl
 | some u => rw [m l u la z] at h; cases h
theorem Pen.put' {H : Hp} {a l : Addr} {o : HO} (h : Pen H a) (la : l ≠ a) : Pen (upd H l o) a := let ⟨x0, x1, x2, ex⟩ := h; ⟨x0, x1, x2, by rw [AA (Ne.symm la)]; exact ex⟩
theorem Pen.ne' {H : Hp} {a l : Addr} (h : Pen H a) (hl : H l = none) : l ≠ a := let ⟨_, _, _, ex⟩ := h; (AE ex hl).symm
def Qx (K : SE) (H : Hp) (x : V) (rs : List Rat) : Prop := ∃ a ys, x = .ref a ∧ SqL K H a ys ∧ BI K H ys rs
abbrev Rows (K : SE) (H : Hp) : List V → List (List Rat) → Prop := Paired (Qx K H)
end L2
namespace L2
open PySem PySem.Spec PyProof.Rows
section
variable {X : Cx}
@[irreducible] def Mr (K : SE) (neg : Bool) : R2 := fun x y H Q => ∃ p ds d, y = .ref p ∧ Rds K H (.ref p) (.list ds) ∧ Rds K H x d ∧ SeqAt.shaped (.list ds) = true ∧ SeqAt.shaped d = true ∧ Q (.bl (if neg then !(ds.any fun y => PyData.eqv y d) else ds.any fun y => PyData.eqv y d)) H
theorem Ke {K : SE} {neg : Bool} {x y : V} {H : Hp} {Q : VK} (h : ∃ p ds d, y = .ref p ∧ Rds K H (.ref p) (.list ds) ∧ Rds K H x d ∧ SeqAt.shaped (.list ds) = true ∧ SeqAt.shaped d = true ∧ Q (.bl (if neg then !(ds.any fun y => PyData.eqv y d) else ds.any fun y => PyData.eqv y d)) H) : Mr K neg x y H Q := by
 unfold Mr; exact h
theorem inD (K : SE) {k : Nat} (hr : BC k X.A) (e : X.K = K := by rfl) : OpR X (compareOp .In) (Mr K false) := by
 subst e
 intro pins s σ H x y v u Q I rx ry h
 unfold Mr at h
 obtain ⟨p, ds, d, rfl, r1, r2, h1, h2, q⟩ := h
 cases ry
 obtain ⟨as, q1⟩ := CS I r1 (u := .ref p) rfl
 obtain ⟨bs, q2⟩ := CS I r2 rx
 exact SeqAt.in_list_reads q1 q2 (SeqAt.canLay_of_shaped h1) (SeqAt.canLay_of_shaped h2) (PyProof.Rows.room_in_shaped h2 (by have := hr.un; lia)) ⟨.bl _, H, I, rfl, q⟩
end
theorem N3 (q : Rat) : ∀ qs : List Rat, ((qs.map nD).any fun y => PyData.eqv y (nD q)) = decide (q ∈ qs)
 | [] => by simp
 | c :: r => by
   rw [Te, U2, K7, N3 q r, Bool.eq_iff_iff]
   simp only [Bool.or_eq_true, decide_eq_true_eq, SM]
   constructor
   ·rintro (h | h)
    ·exact .inl h.symm
    ·exact .inr h
   ·rintro (h | h)
    ·exact .inl h.symm
    ·exact .inr h
theorem inN {K : SE} {H : Hp} {x : V} {a : Addr} {xs : List V} {q : Rat} {qs : List Rat} {Q : VK} {neg : Bool} (h1 : AU K H x q) (s2 : SqL K H a xs) (n2 : BI K H xs qs) (h : Q (.bl (if neg then !decide (q ∈ qs) else decide (q ∈ qs))) H) : Mr K neg x (.ref a) H Q :=
 Ke ⟨a, _, _, rfl, n2.rdsL s2, h1.rds, FG _, ET _, by rw [N3]; exact h⟩
def PtV (K : SE) (H : Hp) (x : V) (ps : List Rat) : Prop := ∃ a, x = .ref a ∧ Crv K H a ps
abbrev Pts (K : SE) (H : Hp) : List V → List (List Rat) → Prop := Paired (PtV K H)
theorem PtV.same {K : SE} {H H' : Hp} {x : V} {ps : List Rat} (h : PtV K H x ps) (e : Ah H H') : PtV K H' x ps := let ⟨a, h1, h2⟩ := h; ⟨a, h1, h2.same e⟩
structure Kj where
 x : Rat
 k : Int
 n : Rat
deriving DecidableEq
end L2
namespace L2
open PySem PySem.Spec PyProof.Rows
section
variable {X : Cx} {e : Expr} {te : TE}
end
def IM (t : TGs) (nt : Nat) : Prop := ∀ (vs : List V) (σ : St) (H : Hp) (Q : St → Hp → Prop) (σ0 : St), (σ.length = σ0.length ∧ σ.drop nt = σ0.drop nt) → t vs σ H Q → t vs σ H fun σ2 H2 => (σ2.length = σ0.length ∧ σ2.drop nt = σ0.drop nt) ∧ Q σ2 H2
theorem JM {nt : Nat} : IM OV nt := fun _ _ _ _ _ r ⟨e, q⟩ => ⟨e, r, q⟩
theorem Fi {i nt : Nat} {u : TGs} (h : i < nt) (hu : IM u nt) : IM (Jx (C6 i) u) nt := fun vs σ H Q σ0 r ⟨v, rs, e, q⟩ => ⟨v, rs, e, hu rs (σ.set i (some v)) H Q σ0 ⟨by rw [U1]; exact r.1, by
 rw [← r.2]
 apply List.ext_getElem?
 intro k
 rw [Ue, Ue, SS (by lia)]⟩ q⟩
theorem Lk {K : SE} {n nt : Nat} {t : TGs} (h : IM t nt) : GC (LI K n t) nt := fun _ σ H Q ⟨a, xs, e, s, l, q⟩ => ⟨a, xs, e, s, l, h xs σ H Q σ ⟨rfl, rfl⟩ q⟩
end L2
namespace L2
def NN : List Rat → List Rat → List Rat
 | [], m => m
 | a :: l, [] => a :: l
 | a :: l, b :: m => (a + b) :: NN l m
open PySem PySem.Spec PyProof.Rows
theorem De {K : SE} {a : Addr} {js : List Nat} {xs : List V} {te : TE} {σ : St} {H : Hp} {Fin : List V → Hp → Prop} (Pv : Nat → List V → Hp → Prop) (h0 : Pv 0 [] H)
 (hl : ∀ i zs H, i ≤ xs.length → Pv i zs H → SqT K H a xs ∧ zs.length = i) (hz : xs.length ≤ sizeLine)
 (hs : ∀ i x zs H, xs[i]? = some x → Pv i zs H → te ((cS 1 js σ).set 0 (some x)) H fun y H4 => Pv (i + 1) (zs ++ [y]) H4) (fin : ∀ zs H', Pv xs.length zs H' → Fin zs H') :
 ∃ (n' : Nat) (W : Nat → List V → Hp → Prop), W 0 [] H ∧ LcW (Itt K a) n' 1 js σ (C6 0) M4 te Fin W := by
 refine ⟨xs.length, Pv, h0, ⟨?_, ?_, ?_⟩⟩
 ·intro i zs H' hi p
  obtain ⟨h1, h2⟩ := hl i zs H' (SH hi) p
  exact ⟨⟨xs, xs[i], h1, by simp [hi]⟩, by lia⟩
 ·rintro i zs H' x H1 hi p ⟨rfl, y⟩
  exact hs i x zs _ (y xs (hl i zs _ (SH hi) p).1) p
 ·intro zs H' p
  obtain ⟨h1, h2⟩ := hl _ zs H' (SW _) p
  exact ⟨⟨xs, h1, SW _⟩, by lia, fin zs H' p⟩
end L2
namespace L2
def ch : Nat → Nat → Nat
 | _, 0 => 1
 | 0, _ + 1 => 0
 | n + 1, k + 1 => ch n k + ch n (k + 1)
def aQ (l : List Rat) : List Rat := (Sx (l.length - 1)).map fun j => l.getD j 0 + l.getD (j + 1) 0
def aQN : Nat → List Rat → List Rat
 | 0, l => l
 | n + 1, l => aQ (aQN n l)
def Oz (al : List Rat) : List Rat := (Sx al.length).map fun k => al.getD k 0 / ((ch (al.length - 1) k : Nat) : Rat)
def Qo (al : List Rat) : List Rat := (Sx al.length).map fun j => (aQN j (Oz al)).getD 0 0
def goL (a b : Rat) : Rat → List Rat → List Rat
 | p, [] => [a * p]
 | p, c :: r => (a * p + b * c) :: goL a b c r
def MZ (a b : Rat) : List Rat → List Rat
 | [] => []
 | q :: r => match MZ a b r with
   | [] => [q]
   | c :: s => (q + b * c) :: goL a b c s
def hts (cs : List Rat) (lo hi : Rat) : List Rat := if cs = [] then [0] else Qo (MZ (hi - lo) lo cs)
end L2
namespace L2
def sd : List Rat → List Rat
 | [] => []
 | [_] => []
 | _ :: p :: r => NN (0 :: sd (p :: r)) (MZ 1 1 (p :: r))
def nw (c : Nat → Rat) (x : Rat) : Nat → Nat → Rat
 | _, 0 => 0
 | j, n + 1 => c j + (x - ((j : Nat) : Rat)) * nw c x (j + 1) n
end L2
namespace L2
open PySem PySem.Spec PyProof.Rows PySem.SeqAt
theorem Ju : ∀ {ns : List Int} {its : List Value}, AQ (ns.map V.int) its → IntsAre its ns
 | [], _, .nil => .nil
 | n :: ns, _, .cons r rs => by
   obtain ⟨t, rfl⟩ := r
   exact .cons n t (Ju rs)
end L2
namespace L2
def dL : List Rat → List Rat
 | [] => []
 | _ :: r => NN r (0 :: dL r)
def ty (x : Rat) : List Rat → List Rat
 | [] => []
 | q :: r => NN (q :: ty x r) ((ty x r).map (· * x))
end L2
namespace L2
end L2
namespace L2
open PySem PySem.Spec PyProof.Rows
end L2
namespace PySem
open Sem (wp)
open Builtin
set_option maxRecDepth 100000
end PySem
namespace L2
open PySem PySem.Spec PyProof.Rows
variable {X : Cx}
end L2
namespace L2
open PySem PySem.Spec PyProof.Rows
end L2
namespace L2
open PySem PySem.Spec PyProof.Rows
def kQ (q : Rat) : List Key := [.inl q.num, .inl (q.den : Int)]
theorem OQ {p q : Rat} (h : kQ p = kQ q) : p = q := by
 unfold kQ at h
 injection h with h1 h2
 injection h2 with h2 _
 injection h1 with h1
 injection h2 with h2
 exact Rat.ext h1 (Int.ofNat.inj h2)
def Dg (H : Hp) (x : V) (q : Rat) : Prop := ∃ r, x = .ref r ∧ H r = some (nT q)
abbrev AJ (H : Hp) : List V → List Rat → Prop := Paired (Dg H)
theorem Dg.num {K : SE} {H : Hp} {x : V} {q : Rat} (h : Dg H x q) : AU K H x q := let ⟨r, e, h⟩ := h; ⟨r, e, SqT.of h⟩
theorem Dg.same {H H' : Hp} {x : V} {q : Rat} (h : Dg H x q) (e : Ah H H') : Dg H' x q := let ⟨r, z, h⟩ := h; ⟨r, z, e _ _ h⟩
theorem Dg.mv {H H' : Hp} {x : V} {q : Rat} {p : Addr} (h : Dg H x q) (pn : Pen H p) (m : Mv p H H') : Dg H' x q := let ⟨r, z, h⟩ := h; ⟨r, z, m r _ (pn.ne h (Jm q)) h⟩
theorem Dg.put {H : Hp} {x : V} {q : Rat} {p : Addr} {ys : List V} {o : HO} (h : Dg H x q) (hp : H p = some (.lst ys)) : Dg (upd H p o) x q := let ⟨r, z, h⟩ := h; ⟨r, z, by rw [AA (C5 h hp (fun z => by cases z))]; exact h⟩
theorem AJ.nums {K : SE} {H : Hp} {xs : List V} {qs : List Rat} (h : AJ H xs qs) : BI K H xs qs := Paired.mapP h fun _ _ z => z.num
theorem AJ.same {H H' : Hp} {xs : List V} {qs : List Rat} (h : AJ H xs qs) (e : Ah H H') : AJ H' xs qs := Paired.mapP h fun _ _ z => z.same e
theorem AJ.mv {H H' : Hp} {xs : List V} {qs : List Rat} {p : Addr} (h : AJ H xs qs) (pn : Pen H p) (m : Mv p H H') : AJ H' xs qs := Paired.mapP h fun _ _ z => z.mv pn m
theorem AJ.put {H : Hp} {xs : List V} {qs : List Rat} {p : Addr} {ys : List V} {o : HO} (h : AJ H xs qs) (hp : H p = some (.lst ys)) : AJ (upd H p o) xs qs := Paired.mapP h fun _ _ z => z.put hp
def PtT (K : SE) (H : Hp) (x : V) (ps : List Rat) : Prop := ∃ a us p, x = .ref a ∧ SqT K H a us ∧ BI K H us ps ∧ us[0]? = some (.ref p) ∧ H p = some (nT (ps.getD 0 0))
abbrev AH (K : SE) (H : Hp) : List V → List (List Rat) → Prop := Paired (PtT K H)
section
variable {K : SE} {H H' : Hp} {x : V} {ps : List Rat} {xs : List V} {pss : List (List Rat)} {p : Addr} {ys : List V} {o : HO}
theorem PtT.pt (h : PtT K H x ps) : PtV K H x ps := let ⟨a, us, _, e, h1, h2, _⟩ := h; ⟨a, e, us, h1, h2⟩
theorem PtT.same (h : PtT K H x ps) (e : Ah H H') : PtT K H' x ps := let ⟨a, us, b, z, h1, h2, h3, h4⟩ := h; ⟨a, us, b, z, h1.same e, h2.same e, h3, e _ _ h4⟩
theorem PtT.mv (h : PtT K H x ps) (pn : Pen H p) (m : Mv p H H') : PtT K H' x ps := let ⟨a, us, b, z, h1, h2, h3, h4⟩ := h; ⟨a, us, b, z, h1.mv pn m, h2.mv pn m, h3, m b _ (pn.ne h4 (Jm _)) h4⟩
theorem PtT.put (h : PtT K H x ps) (hp : H p = some (.lst ys)) : PtT K (upd H p o) x ps := let ⟨a, us, b, z, h1, h2, h3, h4⟩ := h; ⟨a, us, b, z, h1.put hp, h2.put hp, h3, by rw [AA (C5 h4 hp (fun z => by cases z))]; exact h4⟩
theorem AH.pts (h : AH K H xs pss) : Pts K H xs pss := Paired.mapP h fun _ _ z => z.pt
theorem AH.same (h : AH K H xs pss) (e : Ah H H') : AH K H' xs pss := Paired.mapP h fun _ _ z => z.same e
theorem AH.mv (h : AH K H xs pss) (pn : Pen H p) (m : Mv p H H') : AH K H' xs pss := Paired.mapP h fun _ _ z => z.mv pn m
theorem AH.put (h : AH K H xs pss) (hp : H p = some (.lst ys)) : AH K (upd H p o) xs pss := Paired.mapP h fun _ _ z => z.put hp
end
def TlT (K : SE) (H : Hp) (v : V) (t : Kj) : Prop := ∃ a p rn, v = .ref a ∧ SqT K H a [.ref p, .int t.k, rn] ∧ H p = some (nT t.x) ∧ AU K H rn t.n
abbrev GB (K : SE) (H : Hp) : List V → List Kj → Prop := Paired (TlT K H)
section
variable {K : SE} {H H' : Hp} {x : V} {t : Kj} {xs : List V} {ts : List Kj} {p : Addr} {ys : List V} {o : HO}
theorem TlT.same (h : TlT K H x t) (e : Ah H H') : TlT K H' x t := let ⟨a, b, rn, z, h1, h2, h3⟩ := h; ⟨a, b, rn, z, h1.same e, e _ _ h2, h3.same e⟩
theorem TlT.put (h : TlT K H x t) (hp : H p = some (.lst ys)) : TlT K (upd H p o) x t := let ⟨a, b, rn, z, h1, h2, h3⟩ := h; ⟨a, b, rn, z, h1.put hp, by rw [AA (C5 h2 hp (fun z => by cases z))]; exact h2, h3.put hp⟩
theorem GB.same (h : GB K H xs ts) (e : Ah H H') : GB K H' xs ts := Paired.mapP h fun _ _ z => z.same e
theorem GB.put (h : GB K H xs ts) (hp : H p = some (.lst ys)) : GB K (upd H p o) xs ts := Paired.mapP h fun _ _ z => z.put hp
end
end L2
namespace L2
end L2
namespace HT
open PySem PyProof.Rows
open PySem.SeqAt
open PySem.AutoSeq1 (wpAny_loadPart')
open PySem.MeetsSeq PySem.MeetsSeq2 PySem.MeetsSeq3
theorem getItem_tuple_whole {prog : Program} {w : World} {A : Around} {E : Value → Shared → Prop} {s : Shared} {t sl : Addr} {items : Array Value} {vl vu : Value} {lo hi : Option Int} {Q : Value → Shared → Prop} (ht : IsTup s.heap t items) (hs : s.heap.IsSliceOf sl vl vu .none) (pl : IsPart vl lo) (pu : IsPart vu hi)
 (hw : sIx items.size 0 lo = 0 ∧ sIx items.size items.size hi = items.size) (h : Q (.ref t) s) : wpAny (model prog w) A (getItem (.ref t) (.ref sl)) Q E s := by
 obtain ⟨os, hos, hcs, hds⟩ := id hs
 have hTs : s.TypeIs (.ref sl) "slice" := ⟨os, hos, hcs⟩
 unfold getItem
 try with_reducible refine wpAny_holding ?_
 first | refine wpAny_bind (wpAny_pure ?_) | skip
 refine wpAny_bind (wpAny_sequenceKey ht.typeIs (by decide) ?_)
 refine wpAny_bind (wpAny_callSpecial?_slot (name := Str.ofString "__getitem__") ht.typeIs PyProof.Rows.slot_tuple_getitem
  (wpAny_call_entry PyProof.Rows.slot_tuple_getitem ht.typeIs entry_tuple_getitem ?_ (args_tuple_getitem _ _)))
 show wpAny _ _ (Builtin.Tuple.tupleItemsOf (.ref t) >>= _) _ _ s
 refine wpAny_bind (tupleItemsOf_ ht ?_)
 refine wpAny_bind (wpAny_typeOf hTs ?_)
 rw [if_pos (by decide)]
 refine wpAny_bind (sliceApplied_gen hs pl pu ?_)
 have hyes : (((sIx items.size 0 lo : Nat) : Int) == 0 && (1 : Int) == 1 && (sIx items.size items.size hi - sIx items.size 0 lo) == items.size) = true := by
  rw [hw.1, hw.2]; simp
 show wpAny _ _ (if (((sIx items.size 0 lo : Nat) : Int) == 0 && (1 : Int) == 1 && (sIx items.size items.size hi - sIx items.size 0 lo) == items.size) = true then _ else _) _ _ s
 rw [if_pos hyes]
 refine wpAny_bind ?_
 refine wpAny_bind (wpAny_typeOf ht.typeIs ?_)
 refine wpAny_pure ?_
 rw [if_pos (by decide)]
 first
  | exact wpAny_bind (wpAny_rule (wpAny_pure ⟨_, rfl, wpAny_pure h⟩))
  | exact wpAny_pure ⟨_, rfl, wpAny_pure h⟩
  | trace_state
end HT
namespace L2
open PySem PySem.Spec PyProof.Rows
section
variable {X : Cx} {K : SE}
inductive Mo (K : SE) (x : V) (lo : Option Int) (hi : Option Int) (H : Hp) (Q : VK) : Prop
 | mk (a : _) (xs : _) (h1 : x = .ref a) (h2 : SqT K H a xs) (h3 : (HT.sIx xs.length 0 lo = 0 ∧ HT.sIx xs.length xs.length hi = xs.length)) (h4 : Q (.ref a) H) : Mo K x lo hi H Q
theorem Ni : SlR X (Mo X.K) := by
 intro pins s σ H x v vl vu lo hi sl Q I rx hs pl pu h
 obtain ⟨a, xs, rfl, hx, hw, q⟩ := h
 cases rx
 obtain ⟨its, r, ht, hz⟩ := I.tuple hx
 have hlen : its.toArray.size = xs.length := by rw [TU]; exact r.length.symm
 refine ⟨"tuple", _, PyProof.Rows.slot_tuple_getitem.lookup, ht.typeIs, ?_⟩
 exact HT.getItem_tuple_whole ht hs pl pu (by rw [hlen]; exact hw) ⟨.ref a, H, I, rfl, q⟩
def Mp (K : SE) : V → Option Int → Option Int → Hp → VK → Prop := fun x lo hi H Q => Og K x lo hi H Q ∨ Mo K x lo hi H Q
theorem EL (K : SE) (e : X.K = K := by rfl) : SlR X (Mp K) := by subst e; exact SlR.or Ob Ni
end
theorem OY (xs : List V) (v : Nat) : Gw xs none (some (v : Int)) = xs.take v := by
 unfold Gw
 have e1 : HT.sIx xs.length 0 none = 0 := rfl
 have e2 : HT.sIx xs.length xs.length (some (v : Int)) = min v xs.length := HT.sIx_nat _ _ v
 rw [e1, e2, Us, Nat.sub_zero]
 by_cases h : v ≤ xs.length
 ·rw [TY h]
 ·rw [TZ (by lia), Ut (SW _), Ut (by lia)]
end L2
namespace L2
open PySem PySem.Spec PyProof.Rows PySem.SeqAt
theorem LM {X : Cx} (hc : X.calm = true) : BO X (.builtin "sum") (fun xs H Q => ∃ (l : Addr) (ns : List Int), xs = [.ref l] ∧ H l = some (.lst (ns.map V.int)) ∧ Q (.int ns.sum) H) := by
 intro pins s σ H xs us Q I r h
 obtain ⟨l, ns, rfl, hH, q⟩ := h
 obtain ⟨u, rfl, rfl⟩ := CK r
 obtain ⟨z, its, n, rv, hl, e⟩ := I.lstM hH
 have hi := Ju rv
 have hL : s.heap.IsList l its.toArray := ⟨_, e, rfl, n, rfl⟩
 obtain ⟨xs, e⟩ := hi.allInts.items
 have hns : ns = xs.toList.map (·.1) := by rw [← hi.numsOf, ← nums_intItems, ← e]
 rw [e] at hL
 refine sum_intListG (I.ok.hd hc) hL fun h' tk t' hk => ?_
 refine ⟨.int _, H, I.kept hk, ⟨_, rfl⟩, ?_⟩
 rw [preSum_eq, Ut (by simp), ← hns]; exact q
section
variable {X : Cx}
theorem _root_.HT.cat_tup0 {prog : Program} {w : World} {A : Around} {E : Value → Shared → Prop} {s : Shared} {t b : Addr} {ws : List Value} {Q : Value → Shared → Prop} (ht : IsTup s.heap t ([] : List Value).toArray) (hb : IsTup s.heap b ws.toArray)
 (h1 : Q (.ref b) s) : wpAny (model prog w) A (binaryOp .Add (.ref t) (.ref b)) Q E s := by
 obtain ⟨⟨cls, dd, data, sl⟩, ho, hc, n, hd⟩ := id ht
 obtain ⟨⟨cls2, dd2, data2, sl2⟩, ho2, hc2, n2, hd2⟩ := id hb
 simp only at hc hd hc2 hd2
 subst hc hd hc2 hd2
 exact concat_meets ⟨_, ho, rfl⟩ ⟨_, ho2, rfl⟩ noFill_tuple_add seq_tuple_add PySem.F.slot_tuple_add PySem.F.entry_tuple_add (PySem.F.args_tuple_add_2 _ _)
  (tuple_addW0 t b ([] : List Value).toArray ws.toArray n n2 dd dd2 sl sl2 (by simp)) ⟨ho, ho2, h1⟩
def JV (K : SE) : R2 := fun x y H Q => Kw K x y H Q ∨ ∃ a b ys, x = .ref a ∧ y = .ref b ∧ SqT K H a [] ∧ SqT K H b ys ∧ Q (.ref b) H
theorem MA : OpR X (binaryOp .Add) (JV X.K) := by
 intro pins s σ H x y v u Q I rx ry h
 rcases h with h | ⟨a, b, ys, rfl, rfl, ha, hb, q⟩
 ·exact KI pins s σ H x y v u Q I rx ry h
 ·cases rx
  cases ry
  obtain ⟨its, r1, p1, _⟩ := I.tuple ha
  obtain ⟨its2, r2, p2, _⟩ := I.tuple hb
  cases r1
  exact HT.cat_tup0 p1 p2 ⟨.ref b, H, I, rfl, q⟩
theorem DY (K : SE) (e : X.K = K := by rfl) : OpR X (binaryOp .Add) (JV K) := by subst e; exact MA
end
theorem JA (xs : List V) (v : Nat) : Gw xs (some (v : Int)) none = xs.drop v := by
 unfold Gw
 have e1 : HT.sIx xs.length 0 (some (v : Int)) = min v xs.length := HT.sIx_nat _ _ v
 have e2 : HT.sIx xs.length xs.length none = xs.length := rfl
 rw [e1, e2]
 by_cases h : v ≤ xs.length
 ·rw [TY h, Ut (by rw [U0]; exact SW _)]
 ·rw [TZ (by lia), Nat.sub_self, List.take_zero, List.drop_eq_nil_of_le (by lia)]
end L2
namespace L2
open PySem PySem.Spec PyProof.Rows
theorem OZ : bootBuiltins "zip" = some (.type "zip") := by decide +kernel
section
variable {X : Cx} {pins : List (Addr × Obj)} {σ : List (Option V)} {H : Hp} {s : Shared} {h' : Heap}
theorem Inv.turnedL {t' : Nat} {ch : List Addr} (I : Inv X pins σ H s) (k : ∀ b o, b ∉ ch → s.heap.get? b = some o → h'.get? b = some o) (hf : ∀ b ∈ ch, DT X pins H b) : Inv X pins σ H { s with heap := h', toks := t' } := by
 have nit : ∀ b u, H b = some u → b ∉ ch := fun b u e z => by rw [(hf b z).1] at e; cases e
 refine I.step (g' := s.gens) (d' := s.drawn) (ch := ch) (fun b hb => ?_) (fun b o _ _ hc e _ => k b o hc e) (fun b o _ _ hc e _ => ⟨o.slots, k b o hc e⟩) (fun _ _ _ _ n => n)
  (fun b o hc e => ⟨o, k b o hc e⟩) (fun _ _ e => e) (fun _ _ _ e => e) (fun b ps e => ⟨#[], by rw [e]; simp⟩) (fun m hm => ?_) (fun b u e => ?_) I.bare
 ·obtain ⟨_, hL, _, h1, h2, h3⟩ := hf b hb
  exact ⟨h1, hL, h2, h3⟩
 ·obtain ⟨o, es, ep, ho, r⟩ := hm
  exact ⟨o, es, ep, k _ o (fun z => (hf _ z).2.1 rfl) ho, r⟩
 ·refine (I.hok b u e).stay (fun c v hc q => k c v ?_ q) (fun _ q => q) fun _ _ q => q
  rcases hc with z | z
  ·rw [z]; exact nit b u e
  ·exact nit c _ z
end
section
variable {X : Cx}
end
end L2
namespace L2
open PySem PySem.Spec PyProof.Rows
namespace St
open SetTable
def it (mask : Nat) : Nat → Nat → Nat
 | 0, i => i
 | n + 1, i => it mask n ((i * 5 + 1) % (mask + 1))
theorem cover7 : ∀ i : Fin 8, ∀ e : Fin 8, ∃ m : Fin 8, it 7 m.val i.val = e.val := by decide +kernel
theorem cover31 : ∀ i : Fin 32, ∀ e : Fin 32, ∃ m : Fin 32, it 31 m.val i.val = e.val := by decide +kernel
theorem cover {mask : Nat} (hm : mask = 7 ∨ mask = 31) {i e : Nat} (hi : i < mask + 1) (he : e < mask + 1) : ∃ m, m ≤ mask ∧ it mask m i = e := by
 rcases hm with rfl | rfl
 ·obtain ⟨m, h⟩ := cover7 ⟨i, hi⟩ ⟨e, he⟩
  exact ⟨m.val, by lia, h⟩
 ·obtain ⟨m, h⟩ := cover31 ⟨i, hi⟩ ⟨e, he⟩
  exact ⟨m.val, by lia, h⟩
def bs (mask : Nat) (b : Nat) : Nat → Nat × Nat
 | 0 => (b % (mask + 1), b)
 | n + 1 => leap mask (bs mask b n).1 (bs mask b n).2
theorem bs_pert (mask b : Nat) : ∀ n, (bs mask b n).2 = b / 32 ^ n
 | 0 => by show b = b / 1; rw [Nat.div_one]
 | n + 1 => by
   show (bs mask b n).2 / 32 = _
   rw [bs_pert mask b n, Nat.div_div_eq_div_mul, Nat.pow_succ]
theorem bs_lt (mask b : Nat) : ∀ n, (bs mask b n).1 < mask + 1
 | 0 => Nat.mod_lt _ (Nat.succ_pos _)
 | _ + 1 => Nat.mod_lt _ (Nat.succ_pos _)
theorem bits_lt (h : Int) : bits h < 2 ^ 64 := by
 unfold bits
 have h1 : (0 : Int) ≤ h % 2 ^ 64 := Uu _ (by decide)
 have h2 : h % 2 ^ 64 < 2 ^ 64 := Uv _ (by decide)
 lia
theorem bs_late {mask b n : Nat} (hb : b < 2 ^ 64) (hn : 13 ≤ n) : (bs mask b n).2 = 0 := by
 rw [bs_pert]
 refine Nat.div_eq_of_lt (Su hb ?_)
 exact SG (by decide : 2 ^ 64 ≤ 32 ^ 13) (Nat.pow_le_pow_right (by decide) hn)
theorem bs_cyc {mask b : Nat} (hb : b < 2 ^ 64) : ∀ m n, 13 ≤ n → (bs mask b (n + m)).1 = it mask m (bs mask b n).1
 | 0, n, _ => rfl
 | m + 1, n, hn => by
   have ih := bs_cyc (mask := mask) hb m (n + 1) (by lia)
   rw [show n + (m + 1) = n + 1 + m by lia, ih]
   show it mask m (leap mask (bs mask b n).1 (bs mask b n).2).1 = it mask m (((bs mask b n).1 * 5 + 1) % (mask + 1))
   rw [bs_late hb hn]
   rfl
theorem bs_hits {mask b e : Nat} (hm : mask = 7 ∨ mask = 31) (hb : b < 2 ^ 64) (he : e < mask + 1) : ∃ n, n ≤ 13 + mask ∧ (bs mask b n).1 = e := by
 obtain ⟨m, h1, h2⟩ := cover hm (bs_lt mask b 13) he
 exact ⟨13 + m, by lia, by rw [bs_cyc hb m 13 (SW _)]; exact h2⟩
def base (mask i pert : Nat) : Probe := { j := i, more := runEnd mask i - i, i, perturb := pert, dummy := none }
def advs (t : SetTable) : Nat → Probe → Probe
 | 0, p => p
 | n + 1, p => advs t n (t.advance p)
theorem advs_add (t : SetTable) : ∀ m n p, advs t (m + n) p = advs t n (advs t m p)
 | 0, n, p => by rw [Uw]; rfl
 | m + 1, n, p => by rw [show m + 1 + n = (m + n) + 1 by lia]; exact advs_add t m n _
theorem run_le (mask i : Nat) : runEnd mask i - i ≤ 9 := by unfold runEnd; split <;> lia
theorem advs_run (t : SetTable) : ∀ (r j i pert : Nat), advs t (r + 1) { j := j, more := r, i := i, perturb := pert, dummy := none } = base t.mask (leap t.mask i pert).1 (leap t.mask i pert).2
 | 0, j, i, pert => rfl
 | r + 1, j, i, pert => by
   have ih := advs_run t r (j + 1) i pert
   show advs t (r + 1) (t.advance { j := j, more := r + 1, i := i, perturb := pert, dummy := none }) = _
   rw [← ih]
   rfl
theorem reach (t : SetTable) (h : Int) : ∀ n, ∃ k, k ≤ 10 * n ∧ advs t k (t.probeStart h) = base t.mask (bs t.mask (bits h) n).1 (bs t.mask (bits h) n).2
 | 0 => ⟨0, SW _, rfl⟩
 | n + 1 => by
   obtain ⟨k, hk, e⟩ := reach t h n
   refine ⟨k + (runEnd t.mask (bs t.mask (bits h) n).1 - (bs t.mask (bits h) n).1 + 1), ?_, ?_⟩
   ·have := run_le t.mask (bs t.mask (bits h) n).1
    lia
   ·rw [advs_add, e]
    exact advs_run t _ _ _ _
theorem slot_empty {t : SetTable} (hd : t.dummies = #[]) {e : Nat} (he : ∀ i : Nat, t.place[i]? ≠ some e) : t.slot e = .empty := by
 unfold slot
 have h1 : (t.place[below t.place e]? == some e) = false := by
  rw [beq_eq_false_iff_ne]; exact he _
 have h2 : has t.dummies e = false := by
  rw [hd]; unfold has; rfl
 simp only [h1, h2]
 rfl
theorem slot_cases {t : SetTable} (hd : t.dummies = #[]) (j : Nat) : t.slot j = .empty ∨ ∃ i, t.slot j = .live i ∧ t.place[i]? = some j := by
 by_cases h : t.place[below t.place j]? = some j
 ·refine .inr ⟨below t.place j, ?_, h⟩
  unfold slot
  have h1 : (t.place[below t.place j]? == some j) = true := by rw [h]; exact beq_self_eq_true _
  simp only [h1]
  rfl
 ·refine .inl ?_
  unfold slot
  have h1 : (t.place[below t.place j]? == some j) = false := by rw [beq_eq_false_iff_ne]; exact h
  have h2 : has t.dummies j = false := by rw [hd]; unfold has; rfl
  simp only [h1, h2]
  rfl
def Hit (t : SetTable) (k : Nat) (p : Probe) : Prop := t.slot (advs t k p).j = .empty
theorem adv_dummy (t : SetTable) {p : Probe} (h : p.dummy = none) : (t.advance p).dummy = none := by
 unfold advance
 split
 ·exact h
 ·exact h
theorem nd_le : ∀ {l m : List Nat}, l.Nodup → (∀ x, x ∈ l → x ∈ m) → l.length ≤ m.length
 | [], m, _, _ => T1 _
 | a :: l, m, hn, hs => by
   rw [Tt] at hn
   have ha := hs a SJ
   have ih := nd_le (l := l) (m := m.erase a) hn.2 fun x hx => (List.mem_erase_of_ne (fun e : x = a => hn.1 (e ▸ hx))).mpr (hs x (SK _ hx))
   rw [List.length_erase_of_mem ha] at ih
   have := List.length_pos_of_mem ha
   rw [Ta]; lia
theorem start_hit {t : SetTable} (hm : t.mask = 7 ∨ t.mask = 31) (hd : t.dummies = #[]) (hs : t.place.size ≤ t.mask) (h : Int) : ∃ k, k < 10 * turns t.mask ∧ Hit t k (t.probeStart h) := by
 have he : ∃ e, e < t.mask + 1 ∧ ∀ i : Nat, t.place[i]? ≠ some e := by
  refine Classical.byContradiction fun hn => ?_
  have hall : ∀ e, e < t.mask + 1 → e ∈ t.place.toList := fun e he => by
   refine Classical.byContradiction fun hne => hn ⟨e, he, fun i hi => hne ?_⟩
   exact TL (by rw [Ux]; exact hi)
  have hsub : (Sx (t.mask + 1)).Subset t.place.toList := fun e he => hall e (SD.mp he)
  have hlen := nd_le (List.nodup_range (n := t.mask + 1)) hsub
  rw [Uy, SU] at hlen
  lia
 obtain ⟨e, he1, he2⟩ := he
 obtain ⟨n, hn, hb⟩ := bs_hits (b := bits h) hm (bits_lt h) he1
 obtain ⟨k, hk, hr⟩ := reach t h n
 refine ⟨k, ?_, ?_⟩
 ·unfold turns; lia
 ·unfold Hit
  rw [hr]
  show t.slot (bs t.mask (bits h) n).1 = _
  rw [hb]
  exact slot_empty hd he2
end St
end L2
namespace L2
open PySem PySem.Spec PyProof.Rows
namespace St
open SetTable
section
variable {prog : Program} {w : World} {K : Type} [DecidableEq K] (knd : KeyKind prog w K)
def IsN (h : Heap) (ks : List K) (a : Addr) : Prop := ∃ o items n, h.get? a = some o ∧ o.cls = .type "tuple" ∧ o.data = .seq items n ∧ ItemsAre knd ks items.toList ∧ ∀ v ∈ items.toList, ∃ k t, v = .int k t
variable {knd}
theorem IsN.key {h : Heap} {ks : List K} {a : Addr} (x : IsN knd h ks a) : IsTupleKey knd h ks a := let ⟨o, i, n, h1, h2, h3, h4, _⟩ := x; ⟨o, i, n, h1, h2, h3, h4⟩
theorem IsN.keep {h h' : Heap} {ks : List K} {a : Addr} (x : IsN knd h ks a) (k : ∀ o, h.get? a = some o → h'.get? a = some o) : IsN knd h' ks a := let ⟨o, i, n, h1, h2⟩ := x; ⟨o, i, n, k o h1, h2⟩
variable {A : Around} {E : Value → Shared → Prop} {s : Shared}
theorem wpAny_seqItemsQ {M : Model} {a : Addr} {o : Obj} {items n} {Q : Option (Array Value) → Shared → Prop} (ho : s.heap.get? a = some o) (hd : o.data = .seq items n) (h : Q (some items) s) : wpAny M A (seqItems? (.ref a)) Q E s := by
 unfold seqItems?
 refine wpAny_bind (wpAny_load ho ?_)
 rw [hd]
 exact wpAny_pure h
theorem hashByValue_n {ks : List K} {a : Addr} {Q : Bool → Shared → Prop} (hk : IsN knd s.heap ks a) (h : Q true s) : wpAny (model prog w) A (hashByValue 8 (.ref a)) Q E s := by
 have hT := hk.key.typeIs
 obtain ⟨o, items, n, ho, _, hd, hi, hall⟩ := hk
 unfold hashByValue
 refine wpAny_bind (wpAny_specialOf hT F.slot_tuple_hash.lookup ?_)
 show wpAny _ _ (seqItems? (.ref a) >>= _) _ _ s
 refine wpAny_bind (wpAny_seqItemsQ ho hd ?_)
 refine wpAny_bind ?_
 show wpAny _ _ (forIn items _ _) _ _ s
 rw [← Array.forIn_toList]
 refine wpAny_forIn_list _ (fun Bu r s' => r.1 = none ∧ s' = s ∧ ∀ v ∈ Bu, ∃ k t, v = Value.int k t) _ ?_ ?_ _ _ ⟨rfl, rfl, hall⟩
 ·rintro v Bu r s' ⟨hr, rfl, hall⟩
  obtain ⟨k, t, rfl⟩ := hall v SJ
  refine wpAny_bind (m := hashByValue 7 (.int k t)) (wpAny_pure ?_)
  simp only [Bool.not_true, Bool.false_eq_true, if_false]
  exact wpAny_pure ⟨rfl, rfl, fun u hu' => hall u (SK _ hu')⟩
 ·rintro ⟨r1, r2⟩ s' ⟨hr, rfl, _⟩
  simp only at hr
  subst hr
  exact wpAny_pure h
theorem ofClass_n {ks : List K} {a : Addr} {Q : Bool → Shared → Prop} (hk : IsN knd s.heap ks a) (h : Q false s) : wpAny (model prog w) A (ofAClassStatement 8 (.ref a)) Q E s := by
 have hT := hk.key.typeIs
 obtain ⟨o, items, n, ho, _, hd, hi, hall⟩ := hk
 unfold ofAClassStatement
 refine wpAny_bind (wpAny_typeOf hT ?_)
 refine wpAny_bind (m := pure true) (wpAny_pure ?_)
 simp only [Bool.not_true, Bool.false_eq_true, if_false]
 refine wpAny_bind (wpAny_seqItemsQ ho hd ?_)
 refine wpAny_bind ?_
 show wpAny _ _ (forIn items _ _) _ _ s
 rw [← Array.forIn_toList]
 refine wpAny_forIn_list _ (fun Bu r s' => r.1 = none ∧ s' = s ∧ ∀ v ∈ Bu, ∃ k t, v = Value.int k t) _ ?_ ?_ _ _ ⟨rfl, rfl, hall⟩
 ·rintro v Bu r s' ⟨hr, rfl, hall⟩
  obtain ⟨k, t, rfl⟩ := hall v SJ
  refine wpAny_bind (m := ofAClassStatement 7 (.int k t)) (wpAny_pure ?_)
  simp only [Bool.false_eq_true, if_false]
  exact wpAny_pure ⟨rfl, rfl, fun u hu' => hall u (SK _ hu')⟩
 ·rintro ⟨r1, r2⟩ s' ⟨hr, rfl, _⟩
  simp only at hr
  subst hr
  exact wpAny_pure h
def Ns (knd : KeyKind prog w K) (h : Heap) (l : List Value) (ks : List K) : Prop := ∀ v ∈ l, ∃ b k', v = .ref b ∧ IsN knd h k' b ∧ k' ≠ ks
end
end St
end L2
namespace L2
open PySem PySem.Spec PyProof.Rows
namespace St
open SetTable
theorem free_ok {owner : Array (Option Nat)} {b e : Nat} (he : owner.getD e (some 0) = none) : ∀ (fuel m n : Nat), m < fuel → (bs 31 b (n + m)).1 = e →
 ∃ j, layClean.free 31 owner fuel (bs 31 b n).1 (bs 31 b n).2 = some j ∧ owner.getD j (some 0) = none
 | fuel + 1, m, n, hm, hb => by
   unfold layClean.free
   split
   ·next k hk =>
    have := List.find?_some hk
    exact ⟨_, rfl, Option.isNone_iff_eq_none.mp this⟩
   ·next hk =>
    cases m with
    | zero =>
      exfalso
      rw [List.find?_eq_none] at hk
      have h0 : (0 : Nat) ∈ Sx (runEnd 31 (bs 31 b n).1 + 1 - (bs 31 b n).1) := SD.mpr (by unfold runEnd; split <;> lia)
      have h1 := hk 0 h0
      rw [Nat.add_zero] at hb h1
      rw [hb, he] at h1
      exact h1 rfl
    | succ m =>
      obtain ⟨j, h1, h2⟩ := free_ok he fuel m (n + 1) (by lia) (by rw [show n + 1 + m = n + (m + 1) by lia]; exact hb)
      exact ⟨j, h1, h2⟩
def lv (owner : Array (Option Nat)) (j : Nat) : Option (Nat × Nat) := (owner.getD j none).map (j, ·)
theorem lv_set {owner : Array (Option Nat)} {j k : Nat} (hj : owner.getD j (some 0) = none) (hs : owner.size = 32) : (((Sx 32).filterMap (lv (owner.setIfInBounds j (some k)))).map (·.2)).Perm (k :: ((Sx 32).filterMap (lv owner)).map (·.2)) ∧ j < 32 := by
 have hjl : j < 32 := by
  refine Nat.lt_of_not_le fun hle => ?_
  rw [Uz, Array.getElem?_eq_none (by lia)] at hj
  cases hj
 refine ⟨?_, hjl⟩
 have hsplit : Sx 32 = Sx j ++ j :: (Sx 32).drop (j + 1) := by
  have h1 : (Sx 32)[j]? = some j := List.getElem?_range hjl
  obtain ⟨hlt, hg⟩ := SQ.mp h1
  have h2 := (List.take_append_drop j (Sx 32)).symm
  rw [List.drop_eq_getElem_cons hlt, hg, List.take_range, TY (by lia)] at h2
  exact h2
 have hne1 : ∀ a ∈ Sx j, lv (owner.setIfInBounds j (some k)) a = lv owner a := fun a ha => by
  have : a ≠ j := by have := SD.mp ha; lia
  unfold lv
  rw [Uz, Uz, UA (Ne.symm this)]
 have hne2 : ∀ a ∈ (Sx 32).drop (j + 1), lv (owner.setIfInBounds j (some k)) a = lv owner a := fun a ha => by
  have : a ≠ j := by
   obtain ⟨i, hi⟩ := UB ha
   rw [Ue] at hi
   have hi2 := (SQ.mp hi)
   obtain ⟨hl, hi3⟩ := hi2
   rw [UC] at hi3
   lia
  unfold lv
  rw [Uz, Uz, UA (Ne.symm this)]
 have hnew : lv (owner.setIfInBounds j (some k)) j = some (j, k) := by
  unfold lv
  rw [Uz, Array.getElem?_setIfInBounds_self_of_lt (by lia)]; rfl
 have hold : lv owner j = none := by
  unfold lv
  rw [Uz] at hj ⊢
  have hlt : j < owner.size := by lia
  rw [UD hlt] at hj ⊢
  show (owner[j]).map _ = none
  have hj' : owner[j] = none := hj
  rw [hj']; rfl
 have hcong : ∀ {l : List Nat}, (∀ a ∈ l, lv (owner.setIfInBounds j (some k)) a = lv owner a) → l.filterMap (lv (owner.setIfInBounds j (some k))) = l.filterMap (lv owner) := fun {l} h => by
  induction l with
  | nil => rfl
  | cons a l ih =>
    rw [SI, SI, h a SJ, ih fun b hb => h b (SK _ hb)]
 rw [hsplit, List.filterMap_append, List.filterMap_append, UE hnew, List.filterMap_cons_none hold, hcong hne1, hcong hne2, UG, UG, Te]
 exact List.perm_middle
def Own (owner : Array (Option Nat)) (k : Nat) : Prop := owner.size = 32 ∧ (((Sx 32).filterMap (lv owner)).map (·.2)).Perm (Sx k)
theorem own_free {owner : Array (Option Nat)} {k : Nat} (ho : Own owner k) (hk : k < 32) : ∃ e, e < 32 ∧ owner.getD e (some 0) = none := by
 refine Classical.byContradiction fun hn => ?_
 have hall : ∀ e, e < 32 → owner.getD e (some 0) ≠ none := fun e he z => hn ⟨e, he, z⟩
 have hlen := ho.2.length_eq
 rw [Th, Uy] at hlen
 have hall2 : ∀ a ∈ Sx 32, (lv owner a).isSome = true := fun a ha => by
  have ha' := SD.mp ha
  have h1 := hall a ha'
  unfold lv
  rw [Uz] at h1 ⊢
  have hlt : a < owner.size := by rw [ho.1]; exact ha'
  rw [UD hlt] at h1 ⊢
  cases hc : owner[a] with
  | none => rw [hc] at h1; exact absurd rfl h1
  | some v => show ((some v).map (fun x => (a, x))).isSome = true; rfl
 have hfl : ∀ {l : List Nat}, (∀ a ∈ l, (lv owner a).isSome = true) → (l.filterMap (lv owner)).length = l.length := fun {l} h => by
  induction l with
  | nil => rfl
  | cons a l ih =>
    obtain ⟨v, hv⟩ := Option.isSome_iff_exists.mp (h a SJ)
    rw [UE hv, Ta, Ta, ih fun b hb => h b (SK _ hb)]
 rw [hfl hall2, Uy] at hlen
 lia
def stp (acc : Option (Array (Option Nat) × Nat)) (h : Int) : Option (Array (Option Nat) × Nat) := do
 let (owner, k) ← acc
 let j ← layClean.free 31 owner (turns 31) (bits h % (31 + 1)) (bits h)
 pure (owner.setIfInBounds j (some k), k + 1)
theorem stp_ok {owner : Array (Option Nat)} {k : Nat} (ho : Own owner k) (hk : k < 32) (h : Int) : ∃ owner', stp (some (owner, k)) h = some (owner', k + 1) ∧ Own owner' (k + 1) := by
 obtain ⟨e, he, hn⟩ := own_free ho hk
 obtain ⟨n, hn1, hn2⟩ := bs_hits (mask := 31) (b := bits h) (.inr rfl) (bits_lt h) (show e < 31 + 1 by lia)
 obtain ⟨j, hj1, hj2⟩ := free_ok (owner := owner) (b := bits h) hn (turns 31) n 0 (by unfold turns; lia) (by rw [Uw]; exact hn2)
 have hp := lv_set (k := k) hj2 ho.1
 refine ⟨owner.setIfInBounds j (some k), ?_, ?_, ?_⟩
 ·have hj1' : layClean.free 31 owner (turns 31) (bits h % (31 + 1)) (bits h) = some j := hj1
  show (do let j ← layClean.free 31 owner (turns 31) (bits h % (31 + 1)) (bits h); pure (owner.setIfInBounds j (some k), k + 1)) = _
  rw [hj1']; rfl
 ·rw [Array.size_setIfInBounds]; exact ho.1
 ·refine hp.1.trans ?_
  rw [show Sx (k + 1) = Sx k ++ [k] from List.range_succ]
  exact (List.Perm.cons k ho.2).trans (List.perm_append_comm (l₁ := [k]))
theorem own_none : Own (UH 32 none) 0 := by
 refine ⟨Array.size_replicate, ?_⟩
 have : (Sx 32).filterMap (lv (UH 32 none)) = [] := by decide +kernel
 rw [this]; exact List.Perm.refl _
end St
end L2
namespace L2
open PySem PySem.Spec PyProof.Rows
namespace St
open SetTable
section
variable {prog : Program} {w : World} {K : Type} [DecidableEq K] (knd : KeyKind prog w K) (G : Addr → Prop)
variable {knd} {G}
variable {A : Around} {E : Value → Shared → Prop} {s : Shared}
theorem insert_size {α : Type} (xs : Array α) (p : Nat) (x : α) : (insertAt xs p x).size = xs.size + 1 := by
 have h := (SetTable.insertAt_perm xs p x).length_eq
 rw [SU, SU, Array.size_push] at h
 exact h
end
end St
end L2
namespace L2
open PySem PySem.Spec PyProof.Rows
namespace St
section
variable {prog : Program} {w : World} {K : Type} [DecidableEq K] {knd : KeyKind prog w K} {G : Addr → Prop} {A : Around} {R : Result → Shared → Prop} {I : Addr} {fp wr : List Addr} {GG : Array GenState → Array GenState → Prop} {n : Nat} {P : Nat → Value → Prop} {St : Nat → Shared → Prop}
theorem turn_of {S : Addr} {s : Shared} (hz : wpAny (model prog w) A.in1 (Builtin.«set.update.loop» ⟨[.ref S, .ref I], []⟩)
 (fun fin s' => match fin with | .done f => R (.ok f) s' | .again c' => c'.quiet = true ∧ codeAny (model prog w) A c' R s') (fun e s' => R (.error e) s') s) :
 codeAny (model prog w) A (.builtin "set.update.loop" ⟨[.ref S, .ref I], []⟩) R s :=
 codeAny_builtin F.entry_set_update_loop ((Around.under_plainId F.plain_set_update_loop (A := A) ⟨[.ref S, .ref I], []⟩).symm ▸ hz)
end
section
variable {prog : Program} {w : World} {K : Type} [DecidableEq K] {knd : KeyKind prog w K} {A : Around} {E : Value → Shared → Prop} {s : Shared}
abbrev nS (led : Bool) : Obj := { cls := .type "set", dict := none, data := .set #[] 0 (.fresh 0 0 led) }
abbrev nI (l : Addr) : Obj := { cls := .type "list_iterator", data := .fields #[.ref l, .int 0 0] }
end
end St
end L2
namespace L2
open PySem PySem.Spec PyProof.Rows
theorem P5 : bootBuiltins "set" = some (.type "set") := by decide +kernel
def N6 (p : Addr) (n : Nat) : HO := .ext fun h => ∃ o es ep t, h.get? p = some o ∧ o.ExactSet ∧ o.data = .set es ep t ∧ SetTable.fits t es.size = true ∧ es.size = n
theorem OT {P : Program} {w : World} {H : Hp} {h : Heap} {a : Addr} {q : Rat} (ok : HOk P w H h) (e : H a = some (nT q)) : St.IsN (BK P w) h (kQ q) a := by
 obtain ⟨_, its, rv, o, ho, hc, n, hd⟩ := ok a _ e
 refine ⟨o, its.toArray, n, ho, hc, hd, HA (ks := kQ q) rv, fun v hv => ?_⟩
 have hv' : v ∈ its := by simpa using hv
 cases rv with
 | cons r1 rr =>
   cases rr with
   | cons r2 rr =>
     cases rr
     obtain ⟨t1, rfl⟩ := r1
     obtain ⟨t2, rfl⟩ := r2
     rcases SM.mp hv' with z | z
     ·exact ⟨_, _, z⟩
     ·exact ⟨_, _, Uh.mp z⟩
section
variable {X : Cx}
theorem LO : BO X (.builtin "len") (fun xs H Q => ∃ (p : Addr) (n : Nat), xs = [.ref p] ∧ H p = some (N6 p n) ∧ n ≤ 1000 ∧ Q (.int (n : Int)) H) := by
 intro pins s σ H xs us Q I r h
 obtain ⟨p, n, rfl, hp, hn, q⟩ := h
 obtain ⟨u, rfl, rfl⟩ := CK r
 obtain ⟨⟨o, es, ep, t, h1, h2, h3, h4, h5⟩, _⟩ := I.hok p _ hp
 subst h5
 exact call_len_set h1 h2 h3 h4 (by lia) ⟨.int _, H, I.tok _, ⟨_, rfl⟩, q⟩
end
end L2
namespace L2
open PySem PySem.Spec PyProof.Rows
section
open PySem.W
variable {X : Cx} (K : SE)
theorem Gq : kitAny K (.type "list") [.type "list", .type "tuple"] = some true := by kernel_rfl
theorem Gp : kitAny K (.type "tuple") [.type "list", .type "tuple"] = some true := by kernel_rfl
end
end L2
namespace L2
open PySem PySem.Spec PyProof.Rows
structure Qe (X : Cx) (N : List Str) (nt : Nat) (js : List Nat) (scope : Scope) (x : Str) : Prop where
 kind : scope.kind = .function
 split : ∃ pre post, scope.names = pre ++ (x, .cell) :: post ∧ (∀ y ∈ pre, y.2 ≠ .cell) ∧ ∀ y ∈ post, y.2 ≠ .cell
 only : ∀ y ∈ scope.names, y.2 = .cell → y.1 = x
 lx : scope.names.lookup x = some .cell
 names : ∀ y ∈ scope.names, y.2 = .local → scope.names.lookup y.1 = some .local
 free : ∀ y ∈ scope.names, y.2 = .free → X.env.kindOf y.1 = some .cell ∨ X.env.kindOf y.1 = some .free
 len : N.length = nt + js.length
 outer : ∀ j i, js[j]? = some i → ∃ x, N[nt + j]? = some x ∧ X.N[i]? = some x ∧ scope.names.lookup x = some .free
section
variable {X : Cx} {N : List Str} {nt : Nat} {js : List Nat} {scope : Scope} {cl : List (Str × Addr)} {x : Str} {c : Addr}
end
section
variable {X : Cx} {N : List Str} {nt : Nat} {js : List Nat} {scope : Scope} {elt iter tg : Expr} {ifs : List Expr} {pos : Pos} {g : TG} {tc : TT} {te : TE} {wi : TI} {xn : Str}
end
def Py (scope sc : Scope) : Scope := { scope with names := scope.names.map fun (n, k) => if (k == .free && sc.kind == .function && sc.names.lookup n == some .cell) then (n, .cell) else (n, k) }
end L2
namespace L2
open PySem PySem.Spec PyProof.Rows
@[reducible] def Cl (u : SE → TS) (K : SE) : TS := u K
theorem Ae {X : Cx} {st : Stmt} {Bu : List Stmt} {t v : TS} {K : SE} {u : SE → TS} (h1 : PS X st t) (h2 : PSs X Bu v) (e : v = u K) : PSs X (st :: Bu) (Nd t (Cl u K)) := by
 subst e; exact Bl h1 h2
section
variable {X : Cx} {o e : Expr} {es : List Expr} {to : TE} {t : TA} {name : Str} {apos cpos : Pos} {T id : String} {r : V → List V → Hp → VK → Prop}
theorem BR (K : SE) (pa : PlainAttrs T) (slot : Slot T name id) (hty : typeOf (.builtin id) = pure (.type "method_descriptor")) (hm : MtR X id r) (ho : PE X o to) (ha : PA X (e :: es) t)
 (hbase : attributeBase o name X.env (eval o X.env) = eval o X.env := by rfl)
 (hfew : ((backTo cpos (starEach (e :: es) X.env)).all (fun x => !x.1) && (backToKw cpos (keywordEach [] X.env)).all (fun x => x.1.isSome)
  && decide ((e :: es).length + ([] : List Keyword).length + (if ([] : List Keyword).isEmpty then 0 else 1) < 30)) = true := by rfl)
 (hline : (apos.endLine == cpos.line) = true := by rfl) (hs : starEach (e :: es) X.env = (false, eval e X.env) :: starEach es X.env := by rfl) (hplain : (backTo cpos (starEach es X.env)).any (·.1) = false := by rfl) (eK : X.K = K := by rfl) :
 PE X (.Call (.Attribute o name apos) (e :: es) [] cpos) (tBM K T r to t) := PM pa slot hty hm ho ha hbase hfew hline hs hplain eK
end
theorem Be {c : Bool} {A B : Prop} (e : c = true) (h : A) : if c = true then A else B := by
 rw [if_pos e]; exact h
theorem AM {c : Bool} {A B : Prop} (e : c = false) (h : B) : if c = true then A else B := by
 rw [if_neg (by rw [e]; decide)]; exact h
theorem CY {α : Type} {l : List α} {n : Nat} (h : l.length = n + 1) : ∃ a r, l = a :: r ∧ r.length = n := by
 cases l with
 | nil => cases h
 | cons a r => exact ⟨a, r, rfl, Nat.succ.inj h⟩
theorem Fun.binds1 {K : SE} {x qual : Str} {st : Stmt} {f : Addr} {fd : FuncData} (p1 : Str) (F : Fun K x qual st f fd)
 (h : ∀ (kV doc pm : Value) (an : Option Addr) (cdv ct a1 : Value), bindArgs (TQ x qual (Am st) (Al st) (Ad st) .none kV doc pm an cdv ct) ⟨[a1], []⟩ = pure [(p1, a1)]) : BP K fd [p1] [] :=
 F.binds fun kV doc pm an cdv ct us l0 => by
  obtain ⟨a1, r1, rfl, l1⟩ := CY l0
  cases UI.mp l1
  exact h kV doc pm an cdv ct a1
theorem Fun.binds2 {K : SE} {x qual : Str} {st : Stmt} {f : Addr} {fd : FuncData} (p1 p2 : Str) (F : Fun K x qual st f fd)
 (h : ∀ (kV doc pm : Value) (an : Option Addr) (cdv ct a1 a2 : Value), bindArgs (TQ x qual (Am st) (Al st) (Ad st) .none kV doc pm an cdv ct) ⟨[a1, a2], []⟩ = pure [(p1, a1), (p2, a2)]) : BP K fd [p1, p2] [] :=
 F.binds fun kV doc pm an cdv ct us l0 => by
  obtain ⟨a1, r1, rfl, l1⟩ := CY l0
  obtain ⟨a2, r2, rfl, l2⟩ := CY l1
  cases UI.mp l2
  exact h kV doc pm an cdv ct a1 a2
theorem Fun.binds3 {K : SE} {x qual : Str} {st : Stmt} {f : Addr} {fd : FuncData} (p1 p2 p3 : Str) (F : Fun K x qual st f fd)
 (h : ∀ (kV doc pm : Value) (an : Option Addr) (cdv ct a1 a2 a3 : Value), bindArgs (TQ x qual (Am st) (Al st) (Ad st) .none kV doc pm an cdv ct) ⟨[a1, a2, a3], []⟩ = pure [(p1, a1), (p2, a2), (p3, a3)]) : BP K fd [p1, p2, p3] [] :=
 F.binds fun kV doc pm an cdv ct us l0 => by
  obtain ⟨a1, r1, rfl, l1⟩ := CY l0
  obtain ⟨a2, r2, rfl, l2⟩ := CY l1
  obtain ⟨a3, r3, rfl, l3⟩ := CY l2
  cases UI.mp l3
  exact h kV doc pm an cdv ct a1 a2 a3
@[reducible] def L1 {α1 : Type} {δ : Type} (x1 : α1) (u : α1 → δ) : δ := u x1
@[reducible] def L2 {α1 α2 : Type} {δ : Type} (x1 : α1) (x2 : α2) (u : α1 → α2 → δ) : δ := u x1 x2
@[reducible] def L3 {α1 α2 α3 : Type} {δ : Type} (x1 : α1) (x2 : α2) (x3 : α3) (u : α1 → α2 → α3 → δ) : δ := u x1 x2 x3
@[reducible] def L4 {α1 α2 α3 α4 : Type} {δ : Type} (x1 : α1) (x2 : α2) (x3 : α3) (x4 : α4) (u : α1 → α2 → α3 → α4 → δ) : δ := u x1 x2 x3 x4
@[reducible] def L5 {α1 α2 α3 α4 α5 : Type} {δ : Type} (x1 : α1) (x2 : α2) (x3 : α3) (x4 : α4) (x5 : α5) (u : α1 → α2 → α3 → α4 → α5 → δ) : δ := u x1 x2 x3 x4 x5
@[reducible] def L6 {α1 α2 α3 α4 α5 α6 : Type} {δ : Type} (x1 : α1) (x2 : α2) (x3 : α3) (x4 : α4) (x5 : α5) (x6 : α6) (u : α1 → α2 → α3 → α4 → α5 → α6 → δ) : δ := u x1 x2 x3 x4 x5 x6
@[reducible] def L7 {α1 α2 α3 α4 α5 α6 α7 : Type} {δ : Type} (x1 : α1) (x2 : α2) (x3 : α3) (x4 : α4) (x5 : α5) (x6 : α6) (x7 : α7) (u : α1 → α2 → α3 → α4 → α5 → α6 → α7 → δ) : δ := u x1 x2 x3 x4 x5 x6 x7
@[reducible] def L8 {α1 α2 α3 α4 α5 α6 α7 α8 : Type} {δ : Type} (x1 : α1) (x2 : α2) (x3 : α3) (x4 : α4) (x5 : α5) (x6 : α6) (x7 : α7) (x8 : α8) (u : α1 → α2 → α3 → α4 → α5 → α6 → α7 → α8 → δ) : δ := u x1 x2 x3 x4 x5 x6 x7 x8
@[reducible] def L9 {α1 α2 α3 α4 α5 α6 α7 α8 α9 : Type} {δ : Type} (x1 : α1) (x2 : α2) (x3 : α3) (x4 : α4) (x5 : α5) (x6 : α6) (x7 : α7) (x8 : α8) (x9 : α9) (u : α1 → α2 → α3 → α4 → α5 → α6 → α7 → α8 → α9 → δ) : δ := u x1 x2 x3 x4 x5 x6 x7 x8 x9
@[reducible] def L10 {α1 α2 α3 α4 α5 α6 α7 α8 α9 α10 : Type} {δ : Type} (x1 : α1) (x2 : α2) (x3 : α3) (x4 : α4) (x5 : α5) (x6 : α6) (x7 : α7) (x8 : α8) (x9 : α9) (x10 : α10) (u : α1 → α2 → α3 → α4 → α5 → α6 → α7 → α8 → α9 → α10 → δ) : δ := u x1 x2 x3 x4 x5 x6 x7 x8 x9 x10
@[reducible] def L11 {α1 α2 α3 α4 α5 α6 α7 α8 α9 α10 α11 : Type} {δ : Type} (x1 : α1) (x2 : α2) (x3 : α3) (x4 : α4) (x5 : α5) (x6 : α6) (x7 : α7) (x8 : α8) (x9 : α9) (x10 : α10) (x11 : α11) (u : α1 → α2 → α3 → α4 → α5 → α6 → α7 → α8 → α9 → α10 → α11 → δ) : δ := u x1 x2 x3 x4 x5 x6 x7 x8 x9 x10 x11
@[reducible] def L12 {α1 α2 α3 α4 α5 α6 α7 α8 α9 α10 α11 α12 : Type} {δ : Type} (x1 : α1) (x2 : α2) (x3 : α3) (x4 : α4) (x5 : α5) (x6 : α6) (x7 : α7) (x8 : α8) (x9 : α9) (x10 : α10) (x11 : α11) (x12 : α12) (u : α1 → α2 → α3 → α4 → α5 → α6 → α7 → α8 → α9 → α10 → α11 → α12 → δ) : δ := u x1 x2 x3 x4 x5 x6 x7 x8 x9 x10 x11 x12
@[reducible] def L13 {α1 α2 α3 α4 α5 α6 α7 α8 α9 α10 α11 α12 α13 : Type} {δ : Type} (x1 : α1) (x2 : α2) (x3 : α3) (x4 : α4) (x5 : α5) (x6 : α6) (x7 : α7) (x8 : α8) (x9 : α9) (x10 : α10) (x11 : α11) (x12 : α12) (x13 : α13) (u : α1 → α2 → α3 → α4 → α5 → α6 → α7 → α8 → α9 → α10 → α11 → α12 → α13 → δ) : δ := u x1 x2 x3 x4 x5 x6 x7 x8 x9 x10 x11 x12 x13
@[reducible] def L14 {α1 α2 α3 α4 α5 α6 α7 α8 α9 α10 α11 α12 α13 α14 : Type} {δ : Type} (x1 : α1) (x2 : α2) (x3 : α3) (x4 : α4) (x5 : α5) (x6 : α6) (x7 : α7) (x8 : α8) (x9 : α9) (x10 : α10) (x11 : α11) (x12 : α12) (x13 : α13) (x14 : α14) (u : α1 → α2 → α3 → α4 → α5 → α6 → α7 → α8 → α9 → α10 → α11 → α12 → α13 → α14 → δ) : δ := u x1 x2 x3 x4 x5 x6 x7 x8 x9 x10 x11 x12 x13 x14
@[reducible] def L15 {α1 α2 α3 α4 α5 α6 α7 α8 α9 α10 α11 α12 α13 α14 α15 : Type} {δ : Type} (x1 : α1) (x2 : α2) (x3 : α3) (x4 : α4) (x5 : α5) (x6 : α6) (x7 : α7) (x8 : α8) (x9 : α9) (x10 : α10) (x11 : α11) (x12 : α12) (x13 : α13) (x14 : α14) (x15 : α15) (u : α1 → α2 → α3 → α4 → α5 → α6 → α7 → α8 → α9 → α10 → α11 → α12 → α13 → α14 → α15 → δ) : δ := u x1 x2 x3 x4 x5 x6 x7 x8 x9 x10 x11 x12 x13 x14 x15
@[reducible] def L16 {α1 α2 α3 α4 α5 α6 α7 α8 α9 α10 α11 α12 α13 α14 α15 α16 : Type} {δ : Type} (x1 : α1) (x2 : α2) (x3 : α3) (x4 : α4) (x5 : α5) (x6 : α6) (x7 : α7) (x8 : α8) (x9 : α9) (x10 : α10) (x11 : α11) (x12 : α12) (x13 : α13) (x14 : α14) (x15 : α15) (x16 : α16) (u : α1 → α2 → α3 → α4 → α5 → α6 → α7 → α8 → α9 → α10 → α11 → α12 → α13 → α14 → α15 → α16 → δ) : δ := u x1 x2 x3 x4 x5 x6 x7 x8 x9 x10 x11 x12 x13 x14 x15 x16
@[reducible] def L17 {α1 α2 α3 α4 α5 α6 α7 α8 α9 α10 α11 α12 α13 α14 α15 α16 α17 : Type} {δ : Type} (x1 : α1) (x2 : α2) (x3 : α3) (x4 : α4) (x5 : α5) (x6 : α6) (x7 : α7) (x8 : α8) (x9 : α9) (x10 : α10) (x11 : α11) (x12 : α12) (x13 : α13) (x14 : α14) (x15 : α15) (x16 : α16) (x17 : α17) (u : α1 → α2 → α3 → α4 → α5 → α6 → α7 → α8 → α9 → α10 → α11 → α12 → α13 → α14 → α15 → α16 → α17 → δ) : δ := u x1 x2 x3 x4 x5 x6 x7 x8 x9 x10 x11 x12 x13 x14 x15 x16 x17
@[reducible] def L18 {α1 α2 α3 α4 α5 α6 α7 α8 α9 α10 α11 α12 α13 α14 α15 α16 α17 α18 : Type} {δ : Type} (x1 : α1) (x2 : α2) (x3 : α3) (x4 : α4) (x5 : α5) (x6 : α6) (x7 : α7) (x8 : α8) (x9 : α9) (x10 : α10) (x11 : α11) (x12 : α12) (x13 : α13) (x14 : α14) (x15 : α15) (x16 : α16) (x17 : α17) (x18 : α18) (u : α1 → α2 → α3 → α4 → α5 → α6 → α7 → α8 → α9 → α10 → α11 → α12 → α13 → α14 → α15 → α16 → α17 → α18 → δ) : δ := u x1 x2 x3 x4 x5 x6 x7 x8 x9 x10 x11 x12 x13 x14 x15 x16 x17 x18
@[reducible] def L19 {α1 α2 α3 α4 α5 α6 α7 α8 α9 α10 α11 α12 α13 α14 α15 α16 α17 α18 α19 : Type} {δ : Type} (x1 : α1) (x2 : α2) (x3 : α3) (x4 : α4) (x5 : α5) (x6 : α6) (x7 : α7) (x8 : α8) (x9 : α9) (x10 : α10) (x11 : α11) (x12 : α12) (x13 : α13) (x14 : α14) (x15 : α15) (x16 : α16) (x17 : α17) (x18 : α18) (x19 : α19) (u : α1 → α2 → α3 → α4 → α5 → α6 → α7 → α8 → α9 → α10 → α11 → α12 → α13 → α14 → α15 → α16 → α17 → α18 → α19 → δ) : δ := u x1 x2 x3 x4 x5 x6 x7 x8 x9 x10 x11 x12 x13 x14 x15 x16 x17 x18 x19
@[reducible] def L20 {α1 α2 α3 α4 α5 α6 α7 α8 α9 α10 α11 α12 α13 α14 α15 α16 α17 α18 α19 α20 : Type} {δ : Type} (x1 : α1) (x2 : α2) (x3 : α3) (x4 : α4) (x5 : α5) (x6 : α6) (x7 : α7) (x8 : α8) (x9 : α9) (x10 : α10) (x11 : α11) (x12 : α12) (x13 : α13) (x14 : α14) (x15 : α15) (x16 : α16) (x17 : α17) (x18 : α18) (x19 : α19) (x20 : α20) (u : α1 → α2 → α3 → α4 → α5 → α6 → α7 → α8 → α9 → α10 → α11 → α12 → α13 → α14 → α15 → α16 → α17 → α18 → α19 → α20 → δ) : δ := u x1 x2 x3 x4 x5 x6 x7 x8 x9 x10 x11 x12 x13 x14 x15 x16 x17 x18 x19 x20
@[reducible] def L21 {α1 α2 α3 α4 α5 α6 α7 α8 α9 α10 α11 α12 α13 α14 α15 α16 α17 α18 α19 α20 α21 : Type} {δ : Type} (x1 : α1) (x2 : α2) (x3 : α3) (x4 : α4) (x5 : α5) (x6 : α6) (x7 : α7) (x8 : α8) (x9 : α9) (x10 : α10) (x11 : α11) (x12 : α12) (x13 : α13) (x14 : α14) (x15 : α15) (x16 : α16) (x17 : α17) (x18 : α18) (x19 : α19) (x20 : α20) (x21 : α21) (u : α1 → α2 → α3 → α4 → α5 → α6 → α7 → α8 → α9 → α10 → α11 → α12 → α13 → α14 → α15 → α16 → α17 → α18 → α19 → α20 → α21 → δ) : δ := u x1 x2 x3 x4 x5 x6 x7 x8 x9 x10 x11 x12 x13 x14 x15 x16 x17 x18 x19 x20 x21
@[reducible] def L22 {α1 α2 α3 α4 α5 α6 α7 α8 α9 α10 α11 α12 α13 α14 α15 α16 α17 α18 α19 α20 α21 α22 : Type} {δ : Type} (x1 : α1) (x2 : α2) (x3 : α3) (x4 : α4) (x5 : α5) (x6 : α6) (x7 : α7) (x8 : α8) (x9 : α9) (x10 : α10) (x11 : α11) (x12 : α12) (x13 : α13) (x14 : α14) (x15 : α15) (x16 : α16) (x17 : α17) (x18 : α18) (x19 : α19) (x20 : α20) (x21 : α21) (x22 : α22) (u : α1 → α2 → α3 → α4 → α5 → α6 → α7 → α8 → α9 → α10 → α11 → α12 → α13 → α14 → α15 → α16 → α17 → α18 → α19 → α20 → α21 → α22 → δ) : δ := u x1 x2 x3 x4 x5 x6 x7 x8 x9 x10 x11 x12 x13 x14 x15 x16 x17 x18 x19 x20 x21 x22
@[reducible] def L23 {α1 α2 α3 α4 α5 α6 α7 α8 α9 α10 α11 α12 α13 α14 α15 α16 α17 α18 α19 α20 α21 α22 α23 : Type} {δ : Type} (x1 : α1) (x2 : α2) (x3 : α3) (x4 : α4) (x5 : α5) (x6 : α6) (x7 : α7) (x8 : α8) (x9 : α9) (x10 : α10) (x11 : α11) (x12 : α12) (x13 : α13) (x14 : α14) (x15 : α15) (x16 : α16) (x17 : α17) (x18 : α18) (x19 : α19) (x20 : α20) (x21 : α21) (x22 : α22) (x23 : α23) (u : α1 → α2 → α3 → α4 → α5 → α6 → α7 → α8 → α9 → α10 → α11 → α12 → α13 → α14 → α15 → α16 → α17 → α18 → α19 → α20 → α21 → α22 → α23 → δ) : δ := u x1 x2 x3 x4 x5 x6 x7 x8 x9 x10 x11 x12 x13 x14 x15 x16 x17 x18 x19 x20 x21 x22 x23
@[reducible] def L24 {α1 α2 α3 α4 α5 α6 α7 α8 α9 α10 α11 α12 α13 α14 α15 α16 α17 α18 α19 α20 α21 α22 α23 α24 : Type} {δ : Type} (x1 : α1) (x2 : α2) (x3 : α3) (x4 : α4) (x5 : α5) (x6 : α6) (x7 : α7) (x8 : α8) (x9 : α9) (x10 : α10) (x11 : α11) (x12 : α12) (x13 : α13) (x14 : α14) (x15 : α15) (x16 : α16) (x17 : α17) (x18 : α18) (x19 : α19) (x20 : α20) (x21 : α21) (x22 : α22) (x23 : α23) (x24 : α24) (u : α1 → α2 → α3 → α4 → α5 → α6 → α7 → α8 → α9 → α10 → α11 → α12 → α13 → α14 → α15 → α16 → α17 → α18 → α19 → α20 → α21 → α22 → α23 → α24 → δ) : δ := u x1 x2 x3 x4 x5 x6 x7 x8 x9 x10 x11 x12 x13 x14 x15 x16 x17 x18 x19 x20 x21 x22 x23 x24
theorem Aw {X : Cx} {c : Expr} {a b : List Stmt} {pos : Pos} {tc : TT} {v1 v2 : TS} {K : SE} {u1 u2 : SE → TS} (hc : PT X c tc) (ha : PSs X a v1) (hb : PSs X b v2) (e1 : v1 = u1 K) (e2 : v2 = u2 K) : PS X (.If c a b pos) (Li tc (Cl u1 K) (Cl u2 K)) := by
 subst e1; subst e2; exact PJ hc ha hb
theorem D9 {X : Cx} {tg iter : Expr} {body : List Stmt} {wi : TI} {g : TG} {v : TS} {pos : Pos} {K : SE} {u : SE → TS} (hp : PassesOwn (model X.prog X.w) X.A X.env X.xe) (hc : X.calm = true) (hi : PI X tg iter wi) (hg : PG X tg g) (hb : PSs X body v) (e : v = u K)
 (hs : ∀ x, foldedSetIterable iter X.env x = pure x := by intro _; rfl) : PS X (.For tg iter body [] pos) (Po wi g (Cl u K)) := by
 subst e; exact Oo hp hc hi hg hb hs
theorem MG {a b c d : Nat} (h1 : a = c) (h2 : b = d) : ((a : Int) - (b : Int)).toNat = c - d := by rw [h1, h2]; exact Int.toNat_sub c d
theorem MF {a b : Nat} (h : a = b) : ((a : Int) - 1).toNat = b - 1 := MG (b := 1) h rfl
theorem Ny {a k m t b : Nat} (ha : a ≤ 200) (hk : k < m - 1) (hm : m = 2 ∨ m = 3) (e : a = t) : t + min k b ≤ 204 := by
 rw [← e]
 have h4 : k ≤ 4 := by
  rcases hm with rfl | rfl
  ·exact SG (SH hk) (by decide)
  ·exact SG (SH hk) (by decide)
 exact Nat.add_le_add ha (SG (Nat.min_le_left _ _) h4)
end L2
namespace L2
open PySem PySem.Spec PyProof.Rows
def EE (B : Heap) (l : List Env) (e : Addr) (c a0 m : Value) (h : Heap) : Prop :=
 B.StaysIn h ∧ B.get? e = none ∧ h.FunFrames B l ∧ ∃ (o : Obj) (v : Array Value) (T : Addr) (oT : Obj) (ts : Array Value), h.get? e = some o ∧ o.cls = c ∧ o.data = .fields v ∧ v[0]? = some a0 ∧ v[2]? = some .none ∧
  v[1]? = some (.ref T) ∧ B.get? T = none ∧ T ≠ e ∧ h.get? T = some oT ∧ oT.data = .fields ts ∧ ts[3]? = some m
def Hj (o : Obj) : Prop := ∃ v, o.data = .fields v ∧ v[2]? = some .none
theorem EE.obj {B h : Heap} {l : List Env} {e : Addr} {c a0 m : Value} (x : EE B l e c a0 m h) : ∃ o, h.get? e = some o ∧ o.cls = c ∧ Hj o := by
 obtain ⟨_, _, _, o, v, _, _, _, q1, q2, q3, _, q5, _⟩ := x
 exact ⟨o, q1, q2, v, q3, q5⟩
section
variable {M : Model} {A : Around} {E : Value → Shared → Prop} {s : Shared} {B : Heap} {env : Env} {outer : List Env} {L e : Addr}
theorem Gk {o : Obj} {v : Array Value} {hd0 a0 : Value} {had : Bool} {Q : Unit → Shared → Prop} (hA : A.frames = some (env :: outer)) (hF : s.heap.FunFrames B (env :: outer)) (hL : env.frame = some L)
 (he : s.heap.get? e = some o) (hB : B.StaysIn s.heap) (hn : B.get? e = none) (hv : o.data = .fields v) (z1 : 1 < v.size) (z0 : v[0]? = some a0) (z2 : v[2]? = some .none)
 (k : ∀ h', EE B (env :: outer) e o.cls a0 (rawInt L) h' → s.heap.UpToSlots h' → Q () { s with heap := h' }) :
 wpAny M A (do let fr ← frameOf env; let ps ← entryPlaceOf L had; let en ← EntryCells.newEntry hd0 fr .none (rawInt L) .none ps; setField (.ref e) 1 en) Q E s := by
 have out : e ∉ (env :: outer).filterMap (·.frame) := fun z => by
  obtain ⟨_, o', e', nf⟩ := hF.mem z
  rw [he] at e'
  cases e'
  exact nf v hv
 refine wpAny_bind (wpAny_frameOf_fun hA hF hL fun g sg => wpAny_bind (wpAny_entryPlaceOf fun ps hp => ?_))
 unfold EntryCells.newEntry newFields
 refine wpAny_bind (wpAny_newObj_type ?_ (hp.sizeOk5 _ _ _ _ _))
 generalize hob : ({ cls := .type "traceback", dict := none, data := .fields ([hd0, .ref L, .none, rawInt L, .none] ++ (if ps.isEmpty then Tv 6 Value.none else ps)).toArray } : Obj) = ob
 have hg : g.get? e = some o := (sg.2.1 e out).trans he
 have gB : B.StaysIn g := fun b u q => (sg.2.1 b fun z => by rw [(hF.mem z).1] at q; cases q).trans (hB b u q)
 have nT : g.objs.size ≠ e := SV (Heap.lt_size hg)
 have hp1 : (g.push ob).get? e = some o := Heap.get?_push_of_some _ hg
 refine wpAny_setField hp1 hv z1 (k _ ?_ ?_)
 ·have d1 := Obj.data_mapFields hv (·.setIfInBounds 1 (Value.ref g.objs.size))
  have old : ∀ b u, b ≠ e → g.get? b = some u → ((g.push ob).update e (Obj.mapFields (·.setIfInBounds 1 (Value.ref g.objs.size)))).get? b = some u := fun b u n q => by
   rw [Heap.get?_update_other _ _ (Ne.symm n)]
   exact Heap.get?_push_of_some _ q
  have fresh : ob.isFreed = false := by rw [← hob]; rfl
  refine ⟨fun b u q => old b u (fun z => by rw [z, hn] at q; cases q) (gB b u q), hn, hF.of_keeps fun b u q nf => ?_, _, _, g.objs.size, ob, _, Heap.get?_update_self _ hp1 (Obj.isFreed_of_fields d1), Obj.cls_mapFields _ _, d1, ?_, ?_, ?_, gB.fresh, nT, ?_, by rw [← hob], ?_⟩
  ·obtain ⟨sl, q'⟩ := sg.2.2 b u q
   exact ⟨_, old b _ (fun z => by rw [z, he] at q; cases q; exact nf v hv) q', rfl⟩
  ·rw [UA (by decide)]; exact z0
  ·rw [UA (by decide)]; exact z2
  ·simp [z1]
  ·rw [Heap.get?_update_other _ _ (Ne.symm nT)]
   exact Heap.get?_push_size g fresh
  ·rcases hp with rfl | ⟨_, _, _, _, _, _, _, rfl⟩ <;> simp
 ·intro b u q nf
  obtain ⟨sl, q'⟩ := sg.2.2 b u q
  refine ⟨sl, ?_⟩
  rw [Heap.get?_update_other _ _ (fun z => by rw [← z, he] at q; cases q; exact nf v hv)]
  exact Heap.get?_push_of_some _ q'
theorem NY {c a0 : Value} {Q : Unit → Shared → Prop} (hA : A.frames = some (env :: outer)) (hL : env.frame = some L) (x : EE B (env :: outer) e c a0 .none s.heap)
 (k : ∀ h', EE B (env :: outer) e c a0 (rawInt L) h' → s.heap.UpToSlots h' → Q () { s with heap := h' }) : wpAny M A (noteFrame (.ref e) env) Q E s := by
 obtain ⟨b1, b2, b3, o, v, T, oT, ts, q1, q2, q3, q4, q5, q6, q7, q8, q9, q10, q11⟩ := x
 subst q2
 unfold noteFrame
 simp only [hL]
 refine wpAny_bind (wpAny_field q1 q3 q6 ?_)
 rw [if_pos (by simp)]
 refine wpAny_bind (wpAny_field q9 q10 q11 ?_)
 rw [if_neg (by simp [rawInt])]
 refine wpAny_bind (wpAny_setField q9 q10 (UJ.mp q11).1 ?_)
 have no : ∀ b u, s.heap.get? b = some u → (∀ w, u.data ≠ .fields w) → b ≠ T := fun b u q nf z => by
  rw [z, q9] at q
  cases q
  exact nf ts q10
 have ot : ∀ b u, b ≠ T → s.heap.get? b = some u → (s.heap.update T (Obj.mapFields (·.setIfInBounds 3 Value.none))).get? b = some u := fun b u n q => (Heap.get?_update_other _ _ (Ne.symm n)).trans q
 refine Gk hA (b3.of_keeps fun b u q nf => ⟨u, ot b u (no b u q nf) q, rfl⟩) hL (ot e o (Ne.symm q8) q1) (fun b u q => ot b u (fun z => by rw [z, q7] at q; cases q) (b1 b u q)) b2 q3 (UJ.mp q6).1 q4 q5 fun h' f us => k h' f fun b u q nf => ?_
 exact us b u (ot b u (no b u q nf) q) nf
theorem KO {l : List Env} {c a0 m : Value} {Q : Unit → Shared → Prop} (x : EE B l e c a0 m s.heap) (k : ∀ h', EE B l e c a0 .none h' → s.heap.UpToSlots h' → Q () { s with heap := h' }) : wpAny M A (setFlight (.ref e) none) Q E s := by
 obtain ⟨b1, b2, b3, o, v, T, oT, ts, q1, q2, q3, q4, q5, q6, q7, q8, q9, q10, q11⟩ := x
 have z3 : 3 < ts.size := (UJ.mp q11).1
 unfold setFlight
 refine wpAny_bind (wpAny_field q1 q3 q6 ?_)
 rw [if_pos (by simp)]
 refine wpAny_setField q9 q10 z3 ?_
 have no : ∀ b u, s.heap.get? b = some u → (∀ w, u.data ≠ .fields w) → b ≠ T := fun b u q nf z => by
  rw [z, q9] at q
  cases q
  exact nf ts q10
 have ot : ∀ b u, b ≠ T → s.heap.get? b = some u → (s.heap.update T (Obj.mapFields (·.setIfInBounds 3 ((none : Option Addr).elim Value.none fun f => rawInt f)))).get? b = some u := fun b u n q => (Heap.get?_update_other _ _ (Ne.symm n)).trans q
 have d1 := Obj.data_mapFields q10 (·.setIfInBounds 3 ((none : Option Addr).elim Value.none fun f => rawInt f))
 exact k _ ⟨fun b u q => ot b u (fun z => by rw [z, q7] at q; cases q) (b1 b u q), b2, b3.of_keeps fun b u q nf => ⟨u, ot b u (no b u q nf) q, rfl⟩, o, v, T, _, _, ot e o (Ne.symm q8) q1, q2, q3, q4, q5, q6, q7, q8, Heap.get?_update_self _ q9 (Obj.isFreed_of_fields d1), d1, by simp [z3]⟩
  fun b u q nf => ⟨u.slots, ot b u (no b u q nf) q⟩
theorem EE.up {c a0 m : Value} {h : Heap} (x : EE B (env :: outer) e c a0 m h) : EE B outer e c a0 m h := by
 obtain ⟨b1, b2, ⟨_, _, b3⟩, r⟩ := x
 exact ⟨b1, b2, b3, r⟩
theorem OG {c a0 : Value} {Q : Unit → Shared → Prop} (hA : A.frames = some (env :: outer)) (hL : env.frame = some L) (x : EE B (env :: outer) e c a0 .none s.heap)
 (k : ∀ h', EE B outer e c a0 .none h' → s.heap.UpToSlots h' → Q () { s with heap := h' }) : wpAny M A (leaving env (.ref e)) Q E s := by
 unfold leaving
 exact wpAny_bind (NY hA hL x fun h1 f1 u1 => KO (s := { s with heap := h1 }) f1 fun h2 f2 u2 => k h2 f2.up (u1.trans u2))
theorem PQ {h : Heap} {c : Value} {vs : List Value} {Q : Unit → Shared → Prop} (hA : A.frames = some (env :: outer)) (hL : env.frame = some L) (hB : B.StaysIn h) (hF : h.FunFrames B (env :: outer)) (hx : Heap.MadeExcOf h s.heap e c vs)
 (k : ∀ h' a0, EE B outer e c a0 .none h' → s.heap.UpToSlots h' → Q () { s with heap := h' }) : wpAny M A (leaving env (.ref e)) Q E s := by
 obtain ⟨t, he, _, _⟩ := hx.there
 have fresh : B.get? e = none := by
  cases q : B.get? e with
  | none => rfl
  | some u => have := hB e u q; rw [hx.new] at this; cases this
 unfold leaving noteFrame
 simp only [hL]
 refine wpAny_bind (wpAny_bind (wpAny_field he rfl (x := .none) rfl ?_))
 rw [if_neg (by decide)]
 exact Gk hA (hF.of_keeps fun b u q _ => ⟨u, hx.keeps b u q, rfl⟩) hL he (fun b u q => hx.keeps b u (hB b u q)) fresh rfl (show 1 < 6 by decide) rfl rfl
  fun h1 f1 u1 => KO (s := { s with heap := h1 }) f1 fun h2 f2 u2 => k h2 _ f2.up (u1.trans u2)
end
theorem He : entryFor table "proto.unchain" = some Builtin.«proto.unchain» := entryFor_of_fast (by kernel_rfl)
section
variable {prog : Program} {w : World} {A : Around} {E : Value → Shared → Prop} {s : Shared} {ea : Addr} {oe : Obj}
theorem Of {α : Type} {a : Addr} {o : Obj} {v : Array Value} {Q : α → Shared → Prop} (hh : A.handled = some (.ref ea)) (he : s.heap.get? ea = some oe) (hc : Hj oe) (ha : s.heap.get? a = some o) (hv : o.data = .fields v) (hz : 2 < v.size) (ne : ea ≠ a)
 (k : E (.ref a) { s with heap := s.heap.update a (Obj.mapFields (·.setIfInBounds 2 (.ref ea))) }) : wpAny (model prog w) A (raiseNew (.ref a) : Sem α) Q E s := by
 obtain ⟨ve, hd, h2⟩ := hc
 unfold raiseNew
 refine wpAny_bind (wpAny_handled ?_)
 rw [hh]
 dsimp only
 rw [if_pos (by simp [ne])]
 refine wpAny_bind (wpAny_holding (wpAny_runValue (codeAny_builtin He ?_)))
 show wpAny _ _ (field (.ref ea) 2 >>= _) _ _ s
 refine wpAny_bind (wpAny_field he hd h2 ?_)
 rw [if_pos (by decide)]
 refine wpAny_bind (wpAny_pure (wpAny_pure ?_))
 refine wpAny_bind ?_
 unfold updateField
 refine wpAny_bind (wpAny_load ha ?_)
 rw [hv]
 dsimp only
 rw [if_pos hz]
 exact wpAny_update ha (wpAny_throw k)
theorem NS {it : Addr} {h0 : Heap} {α : Type} {P : α → Shared → Prop} {G : Value → Shared → Prop} (hh : A.handled = some (.ref ea)) (he : s.heap.get? ea = some oe) (hc : Hj oe) (hb : Heap.ExtBut it h0 s.heap)
 (k : ∀ a h', Shared.TypeIs { s with heap := h' } (.ref a) "StopIteration" → Heap.ExtBut it h0 h' → G (.ref a) { s with heap := h' }) : wpAny (model prog w) A (newExc (.type "StopIteration") [] >>= fun x => (raiseNew x : Sem α)) P G s := by
 refine wpAny_bind ?_
 simp only [newExc, newTuple]
 refine wpAny_bind (wpAny_newObj_type ?_ (by size_fits))
 refine wpAny_bind (m := firstArgMember _ _) (wpAny_of_eq (a := Value.none) (by first | rfl | (simp only [firstArgMember]; rfl)) ?_)
 refine wpAny_newObj_type ?_ (by size_fits)
 have old : ∀ (b : Addr) (u o1 o2 : Obj), s.heap.get? b = some u → ((s.heap.push o1).push o2).get? b = some u := fun b u o1 o2 q => Heap.get?_push_of_some _ (Heap.get?_push_of_some _ q)
 have lt : ∀ (b : Addr) (u o1 : Obj), s.heap.get? b = some u → (s.heap.push o1).objs.size ≠ b := fun b u o1 q z => by
  have := Heap.lt_size q
  rw [← z, Heap.size_push] at this
  exact absurd this (Uc.mpr (Ts _))
 refine Of hh (old ea oe _ _ he) hc (Heap.get?_push_size _ rfl) rfl (show 2 < 6 by decide) (fun z => lt ea oe _ he z.symm) (k _ _ ⟨_, Heap.get?_update_self _ (Heap.get?_push_size _ rfl) rfl, rfl⟩ fun b u n q => ?_)
 rw [Heap.get?_update_other _ _ (lt b u _ (hb b u n q))]
 exact old b u _ _ (hb b u n q)
theorem LB {it l : Addr} {i : Nat} {items : Array Value} {Q : Option Value → Shared → Prop} (hh : A.handled = some (.ref ea)) (he : s.heap.get? ea = some oe) (hc : Hj oe) (ni : ea ≠ it) (st : s.heap.IsListIter it l i) (hl : s.heap.IsList l items) (hx : items[i]? = none)
 (k : ∀ h', Heap.ExtBut it s.heap h' → Q none { s with heap := h' }) : wpAny (model prog w) A (pyNext (.ref it)) Q E s := by
 obtain ⟨o, q1, q2, q3⟩ := id st
 obtain ⟨ol, p1, _, nl, p2⟩ := hl
 unfold pyNext
 refine wpAny_bind (wpAny_attempt (wpAny_callSpecial?_slot (name := Str.ofString "__next__") st.typeIs slot_listiter_next (wpAny_call_entry slot_listiter_next st.typeIs entry_listiter_next ?_ (args_listiter_next _))))
 show wpAny _ A.in1 (field (.ref it) 0 >>= _) _ _ s
 refine wpAny_bind (wpAny_field q1 q3 (x := .ref l) rfl ?_)
 show wpAny _ _ (if (Value.ref l == Value.none) = true then _ else _) _ _ s
 rw [if_neg (fun z => nomatch z)]
 refine wpAny_bind (wpAny_field q1 q3 (x := .int i 0) rfl (wpAny_bind (wpAny_seqItems p1 p2 ?_)))
 simp only [TV, hx]
 refine wpAny_bind (wpAny_rule (wpAny_bind (wpAny_setField q1 q3 (by simp) ?_)))
 refine NS (A := A.in1) (it := it) (h0 := s.heap) hh ((Heap.get?_update_other _ _ (Ne.symm ni)).trans he) hc (Heap.SameBut.update ..).extBut fun a h' ty eb => ?_
 exact wpAny_bind (wpAny_isInstance (T := "StopIteration") (b := true) ty isSubtype_stop (wpAny_pure (k h' eb)))
theorem M0 {it l : Addr} {i : Nat} {items : Array Value} {Q : Option Value → Shared → Prop} (hh : A.handled = some (.ref ea)) (he : s.heap.get? ea = some oe) (hc : Hj oe) (ni : ea ≠ it) (st : IsTupIter s.heap it l i) (hl : IsTup s.heap l items) (hx : items[i]? = none)
 (k : ∀ h', Heap.ExtBut it s.heap h' → Q none { s with heap := h' }) : wpAny (model prog w) A (pyNext (.ref it)) Q E s := by
 obtain ⟨o, q1, q2, q3⟩ := id st
 obtain ⟨ol, p1, _, nl, p2⟩ := hl
 unfold pyNext
 refine wpAny_bind (wpAny_attempt (wpAny_callSpecial?_slot (name := Str.ofString "__next__") st.typeIs slot_tupleiter_next (wpAny_call_entry slot_tupleiter_next st.typeIs entry_tupleiter_next ?_ (args_tupleiter_next _))))
 show wpAny _ A.in1 (field (.ref it) 0 >>= _) _ _ s
 refine wpAny_bind (wpAny_field q1 q3 (x := .ref l) rfl ?_)
 show wpAny _ _ (if (Value.ref l == Value.none) = true then _ else _) _ _ s
 rw [if_neg (fun z => nomatch z)]
 refine wpAny_bind (wpAny_field q1 q3 (x := .int i 0) rfl (wpAny_bind (wpAny_seqItems p1 p2 ?_)))
 simp only [TV, hx]
 refine wpAny_bind (wpAny_rule (wpAny_bind (wpAny_setField q1 q3 (by simp) ?_)))
 refine NS (A := A.in1) (it := it) (h0 := s.heap) hh ((Heap.get?_update_other _ _ (Ne.symm ni)).trans he) hc (Heap.SameBut.update ..).extBut fun a h' ty eb => ?_
 exact wpAny_bind (wpAny_isInstance (T := "StopIteration") (b := true) ty isSubtype_stop (wpAny_pure (k h' eb)))
theorem Nc {env : Env} {es : List Expr} {kk} {pos : Pos} {t : Addr} {items : Array Value} {Q : Unit → Shared → Prop} (hh : A.handled = some (.ref ea)) (he : s.heap.get? ea = some oe) (hc : Hj oe) (ht : IsTup s.heap t items) (hn : (assignEach es env).length = items.size)
 (hs : (assignEach es env).findIdx? (·.1) = none) (k : ∀ h', Heap.ExtBut s.heap.objs.size s.heap h' → wpAny (model prog w) A (assignInOrder ((assignEach es env).map (·.2)) items.toList) Q E { s with heap := h' }) :
 wpAny (model prog w) A (assign (.Tuple es kk pos) env (.ref t)) Q E s := by
 have nt : t ≠ s.heap.objs.size := by obtain ⟨o, q, _⟩ := ht; exact Sw (Heap.lt_size q)
 rw [assign_Tuple]
 refine wpAny_bind (wpAny_standAt ?_)
 unfold unpack
 rw [hn, hs]
 refine wpAny_bind (wpAny_holding ?_)
 unfold unpackItems notIterableAtAll
 refine wpAny_bind (wpAny_bind (wpAny_specialOf ht.typeIs slot_tuple_iter.lookup (wpAny_pure ?_)))
 simp only [Bool.false_eq_true, if_false]
 refine wpAny_bind (wpAny_holding (iter_tuple ht (wpAny_bind (wpAny_holding (draw_tuple nt items.size 0 _ _ ⟨_, Heap.get?_push_size _ rfl, rfl, rfl⟩ (ht.push _) (by lia) fun h1 i1 s1 => ?_)))))
 rw [show List.take items.size (List.drop 0 items.toList) = items.toList by rw [Us]; exact Ut (by simp), if_neg (by simp)]
 have ne : ea ≠ s.heap.objs.size := Sw (Heap.lt_size he)
 refine wpAny_bind (wpAny_holding (M0 (s := { s with heap := h1 }) hh (s1.extBut ea oe ne (Heap.get?_push_of_some _ he)) hc ne i1 ((ht.push _).extBut s1.extBut nt) (by simp) fun h2 e2 => ?_))
 simp only [Option.isSome_none, Bool.false_eq_true, if_false]
 exact wpAny_pure (k h2 fun b u n q => e2 b u n (s1.extBut b u n (Heap.get?_push_of_some _ q)))
end
end L2
namespace L2
open PySem PySem.Spec PyProof.Rows
structure Hx (X : Cx) (ea : Addr) (oe : Obj) : Prop where
 hd : X.A.handled = some (.ref ea)
 ct : Hj oe
 ob : X.s₀.heap.get? ea = some oe
 fr : X.H₀ ea = none
 nf : ea ∉ X.fs
 nx : ea ∉ X.ex
section
variable {X : Cx} {pins : List (Addr × Obj)} {σ : St} {H : Hp} {s : Shared} {ea : Addr} {oe : Obj}
theorem Hx.at (x : Hx X ea oe) (I : Inv X pins σ H s) : s.heap.get? ea = some oe := I.base.keep ea oe x.ob x.fr x.nf x.nx
theorem Hx.no (x : Hx X ea oe) (I : Inv X pins σ H s) : H ea = none := I.base.free ea oe x.ob x.fr x.nx
theorem Hx.lt (x : Hx X ea oe) : ea < X.s₀.heap.objs.size := Heap.lt_size x.ob
theorem Hx.ns (x : Hx X ea oe) (I : Inv X pins σ H s) : ea ∉ frs X.stack := fun z => by
 rcases SM.mp (I.stkSub ea z) with e | z
 ·exact Sw (Su x.lt I.ok.above) e
 ·exact x.nf z
theorem hxC {N : List Str} {scope : Scope} {fp : List Addr} (x : Hx X ea oe) (I : Inv X pins σ H s) (hf : ∀ b ∈ fp, DT X pins H b) (cl : List (Str × Addr)) (C : Addr) : Hx (AR X N scope cl C s H fp) ea oe :=
 ⟨x.hd, x.ct, x.at I, x.no I, x.ns I, fun z => by
  rcases (hf ea z).2.2.2.1 with y | y
  ·exact x.nx y
  ·exact absurd x.lt (Uc.mpr y)⟩
theorem Kd {a it : Addr} (x : Hx X ea oe) (i : Nat) (pins : List (Addr × Obj)) (s : Shared) (σ : St) (H : Hp) (E : Value → Shared → Prop) (I : Inv X pins σ H s) (hf : ∀ b ∈ [it], DT X pins H b) (st : s.heap.IsListIter it a i) (hg : (Itl X.K a).stop i H) :
 wpAny (model X.prog X.w) X.A (pyNext (.ref it)) (fun r s1 => r = none ∧ Inv X pins σ H s1) E s := by
 obtain ⟨xs, hq, hx⟩ := hg
 obtain ⟨its, rv, p, hz⟩ := I.list hq
 obtain ⟨f0, f1, f2, f3, f4, f5⟩ := hf it (Uh.mpr rfl)
 have hl := rv.length
 have ni : ea ≠ it := fun z => by
  rcases f3 with y | y
  ·exact x.nx (z ▸ y)
  ·exact absurd x.lt (Uc.mpr (z ▸ y))
 exact LB x.hd (x.at I) x.ct ni st p.isList (by simp; lia) fun h' eb => ⟨rfl, I.turned (t' := s.toks) (fun b o hb e => eb b o hb e) f0 f1 f3 f4 f5⟩
theorem Kc {tg : Expr} {a it : Addr} (i : Nat) (pins : List (Addr × Obj)) (s : Shared) (σ : St) (H : Hp) (E : Value → Shared → Prop) (I : Inv X pins σ H s) (hf : ∀ b ∈ [it], DT X pins H b) (st : s.heap.IsListIter it a i) (hg : (Itl X.K a).go i H) :
 wpAny (model X.prog X.w) X.A (pyNext (.ref it)) (fun r s1 => ∃ u, r = some u ∧
  wpAny (model X.prog X.w) X.A (letOwnedTupleGo tg (.ref it) u) (fun _ s2 => ∃ x H', Inv X pins σ H' s2 ∧ AS x u ∧ (Itl X.K a).yld i H x H' ∧ s2.heap.IsListIter it a (i + 1) ∧ ∀ b ∈ [it], H' b = none) E s1) E s := by
 obtain ⟨xs, x, hq, hx⟩ := hg
 obtain ⟨its, rv, p, hz⟩ := I.list hq
 obtain ⟨u, hu, ru⟩ := rv.get hx
 obtain ⟨f0, f1, f2, f3, f4, f5⟩ := hf it (Uh.mpr rfl)
 refine wpAny_pyNext_list_item st p.isList (x := u) (by simpa using hu) fun h' st' sb => ?_
 have I1 : Inv X pins σ H { s with heap := h' } := I.turned (t' := s.toks) (fun b o hb e => (sb.2 b hb).trans e) f0 f1 f3 f4 f5
 obtain ⟨o, e, c, d⟩ := id st'
 exact ⟨u, rfl, Jw (s := { s with heap := h' }) e c d (by decide) ⟨x, H, I1, ru, ⟨rfl, fun ys hy => by rw [I.list_inj hy hq]; exact hx⟩, st', fun b hb => (hf b hb).1⟩⟩
theorem Qm {K : SE} {es : List Expr} {k : Nat} {t : TGs} {n : Nat} {pos : Pos} (x : Hx X ea oe) (h : PGs X es t) (hn : (assignEach es X.env).length = n := by rfl) (hst : (assignEach es X.env).findIdx? (·.1) = none := by rfl) (e : X.K = K := by rfl) : PG X (.Tuple es k pos) (LI K n t) := by
 subst e
 intro pins s σ H v u Q I r hw
 obtain ⟨a, xs, e1, hq, hl, hw⟩ := hw
 subst e1
 cases r
 obtain ⟨its, rv, ht, hz⟩ := I.tuple hq
 refine Nc x.hd (x.at I) x.ct ht (by simp [hn, ← hl, rv.length]) hst fun h' hx => ?_
 have I1 : Inv X pins σ H { s with heap := h' } := I.kept (t' := s.toks) fun b o e => hx b o (Sw (Heap.lt_size e)) e
 exact h pins _ σ H xs _ Q I1 (by simpa using rv) hw
end
section
variable {X : Cx} {N : List Str} {nt : Nat} {js : List Nat} {scope : Scope} {elt iter tg : Expr} {ifs : List Expr} {pos : Pos} {g : TG} {tc : TT} {te tl : TE} {ea : Addr} {oe : Obj}
set_option maxHeartbeats 4000000 in
theorem LK {pins : List (Addr × Obj)} {σ : St} {H : Hp} {s₂ : Shared} {cl : List (Str × Addr)} {it a : Addr} {E : Value → Shared → Prop} {Fin : List V → Hp → Prop} {W : Nat → List V → Hp → Prop} {nn : Nat}
 {RR : Value → Addr → Result → Shared → Prop} (hx : Hx X ea oe) (ok : AX X N nt js scope)
 (hcl : ∀ x c, cl.lookup x = some c → X.env.cells.lookup x = some c) (hcl2 : ∀ x ∈ scope.names, x.2 = .free → ∃ c, cl.lookup x.1 = some c)
 (hg : ∀ cl C s H fp, Hx (AR X N scope cl C s H fp) ea oe → PG (AR X N scope cl C s H fp) tg g) (hk : GC g nt) (hc : ∀ cl C s H fp, PTs (AR X N scope cl C s H fp) ifs tc) (he : ∀ cl C s H fp, PE (AR X N scope cl C s H fp) elt te)
 (I : Inv X pins σ H s₂) (st : s₂.heap.IsListIter it a 0) (hf : ∀ b ∈ [it], DT X pins H b) (w0 : W 0 [] H) (lw : LcW (Itl X.K a) nn nt js σ g tc te Fin W)
 (hRR : ∀ D C s' H' zs m, Inv X pins σ (upd H' D (.lst zs)) s' → s'.heap.Ns C m → H' D = none → (upd H' D (.lst zs)) C = none → C ≠ X.env.locals → X.s₀.heap.objs.size ≤ C → (∀ x c, X.env.cells.lookup x = some c → c ≠ C) →
  (∀ p ∈ X.pn ++ pins, p.1 ≠ C) → Fin zs H' → RR (.ref D) C (.ok .next) s') :
 wpAny (model X.prog X.w) X.A (newList []) (fun acc s₃ => wpAny (model X.prog X.w) X.A (newFunctionEnv scope X.env.globals cl [] X.env.qual none .none (some X.env)) (fun cenv s₄ =>
  codeAny (model X.prog X.w) X.A (.compStart (.ListComp elt [⟨tg, iter, ifs, 0⟩] scope pos) 0 (.ref it) acc { cenv with scope := relabel scope X.env }) (RR acc cenv.locals) s₄) E s₃) E s₂ := by
 have T : JG X.prog X.w X.K tg (Itl X.K a) [it] it (fun i h => h.IsListIter it a i) := Hl a it
 refine wpAny_newObj_type (wpAny_newFunctionEnv ok.nocell (by intro y hy; simp at hy) (fun h₁ hns₁ hsb₁ => ?_) ok.kind)
 dsimp only at hns₁ hsb₁ ⊢
 generalize hH2 : s₂.heap.push { cls := .type "list", dict := none, data := .seq ([] : List Value).toArray } = H2 at hns₁ hsb₁ ⊢
 have hC : H2.objs.size = s₂.heap.objs.size + 1 := by rw [← hH2, Heap.size_push]
 have hDC : s₂.heap.objs.size ≠ H2.objs.size := by rw [hC]; exact Sw (Ti _)
 have hCle : s₂.heap.objs.size ≤ H2.objs.size := by rw [hC]; exact Ts _
 have below : ∀ b, b < s₂.heap.objs.size → b ≠ H2.objs.size ∧ b ≠ s₂.heap.objs.size := fun b hb => ⟨by rw [hC]; exact Sw (Ug hb), Sw hb⟩
 have old : ∀ b o, s₂.heap.get? b = some o → h₁.get? b = some o := fun b o e => hsb₁.extBut b o (below b (Heap.lt_size e)).1 (Heap.get?_push_of_some _ (hH2 ▸ Heap.get?_push_of_some _ e))
 have hacc : h₁.get? s₂.heap.objs.size = some (Cs []) := hsb₁.extBut _ _ hDC (Heap.get?_push_of_some _ (hH2 ▸ Heap.get?_push_size _ rfl))
 have ho := T.obj 0 _ st
 have lt : ∀ b ∈ [it], b < s₂.heap.objs.size := fun b hb => by obtain ⟨o, e, _⟩ := ho b hb; exact Heap.lt_size e
 have loop : ∀ s₃ : Shared, s₃ = { s₂ with heap := h₁, toks := s₂.toks + ([] : List (Str × Value)).length } →
  codeAny (model X.prog X.w) X.A (.compLoop (.ListComp elt [⟨tg, iter, ifs, 0⟩] scope pos) 0 (.ref it) (.ref s₂.heap.objs.size) (compEnvC scope cl H2.objs.size X.env)) (RR (.ref s₂.heap.objs.size) H2.objs.size) s₃ := by
  rintro s₃ rfl
  have I0 : Inv (AR X N scope cl H2.objs.size s₂ H [it]) [(s₂.heap.objs.size, Cs [])] (cS nt js σ) H { s₂ with heap := h₁, toks := s₂.toks + ([] : List (Str × Value)).length } :=
   Jt I ok hcl hcl2 hf ho (SW _) hCle hDC old hns₁ hacc
  have fpy : ∀ {H' : Hp} {ys : List Value}, (∀ b ∈ [it], H' b = none) → ∀ b ∈ [it], DT (AR X N scope cl H2.objs.size s₂ H [it]) [(s₂.heap.objs.size, Cs ys)] H' b := fun {H' ys} hn b hb =>
   ⟨hn b hb, (below b (lt b hb)).1, I0.ok.exfs b hb, .inl hb, (I0.ok.exf b hb).2, fun p hp => by
    have hp' : p ∈ [(s₂.heap.objs.size, Cs ys)] := hp
    have e : p = (s₂.heap.objs.size, Cs ys) := by simpa using hp'
    rw [e]; exact Ne.symm (below b (lt b hb)).2⟩
  refine Ez (fun n s' => ∃ i zs ys H', n = nn - i ∧ i ≤ nn ∧ Inv (AR X N scope cl H2.objs.size s₂ H [it]) [(s₂.heap.objs.size, Cs ys)] (cS nt js σ) H' s' ∧ AQ zs ys ∧ s'.heap.IsListIter it a i ∧ (∀ b ∈ [it], H' b = none) ∧ W i zs H') ?_ nn
   ⟨0, [], [], H, rfl, T1 _, I0, .nil, T.keep 0 _ _ st (fun b _ o e => old b o e), fun b hb => (hf b hb).1, w0⟩
  rintro n s' ⟨i, zs, ys, H', hn0, hile, I', rv, st', fr', w'⟩
  by_cases hlt : i < nn
  case neg =>
   have hie : i = nn := Nat.le_antisymm hile (Uc.mp hlt)
   rw [hie] at w' st'
   obtain ⟨stop, zl, fin⟩ := lw.stop zs H' w'
   refine thn (Kd (hxC hx I hf cl H2.objs.size) nn _ s' _ H' (fun _ _ => False) I' (fpy fr') st' stop) fun r s4 ⟨hr, I4⟩ => ?_
   subst hr
   have zD := (I4.pin (s₂.heap.objs.size, Cs ys) (SY _ (Uh.mpr rfl)))
   have u := I4.base
   have u2 : Un (frs X.stack) [it] H (upd H' s₂.heap.objs.size (.lst zs)) s₂.heap s4.heap :=
    ⟨u.keep, u.slot, fun b o q n hx => by rw [AA (Sw (Heap.lt_size q))]; exact u.free b o q n hx, u.there, fun b xs q => by rw [AA (AE (u.tups b xs q) zD.2.1)]; exact u.tups b xs q,
     fun b o xs q => by rw [AA (AE (u.frzs b o xs q) zD.2.1)]; exact u.frzs b o xs q, fun b ps q => by
      obtain ⟨more, e⟩ := u.tbls b ps q
      exact ⟨more, by rw [AA (AE e zD.2.1)]; exact e⟩⟩
   have hok2 : HOk X.prog X.w (upd H' s₂.heap.objs.size (.lst zs)) s4.heap := HOk.track I4.hok zD.2.1 ⟨zl, ys, _, rv, zD.1⟩
   have I5 : Inv X pins σ (upd H' s₂.heap.objs.size (.lst zs)) s4 := I.call' I4.os u2 hok2 I4.bare fun b hb => ⟨(hf b hb).2.2.2.1, (hf b hb).2.1, (hf b hb).2.2.2.2.1, (hf b hb).2.2.2.2.2⟩
   obtain ⟨m, hn, _⟩ := I4.loc
   refine hRR _ _ s4 H' zs m I5 hn zD.2.1 ?_ ?_ (SG I.sz hCle) ?_ ?_ fin
   ·rw [AA (Ne.symm hDC)]; exact I4.free
   ·exact SV (Su I.lt hCle)
   ·intro x c e z
    obtain ⟨v, q⟩ := I.cell x c e
    exact absurd (Su q.lt (by rw [z]; exact hCle)) (Sv _)
   ·intro p hp z
    exact absurd (Su (Heap.lt_size (I.pin p hp).1) (by rw [z]; exact hCle)) (Sv _)
  case pos =>
   obtain ⟨go, zl⟩ := lw.go i zs H' hlt w'
   have step := lw.step i zs H'
   refine thn (Kc (tg := tg) (X := AR X N scope cl H2.objs.size s₂ H [it]) i _ s' _ H' (fun _ _ => False) I' (fpy fr') st' go) fun r s4 ⟨u, hr, h4⟩ => ?_
   subst hr
   refine thn h4 fun _ s5 ⟨x, H5, I5, r5, y5, st5, fr5⟩ => ?_
   have I5' := I5.pinned (fpy fr5) (T.obj _ _ st5)
   refine thn (hg cl _ s₂ H [it] (hxC hx I hf cl _) _ s5 _ H5 x u _ I5' r5 (hk _ _ _ _ (step x H5 hlt w' y5))) fun _ s6 ⟨σ6, H6, I6, ⟨hl6, hd6⟩, q6⟩ => ?_
   refine thn (hc cl _ s₂ H [it] _ s6 σ6 H6 _ I6 q6) fun okb s7 ⟨H7, I7, q7⟩ => ?_
   have frs' : ∀ {H8 : Hp} {σ8 : St} {s8 : Shared}, Inv (AR X N scope cl H2.objs.size s₂ H [it]) ([(s₂.heap.objs.size, Cs ys)] ++ EN [it] s5.heap) σ8 H8 s8 → s8.heap.IsListIter it a (i + 1) ∧ ∀ b ∈ [it], H8 b = none := fun {H8 σ8 s8} I8 =>
    ⟨T.keep _ _ _ st5 fun b hb o e => (I8.pin (b, o) (SY _ (SY _ (Ca hb e)))).1, fun b hb => by
     obtain ⟨o, e, d⟩ := T.obj _ _ st5 b hb
     exact (I8.pin (b, o) (SY _ (SY _ (Ca hb e)))).2.1⟩
   cases okb with
   | false =>
     rw [if_neg Bool.false_ne_true] at q7 ⊢
     obtain ⟨a1, a2⟩ := frs' I7
     exact ⟨nn - (i + 1), by rw [hn0]; exact Ui hlt (Ti i), i + 1, zs, ys, H7, rfl, hlt, I7.unpinned.weak (by rw [hl6]) (FJ hl6 hd6), rv, a1, a2, q7⟩
   | true =>
     rw [if_pos rfl] at q7 ⊢
     refine thn (he cl _ s₂ H [it] _ s7 σ6 H7 _ I7 q7) fun v s8 ⟨y, H8, I8, r8, q8⟩ => ?_
     have zD := (I8.pin (s₂.heap.objs.size, Cs ys) (SY _ (SO _ (Uh.mpr rfl))))
     have ylen : ys.length < sizeLine := by rw [← rv.length]; exact zl
     obtain ⟨a1, a2⟩ := frs' I8
     refine append_at (hsz := by rw [TU]; exact SH ylen) zD.1 fun h9 hs9 hD9 => ?_
     have I8u : Inv (AR X N scope cl H2.objs.size s₂ H [it]) [] (cS nt js σ) H8 s8 := (I8.pins_of (pins' := []) fun p hp => nomatch hp).weak (by rw [hl6]) (FJ hl6 hd6)
     have I9 : Inv (AR X N scope cl H2.objs.size s₂ H [it]) [] (cS nt js σ) H8 { s8 with heap := h9 } := I8u.turned (t' := s8.toks) (it := s₂.heap.objs.size) (fun b o hb e => hs9.extBut b o hb e) zD.2.1 hDC (.inr (SW _))
      (fun x c e z => by
       obtain ⟨v, q⟩ := I.cell x c (hcl x c e)
       exact absurd (Su q.lt (by rw [z]; exact SW _)) (Sv _)) (fun p hp => nomatch hp)
     refine ⟨nn - (i + 1), by rw [hn0]; exact Ui hlt (Ti i), i + 1, zs ++ [y], ys ++ [v], H8, rfl, hlt, I9.pins_of (fun p hp => ?_), rv.snoc r8, T.keep _ _ _ a1 fun b hb o e => hs9.extBut b o (below b (lt b hb)).2 e, a2, q8⟩
     have e : p = (s₂.heap.objs.size, Cs (ys ++ [v])) := by simpa using hp
     subst e
     refine ⟨?_, zD.2.1, hDC, zD.2.2.2.1, fun v z => by cases z⟩
     rw [hD9]
     show some ({ cls := .type "list", data := .seq (ys.toArray.push v) (ys.length + 1) } : Obj) = some { cls := .type "list", data := .seq (ys ++ [v]).toArray (ys ++ [v]).length }
     rw [TM, U3, List.push_toArray]
 exact codeAny_compStart_list (loop _ rfl) (T.self _ 0 _ _ _ (T.keep 0 _ _ st (fun b _ o e => old b o e)) (loop _ rfl))
theorem Om {K : SE} {i : Nat} {y : Str} {py spos : Pos} (hx : Hx X ea oe) (hN : X.N.Nodup) (hi' : X.N[i]? = some y) (hy : X.env.kindOf y = some .local) (ok : AX X N nt js scope) (hi : PE X iter tl) (hg : ∀ cl C s H fp, Hx (AR X N scope cl C s H fp) ea oe → PG (AR X N scope cl C s H fp) tg g) (hk : GC g nt)
 (hc : ∀ cl C s H fp, PTs (AR X N scope cl C s H fp) ifs tc) (he : ∀ cl C s H fp, PE (AR X N scope cl C s H fp) elt te)
 (hsw : swapsWith (.ListComp elt [⟨tg, iter, ifs, 0⟩] scope pos) (some (.Name y py)) spos.line X.env = pure true) (hs : ∀ x, foldedSetIterable iter X.env x = pure x := by intro _; rfl) (eK : X.K = K := by rfl) :
 PS X (.Assign [.Name y py] (.ListComp elt [⟨tg, iter, ifs, 0⟩] scope pos) spos) (Lj (tLC (Jv K tl) nt js g tc te) (C6 i)) := by
 subst eK
 intro pins s σ H D₀ I h
 obtain ⟨cl, hclos, hcl, hcl2⟩ := CI (scope := scope) (env := X.env) fun x hx hf => I.ok.has x.1 (ok.free x hx hf)
 rw [exec_Assign_Name_used _ _ _ _ hsw]
 refine wpAny_bind (wpAny_standAt (wpAny_bind ?_))
 show wpAny _ X.A (do let _ ← comprehension (.ListComp elt [⟨tg, iter, ifs, 0⟩] scope pos) scope X.env _ (newList []) false (eval iter X.env) (some (assign (.Name y py) X.env))) _ _ s
 refine wpAny_bind (wpAny_mono (wpAny_comprehension_free (use := some (assign (.Name y py) X.env)) (Q := fun _ s' => SP X pins D₀ .next s') rfl hs hclos ok.kind ok.names
  (thn (hi pins s σ H _ I (MJ (show tLC (Jv X.K tl) nt js g tc te σ H fun x H1 => C6 i x σ H1 D₀.nx from h))) fun v s1 ⟨x, H1, I1, r1, q1⟩ => ?_)) (fun _ s' hq => wpAny_pure (wpAny_pure hq)) fun _ _ e => e)
 obtain ⟨a, e, ⟨xs, hq⟩, nn, W, w0, lw⟩ := q1
 subst e
 cases r1
 obtain ⟨its, rv, p, hz⟩ := I1.list hq
 refine wpAny_pyIter_list p.isList ?_
 have I2 : Inv X pins σ H1 { s1 with heap := s1.heap.push { cls := .type "list_iterator", data := .fields #[.ref a, .int 0 0] } } := I1.kept (t' := s1.toks) fun b o e => Heap.get?_push_of_some _ e
 have f2 : ∀ b ∈ [s1.heap.objs.size], DT X pins H1 b := fun b hb => by
  have e : b = s1.heap.objs.size := Uh.mp hb
  subst e
  exact I1.fpOk (SW _) (I1.hok.fresh (SW _))
 refine LK (RR := fun acc C => compPost (model X.prog X.w) X.A X.xe (some (assign (.Name y py) X.env)) (fun _ s' => SP X pins D₀ .next s') acc C) hx ok hcl hcl2 hg hk hc he I2 ⟨_, Heap.get?_push_size _ rfl, rfl, rfl⟩ f2 w0 lw ?_
 intro D C s' H' zs m I3 hn hDn hCn hCL hC0 hCc hCp fin
 show wpAny _ X.A (assign (.Name y py) X.env (.ref D)) _ _ _
 refine wpAny_assign_Name (EG (v := .ref D) I3 hN hi' (.inl hy) rfl (fun s3 I4 hsb => ?_) (.inr hy))
 obtain ⟨a, hsb, ha⟩ := hsb
 have haC : C ≠ a := by
  rcases ha with z | z
  ·rw [z]; exact hCL
  ·exact Ne.symm (hCc y a z)
 refine ⟨m, hn.sameBut hsb haC, fun h'' hs'' => ?_⟩
 exact ⟨_, _, I4.turned (t' := s3.toks) (it := C) (fun b o hb e => hs''.extBut b o hb e) hCn hCL (.inr hC0) hCc hCp, fin D hDn⟩
end
end L2
namespace L2
open PySem PySem.Spec PyProof.Rows
def CX2 (P : Program) (w : World) : CXT := fun outer H s E e s' => ∃ (ea : Addr) (cls a0 : Value) (B : Heap) (H' : Hp), e = .ref ea ∧ s'.os = s.os ∧ AllBare s'.gens ∧ Un (frs outer) [] H H' s.heap s'.heap ∧ HOk P w H' s'.heap ∧
 EE B outer ea cls a0 .none s'.heap ∧ (∀ b o, s.heap.get? b = some o → b ∉ frs outer → ∃ o', B.get? b = some o') ∧ (∀ b u, H' b = some u → ∃ o', B.get? b = some o') ∧ E cls none H'
section
variable {P : Program} {w : World} {K : SE} {mg : Str → Option Value} {base : Heap} {N : List Str} {qual : Str} {scope : Scope} {f : Addr} {cd : Value} {A : Around} {outer : List Env} {s : Shared} {H : Hp} {E : XK}
theorem EU : O8 (Dj (CX2 P w) P w K mg base N qual scope f cd A outer s H E) E := by
 intro pins σ H1 s1 h2 ea cls vs I hx hE
 have k1 : ∀ b o, s1.heap.get? b = some o → b ∉ frs (Dj (CX2 P w) P w K mg base N qual scope f cd A outer s H E).stack → ∃ o', (Sy s1.heap (frs (Dj (CX2 P w) P w K mg base N qual scope f cd A outer s H E).stack)).get? b = some o' := fun b o e n => ⟨o, PySem.W.hideAll_get _ e n⟩
 have k2 : ∀ b u, H1 b = some u → ∃ o', (Sy s1.heap (frs (Dj (CX2 P w) P w K mg base N qual scope f cd A outer s H E).stack)).get? b = some o' := fun b u e => by
  obtain ⟨o, q⟩ := (I.hok b u e).got
  exact k1 b o q fun z => by rw [I.stkFree b z] at e; cases e
 refine PQ (B := Sy s1.heap (frs (Dj (CX2 P w) P w K mg base N qual scope f cd A outer s H E).stack)) (h := s1.heap) (outer := outer) I.ok.frames rfl (fun b o q => SA _ q) (PySem.W.funFrames_hide I.stack (NB s1.heap _)) hx fun h' t fly us => ?_
 have us1 : s1.heap.UpToSlots h' := (Heap.UpToSlots.of_keeps hx.keeps).trans us
 have J := I.flown (s' := s1) (toks := s1.toks) Un.refl I.hok rfl I.bare (fun b o q => SA _ q) k1 k2 fly.1 (Inv.slots I.stack us1)
 refine ⟨ea, cls, _, _, H1, rfl, I.os, I.bare, J.base, J.hok, fly, fun b o e n => ?_, k2, hE⟩
 obtain ⟨o1, q⟩ := I.base.there b o e (fun z => nomatch z)
 refine k1 b o1 q fun z => ?_
 rcases SM.mp (I.stkSub b z) with e1 | z
 ·exact Sw (Su (Heap.lt_size e) I.ok.above) e1
 ·exact n z
theorem CD : Cz (CX2 P w) (Dj (CX2 P w) P w K mg base N qual scope f cd A outer s H E) E := by
 rintro pins σ H1 s1 e s2 I ⟨ea, cls, a0, B, H', rfl, os, bare, un, hok, fly, k1, k2, hE⟩
 refine OG (B := B) (outer := outer) I.ok.frames rfl fly fun h' fly' us => ?_
 have J := I.flown (toks := s2.toks) un hok os bare fly.1 k1 k2 fly'.1 (Inv.slots fly.2.2.1 us)
 refine ⟨ea, cls, a0, B, H', rfl, os.trans I.os, bare, J.base, J.hok, fly', fun b o e n => ?_, k2, hE⟩
 obtain ⟨o1, q⟩ := I.base.there b o e (fun z => nomatch z)
 refine k1 b o1 q fun z => ?_
 rcases SM.mp (I.stkSub b z) with e1 | z
 ·exact Sw (Su (Heap.lt_size e) I.ok.above) e1
 ·exact n z
theorem Fun.okY {x : Str} {st : Stmt} {fd : FuncData} {ps : List Str} {k : Nat} {sp : Sp} (F : Fun K x qual st f fd) (S : Ap N ps (Ad st)) (len : ∀ vs H Q E, sp vs H Q E → vs.length = ps.length)
 (hbody : ∀ (cdv : Value) (A : Around) (outer : List Env) (s : Shared) (H : Hp) (vs : List V) (Q : VK) (E : XK), BC k (A.deeper (envOfC qual (Ad st) s.heap.objs.size f cdv)) → sp vs H Q E →
  ∃ t, PSs (Dj (CX2 P w) P w K mg base N qual (Ad st) f cdv A outer s H E) (Al st) t ∧ t { nx := fun _ H' => Q .non H', rt := Q } (Dh N vs) H) : Ay P w K mg base (CX2 P w) (k + 1) f fd ps sp := by
 obtain ⟨oc, od, kV, doc, pm, an, cdv, ct, osl, rfl, lk, hcd⟩ := F.ex
 exact O3 lk hcd S len fun A outer s H vs Q E hr hsp => hbody cdv A outer s H vs Q E hr hsp
theorem Ay.calm {fd : FuncData} {ps : List Str} {k : Nat} {sp : Sp} {CX : CXT} (F : Ay P w K mg base CX0 k f fd ps sp) : Ay P w K mg base CX k f fd ps sp :=
 ⟨F.len, fun A outer s H args us vs Q E hr he hb hv hs => codeAny_mono (F.run A outer s H args us vs Q E hr he hb hv hs) fun r s' q => by
  cases r with
  | ok fl => cases fl <;> exact q
  | error e => exact False.elim q⟩
theorem Ay.or {fd : FuncData} {ps : List Str} {k : Nat} {sp sp' : Sp} {CX : CXT} (F : Ay P w K mg base CX k f fd ps sp) (G : Ay P w K mg base CX k f fd ps sp') : Ay P w K mg base CX k f fd ps (fun vs H Q E => sp vs H Q E ∨ sp' vs H Q E) :=
 ⟨fun vs H Q E h => h.elim (F.len vs H Q E) (G.len vs H Q E), fun A outer s H args us vs Q E hr he hb hv hs => hs.elim (F.run A outer s H args us vs Q E hr he hb hv) (G.run A outer s H args us vs Q E hr he hb hv)⟩
end
structure FdY (P : Program) (w : World) (K : SE) (mg : Str → Option Value) (base : Heap) (n : Nat) (x : Str) (ps : List Str) (sp : Sp) : Prop where
 ex : ∃ (f : Addr) (fd : FuncData), Ay P w K mg base (CX2 P w) n f fd ps sp ∧ BP K fd ps [] ∧ Tg K (.ref f) = true ∧ mg x = some (.ref f)
theorem C8 {X : Cx} {n k : Nat} {x : Str} {ps : List Str} {sp : Sp} {E : XK} {e : Expr} {es : List Expr} {t : TA} {p pos : Pos} (F : FdY X.prog X.w X.K X.mg X.base n x ps sp) (hr : BC k X.A) (hg : Gl X x) (hp : Cz (CX2 X.prog X.w) X E) (ha : PA X (e :: es) t) (hn : n ≤ k := by decide)
 (hdb : (x == ("__debug__" : Str)) = false := by decide) (he : starEach (e :: es) X.env = (false, eval e X.env) :: starEach es X.env := by rfl) (hpl : (backTo pos (starEach es X.env)).any (·.1) = false := by rfl) :
 PE X (.Call (.Name x p) (e :: es) [] pos) (M9 sp [] E t) := by
 obtain ⟨f, fd, F1, F2, F3, F4⟩ := F.ex
 exact KG F1 (hr.mono hn) hg F4 F3 F2 .nil hp ha hdb he hpl
abbrev TB := (St → Hp → Prop) → XK → St → Hp → Prop
def PB (X : Cx) (body : List Stmt) (t : TB) : Prop := ∀ (pins : List (Addr × Obj)) (s : Shared) (σ : St) (H : Hp) (nx : St → Hp → Prop) (E : XK), Inv X pins σ H s → t nx E σ H →
 wpAny (model X.prog X.w) X.A (execs body X.env) (fun fl s1 => fl = .next ∧ ∃ σ' H', Inv X pins σ' H' s1 ∧ nx σ' H') (fun e s2 => ∃ H1 s1, Inv X pins σ H1 s1 ∧ CX2 X.prog X.w X.stack H1 s1 E e s2) s
section
variable {X : Cx} {n k : Nat} {x : Str} {ps : List Str} {sp : Sp} {e : Expr} {es : List Expr} {t : TA} {p pos : Pos}
end
abbrev SpH := Value → Addr → Hp → VK → Prop
structure FnH (P : Program) (w : World) (K : SE) (mg : Str → Option Value) (base : Heap) (k : Nat) (f : Addr) (fd : FuncData) (x : Str) (sp : SpH) : Prop where
 run : ∀ (A : Around) (outer : List Env) (s : Shared) (H : Hp) (ea : Addr) (oe : Obj) (Q : VK), BC k A → IQ P w K mg base (A.mark (some (.ref ea))) outer s H → BindsTo s fd ⟨[.ref ea], []⟩ [(x, .ref ea)] → s.heap.get? ea = some oe → Hj oe → H ea = none → ea ∉ frs outer → sp oe.cls ea H Q →
  codeAny (model P w) (A.mark (some (.ref ea))) (.call (.ref f) ⟨[.ref ea], []⟩) (CR CX0 outer P w H s Q E0) s
section
variable {P : Program} {w : World} {K : SE} {mg : Str → Option Value} {base : Heap}
theorem Fun.okH {x qual y : Str} {st : Stmt} {f : Addr} {fd : FuncData} {N : List Str} {k : Nat} {sp : SpH} (F : Fun K x qual st f fd) (S : Ap N [y] (Ad st))
 (hbody : ∀ (cdv : Value) (A : Around) (outer : List Env) (s : Shared) (H : Hp) (ea : Addr) (oe : Obj) (Q : VK), BC k (A.deeper (envOfC qual (Ad st) s.heap.objs.size f cdv)) → Hx ((Dj CX0 P w K mg base N qual (Ad st) f cdv A outer s H E0).marked ea) ea oe → sp oe.cls ea H Q →
  ∃ t, PSs ((Dj CX0 P w K mg base N qual (Ad st) f cdv A outer s H E0).marked ea) (Al st) t ∧ t { nx := fun _ H' => Q .non H', rt := Q } (Dh N [.ref ea]) H) : FnH P w K mg base (k + 1) f fd y sp := by
 obtain ⟨oc, od, kV, doc, pm, an, cdv, ct, osl, rfl, lk, hcd⟩ := F.ex
 refine ⟨fun A outer s H ea oe Q hr e0 hb ho hc hn hf hsp => ?_⟩
 have e1 : IQ P w K mg base A outer s H := ⟨e0.frames, e0.mod, e0.bs, e0.bsz, e0.funs, e0.frf, e0.hok, e0.bare⟩
 have KX : K.In s.heap := e0.mod.kin.keeps fun b o e => (e0.bs b o e).1
 have lim : s.heap.NoLimit := e0.mod.nolimit.keeps fun b o e => (e0.bs b o e).1
 have hkind : ∀ z ∈ [y].zip [Value.ref ea], (Ad st).names.lookup z.1 = some .local ∨ ((Ad st).names.lookup z.1 = some .cell ∧ ((cellsFrom (s.heap.objs.size + 1) (Ad st).names []).lookup z.1).isSome = true) := fun ⟨n, v⟩ hy => by
  rcases S.par n (Tu hy).1 with q | q
  ·exact .inl q
  ·exact .inr ⟨q, Tw _ _ _ (.inl q)⟩
 refine codeAny_call_function (show (A.mark (some (.ref ea))).depth < _ from hr.depth) (KX _ _ lk) rfl S.co S.gen rfl (PySem.W.codeRec_of KX hcd) (hb _ _ _ _ ?_)
 refine wpAny_newFunctionEnv_cells S.kind hkind fun env he s1 x => ?_
 subst he
 refine ⟨lim.keeps x.toInCall.keep, codeAny_func ?_⟩
 have hx : Hx ((Dj CX0 P w K mg base N qual (Ad st) f cdv A outer s H E0).marked ea) ea oe := ⟨rfl, hc, ho, hn, hf, fun z => nomatch z⟩
 obtain ⟨t, ht, hq⟩ := hbody cdv A outer s H ea oe Q (hr.deeper _) hx hsp
 have I : Inv (Dj CX0 P w K mg base N qual (Ad st) f cdv A outer s H E0) [] (Dh N [.ref ea]) H s1 := HB S hr.hd e1 rfl (.cons rfl .nil) x
 refine wpAny_mono (ht [] s1 (Dh N [.ref ea]) H _ (I.marked ea) hq) (fun fl s' hs => ?_) fun e s' hs => hs.elim
 have fin : ∀ {σ' : St} {H' : Hp} {v : V} {u : Value}, Inv ((Dj CX0 P w K mg base N qual (Ad st) f cdv A outer s H E0).marked ea) [] σ' H' s' → AS v u → Q v H' → CE outer P w H s Q u s' :=
  fun {σ' H' v u} J rv q => ⟨v, H', J.os, J.bare, J.base, J.hok, rv, q⟩
 cases fl with
 | ret u =>
   obtain ⟨v, σ', H', J, rv, q⟩ := hs
   exact fin J rv q
 | next =>
   obtain ⟨σ', H', J, q⟩ := hs
   exact fin (v := V.non) (u := Value.none) J rfl q
 | brk => obtain ⟨_, _, _, q⟩ := hs; exact False.elim q
 | cont => obtain ⟨_, _, _, q⟩ := hs; exact False.elim q
end
structure FdH (P : Program) (w : World) (K : SE) (mg : Str → Option Value) (base : Heap) (n : Nat) (x y : Str) (sp : SpH) : Prop where
 ex : ∃ (f : Addr) (fd : FuncData), FnH P w K mg base n f fd y sp ∧ BP K fd [y] [] ∧ Tg K (.ref f) = true ∧ mg x = some (.ref f)
abbrev Cx.kept (X : Cx) (ea : Addr) (oe : Obj) : Cx := { X.marked ea with pn := (ea, oe) :: X.pn }
section
variable {X : Cx} {pins : List (Addr × Obj)} {σ : St} {H : Hp} {s : Shared} {ea : Addr} {oe : Obj}
theorem Inv.kept2 (I : Inv X pins σ H s) (h1 : s.heap.get? ea = some oe) (h2 : H ea = none) (h3 : ea ≠ X.env.locals) (h4 : ea ∉ X.fs) (h5 : Hj oe) : Inv (X.kept ea oe) pins σ H s :=
 ⟨⟨I.ok.mod, I.ok.kind, I.ok.glob, I.ok.blt, I.ok.above, I.ok.inj, I.ok.has, I.ok.cab, (fun z => nomatch z), I.ok.frames, I.ok.stk, I.ok.exf, I.ok.bs, I.ok.bsz, I.ok.noex, I.ok.exfs, I.ok.funs, I.ok.frf⟩, I.os, I.bare, I.base, I.loc, I.cell, I.free, I.freeC, fun p hp => by
   rcases SM.mp (show p ∈ (ea, oe) :: (X.pn ++ pins) from hp) with e | z
   ·subst e
    obtain ⟨v, hv, _⟩ := h5
    exact ⟨h1, h2, h3, h4, fun w z => by rw [hv] at z; cases z⟩
   ·exact I.pin p z, I.hok, I.len⟩
theorem Inv.unkept (J : Inv (X.kept ea oe) pins σ H s) (ok : X.Ok) : Inv X pins σ H s := ⟨ok, J.os, J.bare, J.base, J.loc, J.cell, J.free, J.freeC, fun p hp => J.pin p (SK _ hp), J.hok, J.len⟩
end
def Pj (sp : SpH) (ea : Addr) (cls : Value) (t : TA) : TE := fun σ H Q => t σ H fun vs H1 => vs = [.ref ea] ∧ sp cls ea H1 Q
theorem Ow {X : Cx} {ea : Addr} {oe : Obj} {k n : Nat} {x y : Str} {sp : SpH} {e : Expr} {t : TA} {p pos : Pos} (F : FdH X.prog X.w X.K X.mg X.base n x y sp) (hr : BC k X.A) (hc : Hj oe) (hst : X.stack = X.env :: X.outer) (hfr : X.env.frame = some X.env.locals) (hg : Gl X x) (ha : PA (X.kept ea oe) [e] t) (hn : n ≤ k)
 (hdb : (x == ("__debug__" : Str)) = false) (he : starEach [e] X.env = [(false, eval e X.env)]) : PE (X.kept ea oe) (.Call (.Name x p) [e] [] pos) (Pj sp ea oe.cls t) := by
 obtain ⟨f, fd, F1, F2, F3, F4⟩ := F.ex
 intro pins s σ H Q I h
 refine wpAny_Call_Name_kw (DL I hg F4 ?_ hdb)
 refine Tr (h₀ := X.base) I.ok.mod.kin F3 (thn (ha pos pins s σ H _ I h) fun us s1 ⟨vs, H1, I1, r, ev, q⟩ => ⟨I1.kIn, ?_⟩) he rfl
 subst ev
 obtain ⟨u, rfl, ru⟩ := r.one
 have ru : u = .ref ea := ru
 subst ru
 obtain ⟨p1, p2, p3, p4, _⟩ := I1.pin (ea, oe) SJ
 have p5 : ea ∉ frs X.stack := fun z => by
  rw [hst] at z
  have z : ea ∈ (X.env :: X.outer).filterMap (·.frame) := z
  rw [SI, hfr] at z
  rcases SM.mp z with z | z
  ·exact p3 z
  ·exact p4 z
 have hb' := F2 s1 [.ref ea] I1.kIn rfl
 refine wpAny_call (codeAny_mono (F1.run X.A X.stack s1 H1 ea oe Q (hr.mono hn) I1.env0 hb' p1 hc p2 p5 q) fun r s2 hq => ?_)
 cases r with
 | error e => exact False.elim hq
 | ok fl =>
   cases fl with
   | ret u => exact I1.after hq
   | next => exact False.elim hq
   | brk => exact False.elim hq
   | cont => exact False.elim hq
def Pg (K : SE) (CE : Addr) (i j : Nat) (sp : SpH) (tb : TB) : TS := fun D σ H => tb D.nx (fun cls _ H2 => UK K cls (.ref CE) = some true ∧ ∀ ea, H2 ea = none → sp cls ea H2 fun v H3 => D.nx (((σ.set i (some (.ref ea))).set j (some v)).set i none) H3) σ H
theorem Np {X : Cx} {k m : Nat} {CE : Addr} {sp : SpH} {g y n a c : Str} {i j : Nat} {gp np ap cpos spos yp hpos pos : Pos} {body : List Stmt} {tb : TB} (hb : PB X body tb) (F : FdH X.prog X.w X.K X.mg X.base m g c sp) (hr : BC k X.A) (hg : Gl X g)
 (hgy : Gl X y) (hmy : X.mg y = some (.ref CE)) (nd : X.N.Nodup) (hi : X.N[i]? = some n) (hl : X.env.scope.names.lookup n = some .local) (hj : X.N[j]? = some a) (hla : X.env.scope.names.lookup a = some .local) (hst : X.stack = X.env :: X.outer) (hfr : X.env.frame = some X.env.locals) (hm : m ≤ k := by decide)
 (hs : swapsWith (.Call (.Name g gp) [.Name n np] [] cpos) (some (.Name a ap)) spos.line X.env = pure false := by rfl) (hdb : (g == ("__debug__" : Str)) = false := by decide) (hdy : (y == ("__debug__" : Str)) = false := by decide) (hdn : (n == ("__debug__" : Str)) = false := by decide) (hcn : (n == ("__classdict__" : Str)) = false := by decide)
 (he : starEach [.Name n np] X.env = [(false, eval (.Name n np) X.env)] := by rfl) :
 PS X (.Try body [.ExceptHandler (some (.Name y yp)) (some n) [.Assign [.Name a ap] (.Call (.Name g gp) [.Name n np] [] cpos) spos] hpos] [] [] pos) (Pg X.K CE i j sp tb) := by
 intro pins s σ H D I h
 refine wpAny_Try_except (wpAny_mono (hb pins s σ H _ _ I h) (fun fl s1 ⟨ef, σ', H', I1, q⟩ => ?_) fun ex s2 ⟨H1, s1, I1, hq⟩ => ?_)
 ·subst ef
  exact wpAny_execs_nil ⟨σ', H', I1, q⟩
 obtain ⟨ea, cls, a0, B, H2, rfl, os, bare, un, hok, fly, k1, k2, hxm, hts⟩ := hq
 have hH2 : H2 ea = none := by
  cases z : H2 ea with
  | none => rfl
  | some u => obtain ⟨o', q'⟩ := k2 ea u z; rw [fly.2.1] at q'; cases q'
 have hts := hts ea hH2
 have hA : X.A.frames = some (X.env :: X.outer) := by rw [← hst]; exact I.ok.frames
 have ff := fly.2.2.1
 rw [hst] at fly
 refine NY (B := B) hA hfr fly fun h3 held us3 => ?_
 refine KO (s := { s2 with heap := h3 }) held fun h4 fly4 us4 => ?_
 have u4 := us3.trans us4
 have J4 := I1.flown (toks := s2.toks) un hok os bare fly.1 k1 k2 fly4.1 (Inv.slots ff u4)
 refine wpAny_handleBy_cons (codeAny_handlers_test ?_) (by intro q; cases q)
 refine DL (X := X.marked ea) (J4.marked ea) hgy hmy ?_ hdy
 obtain ⟨ob, hob, hcl, _⟩ := fly4.obj
 have LT : PySem.W.Looks (model X.prog X.w) h4 (typeOf (.ref ea)) cls := by subst hcl; exact (PySem.W.Looks.ld hob).andThen .now
 refine (PySem.W.exm_one J4.kIn LT hxm).here ?_
 refine codeAny_handlers_suite_as ?_
 refine KO (s := { s2 with heap := h4 }) fly4 fun h5 fly5 us5 => ?_
 obtain ⟨oe, heo, hec, hct⟩ := fly5.obj
 have J5 := I1.flown (toks := s2.toks) un hok os bare fly.1 k1 k2 fly5.1 (Inv.slots ff (u4.trans us5))
 have p5 : ea ∉ (X.env :: X.outer).filterMap (·.frame) := fun z => by
  obtain ⟨_, o', e', nf⟩ := fly5.2.2.1.mem z
  rw [heo] at e'
  cases e'
  obtain ⟨v, hv, _⟩ := hct
  exact nf v hv
 rw [SI, hfr] at p5
 have p3 : ea ≠ X.env.locals := fun z => p5 (z ▸ SJ)
 have p4 : ea ∉ X.fs := fun z => p5 (SK _ z)
 have J6 : Inv (X.kept ea oe) pins σ H2 { s2 with heap := h5 } := J5.kept2 heo hH2 p3 p4 hct
 have il : i < σ.length := by rw [I.len]; exact (SQ.mp hi).1
 have pn : PE (X.kept ea oe) (.Name n np) (HL i) := Mu hi (.inl hl) hdn hcn
 have PC := Ow (p := gp) (pos := cpos) F hr hct hst hfr hg (Aa pn Ab he) hm hdb he
 have PA1 : PS (X.kept ea oe) (.Assign [.Name a ap] (.Call (.Name g gp) [.Name n np] [] cpos) spos) _ := Aq nd hj (.inl hla) PC hs (.inr hla)
 refine CO (X := X.kept ea oe) J6 nd hi (.inl hl) (v := .ref ea) rfl (fun s6 I6 => ?_) (.inr hl)
 have hq6 : Lj (Pj sp ea oe.cls (Kq (HL i) Ng)) (C6 j) { nx := fun σ' H3 => D.nx (σ'.set i none) H3, rt := fun _ _ => False } (σ.set i (some (.ref ea))) H2 :=
  ⟨.ref ea, by rw [SR il], rfl, by rw [hec]; exact hts⟩
 refine wpAny_execs_cons (wpAny_mono (PA1 pins s6 _ _ _ I6 hq6) (fun fl s7 hs7 => ?_) fun _ _ z => False.elim z)
 cases fl with
 | next =>
   obtain ⟨σ', H7, I7, q7⟩ := hs7
   refine wpAny_execs_nil ?_
   obtain ⟨m, hn, hl7⟩ := id I7.loc
   refine wpAny_nameGoes_keeps hl hn (by rw [I.ok.kind]; rfl) fun h8 v hn8 sb => ?_
   exact ⟨_, _, (I7.unkept I.ok).gone nd hi hl7 hn8 sb, q7⟩
 | ret u => obtain ⟨_, _, _, _, _, q7⟩ := hs7; exact q7.elim
 | brk => obtain ⟨_, _, _, q7⟩ := hs7; exact q7.elim
 | cont => obtain ⟨_, _, _, q7⟩ := hs7; exact q7.elim
section
open PySem.W
variable {X : Cx} (K : SE)
inductive O6 (ea : Addr) (cls : Value) (xs : List V) (H : Hp) (Q : VK) : Prop
 | mk (D : _) (y : _) (c : _) (b : _) (h1 : cls = .ref D) (h2 : XTy K D) (h3 : xs = [.ref ea, y]) (h4 : NG y = some c) (h5 : kitOne K (.ref D) c = some b) (h6 : Q (.bl b) H) : O6 ea cls xs H Q
theorem Gs {ea : Addr} {oe : Obj} (hx : Hx X ea oe) (e : X.K = K := by rfl) : BO X (.builtin "isinstance") (O6 K ea oe.cls) := by
 subst e
 intro pins s σ H xs us Q I r h
 obtain ⟨D, y, c, b, hD, T, rfl, hy, hk, q⟩ := h
 have hp : Pd ea D s.heap := ⟨oe, hx.at I, hD⟩
 obtain ⟨u, w', rfl, rx, ry⟩ := LV r
 cases rx
 rw [JD ry hy]
 exact kia_one (MN T) I.kIn hp hk (fun z => nomatch z) fun tk => ⟨.bl b, H, I.tok _, rfl, q⟩
end
end L2
namespace L2
open PySem PySem.Spec PyProof.Rows PySem.W
def Dv : List Str := ["many", "points", "point", "number", "curve", "stretch", "deep", "few", "text", "row"]
structure Kl (K : Frag) (D : Addr) (cs : List Addr) (n : Nat) : Prop where
 ty : XTy K D
 ve : kitOne K (.ref D) (.type "ValueError") = some true
 of : ∀ i c, cs[i]? = some c → kitOne K (.ref D) (.ref c) = some (i == n)
def JR (K : Frag) (cs : List Addr) : SpH := fun cls _ H Q => ∃ D n w, cls = .ref D ∧ Kl K D cs n ∧ Dv[n]? = some w ∧ ∀ H', Ah H H' → Q (.str w) H'
def WB (K : Frag) (H : Hp) (x : V) (p : Str × Bool) : Prop := ∃ a, x = .ref a ∧ SqT K H a [.str p.1, .bl p.2]
theorem WB.same {K : Frag} {H H' : Hp} {x : V} {p : Str × Bool} (h : WB K H x p) (e : Ah H H') : WB K H' x p := let ⟨a, q, r⟩ := h; ⟨a, q, r.same e⟩
theorem WBs.same {K : Frag} {H H' : Hp} {xs : List V} {ps : List (Str × Bool)} (h : Paired (WB K H) xs ps) (e : Ah H H') : Paired (WB K H') xs ps := Paired.mapP h fun _ _ q => WB.same q e
theorem WBs.snoc {K : Frag} {H : Hp} {xs : List V} {ps : List (Str × Bool)} {x y : V} {p r : Str × Bool} (h : Paired (WB K H) xs ps) (h1 : WB K H x p) (h2 : WB K H y r) : Paired (WB K H) (xs ++ [x, y]) (ps ++ [p, r]) := by
 induction h with
 | nil => exact .cons h1 (.cons h2 .nil)
 | cons a b ih => exact .cons a ih
def Cy (ps : List (Str × Bool)) : List V := (ps.filter (·.2)).map fun p => .str p.1
theorem J7 (ps : List (Str × Bool)) (p : Str × Bool) : Cy (ps ++ [p]) = if p.2 = true then Cy ps ++ [.str p.1] else Cy ps := by
 unfold Cy
 rw [List.filter_append]
 by_cases h : p.2 = true
 ·rw [if_pos h, UG]
  simp [h]
 ·rw [if_neg h]
  simp [h]
theorem Nz {K : Frag} {a : Addr} {xs : List V} {ps : List (Str × Bool)} {σ : St} {H : Hp} {Fin : List V → Hp → Prop} (hS : SqL K H a xs) (hP : Paired (WB K H) xs ps) (hz : xs.length ≤ sizeLine) (fin : Fin (Cy ps) H) :
 ∃ (n' : Nat) (W : Nat → List V → Hp → Prop), W 0 [] H ∧ LcW (Itl K a) n' 2 [] σ (LI K 2 (Jx (C6 0) (Jx (C6 1) OV))) (tB (HL 1)) (HL 0) Fin W := by
 have hl := hP.length
 have le : ∀ i, i ≤ xs.length → (Cy (ps.take i)).length ≤ i := fun i hi => by
  unfold Cy
  rw [Th]
  exact SG (List.length_filter_le _ _) (by rw [Tz]; exact Nat.min_le_left _ _)
 refine ⟨xs.length, fun i zs H' => H' = H ∧ zs = Cy (ps.take i), ⟨rfl, rfl⟩, ⟨?_, ?_, ?_⟩⟩
 ·rintro i zs H' hi ⟨rfl, rfl⟩
  exact ⟨⟨xs, xs[i], hS, by simp [hi]⟩, U5 (le i (SH hi)) (Su hi hz)⟩
 ·rintro i zs H' x H1 hi ⟨rfl, rfl⟩ ⟨rfl, y⟩
  have hx := y xs hS
  have hi' : i < ps.length := by rw [← hl]; exact hi
  obtain ⟨q, hq, c, rfl, hT⟩ := Paired.get hP hx
  have et : ps.take (i + 1) = ps.take i ++ [q] := by rw [UL, hq]; rfl
  refine ⟨c, _, rfl, hT, rfl, .str q.1, _, rfl, .bl q.2, _, rfl, rfl, ⟨.bl q.2, rfl, q.2, rfl, ?_⟩⟩
  have e := J7 (ps.take i) q
  rw [← et] at e
  by_cases h : q.2 = true
  ·rw [if_pos h] at e
   show if q.2 = true then _ else _
   rw [if_pos h]
   exact ⟨.str q.1, rfl, rfl, e.symm⟩
  ·rw [if_neg h] at e
   show if q.2 = true then _ else _
   rw [if_neg h]
   exact ⟨rfl, e.symm⟩
 ·rintro zs H' ⟨rfl, rfl⟩
  refine ⟨⟨xs, hS, SW _⟩, SG (le _ (SW _)) hz, ?_⟩
  rw [hl, UM]
  exact fin
theorem MB {n : Nat} {w : Str} (h : Dv[n]? = some w) : Cy (List.zip Dv ((Sx 10).map fun i => i == n)) = [.str w] := by
 have hn : n < 10 := by
  have := (SQ.mp h).1
  exact this
 have key : ∀ n : Fin 10, ∀ w, Dv[n.val]? = some w → Cy (List.zip Dv ((Sx 10).map fun i => i == n.val)) = [.str w] := by
  intro n w h
  match n, h with
  | 0, h => cases h; rfl
  | 1, h => cases h; rfl
  | 2, h => cases h; rfl
  | 3, h => cases h; rfl
  | 4, h => cases h; rfl
  | 5, h => cases h; rfl
  | 6, h => cases h; rfl
  | 7, h => cases h; rfl
  | 8, h => cases h; rfl
  | 9, h => cases h; rfl
 exact key ⟨n, hn⟩ w h
end L2
namespace L2
open PySem PySem.Spec PyProof.Rows
section
variable {prog : Program} {w : World} {A : Around} {E : Value → Shared → Prop}
end
end L2
namespace L2
open PySem PySem.Spec PyProof.Rows
namespace St
open SetTable
abbrev Ris (xs : Array Nat) : Prop := xs.toList.Pairwise (· < ·)
theorem Ris.lt {xs : Array Nat} (h : Ris xs) {i k x y : Nat} (hi : xs[i]? = some x) (hk : xs[k]? = some y) (hl : i < k) : x < y := by
 rw [← Ux] at hi hk
 obtain ⟨h1, e1⟩ := SQ.mp hi
 obtain ⟨h2, e2⟩ := SQ.mp hk
 rw [← e1, ← e2]
 exact UN.mp h i k h1 h2 hl
theorem below_go {xs : Array Nat} (hr : Ris xs) (j : Nat) : ∀ (fuel lo hi : Nat), hi ≤ xs.size → lo ≤ hi → hi - lo ≤ fuel → (∀ i x, i < lo → xs[i]? = some x → x < j) → (∀ i x, hi ≤ i → xs[i]? = some x → j ≤ x) →
 ∃ p, below.go xs j fuel lo hi = p ∧ p ≤ xs.size ∧ (∀ i x, i < p → xs[i]? = some x → x < j) ∧ ∀ i x, p ≤ i → xs[i]? = some x → j ≤ x := by
 intro fuel
 induction fuel with
 | zero =>
   intro lo hi h1 h2 h3 hA hB
   exact ⟨lo, rfl, by lia, hA, fun i x hi' => hB i x (by lia)⟩
 | succ fuel ih =>
   intro lo hi h1 h2 h3 hA hB
   unfold below.go
   by_cases hl : lo < hi
   ·rw [if_pos hl]
    have hm : (lo + hi) / 2 < xs.size := by lia
    have g : xs[(lo + hi) / 2]? = some xs[(lo + hi) / 2] := UD hm
    have gd : xs.getD ((lo + hi) / 2) j = xs[(lo + hi) / 2] := by rw [Uz, g]; rfl
    dsimp only
    rw [gd]
    by_cases hc : xs[(lo + hi) / 2] < j
    ·rw [if_pos hc]
     refine ih ((lo + hi) / 2 + 1) hi h1 (by lia) (by lia) (fun i x hi' hx => ?_) hB
     rcases UO i ((lo + hi) / 2) with z | z
     ·exact UP (hr.lt hx g z) hc
     ·have e : i = (lo + hi) / 2 := by lia
      subst e
      rw [g] at hx
      cases hx
      exact hc
    ·rw [if_neg hc]
     refine ih lo ((lo + hi) / 2) (by lia) (by lia) (by lia) hA (fun i x hi' hx => ?_)
     rcases UO ((lo + hi) / 2) i with z | z
     ·exact SG (Uc.mp hc) (SH (hr.lt g hx z))
     ·have e : i = (lo + hi) / 2 := by lia
      subst e
      rw [g] at hx
      cases hx
      exact Uc.mp hc
   ·rw [if_neg hl]
    exact ⟨lo, rfl, by lia, hA, fun i x hi' => hB i x (by lia)⟩
theorem below_ok {xs : Array Nat} (hr : Ris xs) (j : Nat) : below xs j ≤ xs.size ∧ (∀ i x, i < below xs j → xs[i]? = some x → x < j) ∧ ∀ i x, below xs j ≤ i → xs[i]? = some x → j ≤ x := by
 obtain ⟨p, e, h⟩ := below_go hr j xs.size 0 xs.size (SW _) (T1 _) (by lia) (fun i x h => absurd h (UQ _)) (fun i x h hx => by
  have := (UJ.mp hx).1
  lia)
 unfold below
 rw [e]
 exact h
theorem slot_live {t : SetTable} (hr : Ris t.place) {i j : Nat} (h : t.place[i]? = some j) : t.slot j = .live i := by
 obtain ⟨_, b2, b3⟩ := below_ok hr j
 have e : below t.place j = i := by
  rcases UR (below t.place j) i with z | z | z
  ·have hs : i < t.place.size := (UJ.mp h).1
   have g : t.place[below t.place j]? = some t.place[below t.place j] := UD (by lia)
   have h1 := b3 _ _ (SW _) g
   have h2 := hr.lt g h z
   lia
  ·exact z
  ·exact absurd (b2 i j z h) (Sv _)
 unfold slot
 rw [e]
 dsimp only
 rw [h]
 simp
theorem insert_list {α : Type} (xs : Array α) (p : Nat) (x : α) : (insertAt xs p x).toList = xs.toList.take p ++ x :: xs.toList.drop p := by
 unfold insertAt
 simp [Array.toList_append, Array.toList_push, Array.toList_extract, List.extract_eq_drop_take]
 exact Ut (by rw [U0, SU]; exact SW _)
theorem insert_at {α : Type} {xs : Array α} {p : Nat} {x : α} (hp : p ≤ xs.size) {i : Nat} : (insertAt xs p x)[i]? = if i < p then xs[i]? else if i = p then some x else xs[i - 1]? := by
 rw [← Ux, insert_list]
 have hl : (xs.toList.take p).length = p := by rw [Tz, SU]; lia
 by_cases h1 : i < p
 ·rw [if_pos h1, TH (by rw [hl]; exact h1), TK h1, Ux]
 ·rw [if_neg h1, TC (by rw [hl]; lia), hl]
  by_cases h2 : i = p
  ·subst h2
   rw [if_pos rfl, Nat.sub_self]
   rfl
  ·rw [if_neg h2]
   obtain ⟨k, hk⟩ : ∃ k, i - p = k + 1 := ⟨i - p - 1, by lia⟩
   rw [hk, US, Ue, Ux]
   congr 1
   lia
theorem Ris.put {xs : Array Nat} (hr : Ris xs) {j : Nat} (hn : ∀ i : Nat, xs[i]? ≠ some j) : Ris (insertAt xs (below xs j) j) := by
 obtain ⟨b1, b2, b3⟩ := below_ok hr j
 show List.Pairwise _ _
 rw [insert_list, List.pairwise_append]
 refine ⟨hr.sublist (List.take_sublist _ _), ?_, ?_⟩
 ·rw [List.pairwise_cons]
  refine ⟨fun y hy => ?_, hr.sublist (List.drop_sublist _ _)⟩
  obtain ⟨i, hi⟩ := UB hy
  rw [Ue, Ux] at hi
  have h1 := b3 _ y (UT _ _) hi
  have h2 : y ≠ j := fun z => hn _ (z ▸ hi)
  lia
 ·intro a ha b hb
  obtain ⟨i, hi⟩ := UB ha
  have hil : i < below xs j := by
   have := (SQ.mp hi).1
   rw [Tz] at this
   lia
  rw [TK hil, Ux] at hi
  have h1 := b2 i a hil hi
  rcases SM.mp hb with z | z
  ·rw [z]; exact h1
  ·obtain ⟨k, hk⟩ := UB z
   rw [Ue, Ux] at hk
   have := b3 _ b (UT _ _) hk
   lia
theorem adv_mask {t u : SetTable} (h : t.mask = u.mask) (p : Probe) : t.advance p = u.advance p := by unfold advance; rw [h]
theorem advs_mask {t u : SetTable} (h : t.mask = u.mask) : ∀ n p, advs t n p = advs u n p
 | 0, _ => rfl
 | n + 1, p => by show advs t n (t.advance p) = advs u n (u.advance p); rw [adv_mask h, advs_mask h n]
theorem start_mask {t u : SetTable} (h : t.mask = u.mask) (x : Int) : t.probeStart x = u.probeStart x := by unfold probeStart; rw [h]
def Way (t : SetTable) (occ : Nat → Prop) (p : Probe) (j : Nat) : Prop := ∃ m, (advs t m p).j = j ∧ ∀ i, i < m → occ (advs t i p).j
theorem Way.mono {t : SetTable} {o1 o2 : Nat → Prop} {p : Probe} {j : Nat} (h : Way t o1 p j) (k : ∀ s, o1 s → o2 s) : Way t o2 p j := let ⟨m, e, a⟩ := h; ⟨m, e, fun i hi => k _ (a i hi)⟩
theorem Way.mask {t u : SetTable} {o : Nat → Prop} {p : Probe} {j : Nat} (h : Way t o p j) (e : t.mask = u.mask) : Way u o p j := by
 obtain ⟨m, e1, a⟩ := h
 exact ⟨m, by rw [← advs_mask e]; exact e1, fun i hi => by rw [← advs_mask e]; exact a i hi⟩
theorem advs_in (t : SetTable) : ∀ (c j r i pert : Nat), c ≤ r → advs t c { j := j, more := r, i := i, perturb := pert, dummy := none } = { j := j + c, more := r - c, i := i, perturb := pert, dummy := none }
 | 0, j, r, i, pert, _ => rfl
 | c + 1, j, r, i, pert, h => by
   show advs t c (t.advance _) = _
   have e : t.advance { j := j, more := r, i := i, perturb := pert, dummy := none } = { j := j + 1, more := r - 1, i := i, perturb := pert, dummy := none } := by
    unfold advance
    rw [if_pos (by show 0 < r; lia)]
   rw [e, advs_in t c (j + 1) (r - 1) i pert (by lia)]
   congr 1 <;> lia
theorem way_run {t : SetTable} {occ : Nat → Prop} {i pert c : Nat} (hc : c ≤ runEnd t.mask i - i) (h : ∀ d, d < c → occ (i + d)) : Way t occ (base t.mask i pert) (i + c) :=
 ⟨c, by unfold base; rw [advs_in t c i _ i pert hc], fun d hd => by unfold base; rw [advs_in t d i _ i pert (by lia)]; exact h d hd⟩
theorem way_on {t : SetTable} {occ : Nat → Prop} {i pert j : Nat} (h : ∀ d, d ≤ runEnd t.mask i - i → occ (i + d)) (k : Way t occ (base t.mask (leap t.mask i pert).1 (leap t.mask i pert).2) j) : Way t occ (base t.mask i pert) j := by
 obtain ⟨m, e, a⟩ := k
 have er : advs t (runEnd t.mask i - i + 1) (base t.mask i pert) = base t.mask (leap t.mask i pert).1 (leap t.mask i pert).2 := advs_run t _ _ _ _
 refine ⟨runEnd t.mask i - i + 1 + m, by rw [advs_add, er]; exact e, fun d hd => ?_⟩
 rcases UO d (runEnd t.mask i - i + 1) with z | z
 ·have := h d (by lia)
  unfold base
  rw [advs_in t d i _ i pert (by lia)]
  exact this
 ·obtain ⟨c, rfl⟩ : ∃ c, d = runEnd t.mask i - i + 1 + c := ⟨d - (runEnd t.mask i - i + 1), by lia⟩
  rw [advs_add, er]
  exact a c (by lia)
theorem run_31 {i : Nat} (h : i < 32) : i ≤ runEnd 31 i ∧ runEnd 31 i < 32 := by unfold runEnd; split <;> lia
def Tk (owner : Array (Option Nat)) (s : Nat) : Prop := s < 32 ∧ owner.getD s (some 0) ≠ none
theorem free_way {t : SetTable} (hm : t.mask = 31) {owner : Array (Option Nat)} : ∀ (fuel i pert j : Nat), i < 32 → layClean.free 31 owner fuel i pert = some j → Way t (Tk owner) (base t.mask i pert) j := by
 intro fuel
 induction fuel with
 | zero => intro i pert j _ h; cases h
 | succ fuel ih =>
   intro i pert j hi h
   have hrun := run_31 hi
   unfold layClean.free at h
   split at h
   ·next k hk =>
    cases h
    have hmem := List.mem_of_find?_eq_some hk
    have hkl := SD.mp hmem
    refine way_run (by rw [hm]; lia) fun d hd => ⟨by lia, ?_⟩
    have := List.find?_eq_some_iff_getElem.mp hk
    obtain ⟨_, n, hn, e, hbef⟩ := this
    rw [UC] at e
    subst e
    have := hbef d hd
    rw [UC] at this
    intro z
    rw [z] at this
    cases this
   ·next hk =>
    refine way_on (fun d hd => ?_) ?_
    ·rw [List.find?_eq_none] at hk
     rw [hm] at hd
     have := hk d (SD.mpr (by lia))
     refine ⟨by lia, fun z => ?_⟩
     rw [z] at this
     exact this rfl
    ·have h' : layClean.free 31 owner fuel (leap 31 i pert).1 (leap 31 i pert).2 = some j := h
     have := ih _ _ _ (Nat.mod_lt _ (by decide)) h'
     rw [hm] at this ⊢
     exact this
def WO (t : SetTable) (hs : List Int) (owner : Array (Option Nat)) : Prop := ∀ j i, owner.getD j none = some i → ∃ h, hs[i]? = some h ∧ Way t (Tk owner) (base t.mask (bits h % 32) (bits h)) j
theorem tk_set {owner : Array (Option Nat)} {j k s : Nat} (h : Tk owner s) : Tk (owner.setIfInBounds j (some k)) s := by
 refine ⟨h.1, fun z => ?_⟩
 rw [Uz, UU] at z
 split at z
 ·split at z <;> cases z
 ·rw [← Uz] at z
  exact h.2 z
theorem stp_way {t : SetTable} (hm : t.mask = 31) {hs : List Int} {owner owner' : Array (Option Nat)} {k k' : Nat} {h : Int} (w : WO t hs owner) (hk : hs[k]? = some h) (e : stp (some (owner, k)) h = some (owner', k')) : WO t hs owner' := by
 have e' : (do let j ← layClean.free 31 owner (turns 31) (bits h % (31 + 1)) (bits h); pure (owner.setIfInBounds j (some k), k + 1)) = some (owner', k') := e
 cases ef : layClean.free 31 owner (turns 31) (bits h % (31 + 1)) (bits h) with
 | none => rw [ef] at e'; cases e'
 | some j =>
   rw [ef] at e'
   have e2 : some (owner.setIfInBounds j (some k), k + 1) = some (owner', k') := e'
   cases e2
   intro s i hsi
   rw [Uz, UU] at hsi
   by_cases hjs : j = s
   ·rw [if_pos hjs] at hsi
    split at hsi
    ·have ei : some k = some i := hsi
     cases ei
     refine ⟨h, hk, ?_⟩
     subst hjs
     exact (free_way hm _ _ _ _ (Nat.mod_lt _ (by decide)) ef).mono fun _ => tk_set
    ·cases hsi
   ·rw [if_neg hjs, ← Uz] at hsi
    obtain ⟨g, g1, g2⟩ := w s i hsi
    exact ⟨g, g1, g2.mono fun _ => tk_set⟩
theorem fold_way {t : SetTable} (hm : t.mask = 31) {hs0 : List Int} : ∀ (hs : List Int) {owner : Array (Option Nat)} {k : Nat}, Own owner k → WO t hs0 owner → (∀ i h, hs[i]? = some h → hs0[k + i]? = some h) → k + hs.length ≤ 32 →
 ∃ owner', hs.foldl stp (some (owner, k)) = some (owner', k + hs.length) ∧ Own owner' (k + hs.length) ∧ WO t hs0 owner'
 | [], owner, k, ho, w, _, _ => ⟨owner, rfl, ho, w⟩
 | h :: hs, owner, k, ho, w, hh, hl => by
   rw [Ta] at hl
   obtain ⟨o1, e1, ho1⟩ := stp_ok ho (by lia) h
   have w1 := stp_way hm w (hh 0 h rfl) e1
   obtain ⟨o2, e2, ho2, w2⟩ := fold_way hm hs ho1 w1 (fun i g hg => by rw [show k + 1 + i = k + (i + 1) by lia]; exact hh (i + 1) g hg) (by lia)
   refine ⟨o2, ?_, ?_, w2⟩
   ·rw [List.foldl_cons, e1, e2, Ta, show k + 1 + hs.length = k + (hs.length + 1) by lia]
   ·rw [Ta, show k + (hs.length + 1) = k + 1 + hs.length by lia]; exact ho2
theorem wo_none (t : SetTable) (hs : List Int) : WO t hs (UH 32 none) := fun j i h => by
 rw [Uz, Array.getElem?_replicate] at h
 split at h <;> cases h
theorem lv_first (owner : Array (Option Nat)) : ∀ l : List Nat, (l.filterMap (lv owner)).map (·.1) = l.filter fun j => (owner.getD j none).isSome
 | [] => rfl
 | a :: l => by
   rw [SI, List.filter_cons]
   cases e : owner.getD a none with
   | none =>
     have : lv owner a = none := by unfold lv; rw [e]; rfl
     rw [this]
     simp only [Option.isSome_none, Bool.false_eq_true, if_false]
     exact lv_first owner l
   | some v =>
     have : lv owner a = some (a, v) := by unfold lv; rw [e]; rfl
     rw [this]
     simp only [Option.isSome_some, if_true, Te]
     rw [lv_first owner l]
theorem laid_way (hashes : Array Int) (hn : hashes.size ≤ 32) (finger moves : Nat) (led plain : Bool) : ∃ t order, laid 31 finger moves led plain hashes = some (t, order) ∧ t.mask = 31 ∧ t.dummies = #[] ∧ t.place.size = hashes.size ∧ order.toList.Perm (Sx hashes.size) ∧ Ris t.place ∧
 ∀ i k : Nat, order[i]? = some k → ∃ (j : Nat) (h : Int), t.place[i]? = some j ∧ hashes[k]? = some h ∧ Way t (fun s => ∃ q : Nat, t.place[q]? = some s) (t.probeStart h) j := by
 have hm0 : (SetTable.fresh 0 0 false).mask = 7 := rfl
 obtain ⟨t0, ht0⟩ : ∃ t0 : SetTable, t0.mask = 31 := ⟨{ (SetTable.fresh 0 0 false) with mask := 31 }, rfl⟩
 obtain ⟨owner, e, ho, w⟩ := fold_way ht0 hashes.toList (hs0 := hashes.toList) own_none (wo_none t0 _) (fun i h hh => by rw [Uw]; exact hh) (by rw [SU]; lia)
 have hc : layClean 31 hashes = some owner := by
  unfold layClean
  have e' : hashes.foldl stp (some (UH 32 none, 0)) = some (owner, 0 + hashes.toList.length) := by rw [← Array.foldl_toList]; exact e
  have e2 : hashes.foldl (init := some (UH (31 + 1) none, 0)) (fun acc h => do
   let (owner, k) ← acc
   let j ← layClean.free 31 owner (turns 31) (bits h % (31 + 1)) (bits h)
   pure (owner.setIfInBounds j (some k), k + 1)) = some (owner, 0 + hashes.toList.length) := e'
  rw [e2]; rfl
 have hp := ho.2
 rw [Uw, SU] at hp
 obtain ⟨t, ht⟩ : ∃ t : SetTable, t = { mask := 31, place := (((Sx 32).filterMap (lv owner)).map (·.1)).toArray, dummies := #[], finger, led, moves, plain } := ⟨_, rfl⟩
 have htm : t.mask = 31 := by rw [ht]
 have hpl : t.place.toList = ((Sx 32).filterMap (lv owner)).map (·.1) := by rw [ht]
 have occ : ∀ s, Tk owner s → ∃ q : Nat, t.place[q]? = some s := fun s hs => by
  have h1 : ∃ v, owner.getD s none = some v := by
   have h2 := hs.2
   rw [Uz] at h2
   have hlt : s < owner.size := by rw [ho.1]; exact hs.1
   rw [UD hlt] at h2
   cases hv : owner[s] with
   | none => rw [hv] at h2; exact absurd rfl h2
   | some v => exact ⟨v, by rw [Uz, UD hlt, hv]; rfl⟩
  obtain ⟨v, hv⟩ := h1
  have hmem : s ∈ t.place.toList := by
   rw [hpl, lv_first]
   exact Sz.mpr ⟨SD.mpr hs.1, by rw [hv]; rfl⟩
  obtain ⟨q, hq⟩ := UB hmem
  exact ⟨q, by rw [← Ux]; exact hq⟩
 refine ⟨t, (((Sx 32).filterMap (lv owner)).map (·.2)).toArray, ?_, htm, by rw [ht], ?_, hp, ?_, fun i k hk => ?_⟩
 ·unfold laid
  rw [hc, ht]
  rfl
 ·have := hp.length_eq
  rw [Th, Uy] at this
  rw [← SU, hpl, Th]; exact this
 ·show List.Pairwise _ _
  rw [hpl, lv_first]
  exact List.Pairwise.sublist List.filter_sublist List.pairwise_lt_range
 ·rw [← Ux] at hk
  have hk : (((Sx 32).filterMap (lv owner)).map (·.2))[i]? = some k := hk
  rw [TJ] at hk
  cases hg : ((Sx 32).filterMap (lv owner))[i]? with
  | none => rw [hg] at hk; cases hk
  | some x =>
    obtain ⟨j, k'⟩ := x
    rw [hg] at hk
    have ek : k' = k := So.inj hk
    obtain ⟨j', _, hj'⟩ := SX.mp (TL hg)
    unfold lv at hj'
    cases hv : owner.getD j' none with
    | none => rw [hv] at hj'; cases hj'
    | some v =>
      rw [hv] at hj'
      have e3 : (j', v) = (j, k') := So.inj hj'
      have ej : j' = j := congrArg Prod.fst e3
      have ev : v = k := (congrArg Prod.snd e3).trans ek
      rw [ej, ev] at hv
      obtain ⟨h, h1, h2⟩ := w j k hv
      refine ⟨j, h, ?_, by rw [← Ux]; exact h1, ?_⟩
      ·rw [← Ux, hpl, TJ, hg]; rfl
      ·have h3 := (h2.mono occ).mask (u := t) (by rw [htm]; exact ht0)
       rw [ht0] at h3
       unfold probeStart
       rw [htm]
       exact h3
end St
end L2
namespace L2
open PySem PySem.Spec PyProof.Rows
namespace St
open SetTable
abbrev Occ (t : SetTable) (s : Nat) : Prop := ∃ q : Nat, t.place[q]? = some s
theorem go_way {t : SetTable} (hd : t.dummies = #[]) {ha : Nat → Int} {h : Int} : ∀ (fuel k : Nat) (p : Probe), k < fuel → p.dummy = none → Hit t k p →
 (∃ c j, probe.go t ha h fuel p = some (.empty j none) ∧ (advs t c p).j = j ∧ t.slot j = .empty ∧ ∀ l, l < c → Occ t (advs t l p).j) ∨
 ∃ c j i k', probe.go t ha h fuel p = some (.candidate j i (advs t (c + 1) p)) ∧ t.slot j = .live i ∧ t.place[i]? = some j ∧ (advs t (c + 1) p).dummy = none ∧ Hit t k' (advs t (c + 1) p) ∧ k' < k ∧ ∀ l, l < c + 1 → Occ t (advs t l p).j
 | fuel + 1, k, p, hk, hp, hh => by
   unfold probe.go
   rcases slot_cases hd p.j with z | ⟨i, z, zp⟩
   ·rw [z]
    exact .inl ⟨0, p.j, by simp only [hp], rfl, z, fun l hl => absurd hl (UQ _)⟩
   ·rw [z]
    have hk0 : ∃ k', k = k' + 1 := by
     cases k with
     | zero => unfold Hit at hh; rw [show advs t 0 p = p from rfl, z] at hh; cases hh
     | succ k' => exact ⟨k', rfl⟩
    obtain ⟨k', rfl⟩ := hk0
    have hh' : Hit t k' (t.advance p) := hh
    by_cases hq : (ha i == h) = true
    ·refine .inr ⟨0, p.j, i, k', ?_, z, zp, adv_dummy t hp, hh', by lia, fun l hl => ?_⟩
     ·simp only [hq]
      rfl
     ·obtain rfl : l = 0 := by lia
      exact ⟨i, zp⟩
    ·have hq' : (ha i == h) = false := by simpa using hq
     simp only [hq']
     have front : ∀ {c : Nat}, (∀ l, l < c → Occ t (advs t l (t.advance p)).j) → ∀ l, l < c + 1 → Occ t (advs t l p).j := fun {c} hc l hl => by
      cases l with
      | zero => exact ⟨i, zp⟩
      | succ l => exact hc l (by lia)
     rcases go_way hd fuel k' (t.advance p) (by lia) (adv_dummy t hp) hh' with ⟨c, j, e, r0, r1, r2⟩ | ⟨c, j, i', k2, e, r1, r2, r3, r4, r5, r6⟩
     ·exact .inl ⟨c + 1, j, e, r0, r1, front r2⟩
     ·exact .inr ⟨c + 1, j, i', k2, e, r1, r2, r3, r4, by lia, front r6⟩
theorem go_there {t : SetTable} (hr : Ris t.place) {ha : Nat → Int} {h : Int} {i0 j0 : Nat} (h0 : t.place[i0]? = some j0) (hh : (ha i0 == h) = true) : ∀ (fuel r : Nat) (p : Probe), r < fuel → p.dummy = none → (advs t r p).j = j0 → (∀ l, l < r → Occ t (advs t l p).j) →
 ∃ j i next, probe.go t ha h fuel p = some (.candidate j i next) ∧ t.slot j = .live i ∧ t.place[i]? = some j ∧ (i = i0 ∨ ∃ r', r' < r ∧ next.dummy = none ∧ (advs t r' next).j = j0 ∧ ∀ l, l < r' → Occ t (advs t l next).j)
 | fuel + 1, 0, p, _, hp, hj, _ => by
   have hj : p.j = j0 := hj
   have z : t.slot p.j = .live i0 := by rw [hj]; exact slot_live hr h0
   unfold probe.go
   rw [z]
   refine ⟨p.j, i0, t.advance p, ?_, z, by rw [hj]; exact h0, .inl rfl⟩
   simp only [hh]
   rfl
 | fuel + 1, r + 1, p, hk, hp, hj, ho => by
   obtain ⟨i, hi⟩ := ho 0 (Nat.succ_pos _)
   have hi : t.place[i]? = some p.j := hi
   have z : t.slot p.j = .live i := slot_live hr hi
   unfold probe.go
   rw [z]
   have ho' : ∀ l, l < r → Occ t (advs t l (t.advance p)).j := fun l hl => ho (l + 1) (by lia)
   by_cases hq : (ha i == h) = true
   ·refine ⟨p.j, i, t.advance p, ?_, z, hi, .inr ⟨r, Ti _, adv_dummy t hp, hj, ho'⟩⟩
    simp only [hq]
    rfl
   ·have hq' : (ha i == h) = false := by simpa using hq
    simp only [hq']
    obtain ⟨j, i', next, e, r1, r2, r3⟩ := go_there hr h0 hh fuel r (t.advance p) (by lia) (adv_dummy t hp) hj ho'
    refine ⟨j, i', next, e, r1, r2, ?_⟩
    rcases r3 with z | ⟨r', q1, q2⟩
    ·exact .inl z
    ·exact .inr ⟨r', by lia, q2⟩
section
variable {prog : Program} {w : World} {K : Type} [DecidableEq K] {knd : KeyKind prog w K} {A : Around} {E : Value → Shared → Prop} {s : Shared}
def Nms (knd : KeyKind prog w K) (h : Heap) (l : List Value) : Prop := ∀ v ∈ l, ∃ b k', v = .ref b ∧ IsN knd h k' b
theorem unseen2 {ks : List K} {x : Addr} {Q : Bool → Shared → Prop} (hx : IsN knd s.heap ks x) {l : List Value} (hl : Nms knd s.heap l) (h : Q false s) : wpAny (model prog w) A (searchCouldBeSeen (.ref x) l) Q E s := by
 unfold searchCouldBeSeen
 refine wpAny_bind ?_
 refine wpAny_forIn_list _ (fun Bu r s' => r.1 = none ∧ s' = s ∧ Nms knd s.heap Bu) _ ?_ ?_ _ _ ⟨rfl, rfl, hl⟩
 ·rintro v Bu r s' ⟨hr, rfl, hall⟩
  obtain ⟨b, k', rfl, hb⟩ := hall v SJ
  have hrest : Nms knd s'.heap Bu := fun u hu' => hall u (SK _ hu')
  have hc : ((match (Value.ref x), (Value.ref b) with | .ref a, .ref b => a == b | _, _ => false) || (carriedByValue (.ref x) && carriedByValue (.ref b))) = (x == b) := by
   show ((x == b) || (false && false)) = _
   simp
  show wpAny _ _ (if ((match (Value.ref x), (Value.ref b) with | .ref a, .ref b => a == b | _, _ => false) || (carriedByValue (.ref x) && carriedByValue (.ref b))) = true then _ else _) _ _ _
  rw [hc]
  by_cases hxb : (x == b) = true
  ·rw [if_pos hxb]
   exact wpAny_pure ⟨rfl, rfl, hrest⟩
  rw [if_neg hxb]
  refine wpAny_bind (wpAny_eqIsQuiet_tuple hx.key ?_)
  simp only [Bool.not_true, Bool.false_eq_true, if_false]
  refine wpAny_bind (wpAny_eqIsQuiet_tuple hb.key ?_)
  simp only [Bool.not_true, Bool.false_eq_true, if_false]
  refine wpAny_bind (ofClass_n hx ?_)
  simp only [Bool.false_eq_true, if_false]
  refine wpAny_bind (ofClass_n hb ?_)
  simp only [Bool.false_eq_true, if_false]
  exact wpAny_pure ⟨rfl, rfl, hrest⟩
 ·rintro ⟨r1, r2⟩ s' ⟨hr, rfl, _⟩
  simp only at hr
  subst hr
  exact wpAny_pure h
variable {S : Addr} {o : Obj} {es : Array (Int × Value)} {ep : Nat} {t : SetTable}
theorem nms_of {ks : List K} (hes : ∀ e ∈ es.toList, ∃ b k', e.2 = Value.ref b ∧ IsN knd s.heap k' b) {h : Int} : Nms knd s.heap (List.map (fun x => x.snd) (Array.filter (fun x => x.fst == h) es).toList) := fun v hv => by
 obtain ⟨e0, he0, rfl⟩ := UW.mp hv
 rw [Array.toList_filter] at he0
 exact hes e0 (Sz.mp he0).1
theorem same_self (t : SetTable) : t.sameMemory t.moves t.mask = some true := by unfold sameMemory; rw [if_pos (beq_self_eq_true _)]
theorem look_one (ho : s.heap.get? S = some o) (hd : o.data = .set es ep t) (hf : t.fits es.size = true) {x b : Addr} {ks kb : List K} (hx : IsN knd s.heap ks x) (hb : IsN knd s.heap kb b) (hes : ∀ e ∈ es.toList, ∃ b k', e.2 = Value.ref b ∧ IsN knd s.heap k' b)
 (hu : A.units < cLine) {h h1 : Int} {F j i : Nat} {next : Probe} (r1 : t.slot j = .live i) (hei : es[i]? = some (h1, Value.ref b)) {Q : SetFound → Shared → Prop} (yes : kb = ks → Q (.there none) s) (no : kb ≠ ks → wpAny (model prog w) A (setSearchFrom S (.ref x) h true F (some next)) Q E s) :
 wpAny (model prog w) A (do
  if !t.led then
   if ← searchCouldBeSeen (.ref x) ((es.filter (·.1 == h)).toList.map (·.2)) then unsupported "set:the-search-would-show-the-table"
  let some (_, y) := es[i]? | unsupported "internal:set-entry"
  let equal ← holding [y] (eqBool y (.ref x))
  let (es', _, t') ← setState S
  if true && equal then return .there none
  let some same := t'.sameMemory t.moves t.mask | unsupported "set.changed-during-lookup:is-the-new-block-at-the-old-address"
  let still ← match (if same then t'.slot j else .empty) with
   | .live i' => match es'[i']? with
     | some (_, y') => do pure (if ← isSame y' y then some i' else none)
     | none => pure none
   | _ => pure none
  match still with
  | none => rule "set.search.anew"; setSearchFrom S (.ref x) h true F none
  | some i' => if equal then return .there (some i') else setSearchFrom S (.ref x) h true F (some next)) Q E s := by
 have Bu : wpAny (model prog w) A (do
  let some (_, y) := es[i]? | unsupported "internal:set-entry"
  let equal ← holding [y] (eqBool y (.ref x))
  let (es', _, t') ← setState S
  if true && equal then return .there none
  let some same := t'.sameMemory t.moves t.mask | unsupported "set.changed-during-lookup:is-the-new-block-at-the-old-address"
  let still ← match (if same then t'.slot j else .empty) with
   | .live i' => match es'[i']? with
     | some (_, y') => do pure (if ← isSame y' y then some i' else none)
     | none => pure none
   | _ => pure none
  match still with
  | none => rule "set.search.anew"; setSearchFrom S (.ref x) h true F none
  | some i' => if equal then return .there (some i') else setSearchFrom S (.ref x) h true F (some next)) Q E s := by
  rw [hei]
  dsimp only
  refine wpAny_bind (wpAny_holding (wpAny_eqBool_tuple hu hb.key hx.key ?_))
  refine wpAny_bind (wpAny_setState_of ho hd hf ?_)
  by_cases hk : kb = ks
  ·rw [decide_eq_true hk]
   simp only [Bool.and_self, if_true]
   exact wpAny_pure (yes hk)
  ·rw [decide_eq_false hk]
   simp only [Bool.and_false, Bool.false_eq_true, if_false, same_self, if_true, r1, hei]
   refine wpAny_bind (wpAny_isSame_ref_self ?_)
   simp only [if_true]
   refine wpAny_bind (wpAny_pure ?_)
   simp only [Bool.false_eq_true, if_false]
   exact no hk
 rcases Bool.eq_false_or_eq_true t.led with hl | hl
 ·simp only [hl, Bool.not_true, Bool.false_eq_true, if_false]
  exact Bu
 ·simp only [hl, Bool.not_false, if_true]
  refine wpAny_bind (unseen2 hx (nms_of (ks := ks) hes) ?_)
  simp only [Bool.false_eq_true, if_false]
  exact Bu
theorem search_new (ho : s.heap.get? S = some o) (hd : o.data = .set es ep t) (hf : t.fits es.size = true) (hm : t.mask = 7 ∨ t.mask = 31) (hdm : t.dummies = #[]) {x : Addr} {ks : List K} (hx : IsN knd s.heap ks x)
 (hes : ∀ e ∈ es.toList, ∃ b k', e.2 = Value.ref b ∧ IsN knd s.heap k' b ∧ k' ≠ ks) (hu : A.units < cLine) {h : Int} {Q : SetFound → Shared → Prop} (hQ : ∀ j, t.slot j = .empty → Way t (Occ t) (t.probeStart h) j → Q (.free j false) s) :
 ∀ (k F c0 : Nat) (stand : Option Probe), k < F → k < 10 * turns t.mask → stand.getD (t.probeStart h) = advs t c0 (t.probeStart h) → (∀ l, l < c0 → Occ t (advs t l (t.probeStart h)).j) → (stand.getD (t.probeStart h)).dummy = none → Hit t k (stand.getD (t.probeStart h)) → wpAny (model prog w) A (setSearchFrom S (.ref x) h true F stand) Q E s := by
 have hes' : ∀ e ∈ es.toList, ∃ b k', e.2 = Value.ref b ∧ IsN knd s.heap k' b := fun e he => let ⟨b, k', q1, q2, _⟩ := hes e he; ⟨b, k', q1, q2⟩
 have hps : t.place.size = es.size := by
  unfold fits at hf
  rw [Bool.and_eq_true] at hf
  exact eq_of_beq hf.1
 intro k
 induction k using Nat.strongRecOn with
 | ind k ih =>
   intro F c0 stand hF hk hst hoc hdn hh
   obtain ⟨F', rfl⟩ : ∃ F', F = F' + 1 := ⟨F - 1, by lia⟩
   unfold setSearchFrom
   refine wpAny_bind (wpAny_setState_of ho hd hf ?_)
   dsimp only
   have hgw : t.gaveWay = false := by
    unfold gaveWay
    rcases hm with z | z <;> rw [z] <;> rfl
   rw [hgw]
   simp only [Bool.false_eq_true, if_false]
   have more : ∀ {c : Nat}, (∀ l, l < c → Occ t (advs t l (stand.getD (t.probeStart h))).j) → ∀ l, l < c0 + c → Occ t (advs t l (t.probeStart h)).j := fun {c} hc l hl => by
    rcases UO l c0 with z | z
    ·exact hoc l z
    ·obtain ⟨d, rfl⟩ : ∃ d, l = c0 + d := ⟨l - c0, by lia⟩
     have := hc d (by lia)
     rw [hst, ← advs_add] at this
     exact this
   split
   ·next met heq =>
    rcases go_way hdm (10 * turns t.mask) k _ hk hdn hh with ⟨c, j, e, r0, r1, r2⟩ | ⟨c, j, i, k', e, r1, r2, r3, r4, r5, r6⟩
    ·have e2 := So.inj (e.symm.trans heq)
     subst e2
     refine wpAny_pure (hQ j r1 ⟨c0 + c, ?_, more r2⟩)
     rw [advs_add, ← hst]; exact r0
    ·have e2 := So.inj (e.symm.trans heq)
     subst e2
     dsimp only
     have hil : i < es.size := by
      have := (UJ.mp r2).1
      lia
     obtain ⟨h0, y, hei⟩ : ∃ h0 y, es[i]? = some (h0, y) := ⟨es[i].1, es[i].2, UD hil⟩
     obtain ⟨b, kb, eb, hb, hne⟩ := hes (h0, y) (TL (by rw [Ux]; exact hei))
     have eb : y = .ref b := eb
     subst eb
     refine look_one ho hd hf hx hb hes' hu r1 hei (fun z => absurd z hne) fun _ => ?_
     refine ih k' r5 F' (c0 + (c + 1)) (some _) (by lia) (by lia) ?_ (more r6) r3 r4
     show advs t (c + 1) (stand.getD (t.probeStart h)) = _
     rw [hst, ← advs_add]
   ·next heq =>
    exfalso
    rcases go_way hdm (10 * turns t.mask) k _ hk hdn hh with ⟨c, j, e, _⟩ | ⟨c, j, i, k', e, _⟩
    ·exact heq _ e
    ·exact heq _ e
theorem search_old (ho : s.heap.get? S = some o) (hd : o.data = .set es ep t) (hf : t.fits es.size = true) (hm : t.mask = 7 ∨ t.mask = 31) (hr : Ris t.place) {x : Addr} {ks : List K} (hx : IsN knd s.heap ks x)
 (hes : ∀ e ∈ es.toList, ∃ b k', e.2 = Value.ref b ∧ IsN knd s.heap k' b) (hu : A.units < cLine) {h : Int} {i0 j0 : Nat} {b0 : Addr} (h0 : t.place[i0]? = some j0) (he0 : es[i0]? = some (h, Value.ref b0)) (hb0 : IsN knd s.heap ks b0) {Q : SetFound → Shared → Prop} (hQ : Q (.there none) s) :
 ∀ (r F : Nat) (stand : Option Probe), r < F → r < 10 * turns t.mask → (stand.getD (t.probeStart h)).dummy = none → (advs t r (stand.getD (t.probeStart h))).j = j0 → (∀ l, l < r → Occ t (advs t l (stand.getD (t.probeStart h))).j) → wpAny (model prog w) A (setSearchFrom S (.ref x) h true F stand) Q E s := by
 have hps : t.place.size = es.size := by
  unfold fits at hf
  rw [Bool.and_eq_true] at hf
  exact eq_of_beq hf.1
 intro r
 induction r using Nat.strongRecOn with
 | ind r ih =>
   intro F stand hF hk hdn hj hoc
   obtain ⟨F', rfl⟩ : ∃ F', F = F' + 1 := ⟨F - 1, by lia⟩
   unfold setSearchFrom
   refine wpAny_bind (wpAny_setState_of ho hd hf ?_)
   dsimp only
   have hgw : t.gaveWay = false := by
    unfold gaveWay
    rcases hm with z | z <;> rw [z] <;> rfl
   rw [hgw]
   simp only [Bool.false_eq_true, if_false]
   have hh : ∀ {ha : Nat → Int}, (∀ i, ha i = (es[i]?.map (·.1)).getD 0) → (ha i0 == h) = true := fun {ha} e => by
    rw [e, he0]
    simp
   split
   ·next met heq =>
    obtain ⟨j, i, next, e, r1, r2, r3⟩ := go_there hr h0 (hh fun _ => rfl) (10 * turns t.mask) r _ hk hdn hj hoc
    have e2 := So.inj (e.symm.trans heq)
    subst e2
    dsimp only
    have hil : i < es.size := by
     have := (UJ.mp r2).1
     lia
    obtain ⟨h1, y, hei⟩ : ∃ h1 y, es[i]? = some (h1, y) := ⟨es[i].1, es[i].2, UD hil⟩
    obtain ⟨b, kb, eb, hb⟩ := hes (h1, y) (TL (by rw [Ux]; exact hei))
    have eb : y = .ref b := eb
    subst eb
    refine look_one ho hd hf hx hb hes hu r1 hei (fun _ => hQ) fun hne => ?_
    rcases r3 with z | ⟨r', q1, q2, q3, q4⟩
    ·subst z
     rw [he0] at hei
     cases hei
     exact absurd (hb.key.inj hb0.key) hne
    ·exact ih r' q1 F' (some next) (by lia) (by lia) q2 q3 q4
   ·next heq =>
    exfalso
    obtain ⟨j, i, next, e, _⟩ := go_there hr h0 (hh fun _ => rfl) (10 * turns t.mask) r _ hk hdn hj hoc
    exact heq _ e
end
end St
end L2
namespace L2
open PySem PySem.Spec PyProof.Rows
namespace St
open SetTable
theorem fm_at {α β : Type} {f : α → Option β} : ∀ {l : List α} {i : Nat}, (∀ x ∈ l, ∃ y, f x = some y) → (l.filterMap f)[i]? = l[i]?.bind f
 | [], i, _ => by simp
 | a :: l, i, h => by
   obtain ⟨y, hy⟩ := h a SJ
   rw [UE hy]
   cases i with
   | zero => rw [List.getElem?_cons_zero, List.getElem?_cons_zero]; exact hy.symm
   | succ i => rw [US, US]; exact fm_at fun x hx => h x (SK _ hx)
section
variable {prog : Program} {w : World} {K : Type} [DecidableEq K] (knd : KeyKind prog w K) (G : Addr → Prop)
structure Bdy (h : Heap) (keys : List (List K)) (es : Array (Int × Value)) (t : SetTable) : Prop where
 dm : t.dummies = #[]
 ps : t.place.size = es.size
 len : es.size = keys.length
 ris : Ris t.place
 ent : ∀ (i : Nat) (e : Int × Value), es[i]? = some e → ∃ (b : Addr) (k : List K) (j : Nat), e = (tupleKeyHash knd k, Value.ref b) ∧ IsN knd h k b ∧ k ∈ keys ∧ G b ∧ t.place[i]? = some j ∧ Way t (Occ t) (t.probeStart e.1) j
 key : ∀ k ∈ keys, ∃ (i : Nat) (b : Addr), es[i]? = some (tupleKeyHash knd k, Value.ref b) ∧ IsN knd h k b
def SetM (h : Heap) (S : Addr) (keys : List (List K)) : Prop := ∃ o es ep t, h.get? S = some o ∧ o.ExactSet ∧ o.data = .set es ep t ∧ (t.mask = 7 ∧ es.size ≤ 4 ∨ t.mask = 31) ∧ Bdy knd G h keys es t
variable {knd} {G}
theorem Bdy.keep {h h' : Heap} {keys : List (List K)} {es : Array (Int × Value)} {t : SetTable} (x : Bdy knd G h keys es t) (k : ∀ b o ks, IsN knd h ks b → h.get? b = some o → h'.get? b = some o) : Bdy knd G h' keys es t :=
 ⟨x.dm, x.ps, x.len, x.ris, fun i e he => let ⟨b, ks, j, q1, q2, q3⟩ := x.ent i e he; ⟨b, ks, j, q1, q2.keep fun o eo => k b o ks q2 eo, q3⟩, fun ks hk => let ⟨i, b, q1, q2⟩ := x.key ks hk; ⟨i, b, q1, q2.keep fun o eo => k b o ks q2 eo⟩⟩
theorem Bdy.nums {h : Heap} {keys : List (List K)} {es : Array (Int × Value)} {t : SetTable} (x : Bdy knd G h keys es t) : ∀ e ∈ es.toList, ∃ b k', e.2 = Value.ref b ∧ IsN knd h k' b ∧ k' ∈ keys := fun e he => by
 obtain ⟨i, hi⟩ := UB he
 rw [Ux] at hi
 obtain ⟨b, k, j, rfl, q2, q3, _⟩ := x.ent i e hi
 exact ⟨b, k, rfl, q2, q3⟩
variable {A : Around} {E : Value → Shared → Prop} {s : Shared}
theorem Bdy.again {h : Heap} {keys : List (List K)} {es es2 : Array (Int × Value)} {t t2 : SetTable} {order : Array Nat} (x : Bdy knd G h keys es t) (eo : order.toList.Perm (Sx es.size)) (e2 : es2 = order.filterMap (es[·]?)) (d2 : t2.dummies = #[]) (p2 : t2.place.size = es.size) (r2 : Ris t2.place)
 (w2 : ∀ i k : Nat, order[i]? = some k → ∃ (j : Nat) (g : Int), t2.place[i]? = some j ∧ (es.map (·.1))[k]? = some g ∧ Way t2 (Occ t2) (t2.probeStart g) j) : es2.toList.Perm es.toList ∧ Bdy knd G h keys es2 t2 := by
 have hall : ∀ k ∈ order.toList, ∃ y, es[k]? = some y := fun k hk => ⟨_, UD (SD.mp (eo.mem_iff.mp hk))⟩
 have at2 : ∀ i : Nat, es2[i]? = order[i]?.bind (es[·]?) := fun i => by
  rw [← Ux, e2, Array.toList_filterMap, fm_at hall, Ux]
 have hperm : es2.toList.Perm es.toList := by
  rw [e2, Array.toList_filterMap]
  have := eo.filterMap (fun i => es[i]?)
  rw [filterMap_getElem?_range] at this
  exact this
 have hsz : es2.size = es.size := by
  have := hperm.length_eq
  rw [SU, SU] at this
  exact this
 refine ⟨hperm, d2, by rw [p2, hsz], by rw [hsz]; exact x.len, r2, fun i e he => ?_, fun k hk => ?_⟩
 ·rw [at2] at he
  cases ho : order[i]? with
  | none => rw [ho] at he; cases he
  | some k =>
    rw [ho] at he
    have he : es[k]? = some e := he
    obtain ⟨b, ks, _, q1, q2, q3, q4, _⟩ := x.ent k e he
    obtain ⟨j, g, w1, w2', w3⟩ := w2 i k ho
    rw [Array.getElem?_map, he] at w2'
    have eg : e.1 = g := So.inj w2'
    exact ⟨b, ks, j, q1, q2, q3, q4, w1, by rw [eg]; exact w3⟩
 ·obtain ⟨i, b, q1, q2⟩ := x.key k hk
  have hm : (tupleKeyHash knd k, Value.ref b) ∈ es2.toList := hperm.mem_iff.mpr (TL (by rw [Ux]; exact q1))
  obtain ⟨i2, hi2⟩ := UB hm
  rw [Ux] at hi2
  exact ⟨i2, b, hi2, q2⟩
theorem Bdy.more {h : Heap} {keys : List (List K)} {es : Array (Int × Value)} {t t1 : SetTable} {x : Addr} {ks : List K} {j p : Nat} (B : Bdy knd G h keys es t) (hx : IsN knd h ks x) (hG : G x) (he : t.slot j = .empty) (hw : Way t (Occ t) (t.probeStart (tupleKeyHash knd ks)) j) (e1 : t1 = (t.put j).1) (ep : p = (t.put j).2) :
 t1.mask = t.mask ∧ Bdy knd G h (ks :: keys) (insertAt es p (tupleKeyHash knd ks, Value.ref x)) t1 := by
 have hput : t1 = { t with place := insertAt t.place (below t.place j) j } := by
  rw [e1]
  unfold put
  have hz : has t.dummies j = false := by rw [B.dm]; unfold has; rfl
  simp only [hz, Bool.false_eq_true, if_false]
 have ep : p = below t.place j := by rw [ep]; rfl
 have hn : ∀ i : Nat, t.place[i]? ≠ some j := fun i z => by rw [slot_live B.ris z] at he; cases he
 have hple : p ≤ t.place.size := by rw [ep]; exact (below_ok B.ris j).1
 have hple' : p ≤ es.size := by rw [← B.ps]; exact hple
 have hmk : t1.mask = t.mask := by rw [hput]
 have pl : ∀ i : Nat, t1.place[i]? = if i < p then t.place[i]? else if i = p then some j else t.place[i - 1]? := fun i => by
  rw [hput]
  show (insertAt t.place (below t.place j) j)[i]? = _
  rw [← ep, insert_at hple]
 have up : ∀ s, Occ t s → Occ t1 s := fun s ⟨q, hq⟩ => by
  rcases UO q p with z | z
  ·exact ⟨q, by rw [pl, if_pos z]; exact hq⟩
  ·exact ⟨q + 1, by rw [pl, if_neg (by lia), if_neg (by lia)]; exact hq⟩
 have mv : ∀ {g : Int} {r : Nat}, Way t (Occ t) (t.probeStart g) r → Way t1 (Occ t1) (t1.probeStart g) r := fun {g r} z => by
  have := (z.mono up).mask (u := t1) hmk.symm
  rw [start_mask hmk.symm g] at this
  exact this
 refine ⟨hmk, ?_, ?_, ?_, ?_, fun i e he => ?_, fun k hk => ?_⟩
 ·rw [hput]; exact B.dm
 ·rw [hput]
  show (insertAt _ _ _).size = _
  rw [insert_size, insert_size, B.ps]
 ·rw [insert_size, B.len]; rfl
 ·rw [hput]
  exact B.ris.put hn
 ·rw [insert_at hple'] at he
  rcases UR i p with z | z | z
  ·rw [if_pos z] at he
   obtain ⟨b, k, r, q1, q2, q3, q4, q5, q6⟩ := B.ent i e he
   exact ⟨b, k, r, q1, q2, SK _ q3, q4, by rw [pl, if_pos z]; exact q5, mv q6⟩
  ·rw [if_neg (by lia), if_pos z] at he
   cases he
   exact ⟨x, ks, j, rfl, hx, SJ, hG, by rw [pl, if_neg (by lia), if_pos z], mv hw⟩
  ·rw [if_neg (by lia), if_neg (by lia)] at he
   obtain ⟨b, k, r, q1, q2, q3, q4, q5, q6⟩ := B.ent (i - 1) e he
   exact ⟨b, k, r, q1, q2, SK _ q3, q4, by rw [pl, if_neg (by lia), if_neg (by lia)]; exact q5, mv q6⟩
 ·rcases SM.mp hk with z | z
  ·subst z
   exact ⟨p, x, by rw [insert_at hple', if_neg (Sv _), if_pos rfl], hx⟩
  ·obtain ⟨i, b, q1, q2⟩ := B.key k z
   rcases UO i p with y | y
   ·exact ⟨i, b, by rw [insert_at hple', if_pos y]; exact q1, q2⟩
   ·exact ⟨i + 1, b, by rw [insert_at hple', if_neg (by lia), if_neg (by lia)]; exact q1, q2⟩
theorem add_tail2 {S : Addr} {o : Obj} {es : Array (Int × Value)} {ep : Nat} {t : SetTable} (ho : s.heap.get? S = some o) (hcl : o.ExactSet) (hd : o.data = .set es ep t) {es1 : Array (Int × Value)} {t1 : SetTable} {keys : List (List K)}
 (hmk : t1.mask = 7 ∧ es1.size ≤ 5 ∨ t1.mask = 31) (B : Bdy knd G s.heap keys es1 t1) (h17 : es1.size ≤ 17) {m : Nat} (hm : m = es1.size) {Q : Bool → Shared → Prop}
 (h : ∀ h', Heap.SameBut S s.heap h' → SetM knd G h' S keys → Q true { s with heap := h' }) :
 wpAny (model prog w) A (do storeSet S es1 t1; if (!false && t1.tooFull) = true then do { setRelay S (grown m); pure true } else pure true) Q E s := by
 refine wpAny_bind (wpAny_storeSet_of ho hd ?_ (SG h17 (by decide)))
 have hg1 : (s.heap.update S (Obj.putSet es1 t1)).get? S = some { o with data := .set es1 (ep + 1) t1 } := by
  have := Heap.get?_update_self (Obj.putSet es1 t1) ho (by rw [putSet_of _ _ hd]; rfl)
  rw [putSet_of _ _ hd] at this; exact this
 have sb1 : Heap.SameBut S s.heap (s.heap.update S (Obj.putSet es1 t1)) := Heap.SameBut.update ..
 generalize s.heap.update S (Obj.putSet es1 t1) = h1 at hg1 sb1 ⊢
 have other : ∀ {g g' : Heap} {o' : Obj} {es' ep' t'}, g.get? S = some o' → o'.data = .set es' ep' t' → Heap.SameBut S g g' → ∀ b oo ks, IsN knd g ks b → g.get? b = some oo → g'.get? b = some oo := fun {g g' o' es' ep' t'} e1 e2 sb b oo ks hN e => by
  have hne : b ≠ S := by
   rintro rfl
   obtain ⟨o2, items, n, q1, q2, q3, _⟩ := hN
   rw [e1] at q1
   cases q1
   rw [e2] at q3
   cases q3
  exact (sb.2 b hne).trans e
 have B1 : Bdy knd G h1 keys es1 t1 := B.keep (other ho hd sb1)
 have hfl : SetTable.fill t1 = es1.size := by unfold SetTable.fill; rw [B.dm, B.ps]; rfl
 by_cases hfull : t1.tooFull = true
 ·have hf5 : es1.size * 5 ≥ t1.mask * 3 := by
   unfold tooFull at hfull
   rw [hfl] at hfull
   exact of_decide_eq_true hfull
  have hm7 : t1.mask = 7 ∧ es1.size = 5 := by
   rcases hmk with z | z
   ·rw [z.1] at hf5; exact ⟨z.1, by lia⟩
   ·rw [z] at hf5; lia
  simp only [hfull, Bool.not_false, Bool.and_self, if_true]
  refine wpAny_bind ?_
  unfold setRelay
  have hfit1 : t1.fits es1.size = true := by
   unfold fits
   rw [hfl, B.ps, hm7.1, hm7.2]; rfl
  refine wpAny_bind (wpAny_setState_of (s := { s with heap := h1 }) (o := { o with data := .set es1 (ep + 1) t1 }) hg1 rfl hfit1 ?_)
  dsimp only
  have hgr : grown m = 20 := by rw [hm, hm7.2]; rfl
  have hsa : sizeAbove 20 = 32 := by decide
  rw [hgr, hsa, if_neg (by decide)]
  have hrl : t1.relaid (es1.map (·.1)) 20 = laid 31 t1.finger (t1.movedTo 31) t1.led t1.plain (es1.map (·.1)) := by
   unfold relaid
   rw [hsa]
  obtain ⟨t2, order, el, et1, et2, et3, eo, er, ew⟩ := laid_way (es1.map (·.1)) (by rw [Array.size_map]; lia) t1.finger (t1.movedTo 31) t1.led t1.plain
  rw [Array.size_map] at et3 eo
  obtain ⟨hperm, B2⟩ := B1.again eo rfl et2 et3 er ew
  have hsz2 : (order.filterMap (es1[·]?)).size = es1.size := by
   have := hperm.length_eq
   rw [SU, SU] at this
   exact this
  rw [hrl, el]
  refine wpAny_bind ?_
  show wpAny _ _ (if ((order.filterMap (es1[·]?)).size != es1.size) = true then _ else pure (order.filterMap (es1[·]?), t2)) _ _ _
  rw [if_neg (by rw [hsz2]; simp)]
  refine wpAny_pure ?_
  generalize order.filterMap (es1[·]?) = es2 at hperm hsz2 B2 ⊢
  refine wpAny_storeSet_of (s := { s with heap := h1 }) (o := { o with data := .set es1 (ep + 1) t1 }) hg1 rfl ?_ (by rw [hsz2]; exact SG h17 (by decide))
  have hg2 : (h1.update S (Obj.putSet es2 t2)).get? S = some { o with data := .set es2 (ep + 1 + 1) t2 } := by
   have := Heap.get?_update_self (Obj.putSet es2 t2) hg1 (by rw [putSet_of (es := es1) (ep := ep + 1) (t := t1) _ _ rfl]; rfl)
   rw [putSet_of (es := es1) (ep := ep + 1) (t := t1) _ _ rfl] at this; exact this
  have sb2 : Heap.SameBut S h1 (h1.update S (Obj.putSet es2 t2)) := Heap.SameBut.update ..
  exact wpAny_pure (h (h1.update S (Obj.putSet es2 t2)) ⟨sb2.1.trans sb1.1, fun b hb => (sb2.2 b hb).trans (sb1.2 b hb)⟩ ⟨_, _, _, _, hg2, hcl, rfl, .inr et1, B2.keep (other (es' := es1) (ep' := ep + 1) (t' := t1) hg1 rfl sb2)⟩)
 ·have hfull' : t1.tooFull = false := by simpa using hfull
  simp only [hfull', Bool.and_false, Bool.false_eq_true, if_false]
  refine wpAny_pure (h h1 sb1 ⟨_, _, _, _, hg1, hcl, rfl, ?_, B1⟩)
  rcases hmk with z | z
  ·refine .inl ⟨z.1, ?_⟩
   unfold tooFull at hfull'
   rw [hfl, z.1] at hfull'
   have hf' := of_decide_eq_false hfull'
   lia
  ·exact .inr z
def kAdd (ks : List K) (keys : List (List K)) : List (List K) := if ks ∈ keys then keys else ks :: keys
theorem add_m {S x : Addr} {ks : List K} {keys : List (List K)} {Q : Bool → Shared → Prop} (hS : SetM knd G s.heap S keys) (hx : IsN knd s.heap ks x) (hGx : G x) (hl : keys.length ≤ 16) (hu : A.units < cLine)
 (h : ∀ b h', Heap.SameBut S s.heap h' → SetM knd G h' S (kAdd ks keys) → Q b { s with heap := h' }) : wpAny (model prog w) A (setAddHashed S (.ref x) (tupleKeyHash knd ks)) Q E s := by
 obtain ⟨o, es, ep, t, ho, hcl, hd, hmk, B⟩ := id hS
 have hn := B.len
 have hm : t.mask = 7 ∨ t.mask = 31 := hmk.elim (fun z => .inl z.1) .inr
 have hsz : es.size ≤ t.mask := by rcases hmk with z | z <;> lia
 have hfl : SetTable.fill t = es.size := by unfold SetTable.fill; rw [B.dm, B.ps]; rfl
 have hfit : t.fits es.size = true := by
  unfold fits
  rw [hfl, B.ps]
  simp
  exact hsz
 unfold setAddHashed setAddHashedIn
 refine wpAny_holding (wpAny_bind (wpAny_setState_of ho hd hfit ?_))
 dsimp only
 have hbs : byScan (.ref x) es = false := rfl
 rw [hbs]
 simp only [Bool.false_eq_true, if_false]
 obtain ⟨k, hk1, hk2⟩ := start_hit hm B.dm (by rw [B.ps]; exact hsz) (tupleKeyHash knd ks)
 have hkF : k < 100000 := by
  unfold turns at hk1
  rcases hm with z | z <;> rw [z] at hk1 <;> lia
 by_cases hin : ks ∈ keys
 ·obtain ⟨i0, b0, he0, hb0⟩ := B.key ks hin
  obtain ⟨b, k', j0, q1, q2, q3, q4, q5, q6⟩ := B.ent i0 _ he0
  obtain ⟨m, m1, m2⟩ := q6
  have hmk' : m < k := by
   refine Nat.lt_of_not_le fun hle => ?_
   unfold Hit at hk2
   rcases UO k m with z | z
   ·obtain ⟨q, hq⟩ := m2 k z
    rw [slot_live B.ris hq] at hk2
    cases hk2
   ·have e : k = m := by lia
    rw [e, m1, slot_live B.ris q5] at hk2
    cases hk2
  refine wpAny_bind (m := setSearch S (.ref x) (tupleKeyHash knd ks) true) (search_old ho hd hfit hm B.ris hx (fun e he => let ⟨b, k', q1, q2, _⟩ := B.nums e he; ⟨b, k', q1, q2⟩) hu q5 he0 hb0 ?_ m 100000 none (by lia) (by lia) rfl m1 m2)
  dsimp only
  refine wpAny_pure (h false s.heap (Heap.SameBut.refl ..) ?_)
  unfold kAdd
  rw [if_pos hin]
  exact hS
 ·have hes : ∀ e ∈ es.toList, ∃ b k', e.2 = Value.ref b ∧ IsN knd s.heap k' b ∧ k' ≠ ks := fun e he => by
   obtain ⟨b, k, q1, q2, q3⟩ := B.nums e he
   exact ⟨b, k, q1, q2, fun z => hin (z ▸ q3)⟩
  refine wpAny_bind (m := setSearch S (.ref x) (tupleKeyHash knd ks) true) (search_new ho hd hfit hm B.dm hx hes hu (fun j hj hw => ?_) k 100000 0 none hkF hk1 rfl (fun l hl => absurd hl (UQ _)) rfl hk2)
  dsimp only
  refine wpAny_bind (wpAny_setState_of ho hd hfit ?_)
  dsimp only
  obtain ⟨hmk1, B1⟩ := B.more hx hGx hj hw rfl rfl
  generalize (t.put j).1 = t1 at hmk1 B1 ⊢
  generalize (t.put j).2 = p at B1 ⊢
  have hsz1 : (insertAt es p (tupleKeyHash knd ks, Value.ref x)).size = es.size + 1 := insert_size _ _ _
  have tail := add_tail2 (knd := knd) (G := G) (A := A) (E := E) (Q := Q) ho hcl hd (es1 := insertAt es p (tupleKeyHash knd ks, Value.ref x)) (t1 := t1) (keys := ks :: keys) (by rw [hmk1, hsz1]; rcases hmk with z | z; exact .inl ⟨z.1, by lia⟩; exact .inr z) B1 (by rw [hsz1]; lia) (m := es.size + 1) (by rw [hsz1]) (fun h' sb hM => h true h' sb (by unfold kAdd; rw [if_neg hin]; exact hM))
  split
  ·refine wpAny_bind (hashByValue_n hx ?_)
   simp only [if_true]
   exact tail
  ·refine wpAny_bind (wpAny_pure ?_)
   simp only [if_true]
   exact tail
end
end St
end L2
namespace L2
open PySem PySem.Spec PyProof.Rows
namespace St
section
variable {prog : Program} {w : World} {K : Type} [DecidableEq K] {knd : KeyKind prog w K} {G : Addr → Prop} {A : Around} {R : Result → Shared → Prop} {I : Addr} {fp wr : List Addr} {GG : Array GenState → Array GenState → Prop} {n : Nat} {P : Nat → Value → Prop} {St : Nat → Shared → Prop}
theorem SetM.stay {h h' : Heap} {S : Addr} {keys : List (List K)} (x : SetM knd G h S keys) (k : ∀ b o, b = S ∨ G b → h.get? b = some o → h'.get? b = some o) : SetM knd G h' S keys := by
 obtain ⟨o, es, ep, t, h1, h2, h3, h4, B⟩ := x
 refine ⟨o, es, ep, t, k _ _ (.inl rfl) h1, h2, h3, h4, B.dm, B.ps, B.len, B.ris, fun i e he => ?_, fun ks hk => ?_⟩
 ·obtain ⟨b, ks, j, q1, q2, q3, q4, q5⟩ := B.ent i e he
  exact ⟨b, ks, j, q1, q2.keep fun o eo => k b o (.inr q4) eo, q3, q4, q5⟩
 ·obtain ⟨i, b, q1, q2⟩ := B.key ks hk
  obtain ⟨b', _, _, e, _, _, q4, _⟩ := B.ent i _ q1
  have eb : b = b' := Value.ref.inj (congrArg Prod.snd e)
  exact ⟨i, b, q1, q2.keep fun o eo => k b o (.inr (eb ▸ q4)) eo⟩
def kD (key : Nat → List K) : Nat → List (List K)
 | 0 => []
 | i + 1 => kAdd (key i) (kD key i)
theorem kD_length (key : Nat → List K) : ∀ i, (kD key i).length ≤ i
 | 0 => SW _
 | i + 1 => by
   have := kD_length key i
   show (kAdd _ _).length ≤ _
   unfold kAdd
   split
   ·lia
   ·rw [Ta]; lia
theorem kD_mem {key : Nat → List K} {k : List K} : ∀ {i}, k ∈ kD key i ↔ ∃ j, j < i ∧ key j = k
 | 0 => ⟨(fun h => nomatch h), (fun ⟨_, h, _⟩ => absurd h (UQ _))⟩
 | i + 1 => by
   show k ∈ kAdd (key i) (kD key i) ↔ _
   unfold kAdd
   split
   ·next h =>
    rw [kD_mem (i := i)]
    refine ⟨fun ⟨j, h1, h2⟩ => ⟨j, by lia, h2⟩, fun ⟨j, h1, h2⟩ => ?_⟩
    rcases UO j i with z | z
    ·exact ⟨j, z, h2⟩
    ·obtain rfl : j = i := by lia
     rw [← h2]
     exact kD_mem.mp h
   ·rw [SM, kD_mem (i := i)]
    refine ⟨fun h => ?_, fun ⟨j, h1, h2⟩ => ?_⟩
    ·rcases h with z | ⟨j, h1, h2⟩
     ·exact ⟨i, Ti _, z.symm⟩
     ·exact ⟨j, by lia, h2⟩
    ·rcases UO j i with z | z
     ·exact .inr ⟨j, z, h2⟩
     ·obtain rfl : j = i := by lia
      exact .inl h2.symm
theorem kD_all {key : Nat → List K} : ∀ {n}, (kD key n).length = n ↔ ∀ i j, i < n → j < n → key i = key j → i = j
 | 0 => ⟨fun _ i _ h => absurd h (UQ _), fun _ => rfl⟩
 | n + 1 => by
   have hl := kD_length key n
   have ih := kD_all (key := key) (n := n)
   show (kAdd (key n) (kD key n)).length = n + 1 ↔ _
   unfold kAdd
   split
   ·next h =>
    refine ⟨fun z => by lia, fun z => ?_⟩
    obtain ⟨j, h1, h2⟩ := kD_mem.mp h
    have := z j n (by lia) (Ti _) h2
    lia
   ·next h =>
    rw [Ta]
    refine ⟨fun z i j hi hj e => ?_, fun z => ?_⟩
    ·have z' := ih.mp (by lia)
     rcases UO i n with a | a
     ·rcases UO j n with b | b
      ·exact z' i j a b e
      ·obtain rfl : j = n := by lia
       exact absurd (kD_mem.mpr ⟨i, a, e⟩) h
     ·obtain rfl : i = n := by lia
      rcases UO j i with b | b
      ·exact absurd (kD_mem.mpr ⟨j, b, e.symm⟩) h
      ·lia
    ·have := ih.mpr fun i j hi hj e => z i j (by lia) (by lia) e
     lia
theorem loop_m (W : WalksS prog w A.in1 I fp wr GG n P St) (S : Addr) (hSf : S ∉ fp) (key : Nat → List K) (adr : Nat → Addr) (hval : ∀ i v, P i v → v = Value.ref (adr i)) (hG : ∀ i, i < n → G (adr i)) (hGw : ∀ b, G b → b ∉ wr ∧ b ≠ S)
 (hn : n ≤ 17) (hu : A.units + 1 < cLine) (left i : Nat) (s : Shared) (hk : i + left = n) (hst : St i s) (hN : ∀ j, j < n → IsN knd s.heap (key j) (adr j)) (hS : SetM knd G s.heap S (kD key i))
 (hR : ∀ s', Moved (S :: wr) GG s s' → SetM knd G s'.heap S (kD key n) → R (.ok (.ret .none)) s') : codeAny (model prog w) A (.builtin "set.update.loop" ⟨[.ref S, .ref I], []⟩) R s := by
 have grow : ∀ {a b : Shared}, Moved wr GG a b → Moved (S :: wr) GG a b := fun m => m.mono fun _ => SK _
 have stay : ∀ {a b : Shared}, Moved wr GG a b → ∀ c o, c = S ∨ G c → a.heap.get? c = some o → b.heap.get? c = some o := fun m c o hc => m.heap c o (hc.elim (fun z => z ▸ mt (W.sub _) hSf) fun z => (hGw c z).1)
 induction left generalizing i s with
 | zero =>
   obtain rfl : i = n := by lia
   refine turn_of (show wpAny (model prog w) A.in1 (pyNext (Value.ref I) >>= _) _ _ s from wpAny_bind (W.done s _ _ hst fun s' m => ?_))
   exact wpAny_pure (hR s' (grow m) (hS.stay (stay m)))
 | succ left ih =>
   have hlt : i < n := by lia
   refine turn_of (show wpAny (model prog w) A.in1 (pyNext (Value.ref I) >>= _) _ _ s from wpAny_bind (W.item i s _ _ hlt hst fun v s' hP hst' m => ?_))
   obtain rfl := hval i v hP
   have hN' : ∀ j, j < n → IsN knd s'.heap (key j) (adr j) := fun j hj => (hN j hj).keep fun o e => stay m _ o (.inr (hG j hj)) e
   have hS' : SetM knd G s'.heap S (kD key i) := hS.stay (stay m)
   refine wpAny_bind (m := holding [Value.ref (adr i)] (setAdd S (Value.ref (adr i)))) (wpAny_holding ?_)
   unfold setAdd
   refine wpAny_holding (wpAny_bind (wpAny_pyHash_tuple hu (hN' i hlt).key ?_))
   refine add_m (knd := knd) (G := G) (s := { s' with toks := s'.toks + ((key i).length + 1) }) hS' (hN' i hlt) (hG i hlt) (by have := kD_length key i; lia) hu fun bb h' sb hS2 => ?_
   have other : ∀ c o, c ≠ S → s'.heap.get? c = some o → h'.get? c = some o := fun c o hc e => (sb.2 c hc).trans e
   refine wpAny_pure ⟨plainId_quiet F.plain_set_update_loop _, ih (i + 1) _ (by lia) (W.frame _ s' _ _ hst' (UT _ _) fun b hb o e => other b o (fun z => hSf (z ▸ hb)) e) (fun j hj => (hN' j hj).keep fun o e => other _ o (hGw _ (hG j hj)).2 e) hS2 fun s'' m2 hS3 => ?_⟩
   exact hR s'' (((grow m).then_heap (UT _ _) fun b o hb e => other b o (fun z => hb (z ▸ SJ)) e).trans W.gtrans m2) hS3
end
section
variable {prog : Program} {w : World} {K : Type} [DecidableEq K] {knd : KeyKind prog w K} {A : Around} {E : Value → Shared → Prop} {s : Shared}
theorem init_m {l : Addr} {items : Array Value} (led : Bool) (key : Nat → List K) (adr : Nat → Addr) (hh : A.handled = none) (hl : s.heap.IsList l items) (hv : ∀ (i : Nat) (v : Value), items[i]? = some v → v = Value.ref (adr i)) (hN : ∀ j, j < items.size → IsN knd s.heap (key j) (adr j))
 (hb : items.size ≤ 17) (hu : A.units + 20 < cLine) {Q : Fin → Shared → Prop} {E' : Value → Shared → Prop}
 (h : ∀ (h' : Heap) (tk : Nat), SetM knd (fun b => b < s.heap.objs.size) h' s.heap.objs.size (kD key items.size) → (∀ b o, s.heap.get? b = some o → h'.get? b = some o) → Q (.done (.ret .none)) { s with heap := h', toks := tk }) :
 wpAny (model prog w) A (Builtin.«set.__init__» ⟨[.ref s.heap.objs.size, .ref l], []⟩) Q E' { s with heap := s.heap.push (nS led) } := by
 have lS : l < s.heap.objs.size := by obtain ⟨_, e, _⟩ := hl; exact Heap.lt_size e
 obtain ⟨⟨_, od, _, osl⟩, el, hc, nl, hd⟩ := id hl
 simp only at hc hd; subst hc hd
 have el1 : (s.heap.push (nS led)).get? l = some { cls := .type "list", dict := od, data := .seq items nl, slots := osl } := Heap.get?_push_of_some _ el
 have eS : (s.heap.push (nS led)).get? s.heap.objs.size = some (nS led) := Heap.get?_push_size _ rfl
 have hl1 : (s.heap.push (nS led)).IsList l items := ⟨_, el1, rfl, nl, rfl⟩
 have t1 := F.sub_list_set; have t2 := F.sub_list_frozenset; have t3 : (Value.type "list" == Value.type "dict") = false := by decide
 unfold Builtin.«set.__init__» noKeywords Builtin.Frozenset.updateFrom
 generalize hPI : pyIter = PI; wp_walk; subst hPI
 have zS : (s.heap.push (nS led)).objs.size = s.heap.objs.size + 1 := Heap.size_push ..
 refine wpAny_pyIter_list hl1 (wpAny_bind (wpAny_runValue ?_))
 have up : ∀ b o, s.heap.get? b = some o → ((s.heap.push (nS led)).push (nI l)).get? b = some o := fun b o e => Heap.get?_push_of_some _ (Heap.get?_push_of_some _ e)
 have lI : l ≠ (s.heap.push (nS led)).objs.size := by rw [zS]; exact Sw (Ug lS)
 have empty : Bdy knd (fun b => b < s.heap.objs.size) ((s.heap.push (nS led)).push (nI l)) (kD key 0) #[] (.fresh 0 0 led) := ⟨rfl, rfl, rfl, List.Pairwise.nil, fun i e he => by simp at he, fun k hk => nomatch hk⟩
 refine loop_m (knd := knd) (G := fun b => b < s.heap.objs.size) ((Walks.list (A := A.in1) hh _ l lI items).toS) s.heap.objs.size ?_ key adr (fun i v hP => hv i v hP) (fun i hi => ?_) (fun b hb => ⟨?_, Sw hb⟩) hb (by lia) items.size 0 _ (Uw _)
  ⟨⟨_, Heap.get?_push_size _ rfl, rfl, rfl⟩, hl1.push _⟩ (fun j hj => (hN j hj).keep fun o e => up _ _ e) ⟨_, _, _, _, Heap.get?_push_of_some _ eS, ⟨rfl, rfl, rfl⟩, rfl, .inl ⟨rfl, T1 _⟩, empty⟩ ?_
 ·rw [zS]; intro hm
  rcases SM.mp hm with z | z
  ·exact absurd z (Sw (Ti _))
  ·exact absurd (Uh.mp z) (SV lS)
 ·obtain ⟨_, _, _, e, _⟩ := hN i hi; exact Heap.lt_size e
 ·rw [zS]; intro hm
  exact absurd (Uh.mp hm) (Sw (Ug hb))
 rintro ⟨h', g', d', tk', os'⟩ m hS'
 obtain rfl : g' = s.gens := m.gens
 obtain rfl : d' = s.drawn := m.drawn
 obtain rfl : os' = s.os := m.os
 refine wpAny_pure (wpAny_pure (h h' tk' hS' fun b o e => ?_))
 have lb := Heap.lt_size e
 refine m.heap b o (fun hm => ?_) (up b o e)
 rw [zS] at hm
 rcases SM.mp hm with z | z
 ·exact absurd z (Sw lb)
 ·exact absurd (Uh.mp z) (Sw (Ug lb))
theorem call_setM {l : Addr} {items : Array Value} {Q : Value → Shared → Prop} (key : Nat → List K) (adr : Nat → Addr) (hh : A.handled = none) (hl : s.heap.IsList l items) (hv : ∀ (i : Nat) (v : Value), items[i]? = some v → v = Value.ref (adr i)) (hN : ∀ j, j < items.size → IsN knd s.heap (key j) (adr j))
 (hb : items.size ≤ 17) (hu : A.units + 40 < cLine)
 (h : ∀ (h' : Heap) (tk : Nat), SetM knd (fun b => b < s.heap.objs.size) h' s.heap.objs.size (kD key items.size) → (∀ b o, s.heap.get? b = some o → h'.get? b = some o) → Q (.ref s.heap.objs.size) { s with heap := h', toks := tk }) :
 wpAny (model prog w) A (call (.type "set") [.ref l]) Q E s := by
 obtain ⟨_, _, hmro⟩ := F.called_set.mro
 have m1 := F.called_set.made; have m2 := F.called_set.sub; have m3 := F.called_set.notType; have m4 := F.called_set.canCreate; have m5 := F.typeCall_set_1 (.ref l)
 refine wpAny_call (codeAny_of_tree (show wpAny _ _ (callAny (.type "set") _) _ _ _ from wpAny_pure ⟨Code.quiet_builtin _ (by decide +kernel), codeAny_builtin F.entry_type_call ?_⟩))
 rw [Around.under_plain (weight_type_call_type "set" [.ref l] []) rfl]
 repeat any_goals first | assumption | wp_step
 refine codeAny_mono (code_set_new_1 (.ref l) (E := E) (Q₁ := fun v s₁ => v = .ref s.heap.objs.size ∧ ∃ led, s₁ = { s with heap := s.heap.push (nS led) }) fun led => ⟨rfl, led, rfl⟩) fun r s₁ hr => ?_
 rcases r with e | fl
 ·exact hr
 cases fl with
 | ret v =>
   obtain ⟨e1, led, e2⟩ := hr
   subst e1 e2
   have hT : Shared.TypeIs { s with heap := s.heap.push (nS led) } (.ref s.heap.objs.size) "set" := ⟨_, Heap.get?_push_size _ rfl, rfl⟩
   have m6 := F.called_set.init.lookup; have m7 := F.called_set.init.bind (.ref s.heap.objs.size)
   repeat any_goals first | assumption | wp_step
   refine codeAny_mono (codeAny_call_builtin (R := wants (fun r s₂ => r = .none ∧ Q (.ref s.heap.objs.size) s₂) E) F.called_set.init.plain F.entry_set_init (check_set_init_1 hT ?_)) fun r₂ s₂ hr₂ => ?_
   ·refine init_m (knd := knd) led key adr ?_ hl hv hN hb ?_ fun h' tk hS hk => ?_
    ·simp [hh]
    ·simp only [Around.in1]; lia
    ·exact ⟨rfl, h h' tk hS hk⟩
   ·rcases r₂ with e | fl₂
    ·exact hr₂
    cases fl₂ with
    | ret _ =>
      obtain ⟨e3, q⟩ := hr₂
      subst e3
      repeat any_goals first | assumption | wp_step
    | _ => exact hr₂.elim
 | _ => exact hr.elim
end
end St
section
variable {X : Cx}
inductive Mq (K : SE) (xs : List V) (H : Hp) (Q : VK) : Prop
 | mk (l : Addr) (ys : List V) (qs : List Rat) (h1 : xs = [.ref l]) (h2 : SqL K H l ys) (h3 : AJ H ys qs) (h4 : qs.length ≤ 17) (h5 : ∀ p n, n ≤ qs.length → (n = qs.length ↔ qs.Nodup) → H p = none → Q (.ref p) (upd H p (N6 p n))) : Mq K xs H Q
theorem LN (hc : X.calm = true) (hu : X.A.units + 64 < cLine) : BO X (.type "set") (Mq X.K) := by
 intro pins s σ H xs us Q I r h
 obtain ⟨l, ys, qs, rfl, hq, hn, h17, q⟩ := h
 obtain ⟨u, rfl, rfl⟩ := CK r
 obtain ⟨its, rv, p, hz⟩ := I.list hq
 have hl := rv.length
 have hyl := hn.length
 have hsz : its.toArray.size = qs.length := by rw [TU]; lia
 let adr : Nat → Addr := fun j => match ys[j]? with | some (.ref r) => r | _ => 0
 have had : ∀ j, j < qs.length → ∃ r, ys[j]? = some (.ref r) ∧ adr j = r ∧ H r = some (nT (qs.getD j 0)) := fun j hj => by
  have g : qs[j]? = some (qs.getD j 0) := by rw [Ud, Uj hj]; rfl
  obtain ⟨y, hy, r, rfl, hr⟩ := Paired.get' hn g
  exact ⟨r, hy, by show (match ys[j]? with | some (.ref r) => r | _ => 0) = r; rw [hy], hr⟩
 refine St.call_setM (knd := BK X.prog X.w) (fun j => kQ (qs.getD j 0)) adr (I.ok.hd hc) p.isList (fun i v hv => ?_) (fun j hj => ?_) (by lia) (by lia) fun h' tk hS hk => ?_
 ·have hv' : its[i]? = some v := by simpa using hv
  have hi : i < its.length := (SQ.mp hv').1
  obtain ⟨r, hy, hr, _⟩ := had i (by lia)
  obtain ⟨u, hu1, ru⟩ := rv.get hy
  rw [hv'] at hu1
  cases hu1
  rw [hr]; exact ru
 ·rw [hsz] at hj
  obtain ⟨r, _, hr, hH⟩ := had j hj
  rw [hr]
  exact OT I.hok hH
 ·have hnd : (St.kD (fun j => kQ (qs.getD j 0)) its.toArray.size).length = qs.length ↔ qs.Nodup := by
   rw [hsz, St.kD_all]
   refine ⟨fun z => ?_, fun z i j hi hj e => ?_⟩
   ·refine UN.mpr fun i j hi hj hlt e => ?_
    have := z i j hi hj (by rw [Ud, Ud, Uj hi, Uj hj, e])
    lia
   ·have e' := OQ e
    have g1 : qs[i]? = some (qs.getD i 0) := by rw [Ud, Uj hi]; rfl
    have g2 : qs[j]? = some (qs.getD j 0) := by rw [Ud, Uj hj]; rfl
    exact (List.getElem?_inj hi z).mp (by rw [g1, g2, e'])
  have hle := St.kD_length (fun j => kQ (qs.getD j 0)) its.toArray.size
  generalize hkk : St.kD (fun j => kQ (qs.getD j 0)) its.toArray.size = kk at hS hnd hle
  obtain ⟨o, es, ep, t, h1, h2, h3, h4, B⟩ := hS
  have h7 := B.len
  have hfit : SetTable.fits t es.size = true := by
   unfold SetTable.fits SetTable.fill
   rw [B.dm, B.ps]
   rcases h4 with z | z <;> simp <;> lia
  have new : Bt X.prog X.w (upd H s.heap.objs.size (N6 s.heap.objs.size kk.length)) h' s.heap.objs.size (N6 s.heap.objs.size kk.length) := by
   refine ⟨⟨o, es, ep, t, h1, h2, h3, hfit, h7⟩, ⟨o, h1⟩, fun g1 g2 hg hk => ?_⟩
   obtain ⟨o, es, ep, t, k1, k2, k3, k4, k5⟩ := hg
   exact ⟨o, es, ep, t, hk o k1, k2, k3, k4, k5⟩
  exact ⟨.ref s.heap.objs.size, _, I.laid (t' := tk) hk (SW _) new, rfl, q _ _ (by lia) hnd (I.hok.fresh (SW _))⟩
theorem Ql (K : SE) (hc : X.calm = true) (hu : X.A.units + 64 < cLine) (e : X.K = K := by rfl) : BO X (.type "set") (Mq K) := by subst e; exact LN hc hu
end
end L2
namespace L2
open PySem PySem.Spec PyProof.Rows
section
open PySem.W
variable {X : Cx} (K : SE)
inductive TyP (K : SE) (H : Hp) : V → Value → Prop where
 | non : TyP K H .non (.type "NoneType")
 | bl (x : Bool) : TyP K H (.bl x) (.type "bool")
 | int (i : Int) : TyP K H (.int i) (.type "int")
 | str (x : Str) : TyP K H (.str x) (.type "str")
 | lst {a : Addr} {xs : List V} (e : SqL K H a xs) : TyP K H (.ref a) (.type "list")
 | tup {a : Addr} {xs : List V} (e : SqT K H a xs) : TyP K H (.ref a) (.type "tuple")
 | dK {a : Addr} {kvs : List (Key × V)} (e : H a = some (.dK kvs)) : TyP K H (.ref a) (.type "dict")
 | dT {a : Addr} {kvs : List (List Key × V)} (e : H a = some (.dT kvs)) : TyP K H (.ref a) (.type "dict")
inductive N2 (xs : List V) (H : Hp) (Q : VK) : Prop
 | mk (x : _) (t : _) (tp : _) (ys : _) (cs : _) (b : _) (h1 : xs = [x, .ref tp]) (h2 : TyP K H x t) (h3 : H tp = some (.tup ys)) (h4 : ys.map NG = cs.map some) (h5 : kitAny K t cs = some b) (h6 : Q (.bl b) H) : N2 xs H Q
theorem O1 (e : X.K = K := by rfl) : BO X (.builtin "isinstance") (N2 K) := by
 subst e
 intro pins s σ H xs us Q I r h
 obtain ⟨x, t, tp, ys, cs, b, rfl, ty, htp, hys, hk, q⟩ := h
 obtain ⟨u, w', rfl, rx, ry⟩ := LV r
 cases ry
 obtain ⟨_, its, rv, ⟨cc, dd, dt, sl⟩, e1, e2, n, e3⟩ := I.hok tp _ htp
 have e2 : cc = .type "tuple" := e2
 have e3 : dt = .seq its.toArray n := e3
 subst e2 e3
 rw [HD rv hys] at e1
 have fin : ∀ tk, EP X pins σ Q (.bool b) { s with toks := tk } := fun tk => ⟨.bl b, H, I.tok _, rfl, q⟩
 cases ty with
 | non => cases (show u = Value.none from rx); exact kia_tup kitx_none I.kIn True.intro e1 hk (fun z => nomatch z) fin
 | bl y => cases (show u = Value.bool y from rx); exact kia_tup kitx_bool I.kIn True.intro e1 hk (fun z => nomatch z) fin
 | int i => obtain ⟨t, q⟩ := (show ∃ t, u = Value.int i t from rx); cases q; exact kia_tup kitx_int I.kIn True.intro e1 hk (fun z => nomatch z) fin
 | str y => obtain ⟨t, q⟩ := (show ∃ t, u = Value.str y t from rx); cases q; exact kia_tup kitx_str I.kIn True.intro e1 hk (fun z => nomatch z) fin
 | @lst a xs hz =>
   cases (show u = Value.ref a from rx)
   obtain ⟨_, _, ⟨o, _, o1, o2, _⟩, _⟩ := I.list hz
   exact kia_tup kitx_list I.kIn ⟨o, o1, o2⟩ e1 hk (fun z => nomatch z) fin
 | @tup a xs hz =>
   cases (show u = Value.ref a from rx)
   obtain ⟨_, _, ⟨o, o1, o2, _⟩, _⟩ := I.tuple hz
   exact kia_tup kitx_tuple I.kIn ⟨o, o1, o2⟩ e1 hk (fun z => nomatch z) fin
 | @dK a kvs ea =>
   cases (show u = Value.ref a from rx)
   obtain ⟨_, _, vs, _, p⟩ := (show Bt X.prog X.w H s.heap a (.dK kvs) from I.hok a _ ea)
   obtain ⟨o, es, ep, h1, h2, _⟩ := p
   exact kia_tup kitx_dict I.kIn ⟨o, h1, h2.1⟩ e1 hk (fun z => nomatch z) fin
 | @dT a kvs ea =>
   cases (show u = Value.ref a from rx)
   obtain ⟨_, _, vs, _, p⟩ := (show Bt X.prog X.w H s.heap a (.dT kvs) from I.hok a _ ea)
   obtain ⟨o, es, ep, h1, h2, _⟩ := p
   exact kia_tup kitx_dict I.kIn ⟨o, h1, h2.1⟩ e1 hk (fun z => nomatch z) fin
end
theorem Ln {c k pos es env} : starEach (.Constant c k pos :: es) env = (false, eval (.Constant c k pos) env) :: starEach es env := by rfl
end L2
namespace L2
open PySem PySem.Spec PyProof.Rows
section
variable {X : Cx} {e : Expr} {es : List Expr} {te : TE} {t : TA} {pos : Pos}
@[irreducible] def PEk (X : Cx) (e : Expr) (te : TE) : Prop := PE X e te
@[irreducible] def PAk (X : Cx) (es : List Expr) (t : TA) : Prop := PA X es t
theorem pek (h : PE X e te) : PEk X e te := by unfold PEk; exact h
theorem PEk.to (h : PEk X e te) : PE X e te := by unfold PEk at h; exact h
theorem PAk.to (h : PAk X es t) : PA X es t := by unfold PAk at h; exact h
theorem Nw : PAk X [] Ng := by unfold PAk; exact Ab
theorem CV (ha : PEk X e te) (hr : PAk X es t) (hs : starEach (e :: es) X.env = (false, eval e X.env) :: starEach es X.env) : PAk X (e :: es) (Kq te t) := by unfold PAk; exact Aa ha.to hr.to hs
theorem DK {x j pos} : PEk X (.Constant (.str x) j pos) (tC (.str x)) := pek AD
theorem Nr (h : PAk X es t) : PEk X (.List es pos) (Pn t) := pek (Bx h.to)
theorem Ov {a b : Expr} {ta tb : TE} {r : R2} (hr : IxR X r) (ha : PEk X a ta) (hb : PEk X b tb) (hs : Lc b) : PEk X (.Subscript a b pos) (tOp r ta tb) := pek (Au hr ha.to hb.to hs)
theorem Nq {i : Nat} {x : Str} {pos' : Pos} (hN : X.N.Nodup) (hi : X.N[i]? = some x) (hx : Loc X.env.scope x) (he : PEk X e te) (hs : swapsWith e (some (.Name x pos')) pos.line X.env = pure false := by rfl) (hf : X.fn x = true ∨ X.env.scope.names.lookup x = some .local := by first | exact .inl rfl | exact .inr rfl | assumption) :
 PS X (.Assign [.Name x pos'] e pos) (Lj te (C6 i)) := Aq hN hi hx he.to hs hf
end
end L2
namespace L2
open PySem PySem.Spec PyProof.Rows
theorem PS.nox {X : Cx} {st : Stmt} {t : TS} (h : PS X.nox st t) : PS X st t := fun pins s σ H D I hw => wpAny_mono (h pins s σ H D (I.wish _) hw) (fun _ _ q => q.unwish) fun _ _ z => z.elim
section
variable {X : Cx} {e k : Expr} {te tk : TE}
end
end L2
namespace L2
open PySem PySem.Spec PyProof.Rows
def sg (x : Str) : List Nat := x.cps.toList
theorem FU {x y : Str} (h : sg x = sg y) : x = y := by
 obtain ⟨a⟩ := x
 obtain ⟨b⟩ := y
 exact congrArg Str.mk (Array.toList_inj.mp h)
theorem Bq (x y : Str) : sg (x ++ y) = sg x ++ sg y := cps_toList_append x y
theorem AI (x : Str) : x.length = (sg x).length := by
 show x.cps.size = x.cps.toList.length
 simp
theorem Cg (s : String) : sg (Str.ofString s) = s.toList.map Char.toNat := signs_ofString s
def dg (n : Nat) : List Nat := (Nat.toDigits 10 n).map Char.toNat
theorem Ey {n c : Nat} (h : c ∈ dg n) : 48 ≤ c ∧ c ≤ 57 := by
 obtain ⟨ch, hc, e⟩ := UW.mp h
 rw [← e]
 exact digit_range (Nat.isDigit_of_mem_toDigits (by decide) (by decide) hc)
theorem Jz (n : Nat) : dg n ≠ [] := fun h => Nat.toDigits_ne_nil (List.map_eq_nil_iff.mp h)
theorem Gv {n k : Nat} (hk : 0 < k) (h : n < 10 ^ k) : (dg n).length ≤ k := by
 unfold dg
 rw [Th]
 exact (Nat.length_toDigits_le_iff (by decide) hk).mpr h
def vl (l : List Nat) (a : Nat) : Nat := l.foldl (fun a c => a * 10 + (c - 48)) a
theorem NO : ∀ (l : List Char) (a : Nat), vl (l.map Char.toNat) a = Nat.ofDigitChars 10 l a
 | [], a => rfl
 | c :: r, a => by
   have e : vl ((c :: r).map Char.toNat) a = vl (r.map Char.toNat) (a * 10 + (c.toNat - 48)) := rfl
   rw [e, NO r, Nat.ofDigitChars_cons, Nat.mul_comm]
   rfl
theorem Ko (n : Nat) : vl (dg n) 0 = n := by
 unfold dg
 rw [NO, Nat.ofDigitChars_ten_toDigits]
theorem NF {n : Nat} (h : 10 ≤ n) : dg n = dg (n / 10) ++ [(Nat.digitChar (n % 10)).toNat] := by
 unfold dg
 rw [Nat.toDigits_of_base_le (by decide) h, UG]
 rfl
theorem MX {n : Nat} (h : n < 10) : dg n = [(Nat.digitChar n).toNat] := by
 unfold dg
 rw [Nat.toDigits_of_lt_base h]
 rfl
theorem ID : ∀ {n : Nat} {r : List Nat}, dg n = 48 :: r → n = 0 := by
 intro n
 induction n using Nat.strongRecOn with
 | _ n ih =>
   intro r h
   by_cases hn : n < 10
   ·rw [MX hn] at h
    have e := (Um.inj h).1
    have : ∀ m, m < 10 → (Nat.digitChar m).toNat = 48 → m = 0 := by decide
    exact this n hn e
   ·rw [NF (by lia)] at h
    cases hd : dg (n / 10) with
    | nil => exact absurd hd (Jz _)
    | cons c t =>
      rw [hd] at h
      have e : c = 48 := (Um.inj h).1
      subst e
      have := ih (n / 10) (by lia) hd
      lia
def txI (i : Int) : Str := Str.ofString (toString i)
theorem JS (n : Nat) : sg (txI n) = dg n := by
 unfold txI dg
 rw [Cg]
 have e : toString ((n : Nat) : Int) = Nat.repr n := rfl
 rw [e, Nat.toList_repr]
theorem Od {n : Nat} (h : 0 < n) : sg (txI (-(n : Int))) = 45 :: dg n := by
 unfold txI dg
 rw [Cg]
 obtain ⟨m, rfl⟩ : ∃ m, n = m + 1 := ⟨n - 1, by lia⟩
 have e : toString (-((m + 1 : Nat) : Int)) = "-" ++ Nat.repr (m + 1) := rfl
 rw [e, String.toList_append, UG, Nat.toList_repr]
 rfl
theorem EF (i : Int) : (∃ n : Nat, i = n ∧ sg (txI i) = dg n) ∨ (∃ n : Nat, 0 < n ∧ i = -(n : Int) ∧ sg (txI i) = 45 :: dg n) := by
 by_cases h : 0 ≤ i
 ·exact .inl ⟨i.toNat, by lia, by rw [← JS]; congr; lia⟩
 ·exact .inr ⟨(-i).toNat, by lia, by lia, by rw [← Od (by lia)]; congr; lia⟩
theorem CN (i : Int) {c : Nat} (h : c ≠ 45 ∧ (c < 48 ∨ 57 < c)) : c ∉ sg (txI i) := int_text_free' c h i
def tx (x : Rat) : Str := if x.den = 1 then txI x.num else txI x.num ++ Str.ofString "/" ++ txI x.den
theorem NT : Str.ofString "/" = ⟨#[47]⟩ := by apply FU; rw [Cg]; rfl
theorem IV {x : Str} {c : Nat} (h : c ∉ sg x) : Txt.split x ⟨#[c]⟩ = [x] := by
 have hl := split_len x c
 have hj := StrLaws.join_split x ⟨#[c]⟩
 rw [cnt_none c x.cps.toList h] at hl
 cases e : Txt.split x ⟨#[c]⟩ with
 | nil => rw [e] at hl; simp at hl
 | cons p r =>
   cases r with
   | nil => rw [e, join_one] at hj; rw [hj]
   | cons q r => rw [e] at hl; simp at hl; lia
theorem JF {c : Nat} : ∀ {a b p q : List Nat}, c ∉ a → c ∉ p → a ++ c :: b = p ++ c :: q → a = p ∧ b = q
 | [], b, [], q, _, _, h => ⟨rfl, (Um.inj h).2⟩
 | [], b, y :: p, q, _, hp, h => absurd (SM.mpr (.inl (Um.inj h).1)) hp
 | x :: a, b, [], q, ha, _, h => absurd (SM.mpr (.inl (Um.inj h).1.symm)) ha
 | x :: a, b, y :: p, q, ha, hp, h => by
   have h1 := Um.inj h
   obtain ⟨e1, e2⟩ := JF (fun z => ha (SK _ z)) (fun z => hp (SK _ z)) h1.2
   rw [h1.1, e1]
   exact ⟨rfl, e2⟩
theorem Lm {a b : Str} {c : Nat} (ha : c ∉ sg a) (hb : c ∉ sg b) : Txt.split (a ++ ⟨#[c]⟩ ++ b) ⟨#[c]⟩ = [a, b] := by
 have hl := split_len (a ++ ⟨#[c]⟩ ++ b) c
 have hj := StrLaws.join_split (a ++ ⟨#[c]⟩ ++ b) ⟨#[c]⟩
 have hf := StrLaws.split_free (a ++ ⟨#[c]⟩ ++ b) c
 have es : (a ++ ⟨#[c]⟩ ++ b).cps.toList = sg a ++ c :: sg b := by
  show sg (a ++ ⟨#[c]⟩ ++ b) = _
  rw [Bq, Bq, UX]
  rfl
 rw [es, cnt_append, cnt_cons, cnt_none c _ ha, cnt_none c _ hb, if_pos rfl] at hl
 cases e : Txt.split (a ++ ⟨#[c]⟩ ++ b) ⟨#[c]⟩ with
 | nil => rw [e] at hl; simp at hl
 | cons p r =>
   cases r with
   | nil => rw [e] at hl; simp at hl
   | cons q r =>
     cases r with
     | nil =>
       rw [e, join_cons_cons, join_one] at hj
       rw [e] at hf
       have hs := congrArg sg hj
       have e2 : sg (p ++ ⟨#[c]⟩ ++ q) = sg p ++ c :: sg q := by
        rw [Bq, Bq, UX]
        rfl
       rw [e2, show sg (a ++ ⟨#[c]⟩ ++ b) = _ from es] at hs
       obtain ⟨z1, z2⟩ := JF (hf p (by simp)) ha hs
       rw [FU z1, FU z2]
     | cons _ _ => rw [e] at hl; simp at hl; lia
theorem LY (x : Rat) : Txt.split (tx x) (Str.ofString "/") = if x.den = 1 then [txI x.num] else [txI x.num, txI x.den] := by
 unfold tx
 rw [NT]
 split
 ·exact IV (CN _ (by decide))
 ·exact Lm (CN _ (by decide)) (CN _ (by decide))
section
variable {X : Cx}
inductive Kv (x : V) (vs : List V) (H : Hp) (Q : VK) : Prop
 | mk (y z : Str) (h1 : x = .str y) (h2 : vs = [.str z]) (h3 : Q (.bl (Txt.startswith y z)) H) : Kv x vs H Q
theorem H9 : MtR X "str.startswith" Kv := by
 intro pins s σ H x vs v us Q I rx rv h
 obtain ⟨y, z, rfl, rfl, q⟩ := h
 obtain ⟨t, rfl⟩ := rx
 obtain ⟨u, rfl, ru⟩ := rv.one
 obtain ⟨t', rfl⟩ := ru
 exact SC.startswith ⟨.bl _, H, I, rfl, q⟩
theorem Hk : ∀ l : List (Str × Tok), AQ (l.map fun p => V.str p.1) (strValues l)
 | [] => .nil
 | p :: r => .cons ⟨p.2, rfl⟩ (Hk r)
inductive Mn (x : V) (vs : List V) (H : Hp) (Q : VK) : Prop
 | mk (y z : Str) (h1 : x = .str y) (h2 : vs = [.str z]) (h3 : (z.length == 0) = false) (h4 : y.length + 2 ≤ sizeLine) (h5 : ∀ p, H p = none → Q (.ref p) (upd H p (.lst ((Txt.split y z).map V.str)))) : Mn x vs H Q
theorem DB : MtR X "str.split" Mn := by
 intro pins s σ H x vs v us Q I rx rv h
 obtain ⟨y, z, rfl, rfl, hz, hy, q⟩ := h
 obtain ⟨t, rfl⟩ := rx
 obtain ⟨u, rfl, ru⟩ := rv.one
 obtain ⟨t', rfl⟩ := ru
 have fin : ∀ (l : List (Str × Tok)) (k : Nat), l.map (·.1) = Txt.split y z → EP X pins σ Q (.ref s.heap.objs.size) { s with heap := s.heap.push { cls := .type "list", data := .seq (strValues l).toArray }, toks := k } := by
  intro l k e
  have em : l.map (fun p => V.str p.1) = (Txt.split y z).map V.str := by rw [← e, UY]; rfl
  have hv := Hk l
  rw [em] at hv
  have hb : ((Txt.split y z).map V.str).length ≤ sizeLine := by
   rw [Th]
   exact SG (split_le y z) hy
  exact ⟨.ref s.heap.objs.size, _, I.laid (t' := k) (o := .lst ((Txt.split y z).map V.str)) (fun b ob q => Heap.get?_push_of_some _ q) (SW _) ⟨hb, _, 0, hv, Heap.get?_push_size _ rfl⟩, rfl, q _ (I.hok.fresh (SW _))⟩
 cases h1 : (decide (y.length < z.length) || decide (Builtin.Str.strKind y < Builtin.Str.strKind z))
 ·have hn : (Builtin.Str.partsBetween y (Builtin.Str.occurrences y z 0 y.length (y.length + 1)) z.length).length ≤ sizeLine := by
   have e1 := StrLaws.occ_length_le y z 0 y.length (y.length + 1)
   rw [len_partsBetween]; lia
  cases hf : (Builtin.Str.occurrences y z 0 y.length (y.length + 1)).isEmpty
  ·refine call_meets F.slot_str_split (typeIs_str _ _ _) F.entry_str_split (F.args_str_split_2 _ _) (meets_str_split_sep y z t t' h1 hz hf (by lia) hn) ?_
   show wants (EP X pins σ Q) X.xe _ { s with toks := _, heap := s.heap.push { cls := .type "list", data := .seq (strsFrom s.toks (Builtin.Str.partsBetween y (Builtin.Str.occurrences y z 0 y.length (y.length + 1)) z.length)).toArray } }
   rw [strsFrom_eq]
   exact fin (numbered s.toks _) _ ((numbered_texts _ _).trans ((if_neg (ne_true_of_eq_false h1)).trans (if_neg (ne_true_of_eq_false hf))).symm)
  ·exact call_meets F.slot_str_split (typeIs_str _ _ _) F.entry_str_split (F.args_str_split_2 _ _) (meets_str_split_not_found y z t t' h1 hz hf)
    (fin [(y, t)] s.toks ((if_neg (ne_true_of_eq_false h1)).trans (if_pos hf)).symm)
 ·exact call_meets F.slot_str_split (typeIs_str _ _ _) F.entry_str_split (F.args_str_split_2 _ _) (meets_str_split_cannot_occur y z t t' h1)
   (fin [(y, t)] s.toks (if_pos h1).symm)
inductive Pz (x : V) (lo : Option Int) (hi : Option Int) (H : Hp) (Q : VK) : Prop
 | mk (y : Str) (c : Nat) (r : List Nat) (h1 : x = .str y) (h2 : lo = some 1) (h3 : hi = none) (h4 : sg y = c :: r) (h5 : y.length ≤ sizeLine) (h6 : Q (.str ⟨r.toArray⟩) H) : Pz x lo hi H Q
theorem Oc : SlR X Pz := by
 intro pins s σ H x v vl vu lo hi sl Q I rx hs pl pu h
 obtain ⟨y, c, r, rfl, rfl, rfl, e, hy, q⟩ := h
 obtain ⟨t, rfl⟩ := rx
 cases pl with
 | int i u =>
   cases pu
   have e2 : y.length = r.length + 1 := by rw [AI, e]; rfl
   have e1 := StrLaws.sliced_plain y (a := 1) (b := y.length) (by lia) (SW _)
   have e3 : Builtin.Str.strSliceIndices (some 1) none 1 y.length = Builtin.Str.strSliceIndices (some ((1 : Nat) : Int)) (some (y.length : Int)) 1 y.length := StrLaws.sliceIdx_none_hi _ _
   have e4 : (Builtin.Str.strSliceIndices (some 1) none 1 y.length).length = r.length := by
    rw [e3, StrLaws.strSliceIndices_plain (by lia) (SW _), Th, Uy]; lia
   refine ⟨"str", _, F.slot_str_getitem.lookup, typeIs_str s y t, ?_⟩
   refine wpAny_getItem_str_slice (l := some (1, u)) (u := none) (st := none) hs rfl ?_
   unfold sliceMade slicePicked
   have e5 : (((none : Option (Int × Tok)).map (·.1)).getD 1 == 1 && (Builtin.Str.strSliceIndices ((some ((1 : Int), u)).map (·.1)) ((none : Option (Int × Tok)).map (·.1)) (((none : Option (Int × Tok)).map (·.1)).getD 1) y.length).length == y.length) = false := by
    show (true && (Builtin.Str.strSliceIndices (some 1) none 1 y.length).length == y.length) = false
    rw [e4, e2]; simp
   rw [e5, if_neg Bool.false_ne_true]
   have e6 : ((Builtin.Str.strSliceIndices (some 1) none 1 y.length).filterMap (y.cps[·]?)) = r := by
    rw [e3, e1]
    show ((sg y).drop 1).take _ = r
    rw [e]
    show r.take (y.length - 1) = r
    exact Ut (by lia)
   have fin : (Made.str ⟨((Builtin.Str.strSliceIndices (some 1) none 1 y.length).filterMap (y.cps[·]?)).toArray⟩).post (EP X pins σ Q) s := by
    rw [e6]
    exact ⟨by show r.toArray.size ≤ sizeLine; simp; lia, ⟨.str ⟨r.toArray⟩, H, I.tok _, ⟨_, rfl⟩, q⟩⟩
   exact fin
def Its (x : Str) : It := ⟨fun i _ => i < (sg x).length, fun i H v H' => H' = H ∧ ∃ c, (sg x)[i]? = some c ∧ v = .str ⟨#[c]⟩, fun i _ => (sg x).length ≤ i⟩
theorem LZ {P : Program} {w : World} {K : SE} {tg : Expr} (it : Addr) (x : Str) (t : Tok) : JG P w K tg (Its x) [it] it (fun i h => h.IsStrIter it "str_ascii_iterator" x t i) where
 mem := by simp
 obj := fun i h st b hb => by
  have e : b = it := by simpa using hb
  subst e
  obtain ⟨o, e, c, d⟩ := st
  exact ⟨o, e, fun v z => by rw [d] at z; cases z⟩
 keep := fun i h h' st k => let ⟨o, e, r⟩ := st; ⟨o, k it (by simp) o e, r⟩
 item := by
  intro X hP hw hK hc i pins s σ H E I hf st hg
  subst hP hw hK
  obtain ⟨f0, f1, f2, f3, f4, f5⟩ := hf it (by simp)
  obtain ⟨c, hx⟩ : ∃ c, (sg x)[i]? = some c := ⟨_, Uj hg⟩
  refine wpAny_pyNext_ascii_item st (c := c) (by rw [← hx]; simp [sg]) fun h' st' sb => ?_
  have I1 : Inv X pins σ H { s with heap := h', toks := s.toks + 1 } := I.turned (fun b o hb e => (sb.2 b hb).trans e) f0 f1 f3 f4 f5
  obtain ⟨o, e, c', d⟩ := id st'
  exact ⟨_, rfl, Jw (s := { s with heap := h', toks := s.toks + 1 }) e c' d (by decide) ⟨.str ⟨#[c]⟩, H, I1, ⟨_, rfl⟩, ⟨rfl, c, hx, rfl⟩, st', fun b hb => (hf b hb).1⟩⟩
 done := by
  intro X hP hw hK hc i pins s σ H E I hf st hg
  subst hP hw hK
  obtain ⟨f0, f1, f2, f3, f4, f5⟩ := hf it (by simp)
  have hx : x.cps[i]? = none := by
   have : (sg x).length ≤ i := hg
   simp [sg] at this
   simp [this]
  exact wpAny_pyNext_ascii_end (I.ok.hd hc) st hx fun h' eb => ⟨rfl, I.turned (t' := s.toks) (fun b o hb e => eb b o hb e) f0 f1 f3 f4 f5⟩
 self := fun _ _ _ _ _ st h => wpAny_pyIter_striter_ascii st h
inductive PR (tl : TE) (σ : St) (H : Hp) (R : It → Hp → Prop) : Prop
 | mk (h : tl σ H fun v H1 => ∃ x, v = .str x ∧ (∀ c ∈ sg x, c < 128) ∧ R (Its x) H1) : PR tl σ H R
theorem PL {tg l : Expr} {tl : TE} (hl : PE X l tl) : PI X tg l (PR tl) := by
 intro pins s σ H R I h
 obtain ⟨h⟩ := h
 refine thn (hl pins s σ H _ I h) fun v s1 ⟨x, H1, I1, r1, q1⟩ => ?_
 obtain ⟨x, rfl, ha, q⟩ := q1
 obtain ⟨t, rfl⟩ := r1
 refine wpAny_pyIter_ascii (by
  rw [UZ]
  intro c hc
  exact decide_eq_true (ha c (by simpa [sg] using hc))) ?_
 refine ⟨s1.heap.objs.size, [s1.heap.objs.size], _, _, H1, rfl, I1.kept (t' := s1.toks) fun b o e => Heap.get?_push_of_some _ e, LZ _ x t, ⟨_, Heap.get?_push_size _ rfl, rfl, rfl⟩, fun b hb => ?_, q⟩
 have e : b = s1.heap.objs.size := by simpa using hb
 subst e
 exact I1.fpOk (SW _) (I1.hok.fresh (SW _))
end
theorem Jp {x : Str} {js : List Nat} {te : TE} {σ : St} {H : Hp} {Fin : List V → Hp → Prop} (Pv : Nat → List V → Hp → Prop) (h0 : Pv 0 [] H) (hl : ∀ i zs H, i ≤ (sg x).length → Pv i zs H → zs.length = i) (hz : (sg x).length ≤ sizeLine)
 (hs : ∀ i c zs H, (sg x)[i]? = some c → Pv i zs H → te ((cS 1 js σ).set 0 (some (.str ⟨#[c]⟩))) H fun y H4 => Pv (i + 1) (zs ++ [y]) H4) (fin : ∀ zs H', Pv (sg x).length zs H' → Fin zs H') :
 ∃ (n' : Nat) (W : Nat → List V → Hp → Prop), W 0 [] H ∧ LcW (Its x) n' 1 js σ (C6 0) M4 te Fin W := by
 refine ⟨(sg x).length, Pv, h0, ⟨?_, ?_, ?_⟩⟩
 ·intro i zs H' hi p
  have h2 := hl i zs H' (SH hi) p
  exact ⟨hi, by lia⟩
 ·rintro i zs H' v H1 hi p ⟨rfl, c, hc, rfl⟩
  exact hs i c zs _ hc p
 ·intro zs H' p
  have h2 := hl _ zs H' (SW _) p
  exact ⟨SW _, by lia, fin zs H' p⟩
end L2
namespace L2
open PySem PySem.Spec PyProof.Rows
theorem OF : typeLookup (.type "str") "__int__" = pure none := by rw [typeLookup_type, builtinLookup_eq_fast]; kernel_rfl
theorem ME : typeLookup (.type "str") "__index__" = pure none := by rw [typeLookup_type, builtinLookup_eq_fast]; kernel_rfl
theorem MD : typeLookup (.type "str") "__trunc__" = pure none := by rw [typeLookup_type, builtinLookup_eq_fast]; kernel_rfl
theorem Df {p : Nat → Bool} : ∀ {l : List Nat}, (∀ c ∈ l, p c = false) → l.dropWhile p = l
 | [], _ => rfl
 | c :: r, h => by rw [List.dropWhile_cons, h c (by simp)]; rfl
theorem DU {p : Nat → Bool} : ∀ {l : List Nat}, (∀ c ∈ l, p c = true) → l.takeWhile p = l
 | [], _ => rfl
 | c :: r, h => by rw [List.takeWhile_cons, h c (by simp), DU fun d hd => h d (SK _ hd)]; rfl
theorem EZ {f : (Array Nat × Bool) → Nat → Option (Array Nat × Bool)} (hf : ∀ ds b c, 48 ≤ c → c ≤ 57 → f (ds, b) c = some (ds.push (c - 48), true)) :
 ∀ (l : List Nat) (ds : Array Nat) (b : Bool), (∀ c ∈ l, 48 ≤ c ∧ c ≤ 57) → l.foldlM f (ds, b) = some (ds ++ (l.map (· - 48)).toArray, b || !l.isEmpty)
 | [], ds, b, _ => by simp
 | c :: r, ds, b, h => by
   rw [List.foldlM_cons, hf ds b c (h c (by simp)).1 (h c (by simp)).2]
   show r.foldlM f (ds.push (c - 48), true) = _
   rw [EZ hf r _ _ fun d hd => h d (SK _ hd)]
   simp
theorem Jy : ∀ (l : List Nat) (a : Nat), (l.map (· - 48)).foldl (fun acc d => acc * 10 + d) a = vl l a
 | [], _ => rfl
 | c :: r, a => Jy r (a * 10 + (c - 48))
theorem KR (l : List Nat) : (#[] ++ (l.map (· - 48)).toArray).foldl (fun acc d => acc * 10 + d) 0 = vl l 0 := by
 rw [← Array.foldl_toList]
 simpa using Jy l 0
open Lean in
local macro_rules
 | `(tactic| trivial) => do
   let p : Name := .num (.str (.str (.str (.str (.str .anonymous "_private") "PySem") "Builtin") "Int") "W0All") 0
   let n := mkIdent (p ++ `PySem.Builtin.isBlank)
   `(tactic| unfold $n:ident)
open Lean in
local macro_rules
 | `(tactic| trivial) => do
   let p : Name := .num (.str (.str (.str (.str (.str .anonymous "_private") "PySem") "Builtin") "Int") "W0All") 0
   let n := mkIdent (p ++ `PySem.Builtin.digitValue?)
   `(tactic| unfold $n:ident)
open Lean in
local macro_rules
 | `(tactic| trivial) => do
   let p : Name := .num (.str (.str (.str (.str (.str .anonymous "_private") "PySem") "Builtin") "Int") "W0All") 0
   let n := mkIdent (p ++ `PySem.Builtin.numeralDigits?)
   `(tactic| unfold $n:ident)
open Lean in
local macro_rules
 | `(tactic| trivial) => do
   let p : Name := .num (.str (.str (.str (.str (.str .anonymous "_private") "PySem") "Builtin") "Int") "W0All") 0
   let n := mkIdent (p ++ `PySem.Builtin.prefixBase?)
   `(tactic| unfold $n:ident)
open Lean in
local macro_rules
 | `(tactic| trivial) => do
   let p : Name := .num (.str (.str (.str (.str (.str .anonymous "_private") "PySem") "Builtin") "Int") "W0All") 0
   let n := mkIdent (p ++ `PySem.Builtin.readNumeral)
   `(tactic| unfold $n:ident)
set_option maxHeartbeats 0 in
theorem DD (x : Str) (u : Tok) (t l : List Nat) (n : Int) (hx : sg x = t) (ht : t = l ∧ n = vl l 0 ∨ t = 45 :: l ∧ n = -(vl l 0 : Int)) (h60 : l.length ≤ 100) (hl : ∀ c ∈ l, 48 ≤ c ∧ c ≤ 57) (hn : l ≠ []) (h0 : ∀ r, l = 48 :: r → r = []) :
 Meets (Builtin.«int.__new__» ⟨[.type "int", .str x u], []⟩) (Made.int n).spec :=
 Meets.of_wp fun prog w A R s hs => by
  have hr : ∀ c ∈ t, 45 ≤ c ∧ c ≤ 57 := by
   intro c hc
   rcases ht with ⟨rfl, _⟩ | ⟨rfl, _⟩
   ·have := hl c hc; lia
   ·rcases SM.mp hc with z | z
    ·lia
    ·have := hl c z; lia
  have hlen : t.length ≤ 101 := by
   rcases ht with ⟨rfl, _⟩ | ⟨rfl, _⟩
   ·lia
   ·simp; lia
  obtain ⟨hp, g, d, tk, os⟩ := s
  have f1 := F.conv_sub_int
  have f2 := F.madeHere_int
  have hT : (⟨hp, g, d, tk, os⟩ : Shared).TypeIs (.str x u) "str" := rfl
  have f3 := OF
  have f4 := ME
  have f5 := MD
  repeat (any_goals (first | assumption | wp_step))
  have e1 : (if (x.cps.all fun x => decide (x < 128)) = true then x.cps.toList else Unicode.numberText x.cps.toList) = t := by
   rw [if_pos]
   ·exact hx
   ·rw [UZ]
    intro c hc
    have := hr c (by rw [← hx]; simpa [sg] using hc)
    exact decide_eq_true (by lia)
  have e2 : t.takeWhile (fun x => x != 0) = t := DU fun c hc => by have := hr c hc; simp; lia
  rw [e1, e2, if_pos (by lia)]
  refine wpAny_bind (wpAny_pure ?_)
  dsimp only
  have hB : ∀ c, 45 ≤ c → ¬ (c == 32 || (decide (9 ≤ c) && decide (c ≤ 13))) = true := fun c h => by simp; lia
  obtain ⟨c, r, rfl⟩ : ∃ c r, l = c :: r := by
   cases l with
   | nil => exact absurd rfl hn
   | cons c r => exact ⟨c, r, rfl⟩
  have c1 := hl c (by simp)
  have c45 : ¬ c = 45 := by lia
  have c43 : ¬ c = 43 := by lia
  have hrev : ∀ p : Nat → Bool, (∀ d ∈ c :: r, p d = false) → ((c :: r).reverse.dropWhile p).reverse = c :: r := fun p h => by
   rw [Df fun d hd => h d (List.mem_reverse.mp hd), List.reverse_reverse]
  have c48 : c = 48 → r = [] := fun e => h0 r (by rw [e])
  by_cases z : c = 48
  ·have y := c48 z
   clear c48 h0
   subst y
   subst z
   clear c45 c43
   split
   all_goals rename_i heq
   all_goals revert heq
   all_goals trivial
   all_goals rw [Df (l := t) (fun c hc => by trivial; exact Bool.eq_false_iff.mpr (hB c (hr c hc).1))]
   all_goals rcases ht with ⟨rfl, rfl⟩ | ⟨rfl, rfl⟩
   all_goals dsimp only
   all_goals try simp only [Um.injEq, false_and, imp_self, implies_true, not_false_eq_true]
   all_goals trivial
   all_goals first | dsimp only | skip
   all_goals try simp only [Um.injEq, false_and, imp_self, implies_true, not_false_eq_true]
   all_goals try rw [if_neg (by simp : ¬ (10 == 0) = true)]
   all_goals try dsimp only
   all_goals rw [hrev _ (fun d hd => by trivial; exact Bool.eq_false_iff.mpr (hB d (by have := hl d hd; lia)))]
   all_goals trivial
   all_goals rw [EZ (fun ds b e h1 h2 => by
    have e95 : ¬ (e == 95) = true := by simp; lia
    dsimp only
    rw [if_neg e95]
    trivial
    rw [if_pos (by simp; lia)]
    dsimp only
    rw [if_pos (by lia)]) _ _ _ hl]
   all_goals simp only [Option.bind_eq_bind, Option.bind_some, List.isEmpty_cons, Bool.not_false, Bool.false_or, if_true, reduceIte]
   all_goals rw [if_neg (by simp), if_neg (by first | (simp; done) | (have h61 := h60; simp at h61 ⊢; lia)), if_neg (by simp), KR]
   all_goals try rw [if_neg Bool.false_ne_true]
   all_goals try rw [if_pos _root_.trivial]
   all_goals intro heq
   all_goals cases heq
   all_goals rw [if_pos (by simp)]
   all_goals repeat (first | assumption | wp_step)
   all_goals exact ⟨_, rfl, hs⟩
  ·split
   all_goals rename_i heq
   all_goals revert heq
   all_goals trivial
   all_goals rw [Df (l := t) (fun c hc => by trivial; exact Bool.eq_false_iff.mpr (hB c (hr c hc).1))]
   all_goals rcases ht with ⟨rfl, rfl⟩ | ⟨rfl, rfl⟩
   all_goals dsimp only
   all_goals try simp only [c45, c43, Um.injEq, false_and, imp_self, implies_true, not_false_eq_true]
   all_goals trivial
   all_goals first | dsimp only | skip
   all_goals try simp only [z, Um.injEq, false_and, imp_self, implies_true, not_false_eq_true]
   all_goals try rw [if_neg (by simp : ¬ (10 == 0) = true)]
   all_goals try dsimp only
   all_goals rw [hrev _ (fun d hd => by trivial; exact Bool.eq_false_iff.mpr (hB d (by have := hl d hd; lia)))]
   all_goals trivial
   all_goals rw [EZ (fun ds b e h1 h2 => by
    have e95 : ¬ (e == 95) = true := by simp; lia
    dsimp only
    rw [if_neg e95]
    trivial
    rw [if_pos (by simp; lia)]
    dsimp only
    rw [if_pos (by lia)]) _ _ _ hl]
   all_goals simp only [Option.bind_eq_bind, Option.bind_some, List.isEmpty_cons, Bool.not_false, Bool.false_or, if_true, reduceIte]
   all_goals rw [if_neg (by simp), if_neg (by first | (simp; done) | (have h61 := h60; simp at h61 ⊢; lia)), if_neg (by simp), KR]
   all_goals try rw [if_neg Bool.false_ne_true]
   all_goals try rw [if_pos _root_.trivial]
   all_goals intro heq
   all_goals cases heq
   all_goals rw [if_pos (by simp)]
   all_goals repeat (first | assumption | wp_step)
   all_goals exact ⟨_, rfl, hs⟩
section
variable {X : Cx}
theorem Iw (K : SE) : Tn K (.type "str") (.type "str") = some true := by kernel_rfl
inductive O5 (xs : List V) (H : Hp) (Q : VK) : Prop
 | mk (y : Str) (h1 : xs = [.str y]) (h2 : y.length ≤ sizeLine) (h3 : Q (.int (y.length : Nat)) H) : O5 xs H Q
theorem F0 : BO X (.builtin "len") O5 := by
 intro pins s σ H xs us Q I r h
 obtain ⟨y, rfl, hy, q⟩ := h
 obtain ⟨u, rfl, rx⟩ := CK r
 obtain ⟨t, rfl⟩ := rx
 have hl := EW
 have hs : sizeLine = 16777216 := sizeLine_eq
 exact len_str (by lia) ⟨.int _, H, I.tok _, ⟨_, rfl⟩, q⟩
inductive O7 (xs : List V) (H : Hp) (Q : VK) : Prop
 | mk (i : Int) (h1 : xs = [.str (txI i)]) (h2 : i.natAbs < 10 ^ 60) (h3 : Q (.int i) H) : O7 xs H Q
theorem Fb : BO X (.type "int") O7 := by
 intro pins s σ H xs us Q I r h
 obtain ⟨i, rfl, hi, q⟩ := h
 obtain ⟨u, rfl, rx⟩ := CK r
 obtain ⟨t, rfl⟩ := rx
 have fin : (Made.int i).post (fun obj s₁ => s₁.TypeIs obj "int" ∧ EP X pins σ Q obj s₁) s := ⟨rfl, ⟨.int i, H, I.tok _, ⟨_, rfl⟩, q⟩⟩
 rcases EF i with ⟨n, e, hs⟩ | ⟨n, hp, e, hs⟩
 ·exact call_int_1 (DD (txI i) t (dg n) (dg n) i hs (.inl ⟨rfl, by rw [Ko]; exact e⟩) (SG (Gv (k := 60) (by decide) (by lia)) (by decide)) (fun c hc => Ey hc) (Jz n) (fun r hr => by
   have z := ID hr
   subst z
   exact (Um.inj hr).2.symm)) fin
 ·exact call_int_1 (DD (txI i) t (45 :: dg n) (dg n) i hs (.inr ⟨rfl, by rw [Ko]; exact e⟩) (SG (Gv (k := 60) (by decide) (by lia)) (by decide)) (fun c hc => Ey hc) (Jz n) (fun r hr => by
   have z := ID hr
   subst z
   exact (Um.inj hr).2.symm)) fin
end
end L2
namespace L2
open PySem PySem.Spec PyProof.Rows
theorem NK {x sep : Str} {c : Nat} {w : List Nat} (hw : sg sep = c :: w) {k : Nat} (h : StrLaws.At x sep x.length k) : (sg x)[k]? = some c := by
 obtain ⟨h1, h2⟩ := h
 rw [StrLaws.subAt_eq] at h2
 have h3 : ((sg x).drop k).take sep.length = sg sep := by simpa [sg] using h2
 have h4 : (((sg x).drop k).take sep.length)[0]? = some c := by rw [h3, hw]; rfl
 have h5 : 0 < sep.length := by rw [AI, hw]; simp
 rw [TK h5, Ue] at h4
 simpa using h4
theorem Q6 {x sep : Str} {k : Nat} {r : List Nat} (h : (sg x).drop k = sg sep ++ r) (hk : k ≤ (sg x).length) : StrLaws.At x sep x.length k := by
 have hl := congrArg Tx h
 rw [U0, TM] at hl
 refine ⟨by rw [AI x, AI sep]; lia, ?_⟩
 rw [StrLaws.subAt_eq, AI]
 show (((sg x).drop k).take (sg sep).length == sg sep) = true
 rw [h, List.take_left']
 ·simp
 ·rfl
theorem Ma {x t : Str} {a b : Nat} {r : List Nat} (h : (sg x).drop a = sg t ++ r) (hb : b = a + (sg t).length) : Builtin.Str.strSub x a b = t := by
 apply FU
 show (Builtin.Str.strSub x a b).cps.toList = sg t
 rw [StrLaws.strSub_toList]
 show ((sg x).drop a).take (b - a) = sg t
 rw [h, List.take_left']
 lia
theorem J9 {x sep : Str} {c : Nat} {w : List Nat} (hw : sg sep = c :: w) : ∀ (ts : List Str) (t : Str) (a : Nat) (cuts : List Nat) (f : Nat), (sg x).drop a = sg (Str.join sep (t :: ts)) → a ≤ (sg x).length → (∀ u ∈ t :: ts, c ∉ sg u) →
 StrLaws.ChainG x sep x.length a cuts f → (∀ k, f ≤ k → ¬ StrLaws.At x sep x.length k) → StrLaws.partsFrom x sep.length a cuts = t :: ts
 | ts, t, a, cuts, f, h, ha, hf, hc, hn => by
   have hlen := congrArg Tx h
   rw [U0] at hlen
   -- no cut within the first text
   have inT : ∀ (r : List Nat), (sg x).drop a = sg t ++ r → ∀ k, a ≤ k → k < a + (sg t).length → ¬ StrLaws.At x sep x.length k := by
    intro r hr k h1 h2 hA
    have e := NK hw hA
    have e2 : ((sg x).drop a)[k - a]? = some c := by rw [Ue, show a + (k - a) = k by lia]; exact e
    rw [hr, TH (by lia)] at e2
    exact hf t (by simp) (TL e2)
   cases ts with
   | nil =>
     rw [join_one] at h hlen
     have h' : (sg x).drop a = sg t ++ [] := by rw [h, Tq]
     cases cuts with
     | nil =>
       show [Builtin.Str.strSub x a x.length] = [t]
       rw [Ma h' (by rw [AI]; lia)]
     | cons d r =>
       obtain ⟨h1, h2, h3, h4⟩ := hc
       have := h2.1
       rw [AI x, AI sep, hw, Ta] at this
       exact absurd h2 (inT [] h' d h1 (by lia))
   | cons u ts =>
     rw [join_cons_cons, Bq, Bq, UX] at h
     have hd : (sg x).drop (a + (sg t).length) = sg sep ++ sg (Str.join sep (u :: ts)) := by
      rw [← List.drop_drop, h, List.drop_left']
      rfl
     rw [join_cons_cons, Bq, Bq, TM, TM] at hlen
     have hA : StrLaws.At x sep x.length (a + (sg t).length) := Q6 hd (by lia)
     cases cuts with
     | nil =>
       have e : f = a := hc
       exact absurd hA (hn _ (by lia))
     | cons d r =>
       obtain ⟨h1, h2, h3, h4⟩ := hc
       have ed : d = a + (sg t).length := by
        rcases UR d (a + (sg t).length) with z | z | z
        ·exact absurd h2 (inT _ h d h1 z)
        ·exact z
        ·exact absurd hA (h3 _ (by lia) z)
       show Builtin.Str.strSub x a d :: StrLaws.partsFrom x sep.length (d + sep.length) r = t :: u :: ts
       rw [Ma h ed]
       refine congrArg (t :: ·) (J9 hw ts u (d + sep.length) r f ?_ ?_ (fun v hv => hf v (SK _ hv)) h4 hn)
       ·rw [ed, AI sep, ← List.drop_drop, hd, List.drop_left']
        rfl
       ·rw [ed, AI sep]; lia
theorem MO (x : Str) : 1 ≤ Builtin.Str.strKind x := by
 unfold Builtin.Str.strKind
 split
 ·decide
 ·split <;> decide
theorem E2 {sep : Str} {c : Nat} {w : List Nat} (hw : sg sep = c :: w) (hk : Builtin.Str.strKind sep = 1) (t : Str) (ts : List Str) (hf : ∀ u ∈ t :: ts, c ∉ sg u) : Txt.split (Str.join sep (t :: ts)) sep = t :: ts := by
 have hs : 1 ≤ sep.length := by rw [AI, hw]; simp
 obtain ⟨f, hG, hn⟩ := StrLaws.occ_tight (Str.join sep (t :: ts)) sep hs
 have key := J9 (x := Str.join sep (t :: ts)) hw ts t 0 _ f (by rw [Us]) (T1 _) hf hG hn
 unfold Txt.split
 split
 ·rename_i h1
  rw [Bool.or_eq_true, decide_eq_true_eq, decide_eq_true_eq] at h1
  rcases h1 with h1 | h1
  ·cases ts with
   | nil => rw [join_one]
   | cons u ts =>
     rw [join_cons_cons, AI, Bq, Bq, TM, TM, ← AI sep] at h1
     lia
  ·rw [hk] at h1
   have := MO (Str.join sep (t :: ts))
   lia
 ·split
  ·rename_i he
   rw [List.isEmpty_iff.mp he] at key
   have k2 : [Builtin.Str.strSub (Str.join sep (t :: ts)) 0 (Str.join sep (t :: ts)).length] = t :: ts := key
   rw [StrLaws.sub_whole] at k2
   exact k2
  ·rw [StrLaws.partsBetween_eq]
   exact key
theorem Kr : ∀ {ts : List Str} {us : List Value}, AQ (ts.map V.str) us → ∃ l : List (Str × Tok), us = strValues l ∧ l.map (·.1) = ts
 | [], _, .nil => ⟨[], rfl, rfl⟩
 | x :: ts, _, .cons ⟨t, e⟩ r => by
   obtain ⟨l, rfl, e2⟩ := Kr r
   subst e
   exact ⟨(x, t) :: l, rfl, by rw [Te, e2]⟩
theorem JL {b : Nat} : ∀ {l : List Nat}, (∀ x ∈ l, x ≤ b) → l.sum ≤ l.length * b
 | [], _ => by simp
 | x :: r, h => by
   have h1 := h x (by simp)
   have h2 := JL fun y hy => h y (SK _ hy)
   rw [List.sum_cons, Ta, Nat.succ_mul]
   lia
theorem CZ {sep : Str} {ts : List Str} (hs : sep.length ≤ 2) (h : ∀ t ∈ ts, t.length ≤ 1000) (hn : ts.length ≤ 100) : JoinOk sep ts = true := by
 unfold JoinOk
 rw [StrLaws.joinTotal]
 have h1 : (ts.map (·.length)).sum ≤ ts.length * 1000 := by
  have := JL (b := 1000) (l := ts.map (·.length)) (fun x hx => by
   obtain ⟨t, ht, rfl⟩ := UW.mp hx
   exact h t ht)
  rwa [Th] at this
 have h2 : ts.length * sep.length ≤ ts.length * 2 := Nat.mul_le_mul_left _ hs
 have h3 := sizeLine_eq
 unfold Builtin.Str.tooLong
 rw [decide_eq_false (by lia)]
 rfl
theorem Gr {sep : Str} (hs : sep.length ≤ 2) {b : Nat} : ∀ {ts : List Str}, (∀ t ∈ ts, t.length ≤ b) → (Str.join sep ts).length ≤ ts.length * (b + 2) := by
 intro ts h
 have h0 := StrLaws.join_length_le sep ts
 have h1 : (ts.map (·.length)).sum ≤ ts.length * b := by
  have := JL (b := b) (l := ts.map (·.length)) (fun x hx => by
   obtain ⟨t, ht, rfl⟩ := UW.mp hx
   exact h t ht)
  rwa [Th] at this
 have h2 : ts.length * sep.length ≤ ts.length * 2 := Nat.mul_le_mul_left _ hs
 rw [Nat.mul_add]
 lia
theorem Hz {sep : Str} {c : Nat} (hs : c ∉ sg sep) : ∀ {ts : List Str}, (∀ t ∈ ts, c ∉ sg t) → c ∉ sg (Str.join sep ts)
 | [], _ => by intro h; cases h
 | [x], h => by rw [join_one]; exact h x (by simp)
 | x :: y :: r, h => by
   rw [join_cons_cons, Bq, Bq]
   intro hm
   rcases SN.mp hm with hm | hm
   ·rcases SN.mp hm with hm | hm
    ·exact h x (by simp) hm
    ·exact hs hm
   ·exact Hz hs (ts := y :: r) (fun t ht => h t (SK _ ht)) hm
theorem HK (x : Rat) {c : Nat} (h : c ≠ 45 ∧ c ≠ 47 ∧ (c < 48 ∨ 57 < c)) : c ∉ sg (tx x) := by
 unfold tx
 split
 ·exact CN _ ⟨h.1, h.2.2⟩
 ·rw [Bq, Bq, NT]
  intro hm
  rcases SN.mp hm with hm | hm
  ·rcases SN.mp hm with hm | hm
   ·exact CN _ ⟨h.1, h.2.2⟩ hm
   ·exact h.2.1 (Uh.mp hm)
  ·exact CN _ ⟨h.1, h.2.2⟩ hm
section
variable {X : Cx}
inductive NV (K : SE) (x : V) (vs : List V) (H : Hp) (Q : VK) : Prop
 | mk (sep : Str) (l : Addr) (ts : List Str) (h1 : x = .str sep) (h2 : vs = [.ref l]) (h3 : SqL K H l (ts.map V.str)) (h4 : JoinOk sep ts = true) (h5 : Q (.str (Str.join sep ts)) H) : NV K x vs H Q
theorem Ew (K : SE) (e : X.K = K := by rfl) : MtR X "str.join" (NV K) := by
 subst e
 intro pins s σ H x vs v us Q I rx rv h
 obtain ⟨sep, l, ts, rfl, rfl, hS, hj, q⟩ := h
 obtain ⟨t, rfl⟩ := rx
 obtain ⟨u, rfl, ru⟩ := rv.one
 cases ru
 obtain ⟨its, r, pl, hz⟩ := I.list hS
 obtain ⟨ls, rfl, e2⟩ := Kr r
 refine SC.join pl.isList e2 hj fun t' k => ?_
 rw [show Txt.join sep ts = Str.join sep ts from StrLaws.glued_eq_join sep ts]
 exact ⟨.str (Str.join sep ts), H, I.tok _, ⟨_, rfl⟩, q⟩
end
theorem AX.lookN {X : Cx} {NX N : List Str} {sc scope0 scope : Scope} {nt : Nat} {js : List Nat} {cl : List (Str × Addr)} {C : Addr} {s : Shared} {H : Hp} {fp : List Addr} (hs : X.env.scope = sc) (h : IE NX (Py scope0 sc) N nt js scope = true) :
 AX (AR X NX scope0 cl C s H fp) N nt js scope := AX.look (NX := NX) (sc := Py scope0 sc) rfl (by rw [← hs]; rfl) h
end L2
namespace L2
open PySem PySem.Spec PyProof.Rows
inductive KDk (P : Program) (w : World) (K : SE) (a : Addr) (kvs : List (Key × V)) : Prop
 | mk (o : Obj) (es : Array DictEntry) (ep : Nat) (vs : List (Key × Value)) (hk : K.lookup a = some o) (hx : o.ExactDict) (hd : o.data = .dict es ep) (ks : KeysOf (BK P w) es) (ps : Pairs (BK P w) es.toList vs) (nd : (vs.map (·.1)).Nodup) (rel : KV kvs vs) (hs : (a == sysModules) = false) : KDk P w K a kvs
section
variable {X : Cx} {pins : List (Addr × Obj)} {σ : St} {H : Hp} {s : Shared} {a : Addr} {y v : V} {u r : Value} {A : Around} {E : Value → Shared → Prop} {kvs : List (Key × V)} {k : Key}
theorem KDk.of (d : KDk X.prog X.w X.K a kvs) (I : Inv X pins σ H s) : (a == sysModules) = false ∧ ∃ vs, KV kvs vs ∧ s.heap.DictOf (BK X.prog X.w) a vs := by
 obtain ⟨o, es, ep, vs, hk, hx, hd, ks, ps, nd, rel, hs⟩ := d
 exact ⟨hs, vs, rel, o, es, ep, I.kIn a o hk, hx, hd, ks, ps, nd⟩
theorem Kh {Q : Value → Shared → Prop} (I : Inv X pins σ H s) (d : KDk X.prog X.w X.K a kvs) (l : CL kvs k = some v) (ry : AS (kV k) u) (h : ∀ w' s', Inv X pins σ H s' → AS v w' → Q w' s') :
 wpAny (model X.prog X.w) A (getItem (.ref a) u) Q E s := by
 obtain ⟨hd, vs, rel, dd⟩ := d.of I
 obtain ⟨w', hw, rw'⟩ := DS.some_of (v := v) (o := valueAt vs k) (by rw [← l]; exact rel.val k)
 exact wpAny_getItem_of (Jr ry) dd.mapOf hw (h w' _ (I.tok _) rw')
theorem Q0 {Q : Value → Shared → Prop} (I : Inv X pins σ H s) (d : KDk X.prog X.w X.K a kvs) (ry : AS (kV k) u) (h : ∀ s', Inv X pins σ H s' → Q (.bool (CL kvs k).isSome) s') :
 wpAny (model X.prog X.w) A (compareOp .In u (.ref a)) Q E s := by
 obtain ⟨hd, vs, rel, dd⟩ := d.of I
 refine wpAny_in_of (Jr ry) hd dd.mapOf ?_
 rw [← (rel.val k).isSome_eq]
 exact h _ (I.tok _)
theorem MW {Q : Value → Shared → Prop} (I : Inv X pins σ H s) (d : KDk X.prog X.w X.K a kvs) (ry : AS (kV k) u) (h : ∀ s', Inv X pins σ H s' → Q (.bool (!(CL kvs k).isSome)) s') :
 wpAny (model X.prog X.w) A (compareOp .NotIn u (.ref a)) Q E s := by
 obtain ⟨hd, vs, rel, dd⟩ := d.of I
 refine wpAny_notIn_of (Jr ry) hd dd.mapOf ?_
 rw [← (rel.val k).isSome_eq]
 exact h _ (I.tok _)
end
section
variable {X : Cx} {pins : List (Addr × Obj)} {σ : St} {H : Hp} {s : Shared} {a : Addr} {v d : V} {u r : Value} {A : Around} {E : Value → Shared → Prop} {kvs : List (Key × V)} {k : Key}
theorem ND {Q : Value → Shared → Prop} (I : Inv X pins σ H s) (g : KDk X.prog X.w X.K a kvs) (ry : AS (kV k) u) (rd : AS d r) (h : ∀ w' s', Inv X pins σ H s' → AS ((CL kvs k).getD d) w' → Q w' s') :
 wpAny (model X.prog X.w) A (call (.builtin "dict.get") [.ref a, u, r]) Q E s := by
 obtain ⟨hd, vs, rel, dd⟩ := g.of I
 exact call_meetsIn PySem.F.slot_dict_get dd.typeIs PySem.F.entry_dict_get (PySem.F.args_dict_get_3 _ _ _) (meets_dict_get_default (BK X.prog X.w) a (Jr ry) hd r) ⟨_, dd.mapOf, h _ _ (I.tok _) ((rel.val k).getD rd)⟩
end
inductive M7 (P : Program) (w : World) (K : SE) (td ty : TE) (σ : St) (H : Hp) (Q : VK) : Prop
 | mk (h : td σ H fun x H1 => ty σ H1 fun y H2 => ∃ a kvs k v, x = .ref a ∧ KDk P w K a kvs ∧ y = kV k ∧ CL kvs k = some v ∧ Q v H2) : M7 P w K td ty σ H Q
inductive NR (P : Program) (w : World) (K : SE) (ty td : TE) (σ : St) (H : Hp) (Q : VK) : Prop
 | mk (h : ty σ H fun y H1 => td σ H1 fun x H2 => ∃ a kvs k, x = .ref a ∧ KDk P w K a kvs ∧ y = kV k ∧ Q (.bl (CL kvs k).isSome) H2) : NR P w K ty td σ H Q
inductive IU (P : Program) (w : World) (K : SE) (ty td : TE) (σ : St) (H : Hp) (Q : VK) : Prop
 | mk (h : ty σ H fun y H1 => td σ H1 fun x H2 => ∃ a kvs k, x = .ref a ∧ KDk P w K a kvs ∧ y = kV k ∧ Q (.bl (!(CL kvs k).isSome)) H2) : IU P w K ty td σ H Q
inductive Kp (P : Program) (w : World) (K : SE) (td ty tx : TE) (σ : St) (H : Hp) (Q : VK) : Prop
 | mk (h : td σ H fun x H1 => ∃ a kvs, x = .ref a ∧ KDk P w K a kvs ∧ ty σ H1 fun y H2 => tx σ H2 fun z H3 => ∃ k, y = kV k ∧ Q ((CL kvs k).getD z) H3) : Kp P w K td ty tx σ H Q
inductive M8 (CX : CXT) (P : Program) (w : World) (K : SE) (mg : Str → Option Value) (base : Heap) (n : Nat) (E : XK) (tv : TE) (t : TA) (σ : St) (H : Hp) (Q : VK) : Prop
 | mk (h : tv σ H fun x H1 => ∃ f fd, x = .ref f ∧ Tg K (.ref f) = true ∧ t σ H1 fun vs H2 => ∃ ps sp, Ay P w K mg base CX n f fd ps sp ∧ BP K fd ps [] ∧ sp vs H2 Q E) : M8 CX P w K mg base n E tv t σ H Q
section
variable {X : Cx} {CX : CXT} {n : Nat} {E : XK} {p pos apos cpos : Pos} {e f o i : Expr} {es : List Expr} {td ty tx tv : TE} {t : TA}
theorem El (P : Program) (w : World) (K : SE) (ho : PE X o td) (hi : PE X i ty) (hs : Qb i) (eP : X.prog = P := by rfl) (eW : X.w = w := by rfl) (eK : X.K = K := by rfl) : PE X (.Subscript o i pos) (M7 P w K td ty) := by
 subst eP eW eK
 rintro pins s σ H Q I ⟨h⟩
 refine Nh PySem.F.slot_dict_getitem.lookup hs (thn (ho pins s σ H _ I h) fun u s1 ⟨x, H1, I1, rx, q1⟩ => thn (hi pins s1 σ H1 _ I1 q1) fun iv s2 ⟨y, H2, I2, ry, a, kvs, k, v, ex, g, ey, l, q2⟩ => ?_)
 subst ex ey
 obtain rfl : u = Value.ref a := rx
 obtain ⟨_, _, _, dd⟩ := g.of I2
 exact ⟨dd.typeIs, Kh I2 g l ry fun w' s3 I3 rw' => ⟨v, H2, I3, rw', q2⟩⟩
theorem KH (P : Program) (w : World) (K : SE) (hi : PE X i ty) (ho : PE X o td) (eP : X.prog = P := by rfl) (eW : X.w = w := by rfl) (eK : X.K = K := by rfl) : PC X .In i o (NR P w K ty td) := by
 subst eP eW eK
 rintro pins s σ H Q I ⟨h⟩
 refine thn (hi pins s σ H _ I h) fun iv s1 ⟨y, H1, I1, ry, q1⟩ => thn (ho pins s1 σ H1 _ I1 q1) fun u s2 ⟨x, H2, I2, rx, a, kvs, k, ex, g, ey, q2⟩ => ?_
 subst ex ey
 obtain rfl : u = Value.ref a := rx
 exact Q0 I2 g ry fun s3 I3 => ⟨.bl _, H2, I3, rfl, q2⟩
theorem K3 (P : Program) (w : World) (K : SE) (hi : PE X i ty) (ho : PE X o td) (eP : X.prog = P := by rfl) (eW : X.w = w := by rfl) (eK : X.K = K := by rfl) : PC X .NotIn i o (IU P w K ty td) := by
 subst eP eW eK
 rintro pins s σ H Q I ⟨h⟩
 refine thn (hi pins s σ H _ I h) fun iv s1 ⟨y, H1, I1, ry, q1⟩ => thn (ho pins s1 σ H1 _ I1 q1) fun u s2 ⟨x, H2, I2, rx, a, kvs, k, ex, g, ey, q2⟩ => ?_
 subst ex ey
 obtain rfl : u = Value.ref a := rx
 exact MW I2 g ry fun s3 I3 => ⟨.bl _, H2, I3, rfl, q2⟩
theorem Lq (P : Program) (w : World) (K : SE) (ho : PE X o td) (he : PE X e ty) (hf : PE X f tx) (m : M2 X o "get" apos e f cpos) (eP : X.prog = P := by rfl) (eW : X.w = w := by rfl) (eK : X.K = K := by rfl) : PE X (.Call (.Attribute o "get" apos) [e, f] [] cpos) (Kp P w K td ty tx) := by
 subst eP eW eK
 rintro pins s σ H Q I ⟨h⟩
 refine wpAny_Call_method m.base m.few m.line PySem.F.plainAttrs_dict PySem.F.slot_dict_get PySem.F.type_dict_get (thn (ho pins s σ H _ I h) fun u s1 ⟨x, H1, I1, rx, a, kvs, ex, g, q1⟩ => ?_)
 subst ex
 obtain rfl : u = Value.ref a := rx
 obtain ⟨_, _, _, dd⟩ := g.of I1
 refine ⟨dd.typeIs, fun b eb => ?_, ?_⟩
 ·cases eb
  obtain ⟨o, _, _, ho', hx, _⟩ := dd
  exact ⟨o, ho', hx.2.1⟩
 rw [m.trees]
 refine Calls.callWith_builtin rfl (Calls.evalArgs_plain (Calls.spliced_cons (thn (he pins s1 σ H1 _ I1 q1) fun iv s2 ⟨y, H2, I2, ry, q2⟩ =>
  Calls.spliced_cons (thn (hf pins s2 σ H2 _ I2 q2) fun fv s3 ⟨z, H3, I3, rz, k, ey, q3⟩ => Calls.spliced_nil ?_))))
 subst ey
 exact ND I3 g ry rz fun w' s4 I4 rw' => ⟨_, H3, I4, rw', q3⟩
theorem G9 (P : Program) (w : World) (K : SE) (mg : Str → Option Value) (base : Heap) (hr : BC n X.A) (hx : Cz CX X E) (hv : PE X (.Subscript o i p) tv) (ha : PA X (e :: es) t) (he : starEach (e :: es) X.env = (false, eval e X.env) :: starEach es X.env := by rfl) (hpl : (backTo pos (starEach es X.env)).any (·.1) = false := by rfl) (eP : X.prog = P := by rfl) (eW : X.w = w := by rfl) (eK : X.K = K := by rfl) (eM : X.mg = mg := by rfl) (eB : X.base = base := by rfl) :
 PE X (.Call (.Subscript o i p) (e :: es) [] pos) (M8 CX P w K mg base n E tv t) := by
 subst eP eW eK eM eB
 rintro pins s σ H Q I ⟨h⟩
 show wpAny _ _ (do let f ← eval (Expr.Subscript o i p) X.env; callWith pos f [] (backTo pos (starEach (e :: es) X.env)) (backToKw pos (keywordEach [] X.env))) _ _ _
 refine wpAny_bind (thn (hv pins s σ H _ I h) fun u s0 ⟨x, H0, I0, r0, f, fd, ex, hk, q⟩ => ?_)
 subst ex
 obtain rfl : u = Value.ref f := r0
 refine Tr (h₀ := X.base) I0.ok.mod.kin hk (thn (ha pos pins s0 σ H0 _ I0 q) fun us s1 ⟨vs, H1, I1, r, ps, sp, F, hb, q1⟩ => ⟨I1.kIn, ?_⟩) he hpl
 exact JU F hr hb .nil hx I1 r (by rw [Tq]; exact q1)
end
structure FdM (CX : CXT) (P : Program) (w : World) (K : SE) (mg : Str → Option Value) (base : Heap) (n : Nat) (C : Addr) (m : Str) (ps : List Str) (sp : Sp) : Prop where
 ex : ∃ (f : Addr) (fd : FuncData), Ay P w K mg base CX n f fd ps sp ∧ BP K fd ps [] ∧ Pc K C m f
structure FdI (CX : CXT) (P : Program) (w : World) (K : SE) (mg : Str → Option Value) (base : Heap) (n : Nat) (C : Addr) (x : Str) (ps : List Str) (sp : Sp) : Prop where
 ex : ∃ (f : Addr) (fd : FuncData), Ay P w K mg base CX n f fd ps sp ∧ BP K fd ps [] ∧ Mk K C f ∧ mg x = some (.ref C)
section
variable {X : Cx} {CX : CXT} {n k : Nat} {C : Addr} {ps : List Str} {sp : Sp} {E : XK} {x m : Str} {p pos apos : Pos} {e o : Expr} {es : List Expr} {ta : TE} {t : TA}
theorem Mw {pl : Sem Bool} (he : PE X o ta) (c : Cls X.K C) (F : FdM CX X.prog X.w X.K X.mg X.base n C m ps sp) (hr : BC k X.A) (hx : Cz CX X E) (ha : PA X (e :: es) t) (hn : n ≤ k := by decide)
 (hst : starEach (e :: es) X.env = (false, eval e X.env) :: starEach es X.env := by rfl) (hpl : (backTo pos (starEach es X.env)).any (·.1) = false := by rfl)
 (ht : eval (.Call (.Attribute o m apos) (e :: es) [] pos) X.env = (do
  let ov ← eval o X.env
  standAt apos.atName
  let (f, first) ← holding [ov] (getMethod ov m pl)
  callWith pos f first (backTo pos (starEach (e :: es) X.env)) (backToKw pos (keywordEach [] X.env))) := by rfl) :
 PE X (.Call (.Attribute o m apos) (e :: es) [] pos) (NP C m sp [] E ta t) := by
 obtain ⟨f, fd, F1, F2, F3⟩ := F.ex
 exact Nt he c F3 F1 (hr.mono hn) F2 .nil hx ha hst hpl ht
theorem Mx (F : FdI CX X.prog X.w X.K X.mg X.base n C x ps sp) (hr : BC k X.A) (hg : Gl X x) (hx : Cz CX X E) (ha : PA X (e :: es) t) (hn : n + 1 ≤ k := by decide) (hdb : (x == ("__debug__" : Str)) = false := by decide) (he : starEach (e :: es) X.env = (false, eval e X.env) :: starEach es X.env := by rfl) (hpl : (backTo pos (starEach es X.env)).any (·.1) = false := by rfl) :
 PE X (.Call (.Name x p) (e :: es) [] pos) (NQ C sp [] E t) := by
 obtain ⟨f, fd, F1, F2, F3, F4⟩ := F.ex
 exact Nu F3 F1 (hr.mono hn) hg F4 F2 .nil hx ha hdb he hpl
theorem Px {pl : Sem Bool} {pins : List (Addr × Obj)} {σ : St} {H : Hp} {s : Shared} {Q : VK} (ho : PE X.nox o ta) (c : Cls X.K C) (F : FdM (CX2 X.prog X.w) X.prog X.w X.K X.mg X.base n C m ps sp) (hr : BC k X.A) (ha : PA X.nox (e :: es) t) (I : Inv X pins σ H s)
 (h : ta σ H fun x H1 => ∃ a dx fs, x = .ref a ∧ H1 a = some (.ins C dx fs) ∧ fs.lookup m = none ∧ t σ H1 fun vs H2 => sp (x :: vs) H2 Q E) (hn : n ≤ k)
 (hst : starEach (e :: es) X.env = (false, eval e X.env) :: starEach es X.env) (hpl : (backTo pos (starEach es X.env)).any (·.1) = false)
 (ht : eval (.Call (.Attribute o m apos) (e :: es) [] pos) X.env = (do
  let ov ← eval o X.env
  standAt apos.atName
  let (f, first) ← holding [ov] (getMethod ov m pl)
  callWith pos f first (backTo pos (starEach (e :: es) X.env)) (backToKw pos (keywordEach [] X.env)))) :
 wpAny (model X.prog X.w) X.A (eval (.Call (.Attribute o m apos) (e :: es) [] pos) X.env) (EP X pins σ Q) (fun e s2 => ∃ H1 s1, Inv X pins σ H1 s1 ∧ CX2 X.prog X.w X.stack H1 s1 E e s2) s := by
 obtain ⟨f, fd, F1, F2, F3⟩ := F.ex
 refine PySem.W.methodCall_KW (pl := pl) (wpAny_mono (ho pins s σ H _ (I.wish _) h) (fun u s1 ⟨x, H1, I1, rx, a, dx, fs, ex, ea, l, q⟩ => ?_) fun _ _ z => False.elim z) ht
 subst ex
 obtain rfl : u = Value.ref a := rx
 have I1 := I1.unwish
 refine Gu I1 ea c F3 l ?_
 refine Tr (first := [.ref a]) (h₀ := X.base) I.ok.mod.kin F3.kp (wpAny_mono (ha pos pins s1 σ H1 _ (I1.wish _) q) (fun us s2 ⟨vs, H2, I2, r, q2⟩ => ⟨I2.unwish.kIn, ?_⟩) fun _ _ z => False.elim z) hst hpl
 have I2 := I2.unwish
 have r2 : AQ (V.ref a :: vs) (Value.ref a :: us) := .cons rfl r
 have hlen : (Value.ref a :: us).length = ps.length := by rw [← r2.length]; exact F1.len _ _ _ _ q2
 have hb' := F2 s2 (.ref a :: us) I2.kIn (by rw [Tq]; exact hlen)
 rw [Tq] at hb'
 refine wpAny_call (codeAny_mono (F1.run X.A X.stack s2 H2 ⟨.ref a :: us, []⟩ (.ref a :: us) (.ref a :: vs) _ _ (hr.mono hn) I2.env0 hb' r2 q2) fun r s2 hq => ?_)
 cases r with
 | error e => exact ⟨H2, _, I2, hq⟩
 | ok fl =>
   cases fl with
   | ret u => exact I2.after hq
   | next => exact False.elim hq
   | brk => exact False.elim hq
   | cont => exact False.elim hq
def tBm (C : Addr) (m : Str) (sp : Sp) (ta : TE) (t : TA) (j : Nat) : TB := fun nx E σ H => ta σ H fun x H1 => ∃ a dx fs, x = .ref a ∧ H1 a = some (.ins C dx fs) ∧ fs.lookup m = none ∧ t σ H1 fun vs H2 => sp (x :: vs) H2 (fun v H2 => nx (σ.set j (some v)) H2) E
theorem Nv {pl : Sem Bool} {j : Nat} {y : Str} {yp spos : Pos} (ho : PE X.nox o ta) (c : Cls X.K C) (F : FdM (CX2 X.prog X.w) X.prog X.w X.K X.mg X.base n C m ps sp) (hr : BC k X.A) (ha : PA X.nox (e :: es) t) (nd : X.N.Nodup) (hj : X.N[j]? = some y) (hy : Loc X.env.scope y) (hn : n ≤ k := by decide)
 (hs : swapsWith (.Call (.Attribute o m apos) (e :: es) [] pos) (some (.Name y yp)) spos.line X.env = pure false := by rfl) (hf : X.fn y = true ∨ X.env.scope.names.lookup y = some .local := by first | exact .inl rfl | exact .inr rfl | assumption)
 (hst : starEach (e :: es) X.env = (false, eval e X.env) :: starEach es X.env := by rfl) (hpl : (backTo pos (starEach es X.env)).any (·.1) = false := by rfl)
 (ht : eval (.Call (.Attribute o m apos) (e :: es) [] pos) X.env = (do
  let ov ← eval o X.env
  standAt apos.atName
  let (f, first) ← holding [ov] (getMethod ov m pl)
  callWith pos f first (backTo pos (starEach (e :: es) X.env)) (backToKw pos (keywordEach [] X.env))) := by rfl) :
 PB X [.Assign [.Name y yp] (.Call (.Attribute o m apos) (e :: es) [] pos) spos] (tBm C m sp ta t j) := by
 intro pins s σ H nx E I h
 exact wpAny_execs_cons (wpAny_Assign_Name (thn (Px ho c F hr ha I h hn hst hpl ht) fun v s1 ⟨z, H1, I1, r1, q1⟩ => CO I1 nd hj hy r1 (fun s2 I2 => wpAny_execs_nil ⟨rfl, _, H1, I2, q1⟩) hf) hs)
end
section
variable {X : Cx} {o value : Expr} {f : Str} {pos pos' : Pos} {ta tv : TE}
theorem HZ (K : SE) (he : PE X o ta) (hb : attributeBase o f X.env (eval o X.env) = eval o X.env) (e : X.K = K := by rfl) : PE X (.Attribute o f pos) (Pp K ta f) := by subst e; exact Oy he hb
theorem HX (K : SE) (ha : PE X o ta) (hv : PE X value tv) (hs : swapsWith value (some (.Attribute o f pos')) pos.line X.env = pure false) (e : X.K = K := by rfl) : PS X (.Assign [.Attribute o f pos'] value pos) (Pw K ta tv f) := by subst e; exact Oq ha hv hs
end
def Hy (w : World) (q : Str × Tok × Addr) : DictEntry := ⟨PyData.keyHash w.params q.1, .str q.1 q.2.1, .ref q.2.2⟩
theorem Jq {P : Program} {w : World} : ∀ (qs : List (Str × Tok × Addr)), Pairs (BK P w) (qs.map (Hy w)) (qs.map fun q => ((Sum.inr q.1 : Key), Value.ref q.2.2))
 | [] => .nil
 | q :: qs => .cons (by show Value.isStrOf q.1 (.str q.1 q.2.1) = true; simp [Value.isStrOf]) rfl (Jq qs)
theorem KP {P : Program} {w : World} {K : SE} {a : Addr} {n : Nat} (qs : List (Str × Tok × Addr)) (hk : K.lookup a = some ⟨.type "dict", none, .dict (qs.map (Hy w)).toArray n, #[]⟩) (nd : (qs.map (·.1)).Nodup) (hs : (a == sysModules) = false) :
 KDk P w K a (qs.map fun q => ((Sum.inr q.1 : Key), V.ref q.2.2)) := by
 refine ⟨_, _, n, qs.map fun q => ((Sum.inr q.1 : Key), Value.ref q.2.2), hk, ⟨rfl, rfl, rfl⟩, rfl, fun e he => ?_, ?_, ?_, ?_, hs⟩
 ·obtain ⟨q, hq, rfl⟩ := UW.mp (List.mem_toArray.mp he)
  exact ⟨Sum.inr q.1, by show Value.isStrOf q.1 (.str q.1 q.2.1) = true; simp [Value.isStrOf], rfl⟩
 ·simpa using Jq qs
 ·rw [UY]
  have e : ((fun x : Key × Value => x.1) ∘ fun q : Str × Tok × Addr => ((Sum.inr q.1 : Key), Value.ref q.2.2)) = (Sum.inr : Str → Key) ∘ (·.1) := rfl
  rw [e, ← UY]
  exact List.pairwise_map.mpr (nd.imp fun h z => h (Sum.inr.inj z))
 ·clear hk nd
  induction qs with
  | nil => exact .nil
  | cons q qs ih => exact .cons ⟨rfl, rfl⟩ ih
theorem Cu {K : SE} {H : Hp} {a : Addr} {o : Obj} {vs : Array Value} {n : Nat} {i j : Int} (hk : K.lookup a = some o) (hc : o.cls = .type "tuple") (hd : o.data = .seq vs n) (e : vs.toList.map GA = [some (.int i), some (.int j)]) : SqT K H a [.int i, .int j] := by
 refine .inr ⟨o, vs, n, hk, hc, hd, ?_, IT e fun u _ x h => N4 h⟩
 have hl := congrArg Tx e
 simp at hl
 rw [hl]; decide
end L2
namespace L2
open PySem PySem.Spec PyProof.Rows
section
variable {prog : Program} {w : World} {A : Around} {E : Value → Shared → Prop} {s : Shared}
theorem Jl {it t : Addr} {Q : Value → Shared → Prop} (hh : A.handled = none) (hit : s.heap.IsTupleIter it t 0) (ht : s.heap.IsTuple t #[])
 (hE : ∀ h' e, Heap.ExtBut it s.heap h' → (∃ o, h'.get? e = some o ∧ o.cls = .type "StopIteration") → E (.ref e) { s with heap := h' }) : wpAny (model prog w) A (Builtin.SmallTypes.nextOf (.ref it)) Q E s := by
 obtain ⟨o, ho, hc, hd⟩ := id hit
 obtain ⟨ot, hot, _, nt, hdt⟩ := ht
 unfold Builtin.SmallTypes.nextOf
 refine wpAny_bind (wpAny_callSpecial?_slot (name := Str.ofString "__next__") hit.typeIs F.slot_tuple_iterator_next (wpAny_call_entry F.slot_tuple_iterator_next hit.typeIs F.entry_tuple_iterator_next ?_ (F.args_tuple_iterator_next_1 _)))
 show wpAny _ _ (field (.ref it) 0 >>= _) _ _ s
 refine wpAny_bind (wpAny_field ho hd (x := .ref t) rfl ?_)
 show wpAny _ _ (if (Value.ref t == Value.none) = true then _ else _) _ _ s
 rw [if_neg (show ¬ ((Value.ref t == Value.none) = true) from Bool.false_ne_true)]
 show wpAny _ _ (field (.ref it) 1 >>= _) _ _ s
 refine wpAny_bind (wpAny_field ho hd (x := .int ((0 : Nat) : Int) 0) rfl ?_)
 show wpAny _ _ (seqItems? (.ref t) >>= _) _ _ s
 refine wpAny_bind (wpAny_seqItems hot hdt ?_)
 simp only [TV, show (#[] : Array Value)[0]? = none from rfl]
 refine wpAny_bind (wpAny_rule (wpAny_bind (wpAny_setField ho hd (by simp) ?_)))
 show wpAny _ _ (newExc (.type "StopIteration") [] >>= _) _ _ _
 refine wpAny_bind ?_
 simp only [newExc, newTuple]
 refine wpAny_bind (wpAny_newObj_type ?_ (by size_fits))
 refine wpAny_bind (m := firstArgMember _ _) (wpAny_of_eq (a := Value.none) (by first | rfl | (simp only [firstArgMember]; rfl)) ?_)
 refine wpAny_newObj_type ?_ (by size_fits)
 simp only [raiseNew]
 refine wpAny_bind (wpAny_handled ?_)
 first | rw [show A.in1.handled = none from hh] | rw [hh]
 refine wpAny_bind (wpAny_pure (wpAny_throw ?_))
 exact hE _ _ (((Heap.SameBut.update ..).extBut.push _).push _) ⟨_, Heap.get?_push_size _ rfl, rfl⟩
theorem LU {z TI TO i1 i2 l1 l2 : Addr} {k1 : Nat} {xs : Array Value} {a b : Value} {Q : Fin → Shared → Prop} (hh : A.handled = none) (D : ZipApart z TI TO i1 i2 l1 l2)
 (hz : IsZip s.heap z TI TO .none) (hTI : IsPair s.heap TI (.ref i1) (.ref i2)) (hTO : IsPair s.heap TO a b) (h1 : s.heap.IsListIter i1 l1 k1) (h2 : s.heap.IsTupleIter i2 l2 0) (hl1 : s.heap.IsList l1 xs) (hl2 : s.heap.IsTuple l2 #[])
 (hE : ∀ h' e, (∀ c o, c ≠ z → c ≠ TO → c ≠ i1 → c ≠ i2 → s.heap.get? c = some o → h'.get? c = some o) → (∃ o, h'.get? e = some o ∧ o.cls = .type "StopIteration") → E (.ref e) { s with heap := h' }) :
 wpAny (model prog w) A (Builtin.«zip.__next__» ⟨[.ref z], []⟩) Q E s := by
 show wpAny _ _ (field (.ref z) 2 >>= _) _ _ _
 refine wpAny_bind (wpAny_field hz rfl (x := .bool false) rfl ?_)
 show wpAny _ _ (field (.ref z) 3 >>= _) _ _ _
 refine wpAny_bind (wpAny_field hz rfl (x := .ref TI) rfl ?_)
 refine wpAny_bind (wpAny_seqItems hTI rfl ?_)
 show wpAny _ _ (Builtin.SmallTypes.ownedTupleIsFree (.ref z) >>= _) _ _ _
 refine wpAny_bind ?_
 unfold Builtin.SmallTypes.ownedTupleIsFree
 refine wpAny_bind (wpAny_field hz rfl (x := .none) rfl (wpAny_pure ?_))
 simp only [if_true]
 refine wpAny_bind (wpAny_rule ?_)
 refine wpAny_bind (wpAny_field hz rfl (x := .ref TO) rfl ?_)
 refine wpAny_bind (wpAny_setField_rec hz (by simp) fun g1 hz1 t1 => ?_)
 replace hz1 : IsZip g1 z TI TO .ellipsis := hz1
 refine wpAny_bind ?_
 simp only [List.zipIdx_cons, List.zipIdx_nil, U9, List.forIn_nil]
 refine wpAny_bind (wpAny_bind (wpAny_onRaise ?_))
 show wpAny _ _ (Builtin.SmallTypes.nextOf (.ref i1) >>= _) _ _ _
 cases hx : xs[k1]? with
 | none =>
   refine wpAny_bind (wpAny_nextOf_list_end hh (h1.extBut t1.extBut D.i1z) (hl1.extBut t1.extBut D.l1z) hx fun g2 e t2 he => ?_)
   obtain ⟨oe, hoe, hce⟩ := he
   have hz2 : IsZip g2 z TI TO .ellipsis := t2 _ _ D.i1z.symm hz1
   have hez : e ≠ z := fun x => by subst x; rw [hz2] at hoe; cases hoe; simp at hce
   exact wpAny_setField_rec hz2 (by simp) fun g3 _ t3 => hE g3 e (fun c o c1 _ c3 _ x => t3.extBut _ _ c1 (t2 _ _ c3 (t1.extBut _ _ c1 x))) ⟨oe, t3.extBut _ _ hez hoe, hce⟩
 | some x =>
   refine wpAny_bind (wpAny_nextOf_list_item (h1.extBut t1.extBut D.i1z) (hl1.extBut t1.extBut D.l1z) hx fun g2 _ t2 => wpAny_pure ?_)
   have hTO2 : IsPair g2 TO a b := t2.extBut _ _ D.TOi1 (t1.extBut _ _ D.TOz hTO)
   refine wpAny_bind (wpAny_seqItems hTO2 rfl ?_)
   refine wpAny_bind (wpAny_updateSeq_pair hTO2 fun g3 _ t3 => ?_)
   refine wpAny_bind (wpAny_letGo (wpAny_pure ?_))
   refine wpAny_bind (wpAny_bind (wpAny_onRaise ?_))
   show wpAny _ _ (Builtin.SmallTypes.nextOf (.ref i2) >>= _) _ _ _
   refine wpAny_bind (Jl hh (((h2.extBut t1.extBut D.i2z).extBut t2.extBut D.i12.symm).extBut t3.extBut D.TOi2.symm) (((hl2.extBut t1.extBut D.l2z).extBut t2.extBut D.l2i1).extBut t3.extBut D.l2TO) fun g4 e t4 he => ?_)
   obtain ⟨oe, hoe, hce⟩ := he
   have hz4 : IsZip g4 z TI TO .ellipsis := t4 _ _ D.i2z.symm (t3.extBut _ _ D.TOz.symm (t2.extBut _ _ D.i1z.symm hz1))
   have hez : e ≠ z := fun x => by subst x; rw [hz4] at hoe; cases hoe; simp at hce
   exact wpAny_setField_rec hz4 (by simp) fun g5 _ t5 => hE g5 e (fun c o c1 c2 c3 c4 x => t5.extBut _ _ c1 (t4 _ _ c4 (t3.extBut _ _ c2 (t2.extBut _ _ c3 (t1.extBut _ _ c1 x))))) ⟨oe, t5.extBut _ _ hez hoe, hce⟩
theorem Ld {z TI TO i1 i2 l1 l2 : Addr} {k1 : Nat} {xs : Array Value} {a b : Value} {Q : Option Value → Shared → Prop} (hh : A.handled = none) (D : ZipApart z TI TO i1 i2 l1 l2)
 (hz : IsZip s.heap z TI TO .none) (hTI : IsPair s.heap TI (.ref i1) (.ref i2)) (hTO : IsPair s.heap TO a b) (h1 : s.heap.IsListIter i1 l1 k1) (h2 : s.heap.IsTupleIter i2 l2 0) (hl1 : s.heap.IsList l1 xs) (hl2 : s.heap.IsTuple l2 #[])
 (hQ : ∀ h', (∀ c o, c ≠ z → c ≠ TO → c ≠ i1 → c ≠ i2 → s.heap.get? c = some o → h'.get? c = some o) → Q none { s with heap := h' }) : wpAny (model prog w) A (pyNext (.ref z)) Q E s := by
 have hT : s.TypeIs (.ref z) "zip" := ⟨_, hz, rfl⟩
 unfold pyNext
 refine wpAny_bind (wpAny_attempt (wpAny_callSpecial?_slot (name := Str.ofString "__next__") hT F.slot_zip_next
  (wpAny_call_entry F.slot_zip_next hT F.entry_zip_next (LU hh D hz hTI hTO h1 h2 hl1 hl2 fun h' e hk he => ?_) (F.args_zip_next_1 _))))
 obtain ⟨o, ho, hc⟩ := he
 exact wpAny_bind (wpAny_isInstance (T := "StopIteration") (b := true) ⟨o, ho, hc⟩ isSubtype_stop (wpAny_pure (hQ _ hk)))
abbrev zp1 (h : Heap) (l : Addr) : Heap := h.push { cls := .type "list_iterator", data := .fields #[.ref l, .int 0 0] }
abbrev zp2 (h : Heap) (l t : Addr) : Heap := (zp1 h l).push { cls := .type "tuple_iterator", data := .fields #[.ref t, .int 0 0] }
abbrev zp3 (h : Heap) (l t : Addr) : Heap := (zp2 h l t).push { cls := .type "tuple", data := .seq #[.ref h.objs.size, .ref (zp1 h l).objs.size] }
abbrev zp4 (h : Heap) (l t : Addr) : Heap := (zp3 h l t).push { cls := .type "tuple", data := .seq #[.none, .none] }
abbrev zp5 (h : Heap) (l t : Addr) : Heap := (zp4 h l t).push { cls := .type "zip", data := .fields #[.none, .bool false, .bool false, .ref (zp2 h l t).objs.size, .ref (zp3 h l t).objs.size] }
theorem K8 (l t : Addr) (xs ys : Array Value) :
 Meets (Builtin.«zip.__new__» ⟨[.type "zip", .ref l, .ref t], []⟩) (fun _ R s => s.heap.IsList l xs ∧ s.heap.IsTuple t ys ∧ R (.ok (.ret (.ref (zp4 s.heap l t).objs.size))) { s with heap := zp5 s.heap l t }) :=
 .of_wp fun prog w A R s h => by
  obtain ⟨hp, g, d, tk, os⟩ := s; obtain ⟨hl1, hl2, h⟩ := h
  have hsub := sub_zip
  have hL1 : Heap.IsList (Shared.heap ⟨hp, g, d, tk, os⟩) l xs := hl1
  have hL2 : Heap.IsTuple (Shared.heap ⟨hp.push { cls := .type "list_iterator", data := .fields #[.ref l, .int 0 0] }, g, d, tk, os⟩) t ys := Heap.IsTuple.push hl2 _
  wp_walk using wpAny_pyIter_list hL1, wpAny_pyIter_tuple hL2
  exact ⟨_, rfl, h⟩
theorem LL {l t : Addr} {xs ys : Array Value} {Q : Value → Shared → Prop} (hl : s.heap.IsList l xs) (ht : s.heap.IsTuple t ys)
 (h : ∀ h', IsZip h' (s.heap.objs.size + 4) (s.heap.objs.size + 2) (s.heap.objs.size + 3) .none → IsPair h' (s.heap.objs.size + 2) (.ref s.heap.objs.size) (.ref (s.heap.objs.size + 1)) → IsPair h' (s.heap.objs.size + 3) .none .none →
  h'.IsListIter s.heap.objs.size l 0 → h'.IsTupleIter (s.heap.objs.size + 1) t 0 → (∀ c o, s.heap.get? c = some o → h'.get? c = some o) → Q (.ref (s.heap.objs.size + 4)) { s with heap := h' }) :
 wpAny (model prog w) A (call (.type "zip") [.ref l, .ref t]) Q E s := by
 refine callType_new F.called_zip (by decide) (F.typeCall_zip_2 _ _) (F.newCall_zip_2 _ _) (fun obj => F.args_object_init_3 obj _ _) F.entry_zip_new (K8 l t xs ys) ⟨hl, ht, ?_⟩
 have z1 : (zp1 s.heap l).objs.size = s.heap.objs.size + 1 := Heap.size_push ..
 have z2 : (zp2 s.heap l t).objs.size = s.heap.objs.size + 2 := by rw [Heap.size_push, z1]
 have z3 : (zp3 s.heap l t).objs.size = s.heap.objs.size + 3 := by rw [Heap.size_push, z2]
 have z4 : (zp4 s.heap l t).objs.size = s.heap.objs.size + 4 := by rw [Heap.size_push, z3]
 have up : ∀ {h : Heap} {o : Obj} {c : Addr} {p : Obj}, h.get? c = some p → (h.push o).get? c = some p := fun e => Heap.get?_push_of_some _ e
 have g5 : (zp5 s.heap l t).get? (zp4 s.heap l t).objs.size = some _ := Heap.get?_push_size _ rfl
 have g4 : (zp5 s.heap l t).get? (zp3 s.heap l t).objs.size = some _ := up (Heap.get?_push_size _ rfl)
 have g3 : (zp5 s.heap l t).get? (zp2 s.heap l t).objs.size = some _ := up (up (Heap.get?_push_size _ rfl))
 have g2 : (zp5 s.heap l t).get? (zp1 s.heap l).objs.size = some _ := up (up (up (Heap.get?_push_size _ rfl)))
 have g1 : (zp5 s.heap l t).get? s.heap.objs.size = some _ := up (up (up (up (Heap.get?_push_size _ rfl))))
 show _ ∧ _
 rw [z2, z3, z4] at g5
 rw [z1, z2] at g3
 rw [z3] at g4
 rw [z1] at g2
 rw [z4]
 exact ⟨⟨_, g5, rfl⟩, h _ g5 g3 g4 ⟨_, g1, rfl, rfl⟩ ⟨_, g2, rfl, rfl⟩ fun c o x => up (up (up (up (up x))))⟩
end
def N8 (K : SE) (a b : Addr) (xs : List V) : It := ⟨fun _ _ => False, fun _ _ _ _ => False, fun _ H => SqL K H a xs ∧ SqT K H b []⟩
theorem Lf {P : Program} {w : World} {K : SE} {tg : Expr} {a b z TI TO i1 i2 : Addr} (D : ZipApart z TI TO i1 i2 a b) (xs : List V) :
 JG P w K tg (N8 K a b xs) [z, TI, TO, i1, i2] z (fun _ h => IsZip h z TI TO .none ∧ IsPair h TI (.ref i1) (.ref i2) ∧ (∃ u v, IsPair h TO u v) ∧ (∃ k, h.IsListIter i1 a k) ∧ h.IsTupleIter i2 b 0) where
 mem := by simp
 obj := fun i h st c hc => by
  obtain ⟨hz, hTI, ⟨u, v, hTO⟩, ⟨k, o1, e1, _, d1⟩, ⟨o2, e2, _, d2⟩⟩ := st
  have hc' : c = z ∨ c = TI ∨ c = TO ∨ c = i1 ∨ c = i2 := by simpa using hc
  rcases hc' with rfl | rfl | rfl | rfl | rfl
  ·exact ⟨_, hz, fun v z => by cases z⟩
  ·exact ⟨_, hTI, fun v z => by cases z⟩
  ·exact ⟨_, hTO, fun v z => by cases z⟩
  ·exact ⟨o1, e1, fun v z => by rw [d1] at z; cases z⟩
  ·exact ⟨o2, e2, fun v z => by rw [d2] at z; cases z⟩
 keep := fun i h h' st k => by
  obtain ⟨hz, hTI, ⟨u, v, hTO⟩, ⟨n, h1⟩, h2⟩ := st
  exact ⟨k z (by simp) _ hz, k TI (by simp) _ hTI, ⟨u, v, k TO (by simp) _ hTO⟩, ⟨n, h1.at fun o e => k i1 (by simp) o e⟩, h2.at fun o e => k i2 (by simp) o e⟩
 item := fun X _ _ _ _ i pins s σ H E I hf st hg => False.elim hg
 done := by
  intro X hP hw hK hc i pins s σ H E I hf st hg
  subst hP hw hK
  obtain ⟨hq1, hq2⟩ := hg
  obtain ⟨its1, rv1, p1, _⟩ := I.list hq1
  obtain ⟨its2, rv2, p2, _⟩ := I.tuple hq2
  cases rv2
  obtain ⟨hz, hTI, ⟨ta, tb, hTO⟩, ⟨n, h1⟩, h2⟩ := st
  refine Ld (I.ok.hd hc) D hz hTI hTO h1 h2 p1.isList p2 fun h' k => ⟨rfl, I.turnedL (t' := s.toks) (ch := [z, TO, i1, i2]) (fun c o hcn e => by
   have hcn' : c ≠ z ∧ c ≠ TO ∧ c ≠ i1 ∧ c ≠ i2 := by simpa using hcn
   exact k c o hcn'.1 hcn'.2.1 hcn'.2.2.1 hcn'.2.2.2 e) fun c hc => hf c (by
    have hc' : c = z ∨ c = TO ∨ c = i1 ∨ c = i2 := by simpa using hc
    rcases hc' with rfl | rfl | rfl | rfl <;> simp)⟩
 self := fun _ _ _ _ _ st h => wpAny_pyIter_zip st.1 h
inductive O2 (K : SE) (ta : TA) (σ : St) (H : Hp) (R : It → Hp → Prop) : Prop
 | mk (h : ta σ H fun vs H1 => ∃ a b xs, vs = [.ref a, .ref b] ∧ SqL K H1 a xs ∧ SqT K H1 b [] ∧ R (N8 K a b xs) H1) : O2 K ta σ H R
theorem Ot {X : Cx} (K : SE) {tg : Expr} {e1 e2 : Expr} {ta : TA} {p pos : Pos} (hg : Gl X "zip") (hm : X.mg "zip" = none) (ha : PA X [e1, e2] ta) (hs : starEach [e1, e2] X.env = [(false, eval e1 X.env), (false, eval e2 X.env)] := by rfl) (hs2 : starEach [e2] X.env = [(false, eval e2 X.env)] := by rfl) (e : X.K = K := by rfl) :
 PI X tg (.Call (.Name "zip" p) [e1, e2] [] pos) (O2 K ta) := by
 subst e
 rintro pins s σ H R I ⟨h⟩
 refine Call_ (Gn I hg hm OZ (PyProof.Rows.callWith_type1 (thn (ha pos pins s σ H _ I h) fun us s1 ⟨vs, H1, I1, r1, q1⟩ => ?_) (by rw [hs, hs2]) (by rw [hs2]; rfl)))
 obtain ⟨a, b, xs, e, hq1, hq2, q⟩ := q1
 subst e
 cases r1 with
 | cons r rr =>
   cases rr with
   | cons r' rr =>
     cases rr
     cases r
     cases r'
     obtain ⟨its1, rv1, p1, _⟩ := I1.list hq1
     obtain ⟨its2, rv2, p2, _⟩ := I1.tuple hq2
     have la : a < s1.heap.objs.size := by obtain ⟨_, e, _⟩ := p1.isList; exact Heap.lt_size e
     have lb : b < s1.heap.objs.size := by obtain ⟨_, e, _⟩ := p2; exact Heap.lt_size e
     refine LL p1.isList p2 fun h' hz hTI hTO hi1 hi2 hk => ?_
     refine wpAny_pyIter_zip (s := { s1 with heap := h' }) hz ?_
     have D := zipApart_new la lb
     refine ⟨s1.heap.objs.size + 4, [s1.heap.objs.size + 4, s1.heap.objs.size + 2, s1.heap.objs.size + 3, s1.heap.objs.size, s1.heap.objs.size + 1], _, _, H1, rfl, I1.kept (t' := s1.toks) hk, Lf D xs, ⟨hz, hTI, ⟨_, _, hTO⟩, ⟨0, hi1⟩, hi2⟩, fun c hc => ?_, q⟩
     have hge : s1.heap.objs.size ≤ c := by
      have hc' : c = s1.heap.objs.size + 4 ∨ c = s1.heap.objs.size + 2 ∨ c = s1.heap.objs.size + 3 ∨ c = s1.heap.objs.size ∨ c = s1.heap.objs.size + 1 := by simpa using hc
      rcases hc' with rfl | rfl | rfl | rfl | rfl
      ·exact UT _ _
      ·exact UT _ _
      ·exact UT _ _
      ·exact SW _
      ·exact UT _ _
     exact I1.fpOk hge (I1.hok.fresh hge)
theorem MR {K : SE} {a b : Addr} {xs : List V} {g : TG} {tb : TS} {D : Ea} {σ : St} {H : Hp} (h1 : SqL K H a xs) (h2 : SqT K H b []) (hd : D.nx σ H) :
 ∃ W : Nat → Nat → St → Hp → Prop, (∃ m, W 0 m σ H) ∧ ∀ i m σ H, W i m σ H →
   ((N8 K a b xs).stop i H ∧ D.nx σ H) ∨ ((N8 K a b xs).go i H ∧ ∃ N : St → Hp → Prop, (∀ σ' H', N σ' H' → ∃ m', m' < m ∧ W (i + 1) m' σ' H') ∧ ∀ x H', (N8 K a b xs).yld i H x H' → g x σ H' fun σ2 H2 => tb { D with nx := N, ct := N, bk := D.nx } σ2 H2) :=
 ⟨fun _ _ σ' H' => σ' = σ ∧ H' = H, ⟨0, rfl, rfl⟩, fun _ _ _ _ e => .inl (by obtain ⟨rfl, rfl⟩ := e; exact ⟨⟨h1, h2⟩, hd⟩)⟩
end L2
namespace Pf
set_option maxHeartbeats 4000000
open PySem L2
def top (i : Nat) : Stmt := PySem.Challenge.pw_onecurve_k64_points_changed_at_a_desk.main.body.getD i (.Pass ⟨0, 0, 0, 0⟩)
theorem OW {a1 : Type} {p : a1 → Prop} {G : Prop} (h : ∃ x1, p x1) (f : ∀ x1, p x1 → G) : G := Exists.elim h f
theorem Ex {a1 a2 : Type} {p : a1 → a2 → Prop} {G : Prop} (h : ∃ x1 x2, p x1 x2) (f : ∀ x1 x2, p x1 x2 → G) : G := Exists.elim h fun x1 h => OW h (f x1)
theorem IB {a1 a2 a3 : Type} {p : a1 → a2 → a3 → Prop} {G : Prop} (h : ∃ x1 x2 x3, p x1 x2 x3) (f : ∀ x1 x2 x3, p x1 x2 x3 → G) : G := Exists.elim h fun x1 h => Ex h (f x1)
theorem PY {a1 a2 a3 a4 : Type} {p : a1 → a2 → a3 → a4 → Prop} {G : Prop} (h : ∃ x1 x2 x3 x4, p x1 x2 x3 x4) (f : ∀ x1 x2 x3 x4, p x1 x2 x3 x4 → G) : G := Exists.elim h fun x1 h => IB h (f x1)
theorem Qt {a1 a2 a3 a4 a5 : Type} {p : a1 → a2 → a3 → a4 → a5 → Prop} {G : Prop} (h : ∃ x1 x2 x3 x4 x5, p x1 x2 x3 x4 x5) (f : ∀ x1 x2 x3 x4 x5, p x1 x2 x3 x4 x5 → G) : G := Exists.elim h fun x1 h => PY h (f x1)
theorem PX {a1 a2 a3 a4 a5 a6 : Type} {p : a1 → a2 → a3 → a4 → a5 → a6 → Prop} {G : Prop} (h : ∃ x1 x2 x3 x4 x5 x6, p x1 x2 x3 x4 x5 x6) (f : ∀ x1 x2 x3 x4 x5 x6, p x1 x2 x3 x4 x5 x6 → G) : G := Exists.elim h fun x1 h => Qt h (f x1)
theorem Qs {a1 a2 a3 a4 a5 a6 a7 : Type} {p : a1 → a2 → a3 → a4 → a5 → a6 → a7 → Prop} {G : Prop} (h : ∃ x1 x2 x3 x4 x5 x6 x7, p x1 x2 x3 x4 x5 x6 x7) (f : ∀ x1 x2 x3 x4 x5 x6 x7, p x1 x2 x3 x4 x5 x6 x7 → G) : G := Exists.elim h fun x1 h => PX h (f x1)
theorem Qr {a1 a2 a3 a4 a5 a6 a7 a8 : Type} {p : a1 → a2 → a3 → a4 → a5 → a6 → a7 → a8 → Prop} {G : Prop} (h : ∃ x1 x2 x3 x4 x5 x6 x7 x8, p x1 x2 x3 x4 x5 x6 x7 x8) (f : ∀ x1 x2 x3 x4 x5 x6 x7 x8, p x1 x2 x3 x4 x5 x6 x7 x8 → G) : G := Exists.elim h fun x1 h => Qs h (f x1)
theorem Qq {a1 a2 a3 a4 a5 a6 a7 a8 a9 : Type} {p : a1 → a2 → a3 → a4 → a5 → a6 → a7 → a8 → a9 → Prop} {G : Prop} (h : ∃ x1 x2 x3 x4 x5 x6 x7 x8 x9, p x1 x2 x3 x4 x5 x6 x7 x8 x9) (f : ∀ x1 x2 x3 x4 x5 x6 x7 x8 x9, p x1 x2 x3 x4 x5 x6 x7 x8 x9 → G) : G := Exists.elim h fun x1 h => Qr h (f x1)
theorem PZ {a1 a2 a3 a4 a5 a6 a7 a8 a9 a10 : Type} {p : a1 → a2 → a3 → a4 → a5 → a6 → a7 → a8 → a9 → a10 → Prop} {G : Prop} (h : ∃ x1 x2 x3 x4 x5 x6 x7 x8 x9 x10, p x1 x2 x3 x4 x5 x6 x7 x8 x9 x10) (f : ∀ x1 x2 x3 x4 x5 x6 x7 x8 x9 x10, p x1 x2 x3 x4 x5 x6 x7 x8 x9 x10 → G) : G := Exists.elim h fun x1 h => Qq h (f x1)
theorem Gy {A1 A2 G : Prop} (h : A1 ∧ A2) (f : A1 → A2 → G) : G := f h.1 h.2
theorem ED {A1 A2 A3 G : Prop} (h : A1 ∧ A2 ∧ A3) (f : A1 → A2 → A3 → G) : G := Gy h.2 (f h.1)
theorem Gx {A1 A2 A3 A4 G : Prop} (h : A1 ∧ A2 ∧ A3 ∧ A4) (f : A1 → A2 → A3 → A4 → G) : G := ED h.2 (f h.1)
theorem LS {A1 A2 A3 A4 A5 G : Prop} (h : A1 ∧ A2 ∧ A3 ∧ A4 ∧ A5) (f : A1 → A2 → A3 → A4 → A5 → G) : G := Gx h.2 (f h.1)
theorem Q8 {A1 A2 A3 A4 A5 A6 G : Prop} (h : A1 ∧ A2 ∧ A3 ∧ A4 ∧ A5 ∧ A6) (f : A1 → A2 → A3 → A4 → A5 → A6 → G) : G := LS h.2 (f h.1)
theorem Q7 {A1 A2 A3 A4 A5 A6 A7 G : Prop} (h : A1 ∧ A2 ∧ A3 ∧ A4 ∧ A5 ∧ A6 ∧ A7) (f : A1 → A2 → A3 → A4 → A5 → A6 → A7 → G) : G := Q8 h.2 (f h.1)
theorem Qw {A1 A2 A3 A4 A5 A6 A7 A8 G : Prop} (h : A1 ∧ A2 ∧ A3 ∧ A4 ∧ A5 ∧ A6 ∧ A7 ∧ A8) (f : A1 → A2 → A3 → A4 → A5 → A6 → A7 → A8 → G) : G := Q7 h.2 (f h.1)
theorem Qv {A1 A2 A3 A4 A5 A6 A7 A8 A9 G : Prop} (h : A1 ∧ A2 ∧ A3 ∧ A4 ∧ A5 ∧ A6 ∧ A7 ∧ A8 ∧ A9) (f : A1 → A2 → A3 → A4 → A5 → A6 → A7 → A8 → A9 → G) : G := Qw h.2 (f h.1)
theorem Q9 {A1 A2 A3 A4 A5 A6 A7 A8 A9 A10 G : Prop} (h : A1 ∧ A2 ∧ A3 ∧ A4 ∧ A5 ∧ A6 ∧ A7 ∧ A8 ∧ A9 ∧ A10) (f : A1 → A2 → A3 → A4 → A5 → A6 → A7 → A8 → A9 → A10 → G) : G := Qv h.2 (f h.1)
structure HJ (K : SE) (C : Addr) : Prop where
 cl : Cls K C
 na_points : E9 K C "points"
def BN (ps : List Rat) : List Kj := (Sx (ps.length - 1)).map fun k : Nat => (⟨ps.getD 0 0, (k : Int), ps.getD (k + 1) 0⟩ : Kj)
def AO (pss : List (List Rat)) : List Kj := (pss.map BN).flatten
theorem Bf (ps : List Rat) : (BN ps).length = ps.length - 1 := by unfold BN; rw [Th, Uy]
theorem Lh (pss : List (List Rat)) (ps : List Rat) : AO (pss ++ [ps]) = AO pss ++ BN ps := by
 unfold AO
 rw [UG, List.flatten_append]
 simp
theorem Dl : ∀ pss : List (List Rat), (∀ ps ∈ pss, ps.length ≤ 3) → (AO pss).length ≤ 2 * pss.length
 | [], _ => SW _
 | p :: r, h => by
   have ih := Dl r fun ps hp => h ps (SK _ hp)
   have hp := h p SJ
   have e : AO (p :: r) = BN p ++ AO r := rfl
   rw [e, TM, Bf, Ta]
   lia
def P23 (pss : List (List Rat)) : Prop := ∀ ps ∈ pss, ps.length = 2 ∨ ps.length = 3
theorem P23.take {pss : List (List Rat)} (h : P23 pss) (i : Nat) : ∀ ps ∈ pss.take i, ps.length ≤ 3 := fun ps hp => by
 have := h ps (V0 hp); lia
theorem getD_some {l : List Rat} {i : Nat} (h : i < l.length) : l[i]? = some (l.getD i 0) := by rw [Ud, Uj h]; rfl
def cnt (x : Rat) : List Rat → Nat
 | [] => 0
 | y :: r => (if x ≤ y then 1 else 0) + cnt x r
theorem N0 (x : Rat) : ∀ l, cnt x l ≤ l.length
 | [] => SW _
 | y :: r => by
   have := N0 x r
   show (if x ≤ y then 1 else 0) + cnt x r ≤ r.length + 1
   split <;> lia
theorem Ml (x : Rat) : x ≤ x + 1 := by grind
theorem Oe (x : Rat) : ¬ x + 1 ≤ x := by grind
theorem JC (x : Rat) : ∀ l, cnt (x + 1) l ≤ cnt x l
 | [] => SW _
 | y :: r => by
   have := JC x r
   show (if x + 1 ≤ y then 1 else 0) + cnt (x + 1) r ≤ (if x ≤ y then 1 else 0) + cnt x r
   by_cases h : x + 1 ≤ y
   ·rw [if_pos h, if_pos (Rat.le_trans (Ml x) h)]; lia
   ·rw [if_neg h]; lia
theorem Ki {x : Rat} : ∀ {l}, x ∈ l → cnt (x + 1) l < cnt x l
 | y :: r, h => by
   show (if x + 1 ≤ y then 1 else 0) + cnt (x + 1) r < (if x ≤ y then 1 else 0) + cnt x r
   rcases SM.mp h with z | z
   ·subst z
    have := JC x r
    rw [if_neg (Oe x), if_pos Rat.le_refl]; lia
   ·have := Ki z
    by_cases h : x + 1 ≤ y
    ·rw [if_pos h, if_pos (Rat.le_trans (Ml x) h)]; lia
    ·rw [if_neg h]; lia
inductive Fy (K : SE) (vs : List V) (H : Hp) (Q : VK) (E_3 : XK) : Prop
 | mk (r : Addr) (xs : List V) (pss : List (List Rat)) (h1 : vs = [.ref r]) (h2 : SqT K H r xs) (h3 : AH K H xs pss) (h4 : P23 pss) (h5 : pss.length ≤ 100) (h6 : ∀ (p : Addr) (H' : Hp) (ys : List V), Ah H H' → H p = none → H' p = some (.lst ys) → GB K H' ys (AO pss) → Q (.ref p) H') : Fy K vs H Q E_3
theorem BS : ∀ {pss : List (List Rat)}, P23 pss → pss.length ≤ (AO pss).length
 | [], _ => SW _
 | p :: r, h => by
   have ih := BS (pss := r) fun ps hp => h ps (SK _ hp)
   have hp := h p SJ
   have e : AO (p :: r) = BN p ++ AO r := rfl
   rw [e, TM, Bf, Ta]
   lia
inductive Cb (K : SE) (vs : List V) (H : Hp) (Q : VK) (E_3 : XK) : Prop
 | mk (b : Bool) (r : Addr) (xs : List V) (pss : List (List Rat)) (h1 : vs = [.ref r]) (h2 : Sq b K H r xs) (h3 : AH K H xs pss) (h4 : P23 pss) (h5 : 1 ≤ pss.length) (h6 : (pss.map fun ps => ps.getD 0 0).Nodup) (h7 : (AO pss).length ≤ 12) (h8 : ∀ (p : Addr) (H' : Hp), Ah H H' → SqT K H' p xs → (b = false → p = r) → Q (.ref p) H') : Cb K vs H Q E_3
theorem Sq.len {b : Bool} {K : SE} {H : Hp} {r : Addr} {xs : List V} (h : Sq b K H r xs) : SqL K H r xs ∨ SqT K H r xs := by
 cases b
 ·exact .inr h
 ·exact .inl h
inductive DG (K : SE) (vs : List V) (H : Hp) (Q : VK) (E_3 : XK) : Prop
 | mk (l : Addr) (ys : List V) (qs : List Rat) (h1 : vs = [.ref l]) (h2 : SqL K H l ys) (h3 : AJ H ys qs) (h4 : qs.length ≤ 17) (h5 : ∀ H', Ah H H' → Q (.bl (decide qs.Nodup)) H') : DG K vs H Q E_3
inductive Wh (K : SE) (H : Hp) : V → Bool → Prop where
 | int (i : Int) : Wh K H (.int i) true
 | bl (b : Bool) : Wh K H (.bl b) false
 | oth {x : V} {t : Value} (ty : TyX K H x t) (h : Tn K t (.type "int") = some false) : Wh K H x false
inductive Nb (K : SE) (H : Hp) : V → Bool → Prop where
 | no {x : V} {t : Value} (ty : TyX K H x t) (h : Tn K t (.type "tuple") = some false) : Nb K H x false
 | len {a : Addr} {xs : List V} (h : SqT K H a xs) (hl : xs.length ≠ 2) : Nb K H (.ref a) false
 | one {a : Addr} {p q : V} (h : SqT K H a [p, q]) (w : Wh K H p false) : Nb K H (.ref a) false
 | two {a : Addr} {i : Int} {q : V} (h : SqT K H a [.int i, q]) (w : Wh K H q false) : Nb K H (.ref a) false
 | nums {a : Addr} {i j : Int} {b : Bool} (h : SqT K H a [.int i, .int j]) (e : b = (decide (1 ≤ j) && decide ((U7 i j : Int) = 1))) : Nb K H (.ref a) b
inductive Pb (K : SE) (H : Hp) : V → Bool → Prop where
 | no {x : V} {t : Value} (ty : TyX K H x t) (h : Tn K t (.type "tuple") = some false) : Pb K H x false
 | len {a : Addr} {xs : List V} (h : SqT K H a xs) (h2 : xs.length ≠ 2) (h3 : xs.length ≠ 3) : Pb K H (.ref a) false
 | all {a : Addr} {xs : List V} {bs : List Bool} (h : SqT K H a xs) (h23 : xs.length = 2 ∨ xs.length = 3) (hb : Paired (Nb K H) xs bs) : Pb K H (.ref a) (bs.all id)
theorem TyX.same {K : SE} {H H' : Hp} {x : V} {t : Value} (h : TyX K H x t) (e : Ah H H') : TyX K H' x t := by
 cases h with
 | of ty => exact .of (by
  cases ty with
  | non => exact .non
  | bl x => exact .bl x
  | int i => exact .int i
  | str x => exact .str x
  | flt x => exact .flt x
  | lst q => exact .lst (e _ _ q)
  | frz q => exact .frz (e _ _ q)
  | tup q => exact .tup (e _ _ q)
  | dK q => exact .dK (e _ _ q)
  | dT q => exact .dT (e _ _ q)
  | ins q a b c d f => exact .ins (e _ _ q) a b c d f)
 | tup q => exact .tup (q.same e)
 | lst q => exact .lst (Ah.seq e q)
theorem Wh.same {K : SE} {H H' : Hp} {x : V} {b : Bool} (h : Wh K H x b) (e : Ah H H') : Wh K H' x b := by
 cases h with
 | int i => exact .int i
 | bl b => exact .bl b
 | oth ty k => exact .oth (TyX.same ty e) k
theorem Nb.same {K : SE} {H H' : Hp} {x : V} {b : Bool} (h : Nb K H x b) (e : Ah H H') : Nb K H' x b := by
 cases h with
 | no ty k => exact .no (TyX.same ty e) k
 | len q l => exact .len (q.same e) l
 | one q w => exact .one (q.same e) (w.same e)
 | two q w => exact .two (q.same e) (w.same e)
 | nums q k => exact .nums (q.same e) k
theorem Pb.same {K : SE} {H H' : Hp} {x : V} {b : Bool} (h : Pb K H x b) (e : Ah H H') : Pb K H' x b := by
 cases h with
 | no ty k => exact .no (TyX.same ty e) k
 | len q l2 l3 => exact .len (q.same e) l2 l3
 | all q l hb => exact .all (q.same e) l (Paired.mapP hb fun _ _ z => z.same e)
theorem Nb.of {K : SE} {H : Hp} {x : V} {q : Rat} (h : AU K H x q) : Nb K H x true := by
 obtain ⟨r, rfl, hS⟩ := h
 refine .nums hS ?_
 have h1 : 1 ≤ (q.den : Int) := by have := q.den_pos; lia
 have h2 : (U7 q.num (q.den : Int) : Int) = 1 := by
  have := q.reduced
  show ((Nat.gcd q.num.natAbs (q.den : Int).natAbs : Nat) : Int) = 1
  rw [Int.natAbs_natCast]
  exact_mod_cast this
 rw [decide_eq_true h1, decide_eq_true h2]
 rfl
theorem Nb.all {K : SE} {H : Hp} {xs : List V} {qs : List Rat} (h : BI K H xs qs) : Paired (Nb K H) xs (Tv qs.length true) := by
 induction h with
 | nil => exact .nil
 | cons a _ ih => exact .cons (Nb.of a) ih
theorem Gz (n : Nat) : (Tv n true).all id = true := by
 induction n with
 | zero => rfl
 | succ n ih => rw [List.replicate_succ, List.all_cons, ih]; rfl
theorem Pb.of {K : SE} {H : Hp} {x : V} {ps : List Rat} (h : PtV K H x ps) (h23 : ps.length = 2 ∨ ps.length = 3) : Pb K H x true := by
 obtain ⟨a, rfl, xs, hS, hn⟩ := h
 have := Pb.all hS (by rw [hn.length]; exact h23) (Nb.all hn)
 rw [Gz] at this
 exact this
inductive Mb (K : SE) (vs : List V) (H : Hp) (Q : VK) (E_3 : XK) : Prop
 | mk (x : _) (b : _) (h1 : vs = [x]) (h2 : Wh K H x b) (h3 : Q (.bl b) H) : Mb K vs H Q E_3
inductive Kt (K : SE) (vs : List V) (H : Hp) (Q : VK) (E_3 : XK) : Prop
 | mk (x : _) (b : _) (h1 : vs = [x]) (h2 : Nb K H x b) (h3 : Q (.bl b) H) : Kt K vs H Q E_3
inductive Ks (K : SE) (vs : List V) (H : Hp) (Q : VK) (E_3 : XK) : Prop
 | mk (x : _) (b : _) (h1 : vs = [x]) (h2 : Pb K H x b) (h3 : ∀ H', Ah H H' → Q (.bl b) H') : Ks K vs H Q E_3
inductive Eb (K : SE) (H : Hp) : V → Prop where
 | no {x : V} {t : Value} (ty : TyP K H x t) (h : PySem.W.kitAny K t [.type "list", .type "tuple"] = some false) : Eb K H x
 | nil {b : Bool} {r : Addr} (h : Sq b K H r []) : Eb K H (.ref r)
 | pt {b : Bool} {r : Addr} {xs : List V} {bs : List Bool} (h : Sq b K H r xs) (hp : Paired (Pb K H) xs bs) (hb : bs.all id = false) (h17 : xs.length ≤ 17) : Eb K H (.ref r)
 | twice {b : Bool} {r : Addr} {xs : List V} {pss : List (List Rat)} (h : Sq b K H r xs) (hp : AH K H xs pss) (h23 : P23 pss) (hnd : ¬ (pss.map fun ps => ps.getD 0 0).Nodup) (h17 : pss.length ≤ 17) : Eb K H (.ref r)
def IP (K : SE) (H : Hp) (x : V) : Prop := ∃ (b : Bool) (r : Addr) (xs : List V) (pss : List (List Rat)), x = .ref r ∧ Sq b K H r xs ∧ AH K H xs pss ∧ P23 pss ∧ 1 ≤ pss.length ∧ (pss.map fun ps => ps.getD 0 0).Nodup ∧ 12 < (AO pss).length ∧ pss.length ≤ 17
inductive E3 (K : SE) (CP CM : Addr) (vs : List V) (H : Hp) (E_2 : VK) (E : XK) : Prop
 | mk (x : V) (h1 : vs = [x]) (h2 : ((Eb K H x ∧ ∀ H', Ah H H' → E (.ref CP) none H') ∨ (IP K H x ∧ ∀ H', Ah H H' → E (.ref CM) none H'))) : E3 K CP CM vs H E_2 E
theorem TyP.same {K : SE} {H H' : Hp} {x : V} {t : Value} (h : TyP K H x t) (e : Ah H H') : TyP K H' x t := by
 cases h with
 | non => exact .non
 | bl x => exact .bl x
 | int i => exact .int i
 | str x => exact .str x
 | lst q => exact .lst (Ah.seq e q)
 | tup q => exact .tup (q.same e)
 | dK q => exact .dK (e _ _ q)
 | dT q => exact .dT (e _ _ q)
theorem Ia {K : SE} {H : Hp} {xs : List V} {pss : List (List Rat)} (h : AH K H xs pss) (h23 : P23 pss) : Paired (Pb K H) xs (Tv pss.length true) := by
 induction h with
 | nil => exact .nil
 | cons a _ ih => exact .cons (Pb.of a.pt (h23 _ SJ)) (ih fun ps hp => h23 ps (SK _ hp))
theorem BE {K : SE} {H : Hp} {r : Addr} {xs : List V} {v : Nat} {Q : VK} (hS : SqT K H r xs) (hv : v ≤ xs.length) (h : ∀ (p : Addr) (H' : Hp), Ah H H' → SqT K H' p (xs.take v) → Q (.ref p) H') : Mp K (.ref r) none (some (v : Int)) H Q := by
 by_cases e : v = xs.length
 ·refine .inr ⟨r, xs, rfl, hS, ⟨rfl, by rw [HT.sIx_nat]; lia⟩, h r H (Ah.refl _) ?_⟩
  rw [Ut (by lia)]; exact hS
 ·refine .inl ⟨r, xs, rfl, hS, by rw [HT.sIx_nat]; lia, fun p hp => ?_⟩
  rw [OY]
  exact h p _ (Ah.new hp) (SqT.of Ac)
theorem BU {K : SE} {H : Hp} {r : Addr} {xs : List V} {v : Nat} {Q : VK} (hS : SqT K H r xs) (hv : v ≤ xs.length) (h : ∀ (p : Addr) (H' : Hp), Ah H H' → SqT K H' p (xs.drop v) → Q (.ref p) H') : Mp K (.ref r) (some (v : Int)) none H Q := by
 by_cases e : v = 0
 ·subst e
  refine .inr ⟨r, xs, rfl, hS, ⟨by rw [HT.sIx_nat]; lia, rfl⟩, h r H (Ah.refl _) ?_⟩
  rw [Us]; exact hS
 ·by_cases e0 : xs.length = 0
  ·lia
  ·refine .inl ⟨r, xs, rfl, hS, by rw [HT.sIx_nat]; lia, fun p hp => ?_⟩
   rw [JA]
   exact h p _ (Ah.new hp) (SqT.of Ac)
theorem By {K : SE} {H : Hp} {a b : Addr} {xs ys : List V} {Q : VK} (ha : SqT K H a xs) (hb : SqT K H b ys) (hl : xs.length + ys.length ≤ sizeLine) (h : ∀ (p : Addr) (H' : Hp), Ah H H' → SqT K H' p (xs ++ ys) → Q (.ref p) H') : JV K (.ref a) (.ref b) H Q := by
 by_cases ex : xs = []
 ·subst ex
  exact .inr ⟨a, b, ys, rfl, rfl, ha, hb, h b H (Ah.refl _) hb⟩
 ·refine .inl ⟨a, b, xs, ys, rfl, rfl, ha, hb, ex, hl, fun ey => ?_, fun _ p hp => h p _ (Ah.new hp) (SqT.of Ac)⟩
  subst ey
  exact h a H (Ah.refl _) (by rw [Tq]; exact ha)
theorem Bo {α β : Type} {F : α → β → Prop} : ∀ {l₁ : List α} {l₂ : List β} (i : Nat), Paired F l₁ l₂ → Paired F (l₁.drop i) (l₂.drop i)
 | _, _, i, .nil => by rw [List.drop_nil, List.drop_nil]; exact .nil
 | _, _, 0, .cons h t => .cons h t
 | _, _, i + 1, .cons _ t => Bo i t
theorem MK {K : SE} {a : Addr} {js : List Nat} {xs : List V} {tc : TT} {te : TE} {σ : St} {H : Hp} {Fin : List V → Hp → Prop} (Pv : Nat → List V → Hp → Prop) (h0 : Pv 0 [] H)
 (hl : ∀ i zs H, i ≤ xs.length → Pv i zs H → SqT K H a xs ∧ zs.length ≤ i) (hz : xs.length ≤ sizeLine)
 (hs : ∀ i x zs H, xs[i]? = some x → Pv i zs H → tc ((cS 1 js σ).set 0 (some x)) H fun b H3 => if b = true then te ((cS 1 js σ).set 0 (some x)) H3 fun y H4 => Pv (i + 1) (zs ++ [y]) H4 else Pv (i + 1) zs H3) (fin : ∀ zs H', Pv xs.length zs H' → Fin zs H') :
 ∃ (n' : Nat) (W : Nat → List V → Hp → Prop), W 0 [] H ∧ LcW (Itt K a) n' 1 js σ (C6 0) tc te Fin W := by
 refine ⟨xs.length, Pv, h0, ⟨?_, ?_, ?_⟩⟩
 ·intro i zs H' hi p
  obtain ⟨h1, h2⟩ := hl i zs H' (SH hi) p
  exact ⟨⟨xs, xs[i], h1, by simp [hi]⟩, by lia⟩
 ·rintro i zs H' x H1 hi p ⟨rfl, y⟩
  exact hs i x zs _ (y xs (hl i zs _ (SH hi) p).1) p
 ·intro zs H' p
  obtain ⟨h1, h2⟩ := hl _ zs H' (SW _) p
  exact ⟨⟨xs, h1, SW _⟩, by lia, fin zs H' p⟩
theorem BG {α β : Type} {F : α → β → Prop} : ∀ {l₁ : List α} {l₂ : List β} (i : Nat) {x : α} {y : β}, Paired F l₁ l₂ → F x y → Paired F (l₁.set i x) (l₂.set i y)
 | _, _, _, _, _, .nil, _ => .nil
 | _, _, 0, _, _, .cons _ t, h => .cons h t
 | _, _, i + 1, _, _, .cons g t, h => .cons g (BG i t h)
theorem FF {pss : List (List Rat)} {m : Nat} {ps : List Rat} (h : P23 pss) (h2 : ps.length = 2 ∨ ps.length = 3) : P23 (pss.set m ps) := fun qs hq => by
 rcases V1 hq with z | z
 ·exact h qs z
 ·subst z; exact h2
theorem Iu {pss : List (List Rat)} {m : Nat} {ps qs : List Rat} (h : pss[m]? = some ps) (he : qs.getD 0 0 = ps.getD 0 0) (hnd : (pss.map fun ps => ps.getD 0 0).Nodup) : ((pss.set m qs).map fun ps => ps.getD 0 0).Nodup := by
 rw [List.map_set, he]
 have e : (pss.map fun ps => ps.getD 0 0)[m]? = some (ps.getD 0 0) := by rw [TJ, h]; rfl
 obtain ⟨hm, e⟩ := SQ.mp e
 rw [← e, List.set_getElem_self]
 exact hnd
theorem E5 {pss : List (List Rat)} {i j : Nat} {ps qs : List Rat} (hnd : (pss.map fun ps => ps.getD 0 0).Nodup) (h1 : pss[i]? = some ps) (h2 : pss[j]? = some qs) (he : ps.getD 0 0 = qs.getD 0 0) : i = j := by
 have g1 : (pss.map fun ps => ps.getD 0 0)[i]? = some (ps.getD 0 0) := by rw [TJ, h1]; rfl
 have g2 : (pss.map fun ps => ps.getD 0 0)[j]? = some (ps.getD 0 0) := by rw [TJ, h2, he]; rfl
 obtain ⟨b1, g1⟩ := SQ.mp g1
 obtain ⟨b2, g2⟩ := SQ.mp g2
 rcases UR i j with z | z | z
 ·exact absurd (g1.trans g2.symm) (UN.mp hnd i j b1 b2 z)
 ·exact z
 ·exact absurd (g2.trans g1.symm) (UN.mp hnd j i b2 b1 z)
inductive FA (K : SE) (vs : List V) (H : Hp) (Q : VK) (E_3 : XK) : Prop
 | mk (r : Addr) (x : V) (xs : List V) (pss : List (List Rat)) (ps : List Rat) (h1 : vs = [.ref r, x]) (h2 : SqT K H r xs) (h3 : AH K H xs pss) (h4 : PtT K H x ps) (h5 : P23 (pss ++ [ps])) (h6 : ((pss ++ [ps]).map fun ps => ps.getD 0 0).Nodup) (h7 : (AO (pss ++ [ps])).length ≤ 12) (h8 : ∀ (p : Addr) (H' : Hp), Ah H H' → SqT K H' p (xs ++ [x]) → Q (.ref p) H') : FA K vs H Q E_3
inductive Dr (K : SE) (vs : List V) (H : Hp) (Q : VK) (E_3 : XK) : Prop
 | mk (r : Addr) (x v : V) (xs : List V) (pss : List (List Rat)) (m : Nat) (ps : List Rat) (h1 : vs = [.ref r, x]) (h2 : SqT K H r xs) (h3 : AH K H xs pss) (h4 : (pss.map fun ps => ps.getD 0 0).Nodup) (h5 : pss[m]? = some ps) (h6 : xs[m]? = some v) (h7 : AU K H x (ps.getD 0 0)) (h8 : Q v H) : Dr K vs H Q E_3
inductive Fz (K : SE) (vs : List V) (H : Hp) (Q : VK) (E_3 : XK) : Prop
 | mk (r : Addr) (x : V) (xs : List V) (pss : List (List Rat)) (m : Nat) (ps : List Rat) (h1 : vs = [.ref r, x]) (h2 : SqT K H r xs) (h3 : AH K H xs pss) (h4 : (pss.map fun ps => ps.getD 0 0).Nodup) (h5 : pss[m]? = some ps) (h6 : AU K H x (ps.getD 0 0)) (h7 : 2 ≤ pss.length) (h8 : pss.length ≤ 100) (h9 : ∀ (p : Addr) (H' : Hp), Ah H H' → SqT K H' p (xs.take m ++ xs.drop (m + 1)) → Q (.ref p) H') : Fz K vs H Q E_3
inductive C7 (K : SE) (vs : List V) (H : Hp) (Q : VK) (E_3 : XK) : Prop
 | mk (r : Addr) (v y : V) (xs : List V) (pss : List (List Rat)) (m : Nat) (ps qs : List Rat) (h1 : vs = [.ref r, v, y]) (h2 : SqT K H r xs) (h3 : AH K H xs pss) (h4 : (pss.map fun ps => ps.getD 0 0).Nodup) (h5 : P23 pss) (h6 : pss[m]? = some ps) (h7 : xs[m]? = some v) (h8 : PtT K H y qs) (h9 : qs.getD 0 0 = ps.getD 0 0) (h10 : (qs.length = 2 ∨ qs.length = 3)) (h11 : (AO pss).length ≤ 12) (h12 : (AO (pss.set m qs)).length ≤ 12) (h13 : ∀ (p : Addr) (H' : Hp), Ah H H' → SqT K H' p (xs.set m y) → Q (.ref p) H') : C7 K vs H Q E_3
inductive Fw (K : SE) (vs : List V) (H : Hp) (Q : VK) (E_3 : XK) : Prop
 | mk (r px : Addr) (y : V) (xs : List V) (pss : List (List Rat)) (m : Nat) (ps : List Rat) (c : Rat) (h1 : vs = [.ref r, .ref px, y]) (h2 : SqT K H r xs) (h3 : AH K H xs pss) (h4 : (pss.map fun ps => ps.getD 0 0).Nodup) (h5 : P23 pss) (h6 : pss[m]? = some ps) (h7 : H px = some (nT (ps.getD 0 0))) (h8 : AU K H y c) (h9 : (AO pss).length ≤ 12) (h10 : (AO (pss.set m ([ps.getD 0 0, c] ++ ps.drop 2))).length ≤ 12) (h11 : ∀ (p : Addr) (H' : Hp) (xs' : List V), Ah H H' → SqT K H' p xs' → AH K H' xs' (pss.set m ([ps.getD 0 0, c] ++ ps.drop 2)) → Q (.ref p) H') : Fw K vs H Q E_3
inductive DF (K : SE) (vs : List V) (H : Hp) (Q : VK) (E_3 : XK) : Prop
 | mk (r : Addr) (x s : V) (xs : List V) (pss : List (List Rat)) (m : Nat) (ps qs : List Rat) (h1 : vs = [.ref r, x, s]) (h2 : SqT K H r xs) (h3 : AH K H xs pss) (h4 : (pss.map fun ps => ps.getD 0 0).Nodup) (h5 : P23 pss) (h6 : pss[m]? = some ps) (h7 : AU K H x (ps.getD 0 0)) (h8 : (s = .non ∧ qs = ps.take 2 ∨ ∃ c, AU K H s c ∧ qs = ps.take 2 ++ [c])) (h9 : (AO pss).length ≤ 12) (h10 : (AO (pss.set m qs)).length ≤ 12) (h11 : ∀ (p : Addr) (H' : Hp) (xs' : List V), Ah H H' → SqT K H' p xs' → AH K H' xs' (pss.set m qs) → Q (.ref p) H') : DF K vs H Q E_3
theorem JY {K : SE} {H : Hp} {us : List V} {ps : List Rat} {t p : Addr} (n : Nat) (hS : SqT K H t (us.take (n + 1))) (hn : BI K H us ps) (h0 : us[0]? = some (.ref p)) (hp : H p = some (nT (ps.getD 0 0))) : PtT K H (.ref t) (ps.take (n + 1)) := by
 refine ⟨t, _, p, rfl, hS, Paired.take _ hn, ?_, ?_⟩
 ·rw [V2, if_pos (by lia)]; exact h0
 ·cases ps with
  | nil => exact hp
  | cons a r => exact hp
def AB (m p t : Addr) : Nat → Addr
 | 0 => m
 | 1 => p
 | _ => t
structure Pok (K : SE) (H : Hp) (r : Addr) (xs : List V) (pss : List (List Rat)) : Prop where
 S : SqT K H r xs
 P : AH K H xs pss
 h23 : P23 pss
 h1 : 1 ≤ pss.length
 nd : (pss.map fun ps => ps.getD 0 0).Nodup
 h12 : (AO pss).length ≤ 12
theorem Pok.same {K : SE} {H H' : Hp} {r : Addr} {xs : List V} {pss : List (List Rat)} (h : Pok K H r xs pss) (e : Ah H H') : Pok K H' r xs pss := ⟨h.S.same e, AH.same h.P e, h.h23, h.h1, h.nd, h.h12⟩
theorem Pok.mv {K : SE} {p : Addr} {H H' : Hp} {r : Addr} {xs : List V} {pss : List (List Rat)} (h : Pok K H r xs pss) (pn : Pen H p) (m : Mv p H H') : Pok K H' r xs pss := ⟨h.S.mv pn m, AH.mv h.P pn m, h.h23, h.h1, h.nd, h.h12⟩
theorem Pok.len {K : SE} {H : Hp} {r : Addr} {xs : List V} {pss : List (List Rat)} (h : Pok K H r xs pss) : pss.length ≤ 12 := SG (BS h.h23) h.h12
inductive Hi (K : SE) (H : Hp) (pss : List (List Rat)) : V → Nat → Prop where
 | pt {y : V} (h : Pb K H y false) : Hi K H pss y 1
 | twice {y : V} {ps : List Rat} (h : PtT K H y ps) (h23 : ps.length = 2 ∨ ps.length = 3) (hm : ps.getD 0 0 ∈ pss.map fun ps => ps.getD 0 0) : Hi K H pss y 1
 | many {y : V} {ps : List Rat} (h : PtT K H y ps) (h23 : ps.length = 2 ∨ ps.length = 3) (hm : ps.getD 0 0 ∉ pss.map fun ps => ps.getD 0 0) (ht : 12 < (AO (pss ++ [ps])).length) : Hi K H pss y 0
theorem Hi.same {K : SE} {H H' : Hp} {pss : List (List Rat)} {y : V} {n : Nat} (h : Hi K H pss y n) (e : Ah H H') : Hi K H' pss y n := by
 cases h with
 | pt h => exact .pt (h.same e)
 | twice h a b => exact .twice (h.same e) a b
 | many h a b c => exact .many (h.same e) a b c
theorem Dz {pss : List (List Rat)} {ps : List Rat} (h : P23 pss) (h2 : ps.length = 2 ∨ ps.length = 3) : P23 (pss ++ [ps]) := fun qs hq => by
 rcases SN.mp hq with z | z
 ·exact h qs z
 ·rw [Uh.mp z]; exact h2
theorem Nn {K : SE} {H : Hp} {r l : Addr} {xs : List V} {pss : List (List Rat)} {y : V} {n : Nat} (h : Pok K H r xs pss) (hy : Hi K H pss y n) (hS : Sq true K H l (xs ++ [y])) : n = 1 ∧ Eb K H (.ref l) ∨ n = 0 ∧ IP K H (.ref l) := by
 have hl := h.len
 have hxl := h.P.length
 cases hy with
 | pt hb =>
   refine .inl ⟨rfl, .pt hS (Paired.append (Ia h.P h.h23) (.cons hb .nil)) ?_ (by rw [TM, U3]; lia)⟩
   rw [List.all_append]
   show (_ && (false && true)) = false
   rw [Bool.false_and, Bool.and_false]
 | @twice ps hp h2 hm =>
   refine .inl ⟨rfl, .twice hS (Paired.snoc h.P hp) (Dz h.h23 h2) (fun hn => ?_) (by rw [TM, U3]; lia)⟩
   rw [UG, V3] at hn
   exact hn.2.2 _ hm _ (SJ ..) rfl
 | @many ps hp h2 hm ht =>
   refine .inr ⟨rfl, true, l, _, _, rfl, hS, Paired.snoc h.P hp, Dz h.h23 h2, by rw [TM, U3]; lia, ?_, ht, by rw [TM, U3]; lia⟩
   rw [UG, V3]
   refine ⟨h.nd, V4 .., fun a ha b hb e => ?_⟩
   rw [V5, Uh] at hb
   exact hm (by rw [← hb, ← e]; exact ha)
inductive FR (K : SE) (cl : Nat → Addr) (vs : List V) (H : Hp) (E_2 : VK) (E : XK) : Prop
 | mk (r : Addr) (y : V) (xs : List V) (pss : List (List Rat)) (n : Nat) (h1 : vs = [.ref r, y]) (h2 : Pok K H r xs pss) (h3 : Hi K H pss y n) (h4 : ∀ H', Ah H H' → E (.ref (cl n)) none H') : FR K cl vs H E_2 E
inductive D0 (K : SE) (cl : Nat → Addr) (vs : List V) (H : Hp) (Q : VK) (E : XK) : Prop
 | mk (r : Addr) (x : V) (xs : List V) (pss : List (List Rat)) (q : Rat) (h1 : vs = [.ref r, x]) (h2 : Pok K H r xs pss) (h3 : AU K H x q) (h4 : ((q ∉ (pss.map fun ps => ps.getD 0 0) ∧ E (.ref (cl 2)) none H) ∨ (∃ (m : Nat) (ps : List Rat) (v : V), pss[m]? = some ps ∧ xs[m]? = some v ∧ ps.getD 0 0 = q ∧ Q v H))) : D0 K cl vs H Q E
def TkR (pss : List (List Rat)) (q : Rat) (n : Nat) : Prop := (n = 2 ∧ q ∉ pss.map fun ps => ps.getD 0 0) ∨ (n = 1 ∧ pss.length = 1 ∧ q ∈ pss.map fun ps => ps.getD 0 0)
inductive Dp (K : SE) (cl : Nat → Addr) (vs : List V) (H : Hp) (E_2 : VK) (E : XK) : Prop
 | mk (r : Addr) (x : V) (xs : List V) (pss : List (List Rat)) (q : Rat) (n : Nat) (h1 : vs = [.ref r, x]) (h2 : Pok K H r xs pss) (h3 : AU K H x q) (h4 : TkR pss q n) (h5 : E (.ref (cl n)) none H) : Dp K cl vs H E_2 E
theorem Dy {pss : List (List Rat)} {q : Rat} (h : q ∈ pss.map fun ps => ps.getD 0 0) : ∃ (m : Nat) (ps : List Rat), pss[m]? = some ps ∧ ps.getD 0 0 = q := by
 obtain ⟨ps, hm, e⟩ := UW.mp h
 obtain ⟨m, hm, e2⟩ := List.getElem_of_mem hm
 exact ⟨m, ps, by rw [Uj hm, e2], e⟩
inductive Kk (K : SE) (H : Hp) (pss : List (List Rat)) (m : Nat) (ps : List Rat) : V → Nat → Prop where
 | pt {y : V} (h : Pb K H y false) : Kk K H pss m ps y 1
 | many {y : V} {qs : List Rat} (h : PtT K H y qs) (h0 : qs.getD 0 0 = ps.getD 0 0) (h23 : qs.length = 2 ∨ qs.length = 3) (ht : 12 < (AO (pss.set m qs)).length) : Kk K H pss m ps y 0
theorem Kk.same {K : SE} {H H' : Hp} {pss : List (List Rat)} {m : Nat} {ps : List Rat} {y : V} {n : Nat} (h : Kk K H pss m ps y n) (e : Ah H H') : Kk K H' pss m ps y n := by
 cases h with
 | pt h => exact .pt (h.same e)
 | many h a b c => exact .many (h.same e) a b c
theorem Nl {K : SE} {H : Hp} {r l : Addr} {xs : List V} {pss : List (List Rat)} {m : Nat} {ps : List Rat} {y : V} {n : Nat} (h : Pok K H r xs pss) (hm : pss[m]? = some ps) (hy : Kk K H pss m ps y n) (hS : Sq true K H l (xs.set m y)) : n = 1 ∧ Eb K H (.ref l) ∨ n = 0 ∧ IP K H (.ref l) := by
 have hl := h.len
 have hxl := h.P.length
 have hml := (SQ.mp hm).1
 cases hy with
 | pt hb =>
   refine .inl ⟨rfl, .pt hS (BG m (Ia h.P h.h23) hb) ?_ (by rw [U1]; lia)⟩
   rw [List.all_eq_false]
   exact ⟨false, List.mem_set (by rw [TN]; exact hml) _, by decide⟩
 | @many qs hp h0 h2 ht =>
   exact .inr ⟨rfl, true, l, _, _, rfl, hS, BG m h.P hp, FF h.h23 h2, by rw [U1]; exact h.h1, Iu hm h0 h.nd, ht, by rw [U1]; lia⟩
inductive DH (K : SE) (cl : Nat → Addr) (vs : List V) (H : Hp) (Q : VK) (E : XK) : Prop
 | mk (r : Addr) (v y : V) (xs : List V) (pss : List (List Rat)) (m : Nat) (ps : List Rat) (h1 : vs = [.ref r, v, y]) (h2 : Pok K H r xs pss) (h3 : pss[m]? = some ps) (h4 : xs[m]? = some v) (h5 : ((∃ n, Kk K H pss m ps y n ∧ ∀ H', Ah H H' → E (.ref (cl n)) none H') ∨ (∃ qs, PtT K H y qs ∧ qs.getD 0 0 = ps.getD 0 0 ∧ (qs.length = 2 ∨ qs.length = 3) ∧ (AO (pss.set m qs)).length ≤ 12 ∧ ∀ v' H', Ah H H' → Q v' H'))) : DH K cl vs H Q E
def HtR (K : SE) (H : Hp) (pss : List (List Rat)) (q : Rat) (y : V) (n : Nat) : Prop := (n = 2 ∧ q ∉ pss.map fun ps => ps.getD 0 0) ∨ (n = 1 ∧ (q ∈ pss.map fun ps => ps.getD 0 0) ∧ Nb K H y false)
inductive Dm (K : SE) (cl : Nat → Addr) (vs : List V) (H : Hp) (E_2 : VK) (E : XK) : Prop
 | mk (r : Addr) (x y : V) (xs : List V) (pss : List (List Rat)) (q : Rat) (n : Nat) (h1 : vs = [.ref r, x, y]) (h2 : Pok K H r xs pss) (h3 : Dg H x q) (h4 : HtR K H pss q y n) (h5 : ∀ H', Ah H H' → E (.ref (cl n)) none H') : Dm K cl vs H E_2 E
inductive JH (K : SE) (H : Hp) (pss : List (List Rat)) (q : Rat) : V → Nat → Prop where
 | far {s : V} (h : q ∉ pss.map fun ps => ps.getD 0 0) : JH K H pss q s 2
 | odd {s : V} (h : q ∈ pss.map fun ps => ps.getD 0 0) (hs : Nb K H s false) (hn : s ≠ .non) : JH K H pss q s 1
 | many {s : V} {c : Rat} {m : Nat} {ps : List Rat} (hm : pss[m]? = some ps) (hq : ps.getD 0 0 = q) (hs : AU K H s c) (ht : 12 < (AO (pss.set m (ps.take 2 ++ [c]))).length) : JH K H pss q s 0
inductive CQ (K : SE) (cl : Nat → Addr) (vs : List V) (H : Hp) (Q : VK) (E : XK) : Prop
 | mk (r : Addr) (x s : V) (xs : List V) (pss : List (List Rat)) (q : Rat) (h1 : vs = [.ref r, x, s]) (h2 : Pok K H r xs pss) (h3 : Dg H x q) (h4 : ((∃ n, JH K H pss q s n ∧ ∀ H', Ah H H' → E (.ref (cl n)) none H') ∨ (s = .non ∧ (q ∈ pss.map fun ps => ps.getD 0 0) ∧ ∀ v' H', Ah H H' → Q v' H'))) : CQ K cl vs H Q E
theorem Ed {pss : List (List Rat)} {m : Nat} {ps : List Rat} (hm : pss[m]? = some ps) (hps : ps.length = 2 ∨ ps.length = 3) : (AO (pss.set m (ps.take 2))).length ≤ (AO pss).length := by
 induction pss generalizing m with
 | nil => cases hm
 | cons p r ih =>
   cases m with
   | zero =>
     cases hm
     have e : AO ((ps :: r).set 0 (ps.take 2)) = BN (ps.take 2) ++ AO r := rfl
     have e2 : AO (ps :: r) = BN ps ++ AO r := rfl
     rw [e, e2, TM, TM, Bf, Bf, Tz]; lia
   | succ m =>
     have e : AO ((p :: r).set (m + 1) (ps.take 2)) = BN p ++ AO (r.set m (ps.take 2)) := rfl
     have e2 : AO (p :: r) = BN p ++ AO r := rfl
     have := ih (m := m) hm
     rw [e, e2, TM, TM]; lia
inductive Rf (K : SE) (H : Hp) (pss : List (List Rat)) : Int → V → V → Nat → Prop where
 | put {x y : V} {n : Nat} (h : Hi K H pss y n) : Rf K H pss 0 x y n
 | out {x y : V} {q : Rat} {n : Nat} (hx : Dg H x q) (h : TkR pss q n) : Rf K H pss 1 x y n
 | hgt {x y : V} {q : Rat} {n : Nat} (hx : Dg H x q) (h : HtR K H pss q y n) : Rf K H pss 2 x y n
 | slo {x y : V} {q : Rat} {n : Nat} (hx : Dg H x q) (h : JH K H pss q y n) : Rf K H pss 3 x y n
 | gain {x : V} {q : Rat} {k : Int} (hx : Dg H x q) (h : (q, k) ∉ ((AO pss).map fun t => (t.x, t.k))) : Rf K H pss 4 x (.int k) 2
 | loss {x y : V} {q : Rat} {n : Nat} (hx : Dg H x q) (h : TkR pss q n) : Rf K H pss 5 x y n
 | new {x y : V} {n : Nat} (h : Hi K H pss y n) : Rf K H pss 6 x y n
def wd3 : Nat → String
 | 0 => "many"
 | 1 => "points"
 | _ => "point"
theorem DZ (as bs : List (List Rat)) : AO (as ++ bs) = AO as ++ AO bs := by unfold AO; rw [UG, List.flatten_append]
theorem Hm {pss : List (List Rat)} {m : Nat} {ps qs : List Rat} (hm : pss[m]? = some ps) : (AO (pss.set m qs)).length + (ps.length - 1) = (AO pss).length + (qs.length - 1) := by
 induction pss generalizing m with
 | nil => cases hm
 | cons p r ih =>
   cases m with
   | zero =>
     cases hm
     have e : AO ((ps :: r).set 0 qs) = BN qs ++ AO r := rfl
     have e2 : AO (ps :: r) = BN ps ++ AO r := rfl
     rw [e, e2, TM, TM, Bf, Bf]; lia
   | succ m =>
     have e : AO ((p :: r).set (m + 1) qs) = BN p ++ AO (r.set m qs) := rfl
     have e2 : AO (p :: r) = BN p ++ AO r := rfl
     have := ih (m := m) hm
     rw [e, e2, TM, TM]; lia
def Fg (x : Rat) : Prop := x.num.natAbs < 10 ^ 6 ∧ x.den < 10 ^ 6
theorem Kg {t b : Int} (hb : b ≠ 0) (ht : t.natAbs < 10 ^ 6) (hb' : b.natAbs < 10 ^ 6) : Fg (U8 t b) := by
 refine ⟨?_, ?_⟩
 ·rw [← Nm.top_msr hb]
  exact U5 (PySem.natAbs_fdiv_le t _) ht
 ·have h : (((U8 t b).den : Nat) : Int).natAbs < 10 ^ 6 := by
   rw [← Nm.bottom_msr hb]
   exact U5 (PySem.natAbs_fdiv_le b _) hb'
  simpa using h
theorem EV {i : Int} (h : i.natAbs < 10 ^ 6) : i.natAbs.log2 < 1920 := by
 by_cases h0 : i.natAbs = 0
 ·rw [h0]; decide +kernel
 ·have := (Nat.log2_lt (k := 200) h0).mpr (by lia); lia
theorem E6 {i : Int} (h : i.natAbs < 10 ^ 6) : (txI i).length ≤ 61 := by
 rw [AI]
 rcases EF i with ⟨n, e, hs⟩ | ⟨n, hp, e, hs⟩
 ·rw [hs]
  exact SG (Gv (k := 6) (by decide) (by lia)) (by decide)
 ·rw [hs, Ta]
  have := Gv (n := n) (k := 6) (by decide) (by lia)
  lia
theorem MI {x : Rat} (h : Fg x) : (tx x).length ≤ 123 := by
 have h1 := E6 h.1
 have h2 := E6 (i := (x.den : Int)) (by have := h.2; lia)
 unfold tx
 split
 ·lia
 ·have l3 : (Str.ofString "/").length = 1 := by rw [AI, Cg]; rfl
  rw [AI, Bq, Bq, TM, TM, ← AI, ← AI, ← AI]
  lia
def Qd (t : Str) : Prop := sg t ≠ [] ∧ (sg t).length ≤ 6 ∧ (∀ c ∈ sg t, 48 ≤ c ∧ c ≤ 57) ∧ ∀ r, sg t = 48 :: r → r = []
theorem IA {t : Str} {n : Nat} (hs : sg t = dg n) (h : n < 10 ^ 6) : Qd t := by
 refine ⟨by rw [hs]; exact Jz n, by rw [hs]; exact Gv (by decide) h, fun c hc => Ey (by rw [← hs]; exact hc), fun r hr => ?_⟩
 have z := ID (hs.symm.trans hr)
 subst z
 exact (Um.inj (hs.symm.trans hr)).2.symm
theorem MT {c : Nat} (h1 : 48 ≤ c) (h2 : c ≤ 57) : (!(Builtin.Str.occurrences (Str.ofString "0123456789") ⟨#[c]⟩ 0 (Str.ofString "0123456789").length 1).isEmpty) = true := by
 rw [PyProof.Rows.empty_one, Bool.not_not]
 refine decide_eq_true ?_
 show c ∈ sg _
 rw [Cg]
 have : c = 48 ∨ c = 49 ∨ c = 50 ∨ c = 51 ∨ c = 52 ∨ c = 53 ∨ c = 54 ∨ c = 55 ∨ c = 56 ∨ c = 57 := by lia
 rcases this with rfl | rfl | rfl | rfl | rfl | rfl | rfl | rfl | rfl | rfl <;> decide
theorem Eg : sg (Str.ofString "-") = [45] := by rw [Cg]; rfl
theorem JN {t : Str} {r : List Nat} (h : sg t = 45 :: r) : Txt.startswith t (Str.ofString "-") = true := by
 unfold Txt.startswith
 rw [StrLaws.subAt_eq, AI, AI t, Eg, h]
 show (decide (0 + 1 ≤ (45 :: r).length) && ((((sg t).drop 0).take 1) == sg (Str.ofString "-"))) = true
 rw [h, Eg]
 simp
theorem Ll {t : Str} {c : Nat} {r : List Nat} (h : sg t = c :: r) (hc : c ≠ 45) : Txt.startswith t (Str.ofString "-") = false := by
 unfold Txt.startswith
 rw [StrLaws.subAt_eq, AI, AI t, Eg, h]
 show (decide (0 + 1 ≤ (c :: r).length) && ((((sg t).drop 0).take 1) == sg (Str.ofString "-"))) = false
 rw [h, Eg]
 simp [hc]
theorem Jk (xs : List Rat) : ((xs.map nD).any fun y => PyData.eqv y .none) = false := by
 induction xs with
 | nil => rfl
 | cons x r ih => rw [Te, U2, ih]; rfl
inductive EH (K : SE) (vs : List V) (H : Hp) (Q : VK) (E_3 : XK) : Prop
 | mk (x : V) (q : Rat) (h1 : vs = [x]) (h2 : AU K H x q) (h3 : Fg q) (h4 : Q (.str (tx q)) H) : EH K vs H Q E_3
inductive Ku (vs : List V) (H : Hp) (Q : VK) (E_3 : XK) : Prop
 | mk (t : Str) (h1 : vs = [.str t, .int 6]) (h2 : Qd t) (h3 : ∀ H', Ah H H' → Q (.bl true) H') : Ku vs H Q E_3
inductive Mc (vs : List V) (H : Hp) (Q : VK) (E_3 : XK) : Prop
 | mk (i : Int) (h1 : vs = [.str (txI i), .int 6]) (h2 : i.natAbs < 10 ^ 6) (h3 : ∀ H', Ah H H' → Q (.bl true) H') : Mc vs H Q E_3
inductive FC (vs : List V) (H : Hp) (Q : VK) (E_3 : XK) : Prop
 | mk (x : Rat) (h1 : vs = [.str (tx x), .int 6]) (h2 : Fg x) (h3 : ∀ p H', Ah H H' → H p = none → H' p = some (nT x) → Q (.ref p) H') : FC vs H Q E_3
inductive Mg (vs : List V) (H : Hp) (Q : VK) (E_3 : XK) : Prop
 | mk (t : Str) (h1 : vs = [.str t]) (h2 : Q .non H) : Mg vs H Q E_3
inductive FT (K : SE) (vs : List V) (H : Hp) (Q : VK) (E_3 : XK) : Prop
 | mk (l : Addr) (xs : List Rat) (h1 : vs = [.ref l, .int 6]) (h2 : SqL K H l (xs.map fun x => V.str (tx x))) (h3 : (∀ x ∈ xs, Fg x)) (h4 : xs.length ≤ 1000) (h5 : ∀ p ys H', Ah H H' → H p = none → H' p = some (.lst ys) → AJ H' ys xs → Q (.ref p) H') : FT K vs H Q E_3
def CF : Str := Str.ofString " "
def DE : Str := Str.ofString ":"
def EA : Str := Str.ofString ", "
theorem Mi : sg CF = [32] := by unfold CF; rw [Cg]; rfl
theorem Eh : sg DE = [58] := by unfold DE; rw [Cg]; rfl
theorem FV : sg EA = [44, 32] := by unfold EA; rw [Cg]; rfl
theorem LQ : CF.length = 1 := by rw [AI, Mi]; rfl
theorem DN : DE.length = 1 := by rw [AI, Eh]; rfl
theorem DM : EA.length = 2 := by rw [AI, FV]; rfl
theorem O0 {x : Str} (h : ∀ c ∈ sg x, c < 256) : Builtin.Str.strKind x = 1 := by
 unfold Builtin.Str.strKind
 rw [if_pos]
 rw [UZ]
 intro c hc
 exact decide_eq_true (h c (by simpa [sg] using hc))
def ptx (ps : List Rat) : Str := Str.join DE (ps.map tx)
def E4 (pss : List (List Rat)) : Str := Str.join EA (pss.map ptx)
theorem IX {ps : List Rat} (h : ps ≠ []) : Txt.split (ptx ps) DE = ps.map tx := by
 unfold ptx
 cases ps with
 | nil => exact absurd rfl h
 | cons x r =>
   rw [Te]
   exact E2 (c := 58) Eh (O0 (by rw [Eh]; decide)) _ _ (by
    rw [← Te (f := tx)]
    intro u hu
    obtain ⟨y, _, rfl⟩ := UW.mp hu
    exact HK y (by decide))
theorem IW {pss : List (List Rat)} (h : pss ≠ []) : Txt.split (E4 pss) EA = pss.map ptx := by
 unfold E4
 cases pss with
 | nil => exact absurd rfl h
 | cons x r =>
   rw [Te]
   exact E2 (c := 44) FV (O0 (by rw [FV]; decide)) _ _ (by
    rw [← Te (f := ptx)]
    intro u hu
    obtain ⟨y, _, rfl⟩ := UW.mp hu
    exact Hz (by rw [Eh]; decide) fun t ht => by
     obtain ⟨z, _, rfl⟩ := UW.mp ht
     exact HK z (by decide))
theorem Ec {qs : List Rat} (h : ∀ q ∈ qs, Fg q) : ∀ t ∈ qs.map tx, t.length ≤ 123 := fun t ht => by
 obtain ⟨x, hx, rfl⟩ := UW.mp ht
 exact MI (h x hx)
theorem Ky {ps : List Rat} (h : ∀ q ∈ ps, Fg q) (h3 : ps.length ≤ 3) : (ptx ps).length ≤ 375 := by
 have := Gr (sep := DE) (by rw [DN]; decide) (Ec h)
 rw [Th] at this
 unfold ptx
 lia
theorem G7 {pss : List (List Rat)} (h : ∀ ps ∈ pss, ∀ q ∈ ps, Fg q) (h3 : P23 pss) : ∀ t ∈ pss.map ptx, t.length ≤ 375 := fun t ht => by
 obtain ⟨x, hx, rfl⟩ := UW.mp ht
 exact Ky (h x hx) (by rcases h3 x hx with z | z <;> lia)
inductive HM (K : SE) (sep : Str) (vs : List V) (H : Hp) (Q : VK) (E_3 : XK) : Prop
 | mk (r : Addr) (xs : List V) (qs : List Rat) (h1 : vs = [.ref r]) (h2 : SqT K H r xs) (h3 : BI K H xs qs) (h4 : (∀ q ∈ qs, Fg q)) (h5 : qs.length ≤ 100) (h6 : ∀ H', Ah H H' → Q (.str (Str.join sep (qs.map tx))) H') : HM K sep vs H Q E_3
inductive Ee (K : SE) (vs : List V) (H : Hp) (Q : VK) (E_3 : XK) : Prop
 | mk (r : Addr) (xs : List V) (pss : List (List Rat)) (h1 : vs = [.ref r]) (h2 : SqT K H r xs) (h3 : Pts K H xs pss) (h4 : P23 pss) (h5 : (∀ ps ∈ pss, ∀ q ∈ ps, Fg q)) (h6 : pss.length ≤ 100) (h7 : ∀ H', Ah H H' → Q (.str (E4 pss)) H') : Ee K vs H Q E_3
inductive FQ (K : SE) (vs : List V) (H : Hp) (Q : VK) (E_3 : XK) : Prop
 | mk (pss : List (List Rat)) (h1 : vs = [.str (E4 pss), .int 6]) (h2 : 1 ≤ pss.length) (h3 : P23 pss) (h4 : (∀ ps ∈ pss, ∀ q ∈ ps, Fg q)) (h5 : (pss.map fun ps => ps.getD 0 0).Nodup) (h6 : (AO pss).length ≤ 12) (h7 : ∀ p xs H', Ah H H' → SqT K H' p xs → AH K H' xs pss → Q (.ref p) H') : FQ K vs H Q E_3
inductive Ef (vs : List V) (H : Hp) (Q : VK) (E_3 : XK) : Prop
 | mk (a : _) (h1 : vs = [.ref a]) (h2 : Pen H a) (h3 : ∀ (q : Rat) (r : Addr) (H' : Hp), Mv a H H' → Pen H' a → H' r = some (nT q) → Fg q → Q (.ref r) H') : Ef vs H Q E_3
inductive Dq (K : SE) (vs : List V) (H : Hp) (Q : VK) (E_3 : XK) : Prop
 | mk (r l : Addr) (xs : List V) (pss : List (List Rat)) (h1 : vs = [.ref r, .ref l]) (h2 : SqT K H r xs) (h3 : Pts K H xs pss) (h4 : P23 pss) (h5 : (∀ ps ∈ pss, ∀ q ∈ ps, Fg q)) (h6 : pss.length ≤ 100) (h7 : ∀ H', Ah H H' → Q (.str (E4 pss)) H') : Dq K vs H Q E_3
inductive FL (K : SE) (vs : List V) (H : Hp) (Q : VK) (E_3 : XK) : Prop
 | mk (l t : Addr) (xs : List V) (h1 : vs = [.ref l, .ref t]) (h2 : SqL K H l xs) (h3 : SqT K H t []) (h4 : Q .non H) : FL K vs H Q E_3
def wd : Nat → Str
 | 0 => "put"
 | 1 => "take"
 | 2 => "height"
 | 3 => "slope"
 | 4 => "noslope"
 | _ => "points"
def loW : Nat → Nat
 | 0 => 2
 | 1 => 1
 | 2 => 2
 | 3 => 2
 | 4 => 1
 | _ => 0
def hiW : Nat → Nat
 | 0 => 3
 | 1 => 1
 | 2 => 2
 | 3 => 2
 | 4 => 1
 | _ => 0
inductive DI (K : SE) (vs : List V) (H : Hp) (Q : VK) (E_3 : XK) : Prop
 | mk (l : Addr) (i : Nat) (qs : List Rat) (h1 : vs = [.ref l]) (h2 : SqL K H l (.str (wd i) :: qs.map fun x => V.str (tx x))) (h3 : i < 6) (h4 : loW i ≤ qs.length) (h5 : qs.length ≤ hiW i) (h6 : (∀ q ∈ qs, Fg q)) (h7 : ∀ (p : Addr) (ys : List V) (H' : Hp), Ah H H' → H p = none → H' p = some (.lst ys) → AJ H' ys qs → Q (.ref p) H') : DI K vs H Q E_3
inductive Chg (pss : List (List Rat)) (qs : List Rat) : Nat → Except Nat (List (List Rat)) → Prop
 | put2 (h : qs.getD 0 0 ∈ pss.map fun ps => ps.getD 0 0) : Chg pss qs 0 (.error 1)
 | putM (h : qs.getD 0 0 ∉ pss.map fun ps => ps.getD 0 0) (ht : 12 < (AO (pss ++ [qs])).length) : Chg pss qs 0 (.error 0)
 | put (h : qs.getD 0 0 ∉ pss.map fun ps => ps.getD 0 0) (ht : (AO (pss ++ [qs])).length ≤ 12) : Chg pss qs 0 (.ok (pss ++ [qs]))
 | far {i : Nat} (hi : 1 ≤ i) (h : qs.getD 0 0 ∉ pss.map fun ps => ps.getD 0 0) : Chg pss qs i (.error 2)
 | only (h : qs.getD 0 0 ∈ pss.map fun ps => ps.getD 0 0) (h1 : pss.length = 1) : Chg pss qs 1 (.error 1)
 | take {m : Nat} {ps : List Rat} (hm : pss[m]? = some ps) (h0 : ps.getD 0 0 = qs.getD 0 0) (h2 : 2 ≤ pss.length) : Chg pss qs 1 (.ok (pss.take m ++ pss.drop (m + 1)))
 | height {m : Nat} {ps : List Rat} (hm : pss[m]? = some ps) (h0 : ps.getD 0 0 = qs.getD 0 0) : Chg pss qs 2 (.ok (pss.set m ([ps.getD 0 0, qs.getD 1 0] ++ ps.drop 2)))
 | slopeM {m : Nat} {ps : List Rat} (hm : pss[m]? = some ps) (h0 : ps.getD 0 0 = qs.getD 0 0) (ht : 12 < (AO (pss.set m (ps.take 2 ++ [qs.getD 1 0]))).length) : Chg pss qs 3 (.error 0)
 | slope {m : Nat} {ps : List Rat} (hm : pss[m]? = some ps) (h0 : ps.getD 0 0 = qs.getD 0 0) (ht : (AO (pss.set m (ps.take 2 ++ [qs.getD 1 0]))).length ≤ 12) : Chg pss qs 3 (.ok (pss.set m (ps.take 2 ++ [qs.getD 1 0])))
 | noslope {m : Nat} {ps : List Rat} (hm : pss[m]? = some ps) (h0 : ps.getD 0 0 = qs.getD 0 0) : Chg pss qs 4 (.ok (pss.set m (ps.take 2)))
inductive Cf (K : SE) (i : Nat) (vs : List V) (H : Hp) (Q : VK) (E_3 : XK) : Prop
 | mk (r l : Addr) (xs ys : List V) (pss pss' : List (List Rat)) (qs : List Rat) (h1 : vs = [.ref r, .ref l]) (h2 : Pok K H r xs pss) (h3 : SqL K H l ys) (h4 : AJ H ys qs) (h5 : loW i ≤ qs.length) (h6 : qs.length ≤ hiW i) (h7 : Chg pss qs i (.ok pss')) (h8 : ∀ (p : Addr) (xs' : List V) (H' : Hp), Ah H H' → SqT K H' p xs' → AH K H' xs' pss' → Q (.ref p) H') : Cf K i vs H Q E_3
inductive Bj (K : SE) (cl : Nat → Addr) (i : Nat) (vs : List V) (H : Hp) (E_2 : VK) (E : XK) : Prop
 | mk (r l : Addr) (xs ys : List V) (pss : List (List Rat)) (n : Nat) (qs : List Rat) (h1 : vs = [.ref r, .ref l]) (h2 : Pok K H r xs pss) (h3 : SqL K H l ys) (h4 : AJ H ys qs) (h5 : loW i ≤ qs.length) (h6 : qs.length ≤ hiW i) (h7 : Chg pss qs i (.error n)) (h8 : ∀ H', Ah H H' → E (.ref (cl n)) none H') : Bj K cl i vs H E_2 E
theorem JX {K : SE} {H : Hp} {t : Addr} {ys : List V} {qs : List Rat} (e : SqT K H t ys) (h : AJ H ys qs) (h2 : 2 ≤ qs.length) : PtT K H (.ref t) qs := by
 cases h with
 | nil => exact absurd h2 (by decide)
 | cons a b =>
   obtain ⟨r, rfl, hr⟩ := a
   exact ⟨t, _, r, rfl, e, Paired.cons (AU.of hr) (AJ.nums b), rfl, hr⟩
theorem Eu {H : Hp} {ys : List V} {qs : List Rat} (h : AJ H ys qs) (h1 : 1 ≤ qs.length) : ∃ r, ys[0]? = some (.ref r) ∧ H r = some (nT (qs.getD 0 0)) := by
 cases h with
 | nil => exact absurd h1 (by decide)
 | cons a b => obtain ⟨r, rfl, hr⟩ := a; exact ⟨r, rfl, hr⟩
theorem Hu {H : Hp} {ys : List V} {qs : List Rat} (h : AJ H ys qs) (h2 : 2 ≤ qs.length) : ∃ r, ys[1]? = some (.ref r) ∧ H r = some (nT (qs.getD 1 0)) := by
 cases h with
 | nil => exact absurd h2 (by decide)
 | cons a b =>
   cases b with
   | nil => exact absurd h2 (by simp)
   | cons a b => obtain ⟨r, rfl, hr⟩ := a; exact ⟨r, rfl, hr⟩
def dk (C dx r : Addr) : HO := .ins C dx [("points", .ref r)]
def But (p : Addr) (H H' : Hp) : Prop := ∀ b o, b ≠ p → H b = some o → H' b = some o
inductive FE (K : SE) (C : Addr) (vs : List V) (H : Hp) (Q : VK) (E_3 : XK) : Prop
 | mk (p dx : Addr) (pss : List (List Rat)) (h1 : vs = [.ref p, .str (E4 pss)]) (h2 : H p = some (.ins C dx [])) (h3 : 1 ≤ pss.length) (h4 : P23 pss) (h5 : (∀ ps ∈ pss, ∀ q ∈ ps, Fg q)) (h6 : (pss.map fun ps => ps.getD 0 0).Nodup) (h7 : (AO pss).length ≤ 12) (h8 : ∀ (r : Addr) (xs : List V) (H' : Hp), But p H H' → H' p = some (dk C dx r) → Pok K H' r xs pss → Q .non H') : FE K C vs H Q E_3
inductive FP (K : SE) (C : Addr) (vs : List V) (H : Hp) (Q : VK) (E_3 : XK) : Prop
 | mk (p dx r : Addr) (xs : List V) (t : Str) (i : Nat) (qs : List Rat) (pss : List (List Rat)) (h1 : vs = [.ref p, .str t]) (h2 : Txt.split t (Str.ofString " ") = wd i :: qs.map tx) (h3 : t.length + 2 ≤ sizeLine) (h4 : H p = some (dk C dx r)) (h5 : Pok K H r xs pss) (h6 : loW i ≤ qs.length) (h7 : qs.length ≤ hiW i) (h8 : (∀ q ∈ qs, Fg q)) (h9 : ((i < 5 ∧ ∃ pss', Chg pss qs i (.ok pss') ∧ ∀ (r' : Addr) (xs' : List V) (H' : Hp), But p H H' → H' p = some (dk C dx r') → SqT K H' r' xs' → AH K H' xs' pss' → Q (.str (Str.ofString "ok")) H') ∨ (i = 5 ∧ (∀ ps ∈ pss, ∀ q ∈ ps, Fg q) ∧ ∀ H', Ah H H' → Q (.str (E4 pss)) H'))) : FP K C vs H Q E_3
theorem Ay.up {P : Program} {w : World} {K : SE} {mg : Str → Option Value} {base : Heap} {CX : CXT} {k n : Nat} {f : Addr} {fd : FuncData} {ps : List Str} {sp : Sp} (F : Ay P w K mg base CX k f fd ps sp) (h : k ≤ n) : Ay P w K mg base CX n f fd ps sp := ⟨F.len, fun A outer s H args us vs Q E hr => F.run A outer s H args us vs Q E (hr.mono h)⟩
theorem SqT.but {K : SE} {H : Hp} {p r C dx : Addr} {fs : List (Str × V)} {xs : List V} {o : HO} (h : SqT K H r xs) (hp : H p = some (.ins C dx fs)) : SqT K (upd H p o) r xs := by
 rcases h with h | h
 ·refine .inl ?_
  rcases h with h | ⟨ob, h⟩
  ·exact .inl (by rw [AA (C5 h hp (by intro z; cases z))]; exact h)
  ·exact .inr ⟨ob, by rw [AA (C5 h hp (by intro z; cases z))]; exact h⟩
 ·exact .inr h
theorem AU.but {K : SE} {H : Hp} {p C dx : Addr} {fs : List (Str × V)} {v : V} {q : Rat} {o : HO} (h : AU K H v q) (hp : H p = some (.ins C dx fs)) : AU K (upd H p o) v q := by
 obtain ⟨r, e, h⟩ := h
 exact ⟨r, e, SqT.but h hp⟩
theorem AH.but {K : SE} {H : Hp} {p C dx : Addr} {fs : List (Str × V)} {xs : List V} {pss : List (List Rat)} {o : HO} (h : AH K H xs pss) (hp : H p = some (.ins C dx fs)) : AH K (upd H p o) xs pss :=
 Paired.mapP h fun _ _ z => by
  obtain ⟨a, us, r, e, hs, hn, h0, hr⟩ := z
  exact ⟨a, us, r, e, SqT.but hs hp, Paired.mapP hn fun _ _ z => AU.but z hp, h0, by rw [AA (C5 hr hp (by intro z; cases z))]; exact hr⟩
inductive EI (K : SE) (cl : Nat → Addr) (C : Addr) (vs : List V) (H : Hp) (E_2 : VK) (E : XK) : Prop
 | mk (p dx r : Addr) (xs : List V) (t : Str) (i : Nat) (qs : List Rat) (pss : List (List Rat)) (n : Nat) (h1 : vs = [.ref p, .str t]) (h2 : Txt.split t (Str.ofString " ") = wd i :: qs.map tx) (h3 : t.length + 2 ≤ sizeLine) (h4 : H p = some (dk C dx r)) (h5 : Pok K H r xs pss) (h6 : loW i ≤ qs.length) (h7 : qs.length ≤ hiW i) (h8 : (∀ q ∈ qs, Fg q)) (h9 : i < 5) (h10 : Chg pss qs i (.error n)) (h11 : ∀ H', Ah H H' → E (.ref (cl n)) none H') : EI K cl C vs H E_2 E
inductive JP (K : SE) (C : Addr) (vs : List V) (H : Hp) (Q : VK) (E_3 : XK) : Prop
 | mk (p dx r : Addr) (xs : List V) (t : Str) (i : Nat) (qs : List Rat) (pss : List (List Rat)) (h1 : vs = [.ref p, .str t]) (h2 : Txt.split t (Str.ofString " ") = wd i :: qs.map tx) (h3 : t.length + 2 ≤ sizeLine) (h4 : H p = some (dk C dx r)) (h5 : Pok K H r xs pss) (h6 : loW i ≤ qs.length) (h7 : qs.length ≤ hiW i) (h8 : (∀ q ∈ qs, Fg q)) (h9 : i < 5) (h10 : ((∃ pss', Chg pss qs i (.ok pss') ∧ ∀ (r' : Addr) (xs' : List V) (H' : Hp), But p H H' → H' p = some (dk C dx r') → SqT K H' r' xs' → AH K H' xs' pss' → Q (.str (Str.ofString "ok")) H') ∨ (∃ n, Chg pss qs i (.error n) ∧ ∀ H', Ah H H' → Q (.str (wd3 n)) H'))) : JP K C vs H Q E_3
theorem MU {t b : Int} {j : Nat} (h1 : 0 < b) (h2 : b ≤ 3) (h3 : t.natAbs ≤ 20) (hj : j ≤ 100) : Fg (U8 t b + (j : Rat)) := by
 have n1 : (U8 t b).num.natAbs ≤ 20 := by rw [← Nm.top_msr (by lia)]; exact SG (PySem.natAbs_fdiv_le t _) h3
 have n2 : (((U8 t b).den : Nat) : Int).natAbs ≤ 3 := by rw [← Nm.bottom_msr (by lia)]; exact SG (PySem.natAbs_fdiv_le b _) (by lia)
 have n3 := (U8 t b).den_pos
 rw [← Nm.plus_eq, Rat.num_natCast, Rat.den_natCast]
 generalize (U8 t b).num = u at n1
 generalize (U8 t b).den = v at n2 n3
 have hm : (j : Int) * (v : Int) ≤ 100 * 3 := Int.mul_le_mul (by lia) (by lia) (by lia) (by decide)
 have hm0 : 0 ≤ (j : Int) * (v : Int) := Int.mul_nonneg (by lia) (by lia)
 exact Kg (by lia) (by lia) (by lia)
inductive FD (K : SE) (vs : List V) (H : Hp) (Q : VK) (E_3 : XK) : Prop
 | mk (a l : Addr) (zs : List V) (qs : List Rat) (h1 : vs = [.ref a, .ref l]) (h2 : Pen H a) (h3 : l ≠ a) (h4 : H l = some (.lst zs)) (h5 : BI K H zs qs) (h6 : qs.length ≤ 50) (h7 : ∀ (r : Addr) (x : Rat) (H' : Hp), Mv a H H' → Pen H' a → H' r = some (nT x) → x ∉ qs → Fg x → Q (.ref r) H') : FD K vs H Q E_3
inductive EK (K : SE) (vs : List V) (H : Hp) (Q : VK) (E_3 : XK) : Prop
 | mk (a : Addr) (most : Int) (h1 : vs = [.ref a, .int most]) (h2 : Pen H a) (h3 : 1 ≤ most) (h4 : most ≤ 12) (h5 : ∀ (r : Addr) (xs : List V) (pss : List (List Rat)) (H' : Hp), Mv a H H' → Pen H' a → Pok K H' r xs pss → (∀ ps ∈ pss, ∀ q ∈ ps, Fg q) → ((AO pss).length : Int) ≤ most → Q (.ref r) H') : EK K vs H Q E_3
inductive JQ (K : SE) (vs : List V) (H : Hp) (Q : VK) (E_3 : XK) : Prop
 | mk (a r : Addr) (xs : List V) (pss : List (List Rat)) (h1 : vs = [.ref a, .ref r]) (h2 : Pen H a) (h3 : Pok K H r xs pss) (h4 : (∀ ps ∈ pss, ∀ q ∈ ps, Fg q)) (h5 : ∀ (t l : Addr) (ys : List V) (i : Nat) (qs : List Rat) (H' : Hp), Mv a H H' → Pen H' a → i < 5 → H' t = some (.tup [.str (wd i), .ref l]) → l ≠ a → H' l = some (.lst ys) → AJ H' ys qs → loW i ≤ qs.length → qs.length ≤ hiW i → (∀ q ∈ qs, Fg q) → Q (.ref t) H') : JQ K vs H Q E_3
def wi : Nat → Nat
 | 0 => 0
 | n + 1 => n
inductive FN (K : SE) (sep : Str) (vs : List V) (H : Hp) (Q : VK) (E_3 : XK) : Prop
 | mk (r : Addr) (xs : List V) (qs : List Rat) (h1 : vs = [.ref r]) (h2 : SqL K H r xs) (h3 : BI K H xs qs) (h4 : (∀ q ∈ qs, Fg q)) (h5 : qs.length ≤ 100) (h6 : ∀ H', Ah H H' → Q (.str (Str.join sep (qs.map tx))) H') : FN K sep vs H Q E_3
theorem ML {lo : Int} {n : Nat} {js : List Nat} {tc : TT} {te : TE} {σ : St} {H : Hp} {Fin : List V → Hp → Prop} (Pv : Nat → List V → Hp → Prop) (h0 : Pv 0 [] H) (hl : ∀ i zs H, i ≤ n → Pv i zs H → zs.length ≤ i) (hz : n ≤ sizeLine)
 (hs : ∀ i zs H, i < n → Pv i zs H → tc ((cS 1 js σ).set 0 (some (.int (lo + i)))) H fun b H3 => if b = true then te ((cS 1 js σ).set 0 (some (.int (lo + i)))) H3 fun y H4 => Pv (i + 1) (zs ++ [y]) H4 else Pv (i + 1) zs H3) (fin : ∀ zs H', Pv n zs H' → Fin zs H') :
 ∃ (n' : Nat) (W : Nat → List V → Hp → Prop), W 0 [] H ∧ LcW (Itr lo n) n' 1 js σ (C6 0) tc te Fin W := by
 refine ⟨n, Pv, h0, ⟨?_, ?_, ?_⟩⟩
 ·intro i zs H' hi p
  have := hl i zs H' (SH hi) p
  exact ⟨hi, by lia⟩
 ·rintro i zs H' x H1 hi p ⟨rfl, rfl⟩
  exact hs i zs _ hi p
 ·intro zs H' p
  have := hl n zs H' (SW _) p
  exact ⟨SW _, by lia, fin zs H' p⟩
def Ce (pss : List (List Rat)) (q : Rat) (n : Nat) : List Nat := (Sx n).filter fun k => decide ((pss.getD k []).getD 0 0 = q)
theorem E1 (pss : List (List Rat)) (q : Rat) (n : Nat) : Ce pss q (n + 1) = Ce pss q n ++ if (pss.getD n []).getD 0 0 = q then [n] else [] := by
 unfold Ce
 rw [List.range_succ, List.filter_append]
 congr 1
 by_cases h : (pss.getD n []).getD 0 0 = q
 ·rw [if_pos h, List.filter_cons_of_pos (by simpa using h)]; rfl
 ·rw [if_neg h, List.filter_cons_of_neg (by simpa using h)]; rfl
theorem JO {pss : List (List Rat)} {q : Rat} (h : q ∉ pss.map fun ps => ps.getD 0 0) : Ce pss q pss.length = [] := by
 unfold Ce
 rw [List.filter_eq_nil_iff]
 intro k hk
 have hk' : k < pss.length := SD.mp hk
 rw [Ud (l := pss), Uj hk']
 intro z
 exact h (UW.mpr ⟨_, Uk hk', of_decide_eq_true z⟩)
theorem Ho {pss : List (List Rat)} {q : Rat} {m : Nat} {ps : List Rat} (hnd : (pss.map fun ps => ps.getD 0 0).Nodup) (hm : pss[m]? = some ps) (h0 : ps.getD 0 0 = q) : ∀ n, Ce pss q n = if m < n ∧ n ≤ pss.length then [m] else if n ≤ pss.length then [] else Ce pss q n
 | 0 => by rw [if_neg (by lia), if_pos (T1 _)]; rfl
 | n + 1 => by
   by_cases hn : n + 1 ≤ pss.length
   ·have ih := Ho hnd hm h0 n
    obtain ⟨us, hus⟩ : ∃ us, pss[n]? = some us := ⟨_, Uj (by lia)⟩
    have eg : (pss.getD n []).getD 0 0 = us.getD 0 0 := by rw [Ud (l := pss), hus]; rfl
    rw [E1, eg]
    by_cases hmn : m < n
    ·rw [if_pos ⟨hmn, by lia⟩] at ih
     have : ¬ us.getD 0 0 = q := fun z => by have := E5 hnd hus hm (by rw [z, h0]); lia
     rw [ih, if_neg this, if_pos ⟨by lia, hn⟩]; rfl
    ·rw [if_neg (fun z => hmn z.1), if_pos (by lia)] at ih
     by_cases he : m = n
     ·subst he
      rw [hm] at hus
      cases hus
      rw [ih, if_pos h0, if_pos ⟨by lia, hn⟩]; rfl
     ·have : ¬ us.getD 0 0 = q := fun z => by have := E5 hnd hus hm (by rw [z, h0]); lia
      rw [ih, if_neg this, if_neg (by lia), if_pos hn]; rfl
   ·rw [if_neg (fun z => hn z.2), if_neg hn]
theorem Ff : ∀ (pss : List (List Rat)), (AO pss).length = (pss.map fun ps => ps.length - 1).sum
 | [] => rfl
 | p :: r => by
   have e : AO (p :: r) = BN p ++ AO r := rfl
   rw [e, TM, Bf, Ff r]; rfl
theorem M3 {pss : List (List Rat)} (h : ∀ ps ∈ pss, 1 ≤ ps.length) : (pss.map fun ps => (ps.length : Int) - 1).sum = ((AO pss).length : Int) := by
 rw [Ff]
 induction pss with
 | nil => rfl
 | cons p r ih =>
   rw [Te, Te, List.sum_cons, List.sum_cons, ih fun ps hp => h ps (SK _ hp)]
   have := h p (SJ ..)
   lia
theorem Fh {pss : List (List Rat)} {m : Nat} {ps : List Rat} {x y : Rat} (hm : pss[m]? = some ps) (h : ps.length = 2 ∨ ps.length = 3) : (AO (pss.set m ([x, y] ++ ps.drop 2))).length = (AO pss).length := by
 have hl := Hm (qs := [x, y] ++ ps.drop 2) hm
 have e : ([x, y] ++ ps.drop 2).length = ps.length := by rw [TM, U0]; show 2 + _ = _; lia
 rw [e] at hl; lia
theorem KA {ps : List Rat} {c : Rat} (h : ps.length = 2 ∨ ps.length = 3) : (ps.take 2 ++ [c]).getD 0 0 = ps.getD 0 0 := by
 match ps, h with
 | _ :: _ :: _, _ => rfl
 | [_], h => simp at h
 | [], h => simp at h
theorem KW {K : SE} {H : Hp} {a b : Addr} {Q : VK} {neg : Bool} (s1 : SqL K H a []) (s2 : SqL K H b []) (h : Q (.bl (!neg)) H) : Fs K neg (.ref a) (.ref b) H Q :=
 IC ⟨.list [], .list [], .lst s1 rfl nofun, .lst s2 rfl nofun, rfl, rfl, by cases neg <;> exact h⟩
theorem KU {K : SE} {H : Hp} {a b : Addr} {m : Int} {Q : VK} {neg : Bool} (s1 : SqL K H a [.int m]) (s2 : SqL K H b []) (h : Q (.bl neg) H) : Fs K neg (.ref a) (.ref b) H Q :=
 IC ⟨.list [.int m], .list [], .lst s1 rfl (fun i x d e1 e2 => by
  match i, e1, e2 with
  | 0, e1, e2 => cases e1; cases e2; exact .int m
  | n + 1, e1, _ => simp at e1), .lst s2 rfl nofun, rfl, rfl, by cases neg <;> exact h⟩
inductive Mf (K : SE) (vs : List V) (H : Hp) (Q : VK) (E_3 : XK) : Prop
 | mk (r l : Addr) (xs ys : List V) (pss : List (List Rat)) (qs : List Rat) (i : Nat) (h1 : vs = [.ref r, .str (wd i), .ref l]) (h2 : Pok K H r xs pss) (h3 : H l = some (.lst ys)) (h4 : AJ H ys qs) (h5 : i < 5) (h6 : loW i ≤ qs.length) (h7 : qs.length ≤ hiW i) (h8 : (∀ (n : Nat) (H' : Hp), Ah H H' → Chg pss qs i (.error n) → Q (.str (wd3 n)) H')) (h9 : (∀ (t : Addr) (xs' : List V) (pss' : List (List Rat)) (H' : Hp), Ah H H' → Chg pss qs i (.ok pss') → SqT K H' t xs' → AH K H' xs' pss' → Q (.ref t) H')) : Mf K vs H Q E_3
theorem Hs {i : Nat} {qs : List Rat} (h : i < 5) : Txt.split (Str.join CF (wd i :: qs.map tx)) (Str.ofString " ") = wd i :: qs.map tx := by
 refine E2 (sep := CF) (c := 32) (w := []) (by decide +kernel) (by decide +kernel) (wd i) (qs.map tx) fun u hu => ?_
 rcases SM.mp hu with z | z
 ·rw [z]
  have hi : i = 0 ∨ i = 1 ∨ i = 2 ∨ i = 3 ∨ i = 4 := by lia
  rcases hi with rfl | rfl | rfl | rfl | rfl <;> decide +kernel
 ·obtain ⟨q, _, rfl⟩ := UW.mp z
  exact HK q (by decide)
theorem Iz {l : List Rat} {k : Nat} (h : k < l.length) : l.getD k 0 ∈ l := by
 rw [Ud, Uj h]; exact Uk h
structure Pq (pss : List (List Rat)) : Prop where
 h23 : P23 pss
 h1 : 1 ≤ pss.length
 nd : (pss.map fun ps => ps.getD 0 0).Nodup
 h12 : (AO pss).length ≤ 12
 fg : ∀ ps ∈ pss, ∀ q ∈ ps, Fg q
theorem Pq.put {pss : List (List Rat)} {m : Nat} {ps qs : List Rat} (h : Pq pss) (hm : pss[m]? = some ps) (he : qs.getD 0 0 = ps.getD 0 0) (h2 : qs.length = 2 ∨ qs.length = 3) (ht : (AO (pss.set m qs)).length ≤ 12) (hq : ∀ q ∈ qs, Fg q) : Pq (pss.set m qs) :=
 ⟨FF h.h23 h2, by rw [U1]; exact h.h1, Iu hm he h.nd, ht, fun p hp q hq' => by
  rcases V1 hp with z | z
  ·exact h.fg p z q hq'
  ·rw [z] at hq'; exact hq q hq'⟩
theorem Chg.pq {pss pss' : List (List Rat)} {qs : List Rat} {i : Nat} (hc : Chg pss qs i (.ok pss')) (h : Pq pss) (h1 : loW i ≤ qs.length) (h2 : qs.length ≤ hiW i) (hq : ∀ q ∈ qs, Fg q) : Pq pss' := by
 cases hc with
 | put hn ht =>
   have h1' : 2 ≤ qs.length := h1
   have h2' : qs.length ≤ 3 := h2
   refine ⟨Dz h.h23 (by lia), by rw [TM]; exact Nat.le_add_left 1 _, ?_, ht, fun p hp q hq' => ?_⟩
   ·rw [UG, V3]
    refine ⟨h.nd, V4 .., fun a ha b hb e => ?_⟩
    rw [V5, Uh] at hb
    exact hn (by rw [← hb, ← e]; exact ha)
   ·rcases SN.mp hp with z | z
    ·exact h.fg p z q hq'
    ·rw [Uh.mp z] at hq'; exact hq q hq'
 | @take m ps hm h0 h2' =>
   have hml := (SQ.mp hm).1
   have e : pss.take m ++ pss.drop (m + 1) = pss.eraseIdx m := List.eraseIdx_eq_take_drop_succ .. |>.symm
   have hmem : ∀ p ∈ pss.take m ++ pss.drop (m + 1), p ∈ pss := fun p hp => by
    rcases SN.mp hp with z | z
    ·exact V0 z
    ·exact List.mem_of_mem_drop z
   refine ⟨fun p hp => h.h23 p (hmem p hp), by rw [TM, Tz, U0]; lia, ?_, ?_, fun p hp => h.fg p (hmem p hp)⟩
   ·rw [e]
    exact ((List.eraseIdx_sublist pss m).map _).nodup h.nd
   ·have h12 := h.h12
    have es : pss = pss.take m ++ (ps :: pss.drop (m + 1)) := by
     have z := List.drop_eq_getElem_cons hml
     rw [← (SQ.mp hm).2, ← z, List.take_append_drop]
    have e2 : (AO pss).length = (AO (pss.take m)).length + ((BN ps).length + (AO (pss.drop (m + 1))).length) := by
     conv => lhs; rw [es]
     rw [DZ, TM]
     show _ + (BN ps ++ AO (pss.drop (m + 1))).length = _
     rw [TM]
    rw [DZ, TM]; lia
 | @height m ps hm h0 =>
   have h1' : 2 ≤ qs.length := h1
   have hp := h.h23 ps (TL hm)
   have hpf := h.fg ps (TL hm)
   refine h.put hm rfl (by rw [TM, U0]; show 2 + _ = 2 ∨ 2 + _ = 3; lia) (by rw [Fh hm hp]; exact h.h12) fun q hq' => ?_
   rcases SN.mp hq' with z | z
   ·rcases SM.mp z with z | z
    ·rw [z]; exact hpf _ (Iz (by lia))
    ·rw [Uh.mp z]; exact hq _ (Iz (by lia))
   ·exact hpf q (List.mem_of_mem_drop z)
 | @slope m ps hm h0 ht =>
   have h1' : 2 ≤ qs.length := h1
   have hp := h.h23 ps (TL hm)
   have hpf := h.fg ps (TL hm)
   refine h.put hm (KA hp) (by rw [TM, Tz]; show _ + 1 = 2 ∨ _ + 1 = 3; lia) ht fun q hq' => ?_
   rcases SN.mp hq' with z | z
   ·exact hpf q (V0 z)
   ·rw [Uh.mp z]; exact hq _ (Iz (by lia))
 | @noslope m ps hm h0 =>
   have hp := h.h23 ps (TL hm)
   have hpf := h.fg ps (TL hm)
   refine h.put hm ?_ (by rw [Tz]; lia) (SG (Ed hm hp) h.h12) fun q hq' => hpf q (V0 hq')
   match ps, hp with
   | _ :: _ :: _, _ => rfl
   | [_], h => simp at h
   | [], h => simp at h
theorem Pok.pq {K : SE} {H : Hp} {r : Addr} {xs : List V} {pss : List (List Rat)} (h : Pok K H r xs pss) (hf : ∀ ps ∈ pss, ∀ q ∈ ps, Fg q) : Pq pss := ⟨h.h23, h.h1, h.nd, h.h12, hf⟩
theorem Pq.pok {K : SE} {H : Hp} {r : Addr} {xs : List V} {pss : List (List Rat)} (h : Pq pss) (hs : SqT K H r xs) (hp : AH K H xs pss) : Pok K H r xs pss := ⟨hs, hp, h.h23, h.h1, h.nd, h.h12⟩
theorem SqT.bt {K : SE} {H H' : Hp} {p r C dx : Addr} {fs : List (Str × V)} {xs : List V} (h : SqT K H r xs) (hb : But p H H') (hp : H p = some (.ins C dx fs)) : SqT K H' r xs := by
 rcases h with h | h
 ·refine .inl ?_
  rcases h with h | ⟨ob, h⟩
  ·exact .inl (hb _ _ (C5 h hp (by intro z; cases z)) h)
  ·exact .inr ⟨ob, hb _ _ (C5 h hp (by intro z; cases z)) h⟩
 ·exact .inr h
theorem AU.bt {K : SE} {H H' : Hp} {p C dx : Addr} {fs : List (Str × V)} {v : V} {q : Rat} (h : AU K H v q) (hb : But p H H') (hp : H p = some (.ins C dx fs)) : AU K H' v q := by
 obtain ⟨r, e, h⟩ := h
 exact ⟨r, e, SqT.bt h hb hp⟩
theorem AH.bt {K : SE} {H H' : Hp} {p C dx : Addr} {fs : List (Str × V)} {xs : List V} {pss : List (List Rat)} (h : AH K H xs pss) (hb : But p H H') (hp : H p = some (.ins C dx fs)) : AH K H' xs pss :=
 Paired.mapP h fun _ _ z => by
  obtain ⟨a, us, r, e, hs, hn, h0, hr⟩ := z
  exact ⟨a, us, r, e, SqT.bt hs hb hp, Paired.mapP hn fun _ _ z => AU.bt z hb hp, h0, hb _ _ (C5 hr hp (by intro z; cases z)) hr⟩
theorem Pen.bt {H H' : Hp} {p a C dx : Addr} {fs : List (Str × V)} (h : Pen H a) (hb : But p H H') (hp : H p = some (.ins C dx fs)) : Pen H' a := by
 obtain ⟨c0, c1, c2, e⟩ := h
 exact ⟨c0, c1, c2, hb _ _ (C5 e hp (by intro z; cases z)) e⟩
theorem Ht : Txt.split (Str.ofString "points") (Str.ofString " ") = wd 5 :: ([] : List Rat).map tx := by
 have e : Str.ofString " " = ⟨#[32]⟩ := by apply FU; rw [Cg]; rfl
 rw [e]
 exact IV (by rw [Cg]; decide +kernel)
theorem Kz : (Str.ofString "points").length + 2 ≤ sizeLine := by decide +kernel
theorem OH (K : SE) : Tn K (.type "tuple") (.type "str") = some false := by kernel_rfl
theorem G0 (i : Nat) (qs : List Rat) (hq : 1 ≤ qs.length) : (wd i ++ Str.ofString " ") ++ Str.join CF (qs.map tx) = Str.join CF (wd i :: qs.map tx) := by
 match qs, hq with
 | q :: r, _ => simp [Str.join, CF]
theorem HU {i : Nat} {qs : List Rat} (hi : i < 5) (hf : ∀ q ∈ qs, Fg q) (hl : qs.length ≤ 3) : (Str.join CF (wd i :: qs.map tx)).length + 2 ≤ sizeLine := by
 have h : ∀ t ∈ wd i :: qs.map tx, t.length ≤ 123 := fun t ht => by
  rcases SM.mp ht with z | z
  ·rw [z]
   have hi : i = 0 ∨ i = 1 ∨ i = 2 ∨ i = 3 ∨ i = 4 := by lia
   rcases hi with rfl | rfl | rfl | rfl | rfl <;> decide
  ·exact Ec hf t z
 have := Gr (sep := CF) (by decide) h
 have hs := sizeLine_eq
 rw [Ta, Th] at this
 have : (qs.length + 1) * (123 + 2) ≤ 4 * 125 := Nat.mul_le_mul (by lia) (SW _)
 lia
section
variable {P : Program} {w : World} {K : SE} {mg : Str → Option Value} {base : Heap}
theorem CC : Ap ["_law_script", "_law_k", "_law_cell"] ["_law_script", "_law_k"] (Ad (top 132)) := ⟨rfl, rfl, rfl, by decide +kernel, rfl, by decide +kernel, by decide +kernel⟩
theorem Ji {f : Addr} {fd : FuncData} (F : Fun K "_law_pen" "_law_pen" (top 132) f fd) (Qz : mg "len" = none) (hT : P.given.tree = none) :
 Ay P w K mg base CX0 33 f fd ["_law_script", "_law_k"] (Md K) := by
 refine F.ok CC (fun vs H Q E h => ?_) (fun cdv A outer s H vs Q E hr h => ?_)
 ·obtain ⟨_, _, _, rfl, _⟩ := h; rfl
 refine ⟨_, (Ae (K := K) (Aq (i := 2) CC.nd rfl (Or.inl rfl) (Ax BA (Ax Cd Af (pv 1)) Af))
  (Ae (K := K) (Aw (K := K) (Ak Ja (pv 1) (Ai (Ct K) rfl Qz Ba (Aa (pv 0) Ab)) (As _)) (Ag (Aq (i := 2) CC.nd rfl (Or.inl rfl) (Au (ixL K) (pv 0) (pv 1) (fun u v => rfl)))) (Ag (Aw (K := K) (Ak Di (Ai (Ct K) rfl Qz Ba (Aa (pv 0) Ab)) Af (As _)) (Ag (Aq (i := 2) CC.nd rfl (Or.inl rfl) (Ax BA (Au (ixL K) (pv 0) (Ax Cj (pv 1) (Ai (Ct K) rfl Qz Ba (Aa (pv 0) Ab))) (fun u v => rfl)) (Ax Cd Af (pv 1))))) Ao (by rfl) (by rfl))) (by rfl) (by rfl))
  (Ae (K := K) (Aw (K := K) (Ak NW (pv 2) (Ax My Af Af) (As _)) (Ag (Aj (Bx (Aa (Ax DA (pv 2) (Ax My Af Af)) (Aa (Ax Cj (pv 2) Af) (Aa Af Ab)))))) Ao (by rfl) (by rfl))
  (Ag (Aj (Bx (Aa Af (Aa (Ax BA (Ax Cj (pv 2) Af) (Ax Cd Af (pv 1))) (Aa Af Ab)))))) (by rfl)) (by rfl)) (by rfl)), ?_⟩
 obtain ⟨a, ns, k, rfl, hS, h63, h0, h62, q⟩ := h
 have hl : (ns.map V.int).length = ns.length := Th _
 have P3 : 3 ≤ sizeLine := by decide
 have C1 : Pe 10 18 := by unfold Pe; decide
 refine ⟨_, rfl, _, _, rfl, rfl, .inl ⟨by decide, by decide⟩, _, _, rfl, rfl, ?_⟩
 refine ⟨_, rfl, _, rfl, a, _, rfl, .inl hS, _, _, rfl, rfl, _, rfl, ?_⟩
 rw [hl]
 have hk1 : k < (ns.length : Int) → ∃ v : Int, atI (ns.map V.int) k = some (.int v) := fun c => Lb h0 c
 have hk2 : 0 < (ns.length : Int) → ∃ v : Int, atI (ns.map V.int) (k % (ns.length : Int)) = some (.int v) := fun c => Lb (Uu _ (by lia)) (Uv _ c)
 refine Iy (fun c => ?_) (fun c => ?_)
 ·obtain ⟨v, hv⟩ := (hk1 (of_decide_eq_true c))
  refine ⟨_, rfl, _, rfl, a, _, _, _, rfl, rfl, hS, hv, ?_⟩
  refine ⟨_, rfl, _, _, rfl, rfl, C1, _, _, rfl, rfl, _, rfl, ?_⟩
  refine Iy (fun c => ?_) (fun c => ?_)
  ·exact ⟨_, rfl, _, _, rfl, rfl, C1, _, _, rfl, rfl, _, rfl, _, _, rfl, rfl, (by first | decide | (dsimp only; decide)), P3, fun p hp => q p _ _ hp⟩
  ·exact ⟨_, rfl, _, _, rfl, rfl, (by first | decide | (dsimp only; decide)), _, rfl, _, _, rfl, rfl, .inl ⟨by decide, by decide⟩, _, _, rfl, rfl, P3, fun p hp => q p _ _ hp⟩
 ·refine ⟨_, rfl, a, _, rfl, .inl hS, _, _, rfl, rfl, _, rfl, ?_⟩
  rw [hl]
  refine Iy (fun c => ?_) (fun c => ?_)
  ·obtain ⟨v, hv⟩ := (hk2 (of_decide_eq_true c))
   have c' : 0 < (((ns.map V.int).length : Nat) : Int) := by rw [hl]; exact of_decide_eq_true c
   rw [← hl] at hv
   refine ⟨_, rfl, _, rfl, _, rfl, a, _, rfl, .inl hS, _, _, rfl, rfl, c', a, _, _, _, rfl, rfl, hS, hv, _, rfl, _, _, rfl, rfl, .inl ⟨by decide, by decide⟩, _, _, rfl, rfl, ?_⟩
   refine ⟨_, rfl, _, _, rfl, rfl, C1, _, _, rfl, rfl, _, rfl, ?_⟩
   refine Iy (fun c => ?_) (fun c => ?_)
   ·exact ⟨_, rfl, _, _, rfl, rfl, C1, _, _, rfl, rfl, _, rfl, _, _, rfl, rfl, (by first | decide | (dsimp only; decide)), P3, fun p hp => q p _ _ hp⟩
   ·exact ⟨_, rfl, _, _, rfl, rfl, (by first | decide | (dsimp only; decide)), _, rfl, _, _, rfl, rfl, .inl ⟨by decide, by decide⟩, _, _, rfl, rfl, P3, fun p hp => q p _ _ hp⟩
  ·refine ⟨_, rfl, _, _, rfl, rfl, C1, _, _, rfl, rfl, _, rfl, ?_⟩
   refine Iy (fun c => ?_) (fun c => ?_)
   ·exact ⟨_, rfl, _, _, rfl, rfl, C1, _, _, rfl, rfl, _, rfl, _, _, rfl, rfl, (by first | decide | (dsimp only; decide)), P3, fun p hp => q p _ _ hp⟩
   ·exact ⟨_, rfl, _, _, rfl, rfl, (by first | decide | (dsimp only; decide)), _, rfl, _, _, rfl, rfl, .inl ⟨by decide, by decide⟩, _, _, rfl, rfl, P3, fun p hp => q p _ _ hp⟩
theorem Cq : Ap ["_law_pen_here", "_law_many", "_law_drawn", "_law_number"] ["_law_pen_here", "_law_many"] (Ad (top 133)) := ⟨rfl, rfl, rfl, by decide +kernel, rfl, by decide +kernel, by decide +kernel⟩
theorem Iq {f : Addr} {fd : FuncData} (F : Fun K "_law_draw" "_law_draw" (top 133) f fd) (hT : P.given.tree = none) :
 Ay P w K mg base CX0 33 f fd ["_law_pen_here", "_law_many"] (EJ) := by
 refine F.ok Cq (fun vs H Q E h => ?_) (fun cdv A outer s H vs Q E hr h => ?_)
 ·obtain ⟨_, _, rfl, _⟩ := h; rfl
 refine ⟨_, (Ae (K := K) (K0 (Ax BA (Au (ixL K) (pv 0) Af (fun u v => rfl)) Af) (Mt (pv 0) Af J0))
  (Ae (K := K) (Aw (K := K) (Ak Di (Au (ixL K) (pv 0) Af (fun u v => rfl)) Af (As _)) (Ae (K := K) (Aq (i := 2) Cq.nd rfl (Or.inl rfl) (Ax Cj (Au (ixL K) (pv 0) Af (fun u v => rfl)) (pv 1)))
  (Ae (K := K) (K0 (Ax (Eo hr hT) (Au (ixL K) (pv 0) Af (fun u v => rfl)) (pv 1)) (Mt (pv 0) Af J0))
  (Ag (Aj (pv 2))) (by rfl)) (by rfl)) Ao (by rfl) (by rfl))
  (Ae (K := K) (Aq (i := 3) Cq.nd rfl (Or.inl rfl) (Ax Cj (Ax Cd (Ax BA (Ax BA (Au (ixL K) (pv 0) Af (fun u v => rfl)) (Ax Cd Af (Au (ixL K) (pv 0) Af (fun u v => rfl)))) Af) Af) Af))
  (Ae (K := K) (Aq (i := 3) Cq.nd rfl (Or.inl rfl) (Ax Cj (Ax Cd (pv 3) (Ax BA (Ax BA (Ax Cj (pv 3) Af) (Au (ixL K) (pv 0) Af (fun u v => rfl))) Af)) Af))
  (Ag (Aj (Ax Cj (Ax (Eo hr hT) (Ax Cj (Ax Cd (pv 3) (Ax BA (Ax Cj (pv 3) Af) Af)) Af) Af) (pv 1)))) (by rfl)) (by rfl)) (by rfl)) (by rfl)), ?_⟩
 obtain ⟨a, m, rfl, ⟨c0, c1, c2, hp⟩, h1, h2, q0⟩ := h
 have q : ∀ d c0' c2' : Int, 0 ≤ d → d < m → Q (.int d) (upd H a (.lst [.int c0', .int c1, .int c2'])) := fun d _ _ h3 h4 => q0 d _ h3 h4 .put .put
 have hm : m ≠ 0 := by lia
 have q' : ∀ (o : HO) (d c0' c2' : Int), 0 ≤ d → d < m → Q (.int d) (upd (upd H a o) a (.lst [.int c0', .int c1, .int c2'])) := fun o d c0' c2' h3 h4 => by rw [Na]; exact q d c0' c2' h3 h4
 refine ⟨_, rfl, a, _, _, _, rfl, rfl, SqL.of hp, rfl, _, _, rfl, rfl, _, rfl, a, _, _, _, rfl, rfl, hp, rfl, ?_⟩
 refine ⟨_, rfl, a, _, _, _, rfl, rfl, SqL.of Ac, rfl, _, _, rfl, rfl, _, rfl, ?_⟩
 refine Iy (fun c => ?_) (fun c => ?_)
 ·refine ⟨_, rfl, a, _, _, _, rfl, rfl, SqL.of Ac, rfl, _, rfl, _, _, rfl, rfl, (by lia : 0 < m), ?_⟩
  refine ⟨_, rfl, a, _, _, _, rfl, rfl, SqL.of Ac, rfl, _, rfl, _, _, rfl, rfl, hm, _, rfl, a, _, _, _, rfl, rfl, Ac, rfl, ?_⟩
  refine ⟨_, rfl, ?_⟩
  exact q' _ _ _ _ (Uu _ (by lia)) (Uv _ (by lia))
 ·have cl : ∀ z : Int, 0 < z → (0 : Int) < z := fun _ h => h
  refine ⟨_, rfl, a, _, _, _, rfl, rfl, SqL.of Ac, rfl, _, rfl, a, _, _, _, rfl, rfl, SqL.of Ac, rfl, _, _, rfl, rfl, .inl ⟨by decide, by decide⟩, _, _, rfl, rfl, _, _, rfl, rfl, _, _, rfl, rfl, .inr (.inl ⟨by decide, by decide⟩), _, _, rfl, rfl, (by first | decide | (dsimp only; decide)), ?_⟩
  have n1 := Uu ((c1 + 40503 * (c2 + 1) + 1) * 48271) (show (2147483647 : Int) ≠ 0 by decide)
  have n2 := Uv ((c1 + 40503 * (c2 + 1) + 1) * 48271) (show (0 : Int) < 2147483647 by decide)
  generalize hN : (c1 + 40503 * (c2 + 1) + 1) * 48271 % 2147483647 = N at n1 n2
  refine ⟨_, rfl, _, rfl, _, _, rfl, rfl, (by first | decide | (dsimp only; decide)), _, rfl, a, _, _, _, rfl, rfl, SqL.of Ac, rfl, _, _, rfl, rfl, _, _, rfl, rfl, _, _, rfl, rfl, .inl ?_, _, _, rfl, rfl, (by first | decide | (dsimp only; decide)), ?_⟩
  ·(try rw [hN]); lia
  try rw [hN]
  have n3 := Uu (N * (N % 65521 + (c2 + 1) + 3)) (show (2147483629 : Int) ≠ 0 by decide)
  have n4 := Uv (N * (N % 65521 + (c2 + 1) + 3)) (show (0 : Int) < 2147483629 by decide)
  generalize N * (N % 65521 + (c2 + 1) + 3) % 2147483629 = M at n3 n4
  refine ⟨_, rfl, _, rfl, _, _, rfl, rfl, (by first | decide | (dsimp only; decide)), _, _, rfl, rfl, _, _, rfl, rfl, .inl ⟨by lia, by lia⟩, _, _, rfl, rfl, (by first | decide | (dsimp only; decide)), _, _, rfl, rfl, (by first | decide | (dsimp only; decide)), _, rfl, _, _, rfl, rfl, (by lia : 0 < m), ?_⟩
  exact q _ _ _ (Uu _ (by lia)) (Uv _ (by lia))
theorem BF : Ap ["_law_top", "_law_bottom", "_law_one", "_law_other"] ["_law_top", "_law_bottom"] (Ad (top 134)) := ⟨rfl, rfl, rfl, by decide +kernel, rfl, by decide +kernel, by decide +kernel⟩
theorem Gi {f : Addr} {fd : FuncData} (F : Fun K "_law_lowest" "_law_lowest" (top 134) f fd) (QI : mg "abs" = none) (hT : P.given.tree = none) :
 Ay P w K mg base CX0 33 f fd ["_law_top", "_law_bottom"] (IY) := by
 refine F.ok BF (fun vs H Q E h => ?_) (fun cdv A outer s H vs Q E hr h => ?_)
 ·obtain ⟨_, _, rfl, _⟩ := h; rfl
 refine ⟨_, (Ae (K := K) (Aq (i := 2) BF.nd rfl (Or.inl rfl) (Ai EB rfl QI II (Aa (pv 0) Ab)))
  (Ae (K := K) (Aq (i := 3) BF.nd rfl (Or.inl rfl) (Ai EB rfl QI II (Aa (pv 1) Ab)))
  (Ae (K := K) (Ek PassesOwn.never (Ak Di (pv 3) Af (As _)) (Ag (Ol (i := 2) (j := 3) rfl BF.nd rfl rfl (by decide) rfl rfl (Aa (pv 3) (Aa (Ax Cj (pv 2) (pv 3)) Ab)) (by with_unfolding_all rfl))))
  (Ae (K := K) (Aw (K := K) (Ak Ja (pv 1) Af (As _)) (Ag (Aq (i := 2) BF.nd rfl (Or.inl rfl) (Ax DA Af (pv 2)))) Ao (by rfl) (by rfl))
  (Ag (Aj (AV (Aa (Ax (Eo hr hT) (pv 0) (pv 2)) (Aa (Ax (Eo hr hT) (pv 1) (pv 2)) Ab))))) (by rfl)) (by rfl)) (by rfl)) (by rfl)), ?_⟩
 obtain ⟨a, b, rfl, hb, q⟩ := h
 refine ⟨_, rfl, a, rfl, ?_⟩
 refine ⟨_, rfl, b, rfl, ?_⟩
 refine IS (L3 H a b fun H a b σ H' => H' = H ∧ ∃ (x y : Int), σ = [some (.int a), some (.int b), some (.int x), some (.int y)] ∧ 0 ≤ x ∧ 0 ≤ y ∧ U7 x y = U7 a b) (fun σ _ => mu 3 σ)
  ⟨rfl, _, _, rfl, ?_, ?_, ?_⟩ ?_ ?_
 ·rw [Nm.abs_if]; exact V6 _
 ·rw [Nm.abs_if]; exact V6 _
 ·rw [Nm.abs_if, Nm.abs_if]; rfl
 ·rintro σ H' hR1
  refine Gy hR1 fun hq1 hz3 => ?_
  refine Ex hz3 fun x y hz3' => ?_
  clear hz3
  refine Gx hz3' fun hq2 hx hy hg => ?_
  clear hz3'
  obtain rfl := hq1
  obtain rfl := hq2
  try clear hR1
  refine ⟨_, rfl, _, _, rfl, rfl, _, rfl, ?_⟩
  by_cases hy0 : y = 0
  ·subst hy0
   refine Bs ?_
   have e : (U7 a b : Int) = x := by rw [← hg, Int.gcd_zero]; lia
   subst e
   refine ⟨_, rfl, _, _, rfl, rfl, _, rfl, ?_⟩
   have hd : Nm.msr a b ≠ 0 := Nm.msr_ne hb
   have fin : ∀ p, H' p = none → Q (.ref p) (upd H' p (.tup [.int (a.fdiv (Nm.msr a b)), .int (b.fdiv (Nm.msr a b))])) := fun p hp => by
    rw [Nm.top_msr hb, Nm.bottom_msr hb]; exact q p hp
   by_cases hb0 : b < 0
   ·have hd' : Nm.msr a b = 0 - (U7 a b : Int) := by unfold Nm.msr; rw [if_pos hb0]; lia
    rw [hd'] at hd fin
    refine Be (by rw [decide_eq_true hb0] <;> rfl) ⟨_, rfl, _, _, rfl, rfl, ?_⟩
    exact ⟨_, rfl, _, rfl, _, _, rfl, rfl, hd, _, rfl, _, rfl, _, _, rfl, rfl, hd, (by decide : 2 ≤ sizeLine), fin⟩
   ·have hd' : Nm.msr a b = (U7 a b : Int) := by unfold Nm.msr; rw [if_neg hb0]
    rw [hd'] at hd fin
    refine AM (by rw [decide_eq_false hb0] <;> rfl) ?_
    exact ⟨_, rfl, _, rfl, _, _, rfl, rfl, hd, _, rfl, _, rfl, _, _, rfl, rfl, hd, (by decide : 2 ≤ sizeLine), fin⟩
  ·have hyp : 0 < y := by lia
   refine Be (by rw [decide_eq_true hyp] <;> rfl) ?_
   refine ⟨_, rfl, _, rfl, _, rfl, _, _, rfl, rfl, hyp, _, _, rfl, ⟨rfl, y, x % y, rfl, hy, Uu _ hy0, ?_⟩, ?_⟩
   ·rw [Nm.gcd_turn]; exact hg
   ·show (x % y).toNat < y.toNat
    have := Uv x hyp
    lia
 ·rintro σ H' Q1 Q2 hm hR2
  obtain ⟨v, e, i, j, e1, e2, k, ek, q1⟩ := hR2
  try clear hR2
  exact ⟨v, e, i, j, e1, e2, k, ek, hm _ _ q1⟩
theorem HR : Ap ["_law_a", "_law_b"] ["_law_a", "_law_b"] (Ad (top 135)) := ⟨rfl, rfl, rfl, by decide +kernel, rfl, by decide +kernel, by decide +kernel⟩
theorem Ip {f : Addr} {fd : FuncData} (F : Fun K "_law_plus" "_law_plus" (top 135) f fd) (QL : Fd P w K mg base 33 "_law_lowest" ["_law_top", "_law_bottom"] (IY)) (hT : P.given.tree = none) :
 Ay P w K mg base CX0 34 f fd ["_law_a", "_law_b"] (Mh K (· + ·)) := by
 refine F.ok HR (fun vs H Q E h => ?_) (fun cdv A outer s H vs Q E hr h => ?_)
 ·obtain ⟨_, _, _, _, _, _, rfl, _⟩ := h; rfl
 refine ⟨_, (Ag (Aj (Az QL hr rfl (Aa (Ax BA (Ax Cd (Au (ixT K) (pv 0) Af (fun u v => rfl)) (Au (ixT K) (pv 1) Af (fun u v => rfl))) (Ax Cd (Au (ixT K) (pv 1) Af (fun u v => rfl)) (Au (ixT K) (pv 0) Af (fun u v => rfl)))) (Aa (Ax Cd (Au (ixT K) (pv 0) Af (fun u v => rfl)) (Au (ixT K) (pv 1) Af (fun u v => rfl))) Ab))))), ?_⟩
 obtain ⟨x, y, p, q, m, n, rfl, ⟨r, rfl, hr⟩, ⟨u, rfl, hu⟩, hp, hq, hmn, k⟩ := h
 refine ⟨_, rfl, r, _, _, _, rfl, rfl, hr, rfl, _, rfl, u, _, _, _, rfl, rfl, hu, rfl, _, _, rfl, rfl, JI.bd hp.1 hq.2, _, rfl, u, _, _, _, rfl, rfl, hu, rfl, _, rfl, r, _, _, _, rfl, rfl, hr, rfl, _, _, rfl, rfl, JI.bd hq.1 hp.2, _, _, rfl, rfl, ?_⟩
 refine ⟨_, rfl, r, _, _, _, rfl, rfl, hr, rfl, _, rfl, u, _, _, _, rfl, rfl, hu, rfl, _, _, rfl, rfl, JI.bd hp.2 hq.2, ?_⟩
 refine ⟨_, _, rfl, Int.mul_ne_zero (Nm.den_ne p) (Nm.den_ne q), fun z hz => ?_⟩
 have e := k z hz
 try dsimp only at e
 rw [← Nm.plus_eq] at e
 exact e
theorem CH : Ap ["_law_pen_here", "_law_places", "_law_x"] ["_law_pen_here", "_law_places"] (Ad (top 140)) := ⟨rfl, rfl, rfl, by decide +kernel, rfl, by decide +kernel, by decide +kernel⟩
theorem GZ {f : Addr} {fd : FuncData} (F : Fun K "_law_fresh" "_law_fresh" (top 140) f fd) (QL : Fd P w K mg base 33 "_law_lowest" ["_law_top", "_law_bottom"] (IY)) (RD : Fd P w K mg base 34 "_law_plus" ["_law_a", "_law_b"] (Mh K (· + ·))) (QD : Fd P w K mg base 33 "_law_draw" ["_law_pen_here", "_law_many"] (EJ)) (hT : P.given.tree = none) :
 Ay P w K mg base CX0 35 f fd ["_law_pen_here", "_law_places"] (FD K) := by
 refine F.ok CH (fun vs H Q E h => ?_) (fun cdv A outer s H vs Q E hr h => ?_)
 ·obtain ⟨_, _, _, _, rfl, _⟩ := h; rfl
 refine ⟨_, (Ae (K := K) (Aq (i := 2) CH.nd rfl (Or.inl rfl) (Az QL hr rfl (Aa (Ax DA (Az QD hr rfl (Aa (pv 0) (Aa Af Ab))) Af) (Aa (Ax BA Af (Az QD hr rfl (Aa (pv 0) (Aa Af Ab)))) Ab))))
  (Ae (K := K) (Ek PassesOwn.never (Ak (inD K hr) (pv 2) (pv 1) (by with_unfolding_all rfl)) (Ag (Aq (i := 2) CH.nd rfl (Or.inl rfl) (Az RD hr rfl (Aa (pv 2) (Aa (AV (Aa Af (Aa Af Ab))) Ab))))))
  (Ag (Aj (pv 2))) (by rfl)) (by rfl)), ?_⟩
 obtain ⟨a, l, zs, qs, rfl, pn, la, el, hz, h50, q⟩ := h
 have P2 : 2 ≤ sizeLine := by decide
 refine ⟨_, rfl, a, 41, rfl, pn, by decide, by decide, fun d H1 d0 d1 o1 p1 => ⟨_, _, rfl, rfl, _, rfl, a, 3, rfl, p1, by decide, by decide, fun e H2 e0 e1 o2 p2 => ⟨_, _, rfl, rfl, _, _, rfl, by lia, fun r hr => ?_⟩⟩⟩
 have m2 : Mv a H (upd H2 r (nT (U8 (d - 20) (1 + e)))) := (o1.mv.trans o2.mv).trans (Mv.new hr)
 have p3 := p2.same (o := nT (U8 (d - 20) (1 + e))) hr
 have hr0 : upd H2 r (nT (U8 (d - 20) (1 + e))) r = some (nT (U8 (d - 20) (1 + e))) := Ac
 have el3 := m2 _ _ la el
 have hz3 := BI.mv hz pn m2
 generalize upd H2 r (nT (U8 (d - 20) (1 + e))) = H3 at m2 p3 hr0 el3 hz3 ⊢
 refine ⟨fun μ σ H4 => Ah H3 H4 ∧ ∃ (r : Addr) (x : Rat) (j : Nat), σ = [some (.ref a), some (.ref l), some (.ref r)] ∧ H4 r = some (nT x) ∧ x = U8 (d - 20) (1 + e) + (j : Rat) ∧ μ = cnt x qs ∧ j + cnt x qs ≤ qs.length,
  ⟨_, Ah.refl _, r, _, 0, rfl, hr0, (by have z : ((0 : Nat) : Rat) = 0 := rfl; rw [z]; grind), rfl, by have := N0 (U8 (d - 20) (1 + e)) qs; lia⟩, ?_⟩
 rintro μ σ H4 hR1
 refine Gy hR1 fun s4 hz7 => ?_
 refine IB hz7 fun r' x j hz7' => ?_
 clear hz7
 refine LS hz7' fun hq5 hr' hx hq6 hj => ?_
 clear hz7'
 obtain rfl := hq5
 obtain rfl := hq6
 try clear hR1
 have hfg : Fg x := by rw [hx]; exact MU (by lia) (by lia) (by lia) (by lia)
 have hxb : RB 20 x := ⟨by unfold Bd; exact UP hfg.1 (by decide), by unfold Bd; have := hfg.2; lia⟩
 refine ⟨_, rfl, _, rfl, ?_⟩
 refine inN (AU.of hr') (SqL.of (s4 _ _ el3)) (BI.same hz3 s4) ?_
 refine ⟨_, rfl, ?_⟩
 by_cases hin : x ∈ qs
 ·refine Be (by rw [decide_eq_true hin] <;> rfl) ⟨_, fun _ _ h => h, ?_⟩
  refine ⟨_, rfl, P2, fun t ht => ⟨_, _, _, _, 20, 1, rfl, AU.of ((Ah.new ht) _ _ hr'), AU.of (Ac (o := nT 1)), hxb, RB.one (by decide), by lia, fun u hu => ?_⟩⟩
  refine ⟨_, Ki hin, (s4.trans (Ah.new ht)).trans (Ah.new hu), u, x + 1, j + 1, rfl, Ac, ?_, rfl, by have := Ki hin; lia⟩
  rw [hx, Rat.natCast_add]
  have z : ((1 : Nat) : Rat) = 1 := rfl
  rw [z]; grind
 ·exact AM (by rw [decide_eq_false hin] <;> rfl) ⟨_, rfl, q r' x H4 (m2.trans s4.mv) (p3.sm s4) hr' hin hfg⟩
theorem Du : Ap ["_law_pen_here", "_law_way"] ["_law_pen_here"] (Ad (top 139)) := ⟨rfl, rfl, rfl, by decide +kernel, rfl, by decide +kernel, by decide +kernel⟩
theorem Gj {f : Addr} {fd : FuncData} (F : Fun K "_law_little" "_law_little" (top 139) f fd) (QD : Fd P w K mg base 33 "_law_draw" ["_law_pen_here", "_law_many"] (EJ)) (QL : Fd P w K mg base 33 "_law_lowest" ["_law_top", "_law_bottom"] (IY)) (hT : P.given.tree = none) :
 Ay P w K mg base CX0 34 f fd ["_law_pen_here"] (Ef) := by
 refine F.ok Du (fun vs H Q E h => ?_) (fun cdv A outer s H vs Q E hr h => ?_)
 ·obtain ⟨_, rfl, _⟩ := h; rfl
 refine ⟨_, (Ae (K := K) (Aq (i := 1) Du.nd rfl (Or.inl rfl) (Az QD hr rfl (Aa (pv 0) (Aa Af Ab))))
  (Ae (K := K) (Aw (K := K) (Ak Ja (pv 1) Af (As _)) (Ag (Aj (Az QL hr rfl (Aa (Ax DA (Az QD hr rfl (Aa (pv 0) (Aa Af Ab))) Af) (Aa (Ax BA Af (Az QD hr rfl (Aa (pv 0) (Aa (Au (ixL K) (Bx (Aa Af (Aa Af (Aa Af Ab)))) (pv 1) (fun u v => rfl)) Ab)))) Ab))))) Ao (by rfl) (by rfl))
  (Ag (Aj (Az QL hr rfl (Aa (Ax DA (Az QD hr rfl (Aa (pv 0) (Aa Af Ab))) Af) (Aa (Ax BA Af (Az QD hr rfl (Aa (pv 0) (Aa Af Ab)))) Ab))))) (by rfl)) (by rfl)), ?_⟩
 obtain ⟨a, rfl, pn, q⟩ := h
 refine ⟨_, rfl, a, 4, rfl, pn, by decide, by decide, fun w H1 w0 w1 o1 p1 => ?_⟩
 refine ⟨_, rfl, _, _, rfl, rfl, _, rfl, ?_⟩
 refine Iy (fun c => ?_) (fun c => ?_)
 ·refine ⟨_, rfl, a, 21, rfl, p1, by decide, by decide, fun d H2 d0 d1 o2 p2 => ⟨_, _, rfl, rfl, ?_⟩⟩
  refine ⟨_, rfl, (by decide : 3 ≤ sizeLine), fun l hl => ?_⟩
  have c' := of_decide_eq_true c
  obtain ⟨v, hv, hm⟩ := (NJ (xs := [1, 1, 6]) (i := w) w0 c')
  have hv1 : 1 ≤ v ∧ v ≤ 6 := by
   simp at hm; lia
  refine ⟨_, rfl, l, _, _, _, rfl, rfl, SqL.of Ac, hv, ?_⟩
  refine ⟨a, v, rfl, p2.same hl, by lia, by lia, fun e H3 e0 e1 o3 p3 => ⟨_, _, rfl, rfl, _, _, rfl, by lia, fun r hr => ?_⟩⟩
  exact q _ r _ (o1.mv.trans (o2.mv.trans ((Mv.new hl).trans (o3.mv.trans (Mv.new hr))))) (p3.same hr) Ac (Kg (by lia) (by lia) (by lia))
 refine ⟨_, rfl, a, 1999999, rfl, p1, by decide, by decide, fun d H2 d0 d1 o2 p2 => ⟨_, _, rfl, rfl, ?_⟩⟩
 refine ⟨_, rfl, a, 999, rfl, p2, by decide, by decide, fun e H3 e0 e1 o3 p3 => ⟨_, _, rfl, rfl, _, _, rfl, by lia, fun r hr => ?_⟩⟩
 exact q _ r _ (o1.mv.trans (o2.mv.trans (o3.mv.trans (Mv.new hr)))) (p3.same hr) Ac (Kg (by lia) (by lia) (by lia))
theorem AZ : Ap ["_law_pen_here", "_law_most", "_law_room", "_law_found", "_law_point"] ["_law_pen_here", "_law_most"] (Ad (top 141)) := ⟨rfl, rfl, rfl, by decide +kernel, rfl, by decide +kernel, by decide +kernel⟩
theorem DR {f : Addr} {fd : FuncData} (F : Fun K "_law_desk_points" "_law_desk_points" (top 141) f fd) (QD : Fd P w K mg base 33 "_law_draw" ["_law_pen_here", "_law_many"] (EJ)) (QV : Fd P w K mg base 35 "_law_fresh" ["_law_pen_here", "_law_places"] (FD K)) (QO : Fd P w K mg base 34 "_law_little" ["_law_pen_here"] (Ef)) (QB : mg "tuple" = none) (Qz : mg "len" = none) (hT : P.given.tree = none) :
 Ay P w K mg base CX0 36 f fd ["_law_pen_here", "_law_most"] (EK K) := by
 refine F.ok AZ (fun vs H Q E h => ?_) (fun cdv A outer s H vs Q E hr h => ?_)
 ·obtain ⟨_, _, rfl, _⟩ := h; rfl
 refine ⟨_, (Ae (K := K) (Aq (i := 2) AZ.nd rfl (Or.inl rfl) (Ax BA Af (Az QD hr rfl (Aa (pv 0) (Aa (pv 1) Ab)))))
  (Ae (K := K) (Aq (i := 3) AZ.nd rfl (Or.inl rfl) (Bx Ab))
  (Ae (K := K) (Ek PassesOwn.never (Ak Di (pv 2) Af (As _)) (Ae (K := K) (Aq (i := 4) AZ.nd rfl (Or.inl rfl) (AV (Aa (Az QV hr rfl (Aa (pv 0) (Aa (Ck rfl (N := ["_law_one"]) (nt := 1) (js := []) (AX.look (NX := ["_law_pen_here", "_law_most", "_law_room", "_law_found", "_law_point"]) (sc := Ad (top 141)) rfl rfl (by decide +kernel)) (piL K (pv 3)) (fun u1 u2 u3 u4 u5 => (AL (i := 0) (show List.Nodup (["_law_one"] : List Str) from by decide +kernel) rfl (Or.inl rfl))) (AK (by decide)) (fun u1 u2 u3 u4 u5 => Bi) (fun u1 u2 u3 u4 u5 => (Au (ixT K) (pv 0) Af (fun u v => rfl)))) Ab))) (Aa (Az QO hr rfl (Aa (pv 0) Ab)) Ab))))
  (Ae (K := K) (Aw (K := K) (PW.pt (JW (Ak Di (pv 2) Af (As _)) (HV (Ak BH (Az QD hr rfl (Aa (pv 0) (Aa Af Ab))) Af (As _))))) (Ag (Aq (i := 4) AZ.nd rfl (Or.inl rfl) (Ax (Qu K) (pv 4) (AV (Aa (Az QO hr rfl (Aa (pv 0) Ab)) Ab))))) Ao (by rfl) (by rfl))
  (Ae (K := K) (Aq (i := 2) AZ.nd rfl (Or.inl rfl) (Ax BA (Ax DA (pv 2) (Ai (Ct K) rfl Qz Ba (Aa (pv 4) Ab))) Af))
  (Ag (Dc (BR K PySem.F.plainAttrs_list PySem.F.slot_list_append PySem.F.type_list_append CW (pv 3) (Aa (pv 4) Ab)))) (by rfl)) (by rfl)) (by rfl)))
  (Ag (Aj (AN (Dk K) rfl QB Bz (Aa (pv 3) Ab)))) (by rfl)) (by rfl)) (by rfl)), ?_⟩
 obtain ⟨a, most, rfl, pn, h1, h12, q⟩ := h
 have P0 : 0 ≤ sizeLine := by decide
 have P1 : 1 ≤ sizeLine := by decide
 have P2 : 2 ≤ sizeLine := by decide
 refine ⟨_, rfl, _, rfl, a, most, rfl, pn, by lia, by lia, fun d H1 d0 d1 o1 p1 => ⟨_, _, rfl, rfl, P0, fun f hf => ?_⟩⟩
 have fa : f ≠ a := p1.ne' hf
 have hfH : H f = none := Mv.free o1.mv fa hf
 refine ⟨fun μ σ H' => Mv a H H' ∧ Pen H' a ∧ ∃ (zs : List V) (pss : List (List Rat)) (R : Int) (z4 : Option V), σ = [some (.ref a), some (.int most), some (.int R), some (.ref f), z4] ∧ H' f = some (.lst zs) ∧ AH K H' zs pss ∧ P23 pss ∧ (pss.map fun ps => ps.getD 0 0).Nodup ∧ (∀ ps ∈ pss, ∀ q ∈ ps, Fg q) ∧ ((AO pss).length : Int) + R = 1 + d ∧ 0 ≤ R ∧ (R = 0 → 1 ≤ pss.length) ∧ μ = R.toNat,
  ⟨_, Mv.put' o1.mv hfH, p1.same hf, [], [], 1 + d, none, rfl, Ac, .nil, (fun _ h => nomatch h), List.nodup_nil, (fun _ h => nomatch h), (by show ((0 : Nat) : Int) + _ = _; lia), by lia, fun z => by lia, rfl⟩, ?_⟩
 rintro μ σ H2 hR1
 refine ED hR1 fun mv pn2 hz10 => ?_
 refine PY hz10 fun zs pss R z4 hz10' => ?_
 clear hz10
 refine Q9 hz10' fun hq8 ef hp h23 hnd hfg hR R0 hne hq9 => ?_
 clear hz10'
 obtain rfl := hq8
 obtain rfl := hq9
 try clear hR1
 have g12 := BS h23
 have hzl := hp.length
 refine ⟨_, rfl, _, _, rfl, rfl, _, rfl, ?_⟩
 by_cases hR0 : R > 0
 ·refine Be (by rw [decide_eq_true hR0] <;> rfl) ⟨_, fun _ _ h => h, ?_⟩
  refine ⟨_, rfl, BX ⟨_, rfl, f, rfl, ⟨_, SqL.of ef⟩, Iv (xs := zs) (L3 H2 K pss fun H2 K pss i ys H' => H' = H2 ∧ ys.length = i ∧ BI K H2 ys ((pss.map fun ps => ps.getD 0 0).take i)) ⟨rfl, rfl, .nil⟩ (fun i ys H' _ h => ⟨by rw [h.1]; exact SqL.of ef, h.2.1⟩) (SH (AF (by lia))) ?_ ?_⟩⟩
  ·rintro i v ys H' hv ⟨rfl, hyl, hyn⟩
   obtain ⟨ps, hps, a', us, rr, rfl, hs, hn, h0, hr⟩ := (Paired.get hp hv)
   refine ⟨_, rfl, a', us, _, .ref rr, rfl, rfl, hs, Ar (j := 0) h0, rfl, by simp [hyl], ?_⟩
   rw [UL, TJ, hps]
   exact Paired.snoc hyn (AU.of hr)
  rintro ys H' ⟨rfl, hyl, hyn⟩ l hl
  rw [Ut (by rw [Th]; lia)] at hyn
  have sl := Ah.new (o := .lst ys) hl
  have ef1 := sl _ _ ef
  have hp1 := AH.same hp sl
  have pn1 := pn2.sm sl
  have mv1 := mv.trans sl.mv
  have la : l ≠ a := pn2.ne' hl
  refine ⟨a, l, ys, _, rfl, pn1, la, Ac, BI.same hyn sl, by rw [Th]; lia, fun rx x H3 m3 p3 ex hx hfx => ⟨_, rfl, a, rfl, p3, fun y ry H4 m4 p4 ey hfy => ⟨P2, fun t ht => ?_⟩⟩⟩
  have ex4 := m4 _ _ (p3.ne ex (Jm x)) ex
  have st := Ah.new (o := .tup [.ref rx, .ref ry]) ht
  have m15 := (m3.trans m4).trans st.mv
  have p5 := p4.sm st
  have ef5 := m15 _ _ fa ef1
  have hp5 := AH.mv hp1 pn1 m15
  have mv5 := mv1.trans m15
  have hpt : PtT K (upd H4 t (.tup [.ref rx, .ref ry])) (.ref t) [x, y] := ⟨t, _, rx, rfl, SqT.of Ac, .cons (AU.of (st _ _ ex4)) (.cons (AU.of (st _ _ ey)) .nil), rfl, st _ _ ex4⟩
  generalize upd H4 t (.tup [.ref rx, .ref ry]) = H5 at p5 ef5 hp5 mv5 hpt ⊢
  clear ex4 st m15 ht ef1 hp1 mv1 pn1 hyn hyl sl hl la m3 m4 p3 p4 ex ey
  try dsimp only
  refine EM (L9 a H f zs K pss most R x fun a H f zs K pss most R x σ' H' => Mv a H H' ∧ Pen H' a ∧ H' f = some (.lst zs) ∧ AH K H' zs pss ∧ ∃ (t : Addr) (ps : List Rat), σ' = [some (.ref a), some (.int most), some (.int R), some (.ref f), some (.ref t)] ∧ PtT K H' (.ref t) ps ∧ ps.getD 0 0 = x ∧ (ps.length = 2 ∨ ps.length = 3 ∧ 1 < R) ∧ ∀ q ∈ ps, Fg q) (fun nx hnx => ?_) ?_
  ·refine ⟨_, rfl, _, _, rfl, rfl, _, rfl, ?_⟩
   have fin2 : ∀ H', Mv a H H' → Pen H' a → H' f = some (.lst zs) → AH K H' zs pss → PtT K H' (.ref t) [x, y] → nx [some (.ref a), some (.int most), some (.int R), some (.ref f), some (.ref t)] H' := fun H' u1 u2 u3 u4 u5 => hnx _ _ ⟨u1, u2, u3, u4, t, [x, y], rfl, u5, rfl, .inl rfl, fun c hc => by
    rcases SM.mp hc with z | z
    ·rw [z]; exact hfx
    ·rw [Uh.mp z]; exact hfy⟩
   by_cases hR1 : (1 : Int) < R
   ·refine Be (by rw [decide_eq_true hR1] <;> rfl) ⟨_, rfl, a, 4, rfl, p5, by decide, by decide, fun e H6 e0 e1 o6 p6 => ⟨rfl, _, rfl, ?_⟩⟩
    have hpt6 := PtT.mv hpt p5 o6.mv
    have ef6 := o6.mv _ _ fa ef5
    have hp6 := AH.mv hp5 p5 o6.mv
    by_cases he : V.int e = V.int 0
    ·refine Be (by rw [decide_eq_true he] <;> rfl) ⟨_, rfl, _, rfl, a, rfl, p6, fun z rz H7 m7 p7 ez hfz => ⟨P1, fun t1 ht1 => ?_⟩⟩
     have s8 := Ah.new (o := .tup [.ref rz]) ht1
     refine IB (PtT.same (PtT.mv hpt6 p6 m7) s8) fun t' us rr hz13' => ?_
     refine LS hz13' fun et hs hn h0 hr => ?_
     clear hz13'
     cases et
     have hul := hn.length
     refine ⟨t, t1, us, _, rfl, rfl, hs, SqT.of Ac, (fun z => by rw [z] at hul; cases hul), by show us.length + 1 ≤ _; rw [hul]; exact (show 3 ≤ sizeLine by decide), nofun, fun _ t2 ht2 => ?_⟩
     have s9 := Ah.new (o := .tup (us ++ [.ref rz])) ht2
     have m9 := (m7.trans s8.mv).trans s9.mv
     refine hnx _ _ ⟨(mv5.trans o6.mv).trans m9, (p7.sm s8).sm s9, m9 _ _ fa ef6, AH.mv hp6 p6 m9, t2, [x, y] ++ [z], rfl, ⟨t2, us ++ [.ref rz], rr, rfl, SqT.of Ac, Paired.snoc (BI.same hn s9) (AU.of (s9 _ _ (s8 _ _ ez))), by rw [TH (by rw [hul]; exact Nat.zero_lt_two)]; exact h0, s9 _ _ hr⟩, rfl, .inr ⟨rfl, hR1⟩, fun c hc => ?_⟩
     rcases SN.mp hc with u | u
     ·rcases SM.mp u with u | u
      ·rw [u]; exact hfx
      ·rw [Uh.mp u]; exact hfy
     ·rw [Uh.mp u]; exact hfz
    ·exact AM (by rw [decide_eq_false he] <;> rfl) (fin2 _ (mv5.trans o6.mv) p6 ef6 hp6 hpt6)
   ·exact AM (by rw [decide_eq_false hR1] <;> rfl) (fin2 _ mv5 p5 ef5 hp5 hpt)
  rintro σ' H6 hR2
  obtain ⟨mv6, p6, ef6, hp6, t, ps, rfl, hpt6, hx0, hps, hpf⟩ := hR2
  try clear hR2
  refine IB (id hpt6) fun t' us rr hz16' => ?_
  refine LS hz16' fun et hs hn h0 hr => ?_
  clear hz16'
  cases et
  have hul := hn.length
  refine ⟨_, rfl, _, rfl, t, us, rfl, .inr hs, _, _, rfl, rfl, _, _, rfl, rfl, ?_⟩
  refine ⟨_, rfl, .inl ⟨rfl, _, SqL.of ef6⟩, _, rfl, f, zs, .ref t, rfl, rfl, ef6, AF (by lia), ?_⟩
  have hts : (AO (pss ++ [ps])).length = (AO pss).length + (ps.length - 1) := by
   rw [DZ, TM]
   congr 1
   rcases hps with z | ⟨z, _⟩
   ·match ps, z with
    | [_, _], _ => rfl
   ·match ps, z with
    | [_, _, _], _ => rfl
  refine ⟨_, ?_, Mv.put' mv6 hfH, p6.put' fa, zs ++ [.ref t], pss ++ [ps], _, _, rfl, Ac, Paired.snoc (AH.put hp6 ef6) (PtT.put hpt6 ef6), Dz h23 (by rcases hps with z | ⟨z, _⟩; exact .inl z; exact .inr z), ?_, ?_, ?_, ?_, fun _ => by rw [TM]; exact Nat.le_add_left 1 _, rfl⟩
  ·rw [hul]; lia
  ·rw [UG, V3]
   refine ⟨hnd, V4 .., fun b hb c hc e => ?_⟩
   rw [V5, Uh, hx0] at hc
   exact hx (by rw [← hc, ← e]; exact hb)
  ·intro p hp q hq
   rcases SN.mp hp with z | z
   ·exact hfg p z q hq
   ·rw [Uh.mp z] at hq; exact hpf q hq
  ·rw [hts, hul]; lia
  ·rw [hul]; lia
 refine AM (by rw [decide_eq_false hR0] <;> rfl) ?_
 refine ⟨_, rfl, f, zs, rfl, .inl ⟨SqL.of ef, fun r hr => ?_⟩⟩
 have s := Ah.new (o := .tup zs) hr
 have hR00 : R = 0 := by lia
 exact q r zs pss _ (mv.trans s.mv) (pn2.sm s) ⟨SqT.of Ac, AH.same hp s, h23, hne hR00, hnd, by lia⟩ hfg (by lia)
theorem HQ : Ap ["_law_number"] ["_law_number"] (Ad (top 136)) := ⟨rfl, rfl, rfl, by decide +kernel, rfl, by decide +kernel, by decide +kernel⟩
theorem Im {f : Addr} {fd : FuncData} (F : Fun K "_law_text" "_law_text" (top 136) f fd) (QC : mg "str" = none) (hT : P.given.tree = none) :
 Ay P w K mg base CX0 33 f fd ["_law_number"] (EH K) := by
 refine F.ok HQ (fun vs H Q E h => ?_) (fun cdv A outer s H vs Q E hr h => ?_)
 ·obtain ⟨_, _, rfl, _⟩ := h; rfl
 refine ⟨_, (Ae (K := K) (Aw (K := K) (Ak BH (Au (ixT K) (pv 0) Af (fun u v => rfl)) Af (As _)) (Ag (Aj (AN BM rfl QC CJ (Aa (Au (ixT K) (pv 0) Af (fun u v => rfl)) Ab)))) Ao (by rfl) (by rfl))
  (Ag (Aj (Ax C9 (Ax C9 (AN BM rfl QC CJ (Aa (Au (ixT K) (pv 0) Af (fun u v => rfl)) Ab)) AD) (AN BM rfl QC CJ (Aa (Au (ixT K) (pv 0) Af (fun u v => rfl)) Ab))))) (by rfl)), ?_⟩
 obtain ⟨x, q, rfl, ⟨r, rfl, hr'⟩, hf, q0⟩ := h
 have hd := hf.2
 have hs := sizeLine_eq
 have l1 := E6 hf.1
 have l2 := E6 (i := (q.den : Int)) (by lia)
 refine ⟨_, rfl, r, _, _, _, rfl, rfl, hr', rfl, rfl, _, rfl, ?_⟩
 by_cases h1 : q.den = 1
 ·have e : tx q = txI q.num := if_pos h1
  rw [e] at q0
  exact Be (by rw [decide_eq_true (show V.int (q.den : Int) = V.int 1 by rw [h1]; rfl)] <;> rfl) ⟨_, rfl, r, _, _, _, rfl, rfl, hr', rfl, _, rfl, EV hf.1, q0⟩
 ·have e : tx q = txI q.num ++ Str.ofString "/" ++ txI q.den := if_neg h1
  rw [e] at q0
  rw [decide_eq_false (fun z => h1 (by have := V.int.inj z; lia))]
  have l3 : (Str.ofString "/").length = 1 := by rw [AI, Cg]; rfl
  have l4 : (txI q.num ++ Str.ofString "/").length = (txI q.num).length + 1 := by rw [AI, Bq, TM, ← AI, ← AI, l3]
  refine Bs ⟨_, rfl, r, _, _, _, rfl, rfl, hr', rfl, _, rfl, EV hf.1, _, _, rfl, rfl, ?_, _, rfl, r, _, _, _, rfl, rfl, hr', rfl, _, rfl, EV (by lia), _, _, rfl, rfl, ?_, q0⟩
  ·show (txI q.num).length + (Str.ofString "/").length ≤ sizeLine
   lia
  ·show (txI q.num ++ Str.ofString "/").length + (txI q.den).length ≤ sizeLine
   lia
theorem DO : Ap ["_law_points"] ["_law_points"] (Ad (top 138)) := ⟨rfl, rfl, rfl, by decide +kernel, rfl, by decide +kernel, by decide +kernel⟩
theorem DQ {f : Addr} {fd : FuncData} (F : Fun K "_law_points_text" "_law_points_text" (top 138) f fd) (QW : Fd P w K mg base 33 "_law_text" ["_law_number"] (EH K)) (hT : P.given.tree = none) :
 Ay P w K mg base CX0 34 f fd ["_law_points"] (Ee K) := by
 refine F.ok DO (fun vs H Q E h => ?_) (fun cdv A outer s H vs Q E hr h => ?_)
 ·obtain ⟨_, _, _, rfl, _⟩ := h; rfl
 refine ⟨_, (Ag (Aj (BR K PySem.F.plainAttrs_str PySem.F.slot_str_join PySem.F.type_str_join (Ew K) AD (Aa (Ck rfl (N := ["_law_point"]) (nt := 1) (js := []) (AX.look (NX := ["_law_points"]) (sc := Ad (top 138)) rfl rfl (by decide +kernel)) (piT K (pv 0)) (fun u1 u2 u3 u4 u5 => (AL (i := 0) (show List.Nodup (["_law_point"] : List Str) from by decide +kernel) rfl (Or.inl rfl))) (AK (by decide)) (fun u1 u2 u3 u4 u5 => Bi) (fun u1 u2 u3 u4 u5 => (BR K PySem.F.plainAttrs_str PySem.F.slot_str_join PySem.F.type_str_join (Ew K) AD (Aa (Ck rfl (N := ["_law_number"]) (nt := 1) (js := []) (AX.lookN (NX := ["_law_point"]) (sc := Ad (top 138)) rfl (by decide +kernel)) (piT K (pv 0)) (fun u1 u2 u3 u4 u5 => (AL (i := 0) (show List.Nodup (["_law_number"] : List Str) from by decide +kernel) rfl (Or.inl rfl))) (AK (by decide)) (fun u1 u2 u3 u4 u5 => Bi) (fun u1 u2 u3 u4 u5 => (Az QW hr rfl (Aa (pv 0) Ab)))) Ab)))) Ab)))), ?_⟩
 obtain ⟨r, xs, pss, rfl, hS, hn, h23, hf, h100, q⟩ := h
 have hs := sizeLine_eq
 have hl := hn.length
 refine ⟨rfl, ?_⟩
 refine BX ⟨_, rfl, r, rfl, ⟨_, hS⟩, De (xs := xs) (fun i zs H' => Ah H H' ∧ zs = ((pss.take i).map ptx).map V.str) ⟨Ah.refl _, rfl⟩ (fun i zs H' hi p => ⟨SqT.same hS p.1, by rw [p.2, Th, Th, Tz]; lia⟩) (by lia) ?_ ?_⟩
 ·rintro i x zs H' hx ⟨sm, rfl⟩
  obtain ⟨ps, hps, hpt⟩ := (Paired.get hn hx)
  have hm := TL hps
  have h3 : ps.length ≤ 3 := by rcases h23 ps hm with z | z <;> lia
  obtain ⟨a, rfl, us, hus, hun⟩ := (hpt.same sm)
  have hl2 := hun.length
  refine ⟨rfl, ?_⟩
  refine BX ⟨_, rfl, a, rfl, ⟨_, hus⟩, De (xs := us) (fun i zs H2 => H2 = H' ∧ zs = ((ps.take i).map tx).map V.str) ⟨rfl, rfl⟩ (fun i zs H2 hi p => ⟨by rw [p.1]; exact hus, by rw [p.2, Th, Th, Tz]; lia⟩) (by lia) ?_ ?_⟩
  ·rintro j y ys H2 hy ⟨rfl, rfl⟩
   obtain ⟨c, hc, hcn⟩ := (Paired.get hun hy)
   refine ⟨_, rfl, y, c, rfl, hcn, hf ps hm c (TL hc), rfl, ?_⟩
   rw [UL, hc, UG, UG]; rfl
  rintro ys H2 ⟨rfl, rfl⟩ p hp
  rw [hl2, UM]
  refine ⟨_, p, ps.map tx, rfl, rfl, SqL.of Ac, CZ (by show DE.length ≤ 2; rw [DN]; decide) (fun t ht => SG (Ec (hf ps hm) t ht) (by decide)) (by rw [Th]; lia), sm.trans (Ah.new hp), ?_⟩
  rw [UL, hps, UG, UG]; rfl
 rintro zs H' ⟨sm, rfl⟩ p hp
 rw [hl, UM]
 exact ⟨_, p, pss.map ptx, rfl, rfl, SqL.of Ac, CZ (by show EA.length ≤ 2; rw [DM]; decide) (fun t ht => SG (G7 hf h23 t ht) (by decide)) (by rw [Th]; exact h100), q _ (sm.trans (Ah.new hp))⟩
theorem BV : Ap ["_law_pen_here", "_law_points", "_law_word", "_law_places", "_law_x", "_law_some"] ["_law_pen_here", "_law_points"] (Ad (top 144)) := ⟨rfl, rfl, rfl, by decide +kernel, rfl, by decide +kernel, by decide +kernel⟩
theorem Jh {f : Addr} {fd : FuncData} (F : Fun K "_law_row" "_law_row" (top 144) f fd) (QD : Fd P w K mg base 33 "_law_draw" ["_law_pen_here", "_law_many"] (EJ)) (QV : Fd P w K mg base 35 "_law_fresh" ["_law_pen_here", "_law_places"] (FD K)) (QO : Fd P w K mg base 34 "_law_little" ["_law_pen_here"] (Ef)) (Qz : mg "len" = none) (hT : P.given.tree = none) :
 Ay P w K mg base CX0 36 f fd ["_law_pen_here", "_law_points"] (JQ K) := by
 refine F.ok BV (fun vs H Q E h => ?_) (fun cdv A outer s H vs Q E hr h => ?_)
 ·obtain ⟨_, _, _, _, rfl, _⟩ := h; rfl
 refine ⟨_, (Ae (K := K) (Nq (i := 2) BV.nd rfl (Or.inl rfl) (Ov (ixL K) (Nr (CV DK (CV DK (CV DK (CV DK (CV DK (CV DK Nw Ln) Ln) Ln) Ln) Ln) Ln)) (pek (Az QD hr rfl (Aa (pv 0) (Aa Af Ab)))) (fun u v => rfl)))
  (Ae (K := K) (KC (i := 3) rfl BV.nd rfl rfl (N := ["_law_point"]) (nt := 1) (js := []) (AX.look (NX := ["_law_pen_here", "_law_points", "_law_word", "_law_places", "_law_x", "_law_some"]) (sc := Ad (top 144)) rfl rfl (by decide +kernel)) (piT K (pv 1)) (fun u1 u2 u3 u4 u5 => (AL (i := 0) (show List.Nodup (["_law_point"] : List Str) from by decide +kernel) rfl (Or.inl rfl))) (AK (by decide)) (fun u1 u2 u3 u4 u5 => Bi) (fun u1 u2 u3 u4 u5 => (Au (ixT K) (pv 0) Af (fun u v => rfl))) rfl)
  (Ae (K := K) (Aq (i := 4) BV.nd rfl (Or.inl rfl) (Au (ixL K) (pv 3) (Az QD hr rfl (Aa (pv 0) (Aa (Ai (Ct K) rfl Qz Ba (Aa (pv 3) Ab)) Ab))) (fun u v => rfl)))
  (Ae (K := K) (Aw (K := K) (Ak En (Cr BH (Az QD hr rfl (Aa (pv 0) (Aa Af Ab))) Af (As _)) (Cr BH (pv 2) AD (As _)) (As _)) (Ag (Aq (i := 4) BV.nd rfl (Or.inl rfl) (Az QV hr rfl (Aa (pv 0) (Aa (pv 3) Ab))))) Ao (by rfl) (by rfl))
  (Ae (K := K) (Aq (i := 5) BV.nd rfl (Or.inl rfl) (Bx (Aa (pv 4) Ab)))
  (Ae (K := K) (Aw (K := K) (Ak (inS K) (pv 2) (AV (Aa AD (Aa AD (Aa AD Ab)))) (by with_unfolding_all rfl)) (Ag (Dc (BR K PySem.F.plainAttrs_list PySem.F.slot_list_append PySem.F.type_list_append CW (pv 5) (Aa (Az QO hr rfl (Aa (pv 0) Ab)) Ab)))) Ao (by rfl) (by rfl))
  (Ae (K := K) (Aw (K := K) (PW.pt (JW (Ak BH (pv 2) AD (As _)) (HV (Ak BH (Az QD hr rfl (Aa (pv 0) (Aa Af Ab))) Af (As _))))) (Ag (Dc (BR K PySem.F.plainAttrs_list PySem.F.slot_list_append PySem.F.type_list_append CW (pv 5) (Aa (Az QO hr rfl (Aa (pv 0) Ab)) Ab)))) Ao (by rfl) (by rfl))
  (Ag (Aj (AV (Aa (pv 2) (Aa (pv 5) Ab))))) (by rfl)) (by rfl)) (by rfl)) (by rfl)) (by rfl)) (by rfl)) (by rfl)), ?_⟩
 obtain ⟨a, r, xs, pss, rfl, pn, pok, hfg, q⟩ := h
 have P1 : 1 ≤ sizeLine := by decide
 have P2 : 2 ≤ sizeLine := by decide
 have P3 : 3 ≤ sizeLine := by decide
 have P6 : 6 ≤ sizeLine := by decide
 refine ⟨P6, fun m hm => ⟨_, rfl, a, 6, rfl, pn.same hm, by decide, by decide, fun d H1 d0 d1 o1 p1 => ?_⟩⟩
 have sm := Ah.new (o := .lst [.str "put", .str "put", .str "take", .str "height", .str "slope", .str "noslope"]) hm
 have em := o1.mv _ _ (pn.ne' hm) (Ac (H := H) (a := m) (o := .lst [.str "put", .str "put", .str "take", .str "height", .str "slope", .str "noslope"]))
 obtain ⟨D, hD⟩ : ∃ D : Nat, d = (D : Int) := ⟨d.toNat, by lia⟩
 subst hD
 have hD6 : D = 0 ∨ D = 1 ∨ D = 2 ∨ D = 3 ∨ D = 4 ∨ D = 5 := by lia
 obtain ⟨i, i5, hi⟩ : ∃ i : Nat, i < 5 ∧ ([.str "put", .str "put", .str "take", .str "height", .str "slope", .str "noslope"] : List V)[D]? = some (.str (wd i)) := by
  rcases hD6 with rfl | rfl | rfl | rfl | rfl | rfl
  ·exact ⟨0, by decide, rfl⟩
  ·exact ⟨0, by decide, rfl⟩
  ·exact ⟨1, by decide, rfl⟩
  ·exact ⟨2, by decide, rfl⟩
  ·exact ⟨3, by decide, rfl⟩
  ·exact ⟨4, by decide, rfl⟩
 refine ⟨m, _, _, _, rfl, rfl, SqL.of em, Ar hi, ?_⟩
 have mv1 : Mv a H H1 := sm.mv.trans o1.mv
 have pok1 := pok.mv pn mv1
 clear sm em hi hD6 hm d0 d1 o1
 have g12 := BS pok.h23
 have h12 := pok.h12
 have hxl := pok.P.length
 refine BX ⟨_, rfl, r, rfl, ⟨_, pok1.S⟩, De (xs := xs) (L2 H1 pss fun H1 pss i ys H' => H' = H1 ∧ ys.length = i ∧ AJ H1 ys ((pss.map fun ps => ps.getD 0 0).take i)) ⟨rfl, rfl, .nil⟩ (fun i ys H' _ h => ⟨by rw [h.1]; exact pok1.S, h.2.1⟩) (SH (AF (by lia))) ?_ ?_⟩
 ·rintro j v ys H' hv ⟨rfl, hyl, hyn⟩
  obtain ⟨ps, hps, a', us, rr, rfl, hs, hn, h0, hr⟩ := (Paired.get pok1.P hv)
  refine ⟨_, rfl, a', us, _, .ref rr, rfl, rfl, hs, Ar (j := 0) h0, rfl, by simp [hyl], ?_⟩
  rw [UL, TJ, hps]
  exact Paired.snoc hyn ⟨rr, rfl, hr⟩
 rintro ys H' ⟨rfl, hyl, hyn⟩ pl hpl
 rw [Ut (by rw [Th]; lia)] at hyn
 have sp := Ah.new (o := .lst ys) hpl
 have pla : pl ≠ a := p1.ne' hpl
 have ep : upd H' pl (.lst ys) pl = some (.lst ys) := Ac
 have hyn2 := AJ.same hyn sp
 have p2 := p1.sm sp
 have mv2 := mv1.trans sp.mv
 generalize upd H' pl (.lst ys) = H2 at ep hyn2 p2 mv2 ⊢
 clear sp hyn hpl p1 pok1 mv1
 have hyl2 := hyn2.length
 rw [Th] at hyl2
 have h1 := pok.h1
 refine ⟨_, rfl, _, rfl, _, rfl, pl, ys, rfl, .inl (SqL.of ep), a, _, rfl, p2, by lia, by lia, fun e H3 e0 e1 o3 p3 => ?_⟩
 obtain ⟨E', hE⟩ : ∃ E' : Nat, e = (E' : Int) := ⟨e.toNat, by lia⟩
 subst hE
 have ep3 := o3.mv _ _ pla ep
 have hyn3 := AJ.mv hyn2 p2 o3.mv
 obtain ⟨v, hv⟩ : ∃ v, ys[E']? = some v := ⟨_, Uj (show E' < ys.length by lia)⟩
 obtain ⟨x, hx, rx, rfl, erx⟩ := (Paired.get hyn3 hv)
 refine ⟨pl, _, _, _, rfl, rfl, SqL.of ep3, Ar hv, ?_⟩
 have hfx : Fg x := by
  obtain ⟨ps, hps, e⟩ := (UW.mp (TL hx))
  have h2 := pok.h23 ps hps
  rw [← e]
  match ps, h2, hfg ps hps with
  | c :: _, _, h => exact h c (SJ ..)
  | [], h, _ => simp at h
 have mv3 := mv2.trans o3.mv
 try dsimp only
 refine EM (L5 a H r i pl fun a H r i pl σ' H' => Mv a H H' ∧ Pen H' a ∧ ∃ (rx : Addr) (x : Rat), H' rx = some (nT x) ∧ Fg x ∧ σ' = [some (.ref a), some (.ref r), some (.str (wd i)), some (.ref pl), some (.ref rx), none]) (fun nx hnx => ?_) ?_
 ·refine ⟨_, rfl, a, 5, rfl, p3, by decide, by decide, fun u H4 u0 u1 o4 p4 => ⟨rfl, _, rfl, rfl, rfl, _, rfl, ?_⟩⟩
  refine Iy (fun _ => ?_) (fun _ => ?_)
  ·exact ⟨_, rfl, _, rfl, a, pl, ys, _, rfl, p4, pla, o4.mv _ _ pla ep3, (AJ.mv hyn3 p3 o4.mv).nums, by rw [Th]; lia, fun rx' x' H5 m5 p5 e5 _ hf5 => hnx _ _ ⟨(mv3.trans o4.mv).trans m5, p5, rx', x', e5, hf5, rfl⟩⟩
  ·exact hnx _ _ ⟨mv3.trans o4.mv, p4, rx, x, o4.mv _ _ (p3.ne erx (Jm x)) erx, hfx, rfl⟩
 clear mv3 hfx hv erx hx hyn3 ep3 p3 o3 hyn2 mv2 p2 ep
 rintro σ' H4 hR1
 refine ED hR1 fun mv4 p4 hz24 => ?_
 refine Ex hz24 fun rx x hz24' => ?_
 clear hz24
 refine ED hz24' fun ex hfx hq23 => ?_
 clear hz24'
 obtain rfl := hq23
 try clear hR1
 refine ⟨_, rfl, P1, fun l hl => ?_⟩
 have la : l ≠ a := p4.ne' hl
 have sl := Ah.new (o := .lst [.ref rx]) hl
 have hlH : H l = none := Mv.free mv4 la hl
 have mv5 := mv4.trans sl.mv
 have p5 := p4.sm sl
 have el : upd H4 l (.lst [.ref rx]) l = some (.lst [.ref rx]) := Ac
 have ex5 := sl _ _ ex
 generalize upd H4 l (.lst [.ref rx]) = H5 at mv5 p5 el ex5 ⊢
 clear sl hl ex mv4 p4
 have hi : i = 0 ∨ i = 1 ∨ i = 2 ∨ i = 3 ∨ i = 4 := by lia
 try dsimp only
 refine EM (L7 a H l i r pl rx fun a H l i r pl rx σ' H' => Mv a H H' ∧ Pen H' a ∧ ∃ (ys : List V) (qs : List Rat), H' l = some (.lst ys) ∧ AJ H' ys qs ∧ (∀ q ∈ qs, Fg q) ∧ qs.length = loW i ∧ σ' = [some (.ref a), some (.ref r), some (.str (wd i)), some (.ref pl), some (.ref rx), some (.ref l)]) (fun nx hnx => ?_) ?_
 ·refine ⟨_, rfl, P3, fun t ht => ?_⟩
  have st := Ah.new (o := .tup [.str "put", .str "height", .str "slope"]) ht
  have hin : inV (V.str (wd i)) [.str "put", .str "height", .str "slope"] = decide (loW i = 2) := by rcases hi with rfl | rfl | rfl | rfl | rfl <;> rfl
  refine ⟨t, _, rfl, .inr (SqT.of Ac), rfl, rfl, _, rfl, ?_⟩
  show (if (inV (V.str (wd i)) [.str "put", .str "height", .str "slope"]) = true then _ else _)
  rw [hin]
  have el6 := st _ _ el
  have p6 := p5.sm st
  have ex6 := st _ _ ex5
  have mv6 := mv5.trans st.mv
  generalize upd H5 t (.tup [.str "put", .str "height", .str "slope"]) = H6 at el6 p6 ex6 mv6 ⊢
  by_cases h2 : loW i = 2
  ·refine Be (by rw [decide_eq_true h2] <;> rfl) ⟨_, rfl, .inl ⟨rfl, _, SqL.of el6⟩, _, rfl, a, rfl, p6, fun y ry H7 m7 p7 ey hfy => ?_⟩
   have el7 := m7 _ _ la el6
   refine ⟨l, _, _, rfl, rfl, el7, (show 1 < sizeLine by decide), ?_⟩
   have ex7 := m7 _ _ (p6.ne ex6 (Jm x)) ex6
   have ne1 : rx ≠ l := C5 ex7 el7 (fun z => by cases z)
   have ne2 : ry ≠ l := C5 ey el7 (fun z => by cases z)
   exact hnx _ _ ⟨Mv.put' (mv6.trans m7) hlH, p7.put' la, [.ref rx, .ref ry], [x, y], Ac, .cons ⟨rx, rfl, by rw [AA ne1]; exact ex7⟩ (.cons ⟨ry, rfl, by rw [AA ne2]; exact ey⟩ .nil), fun c hc => (by
    rcases SM.mp hc with z | z
    ·rw [z]; exact hfx
    ·rw [Uh.mp z]; exact hfy), h2.symm, rfl⟩
  ·rw [decide_eq_false h2]
   have h1' : loW i = 1 := by rcases hi with rfl | rfl | rfl | rfl | rfl <;> first | rfl | exact absurd rfl h2
   exact Bs (hnx _ _ ⟨mv6, p6, [.ref rx], [x], el6, .cons ⟨rx, rfl, ex6⟩ .nil, fun c hc => (by rw [Uh.mp hc]; exact hfx), h1'.symm, rfl⟩)
 rintro σ' H6 hR2
 refine ED hR2 fun mv6 p6 hz26 => ?_
 refine Ex hz26 fun ys qs hz26' => ?_
 clear hz26
 refine LS hz26' fun el6 hn hqf hql hq25 => ?_
 clear hz26'
 obtain rfl := hq25
 try clear hR2
 have hlh : loW i ≤ hiW i := by rcases hi with rfl | rfl | rfl | rfl | rfl <;> decide
 try dsimp only
 refine J1 (s := Li _ _ _) (L7 a H l i r pl rx fun a H l i r pl rx σ' H' => Mv a H H' ∧ Pen H' a ∧ ∃ (ys : List V) (qs : List Rat), H' l = some (.lst ys) ∧ AJ H' ys qs ∧ (∀ q ∈ qs, Fg q) ∧ loW i ≤ qs.length ∧ qs.length ≤ hiW i ∧ σ' = [some (.ref a), some (.ref r), some (.str (wd i)), some (.ref pl), some (.ref rx), some (.ref l)]) (fun nx hnx => ?_) ?_
 ·refine ⟨_, rfl, rfl, _, rfl, ?_⟩
  by_cases h0 : i = 0
  ·subst h0
   refine Be (by rw [decide_eq_true (show V.str (wd 0) = V.str (Str.ofString "put") from rfl)] <;> rfl) ⟨_, rfl, a, 2, rfl, p6, by decide, by decide, fun u H7 u0 u1 o7 p7 => ⟨rfl, _, rfl, ?_⟩⟩
   have el7 := o7.mv _ _ la el6
   have hn7 := AJ.mv hn p6 o7.mv
   refine Iy (fun _ => ?_) (fun _ => ?_)
   ·refine ⟨_, rfl, .inl ⟨rfl, _, SqL.of el7⟩, _, rfl, a, rfl, p7, fun y ry H8 m8 p8 ey hfy => ?_⟩
    have el8 := m8 _ _ la el7
    have hyl := hn.length
    refine ⟨l, _, _, rfl, rfl, el8, AF (by rw [hyl, hql]; decide), ?_⟩
    have ne2 : ry ≠ l := C5 ey el8 (fun z => by cases z)
    refine hnx _ _ ⟨Mv.put' ((mv6.trans o7.mv).trans m8) hlH, p8.put' la, ys ++ [.ref ry], qs ++ [y], Ac, Paired.snoc (AJ.put (AJ.mv hn7 p7 m8) el8) ⟨ry, rfl, by rw [AA ne2]; exact ey⟩, fun c hc => ?_, by rw [TM, hql]; exact (show 2 ≤ 2 + 1 by decide), by rw [TM, hql]; exact (show 2 + 1 ≤ 3 by decide), rfl⟩
    rcases SN.mp hc with z | z
    ·exact hqf c z
    ·rw [Uh.mp z]; exact hfy
   ·exact hnx _ _ ⟨mv6.trans o7.mv, p7, ys, qs, el7, hn7, hqf, by rw [hql]; exact SW _, by rw [hql]; decide, rfl⟩
  ·have hne : ¬ V.str (wd i) = V.str (Str.ofString "put") := by rcases hi with rfl | rfl | rfl | rfl | rfl <;> first | exact absurd rfl h0 | decide +kernel
   exact AM (by rw [decide_eq_false hne] <;> rfl) (hnx _ _ ⟨mv6, p6, ys, qs, el6, hn, hqf, by rw [hql]; exact SW _, by rw [hql]; exact hlh, rfl⟩)
 rintro σ' H7 hR3
 refine ED hR3 fun mv7 p7 hz28 => ?_
 refine Ex hz28 fun ys qs hz28' => ?_
 clear hz28
 refine Q8 hz28' fun el7 hn7 hqf hq1 hq2 hq27 => ?_
 clear hz28'
 obtain rfl := hq27
 try clear hR3
 refine ⟨_, rfl, _, rfl, P2, fun t ht => ?_⟩
 have st := Ah.new (o := .tup [.str (wd i), .ref l]) ht
 exact q t l ys i qs _ (mv7.trans st.mv) (p7.sm st) i5 Ac la (st _ _ el7) (AJ.same hn7 st) hq1 hq2 hqf
theorem Bk : Ap ["_law_points", "_law_word", "_law_some", "_law_spots", "_law_found", "_law_at", "_law_new"] ["_law_points", "_law_word", "_law_some"] (Ad (top 143)) := ⟨rfl, rfl, rfl, by decide +kernel, rfl, by decide +kernel, by decide +kernel⟩
theorem Jj {f : Addr} {fd : FuncData} (F : Fun K "_law_due" "_law_due" (top 143) f fd) (QG : mg "int" = none) (QH : mg "range" = none) (Qz : mg "len" = none) (QB : mg "tuple" = none) (b_sum : mg "sum" = none) (hT : P.given.tree = none) :
 Ay P w K mg base CX0 33 f fd ["_law_points", "_law_word", "_law_some"] (Mf K) := by
 refine F.ok Bk (fun vs H Q E h => ?_) (fun cdv A outer s H vs Q E hr h => ?_)
 ·obtain ⟨_, _, _, _, _, _, _, rfl, _⟩ := h; rfl
 refine ⟨_, (Ae (K := K) (KC (i := 3) rfl Bk.nd rfl rfl (N := ["_law_k", "_law_points", "_law_some"]) (nt := 1) (js := [0, 2]) (AX.look (NX := ["_law_points", "_law_word", "_law_some", "_law_spots", "_law_found", "_law_at", "_law_new"]) (sc := Ad (top 143)) rfl rfl (by decide +kernel)) (EO rfl QH (Aa (Ai (Ct K) rfl Qz Ba (Aa (pv 0) Ab)) Ab)) (fun u1 u2 u3 u4 u5 => (AL (i := 0) (show List.Nodup (["_law_k", "_law_points", "_law_some"] : List Str) from by decide +kernel) rfl (Or.inl rfl))) (AK (by decide)) (fun u1 u2 u3 u4 u5 => HW (Ak (eqD K hr.units) (Au (ixT K) (Au (ixT K) (pv 1) (pv 0) (fun u v => rfl)) Af (fun u v => rfl)) (Au (ixL K) (pv 2) Af (fun u v => rfl)) (As _))) (fun u1 u2 u3 u4 u5 => (pv 0)) rfl)
  (Ae (K := K) (Aw (K := K) (Ak BH (pv 1) AD (As _)) (Ae (K := K) (Aw (K := K) (Ak (neD K hr.units) (pv 3) (Bx Ab) (As _)) (Ag (Aj AD)) Ao (by rfl) (by rfl))
  (Ag (Aq (i := 4) Bk.nd rfl (Or.inl rfl) (Ax (DY K) (pv 0) (AV (Aa (AN (Dk K) rfl QB Bz (Aa (pv 2) Ab)) Ab))))) (by rfl)) (Ae (K := K) (Aw (K := K) (Ak (eqD K hr.units) (pv 3) (Bx Ab) (As _)) (Ag (Aj AD)) Ao (by rfl) (by rfl))
  (Ae (K := K) (Aq (i := 5) Bk.nd rfl (Or.inl rfl) (Au (ixL K) (pv 3) Af (fun u v => rfl)))
  (Ae (K := K) (Aq (i := 6) Bk.nd rfl (Or.inl rfl) (Au (ixT K) (pv 0) (pv 5) (fun u v => rfl)))
  (Ae (K := K) (Aw (K := K) (Ak BH (pv 1) AD (As _)) (Ag (Aj (Au (ixL K) (Bx (Aa (Ax (DY K) (Bh (EL K) (pv 0) Bw (Bv (pv 5))) (Bh (EL K) (pv 0) (Bv (Ax BA (pv 5) Af)) Bw)) (Aa AD Ab))) (AN HE rfl QG Fc (Aa (Cr BH (Ai (Ct K) rfl Qz Ba (Aa (pv 0) Ab)) Af (As _)) Ab)) (fun u v => rfl)))) Ao (by rfl) (by rfl))
  (Ae (K := K) (Aw (K := K) (Ak BH (pv 1) AD (As _)) (Ag (Aq (i := 6) Bk.nd rfl (Or.inl rfl) (Ax (DY K) (AV (Aa (Au (ixT K) (pv 6) Af (fun u v => rfl)) (Aa (Au (ixL K) (pv 2) Af (fun u v => rfl)) Ab))) (Bh (EL K) (pv 6) (Bv Af) Bw)))) Ao (by rfl) (by rfl))
  (Ae (K := K) (Aw (K := K) (Ak BH (pv 1) AD (As _)) (Ag (Aq (i := 6) Bk.nd rfl (Or.inl rfl) (Ax (DY K) (Bh (EL K) (pv 6) Bw (Bv Af)) (AV (Aa (Au (ixL K) (pv 2) Af (fun u v => rfl)) Ab))))) Ao (by rfl) (by rfl))
  (Ae (K := K) (Aw (K := K) (Ak BH (pv 1) AD (As _)) (Ag (Aq (i := 6) Bk.nd rfl (Or.inl rfl) (Bh (EL K) (pv 6) Bw (Bv Af)))) Ao (by rfl) (by rfl))
  (Ag (Aq (i := 4) Bk.nd rfl (Or.inl rfl) (Ax (DY K) (Ax (DY K) (Bh (EL K) (pv 0) Bw (Bv (pv 5))) (AV (Aa (pv 6) Ab))) (Bh (EL K) (pv 0) (Bv (Ax BA (pv 5) Af)) Bw)))) (by rfl)) (by rfl)) (by rfl)) (by rfl)) (by rfl)) (by rfl)) (by rfl)) (by rfl) (by rfl))
  (Ag (Aj (Au (ixL K) (Bx (Aa (pv 4) (Aa AD Ab))) (AN HE rfl QG Fc (Aa (Cr Di (Ai (LM rfl) rfl b_sum P4 (Aa (Ck rfl (N := ["_law_point"]) (nt := 1) (js := []) (AX.look (NX := ["_law_points", "_law_word", "_law_some", "_law_spots", "_law_found", "_law_at", "_law_new"]) (sc := Ad (top 143)) rfl rfl (by decide +kernel)) (piT K (pv 4)) (fun u1 u2 u3 u4 u5 => (AL (i := 0) (show List.Nodup (["_law_point"] : List Str) from by decide +kernel) rfl (Or.inl rfl))) (AK (by decide)) (fun u1 u2 u3 u4 u5 => Bi) (fun u1 u2 u3 u4 u5 => (Ax DA (Ai (Ct K) rfl Qz Ba (Aa (pv 0) Ab)) Af))) Ab)) Af (As _)) Ab)) (fun u v => rfl)))) (by rfl)) (by rfl)), ?_⟩
 obtain ⟨r, l, xs, ys, pss, qs, i, rfl, pok, el, hn, i5, h1, h2, qE, qO⟩ := h
 have g12 := BS pok.h23
 have h12 := pok.h12
 have hxl := pok.P.length
 have hlo : 1 ≤ qs.length := by
  have hi : i = 0 ∨ i = 1 ∨ i = 2 ∨ i = 3 ∨ i = 4 := by lia
  rcases hi with rfl | rfl | rfl | rfl | rfl <;> exact SG (by decide) h1
 obtain ⟨a0, ha0, ea0⟩ := (Eu hn hlo)
 refine BX ⟨_, rfl, r, xs, rfl, .inr pok.S, _, rfl, by lia, by lia, ?_⟩
 rw [TV]
 refine ML (n := xs.length) (fun j zs H' => H' = H ∧ zs = (Ce pss (qs.getD 0 0) j).map fun k : Nat => V.int (k : Int)) ⟨rfl, rfl⟩ (fun j zs H' _ p => by rw [p.2, Th]; unfold Ce; exact SG (List.length_filter_le ..) (by rw [Uy]; exact SW _)) (SH (AF (by lia))) ?_ ?_
 ·rintro j zs H' hj ⟨rfl, rfl⟩
  rw [Int.zero_add]
  obtain ⟨v, hv⟩ : ∃ v, xs[j]? = some v := ⟨_, Uj hj⟩
  obtain ⟨ps, hps, a', us, rr, rfl, hs, hnn, h0, hr⟩ := (Paired.get pok.P hv)
  refine ⟨_, rfl, _, rfl, r, xs, _, _, rfl, rfl, pok.S, Ar hv, a', us, _, .ref rr, rfl, rfl, hs, Ar (j := 0) h0, _, rfl, l, ys, _, _, rfl, rfl, SqL.of el, Ar (j := 0) ha0, ?_⟩
  refine eqN (AU.of hr) (AU.of ea0) ?_
  refine ⟨_, rfl, ?_⟩
  have eg : (pss.getD j []).getD 0 0 = ps.getD 0 0 := by rw [Ud (l := pss), hps]; rfl
  by_cases hc : ps.getD 0 0 = qs.getD 0 0
  ·have e2 : Ce pss (qs.getD 0 0) (j + 1) = Ce pss (qs.getD 0 0) j ++ [j] := by rw [E1, eg, if_pos hc]
   exact Be (by rw [decide_eq_true hc] <;> rfl) ⟨_, rfl, rfl, by rw [e2, UG]; rfl⟩
  ·have e2 : Ce pss (qs.getD 0 0) (j + 1) = Ce pss (qs.getD 0 0) j := by rw [E1, eg, if_neg hc, Tq]
   exact AM (by rw [decide_eq_false hc] <;> rfl) ⟨rfl, by rw [e2]⟩
 rintro zs H' ⟨rfl, rfl⟩ sp hsp
 rw [hxl]
 have P0 : 0 ≤ sizeLine := by decide
 have P1 : 1 ≤ sizeLine := by decide
 have P2 : 2 ≤ sizeLine := by decide
 have s1 := Ah.new (o := .lst ((Ce pss (qs.getD 0 0) pss.length).map fun k : Nat => V.int (k : Int))) hsp
 have esp : upd H' sp (.lst ((Ce pss (qs.getD 0 0) pss.length).map fun k : Nat => V.int (k : Int))) sp = some (.lst ((Ce pss (qs.getD 0 0) pss.length).map fun k : Nat => V.int (k : Int))) := Ac
 generalize upd H' sp (.lst ((Ce pss (qs.getD 0 0) pss.length).map fun k : Nat => V.int (k : Int))) = H1 at s1 esp ⊢
 have pok1 := pok.same s1
 have el1 := s1 _ _ el
 have hn1 := AJ.same hn s1
 try dsimp only
 refine J1 (s := Li _ _ _) (L7 H' r i l K pss qs fun H' r i l K pss qs σ' G => Ah H' G ∧ ∃ (t : Addr) (zs : List V) (pss' : List (List Rat)) (z3 z5 z6 : Option V), σ' = [some (.ref r), some (.str (wd i)), some (.ref l), z3, some (.ref t), z5, z6] ∧ SqT K G t zs ∧ AH K G zs pss' ∧ pss'.length ≤ 13 ∧ (∀ ps ∈ pss', 1 ≤ ps.length) ∧ ((AO pss').length ≤ 12 → Chg pss qs i (.ok pss')) ∧ (12 < (AO pss').length → Chg pss qs i (.error 0))) (fun nx hnx => ?_) ?_
 ·refine ⟨_, rfl, rfl, _, rfl, ?_⟩
  by_cases hin : qs.getD 0 0 ∈ pss.map fun ps => ps.getD 0 0
  ·refine Ex (Dy hin) fun m ps hz31' => ?_
   refine Gy hz31' fun hm h0 => ?_
   clear hz31'
   have hml := (SQ.mp hm).1
   rw [Ho pok.nd hm h0, if_pos ⟨hml, SW _⟩] at esp
   have esp' : H1 sp = some (.lst [.int (m : Int)]) := esp
   by_cases hi0 : i = 0
   ·subst hi0
    refine Be (by rw [decide_eq_true (show V.str (wd 0) = V.str (Str.ofString "put") from rfl)] <;> rfl) ⟨_, rfl, P0, fun e he => KU (m := (m : Int)) (SqL.of ((Ah.new he) _ _ esp')) (SqL.of Ac) ⟨_, rfl, CA ?_⟩⟩
    exact qE 1 _ (s1.trans (Ah.new he)) (.put2 hin)
   have hi : i = 1 ∨ i = 2 ∨ i = 3 ∨ i = 4 := by lia
   have hne : ¬ V.str (wd i) = V.str (Str.ofString "put") := by rcases hi with rfl | rfl | rfl | rfl <;> decide +kernel
   refine AM (by rw [decide_eq_false hne] <;> rfl) ⟨_, rfl, P0, fun e he => KU (m := (m : Int)) (SqL.of ((Ah.new he) _ _ esp')) (SqL.of Ac) ⟨_, rfl, Bs ?_⟩⟩
   have s2 := s1.trans (Ah.new (o := .lst []) he)
   have esp2 := (Ah.new (o := .lst []) he) _ _ esp'
   have pok2 := pok.same s2
   have el2 := s2 _ _ el
   have hn2 := AJ.same hn s2
   generalize upd H1 e (.lst []) = H2 at s2 esp2 pok2 el2 hn2 ⊢
   obtain ⟨v, hv⟩ : ∃ v, xs[m]? = some v := ⟨_, Uj (by lia)⟩
   obtain ⟨ps', hps', a', us, rr, rfl, hs, hnn, hu0, hrr⟩ := (Paired.get pok2.P hv)
   rw [hm] at hps'
   cases hps'
   refine ⟨_, rfl, sp, _, _, _, rfl, rfl, SqL.of esp2, Ar (j := 0) rfl, _, rfl, _, rfl, r, xs, _, _, rfl, rfl, pok2.S, Ar hv, ?_⟩
   refine ⟨_, rfl, rfl, _, rfl, ?_⟩
   by_cases hi1 : i = 1
   ·subst hi1
    refine Be (by rw [decide_eq_true (show V.str (wd 1) = V.str (Str.ofString "take") from rfl)] <;> rfl) ?_
    refine ⟨_, rfl, _, rfl, (m : Int), rfl, BE (v := m) pok2.S (by lia) fun w1 H3 s3 hw1 => ?_⟩
    refine ⟨_, rfl, _, rfl, _, _, rfl, rfl, ((m + 1 : Nat) : Int), rfl, BU (v := m + 1) (pok2.S.same s3) (by lia) fun w2 H4 s4 hw2 => ?_⟩
    refine By (hw1.same s4) hw2 (SH (AF (by rw [Tz, U0]; lia))) fun t H5 s5 ht => ?_
    refine ⟨P2, fun l2 hl2 => ⟨_, rfl, r, xs, rfl, .inr ?_, rfl, .inr ⟨_, rfl, ?_⟩⟩⟩
    ·exact (((pok2.S.same s3).same s4).same s5).same (Ah.new hl2)
    have s6 := (((s2.trans s3).trans s4).trans s5).trans (Ah.new (o := .lst [.ref t, .str "points"]) hl2)
    have ht6 := ht.same (Ah.new (o := .lst [.ref t, .str "points"]) hl2)
    by_cases hb : V.int ((xs.length : Nat) : Int) = V.int 1
    ·rw [decide_eq_true hb]
     have hb' : pss.length = 1 := by have := V.int.inj hb; lia
     exact ⟨l2, _, _, _, rfl, rfl, SqL.of Ac, Ar (j := 1) rfl, qE 1 _ s6 (.only hin hb')⟩
    ·rw [decide_eq_false hb]
     have hb' : 2 ≤ pss.length := by
      have : ¬ xs.length = 1 := fun z => hb (by rw [z]; rfl)
      lia
     exact ⟨l2, _, _, _, rfl, rfl, SqL.of Ac, Ar (j := 0) rfl, qO t _ _ _ s6 (.take hm h0 hb') ht6 (Paired.append (Paired.take _ (AH.same pok.P s6)) (Bo _ (AH.same pok.P s6)))⟩
   have hp23 := pok.h23 ps (TL hm)
   have hul := hnn.length
   have hi' : i = 2 ∨ i = 3 ∨ i = 4 := by lia
   refine AM (by rw [decide_eq_false (show ¬ V.str (wd i) = V.str (Str.ofString "take") by rcases hi' with rfl | rfl | rfl <;> decide +kernel)] <;> rfl) ?_
   rcases hi' with rfl | rfl | rfl
   ·obtain ⟨b1, hb1, eb1⟩ := (Hu hn2 h1)
    refine ⟨_, rfl, rfl, _, rfl, ?_⟩
    refine Be (by rw [decide_eq_true (show V.str (wd 2) = V.str (Str.ofString "height") from rfl)] <;> rfl) ?_
    refine ⟨_, rfl, a', us, _, _, rfl, rfl, hs, Ar (j := 0) hu0, _, rfl, l, ys, _, _, rfl, rfl, SqL.of el2, Ar (j := 1) hb1, P2, fun t0 ht0 => ⟨_, rfl, 2, rfl, BU (v := 2) (hs.same (Ah.new ht0)) (by lia) fun w0 H3 s3 hw0 => ?_⟩⟩
    have s23 := (Ah.new (o := .tup [.ref rr, .ref b1]) ht0).trans s3
    refine By (SqT.of (s3 _ _ Ac)) hw0 (SH (AF (by rw [U0]; show 2 + _ ≤ 1000; lia))) fun nw Hn s4 hnw0 => ?_
    have s24 := s23.trans s4
    have sN := s2.trans s24
    have hnw : PtT K Hn (.ref nw) ([ps.getD 0 0, qs.getD 1 0] ++ ps.drop 2) := ⟨nw, _, rr, rfl, hnw0, .cons (AU.of (s24 _ _ hrr)) (.cons (AU.of (s24 _ _ eb1)) (Bo 2 (BI.same hnn s24))), rfl, s24 _ _ hrr⟩
    refine ⟨_, rfl, rfl, _, rfl, ?_⟩
    refine AM (by rw [decide_eq_false (show ¬ V.str (wd 2) = V.str (Str.ofString "slope") by decide +kernel)] <;> rfl) ?_
    refine ⟨_, rfl, rfl, _, rfl, ?_⟩
    refine AM (by rw [decide_eq_false (show ¬ V.str (wd 2) = V.str (Str.ofString "noslope") by decide +kernel)] <;> rfl) ?_
    refine ⟨_, rfl, _, rfl, (m : Int), rfl, BE (v := m) (pok.S.same sN) (by lia) fun w1 Ha sa hw1 => ⟨_, rfl, P1, fun t1 ht1 => ?_⟩⟩
    have sb := Ah.new (o := .tup [.ref nw]) ht1
    refine By (hw1.same sb) (SqT.of Ac) (SH (AF (by rw [Tz]; show _ + 1 ≤ 1000; lia))) fun t2 Hc sc ht2 => ?_
    have sac := (sa.trans sb).trans sc
    refine ⟨_, rfl, _, rfl, _, _, rfl, rfl, ((m + 1 : Nat) : Int), rfl, BU (v := m + 1) ((pok.S.same sN).same sac) (by lia) fun w2 Hd sd hw2 => ?_⟩
    refine By (ht2.same sd) hw2 (SH (AF (by rw [TM, Tz, U0]; show _ + 1 + _ ≤ 1000; lia))) fun t Hf sf ht => ?_
    have saf := (sac.trans sd).trans sf
    have sT := sN.trans saf
    have eS : pss.set m ([ps.getD 0 0, qs.getD 1 0] ++ ps.drop 2) = pss.take m ++ [[ps.getD 0 0, qs.getD 1 0] ++ ps.drop 2] ++ pss.drop (m + 1) := by rw [V7, if_pos hml, UX]; rfl
    refine hnx _ _ ⟨sT, t, _, pss.set m ([ps.getD 0 0, qs.getD 1 0] ++ ps.drop 2), _, _, _, rfl, ht, ?_, by rw [U1]; lia, fun p hp => ?_, fun _ => .height hm h0, fun z => absurd z (by rw [Fh hm hp23]; lia)⟩
    ·rw [eS]
     exact Paired.append (Paired.snoc (Paired.take _ (AH.same pok.P sT)) (hnw.same saf)) (Bo _ (AH.same pok.P sT))
    ·rcases V1 hp with z | z
     ·rcases pok.h23 p z with z | z <;> lia
     ·rw [z]; rw [TM]; exact SG (by decide : 1 ≤ 2) (UT _ _)
   ·obtain ⟨b1, hb1, eb1⟩ := (Hu hn2 h1)
    refine ⟨_, rfl, rfl, _, rfl, ?_⟩
    refine AM (by rw [decide_eq_false (show ¬ V.str (wd 3) = V.str (Str.ofString "height") by decide +kernel)] <;> rfl) ?_
    refine ⟨_, rfl, rfl, _, rfl, ?_⟩
    refine Be (by rw [decide_eq_true (show V.str (wd 3) = V.str (Str.ofString "slope") from rfl)] <;> rfl) ?_
    refine ⟨_, rfl, 2, rfl, BE (v := 2) hs (by lia) fun w0 H3 s3 hw0 => ⟨_, rfl, l, ys, _, _, rfl, rfl, SqL.of (s3 _ _ el2), Ar (j := 1) hb1, P1, fun t0 ht0 => ?_⟩⟩
    have s23 := s3.trans (Ah.new (o := .tup [.ref b1]) ht0)
    refine By (hw0.same (Ah.new ht0)) (SqT.of Ac) (SH (AF (by rw [Tz]; show _ + 1 ≤ 1000; lia))) fun nw Hn s4 hnw0 => ?_
    have s24 := s23.trans s4
    have sN := s2.trans s24
    have hnw : PtT K Hn (.ref nw) (ps.take 2 ++ [qs.getD 1 0]) := ⟨nw, _, rr, rfl, hnw0, Paired.snoc (Paired.take 2 (BI.same hnn s24)) (AU.of (s24 _ _ eb1)), by rw [TH (by rw [Tz]; lia), V2, if_pos (by decide)]; exact hu0, by rw [KA hp23]; exact s24 _ _ hrr⟩
    refine ⟨_, rfl, rfl, _, rfl, ?_⟩
    refine AM (by rw [decide_eq_false (show ¬ V.str (wd 3) = V.str (Str.ofString "noslope") by decide +kernel)] <;> rfl) ?_
    refine ⟨_, rfl, _, rfl, (m : Int), rfl, BE (v := m) (pok.S.same sN) (by lia) fun w1 Ha sa hw1 => ⟨_, rfl, P1, fun t1 ht1 => ?_⟩⟩
    have sb := Ah.new (o := .tup [.ref nw]) ht1
    refine By (hw1.same sb) (SqT.of Ac) (SH (AF (by rw [Tz]; show _ + 1 ≤ 1000; lia))) fun t2 Hc sc ht2 => ?_
    have sac := (sa.trans sb).trans sc
    refine ⟨_, rfl, _, rfl, _, _, rfl, rfl, ((m + 1 : Nat) : Int), rfl, BU (v := m + 1) ((pok.S.same sN).same sac) (by lia) fun w2 Hd sd hw2 => ?_⟩
    refine By (ht2.same sd) hw2 (SH (AF (by rw [TM, Tz, U0]; show _ + 1 + _ ≤ 1000; lia))) fun t Hf sf ht => ?_
    have saf := (sac.trans sd).trans sf
    have sT := sN.trans saf
    have eS : pss.set m (ps.take 2 ++ [qs.getD 1 0]) = pss.take m ++ [ps.take 2 ++ [qs.getD 1 0]] ++ pss.drop (m + 1) := by rw [V7, if_pos hml, UX]; rfl
    refine hnx _ _ ⟨sT, t, _, pss.set m (ps.take 2 ++ [qs.getD 1 0]), _, _, _, rfl, ht, ?_, by rw [U1]; lia, fun p hp => ?_, fun z => .slope hm h0 z, fun z => .slopeM hm h0 z⟩
    ·rw [eS]
     exact Paired.append (Paired.snoc (Paired.take _ (AH.same pok.P sT)) (hnw.same saf)) (Bo _ (AH.same pok.P sT))
    ·rcases V1 hp with z | z
     ·rcases pok.h23 p z with z | z <;> lia
     ·rw [z]; rw [TM]; exact Nat.le_add_left 1 _
   ·refine ⟨_, rfl, rfl, _, rfl, ?_⟩
    refine AM (by rw [decide_eq_false (show ¬ V.str (wd 4) = V.str (Str.ofString "height") by decide +kernel)] <;> rfl) ?_
    refine ⟨_, rfl, rfl, _, rfl, ?_⟩
    refine AM (by rw [decide_eq_false (show ¬ V.str (wd 4) = V.str (Str.ofString "slope") by decide +kernel)] <;> rfl) ?_
    refine ⟨_, rfl, rfl, _, rfl, ?_⟩
    refine Be (by rw [decide_eq_true (show V.str (wd 4) = V.str (Str.ofString "noslope") from rfl)] <;> rfl) ?_
    refine ⟨_, rfl, 2, rfl, BE (v := 2) hs (by lia) fun nw Hn s24 hnw0 => ?_⟩
    have sN := s2.trans s24
    have hnw : PtT K Hn (.ref nw) (ps.take 2) := JY 1 hnw0 (BI.same hnn s24) hu0 (s24 _ _ hrr)
    refine ⟨_, rfl, _, rfl, (m : Int), rfl, BE (v := m) (pok.S.same sN) (by lia) fun w1 Ha sa hw1 => ⟨_, rfl, P1, fun t1 ht1 => ?_⟩⟩
    have sb := Ah.new (o := .tup [.ref nw]) ht1
    refine By (hw1.same sb) (SqT.of Ac) (SH (AF (by rw [Tz]; show _ + 1 ≤ 1000; lia))) fun t2 Hc sc ht2 => ?_
    have sac := (sa.trans sb).trans sc
    refine ⟨_, rfl, _, rfl, _, _, rfl, rfl, ((m + 1 : Nat) : Int), rfl, BU (v := m + 1) ((pok.S.same sN).same sac) (by lia) fun w2 Hd sd hw2 => ?_⟩
    refine By (ht2.same sd) hw2 (SH (AF (by rw [TM, Tz, U0]; show _ + 1 + _ ≤ 1000; lia))) fun t Hf sf ht => ?_
    have saf := (sac.trans sd).trans sf
    have sT := sN.trans saf
    have eS : pss.set m (ps.take 2) = pss.take m ++ [ps.take 2] ++ pss.drop (m + 1) := by rw [V7, if_pos hml, UX]; rfl
    refine hnx _ _ ⟨sT, t, _, pss.set m (ps.take 2), _, _, _, rfl, ht, ?_, by rw [U1]; lia, fun p hp => ?_, fun _ => .noslope hm h0, fun z => absurd z (by have := Ed hm hp23; lia)⟩
    ·rw [eS]
     exact Paired.append (Paired.snoc (Paired.take _ (AH.same pok.P sT)) (hnw.same saf)) (Bo _ (AH.same pok.P sT))
    ·rcases V1 hp with z | z
     ·rcases pok.h23 p z with z | z <;> lia
     ·rw [z]; rw [Tz]; lia
  rw [JO hin] at esp
  have esp' : H1 sp = some (.lst []) := esp
  by_cases hi0 : i = 0
  ·subst hi0
   refine Be (by rw [decide_eq_true (show V.str (wd 0) = V.str (Str.ofString "put") from rfl)] <;> rfl) ⟨_, rfl, P0, fun e he => KW (SqL.of ((Ah.new he) _ _ esp')) (SqL.of Ac) ⟨_, rfl, Bs ?_⟩⟩
   have s2 := s1.trans (Ah.new (o := .lst []) he)
   have pok2 := pok.same s2
   have el2 := s2 _ _ el
   have hn2 := AJ.same hn s2
   generalize upd H1 e (.lst []) = H2 at s2 pok2 el2 hn2 ⊢
   refine ⟨_, rfl, _, rfl, l, ys, rfl, .inl ⟨SqL.of el2, fun tp htp => ⟨P1, fun t1 ht1 => ?_⟩⟩⟩
   have s3 := (Ah.new (o := .tup ys) htp).trans (Ah.new (o := .tup [.ref tp]) ht1)
   have hpt : PtT K (upd (upd H2 tp (.tup ys)) t1 (.tup [.ref tp])) (.ref tp) qs := JX (SqT.of ((Ah.new ht1) _ _ Ac)) (AJ.same hn2 s3) h1
   refine By (pok2.S.same s3) (SqT.of Ac) (SH (AF (by simp; lia))) fun t H4 s4 ht => ?_
   have s5 := (s2.trans s3).trans s4
   refine hnx _ _ ⟨s5, t, _, pss ++ [qs], _, _, _, rfl, ht, Paired.snoc (AH.same pok.P s5) (hpt.same s4), by rw [TM]; show _ + 1 ≤ _; lia, fun p hp => ?_, fun z => .put hin z, fun z => .putM hin z⟩
   rcases SN.mp hp with z | z
   ·rcases pok.h23 p z with z | z <;> lia
   ·rw [Uh.mp z]; exact hlo
  have hne : ¬ V.str (wd i) = V.str (Str.ofString "put") := by
   have hi : i = 1 ∨ i = 2 ∨ i = 3 ∨ i = 4 := by lia
   rcases hi with rfl | rfl | rfl | rfl <;> decide +kernel
  refine AM (by rw [decide_eq_false hne] <;> rfl) ⟨_, rfl, P0, fun e he => KW (SqL.of ((Ah.new he) _ _ esp')) (SqL.of Ac) ⟨_, rfl, CA ?_⟩⟩
  exact qE 2 _ (s1.trans (Ah.new he)) (.far (by lia) hin)
 rintro σ' H5 hR1
 refine Gy hR1 fun s5 hz35 => ?_
 refine PX hz35 fun t zs pss' z3 z5 z6 hz35' => ?_
 clear hz35
 refine Q7 hz35' fun hq34 ht hp5 hl13 hp1 hok hmany => ?_
 clear hz35'
 obtain rfl := hq34
 try clear hR1
 have hzl := hp5.length
 refine ⟨_, rfl, P2, fun l2 hl2 => ?_⟩
 have s6 := Ah.new (o := .lst [.ref t, .str "many"]) hl2
 have el6 : upd H5 l2 (.lst [.ref t, .str "many"]) l2 = some (.lst [.ref t, .str "many"]) := Ac
 have ht6 := ht.same s6
 have hp6 := AH.same hp5 s6
 have s56 := s5.trans s6
 generalize upd H5 l2 (.lst [.ref t, .str "many"]) = H6 at el6 ht6 hp6 s56 ⊢
 refine BX ⟨_, rfl, t, rfl, ⟨_, ht6⟩, De (xs := zs) (L2 H6 pss' fun H6 pss' j us W => W = H6 ∧ us = (pss'.take j).map fun ps => V.int ((ps.length : Int) - 1)) ⟨rfl, rfl⟩ (fun j us W _ p => ⟨by rw [p.1]; exact ht6, by rw [p.2, Th, Tz]; lia⟩) (SH (AF (by lia))) ?_ ?_⟩
 ·rintro j v us W hv ⟨rfl, rfl⟩
  obtain ⟨ps, hps, a', vs', rr, rfl, hs, hnn, h0, hr⟩ := (Paired.get hp6 hv)
  have hvl := hnn.length
  refine ⟨_, rfl, a', vs', rfl, .inr hs, _, _, rfl, rfl, rfl, ?_⟩
  rw [UL, hps, UG, hvl]; rfl
 rintro us W ⟨rfl, rfl⟩ sl hsl
 rw [hzl, UM]
 have s7 := Ah.new (o := .lst (pss'.map fun ps => V.int ((ps.length : Int) - 1))) hsl
 refine ⟨sl, pss'.map fun ps => (ps.length : Int) - 1, rfl, by rw [Ac, UY]; rfl, ?_⟩
 rw [M3 hp1]
 refine ⟨_, _, rfl, rfl, .inr ⟨_, rfl, ?_⟩⟩
 have el7 := s7 _ _ el6
 by_cases hb : (12 : Int) < ((AO pss').length : Int)
 ·rw [decide_eq_true hb]
  exact ⟨l2, _, _, _, rfl, rfl, SqL.of el7, Ar (j := 1) rfl, qE 0 _ (s56.trans s7) (hmany (by lia))⟩
 ·rw [decide_eq_false hb]
  exact ⟨l2, _, _, _, rfl, rfl, SqL.of el7, Ar (j := 0) rfl, qO t zs pss' _ (s56.trans s7) (hok (by lia)) (ht6.same s7) (AH.same hp6 s7)⟩
theorem Bc : Ap ["_law_caught", "_law_some", "_law_found"] ["_law_caught"] (Ad (top 142)) := ⟨rfl, rfl, rfl, by decide +kernel, rfl, by decide +kernel, by decide +kernel⟩
theorem ES {f : Addr} {fd : FuncData} (F : Fun K "_law_refusal" "_law_refusal" (top 142) f fd) {a_TooMany a_NoPoints a_NoPoint a_NoNumber a_NoCurve a_NoStretch a_TooDeep a_TooFew a_NoText a_NoRow : Addr} (c_TooMany : mg "TooMany" = some (.ref a_TooMany)) (c_NoPoints : mg "NoPoints" = some (.ref a_NoPoints)) (c_NoPoint : mg "NoPoint" = some (.ref a_NoPoint)) (c_NoNumber : mg "NoNumber" = some (.ref a_NoNumber)) (c_NoCurve : mg "NoCurve" = some (.ref a_NoCurve)) (c_NoStretch : mg "NoStretch" = some (.ref a_NoStretch)) (c_TooDeep : mg "TooDeep" = some (.ref a_TooDeep)) (c_TooFew : mg "TooFew" = some (.ref a_TooFew)) (c_NoText : mg "NoText" = some (.ref a_NoText)) (c_NoRow : mg "NoRow" = some (.ref a_NoRow)) (QA : mg "isinstance" = none) (Qz : mg "len" = none) (QX : mg "ValueError" = none) (hT : P.given.tree = none) :
 FnH P w K mg base 33 f fd "_law_caught" (JR K [a_TooMany, a_NoPoints, a_NoPoint, a_NoNumber, a_NoCurve, a_NoStretch, a_TooDeep, a_TooFew, a_NoText, a_NoRow]) := by
 refine F.okH Bc (fun cdv A outer s H ea oe Q hr hx h => ?_)
 refine ⟨_, (Ae (K := K) (Aq (i := 1) Bc.nd rfl (Or.inl rfl) (Bx (Aa (AV (Aa AD (Aa (Ai (Gs K hx) rfl QA Av (Aa (pv 0) (Aa (AY (v := .ref a_TooMany) rfl c_TooMany rfl) Ab))) Ab))) (Aa (AV (Aa AD (Aa (Ai (Gs K hx) rfl QA Av (Aa (pv 0) (Aa (AY (v := .ref a_NoPoints) rfl c_NoPoints rfl) Ab))) Ab))) Ab))))
  (Ae (K := K) (Aq (i := 1) Bc.nd rfl (Or.inl rfl) (Ax ER (pv 1) (Bx (Aa (AV (Aa AD (Aa (Ai (Gs K hx) rfl QA Av (Aa (pv 0) (Aa (AY (v := .ref a_NoPoint) rfl c_NoPoint rfl) Ab))) Ab))) (Aa (AV (Aa AD (Aa (Ai (Gs K hx) rfl QA Av (Aa (pv 0) (Aa (AY (v := .ref a_NoNumber) rfl c_NoNumber rfl) Ab))) Ab))) Ab)))))
  (Ae (K := K) (Aq (i := 1) Bc.nd rfl (Or.inl rfl) (Ax ER (pv 1) (Bx (Aa (AV (Aa AD (Aa (Ai (Gs K hx) rfl QA Av (Aa (pv 0) (Aa (AY (v := .ref a_NoCurve) rfl c_NoCurve rfl) Ab))) Ab))) (Aa (AV (Aa AD (Aa (Ai (Gs K hx) rfl QA Av (Aa (pv 0) (Aa (AY (v := .ref a_NoStretch) rfl c_NoStretch rfl) Ab))) Ab))) Ab)))))
  (Ae (K := K) (Aq (i := 1) Bc.nd rfl (Or.inl rfl) (Ax ER (pv 1) (Bx (Aa (AV (Aa AD (Aa (Ai (Gs K hx) rfl QA Av (Aa (pv 0) (Aa (AY (v := .ref a_TooDeep) rfl c_TooDeep rfl) Ab))) Ab))) (Aa (AV (Aa AD (Aa (Ai (Gs K hx) rfl QA Av (Aa (pv 0) (Aa (AY (v := .ref a_TooFew) rfl c_TooFew rfl) Ab))) Ab))) Ab)))))
  (Ae (K := K) (Aq (i := 1) Bc.nd rfl (Or.inl rfl) (Ax ER (pv 1) (Bx (Aa (AV (Aa AD (Aa (Ai (Gs K hx) rfl QA Av (Aa (pv 0) (Aa (AY (v := .ref a_NoText) rfl c_NoText rfl) Ab))) Ab))) (Aa (AV (Aa AD (Aa (Ai (Gs K hx) rfl QA Av (Aa (pv 0) (Aa (AY (v := .ref a_NoRow) rfl c_NoRow rfl) Ab))) Ab))) Ab)))))
  (Ae (K := K) (Om (K := K) hx (i := 2) Bc.nd rfl rfl (N := ["_law_word", "_law_one"]) (nt := 2) (js := []) (AX.look (NX := ["_law_caught", "_law_some", "_law_found"]) (sc := Ad (top 142)) rfl rfl (by decide +kernel)) (pv 1) (fun u1 u2 u3 u4 u5 hxx => (Qm (K := K) (n := 2) hxx (CU (AL (i := 0) (show List.Nodup (["_law_word", "_law_one"] : List Str) from by decide +kernel) rfl (Or.inl rfl)) (CU (AL (i := 1) (show List.Nodup (["_law_word", "_law_one"] : List Str) from by decide +kernel) rfl (Or.inl rfl)) HY)))) (Lk (Fi (by decide) (Fi (by decide) JM))) (fun u1 u2 u3 u4 u5 => HW (Br (pv 1))) (fun u1 u2 u3 u4 u5 => (pv 0)) rfl)
  (Ae (K := K) (Aw (K := K) (PW.pt (Dx (Ak En (Ai (Ct K) rfl Qz Ba (Aa (pv 2) Ab)) Af (As _)) (Cw (BQ (Br (Ai (Gs K hx) rfl QA Av (Aa (pv 0) (Aa (BJ (v := .ty "ValueError") rfl QX Hh rfl) Ab)))))))) (Ag (Aj AD)) Ao (by rfl) (by rfl))
  (Ag (Aj (Au (ixL K) (pv 2) Af (fun u v => rfl)))) (by rfl)) (by rfl)) (by rfl)) (by rfl)) (by rfl)) (by rfl)) (by rfl)), ?_⟩
 obtain ⟨D, n, w, hD, R, hw, q⟩ := h
 have P2 : 2 ≤ sizeLine := by decide
 have P10 : 10 ≤ sizeLine := by decide
 refine ⟨_, rfl, D, _, _, _, hD, R.ty, rfl, rfl, R.of 0 _ rfl, P2, fun p0 h1 => ?_⟩
 have s1 : Ah H (upd H p0 (.tup [.str "many", .bl (0 == n)])) := Ah.new h1
 have w1 : WB K (upd H p0 (.tup [.str "many", .bl (0 == n)])) (.ref p0) ("many", (0 == n)) := ⟨p0, rfl, SqT.of Ac⟩
 generalize upd H p0 (.tup [.str "many", .bl (0 == n)]) = A0 at s1 w1 ⊢
 refine ⟨_, rfl, D, _, _, _, hD, R.ty, rfl, rfl, R.of 1 _ rfl, P2, fun u0 h2 => ?_⟩
 have s2 : Ah A0 (upd A0 u0 (.tup [.str "points", .bl (1 == n)])) := Ah.new h2
 have w2 : WB K (upd A0 u0 (.tup [.str "points", .bl (1 == n)])) (.ref u0) ("points", (1 == n)) := ⟨u0, rfl, SqT.of Ac⟩
 have w1 := w1.same s2
 have s2 := s1.trans s2
 generalize upd A0 u0 (.tup [.str "points", .bl (1 == n)]) = B0 at s2 w1 w2 ⊢
 refine ⟨P2, fun b0 hl => ?_⟩
 have s3 : Ah B0 (upd B0 b0 (.lst [.ref p0, .ref u0])) := Ah.new hl
 have eb : upd B0 b0 (.lst [.ref p0, .ref u0]) b0 = some (.lst [.ref p0, .ref u0]) := Ac
 have w1 := w1.same s3
 have w2 := w2.same s3
 have sT := s2.trans s3
 generalize upd B0 b0 (.lst [.ref p0, .ref u0]) = C0 at sT eb w1 w2 ⊢
 clear s1 s2 s3 h1 h2 hl
 have l0 := b0
 have S0 := sT
 have el0 := eb
 have hn0 : [V.ref p0, V.ref u0].length = 2 := rfl
 have wS0 : Paired (WB K C0) [.ref p0, .ref u0] [("many", (0 == n)), ("points", (1 == n))] := .cons w1 (.cons w2 .nil)
 generalize [V.ref p0, V.ref u0] = xs0 at el0 wS0 hn0
 clear sT eb w1 w2
 refine ⟨_, rfl, _, rfl, D, _, _, _, hD, R.ty, rfl, rfl, R.of 2 _ rfl, P2, fun p1 h1 => ?_⟩
 have s1 : Ah C0 (upd C0 p1 (.tup [.str "point", .bl (2 == n)])) := Ah.new h1
 have w1 : WB K (upd C0 p1 (.tup [.str "point", .bl (2 == n)])) (.ref p1) ("point", (2 == n)) := ⟨p1, rfl, SqT.of Ac⟩
 generalize upd C0 p1 (.tup [.str "point", .bl (2 == n)]) = A1 at s1 w1 ⊢
 refine ⟨_, rfl, D, _, _, _, hD, R.ty, rfl, rfl, R.of 3 _ rfl, P2, fun u1 h2 => ?_⟩
 have s2 : Ah A1 (upd A1 u1 (.tup [.str "number", .bl (3 == n)])) := Ah.new h2
 have w2 : WB K (upd A1 u1 (.tup [.str "number", .bl (3 == n)])) (.ref u1) ("number", (3 == n)) := ⟨u1, rfl, SqT.of Ac⟩
 have w1 := w1.same s2
 have s2 := s1.trans s2
 generalize upd A1 u1 (.tup [.str "number", .bl (3 == n)]) = B1 at s2 w1 w2 ⊢
 refine ⟨P2, fun b1 hl => ?_⟩
 have s3 : Ah B1 (upd B1 b1 (.lst [.ref p1, .ref u1])) := Ah.new hl
 have eb : upd B1 b1 (.lst [.ref p1, .ref u1]) b1 = some (.lst [.ref p1, .ref u1]) := Ac
 have w1 := w1.same s3
 have w2 := w2.same s3
 have sT := s2.trans s3
 generalize upd B1 b1 (.lst [.ref p1, .ref u1]) = C1 at sT eb w1 w2 ⊢
 clear s1 s2 s3 h1 h2 hl
 have wS := WBs.snoc (WBs.same wS0 sT) w1 w2
 have ST := S0.trans sT
 refine ⟨b0, b1, xs0, _, rfl, rfl, sT _ _ el0, eb, by rw [hn0]; exact (show 2 + 2 ≤ sizeLine by decide), fun l1 hl => ?_⟩
 have s4 : Ah C1 (upd C1 l1 (.lst (xs0 ++ [.ref p1, .ref u1]))) := Ah.new hl
 have el1 : upd C1 l1 (.lst (xs0 ++ [.ref p1, .ref u1])) l1 = some (.lst (xs0 ++ [.ref p1, .ref u1])) := Ac
 have wS1 : Paired (WB K (upd C1 l1 (.lst (xs0 ++ [.ref p1, .ref u1])))) _ [("many", (0 == n)), ("points", (1 == n)), ("point", (2 == n)), ("number", (3 == n))] := WBs.same wS s4
 have S1 := ST.trans s4
 have hn1 : (xs0 ++ [V.ref p1, V.ref u1]).length = 2 + 2 := by rw [TM, hn0]; rfl
 generalize upd C1 l1 (.lst (xs0 ++ [.ref p1, .ref u1])) = D1 at S1 el1 wS1 ⊢
 generalize xs0 ++ [V.ref p1, V.ref u1] = xs1 at el1 wS1 hn1
 clear wS sT ST S0 eb w1 w2 s4 hl wS0 el0 hn0
 refine ⟨_, rfl, _, rfl, D, _, _, _, hD, R.ty, rfl, rfl, R.of 4 _ rfl, P2, fun p2 h1 => ?_⟩
 have s1 : Ah D1 (upd D1 p2 (.tup [.str "curve", .bl (4 == n)])) := Ah.new h1
 have w1 : WB K (upd D1 p2 (.tup [.str "curve", .bl (4 == n)])) (.ref p2) ("curve", (4 == n)) := ⟨p2, rfl, SqT.of Ac⟩
 generalize upd D1 p2 (.tup [.str "curve", .bl (4 == n)]) = A2 at s1 w1 ⊢
 refine ⟨_, rfl, D, _, _, _, hD, R.ty, rfl, rfl, R.of 5 _ rfl, P2, fun u2 h2 => ?_⟩
 have s2 : Ah A2 (upd A2 u2 (.tup [.str "stretch", .bl (5 == n)])) := Ah.new h2
 have w2 : WB K (upd A2 u2 (.tup [.str "stretch", .bl (5 == n)])) (.ref u2) ("stretch", (5 == n)) := ⟨u2, rfl, SqT.of Ac⟩
 have w1 := w1.same s2
 have s2 := s1.trans s2
 generalize upd A2 u2 (.tup [.str "stretch", .bl (5 == n)]) = B2 at s2 w1 w2 ⊢
 refine ⟨P2, fun b2 hl => ?_⟩
 have s3 : Ah B2 (upd B2 b2 (.lst [.ref p2, .ref u2])) := Ah.new hl
 have eb : upd B2 b2 (.lst [.ref p2, .ref u2]) b2 = some (.lst [.ref p2, .ref u2]) := Ac
 have w1 := w1.same s3
 have w2 := w2.same s3
 have sT := s2.trans s3
 generalize upd B2 b2 (.lst [.ref p2, .ref u2]) = C2 at sT eb w1 w2 ⊢
 clear s1 s2 s3 h1 h2 hl
 have wS := WBs.snoc (WBs.same wS1 sT) w1 w2
 have ST := S1.trans sT
 refine ⟨l1, b2, xs1, _, rfl, rfl, sT _ _ el1, eb, by rw [hn1]; exact (show 4 + 2 ≤ sizeLine by decide), fun l2 hl => ?_⟩
 have s4 : Ah C2 (upd C2 l2 (.lst (xs1 ++ [.ref p2, .ref u2]))) := Ah.new hl
 have el2 : upd C2 l2 (.lst (xs1 ++ [.ref p2, .ref u2])) l2 = some (.lst (xs1 ++ [.ref p2, .ref u2])) := Ac
 have wS2 : Paired (WB K (upd C2 l2 (.lst (xs1 ++ [.ref p2, .ref u2])))) _ [("many", (0 == n)), ("points", (1 == n)), ("point", (2 == n)), ("number", (3 == n)), ("curve", (4 == n)), ("stretch", (5 == n))] := WBs.same wS s4
 have S2 := ST.trans s4
 have hn2 : (xs1 ++ [V.ref p2, V.ref u2]).length = 4 + 2 := by rw [TM, hn1]; rfl
 generalize upd C2 l2 (.lst (xs1 ++ [.ref p2, .ref u2])) = D2 at S2 el2 wS2 ⊢
 generalize xs1 ++ [V.ref p2, V.ref u2] = xs2 at el2 wS2 hn2
 clear wS sT ST S1 eb w1 w2 s4 hl wS1 el1 hn1
 refine ⟨_, rfl, _, rfl, D, _, _, _, hD, R.ty, rfl, rfl, R.of 6 _ rfl, P2, fun p3 h1 => ?_⟩
 have s1 : Ah D2 (upd D2 p3 (.tup [.str "deep", .bl (6 == n)])) := Ah.new h1
 have w1 : WB K (upd D2 p3 (.tup [.str "deep", .bl (6 == n)])) (.ref p3) ("deep", (6 == n)) := ⟨p3, rfl, SqT.of Ac⟩
 generalize upd D2 p3 (.tup [.str "deep", .bl (6 == n)]) = A3 at s1 w1 ⊢
 refine ⟨_, rfl, D, _, _, _, hD, R.ty, rfl, rfl, R.of 7 _ rfl, P2, fun u3 h2 => ?_⟩
 have s2 : Ah A3 (upd A3 u3 (.tup [.str "few", .bl (7 == n)])) := Ah.new h2
 have w2 : WB K (upd A3 u3 (.tup [.str "few", .bl (7 == n)])) (.ref u3) ("few", (7 == n)) := ⟨u3, rfl, SqT.of Ac⟩
 have w1 := w1.same s2
 have s2 := s1.trans s2
 generalize upd A3 u3 (.tup [.str "few", .bl (7 == n)]) = B3 at s2 w1 w2 ⊢
 refine ⟨P2, fun b3 hl => ?_⟩
 have s3 : Ah B3 (upd B3 b3 (.lst [.ref p3, .ref u3])) := Ah.new hl
 have eb : upd B3 b3 (.lst [.ref p3, .ref u3]) b3 = some (.lst [.ref p3, .ref u3]) := Ac
 have w1 := w1.same s3
 have w2 := w2.same s3
 have sT := s2.trans s3
 generalize upd B3 b3 (.lst [.ref p3, .ref u3]) = C3 at sT eb w1 w2 ⊢
 clear s1 s2 s3 h1 h2 hl
 have wS := WBs.snoc (WBs.same wS2 sT) w1 w2
 have ST := S2.trans sT
 refine ⟨l2, b3, xs2, _, rfl, rfl, sT _ _ el2, eb, by rw [hn2]; exact (show 6 + 2 ≤ sizeLine by decide), fun l3 hl => ?_⟩
 have s4 : Ah C3 (upd C3 l3 (.lst (xs2 ++ [.ref p3, .ref u3]))) := Ah.new hl
 have el3 : upd C3 l3 (.lst (xs2 ++ [.ref p3, .ref u3])) l3 = some (.lst (xs2 ++ [.ref p3, .ref u3])) := Ac
 have wS3 : Paired (WB K (upd C3 l3 (.lst (xs2 ++ [.ref p3, .ref u3])))) _ [("many", (0 == n)), ("points", (1 == n)), ("point", (2 == n)), ("number", (3 == n)), ("curve", (4 == n)), ("stretch", (5 == n)), ("deep", (6 == n)), ("few", (7 == n))] := WBs.same wS s4
 have S3 := ST.trans s4
 have hn3 : (xs2 ++ [V.ref p3, V.ref u3]).length = 6 + 2 := by rw [TM, hn2]; rfl
 generalize upd C3 l3 (.lst (xs2 ++ [.ref p3, .ref u3])) = D3 at S3 el3 wS3 ⊢
 generalize xs2 ++ [V.ref p3, V.ref u3] = xs3 at el3 wS3 hn3
 clear wS sT ST S2 eb w1 w2 s4 hl wS2 el2 hn2
 refine ⟨_, rfl, _, rfl, D, _, _, _, hD, R.ty, rfl, rfl, R.of 8 _ rfl, P2, fun p4 h1 => ?_⟩
 have s1 : Ah D3 (upd D3 p4 (.tup [.str "text", .bl (8 == n)])) := Ah.new h1
 have w1 : WB K (upd D3 p4 (.tup [.str "text", .bl (8 == n)])) (.ref p4) ("text", (8 == n)) := ⟨p4, rfl, SqT.of Ac⟩
 generalize upd D3 p4 (.tup [.str "text", .bl (8 == n)]) = A4 at s1 w1 ⊢
 refine ⟨_, rfl, D, _, _, _, hD, R.ty, rfl, rfl, R.of 9 _ rfl, P2, fun u4 h2 => ?_⟩
 have s2 : Ah A4 (upd A4 u4 (.tup [.str "row", .bl (9 == n)])) := Ah.new h2
 have w2 : WB K (upd A4 u4 (.tup [.str "row", .bl (9 == n)])) (.ref u4) ("row", (9 == n)) := ⟨u4, rfl, SqT.of Ac⟩
 have w1 := w1.same s2
 have s2 := s1.trans s2
 generalize upd A4 u4 (.tup [.str "row", .bl (9 == n)]) = B4 at s2 w1 w2 ⊢
 refine ⟨P2, fun b4 hl => ?_⟩
 have s3 : Ah B4 (upd B4 b4 (.lst [.ref p4, .ref u4])) := Ah.new hl
 have eb : upd B4 b4 (.lst [.ref p4, .ref u4]) b4 = some (.lst [.ref p4, .ref u4]) := Ac
 have w1 := w1.same s3
 have w2 := w2.same s3
 have sT := s2.trans s3
 generalize upd B4 b4 (.lst [.ref p4, .ref u4]) = C4 at sT eb w1 w2 ⊢
 clear s1 s2 s3 h1 h2 hl
 have wS := WBs.snoc (WBs.same wS3 sT) w1 w2
 have ST := S3.trans sT
 refine ⟨l3, b4, xs3, _, rfl, rfl, sT _ _ el3, eb, by rw [hn3]; exact (show 8 + 2 ≤ sizeLine by decide), fun l4 hl => ?_⟩
 have s4 : Ah C4 (upd C4 l4 (.lst (xs3 ++ [.ref p4, .ref u4]))) := Ah.new hl
 have el4 : upd C4 l4 (.lst (xs3 ++ [.ref p4, .ref u4])) l4 = some (.lst (xs3 ++ [.ref p4, .ref u4])) := Ac
 have wS4 : Paired (WB K (upd C4 l4 (.lst (xs3 ++ [.ref p4, .ref u4])))) _ [("many", (0 == n)), ("points", (1 == n)), ("point", (2 == n)), ("number", (3 == n)), ("curve", (4 == n)), ("stretch", (5 == n)), ("deep", (6 == n)), ("few", (7 == n)), ("text", (8 == n)), ("row", (9 == n))] := WBs.same wS s4
 have S4 := ST.trans s4
 have hn4 : (xs3 ++ [V.ref p4, V.ref u4]).length = 8 + 2 := by rw [TM, hn3]; rfl
 generalize upd C4 l4 (.lst (xs3 ++ [.ref p4, .ref u4])) = D4 at S4 el4 wS4 ⊢
 generalize xs3 ++ [V.ref p4, V.ref u4] = xs4 at el4 wS4 hn4
 clear wS sT ST S3 eb w1 w2 s4 hl wS3 el3 hn3
 refine BX ⟨_, rfl, l4, rfl, ⟨xs4, SqL.of el4⟩, ?_⟩
 have e : Cy [("many", (0 == n)), ("points", (1 == n)), ("point", (2 == n)), ("number", (3 == n)), ("curve", (4 == n)), ("stretch", (5 == n)), ("deep", (6 == n)), ("few", (7 == n)), ("text", (8 == n)), ("row", (9 == n))] = [.str w] := MB hw
 generalize [("many", (0 == n)), ("points", (1 == n)), ("point", (2 == n)), ("number", (3 == n)), ("curve", (4 == n)), ("stretch", (5 == n)), ("deep", (6 == n)), ("few", (7 == n)), ("text", (8 == n)), ("row", (9 == n))] = ps at wS4 e
 refine Nz (SqL.of el4) wS4 (by rw [hn4]; exact P10) (fun f hf => ?_)
 rw [e]
 have sf : Ah D4 (upd D4 f (.lst [.str w])) := Ah.new hf
 have ef : upd D4 f (.lst [.str w]) f = some (.lst [.str w]) := Ac
 have SF := S4.trans sf
 generalize upd D4 f (.lst [.str w]) = D5 at ef SF ⊢
 refine ⟨_, rfl, f, _, rfl, .inl (SqL.of ef), rfl, _, rfl, AM (by first | rfl | decide) ?_⟩
 refine ⟨_, rfl, D, _, _, _, hD, R.ty, rfl, rfl, R.ve, _, rfl, AM rfl ?_⟩
 exact ⟨_, rfl, f, _, _, _, rfl, rfl, SqL.of ef, rfl, q _ SF⟩
theorem Ci : Ap ["numbers", "least", "number", "fewest"] ["numbers", "least"] (Ad (top 128)) := ⟨rfl, rfl, rfl, by decide +kernel, rfl, by decide +kernel, by decide +kernel⟩
theorem Fv {f : Addr} {fd : FuncData} (F : Fun K "check_wholes" "check_wholes" (top 128) f fd) (b_zip : mg "zip" = none) (hT : P.given.tree = none) :
 Ay P w K mg base CX0 33 f fd ["numbers", "least"] (FL K) := by
 refine F.ok Ci (fun vs H Q E h => ?_) (fun cdv A outer s H vs Q E hr h => ?_)
 ·obtain ⟨_, _, _, rfl, _⟩ := h; rfl
 refine ⟨_, (Ag (D9 (K := K) PassesOwn.never rfl (Ot K rfl b_zip (Aa (pv 0) (Aa (pv 1) Ab))) (pgT K (n := 2) rfl (CU (AL (i := 2) Ci.nd rfl (Or.inl rfl)) (CU (AL (i := 3) Ci.nd rfl (Or.inl rfl)) HY))) (Ag (Aw (K := K) (PW.pt (Dx (Ak En (Au (ixT K) (pv 2) Af (fun u v => rfl)) Af (As _)) (Cw (Ak Ja (Au (ixT K) (pv 2) Af (fun u v => rfl)) (pv 3) (As _))))) (Ag Bg) Ao (by rfl) (by rfl))) (by rfl))), ?_⟩
 obtain ⟨l, t, xs, rfl, h1, h2, q⟩ := h
 exact ⟨_, rfl, _, rfl, l, t, xs, rfl, h1, h2, MR h1 h2 q⟩
theorem J2 : Ap ["thing"] ["thing"] (Ad (top 13)) := ⟨rfl, rfl, rfl, by decide +kernel, rfl, by decide +kernel, by decide +kernel⟩
theorem Jf {f : Addr} {fd : FuncData} (F : Fun K "is_whole" "is_whole" (top 13) f fd) (QA : mg "isinstance" = none) (QG : mg "int" = none) (QY : mg "bool" = none) (hT : P.given.tree = none) :
 Ay P w K mg base CX0 33 f fd ["thing"] (Mb K) := by
 refine F.ok J2 (fun vs H Q E h => ?_) (fun cdv A outer s H vs Q E hr h => ?_)
 ·obtain ⟨_, _, rfl, _⟩ := h; rfl
 refine ⟨_, (Ag (Aj (K2 (Ai (Js K) rfl QA Av (Aa (pv 0) (Aa (BJ (v := .ty "int") rfl QG Fc rfl) Ab))) (K1 (Ox (Ai (Js K) rfl QA Av (Aa (pv 0) (Aa (BJ (v := .ty "bool") rfl QY NH rfl) Ab)))))))), ?_⟩
 obtain ⟨x, b, rfl, wx, q⟩ := h
 cases wx with
 | int i => exact ⟨_, rfl, _, _, _, _, rfl, .of (.int i), OI K, true, rfl, CA ⟨_, rfl, _, _, _, _, rfl, .of (.int i), OJ K, false, rfl, q⟩⟩
 | bl y => exact ⟨_, rfl, _, _, _, _, rfl, .of (.bl y), OK K, true, rfl, CA ⟨_, rfl, _, _, _, _, rfl, .of (.bl y), OL K, true, rfl, q⟩⟩
 | oth ty hk => exact ⟨_, rfl, _, _, _, _, rfl, ty, hk, false, rfl, Bs q⟩
theorem Bb : Ap ["one", "other", "great", "small", "rest"] ["one", "other"] (Ad (top 14)) := ⟨rfl, rfl, rfl, by decide +kernel, rfl, by decide +kernel, by decide +kernel⟩
theorem Et {f : Addr} {fd : FuncData} (F : Fun K "common_measure" "common_measure" (top 14) f fd) (QI : mg "abs" = none) (hT : P.given.tree = none) :
 Ay P w K mg base CX0 33 f fd ["one", "other"] (Me) := by
 refine F.ok Bb (fun vs H Q E h => ?_) (fun cdv A outer s H vs Q E hr h => ?_)
 ·obtain ⟨_, _, rfl, _⟩ := h; rfl
 refine ⟨_, (Ae (K := K) (Aq (i := 2) Bb.nd rfl (Or.inl rfl) (Ai EB rfl QI II (Aa (pv 0) Ab)))
  (Ae (K := K) (Aq (i := 3) Bb.nd rfl (Or.inl rfl) (Ai EB rfl QI II (Aa (pv 1) Ab)))
  (Ae (K := K) (Ek PassesOwn.never (Ak En (pv 3) Af (As _)) (Ae (K := K) (Aq (i := 4) Bb.nd rfl (Or.inl rfl) (Ax Cj (pv 2) (pv 3)))
  (Ae (K := K) (Aq (i := 2) Bb.nd rfl (Or.inl rfl) (pv 3))
  (Ag (Aq (i := 3) Bb.nd rfl (Or.inl rfl) (pv 4))) (by rfl)) (by rfl)))
  (Ag (Aj (pv 2))) (by rfl)) (by rfl)) (by rfl)), ?_⟩
 obtain ⟨a, b, rfl, q⟩ := h
 refine ⟨_, rfl, a, rfl, ?_⟩
 refine ⟨_, rfl, b, rfl, ?_⟩
 refine IS (L3 H a b fun H a b σ H' => H' = H ∧ ∃ (x y : Int) (r : Option V), σ = [some (.int a), some (.int b), some (.int x), some (.int y), r] ∧ 0 ≤ x ∧ 0 ≤ y ∧ U7 x y = U7 a b) (fun σ _ => mu 3 σ)
  ⟨rfl, _, _, none, rfl, ?_, ?_, ?_⟩ ?_ ?_
 ·rw [Nm.abs_if]; exact V6 _
 ·rw [Nm.abs_if]; exact V6 _
 ·rw [Nm.abs_if, Nm.abs_if]; rfl
 ·rintro σ H' hR1
  refine Gy hR1 fun hq38 hz40 => ?_
  refine IB hz40 fun x y r hz40' => ?_
  clear hz40
  refine Gx hz40' fun hq39 hx hy hg => ?_
  clear hz40'
  obtain rfl := hq38
  obtain rfl := hq39
  try clear hR1
  refine ⟨_, rfl, rfl, _, rfl, ?_⟩
  by_cases hy0 : y = 0
  ·subst hy0
   refine AM (by rw [decide_eq_true rfl] <;> rfl) ⟨_, rfl, ?_⟩
   have e : (U7 a b : Int) = x := by rw [← hg, Int.gcd_zero]; lia
   rw [e] at q
   exact q
  ·refine Be (by rw [decide_eq_false (fun z => hy0 (V.int.inj z))] <;> rfl) ?_
   have hyp : 0 < y := by lia
   refine ⟨_, rfl, _, rfl, _, _, rfl, rfl, hyp, ?_⟩
   refine ⟨_, rfl, _, rfl, ⟨rfl, y, x % y, _, rfl, hy, Uu _ hy0, ?_⟩, ?_⟩
   ·rw [Nm.gcd_turn]; exact hg
   ·show (x % y).toNat < y.toNat
    have := Uv x hyp
    lia
 ·rintro σ H' Q1 Q2 hm hR2
  obtain ⟨v, e, s1, k, ek, q1⟩ := hR2
  try clear hR2
  exact ⟨v, e, s1, k, ek, hm _ _ q1⟩
theorem HP : Ap ["thing"] ["thing"] (Ad (top 15)) := ⟨rfl, rfl, rfl, by decide +kernel, rfl, by decide +kernel, by decide +kernel⟩
theorem Il {f : Addr} {fd : FuncData} (F : Fun K "is_number" "is_number" (top 15) f fd) (Rl : Fd P w K mg base 33 "is_whole" ["thing"] (Mb K)) (RE : Fd P w K mg base 33 "common_measure" ["one", "other"] (Me)) (QA : mg "isinstance" = none) (QB : mg "tuple" = none) (Qz : mg "len" = none) (hT : P.given.tree = none) :
 Ay P w K mg base CX0 34 f fd ["thing"] (Kt K) := by
 refine F.ok HP (fun vs H Q E h => ?_) (fun cdv A outer s H vs Q E hr h => ?_)
 ·obtain ⟨_, _, rfl, _⟩ := h; rfl
 refine ⟨_, (Ae (K := K) (Aw (K := K) (PW.pt (Dx (BQ (Br (Ai (Js K) rfl QA Av (Aa (pv 0) (Aa (BJ (v := .ty "tuple") rfl QB Bz rfl) Ab))))) (Cw (Ak En (Ai (Ct K) rfl Qz Ba (Aa (pv 0) Ab)) Af (As _))))) (Ag (Aj Em)) Ao (by rfl) (by rfl))
  (Ae (K := K) (Aw (K := K) (PW.pt (Dx (BQ (Br (Az Rl hr rfl (Aa (Au (ixT K) (pv 0) Af (fun u v => rfl)) Ab)))) (Cw (BQ (Br (Az Rl hr rfl (Aa (Au (ixT K) (pv 0) Af (fun u v => rfl)) Ab))))))) (Ag (Aj Em)) Ao (by rfl) (by rfl))
  (Ag (Aj (K2 (Cr NW (Au (ixT K) (pv 0) Af (fun u v => rfl)) Af (As _)) (K1 (Cr BH (Az RE hr rfl (Aa (Au (ixT K) (pv 0) Af (fun u v => rfl)) (Aa (Au (ixT K) (pv 0) Af (fun u v => rfl)) Ab))) Af (As _)))))) (by rfl)) (by rfl)), ?_⟩
 obtain ⟨x, b, rfl, nx, q⟩ := h
 cases nx with
 | no ty hk => exact ⟨_, rfl, _, _, _, _, rfl, ty, hk, false, rfl, CA (CA q)⟩
 | @len a xs ha hl =>
   refine ⟨_, rfl, _, _, _, _, rfl, .tup ha, EX K, true, rfl, Bs ?_⟩
   refine ⟨_, rfl, a, xs, rfl, .inr ha, rfl, _, rfl, ?_⟩
   have hn : ¬ (V.int (xs.length : Int) = V.int 2) := fun z => hl (by have := V.int.inj z; lia)
   exact Be (by rw [decide_eq_false hn] <;> rfl) q
 | @one a p q' ha wp =>
   refine ⟨_, rfl, _, _, _, _, rfl, .tup ha, EX K, true, rfl, Bs ?_⟩
   refine ⟨_, rfl, a, _, rfl, .inr ha, rfl, _, rfl, Bs ?_⟩
   refine ⟨_, rfl, a, _, _, _, rfl, rfl, ha, rfl, _, _, rfl, wp, _, rfl, CA (CA q)⟩
 | @two a i q' ha wq =>
   refine ⟨_, rfl, _, _, _, _, rfl, .tup ha, EX K, true, rfl, Bs ?_⟩
   refine ⟨_, rfl, a, _, rfl, .inr ha, rfl, _, rfl, Bs ?_⟩
   refine ⟨_, rfl, a, _, _, _, rfl, rfl, ha, rfl, _, _, rfl, .int i, _, rfl, Bs ?_⟩
   refine ⟨_, rfl, a, _, _, _, rfl, rfl, ha, rfl, _, _, rfl, wq, _, rfl, CA q⟩
 | @nums a i j _ ha e =>
   refine ⟨_, rfl, _, _, _, _, rfl, .tup ha, EX K, true, rfl, Bs ?_⟩
   refine ⟨_, rfl, a, _, rfl, .inr ha, rfl, _, rfl, Bs ?_⟩
   refine ⟨_, rfl, a, _, _, _, rfl, rfl, ha, rfl, _, _, rfl, .int i, _, rfl, Bs ?_⟩
   refine ⟨_, rfl, a, _, _, _, rfl, rfl, ha, rfl, _, _, rfl, .int j, _, rfl, Bs ?_⟩
   refine ⟨_, rfl, a, _, _, _, rfl, rfl, ha, rfl, _, _, rfl, rfl, _, rfl, ?_⟩
   subst e
   by_cases hj : 1 ≤ j
   ·rw [decide_eq_true hj] at q ⊢
    refine CA ⟨_, rfl, a, _, _, _, rfl, rfl, ha, rfl, _, rfl, a, _, _, _, rfl, rfl, ha, rfl, _, _, rfl, rfl, ?_⟩
    have ev : decide (V.int (U7 i j : Int) = V.int 1) = decide ((U7 i j : Int) = 1) := by
     by_cases z : (U7 i j : Int) = 1
     ·rw [z]; rfl
     ·rw [decide_eq_false z, decide_eq_false fun y => z (V.int.inj y)]
    rw [Bool.true_and] at q
    rw [ev]
    exact q
   ·rw [decide_eq_false hj] at q ⊢
    exact Bs q
theorem FZ : Ap ["text", "most"] ["text", "most"] (Ad (top 97)) := ⟨rfl, rfl, rfl, by decide +kernel, rfl, by decide +kernel, by decide +kernel⟩
theorem Gh {f : Addr} {fd : FuncData} (F : Fun K "are_figures" "are_figures" (top 97) f fd) (QE : mg "all" = none) (Qz : mg "len" = none) {t_FIGURES : Tok} (c_FIGURES : mg "FIGURES" = some (.str "0123456789" t_FIGURES)) (hT : P.given.tree = none) :
 Ay P w K mg base CX0 33 f fd ["text", "most"] (Ku) := by
 refine F.ok FZ (fun vs H Q E h => ?_) (fun cdv A outer s H vs Q E hr h => ?_)
 ·obtain ⟨_, rfl, _⟩ := h; rfl
 refine ⟨_, (Ae (K := K) (Aw (K := K) (PW.pt (Dx (Ak BH (Ai F0 rfl Qz Ba (Aa (pv 0) Ab)) Af (As _)) (Cw (Ak Di (Ai F0 rfl Qz Ba (Aa (pv 0) Ab)) (pv 1) (As _))))) (Ag (Aj Em)) Ao (by rfl) (by rfl))
  (Ae (K := K) (Aw (K := K) (PW.pt (JW (Ak BH (Au OS (pv 0) Af (fun u v => rfl)) AD (As _)) (HV (Ak Di (Ai F0 rfl Qz Ba (Aa (pv 0) Ab)) Af (As _))))) (Ag (Aj Em)) Ao (by rfl) (by rfl))
  (Ag (Aj (Ai (NM K rfl) rfl QE IH (Aa (Ck rfl (N := ["sign"]) (nt := 1) (js := []) (AX.look (NX := ["text", "most"]) (sc := Ad (top 97)) rfl rfl (by decide +kernel)) (PL (pv 0)) (fun u1 u2 u3 u4 u5 => (AL (i := 0) (show List.Nodup (["sign"] : List Str) from by decide +kernel) rfl (Or.inl rfl))) (AK (by decide)) (fun u1 u2 u3 u4 u5 => Bi) (fun u1 u2 u3 u4 u5 => (Cr Lr (pv 0) (AY (v := .str "0123456789") rfl c_FIGURES ⟨_, rfl⟩) (by with_unfolding_all rfl)))) Ab)))) (by rfl)) (by rfl)), ?_⟩
 obtain ⟨t, rfl, ⟨f1, f2, f3, f4⟩, q⟩ := h
 have hs := sizeLine_eq
 obtain ⟨c, r, e⟩ : ∃ c r, sg t = c :: r := by
  cases hc : sg t with
  | nil => exact absurd hc f1
  | cons c r => exact ⟨c, r, rfl⟩
 have hl := AI t
 have hz : t.length ≤ sizeLine := by lia
 have h0 : 1 ≤ t.length := by rw [hl, e]; simp
 refine ⟨_, rfl, t, rfl, hz, rfl, _, rfl, ?_⟩
 refine AM (by rw [decide_eq_false (show ¬ V.int ((t.length : Nat) : Int) = V.int 0 from fun z => by have := V.int.inj z; lia)] <;> rfl) ⟨_, rfl, t, rfl, hz, _, rfl, _, _, rfl, rfl, _, rfl, ?_⟩
 refine AM (by rw [decide_eq_false (show ¬ ((t.length : Nat) : Int) > 6 by lia)] <;> rfl) ⟨_, rfl, t, _, c, rfl, rfl, hz, (by rw [show t.cps.toList = c :: r from e]; exact Ar (j := 0) rfl), rfl, _, rfl, ?_⟩
 by_cases hc : c = 48
 ·subst hc
  have hr1 := f4 r e
  have h1 : t.length = 1 := by rw [hl, e, hr1]; rfl
  refine Be (by rw [decide_eq_true (show V.str ⟨#[48]⟩ = V.str (Str.ofString "0") from by decide +kernel)] <;> rfl) ⟨_, rfl, t, rfl, hz, _, _, rfl, rfl, _, rfl, ?_⟩
  refine AM (by rw [decide_eq_false (show ¬ ((t.length : Nat) : Int) > 1 by lia)] <;> rfl) ?_
  refine BX ⟨⟨_, rfl, t, rfl, fun d hd => by have := f3 d hd; lia, Jp (fun i zs H' => H' = H ∧ zs = Tv i (.bl true)) ⟨rfl, rfl⟩ (fun i zs H' _ h => by rw [h.2, TN]) (by lia) ?_ ?_⟩⟩
  ·rintro i d zs H' hd ⟨rfl, rfl⟩
   have hm := f3 d (TL hd)
   refine ⟨_, rfl, _, _, rfl, rfl, ?_⟩
   rw [MT hm.1 hm.2]
   exact ⟨rfl, by rw [← V8]⟩
  rintro zs H' ⟨rfl, rfl⟩ p hp
  refine ⟨p, Tv (sg t).length true, rfl, SqL.of (by rw [V9]; exact Ac), ?_⟩
  rw [IK]
  exact q _ (Ah.new hp)
 ·rw [decide_eq_false (show ¬ V.str ⟨#[c]⟩ = V.str (Str.ofString "0") from fun z => hc (by
   have z1 := congrArg sg (V.str.inj z)
   rw [Cg] at z1
   exact (Um.inj z1).1))]
  refine Bs ?_
  refine BX ⟨⟨_, rfl, t, rfl, fun d hd => by have := f3 d hd; lia, Jp (fun i zs H' => H' = H ∧ zs = Tv i (.bl true)) ⟨rfl, rfl⟩ (fun i zs H' _ h => by rw [h.2, TN]) (by lia) ?_ ?_⟩⟩
  ·rintro i d zs H' hd ⟨rfl, rfl⟩
   have hm := f3 d (TL hd)
   refine ⟨_, rfl, _, _, rfl, rfl, ?_⟩
   rw [MT hm.1 hm.2]
   exact ⟨rfl, by rw [← V8]⟩
  rintro zs H' ⟨rfl, rfl⟩ p hp
  refine ⟨p, Tv (sg t).length true, rfl, SqL.of (by rw [V9]; exact Ac), ?_⟩
  rw [IK]
  exact q _ (Ah.new hp)
theorem Lo : Ap ["text", "most"] ["text", "most"] (Ad (top 98)) := ⟨rfl, rfl, rfl, by decide +kernel, rfl, by decide +kernel, by decide +kernel⟩
theorem Lv {f : Addr} {fd : FuncData} (F : Fun K "is_top" "is_top" (top 98) f fd) (QR : Fd P w K mg base 33 "are_figures" ["text", "most"] (Ku)) (hT : P.given.tree = none) :
 Ay P w K mg base CX0 34 f fd ["text", "most"] (Mc) := by
 refine F.ok Lo (fun vs H Q E h => ?_) (fun cdv A outer s H vs Q E hr h => ?_)
 ·obtain ⟨_, rfl, _⟩ := h; rfl
 refine ⟨_, (Ae (K := K) (Aw (K := K) (Br (BR K PySem.F.plainAttrs_str PySem.F.slot_str_startswith PySem.F.type_str_startswith H9 (pv 0) (Aa AD Ab))) (Ag (Aj (K2 (Cr En (pv 0) AD (As _)) (K1 (Az QR hr rfl (Aa (Bh Oc (pv 0) (Bv Af) Bw) (Aa (pv 1) Ab))))))) Ao (by rfl) (by rfl))
  (Ag (Aj (Az QR hr rfl (Aa (pv 0) (Aa (pv 1) Ab))))) (by rfl)), ?_⟩
 obtain ⟨i, rfl, hi, q⟩ := h
 have hs' := sizeLine_eq
 have ln := E6 hi
 rcases EF i with ⟨n, e, hs⟩ | ⟨n, hp, e, hs⟩
 ·obtain ⟨c, r, ec⟩ : ∃ c r, dg n = c :: r := by
   cases hc : dg n with
   | nil => exact absurd hc (Jz n)
   | cons c r => exact ⟨c, r, rfl⟩
  have hc := Ey (n := n) (c := c) (by rw [ec]; simp)
  refine ⟨_, rfl, rfl, _, _, rfl, rfl, _, rfl, ?_⟩
  rw [Ll (hs.trans ec) (by lia)]
  exact Bs ⟨_, rfl, _, rfl, _, rfl, IA hs (by lia), q⟩
 ·refine ⟨_, rfl, rfl, _, _, rfl, rfl, _, rfl, ?_⟩
  rw [JN hs]
  refine CA ⟨_, rfl, rfl, _, rfl, ?_⟩
  rw [decide_eq_false (show ¬ V.str (txI i) = V.str (Str.ofString "-0") from fun z => by
   have z1 := congrArg sg (V.str.inj z)
   rw [Cg, hs] at z1
   have z2 := Ko n
   rw [(Um.inj z1).2] at z2
   have : n = 0 := z2.symm
   lia)]
  exact CA ⟨_, rfl, _, rfl, txI i, 45, dg n, rfl, rfl, rfl, hs, by lia, _, rfl, _, rfl, IA (n := n) (by simp [sg]) (by lia), q⟩
theorem D7 : Ap ["text", "most", "parts", "number"] ["text", "most"] (Ad (top 99)) := ⟨rfl, rfl, rfl, by decide +kernel, rfl, by decide +kernel, by decide +kernel⟩
theorem Ik {f : Addr} {fd : FuncData} (F : Fun K "number_in" "number_in" (top 99) f fd) (QZ : Fd P w K mg base 34 "is_number" ["thing"] (Kt K)) (F_is_top : Fd P w K mg base 34 "is_top" ["text", "most"] (Mc)) (QR : Fd P w K mg base 33 "are_figures" ["text", "most"] (Ku)) (Qz : mg "len" = none) (QG : mg "int" = none) (hT : P.given.tree = none) :
 Ay P w K mg base CX0 35 f fd ["text", "most"] (FC) := by
 refine F.ok D7 (fun vs H Q E h => ?_) (fun cdv A outer s H vs Q E hr h => ?_)
 ·obtain ⟨_, rfl, _⟩ := h; rfl
 refine ⟨_, (Ae (K := K) (Aq (i := 2) D7.nd rfl (Or.inl rfl) (BR K PySem.F.plainAttrs_str PySem.F.slot_str_split PySem.F.type_str_split DB (pv 0) (Aa AD Ab)))
  (Ae (K := K) (Aw (K := K) (PW.pt (Dx (Ak Di (Ai (Ct K) rfl Qz Ba (Aa (pv 2) Ab)) Af (As _)) (Cw (BQ (Br (Az F_is_top hr rfl (Aa (Au (ixL K) (pv 2) Af (fun u v => rfl)) (Aa (pv 1) Ab)))))))) (Ag (Aj Dd)) Ao (by rfl) (by rfl))
  (Ae (K := K) (Aw (K := K) (Ak BH (Ai (Ct K) rfl Qz Ba (Aa (pv 2) Ab)) Af (As _)) (Ag (Aj (AV (Aa (AN Fb rfl QG Fc (Aa (pv 0) Ab)) (Aa Af Ab))))) Ao (by rfl) (by rfl))
  (Ae (K := K) (Aw (K := K) (PW.pt (Dx (Ak BH (Au (ixL K) (pv 2) Af (fun u v => rfl)) AD (As _)) (Cw (BQ (Br (Az QR hr rfl (Aa (Au (ixL K) (pv 2) Af (fun u v => rfl)) (Aa (pv 1) Ab)))))))) (Ag (Aj Dd)) Ao (by rfl) (by rfl))
  (Ae (K := K) (Aq (i := 3) D7.nd rfl (Or.inl rfl) (AV (Aa (AN Fb rfl QG Fc (Aa (Au (ixL K) (pv 2) Af (fun u v => rfl)) Ab)) (Aa (AN Fb rfl QG Fc (Aa (Au (ixL K) (pv 2) Af (fun u v => rfl)) Ab)) Ab))))
  (Ag (Aj (G8 (Br (Az QZ hr rfl (Aa (pv 3) Ab))) (pv 3) Dd))) (by rfl)) (by rfl)) (by rfl)) (by rfl)) (by rfl)), ?_⟩
 obtain ⟨x, rfl, hf, q⟩ := h
 have hs := sizeLine_eq
 have P2 : 2 ≤ sizeLine := by decide
 have lt := MI hf
 have hd := hf.2
 refine ⟨_, rfl, rfl, _, _, rfl, rfl, by rw [AI, Cg]; rfl, by lia, fun p hp => ?_⟩
 rw [LY]
 have s1 : ∀ o, Ah H (upd H p o) := fun o => Ah.new hp
 by_cases h1 : x.den = 1
 ·have e : tx x = txI x.num := if_pos h1
  rw [if_pos h1, e]
  refine ⟨_, rfl, p, _, rfl, .inl (SqL.of Ac), _, _, rfl, rfl, _, rfl, Bs ?_⟩
  refine ⟨_, rfl, p, _, _, _, rfl, rfl, SqL.of Ac, rfl, _, rfl, _, rfl, hf.1, fun H1 m1 => ?_⟩
  refine ⟨_, rfl, Bs ?_⟩
  have e1 : H1 p = some (.lst [.str (txI x.num)]) := m1 _ _ Ac
  refine ⟨_, rfl, p, _, rfl, .inl (SqL.of e1), rfl, _, rfl, CA ?_⟩
  refine ⟨_, rfl, _, rfl, UP hf.1 (by decide), P2, fun t ht => ?_⟩
  have m2 := (s1 _).trans (m1.trans (Ah.new (o := .tup [.int x.num, .int 1]) ht))
  refine q t _ m2 ?_ (by rw [show nT x = .tup [.int x.num, .int 1] from by unfold nT; rw [h1]; rfl]; exact Ac)
  cases hn : H t with
  | none => rfl
  | some o => exact absurd (m1 _ _ (s1 _ _ _ hn)) (by rw [ht]; exact fun z => nomatch z)
 ·rw [if_neg h1]
  refine ⟨_, rfl, p, _, rfl, .inl (SqL.of Ac), _, _, rfl, rfl, _, rfl, Bs ?_⟩
  refine ⟨_, rfl, p, _, _, _, rfl, rfl, SqL.of Ac, rfl, _, rfl, _, rfl, hf.1, fun H1 m1 => ?_⟩
  refine ⟨_, rfl, Bs ?_⟩
  have e1 : H1 p = some (.lst [.str (txI x.num), .str (txI x.den)]) := m1 _ _ Ac
  refine ⟨_, rfl, p, _, rfl, .inl (SqL.of e1), rfl, _, rfl, Bs ?_⟩
  refine ⟨_, rfl, p, _, _, _, rfl, rfl, SqL.of e1, rfl, rfl, _, rfl, ?_⟩
  rw [decide_eq_false (show ¬ V.str (txI x.den) = V.str (Str.ofString "1") from fun z => h1 (by
   have z1 := congrArg sg (V.str.inj z)
   rw [Cg, JS] at z1
   have z2 := Ko x.den
   rw [z1] at z2
   exact z2.symm))]
  refine Bs ?_
  refine ⟨_, rfl, p, _, _, _, rfl, rfl, SqL.of e1, rfl, _, rfl, _, rfl, IA (JS x.den) hd, fun H2 m2 => ?_⟩
  refine ⟨_, rfl, Bs ?_⟩
  have e2 : H2 p = some (.lst [.str (txI x.num), .str (txI x.den)]) := m2 _ _ e1
  refine ⟨_, rfl, p, _, _, _, rfl, rfl, SqL.of e2, rfl, _, rfl, UP hf.1 (by decide), _, rfl, p, _, _, _, rfl, rfl, SqL.of e2, rfl, _, rfl, by lia, P2, fun t ht => ?_⟩
  have et : upd H2 t (.tup [.int x.num, .int (x.den : Int)]) t = some (nT x) := Ac
  refine ⟨_, rfl, _, true, rfl, Nb.of (AU.of et), ?_⟩
  have m3 := Ah.refl (upd H2 t (.tup [.int x.num, .int (x.den : Int)]))
  refine ⟨_, rfl, CA ⟨_, rfl, ?_⟩⟩
  refine q t _ ((s1 _).trans (m1.trans (m2.trans ((Ah.new ht).trans m3)))) ?_ (m3 _ _ et)
  cases hn : H t with
  | none => rfl
  | some o => exact absurd (m2 _ _ (m1 _ _ (s1 _ _ _ hn))) (by rw [ht]; exact fun z => nomatch z)
theorem BZ : Ap ["words", "numbers", "counts"] ["words"] (Ad (top 129)) := ⟨rfl, rfl, rfl, by decide +kernel, rfl, by decide +kernel, by decide +kernel⟩
theorem Es {f : Addr} {fd : FuncData} (F : Fun K "numbers_of_row" "numbers_of_row" (top 129) f fd) (RF : Fd P w K mg base 33 "check_wholes" ["numbers", "least"] (FL K)) (R1 : Fd P w K mg base 35 "number_in" ["text", "most"] (FC)) (Qz : mg "len" = none) {t_SIX : Tok} (c_SIX : mg "SIX" = some (.int 6 t_SIX)) (hT : P.given.tree = none) {g_COUNTS_0 : Addr} (s_COUNTS_0 : ∀ H : Hp, SqT K H g_COUNTS_0 [.int 2, .int 3]) {g_COUNTS_1 : Addr} (s_COUNTS_1 : ∀ H : Hp, SqT K H g_COUNTS_1 [.int 1, .int 1]) {g_COUNTS_2 : Addr} (s_COUNTS_2 : ∀ H : Hp, SqT K H g_COUNTS_2 [.int 2, .int 2]) {g_COUNTS_3 : Addr} (s_COUNTS_3 : ∀ H : Hp, SqT K H g_COUNTS_3 [.int 2, .int 2]) {g_COUNTS_4 : Addr} (s_COUNTS_4 : ∀ H : Hp, SqT K H g_COUNTS_4 [.int 1, .int 1]) {g_COUNTS_5 : Addr} (s_COUNTS_5 : ∀ H : Hp, SqT K H g_COUNTS_5 [.int 0, .int 0]) {g_COUNTS_6 : Addr} {g_COUNTS_7 : Addr} {g_COUNTS_8 : Addr} {g_COUNTS_9 : Addr} {g_COUNTS_10 : Addr} {g_COUNTS_11 : Addr} {g_COUNTS_12 : Addr} {g_COUNTS_13 : Addr} {g_COUNTS_14 : Addr} {a_COUNTS : Addr} (c_COUNTS : mg "COUNTS" = some (.ref a_COUNTS)) (d_COUNTS : KDk P w K a_COUNTS [(Sum.inr "put", .ref g_COUNTS_0), (Sum.inr "take", .ref g_COUNTS_1), (Sum.inr "height", .ref g_COUNTS_2), (Sum.inr "slope", .ref g_COUNTS_3), (Sum.inr "noslope", .ref g_COUNTS_4), (Sum.inr "points", .ref g_COUNTS_5), (Sum.inr "curve", .ref g_COUNTS_6), (Sum.inr "steps", .ref g_COUNTS_7), (Sum.inr "at", .ref g_COUNTS_8), (Sum.inr "slopeat", .ref g_COUNTS_9), (Sum.inr "misses", .ref g_COUNTS_10), (Sum.inr "bounds", .ref g_COUNTS_11), (Sum.inr "noughts", .ref g_COUNTS_12), (Sum.inr "wrong", .ref g_COUNTS_13), (Sum.inr "quotient", .ref g_COUNTS_14)]) {g_LEAST_0 : Addr} {g_LEAST_1 : Addr} {a_LEAST : Addr} (c_LEAST : mg "LEAST" = some (.ref a_LEAST)) (d_LEAST : KDk P w K a_LEAST [(Sum.inr "wrong", .ref g_LEAST_0), (Sum.inr "quotient", .ref g_LEAST_1)]) :
 Ay P w K mg base CX0 36 f fd ["words"] (DI K) := by
 refine F.ok BZ (fun vs H Q E h => ?_) (fun cdv A outer s H vs Q E hr h => ?_)
 ·obtain ⟨_, _, _, rfl, _⟩ := h; rfl
 refine ⟨_, (Ae (K := K) (Aw (K := K) (JZ (K3 P w K (Au (ixL K) (pv 0) Af (fun u v => rfl)) (AY (v := .ref a_COUNTS) rfl c_COUNTS rfl)) (by with_unfolding_all rfl)) (Ag Bg) Ao (by rfl) (by rfl))
  (Ae (K := K) (KC (i := 1) rfl BZ.nd rfl rfl (N := ["word"]) (nt := 1) (js := []) (AX.look (NX := ["words", "numbers", "counts"]) (sc := Ad (top 129)) rfl rfl (by decide +kernel)) (piL K (Bh (slL K) (pv 0) (Bv Af) Bw)) (fun u1 u2 u3 u4 u5 => (AL (i := 0) (show List.Nodup (["word"] : List Str) from by decide +kernel) rfl (Or.inl rfl))) (AK (by decide)) (fun u1 u2 u3 u4 u5 => Bi) (fun u1 u2 u3 u4 u5 => (Az R1 hr rfl (Aa (pv 0) (Aa (AY (v := .int 6) rfl c_SIX ⟨_, rfl⟩) Ab)))) rfl)
  (Ae (K := K) (Aq (i := 2) BZ.nd rfl (Or.inl rfl) (El P w K (AY (v := .ref a_COUNTS) rfl c_COUNTS rfl) (Au (ixL K) (pv 0) Af (fun u v => rfl)) (fun u v => rfl)))
  (Ae (K := K) (Aw (K := K) (PW.pt (Dx (Ak Ja (Ai (Ct K) rfl Qz Ba (Aa (pv 1) Ab)) (Au (ixT K) (pv 2) Af (fun u v => rfl)) (As _)) (Cw (Ak Di (Ai (Ct K) rfl Qz Ba (Aa (pv 1) Ab)) (Au (ixT K) (pv 2) Af (fun u v => rfl)) (As _))))) (Ag Bg) Ao (by rfl) (by rfl))
  (Ae (K := K) (Aw (K := K) (Ak (inD K hr) Dd (pv 1) (by with_unfolding_all rfl)) (Ag Bg) Ao (by rfl) (by rfl))
  (Ae (K := K) (Dc (Az RF hr rfl (Aa (pv 1) (Aa (Lq P w K (AY (v := .ref a_LEAST) rfl c_LEAST rfl) (Au (ixL K) (pv 0) Af (fun u v => rfl)) (AV Ab) ⟨rfl, rfl, rfl, rfl⟩) Ab))))
  (Ag (Aj (pv 1))) (by rfl)) (by rfl)) (by rfl)) (by rfl)) (by rfl)) (by rfl)), ?_⟩
 obtain ⟨l, i, qs, rfl, hS, i6, hlo, hhi, hf, q⟩ := h
 have hs := sizeLine_eq
 have P0 : 0 ≤ sizeLine := by decide
 have hi : i = 0 ∨ i = 1 ∨ i = 2 ∨ i = 3 ∨ i = 4 ∨ i = 5 := by lia
 have hl3 : qs.length ≤ 3 := by rcases hi with rfl | rfl | rfl | rfl | rfl | rfl <;> exact SG hhi (by decide)
 obtain ⟨kvs, g, dC, hg, hT⟩ : ∃ kvs g, KDk P w K a_COUNTS kvs ∧ CL kvs (Sum.inr (wd i)) = some (.ref g) ∧ ∀ H : Hp, SqT K H g [.int (loW i : Nat), .int (hiW i : Nat)] := by
  rcases hi with rfl | rfl | rfl | rfl | rfl | rfl
  ·exact ⟨_, _, d_COUNTS, rfl, s_COUNTS_0⟩
  ·exact ⟨_, _, d_COUNTS, rfl, s_COUNTS_1⟩
  ·exact ⟨_, _, d_COUNTS, rfl, s_COUNTS_2⟩
  ·exact ⟨_, _, d_COUNTS, rfl, s_COUNTS_3⟩
  ·exact ⟨_, _, d_COUNTS, rfl, s_COUNTS_4⟩
  ·exact ⟨_, _, d_COUNTS, rfl, s_COUNTS_5⟩
 obtain ⟨kvl, dL, hn⟩ : ∃ kvs, KDk P w K a_LEAST kvs ∧ CL kvs (Sum.inr (wd i)) = none := by
  rcases hi with rfl | rfl | rfl | rfl | rfl | rfl <;> exact ⟨_, d_LEAST, rfl⟩
 clear d_COUNTS d_LEAST s_COUNTS_0 s_COUNTS_1 s_COUNTS_2 s_COUNTS_3 s_COUNTS_4 s_COUNTS_5 hi i6
 refine ⟨⟨_, rfl, l, _, _, _, rfl, rfl, hS, Ar (j := 0) rfl, a_COUNTS, kvs, Sum.inr (wd i), rfl, dC, rfl, _, rfl, ?_⟩⟩
 rw [hg]
 refine Bs ?_
 refine BX ⟨_, rfl, 1, rfl, l, _, rfl, hS, fun c hc => ?_⟩
 have ec : Gw (V.str (wd i) :: qs.map fun x => V.str (tx x)) (some 1) none = qs.map (fun x => V.str (tx x)) := (JA _ 1).trans rfl
 rw [ec]
 have s1 : Ah H (upd H c (.lst (qs.map fun x => V.str (tx x)))) := Ah.new hc
 have e1 : upd H c (.lst (qs.map fun x => V.str (tx x))) c = some (.lst (qs.map fun x => V.str (tx x))) := Ac
 generalize upd H c (.lst (qs.map fun x => V.str (tx x))) = H1 at s1 e1 ⊢
 refine ⟨c, rfl, ⟨_, SqL.of e1⟩, Iv (xs := qs.map fun x => V.str (tx x)) (fun i zs H' => Ah H1 H' ∧ zs.length = i ∧ AJ H' zs (qs.take i)) ⟨Ah.refl _, rfl, .nil⟩ (fun i zs H' _ h => ⟨SqL.of (h.1 _ _ e1), h.2.1⟩) (by rw [Th]; lia) ?_ ?_⟩
 ·rintro j v zs H' hv ⟨sm, hl, hn⟩
  rw [TJ] at hv
  obtain ⟨x, hx, rfl⟩ := (Va.mp hv)
  refine ⟨_, rfl, x, rfl, hf x (TL hx), fun p H2 m2 hp e2 => ⟨sm.trans m2, by simp [hl], ?_⟩⟩
  rw [UL, hx]
  exact Paired.snoc (AJ.same hn m2) ⟨p, rfl, e2⟩
 rintro zs H' ⟨sm, hl, hz⟩ p hp
 rw [Th, UM] at *
 have s2 : Ah H (upd H' p (.lst zs)) := (s1.trans sm).trans (Ah.new hp)
 have hHp : H p = none := (s1.trans sm).free hp
 have ep : upd H' p (.lst zs) p = some (.lst zs) := Ac
 have hz2 := AJ.same hz (Ah.new (o := .lst zs) hp)
 generalize upd H' p (.lst zs) = H2 at s2 ep hz2 ⊢
 clear hz hp sm s1 e1
 refine ⟨⟨_, rfl, l, _, _, _, rfl, rfl, Ah.seq s2 hS, Ar (j := 0) rfl, a_COUNTS, kvs, Sum.inr (wd i), _, rfl, dC, rfl, hg, ?_⟩⟩
 refine ⟨_, rfl, p, _, rfl, .inl (SqL.of ep), _, rfl, g, _, _, _, rfl, rfl, hT H2, Ar (j := 0) rfl, _, _, rfl, rfl, ?_⟩
 have hzl : zs.length = qs.length := hz2.length
 refine ⟨_, rfl, ?_⟩
 refine AM (by rw [decide_eq_false (show ¬ ((zs.length : Nat) : Int) < ((loW i : Nat) : Int) by lia)] <;> rfl) ⟨_, rfl, p, _, rfl, .inl (SqL.of ep), _, rfl, g, _, _, _, rfl, rfl, hT H2, Ar (j := 1) rfl, _, _, rfl, rfl, _, rfl, ?_⟩
 refine AM (by rw [decide_eq_false (show ¬ ((zs.length : Nat) : Int) > ((hiW i : Nat) : Int) by lia)] <;> rfl) ?_
 refine ⟨_, rfl, Ke ⟨p, qs.map nD, .none, rfl, BI.rdsL hz2.nums (SqL.of ep), .non, FG qs, rfl, _, rfl, ?_⟩⟩
 rw [show ((qs.map nD).any fun y => PyData.eqv y .none) = false from Jk qs]
 refine Bs ⟨_, rfl, ⟨a_LEAST, kvl, rfl, dL, _, rfl, l, _, _, _, rfl, rfl, Ah.seq s2 hS, Ar (j := 0) rfl, P0, fun e he => ⟨Sum.inr (wd i), rfl, ?_⟩⟩⟩
 rw [hn]
 have s3 := s2.trans (Ah.new (o := .tup []) he)
 have ep3 := (Ah.new (o := .tup []) he) _ _ ep
 refine ⟨p, e, zs, rfl, SqL.of ep3, SqT.of Ac, _, rfl, ?_⟩
 exact q p zs _ s3 hHp ep3 (AJ.same hz2 (Ah.new he))
theorem FX : Ap ["number"] ["number"] (Ad (top 92)) := ⟨rfl, rfl, rfl, by decide +kernel, rfl, by decide +kernel, by decide +kernel⟩
theorem Gf {f : Addr} {fd : FuncData} (F : Fun K "show_number" "show_number" (top 92) f fd) (QC : mg "str" = none) (hT : P.given.tree = none) :
 Ay P w K mg base CX0 33 f fd ["number"] (EH K) := by
 refine F.ok FX (fun vs H Q E h => ?_) (fun cdv A outer s H vs Q E hr h => ?_)
 ·obtain ⟨_, _, rfl, _⟩ := h; rfl
 refine ⟨_, (Ae (K := K) (Aw (K := K) (Ak BH (Au (ixT K) (pv 0) Af (fun u v => rfl)) Af (As _)) (Ag (Aj (AN BM rfl QC CJ (Aa (Au (ixT K) (pv 0) Af (fun u v => rfl)) Ab)))) Ao (by rfl) (by rfl))
  (Ag (Aj (Ax C9 (Ax C9 (AN BM rfl QC CJ (Aa (Au (ixT K) (pv 0) Af (fun u v => rfl)) Ab)) AD) (AN BM rfl QC CJ (Aa (Au (ixT K) (pv 0) Af (fun u v => rfl)) Ab))))) (by rfl)), ?_⟩
 obtain ⟨x, q, rfl, ⟨r, rfl, hr'⟩, hf, q0⟩ := h
 have hd := hf.2
 have hs := sizeLine_eq
 have l1 := E6 hf.1
 have l2 := E6 (i := (q.den : Int)) (by lia)
 refine ⟨_, rfl, r, _, _, _, rfl, rfl, hr', rfl, rfl, _, rfl, ?_⟩
 by_cases h1 : q.den = 1
 ·have e : tx q = txI q.num := if_pos h1
  rw [e] at q0
  exact Be (by rw [decide_eq_true (show V.int (q.den : Int) = V.int 1 by rw [h1]; rfl)] <;> rfl) ⟨_, rfl, r, _, _, _, rfl, rfl, hr', rfl, _, rfl, EV hf.1, q0⟩
 ·have e : tx q = txI q.num ++ Str.ofString "/" ++ txI q.den := if_neg h1
  rw [e] at q0
  rw [decide_eq_false (fun z => h1 (by have := V.int.inj z; lia))]
  have l3 : (Str.ofString "/").length = 1 := by rw [AI, Cg]; rfl
  have l4 : (txI q.num ++ Str.ofString "/").length = (txI q.num).length + 1 := by rw [AI, Bq, TM, ← AI, ← AI, l3]
  refine Bs ⟨_, rfl, r, _, _, _, rfl, rfl, hr', rfl, _, rfl, EV hf.1, _, _, rfl, rfl, ?_, _, rfl, r, _, _, _, rfl, rfl, hr', rfl, _, rfl, EV (by lia), _, _, rfl, rfl, ?_, q0⟩
  ·show (txI q.num).length + (Str.ofString "/").length ≤ sizeLine
   lia
  ·show (txI q.num ++ Str.ofString "/").length + (txI q.den).length ≤ sizeLine
   lia
theorem GH : Ap ["point"] ["point"] (Ad (top 95)) := ⟨rfl, rfl, rfl, by decide +kernel, rfl, by decide +kernel, by decide +kernel⟩
theorem GR {f : Addr} {fd : FuncData} (F : Fun K "show_point" "show_point" (top 95) f fd) (RG : Fd P w K mg base 33 "show_number" ["number"] (EH K)) (hT : P.given.tree = none) :
 Ay P w K mg base CX0 34 f fd ["point"] (HM K DE) := by
 refine F.ok GH (fun vs H Q E h => ?_) (fun cdv A outer s H vs Q E hr h => ?_)
 ·obtain ⟨_, _, _, rfl, _⟩ := h; rfl
 refine ⟨_, (Ag (Aj (BR K PySem.F.plainAttrs_str PySem.F.slot_str_join PySem.F.type_str_join (Ew K) AD (Aa (Ck rfl (N := ["number"]) (nt := 1) (js := []) (AX.look (NX := ["point"]) (sc := Ad (top 95)) rfl rfl (by decide +kernel)) (piT K (pv 0)) (fun u1 u2 u3 u4 u5 => (AL (i := 0) (show List.Nodup (["number"] : List Str) from by decide +kernel) rfl (Or.inl rfl))) (AK (by decide)) (fun u1 u2 u3 u4 u5 => Bi) (fun u1 u2 u3 u4 u5 => (Az RG hr rfl (Aa (pv 0) Ab)))) Ab)))), ?_⟩
 obtain ⟨r, xs, qs, rfl, hS, hn, hf, h100, q⟩ := h
 have hs := sizeLine_eq
 have hl := hn.length
 refine ⟨rfl, ?_⟩
 refine BX ⟨_, rfl, r, rfl, ⟨_, hS⟩, De (xs := xs) (fun i zs H' => H' = H ∧ zs = ((qs.take i).map tx).map V.str) ⟨rfl, rfl⟩ (fun i zs H' hi p => ⟨by rw [p.1]; exact hS, by rw [p.2, Th, Th, Tz]; lia⟩) (by lia) ?_ ?_⟩
 ·rintro i x zs H' hx ⟨rfl, rfl⟩
  obtain ⟨c, hc, hcn⟩ := (Paired.get hn hx)
  refine ⟨_, rfl, x, c, rfl, hcn, hf c (TL hc), rfl, ?_⟩
  rw [UL, hc, UG, UG]; rfl
 rintro zs H' ⟨rfl, rfl⟩ p hp
 rw [hl, UM]
 exact ⟨_, p, qs.map tx, rfl, rfl, SqL.of Ac, CZ (by show DE.length ≤ 2; rw [DN]; decide) (fun t ht => SG (Ec hf t ht) (by decide)) (by rw [Th]; exact h100), q _ (Ah.new hp)⟩
theorem FW : Ap ["points"] ["points"] (Ad (top 96)) := ⟨rfl, rfl, rfl, by decide +kernel, rfl, by decide +kernel, by decide +kernel⟩
theorem Ge {f : Addr} {fd : FuncData} (F : Fun K "show_points" "show_points" (top 96) f fd) (RH : Fd P w K mg base 34 "show_point" ["point"] (HM K DE)) (hT : P.given.tree = none) :
 Ay P w K mg base CX0 35 f fd ["points"] (Ee K) := by
 refine F.ok FW (fun vs H Q E h => ?_) (fun cdv A outer s H vs Q E hr h => ?_)
 ·obtain ⟨_, _, _, rfl, _⟩ := h; rfl
 refine ⟨_, (Ag (Aj (BR K PySem.F.plainAttrs_str PySem.F.slot_str_join PySem.F.type_str_join (Ew K) AD (Aa (Ck rfl (N := ["point"]) (nt := 1) (js := []) (AX.look (NX := ["points"]) (sc := Ad (top 96)) rfl rfl (by decide +kernel)) (piT K (pv 0)) (fun u1 u2 u3 u4 u5 => (AL (i := 0) (show List.Nodup (["point"] : List Str) from by decide +kernel) rfl (Or.inl rfl))) (AK (by decide)) (fun u1 u2 u3 u4 u5 => Bi) (fun u1 u2 u3 u4 u5 => (Az RH hr rfl (Aa (pv 0) Ab)))) Ab)))), ?_⟩
 obtain ⟨r, xs, pss, rfl, hS, hn, h23, hf, h100, q⟩ := h
 have hs := sizeLine_eq
 have hl := hn.length
 refine ⟨rfl, ?_⟩
 refine BX ⟨_, rfl, r, rfl, ⟨_, hS⟩, De (xs := xs) (fun i zs H' => Ah H H' ∧ zs = ((pss.take i).map ptx).map V.str) ⟨Ah.refl _, rfl⟩ (fun i zs H' hi p => ⟨SqT.same hS p.1, by rw [p.2, Th, Th, Tz]; lia⟩) (by lia) ?_ ?_⟩
 ·rintro i x zs H' hx ⟨sm, rfl⟩
  obtain ⟨ps, hps, hpt⟩ := (Paired.get hn hx)
  have hm := TL hps
  obtain ⟨a, rfl, us, hus, hun⟩ := (hpt.same sm)
  refine ⟨_, rfl, a, us, ps, rfl, hus, hun, hf ps hm, by rcases h23 ps hm with z | z <;> lia, fun H2 m2 => ⟨sm.trans m2, ?_⟩⟩
  rw [UL, hps, UG, UG]; rfl
 rintro zs H' ⟨sm, rfl⟩ p hp
 rw [hl, UM]
 exact ⟨_, p, pss.map ptx, rfl, rfl, SqL.of Ac, CZ (by show EA.length ≤ 2; rw [DM]; decide) (fun t ht => SG (G7 hf h23 t ht) (by decide)) (by rw [Th]; exact h100), q _ (sm.trans (Ah.new hp))⟩
theorem GI : Ap ["points", "numbers"] ["points", "numbers"] (Ad (top 114)) := ⟨rfl, rfl, rfl, by decide +kernel, rfl, by decide +kernel, by decide +kernel⟩
theorem GS {f : Addr} {fd : FuncData} (F : Fun K "points_row" "points_row" (top 114) f fd) (RI : Fd P w K mg base 35 "show_points" ["points"] (Ee K)) (hT : P.given.tree = none) :
 Ay P w K mg base CX0 36 f fd ["points", "numbers"] (Dq K) := by
 refine F.ok GI (fun vs H Q E h => ?_) (fun cdv A outer s H vs Q E hr h => ?_)
 ·obtain ⟨_, _, _, _, rfl, _⟩ := h; rfl
 refine ⟨_, (Ag (Aj (Az RI hr rfl (Aa (pv 0) Ab)))), ?_⟩
 obtain ⟨r, l, xs, pss, rfl, h1, h2, h3, h4, h5, q⟩ := h
 exact ⟨_, rfl, r, xs, pss, rfl, h1, h2, h3, h4, h5, q⟩
theorem GK : Ap ["places"] ["places"] (Ad (top 49)) := ⟨rfl, rfl, rfl, by decide +kernel, rfl, by decide +kernel, by decide +kernel⟩
theorem GX {f : Addr} {fd : FuncData} (F : Fun K "are_unlike" "are_unlike" (top 49) f fd) (Qz : mg "len" = none) (b_set : mg "set" = none) (hT : P.given.tree = none) :
 Ay P w K mg base CX0 33 f fd ["places"] (DG K) := by
 refine F.ok GK (fun vs H Q E h => ?_) (fun cdv A outer s H vs Q E hr h => ?_)
 ·obtain ⟨_, _, _, rfl, _⟩ := h; rfl
 refine ⟨_, (Ag (Aj (Cr BH (Ai LO rfl Qz Ba (Aa (AN (Ql K rfl hr.units) rfl b_set P5 (Aa (pv 0) Ab)) Ab)) (Ai (Ct K) rfl Qz Ba (Aa (pv 0) Ab)) (As _)))), ?_⟩
 obtain ⟨l, ys, qs, rfl, hS, hn, h17, q⟩ := h
 have hl := hn.length
 refine ⟨_, rfl, l, ys, qs, rfl, hS, hn, h17, fun p n hle hnd hp => ⟨p, n, rfl, Ac, by lia, ?_⟩⟩
 have s1 : Ah H (upd H p (N6 p n)) := Ah.new hp
 refine ⟨_, rfl, l, ys, rfl, .inl (Ah.seq s1 hS), rfl, ?_⟩
 have e : decide (V.int ((n : Nat) : Int) = V.int ((ys.length : Nat) : Int)) = decide qs.Nodup := by
  by_cases h : qs.Nodup
  ·rw [decide_eq_true h, decide_eq_true (by rw [hl, hnd.mpr h])]
  ·rw [decide_eq_false h, decide_eq_false (fun z => h (hnd.mp (by injection z with z; rw [hl] at z; exact Int.ofNat.inj z)))]
 rw [e]
 exact q _ s1
theorem D6 : Ap ["points", "told", "point", "k"] ["points"] (Ad (top 52)) := ⟨rfl, rfl, rfl, by decide +kernel, rfl, by decide +kernel, by decide +kernel⟩
theorem K5 {f : Addr} {fd : FuncData} (F : Fun K "told_in" "told_in" (top 52) f fd) (QH : mg "range" = none) (Qz : mg "len" = none) (hT : P.given.tree = none) :
 Ay P w K mg base CX0 33 f fd ["points"] (Fy K) := by
 refine F.ok D6 (fun vs H Q E h => ?_) (fun cdv A outer s H vs Q E hr h => ?_)
 ·obtain ⟨_, _, _, rfl, _⟩ := h; rfl
 refine ⟨_, (Ae (K := K) (Aq (i := 1) D6.nd rfl (Or.inl rfl) (Bx Ab))
  (Ae (K := K) (D9 (K := K) PassesOwn.never rfl (piT K (pv 0)) (AL (i := 2) D6.nd rfl (Or.inl rfl)) (Ag (D9 (K := K) PassesOwn.never rfl (EO rfl QH (Aa (Ax DA (Ai (Ct K) rfl Qz Ba (Aa (pv 2) Ab)) Af) Ab)) (AL (i := 3) D6.nd rfl (Or.inl rfl)) (Ag (Dc (BR K PySem.F.plainAttrs_list PySem.F.slot_list_append PySem.F.type_list_append CW (pv 1) (Aa (AV (Aa (Au (ixT K) (pv 2) Af (fun u v => rfl)) (Aa (pv 3) (Aa (Au (ixT K) (pv 2) (Ax BA (pv 3) Af) (fun u v => rfl)) Ab)))) Ab)))) (by rfl))) (by rfl))
  (Ag (Aj (pv 1))) (by rfl)) (by rfl)), ?_⟩
 obtain ⟨r, xs, pss, rfl, hS, hp, h23, h100, q⟩ := h
 have P0 : 0 ≤ sizeLine := by decide
 have P3 : 3 ≤ sizeLine := by decide
 have hxl := hp.length
 refine ⟨P0, fun p hp0 => ?_⟩
 refine ⟨_, rfl, r, rfl, ⟨_, SqT.same hS (Ah.new hp0)⟩, FI (xs := xs) (L5 H r p K pss fun H r p K pss i σ H' => Ah H H' ∧ ∃ ys z2 z3, σ = [some (.ref r), some (.ref p), z2, z3] ∧ H' p = some (.lst ys) ∧ GB K H' ys (AO (pss.take i))) ⟨Ah.new hp0, [], none, none, rfl, Ac, .nil⟩ (fun i σ H' _ h => hS.same h.1) ?_ ?_⟩
 ·rintro i v σ H' hv hR1
  refine Gy hR1 fun sm hz45 => ?_
  refine IB hz45 fun ys z2 z3 hz45' => ?_
  clear hz45
  refine ED hz45' fun hq44 ep hys => ?_
  clear hz45'
  obtain rfl := hq44
  try clear hR1
  obtain ⟨ps, hps, a, zs, pp, rfl, hzs, hzn, hz0, hpp⟩ := (Paired.get hp hv)
  have hpl := h23 ps (TL hps)
  have hzl := hzn.length
  have hyl : ys.length ≤ 200 := by
   have h1 := Dl (pss.take i) (h23.take i)
   rw [Tz] at h1
   rw [hys.length]; lia
  refine ⟨_, rfl, a, zs, rfl, .inr (hzs.same sm), _, _, rfl, rfl, _, rfl, by lia, by lia, ?_⟩
  rw [show (((zs.length : Nat) : Int) - 1).toNat = ps.length - 1 from MF hzl]
  refine HC (n := ps.length - 1) (L8 H r p a K pss i ps fun H r p a K pss i ps k σ H2 => Ah H H2 ∧ ∃ ys2 z3, σ = [some (.ref r), some (.ref p), some (.ref a), z3] ∧ H2 p = some (.lst ys2) ∧ GB K H2 ys2 (AO (pss.take i) ++ (BN ps).take k)) ⟨sm, ys, z3, rfl, ep, by rw [List.take_zero, Tq]; exact hys⟩ ?_ ?_
  ·rintro k σ H2 hk hR2
   refine Gy hR2 fun sm2 hz49 => ?_
   refine Ex hz49 fun ys2 z3' hz49' => ?_
   clear hz49
   refine ED hz49' fun hq48 ep2 hys2 => ?_
   clear hz49'
   obtain rfl := hq48
   try clear hR2
   have g0 := getD_some (l := ps) (i := 0) (by lia)
   have gk := getD_some (l := ps) (i := k + 1) (by lia)
   obtain ⟨xk, hxk, hnk⟩ := (Paired.get' hzn gk)
   have ak : atI zs (0 + (k : Int) + 1) = some xk := by rw [show 0 + (k : Int) + 1 = ((k + 1 : Nat) : Int) by lia]; exact Ar hxk
   have hyl2 : ys2.length ≤ 204 := by
    have h1 := hys.length
    have h2 := Bf ps
    rw [hys2.length, TM, Tz]; exact Ny hyl hk hpl h1
   refine ⟨_, rfl, .inl ⟨rfl, _, SqL.of ep2⟩, _, rfl, a, zs, _, .ref pp, rfl, rfl, hzs.same sm2, Ar (j := 0) hz0, _, rfl, _, rfl, _, rfl, _, _, rfl, rfl, a, zs, _, xk, rfl, rfl, hzs.same sm2, ak, P3, fun t ht => ?_⟩
   have s3 : Ah H2 (upd H2 t (.tup [.ref pp, .int (0 + (k : Int)), xk])) := Ah.new ht
   have tp : t ≠ p := (AE ep2 ht).symm
   have hp3 : (upd (upd H2 t (.tup [.ref pp, .int (0 + (k : Int)), xk])) p (.lst (ys2 ++ [.ref t]))) pp = some (nT (ps.getD 0 0)) := by
    have z := s3 _ _ (sm2 _ _ hpp)
    rw [AA (C5 z (s3 _ _ ep2) (fun z => by cases z))]; exact z
   refine ⟨p, ys2, .ref t, rfl, rfl, s3 _ _ ep2, Su (show ys2.length < 300 by lia) (by decide), (sm2.trans s3).put hp0, ys2 ++ [.ref t], _, rfl, Ac, ?_⟩
   have gt : (BN ps)[k]? = some ⟨ps.getD 0 0, (k : Int), ps.getD (k + 1) 0⟩ := by
    unfold BN
    rw [TJ, List.getElem?_range hk]; rfl
   rw [UL, gt, ← UX]
   refine Paired.snoc (GB.put (GB.same hys2 s3) (s3 _ _ ep2)) ⟨t, pp, xk, rfl, SqT.of ?_, hp3, ((hnk.same sm2).same s3).put (s3 _ _ ep2)⟩
   rw [AA tp, Ac, Int.zero_add]
  ·rintro σ H2 hR3
   refine Gy hR3 fun sm2 hz51 => ?_
   refine Ex hz51 fun ys2 z3' hz51' => ?_
   clear hz51
   refine ED hz51' fun hq50 ep2 hys2 => ?_
   clear hz51'
   obtain rfl := hq50
   try clear hR3
   refine ⟨sm2, ys2, _, _, rfl, ep2, ?_⟩
   have e : pss.take (i + 1) = pss.take i ++ [ps] := by rw [UL, hps]; rfl
   rw [e, Lh]
   have et : (BN ps).take (ps.length - 1) = BN ps := Ut (by rw [Bf]; exact SW _)
   rw [et] at hys2
   exact hys2
 ·rintro σ H' hR4
  refine Gy hR4 fun sm hz53 => ?_
  refine IB hz53 fun ys z2 z3 hz53' => ?_
  clear hz53
  refine ED hz53' fun hq52 ep hys => ?_
  clear hz53'
  obtain rfl := hq52
  try clear hR4
  rw [hxl, UM] at hys
  exact ⟨_, rfl, q p H' ys sm hp0 ep hys⟩
theorem J3 : Ap ["thing"] ["thing"] (Ad (top 48)) := ⟨rfl, rfl, rfl, by decide +kernel, rfl, by decide +kernel, by decide +kernel⟩
theorem Jg {f : Addr} {fd : FuncData} (F : Fun K "is_point" "is_point" (top 48) f fd) (QZ : Fd P w K mg base 34 "is_number" ["thing"] (Kt K)) (QE : mg "all" = none) (QA : mg "isinstance" = none) (QB : mg "tuple" = none) (Qz : mg "len" = none) (hT : P.given.tree = none) :
 Ay P w K mg base CX0 35 f fd ["thing"] (Ks K) := by
 refine F.ok J3 (fun vs H Q E h => ?_) (fun cdv A outer s H vs Q E hr h => ?_)
 ·obtain ⟨_, _, rfl, _⟩ := h; rfl
 refine ⟨_, (Ae (K := K) (Aw (K := K) (PW.pt (Dx (BQ (Br (Ai (Js K) rfl QA Av (Aa (pv 0) (Aa (BJ (v := .ty "tuple") rfl QB Bz rfl) Ab))))) (Cw (Ak (MC K) (Ai (Ct K) rfl Qz Ba (Aa (pv 0) Ab)) (AV (Aa Af (Aa Af Ab))) (by with_unfolding_all rfl))))) (Ag (Aj Em)) Ao (by rfl) (by rfl))
  (Ag (Aj (Ai (NM K rfl) rfl QE IH (Aa (Ck rfl (N := ["each"]) (nt := 1) (js := []) (AX.look (NX := ["thing"]) (sc := Ad (top 48)) rfl rfl (by decide +kernel)) (piT K (pv 0)) (fun u1 u2 u3 u4 u5 => (AL (i := 0) (show List.Nodup (["each"] : List Str) from by decide +kernel) rfl (Or.inl rfl))) (AK (by decide)) (fun u1 u2 u3 u4 u5 => Bi) (fun u1 u2 u3 u4 u5 => (Az QZ hr rfl (Aa (pv 0) Ab)))) Ab)))) (by rfl)), ?_⟩
 obtain ⟨x, b, rfl, px, q⟩ := h
 have P2 : 2 ≤ sizeLine := by decide
 cases px with
 | no ty hk => exact ⟨_, rfl, _, _, _, _, rfl, ty, hk, false, rfl, CA (CA (q _ (Ah.refl _)))⟩
 | @len a xs ha l2 l3 =>
   refine ⟨_, rfl, _, _, _, _, rfl, .tup ha, EX K, true, rfl, Bs ?_⟩
   refine ⟨_, rfl, a, xs, rfl, .inr ha, P2, fun t ht => ?_⟩
   have s1 : Ah H (upd H t (.tup [.int 2, .int 3])) := Ah.new ht
   refine ⟨t, _, rfl, .inr (SqT.of Ac), rfl, rfl, _, rfl, ?_⟩
   have hin : inV (V.int ((xs.length : Nat) : Int)) [.int 2, .int 3] = false := by
    show (((2 : Int) == ((xs.length : Nat) : Int)) || (((3 : Int) == ((xs.length : Nat) : Int)) || false)) = false
    have e2 : ((2 : Int) == ((xs.length : Nat) : Int)) = false := beq_eq_false_iff_ne.mpr (by lia)
    have e3 : ((3 : Int) == ((xs.length : Nat) : Int)) = false := beq_eq_false_iff_ne.mpr (by lia)
    rw [e2, e3]
    rfl
   rw [hin]
   exact CA (q _ s1)
 | @all a xs bs ha h23 hb =>
   have hl := hb.length
   refine ⟨_, rfl, _, _, _, _, rfl, .tup ha, EX K, true, rfl, Bs ?_⟩
   refine ⟨_, rfl, a, xs, rfl, .inr ha, P2, fun t ht => ?_⟩
   have s1 : Ah H (upd H t (.tup [.int 2, .int 3])) := Ah.new ht
   refine ⟨t, _, rfl, .inr (SqT.of Ac), rfl, rfl, _, rfl, ?_⟩
   have hin : inV (V.int ((xs.length : Nat) : Int)) [.int 2, .int 3] = true := by
    rcases h23 with z | z
    ·rw [z]; rfl
    ·rw [z]; rfl
   rw [hin]
   refine Bs ?_
   generalize upd H t (.tup [.int 2, .int 3]) = H1 at s1 ⊢
   refine BX ⟨_, rfl, a, rfl, ⟨_, SqT.same ha s1⟩, ?_⟩
   refine De (xs := xs) (fun i zs H' => Ah H1 H' ∧ zs = (bs.take i).map V.bl) ⟨Ah.refl _, rfl⟩ (fun i zs H' hi p => ⟨SqT.same ha (s1.trans p.1), by rw [p.2, Th, Tz]; lia⟩) (SH (AF (by lia))) ?_ ?_
   ·rintro i x zs H' hx ⟨sm, rfl⟩
    obtain ⟨c, hc, hcn⟩ := (Paired.get hb hx)
    refine ⟨_, rfl, x, c, rfl, hcn.same (s1.trans sm), sm, ?_⟩
    rw [UL, hc, UG]
    rfl
   rintro zs H' ⟨sm, rfl⟩ p hp
   rw [hl, UM]
   exact ⟨p, bs, rfl, SqL.of Ac, q _ ((s1.trans sm).trans (Ah.new hp))⟩
theorem Cp : Ap ["thing", "points"] ["thing"] (Ad (top 51)) := ⟨rfl, rfl, rfl, by decide +kernel, rfl, by decide +kernel, by decide +kernel⟩
theorem Er {f : Addr} {fd : FuncData} (F : Fun K "points_of" "points_of" (top 51) f fd) (R3 : Fd P w K mg base 33 "are_unlike" ["places"] (DG K)) (R4 : Fd P w K mg base 33 "told_in" ["points"] (Fy K)) (R5 : Fd P w K mg base 35 "is_point" ["thing"] (Ks K)) (QB : mg "tuple" = none) (QE : mg "all" = none) (Qz : mg "len" = none) (QA : mg "isinstance" = none) (QF : mg "list" = none) {t_MOST_TOLD : Tok} (c_MOST_TOLD : mg "MOST_TOLD" = some (.int 12 t_MOST_TOLD)) (hT : P.given.tree = none) :
 Ay P w K mg base CX0 36 f fd ["thing"] (Cb K) := by
 refine F.ok Cp (fun vs H Q E h => ?_) (fun cdv A outer s H vs Q E hr h => ?_)
 ·obtain ⟨_, _, _, _, rfl, _⟩ := h; rfl
 refine ⟨_, (Ae (K := K) (Aw (K := K) (PW.pt (Dx (BQ (Br (Ai (O1 K) rfl QA Av (Aa (pv 0) (Aa (AV (Aa (BJ (v := .ty "list") rfl QF FK rfl) (Aa (BJ (v := .ty "tuple") rfl QB Bz rfl) Ab))) Ab))))) (Cw (Ak BH (Ai (Ct K) rfl Qz Ba (Aa (pv 0) Ab)) Af (As _))))) (Ag Bg) Ao (by rfl) (by rfl))
  (Ae (K := K) (Aw (K := K) (BQ (Br (Ai (NM K rfl) rfl QE IH (Aa (Ck rfl (N := ["each"]) (nt := 1) (js := []) (AX.look (NX := ["thing", "points"]) (sc := Ad (top 51)) rfl rfl (by decide +kernel)) (piS K (pv 0)) (fun u1 u2 u3 u4 u5 => (AL (i := 0) (show List.Nodup (["each"] : List Str) from by decide +kernel) rfl (Or.inl rfl))) (AK (by decide)) (fun u1 u2 u3 u4 u5 => Bi) (fun u1 u2 u3 u4 u5 => (Az R5 hr rfl (Aa (pv 0) Ab)))) Ab)))) (Ag Bg) Ao (by rfl) (by rfl))
  (Ae (K := K) (Aw (K := K) (BQ (Br (Az R3 hr rfl (Aa (Ck rfl (N := ["point"]) (nt := 1) (js := []) (AX.look (NX := ["thing", "points"]) (sc := Ad (top 51)) rfl rfl (by decide +kernel)) (piS K (pv 0)) (fun u1 u2 u3 u4 u5 => (AL (i := 0) (show List.Nodup (["point"] : List Str) from by decide +kernel) rfl (Or.inl rfl))) (AK (by decide)) (fun u1 u2 u3 u4 u5 => Bi) (fun u1 u2 u3 u4 u5 => (Au (ixT K) (pv 0) Af (fun u v => rfl)))) Ab)))) (Ag Bg) Ao (by rfl) (by rfl))
  (Ae (K := K) (Aq (i := 1) Cp.nd rfl (Or.inl rfl) (AN (Dk K) rfl QB Bz (Aa (pv 0) Ab)))
  (Ae (K := K) (Aw (K := K) (Ak Di (Ai (Ct K) rfl Qz Ba (Aa (Az R4 hr rfl (Aa (pv 1) Ab)) Ab)) (AY (v := .int 12) rfl c_MOST_TOLD ⟨_, rfl⟩) (As _)) (Ag Bg) Ao (by rfl) (by rfl))
  (Ag (Aj (pv 1))) (by rfl)) (by rfl)) (by rfl)) (by rfl)) (by rfl)), ?_⟩
 obtain ⟨b, r, xs, pss, rfl, hS, hp, h23, h1, hnd, h12, q⟩ := h
 have P2 : 2 ≤ sizeLine := by decide
 have hl := hp.length
 have hge := BS h23
 refine ⟨_, rfl, P2, fun tp htp => ?_⟩
 have s1 : Ah H (upd H tp (.tup [.ty "list", .ty "tuple"])) := Ah.new htp
 have hS1 := Sq.same hS s1
 refine ⟨_, if b then .type "list" else .type "tuple", tp, [.ty "list", .ty "tuple"], [.type "list", .type "tuple"], true, rfl, ?_, Ac, rfl, ?_, _, rfl, Bs ?_⟩
 ·cases b
  ·exact .tup hS1
  ·exact .lst hS1
 ·cases b
  ·exact Gp K
  ·exact Gq K
 generalize upd H tp (.tup [.ty "list", .ty "tuple"]) = H1 at s1 hS1 ⊢
 refine ⟨_, rfl, r, xs, rfl, Sq.len hS1, rfl, _, rfl, ?_⟩
 refine AM (by rw [decide_eq_false (show ¬ V.int ((xs.length : Nat) : Int) = V.int 0 from fun z => by have := V.int.inj z; lia)] <;> rfl) ?_
 have hp1 := AH.same hp s1
 refine E7 (b := b) (a := r) (xs := xs) rfl (fun i zs H' => Ah H1 H' ∧ zs = Tv i (.bl true)) ⟨Ah.refl _, rfl⟩ (fun i zs H' _ p => ⟨Sq.same hS1 p.1, by rw [p.2, TN]⟩) (SH (AF (by lia))) ?_ ?_
 ·rintro i x zs H' hx ⟨sm, rfl⟩
  obtain ⟨ps, hps, hpt⟩ := (Paired.get hp1 hx)
  refine ⟨_, rfl, x, true, rfl, Pb.of ((hpt.pt).same sm) (h23 ps (TL hps)), fun H2 s2 => ⟨sm.trans s2, ?_⟩⟩
  rw [← V8]
 rintro zs H2 ⟨s2, rfl⟩ al hal
 have s3 := s2.trans (Ah.new (o := .lst (Tv xs.length (.bl true))) hal)
 refine ⟨al, Tv xs.length true, rfl, SqL.of (by rw [V9]; exact Ac), _, rfl, ?_⟩
 refine AM (by rw [IK] <;> rfl) ?_
 generalize upd H2 al (.lst (Tv xs.length (.bl true))) = H3 at s3 ⊢
 have hS3 := Sq.same hS1 s3
 have hp3 := AH.same hp1 s3
 refine E7 (b := b) (a := r) (xs := xs) rfl (L2 H3 pss fun H3 pss i zs H' => H' = H3 ∧ zs.length = i ∧ AJ H3 zs ((pss.take i).map fun ps => ps.getD 0 0)) ⟨rfl, rfl, .nil⟩ (fun i zs H' _ p => ⟨by rw [p.1]; exact hS3, p.2.1⟩) (SH (AF (by lia))) ?_ ?_
 ·rintro i x zs H' hx ⟨rfl, hzl, hzs⟩
  obtain ⟨ps, hps, a, us, pp, rfl, hus, hun, hu0, hpp⟩ := (Paired.get hp3 hx)
  refine ⟨_, rfl, a, us, _, _, rfl, rfl, hus, Ar (j := 0) hu0, rfl, by simp [hzl], ?_⟩
  rw [UL, hps, UG]
  exact Paired.snoc hzs ⟨pp, rfl, hpp⟩
 rintro zs Hq ⟨hq, hzl, hzs⟩ pl hpl
 obtain rfl : H3 = Hq := hq.symm
 rw [hl, UM] at hzs
 have s4 : Ah H3 (upd H3 pl (.lst zs)) := Ah.new hpl
 refine ⟨pl, zs, _, rfl, SqL.of Ac, AJ.same hzs s4, by rw [Th]; lia, fun H5 s5 => ⟨_, rfl, AM (by rw [decide_eq_true hnd]; rfl) ?_⟩⟩
 have s35 := s4.trans s5
 have hS5 := Sq.same hS3 s35
 have hp5 := AH.same hp3 s35
 have s15 := (s1.trans s3).trans s35
 have fin : ∀ (t : Addr) (H6 : Hp), Ah H5 H6 → SqT K H6 t xs → (b = false → t = r) → (Kq (HL 1) Ng) [some (.ref r), some (.ref t)] H6 fun vs H7 => True := fun t H6 _ _ _ => ⟨_, rfl, trivial⟩
 clear fin
 refine ⟨_, rfl, r, xs, rfl, ?_⟩
 cases b
 ·refine .inr ⟨hS5, ?_⟩
  have sR := Ah.refl H5
  refine ⟨_, rfl, r, xs, pss, rfl, (show SqT K H5 r xs from hS5), AH.same hp5 sR, h23, by lia, fun tl H7 tys s7 htl etl htls => ?_⟩
  refine ⟨tl, tys, rfl, .inl (SqL.of etl), _, _, rfl, rfl, _, rfl, ?_⟩
  have htyl := htls.length
  refine AM (by rw [decide_eq_false (show ¬ ((12 : Int) < ((tys.length : Nat) : Int)) by lia)] <;> rfl) ⟨_, rfl, q r H7 ((s15.trans sR).trans s7) ((show SqT K H5 r xs from hS5).same s7) (fun _ => rfl)⟩
 ·refine .inl ⟨hS5, fun t ht => ?_⟩
  have sT : Ah H5 (upd H5 t (.tup xs)) := Ah.new ht
  have eT : SqT K (upd H5 t (.tup xs)) t xs := SqT.of Ac
  refine ⟨_, rfl, t, xs, pss, rfl, eT, AH.same hp5 sT, h23, by lia, fun tl H7 tys s7 htl etl htls => ?_⟩
  refine ⟨tl, tys, rfl, .inl (SqL.of etl), _, _, rfl, rfl, _, rfl, ?_⟩
  have htyl := htls.length
  refine AM (by rw [decide_eq_false (show ¬ ((12 : Int) < ((tys.length : Nat) : Int)) by lia)] <;> rfl) ⟨_, rfl, q t H7 ((s15.trans sT).trans s7) (eT.same s7) (fun z => by cases z)⟩
theorem GP {f : Addr} {fd : FuncData} (F : Fun K "points_of" "points_of" (top 51) f fd) {a_NoPoints a_TooMany : Addr} (k_NoPoints : IL K "NoPoints" a_NoPoints) (k_TooMany : IL K "TooMany" a_TooMany) (R3 : Fd P w K mg base 33 "are_unlike" ["places"] (DG K)) (R4 : Fd P w K mg base 33 "told_in" ["points"] (Fy K)) (R5 : Fd P w K mg base 35 "is_point" ["thing"] (Ks K)) (QB : mg "tuple" = none) (QE : mg "all" = none) (Qz : mg "len" = none) (QA : mg "isinstance" = none) (QF : mg "list" = none) {t_MOST_TOLD : Tok} (c_MOST_TOLD : mg "MOST_TOLD" = some (.int 12 t_MOST_TOLD)) (hT : P.given.tree = none) :
 Ay P w K mg base (CX2 P w) 36 f fd ["thing"] (E3 K a_NoPoints a_TooMany) := by
 refine F.okY Cp (fun vs H Q E h => ?_) (fun cdv A outer s H vs Q E hr h => ?_)
 ·obtain ⟨_, rfl, _⟩ := h; rfl
 refine ⟨_, (Bl (Aw (K := K) (PW.pt (Dx (BQ (Br (Ai (O1 K) rfl QA Av (Aa (pv 0) (Aa (AV (Aa (BJ (v := .ty "list") rfl QF FK rfl) (Aa (BJ (v := .ty "tuple") rfl QB Bz rfl) Ab))) Ab))))) (Cw (Ak BH (Ai (Ct K) rfl Qz Ba (Aa (pv 0) Ab)) Af (As _))))) (Ag (CT k_NoPoints rfl EU rfl (Aa AD Ab))) Ao (by rfl) (by rfl))
  (Bl (Aw (K := K) (BQ (Br (Ai (NM K rfl) rfl QE IH (Aa (Ck rfl (N := ["each"]) (nt := 1) (js := []) (AX.look (NX := ["thing", "points"]) (sc := Ad (top 51)) rfl rfl (by decide +kernel)) (piS K (pv 0)) (fun u1 u2 u3 u4 u5 => (AL (i := 0) (show List.Nodup (["each"] : List Str) from by decide +kernel) rfl (Or.inl rfl))) (AK (by decide)) (fun u1 u2 u3 u4 u5 => Bi) (fun u1 u2 u3 u4 u5 => (Az R5 hr rfl (Aa (pv 0) Ab)))) Ab)))) (Ag (CT k_NoPoints rfl EU rfl (Aa AD Ab))) Ao (by rfl) (by rfl))
  (Bl (Aw (K := K) (BQ (Br (Az R3 hr rfl (Aa (Ck rfl (N := ["point"]) (nt := 1) (js := []) (AX.look (NX := ["thing", "points"]) (sc := Ad (top 51)) rfl rfl (by decide +kernel)) (piS K (pv 0)) (fun u1 u2 u3 u4 u5 => (AL (i := 0) (show List.Nodup (["point"] : List Str) from by decide +kernel) rfl (Or.inl rfl))) (AK (by decide)) (fun u1 u2 u3 u4 u5 => Bi) (fun u1 u2 u3 u4 u5 => (Au (ixT K) (pv 0) Af (fun u v => rfl)))) Ab)))) (Ag (CT k_NoPoints rfl EU rfl (Aa AD Ab))) Ao (by rfl) (by rfl))
  (Bl (Aq (i := 1) Cp.nd rfl (Or.inl rfl) (AN (Dk K) rfl QB Bz (Aa (pv 0) Ab)))
  (Bl (Aw (K := K) (Ak Di (Ai (Ct K) rfl Qz Ba (Aa (Az R4 hr rfl (Aa (pv 1) Ab)) Ab)) (AY (v := .int 12) rfl c_MOST_TOLD ⟨_, rfl⟩) (As _)) (Ag (CT k_TooMany rfl EU rfl (Aa AD Ab))) Ao (by rfl) (by rfl))
  DJ))))), ?_⟩
 obtain ⟨x, rfl, hx⟩ := h
 have P1 : 1 ≤ sizeLine := by decide
 have P2 : 2 ≤ sizeLine := by decide
 rcases hx with ⟨bad, qE⟩ | ⟨many, qE⟩
 ·cases bad with
  | no ty hk =>
    exact ⟨_, rfl, P2, fun tp htp => ⟨_, _, tp, [.ty "list", .ty "tuple"], [.type "list", .type "tuple"], false, rfl, TyP.same ty (Ah.new htp), Ac, rfl, hk, _, rfl, Be rfl (CA ⟨P1, qE _ (Ah.new htp)⟩)⟩⟩
  | @nil b r hS =>
    refine ⟨_, rfl, P2, fun tp htp => ?_⟩
    have s1 : Ah H (upd H tp (.tup [.ty "list", .ty "tuple"])) := Ah.new htp
    have hS1 := Sq.same hS s1
    refine ⟨_, if b then .type "list" else .type "tuple", tp, [.ty "list", .ty "tuple"], [.type "list", .type "tuple"], true, rfl, ?_, Ac, rfl, ?_, _, rfl, AM rfl ?_⟩
    ·cases b
     ·exact .tup hS1
     ·exact .lst hS1
    ·cases b
     ·exact Gp K
     ·exact Gq K
    generalize upd H tp (.tup [.ty "list", .ty "tuple"]) = H1 at s1 hS1 ⊢
    refine ⟨_, rfl, r, _, rfl, Sq.len hS1, rfl, _, rfl, ?_⟩
    exact Be rfl ⟨P1, qE _ s1⟩
  | @pt b r xs bs hS hpb hb h17 =>
    have hne : xs.length ≠ 0 := fun z => by
     have h0 := hpb.length
     rw [z] at h0
     have : bs = [] := Vb h0.symm
     rw [this] at hb
     cases hb
    refine ⟨_, rfl, P2, fun tp htp => ?_⟩
    have s1 : Ah H (upd H tp (.tup [.ty "list", .ty "tuple"])) := Ah.new htp
    have hS1 := Sq.same hS s1
    refine ⟨_, if b then .type "list" else .type "tuple", tp, [.ty "list", .ty "tuple"], [.type "list", .type "tuple"], true, rfl, ?_, Ac, rfl, ?_, _, rfl, AM rfl ?_⟩
    ·cases b
     ·exact .tup hS1
     ·exact .lst hS1
    ·cases b
     ·exact Gp K
     ·exact Gq K
    generalize upd H tp (.tup [.ty "list", .ty "tuple"]) = H1 at s1 hS1 ⊢
    refine ⟨_, rfl, r, _, rfl, Sq.len hS1, rfl, _, rfl, ?_⟩
    refine AM (decide_eq_false (fun z => by have := V.int.inj z; lia)) ?_
    have hpb1 := Paired.mapP hpb fun _ _ z => Pb.same z s1
    have hbl := hpb.length
    refine E7 (b := b) (a := r) (xs := xs) rfl (fun i zs H' => Ah H1 H' ∧ zs = (bs.take i).map V.bl) ⟨Ah.refl _, rfl⟩ (fun i zs H' hi p => ⟨Sq.same hS1 p.1, by rw [p.2, Th, Tz]; lia⟩) (SH (AF (by lia))) ?_ ?_
    ·rintro i x zs H' hx ⟨sm, rfl⟩
     obtain ⟨c, hc, hcn⟩ := Paired.get hpb1 hx
     refine ⟨_, rfl, x, c, rfl, Pb.same hcn sm, fun H2 s2 => ⟨sm.trans s2, ?_⟩⟩
     rw [UL, hc, UG]
     rfl
    rintro zs H2 ⟨s2, rfl⟩ al hal
    have e2 : bs.take xs.length = bs := by rw [hbl, UM]
    rw [e2]
    refine ⟨al, bs, rfl, SqL.of Ac, _, rfl, ?_⟩
    have s3 := s2.trans (Ah.new (o := .lst (bs.map V.bl)) hal)
    generalize upd H2 al (.lst (bs.map V.bl)) = H3 at s3 ⊢
    exact Be (by rw [hb]; rfl) ⟨P1, qE _ (s1.trans s3)⟩
  | @twice b r xs pss hS hp h23 hnd h17 =>
    have hpb := Ia hp h23
    have hall := Gz pss.length
    have hxl := hp.length
    have hne : xs.length ≠ 0 := fun z => hnd (by
     have : pss = [] := Vb (by lia)
     rw [this]
     exact List.Pairwise.nil)
    generalize Tv pss.length true = bs at hpb hall
    refine ⟨_, rfl, P2, fun tp htp => ?_⟩
    have s1 : Ah H (upd H tp (.tup [.ty "list", .ty "tuple"])) := Ah.new htp
    have hS1 := Sq.same hS s1
    refine ⟨_, if b then .type "list" else .type "tuple", tp, [.ty "list", .ty "tuple"], [.type "list", .type "tuple"], true, rfl, ?_, Ac, rfl, ?_, _, rfl, AM rfl ?_⟩
    ·cases b
     ·exact .tup hS1
     ·exact .lst hS1
    ·cases b
     ·exact Gp K
     ·exact Gq K
    generalize upd H tp (.tup [.ty "list", .ty "tuple"]) = H1 at s1 hS1 ⊢
    refine ⟨_, rfl, r, _, rfl, Sq.len hS1, rfl, _, rfl, ?_⟩
    refine AM (decide_eq_false (fun z => by have := V.int.inj z; lia)) ?_
    have hpb1 := Paired.mapP hpb fun _ _ z => Pb.same z s1
    have hbl := hpb.length
    refine E7 (b := b) (a := r) (xs := xs) rfl (fun i zs H' => Ah H1 H' ∧ zs = (bs.take i).map V.bl) ⟨Ah.refl _, rfl⟩ (fun i zs H' hi p => ⟨Sq.same hS1 p.1, by rw [p.2, Th, Tz]; lia⟩) (SH (AF (by lia))) ?_ ?_
    ·rintro i x zs H' hx ⟨sm, rfl⟩
     obtain ⟨c, hc, hcn⟩ := Paired.get hpb1 hx
     refine ⟨_, rfl, x, c, rfl, Pb.same hcn sm, fun H2 s2 => ⟨sm.trans s2, ?_⟩⟩
     rw [UL, hc, UG]
     rfl
    rintro zs H2 ⟨s2, rfl⟩ al hal
    have e2 : bs.take xs.length = bs := by rw [hbl, UM]
    rw [e2]
    refine ⟨al, bs, rfl, SqL.of Ac, _, rfl, ?_⟩
    have s3 := s2.trans (Ah.new (o := .lst (bs.map V.bl)) hal)
    generalize upd H2 al (.lst (bs.map V.bl)) = H3 at s3 ⊢
    refine AM (by rw [hall]; rfl) ?_
    have hl := hp.length
    have hS3 := Sq.same hS1 s3
    have hp3 := AH.same hp (s1.trans s3)
    refine E7 (b := b) (a := r) (xs := xs) rfl (fun i zs H' => H' = H3 ∧ zs.length = i ∧ AJ H3 zs ((pss.take i).map fun ps => ps.getD 0 0)) ⟨rfl, rfl, .nil⟩ (fun i zs H' _ p => ⟨by rw [p.1]; exact hS3, p.2.1⟩) (SH (AF (by lia))) ?_ ?_
    ·rintro i x zs H' hx ⟨rfl, hzl, hzs⟩
     obtain ⟨ps, hps, a, us, pp, rfl, hus, hun, hu0, hpp⟩ := Paired.get hp3 hx
     refine ⟨_, rfl, a, us, _, _, rfl, rfl, hus, Ar (j := 0) hu0, rfl, by simp [hzl], ?_⟩
     rw [UL, hps, UG]
     exact Paired.snoc hzs ⟨pp, rfl, hpp⟩
    rintro zs Hq ⟨hq, hzl, hzs⟩ pl hpl
    obtain rfl : H3 = Hq := hq.symm
    rw [hl, UM] at hzs
    have s4 : Ah H3 (upd H3 pl (.lst zs)) := Ah.new hpl
    refine ⟨pl, zs, _, rfl, SqL.of Ac, AJ.same hzs s4, by rw [Th]; lia, fun H5 s5 => ⟨_, rfl, ?_⟩⟩
    have s15 := ((s1.trans s3).trans s4).trans s5
    exact Be (by rw [decide_eq_false hnd]; rfl) ⟨P1, qE _ s15⟩
 ·obtain ⟨b, r, xs, pss, rfl, hS, hp, h23, h1, hnd, h12, h17⟩ := many
  have hpb := Ia hp h23
  have hall := Gz pss.length
  have hxl := hp.length
  have hne : xs.length ≠ 0 := by lia
  generalize Tv pss.length true = bs at hpb hall
  refine ⟨_, rfl, P2, fun tp htp => ?_⟩
  have s1 : Ah H (upd H tp (.tup [.ty "list", .ty "tuple"])) := Ah.new htp
  have hS1 := Sq.same hS s1
  refine ⟨_, if b then .type "list" else .type "tuple", tp, [.ty "list", .ty "tuple"], [.type "list", .type "tuple"], true, rfl, ?_, Ac, rfl, ?_, _, rfl, AM rfl ?_⟩
  ·cases b
   ·exact .tup hS1
   ·exact .lst hS1
  ·cases b
   ·exact Gp K
   ·exact Gq K
  generalize upd H tp (.tup [.ty "list", .ty "tuple"]) = H1 at s1 hS1 ⊢
  refine ⟨_, rfl, r, _, rfl, Sq.len hS1, rfl, _, rfl, ?_⟩
  refine AM (decide_eq_false (fun z => by have := V.int.inj z; lia)) ?_
  have hpb1 := Paired.mapP hpb fun _ _ z => Pb.same z s1
  have hbl := hpb.length
  refine E7 (b := b) (a := r) (xs := xs) rfl (fun i zs H' => Ah H1 H' ∧ zs = (bs.take i).map V.bl) ⟨Ah.refl _, rfl⟩ (fun i zs H' hi p => ⟨Sq.same hS1 p.1, by rw [p.2, Th, Tz]; lia⟩) (SH (AF (by lia))) ?_ ?_
  ·rintro i x zs H' hx ⟨sm, rfl⟩
   obtain ⟨c, hc, hcn⟩ := Paired.get hpb1 hx
   refine ⟨_, rfl, x, c, rfl, Pb.same hcn sm, fun H2 s2 => ⟨sm.trans s2, ?_⟩⟩
   rw [UL, hc, UG]
   rfl
  rintro zs H2 ⟨s2, rfl⟩ al hal
  have e2 : bs.take xs.length = bs := by rw [hbl, UM]
  rw [e2]
  refine ⟨al, bs, rfl, SqL.of Ac, _, rfl, ?_⟩
  have s3 := s2.trans (Ah.new (o := .lst (bs.map V.bl)) hal)
  generalize upd H2 al (.lst (bs.map V.bl)) = H3 at s3 ⊢
  refine AM (by rw [hall]; rfl) ?_
  have hl := hp.length
  have hS3 := Sq.same hS1 s3
  have hp3 := AH.same hp (s1.trans s3)
  refine E7 (b := b) (a := r) (xs := xs) rfl (fun i zs H' => H' = H3 ∧ zs.length = i ∧ AJ H3 zs ((pss.take i).map fun ps => ps.getD 0 0)) ⟨rfl, rfl, .nil⟩ (fun i zs H' _ p => ⟨by rw [p.1]; exact hS3, p.2.1⟩) (SH (AF (by lia))) ?_ ?_
  ·rintro i x zs H' hx ⟨rfl, hzl, hzs⟩
   obtain ⟨ps, hps, a, us, pp, rfl, hus, hun, hu0, hpp⟩ := Paired.get hp3 hx
   refine ⟨_, rfl, a, us, _, _, rfl, rfl, hus, Ar (j := 0) hu0, rfl, by simp [hzl], ?_⟩
   rw [UL, hps, UG]
   exact Paired.snoc hzs ⟨pp, rfl, hpp⟩
  rintro zs Hq ⟨hq, hzl, hzs⟩ pl hpl
  obtain rfl : H3 = Hq := hq.symm
  rw [hl, UM] at hzs
  have s4 : Ah H3 (upd H3 pl (.lst zs)) := Ah.new hpl
  refine ⟨pl, zs, _, rfl, SqL.of Ac, AJ.same hzs s4, by rw [Th]; lia, fun H5 s5 => ⟨_, rfl, ?_⟩⟩
  have s15 := ((s1.trans s3).trans s4).trans s5
  refine AM (by rw [decide_eq_true hnd]; rfl) ?_
  have hS5 := Sq.same hS s15
  have hp5 := AH.same hp s15
  refine ⟨_, rfl, r, xs, rfl, ?_⟩
  cases b
  ·refine .inr ⟨hS5, ?_⟩
   refine ⟨_, rfl, r, xs, pss, rfl, hS5, hp5, h23, by lia, fun tl H7 tys s7 htl etl htls => ?_⟩
   have htyl := htls.length
   exact ⟨tl, tys, rfl, .inl (SqL.of etl), _, _, rfl, rfl, _, rfl, Be (decide_eq_true (by lia)) ⟨P1, qE _ (s15.trans s7)⟩⟩
  ·refine .inl ⟨hS5, fun t ht => ?_⟩
   have sT : Ah H5 (upd H5 t (.tup xs)) := Ah.new ht
   refine ⟨_, rfl, t, xs, pss, rfl, SqT.of Ac, AH.same hp5 sT, h23, by lia, fun tl H7 tys s7 htl etl htls => ?_⟩
   have htyl := htls.length
   exact ⟨tl, tys, rfl, .inl (SqL.of etl), _, _, rfl, rfl, _, rfl, Be (decide_eq_true (by lia)) ⟨P1, qE _ ((s15.trans sT).trans s7)⟩⟩
theorem Hr : Ap ["points", "point"] ["points", "point"] (Ad (top 64)) := ⟨rfl, rfl, rfl, by decide +kernel, rfl, by decide +kernel, by decide +kernel⟩
theorem Lu {f : Addr} {fd : FuncData} (F : Fun K "put_in" "put_in" (top 64) f fd) (QK : Fd P w K mg base 36 "points_of" ["thing"] (Cb K)) (QF : mg "list" = none) (hT : P.given.tree = none) :
 Ay P w K mg base CX0 37 f fd ["points", "point"] (FA K) := by
 refine F.ok Hr (fun vs H Q E h => ?_) (fun cdv A outer s H vs Q E hr h => ?_)
 ·obtain ⟨_, _, _, _, _, rfl, _⟩ := h; rfl
 refine ⟨_, (Ag (Aj (Az QK hr rfl (Aa (Ax ER (AN (NZ K) rfl QF FK (Aa (pv 0) Ab)) (Bx (Aa (pv 1) Ab))) Ab)))), ?_⟩
 obtain ⟨r, x, xs, pss, ps, rfl, hS, hp, hx, h23, hnd, h12, q⟩ := h
 have P1 : 1 ≤ sizeLine := by decide
 have hl := hp.length
 have hge := BS h23
 rw [TM, U3] at hge
 refine ⟨_, rfl, r, xs, rfl, .inr hS, fun l1 hl1 => ⟨_, rfl, P1, fun l2 hl2 => ?_⟩⟩
 refine ⟨l1, l2, xs, [x], rfl, rfl, (Ah.new hl2) _ _ Ac, Ac, SG (show _ ≤ 300 by rw [U3]; lia) (by decide), fun l3 hl3 => ?_⟩
 have s3 : Ah H _ := ((Ah.new hl1).trans (Ah.new hl2)).trans (Ah.new (o := .lst (xs ++ [x])) hl3)
 refine ⟨true, l3, xs ++ [x], pss ++ [ps], rfl, SqL.of Ac, Paired.snoc (AH.same hp s3) (hx.same s3), h23, by rw [TM, U3]; lia, hnd, h12, fun p H' s4 hp4 _ => ?_⟩
 exact q p H' (s3.trans s4) hp4
theorem K4 {f : Addr} {fd : FuncData} (F : Fun K "put_in" "put_in" (top 64) f fd) {a_TooMany a_NoPoints a_NoPoint : Addr} (X_points_of : FdY P w K mg base 36 "points_of" ["thing"] (fun vs H Q E => (Cb K : Sp) vs H Q E ∨ (E3 K a_NoPoints a_TooMany : Sp) vs H Q E)) (QK : Fd P w K mg base 36 "points_of" ["thing"] (Cb K)) (QF : mg "list" = none) (hT : P.given.tree = none) :
 Ay P w K mg base (CX2 P w) 37 f fd ["points", "point"] (FR K (AB a_TooMany a_NoPoints a_NoPoint)) := by
 refine F.okY Hr (fun vs H Q E h => ?_) (fun cdv A outer s H vs Q E hr h => ?_)
 ·obtain ⟨_, _, _, _, _, rfl, _⟩ := h; rfl
 refine ⟨_, (Ag (Aj (C8 X_points_of hr rfl CD (Aa (Ax ER (AN (NZ K) rfl QF FK (Aa (pv 0) Ab)) (Bx (Aa (pv 1) Ab))) Ab)))), ?_⟩
 obtain ⟨r, y, xs, pss, n, rfl, ok, hy, q⟩ := h
 have P1 : 1 ≤ sizeLine := by decide
 have hl := ok.len
 have hxl := ok.P.length
 refine ⟨_, rfl, r, xs, rfl, .inr ok.S, fun l1 hl1 => ⟨_, rfl, P1, fun l2 hl2 => ?_⟩⟩
 refine ⟨l1, l2, xs, [y], rfl, rfl, (Ah.new hl2) _ _ Ac, Ac, SG (show _ ≤ 300 by rw [U3]; lia) (by decide), fun l3 hl3 => ?_⟩
 have s3 : Ah H _ := ((Ah.new hl1).trans (Ah.new hl2)).trans (Ah.new (o := .lst (xs ++ [y])) hl3)
 rcases Nn (ok.same s3) (hy.same s3) (SqL.of Ac) with ⟨rfl, hb⟩ | ⟨rfl, hb⟩
 ·exact .inr ⟨_, rfl, .inl ⟨hb, fun H' s => q H' (s3.trans s)⟩⟩
 ·exact .inr ⟨_, rfl, .inr ⟨hb, fun H' s => q H' (s3.trans s)⟩⟩
theorem FY : Ap ["points", "numbers"] ["points", "numbers"] (Ad (top 109)) := ⟨rfl, rfl, rfl, by decide +kernel, rfl, by decide +kernel, by decide +kernel⟩
theorem K6 {f : Addr} {fd : FuncData} (F : Fun K "put_row" "put_row" (top 109) f fd) (Rm : Fd P w K mg base 37 "put_in" ["points", "point"] (FA K)) (QB : mg "tuple" = none) (hT : P.given.tree = none) :
 Ay P w K mg base CX0 38 f fd ["points", "numbers"] (Cf K 0) := by
 refine F.ok FY (fun vs H Q E h => ?_) (fun cdv A outer s H vs Q E hr h => ?_)
 ·obtain ⟨_, _, _, _, _, _, _, rfl, _⟩ := h; rfl
 refine ⟨_, (Ag (Aj (Az Rm hr rfl (Aa (pv 0) (Aa (AN (Dk K) rfl QB Bz (Aa (pv 1) Ab)) Ab))))), ?_⟩
 obtain ⟨r, l, xs, ys, pss, pss', qs, rfl, pok, hS, hn, h1, h2, hc, q⟩ := h

 cases hc with
 | put hq ht =>
   have h1' : 2 ≤ qs.length := h1
   have h2' : qs.length ≤ 3 := h2
   refine ⟨_, rfl, _, rfl, l, ys, rfl, .inl ⟨hS, fun t ht' => ?_⟩⟩
   have s1 := Ah.new (o := .tup ys) ht'
   have hpt := JX (SqT.of (K := K) (Ac (H := H) (a := t) (o := .tup ys))) (AJ.same hn s1) h1'
   have pk := pok.same s1
   refine ⟨r, _, xs, pss, qs, rfl, pk.S, pk.P, hpt, Dz pk.h23 (by lia), ?_, ht, fun p H' s hp => ?_⟩
   ·rw [UG, V3]
    refine ⟨pk.nd, V4 .., fun a ha b hb e => ?_⟩
    rw [V5, Uh] at hb
    exact hq (by rw [← hb, ← e]; exact ha)
   ·exact q p _ H' (s1.trans s) hp (Paired.snoc (AH.same pk.P s) (hpt.same s))
theorem Jb {f : Addr} {fd : FuncData} (F : Fun K "put_row" "put_row" (top 109) f fd) {a_TooMany a_NoPoints a_NoPoint : Addr} (X_put_in : FdY P w K mg base 37 "put_in" ["points", "point"] (FR K (AB a_TooMany a_NoPoints a_NoPoint))) (Rm : Fd P w K mg base 37 "put_in" ["points", "point"] (FA K)) (QB : mg "tuple" = none) (hT : P.given.tree = none) :
 Ay P w K mg base (CX2 P w) 38 f fd ["points", "numbers"] (Bj K (AB a_TooMany a_NoPoints a_NoPoint) 0) := by
 refine F.okY FY (fun vs H Q E h => ?_) (fun cdv A outer s H vs Q E hr h => ?_)
 ·obtain ⟨_, _, _, _, _, _, _, rfl, _⟩ := h; rfl
 refine ⟨_, (Ag (Aj (C8 X_put_in hr rfl CD (Aa (pv 0) (Aa (AN (Dk K) rfl QB Bz (Aa (pv 1) Ab)) Ab))))), ?_⟩
 obtain ⟨r, l, xs, ys, pss, n, qs, rfl, pok, hS, hn, h1, h2, hc, q⟩ := h

 have h1' : 2 ≤ qs.length := h1
 have h2' : qs.length ≤ 3 := h2
 refine ⟨_, rfl, _, rfl, l, ys, rfl, .inl ⟨hS, fun t ht' => ?_⟩⟩
 have s1 := Ah.new (o := .tup ys) ht'
 have hpt := JX (SqT.of (K := K) (Ac (H := H) (a := t) (o := .tup ys))) (AJ.same hn s1) h1'
 refine ⟨r, _, xs, pss, n, rfl, pok.same s1, ?_, fun H' s => q H' (s1.trans s)⟩
 cases hc with
 | put2 hq => exact .twice hpt (by lia) hq
 | putM hq ht => exact .many hpt (by lia) hq ht
 | far hi hq => exact absurd hi (by decide)
theorem CB : Ap ["points", "x", "point"] ["points", "x"] (Ad (top 65)) := ⟨rfl, rfl, rfl, by decide +kernel, rfl, by decide +kernel, by decide +kernel⟩
theorem Je {f : Addr} {fd : FuncData} (F : Fun K "point_at" "point_at" (top 65) f fd) (hT : P.given.tree = none) :
 Ay P w K mg base CX0 33 f fd ["points", "x"] (Dr K) := by
 refine F.ok CB (fun vs H Q E h => ?_) (fun cdv A outer s H vs Q E hr h => ?_)
 ·obtain ⟨_, _, _, _, _, _, _, rfl, _⟩ := h; rfl
 refine ⟨_, (Ae (K := K) (D9 (K := K) PassesOwn.never rfl (piT K (pv 0)) (AL (i := 2) CB.nd rfl (Or.inl rfl)) (Ag (Aw (K := K) (Ak (eqD K hr.units) (Au (ixT K) (pv 2) Af (fun u v => rfl)) (pv 1) (As _)) (Ag (Aj (pv 2))) Ao (by rfl) (by rfl))) (by rfl))
  (Ag Bg) (by rfl)), ?_⟩
 obtain ⟨r, x, v, xs, pss, m, ps, rfl, hS, hp, hnd, hm, hv, hx, q⟩ := h
 refine ⟨_, rfl, r, rfl, ⟨_, hS⟩, FI (xs := xs) (fun i σ H' => H' = H ∧ i ≤ m ∧ ∃ z, σ = [some (.ref r), some x, z]) ⟨rfl, T1 _, _, rfl⟩ (fun i σ H' _ h => by rw [h.1]; exact hS) ?_ ?_⟩
 ·rintro i u σ H' hu hR1
  refine ED hR1 fun hq56 him hz58 => ?_
  refine OW hz58 fun z hq57 => ?_
  clear hz58
  obtain rfl := hq56
  obtain rfl := hq57
  try clear hR1
  obtain ⟨qs, hqs, a, us, pp, rfl, hus, hun, hu0, hpp⟩ := (Paired.get hp hu)
  refine ⟨_, rfl, a, us, _, _, rfl, rfl, hus, Ar (j := 0) hu0, _, rfl, ?_⟩
  refine eqN (AU.of hpp) hx ?_
  refine ⟨_, rfl, ?_⟩
  by_cases he : qs.getD 0 0 = ps.getD 0 0
  ·rw [decide_eq_true he]
   obtain rfl := E5 hnd hqs hm he
   rw [hv] at hu
   cases hu
   exact CA ⟨_, rfl, q⟩
  ·refine AM (by rw [decide_eq_false he] <;> rfl) ⟨rfl, ?_, _, rfl⟩
   rcases UO i m with z | z
   ·lia
   ·obtain rfl : i = m := by lia
    rw [hm] at hqs
    cases hqs
    exact absurd rfl he
 ·rintro σ H' hR2
  refine ED hR2 fun hq61 him hz63 => ?_
  refine OW hz63 fun z hq62 => ?_
  clear hz63
  obtain rfl := hq61
  obtain rfl := hq62
  try clear hR2
  exact absurd (SQ.mp hv).1 (by lia)
theorem Ig {f : Addr} {fd : FuncData} (F : Fun K "point_at" "point_at" (top 65) f fd) {a_TooMany a_NoPoints a_NoPoint : Addr} (k_NoPoint : IL K "NoPoint" a_NoPoint) (hT : P.given.tree = none) :
 Ay P w K mg base (CX2 P w) 33 f fd ["points", "x"] (D0 K (AB a_TooMany a_NoPoints a_NoPoint)) := by
 refine F.okY CB (fun vs H Q E h => ?_) (fun cdv A outer s H vs Q E hr h => ?_)
 ·obtain ⟨_, _, _, _, _, rfl, _⟩ := h; rfl
 refine ⟨_, (Bl (PS.nox (D9 (K := K) PassesOwn.never rfl (piT K (pv 0)) (AL (i := 2) CB.nd rfl (Or.inl rfl)) (Ag (Aw (K := K) (Ak (eqD K hr.units) (Au (ixT K) (pv 2) Af (fun u v => rfl)) (pv 1) (As _)) (Ag (Aj (pv 2))) Ao (by rfl) (by rfl))) (by rfl)))
  (Bl (CT k_NoPoint rfl EU rfl (Aa AD Ab))
  DJ)), ?_⟩
 obtain ⟨r, x, xs, pss, q0, rfl, ok, hx, hc⟩ := h
 have P1 : 1 ≤ sizeLine := by decide
 rcases hc with ⟨hno, qE⟩ | ⟨m, ps, v, hm, hv, e0, q⟩
 ·refine ⟨_, rfl, r, rfl, ⟨_, ok.S⟩, FI (xs := xs) (fun i σ H' => H' = H ∧ ∃ z, σ = [some (.ref r), some x, z]) ⟨rfl, _, rfl⟩ (fun i σ H' _ h => by rw [h.1]; exact ok.S) ?_ ?_⟩
  ·rintro i u σ H' hu ⟨rfl, z, rfl⟩
   obtain ⟨qs, hqs, a, us, pp, rfl, hus, hun, hu0, hpp⟩ := Paired.get ok.P hu
   refine ⟨_, rfl, a, us, _, _, rfl, rfl, hus, Ar (j := 0) hu0, _, rfl, ?_⟩
   refine eqN (AU.of hpp) hx ?_
   refine ⟨_, rfl, AM (decide_eq_false fun e => hno ?_) ⟨rfl, _, rfl⟩⟩
   rw [← e]; exact List.mem_map_of_mem (f := fun ps : List Rat => ps.getD 0 0) (TL hqs)
  ·rintro σ H' ⟨rfl, z, rfl⟩
   exact ⟨P1, qE⟩
 ·refine ⟨_, rfl, r, rfl, ⟨_, ok.S⟩, FI (xs := xs) (fun i σ H' => H' = H ∧ i ≤ m ∧ ∃ z, σ = [some (.ref r), some x, z]) ⟨rfl, T1 _, _, rfl⟩ (fun i σ H' _ h => by rw [h.1]; exact ok.S) ?_ ?_⟩
  ·rintro i u σ H' hu ⟨rfl, him, z, rfl⟩
   obtain ⟨qs, hqs, a, us, pp, rfl, hus, hun, hu0, hpp⟩ := Paired.get ok.P hu
   refine ⟨_, rfl, a, us, _, _, rfl, rfl, hus, Ar (j := 0) hu0, _, rfl, ?_⟩
   refine eqN (AU.of hpp) hx ?_
   refine ⟨_, rfl, ?_⟩
   by_cases he : qs.getD 0 0 = q0
   ·obtain rfl := E5 ok.nd hqs hm (he.trans e0.symm)
    rw [hv] at hu
    cases hu
    exact Be (decide_eq_true he) ⟨_, rfl, q⟩
   ·refine AM (decide_eq_false he) ⟨rfl, ?_, _, rfl⟩
    rcases UO i m with z | z
    ·lia
    ·obtain rfl : i = m := by lia
     rw [hm] at hqs
     cases hqs
     exact absurd e0 he
  ·rintro σ H' ⟨rfl, him, z, rfl⟩
   exact absurd (SQ.mp hv).1 (by lia)
theorem Co : Ap ["points", "x", "out"] ["points", "x"] (Ad (top 66)) := ⟨rfl, rfl, rfl, by decide +kernel, rfl, by decide +kernel, by decide +kernel⟩
theorem Ii {f : Addr} {fd : FuncData} (F : Fun K "taken_out" "taken_out" (top 66) f fd) (QJ : Fd P w K mg base 33 "point_at" ["points", "x"] (Dr K)) (QB : mg "tuple" = none) (Qz : mg "len" = none) (hT : P.given.tree = none) :
 Ay P w K mg base CX0 34 f fd ["points", "x"] (Fz K) := by
 refine F.ok Co (fun vs H Q E h => ?_) (fun cdv A outer s H vs Q E hr h => ?_)
 ·obtain ⟨_, _, _, _, _, _, rfl, _⟩ := h; rfl
 refine ⟨_, (Ae (K := K) (Aq (i := 2) Co.nd rfl (Or.inr rfl) (Az QJ hr rfl (Aa (pv 0) (Aa (pv 1) Ab))))
  (Ae (K := K) (Aw (K := K) (Ak BH (Ai (Ct K) rfl Qz Ba (Aa (pv 0) Ab)) Af (As _)) (Ag Bg) Ao (by rfl) (by rfl))
  (Ag (Aj (AN (Dk K) rfl QB Bz (Aa (Ck rfl (N := ["point", "out"]) (nt := 1) (js := [2]) (AX.look (NX := ["points", "x", "out"]) (sc := Ad (top 66)) rfl rfl (by decide +kernel)) (piT K (pv 0)) (fun u1 u2 u3 u4 u5 => (AL (i := 0) (show List.Nodup (["point", "out"] : List Str) from by decide +kernel) rfl (Or.inl rfl))) (AK (by decide)) (fun u1 u2 u3 u4 u5 => HW (Ak (neD K hr.units) (pv 0) (pv 1) (As _))) (fun u1 u2 u3 u4 u5 => (pv 0))) Ab)))) (by rfl)) (by rfl)), ?_⟩
 obtain ⟨r, x, xs, pss, m, ps, rfl, hS, hp, hnd, hm, hx, h2, h100, q⟩ := h
 have hl := hp.length
 obtain ⟨v, hv, hvp⟩ := (Paired.get' hp hm)
 refine ⟨_, rfl, _, rfl, r, x, v, xs, pss, m, ps, rfl, hS, hp, hnd, hm, hv, hx, ?_⟩
 refine ⟨_, rfl, r, xs, rfl, .inr hS, rfl, _, rfl, ?_⟩
 refine AM (by rw [decide_eq_false (show ¬ V.int ((xs.length : Nat) : Int) = V.int 1 from fun z => by have := V.int.inj z; lia)] <;> rfl) ?_
 refine BX ⟨_, rfl, r, rfl, ⟨_, hS⟩, ?_⟩
 refine MK (xs := xs) (fun i zs H' => H' = H ∧ zs = (xs.take m ++ xs.drop (m + 1)).take (if i ≤ m then i else i - 1)) ⟨rfl, by simp⟩ (fun i zs H' _ p => ⟨by rw [p.1]; exact hS, by rw [p.2, Tz]; split <;> lia⟩) (SH (AF (by lia))) ?_ ?_
 ·rintro i u zs H' hu ⟨rfl, rfl⟩
  obtain ⟨qs, hqs, huq⟩ := (Paired.get hp hu)
  have hlt := (SQ.mp hv).1
  have hiu := (SQ.mp hu).1
  obtain ⟨a, rfl, cu⟩ := huq.pt
  obtain ⟨b, rfl, cv⟩ := hvp.pt
  refine ⟨_, rfl, _, rfl, ?_⟩
  refine eqT cu cv ?_
  refine ⟨_, rfl, ?_⟩
  by_cases he : i = m
  ·subst he
   rw [hm] at hqs
   cases hqs
   refine AM (by rw [decide_eq_true rfl] <;> rfl) ⟨rfl, ?_⟩
   rw [if_pos (SW _), if_neg (by lia), Vc]
  ·refine Be (by rw [decide_eq_false (show ¬ qs = ps from fun z => he (E5 hnd hqs hm (by rw [z])))] <;> rfl) ⟨_, rfl, rfl, ?_⟩
   have hlen : (xs.take m).length = m := by rw [Tz]; lia
   by_cases hc : i ≤ m
   ·rw [if_pos hc, if_pos (by lia), UL, TH (by lia), V2, if_pos (by lia), hu]; rfl
   ·obtain ⟨k, rfl⟩ : ∃ k, i = k + 1 := ⟨i - 1, by lia⟩
    rw [if_neg hc, if_neg (by lia), Vc, Vc, UL, TC (by lia), hlen, Ue, show m + 1 + (k - m) = k + 1 by lia, hu]; rfl
 rintro zs Hq ⟨hq, rfl⟩ l hl'
 obtain rfl : H = Hq := hq.symm
 have hlt := (SQ.mp hv).1
 rw [if_neg (by lia), Ut (by rw [TM, Tz, U0]; lia)]
 have s1 : Ah H (upd H l (.lst (xs.take m ++ xs.drop (m + 1)))) := Ah.new hl'
 refine ⟨l, _, rfl, .inl ⟨SqL.of Ac, fun t ht => ?_⟩⟩
 exact q t _ (s1.trans (Ah.new ht)) (SqT.of Ac)
theorem GN {f : Addr} {fd : FuncData} (F : Fun K "taken_out" "taken_out" (top 66) f fd) {a_TooMany a_NoPoints a_NoPoint : Addr} (k_NoPoints : IL K "NoPoints" a_NoPoints) (X_point_at : FdY P w K mg base 33 "point_at" ["points", "x"] (D0 K (AB a_TooMany a_NoPoints a_NoPoint))) (QJ : Fd P w K mg base 33 "point_at" ["points", "x"] (Dr K)) (QB : mg "tuple" = none) (Qz : mg "len" = none) (hT : P.given.tree = none) :
 Ay P w K mg base (CX2 P w) 34 f fd ["points", "x"] (Dp K (AB a_TooMany a_NoPoints a_NoPoint)) := by
 refine F.okY Co (fun vs H Q E h => ?_) (fun cdv A outer s H vs Q E hr h => ?_)
 ·obtain ⟨_, _, _, _, _, _, rfl, _⟩ := h; rfl
 refine ⟨_, (Bl (Aq (i := 2) Co.nd rfl (Or.inr rfl) (C8 X_point_at hr rfl CD (Aa (pv 0) (Aa (pv 1) Ab))))
  (Bl (Aw (K := K) (Ak BH (Ai (Ct K) rfl Qz Ba (Aa (pv 0) Ab)) Af (As _)) (Ag (CT k_NoPoints rfl EU rfl (Aa AD Ab))) Ao (by rfl) (by rfl))
  DJ)), ?_⟩
 obtain ⟨r, x, xs, pss, q0, n, rfl, ok, hx, hc, q⟩ := h
 have P1 : 1 ≤ sizeLine := by decide
 rcases hc with ⟨rfl, hno⟩ | ⟨rfl, h1, hin⟩
 ·exact ⟨_, rfl, _, rfl, r, x, xs, pss, q0, rfl, ok, hx, .inl ⟨hno, q⟩⟩
 ·obtain ⟨m, ps, hm, e0⟩ := Dy hin
  obtain ⟨v, hv, hvp⟩ := Paired.get' ok.P hm
  refine ⟨_, rfl, _, rfl, r, x, xs, pss, q0, rfl, ok, hx, .inr ⟨m, ps, v, hm, hv, e0, ?_⟩⟩
  have hl := ok.P.length
  exact ⟨_, rfl, r, xs, rfl, .inr ok.S, rfl, _, rfl, Be (decide_eq_true (by rw [hl, h1]; rfl)) ⟨P1, q⟩⟩
theorem Fj : Ap ["points", "numbers"] ["points", "numbers"] (Ad (top 110)) := ⟨rfl, rfl, rfl, by decide +kernel, rfl, by decide +kernel, by decide +kernel⟩
theorem Jc {f : Addr} {fd : FuncData} (F : Fun K "take_row" "take_row" (top 110) f fd) (Rn : Fd P w K mg base 34 "taken_out" ["points", "x"] (Fz K)) (hT : P.given.tree = none) :
 Ay P w K mg base CX0 35 f fd ["points", "numbers"] (Cf K 1) := by
 refine F.ok Fj (fun vs H Q E h => ?_) (fun cdv A outer s H vs Q E hr h => ?_)
 ·obtain ⟨_, _, _, _, _, _, _, rfl, _⟩ := h; rfl
 refine ⟨_, (Ag (Aj (Az Rn hr rfl (Aa (pv 0) (Aa (Au (ixL K) (pv 1) Af (fun u v => rfl)) Ab))))), ?_⟩
 obtain ⟨r, l, xs, ys, pss, pss', qs, rfl, pok, hS, hn, h1, h2, hc, q⟩ := h

 obtain ⟨a, ha, ea⟩ := (Eu hn h1)
 have g12 := BS pok.h23
 have h12 := pok.h12
 cases hc with
 | take hm h0 h2' =>
   exact ⟨_, rfl, _, rfl, l, _, _, _, rfl, rfl, hS, Ar (j := 0) ha, r, _, xs, pss, _, _, rfl, pok.S, pok.P, pok.nd, hm, by rw [h0]; exact AU.of ea, h2', by lia, fun p H' s hp => q p _ H' s hp (Paired.append (Paired.take _ (AH.same pok.P s)) (Bo _ (AH.same pok.P s)))⟩
theorem Ic {f : Addr} {fd : FuncData} (F : Fun K "take_row" "take_row" (top 110) f fd) {a_TooMany a_NoPoints a_NoPoint : Addr} (X_taken_out : FdY P w K mg base 34 "taken_out" ["points", "x"] (Dp K (AB a_TooMany a_NoPoints a_NoPoint))) (Rn : Fd P w K mg base 34 "taken_out" ["points", "x"] (Fz K)) (hT : P.given.tree = none) :
 Ay P w K mg base (CX2 P w) 35 f fd ["points", "numbers"] (Bj K (AB a_TooMany a_NoPoints a_NoPoint) 1) := by
 refine F.okY Fj (fun vs H Q E h => ?_) (fun cdv A outer s H vs Q E hr h => ?_)
 ·obtain ⟨_, _, _, _, _, _, _, rfl, _⟩ := h; rfl
 refine ⟨_, (Ag (Aj (C8 X_taken_out hr rfl CD (Aa (pv 0) (Aa (Au (ixL K) (pv 1) Af (fun u v => rfl)) Ab))))), ?_⟩
 obtain ⟨r, l, xs, ys, pss, n, qs, rfl, pok, hS, hn, h1, h2, hc, q⟩ := h

 obtain ⟨a, ha, ea⟩ := Eu hn h1
 refine ⟨_, rfl, _, rfl, l, _, _, _, rfl, rfl, hS, Ar (j := 0) ha, r, _, xs, pss, qs.getD 0 0, n, rfl, pok, AU.of ea, ?_, q _ (Ah.refl _)⟩
 cases hc with
 | far hi hq => exact .inl ⟨rfl, hq⟩
 | only hq h1 => exact .inr ⟨rfl, h1, hq⟩
theorem Fl : Ap ["points", "old", "new"] ["points", "old", "new"] (Ad (top 67)) := ⟨rfl, rfl, rfl, by decide +kernel, rfl, by decide +kernel, by decide +kernel⟩
theorem Jd {f : Addr} {fd : FuncData} (F : Fun K "replaced" "replaced" (top 67) f fd) (QK : Fd P w K mg base 36 "points_of" ["thing"] (Cb K)) (hT : P.given.tree = none) :
 Ay P w K mg base CX0 37 f fd ["points", "old", "new"] (C7 K) := by
 refine F.ok Fl (fun vs H Q E h => ?_) (fun cdv A outer s H vs Q E hr h => ?_)
 ·obtain ⟨_, _, _, _, _, _, _, _, rfl, _⟩ := h; rfl
 refine ⟨_, (Ag (Aj (Az QK hr rfl (Aa (Ck rfl (N := ["point", "old", "new"]) (nt := 1) (js := [1, 2]) (AX.look (NX := ["points", "old", "new"]) (sc := Ad (top 67)) rfl rfl (by decide +kernel)) (piT K (pv 0)) (fun u1 u2 u3 u4 u5 => (AL (i := 0) (show List.Nodup (["point", "old", "new"] : List Str) from by decide +kernel) rfl (Or.inl rfl))) (AK (by decide)) (fun u1 u2 u3 u4 u5 => Bi) (fun u1 u2 u3 u4 u5 => (G8 (Ak (eqD K hr.units) (pv 0) (pv 1) (As _)) (pv 2) (pv 0)))) Ab)))), ?_⟩
 obtain ⟨r, v, y, xs, pss, m, ps, qs, rfl, hS, hp, hnd, h23, hm, hv, hy, h0, hq23, h10, h12, q⟩ := h
 have hl := hp.length
 have hge := BS h23
 have hlt := (SQ.mp hv).1
 refine BX ⟨_, rfl, r, rfl, ⟨_, hS⟩, ?_⟩
 refine De (xs := xs) (fun i zs H' => H' = H ∧ zs = (xs.set m y).take i) ⟨rfl, rfl⟩ (fun i zs H' _ p => ⟨by rw [p.1]; exact hS, by rw [p.2, Tz, U1]; lia⟩) (SH (AF (by lia))) ?_ ?_
 ·rintro i u zs H' hu ⟨rfl, rfl⟩
  obtain ⟨us, hqs, huq⟩ := (Paired.get hp hu)
  obtain ⟨us2, hqs2, hvp⟩ := (Paired.get hp hv)
  rw [hm] at hqs2
  cases hqs2
  have hiu := (SQ.mp hu).1
  obtain ⟨a, rfl, cu⟩ := huq.pt
  obtain ⟨b, rfl, cv⟩ := hvp.pt
  refine ⟨_, rfl, _, rfl, ?_⟩
  refine eqT cu cv ?_
  refine ⟨_, rfl, ?_⟩
  by_cases he : i = m
  ·subst he
   rw [hm] at hqs
   cases hqs
   refine Be (by rw [decide_eq_true rfl] <;> rfl) ⟨_, rfl, rfl, ?_⟩
   rw [UL, SR hlt]; rfl
  ·refine AM (by rw [decide_eq_false (show ¬ us = ps from fun z => he (E5 hnd hqs hm (by rw [z])))] <;> rfl) ⟨_, rfl, rfl, ?_⟩
   rw [UL, SS (Ne.symm he), hu]; rfl
 rintro zs Hq ⟨hq, rfl⟩ l hl'
 obtain rfl : H = Hq := hq.symm
 rw [Ut (by rw [U1]; lia)]
 have s1 : Ah H (upd H l (.lst (xs.set m y))) := Ah.new hl'
 refine ⟨true, l, xs.set m y, pss.set m qs, rfl, SqL.of Ac, BG m (AH.same hp s1) (hy.same s1), FF h23 hq23, by rw [U1]; lia, Iu hm h0 hnd, h12, fun p H' s4 hp4 _ => ?_⟩
 exact q p H' (s1.trans s4) hp4
theorem Ie {f : Addr} {fd : FuncData} (F : Fun K "replaced" "replaced" (top 67) f fd) {a_TooMany a_NoPoints a_NoPoint : Addr} (X_points_of : FdY P w K mg base 36 "points_of" ["thing"] (fun vs H Q E => (Cb K : Sp) vs H Q E ∨ (E3 K a_NoPoints a_TooMany : Sp) vs H Q E)) (QK : Fd P w K mg base 36 "points_of" ["thing"] (Cb K)) (hT : P.given.tree = none) :
 Ay P w K mg base (CX2 P w) 37 f fd ["points", "old", "new"] (DH K (AB a_TooMany a_NoPoints a_NoPoint)) := by
 refine F.okY Fl (fun vs H Q E h => ?_) (fun cdv A outer s H vs Q E hr h => ?_)
 ·obtain ⟨_, _, _, _, _, _, _, rfl, _⟩ := h; rfl
 refine ⟨_, (Ag (Aj (C8 X_points_of hr rfl CD (Aa (Ck rfl (N := ["point", "old", "new"]) (nt := 1) (js := [1, 2]) (AX.look (NX := ["points", "old", "new"]) (sc := Ad (top 67)) rfl rfl (by decide +kernel)) (piT K (pv 0)) (fun u1 u2 u3 u4 u5 => (AL (i := 0) (show List.Nodup (["point", "old", "new"] : List Str) from by decide +kernel) rfl (Or.inl rfl))) (AK (by decide)) (fun u1 u2 u3 u4 u5 => Bi) (fun u1 u2 u3 u4 u5 => (G8 (Ak (eqD K hr.units) (pv 0) (pv 1) (As _)) (pv 2) (pv 0)))) Ab)))), ?_⟩
 obtain ⟨r, v, y, xs, pss, m, ps, rfl, ok, hm, hv, hc⟩ := h
 have hl := ok.P.length
 have hge := ok.len
 have hp := ok.P
 have hS := ok.S
 have hnd := ok.nd
 have hlt := (SQ.mp hv).1
 refine BX ⟨_, rfl, r, rfl, ⟨_, hS⟩, ?_⟩
 refine De (xs := xs) (fun i zs H' => H' = H ∧ zs = (xs.set m y).take i) ⟨rfl, rfl⟩ (fun i zs H' _ p => ⟨by rw [p.1]; exact hS, by rw [p.2, Tz, U1]; lia⟩) (SH (AF (by lia))) ?_ ?_
 ·rintro i u zs H' hu ⟨rfl, rfl⟩
  obtain ⟨us, hqs, huq⟩ := Paired.get hp hu
  obtain ⟨us2, hqs2, hvp⟩ := Paired.get hp hv
  rw [hm] at hqs2
  cases hqs2
  have hiu := (SQ.mp hu).1
  obtain ⟨a, rfl, cu⟩ := huq.pt
  obtain ⟨b, rfl, cv⟩ := hvp.pt
  refine ⟨_, rfl, _, rfl, ?_⟩
  refine eqT cu cv ?_
  refine ⟨_, rfl, ?_⟩
  by_cases he : i = m
  ·subst he
   rw [hm] at hqs
   cases hqs
   refine Be (decide_eq_true rfl) ⟨_, rfl, rfl, ?_⟩
   rw [UL, SR hlt]; rfl
  ·refine AM (decide_eq_false (show ¬ us = ps from fun z => he (E5 hnd hqs hm (by rw [z])))) ⟨_, rfl, rfl, ?_⟩
   rw [UL, SS (Ne.symm he), hu]; rfl
 rintro zs Hq ⟨hq, rfl⟩ l hl'
 obtain rfl : H = Hq := hq.symm
 rw [Ut (by rw [U1]; lia)]
 have s1 : Ah H (upd H l (.lst (xs.set m y))) := Ah.new hl'
 rcases hc with ⟨n, hy, q⟩ | ⟨qs, hy, h0, hq23, ht, q⟩
 ·rcases Nl (ok.same s1) hm (hy.same s1) (SqL.of Ac) with ⟨rfl, hb⟩ | ⟨rfl, hb⟩
  ·exact .inr ⟨_, rfl, .inl ⟨hb, fun H' s => q H' (s1.trans s)⟩⟩
  ·exact .inr ⟨_, rfl, .inr ⟨hb, fun H' s => q H' (s1.trans s)⟩⟩
 ·exact .inl ⟨true, l, xs.set m y, pss.set m qs, rfl, SqL.of Ac, BG m (AH.same hp s1) (hy.same s1), FF ok.h23 hq23, by rw [U1]; exact ok.h1, Iu hm h0 hnd, ht, fun p H' s4 hp4 _ => q _ H' (s1.trans s4)⟩
theorem BY : Ap ["points", "x", "y", "old"] ["points", "x", "y"] (Ad (top 68)) := ⟨rfl, rfl, rfl, by decide +kernel, rfl, by decide +kernel, by decide +kernel⟩
theorem Gd {f : Addr} {fd : FuncData} (F : Fun K "with_height" "with_height" (top 68) f fd) (QJ : Fd P w K mg base 33 "point_at" ["points", "x"] (Dr K)) (QM : Fd P w K mg base 37 "replaced" ["points", "old", "new"] (C7 K)) (hT : P.given.tree = none) :
 Ay P w K mg base CX0 38 f fd ["points", "x", "y"] (Fw K) := by
 refine F.ok BY (fun vs H Q E h => ?_) (fun cdv A outer s H vs Q E hr h => ?_)
 ·obtain ⟨_, _, _, _, _, _, _, _, rfl, _⟩ := h; rfl
 refine ⟨_, (Ae (K := K) (Aq (i := 3) BY.nd rfl (Or.inl rfl) (Az QJ hr rfl (Aa (pv 0) (Aa (pv 1) Ab))))
  (Ag (Aj (Az QM hr rfl (Aa (pv 0) (Aa (pv 3) (Aa (Ax (DY K) (AV (Aa (pv 1) (Aa (pv 2) Ab))) (Bh (EL K) (pv 3) (Bv Af) Bw)) Ab)))))) (by rfl)), ?_⟩
 obtain ⟨r, px, y, xs, pss, m, ps, c, rfl, hS, hp, hnd, h23, hm, hx, hy, h10, h12, q⟩ := h
 have P2 : 2 ≤ sizeLine := by decide
 have hps := h23 ps (TL hm)
 obtain ⟨v, hv, a, us, pp, rfl, hus, hun, hu0, hpp⟩ := (Paired.get' hp hm)
 have hul := hun.length
 refine ⟨_, rfl, _, rfl, r, _, _, xs, pss, m, ps, rfl, hS, hp, hnd, hm, hv, AU.of hx, ?_⟩
 refine ⟨_, rfl, _, rfl, _, rfl, _, rfl, P2, fun t ht => ?_⟩
 have s1 : Ah H (upd H t (.tup [.ref px, y])) := Ah.new ht
 refine ⟨_, rfl, 2, rfl, BU (v := 2) (hus.same s1) (by lia) fun w H2 s2 hw => ?_⟩
 have hl2 : (us.drop 2).length ≤ 1 := by rw [U0]; lia
 have s12 := s1.trans s2
 refine By (SqT.of (s2 _ _ Ac)) hw (SG (show _ ≤ 300 by show 2 + _ ≤ 300; lia) (by decide)) (fun n H3 s3 hn => ?_)
 have s13 := s12.trans s3
 have hnew : PtT K H3 (.ref n) ([ps.getD 0 0, c] ++ ps.drop 2) := ⟨n, _, px, rfl, hn, .cons (AU.of (s13 _ _ hx)) (.cons (hy.same s13) (Bo 2 (hun.same s13))), rfl, s13 _ _ hx⟩
 refine ⟨r, _, _, xs, pss, m, ps, _, rfl, hS.same s13, AH.same hp s13, hnd, h23, hm, hv, hnew, rfl, by simp only [TM, U0, Ta, List.length_nil]; lia, h10, h12, fun p H4 s4 hp4 => ?_⟩
 have s14 := s13.trans s4
 exact q p H4 _ s14 hp4 (BG m (AH.same hp s14) (hnew.same s4))
theorem Ft {f : Addr} {fd : FuncData} (F : Fun K "with_height" "with_height" (top 68) f fd) {a_TooMany a_NoPoints a_NoPoint : Addr} (X_point_at : FdY P w K mg base 33 "point_at" ["points", "x"] (D0 K (AB a_TooMany a_NoPoints a_NoPoint))) (X_replaced : FdY P w K mg base 37 "replaced" ["points", "old", "new"] (DH K (AB a_TooMany a_NoPoints a_NoPoint))) (QJ : Fd P w K mg base 33 "point_at" ["points", "x"] (Dr K)) (QM : Fd P w K mg base 37 "replaced" ["points", "old", "new"] (C7 K)) (hT : P.given.tree = none) :
 Ay P w K mg base (CX2 P w) 38 f fd ["points", "x", "y"] (Dm K (AB a_TooMany a_NoPoints a_NoPoint)) := by
 refine F.okY BY (fun vs H Q E h => ?_) (fun cdv A outer s H vs Q E hr h => ?_)
 ·obtain ⟨_, _, _, _, _, _, _, rfl, _⟩ := h; rfl
 refine ⟨_, (Ae (K := K) (Aq (i := 3) BY.nd rfl (Or.inl rfl) (C8 X_point_at hr rfl CD (Aa (pv 0) (Aa (pv 1) Ab))))
  (Ag (Aj (C8 X_replaced hr rfl CD (Aa (pv 0) (Aa (pv 3) (Aa (Ax (DY K) (AV (Aa (pv 1) (Aa (pv 2) Ab))) (Bh (EL K) (pv 3) (Bv Af) Bw)) Ab)))))) (by rfl)), ?_⟩
 obtain ⟨r, x, y, xs, pss, q0, n, rfl, ok, hx, hc, q⟩ := h
 have P2 : 2 ≤ sizeLine := by decide
 rcases hc with ⟨rfl, hno⟩ | ⟨rfl, hin, hy⟩
 ·exact ⟨_, rfl, _, rfl, r, x, xs, pss, q0, rfl, ok, hx.num, .inl ⟨hno, q _ (Ah.refl _)⟩⟩
 obtain ⟨m, ps, hm, e0⟩ := Dy hin
 have hps := ok.h23 ps (TL hm)
 obtain ⟨v, hv, a, us, pp, rfl, hus, hun, hu0, hpp⟩ := Paired.get' ok.P hm
 have hul := hun.length
 refine ⟨_, rfl, _, rfl, r, x, xs, pss, q0, rfl, ok, hx.num, .inr ⟨m, ps, _, hm, hv, e0, ?_⟩⟩
 refine ⟨_, rfl, _, rfl, _, rfl, _, rfl, P2, fun t ht => ?_⟩
 have s1 : Ah H (upd H t (.tup [x, y])) := Ah.new ht
 refine ⟨_, rfl, 2, rfl, BU (v := 2) (hus.same s1) (by lia) fun w H2 s2 hw => ?_⟩
 have hl2 : (us.drop 2).length ≤ 1 := by rw [U0]; lia
 have s12 := s1.trans s2
 refine By (SqT.of (s2 _ _ Ac)) hw (SG (show _ ≤ 300 by show 2 + _ ≤ 300; lia) (by decide)) (fun n H3 s3 hn => ?_)
 have s13 := s12.trans s3
 have hbad : Pb K H3 (.ref n) false := by
  have hb := Pb.all hn (by simp only [TM, U0, Ta, List.length_nil]; lia) (Paired.append (.cons (Nb.of ((hx.same s13).num)) (.cons (hy.same s13) .nil)) (Nb.all (Bo 2 (hun.same s13))))
  have e : ∀ l : List Bool, ([true, false] ++ l).all id = false := fun l => rfl
  rw [e] at hb
  exact hb
 exact ⟨r, _, _, xs, pss, m, ps, rfl, ok.same s13, hm, hv, .inl ⟨1, .pt hbad, fun H' s => q H' (s13.trans s)⟩⟩
theorem DW : Ap ["points", "numbers"] ["points", "numbers"] (Ad (top 111)) := ⟨rfl, rfl, rfl, by decide +kernel, rfl, by decide +kernel, by decide +kernel⟩
theorem GV {f : Addr} {fd : FuncData} (F : Fun K "height_row" "height_row" (top 111) f fd) (Ro : Fd P w K mg base 38 "with_height" ["points", "x", "y"] (Fw K)) (hT : P.given.tree = none) :
 Ay P w K mg base CX0 39 f fd ["points", "numbers"] (Cf K 2) := by
 refine F.ok DW (fun vs H Q E h => ?_) (fun cdv A outer s H vs Q E hr h => ?_)
 ·obtain ⟨_, _, _, _, _, _, _, rfl, _⟩ := h; rfl
 refine ⟨_, (Ag (Aj (Az Ro hr rfl (Aa (pv 0) (Aa (Au (ixL K) (pv 1) Af (fun u v => rfl)) (Aa (Au (ixL K) (pv 1) Af (fun u v => rfl)) Ab)))))), ?_⟩
 obtain ⟨r, l, xs, ys, pss, pss', qs, rfl, pok, hS, hn, h1, h2, hc, q⟩ := h

 obtain ⟨a, ha, ea⟩ := (Eu hn (SG (by decide) h1))
 obtain ⟨b, hb, eb⟩ := (Hu hn h1)
 cases hc with
 | @height m ps hm h0 =>
   have hp := pok.h23 ps (TL hm)
   have hl := Hm (qs := [ps.getD 0 0, qs.getD 1 0] ++ ps.drop 2) hm
   have e : ([ps.getD 0 0, qs.getD 1 0] ++ ps.drop 2).length = ps.length := by rw [TM, U0]; show 2 + _ = _; lia
   rw [e] at hl
   have h12 := pok.h12
   exact ⟨_, rfl, _, rfl, l, _, _, _, rfl, rfl, hS, Ar (j := 0) ha, _, rfl, l, _, _, _, rfl, rfl, hS, Ar (j := 1) hb, r, a, _, xs, pss, m, ps, qs.getD 1 0, rfl, pok.S, pok.P, pok.nd, pok.h23, hm, by rw [h0]; exact ea, AU.of eb, h12, by lia, fun p H' xs' s hp' hpt => q p xs' H' s hp' hpt⟩
theorem Gb {f : Addr} {fd : FuncData} (F : Fun K "height_row" "height_row" (top 111) f fd) {a_TooMany a_NoPoints a_NoPoint : Addr} (X_with_height : FdY P w K mg base 38 "with_height" ["points", "x", "y"] (Dm K (AB a_TooMany a_NoPoints a_NoPoint))) (Ro : Fd P w K mg base 38 "with_height" ["points", "x", "y"] (Fw K)) (hT : P.given.tree = none) :
 Ay P w K mg base (CX2 P w) 39 f fd ["points", "numbers"] (Bj K (AB a_TooMany a_NoPoints a_NoPoint) 2) := by
 refine F.okY DW (fun vs H Q E h => ?_) (fun cdv A outer s H vs Q E hr h => ?_)
 ·obtain ⟨_, _, _, _, _, _, _, rfl, _⟩ := h; rfl
 refine ⟨_, (Ag (Aj (C8 X_with_height hr rfl CD (Aa (pv 0) (Aa (Au (ixL K) (pv 1) Af (fun u v => rfl)) (Aa (Au (ixL K) (pv 1) Af (fun u v => rfl)) Ab)))))), ?_⟩
 obtain ⟨r, l, xs, ys, pss, n, qs, rfl, pok, hS, hn, h1, h2, hc, q⟩ := h

 obtain ⟨a, ha, ea⟩ := Eu hn (SG (by decide) h1)
 obtain ⟨b, hb, eb⟩ := Hu hn h1
 refine ⟨_, rfl, _, rfl, l, _, _, _, rfl, rfl, hS, Ar (j := 0) ha, _, rfl, l, _, _, _, rfl, rfl, hS, Ar (j := 1) hb, r, _, _, xs, pss, qs.getD 0 0, n, rfl, pok, ⟨a, rfl, ea⟩, ?_, q⟩
 cases hc with
 | far hi hq => exact .inl ⟨rfl, hq⟩
theorem Cc : Ap ["points", "x", "slope", "old"] ["points", "x", "slope"] (Ad (top 69)) := ⟨rfl, rfl, rfl, by decide +kernel, rfl, by decide +kernel, by decide +kernel⟩
theorem GQ {f : Addr} {fd : FuncData} (F : Fun K "with_slope" "with_slope" (top 69) f fd) (QJ : Fd P w K mg base 33 "point_at" ["points", "x"] (Dr K)) (QM : Fd P w K mg base 37 "replaced" ["points", "old", "new"] (C7 K)) (hT : P.given.tree = none) :
 Ay P w K mg base CX0 38 f fd ["points", "x", "slope"] (DF K) := by
 refine F.ok Cc (fun vs H Q E h => ?_) (fun cdv A outer s H vs Q E hr h => ?_)
 ·obtain ⟨_, _, _, _, _, _, _, _, rfl, _⟩ := h; rfl
 refine ⟨_, (Ae (K := K) (Aq (i := 3) Cc.nd rfl (Or.inl rfl) (Az QJ hr rfl (Aa (pv 0) (Aa (pv 1) Ab))))
  (Ae (K := K) (Aw (K := K) (Ak Mz (pv 2) Dd (As _)) (Ag (Aj (Az QM hr rfl (Aa (pv 0) (Aa (pv 3) (Aa (Bh (EL K) (pv 3) Bw (Bv Af)) Ab)))))) Ao (by rfl) (by rfl))
  (Ag (Aj (Az QM hr rfl (Aa (pv 0) (Aa (pv 3) (Aa (Ax (DY K) (Bh (EL K) (pv 3) Bw (Bv Af)) (AV (Aa (pv 2) Ab))) Ab)))))) (by rfl)) (by rfl)), ?_⟩
 obtain ⟨r, x, s, xs, pss, m, ps, qs, rfl, hS, hp, hnd, h23, hm, hx, hs, h10, h12, q⟩ := h
 have P1 : 1 ≤ sizeLine := by decide
 have hps := h23 ps (TL hm)
 obtain ⟨v, hv, a, us, pp, rfl, hus, hun, hu0, hpp⟩ := (Paired.get' hp hm)
 have hul := hun.length
 have hl2 : (us.take 2).length = 2 := by rw [Tz]; lia
 have hl2' : (ps.take 2).length = 2 := by rw [Tz]; lia
 refine ⟨_, rfl, _, rfl, r, _, _, xs, pss, m, ps, rfl, hS, hp, hnd, hm, hv, hx, ?_⟩
 refine ⟨_, rfl, rfl, _, rfl, ?_⟩
 rcases hs with ⟨rfl, rfl⟩ | ⟨c, hc, rfl⟩
 ·refine Be (by rw [decide_eq_true rfl] <;> rfl) ?_
  refine ⟨_, rfl, _, rfl, _, rfl, 2, rfl, BE (v := 2) hus (by lia) fun w H2 s2 hw => ?_⟩
  have hnew : PtT K H2 (.ref w) (ps.take 2) := JY 1 hw (hun.same s2) hu0 (s2 _ _ hpp)
  refine ⟨r, _, _, xs, pss, m, ps, _, rfl, hS.same s2, AH.same hp s2, hnd, h23, hm, hv, hnew, by rw [Ud, V2, if_pos (by lia), ← Ud], by lia, h10, h12, fun p H4 s4 hp4 => ?_⟩
  have s14 := s2.trans s4
  exact q p H4 _ s14 hp4 (BG m (AH.same hp s14) (hnew.same s4))
 ·obtain ⟨sa, rfl, hsa⟩ := hc
  refine AM (by rw [decide_eq_false (fun z => nomatch z)] <;> rfl) ?_
  refine ⟨_, rfl, _, rfl, _, rfl, 2, rfl, BE (v := 2) hus (by lia) fun w H2 s2 hw => ⟨_, rfl, P1, fun t ht => ?_⟩⟩
  have s3 := s2.trans (Ah.new (o := .tup [.ref sa]) ht)
  refine By (hw.same (Ah.new ht)) (SqT.of Ac) (SG (show _ ≤ 300 by rw [hl2]; show 2 + 1 ≤ 300; decide) (by decide)) (fun n H3 s4 hn => ?_)
  have s13 := s3.trans s4
  have hnew : PtT K H3 (.ref n) (ps.take 2 ++ [c]) := by
   refine ⟨n, _, pp, rfl, hn, Paired.snoc (Paired.take 2 (hun.same s13)) ((show AU K H (.ref sa) c from ⟨sa, rfl, hsa⟩).same s13), ?_, ?_⟩
   ·rw [TH (by lia), V2, if_pos (by lia)]; exact hu0
   ·rw [Ud, TH (by lia), V2, if_pos (by lia), ← Ud]; exact s13 _ _ hpp
  refine ⟨r, _, _, xs, pss, m, ps, _, rfl, hS.same s13, AH.same hp s13, hnd, h23, hm, hv, hnew, by rw [Ud, TH (by lia), V2, if_pos (by lia), ← Ud], by rw [TM, hl2']; exact .inr rfl, h10, h12, fun p H4 s5 hp4 => ?_⟩
  have s14 := s13.trans s5
  exact q p H4 _ s14 hp4 (BG m (AH.same hp s14) (hnew.same s5))
theorem Ga {f : Addr} {fd : FuncData} (F : Fun K "with_slope" "with_slope" (top 69) f fd) {a_TooMany a_NoPoints a_NoPoint : Addr} (X_point_at : FdY P w K mg base 33 "point_at" ["points", "x"] (D0 K (AB a_TooMany a_NoPoints a_NoPoint))) (X_replaced : FdY P w K mg base 37 "replaced" ["points", "old", "new"] (DH K (AB a_TooMany a_NoPoints a_NoPoint))) (QJ : Fd P w K mg base 33 "point_at" ["points", "x"] (Dr K)) (QM : Fd P w K mg base 37 "replaced" ["points", "old", "new"] (C7 K)) (hT : P.given.tree = none) :
 Ay P w K mg base (CX2 P w) 38 f fd ["points", "x", "slope"] (CQ K (AB a_TooMany a_NoPoints a_NoPoint)) := by
 refine F.okY Cc (fun vs H Q E h => ?_) (fun cdv A outer s H vs Q E hr h => ?_)
 ·obtain ⟨_, _, _, _, _, _, rfl, _⟩ := h; rfl
 refine ⟨_, (Ae (K := K) (Aq (i := 3) Cc.nd rfl (Or.inl rfl) (C8 X_point_at hr rfl CD (Aa (pv 0) (Aa (pv 1) Ab))))
  (Ae (K := K) (Aw (K := K) (Ak Mz (pv 2) Dd (As _)) (Ag (Aj (C8 X_replaced hr rfl CD (Aa (pv 0) (Aa (pv 3) (Aa (Bh (EL K) (pv 3) Bw (Bv Af)) Ab)))))) Ao (by rfl) (by rfl))
  (Ag (Aj (C8 X_replaced hr rfl CD (Aa (pv 0) (Aa (pv 3) (Aa (Ax (DY K) (Bh (EL K) (pv 3) Bw (Bv Af)) (AV (Aa (pv 2) Ab))) Ab)))))) (by rfl)) (by rfl)), ?_⟩
 obtain ⟨r, x, s, xs, pss, q0, rfl, ok, hx, hc⟩ := h
 have P1 : 1 ≤ sizeLine := by decide
 rcases hc with ⟨n, hs, q⟩ | ⟨rfl, hin, q⟩
 ·cases hs with
  | far hno => exact ⟨_, rfl, _, rfl, r, x, xs, pss, q0, rfl, ok, hx.num, .inl ⟨hno, q _ (Ah.refl _)⟩⟩
  | odd hin hsb hsn =>
    obtain ⟨m, ps, hm, e0⟩ := Dy hin
    have hps := ok.h23 ps (TL hm)
    obtain ⟨v, hv, a, us, pp, rfl, hus, hun, hu0, hpp⟩ := Paired.get' ok.P hm
    have hul := hun.length
    have hl2 : (us.take 2).length = 2 := by rw [Tz]; lia
    refine ⟨_, rfl, _, rfl, r, x, xs, pss, q0, rfl, ok, hx.num, .inr ⟨m, ps, _, hm, hv, e0, ?_⟩⟩
    refine ⟨_, rfl, rfl, _, rfl, AM (decide_eq_false hsn) ?_⟩
    refine ⟨_, rfl, _, rfl, _, rfl, 2, rfl, BE (v := 2) hus (by lia) fun w H2 s2 hw => ⟨_, rfl, P1, fun t ht => ?_⟩⟩
    have s3 := Ah.new (o := .tup [s]) ht
    refine By (hw.same s3) (SqT.of Ac) (SG (show _ ≤ 300 by rw [hl2, U3]; decide) (by decide)) (fun n H4 s4 hn => ?_)
    have s14 := (s2.trans s3).trans s4
    have hbad : Pb K H4 (.ref n) false := by
     have hb := Pb.all hn (by rw [TM, hl2]; exact .inr rfl) (Paired.append (Paired.take 2 (Nb.all (hun.same s14))) (.cons (hsb.same s14) .nil))
     rw [List.all_append] at hb
     have e : ∀ b : Bool, (b && [false].all id) = false := by decide
     rw [e] at hb
     exact hb
    exact ⟨r, _, _, xs, pss, m, ps, rfl, ok.same s14, hm, hv, .inl ⟨1, .pt hbad, fun H' s => q H' (s14.trans s)⟩⟩
  | @many c m ps hm e0 hc ht =>
    have hps := ok.h23 ps (TL hm)
    obtain ⟨v, hv, a, us, pp, rfl, hus, hun, hu0, hpp⟩ := Paired.get' ok.P hm
    have hul := hun.length
    have hl2 : (us.take 2).length = 2 := by rw [Tz]; lia
    have hl2' : (ps.take 2).length = 2 := by rw [Tz]; lia
    refine ⟨_, rfl, _, rfl, r, x, xs, pss, q0, rfl, ok, hx.num, .inr ⟨m, ps, _, hm, hv, e0, ?_⟩⟩
    obtain ⟨sa, rfl, hsa⟩ := hc
    refine ⟨_, rfl, rfl, _, rfl, AM (decide_eq_false (fun z => nomatch z)) ?_⟩
    refine ⟨_, rfl, _, rfl, _, rfl, 2, rfl, BE (v := 2) hus (by lia) fun w H2 s2 hw => ⟨_, rfl, P1, fun t ht' => ?_⟩⟩
    have s3 := Ah.new (o := .tup [.ref sa]) ht'
    refine By (hw.same s3) (SqT.of Ac) (SG (show _ ≤ 300 by rw [hl2, U3]; decide) (by decide)) (fun n H4 s4 hn => ?_)
    have s14 := (s2.trans s3).trans s4
    have e2 : (ps.take 2 ++ [c]).getD 0 0 = ps.getD 0 0 := by
     match ps, hps with
     | [a, b], _ => rfl
     | [a, b, d], _ => rfl
    have hnew : PtT K H4 (.ref n) (ps.take 2 ++ [c]) := ⟨n, _, pp, rfl, hn, Paired.snoc (Paired.take 2 (hun.same s14)) (AU.same ⟨sa, rfl, hsa⟩ s14), by rw [TH (by lia), V2, if_pos (by lia)]; exact hu0, by rw [e2]; exact s14 _ _ hpp⟩
    exact ⟨r, _, _, xs, pss, m, ps, rfl, ok.same s14, hm, hv, .inl ⟨0, .many hnew e2 (by rw [TM, hl2']; exact .inr rfl) ht, fun H' s => q H' (s14.trans s)⟩⟩
 ·obtain ⟨m, ps, hm, e0⟩ := Dy hin
  have hps := ok.h23 ps (TL hm)
  obtain ⟨v, hv, a, us, pp, rfl, hus, hun, hu0, hpp⟩ := Paired.get' ok.P hm
  have hul := hun.length
  have hl2' : (ps.take 2).length = 2 := by rw [Tz]; lia
  refine ⟨_, rfl, _, rfl, r, x, xs, pss, q0, rfl, ok, hx.num, .inr ⟨m, ps, _, hm, hv, e0, ?_⟩⟩
  refine ⟨_, rfl, rfl, _, rfl, Be (decide_eq_true rfl) ?_⟩
  refine ⟨_, rfl, _, rfl, _, rfl, 2, rfl, BE (v := 2) hus (by lia) fun w H2 s2 hw => ?_⟩
  have hnew : PtT K H2 (.ref w) (ps.take 2) := JY 1 hw (hun.same s2) hu0 (s2 _ _ hpp)
  refine ⟨r, _, _, xs, pss, m, ps, rfl, ok.same s2, hm, hv, .inr ⟨_, hnew, by rw [Ud, V2, if_pos (by lia), ← Ud], by lia, ?_, fun v' H' s => ?_⟩⟩
  ·exact SG (Ed hm hps) ok.h12
  ·exact q _ H' (s2.trans s)
theorem Ei : Ap ["points", "numbers"] ["points", "numbers"] (Ad (top 112)) := ⟨rfl, rfl, rfl, by decide +kernel, rfl, by decide +kernel, by decide +kernel⟩
theorem Ij {f : Addr} {fd : FuncData} (F : Fun K "slope_row" "slope_row" (top 112) f fd) (QP : Fd P w K mg base 38 "with_slope" ["points", "x", "slope"] (DF K)) (hT : P.given.tree = none) :
 Ay P w K mg base CX0 39 f fd ["points", "numbers"] (Cf K 3) := by
 refine F.ok Ei (fun vs H Q E h => ?_) (fun cdv A outer s H vs Q E hr h => ?_)
 ·obtain ⟨_, _, _, _, _, _, _, rfl, _⟩ := h; rfl
 refine ⟨_, (Ag (Aj (Az QP hr rfl (Aa (pv 0) (Aa (Au (ixL K) (pv 1) Af (fun u v => rfl)) (Aa (Au (ixL K) (pv 1) Af (fun u v => rfl)) Ab)))))), ?_⟩
 obtain ⟨r, l, xs, ys, pss, pss', qs, rfl, pok, hS, hn, h1, h2, hc, q⟩ := h

 obtain ⟨a, ha, ea⟩ := (Eu hn (SG (by decide) h1))
 obtain ⟨b, hb, eb⟩ := (Hu hn h1)
 cases hc with
 | @slope m ps hm h0 ht =>
   exact ⟨_, rfl, _, rfl, l, _, _, _, rfl, rfl, hS, Ar (j := 0) ha, _, rfl, l, _, _, _, rfl, rfl, hS, Ar (j := 1) hb, r, _, _, xs, pss, m, ps, _, rfl, pok.S, pok.P, pok.nd, pok.h23, hm, by rw [h0]; exact AU.of ea, .inr ⟨_, AU.of eb, rfl⟩, pok.h12, ht, fun p H' xs' s hp' hpt => q p xs' H' s hp' hpt⟩
theorem GO {f : Addr} {fd : FuncData} (F : Fun K "slope_row" "slope_row" (top 112) f fd) {a_TooMany a_NoPoints a_NoPoint : Addr} (X_with_slope : FdY P w K mg base 38 "with_slope" ["points", "x", "slope"] (CQ K (AB a_TooMany a_NoPoints a_NoPoint))) (QP : Fd P w K mg base 38 "with_slope" ["points", "x", "slope"] (DF K)) (hT : P.given.tree = none) :
 Ay P w K mg base (CX2 P w) 39 f fd ["points", "numbers"] (Bj K (AB a_TooMany a_NoPoints a_NoPoint) 3) := by
 refine F.okY Ei (fun vs H Q E h => ?_) (fun cdv A outer s H vs Q E hr h => ?_)
 ·obtain ⟨_, _, _, _, _, _, _, rfl, _⟩ := h; rfl
 refine ⟨_, (Ag (Aj (C8 X_with_slope hr rfl CD (Aa (pv 0) (Aa (Au (ixL K) (pv 1) Af (fun u v => rfl)) (Aa (Au (ixL K) (pv 1) Af (fun u v => rfl)) Ab)))))), ?_⟩
 obtain ⟨r, l, xs, ys, pss, n, qs, rfl, pok, hS, hn, h1, h2, hc, q⟩ := h

 obtain ⟨a, ha, ea⟩ := Eu hn (SG (by decide) h1)
 obtain ⟨b, hb, eb⟩ := Hu hn h1
 refine ⟨_, rfl, _, rfl, l, _, _, _, rfl, rfl, hS, Ar (j := 0) ha, _, rfl, l, _, _, _, rfl, rfl, hS, Ar (j := 1) hb, r, _, _, xs, pss, qs.getD 0 0, rfl, pok, ⟨a, rfl, ea⟩, .inl ⟨n, ?_, q⟩⟩
 cases hc with
 | far hi hq => exact .far hq
 | slopeM hm h0 ht => exact .many hm h0 (AU.of eb) ht
theorem Ds : Ap ["points", "numbers"] ["points", "numbers"] (Ad (top 113)) := ⟨rfl, rfl, rfl, by decide +kernel, rfl, by decide +kernel, by decide +kernel⟩
theorem Gg {f : Addr} {fd : FuncData} (F : Fun K "noslope_row" "noslope_row" (top 113) f fd) (QP : Fd P w K mg base 38 "with_slope" ["points", "x", "slope"] (DF K)) (hT : P.given.tree = none) :
 Ay P w K mg base CX0 39 f fd ["points", "numbers"] (Cf K 4) := by
 refine F.ok Ds (fun vs H Q E h => ?_) (fun cdv A outer s H vs Q E hr h => ?_)
 ·obtain ⟨_, _, _, _, _, _, _, rfl, _⟩ := h; rfl
 refine ⟨_, (Ag (Aj (Az QP hr rfl (Aa (pv 0) (Aa (Au (ixL K) (pv 1) Af (fun u v => rfl)) (Aa Dd Ab)))))), ?_⟩
 obtain ⟨r, l, xs, ys, pss, pss', qs, rfl, pok, hS, hn, h1, h2, hc, q⟩ := h

 obtain ⟨a, ha, ea⟩ := (Eu hn h1)
 cases hc with
 | @noslope m ps hm h0 =>
   have hp := pok.h23 ps (TL hm)
   have hl := Ed hm hp
   have h12 := pok.h12
   exact ⟨_, rfl, _, rfl, l, _, _, _, rfl, rfl, hS, Ar (j := 0) ha, r, _, _, xs, pss, m, ps, _, rfl, pok.S, pok.P, pok.nd, pok.h23, hm, by rw [h0]; exact AU.of ea, .inl ⟨rfl, rfl⟩, pok.h12, by lia, fun p H' xs' s hp' hpt => q p xs' H' s hp' hpt⟩
theorem Fu {f : Addr} {fd : FuncData} (F : Fun K "noslope_row" "noslope_row" (top 113) f fd) {a_TooMany a_NoPoints a_NoPoint : Addr} (X_with_slope : FdY P w K mg base 38 "with_slope" ["points", "x", "slope"] (CQ K (AB a_TooMany a_NoPoints a_NoPoint))) (QP : Fd P w K mg base 38 "with_slope" ["points", "x", "slope"] (DF K)) (hT : P.given.tree = none) :
 Ay P w K mg base (CX2 P w) 39 f fd ["points", "numbers"] (Bj K (AB a_TooMany a_NoPoints a_NoPoint) 4) := by
 refine F.okY Ds (fun vs H Q E h => ?_) (fun cdv A outer s H vs Q E hr h => ?_)
 ·obtain ⟨_, _, _, _, _, _, _, rfl, _⟩ := h; rfl
 refine ⟨_, (Ag (Aj (C8 X_with_slope hr rfl CD (Aa (pv 0) (Aa (Au (ixL K) (pv 1) Af (fun u v => rfl)) (Aa Dd Ab)))))), ?_⟩
 obtain ⟨r, l, xs, ys, pss, n, qs, rfl, pok, hS, hn, h1, h2, hc, q⟩ := h

 obtain ⟨a, ha, ea⟩ := Eu hn h1
 refine ⟨_, rfl, _, rfl, l, _, _, _, rfl, rfl, hS, Ar (j := 0) ha, r, _, _, xs, pss, qs.getD 0 0, rfl, pok, ⟨a, rfl, ea⟩, .inl ⟨n, ?_, q⟩⟩
 cases hc with
 | far hi hq => exact .far hq
theorem BW : Ap ["self", "row", "words", "numbers"] ["self", "row"] (Ad (BL (top 130) 1)) := ⟨rfl, rfl, rfl, by decide +kernel, rfl, by decide +kernel, by decide +kernel⟩
theorem Fm {f : Addr} {fd : FuncData} (F : Fun K "say" "Desk.say" (BL (top 130) 1) f fd) {C_Desk : Addr} (t_Desk : HJ K C_Desk) (R6 : Fd P w K mg base 36 "numbers_of_row" ["words"] (DI K)) (RJ : Fd P w K mg base 36 "points_row" ["points", "numbers"] (Dq K)) (RK : Fd P w K mg base 38 "put_row" ["points", "numbers"] (Cf K 0)) (RL : Fd P w K mg base 35 "take_row" ["points", "numbers"] (Cf K 1)) (RM : Fd P w K mg base 39 "height_row" ["points", "numbers"] (Cf K 2)) (RN : Fd P w K mg base 39 "slope_row" ["points", "numbers"] (Cf K 3)) (RO : Fd P w K mg base 39 "noslope_row" ["points", "numbers"] (Cf K 4)) (QA : mg "isinstance" = none) (QC : mg "str" = none) (hT : P.given.tree = none) {f_put_row : Addr} (m_put_row : mg "put_row" = some (.ref f_put_row)) {f_take_row : Addr} (m_take_row : mg "take_row" = some (.ref f_take_row)) {f_height_row : Addr} (m_height_row : mg "height_row" = some (.ref f_height_row)) {f_slope_row : Addr} (m_slope_row : mg "slope_row" = some (.ref f_slope_row)) {f_noslope_row : Addr} (m_noslope_row : mg "noslope_row" = some (.ref f_noslope_row)) {a_CHANGES : Addr} (c_CHANGES : mg "CHANGES" = some (.ref a_CHANGES)) (d_CHANGES : KDk P w K a_CHANGES [(Sum.inr "put", .ref f_put_row), (Sum.inr "take", .ref f_take_row), (Sum.inr "height", .ref f_height_row), (Sum.inr "slope", .ref f_slope_row), (Sum.inr "noslope", .ref f_noslope_row)]) {f_points_row : Addr} (m_points_row : mg "points_row" = some (.ref f_points_row)) {g_ANSWERS_1 : Addr} {g_ANSWERS_2 : Addr} {g_ANSWERS_3 : Addr} {g_ANSWERS_4 : Addr} {g_ANSWERS_5 : Addr} {g_ANSWERS_6 : Addr} {g_ANSWERS_7 : Addr} {g_ANSWERS_8 : Addr} {g_ANSWERS_9 : Addr} {a_ANSWERS : Addr} (c_ANSWERS : mg "ANSWERS" = some (.ref a_ANSWERS)) (d_ANSWERS : KDk P w K a_ANSWERS [(Sum.inr "points", .ref f_points_row), (Sum.inr "curve", .ref g_ANSWERS_1), (Sum.inr "steps", .ref g_ANSWERS_2), (Sum.inr "at", .ref g_ANSWERS_3), (Sum.inr "slopeat", .ref g_ANSWERS_4), (Sum.inr "misses", .ref g_ANSWERS_5), (Sum.inr "bounds", .ref g_ANSWERS_6), (Sum.inr "noughts", .ref g_ANSWERS_7), (Sum.inr "wrong", .ref g_ANSWERS_8), (Sum.inr "quotient", .ref g_ANSWERS_9)]) :
 Ay P w K mg base CX0 40 f fd ["self", "row"] (FP K C_Desk) := by
 refine F.ok BW (fun vs H Q E h => ?_) (fun cdv A outer s H vs Q E hr h => ?_)
 ·obtain ⟨_, _, _, _, _, _, _, _, rfl, _⟩ := h; rfl
 refine ⟨_, (Ae (K := K) (Aw (K := K) (BQ (Br (Ai (Js K) rfl QA Av (Aa (pv 1) (Aa (BJ (v := .ty "str") rfl QC CJ rfl) Ab))))) (Ag Bg) Ao (by rfl) (by rfl))
  (Ae (K := K) (Aq (i := 2) BW.nd rfl (Or.inl rfl) (BR K PySem.F.plainAttrs_str PySem.F.slot_str_split PySem.F.type_str_split DB (pv 1) (Aa AD Ab)))
  (Ae (K := K) (Aq (i := 3) BW.nd rfl (Or.inl rfl) (Az R6 hr rfl (Aa (pv 2) Ab)))
  (Ae (K := K) (Aw (K := K) (JZ (KH P w K (Au (ixL K) (pv 2) Af (fun u v => rfl)) (AY (v := .ref a_CHANGES) rfl c_CHANGES rfl)) (by with_unfolding_all rfl)) (Ae (K := K) (HX K (pv 0) (G9 P w K mg base (CX := CX0) (n := 39) (hr.mono (by decide)) J8 (El P w K (AY (v := .ref a_CHANGES) rfl c_CHANGES rfl) (Au (ixL K) (pv 2) Af (fun u v => rfl)) (fun u v => rfl)) (Aa (HZ K (pv 0) rfl) (Aa (pv 3) Ab))) rfl)
  (Ag (Aj AD)) (by rfl)) Ao (by rfl) (by rfl))
  (Ag (Aj (G9 P w K mg base (CX := CX0) (n := 36) (hr.mono (by decide)) J8 (El P w K (AY (v := .ref a_ANSWERS) rfl c_ANSWERS rfl) (Au (ixL K) (pv 2) Af (fun u v => rfl)) (fun u v => rfl)) (Aa (HZ K (pv 0) rfl) (Aa (pv 3) Ab))))) (by rfl)) (by rfl)) (by rfl)) (by rfl)), ?_⟩
 obtain ⟨p, dx, r, xs, t, i, qs, pss, rfl, hsp, htl, hp, pok, h1, h2, hf, hq⟩ := h
 have i6 : i < 6 := by rcases hq with ⟨z, _⟩ | ⟨z, _⟩ <;> lia
 refine ⟨_, rfl, _, _, _, _, rfl, .of (.str _), Iw K, true, rfl, Bs ?_⟩
 refine ⟨_, rfl, rfl, _, _, rfl, rfl, rfl, htl, fun l hl => ?_⟩
 rw [hsp]
 have s1 := Ah.new (o := .lst ((wd i :: qs.map tx).map V.str)) hl
 have el : upd H l (.lst ((wd i :: qs.map tx).map V.str)) l = some (.lst (.str (wd i) :: qs.map fun x => V.str (tx x))) := by rw [Ac, Te, UY]; rfl
 generalize upd H l (.lst ((wd i :: qs.map tx).map V.str)) = H1 at s1 el ⊢
 refine ⟨_, rfl, l, i, qs, rfl, SqL.of el, i6, h1, h2, hf, fun nl ys H2 s2 hnl en hn => ?_⟩
 have s12 := s1.trans s2
 have el2 := s2 _ _ el
 have pok2 := pok.same s12
 have hp2 := s12 _ _ hp
 rcases hq with ⟨i5, pss', hch, q⟩ | ⟨rfl, hg, q⟩
 ·obtain ⟨kvs, fa, fda, dC, hv, kp, FO, BB⟩ : ∃ kvs fa fda, KDk P w K a_CHANGES kvs ∧ CL kvs (Sum.inr (wd i)) = some (.ref fa) ∧ Tg K (.ref fa) = true ∧ Ay P w K mg base CX0 39 fa fda ["points", "numbers"] (Cf K i) ∧ BP K fda ["points", "numbers"] [] := by
   have hi : i = 0 ∨ i = 1 ∨ i = 2 ∨ i = 3 ∨ i = 4 := by lia
   rcases hi with rfl | rfl | rfl | rfl | rfl
   ·refine Ex RK.ex fun _ _ hz68' => ?_
    refine Gx hz68' fun FO B kp m => ?_
    clear hz68'
    cases m_put_row.symm.trans m
    exact ⟨_, _, _, d_CHANGES, rfl, kp, Ay.up FO (by decide), B⟩
   ·refine Ex RL.ex fun _ _ hz69' => ?_
    refine Gx hz69' fun FO B kp m => ?_
    clear hz69'
    cases m_take_row.symm.trans m
    exact ⟨_, _, _, d_CHANGES, rfl, kp, Ay.up FO (by decide), B⟩
   ·refine Ex RM.ex fun _ _ hz70' => ?_
    refine Gx hz70' fun FO B kp m => ?_
    clear hz70'
    cases m_height_row.symm.trans m
    exact ⟨_, _, _, d_CHANGES, rfl, kp, Ay.up FO (by decide), B⟩
   ·refine Ex RN.ex fun _ _ hz71' => ?_
    refine Gx hz71' fun FO B kp m => ?_
    clear hz71'
    cases m_slope_row.symm.trans m
    exact ⟨_, _, _, d_CHANGES, rfl, kp, Ay.up FO (by decide), B⟩
   ·refine Ex RO.ex fun _ _ hz72' => ?_
    refine Gx hz72' fun FO B kp m => ?_
    clear hz72'
    cases m_noslope_row.symm.trans m
    exact ⟨_, _, _, d_CHANGES, rfl, kp, Ay.up FO (by decide), B⟩
  refine ⟨⟨_, rfl, l, _, _, _, rfl, rfl, SqL.of el2, Ar (j := 0) rfl, a_CHANGES, kvs, Sum.inr (wd i), rfl, dC, rfl, _, rfl, ?_⟩⟩
  rw [hv]
  refine CA ?_
  refine ⟨⟨_, rfl, l, _, _, _, rfl, rfl, SqL.of el2, Ar (j := 0) rfl, a_CHANGES, kvs, Sum.inr (wd i), _, rfl, dC, rfl, hv, fa, fda, rfl, kp, _, rfl, p, C_Desk, dx, _, _, rfl, hp2, t_Desk.cl, t_Desk.na_points, rfl, _, rfl, _, _, FO, BB, r, nl, xs, ys, pss, pss', qs, rfl, pok2, SqL.of en, hn, h1, h2, hch, fun r' xs' H3 s3 hr hx => ?_⟩⟩
  have hp3 := s3 _ _ hp2
  refine ⟨_, rfl, p, C_Desk, dx, _, rfl, hp3, t_Desk.cl, t_Desk.na_points, (by show 1 < 1000; decide), ?_⟩
  have s13 := s12.trans s3
  refine q r' xs' _ (fun b o hb e => by rw [AA hb]; exact s13 _ _ e) ?_ (SqT.but hr hp3) (AH.but hx hp3)
  rw [Ac]; rfl
 obtain ⟨kvs, dC, hv⟩ : ∃ kvs, KDk P w K a_CHANGES kvs ∧ CL kvs (Sum.inr (wd 5)) = none := ⟨_, d_CHANGES, rfl⟩
 obtain ⟨kva, fa, fda, dA, hva, kp, FO, BB⟩ : ∃ kvs fa fda, KDk P w K a_ANSWERS kvs ∧ CL kvs (Sum.inr (wd 5)) = some (.ref fa) ∧ Tg K (.ref fa) = true ∧ Ay P w K mg base CX0 36 fa fda ["points", "numbers"] (Dq K) ∧ BP K fda ["points", "numbers"] [] := by
  refine Ex RJ.ex fun _ _ hz73' => ?_
  refine Gx hz73' fun FO B kp m => ?_
  clear hz73'
  cases m_points_row.symm.trans m
  exact ⟨_, _, _, d_ANSWERS, rfl, kp, Ay.up FO (by decide), B⟩
 have g12 := BS pok.h23
 have h12 := pok.h12
 refine ⟨⟨_, rfl, l, _, _, _, rfl, rfl, SqL.of el2, Ar (j := 0) rfl, a_CHANGES, kvs, Sum.inr (wd 5), rfl, dC, rfl, _, rfl, ?_⟩⟩
 rw [hv]
 refine Bs ?_
 exact ⟨⟨_, rfl, l, _, _, _, rfl, rfl, SqL.of el2, Ar (j := 0) rfl, a_ANSWERS, kva, Sum.inr (wd 5), _, rfl, dA, rfl, hva, fa, fda, rfl, kp, _, rfl, p, C_Desk, dx, _, _, rfl, hp2, t_Desk.cl, t_Desk.na_points, rfl, _, rfl, _, _, FO, BB, r, nl, xs, pss, rfl, pok2.S, AH.pts pok2.P, pok2.h23, hg, by lia, fun H3 s3 => q H3 (s12.trans s3)⟩⟩
theorem Ih {f : Addr} {fd : FuncData} (F : Fun K "say" "Desk.say" (BL (top 130) 1) f fd) {a_TooMany a_NoPoints a_NoPoint : Addr} (X_put_row : FdY P w K mg base 38 "put_row" ["points", "numbers"] (Bj K (AB a_TooMany a_NoPoints a_NoPoint) 0)) (X_take_row : FdY P w K mg base 35 "take_row" ["points", "numbers"] (Bj K (AB a_TooMany a_NoPoints a_NoPoint) 1)) (X_height_row : FdY P w K mg base 39 "height_row" ["points", "numbers"] (Bj K (AB a_TooMany a_NoPoints a_NoPoint) 2)) (X_slope_row : FdY P w K mg base 39 "slope_row" ["points", "numbers"] (Bj K (AB a_TooMany a_NoPoints a_NoPoint) 3)) (X_noslope_row : FdY P w K mg base 39 "noslope_row" ["points", "numbers"] (Bj K (AB a_TooMany a_NoPoints a_NoPoint) 4)) {C_Desk : Addr} (t_Desk : HJ K C_Desk) (R6 : Fd P w K mg base 36 "numbers_of_row" ["words"] (DI K)) (RJ : Fd P w K mg base 36 "points_row" ["points", "numbers"] (Dq K)) (RK : Fd P w K mg base 38 "put_row" ["points", "numbers"] (Cf K 0)) (RL : Fd P w K mg base 35 "take_row" ["points", "numbers"] (Cf K 1)) (RM : Fd P w K mg base 39 "height_row" ["points", "numbers"] (Cf K 2)) (RN : Fd P w K mg base 39 "slope_row" ["points", "numbers"] (Cf K 3)) (RO : Fd P w K mg base 39 "noslope_row" ["points", "numbers"] (Cf K 4)) (QA : mg "isinstance" = none) (QC : mg "str" = none) (hT : P.given.tree = none) {f_put_row : Addr} (m_put_row : mg "put_row" = some (.ref f_put_row)) {f_take_row : Addr} (m_take_row : mg "take_row" = some (.ref f_take_row)) {f_height_row : Addr} (m_height_row : mg "height_row" = some (.ref f_height_row)) {f_slope_row : Addr} (m_slope_row : mg "slope_row" = some (.ref f_slope_row)) {f_noslope_row : Addr} (m_noslope_row : mg "noslope_row" = some (.ref f_noslope_row)) {a_CHANGES : Addr} (c_CHANGES : mg "CHANGES" = some (.ref a_CHANGES)) (d_CHANGES : KDk P w K a_CHANGES [(Sum.inr "put", .ref f_put_row), (Sum.inr "take", .ref f_take_row), (Sum.inr "height", .ref f_height_row), (Sum.inr "slope", .ref f_slope_row), (Sum.inr "noslope", .ref f_noslope_row)]) {f_points_row : Addr} (m_points_row : mg "points_row" = some (.ref f_points_row)) {g_ANSWERS_1 : Addr} {g_ANSWERS_2 : Addr} {g_ANSWERS_3 : Addr} {g_ANSWERS_4 : Addr} {g_ANSWERS_5 : Addr} {g_ANSWERS_6 : Addr} {g_ANSWERS_7 : Addr} {g_ANSWERS_8 : Addr} {g_ANSWERS_9 : Addr} {a_ANSWERS : Addr} (c_ANSWERS : mg "ANSWERS" = some (.ref a_ANSWERS)) (d_ANSWERS : KDk P w K a_ANSWERS [(Sum.inr "points", .ref f_points_row), (Sum.inr "curve", .ref g_ANSWERS_1), (Sum.inr "steps", .ref g_ANSWERS_2), (Sum.inr "at", .ref g_ANSWERS_3), (Sum.inr "slopeat", .ref g_ANSWERS_4), (Sum.inr "misses", .ref g_ANSWERS_5), (Sum.inr "bounds", .ref g_ANSWERS_6), (Sum.inr "noughts", .ref g_ANSWERS_7), (Sum.inr "wrong", .ref g_ANSWERS_8), (Sum.inr "quotient", .ref g_ANSWERS_9)]) :
 Ay P w K mg base (CX2 P w) 40 f fd ["self", "row"] (EI K (AB a_TooMany a_NoPoints a_NoPoint) C_Desk) := by
 refine F.okY BW (fun vs H Q E h => ?_) (fun cdv A outer s H vs Q E hr h => ?_)
 ·obtain ⟨_, _, _, _, _, _, _, _, _, rfl, _⟩ := h; rfl
 refine ⟨_, (Bl (Aw (K := K) (BQ (Br (Ai (Js K) rfl QA Av (Aa (pv 1) (Aa (BJ (v := .ty "str") rfl QC CJ rfl) Ab))))) (Ag Bg) Ao (by rfl) (by rfl))
  (Bl (Aq (i := 2) BW.nd rfl (Or.inl rfl) (BR K PySem.F.plainAttrs_str PySem.F.slot_str_split PySem.F.type_str_split DB (pv 1) (Aa AD Ab)))
  (Bl (Aq (i := 3) BW.nd rfl (Or.inl rfl) (Az R6 hr rfl (Aa (pv 2) Ab)))
  (Bl (Aw (K := K) (JZ (KH P w K (Au (ixL K) (pv 2) Af (fun u v => rfl)) (AY (v := .ref a_CHANGES) rfl c_CHANGES rfl)) (by with_unfolding_all rfl)) (Ae (K := K) (HX K (pv 0) (G9 P w K mg base (CX := CX2 P w) (n := 39) (hr.mono (by decide)) CD (El P w K (AY (v := .ref a_CHANGES) rfl c_CHANGES rfl) (Au (ixL K) (pv 2) Af (fun u v => rfl)) (fun u v => rfl)) (Aa (HZ K (pv 0) rfl) (Aa (pv 3) Ab))) rfl)
  (Ag (Aj AD)) (by rfl)) Ao (by rfl) (by rfl))
  DJ)))), ?_⟩
 obtain ⟨p, dx, r, xs, t, i, qs, pss, n, rfl, hsp, htl, hp, pok, h1, h2, hf, i5, hch, q⟩ := h
 refine ⟨_, rfl, _, _, _, _, rfl, .of (.str _), Iw K, true, rfl, Bs ?_⟩
 refine ⟨_, rfl, rfl, _, _, rfl, rfl, rfl, htl, fun l hl => ?_⟩
 rw [hsp]
 have s1 := Ah.new (o := .lst ((wd i :: qs.map tx).map V.str)) hl
 have el : upd H l (.lst ((wd i :: qs.map tx).map V.str)) l = some (.lst (.str (wd i) :: qs.map fun x => V.str (tx x))) := by rw [Ac, Te, UY]; rfl
 generalize upd H l (.lst ((wd i :: qs.map tx).map V.str)) = H1 at s1 el ⊢
 refine ⟨_, rfl, l, i, qs, rfl, SqL.of el, by lia, h1, h2, hf, fun nl ys H2 s2 hnl en hn => ?_⟩
 have s12 := s1.trans s2
 have el2 := s2 _ _ el
 have pok2 := pok.same s12
 have hp2 := s12 _ _ hp
 obtain ⟨kvs, fa, fda, dC, hv, kp, FO, BB⟩ : ∃ kvs fa fda, KDk P w K a_CHANGES kvs ∧ CL kvs (Sum.inr (wd i)) = some (.ref fa) ∧ Tg K (.ref fa) = true ∧ Ay P w K mg base (CX2 P w) 39 fa fda ["points", "numbers"] (Bj K (AB a_TooMany a_NoPoints a_NoPoint) i) ∧ BP K fda ["points", "numbers"] [] := by
  have hi : i = 0 ∨ i = 1 ∨ i = 2 ∨ i = 3 ∨ i = 4 := by lia
  rcases hi with rfl | rfl | rfl | rfl | rfl
  ·obtain ⟨_, _, FO, B, kp, m⟩ := X_put_row.ex
   cases m_put_row.symm.trans m
   exact ⟨_, _, _, d_CHANGES, rfl, kp, Ay.up FO (by decide), B⟩
  ·obtain ⟨_, _, FO, B, kp, m⟩ := X_take_row.ex
   cases m_take_row.symm.trans m
   exact ⟨_, _, _, d_CHANGES, rfl, kp, Ay.up FO (by decide), B⟩
  ·obtain ⟨_, _, FO, B, kp, m⟩ := X_height_row.ex
   cases m_height_row.symm.trans m
   exact ⟨_, _, _, d_CHANGES, rfl, kp, Ay.up FO (by decide), B⟩
  ·obtain ⟨_, _, FO, B, kp, m⟩ := X_slope_row.ex
   cases m_slope_row.symm.trans m
   exact ⟨_, _, _, d_CHANGES, rfl, kp, Ay.up FO (by decide), B⟩
  ·obtain ⟨_, _, FO, B, kp, m⟩ := X_noslope_row.ex
   cases m_noslope_row.symm.trans m
   exact ⟨_, _, _, d_CHANGES, rfl, kp, Ay.up FO (by decide), B⟩
 refine ⟨⟨_, rfl, l, _, _, _, rfl, rfl, SqL.of el2, Ar (j := 0) rfl, a_CHANGES, kvs, Sum.inr (wd i), rfl, dC, rfl, _, rfl, ?_⟩⟩
 rw [hv]
 refine CA ?_
 exact ⟨⟨_, rfl, l, _, _, _, rfl, rfl, SqL.of el2, Ar (j := 0) rfl, a_CHANGES, kvs, Sum.inr (wd i), _, rfl, dC, rfl, hv, fa, fda, rfl, kp, _, rfl, p, C_Desk, dx, _, _, rfl, hp2, t_Desk.cl, t_Desk.na_points, rfl, _, rfl, _, _, FO, BB, r, nl, xs, ys, pss, n, qs, rfl, pok2, SqL.of en, hn, h1, h2, hch, fun H3 s3 => q H3 (s12.trans s3)⟩⟩
theorem D8 : Ap ["_law_desk", "_law_row_here", "_law_found", "e"] ["_law_desk", "_law_row_here"] (Ad (top 145)) := ⟨rfl, rfl, rfl, by decide +kernel, rfl, by decide +kernel, by decide +kernel⟩
theorem Io {f : Addr} {fd : FuncData} (F : Fun K "_law_said" "_law_said" (top 145) f fd) {C_Desk : Addr} (t_Desk : HJ K C_Desk) {a_CurveError a_TooMany a_NoPoints a_NoPoint a_NoNumber a_NoCurve a_NoStretch a_TooDeep a_TooFew a_NoText a_NoRow : Addr} (c_CurveError : mg "CurveError" = some (.ref a_CurveError)) (xm_TooMany : UK K (.ref a_TooMany) (.ref a_CurveError) = some true) (xr_TooMany : Kl K a_TooMany [a_TooMany, a_NoPoints, a_NoPoint, a_NoNumber, a_NoCurve, a_NoStretch, a_TooDeep, a_TooFew, a_NoText, a_NoRow] 0) (xm_NoPoints : UK K (.ref a_NoPoints) (.ref a_CurveError) = some true) (xr_NoPoints : Kl K a_NoPoints [a_TooMany, a_NoPoints, a_NoPoint, a_NoNumber, a_NoCurve, a_NoStretch, a_TooDeep, a_TooFew, a_NoText, a_NoRow] 1) (xm_NoPoint : UK K (.ref a_NoPoint) (.ref a_CurveError) = some true) (xr_NoPoint : Kl K a_NoPoint [a_TooMany, a_NoPoints, a_NoPoint, a_NoNumber, a_NoCurve, a_NoStretch, a_TooDeep, a_TooFew, a_NoText, a_NoRow] 2) (H__law_refusal : FdH P w K mg base 33 "_law_refusal" "_law_caught" (JR K [a_TooMany, a_NoPoints, a_NoPoint, a_NoNumber, a_NoCurve, a_NoStretch, a_TooDeep, a_TooFew, a_NoText, a_NoRow])) (Y_Desk_say : FdM (CX2 P w) P w K mg base 40 C_Desk "say" ["self", "row"] (fun vs H Q E => (FP K C_Desk : Sp) vs H Q E ∨ (EI K (AB a_TooMany a_NoPoints a_NoPoint) C_Desk : Sp) vs H Q E)) (Rp : FdM CX0 P w K mg base 40 C_Desk "say" ["self", "row"] (FP K C_Desk)) (hT : P.given.tree = none) :
 Ay P w K mg base CX0 41 f fd ["_law_desk", "_law_row_here"] (JP K C_Desk) := by
 refine F.ok D8 (fun vs H Q E h => ?_) (fun cdv A outer s H vs Q E hr h => ?_)
 ·obtain ⟨_, _, _, _, _, _, _, _, rfl, _⟩ := h; rfl
 refine ⟨_, (Ae (K := K) (Np (Nv (pv 0) t_Desk.cl Y_Desk_say hr (Aa (pv 1) Ab) D8.nd (j := 2) rfl (Or.inl rfl)) H__law_refusal hr rfl rfl c_CurveError D8.nd (i := 3) rfl rfl (j := 2) rfl rfl rfl rfl)
  (Ag (Aj (pv 2))) (by rfl)), ?_⟩
 obtain ⟨p, dx, r, xs, t, i, qs, pss, rfl, hsp, htl, hp, pok, h1, h2, hf, i5, hc⟩ := h
 refine ⟨_, rfl, p, dx, _, rfl, hp, rfl, _, rfl, ?_⟩
 rcases hc with ⟨pss', hch, q⟩ | ⟨n, hch, q⟩
 ·exact .inl ⟨p, dx, r, xs, t, i, qs, pss, rfl, hsp, htl, hp, pok, h1, h2, hf, .inl ⟨i5, pss', hch, fun r' xs' H' b e s x => ⟨_, rfl, q r' xs' H' b e s x⟩⟩⟩
 ·refine .inr ⟨p, dx, r, xs, t, i, qs, pss, n, rfl, hsp, htl, hp, pok, h1, h2, hf, i5, hch, fun H1 s1 => ?_⟩
  match n, q with
  | 0, q => exact ⟨xm_TooMany, fun ea he => ⟨a_TooMany, 0, "many", rfl, xr_TooMany, rfl, fun H' s => ⟨_, rfl, q _ (s1.trans s)⟩⟩⟩
  | 1, q => exact ⟨xm_NoPoints, fun ea he => ⟨a_NoPoints, 1, "points", rfl, xr_NoPoints, rfl, fun H' s => ⟨_, rfl, q _ (s1.trans s)⟩⟩⟩
  | n + 2, q => exact ⟨xm_NoPoint, fun ea he => ⟨a_NoPoint, 2, "point", rfl, xr_NoPoint, rfl, fun H' s => ⟨_, rfl, q _ (s1.trans s)⟩⟩⟩
theorem GL : Ap ["_law_numbers"] ["_law_numbers"] (Ad (top 137)) := ⟨rfl, rfl, rfl, by decide +kernel, rfl, by decide +kernel, by decide +kernel⟩
theorem GY {f : Addr} {fd : FuncData} (F : Fun K "_law_texts" "_law_texts" (top 137) f fd) (QW : Fd P w K mg base 33 "_law_text" ["_law_number"] (EH K)) (hT : P.given.tree = none) :
 Ay P w K mg base CX0 34 f fd ["_law_numbers"] (FN K CF) := by
 refine F.ok GL (fun vs H Q E h => ?_) (fun cdv A outer s H vs Q E hr h => ?_)
 ·obtain ⟨_, _, _, rfl, _⟩ := h; rfl
 refine ⟨_, (Ag (Aj (BR K PySem.F.plainAttrs_str PySem.F.slot_str_join PySem.F.type_str_join (Ew K) AD (Aa (Ck rfl (N := ["_law_number"]) (nt := 1) (js := []) (AX.look (NX := ["_law_numbers"]) (sc := Ad (top 137)) rfl rfl (by decide +kernel)) (piL K (pv 0)) (fun u1 u2 u3 u4 u5 => (AL (i := 0) (show List.Nodup (["_law_number"] : List Str) from by decide +kernel) rfl (Or.inl rfl))) (AK (by decide)) (fun u1 u2 u3 u4 u5 => Bi) (fun u1 u2 u3 u4 u5 => (Az QW hr rfl (Aa (pv 0) Ab)))) Ab)))), ?_⟩
 obtain ⟨r, xs, qs, rfl, hS, hn, hf, h100, q⟩ := h
 have hs := sizeLine_eq
 have hl := hn.length
 refine ⟨rfl, ?_⟩
 refine BX ⟨_, rfl, r, rfl, ⟨_, hS⟩, Iv (xs := xs) (fun i zs H' => H' = H ∧ zs = ((qs.take i).map tx).map V.str) ⟨rfl, rfl⟩ (fun i zs H' hi p => ⟨by rw [p.1]; exact hS, by rw [p.2, Th, Th, Tz]; lia⟩) (by lia) ?_ ?_⟩
 ·rintro i x zs H' hx ⟨rfl, rfl⟩
  obtain ⟨c, hc, hcn⟩ := (Paired.get hn hx)
  refine ⟨_, rfl, x, c, rfl, hcn, hf c (TL hc), rfl, ?_⟩
  rw [UL, hc, UG, UG]; rfl
 rintro zs H' ⟨rfl, rfl⟩ p hp
 rw [hl, UM]
 exact ⟨_, p, qs.map tx, rfl, rfl, SqL.of Ac, CZ (by show CF.length ≤ 2; rw [LQ]; decide) (fun t ht => SG (Ec hf t ht) (by decide)) (by rw [Th]; exact h100), q _ (Ah.new hp)⟩
theorem GJ : Ap ["text"] ["text"] (Ad (top 100)) := ⟨rfl, rfl, rfl, by decide +kernel, rfl, by decide +kernel, by decide +kernel⟩
theorem GW {f : Addr} {fd : FuncData} (F : Fun K "check_text" "check_text" (top 100) f fd) (QA : mg "isinstance" = none) (QC : mg "str" = none) (hT : P.given.tree = none) :
 Ay P w K mg base CX0 33 f fd ["text"] (Mg) := by
 refine F.ok GJ (fun vs H Q E h => ?_) (fun cdv A outer s H vs Q E hr h => ?_)
 ·obtain ⟨_, rfl, _⟩ := h; rfl
 refine ⟨_, (Ag (Aw (K := K) (BQ (Br (Ai (Js K) rfl QA Av (Aa (pv 0) (Aa (BJ (v := .ty "str") rfl QC CJ rfl) Ab))))) (Ag Bg) Ao (by rfl) (by rfl))), ?_⟩
 obtain ⟨t, rfl, q⟩ := h
 exact ⟨_, rfl, _, _, _, _, rfl, .of (.str _), Iw K, true, rfl, Bs q⟩
theorem DV : Ap ["parts", "most", "numbers"] ["parts", "most"] (Ad (top 101)) := ⟨rfl, rfl, rfl, by decide +kernel, rfl, by decide +kernel, by decide +kernel⟩
theorem GU {f : Addr} {fd : FuncData} (F : Fun K "numbers_in" "numbers_in" (top 101) f fd) (R1 : Fd P w K mg base 35 "number_in" ["text", "most"] (FC)) (hT : P.given.tree = none) :
 Ay P w K mg base CX0 36 f fd ["parts", "most"] (FT K) := by
 refine F.ok DV (fun vs H Q E h => ?_) (fun cdv A outer s H vs Q E hr h => ?_)
 ·obtain ⟨_, _, rfl, _⟩ := h; rfl
 refine ⟨_, (Ae (K := K) (KC (i := 2) rfl DV.nd rfl rfl (N := ["part", "most"]) (nt := 1) (js := [1]) (AX.look (NX := ["parts", "most", "numbers"]) (sc := Ad (top 101)) rfl rfl (by decide +kernel)) (piL K (pv 0)) (fun u1 u2 u3 u4 u5 => (AL (i := 0) (show List.Nodup (["part", "most"] : List Str) from by decide +kernel) rfl (Or.inl rfl))) (AK (by decide)) (fun u1 u2 u3 u4 u5 => Bi) (fun u1 u2 u3 u4 u5 => (Az R1 hr rfl (Aa (pv 0) (Aa (pv 1) Ab)))) rfl)
  (Ae (K := K) (Aw (K := K) (Ak (inD K hr) Dd (pv 2) (by with_unfolding_all rfl)) (Ag Bg) Ao (by rfl) (by rfl))
  (Ag (Aj (pv 2))) (by rfl)) (by rfl)), ?_⟩
 obtain ⟨l, xs, rfl, hS, hf, hz, q⟩ := h
 have hs := sizeLine_eq
 refine BX ⟨_, rfl, l, rfl, ⟨_, hS⟩, Iv (xs := xs.map fun x => V.str (tx x)) (fun i zs H' => Ah H H' ∧ zs.length = i ∧ AJ H' zs (xs.take i)) ⟨Ah.refl _, rfl, .nil⟩ (fun i zs H' _ h => ⟨Ah.seq h.1 hS, h.2.1⟩) (by rw [Th]; lia) ?_ ?_⟩
 ·rintro i v zs H' hv ⟨sm, hl, hn⟩
  rw [TJ] at hv
  obtain ⟨x, hx, rfl⟩ := (Va.mp hv)
  refine ⟨_, rfl, _, rfl, x, rfl, hf x (TL hx), fun p H2 m2 hp e2 => ⟨sm.trans m2, by simp [hl], ?_⟩⟩
  have hi : i < xs.length := (SQ.mp hx).1
  rw [UL, hx]
  exact Paired.snoc (AJ.same hn m2) ⟨p, rfl, e2⟩
 rintro zs H' ⟨sm, hl, hn⟩ p hp
 rw [Th, UM] at *
 have sn : Ah H' (upd H' p (.lst zs)) := Ah.new hp
 have hn1 := AJ.same hn sn
 have e1 : upd H' p (.lst zs) p = some (.lst zs) := Ac
 refine ⟨_, rfl, Ke ⟨p, xs.map nD, .none, rfl, BI.rdsL hn1.nums (SqL.of e1), .non, ?_, rfl, _, rfl, ?_⟩⟩
 ·exact FG xs
 rw [show ((xs.map nD).any fun y => PyData.eqv y .none) = false from Jk xs]
 refine Bs ⟨_, rfl, ?_⟩
 refine q p zs _ (sm.trans sn) ?_ e1 hn1
 cases hn : H p with
 | none => rfl
 | some o => exact absurd (sm _ _ hn) (by rw [hp]; exact fun z => nomatch z)
theorem BD : Ap ["text", "most", "points", "part", "point"] ["text", "most"] (Ad (top 102)) := ⟨rfl, rfl, rfl, by decide +kernel, rfl, by decide +kernel, by decide +kernel⟩
theorem Ep {f : Addr} {fd : FuncData} (F : Fun K "read_points_of" "read_points_of" (top 102) f fd) (RP : Fd P w K mg base 33 "check_text" ["text"] (Mg)) (QK : Fd P w K mg base 36 "points_of" ["thing"] (Cb K)) (RQ : Fd P w K mg base 36 "numbers_in" ["parts", "most"] (FT K)) (QB : mg "tuple" = none) (Qz : mg "len" = none) (hT : P.given.tree = none) :
 Ay P w K mg base CX0 37 f fd ["text", "most"] (FQ K) := by
 refine F.ok BD (fun vs H Q E h => ?_) (fun cdv A outer s H vs Q E hr h => ?_)
 ·obtain ⟨_, rfl, _⟩ := h; rfl
 refine ⟨_, (Ae (K := K) (Dc (Az RP hr rfl (Aa (pv 0) Ab)))
  (Ae (K := K) (Aq (i := 2) BD.nd rfl (Or.inl rfl) (Bx Ab))
  (Ae (K := K) (D9 (K := K) PassesOwn.never rfl (piL K (BR K PySem.F.plainAttrs_str PySem.F.slot_str_split PySem.F.type_str_split DB (pv 0) (Aa AD Ab))) (AL (i := 3) BD.nd rfl (Or.inl rfl)) (Ae (K := K) (Aq (i := 4) BD.nd rfl (Or.inl rfl) (AN (Dk K) rfl QB Bz (Aa (Az RQ hr rfl (Aa (BR K PySem.F.plainAttrs_str PySem.F.slot_str_split PySem.F.type_str_split DB (pv 3) (Aa AD Ab)) (Aa (pv 1) Ab))) Ab)))
  (Ae (K := K) (Aw (K := K) (Ak (MC K) (Ai (Ct K) rfl Qz Ba (Aa (pv 4) Ab)) (AV (Aa Af (Aa Af Ab))) (by with_unfolding_all rfl)) (Ag Bg) Ao (by rfl) (by rfl))
  (Ag (Dc (BR K PySem.F.plainAttrs_list PySem.F.slot_list_append PySem.F.type_list_append CW (pv 2) (Aa (pv 4) Ab)))) (by rfl)) (by rfl)) (by rfl))
  (Ag (Aj (Az QK hr rfl (Aa (pv 2) Ab)))) (by rfl)) (by rfl)) (by rfl)), ?_⟩
 obtain ⟨pss, rfl, hne, h23, hf, hnd, h12, q⟩ := h
 have hs := sizeLine_eq
 have P0 : 0 ≤ sizeLine := by decide
 have P2 : 2 ≤ sizeLine := by decide
 have hne' : pss ≠ [] := List.length_pos_iff.mp hne
 have hge := BS h23
 have jl := Gr (sep := EA) (by rw [DM]; decide) (G7 hf h23)
 rw [Th] at jl
 refine ⟨_, rfl, _, rfl, ?_⟩
 refine ⟨P0, fun pl hpl => ?_⟩
 have s0 : ∀ o, Ah H (upd H pl o) := fun o => Ah.new hpl
 refine ⟨_, rfl, rfl, _, _, rfl, rfl, (by show (EA.length == 0) = false; rw [DM]; rfl), by show (E4 pss).length + 2 ≤ sizeLine; unfold E4; lia, fun l hl => ?_⟩
 have es : Txt.split (E4 pss) (Str.ofString ", ") = pss.map ptx := IW hne'
 rw [es]
 have lp : l ≠ pl := (AE Ac hl).symm
 have ep : upd (upd H pl (.lst [])) l (.lst ((pss.map ptx).map V.str)) pl = some (.lst []) := by rw [AA lp.symm]; exact Ac
 have el : upd (upd H pl (.lst [])) l (.lst ((pss.map ptx).map V.str)) l = some (.lst ((pss.map ptx).map V.str)) := Ac
 have s1 : Ah H (upd (upd H pl (.lst [])) l (.lst ((pss.map ptx).map V.str))) := (s0 _).trans (Ah.new hl)
 generalize upd (upd H pl (.lst [])) l (.lst ((pss.map ptx).map V.str)) = H1 at ep el s1 ⊢
 refine ⟨l, rfl, ⟨_, SqL.of el⟩, MS (xs := (pss.map ptx).map V.str) (L5 H l pss pl K fun H l pss pl K i σ H' => Ah H H' ∧ H' l = some (.lst ((pss.map ptx).map V.str)) ∧ ∃ (zs : List V) (z3 z4 : Option V), σ = [some (.str (E4 pss)), some (.int 6), some (.ref pl), z3, z4] ∧ H' pl = some (.lst zs) ∧ zs.length = i ∧ AH K H' zs (pss.take i)) ⟨s1, el, [], none, none, rfl, ep, rfl, .nil⟩ (fun i σ H' _ h => SqL.of h.2.1) ?_ ?_⟩
 ·rintro i v σ H2 hv hR1
  refine ED hR1 fun sm el2 hz75 => ?_
  refine IB hz75 fun zs z3 z4 hz75' => ?_
  clear hz75
  refine Gx hz75' fun hq74 ez hzl hpt => ?_
  clear hz75'
  obtain rfl := hq74
  try clear hR1
  rw [TJ, TJ] at hv
  obtain ⟨t, ht, rfl⟩ := (Va.mp hv)
  obtain ⟨ps, hps, rfl⟩ := (Va.mp ht)
  have hm := TL hps
  have hp23 := h23 ps hm
  have hpn : ps ≠ [] := fun z => by rw [z] at hp23; simp at hp23
  have hpl3 := Ky (hf ps hm) (by rcases hp23 with z | z <;> lia)
  refine ⟨_, rfl, rfl, _, _, rfl, rfl, (by show (DE.length == 0) = false; rw [DN]; rfl), by lia, fun lc hlc => ?_⟩
  have esc : Txt.split (ptx ps) (Str.ofString ":") = ps.map tx := IX hpn
  rw [esc]
  have s3 : Ah H2 (upd H2 lc (.lst ((ps.map tx).map V.str))) := Ah.new hlc
  refine ⟨_, rfl, lc, ps, rfl, SqL.of (by rw [show (ps.map fun x => V.str (tx x)) = (ps.map tx).map V.str by rw [UY]; rfl]; exact Ac), hf ps hm, by rcases hp23 with z | z <;> lia, fun pn us H4 m4 hpn' e4 hn => ?_⟩
  have hul := hn.length
  refine ⟨pn, us, rfl, .inl ⟨SqL.of e4, fun tp htp => ?_⟩⟩
  have s5 : Ah H4 (upd H4 tp (.tup us)) := Ah.new htp
  have s25 : Ah H2 (upd H4 tp (.tup us)) := s3.trans (m4.trans s5)
  refine ⟨_, rfl, tp, us, rfl, .inr (SqT.of Ac), P2, fun tt htt => ?_⟩
  have s6 : Ah (upd H4 tp (.tup us)) (upd (upd H4 tp (.tup us)) tt (.tup [.int 2, .int 3])) := Ah.new htt
  refine ⟨tt, _, rfl, .inr (SqT.of Ac), rfl, rfl, _, rfl, ?_⟩
  have hin : inV (V.int ((us.length : Nat) : Int)) [.int 2, .int 3] = true := by
   rcases hp23 with z | z
   ·rw [hul, z]; rfl
   ·rw [hul, z]; rfl
  rw [hin]
  refine Bs ?_
  have s26 := s25.trans s6
  have et : SqT K (upd (upd H4 tp (.tup us)) tt (.tup [.int 2, .int 3])) tp us := SqT.of (s6 _ _ Ac)
  have hn6 := AJ.same hn (s5.trans s6)
  have ez6 := s26 _ _ ez
  have el6 := s26 _ _ el2
  have hpt6 := AH.same hpt s26
  generalize upd (upd H4 tp (.tup us)) tt (.tup [.int 2, .int 3]) = H6 at s26 et hn6 ez6 el6 hpt6 ⊢
  refine ⟨_, rfl, .inl ⟨rfl, _, SqL.of ez6⟩, _, rfl, pl, zs, _, rfl, rfl, ez6, by rw [hzl]; have := (SQ.mp hps).1; lia, ?_⟩
  have hpT : PtT K H6 (.ref tp) ps := by
   cases hn6 with
   | nil => exact absurd rfl hpn
   | cons a b =>
     obtain ⟨r, rfl, hr⟩ := a
     exact ⟨tp, _, r, rfl, et, Paired.cons (AU.of hr) (AJ.nums b), rfl, hr⟩
  have hHp : H pl = none := hpl
  refine ⟨?_, ?_, zs ++ [.ref tp], _, _, rfl, Ac, by simp [hzl], ?_⟩
  ·exact Ah.put (sm.trans s26) hHp
  ·rw [AA lp]; exact el6
  ·rw [UL, hps]
   exact Paired.snoc (AH.put hpt6 ez6) (PtT.put hpT ez6)
 rintro σ H2 hR2
 refine ED hR2 fun sm el2 hz77 => ?_
 refine IB hz77 fun zs z3 z4 hz77' => ?_
 clear hz77
 refine Gx hz77' fun hq76 ez hzl hpt => ?_
 clear hz77'
 obtain rfl := hq76
 try clear hR2
 rw [Th, Th, UM] at *
 refine ⟨_, rfl, true, pl, zs, pss, rfl, SqL.of ez, hpt, h23, hne, hnd, h12, fun p H3 m3 hS3 _ => ?_⟩
 exact q p zs H3 (sm.trans m3) hS3 (AH.same hpt m3)
theorem HS : Ap ["self", "text"] ["self", "text"] (Ad (BL (top 130) 0)) := ⟨rfl, rfl, rfl, by decide +kernel, rfl, by decide +kernel, by decide +kernel⟩
theorem Ir {f : Addr} {fd : FuncData} (F : Fun K "__init__" "Desk.__init__" (BL (top 130) 0) f fd) {C_Desk : Addr} (t_Desk : HJ K C_Desk) (RS : Fd P w K mg base 37 "read_points_of" ["text", "most"] (FQ K)) {t_SIX : Tok} (c_SIX : mg "SIX" = some (.int 6 t_SIX)) (hT : P.given.tree = none) :
 Ay P w K mg base CX0 38 f fd ["self", "text"] (FE K C_Desk) := by
 refine F.ok HS (fun vs H Q E h => ?_) (fun cdv A outer s H vs Q E hr h => ?_)
 ·obtain ⟨_, _, _, rfl, _⟩ := h; rfl
 refine ⟨_, (Ag (HX K (pv 0) (Az RS hr rfl (Aa (pv 1) (Aa (AY (v := .int 6) rfl c_SIX ⟨_, rfl⟩) Ab))) rfl)), ?_⟩
 obtain ⟨p, dx, pss, rfl, hp, h1, h2, h3, h4, h5, q⟩ := h
 refine ⟨_, rfl, pss, rfl, h1, h2, h3, h4, h5, fun r xs H' s hr hx => ?_⟩
 have hp' := s _ _ hp
 refine ⟨_, rfl, p, C_Desk, dx, [], rfl, hp', t_Desk.cl, t_Desk.na_points, (by show 0 < 1000; decide), ?_⟩
 exact q r xs _ (fun b o hb e => by rw [AA hb]; exact s _ _ e) Ac ⟨SqT.but hr hp', AH.but hx hp', h2, h1, h4, h5⟩
theorem CG : Ap ["_law_script", "_law_pen_here", "_law_points", "_law_desk", "_law_k", "_law_word", "_law_some", "_law_due_here", "_law_found"] ["_law_script"] (Ad (top 146)) := ⟨rfl, rfl, rfl, by decide +kernel, rfl, by decide +kernel, by decide +kernel⟩
theorem OE {f : Addr} {fd : FuncData} (F : Fun K "law" "law" (top 146) f fd) {C_Desk : Addr} (t_Desk : HJ K C_Desk) (RT : Fd P w K mg base 33 "_law_pen" ["_law_script", "_law_k"] (Md K)) (RU : Fd P w K mg base 36 "_law_desk_points" ["_law_pen_here", "_law_most"] (EK K)) (Rq : Fd P w K mg base 34 "_law_points_text" ["_law_points"] (Ee K)) (RV : Fd P w K mg base 36 "_law_row" ["_law_pen_here", "_law_points"] (JQ K)) (RW : Fd P w K mg base 33 "_law_due" ["_law_points", "_law_word", "_law_some"] (Mf K)) (RX : Fd P w K mg base 41 "_law_said" ["_law_desk", "_law_row_here"] (JP K C_Desk)) (RY : Fd P w K mg base 34 "_law_texts" ["_law_numbers"] (FN K CF)) (RZ : FdI CX0 P w K mg base 38 C_Desk "Desk" ["self", "text"] (FE K C_Desk)) (Rp : FdM CX0 P w K mg base 40 C_Desk "say" ["self", "row"] (FP K C_Desk)) (QH : mg "range" = none) (QA : mg "isinstance" = none) (QC : mg "str" = none) (hT : P.given.tree = none) :
 Ay P w K mg base CX0 42 f fd ["_law_script"] (IZ K) := by
 refine F.ok CG (fun vs H Q E h => ?_) (fun cdv A outer s H vs Q E hr h => ?_)
 ·obtain ⟨_, _, rfl, _⟩ := h; rfl
 refine ⟨_, (@Ae _ _ _ _ _ K _ (@Aq _ _ 1 _ _ _ _ CG.nd rfl (Or.inl rfl) (@Az _ _ _ _ _ _ _ _ _ _ _ RT hr rfl (@Aa _ _ _ _ _ (pv 0) (@Aa _ _ _ _ _ Af Ab (by rfl)) (by rfl)) (by decide) (by decide) (by rfl) (by rfl)) (by rfl) (by first   | exact .inl rfl   | exact .inr rfl   | assumption)) (@Ae _ _ _ _ _ K _ (@Aq _ _ 2 _ _ _ _ CG.nd rfl (Or.inl rfl) (@Az _ _ _ _ _ _ _ _ _ _ _ RU hr rfl (@Aa _ _ _ _ _ (pv 1) (@Aa _ _ _ _ _ Af Ab (by rfl)) (by rfl)) (by decide) (by decide) (by rfl) (by rfl)) (by rfl) (by first   | exact .inl rfl   | exact .inr rfl   | assumption)) (@Ae _ _ _ _ _ K _ (@Aq _ _ 3 _ _ _ _ CG.nd rfl (Or.inl rfl) (Mx RZ hr rfl J8 (@Aa _ _ _ _ _ (@Az _ _ _ _ _ _ _ _ _ _ _ Rq hr rfl (@Aa _ _ _ _ _ (pv 2) Ab (by rfl)) (by decide) (by decide) (by rfl) (by rfl)) Ab (by rfl))) (by rfl) (by first   | exact .inl rfl   | exact .inr rfl   | assumption)) (@Ae _ _ _ _ _ K _ (@D9 _ _ _ _ _ _ _ _ K _ PassesOwn.never rfl (@EO _ _ _ _ _ _ rfl QH (@Aa _ _ _ _ _ Af Ab (by rfl)) (by rfl)) (@AL _ _ 4 _ CG.nd rfl (Or.inl rfl) (by first   | exact .inl rfl   | exact .inr rfl   | assumption)) (@Ae _ _ _ _ _ K _ (@K0 _ _ _ _ _ _ (@Az _ _ _ _ _ _ _ _ _ _ _ RV hr rfl (@Aa _ _ _ _ _ (pv 1) (@Aa _ _ _ _ _ (pv 2) Ab (by rfl)) (by rfl)) (by decide) (by decide) (by rfl) (by rfl)) (@pgT _ K _ _ _ 2 _ rfl (CU (@AL _ _ 5 _ CG.nd rfl (Or.inl rfl) (by first   | exact .inl rfl   | exact .inr rfl   | assumption)) (CU (@AL _ _ 6 _ CG.nd rfl (Or.inl rfl) (by first   | exact .inl rfl   | exact .inr rfl   | assumption)) HY)) (by rfl) (by rfl) (by rfl)) (by rfl) (by rfl) (by rfl)) (@Ae _ _ _ _ _ K _ (@Aq _ _ 7 _ _ _ _ CG.nd rfl (Or.inl rfl) (@Az _ _ _ _ _ _ _ _ _ _ _ RW hr rfl (@Aa _ _ _ _ _ (pv 2) (@Aa _ _ _ _ _ (pv 5) (@Aa _ _ _ _ _ (pv 6) Ab (by rfl)) (by rfl)) (by rfl)) (by decide) (by decide) (by rfl) (by rfl)) (by rfl) (by first   | exact .inl rfl   | exact .inr rfl   | assumption)) (@Ae _ _ _ _ _ K _ (@Aq _ _ 8 _ _ _ _ CG.nd rfl (Or.inl rfl) (@Az _ _ _ _ _ _ _ _ _ _ _ RX hr rfl (@Aa _ _ _ _ _ (pv 3) (@Aa _ _ _ _ _ (@Ax _ _ _ _ _ _ _ _ C9 (@Ax _ _ _ _ _ _ _ _ C9 (pv 5) AD) (@Az _ _ _ _ _ _ _ _ _ _ _ RY hr rfl (@Aa _ _ _ _ _ (pv 6) Ab (by rfl)) (by decide) (by decide) (by rfl) (by rfl))) Ab (by rfl)) (by rfl)) (by decide) (by decide) (by rfl) (by rfl)) (by rfl) (by first   | exact .inl rfl   | exact .inr rfl   | assumption)) (@Ae _ _ _ _ _ K _ (@Aw _ _ _ _ _ _ _ _ K _ _ (@Br _ _ _ (@Ai _ _ _ _ _ _ _ _ _ (Js K) rfl QA Av (@Aa _ _ _ _ _ (pv 7) (@Aa _ _ _ _ _ (@BJ _ _ (.ty "str") _ _ rfl QC CJ rfl (by decide) (by decide)) Ab (by rfl)) (by rfl)) (by decide) (by decide) (by rfl) (by rfl)) (by intro _; rfl)) (@Ag _ _ _ (@Aw _ _ _ _ _ _ _ _ K _ _ (@Ak _ _ _ _ _ _ _ _ En (pv 8) (pv 7) (As _)) (@Ag _ _ _ (@Aj _ _ _ _ Em)) Ao (by rfl) (by rfl))) (@Ag _ _ _ (@Aw _ _ _ _ _ _ _ _ K _ _ (@Ak _ _ _ _ _ _ _ _ En (pv 8) AD (As _)) (@Ag _ _ _ (@Aj _ _ _ _ Em)) (@Ag _ _ _ (@Aq _ _ 2 _ _ _ _ CG.nd rfl (Or.inl rfl) (pv 7) (by rfl) (by first   | exact .inl rfl   | exact .inr rfl   | assumption))) (by rfl) (by rfl))) (by rfl) (by rfl)) (@Ag _ _ _ (@Aw _ _ _ _ _ _ _ _ K _ _ (@Ak _ _ _ _ _ _ _ _ En (Mw (pv 3) t_Desk.cl Rp hr J8 (@Aa _ _ _ _ _ AD Ab (by rfl))) (@Az _ _ _ _ _ _ _ _ _ _ _ Rq hr rfl (@Aa _ _ _ _ _ (pv 2) Ab (by rfl)) (by decide) (by decide) (by rfl) (by rfl)) (As _)) (@Ag _ _ _ (@Aj _ _ _ _ Em)) Ao (by rfl) (by rfl))) (by rfl)) (by rfl)) (by rfl)) (by rfl)) (by rfl) (by intro _; rfl)) (@Ag _ _ _ (@Aj _ _ _ _ Em)) (by rfl)) (by rfl)) (by rfl)) (by rfl)), ?_⟩
 obtain ⟨a, ns, rfl, hS, h63, q⟩ := h
 refine ⟨_, rfl, a, ns, 0, rfl, hS, h63, by decide, by decide, fun p c0 c1 hp => ?_⟩
 have pn : Pen (upd H p (.lst [.int c0, .int c1, .int 0])) p := .put
 generalize upd H p (.lst [.int c0, .int c1, .int 0]) = H1 at pn ⊢
 refine ⟨_, rfl, p, 10, rfl, pn, by decide, by decide, fun r xs pss H2 m2 p2 pok hfg htl => ?_⟩
 have g12 := BS pok.h23
 refine ⟨_, rfl, r, xs, pss, rfl, pok.S, AH.pts pok.P, pok.h23, hfg, by lia, fun H3 s3 => ?_⟩
 intro o dx ho hdx hod
 have sd : Ah H3 (upd (upd H3 dx (.own o)) o (.ins C_Desk dx [])) := fun b u e => by rw [AA (AE e ho), AA (AE e hdx)]; exact e
 refine ⟨o, dx, pss, rfl, Ac, pok.h1, pok.h23, hfg, pok.nd, pok.h12, fun r' xs' H4 bt ed pk' => ⟨rfl, ?_⟩⟩
 have s4 : Ah H2 H4 := fun b u e => bt b u (AE (s3 _ _ e) ho) (sd _ _ (s3 _ _ e))
 refine ⟨10, rfl, by decide, by decide, HC (n := 10) (L3 p a K fun p a K _ σ G => Pen G p ∧ ∃ (r r' : Addr) (xs xs' : List V) (pss : List (List Rat)) (z4 z5 z6 z7 z8 : Option V), σ = [some (.ref a), some (.ref p), some (.ref r), some (.ref o), z4, z5, z6, z7, z8] ∧ Pok K G r xs pss ∧ (∀ ps ∈ pss, ∀ q ∈ ps, Fg q) ∧ G o = some (dk C_Desk dx r') ∧ Pok K G r' xs' pss) ⟨p2.sm s4, r, r', xs, xs', pss, none, none, none, none, none, rfl, pok.same s4, hfg, ed, pk'⟩ ?_ ?_⟩
 case refine_2 => exact fun σ G _ => q _
 clear hS m2 pok hfg htl g12 s3 ho hdx hod sd bt ed pk' s4 pn p2
 rintro k σ G hk hR1
 refine Gy hR1 fun pG hz79 => ?_
 refine PZ hz79 fun r r' xs xs' pss z4 z5 z6 z7 z8 hz79' => ?_
 clear hz79
 refine LS hz79' fun hq78 pok hfg ed pok' => ?_
 clear hz79'
 obtain rfl := hq78
 try clear hR1
 refine ⟨_, rfl, _, rfl, p, r, xs, pss, rfl, pG, pok, hfg, fun t l ys i qs G1 m1 p1 i5 et la el hn h1 h2 hqf => ⟨t, _, rfl, SqT.of et, rfl, _, _, rfl, _, _, rfl, rfl, ?_⟩⟩
 have pok1 := pok.mv pG m1
 have pok1' := pok'.mv pG m1
 have ed1 := m1 _ _ (pG.ne ed (fun _ _ _ z => by cases z)) ed
 have hi : i = 0 ∨ i = 1 ∨ i = 2 ∨ i = 3 ∨ i = 4 := by lia
 have hq1 : 1 ≤ qs.length := by rcases hi with rfl | rfl | rfl | rfl | rfl <;> exact SG (by decide) h1
 have hq3 : qs.length ≤ 3 := by rcases hi with rfl | rfl | rfl | rfl | rfl <;> exact SG h2 (by decide)
 have hrl := HU i5 hqf hq3
 rw [← G0 i qs hq1] at hrl
 have hrow2 : (wd i ++ Str.ofString " ").length + (Str.join CF (qs.map tx)).length ≤ sizeLine := by rw [AI] at hrl; rw [AI, AI, ← TM, ← Bq]; lia
 have hrow : (wd i).length + (Str.ofString " ").length ≤ sizeLine := by rw [AI, AI, ← TM, ← Bq, ← AI]; lia
 refine ⟨_, rfl, _, rfl, _, rfl, r, l, xs, ys, pss, qs, i, rfl, pok1, el, hn, i5, h1, h2, ?_, ?_⟩
 ·intro n G2 s2 hc
  refine ⟨_, rfl, _, rfl, _, _, rfl, rfl, hrow, _, rfl, l, ys, qs, rfl, SqL.of (s2 _ _ el), (AJ.same hn s2).nums, hqf, by lia, fun G3 s3 => ⟨_, _, rfl, rfl, hrow2, ?_⟩⟩
  rw [G0 i qs hq1]
  have s23 := s2.trans s3
  refine ⟨o, dx, r', xs', _, i, qs, pss, rfl, Hs i5, HU i5 hqf hq3, s23 _ _ ed1, pok1'.same s23, h1, h2, hqf, i5, .inr ⟨n, hc, fun G4 s4 => ?_⟩⟩
  have s24 := s23.trans s4
  refine ⟨_, rfl, _, _, _, _, rfl, .of (.str _), Iw K, true, rfl, CA ?_⟩
  refine ⟨_, rfl, _, rfl, rfl, _, rfl, ?_⟩
  refine AM (by rw [decide_eq_true (rfl : V.str (Str.ofString (wd3 n)) = V.str (Str.ofString (wd3 n)))] <;> rfl) ?_
  refine ⟨_, rfl, o, dx, _, rfl, (s24 _ _ ed1), rfl, o, dx, r', xs', _, 5, [], pss, rfl, Ht, Kz, (s24 _ _ ed1), (pok1'.same s24), T1 _, SW _, nofun, .inr ⟨rfl, hfg, fun G5 s5 => ?_⟩⟩
  have pk5 := (pok1.same s24).same s5
  have gl := pk5.len
  refine ⟨_, rfl, r, xs, pss, rfl, pk5.S, AH.pts pk5.P, pk5.h23, hfg, by lia, fun G6 s6 => ⟨rfl, _, rfl, ?_⟩⟩
  exact AM (by rw [decide_eq_true (rfl : V.str (E4 pss) = V.str (E4 pss))] <;> rfl) ⟨((p1.sm s24).sm s5).sm s6, r, r', xs, xs', pss, _, _, _, _, _, rfl, pk5.same s6, hfg, s6 _ _ (s5 _ _ (s24 _ _ ed1)), ((pok1'.same s24).same s5).same s6⟩
 intro t' xs2 pss' G2 s2 hc ht' hp'
 refine ⟨_, rfl, _, rfl, _, _, rfl, rfl, hrow, _, rfl, l, ys, qs, rfl, SqL.of (s2 _ _ el), (AJ.same hn s2).nums, hqf, by lia, fun G3 s3 => ⟨_, _, rfl, rfl, hrow2, ?_⟩⟩
 rw [G0 i qs hq1]
 have s23 := s2.trans s3
 refine ⟨o, dx, r', xs', _, i, qs, pss, rfl, Hs i5, HU i5 hqf hq3, s23 _ _ ed1, pok1'.same s23, h1, h2, hqf, i5, .inl ⟨pss', hc, fun r2 xs3 G4 bt e4 hs4 hp4 => ?_⟩⟩
 have hpq := hc.pq (pok.pq hfg) h1 h2 hqf
 have ed3 := s23 _ _ ed1
 have ht4 := SqT.bt (ht'.same s3) bt ed3
 have pk4 := hpq.pok ht4 (AH.bt (AH.same hp' s3) bt ed3)
 have pk4' := hpq.pok hs4 hp4
 have pn4 := Pen.bt (p1.sm s23) bt ed3
 refine ⟨_, rfl, _, _, _, _, rfl, .tup ht4, OH K, false, rfl, Bs ?_⟩
 refine ⟨_, rfl, rfl, _, rfl, ?_⟩
 refine AM (by rw [decide_eq_true (rfl : V.str (Str.ofString "ok") = V.str (Str.ofString "ok"))] <;> rfl) ⟨_, rfl, ?_⟩
 refine ⟨_, rfl, o, dx, _, rfl, e4, rfl, o, dx, r2, xs3, _, 5, [], pss', rfl, Ht, Kz, e4, pk4', T1 _, SW _, nofun, .inr ⟨rfl, hpq.fg, fun G5 s5 => ?_⟩⟩
 have pk5 := pk4.same s5
 have gl := pk5.len
 refine ⟨_, rfl, t', xs2, pss', rfl, pk5.S, AH.pts pk5.P, pk5.h23, hpq.fg, by lia, fun G6 s6 => ⟨rfl, _, rfl, ?_⟩⟩
 exact AM (by rw [decide_eq_true (rfl : V.str (E4 pss') = V.str (E4 pss'))] <;> rfl) ⟨(pn4.sm s5).sm s6, t', r2, xs2, xs3, pss', _, _, _, _, _, rfl, pk5.same s6, hpq.fg, s6 _ _ (s5 _ _ e4), (pk4'.same s5).same s6⟩
end
theorem fdm {P : Program} (w : World) {K : SE} {mg : Str → Option Value} (base : Heap) {n : Nat} {x : Str} {ps : List Str} {sp : Sp} {f : Addr} {fd : FuncData} (a : Ay P w K mg base CX0 n f fd ps sp) (b : BP K fd ps []) (c : Tg K (.ref f) = true) (d : mg x = some (.ref f)) : Fd P w K mg base n x ps sp := ⟨_, _, a, b, c, d⟩
theorem P8 {l : U4} {w : World} {K : SE} {h : Heap} {mg : Str → Option Value} {fa f1 f2 f3 f4 f5 f6 f7 f8 f9 f10 f11 f12 f13 f14 f15 f16 f17 f18 f19 f20 f21 f22 f23 f24 f25 f26 f27 f28 f29 f30 f31 f32 f33 f34 f35 f36 f37 f38 f39 f40 f41 f42 f43 f44 f45 f46 f47 : Addr} (hT : l.prog.given.tree = none) (X : K.In h) (G : h.Ns mainGlobals mg) (hfa : mg "law" = some (.ref fa))
 {od1 an1 od2 an2 od3 an3 od4 an4 od5 an5 od6 an6 od7 an7 od8 an8 od9 an9 od10 an10 od11 an11 od12 an12 od13 an13 od14 an14 od15 an15 od16 an16 od17 an17 od18 an18 od19 an19 od20 an20 od21 an21 od22 an22 od23 an23 od24 an24 od25 an25 od26 an26 od27 an27 od28 an28 od29 an29 od30 an30 od31 an31 od32 an32 od33 an33 od34 an34 od35 an35 od36 an36 od37 an37 od38 an38 od39 an39 od40 an40 od41 an41 od42 an42 od43 an43 od44 an44 od45 an45 od46 an46 od47 an47 : Option Addr} {sl1 sl2 sl3 sl4 sl5 sl6 sl7 sl8 sl9 sl10 sl11 sl12 sl13 sl14 sl15 sl16 sl17 sl18 sl19 sl20 sl21 sl22 sl23 sl24 sl25 sl26 sl27 sl28 sl29 sl30 sl31 sl32 sl33 sl34 sl35 sl36 sl37 sl38 sl39 sl40 sl41 sl42 sl43 sl44 sl45 sl46 sl47 : Array (Option Value)} {oc1 kV1 dc1 pm1 cd1 ct1 oc2 kV2 dc2 pm2 cd2 ct2 oc3 kV3 dc3 pm3 cd3 ct3 oc4 kV4 dc4 pm4 cd4 ct4 oc5 kV5 dc5 pm5 cd5 ct5 oc6 kV6 dc6 pm6 cd6 ct6 oc7 kV7 dc7 pm7 cd7 ct7 oc8 kV8 dc8 pm8 cd8 ct8 oc9 kV9 dc9 pm9 cd9 ct9 oc10 kV10 dc10 pm10 cd10 ct10 oc11 kV11 dc11 pm11 cd11 ct11 oc12 kV12 dc12 pm12 cd12 ct12 oc13 kV13 dc13 pm13 cd13 ct13 oc14 kV14 dc14 pm14 cd14 ct14 oc15 kV15 dc15 pm15 cd15 ct15 oc16 kV16 dc16 pm16 cd16 ct16 oc17 kV17 dc17 pm17 cd17 ct17 oc18 kV18 dc18 pm18 cd18 ct18 oc19 kV19 dc19 pm19 cd19 ct19 oc20 kV20 dc20 pm20 cd20 ct20 oc21 kV21 dc21 pm21 cd21 ct21 oc22 kV22 dc22 pm22 cd22 ct22 oc23 kV23 dc23 pm23 cd23 ct23 oc24 kV24 dc24 pm24 cd24 ct24 oc25 kV25 dc25 pm25 cd25 ct25 oc26 kV26 dc26 pm26 cd26 ct26 oc27 kV27 dc27 pm27 cd27 ct27 oc28 kV28 dc28 pm28 cd28 ct28 oc29 kV29 dc29 pm29 cd29 ct29 oc30 kV30 dc30 pm30 cd30 ct30 oc31 kV31 dc31 pm31 cd31 ct31 oc32 kV32 dc32 pm32 cd32 ct32 oc33 kV33 dc33 pm33 cd33 ct33 oc34 kV34 dc34 pm34 cd34 ct34 oc35 kV35 dc35 pm35 cd35 ct35 oc36 kV36 dc36 pm36 cd36 ct36 oc37 kV37 dc37 pm37 cd37 ct37 oc38 kV38 dc38 pm38 cd38 ct38 oc39 kV39 dc39 pm39 cd39 ct39 oc40 kV40 dc40 pm40 cd40 ct40 oc41 kV41 dc41 pm41 cd41 ct41 oc42 kV42 dc42 pm42 cd42 ct42 oc43 kV43 dc43 pm43 cd43 ct43 oc44 kV44 dc44 pm44 cd44 ct44 oc45 kV45 dc45 pm45 cd45 ct45 oc46 kV46 dc46 pm46 cd46 ct46 oc47 kV47 dc47 pm47 cd47 ct47 : Value}
 {C_Desk : Addr} (aC_Desk : Uo K mainGlobals "Desk" = some (some (.ref C_Desk)))
 (a1 : Uo K mainGlobals "_law_pen" = some (some (.ref f1))) (l1 : K.lookup f1 = some ⟨oc1, od1, .func (TQ "_law_pen" "_law_pen" (Am (top 132)) (Al (top 132)) (Ad (top 132)) .none kV1 dc1 pm1 an1 cd1 ct1), sl1⟩) (c1 : TR K cd1 "_law_pen" = true) (k1 : Tg K (.ref f1) = true)
 (a2 : Uo K mainGlobals "_law_draw" = some (some (.ref f2))) (l2 : K.lookup f2 = some ⟨oc2, od2, .func (TQ "_law_draw" "_law_draw" (Am (top 133)) (Al (top 133)) (Ad (top 133)) .none kV2 dc2 pm2 an2 cd2 ct2), sl2⟩) (c2 : TR K cd2 "_law_draw" = true) (k2 : Tg K (.ref f2) = true)
 (a3 : Uo K mainGlobals "_law_lowest" = some (some (.ref f3))) (l3 : K.lookup f3 = some ⟨oc3, od3, .func (TQ "_law_lowest" "_law_lowest" (Am (top 134)) (Al (top 134)) (Ad (top 134)) .none kV3 dc3 pm3 an3 cd3 ct3), sl3⟩) (c3 : TR K cd3 "_law_lowest" = true) (k3 : Tg K (.ref f3) = true)
 (a4 : Uo K mainGlobals "_law_plus" = some (some (.ref f4))) (l4 : K.lookup f4 = some ⟨oc4, od4, .func (TQ "_law_plus" "_law_plus" (Am (top 135)) (Al (top 135)) (Ad (top 135)) .none kV4 dc4 pm4 an4 cd4 ct4), sl4⟩) (c4 : TR K cd4 "_law_plus" = true) (k4 : Tg K (.ref f4) = true)
 (a5 : Uo K mainGlobals "_law_fresh" = some (some (.ref f5))) (l5 : K.lookup f5 = some ⟨oc5, od5, .func (TQ "_law_fresh" "_law_fresh" (Am (top 140)) (Al (top 140)) (Ad (top 140)) .none kV5 dc5 pm5 an5 cd5 ct5), sl5⟩) (c5 : TR K cd5 "_law_fresh" = true) (k5 : Tg K (.ref f5) = true)
 (a6 : Uo K mainGlobals "_law_little" = some (some (.ref f6))) (l6 : K.lookup f6 = some ⟨oc6, od6, .func (TQ "_law_little" "_law_little" (Am (top 139)) (Al (top 139)) (Ad (top 139)) .none kV6 dc6 pm6 an6 cd6 ct6), sl6⟩) (c6 : TR K cd6 "_law_little" = true) (k6 : Tg K (.ref f6) = true)
 (a7 : Uo K mainGlobals "_law_desk_points" = some (some (.ref f7))) (l7 : K.lookup f7 = some ⟨oc7, od7, .func (TQ "_law_desk_points" "_law_desk_points" (Am (top 141)) (Al (top 141)) (Ad (top 141)) .none kV7 dc7 pm7 an7 cd7 ct7), sl7⟩) (c7 : TR K cd7 "_law_desk_points" = true) (k7 : Tg K (.ref f7) = true)
 (a8 : Uo K mainGlobals "_law_text" = some (some (.ref f8))) (l8 : K.lookup f8 = some ⟨oc8, od8, .func (TQ "_law_text" "_law_text" (Am (top 136)) (Al (top 136)) (Ad (top 136)) .none kV8 dc8 pm8 an8 cd8 ct8), sl8⟩) (c8 : TR K cd8 "_law_text" = true) (k8 : Tg K (.ref f8) = true)
 (a9 : Uo K mainGlobals "_law_points_text" = some (some (.ref f9))) (l9 : K.lookup f9 = some ⟨oc9, od9, .func (TQ "_law_points_text" "_law_points_text" (Am (top 138)) (Al (top 138)) (Ad (top 138)) .none kV9 dc9 pm9 an9 cd9 ct9), sl9⟩) (c9 : TR K cd9 "_law_points_text" = true) (k9 : Tg K (.ref f9) = true)
 (a10 : Uo K mainGlobals "_law_row" = some (some (.ref f10))) (l10 : K.lookup f10 = some ⟨oc10, od10, .func (TQ "_law_row" "_law_row" (Am (top 144)) (Al (top 144)) (Ad (top 144)) .none kV10 dc10 pm10 an10 cd10 ct10), sl10⟩) (c10 : TR K cd10 "_law_row" = true) (k10 : Tg K (.ref f10) = true)
 (a11 : Uo K mainGlobals "_law_due" = some (some (.ref f11))) (l11 : K.lookup f11 = some ⟨oc11, od11, .func (TQ "_law_due" "_law_due" (Am (top 143)) (Al (top 143)) (Ad (top 143)) .none kV11 dc11 pm11 an11 cd11 ct11), sl11⟩) (c11 : TR K cd11 "_law_due" = true) (k11 : Tg K (.ref f11) = true)
 (a12 : Uo K mainGlobals "_law_refusal" = some (some (.ref f12))) (l12 : K.lookup f12 = some ⟨oc12, od12, .func (TQ "_law_refusal" "_law_refusal" (Am (top 142)) (Al (top 142)) (Ad (top 142)) .none kV12 dc12 pm12 an12 cd12 ct12), sl12⟩) (c12 : TR K cd12 "_law_refusal" = true) (k12 : Tg K (.ref f12) = true)
 (a13 : Uo K mainGlobals "check_wholes" = some (some (.ref f13))) (l13 : K.lookup f13 = some ⟨oc13, od13, .func (TQ "check_wholes" "check_wholes" (Am (top 128)) (Al (top 128)) (Ad (top 128)) .none kV13 dc13 pm13 an13 cd13 ct13), sl13⟩) (c13 : TR K cd13 "check_wholes" = true) (k13 : Tg K (.ref f13) = true)
 (a14 : Uo K mainGlobals "is_whole" = some (some (.ref f14))) (l14 : K.lookup f14 = some ⟨oc14, od14, .func (TQ "is_whole" "is_whole" (Am (top 13)) (Al (top 13)) (Ad (top 13)) .none kV14 dc14 pm14 an14 cd14 ct14), sl14⟩) (c14 : TR K cd14 "is_whole" = true) (k14 : Tg K (.ref f14) = true)
 (a15 : Uo K mainGlobals "common_measure" = some (some (.ref f15))) (l15 : K.lookup f15 = some ⟨oc15, od15, .func (TQ "common_measure" "common_measure" (Am (top 14)) (Al (top 14)) (Ad (top 14)) .none kV15 dc15 pm15 an15 cd15 ct15), sl15⟩) (c15 : TR K cd15 "common_measure" = true) (k15 : Tg K (.ref f15) = true)
 (a16 : Uo K mainGlobals "is_number" = some (some (.ref f16))) (l16 : K.lookup f16 = some ⟨oc16, od16, .func (TQ "is_number" "is_number" (Am (top 15)) (Al (top 15)) (Ad (top 15)) .none kV16 dc16 pm16 an16 cd16 ct16), sl16⟩) (c16 : TR K cd16 "is_number" = true) (k16 : Tg K (.ref f16) = true)
 (a17 : Uo K mainGlobals "are_figures" = some (some (.ref f17))) (l17 : K.lookup f17 = some ⟨oc17, od17, .func (TQ "are_figures" "are_figures" (Am (top 97)) (Al (top 97)) (Ad (top 97)) .none kV17 dc17 pm17 an17 cd17 ct17), sl17⟩) (c17 : TR K cd17 "are_figures" = true) (k17 : Tg K (.ref f17) = true)
 (a18 : Uo K mainGlobals "is_top" = some (some (.ref f18))) (l18 : K.lookup f18 = some ⟨oc18, od18, .func (TQ "is_top" "is_top" (Am (top 98)) (Al (top 98)) (Ad (top 98)) .none kV18 dc18 pm18 an18 cd18 ct18), sl18⟩) (c18 : TR K cd18 "is_top" = true) (k18 : Tg K (.ref f18) = true)
 (a19 : Uo K mainGlobals "number_in" = some (some (.ref f19))) (l19 : K.lookup f19 = some ⟨oc19, od19, .func (TQ "number_in" "number_in" (Am (top 99)) (Al (top 99)) (Ad (top 99)) .none kV19 dc19 pm19 an19 cd19 ct19), sl19⟩) (c19 : TR K cd19 "number_in" = true) (k19 : Tg K (.ref f19) = true)
 (a20 : Uo K mainGlobals "numbers_of_row" = some (some (.ref f20))) (l20 : K.lookup f20 = some ⟨oc20, od20, .func (TQ "numbers_of_row" "numbers_of_row" (Am (top 129)) (Al (top 129)) (Ad (top 129)) .none kV20 dc20 pm20 an20 cd20 ct20), sl20⟩) (c20 : TR K cd20 "numbers_of_row" = true) (k20 : Tg K (.ref f20) = true)
 (a21 : Uo K mainGlobals "show_number" = some (some (.ref f21))) (l21 : K.lookup f21 = some ⟨oc21, od21, .func (TQ "show_number" "show_number" (Am (top 92)) (Al (top 92)) (Ad (top 92)) .none kV21 dc21 pm21 an21 cd21 ct21), sl21⟩) (c21 : TR K cd21 "show_number" = true) (k21 : Tg K (.ref f21) = true)
 (a22 : Uo K mainGlobals "show_point" = some (some (.ref f22))) (l22 : K.lookup f22 = some ⟨oc22, od22, .func (TQ "show_point" "show_point" (Am (top 95)) (Al (top 95)) (Ad (top 95)) .none kV22 dc22 pm22 an22 cd22 ct22), sl22⟩) (c22 : TR K cd22 "show_point" = true) (k22 : Tg K (.ref f22) = true)
 (a23 : Uo K mainGlobals "show_points" = some (some (.ref f23))) (l23 : K.lookup f23 = some ⟨oc23, od23, .func (TQ "show_points" "show_points" (Am (top 96)) (Al (top 96)) (Ad (top 96)) .none kV23 dc23 pm23 an23 cd23 ct23), sl23⟩) (c23 : TR K cd23 "show_points" = true) (k23 : Tg K (.ref f23) = true)
 (a24 : Uo K mainGlobals "points_row" = some (some (.ref f24))) (l24 : K.lookup f24 = some ⟨oc24, od24, .func (TQ "points_row" "points_row" (Am (top 114)) (Al (top 114)) (Ad (top 114)) .none kV24 dc24 pm24 an24 cd24 ct24), sl24⟩) (c24 : TR K cd24 "points_row" = true) (k24 : Tg K (.ref f24) = true)
 (a25 : Uo K mainGlobals "are_unlike" = some (some (.ref f25))) (l25 : K.lookup f25 = some ⟨oc25, od25, .func (TQ "are_unlike" "are_unlike" (Am (top 49)) (Al (top 49)) (Ad (top 49)) .none kV25 dc25 pm25 an25 cd25 ct25), sl25⟩) (c25 : TR K cd25 "are_unlike" = true) (k25 : Tg K (.ref f25) = true)
 (a26 : Uo K mainGlobals "told_in" = some (some (.ref f26))) (l26 : K.lookup f26 = some ⟨oc26, od26, .func (TQ "told_in" "told_in" (Am (top 52)) (Al (top 52)) (Ad (top 52)) .none kV26 dc26 pm26 an26 cd26 ct26), sl26⟩) (c26 : TR K cd26 "told_in" = true) (k26 : Tg K (.ref f26) = true)
 (a27 : Uo K mainGlobals "is_point" = some (some (.ref f27))) (l27 : K.lookup f27 = some ⟨oc27, od27, .func (TQ "is_point" "is_point" (Am (top 48)) (Al (top 48)) (Ad (top 48)) .none kV27 dc27 pm27 an27 cd27 ct27), sl27⟩) (c27 : TR K cd27 "is_point" = true) (k27 : Tg K (.ref f27) = true)
 (a28 : Uo K mainGlobals "points_of" = some (some (.ref f28))) (l28 : K.lookup f28 = some ⟨oc28, od28, .func (TQ "points_of" "points_of" (Am (top 51)) (Al (top 51)) (Ad (top 51)) .none kV28 dc28 pm28 an28 cd28 ct28), sl28⟩) (c28 : TR K cd28 "points_of" = true) (k28 : Tg K (.ref f28) = true)
 (a29 : Uo K mainGlobals "put_in" = some (some (.ref f29))) (l29 : K.lookup f29 = some ⟨oc29, od29, .func (TQ "put_in" "put_in" (Am (top 64)) (Al (top 64)) (Ad (top 64)) .none kV29 dc29 pm29 an29 cd29 ct29), sl29⟩) (c29 : TR K cd29 "put_in" = true) (k29 : Tg K (.ref f29) = true)
 (a30 : Uo K mainGlobals "put_row" = some (some (.ref f30))) (l30 : K.lookup f30 = some ⟨oc30, od30, .func (TQ "put_row" "put_row" (Am (top 109)) (Al (top 109)) (Ad (top 109)) .none kV30 dc30 pm30 an30 cd30 ct30), sl30⟩) (c30 : TR K cd30 "put_row" = true) (k30 : Tg K (.ref f30) = true)
 (a31 : Uo K mainGlobals "point_at" = some (some (.ref f31))) (l31 : K.lookup f31 = some ⟨oc31, od31, .func (TQ "point_at" "point_at" (Am (top 65)) (Al (top 65)) (Ad (top 65)) .none kV31 dc31 pm31 an31 cd31 ct31), sl31⟩) (c31 : TR K cd31 "point_at" = true) (k31 : Tg K (.ref f31) = true)
 (a32 : Uo K mainGlobals "taken_out" = some (some (.ref f32))) (l32 : K.lookup f32 = some ⟨oc32, od32, .func (TQ "taken_out" "taken_out" (Am (top 66)) (Al (top 66)) (Ad (top 66)) .none kV32 dc32 pm32 an32 cd32 ct32), sl32⟩) (c32 : TR K cd32 "taken_out" = true) (k32 : Tg K (.ref f32) = true)
 (a33 : Uo K mainGlobals "take_row" = some (some (.ref f33))) (l33 : K.lookup f33 = some ⟨oc33, od33, .func (TQ "take_row" "take_row" (Am (top 110)) (Al (top 110)) (Ad (top 110)) .none kV33 dc33 pm33 an33 cd33 ct33), sl33⟩) (c33 : TR K cd33 "take_row" = true) (k33 : Tg K (.ref f33) = true)
 (a34 : Uo K mainGlobals "replaced" = some (some (.ref f34))) (l34 : K.lookup f34 = some ⟨oc34, od34, .func (TQ "replaced" "replaced" (Am (top 67)) (Al (top 67)) (Ad (top 67)) .none kV34 dc34 pm34 an34 cd34 ct34), sl34⟩) (c34 : TR K cd34 "replaced" = true) (k34 : Tg K (.ref f34) = true)
 (a35 : Uo K mainGlobals "with_height" = some (some (.ref f35))) (l35 : K.lookup f35 = some ⟨oc35, od35, .func (TQ "with_height" "with_height" (Am (top 68)) (Al (top 68)) (Ad (top 68)) .none kV35 dc35 pm35 an35 cd35 ct35), sl35⟩) (c35 : TR K cd35 "with_height" = true) (k35 : Tg K (.ref f35) = true)
 (a36 : Uo K mainGlobals "height_row" = some (some (.ref f36))) (l36 : K.lookup f36 = some ⟨oc36, od36, .func (TQ "height_row" "height_row" (Am (top 111)) (Al (top 111)) (Ad (top 111)) .none kV36 dc36 pm36 an36 cd36 ct36), sl36⟩) (c36 : TR K cd36 "height_row" = true) (k36 : Tg K (.ref f36) = true)
 (a37 : Uo K mainGlobals "with_slope" = some (some (.ref f37))) (l37 : K.lookup f37 = some ⟨oc37, od37, .func (TQ "with_slope" "with_slope" (Am (top 69)) (Al (top 69)) (Ad (top 69)) .none kV37 dc37 pm37 an37 cd37 ct37), sl37⟩) (c37 : TR K cd37 "with_slope" = true) (k37 : Tg K (.ref f37) = true)
 (a38 : Uo K mainGlobals "slope_row" = some (some (.ref f38))) (l38 : K.lookup f38 = some ⟨oc38, od38, .func (TQ "slope_row" "slope_row" (Am (top 112)) (Al (top 112)) (Ad (top 112)) .none kV38 dc38 pm38 an38 cd38 ct38), sl38⟩) (c38 : TR K cd38 "slope_row" = true) (k38 : Tg K (.ref f38) = true)
 (a39 : Uo K mainGlobals "noslope_row" = some (some (.ref f39))) (l39 : K.lookup f39 = some ⟨oc39, od39, .func (TQ "noslope_row" "noslope_row" (Am (top 113)) (Al (top 113)) (Ad (top 113)) .none kV39 dc39 pm39 an39 cd39 ct39), sl39⟩) (c39 : TR K cd39 "noslope_row" = true) (k39 : Tg K (.ref f39) = true)
 (a40 : T5 K (.ref C_Desk) "say" = some (some (.ref f40))) (i40 : T7 K (.ref f40) = true) (l40 : K.lookup f40 = some ⟨oc40, od40, .func (TQ "say" "Desk.say" (Am (BL (top 130) 1)) (Al (BL (top 130) 1)) (Ad (BL (top 130) 1)) .none kV40 dc40 pm40 an40 cd40 ct40), sl40⟩) (c40 : TR K cd40 "Desk.say" = true) (k40 : Tg K (.ref f40) = true)
 (a41 : Uo K mainGlobals "_law_said" = some (some (.ref f41))) (l41 : K.lookup f41 = some ⟨oc41, od41, .func (TQ "_law_said" "_law_said" (Am (top 145)) (Al (top 145)) (Ad (top 145)) .none kV41 dc41 pm41 an41 cd41 ct41), sl41⟩) (c41 : TR K cd41 "_law_said" = true) (k41 : Tg K (.ref f41) = true)
 (a42 : Uo K mainGlobals "_law_texts" = some (some (.ref f42))) (l42 : K.lookup f42 = some ⟨oc42, od42, .func (TQ "_law_texts" "_law_texts" (Am (top 137)) (Al (top 137)) (Ad (top 137)) .none kV42 dc42 pm42 an42 cd42 ct42), sl42⟩) (c42 : TR K cd42 "_law_texts" = true) (k42 : Tg K (.ref f42) = true)
 (a43 : Uo K mainGlobals "check_text" = some (some (.ref f43))) (l43 : K.lookup f43 = some ⟨oc43, od43, .func (TQ "check_text" "check_text" (Am (top 100)) (Al (top 100)) (Ad (top 100)) .none kV43 dc43 pm43 an43 cd43 ct43), sl43⟩) (c43 : TR K cd43 "check_text" = true) (k43 : Tg K (.ref f43) = true)
 (a44 : Uo K mainGlobals "numbers_in" = some (some (.ref f44))) (l44 : K.lookup f44 = some ⟨oc44, od44, .func (TQ "numbers_in" "numbers_in" (Am (top 101)) (Al (top 101)) (Ad (top 101)) .none kV44 dc44 pm44 an44 cd44 ct44), sl44⟩) (c44 : TR K cd44 "numbers_in" = true) (k44 : Tg K (.ref f44) = true)
 (a45 : Uo K mainGlobals "read_points_of" = some (some (.ref f45))) (l45 : K.lookup f45 = some ⟨oc45, od45, .func (TQ "read_points_of" "read_points_of" (Am (top 102)) (Al (top 102)) (Ad (top 102)) .none kV45 dc45 pm45 an45 cd45 ct45), sl45⟩) (c45 : TR K cd45 "read_points_of" = true) (k45 : Tg K (.ref f45) = true)
 (a46 : T5 K (.ref C_Desk) "__init__" = some (some (.ref f46))) (i46 : T7 K (.ref f46) = true) (l46 : K.lookup f46 = some ⟨oc46, od46, .func (TQ "__init__" "Desk.__init__" (Am (BL (top 130) 0)) (Al (BL (top 130) 0)) (Ad (BL (top 130) 0)) .none kV46 dc46 pm46 an46 cd46 ct46), sl46⟩) (c46 : TR K cd46 "Desk.__init__" = true) (k46 : Tg K (.ref f46) = true)
 (a47 : Uo K mainGlobals "law" = some (some (.ref f47))) (l47 : K.lookup f47 = some ⟨oc47, od47, .func (TQ "law" "law" (Am (top 146)) (Al (top 146)) (Ad (top 146)) .none kV47 dc47 pm47 an47 cd47 ct47), sl47⟩) (c47 : TR K cd47 "law" = true) (k47 : Tg K (.ref f47) = true)
 (z_len : Uo K mainGlobals "len" = some none)
 (z_abs : Uo K mainGlobals "abs" = some none)
 (z_tuple : Uo K mainGlobals "tuple" = some none)
 (z_str : Uo K mainGlobals "str" = some none)
 (z_int : Uo K mainGlobals "int" = some none)
 (z_range : Uo K mainGlobals "range" = some none)
 (z_sum : Uo K mainGlobals "sum" = some none)
 (z_isinstance : Uo K mainGlobals "isinstance" = some none)
 (z_ValueError : Uo K mainGlobals "ValueError" = some none)
 (z_zip : Uo K mainGlobals "zip" = some none)
 (z_bool : Uo K mainGlobals "bool" = some none)
 (z_all : Uo K mainGlobals "all" = some none)
 (z_set : Uo K mainGlobals "set" = some none)
 (z_list : Uo K mainGlobals "list" = some none)
 {t_FIGURES : Tok} (x_FIGURES : Uo K mainGlobals "FIGURES" = some (some (.str "0123456789" t_FIGURES)))
 {t_SIX : Tok} (x_SIX : Uo K mainGlobals "SIX" = some (some (.int 6 t_SIX)))
 {t_MOST_TOLD : Tok} (x_MOST_TOLD : Uo K mainGlobals "MOST_TOLD" = some (some (.int 12 t_MOST_TOLD)))
 {a_CurveError : Addr} (nx_CurveError : Uo K mainGlobals "CurveError" = some (some (.ref a_CurveError)))
 {a_TooMany : Addr} (nx_TooMany : Uo K mainGlobals "TooMany" = some (some (.ref a_TooMany)))
 {a_NoPoints : Addr} (nx_NoPoints : Uo K mainGlobals "NoPoints" = some (some (.ref a_NoPoints)))
 {a_NoPoint : Addr} (nx_NoPoint : Uo K mainGlobals "NoPoint" = some (some (.ref a_NoPoint)))
 {a_NoNumber : Addr} (nx_NoNumber : Uo K mainGlobals "NoNumber" = some (some (.ref a_NoNumber)))
 {a_NoCurve : Addr} (nx_NoCurve : Uo K mainGlobals "NoCurve" = some (some (.ref a_NoCurve)))
 {a_NoStretch : Addr} (nx_NoStretch : Uo K mainGlobals "NoStretch" = some (some (.ref a_NoStretch)))
 {a_TooDeep : Addr} (nx_TooDeep : Uo K mainGlobals "TooDeep" = some (some (.ref a_TooDeep)))
 {a_TooFew : Addr} (nx_TooFew : Uo K mainGlobals "TooFew" = some (some (.ref a_TooFew)))
 {a_NoText : Addr} (nx_NoText : Uo K mainGlobals "NoText" = some (some (.ref a_NoText)))
 {a_NoRow : Addr} (nx_NoRow : Uo K mainGlobals "NoRow" = some (some (.ref a_NoRow)))
 {bm0TooMany N0TooMany nm0TooMany q0TooMany bs0TooMany hd0TooMany sn0TooMany sub0TooMany ab0TooMany col0TooMany dd0TooMany j0TooMany j1TooMany j2TooMany j3TooMany j5TooMany} (xl_TooMany : K.lookup a_TooMany = some (PySem.excClassObj nm0TooMany q0TooMany a_TooMany N0TooMany bs0TooMany bm0TooMany hd0TooMany sn0TooMany sub0TooMany ab0TooMany col0TooMany dd0TooMany j0TooMany j1TooMany j2TooMany j3TooMany j5TooMany "ValueError.__new__"))
 (xex_TooMany : Uq K a_TooMany [.type "ValueError", .type "Exception", .type "BaseException", .type "object"] "ValueError.__new__" = true)
 (xga_TooMany : T5 K (.ref a_TooMany) "__getattribute__" = some (some (.builtin "BaseException.__getattribute__"))) (xgt_TooMany : T5 K (.ref a_TooMany) "__getattr__" = some none) (xca_TooMany : T5 K (.ref a_TooMany) "__class__" = some (some (.builtin "object.__class__")))
 (xob_TooMany : Tj K a_TooMany (.type "object") = some true) (xbe_TooMany : Tj K a_TooMany (.type "BaseException") = some true)
 (xm_TooMany : UK K (.ref a_TooMany) (.ref a_CurveError) = some true) (xv_TooMany : Tn K (.ref a_TooMany) (.type "ValueError") = some true)
 (xk_TooMany_0 : Tn K (.ref a_TooMany) (.ref a_TooMany) = some true)
 (xk_TooMany_1 : Tn K (.ref a_TooMany) (.ref a_NoPoints) = some false)
 (xk_TooMany_2 : Tn K (.ref a_TooMany) (.ref a_NoPoint) = some false)
 (xk_TooMany_3 : Tn K (.ref a_TooMany) (.ref a_NoNumber) = some false)
 (xk_TooMany_4 : Tn K (.ref a_TooMany) (.ref a_NoCurve) = some false)
 (xk_TooMany_5 : Tn K (.ref a_TooMany) (.ref a_NoStretch) = some false)
 (xk_TooMany_6 : Tn K (.ref a_TooMany) (.ref a_TooDeep) = some false)
 (xk_TooMany_7 : Tn K (.ref a_TooMany) (.ref a_TooFew) = some false)
 (xk_TooMany_8 : Tn K (.ref a_TooMany) (.ref a_NoText) = some false)
 (xk_TooMany_9 : Tn K (.ref a_TooMany) (.ref a_NoRow) = some false)
 {bm0NoPoints N0NoPoints nm0NoPoints q0NoPoints bs0NoPoints hd0NoPoints sn0NoPoints sub0NoPoints ab0NoPoints col0NoPoints dd0NoPoints j0NoPoints j1NoPoints j2NoPoints j3NoPoints j5NoPoints} (xl_NoPoints : K.lookup a_NoPoints = some (PySem.excClassObj nm0NoPoints q0NoPoints a_NoPoints N0NoPoints bs0NoPoints bm0NoPoints hd0NoPoints sn0NoPoints sub0NoPoints ab0NoPoints col0NoPoints dd0NoPoints j0NoPoints j1NoPoints j2NoPoints j3NoPoints j5NoPoints "ValueError.__new__"))
 (xex_NoPoints : Uq K a_NoPoints [.type "ValueError", .type "Exception", .type "BaseException", .type "object"] "ValueError.__new__" = true)
 (xga_NoPoints : T5 K (.ref a_NoPoints) "__getattribute__" = some (some (.builtin "BaseException.__getattribute__"))) (xgt_NoPoints : T5 K (.ref a_NoPoints) "__getattr__" = some none) (xca_NoPoints : T5 K (.ref a_NoPoints) "__class__" = some (some (.builtin "object.__class__")))
 (xob_NoPoints : Tj K a_NoPoints (.type "object") = some true) (xbe_NoPoints : Tj K a_NoPoints (.type "BaseException") = some true)
 (xm_NoPoints : UK K (.ref a_NoPoints) (.ref a_CurveError) = some true) (xv_NoPoints : Tn K (.ref a_NoPoints) (.type "ValueError") = some true)
 (xk_NoPoints_0 : Tn K (.ref a_NoPoints) (.ref a_TooMany) = some false)
 (xk_NoPoints_1 : Tn K (.ref a_NoPoints) (.ref a_NoPoints) = some true)
 (xk_NoPoints_2 : Tn K (.ref a_NoPoints) (.ref a_NoPoint) = some false)
 (xk_NoPoints_3 : Tn K (.ref a_NoPoints) (.ref a_NoNumber) = some false)
 (xk_NoPoints_4 : Tn K (.ref a_NoPoints) (.ref a_NoCurve) = some false)
 (xk_NoPoints_5 : Tn K (.ref a_NoPoints) (.ref a_NoStretch) = some false)
 (xk_NoPoints_6 : Tn K (.ref a_NoPoints) (.ref a_TooDeep) = some false)
 (xk_NoPoints_7 : Tn K (.ref a_NoPoints) (.ref a_TooFew) = some false)
 (xk_NoPoints_8 : Tn K (.ref a_NoPoints) (.ref a_NoText) = some false)
 (xk_NoPoints_9 : Tn K (.ref a_NoPoints) (.ref a_NoRow) = some false)
 {bm0NoPoint N0NoPoint nm0NoPoint q0NoPoint bs0NoPoint hd0NoPoint sn0NoPoint sub0NoPoint ab0NoPoint col0NoPoint dd0NoPoint j0NoPoint j1NoPoint j2NoPoint j3NoPoint j5NoPoint} (xl_NoPoint : K.lookup a_NoPoint = some (PySem.excClassObj nm0NoPoint q0NoPoint a_NoPoint N0NoPoint bs0NoPoint bm0NoPoint hd0NoPoint sn0NoPoint sub0NoPoint ab0NoPoint col0NoPoint dd0NoPoint j0NoPoint j1NoPoint j2NoPoint j3NoPoint j5NoPoint "ValueError.__new__"))
 (xex_NoPoint : Uq K a_NoPoint [.type "ValueError", .type "Exception", .type "BaseException", .type "object"] "ValueError.__new__" = true)
 (xga_NoPoint : T5 K (.ref a_NoPoint) "__getattribute__" = some (some (.builtin "BaseException.__getattribute__"))) (xgt_NoPoint : T5 K (.ref a_NoPoint) "__getattr__" = some none) (xca_NoPoint : T5 K (.ref a_NoPoint) "__class__" = some (some (.builtin "object.__class__")))
 (xob_NoPoint : Tj K a_NoPoint (.type "object") = some true) (xbe_NoPoint : Tj K a_NoPoint (.type "BaseException") = some true)
 (xm_NoPoint : UK K (.ref a_NoPoint) (.ref a_CurveError) = some true) (xv_NoPoint : Tn K (.ref a_NoPoint) (.type "ValueError") = some true)
 (xk_NoPoint_0 : Tn K (.ref a_NoPoint) (.ref a_TooMany) = some false)
 (xk_NoPoint_1 : Tn K (.ref a_NoPoint) (.ref a_NoPoints) = some false)
 (xk_NoPoint_2 : Tn K (.ref a_NoPoint) (.ref a_NoPoint) = some true)
 (xk_NoPoint_3 : Tn K (.ref a_NoPoint) (.ref a_NoNumber) = some false)
 (xk_NoPoint_4 : Tn K (.ref a_NoPoint) (.ref a_NoCurve) = some false)
 (xk_NoPoint_5 : Tn K (.ref a_NoPoint) (.ref a_NoStretch) = some false)
 (xk_NoPoint_6 : Tn K (.ref a_NoPoint) (.ref a_TooDeep) = some false)
 (xk_NoPoint_7 : Tn K (.ref a_NoPoint) (.ref a_TooFew) = some false)
 (xk_NoPoint_8 : Tn K (.ref a_NoPoint) (.ref a_NoText) = some false)
 (xk_NoPoint_9 : Tn K (.ref a_NoPoint) (.ref a_NoRow) = some false)
 (xgg : Tf K (.builtin "object.__class__") "__get__" = some (some (.builtin "getset_descriptor.__get__"))) (xtk : PySem.W.takesIn K (.builtin "object.__class__") = some true)
 (pg_Desk : T3 K C_Desk Str.empty = true)
 (hd_Desk : T4 K C_Desk = true)
 (po_Desk : T8 K C_Desk = true)
 (sa_Desk : T5 K (.ref C_Desk) "__setattr__" = some (some (.builtin "object.__setattr__")))
 (mk_Desk : Tb K C_Desk = true)
 (kc_Desk : Tg K (.ref C_Desk) = true)
 (na_points_Desk : T5 K (.ref C_Desk) "points" = some none)
 {a_COUNTS : Addr} (nx_COUNTS : Uo K mainGlobals "COUNTS" = some (some (.ref a_COUNTS)))
 {tk_COUNTS_0 : Tok} {g_COUNTS_0 : Addr}
 {tk_COUNTS_1 : Tok} {g_COUNTS_1 : Addr}
 {tk_COUNTS_2 : Tok} {g_COUNTS_2 : Addr}
 {tk_COUNTS_3 : Tok} {g_COUNTS_3 : Addr}
 {tk_COUNTS_4 : Tok} {g_COUNTS_4 : Addr}
 {tk_COUNTS_5 : Tok} {g_COUNTS_5 : Addr}
 {tk_COUNTS_6 : Tok} {g_COUNTS_6 : Addr}
 {tk_COUNTS_7 : Tok} {g_COUNTS_7 : Addr}
 {tk_COUNTS_8 : Tok} {g_COUNTS_8 : Addr}
 {tk_COUNTS_9 : Tok} {g_COUNTS_9 : Addr}
 {tk_COUNTS_10 : Tok} {g_COUNTS_10 : Addr}
 {tk_COUNTS_11 : Tok} {g_COUNTS_11 : Addr}
 {tk_COUNTS_12 : Tok} {g_COUNTS_12 : Addr}
 {tk_COUNTS_13 : Tok} {g_COUNTS_13 : Addr}
 {tk_COUNTS_14 : Tok} {g_COUNTS_14 : Addr}
 {n_COUNTS : Nat} (yd_COUNTS : K.lookup a_COUNTS = some ⟨.type "dict", none, .dict (([("put", tk_COUNTS_0, g_COUNTS_0), ("take", tk_COUNTS_1, g_COUNTS_1), ("height", tk_COUNTS_2, g_COUNTS_2), ("slope", tk_COUNTS_3, g_COUNTS_3), ("noslope", tk_COUNTS_4, g_COUNTS_4), ("points", tk_COUNTS_5, g_COUNTS_5), ("curve", tk_COUNTS_6, g_COUNTS_6), ("steps", tk_COUNTS_7, g_COUNTS_7), ("at", tk_COUNTS_8, g_COUNTS_8), ("slopeat", tk_COUNTS_9, g_COUNTS_9), ("misses", tk_COUNTS_10, g_COUNTS_10), ("bounds", tk_COUNTS_11, g_COUNTS_11), ("noughts", tk_COUNTS_12, g_COUNTS_12), ("wrong", tk_COUNTS_13, g_COUNTS_13), ("quotient", tk_COUNTS_14, g_COUNTS_14)] : List (Str × Tok × Addr)).map (Hy w)).toArray n_COUNTS, #[]⟩) (hs_COUNTS : (a_COUNTS == sysModules) = false)
 {o_COUNTS_0 : Obj} {v_COUNTS_0 : Array Value} {n_COUNTS_0 : Nat} (y_COUNTS_0 : K.lookup g_COUNTS_0 = some o_COUNTS_0) (w_COUNTS_0 : o_COUNTS_0.cls = .type "tuple") (d_COUNTS_0 : o_COUNTS_0.data = .seq v_COUNTS_0 n_COUNTS_0) (e_COUNTS_0 : v_COUNTS_0.toList.map GA = [some (.int 2), some (.int 3)])
 {o_COUNTS_1 : Obj} {v_COUNTS_1 : Array Value} {n_COUNTS_1 : Nat} (y_COUNTS_1 : K.lookup g_COUNTS_1 = some o_COUNTS_1) (w_COUNTS_1 : o_COUNTS_1.cls = .type "tuple") (d_COUNTS_1 : o_COUNTS_1.data = .seq v_COUNTS_1 n_COUNTS_1) (e_COUNTS_1 : v_COUNTS_1.toList.map GA = [some (.int 1), some (.int 1)])
 {o_COUNTS_2 : Obj} {v_COUNTS_2 : Array Value} {n_COUNTS_2 : Nat} (y_COUNTS_2 : K.lookup g_COUNTS_2 = some o_COUNTS_2) (w_COUNTS_2 : o_COUNTS_2.cls = .type "tuple") (d_COUNTS_2 : o_COUNTS_2.data = .seq v_COUNTS_2 n_COUNTS_2) (e_COUNTS_2 : v_COUNTS_2.toList.map GA = [some (.int 2), some (.int 2)])
 {o_COUNTS_3 : Obj} {v_COUNTS_3 : Array Value} {n_COUNTS_3 : Nat} (y_COUNTS_3 : K.lookup g_COUNTS_3 = some o_COUNTS_3) (w_COUNTS_3 : o_COUNTS_3.cls = .type "tuple") (d_COUNTS_3 : o_COUNTS_3.data = .seq v_COUNTS_3 n_COUNTS_3) (e_COUNTS_3 : v_COUNTS_3.toList.map GA = [some (.int 2), some (.int 2)])
 {o_COUNTS_4 : Obj} {v_COUNTS_4 : Array Value} {n_COUNTS_4 : Nat} (y_COUNTS_4 : K.lookup g_COUNTS_4 = some o_COUNTS_4) (w_COUNTS_4 : o_COUNTS_4.cls = .type "tuple") (d_COUNTS_4 : o_COUNTS_4.data = .seq v_COUNTS_4 n_COUNTS_4) (e_COUNTS_4 : v_COUNTS_4.toList.map GA = [some (.int 1), some (.int 1)])
 {o_COUNTS_5 : Obj} {v_COUNTS_5 : Array Value} {n_COUNTS_5 : Nat} (y_COUNTS_5 : K.lookup g_COUNTS_5 = some o_COUNTS_5) (w_COUNTS_5 : o_COUNTS_5.cls = .type "tuple") (d_COUNTS_5 : o_COUNTS_5.data = .seq v_COUNTS_5 n_COUNTS_5) (e_COUNTS_5 : v_COUNTS_5.toList.map GA = [some (.int 0), some (.int 0)])
 {a_LEAST : Addr} (nx_LEAST : Uo K mainGlobals "LEAST" = some (some (.ref a_LEAST)))
 {tk_LEAST_0 : Tok} {g_LEAST_0 : Addr}
 {tk_LEAST_1 : Tok} {g_LEAST_1 : Addr}
 {n_LEAST : Nat} (yd_LEAST : K.lookup a_LEAST = some ⟨.type "dict", none, .dict (([("wrong", tk_LEAST_0, g_LEAST_0), ("quotient", tk_LEAST_1, g_LEAST_1)] : List (Str × Tok × Addr)).map (Hy w)).toArray n_LEAST, #[]⟩) (hs_LEAST : (a_LEAST == sysModules) = false)
 {a_CHANGES : Addr} (nx_CHANGES : Uo K mainGlobals "CHANGES" = some (some (.ref a_CHANGES)))
 {tk_CHANGES_0 : Tok}
 {tk_CHANGES_1 : Tok}
 {tk_CHANGES_2 : Tok}
 {tk_CHANGES_3 : Tok}
 {tk_CHANGES_4 : Tok}
 {n_CHANGES : Nat} (yd_CHANGES : K.lookup a_CHANGES = some ⟨.type "dict", none, .dict (([("put", tk_CHANGES_0, f30), ("take", tk_CHANGES_1, f33), ("height", tk_CHANGES_2, f36), ("slope", tk_CHANGES_3, f38), ("noslope", tk_CHANGES_4, f39)] : List (Str × Tok × Addr)).map (Hy w)).toArray n_CHANGES, #[]⟩) (hs_CHANGES : (a_CHANGES == sysModules) = false)
 {a_ANSWERS : Addr} (nx_ANSWERS : Uo K mainGlobals "ANSWERS" = some (some (.ref a_ANSWERS)))
 {tk_ANSWERS_0 : Tok}
 {tk_ANSWERS_1 : Tok} {g_ANSWERS_1 : Addr}
 {tk_ANSWERS_2 : Tok} {g_ANSWERS_2 : Addr}
 {tk_ANSWERS_3 : Tok} {g_ANSWERS_3 : Addr}
 {tk_ANSWERS_4 : Tok} {g_ANSWERS_4 : Addr}
 {tk_ANSWERS_5 : Tok} {g_ANSWERS_5 : Addr}
 {tk_ANSWERS_6 : Tok} {g_ANSWERS_6 : Addr}
 {tk_ANSWERS_7 : Tok} {g_ANSWERS_7 : Addr}
 {tk_ANSWERS_8 : Tok} {g_ANSWERS_8 : Addr}
 {tk_ANSWERS_9 : Tok} {g_ANSWERS_9 : Addr}
 {n_ANSWERS : Nat} (yd_ANSWERS : K.lookup a_ANSWERS = some ⟨.type "dict", none, .dict (([("points", tk_ANSWERS_0, f24), ("curve", tk_ANSWERS_1, g_ANSWERS_1), ("steps", tk_ANSWERS_2, g_ANSWERS_2), ("at", tk_ANSWERS_3, g_ANSWERS_3), ("slopeat", tk_ANSWERS_4, g_ANSWERS_4), ("misses", tk_ANSWERS_5, g_ANSWERS_5), ("bounds", tk_ANSWERS_6, g_ANSWERS_6), ("noughts", tk_ANSWERS_7, g_ANSWERS_7), ("wrong", tk_ANSWERS_8, g_ANSWERS_8), ("quotient", tk_ANSWERS_9, g_ANSWERS_9)] : List (Str × Tok × Addr)).map (Hy w)).toArray n_ANSWERS, #[]⟩) (hs_ANSWERS : (a_ANSWERS == sysModules) = false) :
 ∃ fd : FuncData, (∀ (s : Shared) (v : Value), BindsTo s fd ⟨[v], []⟩ [("_law_script", v)]) ∧ ∀ base : Heap, K.In base → base.Ns mainGlobals mg → Ay l.prog w K mg base CX0 42 fa fd ["_law_script"] (IZ K) := by
 have e := hfa.symm.trans (Ur X G a47)
 cases e
 have Qz := Vd X G z_len
 have QI := Vd X G z_abs
 have QB := Vd X G z_tuple
 have QC := Vd X G z_str
 have QG := Vd X G z_int
 have QH := Vd X G z_range
 have b_sum := Vd X G z_sum
 have QA := Vd X G z_isinstance
 have QX := Vd X G z_ValueError
 have b_zip := Vd X G z_zip
 have QY := Vd X G z_bool
 have QE := Vd X G z_all
 have b_set := Vd X G z_set
 have QF := Vd X G z_list
 have c_FIGURES := Ur X G x_FIGURES
 have c_SIX := Ur X G x_SIX
 have c_MOST_TOLD := Ur X G x_MOST_TOLD
 have t_Desk : HJ K C_Desk := ⟨⟨pg_Desk, hd_Desk, po_Desk, sa_Desk⟩, na_points_Desk⟩
 have s_COUNTS_0 : ∀ H : Hp, SqT K H g_COUNTS_0 [.int 2, .int 3] := fun H => Cu y_COUNTS_0 w_COUNTS_0 d_COUNTS_0 e_COUNTS_0
 have s_COUNTS_1 : ∀ H : Hp, SqT K H g_COUNTS_1 [.int 1, .int 1] := fun H => Cu y_COUNTS_1 w_COUNTS_1 d_COUNTS_1 e_COUNTS_1
 have s_COUNTS_2 : ∀ H : Hp, SqT K H g_COUNTS_2 [.int 2, .int 2] := fun H => Cu y_COUNTS_2 w_COUNTS_2 d_COUNTS_2 e_COUNTS_2
 have s_COUNTS_3 : ∀ H : Hp, SqT K H g_COUNTS_3 [.int 2, .int 2] := fun H => Cu y_COUNTS_3 w_COUNTS_3 d_COUNTS_3 e_COUNTS_3
 have s_COUNTS_4 : ∀ H : Hp, SqT K H g_COUNTS_4 [.int 1, .int 1] := fun H => Cu y_COUNTS_4 w_COUNTS_4 d_COUNTS_4 e_COUNTS_4
 have s_COUNTS_5 : ∀ H : Hp, SqT K H g_COUNTS_5 [.int 0, .int 0] := fun H => Cu y_COUNTS_5 w_COUNTS_5 d_COUNTS_5 e_COUNTS_5
 have c_COUNTS := Ur X G nx_COUNTS
 have d_COUNTS := KP (P := l.prog) [("put", tk_COUNTS_0, g_COUNTS_0), ("take", tk_COUNTS_1, g_COUNTS_1), ("height", tk_COUNTS_2, g_COUNTS_2), ("slope", tk_COUNTS_3, g_COUNTS_3), ("noslope", tk_COUNTS_4, g_COUNTS_4), ("points", tk_COUNTS_5, g_COUNTS_5), ("curve", tk_COUNTS_6, g_COUNTS_6), ("steps", tk_COUNTS_7, g_COUNTS_7), ("at", tk_COUNTS_8, g_COUNTS_8), ("slopeat", tk_COUNTS_9, g_COUNTS_9), ("misses", tk_COUNTS_10, g_COUNTS_10), ("bounds", tk_COUNTS_11, g_COUNTS_11), ("noughts", tk_COUNTS_12, g_COUNTS_12), ("wrong", tk_COUNTS_13, g_COUNTS_13), ("quotient", tk_COUNTS_14, g_COUNTS_14)] yd_COUNTS (show (["put", "take", "height", "slope", "noslope", "points", "curve", "steps", "at", "slopeat", "misses", "bounds", "noughts", "wrong", "quotient"] : List Str).Nodup from by decide +kernel) hs_COUNTS
 have c_LEAST := Ur X G nx_LEAST
 have d_LEAST := KP (P := l.prog) [("wrong", tk_LEAST_0, g_LEAST_0), ("quotient", tk_LEAST_1, g_LEAST_1)] yd_LEAST (show (["wrong", "quotient"] : List Str).Nodup from by decide +kernel) hs_LEAST
 have m_put_row := Ur X G a30
 have m_take_row := Ur X G a33
 have m_height_row := Ur X G a36
 have m_slope_row := Ur X G a38
 have m_noslope_row := Ur X G a39
 have c_CHANGES := Ur X G nx_CHANGES
 have d_CHANGES := KP (P := l.prog) [("put", tk_CHANGES_0, f30), ("take", tk_CHANGES_1, f33), ("height", tk_CHANGES_2, f36), ("slope", tk_CHANGES_3, f38), ("noslope", tk_CHANGES_4, f39)] yd_CHANGES (show (["put", "take", "height", "slope", "noslope"] : List Str).Nodup from by decide +kernel) hs_CHANGES
 have m_points_row := Ur X G a24
 have c_ANSWERS := Ur X G nx_ANSWERS
 have d_ANSWERS := KP (P := l.prog) [("points", tk_ANSWERS_0, f24), ("curve", tk_ANSWERS_1, g_ANSWERS_1), ("steps", tk_ANSWERS_2, g_ANSWERS_2), ("at", tk_ANSWERS_3, g_ANSWERS_3), ("slopeat", tk_ANSWERS_4, g_ANSWERS_4), ("misses", tk_ANSWERS_5, g_ANSWERS_5), ("bounds", tk_ANSWERS_6, g_ANSWERS_6), ("noughts", tk_ANSWERS_7, g_ANSWERS_7), ("wrong", tk_ANSWERS_8, g_ANSWERS_8), ("quotient", tk_ANSWERS_9, g_ANSWERS_9)] yd_ANSWERS (show (["points", "curve", "steps", "at", "slopeat", "misses", "bounds", "noughts", "wrong", "quotient"] : List Str).Nodup from by decide +kernel) hs_ANSWERS
 have F1 := AG (st := top 132) l1 c1 k1
 have B1 := Fun.binds2 "_law_script" "_law_k" F1 fun _ _ _ _ _ _ _ _ => rfl
 have F2 := AG (st := top 133) l2 c2 k2
 have B2 := Fun.binds2 "_law_pen_here" "_law_many" F2 fun _ _ _ _ _ _ _ _ => rfl
 have F3 := AG (st := top 134) l3 c3 k3
 have B3 := Fun.binds2 "_law_top" "_law_bottom" F3 fun _ _ _ _ _ _ _ _ => rfl
 have F4 := AG (st := top 135) l4 c4 k4
 have B4 := Fun.binds2 "_law_a" "_law_b" F4 fun _ _ _ _ _ _ _ _ => rfl
 have F5 := AG (st := top 140) l5 c5 k5
 have B5 := Fun.binds2 "_law_pen_here" "_law_places" F5 fun _ _ _ _ _ _ _ _ => rfl
 have F6 := AG (st := top 139) l6 c6 k6
 have B6 := Fun.binds1 "_law_pen_here" F6 fun _ _ _ _ _ _ _ => rfl
 have F7 := AG (st := top 141) l7 c7 k7
 have B7 := Fun.binds2 "_law_pen_here" "_law_most" F7 fun _ _ _ _ _ _ _ _ => rfl
 have F8 := AG (st := top 136) l8 c8 k8
 have B8 := Fun.binds1 "_law_number" F8 fun _ _ _ _ _ _ _ => rfl
 have F9 := AG (st := top 138) l9 c9 k9
 have B9 := Fun.binds1 "_law_points" F9 fun _ _ _ _ _ _ _ => rfl
 have F10 := AG (st := top 144) l10 c10 k10
 have B10 := Fun.binds2 "_law_pen_here" "_law_points" F10 fun _ _ _ _ _ _ _ _ => rfl
 have F11 := AG (st := top 143) l11 c11 k11
 have B11 := Fun.binds3 "_law_points" "_law_word" "_law_some" F11 fun _ _ _ _ _ _ _ _ _ => rfl
 have F12 := AG (st := top 142) l12 c12 k12
 have B12 := Fun.binds1 "_law_caught" F12 fun _ _ _ _ _ _ _ => rfl
 have F13 := AG (st := top 128) l13 c13 k13
 have B13 := Fun.binds2 "numbers" "least" F13 fun _ _ _ _ _ _ _ _ => rfl
 have F14 := AG (st := top 13) l14 c14 k14
 have B14 := Fun.binds1 "thing" F14 fun _ _ _ _ _ _ _ => rfl
 have F15 := AG (st := top 14) l15 c15 k15
 have B15 := Fun.binds2 "one" "other" F15 fun _ _ _ _ _ _ _ _ => rfl
 have F16 := AG (st := top 15) l16 c16 k16
 have B16 := Fun.binds1 "thing" F16 fun _ _ _ _ _ _ _ => rfl
 have F17 := AG (st := top 97) l17 c17 k17
 have B17 := Fun.binds2 "text" "most" F17 fun _ _ _ _ _ _ _ _ => rfl
 have F18 := AG (st := top 98) l18 c18 k18
 have B18 := Fun.binds2 "text" "most" F18 fun _ _ _ _ _ _ _ _ => rfl
 have F19 := AG (st := top 99) l19 c19 k19
 have B19 := Fun.binds2 "text" "most" F19 fun _ _ _ _ _ _ _ _ => rfl
 have F20 := AG (st := top 129) l20 c20 k20
 have B20 := Fun.binds1 "words" F20 fun _ _ _ _ _ _ _ => rfl
 have F21 := AG (st := top 92) l21 c21 k21
 have B21 := Fun.binds1 "number" F21 fun _ _ _ _ _ _ _ => rfl
 have F22 := AG (st := top 95) l22 c22 k22
 have B22 := Fun.binds1 "point" F22 fun _ _ _ _ _ _ _ => rfl
 have F23 := AG (st := top 96) l23 c23 k23
 have B23 := Fun.binds1 "points" F23 fun _ _ _ _ _ _ _ => rfl
 have F24 := AG (st := top 114) l24 c24 k24
 have B24 := Fun.binds2 "points" "numbers" F24 fun _ _ _ _ _ _ _ _ => rfl
 have F25 := AG (st := top 49) l25 c25 k25
 have B25 := Fun.binds1 "places" F25 fun _ _ _ _ _ _ _ => rfl
 have F26 := AG (st := top 52) l26 c26 k26
 have B26 := Fun.binds1 "points" F26 fun _ _ _ _ _ _ _ => rfl
 have F27 := AG (st := top 48) l27 c27 k27
 have B27 := Fun.binds1 "thing" F27 fun _ _ _ _ _ _ _ => rfl
 have F28 := AG (st := top 51) l28 c28 k28
 have B28 := Fun.binds1 "thing" F28 fun _ _ _ _ _ _ _ => rfl
 have F29 := AG (st := top 64) l29 c29 k29
 have B29 := Fun.binds2 "points" "point" F29 fun _ _ _ _ _ _ _ _ => rfl
 have F30 := AG (st := top 109) l30 c30 k30
 have B30 := Fun.binds2 "points" "numbers" F30 fun _ _ _ _ _ _ _ _ => rfl
 have F31 := AG (st := top 65) l31 c31 k31
 have B31 := Fun.binds2 "points" "x" F31 fun _ _ _ _ _ _ _ _ => rfl
 have F32 := AG (st := top 66) l32 c32 k32
 have B32 := Fun.binds2 "points" "x" F32 fun _ _ _ _ _ _ _ _ => rfl
 have F33 := AG (st := top 110) l33 c33 k33
 have B33 := Fun.binds2 "points" "numbers" F33 fun _ _ _ _ _ _ _ _ => rfl
 have F34 := AG (st := top 67) l34 c34 k34
 have B34 := Fun.binds3 "points" "old" "new" F34 fun _ _ _ _ _ _ _ _ _ => rfl
 have F35 := AG (st := top 68) l35 c35 k35
 have B35 := Fun.binds3 "points" "x" "y" F35 fun _ _ _ _ _ _ _ _ _ => rfl
 have F36 := AG (st := top 111) l36 c36 k36
 have B36 := Fun.binds2 "points" "numbers" F36 fun _ _ _ _ _ _ _ _ => rfl
 have F37 := AG (st := top 69) l37 c37 k37
 have B37 := Fun.binds3 "points" "x" "slope" F37 fun _ _ _ _ _ _ _ _ _ => rfl
 have F38 := AG (st := top 112) l38 c38 k38
 have B38 := Fun.binds2 "points" "numbers" F38 fun _ _ _ _ _ _ _ _ => rfl
 have F39 := AG (st := top 113) l39 c39 k39
 have B39 := Fun.binds2 "points" "numbers" F39 fun _ _ _ _ _ _ _ _ => rfl
 have F40 := AG (st := BL (top 130) 1) l40 c40 k40
 have B40 := Fun.binds2 "self" "row" F40 fun _ _ _ _ _ _ _ _ => rfl
 have F41 := AG (st := top 145) l41 c41 k41
 have B41 := Fun.binds2 "_law_desk" "_law_row_here" F41 fun _ _ _ _ _ _ _ _ => rfl
 have F42 := AG (st := top 137) l42 c42 k42
 have B42 := Fun.binds1 "_law_numbers" F42 fun _ _ _ _ _ _ _ => rfl
 have F43 := AG (st := top 100) l43 c43 k43
 have B43 := Fun.binds1 "text" F43 fun _ _ _ _ _ _ _ => rfl
 have F44 := AG (st := top 101) l44 c44 k44
 have B44 := Fun.binds2 "parts" "most" F44 fun _ _ _ _ _ _ _ _ => rfl
 have F45 := AG (st := top 102) l45 c45 k45
 have B45 := Fun.binds2 "text" "most" F45 fun _ _ _ _ _ _ _ _ => rfl
 have F46 := AG (st := BL (top 130) 0) l46 c46 k46
 have B46 := Fun.binds2 "self" "text" F46 fun _ _ _ _ _ _ _ _ => rfl
 have F47 := AG (st := top 146) l47 c47 k47
 refine ⟨TQ "law" "law" (Am (top 146)) (Al (top 146)) (Ad (top 146)) .none kV47 dc47 pm47 an47 cd47 ct47, fun s v => .of_eq rfl, fun base _ _ => ?_⟩
 have c_CurveError := Ur X G nx_CurveError
 have c_TooMany := Ur X G nx_TooMany
 have c_NoPoints := Ur X G nx_NoPoints
 have c_NoPoint := Ur X G nx_NoPoint
 have c_NoNumber := Ur X G nx_NoNumber
 have c_NoCurve := Ur X G nx_NoCurve
 have c_NoStretch := Ur X G nx_NoStretch
 have c_TooDeep := Ur X G nx_TooDeep
 have c_TooFew := Ur X G nx_TooFew
 have c_NoText := Ur X G nx_NoText
 have c_NoRow := Ur X G nx_NoRow
 have k_TooMany : IL K "TooMany" a_TooMany := ⟨nx_TooMany, ⟨_, _, _, _, _, _, _, _, _, _, _, _, _, _, _, _, xl_TooMany⟩, xex_TooMany⟩
 have xr_TooMany : Kl K a_TooMany [a_TooMany, a_NoPoints, a_NoPoint, a_NoNumber, a_NoCurve, a_NoStretch, a_TooDeep, a_TooFew, a_NoText, a_NoRow] 0 := ⟨⟨xga_TooMany, xgt_TooMany, xca_TooMany, xgg, xtk, xob_TooMany, xbe_TooMany, ⟨_, _, _, _, xl_TooMany⟩⟩, xv_TooMany, fun i c h => match i, h with | 0, h => by cases h; exact xk_TooMany_0 | 1, h => by cases h; exact xk_TooMany_1 | 2, h => by cases h; exact xk_TooMany_2 | 3, h => by cases h; exact xk_TooMany_3 | 4, h => by cases h; exact xk_TooMany_4 | 5, h => by cases h; exact xk_TooMany_5 | 6, h => by cases h; exact xk_TooMany_6 | 7, h => by cases h; exact xk_TooMany_7 | 8, h => by cases h; exact xk_TooMany_8 | 9, h => by cases h; exact xk_TooMany_9 | i + 10, h => nomatch h⟩
 have k_NoPoints : IL K "NoPoints" a_NoPoints := ⟨nx_NoPoints, ⟨_, _, _, _, _, _, _, _, _, _, _, _, _, _, _, _, xl_NoPoints⟩, xex_NoPoints⟩
 have xr_NoPoints : Kl K a_NoPoints [a_TooMany, a_NoPoints, a_NoPoint, a_NoNumber, a_NoCurve, a_NoStretch, a_TooDeep, a_TooFew, a_NoText, a_NoRow] 1 := ⟨⟨xga_NoPoints, xgt_NoPoints, xca_NoPoints, xgg, xtk, xob_NoPoints, xbe_NoPoints, ⟨_, _, _, _, xl_NoPoints⟩⟩, xv_NoPoints, fun i c h => match i, h with | 0, h => by cases h; exact xk_NoPoints_0 | 1, h => by cases h; exact xk_NoPoints_1 | 2, h => by cases h; exact xk_NoPoints_2 | 3, h => by cases h; exact xk_NoPoints_3 | 4, h => by cases h; exact xk_NoPoints_4 | 5, h => by cases h; exact xk_NoPoints_5 | 6, h => by cases h; exact xk_NoPoints_6 | 7, h => by cases h; exact xk_NoPoints_7 | 8, h => by cases h; exact xk_NoPoints_8 | 9, h => by cases h; exact xk_NoPoints_9 | i + 10, h => nomatch h⟩
 have k_NoPoint : IL K "NoPoint" a_NoPoint := ⟨nx_NoPoint, ⟨_, _, _, _, _, _, _, _, _, _, _, _, _, _, _, _, xl_NoPoint⟩, xex_NoPoint⟩
 have xr_NoPoint : Kl K a_NoPoint [a_TooMany, a_NoPoints, a_NoPoint, a_NoNumber, a_NoCurve, a_NoStretch, a_TooDeep, a_TooFew, a_NoText, a_NoRow] 2 := ⟨⟨xga_NoPoint, xgt_NoPoint, xca_NoPoint, xgg, xtk, xob_NoPoint, xbe_NoPoint, ⟨_, _, _, _, xl_NoPoint⟩⟩, xv_NoPoint, fun i c h => match i, h with | 0, h => by cases h; exact xk_NoPoint_0 | 1, h => by cases h; exact xk_NoPoint_1 | 2, h => by cases h; exact xk_NoPoint_2 | 3, h => by cases h; exact xk_NoPoint_3 | 4, h => by cases h; exact xk_NoPoint_4 | 5, h => by cases h; exact xk_NoPoint_5 | 6, h => by cases h; exact xk_NoPoint_6 | 7, h => by cases h; exact xk_NoPoint_7 | 8, h => by cases h; exact xk_NoPoint_8 | 9, h => by cases h; exact xk_NoPoint_9 | i + 10, h => nomatch h⟩
 have S5 := fdm w base (Ji F1 Qz hT) B1 k1 (Ur X G a1)
 have QS := fdm w base (Iq F2 hT) B2 k2 (Ur X G a2)
 have R7 := fdm w base (Gi F3 QI hT) B3 k3 (Ur X G a3)
 have S6 := fdm w base (Ip F4 R7 hT) B4 k4 (Ur X G a4)
 have Rr := fdm w base (GZ F5 R7 S6 QS hT) B5 k5 (Ur X G a5)
 have Rt := fdm w base (Gj F6 QS R7 hT) B6 k6 (Ur X G a6)
 have S7 := fdm w base (DR F7 QS Rr Rt QB Qz hT) B7 k7 (Ur X G a7)
 have Ru := fdm w base (Im F8 QC hT) B8 k8 (Ur X G a8)
 have S8 := fdm w base (DQ F9 Ru hT) B9 k9 (Ur X G a9)
 have S9 := fdm w base (Jh F10 QS Rr Rt Qz hT) B10 k10 (Ur X G a10)
 have Sa := fdm w base (Jj F11 QG QH Qz QB b_sum hT) B11 k11 (Ur X G a11)
 have H__law_refusal : FdH l.prog w K mg base 33 "_law_refusal" "_law_caught" (JR K [a_TooMany, a_NoPoints, a_NoPoint, a_NoNumber, a_NoCurve, a_NoStretch, a_TooDeep, a_TooFew, a_NoText, a_NoRow]) := ⟨_, _, ES F12 c_TooMany c_NoPoints c_NoPoint c_NoNumber c_NoCurve c_NoStretch c_TooDeep c_TooFew c_NoText c_NoRow QA Qz QX hT, B12, k12, Ur X G a12⟩
 have Sb := fdm w base (Fv F13 b_zip hT) B13 k13 (Ur X G a13)
 have Sd := fdm w base (Jf F14 QA QG QY hT) B14 k14 (Ur X G a14)
 have Se := fdm w base (Et F15 QI hT) B15 k15 (Ur X G a15)
 have Rv := fdm w base (Il F16 Sd Se QA QB Qz hT) B16 k16 (Ur X G a16)
 have Rw := fdm w base (Gh F17 QE Qz c_FIGURES hT) B17 k17 (Ur X G a17)
 have E_is_top := fdm w base (Lv F18 Rw hT) B18 k18 (Ur X G a18)
 have Rx := fdm w base (Ik F19 Rv E_is_top Rw Qz QG hT) B19 k19 (Ur X G a19)
 have R8 := fdm w base (Es F20 Sb Rx Qz c_SIX hT s_COUNTS_0 s_COUNTS_1 s_COUNTS_2 s_COUNTS_3 s_COUNTS_4 s_COUNTS_5 c_COUNTS d_COUNTS c_LEAST d_LEAST) B20 k20 (Ur X G a20)
 have Sf := fdm w base (Gf F21 QC hT) B21 k21 (Ur X G a21)
 have Sg := fdm w base (GR F22 Sf hT) B22 k22 (Ur X G a22)
 have Sh := fdm w base (Ge F23 Sg hT) B23 k23 (Ur X G a23)
 have R9 := fdm w base (GS F24 Sh hT) B24 k24 (Ur X G a24)
 have Ra := fdm w base (GX F25 Qz b_set hT) B25 k25 (Ur X G a25)
 have Rb := fdm w base (K5 F26 QH Qz hT) B26 k26 (Ur X G a26)
 have Rc := fdm w base (Jg F27 Rv QE QA QB Qz hT) B27 k27 (Ur X G a27)
 have QQ := fdm w base (Er F28 Ra Rb Rc QB QE Qz QA QF c_MOST_TOLD hT) B28 k28 (Ur X G a28)
 have XF_points_of : Ay l.prog w K mg base (CX2 l.prog w) 36 _ _ ["thing"] (E3 K a_NoPoints a_TooMany) := GP (base := base) (w := w) F28 k_NoPoints k_TooMany Ra Rb Rc QB QE Qz QA QF c_MOST_TOLD hT
 have X_points_of : FdY l.prog w K mg base 36 "points_of" ["thing"] (E3 K a_NoPoints a_TooMany) := ⟨_, _, XF_points_of, B28, k28, Ur X G a28⟩
 have Y_points_of : FdY l.prog w K mg base 36 "points_of" ["thing"] (fun vs H Q E => (Cb K : Sp) vs H Q E ∨ (E3 K a_NoPoints a_TooMany : Sp) vs H Q E) := ⟨_, _, (Er F28 Ra Rb Rc QB QE Qz QA QF c_MOST_TOLD hT).calm.or XF_points_of, B28, k28, Ur X G a28⟩
 have Ry := fdm w base (Lu F29 QQ QF hT) B29 k29 (Ur X G a29)
 have XF_put_in : Ay l.prog w K mg base (CX2 l.prog w) 37 _ _ ["points", "point"] (FR K (AB a_TooMany a_NoPoints a_NoPoint)) := K4 (base := base) (w := w) F29 Y_points_of QQ QF hT
 have X_put_in : FdY l.prog w K mg base 37 "put_in" ["points", "point"] (FR K (AB a_TooMany a_NoPoints a_NoPoint)) := ⟨_, _, XF_put_in, B29, k29, Ur X G a29⟩
 have Rg := fdm w base (K6 F30 Ry QB hT) B30 k30 (Ur X G a30)
 have XF_put_row : Ay l.prog w K mg base (CX2 l.prog w) 38 _ _ ["points", "numbers"] (Bj K (AB a_TooMany a_NoPoints a_NoPoint) 0) := Jb (base := base) (w := w) F30 X_put_in Ry QB hT
 have X_put_row : FdY l.prog w K mg base 38 "put_row" ["points", "numbers"] (Bj K (AB a_TooMany a_NoPoints a_NoPoint) 0) := ⟨_, _, XF_put_row, B30, k30, Ur X G a30⟩
 have QN := fdm w base (Je F31 hT) B31 k31 (Ur X G a31)
 have XF_point_at : Ay l.prog w K mg base (CX2 l.prog w) 33 _ _ ["points", "x"] (D0 K (AB a_TooMany a_NoPoints a_NoPoint)) := Ig (base := base) (w := w) F31 k_NoPoint hT
 have X_point_at : FdY l.prog w K mg base 33 "point_at" ["points", "x"] (D0 K (AB a_TooMany a_NoPoints a_NoPoint)) := ⟨_, _, XF_point_at, B31, k31, Ur X G a31⟩
 have Rz := fdm w base (Ii F32 QN QB Qz hT) B32 k32 (Ur X G a32)
 have XF_taken_out : Ay l.prog w K mg base (CX2 l.prog w) 34 _ _ ["points", "x"] (Dp K (AB a_TooMany a_NoPoints a_NoPoint)) := GN (base := base) (w := w) F32 k_NoPoints X_point_at QN QB Qz hT
 have X_taken_out : FdY l.prog w K mg base 34 "taken_out" ["points", "x"] (Dp K (AB a_TooMany a_NoPoints a_NoPoint)) := ⟨_, _, XF_taken_out, B32, k32, Ur X G a32⟩
 have Rh := fdm w base (Jc F33 Rz hT) B33 k33 (Ur X G a33)
 have XF_take_row : Ay l.prog w K mg base (CX2 l.prog w) 35 _ _ ["points", "numbers"] (Bj K (AB a_TooMany a_NoPoints a_NoPoint) 1) := Ic (base := base) (w := w) F33 X_taken_out Rz hT
 have X_take_row : FdY l.prog w K mg base 35 "take_row" ["points", "numbers"] (Bj K (AB a_TooMany a_NoPoints a_NoPoint) 1) := ⟨_, _, XF_take_row, B33, k33, Ur X G a33⟩
 have QT := fdm w base (Jd F34 QQ hT) B34 k34 (Ur X G a34)
 have XF_replaced : Ay l.prog w K mg base (CX2 l.prog w) 37 _ _ ["points", "old", "new"] (DH K (AB a_TooMany a_NoPoints a_NoPoint)) := Ie (base := base) (w := w) F34 Y_points_of QQ hT
 have X_replaced : FdY l.prog w K mg base 37 "replaced" ["points", "old", "new"] (DH K (AB a_TooMany a_NoPoints a_NoPoint)) := ⟨_, _, XF_replaced, B34, k34, Ur X G a34⟩
 have RA := fdm w base (Gd F35 QN QT hT) B35 k35 (Ur X G a35)
 have XF_with_height : Ay l.prog w K mg base (CX2 l.prog w) 38 _ _ ["points", "x", "y"] (Dm K (AB a_TooMany a_NoPoints a_NoPoint)) := Ft (base := base) (w := w) F35 X_point_at X_replaced QN QT hT
 have X_with_height : FdY l.prog w K mg base 38 "with_height" ["points", "x", "y"] (Dm K (AB a_TooMany a_NoPoints a_NoPoint)) := ⟨_, _, XF_with_height, B35, k35, Ur X G a35⟩
 have Ri := fdm w base (GV F36 RA hT) B36 k36 (Ur X G a36)
 have XF_height_row : Ay l.prog w K mg base (CX2 l.prog w) 39 _ _ ["points", "numbers"] (Bj K (AB a_TooMany a_NoPoints a_NoPoint) 2) := Gb (base := base) (w := w) F36 X_with_height RA hT
 have X_height_row : FdY l.prog w K mg base 39 "height_row" ["points", "numbers"] (Bj K (AB a_TooMany a_NoPoints a_NoPoint) 2) := ⟨_, _, XF_height_row, B36, k36, Ur X G a36⟩
 have QU := fdm w base (GQ F37 QN QT hT) B37 k37 (Ur X G a37)
 have XF_with_slope : Ay l.prog w K mg base (CX2 l.prog w) 38 _ _ ["points", "x", "slope"] (CQ K (AB a_TooMany a_NoPoints a_NoPoint)) := Ga (base := base) (w := w) F37 X_point_at X_replaced QN QT hT
 have X_with_slope : FdY l.prog w K mg base 38 "with_slope" ["points", "x", "slope"] (CQ K (AB a_TooMany a_NoPoints a_NoPoint)) := ⟨_, _, XF_with_slope, B37, k37, Ur X G a37⟩
 have Rj := fdm w base (Ij F38 QU hT) B38 k38 (Ur X G a38)
 have XF_slope_row : Ay l.prog w K mg base (CX2 l.prog w) 39 _ _ ["points", "numbers"] (Bj K (AB a_TooMany a_NoPoints a_NoPoint) 3) := GO (base := base) (w := w) F38 X_with_slope QU hT
 have X_slope_row : FdY l.prog w K mg base 39 "slope_row" ["points", "numbers"] (Bj K (AB a_TooMany a_NoPoints a_NoPoint) 3) := ⟨_, _, XF_slope_row, B38, k38, Ur X G a38⟩
 have Rk := fdm w base (Gg F39 QU hT) B39 k39 (Ur X G a39)
 have XF_noslope_row : Ay l.prog w K mg base (CX2 l.prog w) 39 _ _ ["points", "numbers"] (Bj K (AB a_TooMany a_NoPoints a_NoPoint) 4) := Fu (base := base) (w := w) F39 X_with_slope QU hT
 have X_noslope_row : FdY l.prog w K mg base 39 "noslope_row" ["points", "numbers"] (Bj K (AB a_TooMany a_NoPoints a_NoPoint) 4) := ⟨_, _, XF_noslope_row, B39, k39, Ur X G a39⟩
 have RC : FdM CX0 l.prog w K mg base 40 C_Desk "say" ["self", "row"] (FP K C_Desk) := ⟨_, _, Fm F40 t_Desk R8 R9 Rg Rh Ri Rj Rk QA QC hT m_put_row m_take_row m_height_row m_slope_row m_noslope_row c_CHANGES d_CHANGES m_points_row c_ANSWERS d_ANSWERS, B40, ⟨a40, i40, k40⟩⟩
 have XF_Desk_say : Ay l.prog w K mg base (CX2 l.prog w) 40 _ _ ["self", "row"] (EI K (AB a_TooMany a_NoPoints a_NoPoint) C_Desk) := Ih (base := base) (w := w) F40 X_put_row X_take_row X_height_row X_slope_row X_noslope_row t_Desk R8 R9 Rg Rh Ri Rj Rk QA QC hT m_put_row m_take_row m_height_row m_slope_row m_noslope_row c_CHANGES d_CHANGES m_points_row c_ANSWERS d_ANSWERS
 have X_Desk_say : FdM (CX2 l.prog w) l.prog w K mg base 40 C_Desk "say" ["self", "row"] (EI K (AB a_TooMany a_NoPoints a_NoPoint) C_Desk) := ⟨_, _, XF_Desk_say, B40, ⟨a40, i40, k40⟩⟩
 have Y_Desk_say : FdM (CX2 l.prog w) l.prog w K mg base 40 C_Desk "say" ["self", "row"] (fun vs H Q E => (FP K C_Desk : Sp) vs H Q E ∨ (EI K (AB a_TooMany a_NoPoints a_NoPoint) C_Desk : Sp) vs H Q E) := ⟨_, _, (Fm F40 t_Desk R8 R9 Rg Rh Ri Rj Rk QA QC hT m_put_row m_take_row m_height_row m_slope_row m_noslope_row c_CHANGES d_CHANGES m_points_row c_ANSWERS d_ANSWERS).calm.or XF_Desk_say, B40, ⟨a40, i40, k40⟩⟩
 have Si := fdm w base (Io F41 t_Desk c_CurveError xm_TooMany xr_TooMany xm_NoPoints xr_NoPoints xm_NoPoint xr_NoPoint H__law_refusal Y_Desk_say RC hT) B41 k41 (Ur X G a41)
 have Sj := fdm w base (GY F42 Ru hT) B42 k42 (Ur X G a42)
 have Sk := fdm w base (GW F43 QA QC hT) B43 k43 (Ur X G a43)
 have Sl := fdm w base (GU F44 Rx hT) B44 k44 (Ur X G a44)
 have Sm := fdm w base (Ep F45 Sk QQ Sl QB Qz hT) B45 k45 (Ur X G a45)
 have Sn : FdI CX0 l.prog w K mg base 38 C_Desk "Desk" ["self", "text"] (FE K C_Desk) := ⟨_, _, Ir F46 t_Desk Sm c_SIX hT, B46, ⟨mk_Desk, a46, i46, kc_Desk⟩, Ur X G aC_Desk⟩
 exact OE F47 t_Desk S5 S7 S8 S9 Sa Si Sj Sn RC QH QA QC hT
theorem Qf {l : U4} {q : Program} {loose : List Str} {XP : (Str → Option Value) → Heap → Prop} {YP : World → Heap → Prop} {d : DefRec} {K : Params → SE} (hI : PyProof.Rows.importsNone q = true) (hn : l.most = some 63) (hdf : d.params.defaults = [])
 (hY : ∀ (w : World) (h : Heap), YP w h → (K w.params).In h)
 (F : ∀ (w : World) (mg : Str → Option Value) (fa : Addr) (h : Heap), (K w.params).In h → h.Ns mainGlobals mg → mg d.name = some (.ref fa) →
  ∃ fd : FuncData, (∀ (s : Shared) (u : Value), BindsTo s fd ⟨[u], []⟩ [("_law_script", u)]) ∧ ∀ base : Heap, (K w.params).In base → base.Ns mainGlobals mg → Ay l.prog w (K w.params) mg base CX0 42 fa fd ["_law_script"] ((fun (K : SE) => (IZ K : Sp)) (K w.params))) :
 PySem.W.WalkO q loose XP YP l.row.toRowW d [] (fun f vs => PySem.call f vs) :=
 L2.N9 (n := 63) (k := 42) (x := "_law_script") (CX := fun _ => CX0) (sp := fun w => (fun (K : SE) => (IZ K : Sp)) (K w.params)) hI hn (by decide) hdf ⟨rfl, by decide, by decide⟩ hY F (fun _ _ a ns hl _ hS => ⟨a, ns, rfl, hS, hl, fun _ => rfl⟩) fun _ _ _ _ _ z => z
end Pf
open PySem PySem.W PyProof.Rows
set_option maxRecDepth 100000 in
set_option maxHeartbeats 0 in
theorem PySem.Challenge.cw_onecurve_k64_points_changed_at_a_desk_holds : PySem.Challenge.rw_onecurve_k64_points_changed_at_a_desk.Holds := by
 refine zzH ?_
 k_fill
 refine Pf.Qf (l := PySem.Challenge.rw_onecurve_k64_points_changed_at_a_desk) (by decide +kernel) rfl rfl (fun w h Y => PySem.W.km_in_of Y) ?F
 case F =>
  intro w mg fa h KX G hmg
  refine' Pf.P8 rfl KX G hmg ?aC_Desk ?a1 ?l1 ?c1 ?k1 ?a2 ?l2 ?c2 ?k2 ?a3 ?l3 ?c3 ?k3 ?a4 ?l4 ?c4 ?k4 ?a5 ?l5 ?c5 ?k5 ?a6 ?l6 ?c6 ?k6 ?a7 ?l7 ?c7 ?k7 ?a8 ?l8 ?c8 ?k8 ?a9 ?l9 ?c9 ?k9 ?a10 ?l10 ?c10 ?k10 ?a11 ?l11 ?c11 ?k11 ?a12 ?l12 ?c12 ?k12 ?a13 ?l13 ?c13 ?k13 ?a14 ?l14 ?c14 ?k14 ?a15 ?l15 ?c15 ?k15 ?a16 ?l16 ?c16 ?k16 ?a17 ?l17 ?c17 ?k17 ?a18 ?l18 ?c18 ?k18 ?a19 ?l19 ?c19 ?k19 ?a20 ?l20 ?c20 ?k20 ?a21 ?l21 ?c21 ?k21 ?a22 ?l22 ?c22 ?k22 ?a23 ?l23 ?c23 ?k23 ?a24 ?l24 ?c24 ?k24 ?a25 ?l25 ?c25 ?k25 ?a26 ?l26 ?c26 ?k26 ?a27 ?l27 ?c27 ?k27 ?a28 ?l28 ?c28 ?k28 ?a29 ?l29 ?c29 ?k29 ?a30 ?l30 ?c30 ?k30 ?a31 ?l31 ?c31 ?k31 ?a32 ?l32 ?c32 ?k32 ?a33 ?l33 ?c33 ?k33 ?a34 ?l34 ?c34 ?k34 ?a35 ?l35 ?c35 ?k35 ?a36 ?l36 ?c36 ?k36 ?a37 ?l37 ?c37 ?k37 ?a38 ?l38 ?c38 ?k38 ?a39 ?l39 ?c39 ?k39 ?a40 ?i40 ?l40 ?c40 ?k40 ?a41 ?l41 ?c41 ?k41 ?a42 ?l42 ?c42 ?k42 ?a43 ?l43 ?c43 ?k43 ?a44 ?l44 ?c44 ?k44 ?a45 ?l45 ?c45 ?k45 ?a46 ?i46 ?l46 ?c46 ?k46 ?a47 ?l47 ?c47 ?k47 ?z_len ?z_abs ?z_tuple ?z_str ?z_int ?z_range ?z_sum ?z_isinstance ?z_ValueError ?z_zip ?z_bool ?z_all ?z_set ?z_list ?x_FIGURES ?x_SIX ?x_MOST_TOLD ?nx_CurveError ?nx_TooMany ?nx_NoPoints ?nx_NoPoint ?nx_NoNumber ?nx_NoCurve ?nx_NoStretch ?nx_TooDeep ?nx_TooFew ?nx_NoText ?nx_NoRow ?xl_TooMany ?xex_TooMany ?xga_TooMany ?xgt_TooMany ?xca_TooMany ?xob_TooMany ?xbe_TooMany ?xm_TooMany ?xv_TooMany ?xk_TooMany_0 ?xk_TooMany_1 ?xk_TooMany_2 ?xk_TooMany_3 ?xk_TooMany_4 ?xk_TooMany_5 ?xk_TooMany_6 ?xk_TooMany_7 ?xk_TooMany_8 ?xk_TooMany_9 ?xl_NoPoints ?xex_NoPoints ?xga_NoPoints ?xgt_NoPoints ?xca_NoPoints ?xob_NoPoints ?xbe_NoPoints ?xm_NoPoints ?xv_NoPoints ?xk_NoPoints_0 ?xk_NoPoints_1 ?xk_NoPoints_2 ?xk_NoPoints_3 ?xk_NoPoints_4 ?xk_NoPoints_5 ?xk_NoPoints_6 ?xk_NoPoints_7 ?xk_NoPoints_8 ?xk_NoPoints_9 ?xl_NoPoint ?xex_NoPoint ?xga_NoPoint ?xgt_NoPoint ?xca_NoPoint ?xob_NoPoint ?xbe_NoPoint ?xm_NoPoint ?xv_NoPoint ?xk_NoPoint_0 ?xk_NoPoint_1 ?xk_NoPoint_2 ?xk_NoPoint_3 ?xk_NoPoint_4 ?xk_NoPoint_5 ?xk_NoPoint_6 ?xk_NoPoint_7 ?xk_NoPoint_8 ?xk_NoPoint_9 ?xgg ?xtk ?pg_Desk ?hd_Desk ?po_Desk ?sa_Desk ?mk_Desk ?kc_Desk ?na_points_Desk ?nx_COUNTS ?yd_COUNTS ?hs_COUNTS ?y_COUNTS_0 ?w_COUNTS_0 ?d_COUNTS_0 ?e_COUNTS_0 ?y_COUNTS_1 ?w_COUNTS_1 ?d_COUNTS_1 ?e_COUNTS_1 ?y_COUNTS_2 ?w_COUNTS_2 ?d_COUNTS_2 ?e_COUNTS_2 ?y_COUNTS_3 ?w_COUNTS_3 ?d_COUNTS_3 ?e_COUNTS_3 ?y_COUNTS_4 ?w_COUNTS_4 ?d_COUNTS_4 ?e_COUNTS_4 ?y_COUNTS_5 ?w_COUNTS_5 ?d_COUNTS_5 ?e_COUNTS_5 ?nx_LEAST ?yd_LEAST ?hs_LEAST ?nx_CHANGES ?yd_CHANGES ?hs_CHANGES ?nx_ANSWERS ?yd_ANSWERS ?hs_ANSWERS
  (case aC_Desk => k_is)
  (case a1 => k_is)
  (case l1 => k_is)
  (case c1 => k_is)
  (case k1 => k_is)
  (case a2 => k_is)
  (case l2 => k_is)
  (case c2 => k_is)
  (case k2 => k_is)
  (case a3 => k_is)
  (case l3 => k_is)
  (case c3 => k_is)
  (case k3 => k_is)
  (case a4 => k_is)
  (case l4 => k_is)
  (case c4 => k_is)
  (case k4 => k_is)
  (case a5 => k_is)
  (case l5 => k_is)
  (case c5 => k_is)
  (case k5 => k_is)
  (case a6 => k_is)
  (case l6 => k_is)
  (case c6 => k_is)
  (case k6 => k_is)
  (case a7 => k_is)
  (case l7 => k_is)
  (case c7 => k_is)
  (case k7 => k_is)
  (case a8 => k_is)
  (case l8 => k_is)
  (case c8 => k_is)
  (case k8 => k_is)
  (case a9 => k_is)
  (case l9 => k_is)
  (case c9 => k_is)
  (case k9 => k_is)
  (case a10 => k_is)
  (case l10 => k_is)
  (case c10 => k_is)
  (case k10 => k_is)
  (case a11 => k_is)
  (case l11 => k_is)
  (case c11 => k_is)
  (case k11 => k_is)
  (case a12 => k_is)
  (case l12 => k_is)
  (case c12 => k_is)
  (case k12 => k_is)
  (case a13 => k_is)
  (case l13 => k_is)
  (case c13 => k_is)
  (case k13 => k_is)
  (case a14 => k_is)
  (case l14 => k_is)
  (case c14 => k_is)
  (case k14 => k_is)
  (case a15 => k_is)
  (case l15 => k_is)
  (case c15 => k_is)
  (case k15 => k_is)
  (case a16 => k_is)
  (case l16 => k_is)
  (case c16 => k_is)
  (case k16 => k_is)
  (case a17 => k_is)
  (case l17 => k_is)
  (case c17 => k_is)
  (case k17 => k_is)
  (case a18 => k_is)
  (case l18 => k_is)
  (case c18 => k_is)
  (case k18 => k_is)
  (case a19 => k_is)
  (case l19 => k_is)
  (case c19 => k_is)
  (case k19 => k_is)
  (case a20 => k_is)
  (case l20 => k_is)
  (case c20 => k_is)
  (case k20 => k_is)
  (case a21 => k_is)
  (case l21 => k_is)
  (case c21 => k_is)
  (case k21 => k_is)
  (case a22 => k_is)
  (case l22 => k_is)
  (case c22 => k_is)
  (case k22 => k_is)
  (case a23 => k_is)
  (case l23 => k_is)
  (case c23 => k_is)
  (case k23 => k_is)
  (case a24 => k_is)
  (case l24 => k_is)
  (case c24 => k_is)
  (case k24 => k_is)
  (case a25 => k_is)
  (case l25 => k_is)
  (case c25 => k_is)
  (case k25 => k_is)
  (case a26 => k_is)
  (case l26 => k_is)
  (case c26 => k_is)
  (case k26 => k_is)
  (case a27 => k_is)
  (case l27 => k_is)
  (case c27 => k_is)
  (case k27 => k_is)
  (case a28 => k_is)
  (case l28 => k_is)
  (case c28 => k_is)
  (case k28 => k_is)
  (case a29 => k_is)
  (case l29 => k_is)
  (case c29 => k_is)
  (case k29 => k_is)
  (case a30 => k_is)
  (case l30 => k_is)
  (case c30 => k_is)
  (case k30 => k_is)
  (case a31 => k_is)
  (case l31 => k_is)
  (case c31 => k_is)
  (case k31 => k_is)
  (case a32 => k_is)
  (case l32 => k_is)
  (case c32 => k_is)
  (case k32 => k_is)
  (case a33 => k_is)
  (case l33 => k_is)
  (case c33 => k_is)
  (case k33 => k_is)
  (case a34 => k_is)
  (case l34 => k_is)
  (case c34 => k_is)
  (case k34 => k_is)
  (case a35 => k_is)
  (case l35 => k_is)
  (case c35 => k_is)
  (case k35 => k_is)
  (case a36 => k_is)
  (case l36 => k_is)
  (case c36 => k_is)
  (case k36 => k_is)
  (case a37 => k_is)
  (case l37 => k_is)
  (case c37 => k_is)
  (case k37 => k_is)
  (case a38 => k_is)
  (case l38 => k_is)
  (case c38 => k_is)
  (case k38 => k_is)
  (case a39 => k_is)
  (case l39 => k_is)
  (case c39 => k_is)
  (case k39 => k_is)
  (case a40 => k_is)
  (case i40 => k_is)
  (case l40 => k_is)
  (case c40 => k_is)
  (case k40 => k_is)
  (case a41 => k_is)
  (case l41 => k_is)
  (case c41 => k_is)
  (case k41 => k_is)
  (case a42 => k_is)
  (case l42 => k_is)
  (case c42 => k_is)
  (case k42 => k_is)
  (case a43 => k_is)
  (case l43 => k_is)
  (case c43 => k_is)
  (case k43 => k_is)
  (case a44 => k_is)
  (case l44 => k_is)
  (case c44 => k_is)
  (case k44 => k_is)
  (case a45 => k_is)
  (case l45 => k_is)
  (case c45 => k_is)
  (case k45 => k_is)
  (case a46 => k_is)
  (case i46 => k_is)
  (case l46 => k_is)
  (case c46 => k_is)
  (case k46 => k_is)
  (case a47 => k_is)
  (case l47 => k_is)
  (case c47 => k_is)
  (case k47 => k_is)
  (case z_len => k_is)
  (case z_abs => k_is)
  (case z_tuple => k_is)
  (case z_str => k_is)
  (case z_int => k_is)
  (case z_range => k_is)
  (case z_sum => k_is)
  (case z_isinstance => k_is)
  (case z_ValueError => k_is)
  (case z_zip => k_is)
  (case z_bool => k_is)
  (case z_all => k_is)
  (case z_set => k_is)
  (case z_list => k_is)
  (case x_FIGURES => k_is)
  (case x_SIX => k_is)
  (case x_MOST_TOLD => k_is)
  (case nx_CurveError => k_is)
  (case nx_TooMany => k_is)
  (case nx_NoPoints => k_is)
  (case nx_NoPoint => k_is)
  (case nx_NoNumber => k_is)
  (case nx_NoCurve => k_is)
  (case nx_NoStretch => k_is)
  (case nx_TooDeep => k_is)
  (case nx_TooFew => k_is)
  (case nx_NoText => k_is)
  (case nx_NoRow => k_is)
  (case xl_TooMany => k_is)
  (case xex_TooMany => k_exc)
  (case xga_TooMany => k_is)
  (case xgt_TooMany => k_is)
  (case xca_TooMany => k_is)
  (case xob_TooMany => k_is)
  (case xbe_TooMany => k_is)
  (case xm_TooMany => kts_exm)
  (case xv_TooMany => kit_is)
  (case xk_TooMany_0 => kit_is)
  (case xk_TooMany_1 => kit_is)
  (case xk_TooMany_2 => kit_is)
  (case xk_TooMany_3 => kit_is)
  (case xk_TooMany_4 => kit_is)
  (case xk_TooMany_5 => kit_is)
  (case xk_TooMany_6 => kit_is)
  (case xk_TooMany_7 => kit_is)
  (case xk_TooMany_8 => kit_is)
  (case xk_TooMany_9 => kit_is)
  (case xl_NoPoints => k_is)
  (case xex_NoPoints => k_exc)
  (case xga_NoPoints => k_is)
  (case xgt_NoPoints => k_is)
  (case xca_NoPoints => k_is)
  (case xob_NoPoints => k_is)
  (case xbe_NoPoints => k_is)
  (case xm_NoPoints => kts_exm)
  (case xv_NoPoints => kit_is)
  (case xk_NoPoints_0 => kit_is)
  (case xk_NoPoints_1 => kit_is)
  (case xk_NoPoints_2 => kit_is)
  (case xk_NoPoints_3 => kit_is)
  (case xk_NoPoints_4 => kit_is)
  (case xk_NoPoints_5 => kit_is)
  (case xk_NoPoints_6 => kit_is)
  (case xk_NoPoints_7 => kit_is)
  (case xk_NoPoints_8 => kit_is)
  (case xk_NoPoints_9 => kit_is)
  (case xl_NoPoint => k_is)
  (case xex_NoPoint => k_exc)
  (case xga_NoPoint => k_is)
  (case xgt_NoPoint => k_is)
  (case xca_NoPoint => k_is)
  (case xob_NoPoint => k_is)
  (case xbe_NoPoint => k_is)
  (case xm_NoPoint => kts_exm)
  (case xv_NoPoint => kit_is)
  (case xk_NoPoint_0 => kit_is)
  (case xk_NoPoint_1 => kit_is)
  (case xk_NoPoint_2 => kit_is)
  (case xk_NoPoint_3 => kit_is)
  (case xk_NoPoint_4 => kit_is)
  (case xk_NoPoint_5 => kit_is)
  (case xk_NoPoint_6 => kit_is)
  (case xk_NoPoint_7 => kit_is)
  (case xk_NoPoint_8 => kit_is)
  (case xk_NoPoint_9 => kit_is)
  (case xgg => k_is)
  (case xtk => k_is)
  (case pg_Desk => first | k_is | rfl)
  (case hd_Desk => first | k_is | rfl)
  (case po_Desk => first | k_is | rfl)
  (case sa_Desk => first | k_is | rfl)
  (case mk_Desk => first | k_is | rfl)
  (case kc_Desk => first | k_is | rfl)
  (case na_points_Desk => first | k_is | rfl)
  (case nx_COUNTS => first | k_is | rfl)
  (case yd_COUNTS => first | k_is | rfl)
  (case hs_COUNTS => rfl)
  (case y_COUNTS_0 => first | k_is | rfl)
  (case w_COUNTS_0 => rfl)
  (case d_COUNTS_0 => rfl)
  (case e_COUNTS_0 => rfl)
  (case y_COUNTS_1 => first | k_is | rfl)
  (case w_COUNTS_1 => rfl)
  (case d_COUNTS_1 => rfl)
  (case e_COUNTS_1 => rfl)
  (case y_COUNTS_2 => first | k_is | rfl)
  (case w_COUNTS_2 => rfl)
  (case d_COUNTS_2 => rfl)
  (case e_COUNTS_2 => rfl)
  (case y_COUNTS_3 => first | k_is | rfl)
  (case w_COUNTS_3 => rfl)
  (case d_COUNTS_3 => rfl)
  (case e_COUNTS_3 => rfl)
  (case y_COUNTS_4 => first | k_is | rfl)
  (case w_COUNTS_4 => rfl)
  (case d_COUNTS_4 => rfl)
  (case e_COUNTS_4 => rfl)
  (case y_COUNTS_5 => first | k_is | rfl)
  (case w_COUNTS_5 => rfl)
  (case d_COUNTS_5 => rfl)
  (case e_COUNTS_5 => rfl)
  (case nx_LEAST => first | k_is | rfl)
  (case yd_LEAST => first | k_is | rfl)
  (case hs_LEAST => rfl)
  (case nx_CHANGES => first | k_is | rfl)
  (case yd_CHANGES => first | k_is | rfl)
  (case hs_CHANGES => rfl)
  (case nx_ANSWERS => first | k_is | rfl)
  (case yd_ANSWERS => first | k_is | rfl)
  (case hs_ANSWERS => rfl)
#print axioms PySem.Challenge.cw_onecurve_k64_points_changed_at_a_desk_holds
