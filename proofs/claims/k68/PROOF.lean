import PyProof.Rows.All
import Wide.All
import OpenK.AllK
import Wide.FinOn
import HandS.ForExc
import HandS.ForMost
import HandS.TupAny
import HandS.IsInst
import HandS.Codes
import HandS.FStr
import HandS.Zip
import HandS.TupSets
import HandS.SetFor
import HandS.Strs
import HandS.More
import HandS.DictComp
import HandS.Walk
import HandS.Conv
import PyProof.Draws
import HandS.Iter
import KE.GoesMore
import HandS.AnyAll
import HandS.EndOwn
import PyProof.GenCompD
import KE.DataMinMax
import KE.KxIndex
import PySem.Challenge.RW_neverleaves_k68_whole_plays_stay_or_come
set_option Elab.async false
set_option linter.all false
set_option maxRecDepth 100000

namespace NL
open PySem PySem.Spec PyProof.Rows L2
def topS (i : Nat) : Stmt := PySem.Challenge.pw_neverleaves_k68_whole_plays_stay_or_come.main.body.getD i (.Pass ⟨0, 0, 0, 0⟩)
abbrev shas_option : Stmt := topS 2
abbrev Nhas_option : List Str := ["label"]
abbrev Phas_option : List Str := ["label"]
theorem schas_option : FnScope Nhas_option Phas_option (defScope shas_option) := ⟨rfl, rfl, rfl, by decide +kernel, rfl, by decide +kernel, by decide +kernel⟩
abbrev sis_end : Stmt := topS 3
abbrev Nis_end : List Str := ["label"]
abbrev Pis_end : List Str := ["label"]
theorem scis_end : FnScope Nis_end Pis_end (defScope sis_end) := ⟨rfl, rfl, rfl, by decide +kernel, rfl, by decide +kernel, by decide +kernel⟩
abbrev splay_on : Stmt := topS 5
abbrev Nplay_on : List Str := ["arena", "start", "options", "replies", "positions", "index", "reply", "here"]
abbrev Pplay_on : List Str := ["arena", "start", "options", "replies"]
theorem scplay_on : FnScope Nplay_on Pplay_on (defScope splay_on) := ⟨rfl, rfl, rfl, by decide +kernel, rfl, by decide +kernel, by decide +kernel⟩
abbrev sfollow : Stmt := topS 6
abbrev Nfollow : List Str := ["arena", "paper", "start", "picks", "positions", "pick", "label", "options"]
abbrev Pfollow : List Str := ["arena", "paper", "start", "picks"]
theorem scfollow : FnScope Nfollow Pfollow (defScope sfollow) := ⟨rfl, rfl, rfl, by decide +kernel, rfl, by decide +kernel, by decide +kernel⟩
abbrev s_next_by : Stmt := topS 7
abbrev N_next_by : List Str := ["label", "options", "pick", "successors"]
abbrev P_next_by : List Str := ["label", "options", "pick"]
theorem sc_next_by : FnScope N_next_by P_next_by (defScope s_next_by) := ⟨rfl, rfl, rfl, by decide +kernel, rfl, by decide +kernel, by decide +kernel⟩
abbrev sforces : Stmt := topS 11
abbrev Nforces : List Str := ["side", "options", "marks", "option"]
abbrev Pforces : List Str := ["side", "options", "marks"]
theorem scforces : FnScope Nforces Pforces (defScope sforces) := ⟨rfl, rfl, rfl, by decide +kernel, rfl, by decide +kernel, by decide +kernel⟩
abbrev s_all_marked : Stmt := topS 12
abbrev N_all_marked : List Str := ["option", "marks", "after"]
abbrev P_all_marked : List Str := ["option", "marks"]
theorem sc_all_marked : FnScope N_all_marked P_all_marked (defScope s_all_marked) := ⟨rfl, rfl, rfl, by decide +kernel, rfl, by decide +kernel, by decide +kernel⟩
abbrev s_some_marked : Stmt := topS 13
abbrev N_some_marked : List Str := ["option", "marks", "after"]
abbrev P_some_marked : List Str := ["option", "marks"]
theorem sc_some_marked : FnScope N_some_marked P_some_marked (defScope s_some_marked) := ⟨rfl, rfl, rfl, by decide +kernel, rfl, by decide +kernel, by decide +kernel⟩
abbrev ssteps_to : Stmt := topS 14
abbrev Nsteps_to : List Str := ["arena", "side", "marks", "among", "reached", "steps", "many", "grows", "found", "at"]
abbrev Psteps_to : List Str := ["arena", "side", "marks", "among"]
theorem scsteps_to : FnScope Nsteps_to Psteps_to (defScope ssteps_to) := ⟨rfl, rfl, rfl, by decide +kernel, rfl, by decide +kernel, by decide +kernel⟩
abbrev scolour_owners : Stmt := topS 16
abbrev Ncolour_owners : List Str := ["arena", "colours"]
abbrev Pcolour_owners : List Str := ["arena", "colours"]
theorem sccolour_owners : FnScope Ncolour_owners Pcolour_owners (defScope scolour_owners) := ⟨rfl, rfl, rfl, by decide +kernel, rfl, by decide +kernel, by decide +kernel⟩
abbrev ssettle : Stmt := topS 17
abbrev Nsettle : List Str := ["arena", "colours", "owners", "settled", "open_ones", "at", "owner", "top", "side", "guess", "lost"]
abbrev Psettle : List Str := ["arena", "colours", "owners"]
theorem scsettle : FnScope Nsettle Psettle (defScope ssettle) := ⟨rfl, rfl, rfl, by decide +kernel, rfl, by decide +kernel, by decide +kernel⟩
abbrev s_take_near : Stmt := topS 18
abbrev N_take_near : List Str := ["arena", "owners", "side", "open_ones", "at", "owner", "marks"]
abbrev P_take_near : List Str := ["arena", "owners"]
theorem sc_take_near : FnScope N_take_near P_take_near (defScope s_take_near) := ⟨rfl, rfl, rfl, by decide +kernel, rfl, by decide +kernel, by decide +kernel⟩
abbrev sleast_measures : Stmt := topS 21
abbrev Nleast_measures : List Str := ["arena", "colours", "side", "owned", "measures", "at", "groups", "colour", "less", "parts", "group", "entries", "entry"]
abbrev Pleast_measures : List Str := ["arena", "colours", "side", "owned"]
theorem scleast_measures : FnScope Nleast_measures Pleast_measures (defScope sleast_measures) := ⟨rfl, rfl, rfl, by decide +kernel, rfl, by decide +kernel, by decide +kernel⟩
abbrev s_entries_in : Stmt := topS 22
abbrev N_entries_in : List Str := ["arena", "colours", "side", "colour", "group", "less", "at", "entries", "marks", "entry", "open_ones", "passed"]
abbrev P_entries_in : List Str := ["arena", "colours", "side", "colour", "group", "less"]
theorem sc_entries_in : FnScope N_entries_in P_entries_in (defScope s_entries_in) := ⟨rfl, rfl, rfl, by decide +kernel, rfl, by decide +kernel, by decide +kernel⟩
abbrev s_is_ended : Stmt := topS 23
abbrev N_is_ended : List Str := ["options", "option"]
abbrev P_is_ended : List Str := ["options"]
theorem sc_is_ended : FnScope N_is_ended P_is_ended (defScope s_is_ended) := ⟨rfl, rfl, rfl, by decide +kernel, rfl, by decide +kernel, by decide +kernel⟩
abbrev s_won_without : Stmt := topS 24
abbrev N_won_without : List Str := ["arena", "colours", "side", "open_ones", "marks", "owners", "mark", "at"]
abbrev P_won_without : List Str := ["arena", "colours", "side", "open_ones", "marks"]
theorem sc_won_without : FnScope N_won_without P_won_without (defScope s_won_without) := ⟨rfl, rfl, rfl, by decide +kernel, rfl, by decide +kernel, by decide +kernel⟩
abbrev sstay_ranks : Stmt := topS 28
abbrev Nstay_ranks : List Str := ["arena", "keep", "at"]
abbrev Pstay_ranks : List Str := ["arena", "keep"]
theorem scstay_ranks : FnScope Nstay_ranks Pstay_ranks (defScope sstay_ranks) := ⟨rfl, rfl, rfl, by decide +kernel, rfl, by decide +kernel, by decide +kernel⟩
abbrev scome_ranks : Stmt := topS 29
abbrev Ncome_ranks : List Str := ["arena", "home", "at"]
abbrev Pcome_ranks : List Str := ["arena", "home"]
theorem sccome_ranks : FnScope Ncome_ranks Pcome_ranks (defScope scome_ranks) := ⟨rfl, rfl, rfl, by decide +kernel, rfl, by decide +kernel, by decide +kernel⟩
abbrev s_ranks_to : Stmt := topS 30
abbrev N_ranks_to : List Str := ["arena", "side", "marks", "steps", "at", "mark"]
abbrev P_ranks_to : List Str := ["arena", "side", "marks"]
theorem sc_ranks_to : FnScope N_ranks_to P_ranks_to (defScope s_ranks_to) := ⟨rfl, rfl, rfl, by decide +kernel, rfl, by decide +kernel, by decide +kernel⟩
abbrev sleast_credits : Stmt := topS 32
abbrev Nleast_credits : List Str := ["arena", "gains"]
abbrev Pleast_credits : List Str := ["arena", "gains"]
theorem scleast_credits : FnScope Nleast_credits Pleast_credits (defScope sleast_credits) := ⟨rfl, rfl, rfl, by decide +kernel, rfl, by decide +kernel, by decide +kernel⟩
abbrev sleast_loads : Stmt := topS 33
abbrev Nleast_loads : List Str := ["arena", "gains", "many", "losses", "gain", "row"]
abbrev Pleast_loads : List Str := ["arena", "gains"]
theorem scleast_loads : FnScope Nleast_loads Pleast_loads (defScope sleast_loads) := ⟨rfl, rfl, rfl, by decide +kernel, rfl, by decide +kernel, by decide +kernel⟩
abbrev s_scaled : Stmt := topS 34
abbrev N_scaled : List Str := ["gains", "factor", "gain", "row"]
abbrev P_scaled : List Str := ["gains"]
theorem sc_scaled : FnScope N_scaled P_scaled (defScope s_scaled) := ⟨rfl, rfl, rfl, by decide +kernel, rfl, by decide +kernel, by decide +kernel⟩
abbrev s_least_values : Stmt := topS 38
abbrev N_least_values : List Str := ["picks", "many", "most", "row", "gain", "given_up", "values", "value"]
abbrev P_least_values : List Str := ["picks"]
theorem sc_least_values : FnScope N_least_values P_least_values (defScope s_least_values) := ⟨rfl, rfl, rfl, by decide +kernel, rfl, by decide +kernel, by decide +kernel⟩
abbrev svalues_of_rows : Stmt := topS 39
abbrev Nvalues_of_rows : List Str := ["rows", "given_up", "values", "order", "_", "changed", "at", "value", "after", "gain", "option"]
abbrev Pvalues_of_rows : List Str := ["rows", "given_up"]
theorem scvalues_of_rows : FnScope Nvalues_of_rows Pvalues_of_rows (defScope svalues_of_rows) := ⟨rfl, rfl, rfl, by decide +kernel, rfl, by decide +kernel, by decide +kernel⟩
abbrev stold_paper : Stmt := topS 41
abbrev Ntold_paper : List Str := ["arena", "goal", "drafts", "fitting", "at", "draft"]
abbrev Ptold_paper : List Str := ["arena", "goal"]
theorem sctold_paper : FnScope Ntold_paper Ptold_paper (defScope stold_paper) := ⟨rfl, rfl, rfl, by decide +kernel, rfl, by decide +kernel, by decide +kernel⟩
abbrev s_drafts : Stmt := topS 42
abbrev N_drafts : List Str := ["arena", "goal", "kind", "told", "ranks", "rank"]
abbrev P_drafts : List Str := ["arena", "goal"]
theorem sc_drafts : FnScope N_drafts P_drafts (defScope s_drafts) := ⟨rfl, rfl, rfl, by decide +kernel, rfl, by decide +kernel, by decide +kernel⟩
abbrev s_tank_drafts : Stmt := topS 43
abbrev N_tank_drafts : List Str := ["arena", "gains", "drafts", "credit", "load"]
abbrev P_tank_drafts : List Str := ["arena", "gains"]
theorem sc_tank_drafts : FnScope N_tank_drafts P_tank_drafts (defScope s_tank_drafts) := ⟨rfl, rfl, rfl, by decide +kernel, rfl, by decide +kernel, by decide +kernel⟩
abbrev s_colour_drafts : Stmt := topS 44
abbrev N_colour_drafts : List Str := ["arena", "colours", "sides", "drafts", "kind", "side", "owned", "at", "measures"]
abbrev P_colour_drafts : List Str := ["arena", "colours"]
theorem sc_colour_drafts : FnScope N_colour_drafts P_colour_drafts (defScope s_colour_drafts) := ⟨rfl, rfl, rfl, by decide +kernel, rfl, by decide +kernel, by decide +kernel⟩
abbrev s_pick : Stmt := topS 45
abbrev N_pick : List Str := ["fitting", "at", "draft", "options", "index"]
abbrev P_pick : List Str := ["fitting", "at"]
theorem sc_pick : FnScope N_pick P_pick (defScope s_pick) := ⟨rfl, rfl, rfl, by decide +kernel, rfl, by decide +kernel, by decide +kernel⟩
abbrev s_option : Stmt := topS 46
abbrev N_option : List Str := ["fitting", "at", "index"]
abbrev P_option : List Str := ["fitting", "at"]
theorem sc_option : FnScope N_option P_option (defScope s_option) := ⟨rfl, rfl, rfl, by decide +kernel, rfl, by decide +kernel, by decide +kernel⟩
abbrev s_reply : Stmt := topS 47
abbrev N_reply : List Str := ["fitting", "at", "index", "right", "after"]
abbrev P_reply : List Str := ["fitting", "at", "index"]
theorem sc_reply : FnScope N_reply P_reply (defScope s_reply) := ⟨rfl, rfl, rfl, by decide +kernel, rfl, by decide +kernel, by decide +kernel⟩
abbrev s_law_draws : Stmt := topS 49
abbrev N_law_draws : List Str := ["script", "many", "cells", "cell", "rest", "draws", "k", "at", "once"]
abbrev P_law_draws : List Str := ["script", "many"]
theorem sc_law_draws : FnScope N_law_draws P_law_draws (defScope s_law_draws) := ⟨rfl, rfl, rfl, by decide +kernel, rfl, by decide +kernel, by decide +kernel⟩
abbrev s_law_take : Stmt := topS 50
abbrev N_law_take : List Str := ["draws", "many"]
abbrev P_law_take : List Str := ["draws", "many"]
theorem sc_law_take : FnScope N_law_take P_law_take (defScope s_law_take) := ⟨rfl, rfl, rfl, by decide +kernel, rfl, by decide +kernel, by decide +kernel⟩
abbrev s_law_great : Stmt := topS 51
abbrev N_law_great : List Str := ["draws", "size", "a", "b", "c", "bad", "arena", "k", "options"]
abbrev P_law_great : List Str := ["draws"]
theorem sc_law_great : FnScope N_law_great P_law_great (defScope s_law_great) := ⟨rfl, rfl, rfl, by decide +kernel, rfl, by decide +kernel, by decide +kernel⟩
abbrev s_law_arena : Stmt := topS 52
abbrev N_law_arena : List Str := ["draws", "most", "shape", "rare", "menu", "count", "arena", "k", "options", "j", "found", "i", "drawn", "successor", "at", "more"]
abbrev P_law_arena : List Str := ["draws", "most"]
theorem sc_law_arena : FnScope N_law_arena P_law_arena (defScope s_law_arena) := ⟨rfl, rfl, rfl, by decide +kernel, rfl, by decide +kernel, by decide +kernel⟩
abbrev s_law_some : Stmt := topS 53
abbrev N_law_some : List Str := ["draws", "arena", "share", "step", "first", "k"]
abbrev P_law_some : List Str := ["draws", "arena", "share"]
theorem sc_law_some : FnScope N_law_some P_law_some (defScope s_law_some) := ⟨rfl, rfl, rfl, by decide +kernel, rfl, by decide +kernel, by decide +kernel⟩
abbrev s_law_goal : Stmt := topS 54
abbrev N_law_goal : List Str := ["draws", "arena", "kind", "first", "step", "most", "k", "gains", "j"]
abbrev P_law_goal : List Str := ["draws", "arena", "kind"]
theorem sc_law_goal : FnScope N_law_goal P_law_goal (defScope s_law_goal) := ⟨rfl, rfl, rfl, by decide +kernel, rfl, by decide +kernel, by decide +kernel⟩
abbrev s_law_picks : Stmt := topS 55
abbrev N_law_picks : List Str := ["script", "draws", "many", "kind", "first", "step", "k"]
abbrev P_law_picks : List Str := ["script", "draws", "many"]
theorem sc_law_picks : FnScope N_law_picks P_law_picks (defScope s_law_picks) := ⟨rfl, rfl, rfl, by decide +kernel, rfl, by decide +kernel, by decide +kernel⟩
abbrev s_law_options : Stmt := topS 56
abbrev N_law_options : List Str := ["arena", "positions", "found", "k", "fitting", "j"]
abbrev P_law_options : List Str := ["arena", "positions"]
theorem sc_law_options : FnScope N_law_options P_law_options (defScope s_law_options) := ⟨rfl, rfl, rfl, by decide +kernel, rfl, by decide +kernel, by decide +kernel⟩
abbrev s_law_is_lost : Stmt := topS 57
abbrev N_law_is_lost : List Str := ["arena", "at"]
abbrev P_law_is_lost : List Str := ["arena", "at"]
theorem sc_law_is_lost : FnScope N_law_is_lost P_law_is_lost (defScope s_law_is_lost) := ⟨rfl, rfl, rfl, by decide +kernel, rfl, by decide +kernel, by decide +kernel⟩
abbrev s_law_stays : Stmt := topS 58
abbrev N_law_stays : List Str := ["arena", "keep", "label", "positions", "many", "outside", "at"]
abbrev P_law_stays : List Str := ["arena", "keep", "label", "positions", "many"]
theorem sc_law_stays : FnScope N_law_stays P_law_stays (defScope s_law_stays) := ⟨rfl, rfl, rfl, by decide +kernel, rfl, by decide +kernel, by decide +kernel⟩
abbrev s_law_comes : Stmt := topS 59
abbrev N_law_comes : List Str := ["arena", "home", "label", "positions", "many", "at"]
abbrev P_law_comes : List Str := ["arena", "home", "label", "positions", "many"]
theorem sc_law_comes : FnScope N_law_comes P_law_comes (defScope s_law_comes) := ⟨rfl, rfl, rfl, by decide +kernel, rfl, by decide +kernel, by decide +kernel⟩
abbrev slaw : Stmt := topS 60
abbrev Nlaw : List Str := ["script", "draws", "arena", "kind", "goal", "paper", "start", "picks", "positions", "options"]
abbrev Plaw : List Str := ["script"]
theorem sclaw : FnScope Nlaw Plaw (defScope slaw) := ⟨rfl, rfl, rfl, by decide +kernel, rfl, by decide +kernel, by decide +kernel⟩
abbrev sFitting___init__ : Stmt := inClass (topS 26) 0
abbrev NFitting___init__ : List Str := ["self", "arena", "goal", "labels"]
abbrev PFitting___init__ : List Str := ["self", "arena", "goal", "labels"]
theorem scFitting___init__ : FnScope NFitting___init__ PFitting___init__ (defScope sFitting___init__) := ⟨rfl, rfl, rfl, by decide +kernel, rfl, by decide +kernel, by decide +kernel⟩
abbrev sFitting_fits : Stmt := inClass (topS 26) 1
abbrev NFitting_fits : List Str := ["self", "at", "index", "after", "mine", "other"]
abbrev PFitting_fits : List Str := ["self", "at", "index", "after"]
theorem scFitting_fits : FnScope NFitting_fits PFitting_fits (defScope sFitting_fits) := ⟨rfl, rfl, rfl, by decide +kernel, rfl, by decide +kernel, by decide +kernel⟩
abbrev sFitting_all_fit : Stmt := inClass (topS 26) 2
abbrev NFitting_all_fit : List Str := ["self", "at", "index", "after"]
abbrev PFitting_all_fit : List Str := ["self", "at", "index"]
theorem scFitting_all_fit : FnScope NFitting_all_fit PFitting_all_fit (defScope sFitting_all_fit) := ⟨rfl, rfl, rfl, by decide +kernel, rfl, by decide +kernel, by decide +kernel⟩
def KT (K : PySem.W.Frag) (a : Addr) (ys : List V) : Prop := ∃ o its n, List.lookup a K = some o ∧ o.cls = .type "tuple" ∧ o.data = .seq its n ∧ its.size ≤ sizeLine ∧ L2.Vals ys its.toList
theorem kt_mk {K : PySem.W.Frag} {a : Addr} {ys : List V} {o : Obj} {its : Array Value} {n : Nat} (h1 : List.lookup a K = some o) (h2 : o.cls = .type "tuple") (h3 : o.data = .seq its n) (h4 : its.size ≤ sizeLine) (h5 : L2.Vals ys its.toList) : KT K a ys := ⟨o, its, n, h1, h2, h3, h4, h5⟩
structure Txt (K : PySem.W.Frag) (mg : Str → Option Value) where
  z_all : mg "all" = none
  z_any : mg "any" = none
  z_enumerate : mg "enumerate" = none
  z_int : mg "int" = none
  z_isinstance : mg "isinstance" = none
  z_len : mg "len" = none
  z_list : mg "list" = none
  z_max : mg "max" = none
  z_min : mg "min" = none
  z_range : mg "range" = none
  z_set : mg "set" = none
  z_sorted : mg "sorted" = none
  z_tuple : mg "tuple" = none
  z_zip : mg "zip" = none
  c_OPTION_KINDS : Addr
  g_OPTION_KINDS : mg "OPTION_KINDS" = some (.ref c_OPTION_KINDS)
  k_OPTION_KINDS : KT K c_OPTION_KINDS [(.str "holds"), (.str "comes"), (.str "even"), (.str "keeps")]
  u_CONTROLLER : Value
  g_CONTROLLER : mg "CONTROLLER" = some u_CONTROLLER
  r_CONTROLLER : L2.RelV (.int 0) u_CONTROLLER
  u_DISTURBANCE : Value
  g_DISTURBANCE : mg "DISTURBANCE" = some u_DISTURBANCE
  r_DISTURBANCE : L2.RelV (.int 1) u_DISTURBANCE
  C_Fitting : Addr
  g_Fitting : mg "Fitting" = some (.ref C_Fitting)
  cl_Fitting : Cls K C_Fitting
  na_Fitting_arena : NoAttr K C_Fitting "arena"
  na_Fitting_told : NoAttr K C_Fitting "told"
  na_Fitting_labels : NoAttr K C_Fitting "labels"
  na_Fitting_greatest : NoAttr K C_Fitting "greatest"
  ahas_option : Addr
  dhas_option : FuncData
  Fhas_option : Fun K "has_option" "has_option" shas_option ahas_option dhas_option
  mhas_option : mg "has_option" = some (.ref ahas_option)
  ais_end : Addr
  dis_end : FuncData
  Fis_end : Fun K "is_end" "is_end" sis_end ais_end dis_end
  mis_end : mg "is_end" = some (.ref ais_end)
  aplay_on : Addr
  dplay_on : FuncData
  Fplay_on : Fun K "play_on" "play_on" splay_on aplay_on dplay_on
  mplay_on : mg "play_on" = some (.ref aplay_on)
  afollow : Addr
  dfollow : FuncData
  Ffollow : Fun K "follow" "follow" sfollow afollow dfollow
  mfollow : mg "follow" = some (.ref afollow)
  a_next_by : Addr
  d_next_by : FuncData
  F_next_by : Fun K "_next_by" "_next_by" s_next_by a_next_by d_next_by
  m_next_by : mg "_next_by" = some (.ref a_next_by)
  aforces : Addr
  dforces : FuncData
  Fforces : Fun K "forces" "forces" sforces aforces dforces
  mforces : mg "forces" = some (.ref aforces)
  a_all_marked : Addr
  d_all_marked : FuncData
  F_all_marked : Fun K "_all_marked" "_all_marked" s_all_marked a_all_marked d_all_marked
  m_all_marked : mg "_all_marked" = some (.ref a_all_marked)
  a_some_marked : Addr
  d_some_marked : FuncData
  F_some_marked : Fun K "_some_marked" "_some_marked" s_some_marked a_some_marked d_some_marked
  m_some_marked : mg "_some_marked" = some (.ref a_some_marked)
  asteps_to : Addr
  dsteps_to : FuncData
  Fsteps_to : Fun K "steps_to" "steps_to" ssteps_to asteps_to dsteps_to
  msteps_to : mg "steps_to" = some (.ref asteps_to)
  acolour_owners : Addr
  dcolour_owners : FuncData
  Fcolour_owners : Fun K "colour_owners" "colour_owners" scolour_owners acolour_owners dcolour_owners
  mcolour_owners : mg "colour_owners" = some (.ref acolour_owners)
  asettle : Addr
  dsettle : FuncData
  Fsettle : Fun K "settle" "settle" ssettle asettle dsettle
  msettle : mg "settle" = some (.ref asettle)
  a_take_near : Addr
  d_take_near : FuncData
  F_take_near : Fun K "_take_near" "_take_near" s_take_near a_take_near d_take_near
  m_take_near : mg "_take_near" = some (.ref a_take_near)
  aleast_measures : Addr
  dleast_measures : FuncData
  Fleast_measures : Fun K "least_measures" "least_measures" sleast_measures aleast_measures dleast_measures
  mleast_measures : mg "least_measures" = some (.ref aleast_measures)
  a_entries_in : Addr
  d_entries_in : FuncData
  F_entries_in : Fun K "_entries_in" "_entries_in" s_entries_in a_entries_in d_entries_in
  m_entries_in : mg "_entries_in" = some (.ref a_entries_in)
  a_is_ended : Addr
  d_is_ended : FuncData
  F_is_ended : Fun K "_is_ended" "_is_ended" s_is_ended a_is_ended d_is_ended
  m_is_ended : mg "_is_ended" = some (.ref a_is_ended)
  a_won_without : Addr
  d_won_without : FuncData
  F_won_without : Fun K "_won_without" "_won_without" s_won_without a_won_without d_won_without
  m_won_without : mg "_won_without" = some (.ref a_won_without)
  astay_ranks : Addr
  dstay_ranks : FuncData
  Fstay_ranks : Fun K "stay_ranks" "stay_ranks" sstay_ranks astay_ranks dstay_ranks
  mstay_ranks : mg "stay_ranks" = some (.ref astay_ranks)
  acome_ranks : Addr
  dcome_ranks : FuncData
  Fcome_ranks : Fun K "come_ranks" "come_ranks" scome_ranks acome_ranks dcome_ranks
  mcome_ranks : mg "come_ranks" = some (.ref acome_ranks)
  a_ranks_to : Addr
  d_ranks_to : FuncData
  F_ranks_to : Fun K "_ranks_to" "_ranks_to" s_ranks_to a_ranks_to d_ranks_to
  m_ranks_to : mg "_ranks_to" = some (.ref a_ranks_to)
  aleast_credits : Addr
  dleast_credits : FuncData
  Fleast_credits : Fun K "least_credits" "least_credits" sleast_credits aleast_credits dleast_credits
  mleast_credits : mg "least_credits" = some (.ref aleast_credits)
  aleast_loads : Addr
  dleast_loads : FuncData
  Fleast_loads : Fun K "least_loads" "least_loads" sleast_loads aleast_loads dleast_loads
  mleast_loads : mg "least_loads" = some (.ref aleast_loads)
  a_scaled : Addr
  d_scaled : FuncData
  F_scaled : Fun K "_scaled" "_scaled" s_scaled a_scaled d_scaled
  m_scaled : mg "_scaled" = some (.ref a_scaled)
  a_least_values : Addr
  d_least_values : FuncData
  F_least_values : Fun K "_least_values" "_least_values" s_least_values a_least_values d_least_values
  m_least_values : mg "_least_values" = some (.ref a_least_values)
  avalues_of_rows : Addr
  dvalues_of_rows : FuncData
  Fvalues_of_rows : Fun K "values_of_rows" "values_of_rows" svalues_of_rows avalues_of_rows dvalues_of_rows
  mvalues_of_rows : mg "values_of_rows" = some (.ref avalues_of_rows)
  atold_paper : Addr
  dtold_paper : FuncData
  Ftold_paper : Fun K "told_paper" "told_paper" stold_paper atold_paper dtold_paper
  mtold_paper : mg "told_paper" = some (.ref atold_paper)
  a_drafts : Addr
  d_drafts : FuncData
  F_drafts : Fun K "_drafts" "_drafts" s_drafts a_drafts d_drafts
  m_drafts : mg "_drafts" = some (.ref a_drafts)
  a_tank_drafts : Addr
  d_tank_drafts : FuncData
  F_tank_drafts : Fun K "_tank_drafts" "_tank_drafts" s_tank_drafts a_tank_drafts d_tank_drafts
  m_tank_drafts : mg "_tank_drafts" = some (.ref a_tank_drafts)
  a_colour_drafts : Addr
  d_colour_drafts : FuncData
  F_colour_drafts : Fun K "_colour_drafts" "_colour_drafts" s_colour_drafts a_colour_drafts d_colour_drafts
  m_colour_drafts : mg "_colour_drafts" = some (.ref a_colour_drafts)
  a_pick : Addr
  d_pick : FuncData
  F_pick : Fun K "_pick" "_pick" s_pick a_pick d_pick
  m_pick : mg "_pick" = some (.ref a_pick)
  a_option : Addr
  d_option : FuncData
  F_option : Fun K "_option" "_option" s_option a_option d_option
  m_option : mg "_option" = some (.ref a_option)
  a_reply : Addr
  d_reply : FuncData
  F_reply : Fun K "_reply" "_reply" s_reply a_reply d_reply
  m_reply : mg "_reply" = some (.ref a_reply)
  a_law_draws : Addr
  d_law_draws : FuncData
  F_law_draws : Fun K "_law_draws" "_law_draws" s_law_draws a_law_draws d_law_draws
  m_law_draws : mg "_law_draws" = some (.ref a_law_draws)
  a_law_take : Addr
  d_law_take : FuncData
  F_law_take : Fun K "_law_take" "_law_take" s_law_take a_law_take d_law_take
  m_law_take : mg "_law_take" = some (.ref a_law_take)
  a_law_great : Addr
  d_law_great : FuncData
  F_law_great : Fun K "_law_great" "_law_great" s_law_great a_law_great d_law_great
  m_law_great : mg "_law_great" = some (.ref a_law_great)
  a_law_arena : Addr
  d_law_arena : FuncData
  F_law_arena : Fun K "_law_arena" "_law_arena" s_law_arena a_law_arena d_law_arena
  m_law_arena : mg "_law_arena" = some (.ref a_law_arena)
  a_law_some : Addr
  d_law_some : FuncData
  F_law_some : Fun K "_law_some" "_law_some" s_law_some a_law_some d_law_some
  m_law_some : mg "_law_some" = some (.ref a_law_some)
  a_law_goal : Addr
  d_law_goal : FuncData
  F_law_goal : Fun K "_law_goal" "_law_goal" s_law_goal a_law_goal d_law_goal
  m_law_goal : mg "_law_goal" = some (.ref a_law_goal)
  a_law_picks : Addr
  d_law_picks : FuncData
  F_law_picks : Fun K "_law_picks" "_law_picks" s_law_picks a_law_picks d_law_picks
  m_law_picks : mg "_law_picks" = some (.ref a_law_picks)
  a_law_options : Addr
  d_law_options : FuncData
  F_law_options : Fun K "_law_options" "_law_options" s_law_options a_law_options d_law_options
  m_law_options : mg "_law_options" = some (.ref a_law_options)
  a_law_is_lost : Addr
  d_law_is_lost : FuncData
  F_law_is_lost : Fun K "_law_is_lost" "_law_is_lost" s_law_is_lost a_law_is_lost d_law_is_lost
  m_law_is_lost : mg "_law_is_lost" = some (.ref a_law_is_lost)
  a_law_stays : Addr
  d_law_stays : FuncData
  F_law_stays : Fun K "_law_stays" "_law_stays" s_law_stays a_law_stays d_law_stays
  m_law_stays : mg "_law_stays" = some (.ref a_law_stays)
  a_law_comes : Addr
  d_law_comes : FuncData
  F_law_comes : Fun K "_law_comes" "_law_comes" s_law_comes a_law_comes d_law_comes
  m_law_comes : mg "_law_comes" = some (.ref a_law_comes)
  alaw : Addr
  dlaw : FuncData
  Flaw : Fun K "law" "law" slaw alaw dlaw
  mlaw : mg "law" = some (.ref alaw)
  aFitting___init__ : Addr
  dFitting___init__ : FuncData
  FFitting___init__ : Fun K "__init__" "Fitting.__init__" sFitting___init__ aFitting___init__ dFitting___init__
  mFitting___init__ : Meth K C_Fitting "__init__" aFitting___init__
  mk_Fitting : Mk K C_Fitting aFitting___init__
  aFitting_fits : Addr
  dFitting_fits : FuncData
  FFitting_fits : Fun K "fits" "Fitting.fits" sFitting_fits aFitting_fits dFitting_fits
  mFitting_fits : Meth K C_Fitting "fits" aFitting_fits
  aFitting_all_fit : Addr
  dFitting_all_fit : FuncData
  FFitting_all_fit : Fun K "all_fit" "Fitting.all_fit" sFitting_all_fit aFitting_all_fit dFitting_all_fit
  mFitting_all_fit : Meth K C_Fitting "all_fit" aFitting_all_fit
theorem Txt.bhas_option {K : PySem.W.Frag} {mg : Str → Option Value} (T : Txt K mg) : Binds K T.dhas_option Phas_option [] := T.Fhas_option.binds fun _ _ _ _ _ _ us hl => match us, hl with | [_], _ => rfl
theorem Txt.bis_end {K : PySem.W.Frag} {mg : Str → Option Value} (T : Txt K mg) : Binds K T.dis_end Pis_end [] := T.Fis_end.binds fun _ _ _ _ _ _ us hl => match us, hl with | [_], _ => rfl
theorem Txt.bplay_on {K : PySem.W.Frag} {mg : Str → Option Value} (T : Txt K mg) : Binds K T.dplay_on Pplay_on [] := T.Fplay_on.binds fun _ _ _ _ _ _ us hl => match us, hl with | [_, _, _, _], _ => rfl
theorem Txt.bfollow {K : PySem.W.Frag} {mg : Str → Option Value} (T : Txt K mg) : Binds K T.dfollow Pfollow [] := T.Ffollow.binds fun _ _ _ _ _ _ us hl => match us, hl with | [_, _, _, _], _ => rfl
theorem Txt.b_next_by {K : PySem.W.Frag} {mg : Str → Option Value} (T : Txt K mg) : Binds K T.d_next_by P_next_by [] := T.F_next_by.binds fun _ _ _ _ _ _ us hl => match us, hl with | [_, _, _], _ => rfl
theorem Txt.bforces {K : PySem.W.Frag} {mg : Str → Option Value} (T : Txt K mg) : Binds K T.dforces Pforces [] := T.Fforces.binds fun _ _ _ _ _ _ us hl => match us, hl with | [_, _, _], _ => rfl
theorem Txt.b_all_marked {K : PySem.W.Frag} {mg : Str → Option Value} (T : Txt K mg) : Binds K T.d_all_marked P_all_marked [] := T.F_all_marked.binds fun _ _ _ _ _ _ us hl => match us, hl with | [_, _], _ => rfl
theorem Txt.b_some_marked {K : PySem.W.Frag} {mg : Str → Option Value} (T : Txt K mg) : Binds K T.d_some_marked P_some_marked [] := T.F_some_marked.binds fun _ _ _ _ _ _ us hl => match us, hl with | [_, _], _ => rfl
theorem Txt.bsteps_to {K : PySem.W.Frag} {mg : Str → Option Value} (T : Txt K mg) : Binds K T.dsteps_to Psteps_to [] := T.Fsteps_to.binds fun _ _ _ _ _ _ us hl => match us, hl with | [_, _, _, _], _ => rfl
theorem Txt.bcolour_owners {K : PySem.W.Frag} {mg : Str → Option Value} (T : Txt K mg) : Binds K T.dcolour_owners Pcolour_owners [] := T.Fcolour_owners.binds fun _ _ _ _ _ _ us hl => match us, hl with | [_, _], _ => rfl
theorem Txt.bsettle {K : PySem.W.Frag} {mg : Str → Option Value} (T : Txt K mg) : Binds K T.dsettle Psettle [] := T.Fsettle.binds fun _ _ _ _ _ _ us hl => match us, hl with | [_, _, _], _ => rfl
theorem Txt.b_take_near {K : PySem.W.Frag} {mg : Str → Option Value} (T : Txt K mg) : Binds K T.d_take_near P_take_near [] := T.F_take_near.binds fun _ _ _ _ _ _ us hl => match us, hl with | [_, _], _ => rfl
theorem Txt.bleast_measures {K : PySem.W.Frag} {mg : Str → Option Value} (T : Txt K mg) : Binds K T.dleast_measures Pleast_measures [] := T.Fleast_measures.binds fun _ _ _ _ _ _ us hl => match us, hl with | [_, _, _, _], _ => rfl
theorem Txt.b_entries_in {K : PySem.W.Frag} {mg : Str → Option Value} (T : Txt K mg) : Binds K T.d_entries_in P_entries_in [] := T.F_entries_in.binds fun _ _ _ _ _ _ us hl => match us, hl with | [_, _, _, _, _, _], _ => rfl
theorem Txt.b_is_ended {K : PySem.W.Frag} {mg : Str → Option Value} (T : Txt K mg) : Binds K T.d_is_ended P_is_ended [] := T.F_is_ended.binds fun _ _ _ _ _ _ us hl => match us, hl with | [_], _ => rfl
theorem Txt.b_won_without {K : PySem.W.Frag} {mg : Str → Option Value} (T : Txt K mg) : Binds K T.d_won_without P_won_without [] := T.F_won_without.binds fun _ _ _ _ _ _ us hl => match us, hl with | [_, _, _, _, _], _ => rfl
theorem Txt.bstay_ranks {K : PySem.W.Frag} {mg : Str → Option Value} (T : Txt K mg) : Binds K T.dstay_ranks Pstay_ranks [] := T.Fstay_ranks.binds fun _ _ _ _ _ _ us hl => match us, hl with | [_, _], _ => rfl
theorem Txt.bcome_ranks {K : PySem.W.Frag} {mg : Str → Option Value} (T : Txt K mg) : Binds K T.dcome_ranks Pcome_ranks [] := T.Fcome_ranks.binds fun _ _ _ _ _ _ us hl => match us, hl with | [_, _], _ => rfl
theorem Txt.b_ranks_to {K : PySem.W.Frag} {mg : Str → Option Value} (T : Txt K mg) : Binds K T.d_ranks_to P_ranks_to [] := T.F_ranks_to.binds fun _ _ _ _ _ _ us hl => match us, hl with | [_, _, _], _ => rfl
theorem Txt.bleast_credits {K : PySem.W.Frag} {mg : Str → Option Value} (T : Txt K mg) : Binds K T.dleast_credits Pleast_credits [] := T.Fleast_credits.binds fun _ _ _ _ _ _ us hl => match us, hl with | [_, _], _ => rfl
theorem Txt.bleast_loads {K : PySem.W.Frag} {mg : Str → Option Value} (T : Txt K mg) : Binds K T.dleast_loads Pleast_loads [] := T.Fleast_loads.binds fun _ _ _ _ _ _ us hl => match us, hl with | [_, _], _ => rfl
theorem Txt.b_scaled {K : PySem.W.Frag} {mg : Str → Option Value} (T : Txt K mg) : Binds K T.d_scaled P_scaled [] := T.F_scaled.binds fun _ _ _ _ _ _ us hl => match us, hl with | [_], _ => rfl
theorem Txt.b_least_values {K : PySem.W.Frag} {mg : Str → Option Value} (T : Txt K mg) : Binds K T.d_least_values P_least_values [] := T.F_least_values.binds fun _ _ _ _ _ _ us hl => match us, hl with | [_], _ => rfl
theorem Txt.bvalues_of_rows {K : PySem.W.Frag} {mg : Str → Option Value} (T : Txt K mg) : Binds K T.dvalues_of_rows Pvalues_of_rows [] := T.Fvalues_of_rows.binds fun _ _ _ _ _ _ us hl => match us, hl with | [_, _], _ => rfl
theorem Txt.btold_paper {K : PySem.W.Frag} {mg : Str → Option Value} (T : Txt K mg) : Binds K T.dtold_paper Ptold_paper [] := T.Ftold_paper.binds fun _ _ _ _ _ _ us hl => match us, hl with | [_, _], _ => rfl
theorem Txt.b_drafts {K : PySem.W.Frag} {mg : Str → Option Value} (T : Txt K mg) : Binds K T.d_drafts P_drafts [] := T.F_drafts.binds fun _ _ _ _ _ _ us hl => match us, hl with | [_, _], _ => rfl
theorem Txt.b_tank_drafts {K : PySem.W.Frag} {mg : Str → Option Value} (T : Txt K mg) : Binds K T.d_tank_drafts P_tank_drafts [] := T.F_tank_drafts.binds fun _ _ _ _ _ _ us hl => match us, hl with | [_, _], _ => rfl
theorem Txt.b_colour_drafts {K : PySem.W.Frag} {mg : Str → Option Value} (T : Txt K mg) : Binds K T.d_colour_drafts P_colour_drafts [] := T.F_colour_drafts.binds fun _ _ _ _ _ _ us hl => match us, hl with | [_, _], _ => rfl
theorem Txt.b_pick {K : PySem.W.Frag} {mg : Str → Option Value} (T : Txt K mg) : Binds K T.d_pick P_pick [] := T.F_pick.binds fun _ _ _ _ _ _ us hl => match us, hl with | [_, _], _ => rfl
theorem Txt.b_option {K : PySem.W.Frag} {mg : Str → Option Value} (T : Txt K mg) : Binds K T.d_option P_option [] := T.F_option.binds fun _ _ _ _ _ _ us hl => match us, hl with | [_, _], _ => rfl
theorem Txt.b_reply {K : PySem.W.Frag} {mg : Str → Option Value} (T : Txt K mg) : Binds K T.d_reply P_reply [] := T.F_reply.binds fun _ _ _ _ _ _ us hl => match us, hl with | [_, _, _], _ => rfl
theorem Txt.b_law_draws {K : PySem.W.Frag} {mg : Str → Option Value} (T : Txt K mg) : Binds K T.d_law_draws P_law_draws [] := T.F_law_draws.binds fun _ _ _ _ _ _ us hl => match us, hl with | [_, _], _ => rfl
theorem Txt.b_law_take {K : PySem.W.Frag} {mg : Str → Option Value} (T : Txt K mg) : Binds K T.d_law_take P_law_take [] := T.F_law_take.binds fun _ _ _ _ _ _ us hl => match us, hl with | [_, _], _ => rfl
theorem Txt.b_law_great {K : PySem.W.Frag} {mg : Str → Option Value} (T : Txt K mg) : Binds K T.d_law_great P_law_great [] := T.F_law_great.binds fun _ _ _ _ _ _ us hl => match us, hl with | [_], _ => rfl
theorem Txt.b_law_arena {K : PySem.W.Frag} {mg : Str → Option Value} (T : Txt K mg) : Binds K T.d_law_arena P_law_arena [] := T.F_law_arena.binds fun _ _ _ _ _ _ us hl => match us, hl with | [_, _], _ => rfl
theorem Txt.b_law_some {K : PySem.W.Frag} {mg : Str → Option Value} (T : Txt K mg) : Binds K T.d_law_some P_law_some [] := T.F_law_some.binds fun _ _ _ _ _ _ us hl => match us, hl with | [_, _, _], _ => rfl
theorem Txt.b_law_goal {K : PySem.W.Frag} {mg : Str → Option Value} (T : Txt K mg) : Binds K T.d_law_goal P_law_goal [] := T.F_law_goal.binds fun _ _ _ _ _ _ us hl => match us, hl with | [_, _, _], _ => rfl
theorem Txt.b_law_picks {K : PySem.W.Frag} {mg : Str → Option Value} (T : Txt K mg) : Binds K T.d_law_picks P_law_picks [] := T.F_law_picks.binds fun _ _ _ _ _ _ us hl => match us, hl with | [_, _, _], _ => rfl
theorem Txt.b_law_options {K : PySem.W.Frag} {mg : Str → Option Value} (T : Txt K mg) : Binds K T.d_law_options P_law_options [] := T.F_law_options.binds fun _ _ _ _ _ _ us hl => match us, hl with | [_, _], _ => rfl
theorem Txt.b_law_is_lost {K : PySem.W.Frag} {mg : Str → Option Value} (T : Txt K mg) : Binds K T.d_law_is_lost P_law_is_lost [] := T.F_law_is_lost.binds fun _ _ _ _ _ _ us hl => match us, hl with | [_, _], _ => rfl
theorem Txt.b_law_stays {K : PySem.W.Frag} {mg : Str → Option Value} (T : Txt K mg) : Binds K T.d_law_stays P_law_stays [] := T.F_law_stays.binds fun _ _ _ _ _ _ us hl => match us, hl with | [_, _, _, _, _], _ => rfl
theorem Txt.b_law_comes {K : PySem.W.Frag} {mg : Str → Option Value} (T : Txt K mg) : Binds K T.d_law_comes P_law_comes [] := T.F_law_comes.binds fun _ _ _ _ _ _ us hl => match us, hl with | [_, _, _, _, _], _ => rfl
theorem Txt.blaw {K : PySem.W.Frag} {mg : Str → Option Value} (T : Txt K mg) : Binds K T.dlaw Plaw [] := T.Flaw.binds fun _ _ _ _ _ _ us hl => match us, hl with | [_], _ => rfl
theorem Txt.bFitting___init__ {K : PySem.W.Frag} {mg : Str → Option Value} (T : Txt K mg) : Binds K T.dFitting___init__ PFitting___init__ [] := T.FFitting___init__.binds fun _ _ _ _ _ _ us hl => match us, hl with | [_, _, _, _], _ => rfl
theorem Txt.bFitting_fits {K : PySem.W.Frag} {mg : Str → Option Value} (T : Txt K mg) : Binds K T.dFitting_fits PFitting_fits [] := T.FFitting_fits.binds fun _ _ _ _ _ _ us hl => match us, hl with | [_, _, _, _], _ => rfl
theorem Txt.bFitting_all_fit {K : PySem.W.Frag} {mg : Str → Option Value} (T : Txt K mg) : Binds K T.dFitting_all_fit PFitting_all_fit [] := T.FFitting_all_fit.binds fun _ _ _ _ _ _ us hl => match us, hl with | [_, _, _], _ => rfl
end NL

namespace NL
open PySem PySem.Spec PyProof.Rows L2

/-! ### frames: what stays while the list of draws at d is used up -/
structure Go (d : Addr) (H H' : Hp) : Prop where
  fr : ∀ b o, b ≠ d → H b = some o → H' b = some o
  dr : ∃ ns : List Int, H' d = some (.lst (ns.map V.int))
abbrev Dr (H : Hp) (d : Addr) : Prop := ∃ ns : List Int, H d = some (.lst (ns.map V.int))
theorem Go.refl {d : Addr} {H : Hp} (h : Dr H d) : Go d H H := ⟨fun _ _ _ e => e, h⟩
theorem Go.trans {d : Addr} {H H1 H2 : Hp} (a : Go d H H1) (b : Go d H1 H2) : Go d H H2 := ⟨fun c o n e => b.fr c o n (a.fr c o n e), b.dr⟩
theorem Go.new {d p : Addr} {H : Hp} {o : HO} (h : Dr H d) (hp : H p = none) : Go d H (upd H p o) := by
  obtain ⟨ns, e⟩ := h
  have n : d ≠ p := ne_of_none e hp
  exact ⟨fun b u _ q => by rw [upd_ne (ne_of_none q hp)]; exact q, ⟨ns, by rw [upd_ne n]; exact e⟩⟩
theorem Go.put {d : Addr} {H : Hp} (ns : List Int) : Go d H (upd H d (.lst (ns.map V.int))) := ⟨fun b u n q => by rw [upd_ne n]; exact q, ⟨ns, upd_same⟩⟩
theorem Go.same {d : Addr} {H H' : Hp} (h : Dr H d) (s : Same H H') : Go d H H' := ⟨fun b o _ e => s b o e, by obtain ⟨ns, e⟩ := h; exact ⟨ns, s _ _ e⟩⟩
theorem Go.tup {d a : Addr} {H H' : Hp} {xs : List V} (g : Go d H H') (h : Dr H d) (e : H a = some (.tup xs)) : H' a = some (.tup xs) := by
  refine g.fr a _ ?_ e
  rintro rfl
  obtain ⟨ns, q⟩ := h
  rw [e] at q; cases q
theorem same_new {H : Hp} {p : Addr} (h : H p = none) (o : HO) : Same H (upd H p o) := fun b u q => by rw [upd_ne (ne_of_none q h)]; exact q
/-- all tuples stay -/
def Tp (H H' : Hp) : Prop := ∀ a xs, H a = some (.tup xs) → H' a = some (.tup xs)
theorem Go.tp {d : Addr} {H H' : Hp} (g : Go d H H') (h : Dr H d) : Tp H H' := fun _ _ e => g.tup h e
theorem Tp.same {H H' : Hp} (s : Same H H') : Tp H H' := fun _ _ e => s _ _ e
theorem Tp.trans {H H1 H2 : Hp} (a : Tp H H1) (b : Tp H1 H2) : Tp H H2 := fun x y e => b x y (a x y e)
theorem Tp.refl {H : Hp} : Tp H H := fun _ _ e => e
/-- a list that stays readable whatever is drawn at d -/
def Keep (K : PySem.W.Frag) (d : Addr) (H : Hp) (a : Addr) (xs : List V) : Prop := ∀ H', (∀ b o, b ≠ d → H b = some o → H' b = some o) → SqL K H' a xs
theorem Keep.now {K : PySem.W.Frag} {d a : Addr} {H : Hp} {xs : List V} (k : Keep K d H a xs) : SqL K H a xs := k H fun _ _ _ e => e
theorem Keep.go {K : PySem.W.Frag} {d a : Addr} {H H' : Hp} {xs : List V} (k : Keep K d H a xs) (g : Go d H H') : Keep K d H' a xs := fun H2 f => k H2 fun b o n e => f b o n (g.fr b o n e)
theorem Keep.of {K : PySem.W.Frag} {d a : Addr} {H : Hp} {xs : List V} (n : a ≠ d) (h : H a = some (.lst xs)) : Keep K d H a xs := fun H' f => .inl (.inl (f a _ n h))
/-- what was read ahead of the draws' list stays -/
theorem Keep.old {K : PySem.W.Frag} {d a : Addr} {H0 H : Hp} {xs : List V} (h : SqL K H0 a xs) (hd : H0 d = none) (f : ∀ b o, H0 b = some o → H b = some o) : Keep K d H a xs := fun H' g => by
  rcases h with (h | ⟨o, h⟩) | h
  · exact .inl (.inl (g a _ (ne_of_none h hd) (f _ _ h)))
  · exact .inl (.inr ⟨o, g a _ (ne_of_none h hd) (f _ _ h)⟩)
  · exact .inr h

/-! ### rules whose written part is named (in a comprehension) -/
theorem ix_tupK {X : Cx} {K : PySem.W.Frag} (h : X.K = K) : IxR X (rIxT K) := by subst h; exact ix_tup
theorem ix_listK {X : Cx} {K : PySem.W.Frag} (h : X.K = K) : IxR X (rIxL K) := by subst h; exact ix_list
def rTupOf (K : PySem.W.Frag) : List V → Hp → VK → Prop := fun xs H Q => ∃ p ys, xs = [.ref p] ∧ ((SqL K H p ys ∧ ∀ l, H l = none → Q (.ref l) (upd H l (.tup ys))) ∨ (SqT K H p ys ∧ Q (.ref p) H))
theorem call_tuple_ofK {X : Cx} {K : PySem.W.Frag} (h : X.K = K) : CallR X (.type "tuple") (rTupOf K) := by subst h; exact call_tuple_of
/-! ### texts and words -/
/-- signs a to z alone -/
def Wd (z : Str) : Prop := ∀ c ∈ z.cps.toList, 97 ≤ c ∧ c ≤ 122
instance (z : Str) : Decidable (Wd z) := by unfold Wd; infer_instance
def res : List Str := ["true", "false", "add", "sub", "mul", "div", "mod", "min", "max", "abs", "if", "less", "equal", "not", "all", "any"]
theorem app_list (a b : Str) : (a ++ b).cps.toList = a.cps.toList ++ b.cps.toList := by
  show (a.cps ++ b.cps).toList = _
  simp
theorem len_list (a : Str) : a.length = a.cps.toList.length := by
  show a.cps.size = _
  simp
theorem len_app (a b : Str) : (a ++ b).length = a.length + b.length := by
  rw [len_list, app_list, List.length_append, ← len_list, ← len_list]
theorem str_ext {a b : Str} (h : a.cps.toList = b.cps.toList) : a = b := by
  cases a with | mk x => cases b with | mk y =>
  have : x = y := Array.toList_inj.mp h
  rw [this]
theorem Wd.app {a b : Str} (ha : Wd a) (hb : Wd b) : Wd (a ++ b) := fun c hc => by
  rw [app_list] at hc
  rcases List.mem_append.mp hc with h | h
  · exact ha c h
  · exact hb c h
structure Nam (z : Str) : Prop where
  wd : Wd z
  len : 0 < z.length ∧ z.length ≤ 200
  nr : z ∉ res
structure Nm (z : Str) : Prop where
  wd : Wd z
  len : 0 < z.length ∧ z.length ≤ 150

/-! ### lists at an index -/
theorem atI_mem {α : Type} {xs : List α} {i : Int} (h0 : 0 ≤ i) (h1 : i < xs.length) : ∃ v, atI xs i = some v ∧ v ∈ xs := by
  have hk : i.toNat < xs.length := by omega
  have ek : i = ((i.toNat : Nat) : Int) := by omega
  have q : atI xs ((i.toNat : Nat) : Int) = some xs[i.toNat] := atI_nat (List.getElem?_eq_getElem hk)
  rw [← ek] at q
  exact ⟨_, q, List.getElem_mem hk⟩
theorem atI_map {α β : Type} {f : α → β} {xs : List α} {i : Int} (h0 : 0 ≤ i) (h1 : i < xs.length) : ∃ v, atI (xs.map f) i = some (f v) ∧ v ∈ xs := by
  obtain ⟨v, h, m⟩ := atI_mem (xs := xs.map f) h0 (by rw [List.length_map]; exact h1)
  obtain ⟨u, hu, rfl⟩ := List.mem_map.mp m
  exact ⟨u, h, hu⟩
theorem sqd {K : PySem.W.Frag} {H : Hp} {a : Addr} {xs : List V} (h : H a = some (.lst xs)) : SqL K H a xs := .inl (.inl h)
theorem sqt {K : PySem.W.Frag} {H : Hp} {a : Addr} {xs : List V} (h : H a = some (.tup xs)) : SqT K H a xs := .inl (.inl h)
theorem int_eq {i j : Int} (h : decide (V.int i = V.int j) = true) : i = j := V.int.inj (of_decide_eq_true h)
theorem int_ne {i j : Int} (h : ¬ decide (V.int i = V.int j) = true) : i ≠ j := fun e => h (decide_eq_true (by rw [e]))
section
variable {P : Program} {w : World} {K : PySem.W.Frag} {mg : Str → Option Value} {base : Heap}
/-! ### _law_take -/
def spTake : Sp := fun vs H Q _ => ∃ (d : Addr) (m : Int), vs = [.ref d, .int m] ∧ Dr H d ∧ 0 < m ∧ ∀ r H', Go d H H' → 0 ≤ r → r < m → Q (.int r) H'
theorem ok_law_take (T : Txt K mg) : FnOk P w K mg base CX0 1 T.a_law_take T.d_law_take P_law_take spTake := by
  refine T.F_law_take.ok sc_law_take (fun vs H Q E h => ?_) (fun cdv A outer s H vs Q E hr h => ?_)
  · obtain ⟨d, m, rfl, _⟩ := h
    rfl
  obtain ⟨d, m, rfl, hD, hm, q⟩ := h
  refine ⟨_, (pss_cons (ps_if (pt_cmpR op_eq (pe_callB call_len_seq (by rfl) T.z_len PySem.boot_len (pa_cons (pv 0) pa_nil)) pe_int (nomark _))
    (pss_one (ps_ret pe_int))
    pss_nil)
    (pss_one (ps_ret (pe_op op_mod (pe_callTy call_int1 (by rfl) T.z_int (by decide +kernel) (pa_cons (pe_bm0 PySem.F.plainAttrs_list PySem.F.slot_list_pop PySem.F.type_list_pop mt_pop (pv 0)) pa_nil)) (pv 1))))), ?_⟩
  obtain ⟨ns, hd⟩ := hD
  refine ⟨_, rfl, _, _, rfl, .inl (sqd hd), rfl, _, rfl, ?_⟩
  refine ite2 (fun c => ?_) (fun c => ?_)
  · exact q 0 H (Go.refl ⟨ns, hd⟩) (Int.le_refl 0) hm
  · have hn := int_ne c
    rw [List.length_map] at hn
    have hz : ns ≠ [] := by
      rintro rfl
      exact hn rfl
    have hl : 0 < ns.length := List.length_pos_iff.mpr hz
    have he : (ns.map V.int)[(ns.map V.int).length - 1]? = some (.int ns[ns.length - 1]) := by
      rw [List.length_map, List.getElem?_map, List.getElem?_eq_getElem (by omega)]
      rfl
    refine ⟨_, rfl, .inl ⟨rfl, _, sqd hd⟩, _, _, _, rfl, rfl, hd, he, .inl ⟨_, rfl, ?_⟩⟩
    refine ⟨_, rfl, _, _, rfl, rfl, hm, ?_⟩
    refine q _ _ ?_ (Int.emod_nonneg _ (by omega)) (Int.emod_lt_of_pos _ hm)
    rw [← List.map_dropLast]
    exact Go.put _
end
end NL

namespace NL
open PySem PySem.Spec PyProof.Rows L2
theorem yes_if {σ : L2.St} {H : Hp} {a n : Hp → Prop} (h : a H) : tYes σ H (fun b H3 => if b = true then a H3 else n H3) := by
  show (if true = true then a H else n H)
  rw [if_pos rfl]
  exact h
/-- one reading for two ways -/
theorem cutP {B C : Prop} (f : B → C) (b : B) : C := f b
theorem ifT {c : Bool} {A B : Prop} (h : c = true) (a : A) : if c = true then A else B := by
  rw [if_pos h]; exact a
theorem ifF {c : Bool} {A B : Prop} (h : c = false) (b : B) : if c = true then A else B := by
  rw [if_neg (by rw [h]; exact Bool.false_ne_true)]; exact b
theorem atI0 {α : Type} {x : α} {r : List α} : atI (x :: r) 0 = some x := atI_nat (j := 0) rfl
theorem atI1 {α : Type} {x y : α} {r : List α} : atI (x :: y :: r) 1 = some y := atI_nat (j := 1) rfl
theorem boolE {Q : VK} {b b' : Bool} {H : Hp} (h : b = b') (q : Q (.bl b') H) : Q (.bl b) H := by rw [h]; exact q
theorem big {n : Nat} (h : n ≤ 1000000) : n ≤ sizeLine := Nat.le_trans h (by decide)
theorem big' {n : Nat} (h : n ≤ 1000000) : n < sizeLine := Nat.lt_of_le_of_lt h (by decide)
theorem int_in {x : Int} {l : List Int} : inV (.int x) (l.map V.int) = decide (x ∈ l) := by
  unfold inV
  rw [List.any_map]
  induction l with
  | nil => rfl
  | cons a r ih =>
    rw [List.any_cons, ih]
    show (eqV (.int a) (.int x) || _) = _
    have e : eqV (.int a) (.int x) = decide (x = a) := by
      show (a == x) = _
      rw [Bool.beq_eq_decide_eq]
      exact decide_eq_decide.mpr ⟨fun h => h.symm, fun h => h.symm⟩
    rw [e, ← Bool.decide_or]
    exact decide_eq_decide.mpr List.mem_cons.symm
theorem flat_ints' (l : List Int) : (l.map V.int).all flatV = true := by
  induction l with
  | nil => rfl
  | cons a r ih => rw [List.map_cons, List.all_cons, ih]; rfl
theorem notIn_int {x : Int} {l : List Int} : (if true = true then !inV (V.int x) (l.map V.int) else inV (V.int x) (l.map V.int)) = !decide (x ∈ l) := by
  rw [if_pos rfl, int_in]
def rLenK (K : PySem.W.Frag) : List V → Hp → VK → Prop := fun xs H Q => ∃ p ys, xs = [.ref p] ∧ (SqL K H p ys ∨ SqT K H p ys) ∧ Q (.int (ys.length : Nat)) H
theorem call_len_seqK {X : Cx} {K : PySem.W.Frag} (h : X.K = K) : CallR X (.builtin "len") (rLenK K) := by
  subst h
  exact call_len_seq
end NL

namespace NL
open PySem PySem.Spec PyProof.Rows L2
theorem ixN_in {n : Nat} {k : Int} (h0 : 0 ≤ k) (h1 : k < n) : ixN n k = some k.toNat := by
  unfold ixN
  rw [if_pos h0, if_pos h1]
/-- a change at what was not there before -/
theorem same_put {H H' : Hp} {p : Addr} {o : HO} (s : Same H H') (hp : H p = none) : Same H (upd H' p o) := fun b u e => by
  rw [upd_ne (ne_of_none e hp)]
  exact s b u e
section
variable {P : Program} {w : World} {K : PySem.W.Frag} {mg : Str → Option Value} {base : Heap}
def spDraws (K : PySem.W.Frag) : Sp := fun vs H Q _ => ∃ (a : Addr) (ns : List Int) (m : Int), vs = [.ref a, .int m] ∧ SqL K H a (ns.map V.int) ∧ ns.length ≤ 63 ∧ 0 ≤ m ∧ m ≤ 10000 ∧
  ∀ d H', Same H H' → H d = none → Dr H' d → Q (.ref d) H'
theorem ok_law_draws (T : Txt K mg) : FnOk P w K mg base CX0 1 T.a_law_draws T.d_law_draws P_law_draws (spDraws K) := by
  refine T.F_law_draws.ok sc_law_draws (fun vs H Q E h => ?_) (fun cdv A outer s H vs Q E hr h => ?_)
  · obtain ⟨a, ns, m, rfl, _⟩ := h
    rfl
  obtain ⟨a, ns, m, rfl, hS, hl, m0, m1, q⟩ := h
  refine ⟨_, (pss_cons (ps_setLc (i := 2) (own := [("cell", 3)]) (g := (gName 3)) (tt := tYes) rfl sc_law_draws.nd rfl rfl (sw_true rfl rfl rfl (by decide +kernel)) (pi_list (pv 0)) (blkOk_by (N := N_law_draws) (sc := defScope s_law_draws) (by decide +kernel)) (fun _ _ _ _ _ => (pg_name (i := 3) sc_law_draws.nd rfl (Or.inl rfl))) (fun _ _ _ _ _ => pts_nil) (fun _ _ _ _ _ => (pe_callTy call_int1 (by rfl) T.z_int (by decide +kernel) (pa_cons (pv 3) pa_nil))))
    (C8.pss_cut (ps_if (pt_cmpR op_eq (pe_callB call_len_seq (by rfl) T.z_len PySem.boot_len (pa_cons (pv 2) pa_nil)) pe_int (nomark _))
    (pss_one (ps_expr (pe_bm PySem.F.plainAttrs_list PySem.F.slot_list_append PySem.F.type_list_append mt_append (pv 2) (pa_cons pe_int pa_nil))))
    pss_nil)
    (pss_cons (ps_set (i := 4) sc_law_draws.nd rfl (Or.inl rfl) (pe_callTy call_list_of (by rfl) T.z_list (by decide +kernel) (pa_cons (pv 2) pa_nil)))
    (pss_cons (ps_set (i := 5) sc_law_draws.nd rfl (Or.inl rfl) (pe_lst pa_nil))
    (pss_cons (ps_for  PassesOwn.never rfl (pi_range1 (by rfl) T.z_range (pa_cons (pv 1) pa_nil)) (pg_name (i := 6) sc_law_draws.nd rfl (Or.inl rfl))
    (pss_cons (ps_set (i := 7) sc_law_draws.nd rfl (Or.inl rfl) (pe_op op_mod (pv 6) (pe_callB call_len_seq (by rfl) T.z_len PySem.boot_len (pa_cons (pv 2) pa_nil))))
    (pss_one (ps_if (pt_cmpR op_ge (pe_ix ix_list (pv 2) (pv 7) (fun _ _ => rfl)) (pe_op op_pow pe_int pe_int) (nomark _))
    (pss_cons (ps_expr (pe_bm PySem.F.plainAttrs_list PySem.F.slot_list_append PySem.F.type_list_append mt_append (pv 5) (pa_cons (pe_op op_mod (pe_callTy call_int1 (by rfl) T.z_int (by decide +kernel) (pa_cons (pe_ix ix_list (pv 4) (pv 7) (fun _ _ => rfl)) pa_nil)) pe_int) pa_nil)))
    (pss_one (ps_asg (pe_op op_fdiv (pe_ix ix_list (pv 4) (pv 7) (fun _ _ => rfl)) pe_int) (pg_sub (pv 4) (pv 7) set_list))))
    (pss_cons (ps_set (i := 8) sc_law_draws.nd rfl (Or.inl rfl) (pe_op op_mod (pe_callTy call_int1 (by rfl) T.z_int (by decide +kernel) (pa_cons (pe_op op_add (pe_op op_add (pe_op op_mul (pe_ix ix_list (pv 2) (pv 7) (fun _ _ => rfl)) pe_int) (pe_op op_mul (pv 6) pe_int)) pe_int) pa_nil)) pe_int))
    (pss_one (ps_expr (pe_bm PySem.F.plainAttrs_list PySem.F.slot_list_append PySem.F.type_list_append mt_append (pv 5) (pa_cons (pe_op op_mod (pe_callTy call_int1 (by rfl) T.z_int (by decide +kernel) (pa_cons (pe_op op_add (pe_op op_add (pe_op op_mul (pv 8) (pv 8)) (pe_op op_mul pe_int (pv 8))) (pv 6)) pa_nil)) pe_int) pa_nil)))))))))
    (pss_cons (ps_expr (pe_bm0 PySem.F.plainAttrs_list PySem.F.slot_list_reverse PySem.F.type_list_reverse mt_reverse (pv 5)))
    (pss_one (ps_ret (pv 5))))))))), ?_⟩
  -- cells
  refine ⟨_, rfl, a, rfl, ⟨_, hS⟩, fun c hc => ?_⟩
  refine lc_list (K := K) (a := a) (xs := ns.map V.int) (fun (j : Nat) (H' : Hp) => Same H H' ∧ H' c = some (.lst ((ns.take j).map V.int))) ?_ ?_ ?_ ?_
  · exact ⟨same_new hc _, by rw [upd_same, List.take_zero]; rfl⟩
  · rintro i H' _ ⟨s1, _⟩
    exact s1.seq hS
  · rintro i x H' hx ⟨s1, e1⟩
    rw [List.getElem?_map] at hx
    cases hn : ns[i]? with
    | none => rw [hn] at hx; cases hx
    | some n =>
      rw [hn] at hx
      obtain rfl : V.int n = x := Option.some.inj hx
      refine ⟨rfl, yes_if ?_⟩
      refine ⟨_, rfl, .inl ⟨n, rfl, _, e1, ?_, same_put s1 hc, ?_⟩⟩
      · rw [List.length_map, List.length_take]
        exact big' (by omega)
      · rw [upd_same, List.take_add_one, hn, List.map_append]
        rfl
  · rintro H1 ⟨s1, e1⟩
    rw [List.length_map, List.take_length] at e1
    -- at least one cell
    refine ⟨fun σ H2 => ∃ cs : List Int, cs ≠ [] ∧ cs.length ≤ 63 ∧ σ = [some (.ref a), some (.int m), some (.ref c), none, none, none, none, none, none] ∧ Same H H2 ∧ H2 c = some (.lst (cs.map V.int)), ?_, ?_⟩
    · refine ⟨_, rfl, _, _, rfl, .inl (sqd e1), rfl, _, rfl, ?_⟩
      refine ite2 (fun z => ?_) (fun z => ?_)
      · refine ⟨_, rfl, .inl ⟨rfl, _, sqd e1⟩, c, _, _, rfl, rfl, e1, ?_, ?_⟩
        · rw [List.length_map]
          exact big' (by omega)
        · have hz := int_eq z
          rw [List.length_map] at hz
          have : ns = [] := List.length_eq_zero_iff.mp (by omega)
          subst this
          exact ⟨[0], by simp, by decide, rfl, same_put s1 hc, upd_same⟩
      · have hz := int_ne z
        rw [List.length_map] at hz
        refine ⟨ns, ?_, hl, rfl, s1, e1⟩
        rintro rfl
        exact hz rfl
    · rintro σ H2 ⟨cs, hcs, hcl, rfl, s2, e2⟩
      have hpos : 0 < cs.length := List.length_pos_iff.mpr hcs
      -- rest, draws
      refine ⟨_, rfl, _, _, rfl, .inl (sqd e2), fun r hr2 => ?_⟩
      have ncr : c ≠ r := ne_of_none e2 hr2
      refine ⟨(Nat.le_of_ble_eq_true rfl), fun d hd => ?_⟩
      have ncd : c ≠ d := ne_of_none (by rw [upd_ne ncr]; exact e2) hd
      have nrd : r ≠ d := ne_of_none upd_same hd
      have hHr : H r = none := s2.free hr2
      have hHd : H d = none := (s2.trans (same_new hr2 _)).free hd
      refine ⟨_, rfl, m, rfl, by omega, by omega, for_range (lo := 0) (n := m.toNat) (fun (j : Nat) (σ : L2.St) (H' : Hp) => ∃ (rs ds : List Int) (y1 y2 y3 : Option V), σ = [some (.ref a), some (.int m), some (.ref c), none, some (.ref r), some (.ref d), y1, y2, y3] ∧ Same H H' ∧ H' c = some (.lst (cs.map V.int)) ∧ H' r = some (.lst (rs.map V.int)) ∧ rs.length = cs.length ∧ H' d = some (.lst (ds.map V.int)) ∧ ds.length ≤ j) ?_ ?_ ?_⟩
      · refine ⟨cs, [], none, none, none, rfl, (s2.trans (same_new hr2 _)).trans (same_new hd _), ?_, ?_, rfl, upd_same, Nat.le_refl _⟩
        · rw [upd_ne ncd, upd_ne ncr]; exact e2
        · rw [upd_ne nrd]; exact upd_same
      · rintro j σ H' hj ⟨rs, ds, y1, y2, y3, rfl, s3, ec, er, hrl, ed, hdl⟩
        have b0 := Int.emod_nonneg ((0 : Int) + (j : Int)) (show (((cs.map V.int).length : Nat) : Int) ≠ 0 by rw [List.length_map]; omega)
        have b1 : (((0 : Int) + (j : Int)) % (((cs.map V.int).length : Nat) : Int)) < (cs.length : Int) := by
          have h := Int.emod_lt_of_pos ((0 : Int) + (j : Int)) (show 0 < (((cs.map V.int).length : Nat) : Int) by rw [List.length_map]; omega)
          rw [List.length_map] at h ⊢
          exact h
        refine ⟨_, rfl, _, rfl, _, _, rfl, .inl (sqd ec), _, _, rfl, rfl, (by show 0 < (((cs.map V.int).length : Nat) : Int); rw [List.length_map]; omega), ?_⟩
        obtain ⟨cv, hcv, _⟩ := atI_map (f := V.int) (xs := cs) b0 b1
        obtain ⟨rv, hrv, _⟩ := atI_map (f := V.int) (xs := rs) b0 (by omega)
        refine ⟨_, rfl, _, rfl, _, _, _, _, rfl, rfl, sqd ec, hcv, _, _, rfl, rfl, ⟨by decide, by decide, by decide⟩, _, _, rfl, rfl, _, rfl, ?_⟩
        refine ite2 (fun z => ?_) (fun z => ?_)
        · refine ⟨_, rfl, .inl ⟨rfl, _, sqd ed⟩, _, rfl, _, rfl, _, _, _, _, rfl, rfl, sqd er, hrv, .inl ⟨_, rfl, _, _, rfl, rfl, (by show (0 : Int) < 1000; decide), d, _, _, rfl, rfl, ed, ?_, ?_⟩⟩
          · rw [List.length_map]
            exact big' (by omega)
          · have er2 : ∀ o, (upd H' d o) r = some (.lst (rs.map V.int)) := fun o => by rw [upd_ne nrd]; exact er
            refine ⟨_, rfl, _, rfl, _, _, _, _, rfl, rfl, sqd (er2 _), hrv, _, _, rfl, rfl, ⟨by decide, by decide⟩, _, rfl, _, rfl, r, _, _, _, rfl, rfl, er2 _, ixN_in b0 (by have h : (rs.map V.int).length = rs.length := List.length_map _; omega), ?_⟩
            refine ⟨rs.set (((0 : Int) + (j : Int)) % (((cs.map V.int).length : Nat) : Int)).toNat (rv / 1000), ds ++ [rv % 1000], _, _, _, rfl, same_put (same_put s3 hHd) hHr, ?_, ?_, ?_, ?_, ?_⟩
            · rw [upd_ne ncr, upd_ne ncd]; exact ec
            · rw [upd_same, List.map_set]
            · rw [List.length_set]; exact hrl
            · rw [upd_ne nrd.symm, upd_same, List.map_append]; rfl
            · rw [List.length_append, List.length_singleton]; omega
        · have o0 := fun z : Int => Int.emod_nonneg z (by decide : (2147483647 : Int) ≠ 0)
          have o1 := fun z : Int => Int.emod_lt_of_pos z (by decide : (0 : Int) < 2147483647)
          refine ⟨_, rfl, _, rfl, _, _, _, _, rfl, rfl, sqd ec, hcv, _, _, rfl, rfl, .inr ⟨by decide, by decide⟩, _, rfl, _, _, rfl, rfl, .inr ⟨by decide, by decide⟩, _, _, rfl, rfl, _, _, rfl, rfl, .inl ⟨_, rfl, _, _, rfl, rfl, (by show (0 : Int) < 2147483647; decide), ?_⟩⟩
          refine ⟨_, rfl, .inl ⟨rfl, _, sqd ed⟩, _, rfl, _, rfl, _, _, rfl, rfl, ?_, ?_⟩
          · left
            have h1 := o0 (cv * 48271 + (0 + (j : Int)) * 69621 + 11)
            have h2 := o1 (cv * 48271 + (0 + (j : Int)) * 69621 + 11)
            constructor
            · show -(2 ^ 64) < _
              omega
            · show _ < 2 ^ 64
              omega
          · refine ⟨_, rfl, _, _, rfl, rfl, .inl ⟨by decide, by decide⟩, _, _, rfl, rfl, _, rfl, _, _, rfl, rfl, .inl ⟨_, rfl, _, _, rfl, rfl, (by show (0 : Int) < 1000003; decide), d, _, _, rfl, rfl, ed, ?_, ?_⟩⟩
            · rw [List.length_map]
              exact big' (by omega)
            · refine ⟨rs, ds ++ [(((cv * 48271 + (0 + (j : Int)) * 69621 + 11) % 2147483647) * ((cv * 48271 + (0 + (j : Int)) * 69621 + 11) % 2147483647) + 3 * ((cv * 48271 + (0 + (j : Int)) * 69621 + 11) % 2147483647) + (0 + (j : Int))) % 1000003], _, _, _, rfl, same_put s3 hHd, ?_, ?_, hrl, ?_, ?_⟩
              · rw [upd_ne ncd]; exact ec
              · rw [upd_ne nrd]; exact er
              · rw [upd_same, List.map_append]; rfl
              · rw [List.length_append, List.length_singleton]; omega
      · rintro σ H' ⟨rs, ds, y1, y2, y3, rfl, s3, ec, er, hrl, ed, hdl⟩
        refine ⟨_, rfl, .inl ⟨rfl, _, sqd ed⟩, d, _, rfl, rfl, ed, ?_⟩
        refine ⟨_, rfl, q d _ (same_put s3 hHd) hHd ⟨ds.reverse, ?_⟩⟩
        rw [upd_same, List.map_reverse]
end
end NL

namespace NL
open PySem PySem.Spec PyProof.Rows L2
/-! ### rows and what stands in them -/
def Each {α : Type} (R : α → V → Prop) (l : List α) (xs : List V) : Prop := xs.length = l.length ∧ ∀ (k : Nat) a x, l[k]? = some a → xs[k]? = some x → R a x
theorem Each.nil {α : Type} {R : α → V → Prop} : Each R [] [] := ⟨rfl, fun k a x h => by simp at h⟩
theorem Each.mono {α : Type} {R S : α → V → Prop} {l : List α} {xs : List V} (h : Each R l xs) (f : ∀ a x, R a x → S a x) : Each S l xs := ⟨h.1, fun k a x e g => f a x (h.2 k a x e g)⟩
theorem Each.cons {α : Type} {R : α → V → Prop} {l : List α} {xs : List V} {a : α} {x : V} (r : R a x) (h : Each R l xs) : Each R (a :: l) (x :: xs) := ⟨by rw [List.length_cons, List.length_cons, h.1], fun k b y e g => by
  cases k with
  | zero => cases e; cases g; exact r
  | succ k => exact h.2 k b y e g⟩
theorem Each.app {α : Type} {R : α → V → Prop} {l m : List α} {xs ys : List V} (h : Each R l xs) (g : Each R m ys) : Each R (l ++ m) (xs ++ ys) := by
  refine ⟨by rw [List.length_append, List.length_append, h.1, g.1], fun k r x e f => ?_⟩
  by_cases hk : k < l.length
  · rw [List.getElem?_append_left hk] at e
    rw [List.getElem?_append_left (by rw [h.1]; exact hk)] at f
    exact h.2 k r x e f
  · rw [List.getElem?_append_right (by omega)] at e
    rw [List.getElem?_append_right (by rw [h.1]; omega), h.1] at f
    exact g.2 _ r x e f
theorem Each.snoc {α : Type} {R : α → V → Prop} {l : List α} {xs : List V} {a : α} {x : V} (h : Each R l xs) (r : R a x) : Each R (l ++ [a]) (xs ++ [x]) := h.app (.cons r .nil)
theorem Each.take {α : Type} {R : α → V → Prop} {l : List α} {xs : List V} (h : Each R l xs) (n : Nat) : Each R (l.take n) (xs.take n) := ⟨by rw [List.length_take, List.length_take, h.1], fun k a x e g => by
  rw [List.getElem?_take] at e g
  split at e
  · rename_i hk
    rw [if_pos hk] at g
    exact h.2 k a x e g
  · cases e⟩
theorem Each.drop {α : Type} {R : α → V → Prop} {l : List α} {xs : List V} (h : Each R l xs) (n : Nat) : Each R (l.drop n) (xs.drop n) := ⟨by rw [List.length_drop, List.length_drop, h.1], fun k a x e g => by
  rw [List.getElem?_drop] at e g
  exact h.2 _ a x e g⟩
theorem Each.set {α : Type} {R : α → V → Prop} {l : List α} {xs : List V} {a : α} {x : V} (h : Each R l xs) (n : Nat) (r : R a x) : Each R (l.set n a) (xs.set n x) := ⟨by rw [List.length_set, List.length_set, h.1], fun k b y e g => by
  rw [List.getElem?_set] at e g
  by_cases hk : n = k
  · rw [if_pos hk] at e g
    by_cases hl : n < l.length
    · rw [if_pos hl] at e
      rw [if_pos (by rw [h.1]; exact hl)] at g
      cases e; cases g; exact r
    · rw [if_neg hl] at e
      cases e
  · rw [if_neg hk] at e g
    exact h.2 k b y e g⟩
theorem Each.at {α : Type} {R : α → V → Prop} {l : List α} {xs : List V} {a : α} {k : Nat} (h : Each R l xs) (e : l[k]? = some a) : ∃ x, xs[k]? = some x ∧ R a x := by
  have hk : k < xs.length := by
    rw [h.1]
    exact (List.getElem?_eq_some_iff.mp e).1
  exact ⟨_, List.getElem?_eq_getElem hk, h.2 k a _ e (List.getElem?_eq_getElem hk)⟩
theorem Each.atI {α : Type} {R : α → V → Prop} {l : List α} {xs : List V} {i : Int} (h : Each R l xs) (h0 : 0 ≤ i) (h1 : i < l.length) : ∃ a x, l[i.toNat]? = some a ∧ atI xs i = some x ∧ R a x := by
  have hk : i.toNat < l.length := by omega
  obtain ⟨x, hx, r⟩ := h.at (List.getElem?_eq_getElem hk)
  have q : L2.atI xs ((i.toNat : Nat) : Int) = some x := atI_nat hx
  rw [show ((i.toNat : Nat) : Int) = i by omega] at q
  exact ⟨_, x, List.getElem?_eq_getElem hk, q, r⟩
/-! ### options, positions, arenas -/
abbrev Opt := List Int
abbrev Pos' := List Opt
abbrev Ar := List Pos'
def OptIn (H : Hp) (o : Opt) (v : V) : Prop := ∃ b, v = .ref b ∧ H b = some (.tup (o.map V.int))
def PosIn (H : Hp) (os : Pos') (v : V) : Prop := ∃ b xs, v = .ref b ∧ H b = some (.tup xs) ∧ Each (OptIn H) os xs
def ArIn (H : Hp) (A : Ar) (v : V) : Prop := ∃ b xs, v = .ref b ∧ H b = some (.tup xs) ∧ Each (PosIn H) A xs
theorem OptIn.tp {H H' : Hp} {o : Opt} {v : V} (t : Tp H H') (h : OptIn H o v) : OptIn H' o v := by
  obtain ⟨b, e, q⟩ := h
  exact ⟨b, e, t _ _ q⟩
theorem PosIn.tp {H H' : Hp} {o : Pos'} {v : V} (t : Tp H H') (h : PosIn H o v) : PosIn H' o v := by
  obtain ⟨b, xs, e, q, r⟩ := h
  exact ⟨b, xs, e, t _ _ q, r.mono fun a x => OptIn.tp t⟩
theorem ArIn.tp {H H' : Hp} {o : Ar} {v : V} (t : Tp H H') (h : ArIn H o v) : ArIn H' o v := by
  obtain ⟨b, xs, e, q, r⟩ := h
  exact ⟨b, xs, e, t _ _ q, r.mono fun a x => PosIn.tp t⟩
/-- an option of an arena with n positions -/
structure OptG (n : Int) (o : Opt) : Prop where
  ne : o ≠ []
  len : o.length ≤ 60
  mem : ∀ s ∈ o, -1 ≤ s ∧ s < n
  asc : o.Pairwise (· < ·)
def PosG (n : Int) (os : Pos') : Prop := os.length ≤ 12 ∧ ∀ o ∈ os, OptG n o
def ArG (A : Ar) : Prop := A.length ≤ 46 ∧ ∀ os ∈ A, PosG A.length os
theorem OptG.one {n s : Int} (h0 : -1 ≤ s) (h1 : s < n) : OptG n [s] := ⟨by simp, by simp, fun t ht => by rw [List.mem_singleton.mp ht]; exact ⟨h0, h1⟩, List.pairwise_singleton _ _⟩
theorem asc_of {l m : List Int} (h : l.Perm m) (hm : m.Nodup) (hp : l.Pairwise (· ≤ ·)) : l.Pairwise (· < ·) := by
  have hn : l.Nodup := h.nodup_iff.mpr hm
  refine (hp.and hn).imp fun {a b} h => ?_
  obtain ⟨h1, h2⟩ := h
  omega
theorem tp_put {H H' : Hp} {p : Addr} {o : List V} {o' : HO} (t : Tp H H') (h : H' p = some (.lst o)) : Tp H (upd H' p o') := fun a xs e => by
  have n : a ≠ p := fun q => by
    have := t a xs e
    rw [q, h] at this
    cases this
  rw [upd_ne n]
  exact t a xs e
theorem Go.put2 {d p : Addr} {H H' : Hp} {o : HO} (g : Go d H H') (hp : H p = none) (n : p ≠ d) : Go d H (upd H' p o) := ⟨fun b u hb e => by
  rw [upd_ne (ne_of_none e hp)]
  exact g.fr b u hb e, by
  obtain ⟨ns, e⟩ := g.dr
  exact ⟨ns, by rw [upd_ne n.symm]; exact e⟩⟩
theorem new_ne {d p : Addr} {H : Hp} (h : Dr H d) (hp : H p = none) : p ≠ d := by
  rintro rfl
  obtain ⟨ns, e⟩ := h
  rw [hp] at e
  cases e
theorem Go.free {d p : Addr} {H H' : Hp} (g : Go d H H') (hp : H' p = none) : H p = none := by
  cases e : H p with
  | none => rfl
  | some o =>
    by_cases hd : p = d
    · obtain ⟨ns, q⟩ := g.dr
      rw [hd, q] at hp
      cases hp
    · rw [g.fr p o hd e] at hp
      cases hp
end NL

set_option maxHeartbeats 4000000
namespace NL
open PySem PySem.Spec PyProof.Rows L2
section
variable {P : Program} {w : World} {A : Around} {E : Value → Shared → Prop} {s : Shared}
set_option maxHeartbeats 3200000 in
theorem call_set_ints {l : Addr} {items : Array Value} (ns : List Int) {Q : Value → Shared → Prop} (hh : A.handled = none) (hl : s.heap.IsList l items) (hit : IntsAre items.toList ns) (hb : ns.length + 1 < scanBound)
    (h : ∀ (h' : Heap) (tk c : Nat), SetR w h' s.heap.objs.size (fun j => decide (j ∈ ns)) c → c ≤ ns.length → (∀ b o, s.heap.get? b = some o → h'.get? b = some o) → Q (.ref s.heap.objs.size) { s with heap := h', toks := tk }) :
    wpAny (model P w) A (call (.type "set") [.ref l]) Q E s := by
  have hisz : items.size = ns.length := by
    have q := IntsAre.length hit
    rw [Array.length_toList] at q
    exact q
  obtain ⟨c, tl, hmro⟩ := F.called_set.mro
  have hmade := F.called_set.made
  have hsub := F.called_set.sub
  refine wpAny_call (codeAny_of_tree ?_)
  show wpAny _ _ (callAny (.type "set") _) _ _ _
  refine wpAny_pure ⟨Code.quiet_builtin _ (by decide +kernel), codeAny_builtin F.entry_type_call ?_⟩
  rw [Around.under_plain (weight_type_call_type "set" [.ref l] []) rfl]
  have h1 := F.called_set.notType
  have h2 := F.called_set.canCreate
  have hct := F.typeCall_set_1 (.ref l)
  repeat (any_goals (first | assumption | wp_step))
  refine codeAny_mono (code_set_led1 (.ref l) (E := E) (Q₁ := fun obj s₁ => obj = .ref s.heap.objs.size ∧ s₁ = { s with heap := s.heap.push { cls := .type "set", dict := none, data := .set #[] 0 (.fresh 0 0 (!w.params.followText "set-order")) } }) ⟨rfl, rfl⟩) fun r s₁ hr => ?_
  cases r with
  | error e => exact hr
  | ok fl =>
    cases fl with
    | ret obj =>
      obtain ⟨rfl, rfl⟩ := hr
      have hS : (s.heap.push { cls := .type "set", dict := none, data := .set #[] 0 (.fresh 0 0 (!w.params.followText "set-order")) }).get? s.heap.objs.size = some { cls := .type "set", dict := none, data := .set #[] 0 (.fresh 0 0 (!w.params.followText "set-order")) } := Heap.get?_push_size _ rfl
      have hT : Shared.TypeIs { s with heap := s.heap.push { cls := .type "set", dict := none, data := .set #[] 0 (.fresh 0 0 (!w.params.followText "set-order")) } } (.ref s.heap.objs.size) "set" := ⟨_, hS, rfl⟩
      have hli := F.called_set.init.lookup
      have hbi := F.called_set.init.bind (.ref s.heap.objs.size)
      repeat (any_goals (first | assumption | wp_step))
      refine codeAny_mono (codeAny_call_builtin (R := wants (fun r s₂ => r = .none ∧ ∃ h' tk c, s₂ = { s with heap := h', toks := tk } ∧ SetR w h' s.heap.objs.size (fun j => decide (j ∈ ns)) c ∧ c ≤ ns.length ∧
          (∀ b o, s.heap.get? b = some o → h'.get? b = some o)) E) F.called_set.init.plain F.entry_set_init (check_set_init_1 hT ?_)) fun r₂ s₂ hr₂ => ?_
      · obtain ⟨ol, hol, hcl, nl, hdl⟩ := hl
        obtain ⟨ocls, odict, odata, oslots⟩ := ol
        simp only at hcl hdl
        subst hcl; subst hdl
        have hol' : (s.heap.push { cls := .type "set", dict := none, data := .set #[] 0 (.fresh 0 0 (!w.params.followText "set-order")) }).get? l = some { cls := .type "list", dict := odict, data := .seq items nl, slots := oslots } := Heap.get?_push_of_some _ hol
        have hsls := F.sub_list_set
        have hslf := F.sub_list_frozenset
        have hne : (Value.type "list" == Value.type "dict") = false := by decide
        have hl1 : (s.heap.push { cls := .type "set", dict := none, data := .set #[] 0 (.fresh 0 0 (!w.params.followText "set-order")) }).IsList l items := ⟨_, hol', rfl, nl, rfl⟩
        unfold Builtin.«set.__init__» noKeywords Builtin.Frozenset.updateFrom
        generalize hPI : pyIter = PI
        wp_walk
        subst hPI
        refine wpAny_pyIter_list hl1 ?_
        refine wpAny_bind (wpAny_runValue ?_)
        have hlS : l < s.heap.objs.size := Heap.lt_size hol
        have hh3 : A.in1.in1.in1.handled = none := by simp [hh]
        have hneI : l ≠ (s.heap.push { cls := .type "set", dict := none, data := .set #[] 0 (.fresh 0 0 (!w.params.followText "set-order")) }).objs.size := by
          rw [Heap.size_push]; exact Nat.ne_of_lt (Nat.lt_succ_of_lt hlS)
        have hSf : s.heap.objs.size ∉ [(s.heap.push { cls := .type "set", dict := none, data := .set #[] 0 (.fresh 0 0 (!w.params.followText "set-order")) }).objs.size, l] := by
          rw [Heap.size_push]; simp only [List.mem_cons, List.mem_singleton, List.not_mem_nil, or_false, not_or]
          exact ⟨Nat.ne_of_lt (Nat.lt_succ_self _), Nat.ne_of_gt hlS⟩
        have hval : ∀ (i : Nat) (v : Value), items[i]? = some v → ∃ k t, ns[i]? = some k ∧ v = .int k t := fun i v hv => by
          obtain ⟨n, t, e1, e2⟩ := IntsAre.at hit i v (by rw [Array.getElem?_toList]; exact hv)
          exact ⟨n, t, e2, e1⟩
        refine set_update_ints ((Walks.list hh3 _ l hneI items).toS) s.heap.objs.size
          hSf ns hisz hb hval (items.size - 0) 0 _ (by omega) (Nat.zero_le _)
          ⟨⟨_, Heap.get?_push_size _ rfl, rfl, rfl⟩, (hl1.push _)⟩ ?hS0 ?hR
        case hS0 =>
          have hget : ((s.heap.push { cls := .type "set", dict := none, data := .set #[] 0 (.fresh 0 0 (!w.params.followText "set-order")) }).push { cls := .type "list_iterator", data := .fields #[.ref l, .int 0 0] }).get? s.heap.objs.size
              = some { cls := .type "set", dict := none, data := .set #[] 0 (.fresh 0 0 (!w.params.followText "set-order")) } := Heap.get?_push_of_some _ hS
          exact ⟨0, Nat.le_refl 0, setR_new_at hget⟩
        case hR =>
          intro s' c' hm hc' hS'
          obtain ⟨h', g2, d', tk', os'⟩ := s'
          have eg : g2 = s.gens := hm.gens
          have ed : d' = s.drawn := hm.drawn
          have eo : os' = s.os := hm.os
          subst eg; subst ed; subst eo
          show wpAny _ _ _ _ _ _
          refine wpAny_pure ?_
          show wpAny _ _ (ret Value.none) _ _ _
          rw [hisz] at hc'
          refine wpAny_pure ⟨rfl, h', tk', c', rfl, hS', hc', fun b o e => ?_⟩
          have hb0 : b < s.heap.objs.size := Heap.lt_size e
          have hb1 : b ≠ s.heap.objs.size := Nat.ne_of_lt hb0
          have hb2 : b ≠ (s.heap.push { cls := .type "set", dict := none, data := .set #[] 0 (.fresh 0 0 (!w.params.followText "set-order")) }).objs.size := by
            rw [Heap.size_push]; exact Nat.ne_of_lt (Nat.lt_succ_of_lt hb0)
          exact hm.heap b o (by simp only [List.mem_cons, List.mem_singleton, List.not_mem_nil, or_false, not_or]; exact ⟨hb1, hb2⟩) (Heap.get?_push_of_some _ (Heap.get?_push_of_some _ e))
      · cases r₂ with
        | error e => exact hr₂
        | ok fl₂ =>
          cases fl₂ with
          | ret r =>
            obtain ⟨rfl, h', tk, c', rfl, hS', hc', hk'⟩ := hr₂
            repeat (any_goals (first | assumption | wp_step))
            exact h _ _ _ hS' hc' hk'
          | _ => exact hr₂.elim
    | _ => exact hr.elim
end
variable {X : Cx}
def rSetOfI (K : PySem.W.Frag) (w : World) : List V → Hp → VK → Prop := fun xs H Q => ∃ (l : Addr) (ns : List Int), xs = [.ref l] ∧ SqL K H l (ns.map V.int) ∧ ns.length < 64 ∧ ∀ a c, H a = none → c ≤ ns.length → Q (.ref a) (upd H a (SetO w a (fun j => decide (j ∈ ns)) c))
theorem cr_setOfI (hc : X.calm = true) : CallR X (.type "set") (rSetOfI X.K X.w) := by
  intro pins s σ H xs us Q I r h
  obtain ⟨l, ks, rfl, hl, hf, q⟩ := h
  rw [Vals.ref1 r]
  obtain ⟨its, rv, pl, hz⟩ := I.list hl
  have hn : H s.heap.objs.size = none := I.hok.fresh (Nat.le_refl _)
  refine call_set_ints (P := X.prog) (w := X.w) ks (I.ok.hd hc) pl.isList (by simpa using ints_of_vals rv) (by unfold scanBound; omega) fun h' tk c R hc' k => ?_
  exact ⟨.ref s.heap.objs.size, upd H s.heap.objs.size (SetO X.w s.heap.objs.size _ c), I.laid (t' := tk) k (Nat.le_refl _) (setO_new R), rfl, q _ c hn hc'⟩
end NL

namespace NL
open PySem PySem.Spec PyProof.Rows L2
theorem cut_tl {x : V} {r : List V} : cutV (x :: r) (some 1) none = r := by
  unfold cutV
  rw [show HT.sIx (x :: r).length 0 (some 1) = min 1 (x :: r).length from HT.sIx_nat _ _ 1, HT.sIx_none, List.length_cons, show min 1 (r.length + 1) = 1 by omega]
  simp
theorem asc_lt {l : List Int} (h : l.Pairwise (· < ·)) : l.Nodup := h.imp fun {a b} h e => by omega
theorem newH {H : Hp} {p : Addr} (hp : H p = none) (o : HO) : ∃ H', upd H p o = H' ∧ Same H H' ∧ H' p = some o := ⟨_, rfl, same_new hp _, upd_same⟩
section
variable {P : Program} {w : World} {K : PySem.W.Frag} {mg : Str → Option Value} {base : Heap}
/-! ### _law_great -/
def spGreat : Sp := fun vs H Q _ => ∃ d : Addr, vs = [.ref d] ∧ Dr H d ∧ ∀ v A H', Go d H H' → ArIn H' A v → ArG A → Q v H'
theorem ok_law_great (T : Txt K mg) : FnOk P w K mg base CX0 2 T.a_law_great T.d_law_great P_law_great spGreat := by
  have G_law_take := ok_law_take (P := P) (w := w) (base := base) T
  refine T.F_law_great.ok sc_law_great (fun vs H Q E h => ?_) (fun cdv A outer s H vs Q E hr h => ?_)
  · obtain ⟨d, rfl, _⟩ := h
    rfl
  obtain ⟨d, rfl, hD, q⟩ := h
  refine ⟨_, (pss_cons (ps_set (i := 1) sc_law_great.nd rfl (Or.inl rfl) (pe_op op_add pe_int (pe_call G_law_take (hr.mono (by omega)) (by rfl) T.m_law_take T.F_law_take.kp T.b_law_take .nil pass0 (pa_cons (pv 0) (pa_cons pe_int pa_nil)))))
    (pss_cons (ps_set (i := 2) sc_law_great.nd rfl (Or.inl rfl) (pe_call G_law_take (hr.mono (by omega)) (by rfl) T.m_law_take T.F_law_take.kp T.b_law_take .nil pass0 (pa_cons (pv 0) (pa_cons (pv 1) pa_nil))))
    (pss_cons (ps_set (i := 3) sc_law_great.nd rfl (Or.inl rfl) (pe_call G_law_take (hr.mono (by omega)) (by rfl) T.m_law_take T.F_law_take.kp T.b_law_take .nil pass0 (pa_cons (pv 0) (pa_cons (pv 1) pa_nil))))
    (pss_cons (ps_set (i := 4) sc_law_great.nd rfl (Or.inl rfl) (pe_op op_add pe_int (pe_call G_law_take (hr.mono (by omega)) (by rfl) T.m_law_take T.F_law_take.kp T.b_law_take .nil pass0 (pa_cons (pv 0) (pa_cons (pe_ix ix_list (pe_lst (pa_cons pe_int (pa_cons pe_int pa_nil))) (pe_call G_law_take (hr.mono (by omega)) (by rfl) T.m_law_take T.F_law_take.kp T.b_law_take .nil pass0 (pa_cons (pv 0) (pa_cons pe_int pa_nil))) (fun _ _ => rfl)) pa_nil)))))
    (pss_cons (ps_set (i := 5) sc_law_great.nd rfl (Or.inl rfl) (pe_call G_law_take (hr.mono (by omega)) (by rfl) T.m_law_take T.F_law_take.kp T.b_law_take .nil pass0 (pa_cons (pv 0) (pa_cons pe_int pa_nil))))
    (pss_cons (ps_set (i := 6) sc_law_great.nd rfl (Or.inl rfl) (pe_lst pa_nil))
    (pss_cons (ps_for  PassesOwn.never rfl (pi_range1 (by rfl) T.z_range (pa_cons (pv 1) pa_nil)) (pg_name (i := 7) sc_law_great.nd rfl (Or.inl rfl))
    (pss_cons (ps_set (i := 8) sc_law_great.nd rfl (Or.inl rfl) (pe_lst (pa_cons (pe_tup (pa_cons (pe_op op_mod (pe_callTy call_int1 (by rfl) T.z_int (by decide +kernel) (pa_cons (pe_op op_add (pv 7) pe_int) pa_nil)) (pv 1)) pa_nil)) (pa_cons (pe_callTy call_tuple_of (by rfl) T.z_tuple (by decide +kernel) (pa_cons (pe_callB (cr_sortedSet rfl) (by rfl) T.z_sorted (by decide +kernel) (pa_cons (pe_callTy (cr_setOfI rfl) (by rfl) T.z_set (by decide +kernel) (pa_cons (pe_lst (pa_cons (pe_op op_mod (pe_callTy call_int1 (by rfl) T.z_int (by decide +kernel) (pa_cons (pe_op op_add (pe_op op_mul (pv 2) (pv 7)) (pv 3)) pa_nil)) (pv 1)) (pa_cons (pe_op op_mod (pe_callTy call_int1 (by rfl) T.z_int (by decide +kernel) (pa_cons (pe_op op_add (pe_op op_mul (pv 7) (pv 7)) (pv 2)) pa_nil)) (pv 1)) pa_nil))) pa_nil)) pa_nil)) pa_nil)) pa_nil))))
    (C8.pss_cut (ps_if (pt_cmpR op_eq (pe_op op_mod (pe_callTy call_int1 (by rfl) T.z_int (by decide +kernel) (pa_cons (pe_op op_add (pv 7) (pv 3)) pa_nil)) (pv 4)) pe_int (nomark _))
    (pss_one (ps_set (i := 8) sc_law_great.nd rfl (Or.inl rfl) (pe_slice sl_list (pv 8) (po_some pe_int) po_none)))
    pss_nil)
    (C8.pss_cut (ps_if (PW.pt (pw_and (pt_cmpR op_eq (pe_op op_mod (pe_callTy call_int1 (by rfl) T.z_int (by decide +kernel) (pa_cons (pe_op op_add (pv 7) (pv 2)) pa_nil)) (pe_op op_add (pv 4) pe_int)) pe_int (nomark _)) (pw_and1 (pt_cmpR op_gt (pv 5) pe_int (nomark _)))))
    (pss_one (ps_set (i := 8) sc_law_great.nd rfl (Or.inl rfl) (pe_ix ix_list (pe_lst (pa_cons (pe_lst (pa_cons (pe_tup (pa_cons (pe_un un_neg pe_int) (pa_cons (pv 7) pa_nil))) pa_nil)) (pa_cons (pe_lst pa_nil) (pa_cons (pe_lst (pa_cons (pe_tup (pa_cons (pe_un un_neg pe_int) pa_nil)) (pa_cons (pe_tup (pa_cons (pe_op op_mod (pe_callTy call_int1 (by rfl) T.z_int (by decide +kernel) (pa_cons (pe_op op_add (pv 7) pe_int) pa_nil)) (pv 1)) pa_nil)) pa_nil))) pa_nil)))) (pe_op op_sub (pv 5) pe_int) (fun _ _ => rfl))))
    pss_nil)
    (pss_one (ps_expr (pe_bm PySem.F.plainAttrs_list PySem.F.slot_list_append PySem.F.type_list_append mt_append (pv 6) (pa_cons (pe_callTy call_tuple_of (by rfl) T.z_tuple (by decide +kernel) (pa_cons (pv 8) pa_nil)) pa_nil))))))))
    (pss_one (ps_ret (pe_callTy call_tuple_of (by rfl) T.z_tuple (by decide +kernel) (pa_cons (pv 6) pa_nil))))))))))), ?_⟩
  refine ⟨_, rfl, d, 37, rfl, hD, by decide, fun u1 H1 g1 a1 b1 => ⟨_, _, rfl, rfl, ?_⟩⟩
  dsimp only
  generalize hN : (9 : Int) + u1 = N
  refine ⟨_, rfl, _, rfl, d, N, rfl, g1.dr, by omega, fun a H2 g2 a2 b2 => ?_⟩
  refine ⟨_, rfl, _, rfl, d, N, rfl, g2.dr, by omega, fun b H3 g3 a3 b3 => ?_⟩
  refine ⟨_, rfl, Nat.le_of_ble_eq_true rfl, fun l hl => ?_⟩
  have g3l := g3.trans (Go.new (o := .lst [.int 9, .int 60]) g3.dr hl)
  refine ⟨_, rfl, d, 2, rfl, g3l.dr, by decide, fun u2 H4 g4 a4 b4 => ?_⟩
  have el : H4 l = some (.lst ([9, 60].map V.int)) := g4.fr l _ (new_ne g3.dr hl) upd_same
  obtain ⟨m, hm, hmm⟩ := atI_map (f := V.int) (xs := ([9, 60] : List Int)) a4 b4
  have hm9 : m = 9 ∨ m = 60 := by simpa using hmm
  refine ⟨l, _, _, _, rfl, rfl, sqd el, hm, ?_⟩
  refine ⟨d, m, rfl, g4.dr, by omega, fun u3 H5 g5 a5 b5 => ⟨_, _, rfl, rfl, ?_⟩⟩
  dsimp only
  generalize hc : (3 : Int) + u3 = c
  refine ⟨_, rfl, d, 4, rfl, g5.dr, by decide, fun bad H6 g6 a6 b6 => ?_⟩
  have g16 := ((((g1.trans g2).trans g3l).trans g4).trans g5).trans g6
  refine ⟨Nat.zero_le _, fun p hp => ?_⟩
  have hpd := new_ne g6.dr hp
  have hp0 := g16.free hp
  refine ⟨_, rfl, N, rfl, by omega, by omega, for_range (lo := 0) (n := N.toNat) (fun (j : Nat) (σ : L2.St) (H' : Hp) => ∃ (xs : List V) (A' : Ar) (y7 y8 : Option V), σ = [some (.ref d), some (.int N), some (.int a), some (.int b), some (.int c), some (.int bad), some (.ref p), y7, y8] ∧ Go d H H' ∧ H' p = some (.lst xs) ∧ Each (PosIn H') A' xs ∧ A'.length = j ∧ ∀ os ∈ A', PosG N os) ?_ ?_ ?_⟩
  · exact ⟨[], [], none, none, rfl, g16.trans (Go.new g6.dr hp), upd_same, .nil, rfl, fun os h => nomatch h⟩
  · rintro j σ H7 hj ⟨xs, A', y7, y8, rfl, g7, e7, hxs, hA, hG⟩
    have hkN : (0 : Int) + (j : Int) < N := by omega
    have hN0 : 0 < N := by omega
    have md : ∀ z : Int, 0 ≤ z % N ∧ z % N < N := fun z => ⟨Int.emod_nonneg z (by omega), Int.emod_lt_of_pos z hN0⟩
    generalize hk : (0 : Int) + (j : Int) = k at hkN ⊢
    have hk0 : 0 ≤ k := by omega
    -- the two options
    refine ⟨_, rfl, _, _, rfl, rfl, .inl ⟨_, rfl, _, rfl, _, _, rfl, rfl, hN0, Nat.le_of_ble_eq_true rfl, fun t1 ht1 => ?_⟩⟩
    have s1 := same_new ht1 (.tup [V.int ((k + 1) % N)])
    have e1 : upd H7 t1 (.tup [V.int ((k + 1) % N)]) t1 = some (.tup [V.int ((k + 1) % N)]) := upd_same
    generalize upd H7 t1 (.tup [V.int ((k + 1) % N)]) = H8 at s1 e1 ⊢
    refine ⟨_, rfl, _, rfl, _, _, rfl, rfl, .inl ⟨by omega, by omega⟩, _, rfl, _, _, rfl, rfl, .inl ⟨_, rfl, _, rfl, _, _, rfl, rfl, hN0, ?_⟩⟩
    refine ⟨_, rfl, _, rfl, _, _, rfl, rfl, .inl ⟨by omega, by omega⟩, _, rfl, _, _, rfl, rfl, .inl ⟨_, rfl, _, rfl, _, _, rfl, rfl, hN0, ?_⟩⟩
    dsimp only
    generalize hx1 : (a * k + b) % N = x1
    generalize hx2 : (k * k + a) % N = x2
    have hb1 := md (a * k + b)
    have hb2 := md (k * k + a)
    rw [hx1] at hb1
    rw [hx2] at hb2
    refine ⟨Nat.le_of_ble_eq_true rfl, fun l1 hl1 => ⟨l1, [x1, x2], rfl, sqd upd_same, (by show 2 < 64; decide), fun s0 c1 hs0 hc1 => ?_⟩⟩
    have s2 := (same_new hl1 (.lst [V.int x1, V.int x2])).trans (same_new hs0 (SetO w s0 (fun j => decide (j ∈ [x1, x2])) c1))
    refine ⟨s0, _, c1, rfl, upd_same, Nat.lt_of_le_of_lt hc1 (by show 2 < 64; decide), fun ns q1 hasc hmem hlen hq1 => ?_⟩
    refine ⟨q1, _, rfl, .inl ⟨sqd upd_same, fun t2 ht2 => ?_⟩⟩
    obtain ⟨Ha, ea, sa, _⟩ := newH hq1 (.lst (ns.map V.int))
    rw [ea] at ht2 ⊢
    obtain ⟨Hb, eb, sb, et2⟩ := newH ht2 (.tup (ns.map V.int))
    rw [eb]
    refine ⟨Nat.le_of_ble_eq_true rfl, fun ol hol => ?_⟩
    obtain ⟨H9, e9, s9, e3⟩ := newH hol (.lst [V.ref t1, V.ref t2])
    rw [e9]
    have s4 := ((s2.trans sa).trans sb).trans s9
    have e2 := s9 _ _ et2
    have s79 := s1.trans s4
    have o1 : OptG N [(k + 1) % N] := .one (by have := md (k + 1); omega) (md (k + 1)).2
    have o2 : OptG N ns := by
      have hmm : ∀ s ∈ ns, s = x1 ∨ s = x2 := fun s hs => by
        have := (hmem s).mp hs
        simpa using this
      refine ⟨fun e => ?_, by rw [hlen]; exact Nat.le_trans hc1 (by show 2 ≤ 60; decide), fun s hs => ?_, hasc⟩
      · have := (hmem x1).mpr (by simp)
        rw [e] at this
        cases this
      · rcases hmm s hs with rfl | rfl <;> omega
    have r1 : OptIn H9 [(k + 1) % N] (.ref t1) := ⟨t1, rfl, s4 _ _ e1⟩
    have r2 : OptIn H9 ns (.ref t2) := ⟨t2, rfl, e2⟩
    let I : L2.St → Hp → Prop := fun σ H' => ∃ (os : Pos') (ol : Addr) (zs : List V), σ = [some (.ref d), some (.int N), some (.int a), some (.int b), some (.int c), some (.int bad), some (.ref p), some (.int k), some (.ref ol)] ∧ Same H7 H' ∧ H' ol = some (.lst zs) ∧ Each (OptIn H') os zs ∧ PosG N os
    -- the first one left out
    refine ⟨I, ?_, ?_⟩
    · refine ⟨_, rfl, _, rfl, _, _, rfl, rfl, .inl ⟨_, rfl, _, rfl, _, _, rfl, rfl, by omega, rfl, _, rfl, ?_⟩⟩
      refine ite2 (fun z => ?_) (fun z => ?_)
      · refine ⟨_, rfl, 1, rfl, ol, _, rfl, sqd e3, fun om hom => ?_⟩
        rw [cut_tl]
        have s5 := same_new hom (.lst [V.ref t2])
        exact ⟨[ns], om, _, rfl, s79.trans s5, upd_same, .cons (r2.tp (.same s5)) .nil, Nat.le_of_ble_eq_true rfl, fun o ho => by rw [List.mem_singleton.mp ho]; exact o2⟩
      · exact ⟨[_, ns], ol, _, rfl, s79, e3, .cons r1 (.cons r2 .nil), Nat.le_of_ble_eq_true rfl, fun o ho => by
          rcases List.mem_cons.mp ho with rfl | ho
          · exact o1
          · rw [List.mem_singleton.mp ho]; exact o2⟩
    rintro σ H10 ⟨os, ol2, zs, rfl, s10, e10, hzs, hos⟩
    -- bad ones
    refine ⟨I, ?_, ?_⟩
    · refine ⟨_, rfl, _, rfl, _, _, rfl, rfl, .inl ⟨_, rfl, _, rfl, _, _, rfl, rfl, _, _, rfl, rfl, by omega, rfl, _, rfl, ?_⟩⟩
      have keep : I [some (.ref d), some (.int N), some (.int a), some (.int b), some (.int c), some (.int bad), some (.ref p), some (.int k), some (.ref ol2)] H10 := ⟨os, ol2, zs, rfl, s10, e10, hzs, hos⟩
      refine ite2 (fun z => ?_) (fun z => ?_)
      · refine ⟨_, rfl, _, _, rfl, rfl, _, rfl, ?_⟩
        refine ite2 (fun z => ?_) (fun z => keep)
        have hbad : 0 < bad := of_decide_eq_true z
        refine ⟨_, rfl, _, rfl, Nat.le_of_ble_eq_true rfl, fun ta hta => ?_⟩
        obtain ⟨Ha, ea, sa, ka⟩ := newH hta (.tup [V.int (-1), V.int k])
        rw [show upd H10 ta (.tup [V.int (-1), V.int k]) = Ha from ea]
        refine ⟨Nat.le_of_ble_eq_true rfl, fun la hla => ?_⟩
        obtain ⟨Hb, eb, sb, kb⟩ := newH hla (.lst [V.ref ta])
        rw [eb]
        refine ⟨Nat.zero_le _, fun lb hlb => ?_⟩
        obtain ⟨Hc, ec, sc, kc⟩ := newH hlb (.lst [])
        rw [ec]
        refine ⟨_, rfl, Nat.le_of_ble_eq_true rfl, fun tb htb => ?_⟩
        obtain ⟨Hd, ed, sd, kd⟩ := newH htb (.tup [V.int (-1)])
        rw [show upd Hc tb (.tup [V.int (-1)]) = Hd from ed]
        refine ⟨_, rfl, _, _, rfl, rfl, .inl ⟨_, rfl, _, rfl, _, _, rfl, rfl, hN0, Nat.le_of_ble_eq_true rfl, fun tc htc => ?_⟩⟩
        obtain ⟨He, ee, se, ke⟩ := newH htc (.tup [V.int ((k + 2) % N)])
        rw [show upd Hd tc (.tup [V.int ((k + 2) % N)]) = He from ee]
        refine ⟨Nat.le_of_ble_eq_true rfl, fun lc hlc => ?_⟩
        obtain ⟨Hf, ef, sf, kf⟩ := newH hlc (.lst [V.ref tb, V.ref tc])
        rw [ef]
        refine ⟨Nat.le_of_ble_eq_true rfl, fun lo hlo => ?_⟩
        obtain ⟨Hg, eg, sg, kg⟩ := newH hlo (.lst [V.ref la, V.ref lb, V.ref lc])
        rw [eg]
        have sag := ((((((sa.trans sb).trans sc).trans sd).trans se).trans sf).trans sg)
        have m2 := md (k + 2)
        refine ⟨_, rfl, _, _, rfl, rfl, ?_⟩
        have hcase : bad = 1 ∨ bad = 2 ∨ bad = 3 := by omega
        rcases hcase with rfl | rfl | rfl
        · refine ⟨lo, _, _, _, rfl, rfl, sqd kg, atI0, ?_⟩
          refine ⟨[[-1, k]], la, _, rfl, s10.trans sag, (((((sc.trans sd).trans se).trans sf).trans sg)) _ _ kb, .cons ⟨ta, rfl, ((((((sb.trans sc).trans sd).trans se).trans sf).trans sg)) _ _ ka⟩ .nil, Nat.le_of_ble_eq_true rfl, fun o ho => ?_⟩
          rw [List.mem_singleton.mp ho]
          refine ⟨by simp, by simp, fun s hs => ?_, ?_⟩
          · simp only [List.mem_cons, List.not_mem_nil, or_false] at hs
            rcases hs with rfl | rfl <;> omega
          · refine List.pairwise_cons.mpr ⟨fun x hx => ?_, List.pairwise_singleton _ _⟩
            rw [List.mem_singleton.mp hx]
            omega
        · refine ⟨lo, _, _, _, rfl, rfl, sqd kg, atI1, ?_⟩
          exact ⟨[], lb, _, rfl, s10.trans sag, ((((sd.trans se).trans sf).trans sg)) _ _ kc, .nil, Nat.zero_le _, fun o ho => nomatch ho⟩
        · refine ⟨lo, _, _, _, rfl, rfl, sqd kg, (atI_nat (j := 2) rfl), ?_⟩
          refine ⟨[[-1], [(k + 2) % N]], lc, _, rfl, s10.trans sag, sg _ _ kf, .cons ⟨tb, rfl, ((se.trans sf).trans sg) _ _ kd⟩ (.cons ⟨tc, rfl, (sf.trans sg) _ _ ke⟩ .nil), Nat.le_of_ble_eq_true rfl, fun o ho => ?_⟩
          rcases List.mem_cons.mp ho with rfl | ho
          · exact .one (by omega) (by omega)
          · rw [List.mem_singleton.mp ho]
            exact .one (by omega) (by omega)
      · exact iteF keep
    rintro σ H11 ⟨os, ol3, zs, rfl, s11, e11, hzs, hos⟩
    have e11p := s11 _ _ e7
    have hxl := hxs.1
    refine ⟨_, rfl, .inl ⟨rfl, _, sqd e11p⟩, _, rfl, ol3, zs, rfl, .inl ⟨sqd e11, fun t ht => ?_⟩⟩
    have st := same_new ht (.tup zs)
    have ept := st _ _ e11p
    refine ⟨p, xs, _, rfl, rfl, ept, big' (by omega), ?_⟩
    refine ⟨xs ++ [.ref t], A' ++ [os], some (.int k), some (.ref ol3), rfl, ((g7.trans (.same g7.dr s11)).trans (.same (g7.trans (.same g7.dr s11)).dr st)).put2 hp0 hpd, upd_same, ?_, ?_, ?_⟩
    · have tp : Tp H7 (upd (upd H11 t (.tup zs)) p (.lst (xs ++ [.ref t]))) := tp_put ((Tp.same s11).trans (Tp.same st)) ept
      refine (hxs.mono fun o x => PosIn.tp tp).snoc ⟨t, zs, rfl, ?_, ?_⟩
      · rw [upd_ne (fun e => by rw [e, e11p] at ht; cases ht)]
        exact upd_same
      · exact hzs.mono fun o x => OptIn.tp (tp_put (Tp.same st) ept)
    · rw [List.length_append, hA]
      rfl
    · intro o ho
      rcases List.mem_append.mp ho with ho | ho
      · exact hG o ho
      · rw [List.mem_singleton.mp ho]
        exact hos
  · rintro σ H7 ⟨xs, A', y7, y8, rfl, g7, e7, hxs, hA, hG⟩
    refine ⟨_, rfl, p, xs, rfl, .inl ⟨sqd e7, fun t ht => ?_⟩⟩
    have st := same_new ht (.tup xs)
    refine q _ A' _ (g7.trans (.same g7.dr st)) ⟨t, xs, rfl, upd_same, hxs.mono fun os x => PosIn.tp (.same st)⟩ ⟨by omega, fun os h => ?_⟩
    rw [show (A'.length : Int) = N by omega]
    exact hG os h
end
end NL

namespace NL
open PySem PySem.Spec PyProof.Rows L2
theorem cut_pre {xs : List V} {k : Nat} : cutV xs none (some (k : Int)) = xs.take k := by
  unfold cutV
  rw [HT.sIx_none, show HT.sIx xs.length xs.length (some (k : Int)) = min k xs.length from HT.sIx_nat _ _ _, List.drop_zero, Nat.sub_zero]
  by_cases h : k ≤ xs.length
  · rw [Nat.min_eq_left h]
  · rw [Nat.min_eq_right (by omega), List.take_length, List.take_of_length_le (by omega)]
theorem slA_of {K : PySem.W.Frag} {a : Addr} {xs : List V} {lo hi : Option Int} {H : Hp} {Q : VK} (ha : H a = some (.tup xs)) (q : ∀ p H', Same H H' → H' p = some (.tup (cutV xs lo hi)) → Q (.ref p) H') : rSlA K (.ref a) lo hi H Q := by
  refine ⟨a, xs, rfl, sqt ha, fun h => ?_, fun _ p hp => q p _ (same_new hp _) upd_same⟩
  refine q a H (Same.refl H) ?_
  have : cutV xs lo hi = xs := by
    unfold cutV
    rw [h.1, h.2, List.drop_zero, Nat.sub_zero]
    exact List.take_length
  rw [this]
  exact ha
theorem catA_of {K : PySem.W.Frag} {a b : Addr} {xs ys : List V} {H : Hp} {Q : VK} (ha : H a = some (.tup xs)) (hb : H b = some (.tup ys)) (hl : xs.length + ys.length ≤ 1000) (q : ∀ p H', Same H H' → H' p = some (.tup (xs ++ ys)) → Q (.ref p) H') : rCatA K (.ref a) (.ref b) H Q := by
  refine ⟨a, b, xs, ys, rfl, rfl, sqt ha, sqt hb, big (by omega), fun h => ?_, fun _ h => ?_, fun _ _ p hp => ?_⟩
  · exact q b H (Same.refl H) (by rw [h, List.nil_append]; exact hb)
  · exact q a H (Same.refl H) (by rw [h, List.append_nil]; exact ha)
  · exact q p _ (same_new hp _) upd_same
theorem rg_ints (a b : Int) : rgV a b = ((List.range (b - a).toNat).map fun i : Nat => a + (i : Int)).map V.int := by
  unfold rgV
  rw [List.map_map]
  rfl
theorem rg_good {u n : Int} (h0 : 0 ≤ u) (h1 : u < 2) (hn : 0 < n) (hm : n ≤ 46) : OptG n ((List.range (n - (0 - u)).toNat).map fun i : Nat => (0 - u) + (i : Int)) := by
  refine ⟨fun e => ?_, ?_, fun s hs => ?_, ?_⟩
  · have h := congrArg List.length e
    rw [List.length_map, List.length_range, List.length_nil] at h
    omega
  · rw [List.length_map, List.length_range]
    omega
  · obtain ⟨i, hi, rfl⟩ := List.mem_map.mp hs
    have := List.mem_range.mp hi
    omega
  · rw [List.pairwise_map]
    exact List.pairwise_lt_range.imp fun {a b} h => by omega
section
variable {P : Program} {w : World} {K : PySem.W.Frag} {mg : Str → Option Value} {base : Heap}
/-! ### _law_arena -/
def spArena : Sp := fun vs H Q _ => ∃ (d : Addr) (most : Int), vs = [.ref d, .int most] ∧ Dr H d ∧ 0 ≤ most ∧ most ≤ 45 ∧ ∀ v A H', Go d H H' → ArIn H' A v → ArG A → Q v H'
theorem ok_law_arena (T : Txt K mg) : FnOk P w K mg base CX0 3 T.a_law_arena T.d_law_arena P_law_arena spArena := by
  have G_law_take := ok_law_take (P := P) (w := w) (base := base) T
  have G_law_great := ok_law_great (P := P) (w := w) (base := base) T
  refine T.F_law_arena.ok sc_law_arena (fun vs H Q E h => ?_) (fun cdv A outer s H vs Q E hr h => ?_)
  · obtain ⟨d, most, rfl, _⟩ := h
    rfl
  obtain ⟨d, most, rfl, hD, m0, m1, q⟩ := h
  refine ⟨_, (pss_cons (ps_set (i := 2) sc_law_arena.nd rfl (Or.inl rfl) (pe_call G_law_take (hr.mono (by omega)) (by rfl) T.m_law_take T.F_law_take.kp T.b_law_take .nil pass0 (pa_cons (pv 0) (pa_cons pe_int pa_nil))))
    (pss_cons (ps_if (pt_cmpR op_eq (pv 2) pe_int (nomark _))
    (pss_one (ps_ret (pe_call G_law_great (hr.mono (by omega)) (by rfl) T.m_law_great T.F_law_great.kp T.b_law_great .nil pass0 (pa_cons (pv 0) pa_nil))))
    pss_nil)
    (pss_cons (ps_set (i := 3) sc_law_arena.nd rfl (Or.inl rfl) (pe_ix ix_list (pe_lst (pa_cons pe_int (pa_cons pe_int (pa_cons pe_int pa_nil)))) (pe_call G_law_take (hr.mono (by omega)) (by rfl) T.m_law_take T.F_law_take.kp T.b_law_take .nil pass0 (pa_cons (pv 0) (pa_cons pe_int pa_nil))) (fun _ _ => rfl)))
    (pss_cons (ps_set (i := 4) sc_law_arena.nd rfl (Or.inl rfl) (pe_ix ix_list (pe_lst (pa_cons (pe_lst (pa_cons pe_int (pa_cons pe_int (pa_cons pe_int (pa_cons pe_int (pa_cons pe_int (pa_cons pe_int pa_nil))))))) (pa_cons (pe_lst (pa_cons pe_int (pa_cons pe_int (pa_cons pe_int (pa_cons pe_int (pa_cons pe_int (pa_cons pe_int pa_nil))))))) pa_nil))) (pe_call G_law_take (hr.mono (by omega)) (by rfl) T.m_law_take T.F_law_take.kp T.b_law_take .nil pass0 (pa_cons (pv 0) (pa_cons pe_int pa_nil))) (fun _ _ => rfl)))
    (pss_cons (ps_set (i := 5) sc_law_arena.nd rfl (Or.inr rfl) (pe_call G_law_take (hr.mono (by omega)) (by rfl) T.m_law_take T.F_law_take.kp T.b_law_take .nil pass0 (pa_cons (pv 0) (pa_cons (pe_op op_add (pv 1) pe_int) pa_nil))))
    (pss_cons (ps_set (i := 6) sc_law_arena.nd rfl (Or.inl rfl) (pe_lst pa_nil))
    (pss_cons (ps_for  PassesOwn.never rfl (pi_range1 (by rfl) T.z_range (pa_cons (pv 5) pa_nil)) (pg_name (i := 7) sc_law_arena.nd rfl (Or.inl rfl))
    (pss_cons (ps_set (i := 8) sc_law_arena.nd rfl (Or.inl rfl) (pe_lst pa_nil))
    (pss_cons (ps_for  PassesOwn.never rfl (pi_range1 (by rfl) T.z_range (pa_cons (pe_ix ix_list (pv 4) (pe_call G_law_take (hr.mono (by omega)) (by rfl) T.m_law_take T.F_law_take.kp T.b_law_take .nil pass0 (pa_cons (pv 0) (pa_cons pe_int pa_nil))) (fun _ _ => rfl)) pa_nil)) (pg_name (i := 9) sc_law_arena.nd rfl (Or.inl rfl))
    (pss_cons (ps_set (i := 10) sc_law_arena.nd rfl (Or.inl rfl) (pe_lst pa_nil))
    (pss_cons (ps_for  PassesOwn.never rfl (pi_range1 (by rfl) T.z_range (pa_cons (pe_op op_add pe_int (pe_ix ix_list (pe_lst (pa_cons pe_int (pa_cons pe_int (pa_cons pe_int (pa_cons pe_int (pa_cons pe_int (pa_cons pe_int pa_nil))))))) (pe_call G_law_take (hr.mono (by omega)) (by rfl) T.m_law_take T.F_law_take.kp T.b_law_take .nil pass0 (pa_cons (pv 0) (pa_cons pe_int pa_nil))) (fun _ _ => rfl))) pa_nil)) (pg_name (i := 11) sc_law_arena.nd rfl (Or.inl rfl))
    (pss_cons (ps_set (i := 12) sc_law_arena.nd rfl (Or.inl rfl) (pe_call G_law_take (hr.mono (by omega)) (by rfl) T.m_law_take T.F_law_take.kp T.b_law_take .nil pass0 (pa_cons (pv 0) (pa_cons (pe_op op_mul (pv 5) (pv 3)) pa_nil))))
    (pss_cons (ps_set (i := 13) sc_law_arena.nd rfl (Or.inl rfl) (pe_op op_fdiv (pv 12) (pv 3)))
    (C8.pss_cut (ps_if (pt_cmpR op_eq (pe_op op_mod (pe_callTy call_int1 (by rfl) T.z_int (by decide +kernel) (pa_cons (pv 12) pa_nil)) (pv 3)) pe_int (nomark _))
    (pss_one (ps_set (i := 13) sc_law_arena.nd rfl (Or.inl rfl) (pe_un un_neg pe_int)))
    pss_nil)
    (pss_one (ps_if (pt_cmpR op_notIn_seq (pv 13) (pv 10) (by rfl))
    (pss_one (ps_expr (pe_bm PySem.F.plainAttrs_list PySem.F.slot_list_append PySem.F.type_list_append mt_append (pv 10) (pa_cons (pv 13) pa_nil))))
    pss_nil))))))
    (pss_one (ps_expr (pe_bm PySem.F.plainAttrs_list PySem.F.slot_list_append PySem.F.type_list_append mt_append (pv 8) (pa_cons (pe_callTy call_tuple_of (by rfl) T.z_tuple (by decide +kernel) (pa_cons (pe_callB (cr_sorted) (by rfl) T.z_sorted (by decide +kernel) (pa_cons (pv 10) pa_nil)) pa_nil)) pa_nil)))))))
    (pss_one (ps_expr (pe_bm PySem.F.plainAttrs_list PySem.F.slot_list_append PySem.F.type_list_append mt_append (pv 6) (pa_cons (pe_callTy call_tuple_of (by rfl) T.z_tuple (by decide +kernel) (pa_cons (pv 8) pa_nil)) pa_nil)))))))
    (C8.pss_cut (ps_if (PW.pt (pw_and (pt_cmpR op_gt (pv 5) pe_int (nomark _)) (pw_and1 (pt_cmpR op_eq (pe_call G_law_take (hr.mono (by omega)) (by rfl) T.m_law_take T.F_law_take.kp T.b_law_take .nil pass0 (pa_cons (pv 0) (pa_cons pe_int pa_nil))) pe_int (nomark _)))))
    (pss_cons (ps_set (i := 14) sc_law_arena.nd rfl (Or.inr rfl) (pe_call G_law_take (hr.mono (by omega)) (by rfl) T.m_law_take T.F_law_take.kp T.b_law_take .nil pass0 (pa_cons (pv 0) (pa_cons (pv 5) pa_nil))))
    (pss_cons (ps_set (i := 15) sc_law_arena.nd rfl (Or.inl rfl) (pe_op op_cat (pe_lst (pa_cons (pe_tupRg rfl (by rfl) T.z_tuple (prg_2 (by rfl) T.z_range (pe_op op_sub pe_int (pe_call G_law_take (hr.mono (by omega)) (by rfl) T.m_law_take T.F_law_take.kp T.b_law_take .nil pass0 (pa_cons (pv 0) (pa_cons pe_int pa_nil)))) (pv 5))) pa_nil)) (pe_lc (own := [("j", 9)]) (g := (gName 9)) (tt := tYes) rfl sc_law_arena.nd (pi_range1 (by rfl) T.z_range (pa_cons pe_int pa_nil)) (blkOk_by (N := N_law_arena) (sc := defScope s_law_arena) (by decide +kernel)) (fun _ _ _ _ _ => (pg_name (i := 9) sc_law_arena.nd rfl (Or.inl rfl))) (fun _ _ _ _ _ => pts_nil) (fun _ _ _ _ _ => (pe_tup (pa_cons (pe_op op_mod (pe_callTy call_int1 (by rfl) T.z_int (by decide +kernel) (pa_cons (pe_op op_add (pe_op op_mul (pv 9) (pv 14)) (pv 9)) pa_nil)) (pv 5)) pa_nil))))))
    (pss_one (ps_asg (pe_slice sl_tupA (pe_op op_catA (pe_ix ix_list (pv 6) (pv 14) (fun _ _ => rfl)) (pe_callTy call_tuple_of (by rfl) T.z_tuple (by decide +kernel) (pa_cons (pv 15) pa_nil))) po_none (po_some pe_int)) (pg_sub (pv 6) (pv 14) set_list)))))
    pss_nil)
    (pss_one (ps_ret (pe_callTy call_tuple_of (by rfl) T.z_tuple (by decide +kernel) (pa_cons (pv 6) pa_nil)))))))))))), ?_⟩
  refine ⟨_, rfl, d, 12, rfl, hD, by decide, fun sh H1 g1 _ _ => ?_⟩
  refine ⟨_, rfl, rfl, _, rfl, ?_⟩
  refine ite2 (fun z => ?_) (fun z => ?_)
  · exact ⟨_, rfl, d, rfl, g1.dr, fun v A H' g hA hG => q v A H' (g1.trans g) hA hG⟩
  -- how rare it is to be out
  refine ⟨Nat.le_of_ble_eq_true rfl, fun l hl => ?_⟩
  have g1l := g1.trans (Go.new (o := .lst [.int 4, .int 14, .int 60]) g1.dr hl)
  refine ⟨_, rfl, d, 3, rfl, g1l.dr, by decide, fun u2 H2 g2 a2 b2 => ?_⟩
  have el : H2 l = some (.lst ([4, 14, 60].map V.int)) := g2.fr l _ (new_ne g1.dr hl) upd_same
  obtain ⟨rare, hra, hrm⟩ := atI_map (f := V.int) (xs := ([4, 14, 60] : List Int)) a2 b2
  have hr3 : 0 < rare ∧ rare ≤ 60 := by
    simp only [List.mem_cons, List.not_mem_nil, or_false] at hrm
    omega
  refine ⟨l, _, _, _, rfl, rfl, sqd el, hra, ?_⟩
  have g12 := g1l.trans g2
  -- how many options
  refine ⟨Nat.le_of_ble_eq_true rfl, fun l1 hl1 => ?_⟩
  obtain ⟨Ha, ea, sa, ka⟩ := newH hl1 (.lst [.int 0, .int 1, .int 1, .int 2, .int 2, .int 3])
  rw [ea]
  refine ⟨Nat.le_of_ble_eq_true rfl, fun l2 hl2 => ?_⟩
  obtain ⟨Hb, eb, sb, kb⟩ := newH hl2 (.lst [.int 1, .int 1, .int 2, .int 2, .int 3, .int 4])
  rw [eb]
  refine ⟨Nat.le_of_ble_eq_true rfl, fun l3 hl3 => ?_⟩
  obtain ⟨Hc, ec, sc, kc⟩ := newH hl3 (.lst [.ref l1, .ref l2])
  rw [ec]
  have gc := g12.trans (.same g12.dr ((sa.trans sb).trans sc))
  refine ⟨_, rfl, d, 2, rfl, gc.dr, by decide, fun u3 H3 g3 a3 b3 => ?_⟩
  have g13 := gc.trans g3
  have nl1 : l1 ≠ d := new_ne g12.dr hl1
  have nl2 : l2 ≠ d := new_ne (g12.trans (.same g12.dr sa)).dr hl2
  have nl3 : l3 ≠ d := new_ne (g12.trans (.same g12.dr (sa.trans sb))).dr hl3
  obtain ⟨ml, M, nml, hmat, eml, hM6, hMb⟩ : ∃ (ml : Addr) (M : List Int), ml ≠ d ∧ atI [V.ref l1, V.ref l2] u3 = some (.ref ml) ∧ H3 ml = some (.lst (M.map V.int)) ∧ M.length = 6 ∧ ∀ x ∈ M, 0 ≤ x ∧ x ≤ 4 := by
    have hc : u3 = 0 ∨ u3 = 1 := by omega
    rcases hc with rfl | rfl
    · exact ⟨l1, [0, 1, 1, 2, 2, 3], nl1, atI0, g3.fr l1 _ nl1 ((sb.trans sc) _ _ ka), rfl, by decide⟩
    · exact ⟨l2, [1, 1, 2, 2, 3, 4], nl2, atI1, g3.fr l2 _ nl2 (sc _ _ kb), rfl, by decide⟩
  refine ⟨l3, _, _, _, rfl, rfl, sqd (g3.fr l3 _ nl3 kc), hmat, ?_⟩
  refine ⟨_, rfl, _, rfl, _, _, rfl, rfl, d, _, rfl, g3.dr, by omega, fun n H4 g4 n0 n1 => ?_⟩
  have g14 := g13.trans g4
  have eml4 := g4.fr ml _ nml eml
  have n46 : n ≤ 46 := by
    have : n < most + 1 := n1
    omega
  refine ⟨Nat.zero_le _, fun p hp => ?_⟩
  have hpd := new_ne g4.dr hp
  have hp0 := g14.free hp
  obtain ⟨H5, e5, s5, k5⟩ := newH hp (.lst [])
  rw [e5]
  have g15 := g14.trans (.same g4.dr s5)
  have eml5 := s5 _ _ eml4
  have npm : p ≠ ml := fun e => by
    rw [e, eml4] at hp
    cases hp
  refine ⟨_, rfl, n, rfl, by omega, by omega, for_range (lo := 0) (n := n.toNat) (fun (j : Nat) (σ : L2.St) (H' : Hp) => ∃ (xs : List V) (A' : Ar) (y7 y8 y9 y10 y11 y12 y13 : Option V), σ = [some (.ref d), some (.int most), some (.int sh), some (.int rare), some (.ref ml), some (.int n), some (.ref p), y7, y8, y9, y10, y11, y12, y13, none, none] ∧ Go d H H' ∧ H' ml = some (.lst (M.map V.int)) ∧ H' p = some (.lst xs) ∧ Each (PosIn H') A' xs ∧ A'.length = j ∧ ∀ os ∈ A', PosG n os) ?_ ?_ ?_⟩
  · exact ⟨[], [], none, none, none, none, none, none, none, rfl, g15, eml5, k5, .nil, rfl, fun os h => nomatch h⟩
  · rintro j σ H7 hj ⟨xs, A', y7, y8, y9, y10, y11, y12, y13, rfl, g7, em7, e7, hxs, hA, hG⟩
    have hn0 : 0 < n := by omega
    generalize hk : (0 : Int) + (j : Int) = k
    refine ⟨Nat.zero_le _, fun ol hol => ?_⟩
    have nol := new_ne g7.dr hol
    obtain ⟨H8, e8, s8, k8⟩ := newH hol (.lst [])
    rw [e8]
    have g78 := Go.same g7.dr s8
    refine ⟨_, rfl, _, rfl, d, 6, rfl, g78.dr, by decide, fun u4 H9 g9 a4 b4 => ?_⟩
    have em9 := g9.fr ml _ nml (s8 _ _ em7)
    obtain ⟨mm, hmm, hmmem⟩ := atI_map (f := V.int) (xs := M) a4 (by rw [hM6]; exact b4)
    have hmb := hMb mm hmmem
    refine ⟨ml, _, _, _, rfl, rfl, sqd em9, hmm, mm, rfl, by omega, by omega, ?_⟩
    have g79 := g78.trans g9
    have e9p := g9.fr p _ hpd (s8 _ _ e7)
    have e9o := g9.fr ol _ nol k8
    have hol7 : H7 ol = none := hol
    refine for_range (lo := 0) (n := mm.toNat) (fun (i : Nat) (σ : L2.St) (H' : Hp) => ∃ (zs : List V) (os : Pos') (y9 y10 y11 y12 y13 : Option V), σ = [some (.ref d), some (.int most), some (.int sh), some (.int rare), some (.ref ml), some (.int n), some (.ref p), some (.int k), some (.ref ol), y9, y10, y11, y12, y13, none, none] ∧ Go d H7 H' ∧ H' ol = some (.lst zs) ∧ Each (OptIn H') os zs ∧ os.length = i ∧ ∀ o ∈ os, OptG n o) ?_ ?_ ?_
    · exact ⟨[], [], y9, y10, y11, y12, y13, rfl, g79, e9o, .nil, rfl, fun o h => nomatch h⟩
    · rintro i σ H10 hi ⟨zs, os, y9, y10, y11, y12, y13, rfl, g10, e10, hzs, hos, hG2⟩
      generalize hk2 : (0 : Int) + (i : Int) = k2
      refine ⟨Nat.zero_le _, fun fl hfl => ?_⟩
      have nfl := new_ne g10.dr hfl
      obtain ⟨H11, e11, s11, k11⟩ := newH hfl (.lst [])
      rw [e11]
      have ga := Go.same g10.dr s11
      refine ⟨Nat.le_of_ble_eq_true rfl, fun l5 hl5 => ?_⟩
      obtain ⟨H12, e12, s12, k12⟩ := newH hl5 (.lst [.int 0, .int 0, .int 1, .int 1, .int 2, .int 3])
      rw [e12]
      have gb := ga.trans (.same ga.dr s12)
      refine ⟨_, rfl, d, 6, rfl, gb.dr, by decide, fun u5 H13 g13' a5 b5 => ?_⟩
      have n5 := new_ne ga.dr hl5
      obtain ⟨mf, hmf, hmfm⟩ := atI_map (f := V.int) (xs := ([0, 0, 1, 1, 2, 3] : List Int)) a5 b5
      have hmf3 : 0 ≤ mf ∧ mf ≤ 3 := by
        simp only [List.mem_cons, List.not_mem_nil, or_false] at hmfm
        omega
      refine ⟨l5, _, _, _, rfl, rfl, sqd (g13'.fr l5 _ n5 k12), hmf, _, _, rfl, rfl, 1 + mf, rfl, by omega, by omega, ?_⟩
      have gc2 := gb.trans g13'
      have ef13 := g13'.fr fl _ nfl (s12 _ _ k11)
      refine for_range (lo := 0) (n := (1 + mf).toNat) (fun (i : Nat) (σ : L2.St) (H' : Hp) => ∃ (fs : List Int) (y11 y12 y13 : Option V), σ = [some (.ref d), some (.int most), some (.int sh), some (.int rare), some (.ref ml), some (.int n), some (.ref p), some (.int k), some (.ref ol), some (.int k2), some (.ref fl), y11, y12, y13, none, none] ∧ Go d H10 H' ∧ H' fl = some (.lst (fs.map V.int)) ∧ fs.Nodup ∧ fs.length ≤ i ∧ (∀ s ∈ fs, -1 ≤ s ∧ s < n) ∧ (0 < i → fs ≠ [])) ?_ ?_ ?_
      · exact ⟨[], y11, y12, y13, rfl, gc2, ef13, List.nodup_nil, Nat.zero_le _, fun s h => (nomatch h), fun h => absurd h (by omega)⟩
      · rintro t σ H14 ht ⟨fs, y11, y12, y13, rfl, g14', e14, hnd, hlen, hmem, hne⟩
        generalize hk3 : (0 : Int) + (t : Int) = k3
        have hpos : 0 < n * rare := Int.mul_pos hn0 hr3.1
        refine ⟨_, rfl, _, rfl, _, rfl, _, _, rfl, rfl, .inl ⟨by omega, by omega⟩, d, n * rare, rfl, g14'.dr, hpos, fun dr H15 g15' d0 d1 => ?_⟩
        refine ⟨_, rfl, _, rfl, _, _, rfl, rfl, ⟨hr3.1, by omega⟩, ?_⟩
        have hq0 : 0 ≤ dr / rare := Int.ediv_nonneg d0 (by omega)
        have hq1 : dr / rare < n := Int.ediv_lt_of_lt_mul hr3.1 d1
        have e15 := g15'.fr fl _ nfl e14
        have g1015 := g14'.trans g15'
        have fin : ∀ sc : Int, -1 ≤ sc → sc < n → ∀ (b : Bool), b = decide (sc ∈ fs) → True := fun _ _ _ _ _ => trivial
        refine ⟨fun σ H' => ∃ sc : Int, σ = [some (.ref d), some (.int most), some (.int sh), some (.int rare), some (.ref ml), some (.int n), some (.ref p), some (.int k), some (.ref ol), some (.int k2), some (.ref fl), some (.int k3), some (.int dr), some (.int sc), none, none] ∧ H' = H15 ∧ -1 ≤ sc ∧ sc < n, ?_, ?_⟩
        · refine ⟨_, rfl, .inl ⟨_, rfl, _, rfl, _, _, rfl, rfl, hr3.1, rfl, _, rfl, ?_⟩⟩
          refine ite2 (fun z => ?_) (fun z => ?_)
          · exact ⟨_, rfl, -1, rfl, rfl, by omega, by omega⟩
          · exact ⟨_, rfl, rfl, by omega, hq1⟩
        rintro σ H16 ⟨sc, rfl, rfl, c0, c1⟩
        refine ⟨_, rfl, _, rfl, fl, _, rfl, .inl (sqd e15), rfl, flat_ints' fs, _, rfl, ?_⟩
        by_cases hin : sc ∈ fs
        · refine ifF (by rw [notIn_int, decide_eq_true hin] <;> rfl) ?_
          exact ⟨fs, _, _, _, rfl, g1015, e15, hnd, by omega, hmem, fun _ e => by rw [e] at hin; cases hin⟩
        · refine ifT (by rw [notIn_int, decide_eq_false hin] <;> rfl) ?_
          refine ⟨_, rfl, .inl ⟨rfl, _, sqd e15⟩, _, rfl, fl, _, _, rfl, rfl, e15, big' (by rw [List.length_map]; omega), ?_⟩
          refine ⟨fs ++ [sc], _, _, _, rfl, g1015.put2 hfl nfl, by rw [upd_same, List.map_append]; rfl, ?_, ?_, ?_, fun _ => by simp⟩
          · exact List.nodup_append.mpr ⟨hnd, by simp, fun a ha b hb e => hin (by rw [← List.mem_singleton.mp hb, ← e]; exact ha)⟩
          · rw [List.length_append]
            exact Nat.add_le_add_right hlen 1
          · intro s hs
            rcases List.mem_append.mp hs with hs | hs
            · exact hmem s hs
            · rw [List.mem_singleton.mp hs]
              exact ⟨c0, c1⟩
      · rintro σ H14 ⟨fs, y11, y12, y13, rfl, g14', e14, hnd, hlen, hmem, hne⟩
        have hfl64 : fs.length ≤ 4 := by omega
        have e14o := g14'.fr ol _ nol e10
        refine ⟨_, rfl, .inl ⟨rfl, _, sqd e14o⟩, _, rfl, fl, fs, rfl, sqd e14, by omega, fun ns q1 hperm hpw hq1 => ?_⟩
        obtain ⟨Hd, ed, sd, kd⟩ := newH hq1 (.lst (ns.map V.int))
        rw [ed]
        refine ⟨q1, _, rfl, .inl ⟨sqd kd, fun t2 ht2 => ?_⟩⟩
        obtain ⟨He, ee, se, ke⟩ := newH ht2 (.tup (ns.map V.int))
        rw [ee]
        have sde := sd.trans se
        have eoe := sde _ _ e14o
        refine ⟨ol, zs, _, rfl, rfl, eoe, big' (by have := hzs.1; omega), ?_⟩
        have ge := g14'.trans (.same g14'.dr sde)
        have tpx : Tp H10 (upd He ol (.lst (zs ++ [.ref t2]))) := tp_put (ge.tp g10.dr) eoe
        have nt2 : t2 ≠ ol := fun e => by
          rw [e, sd _ _ e14o] at ht2
          cases ht2
        refine ⟨zs ++ [.ref t2], os ++ [ns], _, _, _, _, _, rfl, (g10.trans ge).put2 hol7 nol, upd_same, ?_, by rw [List.length_append, hos]; rfl, ?_⟩
        · refine (hzs.mono fun o x => OptIn.tp tpx).snoc ⟨t2, rfl, ?_⟩
          rw [upd_ne nt2]
          exact ke
        · intro o ho
          rcases List.mem_append.mp ho with ho | ho
          · exact hG2 o ho
          · rw [List.mem_singleton.mp ho]
            refine ⟨fun e => ?_, by have := hperm.length_eq; omega, fun s hs => hmem s (hperm.mem_iff.mp hs), asc_of hperm hnd hpw⟩
            rw [e] at hperm
            exact hne (by omega) hperm.symm.eq_nil
    · rintro σ H10 ⟨zs, os, y9, y10, y11, y12, y13, rfl, g10, e10, hzs, hos, hG2⟩
      have e10p := g10.fr p _ hpd e7
      have hxl := hxs.1
      refine ⟨_, rfl, .inl ⟨rfl, _, sqd e10p⟩, _, rfl, ol, zs, rfl, .inl ⟨sqd e10, fun t ht => ?_⟩⟩
      have st := same_new ht (.tup zs)
      have ept := st _ _ e10p
      have gt := (g7.trans g10).trans (.same (g7.trans g10).dr st)
      have ntp : t ≠ p := fun e => by
        rw [e, e10p] at ht
        cases ht
      refine ⟨p, xs, _, rfl, rfl, ept, big' (by omega), ?_⟩
      refine ⟨xs ++ [.ref t], A' ++ [os], some (.int k), some (.ref ol), _, _, _, _, _, rfl, gt.put2 hp0 hpd, ?_, upd_same, ?_, by rw [List.length_append, hA]; rfl, ?_⟩
      · rw [upd_ne npm.symm]
        exact st _ _ (g10.fr ml _ nml em7)
      · have tp : Tp H7 (upd (upd H10 t (.tup zs)) p (.lst (xs ++ [.ref t]))) := tp_put ((g10.tp g7.dr).trans (Tp.same st)) ept
        refine (hxs.mono fun o x => PosIn.tp tp).snoc ⟨t, zs, rfl, ?_, ?_⟩
        · rw [upd_ne ntp]
          exact upd_same
        · exact hzs.mono fun o x => OptIn.tp (tp_put (Tp.same st) ept)
      · intro o ho
        rcases List.mem_append.mp ho with ho | ho
        · exact hG o ho
        · rw [List.mem_singleton.mp ho]
          exact ⟨by omega, hG2⟩
  · rintro σ H7 ⟨xs, A', y7, y8, y9, y10, y11, y12, y13, rfl, g7, em7, e7, hxs, hA, hG⟩
    refine ⟨fun σ H' => ∃ (xs : List V) (A' : Ar) (y7 y8 y9 y10 y11 y12 y13 y14 y15 : Option V), σ = [some (.ref d), some (.int most), some (.int sh), some (.int rare), some (.ref ml), some (.int n), some (.ref p), y7, y8, y9, y10, y11, y12, y13, y14, y15] ∧ Go d H H' ∧ H' p = some (.lst xs) ∧ Each (PosIn H') A' xs ∧ A'.length = n.toNat ∧ ∀ os ∈ A', PosG n os, ?_, ?_⟩
    · refine ⟨_, rfl, _, _, rfl, rfl, _, rfl, ?_⟩
      refine ite2 (fun z => ?_) (fun z => iteF ⟨xs, A', _, _, _, _, _, _, _, _, _, rfl, g7, e7, hxs, hA, hG⟩)
      have hn0 : 0 < n := of_decide_eq_true z
      refine ⟨_, rfl, d, 8, rfl, g7.dr, by decide, fun u4 H9 g9 _ _ => ⟨rfl, _, rfl, ?_⟩⟩
      have e9 := g9.fr p _ hpd e7
      have hxs9 := hxs.mono fun o x => PosIn.tp (g9.tp g7.dr)
      have gg := g7.trans g9
      refine ite2 (fun z => ?_) (fun z => ⟨xs, A', _, _, _, _, _, _, _, _, _, rfl, gg, e9, hxs9, hA, hG⟩)
      refine ⟨_, rfl, _, rfl, d, n, rfl, g9.dr, hn0, fun at_ H10 g10 t0 t1 => ?_⟩
      refine ⟨_, rfl, d, 2, rfl, g10.dr, by decide, fun u H11 g11 u0 u1 => ⟨_, _, rfl, rfl, _, rfl, _, _, rfl, rfl, ⟨by omega, by omega, by omega, by omega, by omega⟩, fun q1 hq1 => ?_⟩⟩
      rw [rg_ints]
      have og1 := rg_good u0 u1 hn0 n46
      generalize (List.range (n - (0 - u)).toNat).map (fun i : Nat => (0 - u) + (i : Int)) = o1 at og1 ⊢
      obtain ⟨Ha, ea, sa, ka⟩ := newH hq1 (.tup (o1.map V.int))
      rw [ea]
      refine ⟨Nat.le_of_ble_eq_true rfl, fun lm hlm => ?_⟩
      obtain ⟨Hb, eb, sb, kb⟩ := newH hlm (.lst [.ref q1])
      rw [eb]
      refine ⟨5, rfl, by decide, by decide, fun D hD => ?_⟩
      refine lc_range (lo := 0) (n := 5) (fun (j : Nat) (H' : Hp) => ∃ (zs : List V) (os : Pos'), Same Hb H' ∧ H' D = some (.lst zs) ∧ Each (OptIn H') os zs ∧ os.length = j ∧ ∀ o ∈ os, OptG n o) ?_ ?_ ?_
      · exact ⟨[], [], same_new hD _, upd_same, .nil, rfl, fun o h => nomatch h⟩
      · rintro j H' hj ⟨zs, os, sj, ej, hzs, hos, hoG⟩
        refine ⟨rfl, yes_if ?_⟩
        refine ⟨_, rfl, _, rfl, _, _, rfl, rfl, .inl ⟨by omega, by omega⟩, _, rfl, _, _, rfl, rfl, .inl ⟨_, rfl, _, rfl, _, _, rfl, rfl, hn0, Nat.le_of_ble_eq_true rfl, fun t ht => ?_⟩⟩
        dsimp only
        generalize hv : ((0 + (j : Int)) * at_ + (0 + (j : Int))) % n = v
        have hv0 : 0 ≤ v := by rw [← hv]; exact Int.emod_nonneg _ (by omega)
        have hv1 : v < n := by rw [← hv]; exact Int.emod_lt_of_pos _ hn0
        obtain ⟨Hc, ec, sc, kc⟩ := newH ht (.tup [V.int v])
        rw [ec]
        have ntD : t ≠ D := fun e => by
          rw [e, ej] at ht
          cases ht
        have ejc := sc _ _ ej
        refine ⟨zs, ejc, big' (by have := hzs.1; omega), zs ++ [.ref t], os ++ [[v]], same_put (sj.trans sc) hD, upd_same, ?_, by rw [List.length_append, hos]; rfl, ?_⟩
        · refine (hzs.mono fun o x => OptIn.tp (tp_put (Tp.same sc) ejc)).snoc ⟨t, rfl, ?_⟩
          rw [upd_ne ntD]
          exact kc
        · intro o ho
          rcases List.mem_append.mp ho with ho | ho
          · exact hoG o ho
          · rw [List.mem_singleton.mp ho]
            exact .one (by omega) hv1
      · rintro H12 ⟨zs, os, sj, ej, hzs, hos, hoG⟩
        refine ⟨lm, D, _, _, rfl, rfl, sj _ _ kb, ej, big (by have := hzs.1; rw [List.length_singleton]; omega), fun mp hmp => ?_⟩
        obtain ⟨Hd, ed, sd, kd⟩ := newH hmp (.lst ([V.ref q1] ++ zs))
        rw [ed]
        have s1 := (sa.trans sb).trans (sj.trans sd)
        have gd : Go d H9 Hd := (g10.trans g11).trans (.same g11.dr s1)
        have hm1 : Each (OptIn Hd) ([o1] ++ os) ([V.ref q1] ++ zs) := (Each.cons ⟨q1, rfl, ((sb.trans sj).trans sd) _ _ ka⟩ .nil).app (hzs.mono fun o x => OptIn.tp (.same sd))
        have edp := gd.fr p _ hpd e9
        have hxd := hxs9.mono fun o x => PosIn.tp (gd.tp g9.dr)
        obtain ⟨os0, x0, hos0, hat, hin⟩ := hxd.atI t0 (by rw [hA]; omega)
        obtain ⟨b0, zs0, rfl, eb0, hzs0⟩ := hin
        have hG0 := hG os0 (List.mem_of_getElem? hos0)
        refine ⟨_, rfl, _, rfl, p, _, _, _, rfl, rfl, sqd edp, hat, _, rfl, mp, _, rfl, .inl ⟨sqd kd, fun t2 ht2 => ?_⟩⟩
        obtain ⟨He, ee, se, ke⟩ := newH ht2 (.tup ([V.ref q1] ++ zs))
        rw [ee]
        refine catA_of (se _ _ eb0) ke (by have h1 := hzs0.1; have h2 := hm1.1; have h3 := hG0.1; rw [h2, List.length_append, hos, List.length_singleton]; omega) fun pc Hf sf ef => ?_
        refine ⟨9, rfl, ?_⟩
        refine slA_of ef fun ps Hg sg eg => ?_
        rw [show cutV (zs0 ++ ([V.ref q1] ++ zs)) none (some 9) = (zs0 ++ ([V.ref q1] ++ zs)).take 9 from cut_pre (k := 9)] at eg
        have seg := (se.trans sf).trans sg
        have egp := seg _ _ edp
        have hgg := gg.trans (gd.trans (.same gd.dr seg))
        have nps : ps ≠ p := fun e => by
          rw [e, egp] at eg
          cases eg
        refine ⟨_, rfl, _, rfl, p, _, _, _, rfl, rfl, egp, ixN_in t0 (by rw [hxd.1, hA]; omega), ?_⟩
        have tpp : Tp Hd (upd Hg p (.lst (xs.set at_.toNat (.ref ps)))) := tp_put (Tp.same seg) egp
        refine ⟨xs.set at_.toNat (.ref ps), A'.set at_.toNat ((os0 ++ ([o1] ++ os)).take 9), _, _, _, _, _, _, _, _, _, rfl, hgg.put2 hp0 hpd, upd_same, ?_, by rw [List.length_set]; exact hA, ?_⟩
        · refine (hxd.mono fun o x => PosIn.tp tpp).set _ ⟨ps, (zs0 ++ ([V.ref q1] ++ zs)).take 9, rfl, ?_, ?_⟩
          · rw [upd_ne nps]
            exact eg
          · exact ((hzs0.app hm1).take 9).mono fun o x => OptIn.tp tpp
        · intro o ho
          rcases List.mem_or_eq_of_mem_set ho with ho | rfl
          · exact hG o ho
          · refine ⟨by rw [List.length_take]; omega, fun w hw => ?_⟩
            have hw := List.mem_of_mem_take hw
            rcases List.mem_append.mp hw with hw | hw
            · exact hG0.2 w hw
            · rcases List.mem_append.mp hw with hw | hw
              · rw [List.mem_singleton.mp hw]
                exact og1
              · exact hoG w hw
    rintro σ H8 ⟨xs, A', y7, y8, y9, y10, y11, y12, y13, y14, y15, rfl, g8, e8, hxs, hA, hG⟩
    refine ⟨_, rfl, p, xs, rfl, .inl ⟨sqd e8, fun t ht => ?_⟩⟩
    have st := same_new ht (.tup xs)
    refine q _ A' _ (g8.trans (.same g8.dr st)) ⟨t, xs, rfl, upd_same, hxs.mono fun os x => PosIn.tp (.same st)⟩ ⟨by omega, fun os h => ?_⟩
    rw [show (A'.length : Int) = n by omega]
    exact hG os h
end
end NL

namespace NL
open PySem PySem.Spec PyProof.Rows L2
theorem ints_snoc2 (ps : List Int) (l : Int) : (ps ++ [l]).map V.int = ps.map V.int ++ [V.int l] := by
  rw [List.map_append]
  rfl
theorem at_last {α : Type} {x : α} {xs : List α} : atI (xs ++ [x]) (-1) = some x := by
  unfold atI
  rw [show ixN (xs ++ [x]).length (-1) = some xs.length by
    unfold ixN
    rw [if_neg (by decide), if_pos (by rw [List.length_append, List.length_singleton]; omega), List.length_append, List.length_singleton]
    congr 1
    omega]
  simp
theorem lc_pairs {K : PySem.W.Frag} {a b : Addr} {xs ys : List V} {g : TG} {tt : TT} {te : TE} {vs : List Nat} {σ : L2.St} {H1 : Hp} {D : Addr} {Qd : Hp → Prop} (n : Nat) (hn : n = min xs.length ys.length) (Pv : Nat → Hp → Prop) (h0 : Pv 0 (upd H1 D (.lst []))) (hq : ∀ i H, Pv i H → SqT K H a xs ∧ SqT K H b ys)
    (hs : ∀ (i : Nat) (x y : V) (t : Addr) (H : Hp), xs[i]? = some x → ys[i]? = some y → Pv i H → H t = none → g (.ref t) (wipe σ vs) (upd H t (.tup [x, y])) fun σ2 H2 => wipe σ2 vs = wipe σ vs ∧ tt σ2 H2 fun c H3 =>
      if c = true then te σ2 H3 fun z H4 => ∃ acc, H4 D = some (.lst acc) ∧ acc.length < sizeLine ∧ Pv (i + 1) (upd H4 D (.lst (acc ++ [z]))) else Pv (i + 1) H3) (hd : ∀ H, Pv n H → Qd H) :
    ∃ W : Nat → Nat → Hp → Prop, (∃ m, W 0 m (upd H1 D (.lst []))) ∧ ∀ i m H, W i m H →
      ((RZ.ItzT K a b).stop i H ∧ Qd H) ∨ ((RZ.ItzT K a b).go i H ∧ ∃ Nx : Hp → Prop, (∀ H', Nx H' → ∃ m', m' < m ∧ W (i + 1) m' H') ∧ ∀ x H', (RZ.ItzT K a b).yld i H x H' → g x (wipe σ vs) H' fun σ2 H2 => wipe σ2 vs = wipe σ vs ∧ tt σ2 H2 fun c H3 =>
        if c = true then te σ2 H3 fun z H4 => ∃ acc, H4 D = some (.lst acc) ∧ acc.length < sizeLine ∧ Nx (upd H4 D (.lst (acc ++ [z]))) else Nx H3) := by
  refine ⟨fun i m H => m + i = n ∧ Pv i H, ⟨n, rfl, h0⟩, ?_⟩
  rintro i m H ⟨hi, p⟩
  obtain ⟨qx, qy⟩ := hq i H p
  by_cases lt : i < n
  · have ex : xs[i]? = some xs[i] := List.getElem?_eq_getElem (by omega)
    have ey : ys[i]? = some ys[i] := List.getElem?_eq_getElem (by omega)
    refine .inr ⟨⟨xs, ys, _, _, qx, qy, ex, ey⟩, Pv (i + 1), fun H' p' => ⟨m - 1, by omega, by omega, p'⟩, fun v H' y => ?_⟩
    obtain ⟨t, x1, y1, rfl, ht, rfl, f1, f2⟩ := y
    exact hs i x1 y1 t H (f1 xs qx) (f2 ys qy) p ht
  · have e : i = n := by omega
    subst e
    exact .inl ⟨⟨xs, ys, qx, qy, by omega⟩, hd H p⟩
theorem op_catAK {X : Cx} {K : PySem.W.Frag} (h : X.K = K) : OpR X (binaryOp .Add) (rCatA K) := by subst h; exact op_catA
end NL

namespace NL
open PySem PySem.Spec PyProof.Rows L2
/-- the mark at an index, from before or from behind -/
def mkAt (bs : List Bool) (i : Int) : Bool := (atI bs i).getD false
section
variable {prog : Program} {w : World} {A : Around} {env : Env} {s : Shared}
theorem low_ix {E : Value → Shared → Prop} {m : Addr} {ms : List Value} {bs : List Bool} {mm : Str → Option Value} {i : Int} {t : Tok} {p1 p2 p3 : Pos} {Q : Value → Shared → Prop}
    (hk : env.scope.kind = .function) (hm : env.kindOf "marks" = some .local) (ha : env.kindOf "after" = some .local)
    (hn : s.heap.Ns env.locals mm) (h2 : mm "marks" = some (.ref m)) (h3 : mm "after" = some (.int i t))
    (hl : s.heap.IsList m ms.toArray) (hb : Vals (bs.map V.bl) ms) (hz : ms.length ≤ sizeLine) (hin : (atI bs i).isSome = true)
    (h : Q (.bool (mkAt bs i)) s) :
    wpAny (model prog w) A (eval (.Subscript (.Name "marks" p1) (.Name "after" p2) p3) env) Q E s := by
  refine Subscript_ ?_
  refine wpAny_Name (wpAny_loadName_local hk hm hn h2 ?_)
  refine wpAny_Name (wpAny_loadName_local hk ha hn h3 ?_)
  obtain ⟨b, eb⟩ := Option.isSome_iff_exists.mp hin
  have hbm : mkAt bs i = b := by unfold mkAt; rw [eb]; rfl
  rw [hbm] at h
  obtain ⟨j, q1, q2, q3, q4, q5⟩ := atI_get eb
  have hl2 := hb.length
  rw [List.length_map] at hl2
  obtain ⟨u, eu, ru⟩ := hb.get (i := j) (x := V.bl b) (by rw [List.getElem?_map, q2]; rfl)
  have e : u = .bool b := ru
  subst e
  have hn63 := line63
  by_cases h0 : 0 ≤ i
  · have hj : i.toNat = j := by
      rw [seqIndex_of h0 q5] at q1
      exact Option.some.inj q1
    exact item_listR hl h0 (by omega) (by rw [hj]; simpa using eu) h
  · have hj : (i + (ms.toArray.size : Int)).toNat = j := by
      rw [seqIndex_neg (by omega) q4] at q1
      rw [List.size_toArray, ← hl2]
      exact Option.some.inj q1
    exact subscriptTail_builtinR (x := .bool b) hl.typeIs slot_list_getitem.lookup
      (wpAny_getItem_list_neg (Q := fun r s' => r = .bool b ∧ Q r s') hl (by omega) (by rw [List.size_toArray] <;> omega) (by omega) (by rw [hj]; simpa using eu) ⟨rfl, h⟩)

theorem low_bool {E : Value → Shared → Prop} {c : Bool} {k : Nat} {p : Pos} {Q : Value → Shared → Prop} (h : Q (.bool c) s) : wpAny (model prog w) A (eval (.Constant (.bool c) k p) env) Q E s := fun _ _ _ => h
/-- for after in option: if (not) marks[after]: return r1 .. return r2 -/
theorem low_body {o m : Addr} {its ms : List Value} {is : List Int} {bs : List Bool} {mm : Str → Option Value} {test : Expr} {fl r1 r2 : Bool} {k1 k2 : Nat} {p1 p2 q1 q2 q3 q4 q5 q6 q7 q8 q9 : Pos}
    (hh : A.handled = none) (hk : env.scope.kind = .function) (ho : env.kindOf "option" = some .local) (hm : env.kindOf "marks" = some .local) (ha : env.kindOf "after" = some .local)
    (hn : s.heap.Ns env.locals mm) (h1 : mm "option" = some (.ref o)) (h2 : mm "marks" = some (.ref m)) (ht : s.heap.IsTuple o its.toArray) (hl : s.heap.IsList m ms.toArray)
    (hi : Vals (is.map V.int) its) (hb : Vals (bs.map V.bl) ms) (hz : ms.length ≤ sizeLine) (hin : ∀ i ∈ is, (atI bs i).isSome = true)
    (htest : ∀ (s' : Shared) (E' : Value → Shared → Prop) (Q : Bool → Shared → Prop) (b : Bool), wpAny (model prog w) A (eval (.Subscript (.Name "marks" q1) (.Name "after" q2) q3) env) (fun v s₁ => v = .bool b ∧ s₁ = s') E' s' → Q (fl ^^ b) s' → wpAny (model prog w) A (isTrue test env (eval test env)) Q E' s') :
    wpAny (model prog w) A (execs [.For (.Name "after" p1) (.Name "option" p2) [.If test [.Return (some (.Constant (.bool r1) k1 q4)) q5] [] q6] [] q7, .Return (some (.Constant (.bool r2) k2 q8)) q9] env)
      (fun f s' => f = .ret (.bool (if is.any (fun i => fl ^^ mkAt bs i) then r1 else r2)) ∧ ∃ h' tk, s' = { s with heap := h', toks := tk } ∧ ∀ b o, b ≠ env.locals → s.heap.get? b = some o → h'.get? b = some o) (fun _ _ => False) s := by
  have hp : (env.scope.kind == .class || (env.scope.kind == .module && env.locals != env.globals)) = false := by rw [hk]; rfl
  have hL : env.locals < s.heap.objs.size := hn.lt
  have hto : o < s.heap.objs.size := by obtain ⟨_, e, _⟩ := ht; exact Heap.lt_size e
  have hno : env.locals ≠ o := fun e => by
    obtain ⟨ob, es, ep, e1, e2, _⟩ := hn
    obtain ⟨ob2, f1, f2, n, f3⟩ := ht
    rw [e, f1] at e1
    cases e1
    rw [f3] at e2
    cases e2
  have hnm : env.locals ≠ m := fun e => by
    obtain ⟨ob, es, ep, e1, e2, _⟩ := hn
    obtain ⟨ob2, f1, f2, n, f3⟩ := hl
    rw [e, f1] at e1
    cases e1
    rw [f3] at e2
    cases e2
  have hml : m < s.heap.objs.size := by obtain ⟨_, e, _⟩ := hl; exact Heap.lt_size e
  have hlen : its.length = is.length := by have := hi.length; rw [List.length_map] at this; exact this.symm
  refine wpAny_execs_cons (exec_For_goes ?_)
  refine wpAny_Name (wpAny_loadName_local hk ho hn h1 ?_)
  refine wpAny_pyIter_tuple ht ?_
  refine ⟨_, _, _, _, _, _, fun i s₁ => (is.take i).any (fun i => fl ^^ mkAt bs i) = false ∧ ∃ h₁ tk m₁, s₁ = { s with heap := h₁, toks := tk } ∧ h₁.Ns env.locals m₁ ∧ m₁ "marks" = some (.ref m) ∧ ∀ b ob, b ≠ env.locals → s.heap.get? b = some ob → h₁.get? b = some ob, rfl,
    Goes.tuple hh s.heap.objs.size o (Nat.ne_of_lt hto) its.toArray, ⟨⟨_, Heap.get?_push_size _ rfl, rfl, rfl⟩, ?_⟩, ⟨by rw [List.take_zero]; rfl, _, _, mm, rfl, hn.at' fun ob e => Heap.get?_push_of_some _ e, h2, fun b ob _ e => Heap.get?_push_of_some _ e⟩, ?_, ?_, ?_⟩
  · obtain ⟨ob, e, r⟩ := ht
    exact ⟨ob, Heap.get?_push_of_some _ e, r⟩
  · rintro i s₁ h' tk ⟨ha1, h₁, tk₁, m₁, rfl, n₁, t₁, k₁⟩ hk' _
    refine ⟨ha1, h', tk, m₁, rfl, n₁.at' fun ob e => hk' _ ob (by simp; exact Nat.ne_of_lt hL) e, t₁, fun b ob hb e => hk' b ob ?_ (k₁ b ob hb e)⟩
    have hlt := Heap.lt_size e
    simp
    exact Nat.ne_of_lt hlt
  · rintro i v s₁ hi' hv st ⟨ha1, h₁, tk₁, m₁, rfl, n₁, t₁, k₁⟩
    have hv' : its[i]? = some v := by simpa using hv
    obtain ⟨x, hx⟩ : ∃ x, is[i]? = some x := ⟨_, List.getElem?_eq_getElem (by rw [← hlen]; simpa using hi')⟩
    obtain ⟨u, eu, t, rfl⟩ := hi.get (i := i) (x := V.int x) (by rw [List.getElem?_map, hx]; rfl)
    rw [hv'] at eu
    cases eu
    refine wpAny_assign_Name (wpAny_storeName_local ha n₁ (fun h₂ n₂ s₂ => ?_) hp)
    have k₂ : ∀ b ob, b ≠ env.locals → s.heap.get? b = some ob → h₂.get? b = some ob := fun b ob hb e => s₂.extBut b ob hb (k₁ b ob hb e)
    have hl₂ : h₂.IsList m ms.toArray := by
      obtain ⟨ob, e, r⟩ := hl
      exact ⟨ob, k₂ m ob hnm.symm e, r⟩
    have hbx := hin x (List.mem_of_getElem? hx)
    refine wpAny_execs_cons (wpAny_If (htest _ _ _ (mkAt bs x) (low_ix hk hm ha n₂ ((if_neg (by decide)).trans t₁) (if_pos rfl) hl₂ hb hz hbx ⟨rfl, rfl⟩) ?_))
    have hnext : (is.take (i + 1)).any (fun i => fl ^^ mkAt bs i) = (fl ^^ mkAt bs x) := by
      rw [List.take_add_one, hx, List.any_append, ha1]
      simp
    cases hc : (fl ^^ mkAt bs x) with
    | true =>
      refine wpAny_execs_cons (wpAny_Return_some ?_)
      refine low_bool ?_
      have hany : is.any (fun i => fl ^^ mkAt bs i) = true := List.any_eq_true.mpr ⟨x, List.mem_of_getElem? hx, hc⟩
      refine ⟨by rw [hany]; rfl, h₂, _, rfl, k₂⟩
    | false =>
      refine wpAny_execs_nil (wpAny_execs_nil ⟨⟨by rw [hnext, hc], h₂, _, _, rfl, n₂, (if_neg (by decide)).trans t₁, k₂⟩, ?_⟩)
      exact ⟨st.1.at fun ob e => s₂.extBut _ _ (Nat.ne_of_gt hL) e, st.2.at fun ob e => s₂.extBut _ _ hno.symm e⟩
  · rintro s₁ ⟨ha1, h₁, tk₁, m₁, rfl, n₁, t₁, k₁⟩
    refine wpAny_execs_nil (wpAny_execs_cons (wpAny_Return_some ?_))
    refine low_bool ?_
    rw [show its.toArray.size = is.length by rw [List.size_toArray, hlen], List.take_length] at ha1
    refine ⟨by rw [ha1]; rfl, h₁, _, rfl, k₁⟩
end
end NL

namespace NL
open PySem PySem.Spec PyProof.Rows L2
/-- the test of such a def: not marks[after], or marks[after] -/
def MarkTest (fl : Bool) (q1 q2 q3 : Pos) (test : Expr) : Prop :=
  (fl = true ∧ ∃ q, test = .UnaryOp .Not (.Subscript (.Name "marks" q1) (.Name "after" q2) q3) q) ∨ (fl = false ∧ test = .Subscript (.Name "marks" q1) (.Name "after" q2) q3)
/-- a def of this form -/
structure MarkFn (K : PySem.W.Frag) (nm : Str) (st : Stmt) (f : Addr) (fd : FuncData) (fl r1 r2 : Bool) : Prop where
  F : L2.Fun K nm nm st f fd
  bd : Binds K fd ["option", "marks"] []
  body : ∃ (test : Expr) (k1 k2 : Nat) (p1 p2 q1 q2 q3 q4 q5 q6 q7 q8 q9 : Pos), MarkTest fl q1 q2 q3 test ∧ defBody st = [.For (.Name "after" p1) (.Name "option" p2) [.If test [.Return (some (.Constant (.bool r1) k1 q4)) q5] [] q6] [] q7, .Return (some (.Constant (.bool r2) k2 q8)) q9]
  kind : (defScope st).kind = .function
  co : (defScope st).isCoroutine = false
  gen : (defScope st).isGenerator = false
  cell : ∀ y ∈ (defScope st).names, y.2 ≠ .cell
  lo : (defScope st).names.lookup ("option" : Str) = some .local
  lm : (defScope st).names.lookup ("marks" : Str) = some .local
  la : (defScope st).names.lookup ("after" : Str) = some .local
section
variable {prog : Program} {w : World} {A : Around} {s : Shared}
theorem mark_test {env : Env} {fl : Bool} {q1 q2 q3 : Pos} {test : Expr} (h : MarkTest fl q1 q2 q3 test) (s' : Shared) (E' : Value → Shared → Prop) (Q : Bool → Shared → Prop) (b : Bool)
    (he : wpAny (model prog w) A (eval (.Subscript (.Name "marks" q1) (.Name "after" q2) q3) env) (fun v s₁ => v = .bool b ∧ s₁ = s') E' s') (hq : Q (fl ^^ b) s') : wpAny (model prog w) A (isTrue test env (eval test env)) Q E' s' := by
  have base : ∀ Q' : Bool → Shared → Prop, Q' b s' → wpAny (model prog w) A (isTrue (.Subscript (.Name "marks" q1) (.Name "after" q2) q3) env (eval (.Subscript (.Name "marks" q1) (.Name "after" q2) q3) env)) Q' E' s' := fun Q' h' =>
    isTrue_plain (wpAny_mono he (fun v s₁ r => by
      obtain ⟨rfl, rfl⟩ := r
      exact wpAny_truthy_bool h') fun _ _ x => x)
  rcases h with ⟨rfl, q, rfl⟩ | ⟨rfl, rfl⟩
  · exact isTrue_not (base _ (by rw [Bool.true_xor] at hq; exact hq))
  · exact base _ (by rw [Bool.false_xor] at hq; exact hq)
theorem low_call {E : Value → Shared → Prop} {K : PySem.W.Frag} {nm : Str} {st : Stmt} {f : Addr} {fd : FuncData} {fl r1 r2 : Bool} (M : MarkFn K nm st f fd fl r1 r2) (hK : K.In s.heap) (hlim : s.heap.NoLimit) (hh : A.handled = none) (hd : A.depth < recursionLimit)
    {o m : Addr} {its ms : List Value} {is : List Int} {bs : List Bool} (ht : s.heap.IsTuple o its.toArray) (hl : s.heap.IsList m ms.toArray)
    (hi : Vals (is.map V.int) its) (hb : Vals (bs.map V.bl) ms) (hz : ms.length ≤ sizeLine) (hin : ∀ i ∈ is, (atI bs i).isSome = true) :
    wpAny (model prog w) A (call (.ref f) [.ref o, .ref m]) (fun y s₃ => y = .bool (if is.any (fun i => fl ^^ mkAt bs i) then r1 else r2) ∧ Keeps s s₃) E s := by
  obtain ⟨⟨⟨oc, od, kV, doc, pm, an, cdv, ct, osl, rfl, lk, hcd⟩, kp⟩, bd, ⟨test, k1, k2, p1, p2, q1, q2, q3, q4, q5, q6, q7, q8, q9, hT, hbody⟩, kind, co, gen, cell, lo, lm, la⟩ := M
  refine wpAny_call (codeAny_call_function hd (hK _ _ lk) rfl co gen rfl (PySem.W.codeRec_of hK hcd) (bd s [.ref o, .ref m] hK rfl _ _ _ _ ?_))
  refine wpAny_newFunctionEnv cell (fun y hy => ?_) (fun h₁ hns hsb => ⟨?_, ?_⟩) kind
  · rcases List.mem_cons.mp hy with rfl | hy
    · exact lo
    · rcases List.mem_cons.mp hy with rfl | hy
      · exact lm
      · cases hy
  · exact hlim.fresh _ hsb
  have kk : ∀ b ob, s.heap.get? b = some ob → h₁.get? b = some ob := fun b ob e => hsb.extBut b ob (Nat.ne_of_lt (Heap.lt_size e)) (Heap.get?_push_of_some _ e)
  refine codeAny_func ?_
  have hb2 : (PySem.W.fnOf nm nm (defArgs st) (defBody st) (defScope st) .none kV doc pm an cdv ct).body = .stmts (defBody st) := rfl
  rw [hbody]
  refine wpAny_mono (low_body (o := o) (m := m) (is := is) (bs := bs) (mm := fun x => ((["option", "marks"] : List Str).zip [Value.ref o, Value.ref m]).reverse.lookup x) hh kind lo lm la hns rfl rfl
    (by obtain ⟨ob, e, r⟩ := ht; exact ⟨ob, kk _ _ e, r⟩) (by obtain ⟨ob, e, r⟩ := hl; exact ⟨ob, kk _ _ e, r⟩) hi hb hz hin (fun s' E' Q b => mark_test hT s' E' Q b)) (fun fl' s' r => ?_) fun _ _ x => x.elim
  obtain ⟨rfl, h', tk, rfl, k'⟩ := r
  exact ⟨rfl, h', tk, rfl, fun b ob e => k' b ob (Nat.ne_of_lt (Heap.lt_size e)) (kk b ob e)⟩
end
end NL

set_option maxHeartbeats 2000000
namespace NL
open PySem PySem.Spec PyProof.Rows L2
/-- the element of a generator expression over the item u gives b, and changes nothing that stood -/
def ElV (X : Cx) (P : Addr) (scope : Scope) (nm : Str) (elt : Expr) (σ : L2.St) (H1 : Hp) (x : V) (b : Bool) : Prop :=
  ∀ (pins : List (Addr × Obj)) (s1 : Shared) (u : Value), Inv X pins σ H1 s1 → RelV x u →
    ∀ (cenv : Env) (A' : Around) (E' : Value → Shared → Prop) (s₂ : Shared) (m₂ : Str → Option Value), cenv.scope = scope → cenv.cells = cloFrom X.env.cells scope.names [] → cenv.globals = X.env.globals →
      A'.handled = none → A'.depth ≤ X.A.depth + 1 → A'.units ≤ X.A.units + 8 → s₂.heap.Ns cenv.locals m₂ → m₂ nm = some u → (∀ c o, c ≠ P → s1.heap.get? c = some o → s₂.heap.get? c = some o) →
      wpAny (model X.prog X.w) A' (eval elt cenv) (fun y s₃ => y = .bool b ∧ Keeps s₂ s₃) E' s₂
def bAt (bs : List Bool) (j : Nat) : Bool := (bs[j]?).getD false
theorem any_bAt (bs : List Bool) : (List.range bs.length).any (bAt bs) = bs.any id := by
  rw [Bool.eq_iff_iff, List.any_eq_true, List.any_eq_true]
  constructor
  · rintro ⟨j, hj, h⟩
    have hj' := List.mem_range.mp hj
    refine ⟨bs[j], List.getElem_mem hj', ?_⟩
    unfold bAt at h
    rw [List.getElem?_eq_getElem hj'] at h
    exact h
  · rintro ⟨b, hb, h⟩
    obtain ⟨j, hj, rfl⟩ := List.getElem_of_mem hb
    refine ⟨j, List.mem_range.mpr hj, ?_⟩
    unfold bAt
    rw [List.getElem?_eq_getElem hj]
    exact h
theorem all_bAt (bs : List Bool) : (List.range bs.length).all (bAt bs) = bs.all id := by
  rw [Bool.eq_iff_iff, List.all_eq_true, List.all_eq_true]
  constructor
  · intro h b hb
    obtain ⟨j, hj, rfl⟩ := List.getElem_of_mem hb
    have q := h j (List.mem_range.mpr hj)
    unfold bAt at q
    rw [List.getElem?_eq_getElem hj] at q
    exact q
  · intro h j hj
    have hj' := List.mem_range.mp hj
    unfold bAt
    rw [List.getElem?_eq_getElem hj']
    exact h _ (List.getElem_mem hj')
section
variable {X : Cx} {pins : List (Addr × Obj)} {σ : L2.St} {H : Hp} {s : Shared}
/-- the generator at g gives the truths bs, one after the other -/
def Gives (X : Cx) (pins : List (Addr × Obj)) (σ : L2.St) (H1 : Hp) (P : Addr) (bs : List Bool) (g : Addr) (s5 : Shared) : Prop :=
  ∃ (fp wr : List Addr) (G : Array GenState → Array GenState → Prop) (F : Nat → Value → Prop) (St : Nat → Shared → Prop), WalksS X.prog X.w X.A.in1 g fp wr G bs.length F St ∧ St 0 s5 ∧ TruthOf X.prog X.w X.A.in1 F (bAt bs) ∧
    ∀ s', Moved wr G s5 s' → ∃ H2, GxR.Tabbed P H1 H2 ∧ Inv X pins σ H2 s'
theorem gen_tup {c P : Addr} {elt iter : Expr} {nm : Str} {px gpos : Pos} {scope : Scope} {te : TE} {k : Nat} {Q' : Value → Shared → Prop} {R : List Bool → Hp → Prop}
    (hr : Room k X.A) (TB : GxR.TabB X.base X.mg c P) (hcode : X.env.code = .ref c) (S : GxR.GenS X.env scope nm) (hi : PE X iter te)
    (hs : ∀ v, genFold iter X.env v = pure v) (I : Inv X pins σ H s)
    (h : te σ H fun v H1 => ∃ (a : Addr) (xs : List V) (bs : List Bool), v = .ref a ∧ SqT X.K H1 a xs ∧ bs.length = xs.length ∧ GxR.TabG H1 P ∧ (∀ (i : Nat) x b, xs[i]? = some x → bs[i]? = some b → ElV X P scope nm elt σ H1 x b) ∧ R bs H1)
    (hQ : ∀ bs H1 g s5, R bs H1 → Gives X pins σ H1 P bs g s5 → Q' (.ref g) s5) :
    wpAny (model X.prog X.w) X.A (eval (.GeneratorExp elt [⟨.Name nm px, iter, [], 0⟩] scope gpos) X.env) Q' X.xe s := by
  refine wpAny_GeneratorExp_walksQD hr.hd S.co (closure_ok S.free) S.cell S.dot S.loc S.kind hr.depth ?_ hs
  refine thn (hi.run pins s σ H _ I h) fun xv s1 ⟨v, H1, I1, r1, q1⟩ => ?_
  obtain ⟨a, xs, bs, rfl, hT, hbl, ⟨ps, hP, ht⟩, hE, hR⟩ := q1
  obtain rfl : xv = Value.ref a := r1
  obtain ⟨its, rv, pl, hz⟩ := I1.tuple hT
  have plT : s1.heap.IsTuple a its.toArray := pl
  have hPs : s1.heap.get? P = some { cls := .none, data := .fields ps } := I1.hok P _ hP
  have hPlt : P < s1.heap.objs.size := Heap.lt_size hPs
  have halt : a < s1.heap.objs.size := by
    obtain ⟨_, e, _⟩ := pl
    exact Heap.lt_size e
  have haP : a ≠ P := fun e => by
    obtain ⟨ob, e1, e2, _⟩ := pl
    rw [e, hPs] at e1
    cases e1
    cases e2
  have hil : its.length = bs.length := by rw [hbl]; exact rv.length.symm
  refine wpAny_pyIter_tuple plT ?_
  generalize ho : ({ cls := Value.type "tuple_iterator", data := Data.fields #[Value.ref a, Value.int 0 0] } : Obj) = ob
  have hP2 : (s1.heap.push ob).get? P = some { cls := .none, data := .fields ps } := Heap.get?_push_of_some _ hPs
  have cd : PySem.W.CodeHd (s1.heap.push ob) c P := TB.code.keeps fun b u e => Heap.get?_push_of_some _ (I1.bk b u e)
  have lim2 : (s1.heap.push ob).NoLimit := I1.nolimit.push ob
  have hst0 : (s1.heap.push ob).IsTupleIter s1.heap.objs.size a 0 ∧ (s1.heap.push ob).IsTuple a its.toArray := by
    refine ⟨⟨ob, Heap.get?_push_size _ (by rw [← ho] <;> rfl), ?_, ?_⟩, ?_⟩
    · rw [← ho]
    · rw [← ho] <;> rfl
    · obtain ⟨o2, e, r⟩ := pl
      exact ⟨o2, Heap.get?_push_of_some _ e, r⟩
  have cont : ∀ (code : Value) (h3 : Heap) (tk : Nat) (ps' : Array Value), Heap.ExtBut P (s1.heap.push ob) h3 → (s1.heap.push ob).objs.size ≤ h3.objs.size → h3.get? P = some { cls := .none, data := .fields ps' } → (∃ more, ps' = ps ++ more) → TriplesOk ps'.toList →
      wpAny (model X.prog X.w) X.A (builtinsFor X.env.globals X.env.builtins) (fun bi s₄ =>
        ∃ Ia fp wr n₀ Pf St₀ pz F, Value.ref s1.heap.objs.size = .ref Ia ∧ (∀ A' : Around, A'.handled = none → Walks X.prog X.w A' Ia fp wr n₀ Pf St₀) ∧ St₀ 0 s₄.heap ∧ (∀ b ∈ fp, b < s₄.heap.objs.size) ∧ s₄.heap.NoLimit ∧ cStatics ∉ wr ∧
          (∀ href : Heap, (∀ b o, s₄.heap.get? b = some o → href.get? b = some o) →
            QuietGenD X.prog X.w (genEnv scope (cloFrom X.env.cells scope.names []) s₄.heap.objs.size code bi X.env) nm [] elt (List.range s₄.heap.objs.size) wr Pf pz F href (X.A.depth + 1) (X.A.units + 8)) ∧
          (∀ a h₅ tk gs, gs.bare = true → s₄.heap.objs.size < a → h₅.objs.size = a + 1 → (∀ b o, s₄.heap.get? b = some o → h₅.get? b = some o) →
            WalksS X.prog X.w X.A.in4 a (a :: s₄.heap.objs.size :: List.range s₄.heap.objs.size) (s₄.heap.objs.size :: wr) (GenOnlyQ s₄.gens.size) (passing pz n₀ 0).length
              (fun j y => ∃ i, (passing pz n₀ 0)[j]? = some i ∧ F i y) (GenAt X.prog X.w X.A.in4 a s₄.gens.size s₄.heap.objs.size (List.range s₄.heap.objs.size) wr pz n₀ F) →
            GenAt X.prog X.w X.A.in4 a s₄.gens.size s₄.heap.objs.size (List.range s₄.heap.objs.size) wr pz n₀ F 0 { s₄ with gens := s₄.gens.push gs, toks := tk, heap := h₅ } →
            Q' (.ref a) { s₄ with gens := s₄.gens.push gs, toks := tk, heap := h₅ })) X.xe { s1 with heap := h3, toks := tk } := by
    intro code h3 tk ps' hx hsz hP3 hmore ht3
    obtain ⟨bm, obm, e1, e2, e3, e4, e5, e6, e7, e8⟩ := TB.bm
    have hcP : cStatics ≠ P := fun e => by
      obtain ⟨_, hns, _⟩ := I1.nolimit
      obtain ⟨o', es, ep, ho', hd, _⟩ := hns
      rw [e, hPs] at ho'
      cases ho'
      cases hd
    have hcl : cStatics < s1.heap.objs.size := let ⟨_, hns, _⟩ := I1.nolimit; hns.lt
    have sz2 : (s1.heap.push ob).objs.size = s1.heap.objs.size + 1 := Heap.size_push ..
    have keep3 : ∀ b u, b ≠ P → s1.heap.get? b = some u → h3.get? b = some u := fun b u hb e => hx b u hb (Heap.get?_push_of_some _ e)
    have h0lt : s1.heap.objs.size < h3.objs.size := Nat.lt_of_lt_of_le (Nat.lt_succ_self _) (by rw [sz2] at hsz; exact hsz)
    have hIP : s1.heap.objs.size ≠ P := Nat.ne_of_gt hPlt
    refine wpAny_builtinsFor (m := X.mg) (by rw [I1.ok.glob]; exact ((I1.mod.glob.keeps I1.bk).push ob).extBut hx TB.gP) e1 e2 (keep3 _ _ e4 (I1.bk _ _ e5)) e6 e7 e8 ?_
    refine ⟨s1.heap.objs.size, [s1.heap.objs.size, a], [s1.heap.objs.size], its.toArray.size, (fun i v => its.toArray[i]? = some v), (fun i h => h.IsTupleIter s1.heap.objs.size a i ∧ h.IsTuple a its.toArray), (fun _ => true), (fun i y => ∃ b, bs[i]? = some b ∧ y = .bool b), rfl,
      (fun A' hA => Walks.tuple hA s1.heap.objs.size a (Nat.ne_of_lt halt) its.toArray), ?_, ?_, lim2.extBut hx hcP, ?_, ?_, ?_⟩
    · refine ⟨?_, ?_⟩
      · obtain ⟨o2, f1, f2⟩ := hst0.1
        exact ⟨o2, hx _ _ hIP f1, f2⟩
      · obtain ⟨o2, f1, f2⟩ := hst0.2
        exact ⟨o2, hx _ _ haP f1, f2⟩
    · intro b hb
      show b < h3.objs.size
      rcases List.mem_cons.mp hb with z | z
      · rw [z]
        exact h0lt
      · rw [List.mem_singleton.mp z]
        exact Nat.lt_trans halt h0lt
    · intro z
      exact Nat.ne_of_lt hcl (List.mem_singleton.mp z)
    · intro href hhref
      refine ⟨fun A' E' i v s₂ m₂ hA hD hU hPv hn hm hk => ?_, fun A' E' i v s₂ m₂ hA hD hU hPv hp hn hm hk => ?_⟩
      · simp only [List.forIn_nil]
        exact wpAny_pure ⟨rfl, GxR.keeps_refl _⟩
      · have hv : its[i]? = some v := by simpa using hPv
        have hib : i < bs.length := by rw [← hil]; exact (List.getElem?_eq_some_iff.mp hv).1
        have hix : i < xs.length := by rw [← hbl]; exact hib
        obtain ⟨u, eu, ru⟩ := rv.get (List.getElem?_eq_getElem hix)
        rw [hv] at eu
        cases eu
        have hb2 := List.getElem?_eq_getElem hib
        refine wpAny_mono (hE i _ _ (List.getElem?_eq_getElem hix) hb2 pins s1 v I1 ru _ A' E' s₂ m₂ rfl rfl rfl hA hD hU hn hm fun b o hb e => ?_) (fun y s3 r => ⟨⟨_, hb2, r.1⟩, r.2⟩) fun _ _ e => e
        have e3 := keep3 b o hb e
        exact hk b (List.mem_range.mpr (Heap.lt_size e3)) (fun z => by
          have hlt := Heap.lt_size e
          rw [List.mem_singleton.mp z] at hlt
          exact Nat.lt_irrefl _ hlt) o (hhref b o e3)
    · intro g h5 tk5 gs hgb hag hsz5 hk5 W5 hat
      simp only [GxR.passing_true, List.length_range, List.size_toArray, hil] at W5
      have hat2 := hat
      simp only [List.size_toArray, hil] at hat2
      refine hQ bs H1 g _ hR ⟨_, _, _, _, _, W5.in4_1, hat2, ?_, fun s' hm => ?_⟩
      · intro j y sj Qj Ej hy hQj
        obtain ⟨i, hij, b, hb, rfl⟩ := hy
        obtain ⟨hj, ej⟩ := List.getElem?_eq_some_iff.mp hij
        rw [List.getElem_range] at ej
        subst ej
        have hQ2 : Qj (bAt bs j) sj := hQj
        unfold bAt at hQ2
        rw [hb] at hQ2
        exact wpAny_truthy_bool hQ2
      · obtain ⟨more, em⟩ := hmore
        have nwr : ∀ b u, s1.heap.get? b = some u → b ∉ h3.objs.size :: [s1.heap.objs.size] := fun b u e hb => by
          have hl := Heap.lt_size e
          rcases List.mem_cons.mp hb with z | z
          · rw [z] at hl
            have h9 : (h3.objs.size : Nat) < s1.heap.objs.size := hl
            omega
          · rw [List.mem_singleton.mp z] at hl
            exact Nat.lt_irrefl _ hl
        have J := GxR.inv_tab (more := more) (h' := s'.heap) (g' := s'.gens) (d' := s'.drawn) (t' := s'.toks) I1 hP (fun b u hb e => hm.heap b u (nwr b u e) (hk5 b u (keep3 b u hb e)))
          (by rw [← em]; exact hm.heap P _ (nwr P _ hPs) (hk5 P _ hP3)) (AllBare.movedS (I1.bare.push hgb) hm)
        rw [GxR.sh_eta s1 s' hm.os] at J
        exact ⟨upd H1 P (.tbl (ps ++ more)), ⟨⟨ps ++ more, upd_same, by rw [← em]; exact ht3⟩, fun b hb => upd_ne hb⟩, J⟩
  refine ⟨lim2, ?_⟩
  cases hf : codeAmong gpos ps.toList with
  | none =>
    refine wpAny_genexprCodeX hcode (cd.code hP2 ht) (cd.tab hP2) hf fun c' h' tk hx hge hlt hco' _ htab' _ => ?_
    obtain ⟨o1, vs, f1, tf, fl, tg, inF, tx, tt, op, _, _, _, _, _, _, _, _, _, htr, _⟩ := hco'
    exact cont _ h' tk _ hx (Nat.le_trans hge (Nat.le_of_lt hlt)) htab'.2 ⟨_, rfl⟩ htr
  | some cv =>
    refine wpAny_genexprCode_hit hcode (cd.code hP2 ht) hf ?_
    exact cont cv (s1.heap.push ob) s1.toks ps (Heap.ExtBut.refl _ _) (Nat.le_refl _) hP2 ⟨#[], by simp⟩ ht
/-- any(test for nm in e), all(test for nm in e), e a tuple -/
def tGenM (X : Cx) (P : Addr) (scope : Scope) (nm : Str) (elt : Expr) (f : List Bool → Bool) (te : TE) : TE := fun σ H Q => te σ H fun v H1 => ∃ (a : Addr) (xs : List V) (bs : List Bool), v = .ref a ∧ SqT X.K H1 a xs ∧ bs.length = xs.length ∧ GxR.TabG H1 P ∧
  (∀ (i : Nat) x b, xs[i]? = some x → bs[i]? = some b → ElV X P scope nm elt σ H1 x b) ∧ ∀ H2, GxR.Tabbed P H1 H2 → Q (.bl (f bs)) H2
theorem pe_anyM {c P : Addr} {elt iter : Expr} {nm : Str} {px p pos gpos : Pos} {scope : Scope} {te : TE} {k : Nat}
    (hr : Room k X.A) (hg : Gl X "any") (hm : X.mg "any" = none) (TB : GxR.TabB X.base X.mg c P) (hcode : X.env.code = .ref c) (S : GxR.GenS X.env scope nm) (hi : PE X iter te)
    (hs : ∀ v, genFold iter X.env v = pure v)
    (he : starEach [.GeneratorExp elt [⟨.Name nm px, iter, [], 0⟩] scope gpos] X.env = (false, eval (.GeneratorExp elt [⟨.Name nm px, iter, [], 0⟩] scope gpos) X.env) :: starEach [] X.env := by rfl) :
    PE X (.Call (.Name "any" p) [.GeneratorExp elt [⟨.Name nm px, iter, [], 0⟩] scope gpos] [] pos) (tGenM X P scope nm elt (·.any id) te) := by
  refine ⟨fun pins s σ H Q I h => ?_⟩
  refine wpAny_Call_Name_kw (ld_blt I hg hm boot_any ?_)
  refine PyProof.Rows.callWith_builtin1 ?_ he (by rfl)
  rw [he]
  show wpAny _ _ (spliced ((false, eval (.GeneratorExp elt [⟨.Name nm px, iter, [], 0⟩] scope gpos) X.env) :: backTo pos (starEach [] X.env))) _ _ s
  refine Calls.spliced_cons (gen_tup (R := fun bs H1 => ∀ H2, GxR.Tabbed P H1 H2 → Q (.bl (bs.any id)) H2) hr TB hcode S hi hs I h fun bs H1 g s5 hR hG => ?_)
  obtain ⟨fp, wr, G, F, St, W, hst, htr, hI⟩ := hG
  refine Calls.spliced_nil (call_any_walkS (W.self 0 _ _ _ hst ⟨g, fp, wr, G, _, F, St, _, rfl, W, hst, htr, fun s' hmv => ?_⟩))
  obtain ⟨H2, hT, J⟩ := hI s' hmv
  refine ⟨.bl _, H2, J, rfl, ?_⟩
  rw [any_bAt]
  exact hR H2 hT
theorem pe_allM {c P : Addr} {elt iter : Expr} {nm : Str} {px p pos gpos : Pos} {scope : Scope} {te : TE} {k : Nat}
    (hr : Room k X.A) (hg : Gl X "all") (hm : X.mg "all" = none) (hb : bootBuiltins "all" = some (.builtin "all")) (TB : GxR.TabB X.base X.mg c P) (hcode : X.env.code = .ref c) (S : GxR.GenS X.env scope nm) (hi : PE X iter te)
    (hs : ∀ v, genFold iter X.env v = pure v)
    (he : starEach [.GeneratorExp elt [⟨.Name nm px, iter, [], 0⟩] scope gpos] X.env = (false, eval (.GeneratorExp elt [⟨.Name nm px, iter, [], 0⟩] scope gpos) X.env) :: starEach [] X.env := by rfl) :
    PE X (.Call (.Name "all" p) [.GeneratorExp elt [⟨.Name nm px, iter, [], 0⟩] scope gpos] [] pos) (tGenM X P scope nm elt (·.all id) te) := by
  refine ⟨fun pins s σ H Q I h => ?_⟩
  refine wpAny_Call_Name_kw (ld_blt I hg hm hb ?_)
  refine PyProof.Rows.callWith_builtin1 ?_ he (by rfl)
  rw [he]
  show wpAny _ _ (spliced ((false, eval (.GeneratorExp elt [⟨.Name nm px, iter, [], 0⟩] scope gpos) X.env) :: backTo pos (starEach [] X.env))) _ _ s
  refine Calls.spliced_cons (gen_tup (R := fun bs H1 => ∀ H2, GxR.Tabbed P H1 H2 → Q (.bl (bs.all id)) H2) hr TB hcode S hi hs I h fun bs H1 g s5 hR hG => ?_)
  obtain ⟨fp, wr, G, F, St, W, hst, htr, hI⟩ := hG
  refine Calls.spliced_nil (call_all_walkS (W.self 0 _ _ _ hst ⟨g, fp, wr, G, _, F, St, _, rfl, W, hst, htr, fun s' hmv => ?_⟩))
  obtain ⟨H2, hT, J⟩ := hI s' hmv
  refine ⟨.bl _, H2, J, rfl, ?_⟩
  rw [all_bAt]
  exact hR H2 hT
end
end NL

set_option maxHeartbeats 2000000
namespace NL
open PySem PySem.Spec PyProof.Rows L2
theorem elv_mark {X : Cx} {P : Addr} {scope : Scope} {fnm : Str} {st : Stmt} {f : Addr} {fd : FuncData} {fl r1 r2 : Bool} {p p1 p2 pos : Pos} {σ : L2.St} {H1 : Hp} {k i : Nat} {m o : Addr} {is : List Int} {bs : List Bool}
    (M : MarkFn X.K fnm st f fd fl r1 r2) (hmg : X.mg fnm = some (.ref f)) (hr : Room k X.A) (hsk : scope.kind = .function) (hsl : scope.names.lookup ("option" : Str) = some .local) (hsf : scope.names.lookup ("marks" : Str) = some .free)
    (hsg : scope.names.lookup fnm = some .globalImplicit) (hclo : cloFrom X.env.cells scope.names [] = [(("marks" : Str), (X.env.cells.lookup ("marks" : Str)).getD 0)])
    (hN : X.N[i]? = some ("marks" : Str)) (hcell : X.env.kindOf ("marks" : Str) = some .cell) (hσ : σ[i]? = some (some (.ref m))) (hP : GxR.TabG H1 P)
    (hm : H1 m = some (.lst (bs.map V.bl))) (ho : H1 o = some (.tup (is.map V.int))) (hin : ∀ i ∈ is, (atI bs i).isSome = true)
    (hdb : (fnm == ("__debug__" : Str)) = false) :
    ElV X P scope "option" (.Call (.Name fnm p) [.Name "option" p1, .Name "marks" p2] [] pos) σ H1 (.ref o) (if is.any (fun i => fl ^^ mkAt bs i) then r1 else r2) := by
  intro pins s1 u I ru cenv A' E' s₂ m₂ hsc hce hgl hA hD hU hn2 hm2 hk
  obtain rfl : u = Value.ref o := ru
  obtain ⟨ps, hP, _⟩ := hP
  have hnP : ∀ b, H1 b = none → b ≠ P := fun b e z => by
    rw [z, hP] at e
    cases e
  have hb : ∀ b ob, X.base.get? b = some ob → s₂.heap.get? b = some ob := fun b ob e => hk b ob (hnP b (I.bs b ob e).2) (I.bk b ob e)
  have hKs : X.K.In s₂.heap := I.ok.mod.kin.keeps hb
  obtain ⟨its, rv, plo, _⟩ := I.tuple (a := o) (xs := is.map V.int) (.inl (.inl ho))
  obtain ⟨ms, rm, plm, hz⟩ := I.list (a := m) (xs := bs.map V.bl) (.inl (.inl hm))
  have hnT : ∀ {b : Addr} {q : HO}, H1 b = some q → (∀ qs, q ≠ .tbl qs) → b ≠ P := fun {b q} e n z => by
    rw [z, hP] at e
    exact n ps (Option.some.inj e).symm
  have ht2 : s₂.heap.IsTuple o its.toArray := by
    obtain ⟨ob, e, r⟩ := plo
    exact ⟨ob, hk o ob (hnT ho (fun qs z => nomatch z)) e, r⟩
  have hl2 : s₂.heap.IsList m ms.toArray := by
    obtain ⟨ob, e, r⟩ := plm.isList
    exact ⟨ob, hk m ob (hnT hm (fun qs z => nomatch z)) e, r⟩
  obtain ⟨mm, _, hloc⟩ := I.loc
  obtain ⟨v, rv2, hlook⟩ := hloc i _ _ hN hσ (.inr (.inl hcell))
  obtain rfl : v = Value.ref m := rv2
  obtain ⟨c, hc1, hc2⟩ : ∃ c, X.env.cells.lookup ("marks" : Str) = some c ∧ s1.heap.IsCell c (some (.ref m)) := by
    rcases hlook with ⟨h1, _⟩ | ⟨_, c, h1, h2⟩
    · rw [hcell] at h1
      cases h1
    · exact ⟨c, h1, h2⟩
  have hc3 : s₂.heap.IsCell c (some (.ref m)) := by
    obtain ⟨ob, e, r⟩ := hc2
    exact ⟨ob, hk c ob (hnP c (I.freeC _ _ hc1)) e, r⟩
  have hcl : cenv.cells.lookup ("marks" : Str) = some c := by
    rw [hce, hclo, hc1]
    rfl
  have hkind : cenv.scope.kind = .function := by rw [hsc]; exact hsk
  have kOf : ∀ x kd, scope.names.lookup x = some kd → cenv.kindOf x = some kd := fun x kd e => by
    show cenv.scope.names.lookup x = some kd
    rw [hsc]
    exact e
  refine wpAny_Call_Name_kw (Calls.Name_function_global hkind (kOf _ _ hsg) (Calls.loadGlobal_global (by rw [hgl, I.ok.glob]; exact I.mod.glob.keeps hb) hmg ?_) hdb)
  refine PySem.W.callWith_K (h₀ := X.base) I.ok.mod.kin M.F.kp ?_
  show wpAny _ _ (spliced ((false, eval (.Name "option" p1) cenv) :: (false, eval (.Name "marks" p2) cenv) :: [])) _ _ s₂
  refine Calls.spliced_cons (wpAny_Name (wpAny_loadName_local hkind (kOf _ _ hsl) hn2 hm2 ?_))
  refine Calls.spliced_cons (wpAny_Name (wpAny_loadName_free hkind (kOf _ _ hsf) hcl hc3 ?_))
  refine Calls.spliced_nil ⟨hKs, ?_⟩
  have dp := hr.dp
  exact low_call M hKs (I.ok.mod.nolimit.keeps hb) hA (by omega) ht2 hl2 rv rm (by rw [← rm.length]; exact hz) hin
end NL

set_option maxHeartbeats 2000000
namespace NL
open PySem PySem.Spec PyProof.Rows L2
/-! ### what is kept by a def whose table may grow -/
def NT : HO → Prop
  | .tbl _ => False
  | _ => True
structure Sm (P : Addr) (H H' : Hp) : Prop where
  fr : ∀ b o, NT o → H b = some o → H' b = some o
  tb : GxR.TabG H P → GxR.TabG H' P
  dom : ∀ b, H' b = none → H b = none
theorem Sm.refl {P : Addr} {H : Hp} : Sm P H H := ⟨fun _ _ _ e => e, fun h => h, fun _ e => e⟩
theorem Sm.trans {P : Addr} {H H1 H2 : Hp} (a : Sm P H H1) (b : Sm P H1 H2) : Sm P H H2 := ⟨fun c o n e => b.fr c o n (a.fr c o n e), fun h => b.tb (a.tb h), fun c e => a.dom c (b.dom c e)⟩
theorem Sm.of {P : Addr} {H H' : Hp} (s : Same H H') : Sm P H H' := ⟨fun b o _ e => s b o e, fun ⟨ps, e, t⟩ => ⟨ps, s _ _ e, t⟩, fun b e => s.free e⟩
theorem Sm.tbd {P : Addr} {H H' : Hp} (t : GxR.TabG H P) (h : GxR.Tabbed P H H') : Sm P H H' := by
  refine ⟨fun b o n e => ?_, fun _ => h.1, fun b e => ?_⟩
  · by_cases hb : b = P
    · obtain ⟨ps, e2, _⟩ := t
      rw [hb, e2] at e
      cases e
      cases n
    · rw [h.2 b hb]
      exact e
  · by_cases hb : b = P
    · obtain ⟨ps, e2, _⟩ := h.1
      rw [hb, e2] at e
      cases e
    · rw [← h.2 b hb]
      exact e
theorem Sm.tup {P : Addr} {H H' : Hp} {b : Addr} {xs : List V} (h : Sm P H H') (e : H b = some (.tup xs)) : H' b = some (.tup xs) := h.fr b _ trivial e
theorem Sm.lst {P : Addr} {H H' : Hp} {b : Addr} {xs : List V} (h : Sm P H H') (e : H b = some (.lst xs)) : H' b = some (.lst xs) := h.fr b _ trivial e
theorem Sm.dK {P : Addr} {H H' : Hp} {b : Addr} {xs : List (Key × V)} (h : Sm P H H') (e : H b = some (.dK xs)) : H' b = some (.dK xs) := h.fr b _ trivial e
theorem Sm.tp {P : Addr} {H H' : Hp} (h : Sm P H H') : Tp H H' := fun a xs e => h.tup e
theorem Sm.put {P : Addr} {H H' : Hp} {p : Addr} {o : HO} (s : Sm P H H') (hp : H p = none) (hP : p ≠ P) : Sm P H (upd H' p o) := by
  refine ⟨fun b u n e => ?_, fun t => ?_, fun b e => ?_⟩
  · rw [upd_ne (ne_of_none e hp)]
    exact s.fr b u n e
  · obtain ⟨ps, e, t⟩ := s.tb t
    exact ⟨ps, by rw [upd_ne (Ne.symm hP)]; exact e, t⟩
  · by_cases hb : b = p
    · rw [hb]
      exact hp
    · rw [upd_ne hb] at e
      exact s.dom b e
theorem Sm.seqT {P : Addr} {K : PySem.W.Frag} {H H' : Hp} {a : Addr} {xs : List V} (s : Sm P H H') (h : SqT K H a xs) : SqT K H' a xs := by
  rcases h with (h | ⟨o, h⟩) | h
  · exact .inl (.inl (s.fr _ _ trivial h))
  · exact .inl (.inr ⟨o, s.fr _ _ trivial h⟩)
  · exact .inr h
theorem Sm.seqL {P : Addr} {K : PySem.W.Frag} {H H' : Hp} {a : Addr} {xs : List V} (s : Sm P H H') (h : SqL K H a xs) : SqL K H' a xs := by
  rcases h with (h | ⟨o, h⟩) | h
  · exact .inl (.inl (s.fr _ _ trivial h))
  · exact .inl (.inr ⟨o, s.fr _ _ trivial h⟩)
  · exact .inr h
theorem TabG.ne {H : Hp} {P b : Addr} {o : HO} (t : GxR.TabG H P) (n : NT o) (e : H b = some o) : b ≠ P := fun z => by
  obtain ⟨ps, e2, _⟩ := t
  rw [z, e2] at e
  cases e
  cases n
theorem TabG.ne0 {H : Hp} {P b : Addr} (t : GxR.TabG H P) (e : H b = none) : b ≠ P := fun z => by
  obtain ⟨ps, e2, _⟩ := t
  rw [z, e2] at e
  cases e
theorem TabG.same {H H' : Hp} {P : Addr} (t : GxR.TabG H P) (s : Same H H') : GxR.TabG H' P := by
  obtain ⟨ps, e2, r⟩ := t
  exact ⟨ps, s _ _ e2, r⟩
theorem TabG.put {H : Hp} {P p : Addr} {o : HO} (t : GxR.TabG H P) (hp : p ≠ P) : GxR.TabG (upd H p o) P := by
  obtain ⟨ps, e2, r⟩ := t
  exact ⟨ps, by rw [upd_ne (Ne.symm hp)]; exact e2, r⟩
theorem Go.tab {d P : Addr} {H H' : Hp} (g : Go d H H') (h : Dr H d) (t : GxR.TabG H P) : GxR.TabG H' P := by
  obtain ⟨ps, e2, r⟩ := t
  refine ⟨ps, g.fr P _ (fun z => ?_) e2, r⟩
  obtain ⟨ns, e⟩ := h
  rw [← z, e2] at e
  cases e
/-! ### a def whose code has a table -/
theorem gens_of {env : Env} {scope : Scope} {x : Str} (a : scope.kind = .function) (b : scope.isCoroutine = false) (c : ∀ y ∈ scope.names, y.2 ≠ .cell) (d : scope.names.lookup (".0" : Str) = some NameKind.local) (e : scope.names.lookup x = some .local)
    (f : ∀ y ∈ scope.names, y.2 = .free → ∃ c, env.cells.lookup y.1 = some c) : GxR.GenS env scope x := ⟨a, b, c, d, e, f⟩
theorem cells_has {qual : Str} {sc scope : Scope} {L f : Addr} {cd : Value} (h : ∀ y ∈ scope.names, y.2 = .free → sc.names.lookup y.1 = some .cell) : ∀ y ∈ scope.names, y.2 = .free → ∃ c, (envOfC qual sc L f cd).cells.lookup y.1 = some c := fun y hy e =>
  Option.isSome_iff_exists.mp (PySem.W.cellsFrom_some _ _ _ (.inl (h y hy e)))
theorem okC {P : Program} {w : World} {K : PySem.W.Frag} {mg : Str → Option Value} {base : Heap} {x qual : Str} {st : Stmt} {f c : Addr} {fd : FuncData} {N ps : List Str} {k : Nat} {sp : Sp} (F : L2.Fun K x qual st f fd) (hc : fd.code = .ref c) (S : FnScope N ps (defScope st)) (len : ∀ vs H Q E, sp vs H Q E → vs.length = ps.length)
    (hbody : ∀ (A : Around) (outer : List Env) (s : Shared) (H : Hp) (vs : List V) (Q : VK) (E : XK), Room k (A.deeper (envOfC qual (defScope st) s.heap.objs.size f (.ref c))) → sp vs H Q E →
      ∃ t, PSs (cxOf CX0 P w K mg base N qual (defScope st) f (.ref c) A outer s H E).nox (defBody st) t ∧ t { nx := fun _ H' => Q .non H', rt := Q } (start N vs) H) : FnOk P w K mg base CX0 (k + 1) f fd ps sp := by
  obtain ⟨⟨oc, od, kV, doc, pm, an, cdv, ct, osl, rfl, lk, hcd⟩, kp⟩ := F
  obtain rfl : cdv = .ref c := hc
  refine fn_of lk hcd S len fun A outer s H vs Q E hr hsp => ?_
  obtain ⟨t, h, q⟩ := hbody A outer s H vs Q E hr hsp
  exact ⟨t, h.nox, q⟩
/-! ### forces -/
def frcF (side : Int) (os : Pos') (bs : List Bool) : Bool := if side = 0 then os.any (fun o => o.all (mkAt bs)) else os.all (fun o => o.any (mkAt bs))
section
variable {P : Program} {w : World} {K : PySem.W.Frag} {mg : Str → Option Value} {base : Heap}
def spForces (K : PySem.W.Frag) (Pt : Addr) : Sp := fun vs H Q _ => ∃ (side : Int) (v : V) (m : Addr) (os : Pos') (bs : List Bool), vs = [.int side, v, .ref m] ∧ PosIn H os v ∧ H m = some (.lst (bs.map V.bl)) ∧ GxR.TabG H Pt ∧ (∀ o ∈ os, ∀ i ∈ o, (atI bs i).isSome = true) ∧
  ∀ H', Sm Pt H H' → Q (.bl (frcF side os bs)) H'
theorem mark_all (T : Txt K mg) : MarkFn K "_all_marked" s_all_marked T.a_all_marked T.d_all_marked true false true :=
  ⟨T.F_all_marked, T.b_all_marked, ⟨_, _, _, _, _, _, _, _, _, _, _, _, _, _, .inl ⟨rfl, _, rfl⟩, rfl⟩, rfl, rfl, rfl, by decide +kernel, by decide +kernel, by decide +kernel, by decide +kernel⟩
theorem mark_some (T : Txt K mg) : MarkFn K "_some_marked" s_some_marked T.a_some_marked T.d_some_marked false true false :=
  ⟨T.F_some_marked, T.b_some_marked, ⟨_, _, _, _, _, _, _, _, _, _, _, _, _, _, .inr ⟨rfl, rfl⟩, rfl⟩, rfl, rfl, rfl, by decide +kernel, by decide +kernel, by decide +kernel, by decide +kernel⟩
theorem not_any {α : Type} (l : List α) (p : α → Bool) : (if l.any (fun i => true ^^ p i) = true then false else true) = l.all p := by
  cases h : l.any (fun i => true ^^ p i) with
  | true =>
    obtain ⟨x, hx, hp⟩ := List.any_eq_true.mp h
    rw [if_pos rfl]
    exact (List.all_eq_false.mpr ⟨x, hx, by simpa using hp⟩).symm
  | false =>
    rw [if_neg Bool.false_ne_true]
    refine (List.all_eq_true.mpr fun x hx => ?_).symm
    have := List.any_eq_false.mp h x hx
    simpa using this
theorem ok_forces (T : Txt K mg) {c Pt : Addr} (TB : GxR.TabB base mg c Pt) (hc : T.dforces.code = .ref c) : FnOk P w K mg base CX0 2 T.aforces T.dforces Pforces (spForces K Pt) := by
  refine okC T.Fforces hc scforces (fun vs H Q E h => ?_) (fun A outer s H vs Q E hr h => ?_)
  · obtain ⟨side, v, m, os, bs, rfl, _⟩ := h
    rfl
  obtain ⟨side, v, m, os, bs, rfl, ⟨b0, xs, rfl, e0, hxs⟩, hm, hT, hin, q⟩ := h
  have hC : Cx.env (cxOf CX0 P w K mg base Nforces "forces" (defScope sforces) T.aforces (.ref c) A outer s H E).nox = envOfC "forces" (defScope sforces) s.heap.objs.size T.aforces (.ref c) := rfl
  refine ⟨_, (pss_cons (ps_if (pt_cmpR op_eq (pv 0) (pe_glob rfl T.g_CONTROLLER T.r_CONTROLLER) (nomark _))
    (pss_one (ps_ret (pe_anyM hr (by rfl) T.z_any TB rfl (gens_of (by rfl) (by rfl) (by decide) (by rfl) (by rfl) (cells_has (by decide))) (pv 1) (fun _ => rfl))))
    pss_nil)
    (pss_one (ps_ret (pe_allM hr (by rfl) T.z_all (by decide +kernel) TB rfl (gens_of (by rfl) (by rfl) (by decide) (by rfl) (by rfl) (cells_has (by decide))) (pv 1) (fun _ => rfl))))), ?_⟩
  refine ⟨_, rfl, rfl, _, rfl, ?_⟩
  refine ite2 (fun z => ?_) (fun z => ?_)
  · have hs0 : side = 0 := int_eq z
    refine ⟨_, rfl, b0, xs, os.map (fun o => o.all (mkAt bs)), rfl, .inl (.inl e0), by rw [List.length_map]; exact hxs.1.symm, hT, fun i x b hx hb => ?_, fun H2 h2 => ?_⟩
    · rw [List.getElem?_map] at hb
      obtain ⟨o, ho, rfl⟩ := Option.map_eq_some_iff.mp hb
      obtain ⟨bo, rfl, eo⟩ := hxs.2 i o x ho hx
      rw [← not_any o (mkAt bs)]
      exact elv_mark (i := 2) (mark_all T) T.m_all_marked hr (by rfl) (by rfl) (by rfl) (by rfl) (by rfl) (by rfl) (by rfl) (by rfl) hT hm eo (hin o (List.mem_of_getElem? ho)) (by decide +kernel)
    · have e : frcF side os bs = (os.map (fun o => o.all (mkAt bs))).any id := by
        unfold frcF
        rw [if_pos hs0, List.any_map]
        rfl
      have q3 := q H2 (.tbd hT h2)
      rw [e] at q3
      exact q3
  · have hs0 : side ≠ 0 := int_ne z
    refine ⟨_, rfl, b0, xs, os.map (fun o => o.any (mkAt bs)), rfl, .inl (.inl e0), by rw [List.length_map]; exact hxs.1.symm, hT, fun i x b hx hb => ?_, fun H2 h2 => ?_⟩
    · rw [List.getElem?_map] at hb
      obtain ⟨o, ho, rfl⟩ := Option.map_eq_some_iff.mp hb
      obtain ⟨bo, rfl, eo⟩ := hxs.2 i o x ho hx
      have e : (if (o.any fun i => false ^^ mkAt bs i) = true then true else false) = o.any (mkAt bs) := by
        rw [show (fun i => false ^^ mkAt bs i) = mkAt bs from funext fun i => Bool.false_xor _]
        cases o.any (mkAt bs) <;> rfl
      rw [← e]
      exact elv_mark (i := 2) (mark_some T) T.m_some_marked hr (by rfl) (by rfl) (by rfl) (by rfl) (by rfl) (by rfl) (by rfl) (by rfl) hT hm eo (hin o (List.mem_of_getElem? ho)) (by decide +kernel)
    · have e : frcF side os bs = (os.map (fun o => o.any (mkAt bs))).all id := by
        unfold frcF
        rw [if_neg hs0, List.all_map]
        rfl
      have q3 := q H2 (.tbd hT h2)
      rw [e] at q3
      exact q3
end
end NL

set_option maxHeartbeats 2000000
namespace NL
open PySem PySem.Spec PyProof.Rows L2
/-- the end of a law whose program holds a generator expression in the def nm -/
theorem walk_tab {l : PySem.W.OpenLaw} {n k : Nat} {q : Program} {loose : List Str} {XP : (Str → Option Value) → Heap → Prop} {YP : World → Heap → Prop} {d : DefRec} {K : Params → PySem.W.Frag} {CX : World → CXT} {x : Str} (nm : Str)
    (hn : l.most = some n) (hn2 : n ≤ sizeLine) (hdf : d.params.defaults = []) (hr : Room k callerA) (hrec : ((recsOf q).any fun e => e.name == nm) = true) (hY : ∀ (w : World) (h : Heap), YP w h → (K w.params).In h)
    (F : ∀ (w : World) (mg : Str → Option Value) (fa : Addr) (h : Heap), YP w h → (K w.params).In h → h.Ns mainGlobals mg → mg d.name = some (.ref fa) → (∀ f, mg nm = some (.ref f) → LamX.OwnTab (K w.params) f h) → LamX.LawAtS l w (K w.params) (CX w) k n x mg fa h)
    (hCX : ∀ (w : World) (H : Hp) (s : Shared) (e : Value) (s' : Shared), CX w [] H s (fun _ _ _ => False) e s' → False) :
    PySem.W.WalkO q loose XP YP l.row.toRowW d [] (fun f vs => PySem.call f vs) := by
  refine Att.attach_callB hn hdf fun w s0 s1 mg mb fa ob pm cd doc a vs ns Gt Y hob hd hcd hmg hobj hints hlen hbits hg => ?_
  have KX := hY w _ Y
  have own : ∀ f, mg nm = some (.ref f) → LamX.OwnTab (K w.params) f s1.heap := fun f hf c P o1 fd1 e dd vs1 sl k1 k2 k3 k4 k5 => by
    obtain ⟨dL, hm, hn1⟩ := List.any_eq_true.mp hrec
    have hn3 : dL.name = nm := beq_iff_eq.mp hn1
    obtain ⟨a', o', fd', c', P', h1, h2, h3, h4, h5, h6⟩ := Gt.T.tab dL hm
    rw [hn3, hf] at h1
    cases h1
    rw [KX _ _ k1] at h2
    cases h2
    rw [k2] at h3
    cases h3
    rw [k3] at h4
    cases h4
    obtain ⟨⟨oc, vc, e1, _, e3, e4⟩, hP⟩ := h6
    rw [KX _ _ k4] at e1
    cases e1
    cases e3
    rw [k5] at e4
    cases e4
    exact hP
  obtain ⟨fd, cs, sp, hT, nT, C, hb, hsp, hF⟩ := F w mg fa _ Y KX Gt.T.g hmg own
  exact LamX.law_callTs KX Gt.T.g Gt.T.b Gt.T.builtins Gt.T.nolimit hg hT nT C Gt.T.bmain hobj hints (Nat.le_trans hlen hn2) hr hF hb (fun H hH hS => hsp H a ns hlen hbits hH hS) fun H e s' => hCX w H s1 e s'
/-- the law's promise where a table stands at Pt -/
def spLawT (K : PySem.W.Frag) (Pt : Addr) : Sp := fun vs H Q _ => ∃ (a : Addr) (ns : List Int), vs = [.ref a] ∧ SqL K H a (ns.map V.int) ∧ ns.length ≤ 63 ∧ GxR.TabG H Pt ∧ ∀ H', Q (.bl true) H'
end NL

set_option maxHeartbeats 4000000
namespace NL
open PySem PySem.Spec PyProof.Rows L2
section
variable {P : Program} {w : World} {K : PySem.W.Frag} {mg : Str → Option Value} {base : Heap}
/-! ### _law_some -/
def spSome : Sp := fun vs H Q _ => ∃ (d : Addr) (v : V) (A : Ar) (sh : Int), vs = [.ref d, v, .int sh] ∧ Dr H d ∧ ArIn H A v ∧ A.length ≤ 46 ∧ ∀ (p : Addr) (o : List Int) (H' : Hp), Go d H H' → H' p = some (.tup (o.map V.int)) → (∀ x ∈ o, 0 ≤ x) → Q (.ref p) H'
theorem ok_law_some (T : Txt K mg) : FnOk P w K mg base CX0 2 T.a_law_some T.d_law_some P_law_some spSome := by
  have G_law_take := ok_law_take (P := P) (w := w) (base := base) T
  refine T.F_law_some.ok sc_law_some (fun vs H Q E h => ?_) (fun cdv A outer s H vs Q E hr h => ?_)
  · obtain ⟨d, v, A, sh, rfl, _⟩ := h
    rfl
  obtain ⟨d, v, A0, sh, rfl, hD, ⟨b0, xs, rfl, e0, hxs⟩, h16, q⟩ := h
  have hxl := hxs.1
  refine ⟨_, (pss_cons (ps_if (pt_cmpR op_gt (pe_callB call_len_seq (by rfl) T.z_len PySem.boot_len (pa_cons (pv 1) pa_nil)) pe_int (nomark _))
    (pss_cons (ps_set (i := 3) sc_law_some.nd rfl (Or.inr rfl) (pe_op op_add pe_int (pe_call G_law_take (hr.mono (by omega)) (by rfl) T.m_law_take T.F_law_take.kp T.b_law_take .nil pass0 (pa_cons (pv 0) (pa_cons pe_int pa_nil)))))
    (pss_cons (ps_set (i := 4) sc_law_some.nd rfl (Or.inr rfl) (pe_call G_law_take (hr.mono (by omega)) (by rfl) T.m_law_take T.F_law_take.kp T.b_law_take .nil pass0 (pa_cons (pv 0) (pa_cons pe_int pa_nil))))
    (pss_one (ps_ret (pe_callTy call_tuple_of (by rfl) T.z_tuple (by decide +kernel) (pa_cons (pe_lc (own := [("k", 5)]) (g := (gName 5)) (tt := _) rfl sc_law_some.nd (pi_range1 (by rfl) T.z_range (pa_cons (pe_callB call_len_seq (by rfl) T.z_len PySem.boot_len (pa_cons (pv 1) pa_nil)) pa_nil)) (blkOk_by (N := N_law_some) (sc := defScope s_law_some) (by decide +kernel)) (fun _ _ _ _ _ => (pg_name (i := 5) sc_law_some.nd rfl (Or.inl rfl))) (fun _ _ _ _ _ => (pts_one (pt_cmpR op_eq (pe_cmpR op_gt (pe_op op_mod (pe_callTy call_int1 (by rfl) T.z_int (by decide +kernel) (pa_cons (pe_op op_add (pv 5) (pv 4)) pa_nil)) (pv 3)) pe_int (nomark _)) (pe_cmpR op_gt (pv 2) pe_int (nomark _)) (nomark _)))) (fun _ _ _ _ _ => (pv 5))) pa_nil))))))
    pss_nil)
    (pss_cons (ps_if (PW.pt (pw_and (pt_cmpR op_eq (pe_call G_law_take (hr.mono (by omega)) (by rfl) T.m_law_take T.F_law_take.kp T.b_law_take .nil pass0 (pa_cons (pv 0) (pa_cons pe_int pa_nil))) pe_int (nomark _)) (pw_and1 (pt_cmpR op_gt (pv 2) pe_int (nomark _)))))
    (pss_one (ps_ret (pe_tupRg rfl (by rfl) T.z_tuple (prg_1 (by rfl) T.z_range (pe_callB call_len_seq (by rfl) T.z_len PySem.boot_len (pa_cons (pv 1) pa_nil))))))
    pss_nil)
    (pss_one (ps_ret (pe_callTy call_tuple_of (by rfl) T.z_tuple (by decide +kernel) (pa_cons (pe_lc (own := [("k", 5)]) (g := (gName 5)) (tt := _) rfl sc_law_some.nd (pi_range1 (by rfl) T.z_range (pa_cons (pe_callB call_len_seq (by rfl) T.z_len PySem.boot_len (pa_cons (pv 1) pa_nil)) pa_nil)) (blkOk_by (N := N_law_some) (sc := defScope s_law_some) (by decide +kernel)) (fun _ _ _ _ _ => (pg_name (i := 5) sc_law_some.nd rfl (Or.inl rfl))) (fun _ _ _ _ _ => (pts_one (pt_cmpR op_lt (pe_call G_law_take (hr.mono (by omega)) (by rfl) T.m_law_take T.F_law_take.kp T.b_law_take .nil pass0 (pa_cons (pv 0) (pa_cons pe_int pa_nil))) (pv 2) (nomark _)))) (fun _ _ _ _ _ => (pv 5))) pa_nil)))))), ?_⟩
  refine ⟨_, rfl, b0, _, rfl, .inr (sqt e0), _, _, rfl, rfl, _, rfl, ?_⟩
  refine ite2 (fun z16 => ?_) (fun z16 => ?_)
  · refine ⟨_, rfl, d, 9, rfl, hD, by decide, fun u1 H1 g1 a1 b1 => ⟨_, _, rfl, rfl, ?_⟩⟩
    dsimp only
    generalize hst : (2 : Int) + u1 = stp
    refine ⟨_, rfl, d, 4, rfl, g1.dr, by decide, fun u2 H2 g2 a2 b2 => ?_⟩
    have g12 := g1.trans g2
    have e2 := g12.tp hD _ _ e0
    refine ⟨_, rfl, b0, _, rfl, .inr (sqt e2), _, rfl, by omega, by omega, fun D hD' => ?_⟩
    have s1 := same_new hD' (.lst [])
    refine lc_range (lo := 0) (n := ((xs.length : Nat) : Int).toNat) (fun (i : Nat) (H' : Hp) => ∃ o : List Int, Go d H H' ∧ H' D = some (.lst (o.map V.int)) ∧ o.length ≤ i ∧ ∀ x ∈ o, 0 ≤ x) ?_ ?_ ?_
    · exact ⟨[], g12.trans (.same g2.dr s1), upd_same, Nat.le_refl 0, fun x hx => (nomatch hx)⟩
    · rintro i H' hi ⟨o, g3, e3, hlen, hnn⟩
      refine ⟨rfl, ?_⟩
      refine ⟨_, rfl, _, rfl, _, _, rfl, rfl, .inl ⟨_, rfl, _, rfl, _, _, rfl, rfl, (by show (0 : Int) < stp; omega), _, _, rfl, rfl, _, rfl, _, _, rfl, rfl, rfl, _, rfl, ?_⟩⟩
      refine ite2 (fun z => ?_) (fun z => ⟨o, g3, e3, by omega, hnn⟩)
      exact ⟨_, rfl, _, e3, big' (by rw [List.length_map]; omega), o ++ [0 + (i : Int)], g3.put2 (g12.free hD') (new_ne g2.dr hD'), by rw [upd_same, List.map_append]; rfl, by rw [List.length_append]; exact Nat.add_le_add_right hlen 1, fun x hx => (List.mem_append.mp hx).elim (hnn x) fun h => by rw [List.mem_singleton.mp h]; omega⟩
    · rintro H3 ⟨o, g3, e3, hlen, hnn⟩
      refine ⟨D, _, rfl, .inl ⟨sqd e3, fun t ht => ?_⟩⟩
      exact q t o _ (g3.trans (Go.new g3.dr ht)) upd_same hnn
  refine ⟨_, rfl, d, 6, rfl, hD, by decide, fun u H1 g1 _ _ => ⟨rfl, _, rfl, ?_⟩⟩
  have e1 := g1.tp hD _ _ e0
  refine ite2 (fun z => ⟨_, rfl, _, _, rfl, rfl, _, rfl, ite2 (fun z2 => ?_) (fun z2 => ?_)⟩) (fun z => ?_)
  · refine ⟨_, rfl, b0, _, rfl, .inr (sqt e1), _, rfl, ⟨by omega, by omega, by omega, by omega, by omega⟩, fun q1 hq1 => ?_⟩
    rw [rg_ints]
    exact q q1 _ _ (g1.trans (Go.new g1.dr hq1)) upd_same fun x hx => by
      obtain ⟨i, _, rfl⟩ := List.mem_map.mp hx
      omega
  all_goals
    refine ⟨_, rfl, b0, _, rfl, .inr (sqt e1), _, rfl, by omega, by omega, fun D hD' => ?_⟩
    have nDd := new_ne g1.dr hD'
    have s1 := same_new hD' (.lst [])
    refine lc_range (lo := 0) (n := ((xs.length : Nat) : Int).toNat) (fun (i : Nat) (H' : Hp) => ∃ o : List Int, Go d H H' ∧ H' D = some (.lst (o.map V.int)) ∧ o.length ≤ i ∧ ∀ x ∈ o, 0 ≤ x) ?_ ?_ ?_
    · exact ⟨[], g1.trans (.same g1.dr s1), upd_same, Nat.le_refl 0, fun x hx => (nomatch hx)⟩
    · rintro i H' hi ⟨o, g2, e2, hlen, hnn⟩
      refine ⟨rfl, ?_⟩
      refine ⟨_, rfl, d, 8, rfl, g2.dr, by decide, fun u H2 g3 _ _ => ⟨_, rfl, _, _, rfl, rfl, _, rfl, ?_⟩⟩
      have e3 := g3.fr D _ nDd e2
      refine ite2 (fun z => ?_) (fun z => ⟨o, g2.trans g3, e3, by omega, hnn⟩)
      exact ⟨_, rfl, _, e3, big' (by rw [List.length_map]; omega), o ++ [0 + (i : Int)], (g2.trans g3).put2 (g1.free hD') nDd, by rw [upd_same, List.map_append]; rfl, by rw [List.length_append]; exact Nat.add_le_add_right hlen 1, fun x hx => (List.mem_append.mp hx).elim (hnn x) fun h => by rw [List.mem_singleton.mp h]; omega⟩
    · rintro H2 ⟨o, g2, e2, hlen, hnn⟩
      refine ⟨D, _, rfl, .inl ⟨sqd e2, fun t ht => ?_⟩⟩
      exact q t o _ (g2.trans (Go.new g2.dr ht)) upd_same hnn
end
end NL

namespace NL
open PySem PySem.Spec PyProof.Rows L2
/-! ### marks as a function of positions from -1 on -/
abbrev Mk' := Int → Bool
def bsO (n : Nat) (M : Mk') : List Bool := (List.range n).map (fun i : Nat => M (i : Int)) ++ [M (-1)]
theorem bsO_len (n : Nat) (M : Mk') : (bsO n M).length = n + 1 := by
  unfold bsO
  rw [List.length_append, List.length_map, List.length_range]
  rfl
theorem bsO_nat {n : Nat} {M : Mk'} {k : Nat} (h : k < n) : (bsO n M)[k]? = some (M (k : Int)) := by
  unfold bsO
  rw [List.getElem?_append_left (by rw [List.length_map, List.length_range]; exact h), List.getElem?_map, List.getElem?_range h]
  rfl
theorem bsO_last {n : Nat} {M : Mk'} : (bsO n M)[n]? = some (M (-1)) := by
  unfold bsO
  rw [List.getElem?_append_right (by rw [List.length_map, List.length_range]; exact Nat.le_refl n), List.length_map, List.length_range, Nat.sub_self]
  rfl
theorem bsO_at {n : Nat} {M : Mk'} {p : Int} (h0 : -1 ≤ p) (h1 : p < n) : atI (bsO n M) p = some (M p) := by
  by_cases hp : 0 ≤ p
  · have := atI_nat (bsO_nat (M := M) (show p.toNat < n by omega))
    rw [show ((p.toNat : Nat) : Int) = p by omega] at this
    exact this
  · have : p = -1 := by omega
    subst this
    unfold atI ixN
    rw [if_neg (by decide), if_pos (by rw [bsO_len]; omega), bsO_len, show ((-1 : Int) + ((n + 1 : Nat) : Int)).toNat = n by omega]
    exact bsO_last
theorem atI_mapO {α β : Type} (g : α → β) (xs : List α) (i : Int) : atI (xs.map g) i = (atI xs i).map g := by
  unfold atI
  rw [List.length_map]
  cases ixN xs.length i with
  | none => rfl
  | some j => exact List.getElem?_map
theorem bsO_V {n : Nat} {M : Mk'} {p : Int} (h0 : -1 ≤ p) (h1 : p < n) : atI ((bsO n M).map V.bl) p = some (.bl (M p)) := by
  rw [atI_mapO, bsO_at h0 h1]
  rfl
theorem bsO_mk {n : Nat} {M : Mk'} {p : Int} (h0 : -1 ≤ p) (h1 : p < n) : mkAt (bsO n M) p = M p := by
  unfold mkAt
  rw [bsO_at h0 h1]
  rfl
theorem bsO_ext {n : Nat} {M N : Mk'} (h : ∀ p : Int, -1 ≤ p → p < n → M p = N p) : bsO n M = bsO n N := by
  unfold bsO
  rw [h (-1) (Int.le_refl _) (by omega)]
  congr 1
  exact List.map_congr_left fun k hk => h _ (by omega) (by have := List.mem_range.mp hk; omega)
theorem bsO_set {n : Nat} {M : Mk'} {p : Int} (h0 : 0 ≤ p) (h1 : p < n) : (bsO n M).set p.toNat true = bsO n (fun x => M x || decide (x = p)) := by
  refine List.ext_getElem? fun k => ?_
  rw [List.getElem?_set]
  by_cases hk : p.toNat = k
  · rw [if_pos hk, if_pos (by rw [bsO_len]; omega)]
    rw [bsO_nat (show k < n by omega)]
    have : ((k : Nat) : Int) = p := by omega
    rw [this, decide_eq_true rfl, Bool.or_true]
  · rw [if_neg hk]
    rcases Nat.lt_trichotomy k n with h | h | h
    · rw [bsO_nat h, bsO_nat h, decide_eq_false (by omega), Bool.or_false]
    · subst h
      rw [bsO_last, bsO_last, decide_eq_false (by omega), Bool.or_false]
    · rw [List.getElem?_eq_none (by rw [bsO_len]; omega), List.getElem?_eq_none (by rw [bsO_len]; omega)]
/-! ### round by round -/
def frcM (side : Int) (os : Pos') (M : Mk') : Bool := if side = 0 then os.any (fun o => o.all M) else os.all (fun o => o.any M)
theorem any_congr' {α : Type} {l : List α} {f g : α → Bool} (h : ∀ x ∈ l, f x = g x) : l.any f = l.any g := by
  induction l with
  | nil => rfl
  | cons a r ih =>
    rw [List.any_cons, List.any_cons, h a (List.mem_cons_self ..), ih fun x hx => h x (List.mem_cons_of_mem _ hx)]
theorem all_congr' {α : Type} {l : List α} {f g : α → Bool} (h : ∀ x ∈ l, f x = g x) : l.all f = l.all g := by
  induction l with
  | nil => rfl
  | cons a r ih =>
    rw [List.all_cons, List.all_cons, h a (List.mem_cons_self ..), ih fun x hx => h x (List.mem_cons_of_mem _ hx)]
theorem frcM_ext {side : Int} {os : Pos'} {M N : Mk'} (h : ∀ o ∈ os, ∀ p ∈ o, M p = N p) : frcM side os M = frcM side os N := by
  unfold frcM
  split
  · exact any_congr' fun o ho => all_congr' fun p hp => h o ho p hp
  · exact all_congr' fun o ho => any_congr' fun p hp => h o ho p hp
theorem frcF_bsO {side : Int} {os : Pos'} {n : Nat} {M : Mk'} (h : ∀ o ∈ os, ∀ p ∈ o, -1 ≤ p ∧ p < (n : Int)) : frcF side os (bsO n M) = frcM side os M := by
  unfold frcF frcM
  split
  · exact any_congr' fun o ho => all_congr' fun p hp => bsO_mk (h o ho p hp).1 (h o ho p hp).2
  · exact all_congr' fun o ho => any_congr' fun p hp => bsO_mk (h o ho p hp).1 (h o ho p hp).2
def psO (A : Ar) (p : Int) : Pos' := if 0 ≤ p then (A[p.toNat]?).getD [] else []
theorem psO_at {A : Ar} {p : Int} {os : Pos'} (h0 : 0 ≤ p) (h : A[p.toNat]? = some os) : psO A p = os := by
  unfold psO
  rw [if_pos h0, h]
  rfl
/-- all successors are positions or -1 -/
def InA (A : Ar) (n : Nat) : Prop := ∀ os ∈ A, ∀ o ∈ os, ∀ p ∈ o, -1 ≤ p ∧ p < (n : Int)
theorem psO_in {A : Ar} {n : Nat} (h : InA A n) (p : Int) : ∀ o ∈ psO A p, ∀ x ∈ o, -1 ≤ x ∧ x < (n : Int) := by
  unfold psO
  split
  · cases hq : A[p.toNat]? with
    | none => intro o ho; cases ho
    | some os => exact h os (List.mem_of_getElem? hq)
  · intro o ho; cases ho
def nxM (A : Ar) (side : Int) (am : List Int) (M : Mk') : Mk' := fun p => M p || (decide (p ∈ am) && frcM side (psO A p) M)
def mr (A : Ar) (side : Int) (am : List Int) (M : Mk') : Nat → Mk'
  | 0 => M
  | k + 1 => nxM A side am (mr A side am M k)
section
variable {A : Ar} {side : Int} {am : List Int} {M : Mk'}
theorem mr_up {p : Int} {k : Nat} (h : mr A side am M k p = true) : mr A side am M (k + 1) p = true := by
  show (mr A side am M k p || _) = true
  rw [h, Bool.true_or]
theorem mr_le {p : Int} {j k : Nat} (h : j ≤ k) (e : mr A side am M j p = true) : mr A side am M k p = true := by
  induction h with
  | refl => exact e
  | step _ ih => exact mr_up ih
theorem mr_out {p : Int} (h : p ∉ am) : ∀ k, mr A side am M k p = M p
  | 0 => rfl
  | k + 1 => by
    show (mr A side am M k p || (decide (p ∈ am) && _)) = M p
    rw [decide_eq_false h, Bool.false_and, Bool.or_false, mr_out h k]
theorem mr_stop {n : Nat} (hA : InA A n) {K : Nat} (h : ∀ p, -1 ≤ p → p < (n : Int) → mr A side am M (K + 1) p = mr A side am M K p) : ∀ L, K ≤ L → ∀ p, -1 ≤ p → p < (n : Int) → mr A side am M L p = mr A side am M K p := by
  intro L hL
  induction hL with
  | refl => intro p _ _; rfl
  | step _ ih =>
    rename_i L _
    intro p h0 h1
    show (mr A side am M L p || (decide (p ∈ am) && frcM side (psO A p) (mr A side am M L))) = _
    rw [ih p h0 h1, frcM_ext (N := mr A side am M K) fun o ho x hx => ih x (psO_in hA p o ho x hx).1 (psO_in hA p o ho x hx).2]
    exact h p h0 h1
/-- the round in which a position is marked first -/
def IsRk (f : Nat → Mk') (p : Int) : Option Nat → Prop
  | some r => f r p = true ∧ ∀ j, j < r → f j p = false
  | none => ∀ j, f j p = false
theorem IsRk.uniq {f : Nat → Mk'} {p : Int} : ∀ {a b : Option Nat}, IsRk f p a → IsRk f p b → a = b
  | none, none, _, _ => rfl
  | some r, none, h, g => by
    have := g r
    rw [h.1] at this
    cases this
  | none, some r, g, h => by
    have := g r
    rw [h.1] at this
    cases this
  | some r, some q, h, g => by
    rcases Nat.lt_trichotomy r q with z | z | z
    · have := g.2 r z
      rw [h.1] at this
      cases this
    · rw [z]
    · have := h.2 q z
      rw [g.1] at this
      cases this
/-- how many of the first n positions are marked -/
def cnt (n : Nat) (f : Mk') : Nat := ((List.range n).filter (fun i : Nat => f (i : Int))).length
theorem cnt_le (n : Nat) (f : Mk') : cnt n f ≤ n := by
  have := List.length_filter_le (fun i : Nat => f (i : Int)) (List.range n)
  rw [List.length_range] at this
  exact this
theorem cnt_s (n : Nat) (f : Mk') : cnt (n + 1) f = cnt n f + (if f (n : Int) = true then 1 else 0) := by
  unfold cnt
  rw [List.range_succ, List.filter_append, List.length_append]
  congr 1
  rw [List.filter_cons]
  cases h : f (n : Int) with
  | true => rfl
  | false => rfl
theorem cnt_mono {f g : Mk'} (h : ∀ p, f p = true → g p = true) : ∀ n, cnt n f ≤ cnt n g
  | 0 => Nat.le_refl _
  | n + 1 => by
    have ih := cnt_mono h n
    rw [cnt_s, cnt_s]
    cases hf : f (n : Int) with
    | true => rw [h _ hf]; simp; exact ih
    | false =>
      rw [if_neg Bool.false_ne_true]
      omega
theorem cnt_lt {f g : Mk'} (h : ∀ p, f p = true → g p = true) : ∀ {n k : Nat}, k < n → f (k : Int) = false → g (k : Int) = true → cnt n f < cnt n g
  | 0, k, hk, _, _ => absurd hk (Nat.not_lt_zero k)
  | n + 1, k, hk, hf, hg => by
    rw [cnt_s, cnt_s]
    by_cases hkn : k = n
    · subst hkn
      have := cnt_mono h k
      rw [hf, hg, if_pos rfl, if_neg Bool.false_ne_true]
      omega
    · have ih := cnt_lt h (show k < n by omega) hf hg
      cases hf2 : f (n : Int) with
      | true => rw [h _ hf2]; simp; exact ih
      | false =>
        rw [if_neg Bool.false_ne_true]
        omega
theorem cnt_full {f : Mk'} : ∀ {n : Nat}, cnt n f = n → ∀ k, k < n → f (k : Int) = true
  | 0, _, k, hk => absurd hk (Nat.not_lt_zero k)
  | n + 1, h, k, hk => by
    have h1 := cnt_le n f
    rw [cnt_s] at h
    cases hf : f (n : Int) with
    | true =>
      rw [hf, if_pos rfl] at h
      by_cases hkn : k = n
      · rw [hkn]; exact hf
      · exact cnt_full (show cnt n f = n by omega) k (by omega)
    | false =>
      rw [hf, if_neg Bool.false_ne_true] at h
      omega
/-- where each of the first rounds marks one more, all n positions are marked in round n -/
theorem cnt_rounds {n : Nat} {f : Nat → Mk'} (up : ∀ k p, f k p = true → f (k + 1) p = true) : ∀ K, (∀ k, k < K → ∃ i : Nat, i < n ∧ f k (i : Int) = false ∧ f (k + 1) (i : Int) = true) → K ≤ cnt n (f K)
  | 0, _ => Nat.zero_le _
  | K + 1, h => by
    have ih := cnt_rounds up K fun k hk => h k (by omega)
    obtain ⟨i, hi, h1, h2⟩ := h K (Nat.lt_succ_self K)
    have := cnt_lt (fun p hp => up K p hp) hi h1 h2
    omega
end
end NL

set_option maxHeartbeats 4000000
namespace NL
open PySem PySem.Spec PyProof.Rows L2
/-- an item of a list or a tuple -/
def rIxQ (K : PySem.W.Frag) : R2 := fun x y H Q => ∃ p xs i v, x = .ref p ∧ y = .int i ∧ (SqL K H p xs ∨ SqT K H p xs) ∧ atI xs i = some v ∧ Q v H
theorem ix_seqK {X : Cx} {K : PySem.W.Frag} (h : X.K = K) : IxR X (rIxQ K) := by
  subst h
  intro value slice pins s σ H x y v u Q I rx ry q hs
  obtain ⟨p, xs, i, z, e1, e2, hq | hq, he, q⟩ := q
  · exact ix_list value slice pins s σ H x y v u Q I rx ry ⟨p, xs, i, z, e1, e2, hq, he, q⟩ hs
  · exact ix_tup value slice pins s σ H x y v u Q I rx ry ⟨p, xs, i, z, e1, e2, hq, he, q⟩ hs
/-- an arena, a tuple or a list of positions -/
def ArQ (H : Hp) (A : Ar) (v : V) : Prop := ∃ b xs, v = .ref b ∧ (H b = some (.lst xs) ∨ H b = some (.tup xs)) ∧ Each (PosIn H) A xs
theorem ArQ.of {H : Hp} {A : Ar} {v : V} (h : ArIn H A v) : ArQ H A v := by
  obtain ⟨b, xs, e, q, r⟩ := h
  exact ⟨b, xs, e, .inr q, r⟩
theorem ArQ.sm {P : Addr} {H H' : Hp} {A : Ar} {v : V} (s : Sm P H H') (h : ArQ H A v) : ArQ H' A v := by
  obtain ⟨b, xs, e, q, r⟩ := h
  refine ⟨b, xs, e, ?_, r.mono fun a x => PosIn.tp s.tp⟩
  rcases q with q | q
  · exact .inl (s.lst q)
  · exact .inr (s.tup q)
theorem seqQ {K : PySem.W.Frag} {H : Hp} {b : Addr} {xs : List V} (h : H b = some (.lst xs) ∨ H b = some (.tup xs)) : SqL K H b xs ∨ SqT K H b xs := by
  rcases h with h | h
  · exact .inl (sqd h)
  · exact .inr (sqt h)
/-- what the dict of steps says after k rounds -/
def DkR (f : Nat → Mk') (k : Nat) (kvs : List (Key × V)) : Prop := ∀ p : Int, ((f k p = false ∨ f 0 p = true) → valV kvs (Sum.inl p : Key) = none) ∧ (f k p = true → f 0 p = false → ∃ r, r ≤ k ∧ valV kvs (Sum.inl p : Key) = some (.int (r : Nat)) ∧ f r p = true ∧ ∀ j, j < r → f j p = false)
/-- .. of a position in the end -/
theorem DkR.rk {A : Ar} {side : Int} {am : List Int} {M : Mk'} {n K : Nat} {kvs : List (Key × V)} (h : DkR (mr A side am M) K kvs) (hst : ∀ L, K ≤ L → ∀ p, -1 ≤ p → p < (n : Int) → mr A side am M L p = mr A side am M K p) {p : Int} (h0 : -1 ≤ p) (h1 : p < n) :
    ∃ ro : Option Nat, IsRk (mr A side am M) p ro ∧ (M p = true → ro = some 0) ∧ (M p = false → valV kvs (Sum.inl p : Key) = ro.map fun r : Nat => V.int (r : Int)) := by
  by_cases hM : M p = true
  · exact ⟨some 0, ⟨hM, fun j hj => absurd hj (Nat.not_lt_zero j)⟩, fun _ => rfl, fun e => by rw [hM] at e; cases e⟩
  · have hM' : M p = false := by simpa using hM
    by_cases hK : mr A side am M K p = true
    · obtain ⟨r, hr, hv, h2, h3⟩ := (h p).2 hK hM'
      exact ⟨some r, ⟨h2, h3⟩, fun e => absurd e hM, fun _ => hv⟩
    · have hK' : mr A side am M K p = false := by simpa using hK
      refine ⟨none, fun j => ?_, fun e => absurd e hM, fun _ => (h p).1 (.inl hK')⟩
      rcases Nat.le_total K j with z | z
      · rw [hst j z p h0 h1]
        exact hK'
      · cases hj : mr A side am M j p with
        | false => rfl
        | true => exact absurd (mr_le z hj) hK
theorem putK_len' {κ : Type} [DecidableEq κ] (c : List (κ × V)) (k : κ) (x : V) : (putK c k x).length ≤ c.length + 1 := by
  unfold putK
  split
  · rw [List.length_map]
    exact Nat.le_succ _
  · rw [List.length_append]
    exact Nat.le_refl _
theorem dp_intsG {K : PySem.W.Frag} {H : Hp} : ∀ l : List Int, DpAll K H (l.map V.int) (l.map PyData.int)
  | [] => .nil
  | a :: r => .cons (.int a) (dp_intsG r)
theorem lay_intsG : ∀ l : List Int, PyData.canLayAll0 (l.map PyData.int) = true ∧ PyData.depthAll (l.map PyData.int) = 0
  | [] => ⟨rfl, rfl⟩
  | a :: r => by
    obtain ⟨h1, h2⟩ := lay_intsG r
    refine ⟨?_, ?_⟩
    · show (true && PyData.canLayAll0 (r.map PyData.int)) = true
      rw [h1]
      rfl
    · show max 0 (PyData.depthAll (r.map PyData.int)) = 0
      rw [h2]
      rfl
theorem shaped_lstG (l : List Int) : SeqAt.shaped (.list (l.map PyData.int)) = true := by
  obtain ⟨h1, h2⟩ := lay_intsG l
  show (PyData.canLayAll0 (l.map PyData.int) && decide (PyData.depthAll (l.map PyData.int) + 1 ≤ 64)) = true
  rw [h1, h2]
  rfl
theorem foldK_take {α : Type} {l : List α} {j : Nat} {x : α} (h : l[j]? = some x) (y : α) : y ∈ l.take (j + 1) ↔ y ∈ l.take j ∨ y = x := by
  rw [List.take_add_one, h, List.mem_append]
  simp
section
variable {P : Program} {w : World} {K : PySem.W.Frag} {mg : Str → Option Value} {base : Heap}
def spSteps (K : PySem.W.Frag) (Pt : Addr) : Sp := fun vs H Q _ => ∃ (v : V) (A : Ar) (side : Int) (ml al : Addr) (M : Mk') (am : List Int), vs = [v, .int side, .ref ml, .ref al] ∧ ArQ H A v ∧ A.length ≤ 500 ∧ InA A A.length ∧ H ml = some (.lst ((bsO A.length M).map V.bl)) ∧
  H al = some (.lst (am.map V.int)) ∧ am.length ≤ 500 ∧ (∀ p ∈ am, 0 ≤ p ∧ p < (A.length : Int)) ∧ GxR.TabG H Pt ∧
  ∀ D kvs k H', Sm Pt H H' → H D = none → H' D = some (.dK kvs) → DkR (mr A side am M) k kvs → (∀ L, k ≤ L → ∀ p, -1 ≤ p → p < (A.length : Int) → mr A side am M L p = mr A side am M k p) → Q (.ref D) H'
theorem ok_steps_to (T : Txt K mg) {c Pt : Addr} (TB : GxR.TabB base mg c Pt) (hc : T.dforces.code = .ref c) : FnOk P w K mg base CX0 3 T.asteps_to T.dsteps_to Psteps_to (spSteps K Pt) := by
  have Gforces := ok_forces (P := P) (w := w) T TB hc
  refine T.Fsteps_to.ok scsteps_to (fun vs H Q E h => ?_) (fun cdv A outer s H vs Q E hr h => ?_)
  · obtain ⟨v, A, side, ml, al, M, am, rfl, _⟩ := h
    rfl
  obtain ⟨v, A0, side, ml, al, M, am, rfl, hA, hn, hin, hm, ha, hal, hap, hT, q⟩ := h
  generalize hnn : A0.length = n at *
  refine ⟨_, (pss_cons (ps_set (i := 4) scsteps_to.nd rfl (Or.inr rfl) (pe_callTy call_list_of (by rfl) T.z_list (by decide +kernel) (pa_cons (pv 2) pa_nil)))
    (pss_cons (ps_set (i := 5) scsteps_to.nd rfl (Or.inl rfl) pe_dnewK)
    (pss_cons (ps_set (i := 6) scsteps_to.nd rfl (Or.inl rfl) pe_int)
    (pss_cons (ps_set (i := 7) scsteps_to.nd rfl (Or.inl rfl) pe_bl)
    (pss_cons (ps_while PassesOwn.never (pt_val (pv 7))
    (pss_cons (ps_aug (i := 6) scsteps_to.nd rfl (Or.inl rfl) pe_int ip_add)
    (pss_cons (ps_setLc (i := 8) (own := [("at", 9)]) (g := (gName 9)) (tt := _) rfl scsteps_to.nd rfl rfl (sw_true rfl rfl rfl (by decide +kernel)) (pi_list (pv 3)) (blkOk_by (N := Nsteps_to) (sc := defScope ssteps_to) (by decide +kernel)) (fun _ _ _ _ _ => (pg_name (i := 9) scsteps_to.nd rfl (Or.inl rfl))) (fun _ _ _ _ _ => (pts_one (PW.pt (pw_and (pt_not (pt_val (pe_ix (ix_listK (K := K) rfl) (pv 4) (pv 9) (fun _ _ => rfl)))) (pw_and1 (pt_val (pe_call Gforces (hr.mono (by omega)) (by rfl) T.mforces T.Fforces.kp T.bforces .nil pass0 (pa_cons (pv 1) (pa_cons (pe_ix (ix_seqK (K := K) rfl) (pv 0) (pv 9) (fun _ _ => rfl)) (pa_cons (pv 4) pa_nil)))))))))) (fun _ _ _ _ _ => (pv 9)))
    (pss_cons (ps_for  PassesOwn.never rfl (pi_list (pv 8)) (pg_name (i := 9) scsteps_to.nd rfl (Or.inl rfl))
    (pss_cons (ps_dput (hu_of hr) (pv 5) (pv 9) (pv 6) rfl)
    (pss_one (ps_asg pe_bl (pg_sub (pv 4) (pv 9) set_list)))))
    (pss_one (ps_set (i := 7) scsteps_to.nd rfl (Or.inl rfl) (pe_cmpR (op_neD hr.units) (pv 8) (pe_lst pa_nil) (nomark _))))))))
    (pss_one (ps_ret (pv 5)))))))), ?_⟩
  refine ⟨_, rfl, ml, _, rfl, .inl (sqd hm), fun rl hrl => ?_⟩
  obtain ⟨H1, e1, s1, k1⟩ := newH hrl (.lst ((bsO n M).map V.bl))
  rw [e1]
  refine fun D hD => ?_
  obtain ⟨H2, e2, s2, k2⟩ := newH hD (.dK [])
  rw [e2]
  have hnrl : rl ≠ D := fun z => by
    rw [z, hD] at k1
    cases k1
  have hDH : H D = none := s1.free hD
  have hrH : H rl = none := hrl
  have g0 := s1.trans s2
  have rD0 : DkR (mr A0 side am M) 0 [] := fun p => ⟨fun _ => rfl, fun h1 h2 => by
    rw [h1] at h2
    cases h2⟩
  have up : ∀ k p, mr A0 side am M k p = true → mr A0 side am M (k + 1) p = true := fun k p e => mr_up e
  -- round by round
  refine ⟨fun m σ H' => ∃ (k : Nat) (g : Bool) (kvs : List (Key × V)) (y8 y9 : Option V), σ = [some v, some (.int side), some (.ref ml), some (.ref al), some (.ref rl), some (.ref D), some (.int (k : Nat)), some (.bl g), y8, y9] ∧ Sm Pt H H' ∧ H' rl = some (.lst ((bsO n (mr A0 side am M k)).map V.bl)) ∧ H' D = some (.dK kvs) ∧ DkR (mr A0 side am M) k kvs ∧ kvs.length ≤ k * 500 ∧
    (g = true → k ≤ cnt n (mr A0 side am M k)) ∧ (g = false → ∃ j, k = j + 1 ∧ ∀ p, -1 ≤ p → p < (n : Int) → mr A0 side am M (j + 1) p = mr A0 side am M j p) ∧ m = if g = true then n - cnt n (mr A0 side am M k) + 1 else 0, ⟨_, 0, true, [], _, _, rfl, .of g0, s2 _ _ k1, k2, rD0, Nat.zero_le _, fun _ => Nat.zero_le _, fun e => (by cases e), rfl⟩, ?_⟩
  rintro m σ H3 ⟨k, g, kvs, y8, y9, rfl, s3, kr3, kD3, hdk, hkl, hg1, hg2, hmm⟩
  refine ⟨_, rfl, g, rfl, ?_⟩
  cases g with
  | false =>
    refine ifF rfl ?_
    obtain ⟨j, rfl, hst⟩ := hg2 rfl
    have hst2 := mr_stop hin hst
    refine ⟨_, rfl, q D kvs (j + 1) H3 s3 hDH kD3 hdk fun L hL p h0 h1 => ?_⟩
    rw [hst2 L (by omega) p h0 h1, hst p h0 h1]
  | true =>
  refine ifT rfl ?_
  have hkc := hg1 rfl
  have hcn := cnt_le n (mr A0 side am M k)
  generalize hf : mr A0 side am M k = f at *
  have hfs : mr A0 side am M (k + 1) = nxM A0 side am f := by rw [← hf]; rfl
  refine ⟨fun σ H' => ∃ (fnd : List Int) (kvs : List (Key × V)) (y8 y9 : Option V), σ = [some v, some (.int side), some (.ref ml), some (.ref al), some (.ref rl), some (.ref D), some (.int ((k + 1 : Nat) : Int)), some (.bl (!fnd.isEmpty)), y8, y9] ∧ Sm Pt H H' ∧ fnd = am.filter (fun p => !f p && frcM side (psO A0 p) f) ∧ H' rl = some (.lst ((bsO n (nxM A0 side am f)).map V.bl)) ∧ H' D = some (.dK kvs) ∧ DkR (mr A0 side am M) (k + 1) kvs ∧ kvs.length ≤ (k + 1) * 500, ?_, ?_⟩
  · rintro σ' H' ⟨fnd, kvs', z8, z9, rfl, t3, hfnd, f1, f2, hdk', hkl'⟩
    rw [← hfs] at f1
    have hin1 : ∀ p, p ∈ fnd → p ∈ am ∧ f p = false ∧ frcM side (psO A0 p) f = true := fun p hp => by
      rw [hfnd, List.mem_filter] at hp
      simpa using hp
    have gain : fnd.isEmpty = false → cnt n f < cnt n (mr A0 side am M (k + 1)) := fun e => by
      obtain ⟨p, hp⟩ : ∃ p, p ∈ fnd := by
        cases hc2 : fnd with
        | nil => rw [hc2] at e; cases e
        | cons a r => exact ⟨a, List.mem_cons_self ..⟩
      obtain ⟨q1, q2, q3⟩ := hin1 p hp
      obtain ⟨p0, p1⟩ := hap p q1
      refine cnt_lt (k := p.toNat) (fun x hx => by rw [hfs]; show (f x || _) = true; rw [hx, Bool.true_or]) (by omega) ?_ ?_
      · rw [show ((p.toNat : Nat) : Int) = p by omega]
        exact q2
      · rw [show ((p.toNat : Nat) : Int) = p by omega, hfs]
        show (f p || (decide (p ∈ am) && frcM side (psO A0 p) f)) = true
        rw [decide_eq_true q1, q3, Bool.true_and, Bool.or_true]
    have hc1 := cnt_le n (mr A0 side am M (k + 1))
    refine ⟨_, ?_, k + 1, !fnd.isEmpty, kvs', z8, z9, rfl, t3, f1, f2, hdk', hkl', fun e => ?_, fun e => ?_, rfl⟩
    · rw [hmm, if_pos rfl]
      cases he : fnd.isEmpty with
      | true =>
        rw [Bool.not_true, if_neg Bool.false_ne_true]
        omega
      | false =>
        have := gain he
        rw [Bool.not_false, if_pos rfl]
        omega
    · have := gain (by simpa using e)
      omega
    · refine ⟨k, rfl, fun p h0 h1 => ?_⟩
      have hnil : fnd = [] := by
        have : fnd.isEmpty = true := by simpa using e
        simpa using this
      rw [hfs, hf]
      show (f p || (decide (p ∈ am) && frcM side (psO A0 p) f)) = f p
      cases hfp : f p with
      | true => rfl
      | false =>
        rw [Bool.false_or]
        cases hd : (decide (p ∈ am) && frcM side (psO A0 p) f) with
        | false => rfl
        | true =>
          rw [Bool.and_eq_true] at hd
          have : p ∈ fnd := by
            rw [hfnd, List.mem_filter]
            refine ⟨of_decide_eq_true hd.1, ?_⟩
            simp [hfp, hd.2]
          rw [hnil] at this
          cases this
  refine ⟨_, rfl, _, _, rfl, rfl, ?_⟩
  refine ⟨_, rfl, al, rfl, ⟨_, sqd (s3.lst ha)⟩, fun fl hfl => ?_⟩
  have hT3 := s3.tb hT
  have hflP : fl ≠ Pt := TabG.ne0 hT3 hfl
  have hflr : fl ≠ rl := fun z => by
    rw [z, kr3] at hfl
    cases hfl
  have hflD : fl ≠ D := fun z => by
    rw [z, kD3] at hfl
    cases hfl
  have hA3 := hA.sm s3
  generalize ht : (fun p => !f p && frcM side (psO A0 p) f) = t
  refine lc_list (K := K) (a := al) (xs := am.map V.int) (fun (j : Nat) (H' : Hp) => Sm Pt H3 H' ∧ H' fl = some (.lst (((am.take j).filter t).map V.int))) ?_ ?_ ?_ ?_
  · exact ⟨.of (same_new hfl _), upd_same⟩
  · rintro j H' _ ⟨s4, _⟩
    exact sqd (s4.lst (s3.lst ha))
  · rintro j x H4 hx ⟨s4, k4⟩
    rw [List.getElem?_map] at hx
    obtain ⟨p, hp, rfl⟩ := Option.map_eq_some_iff.mp hx
    obtain ⟨p0, p1⟩ := hap p (List.mem_of_getElem? hp)
    have hnext : (am.take (j + 1)).filter t = (am.take j).filter t ++ (if t p = true then [p] else []) := by
      rw [List.take_add_one, hp, List.filter_append]
      congr 1
      rw [Option.toList_some, List.filter_cons]
      cases t p <;> rfl
    have hlen : ((am.take j).filter t).length ≤ 500 := by
      have h1 := List.length_filter_le t (am.take j)
      rw [List.length_take] at h1
      omega
    refine ⟨rfl, ?_⟩
    refine ⟨_, rfl, _, rfl, rl, _, _, _, rfl, rfl, sqd (s4.lst kr3), bsO_V (by omega) p1, _, rfl, ?_⟩
    cases hfp : f p with
    | true =>
      refine ifF rfl (iteF ?_)
      refine ⟨s4, ?_⟩
      rw [hnext, show t p = false by rw [← ht]; simp [hfp], if_neg Bool.false_ne_true, List.append_nil]
      exact k4
    | false =>
      refine ifT rfl ?_
      obtain ⟨b0, xs, rfl, hb0, hxs⟩ := hA3.sm s4
      obtain ⟨os, x, ho, hat, hpos⟩ := hxs.atI p0 (by rw [hnn]; exact p1)
      have hps := psO_at p0 ho
      have hios := hin os (List.mem_of_getElem? ho)
      refine ⟨_, rfl, _, rfl, _, rfl, b0, xs, p, x, rfl, rfl, seqQ hb0, hat, _, rfl, side, x, rl, os, bsO n f, rfl, hpos, s4.lst kr3, s4.tb hT3, fun o ho2 i hi => ?_, fun H5 s5 => ⟨_, rfl, ?_⟩⟩
      · rw [bsO_at (hios o ho2 i hi).1 (hios o ho2 i hi).2]
        rfl
      · rw [frcF_bsO hios]
        have htp : t p = frcM side os f := by rw [← ht]; simp [hfp, hps]
        cases hfr : frcM side os f with
        | false =>
          refine iteF ⟨s4.trans s5, ?_⟩
          rw [hnext, htp, hfr, if_neg Bool.false_ne_true, List.append_nil]
          exact s5.lst k4
        | true =>
          refine iteT ⟨_, rfl, _, s5.lst k4, big' (by rw [List.length_map]; omega), (s4.trans s5).put hfl hflP, ?_⟩
          rw [upd_same, hnext, htp, hfr, if_pos rfl, List.map_append]
          rfl
  · rintro H4 ⟨s4, k4⟩
    rw [List.length_map, List.take_length] at k4
    have hfl500 : (am.filter t).length ≤ 500 := Nat.le_trans (List.length_filter_le _ _) hal
    have hmem : ∀ p, p ∈ am.filter t → 0 ≤ p ∧ p < (n : Int) := fun p h => hap p (List.mem_filter.mp h).1
    generalize hfnd : am.filter t = fnd at *
    refine ⟨_, rfl, fl, rfl, ⟨_, sqd k4⟩, ?_⟩
    refine for_list (K := K) (a := fl) (xs := fnd.map V.int) (fun (j : Nat) (σ : L2.St) (H' : Hp) => ∃ (kvs' : List (Key × V)) (y9 : Option V), σ = [some v, some (.int side), some (.ref ml), some (.ref al), some (.ref rl), some (.ref D), some (.int (((k : Nat) : Int) + 1)), some (.bl true), some (.ref fl), y9] ∧ Sm Pt H H' ∧ H' fl = some (.lst (fnd.map V.int)) ∧
      H' rl = some (.lst ((bsO n (fun x => f x || decide (x ∈ fnd.take j))).map V.bl)) ∧ H' D = some (.dK kvs') ∧ (∀ p : Int, valV kvs' (Sum.inl p : Key) = if p ∈ fnd.take j then some (.int (((k : Nat) : Int) + 1)) else valV kvs (Sum.inl p : Key)) ∧ kvs'.length ≤ k * 500 + j) ?_ ?_ ?_ ?_
    · refine ⟨kvs, _, rfl, s3.trans s4, k4, ?_, s4.dK kD3, fun p => ?_, hkl⟩
      · rw [s4.lst kr3]
        simp
      · rw [List.take_zero, if_neg (by simp)]
    · rintro j σ H' _ ⟨kvs', y9, rfl, _, k5, _⟩
      exact sqd k5
    · rintro j x σ H5 hx ⟨kvs', y9, rfl, s5, k5, kr5, kD5, hv5, hl5⟩
      rw [List.getElem?_map] at hx
      obtain ⟨p, hp, rfl⟩ := Option.map_eq_some_iff.mp hx
      obtain ⟨p0, p1⟩ := hmem p (List.mem_of_getElem? hp)
      have hj := (List.getElem?_eq_some_iff.mp hp).1
      refine ⟨_, rfl, _, rfl, _, rfl, D, _, rfl, DPut.k (k := Sum.inl p) kD5 (big' (by have := cnt_le n f; omega)), ?_⟩
      have hDP : D ≠ Pt := TabG.ne0 hT hDH
      have hrP : rl ≠ Pt := TabG.ne0 hT hrH
      refine ⟨_, rfl, _, rfl, rl, _, _, _, rfl, rfl, by rw [upd_ne hnrl]; exact kr5, ixN_in p0 (by rw [List.length_map, bsO_len]; omega), ?_⟩
      refine ⟨putK kvs' (Sum.inl p : Key) (.int (((k : Nat) : Int) + 1)), _, rfl, (s5.put hDH hDP).put hrH hrP, ?_, ?_, ?_, fun y => ?_, ?_⟩
      · rw [upd_ne hflr, upd_ne hflD]
        exact k5
      · rw [upd_same, ← List.map_set, bsO_set p0 p1]
        congr 3
        refine bsO_ext fun x _ _ => ?_
        rw [Bool.or_assoc]
        congr 1
        rw [← Bool.decide_or]
        exact decide_eq_decide.mpr (foldK_take hp x).symm
      · rw [upd_ne (Ne.symm hnrl), upd_same]
      · rw [valV_put, hv5]
        by_cases hy : y = p
        · rw [if_pos (by rw [hy]), if_pos ((foldK_take hp y).mpr (.inr hy))]
        · rw [if_neg (fun e => hy (Sum.inl.inj e))]
          by_cases hy2 : y ∈ fnd.take j
          · rw [if_pos hy2, if_pos ((foldK_take hp y).mpr (.inl hy2))]
          · rw [if_neg hy2, if_neg (fun e => ((foldK_take hp y).mp e).elim hy2 hy)]
      · have := putK_len' kvs' (Sum.inl p : Key) (V.int (((k : Nat) : Int) + 1))
        omega
    · rintro σ H5 ⟨kvs', y9, rfl, s5, k5, kr5, kD5, hv5, hl5⟩
      rw [List.length_map, List.take_length] at kr5
      rw [List.length_map] at hv5 hl5
      simp only [List.take_length] at hv5
      have hnx : bsO n (fun x => f x || decide (x ∈ fnd)) = bsO n (nxM A0 side am f) := bsO_ext fun x _ _ => by
        show _ = (f x || (decide (x ∈ am) && frcM side (psO A0 x) f))
        rw [← hfnd, ← ht]
        cases hfx : f x with
        | true => rfl
        | false =>
          rw [Bool.false_or, Bool.false_or, ← Bool.decide_coe (frcM side (psO A0 x) f), ← Bool.decide_and]
          refine decide_eq_decide.mpr ?_
          rw [List.mem_filter, hfx]
          simp
      rw [hnx] at kr5
      refine ⟨_, rfl, Nat.zero_le _, fun e hel => ?_⟩
      have heD : e ≠ D := fun z => by
        rw [z, kD5] at hel
        cases hel
      have her : e ≠ rl := fun z => by
        rw [z, kr5] at hel
        cases hel
      have hef : fl ≠ e := fun z => by
        rw [← z, k5] at hel
        cases hel
      refine ⟨.list (fnd.map PyData.int), .list (([] : List Int).map PyData.int), .lst (sqd (by rw [upd_ne hef]; exact k5)) (dp_intsG _), .lst (sqd upd_same) .nil, shaped_lstG _, shaped_lstG _, ?_⟩
      refine ⟨fnd, kvs', some (.ref fl), y9, ?_, s5.trans (.of (same_new hel _)), rfl, by rw [upd_ne (Ne.symm her)]; exact kr5, by rw [upd_ne (Ne.symm heD)]; exact kD5, ?_, by omega⟩
      · cases fnd with
        | nil => rfl
        | cons a r => rfl
      · have hmk : ∀ p, mr A0 side am M k p = f p := fun p => by rw [hf]
        have hin1 : ∀ p, p ∈ fnd → f p = false ∧ mr A0 side am M (k + 1) p = true := fun p hp => by
          rw [← hfnd, List.mem_filter, ← ht] at hp
          obtain ⟨h1, h2⟩ := hp
          rw [Bool.and_eq_true] at h2
          refine ⟨by simpa using h2.1, ?_⟩
          rw [hfs]
          show (f p || (decide (p ∈ am) && frcM side (psO A0 p) f)) = true
          rw [decide_eq_true h1, h2.2, Bool.true_and, Bool.or_true]
        have hin2 : ∀ p, f p = false → mr A0 side am M (k + 1) p = true → p ∈ fnd := fun p h1 h2 => by
          rw [hfs] at h2
          have h3 : (f p || (decide (p ∈ am) && frcM side (psO A0 p) f)) = true := h2
          rw [h1, Bool.false_or, Bool.and_eq_true] at h3
          rw [← hfnd, List.mem_filter, ← ht]
          exact ⟨of_decide_eq_true h3.1, by simp [h1, h3.2]⟩
        intro p
        rw [hv5 p]
        refine ⟨fun h => ?_, fun h1 h2 => ?_⟩
        · have hno : p ∉ fnd := fun hp => by
            obtain ⟨g1, g2⟩ := hin1 p hp
            rcases h with h | h
            · rw [h] at g2
              cases g2
            · have : mr A0 side am M k p = true := mr_le (Nat.zero_le k) h
              rw [hmk, g1] at this
              cases this
          rw [if_neg hno]
          refine (hdk p).1 ?_
          rcases h with h | h
          · left
            cases hk2 : mr A0 side am M k p with
            | false => rfl
            | true =>
              rw [mr_up hk2] at h
              cases h
          · exact .inr h
        · by_cases hp : p ∈ fnd
          · rw [if_pos hp]
            refine ⟨k + 1, Nat.le_refl _, rfl, h1, fun j hj => ?_⟩
            cases hj2 : mr A0 side am M j p with
            | false => rfl
            | true =>
              have := mr_le (show j ≤ k by omega) hj2
              rw [hmk, (hin1 p hp).1] at this
              cases this
          · rw [if_neg hp]
            have hk2 : mr A0 side am M k p = true := by
              rw [hmk]
              cases hfp : f p with
              | true => rfl
              | false => exact absurd (hin2 p hfp h1) hp
            obtain ⟨r, hr1, hr2, hr3, hr4⟩ := (hdk p).2 hk2 h2
            exact ⟨r, by omega, hr2, hr3, hr4⟩
end
end NL

set_option maxHeartbeats 4000000
namespace NL
open PySem PySem.Spec PyProof.Rows L2
theorem rgA_ints (a b : Int) : rgV a b = ((List.range (b - a).toNat).map fun i : Nat => a + (i : Int)).map V.int := by
  unfold rgV
  rw [List.map_map] <;> rfl
/-- the first n positions -/
def psA (n : Nat) : List Int := (List.range n).map fun i : Nat => (i : Int)
theorem psA_mem {n : Nat} {p : Int} : p ∈ psA n ↔ 0 ≤ p ∧ p < (n : Int) := by
  unfold psA
  rw [List.mem_map]
  constructor
  · rintro ⟨i, hi, rfl⟩
    have := List.mem_range.mp hi
    omega
  · rintro ⟨h0, h1⟩
    exact ⟨p.toNat, List.mem_range.mpr (by omega), by omega⟩
theorem psA_len (n : Nat) : (psA n).length = n := by
  unfold psA
  rw [List.length_map, List.length_range]
theorem op_in_seqK {X : Cx} {K : PySem.W.Frag} (h : X.K = K) : OpR X (compareOp .In) (rIn K false) := by
  subst h
  exact op_in_seq
theorem op_notIn_seqK {X : Cx} {K : PySem.W.Frag} (h : X.K = K) : OpR X (compareOp .NotIn) (rIn K true) := by
  subst h
  exact op_notIn_seq
theorem SqT.same {K : PySem.W.Frag} {H H' : Hp} {a : Addr} {xs : List V} (s : Same H H') (h : SqT K H a xs) : SqT K H' a xs := (Sm.of (P := 0) s).seqT h
def rkV : Option Nat → V
  | none => .non
  | some r => .int (r : Nat)
/-- marks of the positions, and of being out: o -/
def mkO (o : Bool) (B : Int → Bool) : Mk' := fun p => if p = -1 then o else B p
theorem bsO_mkO (n : Nat) (o : Bool) (B : Int → Bool) : bsO n (mkO o B) = ((List.range n).map fun i : Nat => B (i : Int)) ++ [o] := by
  unfold bsO
  have h : ∀ k : Nat, mkO o B (k : Int) = B (k : Int) := fun k => if_neg (by omega)
  rw [show mkO o B (-1) = o from if_pos rfl, show (fun i : Nat => mkO o B (i : Int)) = fun i : Nat => B (i : Int) from funext h]
/-- the ranks rs are those of the marks M -/
def RksAt (A : Ar) (side : Int) (M : Mk') (rs : List V) : Prop := rs.length = A.length ∧ ∀ (k : Nat), k < A.length → ∃ ro, IsRk (mr A side (psA A.length) M) (k : Int) ro ∧ rs[k]? = some (rkV ro)
section
variable {P : Program} {w : World} {K : PySem.W.Frag} {mg : Str → Option Value} {base : Heap}
def spRanks (K : PySem.W.Frag) (Pt : Addr) : Sp := fun vs H Q _ => ∃ (v : V) (A : Ar) (side : Int) (ml : Addr) (B : Int → Bool), vs = [v, .int side, .ref ml] ∧ ArQ H A v ∧ A.length ≤ 500 ∧ InA A A.length ∧ H ml = some (.lst (((List.range A.length).map fun i : Nat => B (i : Int)).map V.bl)) ∧ GxR.TabG H Pt ∧
  ∀ p rs H', Sm Pt H H' → H p = none → H' p = some (.lst rs) → RksAt A side (mkO (decide (side = 1)) B) rs → Q (.ref p) H'
theorem ok_ranks_to (T : Txt K mg) {c Pt : Addr} (TB : GxR.TabB base mg c Pt) (hc : T.dforces.code = .ref c) : FnOk P w K mg base CX0 4 T.a_ranks_to T.d_ranks_to P_ranks_to (spRanks K Pt) := by
  have Gsteps_to := ok_steps_to (P := P) (w := w) T TB hc
  refine T.F_ranks_to.ok sc_ranks_to (fun vs H Q E h => ?_) (fun cdv A outer s H vs Q E hr h => ?_)
  · obtain ⟨v, A, side, ml, B, rfl, _⟩ := h
    rfl
  obtain ⟨v, A0, side, ml, B, rfl, hA, hn, hin, hm, hT, q⟩ := h
  obtain ⟨b0, xs, rfl, hb0, hxs⟩ := id hA
  have hxl := hxs.1
  refine ⟨_, (pss_cons (ps_set (i := 3) sc_ranks_to.nd rfl (Or.inr rfl) (pe_call Gsteps_to (hr.mono (by omega)) (by rfl) T.msteps_to T.Fsteps_to.kp T.bsteps_to .nil pass0 (pa_cons (pv 0) (pa_cons (pv 1) (pa_cons (pe_op op_cat (pv 2) (pe_lst (pa_cons (pe_cmpR op_eq (pv 1) (pe_glob rfl T.g_DISTURBANCE T.r_DISTURBANCE) (nomark _)) pa_nil))) (pa_cons (pe_listRg rfl (by rfl) T.z_list (prg_1 (by rfl) T.z_range (pe_callB call_len_seq (by rfl) T.z_len PySem.boot_len (pa_cons (pv 0) pa_nil)))) pa_nil))))))
    (pss_one (ps_ret (pe_lc (own := [("at", 4), ("mark", 5)]) (g := (gTup K 2 (gCons (gName 4) (gCons (gName 5) gNil)))) (tt := tYes) rfl sc_ranks_to.nd (pi_enum (by rfl) T.z_enumerate (pa_cons (pv 2) pa_nil)) (blkOk_by (N := N_ranks_to) (sc := defScope s_ranks_to) (by decide +kernel)) (fun _ _ _ _ _ => (pg_tup rfl (pgs_cons (pg_name (i := 4) sc_ranks_to.nd rfl (Or.inl rfl)) (pgs_cons (pg_name (i := 5) sc_ranks_to.nd rfl (Or.inl rfl)) pgs_nil)))) (fun _ _ _ _ _ => pts_nil) (fun _ _ _ _ _ => (pe_ifExp (pt_val (pv 5)) pe_int (pe_dget1 (hu_of hr) (pv 3) (pv 4) ⟨rfl, rfl, rfl, rfl⟩))))))), ?_⟩
  refine ⟨_, rfl, _, rfl, _, rfl, _, rfl, rfl, Nat.le_of_ble_eq_true rfl, fun l hl => ?_⟩
  obtain ⟨H1, e1, s1, k1⟩ := newH hl (.lst [V.bl (decide (V.int side = V.int 1))])
  rw [e1]
  refine ⟨ml, l, _, _, rfl, rfl, s1 _ _ hm, k1, big (by rw [List.length_map, List.length_map, List.length_range, List.length_singleton]; omega), fun m2 hm2 => ?_⟩
  obtain ⟨H2, e2, s2, k2⟩ := newH hm2 (.lst (((List.range A0.length).map fun i : Nat => B (i : Int)).map V.bl ++ [V.bl (decide (V.int side = V.int 1))]))
  rw [e2]
  have s12 := s1.trans s2
  have hb2 : H2 b0 = some (.lst xs) ∨ H2 b0 = some (.tup xs) := hb0.elim (fun h => .inl (s12 _ _ h)) (fun h => .inr (s12 _ _ h))
  refine ⟨_, rfl, b0, _, rfl, seqQ hb2, _, rfl, ⟨by omega, by omega, by omega, by omega, by omega⟩, fun al hal => ?_⟩
  obtain ⟨H3, e3, s3, k3⟩ := newH hal (.lst (rgV 0 ((xs.length : Nat) : Int)))
  rw [e3]
  have hal2 : rgV 0 ((xs.length : Nat) : Int) = (psA A0.length).map V.int := by
    rw [rgA_ints, hxl, show (((A0.length : Nat) : Int) - 0).toNat = A0.length by omega]
    unfold psA
    rw [show (fun i : Nat => (0 : Int) + (i : Int)) = fun i : Nat => (i : Int) from funext fun i => Int.zero_add _]
  rw [hal2] at k3
  have s13 := s12.trans s3
  have hmarks : ((List.range A0.length).map fun i : Nat => B (i : Int)).map V.bl ++ [V.bl (decide (V.int side = V.int 1))] = (bsO A0.length (mkO (decide (side = 1)) B)).map V.bl := by
    rw [bsO_mkO, List.map_append, dec_int, Bool.beq_eq_decide_eq]
    rfl
  refine ⟨_, A0, side, m2, al, mkO (decide (side = 1)) B, psA A0.length, rfl, hA.sm (Sm.of (P := Pt) s13), hn, hin, by rw [s3 _ _ k2, hmarks], k3, by rw [psA_len]; exact hn, fun p hp => psA_mem.mp hp, TabG.same hT s13, fun D kvs k H4 s4 hD kD hdk hst => ?_⟩
  have sA : Sm Pt H H4 := (Sm.of s13).trans s4
  refine ⟨_, rfl, ml, _, rfl, sqd (sA.lst hm), fun L hL => ?_⟩
  have hLP : L ≠ Pt := TabG.ne0 (sA.tb hT) hL
  have hLD : L ≠ D := fun z => by
    rw [z, kD] at hL
    cases hL
  refine lc_it (walk_enum (K := K) (a := ml) (xs := ((List.range A0.length).map fun i : Nat => B (i : Int)).map V.bl)) (fun (j : Nat) (H' : Hp) => Same H4 H' ∧ ∃ rs, H' L = some (.lst rs) ∧ rs.length = j ∧ ∀ i, i < j → ∃ ro, IsRk (mr A0 side (psA A0.length) (mkO (decide (side = 1)) B)) (i : Int) ro ∧ rs[i]? = some (rkV ro)) ?_ ?_ ?_ ?_
  · exact ⟨same_new hL _, [], upd_same, rfl, fun i hi => absurd hi (Nat.not_lt_zero i)⟩
  · rintro i H' _ ⟨s5, _⟩
    exact sqd (s5 _ _ (sA.lst hm))
  · rintro j x H5 H6 hj ⟨s5, rs, k5, hrl, hrs⟩ ⟨t, x1, y1, rfl, ht, rfl, hx1, hy1⟩
    cases hx1
    rw [List.length_map, List.length_map, List.length_range] at hj
    have hy1 : (((List.range A0.length).map fun i : Nat => B (i : Int)).map V.bl)[j]? = some y1 := hy1
    rw [List.getElem?_map, List.getElem?_map, List.getElem?_range hj] at hy1
    obtain rfl : V.bl (B (j : Int)) = y1 := Option.some.inj hy1
    obtain ⟨H7, e7, s7, k7⟩ := newH ht (.tup [.int (j : Nat), V.bl (B (j : Int))])
    rw [e7]
    have fin : ∀ ro, IsRk (mr A0 side (psA A0.length) (mkO (decide (side = 1)) B)) (j : Int) ro → ∃ acc, H7 L = some (.lst acc) ∧ acc.length < sizeLine ∧ (Same H4 (upd H7 L (.lst (acc ++ [rkV ro]))) ∧ ∃ rs, upd H7 L (.lst (acc ++ [rkV ro])) L = some (.lst rs) ∧ rs.length = j + 1 ∧ ∀ i, i < j + 1 → ∃ ro, IsRk (mr A0 side (psA A0.length) (mkO (decide (side = 1)) B)) (i : Int) ro ∧ rs[i]? = some (rkV ro)) := fun ro hro => by
      refine ⟨rs, s7 _ _ k5, big' (by omega), same_put (s5.trans s7) hL, _, upd_same, by rw [List.length_append, hrl]; rfl, fun i hi => ?_⟩
      by_cases hij : i < j
      · obtain ⟨r2, h1, h2⟩ := hrs i hij
        exact ⟨r2, h1, by rw [List.getElem?_append_left (by omega)]; exact h2⟩
      · have : i = j := by omega
        subst this
        refine ⟨ro, hro, ?_⟩
        rw [List.getElem?_append_right (by omega), hrl, Nat.sub_self]
        rfl
    obtain ⟨ro, hro, hr0, hr1⟩ := hdk.rk hst (p := (j : Int)) (by omega) (by omega)
    have hM : mkO (decide (side = 1)) B (j : Int) = B (j : Int) := if_neg (by omega)
    refine ⟨t, _, rfl, sqt k7, rfl, _, _, rfl, _, _, rfl, rfl, rfl, yes_if ?_⟩
    refine ⟨_, rfl, _, rfl, ?_⟩
    cases hB : B (j : Int) with
    | true =>
      refine ifT rfl ?_
      have := fin ro hro
      rw [hr0 (by rw [hM]; exact hB)] at this
      exact this
    | false =>
      refine ifF rfl ?_
      have hv := hr1 (by rw [hM]; exact hB)
      have kD7 := s7 _ _ (s5 _ _ kD)
      refine ⟨_, rfl, D, rfl, .inl ⟨_, .inl kD7⟩, _, rfl, _, DGet.k (k := Sum.inl (j : Int)) kD7, ?_⟩
      rw [hv]
      have := fin ro hro
      cases ro with
      | none => exact this
      | some r => exact this
  · rintro H5 ⟨s5, rs, k5, hrl, hrs⟩
    rw [List.length_map, List.length_map, List.length_range] at hrl hrs
    exact q L rs H5 (sA.trans (.of s5)) (sA.dom _ hL) k5 ⟨hrl, fun k hk => hrs k hk⟩
/-! ### come_ranks, stay_ranks -/
theorem dec_V {a b : Int} : decide (V.int a = V.int b) = decide (a = b) := by
  rw [dec_int, Bool.beq_eq_decide_eq]
def spComeR (K : PySem.W.Frag) (Pt : Addr) : Sp := fun vs H Q _ => ∃ (v : V) (A : Ar) (hp : Addr) (hm : List Int), vs = [v, .ref hp] ∧ ArQ H A v ∧ A.length ≤ 500 ∧ InA A A.length ∧ H hp = some (.tup (hm.map V.int)) ∧ GxR.TabG H Pt ∧
  ∀ p rs H', Sm Pt H H' → H p = none → H' p = some (.lst rs) → RksAt A 0 (mkO false (fun p => decide (p ∈ hm))) rs → Q (.ref p) H'
theorem ok_come_ranks (T : Txt K mg) {c Pt : Addr} (TB : GxR.TabB base mg c Pt) (hc : T.dforces.code = .ref c) : FnOk P w K mg base CX0 5 T.acome_ranks T.dcome_ranks Pcome_ranks (spComeR K Pt) := by
  have G_ranks_to := ok_ranks_to (P := P) (w := w) T TB hc
  refine T.Fcome_ranks.ok sccome_ranks (fun vs H Q E h => ?_) (fun cdv A outer s H vs Q E hr h => ?_)
  · obtain ⟨v, A, hp, hm, rfl, _⟩ := h
    rfl
  obtain ⟨v, A0, hp, hm, rfl, hA, hn, hin, hh, hT, q⟩ := h
  obtain ⟨b0, xs, rfl, hb0, hxs⟩ := id hA
  have hxl := hxs.1
  refine ⟨_, (pss_one (ps_ret (pe_call G_ranks_to (hr.mono (by omega)) (by rfl) T.m_ranks_to T.F_ranks_to.kp T.b_ranks_to .nil pass0 (pa_cons (pv 0) (pa_cons (pe_glob rfl T.g_CONTROLLER T.r_CONTROLLER) (pa_cons (pe_lc (own := [("at", 2)]) (g := (gName 2)) (tt := tYes) rfl sccome_ranks.nd (pi_range1 (by rfl) T.z_range (pa_cons (pe_callB call_len_seq (by rfl) T.z_len PySem.boot_len (pa_cons (pv 0) pa_nil)) pa_nil)) (blkOk_by (N := Ncome_ranks) (sc := defScope scome_ranks) (by decide +kernel)) (fun _ _ _ _ _ => (pg_name (i := 2) sccome_ranks.nd rfl (Or.inl rfl))) (fun _ _ _ _ _ => pts_nil) (fun _ _ _ _ _ => (pe_cmpR (op_in_seqK (K := K) rfl) (pv 2) (pv 1) (by rfl)))) pa_nil)))))), ?_⟩
  refine ⟨_, rfl, _, rfl, b0, _, rfl, seqQ hb0, _, rfl, by omega, by omega, fun D hD => ?_⟩
  have hDP : D ≠ Pt := TabG.ne0 hT hD
  refine lc_range (lo := 0) (n := ((xs.length : Nat) : Int).toNat) (fun (j : Nat) (H' : Hp) => Same H H' ∧ H' D = some (.lst (((List.range j).map fun i : Nat => decide ((i : Int) ∈ hm)).map V.bl))) ?_ ?_ ?_
  · exact ⟨same_new hD _, upd_same⟩
  · rintro j H1 hj ⟨s1, k1⟩
    refine ⟨rfl, yes_if ?_⟩
    refine ⟨_, rfl, _, rfl, hp, _, rfl, .inr (sqt (s1 _ _ hh)), rfl, flat_ints' hm, _, k1, big' (by rw [List.length_map, List.length_map, List.length_range]; omega), same_put s1 hD, ?_⟩
    rw [upd_same, if_neg Bool.false_ne_true, int_in, Int.zero_add, List.range_succ, List.map_append, List.map_append]
    rfl
  · rintro H1 ⟨s1, k1⟩
    rw [show ((xs.length : Nat) : Int).toNat = A0.length by omega] at k1
    refine ⟨_, A0, 0, D, fun p => decide (p ∈ hm), rfl, hA.sm (Sm.of (P := Pt) s1), hn, hin, k1, TabG.same hT s1, fun p rs H2 s2 hp2 k2 hR => ?_⟩
    exact q p rs H2 ((Sm.of s1).trans s2) (s1.free hp2) k2 hR
def spStayR (K : PySem.W.Frag) (Pt : Addr) : Sp := fun vs H Q _ => ∃ (v : V) (A : Ar) (hp : Addr) (hm : List Int), vs = [v, .ref hp] ∧ ArQ H A v ∧ A.length ≤ 500 ∧ InA A A.length ∧ (SqL K H hp (hm.map V.int) ∨ SqT K H hp (hm.map V.int)) ∧ GxR.TabG H Pt ∧
  ∀ p rs H', Sm Pt H H' → H p = none → H' p = some (.lst rs) → RksAt A 1 (mkO true (fun p => !decide (p ∈ hm))) rs → Q (.ref p) H'
theorem ok_stay_ranks (T : Txt K mg) {c Pt : Addr} (TB : GxR.TabB base mg c Pt) (hc : T.dforces.code = .ref c) : FnOk P w K mg base CX0 5 T.astay_ranks T.dstay_ranks Pstay_ranks (spStayR K Pt) := by
  have G_ranks_to := ok_ranks_to (P := P) (w := w) T TB hc
  refine T.Fstay_ranks.ok scstay_ranks (fun vs H Q E h => ?_) (fun cdv A outer s H vs Q E hr h => ?_)
  · obtain ⟨v, A, hp, hm, rfl, _⟩ := h
    rfl
  obtain ⟨v, A0, hp, hm, rfl, hA, hn, hin, hh, hT, q⟩ := h
  obtain ⟨b0, xs, rfl, hb0, hxs⟩ := id hA
  have hxl := hxs.1
  refine ⟨_, (pss_one (ps_ret (pe_call G_ranks_to (hr.mono (by omega)) (by rfl) T.m_ranks_to T.F_ranks_to.kp T.b_ranks_to .nil pass0 (pa_cons (pv 0) (pa_cons (pe_glob rfl T.g_DISTURBANCE T.r_DISTURBANCE) (pa_cons (pe_lc (own := [("at", 2)]) (g := (gName 2)) (tt := tYes) rfl scstay_ranks.nd (pi_range1 (by rfl) T.z_range (pa_cons (pe_callB call_len_seq (by rfl) T.z_len PySem.boot_len (pa_cons (pv 0) pa_nil)) pa_nil)) (blkOk_by (N := Nstay_ranks) (sc := defScope sstay_ranks) (by decide +kernel)) (fun _ _ _ _ _ => (pg_name (i := 2) scstay_ranks.nd rfl (Or.inl rfl))) (fun _ _ _ _ _ => pts_nil) (fun _ _ _ _ _ => (pe_cmpR (op_notIn_seqK (K := K) rfl) (pv 2) (pv 1) (by rfl)))) pa_nil)))))), ?_⟩
  refine ⟨_, rfl, _, rfl, b0, _, rfl, seqQ hb0, _, rfl, by omega, by omega, fun D hD => ?_⟩
  have hDP : D ≠ Pt := TabG.ne0 hT hD
  refine lc_range (lo := 0) (n := ((xs.length : Nat) : Int).toNat) (fun (j : Nat) (H' : Hp) => Same H H' ∧ H' D = some (.lst (((List.range j).map fun i : Nat => !decide ((i : Int) ∈ hm)).map V.bl))) ?_ ?_ ?_
  · exact ⟨same_new hD _, upd_same⟩
  · rintro j H1 hj ⟨s1, k1⟩
    refine ⟨rfl, yes_if ?_⟩
    refine ⟨_, rfl, _, rfl, hp, _, rfl, hh.elim (fun h => .inl (s1.seq h)) (fun h => .inr (SqT.same s1 h)), rfl, flat_ints' hm, _, k1, big' (by rw [List.length_map, List.length_map, List.length_range]; omega), same_put s1 hD, ?_⟩
    rw [upd_same, notIn_int, Int.zero_add, List.range_succ, List.map_append, List.map_append]
    rfl
  · rintro H1 ⟨s1, k1⟩
    rw [show ((xs.length : Nat) : Int).toNat = A0.length by omega] at k1
    refine ⟨_, A0, 1, D, fun p => !decide (p ∈ hm), rfl, hA.sm (Sm.of (P := Pt) s1), hn, hin, k1, TabG.same hT s1, fun p rs H2 s2 hp2 k2 hR => ?_⟩
    exact q p rs H2 ((Sm.of s1).trans s2) (s1.free hp2) k2 hR
end
end NL

namespace NL
open PySem PySem.Spec PyProof.Rows L2
/-! ### a list of ints by places -/
def lzF (n : Nat) (φ : Nat → Int) : List Int := (List.range n).map φ
theorem lzF_len (n : Nat) (φ : Nat → Int) : (lzF n φ).length = n := by unfold lzF; rw [List.length_map, List.length_range]
theorem lzF_at {n : Nat} {φ : Nat → Int} {k : Nat} (h : k < n) : (lzF n φ)[k]? = some (φ k) := by
  unfold lzF
  rw [List.getElem?_map, List.getElem?_range h]
  rfl
theorem lzF_get {n : Nat} {φ : Nat → Int} {k : Int} (h0 : 0 ≤ k) (h1 : k < n) : atI ((lzF n φ).map V.int) k = some (.int (φ k.toNat)) := by
  have := atI_nat (j := k.toNat) (show ((lzF n φ).map V.int)[k.toNat]? = some (V.int (φ k.toNat)) by rw [List.getElem?_map, lzF_at (by omega)]; rfl)
  rw [show ((k.toNat : Nat) : Int) = k by omega] at this
  exact this
theorem lzF_ext {n : Nat} {φ ψ : Nat → Int} (h : ∀ k, k < n → φ k = ψ k) : lzF n φ = lzF n ψ := List.map_congr_left fun k hk => h k (List.mem_range.mp hk)
theorem lzF_inj {n : Nat} {φ ψ : Nat → Int} (h : lzF n φ = lzF n ψ) (k : Nat) (hk : k < n) : φ k = ψ k := by
  have := lzF_at (φ := φ) hk
  rw [h, lzF_at hk] at this
  exact (Option.some.inj this).symm
theorem lzF_set {n i : Nat} {φ : Nat → Int} {c : Int} (hi : i < n) : ((lzF n φ).map V.int).set i (.int c) = (lzF n fun k => if k = i then c else φ k).map V.int := by
  refine List.ext_getElem? fun k => ?_
  rw [List.getElem?_set]
  by_cases hk : i = k
  · subst hk
    rw [if_pos rfl, if_pos (by rw [List.length_map, lzF_len]; exact hi), List.getElem?_map, lzF_at hi, Option.map_some, if_pos rfl]
  · rw [if_neg hk, List.getElem?_map, List.getElem?_map]
    rcases Nat.lt_or_ge k n with h | h
    · rw [lzF_at h, lzF_at h, if_neg (fun e => hk e.symm)]
    · rw [List.getElem?_eq_none (by rw [lzF_len]; exact h), List.getElem?_eq_none (by rw [lzF_len]; exact h)]
theorem lzF_snoc (n : Nat) (φ : Nat → Int) : (lzF (n + 1) φ).map V.int = (lzF n φ).map V.int ++ [V.int (φ n)] := by
  unfold lzF
  rw [List.range_succ, List.map_append, List.map_append]
  rfl
theorem eqv_intsG : ∀ l m : List Int, PyData.eqvAll (l.map PyData.int) (m.map PyData.int) = true → l = m
  | [], [], _ => rfl
  | [], b :: m, h => by cases h
  | a :: l, [], h => by cases h
  | a :: l, b :: m, h => by
    have h' : ((a == b) && PyData.eqvAll (l.map PyData.int) (m.map PyData.int)) = true := h
    rw [Bool.and_eq_true] at h'
    rw [eq_of_beq h'.1, eqv_intsG l m h'.2]
theorem eqv_reflG : ∀ l : List Int, PyData.eqvAll (l.map PyData.int) (l.map PyData.int) = true
  | [] => rfl
  | a :: l => by
    show ((a == a) && PyData.eqvAll (l.map PyData.int) (l.map PyData.int)) = true
    rw [eqv_reflG l, beq_self_eq_true]
    rfl
theorem inT_intG {x : Int} {l : List Int} : (V.bl (if false = true then !inV (V.int x) (l.map V.int) else inV (V.int x) (l.map V.int))) = V.bl (decide (x ∈ l)) := by
  rw [if_neg Bool.false_ne_true, int_in]
/-! ### the rounds of marks, told as the round of each position (-1: none yet) -/
def hz (f : Nat → Mk') : Nat → Int → Int
  | 0, p => if f 0 p = true then 0 else -1
  | k + 1, p => if 0 ≤ hz f k p then hz f k p else if f (k + 1) p = true then ((k + 1 : Nat) : Int) else -1
theorem hz_ge (f : Nat → Mk') : ∀ k p, -1 ≤ hz f k p
  | 0, p => by unfold hz; split <;> omega
  | k + 1, p => by
    unfold hz
    split
    · exact hz_ge f k p
    · split <;> omega
theorem hz_le (f : Nat → Mk') : ∀ k p, hz f k p ≤ (k : Int)
  | 0, p => by unfold hz; split <;> omega
  | k + 1, p => by
    have := hz_le f k p
    unfold hz
    split
    · omega
    · split <;> omega
theorem up_le {f : Nat → Mk'} (up : ∀ k p, f k p = true → f (k + 1) p = true) {p : Int} {j k : Nat} (h : j ≤ k) (e : f j p = true) : f k p = true := by
  induction h with
  | refl => exact e
  | step _ ih => exact up _ _ ih
section
variable {f : Nat → Mk'} (up : ∀ k p, f k p = true → f (k + 1) p = true)
include up
theorem hz_says : ∀ k p, (hz f k p < 0 → f k p = false) ∧ (0 ≤ hz f k p → f k p = true ∧ f (hz f k p).toNat p = true ∧ ∀ j, j < (hz f k p).toNat → f j p = false)
  | 0, p => by
    unfold hz
    cases h : f 0 p with
    | true =>
      rw [if_pos rfl]
      exact ⟨fun z => absurd z (by decide), fun _ => ⟨rfl, h, fun j hj => absurd hj (Nat.not_lt_zero j)⟩⟩
    | false =>
      rw [if_neg Bool.false_ne_true]
      exact ⟨fun _ => rfl, fun z => absurd z (by decide)⟩
  | k + 1, p => by
    obtain ⟨h1, h2⟩ := hz_says k p
    unfold hz
    by_cases h : 0 ≤ hz f k p
    · rw [if_pos h]
      obtain ⟨g1, g2, g3⟩ := h2 h
      exact ⟨fun z => absurd h (by omega), fun _ => ⟨up k p g1, g2, g3⟩⟩
    · rw [if_neg h]
      have hk := h1 (by omega)
      cases hf : f (k + 1) p with
      | true =>
        rw [if_pos rfl]
        refine ⟨fun z => by omega, fun _ => ⟨rfl, hf, fun j hj => ?_⟩⟩
        have hj2 : j ≤ k := by
          have : (((k + 1 : Nat) : Int)).toNat = k + 1 := Int.toNat_natCast _
          omega
        cases hfj : f j p with
        | false => rfl
        | true =>
          have : f k p = true := up_le up hj2 hfj
          rw [this] at hk
          cases hk
      | false =>
        rw [if_neg Bool.false_ne_true]
        exact ⟨fun _ => rfl, fun z => absurd z (by decide)⟩
end
def zOf : Option Nat → Int
  | none => -1
  | some r => (r : Nat)
end NL

namespace NL
open PySem PySem.Spec PyProof.Rows L2
theorem ArG.inA {A : Ar} (h : ArG A) : InA A A.length := fun os hos o ho p hp => ((h.2 os hos).2 o ho).mem p hp
end NL

set_option maxHeartbeats 4000000
namespace NL
open PySem PySem.Spec PyProof.Rows L2
/-! ### min of a list of pairs of ints -/
def plt (p q : Int × Int) : Bool := decide (p.1 < q.1 ∨ (p.1 = q.1 ∧ p.2 < q.2))
theorem lexLt2 (a b c d : Int) : HT.lexLt [a, b] [c, d] = plt (a, b) (c, d) := by
  rw [HT.lexLt_cons]
  unfold plt
  by_cases h : a = c
  · rw [if_pos h, HT.lexLt_cons]
    by_cases h2 : b = d
    · rw [if_pos h2, HT.lexLt_nil_nil]
      exact (decide_eq_false (by show ¬ (a < c ∨ (a = c ∧ b < d)); omega)).symm
    · rw [if_neg h2]
      by_cases h3 : b < d
      · rw [decide_eq_true h3]; exact (decide_eq_true (by show a < c ∨ (a = c ∧ b < d); omega)).symm
      · rw [decide_eq_false h3]; exact (decide_eq_false (by show ¬ (a < c ∨ (a = c ∧ b < d)); omega)).symm
  · rw [if_neg h]
    by_cases h3 : a < c
    · rw [decide_eq_true h3]; exact (decide_eq_true (by show a < c ∨ (a = c ∧ b < d); omega)).symm
    · rw [decide_eq_false h3]; exact (decide_eq_false (by show ¬ (a < c ∨ (a = c ∧ b < d)); omega)).symm
theorem plt_irr (p : Int × Int) : plt p p = false := decide_eq_false (by omega)
theorem plt_tr {p q r : Int × Int} (h1 : plt p q = false) (h2 : plt r q = true) : plt p r = false := by
  have h2 := of_decide_eq_true h2
  have h1 := of_decide_eq_false h1
  exact decide_eq_false (by omega)
theorem best_pair (g : Nat → Int × Int) : ∀ k, argBest (fun i j => plt (g i) (g j)) k ≤ k ∧ ∀ j, j ≤ k → plt (g j) (g (argBest (fun i j => plt (g i) (g j)) k)) = false
  | 0 => ⟨Nat.le_refl _, fun j hj => by
    have : j = 0 := by omega
    subst this
    exact plt_irr _⟩
  | k + 1 => by
    obtain ⟨h1, h2⟩ := best_pair g k
    cases hb : plt (g (k + 1)) (g (argBest (fun i j => plt (g i) (g j)) k)) with
    | true =>
      have e : argBest (fun i j => plt (g i) (g j)) (k + 1) = k + 1 := by
        show (if plt (g (k + 1)) (g (argBest (fun i j => plt (g i) (g j)) k)) = true then k + 1 else argBest (fun i j => plt (g i) (g j)) k) = k + 1
        rw [hb, if_pos rfl]
      rw [e]
      refine ⟨Nat.le_refl _, fun j hj => ?_⟩
      by_cases hjk : j ≤ k
      · exact plt_tr (h2 j hjk) hb
      · have : j = k + 1 := by omega
        rw [this]
        exact plt_irr _
    | false =>
      have e : argBest (fun i j => plt (g i) (g j)) (k + 1) = argBest (fun i j => plt (g i) (g j)) k := by
        show (if plt (g (k + 1)) (g (argBest (fun i j => plt (g i) (g j)) k)) = true then k + 1 else argBest (fun i j => plt (g i) (g j)) k) = _
        rw [hb, if_neg Bool.false_ne_true]
      rw [e]
      refine ⟨Nat.le_succ_of_le h1, fun j hj => ?_⟩
      by_cases hjk : j ≤ k
      · exact h2 j hjk
      · have : j = k + 1 := by omega
        rw [this]
        exact hb
def rMinP (K : PySem.W.Frag) : List V → Hp → VK → Prop := fun vs H Q => ∃ (a : Addr) (ts : List Addr) (ps : List (Int × Int)), vs = [V.ref a] ∧ SqL K H a (ts.map V.ref) ∧ ts.length = ps.length ∧ 0 < ps.length ∧ (∀ (i : Nat) t p, ts[i]? = some t → ps[i]? = some p → SqT K H t ([p.1, p.2].map V.int)) ∧
  ∀ (i : Nat) t p, ts[i]? = some t → ps[i]? = some p → (∀ q ∈ ps, plt q p = false) → Q (.ref t) H
theorem cr_minP {X : Cx} (hc : X.calm = true) (hu : X.A.units + 1 < cLine) : CallR X (.builtin "min") (rMinP X.K) := by
  intro pins s σ H vs us Q I r h
  obtain ⟨a, ts, ps, rfl, hs, hlen, hne, hts, q⟩ := h
  obtain ⟨its, rv, hl, _⟩ := I.list hs
  rw [Vals.ref1 r]
  have hitl := rv.length
  rw [List.length_map] at hitl
  have hit : ∀ (i : Nat) v, its.toArray[i]? = some v → ∃ t p, ts[i]? = some t ∧ ps[i]? = some p ∧ v = .ref t ∧ ∃ its2, PyProof.Rows.IntsAre its2 [p.1, p.2] ∧ s.heap.IsTuple t its2.toArray := fun i v hv => by
    have hv2 : its[i]? = some v := by simpa using hv
    have hil := (List.getElem?_eq_some_iff.mp hv2).1
    have ht := List.getElem?_eq_getElem (show i < ts.length by omega)
    have hp := List.getElem?_eq_getElem (show i < ps.length by omega)
    obtain ⟨u, hu1, ru⟩ := rv.get (i := i) (x := V.ref ts[i]) (by rw [List.getElem?_map, ht]; rfl)
    rw [hv2] at hu1
    cases hu1
    obtain ⟨its2, rv2, pt, _⟩ := I.tuple (hts i _ _ ht hp)
    exact ⟨_, _, ht, hp, ru, its2, rv2.ints, pt⟩
  refine call_min_walkH (PySem.W.iter_listW (A := X.A.in1) (I.ok.hd hc) hl.isList fun s₂ e W st hfp hw hk => ?_)
  refine ⟨_, _, _, _, _, _, _, s.heap, (fun i j => plt (ps.getD i (0, 0)) (ps.getD j (0, 0))), rfl, W, st, hfp, by rw [List.size_toArray]; omega, hw, hk, ?_, fun v s' hP m => ?_⟩
  · intro i j vi vj s' Q' E' hk' hi hj hQ
    obtain ⟨t, p, ht, hp, rfl, it2, hin, hI⟩ := hit i vi hi
    obtain ⟨t', p', ht', hp', rfl, it2', hin', hI'⟩ := hit j vj hj
    obtain ⟨o, ho, h2⟩ := hI
    obtain ⟨o', ho', h2'⟩ := hI'
    refine HT.lt_tupInts (items := it2.toArray) (items2 := it2'.toArray) ⟨o, hk' _ _ ho, h2⟩ ⟨o', hk' _ _ ho', h2'⟩ hin hin' hu ?_
    rw [lexLt2]
    have hQ2 : Q' (.bool (plt (ps.getD i (0, 0)) (ps.getD j (0, 0)))) s' := hQ
    rw [show ps.getD i (0, 0) = p by rw [List.getD_eq_getElem?_getD, hp]; rfl, show ps.getD j (0, 0) = p' by rw [List.getD_eq_getElem?_getD, hp']; rfl] at hQ2
    exact hQ2
  · obtain ⟨h', tk, rfl, hk'⟩ := PySem.W.moved_old e rfl m
    obtain ⟨b1, b2⟩ := best_pair (fun i => ps.getD i (0, 0)) (its.toArray.size - 1)
    obtain ⟨t, p, ht, hp, rfl, _⟩ := hit _ v hP
    refine ⟨.ref t, H, I.kept hk', rfl, q _ t p ht hp fun z hz => ?_⟩
    obtain ⟨j, hj⟩ := List.getElem?_of_mem hz
    have hjl := (List.getElem?_eq_some_iff.mp hj).1
    have h3 := b2 j (by rw [List.size_toArray]; omega)
    rw [show ps.getD j (0, 0) = z by rw [List.getD_eq_getElem?_getD, hj]; rfl] at h3
    have h4 : ps.getD (argBest (fun i j => plt (ps.getD i (0, 0)) (ps.getD j (0, 0))) (its.toArray.size - 1)) (0, 0) = p := by rw [List.getD_eq_getElem?_getD, hp]; rfl
    rw [h4] at h3
    exact h3
end NL

set_option maxHeartbeats 4000000
namespace NL
open PySem PySem.Spec PyProof.Rows L2
/-! ### ranks of all positions -/
theorem rk_ex (f : Nat → Mk') (p : Int) : ∃ ro, IsRk f p ro := by
  by_cases h : ∃ j, f j p = true
  · have ex : ∀ n j, j ≤ n → f j p = true → ∃ r, f r p = true ∧ ∀ j, j < r → f j p = false := by
      intro n
      induction n with
      | zero =>
        intro j hj hf
        have : j = 0 := by omega
        subst this
        exact ⟨0, hf, fun j hj => absurd hj (Nat.not_lt_zero j)⟩
      | succ n ih =>
        intro j hj hf
        by_cases hl : ∃ i, i < j ∧ f i p = true
        · obtain ⟨i, hi, hfi⟩ := hl
          exact ih i (by omega) hfi
        · refine ⟨j, hf, fun i hi => ?_⟩
          cases hfi : f i p with
          | false => rfl
          | true => exact absurd ⟨i, hi, hfi⟩ hl
    obtain ⟨j, hj⟩ := h
    obtain ⟨r, h1, h2⟩ := ex j j (Nat.le_refl j) hj
    exact ⟨some r, h1, h2⟩
  · refine ⟨none, fun j => ?_⟩
    cases hf : f j p with
    | false => rfl
    | true => exact absurd ⟨j, hf⟩ h
noncomputable def rkF (f : Nat → Mk') (p : Int) : Option Nat := Classical.choose (rk_ex f p)
theorem rkF_is (f : Nat → Mk') (p : Int) : IsRk f p (rkF f p) := Classical.choose_spec (rk_ex f p)
theorem rkF_eq {f : Nat → Mk'} {p : Int} {ro : Option Nat} (h : IsRk f p ro) : rkF f p = ro := (rkF_is f p).uniq h
/-- the marks of a goal: st, to stay; else to come -/
def gF (st : Bool) (A : Ar) (Kp : List Int) : Nat → Mk' := mr A (if st = true then 1 else 0) (psA A.length) (mkO st (fun p => if st = true then !decide (p ∈ Kp) else decide (p ∈ Kp)))
theorem gF_up {st : Bool} {A : Ar} {Kp : List Int} (k : Nat) (p : Int) (h : gF st A Kp k p = true) : gF st A Kp (k + 1) p = true := mr_up h
theorem gF_out {st : Bool} {A : Ar} {Kp : List Int} (k : Nat) : gF st A Kp k (-1) = st := by
  have : gF st A Kp k (-1) = mkO st (fun p => if st = true then !decide (p ∈ Kp) else decide (p ∈ Kp)) (-1) := mr_out (fun h => by
    have := psA_mem.mp h
    omega) k
  exact this
theorem gF_0 {st : Bool} {A : Ar} {Kp : List Int} {p : Int} (h : 0 ≤ p) : gF st A Kp 0 p = if st = true then !decide (p ∈ Kp) else decide (p ∈ Kp) := by
  show mkO st (fun p => if st = true then !decide (p ∈ Kp) else decide (p ∈ Kp)) p = _
  unfold mkO
  exact if_neg (by omega)
theorem gF_s {st : Bool} {A : Ar} {Kp : List Int} {k i : Nat} {os : Pos'} (hi : A[i]? = some os) : gF st A Kp (k + 1) (i : Int) = (gF st A Kp k (i : Int) || frcM (if st = true then 1 else 0) os (gF st A Kp k)) := by
  have hl := (List.getElem?_eq_some_iff.mp hi).1
  have h1 : decide ((i : Int) ∈ psA A.length) = true := decide_eq_true (psA_mem.mpr (by omega))
  have h2 : psO A (i : Int) = os := psO_at (by omega) (by rw [Int.toNat_natCast]; exact hi)
  show (gF st A Kp k (i : Int) || (decide ((i : Int) ∈ psA A.length) && frcM (if st = true then 1 else 0) (psO A (i : Int)) (gF st A Kp k))) = _
  rw [h1, h2, Bool.true_and]
noncomputable def gR (st : Bool) (A : Ar) (Kp : List Int) (p : Int) : Option Nat := rkF (gF st A Kp) p
theorem gR_is (st : Bool) (A : Ar) (Kp : List Int) (p : Int) : IsRk (gF st A Kp) p (gR st A Kp p) := rkF_is _ _
/-! ### which successor fits -/
def fitB (st : Bool) (R : Int → Option Nat) (p q : Int) : Bool := if q = -1 then (R p).isSome == st else match R p, R q with
  | none, none => true
  | some a, some b => decide (b < a)
  | _, _ => false
theorem rk_end {f : Nat → Mk'} (up : ∀ k p, f k p = true → f (k + 1) p = true) : ∀ n : Nat, ∃ J, ∀ k : Nat, k < n → ∀ j, f j (k : Int) = true → f J (k : Int) = true
  | 0 => ⟨0, fun k hk => absurd hk (Nat.not_lt_zero k)⟩
  | n + 1 => by
    obtain ⟨J, hJ⟩ := rk_end up n
    obtain ⟨ro, hro⟩ := rk_ex f (n : Int)
    cases ro with
    | none =>
      refine ⟨J, fun k hk j hj => ?_⟩
      by_cases hkn : k = n
      · subst hkn
        rw [hro j] at hj
        cases hj
      · exact hJ k (by omega) j hj
    | some r =>
      refine ⟨max J r, fun k hk j hj => ?_⟩
      by_cases hkn : k = n
      · subst hkn
        exact up_le up (Nat.le_max_right J r) hro.1
      · exact up_le up (Nat.le_max_left J r) (hJ k (by omega) j hj)
section
variable {st : Bool} {A : Ar} {Kp : List Int}
/-- a marked successor fits where its position is marked one round later -/
theorem fit_some {p q : Int} {r : Nat} (hp : gR st A Kp p = some (r + 1)) (hq : q ≠ -1 ∨ st = true) (h : gF st A Kp r q = true) : fitB st (gR st A Kp) p q = true := by
  unfold fitB
  by_cases h1 : q = -1
  · rw [if_pos h1, hp]
    rcases hq with hq | hq
    · exact absurd h1 hq
    · rw [hq]
      rfl
  · rw [if_neg h1, hp]
    have hr := gR_is st A Kp q
    cases hb : gR st A Kp q with
    | none =>
      rw [hb] at hr
      rw [hr r] at h
      cases h
    | some b =>
      rw [hb] at hr
      have : b ≤ r := by
        rcases Nat.lt_or_ge r b with z | z
        · rw [hr.2 r z] at h
          cases h
        · exact z
      exact decide_eq_true (by omega)
theorem fit_none {p q : Int} (hp : gR st A Kp p = none) (hq : gR st A Kp q = none) (h1 : q ≠ -1) : fitB st (gR st A Kp) p q = true := by
  unfold fitB
  rw [if_neg h1, hp, hq]
theorem fit_out {p : Int} (hp : gR false A Kp p = none) : fitB false (gR false A Kp) p (-1) = true := by
  unfold fitB
  rw [if_pos rfl, hp]
  rfl
end
/-! ### labels, and the object that goes over them -/
def lbV (st : Bool) : Option Nat → List V
  | none => [.str (if st = true then "holds" else "away")]
  | some r => [.str (if st = true then "driven" else "comes"), .int (r : Nat)]
def LabIn (st : Bool) (H : Hp) (r : Option Nat) (v : V) : Prop := ∃ t, v = .ref t ∧ H t = some (.tup (lbV st r))
theorem LabIn.tp {st : Bool} {H H' : Hp} {b : Option Nat} {v : V} (t : Tp H H') (h : LabIn st H b v) : LabIn st H' b v := by
  obtain ⟨a, h1, h2⟩ := h
  exact ⟨a, h1, t _ _ h2⟩
def ffF (a t l g : V) : List (Str × V) := [("arena", a), ("told", t), ("labels", l), ("greatest", g)]
theorem ff_arena {a t l g : V} : (ffF a t l g).lookup ("arena" : Str) = some a := rfl
theorem ff_labels {a t l g : V} : (ffF a t l g).lookup ("labels" : Str) = some l := rfl
theorem ff_fits {a t l g : V} : (ffF a t l g).lookup ("fits" : Str) = none := rfl
theorem ff_all_fit {a t l g : V} : (ffF a t l g).lookup ("all_fit" : Str) = none := rfl
theorem ff_new {a t l g : V} : putF "greatest" g (putF "labels" l (putF "told" t (putF "arena" a []))) = ffF a t l g := rfl
structure FitAt (C : Addr) (st : Bool) (H : Hp) (f : Addr) (A : Ar) (R : Int → Option Nat) (lb : Addr) : Prop where
  obj : ∃ dx v t g, H f = some (.ins C dx (ffF v t (.ref lb) g)) ∧ ArIn H A v
  lab : ∃ ds, H lb = some (.lst ds) ∧ Each (LabIn st H) ((List.range A.length).map fun k : Nat => R (k : Int)) ds
theorem FitAt.same {C f lb : Addr} {st : Bool} {H H' : Hp} {A : Ar} {R : Int → Option Nat} (s : Same H H') (h : FitAt C st H f A R lb) : FitAt C st H' f A R lb := by
  obtain ⟨⟨dx, v, t, g, h1, h2⟩, ds, h3, h4⟩ := h
  exact ⟨⟨dx, v, t, g, s _ _ h1, h2.tp (Tp.same s)⟩, ds, s _ _ h3, h4.mono fun o x => LabIn.tp (Tp.same s)⟩
theorem FitAt.at {C f lb : Addr} {st : Bool} {H : Hp} {A : Ar} {R : Int → Option Nat} (h : FitAt C st H f A R lb) {p : Int} (h0 : 0 ≤ p) (h1 : p < A.length) : ∃ ds t, H lb = some (.lst ds) ∧ atI ds p = some (.ref t) ∧ H t = some (.tup (lbV st (R p))) := by
  obtain ⟨_, ds, h3, h4⟩ := h
  obtain ⟨o, x, ho, hat, t, rfl, et⟩ := h4.atI h0 (by rw [List.length_map, List.length_range]; exact h1)
  rw [List.getElem?_map, List.getElem?_range (by omega)] at ho
  have : R p = o := by
    have := Option.some.inj ho
    rw [← this]
    congr 1
    omega
  exact ⟨ds, t, h3, hat, by rw [this]; exact et⟩
theorem pe_never {X : Cx} {e : Expr} : PE X e (fun _ _ _ => False) := ⟨fun _ _ _ _ _ _ h => h.elim⟩
theorem pe_fldK {X : Cx} {K : PySem.W.Frag} {e : Expr} {f : Str} {pos : Pos} {ta : TE} (h : X.K = K) (he : PE X e ta) (hb : attributeBase e f X.env (eval e X.env) = eval e X.env) : PE X (.Attribute e f pos) (tFld K ta f) := by
  subst h
  exact pe_fld he hb
section
variable {P : Program} {w : World} {K : PySem.W.Frag} {mg : Str → Option Value} {base : Heap}
def spHas : Sp := fun vs H Q _ => ∃ (a : Addr) (s : Str) (r : List V), vs = [.ref a] ∧ H a = some (.tup (.str s :: r)) ∧ Q (.bl (inV (.str s) [(.str "holds"), (.str "comes"), (.str "even"), (.str "keeps")])) H
theorem ok_has_option (T : Txt K mg) : FnOk P w K mg base CX0 1 T.ahas_option T.dhas_option Phas_option spHas := by
  refine T.Fhas_option.ok schas_option (fun vs H Q E h => ?_) (fun cdv A outer s H vs Q E hr h => ?_)
  · obtain ⟨a, s, r, rfl, _⟩ := h
    rfl
  obtain ⟨a, s, r, rfl, e, q⟩ := h
  refine ⟨_, (pss_one (ps_ret (pe_cmpR op_in_seq (pe_ix ix_tup (pv 0) pe_int (fun _ _ => rfl)) (pe_glob (v := .ref T.c_OPTION_KINDS) rfl T.g_OPTION_KINDS rfl) (by rfl)))), ?_⟩
  refine ⟨_, rfl, a, _, _, _, rfl, rfl, sqt e, atI0, T.c_OPTION_KINDS, _, rfl, .inr (.inr T.k_OPTION_KINDS), rfl, by decide, q⟩
theorem has_lb (st : Bool) (r : Option Nat) : ∃ s tl, lbV st r = .str s :: tl ∧ inV (.str s) [(.str "holds"), (.str "comes"), (.str "even"), (.str "keeps")] = (r.isSome != st) := by
  cases r with
  | none => cases st <;> exact ⟨_, _, rfl, by decide⟩
  | some r =>
    cases st
    · exact ⟨"comes", _, rfl, (by decide : inV (.str "comes") [(.str "holds"), (.str "comes"), (.str "even"), (.str "keeps")] = (true != false))⟩
    · exact ⟨"driven", _, rfl, (by decide : inV (.str "driven") [(.str "holds"), (.str "comes"), (.str "even"), (.str "keeps")] = (true != true))⟩
/-! ### is_end -/
def spEnd (st : Bool) : Sp := fun vs H Q _ => ∃ (a : Addr) (r : Option Nat), vs = [.ref a] ∧ H a = some (.tup (lbV st r)) ∧ ∀ H', Same H H' → Q (.bl (decide (r = some 0))) H'
theorem ok_is_end (T : Txt K mg) (st : Bool) : FnOk P w K mg base CX0 1 T.ais_end T.dis_end Pis_end (spEnd st) := by
  refine T.Fis_end.ok scis_end (fun vs H Q E h => ?_) (fun cdv A outer s H vs Q E hr h => ?_)
  · obtain ⟨a, r, rfl, _⟩ := h
    rfl
  obtain ⟨a, r, rfl, e, q⟩ := h
  refine ⟨_, (pss_one (ps_ret (pe_and (pe_cmpR op_in_seq (pe_ix ix_tup (pv 0) pe_int (fun _ _ => rfl)) (pe_tup (pa_cons pe_str (pa_cons pe_str pa_nil))) (by rfl)) (pe_one (pe_cmpR op_eq (pe_ix ix_tup (pv 0) pe_int (fun _ _ => rfl)) pe_int (nomark _)))))), ?_⟩
  cases r with
  | none =>
    refine ⟨_, rfl, a, _, _, _, rfl, rfl, sqt e, atI0, Nat.le_of_ble_eq_true rfl, fun t ht => ?_⟩
    obtain ⟨H1, e1, s1, k1⟩ := newH ht (.tup [V.str "comes", V.str "driven"])
    rw [e1]
    refine ⟨t, _, rfl, .inr (sqt k1), rfl, by decide, ?_⟩
    exact ⟨false, by cases st <;> decide, iteF (boolE (decide_eq_false (fun e => nomatch e)).symm (q H1 s1))⟩
  | some r =>
    refine ⟨_, rfl, a, _, _, _, rfl, rfl, sqt e, atI0, Nat.le_of_ble_eq_true rfl, fun t ht => ?_⟩
    obtain ⟨H1, e1, s1, k1⟩ := newH ht (.tup [V.str "comes", V.str "driven"])
    rw [e1]
    refine ⟨t, _, rfl, .inr (sqt k1), rfl, by decide, ?_⟩
    refine ⟨true, by cases st <;> decide, iteT ⟨_, rfl, a, _, _, _, rfl, rfl, sqt (s1 _ _ e), atI1, rfl, boolE ?_ (q H1 s1)⟩⟩
    by_cases h : r = 0
    · subst h
      rfl
    · rw [decide_eq_false (fun e => h (by have := V.int.inj e; omega)), decide_eq_false (fun e => h (Option.some.inj e))]
/-! ### Fitting -/
def spInit (C : Addr) (st : Bool) : Sp := fun vs H Q _ => ∃ (p dx g lb : Addr) (v t : V), vs = [.ref p, v, .ref g, .ref lb] ∧ H p = some (.ins C dx []) ∧ H g = some (.tup [.str (if st = true then "stay" else "come"), t]) ∧
  ∀ H', H' p = some (.ins C dx (ffF v t (.ref lb) (.int 0))) → (∀ b o, H b = some o → b ≠ p → H' b = some o) → Q .non H'
theorem ok_Fitting___init__ (T : Txt K mg) (st : Bool) : FnOk P w K mg base CX0 1 T.aFitting___init__ T.dFitting___init__ PFitting___init__ (spInit T.C_Fitting st) := by
  refine T.FFitting___init__.ok scFitting___init__ (fun vs H Q E h => ?_) (fun cdv A outer s H vs Q E hr h => ?_)
  · obtain ⟨p, dx, g, lb, v, t, rfl, _⟩ := h
    rfl
  obtain ⟨p, dx, g, lb, v, t, rfl, hp, eg, q⟩ := h
  refine ⟨_, (pss_cons (ps_fld (pv 0) (pv 1) rfl)
    (pss_cons (ps_fld (pv 0) (pe_ix ix_tup (pv 2) pe_int (fun _ _ => rfl)) rfl)
    (pss_cons (ps_fld (pv 0) (pv 3) rfl)
    (pss_one (ps_fld (pv 0) (pe_ifExp (pt_cmpR op_eq (pe_ix ix_tup (pv 2) pe_int (fun _ _ => rfl)) pe_str (nomark _)) pe_never pe_int) rfl))))), ?_⟩
  have hgp : g ≠ p := fun z => by
    rw [z, hp] at eg
    cases eg
  refine ⟨_, rfl, _, rfl, p, _, _, _, rfl, hp, T.cl_Fitting, T.na_Fitting_arena, Nat.le_of_ble_eq_true rfl, ?_⟩
  refine ⟨_, rfl, g, _, _, _, rfl, rfl, sqt (by rw [upd_ne hgp]; exact eg), atI1, _, rfl, p, _, _, _, rfl, upd_same, T.cl_Fitting, T.na_Fitting_told, Nat.le_of_ble_eq_true rfl, ?_⟩
  refine ⟨_, rfl, _, rfl, p, _, _, _, rfl, upd_same, T.cl_Fitting, T.na_Fitting_labels, Nat.le_of_ble_eq_true rfl, ?_⟩
  refine ⟨_, rfl, g, _, _, _, rfl, rfl, sqt (by rw [upd_ne hgp, upd_ne hgp, upd_ne hgp]; exact eg), atI0, rfl, _, rfl, ?_⟩
  refine ifF (by cases st <;> decide) ?_
  refine ⟨_, rfl, p, _, _, _, rfl, upd_same, T.cl_Fitting, T.na_Fitting_greatest, Nat.le_of_ble_eq_true rfl, ?_⟩
  refine q _ (by rw [upd_same, ff_new]) fun b o e hb => ?_
  rw [upd_ne hb, upd_ne hb, upd_ne hb, upd_ne hb]
  exact e
def spFits (C : Addr) (st : Bool) : Sp := fun vs H Q _ => ∃ (f lb : Addr) (A : Ar) (R : Int → Option Nat) (p i q : Int), vs = [.ref f, .int p, .int i, .int q] ∧ FitAt C st H f A R lb ∧ 0 ≤ p ∧ p < A.length ∧ -1 ≤ q ∧ q < A.length ∧ ∀ H', Same H H' → Q (.bl (fitB st R p q)) H'
theorem ok_Fitting_fits (T : Txt K mg) (st : Bool) : FnOk P w K mg base CX0 2 T.aFitting_fits T.dFitting_fits PFitting_fits (spFits T.C_Fitting st) := by
  have Ghas_option := ok_has_option (P := P) (w := w) (base := base) T
  refine T.FFitting_fits.ok scFitting_fits (fun vs H Q E h => ?_) (fun cdv A outer s H vs Q E hr h => ?_)
  · obtain ⟨f, lb, A, R, p, i, q, rfl, _⟩ := h
    rfl
  obtain ⟨f, lb, A0, R, p, i, q, rfl, hF, p0, p1, q0, q1, qq⟩ := h
  obtain ⟨⟨dx, v, t, g, ef, hA⟩, _⟩ := id hF
  obtain ⟨ds, t1, el, hat1, et1⟩ := hF.at p0 p1
  refine ⟨_, (pss_cons (ps_set (i := 4) scFitting_fits.nd rfl (Or.inl rfl) (pe_ix ix_list (pe_fld (pv 0) rfl) (pv 1) (fun _ _ => rfl)))
    (pss_cons (ps_if (pt_cmpR op_eq (pv 3) (pe_un un_neg pe_int) (nomark _))
    (pss_one (ps_ret (pe_not (pe_call Ghas_option (hr.mono (by omega)) (by rfl) T.mhas_option T.Fhas_option.kp T.bhas_option .nil pass0 (pa_cons (pv 4) pa_nil)))))
    pss_nil)
    (pss_cons (ps_set (i := 5) scFitting_fits.nd rfl (Or.inl rfl) (pe_ix ix_list (pe_fld (pv 0) rfl) (pv 3) (fun _ _ => rfl)))
    (pss_cons (ps_if (pt_cmpR op_ne (pe_ix ix_tup (pv 4) pe_int (fun _ _ => rfl)) (pe_ix ix_tup (pv 5) pe_int (fun _ _ => rfl)) (nomark _))
    (pss_one (ps_ret pe_bl))
    pss_nil)
    (pss_cons (ps_if (pt_cmpR op_in_seq (pe_ix ix_tup (pv 4) pe_int (fun _ _ => rfl)) (pe_tup (pa_cons pe_str (pa_cons pe_str pa_nil))) (by rfl))
    (pss_one (ps_ret pe_bl))
    pss_nil)
    (pss_cons (ps_if (pt_cmpR op_in_seq (pe_ix ix_tup (pv 4) pe_int (fun _ _ => rfl)) (pe_tup (pa_cons pe_str (pa_cons pe_str pa_nil))) (by rfl))
    (pss_one (ps_ret (pe_cmpR op_lt (pe_ix ix_tup (pv 5) pe_int (fun _ _ => rfl)) (pe_ix ix_tup (pv 4) pe_int (fun _ _ => rfl)) (nomark _))))
    pss_nil)
    (pss_cons (ps_if (pt_cmpR op_in_seq (pe_ix ix_tup (pv 4) pe_int (fun _ _ => rfl)) (pe_tup (pa_cons pe_str (pa_cons pe_str pa_nil))) (by rfl))
    (pss_one (ps_ret pe_never))
    pss_nil)
    (pss_one (ps_ret (pe_cmpR op_le (pe_ix ix_tup (pv 5) pe_int (fun _ _ => rfl)) (pe_op op_add (pe_ix ix_tup (pv 4) pe_int (fun _ _ => rfl)) pe_never) (nomark _))))))))))), ?_⟩
  refine ⟨_, rfl, f, _, dx, _, _, rfl, ef, T.cl_Fitting, T.na_Fitting_labels, ff_labels, _, rfl, lb, _, _, _, rfl, rfl, sqd el, hat1, ?_⟩
  refine ⟨_, rfl, _, rfl, rfl, _, rfl, ?_⟩
  by_cases hq1 : q = -1
  · refine ifT (decide_eq_true (by rw [hq1])) ?_
    obtain ⟨s0, tl, e1, e2⟩ := has_lb st (R p)
    refine ⟨_, rfl, t1, s0, tl, rfl, by rw [et1, e1], _, rfl, ?_⟩
    refine boolE ?_ (qq H (Same.refl H))
    unfold fitB
    rw [if_pos hq1, e2]
    cases (R p).isSome <;> cases st <;> rfl
  refine ifF (decide_eq_false (fun e => hq1 (V.int.inj e))) ?_
  obtain ⟨ds', t2, el', hat2, et2⟩ := hF.at (p := q) (by omega) q1
  rw [el] at el'
  obtain rfl : ds = ds' := by injection el' with z; injection z
  refine ⟨_, rfl, f, _, dx, _, _, rfl, ef, T.cl_Fitting, T.na_Fitting_labels, ff_labels, _, rfl, lb, _, _, _, rfl, rfl, sqd el, hat2, ?_⟩
  cases hp : R p with
  | none =>
    rw [hp] at et1
    cases hq : R q with
    | none =>
      rw [hq] at et2
      have hfit : fitB st R p q = true := by
        unfold fitB
        rw [if_neg hq1, hp, hq]
      refine ⟨_, rfl, t1, _, _, _, rfl, rfl, sqt et1, atI0, _, rfl, t2, _, _, _, rfl, rfl, sqt et2, atI0, rfl, _, rfl, ?_⟩
      refine ifF (by cases st <;> decide) ?_
      refine ⟨_, rfl, t1, _, _, _, rfl, rfl, sqt et1, atI0, Nat.le_of_ble_eq_true rfl, fun tt htt => ?_⟩
      obtain ⟨H1, e1, s1, k1⟩ := newH htt (.tup [V.str "holds", V.str "away"])
      rw [e1]
      refine ⟨tt, _, rfl, .inr (sqt k1), rfl, by decide, _, rfl, ?_⟩
      exact ifT (by cases st <;> decide) (boolE hfit.symm (qq H1 s1))
    | some b =>
      rw [hq] at et2
      have hfit : fitB st R p q = false := by
        unfold fitB
        rw [if_neg hq1, hp, hq]
      refine ⟨_, rfl, t1, _, _, _, rfl, rfl, sqt et1, atI0, _, rfl, t2, _, _, _, rfl, rfl, sqt et2, atI0, rfl, _, rfl, ?_⟩
      exact ifT (by cases st <;> decide) (boolE hfit.symm (qq H (Same.refl H)))
  | some a =>
    rw [hp] at et1
    cases hq : R q with
    | none =>
      rw [hq] at et2
      have hfit : fitB st R p q = false := by
        unfold fitB
        rw [if_neg hq1, hp, hq]
      refine ⟨_, rfl, t1, _, _, _, rfl, rfl, sqt et1, atI0, _, rfl, t2, _, _, _, rfl, rfl, sqt et2, atI0, rfl, _, rfl, ?_⟩
      exact ifT (by cases st <;> decide) (boolE hfit.symm (qq H (Same.refl H)))
    | some b =>
      rw [hq] at et2
      have hfit : fitB st R p q = decide (b < a) := by
        unfold fitB
        rw [if_neg hq1, hp, hq]
      refine ⟨_, rfl, t1, _, _, _, rfl, rfl, sqt et1, atI0, _, rfl, t2, _, _, _, rfl, rfl, sqt et2, atI0, rfl, _, rfl, ?_⟩
      refine ifF (by cases st <;> decide) ?_
      refine ⟨_, rfl, t1, _, _, _, rfl, rfl, sqt et1, atI0, Nat.le_of_ble_eq_true rfl, fun tt htt => ?_⟩
      obtain ⟨H1, e1, s1, k1⟩ := newH htt (.tup [V.str "holds", V.str "away"])
      rw [e1]
      refine ⟨tt, _, rfl, .inr (sqt k1), rfl, by decide, _, rfl, ?_⟩
      refine ifF (by cases st <;> decide) ?_
      refine ⟨_, rfl, t1, _, _, _, rfl, rfl, sqt (s1 _ _ et1), atI0, Nat.le_of_ble_eq_true rfl, fun tu htu => ?_⟩
      obtain ⟨H2, e2, s2, k2⟩ := newH htu (.tup [V.str "comes", V.str "driven"])
      rw [e2]
      have s12 := s1.trans s2
      refine ⟨tu, _, rfl, .inr (sqt k2), rfl, by decide, _, rfl, ?_⟩
      refine ifT (by cases st <;> decide) ?_
      refine ⟨_, rfl, t2, _, _, _, rfl, rfl, sqt (s12 _ _ et2), atI1, _, rfl, t1, _, _, _, rfl, rfl, sqt (s12 _ _ et1), atI1, _, _, rfl, rfl, boolE ?_ (qq H2 s12)⟩
      rw [hfit]
      by_cases h : b < a
      · rw [decide_eq_true h]
        exact decide_eq_true (by omega)
      · rw [decide_eq_false h]
        exact decide_eq_false (by omega)
/-- the place of an option: within what is held -/
def spAllFit (C : Addr) (st : Bool) : Sp := fun vs H Q _ => ∃ (f lb : Addr) (A : Ar) (R : Int → Option Nat) (p i : Nat) (os : Pos') (o : Opt), vs = [.ref f, .int p, .int i] ∧ FitAt C st H f A R lb ∧ ArG A ∧ A[p]? = some os ∧ os[i]? = some o ∧ ∀ H', Same H H' → Q (.bl (o.all (fitB st R p))) H'
theorem ok_Fitting_all_fit (T : Txt K mg) (st : Bool) : FnOk P w K mg base CX0 3 T.aFitting_all_fit T.dFitting_all_fit PFitting_all_fit (spAllFit T.C_Fitting st) := by
  have GFitting_fits := ok_Fitting_fits (P := P) (w := w) (base := base) T st
  refine T.FFitting_all_fit.ok scFitting_all_fit (fun vs H Q E h => ?_) (fun cdv A outer s H vs Q E hr h => ?_)
  · obtain ⟨f, lb, A, R, p, i, os, o, rfl, _⟩ := h
    rfl
  obtain ⟨f, lb, A0, R, p, i, os, o, rfl, hF, hG, hos, ho, qq⟩ := h
  have hpl := (List.getElem?_eq_some_iff.mp hos).1
  obtain ⟨⟨dx, v, t, g, ef, b0, xs, rfl, e0, hxs⟩, _⟩ := id hF
  obtain ⟨x, hx, b1, ys, rfl, e1, hys⟩ := hxs.at hos
  obtain ⟨y, hy, bo, rfl, eo⟩ := hys.at ho
  have hoG := (hG.2 os (List.mem_of_getElem? hos)).2 o (List.mem_of_getElem? ho)
  refine ⟨_, (pss_cons (ps_for  PassesOwn.never rfl (pi_tup (pe_ix ix_tup (pe_ix ix_tup (pe_fld (pv 0) rfl) (pv 1) (fun _ _ => rfl)) (pv 2) (fun _ _ => rfl))) (pg_name (i := 3) scFitting_all_fit.nd rfl (Or.inl rfl))
    (pss_one (ps_if (pt_not (pt_val (pe_meth (pv 0) T.cl_Fitting T.mFitting_fits GFitting_fits (hr.mono (by omega)) T.bFitting_fits .nil pass0 (pa_cons (pv 1) (pa_cons (pv 2) (pa_cons (pv 3) pa_nil))))))
    (pss_one (ps_ret pe_bl))
    pss_nil)))
    (pss_one (ps_ret pe_bl))), ?_⟩
  refine ⟨_, rfl, f, _, dx, _, _, rfl, ef, T.cl_Fitting, T.na_Fitting_arena, ff_arena, _, rfl, b0, _, _, _, rfl, rfl, sqt e0, atI_nat hx, _, rfl, b1, _, _, _, rfl, rfl, sqt e1, atI_nat hy, bo, rfl, ⟨_, sqt eo⟩, ?_⟩
  refine for_tup (K := K) (a := bo) (xs := o.map V.int) (fun (j : Nat) (σ : L2.St) (H' : Hp) => ∃ y3 : Option V, σ = [some (.ref f), some (.int p), some (.int i), y3] ∧ Same H H' ∧ (o.take j).all (fitB st R p) = true) ?_ ?_ ?_ ?_
  · exact ⟨_, rfl, Same.refl _, rfl⟩
  · rintro j σ H' _ ⟨y3, rfl, s1, _⟩
    exact sqt (s1 _ _ eo)
  · rintro j x σ H1 hx ⟨y3, rfl, s1, hall⟩
    rw [List.getElem?_map] at hx
    obtain ⟨c, hc, rfl⟩ := Option.map_eq_some_iff.mp hx
    have hcm := hoG.mem c (List.mem_of_getElem? hc)
    refine ⟨_, rfl, f, dx, _, rfl, s1 _ _ ef, ff_fits, _, rfl, _, rfl, _, rfl, f, lb, A0, R, p, i, c, rfl, hF.same s1, by omega, by omega, hcm.1, hcm.2, fun H2 s2 => ⟨_, rfl, ?_⟩⟩
    cases hfit : fitB st R p c with
    | true =>
      refine ifF rfl ⟨_, rfl, s1.trans s2, ?_⟩
      rw [List.take_add_one, hc, List.all_append, hall]
      show (true && (fitB st R p c && true)) = true
      rw [hfit]
      rfl
    | false =>
      refine ifT rfl (boolE ?_ (qq H2 (s1.trans s2)))
      exact (List.all_eq_false.mpr ⟨c, List.mem_of_getElem? hc, by rw [hfit]; exact Bool.false_ne_true⟩).symm
  · rintro σ H1 ⟨y3, rfl, s1, hall⟩
    rw [List.length_map, List.take_length] at hall
    exact boolE hall.symm (qq H1 s1)
end
end NL

set_option maxHeartbeats 4000000
namespace NL
open PySem PySem.Spec PyProof.Rows L2
def rpF (R : Int → Option Nat) (p : Int) (o : Opt) : Int := (o.filter (fitB false R p)).headD 0
theorem rpF_in {R : Int → Option Nat} {p : Int} {o : Opt} (h : ∃ q ∈ o, fitB false R p q = true) : rpF R p o ∈ o ∧ fitB false R p (rpF R p o) = true := by
  obtain ⟨q, hq, hf⟩ := h
  have hm : q ∈ o.filter (fitB false R p) := List.mem_filter.mpr ⟨hq, hf⟩
  unfold rpF
  cases hl : o.filter (fitB false R p) with
  | nil => rw [hl] at hm; cases hm
  | cons a r =>
    have : a ∈ o.filter (fitB false R p) := by rw [hl]; exact List.mem_cons_self ..
    exact List.mem_filter.mp this
/-- the first option whose successors all fit -/
def IsIx (st : Bool) (R : Int → Option Nat) (p : Int) (os : Pos') (i : Nat) : Prop := (∃ o, os[i]? = some o ∧ o.all (fitB st R p) = true) ∧ ∀ j, j < i → ∀ o, os[j]? = some o → o.all (fitB st R p) = false
def rkI (R : Int → Option Nat) (q : Int) : Int := ((R q).getD 0 : Nat)
/-- the reply within an option -/
def IsRp (st : Bool) (R : Int → Option Nat) (p : Int) (o : Opt) (z : Int) : Prop := z ∈ o ∧ fitB st R p z = true ∧ (st = false → z = rpF R p o) ∧ (st = true → (-1 ∈ o → z = -1) ∧ (z ≠ -1 → ∀ q ∈ o, fitB st R p q = true → plt (rkI R q, q) (rkI R z, z) = false))
def PickG (st : Bool) (H : Hp) (os : Pos') (R : Int → Option Nat) (p : Int) (v : V) : Prop := if ((R p).isSome != st) = true then (if R p = some 0 then v = .int (-1) else ∃ i : Nat, v = .int i ∧ IsIx st R p os i)
  else ∃ (c : Addr) (zs : List Int), v = .ref c ∧ H c = some (.tup (zs.map V.int)) ∧ (if R p = some 0 then zs = [] else zs.length = os.length ∧ ∀ (i : Nat) o z, os[i]? = some o → zs[i]? = some z → IsRp st R p o z)
theorem PickG.tp {st : Bool} {H H' : Hp} {os : Pos'} {R : Int → Option Nat} {p : Int} {v : V} (t : Tp H H') (h : PickG st H os R p v) : PickG st H' os R p v := by
  unfold PickG at h ⊢
  split
  · rename_i e
    rw [if_pos e] at h
    exact h
  · rename_i e
    rw [if_neg e] at h
    obtain ⟨c, zs, h1, h2, h3⟩ := h
    exact ⟨c, zs, h1, t _ _ h2, h3⟩
theorem head_out {o : Opt} {n : Int} (h : OptG n o) (hm : (-1 : Int) ∈ o) : ∃ r, o = -1 :: r := by
  cases o with
  | nil => cases hm
  | cons a r =>
    have ha := (h.mem a (List.mem_cons_self ..)).1
    rcases List.mem_cons.mp hm with e | e
    · exact ⟨r, by rw [← e]⟩
    · have := List.rel_of_pairwise_cons h.asc e
      omega
section
variable {P : Program} {w : World} {K : PySem.W.Frag} {mg : Str → Option Value} {base : Heap}
/-! ### _option -/
def spOption (C : Addr) (st : Bool) : Sp := fun vs H Q _ => ∃ (f lb : Addr) (A : Ar) (R : Int → Option Nat) (p : Nat) (os : Pos'), vs = [.ref f, .int p] ∧ FitAt C st H f A R lb ∧ ArG A ∧ A[p]? = some os ∧ (∃ o ∈ os, o.all (fitB st R p) = true) ∧ ∀ (i : Nat) H', Same H H' → IsIx st R p os i → Q (.int i) H'
theorem ok_option (T : Txt K mg) (st : Bool) : FnOk P w K mg base CX0 4 T.a_option T.d_option P_option (spOption T.C_Fitting st) := by
  have GFitting_all_fit := ok_Fitting_all_fit (P := P) (w := w) (base := base) T st
  refine T.F_option.ok sc_option (fun vs H Q E h => ?_) (fun cdv A outer s H vs Q E hr h => ?_)
  · obtain ⟨f, lb, A, R, p, os, rfl, _⟩ := h
    rfl
  obtain ⟨f, lb, A0, R, p, os, rfl, hF, hG, hos, hex, qq⟩ := h
  refine ⟨_, (pss_cons (ps_set (i := 2) sc_option.nd rfl (Or.inl rfl) pe_int)
    (pss_cons (ps_while PassesOwn.never (pt_not (pt_val (pe_meth (pv 0) T.cl_Fitting T.mFitting_all_fit GFitting_all_fit (hr.mono (by omega)) T.bFitting_all_fit .nil pass0 (pa_cons (pv 1) (pa_cons (pv 2) pa_nil)))))
    (pss_one (ps_aug (i := 2) sc_option.nd rfl (Or.inl rfl) pe_int ip_add)))
    (pss_one (ps_ret (pv 2))))), ?_⟩
  have later : ∀ i : Nat, (∀ j, j < i → ∀ o, os[j]? = some o → o.all (fitB st R p) = false) → i < os.length := fun i hno => by
    obtain ⟨o, ho, hall⟩ := hex
    obtain ⟨k, hk⟩ := List.getElem?_of_mem ho
    have hkl := (List.getElem?_eq_some_iff.mp hk).1
    rcases Nat.lt_or_ge k i with h | h
    · rw [hno k h o hk] at hall
      cases hall
    · omega
  refine ⟨fun m σ H' => ∃ i : Nat, σ = [some (.ref f), some (.int p), some (.int i)] ∧ Same H H' ∧ (∀ j, j < i → ∀ o, os[j]? = some o → o.all (fitB st R p) = false) ∧ m = os.length - i, ⟨_, 0, rfl, Same.refl _, fun j hj => absurd hj (Nat.not_lt_zero j), rfl⟩, ?_⟩
  rintro m σ H1 ⟨i, rfl, s1, hno, hm⟩
  have hil := later i hno
  have ho := List.getElem?_eq_getElem hil
  generalize os[i] = o at ho
  obtain ⟨⟨dx, v, t, g, ef, _⟩, _⟩ := hF.same s1
  refine ⟨_, rfl, f, dx, _, rfl, ef, ff_all_fit, _, rfl, _, rfl, f, lb, A0, R, p, i, os, o, rfl, hF.same s1, hG, hos, ho, fun H2 s2 => ⟨_, rfl, ?_⟩⟩
  cases hall : o.all (fitB st R p) with
  | true =>
    refine ifF rfl ⟨_, rfl, qq i H2 (s1.trans s2) ⟨⟨o, ho, hall⟩, hno⟩⟩
  | false =>
    refine ifT rfl ?_
    refine ⟨fun σ' H' => ∃ i2 : Nat, σ' = [some (.ref f), some (.int p), some (.int i2)] ∧ Same H H' ∧ (∀ j, j < i2 → ∀ o, os[j]? = some o → o.all (fitB st R p) = false) ∧ i2 = i + 1, fun σ' H' ⟨i2, e1, e2, e3, e4⟩ => ⟨os.length - i2, by omega, i2, e1, e2, e3, rfl⟩, ?_⟩
    refine ⟨_, rfl, _, _, rfl, rfl, i + 1, rfl, s1.trans s2, fun j hj o' ho' => ?_, rfl⟩
    by_cases h : j < i
    · exact hno j h o' ho'
    · have : j = i := by omega
      subst this
      rw [ho] at ho'
      cases ho'
      exact hall
/-! ### _reply -/
def spReply (C : Addr) (st : Bool) : Sp := fun vs H Q _ => ∃ (f lb : Addr) (A : Ar) (R : Int → Option Nat) (p i : Nat) (os : Pos') (o : Opt), vs = [.ref f, .int p, .int i] ∧ FitAt C st H f A R lb ∧ ArG A ∧ A[p]? = some os ∧ os[i]? = some o ∧ ((R p).isSome = st) ∧ (∃ q ∈ o, fitB st R p q = true) ∧ ∀ z H', Same H H' → IsRp st R p o z → Q (.int z) H'
theorem ok_reply (T : Txt K mg) (st : Bool) : FnOk P w K mg base CX0 3 T.a_reply T.d_reply P_reply (spReply T.C_Fitting st) := by
  have GFitting_fits := ok_Fitting_fits (P := P) (w := w) (base := base) T st
  refine T.F_reply.ok sc_reply (fun vs H Q E h => ?_) (fun cdv A outer s H vs Q E hr h => ?_)
  · obtain ⟨f, lb, A, R, p, i, os, o, rfl, _⟩ := h
    rfl
  obtain ⟨f, lb, A0, R, p, i, os, o, rfl, hF, hG, hos, ho, hst, hex, qq⟩ := h
  have hpl := (List.getElem?_eq_some_iff.mp hos).1
  obtain ⟨⟨dx, v, t, g, ef, b0, xs, rfl, e0, hxs⟩, _⟩ := id hF
  obtain ⟨x, hx, b1, ys, rfl, e1, hys⟩ := hxs.at hos
  obtain ⟨y, hy, bo, rfl, eo⟩ := hys.at ho
  have hoG := (hG.2 os (List.mem_of_getElem? hos)).2 o (List.mem_of_getElem? ho)
  have hlen := hoG.len
  refine ⟨_, (pss_cons (ps_setLc (i := 3) (own := [("after", 4)]) (g := (gName 4)) (tt := _) rfl sc_reply.nd rfl rfl (sw_true rfl rfl rfl (by decide +kernel)) (pi_tup (pe_ix ix_tup (pe_ix ix_tup (pe_fld (pv 0) rfl) (pv 1) (fun _ _ => rfl)) (pv 2) (fun _ _ => rfl))) (blkOk_by (N := N_reply) (sc := defScope s_reply) (by decide +kernel)) (fun _ _ _ _ _ => (pg_name (i := 4) sc_reply.nd rfl (Or.inl rfl))) (fun _ _ _ _ _ => (pts_one (pt_val (pe_meth (pv 0) T.cl_Fitting T.mFitting_fits GFitting_fits (hr.mono (by omega)) T.bFitting_fits .nil pass0 (pa_cons (pv 1) (pa_cons (pv 2) (pa_cons (pv 4) pa_nil))))))) (fun _ _ _ _ _ => (pv 4)))
    (pss_cons (ps_if (PW.pt (pw_and (pt_cmpR op_eq (pe_ix ix_tup (pe_ix ix_list (pe_fld (pv 0) rfl) (pv 1) (fun _ _ => rfl)) pe_int (fun _ _ => rfl)) pe_str (nomark _)) (pw_and1 (pt_cmpR op_ne (pe_ix ix_list (pv 3) pe_int (fun _ _ => rfl)) (pe_un un_neg pe_int) (nomark _)))))
    (pss_one (ps_ret (pe_ix ix_tup (pe_callB (cr_minP rfl (hu_of hr)) (by rfl) T.z_min (by decide +kernel) (pa_cons (pe_lc (own := [("after", 4)]) (g := (gName 4)) (tt := tYes) rfl sc_reply.nd (pi_list (pv 3)) (blkOk_by (N := N_reply) (sc := defScope s_reply) (by decide +kernel)) (fun _ _ _ _ _ => (pg_name (i := 4) sc_reply.nd rfl (Or.inl rfl))) (fun _ _ _ _ _ => pts_nil) (fun _ _ _ _ _ => (pe_tup (pa_cons (pe_ix (ix_tupK (K := K) rfl) (pe_ix (ix_listK (K := K) rfl) (pe_fldK (K := K) rfl (pv 0) rfl) (pv 4) (fun _ _ => rfl)) pe_int (fun _ _ => rfl)) (pa_cons (pv 4) pa_nil))))) pa_nil)) pe_int (fun _ _ => rfl))))
    pss_nil)
    (pss_one (ps_ret (pe_ix ix_list (pv 3) pe_int (fun _ _ => rfl)))))), ?_⟩
  refine ⟨_, rfl, f, _, dx, _, _, rfl, ef, T.cl_Fitting, T.na_Fitting_arena, ff_arena, _, rfl, b0, _, _, _, rfl, rfl, sqt e0, atI_nat hx, _, rfl, b1, _, _, _, rfl, rfl, sqt e1, atI_nat hy, bo, rfl, ⟨_, sqt eo⟩, fun L hL => ?_⟩
  refine lc_tup (K := K) (a := bo) (xs := o.map V.int) (fun (j : Nat) (H' : Hp) => Same H H' ∧ H' L = some (.lst (((o.take j).filter (fitB st R p)).map V.int))) ?_ ?_ ?_ ?_
  · exact ⟨same_new hL _, upd_same⟩
  · rintro j H' _ ⟨s1, _⟩
    exact sqt (s1 _ _ eo)
  · rintro j x H1 hx ⟨s1, k1⟩
    rw [List.getElem?_map] at hx
    obtain ⟨c, hc, rfl⟩ := Option.map_eq_some_iff.mp hx
    have hcm := hoG.mem c (List.mem_of_getElem? hc)
    have hfl := List.length_filter_le (fitB st R p) (o.take j)
    rw [List.length_take] at hfl
    have hnx : (o.take (j + 1)).filter (fitB st R p) = (o.take j).filter (fitB st R p) ++ (if fitB st R p c = true then [c] else []) := by
      rw [List.take_add_one, hc, List.filter_append]
      congr 1
      rw [Option.toList_some, List.filter_cons]
      cases (fitB st R p c) <;> rfl
    refine ⟨rfl, ?_⟩
    refine ⟨_, rfl, f, dx, _, rfl, s1 _ _ ef, ff_fits, _, rfl, _, rfl, _, rfl, f, lb, A0, R, p, i, c, rfl, hF.same s1, by omega, by omega, hcm.1, hcm.2, fun H2 s2 => ⟨_, rfl, ?_⟩⟩
    cases hfit : fitB st R p c with
    | true =>
      refine iteT ⟨_, rfl, _, s2 _ _ k1, big' (by rw [List.length_map]; omega), same_put (s1.trans s2) hL, ?_⟩
      rw [upd_same, hnx, hfit, if_pos rfl, List.map_append]
      rfl
    | false =>
      refine iteF ⟨s1.trans s2, ?_⟩
      rw [hnx, hfit, if_neg Bool.false_ne_true, List.append_nil]
      exact s2 _ _ k1
  · rintro H1 ⟨s1, k1⟩
    rw [List.length_map, List.take_length] at k1
    obtain ⟨ds, t1, el, hat1, et1⟩ := (hF.same s1).at (p := (p : Int)) (by omega) (by omega)
    obtain ⟨q, hq, hf⟩ := hex
    have hm : q ∈ o.filter (fitB st R p) := List.mem_filter.mpr ⟨hq, hf⟩
    have hr0 : rpF R p o = (o.filter (fitB false R p)).headD 0 := rfl
    refine ⟨_, rfl, f, _, dx, _, _, rfl, s1 _ _ ef, T.cl_Fitting, T.na_Fitting_labels, ff_labels, _, rfl, lb, _, _, _, rfl, rfl, sqd el, hat1, ?_⟩
    cases st with
    | false =>
      have hRn : R p = none := by
        cases hR : R p with
        | none => rfl
        | some r => rw [hR] at hst; cases hst
      rw [hRn] at et1
      refine ⟨t1, _, _, _, rfl, rfl, sqt et1, atI0, rfl, _, rfl, ?_⟩
      refine ifF (by decide) (iteF ?_)
      cases hl : o.filter (fitB false R p) with
      | nil => rw [hl] at hm; cases hm
      | cons a r =>
        rw [hl] at k1 hr0
        have ha : a ∈ o.filter (fitB false R p) := by rw [hl]; exact List.mem_cons_self ..
        obtain ⟨ha1, ha2⟩ := List.mem_filter.mp ha
        exact ⟨_, rfl, L, _, _, _, rfl, rfl, sqd k1, atI0, qq a H1 s1 ⟨ha1, ha2, fun _ => hr0.symm, fun e => (nomatch e)⟩⟩
    | true =>
      obtain ⟨rk, hRs⟩ : ∃ rk, R p = some rk := by
        cases hR : R p with
        | none => rw [hR] at hst; cases hst
        | some r => exact ⟨r, rfl⟩
      rw [hRs] at et1
      refine ⟨t1, _, _, _, rfl, rfl, sqt et1, atI0, rfl, _, rfl, ?_⟩
      refine ifT (by decide) ?_
      cases hl : o.filter (fitB true R p) with
      | nil => rw [hl] at hm; cases hm
      | cons a r =>
        rw [hl] at k1
        have ha : a ∈ o.filter (fitB true R p) := by rw [hl]; exact List.mem_cons_self ..
        obtain ⟨ha1, ha2⟩ := List.mem_filter.mp ha
        refine ⟨_, rfl, L, _, _, _, rfl, rfl, sqd k1, atI0, _, rfl, rfl, _, rfl, ?_⟩
        by_cases ha0 : a = -1
        · refine ifF (by rw [ha0] <;> rfl) ?_
          refine ⟨_, rfl, L, _, _, _, rfl, rfl, sqd k1, atI0, qq a H1 s1 ⟨ha1, ha2, fun e => (nomatch e), fun _ => ⟨fun _ => ha0, fun e => absurd ha0 e⟩⟩⟩
        · refine ifT (by rw [decide_eq_false (fun e => ha0 (V.int.inj e))] <;> rfl) ?_
          have hno : (-1 : Int) ∉ o := fun hout => by
            obtain ⟨r', e⟩ := head_out hoG hout
            have hfo : fitB true R p (-1) = true := by
              unfold fitB
              rw [if_pos rfl, hRs]
              rfl
            rw [e, List.filter_cons, hfo, if_pos rfl] at hl
            injection hl with h1 _
            exact ha0 h1.symm
          refine ⟨_, rfl, L, rfl, ⟨_, sqd k1⟩, fun M hM => ?_⟩
          have hall : ∀ z ∈ a :: r, z ∈ o ∧ fitB true R p z = true ∧ z ≠ -1 := fun z hz => by
            rw [← hl] at hz
            obtain ⟨h1, h2⟩ := List.mem_filter.mp hz
            exact ⟨h1, h2, fun e => hno (e ▸ h1)⟩
          have hrl : (a :: r).length ≤ o.length := by
            rw [← hl]
            exact List.length_filter_le _ _
          refine lc_list (K := K) (a := L) (xs := (a :: r).map V.int) (fun (j : Nat) (H' : Hp) => Same H1 H' ∧ ∃ ts : List Addr, H' M = some (.lst (ts.map V.ref)) ∧ ts.length = j ∧ ∀ (i : Nat) tt z, ts[i]? = some tt → (a :: r)[i]? = some z → H' tt = some (.tup ([rkI R z, z].map V.int))) ?_ ?_ ?_ ?_
          · exact ⟨same_new hM _, [], upd_same, rfl, fun i tt z h => nomatch h⟩
          · rintro j H' _ ⟨s2, _⟩
            exact sqd (s2 _ _ k1)
          · rintro j x H2 hx ⟨s2, ts, k2, htl, hts⟩
            rw [List.getElem?_map] at hx
            obtain ⟨c, hc, rfl⟩ := Option.map_eq_some_iff.mp hx
            have hjl := (List.getElem?_eq_some_iff.mp hc).1
            obtain ⟨hc1, hc2, hc3⟩ := hall c (List.mem_of_getElem? hc)
            have hcm := hoG.mem c hc1
            obtain ⟨ds2, t2, el2, hat2, et2⟩ := (hF.same (s1.trans s2)).at (p := c) (by omega) hcm.2
            obtain ⟨b, hRc⟩ : ∃ b, R c = some b := by
              unfold fitB at hc2
              rw [if_neg hc3, hRs] at hc2
              cases hb : R c with
              | none => rw [hb] at hc2; cases hc2
              | some b => exact ⟨b, rfl⟩
            rw [hRc] at et2
            refine ⟨rfl, yes_if ?_⟩
            refine ⟨_, rfl, f, _, dx, _, _, rfl, (s1.trans s2) _ _ ef, T.cl_Fitting, T.na_Fitting_labels, ff_labels, _, rfl, lb, _, _, _, rfl, rfl, sqd el2, hat2, t2, _, _, _, rfl, rfl, sqt et2, atI1, _, rfl, Nat.le_of_ble_eq_true rfl, fun tn htn => ?_⟩
            obtain ⟨H3, e3, s3, k3⟩ := newH htn (.tup [V.int (b : Nat), V.int c])
            rw [e3]
            have k23 := s3 _ _ k2
            refine ⟨_, k23, big' (by rw [List.length_map]; omega), same_put (s2.trans s3) hM, ts ++ [tn], by rw [upd_same, List.map_append]; rfl, by rw [List.length_append, htl]; rfl, fun i tt z hi hz => ?_⟩
            have hup : ∀ aa oo, H3 aa = some oo → aa ≠ M → upd H3 M (.lst (ts.map V.ref ++ [V.ref tn])) aa = some oo := fun aa oo e hne => by rw [upd_ne hne]; exact e
            by_cases hij : i < j
            · rw [List.getElem?_append_left (by omega)] at hi
              have h4 := s3 _ _ (hts i tt z hi hz)
              exact hup _ _ h4 (fun e => by rw [e, k23] at h4; cases h4)
            · have hij2 : i = j := by
                have := (List.getElem?_eq_some_iff.mp hi).1
                rw [List.length_append, htl] at this
                have h1 : [tn].length = 1 := rfl
                omega
              subst hij2
              rw [List.getElem?_append_right (by omega), htl, Nat.sub_self] at hi
              cases hi
              rw [hc] at hz
              cases hz
              refine hup _ _ ?_ (fun e => by rw [e, k23] at k3; cases k3)
              rw [k3]
              unfold rkI
              rw [hRc]
              rfl
          · rintro H2 ⟨s2, ts, k2, htl, hts⟩
            rw [List.length_map] at htl
            refine ⟨M, ts, (a :: r).map fun z => (rkI R z, z), rfl, sqd k2, by rw [List.length_map, htl], by rw [List.length_map]; exact Nat.succ_pos _, fun i tt pp hi hpp => ?_, fun i tt pp hi hpp hmin => ?_⟩
            · rw [List.getElem?_map] at hpp
              obtain ⟨z, hz, rfl⟩ := Option.map_eq_some_iff.mp hpp
              exact sqt (hts i tt z hi hz)
            · rw [List.getElem?_map] at hpp
              obtain ⟨z, hz, rfl⟩ := Option.map_eq_some_iff.mp hpp
              have hzz := hts i tt z hi hz
              obtain ⟨hz1, hz2, hz3⟩ := hall z (List.mem_of_getElem? hz)
              refine ⟨tt, _, _, _, rfl, rfl, sqt hzz, atI1, qq z H2 (s1.trans s2) ⟨hz1, hz2, fun e => (nomatch e), fun _ => ⟨fun h => absurd h hno, fun _ q hq hfq => ?_⟩⟩⟩
              refine hmin _ (List.mem_map_of_mem ?_)
              rw [← hl]
              exact List.mem_filter.mpr ⟨hq, hfq⟩
/-! ### _pick -/
def spPick (C : Addr) (st : Bool) : Sp := fun vs H Q _ => ∃ (f lb : Addr) (A : Ar) (R : Int → Option Nat) (p : Nat) (os : Pos'), vs = [.ref f, .int p] ∧ FitAt C st H f A R lb ∧ ArG A ∧ A[p]? = some os ∧ (((R p).isSome = st) → R p ≠ some 0 → ∀ o ∈ os, ∃ q ∈ o, fitB st R p q = true) ∧ (((R p).isSome = !st) → R p ≠ some 0 → ∃ o ∈ os, o.all (fitB st R p) = true) ∧
  ∀ v H', Same H H' → PickG st H' os R p v → Q v H'
theorem ok_pick (T : Txt K mg) (st : Bool) : FnOk P w K mg base CX0 5 T.a_pick T.d_pick P_pick (spPick T.C_Fitting st) := by
  have Ghas_option := ok_has_option (P := P) (w := w) (base := base) T
  have Gis_end := ok_is_end (P := P) (w := w) (base := base) T st
  have G_option := ok_option (P := P) (w := w) (base := base) T st
  have G_reply := ok_reply (P := P) (w := w) (base := base) T st
  refine T.F_pick.ok sc_pick (fun vs H Q E h => ?_) (fun cdv A outer s H vs Q E hr h => ?_)
  · obtain ⟨f, lb, A, R, p, os, rfl, _⟩ := h
    rfl
  obtain ⟨f, lb, A0, R, p, os, rfl, hF, hG, hos, hno, hso, qq⟩ := h
  have hpl := (List.getElem?_eq_some_iff.mp hos).1
  obtain ⟨⟨dx, v, t, g, ef, b0, xs, rfl, e0, hxs⟩, _⟩ := id hF
  obtain ⟨x, hx, b1, ys, rfl, e1, hys⟩ := hxs.at hos
  have hyl := hys.1
  obtain ⟨ds, t1, el, hat1, et1⟩ := hF.at (p := (p : Int)) (by omega) (by omega)
  have hosG := hG.2 os (List.mem_of_getElem? hos)
  have hol := hosG.1
  refine ⟨_, (pss_cons (ps_set (i := 2) sc_pick.nd rfl (Or.inl rfl) (pe_ix ix_list (pe_fld (pv 0) rfl) (pv 1) (fun _ _ => rfl)))
    (pss_cons (ps_set (i := 3) sc_pick.nd rfl (Or.inl rfl) (pe_ix ix_tup (pe_fld (pv 0) rfl) (pv 1) (fun _ _ => rfl)))
    (pss_cons (ps_if (pt_val (pe_call Ghas_option (hr.mono (by omega)) (by rfl) T.mhas_option T.Fhas_option.kp T.bhas_option .nil pass0 (pa_cons (pv 2) pa_nil)))
    (pss_one (ps_ret (pe_ifExp (pt_val (pe_call Gis_end (hr.mono (by omega)) (by rfl) T.mis_end T.Fis_end.kp T.bis_end .nil pass0 (pa_cons (pv 2) pa_nil))) (pe_un un_neg pe_int) (pe_call G_option (hr.mono (by omega)) (by rfl) T.m_option T.F_option.kp T.b_option .nil pass0 (pa_cons (pv 0) (pa_cons (pv 1) pa_nil))))))
    pss_nil)
    (pss_one (ps_ret (pe_ifExp (pt_val (pe_call Gis_end (hr.mono (by omega)) (by rfl) T.mis_end T.Fis_end.kp T.bis_end .nil pass0 (pa_cons (pv 2) pa_nil))) (pe_tup pa_nil) (pe_callTy call_tuple_of (by rfl) T.z_tuple (by decide +kernel) (pa_cons (pe_lc (own := [("index", 4)]) (g := (gName 4)) (tt := tYes) rfl sc_pick.nd (pi_range1 (by rfl) T.z_range (pa_cons (pe_callB call_len_seq (by rfl) T.z_len PySem.boot_len (pa_cons (pv 3) pa_nil)) pa_nil)) (blkOk_by (N := N_pick) (sc := defScope s_pick) (by decide +kernel)) (fun _ _ _ _ _ => (pg_name (i := 4) sc_pick.nd rfl (Or.inl rfl))) (fun _ _ _ _ _ => pts_nil) (fun _ _ _ _ _ => (pe_call G_reply (hr.mono (by omega)) (by rfl) T.m_reply T.F_reply.kp T.b_reply .nil pass0 (pa_cons (pv 0) (pa_cons (pv 1) (pa_cons (pv 4) pa_nil)))))) pa_nil)))))))), ?_⟩
  refine ⟨_, rfl, f, _, dx, _, _, rfl, ef, T.cl_Fitting, T.na_Fitting_labels, ff_labels, _, rfl, lb, _, _, _, rfl, rfl, sqd el, hat1, ?_⟩
  refine ⟨_, rfl, f, _, dx, _, _, rfl, ef, T.cl_Fitting, T.na_Fitting_arena, ff_arena, _, rfl, b0, _, _, _, rfl, rfl, sqt e0, atI_nat hx, ?_⟩
  obtain ⟨s0, tl, hs1, hs2⟩ := has_lb st (R p)
  refine ⟨_, rfl, t1, s0, tl, rfl, by rw [et1, hs1], _, rfl, ?_⟩
  rw [hs2]
  cases hown : ((R p).isSome != st) with
  | false =>
    have hst : (R p).isSome = st := by
      cases h1 : (R p).isSome <;> cases st <;> rw [h1] at hown <;> first | rfl | cases hown
    refine ifF rfl ?_
    refine ⟨_, rfl, t1, R p, rfl, et1, fun H1 s1 => ⟨_, rfl, ?_⟩⟩
    by_cases hR0 : R p = some 0
    · refine ifT (decide_eq_true hR0) ?_
      refine ⟨Nat.zero_le _, fun te hte => ?_⟩
      refine qq _ _ (s1.trans (same_new hte _)) ?_
      unfold PickG
      rw [hown, if_neg Bool.false_ne_true]
      exact ⟨te, [], rfl, upd_same, by rw [if_pos hR0]⟩
    refine ifF (decide_eq_false hR0) ?_
    refine ⟨_, rfl, b1, _, rfl, .inr (sqt (s1 _ _ e1)), _, rfl, by omega, by omega, fun L hL => ?_⟩
    refine lc_range (lo := 0) (n := ((ys.length : Nat) : Int).toNat) (fun (j : Nat) (H' : Hp) => Same H1 H' ∧ ∃ zs : List Int, H' L = some (.lst (zs.map V.int)) ∧ zs.length = j ∧ ∀ (i : Nat) o z, os[i]? = some o → zs[i]? = some z → IsRp st R p o z) ?_ ?_ ?_
    · exact ⟨same_new hL _, [], upd_same, rfl, fun i o z _ h => nomatch h⟩
    · rintro j H2 hj ⟨s2, zs, k2, hzl, hzs⟩
      have hjo : j < os.length := by omega
      have ho := List.getElem?_eq_getElem hjo
      generalize os[j] = o at ho
      refine ⟨rfl, yes_if ?_⟩
      refine ⟨_, rfl, _, rfl, _, rfl, f, lb, A0, R, p, j, os, o, by rw [Int.zero_add]; rfl, hF.same (s1.trans s2), hG, hos, ho, hst, hno hst hR0 o (List.mem_of_getElem? ho), fun z H3 s3 hz => ?_⟩
      refine ⟨_, s3 _ _ k2, big' (by rw [List.length_map]; omega), same_put (s2.trans s3) hL, zs ++ [z], by rw [upd_same, List.map_append]; rfl, by rw [List.length_append, hzl]; rfl, fun i o' z' hi hz' => ?_⟩
      by_cases hij : i < j
      · rw [List.getElem?_append_left (by omega)] at hz'
        exact hzs i o' z' hi hz'
      · have hij2 : i = j := by
          have := (List.getElem?_eq_some_iff.mp hz').1
          rw [List.length_append, hzl] at this
          have h1 : [z].length = 1 := rfl
          omega
        subst hij2
        rw [List.getElem?_append_right (by omega), hzl, Nat.sub_self] at hz'
        cases hz'
        rw [ho] at hi
        cases hi
        exact hz
    · rintro H2 ⟨s2, zs, k2, hzl, hzs⟩
      refine ⟨L, _, rfl, .inl ⟨sqd k2, fun tt htt => ?_⟩⟩
      refine qq _ _ ((s1.trans s2).trans (same_new htt _)) ?_
      unfold PickG
      rw [hown, if_neg Bool.false_ne_true]
      exact ⟨tt, zs, rfl, upd_same, by rw [if_neg hR0]; exact ⟨by omega, hzs⟩⟩
  | true =>
    have hst : (R p).isSome = !st := by
      cases h1 : (R p).isSome <;> cases st <;> rw [h1] at hown <;> first | rfl | cases hown
    refine ifT rfl ?_
    refine ⟨_, rfl, t1, R p, rfl, et1, fun H1 s1 => ⟨_, rfl, ?_⟩⟩
    by_cases hR0 : R p = some 0
    · refine ifT (decide_eq_true hR0) ?_
      refine ⟨_, rfl, qq _ _ s1 ?_⟩
      unfold PickG
      rw [hown, if_pos rfl, if_pos hR0]
    · refine ifF (decide_eq_false hR0) ?_
      refine ⟨_, rfl, _, rfl, f, lb, A0, R, p, os, rfl, hF.same s1, hG, hos, hso hst hR0, fun i H2 s2 hi => ?_⟩
      refine qq _ _ (s1.trans s2) ?_
      unfold PickG
      rw [hown, if_pos rfl, if_neg hR0]
      exact ⟨i, rfl, hi⟩
end
end NL

set_option maxHeartbeats 4000000
namespace NL
open PySem PySem.Spec PyProof.Rows L2
def sdV (b : Bool) : V := .str (if b = true then "controller" else "disturbance")
theorem come_no {A : Ar} {Kp : List Int} (hin : InA A A.length) {p : Nat} {os : Pos'} (hp : A[p]? = some os) (h : gR false A Kp p = none) : ∀ o ∈ os, ∃ q ∈ o, fitB false (gR false A Kp) p q = true := by
  intro o ho
  obtain ⟨J, hJ⟩ := rk_end (f := gF false A Kp) (fun k p e => gF_up k p e) A.length
  have hr := gR_is false A Kp p
  rw [h] at hr
  have h1 := hr (J + 1)
  rw [gF_s hp, Bool.or_eq_false_iff] at h1
  have h2 : os.any (fun o => o.all (gF false A Kp J)) = false := h1.2
  have h3 := List.any_eq_false.mp h2 o ho
  have h4 : o.all (gF false A Kp J) = false := by
    cases hz : o.all (gF false A Kp J) with
    | false => rfl
    | true => exact absurd hz h3
  obtain ⟨q, hq, hf⟩ := List.all_eq_false.mp h4
  refine ⟨q, hq, ?_⟩
  have hqm := hin os (List.mem_of_getElem? hp) o ho q hq
  by_cases hq1 : q = -1
  · rw [hq1]
    exact fit_out h
  · refine fit_none h ?_ hq1
    have hrq := gR_is false A Kp q
    cases hb : gR false A Kp q with
    | none => rfl
    | some b =>
      rw [hb] at hrq
      have := hJ q.toNat (by omega) b (by rw [show ((q.toNat : Nat) : Int) = q by omega]; exact hrq.1)
      rw [show ((q.toNat : Nat) : Int) = q by omega] at this
      exact absurd this hf
theorem come_yes {A : Ar} {Kp : List Int} {p : Nat} {os : Pos'} (hp : A[p]? = some os) {r : Nat} (h : gR false A Kp p = some (r + 1)) : ∃ o ∈ os, o.all (fitB false (gR false A Kp) p) = true := by
  have hr := gR_is false A Kp p
  rw [h] at hr
  have h1 := hr.1
  rw [gF_s hp, hr.2 r (Nat.lt_succ_self r), Bool.false_or] at h1
  have h2 : os.any (fun o => o.all (gF false A Kp r)) = true := h1
  obtain ⟨o, ho, hall⟩ := List.any_eq_true.mp h2
  refine ⟨o, ho, List.all_eq_true.mpr fun q hq => ?_⟩
  have hf := List.all_eq_true.mp hall q hq
  refine fit_some h (.inl fun e => ?_) hf
  rw [e, gF_out] at hf
  cases hf
theorem stay_yes {A : Ar} {Kp : List Int} (hin : InA A A.length) {p : Nat} {os : Pos'} (hp : A[p]? = some os) (h : gR true A Kp p = none) : ∃ o ∈ os, o.all (fitB true (gR true A Kp) p) = true := by
  obtain ⟨J, hJ⟩ := rk_end (f := gF true A Kp) (fun k p e => gF_up k p e) A.length
  have hr := gR_is true A Kp p
  rw [h] at hr
  have h1 := hr (J + 1)
  rw [gF_s hp, Bool.or_eq_false_iff] at h1
  have h2 : os.all (fun o => o.any (gF true A Kp J)) = false := h1.2
  obtain ⟨o, ho, hno⟩ := List.all_eq_false.mp h2
  refine ⟨o, ho, List.all_eq_true.mpr fun q hq => ?_⟩
  have hqm := hin os (List.mem_of_getElem? hp) o ho q hq
  have hf : gF true A Kp J q = false := by
    cases hf : gF true A Kp J q with
    | false => rfl
    | true => exact absurd (List.any_eq_true.mpr ⟨q, hq, hf⟩) hno
  have hq1 : q ≠ -1 := fun e => by
    rw [e, gF_out] at hf
    cases hf
  refine fit_none h ?_ hq1
  have hrq := gR_is true A Kp q
  cases hb : gR true A Kp q with
  | none => rfl
  | some b =>
    rw [hb] at hrq
    have := hJ q.toNat (by omega) b (by rw [show ((q.toNat : Nat) : Int) = q by omega]; exact hrq.1)
    rw [show ((q.toNat : Nat) : Int) = q by omega, hf] at this
    cases this
theorem stay_no {A : Ar} {Kp : List Int} {p : Nat} {os : Pos'} (hp : A[p]? = some os) {r : Nat} (h : gR true A Kp p = some (r + 1)) : ∀ o ∈ os, ∃ q ∈ o, fitB true (gR true A Kp) p q = true := by
  intro o ho
  have hr := gR_is true A Kp p
  rw [h] at hr
  have h1 := hr.1
  rw [gF_s hp, hr.2 r (Nat.lt_succ_self r), Bool.false_or] at h1
  have h2 : os.all (fun o => o.any (gF true A Kp r)) = true := h1
  obtain ⟨q, hq, hf⟩ := List.any_eq_true.mp (List.all_eq_true.mp h2 o ho)
  exact ⟨q, hq, fit_some h (.inr rfl) hf⟩
theorem pick_no {st : Bool} {A : Ar} {Kp : List Int} (hin : InA A A.length) {p : Nat} {os : Pos'} (hp : A[p]? = some os) (h : (gR st A Kp p).isSome = st) (h0 : gR st A Kp p ≠ some 0) : ∀ o ∈ os, ∃ q ∈ o, fitB st (gR st A Kp) p q = true := by
  cases st with
  | false =>
    refine come_no hin hp ?_
    cases hR : gR false A Kp p with
    | none => rfl
    | some r => rw [hR] at h; cases h
  | true =>
    cases hR : gR true A Kp p with
    | none => rw [hR] at h; cases h
    | some r =>
      cases r with
      | zero => exact absurd hR h0
      | succ r => exact stay_no hp hR
theorem pick_yes {st : Bool} {A : Ar} {Kp : List Int} (hin : InA A A.length) {p : Nat} {os : Pos'} (hp : A[p]? = some os) (h : (gR st A Kp p).isSome = !st) (h0 : gR st A Kp p ≠ some 0) : ∃ o ∈ os, o.all (fitB st (gR st A Kp) p) = true := by
  cases st with
  | true =>
    refine stay_yes hin hp ?_
    cases hR : gR true A Kp p with
    | none => rfl
    | some r => rw [hR] at h; cases h
  | false =>
    cases hR : gR false A Kp p with
    | none => rw [hR] at h; cases h
    | some r =>
      cases r with
      | zero => exact absurd hR h0
      | succ r => exact come_yes hp hR
/-- one label of a paper -/
def PapIn (st : Bool) (H : Hp) (os : Pos') (R : Int → Option Nat) (p : Int) (v : V) : Prop := ∃ b pk, v = .ref b ∧ H b = some (.tup (lbV st (R p) ++ [pk])) ∧ PickG st H os R p pk
theorem PapIn.tp {st : Bool} {H H' : Hp} {os : Pos'} {R : Int → Option Nat} {p : Int} {v : V} (t : Tp H H') (h : PapIn st H os R p v) : PapIn st H' os R p v := by
  obtain ⟨b, pk, h1, h2, h3⟩ := h
  exact ⟨b, pk, h1, t _ _ h2, h3.tp t⟩
/-- the paper, position by position -/
def PaperAt (st : Bool) (H : Hp) (A : Ar) (R : Int → Option Nat) (n : Nat) (ls : List V) : Prop := ls.length = n ∧ ∀ (k : Nat) os, k < n → A[k]? = some os → ∃ v, ls[k]? = some v ∧ PapIn st H os R (k : Int) v
theorem PaperAt.tp {st : Bool} {H H' : Hp} {A : Ar} {R : Int → Option Nat} {n : Nat} {ls : List V} (t : Tp H H') (h : PaperAt st H A R n ls) : PaperAt st H' A R n ls := ⟨h.1, fun k os hk ho => by
  obtain ⟨v, h1, h2⟩ := h.2 k os hk ho
  exact ⟨v, h1, h2.tp t⟩⟩
section
variable {P : Program} {w : World} {K : PySem.W.Frag} {mg : Str → Option Value} {base : Heap}
/-! ### _drafts -/
def goalW (st : Bool) : V := .str (if st = true then "stay" else "come")
def spDrafts (Pt : Addr) (st : Bool) : Sp := fun vs H Q _ => ∃ (v : V) (A : Ar) (g kp : Addr) (Kp : List Int), vs = [v, .ref g] ∧ ArIn H A v ∧ ArG A ∧ H g = some (.tup [goalW st, .ref kp]) ∧ H kp = some (.tup (Kp.map V.int)) ∧ GxR.TabG H Pt ∧
  ∀ p ds H', Sm Pt H H' → H' p = some (.lst ds) → Each (LabIn st H') ((List.range A.length).map fun k : Nat => gR st A Kp (k : Int)) ds → Q (.ref p) H'
theorem ok_drafts (T : Txt K mg) {c Pt : Addr} (TB : GxR.TabB base mg c Pt) (hc : T.dforces.code = .ref c) (st : Bool) : FnOk P w K mg base CX0 6 T.a_drafts T.d_drafts P_drafts (spDrafts Pt st) := by
  have Gcome_ranks := ok_come_ranks (P := P) (w := w) T TB hc
  have Gstay_ranks := ok_stay_ranks (P := P) (w := w) T TB hc
  have G_colour_drafts : FnOk P w K mg base CX0 1 T.a_colour_drafts T.d_colour_drafts P_colour_drafts (fun _ _ _ _ => False) := ⟨fun _ _ _ _ h => h.elim, fun A outer s H args us vs Q E _ _ _ _ h => h.elim⟩
  have G_tank_drafts : FnOk P w K mg base CX0 1 T.a_tank_drafts T.d_tank_drafts P_tank_drafts (fun _ _ _ _ => False) := ⟨fun _ _ _ _ h => h.elim, fun A outer s H args us vs Q E _ _ _ _ h => h.elim⟩
  refine T.F_drafts.ok sc_drafts (fun vs H Q E h => ?_) (fun cdv A outer s H vs Q E hr h => ?_)
  · obtain ⟨v, A, g, kp, Kp, rfl, _⟩ := h
    rfl
  obtain ⟨v, A0, g, kp, Kp, rfl, ⟨b0, xs, rfl, e0, hxs⟩, hG, eg, ek, hT, q⟩ := h
  have hxl := hxs.1
  have h46 := hG.1
  refine ⟨_, (pss_cons (ps_asg (pv 1) (pg_tup rfl (pgs_cons (pg_name (i := 2) sc_drafts.nd rfl (Or.inl rfl)) (pgs_cons (pg_name (i := 3) sc_drafts.nd rfl (Or.inl rfl)) pgs_nil))))
    (pss_cons (ps_if (pt_cmpR op_eq (pv 2) pe_str (nomark _))
    (pss_cons (ps_set (i := 4) sc_drafts.nd rfl (Or.inl rfl) (pe_call Gstay_ranks (hr.mono (by omega)) (by rfl) T.mstay_ranks T.Fstay_ranks.kp T.bstay_ranks .nil pass0 (pa_cons (pv 0) (pa_cons (pv 3) pa_nil))))
    (pss_one (ps_ret (pe_lc (own := [("rank", 5)]) (g := (gName 5)) (tt := tYes) rfl sc_drafts.nd (pi_list (pv 4)) (blkOk_by (N := N_drafts) (sc := defScope s_drafts) (by decide +kernel)) (fun _ _ _ _ _ => (pg_name (i := 5) sc_drafts.nd rfl (Or.inl rfl))) (fun _ _ _ _ _ => pts_nil) (fun _ _ _ _ _ => (pe_ifExp (pt_cmpR op_isN (pv 5) pe_non (nomark _)) (pe_tup (pa_cons pe_str pa_nil)) (pe_tup (pa_cons pe_str (pa_cons (pv 5) pa_nil)))))))))
    pss_nil)
    (pss_cons (ps_if (pt_cmpR op_eq (pv 2) pe_str (nomark _))
    (pss_cons (ps_set (i := 4) sc_drafts.nd rfl (Or.inl rfl) (pe_call Gcome_ranks (hr.mono (by omega)) (by rfl) T.mcome_ranks T.Fcome_ranks.kp T.bcome_ranks .nil pass0 (pa_cons (pv 0) (pa_cons (pv 3) pa_nil))))
    (pss_one (ps_ret (pe_lc (own := [("rank", 5)]) (g := (gName 5)) (tt := tYes) rfl sc_drafts.nd (pi_list (pv 4)) (blkOk_by (N := N_drafts) (sc := defScope s_drafts) (by decide +kernel)) (fun _ _ _ _ _ => (pg_name (i := 5) sc_drafts.nd rfl (Or.inl rfl))) (fun _ _ _ _ _ => pts_nil) (fun _ _ _ _ _ => (pe_ifExp (pt_cmpR op_isN (pv 5) pe_non (nomark _)) (pe_tup (pa_cons pe_str pa_nil)) (pe_tup (pa_cons pe_str (pa_cons (pv 5) pa_nil)))))))))
    pss_nil)
    (pss_cons (ps_if (pt_cmpR op_eq (pv 2) pe_str (nomark _))
    (pss_one (ps_ret (pe_call G_colour_drafts (hr.mono (by omega)) (by rfl) T.m_colour_drafts T.F_colour_drafts.kp T.b_colour_drafts .nil pass0 (pa_cons (pv 0) (pa_cons (pv 3) pa_nil)))))
    pss_nil)
    (pss_one (ps_ret (pe_call G_tank_drafts (hr.mono (by omega)) (by rfl) T.m_tank_drafts T.F_tank_drafts.kp T.b_tank_drafts .nil pass0 (pa_cons (pv 0) (pa_cons (pv 3) pa_nil))))))))), ?_⟩
  refine ⟨_, rfl, g, _, rfl, sqt eg, rfl, _, _, rfl, _, _, rfl, rfl, ?_⟩
  cases st with
  | false =>
    refine ⟨_, rfl, rfl, _, rfl, ifF (by decide) ?_⟩
    refine ⟨_, rfl, rfl, _, rfl, ?_⟩
    refine ifT (decide_eq_true rfl) ?_
    refine ⟨_, rfl, _, rfl, _, A0, kp, Kp, rfl, ⟨b0, xs, rfl, .inr e0, hxs⟩, by omega, hG.inA, ek, hT, fun rl rs H1 s1 hrl k1 hR => ?_⟩
    obtain ⟨hrsl, hrs⟩ := hR
    refine ⟨_, rfl, rl, rfl, ⟨_, sqd k1⟩, fun L hL => ?_⟩
    refine lc_list (K := K) (a := rl) (xs := rs) (fun (j : Nat) (H' : Hp) => Same H1 H' ∧ ∃ ds, H' L = some (.lst ds) ∧ Each (LabIn false H') ((List.range j).map fun k : Nat => gR false A0 Kp (k : Int)) ds) ?_ ?_ ?_ ?_
    · exact ⟨same_new hL _, [], upd_same, .nil⟩
    · rintro j H' _ ⟨s2, _⟩
      exact sqd (s2 _ _ k1)
    · rintro j x H2 hx ⟨s2, ds, k2, hds⟩
      have hj := (List.getElem?_eq_some_iff.mp hx).1
      obtain ⟨ro, hro, hro2⟩ := hrs j (by omega)
      rw [hx] at hro2
      obtain rfl := Option.some.inj hro2
      have hgr : gR false A0 Kp (j : Int) = ro := rkF_eq hro
      have hdl := hds.1
      rw [List.length_map, List.length_range] at hdl
      have fin : ∀ (u : V) (H7 : Hp), Same H2 H7 → LabIn false H7 (gR false A0 Kp (j : Int)) u → ∃ acc, H7 L = some (.lst acc) ∧ acc.length < sizeLine ∧ (Same H1 (upd H7 L (.lst (acc ++ [u]))) ∧ ∃ ds, (upd H7 L (.lst (acc ++ [u]))) L = some (.lst ds) ∧ Each (LabIn false (upd H7 L (.lst (acc ++ [u])))) ((List.range (j + 1)).map fun k : Nat => gR false A0 Kp (k : Int)) ds) := fun u H7 s7 hu => by
        have d7 := s7 _ _ k2
        refine ⟨ds, d7, big' (by omega), same_put (s2.trans s7) hL, _, upd_same, ?_⟩
        have tt : Tp H7 (upd H7 L (.lst (ds ++ [u]))) := tp_put Tp.refl d7
        rw [List.range_succ, List.map_append]
        exact (hds.mono fun o x => LabIn.tp ((Tp.same s7).trans tt)).snoc (hu.tp tt)
      refine ⟨rfl, yes_if ?_⟩
      refine ⟨_, rfl, rfl, _, rfl, ?_⟩
      cases ro with
      | none =>
        refine ifT (decide_eq_true rfl) ?_
        refine ⟨Nat.le_of_ble_eq_true rfl, fun te hte => ?_⟩
        exact fin _ _ (same_new hte _) ⟨te, rfl, by rw [hgr]; exact upd_same⟩
      | some r =>
        refine ifF (decide_eq_false (fun e => nomatch e)) ?_
        refine ⟨_, rfl, Nat.le_of_ble_eq_true rfl, fun te hte => ?_⟩
        exact fin _ _ (same_new hte _) ⟨te, rfl, by rw [hgr]; exact upd_same⟩
    · rintro H2 ⟨s2, ds, k2, hds⟩
      rw [hrsl] at hds
      exact q L ds H2 (s1.trans (.of s2)) k2 hds
  | true =>
    refine ⟨_, rfl, rfl, _, rfl, ?_⟩
    refine ifT (decide_eq_true rfl) ?_
    refine ⟨_, rfl, _, rfl, _, A0, kp, Kp, rfl, ⟨b0, xs, rfl, .inr e0, hxs⟩, by omega, hG.inA, .inr (sqt ek), hT, fun rl rs H1 s1 hrl k1 hR => ?_⟩
    obtain ⟨hrsl, hrs⟩ := hR
    refine ⟨_, rfl, rl, rfl, ⟨_, sqd k1⟩, fun L hL => ?_⟩
    refine lc_list (K := K) (a := rl) (xs := rs) (fun (j : Nat) (H' : Hp) => Same H1 H' ∧ ∃ ds, H' L = some (.lst ds) ∧ Each (LabIn true H') ((List.range j).map fun k : Nat => gR true A0 Kp (k : Int)) ds) ?_ ?_ ?_ ?_
    · exact ⟨same_new hL _, [], upd_same, .nil⟩
    · rintro j H' _ ⟨s2, _⟩
      exact sqd (s2 _ _ k1)
    · rintro j x H2 hx ⟨s2, ds, k2, hds⟩
      have hj := (List.getElem?_eq_some_iff.mp hx).1
      obtain ⟨ro, hro, hro2⟩ := hrs j (by omega)
      rw [hx] at hro2
      obtain rfl := Option.some.inj hro2
      have hgr : gR true A0 Kp (j : Int) = ro := rkF_eq hro
      have hdl := hds.1
      rw [List.length_map, List.length_range] at hdl
      have fin : ∀ (u : V) (H7 : Hp), Same H2 H7 → LabIn true H7 (gR true A0 Kp (j : Int)) u → ∃ acc, H7 L = some (.lst acc) ∧ acc.length < sizeLine ∧ (Same H1 (upd H7 L (.lst (acc ++ [u]))) ∧ ∃ ds, (upd H7 L (.lst (acc ++ [u]))) L = some (.lst ds) ∧ Each (LabIn true (upd H7 L (.lst (acc ++ [u])))) ((List.range (j + 1)).map fun k : Nat => gR true A0 Kp (k : Int)) ds) := fun u H7 s7 hu => by
        have d7 := s7 _ _ k2
        refine ⟨ds, d7, big' (by omega), same_put (s2.trans s7) hL, _, upd_same, ?_⟩
        have tt : Tp H7 (upd H7 L (.lst (ds ++ [u]))) := tp_put Tp.refl d7
        rw [List.range_succ, List.map_append]
        exact (hds.mono fun o x => LabIn.tp ((Tp.same s7).trans tt)).snoc (hu.tp tt)
      refine ⟨rfl, yes_if ?_⟩
      refine ⟨_, rfl, rfl, _, rfl, ?_⟩
      cases ro with
      | none =>
        refine ifT (decide_eq_true rfl) ?_
        refine ⟨Nat.le_of_ble_eq_true rfl, fun te hte => ?_⟩
        exact fin _ _ (same_new hte _) ⟨te, rfl, by rw [hgr]; exact upd_same⟩
      | some r =>
        refine ifF (decide_eq_false (fun e => nomatch e)) ?_
        refine ⟨_, rfl, Nat.le_of_ble_eq_true rfl, fun te hte => ?_⟩
        exact fin _ _ (same_new hte _) ⟨te, rfl, by rw [hgr]; exact upd_same⟩
    · rintro H2 ⟨s2, ds, k2, hds⟩
      rw [hrsl] at hds
      exact q L ds H2 (s1.trans (.of s2)) k2 hds
/-! ### owners -/
def spOwners (Pt : Addr) (st : Bool) : Sp := fun vs H Q _ => ∃ (v : V) (A : Ar) (g kp : Addr) (Kp : List Int), vs = [v, .ref g] ∧ ArIn H A v ∧ ArG A ∧ H g = some (.tup [goalW st, .ref kp]) ∧ H kp = some (.tup (Kp.map V.int)) ∧ GxR.TabG H Pt ∧
  ∀ p H', Sm Pt H H' → H' p = some (.tup ((List.range A.length).map fun k : Nat => sdV ((gR st A Kp (k : Int)).isSome != st))) → Q (.ref p) H'
/-! ### told_paper -/
def spTold (Pt : Addr) (st : Bool) : Sp := fun vs H Q _ => ∃ (v : V) (A : Ar) (g kp : Addr) (Kp : List Int), vs = [v, .ref g] ∧ ArIn H A v ∧ ArG A ∧ H g = some (.tup [goalW st, .ref kp]) ∧ H kp = some (.tup (Kp.map V.int)) ∧ GxR.TabG H Pt ∧
  ∀ p ls H', Sm Pt H H' → H' p = some (.tup ls) → PaperAt st H' A (gR st A Kp) A.length ls → Q (.ref p) H'
theorem ok_told_paper (T : Txt K mg) {c Pt : Addr} (TB : GxR.TabB base mg c Pt) (hc : T.dforces.code = .ref c) (st : Bool) : FnOk P w K mg base CX0 7 T.atold_paper T.dtold_paper Ptold_paper (spTold Pt st) := by
  have G_drafts := ok_drafts (P := P) (w := w) T TB hc st
  have GFitting___init__ := ok_Fitting___init__ (P := P) (w := w) (base := base) T st
  have G_pick := ok_pick (P := P) (w := w) (base := base) T st
  refine T.Ftold_paper.ok sctold_paper (fun vs H Q E h => ?_) (fun cdv A outer s H vs Q E hr h => ?_)
  · obtain ⟨v, A, g, kp, Kp, rfl, _⟩ := h
    rfl
  obtain ⟨v, A0, g, kp, Kp, rfl, hA, hG, eg, ek, hT, q⟩ := h
  have h46 := hG.1
  refine ⟨_, (pss_cons (ps_set (i := 2) sctold_paper.nd rfl (Or.inl rfl) (pe_call G_drafts (hr.mono (by omega)) (by rfl) T.m_drafts T.F_drafts.kp T.b_drafts .nil pass0 (pa_cons (pv 0) (pa_cons (pv 1) pa_nil))))
    (pss_cons (ps_set (i := 3) sctold_paper.nd rfl (Or.inr rfl) (pe_make T.mk_Fitting GFitting___init__ (hr.mono (by omega)) (by rfl) T.g_Fitting T.bFitting___init__ .nil pass0 (pa_cons (pv 0) (pa_cons (pv 1) (pa_cons (pv 2) pa_nil)))))
    (pss_one (ps_ret (pe_callTy call_tuple_of (by rfl) T.z_tuple (by decide +kernel) (pa_cons (pe_lc (own := [("at", 4), ("draft", 5)]) (g := (gTup K 2 (gCons (gName 4) (gCons (gName 5) gNil)))) (tt := tYes) rfl sctold_paper.nd (pi_enum (by rfl) T.z_enumerate (pa_cons (pv 2) pa_nil)) (blkOk_by (N := Ntold_paper) (sc := defScope stold_paper) (by decide +kernel)) (fun _ _ _ _ _ => (pg_tup rfl (pgs_cons (pg_name (i := 4) sctold_paper.nd rfl (Or.inl rfl)) (pgs_cons (pg_name (i := 5) sctold_paper.nd rfl (Or.inl rfl)) pgs_nil)))) (fun _ _ _ _ _ => pts_nil) (fun _ _ _ _ _ => (pe_op (op_catAK (K := K) rfl) (pv 5) (pe_tup (pa_cons (pe_call G_pick (hr.mono (by omega)) (by rfl) T.m_pick T.F_pick.kp T.b_pick .nil pass0 (pa_cons (pv 3) (pa_cons (pv 4) pa_nil))) pa_nil))))) pa_nil)))))), ?_⟩
  refine ⟨_, rfl, _, rfl, v, A0, g, kp, Kp, rfl, hA, hG, eg, ek, hT, fun lb ds H1 s1 k1 hds => ?_⟩
  have hdl := hds.1
  rw [List.length_map, List.length_range] at hdl
  have hA1 := hA.tp s1.tp
  have eg1 := s1.tup eg
  refine ⟨_, rfl, _, rfl, _, rfl, fun f dx hf hdx hne => ?_⟩
  have hfd : ∀ b o, H1 b = some o → b ≠ f ∧ b ≠ dx := fun b o e => ⟨fun z => (by rw [z, hf] at e; cases e), fun z => (by rw [z, hdx] at e; cases e)⟩
  refine ⟨f, dx, g, lb, v, _, rfl, upd_same, by rw [upd_ne (hfd _ _ eg1).1, upd_ne (hfd _ _ eg1).2]; exact eg1, fun H2 k2 fr2 => ⟨rfl, ?_⟩⟩
  have s2 : Same H1 H2 := fun b o e => fr2 b o (by rw [upd_ne (hfd _ _ e).1, upd_ne (hfd _ _ e).2]; exact e) (hfd _ _ e).1
  have hF : FitAt T.C_Fitting st H2 f A0 (gR st A0 Kp) lb := ⟨⟨dx, v, _, _, k2, hA1.tp (Tp.same s2)⟩, ds, s2 _ _ k1, hds.mono fun o x => LabIn.tp (Tp.same s2)⟩
  have sm2 : Sm Pt H H2 := s1.trans (.of s2)
  have k12 := s2 _ _ k1
  refine ⟨_, rfl, lb, _, rfl, sqd k12, fun L hL => ?_⟩
  refine lc_it (walk_enum (K := K) (a := lb) (xs := ds)) (fun (j : Nat) (H' : Hp) => Same H2 H' ∧ ∃ ls, H' L = some (.lst ls) ∧ PaperAt st H' A0 (gR st A0 Kp) j ls) ?_ ?_ ?_ ?_
  · exact ⟨same_new hL _, [], upd_same, rfl, fun k os hk => absurd hk (Nat.not_lt_zero k)⟩
  · rintro i H' _ ⟨s3, _⟩
    exact sqd (s3 _ _ k12)
  · rintro j x H3 H4 hj ⟨s3, ls, k3, hls⟩ ⟨t, x1, y1, rfl, ht, rfl, hx1, hy1⟩
    cases hx1
    have hjA : j < A0.length := by omega
    have hos := List.getElem?_eq_getElem hjA
    generalize A0[j] = os at hos
    have hy1 : ds[j]? = some y1 := hy1
    obtain ⟨t1, rfl, et1⟩ := (hds.mono fun o x => LabIn.tp (Tp.same s2)).2 j (gR st A0 Kp (j : Int)) y1 (by rw [List.getElem?_map, List.getElem?_range hjA]; rfl) hy1
    obtain ⟨H5, e5, s5, k5⟩ := newH ht (.tup [.int (j : Nat), V.ref t1])
    rw [e5]
    have s35 := s3.trans s5
    have hll := hls.1
    refine ⟨t, _, rfl, sqt k5, rfl, _, _, rfl, _, _, rfl, rfl, rfl, yes_if ?_⟩
    refine ⟨_, rfl, _, rfl, _, rfl, f, lb, A0, gR st A0 Kp, j, os, rfl, hF.same s35, hG, hos, pick_no hG.inA hos, pick_yes hG.inA hos, fun pk H6 s6 hpk => ?_⟩
    refine ⟨Nat.le_of_ble_eq_true rfl, fun tu htu => ?_⟩
    obtain ⟨H7, e7, s7, k7⟩ := newH htu (.tup [pk])
    rw [e7]
    have s37 := (s35.trans s6).trans s7
    refine catA_of (s37 _ _ et1) k7 (by cases gR st A0 Kp (j : Int) <;> exact Nat.le_of_ble_eq_true rfl) fun p8 H8 s8 k8 => ?_
    have d8 := (s5.trans (s6.trans (s7.trans s8))) _ _ k3
    refine ⟨ls, d8, big' (by omega), same_put (s37.trans s8) hL, _, upd_same, ?_⟩
    have tt : Tp H8 (upd H8 L (.lst (ls ++ [V.ref p8]))) := tp_put Tp.refl d8
    refine ⟨by rw [List.length_append, hll]; rfl, fun k os' hk ho => ?_⟩
    by_cases hkj : k < j
    · obtain ⟨v', h1, h2⟩ := hls.2 k os' hkj ho
      exact ⟨v', by rw [List.getElem?_append_left (by omega)]; exact h1, h2.tp ((Tp.same (s5.trans (s6.trans (s7.trans s8)))).trans tt)⟩
    · have : k = j := by omega
      subst this
      rw [hos] at ho
      cases ho
      refine ⟨.ref p8, by rw [List.getElem?_append_right (by omega), hll, Nat.sub_self]; rfl, p8, pk, rfl, tt _ _ k8, hpk.tp ((Tp.same (s7.trans s8)).trans tt)⟩
  · rintro H3 ⟨s3, ls, k3, hls⟩
    rw [hdl] at hls
    refine ⟨L, _, rfl, .inl ⟨sqd k3, fun t ht => ?_⟩⟩
    have s4 := same_new ht (.tup ls)
    exact q t ls _ (sm2.trans (.of (s3.trans s4))) upd_same (hls.tp (Tp.same s4))
end
end NL

set_option maxHeartbeats 4000000
namespace NL
open PySem PySem.Spec PyProof.Rows L2 RZ
/-! ### zip of a list and the empty tuple: it ends at once -/
section
variable {P : Program} {w : World} {A : Around} {E : Value → Shared → Prop} {s : Shared}
theorem mix_ends {q ti tu j1 j2 m1 m2 : Addr} {us ws : Array Value} {o1 o2 : Value} {Q : Fin → Shared → Prop} (cold : A.handled = none) (ap : ZipApart q ti tu j1 j2 m1 m2)
    (iq : IsZip s.heap q ti tu .none) (iti : IsPair s.heap ti (.ref j1) (.ref j2)) (itu : IsPair s.heap tu o1 o2) (f1 : s.heap.IsListIter j1 m1 0) (f2 : s.heap.IsTupleIter j2 m2 0)
    (r1 : s.heap.IsList m1 us) (r2 : s.heap.IsTuple m2 ws) (none2 : ws[0]? = none)
    (fin : ∀ g x, (∀ c o, c ≠ q → c ≠ tu → c ≠ j1 → c ≠ j2 → s.heap.get? c = some o → g.get? c = some o) → (∃ o, g.get? x = some o ∧ o.cls = .type "StopIteration") → E (.ref x) { s with heap := g }) :
    wpAny (model P w) A (Builtin.«zip.__next__» ⟨[.ref q], []⟩) Q E s := by
  show wpAny _ _ (field (.ref q) 2 >>= _) _ _ _
  refine wpAny_bind (wpAny_field iq rfl (x := .bool false) rfl ?_); show wpAny _ _ (field (.ref q) 3 >>= _) _ _ _
  refine wpAny_bind (wpAny_field iq rfl (x := .ref ti) rfl (wpAny_bind (wpAny_seqItems iti rfl ?_)))
  show wpAny _ _ (Builtin.SmallTypes.ownedTupleIsFree (.ref q) >>= _) _ _ _
  refine wpAny_bind ?_; unfold Builtin.SmallTypes.ownedTupleIsFree
  refine wpAny_bind (wpAny_field iq rfl (x := .none) rfl (wpAny_pure ?_)); simp only [if_true]
  refine wpAny_bind (wpAny_rule (wpAny_bind (wpAny_field iq rfl (x := .ref tu) rfl ?_)))
  refine wpAny_bind (wpAny_setField_rec iq (by simp) fun g1 iq1 k1 => ?_)
  replace iq1 : IsZip g1 q ti tu .ellipsis := iq1
  refine wpAny_bind ?_; simp only [List.zipIdx_cons, List.zipIdx_nil, List.forIn_cons, List.forIn_nil]
  refine wpAny_bind (wpAny_bind (wpAny_onRaise ?_)); show wpAny _ _ (Builtin.SmallTypes.nextOf (.ref j1) >>= _) _ _ _
  cases first : us[0]? with
  | none =>
    refine wpAny_bind (wpAny_nextOf_list_end cold (f1.extBut k1.extBut ap.i1z) (r1.extBut k1.extBut ap.l1z) first fun g2 x k2 ⟨ox, gx, cx⟩ => ?_)
    have iq2 : IsZip g2 q ti tu .ellipsis := k2 _ _ ap.i1z.symm iq1
    have nx : x ≠ q := fun e => by
      subst e
      rw [iq2] at gx
      cases gx
      simp at cx
    exact wpAny_setField_rec iq2 (by simp) fun g3 _ k3 => fin g3 x (fun c o n1 _ n3 _ e => k3.extBut _ _ n1 (k2 _ _ n3 (k1.extBut _ _ n1 e))) ⟨ox, k3.extBut _ _ nx gx, cx⟩
  | some v =>
    refine wpAny_bind (wpAny_nextOf_list_item (f1.extBut k1.extBut ap.i1z) (r1.extBut k1.extBut ap.l1z) first fun g2 f1' k2 => wpAny_pure ?_)
    have itu2 : IsPair g2 tu o1 o2 := k2.extBut _ _ ap.TOi1 (k1.extBut _ _ ap.TOz itu)
    refine wpAny_bind (wpAny_seqItems itu2 rfl (wpAny_bind (wpAny_updateSeq_pair itu2 fun g3 itu3 k3 => ?_)))
    refine wpAny_bind (wpAny_letGo (wpAny_pure (wpAny_bind (wpAny_bind (wpAny_onRaise ?_)))))
    show wpAny _ _ (Builtin.SmallTypes.nextOf (.ref j2) >>= _) _ _ _
    have f2' := ((f2.extBut k1.extBut ap.i2z).extBut k2.extBut ap.i12.symm).extBut k3.extBut ap.TOi2.symm
    have r2' := ((r2.extBut k1.extBut ap.l2z).extBut k2.extBut ap.l2i1).extBut k3.extBut ap.l2TO
    refine wpAny_bind (RZ.nextOf_tuple_end cold f2' r2' none2 fun g4 x k4 ⟨ox, gx, cx⟩ => ?_)
    have iq4 : IsZip g4 q ti tu .ellipsis := k4 _ _ ap.i2z.symm (k3.extBut _ _ ap.TOz.symm (k2.extBut _ _ ap.i1z.symm iq1))
    have nx : x ≠ q := fun e => by
      subst e
      rw [iq4] at gx
      cases gx
      simp at cx
    exact wpAny_setField_rec iq4 (by simp) fun g5 _ k5 => fin g5 x (fun c o n1 n2 n3 n4 e => k5.extBut _ _ n1 (k4 _ _ n4 (k3.extBut _ _ n2 (k2.extBut _ _ n3 (k1.extBut _ _ n1 e))))) ⟨ox, k5.extBut _ _ nx gx, cx⟩
theorem mix_stop {q ti tu j1 j2 m1 m2 : Addr} {us ws : Array Value} {o1 o2 : Value} {Q : Option Value → Shared → Prop} (cold : A.handled = none) (ap : ZipApart q ti tu j1 j2 m1 m2)
    (iq : IsZip s.heap q ti tu .none) (iti : IsPair s.heap ti (.ref j1) (.ref j2)) (itu : IsPair s.heap tu o1 o2) (f1 : s.heap.IsListIter j1 m1 0) (f2 : s.heap.IsTupleIter j2 m2 0)
    (r1 : s.heap.IsList m1 us) (r2 : s.heap.IsTuple m2 ws) (none2 : ws[0]? = none)
    (fin : ∀ g, (∀ c o, c ≠ q → c ≠ tu → c ≠ j1 → c ≠ j2 → s.heap.get? c = some o → g.get? c = some o) → Q none { s with heap := g }) : wpAny (model P w) A (pyNext (.ref q)) Q E s := by
  have ty : s.TypeIs (.ref q) "zip" := ⟨_, iq, rfl⟩
  unfold pyNext
  refine wpAny_bind (wpAny_attempt (wpAny_callSpecial?_slot (name := Str.ofString "__next__") ty F.slot_zip_next (wpAny_call_entry F.slot_zip_next ty F.entry_zip_next (mix_ends cold ap iq iti itu f1 f2 r1 r2 none2 fun g x k ⟨o, go, co⟩ => ?_) (F.args_zip_next_1 _))))
  exact wpAny_bind (wpAny_isInstance (T := "StopIteration") (b := true) ⟨o, go, co⟩ isSubtype_stop (wpAny_pure (fin _ k)))
end
abbrev mixA (h : Heap) (m1 : Addr) : Heap := h.push { cls := .type "list_iterator", data := .fields #[.ref m1, .int 0 0] }
abbrev mixB (h : Heap) (m1 m2 : Addr) : Heap := (mixA h m1).push { cls := .type "tuple_iterator", data := .fields #[.ref m2, .int 0 0] }
abbrev mixC (h : Heap) (m1 m2 : Addr) : Heap := (mixB h m1 m2).push { cls := .type "tuple", data := .seq #[.ref h.objs.size, .ref (mixA h m1).objs.size] }
abbrev mixD (h : Heap) (m1 m2 : Addr) : Heap := (mixC h m1 m2).push { cls := .type "tuple", data := .seq #[.none, .none] }
abbrev mixE (h : Heap) (m1 m2 : Addr) : Heap := (mixD h m1 m2).push { cls := .type "zip", data := .fields #[.none, .bool false, .bool false, .ref (mixB h m1 m2).objs.size, .ref (mixC h m1 m2).objs.size] }
theorem mix_new (m1 m2 : Addr) (us ws : Array Value) : Meets (Builtin.«zip.__new__» ⟨[.type "zip", .ref m1, .ref m2], []⟩) (fun _ R s => s.heap.IsList m1 us ∧ s.heap.IsTuple m2 ws ∧ R (.ok (.ret (.ref (mixD s.heap m1 m2).objs.size))) { s with heap := mixE s.heap m1 m2 }) :=
  .of_wp fun P w A R s r => by
    obtain ⟨hp, gs, dr, tk, os⟩ := s
    obtain ⟨r1, r2, r⟩ := r
    have hsub := sub_zip
    have R1 : Heap.IsList (Shared.heap ⟨hp, gs, dr, tk, os⟩) m1 us := r1
    have R2 : Heap.IsTuple (Shared.heap ⟨hp.push { cls := .type "list_iterator", data := .fields #[.ref m1, .int 0 0] }, gs, dr, tk, os⟩) m2 ws := Heap.IsTuple.push r2 _
    wp_walk using wpAny_pyIter_list R1, wpAny_pyIter_tuple R2
    exact ⟨_, rfl, r⟩
section
variable {P : Program} {w : World} {A : Around} {E : Value → Shared → Prop} {s : Shared}
theorem mix_call {m1 m2 : Addr} {us ws : Array Value} {Q : Value → Shared → Prop} (r1 : s.heap.IsList m1 us) (r2 : s.heap.IsTuple m2 ws)
    (k : ∀ g, IsZip g (s.heap.objs.size + 4) (s.heap.objs.size + 2) (s.heap.objs.size + 3) .none → IsPair g (s.heap.objs.size + 2) (.ref s.heap.objs.size) (.ref (s.heap.objs.size + 1)) → IsPair g (s.heap.objs.size + 3) .none .none →
      g.IsListIter s.heap.objs.size m1 0 → g.IsTupleIter (s.heap.objs.size + 1) m2 0 → (∀ c o, s.heap.get? c = some o → g.get? c = some o) → Q (.ref (s.heap.objs.size + 4)) { s with heap := g }) :
    wpAny (model P w) A (call (.type "zip") [.ref m1, .ref m2]) Q E s := by
  refine callType_new F.called_zip (by decide) (F.typeCall_zip_2 _ _) (F.newCall_zip_2 _ _) (fun obj => F.args_object_init_3 obj _ _) F.entry_zip_new (mix_new m1 m2 us ws) ⟨r1, r2, ?_⟩
  have a1 : (mixA s.heap m1).objs.size = s.heap.objs.size + 1 := Heap.size_push ..
  have a2 : (mixB s.heap m1 m2).objs.size = s.heap.objs.size + 2 := by rw [Heap.size_push, a1]
  have a3 : (mixC s.heap m1 m2).objs.size = s.heap.objs.size + 3 := by rw [Heap.size_push, a2]
  have a4 : (mixD s.heap m1 m2).objs.size = s.heap.objs.size + 4 := by rw [Heap.size_push, a3]
  have b5 : (mixE s.heap m1 m2).get? (mixD s.heap m1 m2).objs.size = some _ := Heap.get?_push_size _ rfl
  have b4 : (mixE s.heap m1 m2).get? (mixC s.heap m1 m2).objs.size = some _ := Heap.get?_push_of_some _ (Heap.get?_push_size _ rfl)
  have b3 : (mixE s.heap m1 m2).get? (mixB s.heap m1 m2).objs.size = some _ := Heap.get?_push_of_some _ (Heap.get?_push_of_some _ (Heap.get?_push_size _ rfl))
  have b2 : (mixE s.heap m1 m2).get? (mixA s.heap m1).objs.size = some _ := Heap.get?_push_of_some _ (Heap.get?_push_of_some _ (Heap.get?_push_of_some _ (Heap.get?_push_size _ rfl)))
  have b1 : (mixE s.heap m1 m2).get? s.heap.objs.size = some _ := Heap.get?_push_of_some _ (Heap.get?_push_of_some _ (Heap.get?_push_of_some _ (Heap.get?_push_of_some _ (Heap.get?_push_size _ rfl))))
  show _ ∧ _
  rw [a2, a3, a4] at b5
  rw [a1, a2] at b3
  rw [a3] at b4
  rw [a1] at b2
  rw [a4]
  exact ⟨⟨_, b5, rfl⟩, k _ b5 b3 b4 ⟨_, b1, rfl, rfl⟩ ⟨_, b2, rfl, rfl⟩ fun c o e => Heap.get?_push_of_some _ (Heap.get?_push_of_some _ (Heap.get?_push_of_some _ (Heap.get?_push_of_some _ (Heap.get?_push_of_some _ e))))⟩
end
/-- no turn at all -/
def ItM (K : PySem.W.Frag) (a b : Addr) : It := ⟨fun _ _ => False, fun _ _ _ _ => False, fun i H => i = 0 ∧ (∃ xs : List V, SqL K H a xs) ∧ SqT K H b []⟩
theorem turn_mix {P : Program} {w : World} {K : PySem.W.Frag} {elts : List Expr} {kk : Nat} {tpos : Pos} {a b q ti tu j1 j2 : Addr} (ap : ZipApart q ti tu j1 j2 a b) :
    Turn P w K (.Tuple elts kk tpos) (ItM K a b) [q, ti, tu, j1, j2] q (fun i h => i = 0 ∧ IsZip h q ti tu .none ∧ IsPair h ti (.ref j1) (.ref j2) ∧ (∃ x y, IsPair h tu x y) ∧ h.IsListIter j1 a 0 ∧ h.IsTupleIter j2 b 0) where
  mem := by simp
  obj := fun i h ⟨_, iq, iti, ⟨x, y, itu⟩, ⟨o1, e1, _, d1⟩, ⟨o2, e2, _, d2⟩⟩ c hc => by
    have which : c = q ∨ c = ti ∨ c = tu ∨ c = j1 ∨ c = j2 := by simpa using hc
    rcases which with rfl | rfl | rfl | rfl | rfl
    · exact ⟨_, iq, fun v z => nomatch z⟩
    · exact ⟨_, iti, fun v z => nomatch z⟩
    · exact ⟨_, itu, fun v z => nomatch z⟩
    · exact ⟨o1, e1, fun v z => by rw [d1] at z; cases z⟩
    · exact ⟨o2, e2, fun v z => by rw [d2] at z; cases z⟩
  keep := fun i h g ⟨i0, iq, iti, ⟨x, y, itu⟩, f1, f2⟩ k => ⟨i0, k q (by simp) _ iq, k ti (by simp) _ iti, ⟨x, y, k tu (by simp) _ itu⟩, f1.at fun o e => k j1 (by simp) o e, f2.at fun o e => k j2 (by simp) o e⟩
  item := fun X _ _ _ _ i pins s σ H E _ _ _ no => no.elim
  done := by
    intro X e1 e2 e3 calm i pins s σ H E I fp st stop
    subst e1 e2 e3
    obtain ⟨_, iq, iti, ⟨x0, y0, itu⟩, f1, f2⟩ := st
    obtain ⟨_, ⟨xs, hx⟩, hy⟩ := stop
    obtain ⟨its, rv, p, _⟩ := I.list hx
    obtain ⟨its2, rv2, p2, _⟩ := I.tuple hy
    have l2 := rv2.length
    refine mix_stop (I.ok.hd calm) ap iq iti itu f1 f2 p.isList p2 (by simp at l2; simp [l2]) fun g k => ⟨rfl, I.turnedL (t' := s.toks) (ch := [q, ti, tu, j1, j2]) (fun c o out e => k c o (fun z => out (by simp [z])) (fun z => out (by simp [z])) (fun z => out (by simp [z])) (fun z => out (by simp [z])) e) fp⟩
  self := fun A i s Q E st h => wpAny_pyIter_zip st.2.1 h
def iZipM (K : PySem.W.Frag) (ta : TA) : TI := fun σ H R => ta σ H fun vs H1 => ∃ a b xs, vs = [.ref a, .ref b] ∧ SqL K H1 a xs ∧ SqT K H1 b [] ∧ R (ItM K a b) H1
theorem pi_zipM {X : Cx} {e e2 : Expr} {ta : TA} {p pos tpos : Pos} {elts : List Expr} {kk : Nat} (hg : Gl X "zip") (hm : X.mg "zip" = none) (ha : PA X [e, e2] ta)
    (star : starEach [e, e2] X.env = (false, eval e X.env) :: starEach [e2] X.env := by rfl) (plain : (backTo pos (starEach [e2] X.env)).any (·.1) = false := by rfl) :
    PI X (.Tuple elts kk tpos) (.Call (.Name "zip" p) [e, e2] [] pos) (iZipM X.K ta) := by
  refine ⟨fun pins s σ H R I h => ?_⟩
  refine Call_ (ld_blt I hg hm PyProof.Rows.boot_zip (PyProof.Rows.callWith_type1 (thn (ha.run pos pins s σ H _ I h) fun us s1 ⟨vs, H1, I1, r1, q1⟩ => ?_) star plain))
  obtain ⟨a, b, xs, ex, hx, hy, q1⟩ := q1
  subst ex
  cases r1 with
  | cons ra rr =>
    cases rr with
    | cons rb rr =>
      cases rr
      cases ra
      cases rb
      have five : ∀ c, c ∈ [s1.heap.objs.size + 4, s1.heap.objs.size + 2, s1.heap.objs.size + 3, s1.heap.objs.size, s1.heap.objs.size + 1] → FpOk X pins H1 c := fun c hc => by
        have le : s1.heap.objs.size ≤ c := by
          simp only [List.mem_cons, List.not_mem_nil, or_false] at hc
          rcases hc with rfl | rfl | rfl | rfl | rfl <;> first | exact Nat.le_refl _ | exact Nat.le_add_right _ _
        exact I1.fpOk le (I1.hok.fresh le)
      obtain ⟨its, rv, p1, _⟩ := I1.list hx
      obtain ⟨its2, rv2, p2, _⟩ := I1.tuple hy
      obtain ⟨o2, g2, _⟩ := id p2
      refine mix_call p1.isList (show s1.heap.IsTuple b its2.toArray from p2) fun g iq iti itu f1 f2 kept => wpAny_pyIter_zip iq ?_
      have I2 : Inv X pins σ H1 { s1 with heap := g } := I1.kept (t' := s1.toks) kept
      exact ⟨s1.heap.objs.size + 4, _, _, _, H1, rfl, I2, turn_mix (PySem.W.ktu_apart s1.heap.objs.size a b p1.lt (Heap.lt_size g2)), ⟨rfl, iq, iti, ⟨_, _, itu⟩, f1, f2⟩, five, q1⟩
/-- a loop that makes no turn -/
theorem for_none {K : PySem.W.Frag} {a b : Addr} {xs : List V} {g : TG} {tb : TS} {D : Ends} {σ : L2.St} {H : Hp} (hx : SqL K H a xs) (hy : SqT K H b []) (hd : D.nx σ H) :
    ∃ W : Nat → Nat → L2.St → Hp → Prop, (∃ m, W 0 m σ H) ∧ ∀ i m σ H, W i m σ H →
      ((ItM K a b).stop i H ∧ D.nx σ H) ∨ ((ItM K a b).go i H ∧ ∃ N : L2.St → Hp → Prop, (∀ σ' H', N σ' H' → ∃ m', m' < m ∧ W (i + 1) m' σ' H') ∧ ∀ v H', (ItM K a b).yld i H v H' → g v σ H' fun σ2 H2 => tb { D with nx := N, ct := N, bk := D.nx } σ2 H2) := by
  refine ⟨fun i m σ' H' => i = 0 ∧ σ' = σ ∧ H' = H, ⟨0, rfl, rfl, rfl⟩, ?_⟩
  rintro i m σ' H' ⟨rfl, rfl, rfl⟩
  exact .inl ⟨⟨rfl, ⟨xs, hx⟩, hy⟩, hd⟩
/-- loops over zip of two lists, or of two tuples, of any lengths -/
theorem for_zips {K : PySem.W.Frag} {a b : Addr} {xs ys : List V} {g : TG} {tb : TS} {D : Ends} {σ : L2.St} {H : Hp} (n : Nat) (hn : n = min xs.length ys.length) (Pv : Nat → L2.St → Hp → Prop) (h0 : Pv 0 σ H) (hq : ∀ i σ H, Pv i σ H → SqL K H a xs ∧ SqL K H b ys)
    (hs : ∀ (i : Nat) (x y : V) (t : Addr) (σ : L2.St) (H : Hp), xs[i]? = some x → ys[i]? = some y → Pv i σ H → H t = none → g (.ref t) σ (upd H t (.tup [x, y])) fun σ2 H2 => tb { D with nx := Pv (i + 1), ct := Pv (i + 1), bk := D.nx } σ2 H2) (hd : ∀ σ H, Pv n σ H → D.nx σ H) :
    ∃ W : Nat → Nat → L2.St → Hp → Prop, (∃ m, W 0 m σ H) ∧ ∀ i m σ H, W i m σ H →
      ((Itz K a b).stop i H ∧ D.nx σ H) ∨ ((Itz K a b).go i H ∧ ∃ N : L2.St → Hp → Prop, (∀ σ' H', N σ' H' → ∃ m', m' < m ∧ W (i + 1) m' σ' H') ∧ ∀ v H', (Itz K a b).yld i H v H' → g v σ H' fun σ2 H2 => tb { D with nx := N, ct := N, bk := D.nx } σ2 H2) := by
  refine ⟨fun i m σ H => m + i = n ∧ Pv i σ H, ⟨n, rfl, h0⟩, ?_⟩
  rintro i m σ H ⟨hi, p⟩
  obtain ⟨qx, qy⟩ := hq i σ H p
  by_cases lt : i < n
  · have ex : xs[i]? = some xs[i] := List.getElem?_eq_getElem (by omega)
    have ey : ys[i]? = some ys[i] := List.getElem?_eq_getElem (by omega)
    refine .inr ⟨⟨xs, ys, _, _, qx, qy, ex, ey⟩, Pv (i + 1), fun σ' H' p' => ⟨m - 1, by omega, by omega, p'⟩, fun v H' y => ?_⟩
    obtain ⟨t, x1, y1, rfl, ht, rfl, f1, f2⟩ := y
    exact hs i x1 y1 t σ H (f1 xs qx) (f2 ys qy) p ht
  · have e : i = n := by omega
    subst e
    exact .inl ⟨⟨xs, ys, qx, qy, by omega⟩, hd σ H p⟩
theorem for_zipsT {K : PySem.W.Frag} {a b : Addr} {xs ys : List V} {g : TG} {tb : TS} {D : Ends} {σ : L2.St} {H : Hp} (n : Nat) (hn : n = min xs.length ys.length) (Pv : Nat → L2.St → Hp → Prop) (h0 : Pv 0 σ H) (hq : ∀ i σ H, Pv i σ H → SqT K H a xs ∧ SqT K H b ys)
    (hs : ∀ (i : Nat) (x y : V) (t : Addr) (σ : L2.St) (H : Hp), xs[i]? = some x → ys[i]? = some y → Pv i σ H → H t = none → g (.ref t) σ (upd H t (.tup [x, y])) fun σ2 H2 => tb { D with nx := Pv (i + 1), ct := Pv (i + 1), bk := D.nx } σ2 H2) (hd : ∀ σ H, Pv n σ H → D.nx σ H) :
    ∃ W : Nat → Nat → L2.St → Hp → Prop, (∃ m, W 0 m σ H) ∧ ∀ i m σ H, W i m σ H →
      ((ItzT K a b).stop i H ∧ D.nx σ H) ∨ ((ItzT K a b).go i H ∧ ∃ N : L2.St → Hp → Prop, (∀ σ' H', N σ' H' → ∃ m', m' < m ∧ W (i + 1) m' σ' H') ∧ ∀ v H', (ItzT K a b).yld i H v H' → g v σ H' fun σ2 H2 => tb { D with nx := N, ct := N, bk := D.nx } σ2 H2) := by
  refine ⟨fun i m σ H => m + i = n ∧ Pv i σ H, ⟨n, rfl, h0⟩, ?_⟩
  rintro i m σ H ⟨hi, p⟩
  obtain ⟨qx, qy⟩ := hq i σ H p
  by_cases lt : i < n
  · have ex : xs[i]? = some xs[i] := List.getElem?_eq_getElem (by omega)
    have ey : ys[i]? = some ys[i] := List.getElem?_eq_getElem (by omega)
    refine .inr ⟨⟨xs, ys, _, _, qx, qy, ex, ey⟩, Pv (i + 1), fun σ' H' p' => ⟨m - 1, by omega, by omega, p'⟩, fun v H' y => ?_⟩
    obtain ⟨t, x1, y1, rfl, ht, rfl, f1, f2⟩ := y
    exact hs i x1 y1 t σ H (f1 xs qx) (f2 ys qy) p ht
  · have e : i = n := by omega
    subst e
    exact .inl ⟨⟨xs, ys, qx, qy, by omega⟩, hd σ H p⟩
end NL

set_option maxHeartbeats 4000000
namespace NL
open PySem PySem.Spec PyProof.Rows L2 RZ
/-! ### zip of a list and a tuple, whatever stands in them -/
section
variable {P : Program} {w : World} {A : Around} {E : Value → Shared → Prop} {s : Shared}
/-- one turn: a new pair at the heap's end -/
theorem mix_gives {q ti tu j1 j2 m1 m2 : Addr} {n1 n2 : Nat} {us ws : Array Value} {u v o1 o2 : Value} {Q : Value → Shared → Prop} (ap : ZipApart q ti tu j1 j2 m1 m2)
    (iq : IsZip s.heap q ti tu .none) (iti : IsPair s.heap ti (.ref j1) (.ref j2)) (itu : IsPair s.heap tu o1 o2) (f1 : s.heap.IsListIter j1 m1 n1) (f2 : s.heap.IsTupleIter j2 m2 n2)
    (r1 : s.heap.IsList m1 us) (r2 : s.heap.IsTuple m2 ws) (at1 : us[n1]? = some u) (at2 : ws[n2]? = some v)
    (out : ∀ g, IsZip g q ti tu (rawInt s.heap.objs.size) → IsPair g tu u v → g.IsListIter j1 m1 (n1 + 1) → g.IsTupleIter j2 m2 (n2 + 1) → IsPair g s.heap.objs.size u v → g.objs.size = s.heap.objs.size + 1 →
      (∀ c o, c ≠ q → c ≠ tu → c ≠ j1 → c ≠ j2 → s.heap.get? c = some o → g.get? c = some o) → Q (.ref s.heap.objs.size) { s with heap := g }) :
    wpAny (model P w) A (Builtin.«zip.__next__» ⟨[.ref q], []⟩) (fun fin s' => ∃ z, fin = .done (.ret z) ∧ Q z s') E s := by
  show wpAny _ _ (field (.ref q) 2 >>= _) _ _ _
  refine wpAny_bind (wpAny_field iq rfl (x := .bool false) rfl ?_); show wpAny _ _ (field (.ref q) 3 >>= _) _ _ _
  refine wpAny_bind (wpAny_field iq rfl (x := .ref ti) rfl (wpAny_bind (wpAny_seqItems iti rfl ?_)))
  show wpAny _ _ (Builtin.SmallTypes.ownedTupleIsFree (.ref q) >>= _) _ _ _
  refine wpAny_bind ?_; unfold Builtin.SmallTypes.ownedTupleIsFree
  refine wpAny_bind (wpAny_field iq rfl (x := .none) rfl (wpAny_pure ?_)); simp only [if_true]
  refine wpAny_bind (wpAny_rule (wpAny_bind (wpAny_field iq rfl (x := .ref tu) rfl ?_)))
  refine wpAny_bind (wpAny_setField_rec iq (by simp) fun g1 iq1 k1 => ?_)
  replace iq1 : IsZip g1 q ti tu .ellipsis := iq1
  refine wpAny_bind ?_; simp only [List.zipIdx_cons, List.zipIdx_nil, List.forIn_cons, List.forIn_nil]
  refine wpAny_bind (wpAny_bind (wpAny_onRaise ?_)); show wpAny _ _ (Builtin.SmallTypes.nextOf (.ref j1) >>= _) _ _ _
  refine wpAny_bind (wpAny_nextOf_list_item (f1.extBut k1.extBut ap.i1z) (r1.extBut k1.extBut ap.l1z) at1 fun g2 f1' k2 => wpAny_pure ?_)
  have itu2 : IsPair g2 tu o1 o2 := k2.extBut _ _ ap.TOi1 (k1.extBut _ _ ap.TOz itu)
  refine wpAny_bind (wpAny_seqItems itu2 rfl (wpAny_bind (wpAny_updateSeq_pair itu2 fun g3 itu3 k3 => ?_)))
  replace itu3 : IsPair g3 tu u o2 := itu3
  refine wpAny_bind (wpAny_letGo (wpAny_pure (wpAny_bind (wpAny_bind (wpAny_onRaise ?_)))))
  show wpAny _ _ (Builtin.SmallTypes.nextOf (.ref j2) >>= _) _ _ _
  have f2' := ((f2.extBut k1.extBut ap.i2z).extBut k2.extBut ap.i12.symm).extBut k3.extBut ap.TOi2.symm
  have r2' := ((r2.extBut k1.extBut ap.l2z).extBut k2.extBut ap.l2i1).extBut k3.extBut ap.l2TO
  refine wpAny_bind (RZ.nextOf_tuple_item f2' r2' at2 fun g4 f2'' k4 => wpAny_pure ?_)
  have itu4 : IsPair g4 tu u o2 := k4.extBut _ _ ap.TOi2 itu3
  refine wpAny_bind (wpAny_seqItems itu4 rfl (wpAny_bind (wpAny_updateSeq_pair itu4 fun g5 itu5 k5 => ?_)))
  replace itu5 : IsPair g5 tu u v := itu5
  refine wpAny_bind (wpAny_letGo (wpAny_pure (wpAny_pure ?_)))
  refine wpAny_bind (wpAny_seqItems itu5 rfl (wpAny_bind (wpAny_newTuple ?_)))
  have size5 : g5.objs.size = s.heap.objs.size := by rw [k5.1, k4.1, k3.1, k2.1, k1.1]
  have iq5 : IsZip g5 q ti tu .ellipsis := k5.extBut _ _ ap.TOz.symm (k4.extBut _ _ ap.i2z.symm (k3.extBut _ _ ap.TOz.symm (k2.extBut _ _ ap.i1z.symm iq1)))
  have kept5 : ∀ c o, c ≠ q → c ≠ tu → c ≠ j1 → c ≠ j2 → s.heap.get? c = some o → g5.get? c = some o := fun c o n1 n2 n3 n4 e => k5.extBut _ _ n2 (k4.extBut _ _ n4 (k3.extBut _ _ n2 (k2.extBut _ _ n3 (k1.extBut _ _ n1 e))))
  have f15 : g5.IsListIter j1 m1 (n1 + 1) := ((f1'.extBut k3.extBut ap.TOi1.symm).extBut k4.extBut ap.i12).extBut k5.extBut ap.TOi1.symm
  have f25 : g5.IsTupleIter j2 m2 (n2 + 1) := f2''.extBut k5.extBut ap.TOi2.symm
  have qlt : q < g5.objs.size := Heap.lt_size iq5
  show wpAny _ _ (Builtin.SmallTypes.ownedTupleHandOut (.ref q) (.ref g5.objs.size) >>= _) _ _ _
  refine wpAny_bind ?_
  unfold Builtin.SmallTypes.ownedTupleHandOut
  have iq6 : IsZip (g5.push { cls := .type "tuple", data := .seq #[u, v] }) q ti tu .ellipsis := Heap.get?_push_of_some _ iq5
  refine wpAny_bind (wpAny_setField_rec iq6 (by simp) fun g7 iq7 k7 => ?_)
  replace iq7 : IsZip g7 q ti tu (rawInt g5.objs.size) := iq7
  refine wpAny_setField_rec iq7 (by simp) fun g8 iq8 k8 => ?_
  replace iq8 : IsZip g8 q ti tu (rawInt g5.objs.size) := iq8
  have up : ∀ c o, c ≠ q → g5.get? c = some o → g8.get? c = some o := fun c o ne e => k8.extBut _ _ ne (k7.extBut _ _ ne (Heap.get?_push_of_some _ e))
  have pair8 : IsPair g8 g5.objs.size u v := k8.extBut _ _ (Nat.ne_of_gt qlt) (k7.extBut _ _ (Nat.ne_of_gt qlt) (Heap.get?_push_size _ rfl))
  have size8 : g8.objs.size = g5.objs.size + 1 := by rw [k8.1, k7.1, Heap.size_push]
  rw [size5] at iq8 pair8 size8
  refine wpAny_pure ⟨_, rfl, ?_⟩
  show Q (.ref g5.objs.size) _
  rw [size5]
  exact out g8 iq8 (up _ _ ap.TOz itu5) (f15.at fun o e => up _ o ap.i1z e) (f25.at fun o e => up _ o ap.i2z e) pair8 size8 fun c o n1 n2 n3 n4 e => up c o n1 (kept5 c o n1 n2 n3 n4 e)
theorem mix_next {q ti tu j1 j2 m1 m2 : Addr} {n1 n2 : Nat} {us ws : Array Value} {u v o1 o2 : Value} {Q : Option Value → Shared → Prop} (ap : ZipApart q ti tu j1 j2 m1 m2)
    (iq : IsZip s.heap q ti tu .none) (iti : IsPair s.heap ti (.ref j1) (.ref j2)) (itu : IsPair s.heap tu o1 o2) (f1 : s.heap.IsListIter j1 m1 n1) (f2 : s.heap.IsTupleIter j2 m2 n2)
    (r1 : s.heap.IsList m1 us) (r2 : s.heap.IsTuple m2 ws) (at1 : us[n1]? = some u) (at2 : ws[n2]? = some v)
    (out : ∀ g, IsZip g q ti tu (rawInt s.heap.objs.size) → IsPair g tu u v → g.IsListIter j1 m1 (n1 + 1) → g.IsTupleIter j2 m2 (n2 + 1) → IsPair g s.heap.objs.size u v → g.objs.size = s.heap.objs.size + 1 →
      (∀ c o, c ≠ q → c ≠ tu → c ≠ j1 → c ≠ j2 → s.heap.get? c = some o → g.get? c = some o) → Q (some (.ref s.heap.objs.size)) { s with heap := g }) : wpAny (model P w) A (pyNext (.ref q)) Q E s := by
  have ty : s.TypeIs (.ref q) "zip" := ⟨_, iq, rfl⟩
  unfold pyNext
  exact wpAny_bind (wpAny_attempt (wpAny_callSpecial?_slot (name := Str.ofString "__next__") ty F.slot_zip_next (wpAny_call_entry F.slot_zip_next ty F.entry_zip_next (mix_gives ap iq iti itu f1 f2 r1 r2 at1 at2 fun g a1 a2 a3 a4 a5 a6 a7 => wpAny_pure (out g a1 a2 a3 a4 a5 a6 a7)) (F.args_zip_next_1 _))))
theorem mix_endsN {q ti tu j1 j2 m1 m2 : Addr} {n1 n2 : Nat} {us ws : Array Value} {o1 o2 : Value} {Q : Fin → Shared → Prop} (cold : A.handled = none) (ap : ZipApart q ti tu j1 j2 m1 m2)
    (iq : IsZip s.heap q ti tu .none) (iti : IsPair s.heap ti (.ref j1) (.ref j2)) (itu : IsPair s.heap tu o1 o2) (f1 : s.heap.IsListIter j1 m1 n1) (f2 : s.heap.IsTupleIter j2 m2 n2)
    (r1 : s.heap.IsList m1 us) (r2 : s.heap.IsTuple m2 ws) (ends : us[n1]? = none ∨ ws[n2]? = none)
    (fin : ∀ g x, (∀ c o, c ≠ q → c ≠ tu → c ≠ j1 → c ≠ j2 → s.heap.get? c = some o → g.get? c = some o) → (∃ o, g.get? x = some o ∧ o.cls = .type "StopIteration") → E (.ref x) { s with heap := g }) :
    wpAny (model P w) A (Builtin.«zip.__next__» ⟨[.ref q], []⟩) Q E s := by
  show wpAny _ _ (field (.ref q) 2 >>= _) _ _ _
  refine wpAny_bind (wpAny_field iq rfl (x := .bool false) rfl ?_); show wpAny _ _ (field (.ref q) 3 >>= _) _ _ _
  refine wpAny_bind (wpAny_field iq rfl (x := .ref ti) rfl (wpAny_bind (wpAny_seqItems iti rfl ?_)))
  show wpAny _ _ (Builtin.SmallTypes.ownedTupleIsFree (.ref q) >>= _) _ _ _
  refine wpAny_bind ?_; unfold Builtin.SmallTypes.ownedTupleIsFree
  refine wpAny_bind (wpAny_field iq rfl (x := .none) rfl (wpAny_pure ?_)); simp only [if_true]
  refine wpAny_bind (wpAny_rule (wpAny_bind (wpAny_field iq rfl (x := .ref tu) rfl ?_)))
  refine wpAny_bind (wpAny_setField_rec iq (by simp) fun g1 iq1 k1 => ?_)
  replace iq1 : IsZip g1 q ti tu .ellipsis := iq1
  refine wpAny_bind ?_; simp only [List.zipIdx_cons, List.zipIdx_nil, List.forIn_cons, List.forIn_nil]
  refine wpAny_bind (wpAny_bind (wpAny_onRaise ?_)); show wpAny _ _ (Builtin.SmallTypes.nextOf (.ref j1) >>= _) _ _ _
  cases first : us[n1]? with
  | none =>
    refine wpAny_bind (wpAny_nextOf_list_end cold (f1.extBut k1.extBut ap.i1z) (r1.extBut k1.extBut ap.l1z) first fun g2 x k2 ⟨ox, gx, cx⟩ => ?_)
    have iq2 : IsZip g2 q ti tu .ellipsis := k2 _ _ ap.i1z.symm iq1
    have nx : x ≠ q := fun e => by
      subst e
      rw [iq2] at gx
      cases gx
      simp at cx
    exact wpAny_setField_rec iq2 (by simp) fun g3 _ k3 => fin g3 x (fun c o n1 _ n3 _ e => k3.extBut _ _ n1 (k2 _ _ n3 (k1.extBut _ _ n1 e))) ⟨ox, k3.extBut _ _ nx gx, cx⟩
  | some v =>
    have none2 : ws[n2]? = none := ends.resolve_left (fun e => by rw [first] at e; cases e)
    refine wpAny_bind (wpAny_nextOf_list_item (f1.extBut k1.extBut ap.i1z) (r1.extBut k1.extBut ap.l1z) first fun g2 f1' k2 => wpAny_pure ?_)
    have itu2 : IsPair g2 tu o1 o2 := k2.extBut _ _ ap.TOi1 (k1.extBut _ _ ap.TOz itu)
    refine wpAny_bind (wpAny_seqItems itu2 rfl (wpAny_bind (wpAny_updateSeq_pair itu2 fun g3 itu3 k3 => ?_)))
    refine wpAny_bind (wpAny_letGo (wpAny_pure (wpAny_bind (wpAny_bind (wpAny_onRaise ?_)))))
    show wpAny _ _ (Builtin.SmallTypes.nextOf (.ref j2) >>= _) _ _ _
    have f2' := ((f2.extBut k1.extBut ap.i2z).extBut k2.extBut ap.i12.symm).extBut k3.extBut ap.TOi2.symm
    have r2' := ((r2.extBut k1.extBut ap.l2z).extBut k2.extBut ap.l2i1).extBut k3.extBut ap.l2TO
    refine wpAny_bind (RZ.nextOf_tuple_end cold f2' r2' none2 fun g4 x k4 ⟨ox, gx, cx⟩ => ?_)
    have iq4 : IsZip g4 q ti tu .ellipsis := k4 _ _ ap.i2z.symm (k3.extBut _ _ ap.TOz.symm (k2.extBut _ _ ap.i1z.symm iq1))
    have nx : x ≠ q := fun e => by
      subst e
      rw [iq4] at gx
      cases gx
      simp at cx
    exact wpAny_setField_rec iq4 (by simp) fun g5 _ k5 => fin g5 x (fun c o n1 n2 n3 n4 e => k5.extBut _ _ n1 (k4 _ _ n4 (k3.extBut _ _ n2 (k2.extBut _ _ n3 (k1.extBut _ _ n1 e))))) ⟨ox, k5.extBut _ _ nx gx, cx⟩
theorem mix_stopN {q ti tu j1 j2 m1 m2 : Addr} {n1 n2 : Nat} {us ws : Array Value} {o1 o2 : Value} {Q : Option Value → Shared → Prop} (cold : A.handled = none) (ap : ZipApart q ti tu j1 j2 m1 m2)
    (iq : IsZip s.heap q ti tu .none) (iti : IsPair s.heap ti (.ref j1) (.ref j2)) (itu : IsPair s.heap tu o1 o2) (f1 : s.heap.IsListIter j1 m1 n1) (f2 : s.heap.IsTupleIter j2 m2 n2)
    (r1 : s.heap.IsList m1 us) (r2 : s.heap.IsTuple m2 ws) (ends : us[n1]? = none ∨ ws[n2]? = none)
    (fin : ∀ g, (∀ c o, c ≠ q → c ≠ tu → c ≠ j1 → c ≠ j2 → s.heap.get? c = some o → g.get? c = some o) → Q none { s with heap := g }) : wpAny (model P w) A (pyNext (.ref q)) Q E s := by
  have ty : s.TypeIs (.ref q) "zip" := ⟨_, iq, rfl⟩
  unfold pyNext
  refine wpAny_bind (wpAny_attempt (wpAny_callSpecial?_slot (name := Str.ofString "__next__") ty F.slot_zip_next (wpAny_call_entry F.slot_zip_next ty F.entry_zip_next (mix_endsN cold ap iq iti itu f1 f2 r1 r2 ends fun g x k ⟨o, go, co⟩ => ?_) (F.args_zip_next_1 _))))
  exact wpAny_bind (wpAny_isInstance (T := "StopIteration") (b := true) ⟨o, go, co⟩ isSubtype_stop (wpAny_pure (fin _ k)))
end
/-- the list at a and the tuple at b, the items in new pairs -/
def ItX (K : PySem.W.Frag) (a b : Addr) : It :=
  ⟨fun i H => ∃ (xs ys : List V) (x y : V), SqL K H a xs ∧ SqT K H b ys ∧ xs[i]? = some x ∧ ys[i]? = some y,
    fun i H v H' => ∃ t x y, v = .ref t ∧ H t = none ∧ H' = upd H t (.tup [x, y]) ∧ (∀ xs, SqL K H a xs → xs[i]? = some x) ∧ ∀ ys, SqT K H b ys → ys[i]? = some y,
    fun i H => ∃ xs ys : List V, SqL K H a xs ∧ SqT K H b ys ∧ (xs.length ≤ i ∨ ys.length ≤ i)⟩
theorem turn_mixX {P : Program} {w : World} {K : PySem.W.Frag} {elts : List Expr} {kk : Nat} {tpos : Pos} {a b q ti tu j1 j2 : Addr} (ap : ZipApart q ti tu j1 j2 a b) :
    Turn P w K (.Tuple elts kk tpos) (ItX K a b) [q, ti, tu, j1, j2] q (fun i h => IsZip h q ti tu .none ∧ IsPair h ti (.ref j1) (.ref j2) ∧ (∃ x y, IsPair h tu x y) ∧ h.IsListIter j1 a i ∧ h.IsTupleIter j2 b i) where
  mem := by simp
  obj := fun i h ⟨iq, iti, ⟨x, y, itu⟩, ⟨o1, e1, _, d1⟩, ⟨o2, e2, _, d2⟩⟩ c hc => by
    have which : c = q ∨ c = ti ∨ c = tu ∨ c = j1 ∨ c = j2 := by simpa using hc
    rcases which with rfl | rfl | rfl | rfl | rfl
    · exact ⟨_, iq, fun v z => nomatch z⟩
    · exact ⟨_, iti, fun v z => nomatch z⟩
    · exact ⟨_, itu, fun v z => nomatch z⟩
    · exact ⟨o1, e1, fun v z => by rw [d1] at z; cases z⟩
    · exact ⟨o2, e2, fun v z => by rw [d2] at z; cases z⟩
  keep := fun i h g ⟨iq, iti, ⟨x, y, itu⟩, f1, f2⟩ k => ⟨k q (by simp) _ iq, k ti (by simp) _ iti, ⟨x, y, k tu (by simp) _ itu⟩, f1.at fun o e => k j1 (by simp) o e, f2.at fun o e => k j2 (by simp) o e⟩
  item := by
    intro X e1 e2 e3 calm i pins s σ H E I fp st go
    subst e1 e2 e3
    obtain ⟨iq, iti, ⟨x0, y0, itu⟩, f1, f2⟩ := st
    obtain ⟨xs, ys, x, y, hqx, hqy, hx, hy⟩ := go
    obtain ⟨its, rv, p, _⟩ := I.list hqx
    obtain ⟨its2, rv2, p2, _⟩ := I.tuple hqy
    obtain ⟨u, hu, ru⟩ := rv.get hx
    obtain ⟨u2, hu2, ru2⟩ := rv2.get hy
    have qlt : q < s.heap.objs.size := Heap.lt_size iq
    refine mix_next ap iq iti itu f1 f2 p.isList p2 (u := u) (v := u2) (by simpa using hu) (by simpa using hu2) fun g iq' itu' f1' f2' pr hsz kept => ?_
    refine ⟨_, rfl, wpAny_letOwnedTupleGo_zip (s := { s with heap := g }) iq' fun g2 iq2 sb => ?_⟩
    have pr2 : g2.get? s.heap.objs.size = some { cls := .type "tuple", data := .seq #[u, u2] } := (sb.2 _ (Nat.ne_of_gt qlt)).trans pr
    have made : ObjOk X.prog X.w (upd H s.heap.objs.size (.tup [x, y])) g2 s.heap.objs.size (.tup [x, y]) :=
      ⟨by show 2 ≤ sizeLine; decide, [u, u2], .cons ru (.cons ru2 .nil), ⟨_, pr2, rfl, _, rfl⟩⟩
    have I1 : Inv X pins σ (upd H s.heap.objs.size (.tup [x, y])) { s with heap := g2 } :=
      I.turnedNew (t' := s.toks) (ch := [q, ti, tu, j1, j2]) (fun c o out e => (sb.2 c (fun z => out (by simp [z]))).trans (kept c o (fun z => out (by simp [z])) (fun z => out (by simp [z])) (fun z => out (by simp [z])) (fun z => out (by simp [z])) e)) fp (Nat.le_refl _) made
    refine ⟨.ref s.heap.objs.size, _, I1, rfl, ⟨_, x, y, rfl, I.hok.fresh (Nat.le_refl _), rfl, fun l hl => ?_, fun l hl => by rw [I.tuple_inj hl hqy]; exact hy⟩, ⟨iq2, ?_, ⟨u, u2, ?_⟩, ?_, ?_⟩, fun c hc => ?_⟩
    · rw [I.list_inj hl hqx]; exact hx
    · exact (sb.2 _ ap.TIz).trans (kept _ _ ap.TIz ap.TITO ap.TIi1 ap.TIi2 iti)
    · exact (sb.2 _ ap.TOz).trans itu'
    · exact f1'.at fun o e => (sb.2 _ ap.i1z).trans e
    · exact f2'.at fun o e => (sb.2 _ ap.i2z).trans e
    · have lt : c < s.heap.objs.size := by
        have which : c = q ∨ c = ti ∨ c = tu ∨ c = j1 ∨ c = j2 := by simpa using hc
        rcases which with rfl | rfl | rfl | rfl | rfl
        · exact qlt
        · exact Heap.lt_size iti
        · exact Heap.lt_size itu
        · obtain ⟨_, e1, _⟩ := f1; exact Heap.lt_size e1
        · obtain ⟨_, e2, _⟩ := f2; exact Heap.lt_size e2
      rw [upd_ne (Nat.ne_of_lt lt)]
      exact (fp c hc).1
  done := by
    intro X e1 e2 e3 calm i pins s σ H E I fp st stop
    subst e1 e2 e3
    obtain ⟨iq, iti, ⟨x0, y0, itu⟩, f1, f2⟩ := st
    obtain ⟨xs, ys, hx, hy, hend⟩ := stop
    obtain ⟨its, rv, p, _⟩ := I.list hx
    obtain ⟨its2, rv2, p2, _⟩ := I.tuple hy
    have l1 := rv.length
    have l2 := rv2.length
    refine mix_stopN (I.ok.hd calm) ap iq iti itu f1 f2 p.isList p2 (hend.elim (fun h => .inl (by simp; omega)) fun h => .inr (by simp; omega)) fun g k => ⟨rfl, I.turnedL (t' := s.toks) (ch := [q, ti, tu, j1, j2]) (fun c o out e => k c o (fun z => out (by simp [z])) (fun z => out (by simp [z])) (fun z => out (by simp [z])) (fun z => out (by simp [z])) e) fp⟩
  self := fun A i s Q E st h => wpAny_pyIter_zip st.1 h
def iZipX (K : PySem.W.Frag) (ta : TA) : TI := fun σ H R => ta σ H fun vs H1 => ∃ a b xs ys, vs = [.ref a, .ref b] ∧ SqL K H1 a xs ∧ SqT K H1 b ys ∧ R (ItX K a b) H1
theorem pi_zipX {X : Cx} {e e2 : Expr} {ta : TA} {p pos tpos : Pos} {elts : List Expr} {kk : Nat} (hg : Gl X "zip") (hm : X.mg "zip" = none) (ha : PA X [e, e2] ta)
    (star : starEach [e, e2] X.env = (false, eval e X.env) :: starEach [e2] X.env := by rfl) (plain : (backTo pos (starEach [e2] X.env)).any (·.1) = false := by rfl) :
    PI X (.Tuple elts kk tpos) (.Call (.Name "zip" p) [e, e2] [] pos) (iZipX X.K ta) := by
  refine ⟨fun pins s σ H R I h => ?_⟩
  refine Call_ (ld_blt I hg hm PyProof.Rows.boot_zip (PyProof.Rows.callWith_type1 (thn (ha.run pos pins s σ H _ I h) fun us s1 ⟨vs, H1, I1, r1, q1⟩ => ?_) star plain))
  obtain ⟨a, b, xs, ys, ex, hx, hy, q1⟩ := q1
  subst ex
  cases r1 with
  | cons ra rr =>
    cases rr with
    | cons rb rr =>
      cases rr
      cases ra
      cases rb
      have five : ∀ c, c ∈ [s1.heap.objs.size + 4, s1.heap.objs.size + 2, s1.heap.objs.size + 3, s1.heap.objs.size, s1.heap.objs.size + 1] → FpOk X pins H1 c := fun c hc => by
        have le : s1.heap.objs.size ≤ c := by
          simp only [List.mem_cons, List.not_mem_nil, or_false] at hc
          rcases hc with rfl | rfl | rfl | rfl | rfl <;> first | exact Nat.le_refl _ | exact Nat.le_add_right _ _
        exact I1.fpOk le (I1.hok.fresh le)
      obtain ⟨its, rv, p1, _⟩ := I1.list hx
      obtain ⟨its2, rv2, p2, _⟩ := I1.tuple hy
      obtain ⟨o2, g2, _⟩ := id p2
      refine mix_call p1.isList (show s1.heap.IsTuple b its2.toArray from p2) fun g iq iti itu f1 f2 kept => wpAny_pyIter_zip iq ?_
      have I2 : Inv X pins σ H1 { s1 with heap := g } := I1.kept (t' := s1.toks) kept
      exact ⟨s1.heap.objs.size + 4, _, _, _, H1, rfl, I2, turn_mixX (PySem.W.ktu_apart s1.heap.objs.size a b p1.lt (Heap.lt_size g2)), ⟨iq, iti, ⟨_, _, itu⟩, f1, f2⟩, five, q1⟩
theorem for_zipsX {K : PySem.W.Frag} {a b : Addr} {xs ys : List V} {g : TG} {tb : TS} {D : Ends} {σ : L2.St} {H : Hp} (n : Nat) (hn : n = min xs.length ys.length) (Pv : Nat → L2.St → Hp → Prop) (h0 : Pv 0 σ H) (hq : ∀ i σ H, Pv i σ H → SqL K H a xs ∧ SqT K H b ys)
    (hs : ∀ (i : Nat) (x y : V) (t : Addr) (σ : L2.St) (H : Hp), xs[i]? = some x → ys[i]? = some y → Pv i σ H → H t = none → g (.ref t) σ (upd H t (.tup [x, y])) fun σ2 H2 => tb { D with nx := Pv (i + 1), ct := Pv (i + 1), bk := D.nx } σ2 H2) (hd : ∀ σ H, Pv n σ H → D.nx σ H) :
    ∃ W : Nat → Nat → L2.St → Hp → Prop, (∃ m, W 0 m σ H) ∧ ∀ i m σ H, W i m σ H →
      ((ItX K a b).stop i H ∧ D.nx σ H) ∨ ((ItX K a b).go i H ∧ ∃ N : L2.St → Hp → Prop, (∀ σ' H', N σ' H' → ∃ m', m' < m ∧ W (i + 1) m' σ' H') ∧ ∀ v H', (ItX K a b).yld i H v H' → g v σ H' fun σ2 H2 => tb { D with nx := N, ct := N, bk := D.nx } σ2 H2) := by
  refine ⟨fun i m σ H => m + i = n ∧ Pv i σ H, ⟨n, rfl, h0⟩, ?_⟩
  rintro i m σ H ⟨hi, p⟩
  obtain ⟨qx, qy⟩ := hq i σ H p
  by_cases lt : i < n
  · have ex : xs[i]? = some xs[i] := List.getElem?_eq_getElem (by omega)
    have ey : ys[i]? = some ys[i] := List.getElem?_eq_getElem (by omega)
    refine .inr ⟨⟨xs, ys, _, _, qx, qy, ex, ey⟩, Pv (i + 1), fun σ' H' p' => ⟨m - 1, by omega, by omega, p'⟩, fun v H' y => ?_⟩
    obtain ⟨t, x1, y1, rfl, ht, rfl, f1, f2⟩ := y
    exact hs i x1 y1 t σ H (f1 xs qx) (f2 ys qy) p ht
  · have e : i = n := by omega
    subst e
    exact .inl ⟨⟨xs, ys, qx, qy, by omega⟩, hd σ H p⟩
end NL

namespace NL
open PySem PySem.Spec PyProof.Rows L2
/-! ### a play, as a function -/
def stp (A : Ar) (l i r : Int) : Bool := match A[l.toNat]? with
  | none => false
  | some os => match os[i.toNat]? with
    | none => false
    | some o => decide (0 ≤ l) && (decide (0 ≤ i) && decide (r ∈ o))
def playA (A : Ar) : Int → List Int → List Int → List Int
  | l, i :: is, r :: rs => if stp A l i r = true then r :: playA A r is rs else []
  | _, [], _ => []
  | _, _ :: _, [] => []
theorem play_nil {A : Ar} {l : Int} : ∀ {is rs : List Int}, is = [] ∨ rs = [] → playA A l is rs = []
  | [], _, _ => by rw [playA]
  | _ :: _, [], _ => by rw [playA]
  | _ :: _, _ :: _, h => by rcases h with h | h <;> cases h
theorem play_step {A : Ar} {l i r : Int} {is rs : List Int} {j : Nat} (hi : is[j]? = some i) (hr : rs[j]? = some r) : playA A l (is.drop j) (rs.drop j) = if stp A l i r = true then r :: playA A r (is.drop (j + 1)) (rs.drop (j + 1)) else [] := by
  obtain ⟨h1, e1⟩ := List.getElem?_eq_some_iff.mp hi
  obtain ⟨h2, e2⟩ := List.getElem?_eq_some_iff.mp hr
  rw [List.drop_eq_getElem_cons h1, List.drop_eq_getElem_cons h2, playA, e1, e2]
theorem stp_out {A : Ar} {i r : Int} : stp A (-1) i r = false := by
  unfold stp
  split
  · rfl
  · split <;> rfl
theorem stp_neg {A : Ar} {l i r : Int} (h : ¬ 0 ≤ i) : stp A l i r = false := by
  unfold stp
  split
  · rfl
  · split
    · rfl
    · rw [decide_eq_false h, Bool.false_and, Bool.and_false]
theorem stp_far {A : Ar} {l i r : Int} {os : Pos'} (hl : A[l.toNat]? = some os) (h : ¬ i < os.length) : stp A l i r = false := by
  have : os[i.toNat]? = none := List.getElem?_eq_none (by omega)
  unfold stp
  rw [hl]
  simp [this]
theorem stp_at {A : Ar} {l i r : Int} {os : Pos'} {o : Opt} (hl0 : 0 ≤ l) (hl : A[l.toNat]? = some os) (hi : 0 ≤ i) (ho : os[i.toNat]? = some o) : stp A l i r = decide (r ∈ o) := by
  unfold stp
  rw [hl]
  simp [ho, hl0, hi]
theorem ints_snoc (ps : List Int) (l : Int) : (ps ++ [l]).map V.int = ps.map V.int ++ [V.int l] := by
  rw [List.map_append]
  rfl
theorem same_seqT {K : PySem.W.Frag} {H H' : Hp} {a : Addr} {xs : List V} (s : Same H H') (h : SqT K H a xs) : SqT K H' a xs := by
  rcases h with (h | ⟨o, h⟩) | h
  · exact .inl (.inl (s _ _ h))
  · exact .inl (.inr ⟨o, s _ _ h⟩)
  · exact .inr h
section
variable {P : Program} {w : World} {K : PySem.W.Frag} {mg : Str → Option Value} {base : Heap}
/-! ### play_on -/
def spPlayOn (K : PySem.W.Frag) : Sp := fun vs H Q _ => ∃ (v : V) (A : Ar) (st : Int) (a b : Addr) (is rs : List Int), vs = [v, .int st, .ref a, .ref b] ∧ ArIn H A v ∧ ArG A ∧ 0 ≤ st ∧ st < A.length ∧ is.length ≤ 1000 ∧ rs.length ≤ 1000 ∧
  (SqL K H a (is.map V.int) ∧ SqT K H b (rs.map V.int)) ∧
  ∀ p H', Same H H' → H' p = some (.tup ((st :: playA A st is rs).map V.int)) → Q (.ref p) H'
/-- what one turn needs -/
structure Plc (H : Hp) (A : Ar) (b0 : Addr) (xs : List V) (l : Int) (os : Pos') (b1 : Addr) (zs : List V) : Prop where
  t : H b0 = some (.tup xs)
  a : A[l.toNat]? = some os
  i : atI xs l = some (.ref b1)
  o : H b1 = some (.tup zs)
  e : Each (OptIn H) os zs
theorem Plc.of {H : Hp} {A : Ar} {b0 : Addr} {xs : List V} {l : Int} (t : H b0 = some (.tup xs)) (h : Each (PosIn H) A xs) (h0 : 0 ≤ l) (h1 : l < A.length) : ∃ os b1 zs, Plc H A b0 xs l os b1 zs := by
  obtain ⟨os, x, h2, h3, b1, zs, rfl, h4, h5⟩ := h.atI h0 h1
  exact ⟨os, b1, zs, t, h2, h3, h4, h5⟩
theorem ok_play_on (T : Txt K mg) : FnOk P w K mg base CX0 1 T.aplay_on T.dplay_on Pplay_on (spPlayOn K) := by
  refine T.Fplay_on.ok scplay_on (fun vs H Q E h => ?_) (fun cdv A outer s H vs Q E hr h => ?_)
  · obtain ⟨v, A, st, a, b, is, rs, rfl, _⟩ := h
    rfl
  obtain ⟨v, Ar0, st, a, b, is, rs, rfl, ⟨b0, xs, rfl, e0, hxs⟩, hG, st0, st1, hil, hrl, hkind, q⟩ := h
  -- behind the loop
  have fin : ∀ (pl : Addr) (H' : Hp), Same H H' → H' pl = some (.lst ((st :: playA Ar0 st is rs).map V.int)) → rTupOf K [.ref pl] H' Q := fun pl H' s' e' => ⟨pl, _, rfl, .inl ⟨sqd e', fun p hp => q p _ (s'.trans (same_new hp _)) upd_same⟩⟩
  obtain ⟨ha, hb⟩ := hkind
  refine ⟨_, (pss_cons (ps_set (i := 4) scplay_on.nd rfl (Or.inl rfl) (pe_lst (pa_cons (pv 1) pa_nil)))
    (pss_cons (ps_for  PassesOwn.never rfl (pi_zipX (by rfl) T.z_zip (pa_cons (pv 2) (pa_cons (pv 3) pa_nil))) (pg_tup rfl (pgs_cons (pg_name (i := 5) scplay_on.nd rfl (Or.inl rfl)) (pgs_cons (pg_name (i := 6) scplay_on.nd rfl (Or.inl rfl)) pgs_nil)))
    (pss_cons (ps_set (i := 7) scplay_on.nd rfl (Or.inl rfl) (pe_ix ix_tup (pv 0) (pe_ix ix_list (pv 4) (pe_un un_neg pe_int) (fun _ _ => rfl)) (fun _ _ => rfl)))
    (pss_cons (ps_if (PW.pt (pw_or (pt_not (pt_chain op_le op_lt pe_int (pv 5) (pe_callB call_len_seq (by rfl) T.z_len PySem.boot_len (pa_cons (pv 7) pa_nil)))) (pw_or1 (pt_cmpR op_notIn_seq (pv 6) (pe_ix ix_tup (pv 7) (pv 5) (fun _ _ => rfl)) (by rfl)))))
    (pss_one ps_break)
    pss_nil)
    (pss_cons (ps_expr (pe_bm PySem.F.plainAttrs_list PySem.F.slot_list_append PySem.F.type_list_append mt_append (pv 4) (pa_cons (pv 6) pa_nil)))
    (pss_one (ps_if (pt_cmpR op_eq (pv 6) (pe_un un_neg pe_int) (nomark _))
    (pss_one ps_break)
    pss_nil))))))
    (pss_one (ps_ret (pe_callTy call_tuple_of (by rfl) T.z_tuple (by decide +kernel) (pa_cons (pv 4) pa_nil)))))), ?_⟩
  refine ⟨_, rfl, Nat.le_of_ble_eq_true rfl, fun pl hpl => ?_⟩
  obtain ⟨H1, e1, s1, k1⟩ := newH hpl (.lst [.int st])
  rw [e1]
  refine ⟨_, rfl, _, rfl, a, b, _, _, rfl, s1.seq ha, same_seqT s1 hb, ?_⟩
  refine for_zipsX (xs := is.map V.int) (ys := rs.map V.int) (min is.length rs.length) (by rw [List.length_map, List.length_map]) (fun (j : Nat) (σ : L2.St) (H' : Hp) => ∃ (ps : List Int) (l : Int) (y5 y6 y7 : Option V), σ = [some (.ref b0), some (.int st), some (.ref a), some (.ref b), some (.ref pl), y5, y6, y7] ∧ Same H H' ∧ H' pl = some (.lst ((ps ++ [l]).map V.int)) ∧ ps.length ≤ j ∧ 0 ≤ l ∧ l < Ar0.length ∧ st :: playA Ar0 st is rs = ps ++ [l] ++ playA Ar0 l (is.drop j) (rs.drop j)) ?_ ?_ ?_ ?_
  · exact ⟨[], st, none, none, none, rfl, s1, k1, Nat.le_refl 0, st0, st1, by rw [List.drop_zero, List.drop_zero]; rfl⟩
  · rintro j σ H' ⟨ps, l, y5, y6, y7, rfl, s2, _⟩
    exact ⟨s2.seq ha, same_seqT s2 hb⟩
  · rintro j x y t σ H2 hx hy ⟨ps, l, y5, y6, y7, rfl, s2, k2, hps, l0, l1, htot⟩ ht
    rw [List.getElem?_map] at hx hy
    obtain ⟨i, hi, rfl⟩ := Option.map_eq_some_iff.mp hx
    obtain ⟨r, hr', rfl⟩ := Option.map_eq_some_iff.mp hy
    have hj := (List.getElem?_eq_some_iff.mp hi).1
    rw [play_step hi hr'] at htot
    obtain ⟨H3, e3, s3, k3⟩ := newH ht (.tup [V.int i, V.int r])
    rw [e3]
    have s23 := s2.trans s3
    have tp3 : Tp H H3 := Tp.same s23
    obtain ⟨os, b1, zs, hP⟩ := Plc.of (tp3 _ _ e0) (hxs.mono fun o x => PosIn.tp tp3) l0 l1
    have k23 := s3 _ _ k2
    rw [ints_snoc] at k23
    refine ⟨t, _, rfl, sqt k3, rfl, _, _, rfl, _, _, rfl, rfl, ?_⟩
    refine ⟨_, rfl, _, rfl, _, rfl, pl, _, _, _, rfl, rfl, sqd k23, at_last, b0, _, _, _, rfl, rfl, sqt hP.t, hP.i, ?_⟩
    have brk : stp Ar0 l i r = false → st :: playA Ar0 st is rs = ps ++ [l] := fun h => by
      rw [htot, if_neg (by rw [h]; exact Bool.false_ne_true), List.append_nil]
    have out : stp Ar0 l i r = false → H3 pl = some (.lst ((st :: playA Ar0 st is rs).map V.int)) := fun h => by
      rw [brk h, ints_snoc]
      exact k23
    refine ⟨_, rfl, _, _, rfl, rfl, _, rfl, ?_⟩
    by_cases hi0 : 0 ≤ i
    · refine ifT (decide_eq_true hi0) ?_
      refine ⟨_, rfl, b1, _, rfl, .inr (sqt hP.o), _, _, rfl, rfl, _, rfl, ?_⟩
      by_cases hi1 : i < os.length
      · have hlen : i < (zs.length : Int) := by rw [hP.e.1]; exact hi1
        refine ifF (by rw [decide_eq_true hlen] <;> rfl) ?_
        obtain ⟨o, x, ho, hat, b2, rfl, e2⟩ := hP.e.atI hi0 hi1
        have hst := stp_at (r := r) l0 hP.a hi0 ho
        refine ⟨_, rfl, _, rfl, _, rfl, b1, _, _, _, rfl, rfl, sqt hP.o, hat, b2, _, rfl, .inr (sqt e2), rfl, flat_ints' o, _, rfl, ?_⟩
        by_cases hm : r ∈ o
        · refine ifF (by rw [notIn_int, decide_eq_true hm] <;> rfl) ?_
          rw [hst, decide_eq_true hm, if_pos rfl] at htot
          refine ⟨_, rfl, .inl ⟨rfl, _, sqd k23⟩, _, rfl, pl, _, _, rfl, rfl, k23, big' (by rw [List.length_append, List.length_map, List.length_singleton]; omega), ?_⟩
          have s4 : Same H (upd H3 pl (.lst (List.map V.int ps ++ [V.int l] ++ [V.int r]))) := same_put s23 hpl
          have k4 : upd H3 pl (.lst (List.map V.int ps ++ [V.int l] ++ [V.int r])) pl = some (.lst ((ps ++ [l] ++ [r]).map V.int)) := by
            rw [upd_same, ints_snoc, ints_snoc]
          have hb := ((hG.2 os (List.mem_of_getElem? hP.a)).2 o (List.mem_of_getElem? ho)).mem r hm
          refine ⟨_, rfl, _, rfl, rfl, _, rfl, ?_⟩
          refine ite2 (fun z => ?_) (fun z => ?_)
          · have hr1 : r = -1 := int_eq z
            refine ⟨_, rfl, fin pl _ s4 ?_⟩
            rw [k4, htot, hr1]
            have : playA Ar0 (-1) (is.drop (j + 1)) (rs.drop (j + 1)) = [] := by
              cases h1 : is.drop (j + 1) with
              | nil => rw [playA]
              | cons i2 ir =>
                cases h2 : rs.drop (j + 1) with
                | nil => rw [playA]
                | cons r2 rr => rw [playA, stp_out, if_neg Bool.false_ne_true]
            rw [this]
          · have hr1 : r ≠ -1 := int_ne z
            exact ⟨ps ++ [l], r, _, _, _, rfl, s4, k4, by rw [List.length_append]; exact Nat.add_le_add_right hps 1, by omega, hb.2, by rw [htot]; simp⟩
        · refine ifT (by rw [notIn_int, decide_eq_false hm] <;> rfl) ?_
          rw [decide_eq_false hm] at hst
          exact ⟨_, rfl, fin pl H3 s23 (out hst)⟩
      · have hlen : ¬ i < (zs.length : Int) := by rw [hP.e.1]; exact hi1
        refine ifT (by rw [decide_eq_false hlen] <;> rfl) ?_
        refine iteT ?_
        exact ⟨_, rfl, fin pl H3 s23 (out (stp_far hP.a hi1))⟩
    · refine ifF (decide_eq_false hi0) ⟨_, rfl, ?_⟩
      refine iteT (iteT ?_)
      exact ⟨_, rfl, fin pl H3 s23 (out (stp_neg hi0))⟩
  · rintro σ H2 ⟨ps, l, y5, y6, y7, rfl, s2, k2, hps, l0, l1, htot⟩
    refine ⟨_, rfl, fin pl H2 s2 ?_⟩
    rw [k2, htot, play_nil (by
      rcases Nat.le_total is.length rs.length with h | h
      · exact .inl (List.drop_eq_nil_of_le (by omega))
      · exact .inr (List.drop_eq_nil_of_le (by omega))), List.append_nil]
end
end NL

set_option maxHeartbeats 4000000
namespace NL
open PySem PySem.Spec PyProof.Rows L2
theorem PaperAt.atI {st : Bool} {H : Hp} {A : Ar} {R : Int → Option Nat} {ls : List V} (h : PaperAt st H A R A.length ls) {k : Int} (h0 : 0 ≤ k) (h1 : k < A.length) {os : Pos'} (ho : A[k.toNat]? = some os) : ∃ b pk, atI ls k = some (.ref b) ∧ H b = some (.tup (lbV st (R k) ++ [pk])) ∧ PickG st H os R k pk := by
  obtain ⟨v, h2, b, pk, rfl, h3, h4⟩ := h.2 k.toNat os (by omega) ho
  rw [show ((k.toNat : Nat) : Int) = k by omega] at h3 h4
  refine ⟨b, pk, ?_, h3, h4⟩
  have := atI_nat h2
  rw [show ((k.toNat : Nat) : Int) = k by omega] at this
  exact this
theorem last_lb {st : Bool} {r : Option Nat} {pk : V} : atI (lbV st r ++ [pk]) (-1) = some pk := by
  cases r <;> rfl
/-- a step that the paper allows: from p to q -/
def Stp (st : Bool) (A : Ar) (R : Int → Option Nat) (p q : Int) : Prop := 0 ≤ p ∧ p < A.length ∧ R p ≠ some 0 ∧ ∃ os o, A[p.toNat]? = some os ∧ o ∈ os ∧ q ∈ o ∧ fitB st R p q = true
/-- a play by the paper, the last place first known: all steps allowed, and how it may end -/
structure Fol (st : Bool) (A : Ar) (R : Int → Option Nat) (s : Int) (ps : List Int) (l : Int) : Prop where
  fst : (ps ++ [l])[0]? = some s
  stp : ∀ (j : Nat) p q, (ps ++ [l])[j]? = some p → (ps ++ [l])[j + 1]? = some q → Stp st A R p q
  lst : -1 ≤ l ∧ l < A.length
theorem Fol.one {st : Bool} {A : Ar} {R : Int → Option Nat} {s : Int} (h0 : 0 ≤ s) (h1 : s < A.length) : Fol st A R s [] s := ⟨rfl, fun j p q h1 h2 => by
  have := (List.getElem?_eq_some_iff.mp h2).1
  have h3 : (([] : List Int) ++ [s]).length = 1 := rfl
  omega, by omega, h1⟩
theorem Fol.more {st : Bool} {A : Ar} {R : Int → Option Nat} {s l q : Int} {ps : List Int} (h : Fol st A R s ps l) (hs : Stp st A R l q) (hq : -1 ≤ q ∧ q < A.length) : Fol st A R s (ps ++ [l]) q := by
  refine ⟨?_, fun j p r h1 h2 => ?_, hq⟩
  · rw [List.getElem?_append_left (by rw [List.length_append]; exact Nat.succ_pos _)]
    exact h.fst
  · have hj := (List.getElem?_eq_some_iff.mp h2).1
    rw [List.length_append, List.length_append] at hj
    have e1 : [q].length = 1 := rfl
    have e2 : [l].length = 1 := rfl
    rw [List.getElem?_append_left (by rw [List.length_append]; omega)] at h1
    by_cases hjl : j + 1 < (ps ++ [l]).length
    · rw [List.getElem?_append_left hjl] at h2
      exact h.stp j p r h1 h2
    · have hje : j = ps.length := by rw [List.length_append] at hjl; omega
      subst hje
      rw [List.getElem?_append_right (Nat.le_refl _), Nat.sub_self] at h1
      cases h1
      rw [List.getElem?_append_right (by rw [List.length_append]; omega), List.length_append] at h2
      rw [show ps.length + 1 - (ps.length + [l].length) = 0 by omega] at h2
      cases h2
      exact hs
section
variable {P : Program} {w : World} {K : PySem.W.Frag} {mg : Str → Option Value} {base : Heap}
def spEnd2 (st : Bool) : Sp := fun vs H Q _ => ∃ (a : Addr) (r : Option Nat) (tl : List V), vs = [.ref a] ∧ H a = some (.tup (lbV st r ++ tl)) ∧ ∀ H', Same H H' → Q (.bl (decide (r = some 0))) H'
theorem gx_is_end (T : Txt K mg) (st : Bool) : FnOk P w K mg base CX0 1 T.ais_end T.dis_end Pis_end (spEnd2 st) := by
  refine T.Fis_end.ok scis_end (fun vs H Q E h => ?_) (fun cdv A outer s H vs Q E hr h => ?_)
  · obtain ⟨a, r, tl, rfl, _⟩ := h
    rfl
  obtain ⟨a, r, tl, rfl, e, q⟩ := h
  refine ⟨_, (pss_one (ps_ret (pe_and (pe_cmpR op_in_seq (pe_ix ix_tup (pv 0) pe_int (fun _ _ => rfl)) (pe_tup (pa_cons pe_str (pa_cons pe_str pa_nil))) (by rfl)) (pe_one (pe_cmpR op_eq (pe_ix ix_tup (pv 0) pe_int (fun _ _ => rfl)) pe_int (nomark _)))))), ?_⟩
  cases r with
  | none =>
    refine ⟨_, rfl, a, _, _, _, rfl, rfl, sqt e, atI0, Nat.le_of_ble_eq_true rfl, fun t ht => ?_⟩
    obtain ⟨H1, e1, s1, k1⟩ := newH ht (.tup [V.str "comes", V.str "driven"])
    rw [e1]
    refine ⟨t, _, rfl, .inr (sqt k1), rfl, by decide, ?_⟩
    exact ⟨false, by cases st <;> decide, iteF (boolE (decide_eq_false (fun e => nomatch e)).symm (q H1 s1))⟩
  | some r =>
    refine ⟨_, rfl, a, _, _, _, rfl, rfl, sqt e, atI0, Nat.le_of_ble_eq_true rfl, fun t ht => ?_⟩
    obtain ⟨H1, e1, s1, k1⟩ := newH ht (.tup [V.str "comes", V.str "driven"])
    rw [e1]
    refine ⟨t, _, rfl, .inr (sqt k1), rfl, by decide, ?_⟩
    refine ⟨true, by cases st <;> decide, iteT ⟨_, rfl, a, _, _, _, rfl, rfl, sqt (s1 _ _ e), atI1, rfl, boolE ?_ (q H1 s1)⟩⟩
    by_cases h : r = 0
    · subst h
      rfl
    · rw [decide_eq_false (fun e => h (by have := V.int.inj e; omega)), decide_eq_false (fun e => h (Option.some.inj e))]
/-! ### _next_by -/
def spNext (st : Bool) : Sp := fun vs H Q _ => ∃ (b : Addr) (v pk : V) (A : Ar) (R : Int → Option Nat) (p : Int) (os : Pos') (z : Int), vs = [.ref b, v, .int z] ∧ H b = some (.tup (lbV st (R p) ++ [pk])) ∧ PickG st H os R p pk ∧ PosIn H os v ∧ ArG A ∧ 0 ≤ p ∧ A[p.toNat]? = some os ∧ os ≠ [] ∧ R p ≠ some 0 ∧
  ∀ q, Stp st A R p q → -1 ≤ q → q < A.length → Q (.int q) H
theorem ok_next_by (T : Txt K mg) (st : Bool) : FnOk P w K mg base CX0 2 T.a_next_by T.d_next_by P_next_by (spNext st) := by
  have Ghas_option := ok_has_option (P := P) (w := w) (base := base) T
  refine T.F_next_by.ok sc_next_by (fun vs H Q E h => ?_) (fun cdv A outer s H vs Q E hr h => ?_)
  · obtain ⟨b, v, pk, A, R, p, os, z, rfl, _⟩ := h
    rfl
  obtain ⟨b, v, pk, A0, R, p, os, z, rfl, eb, hpk, ⟨b1, ys, rfl, e1, hys⟩, hG, p0, hos, hne, hz0, qq⟩ := h
  have hyl := hys.1
  have hpl := (List.getElem?_eq_some_iff.mp hos).1
  have hosG := hG.2 os (List.mem_of_getElem? hos)
  have hosl := hosG.1
  obtain ⟨s0, tl, hs1, hs2⟩ := has_lb st (R p)
  refine ⟨_, (pss_cons (ps_if (pt_val (pe_call Ghas_option (hr.mono (by omega)) (by rfl) T.mhas_option T.Fhas_option.kp T.bhas_option .nil pass0 (pa_cons (pv 0) pa_nil)))
    (pss_cons (ps_set (i := 3) sc_next_by.nd rfl (Or.inl rfl) (pe_ix ix_tup (pv 1) (pe_ix ix_tup (pv 0) (pe_un un_neg pe_int) (fun _ _ => rfl)) (fun _ _ => rfl)))
    (pss_one (ps_ret (pe_ix ix_tup (pv 3) (pe_op op_mod (pv 2) (pe_callB call_len_seq (by rfl) T.z_len PySem.boot_len (pa_cons (pv 3) pa_nil))) (fun _ _ => rfl)))))
    pss_nil)
    (pss_one (ps_ret (pe_ix ix_tup (pe_ix ix_tup (pv 0) (pe_un un_neg pe_int) (fun _ _ => rfl)) (pe_op op_mod (pv 2) (pe_callB call_len_seq (by rfl) T.z_len PySem.boot_len (pa_cons (pv 1) pa_nil))) (fun _ _ => rfl))))), ?_⟩
  refine ⟨_, rfl, b, s0, tl ++ [pk], rfl, by rw [eb, hs1]; rfl, _, rfl, ?_⟩
  rw [hs2]
  unfold PickG at hpk
  cases hown : ((R p).isSome != st) with
  | true =>
    rw [if_pos hown, if_neg hz0] at hpk
    obtain ⟨i, rfl, ⟨o, ho, hall⟩, _⟩ := hpk
    have hoG := hosG.2 o (List.mem_of_getElem? ho)
    have hol := hoG.len
    have hpos := List.length_pos_iff.mpr hoG.ne
    obtain ⟨x, hx, bo, rfl, eo⟩ := hys.at ho
    refine ifT rfl ?_
    refine ⟨_, rfl, _, rfl, _, rfl, b, _, _, _, rfl, rfl, sqt eb, last_lb, b1, _, _, _, rfl, rfl, sqt e1, atI_nat hx, ?_⟩
    have hz1 : 0 ≤ z % (o.length : Int) := Int.emod_nonneg _ (by omega)
    have hz2 : z % (o.length : Int) < (o.length : Int) := Int.emod_lt_of_pos _ (by omega)
    obtain ⟨q, hq, hqm⟩ := atI_map (f := V.int) (xs := o) hz1 (by omega)
    have hqI := hoG.mem q hqm
    refine ⟨_, rfl, _, rfl, _, rfl, bo, _, rfl, .inr (sqt eo), _, _, rfl, rfl, by rw [List.length_map]; omega, bo, _, _, _, rfl, rfl, sqt eo, by rw [List.length_map]; exact hq, ?_⟩
    exact qq q ⟨p0, by omega, hz0, os, o, hos, List.mem_of_getElem? ho, hqm, List.all_eq_true.mp hall q hqm⟩ hqI.1 hqI.2
  | false =>
    rw [if_neg (by rw [hown]; exact Bool.false_ne_true)] at hpk
    obtain ⟨cc, zs, rfl, ecc, hzs⟩ := hpk
    rw [if_neg hz0] at hzs
    obtain ⟨hzl, hzs⟩ := hzs
    refine ifF rfl ?_
    have hpos := List.length_pos_iff.mpr hne
    have hz1 : 0 ≤ z % (os.length : Int) := Int.emod_nonneg _ (by omega)
    have hz2 : z % (os.length : Int) < (os.length : Int) := Int.emod_lt_of_pos _ (by omega)
    obtain ⟨q, hq, hqm⟩ := atI_map (f := V.int) (xs := zs) hz1 (by omega)
    have hixl : (z % (os.length : Int)).toNat < os.length := by omega
    have ho := List.getElem?_eq_getElem hixl
    generalize os[(z % (os.length : Int)).toNat] = o at ho
    have hzq : zs[(z % (os.length : Int)).toNat]? = some q := by
      have hixz : (z % (os.length : Int)).toNat < zs.length := by omega
      have h1 := atI_nat (j := (z % (os.length : Int)).toNat) (show (zs.map V.int)[(z % (os.length : Int)).toNat]? = some (V.int zs[(z % (os.length : Int)).toNat]) by rw [List.getElem?_map, List.getElem?_eq_getElem hixz]; rfl)
      rw [show (((z % (os.length : Int)).toNat : Nat) : Int) = z % (os.length : Int) by omega, hq] at h1
      rw [List.getElem?_eq_getElem hixz, V.int.inj (Option.some.inj h1)]
    obtain ⟨h1, h2, _⟩ := hzs _ o q ho hzq
    have hqI := (hosG.2 o (List.mem_of_getElem? ho)).mem q h1
    refine ⟨_, rfl, _, rfl, b, _, _, _, rfl, rfl, sqt eb, last_lb, _, rfl, _, rfl, b1, _, rfl, .inr (sqt e1), _, _, rfl, rfl, by omega, cc, _, _, _, rfl, rfl, sqt ecc, by rw [hyl]; exact hq, ?_⟩
    exact qq q ⟨p0, by omega, hz0, os, o, hos, List.mem_of_getElem? ho, h1, h2⟩ hqI.1 hqI.2
/-! ### follow -/
theorem dp_opts {H : Hp} : ∀ {os : Pos'} {ys : List V}, Each (OptIn H) os ys → DpAll K H ys (os.map fun o => .tuple (o.map PyData.int))
  | [], ys, h => by
    have : ys = [] := List.length_eq_zero_iff.mp h.1
    subst this
    exact .nil
  | o :: os, [], h => by have := h.1; cases this
  | o :: os, y :: ys, h => by
    obtain ⟨b, rfl, e⟩ := h.2 0 o y rfl rfl
    refine .cons (.tup (sqt e) (dp_intsG _)) (dp_opts ⟨Nat.succ.inj h.1, fun k a x ha hx => h.2 (k + 1) a x ha hx⟩)
theorem lay_opts : ∀ os : Pos', PyData.canLayAll0 (os.map fun o => PyData.tuple (o.map PyData.int)) = true ∧ PyData.depthAll (os.map fun o => PyData.tuple (o.map PyData.int)) ≤ 1
  | [] => ⟨rfl, Nat.zero_le _⟩
  | o :: os => by
    obtain ⟨h1, h2⟩ := lay_opts os
    obtain ⟨g1, g2⟩ := lay_intsG o
    refine ⟨?_, ?_⟩
    · show (PyData.canLayAll0 (o.map PyData.int) && PyData.canLayAll0 (os.map fun o => PyData.tuple (o.map PyData.int))) = true
      rw [h1, g1]
      rfl
    · show max (PyData.depthAll (o.map PyData.int) + 1) (PyData.depthAll (os.map fun o => PyData.tuple (o.map PyData.int))) ≤ 1
      rw [g2]
      omega
theorem shaped_opts (os : Pos') : SeqAt.shaped (.tuple (os.map fun o => PyData.tuple (o.map PyData.int))) = true := by
  obtain ⟨h1, h2⟩ := lay_opts os
  show (PyData.canLayAll0 (os.map fun o => PyData.tuple (o.map PyData.int)) && decide (PyData.depthAll (os.map fun o => PyData.tuple (o.map PyData.int)) + 1 ≤ 64)) = true
  rw [h1, decide_eq_true (by omega)]
  rfl
def spFollow (K : PySem.W.Frag) (st : Bool) : Sp := fun vs H Q _ => ∃ (v : V) (pp pk : Addr) (ls : List V) (A : Ar) (R : Int → Option Nat) (s : Int) (zs : List Int), vs = [v, .ref pp, .int s, .ref pk] ∧ ArIn H A v ∧ ArG A ∧ H pp = some (.tup ls) ∧ PaperAt st H A R A.length ls ∧ 0 ≤ s ∧ s < A.length ∧ SqL K H pk (zs.map V.int) ∧ zs.length ≤ 1000 ∧
  ∀ p ps l H', Same H H' → H' p = some (.tup ((ps ++ [l]).map V.int)) → Fol st A R s ps l → (ps.length = zs.length ∨ l = -1 ∨ (0 ≤ l ∧ (R l = some 0 ∨ A[l.toNat]? = some []))) → ps.length ≤ zs.length → Q (.ref p) H'
theorem ok_follow (T : Txt K mg) (st : Bool) : FnOk P w K mg base CX0 3 T.afollow T.dfollow Pfollow (spFollow K st) := by
  have Gis_end := gx_is_end (P := P) (w := w) (base := base) T st
  have G_next_by := ok_next_by (P := P) (w := w) (base := base) T st
  refine T.Ffollow.ok scfollow (fun vs H Q E h => ?_) (fun cdv A outer s H vs Q E hr h => ?_)
  · obtain ⟨v, pp, pk, ls, A, R, s, zs, rfl, _⟩ := h
    rfl
  obtain ⟨v, pp, pk, ls, A0, R, s0, zs, rfl, ⟨b0, xs, rfl, e0, hxs⟩, hG, ep, hP, s00, s01, hz, hzl, q⟩ := h
  have h46 := hG.1
  refine ⟨_, (pss_cons (ps_set (i := 4) scfollow.nd rfl (Or.inl rfl) (pe_lst (pa_cons (pv 2) pa_nil)))
    (pss_cons (ps_for  PassesOwn.never rfl (pi_list (pv 3)) (pg_name (i := 5) scfollow.nd rfl (Or.inl rfl))
    (pss_cons (ps_set (i := 6) scfollow.nd rfl (Or.inl rfl) (pe_ix ix_tup (pv 1) (pe_ix ix_list (pv 4) (pe_un un_neg pe_int) (fun _ _ => rfl)) (fun _ _ => rfl)))
    (pss_cons (ps_set (i := 7) scfollow.nd rfl (Or.inl rfl) (pe_ix ix_tup (pv 0) (pe_ix ix_list (pv 4) (pe_un un_neg pe_int) (fun _ _ => rfl)) (fun _ _ => rfl)))
    (pss_cons (ps_if (PW.pt (pw_or (pt_val (pe_call Gis_end (hr.mono (by omega)) (by rfl) T.mis_end T.Fis_end.kp T.bis_end .nil pass0 (pa_cons (pv 6) pa_nil))) (pw_or1 (pt_cmpR (op_eqD hr.units) (pv 7) (pe_tup pa_nil) (nomark _)))))
    (pss_one ps_break)
    pss_nil)
    (pss_cons (ps_expr (pe_bm PySem.F.plainAttrs_list PySem.F.slot_list_append PySem.F.type_list_append mt_append (pv 4) (pa_cons (pe_call G_next_by (hr.mono (by omega)) (by rfl) T.m_next_by T.F_next_by.kp T.b_next_by .nil pass0 (pa_cons (pv 6) (pa_cons (pv 7) (pa_cons (pv 5) pa_nil)))) pa_nil)))
    (pss_one (ps_if (pt_cmpR op_eq (pe_ix ix_list (pv 4) (pe_un un_neg pe_int) (fun _ _ => rfl)) (pe_un un_neg pe_int) (nomark _))
    (pss_one ps_break)
    pss_nil)))))))
    (pss_one (ps_ret (pe_callTy call_tuple_of (by rfl) T.z_tuple (by decide +kernel) (pa_cons (pv 4) pa_nil)))))), ?_⟩
  refine ⟨_, rfl, Nat.le_of_ble_eq_true rfl, fun pl hpl => ?_⟩
  obtain ⟨H1, e1, s1, k1⟩ := newH hpl (.lst [V.int s0])
  rw [e1]
  have hplH : H pl = none := hpl
  have fin : ∀ (ps : List Int) (l : Int) (H' : Hp), Same H H' → H' pl = some (.lst ((ps ++ [l]).map V.int)) → Fol st A0 R s0 ps l → (ps.length = zs.length ∨ l = -1 ∨ (0 ≤ l ∧ (R l = some 0 ∨ A0[l.toNat]? = some []))) → ps.length ≤ zs.length → rTupOf K [.ref pl] H' Q := fun ps l H' s' k' hF hend hle => ⟨pl, _, rfl, .inl ⟨sqd k', fun t ht => q t ps l _ (s'.trans (same_new ht _)) upd_same hF hend hle⟩⟩
  refine ⟨_, rfl, pk, rfl, ⟨_, s1.seq hz⟩, ?_⟩
  refine for_list (K := K) (a := pk) (xs := zs.map V.int) (fun (j : Nat) (σ : L2.St) (H' : Hp) => ∃ (ps : List Int) (l : Int) (y5 y6 y7 : Option V), σ = [some (.ref b0), some (.ref pp), some (.int s0), some (.ref pk), some (.ref pl), y5, y6, y7] ∧ Same H H' ∧ H' pl = some (.lst ((ps ++ [l]).map V.int)) ∧ Fol st A0 R s0 ps l ∧ ps.length = j ∧ 0 ≤ l) ?_ ?_ ?_ ?_
  · exact ⟨[], s0, _, _, _, rfl, s1, k1, Fol.one s00 s01, rfl, s00⟩
  · rintro j σ H' _ ⟨ps, l, y5, y6, y7, rfl, s2, _⟩
    exact s2.seq hz
  · rintro j x σ H2 hx ⟨ps, l, y5, y6, y7, rfl, s2, k2, hF, hpsl, l0⟩
    rw [List.getElem?_map] at hx
    obtain ⟨zv, hzv, rfl⟩ := Option.map_eq_some_iff.mp hx
    have hjz := (List.getElem?_eq_some_iff.mp hzv).1
    have l1 := hF.lst.2
    have hlast : atI ((ps ++ [l]).map V.int) (-1) = some (V.int l) := by
      rw [List.map_append]
      exact at_last
    obtain ⟨os, x, hos, hatx, b1, ys, rfl, eb1, hys⟩ := (hxs.mono fun o x => PosIn.tp (Tp.same s2)).atI l0 l1
    obtain ⟨bl, pkv, hatl, ebl, hpk⟩ := (hP.tp (Tp.same s2)).atI l0 l1 hos
    refine ⟨_, rfl, _, rfl, _, rfl, pl, _, _, _, rfl, rfl, sqd k2, hlast, pp, _, _, _, rfl, rfl, sqt (s2 _ _ ep), hatl, ?_⟩
    refine ⟨_, rfl, _, rfl, _, rfl, pl, _, _, _, rfl, rfl, sqd k2, hlast, b0, _, _, _, rfl, rfl, sqt (s2 _ _ e0), hatx, ?_⟩
    refine ⟨_, rfl, bl, R l, [pkv], rfl, ebl, fun H3 s3 => ⟨_, rfl, ?_⟩⟩
    have s23 := s2.trans s3
    have k3 := s3 _ _ k2
    by_cases hR0 : R l = some 0
    · refine ifT (decide_eq_true hR0) ?_
      exact ⟨_, rfl, fin ps l H3 s23 k3 hF (.inr (.inr ⟨l0, .inl hR0⟩)) (by omega)⟩
    refine ifF (decide_eq_false hR0) ?_
    refine ⟨_, rfl, Nat.zero_le _, fun te hte => ?_⟩
    obtain ⟨H4, e4, s4, k4⟩ := newH hte (.tup ([] : List V))
    rw [e4]
    have s24 := s23.trans s4
    refine ⟨.tuple (os.map fun o => .tuple (o.map PyData.int)), .tuple [], .tup (sqt ((s3.trans s4) _ _ eb1)) (dp_opts (hys.mono fun o x => OptIn.tp (Tp.same (s3.trans s4)))), .tup (sqt k4) .nil, shaped_opts os, rfl, _, rfl, ?_⟩
    by_cases hne : os = []
    · subst hne
      refine ifT rfl ?_
      exact ⟨_, rfl, fin ps l H4 s24 (s4 _ _ k3) hF (.inr (.inr ⟨l0, .inr hos⟩)) (by omega)⟩
    refine ifF ?_ ?_
    · cases hh : os with
      | nil => exact absurd hh hne
      | cons a r => rfl
    have k4p := s4 _ _ k3
    refine ⟨_, rfl, .inl ⟨rfl, _, sqd k4p⟩, _, rfl, _, rfl, _, rfl, bl, _, pkv, A0, R, l, os, zv, rfl, (s3.trans s4) _ _ ebl, hpk.tp (Tp.same (s3.trans s4)), ⟨b1, ys, rfl, (s3.trans s4) _ _ eb1, hys.mono fun o x => OptIn.tp (Tp.same (s3.trans s4))⟩, hG, l0, hos, hne, hR0, fun qv hs hq0 hq1 => ?_⟩
    refine ⟨pl, _, _, rfl, rfl, k4p, big' (by rw [List.length_map, List.length_append, List.length_singleton]; omega), ?_⟩
    have hF2 := hF.more hs ⟨hq0, hq1⟩
    have s5 : Same H (upd H4 pl (.lst (((ps ++ [l]).map V.int) ++ [V.int qv]))) := same_put s24 hplH
    have k5 : upd H4 pl (.lst (((ps ++ [l]).map V.int) ++ [V.int qv])) pl = some (.lst ((ps ++ [l] ++ [qv]).map V.int)) := by
      rw [upd_same, List.map_append (l₁ := ps ++ [l])]
      rfl
    have hlast2 : atI ((ps ++ [l] ++ [qv]).map V.int) (-1) = some (V.int qv) := by
      rw [List.map_append]
      exact at_last
    refine ⟨_, rfl, _, rfl, pl, _, _, _, rfl, rfl, sqd k5, hlast2, _, rfl, rfl, _, rfl, ?_⟩
    have hle : (ps ++ [l]).length ≤ zs.length := by rw [List.length_append, List.length_singleton]; omega
    by_cases hq1' : qv = -1
    · refine ifT (decide_eq_true (by rw [hq1'])) ?_
      exact ⟨_, rfl, fin (ps ++ [l]) qv _ s5 k5 hF2 (.inr (.inl hq1')) hle⟩
    · refine ifF (decide_eq_false (fun e => hq1' (V.int.inj e))) ?_
      exact ⟨ps ++ [l], qv, _, _, _, rfl, s5, k5, hF2, by rw [List.length_append, List.length_singleton, hpsl], by omega⟩
  · rintro σ H2 ⟨ps, l, y5, y6, y7, rfl, s2, k2, hF, hpsl, l0⟩
    rw [List.length_map] at hpsl
    exact ⟨_, rfl, fin ps l H2 s2 k2 hF (.inl hpsl) (by omega)⟩
end
end NL

set_option maxHeartbeats 4000000
namespace NL
open PySem PySem.Spec PyProof.Rows L2
theorem Stp.rng {st : Bool} {A : Ar} {R : Int → Option Nat} {p q : Int} (hG : ArG A) (h : Stp st A R p q) : -1 ≤ q ∧ q < A.length := by
  obtain ⟨_, _, _, os, o, hos, ho, hq, _⟩ := h
  exact ((hG.2 os (List.mem_of_getElem? hos)).2 o ho).mem q hq
section
variable {A : Ar} {Kp : List Int} {s l : Int} {ps : List Int}
theorem fol_pre {st : Bool} {R : Int → Option Nat} (h : Fol st A R s ps l) {j : Nat} {q : Int} (hq : (ps ++ [l])[j + 1]? = some q) : ∃ p, (ps ++ [l])[j]? = some p ∧ Stp st A R p q := by
  have hl := (List.getElem?_eq_some_iff.mp hq).1
  have hp := List.getElem?_eq_getElem (show j < (ps ++ [l]).length by omega)
  exact ⟨_, hp, h.stp j _ q hp hq⟩
theorem fol_held (hG : ArG A) (h : Fol true A (gR true A Kp) s ps l) (s0 : 0 ≤ s) (s1 : s < A.length) (hs : gR true A Kp s = none) : ∀ (j : Nat) p, (ps ++ [l])[j]? = some p → 0 ≤ p ∧ p < A.length ∧ gR true A Kp p = none := by
  intro j
  induction j with
  | zero =>
    intro p hp
    rw [h.fst] at hp
    cases hp
    exact ⟨s0, s1, hs⟩
  | succ j ih =>
    intro q hq
    obtain ⟨p, hp, hst⟩ := fol_pre h hq
    obtain ⟨p0, p1, hpn⟩ := ih p hp
    have hr := hst.rng hG
    obtain ⟨_, _, _, os, o, _, _, _, hf⟩ := hst
    have h2 : q ≠ -1 ∧ gR true A Kp q = none := by
      unfold fitB at hf
      by_cases hq1 : q = -1
      · rw [if_pos hq1, hpn] at hf
        cases hf
      · rw [if_neg hq1, hpn] at hf
        refine ⟨hq1, ?_⟩
        cases hb : gR true A Kp q with
        | none => rfl
        | some b => rw [hb] at hf; cases hf
    exact ⟨by omega, hr.2, h2.2⟩
theorem fol_down {st : Bool} {R : Int → Option Nat} (hG : ArG A) (h : Fol st A R s ps l) (s0 : 0 ≤ s) (s1 : s < A.length) {r0 : Nat} (hs : R s = some r0) : ∀ (j : Nat) p, (ps ++ [l])[j]? = some p → j ≤ r0 ∧ ((p = -1 ∧ st = true) ∨ (0 ≤ p ∧ p < A.length ∧ ∃ b, R p = some b ∧ b + j ≤ r0)) := by
  intro j
  induction j with
  | zero =>
    intro p hp
    rw [h.fst] at hp
    cases hp
    exact ⟨Nat.zero_le _, .inr ⟨s0, s1, r0, hs, Nat.le_refl _⟩⟩
  | succ j ih =>
    intro q hq
    obtain ⟨p, hp, hst⟩ := fol_pre h hq
    have hr := hst.rng hG
    obtain ⟨p0, p1, hz, os, o, _, _, _, hf⟩ := hst
    obtain ⟨_, hc⟩ := ih p hp
    rcases hc with ⟨e, _⟩ | ⟨_, _, b, hb, hle⟩
    · omega
    · have hb0 : b ≠ 0 := fun e => hz (by rw [hb, e])
      refine ⟨by omega, ?_⟩
      unfold fitB at hf
      by_cases hq1 : q = -1
      · rw [if_pos hq1, hb] at hf
        refine .inl ⟨hq1, ?_⟩
        cases st with
        | true => rfl
        | false => cases hf
      · rw [if_neg hq1, hb] at hf
        cases hbq : R q with
        | none => rw [hbq] at hf; cases hf
        | some bq =>
          rw [hbq] at hf
          have := of_decide_eq_true hf
          exact .inr ⟨by omega, hr.2, bq, rfl, by omega⟩
theorem fol_away (hG : ArG A) (h : Fol false A (gR false A Kp) s ps l) (s0 : 0 ≤ s) (s1 : s < A.length) (hs : gR false A Kp s = none) : ∀ (j : Nat) p, (ps ++ [l])[j]? = some p → p = -1 ∨ (0 ≤ p ∧ p < A.length ∧ gR false A Kp p = none) := by
  intro j
  induction j with
  | zero =>
    intro p hp
    rw [h.fst] at hp
    cases hp
    exact .inr ⟨s0, s1, hs⟩
  | succ j ih =>
    intro q hq
    obtain ⟨p, hp, hst⟩ := fol_pre h hq
    have hr := hst.rng hG
    obtain ⟨p0, p1, hz, os, o, _, _, _, hf⟩ := hst
    rcases ih p hp with e | ⟨_, _, hpn⟩
    · omega
    · by_cases hq1 : q = -1
      · exact .inl hq1
      · unfold fitB at hf
        rw [if_neg hq1, hpn] at hf
        cases hb : gR false A Kp q with
        | none => exact .inr ⟨by omega, hr.2, rfl⟩
        | some b => rw [hb] at hf; cases hf
theorem fol_last : (ps ++ [l])[ps.length]? = some l := by
  rw [List.getElem?_append_right (Nat.le_refl _), Nat.sub_self]
  rfl
/-- the play is played on as it stands, by options that hold its steps -/
theorem play_all : ∀ (rs is : List Int) (p : Int), is.length = rs.length → (∀ (j : Nat) i a b, is[j]? = some i → (p :: rs)[j]? = some a → rs[j]? = some b → stp A a i b = true) → playA A p is rs = rs
  | [], [], p, _, _ => by rw [playA]
  | [], i :: is, p, h, _ => by cases h
  | r :: rs, [], p, h, _ => by cases h
  | r :: rs, i :: is, p, h, hs => by
    rw [playA, hs 0 i p r rfl rfl rfl, if_pos rfl, play_all rs is r (Nat.succ.inj h) fun j i' a b h1 h2 h3 => hs (j + 1) i' a b h1 h2 h3]
end
def lostA (A : Ar) (p : Int) : Bool := decide (p = -1) || (psO A p).isEmpty
section
variable {P : Program} {w : World} {K : PySem.W.Frag} {mg : Str → Option Value} {base : Heap}
/-! ### _law_is_lost -/
def spLostA : Sp := fun vs H Q _ => ∃ (v : V) (A : Ar) (p : Int), vs = [v, .int p] ∧ ArIn H A v ∧ ArG A ∧ -1 ≤ p ∧ p < A.length ∧ Q (.bl (lostA A p)) H
theorem ok_law_is_lost (T : Txt K mg) : FnOk P w K mg base CX0 1 T.a_law_is_lost T.d_law_is_lost P_law_is_lost spLostA := by
  refine T.F_law_is_lost.ok sc_law_is_lost (fun vs H Q E h => ?_) (fun cdv A outer s H vs Q E hr h => ?_)
  · obtain ⟨v, A, p, rfl, _⟩ := h
    rfl
  obtain ⟨v, A0, p, rfl, ⟨b0, xs, rfl, e0, hxs⟩, hG, p0, p1, q⟩ := h
  refine ⟨_, (pss_one (ps_ret (pe_or (pe_cmpR op_eq (pv 1) (pe_un un_neg pe_int) (nomark _)) (pe_one (pe_cmpR op_eq (pe_callB call_len_seq (by rfl) T.z_len PySem.boot_len (pa_cons (pe_ix ix_tup (pv 0) (pv 1) (fun _ _ => rfl)) pa_nil)) pe_int (nomark _)))))), ?_⟩
  refine ⟨_, rfl, _, rfl, rfl, _, rfl, ?_⟩
  by_cases hp : p = -1
  · refine ifT (decide_eq_true (by rw [hp])) (boolE ?_ q)
    unfold lostA
    rw [decide_eq_true hp]
    rfl
  · refine ifF (decide_eq_false (fun e => hp (V.int.inj e))) ?_
    obtain ⟨os, x, hos, hatx, b1, ys, rfl, e1, hys⟩ := hxs.atI (show 0 ≤ p by omega) p1
    have hyl := hys.1
    refine ⟨_, rfl, _, rfl, b0, _, _, _, rfl, rfl, sqt e0, hatx, b1, _, rfl, .inr (sqt e1), rfl, boolE ?_ q⟩
    unfold lostA
    rw [decide_eq_false hp, Bool.false_or, psO_at (by omega) hos]
    cases os with
    | nil => rw [hyl]; rfl
    | cons a r =>
      rw [hyl]
      exact decide_eq_false (fun e => by have := V.int.inj e; rw [List.length_cons] at this; omega)
/-! ### _law_options -/
def spOptsOf : Sp := fun vs H Q _ => ∃ (v : V) (pp : Addr) (A : Ar) (full : List Int), vs = [v, .ref pp] ∧ ArIn H A v ∧ ArG A ∧ H pp = some (.tup (full.map V.int)) ∧ 0 < full.length ∧ full.length ≤ 1000 ∧ (∀ (j : Nat) p q, full[j]? = some p → full[j + 1]? = some q → 0 ≤ p ∧ p < A.length ∧ ∃ os o, A[p.toNat]? = some os ∧ o ∈ os ∧ q ∈ o) ∧
  ∀ (a : Addr) (is : List Int) (H' : Hp), Same H H' → H' a = some (.lst (is.map V.int)) → is.length + 1 = full.length → (∀ (j : Nat) i p q, is[j]? = some i → full[j]? = some p → full[j + 1]? = some q → stp A p i q = true) → Q (.ref a) H'
theorem ok_law_options (T : Txt K mg) : FnOk P w K mg base CX0 1 T.a_law_options T.d_law_options P_law_options spOptsOf := by
  refine T.F_law_options.ok sc_law_options (fun vs H Q E h => ?_) (fun cdv A outer s H vs Q E hr h => ?_)
  · obtain ⟨v, pp, A, full, rfl, _⟩ := h
    rfl
  obtain ⟨v, pp, A0, full, rfl, ⟨b0, xs, rfl, e0, hxs⟩, hG, ep, hf0, hf1, hst, q⟩ := h
  refine ⟨_, (pss_cons (ps_set (i := 2) sc_law_options.nd rfl (Or.inl rfl) (pe_lst pa_nil))
    (pss_cons (ps_for  PassesOwn.never rfl (pi_range1 (by rfl) T.z_range (pa_cons (pe_op op_sub (pe_callB call_len_seq (by rfl) T.z_len PySem.boot_len (pa_cons (pv 1) pa_nil)) pe_int) pa_nil)) (pg_name (i := 3) sc_law_options.nd rfl (Or.inr rfl))
    (pss_cons (ps_setLc (i := 4) (own := [("j", 5)]) (g := (gName 5)) (tt := _) rfl sc_law_options.nd rfl rfl (sw_true rfl rfl rfl (by decide +kernel)) (pi_range1 (by rfl) T.z_range (pa_cons (pe_callB call_len_seq (by rfl) T.z_len PySem.boot_len (pa_cons (pe_ix ix_tup (pv 0) (pe_ix ix_tup (pv 1) (pv 3) (fun _ _ => rfl)) (fun _ _ => rfl)) pa_nil)) pa_nil)) (blkOk_by (N := N_law_options) (sc := defScope s_law_options) (by decide +kernel)) (fun _ _ _ _ _ => (pg_name (i := 5) sc_law_options.nd rfl (Or.inl rfl))) (fun _ _ _ _ _ => (pts_one (pt_cmpR (op_in_seqK (K := K) rfl) (pe_ix (ix_tupK (K := K) rfl) (pv 1) (pe_op op_add (pv 3) pe_int) (fun _ _ => rfl)) (pe_ix (ix_tupK (K := K) rfl) (pe_ix (ix_tupK (K := K) rfl) (pv 0) (pe_ix (ix_tupK (K := K) rfl) (pv 1) (pv 3) (fun _ _ => rfl)) (fun _ _ => rfl)) (pv 5) (fun _ _ => rfl)) (by rfl)))) (fun _ _ _ _ _ => (pv 5)))
    (pss_cons (ps_if (pt_cmpR op_eq (pe_callB call_len_seq (by rfl) T.z_len PySem.boot_len (pa_cons (pv 4) pa_nil)) pe_int (nomark _))
    (pss_one (ps_ret pe_non))
    pss_nil)
    (pss_one (ps_expr (pe_bm PySem.F.plainAttrs_list PySem.F.slot_list_append PySem.F.type_list_append mt_append (pv 2) (pa_cons (pe_ix ix_list (pv 4) pe_int (fun _ _ => rfl)) pa_nil)))))))
    (pss_one (ps_ret (pv 2))))), ?_⟩
  refine ⟨Nat.zero_le _, fun fp hfp => ?_⟩
  obtain ⟨H1, e1, s1, k1⟩ := newH hfp (.lst [])
  rw [e1]
  have hfpH : H fp = none := hfp
  refine ⟨_, rfl, pp, _, rfl, .inr (sqt (s1 _ _ ep)), _, _, rfl, rfl, _, rfl, by rw [List.length_map]; omega, by rw [List.length_map]; omega, ?_⟩
  refine for_range (lo := 0) (n := (((full.map V.int).length : Int) - 1).toNat) (fun (j : Nat) (σ : L2.St) (H' : Hp) => ∃ (is : List Int) (y3 y4 y5 : Option V), σ = [some (.ref b0), some (.ref pp), some (.ref fp), y3, y4, y5] ∧ Same H H' ∧ H' fp = some (.lst (is.map V.int)) ∧ is.length = j ∧ ∀ (j : Nat) i p q, is[j]? = some i → full[j]? = some p → full[j + 1]? = some q → stp A0 p i q = true) ?_ ?_ ?_
  · exact ⟨[], _, _, _, rfl, s1, k1, rfl, fun j i p q h => nomatch h⟩
  · rintro j σ H2 hj ⟨is, y3, y4, y5, rfl, s2, k2, hisl, his⟩
    rw [List.length_map] at hj
    generalize hk : (0 : Int) + (j : Int) = k
    have hkj : k = (j : Int) := by omega
    have hp := List.getElem?_eq_getElem (show j < full.length by omega)
    have hq := List.getElem?_eq_getElem (show j + 1 < full.length by omega)
    generalize full[j] = p at hp
    generalize full[j + 1] = qv at hq
    obtain ⟨p0, p1, os, o, hos, ho, hqo⟩ := hst j p qv hp hq
    have hatp : atI (full.map V.int) k = some (V.int p) := by
      rw [hkj]
      exact atI_nat (by rw [List.getElem?_map, hp]; rfl)
    have hatq : atI (full.map V.int) (k + 1) = some (V.int qv) := by
      rw [hkj]
      exact atI_nat (j := j + 1) (by rw [List.getElem?_map, hq]; rfl)
    obtain ⟨os', x, hos', hatx, b1, ys, rfl, eb1, hys⟩ := hxs.atI p0 p1
    obtain rfl : os' = os := by
      rw [hos] at hos'
      exact (Option.some.inj hos').symm
    have hyl := hys.1
    have hosl := (hG.2 os' (List.mem_of_getElem? hos)).1
    have eps := s2 _ _ ep
    refine ⟨_, rfl, _, rfl, _, rfl, pp, _, _, _, rfl, rfl, sqt eps, hatp, b0, _, _, _, rfl, rfl, sqt (s2 _ _ e0), hatx, b1, _, rfl, .inr (sqt (s2 _ _ eb1)), _, rfl, by omega, by omega, fun L hL => ?_⟩
    refine lc_range (lo := 0) (n := ((ys.length : Nat) : Int).toNat) (fun (c : Nat) (H' : Hp) => Same H2 H' ∧ ∃ js : List Int, H' L = some (.lst (js.map V.int)) ∧ js.length ≤ c ∧ (∀ z ∈ js, ∃ (i : Nat) (o : Opt), z = (i : Int) ∧ os'[i]? = some o ∧ qv ∈ o) ∧ ∀ (i : Nat) (o : Opt), i < c → os'[i]? = some o → qv ∈ o → js ≠ []) ?_ ?_ ?_
    · exact ⟨same_new hL _, [], upd_same, Nat.le_refl 0, fun z hz => (nomatch hz), fun i o hi => absurd hi (Nat.not_lt_zero i)⟩
    · rintro c H3 hc ⟨s3, js, k3, hjl, hjs, hjn⟩
      have hco : c < os'.length := by omega
      have ho2 := List.getElem?_eq_getElem hco
      generalize os'[c] = o2 at ho2
      obtain ⟨x2, hx2, bo, rfl, eo⟩ := hys.at ho2
      have s23 := s2.trans s3
      have haty : atI ys (0 + (c : Int)) = some (V.ref bo) := by
        rw [Int.zero_add]
        exact atI_nat hx2
      refine ⟨rfl, ?_⟩
      refine ⟨_, rfl, _, rfl, _, _, rfl, rfl, pp, _, _, _, rfl, rfl, sqt (s23 _ _ ep), hatq, _, rfl, _, rfl, _, rfl, pp, _, _, _, rfl, rfl, sqt (s23 _ _ ep), hatp, b0, _, _, _, rfl, rfl, sqt (s23 _ _ e0), hatx, _, rfl, b1, _, _, _, rfl, rfl, sqt (s23 _ _ eb1), haty, bo, _, rfl, .inr (sqt (s23 _ _ eo)), rfl, flat_ints' o2, _, rfl, ?_⟩
      rw [if_neg Bool.false_ne_true, int_in]
      by_cases hm : qv ∈ o2
      · rw [decide_eq_true hm]
        refine iteT ⟨_, rfl, _, k3, big' (by rw [List.length_map]; omega), same_put s3 hL, js ++ [0 + (c : Int)], by rw [upd_same, List.map_append]; rfl, by rw [List.length_append, List.length_singleton]; omega, fun z hz => ?_, fun i o _ _ _ => by simp⟩
        rcases List.mem_append.mp hz with h | h
        · exact hjs z h
        · exact ⟨c, o2, by rw [List.mem_singleton.mp h, Int.zero_add], ho2, hm⟩
      · rw [decide_eq_false hm]
        refine iteF ⟨s3, js, k3, by omega, hjs, fun i o' hi ho' hq' => ?_⟩
        by_cases hic : i < c
        · exact hjn i o' hic ho' hq'
        · have : i = c := by omega
          subst this
          rw [ho2] at ho'
          cases ho'
          exact absurd hq' hm
    · rintro H3 ⟨s3, js, k3, hjl, hjs, hjn⟩
      obtain ⟨i1, hi1⟩ := List.getElem?_of_mem ho
      have hne := hjn i1 o (by have := (List.getElem?_eq_some_iff.mp hi1).1; omega) hi1 hqo
      refine ⟨_, rfl, L, _, rfl, .inl (sqd k3), rfl, _, rfl, ?_⟩
      cases js with
      | nil => exact absurd rfl hne
      | cons z r =>
        refine ifF (decide_eq_false (fun e => by have := V.int.inj e; rw [List.length_map, List.length_cons] at this; omega)) ?_
        obtain ⟨i2, o3, rfl, ho3, hq3⟩ := hjs z (List.mem_cons_self ..)
        have kf := s3 _ _ k2
        refine ⟨_, rfl, .inl ⟨rfl, _, sqd kf⟩, _, rfl, L, _, _, _, rfl, rfl, sqd k3, atI0, fp, _, _, rfl, rfl, kf, big' (by rw [List.length_map]; omega), ?_⟩
        refine ⟨is ++ [(i2 : Int)], _, _, _, rfl, same_put (s2.trans s3) hfpH, by rw [upd_same, List.map_append]; rfl, by rw [List.length_append, hisl]; rfl, fun jj i pq qq hi hpq hqq => ?_⟩
        by_cases hjj : jj < j
        · rw [List.getElem?_append_left (by omega)] at hi
          exact his jj i pq qq hi hpq hqq
        · have hj2 : jj = j := by
            have := (List.getElem?_eq_some_iff.mp hi).1
            rw [List.length_append, hisl] at this
            have h1 : [(i2 : Int)].length = 1 := rfl
            omega
          subst hj2
          rw [List.getElem?_append_right (by omega), hisl, Nat.sub_self] at hi
          cases hi
          rw [hp] at hpq
          cases hpq
          rw [hq] at hqq
          cases hqq
          rw [stp_at p0 hos (by omega) (by rw [Int.toNat_natCast]; exact ho3)]
          exact decide_eq_true hq3
  · rintro σ H2 ⟨is, y3, y4, y5, rfl, s2, k2, hisl, his⟩
    rw [List.length_map] at hisl
    exact ⟨_, rfl, q fp is H2 s2 k2 (by omega) his⟩
/-! ### _law_goal, of the two kinds -/
def spGoal : Sp := fun vs H Q _ => ∃ (d : Addr) (v : V) (A : Ar) (st : Bool), vs = [.ref d, v, .int (if st = true then 0 else 1)] ∧ Dr H d ∧ ArIn H A v ∧ A.length ≤ 46 ∧ ∀ (g kp : Addr) (Kp : List Int) H', Go d H H' → H' g = some (.tup [goalW st, .ref kp]) → H' kp = some (.tup (Kp.map V.int)) → (∀ x ∈ Kp, 0 ≤ x) → Q (.ref g) H'
theorem ok_law_goal (T : Txt K mg) : FnOk P w K mg base CX0 3 T.a_law_goal T.d_law_goal P_law_goal spGoal := by
  have G_law_take := ok_law_take (P := P) (w := w) (base := base) T
  have G_law_some := ok_law_some (P := P) (w := w) (base := base) T
  refine T.F_law_goal.ok sc_law_goal (fun vs H Q E h => ?_) (fun cdv A outer s H vs Q E hr h => ?_)
  · obtain ⟨d, v, A, st, rfl, _⟩ := h
    rfl
  obtain ⟨d, v, A0, st, rfl, hD, hA, h46, q⟩ := h
  refine ⟨_, (pss_cons (ps_if (pt_cmpR op_eq (pv 2) pe_int (nomark _))
    (pss_one (ps_ret (pe_tup (pa_cons pe_str (pa_cons (pe_call G_law_some (hr.mono (by omega)) (by rfl) T.m_law_some T.F_law_some.kp T.b_law_some .nil pass0 (pa_cons (pv 0) (pa_cons (pv 1) (pa_cons pe_int pa_nil)))) pa_nil)))))
    pss_nil)
    (pss_cons (ps_if (pt_cmpR op_eq (pv 2) pe_int (nomark _))
    (pss_one (ps_ret (pe_tup (pa_cons pe_str (pa_cons (pe_call G_law_some (hr.mono (by omega)) (by rfl) T.m_law_some T.F_law_some.kp T.b_law_some .nil pass0 (pa_cons (pv 0) (pa_cons (pv 1) (pa_cons pe_int pa_nil)))) pa_nil)))))
    pss_nil)
    (pss_cons (ps_set (i := 3) sc_law_goal.nd rfl (Or.inr rfl) (pe_call G_law_take (hr.mono (by omega)) (by rfl) T.m_law_take T.F_law_take.kp T.b_law_take .nil pass0 (pa_cons (pv 0) (pa_cons pe_int pa_nil))))
    (pss_cons (ps_set (i := 4) sc_law_goal.nd rfl (Or.inr rfl) (pe_op op_add pe_int (pe_call G_law_take (hr.mono (by omega)) (by rfl) T.m_law_take T.F_law_take.kp T.b_law_take .nil pass0 (pa_cons (pv 0) (pa_cons pe_int pa_nil)))))
    (pss_cons (ps_if (pt_cmpR op_eq (pv 2) pe_int (nomark _))
    (pss_cons (ps_set (i := 5) sc_law_goal.nd rfl (Or.inr rfl) (pe_op op_add pe_int (pe_call G_law_take (hr.mono (by omega)) (by rfl) T.m_law_take T.F_law_take.kp T.b_law_take .nil pass0 (pa_cons (pv 0) (pa_cons pe_int pa_nil)))))
    (pss_one (ps_ret (pe_tup (pa_cons pe_str (pa_cons (pe_callTy call_tuple_of (by rfl) T.z_tuple (by decide +kernel) (pa_cons (pe_lc (own := [("k", 6)]) (g := (gName 6)) (tt := tYes) rfl sc_law_goal.nd (pi_range1 (by rfl) T.z_range (pa_cons (pe_callB call_len_seq (by rfl) T.z_len PySem.boot_len (pa_cons (pv 1) pa_nil)) pa_nil)) (blkOk_by (N := N_law_goal) (sc := defScope s_law_goal) (by decide +kernel)) (fun _ _ _ _ _ => (pg_name (i := 6) sc_law_goal.nd rfl (Or.inl rfl))) (fun _ _ _ _ _ => pts_nil) (fun _ _ _ _ _ => (pe_op op_mod (pe_callTy call_int1 (by rfl) T.z_int (by decide +kernel) (pa_cons (pe_op op_add (pe_op op_add (pv 3) (pe_op op_mul (pv 4) (pv 6))) (pe_op op_fdiv (pe_op op_mul (pv 6) (pv 6)) pe_int)) pa_nil)) (pv 5)))) pa_nil)) pa_nil))))))
    pss_nil)
    (pss_cons (ps_set (i := 7) sc_law_goal.nd rfl (Or.inl rfl) (pe_lst pa_nil))
    (pss_cons (ps_for  PassesOwn.never rfl (pi_range1 (by rfl) T.z_range (pa_cons (pe_callB call_len_seq (by rfl) T.z_len PySem.boot_len (pa_cons (pv 1) pa_nil)) pa_nil)) (pg_name (i := 6) sc_law_goal.nd rfl (Or.inr rfl))
    (pss_one (ps_expr (pe_bm PySem.F.plainAttrs_list PySem.F.slot_list_append PySem.F.type_list_append mt_append (pv 7) (pa_cons (pe_callTy call_tuple_of (by rfl) T.z_tuple (by decide +kernel) (pa_cons (pe_lc (own := [("j", 8)]) (g := (gName 8)) (tt := tYes) rfl sc_law_goal.nd (pi_range1 (by rfl) T.z_range (pa_cons (pe_callB call_len_seq (by rfl) T.z_len PySem.boot_len (pa_cons (pe_ix ix_tup (pv 1) (pv 6) (fun _ _ => rfl)) pa_nil)) pa_nil)) (blkOk_by (N := N_law_goal) (sc := defScope s_law_goal) (by decide +kernel)) (fun _ _ _ _ _ => (pg_name (i := 8) sc_law_goal.nd rfl (Or.inl rfl))) (fun _ _ _ _ _ => pts_nil) (fun _ _ _ _ _ => (pe_op op_sub (pe_op op_mod (pe_callTy call_int1 (by rfl) T.z_int (by decide +kernel) (pa_cons (pe_op op_add (pe_op op_add (pv 3) (pe_op op_mul (pv 4) (pv 6))) (pe_op op_mul pe_int (pv 8))) pa_nil)) pe_int) pe_int))) pa_nil)) pa_nil)))))
    (pss_one (ps_ret (pe_tup (pa_cons pe_str (pa_cons (pe_callTy call_tuple_of (by rfl) T.z_tuple (by decide +kernel) (pa_cons (pv 7) pa_nil)) pa_nil)))))))))))), ?_⟩
  cases st with
  | true =>
    refine ⟨_, rfl, rfl, _, rfl, ifT rfl ?_⟩
    refine ⟨_, rfl, _, rfl, d, _, A0, 7, rfl, hD, hA, h46, fun kp Kp H1 g1 ek hnn => ⟨Nat.le_of_ble_eq_true rfl, fun t ht => ?_⟩⟩
    obtain ⟨H2, e2, s2, k2⟩ := newH ht (.tup [V.str "stay", V.ref kp])
    rw [e2]
    exact q t kp Kp H2 (g1.trans (.same g1.dr s2)) k2 (s2 _ _ ek) hnn
  | false =>
    refine ⟨_, rfl, rfl, _, rfl, ifF rfl ?_⟩
    refine ⟨_, rfl, rfl, _, rfl, ifT rfl ?_⟩
    refine ⟨_, rfl, _, rfl, d, _, A0, 2, rfl, hD, hA, h46, fun kp Kp H1 g1 ek hnn => ⟨Nat.le_of_ble_eq_true rfl, fun t ht => ?_⟩⟩
    obtain ⟨H2, e2, s2, k2⟩ := newH ht (.tup [V.str "come", V.ref kp])
    rw [e2]
    exact q t kp Kp H2 (g1.trans (.same g1.dr s2)) k2 (s2 _ _ ek) hnn
end
end NL

set_option maxHeartbeats 4000000
namespace NL
open PySem PySem.Spec PyProof.Rows L2
theorem gR_le' {st : Bool} {A : Ar} {Kp : List Int} (hin : InA A A.length) {p : Int} (h0 : 0 ≤ p) (h1 : p < A.length) {r : Nat} (h : gR st A Kp p = some r) : r ≤ A.length := by
  have hr := gR_is st A Kp p
  rw [h] at hr
  have hc := cnt_rounds (n := A.length) (f := gF st A Kp) (fun k p e => gF_up k p e) r fun k hk => by
    by_cases hex : ∃ i : Nat, i < A.length ∧ gF st A Kp k (i : Int) = false ∧ gF st A Kp (k + 1) (i : Int) = true
    · exact hex
    · exfalso
      have hst : ∀ p, -1 ≤ p → p < (A.length : Int) → gF st A Kp (k + 1) p = gF st A Kp k p := fun p p0 p1 => by
        by_cases hp : p = -1
        · rw [hp, gF_out, gF_out]
        · cases hk0 : gF st A Kp k p with
          | true => exact gF_up k p hk0
          | false =>
            cases hk1 : gF st A Kp (k + 1) p with
            | false => rfl
            | true =>
              exact absurd ⟨p.toNat, by omega, by rw [show ((p.toNat : Nat) : Int) = p by omega]; exact hk0, by rw [show ((p.toNat : Nat) : Int) = p by omega]; exact hk1⟩ hex
      have := mr_stop hin hst r (by omega) p (by omega) h1
      have h2 : gF st A Kp r p = gF st A Kp k p := this
      rw [hr.1, hr.2 k hk] at h2
      cases h2
  exact Nat.le_trans hc (cnt_le _ _)
theorem stay_out0' {A : Ar} {Kp : List Int} {p : Int} (h0 : 0 ≤ p) (h : p ∈ Kp) : gR true A Kp p ≠ some 0 := fun e => by
  have hr := gR_is true A Kp p
  rw [e] at hr
  have := hr.1
  rw [gF_0 h0, if_pos rfl, decide_eq_true h] at this
  cases this
theorem come_out0' {A : Ar} {Kp : List Int} {p : Int} (h0 : 0 ≤ p) (h : gR false A Kp p = some 0) : p ∈ Kp := by
  have hr := gR_is false A Kp p
  rw [h] at hr
  have := hr.1
  rw [gF_0 h0, if_neg Bool.false_ne_true] at this
  exact of_decide_eq_true this
theorem come_away' {A : Ar} {Kp : List Int} {p : Int} (h0 : 0 ≤ p) (h : gR false A Kp p = none) : p ∉ Kp := fun e => by
  have hr := gR_is false A Kp p
  rw [h] at hr
  have := hr 0
  rw [gF_0 h0, if_neg Bool.false_ne_true, decide_eq_true e] at this
  cases this
section
variable {P : Program} {w : World} {K : PySem.W.Frag} {mg : Str → Option Value} {base : Heap}
theorem last_at {ps : List Int} {l : Int} : atI ((ps ++ [l]).map V.int) (-1) = some (V.int l) := by
  rw [List.map_append]
  exact at_last
theorem mem_at {xs : List Int} {x : Int} (h : x ∈ xs) : ∃ j : Nat, xs[j]? = some x := List.getElem?_of_mem h
/-- how a play of 50 picks by a paper ends -/
def EndOf (A : Ar) (R : Int → Option Nat) (ps : List Int) (l : Int) : Prop := ps.length = 50 ∨ l = -1 ∨ (0 ≤ l ∧ (R l = some 0 ∨ A[l.toNat]? = some []))
/-! ### _law_stays -/
def spStays : Sp := fun vs H Q _ => ∃ (v : V) (kp lb pp : Addr) (pk : V) (A : Ar) (Kp : List Int) (s : Int) (ps : List Int) (l : Int), vs = [v, .ref kp, .ref lb, .ref pp, .int 50] ∧ ArIn H A v ∧ ArG A ∧ H kp = some (.tup (Kp.map V.int)) ∧ H lb = some (.tup (lbV true (gR true A Kp s) ++ [pk])) ∧ H pp = some (.tup ((ps ++ [l]).map V.int)) ∧ 0 ≤ s ∧ s < A.length ∧ Fol true A (gR true A Kp) s ps l ∧ EndOf A (gR true A Kp) ps l ∧ ps.length ≤ 50 ∧
  ∀ H', Same H H' → Q (.bl true) H'
theorem ok_law_stays (T : Txt K mg) : FnOk P w K mg base CX0 2 T.a_law_stays T.d_law_stays P_law_stays spStays := by
  have G_law_is_lost := ok_law_is_lost (P := P) (w := w) (base := base) T
  refine T.F_law_stays.ok sc_law_stays (fun vs H Q E h => ?_) (fun cdv A outer s H vs Q E hr h => ?_)
  · obtain ⟨v, kp, lb, pp, pk, A, Kp, s, ps, l, rfl, _⟩ := h
    rfl
  obtain ⟨v, kp, lb, pp, pk, A0, Kp, s0, ps, l, rfl, hA, hG, ek, el, ep, s00, s01, hF, hE, hpl, q⟩ := h
  have h46 := hG.1
  refine ⟨_, (pss_cons (ps_setLc (i := 5) (own := [("at", 6)]) (g := (gName 6)) (tt := _) rfl sc_law_stays.nd rfl rfl (sw_true rfl rfl rfl (by decide +kernel)) (pi_tup (pv 3)) (blkOk_by (N := N_law_stays) (sc := defScope s_law_stays) (by decide +kernel)) (fun _ _ _ _ _ => (pg_name (i := 6) sc_law_stays.nd rfl (Or.inl rfl))) (fun _ _ _ _ _ => (pts_one (pt_cmpR (op_notIn_seqK (K := K) rfl) (pv 6) (pv 1) (by rfl)))) (fun _ _ _ _ _ => (pv 6)))
    (pss_cons (ps_if (pt_cmpR op_eq (pe_ix ix_tup (pv 2) pe_int (fun _ _ => rfl)) pe_str (nomark _))
    (pss_one (ps_ret (pe_and (pe_cmpR op_eq (pe_callB call_len_seq (by rfl) T.z_len PySem.boot_len (pa_cons (pv 3) pa_nil)) (pe_op op_add (pv 4) pe_int) (nomark _)) (pe_one (pe_cmpR op_eq (pe_callB call_len_seq (by rfl) T.z_len PySem.boot_len (pa_cons (pv 5) pa_nil)) pe_int (nomark _))))))
    pss_nil)
    (pss_cons (ps_if (PW.pt (pw_or (pt_cmpR op_ne (pe_ix ix_tup (pv 2) pe_int (fun _ _ => rfl)) pe_str (nomark _)) (pw_or1 (pt_cmpR op_gt (pe_op op_sub (pe_callB call_len_seq (by rfl) T.z_len PySem.boot_len (pa_cons (pv 3) pa_nil)) pe_int) (pe_ix ix_tup (pv 2) pe_int (fun _ _ => rfl)) (nomark _)))))
    (pss_one (ps_ret pe_bl))
    pss_nil)
    (pss_one (ps_ret (pe_or (pe_call G_law_is_lost (hr.mono (by omega)) (by rfl) T.m_law_is_lost T.F_law_is_lost.kp T.b_law_is_lost .nil pass0 (pa_cons (pv 0) (pa_cons (pe_ix ix_tup (pv 3) (pe_un un_neg pe_int) (fun _ _ => rfl)) pa_nil))) (pe_one (pe_cmpR op_notIn_seq (pe_ix ix_tup (pv 3) (pe_un un_neg pe_int) (fun _ _ => rfl)) (pv 1) (by rfl))))))))), ?_⟩
  refine ⟨_, rfl, pp, rfl, ⟨_, sqt ep⟩, fun L hL => ?_⟩
  refine lc_tup (K := K) (a := pp) (xs := (ps ++ [l]).map V.int) (fun (c : Nat) (H' : Hp) => Same H H' ∧ H' L = some (.lst ((((ps ++ [l]).take c).filter (fun x => !decide (x ∈ Kp))).map V.int))) ?_ ?_ ?_ ?_
  · exact ⟨same_new hL _, upd_same⟩
  · rintro c H' _ ⟨s1, _⟩
    exact sqt (s1 _ _ ep)
  · rintro c x H1 hx ⟨s1, k1⟩
    rw [List.getElem?_map] at hx
    obtain ⟨p, hp, rfl⟩ := Option.map_eq_some_iff.mp hx
    have hfl := List.length_filter_le (fun x => !decide (x ∈ Kp)) ((ps ++ [l]).take c)
    rw [List.length_take, List.length_append, List.length_singleton] at hfl
    have hnx : ((ps ++ [l]).take (c + 1)).filter (fun x => !decide (x ∈ Kp)) = ((ps ++ [l]).take c).filter (fun x => !decide (x ∈ Kp)) ++ (if (!decide (p ∈ Kp)) = true then [p] else []) := by
      rw [List.take_add_one, hp, List.filter_append]
      congr 1
      rw [Option.toList_some, List.filter_cons]
      cases (!decide (p ∈ Kp)) <;> rfl
    refine ⟨rfl, ?_⟩
    refine ⟨_, rfl, _, rfl, kp, _, rfl, .inr (sqt (s1 _ _ ek)), rfl, flat_ints' Kp, _, rfl, ?_⟩
    rw [notIn_int]
    cases hin : (!decide (p ∈ Kp)) with
    | true =>
      refine iteT ⟨_, rfl, _, k1, big' (by rw [List.length_map]; omega), same_put s1 hL, ?_⟩
      rw [upd_same, hnx, hin, if_pos rfl, List.map_append]
      rfl
    | false =>
      refine iteF ⟨s1, ?_⟩
      rw [hnx, hin, if_neg Bool.false_ne_true, List.append_nil]
      exact k1
  · rintro H1 ⟨s1, k1⟩
    rw [List.length_map, List.take_length] at k1
    have el1 := s1 _ _ el
    have ep1 := s1 _ _ ep
    cases hR : gR true A0 Kp s0 with
    | none =>
      rw [hR] at el1
      have hheld := fol_held hG hF s00 s01 hR
      have hl := hheld ps.length l fol_last
      have hlen : ps.length = 50 := by
        rcases hE with h | h | ⟨_, h | h⟩
        · exact h
        · omega
        · rw [hl.2.2] at h
          cases h
        · obtain ⟨o, ho, _⟩ := stay_yes (Kp := Kp) hG.inA h (by rw [show ((l.toNat : Nat) : Int) = l by omega]; exact hl.2.2)
          cases ho
      have hnil : (ps ++ [l]).filter (fun x => !decide (x ∈ Kp)) = [] := List.filter_eq_nil_iff.mpr fun x hx => by
        obtain ⟨j, hj⟩ := mem_at hx
        obtain ⟨x0, _, xn⟩ := hheld j x hj
        have hr := gR_is true A0 Kp x
        rw [xn] at hr
        have := hr 0
        rw [gF_0 x0, if_pos rfl] at this
        rw [this]
        exact Bool.false_ne_true
      rw [hnil] at k1
      refine ⟨_, rfl, lb, _, _, _, rfl, rfl, sqt el1, atI0, rfl, _, rfl, ?_⟩
      refine ifT (by decide) ?_
      refine ⟨_, rfl, pp, _, rfl, .inr (sqt ep1), _, rfl, _, _, rfl, rfl, rfl, ⟨true, ?_, iteT ?_⟩⟩
      · rw [List.length_map, List.length_append, List.length_singleton, hlen]
        rfl
      · exact ⟨_, rfl, L, _, rfl, .inl (sqd k1), rfl, boolE rfl (q H1 s1)⟩
    | some r0 =>
      rw [hR] at el1
      have hdown := fol_down hG hF s00 s01 hR
      obtain ⟨hle, hl⟩ := hdown ps.length l fol_last
      refine ⟨_, rfl, lb, _, _, _, rfl, rfl, sqt el1, atI0, rfl, _, rfl, ?_⟩
      refine ifF (by decide) ?_
      refine ⟨_, rfl, lb, _, _, _, rfl, rfl, sqt el1, atI0, rfl, _, rfl, ?_⟩
      refine ifF (by decide) ?_
      refine ⟨_, rfl, pp, _, rfl, .inr (sqt ep1), _, _, rfl, rfl, _, rfl, lb, _, _, _, rfl, rfl, sqt el1, atI1, _, _, rfl, rfl, _, rfl, ?_⟩
      refine ifF (decide_eq_false (by rw [List.length_map, List.length_append, List.length_singleton]; omega)) ?_
      refine ⟨_, rfl, _, rfl, _, rfl, pp, _, _, _, rfl, rfl, sqt ep1, last_at, v, A0, l, rfl, hA.tp (Tp.same s1), hG, hF.lst.1, hF.lst.2, _, rfl, ?_⟩
      cases hlost : lostA A0 l with
      | true => exact ifT rfl (q H1 s1)
      | false =>
        refine ifF rfl ?_
        unfold lostA at hlost
        rw [Bool.or_eq_false_iff] at hlost
        have hl1 : l ≠ -1 := of_decide_eq_false hlost.1
        obtain ⟨l0, l1, b, hb, hbl⟩ := hl.resolve_left (fun e => hl1 e.1)
        have hnk : l ∉ Kp := fun hk => by
          rcases hE with h | h | ⟨_, h | h⟩
          · have := gR_le' hG.inA s00 s01 hR
            omega
          · exact hl1 h
          · exact stay_out0' l0 hk h
          · rw [psO_at l0 h] at hlost
            cases hlost.2
        refine ⟨_, rfl, _, rfl, pp, _, _, _, rfl, rfl, sqt ep1, last_at, _, rfl, kp, _, rfl, .inr (sqt (s1 _ _ ek)), rfl, flat_ints' Kp, boolE ?_ (q H1 s1)⟩
        rw [notIn_int, decide_eq_false hnk]
        rfl
/-! ### _law_comes -/
def spComes : Sp := fun vs H Q _ => ∃ (v : V) (kp lb pp : Addr) (pk : V) (A : Ar) (Kp : List Int) (s : Int) (ps : List Int) (l : Int), vs = [v, .ref kp, .ref lb, .ref pp, .int 50] ∧ ArIn H A v ∧ ArG A ∧ H kp = some (.tup (Kp.map V.int)) ∧ H lb = some (.tup (lbV false (gR false A Kp s) ++ [pk])) ∧ H pp = some (.tup ((ps ++ [l]).map V.int)) ∧ 0 ≤ s ∧ s < A.length ∧ Fol false A (gR false A Kp) s ps l ∧ EndOf A (gR false A Kp) ps l ∧ ps.length ≤ 50 ∧ (∀ x ∈ Kp, 0 ≤ x) ∧
  ∀ H', Same H H' → Q (.bl true) H'
theorem ok_law_comes (T : Txt K mg) : FnOk P w K mg base CX0 2 T.a_law_comes T.d_law_comes P_law_comes spComes := by
  have G_law_is_lost := ok_law_is_lost (P := P) (w := w) (base := base) T
  refine T.F_law_comes.ok sc_law_comes (fun vs H Q E h => ?_) (fun cdv A outer s H vs Q E hr h => ?_)
  · obtain ⟨v, kp, lb, pp, pk, A, Kp, s, ps, l, rfl, _⟩ := h
    rfl
  obtain ⟨v, kp, lb, pp, pk, A0, Kp, s0, ps, l, rfl, hA, hG, ek, el, ep, s00, s01, hF, hE, hpl, hk0, q⟩ := h
  have h46 := hG.1
  refine ⟨_, (pss_cons (ps_if (pt_cmpR op_eq (pe_ix ix_tup (pv 2) pe_int (fun _ _ => rfl)) pe_str (nomark _))
    (pss_one (ps_ret (pe_and (pe_cmpR op_le (pe_op op_sub (pe_callB call_len_seq (by rfl) T.z_len PySem.boot_len (pa_cons (pv 3) pa_nil)) pe_int) (pe_ix ix_tup (pv 2) pe_int (fun _ _ => rfl)) (nomark _)) (pe_one (pe_cmpR op_in_seq (pe_ix ix_tup (pv 3) (pe_un un_neg pe_int) (fun _ _ => rfl)) (pv 1) (by rfl))))))
    pss_nil)
    (pss_cons (ps_if (PW.pt (pw_or (pt_cmpR op_ne (pe_ix ix_tup (pv 2) pe_int (fun _ _ => rfl)) pe_str (nomark _)) (pw_or1 (pt_cmpR op_gt (pe_callB call_len_seq (by rfl) T.z_len PySem.boot_len (pa_cons (pe_lc (own := [("at", 5)]) (g := (gName 5)) (tt := _) rfl sc_law_comes.nd (pi_tup (pv 3)) (blkOk_by (N := N_law_comes) (sc := defScope s_law_comes) (by decide +kernel)) (fun _ _ _ _ _ => (pg_name (i := 5) sc_law_comes.nd rfl (Or.inl rfl))) (fun _ _ _ _ _ => (pts_one (pt_cmpR (op_in_seqK (K := K) rfl) (pv 5) (pv 1) (by rfl)))) (fun _ _ _ _ _ => (pv 5))) pa_nil)) pe_int (nomark _)))))
    (pss_one (ps_ret pe_bl))
    pss_nil)
    (pss_one (ps_ret (pe_or (pe_cmpR op_eq (pe_callB call_len_seq (by rfl) T.z_len PySem.boot_len (pa_cons (pv 3) pa_nil)) (pe_op op_add (pv 4) pe_int) (nomark _)) (pe_one (pe_call G_law_is_lost (hr.mono (by omega)) (by rfl) T.m_law_is_lost T.F_law_is_lost.kp T.b_law_is_lost .nil pass0 (pa_cons (pv 0) (pa_cons (pe_ix ix_tup (pv 3) (pe_un un_neg pe_int) (fun _ _ => rfl)) pa_nil))))))))), ?_⟩
  cases hR : gR false A0 Kp s0 with
  | some r0 =>
    rw [hR] at el
    have hdown := fol_down hG hF s00 s01 hR
    obtain ⟨hle, hl⟩ := hdown ps.length l fol_last
    obtain ⟨l0, l1, b, hb, hbl⟩ := hl.resolve_left (fun e => Bool.false_ne_true e.2)
    have hin : l ∈ Kp := by
      cases b with
      | zero => exact come_out0' l0 hb
      | succ b =>
        exfalso
        rcases hE with h | h | ⟨_, h | h⟩
        · have := gR_le' hG.inA s00 s01 hR
          omega
        · omega
        · rw [hb] at h
          cases h
        · obtain ⟨o, ho, _⟩ := come_yes (Kp := Kp) h (r := b) (by rw [show ((l.toNat : Nat) : Int) = l by omega]; exact hb)
          cases ho
    refine ⟨_, rfl, lb, _, _, _, rfl, rfl, sqt el, atI0, rfl, _, rfl, ?_⟩
    refine ifT (by decide) ?_
    refine ⟨_, rfl, pp, _, rfl, .inr (sqt ep), _, _, rfl, rfl, _, rfl, lb, _, _, _, rfl, rfl, sqt el, atI1, _, _, rfl, rfl, ⟨true, ?_, iteT ?_⟩⟩
    · rw [List.length_map, List.length_append, List.length_singleton]
      exact congrArg V.bl (decide_eq_true (by omega))
    · refine ⟨_, rfl, _, rfl, pp, _, _, _, rfl, rfl, sqt ep, last_at, _, rfl, kp, _, rfl, .inr (sqt ek), rfl, flat_ints' Kp, boolE ?_ (q H (Same.refl H))⟩
      rw [if_neg Bool.false_ne_true, int_in]
      exact decide_eq_true hin
  | none =>
    rw [hR] at el
    have haway := fol_away hG hF s00 s01 hR
    have hl := haway ps.length l fol_last
    refine ⟨_, rfl, lb, _, _, _, rfl, rfl, sqt el, atI0, rfl, _, rfl, ?_⟩
    refine ifF (by decide) ?_
    refine ⟨_, rfl, lb, _, _, _, rfl, rfl, sqt el, atI0, rfl, _, rfl, ?_⟩
    refine ifF (by decide) ?_
    refine ⟨_, rfl, pp, rfl, ⟨_, sqt ep⟩, fun L hL => ?_⟩
    refine lc_tup (K := K) (a := pp) (xs := (ps ++ [l]).map V.int) (fun (c : Nat) (H' : Hp) => Same H H' ∧ H' L = some (.lst (([] : List Int).map V.int))) ?_ ?_ ?_ ?_
    · exact ⟨same_new hL _, upd_same⟩
    · rintro c H' _ ⟨s1, _⟩
      exact sqt (s1 _ _ ep)
    · rintro c x H1 hx ⟨s1, k1⟩
      rw [List.getElem?_map] at hx
      obtain ⟨p, hp, rfl⟩ := Option.map_eq_some_iff.mp hx
      have hnk : p ∉ Kp := by
        rcases haway c p hp with e | ⟨p0, _, hn⟩
        · intro hk
          have := hk0 p hk
          omega
        · exact come_away' p0 hn
      refine ⟨rfl, ?_⟩
      refine ⟨_, rfl, _, rfl, kp, _, rfl, .inr (sqt (s1 _ _ ek)), rfl, flat_ints' Kp, _, rfl, ?_⟩
      rw [if_neg Bool.false_ne_true, int_in, decide_eq_false hnk]
      exact iteF ⟨s1, k1⟩
    · rintro H1 ⟨s1, k1⟩
      refine ⟨L, _, rfl, .inl (sqd k1), _, _, rfl, rfl, _, rfl, ?_⟩
      refine ifF (by decide) ?_
      refine ⟨_, rfl, pp, _, rfl, .inr (sqt (s1 _ _ ep)), _, rfl, _, _, rfl, rfl, rfl, _, rfl, ?_⟩
      by_cases hlen : ps.length = 50
      · refine ifT (decide_eq_true ?_) (q H1 s1)
        rw [List.length_map, List.length_append, List.length_singleton, hlen]
        rfl
      · refine ifF (decide_eq_false (fun e => hlen (by have := V.int.inj e; rw [List.length_map, List.length_append, List.length_singleton] at this; omega))) ?_
        refine ⟨_, rfl, _, rfl, _, rfl, pp, _, _, _, rfl, rfl, sqt (s1 _ _ ep), last_at, v, A0, l, rfl, hA.tp (Tp.same s1), hG, hF.lst.1, hF.lst.2, boolE ?_ (q H1 s1)⟩
        unfold lostA
        rcases hE with h | h | ⟨h0, h | h⟩
        · exact absurd h hlen
        · rw [decide_eq_true h]
          rfl
        · rcases hl with e | ⟨_, _, hn⟩
          · omega
          · rw [hn] at h
            cases h
        · rw [psO_at h0 h]
          exact Bool.or_true _
end
end NL

set_option maxHeartbeats 4000000
namespace NL
open PySem PySem.Spec PyProof.Rows L2
section
variable {P : Program} {w : World} {K : PySem.W.Frag} {mg : Str → Option Value} {base : Heap}
/-! ### _law_picks -/
def spPicks (K : PySem.W.Frag) : Sp := fun vs H Q _ => ∃ (sc d : Addr) (ns : List Int), vs = [.ref sc, .ref d, .int 50] ∧ Dr H d ∧ ns.length ≤ 1000000 ∧ (∀ H', Go d H H' → SqL K H' sc (ns.map V.int)) ∧ ∀ (a : Addr) (zs : List Int) (H' : Hp), Go d H H' → H' a = some (.lst (zs.map V.int)) → zs.length = 50 → Q (.ref a) H'
theorem ok_law_picks (T : Txt K mg) : FnOk P w K mg base CX0 2 T.a_law_picks T.d_law_picks P_law_picks (spPicks K) := by
  have G_law_take := ok_law_take (P := P) (w := w) (base := base) T
  refine T.F_law_picks.ok sc_law_picks (fun vs H Q E h => ?_) (fun cdv A outer s H vs Q E hr h => ?_)
  · obtain ⟨sc, d, ns, rfl, _⟩ := h
    rfl
  obtain ⟨sc, d, ns, rfl, hD, hnl, hsc, q⟩ := h
  refine ⟨_, (pss_cons (ps_set (i := 3) sc_law_picks.nd rfl (Or.inl rfl) (pe_call G_law_take (hr.mono (by omega)) (by rfl) T.m_law_take T.F_law_take.kp T.b_law_take .nil pass0 (pa_cons (pv 1) (pa_cons pe_int pa_nil))))
    (pss_cons (ps_set (i := 4) sc_law_picks.nd rfl (Or.inr rfl) (pe_call G_law_take (hr.mono (by omega)) (by rfl) T.m_law_take T.F_law_take.kp T.b_law_take .nil pass0 (pa_cons (pv 1) (pa_cons pe_int pa_nil))))
    (pss_cons (ps_set (i := 5) sc_law_picks.nd rfl (Or.inr rfl) (pe_call G_law_take (hr.mono (by omega)) (by rfl) T.m_law_take T.F_law_take.kp T.b_law_take .nil pass0 (pa_cons (pv 1) (pa_cons pe_int pa_nil))))
    (pss_cons (ps_if (PW.pt (pw_and (pt_cmpR op_eq (pv 3) pe_int (nomark _)) (pw_and1 (pt_cmpR op_gt (pe_callB call_len_seq (by rfl) T.z_len PySem.boot_len (pa_cons (pv 0) pa_nil)) pe_int (nomark _)))))
    (pss_one (ps_ret (pe_lc (own := [("k", 6)]) (g := (gName 6)) (tt := tYes) rfl sc_law_picks.nd (pi_range1 (by rfl) T.z_range (pa_cons (pv 2) pa_nil)) (blkOk_by (N := N_law_picks) (sc := defScope s_law_picks) (by decide +kernel)) (fun _ _ _ _ _ => (pg_name (i := 6) sc_law_picks.nd rfl (Or.inl rfl))) (fun _ _ _ _ _ => pts_nil) (fun _ _ _ _ _ => (pe_callTy call_int1 (by rfl) T.z_int (by decide +kernel) (pa_cons (pe_ix (ix_listK (K := K) rfl) (pv 0) (pe_op op_mod (pv 6) (pe_callB (call_len_seqK (K := K) rfl) (by rfl) T.z_len PySem.boot_len (pa_cons (pv 0) pa_nil))) (fun _ _ => rfl)) pa_nil))))))
    pss_nil)
    (pss_cons (ps_if (pt_cmpR op_eq (pv 3) pe_int (nomark _))
    (pss_one (ps_ret (pe_lc (own := [("k", 6)]) (g := (gName 6)) (tt := tYes) rfl sc_law_picks.nd (pi_range1 (by rfl) T.z_range (pa_cons (pv 2) pa_nil)) (blkOk_by (N := N_law_picks) (sc := defScope s_law_picks) (by decide +kernel)) (fun _ _ _ _ _ => (pg_name (i := 6) sc_law_picks.nd rfl (Or.inl rfl))) (fun _ _ _ _ _ => pts_nil) (fun _ _ _ _ _ => (pe_op op_sub (pe_op op_mod (pe_callTy call_int1 (by rfl) T.z_int (by decide +kernel) (pa_cons (pe_op op_add (pv 4) (pe_op op_mul (pe_op op_mul (pv 5) (pv 6)) (pv 6))) pa_nil)) pe_int) pe_int)))))
    pss_nil)
    (pss_one (ps_ret (pe_lc (own := [("k", 6)]) (g := (gName 6)) (tt := tYes) rfl sc_law_picks.nd (pi_range1 (by rfl) T.z_range (pa_cons (pv 2) pa_nil)) (blkOk_by (N := N_law_picks) (sc := defScope s_law_picks) (by decide +kernel)) (fun _ _ _ _ _ => (pg_name (i := 6) sc_law_picks.nd rfl (Or.inl rfl))) (fun _ _ _ _ _ => pts_nil) (fun _ _ _ _ _ => (pe_callTy call_int1 (by rfl) T.z_int (by decide +kernel) (pa_cons (pe_op op_add (pe_op op_add (pv 4) (pe_op op_mul (pv 5) (pv 6))) (pe_op op_fdiv (pv 6) pe_int)) pa_nil))))))))))), ?_⟩
  refine ⟨_, rfl, d, 3, rfl, hD, by decide, fun kd H1 g1 kd0 kd1 => ?_⟩
  refine ⟨_, rfl, d, 900, rfl, g1.dr, by decide, fun fi H2 g2 fi0 fi1 => ?_⟩
  refine ⟨_, rfl, d, 900, rfl, g2.dr, by decide, fun sp H3 g3 sp0 sp1 => ?_⟩
  have g13 := (g1.trans g2).trans g3
  have hs3 := hsc H3 g13
  -- a list of fifty
  have fifty : ∀ (L : Addr) (H' : Hp), H3 L = none → Same H3 H' → (∃ zs : List Int, H' L = some (.lst (zs.map V.int)) ∧ zs.length = 50) → Q (.ref L) H' := fun L H' _ s' ⟨zs, k, hl⟩ => q L zs H' (g13.trans (.same g3.dr s')) k hl
  have add : ∀ (L : Addr) (i : Nat) (zs : List Int) (z : Int) (H' : Hp), H3 L = none → Same H3 H' → H' L = some (.lst (zs.map V.int)) → zs.length = i → i < 50 → ∃ acc, H' L = some (.lst acc) ∧ acc.length < sizeLine ∧ (Same H3 (upd H' L (.lst (acc ++ [V.int z]))) ∧ ∃ zs : List Int, upd H' L (.lst (acc ++ [V.int z])) L = some (.lst (zs.map V.int)) ∧ zs.length = i + 1) := fun L i zs z H' hL s' k hl hi => ⟨_, k, big' (by rw [List.length_map]; omega), same_put s' hL, zs ++ [z], by rw [upd_same, List.map_append]; rfl, by rw [List.length_append, hl]; rfl⟩
  let I (L : Addr) : Nat → Hp → Prop := fun i H' => Same H3 H' ∧ ∃ zs : List Int, H' L = some (.lst (zs.map V.int)) ∧ zs.length = i
  have two : ∀ (G : Prop), (kd = 2 ∧ 0 < ns.length → G) → (¬ (kd = 2 ∧ 0 < ns.length) → G) → G := fun G h1 h2 => by
    by_cases h : kd = 2 ∧ 0 < ns.length
    · exact h1 h
    · exact h2 h
  refine two _ (fun hc => ?_) (fun hc => ?_)
  · obtain ⟨hk2, hn0⟩ := hc
    refine ⟨_, rfl, rfl, _, rfl, ifT (decide_eq_true (by rw [hk2])) ?_⟩
    refine ⟨_, rfl, sc, _, rfl, .inl hs3, _, _, rfl, rfl, _, rfl, ifT (decide_eq_true (by rw [List.length_map]; omega)) ?_⟩
    refine ⟨_, rfl, 50, rfl, by decide, by decide, fun L hL => ?_⟩
    refine lc_range (lo := 0) (n := (50 : Int).toNat) (I L) ?_ ?_ ?_
    · exact ⟨same_new hL _, [], upd_same, rfl⟩
    · rintro i H' hi ⟨s', zs, k, hl⟩
      have hi50 : i < 50 := hi
      generalize hkk : (0 : Int) + (i : Int) = kk
      have hs' := s'.seq hs3
      have hz1 : 0 ≤ kk % ((ns.map V.int).length : Int) := Int.emod_nonneg _ (by rw [List.length_map]; omega)
      have hz2 : kk % ((ns.map V.int).length : Int) < ((ns.map V.int).length : Int) := Int.emod_lt_of_pos _ (by rw [List.length_map]; omega)
      obtain ⟨z, hz, _⟩ := atI_map (f := V.int) (xs := ns) hz1 (by rw [List.length_map] at hz2; rw [List.length_map]; exact hz2)
      refine ⟨rfl, yes_if ?_⟩
      refine ⟨_, rfl, _, rfl, _, rfl, sc, _, rfl, .inl hs', _, _, rfl, rfl, by rw [List.length_map]; omega, sc, _, _, _, rfl, rfl, hs', hz, .inl ⟨_, rfl, ?_⟩⟩
      exact add L i zs z H' hL s' k hl hi50
    · rintro H' ⟨s', zs, k, hl⟩
      exact fifty L H' hL s' ⟨zs, k, hl⟩
  · rcases (show kd ≠ 2 ∨ (kd = 2 ∧ ns.length = 0) by omega) with h2 | ⟨h2, h0⟩
    · refine ⟨_, rfl, rfl, _, rfl, ifF (decide_eq_false (fun e => h2 (V.int.inj e))) ?_⟩
      refine ⟨_, rfl, rfl, _, rfl, ?_⟩
      by_cases hk1 : kd = 1
      · refine ifT (decide_eq_true (by rw [hk1])) ?_
        refine ⟨_, rfl, 50, rfl, by decide, by decide, fun L hL => ?_⟩
        refine lc_range (lo := 0) (n := (50 : Int).toNat) (I L) ?_ ?_ ?_
        · exact ⟨same_new hL _, [], upd_same, rfl⟩
        · rintro i H' hi ⟨s', zs, k, hl⟩
          have hi50 : i < 50 := hi
          generalize hkk : (0 : Int) + (i : Int) = kk
          have hkk0 : 0 ≤ kk ∧ kk < 50 := by omega
          have hm0 : 0 ≤ sp * kk := Int.mul_nonneg sp0 hkk0.1
          have hm1 : sp * kk ≤ 900 * 50 := Int.mul_le_mul (by omega) (by omega) hkk0.1 (by omega)
          refine ⟨rfl, yes_if ?_⟩
          refine ⟨_, rfl, _, rfl, _, rfl, _, _, rfl, rfl, .inl ⟨by omega, by omega⟩, _, rfl, _, _, rfl, rfl, .inr ⟨by omega, by omega⟩, _, _, rfl, rfl, .inl ⟨_, rfl, _, _, rfl, rfl, (by show (0 : Int) < 1009; decide), _, _, rfl, rfl, ?_⟩⟩
          exact add L i zs _ H' hL s' k hl hi50
        · rintro H' ⟨s', zs, k, hl⟩
          exact fifty L H' hL s' ⟨zs, k, hl⟩
      · refine ifF (decide_eq_false (fun e => hk1 (V.int.inj e))) ?_
        refine ⟨_, rfl, 50, rfl, by decide, by decide, fun L hL => ?_⟩
        refine lc_range (lo := 0) (n := (50 : Int).toNat) (I L) ?_ ?_ ?_
        · exact ⟨same_new hL _, [], upd_same, rfl⟩
        · rintro i H' hi ⟨s', zs, k, hl⟩
          have hi50 : i < 50 := hi
          generalize hkk : (0 : Int) + (i : Int) = kk
          have hkk0 : 0 ≤ kk ∧ kk < 50 := by omega
          refine ⟨rfl, yes_if ?_⟩
          refine ⟨_, rfl, _, rfl, _, rfl, _, _, rfl, rfl, .inl ⟨by omega, by omega⟩, _, _, rfl, rfl, _, rfl, _, _, rfl, rfl, ⟨by omega, by omega⟩, _, _, rfl, rfl, .inl ⟨_, rfl, ?_⟩⟩
          exact add L i zs _ H' hL s' k hl hi50
        · rintro H' ⟨s', zs, k, hl⟩
          exact fifty L H' hL s' ⟨zs, k, hl⟩
    · refine ⟨_, rfl, rfl, _, rfl, ifT (decide_eq_true (by rw [h2])) ?_⟩
      refine ⟨_, rfl, sc, _, rfl, .inl hs3, _, _, rfl, rfl, _, rfl, ifF (decide_eq_false (by rw [List.length_map, h0]; decide)) ?_⟩
      refine ⟨_, rfl, rfl, _, rfl, ?_⟩
      by_cases hk1 : kd = 1
      · refine ifT (decide_eq_true (by rw [hk1])) ?_
        refine ⟨_, rfl, 50, rfl, by decide, by decide, fun L hL => ?_⟩
        refine lc_range (lo := 0) (n := (50 : Int).toNat) (I L) ?_ ?_ ?_
        · exact ⟨same_new hL _, [], upd_same, rfl⟩
        · rintro i H' hi ⟨s', zs, k, hl⟩
          have hi50 : i < 50 := hi
          generalize hkk : (0 : Int) + (i : Int) = kk
          have hkk0 : 0 ≤ kk ∧ kk < 50 := by omega
          have hm0 : 0 ≤ sp * kk := Int.mul_nonneg sp0 hkk0.1
          have hm1 : sp * kk ≤ 900 * 50 := Int.mul_le_mul (by omega) (by omega) hkk0.1 (by omega)
          refine ⟨rfl, yes_if ?_⟩
          refine ⟨_, rfl, _, rfl, _, rfl, _, _, rfl, rfl, .inl ⟨by omega, by omega⟩, _, rfl, _, _, rfl, rfl, .inr ⟨by omega, by omega⟩, _, _, rfl, rfl, .inl ⟨_, rfl, _, _, rfl, rfl, (by show (0 : Int) < 1009; decide), _, _, rfl, rfl, ?_⟩⟩
          exact add L i zs _ H' hL s' k hl hi50
        · rintro H' ⟨s', zs, k, hl⟩
          exact fifty L H' hL s' ⟨zs, k, hl⟩
      · refine ifF (decide_eq_false (fun e => hk1 (V.int.inj e))) ?_
        refine ⟨_, rfl, 50, rfl, by decide, by decide, fun L hL => ?_⟩
        refine lc_range (lo := 0) (n := (50 : Int).toNat) (I L) ?_ ?_ ?_
        · exact ⟨same_new hL _, [], upd_same, rfl⟩
        · rintro i H' hi ⟨s', zs, k, hl⟩
          have hi50 : i < 50 := hi
          generalize hkk : (0 : Int) + (i : Int) = kk
          have hkk0 : 0 ≤ kk ∧ kk < 50 := by omega
          refine ⟨rfl, yes_if ?_⟩
          refine ⟨_, rfl, _, rfl, _, rfl, _, _, rfl, rfl, .inl ⟨by omega, by omega⟩, _, _, rfl, rfl, _, rfl, _, _, rfl, rfl, ⟨by omega, by omega⟩, _, _, rfl, rfl, .inl ⟨_, rfl, ?_⟩⟩
          exact add L i zs _ H' hL s' k hl hi50
        · rintro H' ⟨s', zs, k, hl⟩
          exact fifty L H' hL s' ⟨zs, k, hl⟩
end
end NL

set_option maxHeartbeats 4000000
namespace NL
open PySem PySem.Spec PyProof.Rows L2
section
variable {P : Program} {w : World} {K : PySem.W.Frag} {mg : Str → Option Value} {base : Heap}
def Scr (K : PySem.W.Frag) (H : Hp) (d a : Addr) (xs : List V) : Prop := SqL K H a xs ∧ (a ≠ d ∨ ∀ H', SqL K H' a xs)
theorem scr_of {H : Hp} {d a : Addr} {xs : List V} (h : SqL K H a xs) (hd : H d = none) : Scr K H d a xs := by
  refine ⟨h, ?_⟩
  rcases h with (e | ⟨o, e⟩) | e
  · exact .inl fun z => by
      rw [z, hd] at e
      cases e
  · exact .inl fun z => by
      rw [z, hd] at e
      cases e
  · exact .inr fun _ => .inr e
theorem Scr.go {H H' : Hp} {d a : Addr} {xs : List V} (h : Scr K H d a xs) (g : Go d H H') : Scr K H' d a xs := by
  rcases h.2 with ne | al
  · refine ⟨?_, .inl ne⟩
    rcases h.1 with (e | ⟨o, e⟩) | e
    · exact .inl (.inl (g.fr _ _ ne e))
    · exact .inl (.inr ⟨o, g.fr _ _ ne e⟩)
    · exact .inr e
  · exact ⟨al H', .inr al⟩
theorem Scr.sm {Pt : Addr} {H H' : Hp} {d a : Addr} {xs : List V} (h : Scr K H d a xs) (s : Sm Pt H H') : Scr K H' d a xs := ⟨s.seqL h.1, h.2⟩
theorem cut_one' (l : List Int) : cutV (l.map V.int) (some 1) none = l.tail.map V.int := by
  unfold cutV
  rw [HT.sIx_none, show HT.sIx (l.map V.int).length 0 (some 1) = min 1 (l.map V.int).length from HT.sIx_nat _ _ _]
  cases l with
  | nil => rfl
  | cons a r =>
    rw [show min 1 ((a :: r).map V.int).length = 1 by rw [List.length_map, List.length_cons]; omega, List.map_cons, List.drop_succ_cons, List.drop_zero, List.tail_cons]
    exact List.take_of_length_le (by rw [List.length_cons]; omega)
theorem shaped_tupG (l : List Int) : SeqAt.shaped (.tuple (l.map PyData.int)) = true := by
  obtain ⟨h1, h2⟩ := lay_intsG l
  show (PyData.canLayAll0 (l.map PyData.int) && decide (PyData.depthAll (l.map PyData.int) + 1 ≤ 64)) = true
  rw [h1, h2]
  rfl
theorem any_st {k : Nat} {f : Addr} {fd : FuncData} {ps : List Str} {sp : Bool → Sp} (h : ∀ st : Bool, FnOk P w K mg base CX0 k f fd ps (sp st)) : FnOk P w K mg base CX0 k f fd ps (fun vs H Q E => ∃ st, sp st vs H Q E) :=
  ⟨fun vs H Q E ⟨st, z⟩ => (h st).len vs H Q E z, fun A outer s H args us vs Q E a b c d ⟨st, z⟩ => (h st).run A outer s H args us vs Q E a b c d z⟩
theorem ok_law (T : Txt K mg) {c Pt : Addr} (TB : GxR.TabB base mg c Pt) (hc : T.dforces.code = .ref c) : FnOk P w K mg base CX0 8 T.alaw T.dlaw Plaw (spLawT K Pt) := by
  have G_law_draws := ok_law_draws (P := P) (w := w) (base := base) T
  have G_law_take := ok_law_take (P := P) (w := w) (base := base) T
  have G_law_arena := ok_law_arena (P := P) (w := w) (base := base) T
  have G_law_goal := ok_law_goal (P := P) (w := w) (base := base) T
  have G_law_picks := ok_law_picks (P := P) (w := w) (base := base) T
  have Gtold_paper := any_st (fun st => ok_told_paper (P := P) (w := w) T TB hc st)
  have Gfollow := any_st (fun st => ok_follow (P := P) (w := w) (base := base) T st)
  have G_law_options := ok_law_options (P := P) (w := w) (base := base) T
  have Gplay_on := ok_play_on (P := P) (w := w) (base := base) T
  have G_law_stays := ok_law_stays (P := P) (w := w) (base := base) T
  have G_law_comes := ok_law_comes (P := P) (w := w) (base := base) T
  refine T.Flaw.ok sclaw (fun vs H Q E h => ?_) (fun cdv A outer s H vs Q E hr h => ?_)
  · obtain ⟨a, ns, rfl, _⟩ := h
    rfl
  obtain ⟨a, ns, rfl, hSq, hl, hT, q⟩ := h
  refine ⟨_, (pss_cons (ps_set (i := 1) sclaw.nd rfl (Or.inl rfl) (pe_call G_law_draws (hr.mono (by omega)) (by rfl) T.m_law_draws T.F_law_draws.kp T.b_law_draws .nil pass0 (pa_cons (pv 0) (pa_cons pe_int pa_nil))))
    (pss_cons (ps_set (i := 2) sclaw.nd rfl (Or.inl rfl) (pe_call G_law_arena (hr.mono (by omega)) (by rfl) T.m_law_arena T.F_law_arena.kp T.b_law_arena .nil pass0 (pa_cons (pv 1) (pa_cons pe_int pa_nil))))
    (pss_cons (ps_if (pt_cmpR op_eq (pe_callB call_len_seq (by rfl) T.z_len PySem.boot_len (pa_cons (pv 2) pa_nil)) pe_int (nomark _))
    (pss_one (ps_ret pe_bl))
    pss_nil)
    (pss_cons (ps_for  PassesOwn.never rfl (pi_range1 (by rfl) T.z_range (pa_cons pe_int pa_nil)) (pg_name (i := 3) sclaw.nd rfl (Or.inl rfl))
    (pss_cons (ps_set (i := 4) sclaw.nd rfl (Or.inl rfl) (pe_call G_law_goal (hr.mono (by omega)) (by rfl) T.m_law_goal T.F_law_goal.kp T.b_law_goal .nil pass0 (pa_cons (pv 1) (pa_cons (pv 2) (pa_cons (pv 3) pa_nil)))))
    (pss_cons (ps_set (i := 5) sclaw.nd rfl (Or.inl rfl) (pe_call Gtold_paper (hr.mono (by omega)) (by rfl) T.mtold_paper T.Ftold_paper.kp T.btold_paper .nil pass0 (pa_cons (pv 2) (pa_cons (pv 4) pa_nil))))
    (pss_cons (ps_set (i := 6) sclaw.nd rfl (Or.inl rfl) (pe_call G_law_take (hr.mono (by omega)) (by rfl) T.m_law_take T.F_law_take.kp T.b_law_take .nil pass0 (pa_cons (pv 1) (pa_cons (pe_callB call_len_seq (by rfl) T.z_len PySem.boot_len (pa_cons (pv 2) pa_nil)) pa_nil))))
    (pss_cons (ps_set (i := 7) sclaw.nd rfl (Or.inl rfl) (pe_call G_law_picks (hr.mono (by omega)) (by rfl) T.m_law_picks T.F_law_picks.kp T.b_law_picks .nil pass0 (pa_cons (pv 0) (pa_cons (pv 1) (pa_cons pe_int pa_nil)))))
    (pss_cons (ps_set (i := 8) sclaw.nd rfl (Or.inl rfl) (pe_call Gfollow (hr.mono (by omega)) (by rfl) T.mfollow T.Ffollow.kp T.bfollow .nil pass0 (pa_cons (pv 2) (pa_cons (pv 5) (pa_cons (pv 6) (pa_cons (pv 7) pa_nil))))))
    (pss_cons (ps_if (PW.pt (pw_or (pt_not (pt_val (pe_callB (call_isi) (by rfl) T.z_isinstance (by decide +kernel) (pa_cons (pv 8) (pa_cons (pe_bltn (v := .ty "tuple") (u := .type "tuple") (by rfl) T.z_tuple (by decide +kernel) rfl) pa_nil))))) (pw_or (pt_cmpR op_eq (pe_callB call_len_seq (by rfl) T.z_len PySem.boot_len (pa_cons (pv 8) pa_nil)) pe_int (nomark _)) (pw_or1 (pt_cmpR op_ne (pe_ix ix_tup (pv 8) pe_int (fun _ _ => rfl)) (pv 6) (nomark _))))))
    (pss_one (ps_ret pe_bl))
    pss_nil)
    (pss_cons (ps_set (i := 9) sclaw.nd rfl (Or.inl rfl) (pe_call G_law_options (hr.mono (by omega)) (by rfl) T.m_law_options T.F_law_options.kp T.b_law_options .nil pass0 (pa_cons (pv 2) (pa_cons (pv 8) pa_nil))))
    (pss_cons (ps_if (PW.pt (pw_or (pt_cmpR op_isN (pv 9) pe_non (nomark _)) (pw_or1 (pt_cmpR (op_neD hr.units) (pe_call Gplay_on (hr.mono (by omega)) (by rfl) T.mplay_on T.Fplay_on.kp T.bplay_on .nil pass0 (pa_cons (pv 2) (pa_cons (pv 6) (pa_cons (pv 9) (pa_cons (pe_slice sl_tupA (pv 8) (po_some pe_int) po_none) pa_nil))))) (pv 8) (nomark _)))))
    (pss_one (ps_ret pe_bl))
    pss_nil)
    (pss_cons (ps_if (PW.pt (pw_and (pt_cmpR op_eq (pv 3) pe_int (nomark _)) (pw_and1 (pt_not (pt_val (pe_call G_law_stays (hr.mono (by omega)) (by rfl) T.m_law_stays T.F_law_stays.kp T.b_law_stays .nil pass0 (pa_cons (pv 2) (pa_cons (pe_ix ix_tup (pv 4) pe_int (fun _ _ => rfl)) (pa_cons (pe_ix ix_tup (pv 5) (pv 6) (fun _ _ => rfl)) (pa_cons (pv 8) (pa_cons pe_int pa_nil)))))))))))
    (pss_one (ps_ret pe_bl))
    pss_nil)
    (pss_one (ps_if (PW.pt (pw_and (pt_cmpR op_eq (pv 3) pe_int (nomark _)) (pw_and1 (pt_not (pt_val (pe_call G_law_comes (hr.mono (by omega)) (by rfl) T.m_law_comes T.F_law_comes.kp T.b_law_comes .nil pass0 (pa_cons (pv 2) (pa_cons (pe_ix ix_tup (pv 4) pe_int (fun _ _ => rfl)) (pa_cons (pe_ix ix_tup (pv 5) (pv 6) (fun _ _ => rfl)) (pa_cons (pv 8) (pa_cons pe_int pa_nil)))))))))))
    (pss_one (ps_ret pe_bl))
    pss_nil))))))))))))
    (pss_one (ps_ret pe_bl)))))), ?_⟩
  refine ⟨_, rfl, a, ns, 196, rfl, hSq, hl, by decide, by decide, fun d H1 s1 hd D1 => ?_⟩
  have hT1 := TabG.same hT s1
  refine ⟨_, rfl, d, 7, rfl, D1, by decide, by decide, fun v A0 H2 g2 hA hG => ?_⟩
  have hT2 := Go.tab g2 D1 hT1
  obtain ⟨b0, xs, rfl, e0, hxs⟩ := id hA
  have hxl := hxs.1
  have h46 := hG.1
  refine ⟨_, rfl, b0, _, rfl, .inr (sqt e0), rfl, _, rfl, ?_⟩
  refine ite2 (fun z => q _) (fun z => ?_)
  have hz := int_ne z
  refine ⟨_, rfl, by decide, by decide, ?_⟩
  refine for_range (lo := 0) (n := (2 : Int).toNat) (fun (j : Nat) (σ : L2.St) (H' : Hp) => ∃ y4 y5 y6 y7 y8 y9 : Option V, ∃ y3 : Option V, σ = [some (.ref a), some (.ref d), some (.ref b0), y3, y4, y5, y6, y7, y8, y9] ∧ Dr H' d ∧ Tp H2 H' ∧ GxR.TabG H' Pt ∧ Scr K H' d a (ns.map V.int)) ?_ ?_ ?_
  · exact ⟨_, _, _, _, _, _, _, rfl, g2.dr, Tp.refl, hT2, ((scr_of hSq hd).sm (Sm.of (P := Pt) s1)).go g2⟩
  · rintro j σ H3 hj ⟨y4, y5, y6, y7, y8, y9, y3, rfl, D3, tp3, hT3, hsc3⟩
    have hj2 : j < 2 := hj
    obtain ⟨st, hst⟩ : ∃ st : Bool, (0 : Int) + (j : Int) = if st = true then 0 else 1 := by
      rcases (show j = 0 ∨ j = 1 by omega) with h | h
      · exact ⟨true, by rw [h]; rfl⟩
      · exact ⟨false, by rw [h]; rfl⟩
    rw [hst]
    have hA3 := hA.tp tp3
    refine ⟨_, rfl, _, rfl, _, rfl, d, _, A0, st, rfl, D3, hA3, h46, fun g kp Kp H4 g4 eg ek hnn => ?_⟩
    have hT4 := Go.tab g4 D3 hT3
    have tp4 := tp3.trans (g4.tp D3)
    refine ⟨_, rfl, _, rfl, st, _, A0, g, kp, Kp, rfl, hA.tp tp4, hG, eg, ek, hT4, fun pp ls H5 s5 ep hP => ?_⟩
    have hT5 := s5.tb hT4
    have tp5 := tp4.trans s5.tp
    obtain ⟨dns, ed4⟩ := g4.dr
    have D5 : Dr H5 d := ⟨dns, s5.lst ed4⟩
    refine ⟨_, rfl, _, rfl, b0, _, rfl, .inr (sqt (tp5 _ _ e0)), d, _, rfl, D5, by omega, fun s0 H6 g6 s00 s01' => ?_⟩
    have s01 : s0 < A0.length := by omega
    have hT6 := Go.tab g6 D5 hT5
    have tp6 := tp5.trans (g6.tp D5)
    refine ⟨_, rfl, _, rfl, a, d, ns, rfl, g6.dr, by omega, ?_, fun pk zs H7 g7 ezs hzl => ?_⟩
    · exact fun H' g' => ((((hsc3.go g4).sm s5).go g6).go g').1
    have hT7 := Go.tab g7 g6.dr hT6
    have tp7 := tp6.trans (g7.tp g6.dr)
    have ep7 := g7.tp g6.dr _ _ (g6.tp D5 _ _ ep)
    have hP7 := hP.tp ((g6.tp D5).trans (g7.tp g6.dr))
    refine ⟨_, rfl, _, rfl, _, rfl, _, rfl, st, _, pp, pk, ls, A0, _, s0, zs, rfl, hA.tp tp7, hG, ep7, hP7, s00, s01, sqd ezs, by omega, fun fp ps l H8 s8 efp hF hE hple => ?_⟩
    rw [hzl] at hE hple
    have tp8 := tp7.trans (Tp.same s8)
    have hat0 : atI ((ps ++ [l]).map V.int) 0 = some (V.int s0) := atI_nat (j := 0) (by rw [List.getElem?_map, hF.fst]; rfl)
    have hfl : (ps ++ [l]).length = ps.length + 1 := by rw [List.length_append]; rfl
    refine ⟨_, rfl, _, _, .type "tuple", .type "tuple", true, rfl, .ty "tuple", .base (.tup efp), kit_ty (by decide +kernel), true, rfl, iteF ?_⟩
    refine ⟨_, rfl, fp, _, rfl, .inr (sqt efp), rfl, _, rfl, ?_⟩
    refine ifF (decide_eq_false (fun e => by have := V.int.inj e; rw [List.length_map] at this; omega)) ?_
    refine ⟨_, rfl, fp, _, _, _, rfl, rfl, sqt efp, hat0, _, rfl, rfl, _, rfl, ?_⟩
    refine ifF (by rw [decide_eq_true rfl] <;> rfl) ?_
    refine ⟨_, rfl, _, rfl, _, fp, A0, ps ++ [l], rfl, hA.tp tp8, hG, efp, by omega, by omega, fun jj p q' hp hq' => ?_, fun oa is H9 s9 eoa hisl hstp => ?_⟩
    · obtain ⟨p0, p1, _, os, o, hos, ho, hqo, _⟩ := hF.stp jj p q' hp hq'
      exact ⟨p0, p1, os, o, hos, ho, hqo⟩
    refine ⟨_, rfl, rfl, _, rfl, ifF (decide_eq_false (fun e => nomatch e)) ?_⟩
    have efp9 := s9 _ _ efp
    refine ⟨_, rfl, _, rfl, _, rfl, _, rfl, 1, rfl, ?_⟩
    unfold tNoPart
    refine slA_of efp9 fun tp H10 s10 etp => ?_
    rw [cut_one'] at etp
    have hfull : ps ++ [l] = s0 :: (ps ++ [l]).tail := by
      cases hh : ps ++ [l] with
      | nil => rw [hh] at hfl; cases hfl
      | cons x r =>
        have := hF.fst
        rw [hh] at this
        cases this
        rfl
    have s8a := s9.trans s10
    have tpa := tp8.trans (Tp.same s8a)
    refine ⟨_, A0, s0, oa, tp, is, (ps ++ [l]).tail, rfl, hA.tp tpa, hG, s00, s01, by omega, by rw [List.length_tail]; omega, ⟨sqd (s10 _ _ eoa), sqt etp⟩, fun pr H11 s11 epr => ?_⟩
    have hplay : playA A0 s0 is (ps ++ [l]).tail = (ps ++ [l]).tail := by
      refine play_all _ _ _ (by rw [List.length_tail]; omega) fun jj i x y h1 h2 h3 => ?_
      rw [← hfull] at h2
      refine hstp jj i x y h1 h2 ?_
      rw [hfull, List.getElem?_cons_succ]
      exact h3
    rw [hplay, ← hfull] at epr
    have s8b := s8a.trans s11
    have efpb := s8b _ _ efp
    refine ⟨_, rfl, .tuple ((ps ++ [l]).map PyData.int), .tuple ((ps ++ [l]).map PyData.int), .tup (sqt epr) (dp_intsG _), .tup (sqt efpb) (dp_intsG _), shaped_tupG _, shaped_tupG _, _, rfl, ?_⟩
    refine ifF (by
      show (!PyData.eqvAll ((ps ++ [l]).map PyData.int) ((ps ++ [l]).map PyData.int)) = false
      rw [eqv_reflG]
      rfl) ?_
    have tpb := tp8.trans (Tp.same s8b)
    have tp58 : Tp H5 H11 := (g6.tp D5).trans ((g7.tp g6.dr).trans (Tp.same (s8.trans s8b)))
    have egb := tp58 _ _ (s5.tup eg)
    have ekb := tp58 _ _ (s5.tup ek)
    have epb := tp58 _ _ ep
    have hPb := hP.tp tp58
    have hos := List.getElem?_eq_getElem (show s0.toNat < A0.length by omega)
    obtain ⟨bk, pkv, hatk, ebk, _⟩ := hPb.atI s00 s01 hos
    have D11 : Dr H11 d := by
      obtain ⟨ds, e⟩ := g7.dr
      exact ⟨ds, (s8.trans s8b) _ _ e⟩
    have hT11 := TabG.same hT7 (s8.trans s8b)
    have hsc11 := ((((hsc3.go g4).sm s5).go g6).go g7).sm (Sm.of (P := Pt) (s8.trans s8b))
    have done : ∀ H', Same H11 H' → Dr H' d ∧ Tp H2 H' ∧ GxR.TabG H' Pt ∧ Scr K H' d a (ns.map V.int) := fun H' s' => by
      refine ⟨?_, tpb.trans (Tp.same s'), TabG.same hT11 s', hsc11.sm (Sm.of (P := Pt) s')⟩
      obtain ⟨ds, e⟩ := D11
      exact ⟨ds, s' _ _ e⟩
    cases st with
    | true =>
      refine ⟨_, rfl, rfl, _, rfl, ifT rfl ?_⟩
      refine ⟨_, rfl, _, rfl, g, _, _, _, rfl, rfl, sqt egb, atI1, _, rfl, _, rfl, pp, _, _, _, rfl, rfl, sqt epb, hatk, _, rfl, _, kp, bk, fp, pkv, A0, Kp, s0, ps, l, rfl, hA.tp tpb, hG, ekb, ebk, efpb, s00, s01, hF, hE, hple, fun H' s' => ⟨true, rfl, ifF rfl ?_⟩⟩
      refine ⟨_, rfl, rfl, _, rfl, ifF rfl ?_⟩
      exact ⟨_, _, _, _, _, _, _, rfl, done H' s'⟩
    | false =>
      refine ⟨_, rfl, rfl, _, rfl, ifF rfl ?_⟩
      refine ⟨_, rfl, rfl, _, rfl, ifT rfl ?_⟩
      refine ⟨_, rfl, _, rfl, g, _, _, _, rfl, rfl, sqt egb, atI1, _, rfl, _, rfl, pp, _, _, _, rfl, rfl, sqt epb, hatk, _, rfl, _, kp, bk, fp, pkv, A0, Kp, s0, ps, l, rfl, hA.tp tpb, hG, ekb, ebk, efpb, s00, s01, hF, hE, hple, hnn, fun H' s' => ⟨true, rfl, ifF rfl ?_⟩⟩
      exact ⟨_, _, _, _, _, _, _, rfl, done H' s'⟩
  · rintro σ H3 ⟨y4, y5, y6, y7, y8, y9, y3, rfl, D3, tp3, hT3, _⟩
    exact q _
end
end NL

namespace NL
open PySem PySem.Spec PyProof.Rows L2
theorem all_mk {l : PySem.W.OpenLaw} {w : World} {K : PySem.W.Frag} {h : Heap} {mg : Str → Option Value} {fa fhas_option fis_end fplay_on ffollow f_next_by fforces f_all_marked f_some_marked fsteps_to fcolour_owners fsettle f_take_near fleast_measures f_entries_in f_is_ended f_won_without fstay_ranks fcome_ranks f_ranks_to fleast_credits fleast_loads f_scaled f_least_values fvalues_of_rows ftold_paper f_drafts f_tank_drafts f_colour_drafts f_pick f_option f_reply f_law_draws f_law_take f_law_great f_law_arena f_law_some f_law_goal f_law_picks f_law_options f_law_is_lost f_law_stays f_law_comes flaw fFitting___init__ fFitting_fits fFitting_all_fit : Addr} (X : K.In h) (G : h.Ns mainGlobals mg) (hfa : mg "law" = some (.ref fa)) (own : ∀ f, mg "forces" = some (.ref f) → LamX.OwnTab K f h)
    {odhas_option anhas_option : Option Addr} {slhas_option : Array (Option Value)} {ochas_option kVhas_option dchas_option pmhas_option cdhas_option cthas_option : Value}
    {odis_end anis_end : Option Addr} {slis_end : Array (Option Value)} {ocis_end kVis_end dcis_end pmis_end cdis_end ctis_end : Value}
    {odplay_on anplay_on : Option Addr} {slplay_on : Array (Option Value)} {ocplay_on kVplay_on dcplay_on pmplay_on cdplay_on ctplay_on : Value}
    {odfollow anfollow : Option Addr} {slfollow : Array (Option Value)} {ocfollow kVfollow dcfollow pmfollow cdfollow ctfollow : Value}
    {od_next_by an_next_by : Option Addr} {sl_next_by : Array (Option Value)} {oc_next_by kV_next_by dc_next_by pm_next_by cd_next_by ct_next_by : Value}
    {odforces anforces : Option Addr} {slforces : Array (Option Value)} {ocforces kVforces dcforces pmforces cdforces ctforces : Value}
    {od_all_marked an_all_marked : Option Addr} {sl_all_marked : Array (Option Value)} {oc_all_marked kV_all_marked dc_all_marked pm_all_marked cd_all_marked ct_all_marked : Value}
    {od_some_marked an_some_marked : Option Addr} {sl_some_marked : Array (Option Value)} {oc_some_marked kV_some_marked dc_some_marked pm_some_marked cd_some_marked ct_some_marked : Value}
    {odsteps_to ansteps_to : Option Addr} {slsteps_to : Array (Option Value)} {ocsteps_to kVsteps_to dcsteps_to pmsteps_to cdsteps_to ctsteps_to : Value}
    {odcolour_owners ancolour_owners : Option Addr} {slcolour_owners : Array (Option Value)} {occolour_owners kVcolour_owners dccolour_owners pmcolour_owners cdcolour_owners ctcolour_owners : Value}
    {odsettle ansettle : Option Addr} {slsettle : Array (Option Value)} {ocsettle kVsettle dcsettle pmsettle cdsettle ctsettle : Value}
    {od_take_near an_take_near : Option Addr} {sl_take_near : Array (Option Value)} {oc_take_near kV_take_near dc_take_near pm_take_near cd_take_near ct_take_near : Value}
    {odleast_measures anleast_measures : Option Addr} {slleast_measures : Array (Option Value)} {ocleast_measures kVleast_measures dcleast_measures pmleast_measures cdleast_measures ctleast_measures : Value}
    {od_entries_in an_entries_in : Option Addr} {sl_entries_in : Array (Option Value)} {oc_entries_in kV_entries_in dc_entries_in pm_entries_in cd_entries_in ct_entries_in : Value}
    {od_is_ended an_is_ended : Option Addr} {sl_is_ended : Array (Option Value)} {oc_is_ended kV_is_ended dc_is_ended pm_is_ended cd_is_ended ct_is_ended : Value}
    {od_won_without an_won_without : Option Addr} {sl_won_without : Array (Option Value)} {oc_won_without kV_won_without dc_won_without pm_won_without cd_won_without ct_won_without : Value}
    {odstay_ranks anstay_ranks : Option Addr} {slstay_ranks : Array (Option Value)} {ocstay_ranks kVstay_ranks dcstay_ranks pmstay_ranks cdstay_ranks ctstay_ranks : Value}
    {odcome_ranks ancome_ranks : Option Addr} {slcome_ranks : Array (Option Value)} {occome_ranks kVcome_ranks dccome_ranks pmcome_ranks cdcome_ranks ctcome_ranks : Value}
    {od_ranks_to an_ranks_to : Option Addr} {sl_ranks_to : Array (Option Value)} {oc_ranks_to kV_ranks_to dc_ranks_to pm_ranks_to cd_ranks_to ct_ranks_to : Value}
    {odleast_credits anleast_credits : Option Addr} {slleast_credits : Array (Option Value)} {ocleast_credits kVleast_credits dcleast_credits pmleast_credits cdleast_credits ctleast_credits : Value}
    {odleast_loads anleast_loads : Option Addr} {slleast_loads : Array (Option Value)} {ocleast_loads kVleast_loads dcleast_loads pmleast_loads cdleast_loads ctleast_loads : Value}
    {od_scaled an_scaled : Option Addr} {sl_scaled : Array (Option Value)} {oc_scaled kV_scaled dc_scaled pm_scaled cd_scaled ct_scaled : Value}
    {od_least_values an_least_values : Option Addr} {sl_least_values : Array (Option Value)} {oc_least_values kV_least_values dc_least_values pm_least_values cd_least_values ct_least_values : Value}
    {odvalues_of_rows anvalues_of_rows : Option Addr} {slvalues_of_rows : Array (Option Value)} {ocvalues_of_rows kVvalues_of_rows dcvalues_of_rows pmvalues_of_rows cdvalues_of_rows ctvalues_of_rows : Value}
    {odtold_paper antold_paper : Option Addr} {sltold_paper : Array (Option Value)} {octold_paper kVtold_paper dctold_paper pmtold_paper cdtold_paper cttold_paper : Value}
    {od_drafts an_drafts : Option Addr} {sl_drafts : Array (Option Value)} {oc_drafts kV_drafts dc_drafts pm_drafts cd_drafts ct_drafts : Value}
    {od_tank_drafts an_tank_drafts : Option Addr} {sl_tank_drafts : Array (Option Value)} {oc_tank_drafts kV_tank_drafts dc_tank_drafts pm_tank_drafts cd_tank_drafts ct_tank_drafts : Value}
    {od_colour_drafts an_colour_drafts : Option Addr} {sl_colour_drafts : Array (Option Value)} {oc_colour_drafts kV_colour_drafts dc_colour_drafts pm_colour_drafts cd_colour_drafts ct_colour_drafts : Value}
    {od_pick an_pick : Option Addr} {sl_pick : Array (Option Value)} {oc_pick kV_pick dc_pick pm_pick cd_pick ct_pick : Value}
    {od_option an_option : Option Addr} {sl_option : Array (Option Value)} {oc_option kV_option dc_option pm_option cd_option ct_option : Value}
    {od_reply an_reply : Option Addr} {sl_reply : Array (Option Value)} {oc_reply kV_reply dc_reply pm_reply cd_reply ct_reply : Value}
    {od_law_draws an_law_draws : Option Addr} {sl_law_draws : Array (Option Value)} {oc_law_draws kV_law_draws dc_law_draws pm_law_draws cd_law_draws ct_law_draws : Value}
    {od_law_take an_law_take : Option Addr} {sl_law_take : Array (Option Value)} {oc_law_take kV_law_take dc_law_take pm_law_take cd_law_take ct_law_take : Value}
    {od_law_great an_law_great : Option Addr} {sl_law_great : Array (Option Value)} {oc_law_great kV_law_great dc_law_great pm_law_great cd_law_great ct_law_great : Value}
    {od_law_arena an_law_arena : Option Addr} {sl_law_arena : Array (Option Value)} {oc_law_arena kV_law_arena dc_law_arena pm_law_arena cd_law_arena ct_law_arena : Value}
    {od_law_some an_law_some : Option Addr} {sl_law_some : Array (Option Value)} {oc_law_some kV_law_some dc_law_some pm_law_some cd_law_some ct_law_some : Value}
    {od_law_goal an_law_goal : Option Addr} {sl_law_goal : Array (Option Value)} {oc_law_goal kV_law_goal dc_law_goal pm_law_goal cd_law_goal ct_law_goal : Value}
    {od_law_picks an_law_picks : Option Addr} {sl_law_picks : Array (Option Value)} {oc_law_picks kV_law_picks dc_law_picks pm_law_picks cd_law_picks ct_law_picks : Value}
    {od_law_options an_law_options : Option Addr} {sl_law_options : Array (Option Value)} {oc_law_options kV_law_options dc_law_options pm_law_options cd_law_options ct_law_options : Value}
    {od_law_is_lost an_law_is_lost : Option Addr} {sl_law_is_lost : Array (Option Value)} {oc_law_is_lost kV_law_is_lost dc_law_is_lost pm_law_is_lost cd_law_is_lost ct_law_is_lost : Value}
    {od_law_stays an_law_stays : Option Addr} {sl_law_stays : Array (Option Value)} {oc_law_stays kV_law_stays dc_law_stays pm_law_stays cd_law_stays ct_law_stays : Value}
    {od_law_comes an_law_comes : Option Addr} {sl_law_comes : Array (Option Value)} {oc_law_comes kV_law_comes dc_law_comes pm_law_comes cd_law_comes ct_law_comes : Value}
    {odlaw anlaw : Option Addr} {sllaw : Array (Option Value)} {oclaw kVlaw dclaw pmlaw cdlaw ctlaw : Value}
    {odFitting___init__ anFitting___init__ : Option Addr} {slFitting___init__ : Array (Option Value)} {ocFitting___init__ kVFitting___init__ dcFitting___init__ pmFitting___init__ cdFitting___init__ ctFitting___init__ : Value}
    {odFitting_fits anFitting_fits : Option Addr} {slFitting_fits : Array (Option Value)} {ocFitting_fits kVFitting_fits dcFitting_fits pmFitting_fits cdFitting_fits ctFitting_fits : Value}
    {odFitting_all_fit anFitting_all_fit : Option Addr} {slFitting_all_fit : Array (Option Value)} {ocFitting_all_fit kVFitting_all_fit dcFitting_all_fit pmFitting_all_fit cdFitting_all_fit ctFitting_all_fit : Value}
    {C_Fitting : Addr}
    {c_OPTION_KINDS : Addr}
    {u_CONTROLLER : Value}
    {u_DISTURBANCE : Value}
    {cF PF : Addr} {odF : Option Addr} {vsF : Array Value} {slF : Array (Option Value)} {xFile : Str} {xFlags xText : Int} {xIn : Bool} {xt1 xt2 xt3 : Tok}
    (kg_Fitting : PySem.W.nsIn K mainGlobals "Fitting" = some (some (.ref C_Fitting))) (kp_Fitting : PySem.W.plainGet K C_Fitting Str.empty = true) (kh_Fitting : PySem.W.hasDictIn K C_Fitting = true) (ko_Fitting : PySem.W.plainOver K C_Fitting = true) (ks_Fitting : PySem.W.findIn K (.ref C_Fitting) "__setattr__" = some (some (.builtin "object.__setattr__"))) (km_Fitting : PySem.W.makesIn K C_Fitting = true) (kk_Fitting : PySem.W.keepIn K (.ref C_Fitting) = true) (kn_Fitting_arena : PySem.W.findIn K (.ref C_Fitting) "arena" = some none) (kn_Fitting_told : PySem.W.findIn K (.ref C_Fitting) "told" = some none) (kn_Fitting_labels : PySem.W.findIn K (.ref C_Fitting) "labels" = some none) (kn_Fitting_greatest : PySem.W.findIn K (.ref C_Fitting) "greatest" = some none)
    (ahas_option : PySem.W.nsIn K mainGlobals "has_option" = some (some (.ref fhas_option))) (lhas_option : K.lookup fhas_option = some ⟨ochas_option, odhas_option, .func (PySem.W.fnOf "has_option" "has_option" (defArgs shas_option) (defBody shas_option) (defScope shas_option) .none kVhas_option dchas_option pmhas_option anhas_option cdhas_option cthas_option), slhas_option⟩) (chas_option : PySem.W.codeIn K cdhas_option "has_option" = true) (khas_option : PySem.W.keepIn K (.ref fhas_option) = true)
    (ais_end : PySem.W.nsIn K mainGlobals "is_end" = some (some (.ref fis_end))) (lis_end : K.lookup fis_end = some ⟨ocis_end, odis_end, .func (PySem.W.fnOf "is_end" "is_end" (defArgs sis_end) (defBody sis_end) (defScope sis_end) .none kVis_end dcis_end pmis_end anis_end cdis_end ctis_end), slis_end⟩) (cis_end : PySem.W.codeIn K cdis_end "is_end" = true) (kis_end : PySem.W.keepIn K (.ref fis_end) = true)
    (aplay_on : PySem.W.nsIn K mainGlobals "play_on" = some (some (.ref fplay_on))) (lplay_on : K.lookup fplay_on = some ⟨ocplay_on, odplay_on, .func (PySem.W.fnOf "play_on" "play_on" (defArgs splay_on) (defBody splay_on) (defScope splay_on) .none kVplay_on dcplay_on pmplay_on anplay_on cdplay_on ctplay_on), slplay_on⟩) (cplay_on : PySem.W.codeIn K cdplay_on "play_on" = true) (kplay_on : PySem.W.keepIn K (.ref fplay_on) = true)
    (afollow : PySem.W.nsIn K mainGlobals "follow" = some (some (.ref ffollow))) (lfollow : K.lookup ffollow = some ⟨ocfollow, odfollow, .func (PySem.W.fnOf "follow" "follow" (defArgs sfollow) (defBody sfollow) (defScope sfollow) .none kVfollow dcfollow pmfollow anfollow cdfollow ctfollow), slfollow⟩) (cfollow : PySem.W.codeIn K cdfollow "follow" = true) (kfollow : PySem.W.keepIn K (.ref ffollow) = true)
    (a_next_by : PySem.W.nsIn K mainGlobals "_next_by" = some (some (.ref f_next_by))) (l_next_by : K.lookup f_next_by = some ⟨oc_next_by, od_next_by, .func (PySem.W.fnOf "_next_by" "_next_by" (defArgs s_next_by) (defBody s_next_by) (defScope s_next_by) .none kV_next_by dc_next_by pm_next_by an_next_by cd_next_by ct_next_by), sl_next_by⟩) (c_next_by : PySem.W.codeIn K cd_next_by "_next_by" = true) (k_next_by : PySem.W.keepIn K (.ref f_next_by) = true)
    (aforces : PySem.W.nsIn K mainGlobals "forces" = some (some (.ref fforces))) (lforces : K.lookup fforces = some ⟨ocforces, odforces, .func (PySem.W.fnOf "forces" "forces" (defArgs sforces) (defBody sforces) (defScope sforces) .none kVforces dcforces pmforces anforces cdforces ctforces), slforces⟩) (cforces : PySem.W.codeIn K cdforces "forces" = true) (kforces : PySem.W.keepIn K (.ref fforces) = true)
    (a_all_marked : PySem.W.nsIn K mainGlobals "_all_marked" = some (some (.ref f_all_marked))) (l_all_marked : K.lookup f_all_marked = some ⟨oc_all_marked, od_all_marked, .func (PySem.W.fnOf "_all_marked" "_all_marked" (defArgs s_all_marked) (defBody s_all_marked) (defScope s_all_marked) .none kV_all_marked dc_all_marked pm_all_marked an_all_marked cd_all_marked ct_all_marked), sl_all_marked⟩) (c_all_marked : PySem.W.codeIn K cd_all_marked "_all_marked" = true) (k_all_marked : PySem.W.keepIn K (.ref f_all_marked) = true)
    (a_some_marked : PySem.W.nsIn K mainGlobals "_some_marked" = some (some (.ref f_some_marked))) (l_some_marked : K.lookup f_some_marked = some ⟨oc_some_marked, od_some_marked, .func (PySem.W.fnOf "_some_marked" "_some_marked" (defArgs s_some_marked) (defBody s_some_marked) (defScope s_some_marked) .none kV_some_marked dc_some_marked pm_some_marked an_some_marked cd_some_marked ct_some_marked), sl_some_marked⟩) (c_some_marked : PySem.W.codeIn K cd_some_marked "_some_marked" = true) (k_some_marked : PySem.W.keepIn K (.ref f_some_marked) = true)
    (asteps_to : PySem.W.nsIn K mainGlobals "steps_to" = some (some (.ref fsteps_to))) (lsteps_to : K.lookup fsteps_to = some ⟨ocsteps_to, odsteps_to, .func (PySem.W.fnOf "steps_to" "steps_to" (defArgs ssteps_to) (defBody ssteps_to) (defScope ssteps_to) .none kVsteps_to dcsteps_to pmsteps_to ansteps_to cdsteps_to ctsteps_to), slsteps_to⟩) (csteps_to : PySem.W.codeIn K cdsteps_to "steps_to" = true) (ksteps_to : PySem.W.keepIn K (.ref fsteps_to) = true)
    (acolour_owners : PySem.W.nsIn K mainGlobals "colour_owners" = some (some (.ref fcolour_owners))) (lcolour_owners : K.lookup fcolour_owners = some ⟨occolour_owners, odcolour_owners, .func (PySem.W.fnOf "colour_owners" "colour_owners" (defArgs scolour_owners) (defBody scolour_owners) (defScope scolour_owners) .none kVcolour_owners dccolour_owners pmcolour_owners ancolour_owners cdcolour_owners ctcolour_owners), slcolour_owners⟩) (ccolour_owners : PySem.W.codeIn K cdcolour_owners "colour_owners" = true) (kcolour_owners : PySem.W.keepIn K (.ref fcolour_owners) = true)
    (asettle : PySem.W.nsIn K mainGlobals "settle" = some (some (.ref fsettle))) (lsettle : K.lookup fsettle = some ⟨ocsettle, odsettle, .func (PySem.W.fnOf "settle" "settle" (defArgs ssettle) (defBody ssettle) (defScope ssettle) .none kVsettle dcsettle pmsettle ansettle cdsettle ctsettle), slsettle⟩) (csettle : PySem.W.codeIn K cdsettle "settle" = true) (ksettle : PySem.W.keepIn K (.ref fsettle) = true)
    (a_take_near : PySem.W.nsIn K mainGlobals "_take_near" = some (some (.ref f_take_near))) (l_take_near : K.lookup f_take_near = some ⟨oc_take_near, od_take_near, .func (PySem.W.fnOf "_take_near" "_take_near" (defArgs s_take_near) (defBody s_take_near) (defScope s_take_near) .none kV_take_near dc_take_near pm_take_near an_take_near cd_take_near ct_take_near), sl_take_near⟩) (c_take_near : PySem.W.codeIn K cd_take_near "_take_near" = true) (k_take_near : PySem.W.keepIn K (.ref f_take_near) = true)
    (aleast_measures : PySem.W.nsIn K mainGlobals "least_measures" = some (some (.ref fleast_measures))) (lleast_measures : K.lookup fleast_measures = some ⟨ocleast_measures, odleast_measures, .func (PySem.W.fnOf "least_measures" "least_measures" (defArgs sleast_measures) (defBody sleast_measures) (defScope sleast_measures) .none kVleast_measures dcleast_measures pmleast_measures anleast_measures cdleast_measures ctleast_measures), slleast_measures⟩) (cleast_measures : PySem.W.codeIn K cdleast_measures "least_measures" = true) (kleast_measures : PySem.W.keepIn K (.ref fleast_measures) = true)
    (a_entries_in : PySem.W.nsIn K mainGlobals "_entries_in" = some (some (.ref f_entries_in))) (l_entries_in : K.lookup f_entries_in = some ⟨oc_entries_in, od_entries_in, .func (PySem.W.fnOf "_entries_in" "_entries_in" (defArgs s_entries_in) (defBody s_entries_in) (defScope s_entries_in) .none kV_entries_in dc_entries_in pm_entries_in an_entries_in cd_entries_in ct_entries_in), sl_entries_in⟩) (c_entries_in : PySem.W.codeIn K cd_entries_in "_entries_in" = true) (k_entries_in : PySem.W.keepIn K (.ref f_entries_in) = true)
    (a_is_ended : PySem.W.nsIn K mainGlobals "_is_ended" = some (some (.ref f_is_ended))) (l_is_ended : K.lookup f_is_ended = some ⟨oc_is_ended, od_is_ended, .func (PySem.W.fnOf "_is_ended" "_is_ended" (defArgs s_is_ended) (defBody s_is_ended) (defScope s_is_ended) .none kV_is_ended dc_is_ended pm_is_ended an_is_ended cd_is_ended ct_is_ended), sl_is_ended⟩) (c_is_ended : PySem.W.codeIn K cd_is_ended "_is_ended" = true) (k_is_ended : PySem.W.keepIn K (.ref f_is_ended) = true)
    (a_won_without : PySem.W.nsIn K mainGlobals "_won_without" = some (some (.ref f_won_without))) (l_won_without : K.lookup f_won_without = some ⟨oc_won_without, od_won_without, .func (PySem.W.fnOf "_won_without" "_won_without" (defArgs s_won_without) (defBody s_won_without) (defScope s_won_without) .none kV_won_without dc_won_without pm_won_without an_won_without cd_won_without ct_won_without), sl_won_without⟩) (c_won_without : PySem.W.codeIn K cd_won_without "_won_without" = true) (k_won_without : PySem.W.keepIn K (.ref f_won_without) = true)
    (astay_ranks : PySem.W.nsIn K mainGlobals "stay_ranks" = some (some (.ref fstay_ranks))) (lstay_ranks : K.lookup fstay_ranks = some ⟨ocstay_ranks, odstay_ranks, .func (PySem.W.fnOf "stay_ranks" "stay_ranks" (defArgs sstay_ranks) (defBody sstay_ranks) (defScope sstay_ranks) .none kVstay_ranks dcstay_ranks pmstay_ranks anstay_ranks cdstay_ranks ctstay_ranks), slstay_ranks⟩) (cstay_ranks : PySem.W.codeIn K cdstay_ranks "stay_ranks" = true) (kstay_ranks : PySem.W.keepIn K (.ref fstay_ranks) = true)
    (acome_ranks : PySem.W.nsIn K mainGlobals "come_ranks" = some (some (.ref fcome_ranks))) (lcome_ranks : K.lookup fcome_ranks = some ⟨occome_ranks, odcome_ranks, .func (PySem.W.fnOf "come_ranks" "come_ranks" (defArgs scome_ranks) (defBody scome_ranks) (defScope scome_ranks) .none kVcome_ranks dccome_ranks pmcome_ranks ancome_ranks cdcome_ranks ctcome_ranks), slcome_ranks⟩) (ccome_ranks : PySem.W.codeIn K cdcome_ranks "come_ranks" = true) (kcome_ranks : PySem.W.keepIn K (.ref fcome_ranks) = true)
    (a_ranks_to : PySem.W.nsIn K mainGlobals "_ranks_to" = some (some (.ref f_ranks_to))) (l_ranks_to : K.lookup f_ranks_to = some ⟨oc_ranks_to, od_ranks_to, .func (PySem.W.fnOf "_ranks_to" "_ranks_to" (defArgs s_ranks_to) (defBody s_ranks_to) (defScope s_ranks_to) .none kV_ranks_to dc_ranks_to pm_ranks_to an_ranks_to cd_ranks_to ct_ranks_to), sl_ranks_to⟩) (c_ranks_to : PySem.W.codeIn K cd_ranks_to "_ranks_to" = true) (k_ranks_to : PySem.W.keepIn K (.ref f_ranks_to) = true)
    (aleast_credits : PySem.W.nsIn K mainGlobals "least_credits" = some (some (.ref fleast_credits))) (lleast_credits : K.lookup fleast_credits = some ⟨ocleast_credits, odleast_credits, .func (PySem.W.fnOf "least_credits" "least_credits" (defArgs sleast_credits) (defBody sleast_credits) (defScope sleast_credits) .none kVleast_credits dcleast_credits pmleast_credits anleast_credits cdleast_credits ctleast_credits), slleast_credits⟩) (cleast_credits : PySem.W.codeIn K cdleast_credits "least_credits" = true) (kleast_credits : PySem.W.keepIn K (.ref fleast_credits) = true)
    (aleast_loads : PySem.W.nsIn K mainGlobals "least_loads" = some (some (.ref fleast_loads))) (lleast_loads : K.lookup fleast_loads = some ⟨ocleast_loads, odleast_loads, .func (PySem.W.fnOf "least_loads" "least_loads" (defArgs sleast_loads) (defBody sleast_loads) (defScope sleast_loads) .none kVleast_loads dcleast_loads pmleast_loads anleast_loads cdleast_loads ctleast_loads), slleast_loads⟩) (cleast_loads : PySem.W.codeIn K cdleast_loads "least_loads" = true) (kleast_loads : PySem.W.keepIn K (.ref fleast_loads) = true)
    (a_scaled : PySem.W.nsIn K mainGlobals "_scaled" = some (some (.ref f_scaled))) (l_scaled : K.lookup f_scaled = some ⟨oc_scaled, od_scaled, .func (PySem.W.fnOf "_scaled" "_scaled" (defArgs s_scaled) (defBody s_scaled) (defScope s_scaled) .none kV_scaled dc_scaled pm_scaled an_scaled cd_scaled ct_scaled), sl_scaled⟩) (c_scaled : PySem.W.codeIn K cd_scaled "_scaled" = true) (k_scaled : PySem.W.keepIn K (.ref f_scaled) = true)
    (a_least_values : PySem.W.nsIn K mainGlobals "_least_values" = some (some (.ref f_least_values))) (l_least_values : K.lookup f_least_values = some ⟨oc_least_values, od_least_values, .func (PySem.W.fnOf "_least_values" "_least_values" (defArgs s_least_values) (defBody s_least_values) (defScope s_least_values) .none kV_least_values dc_least_values pm_least_values an_least_values cd_least_values ct_least_values), sl_least_values⟩) (c_least_values : PySem.W.codeIn K cd_least_values "_least_values" = true) (k_least_values : PySem.W.keepIn K (.ref f_least_values) = true)
    (avalues_of_rows : PySem.W.nsIn K mainGlobals "values_of_rows" = some (some (.ref fvalues_of_rows))) (lvalues_of_rows : K.lookup fvalues_of_rows = some ⟨ocvalues_of_rows, odvalues_of_rows, .func (PySem.W.fnOf "values_of_rows" "values_of_rows" (defArgs svalues_of_rows) (defBody svalues_of_rows) (defScope svalues_of_rows) .none kVvalues_of_rows dcvalues_of_rows pmvalues_of_rows anvalues_of_rows cdvalues_of_rows ctvalues_of_rows), slvalues_of_rows⟩) (cvalues_of_rows : PySem.W.codeIn K cdvalues_of_rows "values_of_rows" = true) (kvalues_of_rows : PySem.W.keepIn K (.ref fvalues_of_rows) = true)
    (atold_paper : PySem.W.nsIn K mainGlobals "told_paper" = some (some (.ref ftold_paper))) (ltold_paper : K.lookup ftold_paper = some ⟨octold_paper, odtold_paper, .func (PySem.W.fnOf "told_paper" "told_paper" (defArgs stold_paper) (defBody stold_paper) (defScope stold_paper) .none kVtold_paper dctold_paper pmtold_paper antold_paper cdtold_paper cttold_paper), sltold_paper⟩) (ctold_paper : PySem.W.codeIn K cdtold_paper "told_paper" = true) (ktold_paper : PySem.W.keepIn K (.ref ftold_paper) = true)
    (a_drafts : PySem.W.nsIn K mainGlobals "_drafts" = some (some (.ref f_drafts))) (l_drafts : K.lookup f_drafts = some ⟨oc_drafts, od_drafts, .func (PySem.W.fnOf "_drafts" "_drafts" (defArgs s_drafts) (defBody s_drafts) (defScope s_drafts) .none kV_drafts dc_drafts pm_drafts an_drafts cd_drafts ct_drafts), sl_drafts⟩) (c_drafts : PySem.W.codeIn K cd_drafts "_drafts" = true) (k_drafts : PySem.W.keepIn K (.ref f_drafts) = true)
    (a_tank_drafts : PySem.W.nsIn K mainGlobals "_tank_drafts" = some (some (.ref f_tank_drafts))) (l_tank_drafts : K.lookup f_tank_drafts = some ⟨oc_tank_drafts, od_tank_drafts, .func (PySem.W.fnOf "_tank_drafts" "_tank_drafts" (defArgs s_tank_drafts) (defBody s_tank_drafts) (defScope s_tank_drafts) .none kV_tank_drafts dc_tank_drafts pm_tank_drafts an_tank_drafts cd_tank_drafts ct_tank_drafts), sl_tank_drafts⟩) (c_tank_drafts : PySem.W.codeIn K cd_tank_drafts "_tank_drafts" = true) (k_tank_drafts : PySem.W.keepIn K (.ref f_tank_drafts) = true)
    (a_colour_drafts : PySem.W.nsIn K mainGlobals "_colour_drafts" = some (some (.ref f_colour_drafts))) (l_colour_drafts : K.lookup f_colour_drafts = some ⟨oc_colour_drafts, od_colour_drafts, .func (PySem.W.fnOf "_colour_drafts" "_colour_drafts" (defArgs s_colour_drafts) (defBody s_colour_drafts) (defScope s_colour_drafts) .none kV_colour_drafts dc_colour_drafts pm_colour_drafts an_colour_drafts cd_colour_drafts ct_colour_drafts), sl_colour_drafts⟩) (c_colour_drafts : PySem.W.codeIn K cd_colour_drafts "_colour_drafts" = true) (k_colour_drafts : PySem.W.keepIn K (.ref f_colour_drafts) = true)
    (a_pick : PySem.W.nsIn K mainGlobals "_pick" = some (some (.ref f_pick))) (l_pick : K.lookup f_pick = some ⟨oc_pick, od_pick, .func (PySem.W.fnOf "_pick" "_pick" (defArgs s_pick) (defBody s_pick) (defScope s_pick) .none kV_pick dc_pick pm_pick an_pick cd_pick ct_pick), sl_pick⟩) (c_pick : PySem.W.codeIn K cd_pick "_pick" = true) (k_pick : PySem.W.keepIn K (.ref f_pick) = true)
    (a_option : PySem.W.nsIn K mainGlobals "_option" = some (some (.ref f_option))) (l_option : K.lookup f_option = some ⟨oc_option, od_option, .func (PySem.W.fnOf "_option" "_option" (defArgs s_option) (defBody s_option) (defScope s_option) .none kV_option dc_option pm_option an_option cd_option ct_option), sl_option⟩) (c_option : PySem.W.codeIn K cd_option "_option" = true) (k_option : PySem.W.keepIn K (.ref f_option) = true)
    (a_reply : PySem.W.nsIn K mainGlobals "_reply" = some (some (.ref f_reply))) (l_reply : K.lookup f_reply = some ⟨oc_reply, od_reply, .func (PySem.W.fnOf "_reply" "_reply" (defArgs s_reply) (defBody s_reply) (defScope s_reply) .none kV_reply dc_reply pm_reply an_reply cd_reply ct_reply), sl_reply⟩) (c_reply : PySem.W.codeIn K cd_reply "_reply" = true) (k_reply : PySem.W.keepIn K (.ref f_reply) = true)
    (a_law_draws : PySem.W.nsIn K mainGlobals "_law_draws" = some (some (.ref f_law_draws))) (l_law_draws : K.lookup f_law_draws = some ⟨oc_law_draws, od_law_draws, .func (PySem.W.fnOf "_law_draws" "_law_draws" (defArgs s_law_draws) (defBody s_law_draws) (defScope s_law_draws) .none kV_law_draws dc_law_draws pm_law_draws an_law_draws cd_law_draws ct_law_draws), sl_law_draws⟩) (c_law_draws : PySem.W.codeIn K cd_law_draws "_law_draws" = true) (k_law_draws : PySem.W.keepIn K (.ref f_law_draws) = true)
    (a_law_take : PySem.W.nsIn K mainGlobals "_law_take" = some (some (.ref f_law_take))) (l_law_take : K.lookup f_law_take = some ⟨oc_law_take, od_law_take, .func (PySem.W.fnOf "_law_take" "_law_take" (defArgs s_law_take) (defBody s_law_take) (defScope s_law_take) .none kV_law_take dc_law_take pm_law_take an_law_take cd_law_take ct_law_take), sl_law_take⟩) (c_law_take : PySem.W.codeIn K cd_law_take "_law_take" = true) (k_law_take : PySem.W.keepIn K (.ref f_law_take) = true)
    (a_law_great : PySem.W.nsIn K mainGlobals "_law_great" = some (some (.ref f_law_great))) (l_law_great : K.lookup f_law_great = some ⟨oc_law_great, od_law_great, .func (PySem.W.fnOf "_law_great" "_law_great" (defArgs s_law_great) (defBody s_law_great) (defScope s_law_great) .none kV_law_great dc_law_great pm_law_great an_law_great cd_law_great ct_law_great), sl_law_great⟩) (c_law_great : PySem.W.codeIn K cd_law_great "_law_great" = true) (k_law_great : PySem.W.keepIn K (.ref f_law_great) = true)
    (a_law_arena : PySem.W.nsIn K mainGlobals "_law_arena" = some (some (.ref f_law_arena))) (l_law_arena : K.lookup f_law_arena = some ⟨oc_law_arena, od_law_arena, .func (PySem.W.fnOf "_law_arena" "_law_arena" (defArgs s_law_arena) (defBody s_law_arena) (defScope s_law_arena) .none kV_law_arena dc_law_arena pm_law_arena an_law_arena cd_law_arena ct_law_arena), sl_law_arena⟩) (c_law_arena : PySem.W.codeIn K cd_law_arena "_law_arena" = true) (k_law_arena : PySem.W.keepIn K (.ref f_law_arena) = true)
    (a_law_some : PySem.W.nsIn K mainGlobals "_law_some" = some (some (.ref f_law_some))) (l_law_some : K.lookup f_law_some = some ⟨oc_law_some, od_law_some, .func (PySem.W.fnOf "_law_some" "_law_some" (defArgs s_law_some) (defBody s_law_some) (defScope s_law_some) .none kV_law_some dc_law_some pm_law_some an_law_some cd_law_some ct_law_some), sl_law_some⟩) (c_law_some : PySem.W.codeIn K cd_law_some "_law_some" = true) (k_law_some : PySem.W.keepIn K (.ref f_law_some) = true)
    (a_law_goal : PySem.W.nsIn K mainGlobals "_law_goal" = some (some (.ref f_law_goal))) (l_law_goal : K.lookup f_law_goal = some ⟨oc_law_goal, od_law_goal, .func (PySem.W.fnOf "_law_goal" "_law_goal" (defArgs s_law_goal) (defBody s_law_goal) (defScope s_law_goal) .none kV_law_goal dc_law_goal pm_law_goal an_law_goal cd_law_goal ct_law_goal), sl_law_goal⟩) (c_law_goal : PySem.W.codeIn K cd_law_goal "_law_goal" = true) (k_law_goal : PySem.W.keepIn K (.ref f_law_goal) = true)
    (a_law_picks : PySem.W.nsIn K mainGlobals "_law_picks" = some (some (.ref f_law_picks))) (l_law_picks : K.lookup f_law_picks = some ⟨oc_law_picks, od_law_picks, .func (PySem.W.fnOf "_law_picks" "_law_picks" (defArgs s_law_picks) (defBody s_law_picks) (defScope s_law_picks) .none kV_law_picks dc_law_picks pm_law_picks an_law_picks cd_law_picks ct_law_picks), sl_law_picks⟩) (c_law_picks : PySem.W.codeIn K cd_law_picks "_law_picks" = true) (k_law_picks : PySem.W.keepIn K (.ref f_law_picks) = true)
    (a_law_options : PySem.W.nsIn K mainGlobals "_law_options" = some (some (.ref f_law_options))) (l_law_options : K.lookup f_law_options = some ⟨oc_law_options, od_law_options, .func (PySem.W.fnOf "_law_options" "_law_options" (defArgs s_law_options) (defBody s_law_options) (defScope s_law_options) .none kV_law_options dc_law_options pm_law_options an_law_options cd_law_options ct_law_options), sl_law_options⟩) (c_law_options : PySem.W.codeIn K cd_law_options "_law_options" = true) (k_law_options : PySem.W.keepIn K (.ref f_law_options) = true)
    (a_law_is_lost : PySem.W.nsIn K mainGlobals "_law_is_lost" = some (some (.ref f_law_is_lost))) (l_law_is_lost : K.lookup f_law_is_lost = some ⟨oc_law_is_lost, od_law_is_lost, .func (PySem.W.fnOf "_law_is_lost" "_law_is_lost" (defArgs s_law_is_lost) (defBody s_law_is_lost) (defScope s_law_is_lost) .none kV_law_is_lost dc_law_is_lost pm_law_is_lost an_law_is_lost cd_law_is_lost ct_law_is_lost), sl_law_is_lost⟩) (c_law_is_lost : PySem.W.codeIn K cd_law_is_lost "_law_is_lost" = true) (k_law_is_lost : PySem.W.keepIn K (.ref f_law_is_lost) = true)
    (a_law_stays : PySem.W.nsIn K mainGlobals "_law_stays" = some (some (.ref f_law_stays))) (l_law_stays : K.lookup f_law_stays = some ⟨oc_law_stays, od_law_stays, .func (PySem.W.fnOf "_law_stays" "_law_stays" (defArgs s_law_stays) (defBody s_law_stays) (defScope s_law_stays) .none kV_law_stays dc_law_stays pm_law_stays an_law_stays cd_law_stays ct_law_stays), sl_law_stays⟩) (c_law_stays : PySem.W.codeIn K cd_law_stays "_law_stays" = true) (k_law_stays : PySem.W.keepIn K (.ref f_law_stays) = true)
    (a_law_comes : PySem.W.nsIn K mainGlobals "_law_comes" = some (some (.ref f_law_comes))) (l_law_comes : K.lookup f_law_comes = some ⟨oc_law_comes, od_law_comes, .func (PySem.W.fnOf "_law_comes" "_law_comes" (defArgs s_law_comes) (defBody s_law_comes) (defScope s_law_comes) .none kV_law_comes dc_law_comes pm_law_comes an_law_comes cd_law_comes ct_law_comes), sl_law_comes⟩) (c_law_comes : PySem.W.codeIn K cd_law_comes "_law_comes" = true) (k_law_comes : PySem.W.keepIn K (.ref f_law_comes) = true)
    (alaw : PySem.W.nsIn K mainGlobals "law" = some (some (.ref flaw))) (llaw : K.lookup flaw = some ⟨oclaw, odlaw, .func (PySem.W.fnOf "law" "law" (defArgs slaw) (defBody slaw) (defScope slaw) .none kVlaw dclaw pmlaw anlaw cdlaw ctlaw), sllaw⟩) (claw : PySem.W.codeIn K cdlaw "law" = true) (klaw : PySem.W.keepIn K (.ref flaw) = true)
    (aFitting___init__ : PySem.W.findIn K (.ref C_Fitting) "__init__" = some (some (.ref fFitting___init__))) (lFitting___init__ : K.lookup fFitting___init__ = some ⟨ocFitting___init__, odFitting___init__, .func (PySem.W.fnOf "__init__" "Fitting.__init__" (defArgs sFitting___init__) (defBody sFitting___init__) (defScope sFitting___init__) .none kVFitting___init__ dcFitting___init__ pmFitting___init__ anFitting___init__ cdFitting___init__ ctFitting___init__), slFitting___init__⟩) (cFitting___init__ : PySem.W.codeIn K cdFitting___init__ "Fitting.__init__" = true) (kFitting___init__ : PySem.W.keepIn K (.ref fFitting___init__) = true) (iFitting___init__ : PySem.W.isFn K (.ref fFitting___init__) = true)
    (aFitting_fits : PySem.W.findIn K (.ref C_Fitting) "fits" = some (some (.ref fFitting_fits))) (lFitting_fits : K.lookup fFitting_fits = some ⟨ocFitting_fits, odFitting_fits, .func (PySem.W.fnOf "fits" "Fitting.fits" (defArgs sFitting_fits) (defBody sFitting_fits) (defScope sFitting_fits) .none kVFitting_fits dcFitting_fits pmFitting_fits anFitting_fits cdFitting_fits ctFitting_fits), slFitting_fits⟩) (cFitting_fits : PySem.W.codeIn K cdFitting_fits "Fitting.fits" = true) (kFitting_fits : PySem.W.keepIn K (.ref fFitting_fits) = true) (iFitting_fits : PySem.W.isFn K (.ref fFitting_fits) = true)
    (aFitting_all_fit : PySem.W.findIn K (.ref C_Fitting) "all_fit" = some (some (.ref fFitting_all_fit))) (lFitting_all_fit : K.lookup fFitting_all_fit = some ⟨ocFitting_all_fit, odFitting_all_fit, .func (PySem.W.fnOf "all_fit" "Fitting.all_fit" (defArgs sFitting_all_fit) (defBody sFitting_all_fit) (defScope sFitting_all_fit) .none kVFitting_all_fit dcFitting_all_fit pmFitting_all_fit anFitting_all_fit cdFitting_all_fit ctFitting_all_fit), slFitting_all_fit⟩) (cFitting_all_fit : PySem.W.codeIn K cdFitting_all_fit "Fitting.all_fit" = true) (kFitting_all_fit : PySem.W.keepIn K (.ref fFitting_all_fit) = true) (iFitting_all_fit : PySem.W.isFn K (.ref fFitting_all_fit) = true)
    (g_OPTION_KINDS : PySem.W.nsIn K mainGlobals "OPTION_KINDS" = some (some (.ref c_OPTION_KINDS))) (k_OPTION_KINDS : KT K c_OPTION_KINDS [(.str "holds"), (.str "comes"), (.str "even"), (.str "keeps")])
    (g_CONTROLLER : PySem.W.nsIn K mainGlobals "CONTROLLER" = some (some u_CONTROLLER)) (r_CONTROLLER : L2.RelV (.int 0) u_CONTROLLER)
    (g_DISTURBANCE : PySem.W.nsIn K mainGlobals "DISTURBANCE" = some (some u_DISTURBANCE)) (r_DISTURBANCE : L2.RelV (.int 1) u_DISTURBANCE)
    (tF : cdforces = .ref cF) (tL : K.lookup cF = some ⟨.type "code", odF, .fields vsF, slF⟩) (t11 : vsF[11]? = some (.ref PF)) (tN : K.lookup PF = none) (tg11 : vsF.getD 11 .none = .ref PF) (tg18 : vsF.getD 18 .none = .str xFile xt1) (tg7 : vsF.getD 7 .none = .int xFlags xt2) (tg9 : vsF.getD 9 .none = .bool xIn) (tg10 : vsF.getD 10 .none = .int xText xt3) (tne : cF ≠ PF)
    (z_all : PySem.W.nsIn K mainGlobals "all" = some none)
    (z_any : PySem.W.nsIn K mainGlobals "any" = some none)
    (z_enumerate : PySem.W.nsIn K mainGlobals "enumerate" = some none)
    (z_int : PySem.W.nsIn K mainGlobals "int" = some none)
    (z_isinstance : PySem.W.nsIn K mainGlobals "isinstance" = some none)
    (z_len : PySem.W.nsIn K mainGlobals "len" = some none)
    (z_list : PySem.W.nsIn K mainGlobals "list" = some none)
    (z_max : PySem.W.nsIn K mainGlobals "max" = some none)
    (z_min : PySem.W.nsIn K mainGlobals "min" = some none)
    (z_range : PySem.W.nsIn K mainGlobals "range" = some none)
    (z_set : PySem.W.nsIn K mainGlobals "set" = some none)
    (z_sorted : PySem.W.nsIn K mainGlobals "sorted" = some none)
    (z_tuple : PySem.W.nsIn K mainGlobals "tuple" = some none)
    (z_zip : PySem.W.nsIn K mainGlobals "zip" = some none)
    : LamX.LawAtS l w K CX0 8 63 "script" mg fa h := by
  have e := hfa.symm.trans (PySem.W.mg_of X G alaw)
  cases e
  let T : Txt K mg := {
    z_all := PySem.W.mg_none_of X G z_all
    z_any := PySem.W.mg_none_of X G z_any
    z_enumerate := PySem.W.mg_none_of X G z_enumerate
    z_int := PySem.W.mg_none_of X G z_int
    z_isinstance := PySem.W.mg_none_of X G z_isinstance
    z_len := PySem.W.mg_none_of X G z_len
    z_list := PySem.W.mg_none_of X G z_list
    z_max := PySem.W.mg_none_of X G z_max
    z_min := PySem.W.mg_none_of X G z_min
    z_range := PySem.W.mg_none_of X G z_range
    z_set := PySem.W.mg_none_of X G z_set
    z_sorted := PySem.W.mg_none_of X G z_sorted
    z_tuple := PySem.W.mg_none_of X G z_tuple
    z_zip := PySem.W.mg_none_of X G z_zip
    c_OPTION_KINDS := c_OPTION_KINDS
    g_OPTION_KINDS := PySem.W.mg_of X G g_OPTION_KINDS
    k_OPTION_KINDS := k_OPTION_KINDS
    u_CONTROLLER := u_CONTROLLER
    g_CONTROLLER := PySem.W.mg_of X G g_CONTROLLER
    r_CONTROLLER := r_CONTROLLER
    u_DISTURBANCE := u_DISTURBANCE
    g_DISTURBANCE := PySem.W.mg_of X G g_DISTURBANCE
    r_DISTURBANCE := r_DISTURBANCE
    C_Fitting := C_Fitting
    g_Fitting := PySem.W.mg_of X G kg_Fitting
    cl_Fitting := ⟨kp_Fitting, kh_Fitting, ko_Fitting, ks_Fitting⟩
    na_Fitting_arena := kn_Fitting_arena
    na_Fitting_told := kn_Fitting_told
    na_Fitting_labels := kn_Fitting_labels
    na_Fitting_greatest := kn_Fitting_greatest
    aFitting___init__ := fFitting___init__
    dFitting___init__ := _
    FFitting___init__ := fun_mk (st := sFitting___init__) lFitting___init__ cFitting___init__ kFitting___init__
    mFitting___init__ := ⟨aFitting___init__, iFitting___init__, kFitting___init__⟩
    mk_Fitting := ⟨km_Fitting, aFitting___init__, iFitting___init__, kk_Fitting⟩
    aFitting_fits := fFitting_fits
    dFitting_fits := _
    FFitting_fits := fun_mk (st := sFitting_fits) lFitting_fits cFitting_fits kFitting_fits
    mFitting_fits := ⟨aFitting_fits, iFitting_fits, kFitting_fits⟩
    aFitting_all_fit := fFitting_all_fit
    dFitting_all_fit := _
    FFitting_all_fit := fun_mk (st := sFitting_all_fit) lFitting_all_fit cFitting_all_fit kFitting_all_fit
    mFitting_all_fit := ⟨aFitting_all_fit, iFitting_all_fit, kFitting_all_fit⟩
    ahas_option := fhas_option
    dhas_option := _
    Fhas_option := fun_mk (st := shas_option) lhas_option chas_option khas_option
    mhas_option := PySem.W.mg_of X G ahas_option
    ais_end := fis_end
    dis_end := _
    Fis_end := fun_mk (st := sis_end) lis_end cis_end kis_end
    mis_end := PySem.W.mg_of X G ais_end
    aplay_on := fplay_on
    dplay_on := _
    Fplay_on := fun_mk (st := splay_on) lplay_on cplay_on kplay_on
    mplay_on := PySem.W.mg_of X G aplay_on
    afollow := ffollow
    dfollow := _
    Ffollow := fun_mk (st := sfollow) lfollow cfollow kfollow
    mfollow := PySem.W.mg_of X G afollow
    a_next_by := f_next_by
    d_next_by := _
    F_next_by := fun_mk (st := s_next_by) l_next_by c_next_by k_next_by
    m_next_by := PySem.W.mg_of X G a_next_by
    aforces := fforces
    dforces := _
    Fforces := fun_mk (st := sforces) lforces cforces kforces
    mforces := PySem.W.mg_of X G aforces
    a_all_marked := f_all_marked
    d_all_marked := _
    F_all_marked := fun_mk (st := s_all_marked) l_all_marked c_all_marked k_all_marked
    m_all_marked := PySem.W.mg_of X G a_all_marked
    a_some_marked := f_some_marked
    d_some_marked := _
    F_some_marked := fun_mk (st := s_some_marked) l_some_marked c_some_marked k_some_marked
    m_some_marked := PySem.W.mg_of X G a_some_marked
    asteps_to := fsteps_to
    dsteps_to := _
    Fsteps_to := fun_mk (st := ssteps_to) lsteps_to csteps_to ksteps_to
    msteps_to := PySem.W.mg_of X G asteps_to
    acolour_owners := fcolour_owners
    dcolour_owners := _
    Fcolour_owners := fun_mk (st := scolour_owners) lcolour_owners ccolour_owners kcolour_owners
    mcolour_owners := PySem.W.mg_of X G acolour_owners
    asettle := fsettle
    dsettle := _
    Fsettle := fun_mk (st := ssettle) lsettle csettle ksettle
    msettle := PySem.W.mg_of X G asettle
    a_take_near := f_take_near
    d_take_near := _
    F_take_near := fun_mk (st := s_take_near) l_take_near c_take_near k_take_near
    m_take_near := PySem.W.mg_of X G a_take_near
    aleast_measures := fleast_measures
    dleast_measures := _
    Fleast_measures := fun_mk (st := sleast_measures) lleast_measures cleast_measures kleast_measures
    mleast_measures := PySem.W.mg_of X G aleast_measures
    a_entries_in := f_entries_in
    d_entries_in := _
    F_entries_in := fun_mk (st := s_entries_in) l_entries_in c_entries_in k_entries_in
    m_entries_in := PySem.W.mg_of X G a_entries_in
    a_is_ended := f_is_ended
    d_is_ended := _
    F_is_ended := fun_mk (st := s_is_ended) l_is_ended c_is_ended k_is_ended
    m_is_ended := PySem.W.mg_of X G a_is_ended
    a_won_without := f_won_without
    d_won_without := _
    F_won_without := fun_mk (st := s_won_without) l_won_without c_won_without k_won_without
    m_won_without := PySem.W.mg_of X G a_won_without
    astay_ranks := fstay_ranks
    dstay_ranks := _
    Fstay_ranks := fun_mk (st := sstay_ranks) lstay_ranks cstay_ranks kstay_ranks
    mstay_ranks := PySem.W.mg_of X G astay_ranks
    acome_ranks := fcome_ranks
    dcome_ranks := _
    Fcome_ranks := fun_mk (st := scome_ranks) lcome_ranks ccome_ranks kcome_ranks
    mcome_ranks := PySem.W.mg_of X G acome_ranks
    a_ranks_to := f_ranks_to
    d_ranks_to := _
    F_ranks_to := fun_mk (st := s_ranks_to) l_ranks_to c_ranks_to k_ranks_to
    m_ranks_to := PySem.W.mg_of X G a_ranks_to
    aleast_credits := fleast_credits
    dleast_credits := _
    Fleast_credits := fun_mk (st := sleast_credits) lleast_credits cleast_credits kleast_credits
    mleast_credits := PySem.W.mg_of X G aleast_credits
    aleast_loads := fleast_loads
    dleast_loads := _
    Fleast_loads := fun_mk (st := sleast_loads) lleast_loads cleast_loads kleast_loads
    mleast_loads := PySem.W.mg_of X G aleast_loads
    a_scaled := f_scaled
    d_scaled := _
    F_scaled := fun_mk (st := s_scaled) l_scaled c_scaled k_scaled
    m_scaled := PySem.W.mg_of X G a_scaled
    a_least_values := f_least_values
    d_least_values := _
    F_least_values := fun_mk (st := s_least_values) l_least_values c_least_values k_least_values
    m_least_values := PySem.W.mg_of X G a_least_values
    avalues_of_rows := fvalues_of_rows
    dvalues_of_rows := _
    Fvalues_of_rows := fun_mk (st := svalues_of_rows) lvalues_of_rows cvalues_of_rows kvalues_of_rows
    mvalues_of_rows := PySem.W.mg_of X G avalues_of_rows
    atold_paper := ftold_paper
    dtold_paper := _
    Ftold_paper := fun_mk (st := stold_paper) ltold_paper ctold_paper ktold_paper
    mtold_paper := PySem.W.mg_of X G atold_paper
    a_drafts := f_drafts
    d_drafts := _
    F_drafts := fun_mk (st := s_drafts) l_drafts c_drafts k_drafts
    m_drafts := PySem.W.mg_of X G a_drafts
    a_tank_drafts := f_tank_drafts
    d_tank_drafts := _
    F_tank_drafts := fun_mk (st := s_tank_drafts) l_tank_drafts c_tank_drafts k_tank_drafts
    m_tank_drafts := PySem.W.mg_of X G a_tank_drafts
    a_colour_drafts := f_colour_drafts
    d_colour_drafts := _
    F_colour_drafts := fun_mk (st := s_colour_drafts) l_colour_drafts c_colour_drafts k_colour_drafts
    m_colour_drafts := PySem.W.mg_of X G a_colour_drafts
    a_pick := f_pick
    d_pick := _
    F_pick := fun_mk (st := s_pick) l_pick c_pick k_pick
    m_pick := PySem.W.mg_of X G a_pick
    a_option := f_option
    d_option := _
    F_option := fun_mk (st := s_option) l_option c_option k_option
    m_option := PySem.W.mg_of X G a_option
    a_reply := f_reply
    d_reply := _
    F_reply := fun_mk (st := s_reply) l_reply c_reply k_reply
    m_reply := PySem.W.mg_of X G a_reply
    a_law_draws := f_law_draws
    d_law_draws := _
    F_law_draws := fun_mk (st := s_law_draws) l_law_draws c_law_draws k_law_draws
    m_law_draws := PySem.W.mg_of X G a_law_draws
    a_law_take := f_law_take
    d_law_take := _
    F_law_take := fun_mk (st := s_law_take) l_law_take c_law_take k_law_take
    m_law_take := PySem.W.mg_of X G a_law_take
    a_law_great := f_law_great
    d_law_great := _
    F_law_great := fun_mk (st := s_law_great) l_law_great c_law_great k_law_great
    m_law_great := PySem.W.mg_of X G a_law_great
    a_law_arena := f_law_arena
    d_law_arena := _
    F_law_arena := fun_mk (st := s_law_arena) l_law_arena c_law_arena k_law_arena
    m_law_arena := PySem.W.mg_of X G a_law_arena
    a_law_some := f_law_some
    d_law_some := _
    F_law_some := fun_mk (st := s_law_some) l_law_some c_law_some k_law_some
    m_law_some := PySem.W.mg_of X G a_law_some
    a_law_goal := f_law_goal
    d_law_goal := _
    F_law_goal := fun_mk (st := s_law_goal) l_law_goal c_law_goal k_law_goal
    m_law_goal := PySem.W.mg_of X G a_law_goal
    a_law_picks := f_law_picks
    d_law_picks := _
    F_law_picks := fun_mk (st := s_law_picks) l_law_picks c_law_picks k_law_picks
    m_law_picks := PySem.W.mg_of X G a_law_picks
    a_law_options := f_law_options
    d_law_options := _
    F_law_options := fun_mk (st := s_law_options) l_law_options c_law_options k_law_options
    m_law_options := PySem.W.mg_of X G a_law_options
    a_law_is_lost := f_law_is_lost
    d_law_is_lost := _
    F_law_is_lost := fun_mk (st := s_law_is_lost) l_law_is_lost c_law_is_lost k_law_is_lost
    m_law_is_lost := PySem.W.mg_of X G a_law_is_lost
    a_law_stays := f_law_stays
    d_law_stays := _
    F_law_stays := fun_mk (st := s_law_stays) l_law_stays c_law_stays k_law_stays
    m_law_stays := PySem.W.mg_of X G a_law_stays
    a_law_comes := f_law_comes
    d_law_comes := _
    F_law_comes := fun_mk (st := s_law_comes) l_law_comes c_law_comes k_law_comes
    m_law_comes := PySem.W.mg_of X G a_law_comes
    alaw := fa
    dlaw := _
    Flaw := fun_mk (st := slaw) llaw claw klaw
    mlaw := PySem.W.mg_of X G alaw }
  have hP := own fforces (PySem.W.mg_of X G aforces) cF PF _ _ _ _ _ _ lforces rfl tF tL t11
  refine ⟨T.dlaw, [(cF, PF)], spLawT K PF, fun p hp => ?_, fun p hp => ?_, fun p hp => ?_, fun s v => .of_eq rfl, fun H a ns hl _ hH hS => ⟨a, ns, rfl, hS, hl, ⟨#[], hH _ (List.mem_singleton.mpr rfl), trivial⟩, fun _ => rfl⟩, fun base _ _ hTB => ?_⟩
  · rw [List.mem_singleton.mp hp]; exact hP
  · rw [List.mem_singleton.mp hp]; exact tN
  · rw [List.mem_singleton.mp hp]; exact ⟨_, vsF, xFile, xt1, xFlags, xt2, xIn, xText, xt3, X _ _ tL, rfl, rfl, t11, tg11, tg18, tg7, tg9, tg10, tne⟩
  have TB0 := hTB (cF, PF) (List.mem_singleton.mpr rfl)
  exact ok_law T ⟨TB0.code, TB0.bm, TB0.gP⟩ tF
end NL
open PySem PySem.W PyProof.Rows
set_option maxRecDepth 100000 in
set_option maxHeartbeats 0 in
theorem PySem.Challenge.cw_neverleaves_k68_whole_plays_stay_or_come_holds : PySem.Challenge.rw_neverleaves_k68_whole_plays_stay_or_come.Holds := by
  w_on; o_law; k_head; (case hw => w_witness2)
  k_fill
  refine NL.walk_tab (l := PySem.Challenge.rw_neverleaves_k68_whole_plays_stay_or_come) (n := 63) (k := 8) (x := "script") (CX := fun _ => L2.CX0) "forces" rfl (by decide) rfl ⟨rfl, by decide, by decide⟩ (by decide +kernel) (fun w h Y => PySem.W.kIn_of Y) ?F (fun _ _ _ _ _ h => h)
  case F =>
    intro w mg fa h _ KX G hmg own
    refine' NL.all_mk KX G hmg own ?kg_Fitting ?kp_Fitting ?kh_Fitting ?ko_Fitting ?ks_Fitting ?km_Fitting ?kk_Fitting ?kn_Fitting_arena ?kn_Fitting_told ?kn_Fitting_labels ?kn_Fitting_greatest ?ahas_option ?lhas_option ?chas_option ?khas_option ?ais_end ?lis_end ?cis_end ?kis_end ?aplay_on ?lplay_on ?cplay_on ?kplay_on ?afollow ?lfollow ?cfollow ?kfollow ?a_next_by ?l_next_by ?c_next_by ?k_next_by ?aforces ?lforces ?cforces ?kforces ?a_all_marked ?l_all_marked ?c_all_marked ?k_all_marked ?a_some_marked ?l_some_marked ?c_some_marked ?k_some_marked ?asteps_to ?lsteps_to ?csteps_to ?ksteps_to ?acolour_owners ?lcolour_owners ?ccolour_owners ?kcolour_owners ?asettle ?lsettle ?csettle ?ksettle ?a_take_near ?l_take_near ?c_take_near ?k_take_near ?aleast_measures ?lleast_measures ?cleast_measures ?kleast_measures ?a_entries_in ?l_entries_in ?c_entries_in ?k_entries_in ?a_is_ended ?l_is_ended ?c_is_ended ?k_is_ended ?a_won_without ?l_won_without ?c_won_without ?k_won_without ?astay_ranks ?lstay_ranks ?cstay_ranks ?kstay_ranks ?acome_ranks ?lcome_ranks ?ccome_ranks ?kcome_ranks ?a_ranks_to ?l_ranks_to ?c_ranks_to ?k_ranks_to ?aleast_credits ?lleast_credits ?cleast_credits ?kleast_credits ?aleast_loads ?lleast_loads ?cleast_loads ?kleast_loads ?a_scaled ?l_scaled ?c_scaled ?k_scaled ?a_least_values ?l_least_values ?c_least_values ?k_least_values ?avalues_of_rows ?lvalues_of_rows ?cvalues_of_rows ?kvalues_of_rows ?atold_paper ?ltold_paper ?ctold_paper ?ktold_paper ?a_drafts ?l_drafts ?c_drafts ?k_drafts ?a_tank_drafts ?l_tank_drafts ?c_tank_drafts ?k_tank_drafts ?a_colour_drafts ?l_colour_drafts ?c_colour_drafts ?k_colour_drafts ?a_pick ?l_pick ?c_pick ?k_pick ?a_option ?l_option ?c_option ?k_option ?a_reply ?l_reply ?c_reply ?k_reply ?a_law_draws ?l_law_draws ?c_law_draws ?k_law_draws ?a_law_take ?l_law_take ?c_law_take ?k_law_take ?a_law_great ?l_law_great ?c_law_great ?k_law_great ?a_law_arena ?l_law_arena ?c_law_arena ?k_law_arena ?a_law_some ?l_law_some ?c_law_some ?k_law_some ?a_law_goal ?l_law_goal ?c_law_goal ?k_law_goal ?a_law_picks ?l_law_picks ?c_law_picks ?k_law_picks ?a_law_options ?l_law_options ?c_law_options ?k_law_options ?a_law_is_lost ?l_law_is_lost ?c_law_is_lost ?k_law_is_lost ?a_law_stays ?l_law_stays ?c_law_stays ?k_law_stays ?a_law_comes ?l_law_comes ?c_law_comes ?k_law_comes ?alaw ?llaw ?claw ?klaw ?aFitting___init__ ?lFitting___init__ ?cFitting___init__ ?kFitting___init__ ?iFitting___init__ ?aFitting_fits ?lFitting_fits ?cFitting_fits ?kFitting_fits ?iFitting_fits ?aFitting_all_fit ?lFitting_all_fit ?cFitting_all_fit ?kFitting_all_fit ?iFitting_all_fit ?g_OPTION_KINDS ?k_OPTION_KINDS ?g_CONTROLLER ?r_CONTROLLER ?g_DISTURBANCE ?r_DISTURBANCE ?tF ?tL ?t11 ?tN ?tg11 ?tg18 ?tg7 ?tg9 ?tg10 ?tne ?z_all ?z_any ?z_enumerate ?z_int ?z_isinstance ?z_len ?z_list ?z_max ?z_min ?z_range ?z_set ?z_sorted ?z_tuple ?z_zip
    (case kg_Fitting => k_is); (case kp_Fitting => k_is); (case kh_Fitting => k_is); (case ko_Fitting => k_is); (case ks_Fitting => k_is); (case km_Fitting => k_is); (case kk_Fitting => k_is); (case kn_Fitting_arena => k_is); (case kn_Fitting_told => k_is); (case kn_Fitting_labels => k_is); (case kn_Fitting_greatest => k_is)
    (case ahas_option => k_is); (case lhas_option => k_is); (case chas_option => k_is); (case khas_option => k_is)
    (case ais_end => k_is); (case lis_end => k_is); (case cis_end => k_is); (case kis_end => k_is)
    (case aplay_on => k_is); (case lplay_on => k_is); (case cplay_on => k_is); (case kplay_on => k_is)
    (case afollow => k_is); (case lfollow => k_is); (case cfollow => k_is); (case kfollow => k_is)
    (case a_next_by => k_is); (case l_next_by => k_is); (case c_next_by => k_is); (case k_next_by => k_is)
    (case aforces => k_is); (case lforces => k_is); (case cforces => k_is); (case kforces => k_is)
    (case a_all_marked => k_is); (case l_all_marked => k_is); (case c_all_marked => k_is); (case k_all_marked => k_is)
    (case a_some_marked => k_is); (case l_some_marked => k_is); (case c_some_marked => k_is); (case k_some_marked => k_is)
    (case asteps_to => k_is); (case lsteps_to => k_is); (case csteps_to => k_is); (case ksteps_to => k_is)
    (case acolour_owners => k_is); (case lcolour_owners => k_is); (case ccolour_owners => k_is); (case kcolour_owners => k_is)
    (case asettle => k_is); (case lsettle => k_is); (case csettle => k_is); (case ksettle => k_is)
    (case a_take_near => k_is); (case l_take_near => k_is); (case c_take_near => k_is); (case k_take_near => k_is)
    (case aleast_measures => k_is); (case lleast_measures => k_is); (case cleast_measures => k_is); (case kleast_measures => k_is)
    (case a_entries_in => k_is); (case l_entries_in => k_is); (case c_entries_in => k_is); (case k_entries_in => k_is)
    (case a_is_ended => k_is); (case l_is_ended => k_is); (case c_is_ended => k_is); (case k_is_ended => k_is)
    (case a_won_without => k_is); (case l_won_without => k_is); (case c_won_without => k_is); (case k_won_without => k_is)
    (case astay_ranks => k_is); (case lstay_ranks => k_is); (case cstay_ranks => k_is); (case kstay_ranks => k_is)
    (case acome_ranks => k_is); (case lcome_ranks => k_is); (case ccome_ranks => k_is); (case kcome_ranks => k_is)
    (case a_ranks_to => k_is); (case l_ranks_to => k_is); (case c_ranks_to => k_is); (case k_ranks_to => k_is)
    (case aleast_credits => k_is); (case lleast_credits => k_is); (case cleast_credits => k_is); (case kleast_credits => k_is)
    (case aleast_loads => k_is); (case lleast_loads => k_is); (case cleast_loads => k_is); (case kleast_loads => k_is)
    (case a_scaled => k_is); (case l_scaled => k_is); (case c_scaled => k_is); (case k_scaled => k_is)
    (case a_least_values => k_is); (case l_least_values => k_is); (case c_least_values => k_is); (case k_least_values => k_is)
    (case avalues_of_rows => k_is); (case lvalues_of_rows => k_is); (case cvalues_of_rows => k_is); (case kvalues_of_rows => k_is)
    (case atold_paper => k_is); (case ltold_paper => k_is); (case ctold_paper => k_is); (case ktold_paper => k_is)
    (case a_drafts => k_is); (case l_drafts => k_is); (case c_drafts => k_is); (case k_drafts => k_is)
    (case a_tank_drafts => k_is); (case l_tank_drafts => k_is); (case c_tank_drafts => k_is); (case k_tank_drafts => k_is)
    (case a_colour_drafts => k_is); (case l_colour_drafts => k_is); (case c_colour_drafts => k_is); (case k_colour_drafts => k_is)
    (case a_pick => k_is); (case l_pick => k_is); (case c_pick => k_is); (case k_pick => k_is)
    (case a_option => k_is); (case l_option => k_is); (case c_option => k_is); (case k_option => k_is)
    (case a_reply => k_is); (case l_reply => k_is); (case c_reply => k_is); (case k_reply => k_is)
    (case a_law_draws => k_is); (case l_law_draws => k_is); (case c_law_draws => k_is); (case k_law_draws => k_is)
    (case a_law_take => k_is); (case l_law_take => k_is); (case c_law_take => k_is); (case k_law_take => k_is)
    (case a_law_great => k_is); (case l_law_great => k_is); (case c_law_great => k_is); (case k_law_great => k_is)
    (case a_law_arena => k_is); (case l_law_arena => k_is); (case c_law_arena => k_is); (case k_law_arena => k_is)
    (case a_law_some => k_is); (case l_law_some => k_is); (case c_law_some => k_is); (case k_law_some => k_is)
    (case a_law_goal => k_is); (case l_law_goal => k_is); (case c_law_goal => k_is); (case k_law_goal => k_is)
    (case a_law_picks => k_is); (case l_law_picks => k_is); (case c_law_picks => k_is); (case k_law_picks => k_is)
    (case a_law_options => k_is); (case l_law_options => k_is); (case c_law_options => k_is); (case k_law_options => k_is)
    (case a_law_is_lost => k_is); (case l_law_is_lost => k_is); (case c_law_is_lost => k_is); (case k_law_is_lost => k_is)
    (case a_law_stays => k_is); (case l_law_stays => k_is); (case c_law_stays => k_is); (case k_law_stays => k_is)
    (case a_law_comes => k_is); (case l_law_comes => k_is); (case c_law_comes => k_is); (case k_law_comes => k_is)
    (case alaw => k_is); (case llaw => k_is); (case claw => k_is); (case klaw => k_is)
    (case aFitting___init__ => k_is); (case lFitting___init__ => k_is); (case cFitting___init__ => k_is); (case kFitting___init__ => k_is); (case iFitting___init__ => k_is)
    (case aFitting_fits => k_is); (case lFitting_fits => k_is); (case cFitting_fits => k_is); (case kFitting_fits => k_is); (case iFitting_fits => k_is)
    (case aFitting_all_fit => k_is); (case lFitting_all_fit => k_is); (case cFitting_all_fit => k_is); (case kFitting_all_fit => k_is); (case iFitting_all_fit => k_is)
    (case g_OPTION_KINDS => k_is); (case k_OPTION_KINDS => (refine' NL.kt_mk ?h1 ?h2 ?h3 ?h4 ?h5; (case h1 => k_is); (case h2 => rfl); (case h3 => rfl); (case h4 => decide); (case h5 => repeat (first | exact .nil | refine .cons ⟨_, rfl⟩ ?_))))
    (case g_CONTROLLER => k_is); (case r_CONTROLLER => exact ⟨_, rfl⟩)
    (case g_DISTURBANCE => k_is); (case r_DISTURBANCE => exact ⟨_, rfl⟩)
    (case tF => rfl); (case tL => k_is); (case t11 => rfl); (case tN => first | rfl | decide | k_is); (case tg11 => rfl); (case tg18 => rfl); (case tg7 => rfl); (case tg9 => rfl); (case tg10 => rfl); (case tne => decide)
    (case z_all => k_is)
    (case z_any => k_is)
    (case z_enumerate => k_is)
    (case z_int => k_is)
    (case z_isinstance => k_is)
    (case z_len => k_is)
    (case z_list => k_is)
    (case z_max => k_is)
    (case z_min => k_is)
    (case z_range => k_is)
    (case z_set => k_is)
    (case z_sorted => k_is)
    (case z_tuple => k_is)
    (case z_zip => k_is)
