import PyProof.Rows.All
import Wide.All
import OpenK.AllK
import Wide.FinOn
import HandS.ForExc
import HandS.ForMost
import HandS.TupAny
import HandS.IsInst
import HandS.Codes
import HandS.FStr
import HandS.Zip
import HandS.TupSets
import HandS.SetFor
import HandS.Strs
import HandS.More
import HandS.DictComp
import HandS.Walk
import HandS.Conv
import PyProof.Draws
import HandS.Iter
import KE.GoesMore
import HandS.AnyAll
import HandS.EndOwn
import PyProof.GenCompD
import KE.DataMinMax
import HandS.SetKeys
import KE.KxIndex
import PySem.Challenge.RW_neverleaves_k81_whole_not_knowing_breaks
set_option Elab.async false
set_option linter.all false
set_option maxRecDepth 100000

namespace NL
open PySem PySem.Spec PyProof.Rows L2
def topS (i : Nat) : Stmt := PySem.Challenge.pw_neverleaves_k81_whole_not_knowing_breaks.main.body.getD i (.Pass ⟨0, 0, 0, 0⟩)
abbrev sforces : Stmt := topS 3
abbrev Nforces : List Str := ["side", "options", "marks", "option"]
abbrev Pforces : List Str := ["side", "options", "marks"]
theorem scforces : FnScope Nforces Pforces (defScope sforces) := ⟨rfl, rfl, rfl, by decide +kernel, rfl, by decide +kernel, by decide +kernel⟩
abbrev s_all_marked : Stmt := topS 4
abbrev N_all_marked : List Str := ["option", "marks", "after"]
abbrev P_all_marked : List Str := ["option", "marks"]
theorem sc_all_marked : FnScope N_all_marked P_all_marked (defScope s_all_marked) := ⟨rfl, rfl, rfl, by decide +kernel, rfl, by decide +kernel, by decide +kernel⟩
abbrev s_some_marked : Stmt := topS 5
abbrev N_some_marked : List Str := ["option", "marks", "after"]
abbrev P_some_marked : List Str := ["option", "marks"]
theorem sc_some_marked : FnScope N_some_marked P_some_marked (defScope s_some_marked) := ⟨rfl, rfl, rfl, by decide +kernel, rfl, by decide +kernel, by decide +kernel⟩
abbrev ssteps_to : Stmt := topS 6
abbrev Nsteps_to : List Str := ["arena", "side", "marks", "among", "reached", "steps", "many", "grows", "found", "at"]
abbrev Psteps_to : List Str := ["arena", "side", "marks", "among"]
theorem scsteps_to : FnScope Nsteps_to Psteps_to (defScope ssteps_to) := ⟨rfl, rfl, rfl, by decide +kernel, rfl, by decide +kernel, by decide +kernel⟩
abbrev sstay_ranks : Stmt := topS 8
abbrev Nstay_ranks : List Str := ["arena", "keep", "at"]
abbrev Pstay_ranks : List Str := ["arena", "keep"]
theorem scstay_ranks : FnScope Nstay_ranks Pstay_ranks (defScope sstay_ranks) := ⟨rfl, rfl, rfl, by decide +kernel, rfl, by decide +kernel, by decide +kernel⟩
abbrev scome_ranks : Stmt := topS 9
abbrev Ncome_ranks : List Str := ["arena", "home", "at"]
abbrev Pcome_ranks : List Str := ["arena", "home"]
theorem sccome_ranks : FnScope Ncome_ranks Pcome_ranks (defScope scome_ranks) := ⟨rfl, rfl, rfl, by decide +kernel, rfl, by decide +kernel, by decide +kernel⟩
abbrev s_ranks_to : Stmt := topS 10
abbrev N_ranks_to : List Str := ["arena", "side", "marks", "steps", "at", "mark"]
abbrev P_ranks_to : List Str := ["arena", "side", "marks"]
theorem sc_ranks_to : FnScope N_ranks_to P_ranks_to (defScope s_ranks_to) := ⟨rfl, rfl, rfl, by decide +kernel, rfl, by decide +kernel, by decide +kernel⟩
abbrev sknown_arena : Stmt := topS 12
abbrev Nknown_arena : List Str := ["arena", "readings", "starts", "sets", "numbers", "number", "known", "known_options", "options", "index", "at", "after", "following", "one", "out"]
abbrev Pknown_arena : List Str := ["arena", "readings", "starts"]
theorem scknown_arena : FnScope Nknown_arena Pknown_arena (defScope sknown_arena) := ⟨rfl, rfl, rfl, by decide +kernel, rfl, by decide +kernel, by decide +kernel⟩
abbrev s_successors_of : Stmt := topS 13
abbrev N_successors_of : List Str := ["arena", "known", "index", "found", "at", "after"]
abbrev P_successors_of : List Str := ["arena", "known", "index"]
theorem sc_successors_of : FnScope N_successors_of P_successors_of (defScope s_successors_of) := ⟨rfl, rfl, rfl, by decide +kernel, rfl, by decide +kernel, by decide +kernel⟩
abbrev s_parted : Stmt := topS 14
abbrev N_parted : List Str := ["positions", "readings", "parts", "at", "reading"]
abbrev P_parted : List Str := ["positions", "readings"]
theorem sc_parted : FnScope N_parted P_parted (defScope s_parted) := ⟨rfl, rfl, rfl, by decide +kernel, rfl, by decide +kernel, by decide +kernel⟩
abbrev scan_know : Stmt := topS 15
abbrev Ncan_know : List Str := ["arena", "keep", "readings", "starts", "known", "sets", "inside", "number", "places", "at", "ranks", "rank"]
abbrev Pcan_know : List Str := ["arena", "keep", "readings", "starts"]
theorem sccan_know : FnScope Ncan_know Pcan_know (defScope scan_know) := ⟨rfl, rfl, rfl, by decide +kernel, rfl, by decide +kernel, by decide +kernel⟩
abbrev shas_option : Stmt := topS 18
abbrev Nhas_option : List Str := ["label"]
abbrev Phas_option : List Str := ["label"]
theorem schas_option : FnScope Nhas_option Phas_option (defScope shas_option) := ⟨rfl, rfl, rfl, by decide +kernel, rfl, by decide +kernel, by decide +kernel⟩
abbrev sis_end : Stmt := topS 19
abbrev Nis_end : List Str := ["label"]
abbrev Pis_end : List Str := ["label"]
theorem scis_end : FnScope Nis_end Pis_end (defScope sis_end) := ⟨rfl, rfl, rfl, by decide +kernel, rfl, by decide +kernel, by decide +kernel⟩
abbrev splay_on : Stmt := topS 21
abbrev Nplay_on : List Str := ["arena", "start", "options", "replies", "positions", "index", "reply", "here"]
abbrev Pplay_on : List Str := ["arena", "start", "options", "replies"]
theorem scplay_on : FnScope Nplay_on Pplay_on (defScope splay_on) := ⟨rfl, rfl, rfl, by decide +kernel, rfl, by decide +kernel, by decide +kernel⟩
abbrev scolour_owners : Stmt := topS 23
abbrev Ncolour_owners : List Str := ["arena", "colours"]
abbrev Pcolour_owners : List Str := ["arena", "colours"]
theorem sccolour_owners : FnScope Ncolour_owners Pcolour_owners (defScope scolour_owners) := ⟨rfl, rfl, rfl, by decide +kernel, rfl, by decide +kernel, by decide +kernel⟩
abbrev ssettle : Stmt := topS 24
abbrev Nsettle : List Str := ["arena", "colours", "owners", "settled", "open_ones", "at", "owner", "top", "side", "guess", "lost"]
abbrev Psettle : List Str := ["arena", "colours", "owners"]
theorem scsettle : FnScope Nsettle Psettle (defScope ssettle) := ⟨rfl, rfl, rfl, by decide +kernel, rfl, by decide +kernel, by decide +kernel⟩
abbrev s_take_near : Stmt := topS 25
abbrev N_take_near : List Str := ["arena", "owners", "side", "open_ones", "at", "owner", "marks"]
abbrev P_take_near : List Str := ["arena", "owners"]
theorem sc_take_near : FnScope N_take_near P_take_near (defScope s_take_near) := ⟨rfl, rfl, rfl, by decide +kernel, rfl, by decide +kernel, by decide +kernel⟩
abbrev sleast_measures : Stmt := topS 28
abbrev Nleast_measures : List Str := ["arena", "colours", "side", "owned", "measures", "at", "groups", "colour", "less", "parts", "group", "entries", "entry"]
abbrev Pleast_measures : List Str := ["arena", "colours", "side", "owned"]
theorem scleast_measures : FnScope Nleast_measures Pleast_measures (defScope sleast_measures) := ⟨rfl, rfl, rfl, by decide +kernel, rfl, by decide +kernel, by decide +kernel⟩
abbrev s_entries_in : Stmt := topS 29
abbrev N_entries_in : List Str := ["arena", "colours", "side", "colour", "group", "less", "at", "entries", "marks", "entry", "open_ones", "passed"]
abbrev P_entries_in : List Str := ["arena", "colours", "side", "colour", "group", "less"]
theorem sc_entries_in : FnScope N_entries_in P_entries_in (defScope s_entries_in) := ⟨rfl, rfl, rfl, by decide +kernel, rfl, by decide +kernel, by decide +kernel⟩
abbrev s_is_ended : Stmt := topS 30
abbrev N_is_ended : List Str := ["options", "option"]
abbrev P_is_ended : List Str := ["options"]
theorem sc_is_ended : FnScope N_is_ended P_is_ended (defScope s_is_ended) := ⟨rfl, rfl, rfl, by decide +kernel, rfl, by decide +kernel, by decide +kernel⟩
abbrev s_won_without : Stmt := topS 31
abbrev N_won_without : List Str := ["arena", "colours", "side", "open_ones", "marks", "owners", "mark", "at"]
abbrev P_won_without : List Str := ["arena", "colours", "side", "open_ones", "marks"]
theorem sc_won_without : FnScope N_won_without P_won_without (defScope s_won_without) := ⟨rfl, rfl, rfl, by decide +kernel, rfl, by decide +kernel, by decide +kernel⟩
abbrev sleast_credits : Stmt := topS 35
abbrev Nleast_credits : List Str := ["arena", "gains"]
abbrev Pleast_credits : List Str := ["arena", "gains"]
theorem scleast_credits : FnScope Nleast_credits Pleast_credits (defScope sleast_credits) := ⟨rfl, rfl, rfl, by decide +kernel, rfl, by decide +kernel, by decide +kernel⟩
abbrev sleast_loads : Stmt := topS 36
abbrev Nleast_loads : List Str := ["arena", "gains", "many", "losses", "gain", "row"]
abbrev Pleast_loads : List Str := ["arena", "gains"]
theorem scleast_loads : FnScope Nleast_loads Pleast_loads (defScope sleast_loads) := ⟨rfl, rfl, rfl, by decide +kernel, rfl, by decide +kernel, by decide +kernel⟩
abbrev s_scaled : Stmt := topS 37
abbrev N_scaled : List Str := ["gains", "factor", "gain", "row"]
abbrev P_scaled : List Str := ["gains"]
theorem sc_scaled : FnScope N_scaled P_scaled (defScope s_scaled) := ⟨rfl, rfl, rfl, by decide +kernel, rfl, by decide +kernel, by decide +kernel⟩
abbrev s_least_values : Stmt := topS 41
abbrev N_least_values : List Str := ["picks", "many", "most", "row", "gain", "given_up", "values", "value"]
abbrev P_least_values : List Str := ["picks"]
theorem sc_least_values : FnScope N_least_values P_least_values (defScope s_least_values) := ⟨rfl, rfl, rfl, by decide +kernel, rfl, by decide +kernel, by decide +kernel⟩
abbrev svalues_of_rows : Stmt := topS 42
abbrev Nvalues_of_rows : List Str := ["rows", "given_up", "values", "order", "_", "changed", "at", "value", "after", "gain", "option"]
abbrev Pvalues_of_rows : List Str := ["rows", "given_up"]
theorem scvalues_of_rows : FnScope Nvalues_of_rows Pvalues_of_rows (defScope svalues_of_rows) := ⟨rfl, rfl, rfl, by decide +kernel, rfl, by decide +kernel, by decide +kernel⟩
abbrev stold_paper : Stmt := topS 44
abbrev Ntold_paper : List Str := ["arena", "goal", "drafts", "fitting", "at", "draft"]
abbrev Ptold_paper : List Str := ["arena", "goal"]
theorem sctold_paper : FnScope Ntold_paper Ptold_paper (defScope stold_paper) := ⟨rfl, rfl, rfl, by decide +kernel, rfl, by decide +kernel, by decide +kernel⟩
abbrev s_drafts : Stmt := topS 45
abbrev N_drafts : List Str := ["arena", "goal", "kind", "told", "ranks", "rank"]
abbrev P_drafts : List Str := ["arena", "goal"]
theorem sc_drafts : FnScope N_drafts P_drafts (defScope s_drafts) := ⟨rfl, rfl, rfl, by decide +kernel, rfl, by decide +kernel, by decide +kernel⟩
abbrev s_tank_drafts : Stmt := topS 46
abbrev N_tank_drafts : List Str := ["arena", "gains", "drafts", "credit", "load"]
abbrev P_tank_drafts : List Str := ["arena", "gains"]
theorem sc_tank_drafts : FnScope N_tank_drafts P_tank_drafts (defScope s_tank_drafts) := ⟨rfl, rfl, rfl, by decide +kernel, rfl, by decide +kernel, by decide +kernel⟩
abbrev s_colour_drafts : Stmt := topS 47
abbrev N_colour_drafts : List Str := ["arena", "colours", "sides", "drafts", "kind", "side", "owned", "at", "measures"]
abbrev P_colour_drafts : List Str := ["arena", "colours"]
theorem sc_colour_drafts : FnScope N_colour_drafts P_colour_drafts (defScope s_colour_drafts) := ⟨rfl, rfl, rfl, by decide +kernel, rfl, by decide +kernel, by decide +kernel⟩
abbrev s_pick : Stmt := topS 48
abbrev N_pick : List Str := ["fitting", "at", "draft", "options", "index"]
abbrev P_pick : List Str := ["fitting", "at"]
theorem sc_pick : FnScope N_pick P_pick (defScope s_pick) := ⟨rfl, rfl, rfl, by decide +kernel, rfl, by decide +kernel, by decide +kernel⟩
abbrev s_option : Stmt := topS 49
abbrev N_option : List Str := ["fitting", "at", "index"]
abbrev P_option : List Str := ["fitting", "at"]
theorem sc_option : FnScope N_option P_option (defScope s_option) := ⟨rfl, rfl, rfl, by decide +kernel, rfl, by decide +kernel, by decide +kernel⟩
abbrev s_reply : Stmt := topS 50
abbrev N_reply : List Str := ["fitting", "at", "index", "right", "after"]
abbrev P_reply : List Str := ["fitting", "at", "index"]
theorem sc_reply : FnScope N_reply P_reply (defScope s_reply) := ⟨rfl, rfl, rfl, by decide +kernel, rfl, by decide +kernel, by decide +kernel⟩
abbrev s_law_draws : Stmt := topS 52
abbrev N_law_draws : List Str := ["script", "many", "cells", "cell", "rest", "draws", "k", "at", "once"]
abbrev P_law_draws : List Str := ["script", "many"]
theorem sc_law_draws : FnScope N_law_draws P_law_draws (defScope s_law_draws) := ⟨rfl, rfl, rfl, by decide +kernel, rfl, by decide +kernel, by decide +kernel⟩
abbrev s_law_take : Stmt := topS 53
abbrev N_law_take : List Str := ["draws", "many"]
abbrev P_law_take : List Str := ["draws", "many"]
theorem sc_law_take : FnScope N_law_take P_law_take (defScope s_law_take) := ⟨rfl, rfl, rfl, by decide +kernel, rfl, by decide +kernel, by decide +kernel⟩
abbrev s_law_great : Stmt := topS 54
abbrev N_law_great : List Str := ["draws", "size", "a", "b", "c", "bad", "arena", "k", "options"]
abbrev P_law_great : List Str := ["draws"]
theorem sc_law_great : FnScope N_law_great P_law_great (defScope s_law_great) := ⟨rfl, rfl, rfl, by decide +kernel, rfl, by decide +kernel, by decide +kernel⟩
abbrev s_law_arena : Stmt := topS 55
abbrev N_law_arena : List Str := ["draws", "most", "shape", "rare", "menu", "count", "arena", "k", "options", "j", "found", "i", "drawn", "successor", "at", "more"]
abbrev P_law_arena : List Str := ["draws", "most"]
theorem sc_law_arena : FnScope N_law_arena P_law_arena (defScope s_law_arena) := ⟨rfl, rfl, rfl, by decide +kernel, rfl, by decide +kernel, by decide +kernel⟩
abbrev s_law_some : Stmt := topS 56
abbrev N_law_some : List Str := ["draws", "arena", "share", "step", "first", "k"]
abbrev P_law_some : List Str := ["draws", "arena", "share"]
theorem sc_law_some : FnScope N_law_some P_law_some (defScope s_law_some) := ⟨rfl, rfl, rfl, by decide +kernel, rfl, by decide +kernel, by decide +kernel⟩
abbrev s_law_readings : Stmt := topS 57
abbrev N_law_readings : List Str := ["script", "draws", "arena", "kind", "first", "step", "many", "found", "k", "number"]
abbrev P_law_readings : List Str := ["script", "draws", "arena"]
theorem sc_law_readings : FnScope N_law_readings P_law_readings (defScope s_law_readings) := ⟨rfl, rfl, rfl, by decide +kernel, rfl, by decide +kernel, by decide +kernel⟩
abbrev s_law_known_keep : Stmt := topS 58
abbrev N_law_known_keep : List Str := ["sets", "keep", "k", "at"]
abbrev P_law_known_keep : List Str := ["sets", "keep"]
theorem sc_law_known_keep : FnScope N_law_known_keep P_law_known_keep (defScope s_law_known_keep) := ⟨rfl, rfl, rfl, by decide +kernel, rfl, by decide +kernel, by decide +kernel⟩
abbrev s_law_picks : Stmt := topS 59
abbrev N_law_picks : List Str := ["script", "draws", "many", "kind", "first", "step", "k"]
abbrev P_law_picks : List Str := ["script", "draws", "many"]
theorem sc_law_picks : FnScope N_law_picks P_law_picks (defScope s_law_picks) := ⟨rfl, rfl, rfl, by decide +kernel, rfl, by decide +kernel, by decide +kernel⟩
abbrev s_law_walk : Stmt := topS 60
abbrev N_law_walk : List Str := ["built", "paper", "picks", "number", "sets", "options", "pick", "label"]
abbrev P_law_walk : List Str := ["built", "paper", "picks", "number"]
theorem sc_law_walk : FnScope N_law_walk P_law_walk (defScope s_law_walk) := ⟨rfl, rfl, rfl, by decide +kernel, rfl, by decide +kernel, by decide +kernel⟩
abbrev s_law_bad_ends : Stmt := topS 61
abbrev N_law_bad_ends : List Str := ["arena", "keep", "built", "number", "at"]
abbrev P_law_bad_ends : List Str := ["arena", "keep", "built", "number"]
theorem sc_law_bad_ends : FnScope N_law_bad_ends P_law_bad_ends (defScope s_law_bad_ends) := ⟨rfl, rfl, rfl, by decide +kernel, rfl, by decide +kernel, by decide +kernel⟩
abbrev s_law_back : Stmt := topS 62
abbrev N_law_back : List Str := ["arena", "built", "walk", "ends", "positions", "k", "before", "at"]
abbrev P_law_back : List Str := ["arena", "built", "walk", "ends"]
theorem sc_law_back : FnScope N_law_back P_law_back (defScope s_law_back) := ⟨rfl, rfl, rfl, by decide +kernel, rfl, by decide +kernel, by decide +kernel⟩
abbrev s_law_is_refuted : Stmt := topS 63
abbrev N_law_is_refuted : List Str := ["arena", "keep", "built", "paper", "starts", "picks", "number", "walk", "ends", "positions"]
abbrev P_law_is_refuted : List Str := ["arena", "keep", "built", "paper", "starts", "picks", "number"]
theorem sc_law_is_refuted : FnScope N_law_is_refuted P_law_is_refuted (defScope s_law_is_refuted) := ⟨rfl, rfl, rfl, by decide +kernel, rfl, by decide +kernel, by decide +kernel⟩
abbrev slaw : Stmt := topS 64
abbrev Nlaw : List Str := ["script", "draws", "arena", "keep", "starts", "readings", "built", "paper", "picks", "lost", "k", "first", "at", "number"]
abbrev Plaw : List Str := ["script"]
theorem sclaw : FnScope Nlaw Plaw (defScope slaw) := ⟨rfl, rfl, rfl, by decide +kernel, rfl, by decide +kernel, by decide +kernel⟩
abbrev sFitting___init__ : Stmt := inClass (topS 33) 0
abbrev NFitting___init__ : List Str := ["self", "arena", "goal", "labels"]
abbrev PFitting___init__ : List Str := ["self", "arena", "goal", "labels"]
theorem scFitting___init__ : FnScope NFitting___init__ PFitting___init__ (defScope sFitting___init__) := ⟨rfl, rfl, rfl, by decide +kernel, rfl, by decide +kernel, by decide +kernel⟩
abbrev sFitting_fits : Stmt := inClass (topS 33) 1
abbrev NFitting_fits : List Str := ["self", "at", "index", "after", "mine", "other"]
abbrev PFitting_fits : List Str := ["self", "at", "index", "after"]
theorem scFitting_fits : FnScope NFitting_fits PFitting_fits (defScope sFitting_fits) := ⟨rfl, rfl, rfl, by decide +kernel, rfl, by decide +kernel, by decide +kernel⟩
abbrev sFitting_all_fit : Stmt := inClass (topS 33) 2
abbrev NFitting_all_fit : List Str := ["self", "at", "index", "after"]
abbrev PFitting_all_fit : List Str := ["self", "at", "index"]
theorem scFitting_all_fit : FnScope NFitting_all_fit PFitting_all_fit (defScope sFitting_all_fit) := ⟨rfl, rfl, rfl, by decide +kernel, rfl, by decide +kernel, by decide +kernel⟩
def KT (K : PySem.W.Frag) (a : Addr) (ys : List V) : Prop := ∃ o its n, List.lookup a K = some o ∧ o.cls = .type "tuple" ∧ o.data = .seq its n ∧ its.size ≤ sizeLine ∧ L2.Vals ys its.toList
theorem kt_mk {K : PySem.W.Frag} {a : Addr} {ys : List V} {o : Obj} {its : Array Value} {n : Nat} (h1 : List.lookup a K = some o) (h2 : o.cls = .type "tuple") (h3 : o.data = .seq its n) (h4 : its.size ≤ sizeLine) (h5 : L2.Vals ys its.toList) : KT K a ys := ⟨o, its, n, h1, h2, h3, h4, h5⟩
set_option genInjectivity false in
set_option genSizeOfSpec false in
structure Txt (K : PySem.W.Frag) (mg : Str → Option Value) where
  z_all : mg "all" = none
  z_any : mg "any" = none
  z_enumerate : mg "enumerate" = none
  z_int : mg "int" = none
  z_len : mg "len" = none
  z_list : mg "list" = none
  z_max : mg "max" = none
  z_min : mg "min" = none
  z_range : mg "range" = none
  z_set : mg "set" = none
  z_sorted : mg "sorted" = none
  z_tuple : mg "tuple" = none
  z_zip : mg "zip" = none
  u_CONTROLLER : Value
  g_CONTROLLER : mg "CONTROLLER" = some u_CONTROLLER
  r_CONTROLLER : L2.RelV (.int 0) u_CONTROLLER
  u_DISTURBANCE : Value
  g_DISTURBANCE : mg "DISTURBANCE" = some u_DISTURBANCE
  r_DISTURBANCE : L2.RelV (.int 1) u_DISTURBANCE
  c_OPTION_KINDS : Addr
  g_OPTION_KINDS : mg "OPTION_KINDS" = some (.ref c_OPTION_KINDS)
  k_OPTION_KINDS : KT K c_OPTION_KINDS [(.str "holds"), (.str "comes"), (.str "even"), (.str "keeps")]
  C_Fitting : Addr
  g_Fitting : mg "Fitting" = some (.ref C_Fitting)
  cl_Fitting : Cls K C_Fitting
  na_Fitting_arena : NoAttr K C_Fitting "arena"
  na_Fitting_told : NoAttr K C_Fitting "told"
  na_Fitting_labels : NoAttr K C_Fitting "labels"
  na_Fitting_greatest : NoAttr K C_Fitting "greatest"
  aforces : Addr
  dforces : FuncData
  Fforces : Fun K "forces" "forces" sforces aforces dforces
  mforces : mg "forces" = some (.ref aforces)
  a_all_marked : Addr
  d_all_marked : FuncData
  F_all_marked : Fun K "_all_marked" "_all_marked" s_all_marked a_all_marked d_all_marked
  m_all_marked : mg "_all_marked" = some (.ref a_all_marked)
  a_some_marked : Addr
  d_some_marked : FuncData
  F_some_marked : Fun K "_some_marked" "_some_marked" s_some_marked a_some_marked d_some_marked
  m_some_marked : mg "_some_marked" = some (.ref a_some_marked)
  asteps_to : Addr
  dsteps_to : FuncData
  Fsteps_to : Fun K "steps_to" "steps_to" ssteps_to asteps_to dsteps_to
  msteps_to : mg "steps_to" = some (.ref asteps_to)
  astay_ranks : Addr
  dstay_ranks : FuncData
  Fstay_ranks : Fun K "stay_ranks" "stay_ranks" sstay_ranks astay_ranks dstay_ranks
  mstay_ranks : mg "stay_ranks" = some (.ref astay_ranks)
  acome_ranks : Addr
  dcome_ranks : FuncData
  Fcome_ranks : Fun K "come_ranks" "come_ranks" scome_ranks acome_ranks dcome_ranks
  mcome_ranks : mg "come_ranks" = some (.ref acome_ranks)
  a_ranks_to : Addr
  d_ranks_to : FuncData
  F_ranks_to : Fun K "_ranks_to" "_ranks_to" s_ranks_to a_ranks_to d_ranks_to
  m_ranks_to : mg "_ranks_to" = some (.ref a_ranks_to)
  aknown_arena : Addr
  dknown_arena : FuncData
  Fknown_arena : Fun K "known_arena" "known_arena" sknown_arena aknown_arena dknown_arena
  mknown_arena : mg "known_arena" = some (.ref aknown_arena)
  a_successors_of : Addr
  d_successors_of : FuncData
  F_successors_of : Fun K "_successors_of" "_successors_of" s_successors_of a_successors_of d_successors_of
  m_successors_of : mg "_successors_of" = some (.ref a_successors_of)
  a_parted : Addr
  d_parted : FuncData
  F_parted : Fun K "_parted" "_parted" s_parted a_parted d_parted
  m_parted : mg "_parted" = some (.ref a_parted)
  acan_know : Addr
  dcan_know : FuncData
  Fcan_know : Fun K "can_know" "can_know" scan_know acan_know dcan_know
  mcan_know : mg "can_know" = some (.ref acan_know)
  ahas_option : Addr
  dhas_option : FuncData
  Fhas_option : Fun K "has_option" "has_option" shas_option ahas_option dhas_option
  mhas_option : mg "has_option" = some (.ref ahas_option)
  ais_end : Addr
  dis_end : FuncData
  Fis_end : Fun K "is_end" "is_end" sis_end ais_end dis_end
  mis_end : mg "is_end" = some (.ref ais_end)
  aplay_on : Addr
  dplay_on : FuncData
  Fplay_on : Fun K "play_on" "play_on" splay_on aplay_on dplay_on
  mplay_on : mg "play_on" = some (.ref aplay_on)
  acolour_owners : Addr
  dcolour_owners : FuncData
  Fcolour_owners : Fun K "colour_owners" "colour_owners" scolour_owners acolour_owners dcolour_owners
  mcolour_owners : mg "colour_owners" = some (.ref acolour_owners)
  asettle : Addr
  dsettle : FuncData
  Fsettle : Fun K "settle" "settle" ssettle asettle dsettle
  msettle : mg "settle" = some (.ref asettle)
  a_take_near : Addr
  d_take_near : FuncData
  F_take_near : Fun K "_take_near" "_take_near" s_take_near a_take_near d_take_near
  m_take_near : mg "_take_near" = some (.ref a_take_near)
  aleast_measures : Addr
  dleast_measures : FuncData
  Fleast_measures : Fun K "least_measures" "least_measures" sleast_measures aleast_measures dleast_measures
  mleast_measures : mg "least_measures" = some (.ref aleast_measures)
  a_entries_in : Addr
  d_entries_in : FuncData
  F_entries_in : Fun K "_entries_in" "_entries_in" s_entries_in a_entries_in d_entries_in
  m_entries_in : mg "_entries_in" = some (.ref a_entries_in)
  a_is_ended : Addr
  d_is_ended : FuncData
  F_is_ended : Fun K "_is_ended" "_is_ended" s_is_ended a_is_ended d_is_ended
  m_is_ended : mg "_is_ended" = some (.ref a_is_ended)
  a_won_without : Addr
  d_won_without : FuncData
  F_won_without : Fun K "_won_without" "_won_without" s_won_without a_won_without d_won_without
  m_won_without : mg "_won_without" = some (.ref a_won_without)
  aleast_credits : Addr
  dleast_credits : FuncData
  Fleast_credits : Fun K "least_credits" "least_credits" sleast_credits aleast_credits dleast_credits
  mleast_credits : mg "least_credits" = some (.ref aleast_credits)
  aleast_loads : Addr
  dleast_loads : FuncData
  Fleast_loads : Fun K "least_loads" "least_loads" sleast_loads aleast_loads dleast_loads
  mleast_loads : mg "least_loads" = some (.ref aleast_loads)
  a_scaled : Addr
  d_scaled : FuncData
  F_scaled : Fun K "_scaled" "_scaled" s_scaled a_scaled d_scaled
  m_scaled : mg "_scaled" = some (.ref a_scaled)
  a_least_values : Addr
  d_least_values : FuncData
  F_least_values : Fun K "_least_values" "_least_values" s_least_values a_least_values d_least_values
  m_least_values : mg "_least_values" = some (.ref a_least_values)
  avalues_of_rows : Addr
  dvalues_of_rows : FuncData
  Fvalues_of_rows : Fun K "values_of_rows" "values_of_rows" svalues_of_rows avalues_of_rows dvalues_of_rows
  mvalues_of_rows : mg "values_of_rows" = some (.ref avalues_of_rows)
  atold_paper : Addr
  dtold_paper : FuncData
  Ftold_paper : Fun K "told_paper" "told_paper" stold_paper atold_paper dtold_paper
  mtold_paper : mg "told_paper" = some (.ref atold_paper)
  a_drafts : Addr
  d_drafts : FuncData
  F_drafts : Fun K "_drafts" "_drafts" s_drafts a_drafts d_drafts
  m_drafts : mg "_drafts" = some (.ref a_drafts)
  a_tank_drafts : Addr
  d_tank_drafts : FuncData
  F_tank_drafts : Fun K "_tank_drafts" "_tank_drafts" s_tank_drafts a_tank_drafts d_tank_drafts
  m_tank_drafts : mg "_tank_drafts" = some (.ref a_tank_drafts)
  a_colour_drafts : Addr
  d_colour_drafts : FuncData
  F_colour_drafts : Fun K "_colour_drafts" "_colour_drafts" s_colour_drafts a_colour_drafts d_colour_drafts
  m_colour_drafts : mg "_colour_drafts" = some (.ref a_colour_drafts)
  a_pick : Addr
  d_pick : FuncData
  F_pick : Fun K "_pick" "_pick" s_pick a_pick d_pick
  m_pick : mg "_pick" = some (.ref a_pick)
  a_option : Addr
  d_option : FuncData
  F_option : Fun K "_option" "_option" s_option a_option d_option
  m_option : mg "_option" = some (.ref a_option)
  a_reply : Addr
  d_reply : FuncData
  F_reply : Fun K "_reply" "_reply" s_reply a_reply d_reply
  m_reply : mg "_reply" = some (.ref a_reply)
  a_law_draws : Addr
  d_law_draws : FuncData
  F_law_draws : Fun K "_law_draws" "_law_draws" s_law_draws a_law_draws d_law_draws
  m_law_draws : mg "_law_draws" = some (.ref a_law_draws)
  a_law_take : Addr
  d_law_take : FuncData
  F_law_take : Fun K "_law_take" "_law_take" s_law_take a_law_take d_law_take
  m_law_take : mg "_law_take" = some (.ref a_law_take)
  a_law_great : Addr
  d_law_great : FuncData
  F_law_great : Fun K "_law_great" "_law_great" s_law_great a_law_great d_law_great
  m_law_great : mg "_law_great" = some (.ref a_law_great)
  a_law_arena : Addr
  d_law_arena : FuncData
  F_law_arena : Fun K "_law_arena" "_law_arena" s_law_arena a_law_arena d_law_arena
  m_law_arena : mg "_law_arena" = some (.ref a_law_arena)
  a_law_some : Addr
  d_law_some : FuncData
  F_law_some : Fun K "_law_some" "_law_some" s_law_some a_law_some d_law_some
  m_law_some : mg "_law_some" = some (.ref a_law_some)
  a_law_readings : Addr
  d_law_readings : FuncData
  F_law_readings : Fun K "_law_readings" "_law_readings" s_law_readings a_law_readings d_law_readings
  m_law_readings : mg "_law_readings" = some (.ref a_law_readings)
  a_law_known_keep : Addr
  d_law_known_keep : FuncData
  F_law_known_keep : Fun K "_law_known_keep" "_law_known_keep" s_law_known_keep a_law_known_keep d_law_known_keep
  m_law_known_keep : mg "_law_known_keep" = some (.ref a_law_known_keep)
  a_law_picks : Addr
  d_law_picks : FuncData
  F_law_picks : Fun K "_law_picks" "_law_picks" s_law_picks a_law_picks d_law_picks
  m_law_picks : mg "_law_picks" = some (.ref a_law_picks)
  a_law_walk : Addr
  d_law_walk : FuncData
  F_law_walk : Fun K "_law_walk" "_law_walk" s_law_walk a_law_walk d_law_walk
  m_law_walk : mg "_law_walk" = some (.ref a_law_walk)
  a_law_bad_ends : Addr
  d_law_bad_ends : FuncData
  F_law_bad_ends : Fun K "_law_bad_ends" "_law_bad_ends" s_law_bad_ends a_law_bad_ends d_law_bad_ends
  m_law_bad_ends : mg "_law_bad_ends" = some (.ref a_law_bad_ends)
  a_law_back : Addr
  d_law_back : FuncData
  F_law_back : Fun K "_law_back" "_law_back" s_law_back a_law_back d_law_back
  m_law_back : mg "_law_back" = some (.ref a_law_back)
  a_law_is_refuted : Addr
  d_law_is_refuted : FuncData
  F_law_is_refuted : Fun K "_law_is_refuted" "_law_is_refuted" s_law_is_refuted a_law_is_refuted d_law_is_refuted
  m_law_is_refuted : mg "_law_is_refuted" = some (.ref a_law_is_refuted)
  alaw : Addr
  dlaw : FuncData
  Flaw : Fun K "law" "law" slaw alaw dlaw
  mlaw : mg "law" = some (.ref alaw)
  aFitting___init__ : Addr
  dFitting___init__ : FuncData
  FFitting___init__ : Fun K "__init__" "Fitting.__init__" sFitting___init__ aFitting___init__ dFitting___init__
  mFitting___init__ : Meth K C_Fitting "__init__" aFitting___init__
  mk_Fitting : Mk K C_Fitting aFitting___init__
  aFitting_fits : Addr
  dFitting_fits : FuncData
  FFitting_fits : Fun K "fits" "Fitting.fits" sFitting_fits aFitting_fits dFitting_fits
  mFitting_fits : Meth K C_Fitting "fits" aFitting_fits
  aFitting_all_fit : Addr
  dFitting_all_fit : FuncData
  FFitting_all_fit : Fun K "all_fit" "Fitting.all_fit" sFitting_all_fit aFitting_all_fit dFitting_all_fit
  mFitting_all_fit : Meth K C_Fitting "all_fit" aFitting_all_fit
theorem Txt.bforces {K : PySem.W.Frag} {mg : Str → Option Value} (T : Txt K mg) : Binds K T.dforces Pforces [] := T.Fforces.binds fun _ _ _ _ _ _ us hl => match us, hl with | [_, _, _], _ => rfl
theorem Txt.b_all_marked {K : PySem.W.Frag} {mg : Str → Option Value} (T : Txt K mg) : Binds K T.d_all_marked P_all_marked [] := T.F_all_marked.binds fun _ _ _ _ _ _ us hl => match us, hl with | [_, _], _ => rfl
theorem Txt.b_some_marked {K : PySem.W.Frag} {mg : Str → Option Value} (T : Txt K mg) : Binds K T.d_some_marked P_some_marked [] := T.F_some_marked.binds fun _ _ _ _ _ _ us hl => match us, hl with | [_, _], _ => rfl
theorem Txt.bsteps_to {K : PySem.W.Frag} {mg : Str → Option Value} (T : Txt K mg) : Binds K T.dsteps_to Psteps_to [] := T.Fsteps_to.binds fun _ _ _ _ _ _ us hl => match us, hl with | [_, _, _, _], _ => rfl
theorem Txt.bstay_ranks {K : PySem.W.Frag} {mg : Str → Option Value} (T : Txt K mg) : Binds K T.dstay_ranks Pstay_ranks [] := T.Fstay_ranks.binds fun _ _ _ _ _ _ us hl => match us, hl with | [_, _], _ => rfl
theorem Txt.bcome_ranks {K : PySem.W.Frag} {mg : Str → Option Value} (T : Txt K mg) : Binds K T.dcome_ranks Pcome_ranks [] := T.Fcome_ranks.binds fun _ _ _ _ _ _ us hl => match us, hl with | [_, _], _ => rfl
theorem Txt.b_ranks_to {K : PySem.W.Frag} {mg : Str → Option Value} (T : Txt K mg) : Binds K T.d_ranks_to P_ranks_to [] := T.F_ranks_to.binds fun _ _ _ _ _ _ us hl => match us, hl with | [_, _, _], _ => rfl
theorem Txt.bknown_arena {K : PySem.W.Frag} {mg : Str → Option Value} (T : Txt K mg) : Binds K T.dknown_arena Pknown_arena [] := T.Fknown_arena.binds fun _ _ _ _ _ _ us hl => match us, hl with | [_, _, _], _ => rfl
theorem Txt.b_successors_of {K : PySem.W.Frag} {mg : Str → Option Value} (T : Txt K mg) : Binds K T.d_successors_of P_successors_of [] := T.F_successors_of.binds fun _ _ _ _ _ _ us hl => match us, hl with | [_, _, _], _ => rfl
theorem Txt.b_parted {K : PySem.W.Frag} {mg : Str → Option Value} (T : Txt K mg) : Binds K T.d_parted P_parted [] := T.F_parted.binds fun _ _ _ _ _ _ us hl => match us, hl with | [_, _], _ => rfl
theorem Txt.bcan_know {K : PySem.W.Frag} {mg : Str → Option Value} (T : Txt K mg) : Binds K T.dcan_know Pcan_know [] := T.Fcan_know.binds fun _ _ _ _ _ _ us hl => match us, hl with | [_, _, _, _], _ => rfl
theorem Txt.bhas_option {K : PySem.W.Frag} {mg : Str → Option Value} (T : Txt K mg) : Binds K T.dhas_option Phas_option [] := T.Fhas_option.binds fun _ _ _ _ _ _ us hl => match us, hl with | [_], _ => rfl
theorem Txt.bis_end {K : PySem.W.Frag} {mg : Str → Option Value} (T : Txt K mg) : Binds K T.dis_end Pis_end [] := T.Fis_end.binds fun _ _ _ _ _ _ us hl => match us, hl with | [_], _ => rfl
theorem Txt.bplay_on {K : PySem.W.Frag} {mg : Str → Option Value} (T : Txt K mg) : Binds K T.dplay_on Pplay_on [] := T.Fplay_on.binds fun _ _ _ _ _ _ us hl => match us, hl with | [_, _, _, _], _ => rfl
theorem Txt.bcolour_owners {K : PySem.W.Frag} {mg : Str → Option Value} (T : Txt K mg) : Binds K T.dcolour_owners Pcolour_owners [] := T.Fcolour_owners.binds fun _ _ _ _ _ _ us hl => match us, hl with | [_, _], _ => rfl
theorem Txt.bsettle {K : PySem.W.Frag} {mg : Str → Option Value} (T : Txt K mg) : Binds K T.dsettle Psettle [] := T.Fsettle.binds fun _ _ _ _ _ _ us hl => match us, hl with | [_, _, _], _ => rfl
theorem Txt.b_take_near {K : PySem.W.Frag} {mg : Str → Option Value} (T : Txt K mg) : Binds K T.d_take_near P_take_near [] := T.F_take_near.binds fun _ _ _ _ _ _ us hl => match us, hl with | [_, _], _ => rfl
theorem Txt.bleast_measures {K : PySem.W.Frag} {mg : Str → Option Value} (T : Txt K mg) : Binds K T.dleast_measures Pleast_measures [] := T.Fleast_measures.binds fun _ _ _ _ _ _ us hl => match us, hl with | [_, _, _, _], _ => rfl
theorem Txt.b_entries_in {K : PySem.W.Frag} {mg : Str → Option Value} (T : Txt K mg) : Binds K T.d_entries_in P_entries_in [] := T.F_entries_in.binds fun _ _ _ _ _ _ us hl => match us, hl with | [_, _, _, _, _, _], _ => rfl
theorem Txt.b_is_ended {K : PySem.W.Frag} {mg : Str → Option Value} (T : Txt K mg) : Binds K T.d_is_ended P_is_ended [] := T.F_is_ended.binds fun _ _ _ _ _ _ us hl => match us, hl with | [_], _ => rfl
theorem Txt.b_won_without {K : PySem.W.Frag} {mg : Str → Option Value} (T : Txt K mg) : Binds K T.d_won_without P_won_without [] := T.F_won_without.binds fun _ _ _ _ _ _ us hl => match us, hl with | [_, _, _, _, _], _ => rfl
theorem Txt.bleast_credits {K : PySem.W.Frag} {mg : Str → Option Value} (T : Txt K mg) : Binds K T.dleast_credits Pleast_credits [] := T.Fleast_credits.binds fun _ _ _ _ _ _ us hl => match us, hl with | [_, _], _ => rfl
theorem Txt.bleast_loads {K : PySem.W.Frag} {mg : Str → Option Value} (T : Txt K mg) : Binds K T.dleast_loads Pleast_loads [] := T.Fleast_loads.binds fun _ _ _ _ _ _ us hl => match us, hl with | [_, _], _ => rfl
theorem Txt.b_scaled {K : PySem.W.Frag} {mg : Str → Option Value} (T : Txt K mg) : Binds K T.d_scaled P_scaled [] := T.F_scaled.binds fun _ _ _ _ _ _ us hl => match us, hl with | [_], _ => rfl
theorem Txt.b_least_values {K : PySem.W.Frag} {mg : Str → Option Value} (T : Txt K mg) : Binds K T.d_least_values P_least_values [] := T.F_least_values.binds fun _ _ _ _ _ _ us hl => match us, hl with | [_], _ => rfl
theorem Txt.bvalues_of_rows {K : PySem.W.Frag} {mg : Str → Option Value} (T : Txt K mg) : Binds K T.dvalues_of_rows Pvalues_of_rows [] := T.Fvalues_of_rows.binds fun _ _ _ _ _ _ us hl => match us, hl with | [_, _], _ => rfl
theorem Txt.btold_paper {K : PySem.W.Frag} {mg : Str → Option Value} (T : Txt K mg) : Binds K T.dtold_paper Ptold_paper [] := T.Ftold_paper.binds fun _ _ _ _ _ _ us hl => match us, hl with | [_, _], _ => rfl
theorem Txt.b_drafts {K : PySem.W.Frag} {mg : Str → Option Value} (T : Txt K mg) : Binds K T.d_drafts P_drafts [] := T.F_drafts.binds fun _ _ _ _ _ _ us hl => match us, hl with | [_, _], _ => rfl
theorem Txt.b_tank_drafts {K : PySem.W.Frag} {mg : Str → Option Value} (T : Txt K mg) : Binds K T.d_tank_drafts P_tank_drafts [] := T.F_tank_drafts.binds fun _ _ _ _ _ _ us hl => match us, hl with | [_, _], _ => rfl
theorem Txt.b_colour_drafts {K : PySem.W.Frag} {mg : Str → Option Value} (T : Txt K mg) : Binds K T.d_colour_drafts P_colour_drafts [] := T.F_colour_drafts.binds fun _ _ _ _ _ _ us hl => match us, hl with | [_, _], _ => rfl
theorem Txt.b_pick {K : PySem.W.Frag} {mg : Str → Option Value} (T : Txt K mg) : Binds K T.d_pick P_pick [] := T.F_pick.binds fun _ _ _ _ _ _ us hl => match us, hl with | [_, _], _ => rfl
theorem Txt.b_option {K : PySem.W.Frag} {mg : Str → Option Value} (T : Txt K mg) : Binds K T.d_option P_option [] := T.F_option.binds fun _ _ _ _ _ _ us hl => match us, hl with | [_, _], _ => rfl
theorem Txt.b_reply {K : PySem.W.Frag} {mg : Str → Option Value} (T : Txt K mg) : Binds K T.d_reply P_reply [] := T.F_reply.binds fun _ _ _ _ _ _ us hl => match us, hl with | [_, _, _], _ => rfl
theorem Txt.b_law_draws {K : PySem.W.Frag} {mg : Str → Option Value} (T : Txt K mg) : Binds K T.d_law_draws P_law_draws [] := T.F_law_draws.binds fun _ _ _ _ _ _ us hl => match us, hl with | [_, _], _ => rfl
theorem Txt.b_law_take {K : PySem.W.Frag} {mg : Str → Option Value} (T : Txt K mg) : Binds K T.d_law_take P_law_take [] := T.F_law_take.binds fun _ _ _ _ _ _ us hl => match us, hl with | [_, _], _ => rfl
theorem Txt.b_law_great {K : PySem.W.Frag} {mg : Str → Option Value} (T : Txt K mg) : Binds K T.d_law_great P_law_great [] := T.F_law_great.binds fun _ _ _ _ _ _ us hl => match us, hl with | [_], _ => rfl
theorem Txt.b_law_arena {K : PySem.W.Frag} {mg : Str → Option Value} (T : Txt K mg) : Binds K T.d_law_arena P_law_arena [] := T.F_law_arena.binds fun _ _ _ _ _ _ us hl => match us, hl with | [_, _], _ => rfl
theorem Txt.b_law_some {K : PySem.W.Frag} {mg : Str → Option Value} (T : Txt K mg) : Binds K T.d_law_some P_law_some [] := T.F_law_some.binds fun _ _ _ _ _ _ us hl => match us, hl with | [_, _, _], _ => rfl
theorem Txt.b_law_readings {K : PySem.W.Frag} {mg : Str → Option Value} (T : Txt K mg) : Binds K T.d_law_readings P_law_readings [] := T.F_law_readings.binds fun _ _ _ _ _ _ us hl => match us, hl with | [_, _, _], _ => rfl
theorem Txt.b_law_known_keep {K : PySem.W.Frag} {mg : Str → Option Value} (T : Txt K mg) : Binds K T.d_law_known_keep P_law_known_keep [] := T.F_law_known_keep.binds fun _ _ _ _ _ _ us hl => match us, hl with | [_, _], _ => rfl
theorem Txt.b_law_picks {K : PySem.W.Frag} {mg : Str → Option Value} (T : Txt K mg) : Binds K T.d_law_picks P_law_picks [] := T.F_law_picks.binds fun _ _ _ _ _ _ us hl => match us, hl with | [_, _, _], _ => rfl
theorem Txt.b_law_walk {K : PySem.W.Frag} {mg : Str → Option Value} (T : Txt K mg) : Binds K T.d_law_walk P_law_walk [] := T.F_law_walk.binds fun _ _ _ _ _ _ us hl => match us, hl with | [_, _, _, _], _ => rfl
theorem Txt.b_law_bad_ends {K : PySem.W.Frag} {mg : Str → Option Value} (T : Txt K mg) : Binds K T.d_law_bad_ends P_law_bad_ends [] := T.F_law_bad_ends.binds fun _ _ _ _ _ _ us hl => match us, hl with | [_, _, _, _], _ => rfl
theorem Txt.b_law_back {K : PySem.W.Frag} {mg : Str → Option Value} (T : Txt K mg) : Binds K T.d_law_back P_law_back [] := T.F_law_back.binds fun _ _ _ _ _ _ us hl => match us, hl with | [_, _, _, _], _ => rfl
theorem Txt.b_law_is_refuted {K : PySem.W.Frag} {mg : Str → Option Value} (T : Txt K mg) : Binds K T.d_law_is_refuted P_law_is_refuted [] := T.F_law_is_refuted.binds fun _ _ _ _ _ _ us hl => match us, hl with | [_, _, _, _, _, _, _], _ => rfl
theorem Txt.blaw {K : PySem.W.Frag} {mg : Str → Option Value} (T : Txt K mg) : Binds K T.dlaw Plaw [] := T.Flaw.binds fun _ _ _ _ _ _ us hl => match us, hl with | [_], _ => rfl
theorem Txt.bFitting___init__ {K : PySem.W.Frag} {mg : Str → Option Value} (T : Txt K mg) : Binds K T.dFitting___init__ PFitting___init__ [] := T.FFitting___init__.binds fun _ _ _ _ _ _ us hl => match us, hl with | [_, _, _, _], _ => rfl
theorem Txt.bFitting_fits {K : PySem.W.Frag} {mg : Str → Option Value} (T : Txt K mg) : Binds K T.dFitting_fits PFitting_fits [] := T.FFitting_fits.binds fun _ _ _ _ _ _ us hl => match us, hl with | [_, _, _, _], _ => rfl
theorem Txt.bFitting_all_fit {K : PySem.W.Frag} {mg : Str → Option Value} (T : Txt K mg) : Binds K T.dFitting_all_fit PFitting_all_fit [] := T.FFitting_all_fit.binds fun _ _ _ _ _ _ us hl => match us, hl with | [_, _, _], _ => rfl
end NL

namespace NL
open PySem PySem.Spec PyProof.Rows L2

/-! ### frames: what stays while the list of draws at d is used up -/
structure Go (d : Addr) (H H' : Hp) : Prop where
  fr : ∀ b o, b ≠ d → H b = some o → H' b = some o
  dr : ∃ ns : List Int, H' d = some (.lst (ns.map V.int))
abbrev Dr (H : Hp) (d : Addr) : Prop := ∃ ns : List Int, H d = some (.lst (ns.map V.int))
theorem Go.refl {d : Addr} {H : Hp} (h : Dr H d) : Go d H H := ⟨fun _ _ _ e => e, h⟩
theorem Go.trans {d : Addr} {H H1 H2 : Hp} (a : Go d H H1) (b : Go d H1 H2) : Go d H H2 := ⟨fun c o n e => b.fr c o n (a.fr c o n e), b.dr⟩
theorem Go.new {d p : Addr} {H : Hp} {o : HO} (h : Dr H d) (hp : H p = none) : Go d H (upd H p o) := by
  obtain ⟨ns, e⟩ := h
  have n : d ≠ p := ne_of_none e hp
  exact ⟨fun b u _ q => by rw [upd_ne (ne_of_none q hp)]; exact q, ⟨ns, by rw [upd_ne n]; exact e⟩⟩
theorem Go.put {d : Addr} {H : Hp} (ns : List Int) : Go d H (upd H d (.lst (ns.map V.int))) := ⟨fun b u n q => by rw [upd_ne n]; exact q, ⟨ns, upd_same⟩⟩
theorem Go.same {d : Addr} {H H' : Hp} (h : Dr H d) (s : Same H H') : Go d H H' := ⟨fun b o _ e => s b o e, by obtain ⟨ns, e⟩ := h; exact ⟨ns, s _ _ e⟩⟩
theorem Go.tup {d a : Addr} {H H' : Hp} {xs : List V} (g : Go d H H') (h : Dr H d) (e : H a = some (.tup xs)) : H' a = some (.tup xs) := by
  refine g.fr a _ ?_ e
  rintro rfl
  obtain ⟨ns, q⟩ := h
  rw [e] at q; cases q
theorem same_new {H : Hp} {p : Addr} (h : H p = none) (o : HO) : Same H (upd H p o) := fun b u q => by rw [upd_ne (ne_of_none q h)]; exact q
/-- all tuples stay -/
def Tp (H H' : Hp) : Prop := ∀ a xs, H a = some (.tup xs) → H' a = some (.tup xs)
theorem Go.tp {d : Addr} {H H' : Hp} (g : Go d H H') (h : Dr H d) : Tp H H' := fun _ _ e => g.tup h e
theorem Tp.same {H H' : Hp} (s : Same H H') : Tp H H' := fun _ _ e => s _ _ e
theorem Tp.trans {H H1 H2 : Hp} (a : Tp H H1) (b : Tp H1 H2) : Tp H H2 := fun x y e => b x y (a x y e)
theorem Tp.refl {H : Hp} : Tp H H := fun _ _ e => e
/-- a list that stays readable whatever is drawn at d -/
def Keep (K : PySem.W.Frag) (d : Addr) (H : Hp) (a : Addr) (xs : List V) : Prop := ∀ H', (∀ b o, b ≠ d → H b = some o → H' b = some o) → SqL K H' a xs
theorem Keep.now {K : PySem.W.Frag} {d a : Addr} {H : Hp} {xs : List V} (k : Keep K d H a xs) : SqL K H a xs := k H fun _ _ _ e => e
theorem Keep.go {K : PySem.W.Frag} {d a : Addr} {H H' : Hp} {xs : List V} (k : Keep K d H a xs) (g : Go d H H') : Keep K d H' a xs := fun H2 f => k H2 fun b o n e => f b o n (g.fr b o n e)
theorem Keep.of {K : PySem.W.Frag} {d a : Addr} {H : Hp} {xs : List V} (n : a ≠ d) (h : H a = some (.lst xs)) : Keep K d H a xs := fun H' f => .inl (.inl (f a _ n h))
/-- what was read ahead of the draws' list stays -/
theorem Keep.old {K : PySem.W.Frag} {d a : Addr} {H0 H : Hp} {xs : List V} (h : SqL K H0 a xs) (hd : H0 d = none) (f : ∀ b o, H0 b = some o → H b = some o) : Keep K d H a xs := fun H' g => by
  rcases h with (h | ⟨o, h⟩) | h
  · exact .inl (.inl (g a _ (ne_of_none h hd) (f _ _ h)))
  · exact .inl (.inr ⟨o, g a _ (ne_of_none h hd) (f _ _ h)⟩)
  · exact .inr h

/-! ### rules whose written part is named (in a comprehension) -/
theorem ix_tupK {X : Cx} {K : PySem.W.Frag} (h : X.K = K) : IxR X (rIxT K) := by subst h; exact ix_tup
theorem ix_listK {X : Cx} {K : PySem.W.Frag} (h : X.K = K) : IxR X (rIxL K) := by subst h; exact ix_list
def rTupOf (K : PySem.W.Frag) : List V → Hp → VK → Prop := fun xs H Q => ∃ p ys, xs = [.ref p] ∧ ((SqL K H p ys ∧ ∀ l, H l = none → Q (.ref l) (upd H l (.tup ys))) ∨ (SqT K H p ys ∧ Q (.ref p) H))
theorem call_tuple_ofK {X : Cx} {K : PySem.W.Frag} (h : X.K = K) : CallR X (.type "tuple") (rTupOf K) := by subst h; exact call_tuple_of
/-! ### texts and words -/
/-- signs a to z alone -/
def Wd (z : Str) : Prop := ∀ c ∈ z.cps.toList, 97 ≤ c ∧ c ≤ 122
instance (z : Str) : Decidable (Wd z) := by unfold Wd; infer_instance
def res : List Str := ["true", "false", "add", "sub", "mul", "div", "mod", "min", "max", "abs", "if", "less", "equal", "not", "all", "any"]
theorem app_list (a b : Str) : (a ++ b).cps.toList = a.cps.toList ++ b.cps.toList := by
  show (a.cps ++ b.cps).toList = _
  simp
theorem len_list (a : Str) : a.length = a.cps.toList.length := by
  show a.cps.size = _
  simp
theorem len_app (a b : Str) : (a ++ b).length = a.length + b.length := by
  rw [len_list, app_list, List.length_append, ← len_list, ← len_list]
theorem str_ext {a b : Str} (h : a.cps.toList = b.cps.toList) : a = b := by
  cases a with | mk x => cases b with | mk y =>
  have : x = y := Array.toList_inj.mp h
  rw [this]
theorem Wd.app {a b : Str} (ha : Wd a) (hb : Wd b) : Wd (a ++ b) := fun c hc => by
  rw [app_list] at hc
  rcases List.mem_append.mp hc with h | h
  · exact ha c h
  · exact hb c h
structure Nam (z : Str) : Prop where
  wd : Wd z
  len : 0 < z.length ∧ z.length ≤ 200
  nr : z ∉ res
structure Nm (z : Str) : Prop where
  wd : Wd z
  len : 0 < z.length ∧ z.length ≤ 150

/-! ### lists at an index -/
theorem atI_mem {α : Type} {xs : List α} {i : Int} (h0 : 0 ≤ i) (h1 : i < xs.length) : ∃ v, atI xs i = some v ∧ v ∈ xs := by
  have hk : i.toNat < xs.length := by omega
  have ek : i = ((i.toNat : Nat) : Int) := by omega
  have q : atI xs ((i.toNat : Nat) : Int) = some xs[i.toNat] := atI_nat (List.getElem?_eq_getElem hk)
  rw [← ek] at q
  exact ⟨_, q, List.getElem_mem hk⟩
theorem atI_map {α β : Type} {f : α → β} {xs : List α} {i : Int} (h0 : 0 ≤ i) (h1 : i < xs.length) : ∃ v, atI (xs.map f) i = some (f v) ∧ v ∈ xs := by
  obtain ⟨v, h, m⟩ := atI_mem (xs := xs.map f) h0 (by rw [List.length_map]; exact h1)
  obtain ⟨u, hu, rfl⟩ := List.mem_map.mp m
  exact ⟨u, h, hu⟩
theorem sqd {K : PySem.W.Frag} {H : Hp} {a : Addr} {xs : List V} (h : H a = some (.lst xs)) : SqL K H a xs := .inl (.inl h)
theorem sqt {K : PySem.W.Frag} {H : Hp} {a : Addr} {xs : List V} (h : H a = some (.tup xs)) : SqT K H a xs := .inl (.inl h)
theorem int_eq {i j : Int} (h : decide (V.int i = V.int j) = true) : i = j := V.int.inj (of_decide_eq_true h)
theorem int_ne {i j : Int} (h : ¬ decide (V.int i = V.int j) = true) : i ≠ j := fun e => h (decide_eq_true (by rw [e]))
section
variable {P : Program} {w : World} {K : PySem.W.Frag} {mg : Str → Option Value} {base : Heap}
/-! ### _law_take -/
def spTake : Sp := fun vs H Q _ => ∃ (d : Addr) (m : Int), vs = [.ref d, .int m] ∧ Dr H d ∧ 0 < m ∧ ∀ r H', Go d H H' → 0 ≤ r → r < m → Q (.int r) H'
theorem ok_law_take (T : Txt K mg) : FnOk P w K mg base CX0 1 T.a_law_take T.d_law_take P_law_take spTake := by
  refine T.F_law_take.ok sc_law_take (fun vs H Q E h => ?_) (fun cdv A outer s H vs Q E hr h => ?_)
  · obtain ⟨d, m, rfl, _⟩ := h
    rfl
  obtain ⟨d, m, rfl, hD, hm, q⟩ := h
  refine ⟨_, (pss_cons (ps_if (pt_cmpR op_eq (pe_callB call_len_seq (by rfl) T.z_len PySem.boot_len (pa_cons (pv 0) pa_nil)) pe_int (nomark _))
    (pss_one (ps_ret pe_int))
    pss_nil)
    (pss_one (ps_ret (pe_op op_mod (pe_callTy call_int1 (by rfl) T.z_int (by decide +kernel) (pa_cons (pe_bm0 PySem.F.plainAttrs_list PySem.F.slot_list_pop PySem.F.type_list_pop mt_pop (pv 0)) pa_nil)) (pv 1))))), ?_⟩
  obtain ⟨ns, hd⟩ := hD
  refine ⟨_, rfl, _, _, rfl, .inl (sqd hd), rfl, _, rfl, ?_⟩
  refine ite2 (fun c => ?_) (fun c => ?_)
  · exact q 0 H (Go.refl ⟨ns, hd⟩) (Int.le_refl 0) hm
  · have hn := int_ne c
    rw [List.length_map] at hn
    have hz : ns ≠ [] := by
      rintro rfl
      exact hn rfl
    have hl : 0 < ns.length := List.length_pos_iff.mpr hz
    have he : (ns.map V.int)[(ns.map V.int).length - 1]? = some (.int ns[ns.length - 1]) := by
      rw [List.length_map, List.getElem?_map, List.getElem?_eq_getElem (by omega)]
      rfl
    refine ⟨_, rfl, .inl ⟨rfl, _, sqd hd⟩, _, _, _, rfl, rfl, hd, he, .inl ⟨_, rfl, ?_⟩⟩
    refine ⟨_, rfl, _, _, rfl, rfl, hm, ?_⟩
    refine q _ _ ?_ (Int.emod_nonneg _ (by omega)) (Int.emod_lt_of_pos _ hm)
    rw [← List.map_dropLast]
    exact Go.put _
end
end NL

namespace NL
open PySem PySem.Spec PyProof.Rows L2
theorem yes_if {σ : L2.St} {H : Hp} {a n : Hp → Prop} (h : a H) : tYes σ H (fun b H3 => if b = true then a H3 else n H3) := by
  show (if true = true then a H else n H)
  rw [if_pos rfl]
  exact h
/-- one reading for two ways -/
theorem cutP {B C : Prop} (f : B → C) (b : B) : C := f b
theorem ifT {c : Bool} {A B : Prop} (h : c = true) (a : A) : if c = true then A else B := by
  rw [if_pos h]; exact a
theorem ifF {c : Bool} {A B : Prop} (h : c = false) (b : B) : if c = true then A else B := by
  rw [if_neg (by rw [h]; exact Bool.false_ne_true)]; exact b
theorem atI0 {α : Type} {x : α} {r : List α} : atI (x :: r) 0 = some x := atI_nat (j := 0) rfl
theorem atI1 {α : Type} {x y : α} {r : List α} : atI (x :: y :: r) 1 = some y := atI_nat (j := 1) rfl
theorem boolE {Q : VK} {b b' : Bool} {H : Hp} (h : b = b') (q : Q (.bl b') H) : Q (.bl b) H := by rw [h]; exact q
theorem big {n : Nat} (h : n ≤ 1000000) : n ≤ sizeLine := Nat.le_trans h (by decide)
theorem big' {n : Nat} (h : n ≤ 1000000) : n < sizeLine := Nat.lt_of_le_of_lt h (by decide)
theorem int_in {x : Int} {l : List Int} : inV (.int x) (l.map V.int) = decide (x ∈ l) := by
  unfold inV
  rw [List.any_map]
  induction l with
  | nil => rfl
  | cons a r ih =>
    rw [List.any_cons, ih]
    show (eqV (.int a) (.int x) || _) = _
    have e : eqV (.int a) (.int x) = decide (x = a) := by
      show (a == x) = _
      rw [Bool.beq_eq_decide_eq]
      exact decide_eq_decide.mpr ⟨fun h => h.symm, fun h => h.symm⟩
    rw [e, ← Bool.decide_or]
    exact decide_eq_decide.mpr List.mem_cons.symm
theorem flat_ints' (l : List Int) : (l.map V.int).all flatV = true := by
  induction l with
  | nil => rfl
  | cons a r ih => rw [List.map_cons, List.all_cons, ih]; rfl
theorem notIn_int {x : Int} {l : List Int} : (if true = true then !inV (V.int x) (l.map V.int) else inV (V.int x) (l.map V.int)) = !decide (x ∈ l) := by
  rw [if_pos rfl, int_in]
def rLenK (K : PySem.W.Frag) : List V → Hp → VK → Prop := fun xs H Q => ∃ p ys, xs = [.ref p] ∧ (SqL K H p ys ∨ SqT K H p ys) ∧ Q (.int (ys.length : Nat)) H
theorem call_len_seqK {X : Cx} {K : PySem.W.Frag} (h : X.K = K) : CallR X (.builtin "len") (rLenK K) := by
  subst h
  exact call_len_seq
end NL

namespace NL
open PySem PySem.Spec PyProof.Rows L2
theorem ixN_in {n : Nat} {k : Int} (h0 : 0 ≤ k) (h1 : k < n) : ixN n k = some k.toNat := by
  unfold ixN
  rw [if_pos h0, if_pos h1]
/-- a change at what was not there before -/
theorem same_put {H H' : Hp} {p : Addr} {o : HO} (s : Same H H') (hp : H p = none) : Same H (upd H' p o) := fun b u e => by
  rw [upd_ne (ne_of_none e hp)]
  exact s b u e
section
variable {P : Program} {w : World} {K : PySem.W.Frag} {mg : Str → Option Value} {base : Heap}
def spDraws (K : PySem.W.Frag) : Sp := fun vs H Q _ => ∃ (a : Addr) (ns : List Int) (m : Int), vs = [.ref a, .int m] ∧ SqL K H a (ns.map V.int) ∧ ns.length ≤ 63 ∧ 0 ≤ m ∧ m ≤ 10000 ∧
  ∀ d H', Same H H' → H d = none → Dr H' d → Q (.ref d) H'
theorem ok_law_draws (T : Txt K mg) : FnOk P w K mg base CX0 1 T.a_law_draws T.d_law_draws P_law_draws (spDraws K) := by
  refine T.F_law_draws.ok sc_law_draws (fun vs H Q E h => ?_) (fun cdv A outer s H vs Q E hr h => ?_)
  · obtain ⟨a, ns, m, rfl, _⟩ := h
    rfl
  obtain ⟨a, ns, m, rfl, hS, hl, m0, m1, q⟩ := h
  refine ⟨_, (pss_cons (ps_setLc (i := 2) (own := [("cell", 3)]) (g := (gName 3)) (tt := tYes) rfl sc_law_draws.nd rfl rfl (sw_true rfl rfl rfl (by decide +kernel)) (pi_list (pv 0)) (blkOk_by (N := N_law_draws) (sc := defScope s_law_draws) (by decide +kernel)) (fun _ _ _ _ _ => (pg_name (i := 3) sc_law_draws.nd rfl (Or.inl rfl))) (fun _ _ _ _ _ => pts_nil) (fun _ _ _ _ _ => (pe_callTy call_int1 (by rfl) T.z_int (by decide +kernel) (pa_cons (pv 3) pa_nil))))
    (C8.pss_cut (ps_if (pt_cmpR op_eq (pe_callB call_len_seq (by rfl) T.z_len PySem.boot_len (pa_cons (pv 2) pa_nil)) pe_int (nomark _))
    (pss_one (ps_expr (pe_bm PySem.F.plainAttrs_list PySem.F.slot_list_append PySem.F.type_list_append mt_append (pv 2) (pa_cons pe_int pa_nil))))
    pss_nil)
    (pss_cons (ps_set (i := 4) sc_law_draws.nd rfl (Or.inl rfl) (pe_callTy call_list_of (by rfl) T.z_list (by decide +kernel) (pa_cons (pv 2) pa_nil)))
    (pss_cons (ps_set (i := 5) sc_law_draws.nd rfl (Or.inl rfl) (pe_lst pa_nil))
    (pss_cons (ps_for  PassesOwn.never rfl (pi_range1 (by rfl) T.z_range (pa_cons (pv 1) pa_nil)) (pg_name (i := 6) sc_law_draws.nd rfl (Or.inl rfl))
    (pss_cons (ps_set (i := 7) sc_law_draws.nd rfl (Or.inl rfl) (pe_op op_mod (pv 6) (pe_callB call_len_seq (by rfl) T.z_len PySem.boot_len (pa_cons (pv 2) pa_nil))))
    (pss_one (ps_if (pt_cmpR op_ge (pe_ix ix_list (pv 2) (pv 7) (fun _ _ => rfl)) (pe_op op_pow pe_int pe_int) (nomark _))
    (pss_cons (ps_expr (pe_bm PySem.F.plainAttrs_list PySem.F.slot_list_append PySem.F.type_list_append mt_append (pv 5) (pa_cons (pe_op op_mod (pe_callTy call_int1 (by rfl) T.z_int (by decide +kernel) (pa_cons (pe_ix ix_list (pv 4) (pv 7) (fun _ _ => rfl)) pa_nil)) pe_int) pa_nil)))
    (pss_one (ps_asg (pe_op op_fdiv (pe_ix ix_list (pv 4) (pv 7) (fun _ _ => rfl)) pe_int) (pg_sub (pv 4) (pv 7) set_list))))
    (pss_cons (ps_set (i := 8) sc_law_draws.nd rfl (Or.inl rfl) (pe_op op_mod (pe_callTy call_int1 (by rfl) T.z_int (by decide +kernel) (pa_cons (pe_op op_add (pe_op op_add (pe_op op_mul (pe_ix ix_list (pv 2) (pv 7) (fun _ _ => rfl)) pe_int) (pe_op op_mul (pv 6) pe_int)) pe_int) pa_nil)) pe_int))
    (pss_one (ps_expr (pe_bm PySem.F.plainAttrs_list PySem.F.slot_list_append PySem.F.type_list_append mt_append (pv 5) (pa_cons (pe_op op_mod (pe_callTy call_int1 (by rfl) T.z_int (by decide +kernel) (pa_cons (pe_op op_add (pe_op op_add (pe_op op_mul (pv 8) (pv 8)) (pe_op op_mul pe_int (pv 8))) (pv 6)) pa_nil)) pe_int) pa_nil)))))))))
    (pss_cons (ps_expr (pe_bm0 PySem.F.plainAttrs_list PySem.F.slot_list_reverse PySem.F.type_list_reverse mt_reverse (pv 5)))
    (pss_one (ps_ret (pv 5))))))))), ?_⟩
  -- cells
  refine ⟨_, rfl, a, rfl, ⟨_, hS⟩, fun c hc => ?_⟩
  refine lc_list (K := K) (a := a) (xs := ns.map V.int) (fun (j : Nat) (H' : Hp) => Same H H' ∧ H' c = some (.lst ((ns.take j).map V.int))) ?_ ?_ ?_ ?_
  · exact ⟨same_new hc _, by rw [upd_same, List.take_zero]; rfl⟩
  · rintro i H' _ ⟨s1, _⟩
    exact s1.seq hS
  · rintro i x H' hx ⟨s1, e1⟩
    rw [List.getElem?_map] at hx
    cases hn : ns[i]? with
    | none => rw [hn] at hx; cases hx
    | some n =>
      rw [hn] at hx
      obtain rfl : V.int n = x := Option.some.inj hx
      refine ⟨rfl, yes_if ?_⟩
      refine ⟨_, rfl, .inl ⟨n, rfl, _, e1, ?_, same_put s1 hc, ?_⟩⟩
      · rw [List.length_map, List.length_take]
        exact big' (by omega)
      · rw [upd_same, List.take_add_one, hn, List.map_append]
        rfl
  · rintro H1 ⟨s1, e1⟩
    rw [List.length_map, List.take_length] at e1
    -- at least one cell
    refine ⟨fun σ H2 => ∃ cs : List Int, cs ≠ [] ∧ cs.length ≤ 63 ∧ σ = [some (.ref a), some (.int m), some (.ref c), none, none, none, none, none, none] ∧ Same H H2 ∧ H2 c = some (.lst (cs.map V.int)), ?_, ?_⟩
    · refine ⟨_, rfl, _, _, rfl, .inl (sqd e1), rfl, _, rfl, ?_⟩
      refine ite2 (fun z => ?_) (fun z => ?_)
      · refine ⟨_, rfl, .inl ⟨rfl, _, sqd e1⟩, c, _, _, rfl, rfl, e1, ?_, ?_⟩
        · rw [List.length_map]
          exact big' (by omega)
        · have hz := int_eq z
          rw [List.length_map] at hz
          have : ns = [] := List.length_eq_zero_iff.mp (by omega)
          subst this
          exact ⟨[0], by simp, by decide, rfl, same_put s1 hc, upd_same⟩
      · have hz := int_ne z
        rw [List.length_map] at hz
        refine ⟨ns, ?_, hl, rfl, s1, e1⟩
        rintro rfl
        exact hz rfl
    · rintro σ H2 ⟨cs, hcs, hcl, rfl, s2, e2⟩
      have hpos : 0 < cs.length := List.length_pos_iff.mpr hcs
      -- rest, draws
      refine ⟨_, rfl, _, _, rfl, .inl (sqd e2), fun r hr2 => ?_⟩
      have ncr : c ≠ r := ne_of_none e2 hr2
      refine ⟨(Nat.le_of_ble_eq_true rfl), fun d hd => ?_⟩
      have ncd : c ≠ d := ne_of_none (by rw [upd_ne ncr]; exact e2) hd
      have nrd : r ≠ d := ne_of_none upd_same hd
      have hHr : H r = none := s2.free hr2
      have hHd : H d = none := (s2.trans (same_new hr2 _)).free hd
      refine ⟨_, rfl, m, rfl, by omega, by omega, for_range (lo := 0) (n := m.toNat) (fun (j : Nat) (σ : L2.St) (H' : Hp) => ∃ (rs ds : List Int) (y1 y2 y3 : Option V), σ = [some (.ref a), some (.int m), some (.ref c), none, some (.ref r), some (.ref d), y1, y2, y3] ∧ Same H H' ∧ H' c = some (.lst (cs.map V.int)) ∧ H' r = some (.lst (rs.map V.int)) ∧ rs.length = cs.length ∧ H' d = some (.lst (ds.map V.int)) ∧ ds.length ≤ j) ?_ ?_ ?_⟩
      · refine ⟨cs, [], none, none, none, rfl, (s2.trans (same_new hr2 _)).trans (same_new hd _), ?_, ?_, rfl, upd_same, Nat.le_refl _⟩
        · rw [upd_ne ncd, upd_ne ncr]; exact e2
        · rw [upd_ne nrd]; exact upd_same
      · rintro j σ H' hj ⟨rs, ds, y1, y2, y3, rfl, s3, ec, er, hrl, ed, hdl⟩
        have b0 := Int.emod_nonneg ((0 : Int) + (j : Int)) (show (((cs.map V.int).length : Nat) : Int) ≠ 0 by rw [List.length_map]; omega)
        have b1 : (((0 : Int) + (j : Int)) % (((cs.map V.int).length : Nat) : Int)) < (cs.length : Int) := by
          have h := Int.emod_lt_of_pos ((0 : Int) + (j : Int)) (show 0 < (((cs.map V.int).length : Nat) : Int) by rw [List.length_map]; omega)
          rw [List.length_map] at h ⊢
          exact h
        refine ⟨_, rfl, _, rfl, _, _, rfl, .inl (sqd ec), _, _, rfl, rfl, (by show 0 < (((cs.map V.int).length : Nat) : Int); rw [List.length_map]; omega), ?_⟩
        obtain ⟨cv, hcv, _⟩ := atI_map (f := V.int) (xs := cs) b0 b1
        obtain ⟨rv, hrv, _⟩ := atI_map (f := V.int) (xs := rs) b0 (by omega)
        refine ⟨_, rfl, _, rfl, _, _, _, _, rfl, rfl, sqd ec, hcv, _, _, rfl, rfl, ⟨by decide, by decide, by decide⟩, _, _, rfl, rfl, _, rfl, ?_⟩
        refine ite2 (fun z => ?_) (fun z => ?_)
        · refine ⟨_, rfl, .inl ⟨rfl, _, sqd ed⟩, _, rfl, _, rfl, _, _, _, _, rfl, rfl, sqd er, hrv, .inl ⟨_, rfl, _, _, rfl, rfl, (by show (0 : Int) < 1000; decide), d, _, _, rfl, rfl, ed, ?_, ?_⟩⟩
          · rw [List.length_map]
            exact big' (by omega)
          · have er2 : ∀ o, (upd H' d o) r = some (.lst (rs.map V.int)) := fun o => by rw [upd_ne nrd]; exact er
            refine ⟨_, rfl, _, rfl, _, _, _, _, rfl, rfl, sqd (er2 _), hrv, _, _, rfl, rfl, ⟨by decide, by decide⟩, _, rfl, _, rfl, r, _, _, _, rfl, rfl, er2 _, ixN_in b0 (by have h : (rs.map V.int).length = rs.length := List.length_map _; omega), ?_⟩
            refine ⟨rs.set (((0 : Int) + (j : Int)) % (((cs.map V.int).length : Nat) : Int)).toNat (rv / 1000), ds ++ [rv % 1000], _, _, _, rfl, same_put (same_put s3 hHd) hHr, ?_, ?_, ?_, ?_, ?_⟩
            · rw [upd_ne ncr, upd_ne ncd]; exact ec
            · rw [upd_same, List.map_set]
            · rw [List.length_set]; exact hrl
            · rw [upd_ne nrd.symm, upd_same, List.map_append]; rfl
            · rw [List.length_append, List.length_singleton]; omega
        · have o0 := fun z : Int => Int.emod_nonneg z (by decide : (2147483647 : Int) ≠ 0)
          have o1 := fun z : Int => Int.emod_lt_of_pos z (by decide : (0 : Int) < 2147483647)
          refine ⟨_, rfl, _, rfl, _, _, _, _, rfl, rfl, sqd ec, hcv, _, _, rfl, rfl, .inr ⟨by decide, by decide⟩, _, rfl, _, _, rfl, rfl, .inr ⟨by decide, by decide⟩, _, _, rfl, rfl, _, _, rfl, rfl, .inl ⟨_, rfl, _, _, rfl, rfl, (by show (0 : Int) < 2147483647; decide), ?_⟩⟩
          refine ⟨_, rfl, .inl ⟨rfl, _, sqd ed⟩, _, rfl, _, rfl, _, _, rfl, rfl, ?_, ?_⟩
          · left
            have h1 := o0 (cv * 48271 + (0 + (j : Int)) * 69621 + 11)
            have h2 := o1 (cv * 48271 + (0 + (j : Int)) * 69621 + 11)
            constructor
            · show -(2 ^ 64) < _
              omega
            · show _ < 2 ^ 64
              omega
          · refine ⟨_, rfl, _, _, rfl, rfl, .inl ⟨by decide, by decide⟩, _, _, rfl, rfl, _, rfl, _, _, rfl, rfl, .inl ⟨_, rfl, _, _, rfl, rfl, (by show (0 : Int) < 1000003; decide), d, _, _, rfl, rfl, ed, ?_, ?_⟩⟩
            · rw [List.length_map]
              exact big' (by omega)
            · refine ⟨rs, ds ++ [(((cv * 48271 + (0 + (j : Int)) * 69621 + 11) % 2147483647) * ((cv * 48271 + (0 + (j : Int)) * 69621 + 11) % 2147483647) + 3 * ((cv * 48271 + (0 + (j : Int)) * 69621 + 11) % 2147483647) + (0 + (j : Int))) % 1000003], _, _, _, rfl, same_put s3 hHd, ?_, ?_, hrl, ?_, ?_⟩
              · rw [upd_ne ncd]; exact ec
              · rw [upd_ne nrd]; exact er
              · rw [upd_same, List.map_append]; rfl
              · rw [List.length_append, List.length_singleton]; omega
      · rintro σ H' ⟨rs, ds, y1, y2, y3, rfl, s3, ec, er, hrl, ed, hdl⟩
        refine ⟨_, rfl, .inl ⟨rfl, _, sqd ed⟩, d, _, rfl, rfl, ed, ?_⟩
        refine ⟨_, rfl, q d _ (same_put s3 hHd) hHd ⟨ds.reverse, ?_⟩⟩
        rw [upd_same, List.map_reverse]
end
end NL

namespace NL
open PySem PySem.Spec PyProof.Rows L2
/-! ### rows and what stands in them -/
def Each {α : Type} (R : α → V → Prop) (l : List α) (xs : List V) : Prop := xs.length = l.length ∧ ∀ (k : Nat) a x, l[k]? = some a → xs[k]? = some x → R a x
theorem Each.nil {α : Type} {R : α → V → Prop} : Each R [] [] := ⟨rfl, fun k a x h => by simp at h⟩
theorem Each.mono {α : Type} {R S : α → V → Prop} {l : List α} {xs : List V} (h : Each R l xs) (f : ∀ a x, R a x → S a x) : Each S l xs := ⟨h.1, fun k a x e g => f a x (h.2 k a x e g)⟩
theorem Each.cons {α : Type} {R : α → V → Prop} {l : List α} {xs : List V} {a : α} {x : V} (r : R a x) (h : Each R l xs) : Each R (a :: l) (x :: xs) := ⟨by rw [List.length_cons, List.length_cons, h.1], fun k b y e g => by
  cases k with
  | zero => cases e; cases g; exact r
  | succ k => exact h.2 k b y e g⟩
theorem Each.app {α : Type} {R : α → V → Prop} {l m : List α} {xs ys : List V} (h : Each R l xs) (g : Each R m ys) : Each R (l ++ m) (xs ++ ys) := by
  refine ⟨by rw [List.length_append, List.length_append, h.1, g.1], fun k r x e f => ?_⟩
  by_cases hk : k < l.length
  · rw [List.getElem?_append_left hk] at e
    rw [List.getElem?_append_left (by rw [h.1]; exact hk)] at f
    exact h.2 k r x e f
  · rw [List.getElem?_append_right (by omega)] at e
    rw [List.getElem?_append_right (by rw [h.1]; omega), h.1] at f
    exact g.2 _ r x e f
theorem Each.snoc {α : Type} {R : α → V → Prop} {l : List α} {xs : List V} {a : α} {x : V} (h : Each R l xs) (r : R a x) : Each R (l ++ [a]) (xs ++ [x]) := h.app (.cons r .nil)
theorem Each.take {α : Type} {R : α → V → Prop} {l : List α} {xs : List V} (h : Each R l xs) (n : Nat) : Each R (l.take n) (xs.take n) := ⟨by rw [List.length_take, List.length_take, h.1], fun k a x e g => by
  rw [List.getElem?_take] at e g
  split at e
  · rename_i hk
    rw [if_pos hk] at g
    exact h.2 k a x e g
  · cases e⟩
theorem Each.drop {α : Type} {R : α → V → Prop} {l : List α} {xs : List V} (h : Each R l xs) (n : Nat) : Each R (l.drop n) (xs.drop n) := ⟨by rw [List.length_drop, List.length_drop, h.1], fun k a x e g => by
  rw [List.getElem?_drop] at e g
  exact h.2 _ a x e g⟩
theorem Each.set {α : Type} {R : α → V → Prop} {l : List α} {xs : List V} {a : α} {x : V} (h : Each R l xs) (n : Nat) (r : R a x) : Each R (l.set n a) (xs.set n x) := ⟨by rw [List.length_set, List.length_set, h.1], fun k b y e g => by
  rw [List.getElem?_set] at e g
  by_cases hk : n = k
  · rw [if_pos hk] at e g
    by_cases hl : n < l.length
    · rw [if_pos hl] at e
      rw [if_pos (by rw [h.1]; exact hl)] at g
      cases e; cases g; exact r
    · rw [if_neg hl] at e
      cases e
  · rw [if_neg hk] at e g
    exact h.2 k b y e g⟩
theorem Each.at {α : Type} {R : α → V → Prop} {l : List α} {xs : List V} {a : α} {k : Nat} (h : Each R l xs) (e : l[k]? = some a) : ∃ x, xs[k]? = some x ∧ R a x := by
  have hk : k < xs.length := by
    rw [h.1]
    exact (List.getElem?_eq_some_iff.mp e).1
  exact ⟨_, List.getElem?_eq_getElem hk, h.2 k a _ e (List.getElem?_eq_getElem hk)⟩
theorem Each.atI {α : Type} {R : α → V → Prop} {l : List α} {xs : List V} {i : Int} (h : Each R l xs) (h0 : 0 ≤ i) (h1 : i < l.length) : ∃ a x, l[i.toNat]? = some a ∧ atI xs i = some x ∧ R a x := by
  have hk : i.toNat < l.length := by omega
  obtain ⟨x, hx, r⟩ := h.at (List.getElem?_eq_getElem hk)
  have q : L2.atI xs ((i.toNat : Nat) : Int) = some x := atI_nat hx
  rw [show ((i.toNat : Nat) : Int) = i by omega] at q
  exact ⟨_, x, List.getElem?_eq_getElem hk, q, r⟩
/-! ### options, positions, arenas -/
abbrev Opt := List Int
abbrev Pos' := List Opt
abbrev Ar := List Pos'
def OptIn (H : Hp) (o : Opt) (v : V) : Prop := ∃ b, v = .ref b ∧ H b = some (.tup (o.map V.int))
def PosIn (H : Hp) (os : Pos') (v : V) : Prop := ∃ b xs, v = .ref b ∧ H b = some (.tup xs) ∧ Each (OptIn H) os xs
def ArIn (H : Hp) (A : Ar) (v : V) : Prop := ∃ b xs, v = .ref b ∧ H b = some (.tup xs) ∧ Each (PosIn H) A xs
theorem OptIn.tp {H H' : Hp} {o : Opt} {v : V} (t : Tp H H') (h : OptIn H o v) : OptIn H' o v := by
  obtain ⟨b, e, q⟩ := h
  exact ⟨b, e, t _ _ q⟩
theorem PosIn.tp {H H' : Hp} {o : Pos'} {v : V} (t : Tp H H') (h : PosIn H o v) : PosIn H' o v := by
  obtain ⟨b, xs, e, q, r⟩ := h
  exact ⟨b, xs, e, t _ _ q, r.mono fun a x => OptIn.tp t⟩
theorem ArIn.tp {H H' : Hp} {o : Ar} {v : V} (t : Tp H H') (h : ArIn H o v) : ArIn H' o v := by
  obtain ⟨b, xs, e, q, r⟩ := h
  exact ⟨b, xs, e, t _ _ q, r.mono fun a x => PosIn.tp t⟩
/-- an option of an arena with n positions -/
structure OptG (n : Int) (o : Opt) : Prop where
  ne : o ≠ []
  len : o.length ≤ 60
  mem : ∀ s ∈ o, -1 ≤ s ∧ s < n
  asc : o.Pairwise (· < ·)
def PosG (n : Int) (os : Pos') : Prop := os.length ≤ 12 ∧ ∀ o ∈ os, OptG n o
def ArG (A : Ar) : Prop := A.length ≤ 400 ∧ ∀ os ∈ A, PosG A.length os
theorem OptG.one {n s : Int} (h0 : -1 ≤ s) (h1 : s < n) : OptG n [s] := ⟨by simp, by simp, fun t ht => by rw [List.mem_singleton.mp ht]; exact ⟨h0, h1⟩, List.pairwise_singleton _ _⟩
theorem asc_of {l m : List Int} (h : l.Perm m) (hm : m.Nodup) (hp : l.Pairwise (· ≤ ·)) : l.Pairwise (· < ·) := by
  have hn : l.Nodup := h.nodup_iff.mpr hm
  refine (hp.and hn).imp fun {a b} h => ?_
  obtain ⟨h1, h2⟩ := h
  omega
theorem tp_put {H H' : Hp} {p : Addr} {o : List V} {o' : HO} (t : Tp H H') (h : H' p = some (.lst o)) : Tp H (upd H' p o') := fun a xs e => by
  have n : a ≠ p := fun q => by
    have := t a xs e
    rw [q, h] at this
    cases this
  rw [upd_ne n]
  exact t a xs e
theorem Go.put2 {d p : Addr} {H H' : Hp} {o : HO} (g : Go d H H') (hp : H p = none) (n : p ≠ d) : Go d H (upd H' p o) := ⟨fun b u hb e => by
  rw [upd_ne (ne_of_none e hp)]
  exact g.fr b u hb e, by
  obtain ⟨ns, e⟩ := g.dr
  exact ⟨ns, by rw [upd_ne n.symm]; exact e⟩⟩
theorem new_ne {d p : Addr} {H : Hp} (h : Dr H d) (hp : H p = none) : p ≠ d := by
  rintro rfl
  obtain ⟨ns, e⟩ := h
  rw [hp] at e
  cases e
theorem Go.free {d p : Addr} {H H' : Hp} (g : Go d H H') (hp : H' p = none) : H p = none := by
  cases e : H p with
  | none => rfl
  | some o =>
    by_cases hd : p = d
    · obtain ⟨ns, q⟩ := g.dr
      rw [hd, q] at hp
      cases hp
    · rw [g.fr p o hd e] at hp
      cases hp
end NL

set_option maxHeartbeats 4000000
namespace NL
open PySem PySem.Spec PyProof.Rows L2
section
variable {P : Program} {w : World} {A : Around} {E : Value → Shared → Prop} {s : Shared}
set_option maxHeartbeats 3200000 in
theorem call_set_ints {l : Addr} {items : Array Value} (ns : List Int) {Q : Value → Shared → Prop} (hh : A.handled = none) (hl : s.heap.IsList l items) (hit : IntsAre items.toList ns) (hb : ns.length + 1 < scanBound)
    (h : ∀ (h' : Heap) (tk c : Nat), SetR w h' s.heap.objs.size (fun j => decide (j ∈ ns)) c → c ≤ ns.length → (∀ b o, s.heap.get? b = some o → h'.get? b = some o) → Q (.ref s.heap.objs.size) { s with heap := h', toks := tk }) :
    wpAny (model P w) A (call (.type "set") [.ref l]) Q E s := by
  have hisz : items.size = ns.length := by
    have q := IntsAre.length hit
    rw [Array.length_toList] at q
    exact q
  obtain ⟨c, tl, hmro⟩ := F.called_set.mro
  have hmade := F.called_set.made
  have hsub := F.called_set.sub
  refine wpAny_call (codeAny_of_tree ?_)
  show wpAny _ _ (callAny (.type "set") _) _ _ _
  refine wpAny_pure ⟨Code.quiet_builtin _ (by decide +kernel), codeAny_builtin F.entry_type_call ?_⟩
  rw [Around.under_plain (weight_type_call_type "set" [.ref l] []) rfl]
  have h1 := F.called_set.notType
  have h2 := F.called_set.canCreate
  have hct := F.typeCall_set_1 (.ref l)
  repeat (any_goals (first | assumption | wp_step))
  refine codeAny_mono (code_set_led1 (.ref l) (E := E) (Q₁ := fun obj s₁ => obj = .ref s.heap.objs.size ∧ s₁ = { s with heap := s.heap.push { cls := .type "set", dict := none, data := .set #[] 0 (.fresh 0 0 (!w.params.followText "set-order")) } }) ⟨rfl, rfl⟩) fun r s₁ hr => ?_
  cases r with
  | error e => exact hr
  | ok fl =>
    cases fl with
    | ret obj =>
      obtain ⟨rfl, rfl⟩ := hr
      have hS : (s.heap.push { cls := .type "set", dict := none, data := .set #[] 0 (.fresh 0 0 (!w.params.followText "set-order")) }).get? s.heap.objs.size = some { cls := .type "set", dict := none, data := .set #[] 0 (.fresh 0 0 (!w.params.followText "set-order")) } := Heap.get?_push_size _ rfl
      have hT : Shared.TypeIs { s with heap := s.heap.push { cls := .type "set", dict := none, data := .set #[] 0 (.fresh 0 0 (!w.params.followText "set-order")) } } (.ref s.heap.objs.size) "set" := ⟨_, hS, rfl⟩
      have hli := F.called_set.init.lookup
      have hbi := F.called_set.init.bind (.ref s.heap.objs.size)
      repeat (any_goals (first | assumption | wp_step))
      refine codeAny_mono (codeAny_call_builtin (R := wants (fun r s₂ => r = .none ∧ ∃ h' tk c, s₂ = { s with heap := h', toks := tk } ∧ SetR w h' s.heap.objs.size (fun j => decide (j ∈ ns)) c ∧ c ≤ ns.length ∧
          (∀ b o, s.heap.get? b = some o → h'.get? b = some o)) E) F.called_set.init.plain F.entry_set_init (check_set_init_1 hT ?_)) fun r₂ s₂ hr₂ => ?_
      · obtain ⟨ol, hol, hcl, nl, hdl⟩ := hl
        obtain ⟨ocls, odict, odata, oslots⟩ := ol
        simp only at hcl hdl
        subst hcl; subst hdl
        have hol' : (s.heap.push { cls := .type "set", dict := none, data := .set #[] 0 (.fresh 0 0 (!w.params.followText "set-order")) }).get? l = some { cls := .type "list", dict := odict, data := .seq items nl, slots := oslots } := Heap.get?_push_of_some _ hol
        have hsls := F.sub_list_set
        have hslf := F.sub_list_frozenset
        have hne : (Value.type "list" == Value.type "dict") = false := by decide
        have hl1 : (s.heap.push { cls := .type "set", dict := none, data := .set #[] 0 (.fresh 0 0 (!w.params.followText "set-order")) }).IsList l items := ⟨_, hol', rfl, nl, rfl⟩
        unfold Builtin.«set.__init__» noKeywords Builtin.Frozenset.updateFrom
        generalize hPI : pyIter = PI
        wp_walk
        subst hPI
        refine wpAny_pyIter_list hl1 ?_
        refine wpAny_bind (wpAny_runValue ?_)
        have hlS : l < s.heap.objs.size := Heap.lt_size hol
        have hh3 : A.in1.in1.in1.handled = none := by simp [hh]
        have hneI : l ≠ (s.heap.push { cls := .type "set", dict := none, data := .set #[] 0 (.fresh 0 0 (!w.params.followText "set-order")) }).objs.size := by
          rw [Heap.size_push]; exact Nat.ne_of_lt (Nat.lt_succ_of_lt hlS)
        have hSf : s.heap.objs.size ∉ [(s.heap.push { cls := .type "set", dict := none, data := .set #[] 0 (.fresh 0 0 (!w.params.followText "set-order")) }).objs.size, l] := by
          rw [Heap.size_push]; simp only [List.mem_cons, List.mem_singleton, List.not_mem_nil, or_false, not_or]
          exact ⟨Nat.ne_of_lt (Nat.lt_succ_self _), Nat.ne_of_gt hlS⟩
        have hval : ∀ (i : Nat) (v : Value), items[i]? = some v → ∃ k t, ns[i]? = some k ∧ v = .int k t := fun i v hv => by
          obtain ⟨n, t, e1, e2⟩ := IntsAre.at hit i v (by rw [Array.getElem?_toList]; exact hv)
          exact ⟨n, t, e2, e1⟩
        refine set_update_ints ((Walks.list hh3 _ l hneI items).toS) s.heap.objs.size
          hSf ns hisz hb hval (items.size - 0) 0 _ (by omega) (Nat.zero_le _)
          ⟨⟨_, Heap.get?_push_size _ rfl, rfl, rfl⟩, (hl1.push _)⟩ ?hS0 ?hR
        case hS0 =>
          have hget : ((s.heap.push { cls := .type "set", dict := none, data := .set #[] 0 (.fresh 0 0 (!w.params.followText "set-order")) }).push { cls := .type "list_iterator", data := .fields #[.ref l, .int 0 0] }).get? s.heap.objs.size
              = some { cls := .type "set", dict := none, data := .set #[] 0 (.fresh 0 0 (!w.params.followText "set-order")) } := Heap.get?_push_of_some _ hS
          exact ⟨0, Nat.le_refl 0, setR_new_at hget⟩
        case hR =>
          intro s' c' hm hc' hS'
          obtain ⟨h', g2, d', tk', os'⟩ := s'
          have eg : g2 = s.gens := hm.gens
          have ed : d' = s.drawn := hm.drawn
          have eo : os' = s.os := hm.os
          subst eg; subst ed; subst eo
          show wpAny _ _ _ _ _ _
          refine wpAny_pure ?_
          show wpAny _ _ (ret Value.none) _ _ _
          rw [hisz] at hc'
          refine wpAny_pure ⟨rfl, h', tk', c', rfl, hS', hc', fun b o e => ?_⟩
          have hb0 : b < s.heap.objs.size := Heap.lt_size e
          have hb1 : b ≠ s.heap.objs.size := Nat.ne_of_lt hb0
          have hb2 : b ≠ (s.heap.push { cls := .type "set", dict := none, data := .set #[] 0 (.fresh 0 0 (!w.params.followText "set-order")) }).objs.size := by
            rw [Heap.size_push]; exact Nat.ne_of_lt (Nat.lt_succ_of_lt hb0)
          exact hm.heap b o (by simp only [List.mem_cons, List.mem_singleton, List.not_mem_nil, or_false, not_or]; exact ⟨hb1, hb2⟩) (Heap.get?_push_of_some _ (Heap.get?_push_of_some _ e))
      · cases r₂ with
        | error e => exact hr₂
        | ok fl₂ =>
          cases fl₂ with
          | ret r =>
            obtain ⟨rfl, h', tk, c', rfl, hS', hc', hk'⟩ := hr₂
            repeat (any_goals (first | assumption | wp_step))
            exact h _ _ _ hS' hc' hk'
          | _ => exact hr₂.elim
    | _ => exact hr.elim
end
variable {X : Cx}
def rSetOfI (K : PySem.W.Frag) (w : World) : List V → Hp → VK → Prop := fun xs H Q => ∃ (l : Addr) (ns : List Int), xs = [.ref l] ∧ SqL K H l (ns.map V.int) ∧ ns.length < 64 ∧ ∀ a c, H a = none → c ≤ ns.length → Q (.ref a) (upd H a (SetO w a (fun j => decide (j ∈ ns)) c))
theorem cr_setOfI (hc : X.calm = true) : CallR X (.type "set") (rSetOfI X.K X.w) := by
  intro pins s σ H xs us Q I r h
  obtain ⟨l, ks, rfl, hl, hf, q⟩ := h
  rw [Vals.ref1 r]
  obtain ⟨its, rv, pl, hz⟩ := I.list hl
  have hn : H s.heap.objs.size = none := I.hok.fresh (Nat.le_refl _)
  refine call_set_ints (P := X.prog) (w := X.w) ks (I.ok.hd hc) pl.isList (by simpa using ints_of_vals rv) (by unfold scanBound; omega) fun h' tk c R hc' k => ?_
  exact ⟨.ref s.heap.objs.size, upd H s.heap.objs.size (SetO X.w s.heap.objs.size _ c), I.laid (t' := tk) k (Nat.le_refl _) (setO_new R), rfl, q _ c hn hc'⟩
end NL

namespace NL
open PySem PySem.Spec PyProof.Rows L2
theorem cut_tl {x : V} {r : List V} : cutV (x :: r) (some 1) none = r := by
  unfold cutV
  rw [show HT.sIx (x :: r).length 0 (some 1) = min 1 (x :: r).length from HT.sIx_nat _ _ 1, HT.sIx_none, List.length_cons, show min 1 (r.length + 1) = 1 by omega]
  simp
/-- a position of an arena with n positions, options of at most two successors -/
def PosH (n : Int) (os : Pos') : Prop := os.length ≤ 12 ∧ ∀ o ∈ os, OptG n o ∧ o.length ≤ 2
theorem asc_lt {l : List Int} (h : l.Pairwise (· < ·)) : l.Nodup := h.imp fun {a b} h e => by omega
theorem newH {H : Hp} {p : Addr} (hp : H p = none) (o : HO) : ∃ H', upd H p o = H' ∧ Same H H' ∧ H' p = some o := ⟨_, rfl, same_new hp _, upd_same⟩
section
variable {P : Program} {w : World} {K : PySem.W.Frag} {mg : Str → Option Value} {base : Heap}
/-! ### _law_great -/
def spGreat : Sp := fun vs H Q _ => ∃ d : Addr, vs = [.ref d] ∧ Dr H d ∧ ∀ v A H', Go d H H' → ArIn H' A v → ArG A → A.length ≤ 46 → 9 ≤ A.length → (∀ os ∈ A, ∀ o ∈ os, o.length ≤ 2) → Q v H'
theorem ok_law_great (T : Txt K mg) : FnOk P w K mg base CX0 2 T.a_law_great T.d_law_great P_law_great spGreat := by
  have G_law_take := ok_law_take (P := P) (w := w) (base := base) T
  refine T.F_law_great.ok sc_law_great (fun vs H Q E h => ?_) (fun cdv A outer s H vs Q E hr h => ?_)
  · obtain ⟨d, rfl, _⟩ := h
    rfl
  obtain ⟨d, rfl, hD, q⟩ := h
  refine ⟨_, (pss_cons (ps_set (i := 1) sc_law_great.nd rfl (Or.inl rfl) (pe_op op_add pe_int (pe_call G_law_take (hr.mono (by omega)) (by rfl) T.m_law_take T.F_law_take.kp T.b_law_take .nil pass0 (pa_cons (pv 0) (pa_cons pe_int pa_nil)))))
    (pss_cons (ps_set (i := 2) sc_law_great.nd rfl (Or.inl rfl) (pe_call G_law_take (hr.mono (by omega)) (by rfl) T.m_law_take T.F_law_take.kp T.b_law_take .nil pass0 (pa_cons (pv 0) (pa_cons (pv 1) pa_nil))))
    (pss_cons (ps_set (i := 3) sc_law_great.nd rfl (Or.inl rfl) (pe_call G_law_take (hr.mono (by omega)) (by rfl) T.m_law_take T.F_law_take.kp T.b_law_take .nil pass0 (pa_cons (pv 0) (pa_cons (pv 1) pa_nil))))
    (pss_cons (ps_set (i := 4) sc_law_great.nd rfl (Or.inl rfl) (pe_op op_add pe_int (pe_call G_law_take (hr.mono (by omega)) (by rfl) T.m_law_take T.F_law_take.kp T.b_law_take .nil pass0 (pa_cons (pv 0) (pa_cons (pe_ix ix_list (pe_lst (pa_cons pe_int (pa_cons pe_int pa_nil))) (pe_call G_law_take (hr.mono (by omega)) (by rfl) T.m_law_take T.F_law_take.kp T.b_law_take .nil pass0 (pa_cons (pv 0) (pa_cons pe_int pa_nil))) (fun _ _ => rfl)) pa_nil)))))
    (pss_cons (ps_set (i := 5) sc_law_great.nd rfl (Or.inl rfl) (pe_call G_law_take (hr.mono (by omega)) (by rfl) T.m_law_take T.F_law_take.kp T.b_law_take .nil pass0 (pa_cons (pv 0) (pa_cons pe_int pa_nil))))
    (pss_cons (ps_set (i := 6) sc_law_great.nd rfl (Or.inl rfl) (pe_lst pa_nil))
    (pss_cons (ps_for  PassesOwn.never rfl (pi_range1 (by rfl) T.z_range (pa_cons (pv 1) pa_nil)) (pg_name (i := 7) sc_law_great.nd rfl (Or.inl rfl))
    (pss_cons (ps_set (i := 8) sc_law_great.nd rfl (Or.inl rfl) (pe_lst (pa_cons (pe_tup (pa_cons (pe_op op_mod (pe_callTy call_int1 (by rfl) T.z_int (by decide +kernel) (pa_cons (pe_op op_add (pv 7) pe_int) pa_nil)) (pv 1)) pa_nil)) (pa_cons (pe_callTy call_tuple_of (by rfl) T.z_tuple (by decide +kernel) (pa_cons (pe_callB (cr_sortedSet rfl) (by rfl) T.z_sorted (by decide +kernel) (pa_cons (pe_callTy (cr_setOfI rfl) (by rfl) T.z_set (by decide +kernel) (pa_cons (pe_lst (pa_cons (pe_op op_mod (pe_callTy call_int1 (by rfl) T.z_int (by decide +kernel) (pa_cons (pe_op op_add (pe_op op_mul (pv 2) (pv 7)) (pv 3)) pa_nil)) (pv 1)) (pa_cons (pe_op op_mod (pe_callTy call_int1 (by rfl) T.z_int (by decide +kernel) (pa_cons (pe_op op_add (pe_op op_mul (pv 7) (pv 7)) (pv 2)) pa_nil)) (pv 1)) pa_nil))) pa_nil)) pa_nil)) pa_nil)) pa_nil))))
    (C8.pss_cut (ps_if (pt_cmpR op_eq (pe_op op_mod (pe_callTy call_int1 (by rfl) T.z_int (by decide +kernel) (pa_cons (pe_op op_add (pv 7) (pv 3)) pa_nil)) (pv 4)) pe_int (nomark _))
    (pss_one (ps_set (i := 8) sc_law_great.nd rfl (Or.inl rfl) (pe_slice sl_list (pv 8) (po_some pe_int) po_none)))
    pss_nil)
    (C8.pss_cut (ps_if (PW.pt (pw_and (pt_cmpR op_eq (pe_op op_mod (pe_callTy call_int1 (by rfl) T.z_int (by decide +kernel) (pa_cons (pe_op op_add (pv 7) (pv 2)) pa_nil)) (pe_op op_add (pv 4) pe_int)) pe_int (nomark _)) (pw_and1 (pt_cmpR op_gt (pv 5) pe_int (nomark _)))))
    (pss_one (ps_set (i := 8) sc_law_great.nd rfl (Or.inl rfl) (pe_ix ix_list (pe_lst (pa_cons (pe_lst (pa_cons (pe_tup (pa_cons (pe_un un_neg pe_int) (pa_cons (pv 7) pa_nil))) pa_nil)) (pa_cons (pe_lst pa_nil) (pa_cons (pe_lst (pa_cons (pe_tup (pa_cons (pe_un un_neg pe_int) pa_nil)) (pa_cons (pe_tup (pa_cons (pe_op op_mod (pe_callTy call_int1 (by rfl) T.z_int (by decide +kernel) (pa_cons (pe_op op_add (pv 7) pe_int) pa_nil)) (pv 1)) pa_nil)) pa_nil))) pa_nil)))) (pe_op op_sub (pv 5) pe_int) (fun _ _ => rfl))))
    pss_nil)
    (pss_one (ps_expr (pe_bm PySem.F.plainAttrs_list PySem.F.slot_list_append PySem.F.type_list_append mt_append (pv 6) (pa_cons (pe_callTy call_tuple_of (by rfl) T.z_tuple (by decide +kernel) (pa_cons (pv 8) pa_nil)) pa_nil))))))))
    (pss_one (ps_ret (pe_callTy call_tuple_of (by rfl) T.z_tuple (by decide +kernel) (pa_cons (pv 6) pa_nil))))))))))), ?_⟩
  refine ⟨_, rfl, d, 37, rfl, hD, by decide, fun u1 H1 g1 a1 b1 => ⟨_, _, rfl, rfl, ?_⟩⟩
  dsimp only
  generalize hN : (9 : Int) + u1 = N
  refine ⟨_, rfl, _, rfl, d, N, rfl, g1.dr, by omega, fun a H2 g2 a2 b2 => ?_⟩
  refine ⟨_, rfl, _, rfl, d, N, rfl, g2.dr, by omega, fun b H3 g3 a3 b3 => ?_⟩
  refine ⟨_, rfl, Nat.le_of_ble_eq_true rfl, fun l hl => ?_⟩
  have g3l := g3.trans (Go.new (o := .lst [.int 9, .int 60]) g3.dr hl)
  refine ⟨_, rfl, d, 2, rfl, g3l.dr, by decide, fun u2 H4 g4 a4 b4 => ?_⟩
  have el : H4 l = some (.lst ([9, 60].map V.int)) := g4.fr l _ (new_ne g3.dr hl) upd_same
  obtain ⟨m, hm, hmm⟩ := atI_map (f := V.int) (xs := ([9, 60] : List Int)) a4 b4
  have hm9 : m = 9 ∨ m = 60 := by simpa using hmm
  refine ⟨l, _, _, _, rfl, rfl, sqd el, hm, ?_⟩
  refine ⟨d, m, rfl, g4.dr, by omega, fun u3 H5 g5 a5 b5 => ⟨_, _, rfl, rfl, ?_⟩⟩
  dsimp only
  generalize hc : (3 : Int) + u3 = c
  refine ⟨_, rfl, d, 4, rfl, g5.dr, by decide, fun bad H6 g6 a6 b6 => ?_⟩
  have g16 := ((((g1.trans g2).trans g3l).trans g4).trans g5).trans g6
  refine ⟨Nat.zero_le _, fun p hp => ?_⟩
  have hpd := new_ne g6.dr hp
  have hp0 := g16.free hp
  refine ⟨_, rfl, N, rfl, by omega, by omega, for_range (lo := 0) (n := N.toNat) (fun (j : Nat) (σ : L2.St) (H' : Hp) => ∃ (xs : List V) (A' : Ar) (y7 y8 : Option V), σ = [some (.ref d), some (.int N), some (.int a), some (.int b), some (.int c), some (.int bad), some (.ref p), y7, y8] ∧ Go d H H' ∧ H' p = some (.lst xs) ∧ Each (PosIn H') A' xs ∧ A'.length = j ∧ ∀ os ∈ A', PosH N os) ?_ ?_ ?_⟩
  · exact ⟨[], [], none, none, rfl, g16.trans (Go.new g6.dr hp), upd_same, .nil, rfl, fun os h => nomatch h⟩
  · rintro j σ H7 hj ⟨xs, A', y7, y8, rfl, g7, e7, hxs, hA, hG⟩
    have hkN : (0 : Int) + (j : Int) < N := by omega
    have hN0 : 0 < N := by omega
    have md : ∀ z : Int, 0 ≤ z % N ∧ z % N < N := fun z => ⟨Int.emod_nonneg z (by omega), Int.emod_lt_of_pos z hN0⟩
    generalize hk : (0 : Int) + (j : Int) = k at hkN ⊢
    have hk0 : 0 ≤ k := by omega
    -- the two options
    refine ⟨_, rfl, _, _, rfl, rfl, .inl ⟨_, rfl, _, rfl, _, _, rfl, rfl, hN0, Nat.le_of_ble_eq_true rfl, fun t1 ht1 => ?_⟩⟩
    have s1 := same_new ht1 (.tup [V.int ((k + 1) % N)])
    have e1 : upd H7 t1 (.tup [V.int ((k + 1) % N)]) t1 = some (.tup [V.int ((k + 1) % N)]) := upd_same
    generalize upd H7 t1 (.tup [V.int ((k + 1) % N)]) = H8 at s1 e1 ⊢
    refine ⟨_, rfl, _, rfl, _, _, rfl, rfl, .inl ⟨by omega, by omega⟩, _, rfl, _, _, rfl, rfl, .inl ⟨_, rfl, _, rfl, _, _, rfl, rfl, hN0, ?_⟩⟩
    refine ⟨_, rfl, _, rfl, _, _, rfl, rfl, .inl ⟨by omega, by omega⟩, _, rfl, _, _, rfl, rfl, .inl ⟨_, rfl, _, rfl, _, _, rfl, rfl, hN0, ?_⟩⟩
    dsimp only
    generalize hx1 : (a * k + b) % N = x1
    generalize hx2 : (k * k + a) % N = x2
    have hb1 := md (a * k + b)
    have hb2 := md (k * k + a)
    rw [hx1] at hb1
    rw [hx2] at hb2
    refine ⟨Nat.le_of_ble_eq_true rfl, fun l1 hl1 => ⟨l1, [x1, x2], rfl, sqd upd_same, (by show 2 < 64; decide), fun s0 c1 hs0 hc1 => ?_⟩⟩
    have s2 := (same_new hl1 (.lst [V.int x1, V.int x2])).trans (same_new hs0 (SetO w s0 (fun j => decide (j ∈ [x1, x2])) c1))
    refine ⟨s0, _, c1, rfl, upd_same, Nat.lt_of_le_of_lt hc1 (by show 2 < 64; decide), fun ns q1 hasc hmem hlen hq1 => ?_⟩
    refine ⟨q1, _, rfl, .inl ⟨sqd upd_same, fun t2 ht2 => ?_⟩⟩
    obtain ⟨Ha, ea, sa, _⟩ := newH hq1 (.lst (ns.map V.int))
    rw [ea] at ht2 ⊢
    obtain ⟨Hb, eb, sb, et2⟩ := newH ht2 (.tup (ns.map V.int))
    rw [eb]
    refine ⟨Nat.le_of_ble_eq_true rfl, fun ol hol => ?_⟩
    obtain ⟨H9, e9, s9, e3⟩ := newH hol (.lst [V.ref t1, V.ref t2])
    rw [e9]
    have s4 := ((s2.trans sa).trans sb).trans s9
    have e2 := s9 _ _ et2
    have s79 := s1.trans s4
    have o1 : OptG N [(k + 1) % N] := .one (by have := md (k + 1); omega) (md (k + 1)).2
    have o2 : OptG N ns := by
      have hmm : ∀ s ∈ ns, s = x1 ∨ s = x2 := fun s hs => by
        have := (hmem s).mp hs
        simpa using this
      refine ⟨fun e => ?_, by rw [hlen]; exact Nat.le_trans hc1 (by show 2 ≤ 60; decide), fun s hs => ?_, hasc⟩
      · have := (hmem x1).mpr (by simp)
        rw [e] at this
        cases this
      · rcases hmm s hs with rfl | rfl <;> omega
    have o2l : ns.length ≤ 2 := by rw [hlen]; exact hc1
    have r1 : OptIn H9 [(k + 1) % N] (.ref t1) := ⟨t1, rfl, s4 _ _ e1⟩
    have r2 : OptIn H9 ns (.ref t2) := ⟨t2, rfl, e2⟩
    let I : L2.St → Hp → Prop := fun σ H' => ∃ (os : Pos') (ol : Addr) (zs : List V), σ = [some (.ref d), some (.int N), some (.int a), some (.int b), some (.int c), some (.int bad), some (.ref p), some (.int k), some (.ref ol)] ∧ Same H7 H' ∧ H' ol = some (.lst zs) ∧ Each (OptIn H') os zs ∧ PosH N os
    -- the first one left out
    refine ⟨I, ?_, ?_⟩
    · refine ⟨_, rfl, _, rfl, _, _, rfl, rfl, .inl ⟨_, rfl, _, rfl, _, _, rfl, rfl, by omega, rfl, _, rfl, ?_⟩⟩
      refine ite2 (fun z => ?_) (fun z => ?_)
      · refine ⟨_, rfl, 1, rfl, ol, _, rfl, sqd e3, fun om hom => ?_⟩
        rw [cut_tl]
        have s5 := same_new hom (.lst [V.ref t2])
        exact ⟨[ns], om, _, rfl, s79.trans s5, upd_same, .cons (r2.tp (.same s5)) .nil, Nat.le_of_ble_eq_true rfl, fun o ho => by rw [List.mem_singleton.mp ho]; exact ⟨o2, o2l⟩⟩
      · exact ⟨[_, ns], ol, _, rfl, s79, e3, .cons r1 (.cons r2 .nil), Nat.le_of_ble_eq_true rfl, fun o ho => by
          rcases List.mem_cons.mp ho with rfl | ho
          · exact ⟨o1, by simp⟩
          · rw [List.mem_singleton.mp ho]; exact ⟨o2, o2l⟩⟩
    rintro σ H10 ⟨os, ol2, zs, rfl, s10, e10, hzs, hos⟩
    -- bad ones
    refine ⟨I, ?_, ?_⟩
    · refine ⟨_, rfl, _, rfl, _, _, rfl, rfl, .inl ⟨_, rfl, _, rfl, _, _, rfl, rfl, _, _, rfl, rfl, by omega, rfl, _, rfl, ?_⟩⟩
      have keep : I [some (.ref d), some (.int N), some (.int a), some (.int b), some (.int c), some (.int bad), some (.ref p), some (.int k), some (.ref ol2)] H10 := ⟨os, ol2, zs, rfl, s10, e10, hzs, hos⟩
      refine ite2 (fun z => ?_) (fun z => ?_)
      · refine ⟨_, rfl, _, _, rfl, rfl, _, rfl, ?_⟩
        refine ite2 (fun z => ?_) (fun z => keep)
        have hbad : 0 < bad := of_decide_eq_true z
        refine ⟨_, rfl, _, rfl, Nat.le_of_ble_eq_true rfl, fun ta hta => ?_⟩
        obtain ⟨Ha, ea, sa, ka⟩ := newH hta (.tup [V.int (-1), V.int k])
        rw [show upd H10 ta (.tup [V.int (-1), V.int k]) = Ha from ea]
        refine ⟨Nat.le_of_ble_eq_true rfl, fun la hla => ?_⟩
        obtain ⟨Hb, eb, sb, kb⟩ := newH hla (.lst [V.ref ta])
        rw [eb]
        refine ⟨Nat.zero_le _, fun lb hlb => ?_⟩
        obtain ⟨Hc, ec, sc, kc⟩ := newH hlb (.lst [])
        rw [ec]
        refine ⟨_, rfl, Nat.le_of_ble_eq_true rfl, fun tb htb => ?_⟩
        obtain ⟨Hd, ed, sd, kd⟩ := newH htb (.tup [V.int (-1)])
        rw [show upd Hc tb (.tup [V.int (-1)]) = Hd from ed]
        refine ⟨_, rfl, _, _, rfl, rfl, .inl ⟨_, rfl, _, rfl, _, _, rfl, rfl, hN0, Nat.le_of_ble_eq_true rfl, fun tc htc => ?_⟩⟩
        obtain ⟨He, ee, se, ke⟩ := newH htc (.tup [V.int ((k + 2) % N)])
        rw [show upd Hd tc (.tup [V.int ((k + 2) % N)]) = He from ee]
        refine ⟨Nat.le_of_ble_eq_true rfl, fun lc hlc => ?_⟩
        obtain ⟨Hf, ef, sf, kf⟩ := newH hlc (.lst [V.ref tb, V.ref tc])
        rw [ef]
        refine ⟨Nat.le_of_ble_eq_true rfl, fun lo hlo => ?_⟩
        obtain ⟨Hg, eg, sg, kg⟩ := newH hlo (.lst [V.ref la, V.ref lb, V.ref lc])
        rw [eg]
        have sag := ((((((sa.trans sb).trans sc).trans sd).trans se).trans sf).trans sg)
        have m2 := md (k + 2)
        refine ⟨_, rfl, _, _, rfl, rfl, ?_⟩
        have hcase : bad = 1 ∨ bad = 2 ∨ bad = 3 := by omega
        rcases hcase with rfl | rfl | rfl
        · refine ⟨lo, _, _, _, rfl, rfl, sqd kg, atI0, ?_⟩
          refine ⟨[[-1, k]], la, _, rfl, s10.trans sag, (((((sc.trans sd).trans se).trans sf).trans sg)) _ _ kb, .cons ⟨ta, rfl, ((((((sb.trans sc).trans sd).trans se).trans sf).trans sg)) _ _ ka⟩ .nil, Nat.le_of_ble_eq_true rfl, fun o ho => ?_⟩
          rw [List.mem_singleton.mp ho]
          refine ⟨⟨by simp, by simp, fun s hs => ?_, ?_⟩, by simp⟩
          · simp only [List.mem_cons, List.not_mem_nil, or_false] at hs
            rcases hs with rfl | rfl <;> omega
          · refine List.pairwise_cons.mpr ⟨fun x hx => ?_, List.pairwise_singleton _ _⟩
            rw [List.mem_singleton.mp hx]
            omega
        · refine ⟨lo, _, _, _, rfl, rfl, sqd kg, atI1, ?_⟩
          exact ⟨[], lb, _, rfl, s10.trans sag, ((((sd.trans se).trans sf).trans sg)) _ _ kc, .nil, Nat.zero_le _, fun o ho => nomatch ho⟩
        · refine ⟨lo, _, _, _, rfl, rfl, sqd kg, (atI_nat (j := 2) rfl), ?_⟩
          refine ⟨[[-1], [(k + 2) % N]], lc, _, rfl, s10.trans sag, sg _ _ kf, .cons ⟨tb, rfl, ((se.trans sf).trans sg) _ _ kd⟩ (.cons ⟨tc, rfl, (sf.trans sg) _ _ ke⟩ .nil), Nat.le_of_ble_eq_true rfl, fun o ho => ?_⟩
          rcases List.mem_cons.mp ho with rfl | ho
          · exact ⟨.one (by omega) (by omega), by simp⟩
          · rw [List.mem_singleton.mp ho]
            exact ⟨.one (by omega) (by omega), by simp⟩
      · exact iteF keep
    rintro σ H11 ⟨os, ol3, zs, rfl, s11, e11, hzs, hos⟩
    have e11p := s11 _ _ e7
    have hxl := hxs.1
    refine ⟨_, rfl, .inl ⟨rfl, _, sqd e11p⟩, _, rfl, ol3, zs, rfl, .inl ⟨sqd e11, fun t ht => ?_⟩⟩
    have st := same_new ht (.tup zs)
    have ept := st _ _ e11p
    refine ⟨p, xs, _, rfl, rfl, ept, big' (by omega), ?_⟩
    refine ⟨xs ++ [.ref t], A' ++ [os], some (.int k), some (.ref ol3), rfl, ((g7.trans (.same g7.dr s11)).trans (.same (g7.trans (.same g7.dr s11)).dr st)).put2 hp0 hpd, upd_same, ?_, ?_, ?_⟩
    · have tp : Tp H7 (upd (upd H11 t (.tup zs)) p (.lst (xs ++ [.ref t]))) := tp_put ((Tp.same s11).trans (Tp.same st)) ept
      refine (hxs.mono fun o x => PosIn.tp tp).snoc ⟨t, zs, rfl, ?_, ?_⟩
      · rw [upd_ne (fun e => by rw [e, e11p] at ht; cases ht)]
        exact upd_same
      · exact hzs.mono fun o x => OptIn.tp (tp_put (Tp.same st) ept)
    · rw [List.length_append, hA]
      rfl
    · intro o ho
      rcases List.mem_append.mp ho with ho | ho
      · exact hG o ho
      · rw [List.mem_singleton.mp ho]
        exact hos
  · rintro σ H7 ⟨xs, A', y7, y8, rfl, g7, e7, hxs, hA, hG⟩
    refine ⟨_, rfl, p, xs, rfl, .inl ⟨sqd e7, fun t ht => ?_⟩⟩
    have st := same_new ht (.tup xs)
    refine q _ A' _ (g7.trans (.same g7.dr st)) ⟨t, xs, rfl, upd_same, hxs.mono fun os x => PosIn.tp (.same st)⟩ ⟨by omega, fun os h => ?_⟩ (by omega) (by omega) fun os h o ho => ((hG os h).2 o ho).2
    rw [show (A'.length : Int) = N by omega]
    exact ⟨(hG os h).1, fun o ho => ((hG os h).2 o ho).1⟩
end
end NL

namespace NL
open PySem PySem.Spec PyProof.Rows L2
theorem cut_pre {xs : List V} {k : Nat} : cutV xs none (some (k : Int)) = xs.take k := by
  unfold cutV
  rw [HT.sIx_none, show HT.sIx xs.length xs.length (some (k : Int)) = min k xs.length from HT.sIx_nat _ _ _, List.drop_zero, Nat.sub_zero]
  by_cases h : k ≤ xs.length
  · rw [Nat.min_eq_left h]
  · rw [Nat.min_eq_right (by omega), List.take_length, List.take_of_length_le (by omega)]
theorem slA_of {K : PySem.W.Frag} {a : Addr} {xs : List V} {lo hi : Option Int} {H : Hp} {Q : VK} (ha : H a = some (.tup xs)) (q : ∀ p H', Same H H' → H' p = some (.tup (cutV xs lo hi)) → Q (.ref p) H') : rSlA K (.ref a) lo hi H Q := by
  refine ⟨a, xs, rfl, sqt ha, fun h => ?_, fun _ p hp => q p _ (same_new hp _) upd_same⟩
  refine q a H (Same.refl H) ?_
  have : cutV xs lo hi = xs := by
    unfold cutV
    rw [h.1, h.2, List.drop_zero, Nat.sub_zero]
    exact List.take_length
  rw [this]
  exact ha
theorem catA_of {K : PySem.W.Frag} {a b : Addr} {xs ys : List V} {H : Hp} {Q : VK} (ha : H a = some (.tup xs)) (hb : H b = some (.tup ys)) (hl : xs.length + ys.length ≤ 1000) (q : ∀ p H', Same H H' → H' p = some (.tup (xs ++ ys)) → Q (.ref p) H') : rCatA K (.ref a) (.ref b) H Q := by
  refine ⟨a, b, xs, ys, rfl, rfl, sqt ha, sqt hb, big (by omega), fun h => ?_, fun _ h => ?_, fun _ _ p hp => ?_⟩
  · exact q b H (Same.refl H) (by rw [h, List.nil_append]; exact hb)
  · exact q a H (Same.refl H) (by rw [h, List.append_nil]; exact ha)
  · exact q p _ (same_new hp _) upd_same
theorem rg_ints (a b : Int) : rgV a b = ((List.range (b - a).toNat).map fun i : Nat => a + (i : Int)).map V.int := by
  unfold rgV
  rw [List.map_map]
  rfl
theorem rg_good {u n : Int} (h0 : 0 ≤ u) (h1 : u < 2) (hn : 0 < n) (hm : n ≤ 46) : OptG n ((List.range (n - (0 - u)).toNat).map fun i : Nat => (0 - u) + (i : Int)) := by
  refine ⟨fun e => ?_, ?_, fun s hs => ?_, ?_⟩
  · have h := congrArg List.length e
    rw [List.length_map, List.length_range, List.length_nil] at h
    omega
  · rw [List.length_map, List.length_range]
    omega
  · obtain ⟨i, hi, rfl⟩ := List.mem_map.mp hs
    have := List.mem_range.mp hi
    omega
  · rw [List.pairwise_map]
    exact List.pairwise_lt_range.imp fun {a b} h => by omega
section
variable {P : Program} {w : World} {K : PySem.W.Frag} {mg : Str → Option Value} {base : Heap}
/-! ### _law_arena -/
def spArena : Sp := fun vs H Q _ => ∃ (d : Addr) (most : Int), vs = [.ref d, .int most] ∧ Dr H d ∧ 0 ≤ most ∧ most ≤ 45 ∧ ∀ v A H', Go d H H' → ArIn H' A v → ArG A → A.length ≤ 46 → ((A.length : Int) ≤ most ∨ (9 ≤ A.length ∧ ∀ os ∈ A, ∀ o ∈ os, o.length ≤ 2)) → Q v H'
theorem ok_law_arena (T : Txt K mg) : FnOk P w K mg base CX0 3 T.a_law_arena T.d_law_arena P_law_arena spArena := by
  have G_law_take := ok_law_take (P := P) (w := w) (base := base) T
  have G_law_great := ok_law_great (P := P) (w := w) (base := base) T
  refine T.F_law_arena.ok sc_law_arena (fun vs H Q E h => ?_) (fun cdv A outer s H vs Q E hr h => ?_)
  · obtain ⟨d, most, rfl, _⟩ := h
    rfl
  obtain ⟨d, most, rfl, hD, m0, m1, q⟩ := h
  refine ⟨_, (pss_cons (ps_set (i := 2) sc_law_arena.nd rfl (Or.inl rfl) (pe_call G_law_take (hr.mono (by omega)) (by rfl) T.m_law_take T.F_law_take.kp T.b_law_take .nil pass0 (pa_cons (pv 0) (pa_cons pe_int pa_nil))))
    (pss_cons (ps_if (pt_cmpR op_eq (pv 2) pe_int (nomark _))
    (pss_one (ps_ret (pe_call G_law_great (hr.mono (by omega)) (by rfl) T.m_law_great T.F_law_great.kp T.b_law_great .nil pass0 (pa_cons (pv 0) pa_nil))))
    pss_nil)
    (pss_cons (ps_set (i := 3) sc_law_arena.nd rfl (Or.inl rfl) (pe_ix ix_list (pe_lst (pa_cons pe_int (pa_cons pe_int (pa_cons pe_int pa_nil)))) (pe_call G_law_take (hr.mono (by omega)) (by rfl) T.m_law_take T.F_law_take.kp T.b_law_take .nil pass0 (pa_cons (pv 0) (pa_cons pe_int pa_nil))) (fun _ _ => rfl)))
    (pss_cons (ps_set (i := 4) sc_law_arena.nd rfl (Or.inl rfl) (pe_ix ix_list (pe_lst (pa_cons (pe_lst (pa_cons pe_int (pa_cons pe_int (pa_cons pe_int (pa_cons pe_int (pa_cons pe_int (pa_cons pe_int pa_nil))))))) (pa_cons (pe_lst (pa_cons pe_int (pa_cons pe_int (pa_cons pe_int (pa_cons pe_int (pa_cons pe_int (pa_cons pe_int pa_nil))))))) pa_nil))) (pe_call G_law_take (hr.mono (by omega)) (by rfl) T.m_law_take T.F_law_take.kp T.b_law_take .nil pass0 (pa_cons (pv 0) (pa_cons pe_int pa_nil))) (fun _ _ => rfl)))
    (pss_cons (ps_set (i := 5) sc_law_arena.nd rfl (Or.inr rfl) (pe_call G_law_take (hr.mono (by omega)) (by rfl) T.m_law_take T.F_law_take.kp T.b_law_take .nil pass0 (pa_cons (pv 0) (pa_cons (pe_op op_add (pv 1) pe_int) pa_nil))))
    (pss_cons (ps_set (i := 6) sc_law_arena.nd rfl (Or.inl rfl) (pe_lst pa_nil))
    (pss_cons (ps_for  PassesOwn.never rfl (pi_range1 (by rfl) T.z_range (pa_cons (pv 5) pa_nil)) (pg_name (i := 7) sc_law_arena.nd rfl (Or.inl rfl))
    (pss_cons (ps_set (i := 8) sc_law_arena.nd rfl (Or.inl rfl) (pe_lst pa_nil))
    (pss_cons (ps_for  PassesOwn.never rfl (pi_range1 (by rfl) T.z_range (pa_cons (pe_ix ix_list (pv 4) (pe_call G_law_take (hr.mono (by omega)) (by rfl) T.m_law_take T.F_law_take.kp T.b_law_take .nil pass0 (pa_cons (pv 0) (pa_cons pe_int pa_nil))) (fun _ _ => rfl)) pa_nil)) (pg_name (i := 9) sc_law_arena.nd rfl (Or.inl rfl))
    (pss_cons (ps_set (i := 10) sc_law_arena.nd rfl (Or.inl rfl) (pe_lst pa_nil))
    (pss_cons (ps_for  PassesOwn.never rfl (pi_range1 (by rfl) T.z_range (pa_cons (pe_op op_add pe_int (pe_ix ix_list (pe_lst (pa_cons pe_int (pa_cons pe_int (pa_cons pe_int (pa_cons pe_int (pa_cons pe_int (pa_cons pe_int pa_nil))))))) (pe_call G_law_take (hr.mono (by omega)) (by rfl) T.m_law_take T.F_law_take.kp T.b_law_take .nil pass0 (pa_cons (pv 0) (pa_cons pe_int pa_nil))) (fun _ _ => rfl))) pa_nil)) (pg_name (i := 11) sc_law_arena.nd rfl (Or.inl rfl))
    (pss_cons (ps_set (i := 12) sc_law_arena.nd rfl (Or.inl rfl) (pe_call G_law_take (hr.mono (by omega)) (by rfl) T.m_law_take T.F_law_take.kp T.b_law_take .nil pass0 (pa_cons (pv 0) (pa_cons (pe_op op_mul (pv 5) (pv 3)) pa_nil))))
    (pss_cons (ps_set (i := 13) sc_law_arena.nd rfl (Or.inl rfl) (pe_op op_fdiv (pv 12) (pv 3)))
    (C8.pss_cut (ps_if (pt_cmpR op_eq (pe_op op_mod (pe_callTy call_int1 (by rfl) T.z_int (by decide +kernel) (pa_cons (pv 12) pa_nil)) (pv 3)) pe_int (nomark _))
    (pss_one (ps_set (i := 13) sc_law_arena.nd rfl (Or.inl rfl) (pe_un un_neg pe_int)))
    pss_nil)
    (pss_one (ps_if (pt_cmpR op_notIn_seq (pv 13) (pv 10) (by rfl))
    (pss_one (ps_expr (pe_bm PySem.F.plainAttrs_list PySem.F.slot_list_append PySem.F.type_list_append mt_append (pv 10) (pa_cons (pv 13) pa_nil))))
    pss_nil))))))
    (pss_one (ps_expr (pe_bm PySem.F.plainAttrs_list PySem.F.slot_list_append PySem.F.type_list_append mt_append (pv 8) (pa_cons (pe_callTy call_tuple_of (by rfl) T.z_tuple (by decide +kernel) (pa_cons (pe_callB (cr_sorted) (by rfl) T.z_sorted (by decide +kernel) (pa_cons (pv 10) pa_nil)) pa_nil)) pa_nil)))))))
    (pss_one (ps_expr (pe_bm PySem.F.plainAttrs_list PySem.F.slot_list_append PySem.F.type_list_append mt_append (pv 6) (pa_cons (pe_callTy call_tuple_of (by rfl) T.z_tuple (by decide +kernel) (pa_cons (pv 8) pa_nil)) pa_nil)))))))
    (C8.pss_cut (ps_if (PW.pt (pw_and (pt_cmpR op_gt (pv 5) pe_int (nomark _)) (pw_and1 (pt_cmpR op_eq (pe_call G_law_take (hr.mono (by omega)) (by rfl) T.m_law_take T.F_law_take.kp T.b_law_take .nil pass0 (pa_cons (pv 0) (pa_cons pe_int pa_nil))) pe_int (nomark _)))))
    (pss_cons (ps_set (i := 14) sc_law_arena.nd rfl (Or.inr rfl) (pe_call G_law_take (hr.mono (by omega)) (by rfl) T.m_law_take T.F_law_take.kp T.b_law_take .nil pass0 (pa_cons (pv 0) (pa_cons (pv 5) pa_nil))))
    (pss_cons (ps_set (i := 15) sc_law_arena.nd rfl (Or.inl rfl) (pe_op op_cat (pe_lst (pa_cons (pe_tupRg rfl (by rfl) T.z_tuple (prg_2 (by rfl) T.z_range (pe_op op_sub pe_int (pe_call G_law_take (hr.mono (by omega)) (by rfl) T.m_law_take T.F_law_take.kp T.b_law_take .nil pass0 (pa_cons (pv 0) (pa_cons pe_int pa_nil)))) (pv 5))) pa_nil)) (pe_lc (own := [("j", 9)]) (g := (gName 9)) (tt := tYes) rfl sc_law_arena.nd (pi_range1 (by rfl) T.z_range (pa_cons pe_int pa_nil)) (blkOk_by (N := N_law_arena) (sc := defScope s_law_arena) (by decide +kernel)) (fun _ _ _ _ _ => (pg_name (i := 9) sc_law_arena.nd rfl (Or.inl rfl))) (fun _ _ _ _ _ => pts_nil) (fun _ _ _ _ _ => (pe_tup (pa_cons (pe_op op_mod (pe_callTy call_int1 (by rfl) T.z_int (by decide +kernel) (pa_cons (pe_op op_add (pe_op op_mul (pv 9) (pv 14)) (pv 9)) pa_nil)) (pv 5)) pa_nil))))))
    (pss_one (ps_asg (pe_slice sl_tupA (pe_op op_catA (pe_ix ix_list (pv 6) (pv 14) (fun _ _ => rfl)) (pe_callTy call_tuple_of (by rfl) T.z_tuple (by decide +kernel) (pa_cons (pv 15) pa_nil))) po_none (po_some pe_int)) (pg_sub (pv 6) (pv 14) set_list)))))
    pss_nil)
    (pss_one (ps_ret (pe_callTy call_tuple_of (by rfl) T.z_tuple (by decide +kernel) (pa_cons (pv 6) pa_nil)))))))))))), ?_⟩
  refine ⟨_, rfl, d, 12, rfl, hD, by decide, fun sh H1 g1 _ _ => ?_⟩
  refine ⟨_, rfl, rfl, _, rfl, ?_⟩
  refine ite2 (fun z => ?_) (fun z => ?_)
  · exact ⟨_, rfl, d, rfl, g1.dr, fun v A H' g hA hG hl h9 h2 => q v A H' (g1.trans g) hA hG hl (.inr ⟨h9, h2⟩)⟩
  -- how rare it is to be out
  refine ⟨Nat.le_of_ble_eq_true rfl, fun l hl => ?_⟩
  have g1l := g1.trans (Go.new (o := .lst [.int 4, .int 14, .int 60]) g1.dr hl)
  refine ⟨_, rfl, d, 3, rfl, g1l.dr, by decide, fun u2 H2 g2 a2 b2 => ?_⟩
  have el : H2 l = some (.lst ([4, 14, 60].map V.int)) := g2.fr l _ (new_ne g1.dr hl) upd_same
  obtain ⟨rare, hra, hrm⟩ := atI_map (f := V.int) (xs := ([4, 14, 60] : List Int)) a2 b2
  have hr3 : 0 < rare ∧ rare ≤ 60 := by
    simp only [List.mem_cons, List.not_mem_nil, or_false] at hrm
    omega
  refine ⟨l, _, _, _, rfl, rfl, sqd el, hra, ?_⟩
  have g12 := g1l.trans g2
  -- how many options
  refine ⟨Nat.le_of_ble_eq_true rfl, fun l1 hl1 => ?_⟩
  obtain ⟨Ha, ea, sa, ka⟩ := newH hl1 (.lst [.int 0, .int 1, .int 1, .int 2, .int 2, .int 3])
  rw [ea]
  refine ⟨Nat.le_of_ble_eq_true rfl, fun l2 hl2 => ?_⟩
  obtain ⟨Hb, eb, sb, kb⟩ := newH hl2 (.lst [.int 1, .int 1, .int 2, .int 2, .int 3, .int 4])
  rw [eb]
  refine ⟨Nat.le_of_ble_eq_true rfl, fun l3 hl3 => ?_⟩
  obtain ⟨Hc, ec, sc, kc⟩ := newH hl3 (.lst [.ref l1, .ref l2])
  rw [ec]
  have gc := g12.trans (.same g12.dr ((sa.trans sb).trans sc))
  refine ⟨_, rfl, d, 2, rfl, gc.dr, by decide, fun u3 H3 g3 a3 b3 => ?_⟩
  have g13 := gc.trans g3
  have nl1 : l1 ≠ d := new_ne g12.dr hl1
  have nl2 : l2 ≠ d := new_ne (g12.trans (.same g12.dr sa)).dr hl2
  have nl3 : l3 ≠ d := new_ne (g12.trans (.same g12.dr (sa.trans sb))).dr hl3
  obtain ⟨ml, M, nml, hmat, eml, hM6, hMb⟩ : ∃ (ml : Addr) (M : List Int), ml ≠ d ∧ atI [V.ref l1, V.ref l2] u3 = some (.ref ml) ∧ H3 ml = some (.lst (M.map V.int)) ∧ M.length = 6 ∧ ∀ x ∈ M, 0 ≤ x ∧ x ≤ 4 := by
    have hc : u3 = 0 ∨ u3 = 1 := by omega
    rcases hc with rfl | rfl
    · exact ⟨l1, [0, 1, 1, 2, 2, 3], nl1, atI0, g3.fr l1 _ nl1 ((sb.trans sc) _ _ ka), rfl, by decide⟩
    · exact ⟨l2, [1, 1, 2, 2, 3, 4], nl2, atI1, g3.fr l2 _ nl2 (sc _ _ kb), rfl, by decide⟩
  refine ⟨l3, _, _, _, rfl, rfl, sqd (g3.fr l3 _ nl3 kc), hmat, ?_⟩
  refine ⟨_, rfl, _, rfl, _, _, rfl, rfl, d, _, rfl, g3.dr, by omega, fun n H4 g4 n0 n1 => ?_⟩
  have g14 := g13.trans g4
  have eml4 := g4.fr ml _ nml eml
  have n46 : n ≤ 46 := by
    have : n < most + 1 := n1
    omega
  refine ⟨Nat.zero_le _, fun p hp => ?_⟩
  have hpd := new_ne g4.dr hp
  have hp0 := g14.free hp
  obtain ⟨H5, e5, s5, k5⟩ := newH hp (.lst [])
  rw [e5]
  have g15 := g14.trans (.same g4.dr s5)
  have eml5 := s5 _ _ eml4
  have npm : p ≠ ml := fun e => by
    rw [e, eml4] at hp
    cases hp
  refine ⟨_, rfl, n, rfl, by omega, by omega, for_range (lo := 0) (n := n.toNat) (fun (j : Nat) (σ : L2.St) (H' : Hp) => ∃ (xs : List V) (A' : Ar) (y7 y8 y9 y10 y11 y12 y13 : Option V), σ = [some (.ref d), some (.int most), some (.int sh), some (.int rare), some (.ref ml), some (.int n), some (.ref p), y7, y8, y9, y10, y11, y12, y13, none, none] ∧ Go d H H' ∧ H' ml = some (.lst (M.map V.int)) ∧ H' p = some (.lst xs) ∧ Each (PosIn H') A' xs ∧ A'.length = j ∧ ∀ os ∈ A', PosG n os) ?_ ?_ ?_⟩
  · exact ⟨[], [], none, none, none, none, none, none, none, rfl, g15, eml5, k5, .nil, rfl, fun os h => nomatch h⟩
  · rintro j σ H7 hj ⟨xs, A', y7, y8, y9, y10, y11, y12, y13, rfl, g7, em7, e7, hxs, hA, hG⟩
    have hn0 : 0 < n := by omega
    generalize hk : (0 : Int) + (j : Int) = k
    refine ⟨Nat.zero_le _, fun ol hol => ?_⟩
    have nol := new_ne g7.dr hol
    obtain ⟨H8, e8, s8, k8⟩ := newH hol (.lst [])
    rw [e8]
    have g78 := Go.same g7.dr s8
    refine ⟨_, rfl, _, rfl, d, 6, rfl, g78.dr, by decide, fun u4 H9 g9 a4 b4 => ?_⟩
    have em9 := g9.fr ml _ nml (s8 _ _ em7)
    obtain ⟨mm, hmm, hmmem⟩ := atI_map (f := V.int) (xs := M) a4 (by rw [hM6]; exact b4)
    have hmb := hMb mm hmmem
    refine ⟨ml, _, _, _, rfl, rfl, sqd em9, hmm, mm, rfl, by omega, by omega, ?_⟩
    have g79 := g78.trans g9
    have e9p := g9.fr p _ hpd (s8 _ _ e7)
    have e9o := g9.fr ol _ nol k8
    have hol7 : H7 ol = none := hol
    refine for_range (lo := 0) (n := mm.toNat) (fun (i : Nat) (σ : L2.St) (H' : Hp) => ∃ (zs : List V) (os : Pos') (y9 y10 y11 y12 y13 : Option V), σ = [some (.ref d), some (.int most), some (.int sh), some (.int rare), some (.ref ml), some (.int n), some (.ref p), some (.int k), some (.ref ol), y9, y10, y11, y12, y13, none, none] ∧ Go d H7 H' ∧ H' ol = some (.lst zs) ∧ Each (OptIn H') os zs ∧ os.length = i ∧ ∀ o ∈ os, OptG n o) ?_ ?_ ?_
    · exact ⟨[], [], y9, y10, y11, y12, y13, rfl, g79, e9o, .nil, rfl, fun o h => nomatch h⟩
    · rintro i σ H10 hi ⟨zs, os, y9, y10, y11, y12, y13, rfl, g10, e10, hzs, hos, hG2⟩
      generalize hk2 : (0 : Int) + (i : Int) = k2
      refine ⟨Nat.zero_le _, fun fl hfl => ?_⟩
      have nfl := new_ne g10.dr hfl
      obtain ⟨H11, e11, s11, k11⟩ := newH hfl (.lst [])
      rw [e11]
      have ga := Go.same g10.dr s11
      refine ⟨Nat.le_of_ble_eq_true rfl, fun l5 hl5 => ?_⟩
      obtain ⟨H12, e12, s12, k12⟩ := newH hl5 (.lst [.int 0, .int 0, .int 1, .int 1, .int 2, .int 3])
      rw [e12]
      have gb := ga.trans (.same ga.dr s12)
      refine ⟨_, rfl, d, 6, rfl, gb.dr, by decide, fun u5 H13 g13' a5 b5 => ?_⟩
      have n5 := new_ne ga.dr hl5
      obtain ⟨mf, hmf, hmfm⟩ := atI_map (f := V.int) (xs := ([0, 0, 1, 1, 2, 3] : List Int)) a5 b5
      have hmf3 : 0 ≤ mf ∧ mf ≤ 3 := by
        simp only [List.mem_cons, List.not_mem_nil, or_false] at hmfm
        omega
      refine ⟨l5, _, _, _, rfl, rfl, sqd (g13'.fr l5 _ n5 k12), hmf, _, _, rfl, rfl, 1 + mf, rfl, by omega, by omega, ?_⟩
      have gc2 := gb.trans g13'
      have ef13 := g13'.fr fl _ nfl (s12 _ _ k11)
      refine for_range (lo := 0) (n := (1 + mf).toNat) (fun (i : Nat) (σ : L2.St) (H' : Hp) => ∃ (fs : List Int) (y11 y12 y13 : Option V), σ = [some (.ref d), some (.int most), some (.int sh), some (.int rare), some (.ref ml), some (.int n), some (.ref p), some (.int k), some (.ref ol), some (.int k2), some (.ref fl), y11, y12, y13, none, none] ∧ Go d H10 H' ∧ H' fl = some (.lst (fs.map V.int)) ∧ fs.Nodup ∧ fs.length ≤ i ∧ (∀ s ∈ fs, -1 ≤ s ∧ s < n) ∧ (0 < i → fs ≠ [])) ?_ ?_ ?_
      · exact ⟨[], y11, y12, y13, rfl, gc2, ef13, List.nodup_nil, Nat.zero_le _, fun s h => (nomatch h), fun h => absurd h (by omega)⟩
      · rintro t σ H14 ht ⟨fs, y11, y12, y13, rfl, g14', e14, hnd, hlen, hmem, hne⟩
        generalize hk3 : (0 : Int) + (t : Int) = k3
        have hpos : 0 < n * rare := Int.mul_pos hn0 hr3.1
        refine ⟨_, rfl, _, rfl, _, rfl, _, _, rfl, rfl, .inl ⟨by omega, by omega⟩, d, n * rare, rfl, g14'.dr, hpos, fun dr H15 g15' d0 d1 => ?_⟩
        refine ⟨_, rfl, _, rfl, _, _, rfl, rfl, ⟨hr3.1, by omega⟩, ?_⟩
        have hq0 : 0 ≤ dr / rare := Int.ediv_nonneg d0 (by omega)
        have hq1 : dr / rare < n := Int.ediv_lt_of_lt_mul hr3.1 d1
        have e15 := g15'.fr fl _ nfl e14
        have g1015 := g14'.trans g15'
        have fin : ∀ sc : Int, -1 ≤ sc → sc < n → ∀ (b : Bool), b = decide (sc ∈ fs) → True := fun _ _ _ _ _ => trivial
        refine ⟨fun σ H' => ∃ sc : Int, σ = [some (.ref d), some (.int most), some (.int sh), some (.int rare), some (.ref ml), some (.int n), some (.ref p), some (.int k), some (.ref ol), some (.int k2), some (.ref fl), some (.int k3), some (.int dr), some (.int sc), none, none] ∧ H' = H15 ∧ -1 ≤ sc ∧ sc < n, ?_, ?_⟩
        · refine ⟨_, rfl, .inl ⟨_, rfl, _, rfl, _, _, rfl, rfl, hr3.1, rfl, _, rfl, ?_⟩⟩
          refine ite2 (fun z => ?_) (fun z => ?_)
          · exact ⟨_, rfl, -1, rfl, rfl, by omega, by omega⟩
          · exact ⟨_, rfl, rfl, by omega, hq1⟩
        rintro σ H16 ⟨sc, rfl, rfl, c0, c1⟩
        refine ⟨_, rfl, _, rfl, fl, _, rfl, .inl (sqd e15), rfl, flat_ints' fs, _, rfl, ?_⟩
        by_cases hin : sc ∈ fs
        · refine ifF (by rw [notIn_int, decide_eq_true hin] <;> rfl) ?_
          exact ⟨fs, _, _, _, rfl, g1015, e15, hnd, by omega, hmem, fun _ e => by rw [e] at hin; cases hin⟩
        · refine ifT (by rw [notIn_int, decide_eq_false hin] <;> rfl) ?_
          refine ⟨_, rfl, .inl ⟨rfl, _, sqd e15⟩, _, rfl, fl, _, _, rfl, rfl, e15, big' (by rw [List.length_map]; omega), ?_⟩
          refine ⟨fs ++ [sc], _, _, _, rfl, g1015.put2 hfl nfl, by rw [upd_same, List.map_append]; rfl, ?_, ?_, ?_, fun _ => by simp⟩
          · exact List.nodup_append.mpr ⟨hnd, by simp, fun a ha b hb e => hin (by rw [← List.mem_singleton.mp hb, ← e]; exact ha)⟩
          · rw [List.length_append]
            exact Nat.add_le_add_right hlen 1
          · intro s hs
            rcases List.mem_append.mp hs with hs | hs
            · exact hmem s hs
            · rw [List.mem_singleton.mp hs]
              exact ⟨c0, c1⟩
      · rintro σ H14 ⟨fs, y11, y12, y13, rfl, g14', e14, hnd, hlen, hmem, hne⟩
        have hfl64 : fs.length ≤ 4 := by omega
        have e14o := g14'.fr ol _ nol e10
        refine ⟨_, rfl, .inl ⟨rfl, _, sqd e14o⟩, _, rfl, fl, fs, rfl, sqd e14, by omega, fun ns q1 hperm hpw hq1 => ?_⟩
        obtain ⟨Hd, ed, sd, kd⟩ := newH hq1 (.lst (ns.map V.int))
        rw [ed]
        refine ⟨q1, _, rfl, .inl ⟨sqd kd, fun t2 ht2 => ?_⟩⟩
        obtain ⟨He, ee, se, ke⟩ := newH ht2 (.tup (ns.map V.int))
        rw [ee]
        have sde := sd.trans se
        have eoe := sde _ _ e14o
        refine ⟨ol, zs, _, rfl, rfl, eoe, big' (by have := hzs.1; omega), ?_⟩
        have ge := g14'.trans (.same g14'.dr sde)
        have tpx : Tp H10 (upd He ol (.lst (zs ++ [.ref t2]))) := tp_put (ge.tp g10.dr) eoe
        have nt2 : t2 ≠ ol := fun e => by
          rw [e, sd _ _ e14o] at ht2
          cases ht2
        refine ⟨zs ++ [.ref t2], os ++ [ns], _, _, _, _, _, rfl, (g10.trans ge).put2 hol7 nol, upd_same, ?_, by rw [List.length_append, hos]; rfl, ?_⟩
        · refine (hzs.mono fun o x => OptIn.tp tpx).snoc ⟨t2, rfl, ?_⟩
          rw [upd_ne nt2]
          exact ke
        · intro o ho
          rcases List.mem_append.mp ho with ho | ho
          · exact hG2 o ho
          · rw [List.mem_singleton.mp ho]
            refine ⟨fun e => ?_, by have := hperm.length_eq; omega, fun s hs => hmem s (hperm.mem_iff.mp hs), asc_of hperm hnd hpw⟩
            rw [e] at hperm
            exact hne (by omega) hperm.symm.eq_nil
    · rintro σ H10 ⟨zs, os, y9, y10, y11, y12, y13, rfl, g10, e10, hzs, hos, hG2⟩
      have e10p := g10.fr p _ hpd e7
      have hxl := hxs.1
      refine ⟨_, rfl, .inl ⟨rfl, _, sqd e10p⟩, _, rfl, ol, zs, rfl, .inl ⟨sqd e10, fun t ht => ?_⟩⟩
      have st := same_new ht (.tup zs)
      have ept := st _ _ e10p
      have gt := (g7.trans g10).trans (.same (g7.trans g10).dr st)
      have ntp : t ≠ p := fun e => by
        rw [e, e10p] at ht
        cases ht
      refine ⟨p, xs, _, rfl, rfl, ept, big' (by omega), ?_⟩
      refine ⟨xs ++ [.ref t], A' ++ [os], some (.int k), some (.ref ol), _, _, _, _, _, rfl, gt.put2 hp0 hpd, ?_, upd_same, ?_, by rw [List.length_append, hA]; rfl, ?_⟩
      · rw [upd_ne npm.symm]
        exact st _ _ (g10.fr ml _ nml em7)
      · have tp : Tp H7 (upd (upd H10 t (.tup zs)) p (.lst (xs ++ [.ref t]))) := tp_put ((g10.tp g7.dr).trans (Tp.same st)) ept
        refine (hxs.mono fun o x => PosIn.tp tp).snoc ⟨t, zs, rfl, ?_, ?_⟩
        · rw [upd_ne ntp]
          exact upd_same
        · exact hzs.mono fun o x => OptIn.tp (tp_put (Tp.same st) ept)
      · intro o ho
        rcases List.mem_append.mp ho with ho | ho
        · exact hG o ho
        · rw [List.mem_singleton.mp ho]
          exact ⟨by omega, hG2⟩
  · rintro σ H7 ⟨xs, A', y7, y8, y9, y10, y11, y12, y13, rfl, g7, em7, e7, hxs, hA, hG⟩
    refine ⟨fun σ H' => ∃ (xs : List V) (A' : Ar) (y7 y8 y9 y10 y11 y12 y13 y14 y15 : Option V), σ = [some (.ref d), some (.int most), some (.int sh), some (.int rare), some (.ref ml), some (.int n), some (.ref p), y7, y8, y9, y10, y11, y12, y13, y14, y15] ∧ Go d H H' ∧ H' p = some (.lst xs) ∧ Each (PosIn H') A' xs ∧ A'.length = n.toNat ∧ ∀ os ∈ A', PosG n os, ?_, ?_⟩
    · refine ⟨_, rfl, _, _, rfl, rfl, _, rfl, ?_⟩
      refine ite2 (fun z => ?_) (fun z => iteF ⟨xs, A', _, _, _, _, _, _, _, _, _, rfl, g7, e7, hxs, hA, hG⟩)
      have hn0 : 0 < n := of_decide_eq_true z
      refine ⟨_, rfl, d, 8, rfl, g7.dr, by decide, fun u4 H9 g9 _ _ => ⟨rfl, _, rfl, ?_⟩⟩
      have e9 := g9.fr p _ hpd e7
      have hxs9 := hxs.mono fun o x => PosIn.tp (g9.tp g7.dr)
      have gg := g7.trans g9
      refine ite2 (fun z => ?_) (fun z => ⟨xs, A', _, _, _, _, _, _, _, _, _, rfl, gg, e9, hxs9, hA, hG⟩)
      refine ⟨_, rfl, _, rfl, d, n, rfl, g9.dr, hn0, fun at_ H10 g10 t0 t1 => ?_⟩
      refine ⟨_, rfl, d, 2, rfl, g10.dr, by decide, fun u H11 g11 u0 u1 => ⟨_, _, rfl, rfl, _, rfl, _, _, rfl, rfl, ⟨by omega, by omega, by omega, by omega, by omega⟩, fun q1 hq1 => ?_⟩⟩
      rw [rg_ints]
      have og1 := rg_good u0 u1 hn0 n46
      generalize (List.range (n - (0 - u)).toNat).map (fun i : Nat => (0 - u) + (i : Int)) = o1 at og1 ⊢
      obtain ⟨Ha, ea, sa, ka⟩ := newH hq1 (.tup (o1.map V.int))
      rw [ea]
      refine ⟨Nat.le_of_ble_eq_true rfl, fun lm hlm => ?_⟩
      obtain ⟨Hb, eb, sb, kb⟩ := newH hlm (.lst [.ref q1])
      rw [eb]
      refine ⟨5, rfl, by decide, by decide, fun D hD => ?_⟩
      refine lc_range (lo := 0) (n := 5) (fun (j : Nat) (H' : Hp) => ∃ (zs : List V) (os : Pos'), Same Hb H' ∧ H' D = some (.lst zs) ∧ Each (OptIn H') os zs ∧ os.length = j ∧ ∀ o ∈ os, OptG n o) ?_ ?_ ?_
      · exact ⟨[], [], same_new hD _, upd_same, .nil, rfl, fun o h => nomatch h⟩
      · rintro j H' hj ⟨zs, os, sj, ej, hzs, hos, hoG⟩
        refine ⟨rfl, yes_if ?_⟩
        refine ⟨_, rfl, _, rfl, _, _, rfl, rfl, .inl ⟨by omega, by omega⟩, _, rfl, _, _, rfl, rfl, .inl ⟨_, rfl, _, rfl, _, _, rfl, rfl, hn0, Nat.le_of_ble_eq_true rfl, fun t ht => ?_⟩⟩
        dsimp only
        generalize hv : ((0 + (j : Int)) * at_ + (0 + (j : Int))) % n = v
        have hv0 : 0 ≤ v := by rw [← hv]; exact Int.emod_nonneg _ (by omega)
        have hv1 : v < n := by rw [← hv]; exact Int.emod_lt_of_pos _ hn0
        obtain ⟨Hc, ec, sc, kc⟩ := newH ht (.tup [V.int v])
        rw [ec]
        have ntD : t ≠ D := fun e => by
          rw [e, ej] at ht
          cases ht
        have ejc := sc _ _ ej
        refine ⟨zs, ejc, big' (by have := hzs.1; omega), zs ++ [.ref t], os ++ [[v]], same_put (sj.trans sc) hD, upd_same, ?_, by rw [List.length_append, hos]; rfl, ?_⟩
        · refine (hzs.mono fun o x => OptIn.tp (tp_put (Tp.same sc) ejc)).snoc ⟨t, rfl, ?_⟩
          rw [upd_ne ntD]
          exact kc
        · intro o ho
          rcases List.mem_append.mp ho with ho | ho
          · exact hoG o ho
          · rw [List.mem_singleton.mp ho]
            exact .one (by omega) hv1
      · rintro H12 ⟨zs, os, sj, ej, hzs, hos, hoG⟩
        refine ⟨lm, D, _, _, rfl, rfl, sj _ _ kb, ej, big (by have := hzs.1; rw [List.length_singleton]; omega), fun mp hmp => ?_⟩
        obtain ⟨Hd, ed, sd, kd⟩ := newH hmp (.lst ([V.ref q1] ++ zs))
        rw [ed]
        have s1 := (sa.trans sb).trans (sj.trans sd)
        have gd : Go d H9 Hd := (g10.trans g11).trans (.same g11.dr s1)
        have hm1 : Each (OptIn Hd) ([o1] ++ os) ([V.ref q1] ++ zs) := (Each.cons ⟨q1, rfl, ((sb.trans sj).trans sd) _ _ ka⟩ .nil).app (hzs.mono fun o x => OptIn.tp (.same sd))
        have edp := gd.fr p _ hpd e9
        have hxd := hxs9.mono fun o x => PosIn.tp (gd.tp g9.dr)
        obtain ⟨os0, x0, hos0, hat, hin⟩ := hxd.atI t0 (by rw [hA]; omega)
        obtain ⟨b0, zs0, rfl, eb0, hzs0⟩ := hin
        have hG0 := hG os0 (List.mem_of_getElem? hos0)
        refine ⟨_, rfl, _, rfl, p, _, _, _, rfl, rfl, sqd edp, hat, _, rfl, mp, _, rfl, .inl ⟨sqd kd, fun t2 ht2 => ?_⟩⟩
        obtain ⟨He, ee, se, ke⟩ := newH ht2 (.tup ([V.ref q1] ++ zs))
        rw [ee]
        refine catA_of (se _ _ eb0) ke (by have h1 := hzs0.1; have h2 := hm1.1; have h3 := hG0.1; rw [h2, List.length_append, hos, List.length_singleton]; omega) fun pc Hf sf ef => ?_
        refine ⟨9, rfl, ?_⟩
        refine slA_of ef fun ps Hg sg eg => ?_
        rw [show cutV (zs0 ++ ([V.ref q1] ++ zs)) none (some 9) = (zs0 ++ ([V.ref q1] ++ zs)).take 9 from cut_pre (k := 9)] at eg
        have seg := (se.trans sf).trans sg
        have egp := seg _ _ edp
        have hgg := gg.trans (gd.trans (.same gd.dr seg))
        have nps : ps ≠ p := fun e => by
          rw [e, egp] at eg
          cases eg
        refine ⟨_, rfl, _, rfl, p, _, _, _, rfl, rfl, egp, ixN_in t0 (by rw [hxd.1, hA]; omega), ?_⟩
        have tpp : Tp Hd (upd Hg p (.lst (xs.set at_.toNat (.ref ps)))) := tp_put (Tp.same seg) egp
        refine ⟨xs.set at_.toNat (.ref ps), A'.set at_.toNat ((os0 ++ ([o1] ++ os)).take 9), _, _, _, _, _, _, _, _, _, rfl, hgg.put2 hp0 hpd, upd_same, ?_, by rw [List.length_set]; exact hA, ?_⟩
        · refine (hxd.mono fun o x => PosIn.tp tpp).set _ ⟨ps, (zs0 ++ ([V.ref q1] ++ zs)).take 9, rfl, ?_, ?_⟩
          · rw [upd_ne nps]
            exact eg
          · exact ((hzs0.app hm1).take 9).mono fun o x => OptIn.tp tpp
        · intro o ho
          rcases List.mem_or_eq_of_mem_set ho with ho | rfl
          · exact hG o ho
          · refine ⟨by rw [List.length_take]; omega, fun w hw => ?_⟩
            have hw := List.mem_of_mem_take hw
            rcases List.mem_append.mp hw with hw | hw
            · exact hG0.2 w hw
            · rcases List.mem_append.mp hw with hw | hw
              · rw [List.mem_singleton.mp hw]
                exact og1
              · exact hoG w hw
    rintro σ H8 ⟨xs, A', y7, y8, y9, y10, y11, y12, y13, y14, y15, rfl, g8, e8, hxs, hA, hG⟩
    refine ⟨_, rfl, p, xs, rfl, .inl ⟨sqd e8, fun t ht => ?_⟩⟩
    have st := same_new ht (.tup xs)
    refine q _ A' _ (g8.trans (.same g8.dr st)) ⟨t, xs, rfl, upd_same, hxs.mono fun os x => PosIn.tp (.same st)⟩ ⟨by omega, fun os h => ?_⟩ (by omega) (.inl (by omega))
    rw [show (A'.length : Int) = n by omega]
    exact hG os h
end
end NL

namespace NL
open PySem PySem.Spec PyProof.Rows L2
theorem ints_snoc2 (ps : List Int) (l : Int) : (ps ++ [l]).map V.int = ps.map V.int ++ [V.int l] := by
  rw [List.map_append]
  rfl
theorem at_last {α : Type} {x : α} {xs : List α} : atI (xs ++ [x]) (-1) = some x := by
  unfold atI
  rw [show ixN (xs ++ [x]).length (-1) = some xs.length by
    unfold ixN
    rw [if_neg (by decide), if_pos (by rw [List.length_append, List.length_singleton]; omega), List.length_append, List.length_singleton]
    congr 1
    omega]
  simp
theorem lc_pairs {K : PySem.W.Frag} {a b : Addr} {xs ys : List V} {g : TG} {tt : TT} {te : TE} {vs : List Nat} {σ : L2.St} {H1 : Hp} {D : Addr} {Qd : Hp → Prop} (n : Nat) (hn : n = min xs.length ys.length) (Pv : Nat → Hp → Prop) (h0 : Pv 0 (upd H1 D (.lst []))) (hq : ∀ i H, Pv i H → SqT K H a xs ∧ SqT K H b ys)
    (hs : ∀ (i : Nat) (x y : V) (t : Addr) (H : Hp), xs[i]? = some x → ys[i]? = some y → Pv i H → H t = none → g (.ref t) (wipe σ vs) (upd H t (.tup [x, y])) fun σ2 H2 => wipe σ2 vs = wipe σ vs ∧ tt σ2 H2 fun c H3 =>
      if c = true then te σ2 H3 fun z H4 => ∃ acc, H4 D = some (.lst acc) ∧ acc.length < sizeLine ∧ Pv (i + 1) (upd H4 D (.lst (acc ++ [z]))) else Pv (i + 1) H3) (hd : ∀ H, Pv n H → Qd H) :
    ∃ W : Nat → Nat → Hp → Prop, (∃ m, W 0 m (upd H1 D (.lst []))) ∧ ∀ i m H, W i m H →
      ((RZ.ItzT K a b).stop i H ∧ Qd H) ∨ ((RZ.ItzT K a b).go i H ∧ ∃ Nx : Hp → Prop, (∀ H', Nx H' → ∃ m', m' < m ∧ W (i + 1) m' H') ∧ ∀ x H', (RZ.ItzT K a b).yld i H x H' → g x (wipe σ vs) H' fun σ2 H2 => wipe σ2 vs = wipe σ vs ∧ tt σ2 H2 fun c H3 =>
        if c = true then te σ2 H3 fun z H4 => ∃ acc, H4 D = some (.lst acc) ∧ acc.length < sizeLine ∧ Nx (upd H4 D (.lst (acc ++ [z]))) else Nx H3) := by
  refine ⟨fun i m H => m + i = n ∧ Pv i H, ⟨n, rfl, h0⟩, ?_⟩
  rintro i m H ⟨hi, p⟩
  obtain ⟨qx, qy⟩ := hq i H p
  by_cases lt : i < n
  · have ex : xs[i]? = some xs[i] := List.getElem?_eq_getElem (by omega)
    have ey : ys[i]? = some ys[i] := List.getElem?_eq_getElem (by omega)
    refine .inr ⟨⟨xs, ys, _, _, qx, qy, ex, ey⟩, Pv (i + 1), fun H' p' => ⟨m - 1, by omega, by omega, p'⟩, fun v H' y => ?_⟩
    obtain ⟨t, x1, y1, rfl, ht, rfl, f1, f2⟩ := y
    exact hs i x1 y1 t H (f1 xs qx) (f2 ys qy) p ht
  · have e : i = n := by omega
    subst e
    exact .inl ⟨⟨xs, ys, qx, qy, by omega⟩, hd H p⟩
theorem op_catAK {X : Cx} {K : PySem.W.Frag} (h : X.K = K) : OpR X (binaryOp .Add) (rCatA K) := by subst h; exact op_catA
end NL

set_option maxHeartbeats 4000000
namespace NL
open PySem PySem.Spec PyProof.Rows L2
/-! ### enumerate of a tuple -/
theorem draws_tup {P : Program} {w : World} {A : Around} (cold : A.handled = none) (j l : Addr) (apart : l ≠ j) (vs : Array Value) : Draws P w A j [j, l] vs.size (fun i v => vs[i]? = some v) (fun i h => h.IsTupleIter j l i ∧ h.IsTuple l vs) where
  live := fun _ _ st => by
    obtain ⟨⟨o, ho, _⟩, _⟩ := st
    exact ⟨o, ho⟩
  frame := fun _ _ _ st hold => by
    obtain ⟨st1, o, ho, hr⟩ := st
    exact ⟨st1.at fun ob e => hold j (by simp) ob e, o, hold l (by simp) o ho, hr⟩
  item := fun i s Q E hi st hQ => by
    refine RZ.nextOf_tuple_item st.1 st.2 (x := vs[i]) (by simp [hi]) fun g st1 sb => ?_
    refine hQ _ g s.toks (by simp [hi]) ⟨st1, ?_⟩ sb
    obtain ⟨o, ho, hr⟩ := st.2
    exact ⟨o, (sb.2 l apart).trans ho, hr⟩
  done := fun s Q E st hE => RZ.nextOf_tuple_end cold st.1 st.2 (by simp) hE
theorem enum_newT (l : Addr) (vs : Array Value) :
    Meets (Builtin.«enumerate.__new__» ⟨[.type "enumerate", .ref l], []⟩) (fun _ R s => s.heap.IsTuple l vs ∧
      R (.ok (.ret (.ref (s.heap.push { cls := .type "tuple_iterator", data := .fields #[.ref l, .int 0 0] }).objs.size)))
        { s with heap := (s.heap.push { cls := .type "tuple_iterator", data := .fields #[.ref l, .int 0 0] }).push { cls := .type "enumerate", data := .fields #[.none, .bool false, .ref s.heap.objs.size, rawInt 0, .none, .none] } }) :=
  .of_wp fun P w A R s r => by
    obtain ⟨hp, gs, dr, tk, os⟩ := s
    obtain ⟨tu, r⟩ := r
    have hsub := sub_enumerate
    have T2 : Heap.IsTuple (Shared.heap ⟨hp, gs, dr, tk, os⟩) l vs := tu
    obtain ⟨⟨c, dct, dt, sl⟩, hl, hc, n, hd⟩ := tu
    replace hc : c = .type "tuple" := hc
    replace hd : dt = .seq vs n := hd
    subst hc hd
    wp_walk using AutoSeq1.wpAny_loadPart' hl
    refine wpAny_stack_any fun st => wpAny_pure ?_
    split
    · rename_i c2 _ _ _ _ _
      cases (c2 == Value.type "enumerate")
      · wp_walk using AutoSeq1.wpAny_loadPart' hl, wpAny_pyIter_tuple T2
        exact ⟨_, rfl, r⟩
      · wp_walk using AutoSeq1.wpAny_loadPart' hl, wpAny_pyIter_tuple T2
        exact ⟨_, rfl, r⟩
    · wp_walk using AutoSeq1.wpAny_loadPart' hl, wpAny_pyIter_tuple T2
      exact ⟨_, rfl, r⟩
theorem enum_callT {P : Program} {w : World} {A : Around} {E : Value → Shared → Prop} {s : Shared} {l : Addr} {vs : Array Value} {Q : Value → Shared → Prop} (tu : s.heap.IsTuple l vs)
    (k : ∀ g, IsEnum g (s.heap.objs.size + 1) s.heap.objs.size 0 .none → g.IsTupleIter s.heap.objs.size l 0 → (∀ b o, s.heap.get? b = some o → g.get? b = some o) → Q (.ref (s.heap.objs.size + 1)) { s with heap := g }) :
    wpAny (model P w) A (call (.type "enumerate") [.ref l]) Q E s := by
  refine callType_new F.called_enumerate (by decide) (F.typeCall_enumerate_1 _) (F.newCall_enumerate_1 _) (fun ob => F.args_object_init_2 ob _) F.entry_enumerate_new (enum_newT l vs) ⟨tu, ?_⟩
  have sz : (s.heap.push { cls := .type "tuple_iterator", data := .fields #[.ref l, .int 0 0] }).objs.size = s.heap.objs.size + 1 := Heap.size_push ..
  show _ ∧ _
  rw [sz]
  have isE : IsEnum ((s.heap.push { cls := .type "tuple_iterator", data := .fields #[.ref l, .int 0 0] }).push { cls := .type "enumerate", data := .fields #[.none, .bool false, .ref s.heap.objs.size, rawInt 0, .none, .none] }) (s.heap.objs.size + 1) s.heap.objs.size 0 .none := by
    have top := Heap.get?_push_size (s.heap.push { cls := .type "tuple_iterator", data := .fields #[.ref l, .int 0 0] }) (o := { cls := .type "enumerate", data := .fields #[.none, .bool false, .ref s.heap.objs.size, rawInt 0, .none, .none] }) rfl
    rw [sz] at top
    exact top
  exact ⟨⟨_, isE, rfl⟩, k _ isE ⟨_, Heap.get?_push_of_some _ (Heap.get?_push_size _ rfl), rfl, rfl⟩ fun b o e => Heap.get?_push_of_some _ (Heap.get?_push_of_some _ e)⟩
/-- the tuple at a, each item in a new pair with its number -/
def EtT (K : PySem.W.Frag) (a : Addr) : L2.It :=
  ⟨fun i H => ∃ (xs : List V) (x : V), SqT K H a xs ∧ xs[i]? = some x, fun i H v H' => ∃ t x, v = .ref t ∧ H t = none ∧ H' = upd H t (.tup [.int (i : Nat), x]) ∧ ∀ xs, SqT K H a xs → xs[i]? = some x, fun i H => ∃ xs : List V, SqT K H a xs ∧ xs.length ≤ i⟩
theorem turn_enumT {P : Program} {w : World} {K : PySem.W.Frag} {elts : List Expr} {kk : Nat} {tpos : Pos} (a e j : Addr) :
    Turn P w K (.Tuple elts kk tpos) (EtT K a) [e, j] e (fun i h => (∃ old, IsEnum h e j ((i : Nat) : Int) old) ∧ h.IsTupleIter j a i ∧ e ≠ j) where
  mem := List.mem_cons_self
  obj := by
    rintro i h ⟨⟨old, isE⟩, ⟨o, ho, hc, hd⟩, _⟩ b hb
    have hb2 : b = e ∨ b = j := by simpa using hb
    rcases hb2 with rfl | rfl
    · exact ⟨_, isE, fun v q => nomatch q⟩
    · exact ⟨o, ho, fun v q => by rw [hd] at q; cases q⟩
  keep := by
    rintro i h g ⟨⟨old, isE⟩, isT, ne⟩ hold
    exact ⟨⟨old, hold e (by simp) _ isE⟩, isT.at fun o q => hold j (by simp) o q, ne⟩
  item := by
    rintro X rfl rfl rfl hcalm i pins s σ H E hinv hfp ⟨⟨old, isE⟩, isT, ne⟩ ⟨xs, x, hq, hx⟩
    obtain ⟨its, rv, pt, hz⟩ := hinv.tuple hq
    have tu : s.heap.IsTuple a its.toArray := pt
    obtain ⟨u, hu, ru⟩ := rv.get hx
    have ha : a ≠ j := fun q => by
      obtain ⟨o, ho, hc, _⟩ := id isT
      obtain ⟨o2, ho2, hc2, _⟩ := id tu
      rw [q, ho] at ho2
      cases ho2
      rw [hc] at hc2
      exact absurd (Value.type.inj hc2) (by decide)
    have hea : e ≠ a := fun q => by
      obtain ⟨o2, ho2, hc2, _⟩ := id tu
      have isE2 : s.heap.get? e = some _ := isE
      have e3 := (congrArg s.heap.get? q).symm.trans isE2
      rw [ho2] at e3
      cases e3
      exact absurd (Value.type.inj hc2) (by decide)
    have hlt : i < its.toArray.size := by
      have := (List.getElem?_eq_some_iff.mp hu).1
      simpa using this
    have cold := hinv.ok.hd hcalm
    refine wpAny_pyNext_enum_itemD (draws_tup (A := X.A.in1) cold j a ha its.toArray) isE ⟨isT, tu⟩ hlt ne (by simp [ne, hea]) fun y g tk hy ho st1 hT hsz hold => ?_
    have hyu : y = u := by
      have h2 : its[i]? = some y := by simpa using hy
      rw [hu] at h2
      exact (Option.some.inj h2).symm
    subst hyu
    refine ⟨_, rfl, wpAny_letOwnedTupleGo_enum (s := { s with heap := g, toks := tk + 1 }) ho fun g2 isE2 sb => ?_⟩
    have hel : e < s.heap.objs.size := Heap.lt_size isE
    have hjl : j < s.heap.objs.size := by
      obtain ⟨_, q, _⟩ := id isT
      exact Heap.lt_size q
    have hT2 : g2.get? s.heap.objs.size = some { cls := .type "tuple", data := .seq #[.int i tk, y] } := (sb.2 _ (Nat.ne_of_gt hel)).trans hT
    have made : ObjOk X.prog X.w (upd H s.heap.objs.size (.tup [.int (i : Nat), x])) g2 s.heap.objs.size (.tup [.int (i : Nat), x]) :=
      ⟨by show 2 ≤ sizeLine; decide, [.int i tk, y], .cons ⟨_, rfl⟩ (.cons ru .nil), ⟨_, hT2, rfl, _, rfl⟩⟩
    have inv2 : Inv X pins σ (upd H s.heap.objs.size (.tup [.int (i : Nat), x])) { s with heap := g2, toks := tk + 1 } :=
      hinv.turnedNew (ch := [e, j]) (fun b ob hb q => (sb.2 b (fun z => hb (by simp [z]))).trans (hold b ob (fun z => hb (by simp [z])) (fun z => hb (by simp [z])) q)) hfp (Nat.le_refl _) made
    refine ⟨.ref s.heap.objs.size, _, inv2, rfl, ⟨_, x, rfl, hinv.hok.fresh (Nat.le_refl _), rfl, fun ys hy2 => by rw [hinv.tuple_inj hy2 hq]; exact hx⟩, ⟨⟨y, ?_⟩, st1.1.at fun o q => (sb.2 j (Ne.symm ne)).trans q, ne⟩, fun b hb => ?_⟩
    · have e1 : ((i + 1 : Nat) : Int) = (i : Int) + 1 := by omega
      rw [e1]
      exact isE2
    · have hb2 : b < s.heap.objs.size := by
        have z : b = e ∨ b = j := by simpa using hb
        rcases z with rfl | rfl
        · exact hel
        · exact hjl
      rw [upd_ne (Nat.ne_of_lt hb2)]
      exact (hfp b hb).1
  done := by
    rintro X rfl rfl rfl hcalm i pins s σ H E hinv hfp ⟨⟨old, isE⟩, isT, ne⟩ ⟨xs, hq, hx⟩
    obtain ⟨its, rv, pt, hz⟩ := hinv.tuple hq
    have tu : s.heap.IsTuple a its.toArray := pt
    have hT : s.TypeIs (.ref e) "enumerate" := ⟨_, isE, rfl⟩
    obtain ⟨f0, f1, f2, f3, f4, f5⟩ := hfp j (by simp)
    have hl := rv.length
    have cold := hinv.ok.hd hcalm
    unfold pyNext
    refine wpAny_bind (wpAny_attempt (wpAny_callSpecial?_slot (name := Str.ofString "__next__") hT F.slot_enumerate_next
      (wpAny_call_entry F.slot_enumerate_next hT F.entry_enumerate_next ?_ (F.args_enumerate_next_1 _))))
    show wpAny _ _ (field (.ref e) 2 >>= _) _ _ _
    refine wpAny_bind (wpAny_field isE rfl (x := .ref j) rfl (wpAny_bind (RZ.nextOf_tuple_end cold isT tu (by simp; omega) fun g x eb ⟨o, ho, hc⟩ => ?_)))
    refine wpAny_bind (wpAny_isInstance (T := "StopIteration") (b := true) ⟨o, ho, hc⟩ isSubtype_stop (wpAny_pure ⟨rfl, hinv.turned (t' := s.toks) (fun b o hb q => eb b o hb q) f0 f1 f3 f4 f5⟩))
  self := by
    rintro A i s Q E ⟨⟨_, isE⟩, _⟩ h
    exact wpAny_pyIter_enum isE h
def iEnumT (K : PySem.W.Frag) (ta : TA) : TI := fun σ H R => ta σ H fun vs H1 => ∃ a xs, vs = [.ref a] ∧ SqT K H1 a xs ∧ R (EtT K a) H1
theorem pi_enumT {X : Cx} {ex : Expr} {ta : TA} {p pos tpos : Pos} {elts : List Expr} {kk : Nat} (hg : Gl X "enumerate") (hm : X.mg "enumerate" = none) (ha : PA X [ex] ta) (hs : starEach [ex] X.env = [(false, eval ex X.env)] := by rfl) :
    PI X (.Tuple elts kk tpos) (.Call (.Name "enumerate" p) [ex] [] pos) (iEnumT X.K ta) := by
  refine ⟨fun pins s σ H R hinv h => ?_⟩
  refine Call_ (ld_blt hinv hg hm boot_enumerate (PyProof.Rows.callWith_type1 (thn (ha.run pos pins s σ H _ hinv h) fun us s1 ⟨vs, H1, inv1, hv, q1⟩ => ?_) hs rfl))
  obtain ⟨a, xs, rfl, hq, q⟩ := q1
  cases hv with
  | cons r rest =>
    cases rest
    cases r
    obtain ⟨its, rv, pt, hz⟩ := inv1.tuple hq
    refine enum_callT (show s1.heap.IsTuple a its.toArray from pt) fun g isE isT hold => wpAny_pyIter_enum isE ?_
    have inv2 : Inv X pins σ H1 { s1 with heap := g } := inv1.kept (t' := s1.toks) hold
    refine ⟨s1.heap.objs.size + 1, [s1.heap.objs.size + 1, s1.heap.objs.size], _, _, H1, rfl, inv2, turn_enumT a (s1.heap.objs.size + 1) s1.heap.objs.size, ⟨⟨.none, isE⟩, isT, Nat.succ_ne_self _⟩, fun b hb => ?_, q⟩
    have hle : s1.heap.objs.size ≤ b := by
      have z : b = s1.heap.objs.size + 1 ∨ b = s1.heap.objs.size := by simpa using hb
      rcases z with z | z
      · rw [z]; exact Nat.le_succ _
      · rw [z]; exact Nat.le_refl _
    exact inv1.fpOk hle (inv1.hok.fresh hle)
theorem lc_enumT {K : PySem.W.Frag} {a : Addr} {xs : List V} {g : TG} {tt : TT} {te : TE} {vs : List Nat} {σ : L2.St} {H1 : Hp} {D : Addr} {Qd : Hp → Prop} (Pv : Nat → Hp → Prop) (h0 : Pv 0 (upd H1 D (.lst []))) (hq : ∀ i H, Pv i H → SqT K H a xs)
    (hs : ∀ (i : Nat) (x : V) (t : Addr) (H : Hp), xs[i]? = some x → Pv i H → H t = none → g (.ref t) (wipe σ vs) (upd H t (.tup [.int (i : Nat), x])) fun σ2 H2 => wipe σ2 vs = wipe σ vs ∧ tt σ2 H2 fun c H3 =>
      if c = true then te σ2 H3 fun z H4 => ∃ acc, H4 D = some (.lst acc) ∧ acc.length < sizeLine ∧ Pv (i + 1) (upd H4 D (.lst (acc ++ [z]))) else Pv (i + 1) H3) (hd : ∀ H, Pv xs.length H → Qd H) :
    ∃ W : Nat → Nat → Hp → Prop, (∃ m, W 0 m (upd H1 D (.lst []))) ∧ ∀ i m H, W i m H →
      ((EtT K a).stop i H ∧ Qd H) ∨ ((EtT K a).go i H ∧ ∃ Nx : Hp → Prop, (∀ H', Nx H' → ∃ m', m' < m ∧ W (i + 1) m' H') ∧ ∀ x H', (EtT K a).yld i H x H' → g x (wipe σ vs) H' fun σ2 H2 => wipe σ2 vs = wipe σ vs ∧ tt σ2 H2 fun c H3 =>
        if c = true then te σ2 H3 fun z H4 => ∃ acc, H4 D = some (.lst acc) ∧ acc.length < sizeLine ∧ Nx (upd H4 D (.lst (acc ++ [z]))) else Nx H3) := by
  refine ⟨fun i m H => m + i = xs.length ∧ Pv i H, ⟨xs.length, rfl, h0⟩, ?_⟩
  rintro i m H ⟨hi, p⟩
  have q := hq i H p
  by_cases lt : i < xs.length
  · have ex : xs[i]? = some xs[i] := List.getElem?_eq_getElem lt
    refine .inr ⟨⟨xs, _, q, ex⟩, Pv (i + 1), fun H' p' => ⟨m - 1, by omega, by omega, p'⟩, fun v H' y => ?_⟩
    obtain ⟨t, x1, rfl, ht, rfl, f1⟩ := y
    exact hs i x1 t H (f1 xs q) p ht
  · have e : i = xs.length := by omega
    subst e
    exact .inl ⟨⟨xs, q, Nat.le_refl _⟩, hd H p⟩
end NL

namespace NL
open PySem PySem.Spec PyProof.Rows L2
/-- the mark at an index, from before or from behind -/
def mkAt (bs : List Bool) (i : Int) : Bool := (atI bs i).getD false
section
variable {prog : Program} {w : World} {A : Around} {env : Env} {s : Shared}
theorem low_ix {E : Value → Shared → Prop} {m : Addr} {ms : List Value} {bs : List Bool} {mm : Str → Option Value} {i : Int} {t : Tok} {p1 p2 p3 : Pos} {Q : Value → Shared → Prop}
    (hk : env.scope.kind = .function) (hm : env.kindOf "marks" = some .local) (ha : env.kindOf "after" = some .local)
    (hn : s.heap.Ns env.locals mm) (h2 : mm "marks" = some (.ref m)) (h3 : mm "after" = some (.int i t))
    (hl : s.heap.IsList m ms.toArray) (hb : Vals (bs.map V.bl) ms) (hz : ms.length ≤ sizeLine) (hin : (atI bs i).isSome = true)
    (h : Q (.bool (mkAt bs i)) s) :
    wpAny (model prog w) A (eval (.Subscript (.Name "marks" p1) (.Name "after" p2) p3) env) Q E s := by
  refine Subscript_ ?_
  refine wpAny_Name (wpAny_loadName_local hk hm hn h2 ?_)
  refine wpAny_Name (wpAny_loadName_local hk ha hn h3 ?_)
  obtain ⟨b, eb⟩ := Option.isSome_iff_exists.mp hin
  have hbm : mkAt bs i = b := by unfold mkAt; rw [eb]; rfl
  rw [hbm] at h
  obtain ⟨j, q1, q2, q3, q4, q5⟩ := atI_get eb
  have hl2 := hb.length
  rw [List.length_map] at hl2
  obtain ⟨u, eu, ru⟩ := hb.get (i := j) (x := V.bl b) (by rw [List.getElem?_map, q2]; rfl)
  have e : u = .bool b := ru
  subst e
  have hn63 := line63
  by_cases h0 : 0 ≤ i
  · have hj : i.toNat = j := by
      rw [seqIndex_of h0 q5] at q1
      exact Option.some.inj q1
    exact item_listR hl h0 (by omega) (by rw [hj]; simpa using eu) h
  · have hj : (i + (ms.toArray.size : Int)).toNat = j := by
      rw [seqIndex_neg (by omega) q4] at q1
      rw [List.size_toArray, ← hl2]
      exact Option.some.inj q1
    exact subscriptTail_builtinR (x := .bool b) hl.typeIs slot_list_getitem.lookup
      (wpAny_getItem_list_neg (Q := fun r s' => r = .bool b ∧ Q r s') hl (by omega) (by rw [List.size_toArray] <;> omega) (by omega) (by rw [hj]; simpa using eu) ⟨rfl, h⟩)

theorem low_bool {E : Value → Shared → Prop} {c : Bool} {k : Nat} {p : Pos} {Q : Value → Shared → Prop} (h : Q (.bool c) s) : wpAny (model prog w) A (eval (.Constant (.bool c) k p) env) Q E s := fun _ _ _ => h
/-- for after in option: if (not) marks[after]: return r1 .. return r2 -/
theorem low_body {o m : Addr} {its ms : List Value} {is : List Int} {bs : List Bool} {mm : Str → Option Value} {test : Expr} {fl r1 r2 : Bool} {k1 k2 : Nat} {p1 p2 q1 q2 q3 q4 q5 q6 q7 q8 q9 : Pos}
    (hh : A.handled = none) (hk : env.scope.kind = .function) (ho : env.kindOf "option" = some .local) (hm : env.kindOf "marks" = some .local) (ha : env.kindOf "after" = some .local)
    (hn : s.heap.Ns env.locals mm) (h1 : mm "option" = some (.ref o)) (h2 : mm "marks" = some (.ref m)) (ht : s.heap.IsTuple o its.toArray) (hl : s.heap.IsList m ms.toArray)
    (hi : Vals (is.map V.int) its) (hb : Vals (bs.map V.bl) ms) (hz : ms.length ≤ sizeLine) (hin : ∀ i ∈ is, (atI bs i).isSome = true)
    (htest : ∀ (s' : Shared) (E' : Value → Shared → Prop) (Q : Bool → Shared → Prop) (b : Bool), wpAny (model prog w) A (eval (.Subscript (.Name "marks" q1) (.Name "after" q2) q3) env) (fun v s₁ => v = .bool b ∧ s₁ = s') E' s' → Q (fl ^^ b) s' → wpAny (model prog w) A (isTrue test env (eval test env)) Q E' s') :
    wpAny (model prog w) A (execs [.For (.Name "after" p1) (.Name "option" p2) [.If test [.Return (some (.Constant (.bool r1) k1 q4)) q5] [] q6] [] q7, .Return (some (.Constant (.bool r2) k2 q8)) q9] env)
      (fun f s' => f = .ret (.bool (if is.any (fun i => fl ^^ mkAt bs i) then r1 else r2)) ∧ ∃ h' tk, s' = { s with heap := h', toks := tk } ∧ ∀ b o, b ≠ env.locals → s.heap.get? b = some o → h'.get? b = some o) (fun _ _ => False) s := by
  have hp : (env.scope.kind == .class || (env.scope.kind == .module && env.locals != env.globals)) = false := by rw [hk]; rfl
  have hL : env.locals < s.heap.objs.size := hn.lt
  have hto : o < s.heap.objs.size := by obtain ⟨_, e, _⟩ := ht; exact Heap.lt_size e
  have hno : env.locals ≠ o := fun e => by
    obtain ⟨ob, es, ep, e1, e2, _⟩ := hn
    obtain ⟨ob2, f1, f2, n, f3⟩ := ht
    rw [e, f1] at e1
    cases e1
    rw [f3] at e2
    cases e2
  have hnm : env.locals ≠ m := fun e => by
    obtain ⟨ob, es, ep, e1, e2, _⟩ := hn
    obtain ⟨ob2, f1, f2, n, f3⟩ := hl
    rw [e, f1] at e1
    cases e1
    rw [f3] at e2
    cases e2
  have hml : m < s.heap.objs.size := by obtain ⟨_, e, _⟩ := hl; exact Heap.lt_size e
  have hlen : its.length = is.length := by have := hi.length; rw [List.length_map] at this; exact this.symm
  refine wpAny_execs_cons (exec_For_goes ?_)
  refine wpAny_Name (wpAny_loadName_local hk ho hn h1 ?_)
  refine wpAny_pyIter_tuple ht ?_
  refine ⟨_, _, _, _, _, _, fun i s₁ => (is.take i).any (fun i => fl ^^ mkAt bs i) = false ∧ ∃ h₁ tk m₁, s₁ = { s with heap := h₁, toks := tk } ∧ h₁.Ns env.locals m₁ ∧ m₁ "marks" = some (.ref m) ∧ ∀ b ob, b ≠ env.locals → s.heap.get? b = some ob → h₁.get? b = some ob, rfl,
    Goes.tuple hh s.heap.objs.size o (Nat.ne_of_lt hto) its.toArray, ⟨⟨_, Heap.get?_push_size _ rfl, rfl, rfl⟩, ?_⟩, ⟨by rw [List.take_zero]; rfl, _, _, mm, rfl, hn.at' fun ob e => Heap.get?_push_of_some _ e, h2, fun b ob _ e => Heap.get?_push_of_some _ e⟩, ?_, ?_, ?_⟩
  · obtain ⟨ob, e, r⟩ := ht
    exact ⟨ob, Heap.get?_push_of_some _ e, r⟩
  · rintro i s₁ h' tk ⟨ha1, h₁, tk₁, m₁, rfl, n₁, t₁, k₁⟩ hk' _
    refine ⟨ha1, h', tk, m₁, rfl, n₁.at' fun ob e => hk' _ ob (by simp; exact Nat.ne_of_lt hL) e, t₁, fun b ob hb e => hk' b ob ?_ (k₁ b ob hb e)⟩
    have hlt := Heap.lt_size e
    simp
    exact Nat.ne_of_lt hlt
  · rintro i v s₁ hi' hv st ⟨ha1, h₁, tk₁, m₁, rfl, n₁, t₁, k₁⟩
    have hv' : its[i]? = some v := by simpa using hv
    obtain ⟨x, hx⟩ : ∃ x, is[i]? = some x := ⟨_, List.getElem?_eq_getElem (by rw [← hlen]; simpa using hi')⟩
    obtain ⟨u, eu, t, rfl⟩ := hi.get (i := i) (x := V.int x) (by rw [List.getElem?_map, hx]; rfl)
    rw [hv'] at eu
    cases eu
    refine wpAny_assign_Name (wpAny_storeName_local ha n₁ (fun h₂ n₂ s₂ => ?_) hp)
    have k₂ : ∀ b ob, b ≠ env.locals → s.heap.get? b = some ob → h₂.get? b = some ob := fun b ob hb e => s₂.extBut b ob hb (k₁ b ob hb e)
    have hl₂ : h₂.IsList m ms.toArray := by
      obtain ⟨ob, e, r⟩ := hl
      exact ⟨ob, k₂ m ob hnm.symm e, r⟩
    have hbx := hin x (List.mem_of_getElem? hx)
    refine wpAny_execs_cons (wpAny_If (htest _ _ _ (mkAt bs x) (low_ix hk hm ha n₂ ((if_neg (by decide)).trans t₁) (if_pos rfl) hl₂ hb hz hbx ⟨rfl, rfl⟩) ?_))
    have hnext : (is.take (i + 1)).any (fun i => fl ^^ mkAt bs i) = (fl ^^ mkAt bs x) := by
      rw [List.take_add_one, hx, List.any_append, ha1]
      simp
    cases hc : (fl ^^ mkAt bs x) with
    | true =>
      refine wpAny_execs_cons (wpAny_Return_some ?_)
      refine low_bool ?_
      have hany : is.any (fun i => fl ^^ mkAt bs i) = true := List.any_eq_true.mpr ⟨x, List.mem_of_getElem? hx, hc⟩
      refine ⟨by rw [hany]; rfl, h₂, _, rfl, k₂⟩
    | false =>
      refine wpAny_execs_nil (wpAny_execs_nil ⟨⟨by rw [hnext, hc], h₂, _, _, rfl, n₂, (if_neg (by decide)).trans t₁, k₂⟩, ?_⟩)
      exact ⟨st.1.at fun ob e => s₂.extBut _ _ (Nat.ne_of_gt hL) e, st.2.at fun ob e => s₂.extBut _ _ hno.symm e⟩
  · rintro s₁ ⟨ha1, h₁, tk₁, m₁, rfl, n₁, t₁, k₁⟩
    refine wpAny_execs_nil (wpAny_execs_cons (wpAny_Return_some ?_))
    refine low_bool ?_
    rw [show its.toArray.size = is.length by rw [List.size_toArray, hlen], List.take_length] at ha1
    refine ⟨by rw [ha1]; rfl, h₁, _, rfl, k₁⟩
end
end NL

namespace NL
open PySem PySem.Spec PyProof.Rows L2
/-- the test of such a def: not marks[after], or marks[after] -/
def MarkTest (fl : Bool) (q1 q2 q3 : Pos) (test : Expr) : Prop :=
  (fl = true ∧ ∃ q, test = .UnaryOp .Not (.Subscript (.Name "marks" q1) (.Name "after" q2) q3) q) ∨ (fl = false ∧ test = .Subscript (.Name "marks" q1) (.Name "after" q2) q3)
/-- a def of this form -/
structure MarkFn (K : PySem.W.Frag) (nm : Str) (st : Stmt) (f : Addr) (fd : FuncData) (fl r1 r2 : Bool) : Prop where
  F : L2.Fun K nm nm st f fd
  bd : Binds K fd ["option", "marks"] []
  body : ∃ (test : Expr) (k1 k2 : Nat) (p1 p2 q1 q2 q3 q4 q5 q6 q7 q8 q9 : Pos), MarkTest fl q1 q2 q3 test ∧ defBody st = [.For (.Name "after" p1) (.Name "option" p2) [.If test [.Return (some (.Constant (.bool r1) k1 q4)) q5] [] q6] [] q7, .Return (some (.Constant (.bool r2) k2 q8)) q9]
  kind : (defScope st).kind = .function
  co : (defScope st).isCoroutine = false
  gen : (defScope st).isGenerator = false
  cell : ∀ y ∈ (defScope st).names, y.2 ≠ .cell
  lo : (defScope st).names.lookup ("option" : Str) = some .local
  lm : (defScope st).names.lookup ("marks" : Str) = some .local
  la : (defScope st).names.lookup ("after" : Str) = some .local
section
variable {prog : Program} {w : World} {A : Around} {s : Shared}
theorem mark_test {env : Env} {fl : Bool} {q1 q2 q3 : Pos} {test : Expr} (h : MarkTest fl q1 q2 q3 test) (s' : Shared) (E' : Value → Shared → Prop) (Q : Bool → Shared → Prop) (b : Bool)
    (he : wpAny (model prog w) A (eval (.Subscript (.Name "marks" q1) (.Name "after" q2) q3) env) (fun v s₁ => v = .bool b ∧ s₁ = s') E' s') (hq : Q (fl ^^ b) s') : wpAny (model prog w) A (isTrue test env (eval test env)) Q E' s' := by
  have base : ∀ Q' : Bool → Shared → Prop, Q' b s' → wpAny (model prog w) A (isTrue (.Subscript (.Name "marks" q1) (.Name "after" q2) q3) env (eval (.Subscript (.Name "marks" q1) (.Name "after" q2) q3) env)) Q' E' s' := fun Q' h' =>
    isTrue_plain (wpAny_mono he (fun v s₁ r => by
      obtain ⟨rfl, rfl⟩ := r
      exact wpAny_truthy_bool h') fun _ _ x => x)
  rcases h with ⟨rfl, q, rfl⟩ | ⟨rfl, rfl⟩
  · exact isTrue_not (base _ (by rw [Bool.true_xor] at hq; exact hq))
  · exact base _ (by rw [Bool.false_xor] at hq; exact hq)
theorem low_call {E : Value → Shared → Prop} {K : PySem.W.Frag} {nm : Str} {st : Stmt} {f : Addr} {fd : FuncData} {fl r1 r2 : Bool} (M : MarkFn K nm st f fd fl r1 r2) (hK : K.In s.heap) (hlim : s.heap.NoLimit) (hh : A.handled = none) (hd : A.depth < recursionLimit)
    {o m : Addr} {its ms : List Value} {is : List Int} {bs : List Bool} (ht : s.heap.IsTuple o its.toArray) (hl : s.heap.IsList m ms.toArray)
    (hi : Vals (is.map V.int) its) (hb : Vals (bs.map V.bl) ms) (hz : ms.length ≤ sizeLine) (hin : ∀ i ∈ is, (atI bs i).isSome = true) :
    wpAny (model prog w) A (call (.ref f) [.ref o, .ref m]) (fun y s₃ => y = .bool (if is.any (fun i => fl ^^ mkAt bs i) then r1 else r2) ∧ Keeps s s₃) E s := by
  obtain ⟨⟨⟨oc, od, kV, doc, pm, an, cdv, ct, osl, rfl, lk, hcd⟩, kp⟩, bd, ⟨test, k1, k2, p1, p2, q1, q2, q3, q4, q5, q6, q7, q8, q9, hT, hbody⟩, kind, co, gen, cell, lo, lm, la⟩ := M
  refine wpAny_call (codeAny_call_function hd (hK _ _ lk) rfl co gen rfl (PySem.W.codeRec_of hK hcd) (bd s [.ref o, .ref m] hK rfl _ _ _ _ ?_))
  refine wpAny_newFunctionEnv cell (fun y hy => ?_) (fun h₁ hns hsb => ⟨?_, ?_⟩) kind
  · rcases List.mem_cons.mp hy with rfl | hy
    · exact lo
    · rcases List.mem_cons.mp hy with rfl | hy
      · exact lm
      · cases hy
  · exact hlim.fresh _ hsb
  have kk : ∀ b ob, s.heap.get? b = some ob → h₁.get? b = some ob := fun b ob e => hsb.extBut b ob (Nat.ne_of_lt (Heap.lt_size e)) (Heap.get?_push_of_some _ e)
  refine codeAny_func ?_
  have hb2 : (PySem.W.fnOf nm nm (defArgs st) (defBody st) (defScope st) .none kV doc pm an cdv ct).body = .stmts (defBody st) := rfl
  rw [hbody]
  refine wpAny_mono (low_body (o := o) (m := m) (is := is) (bs := bs) (mm := fun x => ((["option", "marks"] : List Str).zip [Value.ref o, Value.ref m]).reverse.lookup x) hh kind lo lm la hns rfl rfl
    (by obtain ⟨ob, e, r⟩ := ht; exact ⟨ob, kk _ _ e, r⟩) (by obtain ⟨ob, e, r⟩ := hl; exact ⟨ob, kk _ _ e, r⟩) hi hb hz hin (fun s' E' Q b => mark_test hT s' E' Q b)) (fun fl' s' r => ?_) fun _ _ x => x.elim
  obtain ⟨rfl, h', tk, rfl, k'⟩ := r
  exact ⟨rfl, h', tk, rfl, fun b ob e => k' b ob (Nat.ne_of_lt (Heap.lt_size e)) (kk b ob e)⟩
end
end NL

set_option maxHeartbeats 2000000
namespace NL
open PySem PySem.Spec PyProof.Rows L2
/-- the element of a generator expression over the item u gives b, and changes nothing that stood -/
def ElV (X : Cx) (P : Addr) (scope : Scope) (nm : Str) (elt : Expr) (σ : L2.St) (H1 : Hp) (x : V) (b : Bool) : Prop :=
  ∀ (pins : List (Addr × Obj)) (s1 : Shared) (u : Value), Inv X pins σ H1 s1 → RelV x u →
    ∀ (cenv : Env) (A' : Around) (E' : Value → Shared → Prop) (s₂ : Shared) (m₂ : Str → Option Value), cenv.scope = scope → cenv.cells = cloFrom X.env.cells scope.names [] → cenv.globals = X.env.globals →
      A'.handled = none → A'.depth ≤ X.A.depth + 1 → A'.units ≤ X.A.units + 8 → s₂.heap.Ns cenv.locals m₂ → m₂ nm = some u → (∀ c o, c ≠ P → s1.heap.get? c = some o → s₂.heap.get? c = some o) →
      wpAny (model X.prog X.w) A' (eval elt cenv) (fun y s₃ => y = .bool b ∧ Keeps s₂ s₃) E' s₂
def bAt (bs : List Bool) (j : Nat) : Bool := (bs[j]?).getD false
theorem any_bAt (bs : List Bool) : (List.range bs.length).any (bAt bs) = bs.any id := by
  rw [Bool.eq_iff_iff, List.any_eq_true, List.any_eq_true]
  constructor
  · rintro ⟨j, hj, h⟩
    have hj' := List.mem_range.mp hj
    refine ⟨bs[j], List.getElem_mem hj', ?_⟩
    unfold bAt at h
    rw [List.getElem?_eq_getElem hj'] at h
    exact h
  · rintro ⟨b, hb, h⟩
    obtain ⟨j, hj, rfl⟩ := List.getElem_of_mem hb
    refine ⟨j, List.mem_range.mpr hj, ?_⟩
    unfold bAt
    rw [List.getElem?_eq_getElem hj]
    exact h
theorem all_bAt (bs : List Bool) : (List.range bs.length).all (bAt bs) = bs.all id := by
  rw [Bool.eq_iff_iff, List.all_eq_true, List.all_eq_true]
  constructor
  · intro h b hb
    obtain ⟨j, hj, rfl⟩ := List.getElem_of_mem hb
    have q := h j (List.mem_range.mpr hj)
    unfold bAt at q
    rw [List.getElem?_eq_getElem hj] at q
    exact q
  · intro h j hj
    have hj' := List.mem_range.mp hj
    unfold bAt
    rw [List.getElem?_eq_getElem hj']
    exact h _ (List.getElem_mem hj')
section
variable {X : Cx} {pins : List (Addr × Obj)} {σ : L2.St} {H : Hp} {s : Shared}
/-- the generator at g gives the truths bs, one after the other -/
def Gives (X : Cx) (pins : List (Addr × Obj)) (σ : L2.St) (H1 : Hp) (P : Addr) (bs : List Bool) (g : Addr) (s5 : Shared) : Prop :=
  ∃ (fp wr : List Addr) (G : Array GenState → Array GenState → Prop) (F : Nat → Value → Prop) (St : Nat → Shared → Prop), WalksS X.prog X.w X.A.in1 g fp wr G bs.length F St ∧ St 0 s5 ∧ TruthOf X.prog X.w X.A.in1 F (bAt bs) ∧
    ∀ s', Moved wr G s5 s' → ∃ H2, GxR.Tabbed P H1 H2 ∧ Inv X pins σ H2 s'
theorem gen_tup {c P : Addr} {elt iter : Expr} {nm : Str} {px gpos : Pos} {scope : Scope} {te : TE} {k : Nat} {Q' : Value → Shared → Prop} {R : List Bool → Hp → Prop}
    (hr : Room k X.A) (TB : GxR.TabB X.base X.mg c P) (hcode : X.env.code = .ref c) (S : GxR.GenS X.env scope nm) (hi : PE X iter te)
    (hs : ∀ v, genFold iter X.env v = pure v) (I : Inv X pins σ H s)
    (h : te σ H fun v H1 => ∃ (a : Addr) (xs : List V) (bs : List Bool), v = .ref a ∧ SqT X.K H1 a xs ∧ bs.length = xs.length ∧ GxR.TabG H1 P ∧ (∀ (i : Nat) x b, xs[i]? = some x → bs[i]? = some b → ElV X P scope nm elt σ H1 x b) ∧ R bs H1)
    (hQ : ∀ bs H1 g s5, R bs H1 → Gives X pins σ H1 P bs g s5 → Q' (.ref g) s5) :
    wpAny (model X.prog X.w) X.A (eval (.GeneratorExp elt [⟨.Name nm px, iter, [], 0⟩] scope gpos) X.env) Q' X.xe s := by
  refine wpAny_GeneratorExp_walksQD hr.hd S.co (closure_ok S.free) S.cell S.dot S.loc S.kind hr.depth ?_ hs
  refine thn (hi.run pins s σ H _ I h) fun xv s1 ⟨v, H1, I1, r1, q1⟩ => ?_
  obtain ⟨a, xs, bs, rfl, hT, hbl, ⟨ps, hP, ht⟩, hE, hR⟩ := q1
  obtain rfl : xv = Value.ref a := r1
  obtain ⟨its, rv, pl, hz⟩ := I1.tuple hT
  have plT : s1.heap.IsTuple a its.toArray := pl
  have hPs : s1.heap.get? P = some { cls := .none, data := .fields ps } := I1.hok P _ hP
  have hPlt : P < s1.heap.objs.size := Heap.lt_size hPs
  have halt : a < s1.heap.objs.size := by
    obtain ⟨_, e, _⟩ := pl
    exact Heap.lt_size e
  have haP : a ≠ P := fun e => by
    obtain ⟨ob, e1, e2, _⟩ := pl
    rw [e, hPs] at e1
    cases e1
    cases e2
  have hil : its.length = bs.length := by rw [hbl]; exact rv.length.symm
  refine wpAny_pyIter_tuple plT ?_
  generalize ho : ({ cls := Value.type "tuple_iterator", data := Data.fields #[Value.ref a, Value.int 0 0] } : Obj) = ob
  have hP2 : (s1.heap.push ob).get? P = some { cls := .none, data := .fields ps } := Heap.get?_push_of_some _ hPs
  have cd : PySem.W.CodeHd (s1.heap.push ob) c P := TB.code.keeps fun b u e => Heap.get?_push_of_some _ (I1.bk b u e)
  have lim2 : (s1.heap.push ob).NoLimit := I1.nolimit.push ob
  have hst0 : (s1.heap.push ob).IsTupleIter s1.heap.objs.size a 0 ∧ (s1.heap.push ob).IsTuple a its.toArray := by
    refine ⟨⟨ob, Heap.get?_push_size _ (by rw [← ho] <;> rfl), ?_, ?_⟩, ?_⟩
    · rw [← ho]
    · rw [← ho] <;> rfl
    · obtain ⟨o2, e, r⟩ := pl
      exact ⟨o2, Heap.get?_push_of_some _ e, r⟩
  have cont : ∀ (code : Value) (h3 : Heap) (tk : Nat) (ps' : Array Value), Heap.ExtBut P (s1.heap.push ob) h3 → (s1.heap.push ob).objs.size ≤ h3.objs.size → h3.get? P = some { cls := .none, data := .fields ps' } → (∃ more, ps' = ps ++ more) → TriplesOk ps'.toList →
      wpAny (model X.prog X.w) X.A (builtinsFor X.env.globals X.env.builtins) (fun bi s₄ =>
        ∃ Ia fp wr n₀ Pf St₀ pz F, Value.ref s1.heap.objs.size = .ref Ia ∧ (∀ A' : Around, A'.handled = none → Walks X.prog X.w A' Ia fp wr n₀ Pf St₀) ∧ St₀ 0 s₄.heap ∧ (∀ b ∈ fp, b < s₄.heap.objs.size) ∧ s₄.heap.NoLimit ∧ cStatics ∉ wr ∧
          (∀ href : Heap, (∀ b o, s₄.heap.get? b = some o → href.get? b = some o) →
            QuietGenD X.prog X.w (genEnv scope (cloFrom X.env.cells scope.names []) s₄.heap.objs.size code bi X.env) nm [] elt (List.range s₄.heap.objs.size) wr Pf pz F href (X.A.depth + 1) (X.A.units + 8)) ∧
          (∀ a h₅ tk gs, gs.bare = true → s₄.heap.objs.size < a → h₅.objs.size = a + 1 → (∀ b o, s₄.heap.get? b = some o → h₅.get? b = some o) →
            WalksS X.prog X.w X.A.in4 a (a :: s₄.heap.objs.size :: List.range s₄.heap.objs.size) (s₄.heap.objs.size :: wr) (GenOnlyQ s₄.gens.size) (passing pz n₀ 0).length
              (fun j y => ∃ i, (passing pz n₀ 0)[j]? = some i ∧ F i y) (GenAt X.prog X.w X.A.in4 a s₄.gens.size s₄.heap.objs.size (List.range s₄.heap.objs.size) wr pz n₀ F) →
            GenAt X.prog X.w X.A.in4 a s₄.gens.size s₄.heap.objs.size (List.range s₄.heap.objs.size) wr pz n₀ F 0 { s₄ with gens := s₄.gens.push gs, toks := tk, heap := h₅ } →
            Q' (.ref a) { s₄ with gens := s₄.gens.push gs, toks := tk, heap := h₅ })) X.xe { s1 with heap := h3, toks := tk } := by
    intro code h3 tk ps' hx hsz hP3 hmore ht3
    obtain ⟨bm, obm, e1, e2, e3, e4, e5, e6, e7, e8⟩ := TB.bm
    have hcP : cStatics ≠ P := fun e => by
      obtain ⟨_, hns, _⟩ := I1.nolimit
      obtain ⟨o', es, ep, ho', hd, _⟩ := hns
      rw [e, hPs] at ho'
      cases ho'
      cases hd
    have hcl : cStatics < s1.heap.objs.size := let ⟨_, hns, _⟩ := I1.nolimit; hns.lt
    have sz2 : (s1.heap.push ob).objs.size = s1.heap.objs.size + 1 := Heap.size_push ..
    have keep3 : ∀ b u, b ≠ P → s1.heap.get? b = some u → h3.get? b = some u := fun b u hb e => hx b u hb (Heap.get?_push_of_some _ e)
    have h0lt : s1.heap.objs.size < h3.objs.size := Nat.lt_of_lt_of_le (Nat.lt_succ_self _) (by rw [sz2] at hsz; exact hsz)
    have hIP : s1.heap.objs.size ≠ P := Nat.ne_of_gt hPlt
    refine wpAny_builtinsFor (m := X.mg) (by rw [I1.ok.glob]; exact ((I1.mod.glob.keeps I1.bk).push ob).extBut hx TB.gP) e1 e2 (keep3 _ _ e4 (I1.bk _ _ e5)) e6 e7 e8 ?_
    refine ⟨s1.heap.objs.size, [s1.heap.objs.size, a], [s1.heap.objs.size], its.toArray.size, (fun i v => its.toArray[i]? = some v), (fun i h => h.IsTupleIter s1.heap.objs.size a i ∧ h.IsTuple a its.toArray), (fun _ => true), (fun i y => ∃ b, bs[i]? = some b ∧ y = .bool b), rfl,
      (fun A' hA => Walks.tuple hA s1.heap.objs.size a (Nat.ne_of_lt halt) its.toArray), ?_, ?_, lim2.extBut hx hcP, ?_, ?_, ?_⟩
    · refine ⟨?_, ?_⟩
      · obtain ⟨o2, f1, f2⟩ := hst0.1
        exact ⟨o2, hx _ _ hIP f1, f2⟩
      · obtain ⟨o2, f1, f2⟩ := hst0.2
        exact ⟨o2, hx _ _ haP f1, f2⟩
    · intro b hb
      show b < h3.objs.size
      rcases List.mem_cons.mp hb with z | z
      · rw [z]
        exact h0lt
      · rw [List.mem_singleton.mp z]
        exact Nat.lt_trans halt h0lt
    · intro z
      exact Nat.ne_of_lt hcl (List.mem_singleton.mp z)
    · intro href hhref
      refine ⟨fun A' E' i v s₂ m₂ hA hD hU hPv hn hm hk => ?_, fun A' E' i v s₂ m₂ hA hD hU hPv hp hn hm hk => ?_⟩
      · simp only [List.forIn_nil]
        exact wpAny_pure ⟨rfl, GxR.keeps_refl _⟩
      · have hv : its[i]? = some v := by simpa using hPv
        have hib : i < bs.length := by rw [← hil]; exact (List.getElem?_eq_some_iff.mp hv).1
        have hix : i < xs.length := by rw [← hbl]; exact hib
        obtain ⟨u, eu, ru⟩ := rv.get (List.getElem?_eq_getElem hix)
        rw [hv] at eu
        cases eu
        have hb2 := List.getElem?_eq_getElem hib
        refine wpAny_mono (hE i _ _ (List.getElem?_eq_getElem hix) hb2 pins s1 v I1 ru _ A' E' s₂ m₂ rfl rfl rfl hA hD hU hn hm fun b o hb e => ?_) (fun y s3 r => ⟨⟨_, hb2, r.1⟩, r.2⟩) fun _ _ e => e
        have e3 := keep3 b o hb e
        exact hk b (List.mem_range.mpr (Heap.lt_size e3)) (fun z => by
          have hlt := Heap.lt_size e
          rw [List.mem_singleton.mp z] at hlt
          exact Nat.lt_irrefl _ hlt) o (hhref b o e3)
    · intro g h5 tk5 gs hgb hag hsz5 hk5 W5 hat
      simp only [GxR.passing_true, List.length_range, List.size_toArray, hil] at W5
      have hat2 := hat
      simp only [List.size_toArray, hil] at hat2
      refine hQ bs H1 g _ hR ⟨_, _, _, _, _, W5.in4_1, hat2, ?_, fun s' hm => ?_⟩
      · intro j y sj Qj Ej hy hQj
        obtain ⟨i, hij, b, hb, rfl⟩ := hy
        obtain ⟨hj, ej⟩ := List.getElem?_eq_some_iff.mp hij
        rw [List.getElem_range] at ej
        subst ej
        have hQ2 : Qj (bAt bs j) sj := hQj
        unfold bAt at hQ2
        rw [hb] at hQ2
        exact wpAny_truthy_bool hQ2
      · obtain ⟨more, em⟩ := hmore
        have nwr : ∀ b u, s1.heap.get? b = some u → b ∉ h3.objs.size :: [s1.heap.objs.size] := fun b u e hb => by
          have hl := Heap.lt_size e
          rcases List.mem_cons.mp hb with z | z
          · rw [z] at hl
            have h9 : (h3.objs.size : Nat) < s1.heap.objs.size := hl
            omega
          · rw [List.mem_singleton.mp z] at hl
            exact Nat.lt_irrefl _ hl
        have J := GxR.inv_tab (more := more) (h' := s'.heap) (g' := s'.gens) (d' := s'.drawn) (t' := s'.toks) I1 hP (fun b u hb e => hm.heap b u (nwr b u e) (hk5 b u (keep3 b u hb e)))
          (by rw [← em]; exact hm.heap P _ (nwr P _ hPs) (hk5 P _ hP3)) (AllBare.movedS (I1.bare.push hgb) hm)
        rw [GxR.sh_eta s1 s' hm.os] at J
        exact ⟨upd H1 P (.tbl (ps ++ more)), ⟨⟨ps ++ more, upd_same, by rw [← em]; exact ht3⟩, fun b hb => upd_ne hb⟩, J⟩
  refine ⟨lim2, ?_⟩
  cases hf : codeAmong gpos ps.toList with
  | none =>
    refine wpAny_genexprCodeX hcode (cd.code hP2 ht) (cd.tab hP2) hf fun c' h' tk hx hge hlt hco' _ htab' _ => ?_
    obtain ⟨o1, vs, f1, tf, fl, tg, inF, tx, tt, op, _, _, _, _, _, _, _, _, _, htr, _⟩ := hco'
    exact cont _ h' tk _ hx (Nat.le_trans hge (Nat.le_of_lt hlt)) htab'.2 ⟨_, rfl⟩ htr
  | some cv =>
    refine wpAny_genexprCode_hit hcode (cd.code hP2 ht) hf ?_
    exact cont cv (s1.heap.push ob) s1.toks ps (Heap.ExtBut.refl _ _) (Nat.le_refl _) hP2 ⟨#[], by simp⟩ ht
/-- any(test for nm in e), all(test for nm in e), e a tuple -/
def tGenM (X : Cx) (P : Addr) (scope : Scope) (nm : Str) (elt : Expr) (f : List Bool → Bool) (te : TE) : TE := fun σ H Q => te σ H fun v H1 => ∃ (a : Addr) (xs : List V) (bs : List Bool), v = .ref a ∧ SqT X.K H1 a xs ∧ bs.length = xs.length ∧ GxR.TabG H1 P ∧
  (∀ (i : Nat) x b, xs[i]? = some x → bs[i]? = some b → ElV X P scope nm elt σ H1 x b) ∧ ∀ H2, GxR.Tabbed P H1 H2 → Q (.bl (f bs)) H2
theorem pe_anyM {c P : Addr} {elt iter : Expr} {nm : Str} {px p pos gpos : Pos} {scope : Scope} {te : TE} {k : Nat}
    (hr : Room k X.A) (hg : Gl X "any") (hm : X.mg "any" = none) (TB : GxR.TabB X.base X.mg c P) (hcode : X.env.code = .ref c) (S : GxR.GenS X.env scope nm) (hi : PE X iter te)
    (hs : ∀ v, genFold iter X.env v = pure v)
    (he : starEach [.GeneratorExp elt [⟨.Name nm px, iter, [], 0⟩] scope gpos] X.env = (false, eval (.GeneratorExp elt [⟨.Name nm px, iter, [], 0⟩] scope gpos) X.env) :: starEach [] X.env := by rfl) :
    PE X (.Call (.Name "any" p) [.GeneratorExp elt [⟨.Name nm px, iter, [], 0⟩] scope gpos] [] pos) (tGenM X P scope nm elt (·.any id) te) := by
  refine ⟨fun pins s σ H Q I h => ?_⟩
  refine wpAny_Call_Name_kw (ld_blt I hg hm boot_any ?_)
  refine PyProof.Rows.callWith_builtin1 ?_ he (by rfl)
  rw [he]
  show wpAny _ _ (spliced ((false, eval (.GeneratorExp elt [⟨.Name nm px, iter, [], 0⟩] scope gpos) X.env) :: backTo pos (starEach [] X.env))) _ _ s
  refine Calls.spliced_cons (gen_tup (R := fun bs H1 => ∀ H2, GxR.Tabbed P H1 H2 → Q (.bl (bs.any id)) H2) hr TB hcode S hi hs I h fun bs H1 g s5 hR hG => ?_)
  obtain ⟨fp, wr, G, F, St, W, hst, htr, hI⟩ := hG
  refine Calls.spliced_nil (call_any_walkS (W.self 0 _ _ _ hst ⟨g, fp, wr, G, _, F, St, _, rfl, W, hst, htr, fun s' hmv => ?_⟩))
  obtain ⟨H2, hT, J⟩ := hI s' hmv
  refine ⟨.bl _, H2, J, rfl, ?_⟩
  rw [any_bAt]
  exact hR H2 hT
theorem pe_allM {c P : Addr} {elt iter : Expr} {nm : Str} {px p pos gpos : Pos} {scope : Scope} {te : TE} {k : Nat}
    (hr : Room k X.A) (hg : Gl X "all") (hm : X.mg "all" = none) (hb : bootBuiltins "all" = some (.builtin "all")) (TB : GxR.TabB X.base X.mg c P) (hcode : X.env.code = .ref c) (S : GxR.GenS X.env scope nm) (hi : PE X iter te)
    (hs : ∀ v, genFold iter X.env v = pure v)
    (he : starEach [.GeneratorExp elt [⟨.Name nm px, iter, [], 0⟩] scope gpos] X.env = (false, eval (.GeneratorExp elt [⟨.Name nm px, iter, [], 0⟩] scope gpos) X.env) :: starEach [] X.env := by rfl) :
    PE X (.Call (.Name "all" p) [.GeneratorExp elt [⟨.Name nm px, iter, [], 0⟩] scope gpos] [] pos) (tGenM X P scope nm elt (·.all id) te) := by
  refine ⟨fun pins s σ H Q I h => ?_⟩
  refine wpAny_Call_Name_kw (ld_blt I hg hm hb ?_)
  refine PyProof.Rows.callWith_builtin1 ?_ he (by rfl)
  rw [he]
  show wpAny _ _ (spliced ((false, eval (.GeneratorExp elt [⟨.Name nm px, iter, [], 0⟩] scope gpos) X.env) :: backTo pos (starEach [] X.env))) _ _ s
  refine Calls.spliced_cons (gen_tup (R := fun bs H1 => ∀ H2, GxR.Tabbed P H1 H2 → Q (.bl (bs.all id)) H2) hr TB hcode S hi hs I h fun bs H1 g s5 hR hG => ?_)
  obtain ⟨fp, wr, G, F, St, W, hst, htr, hI⟩ := hG
  refine Calls.spliced_nil (call_all_walkS (W.self 0 _ _ _ hst ⟨g, fp, wr, G, _, F, St, _, rfl, W, hst, htr, fun s' hmv => ?_⟩))
  obtain ⟨H2, hT, J⟩ := hI s' hmv
  refine ⟨.bl _, H2, J, rfl, ?_⟩
  rw [all_bAt]
  exact hR H2 hT
end
end NL

set_option maxHeartbeats 2000000
namespace NL
open PySem PySem.Spec PyProof.Rows L2
theorem elv_mark {X : Cx} {P : Addr} {scope : Scope} {fnm : Str} {st : Stmt} {f : Addr} {fd : FuncData} {fl r1 r2 : Bool} {p p1 p2 pos : Pos} {σ : L2.St} {H1 : Hp} {k i : Nat} {m o : Addr} {is : List Int} {bs : List Bool}
    (M : MarkFn X.K fnm st f fd fl r1 r2) (hmg : X.mg fnm = some (.ref f)) (hr : Room k X.A) (hsk : scope.kind = .function) (hsl : scope.names.lookup ("option" : Str) = some .local) (hsf : scope.names.lookup ("marks" : Str) = some .free)
    (hsg : scope.names.lookup fnm = some .globalImplicit) (hclo : cloFrom X.env.cells scope.names [] = [(("marks" : Str), (X.env.cells.lookup ("marks" : Str)).getD 0)])
    (hN : X.N[i]? = some ("marks" : Str)) (hcell : X.env.kindOf ("marks" : Str) = some .cell) (hσ : σ[i]? = some (some (.ref m))) (hP : GxR.TabG H1 P)
    (hm : H1 m = some (.lst (bs.map V.bl))) (ho : H1 o = some (.tup (is.map V.int))) (hin : ∀ i ∈ is, (atI bs i).isSome = true)
    (hdb : (fnm == ("__debug__" : Str)) = false) :
    ElV X P scope "option" (.Call (.Name fnm p) [.Name "option" p1, .Name "marks" p2] [] pos) σ H1 (.ref o) (if is.any (fun i => fl ^^ mkAt bs i) then r1 else r2) := by
  intro pins s1 u I ru cenv A' E' s₂ m₂ hsc hce hgl hA hD hU hn2 hm2 hk
  obtain rfl : u = Value.ref o := ru
  obtain ⟨ps, hP, _⟩ := hP
  have hnP : ∀ b, H1 b = none → b ≠ P := fun b e z => by
    rw [z, hP] at e
    cases e
  have hb : ∀ b ob, X.base.get? b = some ob → s₂.heap.get? b = some ob := fun b ob e => hk b ob (hnP b (I.bs b ob e).2) (I.bk b ob e)
  have hKs : X.K.In s₂.heap := I.ok.mod.kin.keeps hb
  obtain ⟨its, rv, plo, _⟩ := I.tuple (a := o) (xs := is.map V.int) (.inl (.inl ho))
  obtain ⟨ms, rm, plm, hz⟩ := I.list (a := m) (xs := bs.map V.bl) (.inl (.inl hm))
  have hnT : ∀ {b : Addr} {q : HO}, H1 b = some q → (∀ qs, q ≠ .tbl qs) → b ≠ P := fun {b q} e n z => by
    rw [z, hP] at e
    exact n ps (Option.some.inj e).symm
  have ht2 : s₂.heap.IsTuple o its.toArray := by
    obtain ⟨ob, e, r⟩ := plo
    exact ⟨ob, hk o ob (hnT ho (fun qs z => nomatch z)) e, r⟩
  have hl2 : s₂.heap.IsList m ms.toArray := by
    obtain ⟨ob, e, r⟩ := plm.isList
    exact ⟨ob, hk m ob (hnT hm (fun qs z => nomatch z)) e, r⟩
  obtain ⟨mm, _, hloc⟩ := I.loc
  obtain ⟨v, rv2, hlook⟩ := hloc i _ _ hN hσ (.inr (.inl hcell))
  obtain rfl : v = Value.ref m := rv2
  obtain ⟨c, hc1, hc2⟩ : ∃ c, X.env.cells.lookup ("marks" : Str) = some c ∧ s1.heap.IsCell c (some (.ref m)) := by
    rcases hlook with ⟨h1, _⟩ | ⟨_, c, h1, h2⟩
    · rw [hcell] at h1
      cases h1
    · exact ⟨c, h1, h2⟩
  have hc3 : s₂.heap.IsCell c (some (.ref m)) := by
    obtain ⟨ob, e, r⟩ := hc2
    exact ⟨ob, hk c ob (hnP c (I.freeC _ _ hc1)) e, r⟩
  have hcl : cenv.cells.lookup ("marks" : Str) = some c := by
    rw [hce, hclo, hc1]
    rfl
  have hkind : cenv.scope.kind = .function := by rw [hsc]; exact hsk
  have kOf : ∀ x kd, scope.names.lookup x = some kd → cenv.kindOf x = some kd := fun x kd e => by
    show cenv.scope.names.lookup x = some kd
    rw [hsc]
    exact e
  refine wpAny_Call_Name_kw (Calls.Name_function_global hkind (kOf _ _ hsg) (Calls.loadGlobal_global (by rw [hgl, I.ok.glob]; exact I.mod.glob.keeps hb) hmg ?_) hdb)
  refine PySem.W.callWith_K (h₀ := X.base) I.ok.mod.kin M.F.kp ?_
  show wpAny _ _ (spliced ((false, eval (.Name "option" p1) cenv) :: (false, eval (.Name "marks" p2) cenv) :: [])) _ _ s₂
  refine Calls.spliced_cons (wpAny_Name (wpAny_loadName_local hkind (kOf _ _ hsl) hn2 hm2 ?_))
  refine Calls.spliced_cons (wpAny_Name (wpAny_loadName_free hkind (kOf _ _ hsf) hcl hc3 ?_))
  refine Calls.spliced_nil ⟨hKs, ?_⟩
  have dp := hr.dp
  exact low_call M hKs (I.ok.mod.nolimit.keeps hb) hA (by omega) ht2 hl2 rv rm (by rw [← rm.length]; exact hz) hin
end NL

set_option maxHeartbeats 2000000
namespace NL
open PySem PySem.Spec PyProof.Rows L2
/-! ### what is kept by a def whose table may grow -/
def NT : HO → Prop
  | .tbl _ => False
  | _ => True
structure Sm (P : Addr) (H H' : Hp) : Prop where
  fr : ∀ b o, NT o → H b = some o → H' b = some o
  tb : GxR.TabG H P → GxR.TabG H' P
  dom : ∀ b, H' b = none → H b = none
theorem Sm.refl {P : Addr} {H : Hp} : Sm P H H := ⟨fun _ _ _ e => e, fun h => h, fun _ e => e⟩
theorem Sm.trans {P : Addr} {H H1 H2 : Hp} (a : Sm P H H1) (b : Sm P H1 H2) : Sm P H H2 := ⟨fun c o n e => b.fr c o n (a.fr c o n e), fun h => b.tb (a.tb h), fun c e => a.dom c (b.dom c e)⟩
theorem Sm.of {P : Addr} {H H' : Hp} (s : Same H H') : Sm P H H' := ⟨fun b o _ e => s b o e, fun ⟨ps, e, t⟩ => ⟨ps, s _ _ e, t⟩, fun b e => s.free e⟩
theorem Sm.tbd {P : Addr} {H H' : Hp} (t : GxR.TabG H P) (h : GxR.Tabbed P H H') : Sm P H H' := by
  refine ⟨fun b o n e => ?_, fun _ => h.1, fun b e => ?_⟩
  · by_cases hb : b = P
    · obtain ⟨ps, e2, _⟩ := t
      rw [hb, e2] at e
      cases e
      cases n
    · rw [h.2 b hb]
      exact e
  · by_cases hb : b = P
    · obtain ⟨ps, e2, _⟩ := h.1
      rw [hb, e2] at e
      cases e
    · rw [← h.2 b hb]
      exact e
theorem Sm.tup {P : Addr} {H H' : Hp} {b : Addr} {xs : List V} (h : Sm P H H') (e : H b = some (.tup xs)) : H' b = some (.tup xs) := h.fr b _ trivial e
theorem Sm.lst {P : Addr} {H H' : Hp} {b : Addr} {xs : List V} (h : Sm P H H') (e : H b = some (.lst xs)) : H' b = some (.lst xs) := h.fr b _ trivial e
theorem Sm.dK {P : Addr} {H H' : Hp} {b : Addr} {xs : List (Key × V)} (h : Sm P H H') (e : H b = some (.dK xs)) : H' b = some (.dK xs) := h.fr b _ trivial e
theorem Sm.tp {P : Addr} {H H' : Hp} (h : Sm P H H') : Tp H H' := fun a xs e => h.tup e
theorem Sm.put {P : Addr} {H H' : Hp} {p : Addr} {o : HO} (s : Sm P H H') (hp : H p = none) (hP : p ≠ P) : Sm P H (upd H' p o) := by
  refine ⟨fun b u n e => ?_, fun t => ?_, fun b e => ?_⟩
  · rw [upd_ne (ne_of_none e hp)]
    exact s.fr b u n e
  · obtain ⟨ps, e, t⟩ := s.tb t
    exact ⟨ps, by rw [upd_ne (Ne.symm hP)]; exact e, t⟩
  · by_cases hb : b = p
    · rw [hb]
      exact hp
    · rw [upd_ne hb] at e
      exact s.dom b e
theorem Sm.seqT {P : Addr} {K : PySem.W.Frag} {H H' : Hp} {a : Addr} {xs : List V} (s : Sm P H H') (h : SqT K H a xs) : SqT K H' a xs := by
  rcases h with (h | ⟨o, h⟩) | h
  · exact .inl (.inl (s.fr _ _ trivial h))
  · exact .inl (.inr ⟨o, s.fr _ _ trivial h⟩)
  · exact .inr h
theorem Sm.seqL {P : Addr} {K : PySem.W.Frag} {H H' : Hp} {a : Addr} {xs : List V} (s : Sm P H H') (h : SqL K H a xs) : SqL K H' a xs := by
  rcases h with (h | ⟨o, h⟩) | h
  · exact .inl (.inl (s.fr _ _ trivial h))
  · exact .inl (.inr ⟨o, s.fr _ _ trivial h⟩)
  · exact .inr h
theorem TabG.ne {H : Hp} {P b : Addr} {o : HO} (t : GxR.TabG H P) (n : NT o) (e : H b = some o) : b ≠ P := fun z => by
  obtain ⟨ps, e2, _⟩ := t
  rw [z, e2] at e
  cases e
  cases n
theorem TabG.ne0 {H : Hp} {P b : Addr} (t : GxR.TabG H P) (e : H b = none) : b ≠ P := fun z => by
  obtain ⟨ps, e2, _⟩ := t
  rw [z, e2] at e
  cases e
theorem TabG.same {H H' : Hp} {P : Addr} (t : GxR.TabG H P) (s : Same H H') : GxR.TabG H' P := by
  obtain ⟨ps, e2, r⟩ := t
  exact ⟨ps, s _ _ e2, r⟩
theorem TabG.put {H : Hp} {P p : Addr} {o : HO} (t : GxR.TabG H P) (hp : p ≠ P) : GxR.TabG (upd H p o) P := by
  obtain ⟨ps, e2, r⟩ := t
  exact ⟨ps, by rw [upd_ne (Ne.symm hp)]; exact e2, r⟩
theorem Go.tab {d P : Addr} {H H' : Hp} (g : Go d H H') (h : Dr H d) (t : GxR.TabG H P) : GxR.TabG H' P := by
  obtain ⟨ps, e2, r⟩ := t
  refine ⟨ps, g.fr P _ (fun z => ?_) e2, r⟩
  obtain ⟨ns, e⟩ := h
  rw [← z, e2] at e
  cases e
/-! ### a def whose code has a table -/
theorem gens_of {env : Env} {scope : Scope} {x : Str} (a : scope.kind = .function) (b : scope.isCoroutine = false) (c : ∀ y ∈ scope.names, y.2 ≠ .cell) (d : scope.names.lookup (".0" : Str) = some NameKind.local) (e : scope.names.lookup x = some .local)
    (f : ∀ y ∈ scope.names, y.2 = .free → ∃ c, env.cells.lookup y.1 = some c) : GxR.GenS env scope x := ⟨a, b, c, d, e, f⟩
theorem cells_has {qual : Str} {sc scope : Scope} {L f : Addr} {cd : Value} (h : ∀ y ∈ scope.names, y.2 = .free → sc.names.lookup y.1 = some .cell) : ∀ y ∈ scope.names, y.2 = .free → ∃ c, (envOfC qual sc L f cd).cells.lookup y.1 = some c := fun y hy e =>
  Option.isSome_iff_exists.mp (PySem.W.cellsFrom_some _ _ _ (.inl (h y hy e)))
theorem okC {P : Program} {w : World} {K : PySem.W.Frag} {mg : Str → Option Value} {base : Heap} {x qual : Str} {st : Stmt} {f c : Addr} {fd : FuncData} {N ps : List Str} {k : Nat} {sp : Sp} (F : L2.Fun K x qual st f fd) (hc : fd.code = .ref c) (S : FnScope N ps (defScope st)) (len : ∀ vs H Q E, sp vs H Q E → vs.length = ps.length)
    (hbody : ∀ (A : Around) (outer : List Env) (s : Shared) (H : Hp) (vs : List V) (Q : VK) (E : XK), Room k (A.deeper (envOfC qual (defScope st) s.heap.objs.size f (.ref c))) → sp vs H Q E →
      ∃ t, PSs (cxOf CX0 P w K mg base N qual (defScope st) f (.ref c) A outer s H E).nox (defBody st) t ∧ t { nx := fun _ H' => Q .non H', rt := Q } (start N vs) H) : FnOk P w K mg base CX0 (k + 1) f fd ps sp := by
  obtain ⟨⟨oc, od, kV, doc, pm, an, cdv, ct, osl, rfl, lk, hcd⟩, kp⟩ := F
  obtain rfl : cdv = .ref c := hc
  refine fn_of lk hcd S len fun A outer s H vs Q E hr hsp => ?_
  obtain ⟨t, h, q⟩ := hbody A outer s H vs Q E hr hsp
  exact ⟨t, h.nox, q⟩
/-! ### forces -/
def frcF (side : Int) (os : Pos') (bs : List Bool) : Bool := if side = 0 then os.any (fun o => o.all (mkAt bs)) else os.all (fun o => o.any (mkAt bs))
section
variable {P : Program} {w : World} {K : PySem.W.Frag} {mg : Str → Option Value} {base : Heap}
def spForces (K : PySem.W.Frag) (Pt : Addr) : Sp := fun vs H Q _ => ∃ (side : Int) (v : V) (m : Addr) (os : Pos') (bs : List Bool), vs = [.int side, v, .ref m] ∧ PosIn H os v ∧ H m = some (.lst (bs.map V.bl)) ∧ GxR.TabG H Pt ∧ (∀ o ∈ os, ∀ i ∈ o, (atI bs i).isSome = true) ∧
  ∀ H', Sm Pt H H' → Q (.bl (frcF side os bs)) H'
theorem mark_all (T : Txt K mg) : MarkFn K "_all_marked" s_all_marked T.a_all_marked T.d_all_marked true false true :=
  ⟨T.F_all_marked, T.b_all_marked, ⟨_, _, _, _, _, _, _, _, _, _, _, _, _, _, .inl ⟨rfl, _, rfl⟩, rfl⟩, rfl, rfl, rfl, by decide +kernel, by decide +kernel, by decide +kernel, by decide +kernel⟩
theorem mark_some (T : Txt K mg) : MarkFn K "_some_marked" s_some_marked T.a_some_marked T.d_some_marked false true false :=
  ⟨T.F_some_marked, T.b_some_marked, ⟨_, _, _, _, _, _, _, _, _, _, _, _, _, _, .inr ⟨rfl, rfl⟩, rfl⟩, rfl, rfl, rfl, by decide +kernel, by decide +kernel, by decide +kernel, by decide +kernel⟩
theorem not_any {α : Type} (l : List α) (p : α → Bool) : (if l.any (fun i => true ^^ p i) = true then false else true) = l.all p := by
  cases h : l.any (fun i => true ^^ p i) with
  | true =>
    obtain ⟨x, hx, hp⟩ := List.any_eq_true.mp h
    rw [if_pos rfl]
    exact (List.all_eq_false.mpr ⟨x, hx, by simpa using hp⟩).symm
  | false =>
    rw [if_neg Bool.false_ne_true]
    refine (List.all_eq_true.mpr fun x hx => ?_).symm
    have := List.any_eq_false.mp h x hx
    simpa using this
theorem ok_forces (T : Txt K mg) {c Pt : Addr} (TB : GxR.TabB base mg c Pt) (hc : T.dforces.code = .ref c) : FnOk P w K mg base CX0 2 T.aforces T.dforces Pforces (spForces K Pt) := by
  refine okC T.Fforces hc scforces (fun vs H Q E h => ?_) (fun A outer s H vs Q E hr h => ?_)
  · obtain ⟨side, v, m, os, bs, rfl, _⟩ := h
    rfl
  obtain ⟨side, v, m, os, bs, rfl, ⟨b0, xs, rfl, e0, hxs⟩, hm, hT, hin, q⟩ := h
  have hC : Cx.env (cxOf CX0 P w K mg base Nforces "forces" (defScope sforces) T.aforces (.ref c) A outer s H E).nox = envOfC "forces" (defScope sforces) s.heap.objs.size T.aforces (.ref c) := rfl
  refine ⟨_, (pss_cons (ps_if (pt_cmpR op_eq (pv 0) (pe_glob rfl T.g_CONTROLLER T.r_CONTROLLER) (nomark _))
    (pss_one (ps_ret (pe_anyM hr (by rfl) T.z_any TB rfl (gens_of (by rfl) (by rfl) (by decide) (by rfl) (by rfl) (cells_has (by decide))) (pv 1) (fun _ => rfl))))
    pss_nil)
    (pss_one (ps_ret (pe_allM hr (by rfl) T.z_all (by decide +kernel) TB rfl (gens_of (by rfl) (by rfl) (by decide) (by rfl) (by rfl) (cells_has (by decide))) (pv 1) (fun _ => rfl))))), ?_⟩
  refine ⟨_, rfl, rfl, _, rfl, ?_⟩
  refine ite2 (fun z => ?_) (fun z => ?_)
  · have hs0 : side = 0 := int_eq z
    refine ⟨_, rfl, b0, xs, os.map (fun o => o.all (mkAt bs)), rfl, .inl (.inl e0), by rw [List.length_map]; exact hxs.1.symm, hT, fun i x b hx hb => ?_, fun H2 h2 => ?_⟩
    · rw [List.getElem?_map] at hb
      obtain ⟨o, ho, rfl⟩ := Option.map_eq_some_iff.mp hb
      obtain ⟨bo, rfl, eo⟩ := hxs.2 i o x ho hx
      rw [← not_any o (mkAt bs)]
      exact elv_mark (i := 2) (mark_all T) T.m_all_marked hr (by rfl) (by rfl) (by rfl) (by rfl) (by rfl) (by rfl) (by rfl) (by rfl) hT hm eo (hin o (List.mem_of_getElem? ho)) (by decide +kernel)
    · have e : frcF side os bs = (os.map (fun o => o.all (mkAt bs))).any id := by
        unfold frcF
        rw [if_pos hs0, List.any_map]
        rfl
      have q3 := q H2 (.tbd hT h2)
      rw [e] at q3
      exact q3
  · have hs0 : side ≠ 0 := int_ne z
    refine ⟨_, rfl, b0, xs, os.map (fun o => o.any (mkAt bs)), rfl, .inl (.inl e0), by rw [List.length_map]; exact hxs.1.symm, hT, fun i x b hx hb => ?_, fun H2 h2 => ?_⟩
    · rw [List.getElem?_map] at hb
      obtain ⟨o, ho, rfl⟩ := Option.map_eq_some_iff.mp hb
      obtain ⟨bo, rfl, eo⟩ := hxs.2 i o x ho hx
      have e : (if (o.any fun i => false ^^ mkAt bs i) = true then true else false) = o.any (mkAt bs) := by
        rw [show (fun i => false ^^ mkAt bs i) = mkAt bs from funext fun i => Bool.false_xor _]
        cases o.any (mkAt bs) <;> rfl
      rw [← e]
      exact elv_mark (i := 2) (mark_some T) T.m_some_marked hr (by rfl) (by rfl) (by rfl) (by rfl) (by rfl) (by rfl) (by rfl) (by rfl) hT hm eo (hin o (List.mem_of_getElem? ho)) (by decide +kernel)
    · have e : frcF side os bs = (os.map (fun o => o.any (mkAt bs))).all id := by
        unfold frcF
        rw [if_neg hs0, List.all_map]
        rfl
      have q3 := q H2 (.tbd hT h2)
      rw [e] at q3
      exact q3
end
end NL

set_option maxHeartbeats 2000000
namespace NL
open PySem PySem.Spec PyProof.Rows L2
/-- the end of a law whose program holds a generator expression in the def nm -/
theorem walk_tab {l : PySem.W.OpenLaw} {n k : Nat} {q : Program} {loose : List Str} {XP : (Str → Option Value) → Heap → Prop} {YP : World → Heap → Prop} {d : DefRec} {K : Params → PySem.W.Frag} {CX : World → CXT} {x : Str} (nm : Str)
    (hn : l.most = some n) (hn2 : n ≤ sizeLine) (hdf : d.params.defaults = []) (hr : Room k callerA) (hrec : ((recsOf q).any fun e => e.name == nm) = true) (hY : ∀ (w : World) (h : Heap), YP w h → (K w.params).In h)
    (F : ∀ (w : World) (mg : Str → Option Value) (fa : Addr) (h : Heap), YP w h → (K w.params).In h → h.Ns mainGlobals mg → mg d.name = some (.ref fa) → (∀ f, mg nm = some (.ref f) → LamX.OwnTab (K w.params) f h) → LamX.LawAtS l w (K w.params) (CX w) k n x mg fa h)
    (hCX : ∀ (w : World) (H : Hp) (s : Shared) (e : Value) (s' : Shared), CX w [] H s (fun _ _ _ => False) e s' → False) :
    PySem.W.WalkO q loose XP YP l.row.toRowW d [] (fun f vs => PySem.call f vs) := by
  refine Att.attach_callB hn hdf fun w s0 s1 mg mb fa ob pm cd doc a vs ns Gt Y hob hd hcd hmg hobj hints hlen hbits hg => ?_
  have KX := hY w _ Y
  have own : ∀ f, mg nm = some (.ref f) → LamX.OwnTab (K w.params) f s1.heap := fun f hf c P o1 fd1 e dd vs1 sl k1 k2 k3 k4 k5 => by
    obtain ⟨dL, hm, hn1⟩ := List.any_eq_true.mp hrec
    have hn3 : dL.name = nm := beq_iff_eq.mp hn1
    obtain ⟨a', o', fd', c', P', h1, h2, h3, h4, h5, h6⟩ := Gt.T.tab dL hm
    rw [hn3, hf] at h1
    cases h1
    rw [KX _ _ k1] at h2
    cases h2
    rw [k2] at h3
    cases h3
    rw [k3] at h4
    cases h4
    obtain ⟨⟨oc, vc, e1, _, e3, e4⟩, hP⟩ := h6
    rw [KX _ _ k4] at e1
    cases e1
    cases e3
    rw [k5] at e4
    cases e4
    exact hP
  obtain ⟨fd, cs, sp, hT, nT, C, hb, hsp, hF⟩ := F w mg fa _ Y KX Gt.T.g hmg own
  exact LamX.law_callTs KX Gt.T.g Gt.T.b Gt.T.builtins Gt.T.nolimit hg hT nT C Gt.T.bmain hobj hints (Nat.le_trans hlen hn2) hr hF hb (fun H hH hS => hsp H a ns hlen hbits hH hS) fun H e s' => hCX w H s1 e s'
/-- the law's promise where a table stands at Pt -/
def spLawT (K : PySem.W.Frag) (Pt : Addr) : Sp := fun vs H Q _ => ∃ (a : Addr) (ns : List Int), vs = [.ref a] ∧ SqL K H a (ns.map V.int) ∧ ns.length ≤ 63 ∧ GxR.TabG H Pt ∧ ∀ H', Q (.bl true) H'
end NL

namespace NL
open PySem PySem.Spec PyProof.Rows L2
/-! ### marks as a function of positions from -1 on -/
abbrev Mk' := Int → Bool
def bsO (n : Nat) (M : Mk') : List Bool := (List.range n).map (fun i : Nat => M (i : Int)) ++ [M (-1)]
theorem bsO_len (n : Nat) (M : Mk') : (bsO n M).length = n + 1 := by
  unfold bsO
  rw [List.length_append, List.length_map, List.length_range]
  rfl
theorem bsO_nat {n : Nat} {M : Mk'} {k : Nat} (h : k < n) : (bsO n M)[k]? = some (M (k : Int)) := by
  unfold bsO
  rw [List.getElem?_append_left (by rw [List.length_map, List.length_range]; exact h), List.getElem?_map, List.getElem?_range h]
  rfl
theorem bsO_last {n : Nat} {M : Mk'} : (bsO n M)[n]? = some (M (-1)) := by
  unfold bsO
  rw [List.getElem?_append_right (by rw [List.length_map, List.length_range]; exact Nat.le_refl n), List.length_map, List.length_range, Nat.sub_self]
  rfl
theorem bsO_at {n : Nat} {M : Mk'} {p : Int} (h0 : -1 ≤ p) (h1 : p < n) : atI (bsO n M) p = some (M p) := by
  by_cases hp : 0 ≤ p
  · have := atI_nat (bsO_nat (M := M) (show p.toNat < n by omega))
    rw [show ((p.toNat : Nat) : Int) = p by omega] at this
    exact this
  · have : p = -1 := by omega
    subst this
    unfold atI ixN
    rw [if_neg (by decide), if_pos (by rw [bsO_len]; omega), bsO_len, show ((-1 : Int) + ((n + 1 : Nat) : Int)).toNat = n by omega]
    exact bsO_last
theorem atI_mapO {α β : Type} (g : α → β) (xs : List α) (i : Int) : atI (xs.map g) i = (atI xs i).map g := by
  unfold atI
  rw [List.length_map]
  cases ixN xs.length i with
  | none => rfl
  | some j => exact List.getElem?_map
theorem bsO_V {n : Nat} {M : Mk'} {p : Int} (h0 : -1 ≤ p) (h1 : p < n) : atI ((bsO n M).map V.bl) p = some (.bl (M p)) := by
  rw [atI_mapO, bsO_at h0 h1]
  rfl
theorem bsO_mk {n : Nat} {M : Mk'} {p : Int} (h0 : -1 ≤ p) (h1 : p < n) : mkAt (bsO n M) p = M p := by
  unfold mkAt
  rw [bsO_at h0 h1]
  rfl
theorem bsO_ext {n : Nat} {M N : Mk'} (h : ∀ p : Int, -1 ≤ p → p < n → M p = N p) : bsO n M = bsO n N := by
  unfold bsO
  rw [h (-1) (Int.le_refl _) (by omega)]
  congr 1
  exact List.map_congr_left fun k hk => h _ (by omega) (by have := List.mem_range.mp hk; omega)
theorem bsO_set {n : Nat} {M : Mk'} {p : Int} (h0 : 0 ≤ p) (h1 : p < n) : (bsO n M).set p.toNat true = bsO n (fun x => M x || decide (x = p)) := by
  refine List.ext_getElem? fun k => ?_
  rw [List.getElem?_set]
  by_cases hk : p.toNat = k
  · rw [if_pos hk, if_pos (by rw [bsO_len]; omega)]
    rw [bsO_nat (show k < n by omega)]
    have : ((k : Nat) : Int) = p := by omega
    rw [this, decide_eq_true rfl, Bool.or_true]
  · rw [if_neg hk]
    rcases Nat.lt_trichotomy k n with h | h | h
    · rw [bsO_nat h, bsO_nat h, decide_eq_false (by omega), Bool.or_false]
    · subst h
      rw [bsO_last, bsO_last, decide_eq_false (by omega), Bool.or_false]
    · rw [List.getElem?_eq_none (by rw [bsO_len]; omega), List.getElem?_eq_none (by rw [bsO_len]; omega)]
/-! ### round by round -/
def frcM (side : Int) (os : Pos') (M : Mk') : Bool := if side = 0 then os.any (fun o => o.all M) else os.all (fun o => o.any M)
theorem any_congr' {α : Type} {l : List α} {f g : α → Bool} (h : ∀ x ∈ l, f x = g x) : l.any f = l.any g := by
  induction l with
  | nil => rfl
  | cons a r ih =>
    rw [List.any_cons, List.any_cons, h a (List.mem_cons_self ..), ih fun x hx => h x (List.mem_cons_of_mem _ hx)]
theorem all_congr' {α : Type} {l : List α} {f g : α → Bool} (h : ∀ x ∈ l, f x = g x) : l.all f = l.all g := by
  induction l with
  | nil => rfl
  | cons a r ih =>
    rw [List.all_cons, List.all_cons, h a (List.mem_cons_self ..), ih fun x hx => h x (List.mem_cons_of_mem _ hx)]
theorem frcM_ext {side : Int} {os : Pos'} {M N : Mk'} (h : ∀ o ∈ os, ∀ p ∈ o, M p = N p) : frcM side os M = frcM side os N := by
  unfold frcM
  split
  · exact any_congr' fun o ho => all_congr' fun p hp => h o ho p hp
  · exact all_congr' fun o ho => any_congr' fun p hp => h o ho p hp
theorem frcF_bsO {side : Int} {os : Pos'} {n : Nat} {M : Mk'} (h : ∀ o ∈ os, ∀ p ∈ o, -1 ≤ p ∧ p < (n : Int)) : frcF side os (bsO n M) = frcM side os M := by
  unfold frcF frcM
  split
  · exact any_congr' fun o ho => all_congr' fun p hp => bsO_mk (h o ho p hp).1 (h o ho p hp).2
  · exact all_congr' fun o ho => any_congr' fun p hp => bsO_mk (h o ho p hp).1 (h o ho p hp).2
def psO (A : Ar) (p : Int) : Pos' := if 0 ≤ p then (A[p.toNat]?).getD [] else []
theorem psO_at {A : Ar} {p : Int} {os : Pos'} (h0 : 0 ≤ p) (h : A[p.toNat]? = some os) : psO A p = os := by
  unfold psO
  rw [if_pos h0, h]
  rfl
/-- all successors are positions or -1 -/
def InA (A : Ar) (n : Nat) : Prop := ∀ os ∈ A, ∀ o ∈ os, ∀ p ∈ o, -1 ≤ p ∧ p < (n : Int)
theorem psO_in {A : Ar} {n : Nat} (h : InA A n) (p : Int) : ∀ o ∈ psO A p, ∀ x ∈ o, -1 ≤ x ∧ x < (n : Int) := by
  unfold psO
  split
  · cases hq : A[p.toNat]? with
    | none => intro o ho; cases ho
    | some os => exact h os (List.mem_of_getElem? hq)
  · intro o ho; cases ho
def nxM (A : Ar) (side : Int) (am : List Int) (M : Mk') : Mk' := fun p => M p || (decide (p ∈ am) && frcM side (psO A p) M)
def mr (A : Ar) (side : Int) (am : List Int) (M : Mk') : Nat → Mk'
  | 0 => M
  | k + 1 => nxM A side am (mr A side am M k)
section
variable {A : Ar} {side : Int} {am : List Int} {M : Mk'}
theorem mr_up {p : Int} {k : Nat} (h : mr A side am M k p = true) : mr A side am M (k + 1) p = true := by
  show (mr A side am M k p || _) = true
  rw [h, Bool.true_or]
theorem mr_le {p : Int} {j k : Nat} (h : j ≤ k) (e : mr A side am M j p = true) : mr A side am M k p = true := by
  induction h with
  | refl => exact e
  | step _ ih => exact mr_up ih
theorem mr_out {p : Int} (h : p ∉ am) : ∀ k, mr A side am M k p = M p
  | 0 => rfl
  | k + 1 => by
    show (mr A side am M k p || (decide (p ∈ am) && _)) = M p
    rw [decide_eq_false h, Bool.false_and, Bool.or_false, mr_out h k]
theorem mr_stop {n : Nat} (hA : InA A n) {K : Nat} (h : ∀ p, -1 ≤ p → p < (n : Int) → mr A side am M (K + 1) p = mr A side am M K p) : ∀ L, K ≤ L → ∀ p, -1 ≤ p → p < (n : Int) → mr A side am M L p = mr A side am M K p := by
  intro L hL
  induction hL with
  | refl => intro p _ _; rfl
  | step _ ih =>
    rename_i L _
    intro p h0 h1
    show (mr A side am M L p || (decide (p ∈ am) && frcM side (psO A p) (mr A side am M L))) = _
    rw [ih p h0 h1, frcM_ext (N := mr A side am M K) fun o ho x hx => ih x (psO_in hA p o ho x hx).1 (psO_in hA p o ho x hx).2]
    exact h p h0 h1
/-- the round in which a position is marked first -/
def IsRk (f : Nat → Mk') (p : Int) : Option Nat → Prop
  | some r => f r p = true ∧ ∀ j, j < r → f j p = false
  | none => ∀ j, f j p = false
theorem IsRk.uniq {f : Nat → Mk'} {p : Int} : ∀ {a b : Option Nat}, IsRk f p a → IsRk f p b → a = b
  | none, none, _, _ => rfl
  | some r, none, h, g => by
    have := g r
    rw [h.1] at this
    cases this
  | none, some r, g, h => by
    have := g r
    rw [h.1] at this
    cases this
  | some r, some q, h, g => by
    rcases Nat.lt_trichotomy r q with z | z | z
    · have := g.2 r z
      rw [h.1] at this
      cases this
    · rw [z]
    · have := h.2 q z
      rw [g.1] at this
      cases this
/-- how many of the first n positions are marked -/
def cnt (n : Nat) (f : Mk') : Nat := ((List.range n).filter (fun i : Nat => f (i : Int))).length
theorem cnt_le (n : Nat) (f : Mk') : cnt n f ≤ n := by
  have := List.length_filter_le (fun i : Nat => f (i : Int)) (List.range n)
  rw [List.length_range] at this
  exact this
theorem cnt_s (n : Nat) (f : Mk') : cnt (n + 1) f = cnt n f + (if f (n : Int) = true then 1 else 0) := by
  unfold cnt
  rw [List.range_succ, List.filter_append, List.length_append]
  congr 1
  rw [List.filter_cons]
  cases h : f (n : Int) with
  | true => rfl
  | false => rfl
theorem cnt_mono {f g : Mk'} (h : ∀ p, f p = true → g p = true) : ∀ n, cnt n f ≤ cnt n g
  | 0 => Nat.le_refl _
  | n + 1 => by
    have ih := cnt_mono h n
    rw [cnt_s, cnt_s]
    cases hf : f (n : Int) with
    | true => rw [h _ hf]; simp; exact ih
    | false =>
      rw [if_neg Bool.false_ne_true]
      omega
theorem cnt_lt {f g : Mk'} (h : ∀ p, f p = true → g p = true) : ∀ {n k : Nat}, k < n → f (k : Int) = false → g (k : Int) = true → cnt n f < cnt n g
  | 0, k, hk, _, _ => absurd hk (Nat.not_lt_zero k)
  | n + 1, k, hk, hf, hg => by
    rw [cnt_s, cnt_s]
    by_cases hkn : k = n
    · subst hkn
      have := cnt_mono h k
      rw [hf, hg, if_pos rfl, if_neg Bool.false_ne_true]
      omega
    · have ih := cnt_lt h (show k < n by omega) hf hg
      cases hf2 : f (n : Int) with
      | true => rw [h _ hf2]; simp; exact ih
      | false =>
        rw [if_neg Bool.false_ne_true]
        omega
theorem cnt_full {f : Mk'} : ∀ {n : Nat}, cnt n f = n → ∀ k, k < n → f (k : Int) = true
  | 0, _, k, hk => absurd hk (Nat.not_lt_zero k)
  | n + 1, h, k, hk => by
    have h1 := cnt_le n f
    rw [cnt_s] at h
    cases hf : f (n : Int) with
    | true =>
      rw [hf, if_pos rfl] at h
      by_cases hkn : k = n
      · rw [hkn]; exact hf
      · exact cnt_full (show cnt n f = n by omega) k (by omega)
    | false =>
      rw [hf, if_neg Bool.false_ne_true] at h
      omega
/-- where each of the first rounds marks one more, all n positions are marked in round n -/
theorem cnt_rounds {n : Nat} {f : Nat → Mk'} (up : ∀ k p, f k p = true → f (k + 1) p = true) : ∀ K, (∀ k, k < K → ∃ i : Nat, i < n ∧ f k (i : Int) = false ∧ f (k + 1) (i : Int) = true) → K ≤ cnt n (f K)
  | 0, _ => Nat.zero_le _
  | K + 1, h => by
    have ih := cnt_rounds up K fun k hk => h k (by omega)
    obtain ⟨i, hi, h1, h2⟩ := h K (Nat.lt_succ_self K)
    have := cnt_lt (fun p hp => up K p hp) hi h1 h2
    omega
end
end NL

set_option maxHeartbeats 4000000
namespace NL
open PySem PySem.Spec PyProof.Rows L2
/-- an item of a list or a tuple -/
def rIxQ (K : PySem.W.Frag) : R2 := fun x y H Q => ∃ p xs i v, x = .ref p ∧ y = .int i ∧ (SqL K H p xs ∨ SqT K H p xs) ∧ atI xs i = some v ∧ Q v H
theorem ix_seqK {X : Cx} {K : PySem.W.Frag} (h : X.K = K) : IxR X (rIxQ K) := by
  subst h
  intro value slice pins s σ H x y v u Q I rx ry q hs
  obtain ⟨p, xs, i, z, e1, e2, hq | hq, he, q⟩ := q
  · exact ix_list value slice pins s σ H x y v u Q I rx ry ⟨p, xs, i, z, e1, e2, hq, he, q⟩ hs
  · exact ix_tup value slice pins s σ H x y v u Q I rx ry ⟨p, xs, i, z, e1, e2, hq, he, q⟩ hs
/-- an arena, a tuple or a list of positions -/
def ArQ (H : Hp) (A : Ar) (v : V) : Prop := ∃ b xs, v = .ref b ∧ (H b = some (.lst xs) ∨ H b = some (.tup xs)) ∧ Each (PosIn H) A xs
theorem ArQ.of {H : Hp} {A : Ar} {v : V} (h : ArIn H A v) : ArQ H A v := by
  obtain ⟨b, xs, e, q, r⟩ := h
  exact ⟨b, xs, e, .inr q, r⟩
theorem ArQ.sm {P : Addr} {H H' : Hp} {A : Ar} {v : V} (s : Sm P H H') (h : ArQ H A v) : ArQ H' A v := by
  obtain ⟨b, xs, e, q, r⟩ := h
  refine ⟨b, xs, e, ?_, r.mono fun a x => PosIn.tp s.tp⟩
  rcases q with q | q
  · exact .inl (s.lst q)
  · exact .inr (s.tup q)
theorem seqQ {K : PySem.W.Frag} {H : Hp} {b : Addr} {xs : List V} (h : H b = some (.lst xs) ∨ H b = some (.tup xs)) : SqL K H b xs ∨ SqT K H b xs := by
  rcases h with h | h
  · exact .inl (sqd h)
  · exact .inr (sqt h)
/-- what the dict of steps says after k rounds -/
def DkR (f : Nat → Mk') (k : Nat) (kvs : List (Key × V)) : Prop := ∀ p : Int, ((f k p = false ∨ f 0 p = true) → valV kvs (Sum.inl p : Key) = none) ∧ (f k p = true → f 0 p = false → ∃ r, r ≤ k ∧ valV kvs (Sum.inl p : Key) = some (.int (r : Nat)) ∧ f r p = true ∧ ∀ j, j < r → f j p = false)
/-- .. of a position in the end -/
theorem DkR.rk {A : Ar} {side : Int} {am : List Int} {M : Mk'} {n K : Nat} {kvs : List (Key × V)} (h : DkR (mr A side am M) K kvs) (hst : ∀ L, K ≤ L → ∀ p, -1 ≤ p → p < (n : Int) → mr A side am M L p = mr A side am M K p) {p : Int} (h0 : -1 ≤ p) (h1 : p < n) :
    ∃ ro : Option Nat, IsRk (mr A side am M) p ro ∧ (M p = true → ro = some 0) ∧ (M p = false → valV kvs (Sum.inl p : Key) = ro.map fun r : Nat => V.int (r : Int)) := by
  by_cases hM : M p = true
  · exact ⟨some 0, ⟨hM, fun j hj => absurd hj (Nat.not_lt_zero j)⟩, fun _ => rfl, fun e => by rw [hM] at e; cases e⟩
  · have hM' : M p = false := by simpa using hM
    by_cases hK : mr A side am M K p = true
    · obtain ⟨r, hr, hv, h2, h3⟩ := (h p).2 hK hM'
      exact ⟨some r, ⟨h2, h3⟩, fun e => absurd e hM, fun _ => hv⟩
    · have hK' : mr A side am M K p = false := by simpa using hK
      refine ⟨none, fun j => ?_, fun e => absurd e hM, fun _ => (h p).1 (.inl hK')⟩
      rcases Nat.le_total K j with z | z
      · rw [hst j z p h0 h1]
        exact hK'
      · cases hj : mr A side am M j p with
        | false => rfl
        | true => exact absurd (mr_le z hj) hK
theorem putK_len' {κ : Type} [DecidableEq κ] (c : List (κ × V)) (k : κ) (x : V) : (putK c k x).length ≤ c.length + 1 := by
  unfold putK
  split
  · rw [List.length_map]
    exact Nat.le_succ _
  · rw [List.length_append]
    exact Nat.le_refl _
theorem dp_intsG {K : PySem.W.Frag} {H : Hp} : ∀ l : List Int, DpAll K H (l.map V.int) (l.map PyData.int)
  | [] => .nil
  | a :: r => .cons (.int a) (dp_intsG r)
theorem lay_intsG : ∀ l : List Int, PyData.canLayAll0 (l.map PyData.int) = true ∧ PyData.depthAll (l.map PyData.int) = 0
  | [] => ⟨rfl, rfl⟩
  | a :: r => by
    obtain ⟨h1, h2⟩ := lay_intsG r
    refine ⟨?_, ?_⟩
    · show (true && PyData.canLayAll0 (r.map PyData.int)) = true
      rw [h1]
      rfl
    · show max 0 (PyData.depthAll (r.map PyData.int)) = 0
      rw [h2]
      rfl
theorem shaped_lstG (l : List Int) : SeqAt.shaped (.list (l.map PyData.int)) = true := by
  obtain ⟨h1, h2⟩ := lay_intsG l
  show (PyData.canLayAll0 (l.map PyData.int) && decide (PyData.depthAll (l.map PyData.int) + 1 ≤ 64)) = true
  rw [h1, h2]
  rfl
theorem foldK_take {α : Type} {l : List α} {j : Nat} {x : α} (h : l[j]? = some x) (y : α) : y ∈ l.take (j + 1) ↔ y ∈ l.take j ∨ y = x := by
  rw [List.take_add_one, h, List.mem_append]
  simp
section
variable {P : Program} {w : World} {K : PySem.W.Frag} {mg : Str → Option Value} {base : Heap}
def spSteps (K : PySem.W.Frag) (Pt : Addr) : Sp := fun vs H Q _ => ∃ (v : V) (A : Ar) (side : Int) (ml al : Addr) (M : Mk') (am : List Int), vs = [v, .int side, .ref ml, .ref al] ∧ ArQ H A v ∧ A.length ≤ 500 ∧ InA A A.length ∧ H ml = some (.lst ((bsO A.length M).map V.bl)) ∧
  H al = some (.lst (am.map V.int)) ∧ am.length ≤ 500 ∧ (∀ p ∈ am, 0 ≤ p ∧ p < (A.length : Int)) ∧ GxR.TabG H Pt ∧
  ∀ D kvs k H', Sm Pt H H' → H D = none → H' D = some (.dK kvs) → DkR (mr A side am M) k kvs → (∀ L, k ≤ L → ∀ p, -1 ≤ p → p < (A.length : Int) → mr A side am M L p = mr A side am M k p) → Q (.ref D) H'
theorem ok_steps_to (T : Txt K mg) {c Pt : Addr} (TB : GxR.TabB base mg c Pt) (hc : T.dforces.code = .ref c) : FnOk P w K mg base CX0 3 T.asteps_to T.dsteps_to Psteps_to (spSteps K Pt) := by
  have Gforces := ok_forces (P := P) (w := w) T TB hc
  refine T.Fsteps_to.ok scsteps_to (fun vs H Q E h => ?_) (fun cdv A outer s H vs Q E hr h => ?_)
  · obtain ⟨v, A, side, ml, al, M, am, rfl, _⟩ := h
    rfl
  obtain ⟨v, A0, side, ml, al, M, am, rfl, hA, hn, hin, hm, ha, hal, hap, hT, q⟩ := h
  generalize hnn : A0.length = n at *
  refine ⟨_, (pss_cons (ps_set (i := 4) scsteps_to.nd rfl (Or.inr rfl) (pe_callTy call_list_of (by rfl) T.z_list (by decide +kernel) (pa_cons (pv 2) pa_nil)))
    (pss_cons (ps_set (i := 5) scsteps_to.nd rfl (Or.inl rfl) pe_dnewK)
    (pss_cons (ps_set (i := 6) scsteps_to.nd rfl (Or.inl rfl) pe_int)
    (pss_cons (ps_set (i := 7) scsteps_to.nd rfl (Or.inl rfl) pe_bl)
    (pss_cons (ps_while PassesOwn.never (pt_val (pv 7))
    (pss_cons (ps_aug (i := 6) scsteps_to.nd rfl (Or.inl rfl) pe_int ip_add)
    (pss_cons (ps_setLc (i := 8) (own := [("at", 9)]) (g := (gName 9)) (tt := _) rfl scsteps_to.nd rfl rfl (sw_true rfl rfl rfl (by decide +kernel)) (pi_list (pv 3)) (blkOk_by (N := Nsteps_to) (sc := defScope ssteps_to) (by decide +kernel)) (fun _ _ _ _ _ => (pg_name (i := 9) scsteps_to.nd rfl (Or.inl rfl))) (fun _ _ _ _ _ => (pts_one (PW.pt (pw_and (pt_not (pt_val (pe_ix (ix_listK (K := K) rfl) (pv 4) (pv 9) (fun _ _ => rfl)))) (pw_and1 (pt_val (pe_call Gforces (hr.mono (by omega)) (by rfl) T.mforces T.Fforces.kp T.bforces .nil pass0 (pa_cons (pv 1) (pa_cons (pe_ix (ix_seqK (K := K) rfl) (pv 0) (pv 9) (fun _ _ => rfl)) (pa_cons (pv 4) pa_nil)))))))))) (fun _ _ _ _ _ => (pv 9)))
    (pss_cons (ps_for  PassesOwn.never rfl (pi_list (pv 8)) (pg_name (i := 9) scsteps_to.nd rfl (Or.inl rfl))
    (pss_cons (ps_dput (hu_of hr) (pv 5) (pv 9) (pv 6) rfl)
    (pss_one (ps_asg pe_bl (pg_sub (pv 4) (pv 9) set_list)))))
    (pss_one (ps_set (i := 7) scsteps_to.nd rfl (Or.inl rfl) (pe_cmpR (op_neD hr.units) (pv 8) (pe_lst pa_nil) (nomark _))))))))
    (pss_one (ps_ret (pv 5)))))))), ?_⟩
  refine ⟨_, rfl, ml, _, rfl, .inl (sqd hm), fun rl hrl => ?_⟩
  obtain ⟨H1, e1, s1, k1⟩ := newH hrl (.lst ((bsO n M).map V.bl))
  rw [e1]
  refine fun D hD => ?_
  obtain ⟨H2, e2, s2, k2⟩ := newH hD (.dK [])
  rw [e2]
  have hnrl : rl ≠ D := fun z => by
    rw [z, hD] at k1
    cases k1
  have hDH : H D = none := s1.free hD
  have hrH : H rl = none := hrl
  have g0 := s1.trans s2
  have rD0 : DkR (mr A0 side am M) 0 [] := fun p => ⟨fun _ => rfl, fun h1 h2 => by
    rw [h1] at h2
    cases h2⟩
  have up : ∀ k p, mr A0 side am M k p = true → mr A0 side am M (k + 1) p = true := fun k p e => mr_up e
  -- round by round
  refine ⟨fun m σ H' => ∃ (k : Nat) (g : Bool) (kvs : List (Key × V)) (y8 y9 : Option V), σ = [some v, some (.int side), some (.ref ml), some (.ref al), some (.ref rl), some (.ref D), some (.int (k : Nat)), some (.bl g), y8, y9] ∧ Sm Pt H H' ∧ H' rl = some (.lst ((bsO n (mr A0 side am M k)).map V.bl)) ∧ H' D = some (.dK kvs) ∧ DkR (mr A0 side am M) k kvs ∧ kvs.length ≤ k * 500 ∧
    (g = true → k ≤ cnt n (mr A0 side am M k)) ∧ (g = false → ∃ j, k = j + 1 ∧ ∀ p, -1 ≤ p → p < (n : Int) → mr A0 side am M (j + 1) p = mr A0 side am M j p) ∧ m = if g = true then n - cnt n (mr A0 side am M k) + 1 else 0, ⟨_, 0, true, [], _, _, rfl, .of g0, s2 _ _ k1, k2, rD0, Nat.zero_le _, fun _ => Nat.zero_le _, fun e => (by cases e), rfl⟩, ?_⟩
  rintro m σ H3 ⟨k, g, kvs, y8, y9, rfl, s3, kr3, kD3, hdk, hkl, hg1, hg2, hmm⟩
  refine ⟨_, rfl, g, rfl, ?_⟩
  cases g with
  | false =>
    refine ifF rfl ?_
    obtain ⟨j, rfl, hst⟩ := hg2 rfl
    have hst2 := mr_stop hin hst
    refine ⟨_, rfl, q D kvs (j + 1) H3 s3 hDH kD3 hdk fun L hL p h0 h1 => ?_⟩
    rw [hst2 L (by omega) p h0 h1, hst p h0 h1]
  | true =>
  refine ifT rfl ?_
  have hkc := hg1 rfl
  have hcn := cnt_le n (mr A0 side am M k)
  generalize hf : mr A0 side am M k = f at *
  have hfs : mr A0 side am M (k + 1) = nxM A0 side am f := by rw [← hf]; rfl
  refine ⟨fun σ H' => ∃ (fnd : List Int) (kvs : List (Key × V)) (y8 y9 : Option V), σ = [some v, some (.int side), some (.ref ml), some (.ref al), some (.ref rl), some (.ref D), some (.int ((k + 1 : Nat) : Int)), some (.bl (!fnd.isEmpty)), y8, y9] ∧ Sm Pt H H' ∧ fnd = am.filter (fun p => !f p && frcM side (psO A0 p) f) ∧ H' rl = some (.lst ((bsO n (nxM A0 side am f)).map V.bl)) ∧ H' D = some (.dK kvs) ∧ DkR (mr A0 side am M) (k + 1) kvs ∧ kvs.length ≤ (k + 1) * 500, ?_, ?_⟩
  · rintro σ' H' ⟨fnd, kvs', z8, z9, rfl, t3, hfnd, f1, f2, hdk', hkl'⟩
    rw [← hfs] at f1
    have hin1 : ∀ p, p ∈ fnd → p ∈ am ∧ f p = false ∧ frcM side (psO A0 p) f = true := fun p hp => by
      rw [hfnd, List.mem_filter] at hp
      simpa using hp
    have gain : fnd.isEmpty = false → cnt n f < cnt n (mr A0 side am M (k + 1)) := fun e => by
      obtain ⟨p, hp⟩ : ∃ p, p ∈ fnd := by
        cases hc2 : fnd with
        | nil => rw [hc2] at e; cases e
        | cons a r => exact ⟨a, List.mem_cons_self ..⟩
      obtain ⟨q1, q2, q3⟩ := hin1 p hp
      obtain ⟨p0, p1⟩ := hap p q1
      refine cnt_lt (k := p.toNat) (fun x hx => by rw [hfs]; show (f x || _) = true; rw [hx, Bool.true_or]) (by omega) ?_ ?_
      · rw [show ((p.toNat : Nat) : Int) = p by omega]
        exact q2
      · rw [show ((p.toNat : Nat) : Int) = p by omega, hfs]
        show (f p || (decide (p ∈ am) && frcM side (psO A0 p) f)) = true
        rw [decide_eq_true q1, q3, Bool.true_and, Bool.or_true]
    have hc1 := cnt_le n (mr A0 side am M (k + 1))
    refine ⟨_, ?_, k + 1, !fnd.isEmpty, kvs', z8, z9, rfl, t3, f1, f2, hdk', hkl', fun e => ?_, fun e => ?_, rfl⟩
    · rw [hmm, if_pos rfl]
      cases he : fnd.isEmpty with
      | true =>
        rw [Bool.not_true, if_neg Bool.false_ne_true]
        omega
      | false =>
        have := gain he
        rw [Bool.not_false, if_pos rfl]
        omega
    · have := gain (by simpa using e)
      omega
    · refine ⟨k, rfl, fun p h0 h1 => ?_⟩
      have hnil : fnd = [] := by
        have : fnd.isEmpty = true := by simpa using e
        simpa using this
      rw [hfs, hf]
      show (f p || (decide (p ∈ am) && frcM side (psO A0 p) f)) = f p
      cases hfp : f p with
      | true => rfl
      | false =>
        rw [Bool.false_or]
        cases hd : (decide (p ∈ am) && frcM side (psO A0 p) f) with
        | false => rfl
        | true =>
          rw [Bool.and_eq_true] at hd
          have : p ∈ fnd := by
            rw [hfnd, List.mem_filter]
            refine ⟨of_decide_eq_true hd.1, ?_⟩
            simp [hfp, hd.2]
          rw [hnil] at this
          cases this
  refine ⟨_, rfl, _, _, rfl, rfl, ?_⟩
  refine ⟨_, rfl, al, rfl, ⟨_, sqd (s3.lst ha)⟩, fun fl hfl => ?_⟩
  have hT3 := s3.tb hT
  have hflP : fl ≠ Pt := TabG.ne0 hT3 hfl
  have hflr : fl ≠ rl := fun z => by
    rw [z, kr3] at hfl
    cases hfl
  have hflD : fl ≠ D := fun z => by
    rw [z, kD3] at hfl
    cases hfl
  have hA3 := hA.sm s3
  generalize ht : (fun p => !f p && frcM side (psO A0 p) f) = t
  refine lc_list (K := K) (a := al) (xs := am.map V.int) (fun (j : Nat) (H' : Hp) => Sm Pt H3 H' ∧ H' fl = some (.lst (((am.take j).filter t).map V.int))) ?_ ?_ ?_ ?_
  · exact ⟨.of (same_new hfl _), upd_same⟩
  · rintro j H' _ ⟨s4, _⟩
    exact sqd (s4.lst (s3.lst ha))
  · rintro j x H4 hx ⟨s4, k4⟩
    rw [List.getElem?_map] at hx
    obtain ⟨p, hp, rfl⟩ := Option.map_eq_some_iff.mp hx
    obtain ⟨p0, p1⟩ := hap p (List.mem_of_getElem? hp)
    have hnext : (am.take (j + 1)).filter t = (am.take j).filter t ++ (if t p = true then [p] else []) := by
      rw [List.take_add_one, hp, List.filter_append]
      congr 1
      rw [Option.toList_some, List.filter_cons]
      cases t p <;> rfl
    have hlen : ((am.take j).filter t).length ≤ 500 := by
      have h1 := List.length_filter_le t (am.take j)
      rw [List.length_take] at h1
      omega
    refine ⟨rfl, ?_⟩
    refine ⟨_, rfl, _, rfl, rl, _, _, _, rfl, rfl, sqd (s4.lst kr3), bsO_V (by omega) p1, _, rfl, ?_⟩
    cases hfp : f p with
    | true =>
      refine ifF rfl (iteF ?_)
      refine ⟨s4, ?_⟩
      rw [hnext, show t p = false by rw [← ht]; simp [hfp], if_neg Bool.false_ne_true, List.append_nil]
      exact k4
    | false =>
      refine ifT rfl ?_
      obtain ⟨b0, xs, rfl, hb0, hxs⟩ := hA3.sm s4
      obtain ⟨os, x, ho, hat, hpos⟩ := hxs.atI p0 (by rw [hnn]; exact p1)
      have hps := psO_at p0 ho
      have hios := hin os (List.mem_of_getElem? ho)
      refine ⟨_, rfl, _, rfl, _, rfl, b0, xs, p, x, rfl, rfl, seqQ hb0, hat, _, rfl, side, x, rl, os, bsO n f, rfl, hpos, s4.lst kr3, s4.tb hT3, fun o ho2 i hi => ?_, fun H5 s5 => ⟨_, rfl, ?_⟩⟩
      · rw [bsO_at (hios o ho2 i hi).1 (hios o ho2 i hi).2]
        rfl
      · rw [frcF_bsO hios]
        have htp : t p = frcM side os f := by rw [← ht]; simp [hfp, hps]
        cases hfr : frcM side os f with
        | false =>
          refine iteF ⟨s4.trans s5, ?_⟩
          rw [hnext, htp, hfr, if_neg Bool.false_ne_true, List.append_nil]
          exact s5.lst k4
        | true =>
          refine iteT ⟨_, rfl, _, s5.lst k4, big' (by rw [List.length_map]; omega), (s4.trans s5).put hfl hflP, ?_⟩
          rw [upd_same, hnext, htp, hfr, if_pos rfl, List.map_append]
          rfl
  · rintro H4 ⟨s4, k4⟩
    rw [List.length_map, List.take_length] at k4
    have hfl500 : (am.filter t).length ≤ 500 := Nat.le_trans (List.length_filter_le _ _) hal
    have hmem : ∀ p, p ∈ am.filter t → 0 ≤ p ∧ p < (n : Int) := fun p h => hap p (List.mem_filter.mp h).1
    generalize hfnd : am.filter t = fnd at *
    refine ⟨_, rfl, fl, rfl, ⟨_, sqd k4⟩, ?_⟩
    refine for_list (K := K) (a := fl) (xs := fnd.map V.int) (fun (j : Nat) (σ : L2.St) (H' : Hp) => ∃ (kvs' : List (Key × V)) (y9 : Option V), σ = [some v, some (.int side), some (.ref ml), some (.ref al), some (.ref rl), some (.ref D), some (.int (((k : Nat) : Int) + 1)), some (.bl true), some (.ref fl), y9] ∧ Sm Pt H H' ∧ H' fl = some (.lst (fnd.map V.int)) ∧
      H' rl = some (.lst ((bsO n (fun x => f x || decide (x ∈ fnd.take j))).map V.bl)) ∧ H' D = some (.dK kvs') ∧ (∀ p : Int, valV kvs' (Sum.inl p : Key) = if p ∈ fnd.take j then some (.int (((k : Nat) : Int) + 1)) else valV kvs (Sum.inl p : Key)) ∧ kvs'.length ≤ k * 500 + j) ?_ ?_ ?_ ?_
    · refine ⟨kvs, _, rfl, s3.trans s4, k4, ?_, s4.dK kD3, fun p => ?_, hkl⟩
      · rw [s4.lst kr3]
        simp
      · rw [List.take_zero, if_neg (by simp)]
    · rintro j σ H' _ ⟨kvs', y9, rfl, _, k5, _⟩
      exact sqd k5
    · rintro j x σ H5 hx ⟨kvs', y9, rfl, s5, k5, kr5, kD5, hv5, hl5⟩
      rw [List.getElem?_map] at hx
      obtain ⟨p, hp, rfl⟩ := Option.map_eq_some_iff.mp hx
      obtain ⟨p0, p1⟩ := hmem p (List.mem_of_getElem? hp)
      have hj := (List.getElem?_eq_some_iff.mp hp).1
      refine ⟨_, rfl, _, rfl, _, rfl, D, _, rfl, DPut.k (k := Sum.inl p) kD5 (big' (by have := cnt_le n f; omega)), ?_⟩
      have hDP : D ≠ Pt := TabG.ne0 hT hDH
      have hrP : rl ≠ Pt := TabG.ne0 hT hrH
      refine ⟨_, rfl, _, rfl, rl, _, _, _, rfl, rfl, by rw [upd_ne hnrl]; exact kr5, ixN_in p0 (by rw [List.length_map, bsO_len]; omega), ?_⟩
      refine ⟨putK kvs' (Sum.inl p : Key) (.int (((k : Nat) : Int) + 1)), _, rfl, (s5.put hDH hDP).put hrH hrP, ?_, ?_, ?_, fun y => ?_, ?_⟩
      · rw [upd_ne hflr, upd_ne hflD]
        exact k5
      · rw [upd_same, ← List.map_set, bsO_set p0 p1]
        congr 3
        refine bsO_ext fun x _ _ => ?_
        rw [Bool.or_assoc]
        congr 1
        rw [← Bool.decide_or]
        exact decide_eq_decide.mpr (foldK_take hp x).symm
      · rw [upd_ne (Ne.symm hnrl), upd_same]
      · rw [valV_put, hv5]
        by_cases hy : y = p
        · rw [if_pos (by rw [hy]), if_pos ((foldK_take hp y).mpr (.inr hy))]
        · rw [if_neg (fun e => hy (Sum.inl.inj e))]
          by_cases hy2 : y ∈ fnd.take j
          · rw [if_pos hy2, if_pos ((foldK_take hp y).mpr (.inl hy2))]
          · rw [if_neg hy2, if_neg (fun e => ((foldK_take hp y).mp e).elim hy2 hy)]
      · have := putK_len' kvs' (Sum.inl p : Key) (V.int (((k : Nat) : Int) + 1))
        omega
    · rintro σ H5 ⟨kvs', y9, rfl, s5, k5, kr5, kD5, hv5, hl5⟩
      rw [List.length_map, List.take_length] at kr5
      rw [List.length_map] at hv5 hl5
      simp only [List.take_length] at hv5
      have hnx : bsO n (fun x => f x || decide (x ∈ fnd)) = bsO n (nxM A0 side am f) := bsO_ext fun x _ _ => by
        show _ = (f x || (decide (x ∈ am) && frcM side (psO A0 x) f))
        rw [← hfnd, ← ht]
        cases hfx : f x with
        | true => rfl
        | false =>
          rw [Bool.false_or, Bool.false_or, ← Bool.decide_coe (frcM side (psO A0 x) f), ← Bool.decide_and]
          refine decide_eq_decide.mpr ?_
          rw [List.mem_filter, hfx]
          simp
      rw [hnx] at kr5
      refine ⟨_, rfl, Nat.zero_le _, fun e hel => ?_⟩
      have heD : e ≠ D := fun z => by
        rw [z, kD5] at hel
        cases hel
      have her : e ≠ rl := fun z => by
        rw [z, kr5] at hel
        cases hel
      have hef : fl ≠ e := fun z => by
        rw [← z, k5] at hel
        cases hel
      refine ⟨.list (fnd.map PyData.int), .list (([] : List Int).map PyData.int), .lst (sqd (by rw [upd_ne hef]; exact k5)) (dp_intsG _), .lst (sqd upd_same) .nil, shaped_lstG _, shaped_lstG _, ?_⟩
      refine ⟨fnd, kvs', some (.ref fl), y9, ?_, s5.trans (.of (same_new hel _)), rfl, by rw [upd_ne (Ne.symm her)]; exact kr5, by rw [upd_ne (Ne.symm heD)]; exact kD5, ?_, by omega⟩
      · cases fnd with
        | nil => rfl
        | cons a r => rfl
      · have hmk : ∀ p, mr A0 side am M k p = f p := fun p => by rw [hf]
        have hin1 : ∀ p, p ∈ fnd → f p = false ∧ mr A0 side am M (k + 1) p = true := fun p hp => by
          rw [← hfnd, List.mem_filter, ← ht] at hp
          obtain ⟨h1, h2⟩ := hp
          rw [Bool.and_eq_true] at h2
          refine ⟨by simpa using h2.1, ?_⟩
          rw [hfs]
          show (f p || (decide (p ∈ am) && frcM side (psO A0 p) f)) = true
          rw [decide_eq_true h1, h2.2, Bool.true_and, Bool.or_true]
        have hin2 : ∀ p, f p = false → mr A0 side am M (k + 1) p = true → p ∈ fnd := fun p h1 h2 => by
          rw [hfs] at h2
          have h3 : (f p || (decide (p ∈ am) && frcM side (psO A0 p) f)) = true := h2
          rw [h1, Bool.false_or, Bool.and_eq_true] at h3
          rw [← hfnd, List.mem_filter, ← ht]
          exact ⟨of_decide_eq_true h3.1, by simp [h1, h3.2]⟩
        intro p
        rw [hv5 p]
        refine ⟨fun h => ?_, fun h1 h2 => ?_⟩
        · have hno : p ∉ fnd := fun hp => by
            obtain ⟨g1, g2⟩ := hin1 p hp
            rcases h with h | h
            · rw [h] at g2
              cases g2
            · have : mr A0 side am M k p = true := mr_le (Nat.zero_le k) h
              rw [hmk, g1] at this
              cases this
          rw [if_neg hno]
          refine (hdk p).1 ?_
          rcases h with h | h
          · left
            cases hk2 : mr A0 side am M k p with
            | false => rfl
            | true =>
              rw [mr_up hk2] at h
              cases h
          · exact .inr h
        · by_cases hp : p ∈ fnd
          · rw [if_pos hp]
            refine ⟨k + 1, Nat.le_refl _, rfl, h1, fun j hj => ?_⟩
            cases hj2 : mr A0 side am M j p with
            | false => rfl
            | true =>
              have := mr_le (show j ≤ k by omega) hj2
              rw [hmk, (hin1 p hp).1] at this
              cases this
          · rw [if_neg hp]
            have hk2 : mr A0 side am M k p = true := by
              rw [hmk]
              cases hfp : f p with
              | true => rfl
              | false => exact absurd (hin2 p hfp h1) hp
            obtain ⟨r, hr1, hr2, hr3, hr4⟩ := (hdk p).2 hk2 h2
            exact ⟨r, by omega, hr2, hr3, hr4⟩
end
end NL

set_option maxHeartbeats 4000000
namespace NL
open PySem PySem.Spec PyProof.Rows L2
theorem rgA_ints (a b : Int) : rgV a b = ((List.range (b - a).toNat).map fun i : Nat => a + (i : Int)).map V.int := by
  unfold rgV
  rw [List.map_map] <;> rfl
/-- the first n positions -/
def psA (n : Nat) : List Int := (List.range n).map fun i : Nat => (i : Int)
theorem psA_mem {n : Nat} {p : Int} : p ∈ psA n ↔ 0 ≤ p ∧ p < (n : Int) := by
  unfold psA
  rw [List.mem_map]
  constructor
  · rintro ⟨i, hi, rfl⟩
    have := List.mem_range.mp hi
    omega
  · rintro ⟨h0, h1⟩
    exact ⟨p.toNat, List.mem_range.mpr (by omega), by omega⟩
theorem psA_len (n : Nat) : (psA n).length = n := by
  unfold psA
  rw [List.length_map, List.length_range]
theorem op_in_seqK {X : Cx} {K : PySem.W.Frag} (h : X.K = K) : OpR X (compareOp .In) (rIn K false) := by
  subst h
  exact op_in_seq
theorem op_notIn_seqK {X : Cx} {K : PySem.W.Frag} (h : X.K = K) : OpR X (compareOp .NotIn) (rIn K true) := by
  subst h
  exact op_notIn_seq
theorem SqT.same {K : PySem.W.Frag} {H H' : Hp} {a : Addr} {xs : List V} (s : Same H H') (h : SqT K H a xs) : SqT K H' a xs := (Sm.of (P := 0) s).seqT h
def rkV : Option Nat → V
  | none => .non
  | some r => .int (r : Nat)
/-- marks of the positions, and of being out: o -/
def mkO (o : Bool) (B : Int → Bool) : Mk' := fun p => if p = -1 then o else B p
theorem bsO_mkO (n : Nat) (o : Bool) (B : Int → Bool) : bsO n (mkO o B) = ((List.range n).map fun i : Nat => B (i : Int)) ++ [o] := by
  unfold bsO
  have h : ∀ k : Nat, mkO o B (k : Int) = B (k : Int) := fun k => if_neg (by omega)
  rw [show mkO o B (-1) = o from if_pos rfl, show (fun i : Nat => mkO o B (i : Int)) = fun i : Nat => B (i : Int) from funext h]
/-- the ranks rs are those of the marks M -/
def RksAt (A : Ar) (side : Int) (M : Mk') (rs : List V) : Prop := rs.length = A.length ∧ ∀ (k : Nat), k < A.length → ∃ ro, IsRk (mr A side (psA A.length) M) (k : Int) ro ∧ rs[k]? = some (rkV ro)
section
variable {P : Program} {w : World} {K : PySem.W.Frag} {mg : Str → Option Value} {base : Heap}
def spRanks (K : PySem.W.Frag) (Pt : Addr) : Sp := fun vs H Q _ => ∃ (v : V) (A : Ar) (side : Int) (ml : Addr) (B : Int → Bool), vs = [v, .int side, .ref ml] ∧ ArQ H A v ∧ A.length ≤ 500 ∧ InA A A.length ∧ H ml = some (.lst (((List.range A.length).map fun i : Nat => B (i : Int)).map V.bl)) ∧ GxR.TabG H Pt ∧
  ∀ p rs H', Sm Pt H H' → H p = none → H' p = some (.lst rs) → RksAt A side (mkO (decide (side = 1)) B) rs → Q (.ref p) H'
theorem ok_ranks_to (T : Txt K mg) {c Pt : Addr} (TB : GxR.TabB base mg c Pt) (hc : T.dforces.code = .ref c) : FnOk P w K mg base CX0 4 T.a_ranks_to T.d_ranks_to P_ranks_to (spRanks K Pt) := by
  have Gsteps_to := ok_steps_to (P := P) (w := w) T TB hc
  refine T.F_ranks_to.ok sc_ranks_to (fun vs H Q E h => ?_) (fun cdv A outer s H vs Q E hr h => ?_)
  · obtain ⟨v, A, side, ml, B, rfl, _⟩ := h
    rfl
  obtain ⟨v, A0, side, ml, B, rfl, hA, hn, hin, hm, hT, q⟩ := h
  obtain ⟨b0, xs, rfl, hb0, hxs⟩ := id hA
  have hxl := hxs.1
  refine ⟨_, (pss_cons (ps_set (i := 3) sc_ranks_to.nd rfl (Or.inr rfl) (pe_call Gsteps_to (hr.mono (by omega)) (by rfl) T.msteps_to T.Fsteps_to.kp T.bsteps_to .nil pass0 (pa_cons (pv 0) (pa_cons (pv 1) (pa_cons (pe_op op_cat (pv 2) (pe_lst (pa_cons (pe_cmpR op_eq (pv 1) (pe_glob rfl T.g_DISTURBANCE T.r_DISTURBANCE) (nomark _)) pa_nil))) (pa_cons (pe_listRg rfl (by rfl) T.z_list (prg_1 (by rfl) T.z_range (pe_callB call_len_seq (by rfl) T.z_len PySem.boot_len (pa_cons (pv 0) pa_nil)))) pa_nil))))))
    (pss_one (ps_ret (pe_lc (own := [("at", 4), ("mark", 5)]) (g := (gTup K 2 (gCons (gName 4) (gCons (gName 5) gNil)))) (tt := tYes) rfl sc_ranks_to.nd (pi_enum (by rfl) T.z_enumerate (pa_cons (pv 2) pa_nil)) (blkOk_by (N := N_ranks_to) (sc := defScope s_ranks_to) (by decide +kernel)) (fun _ _ _ _ _ => (pg_tup rfl (pgs_cons (pg_name (i := 4) sc_ranks_to.nd rfl (Or.inl rfl)) (pgs_cons (pg_name (i := 5) sc_ranks_to.nd rfl (Or.inl rfl)) pgs_nil)))) (fun _ _ _ _ _ => pts_nil) (fun _ _ _ _ _ => (pe_ifExp (pt_val (pv 5)) pe_int (pe_dget1 (hu_of hr) (pv 3) (pv 4) ⟨rfl, rfl, rfl, rfl⟩))))))), ?_⟩
  refine ⟨_, rfl, _, rfl, _, rfl, _, rfl, rfl, Nat.le_of_ble_eq_true rfl, fun l hl => ?_⟩
  obtain ⟨H1, e1, s1, k1⟩ := newH hl (.lst [V.bl (decide (V.int side = V.int 1))])
  rw [e1]
  refine ⟨ml, l, _, _, rfl, rfl, s1 _ _ hm, k1, big (by rw [List.length_map, List.length_map, List.length_range, List.length_singleton]; omega), fun m2 hm2 => ?_⟩
  obtain ⟨H2, e2, s2, k2⟩ := newH hm2 (.lst (((List.range A0.length).map fun i : Nat => B (i : Int)).map V.bl ++ [V.bl (decide (V.int side = V.int 1))]))
  rw [e2]
  have s12 := s1.trans s2
  have hb2 : H2 b0 = some (.lst xs) ∨ H2 b0 = some (.tup xs) := hb0.elim (fun h => .inl (s12 _ _ h)) (fun h => .inr (s12 _ _ h))
  refine ⟨_, rfl, b0, _, rfl, seqQ hb2, _, rfl, ⟨by omega, by omega, by omega, by omega, by omega⟩, fun al hal => ?_⟩
  obtain ⟨H3, e3, s3, k3⟩ := newH hal (.lst (rgV 0 ((xs.length : Nat) : Int)))
  rw [e3]
  have hal2 : rgV 0 ((xs.length : Nat) : Int) = (psA A0.length).map V.int := by
    rw [rgA_ints, hxl, show (((A0.length : Nat) : Int) - 0).toNat = A0.length by omega]
    unfold psA
    rw [show (fun i : Nat => (0 : Int) + (i : Int)) = fun i : Nat => (i : Int) from funext fun i => Int.zero_add _]
  rw [hal2] at k3
  have s13 := s12.trans s3
  have hmarks : ((List.range A0.length).map fun i : Nat => B (i : Int)).map V.bl ++ [V.bl (decide (V.int side = V.int 1))] = (bsO A0.length (mkO (decide (side = 1)) B)).map V.bl := by
    rw [bsO_mkO, List.map_append, dec_int, Bool.beq_eq_decide_eq]
    rfl
  refine ⟨_, A0, side, m2, al, mkO (decide (side = 1)) B, psA A0.length, rfl, hA.sm (Sm.of (P := Pt) s13), hn, hin, by rw [s3 _ _ k2, hmarks], k3, by rw [psA_len]; exact hn, fun p hp => psA_mem.mp hp, TabG.same hT s13, fun D kvs k H4 s4 hD kD hdk hst => ?_⟩
  have sA : Sm Pt H H4 := (Sm.of s13).trans s4
  refine ⟨_, rfl, ml, _, rfl, sqd (sA.lst hm), fun L hL => ?_⟩
  have hLP : L ≠ Pt := TabG.ne0 (sA.tb hT) hL
  have hLD : L ≠ D := fun z => by
    rw [z, kD] at hL
    cases hL
  refine lc_it (walk_enum (K := K) (a := ml) (xs := ((List.range A0.length).map fun i : Nat => B (i : Int)).map V.bl)) (fun (j : Nat) (H' : Hp) => Same H4 H' ∧ ∃ rs, H' L = some (.lst rs) ∧ rs.length = j ∧ ∀ i, i < j → ∃ ro, IsRk (mr A0 side (psA A0.length) (mkO (decide (side = 1)) B)) (i : Int) ro ∧ rs[i]? = some (rkV ro)) ?_ ?_ ?_ ?_
  · exact ⟨same_new hL _, [], upd_same, rfl, fun i hi => absurd hi (Nat.not_lt_zero i)⟩
  · rintro i H' _ ⟨s5, _⟩
    exact sqd (s5 _ _ (sA.lst hm))
  · rintro j x H5 H6 hj ⟨s5, rs, k5, hrl, hrs⟩ ⟨t, x1, y1, rfl, ht, rfl, hx1, hy1⟩
    cases hx1
    rw [List.length_map, List.length_map, List.length_range] at hj
    have hy1 : (((List.range A0.length).map fun i : Nat => B (i : Int)).map V.bl)[j]? = some y1 := hy1
    rw [List.getElem?_map, List.getElem?_map, List.getElem?_range hj] at hy1
    obtain rfl : V.bl (B (j : Int)) = y1 := Option.some.inj hy1
    obtain ⟨H7, e7, s7, k7⟩ := newH ht (.tup [.int (j : Nat), V.bl (B (j : Int))])
    rw [e7]
    have fin : ∀ ro, IsRk (mr A0 side (psA A0.length) (mkO (decide (side = 1)) B)) (j : Int) ro → ∃ acc, H7 L = some (.lst acc) ∧ acc.length < sizeLine ∧ (Same H4 (upd H7 L (.lst (acc ++ [rkV ro]))) ∧ ∃ rs, upd H7 L (.lst (acc ++ [rkV ro])) L = some (.lst rs) ∧ rs.length = j + 1 ∧ ∀ i, i < j + 1 → ∃ ro, IsRk (mr A0 side (psA A0.length) (mkO (decide (side = 1)) B)) (i : Int) ro ∧ rs[i]? = some (rkV ro)) := fun ro hro => by
      refine ⟨rs, s7 _ _ k5, big' (by omega), same_put (s5.trans s7) hL, _, upd_same, by rw [List.length_append, hrl]; rfl, fun i hi => ?_⟩
      by_cases hij : i < j
      · obtain ⟨r2, h1, h2⟩ := hrs i hij
        exact ⟨r2, h1, by rw [List.getElem?_append_left (by omega)]; exact h2⟩
      · have : i = j := by omega
        subst this
        refine ⟨ro, hro, ?_⟩
        rw [List.getElem?_append_right (by omega), hrl, Nat.sub_self]
        rfl
    obtain ⟨ro, hro, hr0, hr1⟩ := hdk.rk hst (p := (j : Int)) (by omega) (by omega)
    have hM : mkO (decide (side = 1)) B (j : Int) = B (j : Int) := if_neg (by omega)
    refine ⟨t, _, rfl, sqt k7, rfl, _, _, rfl, _, _, rfl, rfl, rfl, yes_if ?_⟩
    refine ⟨_, rfl, _, rfl, ?_⟩
    cases hB : B (j : Int) with
    | true =>
      refine ifT rfl ?_
      have := fin ro hro
      rw [hr0 (by rw [hM]; exact hB)] at this
      exact this
    | false =>
      refine ifF rfl ?_
      have hv := hr1 (by rw [hM]; exact hB)
      have kD7 := s7 _ _ (s5 _ _ kD)
      refine ⟨_, rfl, D, rfl, .inl ⟨_, .inl kD7⟩, _, rfl, _, DGet.k (k := Sum.inl (j : Int)) kD7, ?_⟩
      rw [hv]
      have := fin ro hro
      cases ro with
      | none => exact this
      | some r => exact this
  · rintro H5 ⟨s5, rs, k5, hrl, hrs⟩
    rw [List.length_map, List.length_map, List.length_range] at hrl hrs
    exact q L rs H5 (sA.trans (.of s5)) (sA.dom _ hL) k5 ⟨hrl, fun k hk => hrs k hk⟩
/-! ### come_ranks, stay_ranks -/
theorem dec_V {a b : Int} : decide (V.int a = V.int b) = decide (a = b) := by
  rw [dec_int, Bool.beq_eq_decide_eq]
def spComeR (K : PySem.W.Frag) (Pt : Addr) : Sp := fun vs H Q _ => ∃ (v : V) (A : Ar) (hp : Addr) (hm : List Int), vs = [v, .ref hp] ∧ ArQ H A v ∧ A.length ≤ 500 ∧ InA A A.length ∧ H hp = some (.tup (hm.map V.int)) ∧ GxR.TabG H Pt ∧
  ∀ p rs H', Sm Pt H H' → H p = none → H' p = some (.lst rs) → RksAt A 0 (mkO false (fun p => decide (p ∈ hm))) rs → Q (.ref p) H'
theorem ok_come_ranks (T : Txt K mg) {c Pt : Addr} (TB : GxR.TabB base mg c Pt) (hc : T.dforces.code = .ref c) : FnOk P w K mg base CX0 5 T.acome_ranks T.dcome_ranks Pcome_ranks (spComeR K Pt) := by
  have G_ranks_to := ok_ranks_to (P := P) (w := w) T TB hc
  refine T.Fcome_ranks.ok sccome_ranks (fun vs H Q E h => ?_) (fun cdv A outer s H vs Q E hr h => ?_)
  · obtain ⟨v, A, hp, hm, rfl, _⟩ := h
    rfl
  obtain ⟨v, A0, hp, hm, rfl, hA, hn, hin, hh, hT, q⟩ := h
  obtain ⟨b0, xs, rfl, hb0, hxs⟩ := id hA
  have hxl := hxs.1
  refine ⟨_, (pss_one (ps_ret (pe_call G_ranks_to (hr.mono (by omega)) (by rfl) T.m_ranks_to T.F_ranks_to.kp T.b_ranks_to .nil pass0 (pa_cons (pv 0) (pa_cons (pe_glob rfl T.g_CONTROLLER T.r_CONTROLLER) (pa_cons (pe_lc (own := [("at", 2)]) (g := (gName 2)) (tt := tYes) rfl sccome_ranks.nd (pi_range1 (by rfl) T.z_range (pa_cons (pe_callB call_len_seq (by rfl) T.z_len PySem.boot_len (pa_cons (pv 0) pa_nil)) pa_nil)) (blkOk_by (N := Ncome_ranks) (sc := defScope scome_ranks) (by decide +kernel)) (fun _ _ _ _ _ => (pg_name (i := 2) sccome_ranks.nd rfl (Or.inl rfl))) (fun _ _ _ _ _ => pts_nil) (fun _ _ _ _ _ => (pe_cmpR (op_in_seqK (K := K) rfl) (pv 2) (pv 1) (by rfl)))) pa_nil)))))), ?_⟩
  refine ⟨_, rfl, _, rfl, b0, _, rfl, seqQ hb0, _, rfl, by omega, by omega, fun D hD => ?_⟩
  have hDP : D ≠ Pt := TabG.ne0 hT hD
  refine lc_range (lo := 0) (n := ((xs.length : Nat) : Int).toNat) (fun (j : Nat) (H' : Hp) => Same H H' ∧ H' D = some (.lst (((List.range j).map fun i : Nat => decide ((i : Int) ∈ hm)).map V.bl))) ?_ ?_ ?_
  · exact ⟨same_new hD _, upd_same⟩
  · rintro j H1 hj ⟨s1, k1⟩
    refine ⟨rfl, yes_if ?_⟩
    refine ⟨_, rfl, _, rfl, hp, _, rfl, .inr (sqt (s1 _ _ hh)), rfl, flat_ints' hm, _, k1, big' (by rw [List.length_map, List.length_map, List.length_range]; omega), same_put s1 hD, ?_⟩
    rw [upd_same, if_neg Bool.false_ne_true, int_in, Int.zero_add, List.range_succ, List.map_append, List.map_append]
    rfl
  · rintro H1 ⟨s1, k1⟩
    rw [show ((xs.length : Nat) : Int).toNat = A0.length by omega] at k1
    refine ⟨_, A0, 0, D, fun p => decide (p ∈ hm), rfl, hA.sm (Sm.of (P := Pt) s1), hn, hin, k1, TabG.same hT s1, fun p rs H2 s2 hp2 k2 hR => ?_⟩
    exact q p rs H2 ((Sm.of s1).trans s2) (s1.free hp2) k2 hR
def spStayR (K : PySem.W.Frag) (Pt : Addr) : Sp := fun vs H Q _ => ∃ (v : V) (A : Ar) (hp : Addr) (hm : List Int), vs = [v, .ref hp] ∧ ArQ H A v ∧ A.length ≤ 500 ∧ InA A A.length ∧ (SqL K H hp (hm.map V.int) ∨ SqT K H hp (hm.map V.int)) ∧ GxR.TabG H Pt ∧
  ∀ p rs H', Sm Pt H H' → H p = none → H' p = some (.lst rs) → RksAt A 1 (mkO true (fun p => !decide (p ∈ hm))) rs → Q (.ref p) H'
theorem ok_stay_ranks (T : Txt K mg) {c Pt : Addr} (TB : GxR.TabB base mg c Pt) (hc : T.dforces.code = .ref c) : FnOk P w K mg base CX0 5 T.astay_ranks T.dstay_ranks Pstay_ranks (spStayR K Pt) := by
  have G_ranks_to := ok_ranks_to (P := P) (w := w) T TB hc
  refine T.Fstay_ranks.ok scstay_ranks (fun vs H Q E h => ?_) (fun cdv A outer s H vs Q E hr h => ?_)
  · obtain ⟨v, A, hp, hm, rfl, _⟩ := h
    rfl
  obtain ⟨v, A0, hp, hm, rfl, hA, hn, hin, hh, hT, q⟩ := h
  obtain ⟨b0, xs, rfl, hb0, hxs⟩ := id hA
  have hxl := hxs.1
  refine ⟨_, (pss_one (ps_ret (pe_call G_ranks_to (hr.mono (by omega)) (by rfl) T.m_ranks_to T.F_ranks_to.kp T.b_ranks_to .nil pass0 (pa_cons (pv 0) (pa_cons (pe_glob rfl T.g_DISTURBANCE T.r_DISTURBANCE) (pa_cons (pe_lc (own := [("at", 2)]) (g := (gName 2)) (tt := tYes) rfl scstay_ranks.nd (pi_range1 (by rfl) T.z_range (pa_cons (pe_callB call_len_seq (by rfl) T.z_len PySem.boot_len (pa_cons (pv 0) pa_nil)) pa_nil)) (blkOk_by (N := Nstay_ranks) (sc := defScope sstay_ranks) (by decide +kernel)) (fun _ _ _ _ _ => (pg_name (i := 2) scstay_ranks.nd rfl (Or.inl rfl))) (fun _ _ _ _ _ => pts_nil) (fun _ _ _ _ _ => (pe_cmpR (op_notIn_seqK (K := K) rfl) (pv 2) (pv 1) (by rfl)))) pa_nil)))))), ?_⟩
  refine ⟨_, rfl, _, rfl, b0, _, rfl, seqQ hb0, _, rfl, by omega, by omega, fun D hD => ?_⟩
  have hDP : D ≠ Pt := TabG.ne0 hT hD
  refine lc_range (lo := 0) (n := ((xs.length : Nat) : Int).toNat) (fun (j : Nat) (H' : Hp) => Same H H' ∧ H' D = some (.lst (((List.range j).map fun i : Nat => !decide ((i : Int) ∈ hm)).map V.bl))) ?_ ?_ ?_
  · exact ⟨same_new hD _, upd_same⟩
  · rintro j H1 hj ⟨s1, k1⟩
    refine ⟨rfl, yes_if ?_⟩
    refine ⟨_, rfl, _, rfl, hp, _, rfl, hh.elim (fun h => .inl (s1.seq h)) (fun h => .inr (SqT.same s1 h)), rfl, flat_ints' hm, _, k1, big' (by rw [List.length_map, List.length_map, List.length_range]; omega), same_put s1 hD, ?_⟩
    rw [upd_same, notIn_int, Int.zero_add, List.range_succ, List.map_append, List.map_append]
    rfl
  · rintro H1 ⟨s1, k1⟩
    rw [show ((xs.length : Nat) : Int).toNat = A0.length by omega] at k1
    refine ⟨_, A0, 1, D, fun p => !decide (p ∈ hm), rfl, hA.sm (Sm.of (P := Pt) s1), hn, hin, k1, TabG.same hT s1, fun p rs H2 s2 hp2 k2 hR => ?_⟩
    exact q p rs H2 ((Sm.of s1).trans s2) (s1.free hp2) k2 hR
end
end NL

namespace NL
open PySem PySem.Spec PyProof.Rows L2
/-! ### a list of ints by places -/
def lzF (n : Nat) (φ : Nat → Int) : List Int := (List.range n).map φ
theorem lzF_len (n : Nat) (φ : Nat → Int) : (lzF n φ).length = n := by unfold lzF; rw [List.length_map, List.length_range]
theorem lzF_at {n : Nat} {φ : Nat → Int} {k : Nat} (h : k < n) : (lzF n φ)[k]? = some (φ k) := by
  unfold lzF
  rw [List.getElem?_map, List.getElem?_range h]
  rfl
theorem lzF_get {n : Nat} {φ : Nat → Int} {k : Int} (h0 : 0 ≤ k) (h1 : k < n) : atI ((lzF n φ).map V.int) k = some (.int (φ k.toNat)) := by
  have := atI_nat (j := k.toNat) (show ((lzF n φ).map V.int)[k.toNat]? = some (V.int (φ k.toNat)) by rw [List.getElem?_map, lzF_at (by omega)]; rfl)
  rw [show ((k.toNat : Nat) : Int) = k by omega] at this
  exact this
theorem lzF_ext {n : Nat} {φ ψ : Nat → Int} (h : ∀ k, k < n → φ k = ψ k) : lzF n φ = lzF n ψ := List.map_congr_left fun k hk => h k (List.mem_range.mp hk)
theorem lzF_inj {n : Nat} {φ ψ : Nat → Int} (h : lzF n φ = lzF n ψ) (k : Nat) (hk : k < n) : φ k = ψ k := by
  have := lzF_at (φ := φ) hk
  rw [h, lzF_at hk] at this
  exact (Option.some.inj this).symm
theorem lzF_set {n i : Nat} {φ : Nat → Int} {c : Int} (hi : i < n) : ((lzF n φ).map V.int).set i (.int c) = (lzF n fun k => if k = i then c else φ k).map V.int := by
  refine List.ext_getElem? fun k => ?_
  rw [List.getElem?_set]
  by_cases hk : i = k
  · subst hk
    rw [if_pos rfl, if_pos (by rw [List.length_map, lzF_len]; exact hi), List.getElem?_map, lzF_at hi, Option.map_some, if_pos rfl]
  · rw [if_neg hk, List.getElem?_map, List.getElem?_map]
    rcases Nat.lt_or_ge k n with h | h
    · rw [lzF_at h, lzF_at h, if_neg (fun e => hk e.symm)]
    · rw [List.getElem?_eq_none (by rw [lzF_len]; exact h), List.getElem?_eq_none (by rw [lzF_len]; exact h)]
theorem lzF_snoc (n : Nat) (φ : Nat → Int) : (lzF (n + 1) φ).map V.int = (lzF n φ).map V.int ++ [V.int (φ n)] := by
  unfold lzF
  rw [List.range_succ, List.map_append, List.map_append]
  rfl
theorem eqv_intsG : ∀ l m : List Int, PyData.eqvAll (l.map PyData.int) (m.map PyData.int) = true → l = m
  | [], [], _ => rfl
  | [], b :: m, h => by cases h
  | a :: l, [], h => by cases h
  | a :: l, b :: m, h => by
    have h' : ((a == b) && PyData.eqvAll (l.map PyData.int) (m.map PyData.int)) = true := h
    rw [Bool.and_eq_true] at h'
    rw [eq_of_beq h'.1, eqv_intsG l m h'.2]
theorem eqv_reflG : ∀ l : List Int, PyData.eqvAll (l.map PyData.int) (l.map PyData.int) = true
  | [] => rfl
  | a :: l => by
    show ((a == a) && PyData.eqvAll (l.map PyData.int) (l.map PyData.int)) = true
    rw [eqv_reflG l, beq_self_eq_true]
    rfl
theorem inT_intG {x : Int} {l : List Int} : (V.bl (if false = true then !inV (V.int x) (l.map V.int) else inV (V.int x) (l.map V.int))) = V.bl (decide (x ∈ l)) := by
  rw [if_neg Bool.false_ne_true, int_in]
/-! ### the rounds of marks, told as the round of each position (-1: none yet) -/
def hz (f : Nat → Mk') : Nat → Int → Int
  | 0, p => if f 0 p = true then 0 else -1
  | k + 1, p => if 0 ≤ hz f k p then hz f k p else if f (k + 1) p = true then ((k + 1 : Nat) : Int) else -1
theorem hz_ge (f : Nat → Mk') : ∀ k p, -1 ≤ hz f k p
  | 0, p => by unfold hz; split <;> omega
  | k + 1, p => by
    unfold hz
    split
    · exact hz_ge f k p
    · split <;> omega
theorem hz_le (f : Nat → Mk') : ∀ k p, hz f k p ≤ (k : Int)
  | 0, p => by unfold hz; split <;> omega
  | k + 1, p => by
    have := hz_le f k p
    unfold hz
    split
    · omega
    · split <;> omega
theorem up_le {f : Nat → Mk'} (up : ∀ k p, f k p = true → f (k + 1) p = true) {p : Int} {j k : Nat} (h : j ≤ k) (e : f j p = true) : f k p = true := by
  induction h with
  | refl => exact e
  | step _ ih => exact up _ _ ih
section
variable {f : Nat → Mk'} (up : ∀ k p, f k p = true → f (k + 1) p = true)
include up
theorem hz_says : ∀ k p, (hz f k p < 0 → f k p = false) ∧ (0 ≤ hz f k p → f k p = true ∧ f (hz f k p).toNat p = true ∧ ∀ j, j < (hz f k p).toNat → f j p = false)
  | 0, p => by
    unfold hz
    cases h : f 0 p with
    | true =>
      rw [if_pos rfl]
      exact ⟨fun z => absurd z (by decide), fun _ => ⟨rfl, h, fun j hj => absurd hj (Nat.not_lt_zero j)⟩⟩
    | false =>
      rw [if_neg Bool.false_ne_true]
      exact ⟨fun _ => rfl, fun z => absurd z (by decide)⟩
  | k + 1, p => by
    obtain ⟨h1, h2⟩ := hz_says k p
    unfold hz
    by_cases h : 0 ≤ hz f k p
    · rw [if_pos h]
      obtain ⟨g1, g2, g3⟩ := h2 h
      exact ⟨fun z => absurd h (by omega), fun _ => ⟨up k p g1, g2, g3⟩⟩
    · rw [if_neg h]
      have hk := h1 (by omega)
      cases hf : f (k + 1) p with
      | true =>
        rw [if_pos rfl]
        refine ⟨fun z => by omega, fun _ => ⟨rfl, hf, fun j hj => ?_⟩⟩
        have hj2 : j ≤ k := by
          have : (((k + 1 : Nat) : Int)).toNat = k + 1 := Int.toNat_natCast _
          omega
        cases hfj : f j p with
        | false => rfl
        | true =>
          have : f k p = true := up_le up hj2 hfj
          rw [this] at hk
          cases hk
      | false =>
        rw [if_neg Bool.false_ne_true]
        exact ⟨fun _ => rfl, fun z => absurd z (by decide)⟩
end
def zOf : Option Nat → Int
  | none => -1
  | some r => (r : Nat)
end NL

namespace NL
open PySem PySem.Spec PyProof.Rows L2
theorem pi_tupK {X : Cx} {K : PySem.W.Frag} {tg l : Expr} {tl : TE} (h : X.K = K) (hl : PE X l tl) : PI X tg l (iTup K tl) := by
  subst h
  exact pi_tup hl
theorem cr_allK {X : Cx} {K : PySem.W.Frag} (h : X.K = K) (hc : X.calm = true) : CallR X (.builtin "all") (rAll K) := by
  subst h
  exact cr_all hc
theorem ArG.inA {A : Ar} (h : ArG A) : InA A A.length := fun os hos o ho p hp => ((h.2 os hos).2 o ho).mem p hp
end NL

namespace NL
open PySem PySem.Spec PyProof.Rows L2
/-! ### two answers that are the same -/
def Alk : Nat → Hp → V → V → Prop
  | 0, _, _, _ => False
  | n + 1, H, u, v => (u = .non ∧ v = .non) ∨ (∃ s, u = .str s ∧ v = .str s) ∨ (∃ i, u = .int i ∧ v = .int i) ∨ ∃ a b xs ys, u = .ref a ∧ v = .ref b ∧ H a = some (.tup xs) ∧ H b = some (.tup ys) ∧ xs.length = ys.length ∧ ys.length ≤ 1000000 ∧
      ∀ (k : Nat) x y, xs[k]? = some x → ys[k]? = some y → Alk n H x y
theorem Alk.ints {H : Hp} {a b : Addr} {l : List Int} (ha : H a = some (.tup (l.map V.int))) (hb : H b = some (.tup (l.map V.int))) (hl : l.length ≤ 1000000) : Alk 2 H (.ref a) (.ref b) := by
  refine .inr (.inr (.inr ⟨a, b, _, _, rfl, rfl, ha, hb, rfl, by rw [List.length_map]; exact hl, fun k x y hx hy => ?_⟩))
  rw [hx] at hy
  cases hy
  rw [List.getElem?_map] at hx
  obtain ⟨i, _, rfl⟩ := Option.map_eq_some_iff.mp hx
  exact .inr (.inr (.inl ⟨i, rfl, rfl⟩))
section
variable {P : Program} {w : World} {K : PySem.W.Frag} {mg : Str → Option Value} {base : Heap}
def spSame (n : Nat) : Sp := fun vs H Q _ => ∃ u v : V, vs = [u, v] ∧ Alk n H u v ∧ Q (.bl true) H
end
end NL

set_option maxHeartbeats 4000000
namespace NL
open PySem PySem.Spec PyProof.Rows L2
/-! ### ascending lists -/
abbrev Asc (l : List Int) : Prop := l.Pairwise (· < ·)
theorem asc_ext : ∀ {l m : List Int}, Asc l → Asc m → (∀ x, x ∈ l ↔ x ∈ m) → l = m
  | [], [], _, _, _ => rfl
  | [], b :: m, _, _, h => by have := (h b).mpr List.mem_cons_self; cases this
  | a :: l, [], _, _, h => by have := (h a).mp List.mem_cons_self; cases this
  | a :: l, b :: m, hl, hm, h => by
    obtain ⟨hl1, hl2⟩ := List.pairwise_cons.mp hl
    obtain ⟨hm1, hm2⟩ := List.pairwise_cons.mp hm
    have e : a = b := by
      rcases List.mem_cons.mp ((h a).mp List.mem_cons_self) with e | e
      · exact e
      · rcases List.mem_cons.mp ((h b).mpr List.mem_cons_self) with e' | e'
        · exact e'.symm
        · have := hm1 a e
          have := hl1 b e'
          omega
    subst e
    rw [asc_ext hl2 hm2 fun x => ?_]
    constructor
    · intro hx
      rcases List.mem_cons.mp ((h x).mp (List.mem_cons_of_mem _ hx)) with e | e
      · have := hl1 x hx
        omega
      · exact e
    · intro hx
      rcases List.mem_cons.mp ((h x).mpr (List.mem_cons_of_mem _ hx)) with e | e
      · have := hm1 x hx
        omega
      · exact e
def insU (x : Int) : List Int → List Int
  | [] => [x]
  | a :: r => if x < a then x :: a :: r else if x = a then a :: r else a :: insU x r
theorem mem_insU {x y : Int} : ∀ {l : List Int}, y ∈ insU x l ↔ y = x ∨ y ∈ l
  | [] => by simp [insU]
  | a :: r => by
    unfold insU
    split
    · simp
    · split
      · rename_i h
        subst h
        simp
      · rw [List.mem_cons, mem_insU, List.mem_cons]
        constructor
        · rintro (h | h | h) <;> simp [h]
        · rintro (h | h | h) <;> simp [h]
theorem asc_insU {x : Int} : ∀ {l : List Int}, Asc l → Asc (insU x l)
  | [], _ => List.pairwise_singleton _ _
  | a :: r, h => by
    obtain ⟨h1, h2⟩ := List.pairwise_cons.mp h
    unfold insU
    split
    · rename_i hx
      refine List.pairwise_cons.mpr ⟨fun y hy => ?_, h⟩
      rcases List.mem_cons.mp hy with e | e
      · omega
      · have := h1 y e
        omega
    · split
      · exact h
      · refine List.pairwise_cons.mpr ⟨fun y hy => ?_, asc_insU h2⟩
        rcases mem_insU.mp hy with e | e
        · omega
        · exact h1 y e
def srt (l : List Int) : List Int := l.foldr insU []
theorem mem_srt {y : Int} : ∀ {l : List Int}, y ∈ srt l ↔ y ∈ l
  | [] => Iff.rfl
  | a :: r => by
    show y ∈ insU a (srt r) ↔ _
    rw [mem_insU, mem_srt, List.mem_cons]
theorem asc_srt : ∀ {l : List Int}, Asc (srt l)
  | [] => List.Pairwise.nil
  | a :: r => asc_insU asc_srt
theorem srt_id {l : List Int} (h : Asc l) : srt l = l := asc_ext asc_srt h fun _ => mem_srt
theorem srt_ext {l m : List Int} (h : ∀ x, x ∈ l ↔ x ∈ m) : srt l = srt m := asc_ext asc_srt asc_srt fun x => by rw [mem_srt, mem_srt, h]
theorem srt_is {l m : List Int} (hm : Asc m) (h : ∀ x, x ∈ m ↔ x ∈ l) : m = srt l := asc_ext hm asc_srt fun x => by rw [mem_srt, h]
theorem asc_filter {l : List Int} (p : Int → Bool) (h : Asc l) : Asc (l.filter p) := h.sublist List.filter_sublist
theorem srt_len : ∀ {l : List Int}, (srt l).length ≤ l.length
  | [] => Nat.le_refl _
  | a :: r => by
    have : ∀ {m : List Int}, (insU a m).length ≤ m.length + 1 := fun {m} => by
      induction m with
      | nil => exact Nat.le_refl _
      | cons b t ih =>
        unfold insU
        split
        · exact Nat.le_refl _
        · split
          · exact Nat.le_succ _
          · exact Nat.succ_le_succ ih
    have h1 := srt_len (l := r)
    have h2 := this (m := srt r)
    show (insU a (srt r)).length ≤ r.length + 1
    omega
/-- an ascending list from lo up to less than hi is short -/
theorem asc_short : ∀ {l : List Int} {lo hi : Int}, Asc l → (∀ x ∈ l, lo ≤ x ∧ x < hi) → lo ≤ hi → (l.length : Int) ≤ hi - lo
  | [], lo, hi, _, _, h => by show (0 : Int) ≤ _; omega
  | a :: r, lo, hi, h, hb, hlh => by
    obtain ⟨h1, h2⟩ := List.pairwise_cons.mp h
    have ha := hb a List.mem_cons_self
    have := asc_short (l := r) (lo := a + 1) (hi := hi) h2 (fun x hx => ⟨by have := h1 x hx; omega, (hb x (List.mem_cons_of_mem _ hx)).2⟩) (by omega)
    rw [List.length_cons]
    omega
/-! ### positions parted by their readings -/
def prt (rd : Int → Int) (ps : List Int) : List (List Int) := (srt (ps.map rd)).map fun r => ps.filter fun p => decide (rd p = r)
theorem prt_srt (rd : Int → Int) (ps : List Int) : prt rd (srt ps) = (srt (ps.map rd)).map fun r => srt (ps.filter fun p => decide (rd p = r)) := by
  unfold prt
  rw [show srt ((srt ps).map rd) = srt (ps.map rd) from srt_ext fun x => by simp only [List.mem_map, mem_srt]]
  refine List.map_congr_left fun r _ => asc_ext (asc_filter _ asc_srt) asc_srt fun x => ?_
  rw [mem_srt, List.mem_filter, List.mem_filter, mem_srt]
theorem mem_prt {rd : Int → Int} {ps g : List Int} (h : g ∈ prt rd ps) : ∃ p ∈ ps, g = ps.filter fun q => decide (rd q = rd p) := by
  obtain ⟨r, hr, rfl⟩ := List.mem_map.mp h
  obtain ⟨p, hp, rfl⟩ := List.mem_map.mp (mem_srt.mp hr)
  exact ⟨p, hp, rfl⟩
theorem prt_of {rd : Int → Int} {ps : List Int} {p : Int} (h : p ∈ ps) : (ps.filter fun q => decide (rd q = rd p)) ∈ prt rd ps := List.mem_map.mpr ⟨rd p, mem_srt.mpr (List.mem_map.mpr ⟨p, h, rfl⟩), rfl⟩
theorem prt_len {rd : Int → Int} {ps : List Int} : (prt rd ps).length ≤ ps.length := by
  unfold prt
  rw [List.length_map]
  have := srt_len (l := ps.map rd)
  rw [List.length_map] at this
  exact this
/-- a known set -/
structure KS (rd : Int → Int) (n : Int) (g : List Int) : Prop where
  ne : g ≠ []
  asc : Asc g
  mem : ∀ p ∈ g, 0 ≤ p ∧ p < n
  one : ∀ p ∈ g, ∀ q ∈ g, rd p = rd q
theorem prt_ks {rd : Int → Int} {n : Int} {ps : List Int} (ha : Asc ps) (hm : ∀ p ∈ ps, 0 ≤ p ∧ p < n) : ∀ g ∈ prt rd ps, KS rd n g := fun g hg => by
  obtain ⟨p, hp, rfl⟩ := mem_prt hg
  refine ⟨fun e => ?_, asc_filter _ ha, fun q hq => hm q (List.mem_filter.mp hq).1, fun x hx y hy => ?_⟩
  · have : p ∈ ps.filter fun q => decide (rd q = rd p) := List.mem_filter.mpr ⟨hp, decide_eq_true rfl⟩
    rw [e] at this
    cases this
  · rw [of_decide_eq_true (List.mem_filter.mp hx).2, of_decide_eq_true (List.mem_filter.mp hy).2]
theorem prt_nodup {rd : Int → Int} {ps : List Int} : (prt rd ps).Nodup := by
  unfold prt
  refine List.pairwise_map.mpr ?_
  have h : (srt (ps.map rd)).Pairwise fun a b => a ≠ b ∧ a ∈ ps.map rd := by
    refine List.Pairwise.imp_of_mem (R := (· < ·)) (fun {a b} ha _ hab => ⟨by omega, mem_srt.mp ha⟩) asc_srt
  refine h.imp fun {a b} hab e => ?_
  obtain ⟨p, hp, hpa⟩ := List.mem_map.mp hab.2
  have h1 : p ∈ ps.filter fun q => decide (rd q = a) := List.mem_filter.mpr ⟨hp, decide_eq_true hpa⟩
  rw [e] at h1
  have h2 := of_decide_eq_true (List.mem_filter.mp h1).2
  omega
/-! ### numbers of sets -/
def nr : List (List Int) → List Int → Nat
  | [], _ => 0
  | a :: r, g => if a = g then 0 else nr r g + 1
theorem nr_get : ∀ {S : List (List Int)} {g : List Int}, g ∈ S → S[nr S g]? = some g
  | [], g, h => by cases h
  | a :: r, g, h => by
    unfold nr
    by_cases e : a = g
    · rw [if_pos e, e]
      rfl
    · rw [if_neg e]
      rcases List.mem_cons.mp h with h | h
      · exact absurd h.symm e
      · rw [List.getElem?_cons_succ]
        exact nr_get h
theorem nr_lt {S : List (List Int)} {g : List Int} (h : g ∈ S) : nr S g < S.length := (List.getElem?_eq_some_iff.mp (nr_get h)).1
theorem nr_app : ∀ {S T : List (List Int)} {g : List Int}, g ∈ S → nr (S ++ T) g = nr S g
  | [], T, g, h => by cases h
  | a :: r, T, g, h => by
    rw [List.cons_append]
    unfold nr
    by_cases e : a = g
    · rw [if_pos e, if_pos e]
    · rw [if_neg e, if_neg e]
      rcases List.mem_cons.mp h with h | h
      · exact absurd h.symm e
      · rw [nr_app h]
theorem nr_new : ∀ {S : List (List Int)} {g : List Int}, g ∉ S → nr (S ++ [g]) g = S.length
  | [], g, _ => by simp [nr]
  | a :: r, g, h => by
    rw [List.cons_append]
    unfold nr
    rw [if_neg (fun e => h (by rw [e]; exact List.mem_cons_self)), nr_new (fun e => h (List.mem_cons_of_mem _ e))]
    rfl
theorem nr_inj {S : List (List Int)} {g h : List Int} (hg : g ∈ S) (hh : h ∈ S) (e : nr S g = nr S h) : g = h := by
  have h1 := nr_get hg
  have h2 := nr_get hh
  rw [e, h2] at h1
  exact (Option.some.inj h1).symm
theorem nr_at : ∀ {S : List (List Int)} {k : Nat} {g : List Int}, S.Nodup → S[k]? = some g → nr S g = k := fun {S k g} hS hk => by
  have h1 := nr_get (List.mem_of_getElem? hk)
  have a1 := (List.getElem?_eq_some_iff.mp h1)
  have a2 := (List.getElem?_eq_some_iff.mp hk)
  obtain ⟨b1, c1⟩ := a1
  obtain ⟨b2, c2⟩ := a2
  rcases Nat.lt_trichotomy (nr S g) k with hlt | he | hlt
  · exact absurd (c1.trans c2.symm) (List.pairwise_iff_getElem.mp hS _ _ b1 b2 hlt)
  · exact he
  · exact absurd (c2.trans c1.symm) (List.pairwise_iff_getElem.mp hS _ _ b2 b1 hlt)
def addS (S : List (List Int)) : List (List Int) → List (List Int)
  | [] => S
  | g :: r => addS (if g ∈ S then S else S ++ [g]) r
theorem addS_pre : ∀ {G S : List (List Int)}, ∃ T, addS S G = S ++ T
  | [], S => ⟨[], (List.append_nil _).symm⟩
  | g :: r, S => by
    unfold addS
    obtain ⟨T, hT⟩ := addS_pre (G := r) (S := if g ∈ S then S else S ++ [g])
    rw [hT]
    by_cases h : g ∈ S
    · exact ⟨T, by rw [if_pos h]⟩
    · exact ⟨[g] ++ T, by rw [if_neg h, List.append_assoc]⟩
theorem mem_addS {x : List Int} : ∀ {G S : List (List Int)}, x ∈ addS S G ↔ x ∈ S ∨ x ∈ G
  | [], S => by simp [addS]
  | g :: r, S => by
    unfold addS
    rw [mem_addS]
    by_cases h : g ∈ S
    · rw [if_pos h, List.mem_cons]
      constructor
      · rintro (e | e) <;> simp [e]
      · rintro (e | e | e)
        · exact .inl e
        · exact .inl (e ▸ h)
        · exact .inr e
    · rw [if_neg h, List.mem_append, List.mem_singleton, List.mem_cons, or_assoc]
theorem addS_nodup : ∀ {G S : List (List Int)}, S.Nodup → (addS S G).Nodup
  | [], S, h => h
  | g :: r, S, h => by
    unfold addS
    refine addS_nodup ?_
    by_cases e : g ∈ S
    · rw [if_pos e]
      exact h
    · rw [if_neg e]
      exact List.nodup_append.mpr ⟨h, by simp, fun a ha b hb q => e (by rw [← List.mem_singleton.mp hb, ← q]; exact ha)⟩
theorem addS_app (S G : List (List Int)) (g : List Int) : addS S (G ++ [g]) = if g ∈ addS S G then addS S G else addS S G ++ [g] := by
  induction G generalizing S with
  | nil => rfl
  | cons a r ih =>
    rw [List.cons_append]
    unfold addS
    exact ih _
/-! ### the known arena, step by step -/
def optOf (A : Ar) (p : Int) (i : Nat) : Opt := (A.getD p.toNat []).getD i []
def lenOf (A : Ar) (p : Int) : Nat := (A.getD p.toNat []).length
def aft (A : Ar) (K : List Int) (i : Nat) : List Int := K.flatMap fun p => optOf A p i
def succs (A : Ar) (K : List Int) (i : Nat) : List Int := srt (aft A K i)
def fol (A : Ar) (rd : Int → Int) (K : List Int) (i : Nat) : List (List Int) := prt rd ((succs A K i).filter fun p => !decide (p = -1))
def optK (A : Ar) (rd : Int → Int) (S : List (List Int)) (K : List Int) (i : Nat) : Opt := (if (-1 : Int) ∈ succs A K i then [-1] else []) ++ srt ((fol A rd K i).map fun g => ((nr S g : Nat) : Int))
def wid (A : Ar) : List Int → Nat
  | [] => 0
  | [p] => lenOf A p
  | p :: q :: r => min (lenOf A p) (wid A (q :: r))
theorem wid_le {A : Ar} : ∀ {K : List Int}, ∀ p ∈ K, wid A K ≤ lenOf A p
  | [], p, h => by cases h
  | [q], p, h => by rw [List.mem_singleton.mp h]; exact Nat.le_refl _
  | a :: q :: r, p, h => by
    unfold wid
    rcases List.mem_cons.mp h with h | h
    · rw [h]
      exact Nat.min_le_left _ _
    · exact Nat.le_trans (Nat.min_le_right _ _) (wid_le p h)
theorem wid_mem {A : Ar} : ∀ {K : List Int}, K ≠ [] → ∃ p ∈ K, wid A K = lenOf A p
  | [], h => absurd rfl h
  | [q], h => ⟨q, List.mem_cons_self, rfl⟩
  | a :: q :: r, h => by
    unfold wid
    obtain ⟨p, hp, e⟩ := wid_mem (A := A) (K := q :: r) (by simp)
    rcases Nat.le_total (lenOf A a) (wid A (q :: r)) with g | g
    · exact ⟨a, List.mem_cons_self, Nat.min_eq_left g⟩
    · exact ⟨p, List.mem_cons_of_mem _ hp, by rw [Nat.min_eq_right g, e]⟩
theorem wid_is {A : Ar} {K : List Int} {m : Nat} (h1 : ∀ p ∈ K, m ≤ lenOf A p) (h2 : ∃ p ∈ K, m = lenOf A p) : m = wid A K := by
  obtain ⟨p, hp, e⟩ := h2
  obtain ⟨q, hq, e2⟩ := wid_mem (A := A) (K := K) (fun e => by rw [e] at hp; cases hp)
  have := wid_le (A := A) p hp
  have := h1 q hq
  omega
/-- the sets behind the first w options of K -/
def rowS (A : Ar) (rd : Int → Int) (K : List Int) (S : List (List Int)) : Nat → List (List Int)
  | 0 => S
  | w + 1 => addS (rowS A rd K S w) (fol A rd K w)
def stp (A : Ar) (rd : Int → Int) (x : List (List Int) × Ar) : List (List Int) × Ar := match x.1[x.2.length]? with
  | none => x
  | some K => (rowS A rd K x.1 (wid A K), x.2 ++ [(List.range (wid A K)).map (optK A rd (rowS A rd K x.1 (wid A K)) K)])
def kn (A : Ar) (rd : Int → Int) (st : List Int) : Nat → List (List Int) × Ar
  | 0 => (prt rd st, [])
  | n + 1 => stp A rd (kn A rd st n)
section
variable {A : Ar} {rd : Int → Int} {st : List Int}
theorem rowS_pre {K : List Int} {S : List (List Int)} : ∀ w, ∃ T, rowS A rd K S w = S ++ T
  | 0 => ⟨[], (List.append_nil _).symm⟩
  | w + 1 => by
    obtain ⟨T, hT⟩ := rowS_pre (K := K) (S := S) w
    obtain ⟨T2, h2⟩ := addS_pre (G := fol A rd K w) (S := rowS A rd K S w)
    exact ⟨T ++ T2, by show addS _ _ = _; rw [h2, hT, List.append_assoc]⟩
theorem rowS_le {K : List Int} {S : List (List Int)} {v w : Nat} (h : v ≤ w) : ∃ T, rowS A rd K S w = rowS A rd K S v ++ T := by
  induction h with
  | refl => exact ⟨[], (List.append_nil _).symm⟩
  | step h ih =>
    obtain ⟨T, hT⟩ := ih
    obtain ⟨T2, h2⟩ := addS_pre (G := fol A rd K _) (S := rowS A rd K S _)
    exact ⟨T ++ T2, by show addS _ _ = _; rw [h2, hT, List.append_assoc]⟩
theorem rowS_fol {K : List Int} {S : List (List Int)} {i w : Nat} (h : i < w) : ∀ g ∈ fol A rd K i, g ∈ rowS A rd K S w := fun g hg => by
  obtain ⟨T, hT⟩ := rowS_le (A := A) (rd := rd) (K := K) (S := S) (show i + 1 ≤ w from h)
  rw [hT]
  exact List.mem_append_left _ (mem_addS.mpr (.inr hg))
theorem optK_app {S T : List (List Int)} {K : List Int} {i : Nat} (h : ∀ g ∈ fol A rd K i, g ∈ S) : optK A rd (S ++ T) K i = optK A rd S K i := by
  unfold optK
  rw [List.map_congr_left fun g hg => by rw [nr_app (h g hg)]]
/-- what holds of the sets found so far -/
structure KnI (A : Ar) (rd : Int → Int) (st : List Int) (S : List (List Int)) (F : Ar) : Prop where
  nd : S.Nodup
  ks : ∀ g ∈ S, KS rd (A.length : Int) g
  le : F.length ≤ S.length
  pre : ∃ T, S = prt rd st ++ T
  row : ∀ (k : Nat) (K : List Int), k < F.length → S[k]? = some K → F[k]? = some ((List.range (wid A K)).map (optK A rd S K)) ∧ ∀ i, i < wid A K → ∀ g ∈ fol A rd K i, g ∈ S
theorem lenOf_at {p : Int} {os : Pos'} (h : A[p.toNat]? = some os) : lenOf A p = os.length := by
  unfold lenOf
  rw [List.getD_eq_getElem?_getD, h]
  rfl
theorem optOf_at {p : Int} {i : Nat} {os : Pos'} {o : Opt} (h : A[p.toNat]? = some os) (h2 : os[i]? = some o) : optOf A p i = o := by
  unfold optOf
  rw [List.getD_eq_getElem?_getD, List.getD_eq_getElem?_getD, h, Option.getD_some, h2]
  rfl
theorem optOf_g (hG : ArG A) {p : Int} {i : Nat} (p0 : 0 ≤ p) (p1 : p < (A.length : Int)) (hi : i < lenOf A p) : ∃ os o, A[p.toNat]? = some os ∧ os[i]? = some o ∧ optOf A p i = o ∧ lenOf A p = os.length ∧ OptG (A.length : Int) o ∧ o ∈ os ∧ os ∈ A := by
  have hk : p.toNat < A.length := by omega
  have h1 : A[p.toNat]? = some A[p.toNat] := List.getElem?_eq_getElem hk
  have h3 := lenOf_at h1
  have h2 : A[p.toNat][i]? = some A[p.toNat][i] := List.getElem?_eq_getElem (by omega)
  exact ⟨_, _, h1, h2, optOf_at h1 h2, h3, (hG.2 _ (List.mem_of_getElem? h1)).2 _ (List.mem_of_getElem? h2), List.mem_of_getElem? h2, List.mem_of_getElem? h1⟩
theorem succs_mem (hG : ArG A) {K : List Int} {i : Nat} (hK : ∀ p ∈ K, 0 ≤ p ∧ p < (A.length : Int)) (hi : ∀ p ∈ K, i < lenOf A p) : ∀ s ∈ succs A K i, -1 ≤ s ∧ s < (A.length : Int) := fun s hs => by
  obtain ⟨p, hp, hs⟩ := List.mem_flatMap.mp (mem_srt.mp hs)
  obtain ⟨os, o, _, _, e, _, hO, _⟩ := optOf_g hG (hK p hp).1 (hK p hp).2 (hi p hp)
  rw [e] at hs
  exact hO.mem s hs
theorem fol_ks (hG : ArG A) {K : List Int} {i : Nat} (hK : KS rd (A.length : Int) K) (hi : i < wid A K) : ∀ g ∈ fol A rd K i, KS rd (A.length : Int) g :=
  prt_ks (asc_filter _ asc_srt) fun p hp => by
    obtain ⟨h1, h2⟩ := List.mem_filter.mp hp
    have := succs_mem hG hK.mem (fun p hp => Nat.lt_of_lt_of_le hi (wid_le p hp)) p h1
    have h3 : p ≠ -1 := by simpa using h2
    omega
theorem rowS_ks (hG : ArG A) {K : List Int} {S : List (List Int)} (hK : KS rd (A.length : Int) K) (hS : ∀ g ∈ S, KS rd (A.length : Int) g) : ∀ w, w ≤ wid A K → ∀ g ∈ rowS A rd K S w, KS rd (A.length : Int) g
  | 0, _, g, hg => hS g hg
  | w + 1, hw, g, hg => by
    rcases mem_addS.mp hg with h | h
    · exact rowS_ks hG hK hS w (by omega) g h
    · exact fol_ks hG hK (by omega) g h
theorem rowS_nodup {K : List Int} {S : List (List Int)} (hS : S.Nodup) : ∀ w, (rowS A rd K S w).Nodup
  | 0 => hS
  | w + 1 => addS_nodup (rowS_nodup hS w)
theorem kn_inv (hG : ArG A) (hs : Asc st) (hm : ∀ p ∈ st, 0 ≤ p ∧ p < (A.length : Int)) : ∀ n, KnI A rd st (kn A rd st n).1 (kn A rd st n).2
  | 0 => ⟨prt_nodup, prt_ks hs hm, Nat.zero_le _, ⟨[], (List.append_nil _).symm⟩, fun k K h => absurd h (Nat.not_lt_zero k)⟩
  | n + 1 => by
    have I := kn_inv hG hs hm n
    show KnI A rd st (stp A rd (kn A rd st n)).1 (stp A rd (kn A rd st n)).2
    generalize kn A rd st n = x at I
    obtain ⟨S, F⟩ := x
    have I : KnI A rd st S F := I
    unfold stp
    show KnI A rd st (match S[F.length]? with
      | none => (S, F)
      | some K => (rowS A rd K S (wid A K), F ++ [(List.range (wid A K)).map (optK A rd (rowS A rd K S (wid A K)) K)])).1 (match S[F.length]? with
      | none => (S, F)
      | some K => (rowS A rd K S (wid A K), F ++ [(List.range (wid A K)).map (optK A rd (rowS A rd K S (wid A K)) K)])).2
    cases hk : S[F.length]? with
    | none => exact I
    | some K =>
      have hK := I.ks K (List.mem_of_getElem? hk)
      have hlt := (List.getElem?_eq_some_iff.mp hk).1
      obtain ⟨T, hT⟩ := rowS_pre (A := A) (rd := rd) (K := K) (S := S) (wid A K)
      obtain ⟨T0, hT0⟩ := I.pre
      refine ⟨rowS_nodup I.nd _, rowS_ks hG hK I.ks _ (Nat.le_refl _), ?_, ⟨T0 ++ T, ?_⟩, fun k J hkl hJ => ?_⟩
      · show (F ++ [_]).length ≤ (rowS A rd K S (wid A K)).length
        rw [hT, List.length_append, List.length_append, List.length_singleton]
        have hlt : F.length < S.length := hlt
        omega
      · show rowS A rd K S (wid A K) = _
        have hT0 : S = prt rd st ++ T0 := hT0
        rw [hT, hT0, List.append_assoc]
      · have hkl : k < (F ++ [(List.range (wid A K)).map (optK A rd (rowS A rd K S (wid A K)) K)]).length := hkl
        have hJ : (rowS A rd K S (wid A K))[k]? = some J := hJ
        show (F ++ [(List.range (wid A K)).map (optK A rd (rowS A rd K S (wid A K)) K)])[k]? = some ((List.range (wid A J)).map (optK A rd (rowS A rd K S (wid A K)) J)) ∧ ∀ i, i < wid A J → ∀ g ∈ fol A rd J i, g ∈ rowS A rd K S (wid A K)
        rw [List.length_append, List.length_singleton] at hkl
        have hlt : F.length < S.length := hlt
        have hJS : S[k]? = some J := by
          rw [hT, List.getElem?_append_left (by omega)] at hJ
          exact hJ
        rcases Nat.lt_or_ge k F.length with h | h
        · obtain ⟨r1, r2⟩ := I.row k J h hJS
          refine ⟨?_, fun i hi g hg => by rw [hT]; exact List.mem_append_left _ (r2 i hi g hg)⟩
          rw [List.getElem?_append_left h, r1]
          congr 1
          refine List.map_congr_left fun i hi => ?_
          rw [hT, optK_app (r2 i (List.mem_range.mp hi))]
        · have e : k = F.length := by omega
          subst e
          have hk : S[F.length]? = some K := hk
          rw [hk] at hJS
          cases hJS
          refine ⟨?_, fun i hi g hg => rowS_fol hi g hg⟩
          rw [List.getElem?_append_right (Nat.le_refl _), Nat.sub_self]
          rfl
/-- the known arena and its sets -/
def IsKn (A : Ar) (rd : Int → Int) (st : List Int) (F : Ar) (S : List (List Int)) : Prop := ∃ n, kn A rd st n = (S, F) ∧ F.length = S.length
theorem stp_end {S : List (List Int)} {F : Ar} (h : F.length = S.length) : stp A rd (S, F) = (S, F) := by
  unfold stp
  show (match S[F.length]? with
    | none => (S, F)
    | some K => _) = _
  rw [List.getElem?_eq_none (by omega)]
theorem kn_stay {n : Nat} {S : List (List Int)} {F : Ar} (h : kn A rd st n = (S, F)) (he : F.length = S.length) : ∀ m, n ≤ m → kn A rd st m = (S, F) := fun m hm => by
  induction hm with
  | refl => exact h
  | step _ ih =>
    show stp A rd (kn A rd st _) = _
    rw [ih, stp_end he]
theorem IsKn.uniq {F F' : Ar} {S S' : List (List Int)} (h : IsKn A rd st F S) (h' : IsKn A rd st F' S') : F = F' ∧ S = S' := by
  obtain ⟨n, h1, h2⟩ := h
  obtain ⟨m, h3, h4⟩ := h'
  rcases Nat.le_total n m with g | g
  · have := kn_stay h1 h2 m g
    rw [h3] at this
    cases this
    exact ⟨rfl, rfl⟩
  · have := kn_stay h3 h4 n g
    rw [h1] at this
    cases this
    exact ⟨rfl, rfl⟩
theorem IsKn.inv (hG : ArG A) (hs : Asc st) (hm : ∀ p ∈ st, 0 ≤ p ∧ p < (A.length : Int)) {F : Ar} {S : List (List Int)} (h : IsKn A rd st F S) : KnI A rd st S F ∧ F.length = S.length := by
  obtain ⟨n, h1, h2⟩ := h
  have := kn_inv (rd := rd) hG hs hm n
  rw [h1] at this
  exact ⟨this, h2⟩
end
end NL

set_option maxHeartbeats 4000000
namespace NL
open PySem PySem.Spec PyProof.Rows L2
/-! ### {tuple: value for ..} -/
theorem gx_dset {X : Cx} {pins : List (Addr × Obj)} {σ : L2.St} {H Hn : Hp} {s : Shared} {E : Value → Shared → Prop} {D : Addr} {y v : V} {u r : Value} {Q : Unit → Shared → Prop} (hu : X.A.units + 1 < cLine) (I : Inv X pins σ H s) (g : ∃ kvs k b, H D = some (.dT kvs) ∧ y = .ref b ∧ H b = some (.tup (k.map kV)) ∧ kvs.length < sizeLine ∧ Hn = upd H D (.dT (putK kvs k v)))
    (ry : RelV y u) (rv : RelV v r) (h : ∀ s', Inv X pins σ Hn s' → Q () s') : wpAny (model X.prog X.w) X.A (dictSet D u r) Q E s := by
  obtain ⟨kvs, k, b, eD, rfl, eb, hl, rfl⟩ := g
  cases (show u = Value.ref b from ry)
  obtain ⟨z1, z2, ents, z3, z4⟩ := dt_of I.hok eD
  have l1 : ents.length ≤ sizeLine := (Paired.length z3) ▸ z1
  have l2 : (putK kvs k v).length ≤ sizeLine := Nat.le_trans (length_putK kvs k v) hl
  refine wpAny_dictSet_heap (hsz := l1) (show X.A.units < cLine by omega) (key_of I.hok eb) z4 fun g2 ⟨q, es, ep, y1, y2, y3, y4, _, y5⟩ sb => h _ ?_
  refine d_write I (eD ▸ True.intro) sb ⟨q, y1⟩ ⟨l2, z2, _, (z3.put k eb rv).keeps fun c ys ec => ?_, q, es, ep, y1, y2, y3, y4, y5⟩
  exact (upd_ne (ne_of ec eD (fun z => nomatch z))).trans ec
section
variable {X : Cx}
/-- {k: v for target in iter if ..}, keys tuples of ints: D the new dict -/
def tDcT (wi : TI) (g : TG) (tt : TT) (tk tv : TE) (vs : List Nat) : TE := fun σ H Q => wi σ H fun J G1 => ∀ D, G1 D = none → ∃ W : Nat → Nat → Hp → Prop, (∃ m, W 0 m (upd G1 D (.dT []))) ∧ ∀ i m G, W i m G →
  (J.stop i G ∧ Q (.ref D) G) ∨ (J.go i G ∧ ∃ Nx : Hp → Prop, (∀ G', Nx G' → ∃ m', m' < m ∧ W (i + 1) m' G') ∧ ∀ x G', J.yld i G x G' → g x (wipe σ vs) G' fun τ G2 => wipe τ vs = wipe σ vs ∧ tt τ G2 fun b G3 =>
    if b = true then tk τ G3 fun y G4 => tv τ G4 fun z G5 => ∃ kvs k b Gn, Gn = upd G5 D (.dT (putK kvs k z)) ∧ y = .ref b ∧ G5 b = some (.tup (k.map kV)) ∧ G5 D = some (.dT kvs) ∧ kvs.length < sizeLine ∧ Nx Gn else Nx G3)
theorem pe_dcT {kx vx tg iter : Expr} {ifs : List Expr} {scope : Scope} {own : List (Str × Nat)} {pos : Pos} {wi : TI} {g : TG} {tt : TT} {tk tv : TE} (hu : X.A.units + 1 < cLine) (hc : X.calm = true) (hN : X.N.Nodup) (hi : PI X tg iter wi) (ok : BlkOk X.N X.env.scope scope own)
    (pgs : ∀ (s : Shared) (H : Hp) (C : Addr) (cl : List (Str × Addr)) (fp : List Addr), PG (X.blk s H scope (compEnvC scope cl C X.env) fp) tg g) (pts : ∀ (s : Shared) (H : Hp) (C : Addr) (cl : List (Str × Addr)) (fp : List Addr), PTs (X.blk s H scope (compEnvC scope cl C X.env) fp) ifs tt)
    (pks : ∀ (s : Shared) (H : Hp) (C : Addr) (cl : List (Str × Addr)) (fp : List Addr), PE (X.blk s H scope (compEnvC scope cl C X.env) fp) kx tk)
    (pvs : ∀ (s : Shared) (H : Hp) (C : Addr) (cl : List (Str × Addr)) (fp : List Addr), PE (X.blk s H scope (compEnvC scope cl C X.env) fp) vx tv) (hs : ∀ x, foldedSetIterable iter X.env x = pure x := by intro _; rfl) :
    PE X (.DictComp kx vx [⟨tg, iter, ifs, 0⟩] scope pos) (tDcT wi g tt tk tv (own.map (·.2))) := by
  refine ⟨fun pins z0 σ G0 Q J0 h => ?_⟩
  rw [arm_eval_DictComp]
  have cells : ∀ y ∈ scope.names, y.2 = .free → ∃ c, X.env.cells.lookup y.1 = some c := fun y hy e => (ok.free y hy e).elim (fun k => J0.ok.has _ (.inl k)) fun k => J0.ok.has _ (.inr k)
  refine wpAny_comprehension_free (use := none) rfl hs (closure_ok cells) ok.kind (fun y hy e => by rw [ok.uniq y hy, e]) (thn (hi.run pins z0 σ G0 _ J0 h) fun _ z1 k1 => thn k1 fun _ z2 k2 => ?_)
  obtain ⟨it, fp, tn, J, G2, rfl, J2, tu, st2, f2, q⟩ := k2
  refine wpAny_newObj_type (newEnv_comp ?_)
  generalize eD : z2.heap.objs.size = D
  have nD : G2 D = none := J2.hok.fresh (Nat.le_of_eq eD)
  obtain ⟨W, ⟨m0, w0⟩, turn⟩ := q D nD
  generalize e3 : ({ z2 with heap := z2.heap.push { cls := .type "dict", data := .dict #[] } } : Shared) = z3
  have hp3 : z3.heap = z2.heap.push { cls := .type "dict", data := .dict #[] } := e3 ▸ rfl
  have J3 : Inv X pins σ (upd G2 D (.dT [])) z3 := by
    subst e3 eD
    exact J2.laid (t' := z2.toks) (fun b o e => Heap.get?_push_of_some _ e) (Nat.le_refl _) (dt_empty z2.heap J2.big)
  have low : ∀ b ∈ fp, b < z2.heap.objs.size := fun b hb => (tu.obj _ _ st2 b hb).elim fun o e => Heap.lt_size e.1
  have f3 : ∀ b ∈ fp, FpOk X pins (upd G2 D (.dT [])) b ∧ b < z3.heap.objs.size := fun b hb => by
    have lt := low b hb
    refine ⟨⟨?_, (f2 b hb).2⟩, by rw [hp3, Heap.size_push]; exact Nat.lt_succ_of_lt lt⟩
    rw [upd_ne (by rw [← eD]; exact Nat.ne_of_lt lt)]
    exact (f2 b hb).1
  have st3 : tn 0 z3.heap := tu.keep _ _ _ st2 fun b _ o e => by rw [hp3]; exact Heap.get?_push_of_some _ e
  have J4 := block_start J3 ok hN f3
  have pg := pgs z3 (upd G2 D (.dT [])) z3.heap.objs.size (cellsFrom (z3.heap.objs.size + 1) scope.names (cloFrom X.env.cells scope.names [])) fp
  have pt := pts z3 (upd G2 D (.dT [])) z3.heap.objs.size (cellsFrom (z3.heap.objs.size + 1) scope.names (cloFrom X.env.cells scope.names [])) fp
  have pk := pks z3 (upd G2 D (.dT [])) z3.heap.objs.size (cellsFrom (z3.heap.objs.size + 1) scope.names (cloFrom X.env.cells scope.names [])) fp
  have pv' := pvs z3 (upd G2 D (.dT [])) z3.heap.objs.size (cellsFrom (z3.heap.objs.size + 1) scope.names (cloFrom X.env.cells scope.names [])) fp
  have none3 : ∀ b ∈ fp, (upd G2 D (.dT [])) b = none := fun b hb => (f3 b hb).1.1
  show codeAny _ _ (.compStart _ 0 (.ref it) (.ref D) (compEnvC scope (cellsFrom (z3.heap.objs.size + 1) scope.names (cloFrom X.env.cells scope.names [])) z3.heap.objs.size X.env)) (compPost (model X.prog X.w) X.A X.xe none _ (.ref D) z3.heap.objs.size) { z3 with heap := pushCells (z3.heap.push { cls := .type "dict", data := .dict #[] }) scope.names }
  generalize hce : compEnvC scope (cellsFrom (z3.heap.objs.size + 1) scope.names (cloFrom X.env.cells scope.names [])) z3.heap.objs.size X.env = ce at J4 pg pt pk pv' ⊢
  have ceL : ce.locals = z3.heap.objs.size := hce ▸ rfl
  generalize upd G2 D (.dT []) = G3 at J3 J4 pg pt pk pv' w0 none3 f3
  generalize e4 : ({ z3 with heap := pushCells (z3.heap.push { cls := .type "dict", data := .dict #[] }) scope.names } : Shared) = z4 at J4 ⊢
  have st4 : tn 0 z4.heap := tu.keep _ _ _ st3 fun b _ o e => by rw [← e4]; exact pushCells_keeps _ _ _ _ (Heap.get?_push_of_some _ e)
  have fixd : ∀ {τ : L2.St} {G : Hp} {z : Shared}, Inv (X.blk z3 G3 scope ce fp) [] τ G z → (∀ b ∈ fp, G b = none) → ∀ b ∈ fp, FpOk (X.blk z3 G3 scope ce fp) [] G b := fun {τ G z} I' hn b hb =>
    ⟨hn b hb, (I'.ok.exf b hb).1, I'.ok.exfs b hb, .inl hb, fun x c e => (I'.ok.exf b hb).2 x c e, fun p hp => by cases hp⟩
  refine (fun loop => codeAny_compStart_dict loop (tu.self X.A 0 _ _ _ st4 loop)) ?_
  refine compLoop_anyD (fun n z => ∃ i G, Inv (X.blk z3 G3 scope ce fp) [] (wipe σ (own.map (·.2))) G z ∧ tn i z.heap ∧ (∀ b ∈ fp, G b = none) ∧ W i n G) ?_ m0 ⟨0, G3, J4, st4, none3, w0⟩
  rintro n z5 ⟨i, G5, J5, st5, n5, w5⟩
  rcases turn i n G5 w5 with ⟨stop, qq⟩ | ⟨go, Nx, hNx, step⟩
  · refine thnF (tu.done (X.blk z3 G3 scope ce fp) rfl rfl rfl hc i [] z5 _ G5 (fun _ _ => False) J5 (fixd J5 n5) st5 stop) fun r z6 ⟨hr, J6⟩ => ?_
    subst hr
    have J7 : Inv X pins σ G5 z6 := J3.call' (ch := fp) J6.os J6.base J6.hok J6.bare fun b hb => ⟨(f3 b hb).1.2.2.2.1, (f3 b hb).1.2.1, (f3 b hb).1.2.2.2.2.1, (f3 b hb).1.2.2.2.2.2⟩
    have nC : G5 z3.heap.objs.size = none := ceL ▸ (show G5 ce.locals = none from J6.free)
    obtain ⟨m, hn, _⟩ := J6.loc
    have hn : z6.heap.Ns z3.heap.objs.size m := ceL ▸ (show z6.heap.Ns ce.locals m from hn)
    obtain ⟨g0, g1, g2, g3, g4, g5⟩ := J3.fpOk (Nat.le_refl _) nC
    exact ⟨m, hn, fun h'' sb => ⟨.ref D, G5, J7.turned (t' := z6.toks) (fun b o hb e => (sb.2 b hb).trans e) g0 g1 g3 g4 g5, rfl, qq⟩⟩
  · refine thnF (tu.item (X.blk z3 G3 scope ce fp) rfl rfl rfl hc i [] z5 _ G5 (fun _ _ => False) J5 (fixd J5 n5) st5 go) fun r z6 ⟨u, hr, k6⟩ => ?_
    subst hr
    refine thnF k6 fun _ z7 ⟨x, G7, J7, r7, y7, st7, n7⟩ => ?_
    refine thnF (pg.run _ z7 _ G7 x u _ (J7.pinned (fixd J7 n7) (tu.obj _ _ st7)) r7 (step x G7 y7)) fun _ z8 ⟨τ, G8, J8, hw, q8⟩ => ?_
    refine thnF (pt.run _ z8 τ G8 _ J8 q8) fun b z9 ⟨G9, J9, q9⟩ => ?_
    have fin : ∀ {z : Shared} {G : Hp}, Inv (X.blk z3 G3 scope ce fp) ([] ++ pinsAt fp z7.heap) τ G z → Nx G → ∃ m, m < n ∧ ∃ i G, Inv (X.blk z3 G3 scope ce fp) [] (wipe σ (own.map (·.2))) G z ∧ tn i z.heap ∧ (∀ b ∈ fp, G b = none) ∧ W i m G := fun {z G} I' nx => by
      obtain ⟨m', hm, w'⟩ := hNx G nx
      have kept : ∀ b ∈ fp, ∀ o, z7.heap.get? b = some o → z.heap.get? b = some o ∧ G b = none := fun b hb o e => by
        have z := I'.pin (b, o) (List.mem_append_right _ (List.mem_append_right _ (mem_pinsAt hb e)))
        exact ⟨z.1, z.2.1⟩
      refine ⟨m', hm, i + 1, G, (I'.unpinned (pins := [])).weak (by rw [← hw, wipe_length]) (fun j v e => (wipe_some (hw ▸ e : _)).1), tu.keep _ _ _ st7 fun b hb o e => (kept b hb o e).1, fun b hb => ?_, w'⟩
      obtain ⟨o, e, _⟩ := tu.obj _ _ st7 b hb
      exact (kept b hb o e).2
    cases b with
    | false =>
      simp only [Bool.false_eq_true, if_false] at q9 ⊢
      exact fin J9 q9
    | true =>
      simp only [if_true] at q9 ⊢
      refine thnF (pk.run _ z9 τ G9 _ J9 q9) fun _ z10 ⟨yk, G10, J10, r10, q10⟩ => thnF (pv'.run _ z10 τ G10 _ J10 q10) fun _ z11 ⟨yv, G11, J11, r11, kvs, k, b, Gn, eG, ek, eb, eD2, hz, nx⟩ => ?_
      exact gx_dset (X := X.blk z3 G3 scope ce fp) hu J11 ⟨kvs, k, b, eD2, ek, eb, hz, eG⟩ r10 r11 fun z12 J12 => fin J12 nx
end
end NL

set_option maxHeartbeats 4000000
namespace NL
open PySem PySem.Spec PyProof.Rows L2
/-! ### for over a list or a tuple -/
section
variable {X : Cx} {tg : Expr}
def iSeq (K : PySem.W.Frag) (tl : TE) : TI := fun σ H R => tl σ H fun x H1 => ∃ a, x = .ref a ∧ (((∃ xs, SqL K H1 a xs) ∧ R (Itl K a) H1) ∨ ((∃ xs, SqT K H1 a xs) ∧ R (Itt K a) H1))
theorem pi_seq {l : Expr} {tl : TE} (hl : PE X l tl) : PI X tg l (iSeq X.K tl) := by
  refine ⟨fun pins s σ H R I h => ?_⟩
  refine thn (hl.run pins s σ H _ I h) fun v s1 ⟨x, H1, I1, r1, q1⟩ => ?_
  obtain ⟨a, e, q⟩ := q1
  subst e
  cases r1
  rcases q with ⟨⟨xs, hq⟩, q⟩ | ⟨⟨xs, hq⟩, q⟩
  · obtain ⟨its, rv, p, hz⟩ := I1.list hq
    refine wpAny_pyIter_list p.isList ?_
    refine ⟨s1.heap.objs.size, [s1.heap.objs.size], _, _, H1, rfl, I1.kept (t' := s1.toks) fun b o e => Heap.get?_push_of_some _ e, turn_list a _, ⟨_, Heap.get?_push_size _ rfl, rfl, rfl⟩, fun b hb => ?_, q⟩
    have e : b = s1.heap.objs.size := by simpa using hb
    subst e
    exact I1.fpOk (Nat.le_refl _) (I1.hok.fresh (Nat.le_refl _))
  · obtain ⟨its, rv, p, hz⟩ := I1.tuple hq
    refine wpAny_pyIter_tuple (show s1.heap.IsTuple a its.toArray from p) ?_
    refine ⟨s1.heap.objs.size, [s1.heap.objs.size], _, _, H1, rfl, I1.kept (t' := s1.toks) fun b o e => Heap.get?_push_of_some _ e, turn_tuple a _, ⟨_, Heap.get?_push_size _ rfl, rfl, rfl⟩, fun b hb => ?_, q⟩
    have e : b = s1.heap.objs.size := by simpa using hb
    subst e
    exact I1.fpOk (Nat.le_refl _) (I1.hok.fresh (Nat.le_refl _))
end
end NL

set_option maxHeartbeats 4000000
namespace NL
open PySem PySem.Spec PyProof.Rows L2
theorem gx_seq {K : PySem.W.Frag} {a : Addr} {xs : List V} {H : Hp} {tl : TE} {σ : L2.St} {R : L2.It → Hp → Prop} (h : H a = some (.lst xs) ∨ H a = some (.tup xs)) (htl : ∀ C : V → Hp → Prop, C (.ref a) H → tl σ H C) (f : ∀ J : L2.It, Walk J xs.length (fun H' => H' a = H a) (YAt xs) → R J H) : iSeq K tl σ H R := by
  refine htl _ ⟨a, rfl, ?_⟩
  rcases h with h | h
  · have w : Walk (Itl K a) xs.length (fun H => SqL K H a xs) (YAt xs) := walk_list
    exact .inl ⟨⟨_, sqd h⟩, f _ ⟨fun i H' hi g => w.goes i H' hi (sqd (by rw [g]; exact h)), fun H' g => w.stops H' (sqd (by rw [g]; exact h)), fun i H' x H2 hi g => w.yields i H' x H2 hi (sqd (by rw [g]; exact h))⟩⟩
  · have w : Walk (Itt K a) xs.length (fun H => SqT K H a xs) (YAt xs) := walk_tup
    exact .inr ⟨⟨_, sqt h⟩, f _ ⟨fun i H' hi g => w.goes i H' hi (sqt (by rw [g]; exact h)), fun H' g => w.stops H' (sqt (by rw [g]; exact h)), fun i H' x H2 hi g => w.yields i H' x H2 hi (sqt (by rw [g]; exact h))⟩⟩
/-- for over a list or a tuple -/
theorem gx_forSeq {K : PySem.W.Frag} {a : Addr} {xs : List V} {g : TG} {tb : TS} {D : Ends} {σ : L2.St} {H : Hp} (h : H a = some (.lst xs) ∨ H a = some (.tup xs)) (Pv : Nat → L2.St → Hp → Prop) (h0 : Pv 0 σ H) (hG : ∀ i σ' H', Pv i σ' H' → H' a = H a)
    (hs : ∀ i x σ H, xs[i]? = some x → Pv i σ H → g x σ H fun σ2 H2 => tb { D with nx := Pv (i + 1), ct := Pv (i + 1), bk := D.nx } σ2 H2) (hd : ∀ σ H, Pv xs.length σ H → D.nx σ H) :
    ((∃ xs, SqL K H a xs) ∧ ∃ W : Nat → Nat → L2.St → Hp → Prop, (∃ m, W 0 m σ H) ∧ ∀ i m σ H, W i m σ H →
      ((Itl K a).stop i H ∧ D.nx σ H) ∨ ((Itl K a).go i H ∧ ∃ N : L2.St → Hp → Prop, (∀ σ' H', N σ' H' → ∃ m', m' < m ∧ W (i + 1) m' σ' H') ∧ ∀ x H', (Itl K a).yld i H x H' → g x σ H' fun σ2 H2 => tb { D with nx := N, ct := N, bk := D.nx } σ2 H2)) ∨
    ((∃ xs, SqT K H a xs) ∧ ∃ W : Nat → Nat → L2.St → Hp → Prop, (∃ m, W 0 m σ H) ∧ ∀ i m σ H, W i m σ H →
      ((Itt K a).stop i H ∧ D.nx σ H) ∨ ((Itt K a).go i H ∧ ∃ N : L2.St → Hp → Prop, (∀ σ' H', N σ' H' → ∃ m', m' < m ∧ W (i + 1) m' σ' H') ∧ ∀ x H', (Itt K a).yld i H x H' → g x σ H' fun σ2 H2 => tb { D with nx := N, ct := N, bk := D.nx } σ2 H2)) := by
  rcases h with h | h
  · exact .inl ⟨⟨_, sqd h⟩, for_list (xs := xs) Pv h0 (fun i σ' H' _ p => sqd (by rw [hG i σ' H' p]; exact h)) hs hd⟩
  · exact .inr ⟨⟨_, sqt h⟩, for_tup (xs := xs) Pv h0 (fun i σ' H' _ p => sqt (by rw [hG i σ' H' p]; exact h)) hs hd⟩
/-! ### readings -/
def rdF (R : List Int) (p : Int) : Int := R.getD p.toNat 0
theorem rdF_at {R : List Int} {p : Int} (h0 : 0 ≤ p) (h1 : p < (R.length : Int)) : atI (R.map V.int) p = some (V.int (rdF R p)) := by
  obtain ⟨k, rfl, hk⟩ : ∃ k : Nat, p = (k : Int) ∧ k < R.length := ⟨p.toNat, by omega, by omega⟩
  refine atI_nat ?_
  rw [List.getElem?_map, List.getElem?_eq_getElem hk]
  unfold rdF
  rw [Int.toNat_natCast, List.getD_eq_getElem?_getD, List.getElem?_eq_getElem hk]
  rfl
def grK (gs : List (Int × Addr)) : List (Key × V) := gs.map fun g => (Sum.inl g.1, V.ref g.2)
theorem grK_some : ∀ {gs : List (Int × Addr)} {r : Int} {v : V}, valV (grK gs) (Sum.inl r : Key) = some v → ∃ g ∈ gs, g.1 = r ∧ v = .ref g.2
  | [], r, v, h => by cases h
  | g :: t, r, v, h => by
    by_cases e : g.1 = r
    · have h : valV ((Sum.inl g.1, V.ref g.2) :: grK t) (Sum.inl r : Key) = some v := h
      rw [valV_pos (by rw [e])] at h
      exact ⟨g, List.mem_cons_self, e, (Option.some.inj h).symm⟩
    · have h : valV ((Sum.inl g.1, V.ref g.2) :: grK t) (Sum.inl r : Key) = some v := h
      rw [valV_neg (fun q => e (Sum.inl.inj q))] at h
      obtain ⟨g', h1, h2⟩ := grK_some h
      exact ⟨g', List.mem_cons_of_mem _ h1, h2⟩
theorem grK_none : ∀ {gs : List (Int × Addr)} {r : Int}, valV (grK gs) (Sum.inl r : Key) = none → r ∉ gs.map (·.1)
  | [], r, _, h => by cases h
  | g :: t, r, h, hm => by
    have h : valV ((Sum.inl g.1, V.ref g.2) :: grK t) (Sum.inl r : Key) = none := h
    by_cases e : g.1 = r
    · rw [valV_pos (by rw [e])] at h
      cases h
    · rw [valV_neg (fun q => e (Sum.inl.inj q))] at h
      rcases List.mem_cons.mp hm with h2 | h2
      · exact e h2.symm
      · exact grK_none h h2
theorem grK_get {gs : List (Int × Addr)} {g : Int × Addr} (hn : (gs.map (·.1)).Nodup) (hg : g ∈ gs) : valV (grK gs) (Sum.inl g.1 : Key) = some (.ref g.2) := by
  induction gs with
  | nil => cases hg
  | cons a t ih =>
    show valV ((Sum.inl a.1, V.ref a.2) :: grK t) (Sum.inl g.1 : Key) = _
    obtain ⟨h1, h2⟩ := List.nodup_cons.mp hn
    rcases List.mem_cons.mp hg with rfl | hg
    · exact valV_pos rfl
    · rw [valV_neg (fun q => h1 (List.mem_map.mpr ⟨g, hg, (Sum.inl.inj q).symm⟩))]
      exact ih h2 hg
/-- the groups at D: what was met of qs -/
structure GrS (rd : Int → Int) (H0 H : Hp) (D : Addr) (qs : List Int) (gs : List (Int × Addr)) : Prop where
  d : H D = some (.dK (grK gs))
  l : ∀ g ∈ gs, H g.2 = some (.lst ((qs.filter fun p => decide (rd p = g.1)).map V.int)) ∧ H0 g.2 = none ∧ g.2 ≠ D
  n1 : (gs.map (·.1)).Nodup
  n2 : (gs.map (·.2)).Nodup
  k : ∀ r, r ∈ gs.map (·.1) ↔ r ∈ qs.map rd
  s : Same H0 H
  few : gs.length ≤ qs.length
section
variable {rd : Int → Int} {H0 H : Hp} {D : Addr} {qs : List Int} {gs : List (Int × Addr)}
theorem gr_filter {p r : Int} : ((qs ++ [p]).filter fun q => decide (rd q = r)) = (qs.filter fun q => decide (rd q = r)) ++ if rd p = r then [p] else [] := by
  rw [List.filter_append, List.filter_cons, List.filter_nil]
  by_cases h : rd p = r
  · rw [if_pos h, if_pos (decide_eq_true h)]
  · rw [if_neg h, if_neg (by rw [decide_eq_false h]; exact Bool.false_ne_true)]
/-- one more of a group that is there -/
theorem GrS.old (G : GrS rd H0 H D qs gs) {l : Addr} (hl : H l = none) (hlD : l ≠ D) (p : Int) {g : Int × Addr} (hg : g ∈ gs) (e : g.1 = rd p) : GrS rd H0 (upd (upd H l (.lst [])) g.2 (.lst ((qs.filter fun q => decide (rd q = rd p)).map V.int ++ [V.int p]))) D (qs ++ [p]) gs := by
  have hgl : ∀ g' ∈ gs, g'.2 ≠ l := fun g' hg' z => by
    rw [← z, (G.l g' hg').1] at hl
    cases hl
  obtain ⟨_, hg0, hgD⟩ := G.l g hg
  refine ⟨by rw [upd_ne hgD.symm, upd_ne (Ne.symm hlD)]; exact G.d, fun g' hg' => ⟨?_, (G.l g' hg').2⟩, G.n1, G.n2, fun r => ?_, fun b o q => ?_, by rw [List.length_append]; exact Nat.le_trans G.few (Nat.le_add_right _ _)⟩
  · rw [gr_filter]
    by_cases h : g'.2 = g.2
    · have : g' = g := by
        obtain ⟨i, hi⟩ := List.getElem?_of_mem hg'
        obtain ⟨j, hj⟩ := List.getElem?_of_mem hg
        obtain ⟨i1, i2⟩ := List.getElem?_eq_some_iff.mp hi
        obtain ⟨j1, j2⟩ := List.getElem?_eq_some_iff.mp hj
        have hij : i = j := by
          have e1 : (gs.map (·.2))[i]'(by rw [List.length_map]; exact i1) = (gs.map (·.2))[j]'(by rw [List.length_map]; exact j1) := by
            rw [List.getElem_map, List.getElem_map, i2, j2, h]
          rcases Nat.lt_trichotomy i j with q | q | q
          · exact absurd e1 (List.pairwise_iff_getElem.mp G.n2 _ _ _ _ q)
          · exact q
          · exact absurd e1.symm (List.pairwise_iff_getElem.mp G.n2 _ _ _ _ q)
        subst hij
        rw [hi] at hj
        exact Option.some.inj hj
      rw [this, upd_same, e, if_pos rfl, List.map_append]
      rfl
    · have h3 : rd p ≠ g'.1 := fun q => h (by
        have h1 := grK_get G.n1 hg'
        have h2 := grK_get G.n1 hg
        rw [← q, ← e, h2] at h1
        exact (V.ref.inj (Option.some.inj h1)).symm)
      rw [upd_ne h, upd_ne (hgl g' hg'), if_neg h3, List.append_nil]
      exact (G.l g' hg').1
  · rw [G.k, List.map_append, List.mem_append]
    refine ⟨.inl, fun h => h.elim id fun h => ?_⟩
    have : r = rd p := by simpa using h
    rw [this, ← e]
    exact (G.k _).mp (List.mem_map.mpr ⟨g, hg, rfl⟩)
  · have h1 : b ≠ g.2 := fun z => by rw [z, hg0] at q; cases q
    have h2 : b ≠ l := fun z => by rw [z] at q; rw [G.s _ _ q] at hl; cases hl
    rw [upd_ne h1, upd_ne h2]
    exact G.s _ _ q
/-- the first of a group -/
theorem GrS.new (G : GrS rd H0 H D qs gs) {l : Addr} (hl : H l = none) (hlD : l ≠ D) (hD : H0 D = none) (p : Int) (hn : rd p ∉ gs.map (·.1)) : GrS rd H0 (upd (upd (upd H l (.lst [])) D (.dK (grK (gs ++ [(rd p, l)])))) l (.lst ([] ++ [V.int p]))) D (qs ++ [p]) (gs ++ [(rd p, l)]) := by
  have hl0 : H0 l = none := G.s.free hl
  have hgl : ∀ g' ∈ gs, g'.2 ≠ l := fun g' hg' z => by
    rw [← z, (G.l g' hg').1] at hl
    cases hl
  have nil : (qs.filter fun q => decide (rd q = rd p)) = [] := List.filter_eq_nil_iff.mpr fun q hq h => hn ((G.k _).mpr (List.mem_map.mpr ⟨q, hq, of_decide_eq_true h⟩))
  refine ⟨by rw [upd_ne hlD.symm, upd_same], fun g' hg' => ?_, ?_, ?_, fun r => ?_, fun b o q => ?_, by rw [List.length_append, List.length_append]; exact Nat.add_le_add_right G.few 1⟩
  · rcases List.mem_append.mp hg' with hg' | hg'
    · obtain ⟨h1, h2, h3⟩ := G.l g' hg'
      refine ⟨?_, h2, h3⟩
      have h4 : rd p ≠ g'.1 := fun q => hn (by rw [q]; exact List.mem_map.mpr ⟨g', hg', rfl⟩)
      rw [upd_ne (hgl g' hg'), upd_ne h3, upd_ne (hgl g' hg'), h1, gr_filter, if_neg h4, List.append_nil]
    · rw [List.mem_singleton.mp hg']
      refine ⟨?_, hl0, hlD⟩
      show upd _ l _ l = _
      rw [upd_same, gr_filter, if_pos rfl, nil]
      rfl
  · rw [List.map_append]
    refine List.nodup_append.mpr ⟨G.n1, by simp, fun a ha b hb e => hn ?_⟩
    have hb2 : b = rd p := by simpa using hb
    rw [← hb2, ← e]
    exact ha
  · rw [List.map_append]
    refine List.nodup_append.mpr ⟨G.n2, by simp, fun a ha b hb e => ?_⟩
    obtain ⟨g', hg', rfl⟩ := List.mem_map.mp ha
    exact hgl g' hg' (by rw [e]; simpa using hb)
  · rw [List.map_append, List.mem_append, G.k, List.map_append, List.mem_append]
    exact Iff.rfl
  · have h1 : b ≠ l := fun z => by rw [z, hl0] at q; cases q
    have h2 : b ≠ D := fun z => by rw [z, hD] at q; cases q
    rw [upd_ne h1, upd_ne h2, upd_ne h1]
    exact G.s _ _ q
end
section
variable {P : Program} {w : World} {K : PySem.W.Frag} {mg : Str → Option Value} {base : Heap}
def spParted : Sp := fun vs H Q _ => ∃ (pa ra : Addr) (ps R : List Int), vs = [.ref pa, .ref ra] ∧ (H pa = some (.lst (ps.map V.int)) ∨ H pa = some (.tup (ps.map V.int))) ∧ H ra = some (.tup (R.map V.int)) ∧ ps.length ≤ 60 ∧ (∀ p ∈ ps, 0 ≤ p ∧ p < (R.length : Int)) ∧
  ∀ l xs H', Same H H' → H l = none → H' l = some (.lst xs) → Each (OptIn H') (prt (rdF R) ps) xs → Q (.ref l) H'
theorem ok_parted (T : Txt K mg) : FnOk P w K mg base CX0 1 T.a_parted T.d_parted P_parted spParted := by
  refine T.F_parted.ok sc_parted (fun vs H Q E h => ?_) (fun cdv A outer s H vs Q E hr h => ?_)
  · obtain ⟨pa, ra, ps, R, rfl, _⟩ := h
    rfl
  obtain ⟨pa, ra, ps, R, rfl, hpa, hra, hpl, hpr, q⟩ := h
  refine ⟨_, (pss_cons (ps_set (i := 2) sc_parted.nd rfl (Or.inr rfl) pe_dnewK)
    (pss_cons (ps_for  PassesOwn.never rfl (pi_seq (pv 0)) (pg_name (i := 3) sc_parted.nd rfl (Or.inl rfl))
    (pss_one (ps_expr (pe_bm PySem.F.plainAttrs_list PySem.F.slot_list_append PySem.F.type_list_append mt_append (pe_dsetd (pv 2) (pe_ix ix_tup (pv 1) (pv 3) (fun _ _ => rfl)) (pe_lst pa_nil) ⟨rfl, rfl, rfl, rfl⟩) (pa_cons (pv 3) pa_nil)))))
    (pss_one (ps_ret (pe_lc (own := [("reading", 4)]) (g := (gName 4)) (tt := tYes) rfl sc_parted.nd (pi_list (pe_callB (call_sortedDI rfl) (by rfl) T.z_sorted (by decide +kernel) (pa_cons (pv 2) pa_nil))) (blkOk_by (N := N_parted) (sc := defScope s_parted) (by decide +kernel)) (fun _ _ _ _ _ => (pg_name (i := 4) sc_parted.nd rfl (Or.inl rfl))) (fun _ _ _ _ _ => pts_nil) (fun _ _ _ _ _ => (pe_callTy (call_tuple_ofK (K := K) rfl) (by rfl) T.z_tuple (by decide +kernel) (pa_cons (pe_dget (hu_of hr) (pv 2) (pv 4) (fun _ _ => rfl)) pa_nil)))))))), ?_⟩
  refine fun D hD => ?_
  obtain ⟨H1, e1, s1, k1⟩ := newH hD (.dK [])
  rw [e1]
  have hp1 : H1 pa = some (.lst (ps.map V.int)) ∨ H1 pa = some (.tup (ps.map V.int)) := hpa.elim (fun h => .inl (s1 _ _ h)) (fun h => .inr (s1 _ _ h))
  refine ⟨_, rfl, pa, rfl, ?_⟩
  refine gx_forSeq (K := K) (a := pa) (xs := ps.map V.int) hp1 (fun (j : Nat) (σ : L2.St) (H' : Hp) => ∃ (gs : List (Int × Addr)) (y3 y4 : Option V), σ = [some (.ref pa), some (.ref ra), some (.ref D), y3, y4] ∧ GrS (rdF R) H H' D (ps.take j) gs) ?_ ?_ ?_ ?_
  · exact ⟨[], none, none, rfl, k1, fun g hg => (nomatch hg), List.nodup_nil, List.nodup_nil, fun r => by simp, s1, Nat.zero_le _⟩
  · rintro j σ H' ⟨gs, y3, y4, rfl, G⟩
    rcases hpa with h | h
    · rw [G.s _ _ h, s1 _ _ h]
    · rw [G.s _ _ h, s1 _ _ h]
  · rintro j x σ H2 hx ⟨gs, y3, y4, rfl, G⟩
    rw [List.getElem?_map] at hx
    obtain ⟨p, hp, rfl⟩ := Option.map_eq_some_iff.mp hx
    obtain ⟨p0, p1⟩ := hpr p (List.mem_of_getElem? hp)
    have htk : ps.take (j + 1) = ps.take j ++ [p] := by rw [List.take_add_one, hp]; rfl
    have hjl := (List.getElem?_eq_some_iff.mp hp).1
    have hfl : ∀ r, ((ps.take j).filter fun q => decide (rdF R q = r)).length ≤ 60 := fun r => by
      have h1 := List.length_filter_le (fun q => decide (rdF R q = r)) (ps.take j)
      rw [List.length_take] at h1
      omega
    refine ⟨_, rfl, D, rfl, .inl ⟨_, .inl G.d⟩, _, rfl, _, rfl, ra, _, _, _, rfl, rfl, sqt (G.s _ _ hra), rdF_at p0 p1, Nat.zero_le _, fun l hl => ?_⟩
    have hlD : l ≠ D := fun z => by rw [z, G.d] at hl; cases hl
    refine ⟨_, Sum.inl (rdF R p), by rw [upd_ne (Ne.symm hlD)]; exact G.d, rfl, big' (by unfold grK; rw [List.length_map]; have := G.few; rw [List.length_take] at this; omega), fun v hv => ?_, fun hv => ?_⟩
    · obtain ⟨g, hg, e1, rfl⟩ := grK_some hv
      have hgl : g.2 ≠ l := fun z => by rw [← z, (G.l g hg).1] at hl; cases hl
      have hgk : upd H2 l (.lst []) g.2 = some (.lst (((ps.take j).filter fun q => decide (rdF R q = rdF R p)).map V.int)) := by rw [upd_ne hgl, (G.l g hg).1, e1]
      refine ⟨.inl ⟨rfl, _, sqd hgk⟩, _, rfl, g.2, _, _, rfl, rfl, hgk, big' (by rw [List.length_map]; have := hfl (rdF R p); omega), ?_⟩
      refine ⟨gs, _, _, rfl, ?_⟩
      rw [htk]
      exact G.old hl hlD p hg e1
    · have hn := grK_none hv
      rw [putK_new _ hv]
      have hl3 : upd (upd H2 l (.lst [])) D (.dK (grK gs ++ [(Sum.inl (rdF R p), V.ref l)])) l = some (.lst []) := by rw [upd_ne hlD, upd_same]
      refine ⟨.inl ⟨rfl, _, sqd hl3⟩, _, rfl, l, _, _, rfl, rfl, hl3, Nat.zero_lt_of_lt (big' (n := 1) (by decide)), ?_⟩
      refine ⟨gs ++ [(rdF R p, l)], _, _, rfl, ?_⟩
      rw [htk]
      have := G.new hl hlD hD p hn
      rw [show grK (gs ++ [(rdF R p, l)]) = grK gs ++ [(Sum.inl (rdF R p), V.ref l)] by unfold grK; rw [List.map_append]; rfl] at this
      exact this
  · rintro σ H2 ⟨gs, y3, y4, rfl, G⟩
    rw [List.length_map, List.take_length] at G
    have hgl := G.few
    refine ⟨_, rfl, D, _, gs.map (·.1), rfl, .inl G.d, by unfold grK; rw [List.map_map, List.map_map]; rfl, by rw [List.length_map]; omega, fun ys sp hperm hpw hsp => ?_⟩
    have hasc : Asc ys := asc_of hperm G.n1 hpw
    have hys : ys = srt (ps.map (rdF R)) := srt_is hasc fun x => by rw [hperm.mem_iff, G.k]
    obtain ⟨H3, e3, s3, k3⟩ := newH hsp (.lst (ys.map V.int))
    rw [e3]
    have s03 := G.s.trans s3
    have kD := s3 _ _ G.d
    have hyl : ys.length ≤ 60 := by rw [hperm.length_eq, List.length_map]; omega
    refine ⟨sp, rfl, ⟨_, sqd k3⟩, fun l hl => ?_⟩
    refine lc_list (K := K) (a := sp) (xs := ys.map V.int) (fun (j : Nat) (H' : Hp) => Same H3 H' ∧ ∃ xs, H' l = some (.lst xs) ∧ Each (OptIn H') ((ys.take j).map fun r => ps.filter fun p => decide (rdF R p = r)) xs) ?_ ?_ ?_ ?_
    · exact ⟨same_new hl _, [], upd_same, .nil⟩
    · rintro j H' _ ⟨s4, _⟩
      exact sqd (s4 _ _ k3)
    · rintro j x H4 hx ⟨s4, xs, k4, hxs⟩
      rw [List.getElem?_map] at hx
      obtain ⟨r, hr', rfl⟩ := Option.map_eq_some_iff.mp hx
      obtain ⟨g, hg, hgr⟩ := List.mem_map.mp (hperm.mem_iff.mp (List.mem_of_getElem? hr'))
      have hgl' := (G.l g hg).1
      have hgr : g.1 = r := hgr
      rw [hgr] at hgl'
      have hv := grK_get G.n1 hg
      rw [hgr] at hv
      have hxl := hxs.1
      have hjl := (List.getElem?_eq_some_iff.mp hr').1
      rw [List.length_map, List.length_take] at hxl
      refine ⟨rfl, yes_if ?_⟩
      refine ⟨_, rfl, _, rfl, D, V.ref g.2, rfl, .inl ⟨_, Sum.inl r, .inl (s4 _ _ kD), rfl, hv.symm⟩, g.2, _, rfl, .inl ⟨sqd (s4 _ _ (s3 _ _ hgl')), fun t ht => ?_⟩⟩
      have s5 := same_new ht (.tup ((ps.filter fun p => decide (rdF R p = r)).map V.int))
      have k5 := s5 _ _ k4
      refine ⟨xs, k5, big' (by omega), same_put (s4.trans s5) hl, xs ++ [.ref t], upd_same, ?_⟩
      have htl : t ≠ l := fun z => by rw [z, k4] at ht; cases ht
      rw [List.take_add_one, hr', List.map_append]
      refine (hxs.mono fun o x => OptIn.tp (tp_put (Tp.same s5) k5)).snoc ⟨t, rfl, ?_⟩
      rw [upd_ne htl]
      exact upd_same
    · rintro H4 ⟨s4, xs, k4, hxs⟩
      rw [List.length_map, List.take_length] at hxs
      refine q l xs H4 (s03.trans s4) (s03.free hl) k4 ?_
      unfold prt
      rw [← hys]
      exact hxs
end
end NL

set_option maxHeartbeats 4000000
namespace NL
open PySem PySem.Spec PyProof.Rows L2
/-! ### _successors_of -/
theorem insU_new {x : Int} : ∀ {l : List Int}, x ∉ l → (insU x l).length = l.length + 1
  | [], _ => rfl
  | a :: r, h => by
    unfold insU
    split
    · rfl
    · split
      · rename_i e
        exact absurd (e ▸ List.mem_cons_self) h
      · rw [List.length_cons, insU_new (fun q => h (List.mem_cons_of_mem _ q))]
        rfl
theorem srt_len_nd : ∀ {l : List Int}, l.Nodup → (srt l).length = l.length
  | [], _ => rfl
  | a :: r, h => by
    obtain ⟨h1, h2⟩ := List.nodup_cons.mp h
    show (insU a (srt r)).length = _
    rw [insU_new (fun q => h1 (mem_srt.mp q)), srt_len_nd h2]
    rfl
theorem nd_short {l : List Int} {lo hi : Int} (h : l.Nodup) (hb : ∀ x ∈ l, lo ≤ x ∧ x < hi) (hlh : lo ≤ hi) : (l.length : Int) ≤ hi - lo := by
  rw [← srt_len_nd h]
  exact asc_short asc_srt (fun x hx => hb x (mem_srt.mp hx)) hlh
theorem keys_put {kvs : List (Key × V)} {ks : List Int} (h : kvs.map (·.1) = ks.map fun x => (Sum.inl x : Key)) (p : Int) (v : V) : (putK kvs (Sum.inl p : Key) v).map (·.1) = (if p ∈ ks then ks else ks ++ [p]).map fun x => (Sum.inl x : Key) := by
  have hany : (kvs.any fun kv => decide (kv.1 = (Sum.inl p : Key))) = decide (p ∈ ks) := by
    have e : (kvs.any fun kv => decide (kv.1 = (Sum.inl p : Key))) = (kvs.map (·.1)).any fun k => decide (k = (Sum.inl p : Key)) := by
      rw [List.any_map]
      rfl
    rw [e, h, List.any_map]
    refine Bool.eq_iff_iff.mpr ?_
    rw [List.any_eq_true, decide_eq_true_iff]
    constructor
    · rintro ⟨x, hx, e⟩
      have := Sum.inl.inj (of_decide_eq_true e)
      exact this ▸ hx
    · intro hp
      exact ⟨p, hp, decide_eq_true rfl⟩
  unfold putK
  rw [hany]
  by_cases hp : p ∈ ks
  · rw [if_pos (decide_eq_true hp), if_pos hp, List.map_map, ← h]
    refine List.map_congr_left fun kv _ => ?_
    show (if kv.1 = _ then (kv.1, v) else kv).1 = kv.1
    split <;> rfl
  · rw [if_neg (by rw [decide_eq_false hp]; exact Bool.false_ne_true), if_neg hp, List.map_append, List.map_append, h]
    rfl
structure KsD (H0 H : Hp) (D : Addr) (acc : List Int) : Prop where
  d : ∃ (kvs : List (Key × V)) (ks : List Int), H D = some (.dK kvs) ∧ kvs.map (·.1) = ks.map (fun x => (Sum.inl x : Key)) ∧ ks.Nodup ∧ ∀ x, x ∈ ks ↔ x ∈ acc
  s : Same H0 H
section
variable {P : Program} {w : World} {K : PySem.W.Frag} {mg : Str → Option Value} {base : Heap}
def spSuccs : Sp := fun vs H Q _ => ∃ (av : V) (ka : Addr) (A : Ar) (Kk : List Int) (i : Nat), vs = [av, .ref ka, .int (i : Nat)] ∧ ArIn H A av ∧ ArG A ∧ A.length ≤ 46 ∧ H ka = some (.tup (Kk.map V.int)) ∧ (∀ p ∈ Kk, 0 ≤ p ∧ p < (A.length : Int)) ∧ (∀ p ∈ Kk, i < lenOf A p) ∧
  ∀ l H', Same H H' → H l = none → H' l = some (.lst ((succs A Kk i).map V.int)) → Q (.ref l) H'
theorem ok_successors_of (T : Txt K mg) : FnOk P w K mg base CX0 1 T.a_successors_of T.d_successors_of P_successors_of spSuccs := by
  refine T.F_successors_of.ok sc_successors_of (fun vs H Q E h => ?_) (fun cdv A outer s H vs Q E hr h => ?_)
  · obtain ⟨av, ka, A, Kk, i, rfl, _⟩ := h
    rfl
  obtain ⟨av, ka, A0, Kk, i, rfl, ⟨b0, zs, rfl, e0, hzs⟩, hG, hn, hka, hKr, hKi, q⟩ := h
  refine ⟨_, (pss_cons (ps_set (i := 3) sc_successors_of.nd rfl (Or.inl rfl) pe_dnewK)
    (pss_cons (ps_for  PassesOwn.never rfl (pi_tup (pv 1)) (pg_name (i := 4) sc_successors_of.nd rfl (Or.inl rfl))
    (pss_one (ps_for  PassesOwn.never rfl (pi_tup (pe_ix ix_tup (pe_ix ix_tup (pv 0) (pv 4) (fun _ _ => rfl)) (pv 2) (fun _ _ => rfl))) (pg_name (i := 5) sc_successors_of.nd rfl (Or.inl rfl))
    (pss_one (ps_dput (hu_of hr) (pv 3) (pv 5) pe_bl rfl)))))
    (pss_one (ps_ret (pe_callB (call_sortedDI rfl) (by rfl) T.z_sorted (by decide +kernel) (pa_cons (pv 3) pa_nil)))))), ?_⟩
  refine fun D hD => ?_
  obtain ⟨H1, e1, s1, k1⟩ := newH hD (.dK [])
  rw [e1]
  have sm : ∀ acc : List Int, (∀ x ∈ acc, -1 ≤ x ∧ x < (A0.length : Int)) → ∀ ks : List Int, ks.Nodup → (∀ x, x ∈ ks ↔ x ∈ acc) → ks.length ≤ 47 := fun acc ha ks hk hm => by
    have := nd_short (lo := -1) (hi := (A0.length : Int)) hk (fun x hx => ha x ((hm x).mp hx)) (by omega)
    omega
  have hin : ∀ j, ∀ x ∈ (Kk.take j).flatMap (fun p => optOf A0 p i), -1 ≤ x ∧ x < (A0.length : Int) := fun j x hx => by
    obtain ⟨p, hp, hx⟩ := List.mem_flatMap.mp hx
    have hp := List.mem_of_mem_take hp
    obtain ⟨os, o, _, _, e, _, hO, _⟩ := optOf_g hG (hKr p hp).1 (hKr p hp).2 (hKi p hp)
    rw [e] at hx
    exact hO.mem x hx
  refine ⟨_, rfl, ka, rfl, ⟨_, sqt (s1 _ _ hka)⟩, for_tup (K := K) (a := ka) (xs := Kk.map V.int) (fun (j : Nat) (σ : L2.St) (H' : Hp) => ∃ (y4 y5 : Option V), σ = [some (.ref b0), some (.ref ka), some (.int (i : Nat)), some (.ref D), y4, y5] ∧ KsD H H' D ((Kk.take j).flatMap fun p => optOf A0 p i)) ?_ ?_ ?_ ?_⟩
  · exact ⟨none, none, rfl, ⟨[], [], k1, rfl, List.nodup_nil, fun x => by simp⟩, s1⟩
  · rintro j σ H' _ ⟨y4, y5, rfl, G⟩
    exact sqt (G.s _ _ hka)
  · rintro j x σ H2 hx ⟨y4, y5, rfl, G⟩
    rw [List.getElem?_map] at hx
    obtain ⟨p, hp, rfl⟩ := Option.map_eq_some_iff.mp hx
    have hpm := List.mem_of_getElem? hp
    obtain ⟨p0, p1⟩ := hKr p hpm
    have hpi := hKi p hpm
    obtain ⟨os, o, hos, ho, eo, el, hO, _⟩ := optOf_g hG p0 p1 hpi
    obtain ⟨os', x, hos', hat, b1, ys, rfl, eb1, hys⟩ := hzs.atI p0 p1
    rw [hos] at hos'
    cases hos'
    obtain ⟨y, hy, b2, rfl, eb2⟩ := hys.at ho
    have hol : o.length ≤ 60 := hO.len
    refine ⟨_, rfl, _, rfl, b0, _, _, _, rfl, rfl, sqt (G.s _ _ e0), hat, _, rfl, b1, _, _, _, rfl, rfl, sqt (G.s _ _ eb1), atI_nat hy, b2, rfl, ⟨_, sqt (G.s _ _ eb2)⟩, ?_⟩
    refine for_tup (K := K) (a := b2) (xs := o.map V.int) (fun (t : Nat) (σ : L2.St) (H' : Hp) => ∃ (y5 : Option V), σ = [some (.ref b0), some (.ref ka), some (.int (i : Nat)), some (.ref D), some (.int p), y5] ∧ KsD H H' D ((Kk.take j).flatMap (fun p => optOf A0 p i) ++ o.take t)) ?_ ?_ ?_ ?_
    · exact ⟨_, rfl, by rw [List.take_zero, List.append_nil]; exact G⟩
    · rintro t σ H' _ ⟨y5, rfl, G2⟩
      exact sqt (G2.s _ _ eb2)
    · rintro t x σ H3 hx2 ⟨y5, rfl, G2⟩
      rw [List.getElem?_map] at hx2
      obtain ⟨c, hc, rfl⟩ := Option.map_eq_some_iff.mp hx2
      obtain ⟨kvs, ks, kD, hk1, hk2, hk3⟩ := G2.d
      have hkl := sm _ (fun x hx => by
        rcases List.mem_append.mp hx with hx | hx
        · exact hin j x hx
        · exact hO.mem x (List.mem_of_mem_take hx)) ks hk2 hk3
      have hkvl : kvs.length = ks.length := by
        have := congrArg List.length hk1
        rw [List.length_map, List.length_map] at this
        exact this
      refine ⟨_, rfl, _, rfl, D, _, rfl, DPut.k (k := Sum.inl c) kD (big' (by omega)), ?_⟩
      refine ⟨_, rfl, ⟨_, if c ∈ ks then ks else ks ++ [c], upd_same, keys_put hk1 c _, ?_, fun x => ?_⟩, same_put G2.s hD⟩
      · by_cases h : c ∈ ks
        · rw [if_pos h]
          exact hk2
        · rw [if_neg h]
          exact List.nodup_append.mpr ⟨hk2, by simp, fun a ha b hb e => h (by rw [← List.mem_singleton.mp hb, ← e]; exact ha)⟩
      · have h1 : x ∈ (if c ∈ ks then ks else ks ++ [c]) ↔ x ∈ ks ∨ x = c := by
          by_cases h : c ∈ ks
          · rw [if_pos h]
            exact ⟨.inl, fun q => q.elim id fun e => e ▸ h⟩
          · rw [if_neg h, List.mem_append, List.mem_singleton]
        rw [h1, hk3, List.take_add_one, hc, List.mem_append, List.mem_append, List.mem_append, or_assoc]
        simp
    · rintro σ H3 ⟨y5, rfl, G2⟩
      rw [List.length_map, List.take_length] at G2
      refine ⟨_, _, rfl, ?_⟩
      rw [List.take_add_one, hp, List.flatMap_append]
      simpa [eo] using G2
  · rintro σ H2 ⟨y4, y5, rfl, G⟩
    rw [List.length_map, List.take_length] at G
    obtain ⟨kvs, ks, kD, hk1, hk2, hk3⟩ := G.d
    have hkl := sm _ (fun x hx => hin Kk.length x (by rw [List.take_length]; exact hx)) ks hk2 hk3
    refine ⟨_, rfl, D, kvs, ks, rfl, .inl kD, hk1, by omega, fun ys l hperm hpw hl => ?_⟩
    have hasc : Asc ys := asc_of hperm hk2 hpw
    refine q l _ (G.s.trans (same_new hl _)) (G.s.free hl) ?_
    rw [upd_same]
    have : ys = succs A0 Kk i := srt_is hasc fun x => by rw [hperm.mem_iff, hk3]; rfl
    rw [this]
end
end NL

set_option maxHeartbeats 4000000
namespace NL
open PySem PySem.Spec PyProof.Rows L2
/-! ### known_arena -/
theorem dcT_it {J : L2.It} {n : Nat} {G : Hp → Prop} {Y : Nat → Hp → V → Hp → Prop} (w : Walk J n G Y) {g : TG} {tt : TT} {tk tv : TE} {vs : List Nat} {σ : L2.St} {H1 : Hp} {D : Addr} {Qd : Hp → Prop} (Pv : Nat → Hp → Prop) (h0 : Pv 0 (upd H1 D (.dT []))) (hq : ∀ i H, i ≤ n → Pv i H → G H)
    (hs : ∀ (i : Nat) (x : V) (H H' : Hp), i < n → Pv i H → Y i H x H' → g x (wipe σ vs) H' fun σ2 H2 => wipe σ2 vs = wipe σ vs ∧ tt σ2 H2 fun c H3 =>
      if c = true then tk σ2 H3 fun y H4 => tv σ2 H4 fun z H5 => ∃ kvs k b Gn, Gn = upd H5 D (.dT (putK kvs k z)) ∧ y = .ref b ∧ H5 b = some (.tup (k.map kV)) ∧ H5 D = some (.dT kvs) ∧ kvs.length < sizeLine ∧ Pv (i + 1) Gn else Pv (i + 1) H3) (hd : ∀ H, Pv n H → Qd H) :
    ∃ W : Nat → Nat → Hp → Prop, (∃ m, W 0 m (upd H1 D (.dT []))) ∧ ∀ i m H, W i m H →
      (J.stop i H ∧ Qd H) ∨ (J.go i H ∧ ∃ Nx : Hp → Prop, (∀ H', Nx H' → ∃ m', m' < m ∧ W (i + 1) m' H') ∧ ∀ x H', J.yld i H x H' → g x (wipe σ vs) H' fun σ2 H2 => wipe σ2 vs = wipe σ vs ∧ tt σ2 H2 fun c H3 =>
        if c = true then tk σ2 H3 fun y H4 => tv σ2 H4 fun z H5 => ∃ kvs k b Gn, Gn = upd H5 D (.dT (putK kvs k z)) ∧ y = .ref b ∧ H5 b = some (.tup (k.map kV)) ∧ H5 D = some (.dT kvs) ∧ kvs.length < sizeLine ∧ Nx Gn else Nx H3) := by
  refine ⟨fun i m H => m + i = n ∧ Pv i H, ⟨n, rfl, h0⟩, ?_⟩
  rintro i m H ⟨hi, p⟩
  have hG := hq i H (by omega) p
  by_cases lt : i < n
  · exact .inr ⟨w.goes i H lt hG, Pv (i + 1), fun H' p' => ⟨m - 1, by omega, by omega, p'⟩, fun v H' y => hs i v H H' lt p (w.yields i H v H' lt hG y)⟩
  · have e : i = n := by omega
    subst e
    exact .inl ⟨w.stops H hG, hd H p⟩
def gk (g : List Int) : List Key := g.map fun x => (Sum.inl x : Key)
theorem gk_V (g : List Int) : (gk g).map kV = g.map V.int := by
  unfold gk
  rw [List.map_map]
  rfl
theorem gk_inj : ∀ {g h : List Int}, gk g = gk h → g = h
  | [], [], _ => rfl
  | [], b :: h, e => by cases e
  | a :: g, [], e => by cases e
  | a :: g, b :: h, e => by
    have e : (Sum.inl a : Key) :: gk g = (Sum.inl b : Key) :: gk h := e
    injection e with e1 e2
    rw [Sum.inl.inj e1, gk_inj e2]
/-- the dict of the sets' numbers -/
def NumOk (kvs : List (List Key × V)) (S : List (List Int)) : Prop := ∀ g : List Int, valV kvs (gk g) = if g ∈ S then some (.int (nr S g : Nat)) else none
theorem NumOk.nil : NumOk [] [] := fun g => rfl
theorem NumOk.put {kvs : List (List Key × V)} {S : List (List Int)} (h : NumOk kvs S) {g : List Int} (hg : g ∉ S) : NumOk (putK kvs (gk g) (.int (S.length : Nat))) (S ++ [g]) := fun k => by
  rw [valV_put, h k]
  by_cases e : k = g
  · subst e
    rw [if_pos rfl, if_pos (by simp), nr_new hg]
  · rw [if_neg (fun q => e (gk_inj q))]
    by_cases hk : k ∈ S
    · rw [if_pos hk, if_pos (List.mem_append_left _ hk), nr_app hk]
    · rw [if_neg hk, if_neg (fun q => (List.mem_append.mp q).elim hk fun q => e (List.mem_singleton.mp q))]
def KnIn (H : Hp) (F : Ar) (S : List (List Int)) (v : V) : Prop := ∃ b x y, v = .ref b ∧ H b = some (.tup [x, y]) ∧ ArIn H F x ∧ PosIn H S y
/-- the objects of known_arena that change: the sets, their numbers, the options found -/
structure KnS (H0 H : Hp) (sl N ko : Addr) (S : List (List Int)) (F : Ar) : Prop where
  ls : ∃ xs, H sl = some (.lst xs) ∧ Each (OptIn H) S xs
  nm : ∃ kvs, H N = some (.dT kvs) ∧ NumOk kvs S ∧ kvs.length ≤ S.length
  lo : ∃ zs, H ko = some (.lst zs) ∧ Each (PosIn H) F zs
  f1 : H0 sl = none
  f2 : H0 N = none
  f3 : H0 ko = none
  s : Same H0 H
theorem KnS.same {H0 H H' : Hp} {sl N ko : Addr} {S : List (List Int)} {F : Ar} (h : KnS H0 H sl N ko S F) (s : Same H H') : KnS H0 H' sl N ko S F := by
  obtain ⟨xs, h1, h2⟩ := h.ls
  obtain ⟨kvs, h3, h4, h5⟩ := h.nm
  obtain ⟨zs, h6, h7⟩ := h.lo
  exact ⟨⟨xs, s _ _ h1, h2.mono fun o x => OptIn.tp (Tp.same s)⟩, ⟨kvs, s _ _ h3, h4, h5⟩, ⟨zs, s _ _ h6, h7.mono fun o x => PosIn.tp (Tp.same s)⟩, h.f1, h.f2, h.f3, h.s.trans s⟩
theorem KnS.ne {H0 H : Hp} {sl N ko : Addr} {S : List (List Int)} {F : Ar} (h : KnS H0 H sl N ko S F) : sl ≠ N ∧ N ≠ ko := by
  obtain ⟨xs, h1, _⟩ := h.ls
  obtain ⟨kvs, h3, _⟩ := h.nm
  obtain ⟨zs, h6, _⟩ := h.lo
  exact ⟨fun e => (by rw [e, h3] at h1; cases h1), fun e => (by rw [e, h6] at h3; cases h3)⟩
/-- a new set: its number, and behind the others -/
theorem KnS.add {H0 H : Hp} {sl N ko : Addr} {S : List (List Int)} {F : Ar} (h : KnS H0 H sl N ko S F) (hsk : sl ≠ ko) {g : List Int} (hg : g ∉ S) {xs : List V} {kvs : List (List Key × V)} {b : Addr} (hxs : H sl = some (.lst xs)) (hk : H N = some (.dT kvs)) (hb : H b = some (.tup (g.map V.int))) :
    KnS H0 (upd (upd H N (.dT (putK kvs (gk g) (.int (S.length : Nat))))) sl (.lst (xs ++ [.ref b]))) sl N ko (S ++ [g]) F := by
  obtain ⟨n1, n2⟩ := h.ne
  obtain ⟨xs', h1, h2⟩ := h.ls
  rw [hxs] at h1
  cases h1
  obtain ⟨kvs', h3, h4, h5⟩ := h.nm
  rw [hk] at h3
  cases h3
  obtain ⟨zs, h6, h7⟩ := h.lo
  have tp : Tp H (upd (upd H N (.dT (putK kvs (gk g) (.int (S.length : Nat))))) sl (.lst (xs ++ [.ref b]))) := fun a ys e => by
    rw [upd_ne (fun q => by rw [q, hxs] at e; cases e), upd_ne (fun q => by rw [q, hk] at e; cases e)]
    exact e
  refine ⟨⟨_, upd_same, (h2.mono fun o x => OptIn.tp tp).snoc ⟨b, rfl, tp _ _ hb⟩⟩, ⟨_, by rw [upd_ne n1.symm, upd_same], h4.put hg, ?_⟩, ⟨zs, by rw [upd_ne hsk.symm, upd_ne n2.symm]; exact h6, h7.mono fun o x => PosIn.tp tp⟩, h.f1, h.f2, h.f3, fun a o e => ?_⟩
  · have := length_putK kvs (gk g) (V.int (S.length : Nat))
    rw [List.length_append, List.length_singleton]
    omega
  · rw [upd_ne (fun q => by rw [q, h.f1] at e; cases e), upd_ne (fun q => by rw [q, h.f2] at e; cases e)]
    exact h.s _ _ e
/-- one more row of options -/
theorem KnS.row {H0 H : Hp} {sl N ko : Addr} {S : List (List Int)} {F : Ar} (h : KnS H0 H sl N ko S F) (hsk : sl ≠ ko) {os : Pos'} {zs : List V} {t : Addr} {ys : List V} (hzs : H ko = some (.lst zs)) (ht : H t = some (.tup ys)) (hys : Each (OptIn H) os ys) :
    KnS H0 (upd H ko (.lst (zs ++ [.ref t]))) sl N ko S (F ++ [os]) := by
  obtain ⟨n1, n2⟩ := h.ne
  obtain ⟨xs, h1, h2⟩ := h.ls
  obtain ⟨kvs, h3, h4, h5⟩ := h.nm
  obtain ⟨zs', h6, h7⟩ := h.lo
  rw [hzs] at h6
  cases h6
  have tp : Tp H (upd H ko (.lst (zs ++ [.ref t]))) := fun a ys e => by
    rw [upd_ne (fun q => by rw [q, hzs] at e; cases e)]
    exact e
  exact ⟨⟨xs, by rw [upd_ne hsk]; exact h1, h2.mono fun o x => OptIn.tp tp⟩, ⟨kvs, by rw [upd_ne n2]; exact h3, h4, h5⟩, ⟨_, upd_same, (h7.mono fun o x => PosIn.tp tp).snoc ⟨t, ys, rfl, tp _ _ ht, hys.mono fun o x => OptIn.tp tp⟩⟩, h.f1, h.f2, h.f3, fun a o e => by
    rw [upd_ne (fun q => by rw [q, h.f3] at e; cases e)]
    exact h.s _ _ e⟩
theorem KnS.put {H0 H : Hp} {sl N ko ol : Addr} {S : List (List Int)} {F : Ar} (h : KnS H0 H sl N ko S F) (h1 : sl ≠ ol) (h2 : N ≠ ol) (h3 : ko ≠ ol) (h0 : H0 ol = none) {ys zs : List V} (hy : H ol = some (.lst ys)) : KnS H0 (upd H ol (.lst zs)) sl N ko S F := by
  obtain ⟨xs, a1, a2⟩ := h.ls
  obtain ⟨kvs, a3, a4, a5⟩ := h.nm
  obtain ⟨zs', a6, a7⟩ := h.lo
  have tp : Tp H (upd H ol (.lst zs)) := tp_put Tp.refl hy
  exact ⟨⟨xs, by rw [upd_ne h1]; exact a1, a2.mono fun o x => OptIn.tp tp⟩, ⟨kvs, by rw [upd_ne h2]; exact a3, a4, a5⟩, ⟨zs', by rw [upd_ne h3]; exact a6, a7.mono fun o x => PosIn.tp tp⟩, h.f1, h.f2, h.f3, same_put h.s h0⟩
theorem gx_out {c : Bool} {ta tb : TE} {σ : L2.St} {H : Hp} {Q : VK} (R : Addr → Hp → Prop) (ha : c = true → ∀ C : VK, (∀ p H', R p H' → C (.ref p) H') → ta σ H C) (hb : c = false → ∀ C : VK, (∀ p H', R p H' → C (.ref p) H') → tb σ H C) (q : ∀ p H', R p H' → Q (.ref p) H') : if c = true then ta σ H Q else tb σ H Q := by
  cases c with
  | true => exact ifT rfl (ha rfl Q q)
  | false => exact ifF rfl (hb rfl Q q)
/-- at most 300 sets -/
def Few (rd : Int → Int) (n : Int) : Prop := ∀ S : List (List Int), S.Nodup → (∀ g ∈ S, KS rd n g) → S.length ≤ 300
/-- at most 300 sets are found -/
def FewK (A : Ar) (rd : Int → Int) (st : List Int) : Prop := ∀ n, (kn A rd st n).1.length ≤ 300
theorem few_k {A : Ar} {rd : Int → Int} {st : List Int} (hG : ArG A) (hs : Asc st) (hm : ∀ p ∈ st, 0 ≤ p ∧ p < (A.length : Int)) (h : Few rd (A.length : Int)) : FewK A rd st := fun n => h _ (kn_inv (rd := rd) hG hs hm n).nd (kn_inv (rd := rd) hG hs hm n).ks
theorem FewK.of {A : Ar} {rd : Int → Int} {st : List Int} {F : Ar} {S : List (List Int)} (h : FewK A rd st) (hk : IsKn A rd st F S) : S.length ≤ 300 := by
  obtain ⟨n, h1, _⟩ := hk
  have := h n
  rw [h1] at this
  exact this
theorem kn_none (A : Ar) (rd : Int → Int) : ∀ n, kn A rd [] n = ([], [])
  | 0 => rfl
  | n + 1 => by
    show stp A rd (kn A rd [] n) = _
    rw [kn_none A rd n]
    rfl
theorem addS_two : ∀ (G1 G2 S : List (List Int)), addS S (G1 ++ G2) = addS (addS S G1) G2
  | [], _, _ => rfl
  | _ :: r, G2, S => addS_two r G2 _
section
variable {P : Program} {w : World} {K : PySem.W.Frag} {mg : Str → Option Value} {base : Heap}
def spKnown : Sp := fun vs H Q _ => ∃ (av : V) (ra sa : Addr) (A : Ar) (R st : List Int), vs = [av, .ref ra, .ref sa] ∧ ArIn H A av ∧ ArG A ∧ A.length ≤ 46 ∧ H ra = some (.tup (R.map V.int)) ∧ R.length = A.length ∧ H sa = some (.tup (st.map V.int)) ∧ Asc st ∧ (∀ p ∈ st, 0 ≤ p ∧ p < (A.length : Int)) ∧ FewK A (rdF R) st ∧
  ∀ F S v H', Same H H' → IsKn A (rdF R) st F S → KnIn H' F S v → Q v H'
theorem ok_known_arena (T : Txt K mg) : FnOk P w K mg base CX0 2 T.aknown_arena T.dknown_arena Pknown_arena spKnown := by
  have G_parted := ok_parted (P := P) (w := w) (base := base) T
  have G_successors_of := ok_successors_of (P := P) (w := w) (base := base) T
  refine T.Fknown_arena.ok scknown_arena (fun vs H Q E h => ?_) (fun cdv A outer s H vs Q E hr h => ?_)
  · obtain ⟨av, ra, sa, A, R, st, rfl, _⟩ := h
    rfl
  obtain ⟨av, ra, sa, A0, R, st, rfl, hA, hG, hn, hra, hRl, hsa, hst, hsm, hfew, q⟩ := h
  obtain ⟨b0, zs0, rfl, e0, hzs0⟩ := id hA
  refine ⟨_, (pss_cons (ps_set (i := 3) scknown_arena.nd rfl (Or.inl rfl) (pe_call G_parted (hr.mono (by omega)) (by rfl) T.m_parted T.F_parted.kp T.b_parted .nil pass0 (pa_cons (pv 2) (pa_cons (pv 1) pa_nil))))
    (pss_cons (ps_set (i := 4) scknown_arena.nd rfl (Or.inr rfl) (pe_dcT (hu_of hr) (own := [("number", 5), ("known", 6)]) (g := (gTup K 2 (gCons (gName 5) (gCons (gName 6) gNil)))) (tt := tYes) rfl scknown_arena.nd (pi_enum (by rfl) T.z_enumerate (pa_cons (pv 3) pa_nil)) (blkOk_by (N := Nknown_arena) (sc := defScope sknown_arena) (by decide +kernel)) (fun _ _ _ _ _ => (pg_tup rfl (pgs_cons (pg_name (i := 5) scknown_arena.nd rfl (Or.inl rfl)) (pgs_cons (pg_name (i := 6) scknown_arena.nd rfl (Or.inl rfl)) pgs_nil)))) (fun _ _ _ _ _ => pts_nil) (fun _ _ _ _ _ => (pv 6)) (fun _ _ _ _ _ => (pv 5))))
    (pss_cons (ps_set (i := 7) scknown_arena.nd rfl (Or.inl rfl) (pe_lst pa_nil))
    (pss_cons (ps_while PassesOwn.never (pt_cmpR op_lt (pe_callB call_len_seq (by rfl) T.z_len PySem.boot_len (pa_cons (pv 7) pa_nil)) (pe_callB call_len_seq (by rfl) T.z_len PySem.boot_len (pa_cons (pv 3) pa_nil)) (nomark _))
    (pss_cons (ps_set (i := 6) scknown_arena.nd rfl (Or.inl rfl) (pe_ix ix_list (pv 3) (pe_callB call_len_seq (by rfl) T.z_len PySem.boot_len (pa_cons (pv 7) pa_nil)) (fun _ _ => rfl)))
    (pss_cons (ps_set (i := 8) scknown_arena.nd rfl (Or.inl rfl) (pe_lst pa_nil))
    (pss_cons (ps_for  PassesOwn.never rfl (pi_range1 (by rfl) T.z_range (pa_cons (pe_callB (cr_min rfl) (by rfl) T.z_min (by decide +kernel) (pa_cons (pe_lc (own := [("at", 10)]) (g := (gName 10)) (tt := tYes) rfl scknown_arena.nd (pi_tup (pv 6)) (blkOk_by (N := Nknown_arena) (sc := defScope sknown_arena) (by decide +kernel)) (fun _ _ _ _ _ => (pg_name (i := 10) scknown_arena.nd rfl (Or.inl rfl))) (fun _ _ _ _ _ => pts_nil) (fun _ _ _ _ _ => (pe_callB (call_len_seqK (K := K) rfl) (by rfl) T.z_len PySem.boot_len (pa_cons (pe_ix (ix_tupK (K := K) rfl) (pv 0) (pv 10) (fun _ _ => rfl)) pa_nil)))) pa_nil)) pa_nil)) (pg_name (i := 9) scknown_arena.nd rfl (Or.inl rfl))
    (pss_cons (ps_set (i := 11) scknown_arena.nd rfl (Or.inl rfl) (pe_call G_successors_of (hr.mono (by omega)) (by rfl) T.m_successors_of T.F_successors_of.kp T.b_successors_of .nil pass0 (pa_cons (pv 0) (pa_cons (pv 6) (pa_cons (pv 9) pa_nil)))))
    (pss_cons (ps_set (i := 12) scknown_arena.nd rfl (Or.inl rfl) (pe_call G_parted (hr.mono (by omega)) (by rfl) T.m_parted T.F_parted.kp T.b_parted .nil pass0 (pa_cons (pe_lc (own := [("at", 10)]) (g := (gName 10)) (tt := _) rfl scknown_arena.nd (pi_list (pv 11)) (blkOk_by (N := Nknown_arena) (sc := defScope sknown_arena) (by decide +kernel)) (fun _ _ _ _ _ => (pg_name (i := 10) scknown_arena.nd rfl (Or.inl rfl))) (fun _ _ _ _ _ => (pts_one (pt_cmpR op_ne (pv 10) (pe_un un_neg pe_int) (nomark _)))) (fun _ _ _ _ _ => (pv 10))) (pa_cons (pv 1) pa_nil))))
    (pss_cons (ps_for  PassesOwn.never rfl (pi_list (pv 12)) (pg_name (i := 13) scknown_arena.nd rfl (Or.inl rfl))
    (pss_one (ps_if (pt_cmp (pc_dnotin (hu_of hr) (pv 13) (pv 4)))
    (pss_cons (ps_dput (hu_of hr) (pv 4) (pv 13) (pe_callB call_len_seq (by rfl) T.z_len PySem.boot_len (pa_cons (pv 3) pa_nil)) rfl)
    (pss_one (ps_expr (pe_bm PySem.F.plainAttrs_list PySem.F.slot_list_append PySem.F.type_list_append mt_append (pv 3) (pa_cons (pv 13) pa_nil)))))
    pss_nil)))
    (pss_cons (ps_set (i := 14) scknown_arena.nd rfl (Or.inl rfl) (pe_ifExp (pt_cmpR op_in_seq (pe_un un_neg pe_int) (pv 11) (by rfl)) (pe_lst (pa_cons (pe_un un_neg pe_int) pa_nil)) (pe_lst pa_nil)))
    (pss_one (ps_expr (pe_bm PySem.F.plainAttrs_list PySem.F.slot_list_append PySem.F.type_list_append mt_append (pv 8) (pa_cons (pe_callTy call_tuple_of (by rfl) T.z_tuple (by decide +kernel) (pa_cons (pe_op op_cat (pv 14) (pe_callB (cr_sorted) (by rfl) T.z_sorted (by decide +kernel) (pa_cons (pe_lc (own := [("one", 13)]) (g := (gName 13)) (tt := tYes) rfl scknown_arena.nd (pi_list (pv 12)) (blkOk_by (N := Nknown_arena) (sc := defScope sknown_arena) (by decide +kernel)) (fun _ _ _ _ _ => (pg_name (i := 13) scknown_arena.nd rfl (Or.inl rfl))) (fun _ _ _ _ _ => pts_nil) (fun _ _ _ _ _ => (pe_dget (hu_of hr) (pv 4) (pv 13) (fun _ _ => rfl)))) pa_nil))) pa_nil)) pa_nil)))))))))
    (pss_one (ps_expr (pe_bm PySem.F.plainAttrs_list PySem.F.slot_list_append PySem.F.type_list_append mt_append (pv 7) (pa_cons (pe_callTy call_tuple_of (by rfl) T.z_tuple (by decide +kernel) (pa_cons (pv 8) pa_nil)) pa_nil))))))))
    (pss_one (ps_ret (pe_tup (pa_cons (pe_callTy call_tuple_of (by rfl) T.z_tuple (by decide +kernel) (pa_cons (pv 7) pa_nil)) (pa_cons (pe_callTy call_tuple_of (by rfl) T.z_tuple (by decide +kernel) (pa_cons (pv 3) pa_nil)) pa_nil))))))))), ?_⟩
  generalize hrd : rdF R = rd at *
  have hstl : st.length ≤ 60 := by
    have := asc_short (lo := 0) (hi := (A0.length : Int)) hst (fun x hx => hsm x hx) (by omega)
    omega
  refine ⟨_, rfl, _, rfl, sa, ra, st, R, rfl, .inr hsa, hra, hstl, fun p hp => by rw [hRl]; exact hsm p hp, fun sl xs H1 s1 hsl k1 hxs => ?_⟩
  rw [hrd] at hxs
  have hpl : (prt rd st).length ≤ 60 := Nat.le_trans prt_len hstl
  have hxl := hxs.1
  refine ⟨_, rfl, sl, xs, rfl, sqd k1, fun N hN => ?_⟩
  have hNsl : N ≠ sl := fun z => by rw [z, k1] at hN; cases hN
  refine dcT_it (walk_enum (K := K) (a := sl) (xs := xs)) (fun (j : Nat) (H' : Hp) => Same H1 H' ∧ ∃ kvs, H' N = some (.dT kvs) ∧ NumOk kvs ((prt rd st).take j) ∧ kvs.length ≤ j) ?_ ?_ ?_ ?_
  · exact ⟨same_new hN _, [], upd_same, by rw [List.take_zero]; exact .nil, Nat.le_refl _⟩
  · rintro j H' _ ⟨s2, _⟩
    exact sqd (s2 _ _ k1)
  · rintro j x H2 H3 hj ⟨s2, kvs, k2, hnum, hkl⟩ ⟨t, x1, y1, rfl, ht, rfl, hx1, hy1⟩
    cases hx1
    have hy1 : xs[j]? = some y1 := hy1
    obtain ⟨g, hg⟩ : ∃ g, (prt rd st)[j]? = some g := ⟨_, List.getElem?_eq_getElem (by omega)⟩
    obtain ⟨b, rfl, hb⟩ := hxs.2 j g y1 hg hy1
    obtain ⟨H4, e4, s4, k4⟩ := newH ht (.tup [.int (j : Nat), V.ref b])
    rw [e4]
    have s24 := s2.trans s4
    refine ⟨t, _, rfl, sqt k4, rfl, _, _, rfl, _, _, rfl, rfl, rfl, yes_if ?_⟩
    refine ⟨_, rfl, _, rfl, kvs, gk g, b, _, rfl, rfl, by rw [gk_V]; exact s24 _ _ hb, s4 _ _ k2, big' (by omega), same_put s24 hN, _, upd_same, ?_, ?_⟩
    · have hnot : g ∉ (prt rd st).take j := fun hm => by
        obtain ⟨i, hi⟩ := List.getElem?_of_mem hm
        have hil := (List.getElem?_eq_some_iff.mp hi).1
        rw [List.length_take] at hil
        rw [List.getElem?_take, if_pos (by omega)] at hi
        have h1 := nr_at prt_nodup hi
        have h2 := nr_at prt_nodup hg
        omega
      have htl : ((prt rd st).take j).length = j := by rw [List.length_take]; omega
      have := hnum.put hnot
      rw [htl] at this
      rw [List.take_add_one, hg]
      exact this
    · have := length_putK kvs (gk g) (V.int (j : Nat))
      omega
  rintro H2 ⟨s2, kvs0, k2, hnum0, hkl0⟩
  rw [hxl, List.take_length] at hnum0
  refine ⟨Nat.zero_le _, fun ko hko => ?_⟩
  obtain ⟨H3, e3, s3, k3⟩ := newH hko (.lst [])
  rw [e3]
  have hsl0 : H sl = none := hsl
  have s12 := s1.trans s2
  have KS0 : KnS H H3 sl N ko (prt rd st) [] := ⟨⟨xs, s3 _ _ (s2 _ _ k1), hxs.mono fun o x => OptIn.tp (Tp.same (s2.trans s3))⟩, ⟨kvs0, s3 _ _ k2, hnum0, by omega⟩, ⟨[], k3, .nil⟩, hsl0, s1.free hN, s12.free hko, s12.trans s3⟩
  have hslko : sl ≠ ko := fun z => by rw [← z, s2 _ _ k1] at hko; cases hko
  have hNko : N ≠ ko := fun z => by rw [← z, k2] at hko; cases hko
  refine ⟨fun m σ H' => ∃ (k : Nat) (S : List (List Int)) (F : Ar) (y5 y6 y8 y9 y10 y11 y12 y13 y14 : Option V), σ = [some (.ref b0), some (.ref ra), some (.ref sa), some (.ref sl), some (.ref N), y5, y6, some (.ref ko), y8, y9, y10, y11, y12, y13, y14] ∧ kn A0 rd st k = (S, F) ∧ KnS H H' sl N ko S F ∧ m = 300 - F.length, ⟨_, 0, prt rd st, [], _, _, _, _, _, _, _, _, _, rfl, rfl, KS0, rfl⟩, ?_⟩
  rintro m σ H4 ⟨k, S, F, y5, y6, y8, y9, y10, y11, y12, y13, y14, rfl, hk, Z, rfl⟩
  have I := kn_inv (rd := rd) hG hst hsm k
  rw [hk] at I
  have I : KnI A0 rd st S F := I
  have hS300 : S.length ≤ 300 := by
    have := hfew k
    rw [hk] at this
    exact this
  obtain ⟨xs4, kl4, hxs4⟩ := Z.ls
  obtain ⟨zs4, ko4, hzs4⟩ := Z.lo
  have hxl4 := hxs4.1
  have hzl4 := hzs4.1
  have hle := I.le
  refine ⟨_, rfl, ko, _, rfl, .inl (sqd ko4), _, rfl, sl, _, rfl, .inl (sqd kl4), _, _, rfl, rfl, _, rfl, ?_⟩
  by_cases hlt : F.length < S.length
  rotate_left
  · refine ifF (decide_eq_false (by omega)) ?_
    refine ⟨_, rfl, ko, _, rfl, .inl ⟨sqd ko4, fun ta hta => ?_⟩⟩
    obtain ⟨H5, e5, s5, k5⟩ := newH hta (.tup zs4)
    rw [e5]
    refine ⟨_, rfl, sl, _, rfl, .inl ⟨sqd (s5 _ _ kl4), fun tb htb => ?_⟩⟩
    obtain ⟨H6, e6, s6, k6⟩ := newH htb (.tup xs4)
    rw [e6]
    refine ⟨Nat.le_of_ble_eq_true rfl, fun tc htc => ?_⟩
    obtain ⟨_, rfl, s7, k7⟩ := newH htc (.tup [.ref ta, .ref tb])
    have s57 := (s5.trans s6).trans s7
    refine q F S _ _ (Z.s.trans s57) ⟨k, hk, by omega⟩ ⟨tc, _, _, rfl, ?_, ⟨ta, zs4, rfl, ?_, hzs4.mono fun o x => PosIn.tp (Tp.same s57)⟩, ⟨tb, xs4, rfl, ?_, hxs4.mono fun o x => OptIn.tp (Tp.same s57)⟩⟩
    · exact k7
    · exact s7 _ _ (s6 _ _ k5)
    · exact s7 _ _ k6
  refine ifT (decide_eq_true (by omega)) ?_
  obtain ⟨Kk, hKk⟩ : ∃ Kk, S[F.length]? = some Kk := ⟨_, List.getElem?_eq_getElem hlt⟩
  have hKS := I.ks Kk (List.mem_of_getElem? hKk)
  have hnext : kn A0 rd st (k + 1) = (rowS A0 rd Kk S (wid A0 Kk), F ++ [(List.range (wid A0 Kk)).map (optK A0 rd (rowS A0 rd Kk S (wid A0 Kk)) Kk)]) := by
    show stp A0 rd (kn A0 rd st k) = _
    rw [hk]
    unfold stp
    show (match S[F.length]? with
      | none => (S, F)
      | some Kk => (rowS A0 rd Kk S (wid A0 Kk), F ++ [(List.range (wid A0 Kk)).map (optK A0 rd (rowS A0 rd Kk S (wid A0 Kk)) Kk)])) = _
    rw [hKk]
  have I2 := kn_inv (rd := rd) hG hst hsm (k + 1)
  rw [hnext] at I2
  have I2 : KnI A0 rd st (rowS A0 rd Kk S (wid A0 Kk)) (F ++ [(List.range (wid A0 Kk)).map (optK A0 rd (rowS A0 rd Kk S (wid A0 Kk)) Kk)]) := I2
  have hW300 : (rowS A0 rd Kk S (wid A0 Kk)).length ≤ 300 := by
    have := hfew (k + 1)
    rw [hnext] at this
    exact this
  generalize hwd : wid A0 Kk = wd at *
  obtain ⟨x1, hx1, ka, rfl, hka4⟩ := hxs4.at hKk
  refine ⟨fun σ' H' => ∃ (y5 y6 y8 y9 y10 y11 y12 y13 y14 : Option V), σ' = [some (.ref b0), some (.ref ra), some (.ref sa), some (.ref sl), some (.ref N), y5, y6, some (.ref ko), y8, y9, y10, y11, y12, y13, y14] ∧ KnS H H' sl N ko (rowS A0 rd Kk S wd) (F ++ [(List.range wd).map (optK A0 rd (rowS A0 rd Kk S wd) Kk)]), ?_, ?_⟩
  · rintro σ' H' ⟨z5, z6, z8, z9, z10, z11, z12, z13, z14, rfl, Z'⟩
    exact ⟨_, by show 300 - (F ++ [(List.range wd).map (optK A0 rd (rowS A0 rd Kk S wd) Kk)]).length < 300 - F.length; rw [List.length_append, List.length_singleton]; omega, k + 1, _, _, _, _, _, _, _, _, _, _, _, rfl, hnext, Z', rfl⟩
  refine ⟨_, rfl, _, rfl, ko, _, rfl, .inl (sqd ko4), sl, _, _, _, rfl, rfl, sqd kl4, atI_nat (by rw [hzl4]; exact hx1), ?_⟩
  refine ⟨Nat.zero_le _, fun ol hol => ?_⟩
  obtain ⟨H5, e5, s5, k5⟩ := newH hol (.lst [])
  rw [e5]
  have Z5 := Z.same s5
  have hA5 : ArIn H5 A0 (.ref b0) := hA.tp (Tp.same Z5.s)
  have hKl : Kk.length ≤ 46 := by
    have := asc_short (lo := 0) (hi := (A0.length : Int)) hKS.asc (fun x hx => hKS.mem x hx) (by omega)
    omega
  refine ⟨_, rfl, ka, rfl, ⟨_, sqt (s5 _ _ hka4)⟩, fun wl hwl => ?_⟩
  refine lc_tup (K := K) (a := ka) (xs := Kk.map V.int) (fun (j : Nat) (H' : Hp) => Same H5 H' ∧ H' wl = some (.lst (((Kk.take j).map fun p => ((lenOf A0 p : Nat) : Int)).map V.int))) ?_ ?_ ?_ ?_
  · exact ⟨same_new hwl _, upd_same⟩
  · rintro j H' _ ⟨s6, _⟩
    exact sqt (s6 _ _ (s5 _ _ hka4))
  · rintro j x H6 hx ⟨s6, k6⟩
    rw [List.getElem?_map] at hx
    obtain ⟨p, hp, rfl⟩ := Option.map_eq_some_iff.mp hx
    obtain ⟨p0, p1⟩ := hKS.mem p (List.mem_of_getElem? hp)
    obtain ⟨os, x, hos, hat, b1, ys, rfl, eb1, hys⟩ := hzs0.atI p0 p1
    have hj := (List.getElem?_eq_some_iff.mp hp).1
    refine ⟨rfl, yes_if ?_⟩
    refine ⟨_, rfl, _, rfl, b0, _, _, _, rfl, rfl, sqt (s6 _ _ (Z5.s _ _ e0)), hat, b1, _, rfl, .inr (sqt (s6 _ _ (Z5.s _ _ eb1))), _, k6, big' (by rw [List.length_map, List.length_map, List.length_take]; omega), same_put s6 hwl, ?_⟩
    rw [upd_same, List.take_add_one, hp, List.map_append, List.map_append, hys.1, ← lenOf_at hos]
    rfl
  rintro H6 ⟨s6, k6⟩
  rw [List.length_map, List.take_length] at k6
  refine ⟨wl, _, rfl, sqd k6, by rw [List.length_map]; exact List.length_pos_iff.mpr hKS.ne, fun mn hmn hmle => ?_⟩
  have hmw : mn = ((wd : Nat) : Int) := by
    obtain ⟨p, hp, e⟩ := List.mem_map.mp hmn
    have h1 : mn.toNat = wid A0 Kk := wid_is (fun p hp => by have := hmle _ (List.mem_map.mpr ⟨p, hp, rfl⟩); omega) ⟨p, hp, by omega⟩
    rw [hwd] at h1
    omega
  have hwd12 : wd ≤ 12 := by
    obtain ⟨p, hp, e⟩ := wid_mem (A := A0) hKS.ne
    rw [hwd] at e
    obtain ⟨p0, p1⟩ := hKS.mem p hp
    have hk2 : p.toNat < A0.length := by omega
    have := (hG.2 _ (List.getElem_mem hk2)).1
    have e2 := lenOf_at (A := A0) (p := p) (List.getElem?_eq_getElem hk2)
    omega
  have hwle : ∀ i, i < wd → ∀ p ∈ Kk, i < lenOf A0 p := fun i hi p hp => by
    have := wid_le (A := A0) p hp
    omega
  have s56 : Same H4 H6 := s5.trans s6
  have Z6 := Z5.same s6
  have hslO : sl ≠ ol := fun z => by rw [← z, kl4] at hol; cases hol
  have hNO : N ≠ ol := fun z => by
    obtain ⟨kvs, h1, _⟩ := Z.nm
    rw [← z, h1] at hol
    cases hol
  have hkoO : ko ≠ ol := fun z => by rw [← z, ko4] at hol; cases hol
  refine ⟨mn, rfl, by omega, by omega, for_range (lo := 0) (n := mn.toNat) (fun (j : Nat) (σ : L2.St) (H' : Hp) => ∃ (y9 y10 y11 y12 y13 y14 : Option V), σ = [some (.ref b0), some (.ref ra), some (.ref sa), some (.ref sl), some (.ref N), y5, some (.ref ka), some (.ref ko), some (.ref ol), y9, y10, y11, y12, y13, y14] ∧ KnS H H' sl N ko (rowS A0 rd Kk S j) F ∧ H' ka = some (.tup (Kk.map V.int)) ∧ ∃ os, H' ol = some (.lst os) ∧ Each (OptIn H') ((List.range j).map (optK A0 rd (rowS A0 rd Kk S wd) Kk)) os) ?_ ?_ ?_⟩
  · exact ⟨_, _, _, _, _, _, rfl, Z6, s56 _ _ hka4, [], s6 _ _ k5, .nil⟩
  · rintro j σ H7 hj ⟨y9, y10, y11, y12, y13, y14, rfl, Z7, hka7, os7, kol7, hos7⟩
    have hjw : j < wd := by omega
    have hfolG := fol_ks hG hKS (i := j) (by rw [hwd]; exact hjw)
    refine ⟨_, rfl, _, rfl, _, rfl, .ref b0, ka, A0, Kk, j, by rw [Int.zero_add]; rfl, hA.tp (Tp.same Z7.s), hG, hn, hka7, hKS.mem, hwle j hjw, fun al H8 s8 hal k8 => ?_⟩
    have hsucR := succs_mem hG hKS.mem (hwle j hjw)
    have hsl47 : (succs A0 Kk j).length ≤ 47 := by
      have := asc_short (lo := -1) (hi := (A0.length : Int)) (l := succs A0 Kk j) asc_srt (fun x hx => hsucR x hx) (by omega)
      omega
    have Z8 := Z7.same s8
    refine ⟨_, rfl, al, rfl, ⟨_, sqd k8⟩, fun fl hfl => ?_⟩
    refine lc_list (K := K) (a := al) (xs := (succs A0 Kk j).map V.int) (fun (t : Nat) (H' : Hp) => Same H8 H' ∧ H' fl = some (.lst ((((succs A0 Kk j).take t).filter fun p => !decide (p = -1)).map V.int))) ?_ ?_ ?_ ?_
    · exact ⟨same_new hfl _, upd_same⟩
    · rintro t H' _ ⟨s9, _⟩
      exact sqd (s9 _ _ k8)
    · rintro t x H9 hx ⟨s9, k9⟩
      rw [List.getElem?_map] at hx
      obtain ⟨p, hp, rfl⟩ := Option.map_eq_some_iff.mp hx
      have hfl60 : (((succs A0 Kk j).take t).filter fun p => !decide (p = -1)).length ≤ 60 := by
        have h1 := List.length_filter_le (fun p : Int => !decide (p = -1)) ((succs A0 Kk j).take t)
        rw [List.length_take] at h1
        omega
      refine ⟨rfl, ?_⟩
      refine ⟨_, rfl, _, rfl, rfl, _, rfl, ?_⟩
      have hnx : ((succs A0 Kk j).take (t + 1)).filter (fun p => !decide (p = -1)) = ((succs A0 Kk j).take t).filter (fun p => !decide (p = -1)) ++ if p = -1 then [] else [p] := by
        rw [List.take_add_one, hp, List.filter_append]
        congr 1
        by_cases h : p = -1
        · rw [if_pos h, h]
          rfl
        · rw [if_neg h]
          simp [h]
      by_cases h : p = -1
      · subst h
        refine iteF ⟨s9, ?_⟩
        rw [hnx, if_pos rfl, List.append_nil]
        exact k9
      · rw [show (!decide (V.int p = V.int (-1))) = true by rw [decide_eq_false (fun e => h (V.int.inj e))]; rfl]
        refine iteT ⟨_, rfl, _, k9, big' (by rw [List.length_map]; omega), same_put s9 hfl, ?_⟩
        rw [upd_same, hnx, if_neg h, List.map_append]
        rfl
    rintro H9 ⟨s9, k9⟩
    rw [List.length_map, List.take_length] at k9
    have s79 := s8.trans s9
    have hfm : ∀ p ∈ (succs A0 Kk j).filter (fun p => !decide (p = -1)), 0 ≤ p ∧ p < (A0.length : Int) := fun p hp => by
      obtain ⟨h1, h2⟩ := List.mem_filter.mp hp
      have h3 : p ≠ -1 := by simpa using h2
      have := hsucR p h1
      omega
    have hfl60 : ((succs A0 Kk j).filter fun p => !decide (p = -1)).length ≤ 60 := by
      have h1 := List.length_filter_le (fun p : Int => !decide (p = -1)) (succs A0 Kk j)
      omega
    refine ⟨_, rfl, fl, ra, _, R, rfl, .inl k9, s79 _ _ (Z7.s _ _ hra), hfl60, fun p hp => by rw [hRl]; exact hfm p hp, fun gl gxs HA sA hgl kA hgx => ?_⟩
    rw [hrd] at hgx
    have hgx : Each (OptIn HA) (fol A0 rd Kk j) gxs := hgx
    have hGl60 : (fol A0 rd Kk j).length ≤ 60 := Nat.le_trans prt_len hfl60
    have s7A := s79.trans sA
    have ZA := Z7.same s7A
    generalize hGf : fol A0 rd Kk j = Gf at *
    have hgxl := hgx.1
    have glsl : gl ≠ sl := fun z => by
      obtain ⟨xs, h1, _⟩ := (Z7.same s79).ls
      rw [z, h1] at hgl
      cases hgl
    have glN : gl ≠ N := fun z => by
      obtain ⟨xs, h1, _⟩ := (Z7.same s79).nm
      rw [z, h1] at hgl
      cases hgl
    have kolA := s7A _ _ kol7
    refine ⟨_, rfl, gl, rfl, ⟨_, sqd kA⟩, ?_⟩
    refine for_list (K := K) (a := gl) (xs := gxs) (fun (t : Nat) (σ : L2.St) (H' : Hp) => ∃ (y13 : Option V), σ = [some (.ref b0), some (.ref ra), some (.ref sa), some (.ref sl), some (.ref N), y5, some (.ref ka), some (.ref ko), some (.ref ol), some (.int (0 + (j : Int))), y10, some (.ref al), some (.ref gl), y13, y14] ∧ KnS H H' sl N ko (addS (rowS A0 rd Kk S j) (Gf.take t)) F ∧ ∀ a o, a ≠ sl → a ≠ N → HA a = some o → H' a = some o) ?_ ?_ ?_ ?_
    · exact ⟨_, rfl, by rw [List.take_zero]; exact ZA, fun a o _ _ e => e⟩
    · rintro t σ H' _ ⟨y13, rfl, _, fr⟩
      exact sqd (fr _ _ glsl glN kA)
    · rintro t x σ HB hx ⟨y13, rfl, ZB, fr⟩
      have htl : t < gxs.length := (List.getElem?_eq_some_iff.mp hx).1
      obtain ⟨g, hg⟩ : ∃ g, Gf[t]? = some g := ⟨_, List.getElem?_eq_getElem (by omega)⟩
      obtain ⟨bg, rfl, hbg⟩ := hgx.2 t g x hg hx
      have bgsl : bg ≠ sl := fun z => by
        obtain ⟨xs, h1, _⟩ := ZA.ls
        rw [z, h1] at hbg
        cases hbg
      have bgN : bg ≠ N := fun z => by
        obtain ⟨xs, h1, _⟩ := ZA.nm
        rw [z, h1] at hbg
        cases hbg
      have hbgB := fr _ _ bgsl bgN hbg
      obtain ⟨kvs, kN, hnum, hkl⟩ := ZB.nm
      obtain ⟨xsB, klB, hxsB⟩ := ZB.ls
      have hxlB := hxsB.1
      have hSB300 : (addS (rowS A0 rd Kk S j) (Gf.take t)).length ≤ 300 := by
        obtain ⟨T, hT⟩ := rowS_le (A := A0) (rd := rd) (K := Kk) (S := S) (show j + 1 ≤ wd from hjw)
        have e1 : rowS A0 rd Kk S (j + 1) = addS (rowS A0 rd Kk S j) Gf := by rw [← hGf]; rfl
        obtain ⟨T2, hT2⟩ := addS_pre (G := Gf.drop t) (S := addS (rowS A0 rd Kk S j) (Gf.take t))
        rw [← addS_two, List.take_append_drop] at hT2
        rw [hT, e1, hT2, List.length_append, List.length_append] at hW300
        omega
      have hadd : addS (rowS A0 rd Kk S j) (Gf.take (t + 1)) = if g ∈ addS (rowS A0 rd Kk S j) (Gf.take t) then addS (rowS A0 rd Kk S j) (Gf.take t) else addS (rowS A0 rd Kk S j) (Gf.take t) ++ [g] := by
        rw [List.take_add_one, hg]
        exact addS_app _ _ _
      refine ⟨_, rfl, _, rfl, N, _, rfl, DGet.t (k := gk g) kN (by rw [gk_V]; exact hbgB), _, rfl, ?_⟩
      rw [hnum g]
      by_cases hgS : g ∈ addS (rowS A0 rd Kk S j) (Gf.take t)
      · rw [if_pos hgS]
        refine ifF rfl ?_
        refine ⟨_, rfl, ?_, fr⟩
        rw [hadd, if_pos hgS]
        exact ZB
      · rw [if_neg hgS]
        refine ifT rfl ?_
        refine ⟨_, rfl, sl, _, rfl, .inl (sqd klB), _, rfl, _, rfl, N, _, rfl, DPut.t (k := gk g) kN (by rw [gk_V]; exact hbgB) (big' (by omega)), ?_⟩
        have klB' : upd HB N (.dT (putK kvs (gk g) (.int ((xsB.length : Nat) : Int)))) sl = some (.lst xsB) := by rw [upd_ne ZB.ne.1]; exact klB
        refine ⟨_, rfl, .inl ⟨rfl, _, sqd klB'⟩, _, rfl, sl, _, _, rfl, rfl, klB', big' (by omega), ?_⟩
        refine ⟨_, rfl, ?_, fun a o ha1 ha2 e => by rw [upd_ne ha1, upd_ne ha2]; exact fr a o ha1 ha2 e⟩
        rw [hadd, if_neg hgS, hxlB]
        exact ZB.add hslko hgS klB kN hbgB
    · rintro σ HB ⟨y13', rfl, ZB, fr⟩
      rw [hgxl, List.take_length] at ZB
      have hrow : addS (rowS A0 rd Kk S j) Gf = rowS A0 rd Kk S (j + 1) := by
        rw [← hGf]
        rfl
      rw [hrow] at ZB
      have alsl : al ≠ sl := fun z => by
        obtain ⟨xs, h1, _⟩ := Z7.ls
        rw [z, h1] at hal
        cases hal
      have alN : al ≠ N := fun z => by
        obtain ⟨xs, h1, _⟩ := Z7.nm
        rw [z, h1] at hal
        cases hal
      have kalB := fr _ _ alsl alN (sA _ _ (s9 _ _ k8))
      refine ⟨_, rfl, _, rfl, al, _, rfl, .inl (sqd kalB), rfl, flat_ints' _, _, rfl, ?_⟩
      rw [if_neg Bool.false_ne_true, int_in]
      refine gx_out (fun out HC => Same HB HC ∧ HB out = none ∧ HC out = some (.lst ((if (-1 : Int) ∈ succs A0 Kk j then [-1] else []).map V.int))) (fun hc C q' => ?_) (fun hc C q' => ?_) ?_
      · exact ⟨_, rfl, Nat.le_of_ble_eq_true rfl, fun out hout => q' out _ ⟨same_new hout _, hout, by rw [upd_same, if_pos (of_decide_eq_true hc)]; rfl⟩⟩
      · exact ⟨Nat.zero_le _, fun out hout => q' out _ ⟨same_new hout _, hout, by rw [upd_same, if_neg (of_decide_eq_false hc)]; rfl⟩⟩
      rintro out HC ⟨sC, hout, kout⟩
      have ZC := ZB.same sC
      have kolC := sC _ _ (fr _ _ hslO.symm hNO.symm kolA)
      have kglC := sC _ _ (fr _ _ glsl glN kA)
      obtain ⟨kvsC, kNC, hnumC, hklC⟩ := ZC.nm
      have hGin : ∀ g ∈ Gf, g ∈ rowS A0 rd Kk S (j + 1) := fun g hg => rowS_fol (Nat.lt_succ_self j) g (by rw [hGf]; exact hg)
      refine ⟨_, rfl, .inl ⟨rfl, _, sqd kolC⟩, _, rfl, _, rfl, gl, rfl, ⟨_, sqd kglC⟩, fun nl hnl => ?_⟩
      refine lc_list (K := K) (a := gl) (xs := gxs) (fun (t : Nat) (H' : Hp) => Same HC H' ∧ H' nl = some (.lst (((Gf.take t).map fun g => ((nr (rowS A0 rd Kk S (j + 1)) g : Nat) : Int)).map V.int))) ?_ ?_ ?_ ?_
      · exact ⟨same_new hnl _, upd_same⟩
      · rintro t H' _ ⟨sD, _⟩
        exact sqd (sD _ _ kglC)
      · rintro t x HD hx ⟨sD, kD⟩
        have htl : t < gxs.length := (List.getElem?_eq_some_iff.mp hx).1
        obtain ⟨g, hg⟩ : ∃ g, Gf[t]? = some g := ⟨_, List.getElem?_eq_getElem (by omega)⟩
        obtain ⟨bg, rfl, hbg⟩ := hgx.2 t g x hg hx
        have bgsl : bg ≠ sl := fun z => by
          obtain ⟨xs, h1, _⟩ := ZA.ls
          rw [z, h1] at hbg
          cases hbg
        have bgN : bg ≠ N := fun z => by
          obtain ⟨xs, h1, _⟩ := ZA.nm
          rw [z, h1] at hbg
          cases hbg
        have hbgD := sD _ _ (sC _ _ (fr _ _ bgsl bgN hbg))
        have hget := DGet.t (k := gk g) (sD _ _ kNC) (show HD bg = some (.tup ((gk g).map kV)) by rw [gk_V]; exact hbgD)
        rw [hnumC g, if_pos (hGin g (List.mem_of_getElem? hg))] at hget
        refine ⟨rfl, yes_if ?_⟩
        refine ⟨_, rfl, _, rfl, N, _, rfl, hget, _, kD, big' (by rw [List.length_map, List.length_map, List.length_take]; omega), same_put sD hnl, ?_⟩
        rw [upd_same, List.take_add_one, hg, List.map_append, List.map_append]
        rfl
      rintro HD ⟨sD, kD⟩
      rw [hgxl, List.take_length] at kD
      have hnd : (Gf.map fun g => ((nr (rowS A0 rd Kk S (j + 1)) g : Nat) : Int)).Nodup := by
        refine List.pairwise_map.mpr ?_
        have h : Gf.Pairwise fun a b => a ≠ b := by
          rw [← hGf]
          exact prt_nodup
        refine List.Pairwise.imp_of_mem (fun {a b} ha hb hab e => hab ?_) h
        exact nr_inj (hGin a ha) (hGin b hb) (Int.ofNat.inj e)
      refine ⟨nl, _, rfl, sqd kD, by rw [List.length_map]; omega, fun ns sp hperm hpw hsp => ?_⟩
      have hns : ns = srt (Gf.map fun g => ((nr (rowS A0 rd Kk S (j + 1)) g : Nat) : Int)) := srt_is (asc_of hperm hnd hpw) fun x => hperm.mem_iff
      have hnsl : ns.length ≤ 60 := by rw [hperm.length_eq, List.length_map]; exact hGl60
      obtain ⟨HE, eE, sE, kE⟩ := newH hsp (.lst (ns.map V.int))
      rw [eE]
      have hol1 : ((if (-1 : Int) ∈ succs A0 Kk j then [-1] else []) : List Int).length ≤ 1 := by split <;> simp
      refine ⟨out, sp, _, _, rfl, rfl, sE _ _ (sD _ _ kout), kE, big (by rw [List.length_map, List.length_map]; omega), fun cp hcp => ?_⟩
      obtain ⟨HF, eF, sF, kF⟩ := newH hcp (.lst ((if (-1 : Int) ∈ succs A0 Kk j then [-1] else []).map V.int ++ ns.map V.int))
      rw [eF]
      refine ⟨cp, _, rfl, .inl ⟨sqd kF, fun tp htp => ?_⟩⟩
      obtain ⟨HG, eG, sG, kG⟩ := newH htp (.tup ((if (-1 : Int) ∈ succs A0 Kk j then [-1] else []).map V.int ++ ns.map V.int))
      rw [eG]
      have sCG := ((sD.trans sE).trans sF).trans sG
      have kolG := sCG _ _ kolC
      have hosl := hos7.1
      rw [List.length_map, List.length_range] at hosl
      have sBG := sC.trans sCG
      have ZG := ZB.same sBG
      have olf : HA ol = some (.lst os7) := kolA
      have tpp : Tp HG (upd HG ol (.lst (os7 ++ [.ref tp]))) := tp_put Tp.refl kolG
      have tp7 : Tp H7 HG := fun a ys e => sBG _ _ (fr _ _ (fun q => by
        obtain ⟨xs, h1, _⟩ := Z7.ls
        rw [q, h1] at e
        cases e) (fun q => by
        obtain ⟨xs, h1, _⟩ := Z7.nm
        rw [q, h1] at e
        cases e) (s7A _ _ e))
      have htpol : tp ≠ ol := fun z => by rw [z, sF _ _ (sE _ _ (sD _ _ kolC))] at htp; cases htp
      refine ⟨ol, os7, _, rfl, rfl, kolG, big' (by omega), ?_⟩
      have hkaG := tp7 _ _ hka7
      refine ⟨_, _, _, _, _, _, rfl, ZG.put hslO hNO hkoO (Z.s.free hol) kolG, by rw [upd_ne (fun z => by rw [z, kolG] at hkaG; cases hkaG)]; exact hkaG, os7 ++ [.ref tp], upd_same, ?_⟩
      · rw [List.range_succ, List.map_append]
        refine (hos7.mono fun o x h => OptIn.tp (tp7.trans tpp) h).snoc ⟨tp, rfl, ?_⟩
        rw [upd_ne htpol, kG, ← List.map_append]
        have e1 : optK A0 rd (rowS A0 rd Kk S wd) Kk j = optK A0 rd (rowS A0 rd Kk S (j + 1)) Kk j := by
          obtain ⟨T, hT⟩ := rowS_le (A := A0) (rd := rd) (K := Kk) (S := S) (show j + 1 ≤ wd from hjw)
          rw [hT]
          exact optK_app fun g hg => hGin g (by rw [← hGf]; exact hg)
        rw [e1]
        unfold optK
        rw [hGf, ← hns]
  · rintro σ H7 ⟨y9, y10, y11, y12, y13, y14, rfl, Z7, hka7, os7, kol7, hos7⟩
    rw [show mn.toNat = wd by omega] at Z7 hos7
    obtain ⟨zs7, ko7, hzs7⟩ := Z7.lo
    have hzl7 := hzs7.1
    refine ⟨_, rfl, .inl ⟨rfl, _, sqd ko7⟩, _, rfl, ol, _, rfl, .inl ⟨sqd kol7, fun t ht => ?_⟩⟩
    obtain ⟨H8, e8, s8, k8⟩ := newH ht (.tup os7)
    rw [e8]
    refine ⟨ko, zs7, _, rfl, rfl, s8 _ _ ko7, big' (by omega), ?_⟩
    exact ⟨_, _, _, _, _, _, _, _, _, rfl, (Z7.same s8).row hslko (s8 _ _ ko7) k8 (hos7.mono fun o x => OptIn.tp (Tp.same s8))⟩
end
end NL

set_option maxHeartbeats 4000000
namespace NL
open PySem PySem.Spec PyProof.Rows L2
structure KpG (n : Nat) (Kp : List Int) : Prop where
  asc : Kp.Pairwise (· < ·)
  mem : ∀ x ∈ Kp, 0 ≤ x ∧ x < (n : Int)
theorem KpG.nil (n : Nat) : KpG n [] := ⟨List.Pairwise.nil, fun x h => nomatch h⟩
theorem KpG.up {n m : Nat} {l : List Int} (h : KpG n l) (hn : n ≤ m) : KpG m l := ⟨h.asc, fun x hx => by have := h.mem x hx; omega⟩
theorem KpG.snoc {n : Nat} {l : List Int} (h : KpG n l) : KpG (n + 1) (l ++ [0 + (n : Int)]) := by
  refine ⟨List.pairwise_append.mpr ⟨h.asc, List.pairwise_singleton .., fun a ha b hb => ?_⟩, fun x hx => ?_⟩
  · rw [List.mem_singleton.mp hb]
    have := h.mem a ha
    omega
  · rcases List.mem_append.mp hx with hx | hx
    · have := h.mem x hx
      omega
    · rw [List.mem_singleton.mp hx]
      omega
theorem KpG.range : ∀ n : Nat, KpG n ((List.range n).map fun i : Nat => (0 : Int) + (i : Int))
  | 0 => KpG.nil 0
  | n + 1 => by
    rw [List.range_succ, List.map_append]
    exact (KpG.range n).snoc
section
variable {P : Program} {w : World} {K : PySem.W.Frag} {mg : Str → Option Value} {base : Heap}
/-! ### _law_some -/
def spSome : Sp := fun vs H Q _ => ∃ (d : Addr) (v : V) (A : Ar) (sh : Int), vs = [.ref d, v, .int sh] ∧ Dr H d ∧ ArIn H A v ∧ A.length ≤ 400 ∧ ∀ (p : Addr) (o : List Int) (H' : Hp), Go d H H' → H' p = some (.tup (o.map V.int)) → KpG A.length o → Q (.ref p) H'
theorem ok_law_some (T : Txt K mg) : FnOk P w K mg base CX0 2 T.a_law_some T.d_law_some P_law_some spSome := by
  have G_law_take := ok_law_take (P := P) (w := w) (base := base) T
  refine T.F_law_some.ok sc_law_some (fun vs H Q E h => ?_) (fun cdv A outer s H vs Q E hr h => ?_)
  · obtain ⟨d, v, A, sh, rfl, _⟩ := h
    rfl
  obtain ⟨d, v, A0, sh, rfl, hD, ⟨b0, xs, rfl, e0, hxs⟩, h16, q⟩ := h
  have hxl := hxs.1
  refine ⟨_, (pss_cons (ps_if (pt_cmpR op_gt (pe_callB call_len_seq (by rfl) T.z_len PySem.boot_len (pa_cons (pv 1) pa_nil)) pe_int (nomark _))
    (pss_cons (ps_set (i := 3) sc_law_some.nd rfl (Or.inr rfl) (pe_op op_add pe_int (pe_call G_law_take (hr.mono (by omega)) (by rfl) T.m_law_take T.F_law_take.kp T.b_law_take .nil pass0 (pa_cons (pv 0) (pa_cons pe_int pa_nil)))))
    (pss_cons (ps_set (i := 4) sc_law_some.nd rfl (Or.inr rfl) (pe_call G_law_take (hr.mono (by omega)) (by rfl) T.m_law_take T.F_law_take.kp T.b_law_take .nil pass0 (pa_cons (pv 0) (pa_cons pe_int pa_nil))))
    (pss_one (ps_ret (pe_callTy call_tuple_of (by rfl) T.z_tuple (by decide +kernel) (pa_cons (pe_lc (own := [("k", 5)]) (g := (gName 5)) (tt := _) rfl sc_law_some.nd (pi_range1 (by rfl) T.z_range (pa_cons (pe_callB call_len_seq (by rfl) T.z_len PySem.boot_len (pa_cons (pv 1) pa_nil)) pa_nil)) (blkOk_by (N := N_law_some) (sc := defScope s_law_some) (by decide +kernel)) (fun _ _ _ _ _ => (pg_name (i := 5) sc_law_some.nd rfl (Or.inl rfl))) (fun _ _ _ _ _ => (pts_one (pt_cmpR op_eq (pe_cmpR op_gt (pe_op op_mod (pe_callTy call_int1 (by rfl) T.z_int (by decide +kernel) (pa_cons (pe_op op_add (pv 5) (pv 4)) pa_nil)) (pv 3)) pe_int (nomark _)) (pe_cmpR op_gt (pv 2) pe_int (nomark _)) (nomark _)))) (fun _ _ _ _ _ => (pv 5))) pa_nil))))))
    pss_nil)
    (pss_cons (ps_if (PW.pt (pw_and (pt_cmpR op_eq (pe_call G_law_take (hr.mono (by omega)) (by rfl) T.m_law_take T.F_law_take.kp T.b_law_take .nil pass0 (pa_cons (pv 0) (pa_cons pe_int pa_nil))) pe_int (nomark _)) (pw_and1 (pt_cmpR op_gt (pv 2) pe_int (nomark _)))))
    (pss_one (ps_ret (pe_tupRg rfl (by rfl) T.z_tuple (prg_1 (by rfl) T.z_range (pe_callB call_len_seq (by rfl) T.z_len PySem.boot_len (pa_cons (pv 1) pa_nil))))))
    pss_nil)
    (pss_one (ps_ret (pe_callTy call_tuple_of (by rfl) T.z_tuple (by decide +kernel) (pa_cons (pe_lc (own := [("k", 5)]) (g := (gName 5)) (tt := _) rfl sc_law_some.nd (pi_range1 (by rfl) T.z_range (pa_cons (pe_callB call_len_seq (by rfl) T.z_len PySem.boot_len (pa_cons (pv 1) pa_nil)) pa_nil)) (blkOk_by (N := N_law_some) (sc := defScope s_law_some) (by decide +kernel)) (fun _ _ _ _ _ => (pg_name (i := 5) sc_law_some.nd rfl (Or.inl rfl))) (fun _ _ _ _ _ => (pts_one (pt_cmpR op_lt (pe_call G_law_take (hr.mono (by omega)) (by rfl) T.m_law_take T.F_law_take.kp T.b_law_take .nil pass0 (pa_cons (pv 0) (pa_cons pe_int pa_nil))) (pv 2) (nomark _)))) (fun _ _ _ _ _ => (pv 5))) pa_nil)))))), ?_⟩
  refine ⟨_, rfl, b0, _, rfl, .inr (sqt e0), _, _, rfl, rfl, _, rfl, ?_⟩
  refine ite2 (fun z16 => ?_) (fun z16 => ?_)
  · refine ⟨_, rfl, d, 9, rfl, hD, by decide, fun u1 H1 g1 a1 b1 => ⟨_, _, rfl, rfl, ?_⟩⟩
    dsimp only
    generalize hst : (2 : Int) + u1 = stp
    refine ⟨_, rfl, d, 4, rfl, g1.dr, by decide, fun u2 H2 g2 a2 b2 => ?_⟩
    have g12 := g1.trans g2
    have e2 := g12.tp hD _ _ e0
    refine ⟨_, rfl, b0, _, rfl, .inr (sqt e2), _, rfl, by omega, by omega, fun D hD' => ?_⟩
    have s1 := same_new hD' (.lst [])
    refine lc_range (lo := 0) (n := ((xs.length : Nat) : Int).toNat) (fun (i : Nat) (H' : Hp) => ∃ o : List Int, Go d H H' ∧ H' D = some (.lst (o.map V.int)) ∧ o.length ≤ i ∧ KpG i o) ?_ ?_ ?_
    · exact ⟨[], g12.trans (.same g2.dr s1), upd_same, Nat.le_refl 0, KpG.nil 0⟩
    · rintro i H' hi ⟨o, g3, e3, hlen, hnn⟩
      refine ⟨rfl, ?_⟩
      refine ⟨_, rfl, _, rfl, _, _, rfl, rfl, .inl ⟨_, rfl, _, rfl, _, _, rfl, rfl, (by show (0 : Int) < stp; omega), _, _, rfl, rfl, _, rfl, _, _, rfl, rfl, rfl, _, rfl, ?_⟩⟩
      refine ite2 (fun z => ?_) (fun z => ⟨o, g3, e3, by omega, hnn.up (Nat.le_succ i)⟩)
      exact ⟨_, rfl, _, e3, big' (by rw [List.length_map]; omega), o ++ [0 + (i : Int)], g3.put2 (g12.free hD') (new_ne g2.dr hD'), by rw [upd_same, List.map_append]; rfl, by rw [List.length_append]; exact Nat.add_le_add_right hlen 1, hnn.snoc⟩
    · rintro H3 ⟨o, g3, e3, hlen, hnn⟩
      refine ⟨D, _, rfl, .inl ⟨sqd e3, fun t ht => ?_⟩⟩
      exact q t o _ (g3.trans (Go.new g3.dr ht)) upd_same (hnn.up (by omega))
  refine ⟨_, rfl, d, 6, rfl, hD, by decide, fun u H1 g1 _ _ => ⟨rfl, _, rfl, ?_⟩⟩
  have e1 := g1.tp hD _ _ e0
  refine ite2 (fun z => ⟨_, rfl, _, _, rfl, rfl, _, rfl, ite2 (fun z2 => ?_) (fun z2 => ?_)⟩) (fun z => ?_)
  · refine ⟨_, rfl, b0, _, rfl, .inr (sqt e1), _, rfl, ⟨by omega, by omega, by omega, by omega, by omega⟩, fun q1 hq1 => ?_⟩
    rw [rg_ints]
    exact q q1 _ _ (g1.trans (Go.new g1.dr hq1)) upd_same ((KpG.range _).up (by omega))
  all_goals
    refine ⟨_, rfl, b0, _, rfl, .inr (sqt e1), _, rfl, by omega, by omega, fun D hD' => ?_⟩
    have nDd := new_ne g1.dr hD'
    have s1 := same_new hD' (.lst [])
    refine lc_range (lo := 0) (n := ((xs.length : Nat) : Int).toNat) (fun (i : Nat) (H' : Hp) => ∃ o : List Int, Go d H H' ∧ H' D = some (.lst (o.map V.int)) ∧ o.length ≤ i ∧ KpG i o) ?_ ?_ ?_
    · exact ⟨[], g1.trans (.same g1.dr s1), upd_same, Nat.le_refl 0, KpG.nil 0⟩
    · rintro i H' hi ⟨o, g2, e2, hlen, hnn⟩
      refine ⟨rfl, ?_⟩
      refine ⟨_, rfl, d, 8, rfl, g2.dr, by decide, fun u H2 g3 _ _ => ⟨_, rfl, _, _, rfl, rfl, _, rfl, ?_⟩⟩
      have e3 := g3.fr D _ nDd e2
      refine ite2 (fun z => ?_) (fun z => ⟨o, g2.trans g3, e3, by omega, hnn.up (Nat.le_succ i)⟩)
      exact ⟨_, rfl, _, e3, big' (by rw [List.length_map]; omega), o ++ [0 + (i : Int)], (g2.trans g3).put2 (g1.free hD') nDd, by rw [upd_same, List.map_append]; rfl, by rw [List.length_append]; exact Nat.add_le_add_right hlen 1, hnn.snoc⟩
    · rintro H2 ⟨o, g2, e2, hlen, hnn⟩
      refine ⟨D, _, rfl, .inl ⟨sqd e2, fun t ht => ?_⟩⟩
      exact q t o _ (g2.trans (Go.new g2.dr ht)) upd_same (hnn.up (by omega))
theorem rd_go {d a : Addr} {H H' : Hp} {u : HO} (g : Go d H H') (h : a ≠ d) (r : Rd H a u) : Rd H' a u := by
  rcases r with r | ⟨o, r⟩
  · exact .inl (g.fr a _ h r)
  · exact .inr ⟨o, g.fr a _ h r⟩
theorem rd_sm {a : Addr} {H H' : Hp} {u : HO} (s : Same H H') (r : Rd H a u) : Rd H' a u := by
  rcases r with r | ⟨o, r⟩
  · exact .inl (s _ _ r)
  · exact .inr ⟨o, s _ _ r⟩
/-- the script stays while draws go on -/
def ScrL (K : PySem.W.Frag) (d : Addr) (H : Hp) (a : Addr) (xs : List V) : Prop := SqL K H a xs ∧ (a = d → ∃ (o : Obj) (its : Array Value) (n : Nat), K.lookup a = some o ∧ o.cls = .type "list" ∧ o.dict = none ∧ o.data = .seq its n ∧ its.size ≤ sizeLine ∧ Vals xs its.toList)
theorem ScrL.of {d a : Addr} {H : Hp} {xs : List V} (h : SqL K H a xs) (hd : H d = none) : ScrL K d H a xs := ⟨h, fun e => by
  subst e
  rcases h with h | h
  · rcases h with h | ⟨o, h⟩
    · rw [hd] at h; cases h
    · rw [hd] at h; cases h
  · exact h⟩
theorem ScrL.go {d a : Addr} {H H' : Hp} {xs : List V} (g : Go d H H') (h : ScrL K d H a xs) : ScrL K d H' a xs := ⟨by
  by_cases e : a = d
  · exact .inr (h.2 e)
  · rcases h.1 with r | r
    · exact .inl (rd_go g e r)
    · exact .inr r, h.2⟩
theorem ScrL.sm {d a : Addr} {H H' : Hp} {xs : List V} (g : Same H H') (h : ScrL K d H a xs) : ScrL K d H' a xs := ⟨by
  rcases h.1 with r | r
  · exact .inl (rd_sm g r)
  · exact .inr r, h.2⟩
end
end NL

set_option maxHeartbeats 4000000
namespace NL
open PySem PySem.Spec PyProof.Rows L2
section
variable {P : Program} {w : World} {K : PySem.W.Frag} {mg : Str → Option Value} {base : Heap}
/-! ### _law_readings -/
def spReadings (K : PySem.W.Frag) : Sp := fun vs H Q _ => ∃ (a d : Addr) (ns : List Int) (av : V) (A : Ar), vs = [.ref a, .ref d, av] ∧ ScrL K d H a (ns.map V.int) ∧ ns.length ≤ 63 ∧ Dr H d ∧ ArIn H A av ∧ A.length ≤ 46 ∧
  ∀ (p : Addr) (zs : List Int) H', Go d H H' → H' p = some (.tup (zs.map V.int)) → zs.length = A.length → Q (.ref p) H'
theorem ok_law_readings (T : Txt K mg) : FnOk P w K mg base CX0 2 T.a_law_readings T.d_law_readings P_law_readings (spReadings K) := by
  have G_law_take := ok_law_take (P := P) (w := w) (base := base) T
  refine T.F_law_readings.ok sc_law_readings (fun vs H Q E h => ?_) (fun cdv A outer s H vs Q E hr h => ?_)
  · obtain ⟨a, d, ns, av, A, rfl, _⟩ := h
    rfl
  obtain ⟨a, d, ns, av, A0, rfl, hS, hl, hD, ⟨b0, xs, rfl, e0, hxs⟩, hn, q⟩ := h
  have hxl := hxs.1
  refine ⟨_, (pss_cons (ps_set (i := 3) sc_law_readings.nd rfl (Or.inl rfl) (pe_call G_law_take (hr.mono (by omega)) (by rfl) T.m_law_take T.F_law_take.kp T.b_law_take .nil pass0 (pa_cons (pv 1) (pa_cons pe_int pa_nil))))
    (pss_cons (ps_set (i := 4) sc_law_readings.nd rfl (Or.inr rfl) (pe_call G_law_take (hr.mono (by omega)) (by rfl) T.m_law_take T.F_law_take.kp T.b_law_take .nil pass0 (pa_cons (pv 1) (pa_cons pe_int pa_nil))))
    (pss_cons (ps_set (i := 5) sc_law_readings.nd rfl (Or.inr rfl) (pe_op op_add pe_int (pe_call G_law_take (hr.mono (by omega)) (by rfl) T.m_law_take T.F_law_take.kp T.b_law_take .nil pass0 (pa_cons (pv 1) (pa_cons pe_int pa_nil)))))
    (pss_cons (ps_set (i := 6) sc_law_readings.nd rfl (Or.inr rfl) (pe_ix ix_list (pe_lst (pa_cons pe_int (pa_cons pe_int (pa_cons pe_int (pa_cons pe_int (pa_cons pe_int (pa_cons pe_int pa_nil))))))) (pv 3) (fun _ _ => rfl)))
    (pss_cons (ps_setLc (i := 7) (own := [("k", 8)]) (g := (gName 8)) (tt := tYes) rfl sc_law_readings.nd rfl rfl (sw_true rfl rfl rfl (by decide +kernel)) (pi_range1 (by rfl) T.z_range (pa_cons (pe_callB call_len_seq (by rfl) T.z_len PySem.boot_len (pa_cons (pv 2) pa_nil)) pa_nil)) (blkOk_by (N := N_law_readings) (sc := defScope s_law_readings) (by decide +kernel)) (fun _ _ _ _ _ => (pg_name (i := 8) sc_law_readings.nd rfl (Or.inl rfl))) (fun _ _ _ _ _ => pts_nil) (fun _ _ _ _ _ => (pe_op op_sub (pe_op op_mod (pe_callTy call_int1 (by rfl) T.z_int (by decide +kernel) (pa_cons (pe_op op_add (pe_op op_add (pv 4) (pe_op op_mul (pv 5) (pv 8))) (pe_op op_mul (pv 8) (pv 8))) pa_nil)) (pv 6)) (pe_op op_fdiv (pv 6) pe_int))))
    (C8.pss_cut (ps_if (pt_cmpR op_eq (pv 3) pe_int (nomark _))
    (pss_one (ps_setLc (i := 7) (own := [("k", 8)]) (g := (gName 8)) (tt := tYes) rfl sc_law_readings.nd rfl rfl (sw_true rfl rfl rfl (by decide +kernel)) (pi_range1 (by rfl) T.z_range (pa_cons (pe_callB call_len_seq (by rfl) T.z_len PySem.boot_len (pa_cons (pv 2) pa_nil)) pa_nil)) (blkOk_by (N := N_law_readings) (sc := defScope s_law_readings) (by decide +kernel)) (fun _ _ _ _ _ => (pg_name (i := 8) sc_law_readings.nd rfl (Or.inl rfl))) (fun _ _ _ _ _ => pts_nil) (fun _ _ _ _ _ => (pe_op op_mul (pe_un un_neg pe_int) (pv 8)))))
    pss_nil)
    (C8.pss_cut (ps_if (PW.pt (pw_and (pt_cmpR op_eq (pv 3) pe_int (nomark _)) (pw_and1 (pt_cmpR op_gt (pe_callB call_len_seq (by rfl) T.z_len PySem.boot_len (pa_cons (pv 0) pa_nil)) pe_int (nomark _)))))
    (pss_one (ps_setLc (i := 7) (own := [("number", 9)]) (g := (gName 9)) (tt := tYes) rfl sc_law_readings.nd rfl rfl (sw_true rfl rfl rfl (by decide +kernel)) (pi_list (pv 7)) (blkOk_by (N := N_law_readings) (sc := defScope s_law_readings) (by decide +kernel)) (fun _ _ _ _ _ => (pg_name (i := 9) sc_law_readings.nd rfl (Or.inl rfl))) (fun _ _ _ _ _ => pts_nil) (fun _ _ _ _ _ => (pe_callTy call_int1 (by rfl) T.z_int (by decide +kernel) (pa_cons (pe_ix (ix_listK (K := K) rfl) (pv 0) (pe_op op_mod (pe_callTy call_int1 (by rfl) T.z_int (by decide +kernel) (pa_cons (pv 9) pa_nil)) (pe_callB (call_len_seqK (K := K) rfl) (by rfl) T.z_len PySem.boot_len (pa_cons (pv 0) pa_nil))) (fun _ _ => rfl)) pa_nil)))))
    pss_nil)
    (pss_one (ps_ret (pe_callTy call_tuple_of (by rfl) T.z_tuple (by decide +kernel) (pa_cons (pv 7) pa_nil))))))))))), ?_⟩
  refine ⟨_, rfl, d, 6, rfl, hD, by decide, fun kind H1 g1 k0 k1 => ?_⟩
  refine ⟨_, rfl, d, 900, rfl, g1.dr, by decide, fun first H2 g2 a2 b2 => ?_⟩
  refine ⟨_, rfl, d, 900, rfl, g2.dr, by decide, fun u3 H3 g3 a3 b3 => ⟨_, _, rfl, rfl, ?_⟩⟩
  dsimp only
  generalize hstp : (1 : Int) + u3 = stp
  have g13 := (g1.trans g2).trans g3
  have hS3 := hS.go g13
  have e3 := g13.tp hD _ _ e0
  refine ⟨Nat.le_of_ble_eq_true rfl, fun ml hml => ?_⟩
  obtain ⟨H4, e4, s4, k4⟩ := newH hml (.lst [.int 1, .int 2, .int 3, .int 4, .int 900, .int 2])
  rw [e4]
  obtain ⟨m, hm, hmm⟩ := atI_map (f := V.int) (xs := ([1, 2, 3, 4, 900, 2] : List Int)) k0 k1
  have hmb : 1 ≤ m ∧ m ≤ 900 := by
    simp only [List.mem_cons, List.not_mem_nil, or_false] at hmm
    omega
  refine ⟨_, rfl, ml, _, _, _, rfl, rfl, sqd k4, hm, ?_⟩
  have hb4 := s4 _ _ e3
  let I : L2.St → Hp → Prop := fun σ H' => ∃ (fl : Addr) (zs : List Int) (y8 y9 : Option V), σ = [some (.ref a), some (.ref d), some (.ref b0), some (.int kind), some (.int first), some (.int stp), some (.int m), some (.ref fl), y8, y9] ∧ Same H3 H' ∧ H' fl = some (.lst (zs.map V.int)) ∧ zs.length = A0.length
  have step : ∀ (D : Addr) (i : Nat) (H5 H6 : Hp) (zs : List Int) (z : Int), i < 100 → H5 D = none → Same H3 H5 → Same H5 H6 → H6 D = some (.lst (zs.map V.int)) → zs.length = i → ∃ acc, H6 D = some (.lst acc) ∧ acc.length < sizeLine ∧ (Same H5 (upd H6 D (.lst (acc ++ [V.int z]))) ∧ ∃ zs : List Int, upd H6 D (.lst (acc ++ [V.int z])) D = some (.lst (zs.map V.int)) ∧ zs.length = i + 1) := fun D i H5 H6 zs z hi hD' s5 s6 k6 hz =>
    ⟨_, k6, big' (by rw [List.length_map]; omega), same_put s6 hD', zs ++ [z], by rw [upd_same, List.map_append]; rfl, by rw [List.length_append, hz]; rfl⟩
  refine ⟨_, rfl, b0, _, rfl, .inr (sqt hb4), _, rfl, by omega, by omega, fun D hD' => ?_⟩
  refine lc_range (lo := 0) (n := ((xs.length : Nat) : Int).toNat) (fun (i : Nat) (H' : Hp) => Same H4 H' ∧ ∃ zs : List Int, H' D = some (.lst (zs.map V.int)) ∧ zs.length = i) ?_ ?_ ?_
  · exact ⟨same_new hD' _, [], upd_same, rfl⟩
  · rintro i H5 hi ⟨s5, zs, k5, hz⟩
    refine ⟨rfl, yes_if ?_⟩
    have hsm : -(2 ^ 64 : Int) < 0 + (i : Int) ∧ (0 + (i : Int)) < 2 ^ 64 := by omega
    refine ⟨_, rfl, _, rfl, _, rfl, _, _, rfl, rfl, .inr hsm, _, _, rfl, rfl, _, rfl, _, rfl, _, _, rfl, rfl, .inr hsm, _, _, rfl, rfl, .inl ⟨_, rfl, ?_⟩⟩
    refine ⟨_, rfl, _, _, rfl, rfl, by show (0 : Int) < m; omega, _, rfl, _, _, rfl, rfl, ⟨(by decide : (0 : Int) < 2), (by decide : (2 : Int) < 1073741824)⟩, _, _, rfl, rfl, ?_⟩
    exact step D i H4 H5 zs _ (by omega) hD' s4 s5 k5 hz
  rintro H5 ⟨s5, zs, k5, hz⟩
  have s35 := s4.trans s5
  -- multiples of -3
  refine ⟨I, ?_, ?_⟩
  · refine ⟨_, rfl, rfl, _, rfl, ?_⟩
    refine ite2 (fun z => ?_) (fun z => ⟨D, zs, _, _, rfl, s35, k5, by omega⟩)
    refine ⟨_, rfl, b0, _, rfl, .inr (sqt (s5 _ _ hb4)), _, rfl, by omega, by omega, fun D2 hD2 => ?_⟩
    refine lc_range (lo := 0) (n := ((xs.length : Nat) : Int).toNat) (fun (i : Nat) (H' : Hp) => Same H5 H' ∧ ∃ zs : List Int, H' D2 = some (.lst (zs.map V.int)) ∧ zs.length = i) ?_ ?_ ?_
    · exact ⟨same_new hD2 _, [], upd_same, rfl⟩
    · rintro i H6 hi ⟨s6, zs, k6, hz⟩
      refine ⟨rfl, yes_if ?_⟩
      have hsm : -(2 ^ 64 : Int) < 0 + (i : Int) ∧ (0 + (i : Int)) < 2 ^ 64 := by omega
      refine ⟨_, rfl, _, rfl, _, _, rfl, rfl, .inr hsm, ?_⟩
      exact step D2 i H5 H6 zs _ (by omega) hD2 s35 s6 k6 hz
    · rintro H6 ⟨s6, zs, k6, hz⟩
      exact ⟨D2, zs, _, _, rfl, s35.trans s6, k6, by omega⟩
  rintro σ H6 ⟨fl, zs6, y8, y9, rfl, s6, k6, hz6⟩
  -- cells of the script
  refine ⟨I, ?_, ?_⟩
  · refine ⟨_, rfl, rfl, _, rfl, ?_⟩
    refine ite2 (fun z => ?_) (fun z => iteF ⟨fl, zs6, _, _, rfl, s6, k6, hz6⟩)
    refine ⟨_, rfl, a, _, rfl, .inl (hS3.sm s6).1, _, _, rfl, rfl, _, rfl, ?_⟩
    refine ite2 (fun z2 => ?_) (fun z2 => ⟨fl, zs6, _, _, rfl, s6, k6, hz6⟩)
    have hlen : (0 : Int) < ((ns.map V.int).length : Nat) := of_decide_eq_true z2
    rw [List.length_map] at hlen
    refine ⟨_, rfl, fl, rfl, ⟨_, sqd k6⟩, fun D2 hD2 => ?_⟩
    refine lc_list (K := K) (a := fl) (xs := zs6.map V.int) (fun (i : Nat) (H' : Hp) => Same H6 H' ∧ ∃ zs : List Int, H' D2 = some (.lst (zs.map V.int)) ∧ zs.length = i) ?_ ?_ ?_ ?_
    · exact ⟨same_new hD2 _, [], upd_same, rfl⟩
    · rintro i H' _ ⟨s7, _⟩
      exact sqd (s7 _ _ k6)
    · rintro i x H7 hx ⟨s7, zs, k7, hz⟩
      rw [List.getElem?_map] at hx
      obtain ⟨c, hc, rfl⟩ := Option.map_eq_some_iff.mp hx
      have hi := (List.getElem?_eq_some_iff.mp hc).1
      refine ⟨rfl, yes_if ?_⟩
      have hm0 : (0 : Int) ≤ c % (ns.length : Int) := Int.emod_nonneg _ (by omega)
      have hm1 : c % (ns.length : Int) < (ns.length : Int) := Int.emod_lt_of_pos _ (by omega)
      obtain ⟨x, hx, _⟩ := atI_map (f := V.int) (xs := ns) hm0 hm1
      have hSq := ((hS3.sm s6).sm s7).1
      refine ⟨_, rfl, _, rfl, .inl ⟨_, rfl, _, rfl, a, _, rfl, .inl hSq, _, _, rfl, rfl, by rw [List.length_map]; omega, a, _, _, _, rfl, rfl, hSq, by rw [List.length_map]; exact hx, .inl ⟨_, rfl, ?_⟩⟩⟩
      exact step D2 i H6 H7 zs _ (by omega) hD2 s6 s7 k7 hz
    · rintro H7 ⟨s7, zs, k7, hz⟩
      rw [List.length_map] at hz
      exact ⟨D2, zs, _, _, rfl, s6.trans s7, k7, by omega⟩
  rintro σ H7 ⟨fl7, zs7, z8, z9, rfl, s7, k7, hz7⟩
  refine ⟨_, rfl, fl7, _, rfl, .inl ⟨sqd k7, fun t ht => ?_⟩⟩
  exact q t zs7 _ (g13.trans (.same g3.dr (s7.trans (same_new ht _)))) upd_same hz7
end
end NL

set_option maxHeartbeats 4000000
namespace NL
open PySem PySem.Spec PyProof.Rows L2
/-! ### the law's own known arena -/
theorem lay_intsR : ∀ l : List Int, PyData.canLayAll0 (l.map PyData.int) = true ∧ PyData.depthAll (l.map PyData.int) = 0
  | [] => ⟨rfl, rfl⟩
  | a :: r => by
    obtain ⟨h1, h2⟩ := lay_intsR r
    refine ⟨?_, ?_⟩
    · show (true && PyData.canLayAll0 (r.map PyData.int)) = true
      rw [h1]
      rfl
    · show max 0 (PyData.depthAll (r.map PyData.int)) = 0
      rw [h2]
      rfl
theorem dp_intsR {K : PySem.W.Frag} {H : Hp} : ∀ l : List Int, DpAll K H (l.map V.int) (l.map PyData.int)
  | [] => .nil
  | a :: r => .cons (.int a) (dp_intsR r)
theorem eqv_intsR : ∀ l m : List Int, PyData.eqvAll (l.map PyData.int) (m.map PyData.int) = decide (l = m)
  | [], [] => rfl
  | [], b :: m => rfl
  | a :: l, [] => rfl
  | a :: l, b :: m => by
    show ((a == b) && PyData.eqvAll (l.map PyData.int) (m.map PyData.int)) = _
    rw [eqv_intsR l m]
    by_cases h1 : a = b
    · subst h1
      by_cases h2 : l = m
      · subst h2
        simp
      · rw [decide_eq_false h2, Bool.and_false, decide_eq_false (fun h => h2 (List.cons.inj h).2)]
    · rw [beq_eq_false_iff_ne.mpr h1, Bool.false_and, decide_eq_false (fun h => h1 (List.cons.inj h).1)]
def dpG (g : List Int) : PyData := .tuple (g.map PyData.int)
theorem shaped_G (g : List Int) : SeqAt.shaped (dpG g) = true := by
  obtain ⟨h1, h2⟩ := lay_intsR g
  show (PyData.canLayAll0 (g.map PyData.int) && decide (PyData.depthAll (g.map PyData.int) + 1 ≤ 64)) = true
  rw [h1, h2]
  rfl
theorem lay_Gs : ∀ S : List (List Int), PyData.canLayAll0 (S.map dpG) = true ∧ PyData.depthAll (S.map dpG) ≤ 1
  | [] => ⟨rfl, Nat.zero_le _⟩
  | g :: r => by
    obtain ⟨h1, h2⟩ := lay_Gs r
    obtain ⟨h3, h4⟩ := lay_intsR g
    refine ⟨?_, ?_⟩
    · show (PyData.canLayAll0 (g.map PyData.int) && PyData.canLayAll0 (r.map dpG)) = true
      rw [h1, h3]
      rfl
    · show max (PyData.depthAll (g.map PyData.int) + 1) (PyData.depthAll (r.map dpG)) ≤ 1
      rw [h4]
      omega
theorem shaped_Gs (S : List (List Int)) : SeqAt.shaped (.list (S.map dpG)) = true := by
  obtain ⟨h1, h2⟩ := lay_Gs S
  show (PyData.canLayAll0 (S.map dpG) && decide (PyData.depthAll (S.map dpG) + 1 ≤ 64)) = true
  rw [h1, decide_eq_true (by omega)]
  rfl
theorem eqv_G (g h : List Int) : PyData.eqv (dpG g) (dpG h) = decide (g = h) := eqv_intsR g h
theorem dp_Gs {K : PySem.W.Frag} {H : Hp} : ∀ {S : List (List Int)} {xs : List V}, Each (OptIn H) S xs → DpAll K H xs (S.map dpG)
  | [], [], _ => .nil
  | [], x :: xs, h => by have := h.1; cases this
  | g :: S, [], h => by have := h.1; cases this
  | g :: S, x :: xs, h => by
    obtain ⟨b, rfl, hb⟩ := h.2 0 g x rfl rfl
    refine .cons (.tup (sqt hb) (dp_intsR g)) (dp_Gs ⟨Nat.succ.inj h.1, fun k a y h1 h2 => h.2 (k + 1) a y h1 h2⟩)
theorem any_Gs (S : List (List Int)) (g : List Int) : ((S.map dpG).any fun z => PyData.eqv z (dpG g)) = decide (g ∈ S) := by
  rw [List.any_map]
  refine Bool.eq_iff_iff.mpr ?_
  rw [List.any_eq_true, decide_eq_true_iff]
  constructor
  · rintro ⟨x, hx, e⟩
    have : decide (x = g) = true := (eqv_G x g) ▸ e
    exact of_decide_eq_true this ▸ hx
  · intro h
    exact ⟨g, h, (eqv_G g g).trans (decide_eq_true rfl)⟩
theorem nr_first : ∀ {S : List (List Int)} {g : List Int} {m : Nat} {z : PyData}, m < nr S g → (S.map dpG)[m]? = some z → PyData.eqv z (dpG g) = false
  | [], g, m, z, h, e => by simp at e
  | a :: r, g, m, z, h, e => by
    by_cases ha : a = g
    · have e0 : nr (a :: r) g = 0 := if_pos ha
      omega
    · have e0 : nr (a :: r) g = nr r g + 1 := if_neg ha
      cases m with
      | zero =>
        cases e
        exact (eqv_G a g).trans (decide_eq_false ha)
      | succ m => exact nr_first (S := r) (m := m) (by omega) e
theorem mem_optK {A : Ar} {rd : Int → Int} {S : List (List Int)} {Kk : List Int} {i : Nat} {x : Int} : x ∈ optK A rd S Kk i ↔ (x = -1 ∧ (-1 : Int) ∈ aft A Kk i) ∨ x ∈ (fol A rd Kk i).map fun g => ((nr S g : Nat) : Int) := by
  unfold optK
  rw [List.mem_append, mem_srt]
  refine or_congr ?_ Iff.rfl
  by_cases h : (-1 : Int) ∈ succs A Kk i
  · rw [if_pos h, List.mem_singleton]
    exact ⟨fun e => ⟨e, mem_srt.mp h⟩, fun e => e.1⟩
  · rw [if_neg h]
    exact ⟨fun e => (nomatch e), fun e => absurd (mem_srt.mpr e.2) h⟩
theorem asc_optK {A : Ar} {rd : Int → Int} {S : List (List Int)} {Kk : List Int} {i : Nat} : Asc (optK A rd S Kk i) := by
  unfold optK
  refine List.pairwise_append.mpr ⟨by split <;> simp, asc_srt, fun a ha b hb => ?_⟩
  have h1 : a = -1 := by
    split at ha
    · exact List.mem_singleton.mp ha
    · cases ha
  obtain ⟨g, _, e⟩ := List.mem_map.mp (mem_srt.mp hb)
  have e : ((nr S g : Nat) : Int) = b := e
  omega
theorem fol_srt {A : Ar} {rd : Int → Int} {Kk : List Int} {i : Nat} (h : ∀ s ∈ aft A Kk i, -1 ≤ s) : fol A rd Kk i = prt rd (srt ((aft A Kk i).filter fun p => decide (0 ≤ p))) := by
  unfold fol
  congr 1
  refine asc_ext (asc_filter _ asc_srt) asc_srt fun x => ?_
  rw [mem_srt, List.mem_filter, List.mem_filter]
  show x ∈ srt _ ∧ _ ↔ _
  rw [mem_srt]
  refine and_congr_right fun hx => ?_
  have := h x hx
  by_cases e : x = -1
  · subst e
    simp
  · rw [decide_eq_false e]
    have : (0 : Int) ≤ x := by omega
    simp [this]
theorem two_len (l : List Int) : (l.filter fun p => decide (p = -1)).length + (l.filter fun p => decide (0 ≤ p)).length ≤ l.length := by
  induction l with
  | nil => exact Nat.le_refl _
  | cons a r ih =>
    rw [List.filter_cons, List.filter_cons, List.length_cons]
    by_cases h1 : a = -1
    · subst h1
      simp
      omega
    · rw [if_neg (by simpa using h1)]
      split
      · rw [List.length_cons]
        omega
      · omega
/-- a list comprehension over a list or a tuple -/
theorem gx_lcSeq {K : PySem.W.Frag} {a : Addr} {xs : List V} {g : TG} {tt : TT} {te : TE} {vs : List Nat} {σ : L2.St} {H1 : Hp} {Qd : Addr → Hp → Prop} (h : H1 a = some (.lst xs) ∨ H1 a = some (.tup xs)) (Pv : Addr → Nat → Hp → Prop) (h0 : ∀ D, H1 D = none → Pv D 0 (upd H1 D (.lst []))) (hG : ∀ D i H, Pv D i H → H a = H1 a)
    (hs : ∀ D, H1 D = none → ∀ i x H, xs[i]? = some x → Pv D i H → g x (wipe σ vs) H fun σ2 H2 => wipe σ2 vs = wipe σ vs ∧ tt σ2 H2 fun b H3 =>
      if b = true then te σ2 H3 fun y H4 => ∃ acc, H4 D = some (.lst acc) ∧ acc.length < sizeLine ∧ Pv D (i + 1) (upd H4 D (.lst (acc ++ [y]))) else Pv D (i + 1) H3) (hd : ∀ D H, H1 D = none → Pv D xs.length H → Qd D H) :
    ((∃ xs, SqL K H1 a xs) ∧ ∀ D, H1 D = none → ∃ W : Nat → Nat → Hp → Prop, (∃ m, W 0 m (upd H1 D (.lst []))) ∧ ∀ i m H, W i m H →
      ((Itl K a).stop i H ∧ Qd D H) ∨ ((Itl K a).go i H ∧ ∃ Nx : Hp → Prop, (∀ H', Nx H' → ∃ m', m' < m ∧ W (i + 1) m' H') ∧ ∀ x H', (Itl K a).yld i H x H' → g x (wipe σ vs) H' fun σ2 H2 => wipe σ2 vs = wipe σ vs ∧ tt σ2 H2 fun b H3 =>
        if b = true then te σ2 H3 fun y H4 => ∃ acc, H4 D = some (.lst acc) ∧ acc.length < sizeLine ∧ Nx (upd H4 D (.lst (acc ++ [y]))) else Nx H3)) ∨
    ((∃ xs, SqT K H1 a xs) ∧ ∀ D, H1 D = none → ∃ W : Nat → Nat → Hp → Prop, (∃ m, W 0 m (upd H1 D (.lst []))) ∧ ∀ i m H, W i m H →
      ((Itt K a).stop i H ∧ Qd D H) ∨ ((Itt K a).go i H ∧ ∃ Nx : Hp → Prop, (∀ H', Nx H' → ∃ m', m' < m ∧ W (i + 1) m' H') ∧ ∀ x H', (Itt K a).yld i H x H' → g x (wipe σ vs) H' fun σ2 H2 => wipe σ2 vs = wipe σ vs ∧ tt σ2 H2 fun b H3 =>
        if b = true then te σ2 H3 fun y H4 => ∃ acc, H4 D = some (.lst acc) ∧ acc.length < sizeLine ∧ Nx (upd H4 D (.lst (acc ++ [y]))) else Nx H3)) := by
  rcases h with h | h
  · exact .inl ⟨⟨_, sqd h⟩, fun D hD => lc_list (xs := xs) (Pv D) (h0 D hD) (fun i H _ p => sqd (by rw [hG D i H p]; exact h)) (hs D hD) (fun H p => hd D H hD p)⟩
  · exact .inr ⟨⟨_, sqt h⟩, fun D hD => lc_tup (xs := xs) (Pv D) (h0 D hD) (fun i H _ p => sqt (by rw [hG D i H p]; exact h)) (hs D hD) (fun H p => hd D H hD p)⟩
/-- for over a range with a break -/
theorem gx_forBrk {lo : Int} {n : Nat} {g : TG} {tb : TS} {D : Ends} {σ : L2.St} {H : Hp} (Pv : Nat → L2.St → Hp → Prop) (Post : L2.St → Hp → Prop) (h0 : Pv 0 σ H)
    (hs : (∀ σ H, Post σ H → D.nx σ H) → ∀ i σ H, i < n → Pv i σ H → g (.int (lo + i)) σ H fun σ2 H2 => tb { D with nx := Pv (i + 1), ct := Pv (i + 1), bk := D.nx } σ2 H2) (hd : ∀ σ H, Pv n σ H → Post σ H) (hdone : ∀ σ H, Post σ H → D.nx σ H) :
    ∃ W : Nat → Nat → L2.St → Hp → Prop, (∃ m, W 0 m σ H) ∧ ∀ i m σ H, W i m σ H →
      ((Itr lo n).stop i H ∧ D.nx σ H) ∨ ((Itr lo n).go i H ∧ ∃ N : L2.St → Hp → Prop, (∀ σ' H', N σ' H' → ∃ m', m' < m ∧ W (i + 1) m' σ' H') ∧ ∀ x H', (Itr lo n).yld i H x H' → g x σ H' fun σ2 H2 => tb { D with nx := N, ct := N, bk := D.nx } σ2 H2) :=
  for_range Pv h0 (hs hdone) fun σ H p => hdone σ H (hd σ H p)
end NL

set_option maxHeartbeats 4000000
namespace NL
open PySem PySem.Spec PyProof.Rows L2
/-- the lists of the law's known arena: the sets, the options found -/
structure KnL (H0 H : Hp) (sl fl : Addr) (S : List (List Int)) (F : Ar) : Prop where
  ls : ∃ xs, H sl = some (.lst xs) ∧ Each (OptIn H) S xs
  lo : ∃ zs, H fl = some (.lst zs) ∧ Each (PosIn H) F zs
  f1 : H0 sl = none
  f3 : H0 fl = none
  s : Same H0 H
theorem KnL.same {H0 H H' : Hp} {sl fl : Addr} {S : List (List Int)} {F : Ar} (h : KnL H0 H sl fl S F) (s : Same H H') : KnL H0 H' sl fl S F := by
  obtain ⟨xs, h1, h2⟩ := h.ls
  obtain ⟨zs, h6, h7⟩ := h.lo
  exact ⟨⟨xs, s _ _ h1, h2.mono fun o x => OptIn.tp (Tp.same s)⟩, ⟨zs, s _ _ h6, h7.mono fun o x => PosIn.tp (Tp.same s)⟩, h.f1, h.f3, h.s.trans s⟩
theorem KnL.add {H0 H : Hp} {sl fl : Addr} {S : List (List Int)} {F : Ar} (h : KnL H0 H sl fl S F) (hsk : sl ≠ fl) {g : List Int} {xs : List V} {b : Addr} (hxs : H sl = some (.lst xs)) (hb : H b = some (.tup (g.map V.int))) : KnL H0 (upd H sl (.lst (xs ++ [.ref b]))) sl fl (S ++ [g]) F := by
  obtain ⟨xs', h1, h2⟩ := h.ls
  rw [hxs] at h1
  cases h1
  obtain ⟨zs, h6, h7⟩ := h.lo
  have tp : Tp H (upd H sl (.lst (xs ++ [.ref b]))) := tp_put Tp.refl hxs
  exact ⟨⟨_, upd_same, (h2.mono fun o x => OptIn.tp tp).snoc ⟨b, rfl, tp _ _ hb⟩⟩, ⟨zs, by rw [upd_ne hsk.symm]; exact h6, h7.mono fun o x => PosIn.tp tp⟩, h.f1, h.f3, same_put h.s h.f1⟩
theorem KnL.row {H0 H : Hp} {sl fl : Addr} {S : List (List Int)} {F : Ar} (h : KnL H0 H sl fl S F) (hsk : sl ≠ fl) {os : Pos'} {zs : List V} {t : Addr} {ys : List V} (hzs : H fl = some (.lst zs)) (ht : H t = some (.tup ys)) (hys : Each (OptIn H) os ys) : KnL H0 (upd H fl (.lst (zs ++ [.ref t]))) sl fl S (F ++ [os]) := by
  obtain ⟨xs, h1, h2⟩ := h.ls
  obtain ⟨zs', h6, h7⟩ := h.lo
  rw [hzs] at h6
  cases h6
  have tp : Tp H (upd H fl (.lst (zs ++ [.ref t]))) := tp_put Tp.refl hzs
  exact ⟨⟨xs, by rw [upd_ne hsk]; exact h1, h2.mono fun o x => OptIn.tp tp⟩, ⟨_, upd_same, (h7.mono fun o x => PosIn.tp tp).snoc ⟨t, ys, rfl, tp _ _ ht, hys.mono fun o x => OptIn.tp tp⟩⟩, h.f1, h.f3, same_put h.s h.f3⟩
theorem KnL.put {H0 H : Hp} {sl fl ol : Addr} {S : List (List Int)} {F : Ar} (h : KnL H0 H sl fl S F) (h1 : sl ≠ ol) (h3 : fl ≠ ol) (h0 : H0 ol = none) {ys zs : List V} (hy : H ol = some (.lst ys)) : KnL H0 (upd H ol (.lst zs)) sl fl S F := by
  obtain ⟨xs, a1, a2⟩ := h.ls
  obtain ⟨zs', a6, a7⟩ := h.lo
  have tp : Tp H (upd H ol (.lst zs)) := tp_put Tp.refl hy
  exact ⟨⟨xs, by rw [upd_ne h1]; exact a1, a2.mono fun o x => OptIn.tp tp⟩, ⟨zs', by rw [upd_ne h3]; exact a6, a7.mono fun o x => PosIn.tp tp⟩, h.f1, h.f3, same_put h.s h0⟩
theorem hu65_of {A : Around} {k : Nat} (hr : Room k A) : A.units + 65 < cLine := by
  have := hr.un
  omega
/-- options lead to few positions, all of a set's positions together -/
def Sml (A : Ar) (rd : Int → Int) : Prop := ∀ g, KS rd (A.length : Int) g → ∀ i, i < wid A g → (aft A g i).length < 64
end NL

set_option maxHeartbeats 4000000
namespace NL
open PySem PySem.Spec PyProof.Rows L2
/-! ### few known sets -/
def pw : List Int → List (List Int)
  | [] => [[]]
  | a :: r => pw r ++ (pw r).map (a :: ·)
theorem pw_len : ∀ l : List Int, (pw l).length = 2 ^ l.length
  | [] => rfl
  | a :: r => by
    unfold pw
    rw [List.length_append, List.length_map, pw_len r, List.length_cons, Nat.pow_succ]
    omega
theorem mem_pw : ∀ {l g : List Int}, Asc l → Asc g → (∀ x ∈ g, x ∈ l) → g ∈ pw l
  | [], [], _, _, _ => List.mem_singleton.mpr rfl
  | [], a :: g, _, _, h => by have := h a List.mem_cons_self; cases this
  | a :: r, g, hl, hg, h => by
    obtain ⟨h1, h2⟩ := List.pairwise_cons.mp hl
    unfold pw
    by_cases ha : a ∈ g
    · cases g with
      | nil => cases ha
      | cons b t =>
        obtain ⟨g1, g2⟩ := List.pairwise_cons.mp hg
        have e : a = b := by
          rcases List.mem_cons.mp ha with e | e
          · exact e
          · have q1 := g1 a e
            rcases List.mem_cons.mp (h b List.mem_cons_self) with e' | e'
            · exact e'.symm
            · have q2 := h1 b e'
              omega
        subst e
        refine List.mem_append_right _ (List.mem_map.mpr ⟨t, mem_pw h2 g2 fun x hx => ?_, rfl⟩)
        rcases List.mem_cons.mp (h x (List.mem_cons_of_mem _ hx)) with e' | e'
        · have := g1 x hx
          omega
        · exact e'
    · refine List.mem_append_left _ (mem_pw h2 hg fun x hx => ?_)
      rcases List.mem_cons.mp (h x hx) with e' | e'
      · exact absurd (e' ▸ hx) ha
      · exact e'
theorem nd_sub : ∀ {S U : List (List Int)}, S.Nodup → (∀ x ∈ S, x ∈ U) → S.length ≤ U.length
  | [], _, _, _ => Nat.zero_le _
  | a :: S, U, h, hs => by
    obtain ⟨h1, h2⟩ := List.nodup_cons.mp h
    have ha := hs a List.mem_cons_self
    have := nd_sub (U := U.erase a) h2 fun x hx => (List.mem_erase_of_ne (fun e => h1 (by rw [← e]; exact hx))).mpr (hs x (List.mem_cons_of_mem _ hx))
    rw [List.length_erase_of_mem ha] at this
    have hp := List.length_pos_of_mem ha
    rw [List.length_cons]
    omega
def psI (n : Nat) : List Int := (List.range n).map fun k : Nat => (k : Int)
theorem mem_psI {n : Nat} {p : Int} : p ∈ psI n ↔ 0 ≤ p ∧ p < (n : Int) := by
  unfold psI
  rw [List.mem_map]
  constructor
  · rintro ⟨k, hk, rfl⟩
    have := List.mem_range.mp hk
    omega
  · intro h
    exact ⟨p.toNat, List.mem_range.mpr (by omega), by omega⟩
theorem asc_psI (n : Nat) : Asc (psI n) := by
  unfold psI
  refine List.pairwise_map.mpr (List.pairwise_lt_range.imp fun {a b} h => by omega)
def lat (rd : Int → Int) (n : Nat) (p : Int) : List Int := (psI n).filter fun q => decide (p < q) && decide (rd p = rd q)
def unv (rd : Int → Int) (n : Nat) : List (List Int) := (psI n).flatMap fun p => (pw (lat rd n p)).map (p :: ·)
/-- equal readings stand near each other -/
def Near (rd : Int → Int) (n k : Nat) : Prop := ∀ p q : Int, 0 ≤ p → p < q → q < (n : Int) → rd p = rd q → q ≤ p + (k : Int)
theorem ks_unv {rd : Int → Int} {n : Nat} {g : List Int} (h : KS rd (n : Int) g) : g ∈ unv rd n := by
  cases g with
  | nil => exact absurd rfl h.ne
  | cons p t =>
    obtain ⟨h1, h2⟩ := List.pairwise_cons.mp h.asc
    refine List.mem_flatMap.mpr ⟨p, mem_psI.mpr (h.mem p List.mem_cons_self), List.mem_map.mpr ⟨t, mem_pw (asc_filter _ (asc_psI n)) h2 fun x hx => ?_, rfl⟩⟩
    refine List.mem_filter.mpr ⟨mem_psI.mpr (h.mem x (List.mem_cons_of_mem _ hx)), ?_⟩
    rw [decide_eq_true (h1 x hx), decide_eq_true (h.one p List.mem_cons_self x (List.mem_cons_of_mem _ hx))]
    rfl
theorem lat_len {rd : Int → Int} {n k : Nat} (h : Near rd n k) {p : Int} (hp : 0 ≤ p) : (lat rd n p).length ≤ k := by
  have := asc_short (l := lat rd n p) (lo := p + 1) (hi := p + 1 + (k : Int)) (asc_filter _ (asc_psI n)) (fun x hx => by
    obtain ⟨h1, h2⟩ := List.mem_filter.mp hx
    rw [Bool.and_eq_true, decide_eq_true_iff, decide_eq_true_iff] at h2
    have := mem_psI.mp h1
    have := h p x hp h2.1 this.2 h2.2
    omega) (by omega)
  omega
theorem few_of {rd : Int → Int} {n k : Nat} (h : Near rd n k) (hb : n * 2 ^ k ≤ 300) : Few rd (n : Int) := fun S hS hK => by
  refine Nat.le_trans (nd_sub hS fun x hx => ks_unv (hK x hx)) (Nat.le_trans ?_ hb)
  unfold unv
  rw [List.length_flatMap]
  have hsum : ∀ l : List Int, (∀ p ∈ l, 0 ≤ p) → (l.map fun p => ((pw (lat rd n p)).map (p :: ·)).length).sum ≤ l.length * 2 ^ k := fun l => by
    induction l with
    | nil => exact fun _ => Nat.zero_le _
    | cons a r ih =>
      intro hl
      rw [List.map_cons, List.sum_cons, List.length_map, pw_len, List.length_cons, Nat.succ_mul]
      have h1 := ih fun p hp => hl p (List.mem_cons_of_mem _ hp)
      have h2 : 2 ^ (lat rd n a).length ≤ 2 ^ k := Nat.pow_le_pow_right (by decide) (lat_len h (hl a List.mem_cons_self))
      omega
  have := hsum (psI n) fun p hp => (mem_psI.mp hp).1
  have hl : (psI n).length = n := by unfold psI; rw [List.length_map, List.length_range]
  rw [hl] at this
  exact this
theorem ks_len {rd : Int → Int} {n k : Nat} (h : Near rd n k) {g : List Int} (hg : KS rd (n : Int) g) : g.length ≤ k + 1 := by
  cases g with
  | nil => exact Nat.zero_le _
  | cons p t =>
    obtain ⟨h1, h2⟩ := List.pairwise_cons.mp hg.asc
    have hp := hg.mem p List.mem_cons_self
    have := asc_short (l := t) (lo := p + 1) (hi := p + 1 + (k : Int)) h2 (fun x hx => by
      have hx' := hg.mem x (List.mem_cons_of_mem _ hx)
      have := h p x hp.1 (h1 x hx) hx'.2 (hg.one p List.mem_cons_self x (List.mem_cons_of_mem _ hx))
      have := h1 x hx
      omega) (by omega)
    rw [List.length_cons]
    omega
theorem sml_of {A : Ar} {rd : Int → Int} {k m : Nat} (hG : ArG A) (h : Near rd A.length k) (hm : ∀ os ∈ A, ∀ o ∈ os, o.length ≤ m) (hb : (k + 1) * m < 64) : Sml A rd := fun g hg i hi => by
  have hl := ks_len h hg
  have : ∀ l : List Int, (∀ p ∈ l, p ∈ g) → (l.flatMap fun p => optOf A p i).length ≤ l.length * m := fun l => by
    induction l with
    | nil => exact fun _ => Nat.zero_le _
    | cons a r ih =>
      intro hlg
      have ha := hlg a List.mem_cons_self
      obtain ⟨os, o, _, _, e, _, _, h1, h2⟩ := optOf_g hG (hg.mem a ha).1 (hg.mem a ha).2 (Nat.lt_of_lt_of_le hi (wid_le a ha))
      have h3 := hm os h2 o h1
      have h4 := ih fun p hp => hlg p (List.mem_cons_of_mem _ hp)
      rw [List.flatMap_cons, List.length_append, List.length_cons, Nat.succ_mul, e]
      omega
  have h1 := this g fun p hp => hp
  have h2 : g.length * m ≤ (k + 1) * m := Nat.mul_le_mul_right m hl
  unfold aft
  omega
theorem near_small (rd : Int → Int) {n : Nat} (h : n ≤ 6) : Near rd n 5 := fun p q p0 hpq hq _ => by omega
theorem opt_short {A : Ar} (hG : ArG A) (h : A.length ≤ 6) : ∀ os ∈ A, ∀ o ∈ os, o.length ≤ 7 := fun os hos o ho => by
  have hO := (hG.2 os hos).2 o ho
  have := asc_short (l := o) (lo := -1) (hi := (A.length : Int)) hO.asc (fun x hx => hO.mem x hx) (by omega)
  omega
/-! ### the known arena is right -/
theorem optK_ne {A : Ar} {rd : Int → Int} {S : List (List Int)} {Kk : List Int} {i : Nat} (hG : ArG A) (hK : KS rd (A.length : Int) Kk) (hi : i < wid A Kk) : optK A rd S Kk i ≠ [] := by
  obtain ⟨p, hp⟩ := List.exists_mem_of_ne_nil _ hK.ne
  obtain ⟨os, o, _, _, e, _, hO, _⟩ := optOf_g hG (hK.mem p hp).1 (hK.mem p hp).2 (Nat.lt_of_lt_of_le hi (wid_le p hp))
  obtain ⟨s, hs⟩ := List.exists_mem_of_ne_nil _ hO.ne
  have hsa : s ∈ aft A Kk i := List.mem_flatMap.mpr ⟨p, hp, by rw [e]; exact hs⟩
  intro h
  by_cases h1 : s = -1
  · subst h1
    have := (mem_optK (A := A) (rd := rd) (S := S) (Kk := Kk) (i := i)).mpr (.inl ⟨rfl, hsa⟩)
    rw [h] at this
    cases this
  · have hf : s ∈ (succs A Kk i).filter fun p => !decide (p = -1) := List.mem_filter.mpr ⟨mem_srt.mpr hsa, by simp [h1]⟩
    have := (mem_optK (A := A) (rd := rd) (S := S) (Kk := Kk) (i := i)).mpr (.inr (List.mem_map.mpr ⟨_, prt_of hf, rfl⟩))
    rw [h] at this
    cases this
theorem fol_few {A : Ar} {rd : Int → Int} {Kk : List Int} {i : Nat} (hG : ArG A) (hK : KS rd (A.length : Int) Kk) (hi : i < wid A Kk) : (fol A rd Kk i).length ≤ A.length := by
  have h1 : (fol A rd Kk i).length ≤ _ := prt_len
  have h2 := asc_short (l := (succs A Kk i).filter fun p => !decide (p = -1)) (lo := 0) (hi := (A.length : Int)) (asc_filter _ asc_srt) (fun x hx => by
    obtain ⟨h1, h2⟩ := List.mem_filter.mp hx
    have := succs_mem hG hK.mem (fun p hp => Nat.lt_of_lt_of_le hi (wid_le p hp)) x h1
    have h3 : x ≠ -1 := by simpa using h2
    omega) (by omega)
  omega
theorem optK_good {A : Ar} {rd : Int → Int} {S : List (List Int)} {Kk : List Int} {i : Nat} (hG : ArG A) (hn : A.length ≤ 46) (hK : KS rd (A.length : Int) Kk) (hi : i < wid A Kk) (hin : ∀ g ∈ fol A rd Kk i, g ∈ S) : OptG (S.length : Int) (optK A rd S Kk i) := by
  refine ⟨optK_ne hG hK hi, ?_, fun s hs => ?_, asc_optK⟩
  · have h1 := fol_few hG hK hi
    have h2 := srt_len (l := (fol A rd Kk i).map fun g => ((nr S g : Nat) : Int))
    rw [List.length_map] at h2
    have h3 : ((if (-1 : Int) ∈ succs A Kk i then [-1] else []) : List Int).length ≤ 1 := by split <;> simp
    unfold optK
    rw [List.length_append]
    omega
  · rcases mem_optK.mp hs with ⟨e, _⟩ | h
    · omega
    · obtain ⟨g, hg, e⟩ := List.mem_map.mp h
      have := nr_lt (hin g hg)
      have e : ((nr S g : Nat) : Int) = s := e
      omega
theorem kn_good {A : Ar} {rd : Int → Int} {st : List Int} {F : Ar} {S : List (List Int)} (hG : ArG A) (hn : A.length ≤ 46) (hs : Asc st) (hm : ∀ p ∈ st, 0 ≤ p ∧ p < (A.length : Int)) (hf : Few rd (A.length : Int)) (h : IsKn A rd st F S) : ArG F := by
  obtain ⟨I, hl⟩ := h.inv hG hs hm
  have h300 := hf S I.nd I.ks
  refine ⟨by omega, fun os hos => ?_⟩
  obtain ⟨k, hk⟩ := List.getElem?_of_mem hos
  have hkl := (List.getElem?_eq_some_iff.mp hk).1
  have hKk : S[k]? = some S[k] := List.getElem?_eq_getElem (by omega)
  obtain ⟨r1, r2⟩ := I.row k _ hkl hKk
  have hKS := I.ks _ (List.mem_of_getElem? hKk)
  rw [hk] at r1
  have r1 := Option.some.inj r1
  rw [r1]
  refine ⟨?_, fun o ho => ?_⟩
  · rw [List.length_map, List.length_range]
    obtain ⟨p, hp, e⟩ := wid_mem (A := A) hKS.ne
    obtain ⟨p0, p1⟩ := hKS.mem p hp
    have hk2 : p.toNat < A.length := by omega
    have h1 := (hG.2 _ (List.getElem_mem hk2)).1
    have e2 := lenOf_at (A := A) (p := p) (List.getElem?_eq_getElem hk2)
    omega
  · obtain ⟨i, hi, e⟩ := List.mem_map.mp ho
    have hi := List.mem_range.mp hi
    rw [← e, hl]
    exact optK_good hG hn hKS hi (r2 i hi)
theorem alk_ints {H : Hp} {u v : V} {g : List Int} (hl : g.length ≤ 1000000) (hu : OptIn H g u) (hv : OptIn H g v) : Alk 2 H u v := by
  obtain ⟨a, rfl, ha⟩ := hu
  obtain ⟨b, rfl, hb⟩ := hv
  exact Alk.ints ha hb hl
theorem alk_pos {H : Hp} {u v : V} {os : Pos'} (hl : os.length ≤ 1000000) (hO : ∀ o ∈ os, o.length ≤ 1000000) (hu : PosIn H os u) (hv : PosIn H os v) : Alk 3 H u v := by
  obtain ⟨a, xs, rfl, ha, hxs⟩ := hu
  obtain ⟨b, ys, rfl, hb, hys⟩ := hv
  refine .inr (.inr (.inr ⟨a, b, xs, ys, rfl, rfl, ha, hb, by rw [hxs.1, hys.1], by rw [hys.1]; exact hl, fun k x y hx hy => ?_⟩))
  have hk := (List.getElem?_eq_some_iff.mp hx).1
  rw [hxs.1] at hk
  have ho := List.getElem?_eq_getElem hk
  exact alk_ints (hO _ (List.mem_of_getElem? ho)) (hxs.2 k _ x ho hx) (hys.2 k _ y ho hy)
theorem alk_ar {H : Hp} {u v : V} {A : Ar} (hl : A.length ≤ 1000000) (hP : ∀ os ∈ A, os.length ≤ 1000000 ∧ ∀ o ∈ os, o.length ≤ 1000000) (hu : ArIn H A u) (hv : ArIn H A v) : Alk 4 H u v := by
  obtain ⟨a, xs, rfl, ha, hxs⟩ := hu
  obtain ⟨b, ys, rfl, hb, hys⟩ := hv
  refine .inr (.inr (.inr ⟨a, b, xs, ys, rfl, rfl, ha, hb, by rw [hxs.1, hys.1], by rw [hys.1]; exact hl, fun k x y hx hy => ?_⟩))
  have hk := (List.getElem?_eq_some_iff.mp hx).1
  rw [hxs.1] at hk
  have ho := List.getElem?_eq_getElem hk
  have hp := hP _ (List.mem_of_getElem? ho)
  exact alk_pos hp.1 hp.2 (hxs.2 k _ x ho hx) (hys.2 k _ y ho hy)
theorem Alk.up : ∀ {n : Nat} {H : Hp} {u v : V}, Alk n H u v → Alk (n + 1) H u v
  | 0, _, _, _, h => h.elim
  | n + 1, H, u, v, h => by
    rcases h with h | h | h | ⟨a, b, xs, ys, e1, e2, h1, h2, h3, h4, h5⟩
    · exact .inl h
    · exact .inr (.inl h)
    · exact .inr (.inr (.inl h))
    · exact .inr (.inr (.inr ⟨a, b, xs, ys, e1, e2, h1, h2, h3, h4, fun k x y hx hy => (h5 k x y hx hy).up⟩))
theorem kn_alk {H : Hp} {u v : V} {F : Ar} {S : List (List Int)} (hF : ArG F) (hS : S.length ≤ 300) (hK : ∀ g ∈ S, g.length ≤ 1000000) (hu : KnIn H F S u) (hv : KnIn H F S v) : Alk 5 H u v := by
  obtain ⟨a, x1, y1, rfl, ha, hx1, hy1⟩ := hu
  obtain ⟨b, x2, y2, rfl, hb, hx2, hy2⟩ := hv
  refine .inr (.inr (.inr ⟨a, b, _, _, rfl, rfl, ha, hb, rfl, by show 2 ≤ 1000000; decide, fun k x y hx hy => ?_⟩))
  match k, hx, hy with
  | 0, hx, hy =>
    cases hx
    cases hy
    exact alk_ar (Nat.le_trans hF.1 (by decide)) (fun os hos => ⟨Nat.le_trans (hF.2 os hos).1 (by decide), fun o ho => Nat.le_trans ((hF.2 os hos).2 o ho).len (by decide)⟩) hx1 hx2
  | 1, hx, hy =>
    cases hx
    cases hy
    exact (alk_pos (by omega) hK hy1 hy2).up
  | k + 2, hx, hy => cases hx
end NL

set_option maxHeartbeats 4000000
namespace NL
open PySem PySem.Spec PyProof.Rows L2
/-! ### min of a list of pairs of ints -/
def plt (p q : Int × Int) : Bool := decide (p.1 < q.1 ∨ (p.1 = q.1 ∧ p.2 < q.2))
theorem lexLt2 (a b c d : Int) : HT.lexLt [a, b] [c, d] = plt (a, b) (c, d) := by
  rw [HT.lexLt_cons]
  unfold plt
  by_cases h : a = c
  · rw [if_pos h, HT.lexLt_cons]
    by_cases h2 : b = d
    · rw [if_pos h2, HT.lexLt_nil_nil]
      exact (decide_eq_false (by show ¬ (a < c ∨ (a = c ∧ b < d)); omega)).symm
    · rw [if_neg h2]
      by_cases h3 : b < d
      · rw [decide_eq_true h3]; exact (decide_eq_true (by show a < c ∨ (a = c ∧ b < d); omega)).symm
      · rw [decide_eq_false h3]; exact (decide_eq_false (by show ¬ (a < c ∨ (a = c ∧ b < d)); omega)).symm
  · rw [if_neg h]
    by_cases h3 : a < c
    · rw [decide_eq_true h3]; exact (decide_eq_true (by show a < c ∨ (a = c ∧ b < d); omega)).symm
    · rw [decide_eq_false h3]; exact (decide_eq_false (by show ¬ (a < c ∨ (a = c ∧ b < d)); omega)).symm
theorem plt_irr (p : Int × Int) : plt p p = false := decide_eq_false (by omega)
theorem plt_tr {p q r : Int × Int} (h1 : plt p q = false) (h2 : plt r q = true) : plt p r = false := by
  have h2 := of_decide_eq_true h2
  have h1 := of_decide_eq_false h1
  exact decide_eq_false (by omega)
theorem best_pair (g : Nat → Int × Int) : ∀ k, argBest (fun i j => plt (g i) (g j)) k ≤ k ∧ ∀ j, j ≤ k → plt (g j) (g (argBest (fun i j => plt (g i) (g j)) k)) = false
  | 0 => ⟨Nat.le_refl _, fun j hj => by
    have : j = 0 := by omega
    subst this
    exact plt_irr _⟩
  | k + 1 => by
    obtain ⟨h1, h2⟩ := best_pair g k
    cases hb : plt (g (k + 1)) (g (argBest (fun i j => plt (g i) (g j)) k)) with
    | true =>
      have e : argBest (fun i j => plt (g i) (g j)) (k + 1) = k + 1 := by
        show (if plt (g (k + 1)) (g (argBest (fun i j => plt (g i) (g j)) k)) = true then k + 1 else argBest (fun i j => plt (g i) (g j)) k) = k + 1
        rw [hb, if_pos rfl]
      rw [e]
      refine ⟨Nat.le_refl _, fun j hj => ?_⟩
      by_cases hjk : j ≤ k
      · exact plt_tr (h2 j hjk) hb
      · have : j = k + 1 := by omega
        rw [this]
        exact plt_irr _
    | false =>
      have e : argBest (fun i j => plt (g i) (g j)) (k + 1) = argBest (fun i j => plt (g i) (g j)) k := by
        show (if plt (g (k + 1)) (g (argBest (fun i j => plt (g i) (g j)) k)) = true then k + 1 else argBest (fun i j => plt (g i) (g j)) k) = _
        rw [hb, if_neg Bool.false_ne_true]
      rw [e]
      refine ⟨Nat.le_succ_of_le h1, fun j hj => ?_⟩
      by_cases hjk : j ≤ k
      · exact h2 j hjk
      · have : j = k + 1 := by omega
        rw [this]
        exact hb
def rMinP (K : PySem.W.Frag) : List V → Hp → VK → Prop := fun vs H Q => ∃ (a : Addr) (ts : List Addr) (ps : List (Int × Int)), vs = [V.ref a] ∧ SqL K H a (ts.map V.ref) ∧ ts.length = ps.length ∧ 0 < ps.length ∧ (∀ (i : Nat) t p, ts[i]? = some t → ps[i]? = some p → SqT K H t ([p.1, p.2].map V.int)) ∧
  ∀ (i : Nat) t p, ts[i]? = some t → ps[i]? = some p → (∀ q ∈ ps, plt q p = false) → Q (.ref t) H
theorem cr_minP {X : Cx} (hc : X.calm = true) (hu : X.A.units + 1 < cLine) : CallR X (.builtin "min") (rMinP X.K) := by
  intro pins s σ H vs us Q I r h
  obtain ⟨a, ts, ps, rfl, hs, hlen, hne, hts, q⟩ := h
  obtain ⟨its, rv, hl, _⟩ := I.list hs
  rw [Vals.ref1 r]
  have hitl := rv.length
  rw [List.length_map] at hitl
  have hit : ∀ (i : Nat) v, its.toArray[i]? = some v → ∃ t p, ts[i]? = some t ∧ ps[i]? = some p ∧ v = .ref t ∧ ∃ its2, PyProof.Rows.IntsAre its2 [p.1, p.2] ∧ s.heap.IsTuple t its2.toArray := fun i v hv => by
    have hv2 : its[i]? = some v := by simpa using hv
    have hil := (List.getElem?_eq_some_iff.mp hv2).1
    have ht := List.getElem?_eq_getElem (show i < ts.length by omega)
    have hp := List.getElem?_eq_getElem (show i < ps.length by omega)
    obtain ⟨u, hu1, ru⟩ := rv.get (i := i) (x := V.ref ts[i]) (by rw [List.getElem?_map, ht]; rfl)
    rw [hv2] at hu1
    cases hu1
    obtain ⟨its2, rv2, pt, _⟩ := I.tuple (hts i _ _ ht hp)
    exact ⟨_, _, ht, hp, ru, its2, rv2.ints, pt⟩
  refine call_min_walkH (PySem.W.iter_listW (A := X.A.in1) (I.ok.hd hc) hl.isList fun s₂ e W st hfp hw hk => ?_)
  refine ⟨_, _, _, _, _, _, _, s.heap, (fun i j => plt (ps.getD i (0, 0)) (ps.getD j (0, 0))), rfl, W, st, hfp, by rw [List.size_toArray]; omega, hw, hk, ?_, fun v s' hP m => ?_⟩
  · intro i j vi vj s' Q' E' hk' hi hj hQ
    obtain ⟨t, p, ht, hp, rfl, it2, hin, hI⟩ := hit i vi hi
    obtain ⟨t', p', ht', hp', rfl, it2', hin', hI'⟩ := hit j vj hj
    obtain ⟨o, ho, h2⟩ := hI
    obtain ⟨o', ho', h2'⟩ := hI'
    refine HT.lt_tupInts (items := it2.toArray) (items2 := it2'.toArray) ⟨o, hk' _ _ ho, h2⟩ ⟨o', hk' _ _ ho', h2'⟩ hin hin' hu ?_
    rw [lexLt2]
    have hQ2 : Q' (.bool (plt (ps.getD i (0, 0)) (ps.getD j (0, 0)))) s' := hQ
    rw [show ps.getD i (0, 0) = p by rw [List.getD_eq_getElem?_getD, hp]; rfl, show ps.getD j (0, 0) = p' by rw [List.getD_eq_getElem?_getD, hp']; rfl] at hQ2
    exact hQ2
  · obtain ⟨h', tk, rfl, hk'⟩ := PySem.W.moved_old e rfl m
    obtain ⟨b1, b2⟩ := best_pair (fun i => ps.getD i (0, 0)) (its.toArray.size - 1)
    obtain ⟨t, p, ht, hp, rfl, _⟩ := hit _ v hP
    refine ⟨.ref t, H, I.kept hk', rfl, q _ t p ht hp fun z hz => ?_⟩
    obtain ⟨j, hj⟩ := List.getElem?_of_mem hz
    have hjl := (List.getElem?_eq_some_iff.mp hj).1
    have h3 := b2 j (by rw [List.size_toArray]; omega)
    rw [show ps.getD j (0, 0) = z by rw [List.getD_eq_getElem?_getD, hj]; rfl] at h3
    have h4 : ps.getD (argBest (fun i j => plt (ps.getD i (0, 0)) (ps.getD j (0, 0))) (its.toArray.size - 1)) (0, 0) = p := by rw [List.getD_eq_getElem?_getD, hp]; rfl
    rw [h4] at h3
    exact h3
end NL

set_option maxHeartbeats 4000000
namespace NL
open PySem PySem.Spec PyProof.Rows L2
/-! ### ranks of all positions -/
theorem rk_ex (f : Nat → Mk') (p : Int) : ∃ ro, IsRk f p ro := by
  by_cases h : ∃ j, f j p = true
  · have ex : ∀ n j, j ≤ n → f j p = true → ∃ r, f r p = true ∧ ∀ j, j < r → f j p = false := by
      intro n
      induction n with
      | zero =>
        intro j hj hf
        have : j = 0 := by omega
        subst this
        exact ⟨0, hf, fun j hj => absurd hj (Nat.not_lt_zero j)⟩
      | succ n ih =>
        intro j hj hf
        by_cases hl : ∃ i, i < j ∧ f i p = true
        · obtain ⟨i, hi, hfi⟩ := hl
          exact ih i (by omega) hfi
        · refine ⟨j, hf, fun i hi => ?_⟩
          cases hfi : f i p with
          | false => rfl
          | true => exact absurd ⟨i, hi, hfi⟩ hl
    obtain ⟨j, hj⟩ := h
    obtain ⟨r, h1, h2⟩ := ex j j (Nat.le_refl j) hj
    exact ⟨some r, h1, h2⟩
  · refine ⟨none, fun j => ?_⟩
    cases hf : f j p with
    | false => rfl
    | true => exact absurd ⟨j, hf⟩ h
noncomputable def rkF (f : Nat → Mk') (p : Int) : Option Nat := Classical.choose (rk_ex f p)
theorem rkF_is (f : Nat → Mk') (p : Int) : IsRk f p (rkF f p) := Classical.choose_spec (rk_ex f p)
theorem rkF_eq {f : Nat → Mk'} {p : Int} {ro : Option Nat} (h : IsRk f p ro) : rkF f p = ro := (rkF_is f p).uniq h
/-- the marks of a goal: st, to stay; else to come -/
def gF (st : Bool) (A : Ar) (Kp : List Int) : Nat → Mk' := mr A (if st = true then 1 else 0) (psA A.length) (mkO st (fun p => if st = true then !decide (p ∈ Kp) else decide (p ∈ Kp)))
theorem gF_up {st : Bool} {A : Ar} {Kp : List Int} (k : Nat) (p : Int) (h : gF st A Kp k p = true) : gF st A Kp (k + 1) p = true := mr_up h
theorem gF_out {st : Bool} {A : Ar} {Kp : List Int} (k : Nat) : gF st A Kp k (-1) = st := by
  have : gF st A Kp k (-1) = mkO st (fun p => if st = true then !decide (p ∈ Kp) else decide (p ∈ Kp)) (-1) := mr_out (fun h => by
    have := psA_mem.mp h
    omega) k
  exact this
theorem gF_0 {st : Bool} {A : Ar} {Kp : List Int} {p : Int} (h : 0 ≤ p) : gF st A Kp 0 p = if st = true then !decide (p ∈ Kp) else decide (p ∈ Kp) := by
  show mkO st (fun p => if st = true then !decide (p ∈ Kp) else decide (p ∈ Kp)) p = _
  unfold mkO
  exact if_neg (by omega)
theorem gF_s {st : Bool} {A : Ar} {Kp : List Int} {k i : Nat} {os : Pos'} (hi : A[i]? = some os) : gF st A Kp (k + 1) (i : Int) = (gF st A Kp k (i : Int) || frcM (if st = true then 1 else 0) os (gF st A Kp k)) := by
  have hl := (List.getElem?_eq_some_iff.mp hi).1
  have h1 : decide ((i : Int) ∈ psA A.length) = true := decide_eq_true (psA_mem.mpr (by omega))
  have h2 : psO A (i : Int) = os := psO_at (by omega) (by rw [Int.toNat_natCast]; exact hi)
  show (gF st A Kp k (i : Int) || (decide ((i : Int) ∈ psA A.length) && frcM (if st = true then 1 else 0) (psO A (i : Int)) (gF st A Kp k))) = _
  rw [h1, h2, Bool.true_and]
noncomputable def gR (st : Bool) (A : Ar) (Kp : List Int) (p : Int) : Option Nat := rkF (gF st A Kp) p
theorem gR_is (st : Bool) (A : Ar) (Kp : List Int) (p : Int) : IsRk (gF st A Kp) p (gR st A Kp p) := rkF_is _ _
/-! ### which successor fits -/
def fitB (st : Bool) (R : Int → Option Nat) (p q : Int) : Bool := if q = -1 then (R p).isSome == st else match R p, R q with
  | none, none => true
  | some a, some b => decide (b < a)
  | _, _ => false
theorem rk_end {f : Nat → Mk'} (up : ∀ k p, f k p = true → f (k + 1) p = true) : ∀ n : Nat, ∃ J, ∀ k : Nat, k < n → ∀ j, f j (k : Int) = true → f J (k : Int) = true
  | 0 => ⟨0, fun k hk => absurd hk (Nat.not_lt_zero k)⟩
  | n + 1 => by
    obtain ⟨J, hJ⟩ := rk_end up n
    obtain ⟨ro, hro⟩ := rk_ex f (n : Int)
    cases ro with
    | none =>
      refine ⟨J, fun k hk j hj => ?_⟩
      by_cases hkn : k = n
      · subst hkn
        rw [hro j] at hj
        cases hj
      · exact hJ k (by omega) j hj
    | some r =>
      refine ⟨max J r, fun k hk j hj => ?_⟩
      by_cases hkn : k = n
      · subst hkn
        exact up_le up (Nat.le_max_right J r) hro.1
      · exact up_le up (Nat.le_max_left J r) (hJ k (by omega) j hj)
section
variable {st : Bool} {A : Ar} {Kp : List Int}
/-- a marked successor fits where its position is marked one round later -/
theorem fit_some {p q : Int} {r : Nat} (hp : gR st A Kp p = some (r + 1)) (hq : q ≠ -1 ∨ st = true) (h : gF st A Kp r q = true) : fitB st (gR st A Kp) p q = true := by
  unfold fitB
  by_cases h1 : q = -1
  · rw [if_pos h1, hp]
    rcases hq with hq | hq
    · exact absurd h1 hq
    · rw [hq]
      rfl
  · rw [if_neg h1, hp]
    have hr := gR_is st A Kp q
    cases hb : gR st A Kp q with
    | none =>
      rw [hb] at hr
      rw [hr r] at h
      cases h
    | some b =>
      rw [hb] at hr
      have : b ≤ r := by
        rcases Nat.lt_or_ge r b with z | z
        · rw [hr.2 r z] at h
          cases h
        · exact z
      exact decide_eq_true (by omega)
theorem fit_none {p q : Int} (hp : gR st A Kp p = none) (hq : gR st A Kp q = none) (h1 : q ≠ -1) : fitB st (gR st A Kp) p q = true := by
  unfold fitB
  rw [if_neg h1, hp, hq]
theorem fit_out {p : Int} (hp : gR false A Kp p = none) : fitB false (gR false A Kp) p (-1) = true := by
  unfold fitB
  rw [if_pos rfl, hp]
  rfl
end
/-! ### labels, and the object that goes over them -/
def lbV (st : Bool) : Option Nat → List V
  | none => [.str (if st = true then "holds" else "away")]
  | some r => [.str (if st = true then "driven" else "comes"), .int (r : Nat)]
def LabIn (st : Bool) (H : Hp) (r : Option Nat) (v : V) : Prop := ∃ t, v = .ref t ∧ H t = some (.tup (lbV st r))
theorem LabIn.tp {st : Bool} {H H' : Hp} {b : Option Nat} {v : V} (t : Tp H H') (h : LabIn st H b v) : LabIn st H' b v := by
  obtain ⟨a, h1, h2⟩ := h
  exact ⟨a, h1, t _ _ h2⟩
def ffF (a t l g : V) : List (Str × V) := [("arena", a), ("told", t), ("labels", l), ("greatest", g)]
theorem ff_arena {a t l g : V} : (ffF a t l g).lookup ("arena" : Str) = some a := rfl
theorem ff_labels {a t l g : V} : (ffF a t l g).lookup ("labels" : Str) = some l := rfl
theorem ff_fits {a t l g : V} : (ffF a t l g).lookup ("fits" : Str) = none := rfl
theorem ff_all_fit {a t l g : V} : (ffF a t l g).lookup ("all_fit" : Str) = none := rfl
theorem ff_new {a t l g : V} : putF "greatest" g (putF "labels" l (putF "told" t (putF "arena" a []))) = ffF a t l g := rfl
structure FitAt (C : Addr) (st : Bool) (H : Hp) (f : Addr) (A : Ar) (R : Int → Option Nat) (lb : Addr) : Prop where
  obj : ∃ dx v t g, H f = some (.ins C dx (ffF v t (.ref lb) g)) ∧ ArIn H A v
  lab : ∃ ds, H lb = some (.lst ds) ∧ Each (LabIn st H) ((List.range A.length).map fun k : Nat => R (k : Int)) ds
theorem FitAt.same {C f lb : Addr} {st : Bool} {H H' : Hp} {A : Ar} {R : Int → Option Nat} (s : Same H H') (h : FitAt C st H f A R lb) : FitAt C st H' f A R lb := by
  obtain ⟨⟨dx, v, t, g, h1, h2⟩, ds, h3, h4⟩ := h
  exact ⟨⟨dx, v, t, g, s _ _ h1, h2.tp (Tp.same s)⟩, ds, s _ _ h3, h4.mono fun o x => LabIn.tp (Tp.same s)⟩
theorem FitAt.at {C f lb : Addr} {st : Bool} {H : Hp} {A : Ar} {R : Int → Option Nat} (h : FitAt C st H f A R lb) {p : Int} (h0 : 0 ≤ p) (h1 : p < A.length) : ∃ ds t, H lb = some (.lst ds) ∧ atI ds p = some (.ref t) ∧ H t = some (.tup (lbV st (R p))) := by
  obtain ⟨_, ds, h3, h4⟩ := h
  obtain ⟨o, x, ho, hat, t, rfl, et⟩ := h4.atI h0 (by rw [List.length_map, List.length_range]; exact h1)
  rw [List.getElem?_map, List.getElem?_range (by omega)] at ho
  have : R p = o := by
    have := Option.some.inj ho
    rw [← this]
    congr 1
    omega
  exact ⟨ds, t, h3, hat, by rw [this]; exact et⟩
theorem pe_never {X : Cx} {e : Expr} : PE X e (fun _ _ _ => False) := ⟨fun _ _ _ _ _ _ h => h.elim⟩
theorem pe_fldK {X : Cx} {K : PySem.W.Frag} {e : Expr} {f : Str} {pos : Pos} {ta : TE} (h : X.K = K) (he : PE X e ta) (hb : attributeBase e f X.env (eval e X.env) = eval e X.env) : PE X (.Attribute e f pos) (tFld K ta f) := by
  subst h
  exact pe_fld he hb
section
variable {P : Program} {w : World} {K : PySem.W.Frag} {mg : Str → Option Value} {base : Heap}
def spHas : Sp := fun vs H Q _ => ∃ (a : Addr) (s : Str) (r : List V), vs = [.ref a] ∧ H a = some (.tup (.str s :: r)) ∧ Q (.bl (inV (.str s) [(.str "holds"), (.str "comes"), (.str "even"), (.str "keeps")])) H
theorem ok_has_option (T : Txt K mg) : FnOk P w K mg base CX0 1 T.ahas_option T.dhas_option Phas_option spHas := by
  refine T.Fhas_option.ok schas_option (fun vs H Q E h => ?_) (fun cdv A outer s H vs Q E hr h => ?_)
  · obtain ⟨a, s, r, rfl, _⟩ := h
    rfl
  obtain ⟨a, s, r, rfl, e, q⟩ := h
  refine ⟨_, (pss_one (ps_ret (pe_cmpR op_in_seq (pe_ix ix_tup (pv 0) pe_int (fun _ _ => rfl)) (pe_glob (v := .ref T.c_OPTION_KINDS) rfl T.g_OPTION_KINDS rfl) (by rfl)))), ?_⟩
  refine ⟨_, rfl, a, _, _, _, rfl, rfl, sqt e, atI0, T.c_OPTION_KINDS, _, rfl, .inr (.inr T.k_OPTION_KINDS), rfl, by decide, q⟩
theorem has_lb (st : Bool) (r : Option Nat) : ∃ s tl, lbV st r = .str s :: tl ∧ inV (.str s) [(.str "holds"), (.str "comes"), (.str "even"), (.str "keeps")] = (r.isSome != st) := by
  cases r with
  | none => cases st <;> exact ⟨_, _, rfl, by decide⟩
  | some r =>
    cases st
    · exact ⟨"comes", _, rfl, (by decide : inV (.str "comes") [(.str "holds"), (.str "comes"), (.str "even"), (.str "keeps")] = (true != false))⟩
    · exact ⟨"driven", _, rfl, (by decide : inV (.str "driven") [(.str "holds"), (.str "comes"), (.str "even"), (.str "keeps")] = (true != true))⟩
/-! ### is_end -/
def spEnd (st : Bool) : Sp := fun vs H Q _ => ∃ (a : Addr) (r : Option Nat), vs = [.ref a] ∧ H a = some (.tup (lbV st r)) ∧ ∀ H', Same H H' → Q (.bl (decide (r = some 0))) H'
theorem ok_is_end (T : Txt K mg) (st : Bool) : FnOk P w K mg base CX0 1 T.ais_end T.dis_end Pis_end (spEnd st) := by
  refine T.Fis_end.ok scis_end (fun vs H Q E h => ?_) (fun cdv A outer s H vs Q E hr h => ?_)
  · obtain ⟨a, r, rfl, _⟩ := h
    rfl
  obtain ⟨a, r, rfl, e, q⟩ := h
  refine ⟨_, (pss_one (ps_ret (pe_and (pe_cmpR op_in_seq (pe_ix ix_tup (pv 0) pe_int (fun _ _ => rfl)) (pe_tup (pa_cons pe_str (pa_cons pe_str pa_nil))) (by rfl)) (pe_one (pe_cmpR op_eq (pe_ix ix_tup (pv 0) pe_int (fun _ _ => rfl)) pe_int (nomark _)))))), ?_⟩
  cases r with
  | none =>
    refine ⟨_, rfl, a, _, _, _, rfl, rfl, sqt e, atI0, Nat.le_of_ble_eq_true rfl, fun t ht => ?_⟩
    obtain ⟨H1, e1, s1, k1⟩ := newH ht (.tup [V.str "comes", V.str "driven"])
    rw [e1]
    refine ⟨t, _, rfl, .inr (sqt k1), rfl, by decide, ?_⟩
    exact ⟨false, by cases st <;> decide, iteF (boolE (decide_eq_false (fun e => nomatch e)).symm (q H1 s1))⟩
  | some r =>
    refine ⟨_, rfl, a, _, _, _, rfl, rfl, sqt e, atI0, Nat.le_of_ble_eq_true rfl, fun t ht => ?_⟩
    obtain ⟨H1, e1, s1, k1⟩ := newH ht (.tup [V.str "comes", V.str "driven"])
    rw [e1]
    refine ⟨t, _, rfl, .inr (sqt k1), rfl, by decide, ?_⟩
    refine ⟨true, by cases st <;> decide, iteT ⟨_, rfl, a, _, _, _, rfl, rfl, sqt (s1 _ _ e), atI1, rfl, boolE ?_ (q H1 s1)⟩⟩
    by_cases h : r = 0
    · subst h
      rfl
    · rw [decide_eq_false (fun e => h (by have := V.int.inj e; omega)), decide_eq_false (fun e => h (Option.some.inj e))]
/-! ### Fitting -/
def spInit (C : Addr) (st : Bool) : Sp := fun vs H Q _ => ∃ (p dx g lb : Addr) (v t : V), vs = [.ref p, v, .ref g, .ref lb] ∧ H p = some (.ins C dx []) ∧ H g = some (.tup [.str (if st = true then "stay" else "come"), t]) ∧
  ∀ H', H' p = some (.ins C dx (ffF v t (.ref lb) (.int 0))) → (∀ b o, H b = some o → b ≠ p → H' b = some o) → Q .non H'
theorem ok_Fitting___init__ (T : Txt K mg) (st : Bool) : FnOk P w K mg base CX0 1 T.aFitting___init__ T.dFitting___init__ PFitting___init__ (spInit T.C_Fitting st) := by
  refine T.FFitting___init__.ok scFitting___init__ (fun vs H Q E h => ?_) (fun cdv A outer s H vs Q E hr h => ?_)
  · obtain ⟨p, dx, g, lb, v, t, rfl, _⟩ := h
    rfl
  obtain ⟨p, dx, g, lb, v, t, rfl, hp, eg, q⟩ := h
  refine ⟨_, (pss_cons (ps_fld (pv 0) (pv 1) rfl)
    (pss_cons (ps_fld (pv 0) (pe_ix ix_tup (pv 2) pe_int (fun _ _ => rfl)) rfl)
    (pss_cons (ps_fld (pv 0) (pv 3) rfl)
    (pss_one (ps_fld (pv 0) (pe_ifExp (pt_cmpR op_eq (pe_ix ix_tup (pv 2) pe_int (fun _ _ => rfl)) pe_str (nomark _)) pe_never pe_int) rfl))))), ?_⟩
  have hgp : g ≠ p := fun z => by
    rw [z, hp] at eg
    cases eg
  refine ⟨_, rfl, _, rfl, p, _, _, _, rfl, hp, T.cl_Fitting, T.na_Fitting_arena, Nat.le_of_ble_eq_true rfl, ?_⟩
  refine ⟨_, rfl, g, _, _, _, rfl, rfl, sqt (by rw [upd_ne hgp]; exact eg), atI1, _, rfl, p, _, _, _, rfl, upd_same, T.cl_Fitting, T.na_Fitting_told, Nat.le_of_ble_eq_true rfl, ?_⟩
  refine ⟨_, rfl, _, rfl, p, _, _, _, rfl, upd_same, T.cl_Fitting, T.na_Fitting_labels, Nat.le_of_ble_eq_true rfl, ?_⟩
  refine ⟨_, rfl, g, _, _, _, rfl, rfl, sqt (by rw [upd_ne hgp, upd_ne hgp, upd_ne hgp]; exact eg), atI0, rfl, _, rfl, ?_⟩
  refine ifF (by cases st <;> decide) ?_
  refine ⟨_, rfl, p, _, _, _, rfl, upd_same, T.cl_Fitting, T.na_Fitting_greatest, Nat.le_of_ble_eq_true rfl, ?_⟩
  refine q _ (by rw [upd_same, ff_new]) fun b o e hb => ?_
  rw [upd_ne hb, upd_ne hb, upd_ne hb, upd_ne hb]
  exact e
def spFits (C : Addr) (st : Bool) : Sp := fun vs H Q _ => ∃ (f lb : Addr) (A : Ar) (R : Int → Option Nat) (p i q : Int), vs = [.ref f, .int p, .int i, .int q] ∧ FitAt C st H f A R lb ∧ 0 ≤ p ∧ p < A.length ∧ -1 ≤ q ∧ q < A.length ∧ ∀ H', Same H H' → Q (.bl (fitB st R p q)) H'
theorem ok_Fitting_fits (T : Txt K mg) (st : Bool) : FnOk P w K mg base CX0 2 T.aFitting_fits T.dFitting_fits PFitting_fits (spFits T.C_Fitting st) := by
  have Ghas_option := ok_has_option (P := P) (w := w) (base := base) T
  refine T.FFitting_fits.ok scFitting_fits (fun vs H Q E h => ?_) (fun cdv A outer s H vs Q E hr h => ?_)
  · obtain ⟨f, lb, A, R, p, i, q, rfl, _⟩ := h
    rfl
  obtain ⟨f, lb, A0, R, p, i, q, rfl, hF, p0, p1, q0, q1, qq⟩ := h
  obtain ⟨⟨dx, v, t, g, ef, hA⟩, _⟩ := id hF
  obtain ⟨ds, t1, el, hat1, et1⟩ := hF.at p0 p1
  refine ⟨_, (pss_cons (ps_set (i := 4) scFitting_fits.nd rfl (Or.inl rfl) (pe_ix ix_list (pe_fld (pv 0) rfl) (pv 1) (fun _ _ => rfl)))
    (pss_cons (ps_if (pt_cmpR op_eq (pv 3) (pe_un un_neg pe_int) (nomark _))
    (pss_one (ps_ret (pe_not (pe_call Ghas_option (hr.mono (by omega)) (by rfl) T.mhas_option T.Fhas_option.kp T.bhas_option .nil pass0 (pa_cons (pv 4) pa_nil)))))
    pss_nil)
    (pss_cons (ps_set (i := 5) scFitting_fits.nd rfl (Or.inl rfl) (pe_ix ix_list (pe_fld (pv 0) rfl) (pv 3) (fun _ _ => rfl)))
    (pss_cons (ps_if (pt_cmpR op_ne (pe_ix ix_tup (pv 4) pe_int (fun _ _ => rfl)) (pe_ix ix_tup (pv 5) pe_int (fun _ _ => rfl)) (nomark _))
    (pss_one (ps_ret pe_bl))
    pss_nil)
    (pss_cons (ps_if (pt_cmpR op_in_seq (pe_ix ix_tup (pv 4) pe_int (fun _ _ => rfl)) (pe_tup (pa_cons pe_str (pa_cons pe_str pa_nil))) (by rfl))
    (pss_one (ps_ret pe_bl))
    pss_nil)
    (pss_cons (ps_if (pt_cmpR op_in_seq (pe_ix ix_tup (pv 4) pe_int (fun _ _ => rfl)) (pe_tup (pa_cons pe_str (pa_cons pe_str pa_nil))) (by rfl))
    (pss_one (ps_ret (pe_cmpR op_lt (pe_ix ix_tup (pv 5) pe_int (fun _ _ => rfl)) (pe_ix ix_tup (pv 4) pe_int (fun _ _ => rfl)) (nomark _))))
    pss_nil)
    (pss_cons (ps_if (pt_cmpR op_in_seq (pe_ix ix_tup (pv 4) pe_int (fun _ _ => rfl)) (pe_tup (pa_cons pe_str (pa_cons pe_str pa_nil))) (by rfl))
    (pss_one (ps_ret pe_never))
    pss_nil)
    (pss_one (ps_ret (pe_cmpR op_le (pe_ix ix_tup (pv 5) pe_int (fun _ _ => rfl)) (pe_op op_add (pe_ix ix_tup (pv 4) pe_int (fun _ _ => rfl)) pe_never) (nomark _))))))))))), ?_⟩
  refine ⟨_, rfl, f, _, dx, _, _, rfl, ef, T.cl_Fitting, T.na_Fitting_labels, ff_labels, _, rfl, lb, _, _, _, rfl, rfl, sqd el, hat1, ?_⟩
  refine ⟨_, rfl, _, rfl, rfl, _, rfl, ?_⟩
  by_cases hq1 : q = -1
  · refine ifT (decide_eq_true (by rw [hq1])) ?_
    obtain ⟨s0, tl, e1, e2⟩ := has_lb st (R p)
    refine ⟨_, rfl, t1, s0, tl, rfl, by rw [et1, e1], _, rfl, ?_⟩
    refine boolE ?_ (qq H (Same.refl H))
    unfold fitB
    rw [if_pos hq1, e2]
    cases (R p).isSome <;> cases st <;> rfl
  refine ifF (decide_eq_false (fun e => hq1 (V.int.inj e))) ?_
  obtain ⟨ds', t2, el', hat2, et2⟩ := hF.at (p := q) (by omega) q1
  rw [el] at el'
  obtain rfl : ds = ds' := by injection el' with z; injection z
  refine ⟨_, rfl, f, _, dx, _, _, rfl, ef, T.cl_Fitting, T.na_Fitting_labels, ff_labels, _, rfl, lb, _, _, _, rfl, rfl, sqd el, hat2, ?_⟩
  cases hp : R p with
  | none =>
    rw [hp] at et1
    cases hq : R q with
    | none =>
      rw [hq] at et2
      have hfit : fitB st R p q = true := by
        unfold fitB
        rw [if_neg hq1, hp, hq]
      refine ⟨_, rfl, t1, _, _, _, rfl, rfl, sqt et1, atI0, _, rfl, t2, _, _, _, rfl, rfl, sqt et2, atI0, rfl, _, rfl, ?_⟩
      refine ifF (by cases st <;> decide) ?_
      refine ⟨_, rfl, t1, _, _, _, rfl, rfl, sqt et1, atI0, Nat.le_of_ble_eq_true rfl, fun tt htt => ?_⟩
      obtain ⟨H1, e1, s1, k1⟩ := newH htt (.tup [V.str "holds", V.str "away"])
      rw [e1]
      refine ⟨tt, _, rfl, .inr (sqt k1), rfl, by decide, _, rfl, ?_⟩
      exact ifT (by cases st <;> decide) (boolE hfit.symm (qq H1 s1))
    | some b =>
      rw [hq] at et2
      have hfit : fitB st R p q = false := by
        unfold fitB
        rw [if_neg hq1, hp, hq]
      refine ⟨_, rfl, t1, _, _, _, rfl, rfl, sqt et1, atI0, _, rfl, t2, _, _, _, rfl, rfl, sqt et2, atI0, rfl, _, rfl, ?_⟩
      exact ifT (by cases st <;> decide) (boolE hfit.symm (qq H (Same.refl H)))
  | some a =>
    rw [hp] at et1
    cases hq : R q with
    | none =>
      rw [hq] at et2
      have hfit : fitB st R p q = false := by
        unfold fitB
        rw [if_neg hq1, hp, hq]
      refine ⟨_, rfl, t1, _, _, _, rfl, rfl, sqt et1, atI0, _, rfl, t2, _, _, _, rfl, rfl, sqt et2, atI0, rfl, _, rfl, ?_⟩
      exact ifT (by cases st <;> decide) (boolE hfit.symm (qq H (Same.refl H)))
    | some b =>
      rw [hq] at et2
      have hfit : fitB st R p q = decide (b < a) := by
        unfold fitB
        rw [if_neg hq1, hp, hq]
      refine ⟨_, rfl, t1, _, _, _, rfl, rfl, sqt et1, atI0, _, rfl, t2, _, _, _, rfl, rfl, sqt et2, atI0, rfl, _, rfl, ?_⟩
      refine ifF (by cases st <;> decide) ?_
      refine ⟨_, rfl, t1, _, _, _, rfl, rfl, sqt et1, atI0, Nat.le_of_ble_eq_true rfl, fun tt htt => ?_⟩
      obtain ⟨H1, e1, s1, k1⟩ := newH htt (.tup [V.str "holds", V.str "away"])
      rw [e1]
      refine ⟨tt, _, rfl, .inr (sqt k1), rfl, by decide, _, rfl, ?_⟩
      refine ifF (by cases st <;> decide) ?_
      refine ⟨_, rfl, t1, _, _, _, rfl, rfl, sqt (s1 _ _ et1), atI0, Nat.le_of_ble_eq_true rfl, fun tu htu => ?_⟩
      obtain ⟨H2, e2, s2, k2⟩ := newH htu (.tup [V.str "comes", V.str "driven"])
      rw [e2]
      have s12 := s1.trans s2
      refine ⟨tu, _, rfl, .inr (sqt k2), rfl, by decide, _, rfl, ?_⟩
      refine ifT (by cases st <;> decide) ?_
      refine ⟨_, rfl, t2, _, _, _, rfl, rfl, sqt (s12 _ _ et2), atI1, _, rfl, t1, _, _, _, rfl, rfl, sqt (s12 _ _ et1), atI1, _, _, rfl, rfl, boolE ?_ (qq H2 s12)⟩
      rw [hfit]
      by_cases h : b < a
      · rw [decide_eq_true h]
        exact decide_eq_true (by omega)
      · rw [decide_eq_false h]
        exact decide_eq_false (by omega)
/-- the place of an option: within what is held -/
def spAllFit (C : Addr) (st : Bool) : Sp := fun vs H Q _ => ∃ (f lb : Addr) (A : Ar) (R : Int → Option Nat) (p i : Nat) (os : Pos') (o : Opt), vs = [.ref f, .int p, .int i] ∧ FitAt C st H f A R lb ∧ ArG A ∧ A[p]? = some os ∧ os[i]? = some o ∧ ∀ H', Same H H' → Q (.bl (o.all (fitB st R p))) H'
theorem ok_Fitting_all_fit (T : Txt K mg) (st : Bool) : FnOk P w K mg base CX0 3 T.aFitting_all_fit T.dFitting_all_fit PFitting_all_fit (spAllFit T.C_Fitting st) := by
  have GFitting_fits := ok_Fitting_fits (P := P) (w := w) (base := base) T st
  refine T.FFitting_all_fit.ok scFitting_all_fit (fun vs H Q E h => ?_) (fun cdv A outer s H vs Q E hr h => ?_)
  · obtain ⟨f, lb, A, R, p, i, os, o, rfl, _⟩ := h
    rfl
  obtain ⟨f, lb, A0, R, p, i, os, o, rfl, hF, hG, hos, ho, qq⟩ := h
  have hpl := (List.getElem?_eq_some_iff.mp hos).1
  obtain ⟨⟨dx, v, t, g, ef, b0, xs, rfl, e0, hxs⟩, _⟩ := id hF
  obtain ⟨x, hx, b1, ys, rfl, e1, hys⟩ := hxs.at hos
  obtain ⟨y, hy, bo, rfl, eo⟩ := hys.at ho
  have hoG := (hG.2 os (List.mem_of_getElem? hos)).2 o (List.mem_of_getElem? ho)
  refine ⟨_, (pss_cons (ps_for  PassesOwn.never rfl (pi_tup (pe_ix ix_tup (pe_ix ix_tup (pe_fld (pv 0) rfl) (pv 1) (fun _ _ => rfl)) (pv 2) (fun _ _ => rfl))) (pg_name (i := 3) scFitting_all_fit.nd rfl (Or.inl rfl))
    (pss_one (ps_if (pt_not (pt_val (pe_meth (pv 0) T.cl_Fitting T.mFitting_fits GFitting_fits (hr.mono (by omega)) T.bFitting_fits .nil pass0 (pa_cons (pv 1) (pa_cons (pv 2) (pa_cons (pv 3) pa_nil))))))
    (pss_one (ps_ret pe_bl))
    pss_nil)))
    (pss_one (ps_ret pe_bl))), ?_⟩
  refine ⟨_, rfl, f, _, dx, _, _, rfl, ef, T.cl_Fitting, T.na_Fitting_arena, ff_arena, _, rfl, b0, _, _, _, rfl, rfl, sqt e0, atI_nat hx, _, rfl, b1, _, _, _, rfl, rfl, sqt e1, atI_nat hy, bo, rfl, ⟨_, sqt eo⟩, ?_⟩
  refine for_tup (K := K) (a := bo) (xs := o.map V.int) (fun (j : Nat) (σ : L2.St) (H' : Hp) => ∃ y3 : Option V, σ = [some (.ref f), some (.int p), some (.int i), y3] ∧ Same H H' ∧ (o.take j).all (fitB st R p) = true) ?_ ?_ ?_ ?_
  · exact ⟨_, rfl, Same.refl _, rfl⟩
  · rintro j σ H' _ ⟨y3, rfl, s1, _⟩
    exact sqt (s1 _ _ eo)
  · rintro j x σ H1 hx ⟨y3, rfl, s1, hall⟩
    rw [List.getElem?_map] at hx
    obtain ⟨c, hc, rfl⟩ := Option.map_eq_some_iff.mp hx
    have hcm := hoG.mem c (List.mem_of_getElem? hc)
    refine ⟨_, rfl, f, dx, _, rfl, s1 _ _ ef, ff_fits, _, rfl, _, rfl, _, rfl, f, lb, A0, R, p, i, c, rfl, hF.same s1, by omega, by omega, hcm.1, hcm.2, fun H2 s2 => ⟨_, rfl, ?_⟩⟩
    cases hfit : fitB st R p c with
    | true =>
      refine ifF rfl ⟨_, rfl, s1.trans s2, ?_⟩
      rw [List.take_add_one, hc, List.all_append, hall]
      show (true && (fitB st R p c && true)) = true
      rw [hfit]
      rfl
    | false =>
      refine ifT rfl (boolE ?_ (qq H2 (s1.trans s2)))
      exact (List.all_eq_false.mpr ⟨c, List.mem_of_getElem? hc, by rw [hfit]; exact Bool.false_ne_true⟩).symm
  · rintro σ H1 ⟨y3, rfl, s1, hall⟩
    rw [List.length_map, List.take_length] at hall
    exact boolE hall.symm (qq H1 s1)
end
end NL

set_option maxHeartbeats 4000000
namespace NL
open PySem PySem.Spec PyProof.Rows L2
def rpF (R : Int → Option Nat) (p : Int) (o : Opt) : Int := (o.filter (fitB false R p)).headD 0
theorem rpF_in {R : Int → Option Nat} {p : Int} {o : Opt} (h : ∃ q ∈ o, fitB false R p q = true) : rpF R p o ∈ o ∧ fitB false R p (rpF R p o) = true := by
  obtain ⟨q, hq, hf⟩ := h
  have hm : q ∈ o.filter (fitB false R p) := List.mem_filter.mpr ⟨hq, hf⟩
  unfold rpF
  cases hl : o.filter (fitB false R p) with
  | nil => rw [hl] at hm; cases hm
  | cons a r =>
    have : a ∈ o.filter (fitB false R p) := by rw [hl]; exact List.mem_cons_self ..
    exact List.mem_filter.mp this
/-- the first option whose successors all fit -/
def IsIx (st : Bool) (R : Int → Option Nat) (p : Int) (os : Pos') (i : Nat) : Prop := (∃ o, os[i]? = some o ∧ o.all (fitB st R p) = true) ∧ ∀ j, j < i → ∀ o, os[j]? = some o → o.all (fitB st R p) = false
def rkI (R : Int → Option Nat) (q : Int) : Int := ((R q).getD 0 : Nat)
/-- the reply within an option -/
def IsRp (st : Bool) (R : Int → Option Nat) (p : Int) (o : Opt) (z : Int) : Prop := z ∈ o ∧ fitB st R p z = true ∧ (st = false → z = rpF R p o) ∧ (st = true → (-1 ∈ o → z = -1) ∧ (z ≠ -1 → ∀ q ∈ o, fitB st R p q = true → plt (rkI R q, q) (rkI R z, z) = false))
def PickG (st : Bool) (H : Hp) (os : Pos') (R : Int → Option Nat) (p : Int) (v : V) : Prop := if ((R p).isSome != st) = true then (if R p = some 0 then v = .int (-1) else ∃ i : Nat, v = .int i ∧ IsIx st R p os i)
  else ∃ (c : Addr) (zs : List Int), v = .ref c ∧ H c = some (.tup (zs.map V.int)) ∧ (if R p = some 0 then zs = [] else zs.length = os.length ∧ ∀ (i : Nat) o z, os[i]? = some o → zs[i]? = some z → IsRp st R p o z)
theorem PickG.tp {st : Bool} {H H' : Hp} {os : Pos'} {R : Int → Option Nat} {p : Int} {v : V} (t : Tp H H') (h : PickG st H os R p v) : PickG st H' os R p v := by
  unfold PickG at h ⊢
  split
  · rename_i e
    rw [if_pos e] at h
    exact h
  · rename_i e
    rw [if_neg e] at h
    obtain ⟨c, zs, h1, h2, h3⟩ := h
    exact ⟨c, zs, h1, t _ _ h2, h3⟩
theorem head_out {o : Opt} {n : Int} (h : OptG n o) (hm : (-1 : Int) ∈ o) : ∃ r, o = -1 :: r := by
  cases o with
  | nil => cases hm
  | cons a r =>
    have ha := (h.mem a (List.mem_cons_self ..)).1
    rcases List.mem_cons.mp hm with e | e
    · exact ⟨r, by rw [← e]⟩
    · have := List.rel_of_pairwise_cons h.asc e
      omega
section
variable {P : Program} {w : World} {K : PySem.W.Frag} {mg : Str → Option Value} {base : Heap}
/-! ### _option -/
def spOption (C : Addr) (st : Bool) : Sp := fun vs H Q _ => ∃ (f lb : Addr) (A : Ar) (R : Int → Option Nat) (p : Nat) (os : Pos'), vs = [.ref f, .int p] ∧ FitAt C st H f A R lb ∧ ArG A ∧ A[p]? = some os ∧ (∃ o ∈ os, o.all (fitB st R p) = true) ∧ ∀ (i : Nat) H', Same H H' → IsIx st R p os i → Q (.int i) H'
theorem ok_option (T : Txt K mg) (st : Bool) : FnOk P w K mg base CX0 4 T.a_option T.d_option P_option (spOption T.C_Fitting st) := by
  have GFitting_all_fit := ok_Fitting_all_fit (P := P) (w := w) (base := base) T st
  refine T.F_option.ok sc_option (fun vs H Q E h => ?_) (fun cdv A outer s H vs Q E hr h => ?_)
  · obtain ⟨f, lb, A, R, p, os, rfl, _⟩ := h
    rfl
  obtain ⟨f, lb, A0, R, p, os, rfl, hF, hG, hos, hex, qq⟩ := h
  refine ⟨_, (pss_cons (ps_set (i := 2) sc_option.nd rfl (Or.inl rfl) pe_int)
    (pss_cons (ps_while PassesOwn.never (pt_not (pt_val (pe_meth (pv 0) T.cl_Fitting T.mFitting_all_fit GFitting_all_fit (hr.mono (by omega)) T.bFitting_all_fit .nil pass0 (pa_cons (pv 1) (pa_cons (pv 2) pa_nil)))))
    (pss_one (ps_aug (i := 2) sc_option.nd rfl (Or.inl rfl) pe_int ip_add)))
    (pss_one (ps_ret (pv 2))))), ?_⟩
  have later : ∀ i : Nat, (∀ j, j < i → ∀ o, os[j]? = some o → o.all (fitB st R p) = false) → i < os.length := fun i hno => by
    obtain ⟨o, ho, hall⟩ := hex
    obtain ⟨k, hk⟩ := List.getElem?_of_mem ho
    have hkl := (List.getElem?_eq_some_iff.mp hk).1
    rcases Nat.lt_or_ge k i with h | h
    · rw [hno k h o hk] at hall
      cases hall
    · omega
  refine ⟨fun m σ H' => ∃ i : Nat, σ = [some (.ref f), some (.int p), some (.int i)] ∧ Same H H' ∧ (∀ j, j < i → ∀ o, os[j]? = some o → o.all (fitB st R p) = false) ∧ m = os.length - i, ⟨_, 0, rfl, Same.refl _, fun j hj => absurd hj (Nat.not_lt_zero j), rfl⟩, ?_⟩
  rintro m σ H1 ⟨i, rfl, s1, hno, hm⟩
  have hil := later i hno
  have ho := List.getElem?_eq_getElem hil
  generalize os[i] = o at ho
  obtain ⟨⟨dx, v, t, g, ef, _⟩, _⟩ := hF.same s1
  refine ⟨_, rfl, f, dx, _, rfl, ef, ff_all_fit, _, rfl, _, rfl, f, lb, A0, R, p, i, os, o, rfl, hF.same s1, hG, hos, ho, fun H2 s2 => ⟨_, rfl, ?_⟩⟩
  cases hall : o.all (fitB st R p) with
  | true =>
    refine ifF rfl ⟨_, rfl, qq i H2 (s1.trans s2) ⟨⟨o, ho, hall⟩, hno⟩⟩
  | false =>
    refine ifT rfl ?_
    refine ⟨fun σ' H' => ∃ i2 : Nat, σ' = [some (.ref f), some (.int p), some (.int i2)] ∧ Same H H' ∧ (∀ j, j < i2 → ∀ o, os[j]? = some o → o.all (fitB st R p) = false) ∧ i2 = i + 1, fun σ' H' ⟨i2, e1, e2, e3, e4⟩ => ⟨os.length - i2, by omega, i2, e1, e2, e3, rfl⟩, ?_⟩
    refine ⟨_, rfl, _, _, rfl, rfl, i + 1, rfl, s1.trans s2, fun j hj o' ho' => ?_, rfl⟩
    by_cases h : j < i
    · exact hno j h o' ho'
    · have : j = i := by omega
      subst this
      rw [ho] at ho'
      cases ho'
      exact hall
/-! ### _reply -/
def spReply (C : Addr) (st : Bool) : Sp := fun vs H Q _ => ∃ (f lb : Addr) (A : Ar) (R : Int → Option Nat) (p i : Nat) (os : Pos') (o : Opt), vs = [.ref f, .int p, .int i] ∧ FitAt C st H f A R lb ∧ ArG A ∧ A[p]? = some os ∧ os[i]? = some o ∧ ((R p).isSome = st) ∧ (∃ q ∈ o, fitB st R p q = true) ∧ ∀ z H', Same H H' → IsRp st R p o z → Q (.int z) H'
theorem ok_reply (T : Txt K mg) (st : Bool) : FnOk P w K mg base CX0 3 T.a_reply T.d_reply P_reply (spReply T.C_Fitting st) := by
  have GFitting_fits := ok_Fitting_fits (P := P) (w := w) (base := base) T st
  refine T.F_reply.ok sc_reply (fun vs H Q E h => ?_) (fun cdv A outer s H vs Q E hr h => ?_)
  · obtain ⟨f, lb, A, R, p, i, os, o, rfl, _⟩ := h
    rfl
  obtain ⟨f, lb, A0, R, p, i, os, o, rfl, hF, hG, hos, ho, hst, hex, qq⟩ := h
  have hpl := (List.getElem?_eq_some_iff.mp hos).1
  obtain ⟨⟨dx, v, t, g, ef, b0, xs, rfl, e0, hxs⟩, _⟩ := id hF
  obtain ⟨x, hx, b1, ys, rfl, e1, hys⟩ := hxs.at hos
  obtain ⟨y, hy, bo, rfl, eo⟩ := hys.at ho
  have hoG := (hG.2 os (List.mem_of_getElem? hos)).2 o (List.mem_of_getElem? ho)
  have hlen := hoG.len
  refine ⟨_, (pss_cons (ps_setLc (i := 3) (own := [("after", 4)]) (g := (gName 4)) (tt := _) rfl sc_reply.nd rfl rfl (sw_true rfl rfl rfl (by decide +kernel)) (pi_tup (pe_ix ix_tup (pe_ix ix_tup (pe_fld (pv 0) rfl) (pv 1) (fun _ _ => rfl)) (pv 2) (fun _ _ => rfl))) (blkOk_by (N := N_reply) (sc := defScope s_reply) (by decide +kernel)) (fun _ _ _ _ _ => (pg_name (i := 4) sc_reply.nd rfl (Or.inl rfl))) (fun _ _ _ _ _ => (pts_one (pt_val (pe_meth (pv 0) T.cl_Fitting T.mFitting_fits GFitting_fits (hr.mono (by omega)) T.bFitting_fits .nil pass0 (pa_cons (pv 1) (pa_cons (pv 2) (pa_cons (pv 4) pa_nil))))))) (fun _ _ _ _ _ => (pv 4)))
    (pss_cons (ps_if (PW.pt (pw_and (pt_cmpR op_eq (pe_ix ix_tup (pe_ix ix_list (pe_fld (pv 0) rfl) (pv 1) (fun _ _ => rfl)) pe_int (fun _ _ => rfl)) pe_str (nomark _)) (pw_and1 (pt_cmpR op_ne (pe_ix ix_list (pv 3) pe_int (fun _ _ => rfl)) (pe_un un_neg pe_int) (nomark _)))))
    (pss_one (ps_ret (pe_ix ix_tup (pe_callB (cr_minP rfl (hu_of hr)) (by rfl) T.z_min (by decide +kernel) (pa_cons (pe_lc (own := [("after", 4)]) (g := (gName 4)) (tt := tYes) rfl sc_reply.nd (pi_list (pv 3)) (blkOk_by (N := N_reply) (sc := defScope s_reply) (by decide +kernel)) (fun _ _ _ _ _ => (pg_name (i := 4) sc_reply.nd rfl (Or.inl rfl))) (fun _ _ _ _ _ => pts_nil) (fun _ _ _ _ _ => (pe_tup (pa_cons (pe_ix (ix_tupK (K := K) rfl) (pe_ix (ix_listK (K := K) rfl) (pe_fldK (K := K) rfl (pv 0) rfl) (pv 4) (fun _ _ => rfl)) pe_int (fun _ _ => rfl)) (pa_cons (pv 4) pa_nil))))) pa_nil)) pe_int (fun _ _ => rfl))))
    pss_nil)
    (pss_one (ps_ret (pe_ix ix_list (pv 3) pe_int (fun _ _ => rfl)))))), ?_⟩
  refine ⟨_, rfl, f, _, dx, _, _, rfl, ef, T.cl_Fitting, T.na_Fitting_arena, ff_arena, _, rfl, b0, _, _, _, rfl, rfl, sqt e0, atI_nat hx, _, rfl, b1, _, _, _, rfl, rfl, sqt e1, atI_nat hy, bo, rfl, ⟨_, sqt eo⟩, fun L hL => ?_⟩
  refine lc_tup (K := K) (a := bo) (xs := o.map V.int) (fun (j : Nat) (H' : Hp) => Same H H' ∧ H' L = some (.lst (((o.take j).filter (fitB st R p)).map V.int))) ?_ ?_ ?_ ?_
  · exact ⟨same_new hL _, upd_same⟩
  · rintro j H' _ ⟨s1, _⟩
    exact sqt (s1 _ _ eo)
  · rintro j x H1 hx ⟨s1, k1⟩
    rw [List.getElem?_map] at hx
    obtain ⟨c, hc, rfl⟩ := Option.map_eq_some_iff.mp hx
    have hcm := hoG.mem c (List.mem_of_getElem? hc)
    have hfl := List.length_filter_le (fitB st R p) (o.take j)
    rw [List.length_take] at hfl
    have hnx : (o.take (j + 1)).filter (fitB st R p) = (o.take j).filter (fitB st R p) ++ (if fitB st R p c = true then [c] else []) := by
      rw [List.take_add_one, hc, List.filter_append]
      congr 1
      rw [Option.toList_some, List.filter_cons]
      cases (fitB st R p c) <;> rfl
    refine ⟨rfl, ?_⟩
    refine ⟨_, rfl, f, dx, _, rfl, s1 _ _ ef, ff_fits, _, rfl, _, rfl, _, rfl, f, lb, A0, R, p, i, c, rfl, hF.same s1, by omega, by omega, hcm.1, hcm.2, fun H2 s2 => ⟨_, rfl, ?_⟩⟩
    cases hfit : fitB st R p c with
    | true =>
      refine iteT ⟨_, rfl, _, s2 _ _ k1, big' (by rw [List.length_map]; omega), same_put (s1.trans s2) hL, ?_⟩
      rw [upd_same, hnx, hfit, if_pos rfl, List.map_append]
      rfl
    | false =>
      refine iteF ⟨s1.trans s2, ?_⟩
      rw [hnx, hfit, if_neg Bool.false_ne_true, List.append_nil]
      exact s2 _ _ k1
  · rintro H1 ⟨s1, k1⟩
    rw [List.length_map, List.take_length] at k1
    obtain ⟨ds, t1, el, hat1, et1⟩ := (hF.same s1).at (p := (p : Int)) (by omega) (by omega)
    obtain ⟨q, hq, hf⟩ := hex
    have hm : q ∈ o.filter (fitB st R p) := List.mem_filter.mpr ⟨hq, hf⟩
    have hr0 : rpF R p o = (o.filter (fitB false R p)).headD 0 := rfl
    refine ⟨_, rfl, f, _, dx, _, _, rfl, s1 _ _ ef, T.cl_Fitting, T.na_Fitting_labels, ff_labels, _, rfl, lb, _, _, _, rfl, rfl, sqd el, hat1, ?_⟩
    cases st with
    | false =>
      have hRn : R p = none := by
        cases hR : R p with
        | none => rfl
        | some r => rw [hR] at hst; cases hst
      rw [hRn] at et1
      refine ⟨t1, _, _, _, rfl, rfl, sqt et1, atI0, rfl, _, rfl, ?_⟩
      refine ifF (by decide) (iteF ?_)
      cases hl : o.filter (fitB false R p) with
      | nil => rw [hl] at hm; cases hm
      | cons a r =>
        rw [hl] at k1 hr0
        have ha : a ∈ o.filter (fitB false R p) := by rw [hl]; exact List.mem_cons_self ..
        obtain ⟨ha1, ha2⟩ := List.mem_filter.mp ha
        exact ⟨_, rfl, L, _, _, _, rfl, rfl, sqd k1, atI0, qq a H1 s1 ⟨ha1, ha2, fun _ => hr0.symm, fun e => (nomatch e)⟩⟩
    | true =>
      obtain ⟨rk, hRs⟩ : ∃ rk, R p = some rk := by
        cases hR : R p with
        | none => rw [hR] at hst; cases hst
        | some r => exact ⟨r, rfl⟩
      rw [hRs] at et1
      refine ⟨t1, _, _, _, rfl, rfl, sqt et1, atI0, rfl, _, rfl, ?_⟩
      refine ifT (by decide) ?_
      cases hl : o.filter (fitB true R p) with
      | nil => rw [hl] at hm; cases hm
      | cons a r =>
        rw [hl] at k1
        have ha : a ∈ o.filter (fitB true R p) := by rw [hl]; exact List.mem_cons_self ..
        obtain ⟨ha1, ha2⟩ := List.mem_filter.mp ha
        refine ⟨_, rfl, L, _, _, _, rfl, rfl, sqd k1, atI0, _, rfl, rfl, _, rfl, ?_⟩
        by_cases ha0 : a = -1
        · refine ifF (by rw [ha0] <;> rfl) ?_
          refine ⟨_, rfl, L, _, _, _, rfl, rfl, sqd k1, atI0, qq a H1 s1 ⟨ha1, ha2, fun e => (nomatch e), fun _ => ⟨fun _ => ha0, fun e => absurd ha0 e⟩⟩⟩
        · refine ifT (by rw [decide_eq_false (fun e => ha0 (V.int.inj e))] <;> rfl) ?_
          have hno : (-1 : Int) ∉ o := fun hout => by
            obtain ⟨r', e⟩ := head_out hoG hout
            have hfo : fitB true R p (-1) = true := by
              unfold fitB
              rw [if_pos rfl, hRs]
              rfl
            rw [e, List.filter_cons, hfo, if_pos rfl] at hl
            injection hl with h1 _
            exact ha0 h1.symm
          refine ⟨_, rfl, L, rfl, ⟨_, sqd k1⟩, fun M hM => ?_⟩
          have hall : ∀ z ∈ a :: r, z ∈ o ∧ fitB true R p z = true ∧ z ≠ -1 := fun z hz => by
            rw [← hl] at hz
            obtain ⟨h1, h2⟩ := List.mem_filter.mp hz
            exact ⟨h1, h2, fun e => hno (e ▸ h1)⟩
          have hrl : (a :: r).length ≤ o.length := by
            rw [← hl]
            exact List.length_filter_le _ _
          refine lc_list (K := K) (a := L) (xs := (a :: r).map V.int) (fun (j : Nat) (H' : Hp) => Same H1 H' ∧ ∃ ts : List Addr, H' M = some (.lst (ts.map V.ref)) ∧ ts.length = j ∧ ∀ (i : Nat) tt z, ts[i]? = some tt → (a :: r)[i]? = some z → H' tt = some (.tup ([rkI R z, z].map V.int))) ?_ ?_ ?_ ?_
          · exact ⟨same_new hM _, [], upd_same, rfl, fun i tt z h => nomatch h⟩
          · rintro j H' _ ⟨s2, _⟩
            exact sqd (s2 _ _ k1)
          · rintro j x H2 hx ⟨s2, ts, k2, htl, hts⟩
            rw [List.getElem?_map] at hx
            obtain ⟨c, hc, rfl⟩ := Option.map_eq_some_iff.mp hx
            have hjl := (List.getElem?_eq_some_iff.mp hc).1
            obtain ⟨hc1, hc2, hc3⟩ := hall c (List.mem_of_getElem? hc)
            have hcm := hoG.mem c hc1
            obtain ⟨ds2, t2, el2, hat2, et2⟩ := (hF.same (s1.trans s2)).at (p := c) (by omega) hcm.2
            obtain ⟨b, hRc⟩ : ∃ b, R c = some b := by
              unfold fitB at hc2
              rw [if_neg hc3, hRs] at hc2
              cases hb : R c with
              | none => rw [hb] at hc2; cases hc2
              | some b => exact ⟨b, rfl⟩
            rw [hRc] at et2
            refine ⟨rfl, yes_if ?_⟩
            refine ⟨_, rfl, f, _, dx, _, _, rfl, (s1.trans s2) _ _ ef, T.cl_Fitting, T.na_Fitting_labels, ff_labels, _, rfl, lb, _, _, _, rfl, rfl, sqd el2, hat2, t2, _, _, _, rfl, rfl, sqt et2, atI1, _, rfl, Nat.le_of_ble_eq_true rfl, fun tn htn => ?_⟩
            obtain ⟨H3, e3, s3, k3⟩ := newH htn (.tup [V.int (b : Nat), V.int c])
            rw [e3]
            have k23 := s3 _ _ k2
            refine ⟨_, k23, big' (by rw [List.length_map]; omega), same_put (s2.trans s3) hM, ts ++ [tn], by rw [upd_same, List.map_append]; rfl, by rw [List.length_append, htl]; rfl, fun i tt z hi hz => ?_⟩
            have hup : ∀ aa oo, H3 aa = some oo → aa ≠ M → upd H3 M (.lst (ts.map V.ref ++ [V.ref tn])) aa = some oo := fun aa oo e hne => by rw [upd_ne hne]; exact e
            by_cases hij : i < j
            · rw [List.getElem?_append_left (by omega)] at hi
              have h4 := s3 _ _ (hts i tt z hi hz)
              exact hup _ _ h4 (fun e => by rw [e, k23] at h4; cases h4)
            · have hij2 : i = j := by
                have := (List.getElem?_eq_some_iff.mp hi).1
                rw [List.length_append, htl] at this
                have h1 : [tn].length = 1 := rfl
                omega
              subst hij2
              rw [List.getElem?_append_right (by omega), htl, Nat.sub_self] at hi
              cases hi
              rw [hc] at hz
              cases hz
              refine hup _ _ ?_ (fun e => by rw [e, k23] at k3; cases k3)
              rw [k3]
              unfold rkI
              rw [hRc]
              rfl
          · rintro H2 ⟨s2, ts, k2, htl, hts⟩
            rw [List.length_map] at htl
            refine ⟨M, ts, (a :: r).map fun z => (rkI R z, z), rfl, sqd k2, by rw [List.length_map, htl], by rw [List.length_map]; exact Nat.succ_pos _, fun i tt pp hi hpp => ?_, fun i tt pp hi hpp hmin => ?_⟩
            · rw [List.getElem?_map] at hpp
              obtain ⟨z, hz, rfl⟩ := Option.map_eq_some_iff.mp hpp
              exact sqt (hts i tt z hi hz)
            · rw [List.getElem?_map] at hpp
              obtain ⟨z, hz, rfl⟩ := Option.map_eq_some_iff.mp hpp
              have hzz := hts i tt z hi hz
              obtain ⟨hz1, hz2, hz3⟩ := hall z (List.mem_of_getElem? hz)
              refine ⟨tt, _, _, _, rfl, rfl, sqt hzz, atI1, qq z H2 (s1.trans s2) ⟨hz1, hz2, fun e => (nomatch e), fun _ => ⟨fun h => absurd h hno, fun _ q hq hfq => ?_⟩⟩⟩
              refine hmin _ (List.mem_map_of_mem ?_)
              rw [← hl]
              exact List.mem_filter.mpr ⟨hq, hfq⟩
/-! ### _pick -/
def spPick (C : Addr) (st : Bool) : Sp := fun vs H Q _ => ∃ (f lb : Addr) (A : Ar) (R : Int → Option Nat) (p : Nat) (os : Pos'), vs = [.ref f, .int p] ∧ FitAt C st H f A R lb ∧ ArG A ∧ A[p]? = some os ∧ (((R p).isSome = st) → R p ≠ some 0 → ∀ o ∈ os, ∃ q ∈ o, fitB st R p q = true) ∧ (((R p).isSome = !st) → R p ≠ some 0 → ∃ o ∈ os, o.all (fitB st R p) = true) ∧
  ∀ v H', Same H H' → PickG st H' os R p v → Q v H'
theorem ok_pick (T : Txt K mg) (st : Bool) : FnOk P w K mg base CX0 5 T.a_pick T.d_pick P_pick (spPick T.C_Fitting st) := by
  have Ghas_option := ok_has_option (P := P) (w := w) (base := base) T
  have Gis_end := ok_is_end (P := P) (w := w) (base := base) T st
  have G_option := ok_option (P := P) (w := w) (base := base) T st
  have G_reply := ok_reply (P := P) (w := w) (base := base) T st
  refine T.F_pick.ok sc_pick (fun vs H Q E h => ?_) (fun cdv A outer s H vs Q E hr h => ?_)
  · obtain ⟨f, lb, A, R, p, os, rfl, _⟩ := h
    rfl
  obtain ⟨f, lb, A0, R, p, os, rfl, hF, hG, hos, hno, hso, qq⟩ := h
  have hpl := (List.getElem?_eq_some_iff.mp hos).1
  obtain ⟨⟨dx, v, t, g, ef, b0, xs, rfl, e0, hxs⟩, _⟩ := id hF
  obtain ⟨x, hx, b1, ys, rfl, e1, hys⟩ := hxs.at hos
  have hyl := hys.1
  obtain ⟨ds, t1, el, hat1, et1⟩ := hF.at (p := (p : Int)) (by omega) (by omega)
  have hosG := hG.2 os (List.mem_of_getElem? hos)
  have hol := hosG.1
  refine ⟨_, (pss_cons (ps_set (i := 2) sc_pick.nd rfl (Or.inl rfl) (pe_ix ix_list (pe_fld (pv 0) rfl) (pv 1) (fun _ _ => rfl)))
    (pss_cons (ps_set (i := 3) sc_pick.nd rfl (Or.inl rfl) (pe_ix ix_tup (pe_fld (pv 0) rfl) (pv 1) (fun _ _ => rfl)))
    (pss_cons (ps_if (pt_val (pe_call Ghas_option (hr.mono (by omega)) (by rfl) T.mhas_option T.Fhas_option.kp T.bhas_option .nil pass0 (pa_cons (pv 2) pa_nil)))
    (pss_one (ps_ret (pe_ifExp (pt_val (pe_call Gis_end (hr.mono (by omega)) (by rfl) T.mis_end T.Fis_end.kp T.bis_end .nil pass0 (pa_cons (pv 2) pa_nil))) (pe_un un_neg pe_int) (pe_call G_option (hr.mono (by omega)) (by rfl) T.m_option T.F_option.kp T.b_option .nil pass0 (pa_cons (pv 0) (pa_cons (pv 1) pa_nil))))))
    pss_nil)
    (pss_one (ps_ret (pe_ifExp (pt_val (pe_call Gis_end (hr.mono (by omega)) (by rfl) T.mis_end T.Fis_end.kp T.bis_end .nil pass0 (pa_cons (pv 2) pa_nil))) (pe_tup pa_nil) (pe_callTy call_tuple_of (by rfl) T.z_tuple (by decide +kernel) (pa_cons (pe_lc (own := [("index", 4)]) (g := (gName 4)) (tt := tYes) rfl sc_pick.nd (pi_range1 (by rfl) T.z_range (pa_cons (pe_callB call_len_seq (by rfl) T.z_len PySem.boot_len (pa_cons (pv 3) pa_nil)) pa_nil)) (blkOk_by (N := N_pick) (sc := defScope s_pick) (by decide +kernel)) (fun _ _ _ _ _ => (pg_name (i := 4) sc_pick.nd rfl (Or.inl rfl))) (fun _ _ _ _ _ => pts_nil) (fun _ _ _ _ _ => (pe_call G_reply (hr.mono (by omega)) (by rfl) T.m_reply T.F_reply.kp T.b_reply .nil pass0 (pa_cons (pv 0) (pa_cons (pv 1) (pa_cons (pv 4) pa_nil)))))) pa_nil)))))))), ?_⟩
  refine ⟨_, rfl, f, _, dx, _, _, rfl, ef, T.cl_Fitting, T.na_Fitting_labels, ff_labels, _, rfl, lb, _, _, _, rfl, rfl, sqd el, hat1, ?_⟩
  refine ⟨_, rfl, f, _, dx, _, _, rfl, ef, T.cl_Fitting, T.na_Fitting_arena, ff_arena, _, rfl, b0, _, _, _, rfl, rfl, sqt e0, atI_nat hx, ?_⟩
  obtain ⟨s0, tl, hs1, hs2⟩ := has_lb st (R p)
  refine ⟨_, rfl, t1, s0, tl, rfl, by rw [et1, hs1], _, rfl, ?_⟩
  rw [hs2]
  cases hown : ((R p).isSome != st) with
  | false =>
    have hst : (R p).isSome = st := by
      cases h1 : (R p).isSome <;> cases st <;> rw [h1] at hown <;> first | rfl | cases hown
    refine ifF rfl ?_
    refine ⟨_, rfl, t1, R p, rfl, et1, fun H1 s1 => ⟨_, rfl, ?_⟩⟩
    by_cases hR0 : R p = some 0
    · refine ifT (decide_eq_true hR0) ?_
      refine ⟨Nat.zero_le _, fun te hte => ?_⟩
      refine qq _ _ (s1.trans (same_new hte _)) ?_
      unfold PickG
      rw [hown, if_neg Bool.false_ne_true]
      exact ⟨te, [], rfl, upd_same, by rw [if_pos hR0]⟩
    refine ifF (decide_eq_false hR0) ?_
    refine ⟨_, rfl, b1, _, rfl, .inr (sqt (s1 _ _ e1)), _, rfl, by omega, by omega, fun L hL => ?_⟩
    refine lc_range (lo := 0) (n := ((ys.length : Nat) : Int).toNat) (fun (j : Nat) (H' : Hp) => Same H1 H' ∧ ∃ zs : List Int, H' L = some (.lst (zs.map V.int)) ∧ zs.length = j ∧ ∀ (i : Nat) o z, os[i]? = some o → zs[i]? = some z → IsRp st R p o z) ?_ ?_ ?_
    · exact ⟨same_new hL _, [], upd_same, rfl, fun i o z _ h => nomatch h⟩
    · rintro j H2 hj ⟨s2, zs, k2, hzl, hzs⟩
      have hjo : j < os.length := by omega
      have ho := List.getElem?_eq_getElem hjo
      generalize os[j] = o at ho
      refine ⟨rfl, yes_if ?_⟩
      refine ⟨_, rfl, _, rfl, _, rfl, f, lb, A0, R, p, j, os, o, by rw [Int.zero_add]; rfl, hF.same (s1.trans s2), hG, hos, ho, hst, hno hst hR0 o (List.mem_of_getElem? ho), fun z H3 s3 hz => ?_⟩
      refine ⟨_, s3 _ _ k2, big' (by rw [List.length_map]; omega), same_put (s2.trans s3) hL, zs ++ [z], by rw [upd_same, List.map_append]; rfl, by rw [List.length_append, hzl]; rfl, fun i o' z' hi hz' => ?_⟩
      by_cases hij : i < j
      · rw [List.getElem?_append_left (by omega)] at hz'
        exact hzs i o' z' hi hz'
      · have hij2 : i = j := by
          have := (List.getElem?_eq_some_iff.mp hz').1
          rw [List.length_append, hzl] at this
          have h1 : [z].length = 1 := rfl
          omega
        subst hij2
        rw [List.getElem?_append_right (by omega), hzl, Nat.sub_self] at hz'
        cases hz'
        rw [ho] at hi
        cases hi
        exact hz
    · rintro H2 ⟨s2, zs, k2, hzl, hzs⟩
      refine ⟨L, _, rfl, .inl ⟨sqd k2, fun tt htt => ?_⟩⟩
      refine qq _ _ ((s1.trans s2).trans (same_new htt _)) ?_
      unfold PickG
      rw [hown, if_neg Bool.false_ne_true]
      exact ⟨tt, zs, rfl, upd_same, by rw [if_neg hR0]; exact ⟨by omega, hzs⟩⟩
  | true =>
    have hst : (R p).isSome = !st := by
      cases h1 : (R p).isSome <;> cases st <;> rw [h1] at hown <;> first | rfl | cases hown
    refine ifT rfl ?_
    refine ⟨_, rfl, t1, R p, rfl, et1, fun H1 s1 => ⟨_, rfl, ?_⟩⟩
    by_cases hR0 : R p = some 0
    · refine ifT (decide_eq_true hR0) ?_
      refine ⟨_, rfl, qq _ _ s1 ?_⟩
      unfold PickG
      rw [hown, if_pos rfl, if_pos hR0]
    · refine ifF (decide_eq_false hR0) ?_
      refine ⟨_, rfl, _, rfl, f, lb, A0, R, p, os, rfl, hF.same s1, hG, hos, hso hst hR0, fun i H2 s2 hi => ?_⟩
      refine qq _ _ (s1.trans s2) ?_
      unfold PickG
      rw [hown, if_pos rfl, if_neg hR0]
      exact ⟨i, rfl, hi⟩
end
end NL

set_option maxHeartbeats 4000000
namespace NL
open PySem PySem.Spec PyProof.Rows L2
def sdV (b : Bool) : V := .str (if b = true then "controller" else "disturbance")
theorem come_no {A : Ar} {Kp : List Int} (hin : InA A A.length) {p : Nat} {os : Pos'} (hp : A[p]? = some os) (h : gR false A Kp p = none) : ∀ o ∈ os, ∃ q ∈ o, fitB false (gR false A Kp) p q = true := by
  intro o ho
  obtain ⟨J, hJ⟩ := rk_end (f := gF false A Kp) (fun k p e => gF_up k p e) A.length
  have hr := gR_is false A Kp p
  rw [h] at hr
  have h1 := hr (J + 1)
  rw [gF_s hp, Bool.or_eq_false_iff] at h1
  have h2 : os.any (fun o => o.all (gF false A Kp J)) = false := h1.2
  have h3 := List.any_eq_false.mp h2 o ho
  have h4 : o.all (gF false A Kp J) = false := by
    cases hz : o.all (gF false A Kp J) with
    | false => rfl
    | true => exact absurd hz h3
  obtain ⟨q, hq, hf⟩ := List.all_eq_false.mp h4
  refine ⟨q, hq, ?_⟩
  have hqm := hin os (List.mem_of_getElem? hp) o ho q hq
  by_cases hq1 : q = -1
  · rw [hq1]
    exact fit_out h
  · refine fit_none h ?_ hq1
    have hrq := gR_is false A Kp q
    cases hb : gR false A Kp q with
    | none => rfl
    | some b =>
      rw [hb] at hrq
      have := hJ q.toNat (by omega) b (by rw [show ((q.toNat : Nat) : Int) = q by omega]; exact hrq.1)
      rw [show ((q.toNat : Nat) : Int) = q by omega] at this
      exact absurd this hf
theorem come_yes {A : Ar} {Kp : List Int} {p : Nat} {os : Pos'} (hp : A[p]? = some os) {r : Nat} (h : gR false A Kp p = some (r + 1)) : ∃ o ∈ os, o.all (fitB false (gR false A Kp) p) = true := by
  have hr := gR_is false A Kp p
  rw [h] at hr
  have h1 := hr.1
  rw [gF_s hp, hr.2 r (Nat.lt_succ_self r), Bool.false_or] at h1
  have h2 : os.any (fun o => o.all (gF false A Kp r)) = true := h1
  obtain ⟨o, ho, hall⟩ := List.any_eq_true.mp h2
  refine ⟨o, ho, List.all_eq_true.mpr fun q hq => ?_⟩
  have hf := List.all_eq_true.mp hall q hq
  refine fit_some h (.inl fun e => ?_) hf
  rw [e, gF_out] at hf
  cases hf
theorem stay_yes {A : Ar} {Kp : List Int} (hin : InA A A.length) {p : Nat} {os : Pos'} (hp : A[p]? = some os) (h : gR true A Kp p = none) : ∃ o ∈ os, o.all (fitB true (gR true A Kp) p) = true := by
  obtain ⟨J, hJ⟩ := rk_end (f := gF true A Kp) (fun k p e => gF_up k p e) A.length
  have hr := gR_is true A Kp p
  rw [h] at hr
  have h1 := hr (J + 1)
  rw [gF_s hp, Bool.or_eq_false_iff] at h1
  have h2 : os.all (fun o => o.any (gF true A Kp J)) = false := h1.2
  obtain ⟨o, ho, hno⟩ := List.all_eq_false.mp h2
  refine ⟨o, ho, List.all_eq_true.mpr fun q hq => ?_⟩
  have hqm := hin os (List.mem_of_getElem? hp) o ho q hq
  have hf : gF true A Kp J q = false := by
    cases hf : gF true A Kp J q with
    | false => rfl
    | true => exact absurd (List.any_eq_true.mpr ⟨q, hq, hf⟩) hno
  have hq1 : q ≠ -1 := fun e => by
    rw [e, gF_out] at hf
    cases hf
  refine fit_none h ?_ hq1
  have hrq := gR_is true A Kp q
  cases hb : gR true A Kp q with
  | none => rfl
  | some b =>
    rw [hb] at hrq
    have := hJ q.toNat (by omega) b (by rw [show ((q.toNat : Nat) : Int) = q by omega]; exact hrq.1)
    rw [show ((q.toNat : Nat) : Int) = q by omega, hf] at this
    cases this
theorem stay_no {A : Ar} {Kp : List Int} {p : Nat} {os : Pos'} (hp : A[p]? = some os) {r : Nat} (h : gR true A Kp p = some (r + 1)) : ∀ o ∈ os, ∃ q ∈ o, fitB true (gR true A Kp) p q = true := by
  intro o ho
  have hr := gR_is true A Kp p
  rw [h] at hr
  have h1 := hr.1
  rw [gF_s hp, hr.2 r (Nat.lt_succ_self r), Bool.false_or] at h1
  have h2 : os.all (fun o => o.any (gF true A Kp r)) = true := h1
  obtain ⟨q, hq, hf⟩ := List.any_eq_true.mp (List.all_eq_true.mp h2 o ho)
  exact ⟨q, hq, fit_some h (.inr rfl) hf⟩
theorem pick_no {st : Bool} {A : Ar} {Kp : List Int} (hin : InA A A.length) {p : Nat} {os : Pos'} (hp : A[p]? = some os) (h : (gR st A Kp p).isSome = st) (h0 : gR st A Kp p ≠ some 0) : ∀ o ∈ os, ∃ q ∈ o, fitB st (gR st A Kp) p q = true := by
  cases st with
  | false =>
    refine come_no hin hp ?_
    cases hR : gR false A Kp p with
    | none => rfl
    | some r => rw [hR] at h; cases h
  | true =>
    cases hR : gR true A Kp p with
    | none => rw [hR] at h; cases h
    | some r =>
      cases r with
      | zero => exact absurd hR h0
      | succ r => exact stay_no hp hR
theorem pick_yes {st : Bool} {A : Ar} {Kp : List Int} (hin : InA A A.length) {p : Nat} {os : Pos'} (hp : A[p]? = some os) (h : (gR st A Kp p).isSome = !st) (h0 : gR st A Kp p ≠ some 0) : ∃ o ∈ os, o.all (fitB st (gR st A Kp) p) = true := by
  cases st with
  | true =>
    refine stay_yes hin hp ?_
    cases hR : gR true A Kp p with
    | none => rfl
    | some r => rw [hR] at h; cases h
  | false =>
    cases hR : gR false A Kp p with
    | none => rw [hR] at h; cases h
    | some r =>
      cases r with
      | zero => exact absurd hR h0
      | succ r => exact come_yes hp hR
/-- one label of a paper -/
def PapIn (st : Bool) (H : Hp) (os : Pos') (R : Int → Option Nat) (p : Int) (v : V) : Prop := ∃ b pk, v = .ref b ∧ H b = some (.tup (lbV st (R p) ++ [pk])) ∧ PickG st H os R p pk
theorem PapIn.tp {st : Bool} {H H' : Hp} {os : Pos'} {R : Int → Option Nat} {p : Int} {v : V} (t : Tp H H') (h : PapIn st H os R p v) : PapIn st H' os R p v := by
  obtain ⟨b, pk, h1, h2, h3⟩ := h
  exact ⟨b, pk, h1, t _ _ h2, h3.tp t⟩
/-- the paper, position by position -/
def PaperAt (st : Bool) (H : Hp) (A : Ar) (R : Int → Option Nat) (n : Nat) (ls : List V) : Prop := ls.length = n ∧ ∀ (k : Nat) os, k < n → A[k]? = some os → ∃ v, ls[k]? = some v ∧ PapIn st H os R (k : Int) v
theorem PaperAt.tp {st : Bool} {H H' : Hp} {A : Ar} {R : Int → Option Nat} {n : Nat} {ls : List V} (t : Tp H H') (h : PaperAt st H A R n ls) : PaperAt st H' A R n ls := ⟨h.1, fun k os hk ho => by
  obtain ⟨v, h1, h2⟩ := h.2 k os hk ho
  exact ⟨v, h1, h2.tp t⟩⟩
section
variable {P : Program} {w : World} {K : PySem.W.Frag} {mg : Str → Option Value} {base : Heap}
/-! ### _drafts -/
def goalW (st : Bool) : V := .str (if st = true then "stay" else "come")
def spDrafts (Pt : Addr) (st : Bool) : Sp := fun vs H Q _ => ∃ (v : V) (A : Ar) (g kp : Addr) (Kp : List Int), vs = [v, .ref g] ∧ ArIn H A v ∧ ArG A ∧ H g = some (.tup [goalW st, .ref kp]) ∧ H kp = some (.tup (Kp.map V.int)) ∧ GxR.TabG H Pt ∧
  ∀ p ds H', Sm Pt H H' → H' p = some (.lst ds) → Each (LabIn st H') ((List.range A.length).map fun k : Nat => gR st A Kp (k : Int)) ds → Q (.ref p) H'
theorem ok_drafts (T : Txt K mg) {c Pt : Addr} (TB : GxR.TabB base mg c Pt) (hc : T.dforces.code = .ref c) (st : Bool) : FnOk P w K mg base CX0 6 T.a_drafts T.d_drafts P_drafts (spDrafts Pt st) := by
  have Gcome_ranks := ok_come_ranks (P := P) (w := w) T TB hc
  have Gstay_ranks := ok_stay_ranks (P := P) (w := w) T TB hc
  have G_colour_drafts : FnOk P w K mg base CX0 1 T.a_colour_drafts T.d_colour_drafts P_colour_drafts (fun _ _ _ _ => False) := ⟨fun _ _ _ _ h => h.elim, fun A outer s H args us vs Q E _ _ _ _ h => h.elim⟩
  have G_tank_drafts : FnOk P w K mg base CX0 1 T.a_tank_drafts T.d_tank_drafts P_tank_drafts (fun _ _ _ _ => False) := ⟨fun _ _ _ _ h => h.elim, fun A outer s H args us vs Q E _ _ _ _ h => h.elim⟩
  refine T.F_drafts.ok sc_drafts (fun vs H Q E h => ?_) (fun cdv A outer s H vs Q E hr h => ?_)
  · obtain ⟨v, A, g, kp, Kp, rfl, _⟩ := h
    rfl
  obtain ⟨v, A0, g, kp, Kp, rfl, ⟨b0, xs, rfl, e0, hxs⟩, hG, eg, ek, hT, q⟩ := h
  have hxl := hxs.1
  have h46 := hG.1
  refine ⟨_, (pss_cons (ps_asg (pv 1) (pg_tup rfl (pgs_cons (pg_name (i := 2) sc_drafts.nd rfl (Or.inl rfl)) (pgs_cons (pg_name (i := 3) sc_drafts.nd rfl (Or.inl rfl)) pgs_nil))))
    (pss_cons (ps_if (pt_cmpR op_eq (pv 2) pe_str (nomark _))
    (pss_cons (ps_set (i := 4) sc_drafts.nd rfl (Or.inl rfl) (pe_call Gstay_ranks (hr.mono (by omega)) (by rfl) T.mstay_ranks T.Fstay_ranks.kp T.bstay_ranks .nil pass0 (pa_cons (pv 0) (pa_cons (pv 3) pa_nil))))
    (pss_one (ps_ret (pe_lc (own := [("rank", 5)]) (g := (gName 5)) (tt := tYes) rfl sc_drafts.nd (pi_list (pv 4)) (blkOk_by (N := N_drafts) (sc := defScope s_drafts) (by decide +kernel)) (fun _ _ _ _ _ => (pg_name (i := 5) sc_drafts.nd rfl (Or.inl rfl))) (fun _ _ _ _ _ => pts_nil) (fun _ _ _ _ _ => (pe_ifExp (pt_cmpR op_isN (pv 5) pe_non (nomark _)) (pe_tup (pa_cons pe_str pa_nil)) (pe_tup (pa_cons pe_str (pa_cons (pv 5) pa_nil)))))))))
    pss_nil)
    (pss_cons (ps_if (pt_cmpR op_eq (pv 2) pe_str (nomark _))
    (pss_cons (ps_set (i := 4) sc_drafts.nd rfl (Or.inl rfl) (pe_call Gcome_ranks (hr.mono (by omega)) (by rfl) T.mcome_ranks T.Fcome_ranks.kp T.bcome_ranks .nil pass0 (pa_cons (pv 0) (pa_cons (pv 3) pa_nil))))
    (pss_one (ps_ret (pe_lc (own := [("rank", 5)]) (g := (gName 5)) (tt := tYes) rfl sc_drafts.nd (pi_list (pv 4)) (blkOk_by (N := N_drafts) (sc := defScope s_drafts) (by decide +kernel)) (fun _ _ _ _ _ => (pg_name (i := 5) sc_drafts.nd rfl (Or.inl rfl))) (fun _ _ _ _ _ => pts_nil) (fun _ _ _ _ _ => (pe_ifExp (pt_cmpR op_isN (pv 5) pe_non (nomark _)) (pe_tup (pa_cons pe_str pa_nil)) (pe_tup (pa_cons pe_str (pa_cons (pv 5) pa_nil)))))))))
    pss_nil)
    (pss_cons (ps_if (pt_cmpR op_eq (pv 2) pe_str (nomark _))
    (pss_one (ps_ret (pe_call G_colour_drafts (hr.mono (by omega)) (by rfl) T.m_colour_drafts T.F_colour_drafts.kp T.b_colour_drafts .nil pass0 (pa_cons (pv 0) (pa_cons (pv 3) pa_nil)))))
    pss_nil)
    (pss_one (ps_ret (pe_call G_tank_drafts (hr.mono (by omega)) (by rfl) T.m_tank_drafts T.F_tank_drafts.kp T.b_tank_drafts .nil pass0 (pa_cons (pv 0) (pa_cons (pv 3) pa_nil))))))))), ?_⟩
  refine ⟨_, rfl, g, _, rfl, sqt eg, rfl, _, _, rfl, _, _, rfl, rfl, ?_⟩
  cases st with
  | false =>
    refine ⟨_, rfl, rfl, _, rfl, ifF (by decide) ?_⟩
    refine ⟨_, rfl, rfl, _, rfl, ?_⟩
    refine ifT (decide_eq_true rfl) ?_
    refine ⟨_, rfl, _, rfl, _, A0, kp, Kp, rfl, ⟨b0, xs, rfl, .inr e0, hxs⟩, by omega, hG.inA, ek, hT, fun rl rs H1 s1 hrl k1 hR => ?_⟩
    obtain ⟨hrsl, hrs⟩ := hR
    refine ⟨_, rfl, rl, rfl, ⟨_, sqd k1⟩, fun L hL => ?_⟩
    refine lc_list (K := K) (a := rl) (xs := rs) (fun (j : Nat) (H' : Hp) => Same H1 H' ∧ ∃ ds, H' L = some (.lst ds) ∧ Each (LabIn false H') ((List.range j).map fun k : Nat => gR false A0 Kp (k : Int)) ds) ?_ ?_ ?_ ?_
    · exact ⟨same_new hL _, [], upd_same, .nil⟩
    · rintro j H' _ ⟨s2, _⟩
      exact sqd (s2 _ _ k1)
    · rintro j x H2 hx ⟨s2, ds, k2, hds⟩
      have hj := (List.getElem?_eq_some_iff.mp hx).1
      obtain ⟨ro, hro, hro2⟩ := hrs j (by omega)
      rw [hx] at hro2
      obtain rfl := Option.some.inj hro2
      have hgr : gR false A0 Kp (j : Int) = ro := rkF_eq hro
      have hdl := hds.1
      rw [List.length_map, List.length_range] at hdl
      have fin : ∀ (u : V) (H7 : Hp), Same H2 H7 → LabIn false H7 (gR false A0 Kp (j : Int)) u → ∃ acc, H7 L = some (.lst acc) ∧ acc.length < sizeLine ∧ (Same H1 (upd H7 L (.lst (acc ++ [u]))) ∧ ∃ ds, (upd H7 L (.lst (acc ++ [u]))) L = some (.lst ds) ∧ Each (LabIn false (upd H7 L (.lst (acc ++ [u])))) ((List.range (j + 1)).map fun k : Nat => gR false A0 Kp (k : Int)) ds) := fun u H7 s7 hu => by
        have d7 := s7 _ _ k2
        refine ⟨ds, d7, big' (by omega), same_put (s2.trans s7) hL, _, upd_same, ?_⟩
        have tt : Tp H7 (upd H7 L (.lst (ds ++ [u]))) := tp_put Tp.refl d7
        rw [List.range_succ, List.map_append]
        exact (hds.mono fun o x => LabIn.tp ((Tp.same s7).trans tt)).snoc (hu.tp tt)
      refine ⟨rfl, yes_if ?_⟩
      refine ⟨_, rfl, rfl, _, rfl, ?_⟩
      cases ro with
      | none =>
        refine ifT (decide_eq_true rfl) ?_
        refine ⟨Nat.le_of_ble_eq_true rfl, fun te hte => ?_⟩
        exact fin _ _ (same_new hte _) ⟨te, rfl, by rw [hgr]; exact upd_same⟩
      | some r =>
        refine ifF (decide_eq_false (fun e => nomatch e)) ?_
        refine ⟨_, rfl, Nat.le_of_ble_eq_true rfl, fun te hte => ?_⟩
        exact fin _ _ (same_new hte _) ⟨te, rfl, by rw [hgr]; exact upd_same⟩
    · rintro H2 ⟨s2, ds, k2, hds⟩
      rw [hrsl] at hds
      exact q L ds H2 (s1.trans (.of s2)) k2 hds
  | true =>
    refine ⟨_, rfl, rfl, _, rfl, ?_⟩
    refine ifT (decide_eq_true rfl) ?_
    refine ⟨_, rfl, _, rfl, _, A0, kp, Kp, rfl, ⟨b0, xs, rfl, .inr e0, hxs⟩, by omega, hG.inA, .inr (sqt ek), hT, fun rl rs H1 s1 hrl k1 hR => ?_⟩
    obtain ⟨hrsl, hrs⟩ := hR
    refine ⟨_, rfl, rl, rfl, ⟨_, sqd k1⟩, fun L hL => ?_⟩
    refine lc_list (K := K) (a := rl) (xs := rs) (fun (j : Nat) (H' : Hp) => Same H1 H' ∧ ∃ ds, H' L = some (.lst ds) ∧ Each (LabIn true H') ((List.range j).map fun k : Nat => gR true A0 Kp (k : Int)) ds) ?_ ?_ ?_ ?_
    · exact ⟨same_new hL _, [], upd_same, .nil⟩
    · rintro j H' _ ⟨s2, _⟩
      exact sqd (s2 _ _ k1)
    · rintro j x H2 hx ⟨s2, ds, k2, hds⟩
      have hj := (List.getElem?_eq_some_iff.mp hx).1
      obtain ⟨ro, hro, hro2⟩ := hrs j (by omega)
      rw [hx] at hro2
      obtain rfl := Option.some.inj hro2
      have hgr : gR true A0 Kp (j : Int) = ro := rkF_eq hro
      have hdl := hds.1
      rw [List.length_map, List.length_range] at hdl
      have fin : ∀ (u : V) (H7 : Hp), Same H2 H7 → LabIn true H7 (gR true A0 Kp (j : Int)) u → ∃ acc, H7 L = some (.lst acc) ∧ acc.length < sizeLine ∧ (Same H1 (upd H7 L (.lst (acc ++ [u]))) ∧ ∃ ds, (upd H7 L (.lst (acc ++ [u]))) L = some (.lst ds) ∧ Each (LabIn true (upd H7 L (.lst (acc ++ [u])))) ((List.range (j + 1)).map fun k : Nat => gR true A0 Kp (k : Int)) ds) := fun u H7 s7 hu => by
        have d7 := s7 _ _ k2
        refine ⟨ds, d7, big' (by omega), same_put (s2.trans s7) hL, _, upd_same, ?_⟩
        have tt : Tp H7 (upd H7 L (.lst (ds ++ [u]))) := tp_put Tp.refl d7
        rw [List.range_succ, List.map_append]
        exact (hds.mono fun o x => LabIn.tp ((Tp.same s7).trans tt)).snoc (hu.tp tt)
      refine ⟨rfl, yes_if ?_⟩
      refine ⟨_, rfl, rfl, _, rfl, ?_⟩
      cases ro with
      | none =>
        refine ifT (decide_eq_true rfl) ?_
        refine ⟨Nat.le_of_ble_eq_true rfl, fun te hte => ?_⟩
        exact fin _ _ (same_new hte _) ⟨te, rfl, by rw [hgr]; exact upd_same⟩
      | some r =>
        refine ifF (decide_eq_false (fun e => nomatch e)) ?_
        refine ⟨_, rfl, Nat.le_of_ble_eq_true rfl, fun te hte => ?_⟩
        exact fin _ _ (same_new hte _) ⟨te, rfl, by rw [hgr]; exact upd_same⟩
    · rintro H2 ⟨s2, ds, k2, hds⟩
      rw [hrsl] at hds
      exact q L ds H2 (s1.trans (.of s2)) k2 hds
/-! ### owners -/
def spTold (Pt : Addr) (st : Bool) : Sp := fun vs H Q _ => ∃ (v : V) (A : Ar) (g kp : Addr) (Kp : List Int), vs = [v, .ref g] ∧ ArIn H A v ∧ ArG A ∧ H g = some (.tup [goalW st, .ref kp]) ∧ H kp = some (.tup (Kp.map V.int)) ∧ GxR.TabG H Pt ∧
  ∀ p ls H', Sm Pt H H' → H' p = some (.tup ls) → PaperAt st H' A (gR st A Kp) A.length ls → Q (.ref p) H'
theorem ok_told_paper (T : Txt K mg) {c Pt : Addr} (TB : GxR.TabB base mg c Pt) (hc : T.dforces.code = .ref c) (st : Bool) : FnOk P w K mg base CX0 7 T.atold_paper T.dtold_paper Ptold_paper (spTold Pt st) := by
  have G_drafts := ok_drafts (P := P) (w := w) T TB hc st
  have GFitting___init__ := ok_Fitting___init__ (P := P) (w := w) (base := base) T st
  have G_pick := ok_pick (P := P) (w := w) (base := base) T st
  refine T.Ftold_paper.ok sctold_paper (fun vs H Q E h => ?_) (fun cdv A outer s H vs Q E hr h => ?_)
  · obtain ⟨v, A, g, kp, Kp, rfl, _⟩ := h
    rfl
  obtain ⟨v, A0, g, kp, Kp, rfl, hA, hG, eg, ek, hT, q⟩ := h
  have h46 := hG.1
  refine ⟨_, (pss_cons (ps_set (i := 2) sctold_paper.nd rfl (Or.inl rfl) (pe_call G_drafts (hr.mono (by omega)) (by rfl) T.m_drafts T.F_drafts.kp T.b_drafts .nil pass0 (pa_cons (pv 0) (pa_cons (pv 1) pa_nil))))
    (pss_cons (ps_set (i := 3) sctold_paper.nd rfl (Or.inr rfl) (pe_make T.mk_Fitting GFitting___init__ (hr.mono (by omega)) (by rfl) T.g_Fitting T.bFitting___init__ .nil pass0 (pa_cons (pv 0) (pa_cons (pv 1) (pa_cons (pv 2) pa_nil)))))
    (pss_one (ps_ret (pe_callTy call_tuple_of (by rfl) T.z_tuple (by decide +kernel) (pa_cons (pe_lc (own := [("at", 4), ("draft", 5)]) (g := (gTup K 2 (gCons (gName 4) (gCons (gName 5) gNil)))) (tt := tYes) rfl sctold_paper.nd (pi_enum (by rfl) T.z_enumerate (pa_cons (pv 2) pa_nil)) (blkOk_by (N := Ntold_paper) (sc := defScope stold_paper) (by decide +kernel)) (fun _ _ _ _ _ => (pg_tup rfl (pgs_cons (pg_name (i := 4) sctold_paper.nd rfl (Or.inl rfl)) (pgs_cons (pg_name (i := 5) sctold_paper.nd rfl (Or.inl rfl)) pgs_nil)))) (fun _ _ _ _ _ => pts_nil) (fun _ _ _ _ _ => (pe_op (op_catAK (K := K) rfl) (pv 5) (pe_tup (pa_cons (pe_call G_pick (hr.mono (by omega)) (by rfl) T.m_pick T.F_pick.kp T.b_pick .nil pass0 (pa_cons (pv 3) (pa_cons (pv 4) pa_nil))) pa_nil))))) pa_nil)))))), ?_⟩
  refine ⟨_, rfl, _, rfl, v, A0, g, kp, Kp, rfl, hA, hG, eg, ek, hT, fun lb ds H1 s1 k1 hds => ?_⟩
  have hdl := hds.1
  rw [List.length_map, List.length_range] at hdl
  have hA1 := hA.tp s1.tp
  have eg1 := s1.tup eg
  refine ⟨_, rfl, _, rfl, _, rfl, fun f dx hf hdx hne => ?_⟩
  have hfd : ∀ b o, H1 b = some o → b ≠ f ∧ b ≠ dx := fun b o e => ⟨fun z => (by rw [z, hf] at e; cases e), fun z => (by rw [z, hdx] at e; cases e)⟩
  refine ⟨f, dx, g, lb, v, _, rfl, upd_same, by rw [upd_ne (hfd _ _ eg1).1, upd_ne (hfd _ _ eg1).2]; exact eg1, fun H2 k2 fr2 => ⟨rfl, ?_⟩⟩
  have s2 : Same H1 H2 := fun b o e => fr2 b o (by rw [upd_ne (hfd _ _ e).1, upd_ne (hfd _ _ e).2]; exact e) (hfd _ _ e).1
  have hF : FitAt T.C_Fitting st H2 f A0 (gR st A0 Kp) lb := ⟨⟨dx, v, _, _, k2, hA1.tp (Tp.same s2)⟩, ds, s2 _ _ k1, hds.mono fun o x => LabIn.tp (Tp.same s2)⟩
  have sm2 : Sm Pt H H2 := s1.trans (.of s2)
  have k12 := s2 _ _ k1
  refine ⟨_, rfl, lb, _, rfl, sqd k12, fun L hL => ?_⟩
  refine lc_it (walk_enum (K := K) (a := lb) (xs := ds)) (fun (j : Nat) (H' : Hp) => Same H2 H' ∧ ∃ ls, H' L = some (.lst ls) ∧ PaperAt st H' A0 (gR st A0 Kp) j ls) ?_ ?_ ?_ ?_
  · exact ⟨same_new hL _, [], upd_same, rfl, fun k os hk => absurd hk (Nat.not_lt_zero k)⟩
  · rintro i H' _ ⟨s3, _⟩
    exact sqd (s3 _ _ k12)
  · rintro j x H3 H4 hj ⟨s3, ls, k3, hls⟩ ⟨t, x1, y1, rfl, ht, rfl, hx1, hy1⟩
    cases hx1
    have hjA : j < A0.length := by omega
    have hos := List.getElem?_eq_getElem hjA
    generalize A0[j] = os at hos
    have hy1 : ds[j]? = some y1 := hy1
    obtain ⟨t1, rfl, et1⟩ := (hds.mono fun o x => LabIn.tp (Tp.same s2)).2 j (gR st A0 Kp (j : Int)) y1 (by rw [List.getElem?_map, List.getElem?_range hjA]; rfl) hy1
    obtain ⟨H5, e5, s5, k5⟩ := newH ht (.tup [.int (j : Nat), V.ref t1])
    rw [e5]
    have s35 := s3.trans s5
    have hll := hls.1
    refine ⟨t, _, rfl, sqt k5, rfl, _, _, rfl, _, _, rfl, rfl, rfl, yes_if ?_⟩
    refine ⟨_, rfl, _, rfl, _, rfl, f, lb, A0, gR st A0 Kp, j, os, rfl, hF.same s35, hG, hos, pick_no hG.inA hos, pick_yes hG.inA hos, fun pk H6 s6 hpk => ?_⟩
    refine ⟨Nat.le_of_ble_eq_true rfl, fun tu htu => ?_⟩
    obtain ⟨H7, e7, s7, k7⟩ := newH htu (.tup [pk])
    rw [e7]
    have s37 := (s35.trans s6).trans s7
    refine catA_of (s37 _ _ et1) k7 (by cases gR st A0 Kp (j : Int) <;> exact Nat.le_of_ble_eq_true rfl) fun p8 H8 s8 k8 => ?_
    have d8 := (s5.trans (s6.trans (s7.trans s8))) _ _ k3
    refine ⟨ls, d8, big' (by omega), same_put (s37.trans s8) hL, _, upd_same, ?_⟩
    have tt : Tp H8 (upd H8 L (.lst (ls ++ [V.ref p8]))) := tp_put Tp.refl d8
    refine ⟨by rw [List.length_append, hll]; rfl, fun k os' hk ho => ?_⟩
    by_cases hkj : k < j
    · obtain ⟨v', h1, h2⟩ := hls.2 k os' hkj ho
      exact ⟨v', by rw [List.getElem?_append_left (by omega)]; exact h1, h2.tp ((Tp.same (s5.trans (s6.trans (s7.trans s8)))).trans tt)⟩
    · have : k = j := by omega
      subst this
      rw [hos] at ho
      cases ho
      refine ⟨.ref p8, by rw [List.getElem?_append_right (by omega), hll, Nat.sub_self]; rfl, p8, pk, rfl, tt _ _ k8, hpk.tp ((Tp.same (s7.trans s8)).trans tt)⟩
  · rintro H3 ⟨s3, ls, k3, hls⟩
    rw [hdl] at hls
    refine ⟨L, _, rfl, .inl ⟨sqd k3, fun t ht => ?_⟩⟩
    have s4 := same_new ht (.tup ls)
    exact q t ls _ (sm2.trans (.of (s3.trans s4))) upd_same (hls.tp (Tp.same s4))
end
end NL

set_option maxHeartbeats 4000000
namespace NL
open PySem PySem.Spec PyProof.Rows L2 RZ
/-! ### zip of a list and the empty tuple: it ends at once -/
section
variable {P : Program} {w : World} {A : Around} {E : Value → Shared → Prop} {s : Shared}
theorem mix_ends {q ti tu j1 j2 m1 m2 : Addr} {us ws : Array Value} {o1 o2 : Value} {Q : Fin → Shared → Prop} (cold : A.handled = none) (ap : ZipApart q ti tu j1 j2 m1 m2)
    (iq : IsZip s.heap q ti tu .none) (iti : IsPair s.heap ti (.ref j1) (.ref j2)) (itu : IsPair s.heap tu o1 o2) (f1 : s.heap.IsListIter j1 m1 0) (f2 : s.heap.IsTupleIter j2 m2 0)
    (r1 : s.heap.IsList m1 us) (r2 : s.heap.IsTuple m2 ws) (none2 : ws[0]? = none)
    (fin : ∀ g x, (∀ c o, c ≠ q → c ≠ tu → c ≠ j1 → c ≠ j2 → s.heap.get? c = some o → g.get? c = some o) → (∃ o, g.get? x = some o ∧ o.cls = .type "StopIteration") → E (.ref x) { s with heap := g }) :
    wpAny (model P w) A (Builtin.«zip.__next__» ⟨[.ref q], []⟩) Q E s := by
  show wpAny _ _ (field (.ref q) 2 >>= _) _ _ _
  refine wpAny_bind (wpAny_field iq rfl (x := .bool false) rfl ?_); show wpAny _ _ (field (.ref q) 3 >>= _) _ _ _
  refine wpAny_bind (wpAny_field iq rfl (x := .ref ti) rfl (wpAny_bind (wpAny_seqItems iti rfl ?_)))
  show wpAny _ _ (Builtin.SmallTypes.ownedTupleIsFree (.ref q) >>= _) _ _ _
  refine wpAny_bind ?_; unfold Builtin.SmallTypes.ownedTupleIsFree
  refine wpAny_bind (wpAny_field iq rfl (x := .none) rfl (wpAny_pure ?_)); simp only [if_true]
  refine wpAny_bind (wpAny_rule (wpAny_bind (wpAny_field iq rfl (x := .ref tu) rfl ?_)))
  refine wpAny_bind (wpAny_setField_rec iq (by simp) fun g1 iq1 k1 => ?_)
  replace iq1 : IsZip g1 q ti tu .ellipsis := iq1
  refine wpAny_bind ?_; simp only [List.zipIdx_cons, List.zipIdx_nil, List.forIn_cons, List.forIn_nil]
  refine wpAny_bind (wpAny_bind (wpAny_onRaise ?_)); show wpAny _ _ (Builtin.SmallTypes.nextOf (.ref j1) >>= _) _ _ _
  cases first : us[0]? with
  | none =>
    refine wpAny_bind (wpAny_nextOf_list_end cold (f1.extBut k1.extBut ap.i1z) (r1.extBut k1.extBut ap.l1z) first fun g2 x k2 ⟨ox, gx, cx⟩ => ?_)
    have iq2 : IsZip g2 q ti tu .ellipsis := k2 _ _ ap.i1z.symm iq1
    have nx : x ≠ q := fun e => by
      subst e
      rw [iq2] at gx
      cases gx
      simp at cx
    exact wpAny_setField_rec iq2 (by simp) fun g3 _ k3 => fin g3 x (fun c o n1 _ n3 _ e => k3.extBut _ _ n1 (k2 _ _ n3 (k1.extBut _ _ n1 e))) ⟨ox, k3.extBut _ _ nx gx, cx⟩
  | some v =>
    refine wpAny_bind (wpAny_nextOf_list_item (f1.extBut k1.extBut ap.i1z) (r1.extBut k1.extBut ap.l1z) first fun g2 f1' k2 => wpAny_pure ?_)
    have itu2 : IsPair g2 tu o1 o2 := k2.extBut _ _ ap.TOi1 (k1.extBut _ _ ap.TOz itu)
    refine wpAny_bind (wpAny_seqItems itu2 rfl (wpAny_bind (wpAny_updateSeq_pair itu2 fun g3 itu3 k3 => ?_)))
    refine wpAny_bind (wpAny_letGo (wpAny_pure (wpAny_bind (wpAny_bind (wpAny_onRaise ?_)))))
    show wpAny _ _ (Builtin.SmallTypes.nextOf (.ref j2) >>= _) _ _ _
    have f2' := ((f2.extBut k1.extBut ap.i2z).extBut k2.extBut ap.i12.symm).extBut k3.extBut ap.TOi2.symm
    have r2' := ((r2.extBut k1.extBut ap.l2z).extBut k2.extBut ap.l2i1).extBut k3.extBut ap.l2TO
    refine wpAny_bind (RZ.nextOf_tuple_end cold f2' r2' none2 fun g4 x k4 ⟨ox, gx, cx⟩ => ?_)
    have iq4 : IsZip g4 q ti tu .ellipsis := k4 _ _ ap.i2z.symm (k3.extBut _ _ ap.TOz.symm (k2.extBut _ _ ap.i1z.symm iq1))
    have nx : x ≠ q := fun e => by
      subst e
      rw [iq4] at gx
      cases gx
      simp at cx
    exact wpAny_setField_rec iq4 (by simp) fun g5 _ k5 => fin g5 x (fun c o n1 n2 n3 n4 e => k5.extBut _ _ n1 (k4 _ _ n4 (k3.extBut _ _ n2 (k2.extBut _ _ n3 (k1.extBut _ _ n1 e))))) ⟨ox, k5.extBut _ _ nx gx, cx⟩
theorem mix_stop {q ti tu j1 j2 m1 m2 : Addr} {us ws : Array Value} {o1 o2 : Value} {Q : Option Value → Shared → Prop} (cold : A.handled = none) (ap : ZipApart q ti tu j1 j2 m1 m2)
    (iq : IsZip s.heap q ti tu .none) (iti : IsPair s.heap ti (.ref j1) (.ref j2)) (itu : IsPair s.heap tu o1 o2) (f1 : s.heap.IsListIter j1 m1 0) (f2 : s.heap.IsTupleIter j2 m2 0)
    (r1 : s.heap.IsList m1 us) (r2 : s.heap.IsTuple m2 ws) (none2 : ws[0]? = none)
    (fin : ∀ g, (∀ c o, c ≠ q → c ≠ tu → c ≠ j1 → c ≠ j2 → s.heap.get? c = some o → g.get? c = some o) → Q none { s with heap := g }) : wpAny (model P w) A (pyNext (.ref q)) Q E s := by
  have ty : s.TypeIs (.ref q) "zip" := ⟨_, iq, rfl⟩
  unfold pyNext
  refine wpAny_bind (wpAny_attempt (wpAny_callSpecial?_slot (name := Str.ofString "__next__") ty F.slot_zip_next (wpAny_call_entry F.slot_zip_next ty F.entry_zip_next (mix_ends cold ap iq iti itu f1 f2 r1 r2 none2 fun g x k ⟨o, go, co⟩ => ?_) (F.args_zip_next_1 _))))
  exact wpAny_bind (wpAny_isInstance (T := "StopIteration") (b := true) ⟨o, go, co⟩ isSubtype_stop (wpAny_pure (fin _ k)))
end
abbrev mixA (h : Heap) (m1 : Addr) : Heap := h.push { cls := .type "list_iterator", data := .fields #[.ref m1, .int 0 0] }
abbrev mixB (h : Heap) (m1 m2 : Addr) : Heap := (mixA h m1).push { cls := .type "tuple_iterator", data := .fields #[.ref m2, .int 0 0] }
abbrev mixC (h : Heap) (m1 m2 : Addr) : Heap := (mixB h m1 m2).push { cls := .type "tuple", data := .seq #[.ref h.objs.size, .ref (mixA h m1).objs.size] }
abbrev mixD (h : Heap) (m1 m2 : Addr) : Heap := (mixC h m1 m2).push { cls := .type "tuple", data := .seq #[.none, .none] }
abbrev mixE (h : Heap) (m1 m2 : Addr) : Heap := (mixD h m1 m2).push { cls := .type "zip", data := .fields #[.none, .bool false, .bool false, .ref (mixB h m1 m2).objs.size, .ref (mixC h m1 m2).objs.size] }
theorem mix_new (m1 m2 : Addr) (us ws : Array Value) : Meets (Builtin.«zip.__new__» ⟨[.type "zip", .ref m1, .ref m2], []⟩) (fun _ R s => s.heap.IsList m1 us ∧ s.heap.IsTuple m2 ws ∧ R (.ok (.ret (.ref (mixD s.heap m1 m2).objs.size))) { s with heap := mixE s.heap m1 m2 }) :=
  .of_wp fun P w A R s r => by
    obtain ⟨hp, gs, dr, tk, os⟩ := s
    obtain ⟨r1, r2, r⟩ := r
    have hsub := sub_zip
    have R1 : Heap.IsList (Shared.heap ⟨hp, gs, dr, tk, os⟩) m1 us := r1
    have R2 : Heap.IsTuple (Shared.heap ⟨hp.push { cls := .type "list_iterator", data := .fields #[.ref m1, .int 0 0] }, gs, dr, tk, os⟩) m2 ws := Heap.IsTuple.push r2 _
    wp_walk using wpAny_pyIter_list R1, wpAny_pyIter_tuple R2
    exact ⟨_, rfl, r⟩
section
variable {P : Program} {w : World} {A : Around} {E : Value → Shared → Prop} {s : Shared}
theorem mix_call {m1 m2 : Addr} {us ws : Array Value} {Q : Value → Shared → Prop} (r1 : s.heap.IsList m1 us) (r2 : s.heap.IsTuple m2 ws)
    (k : ∀ g, IsZip g (s.heap.objs.size + 4) (s.heap.objs.size + 2) (s.heap.objs.size + 3) .none → IsPair g (s.heap.objs.size + 2) (.ref s.heap.objs.size) (.ref (s.heap.objs.size + 1)) → IsPair g (s.heap.objs.size + 3) .none .none →
      g.IsListIter s.heap.objs.size m1 0 → g.IsTupleIter (s.heap.objs.size + 1) m2 0 → (∀ c o, s.heap.get? c = some o → g.get? c = some o) → Q (.ref (s.heap.objs.size + 4)) { s with heap := g }) :
    wpAny (model P w) A (call (.type "zip") [.ref m1, .ref m2]) Q E s := by
  refine callType_new F.called_zip (by decide) (F.typeCall_zip_2 _ _) (F.newCall_zip_2 _ _) (fun obj => F.args_object_init_3 obj _ _) F.entry_zip_new (mix_new m1 m2 us ws) ⟨r1, r2, ?_⟩
  have a1 : (mixA s.heap m1).objs.size = s.heap.objs.size + 1 := Heap.size_push ..
  have a2 : (mixB s.heap m1 m2).objs.size = s.heap.objs.size + 2 := by rw [Heap.size_push, a1]
  have a3 : (mixC s.heap m1 m2).objs.size = s.heap.objs.size + 3 := by rw [Heap.size_push, a2]
  have a4 : (mixD s.heap m1 m2).objs.size = s.heap.objs.size + 4 := by rw [Heap.size_push, a3]
  have b5 : (mixE s.heap m1 m2).get? (mixD s.heap m1 m2).objs.size = some _ := Heap.get?_push_size _ rfl
  have b4 : (mixE s.heap m1 m2).get? (mixC s.heap m1 m2).objs.size = some _ := Heap.get?_push_of_some _ (Heap.get?_push_size _ rfl)
  have b3 : (mixE s.heap m1 m2).get? (mixB s.heap m1 m2).objs.size = some _ := Heap.get?_push_of_some _ (Heap.get?_push_of_some _ (Heap.get?_push_size _ rfl))
  have b2 : (mixE s.heap m1 m2).get? (mixA s.heap m1).objs.size = some _ := Heap.get?_push_of_some _ (Heap.get?_push_of_some _ (Heap.get?_push_of_some _ (Heap.get?_push_size _ rfl)))
  have b1 : (mixE s.heap m1 m2).get? s.heap.objs.size = some _ := Heap.get?_push_of_some _ (Heap.get?_push_of_some _ (Heap.get?_push_of_some _ (Heap.get?_push_of_some _ (Heap.get?_push_size _ rfl))))
  show _ ∧ _
  rw [a2, a3, a4] at b5
  rw [a1, a2] at b3
  rw [a3] at b4
  rw [a1] at b2
  rw [a4]
  exact ⟨⟨_, b5, rfl⟩, k _ b5 b3 b4 ⟨_, b1, rfl, rfl⟩ ⟨_, b2, rfl, rfl⟩ fun c o e => Heap.get?_push_of_some _ (Heap.get?_push_of_some _ (Heap.get?_push_of_some _ (Heap.get?_push_of_some _ (Heap.get?_push_of_some _ e))))⟩
end
/-- no turn at all -/
def ItM (K : PySem.W.Frag) (a b : Addr) : It := ⟨fun _ _ => False, fun _ _ _ _ => False, fun i H => i = 0 ∧ (∃ xs : List V, SqL K H a xs) ∧ SqT K H b []⟩
theorem turn_mix {P : Program} {w : World} {K : PySem.W.Frag} {elts : List Expr} {kk : Nat} {tpos : Pos} {a b q ti tu j1 j2 : Addr} (ap : ZipApart q ti tu j1 j2 a b) :
    Turn P w K (.Tuple elts kk tpos) (ItM K a b) [q, ti, tu, j1, j2] q (fun i h => i = 0 ∧ IsZip h q ti tu .none ∧ IsPair h ti (.ref j1) (.ref j2) ∧ (∃ x y, IsPair h tu x y) ∧ h.IsListIter j1 a 0 ∧ h.IsTupleIter j2 b 0) where
  mem := by simp
  obj := fun i h ⟨_, iq, iti, ⟨x, y, itu⟩, ⟨o1, e1, _, d1⟩, ⟨o2, e2, _, d2⟩⟩ c hc => by
    have which : c = q ∨ c = ti ∨ c = tu ∨ c = j1 ∨ c = j2 := by simpa using hc
    rcases which with rfl | rfl | rfl | rfl | rfl
    · exact ⟨_, iq, fun v z => nomatch z⟩
    · exact ⟨_, iti, fun v z => nomatch z⟩
    · exact ⟨_, itu, fun v z => nomatch z⟩
    · exact ⟨o1, e1, fun v z => by rw [d1] at z; cases z⟩
    · exact ⟨o2, e2, fun v z => by rw [d2] at z; cases z⟩
  keep := fun i h g ⟨i0, iq, iti, ⟨x, y, itu⟩, f1, f2⟩ k => ⟨i0, k q (by simp) _ iq, k ti (by simp) _ iti, ⟨x, y, k tu (by simp) _ itu⟩, f1.at fun o e => k j1 (by simp) o e, f2.at fun o e => k j2 (by simp) o e⟩
  item := fun X _ _ _ _ i pins s σ H E _ _ _ no => no.elim
  done := by
    intro X e1 e2 e3 calm i pins s σ H E I fp st stop
    subst e1 e2 e3
    obtain ⟨_, iq, iti, ⟨x0, y0, itu⟩, f1, f2⟩ := st
    obtain ⟨_, ⟨xs, hx⟩, hy⟩ := stop
    obtain ⟨its, rv, p, _⟩ := I.list hx
    obtain ⟨its2, rv2, p2, _⟩ := I.tuple hy
    have l2 := rv2.length
    refine mix_stop (I.ok.hd calm) ap iq iti itu f1 f2 p.isList p2 (by simp at l2; simp [l2]) fun g k => ⟨rfl, I.turnedL (t' := s.toks) (ch := [q, ti, tu, j1, j2]) (fun c o out e => k c o (fun z => out (by simp [z])) (fun z => out (by simp [z])) (fun z => out (by simp [z])) (fun z => out (by simp [z])) e) fp⟩
  self := fun A i s Q E st h => wpAny_pyIter_zip st.2.1 h
def iZipM (K : PySem.W.Frag) (ta : TA) : TI := fun σ H R => ta σ H fun vs H1 => ∃ a b xs, vs = [.ref a, .ref b] ∧ SqL K H1 a xs ∧ SqT K H1 b [] ∧ R (ItM K a b) H1
theorem pi_zipM {X : Cx} {e e2 : Expr} {ta : TA} {p pos tpos : Pos} {elts : List Expr} {kk : Nat} (hg : Gl X "zip") (hm : X.mg "zip" = none) (ha : PA X [e, e2] ta)
    (star : starEach [e, e2] X.env = (false, eval e X.env) :: starEach [e2] X.env := by rfl) (plain : (backTo pos (starEach [e2] X.env)).any (·.1) = false := by rfl) :
    PI X (.Tuple elts kk tpos) (.Call (.Name "zip" p) [e, e2] [] pos) (iZipM X.K ta) := by
  refine ⟨fun pins s σ H R I h => ?_⟩
  refine Call_ (ld_blt I hg hm PyProof.Rows.boot_zip (PyProof.Rows.callWith_type1 (thn (ha.run pos pins s σ H _ I h) fun us s1 ⟨vs, H1, I1, r1, q1⟩ => ?_) star plain))
  obtain ⟨a, b, xs, ex, hx, hy, q1⟩ := q1
  subst ex
  cases r1 with
  | cons ra rr =>
    cases rr with
    | cons rb rr =>
      cases rr
      cases ra
      cases rb
      have five : ∀ c, c ∈ [s1.heap.objs.size + 4, s1.heap.objs.size + 2, s1.heap.objs.size + 3, s1.heap.objs.size, s1.heap.objs.size + 1] → FpOk X pins H1 c := fun c hc => by
        have le : s1.heap.objs.size ≤ c := by
          simp only [List.mem_cons, List.not_mem_nil, or_false] at hc
          rcases hc with rfl | rfl | rfl | rfl | rfl <;> first | exact Nat.le_refl _ | exact Nat.le_add_right _ _
        exact I1.fpOk le (I1.hok.fresh le)
      obtain ⟨its, rv, p1, _⟩ := I1.list hx
      obtain ⟨its2, rv2, p2, _⟩ := I1.tuple hy
      obtain ⟨o2, g2, _⟩ := id p2
      refine mix_call p1.isList (show s1.heap.IsTuple b its2.toArray from p2) fun g iq iti itu f1 f2 kept => wpAny_pyIter_zip iq ?_
      have I2 : Inv X pins σ H1 { s1 with heap := g } := I1.kept (t' := s1.toks) kept
      exact ⟨s1.heap.objs.size + 4, _, _, _, H1, rfl, I2, turn_mix (PySem.W.ktu_apart s1.heap.objs.size a b p1.lt (Heap.lt_size g2)), ⟨rfl, iq, iti, ⟨_, _, itu⟩, f1, f2⟩, five, q1⟩
/-- a loop that makes no turn -/
theorem for_none {K : PySem.W.Frag} {a b : Addr} {xs : List V} {g : TG} {tb : TS} {D : Ends} {σ : L2.St} {H : Hp} (hx : SqL K H a xs) (hy : SqT K H b []) (hd : D.nx σ H) :
    ∃ W : Nat → Nat → L2.St → Hp → Prop, (∃ m, W 0 m σ H) ∧ ∀ i m σ H, W i m σ H →
      ((ItM K a b).stop i H ∧ D.nx σ H) ∨ ((ItM K a b).go i H ∧ ∃ N : L2.St → Hp → Prop, (∀ σ' H', N σ' H' → ∃ m', m' < m ∧ W (i + 1) m' σ' H') ∧ ∀ v H', (ItM K a b).yld i H v H' → g v σ H' fun σ2 H2 => tb { D with nx := N, ct := N, bk := D.nx } σ2 H2) := by
  refine ⟨fun i m σ' H' => i = 0 ∧ σ' = σ ∧ H' = H, ⟨0, rfl, rfl, rfl⟩, ?_⟩
  rintro i m σ' H' ⟨rfl, rfl, rfl⟩
  exact .inl ⟨⟨rfl, ⟨xs, hx⟩, hy⟩, hd⟩
/-- loops over zip of two lists, or of two tuples, of any lengths -/
theorem for_zips {K : PySem.W.Frag} {a b : Addr} {xs ys : List V} {g : TG} {tb : TS} {D : Ends} {σ : L2.St} {H : Hp} (n : Nat) (hn : n = min xs.length ys.length) (Pv : Nat → L2.St → Hp → Prop) (h0 : Pv 0 σ H) (hq : ∀ i σ H, Pv i σ H → SqL K H a xs ∧ SqL K H b ys)
    (hs : ∀ (i : Nat) (x y : V) (t : Addr) (σ : L2.St) (H : Hp), xs[i]? = some x → ys[i]? = some y → Pv i σ H → H t = none → g (.ref t) σ (upd H t (.tup [x, y])) fun σ2 H2 => tb { D with nx := Pv (i + 1), ct := Pv (i + 1), bk := D.nx } σ2 H2) (hd : ∀ σ H, Pv n σ H → D.nx σ H) :
    ∃ W : Nat → Nat → L2.St → Hp → Prop, (∃ m, W 0 m σ H) ∧ ∀ i m σ H, W i m σ H →
      ((Itz K a b).stop i H ∧ D.nx σ H) ∨ ((Itz K a b).go i H ∧ ∃ N : L2.St → Hp → Prop, (∀ σ' H', N σ' H' → ∃ m', m' < m ∧ W (i + 1) m' σ' H') ∧ ∀ v H', (Itz K a b).yld i H v H' → g v σ H' fun σ2 H2 => tb { D with nx := N, ct := N, bk := D.nx } σ2 H2) := by
  refine ⟨fun i m σ H => m + i = n ∧ Pv i σ H, ⟨n, rfl, h0⟩, ?_⟩
  rintro i m σ H ⟨hi, p⟩
  obtain ⟨qx, qy⟩ := hq i σ H p
  by_cases lt : i < n
  · have ex : xs[i]? = some xs[i] := List.getElem?_eq_getElem (by omega)
    have ey : ys[i]? = some ys[i] := List.getElem?_eq_getElem (by omega)
    refine .inr ⟨⟨xs, ys, _, _, qx, qy, ex, ey⟩, Pv (i + 1), fun σ' H' p' => ⟨m - 1, by omega, by omega, p'⟩, fun v H' y => ?_⟩
    obtain ⟨t, x1, y1, rfl, ht, rfl, f1, f2⟩ := y
    exact hs i x1 y1 t σ H (f1 xs qx) (f2 ys qy) p ht
  · have e : i = n := by omega
    subst e
    exact .inl ⟨⟨xs, ys, qx, qy, by omega⟩, hd σ H p⟩
theorem for_zipsT {K : PySem.W.Frag} {a b : Addr} {xs ys : List V} {g : TG} {tb : TS} {D : Ends} {σ : L2.St} {H : Hp} (n : Nat) (hn : n = min xs.length ys.length) (Pv : Nat → L2.St → Hp → Prop) (h0 : Pv 0 σ H) (hq : ∀ i σ H, Pv i σ H → SqT K H a xs ∧ SqT K H b ys)
    (hs : ∀ (i : Nat) (x y : V) (t : Addr) (σ : L2.St) (H : Hp), xs[i]? = some x → ys[i]? = some y → Pv i σ H → H t = none → g (.ref t) σ (upd H t (.tup [x, y])) fun σ2 H2 => tb { D with nx := Pv (i + 1), ct := Pv (i + 1), bk := D.nx } σ2 H2) (hd : ∀ σ H, Pv n σ H → D.nx σ H) :
    ∃ W : Nat → Nat → L2.St → Hp → Prop, (∃ m, W 0 m σ H) ∧ ∀ i m σ H, W i m σ H →
      ((ItzT K a b).stop i H ∧ D.nx σ H) ∨ ((ItzT K a b).go i H ∧ ∃ N : L2.St → Hp → Prop, (∀ σ' H', N σ' H' → ∃ m', m' < m ∧ W (i + 1) m' σ' H') ∧ ∀ v H', (ItzT K a b).yld i H v H' → g v σ H' fun σ2 H2 => tb { D with nx := N, ct := N, bk := D.nx } σ2 H2) := by
  refine ⟨fun i m σ H => m + i = n ∧ Pv i σ H, ⟨n, rfl, h0⟩, ?_⟩
  rintro i m σ H ⟨hi, p⟩
  obtain ⟨qx, qy⟩ := hq i σ H p
  by_cases lt : i < n
  · have ex : xs[i]? = some xs[i] := List.getElem?_eq_getElem (by omega)
    have ey : ys[i]? = some ys[i] := List.getElem?_eq_getElem (by omega)
    refine .inr ⟨⟨xs, ys, _, _, qx, qy, ex, ey⟩, Pv (i + 1), fun σ' H' p' => ⟨m - 1, by omega, by omega, p'⟩, fun v H' y => ?_⟩
    obtain ⟨t, x1, y1, rfl, ht, rfl, f1, f2⟩ := y
    exact hs i x1 y1 t σ H (f1 xs qx) (f2 ys qy) p ht
  · have e : i = n := by omega
    subst e
    exact .inl ⟨⟨xs, ys, qx, qy, by omega⟩, hd σ H p⟩
end NL

namespace NL
open PySem PySem.Spec PyProof.Rows L2
/-! ### a play, as a function -/
def stpP (A : Ar) (l i r : Int) : Bool := match A[l.toNat]? with
  | none => false
  | some os => match os[i.toNat]? with
    | none => false
    | some o => decide (0 ≤ l) && (decide (0 ≤ i) && decide (r ∈ o))
def playA (A : Ar) : Int → List Int → List Int → List Int
  | l, i :: is, r :: rs => if stpP A l i r = true then r :: playA A r is rs else []
  | _, [], _ => []
  | _, _ :: _, [] => []
theorem playP_nil {A : Ar} {l : Int} : ∀ {is rs : List Int}, is = [] ∨ rs = [] → playA A l is rs = []
  | [], _, _ => by rw [playA]
  | _ :: _, [], _ => by rw [playA]
  | _ :: _, _ :: _, h => by rcases h with h | h <;> cases h
theorem play_step {A : Ar} {l i r : Int} {is rs : List Int} {j : Nat} (hi : is[j]? = some i) (hr : rs[j]? = some r) : playA A l (is.drop j) (rs.drop j) = if stpP A l i r = true then r :: playA A r (is.drop (j + 1)) (rs.drop (j + 1)) else [] := by
  obtain ⟨h1, e1⟩ := List.getElem?_eq_some_iff.mp hi
  obtain ⟨h2, e2⟩ := List.getElem?_eq_some_iff.mp hr
  rw [List.drop_eq_getElem_cons h1, List.drop_eq_getElem_cons h2, playA, e1, e2]
theorem stpP_out {A : Ar} {i r : Int} : stpP A (-1) i r = false := by
  unfold stpP
  split
  · rfl
  · split <;> rfl
theorem stpP_neg {A : Ar} {l i r : Int} (h : ¬ 0 ≤ i) : stpP A l i r = false := by
  unfold stpP
  split
  · rfl
  · split
    · rfl
    · rw [decide_eq_false h, Bool.false_and, Bool.and_false]
theorem stpP_far {A : Ar} {l i r : Int} {os : Pos'} (hl : A[l.toNat]? = some os) (h : ¬ i < os.length) : stpP A l i r = false := by
  have : os[i.toNat]? = none := List.getElem?_eq_none (by omega)
  unfold stpP
  rw [hl]
  simp [this]
theorem stpP_at {A : Ar} {l i r : Int} {os : Pos'} {o : Opt} (hl0 : 0 ≤ l) (hl : A[l.toNat]? = some os) (hi : 0 ≤ i) (ho : os[i.toNat]? = some o) : stpP A l i r = decide (r ∈ o) := by
  unfold stpP
  rw [hl]
  simp [ho, hl0, hi]
theorem at_lastP {α : Type} {x : α} {xs : List α} : atI (xs ++ [x]) (-1) = some x := by
  unfold atI
  rw [show ixN (xs ++ [x]).length (-1) = some xs.length by
    unfold ixN
    rw [if_neg (by decide), if_pos (by rw [List.length_append, List.length_singleton]; omega), List.length_append, List.length_singleton]
    congr 1
    omega]
  simp
theorem ints_snoc (ps : List Int) (l : Int) : (ps ++ [l]).map V.int = ps.map V.int ++ [V.int l] := by
  rw [List.map_append]
  rfl
theorem same_seqT {K : PySem.W.Frag} {H H' : Hp} {a : Addr} {xs : List V} (s : Same H H') (h : SqT K H a xs) : SqT K H' a xs := by
  rcases h with (h | ⟨o, h⟩) | h
  · exact .inl (.inl (s _ _ h))
  · exact .inl (.inr ⟨o, s _ _ h⟩)
  · exact .inr h
section
variable {P : Program} {w : World} {K : PySem.W.Frag} {mg : Str → Option Value} {base : Heap}
/-! ### play_on -/
def spPlayOn (K : PySem.W.Frag) : Sp := fun vs H Q _ => ∃ (v : V) (A : Ar) (st : Int) (a b : Addr) (is rs : List Int), vs = [v, .int st, .ref a, .ref b] ∧ ArIn H A v ∧ ArG A ∧ 0 ≤ st ∧ st < A.length ∧ is.length ≤ 1000 ∧ rs.length ≤ 1000 ∧
  ((SqL K H a (is.map V.int) ∧ SqL K H b (rs.map V.int)) ∨ (SqT K H a (is.map V.int) ∧ SqT K H b (rs.map V.int)) ∨ (SqL K H a (is.map V.int) ∧ rs = [] ∧ SqT K H b [])) ∧
  ∀ p H', Same H H' → H' p = some (.tup ((st :: playA A st is rs).map V.int)) → Q (.ref p) H'
/-- what one turn needs -/
structure Plc (H : Hp) (A : Ar) (b0 : Addr) (xs : List V) (l : Int) (os : Pos') (b1 : Addr) (zs : List V) : Prop where
  t : H b0 = some (.tup xs)
  a : A[l.toNat]? = some os
  i : atI xs l = some (.ref b1)
  o : H b1 = some (.tup zs)
  e : Each (OptIn H) os zs
theorem Plc.of {H : Hp} {A : Ar} {b0 : Addr} {xs : List V} {l : Int} (t : H b0 = some (.tup xs)) (h : Each (PosIn H) A xs) (h0 : 0 ≤ l) (h1 : l < A.length) : ∃ os b1 zs, Plc H A b0 xs l os b1 zs := by
  obtain ⟨os, x, h2, h3, b1, zs, rfl, h4, h5⟩ := h.atI h0 h1
  exact ⟨os, b1, zs, t, h2, h3, h4, h5⟩
theorem ok_play_on (T : Txt K mg) : FnOk P w K mg base CX0 1 T.aplay_on T.dplay_on Pplay_on (spPlayOn K) := by
  refine T.Fplay_on.ok scplay_on (fun vs H Q E h => ?_) (fun cdv A outer s H vs Q E hr h => ?_)
  · obtain ⟨v, A, st, a, b, is, rs, rfl, _⟩ := h
    rfl
  obtain ⟨v, Ar0, st, a, b, is, rs, rfl, ⟨b0, xs, rfl, e0, hxs⟩, hG, st0, st1, hil, hrl, hkind, q⟩ := h
  -- behind the loop
  have fin : ∀ (pl : Addr) (H' : Hp), Same H H' → H' pl = some (.lst ((st :: playA Ar0 st is rs).map V.int)) → rTupOf K [.ref pl] H' Q := fun pl H' s' e' => ⟨pl, _, rfl, .inl ⟨sqd e', fun p hp => q p _ (s'.trans (same_new hp _)) upd_same⟩⟩
  rcases hkind with ⟨ha, hb⟩ | ⟨ha, hb⟩ | ⟨ha, rfl, hb⟩
  · refine ⟨_, (pss_cons (ps_set (i := 4) scplay_on.nd rfl (Or.inl rfl) (pe_lst (pa_cons (pv 1) pa_nil)))
    (pss_cons (ps_for  PassesOwn.never rfl (RZ.pi_zipA (by rfl) T.z_zip (pa_cons (pv 2) (pa_cons (pv 3) pa_nil))) (pg_tup rfl (pgs_cons (pg_name (i := 5) scplay_on.nd rfl (Or.inl rfl)) (pgs_cons (pg_name (i := 6) scplay_on.nd rfl (Or.inl rfl)) pgs_nil)))
    (pss_cons (ps_set (i := 7) scplay_on.nd rfl (Or.inl rfl) (pe_ix ix_tup (pv 0) (pe_ix ix_list (pv 4) (pe_un un_neg pe_int) (fun _ _ => rfl)) (fun _ _ => rfl)))
    (pss_cons (ps_if (PW.pt (pw_or (pt_not (pt_chain op_le op_lt pe_int (pv 5) (pe_callB call_len_seq (by rfl) T.z_len PySem.boot_len (pa_cons (pv 7) pa_nil)))) (pw_or1 (pt_cmpR op_notIn_seq (pv 6) (pe_ix ix_tup (pv 7) (pv 5) (fun _ _ => rfl)) (by rfl)))))
    (pss_one ps_break)
    pss_nil)
    (pss_cons (ps_expr (pe_bm PySem.F.plainAttrs_list PySem.F.slot_list_append PySem.F.type_list_append mt_append (pv 4) (pa_cons (pv 6) pa_nil)))
    (pss_one (ps_if (pt_cmpR op_eq (pv 6) (pe_un un_neg pe_int) (nomark _))
    (pss_one ps_break)
    pss_nil))))))
    (pss_one (ps_ret (pe_callTy call_tuple_of (by rfl) T.z_tuple (by decide +kernel) (pa_cons (pv 4) pa_nil)))))), ?_⟩
    refine ⟨_, rfl, Nat.le_of_ble_eq_true rfl, fun pl hpl => ?_⟩
    obtain ⟨H1, e1, s1, k1⟩ := newH hpl (.lst [.int st])
    rw [e1]
    refine ⟨_, rfl, _, rfl, a, b, _, _, rfl, .inl ⟨s1.seq ha, s1.seq hb, ?_⟩⟩
    refine for_zips (xs := is.map V.int) (ys := rs.map V.int) (min is.length rs.length) (by rw [List.length_map, List.length_map]) (fun (j : Nat) (σ : L2.St) (H' : Hp) => ∃ (ps : List Int) (l : Int) (y5 y6 y7 : Option V), σ = [some (.ref b0), some (.int st), some (.ref a), some (.ref b), some (.ref pl), y5, y6, y7] ∧ Same H H' ∧ H' pl = some (.lst ((ps ++ [l]).map V.int)) ∧ ps.length ≤ j ∧ 0 ≤ l ∧ l < Ar0.length ∧ st :: playA Ar0 st is rs = ps ++ [l] ++ playA Ar0 l (is.drop j) (rs.drop j)) ?_ ?_ ?_ ?_
    · exact ⟨[], st, none, none, none, rfl, s1, k1, Nat.le_refl 0, st0, st1, by rw [List.drop_zero, List.drop_zero]; rfl⟩
    · rintro j σ H' ⟨ps, l, y5, y6, y7, rfl, s2, _⟩
      exact ⟨s2.seq ha, s2.seq hb⟩
    · rintro j x y t σ H2 hx hy ⟨ps, l, y5, y6, y7, rfl, s2, k2, hps, l0, l1, htot⟩ ht
      rw [List.getElem?_map] at hx hy
      obtain ⟨i, hi, rfl⟩ := Option.map_eq_some_iff.mp hx
      obtain ⟨r, hr', rfl⟩ := Option.map_eq_some_iff.mp hy
      have hj := (List.getElem?_eq_some_iff.mp hi).1
      rw [play_step hi hr'] at htot
      obtain ⟨H3, e3, s3, k3⟩ := newH ht (.tup [V.int i, V.int r])
      rw [e3]
      have s23 := s2.trans s3
      have tp3 : Tp H H3 := Tp.same s23
      obtain ⟨os, b1, zs, hP⟩ := Plc.of (tp3 _ _ e0) (hxs.mono fun o x => PosIn.tp tp3) l0 l1
      have k23 := s3 _ _ k2
      rw [ints_snoc] at k23
      refine ⟨t, _, rfl, sqt k3, rfl, _, _, rfl, _, _, rfl, rfl, ?_⟩
      refine ⟨_, rfl, _, rfl, _, rfl, pl, _, _, _, rfl, rfl, sqd k23, at_lastP, b0, _, _, _, rfl, rfl, sqt hP.t, hP.i, ?_⟩
      have brk : stpP Ar0 l i r = false → st :: playA Ar0 st is rs = ps ++ [l] := fun h => by
        rw [htot, if_neg (by rw [h]; exact Bool.false_ne_true), List.append_nil]
      have out : stpP Ar0 l i r = false → H3 pl = some (.lst ((st :: playA Ar0 st is rs).map V.int)) := fun h => by
        rw [brk h, ints_snoc]
        exact k23
      refine ⟨_, rfl, _, _, rfl, rfl, _, rfl, ?_⟩
      by_cases hi0 : 0 ≤ i
      · refine ifT (decide_eq_true hi0) ?_
        refine ⟨_, rfl, b1, _, rfl, .inr (sqt hP.o), _, _, rfl, rfl, _, rfl, ?_⟩
        by_cases hi1 : i < os.length
        · have hlen : i < (zs.length : Int) := by rw [hP.e.1]; exact hi1
          refine ifF (by rw [decide_eq_true hlen] <;> rfl) ?_
          obtain ⟨o, x, ho, hat, b2, rfl, e2⟩ := hP.e.atI hi0 hi1
          have hst := stpP_at (r := r) l0 hP.a hi0 ho
          refine ⟨_, rfl, _, rfl, _, rfl, b1, _, _, _, rfl, rfl, sqt hP.o, hat, b2, _, rfl, .inr (sqt e2), rfl, flat_ints' o, _, rfl, ?_⟩
          by_cases hm : r ∈ o
          · refine ifF (by rw [notIn_int, decide_eq_true hm] <;> rfl) ?_
            rw [hst, decide_eq_true hm, if_pos rfl] at htot
            refine ⟨_, rfl, .inl ⟨rfl, _, sqd k23⟩, _, rfl, pl, _, _, rfl, rfl, k23, big' (by rw [List.length_append, List.length_map, List.length_singleton]; omega), ?_⟩
            have s4 : Same H (upd H3 pl (.lst (List.map V.int ps ++ [V.int l] ++ [V.int r]))) := same_put s23 hpl
            have k4 : upd H3 pl (.lst (List.map V.int ps ++ [V.int l] ++ [V.int r])) pl = some (.lst ((ps ++ [l] ++ [r]).map V.int)) := by
              rw [upd_same, ints_snoc, ints_snoc]
            have hb := ((hG.2 os (List.mem_of_getElem? hP.a)).2 o (List.mem_of_getElem? ho)).mem r hm
            refine ⟨_, rfl, _, rfl, rfl, _, rfl, ?_⟩
            refine ite2 (fun z => ?_) (fun z => ?_)
            · have hr1 : r = -1 := int_eq z
              refine ⟨_, rfl, fin pl _ s4 ?_⟩
              rw [k4, htot, hr1]
              have : playA Ar0 (-1) (is.drop (j + 1)) (rs.drop (j + 1)) = [] := by
                cases h1 : is.drop (j + 1) with
                | nil => rw [playA]
                | cons i2 ir =>
                  cases h2 : rs.drop (j + 1) with
                  | nil => rw [playA]
                  | cons r2 rr => rw [playA, stpP_out, if_neg Bool.false_ne_true]
              rw [this]
            · have hr1 : r ≠ -1 := int_ne z
              exact ⟨ps ++ [l], r, _, _, _, rfl, s4, k4, by rw [List.length_append]; exact Nat.add_le_add_right hps 1, by omega, hb.2, by rw [htot]; simp⟩
          · refine ifT (by rw [notIn_int, decide_eq_false hm] <;> rfl) ?_
            rw [decide_eq_false hm] at hst
            exact ⟨_, rfl, fin pl H3 s23 (out hst)⟩
        · have hlen : ¬ i < (zs.length : Int) := by rw [hP.e.1]; exact hi1
          refine ifT (by rw [decide_eq_false hlen] <;> rfl) ?_
          refine iteT ?_
          exact ⟨_, rfl, fin pl H3 s23 (out (stpP_far hP.a hi1))⟩
      · refine ifF (decide_eq_false hi0) ⟨_, rfl, ?_⟩
        refine iteT (iteT ?_)
        exact ⟨_, rfl, fin pl H3 s23 (out (stpP_neg hi0))⟩
    · rintro σ H2 ⟨ps, l, y5, y6, y7, rfl, s2, k2, hps, l0, l1, htot⟩
      refine ⟨_, rfl, fin pl H2 s2 ?_⟩
      rw [k2, htot, playP_nil (by
        rcases Nat.le_total is.length rs.length with h | h
        · exact .inl (List.drop_eq_nil_of_le (by omega))
        · exact .inr (List.drop_eq_nil_of_le (by omega))), List.append_nil]
  · refine ⟨_, (pss_cons (ps_set (i := 4) scplay_on.nd rfl (Or.inl rfl) (pe_lst (pa_cons (pv 1) pa_nil)))
    (pss_cons (ps_for  PassesOwn.never rfl (RZ.pi_zipA (by rfl) T.z_zip (pa_cons (pv 2) (pa_cons (pv 3) pa_nil))) (pg_tup rfl (pgs_cons (pg_name (i := 5) scplay_on.nd rfl (Or.inl rfl)) (pgs_cons (pg_name (i := 6) scplay_on.nd rfl (Or.inl rfl)) pgs_nil)))
    (pss_cons (ps_set (i := 7) scplay_on.nd rfl (Or.inl rfl) (pe_ix ix_tup (pv 0) (pe_ix ix_list (pv 4) (pe_un un_neg pe_int) (fun _ _ => rfl)) (fun _ _ => rfl)))
    (pss_cons (ps_if (PW.pt (pw_or (pt_not (pt_chain op_le op_lt pe_int (pv 5) (pe_callB call_len_seq (by rfl) T.z_len PySem.boot_len (pa_cons (pv 7) pa_nil)))) (pw_or1 (pt_cmpR op_notIn_seq (pv 6) (pe_ix ix_tup (pv 7) (pv 5) (fun _ _ => rfl)) (by rfl)))))
    (pss_one ps_break)
    pss_nil)
    (pss_cons (ps_expr (pe_bm PySem.F.plainAttrs_list PySem.F.slot_list_append PySem.F.type_list_append mt_append (pv 4) (pa_cons (pv 6) pa_nil)))
    (pss_one (ps_if (pt_cmpR op_eq (pv 6) (pe_un un_neg pe_int) (nomark _))
    (pss_one ps_break)
    pss_nil))))))
    (pss_one (ps_ret (pe_callTy call_tuple_of (by rfl) T.z_tuple (by decide +kernel) (pa_cons (pv 4) pa_nil)))))), ?_⟩
    refine ⟨_, rfl, Nat.le_of_ble_eq_true rfl, fun pl hpl => ?_⟩
    obtain ⟨H1, e1, s1, k1⟩ := newH hpl (.lst [.int st])
    rw [e1]
    refine ⟨_, rfl, _, rfl, a, b, _, _, rfl, .inr ⟨same_seqT s1 ha, same_seqT s1 hb, ?_⟩⟩
    refine for_zipsT (xs := is.map V.int) (ys := rs.map V.int) (min is.length rs.length) (by rw [List.length_map, List.length_map]) (fun (j : Nat) (σ : L2.St) (H' : Hp) => ∃ (ps : List Int) (l : Int) (y5 y6 y7 : Option V), σ = [some (.ref b0), some (.int st), some (.ref a), some (.ref b), some (.ref pl), y5, y6, y7] ∧ Same H H' ∧ H' pl = some (.lst ((ps ++ [l]).map V.int)) ∧ ps.length ≤ j ∧ 0 ≤ l ∧ l < Ar0.length ∧ st :: playA Ar0 st is rs = ps ++ [l] ++ playA Ar0 l (is.drop j) (rs.drop j)) ?_ ?_ ?_ ?_
    · exact ⟨[], st, none, none, none, rfl, s1, k1, Nat.le_refl 0, st0, st1, by rw [List.drop_zero, List.drop_zero]; rfl⟩
    · rintro j σ H' ⟨ps, l, y5, y6, y7, rfl, s2, _⟩
      exact ⟨same_seqT s2 ha, same_seqT s2 hb⟩
    · rintro j x y t σ H2 hx hy ⟨ps, l, y5, y6, y7, rfl, s2, k2, hps, l0, l1, htot⟩ ht
      rw [List.getElem?_map] at hx hy
      obtain ⟨i, hi, rfl⟩ := Option.map_eq_some_iff.mp hx
      obtain ⟨r, hr', rfl⟩ := Option.map_eq_some_iff.mp hy
      have hj := (List.getElem?_eq_some_iff.mp hi).1
      rw [play_step hi hr'] at htot
      obtain ⟨H3, e3, s3, k3⟩ := newH ht (.tup [V.int i, V.int r])
      rw [e3]
      have s23 := s2.trans s3
      have tp3 : Tp H H3 := Tp.same s23
      obtain ⟨os, b1, zs, hP⟩ := Plc.of (tp3 _ _ e0) (hxs.mono fun o x => PosIn.tp tp3) l0 l1
      have k23 := s3 _ _ k2
      rw [ints_snoc] at k23
      refine ⟨t, _, rfl, sqt k3, rfl, _, _, rfl, _, _, rfl, rfl, ?_⟩
      refine ⟨_, rfl, _, rfl, _, rfl, pl, _, _, _, rfl, rfl, sqd k23, at_lastP, b0, _, _, _, rfl, rfl, sqt hP.t, hP.i, ?_⟩
      have brk : stpP Ar0 l i r = false → st :: playA Ar0 st is rs = ps ++ [l] := fun h => by
        rw [htot, if_neg (by rw [h]; exact Bool.false_ne_true), List.append_nil]
      have out : stpP Ar0 l i r = false → H3 pl = some (.lst ((st :: playA Ar0 st is rs).map V.int)) := fun h => by
        rw [brk h, ints_snoc]
        exact k23
      refine ⟨_, rfl, _, _, rfl, rfl, _, rfl, ?_⟩
      by_cases hi0 : 0 ≤ i
      · refine ifT (decide_eq_true hi0) ?_
        refine ⟨_, rfl, b1, _, rfl, .inr (sqt hP.o), _, _, rfl, rfl, _, rfl, ?_⟩
        by_cases hi1 : i < os.length
        · have hlen : i < (zs.length : Int) := by rw [hP.e.1]; exact hi1
          refine ifF (by rw [decide_eq_true hlen] <;> rfl) ?_
          obtain ⟨o, x, ho, hat, b2, rfl, e2⟩ := hP.e.atI hi0 hi1
          have hst := stpP_at (r := r) l0 hP.a hi0 ho
          refine ⟨_, rfl, _, rfl, _, rfl, b1, _, _, _, rfl, rfl, sqt hP.o, hat, b2, _, rfl, .inr (sqt e2), rfl, flat_ints' o, _, rfl, ?_⟩
          by_cases hm : r ∈ o
          · refine ifF (by rw [notIn_int, decide_eq_true hm] <;> rfl) ?_
            rw [hst, decide_eq_true hm, if_pos rfl] at htot
            refine ⟨_, rfl, .inl ⟨rfl, _, sqd k23⟩, _, rfl, pl, _, _, rfl, rfl, k23, big' (by rw [List.length_append, List.length_map, List.length_singleton]; omega), ?_⟩
            have s4 : Same H (upd H3 pl (.lst (List.map V.int ps ++ [V.int l] ++ [V.int r]))) := same_put s23 hpl
            have k4 : upd H3 pl (.lst (List.map V.int ps ++ [V.int l] ++ [V.int r])) pl = some (.lst ((ps ++ [l] ++ [r]).map V.int)) := by
              rw [upd_same, ints_snoc, ints_snoc]
            have hb := ((hG.2 os (List.mem_of_getElem? hP.a)).2 o (List.mem_of_getElem? ho)).mem r hm
            refine ⟨_, rfl, _, rfl, rfl, _, rfl, ?_⟩
            refine ite2 (fun z => ?_) (fun z => ?_)
            · have hr1 : r = -1 := int_eq z
              refine ⟨_, rfl, fin pl _ s4 ?_⟩
              rw [k4, htot, hr1]
              have : playA Ar0 (-1) (is.drop (j + 1)) (rs.drop (j + 1)) = [] := by
                cases h1 : is.drop (j + 1) with
                | nil => rw [playA]
                | cons i2 ir =>
                  cases h2 : rs.drop (j + 1) with
                  | nil => rw [playA]
                  | cons r2 rr => rw [playA, stpP_out, if_neg Bool.false_ne_true]
              rw [this]
            · have hr1 : r ≠ -1 := int_ne z
              exact ⟨ps ++ [l], r, _, _, _, rfl, s4, k4, by rw [List.length_append]; exact Nat.add_le_add_right hps 1, by omega, hb.2, by rw [htot]; simp⟩
          · refine ifT (by rw [notIn_int, decide_eq_false hm] <;> rfl) ?_
            rw [decide_eq_false hm] at hst
            exact ⟨_, rfl, fin pl H3 s23 (out hst)⟩
        · have hlen : ¬ i < (zs.length : Int) := by rw [hP.e.1]; exact hi1
          refine ifT (by rw [decide_eq_false hlen] <;> rfl) ?_
          refine iteT ?_
          exact ⟨_, rfl, fin pl H3 s23 (out (stpP_far hP.a hi1))⟩
      · refine ifF (decide_eq_false hi0) ⟨_, rfl, ?_⟩
        refine iteT (iteT ?_)
        exact ⟨_, rfl, fin pl H3 s23 (out (stpP_neg hi0))⟩
    · rintro σ H2 ⟨ps, l, y5, y6, y7, rfl, s2, k2, hps, l0, l1, htot⟩
      refine ⟨_, rfl, fin pl H2 s2 ?_⟩
      rw [k2, htot, playP_nil (by
        rcases Nat.le_total is.length rs.length with h | h
        · exact .inl (List.drop_eq_nil_of_le (by omega))
        · exact .inr (List.drop_eq_nil_of_le (by omega))), List.append_nil]
  · refine ⟨_, (pss_cons (ps_set (i := 4) scplay_on.nd rfl (Or.inl rfl) (pe_lst (pa_cons (pv 1) pa_nil)))
    (pss_cons (ps_for  PassesOwn.never rfl (pi_zipM (by rfl) T.z_zip (pa_cons (pv 2) (pa_cons (pv 3) pa_nil))) (pg_tup rfl (pgs_cons (pg_name (i := 5) scplay_on.nd rfl (Or.inl rfl)) (pgs_cons (pg_name (i := 6) scplay_on.nd rfl (Or.inl rfl)) pgs_nil)))
    (pss_cons (ps_set (i := 7) scplay_on.nd rfl (Or.inl rfl) (pe_ix ix_tup (pv 0) (pe_ix ix_list (pv 4) (pe_un un_neg pe_int) (fun _ _ => rfl)) (fun _ _ => rfl)))
    (pss_cons (ps_if (PW.pt (pw_or (pt_not (pt_chain op_le op_lt pe_int (pv 5) (pe_callB call_len_seq (by rfl) T.z_len PySem.boot_len (pa_cons (pv 7) pa_nil)))) (pw_or1 (pt_cmpR op_notIn_seq (pv 6) (pe_ix ix_tup (pv 7) (pv 5) (fun _ _ => rfl)) (by rfl)))))
    (pss_one ps_break)
    pss_nil)
    (pss_cons (ps_expr (pe_bm PySem.F.plainAttrs_list PySem.F.slot_list_append PySem.F.type_list_append mt_append (pv 4) (pa_cons (pv 6) pa_nil)))
    (pss_one (ps_if (pt_cmpR op_eq (pv 6) (pe_un un_neg pe_int) (nomark _))
    (pss_one ps_break)
    pss_nil))))))
    (pss_one (ps_ret (pe_callTy call_tuple_of (by rfl) T.z_tuple (by decide +kernel) (pa_cons (pv 4) pa_nil)))))), ?_⟩
    refine ⟨_, rfl, Nat.le_of_ble_eq_true rfl, fun pl hpl => ?_⟩
    obtain ⟨H1, e1, s1, k1⟩ := newH hpl (.lst [.int st])
    rw [e1]
    refine ⟨_, rfl, _, rfl, a, b, _, rfl, s1.seq ha, same_seqT s1 hb, ?_⟩
    refine for_none (s1.seq ha) (same_seqT s1 hb) ?_
    exact ⟨_, rfl, fin pl H1 s1 (by rw [k1, playP_nil (.inr rfl)]; rfl)⟩
end
end NL

set_option maxHeartbeats 4000000
namespace NL
open PySem PySem.Spec PyProof.Rows L2
theorem asc_len {l : List Int} {n : Nat} {lo : Int} (ha : l.Pairwise (· < ·)) (hm : ∀ x ∈ l, lo ≤ x ∧ x < (n : Int)) (h0 : lo ≤ n) : (l.length : Int) ≤ n - lo := by
  induction l generalizing lo with
  | nil => show (0 : Int) ≤ _; omega
  | cons a r ih =>
    have h1 := hm a (List.mem_cons_self ..)
    have := ih (lo := a + 1) (List.Pairwise.of_cons ha) (fun x hx => by
      have h2 := List.rel_of_pairwise_cons ha hx
      have h3 := hm x (List.mem_cons_of_mem _ hx)
      omega) (by omega)
    rw [List.length_cons]
    omega
theorem KpG.len {n : Nat} {Kp : List Int} (h : KpG n Kp) : Kp.length ≤ n := by
  have := asc_len h.asc h.mem (by omega)
  omega
def sfR (A : Ar) (Kp : List Int) (r : Nat) : List Int := Kp.filter fun p => !gF true A Kp r p
noncomputable def sfE (A : Ar) (Kp : List Int) : List Int := Kp.filter fun p => (gR true A Kp p).isNone
theorem sfR_mem {A : Ar} {Kp : List Int} {r : Nat} {x : Int} (h : -1 ≤ x) : x ∈ sfR A Kp r ↔ gF true A Kp r x = false := by
  unfold sfR
  rw [List.mem_filter]
  constructor
  · rintro ⟨_, h2⟩
    simpa using h2
  · intro h2
    refine ⟨?_, by rw [h2]; rfl⟩
    have hx : x ≠ -1 := fun e => by
      rw [e, gF_out] at h2
      cases h2
    have h0 : gF true A Kp 0 x = false := by
      cases h3 : gF true A Kp 0 x with
      | false => rfl
      | true =>
        have := up_le (f := gF true A Kp) (fun k p e => gF_up k p e) (Nat.zero_le r) h3
        rw [h2] at this
        cases this
    rw [gF_0 (by omega), if_pos rfl] at h0
    by_cases hm : x ∈ Kp
    · exact hm
    · rw [decide_eq_false hm] at h0
      cases h0
theorem sfE_mem {A : Ar} {Kp : List Int} {x : Int} (h : -1 ≤ x) : x ∈ sfE A Kp ↔ gR true A Kp x = none := by
  unfold sfE
  rw [List.mem_filter]
  constructor
  · rintro ⟨_, h2⟩
    exact Option.isNone_iff_eq_none.mp h2
  · intro h2
    have h3 := gR_is true A Kp x
    rw [h2] at h3
    exact ⟨(List.mem_filter.mp ((sfR_mem (r := 0) h).mpr (h3 0))).1, by rw [h2]; rfl⟩
def stpS (A : Ar) (S : List Int) (p : Int) : Bool := ((A[p.toNat]?).getD []).any fun o => o.all fun x => decide (x ∈ S)
theorem sf_step {A : Ar} {Kp : List Int} (hin : InA A A.length) (hK : KpG A.length Kp) (r : Nat) : sfR A Kp (r + 1) = (sfR A Kp r).filter (stpS A (sfR A Kp r)) := by
  have h1 : sfR A Kp (r + 1) = Kp.filter fun p => (!gF true A Kp r p) && stpS A (sfR A Kp r) p := by
    refine List.filter_congr fun p hp => ?_
    have hb := hK.mem p hp
    obtain ⟨os, hos⟩ : ∃ os, A[p.toNat]? = some os := ⟨_, List.getElem?_eq_getElem (by omega)⟩
    have hs := gF_s (st := true) (Kp := Kp) (k := r) hos
    rw [show ((p.toNat : Nat) : Int) = p by omega, if_pos rfl] at hs
    rw [hs, Bool.not_or]
    congr 1
    unfold stpS frcM
    rw [hos, if_neg (by decide)]
    show (!os.all fun o => o.any (gF true A Kp r)) = os.any fun o => o.all fun x => decide (x ∈ sfR A Kp r)
    rw [List.not_all_eq_any_not]
    refine any_congr' fun o ho => ?_
    rw [List.not_any_eq_all_not]
    refine all_congr' fun x hx => ?_
    have hxm := hin os (List.mem_of_getElem? hos) o ho x hx
    cases hf : gF true A Kp r x with
    | false => exact (decide_eq_true ((sfR_mem hxm.1).mpr hf)).symm
    | true => exact (decide_eq_false fun e => by rw [(sfR_mem hxm.1).mp e] at hf; cases hf).symm
  rw [h1]
  unfold sfR
  rw [List.filter_filter]
  exact List.filter_congr fun p _ => Bool.and_comm _ _
/-- a round in which nothing is left out is the last one -/
theorem sf_done {A : Ar} {Kp : List Int} (hin : InA A A.length) (hK : KpG A.length Kp) {r : Nat} (h : sfR A Kp (r + 1) = sfR A Kp r) : sfR A Kp r = sfE A Kp := by
  have hst : ∀ L, r ≤ L → sfR A Kp L = sfR A Kp r := fun L hL => by
    induction hL with
    | refl => rfl
    | step _ ih => rw [sf_step hin hK, ih, ← sf_step hin hK, h]
  unfold sfE
  refine List.filter_congr fun p hp => ?_
  have hb := hK.mem p hp
  have hr := gR_is true A Kp p
  cases hR : gR true A Kp p with
  | none =>
    rw [hR] at hr
    rw [hr r]
    rfl
  | some a =>
    rw [hR] at hr
    have h2 : gF true A Kp r p = true := by
      cases hf : gF true A Kp r p with
      | true => rfl
      | false =>
        have h3 := (sfR_mem (A := A) (Kp := Kp) (r := r) (by omega)).mpr hf
        rw [← hst (max r a) (Nat.le_max_left r a)] at h3
        have h4 := (sfR_mem (A := A) (Kp := Kp) (by omega)).mp h3
        rw [up_le (fun k p e => gF_up k p e) (Nat.le_max_right r a) hr.1] at h4
        cases h4
    rw [h2]
    rfl
theorem filter_lt {α : Type} {p : α → Bool} {l : List α} (h : l.filter p ≠ l) : (l.filter p).length < l.length := by
  have h1 := List.length_filter_le p l
  rcases Nat.lt_or_ge (l.filter p).length l.length with h2 | h2
  · exact h2
  · exact absurd (List.Sublist.eq_of_length List.filter_sublist (by omega)) h
end NL

set_option maxHeartbeats 4000000
namespace NL
open PySem PySem.Spec PyProof.Rows L2
/-! ### can_know -/
/-- the numbers of the sets that lie in Kp -/
def insK (S : List (List Int)) (Kp : List Int) : Nat → List Int
  | 0 => []
  | n + 1 => insK S Kp n ++ if ((S[n]?).getD []).all (fun p => decide (p ∈ Kp)) = true then [(n : Int)] else []
theorem insK_mem {S : List (List Int)} {Kp : List Int} : ∀ {n : Nat} {x : Int}, x ∈ insK S Kp n ↔ 0 ≤ x ∧ x < (n : Int) ∧ ∀ p ∈ (S[x.toNat]?).getD [], p ∈ Kp
  | 0, x => ⟨fun h => (nomatch h), fun h => by omega⟩
  | n + 1, x => by
    unfold insK
    rw [List.mem_append, insK_mem]
    have hone : x ∈ (if ((S[n]?).getD []).all (fun p => decide (p ∈ Kp)) = true then [(n : Int)] else []) ↔ x = (n : Int) ∧ ∀ p ∈ (S[x.toNat]?).getD [], p ∈ Kp := by
      by_cases h : ((S[n]?).getD []).all (fun p => decide (p ∈ Kp)) = true
      · rw [if_pos h, List.mem_singleton]
        refine ⟨fun e => ⟨e, fun p hp => ?_⟩, fun e => e.1⟩
        rw [e, Int.toNat_natCast] at hp
        exact of_decide_eq_true (List.all_eq_true.mp h p hp)
      · rw [if_neg h]
        refine ⟨fun e => (nomatch e), fun e => absurd (List.all_eq_true.mpr fun p hp => decide_eq_true (e.2 p ?_)) h⟩
        rw [e.1, Int.toNat_natCast]
        exact hp
    rw [hone]
    constructor
    · rintro (h | h)
      · exact ⟨h.1, by omega, h.2.2⟩
      · exact ⟨by omega, by omega, h.2⟩
    · rintro ⟨h1, h2, h3⟩
      by_cases hx : x = (n : Int)
      · exact .inr ⟨hx, h3⟩
      · exact .inl ⟨h1, by omega, h3⟩
theorem insK_kp {S : List (List Int)} {Kp : List Int} : ∀ n : Nat, KpG n (insK S Kp n)
  | 0 => KpG.nil 0
  | n + 1 => by
    unfold insK
    split
    · have := (insK_kp (S := S) (Kp := Kp) n).snoc
      rw [Int.zero_add] at this
      exact this
    · rw [List.append_nil]
      exact (insK_kp n).up (Nat.le_succ n)
/-- the controller that sees only readings keeps Kp from the starts -/
def Knw (F : Ar) (S : List (List Int)) (Kp : List Int) (n : Nat) : Prop := ∀ k : Nat, k < n → ∀ j, gF true F (insK S Kp S.length) j (k : Int) = false
theorem gF_true (A : Ar) (Kp : List Int) : gF true A Kp = mr A 1 (psA A.length) (mkO true fun p => !decide (p ∈ Kp)) := rfl
theorem kn_good' {A : Ar} {rd : Int → Int} {st : List Int} {F : Ar} {S : List (List Int)} (hG : ArG A) (hn : A.length ≤ 46) (hs : Asc st) (hm : ∀ p ∈ st, 0 ≤ p ∧ p < (A.length : Int)) (h300 : S.length ≤ 300) (h : IsKn A rd st F S) : ArG F := by
  obtain ⟨I, hl⟩ := h.inv hG hs hm
  refine ⟨by omega, fun os hos => ?_⟩
  obtain ⟨k, hk⟩ := List.getElem?_of_mem hos
  have hkl := (List.getElem?_eq_some_iff.mp hk).1
  have hKk : S[k]? = some S[k] := List.getElem?_eq_getElem (by omega)
  obtain ⟨r1, r2⟩ := I.row k _ hkl hKk
  have hKS := I.ks _ (List.mem_of_getElem? hKk)
  rw [hk] at r1
  have r1 := Option.some.inj r1
  rw [r1]
  refine ⟨?_, fun o ho => ?_⟩
  · rw [List.length_map, List.length_range]
    obtain ⟨p, hp, e⟩ := wid_mem (A := A) hKS.ne
    obtain ⟨p0, p1⟩ := hKS.mem p hp
    have hk2 : p.toNat < A.length := by omega
    have h1 := (hG.2 _ (List.getElem_mem hk2)).1
    have e2 := lenOf_at (A := A) (p := p) (List.getElem?_eq_getElem hk2)
    omega
  · obtain ⟨i, hi, e⟩ := List.mem_map.mp ho
    have hi := List.mem_range.mp hi
    rw [← e, hl]
    exact optK_good hG hn hKS hi (r2 i hi)
section
variable {P : Program} {w : World} {K : PySem.W.Frag} {mg : Str → Option Value} {base : Heap}
def spCan (K : PySem.W.Frag) (Pt : Addr) : Sp := fun vs H Q _ => ∃ (av : V) (kp ra sa : Addr) (A : Ar) (Kp R st : List Int), vs = [av, .ref kp, .ref ra, .ref sa] ∧ ArIn H A av ∧ ArG A ∧ A.length ≤ 46 ∧ H kp = some (.tup (Kp.map V.int)) ∧ H ra = some (.tup (R.map V.int)) ∧ R.length = A.length ∧ H sa = some (.tup (st.map V.int)) ∧ Asc st ∧ (∀ p ∈ st, 0 ≤ p ∧ p < (A.length : Int)) ∧ FewK A (rdF R) st ∧ GxR.TabG H Pt ∧
  ∀ F S (b : Bool) H', Sm Pt H H' → IsKn A (rdF R) st F S → (b = true ↔ Knw F S Kp (prt (rdF R) st).length) → Q (.bl b) H'
theorem ok_can_know (T : Txt K mg) {c Pt : Addr} (TB : GxR.TabB base mg c Pt) (hc : T.dforces.code = .ref c) : FnOk P w K mg base CX0 6 T.acan_know T.dcan_know Pcan_know (spCan K Pt) := by
  have G_parted := ok_parted (P := P) (w := w) (base := base) T
  have Gknown_arena := ok_known_arena (P := P) (w := w) (base := base) T
  have Gstay_ranks := ok_stay_ranks (P := P) (w := w) T TB hc
  refine T.Fcan_know.ok sccan_know (fun vs H Q E h => ?_) (fun cdv A outer s H vs Q E hr h => ?_)
  · obtain ⟨av, kp, ra, sa, A, Kp, R, st, rfl, _⟩ := h
    rfl
  obtain ⟨av, kp, ra, sa, A0, Kp, R, st, rfl, hA, hG, hn, hkp, hra, hRl, hsa, hst, hsm, hfew, hT, q⟩ := h
  have hstl : st.length ≤ 60 := by
    have := asc_short (lo := 0) (hi := (A0.length : Int)) hst (fun x hx => hsm x hx) (by omega)
    omega
  refine ⟨_, (pss_cons (ps_asg (pe_call Gknown_arena (hr.mono (by omega)) (by rfl) T.mknown_arena T.Fknown_arena.kp T.bknown_arena .nil pass0 (pa_cons (pv 0) (pa_cons (pv 2) (pa_cons (pv 3) pa_nil)))) (pg_tup rfl (pgs_cons (pg_name (i := 4) sccan_know.nd rfl (Or.inl rfl)) (pgs_cons (pg_name (i := 5) sccan_know.nd rfl (Or.inl rfl)) pgs_nil))))
    (pss_cons (ps_setLc (i := 6) (own := [("number", 7), ("places", 8)]) (g := (gTup K 2 (gCons (gName 7) (gCons (gName 8) gNil)))) (tt := _) rfl sccan_know.nd rfl rfl (sw_true rfl rfl rfl (by decide +kernel)) (pi_enumT (by rfl) T.z_enumerate (pa_cons (pv 5) pa_nil)) (blkOk_by (N := Ncan_know) (sc := defScope scan_know) (by decide +kernel)) (fun _ _ _ _ _ => (pg_tup rfl (pgs_cons (pg_name (i := 7) sccan_know.nd rfl (Or.inl rfl)) (pgs_cons (pg_name (i := 8) sccan_know.nd rfl (Or.inl rfl)) pgs_nil)))) (fun _ _ _ _ _ => (pts_one (pt_val (pe_callB (cr_allK (K := K) rfl rfl) (by rfl) T.z_all (by decide +kernel) (pa_cons (pe_lc (own := [("at", 9)]) (g := (gName 9)) (tt := tYes) rfl sccan_know.nd (pi_tupK (K := K) rfl (pv 8)) (blkOk_by (by rfl)) (fun _ _ _ _ _ => (pg_name (i := 9) sccan_know.nd rfl (Or.inl rfl))) (fun _ _ _ _ _ => pts_nil) (fun _ _ _ _ _ => (pe_cmpR (op_in_seqK (K := K) rfl) (pv 9) (pv 1) (by rfl)))) pa_nil))))) (fun _ _ _ _ _ => (pv 7)))
    (pss_cons (ps_set (i := 10) sccan_know.nd rfl (Or.inl rfl) (pe_call Gstay_ranks (hr.mono (by omega)) (by rfl) T.mstay_ranks T.Fstay_ranks.kp T.bstay_ranks .nil pass0 (pa_cons (pv 4) (pa_cons (pv 6) pa_nil))))
    (pss_one (ps_ret (pe_callB (cr_all rfl) (by rfl) T.z_all (by decide +kernel) (pa_cons (pe_lc (own := [("rank", 11)]) (g := (gName 11)) (tt := tYes) rfl sccan_know.nd (pi_list (pe_slice sl_list (pv 10) po_none (po_some (pe_callB call_len_seq (by rfl) T.z_len PySem.boot_len (pa_cons (pe_call G_parted (hr.mono (by omega)) (by rfl) T.m_parted T.F_parted.kp T.b_parted .nil pass0 (pa_cons (pv 3) (pa_cons (pv 2) pa_nil))) pa_nil))))) (blkOk_by (N := Ncan_know) (sc := defScope scan_know) (by decide +kernel)) (fun _ _ _ _ _ => (pg_name (i := 11) sccan_know.nd rfl (Or.inl rfl))) (fun _ _ _ _ _ => pts_nil) (fun _ _ _ _ _ => (pe_cmpR op_isN (pv 11) pe_non (nomark _)))) pa_nil))))))), ?_⟩
  refine ⟨_, rfl, _, rfl, _, rfl, av, ra, sa, A0, R, st, rfl, hA, hG, hn, hra, hRl, hsa, hst, hsm, hfew, fun F S v H1 s1 hkn hin => ?_⟩
  obtain ⟨bk, xk, yk, rfl, hbk, hxk, bs, ys, rfl, hbs, hys⟩ := hin
  have hyl := hys.1
  obtain ⟨I, hFS⟩ := hkn.inv hG hst hsm
  have hS300 := hfew.of hkn
  have hFG := kn_good' hG hn hst hsm hS300 hkn
  refine ⟨bk, _, rfl, sqt hbk, rfl, _, _, rfl, _, _, rfl, rfl, ?_⟩
  refine ⟨_, rfl, bs, _, rfl, sqt hbs, fun L hL => ?_⟩
  refine lc_enumT (K := K) (a := bs) (xs := ys) (fun (j : Nat) (H' : Hp) => Same H1 H' ∧ H' L = some (.lst ((insK S Kp j).map V.int))) ?_ ?_ ?_ ?_
  · exact ⟨same_new hL _, upd_same⟩
  · rintro j H' ⟨s2, _⟩
    exact sqt (s2 _ _ hbs)
  · rintro j x t H2 hx ⟨s2, k2⟩ ht
    have hjl := (List.getElem?_eq_some_iff.mp hx).1
    obtain ⟨g, hg⟩ : ∃ g, S[j]? = some g := ⟨_, List.getElem?_eq_getElem (by omega)⟩
    obtain ⟨b, rfl, hb⟩ := hys.2 j g x hg hx
    obtain ⟨H3, e3, s3, k3⟩ := newH ht (.tup [.int (j : Nat), V.ref b])
    rw [e3]
    have s13 := s2.trans s3
    have hKS := I.ks g (List.mem_of_getElem? hg)
    have hgl : g.length ≤ 46 := by
      have := asc_short (lo := 0) (hi := (A0.length : Int)) hKS.asc (fun x hx => hKS.mem x hx) (by omega)
      omega
    refine ⟨t, _, rfl, sqt k3, rfl, _, _, rfl, _, _, rfl, rfl, rfl, ?_⟩
    refine ⟨_, rfl, b, rfl, ⟨_, sqt (s13 _ _ hb)⟩, fun M hM => ?_⟩
    refine lc_tup (K := K) (a := b) (xs := g.map V.int) (fun (m : Nat) (H' : Hp) => Same H3 H' ∧ H' M = some (.lst (((g.take m).map fun p => decide (p ∈ Kp)).map V.bl))) ?_ ?_ ?_ ?_
    · exact ⟨same_new hM _, upd_same⟩
    · rintro m H' _ ⟨s4, _⟩
      exact sqt (s4 _ _ (s13 _ _ hb))
    · rintro m x H4 hx4 ⟨s4, k4⟩
      rw [List.getElem?_map] at hx4
      obtain ⟨p, hp, rfl⟩ := Option.map_eq_some_iff.mp hx4
      have hml := (List.getElem?_eq_some_iff.mp hp).1
      refine ⟨rfl, yes_if ?_⟩
      refine ⟨_, rfl, _, rfl, kp, _, rfl, .inr (sqt (s4 _ _ (s13 _ _ (s1 _ _ hkp)))), rfl, flat_ints' Kp, _, k4, big' (by rw [List.length_map, List.length_map, List.length_take]; omega), same_put s4 hM, ?_⟩
      rw [upd_same, if_neg Bool.false_ne_true, int_in, List.take_add_one, hp, List.map_append, List.map_append]
      rfl
    · rintro H4 ⟨s4, k4⟩
      rw [List.length_map, List.take_length] at k4
      refine ⟨M, _, rfl, sqd k4, ?_⟩
      rw [List.all_map]
      have s14 := s13.trans s4
      have k24 := s4 _ _ (s3 _ _ k2)
      have hil : (insK S Kp j).length ≤ 300 := by
        have := (insK_kp (S := S) (Kp := Kp) j).len
        omega
      have hnx : insK S Kp (j + 1) = insK S Kp j ++ if g.all (fun p => decide (p ∈ Kp)) = true then [(j : Int)] else [] := by
        show insK S Kp j ++ (if ((S[j]?).getD []).all _ = true then _ else _) = _
        rw [hg]
        rfl
      cases hall : g.all fun p => decide (p ∈ Kp) with
      | true =>
        refine ⟨true, by rw [show g.all (id ∘ fun p => decide (p ∈ Kp)) = g.all fun p => decide (p ∈ Kp) from rfl, hall] <;> rfl, ?_⟩
        refine iteT ⟨_, rfl, _, k24, big' (by rw [List.length_map]; omega), same_put s14 hL, ?_⟩
        rw [upd_same, hnx, hall, if_pos rfl, List.map_append]
        rfl
      | false =>
        refine ⟨false, by rw [show g.all (id ∘ fun p => decide (p ∈ Kp)) = g.all fun p => decide (p ∈ Kp) from rfl, hall] <;> rfl, ?_⟩
        refine iteF ⟨s14, ?_⟩
        rw [hnx, hall, if_neg Bool.false_ne_true, List.append_nil]
        exact k24
  rintro H2 ⟨s2, k2⟩
  rw [hyl] at k2
  have s12 := s1.trans s2
  refine ⟨_, rfl, _, rfl, xk, F, L, _, rfl, (ArQ.of (hxk.tp (Tp.same s2))), by omega, hFG.inA, .inl (sqd k2), TabG.same hT s12, fun rl rs H3 s3 hrl k3 hR => ?_⟩
  have s03 : Sm Pt H H3 := (Sm.of s12).trans s3
  obtain ⟨hRl2, hR2⟩ := hR
  refine ⟨_, rfl, _, rfl, _, rfl, sa, ra, st, R, rfl, .inr (s03.tup hsa), s03.tup hra, hstl, fun p hp => by rw [hRl]; exact hsm p hp, fun gl gxs H4 s4 hgl k4 hgx => ?_⟩
  have hgl4 := hgx.1
  refine ⟨gl, _, rfl, .inl (sqd k4), _, rfl, rl, _, rfl, sqd (s4 _ _ k3), fun cl hcl => ?_⟩
  have hpre : (prt (rdF R) st).length ≤ F.length := by
    obtain ⟨T', hT'⟩ := I.pre
    rw [hFS, hT', List.length_append]
    omega
  rw [show cutV rs none (some ((gxs.length : Nat) : Int)) = rs.take gxs.length from cut_pre]
  obtain ⟨H5, e5, s5, k5⟩ := newH hcl (.lst (rs.take gxs.length))
  rw [e5]
  refine ⟨cl, rfl, ⟨_, sqd k5⟩, fun D hD => ?_⟩
  refine lc_list (K := K) (a := cl) (xs := rs.take gxs.length) (fun (m : Nat) (H' : Hp) => Same H5 H' ∧ ∃ bs : List Bool, H' D = some (.lst (bs.map V.bl)) ∧ bs.length = m ∧ ∀ k : Nat, k < m → ∀ b, bs[k]? = some b → (b = true ↔ ∀ j, gF true F (insK S Kp S.length) j (k : Int) = false)) ?_ ?_ ?_ ?_
  · exact ⟨same_new hD _, [], upd_same, rfl, fun k hk => absurd hk (Nat.not_lt_zero k)⟩
  · rintro m H' _ ⟨s6, _⟩
    exact sqd (s6 _ _ k5)
  · rintro m x H6 hx6 ⟨s6, bs', k6, hbl, hbs'⟩
    have hml := (List.getElem?_eq_some_iff.mp hx6).1
    rw [List.length_take] at hml
    rw [List.getElem?_take, if_pos (by omega)] at hx6
    obtain ⟨ro, hro, hrs⟩ := hR2 m (by omega)
    rw [hx6] at hrs
    cases hrs
    refine ⟨rfl, yes_if ?_⟩
    have put : ∀ b : Bool, (b = true ↔ ∀ j, gF true F (insK S Kp S.length) j (m : Int) = false) → Same H5 (upd H6 D (.lst (bs'.map V.bl ++ [V.bl b]))) ∧ ∃ bs : List Bool, upd H6 D (.lst (bs'.map V.bl ++ [V.bl b])) D = some (.lst (bs.map V.bl)) ∧ bs.length = m + 1 ∧ ∀ k : Nat, k < m + 1 → ∀ b, bs[k]? = some b → (b = true ↔ ∀ j, gF true F (insK S Kp S.length) j (k : Int) = false) := fun b hb => by
      refine ⟨same_put s6 hD, bs' ++ [b], by rw [upd_same, List.map_append]; rfl, by rw [List.length_append, hbl]; rfl, fun k hk b' hb' => ?_⟩
      by_cases hkm : k < m
      · rw [List.getElem?_append_left (by omega)] at hb'
        exact hbs' k hkm b' hb'
      · have : k = m := by omega
        subst this
        rw [List.getElem?_append_right (by omega), hbl, Nat.sub_self] at hb'
        cases hb'
        exact hb
    have hio : IsRk (gF true F (insK S Kp S.length)) (m : Int) ro := hro
    cases ro with
    | none => exact ⟨_, rfl, rfl, _, k6, big' (by rw [List.length_map]; omega), put true ⟨fun _ => hio, fun _ => rfl⟩⟩
    | some r => exact ⟨_, rfl, rfl, _, k6, big' (by rw [List.length_map]; omega), put false ⟨fun e => (nomatch e), fun h => by
        have := hio.1
        rw [h r] at this
        cases this⟩⟩
  rintro H6 ⟨s6, bs', k6, hbl, hbs'⟩
  have hlen : (rs.take gxs.length).length = (prt (rdF R) st).length := by rw [List.length_take]; omega
  rw [hlen] at hbl hbs'
  refine ⟨D, _, rfl, sqd k6, ?_⟩
  refine q F S _ H6 (((s03.trans (.of s4)).trans (.of s5)).trans (.of s6)) hkn ?_
  rw [List.all_eq_true]
  constructor
  · intro h k hk
    have hb : bs'[k]? = some bs'[k] := List.getElem?_eq_getElem (by omega)
    exact (hbs' k hk _ hb).mp (h _ (List.mem_of_getElem? hb))
  · intro h b hb
    obtain ⟨k, hk⟩ := List.getElem?_of_mem hb
    have hkl := (List.getElem?_eq_some_iff.mp hk).1
    exact (hbs' k (by omega) b hk).mpr (h k (by omega))
end
end NL

set_option maxHeartbeats 4000000
namespace NL
open PySem PySem.Spec PyProof.Rows L2
section
variable {P : Program} {w : World} {K : PySem.W.Frag} {mg : Str → Option Value} {base : Heap}
def spLKeep : Sp := fun vs H Q _ => ∃ (sv : V) (kp : Addr) (S : List (List Int)) (Kp : List Int), vs = [sv, .ref kp] ∧ PosIn H S sv ∧ S.length ≤ 300 ∧ (∀ g ∈ S, g.length ≤ 60) ∧ H kp = some (.tup (Kp.map V.int)) ∧
  ∀ p H', Same H H' → H' p = some (.tup ((insK S Kp S.length).map V.int)) → Q (.ref p) H'
theorem ok_law_known_keep (T : Txt K mg) : FnOk P w K mg base CX0 1 T.a_law_known_keep T.d_law_known_keep P_law_known_keep spLKeep := by
  refine T.F_law_known_keep.ok sc_law_known_keep (fun vs H Q E h => ?_) (fun cdv A outer s H vs Q E hr h => ?_)
  · obtain ⟨sv, kp, S, Kp, rfl, _⟩ := h
    rfl
  obtain ⟨sv, kp, S, Kp, rfl, ⟨bs, ys, rfl, hbs, hys⟩, hSl, hgl, hkp, q⟩ := h
  have hyl := hys.1
  refine ⟨_, (pss_one (ps_ret (pe_callTy call_tuple_of (by rfl) T.z_tuple (by decide +kernel) (pa_cons (pe_lc (own := [("k", 2)]) (g := (gName 2)) (tt := _) rfl sc_law_known_keep.nd (pi_range1 (by rfl) T.z_range (pa_cons (pe_callB call_len_seq (by rfl) T.z_len PySem.boot_len (pa_cons (pv 0) pa_nil)) pa_nil)) (blkOk_by (N := N_law_known_keep) (sc := defScope s_law_known_keep) (by decide +kernel)) (fun _ _ _ _ _ => (pg_name (i := 2) sc_law_known_keep.nd rfl (Or.inl rfl))) (fun _ _ _ _ _ => (pts_one (pt_cmpR op_eq (pe_callB (call_len_seqK (K := K) rfl) (by rfl) T.z_len PySem.boot_len (pa_cons (pe_lc (own := [("at", 3)]) (g := (gName 3)) (tt := _) rfl sc_law_known_keep.nd (pi_tupK (K := K) rfl (pe_ix (ix_tupK (K := K) rfl) (pv 0) (pv 2) (fun _ _ => rfl))) (blkOk_by (by rfl)) (fun _ _ _ _ _ => (pg_name (i := 3) sc_law_known_keep.nd rfl (Or.inl rfl))) (fun _ _ _ _ _ => (pts_one (pt_cmpR (op_notIn_seqK (K := K) rfl) (pv 3) (pv 1) (by rfl)))) (fun _ _ _ _ _ => (pv 3))) pa_nil)) pe_int (nomark _)))) (fun _ _ _ _ _ => (pv 2))) pa_nil)))), ?_⟩
  refine ⟨_, rfl, bs, _, rfl, .inr (sqt hbs), _, rfl, by omega, by omega, fun L hL => ?_⟩
  refine lc_range (lo := 0) (n := ((ys.length : Nat) : Int).toNat) (fun (j : Nat) (H' : Hp) => Same H H' ∧ H' L = some (.lst ((insK S Kp j).map V.int))) ?_ ?_ ?_
  · exact ⟨same_new hL _, upd_same⟩
  · rintro j H1 hj ⟨s1, k1⟩
    have hjl : j < S.length := by omega
    obtain ⟨g, hg⟩ : ∃ g, S[j]? = some g := ⟨_, List.getElem?_eq_getElem hjl⟩
    obtain ⟨x, hx, b, rfl, hb⟩ := hys.at hg
    have hgl60 := hgl g (List.mem_of_getElem? hg)
    refine ⟨rfl, ?_⟩
    refine ⟨_, rfl, _, rfl, bs, _, _, _, rfl, rfl, sqt (s1 _ _ hbs), by rw [Int.zero_add]; exact atI_nat hx, b, rfl, ⟨_, sqt (s1 _ _ hb)⟩, fun M hM => ?_⟩
    refine lc_tup (K := K) (a := b) (xs := g.map V.int) (fun (m : Nat) (H' : Hp) => Same H1 H' ∧ H' M = some (.lst (((g.take m).filter fun p => !decide (p ∈ Kp)).map V.int))) ?_ ?_ ?_ ?_
    · exact ⟨same_new hM _, upd_same⟩
    · rintro m H' _ ⟨s2, _⟩
      exact sqt (s2 _ _ (s1 _ _ hb))
    · rintro m x H2 hx2 ⟨s2, k2⟩
      rw [List.getElem?_map] at hx2
      obtain ⟨p, hp, rfl⟩ := Option.map_eq_some_iff.mp hx2
      have hml := (List.getElem?_eq_some_iff.mp hp).1
      have hfl := List.length_filter_le (fun p => !decide (p ∈ Kp)) (g.take m)
      rw [List.length_take] at hfl
      have hnx : (g.take (m + 1)).filter (fun p => !decide (p ∈ Kp)) = (g.take m).filter (fun p => !decide (p ∈ Kp)) ++ (if (!decide (p ∈ Kp)) = true then [p] else []) := by
        rw [List.take_add_one, hp, List.filter_append]
        congr 1
        rw [Option.toList_some, List.filter_cons]
        cases (!decide (p ∈ Kp)) <;> rfl
      refine ⟨rfl, ?_⟩
      refine ⟨_, rfl, _, rfl, kp, _, rfl, .inr (sqt (s2 _ _ (s1 _ _ hkp))), rfl, flat_ints' Kp, _, rfl, ?_⟩
      by_cases h : p ∈ Kp
      · refine ifF (by rw [notIn_int, decide_eq_true h] <;> rfl) ⟨s2, ?_⟩
        rw [hnx, decide_eq_true h, Bool.not_true, if_neg Bool.false_ne_true, List.append_nil]
        exact k2
      · refine ifT (by rw [notIn_int, decide_eq_false h] <;> rfl) ?_
        refine ⟨_, rfl, _, k2, big' (by rw [List.length_map]; omega), same_put s2 hM, ?_⟩
        rw [upd_same, hnx, decide_eq_false h, Bool.not_false, if_pos rfl, List.map_append]
        rfl
    · rintro H2 ⟨s2, k2⟩
      rw [List.length_map, List.take_length] at k2
      have k12 := s2 _ _ k1
      have hil : (insK S Kp j).length ≤ 300 := by
        have := (insK_kp (S := S) (Kp := Kp) j).len
        omega
      have hnx : insK S Kp (j + 1) = insK S Kp j ++ if g.all (fun p => decide (p ∈ Kp)) = true then [(j : Int)] else [] := by
        show insK S Kp j ++ (if ((S[j]?).getD []).all _ = true then _ else _) = _
        rw [hg]
        rfl
      have key : g.all (fun p => decide (p ∈ Kp)) = decide ((g.filter fun p => !decide (p ∈ Kp)).length = 0) := by
        refine Bool.eq_iff_iff.mpr ?_
        rw [List.all_eq_true, decide_eq_true_iff, List.length_eq_zero_iff, List.filter_eq_nil_iff]
        refine forall_congr' fun p => forall_congr' fun _ => ?_
        by_cases h : p ∈ Kp <;> simp [h]
      refine ⟨M, _, rfl, .inl (sqd k2), rfl, _, rfl, ?_⟩
      rw [List.length_map]
      by_cases h : (g.filter fun p => !decide (p ∈ Kp)).length = 0
      · rw [decide_eq_true h] at key
        refine ifT (decide_eq_true (by rw [h]; rfl)) ?_
        refine ⟨_, rfl, _, k12, big' (by rw [List.length_map]; omega), same_put (s1.trans s2) hL, ?_⟩
        rw [upd_same, hnx, key, if_pos rfl, List.map_append, Int.zero_add]
        rfl
      · rw [decide_eq_false h] at key
        refine ifF (decide_eq_false fun e => h (by have := V.int.inj e; omega)) ⟨s1.trans s2, ?_⟩
        rw [hnx, key, if_neg Bool.false_ne_true, List.append_nil]
        exact k12
  · rintro H1 ⟨s1, k1⟩
    rw [show ((ys.length : Nat) : Int).toNat = S.length by omega] at k1
    refine ⟨L, _, rfl, .inl ⟨sqd k1, fun t ht => ?_⟩⟩
    exact q t _ (s1.trans (same_new ht _)) upd_same
end
end NL

set_option maxHeartbeats 4000000
namespace NL
open PySem PySem.Spec PyProof.Rows L2
/-! ### what is never marked: the greatest set that is kept -/
def Kept (A : Ar) (Kp : List Int) (Z : Int → Prop) : Prop := ∀ q, Z q → 0 ≤ q ∧ q < (A.length : Int) ∧ q ∈ Kp ∧ ∃ os, A[q.toNat]? = some os ∧ ∃ o ∈ os, ∀ s ∈ o, s ≠ -1 ∧ Z s
theorem kept_never {A : Ar} {Kp : List Int} {Z : Int → Prop} (hZ : Kept A Kp Z) : ∀ (j : Nat) (q : Int), Z q → gF true A Kp j q = false
  | 0, q, hq => by
    obtain ⟨h0, _, h2, _⟩ := hZ q hq
    rw [gF_0 h0, if_pos rfl, decide_eq_true h2]
    rfl
  | j + 1, q, hq => by
    obtain ⟨h0, h1, _, os, hos, o, ho, hall⟩ := hZ q hq
    have hs := gF_s (st := true) (Kp := Kp) (k := j) hos
    rw [show ((q.toNat : Nat) : Int) = q by omega, kept_never hZ j q hq, if_pos rfl] at hs
    rw [hs, Bool.false_or]
    unfold frcM
    rw [if_neg (by decide)]
    refine Bool.eq_false_iff.mpr fun h => ?_
    have h2 := List.all_eq_true.mp h o ho
    obtain ⟨s, hs1, hs2⟩ := List.any_eq_true.mp h2
    rw [kept_never hZ j s (hall s hs1).2] at hs2
    cases hs2
theorem all_round {A : Ar} {Kp : List Int} : ∀ os : Pos', (∀ o ∈ os, ∃ j, o.any (gF true A Kp j) = true) → ∃ J, ∀ o ∈ os, o.any (gF true A Kp J) = true
  | [], _ => ⟨0, fun o h => nomatch h⟩
  | a :: r, h => by
    obtain ⟨j, hj⟩ := h a List.mem_cons_self
    obtain ⟨J, hJ⟩ := all_round r fun o ho => h o (List.mem_cons_of_mem _ ho)
    have up : ∀ {i k : Nat} {o : Opt}, i ≤ k → o.any (gF true A Kp i) = true → o.any (gF true A Kp k) = true := fun hik ho => by
      obtain ⟨s, h1, h2⟩ := List.any_eq_true.mp ho
      exact List.any_eq_true.mpr ⟨s, h1, up_le (fun k p e => gF_up k p e) hik h2⟩
    refine ⟨max j J, fun o ho => ?_⟩
    rcases List.mem_cons.mp ho with e | ho
    · rw [e]
      exact up (Nat.le_max_left j J) hj
    · exact up (Nat.le_max_right j J) (hJ o ho)
theorem never_kept {A : Ar} (hin : InA A A.length) (Kp : List Int) : Kept A Kp fun q => 0 ≤ q ∧ q < (A.length : Int) ∧ ∀ j, gF true A Kp j q = false := by
  rintro q ⟨h0, h1, hq⟩
  have hk : q ∈ Kp := by
    have := hq 0
    rw [gF_0 h0, if_pos rfl] at this
    simpa using this
  have hos : A[q.toNat]? = some A[q.toNat] := List.getElem?_eq_getElem (by omega)
  refine ⟨h0, h1, hk, _, hos, Classical.byContradiction fun hno => ?_⟩
  have hall : ∀ o ∈ A[q.toNat], ∃ j, o.any (gF true A Kp j) = true := fun o ho => Classical.byContradiction fun hj => hno ⟨o, ho, fun s hs => ?_⟩
  · obtain ⟨J, hJ⟩ := all_round _ hall
    have hs := gF_s (st := true) (Kp := Kp) (k := J) hos
    rw [show ((q.toNat : Nat) : Int) = q by omega, hq (J + 1), hq J, if_pos rfl, Bool.false_or] at hs
    have : frcM 1 A[q.toNat] (gF true A Kp J) = true := by
      unfold frcM
      rw [if_neg (by decide)]
      exact List.all_eq_true.mpr hJ
    rw [this] at hs
    cases hs
  · have hsr := hin _ (List.mem_of_getElem? hos) o ho s hs
    have hne : s ≠ -1 := fun e => hj ⟨0, List.any_eq_true.mpr ⟨s, hs, by rw [e]; exact gF_out 0⟩⟩
    refine ⟨hne, by omega, hsr.2, fun j => ?_⟩
    cases h : gF true A Kp j s with
    | false => rfl
    | true => exact absurd ⟨j, List.any_eq_true.mpr ⟨s, hs, h⟩⟩ hj
/-! ### sets that are won -/
def WinZ (A : Ar) (rd : Int → Int) (Kp : List Int) (Z : List Int → Prop) : Prop := ∀ g, Z g → KS rd (A.length : Int) g ∧ (∀ p ∈ g, p ∈ Kp) ∧ ∃ i, i < wid A g ∧ (-1 : Int) ∉ aft A g i ∧ ∀ h ∈ fol A rd g i, Z h
def Win (A : Ar) (rd : Int → Int) (Kp : List Int) (g : List Int) : Prop := ∃ Z, WinZ A rd Kp Z ∧ Z g
theorem win_z (A : Ar) (rd : Int → Int) (Kp : List Int) : WinZ A rd Kp (Win A rd Kp) := by
  rintro g ⟨Z, hZ, hg⟩
  obtain ⟨h1, h2, i, h3, h4, h5⟩ := hZ g hg
  exact ⟨h1, h2, i, h3, h4, fun h hh => ⟨Z, hZ, h5 h hh⟩⟩
theorem safe_win {A : Ar} {rd : Int → Int} {st Kp : List Int} {F : Ar} {S : List (List Int)} (hG : ArG A) (hn : A.length ≤ 46) (hs : Asc st) (hm : ∀ p ∈ st, 0 ≤ p ∧ p < (A.length : Int)) (hf : Few rd (A.length : Int)) (hk : IsKn A rd st F S) {k : Nat} {g : List Int} (hg : S[k]? = some g) :
    (∀ j, gF true F (insK S Kp S.length) j (k : Int) = false) ↔ Win A rd Kp g := by
  obtain ⟨I, hl⟩ := hk.inv hG hs hm
  have hFG := kn_good hG hn hs hm hf hk
  constructor
  · intro h
    refine ⟨fun g => ∃ k : Nat, S[k]? = some g ∧ ∀ j, gF true F (insK S Kp S.length) j (k : Int) = false, ?_, k, hg, h⟩
    rintro g ⟨k, hg, h⟩
    have hkl := (List.getElem?_eq_some_iff.mp hg).1
    obtain ⟨_, _, h2, os, hos, o, ho, hall⟩ := never_kept hFG.inA (insK S Kp S.length) (k : Int) ⟨by omega, by omega, h⟩
    rw [Int.toNat_natCast] at hos
    obtain ⟨r1, r2⟩ := I.row k g (by omega) hg
    rw [hos] at r1
    have r1 := Option.some.inj r1
    rw [r1] at ho
    obtain ⟨i, hi, rfl⟩ := List.mem_map.mp ho
    have hi := List.mem_range.mp hi
    obtain ⟨_, _, h3⟩ := insK_mem.mp h2
    rw [Int.toNat_natCast, hg] at h3
    refine ⟨I.ks g (List.mem_of_getElem? hg), h3, i, hi, fun hm1 => ?_, fun x hx => ?_⟩
    · exact (hall (-1) (mem_optK.mpr (.inl ⟨rfl, hm1⟩))).1 rfl
    · have hxS := r2 i hi x hx
      have := (hall ((nr S x : Nat) : Int) (mem_optK.mpr (.inr (List.mem_map.mpr ⟨x, hx, rfl⟩)))).2
      exact ⟨nr S x, nr_get hxS, this.2.2⟩
  · rintro ⟨Z, hZ, hZg⟩ j
    have hkl := (List.getElem?_eq_some_iff.mp hg).1
    refine kept_never (Z := fun q => 0 ≤ q ∧ ∃ g, S[q.toNat]? = some g ∧ Z g) ?_ j (k : Int) ⟨by omega, g, by rw [Int.toNat_natCast]; exact hg, hZg⟩
    rintro q ⟨h0, g, hg, hZg⟩
    have hql := (List.getElem?_eq_some_iff.mp hg).1
    obtain ⟨h1, h2, i, hi, h3, h4⟩ := hZ g hZg
    obtain ⟨r1, r2⟩ := I.row q.toNat g (by omega) hg
    refine ⟨h0, by omega, insK_mem.mpr ⟨h0, by omega, by rw [hg]; exact h2⟩, _, r1, _, List.mem_map.mpr ⟨i, List.mem_range.mpr hi, rfl⟩, fun s hs => ?_⟩
    rcases mem_optK.mp hs with ⟨_, h⟩ | h
    · exact absurd h h3
    · obtain ⟨x, hx, e⟩ := List.mem_map.mp h
      have e : ((nr S x : Nat) : Int) = s := e
      refine ⟨by omega, by omega, x, ?_, h4 x hx⟩
      rw [← e, Int.toNat_natCast]
      exact nr_get (r2 i hi x hx)
/-- what can_know says: all sets that the starts make are won -/
theorem knw_win {A : Ar} {rd : Int → Int} {st Kp : List Int} {F : Ar} {S : List (List Int)} (hG : ArG A) (hn : A.length ≤ 46) (hs : Asc st) (hm : ∀ p ∈ st, 0 ≤ p ∧ p < (A.length : Int)) (hf : Few rd (A.length : Int)) (hk : IsKn A rd st F S) : Knw F S Kp (prt rd st).length ↔ ∀ g ∈ prt rd st, Win A rd Kp g := by
  obtain ⟨I, hl⟩ := hk.inv hG hs hm
  obtain ⟨T, hT⟩ := I.pre
  have hat : ∀ (k : Nat) (g : List Int), (prt rd st)[k]? = some g → S[k]? = some g := fun k g hg => by
    rw [hT, List.getElem?_append_left (List.getElem?_eq_some_iff.mp hg).1]
    exact hg
  constructor
  · intro h g hg
    obtain ⟨k, hk2⟩ := List.getElem?_of_mem hg
    exact (safe_win hG hn hs hm hf hk (hat k g hk2)).mp (h k (List.getElem?_eq_some_iff.mp hk2).1)
  · intro h k hk2
    have hg : (prt rd st)[k]? = some (prt rd st)[k] := List.getElem?_eq_getElem hk2
    exact (safe_win hG hn hs hm hf hk (hat k _ hg)).mpr (h _ (List.mem_of_getElem? hg))
theorem wid_sub {A : Ar} {X Y : List Int} (hX : X ≠ []) (h : ∀ p ∈ X, p ∈ Y) : wid A Y ≤ wid A X := by
  obtain ⟨p, hp, e⟩ := wid_mem (A := A) hX
  rw [e]
  exact wid_le p (h p hp)
theorem aft_sub {A : Ar} {X Y : List Int} {i : Nat} (h : ∀ p ∈ X, p ∈ Y) {s : Int} (hs : s ∈ aft A X i) : s ∈ aft A Y i := by
  obtain ⟨p, hp, hs⟩ := List.mem_flatMap.mp hs
  exact List.mem_flatMap.mpr ⟨p, h p hp, hs⟩
/-- fewer positions and finer readings -/
theorem win_mono {A : Ar} (hG : ArG A) {rd rd' : Int → Int} {Kp : List Int} (hr : ∀ p q, 0 ≤ p → p < (A.length : Int) → 0 ≤ q → q < (A.length : Int) → rd' p = rd' q → rd p = rd q) {X Y : List Int} (hX : KS rd' (A.length : Int) X) (h : ∀ p ∈ X, p ∈ Y) (hY : Win A rd Kp Y) : Win A rd' Kp X := by
  refine ⟨fun X => KS rd' (A.length : Int) X ∧ ∃ Y, Win A rd Kp Y ∧ ∀ p ∈ X, p ∈ Y, ?_, hX, Y, hY, h⟩
  rintro X ⟨hX, Y, hY, h⟩
  obtain ⟨h1, h2, i, hi, h3, h4⟩ := win_z A rd Kp Y hY
  have hiX := Nat.lt_of_lt_of_le hi (wid_sub (A := A) hX.ne h)
  refine ⟨hX, fun p hp => h2 p (h p hp), i, hiX, fun e => h3 (aft_sub h e), fun x hx => ⟨fol_ks hG hX hiX x hx, ?_⟩⟩
  obtain ⟨p, hp, rfl⟩ := mem_prt hx
  have hsub : ∀ q, q ∈ (succs A X i).filter (fun p => !decide (p = -1)) → q ∈ (succs A Y i).filter fun p => !decide (p = -1) := fun q hq => by
    obtain ⟨q1, q2⟩ := List.mem_filter.mp hq
    exact List.mem_filter.mpr ⟨mem_srt.mpr (aft_sub h (mem_srt.mp q1)), q2⟩
  have hrg : ∀ q, q ∈ (succs A X i).filter (fun p => !decide (p = -1)) → 0 ≤ q ∧ q < (A.length : Int) := fun q hq => by
    obtain ⟨q1, q2⟩ := List.mem_filter.mp hq
    have := succs_mem hG hX.mem (fun p hp => Nat.lt_of_lt_of_le hiX (wid_le p hp)) q q1
    have q3 : q ≠ -1 := by simpa using q2
    omega
  refine ⟨_, h4 _ (prt_of (hsub p hp)), fun q hq => ?_⟩
  obtain ⟨q1, q2⟩ := List.mem_filter.mp hq
  have r1 := hrg q q1
  have r2 := hrg p hp
  exact List.mem_filter.mpr ⟨hsub q q1, decide_eq_true (hr q p r1.1 r1.2 r2.1 r2.2 (of_decide_eq_true q2))⟩
/-- readings that are all unlike -/
def Inj (rd : Int → Int) (n : Int) : Prop := ∀ p q, 0 ≤ p → p < n → 0 ≤ q → q < n → rd p = rd q → p = q
theorem ks_one {rd : Int → Int} {n : Int} (hi : Inj rd n) {g : List Int} (h : KS rd n g) : ∃ p, g = [p] ∧ 0 ≤ p ∧ p < n := by
  match g, h with
  | [], h => exact absurd rfl h.ne
  | [p], h => exact ⟨p, rfl, h.mem p List.mem_cons_self⟩
  | p :: q :: r, h =>
    have hp := h.mem p List.mem_cons_self
    have hq := h.mem q (List.mem_cons_of_mem _ List.mem_cons_self)
    have e := hi p q hp.1 hp.2 hq.1 hq.2 (h.one p List.mem_cons_self q (List.mem_cons_of_mem _ List.mem_cons_self))
    have := (List.pairwise_cons.mp h.asc).1 q List.mem_cons_self
    omega
theorem ks_single {rd : Int → Int} {n p : Int} (h0 : 0 ≤ p) (h1 : p < n) : KS rd n [p] := ⟨by simp, List.pairwise_singleton _ _, fun x hx => by rw [List.mem_singleton.mp hx]; exact ⟨h0, h1⟩, fun x hx y hy => by rw [List.mem_singleton.mp hx, List.mem_singleton.mp hy]⟩
theorem win_one {A : Ar} (hG : ArG A) {rd : Int → Int} {Kp : List Int} (hi : Inj rd (A.length : Int)) {p : Int} (h0 : 0 ≤ p) (h1 : p < (A.length : Int)) : Win A rd Kp [p] ↔ ∀ j, gF true A Kp j p = false := by
  have haft : ∀ (q : Int) (i : Nat), aft A [q] i = optOf A q i := fun q i => by
    unfold aft
    rw [List.flatMap_cons, List.flatMap_nil, List.append_nil]
  constructor
  · rintro ⟨Z, hZ, hp⟩ j
    refine kept_never (Z := fun q => Z [q]) ?_ j p hp
    intro q hq
    obtain ⟨h2, h3, i, hiw, h4, h5⟩ := hZ [q] hq
    have hqm := h2.mem q List.mem_cons_self
    obtain ⟨os, o, hos, ho, e, _, hO, hom, _⟩ := optOf_g hG hqm.1 hqm.2 (show i < lenOf A q from hiw)
    rw [haft, e] at h4
    refine ⟨hqm.1, hqm.2, h3 q List.mem_cons_self, os, hos, o, hom, fun s hs => ?_⟩
    have hne : s ≠ -1 := fun e => h4 (e ▸ hs)
    refine ⟨hne, ?_⟩
    have hsf : s ∈ (succs A [q] i).filter fun p => !decide (p = -1) := List.mem_filter.mpr ⟨mem_srt.mpr (by rw [haft, e]; exact hs), by simp [hne]⟩
    have hf := h5 _ (prt_of hsf)
    obtain ⟨s', e', _⟩ := ks_one hi (fol_ks hG h2 hiw _ (prt_of hsf))
    have hsin : s ∈ ((succs A [q] i).filter fun p => !decide (p = -1)).filter fun x => decide (rd x = rd s) := List.mem_filter.mpr ⟨hsf, decide_eq_true rfl⟩
    rw [e'] at hsin hf
    rw [List.mem_singleton.mp hsin]
    exact hf
  · intro h
    refine ⟨fun g => ∃ q, g = [q] ∧ 0 ≤ q ∧ q < (A.length : Int) ∧ ∀ j, gF true A Kp j q = false, ?_, p, rfl, h0, h1, h⟩
    rintro g ⟨q, rfl, q0, q1, hq⟩
    obtain ⟨_, _, hk, os, hos, o, ho, hall⟩ := never_kept hG.inA Kp q ⟨q0, q1, hq⟩
    obtain ⟨i, hi2⟩ := List.getElem?_of_mem ho
    have hil := (List.getElem?_eq_some_iff.mp hi2).1
    have e := optOf_at hos hi2
    have hw : i < wid A [q] := by
      show i < lenOf A q
      rw [lenOf_at hos]
      exact hil
    refine ⟨ks_single q0 q1, fun x hx => by rw [List.mem_singleton.mp hx]; exact hk, i, hw, fun hm => ?_, fun x hx => ?_⟩
    · rw [haft, e] at hm
      exact (hall _ hm).1 rfl
    · obtain ⟨s, e2, s0, s1⟩ := ks_one hi (fol_ks hG (ks_single q0 q1) hw x hx)
      obtain ⟨p', hp', e3⟩ := mem_prt hx
      have hsx : s ∈ x := by rw [e2]; exact List.mem_cons_self
      rw [e3] at hsx
      have := (List.mem_filter.mp (List.mem_filter.mp hsx).1).1
      have hso : s ∈ o := by
        have := mem_srt.mp this
        rw [haft, e] at this
        exact this
      exact ⟨s, e2, (hall s hso).2⟩
/-- a start stands in one of the sets -/
theorem prt_has {rd : Int → Int} {st : List Int} {p : Int} (h : p ∈ st) : ∃ g ∈ prt rd st, p ∈ g := ⟨_, prt_of h, List.mem_filter.mpr ⟨h, decide_eq_true rfl⟩⟩
end NL

set_option maxHeartbeats 4000000
namespace NL
open PySem PySem.Spec PyProof.Rows L2
section
variable {P : Program} {w : World} {K : PySem.W.Frag} {mg : Str → Option Value} {base : Heap}
def spPicks (K : PySem.W.Frag) : Sp := fun vs H Q _ => ∃ (a d : Addr) (ns : List Int) (n : Nat), vs = [.ref a, .ref d, .int n] ∧ ScrL K d H a (ns.map V.int) ∧ ns.length ≤ 63 ∧ Dr H d ∧ n ≤ 100 ∧
  ∀ (p : Addr) (zs : List Int) H', Go d H H' → H p = none → H' p = some (.lst (zs.map V.int)) → zs.length = n → Q (.ref p) H'
theorem ok_law_picks (T : Txt K mg) : FnOk P w K mg base CX0 2 T.a_law_picks T.d_law_picks P_law_picks (spPicks K) := by
  have G_law_take := ok_law_take (P := P) (w := w) (base := base) T
  refine T.F_law_picks.ok sc_law_picks (fun vs H Q E h => ?_) (fun cdv A outer s H vs Q E hr h => ?_)
  · obtain ⟨a, d, ns, n, rfl, _⟩ := h
    rfl
  obtain ⟨a, d, ns, n, rfl, hS, hl, hD, hn, q⟩ := h
  refine ⟨_, (pss_cons (ps_set (i := 3) sc_law_picks.nd rfl (Or.inl rfl) (pe_call G_law_take (hr.mono (by omega)) (by rfl) T.m_law_take T.F_law_take.kp T.b_law_take .nil pass0 (pa_cons (pv 1) (pa_cons pe_int pa_nil))))
    (pss_cons (ps_set (i := 4) sc_law_picks.nd rfl (Or.inr rfl) (pe_call G_law_take (hr.mono (by omega)) (by rfl) T.m_law_take T.F_law_take.kp T.b_law_take .nil pass0 (pa_cons (pv 1) (pa_cons pe_int pa_nil))))
    (pss_cons (ps_set (i := 5) sc_law_picks.nd rfl (Or.inr rfl) (pe_call G_law_take (hr.mono (by omega)) (by rfl) T.m_law_take T.F_law_take.kp T.b_law_take .nil pass0 (pa_cons (pv 1) (pa_cons pe_int pa_nil))))
    (pss_cons (ps_if (PW.pt (pw_and (pt_cmpR op_eq (pv 3) pe_int (nomark _)) (pw_and1 (pt_cmpR op_gt (pe_callB call_len_seq (by rfl) T.z_len PySem.boot_len (pa_cons (pv 0) pa_nil)) pe_int (nomark _)))))
    (pss_one (ps_ret (pe_lc (own := [("k", 6)]) (g := (gName 6)) (tt := tYes) rfl sc_law_picks.nd (pi_range1 (by rfl) T.z_range (pa_cons (pv 2) pa_nil)) (blkOk_by (N := N_law_picks) (sc := defScope s_law_picks) (by decide +kernel)) (fun _ _ _ _ _ => (pg_name (i := 6) sc_law_picks.nd rfl (Or.inl rfl))) (fun _ _ _ _ _ => pts_nil) (fun _ _ _ _ _ => (pe_callTy call_int1 (by rfl) T.z_int (by decide +kernel) (pa_cons (pe_ix (ix_listK (K := K) rfl) (pv 0) (pe_op op_mod (pv 6) (pe_callB (call_len_seqK (K := K) rfl) (by rfl) T.z_len PySem.boot_len (pa_cons (pv 0) pa_nil))) (fun _ _ => rfl)) pa_nil))))))
    pss_nil)
    (pss_cons (ps_if (pt_cmpR op_eq (pv 3) pe_int (nomark _))
    (pss_one (ps_ret (pe_lc (own := [("k", 6)]) (g := (gName 6)) (tt := tYes) rfl sc_law_picks.nd (pi_range1 (by rfl) T.z_range (pa_cons (pv 2) pa_nil)) (blkOk_by (N := N_law_picks) (sc := defScope s_law_picks) (by decide +kernel)) (fun _ _ _ _ _ => (pg_name (i := 6) sc_law_picks.nd rfl (Or.inl rfl))) (fun _ _ _ _ _ => pts_nil) (fun _ _ _ _ _ => (pe_op op_sub (pe_op op_mod (pe_callTy call_int1 (by rfl) T.z_int (by decide +kernel) (pa_cons (pe_op op_add (pv 4) (pe_op op_mul (pe_op op_mul (pv 5) (pv 6)) (pv 6))) pa_nil)) pe_int) pe_int)))))
    pss_nil)
    (pss_one (ps_ret (pe_lc (own := [("k", 6)]) (g := (gName 6)) (tt := tYes) rfl sc_law_picks.nd (pi_range1 (by rfl) T.z_range (pa_cons (pv 2) pa_nil)) (blkOk_by (N := N_law_picks) (sc := defScope s_law_picks) (by decide +kernel)) (fun _ _ _ _ _ => (pg_name (i := 6) sc_law_picks.nd rfl (Or.inl rfl))) (fun _ _ _ _ _ => pts_nil) (fun _ _ _ _ _ => (pe_callTy call_int1 (by rfl) T.z_int (by decide +kernel) (pa_cons (pe_op op_add (pe_op op_add (pv 4) (pe_op op_mul (pv 5) (pv 6))) (pe_op op_fdiv (pv 6) pe_int)) pa_nil))))))))))), ?_⟩
  refine ⟨_, rfl, d, 3, rfl, hD, by decide, fun u1 H1 g1 _ _ => ?_⟩
  refine ⟨_, rfl, d, 900, rfl, g1.dr, by decide, fun u2 H2 g2 a2 b2 => ?_⟩
  refine ⟨_, rfl, d, 900, rfl, g2.dr, by decide, fun u3 H3 g3 a3 b3 => ?_⟩
  have g13 := (g1.trans g2).trans g3
  have hS3 := hS.go g13
  have mk : ∀ (D : Addr) (H' : Hp) (zs : List Int), H3 D = none → Same H3 H' → H' D = some (.lst (zs.map V.int)) → zs.length = n → Q (.ref D) H' := fun D H' zs h1 h2 h3 h4 => q D zs H' (g13.trans (.same g3.dr h2)) (g13.free h1) h3 h4
  have step : ∀ (D : Addr) (i : Nat) (H4 : Hp) (zs : List Int) (z : Int), i < 100 → H3 D = none → Same H3 H4 → H4 D = some (.lst (zs.map V.int)) → zs.length = i → ∃ acc, H4 D = some (.lst acc) ∧ acc.length < sizeLine ∧ (Same H3 (upd H4 D (.lst (acc ++ [V.int z]))) ∧ ∃ zs : List Int, upd H4 D (.lst (acc ++ [V.int z])) D = some (.lst (zs.map V.int)) ∧ zs.length = i + 1) := fun D i H4 zs z hi hD s4 k4 hz => ⟨_, k4, big' (by rw [List.length_map]; omega), same_put s4 hD, zs ++ [z], by rw [upd_same, List.map_append]; rfl, by rw [List.length_append, hz]; rfl⟩
  refine ⟨_, rfl, rfl, _, rfl, ?_⟩
  refine ite2 (fun z => ?_) (fun z => ?_)
  · refine ⟨_, rfl, a, _, rfl, .inl hS3.1, _, _, rfl, rfl, _, rfl, ?_⟩
    refine ite2 (fun z2 => ?_) (fun z2 => ?_)
    · have hlen : (0 : Int) < ((ns.map V.int).length : Nat) := of_decide_eq_true z2
      rw [List.length_map] at hlen
      refine ⟨_, rfl, _, rfl, by omega, by omega, fun D hD' => ?_⟩
      refine lc_range (lo := 0) (n := ((n : Nat) : Int).toNat) (fun (i : Nat) (H' : Hp) => Same H3 H' ∧ ∃ zs : List Int, H' D = some (.lst (zs.map V.int)) ∧ zs.length = i) ?_ ?_ ?_
      · exact ⟨same_new hD' _, [], upd_same, rfl⟩
      · rintro i H4 hi ⟨s4, zs, k4, hz⟩
        refine ⟨rfl, yes_if ?_⟩
        have hm0 : (0 : Int) ≤ (0 + (i : Int)) % (ns.length : Int) := Int.emod_nonneg _ (by omega)
        have hm1 : (0 + (i : Int)) % (ns.length : Int) < (ns.length : Int) := Int.emod_lt_of_pos _ (by omega)
        obtain ⟨x, hx, _⟩ := atI_map (f := V.int) (xs := ns) hm0 hm1
        exact ⟨_, rfl, _, rfl, _, rfl, a, _, rfl, .inl (hS3.sm s4).1, _, _, rfl, rfl, by rw [List.length_map]; omega, a, _, _, _, rfl, rfl, (hS3.sm s4).1, by rw [List.length_map]; exact hx, .inl ⟨_, rfl, step D i H4 zs x (by omega) hD' s4 k4 hz⟩⟩
      · rintro H4 ⟨s4, zs, k4, hz⟩
        exact mk D H4 zs hD' s4 k4 (by omega)
    · refine ⟨_, rfl, rfl, _, rfl, ?_⟩
      refine ite2 (fun z3 => ?_) (fun z3 => ?_)
      · refine ⟨_, rfl, _, rfl, by omega, by omega, fun D hD' => ?_⟩
        refine lc_range (lo := 0) (n := ((n : Nat) : Int).toNat) (fun (i : Nat) (H' : Hp) => Same H3 H' ∧ ∃ zs : List Int, H' D = some (.lst (zs.map V.int)) ∧ zs.length = i) ?_ ?_ ?_
        · exact ⟨same_new hD' _, [], upd_same, rfl⟩
        · rintro i H4 hi ⟨s4, zs, k4, hz⟩
          refine ⟨rfl, yes_if ?_⟩
          have hsm : -(2 ^ 64 : Int) < 0 + (i : Int) ∧ (0 + (i : Int)) < 2 ^ 64 := by omega
          refine ⟨_, rfl, _, rfl, _, rfl, _, _, rfl, rfl, .inr hsm, _, rfl, _, _, rfl, rfl, .inr hsm, _, _, rfl, rfl, .inl ⟨_, rfl, _, _, rfl, rfl, (show (0 : Int) < 1009 by decide), _, _, rfl, rfl, ?_⟩⟩
          exact step D i H4 zs _ (by omega) hD' s4 k4 hz
        · rintro H4 ⟨s4, zs, k4, hz⟩
          exact mk D H4 zs hD' s4 k4 (by omega)
      · refine ⟨_, rfl, _, rfl, by omega, by omega, fun D hD' => ?_⟩
        refine lc_range (lo := 0) (n := ((n : Nat) : Int).toNat) (fun (i : Nat) (H' : Hp) => Same H3 H' ∧ ∃ zs : List Int, H' D = some (.lst (zs.map V.int)) ∧ zs.length = i) ?_ ?_ ?_
        · exact ⟨same_new hD' _, [], upd_same, rfl⟩
        · rintro i H4 hi ⟨s4, zs, k4, hz⟩
          refine ⟨rfl, yes_if ?_⟩
          have hsm : -(2 ^ 64 : Int) < 0 + (i : Int) ∧ (0 + (i : Int)) < 2 ^ 64 := by omega
          refine ⟨_, rfl, _, rfl, _, rfl, _, _, rfl, rfl, .inr hsm, _, _, rfl, rfl, _, rfl, _, _, rfl, rfl, ⟨(by decide : (0 : Int) < 7), (by decide : (7 : Int) < 1073741824)⟩, _, _, rfl, rfl, .inl ⟨_, rfl, ?_⟩⟩
          exact step D i H4 zs _ (by omega) hD' s4 k4 hz
        · rintro H4 ⟨s4, zs, k4, hz⟩
          exact mk D H4 zs hD' s4 k4 (by omega)
  · refine ⟨_, rfl, rfl, _, rfl, ?_⟩
    refine ite2 (fun z3 => ?_) (fun z3 => ?_)
    · refine ⟨_, rfl, _, rfl, by omega, by omega, fun D hD' => ?_⟩
      refine lc_range (lo := 0) (n := ((n : Nat) : Int).toNat) (fun (i : Nat) (H' : Hp) => Same H3 H' ∧ ∃ zs : List Int, H' D = some (.lst (zs.map V.int)) ∧ zs.length = i) ?_ ?_ ?_
      · exact ⟨same_new hD' _, [], upd_same, rfl⟩
      · rintro i H4 hi ⟨s4, zs, k4, hz⟩
        refine ⟨rfl, yes_if ?_⟩
        have hsm : -(2 ^ 64 : Int) < 0 + (i : Int) ∧ (0 + (i : Int)) < 2 ^ 64 := by omega
        refine ⟨_, rfl, _, rfl, _, rfl, _, _, rfl, rfl, .inr hsm, _, rfl, _, _, rfl, rfl, .inr hsm, _, _, rfl, rfl, .inl ⟨_, rfl, _, _, rfl, rfl, (show (0 : Int) < 1009 by decide), _, _, rfl, rfl, ?_⟩⟩
        exact step D i H4 zs _ (by omega) hD' s4 k4 hz
      · rintro H4 ⟨s4, zs, k4, hz⟩
        exact mk D H4 zs hD' s4 k4 (by omega)
    · refine ⟨_, rfl, _, rfl, by omega, by omega, fun D hD' => ?_⟩
      refine lc_range (lo := 0) (n := ((n : Nat) : Int).toNat) (fun (i : Nat) (H' : Hp) => Same H3 H' ∧ ∃ zs : List Int, H' D = some (.lst (zs.map V.int)) ∧ zs.length = i) ?_ ?_ ?_
      · exact ⟨same_new hD' _, [], upd_same, rfl⟩
      · rintro i H4 hi ⟨s4, zs, k4, hz⟩
        refine ⟨rfl, yes_if ?_⟩
        have hsm : -(2 ^ 64 : Int) < 0 + (i : Int) ∧ (0 + (i : Int)) < 2 ^ 64 := by omega
        refine ⟨_, rfl, _, rfl, _, rfl, _, _, rfl, rfl, .inr hsm, _, _, rfl, rfl, _, rfl, _, _, rfl, rfl, ⟨(by decide : (0 : Int) < 7), (by decide : (7 : Int) < 1073741824)⟩, _, _, rfl, rfl, .inl ⟨_, rfl, ?_⟩⟩
        exact step D i H4 zs _ (by omega) hD' s4 k4 hz
      · rintro H4 ⟨s4, zs, k4, hz⟩
        exact mk D H4 zs hD' s4 k4 (by omega)
end
end NL

set_option maxHeartbeats 4000000
namespace NL
open PySem PySem.Spec PyProof.Rows L2
theorem in_int {x : Int} {l : List Int} : (if false = true then !inV (V.int x) (l.map V.int) else inV (V.int x) (l.map V.int)) = decide (x ∈ l) := by
  have h := notIn_int (x := x) (l := l)
  rw [if_pos rfl] at h
  rw [if_neg Bool.false_ne_true]
  cases hb : inV (V.int x) (l.map V.int) <;> rw [hb] at h <;> cases hd : decide (x ∈ l) <;> rw [hd] at h <;> first | rfl | cases h
/-! ### one step of whoever keeps to the told paper of the known arena -/
def HoldK (F : Ar) (S : List (List Int)) (Kp : List Int) (k : Nat) : Prop := ∀ j, gF true F (insK S Kp S.length) j (k : Int) = false
theorem hold_none {F : Ar} {S : List (List Int)} {Kp : List Int} {k : Nat} : gR true F (insK S Kp S.length) (k : Int) = none ↔ HoldK F S Kp k := by
  have hr := gR_is true F (insK S Kp S.length) (k : Int)
  constructor
  · intro e
    rw [e] at hr
    exact hr
  · intro h
    cases e : gR true F (insK S Kp S.length) (k : Int) with
    | none => rfl
    | some r =>
      rw [e] at hr
      have := hr.1
      rw [h r] at this
      cases this
/-- the first reading of a set's number -/
def rdN (rd : Int → Int) (S : List (List Int)) (q : Int) : Int := rd (((S[q.toNat]?).getD []).headD 0)
theorem rdN_of {rd : Int → Int} {n : Int} {S : List (List Int)} {g : List Int} {x : Int} {k : Nat} (hk : S[k]? = some g) (hg : KS rd n g) (hx : x ∈ g) : rdN rd S (k : Int) = rd x := by
  unfold rdN
  rw [Int.toNat_natCast, hk]
  cases g with
  | nil => cases hx
  | cons a r => exact hg.one a List.mem_cons_self x hx
structure Stp (A : Ar) (rd : Int → Int) (S : List (List Int)) (F : Ar) (Kp g : List Int) (i : Nat) (x : Int) : Prop where
  out : x ≠ -1
  nxt : ∃ (m : Nat) (h : List Int), S[m]? = some h ∧ x ∈ h ∧ HoldK F S Kp m ∧ (optK A rd S g i).filter (fun q => decide (0 ≤ q) && decide (rdN rd S q = rd x)) = [(m : Int)]
theorem asc_one {l : List Int} {x : Int} (h : Asc l) (hx : x ∈ l) (hu : ∀ y ∈ l, y = x) : l = [x] :=
  asc_ext h (List.pairwise_singleton _ _) fun y => ⟨fun hy => by rw [hu y hy]; exact List.mem_singleton.mpr rfl, fun hy => by rw [List.mem_singleton.mp hy]; exact hx⟩
theorem kept_step {A : Ar} {rd : Int → Int} {st Kp : List Int} {F : Ar} {S : List (List Int)} (hG : ArG A) (hs : Asc st) (hm : ∀ p ∈ st, 0 ≤ p ∧ p < (A.length : Int)) (hk : IsKn A rd st F S) {k i : Nat} {g : List Int} {os : Pos'} (hg : S[k]? = some g) (hh : HoldK F S Kp k) (hos : F[k]? = some os) (hix : IsIx true (gR true F (insK S Kp S.length)) (k : Int) os i) :
    (∀ p ∈ g, p ∈ Kp) ∧ i < wid A g ∧ os[i]? = some (optK A rd S g i) ∧ ∀ x ∈ aft A g i, Stp A rd S F Kp g i x := by
  obtain ⟨I, hl⟩ := hk.inv hG hs hm
  have hkl := (List.getElem?_eq_some_iff.mp hg).1
  have hks := I.ks g (List.mem_of_getElem? hg)
  obtain ⟨r1, r2⟩ := I.row k g (by omega) hg
  rw [hos] at r1
  have r1 := Option.some.inj r1
  obtain ⟨⟨o, ho, hall⟩, _⟩ := hix
  have hil := (List.getElem?_eq_some_iff.mp ho).1
  have hiw : i < wid A g := by
    rw [r1, List.length_map, List.length_range] at hil
    exact hil
  have hoe : os[i]? = some (optK A rd S g i) := by rw [r1, List.getElem?_map, List.getElem?_range hiw]; rfl
  rw [hoe] at ho
  have ho := Option.some.inj ho
  have hnone := hold_none.mpr hh
  have hin : ∀ p ∈ g, p ∈ Kp := by
    have h0 := hh 0
    rw [gF_0 (by omega), if_pos rfl] at h0
    have h1 : (k : Int) ∈ insK S Kp S.length := by simpa using h0
    obtain ⟨_, _, h2⟩ := insK_mem.mp h1
    rw [Int.toNat_natCast, hg] at h2
    exact h2
  have hfit : ∀ q ∈ optK A rd S g i, q ≠ -1 ∧ gR true F (insK S Kp S.length) q = none := fun q hq => by
    rw [← ho] at hall
    have h := List.all_eq_true.mp hall q hq
    unfold fitB at h
    rw [hnone] at h
    by_cases e : q = -1
    · rw [if_pos e] at h
      cases h
    · rw [if_neg e] at h
      refine ⟨e, ?_⟩
      cases e2 : gR true F (insK S Kp S.length) q with
      | none => rfl
      | some r =>
        rw [e2] at h
        cases h
  have hno : (-1 : Int) ∉ aft A g i := fun h => (hfit (-1) (mem_optK.mpr (.inl ⟨rfl, h⟩))).1 rfl
  refine ⟨hin, hiw, hoe, fun x hx => ⟨fun e => hno (by rw [← e]; exact hx), ?_⟩⟩
  have hxs : x ∈ (succs A g i).filter fun p => !decide (p = -1) := List.mem_filter.mpr ⟨mem_srt.mpr hx, by
    have : x ≠ -1 := fun e => hno (by rw [← e]; exact hx)
    simpa using this⟩
  have hf : ((succs A g i).filter fun p => !decide (p = -1)).filter (fun q => decide (rd q = rd x)) ∈ fol A rd g i := prt_of hxs
  have hxf : x ∈ ((succs A g i).filter fun p => !decide (p = -1)).filter (fun q => decide (rd q = rd x)) := List.mem_filter.mpr ⟨hxs, decide_eq_true rfl⟩
  generalize hhd : ((succs A g i).filter fun p => !decide (p = -1)).filter (fun q => decide (rd q = rd x)) = h at hf hxf
  have hS := r2 i hiw h hf
  have hget := nr_get hS
  have hmo : ((nr S h : Nat) : Int) ∈ optK A rd S g i := mem_optK.mpr (.inr (List.mem_map.mpr ⟨h, hf, rfl⟩))
  refine ⟨nr S h, h, hget, hxf, hold_none.mp (hfit _ hmo).2, asc_one (asc_filter _ asc_optK) ?_ fun y hy => ?_⟩
  · refine List.mem_filter.mpr ⟨hmo, ?_⟩
    rw [rdN_of hget (I.ks h hS) hxf, decide_eq_true rfl, Bool.and_true]
    exact decide_eq_true (by omega)
  · obtain ⟨hy1, hy2⟩ := List.mem_filter.mp hy
    rw [Bool.and_eq_true] at hy2
    have hy3 := of_decide_eq_true hy2.2
    rcases mem_optK.mp hy1 with ⟨e, h1⟩ | h1
    · exact absurd h1 hno
    · obtain ⟨h', hf', e⟩ := List.mem_map.mp h1
      have e : ((nr S h' : Nat) : Int) = y := e
      have hS' := r2 i hiw h' hf'
      obtain ⟨p, hp, e3⟩ := mem_prt hf'
      have hp' : p ∈ h' := by rw [e3]; exact List.mem_filter.mpr ⟨hp, decide_eq_true rfl⟩
      rw [← e, rdN_of (nr_get hS') (I.ks h' hS') hp'] at hy3
      have : h' = h := by
        rw [e3, ← hhd]
        refine List.filter_congr fun q _ => ?_
        rw [hy3]
      rw [← e, this]
theorem first_one {S : List (List Int)} {n : Nat} {x : Int} (h : ∃ k : Nat, k < n ∧ x ∈ (S[k]?).getD []) : ∃ k : Nat, k < n ∧ x ∈ (S[k]?).getD [] ∧ ∀ j, j < k → x ∉ (S[j]?).getD [] := by
  induction n with
  | zero =>
    obtain ⟨k, hk, _⟩ := h
    omega
  | succ n ih =>
    by_cases h' : ∃ k : Nat, k < n ∧ x ∈ (S[k]?).getD []
    · obtain ⟨k, h1, h2, h3⟩ := ih h'
      exact ⟨k, by omega, h2, h3⟩
    · obtain ⟨k, hk, hx⟩ := h
      exact ⟨k, hk, hx, fun j hj hxj => h' ⟨j, by omega, hxj⟩⟩
end NL

set_option maxHeartbeats 4000000
namespace NL
open PySem PySem.Spec PyProof.Rows L2
/-! ### a play of whoever drives out of the told sets -/
theorem rank_le {F : Ar} {Kp : List Int} (hin : InA F F.length) {k r : Nat} (hk : k < F.length) (h : gR true F Kp (k : Int) = some r) : r ≤ F.length := by
  have hr := gR_is true F Kp (k : Int)
  rw [h] at hr
  refine Nat.le_trans (cnt_rounds (n := F.length) (f := gF true F Kp) (fun k p e => gF_up k p e) r fun j hj => Classical.byContradiction fun hno => ?_) (cnt_le _ _)
  have hsame : ∀ p : Int, -1 ≤ p → p < (F.length : Int) → gF true F Kp (j + 1) p = gF true F Kp j p := fun p p0 p1 => by
    by_cases hp : p = -1
    · rw [hp, gF_out, gF_out]
    · obtain ⟨i, rfl⟩ : ∃ i : Nat, p = (i : Int) := ⟨p.toNat, by omega⟩
      cases h1 : gF true F Kp j (i : Int) with
      | true => exact gF_up j _ h1
      | false =>
        cases h2 : gF true F Kp (j + 1) (i : Int) with
        | false => rfl
        | true => exact absurd ⟨i, by omega, h1, h2⟩ hno
  have := mr_stop hin hsame r (by omega) (k : Int) (by omega) (by omega)
  have h1 : gF true F Kp r (k : Int) = gF true F Kp j (k : Int) := this
  rw [hr.1, hr.2 j hj] at h1
  cases h1
/-- y stands in the set number n, or n is the way out -/
def OnS (S : List (List Int)) (n y : Int) : Prop := (n = -1 ∧ y = -1) ∨ (0 ≤ n ∧ y ∈ (S[n.toNat]?).getD [])
def Link (A : Ar) (S : List (List Int)) (n i n' : Int) : Prop := ∃ g, 0 ≤ n ∧ S[n.toNat]? = some g ∧ 0 ≤ i ∧ i.toNat < wid A g ∧ ∀ y, OnS S n' y → ∃ x ∈ g, y ∈ optOf A x i.toNat
/-- the last set of a play: the way out, or one with a wrong position -/
def Bad (A : Ar) (S : List (List Int)) (Kp : List Int) (n : Int) : Prop := n = -1 ∨ ∃ g, 0 ≤ n ∧ S[n.toNat]? = some g ∧ ∃ p ∈ g, p ∉ Kp ∨ lenOf A p = 0
structure WkI (A : Ar) (S : List (List Int)) (ss os : List Int) : Prop where
  len : ss.length = os.length + 1
  lnk : ∀ (j : Nat) n i n', ss[j]? = some n → os[j]? = some i → ss[j + 1]? = some n' → Link A S n i n'
theorem WkI.one (A : Ar) (S : List (List Int)) (n : Int) : WkI A S [n] [] := ⟨rfl, fun j n i n' _ h _ => by cases j <;> cases h⟩
theorem WkI.snoc {A : Ar} {S : List (List Int)} {ss os : List Int} {n i n' : Int} (h : WkI A S (ss ++ [n]) os) (hl : Link A S n i n') : WkI A S (ss ++ [n] ++ [n']) (os ++ [i]) := by
  have hlen := h.len
  rw [List.length_append, List.length_singleton] at hlen
  refine ⟨by rw [List.length_append, List.length_append, List.length_append]; simp only [List.length_singleton]; omega, fun j m k m' h1 h2 h3 => ?_⟩
  have hj : j + 1 < (ss ++ [n] ++ [n']).length := (List.getElem?_eq_some_iff.mp h3).1
  rw [List.length_append, List.length_append, List.length_singleton, List.length_singleton] at hj
  by_cases hlt : j < os.length
  · rw [List.getElem?_append_left (by rw [List.length_append, List.length_singleton]; omega)] at h1 h3
    rw [List.getElem?_append_left hlt] at h2
    exact h.lnk j m k m' h1 h2 h3
  · have hje : j = os.length := by omega
    rw [List.getElem?_append_left (by rw [List.length_append, List.length_singleton]; omega), List.getElem?_append_right (by omega), show j - ss.length = 0 by omega] at h1
    rw [List.getElem?_append_right (by omega), show j - os.length = 0 by omega] at h2
    rw [List.getElem?_append_right (by rw [List.length_append, List.length_singleton]; omega), List.length_append, List.length_singleton, show j + 1 - (ss.length + 1) = 0 by omega] at h3
    cases h1
    cases h2
    cases h3
    exact hl
section
variable {A : Ar} {rd : Int → Int} {st Kp : List Int} {F : Ar} {S : List (List Int)}
theorem link_of (hG : ArG A) (hs : Asc st) (hm : ∀ p ∈ st, 0 ≤ p ∧ p < (A.length : Int)) (hk : IsKn A rd st F S) {k i : Nat} {g : List Int} {z : Int} (hg : S[k]? = some g) (hi : i < wid A g) (hz : z ∈ optK A rd S g i) : Link A S (k : Int) (i : Int) z := by
  obtain ⟨I, hl⟩ := hk.inv hG hs hm
  have hkl := (List.getElem?_eq_some_iff.mp hg).1
  obtain ⟨r1, r2⟩ := I.row k g (by omega) hg
  refine ⟨g, by omega, by rw [Int.toNat_natCast]; exact hg, by omega, by rw [Int.toNat_natCast]; exact hi, fun y hy => ?_⟩
  rw [Int.toNat_natCast]
  have haft : y ∈ aft A g i := by
    rcases mem_optK.mp hz with ⟨e, h1⟩ | h1
    · rcases hy with ⟨_, hy⟩ | ⟨h0, _⟩
      · rw [hy]
        exact h1
      · omega
    · obtain ⟨h, hf, e⟩ := List.mem_map.mp h1
      have e : ((nr S h : Nat) : Int) = z := e
      rcases hy with ⟨h0, _⟩ | ⟨_, hy⟩
      · omega
      · rw [← e, Int.toNat_natCast, nr_get (r2 i hi h hf)] at hy
        have hy : y ∈ h := hy
        obtain ⟨p, hp, e3⟩ := mem_prt hf
        rw [e3] at hy
        exact mem_srt.mp (List.mem_filter.mp (List.mem_filter.mp hy).1).1
  unfold aft at haft
  exact List.mem_flatMap.mp haft
/-- where the walk stands: the way out, or a set that is driven out in few turns -/
def Lst (F : Ar) (S : List (List Int)) (Kp : List Int) (b : Nat) (n : Int) : Prop := n = -1 ∨ ∃ (k r : Nat) (g : List Int), n = (k : Int) ∧ S[k]? = some g ∧ gR true F (insK S Kp S.length) (k : Int) = some r ∧ r + b ≤ S.length
theorem lst_bad0 (hG : ArG A) (hs : Asc st) (hm : ∀ p ∈ st, 0 ≤ p ∧ p < (A.length : Int)) (hk : IsKn A rd st F S) {k : Nat} {g : List Int} (hg : S[k]? = some g) (h0 : gR true F (insK S Kp S.length) (k : Int) = some 0) : Bad A S Kp (k : Int) := by
  have hr := gR_is true F (insK S Kp S.length) (k : Int)
  rw [h0] at hr
  have h1 := hr.1
  have hkl := (List.getElem?_eq_some_iff.mp hg).1
  rw [gF_0 (by omega), if_pos rfl] at h1
  have h2 : (k : Int) ∉ insK S Kp S.length := by simpa using h1
  refine .inr ⟨g, by omega, by rw [Int.toNat_natCast]; exact hg, Classical.byContradiction fun hno => h2 (insK_mem.mpr ⟨by omega, by omega, fun p hp => Classical.byContradiction fun hpK => hno ⟨p, ?_, .inl hpK⟩⟩)⟩
  rw [Int.toNat_natCast, hg] at hp
  exact hp
theorem lst_badn (hG : ArG A) (hs : Asc st) (hm : ∀ p ∈ st, 0 ≤ p ∧ p < (A.length : Int)) (hk : IsKn A rd st F S) {k : Nat} {g : List Int} (hg : S[k]? = some g) (hF : F[k]? = some []) : Bad A S Kp (k : Int) := by
  obtain ⟨I, hl⟩ := hk.inv hG hs hm
  have hkl := (List.getElem?_eq_some_iff.mp hg).1
  obtain ⟨r1, r2⟩ := I.row k g (by omega) hg
  rw [hF] at r1
  have hw : wid A g = 0 := by
    have := congrArg List.length (Option.some.inj r1)
    rw [List.length_map, List.length_range] at this
    exact this.symm
  obtain ⟨p, hp, e⟩ := wid_mem (A := A) (I.ks g (List.mem_of_getElem? hg)).ne
  exact .inr ⟨g, by omega, by rw [Int.toNat_natCast]; exact hg, p, hp, .inr (by omega)⟩
/-- one turn of the walk -/
theorem walk_turn (hG : ArG A) (hs : Asc st) (hm : ∀ p ∈ st, 0 ≤ p ∧ p < (A.length : Int)) (hk : IsKn A rd st F S) {k i r b : Nat} {g : List Int} {os : Pos'} {o : Opt} {z : Int} (hg : S[k]? = some g) (hos : F[k]? = some os) (ho : os[i]? = some o) (hr : gR true F (insK S Kp S.length) (k : Int) = some r) (hb : r + b ≤ S.length) (hz : IsRp true (gR true F (insK S Kp S.length)) (k : Int) o z) :
    Link A S (k : Int) (i : Int) z ∧ Lst F S Kp (b + 1) z := by
  obtain ⟨I, hl⟩ := hk.inv hG hs hm
  have hkl := (List.getElem?_eq_some_iff.mp hg).1
  obtain ⟨r1, r2⟩ := I.row k g (by omega) hg
  rw [hos] at r1
  have r1 := Option.some.inj r1
  have hil := (List.getElem?_eq_some_iff.mp ho).1
  have hiw : i < wid A g := by
    rw [r1, List.length_map, List.length_range] at hil
    exact hil
  have hoe : os[i]? = some (optK A rd S g i) := by rw [r1, List.getElem?_map, List.getElem?_range hiw]; rfl
  rw [hoe] at ho
  cases ho
  obtain ⟨hz1, hz2, _⟩ := hz
  refine ⟨link_of hG hs hm hk hg hiw hz1, ?_⟩
  by_cases e : z = -1
  · exact .inl e
  · unfold fitB at hz2
    rw [if_neg e, hr] at hz2
    cases e2 : gR true F (insK S Kp S.length) z with
    | none =>
      rw [e2] at hz2
      cases hz2
    | some b' =>
      rw [e2] at hz2
      have hlt : b' < r := of_decide_eq_true hz2
      rcases mem_optK.mp hz1 with ⟨e1, _⟩ | h1
      · exact absurd e1 e
      · obtain ⟨h, hf, e1⟩ := List.mem_map.mp h1
        have e1 : ((nr S h : Nat) : Int) = z := e1
        subst e1
        exact .inr ⟨nr S h, b', h, rfl, nr_get (r2 i hiw h hf), e2, by omega⟩
end
/-- at most 64 sets of 6 positions -/
theorem sets_few {A : Ar} {rd : Int → Int} {st : List Int} {F : Ar} {S : List (List Int)} (hG : ArG A) (h6 : A.length ≤ 6) (hs : Asc st) (hm : ∀ p ∈ st, 0 ≤ p ∧ p < (A.length : Int)) (hk : IsKn A rd st F S) : S.length ≤ 64 := by
  obtain ⟨I, hl⟩ := hk.inv hG hs hm
  have h1 := nd_sub (U := pw (psI A.length)) I.nd fun g hg => mem_pw (asc_psI _) (I.ks g hg).asc fun x hx => mem_psI.mpr ((I.ks g hg).mem x hx)
  rw [pw_len] at h1
  have h2 : (psI A.length).length = A.length := by unfold psI; rw [List.length_map, List.length_range]
  rw [h2] at h1
  have h3 : 2 ^ A.length ≤ 2 ^ 6 := Nat.pow_le_pow_right (by decide) h6
  omega
/-! ### for over a range that goes down -/
theorem for_rangeC {lo c : Int} {n : Nat} {g : TG} {tb : TS} {D : Ends} {σ : L2.St} {H : Hp} (Pv : Nat → L2.St → Hp → Prop) (h0 : Pv 0 σ H)
    (hs : ∀ i σ H, i < n → Pv i σ H → g (.int (lo + (i : Nat) * c)) σ H fun σ2 H2 => tb { D with nx := Pv (i + 1), ct := Pv (i + 1), bk := D.nx } σ2 H2) (hd : ∀ σ H, Pv n σ H → D.nx σ H) :
    ∃ W : Nat → Nat → L2.St → Hp → Prop, (∃ m, W 0 m σ H) ∧ ∀ i m σ H, W i m σ H →
      ((Itc lo c n).stop i H ∧ D.nx σ H) ∨ ((Itc lo c n).go i H ∧ ∃ N : L2.St → Hp → Prop, (∀ σ' H', N σ' H' → ∃ m', m' < m ∧ W (i + 1) m' σ' H') ∧ ∀ x H', (Itc lo c n).yld i H x H' → g x σ H' fun σ2 H2 => tb { D with nx := N, ct := N, bk := D.nx } σ2 H2) := by
  refine ⟨fun i m σ H => m = n - i ∧ i ≤ n ∧ Pv i σ H, ⟨n, by simp, Nat.zero_le _, h0⟩, ?_⟩
  rintro i m σ H ⟨rfl, hi, p⟩
  by_cases hlt : i < n
  · refine .inr ⟨hlt, Pv (i + 1), fun σ' H' p' => ⟨n - (i + 1), by omega, rfl, hlt, p'⟩, fun x H' y => ?_⟩
    obtain ⟨e, y⟩ := y
    subst e y
    exact hs i σ _ hlt p
  · have e : i = n := by omega
    subst e
    exact .inl ⟨Nat.le_refl _, hd σ H p⟩
/-! ### for over a list with a break -/
theorem for_listBrk {K : PySem.W.Frag} {a : Addr} {xs : List V} {g : TG} {tb : TS} {D : Ends} {σ : L2.St} {H : Hp} (Pv : Nat → L2.St → Hp → Prop) (Post : L2.St → Hp → Prop) (h0 : Pv 0 σ H) (hl : ∀ i σ H, Pv i σ H → SqL K H a xs)
    (hs : (∀ σ H, Post σ H → D.nx σ H) → ∀ i x σ H, xs[i]? = some x → Pv i σ H → g x σ H fun σ2 H2 => tb { D with nx := Pv (i + 1), ct := Pv (i + 1), bk := D.nx } σ2 H2) (hd : ∀ σ H, Pv xs.length σ H → Post σ H) (hdone : ∀ σ H, Post σ H → D.nx σ H) :
    ∃ W : Nat → Nat → L2.St → Hp → Prop, (∃ m, W 0 m σ H) ∧ ∀ i m σ H, W i m σ H →
      ((Itl K a).stop i H ∧ D.nx σ H) ∨ ((Itl K a).go i H ∧ ∃ N : L2.St → Hp → Prop, (∀ σ' H', N σ' H' → ∃ m', m' < m ∧ W (i + 1) m' σ' H') ∧ ∀ x H', (Itl K a).yld i H x H' → g x σ H' fun σ2 H2 => tb { D with nx := N, ct := N, bk := D.nx } σ2 H2) :=
  for_list (K := K) (a := a) (xs := xs) Pv h0 (fun i σ H _ p => hl i σ H p) (hs hdone) fun σ H p => hdone σ H (hd σ H p)
end NL

set_option maxHeartbeats 8000000
namespace NL
open PySem PySem.Spec PyProof.Rows L2
theorem at_lastI {l : List Int} {n : Int} : atI ((l ++ [n]).map V.int) (-1) = some (.int n) := by
  rw [List.map_append]
  exact at_last
section
variable {P : Program} {w : World} {K : PySem.W.Frag} {mg : Str → Option Value} {base : Heap}
/-! ### _law_walk, _law_bad_ends -/
def spWalk : Sp := fun vs H Q _ => ∃ (bv : V) (pa pl : Addr) (A F : Ar) (S : List (List Int)) (rd : Int → Int) (Kp st zs : List Int) (ls : List V) (k0 r0 : Nat) (g0 : List Int), vs = [bv, .ref pa, .ref pl, .int (k0 : Int)] ∧ ArG A ∧ A.length ≤ 6 ∧ Asc st ∧ (∀ p ∈ st, 0 ≤ p ∧ p < (A.length : Int)) ∧ IsKn A rd st F S ∧ ArG F ∧ KnIn H F S bv ∧ H pa = some (.tup ls) ∧ PaperAt true H F (gR true F (insK S Kp S.length)) F.length ls ∧ S[k0]? = some g0 ∧ gR true F (insK S Kp S.length) (k0 : Int) = some r0 ∧ H pl = some (.lst (zs.map V.int)) ∧ zs.length = 70 ∧
  ∀ wl sl ol ini last os H', Same H H' → H' wl = some (.lst [.ref sl, .ref ol]) → H' sl = some (.lst ((ini ++ [last]).map V.int)) → H' ol = some (.lst (os.map V.int)) → WkI A S (ini ++ [last]) os → (ini ++ [last])[0]? = some (k0 : Int) → os.length ≤ 70 → Bad A S Kp last → Q (.ref wl) H'
theorem ok_law_walk (T : Txt K mg) : FnOk P w K mg base CX0 1 T.a_law_walk T.d_law_walk P_law_walk spWalk := by
  refine T.F_law_walk.ok sc_law_walk (fun vs H Q E h => ?_) (fun cdv A outer s H vs Q E hr h => ?_)
  · obtain ⟨bv, pa, pl, A, F, S, rd, Kp, st, zs, ls, k0, r0, g0, rfl, _⟩ := h
    rfl
  obtain ⟨bv, pa, pl, A0, F, S, rd, Kp, st, zs, ls, k0, r0, g0, rfl, hG, h6, hst, hsm, hkn, hFG, ⟨bb, vx, vy, rfl, hbb, ⟨bx, fxs, rfl, ebx, hfx⟩, hsy⟩, hpa, hpap, hg0, hr0, hpl, hzl, q⟩ := h
  obtain ⟨I, hFS⟩ := hkn.inv hG hst hsm
  have h64 := sets_few hG h6 hst hsm hkn
  have hk0 := (List.getElem?_eq_some_iff.mp hg0).1
  have hr0l := rank_le hFG.inA (by omega) hr0
  refine ⟨_, (pss_cons (ps_set (i := 4) sc_law_walk.nd rfl (Or.inl rfl) (pe_lst (pa_cons (pv 3) pa_nil)))
    (pss_cons (ps_set (i := 5) sc_law_walk.nd rfl (Or.inl rfl) (pe_lst pa_nil))
    (pss_cons (ps_for  PassesOwn.never rfl (pi_list (pv 2)) (pg_name (i := 6) sc_law_walk.nd rfl (Or.inl rfl))
    (pss_cons (ps_set (i := 7) sc_law_walk.nd rfl (Or.inl rfl) (pe_ix ix_tup (pv 1) (pe_ix ix_list (pv 4) (pe_un un_neg pe_int) (fun _ _ => rfl)) (fun _ _ => rfl)))
    (pss_cons (ps_if (PW.pt (pw_or (pt_cmpR op_ne (pe_ix ix_tup (pv 7) pe_int (fun _ _ => rfl)) pe_str (nomark _)) (pw_or (pt_cmpR op_eq (pe_ix ix_tup (pv 7) pe_int (fun _ _ => rfl)) pe_int (nomark _)) (pw_or1 (pt_cmpR op_eq (pe_callB call_len_seq (by rfl) T.z_len PySem.boot_len (pa_cons (pe_ix ix_tup (pe_ix ix_tup (pv 0) pe_int (fun _ _ => rfl)) (pe_ix ix_list (pv 4) (pe_un un_neg pe_int) (fun _ _ => rfl)) (fun _ _ => rfl)) pa_nil)) pe_int (nomark _))))))
    (pss_one ps_break)
    pss_nil)
    (pss_cons (ps_expr (pe_bm PySem.F.plainAttrs_list PySem.F.slot_list_append PySem.F.type_list_append mt_append (pv 5) (pa_cons (pe_op op_mod (pe_callTy call_int1 (by rfl) T.z_int (by decide +kernel) (pa_cons (pv 6) pa_nil)) (pe_callB call_len_seq (by rfl) T.z_len PySem.boot_len (pa_cons (pe_ix ix_tup (pe_ix ix_tup (pv 0) pe_int (fun _ _ => rfl)) (pe_ix ix_list (pv 4) (pe_un un_neg pe_int) (fun _ _ => rfl)) (fun _ _ => rfl)) pa_nil))) pa_nil)))
    (pss_cons (ps_expr (pe_bm PySem.F.plainAttrs_list PySem.F.slot_list_append PySem.F.type_list_append mt_append (pv 4) (pa_cons (pe_ix ix_tup (pe_ix ix_tup (pv 7) pe_int (fun _ _ => rfl)) (pe_ix ix_list (pv 5) (pe_un un_neg pe_int) (fun _ _ => rfl)) (fun _ _ => rfl)) pa_nil)))
    (pss_one (ps_if (pt_cmpR op_eq (pe_ix ix_list (pv 4) (pe_un un_neg pe_int) (fun _ _ => rfl)) (pe_un un_neg pe_int) (nomark _))
    (pss_one ps_break)
    pss_nil)))))))
    (pss_one (ps_ret (pe_lst (pa_cons (pv 4) (pa_cons (pv 5) pa_nil)))))))), ?_⟩
  refine ⟨_, rfl, Nat.le_of_ble_eq_true rfl, fun sl hsl => ?_⟩
  obtain ⟨H1, e1, s1, k1⟩ := newH hsl (.lst [V.int (k0 : Int)])
  rw [e1]
  refine ⟨Nat.zero_le _, fun ol hol => ?_⟩
  obtain ⟨H2, e2, s2, k2⟩ := newH hol (.lst [])
  rw [e2]
  have hos0 : H ol = none := s1.free hol
  have hso : sl ≠ ol := fun z => by rw [← z, k1] at hol; cases hol
  refine ⟨_, rfl, pl, rfl, ⟨_, sqd (s2 _ _ (s1 _ _ hpl))⟩, ?_⟩
  refine for_listBrk (K := K) (a := pl) (xs := zs.map V.int) (fun (t : Nat) (σ : L2.St) (H' : Hp) => ∃ (ini os : List Int) (k r : Nat) (g : List Int) (y6 y7 : Option V), σ = [some (.ref bb), some (.ref pa), some (.ref pl), some (.int (k0 : Int)), some (.ref sl), some (.ref ol), y6, y7] ∧ Same H H' ∧ H' sl = some (.lst ((ini ++ [(k : Int)]).map V.int)) ∧ H' ol = some (.lst (os.map V.int)) ∧ WkI A0 S (ini ++ [(k : Int)]) os ∧ (ini ++ [(k : Int)])[0]? = some (k0 : Int) ∧ os.length = t ∧ S[k]? = some g ∧ gR true F (insK S Kp S.length) (k : Int) = some r ∧ r + t ≤ S.length)
    (fun (σ : L2.St) (H' : Hp) => ∃ (ini os : List Int) (last : Int) (y6 y7 : Option V), σ = [some (.ref bb), some (.ref pa), some (.ref pl), some (.int (k0 : Int)), some (.ref sl), some (.ref ol), y6, y7] ∧ Same H H' ∧ H' sl = some (.lst ((ini ++ [last]).map V.int)) ∧ H' ol = some (.lst (os.map V.int)) ∧ WkI A0 S (ini ++ [last]) os ∧ (ini ++ [last])[0]? = some (k0 : Int) ∧ os.length ≤ 70 ∧ Bad A0 S Kp last) ?_ ?_ (fun done => ?_) ?_ ?_
  · exact ⟨[], [], k0, r0, g0, _, _, rfl, s1.trans s2, s2 _ _ k1, k2, WkI.one _ _ _, rfl, rfl, hg0, hr0, by omega⟩
  · rintro t σ H' ⟨ini, os, k, r, g, y6, y7, rfl, s, _⟩
    exact sqd (s _ _ hpl)
  · rintro t z σ H3 hz ⟨ini, os, k, r, g, y6, y7, rfl, s3, ksl, kol, hW, hhd, hosl, hg, hr', hrt⟩
    rw [List.getElem?_map] at hz
    obtain ⟨pk, hpk, rfl⟩ := Option.map_eq_some_iff.mp hz
    have ht70 := (List.getElem?_eq_some_iff.mp hpk).1
    have hkl := (List.getElem?_eq_some_iff.mp hg).1
    have hlen := hW.len
    have hFk : F[k]? = some F[k] := List.getElem?_eq_getElem (by omega)
    obtain ⟨v, hv, bp, pkv, rfl, ebp, hpick⟩ := hpap.2 k _ (by omega) hFk
    rw [hr'] at ebp
    unfold PickG at hpick
    rw [hr', if_neg (by simp)] at hpick
    obtain ⟨cz, qs, rfl, ecz, hqs⟩ := hpick
    have hatp : atI ls (k : Int) = some (.ref bp) := atI_nat hv
    obtain ⟨fv, hfv, bo, fos, rfl, ebo, hfo⟩ := hfx.at hFk
    have hatF : atI fxs (k : Int) = some (.ref bo) := atI_nat hfv
    have hfol := hfo.1
    refine ⟨_, rfl, _, rfl, _, rfl, sl, _, _, _, rfl, rfl, sqd ksl, at_lastI, pa, _, _, _, rfl, rfl, sqt (s3 _ _ hpa), hatp, ?_⟩
    refine ⟨_, rfl, bp, _, _, _, rfl, rfl, sqt (s3 _ _ ebp), atI0, rfl, _, rfl, ?_⟩
    refine ifF rfl ?_
    refine ⟨_, rfl, bp, _, _, _, rfl, rfl, sqt (s3 _ _ ebp), atI1, rfl, _, rfl, ?_⟩
    by_cases hr0' : r = 0
    · subst hr0'
      refine ifT rfl ?_
      exact done _ _ ⟨ini, os, _, _, _, rfl, s3, ksl, kol, hW, hhd, by omega, lst_bad0 hG hst hsm hkn hg hr'⟩
    refine ifF (decide_eq_false fun e => by have := V.int.inj e; omega) ?_
    rw [if_neg (by simpa using hr0')] at hqs
    refine ⟨_, rfl, bb, _, _, _, rfl, rfl, sqt (s3 _ _ hbb), atI0, _, rfl, _, rfl, sl, _, _, _, rfl, rfl, sqd ksl, at_lastI, bx, _, _, _, rfl, rfl, sqt (s3 _ _ ebx), hatF, bo, _, rfl, .inr (sqt (s3 _ _ ebo)), rfl, _, rfl, ?_⟩
    by_cases hemp : F[k] = []
    · refine ifT (decide_eq_true (by rw [hfol, hemp]; rfl)) ?_
      refine done _ _ ⟨ini, os, _, _, _, rfl, s3, ksl, kol, hW, hhd, by omega, lst_badn hG hst hsm hkn hg ?_⟩
      rw [hFk, hemp]
    have hfpos := List.length_pos_iff.mpr hemp
    refine ifF (decide_eq_false fun e => by have := V.int.inj e; omega) ?_
    have hm0 : (0 : Int) ≤ pk % (fos.length : Int) := Int.emod_nonneg _ (by omega)
    have hm1 : pk % (fos.length : Int) < (fos.length : Int) := Int.emod_lt_of_pos _ (by omega)
    obtain ⟨i, hi⟩ : ∃ i : Nat, pk % (fos.length : Int) = (i : Int) := ⟨(pk % (fos.length : Int)).toNat, by omega⟩
    have hil : i < F[k].length := by omega
    refine ⟨_, rfl, .inl ⟨rfl, _, sqd kol⟩, _, rfl, .inl ⟨_, rfl, ?_⟩⟩
    refine ⟨_, rfl, bb, _, _, _, rfl, rfl, sqt (s3 _ _ hbb), atI0, _, rfl, _, rfl, sl, _, _, _, rfl, rfl, sqd ksl, at_lastI, bx, _, _, _, rfl, rfl, sqt (s3 _ _ ebx), hatF, bo, _, rfl, .inr (sqt (s3 _ _ ebo)), _, _, rfl, rfl, by show (0 : Int) < (fos.length : Int); omega, ol, _, _, rfl, rfl, kol, big' (by rw [List.length_map]; omega), ?_⟩
    have s4 := same_put (H' := H3) (o := .lst (os.map V.int ++ [V.int (pk % (fos.length : Int))])) s3 hos0
    have kol4 : (upd H3 ol (.lst (os.map V.int ++ [V.int (pk % (fos.length : Int))]))) ol = some (.lst ((os ++ [(i : Int)]).map V.int)) := by rw [upd_same, List.map_append, hi]; rfl
    have ksl4 : (upd H3 ol (.lst (os.map V.int ++ [V.int (pk % (fos.length : Int))]))) sl = some (.lst ((ini ++ [(k : Int)]).map V.int)) := by rw [upd_ne hso]; exact ksl
    show tSeq _ _ _ _ _
    generalize upd H3 ol (.lst (os.map V.int ++ [V.int (pk % (fos.length : Int))])) = H4 at s4 kol4 ksl4 ⊢
    obtain ⟨o, ho⟩ : ∃ o, F[k][i]? = some o := ⟨_, List.getElem?_eq_getElem hil⟩
    obtain ⟨z, hz⟩ : ∃ z, qs[i]? = some z := ⟨_, List.getElem?_eq_getElem (by rw [hqs.1]; exact hil)⟩
    obtain ⟨hlink, hlst⟩ := walk_turn hG hst hsm hkn hg hFk ho hr' hrt (hqs.2 i o z ho hz)
    have hatz : atI (qs.map V.int) (i : Int) = some (.int z) := atI_nat (by rw [List.getElem?_map, hz]; rfl)
    refine ⟨_, rfl, .inl ⟨rfl, _, sqd ksl4⟩, _, rfl, bp, _, _, _, rfl, rfl, sqt (s4 _ _ ebp), atI_nat (j := 2) rfl, _, rfl, _, rfl, ol, _, _, _, rfl, rfl, sqd kol4, at_lastI, cz, _, _, _, rfl, rfl, sqt (s4 _ _ ecz), hatz, ?_⟩
    refine ⟨sl, _, _, rfl, rfl, ksl4, big' (by rw [List.length_map]; omega), ?_⟩
    have s5 := same_put (H' := H4) (o := .lst ((ini ++ [(k : Int)]).map V.int ++ [V.int z])) s4 hsl
    have ksl5 : (upd H4 sl (.lst ((ini ++ [(k : Int)]).map V.int ++ [V.int z]))) sl = some (.lst ((ini ++ [(k : Int)] ++ [z]).map V.int)) := by rw [upd_same, List.map_append (l₁ := ini ++ [(k : Int)])]; rfl
    have kol5 : (upd H4 sl (.lst ((ini ++ [(k : Int)]).map V.int ++ [V.int z]))) ol = some (.lst ((os ++ [(i : Int)]).map V.int)) := by rw [upd_ne hso.symm]; exact kol4
    generalize upd H4 sl (.lst ((ini ++ [(k : Int)]).map V.int ++ [V.int z])) = H5 at s5 kol5 ksl5 ⊢
    have hW5 := hW.snoc hlink
    have hhd5 : (ini ++ [(k : Int)] ++ [z])[0]? = some (k0 : Int) := by
      rw [List.getElem?_append_left (by rw [List.length_append, List.length_singleton]; omega)]
      exact hhd
    refine ⟨_, rfl, _, rfl, sl, _, _, _, rfl, rfl, sqd ksl5, at_lastI, _, rfl, rfl, _, rfl, ?_⟩
    by_cases hz1 : z = -1
    · refine ifT (decide_eq_true (by rw [hz1])) ?_
      exact done _ _ ⟨ini ++ [(k : Int)], os ++ [(i : Int)], z, _, _, rfl, s5, ksl5, kol5, hW5, hhd5, by rw [List.length_append, List.length_singleton]; omega, .inl hz1⟩
    · refine ifF (decide_eq_false fun e => hz1 (V.int.inj e)) ?_
      rcases hlst with e | ⟨k', r', g', e, hg', hr2, hrt'⟩
      · exact absurd e hz1
      · subst e
        exact ⟨ini ++ [(k : Int)], os ++ [(i : Int)], k', r', g', _, _, rfl, s5, ksl5, kol5, hW5, hhd5, by rw [List.length_append, List.length_singleton]; omega, hg', hr2, by omega⟩
  · rintro σ H3 ⟨ini, os, k, r, g, y6, y7, rfl, s3, ksl, kol, hW, hhd, hosl, hg, hr', hrt⟩
    rw [List.length_map] at hrt
    omega
  rintro σ H3 ⟨ini, os, last, y6, y7, rfl, s3, ksl, kol, hW, hhd, hosl, hbad⟩
  refine ⟨_, rfl, _, rfl, Nat.le_of_ble_eq_true rfl, fun wl hwl => ?_⟩
  obtain ⟨H4, e4, s4, k4⟩ := newH hwl (.lst [V.ref sl, V.ref ol])
  rw [e4]
  exact q wl sl ol ini last os H4 (s3.trans s4) k4 (s4 _ _ ksl) (s4 _ _ kol) hW hhd hosl hbad
def spBadE : Sp := fun vs H Q _ => ∃ (av bv : V) (kp : Addr) (A F : Ar) (S : List (List Int)) (Kp g : List Int) (k : Nat), vs = [av, .ref kp, bv, .int (k : Int)] ∧ ArIn H A av ∧ H kp = some (.tup (Kp.map V.int)) ∧ KnIn H F S bv ∧ S[k]? = some g ∧ (∀ p ∈ g, 0 ≤ p ∧ p < (A.length : Int)) ∧ g.length ≤ 60 ∧
  ∀ D l H', Same H H' → H' D = some (.lst (l.map V.int)) → (∀ p ∈ l, p ∈ g) → ((∃ p ∈ g, p ∉ Kp ∨ lenOf A p = 0) → l ≠ []) → Q (.ref D) H'
theorem ok_law_bad_ends (T : Txt K mg) : FnOk P w K mg base CX0 1 T.a_law_bad_ends T.d_law_bad_ends P_law_bad_ends spBadE := by
  refine T.F_law_bad_ends.ok sc_law_bad_ends (fun vs H Q E h => ?_) (fun cdv A outer s H vs Q E hr h => ?_)
  · obtain ⟨av, bv, kp, A, F, S, Kp, g, k, rfl, _⟩ := h
    rfl
  obtain ⟨av, bv, kp, A0, F, S, Kp, g, k, rfl, ⟨b0, xs, rfl, e0, hxs⟩, hkp, ⟨bb, vx, vy, rfl, hbb, _, ⟨bY, sys, rfl, eby, hsy⟩⟩, hg, hgm, hgl, q⟩ := h
  obtain ⟨v, hv, bg, rfl, ebg⟩ := hsy.at hg
  refine ⟨_, (pss_one (ps_ret (pe_lc (own := [("at", 4)]) (g := (gName 4)) (tt := _) rfl sc_law_bad_ends.nd (pi_tup (pe_ix ix_tup (pe_ix ix_tup (pv 2) pe_int (fun _ _ => rfl)) (pv 3) (fun _ _ => rfl))) (blkOk_by (N := N_law_bad_ends) (sc := defScope s_law_bad_ends) (by decide +kernel)) (fun _ _ _ _ _ => (pg_name (i := 4) sc_law_bad_ends.nd rfl (Or.inl rfl))) (fun _ _ _ _ _ => (pts_one (PW.pt (pw_or (pt_cmpR (op_notIn_seqK (K := K) rfl) (pv 4) (pv 1) (by rfl)) (pw_or1 (pt_cmpR op_eq (pe_callB (call_len_seqK (K := K) rfl) (by rfl) T.z_len PySem.boot_len (pa_cons (pe_ix (ix_tupK (K := K) rfl) (pv 0) (pv 4) (fun _ _ => rfl)) pa_nil)) pe_int (nomark _))))))) (fun _ _ _ _ _ => (pv 4))))), ?_⟩
  refine ⟨_, rfl, bb, _, _, _, rfl, rfl, sqt hbb, atI1, _, rfl, bY, _, _, _, rfl, rfl, sqt eby, atI_nat hv, bg, rfl, ⟨_, sqt ebg⟩, fun D hD => ?_⟩
  refine lc_tup (K := K) (a := bg) (xs := g.map V.int) (fun (t : Nat) (H' : Hp) => Same H H' ∧ ∃ l : List Int, H' D = some (.lst (l.map V.int)) ∧ l.length ≤ t ∧ (∀ p ∈ l, p ∈ g) ∧ ((∃ p ∈ g.take t, p ∉ Kp ∨ lenOf A0 p = 0) → l ≠ [])) ?_ ?_ ?_ ?_
  · exact ⟨same_new hD _, [], upd_same, Nat.le_refl _, fun p hp => (nomatch hp), fun ⟨p, hp, _⟩ => by rw [List.take_zero] at hp; exact (nomatch hp)⟩
  · rintro t H' _ ⟨s, _⟩
    exact sqt (s _ _ ebg)
  · rintro t x H5 hx ⟨s5, l, k5, hl, hlm, hle⟩
    rw [List.getElem?_map] at hx
    obtain ⟨p, hp, rfl⟩ := Option.map_eq_some_iff.mp hx
    have htl := (List.getElem?_eq_some_iff.mp hp).1
    have hpm := List.mem_of_getElem? hp
    obtain ⟨p0, p1⟩ := hgm p hpm
    have htk : g.take (t + 1) = g.take t ++ [p] := by rw [List.take_add_one, hp]; rfl
    have hadd : ∃ acc, H5 D = some (.lst acc) ∧ acc.length < sizeLine ∧ (Same H (upd H5 D (.lst (acc ++ [V.int p]))) ∧ ∃ l : List Int, (upd H5 D (.lst (acc ++ [V.int p]))) D = some (.lst (l.map V.int)) ∧ l.length ≤ t + 1 ∧ (∀ p ∈ l, p ∈ g) ∧ ((∃ p ∈ g.take (t + 1), p ∉ Kp ∨ lenOf A0 p = 0) → l ≠ [])) :=
      ⟨_, k5, big' (by rw [List.length_map]; omega), same_put s5 hD, l ++ [p], by rw [upd_same, List.map_append]; rfl, by rw [List.length_append]; exact Nat.add_le_add_right hl 1, fun x hx => by
        rcases List.mem_append.mp hx with hx | hx
        · exact hlm x hx
        · rw [List.mem_singleton.mp hx]
          exact hpm, fun _ e => by simp at e⟩
    obtain ⟨os, x, hos, hat, b1, ys, rfl, eb1, hys⟩ := hxs.atI p0 p1
    have hysl := hys.1
    have hlo := lenOf_at hos
    refine ⟨rfl, ?_⟩
    refine ⟨_, rfl, _, rfl, kp, _, rfl, .inr (sqt (s5 _ _ hkp)), rfl, flat_ints' _, _, rfl, ?_⟩
    rw [notIn_int]
    by_cases h : p ∈ Kp
    · rw [decide_eq_true h]
      refine ifF rfl ?_
      refine ⟨_, rfl, _, rfl, b0, _, _, _, rfl, rfl, sqt (s5 _ _ e0), hat, b1, _, rfl, .inr (sqt (s5 _ _ eb1)), rfl, _, rfl, ?_⟩
      by_cases h2 : lenOf A0 p = 0
      · refine ifT (decide_eq_true (by rw [hysl, ← hlo, h2]; rfl)) ⟨_, rfl, hadd⟩
      · refine ifF (decide_eq_false fun e => h2 (by have := V.int.inj e; omega)) ⟨s5, l, k5, by omega, hlm, ?_⟩
        rintro ⟨x, hx, hx2⟩
        rw [htk] at hx
        rcases List.mem_append.mp hx with hx | hx
        · exact hle ⟨x, hx, hx2⟩
        · rw [List.mem_singleton.mp hx] at hx2
          rcases hx2 with h3 | h3
          · exact absurd h h3
          · exact absurd h3 h2
    · rw [decide_eq_false h]
      exact ifT rfl ⟨_, rfl, hadd⟩
  rintro H5 ⟨s5, l, k5, hl, hlm, hle⟩
  rw [List.length_map, List.take_length] at hle
  exact q D l H5 s5 k5 hlm hle
end
end NL

set_option maxHeartbeats 8000000
namespace NL
open PySem PySem.Spec PyProof.Rows L2
section
variable {P : Program} {w : World} {K : PySem.W.Frag} {mg : Str → Option Value} {base : Heap}
/-! ### _law_back -/
/-- the positions from the set number k on, of a play with these options -/
def Pth (A : Ar) (S : List (List Int)) (ss os : List Int) (k : Nat) (ps : List Int) : Prop := ∃ x r n, ps = x :: r ∧ ss[k]? = some n ∧ OnS S n x ∧ playA A x (os.drop k) r = r ∧ r.length + k = os.length
theorem pth_back {A : Ar} {S : List (List Int)} {ss os : List Int} {k : Nat} {ps g : List Int} {i x : Int} {n : Int} (hG : ArG A) (hgm : ∀ p ∈ g, 0 ≤ p ∧ p < (A.length : Int)) (hp : Pth A S ss os (k + 1) ps) (hk : os[k]? = some i) (hn : ss[k]? = some n) (hn0 : 0 ≤ n) (hg : S[n.toNat]? = some g) (hi : 0 ≤ i) (hw : i.toNat < wid A g) (hx : x ∈ g) (hy : ∀ y r, ps = y :: r → y ∈ optOf A x i.toNat) : Pth A S ss os k (x :: ps) := by
  obtain ⟨y, r, n', e, hs, hon, hpl, hl⟩ := hp
  have hkl := (List.getElem?_eq_some_iff.mp hk).1
  refine ⟨x, ps, n, rfl, hn, .inr ⟨hn0, by rw [hg]; exact hx⟩, ?_, by rw [e, List.length_cons]; omega⟩
  have hxr := hgm x hx
  have hil : i.toNat < lenOf A x := Nat.lt_of_lt_of_le hw (wid_le x hx)
  obtain ⟨os', o, h1, h2, h3, _, _, _⟩ := optOf_g hG hxr.1 hxr.2 hil
  have hyo := hy y r e
  rw [h3] at hyo
  obtain ⟨h4, h5⟩ := List.getElem?_eq_some_iff.mp hk
  rw [List.drop_eq_getElem_cons h4, h5, e, playA, if_pos (by rw [stpP_at hxr.1 h1 hi h2]; exact decide_eq_true hyo), hpl]
def spBack : Sp := fun vs H Q _ => ∃ (av bv : V) (wl sl ol el : Addr) (A F : Ar) (S : List (List Int)) (ss os er : List Int) (e n : Int), vs = [av, bv, .ref wl, .ref el] ∧ ArIn H A av ∧ ArG A ∧ KnIn H F S bv ∧ (∀ g ∈ S, ∀ p ∈ g, 0 ≤ p ∧ p < (A.length : Int)) ∧ (∀ g ∈ S, g.length ≤ 60) ∧ H wl = some (.lst [.ref sl, .ref ol]) ∧ H sl = some (.lst (ss.map V.int)) ∧ H ol = some (.lst (os.map V.int)) ∧ WkI A S ss os ∧ os.length ≤ 70 ∧ H el = some (.lst ((e :: er).map V.int)) ∧ ss[os.length]? = some n ∧ OnS S n e ∧
  ∀ pl ps H', Same H H' → H' pl = some (.lst (ps.map V.int)) → Pth A S ss os 0 ps → Q (.ref pl) H'
theorem ok_law_back (T : Txt K mg) : FnOk P w K mg base CX0 1 T.a_law_back T.d_law_back P_law_back spBack := by
  refine T.F_law_back.ok sc_law_back (fun vs H Q E h => ?_) (fun cdv A outer s H vs Q E hr h => ?_)
  · obtain ⟨av, bv, wl, sl, ol, el, A, F, S, ss, os, er, e, n, rfl, _⟩ := h
    rfl
  obtain ⟨av, bv, wl, sl, ol, el, A0, F, S, ss, os, er, e, n, rfl, ⟨b0, xs, rfl, e0, hxs⟩, hG, ⟨bb, vx, vy, rfl, hbb, _, ⟨bY, sys, rfl, eby, hsy⟩⟩, hgm, hgl, hwl, hsl, hol, hW, hol70, hel, hlast, hon, q⟩ := h
  refine ⟨_, (pss_cons (ps_set (i := 4) sc_law_back.nd rfl (Or.inr rfl) (pe_lst (pa_cons (pe_ix ix_list (pv 3) pe_int (fun _ _ => rfl)) pa_nil)))
    (pss_cons (ps_for  PassesOwn.never rfl (pi_range3 (by rfl) T.z_range (pa_cons (pe_op op_sub (pe_callB call_len_seq (by rfl) T.z_len PySem.boot_len (pa_cons (pe_ix ix_list (pv 2) pe_int (fun _ _ => rfl)) pa_nil)) pe_int) (pa_cons (pe_un un_neg pe_int) (pa_cons (pe_un un_neg pe_int) pa_nil)))) (pg_name (i := 5) sc_law_back.nd rfl (Or.inr rfl))
    (pss_cons (ps_setLc (i := 6) (own := [("at", 7)]) (g := (gName 7)) (tt := _) rfl sc_law_back.nd rfl rfl (sw_true rfl rfl rfl (by decide +kernel)) (pi_tup (pe_ix ix_tup (pe_ix ix_tup (pv 1) pe_int (fun _ _ => rfl)) (pe_ix ix_list (pe_ix ix_list (pv 2) pe_int (fun _ _ => rfl)) (pv 5) (fun _ _ => rfl)) (fun _ _ => rfl))) (blkOk_by (N := N_law_back) (sc := defScope s_law_back) (by decide +kernel)) (fun _ _ _ _ _ => (pg_name (i := 7) sc_law_back.nd rfl (Or.inl rfl))) (fun _ _ _ _ _ => (pts_one (pt_cmpR (op_in_seqK (K := K) rfl) (pe_ix (ix_listK (K := K) rfl) (pv 4) pe_int (fun _ _ => rfl)) (pe_ix (ix_tupK (K := K) rfl) (pe_ix (ix_tupK (K := K) rfl) (pv 0) (pv 7) (fun _ _ => rfl)) (pe_ix (ix_listK (K := K) rfl) (pe_ix (ix_listK (K := K) rfl) (pv 2) pe_int (fun _ _ => rfl)) (pv 5) (fun _ _ => rfl)) (fun _ _ => rfl)) (by rfl)))) (fun _ _ _ _ _ => (pv 7)))
    (pss_cons (ps_if (pt_cmpR op_eq (pe_callB call_len_seq (by rfl) T.z_len PySem.boot_len (pa_cons (pv 6) pa_nil)) pe_int (nomark _))
    (pss_one (ps_ret pe_non))
    pss_nil)
    (pss_one (ps_set (i := 4) sc_law_back.nd rfl (Or.inr rfl) (pe_op op_cat (pe_lst (pa_cons (pe_ix ix_list (pv 6) pe_int (fun _ _ => rfl)) pa_nil)) (pv 4)))))))
    (pss_one (ps_ret (pv 4))))), ?_⟩
  refine ⟨_, rfl, el, _, _, _, rfl, rfl, sqd hel, atI0, Nat.le_of_ble_eq_true rfl, fun pl hpl => ?_⟩
  obtain ⟨H1, e1, s1, k1⟩ := newH hpl (.lst [V.int e])
  rw [e1]
  refine ⟨_, rfl, wl, _, _, _, rfl, rfl, sqd (s1 _ _ hwl), atI1, ol, _, rfl, .inl (sqd (s1 _ _ hol)), ?_⟩
  rw [List.length_map]
  have hd0 : ((os.length : Int) - 1 - (-1)).toNat = os.length := by omega
  refine ⟨_, _, rfl, rfl, _, rfl, _, rfl, _, _, _, _, rfl, RgC.neg (by omega) (by omega) (by decide) (by decide), ?_⟩
  rw [hd0]
  refine for_rangeC (lo := (os.length : Int) - 1) (c := -1) (n := os.length) (fun (t : Nat) (σ : L2.St) (H' : Hp) => ∃ (pl : Addr) (ps : List Int) (y5 y6 y7 : Option V), σ = [some (.ref b0), some (.ref bb), some (.ref wl), some (.ref el), some (.ref pl), y5, y6, y7] ∧ Same H H' ∧ H' pl = some (.lst (ps.map V.int)) ∧ Pth A0 S ss os (os.length - t) ps ∧ ps.length ≤ t + 1) ?_ ?_ ?_
  · exact ⟨pl, [e], _, _, _, rfl, s1, k1, ⟨e, [], n, rfl, hlast, hon, playP_nil (.inr rfl), by rw [List.length_nil]; omega⟩, Nat.le_refl _⟩
  · rintro t σ H2 ht ⟨pl, ps, y5, y6, y7, rfl, s2, kpl, hp, hpsl⟩
    obtain ⟨kk, hkk⟩ : ∃ kk : Nat, os.length = kk + 1 + t := ⟨os.length - 1 - t, by omega⟩
    have hk : ((os.length : Int) - 1 + (t : Int) * -1) = ((kk : Nat) : Int) := by omega
    rw [hk]
    rw [show os.length - t = kk + 1 by omega] at hp
    have hlen := hW.len
    obtain ⟨i, hi⟩ : ∃ i, os[kk]? = some i := ⟨_, List.getElem?_eq_getElem (by omega)⟩
    obtain ⟨m, hm⟩ : ∃ m, ss[kk]? = some m := ⟨_, List.getElem?_eq_getElem (by omega)⟩
    obtain ⟨m', hm'⟩ : ∃ m', ss[kk + 1]? = some m' := ⟨_, List.getElem?_eq_getElem (by omega)⟩
    obtain ⟨g, m0, hg, hi0, hiw, hnext⟩ := hW.lnk kk m i m' hm hi hm'
    obtain ⟨y, r, n', eps, hn', hon', hplay, hrl⟩ := id hp
    rw [hm'] at hn'
    cases hn'
    subst eps
    obtain ⟨x0, hx0, hyx0⟩ := hnext y hon'
    have hgS := List.mem_of_getElem? hg
    have hgr := hgm g hgS
    have hgl60 := hgl g hgS
    obtain ⟨v, hv, bg, rfl, ebg⟩ := hsy.at hg
    have hatg : atI sys m = some (.ref bg) := by
      have := atI_nat hv
      rw [show ((m.toNat : Nat) : Int) = m by omega] at this
      exact this
    have hatm : atI (ss.map V.int) (kk : Int) = some (.int m) := atI_nat (by rw [List.getElem?_map, hm]; rfl)
    have hati : atI (os.map V.int) (kk : Int) = some (.int i) := atI_nat (by rw [List.getElem?_map, hi]; rfl)
    refine ⟨_, rfl, bb, _, _, _, rfl, rfl, sqt (s2 _ _ hbb), atI1, _, rfl, wl, _, _, _, rfl, rfl, sqd (s2 _ _ hwl), atI0, _, rfl, sl, _, _, _, rfl, rfl, sqd (s2 _ _ hsl), hatm, bY, _, _, _, rfl, rfl, sqt (s2 _ _ eby), hatg, bg, rfl, ⟨_, sqt (s2 _ _ ebg)⟩, fun D hD => ?_⟩
    refine lc_tup (K := K) (a := bg) (xs := g.map V.int) (fun (t : Nat) (H' : Hp) => Same H2 H' ∧ H' D = some (.lst (((g.take t).filter fun x => decide (y ∈ optOf A0 x i.toNat)).map V.int))) ?_ ?_ ?_ ?_
    · exact ⟨same_new hD _, upd_same⟩
    · rintro t H' _ ⟨s, _⟩
      exact sqt (s _ _ (s2 _ _ ebg))
    · rintro t z H3 hz ⟨s3, k3⟩
      rw [List.getElem?_map] at hz
      obtain ⟨x, hx, rfl⟩ := Option.map_eq_some_iff.mp hz
      have hxm := List.mem_of_getElem? hx
      obtain ⟨x0, x1⟩ := hgr x hxm
      have hil : i.toNat < lenOf A0 x := Nat.lt_of_lt_of_le hiw (wid_le x hxm)
      obtain ⟨os', o, hos, ho, heo, _, _, _⟩ := optOf_g hG x0 x1 hil
      obtain ⟨os2, xv, hos2, hatx, b1, ys, rfl, eb1, hys⟩ := hxs.atI x0 x1
      rw [hos] at hos2
      cases hos2
      obtain ⟨ov, hov, b2, rfl, eb2⟩ := hys.at ho
      have hato : atI ys i = some (.ref b2) := by
        have := atI_nat hov
        rw [show ((i.toNat : Nat) : Int) = i by omega] at this
        exact this
      have s23 := s2.trans s3
      have hfl := List.length_filter_le (fun x => decide (y ∈ optOf A0 x i.toNat)) (g.take t)
      rw [List.length_take] at hfl
      have hnx : (g.take (t + 1)).filter (fun x => decide (y ∈ optOf A0 x i.toNat)) = (g.take t).filter (fun x => decide (y ∈ optOf A0 x i.toNat)) ++ if decide (y ∈ optOf A0 x i.toNat) = true then [x] else [] := by
        rw [List.take_add_one, hx, List.filter_append]
        congr 1
        show List.filter _ [x] = _
        simp only [List.filter_cons, List.filter_nil]
      refine ⟨rfl, ?_⟩
      refine ⟨_, rfl, pl, _, _, _, rfl, rfl, sqd (s3 _ _ kpl), atI0, _, rfl, _, rfl, b0, _, _, _, rfl, rfl, sqt (s23 _ _ e0), hatx, _, rfl, wl, _, _, _, rfl, rfl, sqd (s23 _ _ hwl), atI1, _, rfl, ol, _, _, _, rfl, rfl, sqd (s23 _ _ hol), hati, b1, _, _, _, rfl, rfl, sqt (s23 _ _ eb1), hato, b2, _, rfl, .inr (sqt (s23 _ _ eb2)), rfl, flat_ints' _, _, rfl, ?_⟩
      rw [in_int, ← heo]
      by_cases h : y ∈ optOf A0 x i.toNat
      · rw [decide_eq_true h]
        refine ifT rfl ⟨_, rfl, _, k3, big' (by rw [List.length_map]; omega), same_put s3 hD, ?_⟩
        rw [upd_same, hnx, if_pos (decide_eq_true h), List.map_append]
        rfl
      · rw [decide_eq_false h]
        refine ifF rfl ⟨s3, ?_⟩
        rw [hnx, if_neg (by rw [decide_eq_false h]; exact Bool.false_ne_true), List.append_nil]
        exact k3
    rintro H3 ⟨s3, k3⟩
    rw [List.length_map, List.take_length] at k3
    have hxf : x0 ∈ g.filter fun x => decide (y ∈ optOf A0 x i.toNat) := List.mem_filter.mpr ⟨hx0, decide_eq_true hyx0⟩
    obtain ⟨x, rest, hxr⟩ := List.exists_cons_of_ne_nil (List.ne_nil_of_mem hxf)
    have hxm : x ∈ g.filter fun x => decide (y ∈ optOf A0 x i.toNat) := by rw [hxr]; exact List.mem_cons_self
    obtain ⟨hxg, hxy⟩ := List.mem_filter.mp hxm
    rw [hxr] at k3
    have s23 := s2.trans s3
    refine ⟨_, rfl, D, _, rfl, .inl (sqd k3), rfl, _, rfl, ?_⟩
    refine ifF (decide_eq_false fun e => by have := V.int.inj e; rw [List.length_map, List.length_cons] at this; omega) ?_
    refine ⟨_, rfl, D, _, _, _, rfl, rfl, sqd k3, atI0, Nat.le_of_ble_eq_true rfl, fun q1 hq1 => ?_⟩
    obtain ⟨H4, e4, s4, k4⟩ := newH hq1 (.lst [V.int x])
    rw [e4]
    refine ⟨_, rfl, q1, pl, _, _, rfl, rfl, k4, s4 _ _ (s3 _ _ kpl), big (by rw [List.length_map]; show 1 + _ ≤ _; omega), fun p3 hp3 => ?_⟩
    obtain ⟨H5, e5, s5, k5⟩ := newH hp3 (.lst ([V.int x] ++ (y :: r).map V.int))
    rw [e5]
    refine ⟨p3, x :: y :: r, _, _, _, rfl, (s23.trans s4).trans s5, k5, ?_, by rw [List.length_cons]; omega⟩
    rw [show os.length - (t + 1) = kk by omega]
    exact pth_back hG hgr hp hi hm m0 hg hi0 hiw hxg fun y' r' e => by cases e; exact of_decide_eq_true hxy
  rintro σ H2 ⟨pl, ps, y5, y6, y7, rfl, s2, kpl, hp, hpsl⟩
  rw [Nat.sub_self] at hp
  exact ⟨_, rfl, q pl ps H2 s2 kpl hp⟩
end
end NL

set_option maxHeartbeats 8000000
namespace NL
open PySem PySem.Spec PyProof.Rows L2
theorem cut_tail {x : Int} {r : List Int} : cutV ((x :: r).map V.int) (some 1) none = r.map V.int := by
  unfold cutV
  rw [show (1 : Int) = ((1 : Nat) : Int) from rfl, HT.sIx_nat, HT.sIx_none]
  rw [List.length_map, List.length_cons, Nat.min_eq_left (by omega), List.map_cons, List.drop_succ_cons, List.drop_zero, List.take_of_length_le (by rw [List.length_map]; omega)]
theorem KnIn.sm {H H' : Hp} {F : Ar} {S : List (List Int)} {v : V} (s : Same H H') (h : KnIn H F S v) : KnIn H' F S v := by
  obtain ⟨b, x, y, e, hb, hx, hy⟩ := h
  exact ⟨b, x, y, e, s _ _ hb, hx.tp (Tp.same s), PosIn.tp (Tp.same s) hy⟩
section
variable {P : Program} {w : World} {K : PySem.W.Frag} {mg : Str → Option Value} {base : Heap}
/-! ### _law_is_refuted -/
def spRef : Sp := fun vs H Q _ => ∃ (av bv : V) (kp pa sp pl : Addr) (A F : Ar) (S : List (List Int)) (rd : Int → Int) (Kp st zs : List Int) (ls : List V) (k0 r0 : Nat) (g0 : List Int), vs = [av, .ref kp, bv, .ref pa, .ref sp, .ref pl, .int (k0 : Int)] ∧ ArIn H A av ∧ H kp = some (.tup (Kp.map V.int)) ∧ H sp = some (.tup (st.map V.int)) ∧ (∀ p ∈ g0, p ∈ st) ∧ ArG A ∧ A.length ≤ 6 ∧ Asc st ∧ (∀ p ∈ st, 0 ≤ p ∧ p < (A.length : Int)) ∧ IsKn A rd st F S ∧ ArG F ∧ KnIn H F S bv ∧ H pa = some (.tup ls) ∧ PaperAt true H F (gR true F (insK S Kp S.length)) F.length ls ∧ S[k0]? = some g0 ∧ gR true F (insK S Kp S.length) (k0 : Int) = some r0 ∧ H pl = some (.lst (zs.map V.int)) ∧ zs.length = 70 ∧
  ∀ H', Same H H' → Q (.bl true) H'
theorem ok_law_is_refuted (T : Txt K mg) : FnOk P w K mg base CX0 2 T.a_law_is_refuted T.d_law_is_refuted P_law_is_refuted spRef := by
  have G_law_walk := ok_law_walk (P := P) (w := w) (base := base) T
  have G_law_bad_ends := ok_law_bad_ends (P := P) (w := w) (base := base) T
  have G_law_back := ok_law_back (P := P) (w := w) (base := base) T
  have Gplay_on := ok_play_on (P := P) (w := w) (base := base) T
  refine T.F_law_is_refuted.ok sc_law_is_refuted (fun vs H Q E h => ?_) (fun cdv A outer s H vs Q E hr h => ?_)
  · obtain ⟨av, bv, kp, pa, sp, pl, A, F, S, rd, Kp, st, zs, ls, k0, r0, g0, rfl, _⟩ := h
    rfl
  obtain ⟨av, bv, kp, pa, sp, pl, A0, F, S, rd, Kp, st, zs, ls, k0, r0, g0, rfl, hA, hkp, hsp, hg0st, hG, h6, hst, hsm, hkn, hFG, hbv, hpa, hpap, hg0, hr0, hpl, hzl, q⟩ := h
  obtain ⟨I, hFS⟩ := hkn.inv hG hst hsm
  have hgm : ∀ g ∈ S, ∀ p ∈ g, 0 ≤ p ∧ p < (A0.length : Int) := fun g hg => (I.ks g hg).mem
  have hgl : ∀ g ∈ S, g.length ≤ 60 := fun g hg => by
    have := asc_short (lo := 0) (hi := (A0.length : Int)) (I.ks g hg).asc (fun x hx => (I.ks g hg).mem x hx) (by omega)
    omega
  refine ⟨_, (pss_cons (ps_set (i := 7) sc_law_is_refuted.nd rfl (Or.inl rfl) (pe_call G_law_walk (hr.mono (by omega)) (by rfl) T.m_law_walk T.F_law_walk.kp T.b_law_walk .nil pass0 (pa_cons (pv 2) (pa_cons (pv 3) (pa_cons (pv 5) (pa_cons (pv 6) pa_nil))))))
    (pss_cons (ps_set (i := 8) sc_law_is_refuted.nd rfl (Or.inl rfl) (pe_lst (pa_cons (pe_un un_neg pe_int) pa_nil)))
    (C8.pss_cut (ps_if (pt_cmpR op_ne (pe_ix ix_list (pe_ix ix_list (pv 7) pe_int (fun _ _ => rfl)) (pe_un un_neg pe_int) (fun _ _ => rfl)) (pe_un un_neg pe_int) (nomark _))
    (pss_one (ps_set (i := 8) sc_law_is_refuted.nd rfl (Or.inl rfl) (pe_call G_law_bad_ends (hr.mono (by omega)) (by rfl) T.m_law_bad_ends T.F_law_bad_ends.kp T.b_law_bad_ends .nil pass0 (pa_cons (pv 0) (pa_cons (pv 1) (pa_cons (pv 2) (pa_cons (pe_ix ix_list (pe_ix ix_list (pv 7) pe_int (fun _ _ => rfl)) (pe_un un_neg pe_int) (fun _ _ => rfl)) pa_nil)))))))
    pss_nil)
    (pss_cons (ps_if (pt_cmpR op_eq (pe_callB call_len_seq (by rfl) T.z_len PySem.boot_len (pa_cons (pv 8) pa_nil)) pe_int (nomark _))
    (pss_one (ps_ret pe_bl))
    pss_nil)
    (pss_cons (ps_set (i := 9) sc_law_is_refuted.nd rfl (Or.inl rfl) (pe_call G_law_back (hr.mono (by omega)) (by rfl) T.m_law_back T.F_law_back.kp T.b_law_back .nil pass0 (pa_cons (pv 0) (pa_cons (pv 2) (pa_cons (pv 7) (pa_cons (pv 8) pa_nil))))))
    (pss_cons (ps_if (PW.pt (pw_or (pt_cmpR op_isN (pv 9) pe_non (nomark _)) (pw_or1 (pt_cmpR op_notIn_seq (pe_ix ix_list (pv 9) pe_int (fun _ _ => rfl)) (pv 4) (by rfl)))))
    (pss_one (ps_ret pe_bl))
    pss_nil)
    (pss_one (ps_ret (pe_cmpR (op_eqD hr.units) (pe_call Gplay_on (hr.mono (by omega)) (by rfl) T.mplay_on T.Fplay_on.kp T.bplay_on .nil pass0 (pa_cons (pv 0) (pa_cons (pe_ix ix_list (pv 9) pe_int (fun _ _ => rfl)) (pa_cons (pe_ix ix_list (pv 7) pe_int (fun _ _ => rfl)) (pa_cons (pe_slice sl_list (pv 9) (po_some pe_int) po_none) pa_nil))))) (pe_callTy call_tuple_of (by rfl) T.z_tuple (by decide +kernel) (pa_cons (pv 9) pa_nil)) (nomark _)))))))))), ?_⟩
  refine ⟨_, rfl, _, rfl, _, rfl, _, rfl, bv, pa, pl, A0, F, S, rd, Kp, st, zs, ls, k0, r0, g0, rfl, hG, h6, hst, hsm, hkn, hFG, hbv, hpa, hpap, hg0, hr0, hpl, hzl, fun wl sl ol ini last os H1 s1 hwl hsl hol hW hhd hol70 hbad => ?_⟩
  have hlen := hW.len
  rw [List.length_append, List.length_singleton] at hlen
  refine ⟨_, rfl, Nat.le_of_ble_eq_true rfl, fun el0 hel0 => ?_⟩
  obtain ⟨H2, e2, s2, k2⟩ := newH hel0 (.lst [V.int (-1)])
  rw [e2]
  have s12 := s1.trans s2
  refine ⟨fun σ H' => ∃ (el : Addr) (e : Int) (er : List Int) (y9 : Option V), σ = [some av, some (.ref kp), some bv, some (.ref pa), some (.ref sp), some (.ref pl), some (.int (k0 : Int)), some (.ref wl), some (.ref el), y9] ∧ Same H2 H' ∧ H' el = some (.lst ((e :: er).map V.int)) ∧ OnS S last e, ?_, ?_⟩
  · refine ⟨_, rfl, wl, _, _, _, rfl, rfl, sqd (s2 _ _ hwl), atI0, _, rfl, sl, _, _, _, rfl, rfl, sqd (s2 _ _ hsl), at_lastI, _, rfl, rfl, _, rfl, ?_⟩
    by_cases hl1 : last = -1
    · subst hl1
      exact ifF rfl ⟨el0, -1, [], _, rfl, Same.refl _, k2, .inl ⟨rfl, rfl⟩⟩
    · refine ifT (by rw [decide_eq_false fun e => hl1 (V.int.inj e)]; rfl) ?_
      rcases hbad with e | ⟨g, l0, hg, hbad⟩
      · exact absurd e hl1
      obtain ⟨k, rfl⟩ : ∃ k : Nat, last = (k : Int) := ⟨last.toNat, by omega⟩
      rw [Int.toNat_natCast] at hg
      have hgS := List.mem_of_getElem? hg
      refine ⟨_, rfl, _, rfl, _, rfl, _, rfl, wl, _, _, _, rfl, rfl, sqd (s2 _ _ hwl), atI0, _, rfl, sl, _, _, _, rfl, rfl, sqd (s2 _ _ hsl), at_lastI, av, bv, kp, A0, F, S, Kp, g, k, rfl, hA.tp (Tp.same s12), s12 _ _ hkp, hbv.sm s12, hg, hgm g hgS, hgl g hgS, fun D l H3 s3 k3 hlm hle => ?_⟩
      obtain ⟨x, r, hxr⟩ := List.exists_cons_of_ne_nil (hle hbad)
      subst hxr
      refine ⟨D, x, r, _, rfl, s3, k3, .inr ⟨by omega, ?_⟩⟩
      rw [Int.toNat_natCast, hg]
      exact hlm x List.mem_cons_self
  rintro σ H3 ⟨el, e, er, y9, rfl, s3, kel, hon⟩
  have s13 := s12.trans s3
  refine ⟨_, rfl, el, _, rfl, .inl (sqd kel), rfl, _, rfl, ?_⟩
  refine ifF (decide_eq_false fun e => by have := V.int.inj e; rw [List.length_map, List.length_cons] at this; omega) ?_
  have hlast : (ini ++ [last])[os.length]? = some last := by
    rw [List.getElem?_append_right (by omega), show os.length - ini.length = 0 by omega]
    rfl
  refine ⟨_, rfl, _, rfl, _, rfl, _, rfl, av, bv, wl, sl, ol, el, A0, F, S, ini ++ [last], os, er, e, last, rfl, hA.tp (Tp.same s13), hG, hbv.sm s13, hgm, hgl, s3 _ _ (s2 _ _ hwl), s3 _ _ (s2 _ _ hsl), s3 _ _ (s2 _ _ hol), hW, hol70, kel, hlast, hon, fun ql ps H4 s4 kps hp => ?_⟩
  obtain ⟨x, r, n, rfl, hn, honx, hplay, hrl⟩ := hp
  rw [hhd] at hn
  cases hn
  have hxg : x ∈ g0 := by
    rcases honx with ⟨h, _⟩ | ⟨_, h⟩
    · omega
    · rw [Int.toNat_natCast, hg0] at h
      exact h
  have hxst := hg0st x hxg
  obtain ⟨x0, x1⟩ := hsm x hxst
  have s14 := s13.trans s4
  refine ⟨_, rfl, rfl, _, rfl, ifF (decide_eq_false fun e => nomatch e) ?_⟩
  refine ⟨_, rfl, ql, _, _, _, rfl, rfl, sqd kps, atI0, _, rfl, sp, _, rfl, .inr (sqt (s14 _ _ hsp)), rfl, flat_ints' _, _, rfl, ?_⟩
  rw [notIn_int, decide_eq_true hxst]
  refine ifF rfl ?_
  have hwl4 := s4 _ _ (s3 _ _ (s2 _ _ hwl))
  have hol4 := s4 _ _ (s3 _ _ (s2 _ _ hol))
  refine ⟨_, rfl, _, rfl, ql, _, _, _, rfl, rfl, sqd kps, atI0, _, rfl, wl, _, _, _, rfl, rfl, sqd hwl4, atI1, _, rfl, 1, rfl, ?_⟩
  dsimp only [tNoPart]
  refine ⟨ql, _, rfl, sqd kps, fun rl hrl' => ?_⟩
  rw [cut_tail]
  obtain ⟨H5, e5, s5, k5⟩ := newH hrl' (.lst (r.map V.int))
  rw [e5]
  refine ⟨av, A0, x, ol, rl, os, r, rfl, hA.tp (Tp.same (s14.trans s5)), hG, x0, x1, by omega, by omega, .inl ⟨sqd (s5 _ _ hol4), sqd k5⟩, fun pp H6 s6 k6 => ?_⟩
  have s46 := s5.trans s6
  refine ⟨_, rfl, ql, _, rfl, .inl ⟨sqd (s46 _ _ kps), fun tl htl => ?_⟩⟩
  obtain ⟨H7, e7, s7, k7⟩ := newH htl (.tup ((x :: r).map V.int))
  rw [e7]
  rw [List.drop_zero] at hplay
  rw [hplay] at k6
  refine ⟨dpG (x :: r), dpG (x :: r), .tup (sqt (s7 _ _ k6)) (dp_intsR _), .tup (sqt k7) (dp_intsR _), shaped_G _, shaped_G _, ?_⟩
  rw [eqv_G, decide_eq_true rfl]
  exact q H7 ((s14.trans s46).trans s7)
end
end NL

set_option maxHeartbeats 8000000
namespace NL
open PySem PySem.Spec PyProof.Rows L2
theorem KnIn.tp {H H' : Hp} {F : Ar} {S : List (List Int)} {v : V} (t : Tp H H') (h : KnIn H F S v) : KnIn H' F S v := by
  obtain ⟨b, x, y, e, hb, hx, hy⟩ := h
  exact ⟨b, x, y, e, t _ _ hb, hx.tp t, PosIn.tp t hy⟩
section
variable {P : Program} {w : World} {K : PySem.W.Frag} {mg : Str → Option Value} {base : Heap}
theorem ok_law (T : Txt K mg) {c Pt : Addr} (TB : GxR.TabB base mg c Pt) (hc : T.dforces.code = .ref c) : FnOk P w K mg base CX0 8 T.alaw T.dlaw Plaw (spLawT K Pt) := by
  have G_law_draws := ok_law_draws (P := P) (w := w) (base := base) T
  have G_law_arena := ok_law_arena (P := P) (w := w) (base := base) T
  have G_law_some := ok_law_some (P := P) (w := w) (base := base) T
  have G_law_readings := ok_law_readings (P := P) (w := w) (base := base) T
  have G_law_known_keep := ok_law_known_keep (P := P) (w := w) (base := base) T
  have G_law_picks := ok_law_picks (P := P) (w := w) (base := base) T
  have G_law_is_refuted := ok_law_is_refuted (P := P) (w := w) (base := base) T
  have Gknown_arena := ok_known_arena (P := P) (w := w) (base := base) T
  have Gcan_know := ok_can_know (P := P) (w := w) T TB hc
  have Gtold_paper := ok_told_paper (P := P) (w := w) T TB hc true
  refine T.Flaw.ok sclaw (fun vs H Q E h => ?_) (fun cdv A outer s H vs Q E hr h => ?_)
  · obtain ⟨a, ns, rfl, _⟩ := h
    rfl
  obtain ⟨a, ns, rfl, hSq, hl, hT, q⟩ := h
  refine ⟨_, (pss_cons (ps_set (i := 1) sclaw.nd rfl (Or.inl rfl) (pe_call G_law_draws (hr.mono (by omega)) (by rfl) T.m_law_draws T.F_law_draws.kp T.b_law_draws .nil pass0 (pa_cons (pv 0) (pa_cons pe_int pa_nil))))
    (pss_cons (ps_set (i := 2) sclaw.nd rfl (Or.inl rfl) (pe_call G_law_arena (hr.mono (by omega)) (by rfl) T.m_law_arena T.F_law_arena.kp T.b_law_arena .nil pass0 (pa_cons (pv 1) (pa_cons pe_int pa_nil))))
    (C8.pss_cut (ps_if (pt_cmpR op_gt (pe_callB call_len_seq (by rfl) T.z_len PySem.boot_len (pa_cons (pv 2) pa_nil)) pe_int (nomark _))
    (pss_one (ps_set (i := 2) sclaw.nd rfl (Or.inl rfl) (pe_slice sl_tupA (pv 2) po_none (po_some pe_int))))
    pss_nil)
    (pss_cons (ps_set (i := 3) sclaw.nd rfl (Or.inl rfl) (pe_call G_law_some (hr.mono (by omega)) (by rfl) T.m_law_some T.F_law_some.kp T.b_law_some .nil pass0 (pa_cons (pv 1) (pa_cons (pv 2) (pa_cons pe_int pa_nil)))))
    (pss_cons (ps_set (i := 4) sclaw.nd rfl (Or.inr rfl) (pe_call G_law_some (hr.mono (by omega)) (by rfl) T.m_law_some T.F_law_some.kp T.b_law_some .nil pass0 (pa_cons (pv 1) (pa_cons (pv 2) (pa_cons pe_int pa_nil)))))
    (pss_cons (ps_set (i := 5) sclaw.nd rfl (Or.inl rfl) (pe_call G_law_readings (hr.mono (by omega)) (by rfl) T.m_law_readings T.F_law_readings.kp T.b_law_readings .nil pass0 (pa_cons (pv 0) (pa_cons (pv 1) (pa_cons (pv 2) pa_nil)))))
    (pss_cons (ps_if (pt_val (pe_call Gcan_know (hr.mono (by omega)) (by rfl) T.mcan_know T.Fcan_know.kp T.bcan_know .nil pass0 (pa_cons (pv 2) (pa_cons (pv 3) (pa_cons (pv 5) (pa_cons (pv 4) pa_nil))))))
    (pss_one (ps_ret pe_bl))
    pss_nil)
    (pss_cons (ps_set (i := 6) sclaw.nd rfl (Or.inr rfl) (pe_call Gknown_arena (hr.mono (by omega)) (by rfl) T.mknown_arena T.Fknown_arena.kp T.bknown_arena .nil pass0 (pa_cons (pv 2) (pa_cons (pv 5) (pa_cons (pv 4) pa_nil)))))
    (pss_cons (ps_set (i := 7) sclaw.nd rfl (Or.inr rfl) (pe_call Gtold_paper (hr.mono (by omega)) (by rfl) T.mtold_paper T.Ftold_paper.kp T.btold_paper .nil pass0 (pa_cons (pe_ix ix_tup (pv 6) pe_int (fun _ _ => rfl)) (pa_cons (pe_tup (pa_cons pe_str (pa_cons (pe_call G_law_known_keep (hr.mono (by omega)) (by rfl) T.m_law_known_keep T.F_law_known_keep.kp T.b_law_known_keep .nil pass0 (pa_cons (pe_ix ix_tup (pv 6) pe_int (fun _ _ => rfl)) (pa_cons (pv 3) pa_nil))) pa_nil))) pa_nil))))
    (pss_cons (ps_set (i := 8) sclaw.nd rfl (Or.inl rfl) (pe_call G_law_picks (hr.mono (by omega)) (by rfl) T.m_law_picks T.F_law_picks.kp T.b_law_picks .nil pass0 (pa_cons (pv 0) (pa_cons (pv 1) (pa_cons pe_int pa_nil)))))
    (pss_cons (ps_setLc (i := 9) (own := [("k", 10)]) (g := (gName 10)) (tt := _) rfl sclaw.nd rfl rfl (sw_true rfl rfl rfl (by decide +kernel)) (pi_range1 (by rfl) T.z_range (pa_cons (pe_callB call_len_seq (by rfl) T.z_len PySem.boot_len (pa_cons (pe_ix ix_tup (pv 6) pe_int (fun _ _ => rfl)) pa_nil)) pa_nil)) (blkOk_by (N := Nlaw) (sc := defScope slaw) (by decide +kernel)) (fun _ _ _ _ _ => (pg_name (i := 10) sclaw.nd rfl (Or.inl rfl))) (fun _ _ _ _ _ => (pts_one (PW.pt (pw_and (pt_cmpR op_eq (pe_ix (ix_tupK (K := K) rfl) (pe_ix (ix_tupK (K := K) rfl) (pv 7) (pv 10) (fun _ _ => rfl)) pe_int (fun _ _ => rfl)) pe_str (nomark _)) (pw_and1 (pt_cmpR (op_in_seqK (K := K) rfl) (pe_ix (ix_tupK (K := K) rfl) (pe_ix (ix_tupK (K := K) rfl) (pe_ix (ix_tupK (K := K) rfl) (pv 6) pe_int (fun _ _ => rfl)) (pv 10) (fun _ _ => rfl)) pe_int (fun _ _ => rfl)) (pv 4) (by rfl))))))) (fun _ _ _ _ _ => (pv 10)))
    (pss_cons (ps_setLc (i := 11) (own := [("k", 10)]) (g := (gName 10)) (tt := _) rfl sclaw.nd rfl rfl (sw_true rfl rfl rfl (by decide +kernel)) (pi_list (pv 9)) (blkOk_by (N := Nlaw) (sc := defScope slaw) (by decide +kernel)) (fun _ _ _ _ _ => (pg_name (i := 10) sclaw.nd rfl (Or.inl rfl))) (fun _ _ _ _ _ => (pts_one (pt_cmpR op_eq (pe_callB (call_len_seqK (K := K) rfl) (by rfl) T.z_len PySem.boot_len (pa_cons (pe_lc (own := [("at", 12)]) (g := (gName 12)) (tt := _) rfl sclaw.nd (pi_tupK (K := K) rfl (pe_ix (ix_tupK (K := K) rfl) (pe_ix (ix_tupK (K := K) rfl) (pv 6) pe_int (fun _ _ => rfl)) (pv 10) (fun _ _ => rfl))) (blkOk_by (by rfl)) (fun _ _ _ _ _ => (pg_name (i := 12) sclaw.nd rfl (Or.inl rfl))) (fun _ _ _ _ _ => (pts_one (pt_cmpR (op_notIn_seqK (K := K) rfl) (pv 12) (pv 4) (by rfl)))) (fun _ _ _ _ _ => (pv 12))) pa_nil)) pe_int (nomark _)))) (fun _ _ _ _ _ => (pv 10)))
    (pss_cons (ps_for  PassesOwn.never rfl (pi_list (pv 11)) (pg_name (i := 13) sclaw.nd rfl (Or.inl rfl))
    (pss_one (ps_if (pt_not (pt_val (pe_call G_law_is_refuted (hr.mono (by omega)) (by rfl) T.m_law_is_refuted T.F_law_is_refuted.kp T.b_law_is_refuted .nil pass0 (pa_cons (pv 2) (pa_cons (pv 3) (pa_cons (pv 6) (pa_cons (pv 7) (pa_cons (pv 4) (pa_cons (pv 8) (pa_cons (pv 13) pa_nil))))))))))
    (pss_one (ps_ret pe_bl))
    pss_nil)))
    (pss_one (ps_ret (pe_cmpR op_gt (pe_callB call_len_seq (by rfl) T.z_len PySem.boot_len (pa_cons (pv 11) pa_nil)) pe_int (nomark _))))))))))))))))), ?_⟩
  refine ⟨_, rfl, a, ns, 173, rfl, hSq, hl, by decide, by decide, fun d H1 s1 hd D1 => ?_⟩
  have hS1 : ScrL K d H1 a (ns.map V.int) := (ScrL.of hSq hd).sm s1
  refine ⟨_, rfl, d, 6, rfl, D1, by decide, by decide, fun v A1 H2 g2 hA hG1 h46 hkind => ?_⟩
  obtain ⟨b0, xs, rfl, e0, hxs⟩ := id hA
  have hxl := hxs.1
  have hT2 : GxR.TabG H2 Pt := g2.tab D1 (TabG.same hT s1)
  refine ⟨fun σ H' => ∃ (b1 : Addr) (A2 : Ar) (y3 y4 y5 y6 y7 y8 y9 y10 y11 y12 y13 : Option V), σ = [some (.ref a), some (.ref d), some (.ref b1), y3, y4, y5, y6, y7, y8, y9, y10, y11, y12, y13] ∧ ArIn H' A2 (.ref b1) ∧ ArG A2 ∧ A2.length ≤ 6 ∧ Go d H2 H', ?_, ?_⟩
  · refine ⟨_, rfl, b0, _, rfl, .inr (sqt e0), _, _, rfl, rfl, _, rfl, ?_⟩
    refine ite2 (fun z => ?_) (fun z => ?_)
    · refine ⟨_, rfl, 0, rfl, ?_⟩
      refine slA_of e0 fun p H3 s3 k3 => ?_
      rw [show cutV xs none (some 0) = xs.take 0 from cut_pre (k := 0), List.take_zero] at k3
      exact ⟨p, [], _, _, _, _, _, _, _, _, _, _, _, rfl, ⟨p, [], rfl, k3, .nil⟩, ⟨Nat.zero_le _, fun os h => nomatch h⟩, Nat.zero_le _, Go.same g2.dr s3⟩
    · have h5 : A1.length ≤ 6 := by
        have : ¬ (6 : Int) < ((xs.length : Nat) : Int) := fun h => z (decide_eq_true h)
        omega
      exact ⟨b0, A1, _, _, _, _, _, _, _, _, _, _, _, rfl, hA, hG1, h5, Go.refl g2.dr⟩
  rintro σ H3 ⟨b1, A0, y3, y4, y5, y6, y7, y8, y9, y10, y11, y12, y13, rfl, hA3, hG, h6, g3⟩
  have hn : A0.length ≤ 46 := by omega
  refine ⟨_, rfl, _, rfl, d, _, A0, 7, rfl, g3.dr, hA3, by omega, fun kp Kp H4 g4 kkp hKp => ?_⟩
  have hA4 := hA3.tp (g4.tp g3.dr)
  refine ⟨_, rfl, _, rfl, d, _, A0, 5, rfl, g4.dr, hA4, by omega, fun sp st H5 g5 ksp hst => ?_⟩
  have hA5 := hA4.tp (g5.tp g4.dr)
  have g25 := (g3.trans g4).trans g5
  refine ⟨_, rfl, _, rfl, _, rfl, a, d, ns, _, A0, rfl, (hS1.go g2).go g25, hl, g5.dr, hA5, by omega, fun rp Rp H6 g6 krp hRp => ?_⟩
  have g26 := g25.trans g6
  have hA6 := hA5.tp (g6.tp g5.dr)
  have kkp6 := g6.tp g5.dr _ _ (g5.tp g4.dr _ _ kkp)
  have ksp6 := g6.tp g5.dr _ _ ksp
  have hT6 : GxR.TabG H6 Pt := g26.tab g2.dr hT2
  have hS6 : ScrL K d H6 a (ns.map V.int) := (hS1.go g2).go g26
  have hstR : ∀ p ∈ st, 0 ≤ p ∧ p < (A0.length : Int) := hst.mem
  have hfew : Few (rdF Rp) (A0.length : Int) := few_of (near_small _ h6) (by have := Nat.mul_le_mul_right (2 ^ 5) h6; omega)
  have hfk := few_k hG hst.asc hstR hfew
  refine ⟨_, rfl, _, rfl, _, rfl, _, rfl, .ref b1, kp, rp, sp, A0, Kp, Rp, st, rfl, hA6, hG, hn, kkp6, krp, hRp, ksp6, hst.asc, hstR, hfk, hT6, fun F S b H7 s7 hkn hb => ?_⟩
  refine ⟨b, rfl, ?_⟩
  by_cases hbt : b = true
  · refine ifT hbt ?_
    exact q _
  refine ifF (Bool.eq_false_iff.mpr hbt) ?_
  have hnot : ¬ Knw F S Kp (prt (rdF Rp) st).length := fun h => hbt (hb.mpr h)
  have t7 : Tp H6 H7 := fun _ _ e => s7.tup e
  refine ⟨_, rfl, _, rfl, _, rfl, .ref b1, rp, sp, A0, Rp, st, rfl, hA6.tp t7, hG, hn, s7.tup krp, hRp, s7.tup ksp6, hst.asc, hstR, hfk, fun F' S' bv H8 s8 hkn' hin => ?_⟩
  obtain ⟨rfl, rfl⟩ := hkn.uniq hkn'
  obtain ⟨bb, vx, vy, rfl, hbb, hfx, hsy⟩ := id hin
  obtain ⟨I, hFS⟩ := hkn.inv hG hst.asc hstR
  have hS300 := hfew S I.nd I.ks
  have hFG := kn_good' hG hn hst.asc hstR hS300 hkn
  have hgl : ∀ g ∈ S, g.length ≤ 60 := fun g hg => by
    have := asc_short (lo := 0) (hi := (A0.length : Int)) (I.ks g hg).asc (fun x hx => (I.ks g hg).mem x hx) (by omega)
    omega
  have t8 : Tp H6 H8 := t7.trans (Tp.same s8)
  refine ⟨_, rfl, bb, _, _, _, rfl, rfl, sqt hbb, atI0, _, rfl, bb, _, _, _, rfl, rfl, sqt hbb, atI1, _, rfl, vy, kp, S, Kp, rfl, hsy, hS300, hgl, t8 _ _ kkp6, fun ip H9 s9 kip => ?_⟩
  refine ⟨Nat.le_of_ble_eq_true rfl, fun gp hgp => ?_⟩
  obtain ⟨HA, eA, sA, kA⟩ := newH hgp (.tup [V.str "stay", V.ref ip])
  rw [eA]
  have m6A : Sm Pt H6 HA := s7.trans (.of (s8.trans (s9.trans sA)))
  refine ⟨vx, F, gp, ip, insK S Kp S.length, rfl, hfx.tp (Tp.same (s9.trans sA)), hFG, kA, sA _ _ kip, m6A.tb hT6, fun pa ls HB sB hpa hpap => ?_⟩
  have m6B := m6A.trans sB
  have m8B : Sm Pt H8 HB := (Sm.of (s9.trans sA)).trans sB
  have t6B : Tp H6 HB := fun _ _ e => m6B.tup e
  have hDB : Dr HB d := by
    obtain ⟨ds, e⟩ := g6.dr
    exact ⟨ds, m6B.lst e⟩
  have hSB : ScrL K d HB a (ns.map V.int) := ⟨m6B.seqL hS6.1, hS6.2⟩
  refine ⟨_, rfl, _, rfl, a, d, ns, 70, rfl, hSB, hl, hDB, by decide, fun pl zs HC gC hpl kpl hzl => ?_⟩
  have tBC : Tp HB HC := gC.tp hDB
  have t6C : Tp H6 HC := t6B.trans tBC
  have t8C : Tp H8 HC := fun _ _ e => tBC _ _ (m8B.tup e)
  have hinC := hin.tp t8C
  have hpaC := tBC _ _ hpa
  have hpapC := hpap.tp tBC
  have kspC := t6C _ _ ksp6
  obtain ⟨_, _, _, e3, hbbC, _, ⟨bY, sys, rfl, eby, hsyC⟩⟩ := id hinC
  have hbb2 := t8C _ _ hbb
  cases e3
  rw [hbb2] at hbbC
  cases hbbC
  have hsyl := hsyC.1
  have hSat : ∀ k : Nat, k < S.length → ∃ g bg, S[k]? = some g ∧ atI sys (k : Int) = some (.ref bg) ∧ HC bg = some (.tup (g.map V.int)) := fun k hk => by
    have hg : S[k]? = some S[k] := List.getElem?_eq_getElem hk
    obtain ⟨v, hv, bg, rfl, ebg⟩ := hsyC.at hg
    exact ⟨_, bg, hg, atI_nat hv, ebg⟩
  -- the sets that are lost
  refine ⟨_, rfl, bb, _, _, _, rfl, rfl, sqt hbb2, atI1, bY, _, rfl, .inr (sqt eby), _, rfl, by omega, by omega, fun D hD => ?_⟩
  refine lc_range (lo := 0) (n := ((sys.length : Nat) : Int).toNat) (fun (j : Nat) (H' : Hp) => Same HC H' ∧ ∃ l : List Int, H' D = some (.lst (l.map V.int)) ∧ l.length ≤ j ∧ (∀ x ∈ l, ∃ k r : Nat, x = (k : Int) ∧ k < S.length ∧ gR true F (insK S Kp S.length) (k : Int) = some r) ∧ ∀ k : Nat, k < j → (∃ r, gR true F (insK S Kp S.length) (k : Int) = some r) → (∀ p ∈ (S[k]?).getD [], p ∈ st) → (k : Int) ∈ l) ?_ ?_ ?_
  · exact ⟨same_new hD _, [], upd_same, Nat.le_refl _, fun x hx => (nomatch hx), fun k hk => absurd hk (Nat.not_lt_zero _)⟩
  · rintro j HD hj ⟨sD, l, kD, hll, hl1, hl2⟩
    have hjS : j < S.length := by omega
    obtain ⟨g, bg, hg, hat, ebg⟩ := hSat j hjS
    have hks := I.ks g (List.mem_of_getElem? hg)
    obtain ⟨w0, wr, hw⟩ := List.exists_cons_of_ne_nil hks.ne
    have hos : F[j]? = some F[j] := List.getElem?_eq_getElem (by omega)
    obtain ⟨v, hv, bp, pkv, rfl, ebp, _⟩ := hpapC.2 j _ (by omega) hos
    have hatp : atI ls (j : Int) = some (.ref bp) := atI_nat hv
    have hno : (∀ r, gR true F (insK S Kp S.length) (j : Int) ≠ some r) ∨ w0 ∉ st → ∀ k : Nat, k < j + 1 → (∃ r, gR true F (insK S Kp S.length) (k : Int) = some r) → (∀ p ∈ (S[k]?).getD [], p ∈ st) → (k : Int) ∈ l := fun hor k hk hr hp => by
      by_cases hkj : k = j
      · subst hkj
        rcases hor with h | h
        · obtain ⟨r, hr⟩ := hr
          exact absurd hr (h r)
        · rw [hg, hw] at hp
          exact absurd (hp w0 List.mem_cons_self) h
      · exact hl2 k (by omega) hr hp
    refine ⟨rfl, ?_⟩
    rw [Int.zero_add]
    cases hR : gR true F (insK S Kp S.length) (j : Int) with
    | none =>
      rw [hR] at ebp
      refine ⟨_, rfl, _, rfl, pa, _, _, _, rfl, rfl, sqt (sD _ _ hpaC), hatp, bp, _, _, _, rfl, rfl, sqt (sD _ _ ebp), atI0, rfl, _, rfl, ?_⟩
      exact ifF rfl (iteF ⟨sD, l, kD, by omega, hl1, hno (.inl fun r e => by rw [hR] at e; cases e)⟩)
    | some r =>
      rw [hR] at ebp
      refine ⟨_, rfl, _, rfl, pa, _, _, _, rfl, rfl, sqt (sD _ _ hpaC), hatp, bp, _, _, _, rfl, rfl, sqt (sD _ _ ebp), atI0, rfl, _, rfl, ?_⟩
      refine ifT rfl ?_
      rw [hw] at ebg
      refine ⟨_, rfl, bb, _, _, _, rfl, rfl, sqt (sD _ _ hbb2), atI1, _, rfl, bY, _, _, _, rfl, rfl, sqt (sD _ _ eby), hat, bg, _, _, _, rfl, rfl, sqt (sD _ _ ebg), atI0, _, rfl, sp, _, rfl, .inr (sqt (sD _ _ kspC)), rfl, flat_ints' _, _, rfl, ?_⟩
      rw [in_int]
      by_cases h : w0 ∈ st
      · rw [decide_eq_true h]
        refine ifT rfl ⟨_, rfl, _, kD, big' (by rw [List.length_map]; omega), same_put sD hD, l ++ [(j : Int)], by rw [upd_same, List.map_append]; rfl, by rw [List.length_append]; exact Nat.add_le_add_right hll 1, fun x hx => ?_, fun k hk hr hp => ?_⟩
        · rcases List.mem_append.mp hx with hx | hx
          · exact hl1 x hx
          · exact ⟨j, r, List.mem_singleton.mp hx, hjS, hR⟩
        · by_cases hkj : k = j
          · exact List.mem_append_right _ (by rw [hkj]; exact List.mem_singleton.mpr rfl)
          · exact List.mem_append_left _ (hl2 k (by omega) hr hp)
      · rw [decide_eq_false h]
        exact ifF rfl ⟨sD, l, kD, by omega, hl1, hno (.inr h)⟩
  rintro HD ⟨sD, L, kD, hLl, hL1, hL2⟩
  -- those among them that the starts make alone
  refine ⟨_, rfl, D, rfl, ⟨_, sqd kD⟩, fun D2 hD2 => ?_⟩
  refine lc_list (K := K) (a := D) (xs := L.map V.int) (fun (t : Nat) (H' : Hp) => Same HD H' ∧ ∃ l : List Int, H' D2 = some (.lst (l.map V.int)) ∧ l.length ≤ t ∧ (∀ x ∈ l, x ∈ L ∧ ∀ p ∈ (S[x.toNat]?).getD [], p ∈ st) ∧ ∀ x ∈ L.take t, (∀ p ∈ (S[x.toNat]?).getD [], p ∈ st) → x ∈ l) ?_ ?_ ?_ ?_
  · exact ⟨same_new hD2 _, [], upd_same, Nat.le_refl _, fun x hx => (nomatch hx), fun x hx => by rw [List.take_zero] at hx; exact (nomatch hx)⟩
  · rintro t H' _ ⟨s, _⟩
    exact sqd (s _ _ kD)
  · rintro t x HE hx ⟨sE, l, kE, hll, hl1, hl2⟩
    rw [List.getElem?_map] at hx
    obtain ⟨x1, hxx, hx1⟩ := Option.map_eq_some_iff.mp hx
    subst hx1
    have htl := (List.getElem?_eq_some_iff.mp hxx).1
    obtain ⟨k, r, rfl, hkS, hR⟩ := hL1 x1 (List.mem_of_getElem? hxx)
    obtain ⟨g, bg, hg, hat, ebg⟩ := hSat k hkS
    have hgl60 := hgl g (List.mem_of_getElem? hg)
    have sCE := sD.trans sE
    have htk : L.take (t + 1) = L.take t ++ [(k : Int)] := by rw [List.take_add_one, hxx]; rfl
    refine ⟨rfl, ?_⟩
    refine ⟨_, rfl, bb, _, _, _, rfl, rfl, sqt (sCE _ _ hbb2), atI1, _, rfl, bY, _, _, _, rfl, rfl, sqt (sCE _ _ eby), hat, bg, rfl, ⟨_, sqt (sCE _ _ ebg)⟩, fun D5 hD5 => ?_⟩
    refine lc_tup (K := K) (a := bg) (xs := g.map V.int) (fun (t : Nat) (H' : Hp) => Same HE H' ∧ ∃ zs : List Int, H' D5 = some (.lst (zs.map V.int)) ∧ zs.length ≤ t ∧ (zs = [] ↔ ∀ x ∈ g.take t, x ∈ st)) ?_ ?_ ?_ ?_
    · exact ⟨same_new hD5 _, [], upd_same, Nat.le_refl _, ⟨fun _ x hx => by rw [List.take_zero] at hx; exact (nomatch hx), fun _ => rfl⟩⟩
    · rintro t H' _ ⟨s, _⟩
      exact sqt (s _ _ (sCE _ _ ebg))
    · rintro t x HF hx ⟨sF, zs, kF, hzl, hzs⟩
      rw [List.getElem?_map] at hx
      obtain ⟨p, hp, rfl⟩ := Option.map_eq_some_iff.mp hx
      have htl := (List.getElem?_eq_some_iff.mp hp).1
      have htk : g.take (t + 1) = g.take t ++ [p] := by rw [List.take_add_one, hp]; rfl
      refine ⟨rfl, ?_⟩
      refine ⟨_, rfl, _, rfl, sp, _, rfl, .inr (sqt ((sCE.trans sF) _ _ kspC)), rfl, flat_ints' _, _, rfl, ?_⟩
      rw [notIn_int]
      by_cases h2 : p ∈ st
      · rw [decide_eq_true h2]
        refine ifF rfl ⟨sF, zs, kF, by omega, ?_⟩
        rw [hzs, htk]
        constructor
        · intro h x hx
          rcases List.mem_append.mp hx with hx | hx
          · exact h x hx
          · rw [List.mem_singleton.mp hx]
            exact h2
        · exact fun h x hx => h x (List.mem_append_left _ hx)
      · rw [decide_eq_false h2]
        refine ifT rfl ⟨_, rfl, _, kF, big' (by rw [List.length_map]; omega), same_put sF hD5, zs ++ [p], by rw [upd_same, List.map_append]; rfl, by rw [List.length_append]; exact Nat.add_le_add_right hzl 1, ?_⟩
        constructor
        · intro e
          simp at e
        · intro h3
          exact absurd (h3 p (by rw [htk]; simp)) h2
    rintro HF ⟨sF, zs, kF, hzl, hzs⟩
    rw [List.length_map, List.take_length] at hzs
    refine ⟨D5, _, rfl, .inl (sqd kF), rfl, _, rfl, ?_⟩
    rw [List.length_map]
    have kEF := sF _ _ kE
    have hgd : (S[((k : Nat) : Int).toNat]?).getD [] = g := by rw [Int.toNat_natCast, hg]; rfl
    by_cases hz : zs = []
    · subst hz
      have hall := hzs.mp rfl
      refine ifT rfl ⟨_, rfl, _, kEF, big' (by rw [List.length_map]; omega), same_put (sE.trans sF) hD2, l ++ [(k : Int)], by rw [upd_same, List.map_append]; rfl, by rw [List.length_append]; exact Nat.add_le_add_right hll 1, fun x hx => ?_, fun x hx hp => ?_⟩
      · rcases List.mem_append.mp hx with hx | hx
        · exact hl1 x hx
        · rw [List.mem_singleton.mp hx, hgd]
          exact ⟨List.mem_of_getElem? hxx, hall⟩
      · rw [htk] at hx
        rcases List.mem_append.mp hx with hx | hx
        · exact List.mem_append_left _ (hl2 x hx hp)
        · exact List.mem_append_right _ hx
    · have hpos := List.length_pos_iff.mpr hz
      refine ifF (decide_eq_false fun e => by have := V.int.inj e; omega) ⟨sE.trans sF, l, kEF, by omega, hl1, fun x hx hp => ?_⟩
      rw [htk] at hx
      rcases List.mem_append.mp hx with hx | hx
      · exact hl2 x hx hp
      · rw [List.mem_singleton.mp hx, hgd] at hp
        exact absurd (hzs.mpr hp) hz
  rintro HE ⟨sE, M, kE, hMl, hM1, hM2⟩
  rw [List.length_map, List.take_length] at hM2
  have sCE := sD.trans sE
  refine ⟨_, rfl, D2, rfl, ⟨_, sqd kE⟩, ?_⟩
  refine for_list (K := K) (a := D2) (xs := M.map V.int) (fun (t : Nat) (σ : L2.St) (H' : Hp) => ∃ (y13 : Option V), σ = [some (.ref a), some (.ref d), some (.ref b1), some (.ref kp), some (.ref sp), some (.ref rp), some (.ref bb), some (.ref pa), some (.ref pl), some (.ref D), y10, some (.ref D2), y12, y13] ∧ Same HE H') ?_ ?_ ?_ ?_
  · exact ⟨_, rfl, Same.refl _⟩
  · rintro t σ H' _ ⟨y13, rfl, s⟩
    exact sqd (s _ _ kE)
  · rintro t z σ HF hz ⟨y13, rfl, sF⟩
    rw [List.getElem?_map] at hz
    obtain ⟨x, hx, rfl⟩ := Option.map_eq_some_iff.mp hz
    obtain ⟨hxL, hxst⟩ := hM1 x (List.mem_of_getElem? hx)
    obtain ⟨k, r, rfl, hkS, hR⟩ := hL1 x hxL
    have hg : S[k]? = some S[k] := List.getElem?_eq_getElem hkS
    rw [Int.toNat_natCast, hg] at hxst
    have sCF := sCE.trans sF
    have t6F : Tp H6 HF := t6C.trans (Tp.same sCF)
    refine ⟨_, rfl, _, rfl, _, rfl, _, rfl, _, rfl, _, rfl, _, rfl, .ref b1, .ref bb, kp, pa, sp, pl, A0, F, S, rdF Rp, Kp, st, zs, ls, k, r, S[k], rfl, hA6.tp t6F, t6F _ _ kkp6, t6F _ _ ksp6, hxst, hG, h6, hst.asc, hstR, hkn, hFG, hinC.sm sCF, sCF _ _ hpaC, hpapC.tp (Tp.same sCF), hg, hR, sCF _ _ kpl, hzl, fun HG sG => ?_⟩
    refine ⟨true, rfl, ?_⟩
    refine ifF rfl ?_
    exact ⟨_, rfl, sF.trans sG⟩
  rintro σ HF ⟨y13', rfl, sF⟩
  have hMne : M ≠ [] := fun e => by
    refine hnot fun k hk => Classical.byContradiction fun hno => ?_
    obtain ⟨T0, hT0⟩ := I.pre
    have hkS : k < S.length := by
      have := congrArg List.length hT0
      rw [List.length_append] at this
      omega
    have hSk : S[k]? = some (prt (rdF Rp) st)[k] := by rw [hT0, List.getElem?_append_left hk, List.getElem?_eq_getElem hk]
    have hsub : ∀ p ∈ (S[k]?).getD [], p ∈ st := fun p hp => by
      rw [hSk] at hp
      obtain ⟨x, hx, ex⟩ := mem_prt (List.getElem_mem hk)
      have hp : p ∈ (prt (rdF Rp) st)[k] := hp
      rw [ex] at hp
      exact (List.mem_filter.mp hp).1
    have hkL : (k : Int) ∈ L := hL2 k (by omega) (by
      cases hR : gR true F (insK S Kp S.length) (k : Int) with
      | none => exact absurd (hold_none.mp hR) hno
      | some r => exact ⟨r, rfl⟩) hsub
    have := hM2 (k : Int) hkL (by rw [Int.toNat_natCast]; exact hsub)
    rw [e] at this
    cases this
  have hpos := List.length_pos_iff.mpr hMne
  refine ⟨_, rfl, D2, _, rfl, .inl (sqd (sF _ _ kE)), _, _, rfl, rfl, ?_⟩
  rw [List.length_map]
  refine boolE (decide_eq_true (by omega)) (q _)
end
end NL

namespace NL
open PySem PySem.Spec PyProof.Rows L2
theorem all_mk {l : PySem.W.OpenLaw} {w : World} {K : PySem.W.Frag} {h : Heap} {mg : Str → Option Value} {fa fforces f_all_marked f_some_marked fsteps_to fstay_ranks fcome_ranks f_ranks_to fknown_arena f_successors_of f_parted fcan_know fhas_option fis_end fplay_on fcolour_owners fsettle f_take_near fleast_measures f_entries_in f_is_ended f_won_without fleast_credits fleast_loads f_scaled f_least_values fvalues_of_rows ftold_paper f_drafts f_tank_drafts f_colour_drafts f_pick f_option f_reply f_law_draws f_law_take f_law_great f_law_arena f_law_some f_law_readings f_law_known_keep f_law_picks f_law_walk f_law_bad_ends f_law_back f_law_is_refuted flaw fFitting___init__ fFitting_fits fFitting_all_fit : Addr} (X : K.In h) (G : h.Ns mainGlobals mg) (hfa : mg "law" = some (.ref fa)) (own : ∀ f, mg "forces" = some (.ref f) → LamX.OwnTab K f h)
    {odforces anforces : Option Addr} {slforces : Array (Option Value)} {ocforces kVforces dcforces pmforces cdforces ctforces : Value}
    {od_all_marked an_all_marked : Option Addr} {sl_all_marked : Array (Option Value)} {oc_all_marked kV_all_marked dc_all_marked pm_all_marked cd_all_marked ct_all_marked : Value}
    {od_some_marked an_some_marked : Option Addr} {sl_some_marked : Array (Option Value)} {oc_some_marked kV_some_marked dc_some_marked pm_some_marked cd_some_marked ct_some_marked : Value}
    {odsteps_to ansteps_to : Option Addr} {slsteps_to : Array (Option Value)} {ocsteps_to kVsteps_to dcsteps_to pmsteps_to cdsteps_to ctsteps_to : Value}
    {odstay_ranks anstay_ranks : Option Addr} {slstay_ranks : Array (Option Value)} {ocstay_ranks kVstay_ranks dcstay_ranks pmstay_ranks cdstay_ranks ctstay_ranks : Value}
    {odcome_ranks ancome_ranks : Option Addr} {slcome_ranks : Array (Option Value)} {occome_ranks kVcome_ranks dccome_ranks pmcome_ranks cdcome_ranks ctcome_ranks : Value}
    {od_ranks_to an_ranks_to : Option Addr} {sl_ranks_to : Array (Option Value)} {oc_ranks_to kV_ranks_to dc_ranks_to pm_ranks_to cd_ranks_to ct_ranks_to : Value}
    {odknown_arena anknown_arena : Option Addr} {slknown_arena : Array (Option Value)} {ocknown_arena kVknown_arena dcknown_arena pmknown_arena cdknown_arena ctknown_arena : Value}
    {od_successors_of an_successors_of : Option Addr} {sl_successors_of : Array (Option Value)} {oc_successors_of kV_successors_of dc_successors_of pm_successors_of cd_successors_of ct_successors_of : Value}
    {od_parted an_parted : Option Addr} {sl_parted : Array (Option Value)} {oc_parted kV_parted dc_parted pm_parted cd_parted ct_parted : Value}
    {odcan_know ancan_know : Option Addr} {slcan_know : Array (Option Value)} {occan_know kVcan_know dccan_know pmcan_know cdcan_know ctcan_know : Value}
    {odhas_option anhas_option : Option Addr} {slhas_option : Array (Option Value)} {ochas_option kVhas_option dchas_option pmhas_option cdhas_option cthas_option : Value}
    {odis_end anis_end : Option Addr} {slis_end : Array (Option Value)} {ocis_end kVis_end dcis_end pmis_end cdis_end ctis_end : Value}
    {odplay_on anplay_on : Option Addr} {slplay_on : Array (Option Value)} {ocplay_on kVplay_on dcplay_on pmplay_on cdplay_on ctplay_on : Value}
    {odcolour_owners ancolour_owners : Option Addr} {slcolour_owners : Array (Option Value)} {occolour_owners kVcolour_owners dccolour_owners pmcolour_owners cdcolour_owners ctcolour_owners : Value}
    {odsettle ansettle : Option Addr} {slsettle : Array (Option Value)} {ocsettle kVsettle dcsettle pmsettle cdsettle ctsettle : Value}
    {od_take_near an_take_near : Option Addr} {sl_take_near : Array (Option Value)} {oc_take_near kV_take_near dc_take_near pm_take_near cd_take_near ct_take_near : Value}
    {odleast_measures anleast_measures : Option Addr} {slleast_measures : Array (Option Value)} {ocleast_measures kVleast_measures dcleast_measures pmleast_measures cdleast_measures ctleast_measures : Value}
    {od_entries_in an_entries_in : Option Addr} {sl_entries_in : Array (Option Value)} {oc_entries_in kV_entries_in dc_entries_in pm_entries_in cd_entries_in ct_entries_in : Value}
    {od_is_ended an_is_ended : Option Addr} {sl_is_ended : Array (Option Value)} {oc_is_ended kV_is_ended dc_is_ended pm_is_ended cd_is_ended ct_is_ended : Value}
    {od_won_without an_won_without : Option Addr} {sl_won_without : Array (Option Value)} {oc_won_without kV_won_without dc_won_without pm_won_without cd_won_without ct_won_without : Value}
    {odleast_credits anleast_credits : Option Addr} {slleast_credits : Array (Option Value)} {ocleast_credits kVleast_credits dcleast_credits pmleast_credits cdleast_credits ctleast_credits : Value}
    {odleast_loads anleast_loads : Option Addr} {slleast_loads : Array (Option Value)} {ocleast_loads kVleast_loads dcleast_loads pmleast_loads cdleast_loads ctleast_loads : Value}
    {od_scaled an_scaled : Option Addr} {sl_scaled : Array (Option Value)} {oc_scaled kV_scaled dc_scaled pm_scaled cd_scaled ct_scaled : Value}
    {od_least_values an_least_values : Option Addr} {sl_least_values : Array (Option Value)} {oc_least_values kV_least_values dc_least_values pm_least_values cd_least_values ct_least_values : Value}
    {odvalues_of_rows anvalues_of_rows : Option Addr} {slvalues_of_rows : Array (Option Value)} {ocvalues_of_rows kVvalues_of_rows dcvalues_of_rows pmvalues_of_rows cdvalues_of_rows ctvalues_of_rows : Value}
    {odtold_paper antold_paper : Option Addr} {sltold_paper : Array (Option Value)} {octold_paper kVtold_paper dctold_paper pmtold_paper cdtold_paper cttold_paper : Value}
    {od_drafts an_drafts : Option Addr} {sl_drafts : Array (Option Value)} {oc_drafts kV_drafts dc_drafts pm_drafts cd_drafts ct_drafts : Value}
    {od_tank_drafts an_tank_drafts : Option Addr} {sl_tank_drafts : Array (Option Value)} {oc_tank_drafts kV_tank_drafts dc_tank_drafts pm_tank_drafts cd_tank_drafts ct_tank_drafts : Value}
    {od_colour_drafts an_colour_drafts : Option Addr} {sl_colour_drafts : Array (Option Value)} {oc_colour_drafts kV_colour_drafts dc_colour_drafts pm_colour_drafts cd_colour_drafts ct_colour_drafts : Value}
    {od_pick an_pick : Option Addr} {sl_pick : Array (Option Value)} {oc_pick kV_pick dc_pick pm_pick cd_pick ct_pick : Value}
    {od_option an_option : Option Addr} {sl_option : Array (Option Value)} {oc_option kV_option dc_option pm_option cd_option ct_option : Value}
    {od_reply an_reply : Option Addr} {sl_reply : Array (Option Value)} {oc_reply kV_reply dc_reply pm_reply cd_reply ct_reply : Value}
    {od_law_draws an_law_draws : Option Addr} {sl_law_draws : Array (Option Value)} {oc_law_draws kV_law_draws dc_law_draws pm_law_draws cd_law_draws ct_law_draws : Value}
    {od_law_take an_law_take : Option Addr} {sl_law_take : Array (Option Value)} {oc_law_take kV_law_take dc_law_take pm_law_take cd_law_take ct_law_take : Value}
    {od_law_great an_law_great : Option Addr} {sl_law_great : Array (Option Value)} {oc_law_great kV_law_great dc_law_great pm_law_great cd_law_great ct_law_great : Value}
    {od_law_arena an_law_arena : Option Addr} {sl_law_arena : Array (Option Value)} {oc_law_arena kV_law_arena dc_law_arena pm_law_arena cd_law_arena ct_law_arena : Value}
    {od_law_some an_law_some : Option Addr} {sl_law_some : Array (Option Value)} {oc_law_some kV_law_some dc_law_some pm_law_some cd_law_some ct_law_some : Value}
    {od_law_readings an_law_readings : Option Addr} {sl_law_readings : Array (Option Value)} {oc_law_readings kV_law_readings dc_law_readings pm_law_readings cd_law_readings ct_law_readings : Value}
    {od_law_known_keep an_law_known_keep : Option Addr} {sl_law_known_keep : Array (Option Value)} {oc_law_known_keep kV_law_known_keep dc_law_known_keep pm_law_known_keep cd_law_known_keep ct_law_known_keep : Value}
    {od_law_picks an_law_picks : Option Addr} {sl_law_picks : Array (Option Value)} {oc_law_picks kV_law_picks dc_law_picks pm_law_picks cd_law_picks ct_law_picks : Value}
    {od_law_walk an_law_walk : Option Addr} {sl_law_walk : Array (Option Value)} {oc_law_walk kV_law_walk dc_law_walk pm_law_walk cd_law_walk ct_law_walk : Value}
    {od_law_bad_ends an_law_bad_ends : Option Addr} {sl_law_bad_ends : Array (Option Value)} {oc_law_bad_ends kV_law_bad_ends dc_law_bad_ends pm_law_bad_ends cd_law_bad_ends ct_law_bad_ends : Value}
    {od_law_back an_law_back : Option Addr} {sl_law_back : Array (Option Value)} {oc_law_back kV_law_back dc_law_back pm_law_back cd_law_back ct_law_back : Value}
    {od_law_is_refuted an_law_is_refuted : Option Addr} {sl_law_is_refuted : Array (Option Value)} {oc_law_is_refuted kV_law_is_refuted dc_law_is_refuted pm_law_is_refuted cd_law_is_refuted ct_law_is_refuted : Value}
    {odlaw anlaw : Option Addr} {sllaw : Array (Option Value)} {oclaw kVlaw dclaw pmlaw cdlaw ctlaw : Value}
    {odFitting___init__ anFitting___init__ : Option Addr} {slFitting___init__ : Array (Option Value)} {ocFitting___init__ kVFitting___init__ dcFitting___init__ pmFitting___init__ cdFitting___init__ ctFitting___init__ : Value}
    {odFitting_fits anFitting_fits : Option Addr} {slFitting_fits : Array (Option Value)} {ocFitting_fits kVFitting_fits dcFitting_fits pmFitting_fits cdFitting_fits ctFitting_fits : Value}
    {odFitting_all_fit anFitting_all_fit : Option Addr} {slFitting_all_fit : Array (Option Value)} {ocFitting_all_fit kVFitting_all_fit dcFitting_all_fit pmFitting_all_fit cdFitting_all_fit ctFitting_all_fit : Value}
    {C_Fitting : Addr}
    {u_CONTROLLER : Value}
    {u_DISTURBANCE : Value}
    {c_OPTION_KINDS : Addr}
    {cF PF : Addr} {odF : Option Addr} {vsF : Array Value} {slF : Array (Option Value)} {xFile : Str} {xFlags xText : Int} {xIn : Bool} {xt1 xt2 xt3 : Tok}
    (kg_Fitting : PySem.W.nsIn K mainGlobals "Fitting" = some (some (.ref C_Fitting))) (kp_Fitting : PySem.W.plainGet K C_Fitting Str.empty = true) (kh_Fitting : PySem.W.hasDictIn K C_Fitting = true) (ko_Fitting : PySem.W.plainOver K C_Fitting = true) (ks_Fitting : PySem.W.findIn K (.ref C_Fitting) "__setattr__" = some (some (.builtin "object.__setattr__"))) (km_Fitting : PySem.W.makesIn K C_Fitting = true) (kk_Fitting : PySem.W.keepIn K (.ref C_Fitting) = true) (kn_Fitting_arena : PySem.W.findIn K (.ref C_Fitting) "arena" = some none) (kn_Fitting_told : PySem.W.findIn K (.ref C_Fitting) "told" = some none) (kn_Fitting_labels : PySem.W.findIn K (.ref C_Fitting) "labels" = some none) (kn_Fitting_greatest : PySem.W.findIn K (.ref C_Fitting) "greatest" = some none)
    (aforces : PySem.W.nsIn K mainGlobals "forces" = some (some (.ref fforces))) (lforces : K.lookup fforces = some ⟨ocforces, odforces, .func (PySem.W.fnOf "forces" "forces" (defArgs sforces) (defBody sforces) (defScope sforces) .none kVforces dcforces pmforces anforces cdforces ctforces), slforces⟩) (cforces : PySem.W.codeIn K cdforces "forces" = true) (kforces : PySem.W.keepIn K (.ref fforces) = true)
    (a_all_marked : PySem.W.nsIn K mainGlobals "_all_marked" = some (some (.ref f_all_marked))) (l_all_marked : K.lookup f_all_marked = some ⟨oc_all_marked, od_all_marked, .func (PySem.W.fnOf "_all_marked" "_all_marked" (defArgs s_all_marked) (defBody s_all_marked) (defScope s_all_marked) .none kV_all_marked dc_all_marked pm_all_marked an_all_marked cd_all_marked ct_all_marked), sl_all_marked⟩) (c_all_marked : PySem.W.codeIn K cd_all_marked "_all_marked" = true) (k_all_marked : PySem.W.keepIn K (.ref f_all_marked) = true)
    (a_some_marked : PySem.W.nsIn K mainGlobals "_some_marked" = some (some (.ref f_some_marked))) (l_some_marked : K.lookup f_some_marked = some ⟨oc_some_marked, od_some_marked, .func (PySem.W.fnOf "_some_marked" "_some_marked" (defArgs s_some_marked) (defBody s_some_marked) (defScope s_some_marked) .none kV_some_marked dc_some_marked pm_some_marked an_some_marked cd_some_marked ct_some_marked), sl_some_marked⟩) (c_some_marked : PySem.W.codeIn K cd_some_marked "_some_marked" = true) (k_some_marked : PySem.W.keepIn K (.ref f_some_marked) = true)
    (asteps_to : PySem.W.nsIn K mainGlobals "steps_to" = some (some (.ref fsteps_to))) (lsteps_to : K.lookup fsteps_to = some ⟨ocsteps_to, odsteps_to, .func (PySem.W.fnOf "steps_to" "steps_to" (defArgs ssteps_to) (defBody ssteps_to) (defScope ssteps_to) .none kVsteps_to dcsteps_to pmsteps_to ansteps_to cdsteps_to ctsteps_to), slsteps_to⟩) (csteps_to : PySem.W.codeIn K cdsteps_to "steps_to" = true) (ksteps_to : PySem.W.keepIn K (.ref fsteps_to) = true)
    (astay_ranks : PySem.W.nsIn K mainGlobals "stay_ranks" = some (some (.ref fstay_ranks))) (lstay_ranks : K.lookup fstay_ranks = some ⟨ocstay_ranks, odstay_ranks, .func (PySem.W.fnOf "stay_ranks" "stay_ranks" (defArgs sstay_ranks) (defBody sstay_ranks) (defScope sstay_ranks) .none kVstay_ranks dcstay_ranks pmstay_ranks anstay_ranks cdstay_ranks ctstay_ranks), slstay_ranks⟩) (cstay_ranks : PySem.W.codeIn K cdstay_ranks "stay_ranks" = true) (kstay_ranks : PySem.W.keepIn K (.ref fstay_ranks) = true)
    (acome_ranks : PySem.W.nsIn K mainGlobals "come_ranks" = some (some (.ref fcome_ranks))) (lcome_ranks : K.lookup fcome_ranks = some ⟨occome_ranks, odcome_ranks, .func (PySem.W.fnOf "come_ranks" "come_ranks" (defArgs scome_ranks) (defBody scome_ranks) (defScope scome_ranks) .none kVcome_ranks dccome_ranks pmcome_ranks ancome_ranks cdcome_ranks ctcome_ranks), slcome_ranks⟩) (ccome_ranks : PySem.W.codeIn K cdcome_ranks "come_ranks" = true) (kcome_ranks : PySem.W.keepIn K (.ref fcome_ranks) = true)
    (a_ranks_to : PySem.W.nsIn K mainGlobals "_ranks_to" = some (some (.ref f_ranks_to))) (l_ranks_to : K.lookup f_ranks_to = some ⟨oc_ranks_to, od_ranks_to, .func (PySem.W.fnOf "_ranks_to" "_ranks_to" (defArgs s_ranks_to) (defBody s_ranks_to) (defScope s_ranks_to) .none kV_ranks_to dc_ranks_to pm_ranks_to an_ranks_to cd_ranks_to ct_ranks_to), sl_ranks_to⟩) (c_ranks_to : PySem.W.codeIn K cd_ranks_to "_ranks_to" = true) (k_ranks_to : PySem.W.keepIn K (.ref f_ranks_to) = true)
    (aknown_arena : PySem.W.nsIn K mainGlobals "known_arena" = some (some (.ref fknown_arena))) (lknown_arena : K.lookup fknown_arena = some ⟨ocknown_arena, odknown_arena, .func (PySem.W.fnOf "known_arena" "known_arena" (defArgs sknown_arena) (defBody sknown_arena) (defScope sknown_arena) .none kVknown_arena dcknown_arena pmknown_arena anknown_arena cdknown_arena ctknown_arena), slknown_arena⟩) (cknown_arena : PySem.W.codeIn K cdknown_arena "known_arena" = true) (kknown_arena : PySem.W.keepIn K (.ref fknown_arena) = true)
    (a_successors_of : PySem.W.nsIn K mainGlobals "_successors_of" = some (some (.ref f_successors_of))) (l_successors_of : K.lookup f_successors_of = some ⟨oc_successors_of, od_successors_of, .func (PySem.W.fnOf "_successors_of" "_successors_of" (defArgs s_successors_of) (defBody s_successors_of) (defScope s_successors_of) .none kV_successors_of dc_successors_of pm_successors_of an_successors_of cd_successors_of ct_successors_of), sl_successors_of⟩) (c_successors_of : PySem.W.codeIn K cd_successors_of "_successors_of" = true) (k_successors_of : PySem.W.keepIn K (.ref f_successors_of) = true)
    (a_parted : PySem.W.nsIn K mainGlobals "_parted" = some (some (.ref f_parted))) (l_parted : K.lookup f_parted = some ⟨oc_parted, od_parted, .func (PySem.W.fnOf "_parted" "_parted" (defArgs s_parted) (defBody s_parted) (defScope s_parted) .none kV_parted dc_parted pm_parted an_parted cd_parted ct_parted), sl_parted⟩) (c_parted : PySem.W.codeIn K cd_parted "_parted" = true) (k_parted : PySem.W.keepIn K (.ref f_parted) = true)
    (acan_know : PySem.W.nsIn K mainGlobals "can_know" = some (some (.ref fcan_know))) (lcan_know : K.lookup fcan_know = some ⟨occan_know, odcan_know, .func (PySem.W.fnOf "can_know" "can_know" (defArgs scan_know) (defBody scan_know) (defScope scan_know) .none kVcan_know dccan_know pmcan_know ancan_know cdcan_know ctcan_know), slcan_know⟩) (ccan_know : PySem.W.codeIn K cdcan_know "can_know" = true) (kcan_know : PySem.W.keepIn K (.ref fcan_know) = true)
    (ahas_option : PySem.W.nsIn K mainGlobals "has_option" = some (some (.ref fhas_option))) (lhas_option : K.lookup fhas_option = some ⟨ochas_option, odhas_option, .func (PySem.W.fnOf "has_option" "has_option" (defArgs shas_option) (defBody shas_option) (defScope shas_option) .none kVhas_option dchas_option pmhas_option anhas_option cdhas_option cthas_option), slhas_option⟩) (chas_option : PySem.W.codeIn K cdhas_option "has_option" = true) (khas_option : PySem.W.keepIn K (.ref fhas_option) = true)
    (ais_end : PySem.W.nsIn K mainGlobals "is_end" = some (some (.ref fis_end))) (lis_end : K.lookup fis_end = some ⟨ocis_end, odis_end, .func (PySem.W.fnOf "is_end" "is_end" (defArgs sis_end) (defBody sis_end) (defScope sis_end) .none kVis_end dcis_end pmis_end anis_end cdis_end ctis_end), slis_end⟩) (cis_end : PySem.W.codeIn K cdis_end "is_end" = true) (kis_end : PySem.W.keepIn K (.ref fis_end) = true)
    (aplay_on : PySem.W.nsIn K mainGlobals "play_on" = some (some (.ref fplay_on))) (lplay_on : K.lookup fplay_on = some ⟨ocplay_on, odplay_on, .func (PySem.W.fnOf "play_on" "play_on" (defArgs splay_on) (defBody splay_on) (defScope splay_on) .none kVplay_on dcplay_on pmplay_on anplay_on cdplay_on ctplay_on), slplay_on⟩) (cplay_on : PySem.W.codeIn K cdplay_on "play_on" = true) (kplay_on : PySem.W.keepIn K (.ref fplay_on) = true)
    (acolour_owners : PySem.W.nsIn K mainGlobals "colour_owners" = some (some (.ref fcolour_owners))) (lcolour_owners : K.lookup fcolour_owners = some ⟨occolour_owners, odcolour_owners, .func (PySem.W.fnOf "colour_owners" "colour_owners" (defArgs scolour_owners) (defBody scolour_owners) (defScope scolour_owners) .none kVcolour_owners dccolour_owners pmcolour_owners ancolour_owners cdcolour_owners ctcolour_owners), slcolour_owners⟩) (ccolour_owners : PySem.W.codeIn K cdcolour_owners "colour_owners" = true) (kcolour_owners : PySem.W.keepIn K (.ref fcolour_owners) = true)
    (asettle : PySem.W.nsIn K mainGlobals "settle" = some (some (.ref fsettle))) (lsettle : K.lookup fsettle = some ⟨ocsettle, odsettle, .func (PySem.W.fnOf "settle" "settle" (defArgs ssettle) (defBody ssettle) (defScope ssettle) .none kVsettle dcsettle pmsettle ansettle cdsettle ctsettle), slsettle⟩) (csettle : PySem.W.codeIn K cdsettle "settle" = true) (ksettle : PySem.W.keepIn K (.ref fsettle) = true)
    (a_take_near : PySem.W.nsIn K mainGlobals "_take_near" = some (some (.ref f_take_near))) (l_take_near : K.lookup f_take_near = some ⟨oc_take_near, od_take_near, .func (PySem.W.fnOf "_take_near" "_take_near" (defArgs s_take_near) (defBody s_take_near) (defScope s_take_near) .none kV_take_near dc_take_near pm_take_near an_take_near cd_take_near ct_take_near), sl_take_near⟩) (c_take_near : PySem.W.codeIn K cd_take_near "_take_near" = true) (k_take_near : PySem.W.keepIn K (.ref f_take_near) = true)
    (aleast_measures : PySem.W.nsIn K mainGlobals "least_measures" = some (some (.ref fleast_measures))) (lleast_measures : K.lookup fleast_measures = some ⟨ocleast_measures, odleast_measures, .func (PySem.W.fnOf "least_measures" "least_measures" (defArgs sleast_measures) (defBody sleast_measures) (defScope sleast_measures) .none kVleast_measures dcleast_measures pmleast_measures anleast_measures cdleast_measures ctleast_measures), slleast_measures⟩) (cleast_measures : PySem.W.codeIn K cdleast_measures "least_measures" = true) (kleast_measures : PySem.W.keepIn K (.ref fleast_measures) = true)
    (a_entries_in : PySem.W.nsIn K mainGlobals "_entries_in" = some (some (.ref f_entries_in))) (l_entries_in : K.lookup f_entries_in = some ⟨oc_entries_in, od_entries_in, .func (PySem.W.fnOf "_entries_in" "_entries_in" (defArgs s_entries_in) (defBody s_entries_in) (defScope s_entries_in) .none kV_entries_in dc_entries_in pm_entries_in an_entries_in cd_entries_in ct_entries_in), sl_entries_in⟩) (c_entries_in : PySem.W.codeIn K cd_entries_in "_entries_in" = true) (k_entries_in : PySem.W.keepIn K (.ref f_entries_in) = true)
    (a_is_ended : PySem.W.nsIn K mainGlobals "_is_ended" = some (some (.ref f_is_ended))) (l_is_ended : K.lookup f_is_ended = some ⟨oc_is_ended, od_is_ended, .func (PySem.W.fnOf "_is_ended" "_is_ended" (defArgs s_is_ended) (defBody s_is_ended) (defScope s_is_ended) .none kV_is_ended dc_is_ended pm_is_ended an_is_ended cd_is_ended ct_is_ended), sl_is_ended⟩) (c_is_ended : PySem.W.codeIn K cd_is_ended "_is_ended" = true) (k_is_ended : PySem.W.keepIn K (.ref f_is_ended) = true)
    (a_won_without : PySem.W.nsIn K mainGlobals "_won_without" = some (some (.ref f_won_without))) (l_won_without : K.lookup f_won_without = some ⟨oc_won_without, od_won_without, .func (PySem.W.fnOf "_won_without" "_won_without" (defArgs s_won_without) (defBody s_won_without) (defScope s_won_without) .none kV_won_without dc_won_without pm_won_without an_won_without cd_won_without ct_won_without), sl_won_without⟩) (c_won_without : PySem.W.codeIn K cd_won_without "_won_without" = true) (k_won_without : PySem.W.keepIn K (.ref f_won_without) = true)
    (aleast_credits : PySem.W.nsIn K mainGlobals "least_credits" = some (some (.ref fleast_credits))) (lleast_credits : K.lookup fleast_credits = some ⟨ocleast_credits, odleast_credits, .func (PySem.W.fnOf "least_credits" "least_credits" (defArgs sleast_credits) (defBody sleast_credits) (defScope sleast_credits) .none kVleast_credits dcleast_credits pmleast_credits anleast_credits cdleast_credits ctleast_credits), slleast_credits⟩) (cleast_credits : PySem.W.codeIn K cdleast_credits "least_credits" = true) (kleast_credits : PySem.W.keepIn K (.ref fleast_credits) = true)
    (aleast_loads : PySem.W.nsIn K mainGlobals "least_loads" = some (some (.ref fleast_loads))) (lleast_loads : K.lookup fleast_loads = some ⟨ocleast_loads, odleast_loads, .func (PySem.W.fnOf "least_loads" "least_loads" (defArgs sleast_loads) (defBody sleast_loads) (defScope sleast_loads) .none kVleast_loads dcleast_loads pmleast_loads anleast_loads cdleast_loads ctleast_loads), slleast_loads⟩) (cleast_loads : PySem.W.codeIn K cdleast_loads "least_loads" = true) (kleast_loads : PySem.W.keepIn K (.ref fleast_loads) = true)
    (a_scaled : PySem.W.nsIn K mainGlobals "_scaled" = some (some (.ref f_scaled))) (l_scaled : K.lookup f_scaled = some ⟨oc_scaled, od_scaled, .func (PySem.W.fnOf "_scaled" "_scaled" (defArgs s_scaled) (defBody s_scaled) (defScope s_scaled) .none kV_scaled dc_scaled pm_scaled an_scaled cd_scaled ct_scaled), sl_scaled⟩) (c_scaled : PySem.W.codeIn K cd_scaled "_scaled" = true) (k_scaled : PySem.W.keepIn K (.ref f_scaled) = true)
    (a_least_values : PySem.W.nsIn K mainGlobals "_least_values" = some (some (.ref f_least_values))) (l_least_values : K.lookup f_least_values = some ⟨oc_least_values, od_least_values, .func (PySem.W.fnOf "_least_values" "_least_values" (defArgs s_least_values) (defBody s_least_values) (defScope s_least_values) .none kV_least_values dc_least_values pm_least_values an_least_values cd_least_values ct_least_values), sl_least_values⟩) (c_least_values : PySem.W.codeIn K cd_least_values "_least_values" = true) (k_least_values : PySem.W.keepIn K (.ref f_least_values) = true)
    (avalues_of_rows : PySem.W.nsIn K mainGlobals "values_of_rows" = some (some (.ref fvalues_of_rows))) (lvalues_of_rows : K.lookup fvalues_of_rows = some ⟨ocvalues_of_rows, odvalues_of_rows, .func (PySem.W.fnOf "values_of_rows" "values_of_rows" (defArgs svalues_of_rows) (defBody svalues_of_rows) (defScope svalues_of_rows) .none kVvalues_of_rows dcvalues_of_rows pmvalues_of_rows anvalues_of_rows cdvalues_of_rows ctvalues_of_rows), slvalues_of_rows⟩) (cvalues_of_rows : PySem.W.codeIn K cdvalues_of_rows "values_of_rows" = true) (kvalues_of_rows : PySem.W.keepIn K (.ref fvalues_of_rows) = true)
    (atold_paper : PySem.W.nsIn K mainGlobals "told_paper" = some (some (.ref ftold_paper))) (ltold_paper : K.lookup ftold_paper = some ⟨octold_paper, odtold_paper, .func (PySem.W.fnOf "told_paper" "told_paper" (defArgs stold_paper) (defBody stold_paper) (defScope stold_paper) .none kVtold_paper dctold_paper pmtold_paper antold_paper cdtold_paper cttold_paper), sltold_paper⟩) (ctold_paper : PySem.W.codeIn K cdtold_paper "told_paper" = true) (ktold_paper : PySem.W.keepIn K (.ref ftold_paper) = true)
    (a_drafts : PySem.W.nsIn K mainGlobals "_drafts" = some (some (.ref f_drafts))) (l_drafts : K.lookup f_drafts = some ⟨oc_drafts, od_drafts, .func (PySem.W.fnOf "_drafts" "_drafts" (defArgs s_drafts) (defBody s_drafts) (defScope s_drafts) .none kV_drafts dc_drafts pm_drafts an_drafts cd_drafts ct_drafts), sl_drafts⟩) (c_drafts : PySem.W.codeIn K cd_drafts "_drafts" = true) (k_drafts : PySem.W.keepIn K (.ref f_drafts) = true)
    (a_tank_drafts : PySem.W.nsIn K mainGlobals "_tank_drafts" = some (some (.ref f_tank_drafts))) (l_tank_drafts : K.lookup f_tank_drafts = some ⟨oc_tank_drafts, od_tank_drafts, .func (PySem.W.fnOf "_tank_drafts" "_tank_drafts" (defArgs s_tank_drafts) (defBody s_tank_drafts) (defScope s_tank_drafts) .none kV_tank_drafts dc_tank_drafts pm_tank_drafts an_tank_drafts cd_tank_drafts ct_tank_drafts), sl_tank_drafts⟩) (c_tank_drafts : PySem.W.codeIn K cd_tank_drafts "_tank_drafts" = true) (k_tank_drafts : PySem.W.keepIn K (.ref f_tank_drafts) = true)
    (a_colour_drafts : PySem.W.nsIn K mainGlobals "_colour_drafts" = some (some (.ref f_colour_drafts))) (l_colour_drafts : K.lookup f_colour_drafts = some ⟨oc_colour_drafts, od_colour_drafts, .func (PySem.W.fnOf "_colour_drafts" "_colour_drafts" (defArgs s_colour_drafts) (defBody s_colour_drafts) (defScope s_colour_drafts) .none kV_colour_drafts dc_colour_drafts pm_colour_drafts an_colour_drafts cd_colour_drafts ct_colour_drafts), sl_colour_drafts⟩) (c_colour_drafts : PySem.W.codeIn K cd_colour_drafts "_colour_drafts" = true) (k_colour_drafts : PySem.W.keepIn K (.ref f_colour_drafts) = true)
    (a_pick : PySem.W.nsIn K mainGlobals "_pick" = some (some (.ref f_pick))) (l_pick : K.lookup f_pick = some ⟨oc_pick, od_pick, .func (PySem.W.fnOf "_pick" "_pick" (defArgs s_pick) (defBody s_pick) (defScope s_pick) .none kV_pick dc_pick pm_pick an_pick cd_pick ct_pick), sl_pick⟩) (c_pick : PySem.W.codeIn K cd_pick "_pick" = true) (k_pick : PySem.W.keepIn K (.ref f_pick) = true)
    (a_option : PySem.W.nsIn K mainGlobals "_option" = some (some (.ref f_option))) (l_option : K.lookup f_option = some ⟨oc_option, od_option, .func (PySem.W.fnOf "_option" "_option" (defArgs s_option) (defBody s_option) (defScope s_option) .none kV_option dc_option pm_option an_option cd_option ct_option), sl_option⟩) (c_option : PySem.W.codeIn K cd_option "_option" = true) (k_option : PySem.W.keepIn K (.ref f_option) = true)
    (a_reply : PySem.W.nsIn K mainGlobals "_reply" = some (some (.ref f_reply))) (l_reply : K.lookup f_reply = some ⟨oc_reply, od_reply, .func (PySem.W.fnOf "_reply" "_reply" (defArgs s_reply) (defBody s_reply) (defScope s_reply) .none kV_reply dc_reply pm_reply an_reply cd_reply ct_reply), sl_reply⟩) (c_reply : PySem.W.codeIn K cd_reply "_reply" = true) (k_reply : PySem.W.keepIn K (.ref f_reply) = true)
    (a_law_draws : PySem.W.nsIn K mainGlobals "_law_draws" = some (some (.ref f_law_draws))) (l_law_draws : K.lookup f_law_draws = some ⟨oc_law_draws, od_law_draws, .func (PySem.W.fnOf "_law_draws" "_law_draws" (defArgs s_law_draws) (defBody s_law_draws) (defScope s_law_draws) .none kV_law_draws dc_law_draws pm_law_draws an_law_draws cd_law_draws ct_law_draws), sl_law_draws⟩) (c_law_draws : PySem.W.codeIn K cd_law_draws "_law_draws" = true) (k_law_draws : PySem.W.keepIn K (.ref f_law_draws) = true)
    (a_law_take : PySem.W.nsIn K mainGlobals "_law_take" = some (some (.ref f_law_take))) (l_law_take : K.lookup f_law_take = some ⟨oc_law_take, od_law_take, .func (PySem.W.fnOf "_law_take" "_law_take" (defArgs s_law_take) (defBody s_law_take) (defScope s_law_take) .none kV_law_take dc_law_take pm_law_take an_law_take cd_law_take ct_law_take), sl_law_take⟩) (c_law_take : PySem.W.codeIn K cd_law_take "_law_take" = true) (k_law_take : PySem.W.keepIn K (.ref f_law_take) = true)
    (a_law_great : PySem.W.nsIn K mainGlobals "_law_great" = some (some (.ref f_law_great))) (l_law_great : K.lookup f_law_great = some ⟨oc_law_great, od_law_great, .func (PySem.W.fnOf "_law_great" "_law_great" (defArgs s_law_great) (defBody s_law_great) (defScope s_law_great) .none kV_law_great dc_law_great pm_law_great an_law_great cd_law_great ct_law_great), sl_law_great⟩) (c_law_great : PySem.W.codeIn K cd_law_great "_law_great" = true) (k_law_great : PySem.W.keepIn K (.ref f_law_great) = true)
    (a_law_arena : PySem.W.nsIn K mainGlobals "_law_arena" = some (some (.ref f_law_arena))) (l_law_arena : K.lookup f_law_arena = some ⟨oc_law_arena, od_law_arena, .func (PySem.W.fnOf "_law_arena" "_law_arena" (defArgs s_law_arena) (defBody s_law_arena) (defScope s_law_arena) .none kV_law_arena dc_law_arena pm_law_arena an_law_arena cd_law_arena ct_law_arena), sl_law_arena⟩) (c_law_arena : PySem.W.codeIn K cd_law_arena "_law_arena" = true) (k_law_arena : PySem.W.keepIn K (.ref f_law_arena) = true)
    (a_law_some : PySem.W.nsIn K mainGlobals "_law_some" = some (some (.ref f_law_some))) (l_law_some : K.lookup f_law_some = some ⟨oc_law_some, od_law_some, .func (PySem.W.fnOf "_law_some" "_law_some" (defArgs s_law_some) (defBody s_law_some) (defScope s_law_some) .none kV_law_some dc_law_some pm_law_some an_law_some cd_law_some ct_law_some), sl_law_some⟩) (c_law_some : PySem.W.codeIn K cd_law_some "_law_some" = true) (k_law_some : PySem.W.keepIn K (.ref f_law_some) = true)
    (a_law_readings : PySem.W.nsIn K mainGlobals "_law_readings" = some (some (.ref f_law_readings))) (l_law_readings : K.lookup f_law_readings = some ⟨oc_law_readings, od_law_readings, .func (PySem.W.fnOf "_law_readings" "_law_readings" (defArgs s_law_readings) (defBody s_law_readings) (defScope s_law_readings) .none kV_law_readings dc_law_readings pm_law_readings an_law_readings cd_law_readings ct_law_readings), sl_law_readings⟩) (c_law_readings : PySem.W.codeIn K cd_law_readings "_law_readings" = true) (k_law_readings : PySem.W.keepIn K (.ref f_law_readings) = true)
    (a_law_known_keep : PySem.W.nsIn K mainGlobals "_law_known_keep" = some (some (.ref f_law_known_keep))) (l_law_known_keep : K.lookup f_law_known_keep = some ⟨oc_law_known_keep, od_law_known_keep, .func (PySem.W.fnOf "_law_known_keep" "_law_known_keep" (defArgs s_law_known_keep) (defBody s_law_known_keep) (defScope s_law_known_keep) .none kV_law_known_keep dc_law_known_keep pm_law_known_keep an_law_known_keep cd_law_known_keep ct_law_known_keep), sl_law_known_keep⟩) (c_law_known_keep : PySem.W.codeIn K cd_law_known_keep "_law_known_keep" = true) (k_law_known_keep : PySem.W.keepIn K (.ref f_law_known_keep) = true)
    (a_law_picks : PySem.W.nsIn K mainGlobals "_law_picks" = some (some (.ref f_law_picks))) (l_law_picks : K.lookup f_law_picks = some ⟨oc_law_picks, od_law_picks, .func (PySem.W.fnOf "_law_picks" "_law_picks" (defArgs s_law_picks) (defBody s_law_picks) (defScope s_law_picks) .none kV_law_picks dc_law_picks pm_law_picks an_law_picks cd_law_picks ct_law_picks), sl_law_picks⟩) (c_law_picks : PySem.W.codeIn K cd_law_picks "_law_picks" = true) (k_law_picks : PySem.W.keepIn K (.ref f_law_picks) = true)
    (a_law_walk : PySem.W.nsIn K mainGlobals "_law_walk" = some (some (.ref f_law_walk))) (l_law_walk : K.lookup f_law_walk = some ⟨oc_law_walk, od_law_walk, .func (PySem.W.fnOf "_law_walk" "_law_walk" (defArgs s_law_walk) (defBody s_law_walk) (defScope s_law_walk) .none kV_law_walk dc_law_walk pm_law_walk an_law_walk cd_law_walk ct_law_walk), sl_law_walk⟩) (c_law_walk : PySem.W.codeIn K cd_law_walk "_law_walk" = true) (k_law_walk : PySem.W.keepIn K (.ref f_law_walk) = true)
    (a_law_bad_ends : PySem.W.nsIn K mainGlobals "_law_bad_ends" = some (some (.ref f_law_bad_ends))) (l_law_bad_ends : K.lookup f_law_bad_ends = some ⟨oc_law_bad_ends, od_law_bad_ends, .func (PySem.W.fnOf "_law_bad_ends" "_law_bad_ends" (defArgs s_law_bad_ends) (defBody s_law_bad_ends) (defScope s_law_bad_ends) .none kV_law_bad_ends dc_law_bad_ends pm_law_bad_ends an_law_bad_ends cd_law_bad_ends ct_law_bad_ends), sl_law_bad_ends⟩) (c_law_bad_ends : PySem.W.codeIn K cd_law_bad_ends "_law_bad_ends" = true) (k_law_bad_ends : PySem.W.keepIn K (.ref f_law_bad_ends) = true)
    (a_law_back : PySem.W.nsIn K mainGlobals "_law_back" = some (some (.ref f_law_back))) (l_law_back : K.lookup f_law_back = some ⟨oc_law_back, od_law_back, .func (PySem.W.fnOf "_law_back" "_law_back" (defArgs s_law_back) (defBody s_law_back) (defScope s_law_back) .none kV_law_back dc_law_back pm_law_back an_law_back cd_law_back ct_law_back), sl_law_back⟩) (c_law_back : PySem.W.codeIn K cd_law_back "_law_back" = true) (k_law_back : PySem.W.keepIn K (.ref f_law_back) = true)
    (a_law_is_refuted : PySem.W.nsIn K mainGlobals "_law_is_refuted" = some (some (.ref f_law_is_refuted))) (l_law_is_refuted : K.lookup f_law_is_refuted = some ⟨oc_law_is_refuted, od_law_is_refuted, .func (PySem.W.fnOf "_law_is_refuted" "_law_is_refuted" (defArgs s_law_is_refuted) (defBody s_law_is_refuted) (defScope s_law_is_refuted) .none kV_law_is_refuted dc_law_is_refuted pm_law_is_refuted an_law_is_refuted cd_law_is_refuted ct_law_is_refuted), sl_law_is_refuted⟩) (c_law_is_refuted : PySem.W.codeIn K cd_law_is_refuted "_law_is_refuted" = true) (k_law_is_refuted : PySem.W.keepIn K (.ref f_law_is_refuted) = true)
    (alaw : PySem.W.nsIn K mainGlobals "law" = some (some (.ref flaw))) (llaw : K.lookup flaw = some ⟨oclaw, odlaw, .func (PySem.W.fnOf "law" "law" (defArgs slaw) (defBody slaw) (defScope slaw) .none kVlaw dclaw pmlaw anlaw cdlaw ctlaw), sllaw⟩) (claw : PySem.W.codeIn K cdlaw "law" = true) (klaw : PySem.W.keepIn K (.ref flaw) = true)
    (aFitting___init__ : PySem.W.findIn K (.ref C_Fitting) "__init__" = some (some (.ref fFitting___init__))) (lFitting___init__ : K.lookup fFitting___init__ = some ⟨ocFitting___init__, odFitting___init__, .func (PySem.W.fnOf "__init__" "Fitting.__init__" (defArgs sFitting___init__) (defBody sFitting___init__) (defScope sFitting___init__) .none kVFitting___init__ dcFitting___init__ pmFitting___init__ anFitting___init__ cdFitting___init__ ctFitting___init__), slFitting___init__⟩) (cFitting___init__ : PySem.W.codeIn K cdFitting___init__ "Fitting.__init__" = true) (kFitting___init__ : PySem.W.keepIn K (.ref fFitting___init__) = true) (iFitting___init__ : PySem.W.isFn K (.ref fFitting___init__) = true)
    (aFitting_fits : PySem.W.findIn K (.ref C_Fitting) "fits" = some (some (.ref fFitting_fits))) (lFitting_fits : K.lookup fFitting_fits = some ⟨ocFitting_fits, odFitting_fits, .func (PySem.W.fnOf "fits" "Fitting.fits" (defArgs sFitting_fits) (defBody sFitting_fits) (defScope sFitting_fits) .none kVFitting_fits dcFitting_fits pmFitting_fits anFitting_fits cdFitting_fits ctFitting_fits), slFitting_fits⟩) (cFitting_fits : PySem.W.codeIn K cdFitting_fits "Fitting.fits" = true) (kFitting_fits : PySem.W.keepIn K (.ref fFitting_fits) = true) (iFitting_fits : PySem.W.isFn K (.ref fFitting_fits) = true)
    (aFitting_all_fit : PySem.W.findIn K (.ref C_Fitting) "all_fit" = some (some (.ref fFitting_all_fit))) (lFitting_all_fit : K.lookup fFitting_all_fit = some ⟨ocFitting_all_fit, odFitting_all_fit, .func (PySem.W.fnOf "all_fit" "Fitting.all_fit" (defArgs sFitting_all_fit) (defBody sFitting_all_fit) (defScope sFitting_all_fit) .none kVFitting_all_fit dcFitting_all_fit pmFitting_all_fit anFitting_all_fit cdFitting_all_fit ctFitting_all_fit), slFitting_all_fit⟩) (cFitting_all_fit : PySem.W.codeIn K cdFitting_all_fit "Fitting.all_fit" = true) (kFitting_all_fit : PySem.W.keepIn K (.ref fFitting_all_fit) = true) (iFitting_all_fit : PySem.W.isFn K (.ref fFitting_all_fit) = true)
    (g_CONTROLLER : PySem.W.nsIn K mainGlobals "CONTROLLER" = some (some u_CONTROLLER)) (r_CONTROLLER : L2.RelV (.int 0) u_CONTROLLER)
    (g_DISTURBANCE : PySem.W.nsIn K mainGlobals "DISTURBANCE" = some (some u_DISTURBANCE)) (r_DISTURBANCE : L2.RelV (.int 1) u_DISTURBANCE)
    (g_OPTION_KINDS : PySem.W.nsIn K mainGlobals "OPTION_KINDS" = some (some (.ref c_OPTION_KINDS))) (k_OPTION_KINDS : KT K c_OPTION_KINDS [(.str "holds"), (.str "comes"), (.str "even"), (.str "keeps")])
    (tF : cdforces = .ref cF) (tL : K.lookup cF = some ⟨.type "code", odF, .fields vsF, slF⟩) (t11 : vsF[11]? = some (.ref PF)) (tN : K.lookup PF = none) (tg11 : vsF.getD 11 .none = .ref PF) (tg18 : vsF.getD 18 .none = .str xFile xt1) (tg7 : vsF.getD 7 .none = .int xFlags xt2) (tg9 : vsF.getD 9 .none = .bool xIn) (tg10 : vsF.getD 10 .none = .int xText xt3) (tne : cF ≠ PF)
    (z_all : PySem.W.nsIn K mainGlobals "all" = some none)
    (z_any : PySem.W.nsIn K mainGlobals "any" = some none)
    (z_enumerate : PySem.W.nsIn K mainGlobals "enumerate" = some none)
    (z_int : PySem.W.nsIn K mainGlobals "int" = some none)
    (z_len : PySem.W.nsIn K mainGlobals "len" = some none)
    (z_list : PySem.W.nsIn K mainGlobals "list" = some none)
    (z_max : PySem.W.nsIn K mainGlobals "max" = some none)
    (z_min : PySem.W.nsIn K mainGlobals "min" = some none)
    (z_range : PySem.W.nsIn K mainGlobals "range" = some none)
    (z_set : PySem.W.nsIn K mainGlobals "set" = some none)
    (z_sorted : PySem.W.nsIn K mainGlobals "sorted" = some none)
    (z_tuple : PySem.W.nsIn K mainGlobals "tuple" = some none)
    (z_zip : PySem.W.nsIn K mainGlobals "zip" = some none)
    : LamX.LawAtS l w K CX0 8 63 "script" mg fa h := by
  have e := hfa.symm.trans (PySem.W.mg_of X G alaw)
  cases e
  let T : Txt K mg := {
    z_all := PySem.W.mg_none_of X G z_all
    z_any := PySem.W.mg_none_of X G z_any
    z_enumerate := PySem.W.mg_none_of X G z_enumerate
    z_int := PySem.W.mg_none_of X G z_int
    z_len := PySem.W.mg_none_of X G z_len
    z_list := PySem.W.mg_none_of X G z_list
    z_max := PySem.W.mg_none_of X G z_max
    z_min := PySem.W.mg_none_of X G z_min
    z_range := PySem.W.mg_none_of X G z_range
    z_set := PySem.W.mg_none_of X G z_set
    z_sorted := PySem.W.mg_none_of X G z_sorted
    z_tuple := PySem.W.mg_none_of X G z_tuple
    z_zip := PySem.W.mg_none_of X G z_zip
    u_CONTROLLER := u_CONTROLLER
    g_CONTROLLER := PySem.W.mg_of X G g_CONTROLLER
    r_CONTROLLER := r_CONTROLLER
    u_DISTURBANCE := u_DISTURBANCE
    g_DISTURBANCE := PySem.W.mg_of X G g_DISTURBANCE
    r_DISTURBANCE := r_DISTURBANCE
    c_OPTION_KINDS := c_OPTION_KINDS
    g_OPTION_KINDS := PySem.W.mg_of X G g_OPTION_KINDS
    k_OPTION_KINDS := k_OPTION_KINDS
    C_Fitting := C_Fitting
    g_Fitting := PySem.W.mg_of X G kg_Fitting
    cl_Fitting := ⟨kp_Fitting, kh_Fitting, ko_Fitting, ks_Fitting⟩
    na_Fitting_arena := kn_Fitting_arena
    na_Fitting_told := kn_Fitting_told
    na_Fitting_labels := kn_Fitting_labels
    na_Fitting_greatest := kn_Fitting_greatest
    aFitting___init__ := fFitting___init__
    dFitting___init__ := _
    FFitting___init__ := fun_mk (st := sFitting___init__) lFitting___init__ cFitting___init__ kFitting___init__
    mFitting___init__ := ⟨aFitting___init__, iFitting___init__, kFitting___init__⟩
    mk_Fitting := ⟨km_Fitting, aFitting___init__, iFitting___init__, kk_Fitting⟩
    aFitting_fits := fFitting_fits
    dFitting_fits := _
    FFitting_fits := fun_mk (st := sFitting_fits) lFitting_fits cFitting_fits kFitting_fits
    mFitting_fits := ⟨aFitting_fits, iFitting_fits, kFitting_fits⟩
    aFitting_all_fit := fFitting_all_fit
    dFitting_all_fit := _
    FFitting_all_fit := fun_mk (st := sFitting_all_fit) lFitting_all_fit cFitting_all_fit kFitting_all_fit
    mFitting_all_fit := ⟨aFitting_all_fit, iFitting_all_fit, kFitting_all_fit⟩
    aforces := fforces
    dforces := _
    Fforces := fun_mk (st := sforces) lforces cforces kforces
    mforces := PySem.W.mg_of X G aforces
    a_all_marked := f_all_marked
    d_all_marked := _
    F_all_marked := fun_mk (st := s_all_marked) l_all_marked c_all_marked k_all_marked
    m_all_marked := PySem.W.mg_of X G a_all_marked
    a_some_marked := f_some_marked
    d_some_marked := _
    F_some_marked := fun_mk (st := s_some_marked) l_some_marked c_some_marked k_some_marked
    m_some_marked := PySem.W.mg_of X G a_some_marked
    asteps_to := fsteps_to
    dsteps_to := _
    Fsteps_to := fun_mk (st := ssteps_to) lsteps_to csteps_to ksteps_to
    msteps_to := PySem.W.mg_of X G asteps_to
    astay_ranks := fstay_ranks
    dstay_ranks := _
    Fstay_ranks := fun_mk (st := sstay_ranks) lstay_ranks cstay_ranks kstay_ranks
    mstay_ranks := PySem.W.mg_of X G astay_ranks
    acome_ranks := fcome_ranks
    dcome_ranks := _
    Fcome_ranks := fun_mk (st := scome_ranks) lcome_ranks ccome_ranks kcome_ranks
    mcome_ranks := PySem.W.mg_of X G acome_ranks
    a_ranks_to := f_ranks_to
    d_ranks_to := _
    F_ranks_to := fun_mk (st := s_ranks_to) l_ranks_to c_ranks_to k_ranks_to
    m_ranks_to := PySem.W.mg_of X G a_ranks_to
    aknown_arena := fknown_arena
    dknown_arena := _
    Fknown_arena := fun_mk (st := sknown_arena) lknown_arena cknown_arena kknown_arena
    mknown_arena := PySem.W.mg_of X G aknown_arena
    a_successors_of := f_successors_of
    d_successors_of := _
    F_successors_of := fun_mk (st := s_successors_of) l_successors_of c_successors_of k_successors_of
    m_successors_of := PySem.W.mg_of X G a_successors_of
    a_parted := f_parted
    d_parted := _
    F_parted := fun_mk (st := s_parted) l_parted c_parted k_parted
    m_parted := PySem.W.mg_of X G a_parted
    acan_know := fcan_know
    dcan_know := _
    Fcan_know := fun_mk (st := scan_know) lcan_know ccan_know kcan_know
    mcan_know := PySem.W.mg_of X G acan_know
    ahas_option := fhas_option
    dhas_option := _
    Fhas_option := fun_mk (st := shas_option) lhas_option chas_option khas_option
    mhas_option := PySem.W.mg_of X G ahas_option
    ais_end := fis_end
    dis_end := _
    Fis_end := fun_mk (st := sis_end) lis_end cis_end kis_end
    mis_end := PySem.W.mg_of X G ais_end
    aplay_on := fplay_on
    dplay_on := _
    Fplay_on := fun_mk (st := splay_on) lplay_on cplay_on kplay_on
    mplay_on := PySem.W.mg_of X G aplay_on
    acolour_owners := fcolour_owners
    dcolour_owners := _
    Fcolour_owners := fun_mk (st := scolour_owners) lcolour_owners ccolour_owners kcolour_owners
    mcolour_owners := PySem.W.mg_of X G acolour_owners
    asettle := fsettle
    dsettle := _
    Fsettle := fun_mk (st := ssettle) lsettle csettle ksettle
    msettle := PySem.W.mg_of X G asettle
    a_take_near := f_take_near
    d_take_near := _
    F_take_near := fun_mk (st := s_take_near) l_take_near c_take_near k_take_near
    m_take_near := PySem.W.mg_of X G a_take_near
    aleast_measures := fleast_measures
    dleast_measures := _
    Fleast_measures := fun_mk (st := sleast_measures) lleast_measures cleast_measures kleast_measures
    mleast_measures := PySem.W.mg_of X G aleast_measures
    a_entries_in := f_entries_in
    d_entries_in := _
    F_entries_in := fun_mk (st := s_entries_in) l_entries_in c_entries_in k_entries_in
    m_entries_in := PySem.W.mg_of X G a_entries_in
    a_is_ended := f_is_ended
    d_is_ended := _
    F_is_ended := fun_mk (st := s_is_ended) l_is_ended c_is_ended k_is_ended
    m_is_ended := PySem.W.mg_of X G a_is_ended
    a_won_without := f_won_without
    d_won_without := _
    F_won_without := fun_mk (st := s_won_without) l_won_without c_won_without k_won_without
    m_won_without := PySem.W.mg_of X G a_won_without
    aleast_credits := fleast_credits
    dleast_credits := _
    Fleast_credits := fun_mk (st := sleast_credits) lleast_credits cleast_credits kleast_credits
    mleast_credits := PySem.W.mg_of X G aleast_credits
    aleast_loads := fleast_loads
    dleast_loads := _
    Fleast_loads := fun_mk (st := sleast_loads) lleast_loads cleast_loads kleast_loads
    mleast_loads := PySem.W.mg_of X G aleast_loads
    a_scaled := f_scaled
    d_scaled := _
    F_scaled := fun_mk (st := s_scaled) l_scaled c_scaled k_scaled
    m_scaled := PySem.W.mg_of X G a_scaled
    a_least_values := f_least_values
    d_least_values := _
    F_least_values := fun_mk (st := s_least_values) l_least_values c_least_values k_least_values
    m_least_values := PySem.W.mg_of X G a_least_values
    avalues_of_rows := fvalues_of_rows
    dvalues_of_rows := _
    Fvalues_of_rows := fun_mk (st := svalues_of_rows) lvalues_of_rows cvalues_of_rows kvalues_of_rows
    mvalues_of_rows := PySem.W.mg_of X G avalues_of_rows
    atold_paper := ftold_paper
    dtold_paper := _
    Ftold_paper := fun_mk (st := stold_paper) ltold_paper ctold_paper ktold_paper
    mtold_paper := PySem.W.mg_of X G atold_paper
    a_drafts := f_drafts
    d_drafts := _
    F_drafts := fun_mk (st := s_drafts) l_drafts c_drafts k_drafts
    m_drafts := PySem.W.mg_of X G a_drafts
    a_tank_drafts := f_tank_drafts
    d_tank_drafts := _
    F_tank_drafts := fun_mk (st := s_tank_drafts) l_tank_drafts c_tank_drafts k_tank_drafts
    m_tank_drafts := PySem.W.mg_of X G a_tank_drafts
    a_colour_drafts := f_colour_drafts
    d_colour_drafts := _
    F_colour_drafts := fun_mk (st := s_colour_drafts) l_colour_drafts c_colour_drafts k_colour_drafts
    m_colour_drafts := PySem.W.mg_of X G a_colour_drafts
    a_pick := f_pick
    d_pick := _
    F_pick := fun_mk (st := s_pick) l_pick c_pick k_pick
    m_pick := PySem.W.mg_of X G a_pick
    a_option := f_option
    d_option := _
    F_option := fun_mk (st := s_option) l_option c_option k_option
    m_option := PySem.W.mg_of X G a_option
    a_reply := f_reply
    d_reply := _
    F_reply := fun_mk (st := s_reply) l_reply c_reply k_reply
    m_reply := PySem.W.mg_of X G a_reply
    a_law_draws := f_law_draws
    d_law_draws := _
    F_law_draws := fun_mk (st := s_law_draws) l_law_draws c_law_draws k_law_draws
    m_law_draws := PySem.W.mg_of X G a_law_draws
    a_law_take := f_law_take
    d_law_take := _
    F_law_take := fun_mk (st := s_law_take) l_law_take c_law_take k_law_take
    m_law_take := PySem.W.mg_of X G a_law_take
    a_law_great := f_law_great
    d_law_great := _
    F_law_great := fun_mk (st := s_law_great) l_law_great c_law_great k_law_great
    m_law_great := PySem.W.mg_of X G a_law_great
    a_law_arena := f_law_arena
    d_law_arena := _
    F_law_arena := fun_mk (st := s_law_arena) l_law_arena c_law_arena k_law_arena
    m_law_arena := PySem.W.mg_of X G a_law_arena
    a_law_some := f_law_some
    d_law_some := _
    F_law_some := fun_mk (st := s_law_some) l_law_some c_law_some k_law_some
    m_law_some := PySem.W.mg_of X G a_law_some
    a_law_readings := f_law_readings
    d_law_readings := _
    F_law_readings := fun_mk (st := s_law_readings) l_law_readings c_law_readings k_law_readings
    m_law_readings := PySem.W.mg_of X G a_law_readings
    a_law_known_keep := f_law_known_keep
    d_law_known_keep := _
    F_law_known_keep := fun_mk (st := s_law_known_keep) l_law_known_keep c_law_known_keep k_law_known_keep
    m_law_known_keep := PySem.W.mg_of X G a_law_known_keep
    a_law_picks := f_law_picks
    d_law_picks := _
    F_law_picks := fun_mk (st := s_law_picks) l_law_picks c_law_picks k_law_picks
    m_law_picks := PySem.W.mg_of X G a_law_picks
    a_law_walk := f_law_walk
    d_law_walk := _
    F_law_walk := fun_mk (st := s_law_walk) l_law_walk c_law_walk k_law_walk
    m_law_walk := PySem.W.mg_of X G a_law_walk
    a_law_bad_ends := f_law_bad_ends
    d_law_bad_ends := _
    F_law_bad_ends := fun_mk (st := s_law_bad_ends) l_law_bad_ends c_law_bad_ends k_law_bad_ends
    m_law_bad_ends := PySem.W.mg_of X G a_law_bad_ends
    a_law_back := f_law_back
    d_law_back := _
    F_law_back := fun_mk (st := s_law_back) l_law_back c_law_back k_law_back
    m_law_back := PySem.W.mg_of X G a_law_back
    a_law_is_refuted := f_law_is_refuted
    d_law_is_refuted := _
    F_law_is_refuted := fun_mk (st := s_law_is_refuted) l_law_is_refuted c_law_is_refuted k_law_is_refuted
    m_law_is_refuted := PySem.W.mg_of X G a_law_is_refuted
    alaw := fa
    dlaw := _
    Flaw := fun_mk (st := slaw) llaw claw klaw
    mlaw := PySem.W.mg_of X G alaw }
  have hP := own fforces (PySem.W.mg_of X G aforces) cF PF _ _ _ _ _ _ lforces rfl tF tL t11
  refine ⟨T.dlaw, [(cF, PF)], spLawT K PF, fun p hp => ?_, fun p hp => ?_, fun p hp => ?_, fun s v => .of_eq rfl, fun H a ns hl _ hH hS => ⟨a, ns, rfl, hS, hl, ⟨#[], hH _ (List.mem_singleton.mpr rfl), trivial⟩, fun _ => rfl⟩, fun base _ _ hTB => ?_⟩
  · rw [List.mem_singleton.mp hp]; exact hP
  · rw [List.mem_singleton.mp hp]; exact tN
  · rw [List.mem_singleton.mp hp]; exact ⟨_, vsF, xFile, xt1, xFlags, xt2, xIn, xText, xt3, X _ _ tL, rfl, rfl, t11, tg11, tg18, tg7, tg9, tg10, tne⟩
  have TB0 := hTB (cF, PF) (List.mem_singleton.mpr rfl)
  exact ok_law T ⟨TB0.code, TB0.bm, TB0.gP⟩ tF
end NL
open PySem PySem.W PyProof.Rows
set_option maxRecDepth 100000 in
set_option maxHeartbeats 0 in
theorem PySem.Challenge.cw_neverleaves_k81_whole_not_knowing_breaks_holds : PySem.Challenge.rw_neverleaves_k81_whole_not_knowing_breaks.Holds := by
  w_on; o_law; k_head; (case hw => w_witness2)
  k_fill
  refine NL.walk_tab (l := PySem.Challenge.rw_neverleaves_k81_whole_not_knowing_breaks) (n := 63) (k := 8) (x := "script") (CX := fun _ => L2.CX0) "forces" rfl (by decide) rfl ⟨rfl, by decide, by decide⟩ (by decide +kernel) (fun w h Y => PySem.W.kIn_of Y) ?F (fun _ _ _ _ _ h => h)
  case F =>
    intro w mg fa h _ KX G hmg own
    refine' NL.all_mk KX G hmg own ?kg_Fitting ?kp_Fitting ?kh_Fitting ?ko_Fitting ?ks_Fitting ?km_Fitting ?kk_Fitting ?kn_Fitting_arena ?kn_Fitting_told ?kn_Fitting_labels ?kn_Fitting_greatest ?aforces ?lforces ?cforces ?kforces ?a_all_marked ?l_all_marked ?c_all_marked ?k_all_marked ?a_some_marked ?l_some_marked ?c_some_marked ?k_some_marked ?asteps_to ?lsteps_to ?csteps_to ?ksteps_to ?astay_ranks ?lstay_ranks ?cstay_ranks ?kstay_ranks ?acome_ranks ?lcome_ranks ?ccome_ranks ?kcome_ranks ?a_ranks_to ?l_ranks_to ?c_ranks_to ?k_ranks_to ?aknown_arena ?lknown_arena ?cknown_arena ?kknown_arena ?a_successors_of ?l_successors_of ?c_successors_of ?k_successors_of ?a_parted ?l_parted ?c_parted ?k_parted ?acan_know ?lcan_know ?ccan_know ?kcan_know ?ahas_option ?lhas_option ?chas_option ?khas_option ?ais_end ?lis_end ?cis_end ?kis_end ?aplay_on ?lplay_on ?cplay_on ?kplay_on ?acolour_owners ?lcolour_owners ?ccolour_owners ?kcolour_owners ?asettle ?lsettle ?csettle ?ksettle ?a_take_near ?l_take_near ?c_take_near ?k_take_near ?aleast_measures ?lleast_measures ?cleast_measures ?kleast_measures ?a_entries_in ?l_entries_in ?c_entries_in ?k_entries_in ?a_is_ended ?l_is_ended ?c_is_ended ?k_is_ended ?a_won_without ?l_won_without ?c_won_without ?k_won_without ?aleast_credits ?lleast_credits ?cleast_credits ?kleast_credits ?aleast_loads ?lleast_loads ?cleast_loads ?kleast_loads ?a_scaled ?l_scaled ?c_scaled ?k_scaled ?a_least_values ?l_least_values ?c_least_values ?k_least_values ?avalues_of_rows ?lvalues_of_rows ?cvalues_of_rows ?kvalues_of_rows ?atold_paper ?ltold_paper ?ctold_paper ?ktold_paper ?a_drafts ?l_drafts ?c_drafts ?k_drafts ?a_tank_drafts ?l_tank_drafts ?c_tank_drafts ?k_tank_drafts ?a_colour_drafts ?l_colour_drafts ?c_colour_drafts ?k_colour_drafts ?a_pick ?l_pick ?c_pick ?k_pick ?a_option ?l_option ?c_option ?k_option ?a_reply ?l_reply ?c_reply ?k_reply ?a_law_draws ?l_law_draws ?c_law_draws ?k_law_draws ?a_law_take ?l_law_take ?c_law_take ?k_law_take ?a_law_great ?l_law_great ?c_law_great ?k_law_great ?a_law_arena ?l_law_arena ?c_law_arena ?k_law_arena ?a_law_some ?l_law_some ?c_law_some ?k_law_some ?a_law_readings ?l_law_readings ?c_law_readings ?k_law_readings ?a_law_known_keep ?l_law_known_keep ?c_law_known_keep ?k_law_known_keep ?a_law_picks ?l_law_picks ?c_law_picks ?k_law_picks ?a_law_walk ?l_law_walk ?c_law_walk ?k_law_walk ?a_law_bad_ends ?l_law_bad_ends ?c_law_bad_ends ?k_law_bad_ends ?a_law_back ?l_law_back ?c_law_back ?k_law_back ?a_law_is_refuted ?l_law_is_refuted ?c_law_is_refuted ?k_law_is_refuted ?alaw ?llaw ?claw ?klaw ?aFitting___init__ ?lFitting___init__ ?cFitting___init__ ?kFitting___init__ ?iFitting___init__ ?aFitting_fits ?lFitting_fits ?cFitting_fits ?kFitting_fits ?iFitting_fits ?aFitting_all_fit ?lFitting_all_fit ?cFitting_all_fit ?kFitting_all_fit ?iFitting_all_fit ?g_CONTROLLER ?r_CONTROLLER ?g_DISTURBANCE ?r_DISTURBANCE ?g_OPTION_KINDS ?k_OPTION_KINDS ?tF ?tL ?t11 ?tN ?tg11 ?tg18 ?tg7 ?tg9 ?tg10 ?tne ?z_all ?z_any ?z_enumerate ?z_int ?z_len ?z_list ?z_max ?z_min ?z_range ?z_set ?z_sorted ?z_tuple ?z_zip
    (case kg_Fitting => k_is); (case kp_Fitting => k_is); (case kh_Fitting => k_is); (case ko_Fitting => k_is); (case ks_Fitting => k_is); (case km_Fitting => k_is); (case kk_Fitting => k_is); (case kn_Fitting_arena => k_is); (case kn_Fitting_told => k_is); (case kn_Fitting_labels => k_is); (case kn_Fitting_greatest => k_is)
    (case aforces => k_is); (case lforces => k_is); (case cforces => k_is); (case kforces => k_is)
    (case a_all_marked => k_is); (case l_all_marked => k_is); (case c_all_marked => k_is); (case k_all_marked => k_is)
    (case a_some_marked => k_is); (case l_some_marked => k_is); (case c_some_marked => k_is); (case k_some_marked => k_is)
    (case asteps_to => k_is); (case lsteps_to => k_is); (case csteps_to => k_is); (case ksteps_to => k_is)
    (case astay_ranks => k_is); (case lstay_ranks => k_is); (case cstay_ranks => k_is); (case kstay_ranks => k_is)
    (case acome_ranks => k_is); (case lcome_ranks => k_is); (case ccome_ranks => k_is); (case kcome_ranks => k_is)
    (case a_ranks_to => k_is); (case l_ranks_to => k_is); (case c_ranks_to => k_is); (case k_ranks_to => k_is)
    (case aknown_arena => k_is); (case lknown_arena => k_is); (case cknown_arena => k_is); (case kknown_arena => k_is)
    (case a_successors_of => k_is); (case l_successors_of => k_is); (case c_successors_of => k_is); (case k_successors_of => k_is)
    (case a_parted => k_is); (case l_parted => k_is); (case c_parted => k_is); (case k_parted => k_is)
    (case acan_know => k_is); (case lcan_know => k_is); (case ccan_know => k_is); (case kcan_know => k_is)
    (case ahas_option => k_is); (case lhas_option => k_is); (case chas_option => k_is); (case khas_option => k_is)
    (case ais_end => k_is); (case lis_end => k_is); (case cis_end => k_is); (case kis_end => k_is)
    (case aplay_on => k_is); (case lplay_on => k_is); (case cplay_on => k_is); (case kplay_on => k_is)
    (case acolour_owners => k_is); (case lcolour_owners => k_is); (case ccolour_owners => k_is); (case kcolour_owners => k_is)
    (case asettle => k_is); (case lsettle => k_is); (case csettle => k_is); (case ksettle => k_is)
    (case a_take_near => k_is); (case l_take_near => k_is); (case c_take_near => k_is); (case k_take_near => k_is)
    (case aleast_measures => k_is); (case lleast_measures => k_is); (case cleast_measures => k_is); (case kleast_measures => k_is)
    (case a_entries_in => k_is); (case l_entries_in => k_is); (case c_entries_in => k_is); (case k_entries_in => k_is)
    (case a_is_ended => k_is); (case l_is_ended => k_is); (case c_is_ended => k_is); (case k_is_ended => k_is)
    (case a_won_without => k_is); (case l_won_without => k_is); (case c_won_without => k_is); (case k_won_without => k_is)
    (case aleast_credits => k_is); (case lleast_credits => k_is); (case cleast_credits => k_is); (case kleast_credits => k_is)
    (case aleast_loads => k_is); (case lleast_loads => k_is); (case cleast_loads => k_is); (case kleast_loads => k_is)
    (case a_scaled => k_is); (case l_scaled => k_is); (case c_scaled => k_is); (case k_scaled => k_is)
    (case a_least_values => k_is); (case l_least_values => k_is); (case c_least_values => k_is); (case k_least_values => k_is)
    (case avalues_of_rows => k_is); (case lvalues_of_rows => k_is); (case cvalues_of_rows => k_is); (case kvalues_of_rows => k_is)
    (case atold_paper => k_is); (case ltold_paper => k_is); (case ctold_paper => k_is); (case ktold_paper => k_is)
    (case a_drafts => k_is); (case l_drafts => k_is); (case c_drafts => k_is); (case k_drafts => k_is)
    (case a_tank_drafts => k_is); (case l_tank_drafts => k_is); (case c_tank_drafts => k_is); (case k_tank_drafts => k_is)
    (case a_colour_drafts => k_is); (case l_colour_drafts => k_is); (case c_colour_drafts => k_is); (case k_colour_drafts => k_is)
    (case a_pick => k_is); (case l_pick => k_is); (case c_pick => k_is); (case k_pick => k_is)
    (case a_option => k_is); (case l_option => k_is); (case c_option => k_is); (case k_option => k_is)
    (case a_reply => k_is); (case l_reply => k_is); (case c_reply => k_is); (case k_reply => k_is)
    (case a_law_draws => k_is); (case l_law_draws => k_is); (case c_law_draws => k_is); (case k_law_draws => k_is)
    (case a_law_take => k_is); (case l_law_take => k_is); (case c_law_take => k_is); (case k_law_take => k_is)
    (case a_law_great => k_is); (case l_law_great => k_is); (case c_law_great => k_is); (case k_law_great => k_is)
    (case a_law_arena => k_is); (case l_law_arena => k_is); (case c_law_arena => k_is); (case k_law_arena => k_is)
    (case a_law_some => k_is); (case l_law_some => k_is); (case c_law_some => k_is); (case k_law_some => k_is)
    (case a_law_readings => k_is); (case l_law_readings => k_is); (case c_law_readings => k_is); (case k_law_readings => k_is)
    (case a_law_known_keep => k_is); (case l_law_known_keep => k_is); (case c_law_known_keep => k_is); (case k_law_known_keep => k_is)
    (case a_law_picks => k_is); (case l_law_picks => k_is); (case c_law_picks => k_is); (case k_law_picks => k_is)
    (case a_law_walk => k_is); (case l_law_walk => k_is); (case c_law_walk => k_is); (case k_law_walk => k_is)
    (case a_law_bad_ends => k_is); (case l_law_bad_ends => k_is); (case c_law_bad_ends => k_is); (case k_law_bad_ends => k_is)
    (case a_law_back => k_is); (case l_law_back => k_is); (case c_law_back => k_is); (case k_law_back => k_is)
    (case a_law_is_refuted => k_is); (case l_law_is_refuted => k_is); (case c_law_is_refuted => k_is); (case k_law_is_refuted => k_is)
    (case alaw => k_is); (case llaw => k_is); (case claw => k_is); (case klaw => k_is)
    (case aFitting___init__ => k_is); (case lFitting___init__ => k_is); (case cFitting___init__ => k_is); (case kFitting___init__ => k_is); (case iFitting___init__ => k_is)
    (case aFitting_fits => k_is); (case lFitting_fits => k_is); (case cFitting_fits => k_is); (case kFitting_fits => k_is); (case iFitting_fits => k_is)
    (case aFitting_all_fit => k_is); (case lFitting_all_fit => k_is); (case cFitting_all_fit => k_is); (case kFitting_all_fit => k_is); (case iFitting_all_fit => k_is)
    (case g_CONTROLLER => k_is); (case r_CONTROLLER => exact ⟨_, rfl⟩)
    (case g_DISTURBANCE => k_is); (case r_DISTURBANCE => exact ⟨_, rfl⟩)
    (case g_OPTION_KINDS => k_is); (case k_OPTION_KINDS => (refine' NL.kt_mk ?h1 ?h2 ?h3 ?h4 ?h5; (case h1 => k_is); (case h2 => rfl); (case h3 => rfl); (case h4 => decide); (case h5 => repeat (first | exact .nil | refine .cons ⟨_, rfl⟩ ?_))))
    (case tF => rfl); (case tL => k_is); (case t11 => rfl); (case tN => first | rfl | decide | k_is); (case tg11 => rfl); (case tg18 => rfl); (case tg7 => rfl); (case tg9 => rfl); (case tg10 => rfl); (case tne => decide)
    (case z_all => k_is)
    (case z_any => k_is)
    (case z_enumerate => k_is)
    (case z_int => k_is)
    (case z_len => k_is)
    (case z_list => k_is)
    (case z_max => k_is)
    (case z_min => k_is)
    (case z_range => k_is)
    (case z_set => k_is)
    (case z_sorted => k_is)
    (case z_tuple => k_is)
    (case z_zip => k_is)
