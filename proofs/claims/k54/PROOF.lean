import PyProof.Rows.All
import Wide.All
import OpenK.AllK
import Wide.FinOn
import HandS.ForExc
import HandS.ForMost
import HandS.TupAny
import HandS.IsInst
import HandS.Codes
import HandS.FStr
import HandS.Zip
import HandS.TupSets
import HandS.SetFor
import HandS.Strs
import HandS.More
import HandS.DictComp
import HandS.Walk
import HandS.Conv
import PyProof.Draws
import HandS.Iter
import KE.GoesMore
import HandS.AnyAll
import HandS.EndOwn
import PyProof.GenCompD
import HandS.SortKw
import KE.DataMinMax
import HandS.Flow
import PyProof.DictTruth
import HandS.Dict
import HandS.TupLe
import HandS.Deep
import KE.KxIndex
import PySem.Challenge.RW_neverleaves_k54_whole_owners_by_all_choi
set_option Elab.async false
set_option linter.all false
set_option maxRecDepth 100000

namespace NL
open PySem PySem.Spec PyProof.Rows L2
def topS (i : Nat) : Stmt := PySem.Challenge.pw_neverleaves_k54_whole_owners_by_all_choi.main.body.getD i (.Pass ⟨0, 0, 0, 0⟩)
abbrev sforces : Stmt := topS 3
abbrev Nforces : List Str := ["side", "options", "marks", "option"]
abbrev Pforces : List Str := ["side", "options", "marks"]
theorem scforces : FnScope Nforces Pforces (defScope sforces) := ⟨rfl, rfl, rfl, by decide +kernel, rfl, by decide +kernel, by decide +kernel⟩
abbrev s_all_marked : Stmt := topS 4
abbrev N_all_marked : List Str := ["option", "marks", "after"]
abbrev P_all_marked : List Str := ["option", "marks"]
theorem sc_all_marked : FnScope N_all_marked P_all_marked (defScope s_all_marked) := ⟨rfl, rfl, rfl, by decide +kernel, rfl, by decide +kernel, by decide +kernel⟩
abbrev s_some_marked : Stmt := topS 5
abbrev N_some_marked : List Str := ["option", "marks", "after"]
abbrev P_some_marked : List Str := ["option", "marks"]
theorem sc_some_marked : FnScope N_some_marked P_some_marked (defScope s_some_marked) := ⟨rfl, rfl, rfl, by decide +kernel, rfl, by decide +kernel, by decide +kernel⟩
abbrev ssteps_to : Stmt := topS 6
abbrev Nsteps_to : List Str := ["arena", "side", "marks", "among", "reached", "steps", "many", "grows", "found", "at"]
abbrev Psteps_to : List Str := ["arena", "side", "marks", "among"]
theorem scsteps_to : FnScope Nsteps_to Psteps_to (defScope ssteps_to) := ⟨rfl, rfl, rfl, by decide +kernel, rfl, by decide +kernel, by decide +kernel⟩
abbrev scolour_owners : Stmt := topS 8
abbrev Ncolour_owners : List Str := ["arena", "colours"]
abbrev Pcolour_owners : List Str := ["arena", "colours"]
theorem sccolour_owners : FnScope Ncolour_owners Pcolour_owners (defScope scolour_owners) := ⟨rfl, rfl, rfl, by decide +kernel, rfl, by decide +kernel, by decide +kernel⟩
abbrev ssettle : Stmt := topS 9
abbrev Nsettle : List Str := ["arena", "colours", "owners", "settled", "open_ones", "at", "owner", "top", "side", "guess", "lost"]
abbrev Psettle : List Str := ["arena", "colours", "owners"]
theorem scsettle : FnScope Nsettle Psettle (defScope ssettle) := ⟨rfl, rfl, rfl, by decide +kernel, rfl, by decide +kernel, by decide +kernel⟩
abbrev s_take_near : Stmt := topS 10
abbrev N_take_near : List Str := ["arena", "owners", "side", "open_ones", "at", "owner", "marks"]
abbrev P_take_near : List Str := ["arena", "owners"]
theorem sc_take_near : FnScope N_take_near P_take_near (defScope s_take_near) := ⟨rfl, rfl, rfl, by decide +kernel, rfl, by decide +kernel, by decide +kernel⟩
abbrev shas_option : Stmt := topS 13
abbrev Nhas_option : List Str := ["label"]
abbrev Phas_option : List Str := ["label"]
theorem schas_option : FnScope Nhas_option Phas_option (defScope shas_option) := ⟨rfl, rfl, rfl, by decide +kernel, rfl, by decide +kernel, by decide +kernel⟩
abbrev sleast_measures : Stmt := topS 15
abbrev Nleast_measures : List Str := ["arena", "colours", "side", "owned", "measures", "at", "groups", "colour", "less", "parts", "group", "entries", "entry"]
abbrev Pleast_measures : List Str := ["arena", "colours", "side", "owned"]
theorem scleast_measures : FnScope Nleast_measures Pleast_measures (defScope sleast_measures) := ⟨rfl, rfl, rfl, by decide +kernel, rfl, by decide +kernel, by decide +kernel⟩
abbrev s_entries_in : Stmt := topS 16
abbrev N_entries_in : List Str := ["arena", "colours", "side", "colour", "group", "less", "at", "entries", "marks", "entry", "open_ones", "passed"]
abbrev P_entries_in : List Str := ["arena", "colours", "side", "colour", "group", "less"]
theorem sc_entries_in : FnScope N_entries_in P_entries_in (defScope s_entries_in) := ⟨rfl, rfl, rfl, by decide +kernel, rfl, by decide +kernel, by decide +kernel⟩
abbrev s_is_ended : Stmt := topS 17
abbrev N_is_ended : List Str := ["options", "option"]
abbrev P_is_ended : List Str := ["options"]
theorem sc_is_ended : FnScope N_is_ended P_is_ended (defScope s_is_ended) := ⟨rfl, rfl, rfl, by decide +kernel, rfl, by decide +kernel, by decide +kernel⟩
abbrev s_won_without : Stmt := topS 18
abbrev N_won_without : List Str := ["arena", "colours", "side", "open_ones", "marks", "owners", "mark", "at"]
abbrev P_won_without : List Str := ["arena", "colours", "side", "open_ones", "marks"]
theorem sc_won_without : FnScope N_won_without P_won_without (defScope s_won_without) := ⟨rfl, rfl, rfl, by decide +kernel, rfl, by decide +kernel, by decide +kernel⟩
abbrev sstay_ranks : Stmt := topS 20
abbrev Nstay_ranks : List Str := ["arena", "keep", "at"]
abbrev Pstay_ranks : List Str := ["arena", "keep"]
theorem scstay_ranks : FnScope Nstay_ranks Pstay_ranks (defScope sstay_ranks) := ⟨rfl, rfl, rfl, by decide +kernel, rfl, by decide +kernel, by decide +kernel⟩
abbrev scome_ranks : Stmt := topS 21
abbrev Ncome_ranks : List Str := ["arena", "home", "at"]
abbrev Pcome_ranks : List Str := ["arena", "home"]
theorem sccome_ranks : FnScope Ncome_ranks Pcome_ranks (defScope scome_ranks) := ⟨rfl, rfl, rfl, by decide +kernel, rfl, by decide +kernel, by decide +kernel⟩
abbrev s_ranks_to : Stmt := topS 22
abbrev N_ranks_to : List Str := ["arena", "side", "marks", "steps", "at", "mark"]
abbrev P_ranks_to : List Str := ["arena", "side", "marks"]
theorem sc_ranks_to : FnScope N_ranks_to P_ranks_to (defScope s_ranks_to) := ⟨rfl, rfl, rfl, by decide +kernel, rfl, by decide +kernel, by decide +kernel⟩
abbrev sleast_credits : Stmt := topS 24
abbrev Nleast_credits : List Str := ["arena", "gains"]
abbrev Pleast_credits : List Str := ["arena", "gains"]
theorem scleast_credits : FnScope Nleast_credits Pleast_credits (defScope sleast_credits) := ⟨rfl, rfl, rfl, by decide +kernel, rfl, by decide +kernel, by decide +kernel⟩
abbrev sleast_loads : Stmt := topS 25
abbrev Nleast_loads : List Str := ["arena", "gains", "many", "losses", "gain", "row"]
abbrev Pleast_loads : List Str := ["arena", "gains"]
theorem scleast_loads : FnScope Nleast_loads Pleast_loads (defScope sleast_loads) := ⟨rfl, rfl, rfl, by decide +kernel, rfl, by decide +kernel, by decide +kernel⟩
abbrev s_scaled : Stmt := topS 26
abbrev N_scaled : List Str := ["gains", "factor", "gain", "row"]
abbrev P_scaled : List Str := ["gains"]
theorem sc_scaled : FnScope N_scaled P_scaled (defScope s_scaled) := ⟨rfl, rfl, rfl, by decide +kernel, rfl, by decide +kernel, by decide +kernel⟩
abbrev s_least_values : Stmt := topS 30
abbrev N_least_values : List Str := ["picks", "many", "most", "row", "gain", "given_up", "values", "value"]
abbrev P_least_values : List Str := ["picks"]
theorem sc_least_values : FnScope N_least_values P_least_values (defScope s_least_values) := ⟨rfl, rfl, rfl, by decide +kernel, rfl, by decide +kernel, by decide +kernel⟩
abbrev svalues_of_rows : Stmt := topS 31
abbrev Nvalues_of_rows : List Str := ["rows", "given_up", "values", "order", "_", "changed", "at", "value", "after", "gain", "option"]
abbrev Pvalues_of_rows : List Str := ["rows", "given_up"]
theorem scvalues_of_rows : FnScope Nvalues_of_rows Pvalues_of_rows (defScope svalues_of_rows) := ⟨rfl, rfl, rfl, by decide +kernel, rfl, by decide +kernel, by decide +kernel⟩
abbrev sowners : Stmt := topS 33
abbrev Nowners : List Str := ["arena", "goal", "draft"]
abbrev Powners : List Str := ["arena", "goal"]
theorem scowners : FnScope Nowners Powners (defScope sowners) := ⟨rfl, rfl, rfl, by decide +kernel, rfl, by decide +kernel, by decide +kernel⟩
abbrev s_drafts : Stmt := topS 34
abbrev N_drafts : List Str := ["arena", "goal", "kind", "told", "ranks", "rank"]
abbrev P_drafts : List Str := ["arena", "goal"]
theorem sc_drafts : FnScope N_drafts P_drafts (defScope s_drafts) := ⟨rfl, rfl, rfl, by decide +kernel, rfl, by decide +kernel, by decide +kernel⟩
abbrev s_tank_drafts : Stmt := topS 35
abbrev N_tank_drafts : List Str := ["arena", "gains", "drafts", "credit", "load"]
abbrev P_tank_drafts : List Str := ["arena", "gains"]
theorem sc_tank_drafts : FnScope N_tank_drafts P_tank_drafts (defScope s_tank_drafts) := ⟨rfl, rfl, rfl, by decide +kernel, rfl, by decide +kernel, by decide +kernel⟩
abbrev s_colour_drafts : Stmt := topS 36
abbrev N_colour_drafts : List Str := ["arena", "colours", "sides", "drafts", "kind", "side", "owned", "at", "measures"]
abbrev P_colour_drafts : List Str := ["arena", "colours"]
theorem sc_colour_drafts : FnScope N_colour_drafts P_colour_drafts (defScope s_colour_drafts) := ⟨rfl, rfl, rfl, by decide +kernel, rfl, by decide +kernel, by decide +kernel⟩
abbrev s_law_draws : Stmt := topS 38
abbrev N_law_draws : List Str := ["script", "many", "cells", "cell", "rest", "draws", "k", "at", "once"]
abbrev P_law_draws : List Str := ["script", "many"]
theorem sc_law_draws : FnScope N_law_draws P_law_draws (defScope s_law_draws) := ⟨rfl, rfl, rfl, by decide +kernel, rfl, by decide +kernel, by decide +kernel⟩
abbrev s_law_take : Stmt := topS 39
abbrev N_law_take : List Str := ["draws", "many"]
abbrev P_law_take : List Str := ["draws", "many"]
theorem sc_law_take : FnScope N_law_take P_law_take (defScope s_law_take) := ⟨rfl, rfl, rfl, by decide +kernel, rfl, by decide +kernel, by decide +kernel⟩
abbrev s_law_same : Stmt := topS 40
abbrev N_law_same : List Str := ["actual", "due", "k"]
abbrev P_law_same : List Str := ["actual", "due"]
theorem sc_law_same : FnScope N_law_same P_law_same (defScope s_law_same) := ⟨rfl, rfl, rfl, by decide +kernel, rfl, by decide +kernel, by decide +kernel⟩
abbrev s_law_option : Stmt := topS 41
abbrev N_law_option : List Str := ["draws", "count", "k", "shape", "found", "i", "successor"]
abbrev P_law_option : List Str := ["draws", "count", "k", "shape"]
theorem sc_law_option : FnScope N_law_option P_law_option (defScope s_law_option) := ⟨rfl, rfl, rfl, by decide +kernel, rfl, by decide +kernel, by decide +kernel⟩
abbrev s_law_arena : Stmt := topS 42
abbrev N_law_arena : List Str := ["draws", "most", "count", "shape", "arena", "k", "many", "j", "at", "more", "every"]
abbrev P_law_arena : List Str := ["draws", "most"]
theorem sc_law_arena : FnScope N_law_arena P_law_arena (defScope s_law_arena) := ⟨rfl, rfl, rfl, by decide +kernel, rfl, by decide +kernel, by decide +kernel⟩
abbrev s_law_colours : Stmt := topS 43
abbrev N_law_colours : List Str := ["draws", "arena", "most", "factor", "plus", "options"]
abbrev P_law_colours : List Str := ["draws", "arena"]
theorem sc_law_colours : FnScope N_law_colours P_law_colours (defScope s_law_colours) := ⟨rfl, rfl, rfl, by decide +kernel, rfl, by decide +kernel, by decide +kernel⟩
abbrev s_law_game : Stmt := topS 44
abbrev N_law_game : List Str := ["draws", "most", "arena"]
abbrev P_law_game : List Str := ["draws", "most"]
theorem sc_law_game : FnScope N_law_game P_law_game (defScope s_law_game) := ⟨rfl, rfl, rfl, by decide +kernel, rfl, by decide +kernel, by decide +kernel⟩
abbrev s_law_choices : Stmt := topS 45
abbrev N_law_choices : List Str := ["arena", "rows", "options", "longer", "index", "row"]
abbrev P_law_choices : List Str := ["arena"]
theorem sc_law_choices : FnScope N_law_choices P_law_choices (defScope s_law_choices) := ⟨rfl, rfl, rfl, by decide +kernel, rfl, by decide +kernel, by decide +kernel⟩
abbrev s_law_reached : Stmt := topS 46
abbrev N_law_reached : List Str := ["arena", "choice", "start", "allowed", "found", "waiting", "k", "fresh", "place", "successors", "successor"]
abbrev P_law_reached : List Str := ["arena", "choice", "start", "allowed"]
theorem sc_law_reached : FnScope N_law_reached P_law_reached (defScope s_law_reached) := ⟨rfl, rfl, rfl, by decide +kernel, rfl, by decide +kernel, by decide +kernel⟩
abbrev s_law_kept : Stmt := topS 47
abbrev N_law_kept : List Str := ["arena", "colours", "choice", "every", "options", "bad", "place", "colour", "kept", "found", "other"]
abbrev P_law_kept : List Str := ["arena", "colours", "choice"]
theorem sc_law_kept : FnScope N_law_kept P_law_kept (defScope s_law_kept) := ⟨rfl, rfl, rfl, by decide +kernel, rfl, by decide +kernel, by decide +kernel⟩
abbrev slaw : Stmt := topS 48
abbrev Nlaw : List Str := ["script", "draws", "game", "options", "owned", "choice", "place", "due"]
abbrev Plaw : List Str := ["script"]
theorem sclaw : FnScope Nlaw Plaw (defScope slaw) := ⟨rfl, rfl, rfl, by decide +kernel, rfl, by decide +kernel, by decide +kernel⟩
def KT (K : PySem.W.Frag) (a : Addr) (ys : List V) : Prop := ∃ o its n, List.lookup a K = some o ∧ o.cls = .type "tuple" ∧ o.data = .seq its n ∧ its.size ≤ sizeLine ∧ L2.Vals ys its.toList
theorem kt_mk {K : PySem.W.Frag} {a : Addr} {ys : List V} {o : Obj} {its : Array Value} {n : Nat} (h1 : List.lookup a K = some o) (h2 : o.cls = .type "tuple") (h3 : o.data = .seq its n) (h4 : its.size ≤ sizeLine) (h5 : L2.Vals ys its.toList) : KT K a ys := ⟨o, its, n, h1, h2, h3, h4, h5⟩
set_option genInjectivity false in
set_option genSizeOfSpec false in
structure Txt (K : PySem.W.Frag) (mg : Str → Option Value) where
  z_all : mg "all" = none
  z_any : mg "any" = none
  z_bool : mg "bool" = none
  z_enumerate : mg "enumerate" = none
  z_int : mg "int" = none
  z_isinstance : mg "isinstance" = none
  z_len : mg "len" = none
  z_list : mg "list" = none
  z_max : mg "max" = none
  z_range : mg "range" = none
  z_set : mg "set" = none
  z_sorted : mg "sorted" = none
  z_str : mg "str" = none
  z_tuple : mg "tuple" = none
  z_zip : mg "zip" = none
  u_CONTROLLER : Value
  g_CONTROLLER : mg "CONTROLLER" = some u_CONTROLLER
  r_CONTROLLER : L2.RelV (.int 0) u_CONTROLLER
  u_DISTURBANCE : Value
  g_DISTURBANCE : mg "DISTURBANCE" = some u_DISTURBANCE
  r_DISTURBANCE : L2.RelV (.int 1) u_DISTURBANCE
  c_OPTION_KINDS : Addr
  g_OPTION_KINDS : mg "OPTION_KINDS" = some (.ref c_OPTION_KINDS)
  k_OPTION_KINDS : KT K c_OPTION_KINDS [(.str "holds"), (.str "comes"), (.str "even"), (.str "keeps")]
  aforces : Addr
  dforces : FuncData
  Fforces : Fun K "forces" "forces" sforces aforces dforces
  mforces : mg "forces" = some (.ref aforces)
  a_all_marked : Addr
  d_all_marked : FuncData
  F_all_marked : Fun K "_all_marked" "_all_marked" s_all_marked a_all_marked d_all_marked
  m_all_marked : mg "_all_marked" = some (.ref a_all_marked)
  a_some_marked : Addr
  d_some_marked : FuncData
  F_some_marked : Fun K "_some_marked" "_some_marked" s_some_marked a_some_marked d_some_marked
  m_some_marked : mg "_some_marked" = some (.ref a_some_marked)
  asteps_to : Addr
  dsteps_to : FuncData
  Fsteps_to : Fun K "steps_to" "steps_to" ssteps_to asteps_to dsteps_to
  msteps_to : mg "steps_to" = some (.ref asteps_to)
  acolour_owners : Addr
  dcolour_owners : FuncData
  Fcolour_owners : Fun K "colour_owners" "colour_owners" scolour_owners acolour_owners dcolour_owners
  mcolour_owners : mg "colour_owners" = some (.ref acolour_owners)
  asettle : Addr
  dsettle : FuncData
  Fsettle : Fun K "settle" "settle" ssettle asettle dsettle
  msettle : mg "settle" = some (.ref asettle)
  a_take_near : Addr
  d_take_near : FuncData
  F_take_near : Fun K "_take_near" "_take_near" s_take_near a_take_near d_take_near
  m_take_near : mg "_take_near" = some (.ref a_take_near)
  ahas_option : Addr
  dhas_option : FuncData
  Fhas_option : Fun K "has_option" "has_option" shas_option ahas_option dhas_option
  mhas_option : mg "has_option" = some (.ref ahas_option)
  aleast_measures : Addr
  dleast_measures : FuncData
  Fleast_measures : Fun K "least_measures" "least_measures" sleast_measures aleast_measures dleast_measures
  mleast_measures : mg "least_measures" = some (.ref aleast_measures)
  a_entries_in : Addr
  d_entries_in : FuncData
  F_entries_in : Fun K "_entries_in" "_entries_in" s_entries_in a_entries_in d_entries_in
  m_entries_in : mg "_entries_in" = some (.ref a_entries_in)
  a_is_ended : Addr
  d_is_ended : FuncData
  F_is_ended : Fun K "_is_ended" "_is_ended" s_is_ended a_is_ended d_is_ended
  m_is_ended : mg "_is_ended" = some (.ref a_is_ended)
  a_won_without : Addr
  d_won_without : FuncData
  F_won_without : Fun K "_won_without" "_won_without" s_won_without a_won_without d_won_without
  m_won_without : mg "_won_without" = some (.ref a_won_without)
  astay_ranks : Addr
  dstay_ranks : FuncData
  Fstay_ranks : Fun K "stay_ranks" "stay_ranks" sstay_ranks astay_ranks dstay_ranks
  mstay_ranks : mg "stay_ranks" = some (.ref astay_ranks)
  acome_ranks : Addr
  dcome_ranks : FuncData
  Fcome_ranks : Fun K "come_ranks" "come_ranks" scome_ranks acome_ranks dcome_ranks
  mcome_ranks : mg "come_ranks" = some (.ref acome_ranks)
  a_ranks_to : Addr
  d_ranks_to : FuncData
  F_ranks_to : Fun K "_ranks_to" "_ranks_to" s_ranks_to a_ranks_to d_ranks_to
  m_ranks_to : mg "_ranks_to" = some (.ref a_ranks_to)
  aleast_credits : Addr
  dleast_credits : FuncData
  Fleast_credits : Fun K "least_credits" "least_credits" sleast_credits aleast_credits dleast_credits
  mleast_credits : mg "least_credits" = some (.ref aleast_credits)
  aleast_loads : Addr
  dleast_loads : FuncData
  Fleast_loads : Fun K "least_loads" "least_loads" sleast_loads aleast_loads dleast_loads
  mleast_loads : mg "least_loads" = some (.ref aleast_loads)
  a_scaled : Addr
  d_scaled : FuncData
  F_scaled : Fun K "_scaled" "_scaled" s_scaled a_scaled d_scaled
  m_scaled : mg "_scaled" = some (.ref a_scaled)
  a_least_values : Addr
  d_least_values : FuncData
  F_least_values : Fun K "_least_values" "_least_values" s_least_values a_least_values d_least_values
  m_least_values : mg "_least_values" = some (.ref a_least_values)
  avalues_of_rows : Addr
  dvalues_of_rows : FuncData
  Fvalues_of_rows : Fun K "values_of_rows" "values_of_rows" svalues_of_rows avalues_of_rows dvalues_of_rows
  mvalues_of_rows : mg "values_of_rows" = some (.ref avalues_of_rows)
  aowners : Addr
  downers : FuncData
  Fowners : Fun K "owners" "owners" sowners aowners downers
  mowners : mg "owners" = some (.ref aowners)
  a_drafts : Addr
  d_drafts : FuncData
  F_drafts : Fun K "_drafts" "_drafts" s_drafts a_drafts d_drafts
  m_drafts : mg "_drafts" = some (.ref a_drafts)
  a_tank_drafts : Addr
  d_tank_drafts : FuncData
  F_tank_drafts : Fun K "_tank_drafts" "_tank_drafts" s_tank_drafts a_tank_drafts d_tank_drafts
  m_tank_drafts : mg "_tank_drafts" = some (.ref a_tank_drafts)
  a_colour_drafts : Addr
  d_colour_drafts : FuncData
  F_colour_drafts : Fun K "_colour_drafts" "_colour_drafts" s_colour_drafts a_colour_drafts d_colour_drafts
  m_colour_drafts : mg "_colour_drafts" = some (.ref a_colour_drafts)
  a_law_draws : Addr
  d_law_draws : FuncData
  F_law_draws : Fun K "_law_draws" "_law_draws" s_law_draws a_law_draws d_law_draws
  m_law_draws : mg "_law_draws" = some (.ref a_law_draws)
  a_law_take : Addr
  d_law_take : FuncData
  F_law_take : Fun K "_law_take" "_law_take" s_law_take a_law_take d_law_take
  m_law_take : mg "_law_take" = some (.ref a_law_take)
  a_law_same : Addr
  d_law_same : FuncData
  F_law_same : Fun K "_law_same" "_law_same" s_law_same a_law_same d_law_same
  m_law_same : mg "_law_same" = some (.ref a_law_same)
  a_law_option : Addr
  d_law_option : FuncData
  F_law_option : Fun K "_law_option" "_law_option" s_law_option a_law_option d_law_option
  m_law_option : mg "_law_option" = some (.ref a_law_option)
  a_law_arena : Addr
  d_law_arena : FuncData
  F_law_arena : Fun K "_law_arena" "_law_arena" s_law_arena a_law_arena d_law_arena
  m_law_arena : mg "_law_arena" = some (.ref a_law_arena)
  a_law_colours : Addr
  d_law_colours : FuncData
  F_law_colours : Fun K "_law_colours" "_law_colours" s_law_colours a_law_colours d_law_colours
  m_law_colours : mg "_law_colours" = some (.ref a_law_colours)
  a_law_game : Addr
  d_law_game : FuncData
  F_law_game : Fun K "_law_game" "_law_game" s_law_game a_law_game d_law_game
  m_law_game : mg "_law_game" = some (.ref a_law_game)
  a_law_choices : Addr
  d_law_choices : FuncData
  F_law_choices : Fun K "_law_choices" "_law_choices" s_law_choices a_law_choices d_law_choices
  m_law_choices : mg "_law_choices" = some (.ref a_law_choices)
  a_law_reached : Addr
  d_law_reached : FuncData
  F_law_reached : Fun K "_law_reached" "_law_reached" s_law_reached a_law_reached d_law_reached
  m_law_reached : mg "_law_reached" = some (.ref a_law_reached)
  a_law_kept : Addr
  d_law_kept : FuncData
  F_law_kept : Fun K "_law_kept" "_law_kept" s_law_kept a_law_kept d_law_kept
  m_law_kept : mg "_law_kept" = some (.ref a_law_kept)
  alaw : Addr
  dlaw : FuncData
  Flaw : Fun K "law" "law" slaw alaw dlaw
  mlaw : mg "law" = some (.ref alaw)
theorem Txt.bforces {K : PySem.W.Frag} {mg : Str → Option Value} (T : Txt K mg) : Binds K T.dforces Pforces [] := T.Fforces.binds fun _ _ _ _ _ _ us hl => match us, hl with | [_, _, _], _ => rfl
theorem Txt.b_all_marked {K : PySem.W.Frag} {mg : Str → Option Value} (T : Txt K mg) : Binds K T.d_all_marked P_all_marked [] := T.F_all_marked.binds fun _ _ _ _ _ _ us hl => match us, hl with | [_, _], _ => rfl
theorem Txt.b_some_marked {K : PySem.W.Frag} {mg : Str → Option Value} (T : Txt K mg) : Binds K T.d_some_marked P_some_marked [] := T.F_some_marked.binds fun _ _ _ _ _ _ us hl => match us, hl with | [_, _], _ => rfl
theorem Txt.bsteps_to {K : PySem.W.Frag} {mg : Str → Option Value} (T : Txt K mg) : Binds K T.dsteps_to Psteps_to [] := T.Fsteps_to.binds fun _ _ _ _ _ _ us hl => match us, hl with | [_, _, _, _], _ => rfl
theorem Txt.bcolour_owners {K : PySem.W.Frag} {mg : Str → Option Value} (T : Txt K mg) : Binds K T.dcolour_owners Pcolour_owners [] := T.Fcolour_owners.binds fun _ _ _ _ _ _ us hl => match us, hl with | [_, _], _ => rfl
theorem Txt.bsettle {K : PySem.W.Frag} {mg : Str → Option Value} (T : Txt K mg) : Binds K T.dsettle Psettle [] := T.Fsettle.binds fun _ _ _ _ _ _ us hl => match us, hl with | [_, _, _], _ => rfl
theorem Txt.b_take_near {K : PySem.W.Frag} {mg : Str → Option Value} (T : Txt K mg) : Binds K T.d_take_near P_take_near [] := T.F_take_near.binds fun _ _ _ _ _ _ us hl => match us, hl with | [_, _], _ => rfl
theorem Txt.bhas_option {K : PySem.W.Frag} {mg : Str → Option Value} (T : Txt K mg) : Binds K T.dhas_option Phas_option [] := T.Fhas_option.binds fun _ _ _ _ _ _ us hl => match us, hl with | [_], _ => rfl
theorem Txt.bleast_measures {K : PySem.W.Frag} {mg : Str → Option Value} (T : Txt K mg) : Binds K T.dleast_measures Pleast_measures [] := T.Fleast_measures.binds fun _ _ _ _ _ _ us hl => match us, hl with | [_, _, _, _], _ => rfl
theorem Txt.b_entries_in {K : PySem.W.Frag} {mg : Str → Option Value} (T : Txt K mg) : Binds K T.d_entries_in P_entries_in [] := T.F_entries_in.binds fun _ _ _ _ _ _ us hl => match us, hl with | [_, _, _, _, _, _], _ => rfl
theorem Txt.b_is_ended {K : PySem.W.Frag} {mg : Str → Option Value} (T : Txt K mg) : Binds K T.d_is_ended P_is_ended [] := T.F_is_ended.binds fun _ _ _ _ _ _ us hl => match us, hl with | [_], _ => rfl
theorem Txt.b_won_without {K : PySem.W.Frag} {mg : Str → Option Value} (T : Txt K mg) : Binds K T.d_won_without P_won_without [] := T.F_won_without.binds fun _ _ _ _ _ _ us hl => match us, hl with | [_, _, _, _, _], _ => rfl
theorem Txt.bstay_ranks {K : PySem.W.Frag} {mg : Str → Option Value} (T : Txt K mg) : Binds K T.dstay_ranks Pstay_ranks [] := T.Fstay_ranks.binds fun _ _ _ _ _ _ us hl => match us, hl with | [_, _], _ => rfl
theorem Txt.bcome_ranks {K : PySem.W.Frag} {mg : Str → Option Value} (T : Txt K mg) : Binds K T.dcome_ranks Pcome_ranks [] := T.Fcome_ranks.binds fun _ _ _ _ _ _ us hl => match us, hl with | [_, _], _ => rfl
theorem Txt.b_ranks_to {K : PySem.W.Frag} {mg : Str → Option Value} (T : Txt K mg) : Binds K T.d_ranks_to P_ranks_to [] := T.F_ranks_to.binds fun _ _ _ _ _ _ us hl => match us, hl with | [_, _, _], _ => rfl
theorem Txt.bleast_credits {K : PySem.W.Frag} {mg : Str → Option Value} (T : Txt K mg) : Binds K T.dleast_credits Pleast_credits [] := T.Fleast_credits.binds fun _ _ _ _ _ _ us hl => match us, hl with | [_, _], _ => rfl
theorem Txt.bleast_loads {K : PySem.W.Frag} {mg : Str → Option Value} (T : Txt K mg) : Binds K T.dleast_loads Pleast_loads [] := T.Fleast_loads.binds fun _ _ _ _ _ _ us hl => match us, hl with | [_, _], _ => rfl
theorem Txt.b_scaled {K : PySem.W.Frag} {mg : Str → Option Value} (T : Txt K mg) : Binds K T.d_scaled P_scaled [] := T.F_scaled.binds fun _ _ _ _ _ _ us hl => match us, hl with | [_], _ => rfl
theorem Txt.b_least_values {K : PySem.W.Frag} {mg : Str → Option Value} (T : Txt K mg) : Binds K T.d_least_values P_least_values [] := T.F_least_values.binds fun _ _ _ _ _ _ us hl => match us, hl with | [_], _ => rfl
theorem Txt.bvalues_of_rows {K : PySem.W.Frag} {mg : Str → Option Value} (T : Txt K mg) : Binds K T.dvalues_of_rows Pvalues_of_rows [] := T.Fvalues_of_rows.binds fun _ _ _ _ _ _ us hl => match us, hl with | [_, _], _ => rfl
theorem Txt.bowners {K : PySem.W.Frag} {mg : Str → Option Value} (T : Txt K mg) : Binds K T.downers Powners [] := T.Fowners.binds fun _ _ _ _ _ _ us hl => match us, hl with | [_, _], _ => rfl
theorem Txt.b_drafts {K : PySem.W.Frag} {mg : Str → Option Value} (T : Txt K mg) : Binds K T.d_drafts P_drafts [] := T.F_drafts.binds fun _ _ _ _ _ _ us hl => match us, hl with | [_, _], _ => rfl
theorem Txt.b_tank_drafts {K : PySem.W.Frag} {mg : Str → Option Value} (T : Txt K mg) : Binds K T.d_tank_drafts P_tank_drafts [] := T.F_tank_drafts.binds fun _ _ _ _ _ _ us hl => match us, hl with | [_, _], _ => rfl
theorem Txt.b_colour_drafts {K : PySem.W.Frag} {mg : Str → Option Value} (T : Txt K mg) : Binds K T.d_colour_drafts P_colour_drafts [] := T.F_colour_drafts.binds fun _ _ _ _ _ _ us hl => match us, hl with | [_, _], _ => rfl
theorem Txt.b_law_draws {K : PySem.W.Frag} {mg : Str → Option Value} (T : Txt K mg) : Binds K T.d_law_draws P_law_draws [] := T.F_law_draws.binds fun _ _ _ _ _ _ us hl => match us, hl with | [_, _], _ => rfl
theorem Txt.b_law_take {K : PySem.W.Frag} {mg : Str → Option Value} (T : Txt K mg) : Binds K T.d_law_take P_law_take [] := T.F_law_take.binds fun _ _ _ _ _ _ us hl => match us, hl with | [_, _], _ => rfl
theorem Txt.b_law_same {K : PySem.W.Frag} {mg : Str → Option Value} (T : Txt K mg) : Binds K T.d_law_same P_law_same [] := T.F_law_same.binds fun _ _ _ _ _ _ us hl => match us, hl with | [_, _], _ => rfl
theorem Txt.b_law_option {K : PySem.W.Frag} {mg : Str → Option Value} (T : Txt K mg) : Binds K T.d_law_option P_law_option [] := T.F_law_option.binds fun _ _ _ _ _ _ us hl => match us, hl with | [_, _, _, _], _ => rfl
theorem Txt.b_law_arena {K : PySem.W.Frag} {mg : Str → Option Value} (T : Txt K mg) : Binds K T.d_law_arena P_law_arena [] := T.F_law_arena.binds fun _ _ _ _ _ _ us hl => match us, hl with | [_, _], _ => rfl
theorem Txt.b_law_colours {K : PySem.W.Frag} {mg : Str → Option Value} (T : Txt K mg) : Binds K T.d_law_colours P_law_colours [] := T.F_law_colours.binds fun _ _ _ _ _ _ us hl => match us, hl with | [_, _], _ => rfl
theorem Txt.b_law_game {K : PySem.W.Frag} {mg : Str → Option Value} (T : Txt K mg) : Binds K T.d_law_game P_law_game [] := T.F_law_game.binds fun _ _ _ _ _ _ us hl => match us, hl with | [_, _], _ => rfl
theorem Txt.b_law_choices {K : PySem.W.Frag} {mg : Str → Option Value} (T : Txt K mg) : Binds K T.d_law_choices P_law_choices [] := T.F_law_choices.binds fun _ _ _ _ _ _ us hl => match us, hl with | [_], _ => rfl
theorem Txt.b_law_reached {K : PySem.W.Frag} {mg : Str → Option Value} (T : Txt K mg) : Binds K T.d_law_reached P_law_reached [] := T.F_law_reached.binds fun _ _ _ _ _ _ us hl => match us, hl with | [_, _, _, _], _ => rfl
theorem Txt.b_law_kept {K : PySem.W.Frag} {mg : Str → Option Value} (T : Txt K mg) : Binds K T.d_law_kept P_law_kept [] := T.F_law_kept.binds fun _ _ _ _ _ _ us hl => match us, hl with | [_, _, _], _ => rfl
theorem Txt.blaw {K : PySem.W.Frag} {mg : Str → Option Value} (T : Txt K mg) : Binds K T.dlaw Plaw [] := T.Flaw.binds fun _ _ _ _ _ _ us hl => match us, hl with | [_], _ => rfl
end NL

namespace NL
open PySem PySem.Spec PyProof.Rows L2

/-! ### frames: what stays while the list of draws at d is used up -/
structure Go (d : Addr) (H H' : Hp) : Prop where
  fr : ∀ b o, b ≠ d → H b = some o → H' b = some o
  dr : ∃ ns : List Int, H' d = some (.lst (ns.map V.int))
abbrev Dr (H : Hp) (d : Addr) : Prop := ∃ ns : List Int, H d = some (.lst (ns.map V.int))
theorem Go.refl {d : Addr} {H : Hp} (h : Dr H d) : Go d H H := ⟨fun _ _ _ e => e, h⟩
theorem Go.trans {d : Addr} {H H1 H2 : Hp} (a : Go d H H1) (b : Go d H1 H2) : Go d H H2 := ⟨fun c o n e => b.fr c o n (a.fr c o n e), b.dr⟩
theorem Go.new {d p : Addr} {H : Hp} {o : HO} (h : Dr H d) (hp : H p = none) : Go d H (upd H p o) := by
  obtain ⟨ns, e⟩ := h
  have n : d ≠ p := ne_of_none e hp
  exact ⟨fun b u _ q => by rw [upd_ne (ne_of_none q hp)]; exact q, ⟨ns, by rw [upd_ne n]; exact e⟩⟩
theorem Go.put {d : Addr} {H : Hp} (ns : List Int) : Go d H (upd H d (.lst (ns.map V.int))) := ⟨fun b u n q => by rw [upd_ne n]; exact q, ⟨ns, upd_same⟩⟩
theorem Go.same {d : Addr} {H H' : Hp} (h : Dr H d) (s : Same H H') : Go d H H' := ⟨fun b o _ e => s b o e, by obtain ⟨ns, e⟩ := h; exact ⟨ns, s _ _ e⟩⟩
theorem Go.tup {d a : Addr} {H H' : Hp} {xs : List V} (g : Go d H H') (h : Dr H d) (e : H a = some (.tup xs)) : H' a = some (.tup xs) := by
  refine g.fr a _ ?_ e
  rintro rfl
  obtain ⟨ns, q⟩ := h
  rw [e] at q; cases q
theorem same_new {H : Hp} {p : Addr} (h : H p = none) (o : HO) : Same H (upd H p o) := fun b u q => by rw [upd_ne (ne_of_none q h)]; exact q
/-- all tuples stay -/
def Tp (H H' : Hp) : Prop := ∀ a xs, H a = some (.tup xs) → H' a = some (.tup xs)
theorem Go.tp {d : Addr} {H H' : Hp} (g : Go d H H') (h : Dr H d) : Tp H H' := fun _ _ e => g.tup h e
theorem Tp.same {H H' : Hp} (s : Same H H') : Tp H H' := fun _ _ e => s _ _ e
theorem Tp.trans {H H1 H2 : Hp} (a : Tp H H1) (b : Tp H1 H2) : Tp H H2 := fun x y e => b x y (a x y e)
theorem Tp.refl {H : Hp} : Tp H H := fun _ _ e => e
/-- a list that stays readable whatever is drawn at d -/
def Keep (K : PySem.W.Frag) (d : Addr) (H : Hp) (a : Addr) (xs : List V) : Prop := ∀ H', (∀ b o, b ≠ d → H b = some o → H' b = some o) → SqL K H' a xs
theorem Keep.now {K : PySem.W.Frag} {d a : Addr} {H : Hp} {xs : List V} (k : Keep K d H a xs) : SqL K H a xs := k H fun _ _ _ e => e
theorem Keep.go {K : PySem.W.Frag} {d a : Addr} {H H' : Hp} {xs : List V} (k : Keep K d H a xs) (g : Go d H H') : Keep K d H' a xs := fun H2 f => k H2 fun b o n e => f b o n (g.fr b o n e)
theorem Keep.of {K : PySem.W.Frag} {d a : Addr} {H : Hp} {xs : List V} (n : a ≠ d) (h : H a = some (.lst xs)) : Keep K d H a xs := fun H' f => .inl (.inl (f a _ n h))
/-- what was read ahead of the draws' list stays -/
theorem Keep.old {K : PySem.W.Frag} {d a : Addr} {H0 H : Hp} {xs : List V} (h : SqL K H0 a xs) (hd : H0 d = none) (f : ∀ b o, H0 b = some o → H b = some o) : Keep K d H a xs := fun H' g => by
  rcases h with (h | ⟨o, h⟩) | h
  · exact .inl (.inl (g a _ (ne_of_none h hd) (f _ _ h)))
  · exact .inl (.inr ⟨o, g a _ (ne_of_none h hd) (f _ _ h)⟩)
  · exact .inr h

/-! ### rules whose written part is named (in a comprehension) -/
theorem ix_tupK {X : Cx} {K : PySem.W.Frag} (h : X.K = K) : IxR X (rIxT K) := by subst h; exact ix_tup
theorem ix_listK {X : Cx} {K : PySem.W.Frag} (h : X.K = K) : IxR X (rIxL K) := by subst h; exact ix_list
def rTupOf (K : PySem.W.Frag) : List V → Hp → VK → Prop := fun xs H Q => ∃ p ys, xs = [.ref p] ∧ ((SqL K H p ys ∧ ∀ l, H l = none → Q (.ref l) (upd H l (.tup ys))) ∨ (SqT K H p ys ∧ Q (.ref p) H))
theorem call_tuple_ofK {X : Cx} {K : PySem.W.Frag} (h : X.K = K) : CallR X (.type "tuple") (rTupOf K) := by subst h; exact call_tuple_of
/-! ### texts and words -/
/-- signs a to z alone -/
def Wd (z : Str) : Prop := ∀ c ∈ z.cps.toList, 97 ≤ c ∧ c ≤ 122
instance (z : Str) : Decidable (Wd z) := by unfold Wd; infer_instance
def res : List Str := ["true", "false", "add", "sub", "mul", "div", "mod", "min", "max", "abs", "if", "less", "equal", "not", "all", "any"]
theorem app_list (a b : Str) : (a ++ b).cps.toList = a.cps.toList ++ b.cps.toList := by
  show (a.cps ++ b.cps).toList = _
  simp
theorem len_list (a : Str) : a.length = a.cps.toList.length := by
  show a.cps.size = _
  simp
theorem len_app (a b : Str) : (a ++ b).length = a.length + b.length := by
  rw [len_list, app_list, List.length_append, ← len_list, ← len_list]
theorem str_ext {a b : Str} (h : a.cps.toList = b.cps.toList) : a = b := by
  cases a with | mk x => cases b with | mk y =>
  have : x = y := Array.toList_inj.mp h
  rw [this]
theorem Wd.app {a b : Str} (ha : Wd a) (hb : Wd b) : Wd (a ++ b) := fun c hc => by
  rw [app_list] at hc
  rcases List.mem_append.mp hc with h | h
  · exact ha c h
  · exact hb c h
structure Nam (z : Str) : Prop where
  wd : Wd z
  len : 0 < z.length ∧ z.length ≤ 200
  nr : z ∉ res
structure Nm (z : Str) : Prop where
  wd : Wd z
  len : 0 < z.length ∧ z.length ≤ 150

/-! ### lists at an index -/
theorem atI_mem {α : Type} {xs : List α} {i : Int} (h0 : 0 ≤ i) (h1 : i < xs.length) : ∃ v, atI xs i = some v ∧ v ∈ xs := by
  have hk : i.toNat < xs.length := by omega
  have ek : i = ((i.toNat : Nat) : Int) := by omega
  have q : atI xs ((i.toNat : Nat) : Int) = some xs[i.toNat] := atI_nat (List.getElem?_eq_getElem hk)
  rw [← ek] at q
  exact ⟨_, q, List.getElem_mem hk⟩
theorem atI_map {α β : Type} {f : α → β} {xs : List α} {i : Int} (h0 : 0 ≤ i) (h1 : i < xs.length) : ∃ v, atI (xs.map f) i = some (f v) ∧ v ∈ xs := by
  obtain ⟨v, h, m⟩ := atI_mem (xs := xs.map f) h0 (by rw [List.length_map]; exact h1)
  obtain ⟨u, hu, rfl⟩ := List.mem_map.mp m
  exact ⟨u, h, hu⟩
theorem sqd {K : PySem.W.Frag} {H : Hp} {a : Addr} {xs : List V} (h : H a = some (.lst xs)) : SqL K H a xs := .inl (.inl h)
theorem sqt {K : PySem.W.Frag} {H : Hp} {a : Addr} {xs : List V} (h : H a = some (.tup xs)) : SqT K H a xs := .inl (.inl h)
theorem int_eq {i j : Int} (h : decide (V.int i = V.int j) = true) : i = j := V.int.inj (of_decide_eq_true h)
theorem int_ne {i j : Int} (h : ¬ decide (V.int i = V.int j) = true) : i ≠ j := fun e => h (decide_eq_true (by rw [e]))
section
variable {P : Program} {w : World} {K : PySem.W.Frag} {mg : Str → Option Value} {base : Heap}
/-! ### _law_take -/
def spTake : Sp := fun vs H Q _ => ∃ (d : Addr) (m : Int), vs = [.ref d, .int m] ∧ Dr H d ∧ 0 < m ∧ ∀ r H', Go d H H' → 0 ≤ r → r < m → Q (.int r) H'
theorem ok_law_take (T : Txt K mg) : FnOk P w K mg base CX0 1 T.a_law_take T.d_law_take P_law_take spTake := by
  refine T.F_law_take.ok sc_law_take (fun vs H Q E h => ?_) (fun cdv A outer s H vs Q E hr h => ?_)
  · obtain ⟨d, m, rfl, _⟩ := h
    rfl
  obtain ⟨d, m, rfl, hD, hm, q⟩ := h
  refine ⟨_, (pss_cons (ps_if (pt_cmpR op_eq (pe_callB call_len_seq (by rfl) T.z_len PySem.boot_len (pa_cons (pv 0) pa_nil)) pe_int (nomark _))
    (pss_one (ps_ret pe_int))
    pss_nil)
    (pss_one (ps_ret (pe_op op_mod (pe_callTy call_int1 (by rfl) T.z_int (by decide +kernel) (pa_cons (pe_bm0 PySem.F.plainAttrs_list PySem.F.slot_list_pop PySem.F.type_list_pop mt_pop (pv 0)) pa_nil)) (pv 1))))), ?_⟩
  obtain ⟨ns, hd⟩ := hD
  refine ⟨_, rfl, _, _, rfl, .inl (sqd hd), rfl, _, rfl, ?_⟩
  refine ite2 (fun c => ?_) (fun c => ?_)
  · exact q 0 H (Go.refl ⟨ns, hd⟩) (Int.le_refl 0) hm
  · have hn := int_ne c
    rw [List.length_map] at hn
    have hz : ns ≠ [] := by
      rintro rfl
      exact hn rfl
    have hl : 0 < ns.length := List.length_pos_iff.mpr hz
    have he : (ns.map V.int)[(ns.map V.int).length - 1]? = some (.int ns[ns.length - 1]) := by
      rw [List.length_map, List.getElem?_map, List.getElem?_eq_getElem (by omega)]
      rfl
    refine ⟨_, rfl, .inl ⟨rfl, _, sqd hd⟩, _, _, _, rfl, rfl, hd, he, .inl ⟨_, rfl, ?_⟩⟩
    refine ⟨_, rfl, _, _, rfl, rfl, hm, ?_⟩
    refine q _ _ ?_ (Int.emod_nonneg _ (by omega)) (Int.emod_lt_of_pos _ hm)
    rw [← List.map_dropLast]
    exact Go.put _
end
end NL

namespace NL
open PySem PySem.Spec PyProof.Rows L2
theorem yes_if {σ : L2.St} {H : Hp} {a n : Hp → Prop} (h : a H) : tYes σ H (fun b H3 => if b = true then a H3 else n H3) := by
  show (if true = true then a H else n H)
  rw [if_pos rfl]
  exact h
/-- one reading for two ways -/
theorem cutP {B C : Prop} (f : B → C) (b : B) : C := f b
theorem ifT {c : Bool} {A B : Prop} (h : c = true) (a : A) : if c = true then A else B := by
  rw [if_pos h]; exact a
theorem ifF {c : Bool} {A B : Prop} (h : c = false) (b : B) : if c = true then A else B := by
  rw [if_neg (by rw [h]; exact Bool.false_ne_true)]; exact b
theorem atI0 {α : Type} {x : α} {r : List α} : atI (x :: r) 0 = some x := atI_nat (j := 0) rfl
theorem atI1 {α : Type} {x y : α} {r : List α} : atI (x :: y :: r) 1 = some y := atI_nat (j := 1) rfl
theorem boolE {Q : VK} {b b' : Bool} {H : Hp} (h : b = b') (q : Q (.bl b') H) : Q (.bl b) H := by rw [h]; exact q
theorem big {n : Nat} (h : n ≤ 1000000) : n ≤ sizeLine := Nat.le_trans h (by decide)
theorem big' {n : Nat} (h : n ≤ 1000000) : n < sizeLine := Nat.lt_of_le_of_lt h (by decide)
theorem int_in {x : Int} {l : List Int} : inV (.int x) (l.map V.int) = decide (x ∈ l) := by
  unfold inV
  rw [List.any_map]
  induction l with
  | nil => rfl
  | cons a r ih =>
    rw [List.any_cons, ih]
    show (eqV (.int a) (.int x) || _) = _
    have e : eqV (.int a) (.int x) = decide (x = a) := by
      show (a == x) = _
      rw [Bool.beq_eq_decide_eq]
      exact decide_eq_decide.mpr ⟨fun h => h.symm, fun h => h.symm⟩
    rw [e, ← Bool.decide_or]
    exact decide_eq_decide.mpr List.mem_cons.symm
theorem flat_ints' (l : List Int) : (l.map V.int).all flatV = true := by
  induction l with
  | nil => rfl
  | cons a r ih => rw [List.map_cons, List.all_cons, ih]; rfl
theorem notIn_int {x : Int} {l : List Int} : (if true = true then !inV (V.int x) (l.map V.int) else inV (V.int x) (l.map V.int)) = !decide (x ∈ l) := by
  rw [if_pos rfl, int_in]
def rLenK (K : PySem.W.Frag) : List V → Hp → VK → Prop := fun xs H Q => ∃ p ys, xs = [.ref p] ∧ (SqL K H p ys ∨ SqT K H p ys) ∧ Q (.int (ys.length : Nat)) H
theorem call_len_seqK {X : Cx} {K : PySem.W.Frag} (h : X.K = K) : CallR X (.builtin "len") (rLenK K) := by
  subst h
  exact call_len_seq
end NL

namespace NL
open PySem PySem.Spec PyProof.Rows L2
theorem ixN_in {n : Nat} {k : Int} (h0 : 0 ≤ k) (h1 : k < n) : ixN n k = some k.toNat := by
  unfold ixN
  rw [if_pos h0, if_pos h1]
/-- a change at what was not there before -/
theorem same_put {H H' : Hp} {p : Addr} {o : HO} (s : Same H H') (hp : H p = none) : Same H (upd H' p o) := fun b u e => by
  rw [upd_ne (ne_of_none e hp)]
  exact s b u e
section
variable {P : Program} {w : World} {K : PySem.W.Frag} {mg : Str → Option Value} {base : Heap}
def spDraws (K : PySem.W.Frag) : Sp := fun vs H Q _ => ∃ (a : Addr) (ns : List Int) (m : Int), vs = [.ref a, .int m] ∧ SqL K H a (ns.map V.int) ∧ ns.length ≤ 63 ∧ 0 ≤ m ∧ m ≤ 10000 ∧
  ∀ d H', Same H H' → H d = none → Dr H' d → Q (.ref d) H'
theorem ok_law_draws (T : Txt K mg) : FnOk P w K mg base CX0 1 T.a_law_draws T.d_law_draws P_law_draws (spDraws K) := by
  refine T.F_law_draws.ok sc_law_draws (fun vs H Q E h => ?_) (fun cdv A outer s H vs Q E hr h => ?_)
  · obtain ⟨a, ns, m, rfl, _⟩ := h
    rfl
  obtain ⟨a, ns, m, rfl, hS, hl, m0, m1, q⟩ := h
  refine ⟨_, (pss_cons (ps_setLc (i := 2) (own := [("cell", 3)]) (g := (gName 3)) (tt := tYes) rfl sc_law_draws.nd rfl rfl (sw_true rfl rfl rfl (by decide +kernel)) (pi_list (pv 0)) (blkOk_by (N := N_law_draws) (sc := defScope s_law_draws) (by decide +kernel)) (fun _ _ _ _ _ => (pg_name (i := 3) sc_law_draws.nd rfl (Or.inl rfl))) (fun _ _ _ _ _ => pts_nil) (fun _ _ _ _ _ => (pe_callTy call_int1 (by rfl) T.z_int (by decide +kernel) (pa_cons (pv 3) pa_nil))))
    (C8.pss_cut (ps_if (pt_cmpR op_eq (pe_callB call_len_seq (by rfl) T.z_len PySem.boot_len (pa_cons (pv 2) pa_nil)) pe_int (nomark _))
    (pss_one (ps_expr (pe_bm PySem.F.plainAttrs_list PySem.F.slot_list_append PySem.F.type_list_append mt_append (pv 2) (pa_cons pe_int pa_nil))))
    pss_nil)
    (pss_cons (ps_set (i := 4) sc_law_draws.nd rfl (Or.inl rfl) (pe_callTy call_list_of (by rfl) T.z_list (by decide +kernel) (pa_cons (pv 2) pa_nil)))
    (pss_cons (ps_set (i := 5) sc_law_draws.nd rfl (Or.inl rfl) (pe_lst pa_nil))
    (pss_cons (ps_for  PassesOwn.never rfl (pi_range1 (by rfl) T.z_range (pa_cons (pv 1) pa_nil)) (pg_name (i := 6) sc_law_draws.nd rfl (Or.inl rfl))
    (pss_cons (ps_set (i := 7) sc_law_draws.nd rfl (Or.inl rfl) (pe_op op_mod (pv 6) (pe_callB call_len_seq (by rfl) T.z_len PySem.boot_len (pa_cons (pv 2) pa_nil))))
    (pss_one (ps_if (pt_cmpR op_ge (pe_ix ix_list (pv 2) (pv 7) (fun _ _ => rfl)) (pe_op op_pow pe_int pe_int) (nomark _))
    (pss_cons (ps_expr (pe_bm PySem.F.plainAttrs_list PySem.F.slot_list_append PySem.F.type_list_append mt_append (pv 5) (pa_cons (pe_op op_mod (pe_callTy call_int1 (by rfl) T.z_int (by decide +kernel) (pa_cons (pe_ix ix_list (pv 4) (pv 7) (fun _ _ => rfl)) pa_nil)) pe_int) pa_nil)))
    (pss_one (ps_asg (pe_op op_fdiv (pe_ix ix_list (pv 4) (pv 7) (fun _ _ => rfl)) pe_int) (pg_sub (pv 4) (pv 7) set_list))))
    (pss_cons (ps_set (i := 8) sc_law_draws.nd rfl (Or.inl rfl) (pe_op op_mod (pe_callTy call_int1 (by rfl) T.z_int (by decide +kernel) (pa_cons (pe_op op_add (pe_op op_add (pe_op op_mul (pe_ix ix_list (pv 2) (pv 7) (fun _ _ => rfl)) pe_int) (pe_op op_mul (pv 6) pe_int)) pe_int) pa_nil)) pe_int))
    (pss_one (ps_expr (pe_bm PySem.F.plainAttrs_list PySem.F.slot_list_append PySem.F.type_list_append mt_append (pv 5) (pa_cons (pe_op op_mod (pe_callTy call_int1 (by rfl) T.z_int (by decide +kernel) (pa_cons (pe_op op_add (pe_op op_add (pe_op op_mul (pv 8) (pv 8)) (pe_op op_mul pe_int (pv 8))) (pv 6)) pa_nil)) pe_int) pa_nil)))))))))
    (pss_cons (ps_expr (pe_bm0 PySem.F.plainAttrs_list PySem.F.slot_list_reverse PySem.F.type_list_reverse mt_reverse (pv 5)))
    (pss_one (ps_ret (pv 5))))))))), ?_⟩
  -- cells
  refine ⟨_, rfl, a, rfl, ⟨_, hS⟩, fun c hc => ?_⟩
  refine lc_list (K := K) (a := a) (xs := ns.map V.int) (fun (j : Nat) (H' : Hp) => Same H H' ∧ H' c = some (.lst ((ns.take j).map V.int))) ?_ ?_ ?_ ?_
  · exact ⟨same_new hc _, by rw [upd_same, List.take_zero]; rfl⟩
  · rintro i H' _ ⟨s1, _⟩
    exact s1.seq hS
  · rintro i x H' hx ⟨s1, e1⟩
    rw [List.getElem?_map] at hx
    cases hn : ns[i]? with
    | none => rw [hn] at hx; cases hx
    | some n =>
      rw [hn] at hx
      obtain rfl : V.int n = x := Option.some.inj hx
      refine ⟨rfl, yes_if ?_⟩
      refine ⟨_, rfl, .inl ⟨n, rfl, _, e1, ?_, same_put s1 hc, ?_⟩⟩
      · rw [List.length_map, List.length_take]
        exact big' (by omega)
      · rw [upd_same, List.take_add_one, hn, List.map_append]
        rfl
  · rintro H1 ⟨s1, e1⟩
    rw [List.length_map, List.take_length] at e1
    -- at least one cell
    refine ⟨fun σ H2 => ∃ cs : List Int, cs ≠ [] ∧ cs.length ≤ 63 ∧ σ = [some (.ref a), some (.int m), some (.ref c), none, none, none, none, none, none] ∧ Same H H2 ∧ H2 c = some (.lst (cs.map V.int)), ?_, ?_⟩
    · refine ⟨_, rfl, _, _, rfl, .inl (sqd e1), rfl, _, rfl, ?_⟩
      refine ite2 (fun z => ?_) (fun z => ?_)
      · refine ⟨_, rfl, .inl ⟨rfl, _, sqd e1⟩, c, _, _, rfl, rfl, e1, ?_, ?_⟩
        · rw [List.length_map]
          exact big' (by omega)
        · have hz := int_eq z
          rw [List.length_map] at hz
          have : ns = [] := List.length_eq_zero_iff.mp (by omega)
          subst this
          exact ⟨[0], by simp, by decide, rfl, same_put s1 hc, upd_same⟩
      · have hz := int_ne z
        rw [List.length_map] at hz
        refine ⟨ns, ?_, hl, rfl, s1, e1⟩
        rintro rfl
        exact hz rfl
    · rintro σ H2 ⟨cs, hcs, hcl, rfl, s2, e2⟩
      have hpos : 0 < cs.length := List.length_pos_iff.mpr hcs
      -- rest, draws
      refine ⟨_, rfl, _, _, rfl, .inl (sqd e2), fun r hr2 => ?_⟩
      have ncr : c ≠ r := ne_of_none e2 hr2
      refine ⟨(Nat.le_of_ble_eq_true rfl), fun d hd => ?_⟩
      have ncd : c ≠ d := ne_of_none (by rw [upd_ne ncr]; exact e2) hd
      have nrd : r ≠ d := ne_of_none upd_same hd
      have hHr : H r = none := s2.free hr2
      have hHd : H d = none := (s2.trans (same_new hr2 _)).free hd
      refine ⟨_, rfl, m, rfl, by omega, by omega, for_range (lo := 0) (n := m.toNat) (fun (j : Nat) (σ : L2.St) (H' : Hp) => ∃ (rs ds : List Int) (y1 y2 y3 : Option V), σ = [some (.ref a), some (.int m), some (.ref c), none, some (.ref r), some (.ref d), y1, y2, y3] ∧ Same H H' ∧ H' c = some (.lst (cs.map V.int)) ∧ H' r = some (.lst (rs.map V.int)) ∧ rs.length = cs.length ∧ H' d = some (.lst (ds.map V.int)) ∧ ds.length ≤ j) ?_ ?_ ?_⟩
      · refine ⟨cs, [], none, none, none, rfl, (s2.trans (same_new hr2 _)).trans (same_new hd _), ?_, ?_, rfl, upd_same, Nat.le_refl _⟩
        · rw [upd_ne ncd, upd_ne ncr]; exact e2
        · rw [upd_ne nrd]; exact upd_same
      · rintro j σ H' hj ⟨rs, ds, y1, y2, y3, rfl, s3, ec, er, hrl, ed, hdl⟩
        have b0 := Int.emod_nonneg ((0 : Int) + (j : Int)) (show (((cs.map V.int).length : Nat) : Int) ≠ 0 by rw [List.length_map]; omega)
        have b1 : (((0 : Int) + (j : Int)) % (((cs.map V.int).length : Nat) : Int)) < (cs.length : Int) := by
          have h := Int.emod_lt_of_pos ((0 : Int) + (j : Int)) (show 0 < (((cs.map V.int).length : Nat) : Int) by rw [List.length_map]; omega)
          rw [List.length_map] at h ⊢
          exact h
        refine ⟨_, rfl, _, rfl, _, _, rfl, .inl (sqd ec), _, _, rfl, rfl, (by show 0 < (((cs.map V.int).length : Nat) : Int); rw [List.length_map]; omega), ?_⟩
        obtain ⟨cv, hcv, _⟩ := atI_map (f := V.int) (xs := cs) b0 b1
        obtain ⟨rv, hrv, _⟩ := atI_map (f := V.int) (xs := rs) b0 (by omega)
        refine ⟨_, rfl, _, rfl, _, _, _, _, rfl, rfl, sqd ec, hcv, _, _, rfl, rfl, ⟨by decide, by decide, by decide⟩, _, _, rfl, rfl, _, rfl, ?_⟩
        refine ite2 (fun z => ?_) (fun z => ?_)
        · refine ⟨_, rfl, .inl ⟨rfl, _, sqd ed⟩, _, rfl, _, rfl, _, _, _, _, rfl, rfl, sqd er, hrv, .inl ⟨_, rfl, _, _, rfl, rfl, (by show (0 : Int) < 1000; decide), d, _, _, rfl, rfl, ed, ?_, ?_⟩⟩
          · rw [List.length_map]
            exact big' (by omega)
          · have er2 : ∀ o, (upd H' d o) r = some (.lst (rs.map V.int)) := fun o => by rw [upd_ne nrd]; exact er
            refine ⟨_, rfl, _, rfl, _, _, _, _, rfl, rfl, sqd (er2 _), hrv, _, _, rfl, rfl, ⟨by decide, by decide⟩, _, rfl, _, rfl, r, _, _, _, rfl, rfl, er2 _, ixN_in b0 (by have h : (rs.map V.int).length = rs.length := List.length_map _; omega), ?_⟩
            refine ⟨rs.set (((0 : Int) + (j : Int)) % (((cs.map V.int).length : Nat) : Int)).toNat (rv / 1000), ds ++ [rv % 1000], _, _, _, rfl, same_put (same_put s3 hHd) hHr, ?_, ?_, ?_, ?_, ?_⟩
            · rw [upd_ne ncr, upd_ne ncd]; exact ec
            · rw [upd_same, List.map_set]
            · rw [List.length_set]; exact hrl
            · rw [upd_ne nrd.symm, upd_same, List.map_append]; rfl
            · rw [List.length_append, List.length_singleton]; omega
        · have o0 := fun z : Int => Int.emod_nonneg z (by decide : (2147483647 : Int) ≠ 0)
          have o1 := fun z : Int => Int.emod_lt_of_pos z (by decide : (0 : Int) < 2147483647)
          refine ⟨_, rfl, _, rfl, _, _, _, _, rfl, rfl, sqd ec, hcv, _, _, rfl, rfl, .inr ⟨by decide, by decide⟩, _, rfl, _, _, rfl, rfl, .inr ⟨by decide, by decide⟩, _, _, rfl, rfl, _, _, rfl, rfl, .inl ⟨_, rfl, _, _, rfl, rfl, (by show (0 : Int) < 2147483647; decide), ?_⟩⟩
          refine ⟨_, rfl, .inl ⟨rfl, _, sqd ed⟩, _, rfl, _, rfl, _, _, rfl, rfl, ?_, ?_⟩
          · left
            have h1 := o0 (cv * 48271 + (0 + (j : Int)) * 69621 + 11)
            have h2 := o1 (cv * 48271 + (0 + (j : Int)) * 69621 + 11)
            constructor
            · show -(2 ^ 64) < _
              omega
            · show _ < 2 ^ 64
              omega
          · refine ⟨_, rfl, _, _, rfl, rfl, .inl ⟨by decide, by decide⟩, _, _, rfl, rfl, _, rfl, _, _, rfl, rfl, .inl ⟨_, rfl, _, _, rfl, rfl, (by show (0 : Int) < 1000003; decide), d, _, _, rfl, rfl, ed, ?_, ?_⟩⟩
            · rw [List.length_map]
              exact big' (by omega)
            · refine ⟨rs, ds ++ [(((cv * 48271 + (0 + (j : Int)) * 69621 + 11) % 2147483647) * ((cv * 48271 + (0 + (j : Int)) * 69621 + 11) % 2147483647) + 3 * ((cv * 48271 + (0 + (j : Int)) * 69621 + 11) % 2147483647) + (0 + (j : Int))) % 1000003], _, _, _, rfl, same_put s3 hHd, ?_, ?_, hrl, ?_, ?_⟩
              · rw [upd_ne ncd]; exact ec
              · rw [upd_ne nrd]; exact er
              · rw [upd_same, List.map_append]; rfl
              · rw [List.length_append, List.length_singleton]; omega
      · rintro σ H' ⟨rs, ds, y1, y2, y3, rfl, s3, ec, er, hrl, ed, hdl⟩
        refine ⟨_, rfl, .inl ⟨rfl, _, sqd ed⟩, d, _, rfl, rfl, ed, ?_⟩
        refine ⟨_, rfl, q d _ (same_put s3 hHd) hHd ⟨ds.reverse, ?_⟩⟩
        rw [upd_same, List.map_reverse]
end
end NL

namespace NL
open PySem PySem.Spec PyProof.Rows L2
/-! ### rows and what stands in them -/
def Each {α : Type} (R : α → V → Prop) (l : List α) (xs : List V) : Prop := xs.length = l.length ∧ ∀ (k : Nat) a x, l[k]? = some a → xs[k]? = some x → R a x
theorem Each.nil {α : Type} {R : α → V → Prop} : Each R [] [] := ⟨rfl, fun k a x h => by simp at h⟩
theorem Each.mono {α : Type} {R S : α → V → Prop} {l : List α} {xs : List V} (h : Each R l xs) (f : ∀ a x, R a x → S a x) : Each S l xs := ⟨h.1, fun k a x e g => f a x (h.2 k a x e g)⟩
theorem Each.cons {α : Type} {R : α → V → Prop} {l : List α} {xs : List V} {a : α} {x : V} (r : R a x) (h : Each R l xs) : Each R (a :: l) (x :: xs) := ⟨by rw [List.length_cons, List.length_cons, h.1], fun k b y e g => by
  cases k with
  | zero => cases e; cases g; exact r
  | succ k => exact h.2 k b y e g⟩
theorem Each.app {α : Type} {R : α → V → Prop} {l m : List α} {xs ys : List V} (h : Each R l xs) (g : Each R m ys) : Each R (l ++ m) (xs ++ ys) := by
  refine ⟨by rw [List.length_append, List.length_append, h.1, g.1], fun k r x e f => ?_⟩
  by_cases hk : k < l.length
  · rw [List.getElem?_append_left hk] at e
    rw [List.getElem?_append_left (by rw [h.1]; exact hk)] at f
    exact h.2 k r x e f
  · rw [List.getElem?_append_right (by omega)] at e
    rw [List.getElem?_append_right (by rw [h.1]; omega), h.1] at f
    exact g.2 _ r x e f
theorem Each.snoc {α : Type} {R : α → V → Prop} {l : List α} {xs : List V} {a : α} {x : V} (h : Each R l xs) (r : R a x) : Each R (l ++ [a]) (xs ++ [x]) := h.app (.cons r .nil)
theorem Each.take {α : Type} {R : α → V → Prop} {l : List α} {xs : List V} (h : Each R l xs) (n : Nat) : Each R (l.take n) (xs.take n) := ⟨by rw [List.length_take, List.length_take, h.1], fun k a x e g => by
  rw [List.getElem?_take] at e g
  split at e
  · rename_i hk
    rw [if_pos hk] at g
    exact h.2 k a x e g
  · cases e⟩
theorem Each.drop {α : Type} {R : α → V → Prop} {l : List α} {xs : List V} (h : Each R l xs) (n : Nat) : Each R (l.drop n) (xs.drop n) := ⟨by rw [List.length_drop, List.length_drop, h.1], fun k a x e g => by
  rw [List.getElem?_drop] at e g
  exact h.2 _ a x e g⟩
theorem Each.set {α : Type} {R : α → V → Prop} {l : List α} {xs : List V} {a : α} {x : V} (h : Each R l xs) (n : Nat) (r : R a x) : Each R (l.set n a) (xs.set n x) := ⟨by rw [List.length_set, List.length_set, h.1], fun k b y e g => by
  rw [List.getElem?_set] at e g
  by_cases hk : n = k
  · rw [if_pos hk] at e g
    by_cases hl : n < l.length
    · rw [if_pos hl] at e
      rw [if_pos (by rw [h.1]; exact hl)] at g
      cases e; cases g; exact r
    · rw [if_neg hl] at e
      cases e
  · rw [if_neg hk] at e g
    exact h.2 k b y e g⟩
theorem Each.at {α : Type} {R : α → V → Prop} {l : List α} {xs : List V} {a : α} {k : Nat} (h : Each R l xs) (e : l[k]? = some a) : ∃ x, xs[k]? = some x ∧ R a x := by
  have hk : k < xs.length := by
    rw [h.1]
    exact (List.getElem?_eq_some_iff.mp e).1
  exact ⟨_, List.getElem?_eq_getElem hk, h.2 k a _ e (List.getElem?_eq_getElem hk)⟩
theorem Each.atI {α : Type} {R : α → V → Prop} {l : List α} {xs : List V} {i : Int} (h : Each R l xs) (h0 : 0 ≤ i) (h1 : i < l.length) : ∃ a x, l[i.toNat]? = some a ∧ atI xs i = some x ∧ R a x := by
  have hk : i.toNat < l.length := by omega
  obtain ⟨x, hx, r⟩ := h.at (List.getElem?_eq_getElem hk)
  have q : L2.atI xs ((i.toNat : Nat) : Int) = some x := atI_nat hx
  rw [show ((i.toNat : Nat) : Int) = i by omega] at q
  exact ⟨_, x, List.getElem?_eq_getElem hk, q, r⟩
/-! ### options, positions, arenas -/
abbrev Opt := List Int
abbrev Pos' := List Opt
abbrev Ar := List Pos'
def OptIn (H : Hp) (o : Opt) (v : V) : Prop := ∃ b, v = .ref b ∧ H b = some (.tup (o.map V.int))
def PosIn (H : Hp) (os : Pos') (v : V) : Prop := ∃ b xs, v = .ref b ∧ H b = some (.tup xs) ∧ Each (OptIn H) os xs
def ArIn (H : Hp) (A : Ar) (v : V) : Prop := ∃ b xs, v = .ref b ∧ H b = some (.tup xs) ∧ Each (PosIn H) A xs
theorem OptIn.tp {H H' : Hp} {o : Opt} {v : V} (t : Tp H H') (h : OptIn H o v) : OptIn H' o v := by
  obtain ⟨b, e, q⟩ := h
  exact ⟨b, e, t _ _ q⟩
theorem PosIn.tp {H H' : Hp} {o : Pos'} {v : V} (t : Tp H H') (h : PosIn H o v) : PosIn H' o v := by
  obtain ⟨b, xs, e, q, r⟩ := h
  exact ⟨b, xs, e, t _ _ q, r.mono fun a x => OptIn.tp t⟩
theorem ArIn.tp {H H' : Hp} {o : Ar} {v : V} (t : Tp H H') (h : ArIn H o v) : ArIn H' o v := by
  obtain ⟨b, xs, e, q, r⟩ := h
  exact ⟨b, xs, e, t _ _ q, r.mono fun a x => PosIn.tp t⟩
/-- an option of an arena with n positions -/
structure OptG (n : Int) (o : Opt) : Prop where
  ne : o ≠ []
  len : o.length ≤ 60
  mem : ∀ s ∈ o, -1 ≤ s ∧ s < n
  asc : o.Pairwise (· < ·)
def PosG (n : Int) (os : Pos') : Prop := os.length ≤ 12 ∧ ∀ o ∈ os, OptG n o
def ArG (A : Ar) : Prop := A.length ≤ 400 ∧ ∀ os ∈ A, PosG A.length os
theorem OptG.one {n s : Int} (h0 : -1 ≤ s) (h1 : s < n) : OptG n [s] := ⟨by simp, by simp, fun t ht => by rw [List.mem_singleton.mp ht]; exact ⟨h0, h1⟩, List.pairwise_singleton _ _⟩
theorem asc_of {l m : List Int} (h : l.Perm m) (hm : m.Nodup) (hp : l.Pairwise (· ≤ ·)) : l.Pairwise (· < ·) := by
  have hn : l.Nodup := h.nodup_iff.mpr hm
  refine (hp.and hn).imp fun {a b} h => ?_
  obtain ⟨h1, h2⟩ := h
  omega
theorem tp_put {H H' : Hp} {p : Addr} {o : List V} {o' : HO} (t : Tp H H') (h : H' p = some (.lst o)) : Tp H (upd H' p o') := fun a xs e => by
  have n : a ≠ p := fun q => by
    have := t a xs e
    rw [q, h] at this
    cases this
  rw [upd_ne n]
  exact t a xs e
theorem Go.put2 {d p : Addr} {H H' : Hp} {o : HO} (g : Go d H H') (hp : H p = none) (n : p ≠ d) : Go d H (upd H' p o) := ⟨fun b u hb e => by
  rw [upd_ne (ne_of_none e hp)]
  exact g.fr b u hb e, by
  obtain ⟨ns, e⟩ := g.dr
  exact ⟨ns, by rw [upd_ne n.symm]; exact e⟩⟩
theorem new_ne {d p : Addr} {H : Hp} (h : Dr H d) (hp : H p = none) : p ≠ d := by
  rintro rfl
  obtain ⟨ns, e⟩ := h
  rw [hp] at e
  cases e
theorem Go.free {d p : Addr} {H H' : Hp} (g : Go d H H') (hp : H' p = none) : H p = none := by
  cases e : H p with
  | none => rfl
  | some o =>
    by_cases hd : p = d
    · obtain ⟨ns, q⟩ := g.dr
      rw [hd, q] at hp
      cases hp
    · rw [g.fr p o hd e] at hp
      cases hp
end NL

set_option maxHeartbeats 4000000
namespace NL
open PySem PySem.Spec PyProof.Rows L2
section
variable {P : Program} {w : World} {A : Around} {E : Value → Shared → Prop} {s : Shared}
set_option maxHeartbeats 3200000 in
theorem call_set_ints {l : Addr} {items : Array Value} (ns : List Int) {Q : Value → Shared → Prop} (hh : A.handled = none) (hl : s.heap.IsList l items) (hit : IntsAre items.toList ns) (hb : ns.length + 1 < scanBound)
    (h : ∀ (h' : Heap) (tk c : Nat), SetR w h' s.heap.objs.size (fun j => decide (j ∈ ns)) c → c ≤ ns.length → (∀ b o, s.heap.get? b = some o → h'.get? b = some o) → Q (.ref s.heap.objs.size) { s with heap := h', toks := tk }) :
    wpAny (model P w) A (call (.type "set") [.ref l]) Q E s := by
  have hisz : items.size = ns.length := by
    have q := IntsAre.length hit
    rw [Array.length_toList] at q
    exact q
  obtain ⟨c, tl, hmro⟩ := F.called_set.mro
  have hmade := F.called_set.made
  have hsub := F.called_set.sub
  refine wpAny_call (codeAny_of_tree ?_)
  show wpAny _ _ (callAny (.type "set") _) _ _ _
  refine wpAny_pure ⟨Code.quiet_builtin _ (by decide +kernel), codeAny_builtin F.entry_type_call ?_⟩
  rw [Around.under_plain (weight_type_call_type "set" [.ref l] []) rfl]
  have h1 := F.called_set.notType
  have h2 := F.called_set.canCreate
  have hct := F.typeCall_set_1 (.ref l)
  repeat (any_goals (first | assumption | wp_step))
  refine codeAny_mono (code_set_led1 (.ref l) (E := E) (Q₁ := fun obj s₁ => obj = .ref s.heap.objs.size ∧ s₁ = { s with heap := s.heap.push { cls := .type "set", dict := none, data := .set #[] 0 (.fresh 0 0 (!w.params.followText "set-order")) } }) ⟨rfl, rfl⟩) fun r s₁ hr => ?_
  cases r with
  | error e => exact hr
  | ok fl =>
    cases fl with
    | ret obj =>
      obtain ⟨rfl, rfl⟩ := hr
      have hS : (s.heap.push { cls := .type "set", dict := none, data := .set #[] 0 (.fresh 0 0 (!w.params.followText "set-order")) }).get? s.heap.objs.size = some { cls := .type "set", dict := none, data := .set #[] 0 (.fresh 0 0 (!w.params.followText "set-order")) } := Heap.get?_push_size _ rfl
      have hT : Shared.TypeIs { s with heap := s.heap.push { cls := .type "set", dict := none, data := .set #[] 0 (.fresh 0 0 (!w.params.followText "set-order")) } } (.ref s.heap.objs.size) "set" := ⟨_, hS, rfl⟩
      have hli := F.called_set.init.lookup
      have hbi := F.called_set.init.bind (.ref s.heap.objs.size)
      repeat (any_goals (first | assumption | wp_step))
      refine codeAny_mono (codeAny_call_builtin (R := wants (fun r s₂ => r = .none ∧ ∃ h' tk c, s₂ = { s with heap := h', toks := tk } ∧ SetR w h' s.heap.objs.size (fun j => decide (j ∈ ns)) c ∧ c ≤ ns.length ∧
          (∀ b o, s.heap.get? b = some o → h'.get? b = some o)) E) F.called_set.init.plain F.entry_set_init (check_set_init_1 hT ?_)) fun r₂ s₂ hr₂ => ?_
      · obtain ⟨ol, hol, hcl, nl, hdl⟩ := hl
        obtain ⟨ocls, odict, odata, oslots⟩ := ol
        simp only at hcl hdl
        subst hcl; subst hdl
        have hol' : (s.heap.push { cls := .type "set", dict := none, data := .set #[] 0 (.fresh 0 0 (!w.params.followText "set-order")) }).get? l = some { cls := .type "list", dict := odict, data := .seq items nl, slots := oslots } := Heap.get?_push_of_some _ hol
        have hsls := F.sub_list_set
        have hslf := F.sub_list_frozenset
        have hne : (Value.type "list" == Value.type "dict") = false := by decide
        have hl1 : (s.heap.push { cls := .type "set", dict := none, data := .set #[] 0 (.fresh 0 0 (!w.params.followText "set-order")) }).IsList l items := ⟨_, hol', rfl, nl, rfl⟩
        unfold Builtin.«set.__init__» noKeywords Builtin.Frozenset.updateFrom
        generalize hPI : pyIter = PI
        wp_walk
        subst hPI
        refine wpAny_pyIter_list hl1 ?_
        refine wpAny_bind (wpAny_runValue ?_)
        have hlS : l < s.heap.objs.size := Heap.lt_size hol
        have hh3 : A.in1.in1.in1.handled = none := by simp [hh]
        have hneI : l ≠ (s.heap.push { cls := .type "set", dict := none, data := .set #[] 0 (.fresh 0 0 (!w.params.followText "set-order")) }).objs.size := by
          rw [Heap.size_push]; exact Nat.ne_of_lt (Nat.lt_succ_of_lt hlS)
        have hSf : s.heap.objs.size ∉ [(s.heap.push { cls := .type "set", dict := none, data := .set #[] 0 (.fresh 0 0 (!w.params.followText "set-order")) }).objs.size, l] := by
          rw [Heap.size_push]; simp only [List.mem_cons, List.mem_singleton, List.not_mem_nil, or_false, not_or]
          exact ⟨Nat.ne_of_lt (Nat.lt_succ_self _), Nat.ne_of_gt hlS⟩
        have hval : ∀ (i : Nat) (v : Value), items[i]? = some v → ∃ k t, ns[i]? = some k ∧ v = .int k t := fun i v hv => by
          obtain ⟨n, t, e1, e2⟩ := IntsAre.at hit i v (by rw [Array.getElem?_toList]; exact hv)
          exact ⟨n, t, e2, e1⟩
        refine set_update_ints ((Walks.list hh3 _ l hneI items).toS) s.heap.objs.size
          hSf ns hisz hb hval (items.size - 0) 0 _ (by omega) (Nat.zero_le _)
          ⟨⟨_, Heap.get?_push_size _ rfl, rfl, rfl⟩, (hl1.push _)⟩ ?hS0 ?hR
        case hS0 =>
          have hget : ((s.heap.push { cls := .type "set", dict := none, data := .set #[] 0 (.fresh 0 0 (!w.params.followText "set-order")) }).push { cls := .type "list_iterator", data := .fields #[.ref l, .int 0 0] }).get? s.heap.objs.size
              = some { cls := .type "set", dict := none, data := .set #[] 0 (.fresh 0 0 (!w.params.followText "set-order")) } := Heap.get?_push_of_some _ hS
          exact ⟨0, Nat.le_refl 0, setR_new_at hget⟩
        case hR =>
          intro s' c' hm hc' hS'
          obtain ⟨h', g2, d', tk', os'⟩ := s'
          have eg : g2 = s.gens := hm.gens
          have ed : d' = s.drawn := hm.drawn
          have eo : os' = s.os := hm.os
          subst eg; subst ed; subst eo
          show wpAny _ _ _ _ _ _
          refine wpAny_pure ?_
          show wpAny _ _ (ret Value.none) _ _ _
          rw [hisz] at hc'
          refine wpAny_pure ⟨rfl, h', tk', c', rfl, hS', hc', fun b o e => ?_⟩
          have hb0 : b < s.heap.objs.size := Heap.lt_size e
          have hb1 : b ≠ s.heap.objs.size := Nat.ne_of_lt hb0
          have hb2 : b ≠ (s.heap.push { cls := .type "set", dict := none, data := .set #[] 0 (.fresh 0 0 (!w.params.followText "set-order")) }).objs.size := by
            rw [Heap.size_push]; exact Nat.ne_of_lt (Nat.lt_succ_of_lt hb0)
          exact hm.heap b o (by simp only [List.mem_cons, List.mem_singleton, List.not_mem_nil, or_false, not_or]; exact ⟨hb1, hb2⟩) (Heap.get?_push_of_some _ (Heap.get?_push_of_some _ e))
      · cases r₂ with
        | error e => exact hr₂
        | ok fl₂ =>
          cases fl₂ with
          | ret r =>
            obtain ⟨rfl, h', tk, c', rfl, hS', hc', hk'⟩ := hr₂
            repeat (any_goals (first | assumption | wp_step))
            exact h _ _ _ hS' hc' hk'
          | _ => exact hr₂.elim
    | _ => exact hr.elim
end
variable {X : Cx}
def rSetOfI (K : PySem.W.Frag) (w : World) : List V → Hp → VK → Prop := fun xs H Q => ∃ (l : Addr) (ns : List Int), xs = [.ref l] ∧ SqL K H l (ns.map V.int) ∧ ns.length < 64 ∧ ∀ a c, H a = none → c ≤ ns.length → Q (.ref a) (upd H a (SetO w a (fun j => decide (j ∈ ns)) c))
theorem cr_setOfI (hc : X.calm = true) : CallR X (.type "set") (rSetOfI X.K X.w) := by
  intro pins s σ H xs us Q I r h
  obtain ⟨l, ks, rfl, hl, hf, q⟩ := h
  rw [Vals.ref1 r]
  obtain ⟨its, rv, pl, hz⟩ := I.list hl
  have hn : H s.heap.objs.size = none := I.hok.fresh (Nat.le_refl _)
  refine call_set_ints (P := X.prog) (w := X.w) ks (I.ok.hd hc) pl.isList (by simpa using ints_of_vals rv) (by unfold scanBound; omega) fun h' tk c R hc' k => ?_
  exact ⟨.ref s.heap.objs.size, upd H s.heap.objs.size (SetO X.w s.heap.objs.size _ c), I.laid (t' := tk) k (Nat.le_refl _) (setO_new R), rfl, q _ c hn hc'⟩
end NL

namespace NL
open PySem PySem.Spec PyProof.Rows L2
theorem newH {H : Hp} {p : Addr} (hp : H p = none) (o : HO) : ∃ H', upd H p o = H' ∧ Same H H' ∧ H' p = some o := ⟨_, rfl, same_new hp _, upd_same⟩
theorem catA_of {K : PySem.W.Frag} {a b : Addr} {xs ys : List V} {H : Hp} {Q : VK} (ha : H a = some (.tup xs)) (hb : H b = some (.tup ys)) (hl : xs.length + ys.length ≤ 1000) (q : ∀ p H', Same H H' → H' p = some (.tup (xs ++ ys)) → Q (.ref p) H') : rCatA K (.ref a) (.ref b) H Q := by
  refine ⟨a, b, xs, ys, rfl, rfl, sqt ha, sqt hb, big (by omega), fun h => ?_, fun _ h => ?_, fun _ _ p hp => ?_⟩
  · exact q b H (Same.refl H) (by rw [h, List.nil_append]; exact hb)
  · exact q a H (Same.refl H) (by rw [h, List.append_nil]; exact ha)
  · exact q p _ (same_new hp _) upd_same
theorem rg_ints (a b : Int) : rgV a b = ((List.range (b - a).toNat).map fun i : Nat => a + (i : Int)).map V.int := by
  unfold rgV
  rw [List.map_map]
  rfl
theorem rg_good {a n : Int} (h0 : -1 ≤ a) (h1 : a ≤ 0) (hn : 0 < n) (hm : n ≤ 46) : OptG n ((List.range (n - a).toNat).map fun i : Nat => a + (i : Int)) := by
  refine ⟨fun e => ?_, ?_, fun s hs => ?_, ?_⟩
  · have h := congrArg List.length e
    rw [List.length_map, List.length_range, List.length_nil] at h
    omega
  · rw [List.length_map, List.length_range]
    omega
  · obtain ⟨i, hi, rfl⟩ := List.mem_map.mp hs
    have := List.mem_range.mp hi
    omega
  · rw [List.pairwise_map]
    exact List.pairwise_lt_range.imp fun {a b} h => by omega
section
variable {P : Program} {w : World} {K : PySem.W.Frag} {mg : Str → Option Value} {base : Heap}
/-! ### _law_option -/
def spOption : Sp := fun vs H Q _ => ∃ (d : Addr) (n k sh : Int), vs = [.ref d, .int n, .int k, .int sh] ∧ Dr H d ∧ 0 ≤ k ∧ k < n ∧ n ≤ 45 ∧ ∀ p o H', Go d H H' → H p = none → H' p = some (.tup (o.map V.int)) → OptG n o → Q (.ref p) H'
theorem ok_law_option (T : Txt K mg) : FnOk P w K mg base CX0 2 T.a_law_option T.d_law_option P_law_option spOption := by
  have G_law_take := ok_law_take (P := P) (w := w) (base := base) T
  refine T.F_law_option.ok sc_law_option (fun vs H Q E h => ?_) (fun cdv A outer s H vs Q E hr h => ?_)
  · obtain ⟨d, n, k, sh, rfl, _⟩ := h
    rfl
  obtain ⟨d, n, k, sh, rfl, hD, k0, k1, n45, q⟩ := h
  have hn0 : 0 < n := by omega
  refine ⟨_, (pss_cons (ps_set (i := 4) sc_law_option.nd rfl (Or.inl rfl) (pe_lst pa_nil))
    (pss_cons (ps_for  PassesOwn.never rfl (pi_range1 (by rfl) T.z_range (pa_cons (pe_op op_add pe_int (pe_ix ix_list (pe_lst (pa_cons pe_int (pa_cons pe_int (pa_cons pe_int (pa_cons pe_int (pa_cons pe_int (pa_cons pe_int pa_nil))))))) (pe_call G_law_take (hr.mono (by omega)) (by rfl) T.m_law_take T.F_law_take.kp T.b_law_take .nil pass0 (pa_cons (pv 0) (pa_cons pe_int pa_nil))) (fun _ _ => rfl))) pa_nil)) (pg_name (i := 5) sc_law_option.nd rfl (Or.inl rfl))
    (pss_cons (ps_set (i := 6) sc_law_option.nd rfl (Or.inl rfl) (pe_call G_law_take (hr.mono (by omega)) (by rfl) T.m_law_take T.F_law_take.kp T.b_law_take .nil pass0 (pa_cons (pv 0) (pa_cons (pv 1) pa_nil))))
    (C8.pss_cut (ps_if (pt_cmpR op_eq (pv 3) pe_int (nomark _))
    (pss_one (ps_set (i := 6) sc_law_option.nd rfl (Or.inl rfl) (pe_op op_mod (pe_callTy call_int1 (by rfl) T.z_int (by decide +kernel) (pa_cons (pe_op op_add (pe_op op_add (pv 2) pe_int) (pe_op op_fdiv (pv 6) pe_int)) pa_nil)) (pv 1))))
    pss_nil)
    (C8.pss_cut (ps_if (pt_cmpR op_eq (pv 3) pe_int (nomark _))
    (pss_one (ps_set (i := 6) sc_law_option.nd rfl (Or.inl rfl) (pe_callB (call_max2 rfl) (by rfl) T.z_max (by decide +kernel) (pa_cons pe_int (pa_cons (pe_op op_sub (pv 2) (pe_op op_mod (pe_callTy call_int1 (by rfl) T.z_int (by decide +kernel) (pa_cons (pv 6) pa_nil)) pe_int)) pa_nil)))))
    pss_nil)
    (C8.pss_cut (ps_if (PW.pt (pw_and (pt_cmpR op_ne (pv 3) pe_int (nomark _)) (pw_and1 (pt_cmpR op_eq (pe_call G_law_take (hr.mono (by omega)) (by rfl) T.m_law_take T.F_law_take.kp T.b_law_take .nil pass0 (pa_cons (pv 0) (pa_cons pe_int pa_nil))) pe_int (nomark _)))))
    (pss_one (ps_set (i := 6) sc_law_option.nd rfl (Or.inl rfl) (pe_un un_neg pe_int)))
    pss_nil)
    (pss_one (ps_if (pt_cmpR op_notIn_seq (pv 6) (pv 4) (by rfl))
    (pss_one (ps_expr (pe_bm PySem.F.plainAttrs_list PySem.F.slot_list_append PySem.F.type_list_append mt_append (pv 4) (pa_cons (pv 6) pa_nil))))
    pss_nil)))))))
    (pss_one (ps_ret (pe_callTy call_tuple_of (by rfl) T.z_tuple (by decide +kernel) (pa_cons (pe_callB (cr_sorted) (by rfl) T.z_sorted (by decide +kernel) (pa_cons (pv 4) pa_nil)) pa_nil)))))), ?_⟩
  refine ⟨Nat.zero_le _, fun fl hfl => ?_⟩
  have nfl := new_ne hD hfl
  obtain ⟨H1, e1, s1, c1⟩ := newH hfl (.lst [])
  rw [e1]
  refine ⟨Nat.le_of_ble_eq_true rfl, fun l5 hl5 => ?_⟩
  obtain ⟨H2, e2, s2, c2⟩ := newH hl5 (.lst [.int 0, .int 0, .int 1, .int 1, .int 2, .int 3])
  rw [e2]
  have ga := Go.same hD s1
  have gb := ga.trans (.same ga.dr s2)
  refine ⟨_, rfl, d, 6, rfl, gb.dr, by decide, fun u H3 g3 u0 u1 => ?_⟩
  obtain ⟨mf, hmf, hmfm⟩ := atI_map (f := V.int) (xs := ([0, 0, 1, 1, 2, 3] : List Int)) u0 u1
  have hmf3 : 0 ≤ mf ∧ mf ≤ 3 := by
    simp only [List.mem_cons, List.not_mem_nil, or_false] at hmfm
    omega
  refine ⟨l5, _, _, _, rfl, rfl, sqd (g3.fr l5 _ (new_ne ga.dr hl5) c2), hmf, _, _, rfl, rfl, 1 + mf, rfl, by omega, by omega, ?_⟩
  have gc := gb.trans g3
  have ef := g3.fr fl _ nfl (s2 _ _ c1)
  refine for_range (lo := 0) (n := (1 + mf).toNat) (fun (i : Nat) (σ : L2.St) (H' : Hp) => ∃ (fs : List Int) (y5 y6 : Option V), σ = [some (.ref d), some (.int n), some (.int k), some (.int sh), some (.ref fl), y5, y6] ∧ Go d H H' ∧ H' fl = some (.lst (fs.map V.int)) ∧ fs.Nodup ∧ fs.length ≤ i ∧ (∀ s ∈ fs, -1 ≤ s ∧ s < n) ∧ (0 < i → fs ≠ [])) ?_ ?_ ?_
  · exact ⟨[], none, none, rfl, gc, ef, List.nodup_nil, Nat.zero_le _, fun s h => (nomatch h), fun h => absurd h (by omega)⟩
  · rintro t σ H4 ht ⟨fs, y5, y6, rfl, g4, e4, hnd, hlen, hmem, hne⟩
    generalize hk3 : (0 : Int) + (t : Int) = k3
    refine ⟨_, rfl, _, rfl, d, n, rfl, g4.dr, hn0, fun x H5 g5 x0 x1 => ?_⟩
    have e5 := g5.fr fl _ nfl e4
    have g45 := g4.trans g5
    refine ⟨fun σ H' => ∃ x : Int, σ = [some (.ref d), some (.int n), some (.int k), some (.int sh), some (.ref fl), some (.int k3), some (.int x)] ∧ H' = H5 ∧ -1 ≤ x ∧ x < n, ?_, ?_⟩
    · refine ⟨_, rfl, rfl, _, rfl, ?_⟩
      refine ite2 (fun z => ?_) (fun z => ⟨x, rfl, rfl, by omega, x1⟩)
      refine ⟨_, rfl, _, _, rfl, rfl, _, rfl, _, _, rfl, rfl, ⟨by decide, by decide⟩, _, _, rfl, rfl, .inl ⟨_, rfl, _, rfl, _, _, rfl, rfl, hn0, ?_⟩⟩
      exact ⟨_, rfl, rfl, by have := Int.emod_nonneg (k + 1 + x / 3) (show n ≠ 0 by omega); omega, Int.emod_lt_of_pos _ hn0⟩
    rintro σ H6 ⟨x, rfl, rfl, x0, x1⟩
    refine ⟨fun σ H' => ∃ x : Int, σ = [some (.ref d), some (.int n), some (.int k), some (.int sh), some (.ref fl), some (.int k3), some (.int x)] ∧ H' = H6 ∧ -1 ≤ x ∧ x < n, ?_, ?_⟩
    · refine ⟨_, rfl, rfl, _, rfl, ?_⟩
      refine ite2 (fun z => ?_) (fun z => ⟨x, rfl, rfl, x0, x1⟩)
      refine ⟨_, rfl, _, rfl, .inl ⟨_, rfl, _, _, rfl, rfl, (by show (0 : Int) < 3; decide), _, _, rfl, rfl, _, _, rfl, ?_⟩⟩
      have m0 := Int.emod_nonneg x (show (3 : Int) ≠ 0 by decide)
      refine ⟨_, rfl, rfl, ?_, ?_⟩
      · show (-1 : Int) ≤ (if k - x % 3 > 0 then k - x % 3 else 0)
        split <;> omega
      · show (if k - x % 3 > 0 then k - x % 3 else 0) < n
        split <;> omega
    rintro σ H7 ⟨x, rfl, rfl, x0, x1⟩
    refine ⟨fun σ H' => ∃ x : Int, σ = [some (.ref d), some (.int n), some (.int k), some (.int sh), some (.ref fl), some (.int k3), some (.int x)] ∧ Go d H7 H' ∧ -1 ≤ x ∧ x < n, ?_, ?_⟩
    · refine ⟨_, rfl, rfl, _, rfl, ?_⟩
      refine ite2 (fun z => ?_) (fun z => iteF ⟨x, rfl, .refl g45.dr, x0, x1⟩)
      refine ⟨_, rfl, d, 14, rfl, g45.dr, by decide, fun y H8 g8 _ _ => ⟨rfl, _, rfl, ?_⟩⟩
      refine ite2 (fun z => ⟨_, rfl, -1, rfl, g8, by omega, by omega⟩) (fun z => ⟨x, rfl, g8, x0, x1⟩)
    rintro σ H8 ⟨x, rfl, g8, x0, x1⟩
    have e8 := g8.fr fl _ nfl e5
    have g48 := g45.trans g8
    refine ⟨_, rfl, _, rfl, fl, _, rfl, .inl (sqd e8), rfl, flat_ints' fs, _, rfl, ?_⟩
    by_cases hin : x ∈ fs
    · refine ifF (by rw [notIn_int, decide_eq_true hin] <;> rfl) ?_
      exact ⟨fs, _, _, rfl, g48, e8, hnd, by omega, hmem, fun _ e => by rw [e] at hin; cases hin⟩
    · refine ifT (by rw [notIn_int, decide_eq_false hin] <;> rfl) ?_
      refine ⟨_, rfl, .inl ⟨rfl, _, sqd e8⟩, _, rfl, fl, _, _, rfl, rfl, e8, big' (by rw [List.length_map]; omega), ?_⟩
      refine ⟨fs ++ [x], _, _, rfl, g48.put2 hfl nfl, by rw [upd_same, List.map_append]; rfl, ?_, ?_, ?_, fun _ => by simp⟩
      · exact List.nodup_append.mpr ⟨hnd, by simp, fun a ha b hb e => hin (by rw [← List.mem_singleton.mp hb, ← e]; exact ha)⟩
      · rw [List.length_append]
        exact Nat.add_le_add_right hlen 1
      · intro s hs
        rcases List.mem_append.mp hs with hs | hs
        · exact hmem s hs
        · rw [List.mem_singleton.mp hs]
          exact ⟨x0, x1⟩
  · rintro σ H4 ⟨fs, y5, y6, rfl, g4, e4, hnd, hlen, hmem, hne⟩
    have hfl64 : fs.length ≤ 4 := by omega
    refine ⟨_, rfl, fl, fs, rfl, sqd e4, by omega, fun ns q1 hperm hpw hq1 => ?_⟩
    obtain ⟨Hd, ed, sd, kd⟩ := newH hq1 (.lst (ns.map V.int))
    rw [ed]
    refine ⟨q1, _, rfl, .inl ⟨sqd kd, fun t2 ht2 => ?_⟩⟩
    have gd := g4.trans (.same g4.dr sd)
    refine q t2 ns _ (gd.trans (Go.new gd.dr ht2)) (gd.free ht2) upd_same ⟨fun e => ?_, by have := hperm.length_eq; omega, fun s hs => hmem s (hperm.mem_iff.mp hs), asc_of hperm hnd hpw⟩
    rw [e] at hperm
    exact hne (by omega) hperm.symm.eq_nil
/-! ### _law_arena -/
def spArena : Sp := fun vs H Q _ => ∃ (d : Addr) (most : Int), vs = [.ref d, .int most] ∧ Dr H d ∧ 0 ≤ most ∧ most ≤ 45 ∧ ∀ v A H', Go d H H' → ArIn H' A v → ArG A → (A.length : Int) ≤ most → Q v H'
theorem ok_law_arena (T : Txt K mg) : FnOk P w K mg base CX0 3 T.a_law_arena T.d_law_arena P_law_arena spArena := by
  have G_law_take := ok_law_take (P := P) (w := w) (base := base) T
  have G_law_option := ok_law_option (P := P) (w := w) (base := base) T
  refine T.F_law_arena.ok sc_law_arena (fun vs H Q E h => ?_) (fun cdv A outer s H vs Q E hr h => ?_)
  · obtain ⟨d, most, rfl, _⟩ := h
    rfl
  obtain ⟨d, most, rfl, hD, m0, m1, q⟩ := h
  refine ⟨_, (pss_cons (ps_set (i := 2) sc_law_arena.nd rfl (Or.inr rfl) (pe_call G_law_take (hr.mono (by omega)) (by rfl) T.m_law_take T.F_law_take.kp T.b_law_take .nil pass0 (pa_cons (pv 0) (pa_cons (pe_op op_add (pv 1) pe_int) pa_nil))))
    (pss_cons (ps_set (i := 3) sc_law_arena.nd rfl (Or.inr rfl) (pe_call G_law_take (hr.mono (by omega)) (by rfl) T.m_law_take T.F_law_take.kp T.b_law_take .nil pass0 (pa_cons (pv 0) (pa_cons pe_int pa_nil))))
    (pss_cons (ps_set (i := 4) sc_law_arena.nd rfl (Or.inl rfl) (pe_lst pa_nil))
    (pss_cons (ps_for  PassesOwn.never rfl (pi_range1 (by rfl) T.z_range (pa_cons (pv 2) pa_nil)) (pg_name (i := 5) sc_law_arena.nd rfl (Or.inr rfl))
    (pss_cons (ps_set (i := 6) sc_law_arena.nd rfl (Or.inl rfl) (pe_ix ix_list (pe_lst (pa_cons pe_int (pa_cons pe_int (pa_cons pe_int (pa_cons pe_int (pa_cons pe_int (pa_cons pe_int pa_nil))))))) (pe_call G_law_take (hr.mono (by omega)) (by rfl) T.m_law_take T.F_law_take.kp T.b_law_take .nil pass0 (pa_cons (pv 0) (pa_cons pe_int pa_nil))) (fun _ _ => rfl)))
    (C8.pss_cut (ps_if (pt_cmpR op_gt (pv 3) pe_int (nomark _))
    (pss_one (ps_set (i := 6) sc_law_arena.nd rfl (Or.inl rfl) (pe_callB (call_max2 rfl) (by rfl) T.z_max (by decide +kernel) (pa_cons pe_int (pa_cons (pv 6) pa_nil)))))
    pss_nil)
    (pss_one (ps_expr (pe_bm PySem.F.plainAttrs_list PySem.F.slot_list_append PySem.F.type_list_append mt_append (pv 4) (pa_cons (pe_callTy call_tuple_of (by rfl) T.z_tuple (by decide +kernel) (pa_cons (pe_lc (own := [("j", 7)]) (g := (gName 7)) (tt := tYes) rfl sc_law_arena.nd (pi_range1 (by rfl) T.z_range (pa_cons (pv 6) pa_nil)) (blkOk_by (N := N_law_arena) (sc := defScope s_law_arena) (by decide +kernel)) (fun _ _ _ _ _ => (pg_name (i := 7) sc_law_arena.nd rfl (Or.inl rfl))) (fun _ _ _ _ _ => pts_nil) (fun _ _ _ _ _ => (pe_call G_law_option (hr.mono (by omega)) (by rfl) T.m_law_option T.F_law_option.kp T.b_law_option .nil pass0 (pa_cons (pv 0) (pa_cons (pv 2) (pa_cons (pv 5) (pa_cons (pv 3) pa_nil))))))) pa_nil)) pa_nil)))))))
    (C8.pss_cut (ps_if (PW.pt (pw_and (pt_cmpR op_gt (pv 2) pe_int (nomark _)) (pw_and1 (pt_cmpR op_eq (pe_call G_law_take (hr.mono (by omega)) (by rfl) T.m_law_take T.F_law_take.kp T.b_law_take .nil pass0 (pa_cons (pv 0) (pa_cons pe_int pa_nil))) pe_int (nomark _)))))
    (pss_cons (ps_set (i := 8) sc_law_arena.nd rfl (Or.inr rfl) (pe_call G_law_take (hr.mono (by omega)) (by rfl) T.m_law_take T.F_law_take.kp T.b_law_take .nil pass0 (pa_cons (pv 0) (pa_cons (pv 2) pa_nil))))
    (pss_cons (ps_setLc (i := 9) (own := [("j", 7)]) (g := (gName 7)) (tt := tYes) rfl sc_law_arena.nd rfl rfl (sw_true rfl rfl rfl (by decide +kernel)) (pi_range1 (by rfl) T.z_range (pa_cons (pe_op op_add pe_int (pe_call G_law_take (hr.mono (by omega)) (by rfl) T.m_law_take T.F_law_take.kp T.b_law_take .nil pass0 (pa_cons (pv 0) (pa_cons pe_int pa_nil)))) pa_nil)) (blkOk_by (N := N_law_arena) (sc := defScope s_law_arena) (by decide +kernel)) (fun _ _ _ _ _ => (pg_name (i := 7) sc_law_arena.nd rfl (Or.inl rfl))) (fun _ _ _ _ _ => pts_nil) (fun _ _ _ _ _ => (pe_call G_law_option (hr.mono (by omega)) (by rfl) T.m_law_option T.F_law_option.kp T.b_law_option .nil pass0 (pa_cons (pv 0) (pa_cons (pv 2) (pa_cons (pv 8) (pa_cons (pv 3) pa_nil)))))))
    (pss_cons (ps_set (i := 10) sc_law_arena.nd rfl (Or.inl rfl) (pe_tupRg rfl (by rfl) T.z_tuple (prg_2 (by rfl) T.z_range (pe_op op_mul (pe_un un_neg (pe_call G_law_take (hr.mono (by omega)) (by rfl) T.m_law_take T.F_law_take.kp T.b_law_take .nil pass0 (pa_cons (pv 0) (pa_cons pe_int pa_nil)))) (pe_callTy call_int1 (by rfl) T.z_int (by decide +kernel) (pa_cons (pe_cmpR op_ne (pv 3) pe_int (nomark _)) pa_nil))) (pv 2))))
    (pss_one (ps_asg (pe_op op_catA (pe_op op_catA (pe_ix ix_list (pv 4) (pv 8) (fun _ _ => rfl)) (pe_callTy call_tuple_of (by rfl) T.z_tuple (by decide +kernel) (pa_cons (pv 9) pa_nil))) (pe_tup (pa_cons (pv 10) pa_nil))) (pg_sub (pv 4) (pv 8) set_list))))))
    pss_nil)
    (pss_one (ps_ret (pe_callTy call_tuple_of (by rfl) T.z_tuple (by decide +kernel) (pa_cons (pv 4) pa_nil))))))))), ?_⟩
  refine ⟨_, rfl, _, rfl, _, _, rfl, rfl, d, _, rfl, hD, by omega, fun n H1 g1 n0 n1 => ?_⟩
  have n45 : n ≤ 45 := by
    have : n < most + 1 := n1
    omega
  refine ⟨_, rfl, d, 5, rfl, g1.dr, by decide, fun sh H2 g2 _ _ => ?_⟩
  have g12 := g1.trans g2
  refine ⟨Nat.zero_le _, fun p hp => ?_⟩
  have hpd := new_ne g12.dr hp
  have hp0 := g12.free hp
  obtain ⟨H3, e3, s3, k3⟩ := newH hp (.lst [])
  rw [e3]
  have g13 := g12.trans (.same g12.dr s3)
  refine ⟨_, rfl, n, rfl, by omega, by omega, for_range (lo := 0) (n := n.toNat) (fun (j : Nat) (σ : L2.St) (H' : Hp) => ∃ (xs : List V) (A' : Ar) (y5 y6 : Option V), σ = [some (.ref d), some (.int most), some (.int n), some (.int sh), some (.ref p), y5, y6, none, none, none, none] ∧ Go d H H' ∧ H' p = some (.lst xs) ∧ Each (PosIn H') A' xs ∧ A'.length = j ∧ ∀ os ∈ A', os.length ≤ 3 ∧ PosG n os) ?_ ?_ ?_⟩
  · exact ⟨[], [], none, none, rfl, g13, k3, .nil, rfl, fun os h => nomatch h⟩
  · rintro j σ H4 hj ⟨xs, A', y5, y6, rfl, g4, e4, hxs, hA, hG⟩
    have hn0 : 0 < n := by omega
    have hk1 : (0 : Int) + (j : Int) < n := by omega
    have hk0 : (0 : Int) ≤ 0 + (j : Int) := by omega
    generalize hk : (0 : Int) + (j : Int) = k at hk0 hk1 ⊢
    refine ⟨Nat.le_of_ble_eq_true rfl, fun l5 hl5 => ?_⟩
    obtain ⟨H5, e5, s5, k5⟩ := newH hl5 (.lst [.int 0, .int 1, .int 1, .int 2, .int 2, .int 3])
    rw [e5]
    have ga := Go.same g4.dr s5
    refine ⟨_, rfl, d, 6, rfl, ga.dr, by decide, fun u H6 g6 u0 u1 => ?_⟩
    obtain ⟨mf, hmf, hmfm⟩ := atI_map (f := V.int) (xs := ([0, 1, 1, 2, 2, 3] : List Int)) u0 u1
    have hmf3 : 0 ≤ mf ∧ mf ≤ 3 := by
      simp only [List.mem_cons, List.not_mem_nil, or_false] at hmfm
      omega
    refine ⟨l5, _, _, _, rfl, rfl, sqd (g6.fr l5 _ (new_ne g4.dr hl5) k5), hmf, ?_⟩
    have g46 := ga.trans g6
    have e6 := g46.fr p _ hpd e4
    refine ⟨fun σ H' => ∃ m : Int, σ = [some (.ref d), some (.int most), some (.int n), some (.int sh), some (.ref p), some (.int k), some (.int m), none, none, none, none] ∧ H' = H6 ∧ 0 ≤ m ∧ m ≤ 3, ?_, ?_⟩
    · refine ⟨_, rfl, _, _, rfl, rfl, _, rfl, ?_⟩
      refine ite2 (fun z => ?_) (fun z => ⟨mf, rfl, rfl, hmf3.1, hmf3.2⟩)
      refine ⟨_, rfl, _, _, rfl, ?_⟩
      refine ⟨_, rfl, rfl, ?_, ?_⟩
      · show (0 : Int) ≤ (if mf > 1 then mf else 1)
        split <;> omega
      · show (if mf > 1 then mf else 1) ≤ (3 : Int)
        split <;> omega
    rintro σ H7 ⟨m, rfl, rfl, m0', m3⟩
    refine ⟨_, rfl, .inl ⟨rfl, _, sqd e6⟩, _, rfl, m, rfl, by omega, by omega, fun D hD' => ?_⟩
    have nDd := new_ne g46.dr hD'
    have s7 := same_new hD' (.lst [])
    refine lc_range (lo := 0) (n := m.toNat) (fun (i : Nat) (H' : Hp) => ∃ (zs : List V) (os : Pos'), Go d H7 H' ∧ H' D = some (.lst zs) ∧ Each (OptIn H') os zs ∧ os.length = i ∧ ∀ o ∈ os, OptG n o) ?_ ?_ ?_
    · exact ⟨[], [], .same g46.dr s7, upd_same, .nil, rfl, fun o h => nomatch h⟩
    · rintro i H' hi ⟨zs, os, gj, ej, hzs, hos, hoG⟩
      refine ⟨rfl, yes_if ?_⟩
      refine ⟨_, rfl, _, rfl, _, rfl, _, rfl, d, n, k, sh, rfl, gj.dr, hk0, hk1, n45, fun t o H8 g8 ht et og => ?_⟩
      have ej8 := g8.fr D _ nDd ej
      have ntD : t ≠ D := fun e => by
        rw [e, ej] at ht
        cases ht
      refine ⟨zs, ej8, big' (by have := hzs.1; omega), zs ++ [.ref t], os ++ [o], (gj.trans g8).put2 hD' nDd, upd_same, ?_, by rw [List.length_append, hos]; rfl, ?_⟩
      · refine (hzs.mono fun o x => OptIn.tp (tp_put (g8.tp gj.dr) ej8)).snoc ⟨t, rfl, ?_⟩
        rw [upd_ne ntD]
        exact et
      · intro o' ho'
        rcases List.mem_append.mp ho' with ho' | ho'
        · exact hoG o' ho'
        · rw [List.mem_singleton.mp ho']
          exact og
    · rintro H8 ⟨zs, os, gj, ej, hzs, hos, hoG⟩
      refine ⟨D, _, rfl, .inl ⟨sqd ej, fun t ht => ?_⟩⟩
      have st := same_new ht (.tup zs)
      have ejp := gj.fr p _ hpd e6
      have ept := st _ _ ejp
      have hxl := hxs.1
      have ntp : t ≠ p := fun e => by
        rw [e, ejp] at ht
        cases ht
      refine ⟨p, xs, _, rfl, rfl, ept, big' (by omega), ?_⟩
      have gall := (g4.trans g46).trans gj
      have tpx : Tp H4 (upd (upd H8 t (.tup zs)) p (.lst (xs ++ [.ref t]))) := tp_put (((g46.trans gj).tp g4.dr).trans (Tp.same st)) ept
      refine ⟨xs ++ [.ref t], A' ++ [os], _, _, rfl, (gall.trans (.same gall.dr st)).put2 hp0 hpd, upd_same, ?_, by rw [List.length_append, hA]; rfl, ?_⟩
      · refine (hxs.mono fun o x => PosIn.tp tpx).snoc ⟨t, zs, rfl, ?_, hzs.mono fun o x => OptIn.tp (tp_put (Tp.same st) ept)⟩
        rw [upd_ne ntp]
        exact upd_same
      · intro o ho
        rcases List.mem_append.mp ho with ho | ho
        · exact hG o ho
        · rw [List.mem_singleton.mp ho]
          exact ⟨by omega, by omega, hoG⟩
  · rintro σ H4 ⟨xs, A', y5, y6, rfl, g4, e4, hxs, hA, hG⟩
    refine ⟨fun σ H' => ∃ (xs : List V) (A' : Ar) (y5 y6 y8 y9 y10 : Option V), σ = [some (.ref d), some (.int most), some (.int n), some (.int sh), some (.ref p), y5, y6, none, y8, y9, y10] ∧ Go d H H' ∧ H' p = some (.lst xs) ∧ Each (PosIn H') A' xs ∧ A'.length = n.toNat ∧ ∀ os ∈ A', PosG n os, ?_, ?_⟩
    · refine ⟨_, rfl, _, _, rfl, rfl, _, rfl, ?_⟩
      refine ite2 (fun z => ?_) (fun z => iteF ⟨xs, A', _, _, _, _, _, rfl, g4, e4, hxs, hA, fun os h => (hG os h).2⟩)
      have hn0 : 0 < n := of_decide_eq_true z
      refine ⟨_, rfl, d, 8, rfl, g4.dr, by decide, fun u5 H9 g9 _ _ => ⟨rfl, _, rfl, ?_⟩⟩
      have e9 := g9.fr p _ hpd e4
      have hxs9 := hxs.mono fun o x => PosIn.tp (g9.tp g4.dr)
      have gg := g4.trans g9
      refine ite2 (fun z => ?_) (fun z => ⟨xs, A', _, _, _, _, _, rfl, gg, e9, hxs9, hA, fun os h => (hG os h).2⟩)
      refine ⟨_, rfl, _, rfl, d, n, rfl, g9.dr, hn0, fun at_ H10 g10 t0 t1 => ?_⟩
      refine ⟨_, rfl, d, 4, rfl, g10.dr, by decide, fun u H11 g11 u0 u1 => ⟨_, _, rfl, rfl, _, rfl, by omega, by omega, fun D hD' => ?_⟩⟩
      have nDd := new_ne g11.dr hD'
      have s11 := same_new hD' (.lst [])
      have g911 := g10.trans g11
      refine lc_range (lo := 0) (n := (4 + u).toNat) (fun (i : Nat) (H' : Hp) => ∃ (zs : List V) (os : Pos'), Go d H11 H' ∧ H' D = some (.lst zs) ∧ Each (OptIn H') os zs ∧ os.length = i ∧ ∀ o ∈ os, OptG n o) ?_ ?_ ?_
      · exact ⟨[], [], .same g11.dr s11, upd_same, .nil, rfl, fun o h => nomatch h⟩
      · rintro i H' hi ⟨zs, os, gj, ej, hzs, hos, hoG⟩
        refine ⟨rfl, yes_if ?_⟩
        refine ⟨_, rfl, _, rfl, _, rfl, _, rfl, d, n, at_, sh, rfl, gj.dr, t0, t1, n45, fun t o H8 g8 ht et og => ?_⟩
        have ej8 := g8.fr D _ nDd ej
        have ntD : t ≠ D := fun e => by
          rw [e, ej] at ht
          cases ht
        refine ⟨zs, ej8, big' (by have := hzs.1; omega), zs ++ [.ref t], os ++ [o], (gj.trans g8).put2 hD' nDd, upd_same, ?_, by rw [List.length_append, hos]; rfl, ?_⟩
        · refine (hzs.mono fun o x => OptIn.tp (tp_put (g8.tp gj.dr) ej8)).snoc ⟨t, rfl, ?_⟩
          rw [upd_ne ntD]
          exact et
        · intro o' ho'
          rcases List.mem_append.mp ho' with ho' | ho'
          · exact hoG o' ho'
          · rw [List.mem_singleton.mp ho']
            exact og
      · rintro H12 ⟨zs, os, gj, ej, hzs, hos, hoG⟩
        refine ⟨_, rfl, d, 2, rfl, gj.dr, by decide, fun v H13 g13' v0 v1 => ⟨_, rfl, _, rfl, rfl, .inr ⟨_, rfl, _, _, rfl, rfl, .inl ⟨by omega, by omega⟩, _, rfl, _, _, rfl, rfl, ?_⟩⟩⟩
        have low : -1 ≤ -v * (if (!decide (V.int sh = V.int 3)) = true then (1 : Int) else 0) ∧ -v * (if (!decide (V.int sh = V.int 3)) = true then (1 : Int) else 0) ≤ 0 := by
          split <;> omega
        generalize hlo : -v * (if (!decide (V.int sh = V.int 3)) = true then (1 : Int) else 0) = lo at low
        have hgoal : RgOk lo n := ⟨by omega, by omega, by omega, by omega, by omega⟩
        have og1 := rg_good low.1 low.2 hn0 (by omega)
        have er := rg_ints lo n
        generalize (List.range (n - lo).toNat).map (fun i : Nat => lo + (i : Int)) = o1 at og1 er
        refine ⟨hgoal, fun q1 hq1 => ?_⟩
        rw [er]
        obtain ⟨Ha, ea, sa, ka⟩ := newH hq1 (.tup (o1.map V.int))
        rw [ea]
        have gx := gj.trans g13'
        have g9a : Go d H9 Ha := (g911.trans gx).trans (.same gx.dr sa)
        have eap := g9a.fr p _ hpd e9
        have hxa := hxs9.mono fun o x => PosIn.tp (g9a.tp g9.dr)
        obtain ⟨os0, x0, hos0, hat, hin⟩ := hxa.atI t0 (by rw [hA]; omega)
        obtain ⟨b0, zs0, rfl, eb0, hzs0⟩ := hin
        have hG0 := hG os0 (List.mem_of_getElem? hos0)
        have eDa := sa _ _ (g13'.fr D _ nDd ej)
        have hza := hzs.mono fun o x => OptIn.tp ((g13'.tp gj.dr).trans (Tp.same sa))
        refine ⟨_, rfl, _, rfl, p, _, _, _, rfl, rfl, sqd eap, hat, _, rfl, D, _, rfl, .inl ⟨sqd eDa, fun t2 ht2 => ?_⟩⟩
        obtain ⟨He, ee, se, ke⟩ := newH ht2 (.tup zs)
        rw [ee]
        have l0 := hzs0.1
        have l1 := hzs.1
        refine catA_of (se _ _ eb0) ke (by have := hG0.1; omega) fun pc Hf sf ef => ?_
        refine ⟨_, rfl, Nat.le_of_ble_eq_true rfl, fun t3 ht3 => ?_⟩
        obtain ⟨Hg, eg, sg, kg⟩ := newH ht3 (.tup [.ref q1])
        rw [eg]
        refine catA_of (sg _ _ ef) kg (by rw [List.length_append, List.length_singleton]; have := hG0.1; omega) fun ps Hh sh' eh => ?_
        have sea := ((se.trans sf).trans sg).trans sh'
        have ehp := sea _ _ eap
        have nps : ps ≠ p := fun e => by
          rw [e, ehp] at eh
          cases eh
        refine ⟨_, rfl, _, rfl, p, _, _, _, rfl, rfl, ehp, ixN_in t0 (by rw [hxa.1, hA]; omega), ?_⟩
        have tpp : Tp Ha (upd Hh p (.lst (xs.set at_.toNat (.ref ps)))) := tp_put (Tp.same sea) ehp
        have hgg := gg.trans (g9a.trans (.same g9a.dr sea))
        refine ⟨xs.set at_.toNat (.ref ps), A'.set at_.toNat (os0 ++ os ++ [o1]), _, _, _, _, _, rfl, hgg.put2 hp0 hpd, upd_same, ?_, by rw [List.length_set]; exact hA, ?_⟩
        · refine (hxa.mono fun o x => PosIn.tp tpp).set _ ⟨ps, zs0 ++ zs ++ [.ref q1], rfl, ?_, ?_⟩
          · rw [upd_ne nps]
            exact eh
          · exact ((hzs0.app hza).snoc ⟨q1, rfl, ka⟩).mono fun o x => OptIn.tp tpp
        · intro o ho
          rcases List.mem_or_eq_of_mem_set ho with ho | rfl
          · exact (hG o ho).2
          · refine ⟨by rw [List.length_append, List.length_append, List.length_singleton]; have := hG0.1; omega, fun w hw => ?_⟩
            rcases List.mem_append.mp hw with hw | hw
            · rcases List.mem_append.mp hw with hw | hw
              · exact hG0.2.2 w hw
              · exact hoG w hw
            · rw [List.mem_singleton.mp hw]
              exact og1
    rintro σ H8 ⟨xs, A', y5, y6, y8, y9, y10, rfl, g8, e8, hxs, hA, hG⟩
    refine ⟨_, rfl, p, xs, rfl, .inl ⟨sqd e8, fun t ht => ?_⟩⟩
    have st := same_new ht (.tup xs)
    refine q _ A' _ (g8.trans (.same g8.dr st)) ⟨t, xs, rfl, upd_same, hxs.mono fun os x => PosIn.tp (.same st)⟩ ⟨by omega, fun os h => ?_⟩ (by have := of_decide_eq_true (decide_eq_true hA); omega)
    rw [show (A'.length : Int) = n by omega]
    exact hG os h
end
end NL

namespace NL
open PySem PySem.Spec PyProof.Rows L2
/-! ### a text times a number -/
theorem op_mulS {X : Cx} : OpR X (binaryOp .Mult) (fun x y H Q => ∃ (z : Str) (k : Int), x = .str z ∧ y = .int k ∧ z.length ≤ 16 ∧ 0 ≤ k ∧ k ≤ 1000 ∧ ((Txt.mul z k).length = z.length * k.toNat → Q (.str (Txt.mul z k)) H)) := by
  intro pins s σ H x y v u Q I rx ry h
  obtain ⟨z, k, rfl, rfl, hz, h0, h1, q⟩ := h
  obtain ⟨t, rfl⟩ := rx
  obtain ⟨t', rfl⟩ := ry
  refine PySem.W.KXi.mul rfl hz (by omega) (by omega) fun t' tk _ hl => ⟨.str (Txt.mul z k), H, I.tok _, ⟨_, rfl⟩, q ?_⟩
  have e := hl h0
  have e2 : k = ((k.toNat : Nat) : Int) := by omega
  rw [e2] at e
  have : ((z.length : Int) * ((k.toNat : Nat) : Int)) = ((z.length * k.toNat : Nat) : Int) := by push_cast; rfl
  rw [this] at e
  have e3 := Int.ofNat.inj e
  rw [← e2] at e3
  exact e3
def abc : Str := "abcdefghijklmnopqrstuvwxyz"
theorem abc_at {i : Int} (h0 : 0 ≤ i) (h1 : i < 26) : ∃ c, atI abc.cps.toList i = some c ∧ 97 ≤ c ∧ c ≤ 122 := by
  have hl : abc.cps.toList.length = 26 := by decide +kernel
  obtain ⟨c, h, m⟩ := atI_mem (xs := abc.cps.toList) h0 (by rw [hl]; exact h1)
  have hall : ∀ c ∈ abc.cps.toList, 97 ≤ c ∧ c ≤ 122 := by decide +kernel
  exact ⟨c, h, hall c m⟩
section
variable {P : Program} {w : World} {K : PySem.W.Frag} {mg : Str → Option Value} {base : Heap}
/-! ### _law_cell -/
def spCell (K : PySem.W.Frag) : Sp := fun vs H Q _ => ∃ (a d : Addr) (ns : List Int), vs = [.ref a, .ref d] ∧ Keep K d H a (ns.map V.int) ∧ Dr H d ∧ ∀ r H', Go d H H' → (r = 0 ∨ r ∈ ns) → Q (.int r) H'
/-! ### _law_word -/
def spWord : Sp := fun vs H Q _ => ∃ i : Int, vs = [.int i] ∧ ∀ z : Str, Wd z → z.length ≤ 60 → (1 ≤ i → 0 < z.length) → Q (.str z) H
end
end NL

set_option maxHeartbeats 4000000
namespace NL
open PySem PySem.Spec PyProof.Rows L2
/-! ### enumerate of a tuple -/
theorem draws_tup {P : Program} {w : World} {A : Around} (cold : A.handled = none) (j l : Addr) (apart : l ≠ j) (vs : Array Value) : Draws P w A j [j, l] vs.size (fun i v => vs[i]? = some v) (fun i h => h.IsTupleIter j l i ∧ h.IsTuple l vs) where
  live := fun _ _ st => by
    obtain ⟨⟨o, ho, _⟩, _⟩ := st
    exact ⟨o, ho⟩
  frame := fun _ _ _ st hold => by
    obtain ⟨st1, o, ho, hr⟩ := st
    exact ⟨st1.at fun ob e => hold j (by simp) ob e, o, hold l (by simp) o ho, hr⟩
  item := fun i s Q E hi st hQ => by
    refine RZ.nextOf_tuple_item st.1 st.2 (x := vs[i]) (by simp [hi]) fun g st1 sb => ?_
    refine hQ _ g s.toks (by simp [hi]) ⟨st1, ?_⟩ sb
    obtain ⟨o, ho, hr⟩ := st.2
    exact ⟨o, (sb.2 l apart).trans ho, hr⟩
  done := fun s Q E st hE => RZ.nextOf_tuple_end cold st.1 st.2 (by simp) hE
theorem enum_newT (l : Addr) (vs : Array Value) :
    Meets (Builtin.«enumerate.__new__» ⟨[.type "enumerate", .ref l], []⟩) (fun _ R s => s.heap.IsTuple l vs ∧
      R (.ok (.ret (.ref (s.heap.push { cls := .type "tuple_iterator", data := .fields #[.ref l, .int 0 0] }).objs.size)))
        { s with heap := (s.heap.push { cls := .type "tuple_iterator", data := .fields #[.ref l, .int 0 0] }).push { cls := .type "enumerate", data := .fields #[.none, .bool false, .ref s.heap.objs.size, rawInt 0, .none, .none] } }) :=
  .of_wp fun P w A R s r => by
    obtain ⟨hp, gs, dr, tk, os⟩ := s
    obtain ⟨tu, r⟩ := r
    have hsub := sub_enumerate
    have T2 : Heap.IsTuple (Shared.heap ⟨hp, gs, dr, tk, os⟩) l vs := tu
    obtain ⟨⟨c, dct, dt, sl⟩, hl, hc, n, hd⟩ := tu
    replace hc : c = .type "tuple" := hc
    replace hd : dt = .seq vs n := hd
    subst hc hd
    wp_walk using AutoSeq1.wpAny_loadPart' hl
    refine wpAny_stack_any fun st => wpAny_pure ?_
    split
    · rename_i c2 _ _ _ _ _
      cases (c2 == Value.type "enumerate")
      · wp_walk using AutoSeq1.wpAny_loadPart' hl, wpAny_pyIter_tuple T2
        exact ⟨_, rfl, r⟩
      · wp_walk using AutoSeq1.wpAny_loadPart' hl, wpAny_pyIter_tuple T2
        exact ⟨_, rfl, r⟩
    · wp_walk using AutoSeq1.wpAny_loadPart' hl, wpAny_pyIter_tuple T2
      exact ⟨_, rfl, r⟩
theorem enum_callT {P : Program} {w : World} {A : Around} {E : Value → Shared → Prop} {s : Shared} {l : Addr} {vs : Array Value} {Q : Value → Shared → Prop} (tu : s.heap.IsTuple l vs)
    (k : ∀ g, IsEnum g (s.heap.objs.size + 1) s.heap.objs.size 0 .none → g.IsTupleIter s.heap.objs.size l 0 → (∀ b o, s.heap.get? b = some o → g.get? b = some o) → Q (.ref (s.heap.objs.size + 1)) { s with heap := g }) :
    wpAny (model P w) A (call (.type "enumerate") [.ref l]) Q E s := by
  refine callType_new F.called_enumerate (by decide) (F.typeCall_enumerate_1 _) (F.newCall_enumerate_1 _) (fun ob => F.args_object_init_2 ob _) F.entry_enumerate_new (enum_newT l vs) ⟨tu, ?_⟩
  have sz : (s.heap.push { cls := .type "tuple_iterator", data := .fields #[.ref l, .int 0 0] }).objs.size = s.heap.objs.size + 1 := Heap.size_push ..
  show _ ∧ _
  rw [sz]
  have isE : IsEnum ((s.heap.push { cls := .type "tuple_iterator", data := .fields #[.ref l, .int 0 0] }).push { cls := .type "enumerate", data := .fields #[.none, .bool false, .ref s.heap.objs.size, rawInt 0, .none, .none] }) (s.heap.objs.size + 1) s.heap.objs.size 0 .none := by
    have top := Heap.get?_push_size (s.heap.push { cls := .type "tuple_iterator", data := .fields #[.ref l, .int 0 0] }) (o := { cls := .type "enumerate", data := .fields #[.none, .bool false, .ref s.heap.objs.size, rawInt 0, .none, .none] }) rfl
    rw [sz] at top
    exact top
  exact ⟨⟨_, isE, rfl⟩, k _ isE ⟨_, Heap.get?_push_of_some _ (Heap.get?_push_size _ rfl), rfl, rfl⟩ fun b o e => Heap.get?_push_of_some _ (Heap.get?_push_of_some _ e)⟩
/-- the tuple at a, each item in a new pair with its number -/
def EtT (K : PySem.W.Frag) (a : Addr) : L2.It :=
  ⟨fun i H => ∃ (xs : List V) (x : V), SqT K H a xs ∧ xs[i]? = some x, fun i H v H' => ∃ t x, v = .ref t ∧ H t = none ∧ H' = upd H t (.tup [.int (i : Nat), x]) ∧ ∀ xs, SqT K H a xs → xs[i]? = some x, fun i H => ∃ xs : List V, SqT K H a xs ∧ xs.length ≤ i⟩
theorem turn_enumT {P : Program} {w : World} {K : PySem.W.Frag} {elts : List Expr} {kk : Nat} {tpos : Pos} (a e j : Addr) :
    Turn P w K (.Tuple elts kk tpos) (EtT K a) [e, j] e (fun i h => (∃ old, IsEnum h e j ((i : Nat) : Int) old) ∧ h.IsTupleIter j a i ∧ e ≠ j) where
  mem := List.mem_cons_self
  obj := by
    rintro i h ⟨⟨old, isE⟩, ⟨o, ho, hc, hd⟩, _⟩ b hb
    have hb2 : b = e ∨ b = j := by simpa using hb
    rcases hb2 with rfl | rfl
    · exact ⟨_, isE, fun v q => nomatch q⟩
    · exact ⟨o, ho, fun v q => by rw [hd] at q; cases q⟩
  keep := by
    rintro i h g ⟨⟨old, isE⟩, isT, ne⟩ hold
    exact ⟨⟨old, hold e (by simp) _ isE⟩, isT.at fun o q => hold j (by simp) o q, ne⟩
  item := by
    rintro X rfl rfl rfl hcalm i pins s σ H E hinv hfp ⟨⟨old, isE⟩, isT, ne⟩ ⟨xs, x, hq, hx⟩
    obtain ⟨its, rv, pt, hz⟩ := hinv.tuple hq
    have tu : s.heap.IsTuple a its.toArray := pt
    obtain ⟨u, hu, ru⟩ := rv.get hx
    have ha : a ≠ j := fun q => by
      obtain ⟨o, ho, hc, _⟩ := id isT
      obtain ⟨o2, ho2, hc2, _⟩ := id tu
      rw [q, ho] at ho2
      cases ho2
      rw [hc] at hc2
      exact absurd (Value.type.inj hc2) (by decide)
    have hea : e ≠ a := fun q => by
      obtain ⟨o2, ho2, hc2, _⟩ := id tu
      have isE2 : s.heap.get? e = some _ := isE
      have e3 := (congrArg s.heap.get? q).symm.trans isE2
      rw [ho2] at e3
      cases e3
      exact absurd (Value.type.inj hc2) (by decide)
    have hlt : i < its.toArray.size := by
      have := (List.getElem?_eq_some_iff.mp hu).1
      simpa using this
    have cold := hinv.ok.hd hcalm
    refine wpAny_pyNext_enum_itemD (draws_tup (A := X.A.in1) cold j a ha its.toArray) isE ⟨isT, tu⟩ hlt ne (by simp [ne, hea]) fun y g tk hy ho st1 hT hsz hold => ?_
    have hyu : y = u := by
      have h2 : its[i]? = some y := by simpa using hy
      rw [hu] at h2
      exact (Option.some.inj h2).symm
    subst hyu
    refine ⟨_, rfl, wpAny_letOwnedTupleGo_enum (s := { s with heap := g, toks := tk + 1 }) ho fun g2 isE2 sb => ?_⟩
    have hel : e < s.heap.objs.size := Heap.lt_size isE
    have hjl : j < s.heap.objs.size := by
      obtain ⟨_, q, _⟩ := id isT
      exact Heap.lt_size q
    have hT2 : g2.get? s.heap.objs.size = some { cls := .type "tuple", data := .seq #[.int i tk, y] } := (sb.2 _ (Nat.ne_of_gt hel)).trans hT
    have made : ObjOk X.prog X.w (upd H s.heap.objs.size (.tup [.int (i : Nat), x])) g2 s.heap.objs.size (.tup [.int (i : Nat), x]) :=
      ⟨by show 2 ≤ sizeLine; decide, [.int i tk, y], .cons ⟨_, rfl⟩ (.cons ru .nil), ⟨_, hT2, rfl, _, rfl⟩⟩
    have inv2 : Inv X pins σ (upd H s.heap.objs.size (.tup [.int (i : Nat), x])) { s with heap := g2, toks := tk + 1 } :=
      hinv.turnedNew (ch := [e, j]) (fun b ob hb q => (sb.2 b (fun z => hb (by simp [z]))).trans (hold b ob (fun z => hb (by simp [z])) (fun z => hb (by simp [z])) q)) hfp (Nat.le_refl _) made
    refine ⟨.ref s.heap.objs.size, _, inv2, rfl, ⟨_, x, rfl, hinv.hok.fresh (Nat.le_refl _), rfl, fun ys hy2 => by rw [hinv.tuple_inj hy2 hq]; exact hx⟩, ⟨⟨y, ?_⟩, st1.1.at fun o q => (sb.2 j (Ne.symm ne)).trans q, ne⟩, fun b hb => ?_⟩
    · have e1 : ((i + 1 : Nat) : Int) = (i : Int) + 1 := by omega
      rw [e1]
      exact isE2
    · have hb2 : b < s.heap.objs.size := by
        have z : b = e ∨ b = j := by simpa using hb
        rcases z with rfl | rfl
        · exact hel
        · exact hjl
      rw [upd_ne (Nat.ne_of_lt hb2)]
      exact (hfp b hb).1
  done := by
    rintro X rfl rfl rfl hcalm i pins s σ H E hinv hfp ⟨⟨old, isE⟩, isT, ne⟩ ⟨xs, hq, hx⟩
    obtain ⟨its, rv, pt, hz⟩ := hinv.tuple hq
    have tu : s.heap.IsTuple a its.toArray := pt
    have hT : s.TypeIs (.ref e) "enumerate" := ⟨_, isE, rfl⟩
    obtain ⟨f0, f1, f2, f3, f4, f5⟩ := hfp j (by simp)
    have hl := rv.length
    have cold := hinv.ok.hd hcalm
    unfold pyNext
    refine wpAny_bind (wpAny_attempt (wpAny_callSpecial?_slot (name := Str.ofString "__next__") hT F.slot_enumerate_next
      (wpAny_call_entry F.slot_enumerate_next hT F.entry_enumerate_next ?_ (F.args_enumerate_next_1 _))))
    show wpAny _ _ (field (.ref e) 2 >>= _) _ _ _
    refine wpAny_bind (wpAny_field isE rfl (x := .ref j) rfl (wpAny_bind (RZ.nextOf_tuple_end cold isT tu (by simp; omega) fun g x eb ⟨o, ho, hc⟩ => ?_)))
    refine wpAny_bind (wpAny_isInstance (T := "StopIteration") (b := true) ⟨o, ho, hc⟩ isSubtype_stop (wpAny_pure ⟨rfl, hinv.turned (t' := s.toks) (fun b o hb q => eb b o hb q) f0 f1 f3 f4 f5⟩))
  self := by
    rintro A i s Q E ⟨⟨_, isE⟩, _⟩ h
    exact wpAny_pyIter_enum isE h
def iEnumT (K : PySem.W.Frag) (ta : TA) : TI := fun σ H R => ta σ H fun vs H1 => ∃ a xs, vs = [.ref a] ∧ SqT K H1 a xs ∧ R (EtT K a) H1
theorem pi_enumT {X : Cx} {ex : Expr} {ta : TA} {p pos tpos : Pos} {elts : List Expr} {kk : Nat} (hg : Gl X "enumerate") (hm : X.mg "enumerate" = none) (ha : PA X [ex] ta) (hs : starEach [ex] X.env = [(false, eval ex X.env)] := by rfl) :
    PI X (.Tuple elts kk tpos) (.Call (.Name "enumerate" p) [ex] [] pos) (iEnumT X.K ta) := by
  refine ⟨fun pins s σ H R hinv h => ?_⟩
  refine Call_ (ld_blt hinv hg hm boot_enumerate (PyProof.Rows.callWith_type1 (thn (ha.run pos pins s σ H _ hinv h) fun us s1 ⟨vs, H1, inv1, hv, q1⟩ => ?_) hs rfl))
  obtain ⟨a, xs, rfl, hq, q⟩ := q1
  cases hv with
  | cons r rest =>
    cases rest
    cases r
    obtain ⟨its, rv, pt, hz⟩ := inv1.tuple hq
    refine enum_callT (show s1.heap.IsTuple a its.toArray from pt) fun g isE isT hold => wpAny_pyIter_enum isE ?_
    have inv2 : Inv X pins σ H1 { s1 with heap := g } := inv1.kept (t' := s1.toks) hold
    refine ⟨s1.heap.objs.size + 1, [s1.heap.objs.size + 1, s1.heap.objs.size], _, _, H1, rfl, inv2, turn_enumT a (s1.heap.objs.size + 1) s1.heap.objs.size, ⟨⟨.none, isE⟩, isT, Nat.succ_ne_self _⟩, fun b hb => ?_, q⟩
    have hle : s1.heap.objs.size ≤ b := by
      have z : b = s1.heap.objs.size + 1 ∨ b = s1.heap.objs.size := by simpa using hb
      rcases z with z | z
      · rw [z]; exact Nat.le_succ _
      · rw [z]; exact Nat.le_refl _
    exact inv1.fpOk hle (inv1.hok.fresh hle)
theorem lc_enumT {K : PySem.W.Frag} {a : Addr} {xs : List V} {g : TG} {tt : TT} {te : TE} {vs : List Nat} {σ : L2.St} {H1 : Hp} {D : Addr} {Qd : Hp → Prop} (Pv : Nat → Hp → Prop) (h0 : Pv 0 (upd H1 D (.lst []))) (hq : ∀ i H, Pv i H → SqT K H a xs)
    (hs : ∀ (i : Nat) (x : V) (t : Addr) (H : Hp), xs[i]? = some x → Pv i H → H t = none → g (.ref t) (wipe σ vs) (upd H t (.tup [.int (i : Nat), x])) fun σ2 H2 => wipe σ2 vs = wipe σ vs ∧ tt σ2 H2 fun c H3 =>
      if c = true then te σ2 H3 fun z H4 => ∃ acc, H4 D = some (.lst acc) ∧ acc.length < sizeLine ∧ Pv (i + 1) (upd H4 D (.lst (acc ++ [z]))) else Pv (i + 1) H3) (hd : ∀ H, Pv xs.length H → Qd H) :
    ∃ W : Nat → Nat → Hp → Prop, (∃ m, W 0 m (upd H1 D (.lst []))) ∧ ∀ i m H, W i m H →
      ((EtT K a).stop i H ∧ Qd H) ∨ ((EtT K a).go i H ∧ ∃ Nx : Hp → Prop, (∀ H', Nx H' → ∃ m', m' < m ∧ W (i + 1) m' H') ∧ ∀ x H', (EtT K a).yld i H x H' → g x (wipe σ vs) H' fun σ2 H2 => wipe σ2 vs = wipe σ vs ∧ tt σ2 H2 fun c H3 =>
        if c = true then te σ2 H3 fun z H4 => ∃ acc, H4 D = some (.lst acc) ∧ acc.length < sizeLine ∧ Nx (upd H4 D (.lst (acc ++ [z]))) else Nx H3) := by
  refine ⟨fun i m H => m + i = xs.length ∧ Pv i H, ⟨xs.length, rfl, h0⟩, ?_⟩
  rintro i m H ⟨hi, p⟩
  have q := hq i H p
  by_cases lt : i < xs.length
  · have ex : xs[i]? = some xs[i] := List.getElem?_eq_getElem lt
    refine .inr ⟨⟨xs, _, q, ex⟩, Pv (i + 1), fun H' p' => ⟨m - 1, by omega, by omega, p'⟩, fun v H' y => ?_⟩
    obtain ⟨t, x1, rfl, ht, rfl, f1⟩ := y
    exact hs i x1 t H (f1 xs q) p ht
  · have e : i = xs.length := by omega
    subst e
    exact .inl ⟨⟨xs, q, Nat.le_refl _⟩, hd H p⟩
end NL

set_option maxHeartbeats 4000000
namespace NL
open PySem PySem.Spec PyProof.Rows L2
theorem pi_tupK {X : Cx} {K : PySem.W.Frag} {tg l : Expr} {tl : TE} (h : X.K = K) (e : PE X l tl) : PI X tg l (iTup K tl) := by
  subst h
  exact pi_tup e
theorem pi_listK {X : Cx} {K : PySem.W.Frag} {tg l : Expr} {tl : TE} (h : X.K = K) (e : PE X l tl) : PI X tg l (iList K tl) := by
  subst h
  exact pi_list e
theorem op_in_seqK {X : Cx} {K : PySem.W.Frag} (h : X.K = K) : OpR X (compareOp .In) (rIn K false) := by
  subst h
  exact op_in_seq
theorem op_notIn_seqK {X : Cx} {K : PySem.W.Frag} (h : X.K = K) : OpR X (compareOp .NotIn) (rIn K true) := by
  subst h
  exact op_notIn_seq
theorem op_catAK {X : Cx} {K : PySem.W.Frag} (h : X.K = K) : OpR X (binaryOp .Add) (rCatA K) := by
  subst h
  exact op_catA
theorem sl_tupAK {X : Cx} {K : PySem.W.Frag} (h : X.K = K) : SlR X (rSlA K) := by
  subst h
  exact sl_tupA
theorem fil_t (f : Int → Bool) {o : List Int} {i : Nat} {a : Int} (h : o[i]? = some a) : (o.take (i + 1)).filter f = (o.take i).filter f ++ (if f a = true then [a] else []) := by
  rw [List.take_add_one, h, List.filter_append]
  congr 1
  show List.filter f [a] = _
  rw [List.filter_cons]
  rfl
theorem mapV {l : List Int} {k : Nat} {x : Int} (h : l[k]? = some x) : (l.map V.int)[k]? = some (V.int x) := by
  rw [List.getElem?_map, h]
  rfl
theorem lay_intsX : ∀ l : List Int, PyData.canLayAll0 (l.map PyData.int) = true ∧ PyData.depthAll (l.map PyData.int) = 0
  | [] => ⟨rfl, rfl⟩
  | a :: l => by
    obtain ⟨h1, h2⟩ := lay_intsX l
    refine ⟨?_, ?_⟩
    · show (true && PyData.canLayAll0 (l.map PyData.int)) = true
      rw [h1]
      rfl
    · show max 0 (PyData.depthAll (l.map PyData.int)) = 0
      rw [h2]
      rfl
theorem shaped_tupX (l : List Int) : SeqAt.shaped (.tuple (l.map PyData.int)) = true := by
  obtain ⟨h1, h2⟩ := lay_intsX l
  show (PyData.canLayAll0 (l.map PyData.int) && decide (PyData.depthAll (l.map PyData.int) + 1 ≤ 64)) = true
  rw [h1, h2]
  rfl
theorem shaped_lstX (l : List Int) : SeqAt.shaped (.list (l.map PyData.int)) = true := by
  obtain ⟨h1, h2⟩ := lay_intsX l
  show (PyData.canLayAll0 (l.map PyData.int) && decide (PyData.depthAll (l.map PyData.int) + 1 ≤ 64)) = true
  rw [h1, h2]
  rfl
theorem dp_intsX {K : PySem.W.Frag} {H : Hp} : ∀ l : List Int, DpAll K H (l.map V.int) (l.map PyData.int)
  | [] => .nil
  | a :: r => .cons (.int a) (dp_intsX r)
theorem eqv_intsX : ∀ l m : List Int, PyData.eqvAll (l.map PyData.int) (m.map PyData.int) = decide (l = m)
  | [], [] => rfl
  | [], b :: m => rfl
  | a :: l, [] => rfl
  | a :: l, b :: m => by
    show ((a == b) && PyData.eqvAll (l.map PyData.int) (m.map PyData.int)) = _
    rw [eqv_intsX l m]
    by_cases h1 : a = b
    · subst h1
      by_cases h2 : l = m
      · subst h2
        simp
      · rw [decide_eq_false h2, Bool.and_false, decide_eq_false (fun h => h2 (List.cons.inj h).2)]
    · rw [beq_eq_false_iff_ne.mpr h1, Bool.false_and, decide_eq_false (fun h => h1 (List.cons.inj h).1)]
theorem catX_of {K : PySem.W.Frag} {a b : Addr} {xs ys : List V} {H : Hp} {Q : VK} (ha : H a = some (.tup xs)) (hb : H b = some (.tup ys)) (hl : xs.length + ys.length ≤ 100000) (q : ∀ p H', Same H H' → H' p = some (.tup (xs ++ ys)) → Q (.ref p) H') : rCatA K (.ref a) (.ref b) H Q := by
  refine ⟨a, b, xs, ys, rfl, rfl, sqt ha, sqt hb, big (by omega), fun h => ?_, fun _ h => ?_, fun _ _ p hp => ?_⟩
  · exact q b H (Same.refl H) (by rw [h, List.nil_append]; exact hb)
  · exact q a H (Same.refl H) (by rw [h, List.append_nil]; exact ha)
  · exact q p _ (same_new hp _) upd_same
theorem slV_of {K : PySem.W.Frag} {a : Addr} {xs : List V} {lo hi : Option Int} {H : Hp} {Q : VK} (ha : H a = some (.tup xs)) (q : ∀ p H', Same H H' → H' p = some (.tup (cutV xs lo hi)) → Q (.ref p) H') : rSlA K (.ref a) lo hi H Q := by
  refine ⟨a, xs, rfl, sqt ha, fun h => ?_, fun _ p hp => q p _ (same_new hp _) upd_same⟩
  refine q a H (Same.refl H) ?_
  have : cutV xs lo hi = xs := by
    unfold cutV
    rw [h.1, h.2, List.drop_zero, Nat.sub_zero]
    exact List.take_length
  rw [this]
  exact ha
theorem jcutT {xs : List V} {k : Nat} {i : Int} (h : i = (k : Int)) : cutV xs none (some i) = xs.take k := by
  subst h
  unfold cutV
  rw [HT.sIx_none, show HT.sIx xs.length xs.length (some (k : Int)) = min k xs.length from HT.sIx_nat _ _ _, List.drop_zero, Nat.sub_zero]
  by_cases h : k ≤ xs.length
  · rw [Nat.min_eq_left h]
  · rw [Nat.min_eq_right (by omega), List.take_length, List.take_of_length_le (by omega)]
theorem jcutD {xs : List V} {k : Nat} {i : Int} (h : i = (k : Int)) : cutV xs (some i) none = xs.drop k := by
  subst h
  unfold cutV
  rw [HT.sIx_none, show HT.sIx xs.length 0 (some (k : Int)) = min k xs.length from HT.sIx_nat _ _ _]
  by_cases h : k ≤ xs.length
  · rw [Nat.min_eq_left h, List.take_of_length_le (by rw [List.length_drop]; omega)]
  · rw [Nat.min_eq_right (by omega), Nat.sub_self, List.take_zero, List.drop_of_length_le (by omega)]
theorem jcutI {xs : List V} : cutV xs none (some (-1)) = xs.dropLast := by
  unfold cutV
  have : HT.sIx xs.length xs.length (some (-1)) = xs.length - 1 := by
    unfold HT.sIx
    simp
    omega
  rw [HT.sIx_none, this, List.drop_zero, Nat.sub_zero, List.dropLast_eq_take]
end NL

set_option maxHeartbeats 4000000
namespace NL
open PySem PySem.Spec PyProof.Rows L2
/-! ### rows of ints compared from the left -/
def ltL : List Int → List Int → Bool
  | [], [] => false
  | [], _ :: _ => true
  | _ :: _, [] => false
  | x :: xs, y :: ys => if x = y then ltL xs ys else decide (x < y)
def leL : List Int → List Int → Bool
  | [], _ => true
  | _ :: _, [] => false
  | x :: xs, y :: ys => if x = y then leL xs ys else decide (x ≤ y)
theorem leL_iff : ∀ xs ys : List Int, leL xs ys = (ltL xs ys || decide (xs = ys))
  | [], [] => rfl
  | [], _ :: _ => rfl
  | _ :: _, [] => rfl
  | x :: xs, y :: ys => by
    show (if x = y then leL xs ys else decide (x ≤ y)) = ((if x = y then ltL xs ys else decide (x < y)) || decide (x :: xs = y :: ys))
    by_cases h : x = y
    · subst h
      rw [if_pos rfl, if_pos rfl, leL_iff xs ys]
      congr 1
      exact decide_eq_decide.mpr ⟨fun h => by rw [h], fun h => (List.cons.inj h).2⟩
    · rw [if_neg h, if_neg h, decide_eq_false (fun e => h (List.cons.inj e).1), Bool.or_false]
      exact decide_eq_decide.mpr (by omega)
theorem lexAt_gen (R : Int → Int → Bool) (Z : Nat → Nat → Bool) (F : List Int → List Int → Bool) (h0 : ∀ ys, F [] ys = Z 0 ys.length) (h1 : ∀ x xs, F (x :: xs) [] = Z (xs.length + 1) 0) (h2 : ∀ x xs y ys, F (x :: xs) (y :: ys) = if x = y then F xs ys else R x y) (hz : ∀ a b, Z (a + 1) (b + 1) = Z a b) (ns ms : List Int) :
    ∀ (i : Nat), i ≤ min ns.length ms.length → Ob.lexAt (fun j => decide (ns.getD j 0 = ms.getD j 0)) (fun j => R (ns.getD j 0) (ms.getD j 0)) (Z ns.length ms.length) i (min ns.length ms.length - i) = F (ns.drop i) (ms.drop i) := by
  have main : ∀ (k i : Nat), i + k = min ns.length ms.length → Ob.lexAt (fun j => decide (ns.getD j 0 = ms.getD j 0)) (fun j => R (ns.getD j 0) (ms.getD j 0)) (Z ns.length ms.length) i k = F (ns.drop i) (ms.drop i) := by
    intro k
    induction k with
    | zero =>
      intro i hi
      rw [Ob.lexAt_zero]
      have zz : ∀ (d a b : Nat), Z (a + d) (b + d) = Z a b := fun d => by
        induction d with
        | zero => intro a b; rfl
        | succ d ih => intro a b; rw [← Nat.add_assoc, ← Nat.add_assoc, hz, ih]
      by_cases h : ns.length ≤ ms.length
      · have e : i = ns.length := by omega
        rw [e, List.drop_length, h0, List.length_drop]
        have := zz ns.length 0 (ms.length - ns.length)
        rw [Nat.zero_add, Nat.sub_add_cancel h] at this
        exact this
      · have e : i = ms.length := by omega
        rw [e, List.drop_length]
        obtain ⟨x, xs, hx⟩ : ∃ x xs, ns.drop ms.length = x :: xs := by
          cases hd : ns.drop ms.length with
          | nil =>
            have := congrArg List.length hd
            rw [List.length_drop, List.length_nil] at this
            omega
          | cons x xs => exact ⟨x, xs, rfl⟩
        rw [hx, h1]
        have hl := congrArg List.length hx
        rw [List.length_drop, List.length_cons] at hl
        have := zz ms.length (xs.length + 1) 0
        rw [Nat.zero_add, ← hl, Nat.sub_add_cancel (by omega)] at this
        rw [this, hl]
    | succ k ih =>
      intro i hi
      rw [Ob.lexAt_succ]
      have e1 := List.drop_eq_getElem_cons (show i < ns.length by omega)
      have e2 := List.drop_eq_getElem_cons (show i < ms.length by omega)
      have g1 : ns.getD i 0 = ns[i]'(by omega) := by rw [List.getD_eq_getElem?_getD, List.getElem?_eq_getElem (by omega)]; rfl
      have g2 : ms.getD i 0 = ms[i]'(by omega) := by rw [List.getD_eq_getElem?_getD, List.getElem?_eq_getElem (by omega)]; rfl
      rw [e1, e2, h2, ih (i + 1) (by omega), g1, g2]
      by_cases h : ns[i]'(by omega) = ms[i]'(by omega)
      · rw [if_pos h, if_pos (decide_eq_true h)]
      · rw [if_neg h, if_neg (by rw [decide_eq_false h]; exact Bool.false_ne_true)]
  intro i hi
  exact main _ i (by omega)
theorem lexAt_le (ns ms : List Int) : Ob.lexAt (fun j => decide (ns.getD j 0 = ms.getD j 0)) (fun j => decide (ns.getD j 0 ≤ ms.getD j 0)) (decide (ns.length ≤ ms.length)) 0 (min ns.length ms.length) = leL ns ms := by
  have := lexAt_gen (fun a b => decide (a ≤ b)) (fun a b => decide (a ≤ b)) leL (fun ys => (decide_eq_true (Nat.zero_le _)).symm) (fun x xs => (decide_eq_false (by omega)).symm) (fun x xs y ys => rfl) (fun a b => decide_eq_decide.mpr (by omega)) ns ms 0 (Nat.zero_le _)
  rw [Nat.sub_zero, List.drop_zero, List.drop_zero] at this
  exact this
theorem lexAt_gt (ns ms : List Int) : Ob.lexAt (fun j => decide (ns.getD j 0 = ms.getD j 0)) (fun j => decide (ms.getD j 0 < ns.getD j 0)) (decide (ns.length > ms.length)) 0 (min ns.length ms.length) = ltL ms ns := by
  have := lexAt_gen (fun a b => decide (b < a)) (fun a b => decide (a > b)) (fun a b => ltL b a) (fun ys => by
    cases ys with
    | nil => rfl
    | cons y ys => exact (decide_eq_false (by omega)).symm) (fun x xs => (decide_eq_true (by omega)).symm) (fun x xs y ys => by
    show (if y = x then ltL ys xs else decide (y < x)) = _
    by_cases h : x = y
    · subst h; rfl
    · rw [if_neg h, if_neg (fun e => h e.symm)]) (fun a b => decide_eq_decide.mpr (by omega)) ns ms 0 (Nat.zero_le _)
  rw [Nat.sub_zero, List.drop_zero, List.drop_zero] at this
  exact this
theorem lexLt_is : ∀ xs ys : List Int, HT.lexLt xs ys = ltL xs ys
  | [], [] => rfl
  | [], _ :: _ => rfl
  | _ :: _, [] => rfl
  | x :: xs, y :: ys => by
    have ih := lexLt_is xs ys
    show HT.lexLt (x :: xs) (y :: ys) = if x = y then ltL xs ys else decide (x < y)
    rw [← ih]
    rfl
def rLtT (K : PySem.W.Frag) (f : List Int → List Int → Bool) : R2 := fun x y H Q => ∃ (a b : Addr) (ns ms : List Int), x = .ref a ∧ y = .ref b ∧ SqT K H a (ns.map V.int) ∧ SqT K H b (ms.map V.int) ∧ Q (.bl (f ns ms)) H
theorem gx_leT {X : Cx} (hu : X.A.units + 64 < cLine) : OpR X (compareOp .LtE) (rLtT X.K leL) := by
  intro pins s σ H x y v u Q I rx ry h
  obtain ⟨a, b, ns, ms, rfl, rfl, ha, hb, q⟩ := h
  refine op_leT (Nat.lt_of_le_of_lt (Nat.le_add_right _ 64) hu) pins s σ H _ _ v u Q I rx ry ⟨a, b, ns, ms, rfl, rfl, ha, hb, ?_⟩
  rw [lexAt_le]
  exact q
theorem gx_ltT {X : Cx} (hu : X.A.units + 64 < cLine) : OpR X (compareOp .Lt) (rLtT X.K ltL) := by
  intro pins s σ H x y v u Q I rx ry h
  obtain ⟨a, b, ns, ms, rfl, rfl, ha, hb, q⟩ := h
  cases rx
  cases ry
  obtain ⟨its, r1, p1, _⟩ := I.tuple ha
  obtain ⟨its2, r2, p2, _⟩ := I.tuple hb
  refine HT.lt_tupInts p1 p2 (by simpa using Vals.ints r1) (by simpa using Vals.ints r2) (Nat.lt_of_le_of_lt (Nat.le_add_right _ 64) hu) ?_
  rw [lexLt_is]
  exact ⟨.bl _, H, I, rfl, q⟩
theorem gx_gtT {X : Cx} (hu : X.A.units + 64 < cLine) : OpR X (compareOp .Gt) (rLtT X.K fun a b => ltL b a) := by
  intro pins s σ H x y v u Q I rx ry h
  obtain ⟨a, b, ns, ms, rfl, rfl, ha, hb, q⟩ := h
  cases rx
  cases ry
  obtain ⟨its, r1, p1, _⟩ := I.tuple ha
  obtain ⟨its2, r2, p2, _⟩ := I.tuple hb
  have i1 := Vals.ints r1
  have i2 := Vals.ints r2
  have z1 : its.toArray.size = ns.length := by rw [List.size_toArray]; exact i1.length
  have z2 : its2.toArray.size = ms.length := by rw [List.size_toArray]; exact i2.length
  have val1 : ∀ j (h1 : j < its.toArray.size), ∃ t, its.toArray[j] = .int (ns.getD j 0) t := fun j h1 => i1.int_at _ _ (by simp at h1; simp [h1])
  have val2 : ∀ j (h1 : j < its2.toArray.size), ∃ t, its2.toArray[j] = .int (ms.getD j 0) t := fun j h1 => i2.int_at _ _ (by simp at h1; simp [h1])
  have R := Ob.RcOp.tuples_gt (A := X.A) (s := s) (e := fun j => decide (ns.getD j 0 = ms.getD j 0)) (r := fun j => decide (ms.getD j 0 < ns.getD j 0)) p1 p2 (Nat.lt_of_le_of_lt (Nat.le_add_right _ 64) hu)
    (fun j h1 h2 => by
      obtain ⟨t, et⟩ := val1 j h1
      obtain ⟨t', et'⟩ := val2 j h2
      rw [et, et']
      have z : (ns.getD j 0 == ms.getD j 0) = decide (ns.getD j 0 = ms.getD j 0) := Bool.beq_eq_decide_eq _ _
      rw [← z]
      exact SeqAt.EqAt.int_int _ _ _ _)
    (fun j h1 h2 _ => by
      obtain ⟨t, et⟩ := val1 j h1
      obtain ⟨t', et'⟩ := val2 j h2
      rw [et, et']
      exact Ob.RcOp.gt_int _ _ _ _)
  rw [z1, z2, lexAt_gt] at R
  exact R X.prog X.w X.xe (EP X pins σ Q) ⟨.bl _, H, I, rfl, q⟩
end NL

set_option maxHeartbeats 4000000
namespace NL
open PySem PySem.Spec PyProof.Rows L2
/-! ### max and min of a tuple of ints with a default -/
def rDfT (K : PySem.W.Frag) (le : Int → Int → Prop) : List V → List V → Hp → VK → Prop := fun vs zs H Q => ∃ (a : Addr) (ns : List Int) (d : Int), vs = [V.ref a] ∧ zs = [V.int d] ∧ SqT K H a (ns.map V.int) ∧ ∀ m, (ns = [] → m = d) → (ns ≠ [] → m ∈ ns ∧ ∀ y, y ∈ ns → le y m) → Q (.int m) H
theorem intsAt {ns : List Int} {its : List Value} (rv : L2.Vals (ns.map V.int) its) {i : Nat} {v : Value} (h : its.toArray[i]? = some v) : ∃ n t, ns[i]? = some n ∧ v = .int n t := by
  have hv2 : its[i]? = some v := by simpa using h
  have hil := (List.getElem?_eq_some_iff.mp hv2).1
  have hl := rv.length
  rw [List.length_map] at hl
  have hn := List.getElem?_eq_getElem (show i < ns.length by omega)
  obtain ⟨u, hu1, ru⟩ := rv.get (i := i) (x := V.int ns[i]) (by rw [List.getElem?_map, hn]; rfl)
  rw [hv2] at hu1
  cases hu1
  obtain ⟨t, rfl⟩ := ru
  exact ⟨_, t, hn, rfl⟩
theorem argBest_mn (f : Nat → Int) : ∀ k : Nat, argBest (fun i j => decide (f i < f j)) k ≤ k ∧ ∀ j, j ≤ k → f (argBest (fun i j => decide (f i < f j)) k) ≤ f j
  | 0 => ⟨Nat.le_refl 0, fun j hj => by rw [show j = 0 by omega]; exact Int.le_refl _⟩
  | k + 1 => by
    obtain ⟨h1, h2⟩ := argBest_mn f k
    have e : argBest (fun i j => decide (f i < f j)) (k + 1) = if decide (f (k + 1) < f (argBest (fun i j => decide (f i < f j)) k)) = true then k + 1 else argBest (fun i j => decide (f i < f j)) k := rfl
    rw [e]
    by_cases h : f (k + 1) < f (argBest (fun i j => decide (f i < f j)) k)
    · rw [if_pos (decide_eq_true h)]
      refine ⟨Nat.le_refl _, fun j hj => ?_⟩
      by_cases hk : j = k + 1
      · rw [hk]
        exact Int.le_refl _
      · have := h2 j (by omega)
        omega
    · rw [if_neg (by rw [decide_eq_false h]; exact Bool.false_ne_true)]
      refine ⟨by omega, fun j hj => ?_⟩
      by_cases hk : j = k + 1
      · rw [hk]
        omega
      · exact h2 j (by omega)
theorem cr_maxDfT {X : Cx} (hc : X.calm = true) : CallRK X (.builtin "max") [Str.ofString "default"] (rDfT X.K fun y m => y ≤ m) := by
  intro pins s σ H vs zs us ws Q I r rz h
  obtain ⟨a, ns, d, rfl, rfl, hs, q⟩ := h
  obtain ⟨its, rv, hl, _⟩ := I.tuple hs
  rw [Vals.ref1 r]
  obtain ⟨w1, rfl, e1⟩ := vals1 rz
  obtain ⟨td, rfl⟩ := e1
  have hitl := rv.length
  rw [List.length_map] at hitl
  refine call_max_walkD (PySem.W.iter_tupleW (A := X.A.in1) (I.ok.hd hc) hl fun s₂ e W st hfp hw hk => ?_)
  refine ⟨_, _, _, _, _, _, _, s.heap, (fun i j => decide (ns.getD i 0 > ns.getD j 0)), rfl, W, st, hfp, hw, hk, fun hn s' m => ?_, fun hn => ⟨?_, fun v s' hP m => ?_⟩⟩
  · obtain ⟨h', tk, rfl, hk'⟩ := PySem.W.moved_old e rfl m
    have hne : ns = [] := List.length_eq_zero_iff.mp (by rw [List.size_toArray] at hn; omega)
    exact ⟨.int d, H, I.kept hk', ⟨_, rfl⟩, q d (fun _ => rfl) (fun h => absurd hne h)⟩
  · intro i j vi vj s' Q' E' hk' hi hj hQ
    obtain ⟨n1, t1, h1, rfl⟩ := intsAt rv hi
    obtain ⟨n2, t2, h2, rfl⟩ := intsAt rv hj
    refine PySem.SiftDown.gt_int ?_
    have hQ2 : Q' (.bool (decide (ns.getD i 0 > ns.getD j 0))) s' := hQ
    rw [show ns.getD i 0 = n1 by rw [List.getD_eq_getElem?_getD, h1]; rfl, show ns.getD j 0 = n2 by rw [List.getD_eq_getElem?_getD, h2]; rfl] at hQ2
    exact hQ2
  · obtain ⟨h', tk, rfl, hk'⟩ := PySem.W.moved_old e rfl m
    obtain ⟨b1, b2⟩ := argBest_gt (fun i => ns.getD i 0) (its.toArray.size - 1)
    obtain ⟨n, t, h1, rfl⟩ := intsAt rv hP
    refine ⟨.int n, H, I.kept hk', ⟨_, rfl⟩, q n (fun h => by rw [h] at h1; cases h1) fun _ => ⟨List.mem_of_getElem? h1, fun y hy => ?_⟩⟩
    obtain ⟨j, hj⟩ := List.getElem?_of_mem hy
    have hjl := (List.getElem?_eq_some_iff.mp hj).1
    have h3 := b2 j (by rw [List.size_toArray]; omega)
    have h4 : ns.getD (argBest (fun i j => decide (ns.getD i 0 > ns.getD j 0)) (its.toArray.size - 1)) 0 = n := by rw [List.getD_eq_getElem?_getD, h1]; rfl
    have h5 : ns.getD j 0 = y := by rw [List.getD_eq_getElem?_getD, hj]; rfl
    rw [← h5, ← h4]
    exact h3
theorem cr_minDfT {X : Cx} (hc : X.calm = true) : CallRK X (.builtin "min") [Str.ofString "default"] (rDfT X.K fun y m => m ≤ y) := by
  intro pins s σ H vs zs us ws Q I r rz h
  obtain ⟨a, ns, d, rfl, rfl, hs, q⟩ := h
  obtain ⟨its, rv, hl, _⟩ := I.tuple hs
  rw [Vals.ref1 r]
  obtain ⟨w1, rfl, e1⟩ := vals1 rz
  obtain ⟨td, rfl⟩ := e1
  have hitl := rv.length
  rw [List.length_map] at hitl
  refine call_min_walkD (PySem.W.iter_tupleW (A := X.A.in1) (I.ok.hd hc) hl fun s₂ e W st hfp hw hk => ?_)
  refine ⟨_, _, _, _, _, _, _, s.heap, (fun i j => decide (ns.getD i 0 < ns.getD j 0)), rfl, W, st, hfp, hw, hk, fun hn s' m => ?_, fun hn => ⟨?_, fun v s' hP m => ?_⟩⟩
  · obtain ⟨h', tk, rfl, hk'⟩ := PySem.W.moved_old e rfl m
    have hne : ns = [] := List.length_eq_zero_iff.mp (by rw [List.size_toArray] at hn; omega)
    exact ⟨.int d, H, I.kept hk', ⟨_, rfl⟩, q d (fun _ => rfl) (fun h => absurd hne h)⟩
  · intro i j vi vj s' Q' E' hk' hi hj hQ
    obtain ⟨n1, t1, h1, rfl⟩ := intsAt rv hi
    obtain ⟨n2, t2, h2, rfl⟩ := intsAt rv hj
    refine PyProof.Rows.lt_int ?_
    have hQ2 : Q' (.bool (decide (ns.getD i 0 < ns.getD j 0))) s' := hQ
    rw [show ns.getD i 0 = n1 by rw [List.getD_eq_getElem?_getD, h1]; rfl, show ns.getD j 0 = n2 by rw [List.getD_eq_getElem?_getD, h2]; rfl] at hQ2
    exact hQ2
  · obtain ⟨h', tk, rfl, hk'⟩ := PySem.W.moved_old e rfl m
    obtain ⟨b1, b2⟩ := argBest_mn (fun i => ns.getD i 0) (its.toArray.size - 1)
    obtain ⟨n, t, h1, rfl⟩ := intsAt rv hP
    refine ⟨.int n, H, I.kept hk', ⟨_, rfl⟩, q n (fun h => by rw [h] at h1; cases h1) fun _ => ⟨List.mem_of_getElem? h1, fun y hy => ?_⟩⟩
    obtain ⟨j, hj⟩ := List.getElem?_of_mem hy
    have hjl := (List.getElem?_eq_some_iff.mp hj).1
    have h3 := b2 j (by rw [List.size_toArray]; omega)
    have h4 : ns.getD (argBest (fun i j => decide (ns.getD i 0 < ns.getD j 0)) (its.toArray.size - 1)) 0 = n := by rw [List.getD_eq_getElem?_getD, h1]; rfl
    have h5 : ns.getD j 0 = y := by rw [List.getD_eq_getElem?_getD, hj]; rfl
    rw [← h5, ← h4]
    exact h3
end NL

set_option maxHeartbeats 4000000
namespace NL
open PySem PySem.Spec PyProof.Rows L2
theorem Keep.same {K : PySem.W.Frag} {d a : Addr} {H H' : Hp} {xs : List V} (k : Keep K d H a xs) (s : Same H H') : Keep K d H' a xs := fun H2 f => k H2 fun b o n e => f b o n (s b o e)
section
variable {P : Program} {w : World} {K : PySem.W.Frag} {mg : Str → Option Value} {base : Heap}
/-! ### _law_colours -/
def spColours : Sp := fun vs H Q _ => ∃ (d : Addr) (v : V) (A : Ar), vs = [.ref d, v] ∧ Dr H d ∧ ArIn H A v ∧ A.length ≤ 400 ∧ ∀ (p : Addr) (o : List Int) (H' : Hp), Go d H H' → H' p = some (.tup (o.map V.int)) → o.length = A.length → (∀ c ∈ o, (0 : Int) ≤ c ∧ c ≤ 44) → Q (.ref p) H'
theorem ok_law_colours (T : Txt K mg) : FnOk P w K mg base CX0 2 T.a_law_colours T.d_law_colours P_law_colours spColours := by
  have G_law_take := ok_law_take (P := P) (w := w) (base := base) T
  refine T.F_law_colours.ok sc_law_colours (fun vs H Q E h => ?_) (fun cdv A outer s H vs Q E hr h => ?_)
  · obtain ⟨d, v, A, rfl, _⟩ := h
    rfl
  obtain ⟨d, v, A0, rfl, hD, ⟨b0, xs, rfl, e0, hxs⟩, h46, q⟩ := h
  have hxl := hxs.1
  refine ⟨_, (pss_cons (ps_set (i := 2) sc_law_colours.nd rfl (Or.inr rfl) (pe_ix ix_list (pe_lst (pa_cons pe_int (pa_cons pe_int (pa_cons pe_int (pa_cons pe_int (pa_cons pe_int (pa_cons pe_int (pa_cons pe_int pa_nil)))))))) (pe_call G_law_take (hr.mono (by omega)) (by rfl) T.m_law_take T.F_law_take.kp T.b_law_take .nil pass0 (pa_cons (pv 0) (pa_cons pe_int pa_nil))) (fun _ _ => rfl)))
    (pss_cons (ps_set (i := 3) sc_law_colours.nd rfl (Or.inr rfl) (pe_ix ix_list (pe_lst (pa_cons pe_int (pa_cons pe_int (pa_cons pe_int (pa_cons pe_int (pa_cons pe_int (pa_cons pe_int pa_nil))))))) (pe_call G_law_take (hr.mono (by omega)) (by rfl) T.m_law_take T.F_law_take.kp T.b_law_take .nil pass0 (pa_cons (pv 0) (pa_cons pe_int pa_nil))) (fun _ _ => rfl)))
    (C8.pss_cut (ps_if (pt_cmpR op_eq (pv 2) pe_int (nomark _))
    (pss_cons (ps_set (i := 3) sc_law_colours.nd rfl (Or.inr rfl) pe_int)
    (pss_one (ps_set (i := 2) sc_law_colours.nd rfl (Or.inr rfl) (pe_ix ix_list (pe_lst (pa_cons pe_int (pa_cons pe_int pa_nil))) (pe_callTy call_int1 (by rfl) T.z_int (by decide +kernel) (pa_cons (pe_cmpR op_gt (pe_callB call_len_seq (by rfl) T.z_len PySem.boot_len (pa_cons (pv 1) pa_nil)) pe_int (nomark _)) pa_nil)) (fun _ _ => rfl)))))
    pss_nil)
    (pss_cons (ps_set (i := 4) sc_law_colours.nd rfl (Or.inr rfl) (pe_op op_mul (pe_ix ix_list (pe_lst (pa_cons pe_int (pa_cons pe_int (pa_cons pe_int (pa_cons pe_int pa_nil))))) (pe_call G_law_take (hr.mono (by omega)) (by rfl) T.m_law_take T.F_law_take.kp T.b_law_take .nil pass0 (pa_cons (pv 0) (pa_cons pe_int pa_nil))) (fun _ _ => rfl)) (pe_callTy call_int1 (by rfl) T.z_int (by decide +kernel) (pa_cons (pe_cmpR op_lt (pv 3) pe_int (nomark _)) pa_nil))))
    (pss_one (ps_ret (pe_callTy call_tuple_of (by rfl) T.z_tuple (by decide +kernel) (pa_cons (pe_lc (own := [("options", 5)]) (g := (gName 5)) (tt := tYes) rfl sc_law_colours.nd (pi_tup (pv 1)) (blkOk_by (N := N_law_colours) (sc := defScope s_law_colours) (by decide +kernel)) (fun _ _ _ _ _ => (pg_name (i := 5) sc_law_colours.nd rfl (Or.inl rfl))) (fun _ _ _ _ _ => pts_nil) (fun _ _ _ _ _ => (pe_op op_add (pe_op op_mul (pe_call G_law_take (hr.mono (by omega)) (by rfl) T.m_law_take T.F_law_take.kp T.b_law_take .nil pass0 (pa_cons (pv 0) (pa_cons (pv 2) pa_nil))) (pv 3)) (pv 4)))) pa_nil)))))))), ?_⟩
  refine ⟨Nat.le_of_ble_eq_true rfl, fun l1 hl1 => ?_⟩
  have g1 := Go.new (o := .lst [.int 2, .int 3, .int 3, .int 4, .int 5, .int 6, .int 12]) hD hl1
  refine ⟨_, rfl, d, 7, rfl, g1.dr, by decide, fun u1 H1 g2 a1 a2 => ?_⟩
  obtain ⟨m, hm, hmm⟩ := atI_map (f := V.int) (xs := ([2, 3, 3, 4, 5, 6, 12] : List Int)) a1 a2
  have hm2 : 2 ≤ m ∧ m ≤ 12 := by
    simp only [List.mem_cons, List.not_mem_nil, or_false] at hmm
    omega
  refine ⟨l1, _, _, _, rfl, rfl, sqd (g2.fr l1 _ (new_ne hD hl1) upd_same), hm, ?_⟩
  have g12 := g1.trans g2
  refine ⟨Nat.le_of_ble_eq_true rfl, fun l2 hl2 => ?_⟩
  have g3 := Go.new (o := .lst [.int 1, .int 1, .int 1, .int 1, .int 3, .int 4]) g12.dr hl2
  refine ⟨_, rfl, d, 6, rfl, g3.dr, by decide, fun u2 H2 g4 b1 b2 => ?_⟩
  obtain ⟨f, hf, hff⟩ := atI_map (f := V.int) (xs := ([1, 1, 1, 1, 3, 4] : List Int)) b1 b2
  have hf4 : f = 1 ∨ f = 3 ∨ f = 4 := by
    simp only [List.mem_cons, List.not_mem_nil, or_false] at hff
    omega
  refine ⟨l2, _, _, _, rfl, rfl, sqd (g4.fr l2 _ (new_ne g12.dr hl2) upd_same), hf, ?_⟩
  have g14 := (g12.trans g3).trans g4
  have e4 := g14.tp hD _ _ e0
  refine ⟨fun σ H' => ∃ m f : Int, σ = [some (.ref d), some (.ref b0), some (.int m), some (.int f), none, none] ∧ Go d H H' ∧ 2 ≤ m ∧ m ≤ 12 ∧ (f = 1 ∨ f = 3 ∨ f = 4), ?_, ?_⟩
  · refine ⟨_, rfl, rfl, _, rfl, ?_⟩
    refine ite2 (fun z => ?_) (fun z => ⟨m, f, rfl, g14, hm2.1, hm2.2, hf4⟩)
    refine ⟨Nat.le_of_ble_eq_true rfl, fun l3 hl3 => ?_⟩
    have g5 := Go.new (o := .lst [.int 12, .int 4]) g14.dr hl3
    have e5 := g5.tp g14.dr _ _ e4
    refine ⟨_, rfl, b0, _, rfl, .inr (sqt e5), _, _, rfl, rfl, .inr ⟨_, rfl, ?_⟩⟩
    cases hb : decide (((xs.length : Nat) : Int) > 5) with
    | true =>
      refine ⟨l3, _, _, _, rfl, rfl, sqd upd_same, (show atI [V.int 12, V.int 4] (if true = true then (1 : Int) else 0) = some (V.int 4) from atI1), ?_⟩
      exact ⟨4, 1, rfl, g14.trans g5, by decide, by decide, by decide⟩
    | false =>
      refine ⟨l3, _, _, _, rfl, rfl, sqd upd_same, (show atI [V.int 12, V.int 4] (if false = true then (1 : Int) else 0) = some (V.int 12) from atI0), ?_⟩
      exact ⟨12, 1, rfl, g14.trans g5, by decide, by decide, by decide⟩
  rintro σ H3 ⟨m, f, rfl, g13, m1, m2, f1⟩
  refine ⟨Nat.le_of_ble_eq_true rfl, fun l4 hl4 => ?_⟩
  have g6 := Go.new (o := .lst [.int 0, .int 0, .int 1, .int 2]) g13.dr hl4
  refine ⟨_, rfl, d, 4, rfl, g6.dr, by decide, fun u3 H4 g7 c1 c2 => ?_⟩
  obtain ⟨pl, hp, hpp⟩ := atI_map (f := V.int) (xs := ([0, 0, 1, 2] : List Int)) c1 c2
  have hp2 : 0 ≤ pl ∧ pl ≤ 2 := by
    simp only [List.mem_cons, List.not_mem_nil, or_false] at hpp
    omega
  refine ⟨l4, _, _, _, rfl, rfl, sqd (g7.fr l4 _ (new_ne g13.dr hl4) upd_same), hp, ?_⟩
  refine ⟨_, rfl, _, _, rfl, rfl, .inr ⟨_, rfl, _, _, rfl, rfl, .inl ⟨by omega, by omega⟩, ?_⟩⟩
  have hplus : 0 ≤ pl * (if decide (f < 4) = true then (1 : Int) else 0) ∧ pl * (if decide (f < 4) = true then (1 : Int) else 0) ≤ 2 := by
    split <;> omega
  have hp4 : f = 4 → pl * (if decide (f < 4) = true then (1 : Int) else 0) = 0 := fun e => by
    subst e
    rw [if_neg (by decide), Int.mul_zero]
  obtain ⟨plus, hpl⟩ : ∃ z : Int, z = pl * (if decide (f < 4) = true then (1 : Int) else 0) := ⟨_, rfl⟩
  rw [← hpl] at hplus hp4
  have g17 := (g13.trans g6).trans g7
  have e7 := g17.tp hD _ _ e0
  refine ⟨_, rfl, b0, rfl, ⟨_, sqt e7⟩, fun D hD' => ?_⟩
  have nDd := new_ne g17.dr hD'
  have s1 := same_new hD' (.lst [])
  refine lc_tup (K := K) (a := b0) (xs := xs) (fun (i : Nat) (H' : Hp) => ∃ o : List Int, Go d H H' ∧ H' D = some (.lst (o.map V.int)) ∧ o.length = i ∧ ∀ c ∈ o, 0 ≤ c ∧ c ≤ 44) ?_ ?_ ?_ ?_
  · exact ⟨[], g17.trans (.same g17.dr s1), upd_same, rfl, fun s h => nomatch h⟩
  · rintro i H' _ ⟨o, g8, _⟩
    exact sqt (g8.tp hD _ _ e0)
  · rintro i x H' hx ⟨o, g8, e8, hlen, hmem⟩
    have hi := (List.getElem?_eq_some_iff.mp hx).1
    refine ⟨rfl, yes_if ?_⟩
    refine ⟨_, rfl, _, rfl, d, m, rfl, g8.dr, by omega, fun y H5 g9 y0 y1 => ?_⟩
    have e9 := g9.fr D _ nDd e8
    have hD0 : H D = none := g17.free hD'
    refine ⟨_, rfl, _, _, rfl, rfl, .inl ⟨by omega, by omega⟩, _, rfl, _, _, rfl, rfl, _, e9, big' (by rw [List.length_map]; omega), o ++ [y * f + plus], (g8.trans g9).put2 hD0 nDd, ?_, by rw [List.length_append, hlen]; rfl, fun c hc => ?_⟩
    · rw [upd_same, List.map_append, hpl]
      rfl
    · rcases List.mem_append.mp hc with hc | hc
      · exact hmem c hc
      · rw [List.mem_singleton.mp hc]
        have y12 : y < 12 := by omega
        rcases f1 with rfl | rfl | rfl
        · omega
        · omega
        · have := hp4 rfl
          omega
  · rintro H5 ⟨o, g8, e8, hlen, hmem⟩
    refine ⟨D, _, rfl, .inl ⟨sqd e8, fun t ht => ?_⟩⟩
    exact q t o _ (g8.trans (Go.new g8.dr ht)) upd_same (by omega) hmem
/-! ### _law_other_replies -/
def spOthR : Sp := fun vs H Q _ => ∃ (d c : Addr) (n : Int) (rs : List Int), vs = [.ref d, .int n, .ref c] ∧ Dr H d ∧ 0 ≤ n ∧ H c = some (.tup (rs.map V.int)) ∧ rs.length ≤ 1000 ∧ ∀ p (m : List Int) H', Go d H H' → H' p = some (.tup (m.map V.int)) → m.length ≤ rs.length + 1 → Q (.ref p) H'
end
end NL

set_option maxHeartbeats 4000000
namespace NL
open PySem PySem.Spec PyProof.Rows L2
section
variable {P : Program} {w : World} {K : PySem.W.Frag} {mg : Str → Option Value} {base : Heap}
/-! ### a game -/
def spGame : Sp := fun vs H Q _ => ∃ (d : Addr) (m : Int), vs = [.ref d, .int m] ∧ Dr H d ∧ 0 ≤ m ∧ m ≤ 44 ∧ ∀ gl v kc A (cs : List Int) H', Go d H H' → gl ≠ d → H' gl = some (.lst [v, .ref kc]) → ArIn H' A v → ArG A → H' kc = some (.tup (cs.map V.int)) → cs.length = A.length → (∀ c ∈ cs, (0 : Int) ≤ c ∧ c ≤ 44) → (A.length : Int) ≤ m → H gl = none → Q (.ref gl) H'
theorem ok_law_game (T : Txt K mg) : FnOk P w K mg base CX0 4 T.a_law_game T.d_law_game P_law_game spGame := by
  have G_law_arena := ok_law_arena (P := P) (w := w) (base := base) T
  have G_law_colours := ok_law_colours (P := P) (w := w) (base := base) T
  refine T.F_law_game.ok sc_law_game (fun vs H Q E h => ?_) (fun cdv A outer s H vs Q E hr h => ?_)
  · obtain ⟨d, m, rfl, _⟩ := h
    rfl
  obtain ⟨d, m, rfl, hD, m0, m1, q⟩ := h
  refine ⟨_, (pss_cons (ps_set (i := 2) sc_law_game.nd rfl (Or.inl rfl) (pe_call G_law_arena (hr.mono (by omega)) (by rfl) T.m_law_arena T.F_law_arena.kp T.b_law_arena .nil pass0 (pa_cons (pv 0) (pa_cons (pv 1) pa_nil))))
    (pss_one (ps_ret (pe_lst (pa_cons (pv 2) (pa_cons (pe_call G_law_colours (hr.mono (by omega)) (by rfl) T.m_law_colours T.F_law_colours.kp T.b_law_colours .nil pass0 (pa_cons (pv 0) (pa_cons (pv 2) pa_nil))) pa_nil)))))), ?_⟩
  refine ⟨_, rfl, _, rfl, d, m, rfl, hD, m0, by omega, fun v A0 H1 g1 hA hG hAm => ?_⟩
  refine ⟨_, rfl, _, rfl, _, rfl, d, v, A0, rfl, g1.dr, hA, hG.1, fun kc cs H2 g2 k2 hl hc => ?_⟩
  refine ⟨Nat.le_of_ble_eq_true rfl, fun gl hgl => ?_⟩
  obtain ⟨H3, E3, s3, k3⟩ := newH hgl (.lst [v, .ref kc])
  rw [E3]
  have g12 := g1.trans g2
  exact q gl v kc A0 cs H3 (g12.trans (.same g12.dr s3)) (new_ne g12.dr hgl) k3 ((hA.tp (g2.tp g1.dr)).tp (Tp.same s3)) hG (s3 _ _ k2) hl hc hAm (g12.free hgl)
end
end NL

namespace NL
open PySem PySem.Spec PyProof.Rows L2
/-- the mark at an index, from before or from behind -/
def mkAt (bs : List Bool) (i : Int) : Bool := (atI bs i).getD false
section
variable {prog : Program} {w : World} {A : Around} {env : Env} {s : Shared}
theorem low_ix {E : Value → Shared → Prop} {m : Addr} {ms : List Value} {bs : List Bool} {mm : Str → Option Value} {i : Int} {t : Tok} {p1 p2 p3 : Pos} {Q : Value → Shared → Prop}
    (hk : env.scope.kind = .function) (hm : env.kindOf "marks" = some .local) (ha : env.kindOf "after" = some .local)
    (hn : s.heap.Ns env.locals mm) (h2 : mm "marks" = some (.ref m)) (h3 : mm "after" = some (.int i t))
    (hl : s.heap.IsList m ms.toArray) (hb : Vals (bs.map V.bl) ms) (hz : ms.length ≤ sizeLine) (hin : (atI bs i).isSome = true)
    (h : Q (.bool (mkAt bs i)) s) :
    wpAny (model prog w) A (eval (.Subscript (.Name "marks" p1) (.Name "after" p2) p3) env) Q E s := by
  refine Subscript_ ?_
  refine wpAny_Name (wpAny_loadName_local hk hm hn h2 ?_)
  refine wpAny_Name (wpAny_loadName_local hk ha hn h3 ?_)
  obtain ⟨b, eb⟩ := Option.isSome_iff_exists.mp hin
  have hbm : mkAt bs i = b := by unfold mkAt; rw [eb]; rfl
  rw [hbm] at h
  obtain ⟨j, q1, q2, q3, q4, q5⟩ := atI_get eb
  have hl2 := hb.length
  rw [List.length_map] at hl2
  obtain ⟨u, eu, ru⟩ := hb.get (i := j) (x := V.bl b) (by rw [List.getElem?_map, q2]; rfl)
  have e : u = .bool b := ru
  subst e
  have hn63 := line63
  by_cases h0 : 0 ≤ i
  · have hj : i.toNat = j := by
      rw [seqIndex_of h0 q5] at q1
      exact Option.some.inj q1
    exact item_listR hl h0 (by omega) (by rw [hj]; simpa using eu) h
  · have hj : (i + (ms.toArray.size : Int)).toNat = j := by
      rw [seqIndex_neg (by omega) q4] at q1
      rw [List.size_toArray, ← hl2]
      exact Option.some.inj q1
    exact subscriptTail_builtinR (x := .bool b) hl.typeIs slot_list_getitem.lookup
      (wpAny_getItem_list_neg (Q := fun r s' => r = .bool b ∧ Q r s') hl (by omega) (by rw [List.size_toArray] <;> omega) (by omega) (by rw [hj]; simpa using eu) ⟨rfl, h⟩)

theorem low_bool {E : Value → Shared → Prop} {c : Bool} {k : Nat} {p : Pos} {Q : Value → Shared → Prop} (h : Q (.bool c) s) : wpAny (model prog w) A (eval (.Constant (.bool c) k p) env) Q E s := fun _ _ _ => h
/-- for after in option: if (not) marks[after]: return r1 .. return r2 -/
theorem low_body {o m : Addr} {its ms : List Value} {is : List Int} {bs : List Bool} {mm : Str → Option Value} {test : Expr} {fl r1 r2 : Bool} {k1 k2 : Nat} {p1 p2 q1 q2 q3 q4 q5 q6 q7 q8 q9 : Pos}
    (hh : A.handled = none) (hk : env.scope.kind = .function) (ho : env.kindOf "option" = some .local) (hm : env.kindOf "marks" = some .local) (ha : env.kindOf "after" = some .local)
    (hn : s.heap.Ns env.locals mm) (h1 : mm "option" = some (.ref o)) (h2 : mm "marks" = some (.ref m)) (ht : s.heap.IsTuple o its.toArray) (hl : s.heap.IsList m ms.toArray)
    (hi : Vals (is.map V.int) its) (hb : Vals (bs.map V.bl) ms) (hz : ms.length ≤ sizeLine) (hin : ∀ i ∈ is, (atI bs i).isSome = true)
    (htest : ∀ (s' : Shared) (E' : Value → Shared → Prop) (Q : Bool → Shared → Prop) (b : Bool), wpAny (model prog w) A (eval (.Subscript (.Name "marks" q1) (.Name "after" q2) q3) env) (fun v s₁ => v = .bool b ∧ s₁ = s') E' s' → Q (fl ^^ b) s' → wpAny (model prog w) A (isTrue test env (eval test env)) Q E' s') :
    wpAny (model prog w) A (execs [.For (.Name "after" p1) (.Name "option" p2) [.If test [.Return (some (.Constant (.bool r1) k1 q4)) q5] [] q6] [] q7, .Return (some (.Constant (.bool r2) k2 q8)) q9] env)
      (fun f s' => f = .ret (.bool (if is.any (fun i => fl ^^ mkAt bs i) then r1 else r2)) ∧ ∃ h' tk, s' = { s with heap := h', toks := tk } ∧ ∀ b o, b ≠ env.locals → s.heap.get? b = some o → h'.get? b = some o) (fun _ _ => False) s := by
  have hp : (env.scope.kind == .class || (env.scope.kind == .module && env.locals != env.globals)) = false := by rw [hk]; rfl
  have hL : env.locals < s.heap.objs.size := hn.lt
  have hto : o < s.heap.objs.size := by obtain ⟨_, e, _⟩ := ht; exact Heap.lt_size e
  have hno : env.locals ≠ o := fun e => by
    obtain ⟨ob, es, ep, e1, e2, _⟩ := hn
    obtain ⟨ob2, f1, f2, n, f3⟩ := ht
    rw [e, f1] at e1
    cases e1
    rw [f3] at e2
    cases e2
  have hnm : env.locals ≠ m := fun e => by
    obtain ⟨ob, es, ep, e1, e2, _⟩ := hn
    obtain ⟨ob2, f1, f2, n, f3⟩ := hl
    rw [e, f1] at e1
    cases e1
    rw [f3] at e2
    cases e2
  have hml : m < s.heap.objs.size := by obtain ⟨_, e, _⟩ := hl; exact Heap.lt_size e
  have hlen : its.length = is.length := by have := hi.length; rw [List.length_map] at this; exact this.symm
  refine wpAny_execs_cons (exec_For_goes ?_)
  refine wpAny_Name (wpAny_loadName_local hk ho hn h1 ?_)
  refine wpAny_pyIter_tuple ht ?_
  refine ⟨_, _, _, _, _, _, fun i s₁ => (is.take i).any (fun i => fl ^^ mkAt bs i) = false ∧ ∃ h₁ tk m₁, s₁ = { s with heap := h₁, toks := tk } ∧ h₁.Ns env.locals m₁ ∧ m₁ "marks" = some (.ref m) ∧ ∀ b ob, b ≠ env.locals → s.heap.get? b = some ob → h₁.get? b = some ob, rfl,
    Goes.tuple hh s.heap.objs.size o (Nat.ne_of_lt hto) its.toArray, ⟨⟨_, Heap.get?_push_size _ rfl, rfl, rfl⟩, ?_⟩, ⟨by rw [List.take_zero]; rfl, _, _, mm, rfl, hn.at' fun ob e => Heap.get?_push_of_some _ e, h2, fun b ob _ e => Heap.get?_push_of_some _ e⟩, ?_, ?_, ?_⟩
  · obtain ⟨ob, e, r⟩ := ht
    exact ⟨ob, Heap.get?_push_of_some _ e, r⟩
  · rintro i s₁ h' tk ⟨ha1, h₁, tk₁, m₁, rfl, n₁, t₁, k₁⟩ hk' _
    refine ⟨ha1, h', tk, m₁, rfl, n₁.at' fun ob e => hk' _ ob (by simp; exact Nat.ne_of_lt hL) e, t₁, fun b ob hb e => hk' b ob ?_ (k₁ b ob hb e)⟩
    have hlt := Heap.lt_size e
    simp
    exact Nat.ne_of_lt hlt
  · rintro i v s₁ hi' hv st ⟨ha1, h₁, tk₁, m₁, rfl, n₁, t₁, k₁⟩
    have hv' : its[i]? = some v := by simpa using hv
    obtain ⟨x, hx⟩ : ∃ x, is[i]? = some x := ⟨_, List.getElem?_eq_getElem (by rw [← hlen]; simpa using hi')⟩
    obtain ⟨u, eu, t, rfl⟩ := hi.get (i := i) (x := V.int x) (by rw [List.getElem?_map, hx]; rfl)
    rw [hv'] at eu
    cases eu
    refine wpAny_assign_Name (wpAny_storeName_local ha n₁ (fun h₂ n₂ s₂ => ?_) hp)
    have k₂ : ∀ b ob, b ≠ env.locals → s.heap.get? b = some ob → h₂.get? b = some ob := fun b ob hb e => s₂.extBut b ob hb (k₁ b ob hb e)
    have hl₂ : h₂.IsList m ms.toArray := by
      obtain ⟨ob, e, r⟩ := hl
      exact ⟨ob, k₂ m ob hnm.symm e, r⟩
    have hbx := hin x (List.mem_of_getElem? hx)
    refine wpAny_execs_cons (wpAny_If (htest _ _ _ (mkAt bs x) (low_ix hk hm ha n₂ ((if_neg (by decide)).trans t₁) (if_pos rfl) hl₂ hb hz hbx ⟨rfl, rfl⟩) ?_))
    have hnext : (is.take (i + 1)).any (fun i => fl ^^ mkAt bs i) = (fl ^^ mkAt bs x) := by
      rw [List.take_add_one, hx, List.any_append, ha1]
      simp
    cases hc : (fl ^^ mkAt bs x) with
    | true =>
      refine wpAny_execs_cons (wpAny_Return_some ?_)
      refine low_bool ?_
      have hany : is.any (fun i => fl ^^ mkAt bs i) = true := List.any_eq_true.mpr ⟨x, List.mem_of_getElem? hx, hc⟩
      refine ⟨by rw [hany]; rfl, h₂, _, rfl, k₂⟩
    | false =>
      refine wpAny_execs_nil (wpAny_execs_nil ⟨⟨by rw [hnext, hc], h₂, _, _, rfl, n₂, (if_neg (by decide)).trans t₁, k₂⟩, ?_⟩)
      exact ⟨st.1.at fun ob e => s₂.extBut _ _ (Nat.ne_of_gt hL) e, st.2.at fun ob e => s₂.extBut _ _ hno.symm e⟩
  · rintro s₁ ⟨ha1, h₁, tk₁, m₁, rfl, n₁, t₁, k₁⟩
    refine wpAny_execs_nil (wpAny_execs_cons (wpAny_Return_some ?_))
    refine low_bool ?_
    rw [show its.toArray.size = is.length by rw [List.size_toArray, hlen], List.take_length] at ha1
    refine ⟨by rw [ha1]; rfl, h₁, _, rfl, k₁⟩
end
end NL

namespace NL
open PySem PySem.Spec PyProof.Rows L2
/-- the test of such a def: not marks[after], or marks[after] -/
def MarkTest (fl : Bool) (q1 q2 q3 : Pos) (test : Expr) : Prop :=
  (fl = true ∧ ∃ q, test = .UnaryOp .Not (.Subscript (.Name "marks" q1) (.Name "after" q2) q3) q) ∨ (fl = false ∧ test = .Subscript (.Name "marks" q1) (.Name "after" q2) q3)
/-- a def of this form -/
structure MarkFn (K : PySem.W.Frag) (nm : Str) (st : Stmt) (f : Addr) (fd : FuncData) (fl r1 r2 : Bool) : Prop where
  F : L2.Fun K nm nm st f fd
  bd : Binds K fd ["option", "marks"] []
  body : ∃ (test : Expr) (k1 k2 : Nat) (p1 p2 q1 q2 q3 q4 q5 q6 q7 q8 q9 : Pos), MarkTest fl q1 q2 q3 test ∧ defBody st = [.For (.Name "after" p1) (.Name "option" p2) [.If test [.Return (some (.Constant (.bool r1) k1 q4)) q5] [] q6] [] q7, .Return (some (.Constant (.bool r2) k2 q8)) q9]
  kind : (defScope st).kind = .function
  co : (defScope st).isCoroutine = false
  gen : (defScope st).isGenerator = false
  cell : ∀ y ∈ (defScope st).names, y.2 ≠ .cell
  lo : (defScope st).names.lookup ("option" : Str) = some .local
  lm : (defScope st).names.lookup ("marks" : Str) = some .local
  la : (defScope st).names.lookup ("after" : Str) = some .local
section
variable {prog : Program} {w : World} {A : Around} {s : Shared}
theorem mark_test {env : Env} {fl : Bool} {q1 q2 q3 : Pos} {test : Expr} (h : MarkTest fl q1 q2 q3 test) (s' : Shared) (E' : Value → Shared → Prop) (Q : Bool → Shared → Prop) (b : Bool)
    (he : wpAny (model prog w) A (eval (.Subscript (.Name "marks" q1) (.Name "after" q2) q3) env) (fun v s₁ => v = .bool b ∧ s₁ = s') E' s') (hq : Q (fl ^^ b) s') : wpAny (model prog w) A (isTrue test env (eval test env)) Q E' s' := by
  have base : ∀ Q' : Bool → Shared → Prop, Q' b s' → wpAny (model prog w) A (isTrue (.Subscript (.Name "marks" q1) (.Name "after" q2) q3) env (eval (.Subscript (.Name "marks" q1) (.Name "after" q2) q3) env)) Q' E' s' := fun Q' h' =>
    isTrue_plain (wpAny_mono he (fun v s₁ r => by
      obtain ⟨rfl, rfl⟩ := r
      exact wpAny_truthy_bool h') fun _ _ x => x)
  rcases h with ⟨rfl, q, rfl⟩ | ⟨rfl, rfl⟩
  · exact isTrue_not (base _ (by rw [Bool.true_xor] at hq; exact hq))
  · exact base _ (by rw [Bool.false_xor] at hq; exact hq)
theorem low_call {E : Value → Shared → Prop} {K : PySem.W.Frag} {nm : Str} {st : Stmt} {f : Addr} {fd : FuncData} {fl r1 r2 : Bool} (M : MarkFn K nm st f fd fl r1 r2) (hK : K.In s.heap) (hlim : s.heap.NoLimit) (hh : A.handled = none) (hd : A.depth < recursionLimit)
    {o m : Addr} {its ms : List Value} {is : List Int} {bs : List Bool} (ht : s.heap.IsTuple o its.toArray) (hl : s.heap.IsList m ms.toArray)
    (hi : Vals (is.map V.int) its) (hb : Vals (bs.map V.bl) ms) (hz : ms.length ≤ sizeLine) (hin : ∀ i ∈ is, (atI bs i).isSome = true) :
    wpAny (model prog w) A (call (.ref f) [.ref o, .ref m]) (fun y s₃ => y = .bool (if is.any (fun i => fl ^^ mkAt bs i) then r1 else r2) ∧ Keeps s s₃) E s := by
  obtain ⟨⟨⟨oc, od, kV, doc, pm, an, cdv, ct, osl, rfl, lk, hcd⟩, kp⟩, bd, ⟨test, k1, k2, p1, p2, q1, q2, q3, q4, q5, q6, q7, q8, q9, hT, hbody⟩, kind, co, gen, cell, lo, lm, la⟩ := M
  refine wpAny_call (codeAny_call_function hd (hK _ _ lk) rfl co gen rfl (PySem.W.codeRec_of hK hcd) (bd s [.ref o, .ref m] hK rfl _ _ _ _ ?_))
  refine wpAny_newFunctionEnv cell (fun y hy => ?_) (fun h₁ hns hsb => ⟨?_, ?_⟩) kind
  · rcases List.mem_cons.mp hy with rfl | hy
    · exact lo
    · rcases List.mem_cons.mp hy with rfl | hy
      · exact lm
      · cases hy
  · exact hlim.fresh _ hsb
  have kk : ∀ b ob, s.heap.get? b = some ob → h₁.get? b = some ob := fun b ob e => hsb.extBut b ob (Nat.ne_of_lt (Heap.lt_size e)) (Heap.get?_push_of_some _ e)
  refine codeAny_func ?_
  have hb2 : (PySem.W.fnOf nm nm (defArgs st) (defBody st) (defScope st) .none kV doc pm an cdv ct).body = .stmts (defBody st) := rfl
  rw [hbody]
  refine wpAny_mono (low_body (o := o) (m := m) (is := is) (bs := bs) (mm := fun x => ((["option", "marks"] : List Str).zip [Value.ref o, Value.ref m]).reverse.lookup x) hh kind lo lm la hns rfl rfl
    (by obtain ⟨ob, e, r⟩ := ht; exact ⟨ob, kk _ _ e, r⟩) (by obtain ⟨ob, e, r⟩ := hl; exact ⟨ob, kk _ _ e, r⟩) hi hb hz hin (fun s' E' Q b => mark_test hT s' E' Q b)) (fun fl' s' r => ?_) fun _ _ x => x.elim
  obtain ⟨rfl, h', tk, rfl, k'⟩ := r
  exact ⟨rfl, h', tk, rfl, fun b ob e => k' b ob (Nat.ne_of_lt (Heap.lt_size e)) (kk b ob e)⟩
end
end NL

set_option maxHeartbeats 2000000
namespace NL
open PySem PySem.Spec PyProof.Rows L2
/-- the element of a generator expression over the item u gives b, and changes nothing that stood -/
def ElV (X : Cx) (P : Addr) (scope : Scope) (nm : Str) (elt : Expr) (σ : L2.St) (H1 : Hp) (x : V) (b : Bool) : Prop :=
  ∀ (pins : List (Addr × Obj)) (s1 : Shared) (u : Value), Inv X pins σ H1 s1 → RelV x u →
    ∀ (cenv : Env) (A' : Around) (E' : Value → Shared → Prop) (s₂ : Shared) (m₂ : Str → Option Value), cenv.scope = scope → cenv.cells = cloFrom X.env.cells scope.names [] → cenv.globals = X.env.globals →
      A'.handled = none → A'.depth ≤ X.A.depth + 1 → A'.units ≤ X.A.units + 8 → s₂.heap.Ns cenv.locals m₂ → m₂ nm = some u → (∀ c o, c ≠ P → s1.heap.get? c = some o → s₂.heap.get? c = some o) →
      wpAny (model X.prog X.w) A' (eval elt cenv) (fun y s₃ => y = .bool b ∧ Keeps s₂ s₃) E' s₂
def bAt (bs : List Bool) (j : Nat) : Bool := (bs[j]?).getD false
theorem any_bAt (bs : List Bool) : (List.range bs.length).any (bAt bs) = bs.any id := by
  rw [Bool.eq_iff_iff, List.any_eq_true, List.any_eq_true]
  constructor
  · rintro ⟨j, hj, h⟩
    have hj' := List.mem_range.mp hj
    refine ⟨bs[j], List.getElem_mem hj', ?_⟩
    unfold bAt at h
    rw [List.getElem?_eq_getElem hj'] at h
    exact h
  · rintro ⟨b, hb, h⟩
    obtain ⟨j, hj, rfl⟩ := List.getElem_of_mem hb
    refine ⟨j, List.mem_range.mpr hj, ?_⟩
    unfold bAt
    rw [List.getElem?_eq_getElem hj]
    exact h
theorem all_bAt (bs : List Bool) : (List.range bs.length).all (bAt bs) = bs.all id := by
  rw [Bool.eq_iff_iff, List.all_eq_true, List.all_eq_true]
  constructor
  · intro h b hb
    obtain ⟨j, hj, rfl⟩ := List.getElem_of_mem hb
    have q := h j (List.mem_range.mpr hj)
    unfold bAt at q
    rw [List.getElem?_eq_getElem hj] at q
    exact q
  · intro h j hj
    have hj' := List.mem_range.mp hj
    unfold bAt
    rw [List.getElem?_eq_getElem hj']
    exact h _ (List.getElem_mem hj')
section
variable {X : Cx} {pins : List (Addr × Obj)} {σ : L2.St} {H : Hp} {s : Shared}
/-- the generator at g gives the truths bs, one after the other -/
def Gives (X : Cx) (pins : List (Addr × Obj)) (σ : L2.St) (H1 : Hp) (P : Addr) (bs : List Bool) (g : Addr) (s5 : Shared) : Prop :=
  ∃ (fp wr : List Addr) (G : Array GenState → Array GenState → Prop) (F : Nat → Value → Prop) (St : Nat → Shared → Prop), WalksS X.prog X.w X.A.in1 g fp wr G bs.length F St ∧ St 0 s5 ∧ TruthOf X.prog X.w X.A.in1 F (bAt bs) ∧
    ∀ s', Moved wr G s5 s' → ∃ H2, GxR.Tabbed P H1 H2 ∧ Inv X pins σ H2 s'
theorem gen_tup {c P : Addr} {elt iter : Expr} {nm : Str} {px gpos : Pos} {scope : Scope} {te : TE} {k : Nat} {Q' : Value → Shared → Prop} {R : List Bool → Hp → Prop}
    (hr : Room k X.A) (TB : GxR.TabB X.base X.mg c P) (hcode : X.env.code = .ref c) (S : GxR.GenS X.env scope nm) (hi : PE X iter te)
    (hs : ∀ v, genFold iter X.env v = pure v) (I : Inv X pins σ H s)
    (h : te σ H fun v H1 => ∃ (a : Addr) (xs : List V) (bs : List Bool), v = .ref a ∧ SqT X.K H1 a xs ∧ bs.length = xs.length ∧ GxR.TabG H1 P ∧ (∀ (i : Nat) x b, xs[i]? = some x → bs[i]? = some b → ElV X P scope nm elt σ H1 x b) ∧ R bs H1)
    (hQ : ∀ bs H1 g s5, R bs H1 → Gives X pins σ H1 P bs g s5 → Q' (.ref g) s5) :
    wpAny (model X.prog X.w) X.A (eval (.GeneratorExp elt [⟨.Name nm px, iter, [], 0⟩] scope gpos) X.env) Q' X.xe s := by
  refine wpAny_GeneratorExp_walksQD hr.hd S.co (closure_ok S.free) S.cell S.dot S.loc S.kind hr.depth ?_ hs
  refine thn (hi.run pins s σ H _ I h) fun xv s1 ⟨v, H1, I1, r1, q1⟩ => ?_
  obtain ⟨a, xs, bs, rfl, hT, hbl, ⟨ps, hP, ht⟩, hE, hR⟩ := q1
  obtain rfl : xv = Value.ref a := r1
  obtain ⟨its, rv, pl, hz⟩ := I1.tuple hT
  have plT : s1.heap.IsTuple a its.toArray := pl
  have hPs : s1.heap.get? P = some { cls := .none, data := .fields ps } := I1.hok P _ hP
  have hPlt : P < s1.heap.objs.size := Heap.lt_size hPs
  have halt : a < s1.heap.objs.size := by
    obtain ⟨_, e, _⟩ := pl
    exact Heap.lt_size e
  have haP : a ≠ P := fun e => by
    obtain ⟨ob, e1, e2, _⟩ := pl
    rw [e, hPs] at e1
    cases e1
    cases e2
  have hil : its.length = bs.length := by rw [hbl]; exact rv.length.symm
  refine wpAny_pyIter_tuple plT ?_
  generalize ho : ({ cls := Value.type "tuple_iterator", data := Data.fields #[Value.ref a, Value.int 0 0] } : Obj) = ob
  have hP2 : (s1.heap.push ob).get? P = some { cls := .none, data := .fields ps } := Heap.get?_push_of_some _ hPs
  have cd : PySem.W.CodeHd (s1.heap.push ob) c P := TB.code.keeps fun b u e => Heap.get?_push_of_some _ (I1.bk b u e)
  have lim2 : (s1.heap.push ob).NoLimit := I1.nolimit.push ob
  have hst0 : (s1.heap.push ob).IsTupleIter s1.heap.objs.size a 0 ∧ (s1.heap.push ob).IsTuple a its.toArray := by
    refine ⟨⟨ob, Heap.get?_push_size _ (by rw [← ho] <;> rfl), ?_, ?_⟩, ?_⟩
    · rw [← ho]
    · rw [← ho] <;> rfl
    · obtain ⟨o2, e, r⟩ := pl
      exact ⟨o2, Heap.get?_push_of_some _ e, r⟩
  have cont : ∀ (code : Value) (h3 : Heap) (tk : Nat) (ps' : Array Value), Heap.ExtBut P (s1.heap.push ob) h3 → (s1.heap.push ob).objs.size ≤ h3.objs.size → h3.get? P = some { cls := .none, data := .fields ps' } → (∃ more, ps' = ps ++ more) → TriplesOk ps'.toList →
      wpAny (model X.prog X.w) X.A (builtinsFor X.env.globals X.env.builtins) (fun bi s₄ =>
        ∃ Ia fp wr n₀ Pf St₀ pz F, Value.ref s1.heap.objs.size = .ref Ia ∧ (∀ A' : Around, A'.handled = none → Walks X.prog X.w A' Ia fp wr n₀ Pf St₀) ∧ St₀ 0 s₄.heap ∧ (∀ b ∈ fp, b < s₄.heap.objs.size) ∧ s₄.heap.NoLimit ∧ cStatics ∉ wr ∧
          (∀ href : Heap, (∀ b o, s₄.heap.get? b = some o → href.get? b = some o) →
            QuietGenD X.prog X.w (genEnv scope (cloFrom X.env.cells scope.names []) s₄.heap.objs.size code bi X.env) nm [] elt (List.range s₄.heap.objs.size) wr Pf pz F href (X.A.depth + 1) (X.A.units + 8)) ∧
          (∀ a h₅ tk gs, gs.bare = true → s₄.heap.objs.size < a → h₅.objs.size = a + 1 → (∀ b o, s₄.heap.get? b = some o → h₅.get? b = some o) →
            WalksS X.prog X.w X.A.in4 a (a :: s₄.heap.objs.size :: List.range s₄.heap.objs.size) (s₄.heap.objs.size :: wr) (GenOnlyQ s₄.gens.size) (passing pz n₀ 0).length
              (fun j y => ∃ i, (passing pz n₀ 0)[j]? = some i ∧ F i y) (GenAt X.prog X.w X.A.in4 a s₄.gens.size s₄.heap.objs.size (List.range s₄.heap.objs.size) wr pz n₀ F) →
            GenAt X.prog X.w X.A.in4 a s₄.gens.size s₄.heap.objs.size (List.range s₄.heap.objs.size) wr pz n₀ F 0 { s₄ with gens := s₄.gens.push gs, toks := tk, heap := h₅ } →
            Q' (.ref a) { s₄ with gens := s₄.gens.push gs, toks := tk, heap := h₅ })) X.xe { s1 with heap := h3, toks := tk } := by
    intro code h3 tk ps' hx hsz hP3 hmore ht3
    obtain ⟨bm, obm, e1, e2, e3, e4, e5, e6, e7, e8⟩ := TB.bm
    have hcP : cStatics ≠ P := fun e => by
      obtain ⟨_, hns, _⟩ := I1.nolimit
      obtain ⟨o', es, ep, ho', hd, _⟩ := hns
      rw [e, hPs] at ho'
      cases ho'
      cases hd
    have hcl : cStatics < s1.heap.objs.size := let ⟨_, hns, _⟩ := I1.nolimit; hns.lt
    have sz2 : (s1.heap.push ob).objs.size = s1.heap.objs.size + 1 := Heap.size_push ..
    have keep3 : ∀ b u, b ≠ P → s1.heap.get? b = some u → h3.get? b = some u := fun b u hb e => hx b u hb (Heap.get?_push_of_some _ e)
    have h0lt : s1.heap.objs.size < h3.objs.size := Nat.lt_of_lt_of_le (Nat.lt_succ_self _) (by rw [sz2] at hsz; exact hsz)
    have hIP : s1.heap.objs.size ≠ P := Nat.ne_of_gt hPlt
    refine wpAny_builtinsFor (m := X.mg) (by rw [I1.ok.glob]; exact ((I1.mod.glob.keeps I1.bk).push ob).extBut hx TB.gP) e1 e2 (keep3 _ _ e4 (I1.bk _ _ e5)) e6 e7 e8 ?_
    refine ⟨s1.heap.objs.size, [s1.heap.objs.size, a], [s1.heap.objs.size], its.toArray.size, (fun i v => its.toArray[i]? = some v), (fun i h => h.IsTupleIter s1.heap.objs.size a i ∧ h.IsTuple a its.toArray), (fun _ => true), (fun i y => ∃ b, bs[i]? = some b ∧ y = .bool b), rfl,
      (fun A' hA => Walks.tuple hA s1.heap.objs.size a (Nat.ne_of_lt halt) its.toArray), ?_, ?_, lim2.extBut hx hcP, ?_, ?_, ?_⟩
    · refine ⟨?_, ?_⟩
      · obtain ⟨o2, f1, f2⟩ := hst0.1
        exact ⟨o2, hx _ _ hIP f1, f2⟩
      · obtain ⟨o2, f1, f2⟩ := hst0.2
        exact ⟨o2, hx _ _ haP f1, f2⟩
    · intro b hb
      show b < h3.objs.size
      rcases List.mem_cons.mp hb with z | z
      · rw [z]
        exact h0lt
      · rw [List.mem_singleton.mp z]
        exact Nat.lt_trans halt h0lt
    · intro z
      exact Nat.ne_of_lt hcl (List.mem_singleton.mp z)
    · intro href hhref
      refine ⟨fun A' E' i v s₂ m₂ hA hD hU hPv hn hm hk => ?_, fun A' E' i v s₂ m₂ hA hD hU hPv hp hn hm hk => ?_⟩
      · simp only [List.forIn_nil]
        exact wpAny_pure ⟨rfl, GxR.keeps_refl _⟩
      · have hv : its[i]? = some v := by simpa using hPv
        have hib : i < bs.length := by rw [← hil]; exact (List.getElem?_eq_some_iff.mp hv).1
        have hix : i < xs.length := by rw [← hbl]; exact hib
        obtain ⟨u, eu, ru⟩ := rv.get (List.getElem?_eq_getElem hix)
        rw [hv] at eu
        cases eu
        have hb2 := List.getElem?_eq_getElem hib
        refine wpAny_mono (hE i _ _ (List.getElem?_eq_getElem hix) hb2 pins s1 v I1 ru _ A' E' s₂ m₂ rfl rfl rfl hA hD hU hn hm fun b o hb e => ?_) (fun y s3 r => ⟨⟨_, hb2, r.1⟩, r.2⟩) fun _ _ e => e
        have e3 := keep3 b o hb e
        exact hk b (List.mem_range.mpr (Heap.lt_size e3)) (fun z => by
          have hlt := Heap.lt_size e
          rw [List.mem_singleton.mp z] at hlt
          exact Nat.lt_irrefl _ hlt) o (hhref b o e3)
    · intro g h5 tk5 gs hgb hag hsz5 hk5 W5 hat
      simp only [GxR.passing_true, List.length_range, List.size_toArray, hil] at W5
      have hat2 := hat
      simp only [List.size_toArray, hil] at hat2
      refine hQ bs H1 g _ hR ⟨_, _, _, _, _, W5.in4_1, hat2, ?_, fun s' hm => ?_⟩
      · intro j y sj Qj Ej hy hQj
        obtain ⟨i, hij, b, hb, rfl⟩ := hy
        obtain ⟨hj, ej⟩ := List.getElem?_eq_some_iff.mp hij
        rw [List.getElem_range] at ej
        subst ej
        have hQ2 : Qj (bAt bs j) sj := hQj
        unfold bAt at hQ2
        rw [hb] at hQ2
        exact wpAny_truthy_bool hQ2
      · obtain ⟨more, em⟩ := hmore
        have nwr : ∀ b u, s1.heap.get? b = some u → b ∉ h3.objs.size :: [s1.heap.objs.size] := fun b u e hb => by
          have hl := Heap.lt_size e
          rcases List.mem_cons.mp hb with z | z
          · rw [z] at hl
            have h9 : (h3.objs.size : Nat) < s1.heap.objs.size := hl
            omega
          · rw [List.mem_singleton.mp z] at hl
            exact Nat.lt_irrefl _ hl
        have J := GxR.inv_tab (more := more) (h' := s'.heap) (g' := s'.gens) (d' := s'.drawn) (t' := s'.toks) I1 hP (fun b u hb e => hm.heap b u (nwr b u e) (hk5 b u (keep3 b u hb e)))
          (by rw [← em]; exact hm.heap P _ (nwr P _ hPs) (hk5 P _ hP3)) (AllBare.movedS (I1.bare.push hgb) hm)
        rw [GxR.sh_eta s1 s' hm.os] at J
        exact ⟨upd H1 P (.tbl (ps ++ more)), ⟨⟨ps ++ more, upd_same, by rw [← em]; exact ht3⟩, fun b hb => upd_ne hb⟩, J⟩
  refine ⟨lim2, ?_⟩
  cases hf : codeAmong gpos ps.toList with
  | none =>
    refine wpAny_genexprCodeX hcode (cd.code hP2 ht) (cd.tab hP2) hf fun c' h' tk hx hge hlt hco' _ htab' _ => ?_
    obtain ⟨o1, vs, f1, tf, fl, tg, inF, tx, tt, op, _, _, _, _, _, _, _, _, _, htr, _⟩ := hco'
    exact cont _ h' tk _ hx (Nat.le_trans hge (Nat.le_of_lt hlt)) htab'.2 ⟨_, rfl⟩ htr
  | some cv =>
    refine wpAny_genexprCode_hit hcode (cd.code hP2 ht) hf ?_
    exact cont cv (s1.heap.push ob) s1.toks ps (Heap.ExtBut.refl _ _) (Nat.le_refl _) hP2 ⟨#[], by simp⟩ ht
/-- any(test for nm in e), all(test for nm in e), e a tuple -/
def tGenM (X : Cx) (P : Addr) (scope : Scope) (nm : Str) (elt : Expr) (f : List Bool → Bool) (te : TE) : TE := fun σ H Q => te σ H fun v H1 => ∃ (a : Addr) (xs : List V) (bs : List Bool), v = .ref a ∧ SqT X.K H1 a xs ∧ bs.length = xs.length ∧ GxR.TabG H1 P ∧
  (∀ (i : Nat) x b, xs[i]? = some x → bs[i]? = some b → ElV X P scope nm elt σ H1 x b) ∧ ∀ H2, GxR.Tabbed P H1 H2 → Q (.bl (f bs)) H2
theorem pe_anyM {c P : Addr} {elt iter : Expr} {nm : Str} {px p pos gpos : Pos} {scope : Scope} {te : TE} {k : Nat}
    (hr : Room k X.A) (hg : Gl X "any") (hm : X.mg "any" = none) (TB : GxR.TabB X.base X.mg c P) (hcode : X.env.code = .ref c) (S : GxR.GenS X.env scope nm) (hi : PE X iter te)
    (hs : ∀ v, genFold iter X.env v = pure v)
    (he : starEach [.GeneratorExp elt [⟨.Name nm px, iter, [], 0⟩] scope gpos] X.env = (false, eval (.GeneratorExp elt [⟨.Name nm px, iter, [], 0⟩] scope gpos) X.env) :: starEach [] X.env := by rfl) :
    PE X (.Call (.Name "any" p) [.GeneratorExp elt [⟨.Name nm px, iter, [], 0⟩] scope gpos] [] pos) (tGenM X P scope nm elt (·.any id) te) := by
  refine ⟨fun pins s σ H Q I h => ?_⟩
  refine wpAny_Call_Name_kw (ld_blt I hg hm boot_any ?_)
  refine PyProof.Rows.callWith_builtin1 ?_ he (by rfl)
  rw [he]
  show wpAny _ _ (spliced ((false, eval (.GeneratorExp elt [⟨.Name nm px, iter, [], 0⟩] scope gpos) X.env) :: backTo pos (starEach [] X.env))) _ _ s
  refine Calls.spliced_cons (gen_tup (R := fun bs H1 => ∀ H2, GxR.Tabbed P H1 H2 → Q (.bl (bs.any id)) H2) hr TB hcode S hi hs I h fun bs H1 g s5 hR hG => ?_)
  obtain ⟨fp, wr, G, F, St, W, hst, htr, hI⟩ := hG
  refine Calls.spliced_nil (call_any_walkS (W.self 0 _ _ _ hst ⟨g, fp, wr, G, _, F, St, _, rfl, W, hst, htr, fun s' hmv => ?_⟩))
  obtain ⟨H2, hT, J⟩ := hI s' hmv
  refine ⟨.bl _, H2, J, rfl, ?_⟩
  rw [any_bAt]
  exact hR H2 hT
theorem pe_allM {c P : Addr} {elt iter : Expr} {nm : Str} {px p pos gpos : Pos} {scope : Scope} {te : TE} {k : Nat}
    (hr : Room k X.A) (hg : Gl X "all") (hm : X.mg "all" = none) (hb : bootBuiltins "all" = some (.builtin "all")) (TB : GxR.TabB X.base X.mg c P) (hcode : X.env.code = .ref c) (S : GxR.GenS X.env scope nm) (hi : PE X iter te)
    (hs : ∀ v, genFold iter X.env v = pure v)
    (he : starEach [.GeneratorExp elt [⟨.Name nm px, iter, [], 0⟩] scope gpos] X.env = (false, eval (.GeneratorExp elt [⟨.Name nm px, iter, [], 0⟩] scope gpos) X.env) :: starEach [] X.env := by rfl) :
    PE X (.Call (.Name "all" p) [.GeneratorExp elt [⟨.Name nm px, iter, [], 0⟩] scope gpos] [] pos) (tGenM X P scope nm elt (·.all id) te) := by
  refine ⟨fun pins s σ H Q I h => ?_⟩
  refine wpAny_Call_Name_kw (ld_blt I hg hm hb ?_)
  refine PyProof.Rows.callWith_builtin1 ?_ he (by rfl)
  rw [he]
  show wpAny _ _ (spliced ((false, eval (.GeneratorExp elt [⟨.Name nm px, iter, [], 0⟩] scope gpos) X.env) :: backTo pos (starEach [] X.env))) _ _ s
  refine Calls.spliced_cons (gen_tup (R := fun bs H1 => ∀ H2, GxR.Tabbed P H1 H2 → Q (.bl (bs.all id)) H2) hr TB hcode S hi hs I h fun bs H1 g s5 hR hG => ?_)
  obtain ⟨fp, wr, G, F, St, W, hst, htr, hI⟩ := hG
  refine Calls.spliced_nil (call_all_walkS (W.self 0 _ _ _ hst ⟨g, fp, wr, G, _, F, St, _, rfl, W, hst, htr, fun s' hmv => ?_⟩))
  obtain ⟨H2, hT, J⟩ := hI s' hmv
  refine ⟨.bl _, H2, J, rfl, ?_⟩
  rw [all_bAt]
  exact hR H2 hT
end
end NL

set_option maxHeartbeats 2000000
namespace NL
open PySem PySem.Spec PyProof.Rows L2
theorem elv_mark {X : Cx} {P : Addr} {scope : Scope} {fnm : Str} {st : Stmt} {f : Addr} {fd : FuncData} {fl r1 r2 : Bool} {p p1 p2 pos : Pos} {σ : L2.St} {H1 : Hp} {k i : Nat} {m o : Addr} {is : List Int} {bs : List Bool}
    (M : MarkFn X.K fnm st f fd fl r1 r2) (hmg : X.mg fnm = some (.ref f)) (hr : Room k X.A) (hsk : scope.kind = .function) (hsl : scope.names.lookup ("option" : Str) = some .local) (hsf : scope.names.lookup ("marks" : Str) = some .free)
    (hsg : scope.names.lookup fnm = some .globalImplicit) (hclo : cloFrom X.env.cells scope.names [] = [(("marks" : Str), (X.env.cells.lookup ("marks" : Str)).getD 0)])
    (hN : X.N[i]? = some ("marks" : Str)) (hcell : X.env.kindOf ("marks" : Str) = some .cell) (hσ : σ[i]? = some (some (.ref m))) (hP : GxR.TabG H1 P)
    (hm : H1 m = some (.lst (bs.map V.bl))) (ho : H1 o = some (.tup (is.map V.int))) (hin : ∀ i ∈ is, (atI bs i).isSome = true)
    (hdb : (fnm == ("__debug__" : Str)) = false) :
    ElV X P scope "option" (.Call (.Name fnm p) [.Name "option" p1, .Name "marks" p2] [] pos) σ H1 (.ref o) (if is.any (fun i => fl ^^ mkAt bs i) then r1 else r2) := by
  intro pins s1 u I ru cenv A' E' s₂ m₂ hsc hce hgl hA hD hU hn2 hm2 hk
  obtain rfl : u = Value.ref o := ru
  obtain ⟨ps, hP, _⟩ := hP
  have hnP : ∀ b, H1 b = none → b ≠ P := fun b e z => by
    rw [z, hP] at e
    cases e
  have hb : ∀ b ob, X.base.get? b = some ob → s₂.heap.get? b = some ob := fun b ob e => hk b ob (hnP b (I.bs b ob e).2) (I.bk b ob e)
  have hKs : X.K.In s₂.heap := I.ok.mod.kin.keeps hb
  obtain ⟨its, rv, plo, _⟩ := I.tuple (a := o) (xs := is.map V.int) (.inl (.inl ho))
  obtain ⟨ms, rm, plm, hz⟩ := I.list (a := m) (xs := bs.map V.bl) (.inl (.inl hm))
  have hnT : ∀ {b : Addr} {q : HO}, H1 b = some q → (∀ qs, q ≠ .tbl qs) → b ≠ P := fun {b q} e n z => by
    rw [z, hP] at e
    exact n ps (Option.some.inj e).symm
  have ht2 : s₂.heap.IsTuple o its.toArray := by
    obtain ⟨ob, e, r⟩ := plo
    exact ⟨ob, hk o ob (hnT ho (fun qs z => nomatch z)) e, r⟩
  have hl2 : s₂.heap.IsList m ms.toArray := by
    obtain ⟨ob, e, r⟩ := plm.isList
    exact ⟨ob, hk m ob (hnT hm (fun qs z => nomatch z)) e, r⟩
  obtain ⟨mm, _, hloc⟩ := I.loc
  obtain ⟨v, rv2, hlook⟩ := hloc i _ _ hN hσ (.inr (.inl hcell))
  obtain rfl : v = Value.ref m := rv2
  obtain ⟨c, hc1, hc2⟩ : ∃ c, X.env.cells.lookup ("marks" : Str) = some c ∧ s1.heap.IsCell c (some (.ref m)) := by
    rcases hlook with ⟨h1, _⟩ | ⟨_, c, h1, h2⟩
    · rw [hcell] at h1
      cases h1
    · exact ⟨c, h1, h2⟩
  have hc3 : s₂.heap.IsCell c (some (.ref m)) := by
    obtain ⟨ob, e, r⟩ := hc2
    exact ⟨ob, hk c ob (hnP c (I.freeC _ _ hc1)) e, r⟩
  have hcl : cenv.cells.lookup ("marks" : Str) = some c := by
    rw [hce, hclo, hc1]
    rfl
  have hkind : cenv.scope.kind = .function := by rw [hsc]; exact hsk
  have kOf : ∀ x kd, scope.names.lookup x = some kd → cenv.kindOf x = some kd := fun x kd e => by
    show cenv.scope.names.lookup x = some kd
    rw [hsc]
    exact e
  refine wpAny_Call_Name_kw (Calls.Name_function_global hkind (kOf _ _ hsg) (Calls.loadGlobal_global (by rw [hgl, I.ok.glob]; exact I.mod.glob.keeps hb) hmg ?_) hdb)
  refine PySem.W.callWith_K (h₀ := X.base) I.ok.mod.kin M.F.kp ?_
  show wpAny _ _ (spliced ((false, eval (.Name "option" p1) cenv) :: (false, eval (.Name "marks" p2) cenv) :: [])) _ _ s₂
  refine Calls.spliced_cons (wpAny_Name (wpAny_loadName_local hkind (kOf _ _ hsl) hn2 hm2 ?_))
  refine Calls.spliced_cons (wpAny_Name (wpAny_loadName_free hkind (kOf _ _ hsf) hcl hc3 ?_))
  refine Calls.spliced_nil ⟨hKs, ?_⟩
  have dp := hr.dp
  exact low_call M hKs (I.ok.mod.nolimit.keeps hb) hA (by omega) ht2 hl2 rv rm (by rw [← rm.length]; exact hz) hin
end NL

set_option maxHeartbeats 2000000
namespace NL
open PySem PySem.Spec PyProof.Rows L2
/-! ### what is kept by a def whose table may grow -/
def NT : HO → Prop
  | .tbl _ => False
  | _ => True
structure Sm (P : Addr) (H H' : Hp) : Prop where
  fr : ∀ b o, NT o → H b = some o → H' b = some o
  tb : GxR.TabG H P → GxR.TabG H' P
  dom : ∀ b, H' b = none → H b = none
theorem Sm.refl {P : Addr} {H : Hp} : Sm P H H := ⟨fun _ _ _ e => e, fun h => h, fun _ e => e⟩
theorem Sm.trans {P : Addr} {H H1 H2 : Hp} (a : Sm P H H1) (b : Sm P H1 H2) : Sm P H H2 := ⟨fun c o n e => b.fr c o n (a.fr c o n e), fun h => b.tb (a.tb h), fun c e => a.dom c (b.dom c e)⟩
theorem Sm.of {P : Addr} {H H' : Hp} (s : Same H H') : Sm P H H' := ⟨fun b o _ e => s b o e, fun ⟨ps, e, t⟩ => ⟨ps, s _ _ e, t⟩, fun b e => s.free e⟩
theorem Sm.tbd {P : Addr} {H H' : Hp} (t : GxR.TabG H P) (h : GxR.Tabbed P H H') : Sm P H H' := by
  refine ⟨fun b o n e => ?_, fun _ => h.1, fun b e => ?_⟩
  · by_cases hb : b = P
    · obtain ⟨ps, e2, _⟩ := t
      rw [hb, e2] at e
      cases e
      cases n
    · rw [h.2 b hb]
      exact e
  · by_cases hb : b = P
    · obtain ⟨ps, e2, _⟩ := h.1
      rw [hb, e2] at e
      cases e
    · rw [← h.2 b hb]
      exact e
theorem Sm.tup {P : Addr} {H H' : Hp} {b : Addr} {xs : List V} (h : Sm P H H') (e : H b = some (.tup xs)) : H' b = some (.tup xs) := h.fr b _ trivial e
theorem Sm.lst {P : Addr} {H H' : Hp} {b : Addr} {xs : List V} (h : Sm P H H') (e : H b = some (.lst xs)) : H' b = some (.lst xs) := h.fr b _ trivial e
theorem Sm.dK {P : Addr} {H H' : Hp} {b : Addr} {xs : List (Key × V)} (h : Sm P H H') (e : H b = some (.dK xs)) : H' b = some (.dK xs) := h.fr b _ trivial e
theorem Sm.tp {P : Addr} {H H' : Hp} (h : Sm P H H') : Tp H H' := fun a xs e => h.tup e
theorem Sm.put {P : Addr} {H H' : Hp} {p : Addr} {o : HO} (s : Sm P H H') (hp : H p = none) (hP : p ≠ P) : Sm P H (upd H' p o) := by
  refine ⟨fun b u n e => ?_, fun t => ?_, fun b e => ?_⟩
  · rw [upd_ne (ne_of_none e hp)]
    exact s.fr b u n e
  · obtain ⟨ps, e, t⟩ := s.tb t
    exact ⟨ps, by rw [upd_ne (Ne.symm hP)]; exact e, t⟩
  · by_cases hb : b = p
    · rw [hb]
      exact hp
    · rw [upd_ne hb] at e
      exact s.dom b e
theorem Sm.seqT {P : Addr} {K : PySem.W.Frag} {H H' : Hp} {a : Addr} {xs : List V} (s : Sm P H H') (h : SqT K H a xs) : SqT K H' a xs := by
  rcases h with (h | ⟨o, h⟩) | h
  · exact .inl (.inl (s.fr _ _ trivial h))
  · exact .inl (.inr ⟨o, s.fr _ _ trivial h⟩)
  · exact .inr h
theorem Sm.seqL {P : Addr} {K : PySem.W.Frag} {H H' : Hp} {a : Addr} {xs : List V} (s : Sm P H H') (h : SqL K H a xs) : SqL K H' a xs := by
  rcases h with (h | ⟨o, h⟩) | h
  · exact .inl (.inl (s.fr _ _ trivial h))
  · exact .inl (.inr ⟨o, s.fr _ _ trivial h⟩)
  · exact .inr h
theorem TabG.ne {H : Hp} {P b : Addr} {o : HO} (t : GxR.TabG H P) (n : NT o) (e : H b = some o) : b ≠ P := fun z => by
  obtain ⟨ps, e2, _⟩ := t
  rw [z, e2] at e
  cases e
  cases n
theorem TabG.ne0 {H : Hp} {P b : Addr} (t : GxR.TabG H P) (e : H b = none) : b ≠ P := fun z => by
  obtain ⟨ps, e2, _⟩ := t
  rw [z, e2] at e
  cases e
theorem TabG.same {H H' : Hp} {P : Addr} (t : GxR.TabG H P) (s : Same H H') : GxR.TabG H' P := by
  obtain ⟨ps, e2, r⟩ := t
  exact ⟨ps, s _ _ e2, r⟩
theorem TabG.put {H : Hp} {P p : Addr} {o : HO} (t : GxR.TabG H P) (hp : p ≠ P) : GxR.TabG (upd H p o) P := by
  obtain ⟨ps, e2, r⟩ := t
  exact ⟨ps, by rw [upd_ne (Ne.symm hp)]; exact e2, r⟩
theorem Go.tab {d P : Addr} {H H' : Hp} (g : Go d H H') (h : Dr H d) (t : GxR.TabG H P) : GxR.TabG H' P := by
  obtain ⟨ps, e2, r⟩ := t
  refine ⟨ps, g.fr P _ (fun z => ?_) e2, r⟩
  obtain ⟨ns, e⟩ := h
  rw [← z, e2] at e
  cases e
/-! ### a def whose code has a table -/
theorem gens_of {env : Env} {scope : Scope} {x : Str} (a : scope.kind = .function) (b : scope.isCoroutine = false) (c : ∀ y ∈ scope.names, y.2 ≠ .cell) (d : scope.names.lookup (".0" : Str) = some NameKind.local) (e : scope.names.lookup x = some .local)
    (f : ∀ y ∈ scope.names, y.2 = .free → ∃ c, env.cells.lookup y.1 = some c) : GxR.GenS env scope x := ⟨a, b, c, d, e, f⟩
theorem cells_has {qual : Str} {sc scope : Scope} {L f : Addr} {cd : Value} (h : ∀ y ∈ scope.names, y.2 = .free → sc.names.lookup y.1 = some .cell) : ∀ y ∈ scope.names, y.2 = .free → ∃ c, (envOfC qual sc L f cd).cells.lookup y.1 = some c := fun y hy e =>
  Option.isSome_iff_exists.mp (PySem.W.cellsFrom_some _ _ _ (.inl (h y hy e)))
theorem okCf {P : Program} {w : World} {K : PySem.W.Frag} {mg : Str → Option Value} {base : Heap} {x qual : Str} {st : Stmt} {f c : Addr} {fd : FuncData} {N ps : List Str} {k : Nat} {sp : Sp} (F : L2.Fun K x qual st f fd) (hc : fd.code = .ref c) (S : FnScope N ps (defScope st)) (len : ∀ vs H Q E, sp vs H Q E → vs.length = ps.length)
    (hbody : ∀ (A : Around) (outer : List Env) (s : Shared) (H : Hp) (vs : List V) (Q : VK) (E : XK), Room k (A.deeper (envOfC qual (defScope st) s.heap.objs.size f (.ref c))) → sp vs H Q E →
      ∃ t, PSs (cxOf CX0 P w K mg base N qual (defScope st) f (.ref c) A outer s H E).nox (defBody st) t ∧ t { nx := fun _ H' => Q .non H', rt := Q } (start N vs) H) : FnOk P w K mg base CX0 (k + 1) f fd ps sp := by
  obtain ⟨⟨oc, od, kV, doc, pm, an, cdv, ct, osl, rfl, lk, hcd⟩, kp⟩ := F
  obtain rfl : cdv = .ref c := hc
  refine fn_of lk hcd S len fun A outer s H vs Q E hr hsp => ?_
  obtain ⟨t, h, q⟩ := hbody A outer s H vs Q E hr hsp
  exact ⟨t, h.nox, q⟩
/-! ### forces -/
def frcF (side : Int) (os : Pos') (bs : List Bool) : Bool := if side = 0 then os.any (fun o => o.all (mkAt bs)) else os.all (fun o => o.any (mkAt bs))
section
variable {P : Program} {w : World} {K : PySem.W.Frag} {mg : Str → Option Value} {base : Heap}
def spForces (K : PySem.W.Frag) (Pt : Addr) : Sp := fun vs H Q _ => ∃ (side : Int) (v : V) (m : Addr) (os : Pos') (bs : List Bool), vs = [.int side, v, .ref m] ∧ PosIn H os v ∧ H m = some (.lst (bs.map V.bl)) ∧ GxR.TabG H Pt ∧ (∀ o ∈ os, ∀ i ∈ o, (atI bs i).isSome = true) ∧
  ∀ H', Sm Pt H H' → Q (.bl (frcF side os bs)) H'
theorem mark_all (T : Txt K mg) : MarkFn K "_all_marked" s_all_marked T.a_all_marked T.d_all_marked true false true :=
  ⟨T.F_all_marked, T.b_all_marked, ⟨_, _, _, _, _, _, _, _, _, _, _, _, _, _, .inl ⟨rfl, _, rfl⟩, rfl⟩, rfl, rfl, rfl, by decide +kernel, by decide +kernel, by decide +kernel, by decide +kernel⟩
theorem mark_some (T : Txt K mg) : MarkFn K "_some_marked" s_some_marked T.a_some_marked T.d_some_marked false true false :=
  ⟨T.F_some_marked, T.b_some_marked, ⟨_, _, _, _, _, _, _, _, _, _, _, _, _, _, .inr ⟨rfl, rfl⟩, rfl⟩, rfl, rfl, rfl, by decide +kernel, by decide +kernel, by decide +kernel, by decide +kernel⟩
theorem not_any {α : Type} (l : List α) (p : α → Bool) : (if l.any (fun i => true ^^ p i) = true then false else true) = l.all p := by
  cases h : l.any (fun i => true ^^ p i) with
  | true =>
    obtain ⟨x, hx, hp⟩ := List.any_eq_true.mp h
    rw [if_pos rfl]
    exact (List.all_eq_false.mpr ⟨x, hx, by simpa using hp⟩).symm
  | false =>
    rw [if_neg Bool.false_ne_true]
    refine (List.all_eq_true.mpr fun x hx => ?_).symm
    have := List.any_eq_false.mp h x hx
    simpa using this
theorem ok_forces (T : Txt K mg) {c Pt : Addr} (TB : GxR.TabB base mg c Pt) (hc : T.dforces.code = .ref c) : FnOk P w K mg base CX0 2 T.aforces T.dforces Pforces (spForces K Pt) := by
  refine okCf T.Fforces hc scforces (fun vs H Q E h => ?_) (fun A outer s H vs Q E hr h => ?_)
  · obtain ⟨side, v, m, os, bs, rfl, _⟩ := h
    rfl
  obtain ⟨side, v, m, os, bs, rfl, ⟨b0, xs, rfl, e0, hxs⟩, hm, hT, hin, q⟩ := h
  have hC : Cx.env (cxOf CX0 P w K mg base Nforces "forces" (defScope sforces) T.aforces (.ref c) A outer s H E).nox = envOfC "forces" (defScope sforces) s.heap.objs.size T.aforces (.ref c) := rfl
  refine ⟨_, (pss_cons (ps_if (pt_cmpR op_eq (pv 0) (pe_glob rfl T.g_CONTROLLER T.r_CONTROLLER) (nomark _))
    (pss_one (ps_ret (pe_anyM hr (by rfl) T.z_any TB rfl (gens_of (by rfl) (by rfl) (by decide) (by rfl) (by rfl) (cells_has (by decide))) (pv 1) (fun _ => rfl))))
    pss_nil)
    (pss_one (ps_ret (pe_allM hr (by rfl) T.z_all (by decide +kernel) TB rfl (gens_of (by rfl) (by rfl) (by decide) (by rfl) (by rfl) (cells_has (by decide))) (pv 1) (fun _ => rfl))))), ?_⟩
  refine ⟨_, rfl, rfl, _, rfl, ?_⟩
  refine ite2 (fun z => ?_) (fun z => ?_)
  · have hs0 : side = 0 := int_eq z
    refine ⟨_, rfl, b0, xs, os.map (fun o => o.all (mkAt bs)), rfl, .inl (.inl e0), by rw [List.length_map]; exact hxs.1.symm, hT, fun i x b hx hb => ?_, fun H2 h2 => ?_⟩
    · rw [List.getElem?_map] at hb
      obtain ⟨o, ho, rfl⟩ := Option.map_eq_some_iff.mp hb
      obtain ⟨bo, rfl, eo⟩ := hxs.2 i o x ho hx
      rw [← not_any o (mkAt bs)]
      exact elv_mark (i := 2) (mark_all T) T.m_all_marked hr (by rfl) (by rfl) (by rfl) (by rfl) (by rfl) (by rfl) (by rfl) (by rfl) hT hm eo (hin o (List.mem_of_getElem? ho)) (by decide +kernel)
    · have e : frcF side os bs = (os.map (fun o => o.all (mkAt bs))).any id := by
        unfold frcF
        rw [if_pos hs0, List.any_map]
        rfl
      have q3 := q H2 (.tbd hT h2)
      rw [e] at q3
      exact q3
  · have hs0 : side ≠ 0 := int_ne z
    refine ⟨_, rfl, b0, xs, os.map (fun o => o.any (mkAt bs)), rfl, .inl (.inl e0), by rw [List.length_map]; exact hxs.1.symm, hT, fun i x b hx hb => ?_, fun H2 h2 => ?_⟩
    · rw [List.getElem?_map] at hb
      obtain ⟨o, ho, rfl⟩ := Option.map_eq_some_iff.mp hb
      obtain ⟨bo, rfl, eo⟩ := hxs.2 i o x ho hx
      have e : (if (o.any fun i => false ^^ mkAt bs i) = true then true else false) = o.any (mkAt bs) := by
        rw [show (fun i => false ^^ mkAt bs i) = mkAt bs from funext fun i => Bool.false_xor _]
        cases o.any (mkAt bs) <;> rfl
      rw [← e]
      exact elv_mark (i := 2) (mark_some T) T.m_some_marked hr (by rfl) (by rfl) (by rfl) (by rfl) (by rfl) (by rfl) (by rfl) (by rfl) hT hm eo (hin o (List.mem_of_getElem? ho)) (by decide +kernel)
    · have e : frcF side os bs = (os.map (fun o => o.any (mkAt bs))).all id := by
        unfold frcF
        rw [if_neg hs0, List.all_map]
        rfl
      have q3 := q H2 (.tbd hT h2)
      rw [e] at q3
      exact q3
end
end NL

set_option maxHeartbeats 2000000
namespace NL
open PySem PySem.Spec PyProof.Rows L2
/-- the end of a law whose program holds a generator expression in the def nm -/
theorem walk_tab {l : PySem.W.OpenLaw} {n k : Nat} {q : Program} {loose : List Str} {XP : (Str → Option Value) → Heap → Prop} {YP : World → Heap → Prop} {d : DefRec} {K : Params → PySem.W.Frag} {CX : World → CXT} {x : Str} (nm : Str)
    (hn : l.most = some n) (hn2 : n ≤ sizeLine) (hdf : d.params.defaults = []) (hr : Room k callerA) (hrec : ((recsOf q).any fun e => e.name == nm) = true) (hY : ∀ (w : World) (h : Heap), YP w h → (K w.params).In h)
    (F : ∀ (w : World) (mg : Str → Option Value) (fa : Addr) (h : Heap), YP w h → (K w.params).In h → h.Ns mainGlobals mg → mg d.name = some (.ref fa) → (∀ f, mg nm = some (.ref f) → LamX.OwnTab (K w.params) f h) → LamX.LawAtS l w (K w.params) (CX w) k n x mg fa h)
    (hCX : ∀ (w : World) (H : Hp) (s : Shared) (e : Value) (s' : Shared), CX w [] H s (fun _ _ _ => False) e s' → False) :
    PySem.W.WalkO q loose XP YP l.row.toRowW d [] (fun f vs => PySem.call f vs) := by
  refine Att.attach_callB hn hdf fun w s0 s1 mg mb fa ob pm cd doc a vs ns Gt Y hob hd hcd hmg hobj hints hlen hbits hg => ?_
  have KX := hY w _ Y
  have own : ∀ f, mg nm = some (.ref f) → LamX.OwnTab (K w.params) f s1.heap := fun f hf c P o1 fd1 e dd vs1 sl k1 k2 k3 k4 k5 => by
    obtain ⟨dL, hm, hn1⟩ := List.any_eq_true.mp hrec
    have hn3 : dL.name = nm := beq_iff_eq.mp hn1
    obtain ⟨a', o', fd', c', P', h1, h2, h3, h4, h5, h6⟩ := Gt.T.tab dL hm
    rw [hn3, hf] at h1
    cases h1
    rw [KX _ _ k1] at h2
    cases h2
    rw [k2] at h3
    cases h3
    rw [k3] at h4
    cases h4
    obtain ⟨⟨oc, vc, e1, _, e3, e4⟩, hP⟩ := h6
    rw [KX _ _ k4] at e1
    cases e1
    cases e3
    rw [k5] at e4
    cases e4
    exact hP
  obtain ⟨fd, cs, sp, hT, nT, C, hb, hsp, hF⟩ := F w mg fa _ Y KX Gt.T.g hmg own
  exact LamX.law_callTs KX Gt.T.g Gt.T.b Gt.T.builtins Gt.T.nolimit hg hT nT C Gt.T.bmain hobj hints (Nat.le_trans hlen hn2) hr hF hb (fun H hH hS => hsp H a ns hlen hbits hH hS) fun H e s' => hCX w H s1 e s'
/-- the law's promise where a table stands at Pt -/
def spLawT (K : PySem.W.Frag) (Pt : Addr) : Sp := fun vs H Q _ => ∃ (a : Addr) (ns : List Int), vs = [.ref a] ∧ SqL K H a (ns.map V.int) ∧ ns.length ≤ 63 ∧ GxR.TabG H Pt ∧ ∀ H', Q (.bl true) H'
end NL

namespace NL
open PySem PySem.Spec PyProof.Rows L2
/-! ### marks as a function of positions from -1 on -/
abbrev Mk' := Int → Bool
def bsO (n : Nat) (M : Mk') : List Bool := (List.range n).map (fun i : Nat => M (i : Int)) ++ [M (-1)]
theorem bsO_len (n : Nat) (M : Mk') : (bsO n M).length = n + 1 := by
  unfold bsO
  rw [List.length_append, List.length_map, List.length_range]
  rfl
theorem bsO_nat {n : Nat} {M : Mk'} {k : Nat} (h : k < n) : (bsO n M)[k]? = some (M (k : Int)) := by
  unfold bsO
  rw [List.getElem?_append_left (by rw [List.length_map, List.length_range]; exact h), List.getElem?_map, List.getElem?_range h]
  rfl
theorem bsO_last {n : Nat} {M : Mk'} : (bsO n M)[n]? = some (M (-1)) := by
  unfold bsO
  rw [List.getElem?_append_right (by rw [List.length_map, List.length_range]; exact Nat.le_refl n), List.length_map, List.length_range, Nat.sub_self]
  rfl
theorem bsO_at {n : Nat} {M : Mk'} {p : Int} (h0 : -1 ≤ p) (h1 : p < n) : atI (bsO n M) p = some (M p) := by
  by_cases hp : 0 ≤ p
  · have := atI_nat (bsO_nat (M := M) (show p.toNat < n by omega))
    rw [show ((p.toNat : Nat) : Int) = p by omega] at this
    exact this
  · have : p = -1 := by omega
    subst this
    unfold atI ixN
    rw [if_neg (by decide), if_pos (by rw [bsO_len]; omega), bsO_len, show ((-1 : Int) + ((n + 1 : Nat) : Int)).toNat = n by omega]
    exact bsO_last
theorem atI_mapO {α β : Type} (g : α → β) (xs : List α) (i : Int) : atI (xs.map g) i = (atI xs i).map g := by
  unfold atI
  rw [List.length_map]
  cases ixN xs.length i with
  | none => rfl
  | some j => exact List.getElem?_map
theorem bsO_V {n : Nat} {M : Mk'} {p : Int} (h0 : -1 ≤ p) (h1 : p < n) : atI ((bsO n M).map V.bl) p = some (.bl (M p)) := by
  rw [atI_mapO, bsO_at h0 h1]
  rfl
theorem bsO_mk {n : Nat} {M : Mk'} {p : Int} (h0 : -1 ≤ p) (h1 : p < n) : mkAt (bsO n M) p = M p := by
  unfold mkAt
  rw [bsO_at h0 h1]
  rfl
theorem bsO_ext {n : Nat} {M N : Mk'} (h : ∀ p : Int, -1 ≤ p → p < n → M p = N p) : bsO n M = bsO n N := by
  unfold bsO
  rw [h (-1) (Int.le_refl _) (by omega)]
  congr 1
  exact List.map_congr_left fun k hk => h _ (by omega) (by have := List.mem_range.mp hk; omega)
theorem bsO_set {n : Nat} {M : Mk'} {p : Int} (h0 : 0 ≤ p) (h1 : p < n) : (bsO n M).set p.toNat true = bsO n (fun x => M x || decide (x = p)) := by
  refine List.ext_getElem? fun k => ?_
  rw [List.getElem?_set]
  by_cases hk : p.toNat = k
  · rw [if_pos hk, if_pos (by rw [bsO_len]; omega)]
    rw [bsO_nat (show k < n by omega)]
    have : ((k : Nat) : Int) = p := by omega
    rw [this, decide_eq_true rfl, Bool.or_true]
  · rw [if_neg hk]
    rcases Nat.lt_trichotomy k n with h | h | h
    · rw [bsO_nat h, bsO_nat h, decide_eq_false (by omega), Bool.or_false]
    · subst h
      rw [bsO_last, bsO_last, decide_eq_false (by omega), Bool.or_false]
    · rw [List.getElem?_eq_none (by rw [bsO_len]; omega), List.getElem?_eq_none (by rw [bsO_len]; omega)]
/-! ### round by round -/
def frcM (side : Int) (os : Pos') (M : Mk') : Bool := if side = 0 then os.any (fun o => o.all M) else os.all (fun o => o.any M)
theorem any_congr' {α : Type} {l : List α} {f g : α → Bool} (h : ∀ x ∈ l, f x = g x) : l.any f = l.any g := by
  induction l with
  | nil => rfl
  | cons a r ih =>
    rw [List.any_cons, List.any_cons, h a (List.mem_cons_self ..), ih fun x hx => h x (List.mem_cons_of_mem _ hx)]
theorem all_congr' {α : Type} {l : List α} {f g : α → Bool} (h : ∀ x ∈ l, f x = g x) : l.all f = l.all g := by
  induction l with
  | nil => rfl
  | cons a r ih =>
    rw [List.all_cons, List.all_cons, h a (List.mem_cons_self ..), ih fun x hx => h x (List.mem_cons_of_mem _ hx)]
theorem frcM_ext {side : Int} {os : Pos'} {M N : Mk'} (h : ∀ o ∈ os, ∀ p ∈ o, M p = N p) : frcM side os M = frcM side os N := by
  unfold frcM
  split
  · exact any_congr' fun o ho => all_congr' fun p hp => h o ho p hp
  · exact all_congr' fun o ho => any_congr' fun p hp => h o ho p hp
theorem frcF_bsO {side : Int} {os : Pos'} {n : Nat} {M : Mk'} (h : ∀ o ∈ os, ∀ p ∈ o, -1 ≤ p ∧ p < (n : Int)) : frcF side os (bsO n M) = frcM side os M := by
  unfold frcF frcM
  split
  · exact any_congr' fun o ho => all_congr' fun p hp => bsO_mk (h o ho p hp).1 (h o ho p hp).2
  · exact all_congr' fun o ho => any_congr' fun p hp => bsO_mk (h o ho p hp).1 (h o ho p hp).2
def psO (A : Ar) (p : Int) : Pos' := if 0 ≤ p then (A[p.toNat]?).getD [] else []
theorem psO_at {A : Ar} {p : Int} {os : Pos'} (h0 : 0 ≤ p) (h : A[p.toNat]? = some os) : psO A p = os := by
  unfold psO
  rw [if_pos h0, h]
  rfl
/-- all successors are positions or -1 -/
def InA (A : Ar) (n : Nat) : Prop := ∀ os ∈ A, ∀ o ∈ os, ∀ p ∈ o, -1 ≤ p ∧ p < (n : Int)
theorem psO_in {A : Ar} {n : Nat} (h : InA A n) (p : Int) : ∀ o ∈ psO A p, ∀ x ∈ o, -1 ≤ x ∧ x < (n : Int) := by
  unfold psO
  split
  · cases hq : A[p.toNat]? with
    | none => intro o ho; cases ho
    | some os => exact h os (List.mem_of_getElem? hq)
  · intro o ho; cases ho
def nxM (A : Ar) (side : Int) (am : List Int) (M : Mk') : Mk' := fun p => M p || (decide (p ∈ am) && frcM side (psO A p) M)
def mr (A : Ar) (side : Int) (am : List Int) (M : Mk') : Nat → Mk'
  | 0 => M
  | k + 1 => nxM A side am (mr A side am M k)
section
variable {A : Ar} {side : Int} {am : List Int} {M : Mk'}
theorem mr_up {p : Int} {k : Nat} (h : mr A side am M k p = true) : mr A side am M (k + 1) p = true := by
  show (mr A side am M k p || _) = true
  rw [h, Bool.true_or]
theorem mr_le {p : Int} {j k : Nat} (h : j ≤ k) (e : mr A side am M j p = true) : mr A side am M k p = true := by
  induction h with
  | refl => exact e
  | step _ ih => exact mr_up ih
theorem mr_out {p : Int} (h : p ∉ am) : ∀ k, mr A side am M k p = M p
  | 0 => rfl
  | k + 1 => by
    show (mr A side am M k p || (decide (p ∈ am) && _)) = M p
    rw [decide_eq_false h, Bool.false_and, Bool.or_false, mr_out h k]
theorem mr_stop {n : Nat} (hA : InA A n) {K : Nat} (h : ∀ p, -1 ≤ p → p < (n : Int) → mr A side am M (K + 1) p = mr A side am M K p) : ∀ L, K ≤ L → ∀ p, -1 ≤ p → p < (n : Int) → mr A side am M L p = mr A side am M K p := by
  intro L hL
  induction hL with
  | refl => intro p _ _; rfl
  | step _ ih =>
    rename_i L _
    intro p h0 h1
    show (mr A side am M L p || (decide (p ∈ am) && frcM side (psO A p) (mr A side am M L))) = _
    rw [ih p h0 h1, frcM_ext (N := mr A side am M K) fun o ho x hx => ih x (psO_in hA p o ho x hx).1 (psO_in hA p o ho x hx).2]
    exact h p h0 h1
/-- the round in which a position is marked first -/
def IsRk (f : Nat → Mk') (p : Int) : Option Nat → Prop
  | some r => f r p = true ∧ ∀ j, j < r → f j p = false
  | none => ∀ j, f j p = false
theorem IsRk.uniq {f : Nat → Mk'} {p : Int} : ∀ {a b : Option Nat}, IsRk f p a → IsRk f p b → a = b
  | none, none, _, _ => rfl
  | some r, none, h, g => by
    have := g r
    rw [h.1] at this
    cases this
  | none, some r, g, h => by
    have := g r
    rw [h.1] at this
    cases this
  | some r, some q, h, g => by
    rcases Nat.lt_trichotomy r q with z | z | z
    · have := g.2 r z
      rw [h.1] at this
      cases this
    · rw [z]
    · have := h.2 q z
      rw [g.1] at this
      cases this
/-- how many of the first n positions are marked -/
def cnt (n : Nat) (f : Mk') : Nat := ((List.range n).filter (fun i : Nat => f (i : Int))).length
theorem cnt_le (n : Nat) (f : Mk') : cnt n f ≤ n := by
  have := List.length_filter_le (fun i : Nat => f (i : Int)) (List.range n)
  rw [List.length_range] at this
  exact this
theorem cnt_s (n : Nat) (f : Mk') : cnt (n + 1) f = cnt n f + (if f (n : Int) = true then 1 else 0) := by
  unfold cnt
  rw [List.range_succ, List.filter_append, List.length_append]
  congr 1
  rw [List.filter_cons]
  cases h : f (n : Int) with
  | true => rfl
  | false => rfl
theorem cnt_mono {f g : Mk'} (h : ∀ p, f p = true → g p = true) : ∀ n, cnt n f ≤ cnt n g
  | 0 => Nat.le_refl _
  | n + 1 => by
    have ih := cnt_mono h n
    rw [cnt_s, cnt_s]
    cases hf : f (n : Int) with
    | true => rw [h _ hf]; simp; exact ih
    | false =>
      rw [if_neg Bool.false_ne_true]
      omega
theorem cnt_lt {f g : Mk'} (h : ∀ p, f p = true → g p = true) : ∀ {n k : Nat}, k < n → f (k : Int) = false → g (k : Int) = true → cnt n f < cnt n g
  | 0, k, hk, _, _ => absurd hk (Nat.not_lt_zero k)
  | n + 1, k, hk, hf, hg => by
    rw [cnt_s, cnt_s]
    by_cases hkn : k = n
    · subst hkn
      have := cnt_mono h k
      rw [hf, hg, if_pos rfl, if_neg Bool.false_ne_true]
      omega
    · have ih := cnt_lt h (show k < n by omega) hf hg
      cases hf2 : f (n : Int) with
      | true => rw [h _ hf2]; simp; exact ih
      | false =>
        rw [if_neg Bool.false_ne_true]
        omega
theorem cnt_full {f : Mk'} : ∀ {n : Nat}, cnt n f = n → ∀ k, k < n → f (k : Int) = true
  | 0, _, k, hk => absurd hk (Nat.not_lt_zero k)
  | n + 1, h, k, hk => by
    have h1 := cnt_le n f
    rw [cnt_s] at h
    cases hf : f (n : Int) with
    | true =>
      rw [hf, if_pos rfl] at h
      by_cases hkn : k = n
      · rw [hkn]; exact hf
      · exact cnt_full (show cnt n f = n by omega) k (by omega)
    | false =>
      rw [hf, if_neg Bool.false_ne_true] at h
      omega
/-- where each of the first rounds marks one more, all n positions are marked in round n -/
theorem cnt_rounds {n : Nat} {f : Nat → Mk'} (up : ∀ k p, f k p = true → f (k + 1) p = true) : ∀ K, (∀ k, k < K → ∃ i : Nat, i < n ∧ f k (i : Int) = false ∧ f (k + 1) (i : Int) = true) → K ≤ cnt n (f K)
  | 0, _ => Nat.zero_le _
  | K + 1, h => by
    have ih := cnt_rounds up K fun k hk => h k (by omega)
    obtain ⟨i, hi, h1, h2⟩ := h K (Nat.lt_succ_self K)
    have := cnt_lt (fun p hp => up K p hp) hi h1 h2
    omega
end
end NL

set_option maxHeartbeats 4000000
namespace NL
open PySem PySem.Spec PyProof.Rows L2
/-- an item of a list or a tuple -/
def rIxQ (K : PySem.W.Frag) : R2 := fun x y H Q => ∃ p xs i v, x = .ref p ∧ y = .int i ∧ (SqL K H p xs ∨ SqT K H p xs) ∧ atI xs i = some v ∧ Q v H
theorem ix_seqK {X : Cx} {K : PySem.W.Frag} (h : X.K = K) : IxR X (rIxQ K) := by
  subst h
  intro value slice pins s σ H x y v u Q I rx ry q hs
  obtain ⟨p, xs, i, z, e1, e2, hq | hq, he, q⟩ := q
  · exact ix_list value slice pins s σ H x y v u Q I rx ry ⟨p, xs, i, z, e1, e2, hq, he, q⟩ hs
  · exact ix_tup value slice pins s σ H x y v u Q I rx ry ⟨p, xs, i, z, e1, e2, hq, he, q⟩ hs
/-- an arena, a tuple or a list of positions -/
def ArQ (H : Hp) (A : Ar) (v : V) : Prop := ∃ b xs, v = .ref b ∧ (H b = some (.lst xs) ∨ H b = some (.tup xs)) ∧ Each (PosIn H) A xs
theorem ArQ.of {H : Hp} {A : Ar} {v : V} (h : ArIn H A v) : ArQ H A v := by
  obtain ⟨b, xs, e, q, r⟩ := h
  exact ⟨b, xs, e, .inr q, r⟩
theorem ArQ.sm {P : Addr} {H H' : Hp} {A : Ar} {v : V} (s : Sm P H H') (h : ArQ H A v) : ArQ H' A v := by
  obtain ⟨b, xs, e, q, r⟩ := h
  refine ⟨b, xs, e, ?_, r.mono fun a x => PosIn.tp s.tp⟩
  rcases q with q | q
  · exact .inl (s.lst q)
  · exact .inr (s.tup q)
theorem seqQ {K : PySem.W.Frag} {H : Hp} {b : Addr} {xs : List V} (h : H b = some (.lst xs) ∨ H b = some (.tup xs)) : SqL K H b xs ∨ SqT K H b xs := by
  rcases h with h | h
  · exact .inl (sqd h)
  · exact .inr (sqt h)
/-- what the dict of steps says after k rounds -/
def DkR (f : Nat → Mk') (k : Nat) (kvs : List (Key × V)) : Prop := ∀ p : Int, ((f k p = false ∨ f 0 p = true) → valV kvs (Sum.inl p : Key) = none) ∧ (f k p = true → f 0 p = false → ∃ r, r ≤ k ∧ valV kvs (Sum.inl p : Key) = some (.int (r : Nat)) ∧ f r p = true ∧ ∀ j, j < r → f j p = false)
/-- .. of a position in the end -/
theorem DkR.rk {A : Ar} {side : Int} {am : List Int} {M : Mk'} {n K : Nat} {kvs : List (Key × V)} (h : DkR (mr A side am M) K kvs) (hst : ∀ L, K ≤ L → ∀ p, -1 ≤ p → p < (n : Int) → mr A side am M L p = mr A side am M K p) {p : Int} (h0 : -1 ≤ p) (h1 : p < n) :
    ∃ ro : Option Nat, IsRk (mr A side am M) p ro ∧ (M p = true → ro = some 0) ∧ (M p = false → valV kvs (Sum.inl p : Key) = ro.map fun r : Nat => V.int (r : Int)) := by
  by_cases hM : M p = true
  · exact ⟨some 0, ⟨hM, fun j hj => absurd hj (Nat.not_lt_zero j)⟩, fun _ => rfl, fun e => by rw [hM] at e; cases e⟩
  · have hM' : M p = false := by simpa using hM
    by_cases hK : mr A side am M K p = true
    · obtain ⟨r, hr, hv, h2, h3⟩ := (h p).2 hK hM'
      exact ⟨some r, ⟨h2, h3⟩, fun e => absurd e hM, fun _ => hv⟩
    · have hK' : mr A side am M K p = false := by simpa using hK
      refine ⟨none, fun j => ?_, fun e => absurd e hM, fun _ => (h p).1 (.inl hK')⟩
      rcases Nat.le_total K j with z | z
      · rw [hst j z p h0 h1]
        exact hK'
      · cases hj : mr A side am M j p with
        | false => rfl
        | true => exact absurd (mr_le z hj) hK
/-- the keys are positions -/
def KyR (n : Nat) (kvs : List (Key × V)) : Prop := ∀ e ∈ kvs, ∃ k : Nat, k < n ∧ e.1 = (Sum.inl (k : Int) : Key)
theorem KyR.nil {n : Nat} : KyR n [] := fun e he => (by cases he)
theorem KyR.put {n : Nat} {kvs : List (Key × V)} (h : KyR n kvs) {p : Int} (p0 : 0 ≤ p) (p1 : p < (n : Int)) (v : V) : KyR n (putK kvs (Sum.inl p : Key) v) := by
  intro e he
  unfold putK at he
  split at he
  · obtain ⟨q, hq, rfl⟩ := List.mem_map.mp he
    by_cases e : q.1 = (Sum.inl p : Key)
    · rw [if_pos e]
      exact ⟨p.toNat, by omega, by show q.1 = _; rw [e, show ((p.toNat : Nat) : Int) = p by omega]⟩
    · rw [if_neg e]
      exact h q hq
  · rcases List.mem_append.mp he with hq | hq
    · exact h e hq
    · rw [List.mem_singleton.mp hq]
      exact ⟨p.toNat, by omega, by show (Sum.inl p : Key) = _; rw [show ((p.toNat : Nat) : Int) = p by omega]⟩
theorem putK_len' {κ : Type} [DecidableEq κ] (c : List (κ × V)) (k : κ) (x : V) : (putK c k x).length ≤ c.length + 1 := by
  unfold putK
  split
  · rw [List.length_map]
    exact Nat.le_succ _
  · rw [List.length_append]
    exact Nat.le_refl _
theorem dp_intsG {K : PySem.W.Frag} {H : Hp} : ∀ l : List Int, DpAll K H (l.map V.int) (l.map PyData.int)
  | [] => .nil
  | a :: r => .cons (.int a) (dp_intsG r)
theorem lay_intsG : ∀ l : List Int, PyData.canLayAll0 (l.map PyData.int) = true ∧ PyData.depthAll (l.map PyData.int) = 0
  | [] => ⟨rfl, rfl⟩
  | a :: r => by
    obtain ⟨h1, h2⟩ := lay_intsG r
    refine ⟨?_, ?_⟩
    · show (true && PyData.canLayAll0 (r.map PyData.int)) = true
      rw [h1]
      rfl
    · show max 0 (PyData.depthAll (r.map PyData.int)) = 0
      rw [h2]
      rfl
theorem shaped_lstG (l : List Int) : SeqAt.shaped (.list (l.map PyData.int)) = true := by
  obtain ⟨h1, h2⟩ := lay_intsG l
  show (PyData.canLayAll0 (l.map PyData.int) && decide (PyData.depthAll (l.map PyData.int) + 1 ≤ 64)) = true
  rw [h1, h2]
  rfl
theorem foldK_take {α : Type} {l : List α} {j : Nat} {x : α} (h : l[j]? = some x) (y : α) : y ∈ l.take (j + 1) ↔ y ∈ l.take j ∨ y = x := by
  rw [List.take_add_one, h, List.mem_append]
  simp
section
variable {P : Program} {w : World} {K : PySem.W.Frag} {mg : Str → Option Value} {base : Heap}
def spSteps (K : PySem.W.Frag) (Pt : Addr) : Sp := fun vs H Q _ => ∃ (v : V) (A : Ar) (side : Int) (ml al : Addr) (M : Mk') (am : List Int), vs = [v, .int side, .ref ml, .ref al] ∧ ArQ H A v ∧ A.length ≤ 500 ∧ InA A A.length ∧ H ml = some (.lst ((bsO A.length M).map V.bl)) ∧
  H al = some (.lst (am.map V.int)) ∧ am.length ≤ 500 ∧ (∀ p ∈ am, 0 ≤ p ∧ p < (A.length : Int)) ∧ GxR.TabG H Pt ∧
  ∀ D kvs k H', Sm Pt H H' → H D = none → H' D = some (.dK kvs) → DkR (mr A side am M) k kvs → KyR A.length kvs → kvs.length ≤ 251000 → (∀ L, k ≤ L → ∀ p, -1 ≤ p → p < (A.length : Int) → mr A side am M L p = mr A side am M k p) → Q (.ref D) H'
theorem ok_steps_to (T : Txt K mg) {c Pt : Addr} (TB : GxR.TabB base mg c Pt) (hc : T.dforces.code = .ref c) : FnOk P w K mg base CX0 3 T.asteps_to T.dsteps_to Psteps_to (spSteps K Pt) := by
  have Gforces := ok_forces (P := P) (w := w) T TB hc
  refine T.Fsteps_to.ok scsteps_to (fun vs H Q E h => ?_) (fun cdv A outer s H vs Q E hr h => ?_)
  · obtain ⟨v, A, side, ml, al, M, am, rfl, _⟩ := h
    rfl
  obtain ⟨v, A0, side, ml, al, M, am, rfl, hA, hn, hin, hm, ha, hal, hap, hT, q⟩ := h
  generalize hnn : A0.length = n at *
  refine ⟨_, (pss_cons (ps_set (i := 4) scsteps_to.nd rfl (Or.inr rfl) (pe_callTy call_list_of (by rfl) T.z_list (by decide +kernel) (pa_cons (pv 2) pa_nil)))
    (pss_cons (ps_set (i := 5) scsteps_to.nd rfl (Or.inl rfl) pe_dnewK)
    (pss_cons (ps_set (i := 6) scsteps_to.nd rfl (Or.inl rfl) pe_int)
    (pss_cons (ps_set (i := 7) scsteps_to.nd rfl (Or.inl rfl) pe_bl)
    (pss_cons (ps_while PassesOwn.never (pt_val (pv 7))
    (pss_cons (ps_aug (i := 6) scsteps_to.nd rfl (Or.inl rfl) pe_int ip_add)
    (pss_cons (ps_setLc (i := 8) (own := [("at", 9)]) (g := (gName 9)) (tt := _) rfl scsteps_to.nd rfl rfl (sw_true rfl rfl rfl (by decide +kernel)) (pi_list (pv 3)) (blkOk_by (N := Nsteps_to) (sc := defScope ssteps_to) (by decide +kernel)) (fun _ _ _ _ _ => (pg_name (i := 9) scsteps_to.nd rfl (Or.inl rfl))) (fun _ _ _ _ _ => (pts_one (PW.pt (pw_and (pt_not (pt_val (pe_ix (ix_listK (K := K) rfl) (pv 4) (pv 9) (fun _ _ => rfl)))) (pw_and1 (pt_val (pe_call Gforces (hr.mono (by omega)) (by rfl) T.mforces T.Fforces.kp T.bforces .nil pass0 (pa_cons (pv 1) (pa_cons (pe_ix (ix_seqK (K := K) rfl) (pv 0) (pv 9) (fun _ _ => rfl)) (pa_cons (pv 4) pa_nil)))))))))) (fun _ _ _ _ _ => (pv 9)))
    (pss_cons (ps_for  PassesOwn.never rfl (pi_list (pv 8)) (pg_name (i := 9) scsteps_to.nd rfl (Or.inl rfl))
    (pss_cons (ps_dput (hu_of hr) (pv 5) (pv 9) (pv 6) rfl)
    (pss_one (ps_asg pe_bl (pg_sub (pv 4) (pv 9) set_list)))))
    (pss_one (ps_set (i := 7) scsteps_to.nd rfl (Or.inl rfl) (pe_cmpR (op_neD hr.units) (pv 8) (pe_lst pa_nil) (nomark _))))))))
    (pss_one (ps_ret (pv 5)))))))), ?_⟩
  refine ⟨_, rfl, ml, _, rfl, .inl (sqd hm), fun rl hrl => ?_⟩
  obtain ⟨H1, e1, s1, k1⟩ := newH hrl (.lst ((bsO n M).map V.bl))
  rw [e1]
  refine fun D hD => ?_
  obtain ⟨H2, e2, s2, k2⟩ := newH hD (.dK [])
  rw [e2]
  have hnrl : rl ≠ D := fun z => by
    rw [z, hD] at k1
    cases k1
  have hDH : H D = none := s1.free hD
  have hrH : H rl = none := hrl
  have g0 := s1.trans s2
  have rD0 : DkR (mr A0 side am M) 0 [] := fun p => ⟨fun _ => rfl, fun h1 h2 => by
    rw [h1] at h2
    cases h2⟩
  have up : ∀ k p, mr A0 side am M k p = true → mr A0 side am M (k + 1) p = true := fun k p e => mr_up e
  -- round by round
  refine ⟨fun m σ H' => ∃ (k : Nat) (g : Bool) (kvs : List (Key × V)) (y8 y9 : Option V), σ = [some v, some (.int side), some (.ref ml), some (.ref al), some (.ref rl), some (.ref D), some (.int (k : Nat)), some (.bl g), y8, y9] ∧ Sm Pt H H' ∧ H' rl = some (.lst ((bsO n (mr A0 side am M k)).map V.bl)) ∧ H' D = some (.dK kvs) ∧ DkR (mr A0 side am M) k kvs ∧ (KyR n kvs ∧ k ≤ 502) ∧ kvs.length ≤ k * 500 ∧
    (g = true → k ≤ cnt n (mr A0 side am M k)) ∧ (g = false → ∃ j, k = j + 1 ∧ ∀ p, -1 ≤ p → p < (n : Int) → mr A0 side am M (j + 1) p = mr A0 side am M j p) ∧ m = if g = true then n - cnt n (mr A0 side am M k) + 1 else 0, ⟨_, 0, true, [], _, _, rfl, .of g0, s2 _ _ k1, k2, rD0, ⟨.nil, Nat.zero_le _⟩, Nat.zero_le _, fun _ => Nat.zero_le _, fun e => (by cases e), rfl⟩, ?_⟩
  rintro m σ H3 ⟨k, g, kvs, y8, y9, rfl, s3, kr3, kD3, hdk, ⟨hky, hk5⟩, hkl, hg1, hg2, hmm⟩
  refine ⟨_, rfl, g, rfl, ?_⟩
  cases g with
  | false =>
    refine ifF rfl ?_
    obtain ⟨j, rfl, hst⟩ := hg2 rfl
    have hst2 := mr_stop hin hst
    refine ⟨_, rfl, q D kvs (j + 1) H3 s3 hDH kD3 hdk hky (by omega) fun L hL p h0 h1 => ?_⟩
    rw [hst2 L (by omega) p h0 h1, hst p h0 h1]
  | true =>
  refine ifT rfl ?_
  have hkc := hg1 rfl
  have hcn := cnt_le n (mr A0 side am M k)
  generalize hf : mr A0 side am M k = f at *
  have hfs : mr A0 side am M (k + 1) = nxM A0 side am f := by rw [← hf]; rfl
  refine ⟨fun σ H' => ∃ (fnd : List Int) (kvs : List (Key × V)) (y8 y9 : Option V), σ = [some v, some (.int side), some (.ref ml), some (.ref al), some (.ref rl), some (.ref D), some (.int ((k + 1 : Nat) : Int)), some (.bl (!fnd.isEmpty)), y8, y9] ∧ Sm Pt H H' ∧ fnd = am.filter (fun p => !f p && frcM side (psO A0 p) f) ∧ H' rl = some (.lst ((bsO n (nxM A0 side am f)).map V.bl)) ∧ H' D = some (.dK kvs) ∧ DkR (mr A0 side am M) (k + 1) kvs ∧ KyR n kvs ∧ kvs.length ≤ (k + 1) * 500, ?_, ?_⟩
  · rintro σ' H' ⟨fnd, kvs', z8, z9, rfl, t3, hfnd, f1, f2, hdk', hky', hkl'⟩
    rw [← hfs] at f1
    have hin1 : ∀ p, p ∈ fnd → p ∈ am ∧ f p = false ∧ frcM side (psO A0 p) f = true := fun p hp => by
      rw [hfnd, List.mem_filter] at hp
      simpa using hp
    have gain : fnd.isEmpty = false → cnt n f < cnt n (mr A0 side am M (k + 1)) := fun e => by
      obtain ⟨p, hp⟩ : ∃ p, p ∈ fnd := by
        cases hc2 : fnd with
        | nil => rw [hc2] at e; cases e
        | cons a r => exact ⟨a, List.mem_cons_self ..⟩
      obtain ⟨q1, q2, q3⟩ := hin1 p hp
      obtain ⟨p0, p1⟩ := hap p q1
      refine cnt_lt (k := p.toNat) (fun x hx => by rw [hfs]; show (f x || _) = true; rw [hx, Bool.true_or]) (by omega) ?_ ?_
      · rw [show ((p.toNat : Nat) : Int) = p by omega]
        exact q2
      · rw [show ((p.toNat : Nat) : Int) = p by omega, hfs]
        show (f p || (decide (p ∈ am) && frcM side (psO A0 p) f)) = true
        rw [decide_eq_true q1, q3, Bool.true_and, Bool.or_true]
    have hc1 := cnt_le n (mr A0 side am M (k + 1))
    refine ⟨_, ?_, k + 1, !fnd.isEmpty, kvs', z8, z9, rfl, t3, f1, f2, hdk', ⟨hky', by omega⟩, hkl', fun e => ?_, fun e => ?_, rfl⟩
    · rw [hmm, if_pos rfl]
      cases he : fnd.isEmpty with
      | true =>
        rw [Bool.not_true, if_neg Bool.false_ne_true]
        omega
      | false =>
        have := gain he
        rw [Bool.not_false, if_pos rfl]
        omega
    · have := gain (by simpa using e)
      omega
    · refine ⟨k, rfl, fun p h0 h1 => ?_⟩
      have hnil : fnd = [] := by
        have : fnd.isEmpty = true := by simpa using e
        simpa using this
      rw [hfs, hf]
      show (f p || (decide (p ∈ am) && frcM side (psO A0 p) f)) = f p
      cases hfp : f p with
      | true => rfl
      | false =>
        rw [Bool.false_or]
        cases hd : (decide (p ∈ am) && frcM side (psO A0 p) f) with
        | false => rfl
        | true =>
          rw [Bool.and_eq_true] at hd
          have : p ∈ fnd := by
            rw [hfnd, List.mem_filter]
            refine ⟨of_decide_eq_true hd.1, ?_⟩
            simp [hfp, hd.2]
          rw [hnil] at this
          cases this
  refine ⟨_, rfl, _, _, rfl, rfl, ?_⟩
  refine ⟨_, rfl, al, rfl, ⟨_, sqd (s3.lst ha)⟩, fun fl hfl => ?_⟩
  have hT3 := s3.tb hT
  have hflP : fl ≠ Pt := TabG.ne0 hT3 hfl
  have hflr : fl ≠ rl := fun z => by
    rw [z, kr3] at hfl
    cases hfl
  have hflD : fl ≠ D := fun z => by
    rw [z, kD3] at hfl
    cases hfl
  have hA3 := hA.sm s3
  generalize ht : (fun p => !f p && frcM side (psO A0 p) f) = t
  refine lc_list (K := K) (a := al) (xs := am.map V.int) (fun (j : Nat) (H' : Hp) => Sm Pt H3 H' ∧ H' fl = some (.lst (((am.take j).filter t).map V.int))) ?_ ?_ ?_ ?_
  · exact ⟨.of (same_new hfl _), upd_same⟩
  · rintro j H' _ ⟨s4, _⟩
    exact sqd (s4.lst (s3.lst ha))
  · rintro j x H4 hx ⟨s4, k4⟩
    rw [List.getElem?_map] at hx
    obtain ⟨p, hp, rfl⟩ := Option.map_eq_some_iff.mp hx
    obtain ⟨p0, p1⟩ := hap p (List.mem_of_getElem? hp)
    have hnext : (am.take (j + 1)).filter t = (am.take j).filter t ++ (if t p = true then [p] else []) := by
      rw [List.take_add_one, hp, List.filter_append]
      congr 1
      rw [Option.toList_some, List.filter_cons]
      cases t p <;> rfl
    have hlen : ((am.take j).filter t).length ≤ 500 := by
      have h1 := List.length_filter_le t (am.take j)
      rw [List.length_take] at h1
      omega
    refine ⟨rfl, ?_⟩
    refine ⟨_, rfl, _, rfl, rl, _, _, _, rfl, rfl, sqd (s4.lst kr3), bsO_V (by omega) p1, _, rfl, ?_⟩
    cases hfp : f p with
    | true =>
      refine ifF rfl (iteF ?_)
      refine ⟨s4, ?_⟩
      rw [hnext, show t p = false by rw [← ht]; simp [hfp], if_neg Bool.false_ne_true, List.append_nil]
      exact k4
    | false =>
      refine ifT rfl ?_
      obtain ⟨b0, xs, rfl, hb0, hxs⟩ := hA3.sm s4
      obtain ⟨os, x, ho, hat, hpos⟩ := hxs.atI p0 (by rw [hnn]; exact p1)
      have hps := psO_at p0 ho
      have hios := hin os (List.mem_of_getElem? ho)
      refine ⟨_, rfl, _, rfl, _, rfl, b0, xs, p, x, rfl, rfl, seqQ hb0, hat, _, rfl, side, x, rl, os, bsO n f, rfl, hpos, s4.lst kr3, s4.tb hT3, fun o ho2 i hi => ?_, fun H5 s5 => ⟨_, rfl, ?_⟩⟩
      · rw [bsO_at (hios o ho2 i hi).1 (hios o ho2 i hi).2]
        rfl
      · rw [frcF_bsO hios]
        have htp : t p = frcM side os f := by rw [← ht]; simp [hfp, hps]
        cases hfr : frcM side os f with
        | false =>
          refine iteF ⟨s4.trans s5, ?_⟩
          rw [hnext, htp, hfr, if_neg Bool.false_ne_true, List.append_nil]
          exact s5.lst k4
        | true =>
          refine iteT ⟨_, rfl, _, s5.lst k4, big' (by rw [List.length_map]; omega), (s4.trans s5).put hfl hflP, ?_⟩
          rw [upd_same, hnext, htp, hfr, if_pos rfl, List.map_append]
          rfl
  · rintro H4 ⟨s4, k4⟩
    rw [List.length_map, List.take_length] at k4
    have hfl500 : (am.filter t).length ≤ 500 := Nat.le_trans (List.length_filter_le _ _) hal
    have hmem : ∀ p, p ∈ am.filter t → 0 ≤ p ∧ p < (n : Int) := fun p h => hap p (List.mem_filter.mp h).1
    generalize hfnd : am.filter t = fnd at *
    refine ⟨_, rfl, fl, rfl, ⟨_, sqd k4⟩, ?_⟩
    refine for_list (K := K) (a := fl) (xs := fnd.map V.int) (fun (j : Nat) (σ : L2.St) (H' : Hp) => ∃ (kvs' : List (Key × V)) (y9 : Option V), σ = [some v, some (.int side), some (.ref ml), some (.ref al), some (.ref rl), some (.ref D), some (.int (((k : Nat) : Int) + 1)), some (.bl true), some (.ref fl), y9] ∧ Sm Pt H H' ∧ H' fl = some (.lst (fnd.map V.int)) ∧
      H' rl = some (.lst ((bsO n (fun x => f x || decide (x ∈ fnd.take j))).map V.bl)) ∧ H' D = some (.dK kvs') ∧ (∀ p : Int, valV kvs' (Sum.inl p : Key) = if p ∈ fnd.take j then some (.int (((k : Nat) : Int) + 1)) else valV kvs (Sum.inl p : Key)) ∧ KyR n kvs' ∧ kvs'.length ≤ k * 500 + j) ?_ ?_ ?_ ?_
    · refine ⟨kvs, _, rfl, s3.trans s4, k4, ?_, s4.dK kD3, fun p => ?_, hky, hkl⟩
      · rw [s4.lst kr3]
        simp
      · rw [List.take_zero, if_neg (by simp)]
    · rintro j σ H' _ ⟨kvs', y9, rfl, _, k5, _⟩
      exact sqd k5
    · rintro j x σ H5 hx ⟨kvs', y9, rfl, s5, k5, kr5, kD5, hv5, hy5, hl5⟩
      rw [List.getElem?_map] at hx
      obtain ⟨p, hp, rfl⟩ := Option.map_eq_some_iff.mp hx
      obtain ⟨p0, p1⟩ := hmem p (List.mem_of_getElem? hp)
      have hj := (List.getElem?_eq_some_iff.mp hp).1
      refine ⟨_, rfl, _, rfl, _, rfl, D, _, rfl, DPut.k (k := Sum.inl p) kD5 (big' (by have := cnt_le n f; omega)), ?_⟩
      have hDP : D ≠ Pt := TabG.ne0 hT hDH
      have hrP : rl ≠ Pt := TabG.ne0 hT hrH
      refine ⟨_, rfl, _, rfl, rl, _, _, _, rfl, rfl, by rw [upd_ne hnrl]; exact kr5, ixN_in p0 (by rw [List.length_map, bsO_len]; omega), ?_⟩
      refine ⟨putK kvs' (Sum.inl p : Key) (.int (((k : Nat) : Int) + 1)), _, rfl, (s5.put hDH hDP).put hrH hrP, ?_, ?_, ?_, fun y => ?_, hy5.put p0 p1 _, ?_⟩
      · rw [upd_ne hflr, upd_ne hflD]
        exact k5
      · rw [upd_same, ← List.map_set, bsO_set p0 p1]
        congr 3
        refine bsO_ext fun x _ _ => ?_
        rw [Bool.or_assoc]
        congr 1
        rw [← Bool.decide_or]
        exact decide_eq_decide.mpr (foldK_take hp x).symm
      · rw [upd_ne (Ne.symm hnrl), upd_same]
      · rw [valV_put, hv5]
        by_cases hy : y = p
        · rw [if_pos (by rw [hy]), if_pos ((foldK_take hp y).mpr (.inr hy))]
        · rw [if_neg (fun e => hy (Sum.inl.inj e))]
          by_cases hy2 : y ∈ fnd.take j
          · rw [if_pos hy2, if_pos ((foldK_take hp y).mpr (.inl hy2))]
          · rw [if_neg hy2, if_neg (fun e => ((foldK_take hp y).mp e).elim hy2 hy)]
      · have := putK_len' kvs' (Sum.inl p : Key) (V.int (((k : Nat) : Int) + 1))
        omega
    · rintro σ H5 ⟨kvs', y9, rfl, s5, k5, kr5, kD5, hv5, hy5, hl5⟩
      rw [List.length_map, List.take_length] at kr5
      rw [List.length_map] at hv5 hl5
      simp only [List.take_length] at hv5
      have hnx : bsO n (fun x => f x || decide (x ∈ fnd)) = bsO n (nxM A0 side am f) := bsO_ext fun x _ _ => by
        show _ = (f x || (decide (x ∈ am) && frcM side (psO A0 x) f))
        rw [← hfnd, ← ht]
        cases hfx : f x with
        | true => rfl
        | false =>
          rw [Bool.false_or, Bool.false_or, ← Bool.decide_coe (frcM side (psO A0 x) f), ← Bool.decide_and]
          refine decide_eq_decide.mpr ?_
          rw [List.mem_filter, hfx]
          simp
      rw [hnx] at kr5
      refine ⟨_, rfl, Nat.zero_le _, fun e hel => ?_⟩
      have heD : e ≠ D := fun z => by
        rw [z, kD5] at hel
        cases hel
      have her : e ≠ rl := fun z => by
        rw [z, kr5] at hel
        cases hel
      have hef : fl ≠ e := fun z => by
        rw [← z, k5] at hel
        cases hel
      refine ⟨.list (fnd.map PyData.int), .list (([] : List Int).map PyData.int), .lst (sqd (by rw [upd_ne hef]; exact k5)) (dp_intsG _), .lst (sqd upd_same) .nil, shaped_lstG _, shaped_lstG _, ?_⟩
      refine ⟨fnd, kvs', some (.ref fl), y9, ?_, s5.trans (.of (same_new hel _)), rfl, by rw [upd_ne (Ne.symm her)]; exact kr5, by rw [upd_ne (Ne.symm heD)]; exact kD5, ?_, hy5, by omega⟩
      · cases fnd with
        | nil => rfl
        | cons a r => rfl
      · have hmk : ∀ p, mr A0 side am M k p = f p := fun p => by rw [hf]
        have hin1 : ∀ p, p ∈ fnd → f p = false ∧ mr A0 side am M (k + 1) p = true := fun p hp => by
          rw [← hfnd, List.mem_filter, ← ht] at hp
          obtain ⟨h1, h2⟩ := hp
          rw [Bool.and_eq_true] at h2
          refine ⟨by simpa using h2.1, ?_⟩
          rw [hfs]
          show (f p || (decide (p ∈ am) && frcM side (psO A0 p) f)) = true
          rw [decide_eq_true h1, h2.2, Bool.true_and, Bool.or_true]
        have hin2 : ∀ p, f p = false → mr A0 side am M (k + 1) p = true → p ∈ fnd := fun p h1 h2 => by
          rw [hfs] at h2
          have h3 : (f p || (decide (p ∈ am) && frcM side (psO A0 p) f)) = true := h2
          rw [h1, Bool.false_or, Bool.and_eq_true] at h3
          rw [← hfnd, List.mem_filter, ← ht]
          exact ⟨of_decide_eq_true h3.1, by simp [h1, h3.2]⟩
        intro p
        rw [hv5 p]
        refine ⟨fun h => ?_, fun h1 h2 => ?_⟩
        · have hno : p ∉ fnd := fun hp => by
            obtain ⟨g1, g2⟩ := hin1 p hp
            rcases h with h | h
            · rw [h] at g2
              cases g2
            · have : mr A0 side am M k p = true := mr_le (Nat.zero_le k) h
              rw [hmk, g1] at this
              cases this
          rw [if_neg hno]
          refine (hdk p).1 ?_
          rcases h with h | h
          · left
            cases hk2 : mr A0 side am M k p with
            | false => rfl
            | true =>
              rw [mr_up hk2] at h
              cases h
          · exact .inr h
        · by_cases hp : p ∈ fnd
          · rw [if_pos hp]
            refine ⟨k + 1, Nat.le_refl _, rfl, h1, fun j hj => ?_⟩
            cases hj2 : mr A0 side am M j p with
            | false => rfl
            | true =>
              have := mr_le (show j ≤ k by omega) hj2
              rw [hmk, (hin1 p hp).1] at this
              cases this
          · rw [if_neg hp]
            have hk2 : mr A0 side am M k p = true := by
              rw [hmk]
              cases hfp : f p with
              | true => rfl
              | false => exact absurd (hin2 p hfp h1) hp
            obtain ⟨r, hr1, hr2, hr3, hr4⟩ := (hdk p).2 hk2 h2
            exact ⟨r, by omega, hr2, hr3, hr4⟩
end
end NL

namespace NL
open PySem PySem.Spec PyProof.Rows L2
/-! ### colours: measures compared -/
def par (c : Nat) : Bool := c % 2 == 1
def Gt (r : Bool) (c : Nat) (m m' : Nat → Nat) : Prop := ∃ d, c ≤ d ∧ par d ≠ r ∧ m' d < m d ∧ ∀ e, d < e → par e ≠ r → m e = m' e
def Eqm (r : Bool) (c : Nat) (m m' : Nat → Nat) : Prop := ∀ e, c ≤ e → par e ≠ r → m e = m' e
def Ge (r : Bool) (c : Nat) (m m' : Nat → Nat) : Prop := Gt r c m m' ∨ Eqm r c m m'
def Rel (r : Bool) (c : Nat) (m m' : Nat → Nat) : Prop := if par c = r then Ge r c m m' else Gt r c m m'
section
variable {r : Bool} {c c' : Nat} {m m' m'' : Nat → Nat}
theorem Gt.low (h : Gt r c m m') (hc : c' ≤ c) : Gt r c' m m' := by
  obtain ⟨d, h1, h2⟩ := h
  exact ⟨d, Nat.le_trans hc h1, h2⟩
theorem Eqm.up (h : Eqm r c m m') (hc : c ≤ c') : Eqm r c' m m' := fun e he => h e (Nat.le_trans hc he)
theorem Eqm.refl : Eqm r c m m := fun _ _ _ => rfl
theorem Eqm.symm (h : Eqm r c m m') : Eqm r c m' m := fun e he hp => (h e he hp).symm
theorem Eqm.trans (h : Eqm r c m m') (g : Eqm r c m' m'') : Eqm r c m m'' := fun e he hp => (h e he hp).trans (g e he hp)
theorem Gt.up (h : Gt r c m m') (hc : c ≤ c') : Ge r c' m m' := by
  obtain ⟨d, h1, h2, h3, h4⟩ := h
  rcases Nat.lt_or_ge d c' with z | z
  · exact .inr fun e he hp => h4 e (by omega) hp
  · exact .inl ⟨d, z, h2, h3, h4⟩
theorem Ge.up (h : Ge r c m m') (hc : c ≤ c') : Ge r c' m m' := h.elim (fun h => h.up hc) (fun h => .inr (h.up hc))
theorem Gt.trans (h : Gt r c m m') (g : Gt r c m' m'') : Gt r c m m'' := by
  obtain ⟨d, h1, h2, h3, h4⟩ := h
  obtain ⟨e, g1, g2, g3, g4⟩ := g
  rcases Nat.lt_trichotomy d e with z | z | z
  · exact ⟨e, g1, g2, by rw [h4 e z g2]; exact g3, fun k hk hp => (h4 k (by omega) hp).trans (g4 k hk hp)⟩
  · subst z
    exact ⟨d, h1, h2, by omega, fun k hk hp => (h4 k hk hp).trans (g4 k hk hp)⟩
  · exact ⟨d, h1, h2, by rw [← g4 d z h2]; exact h3, fun k hk hp => (h4 k hk hp).trans (g4 k (by omega) hp)⟩
theorem Gt.eqm (h : Gt r c m m') (g : Eqm r c m' m'') : Gt r c m m'' := by
  obtain ⟨d, h1, h2, h3, h4⟩ := h
  exact ⟨d, h1, h2, by rw [← g d h1 h2]; exact h3, fun k hk hp => (h4 k hk hp).trans (g k (by omega) hp)⟩
theorem Eqm.gt (h : Eqm r c m m') (g : Gt r c m' m'') : Gt r c m m'' := by
  obtain ⟨d, h1, h2, h3, h4⟩ := g
  exact ⟨d, h1, h2, by rw [h d h1 h2]; exact h3, fun k hk hp => (h k (by omega) hp).trans (h4 k hk hp)⟩
theorem Ge.trans (h : Ge r c m m') (g : Ge r c m' m'') : Ge r c m m'' := by
  rcases h with h | h <;> rcases g with g | g
  · exact .inl (h.trans g)
  · exact .inl (h.eqm g)
  · exact .inl (h.gt g)
  · exact .inr (Eqm.trans h g)
theorem Gt.ge (h : Gt r c m m') (g : Ge r c m' m'') : Gt r c m m'' := g.elim (fun g => h.trans g) (fun g => h.eqm g)
theorem Ge.gt (h : Ge r c m m') (g : Gt r c m' m'') : Gt r c m m'' := h.elim (fun h => h.trans g) (fun h => h.gt g)
theorem Gt.irr (h : Gt r c m m) : False := by
  obtain ⟨d, _, _, h3, _⟩ := h
  omega
theorem Gt.not_ge (h : Gt r c m m') (g : Ge r c m' m) : False := (h.ge g).irr
theorem Gt.rel (h : Gt r c m m') : Rel r c m m' := by
  unfold Rel
  split
  · exact .inl h
  · exact h
theorem Rel.ge (h : Rel r c m m') : Ge r c m m' := by
  unfold Rel at h
  split at h
  · exact h
  · exact .inl h
theorem Rel.gt (h : Rel r c m m') (hp : par c ≠ r) : Gt r c m m' := by
  unfold Rel at h
  rw [if_neg hp] at h
  exact h
theorem Ge.rel (h : Ge r c m m') (hp : par c = r) : Rel r c m m' := by
  unfold Rel
  rw [if_pos hp]
  exact h
/-- one entry more -/
theorem Ge.step (h : Ge r c m m') : Gt r (c + 1) m m' ∨ (Eqm r (c + 1) m m' ∧ (par c ≠ r → m' c ≤ m c)) := by
  rcases h with ⟨d, h1, h2, h3, h4⟩ | h
  · rcases Nat.lt_or_ge c d with z | z
    · exact .inl ⟨d, z, h2, h3, h4⟩
    · have : d = c := by omega
      subst this
      exact .inr ⟨fun e he hp => h4 e he hp, fun _ => by omega⟩
  · exact .inr ⟨h.up (by omega), fun hp => Nat.le_of_eq (h c (Nat.le_refl c) hp).symm⟩
theorem Gt.step (h : Gt r c m m') : Gt r (c + 1) m m' ∨ (Eqm r (c + 1) m m' ∧ par c ≠ r ∧ m' c < m c) := by
  obtain ⟨d, h1, h2, h3, h4⟩ := h
  rcases Nat.lt_or_ge c d with z | z
  · exact .inl ⟨d, z, h2, h3, h4⟩
  · have : d = c := by omega
    subst this
    exact .inr ⟨fun e he hp => h4 e he hp, h2, h3⟩
theorem Ge.of_le (h : Eqm r (c + 1) m m') (g : par c ≠ r → m' c ≤ m c) : Ge r c m m' := by
  by_cases hp : par c = r
  · exact .inr fun e he hq => h e (by
      rcases Nat.lt_or_ge c e with z | z
      · omega
      · have : e = c := by omega
        subst this
        exact absurd hp hq) hq
  · rcases Nat.lt_or_ge (m' c) (m c) with z | z
    · exact .inl ⟨c, Nat.le_refl c, hp, z, fun e he hq => h e he hq⟩
    · exact .inr fun e he hq => by
        rcases Nat.lt_or_ge c e with y | y
        · exact h e y hq
        · have : e = c := by omega
          subst this
          have := g hp
          omega
theorem Gt.of_lt (h : Eqm r (c + 1) m m') (hp : par c ≠ r) (g : m' c < m c) : Gt r c m m' := ⟨c, Nat.le_refl c, hp, g, fun e he hq => h e he hq⟩
theorem Gt.congr {n n' : Nat → Nat} (h : Gt r c m m') (e : ∀ d, c ≤ d → m d = n d) (e' : ∀ d, c ≤ d → m' d = n' d) : Gt r c n n' := by
  obtain ⟨d, h1, h2, h3, h4⟩ := h
  exact ⟨d, h1, h2, by rw [← e d h1, ← e' d h1]; exact h3, fun k hk hp => by rw [← e k (by omega), ← e' k (by omega)]; exact h4 k hk hp⟩
theorem Eqm.congr {n n' : Nat → Nat} (h : Eqm r c m m') (e : ∀ d, c ≤ d → m d = n d) (e' : ∀ d, c ≤ d → m' d = n' d) : Eqm r c n n' := fun d hd hp => by
  rw [← e d hd, ← e' d hd]
  exact h d hd hp
theorem Rel.congr {n n' : Nat → Nat} (h : Rel r c m m') (e : ∀ d, c ≤ d → m d = n d) (e' : ∀ d, c ≤ d → m' d = n' d) : Rel r c n n' := by
  unfold Rel Ge at *
  split
  · next hp =>
    rw [if_pos hp] at h
    exact h.elim (fun h => .inl (h.congr e e')) (fun h => .inr (h.congr e e'))
  · next hp =>
    rw [if_neg hp] at h
    exact h.congr e e'
theorem Rel.congrP {n n' : Nat → Nat} (h : Rel r c m m') (e : Eqm r c m n) (e' : Eqm r c m' n') : Rel r c n n' := by
  unfold Rel Ge at *
  split
  · next hp =>
    rw [if_pos hp] at h
    exact h.elim (fun h => .inl ((e.symm.gt h).eqm e')) (fun h => .inr (Eqm.trans e.symm (Eqm.trans h e')))
  · next hp =>
    rw [if_neg hp] at h
    exact (e.symm.gt h).eqm e'
theorem par_s (c : Nat) : par (c + 1) = !par c := by
  unfold par
  rcases Nat.mod_two_eq_zero_or_one c with h | h <;> simp [Nat.add_mod, h]
theorem bne_not {a b : Bool} : a ≠ b ↔ a = !b := by cases a <;> cases b <;> decide
end
/-! ### what a side can force -/
def Frc (r : Bool) (os : Pos') (Q : Int → Prop) : Prop := if r = true then ∀ o ∈ os, ∃ p ∈ o, Q p else ∃ o ∈ os, ∀ p ∈ o, Q p
theorem Frc.mono {r : Bool} {os : Pos'} {Q Q' : Int → Prop} (h : Frc r os Q) (m : ∀ o ∈ os, ∀ p ∈ o, Q p → Q' p) : Frc r os Q' := by
  unfold Frc at *
  split
  · next hr =>
    rw [if_pos hr] at h
    intro o ho
    obtain ⟨p, hp, hq⟩ := h o ho
    exact ⟨p, hp, m o ho p hp hq⟩
  · next hr =>
    rw [if_neg hr] at h
    obtain ⟨o, ho, hq⟩ := h
    exact ⟨o, ho, fun p hp => m o ho p hp (hq p hp)⟩
theorem Frc.imp {r : Bool} {os : Pos'} {Q Q' : Int → Prop} (h : Frc r os Q) (m : ∀ p, Q p → Q' p) : Frc r os Q' := h.mono fun _ _ p _ => m p
theorem Frc.meet {r : Bool} {os : Pos'} {Q Q' : Int → Prop} (h : Frc r os Q) (h' : Frc (!r) os Q') : ∃ o ∈ os, ∃ p ∈ o, Q p ∧ Q' p := by
  unfold Frc at *
  cases r with
  | true =>
    rw [if_pos rfl] at h
    rw [if_neg (by decide)] at h'
    obtain ⟨o, ho, hq⟩ := h'
    obtain ⟨p, hp, hq'⟩ := h o ho
    exact ⟨o, ho, p, hp, hq', hq p hp⟩
  | false =>
    rw [if_neg (by decide)] at h
    rw [if_pos (by decide)] at h'
    obtain ⟨o, ho, hq⟩ := h
    obtain ⟨p, hp, hq'⟩ := h' o ho
    exact ⟨o, ho, p, hp, hq p hp, hq'⟩
theorem Frc.dual {r : Bool} {os : Pos'} {Q : Int → Prop} (h : ¬ Frc r os Q) : Frc (!r) os (fun p => ¬ Q p) := by
  unfold Frc at *
  cases r with
  | true =>
    rw [if_pos rfl] at h
    rw [if_neg (by decide)]
    refine Classical.byContradiction fun g => h fun o ho => Classical.byContradiction fun g' => g ⟨o, ho, fun p hp hq => g' ⟨p, hp, hq⟩⟩
  | false =>
    rw [if_neg (by decide)] at h
    rw [if_pos (by decide)]
    exact fun o ho => Classical.byContradiction fun g => h ⟨o, ho, fun p hp => Classical.byContradiction fun g' => g ⟨p, hp, g'⟩⟩
/-! ### no play of both -/
theorem pigeon : ∀ (n : Nat) (a : Nat → Nat), (∀ k, k ≤ n → a k < n) → ∃ i j, i < j ∧ j ≤ n ∧ a i = a j
  | 0, a, h => absurd (h 0 (Nat.le_refl 0)) (Nat.not_lt_zero _)
  | n + 1, a, h => by
    by_cases hx : ∃ i, i < n + 1 ∧ a i = a (n + 1)
    · obtain ⟨i, h1, h2⟩ := hx
      exact ⟨i, n + 1, h1, Nat.le_refl _, h2⟩
    · have hne : ∀ i, i ≤ n → a i ≠ a (n + 1) := fun i hi e => hx ⟨i, by omega, e⟩
      obtain ⟨i, j, h1, h2, h3⟩ := pigeon n (fun k => if a (n + 1) < a k then a k - 1 else a k) fun k hk => by
        have := h k (by omega)
        have := h (n + 1) (Nat.le_refl _)
        have := hne k hk
        show (if a (n + 1) < a k then a k - 1 else a k) < n
        split <;> omega
      refine ⟨i, j, h1, by omega, ?_⟩
      have e1 := hne i (by omega)
      have e2 := hne j h2
      have h3 : (if a (n + 1) < a i then a i - 1 else a i) = if a (n + 1) < a j then a j - 1 else a j := h3
      split at h3 <;> split at h3 <;> omega
theorem chain_ge {r : Bool} {c : Nat} {f : Nat → Nat → Nat} : ∀ (k i : Nat), (∀ j, i ≤ j → j < i + k → Ge r c (f j) (f (j + 1))) → Ge r c (f i) (f (i + k))
  | 0, i, _ => .inr Eqm.refl
  | k + 1, i, h => (chain_ge k i fun j h1 h2 => h j h1 (by omega)).trans (h (i + k) (by omega) (by omega))
/-- a greatest value among the first k + 1 -/
theorem top_at (f : Nat → Nat) (i : Nat) : ∀ k, ∃ t, i ≤ t ∧ t ≤ i + k ∧ ∀ j, i ≤ j → j ≤ i + k → f j ≤ f t
  | 0 => ⟨i, Nat.le_refl _, Nat.le_refl _, fun j h1 h2 => Nat.le_of_eq (congrArg f (by omega))⟩
  | k + 1 => by
    obtain ⟨t, h1, h2, h3⟩ := top_at f i k
    rcases Nat.lt_or_ge (f t) (f (i + (k + 1))) with z | z
    · refine ⟨i + (k + 1), by omega, by omega, fun j g1 g2 => ?_⟩
      by_cases hj : j = i + (k + 1)
      · rw [hj]; exact Nat.le_refl _
      · have := h3 j g1 (by omega)
        omega
    · refine ⟨t, h1, by omega, fun j g1 g2 => ?_⟩
      by_cases hj : j = i + (k + 1)
      · rw [hj]; exact z
      · exact h3 j g1 (by omega)
theorem chain_gt {r : Bool} {c : Nat} {f : Nat → Nat → Nat} {i k t : Nat} (h : ∀ j, i ≤ j → j < i + k → Ge r c (f j) (f (j + 1))) (h1 : i ≤ t) (h2 : t < i + k) (g : Gt r c (f t) (f (t + 1))) : Gt r c (f i) (f (i + k)) := by
  have a1 := chain_ge (t - i) i (f := f) (r := r) (c := c) fun j z1 z2 => h j z1 (by omega)
  have a2 := chain_ge (i + k - (t + 1)) (t + 1) (f := f) (r := r) (c := c) fun j z1 z2 => h j (by omega) (by omega)
  rw [show i + (t - i) = t by omega] at a1
  rw [show t + 1 + (i + k - (t + 1)) = i + k by omega] at a2
  exact (a1.gt g).ge a2
theorem nocyc {n : Nat} {col : Int → Nat} {N0 N1 : Int → Nat → Nat} {S : Int → Prop} (hS : ∀ x, S x → 0 ≤ x ∧ x < (n : Int))
    (step : ∀ x, S x → ∃ y, S y ∧ Rel false (col x) (N0 x) (N0 y) ∧ Rel true (col x) (N1 x) (N1 y)) (x : Int) (hx : S x) : False := by
  have nx : ∀ z : {z // S z}, ∃ y : {z // S z}, Rel false (col z.1) (N0 z.1) (N0 y.1) ∧ Rel true (col z.1) (N1 z.1) (N1 y.1) := fun z => by
    obtain ⟨y, h1, h2⟩ := step z.1 z.2
    exact ⟨⟨y, h1⟩, h2⟩
  let nxt : {z // S z} → {z // S z} := fun z => Classical.choose (nx z)
  have nxs : ∀ z, _ := fun z => Classical.choose_spec (nx z)
  let a : Nat → {z // S z} := fun k => Nat.rec ⟨x, hx⟩ (fun _ z => nxt z) k
  have as : ∀ k, a (k + 1) = nxt (a k) := fun _ => rfl
  obtain ⟨i, j, hij, _, he⟩ := pigeon n (fun k => (a k).1.toNat) fun k _ => by
    have := hS _ (a k).2
    show (a k).1.toNat < n
    omega
  have he : (a i).1 = (a j).1 := by
    have h1 := hS _ (a i).2
    have h2 := hS _ (a j).2
    have he : (a i).1.toNat = (a j).1.toNat := he
    omega
  obtain ⟨t, t1, t2, t3⟩ := top_at (fun k => col (a k).1) i (j - i - 1)
  have st : ∀ k, Rel false (col (a k).1) (N0 (a k).1) (N0 (a (k + 1)).1) ∧ Rel true (col (a k).1) (N1 (a k).1) (N1 (a (k + 1)).1) := fun k => by
    rw [as]
    exact nxs (a k)
  cases hp : par (col (a t).1) with
  | true =>
    have := chain_gt (r := false) (c := col (a t).1) (f := fun k => N0 (a k).1) (i := i) (k := j - i) (t := t) (fun k h1 h2 => (st k).1.ge.up (t3 k h1 (by omega))) t1 (by omega) ((st t).1.gt (by rw [hp]; decide))
    rw [show i + (j - i) = j by omega] at this
    have this : Gt false (col (a t).1) (N0 (a i).1) (N0 (a j).1) := this
    rw [he] at this
    exact this.irr
  | false =>
    have := chain_gt (r := true) (c := col (a t).1) (f := fun k => N1 (a k).1) (i := i) (k := j - i) (t := t) (fun k h1 h2 => (st k).2.ge.up (t3 k h1 (by omega))) t1 (by omega) ((st t).2.gt (by rw [hp]; decide))
    rw [show i + (j - i) = j by omega] at this
    have this : Gt true (col (a t).1) (N1 (a i).1) (N1 (a j).1) := this
    rw [he] at this
    exact this.irr
end NL

namespace NL
open PySem PySem.Spec PyProof.Rows L2
/-! ### certificates -/
def Bd (b K : Nat) (N : Int → Nat → Nat) : Prop := (∀ x d, N x d ≤ K) ∧ ∀ x d, b ≤ d → N x d = 0
def IsC (ops : Int → Pos') (col : Int → Nat) (r : Bool) (p : Int → Option Bool) (S : Int → Prop) (N : Int → Nat → Nat) : Prop :=
  ∀ x, S x → p x = none ∧ Frc r (ops x) (fun y => p y = some r ∨ (S y ∧ Rel r (col x) (N x) (N y)))
/-- a side can win from an open position -/
def Wn (ops : Int → Pos') (col : Int → Nat) (b : Nat) (r : Bool) (p : Int → Option Bool) (x : Int) : Prop := ∃ S N K, Bd b K N ∧ S x ∧ IsC ops col r p S N
section
variable {ops : Int → Pos'} {col : Int → Nat} {b : Nat} {n : Nat}
theorem Bd.mono {b b' K : Nat} {N : Int → Nat → Nat} (h : Bd b K N) (hb : b ≤ b') : Bd b' K N := ⟨h.1, fun x d hd => h.2 x d (by omega)⟩
theorem IsC.iff {r : Bool} {p : Int → Option Bool} {S S' : Int → Prop} {N : Int → Nat → Nat} (h : IsC ops col r p S N) (e : ∀ x, S x ↔ S' x) : IsC ops col r p S' N := fun x hx => by
  obtain ⟨h1, h2⟩ := h x ((e x).mpr hx)
  exact ⟨h1, h2.imp fun y hy => hy.elim .inl fun hy => .inr ⟨(e y).mp hy.1, hy.2⟩⟩
theorem big_rel {r : Bool} {c b K : Nat} {m m' : Nat → Nat} (hc : c < b) (h1 : ∀ d, d < b → K < m d) (h2 : ∀ d, b ≤ d → m d = 0) (h3 : ∀ d, m' d ≤ K) (h4 : ∀ d, b ≤ d → m' d = 0) : Rel r c m m' := by
  obtain ⟨b, rfl⟩ : ∃ b', b = b' + 1 := ⟨b - 1, by omega⟩
  by_cases hp : par b = r
  · by_cases hcb : c = b
    · subst hcb
      refine Ge.rel (.inr fun e he hq => ?_) hp
      rcases Nat.lt_or_ge e (c + 1) with z | z
      · have : e = c := by omega
        subst this
        exact absurd hp hq
      · rw [h2 e z, h4 e z]
    · obtain ⟨b, rfl⟩ : ∃ b', b = b' + 1 := ⟨b - 1, by omega⟩
      refine Gt.rel ⟨b, by omega, ?_, ?_, fun e he hq => ?_⟩
      · rw [par_s] at hp
        rw [← hp]
        cases par b <;> decide
      · have := h1 b (by omega)
        have := h3 b
        omega
      · rcases Nat.lt_or_ge e (b + 1 + 1) with z | z
        · have : e = b + 1 := by omega
          subst this
          exact absurd hp hq
        · rw [h2 e z, h4 e z]
  · refine Gt.rel ⟨b, by omega, hp, ?_, fun e he hq => ?_⟩
    · have := h1 b (by omega)
      have := h3 b
      omega
    · rw [h2 e he, h4 e he]
theorem shift_rel {r : Bool} {c b k : Nat} {m m' : Nat → Nat} (h2 : ∀ d, b ≤ d → m d = 0) (h4 : ∀ d, b ≤ d → m' d = 0) (h : Rel r c m m') : Rel r c (fun d => if d < b then k + m d else 0) (fun d => if d < b then k + m' d else 0) := by
  have eqm : Eqm r c m m' → Eqm r c (fun d => if d < b then k + m d else 0) (fun d => if d < b then k + m' d else 0) := fun h e he hq => by
    show (if e < b then k + m e else 0) = if e < b then k + m' e else 0
    rw [h e he hq]
  have gt : Gt r c m m' → Gt r c (fun d => if d < b then k + m d else 0) (fun d => if d < b then k + m' d else 0) := fun ⟨d, g1, g2, g3, g4⟩ => by
    refine ⟨d, g1, g2, ?_, fun e he hq => ?_⟩
    · show (if d < b then k + m' d else 0) < if d < b then k + m d else 0
      rcases Nat.lt_or_ge d b with z | z
      · rw [if_pos z, if_pos z]
        omega
      · have := h2 d z
        omega
    · show (if e < b then k + m e else 0) = if e < b then k + m' e else 0
      rw [g4 e he hq]
  unfold Rel Ge at *
  split
  · next hp =>
    rw [if_pos hp] at h
    exact h.elim (fun h => .inl (gt h)) (fun h => .inr (eqm h))
  · next hp =>
    rw [if_neg hp] at h
    exact gt h
noncomputable def mixN (S : Int → Prop) (N N' : Int → Nat → Nat) (b K : Nat) : Int → Nat → Nat := fun x d => open Classical in if S x then N x d else if d < b then K + 1 + N' x d else 0
theorem mixN_in {S : Int → Prop} {N N' : Int → Nat → Nat} {b K : Nat} {x : Int} (h : S x) : mixN S N N' b K x = N x := funext fun d => if_pos h
theorem mixN_out {S : Int → Prop} {N N' : Int → Nat → Nat} {b K : Nat} {x : Int} (h : ¬ S x) : mixN S N N' b K x = fun d => if d < b then K + 1 + N' x d else 0 := funext fun d => if_neg h
theorem IsC.trans {r : Bool} {p p' : Int → Option Bool} {S S' : Int → Prop} {N N' : Int → Nat → Nat} {K K' : Nat} (hb : ∀ x, p x = none → col x < b) (h1 : ∀ y, p' y = some r → p y = some r ∨ S y) (h2 : ∀ y, p' y = none → p y = none)
    (bN : Bd b K N) (h : IsC ops col r p S N) (bN' : Bd b K' N') (h' : IsC ops col r p' S' N') : ∃ N'' K'', Bd b K'' N'' ∧ IsC ops col r p (fun x => S x ∨ S' x) N'' := by
  refine ⟨mixN S N N' b K, K + 1 + K', ⟨fun x d => ?_, fun x d hd => ?_⟩, fun x hx => ?_⟩
  · have := bN.1 x d
    have := bN'.1 x d
    by_cases hS : S x
    · rw [mixN_in hS]
      omega
    · rw [mixN_out hS]
      dsimp only
      split <;> omega
  · by_cases hS : S x
    · rw [mixN_in hS]
      exact bN.2 x d hd
    · rw [mixN_out hS]
      exact if_neg (by omega : ¬ d < b)
  · by_cases hS : S x
    · obtain ⟨g1, g2⟩ := h x hS
      refine ⟨g1, g2.imp fun y hy => hy.elim .inl fun hy => .inr ⟨.inl hy.1, ?_⟩⟩
      rw [mixN_in hS, mixN_in hy.1]
      exact hy.2
    · obtain ⟨g1, g2⟩ := h' x (hx.resolve_left hS)
      have hpx := h2 x g1
      refine ⟨hpx, g2.imp fun y hy => ?_⟩
      have big : S y → Rel r (col x) (mixN S N N' b K x) (mixN S N N' b K y) := fun hy => by
        rw [mixN_out hS, mixN_in hy]
        refine big_rel (K := K) (b := b) (hb x hpx) (fun d hd => ?_) (fun d hd => ?_) (fun d => ?_) (fun d hd => ?_)
        · show K < if d < b then K + 1 + N' x d else 0
          rw [if_pos hd]
          omega
        · exact if_neg (by omega)
        · exact bN.1 y d
        · exact bN.2 y d hd
      rcases hy with hy | ⟨hy1, hy2⟩
      · rcases h1 y hy with hy | hy
        · exact .inl hy
        · exact .inr ⟨.inl hy, big hy⟩
      · by_cases hSy : S y
        · exact .inr ⟨.inl hSy, big hSy⟩
        · refine .inr ⟨.inr hy1, ?_⟩
          rw [mixN_out hS, mixN_out hSy]
          exact shift_rel (bN'.2 x) (bN'.2 y) hy2
noncomputable def takes (p : Int → Option Bool) (S : Int → Prop) (r : Bool) : Int → Option Bool := fun x => open Classical in if p x = none ∧ S x then some r else p x
theorem takes_some {p : Int → Option Bool} {S : Int → Prop} {r r' : Bool} {x : Int} (h : takes p S r x = some r') : p x = some r' ∨ (p x = none ∧ S x ∧ r' = r) := by
  unfold takes at h
  split at h
  · next hx => exact .inr ⟨hx.1, hx.2, (Option.some.inj h).symm⟩
  · exact .inl h
theorem takes_none {p : Int → Option Bool} {S : Int → Prop} {r : Bool} {x : Int} (h : takes p S r x = none) : p x = none ∧ ¬ S x := by
  unfold takes at h
  split at h
  · cases h
  · next hx => exact ⟨h, fun hs => hx ⟨h, hs⟩⟩
theorem takes_old {p : Int → Option Bool} {S : Int → Prop} {r r' : Bool} {x : Int} (h : p x = some r') : takes p S r x = some r' := by
  unfold takes
  rw [if_neg (fun z => by rw [h] at z; cases z.1)]
  exact h
theorem takes_new {p : Int → Option Bool} {S : Int → Prop} {r : Bool} {x : Int} (h : p x = none) (hs : S x) : takes p S r x = some r := if_pos ⟨h, hs⟩
theorem takes_not {p : Int → Option Bool} {S : Int → Prop} {r : Bool} {x : Int} (hs : ¬ S x) : takes p S r x = p x := if_neg fun h => hs h.2
/-- two certificates of one game -/
theorem IsC.join {r : Bool} {p : Int → Option Bool} {S S' : Int → Prop} {N N' : Int → Nat → Nat} {K K' : Nat} (hb : ∀ x, p x = none → col x < b) (bN : Bd b K N) (h : IsC ops col r p S N) (bN' : Bd b K' N')
    (h' : ∀ x, S' x → p x = none ∧ Frc r (ops x) (fun y => p y = some r ∨ S y ∨ (S' y ∧ Rel r (col x) (N' x) (N' y)))) : ∃ N'' K'', Bd b K'' N'' ∧ IsC ops col r p (fun x => S x ∨ S' x) N'' := by
  obtain ⟨N2, K2, k1, k2⟩ := IsC.trans (p' := takes p S r) (S' := fun x => S' x ∧ ¬ S x) hb (fun y hy => (takes_some hy).elim .inl fun z => .inr z.2.1) (fun y hy => (takes_none hy).1) bN h bN' (fun x hx => by
    obtain ⟨z1, z2⟩ := h' x hx.1
    refine ⟨by rw [takes_not hx.2]; exact z1, z2.imp fun y hy => ?_⟩
    by_cases hs : S y
    · exact .inl (takes_new (h y hs).1 hs)
    · rcases hy with hy | hy | hy
      · exact .inl (takes_old hy)
      · exact absurd hy hs
      · exact .inr ⟨⟨hy.1, hs⟩, hy.2⟩)
  refine ⟨N2, K2, k1, k2.iff fun x => ⟨fun hx => hx.elim .inl fun hx => .inr hx.1, fun hx => ?_⟩⟩
  by_cases hs : S x
  · exact .inl hs
  · exact .inr ⟨hx.resolve_left hs, hs⟩
theorem wn_some {r : Bool} {p : Int → Option Bool} (hb : ∀ x, p x = none → col x < b) : ∀ m : Nat, ∃ S N K, Bd b K N ∧ IsC ops col r p S N ∧ ∀ x : Int, 0 ≤ x → x < (m : Int) → Wn ops col b r p x → S x
  | 0 => ⟨fun _ => False, fun _ _ => 0, 0, ⟨fun _ _ => Nat.le_refl _, fun _ _ _ => rfl⟩, fun x hx => hx.elim, fun x h0 h1 _ => by omega⟩
  | m + 1 => by
    obtain ⟨S, N, K, h1, h2, h3⟩ := wn_some hb m
    by_cases hw : Wn ops col b r p (m : Int)
    · obtain ⟨S2, N2, K2, g1, g2, g3⟩ := hw
      obtain ⟨N3, K3, k1, k2⟩ := IsC.join hb h1 h2 g1 (fun x hx => ⟨(g3 x hx).1, (g3 x hx).2.imp fun y hy => hy.elim .inl fun hy => .inr (.inr hy)⟩)
      refine ⟨_, N3, K3, k1, k2, fun x z0 z1 hx => ?_⟩
      by_cases hxm : x < (m : Int)
      · exact .inl (h3 x z0 hxm hx)
      · have : x = (m : Int) := by omega
        subst this
        exact .inr g2
    · refine ⟨S, N, K, h1, h2, fun x z0 z1 hx => ?_⟩
      by_cases hxm : x < (m : Int)
      · exact h3 x z0 hxm hx
      · have : x = (m : Int) := by omega
        subst this
        exact absurd hx hw
theorem Wn.open_ {r : Bool} {p : Int → Option Bool} {x : Int} (h : Wn ops col b r p x) : p x = none := by
  obtain ⟨S, N, K, _, h2, h3⟩ := h
  exact (h3 x h2).1
/-- one certificate for all -/
theorem wn_all {r : Bool} {p : Int → Option Bool} (hr : ∀ x, p x = none → 0 ≤ x ∧ x < (n : Int)) (hb : ∀ x, p x = none → col x < b) : ∃ N K, Bd b K N ∧ IsC ops col r p (Wn ops col b r p) N := by
  obtain ⟨S, N, K, h1, h2, h3⟩ := wn_some (ops := ops) (r := r) hb n
  exact ⟨N, K, h1, h2.iff fun x => ⟨fun hx => ⟨S, N, K, h1, hx, h2⟩, fun hx => h3 x (hr x hx.open_).1 (hr x hx.open_).2 hx⟩⟩
/-- more certificates do not win more -/
theorem Wn.more {r : Bool} {p : Int → Option Bool} (hr : ∀ x, p x = none → 0 ≤ x ∧ x < (n : Int)) (hb : ∀ x, p x = none → col x < b) {S : Int → Prop} {N : Int → Nat → Nat} {K : Nat} (bN : Bd b K N)
    (h : ∀ x, S x → p x = none ∧ Frc r (ops x) (fun y => p y = some r ∨ Wn ops col b r p y ∨ (S y ∧ Rel r (col x) (N x) (N y)))) (x : Int) (hx : S x) : Wn ops col b r p x := by
  obtain ⟨N0, K0, h1, h2⟩ := wn_all (ops := ops) (r := r) hr hb
  obtain ⟨N3, K3, k1, k2⟩ := IsC.join hb h1 h2 bN h
  exact ⟨_, N3, K3, k1, .inr hx, k2⟩
theorem Wn.near {r : Bool} {p : Int → Option Bool} (hr : ∀ x, p x = none → 0 ≤ x ∧ x < (n : Int)) (hb : ∀ x, p x = none → col x < b) {x : Int} (hx : p x = none) (h : Frc r (ops x) (fun y => p y = some r ∨ Wn ops col b r p y)) : Wn ops col b r p x :=
  Wn.more hr hb (S := fun y => y = x) (N := fun _ _ => 0) (K := 0) ⟨fun _ _ => Nat.le_refl _, fun _ _ _ => rfl⟩ (fun y hy => by
    subst hy
    exact ⟨hx, h.imp fun z hz => hz.elim .inl fun hz => .inr (.inl hz)⟩) x rfl
theorem Wn.both {r : Bool} {p : Int → Option Bool} (hr : ∀ x, p x = none → 0 ≤ x ∧ x < (n : Int)) {x : Int} (h : Wn ops col b r p x) (h' : Wn ops col b (!r) p x) : False := by
  obtain ⟨S, N, K, _, hx, h2⟩ := h
  obtain ⟨S', N', K', _, hx', h2'⟩ := h'
  refine nocyc (n := n) (col := col) (S := fun x => S x ∧ S' x) (N0 := if r = true then N' else N) (N1 := if r = true then N else N') (fun x hx => hr x (h2 x hx.1).1) (fun x hx => ?_) x ⟨hx, hx'⟩
  obtain ⟨a1, a2⟩ := h2 x hx.1
  obtain ⟨b1, b2⟩ := h2' x hx.2
  obtain ⟨o, ho, y, hy, c1, c2⟩ := a2.meet b2
  have d1 : S y ∧ Rel r (col x) (N x) (N y) := by
    rcases c1 with c1 | c1
    · rcases c2 with c2 | c2
      · rw [c1] at c2
        cases r <;> cases c2
      · rw [(h2' y c2.1).1] at c1
        cases c1
    · exact c1
  have d2 : S' y ∧ Rel (!r) (col x) (N' x) (N' y) := by
    rcases c2 with c2 | c2
    · rw [(h2 y d1.1).1] at c2
      cases c2
    · exact c2
  refine ⟨y, ⟨d1.1, d2.1⟩, ?_⟩
  cases r with
  | true => exact ⟨d2.2, d1.2⟩
  | false => exact ⟨d1.2, d2.2⟩
/-! ### owners settled step by step -/
def Half (ops : Int → Pos') (col : Int → Nat) (b : Nat) (p q : Int → Option Bool) : Prop := (∀ x r, p x = some r → q x = some r) ∧ ∀ r, ∃ N K, Bd b K N ∧ IsC ops col r p (fun x => p x = none ∧ q x = some r) N
theorem Half.open_ {p q : Int → Option Bool} (h : Half ops col b p q) {x : Int} (hx : q x = none) : p x = none := by
  cases hp : p x with
  | none => rfl
  | some r =>
    rw [h.1 x r hp] at hx
    cases hx
theorem Half.refl {p : Int → Option Bool} : Half ops col b p p := ⟨fun _ _ h => h, fun r => ⟨fun _ _ => 0, 0, ⟨fun _ _ => Nat.le_refl _, fun _ _ _ => rfl⟩, fun x hx => by
  have h1 := hx.1
  have h2 := hx.2
  rw [h1] at h2
  cases h2⟩⟩
theorem Half.mono {b b' : Nat} {p q : Int → Option Bool} (h : Half ops col b p q) (hb : b ≤ b') : Half ops col b' p q := ⟨h.1, fun r => by
  obtain ⟨N, K, h1, h2⟩ := h.2 r
  exact ⟨N, K, h1.mono hb, h2⟩⟩
theorem Half.trans {p q q' : Int → Option Bool} (hb : ∀ x, p x = none → col x < b) (h : Half ops col b p q) (g : Half ops col b q q') : Half ops col b p q' := by
  refine ⟨fun x r e => g.1 x r (h.1 x r e), fun r => ?_⟩
  obtain ⟨N, K, h1, h2⟩ := h.2 r
  obtain ⟨N', K', g1, g2⟩ := g.2 r
  obtain ⟨N2, K2, k1, k2⟩ := IsC.trans hb (fun y hy => by
    cases hp : p y with
    | none => exact .inr ⟨rfl, hy⟩
    | some r' =>
      rw [h.1 y r' hp] at hy
      exact .inl hy) (fun y hy => h.open_ hy) h1 h2 g1 g2
  refine ⟨N2, K2, k1, k2.iff fun x => ⟨?_, ?_⟩⟩
  · rintro (⟨e1, e2⟩ | ⟨e1, e2⟩)
    · exact ⟨e1, g.1 x r e2⟩
    · exact ⟨h.open_ e1, e2⟩
  · rintro ⟨e1, e2⟩
    cases hq : q x with
    | none => exact .inr ⟨rfl, e2⟩
    | some r' =>
      rw [g.1 x r' hq] at e2
      exact .inl ⟨e1, e2⟩
theorem Half.wn {p q : Int → Option Bool} (hr : ∀ x, p x = none → 0 ≤ x ∧ x < (n : Int)) (h : Half ops col b p q) (tot : ∀ x, p x = none → q x ≠ none) {x : Int} (hx : p x = none) {r : Bool} : q x = some r ↔ Wn ops col b r p x := by
  have one : ∀ r, q x = some r → Wn ops col b r p x := fun r e => by
    obtain ⟨N, K, h1, h2⟩ := h.2 r
    exact ⟨_, N, K, h1, ⟨hx, e⟩, h2⟩
  refine ⟨one r, fun hw => ?_⟩
  cases hq : q x with
  | none => exact absurd hq (tot x hx)
  | some r' =>
    by_cases e : r' = r
    · rw [e]
    · have : r' = !r := by revert e; cases r <;> cases r' <;> decide
      rw [this] at hq
      exact (Wn.both hr hw (one _ hq)).elim
theorem Half.takes {p : Int → Option Bool} {S : Int → Prop} {r : Bool} {N : Int → Nat → Nat} {K : Nat} (bN : Bd b K N) (h : IsC ops col r p S N) : Half ops col b p (takes p S r) := by
  refine ⟨fun x r' e => takes_old e, fun r' => ?_⟩
  by_cases hr : r' = r
  · subst hr
    refine ⟨N, K, bN, h.iff fun x => ⟨fun hx => ⟨(h x hx).1, takes_new (h x hx).1 hx⟩, fun hx => ?_⟩⟩
    rcases takes_some hx.2 with z | z
    · rw [hx.1] at z
      cases z
    · exact z.2.1
  · refine ⟨fun _ _ => 0, 0, ⟨fun _ _ => Nat.le_refl _, fun _ _ _ => rfl⟩, fun x hx => ?_⟩
    rcases takes_some hx.2 with z | z
    · rw [hx.1] at z
      cases z
    · exact absurd z.2.2 hr
/-- what the other side owns even if one side owned all positions of the greatest colour -/
theorem half_lost {p g : Int → Option Bool} {t : Nat} {s : Bool} (h : Half ops col t (takes p (fun x => col x = t) s) g) : Half ops col (t + 1) p (takes p (fun x => g x = some (!s)) (!s)) := by
  obtain ⟨N, K, h1, h2⟩ := h.2 (!s)
  have hm : ∀ y r, p y = some r → g y = some r := fun y r e => h.1 y r (takes_old e)
  have hne : ∀ a : Bool, (!a) ≠ a := by decide
  refine ⟨fun x r' e => takes_old e, fun r' => ?_⟩
  by_cases hr : r' = !s
  · subst hr
    refine ⟨N, K, h1.mono (Nat.le_succ t), fun x hx => ⟨hx.1, ?_⟩⟩
    have hgx : g x = some (!s) := by
      rcases takes_some hx.2 with z | z
      · rw [hx.1] at z
        cases z
      · exact z.2.1
    have hox : takes p (fun x => col x = t) s x = none := by
      cases hq : takes p (fun x => col x = t) s x with
      | none => rfl
      | some r =>
        have hg := h.1 x r hq
        rw [hgx] at hg
        rcases takes_some hq with z | z
        · rw [hx.1] at z
          cases z
        · have := Option.some.inj hg
          rw [z.2.2] at this
          exact absurd this (hne s)
    refine (h2 x ⟨hox, hgx⟩).2.imp fun y hy => ?_
    rcases hy with hy | ⟨⟨y1, y2⟩, y3⟩
    · rcases takes_some hy with z | z
      · exact .inl z
      · exact absurd z.2.2 (hne s)
    · exact .inr ⟨⟨(takes_none y1).1, takes_new (takes_none y1).1 y2⟩, y3⟩
  · refine ⟨fun _ _ => 0, 0, ⟨fun _ _ => Nat.le_refl _, fun _ _ _ => rfl⟩, fun x hx => ?_⟩
    rcases takes_some hx.2 with z | z
    · rw [hx.1] at z
      cases z
    · exact absurd z.2.2 hr
/-- .. and if there is nothing of that, the one side owns all -/
theorem half_all {p g : Int → Option Bool} {t : Nat} (hb : ∀ x, p x = none → col x < t + 1) (cl : ∀ x, p x = none → ¬ Frc (!(par t)) (ops x) (fun y => p y = some (!(par t)))) (h : Half ops col t (takes p (fun x => col x = t) (par t)) g)
    (all : ∀ x, p x = none → g x = some (par t)) : Half ops col (t + 1) p (takes p (fun _ => True) (par t)) := by
  obtain ⟨N, K, h1, h2⟩ := h.2 (par t)
  have e : takes p (fun _ => True) (par t) = takes p (fun x => p x = none) (par t) := funext fun x => by
    unfold takes
    by_cases hx : p x = none
    · rw [if_pos ⟨hx, trivial⟩, if_pos ⟨hx, hx⟩]
    · rw [if_neg fun z => hx z.1, if_neg fun z => hx z.1]
  rw [e]
  refine Half.takes (ops := ops) (col := col) (b := t + 1) (r := par t) (S := fun x => p x = none) (N := fun x d => if d < t ∧ col x < t then N x d + 1 else 0) (K := K + 1) ⟨fun x d => ?_, fun x d hd => ?_⟩ (fun x hx => ⟨hx, ?_⟩)
  · dsimp only
    have := h1.1 x d
    split <;> omega
  · exact if_neg fun z => by omega
  · have hxb := hb x hx
    by_cases hxt : col x = t
    · have := Frc.dual (cl x hx)
      rw [Bool.not_not] at this
      refine this.imp fun y hy => ?_
      cases hp : p y with
      | some r =>
        refine .inl ?_
        by_cases hr : r = par t
        · rw [hr]
        · exact absurd (by rw [hp]; exact congrArg some (bne_not.mp hr)) hy
      | none =>
        refine .inr ⟨hp, ?_⟩
        refine Ge.rel (.inr fun e he _ => ?_) (by rw [hxt])
        show (if e < t ∧ col x < t then N x e + 1 else 0) = if e < t ∧ col y < t then N y e + 1 else 0
        rw [if_neg (by omega), if_neg (by omega)]
    · have hlt : col x < t := by omega
      have hox : takes p (fun x => col x = t) (par t) x = none := by rw [takes_not hxt]; exact hx
      have big : ∀ y, ¬ col y < t → Rel (par t) (col x) (fun d => if d < t ∧ col x < t then N x d + 1 else 0) (fun d => if d < t ∧ col y < t then N y d + 1 else 0) := fun y hy => by
        obtain ⟨t', rfl⟩ : ∃ t', t = t' + 1 := ⟨t - 1, by omega⟩
        refine Gt.rel ⟨t', by omega, by rw [par_s]; cases par t' <;> decide, ?_, fun e he _ => ?_⟩
        · show (if t' < t' + 1 ∧ col y < t' + 1 then N y t' + 1 else 0) < if t' < t' + 1 ∧ col x < t' + 1 then N x t' + 1 else 0
          rw [if_neg (fun z => hy z.2), if_pos ⟨Nat.lt_succ_self _, hlt⟩]
          omega
        · show (if e < t' + 1 ∧ col x < t' + 1 then N x e + 1 else 0) = if e < t' + 1 ∧ col y < t' + 1 then N y e + 1 else 0
          rw [if_neg (by omega), if_neg (by omega)]
      refine (h2 x ⟨hox, all x hx⟩).2.imp fun y hy => ?_
      rcases hy with hy | ⟨⟨y1, y2⟩, y3⟩
      · rcases takes_some hy with z | z
        · exact .inl z
        · exact .inr ⟨z.1, big y (by rw [z.2.1]; omega)⟩
      · obtain ⟨z1, z2⟩ := takes_none y1
        have hyt : col y < t := by
          have := hb y z1
          have : col y ≠ t := z2
          omega
        refine .inr ⟨z1, ?_⟩
        have := shift_rel (k := 1) (h1.2 x) (h1.2 y) y3
        refine this.congr (fun d _ => ?_) (fun d _ => ?_)
        · show (if d < t then 1 + N x d else 0) = if d < t ∧ col x < t then N x d + 1 else 0
          by_cases hd : d < t
          · rw [if_pos hd, if_pos ⟨hd, hlt⟩, Nat.add_comm]
          · rw [if_neg hd, if_neg fun z => hd z.1]
        · show (if d < t then 1 + N y d else 0) = if d < t ∧ col y < t then N y d + 1 else 0
          by_cases hd : d < t
          · rw [if_pos hd, if_pos ⟨hd, hyt⟩, Nat.add_comm]
          · rw [if_neg hd, if_neg fun z => hd z.1]
/-- a step nearer -/
theorem half_near {p : Int → Option Bool} {S : Int → Prop} {r : Bool} (h : ∀ x, S x → p x = none → Frc r (ops x) (fun y => p y = some r)) : Half ops col b p (takes p S r) := by
  have := Half.takes (ops := ops) (col := col) (b := b) (p := p) (S := fun x => S x ∧ p x = none) (r := r) (N := fun _ _ => 0) (K := 0) ⟨fun _ _ => Nat.le_refl _, fun _ _ _ => rfl⟩ fun x hx => ⟨hx.2, (h x hx.1 hx.2).imp fun y hy => .inl hy⟩
  have e : takes p S r = takes p (fun x => S x ∧ p x = none) r := funext fun x => by
    unfold takes
    by_cases hx : p x = none ∧ S x
    · rw [if_pos hx, if_pos ⟨hx.1, hx.2, hx.1⟩]
    · rw [if_neg hx, if_neg fun z => hx ⟨z.1, z.2.1⟩]
  rw [e]
  exact this
end
end NL

namespace NL
open PySem PySem.Spec PyProof.Rows L2
/-! ### least measures, entry by entry -/
/-- the disturbance has won at once -/
def Out1 (s : Bool) (y : Int) : Prop := y = -1 ∧ s = true
def grp (R : Int → Prop) (s : Bool) (M : Int → Nat → Nat) (d : Nat) (x : Int) : Int → Prop := fun y => R y ∧ Eqm s (d + 1) (M y) (M x)
def lss (R : Int → Prop) (s : Bool) (M : Int → Nat → Nat) (d : Nat) (x : Int) : Int → Prop := fun y => Out1 s y ∨ (R y ∧ Gt s (d + 1) (M x) (M y))
noncomputable def oV (col : Int → Nat) (s : Bool) (d : Nat) (G V : Int → Prop) : Int → Option Bool := fun x => open Classical in if V x then some s else if G x ∧ col x < d then none else some (!s)
section
variable (ops : Int → Pos') (col : Int → Nat) (s : Bool) (d : Nat) (G L : Int → Prop)
def wV (V : Int → Prop) : Int → Prop := fun x => V x ∨ Wn ops col d s (oV col s d G V) x
/-- the marks at the beginning of a round -/
def Vk : Nat → Int → Prop
  | 0 => fun x => L x ∨ (G x ∧ (d < col x ∨ Frc s (ops x) (Out1 s)))
  | k + 1 => fun x => wV ops col s d G (Vk k) x ∨ (G x ∧ Frc s (ops x) (wV ops col s d G (Vk k)))
def Wk (k : Nat) : Int → Prop := wV ops col s d G (Vk ops col s d G L k)
end
section
variable {ops : Int → Pos'} {col : Int → Nat} {s : Bool} {d : Nat} {G L : Int → Prop} {n : Nat}
theorem oV_none {V : Int → Prop} {x : Int} : oV col s d G V x = none ↔ ¬ V x ∧ G x ∧ col x < d := by
  unfold oV
  by_cases hv : V x
  · rw [if_pos hv]
    exact ⟨fun e => (nomatch e), fun h => absurd hv h.1⟩
  · rw [if_neg hv]
    by_cases hg : G x ∧ col x < d
    · rw [if_pos hg]
      exact ⟨fun _ => ⟨hv, hg⟩, fun _ => rfl⟩
    · rw [if_neg hg]
      exact ⟨fun e => (nomatch e), fun h => absurd h.2 hg⟩
theorem oV_own {V : Int → Prop} {x : Int} : oV col s d G V x = some s ↔ V x := by
  unfold oV
  by_cases hv : V x
  · rw [if_pos hv]
    exact ⟨fun _ => hv, fun _ => rfl⟩
  · rw [if_neg hv]
    refine ⟨fun e => ?_, fun h => absurd h hv⟩
    split at e
    · cases e
    · have := Option.some.inj e
      cases s <;> cases this
theorem oV_bd {V : Int → Prop} : ∀ x, oV col s d G V x = none → col x < d := fun x h => (oV_none.mp h).2.2
theorem oV_rg {V : Int → Prop} (hG : ∀ x, G x → 0 ≤ x ∧ x < (n : Int)) : ∀ x, oV col s d G V x = none → 0 ≤ x ∧ x < (n : Int) := fun x h => hG x (oV_none.mp h).2.1
theorem Vk_up {k : Nat} {x : Int} (h : Vk ops col s d G L k x) : Vk ops col s d G L (k + 1) x := .inl (.inl h)
theorem Wk_V {k : Nat} {x : Int} (h : Wk ops col s d G L k x) : Vk ops col s d G L (k + 1) x := .inl h
theorem Wk_up {k : Nat} {x : Int} (h : Wk ops col s d G L k x) : Wk ops col s d G L (k + 1) x := .inl (Wk_V h)
theorem Wk_le {j k : Nat} {x : Int} (h : Wk ops col s d G L j x) (hj : j ≤ k) : Wk ops col s d G L k x := by
  induction hj with
  | refl => exact h
  | step _ ih => exact Wk_up ih
theorem Vk_le {j k : Nat} {x : Int} (h : Vk ops col s d G L j x) (hj : j ≤ k) : Vk ops col s d G L k x := by
  induction hj with
  | refl => exact h
  | step _ ih => exact Vk_up ih
theorem Wk_sub {k : Nat} {x : Int} (h : Wk ops col s d G L k x) : L x ∨ G x := by
  induction k generalizing x with
  | zero =>
    rcases h with h | h
    · exact h.elim .inl fun h => .inr h.1
    · exact .inr (oV_none.mp h.open_).2.1
  | succ k ih =>
    rcases h with h | h
    · exact h.elim (fun h => ih h) fun h => .inr h.1
    · exact .inr (oV_none.mp h.open_).2.1
theorem Wk_near (hG : ∀ x, G x → 0 ≤ x ∧ x < (n : Int)) {k : Nat} {x : Int} (hg : G x) (hc : col x < d) (h : Frc s (ops x) (Wk ops col s d G L k)) : Wk ops col s d G L k x := by
  by_cases hv : Vk ops col s d G L k x
  · exact .inl hv
  · exact .inr (Wn.near (oV_rg hG) oV_bd (oV_none.mpr ⟨hv, hg, hc⟩) (h.imp fun y hy => hy.elim (fun h => .inl (oV_own.mpr h)) .inr))
/-- a round that finds no position of the colour is the last one -/
theorem Wk_stop (hG : ∀ x, G x → 0 ≤ x ∧ x < (n : Int)) {j : Nat} (h : ∀ x, G x → col x = d → Vk ops col s d G L (j + 1) x → Wk ops col s d G L j x) : ∀ k, j ≤ k → ∀ x, Wk ops col s d G L k x → Wk ops col s d G L j x := by
  have e1 : Vk ops col s d G L (j + 1) = Wk ops col s d G L j := funext fun x => propext ⟨fun hv => by
    rcases id hv with hw | ⟨hg, hf⟩
    · exact hw
    · rcases Nat.lt_trichotomy (col x) d with z | z | z
      · exact Wk_near hG hg z hf
      · exact h x hg z hv
      · exact .inl (Vk_le (j := 0) (.inr ⟨hg, .inl z⟩) (Nat.zero_le j)), fun hw => .inl hw⟩
  have e2 : wV ops col s d G (Wk ops col s d G L j) = Wk ops col s d G L j := funext fun x => propext ⟨fun hw => by
    rcases hw with hw | ⟨S, N, K, bN, hx, hS⟩
    · exact hw
    · by_cases hv : Vk ops col s d G L j x
      · exact .inl hv
      · refine .inr (Wn.more (oV_rg hG) oV_bd (S := S) bN (fun y hy => ?_) x hx)
        obtain ⟨g1, g2⟩ := hS y hy
        obtain ⟨z1, z2, z3⟩ := oV_none.mp g1
        refine ⟨oV_none.mpr ⟨fun hv => z1 (.inl hv), z2, z3⟩, g2.imp fun z hz => ?_⟩
        rcases hz with hz | hz
        · rcases oV_own.mp hz with hz | hz
          · exact .inl (oV_own.mpr hz)
          · exact .inr (.inl hz)
        · exact .inr (.inr hz), fun hw => .inl hw⟩
  have e3 : ∀ k, j ≤ k → Wk ops col s d G L k = Wk ops col s d G L j := fun k hk => by
    induction hk with
    | refl => rfl
    | step _ ih =>
      rename_i m _
      have : Vk ops col s d G L (m + 1) = Vk ops col s d G L (j + 1) := by
        show (fun x => Wk ops col s d G L m x ∨ (G x ∧ Frc s (ops x) (Wk ops col s d G L m))) = _
        rw [ih]
        rfl
      show wV ops col s d G (Vk ops col s d G L (m + 1)) = _
      rw [this, e1, e2]
  intro k hk x hx
  rw [e3 k hk] at hx
  exact hx
end
section
variable (ops : Int → Pos') (col : Int → Nat) (s : Bool) (R : Int → Prop) (M : Int → Nat → Nat)
/-- the entry for a colour is the first round in which the position is won -/
def SpM (d : Nat) : Prop := ∀ x, R x → Wk ops col s d (grp R s M d x) (lss R s M d x) (M x d) x ∧ ∀ j, j < M x d → ¬ Wk ops col s d (grp R s M d x) (lss R s M d x) j x
/-- a measure that may stand at the positions of a set -/
def Pg (S : Int → Prop) (N : Int → Nat → Nat) : Prop := ∀ x, S x → Frc s (ops x) (fun y => Out1 s y ∨ (S y ∧ Rel s (col x) (N x) (N y)))
end
section
variable {ops : Int → Pos'} {col : Int → Nat} {s : Bool} {R : Int → Prop} {M : Int → Nat → Nat} {n b KM : Nat}
theorem grp_eq {d : Nat} {x y : Int} (h : Eqm s (d + 1) (M y) (M x)) : grp R s M d y = grp R s M d x := funext fun z => propext ⟨fun g => ⟨g.1, Eqm.trans g.2 h⟩, fun g => ⟨g.1, Eqm.trans g.2 h.symm⟩⟩
theorem lss_eq {d : Nat} {x y : Int} (h : Eqm s (d + 1) (M y) (M x)) : lss R s M d y = lss R s M d x := funext fun z => propext ⟨fun g => g.elim .inl fun g => .inr ⟨g.1, h.symm.gt g.2⟩, fun g => g.elim .inl fun g => .inr ⟨g.1, h.gt g.2⟩⟩
theorem grp_rg (hR : ∀ x, R x → 0 ≤ x ∧ x < (n : Int)) {d : Nat} {x : Int} : ∀ y, grp R s M d x y → 0 ≤ y ∧ y < (n : Int) := fun y h => hR y h.1
theorem no_less (hR : ∀ x, R x → 0 ≤ x ∧ x < (n : Int)) (bM : Bd b KM M) : ∀ (j d : Nat), b ≤ d + 1 + j → (∀ d', d < d' → d' < b → par d' ≠ s → SpM ops col s R M d') → ∀ x, R x → col x ≤ d → Frc s (ops x) (lss R s M d x) → Frc s (ops x) (Out1 s)
  | 0, d, hd, _, x, hx, hc, h => h.imp fun y hy => hy.elim id fun hy => by
    obtain ⟨e, h1, h2, h3, h4⟩ := hy.2
    have := bM.2 x e (by omega)
    omega
  | j + 1, d, hd, hsp, x, hx, hc, h => by
    have ih := no_less hR bM j (d + 1) (by omega) (fun d' h1 h2 h3 => hsp d' (by omega) h2 h3) x hx (by omega)
    by_cases hz : par (d + 1) = s ∨ M x (d + 1) = 0
    · refine ih (h.imp fun y hy => hy.elim .inl fun hy => .inr ⟨hy.1, ?_⟩)
      rcases hy.2.step with g | ⟨_, g1, g2⟩
      · exact g
      · rcases hz with hz | hz
        · exact absurd hz g1
        · omega
    · have hp : par (d + 1) ≠ s := fun e => hz (.inl e)
      have hm : M x (d + 1) ≠ 0 := fun e => hz (.inr e)
      have hdb : d + 1 < b := by
        rcases Nat.lt_or_ge (d + 1) b with z | z
        · exact z
        · exact absurd (bM.2 x _ z) hm
      have sp := hsp (d + 1) (by omega) hdb hp
      obtain ⟨k, hk⟩ : ∃ k, M x (d + 1) = k + 1 := ⟨M x (d + 1) - 1, by omega⟩
      refine absurd ?_ ((sp x hx).2 k (by omega))
      refine Wk_near (grp_rg hR) ⟨hx, Eqm.refl⟩ (by omega) (h.imp fun y hy => ?_)
      have hL : lss R s M (d + 1) x y → Wk ops col s (d + 1) (grp R s M (d + 1) x) (lss R s M (d + 1) x) k y := fun h => .inl (Vk_le (j := 0) (.inl h) (Nat.zero_le k))
      rcases hy with hy | ⟨hy1, hy2⟩
      · exact hL (.inl hy)
      · rcases hy2.step with g | ⟨g1, _, g2⟩
        · exact hL (.inr ⟨hy1, g⟩)
        · have := (sp y hy1).1
          rw [grp_eq g1.symm, lss_eq g1.symm] at this
          exact Wk_le this (by omega)
theorem trunc_rel {c d : Nat} {m m' : Nat → Nat} (h : Rel s c m m') (e : Eqm s d m m') : Rel s c (fun k => if k < d then m k else 0) (fun k => if k < d then m' k else 0) := by
  have eqm : Eqm s c m m' → Eqm s c (fun k => if k < d then m k else 0) (fun k => if k < d then m' k else 0) := fun h k hk hq => by
    show (if k < d then m k else 0) = if k < d then m' k else 0
    rw [h k hk hq]
  have gt : Gt s c m m' → Gt s c (fun k => if k < d then m k else 0) (fun k => if k < d then m' k else 0) := fun ⟨k, g1, g2, g3, g4⟩ => by
    refine ⟨k, g1, g2, ?_, fun j hj hq => ?_⟩
    · show (if k < d then m' k else 0) < if k < d then m k else 0
      rcases Nat.lt_or_ge k d with z | z
      · rw [if_pos z, if_pos z]
        exact g3
      · have := e k z g2
        omega
    · show (if j < d then m j else 0) = if j < d then m' j else 0
      rw [g4 j hj hq]
  unfold Rel Ge at *
  split
  · next hp =>
    rw [if_pos hp] at h
    exact h.elim (fun h => .inl (gt h)) (fun h => .inr (eqm h))
  · next hp =>
    rw [if_neg hp] at h
    exact gt h
theorem succ_eq {d : Nat} {x y : Int} {N : Int → Nat → Nat} (hx : Eqm s (d + 1) (N x) (M x)) (h : Ge s (d + 1) (N x) (N y)) (hy : Ge s (d + 1) (N y) (M y)) : Gt s (d + 1) (M x) (M y) ∨ (Eqm s (d + 1) (N y) (M y) ∧ Eqm s (d + 1) (M y) (M x) ∧ Eqm s (d + 1) (N x) (N y)) := by
  rcases h with h | h
  · exact .inl (hx.symm.gt (h.ge hy))
  · rcases hy with hy | hy
    · exact .inl (hx.symm.gt (h.gt hy))
    · exact .inr ⟨hy, (Eqm.trans hx.symm (Eqm.trans h hy)).symm, h⟩
/-- a measure is won in the round that its entry says -/
theorem least_at (hR : ∀ x, R x → 0 ≤ x ∧ x < (n : Int)) (bM : Bd b KM M) {S : Int → Prop} {N : Int → Nat → Nat} {K : Nat} (bN : Bd b K N) (hSR : ∀ x, S x → R x) (hS : Pg ops col s S N) {d : Nat} (hp : par d ≠ s)
    (hsp : ∀ d', d < d' → d' < b → par d' ≠ s → SpM ops col s R M d') (hge : ∀ x, S x → Ge s (d + 1) (N x) (M x)) : ∀ (k : Nat) (x : Int), S x → Eqm s (d + 1) (N x) (M x) → N x d = k → Wk ops col s d (grp R s M d x) (lss R s M d x) k x := by
  intro k
  induction k using Nat.strongRecOn with
  | ind k ih =>
    intro x hx hxe hxk
    by_cases hv : Vk ops col s d (grp R s M d x) (lss R s M d x) k x
    · exact .inl hv
    refine .inr ⟨fun y => S y ∧ Eqm s (d + 1) (N y) (M y) ∧ Eqm s (d + 1) (M y) (M x) ∧ N y d = k ∧ ¬ Vk ops col s d (grp R s M d x) (lss R s M d x) k y, fun y e => if e < d then N y e else 0, K, ⟨fun y e => ?_, fun y e he => if_neg (by omega)⟩, ⟨hx, hxe, Eqm.refl, hxk, hv⟩, ?_⟩
    · dsimp only
      have := bN.1 y e
      split <;> omega
    rintro y ⟨y1, y2, y3, y4, y5⟩
    have hyR := hSR y y1
    have hyG : grp R s M d x y := ⟨hyR, y3⟩
    have V0 : ∀ z, lss R s M d x z → Vk ops col s d (grp R s M d x) (lss R s M d x) k z := fun z hz => Vk_le (j := 0) (.inl hz) (Nat.zero_le k)
    have hlo : ∀ z, S z → Eqm s (d + 1) (N z) (M z) → Eqm s (d + 1) (M z) (M x) → N z d < k → ∃ k', k = k' + 1 ∧ Wk ops col s d (grp R s M d x) (lss R s M d x) k' z := fun z z1 z2 z3 z4 => by
      obtain ⟨k', rfl⟩ : ∃ k', k = k' + 1 := ⟨k - 1, by omega⟩
      have := ih (N z d) z4 z z1 z2 rfl
      rw [grp_eq z3, lss_eq z3] at this
      exact ⟨k', rfl, Wk_le this (by omega)⟩
    have notend : ¬ (d < col y ∨ Frc s (ops y) (Out1 s)) := fun h => y5 (Vk_le (j := 0) (.inr ⟨hyG, h⟩) (Nat.zero_le k))
    have hcd : col y ≤ d := by
      rcases Nat.lt_or_ge d (col y) with z | z
      · exact absurd (.inl z) notend
      · exact z
    have lssy : ∀ z, S z → Gt s (d + 1) (M y) (M z) → lss R s M d x z := fun z z1 z2 => .inr ⟨hSR z z1, y3.symm.gt z2⟩
    have hF := hS y y1
    by_cases hcy : col y = d
    · exfalso
      have key : Frc s (ops y) (fun z => lss R s M d x z ∨ ∃ k', k = k' + 1 ∧ Wk ops col s d (grp R s M d x) (lss R s M d x) k' z) := hF.imp fun z hz => by
        rcases hz with hz | ⟨z1, z2⟩
        · exact .inl (.inl hz)
        · have g := z2.gt (by rw [hcy]; exact hp)
          rw [hcy] at g
          have gs := g.step
          have gge : Ge s (d + 1) (N y) (N z) := gs.elim .inl fun g => .inr g.1
          rcases succ_eq y2 gge (hge z z1) with a | ⟨a1, a2, a3⟩
          · exact .inl (lssy z z1 a)
          · rcases gs with gs | ⟨_, _, gs⟩
            · exact (gs.ge (.inr a3.symm)).irr.elim
            · exact .inr (hlo z z1 a1 (Eqm.trans a2 y3) (by omega))
      cases k with
      | zero =>
        have := key.imp (Q' := lss R s M d x) fun z hz => hz.elim id fun ⟨k', e, _⟩ => by omega
        rw [← lss_eq y3] at this
        exact notend (.inr (no_less hR bM b d (by omega) hsp y hyR hcd this))
      | succ k =>
        refine y5 (.inr ⟨hyG, key.imp fun z hz => ?_⟩)
        rcases hz with hz | ⟨k', e, hz⟩
        · exact .inl (Vk_le (j := 0) (.inl hz) (Nat.zero_le k))
        · obtain rfl : k = k' := by omega
          exact hz
    · refine ⟨oV_none.mpr ⟨y5, hyG, by omega⟩, hF.imp fun z hz => ?_⟩
      rcases hz with hz | ⟨z1, z2⟩
      · exact .inl (oV_own.mpr (V0 z (.inl hz)))
      · have gd := (z2.ge.up (show col y ≤ d by omega)).step
        have gge : Ge s (d + 1) (N y) (N z) := gd.elim .inl fun g => .inr g.1
        rcases succ_eq y2 gge (hge z z1) with a | ⟨a1, a2, a3⟩
        · exact .inl (oV_own.mpr (V0 z (lssy z z1 a)))
        · by_cases hvz : Vk ops col s d (grp R s M d x) (lss R s M d x) k z
          · exact .inl (oV_own.mpr hvz)
          · have hle : N z d ≤ k := by
              rcases gd with gd | ⟨_, gd⟩
              · exact (gd.ge (.inr a3.symm)).irr.elim
              · have := gd hp
                omega
            rcases Nat.lt_or_ge (N z d) k with hlt | hge'
            · obtain ⟨k', e, hw⟩ := hlo z z1 a1 (Eqm.trans a2 y3) hlt
              subst e
              exact absurd (Wk_V hw) hvz
            · have hzk : N z d = k := by omega
              refine .inr ⟨⟨z1, a1, Eqm.trans a2 y3, hzk, hvz⟩, trunc_rel z2 fun e he hq => ?_⟩
              rcases Nat.lt_or_ge d e with w | w
              · exact a3 e w hq
              · have : e = d := by omega
                subst this
                rw [y4, hzk]
/-- the least measures are least -/
theorem least_le (hR : ∀ x, R x → 0 ≤ x ∧ x < (n : Int)) (bM : Bd b KM M) {S : Int → Prop} {N : Int → Nat → Nat} {K : Nat} (bN : Bd b K N) (hSR : ∀ x, S x → R x) (hS : Pg ops col s S N) :
    ∀ (j d : Nat), b ≤ d + j → (∀ d', d ≤ d' → d' < b → par d' ≠ s → SpM ops col s R M d') → ∀ x, S x → Ge s d (N x) (M x)
  | 0, d, hd, _, x, _ => .inr fun e he _ => by rw [bN.2 x e (by omega), bM.2 x e (by omega)]
  | j + 1, d, hd, hsp, x, hx => by
    have ih := least_le hR bM bN hSR hS j (d + 1) (by omega) (fun d' h1 h2 h3 => hsp d' (by omega) h2 h3)
    rcases ih x hx with h | h
    · exact .inl (h.low (Nat.le_succ d))
    · refine Ge.of_le h fun hp => ?_
      rcases Nat.lt_or_ge d b with z | z
      · have w := least_at hR bM bN hSR hS hp (fun d' h1 h2 h3 => hsp d' (by omega) h2 h3) ih _ x hx h rfl
        rcases Nat.lt_or_ge (N x d) (M x d) with y | y
        · exact absurd w ((hsp d (Nat.le_refl d) z hp x (hSR x hx)).2 _ y)
        · exact y
      · rw [bN.2 x d z, bM.2 x d z]
        exact Nat.le_refl _
end
end NL

namespace NL
open PySem PySem.Spec PyProof.Rows L2
theorem fin_max (f : Int → Nat) : ∀ n : Nat, ∃ K, ∀ x : Int, 0 ≤ x → x < (n : Int) → f x ≤ K
  | 0 => ⟨0, fun x h0 h1 => by omega⟩
  | n + 1 => by
    obtain ⟨K, hK⟩ := fin_max f n
    refine ⟨K + f (n : Int), fun x h0 h1 => ?_⟩
    by_cases hx : x < (n : Int)
    · have := hK x h0 hx
      omega
    · have : x = (n : Int) := by omega
      subst this
      omega
section
variable {ops : Int → Pos'} {col : Int → Nat} {s : Bool} {R : Int → Prop} {M : Int → Nat → Nat} {n b KM : Nat}
theorem Wn.cert {d : Nat} {G V : Int → Prop} (hG : ∀ x, G x → 0 ≤ x ∧ x < (n : Int)) : ∃ N K, Bd d K N ∧ IsC ops col s (oV col s d G V) (Wn ops col d s (oV col s d G V)) N := wn_all (oV_rg hG) oV_bd
/-- a certificate for each game of a round -/
noncomputable def roundN (ops : Int → Pos') (col : Int → Nat) (s : Bool) (d : Nat) (p : Int → Option Bool) : Int → Nat → Nat := open Classical in if h : ∃ N, ∃ K, Bd d K N ∧ IsC ops col s p (Wn ops col d s p) N then Classical.choose h else fun _ _ => 0
theorem roundN_is {d : Nat} {G V : Int → Prop} (hG : ∀ x, G x → 0 ≤ x ∧ x < (n : Int)) : ∃ K, Bd d K (roundN ops col s d (oV col s d G V)) ∧ IsC ops col s (oV col s d G V) (Wn ops col d s (oV col s d G V)) (roundN ops col s d (oV col s d G V)) := by
  have h := Wn.cert (ops := ops) (col := col) (s := s) (d := d) (V := V) hG
  unfold roundN
  rw [dif_pos h]
  exact Classical.choose_spec h
/-- the game of the round in which a position is won -/
noncomputable def gmV (ops : Int → Pos') (col : Int → Nat) (s : Bool) (R : Int → Prop) (M : Int → Nat → Nat) (d : Nat) (x : Int) : Int → Option Bool := oV col s d (grp R s M d x) (Vk ops col s d (grp R s M d x) (lss R s M d x) (M x d))
theorem gm_eq {d : Nat} {x y : Int} (h : Eqm s (d + 1) (M y) (M x)) (e : M y d = M x d) : gmV ops col s R M d y = gmV ops col s R M d x := by
  unfold gmV
  rw [grp_eq h, lss_eq h, e]
/-- all levels down to one: the entries found are those of a full measure -/
theorem full_ex (hR : ∀ x, R x → 0 ≤ x ∧ x < (n : Int)) (bM : Bd b KM M) {N0 : Int → Nat → Nat} {K0 : Nat} (bN0 : Bd b K0 N0) (h0 : Pg ops col s R N0) :
    ∀ (j d : Nat), b ≤ d + j → (∀ d', d ≤ d' → d' < b → par d' ≠ s → SpM ops col s R M d') → ∃ N K, Bd b K N ∧ Pg ops col s R N ∧ ∀ x, R x → Eqm s d (N x) (M x)
  | 0, d, hd, _ => ⟨N0, K0, bN0, h0, fun x _ e he _ => by rw [bN0.2 x e (by omega), bM.2 x e (by omega)]⟩
  | j + 1, d, hd, hsp => by
    obtain ⟨N, K, bN, hN, hE⟩ := full_ex hR bM bN0 h0 j (d + 1) (by omega) fun d' h1 h2 h3 => hsp d' (by omega) h2 h3
    by_cases hz : par d = s ∨ b ≤ d
    · refine ⟨N, K, bN, hN, fun x hx e he hp => ?_⟩
      rcases Nat.lt_or_ge d e with w | w
      · exact hE x hx e w hp
      · have : e = d := by omega
        subst this
        rcases hz with hz | hz
        · exact absurd hz hp
        · rw [bN.2 x e hz, bM.2 x e hz]
    have hp : par d ≠ s := fun e => hz (.inl e)
    have hdb : d < b := by
      rcases Nat.lt_or_ge d b with z | z
      · exact z
      · exact absurd (.inr z) hz
    have sp := hsp d (Nat.le_refl d) hdb hp
    obtain ⟨KR, hKR⟩ := fin_max (fun x => Classical.choose (roundN_is (ops := ops) (col := col) (s := s) (d := d) (G := grp R s M d x) (V := Vk ops col s d (grp R s M d x) (lss R s M d x) (M x d)) (grp_rg hR (n := n)))) n
    have hRN : ∀ x, _ := fun x => Classical.choose_spec (roundN_is (ops := ops) (col := col) (s := s) (d := d) (G := grp R s M d x) (V := Vk ops col s d (grp R s M d x) (lss R s M d x) (M x d)) (grp_rg hR (n := n)))
    have hRN : ∀ x, ∃ K, (R x → K ≤ KR) ∧ Bd d K (roundN ops col s d (gmV ops col s R M d x)) ∧ IsC ops col s (gmV ops col s R M d x) (Wn ops col d s (gmV ops col s R M d x)) (roundN ops col s d (gmV ops col s R M d x)) := fun x => ⟨_, fun h => hKR x (hR x h).1 (hR x h).2, (hRN x).1, (hRN x).2⟩
    let N' : Int → Nat → Nat := fun x e => open Classical in if d ≤ e then M x e else if R x ∧ Wn ops col d s (gmV ops col s R M d x) x then roundN ops col s d (gmV ops col s R M d x) x e + 1 else 0
    have up : ∀ x e, d ≤ e → M x e = N' x e := fun x e he => (if_pos he).symm
    have lowW : ∀ x e, R x → Wn ops col d s (gmV ops col s R M d x) x → e < d → N' x e = roundN ops col s d (gmV ops col s R M d x) x e + 1 := fun x e hx hw he => (if_neg (by omega)).trans (if_pos ⟨hx, hw⟩)
    have low0 : ∀ x e, ¬ Wn ops col d s (gmV ops col s R M d x) x → e < d → N' x e = 0 := fun x e hw he => (if_neg (by omega)).trans (if_neg fun z => hw z.2)
    refine ⟨N', KM + KR + 1, ⟨fun x e => ?_, fun x e he => ?_⟩, fun x hx => ?_, fun x _ e he _ => (up x e he).symm⟩
    · show (if d ≤ e then M x e else _) ≤ _
      split
      · have := bM.1 x e
        omega
      · split
        · next hh =>
          obtain ⟨K, k1, k2, _⟩ := hRN x
          have := k2.1 x e
          have := k1 hh.1
          omega
        · omega
    · rw [← up x e (by omega)]
      exact bM.2 x e he
    · obtain ⟨sp1, sp2⟩ := sp x hx
      have hgx : grp R s M d x x := ⟨hx, Eqm.refl⟩
      by_cases hend : Frc s (ops x) (Out1 s)
      · exact hend.imp fun y hy => .inl hy
      -- what is marked before is as it should be
      have elL : ∀ y, lss R s M d x y → Out1 s y ∨ (R y ∧ Gt s (d + 1) (N' x) (N' y)) := fun y hy => hy.elim .inl fun hy => .inr ⟨hy.1, hy.2.congr (fun e he => up x e (by omega)) (fun e he => up y e (by omega))⟩
      have elG : ∀ y, grp R s M d x y → Eqm s (d + 1) (N' x) (N' y) := fun y hy => hy.2.symm.congr (fun e he => up x e (by omega)) (fun e he => up y e (by omega))
      have elW : ∀ k y, Wk ops col s d (grp R s M d x) (lss R s M d x) k y → grp R s M d x y → M y d ≤ k := fun k y hy hg => by
        rcases Nat.lt_or_ge k (M y d) with z | z
        · have := (sp y hg.1).2 k z
          rw [grp_eq hg.2, lss_eq hg.2] at this
          exact absurd hy this
        · exact z
      rcases Nat.lt_trichotomy (col x) d with hc | hc | hc
      · -- won within the round
        have hnv : ¬ Vk ops col s d (grp R s M d x) (lss R s M d x) (M x d) x := fun hv => by
          cases hm : M x d with
          | zero =>
            rw [hm] at hv
            rcases hv with hv | ⟨_, hv⟩
            · rcases hv with hv | hv
              · have := hR x hx
                have := hv.1
                omega
              · exact hv.2.irr
            · rcases hv with hv | hv
              · omega
              · exact hend hv
          | succ k =>
            rw [hm] at hv
            refine sp2 k (by omega) ?_
            rcases hv with hv | ⟨_, hv⟩
            · exact hv
            · exact Wk_near (grp_rg hR) hgx hc hv
        have hw : Wn ops col d s (gmV ops col s R M d x) x := sp1.resolve_left hnv
        obtain ⟨K1, _, b1, c1⟩ := hRN x
        refine (c1 x hw).2.imp fun y hy => ?_
        rcases hy with hy | ⟨hy, hr⟩
        · have hv := oV_own.mp hy
          rcases Wk_sub (show Wk ops col s d (grp R s M d x) (lss R s M d x) (M x d) y from .inl hv) with hl | hg
          · rcases elL y hl with z | z
            · exact .inl z
            · exact .inr ⟨z.1, (z.2.low (by omega)).rel⟩
          · refine .inr ⟨hg.1, ?_⟩
            have hle := elW _ y (.inl hv) hg
            have hny : ¬ Wn ops col d s (gmV ops col s R M d x) y := fun hw => by
              have := hw.open_
              rw [show gmV ops col s R M d x y = some s from hy] at this
              cases this
            have e1 := elG y hg
            rcases Nat.lt_or_ge (M y d) (M x d) with z | z
            · exact Gt.rel ((Gt.of_lt e1 hp (by rw [← up x d (Nat.le_refl d), ← up y d (Nat.le_refl d)]; exact z)).low (by omega))
            · have hyd : M y d = M x d := by omega
              rw [← gm_eq hg.2 hyd] at hny
              have e2 : Eqm s d (N' x) (N' y) := fun e he hq => by
                rcases Nat.lt_or_ge d e with w | w
                · exact e1 e w hq
                · have : e = d := by omega
                  subst this
                  rw [← up x e he, ← up y e he, hyd]
              by_cases hpc : par (col x) = s ∧ col x + 1 = d
              · refine Ge.rel (.inr fun e he hq => ?_) hpc.1
                rcases Nat.lt_or_ge e d with w | w
                · have : e = col x := by omega
                  subst this
                  exact absurd hpc.1 hq
                · exact e2 e w hq
              · -- the greatest entry below
                obtain ⟨q, q1, q2, q3, q4⟩ : ∃ q, col x ≤ q ∧ q < d ∧ par q ≠ s ∧ ∀ e, q < e → e < d → par e = s := by
                  obtain ⟨d1, rfl⟩ : ∃ d1, d = d1 + 1 := ⟨d - 1, by omega⟩
                  have hd1 : par d1 = s := by
                    rw [par_s] at hp
                    revert hp
                    cases par d1 <;> cases s <;> decide
                  obtain ⟨d2, rfl⟩ : ∃ d2, d1 = d2 + 1 := ⟨d1 - 1, by
                    have : col x ≠ d1 := fun e => hpc ⟨by rw [e]; exact hd1, by omega⟩
                    omega⟩
                  refine ⟨d2, ?_, by omega, ?_, fun e h1 h2 => ?_⟩
                  · have : col x ≠ d2 + 1 := fun e => hpc ⟨by rw [e]; exact hd1, by omega⟩
                    omega
                  · rw [par_s] at hd1
                    intro e
                    rw [e] at hd1
                    revert hd1
                    cases s <;> decide
                  · have : e = d2 + 1 := by omega
                    rw [this]
                    exact hd1
                refine Gt.rel ⟨q, q1, q3, ?_, fun e he hq => ?_⟩
                · rw [lowW x q hx hw q2, low0 y q hny q2]
                  omega
                · rcases Nat.lt_or_ge e d with w | w
                  · exact absurd (q4 e he w) hq
                  · exact e2 e w hq
        · -- won in the same round
          have ho := oV_none.mp hy.open_
          have hg : grp R s M d x y := ho.2.1
          refine .inr ⟨hg.1, ?_⟩
          have hyd : M y d = M x d := by
            have h1 := elW (M x d) y (.inr hy) hg
            rcases Nat.lt_or_ge (M y d) (M x d) with z | z
            · have := (sp y hg.1).1
              rw [grp_eq hg.2, lss_eq hg.2] at this
              exact absurd (Vk_le (Wk_V this) z) ho.1
            · omega
          have hwy : Wn ops col d s (gmV ops col s R M d y) y := by rw [gm_eq hg.2 hyd]; exact hy
          have e1 := elG y hg
          have same : ∀ e, d ≤ e → par e ≠ s → N' x e = N' y e := fun e he hq => by
            rcases Nat.lt_or_ge d e with w | w
            · exact e1 e w hq
            · have : e = d := by omega
              subst this
              rw [← up x e he, ← up y e he, hyd]
          have lo : ∀ e, e < d → N' x e = roundN ops col s d (gmV ops col s R M d x) x e + 1 ∧ N' y e = roundN ops col s d (gmV ops col s R M d x) y e + 1 := fun e he => ⟨lowW x e hx hw he, by rw [lowW y e hg.1 hwy he, gm_eq hg.2 hyd]⟩
          have eqm : Eqm s (col x) (roundN ops col s d (gmV ops col s R M d x) x) (roundN ops col s d (gmV ops col s R M d x) y) → Eqm s (col x) (N' x) (N' y) := fun h e he hq => by
            rcases Nat.lt_or_ge e d with w | w
            · rw [(lo e w).1, (lo e w).2, h e he hq]
            · exact same e w hq
          have gt : Gt s (col x) (roundN ops col s d (gmV ops col s R M d x) x) (roundN ops col s d (gmV ops col s R M d x) y) → Gt s (col x) (N' x) (N' y) := fun ⟨q, g1, g2, g3, g4⟩ => by
            have hqd : q < d := by
              rcases Nat.lt_or_ge q d with w | w
              · exact w
              · have := b1.2 x q w
                omega
            refine ⟨q, g1, g2, ?_, fun e he hq => ?_⟩
            · rw [(lo q hqd).1, (lo q hqd).2]
              omega
            · rcases Nat.lt_or_ge e d with w | w
              · rw [(lo e w).1, (lo e w).2, g4 e he hq]
              · exact same e w hq
          unfold Rel Ge at hr ⊢
          split
          · next hp =>
            rw [if_pos hp] at hr
            exact hr.elim (fun h => .inl (gt h)) (fun h => .inr (eqm h))
          · next hp =>
            rw [if_neg hp] at hr
            exact gt hr
      · -- a position of the colour itself
        have hnw : ¬ Wn ops col d s (gmV ops col s R M d x) x := fun hw => by
          have := (oV_none.mp hw.open_).2.2
          omega
        have hv : Vk ops col s d (grp R s M d x) (lss R s M d x) (M x d) x := sp1.resolve_right hnw
        cases hm : M x d with
        | zero =>
          rw [hm] at hv
          rcases hv with hv | ⟨_, hv⟩
          · rcases hv with hv | hv
            · have := hR x hx
              have := hv.1
              omega
            · exact hv.2.irr.elim
          · rcases hv with hv | hv
            · omega
            · exact absurd hv hend
        | succ k =>
          rw [hm] at hv
          rcases hv with hv | ⟨_, hv⟩
          · exact absurd hv (sp2 k (by omega))
          · refine hv.imp fun y hy => ?_
            rcases Wk_sub hy with hl | hg
            · rcases elL y hl with z | z
              · exact .inl z
              · exact .inr ⟨z.1, (z.2.low (by omega)).rel⟩
            · refine .inr ⟨hg.1, ?_⟩
              have := elW k y hy hg
              exact Gt.rel ((Gt.of_lt (elG y hg) hp (by rw [← up x d (Nat.le_refl d), ← up y d (Nat.le_refl d)]; omega)).low (by omega))
      · -- a greater colour
        refine (hN x hx).imp fun y hy => hy.elim .inl fun hy => .inr ⟨hy.1, hy.2.congrP (fun e he hq => (hE x hx e (by omega) hq).trans (up x e (by omega))) (fun e he hq => (hE y hy.1 e (by omega) hq).trans (up y e (by omega)))⟩
/-- each position of a level is won in some round -/
theorem won_ex (hR : ∀ x, R x → 0 ≤ x ∧ x < (n : Int)) (bM : Bd b KM M) {N0 : Int → Nat → Nat} {K0 : Nat} (bN0 : Bd b K0 N0) (h0 : Pg ops col s R N0) {d : Nat} (hp : par d ≠ s) (hsp : ∀ d', d + 1 ≤ d' → d' < b → par d' ≠ s → SpM ops col s R M d') :
    ∃ K, ∀ x, R x → Wk ops col s d (grp R s M d x) (lss R s M d x) K x := by
  obtain ⟨N, K, bN, hN, hE⟩ := full_ex hR bM bN0 h0 b (d + 1) (by omega) hsp
  exact ⟨K, fun x hx => Wk_le (least_at hR bM bN (fun _ h => h) hN hp (fun d' h1 h2 h3 => hsp d' h1 h2 h3) (fun x hx => .inr (hE x hx)) _ x hx (hE x hx) rfl) (bN.1 x d)⟩
end
end NL

namespace NL
open PySem PySem.Spec PyProof.Rows L2
section
variable {ops : Int → Pos'} {col : Int → Nat} {s : Bool} {R : Int → Prop} {M : Int → Nat → Nat} {n b KM : Nat}
theorem sp_all (hsp : ∀ d', d' < b → par d' ≠ s → SpM ops col s R M d') (d : Nat) : ∀ d', d ≤ d' → d' < b → par d' ≠ s → SpM ops col s R M d' := fun d' _ h2 h3 => hsp d' h2 h3
/-- the least measures may stand -/
theorem least_pg (hR : ∀ x, R x → 0 ≤ x ∧ x < (n : Int)) (bM : Bd b KM M) {N0 : Int → Nat → Nat} {K0 : Nat} (bN0 : Bd b K0 N0) (h0 : Pg ops col s R N0) (hsp : ∀ d', d' < b → par d' ≠ s → SpM ops col s R M d') : Pg ops col s R M := by
  obtain ⟨N, K, bN, hN, hE⟩ := full_ex hR bM bN0 h0 b 0 (by omega) (sp_all hsp 0)
  intro x hx
  exact (hN x hx).imp fun y hy => hy.elim .inl fun hy => .inr ⟨hy.1, hy.2.congrP ((hE x hx).up (Nat.zero_le _)) ((hE y hy.1).up (Nat.zero_le _))⟩
/-- .. and are least -/
theorem least_min (hR : ∀ x, R x → 0 ≤ x ∧ x < (n : Int)) (bM : Bd b KM M) {S : Int → Prop} {N : Int → Nat → Nat} {K : Nat} (bN : Bd b K N) (hSR : ∀ x, S x → R x) (hS : Pg ops col s S N) (hsp : ∀ d', d' < b → par d' ≠ s → SpM ops col s R M d') (x : Int) (hx : S x) : Ge s 0 (N x) (M x) :=
  least_le hR bM bN hSR hS b 0 (by omega) (sp_all hsp 0) x hx
/-- each lesser entry above 0 stands at a position of that colour in the same group -/
theorem least_col (hR : ∀ x, R x → 0 ≤ x ∧ x < (n : Int)) {d : Nat} (sp : SpM ops col s R M d) {x : Int} (hx : R x) {j : Nat} (hj : j < M x d) : ∃ y, R y ∧ col y = d ∧ M y d = j + 1 := by
  refine Classical.byContradiction fun no => ?_
  refine (sp x hx).2 j hj ?_
  refine Wk_stop (grp_rg hR) (fun y hg hc hv => ?_) (M x d) (by omega) x (sp x hx).1
  have hle : M y d ≤ j + 1 := by
    rcases Nat.lt_or_ge (j + 1) (M y d) with z | z
    · have := (sp y hg.1).2 (j + 1) z
      rw [grp_eq hg.2, lss_eq hg.2] at this
      exact absurd (.inl hv) this
    · exact z
  have hne : M y d ≠ j + 1 := fun e => no ⟨y, hg.1, hc, e⟩
  have := (sp y hg.1).1
  rw [grp_eq hg.2, lss_eq hg.2] at this
  exact Wk_le this (by omega)
/-- two that may stand and are least are one -/
theorem Ge.anti {r : Bool} {c : Nat} {m m' : Nat → Nat} (h : Ge r c m m') (g : Ge r c m' m) : Eqm r c m m' := by
  rcases h with h | h
  · exact absurd g (fun g => h.not_ge g)
  · exact h
end
/-! ### owners in the whole -/
/-- nothing is owned but being out -/
def o0 (n : Nat) : Int → Option Bool := fun x => if 0 ≤ x ∧ x < (n : Int) then none else some true
theorem o0_none {n : Nat} {x : Int} : o0 n x = none ↔ 0 ≤ x ∧ x < (n : Int) := by
  unfold o0
  split
  · next h => exact ⟨fun _ => h, fun _ => rfl⟩
  · next h => exact ⟨fun e => (nomatch e), fun g => absurd g h⟩
theorem o0_own {n : Nat} {x : Int} (h0 : -1 ≤ x) (h1 : x < (n : Int)) {s : Bool} : o0 n x = some s ↔ Out1 s x := by
  unfold o0 Out1
  split
  · next h => exact ⟨fun e => (nomatch e), fun g => by omega⟩
  · next h => exact ⟨fun e => ⟨by omega, (Option.some.inj e).symm⟩, fun g => by rw [g.2]⟩
section
variable {ops : Int → Pos'} {col : Int → Nat} {s : Bool} {n b : Nat}
/-- what a side owns -/
def Own (ops : Int → Pos') (col : Int → Nat) (b n : Nat) (s : Bool) : Int → Prop := Wn ops col b s (o0 n)
theorem Own.rg {x : Int} (h : Own ops col b n s x) : 0 ≤ x ∧ x < (n : Int) := o0_none.mp h.open_
theorem Own.pg (hin : ∀ x, ∀ o ∈ ops x, ∀ y ∈ o, -1 ≤ y ∧ y < (n : Int)) (hb : ∀ x, 0 ≤ x → x < (n : Int) → col x < b) : ∃ N K, Bd b K N ∧ Pg ops col s (Own ops col b n s) N := by
  obtain ⟨N, K, h1, h2⟩ := wn_all (ops := ops) (col := col) (b := b) (r := s) (p := o0 n) (n := n) (fun x h => o0_none.mp h) (fun x h => hb x (o0_none.mp h).1 (o0_none.mp h).2)
  refine ⟨N, K, h1, fun x hx => (h2 x hx).2.mono fun o ho y hy q => ?_⟩
  have := hin x o ho y hy
  rcases q with q | q
  · exact .inl ((o0_own this.1 this.2).mp q)
  · exact .inr q
theorem Own.of_pg (hin : ∀ x, ∀ o ∈ ops x, ∀ y ∈ o, -1 ≤ y ∧ y < (n : Int)) {S : Int → Prop} {N : Int → Nat → Nat} {K : Nat} (bN : Bd b K N) (hS : ∀ x, S x → 0 ≤ x ∧ x < (n : Int)) (h : Pg ops col s S N) (x : Int) (hx : S x) : Own ops col b n s x :=
  ⟨S, N, K, bN, hx, fun y hy => ⟨o0_none.mpr (hS y hy), (h y hy).mono fun o ho z hz q => by
    have := hin y o ho z hz
    rcases q with q | q
    · exact .inl ((o0_own this.1 this.2).mpr q)
    · exact .inr q⟩⟩
theorem Own.both {x : Int} (h : Own ops col b n s x) (h' : Own ops col b n (!s) x) : False := Wn.both (n := n) (fun x h => o0_none.mp h) h h'
theorem Own.one {x : Int} (h : Own ops col b n false x) (h' : Own ops col b n true x) : False := Wn.both (n := n) (r := false) (fun x h => o0_none.mp h) h h'
end
end NL

set_option maxHeartbeats 4000000
namespace NL
open PySem PySem.Spec PyProof.Rows L2
/-! ### for k in a new dict -/
def iKeysN (td : TE) : TI := fun σ H R => td σ H fun x H1 => ∃ d kvs, x = .ref d ∧ H1 d = some (.dK kvs) ∧ ∀ od, R (Itk d od kvs) (upd H1 d (.frz od (.dK kvs)))
theorem pi_keysN {X : Cx} {tg e : Expr} {td : TE} (he : PE X e td) : PI X tg e (iKeysN td) := by
  refine ⟨fun pins s σ H R I h => ?_⟩
  refine thn (he.run pins s σ H _ I h) fun u s1 ⟨x, H1, I1, rx, d, kvs, ex, hd, q⟩ => ?_
  subst ex
  obtain rfl : u = Value.ref d := rx
  obtain ⟨od, I2⟩ := I1.lock hd trivial
  obtain ⟨hs, hgd, hx, es, ep, vs, hdt, hsz, kv, hm⟩ := I2.frzK upd_same
  refine iter_keys hs hgd hx hdt (pi_one (tk := s1.toks) I2 _ (turn_keys _ hdt) ⟨_, Heap.get?_push_size _ rfl, rfl, ?_⟩ (q od))
  rw [hsz] <;> rfl
theorem valV_mem {k : Key} {v : V} : ∀ {kvs : List (Key × V)}, valV kvs k = some v → (k, v) ∈ kvs
  | [], h => nomatch h
  | p :: r, h => by
    by_cases e : p.1 = k
    · rw [valV_pos e] at h
      obtain ⟨a, b⟩ := p
      cases h
      rw [← e]
      exact List.mem_cons_self ..
    · rw [valV_neg e] at h
      exact List.mem_cons_of_mem _ (valV_mem h)
/-! ### all stays but for one place -/
structure Fx (a P : Addr) (H H' : Hp) : Prop where
  fr : ∀ b o, NT o → b ≠ a → H b = some o → H' b = some o
  tb : GxR.TabG H P → GxR.TabG H' P
  dom : ∀ b, H' b = none → H b = none
theorem Fx.refl {a P : Addr} {H : Hp} : Fx a P H H := ⟨fun _ _ _ _ e => e, fun t => t, fun _ e => e⟩
theorem Fx.sm {a P : Addr} {H H' : Hp} (s : Sm P H H') : Fx a P H H' := ⟨fun b o n _ e => s.fr b o n e, s.tb, s.dom⟩
theorem Fx.of {a P : Addr} {H H' : Hp} (s : Same H H') : Fx a P H H' := .sm (.of s)
theorem Fx.trans {a P : Addr} {H H1 H2 : Hp} (x : Fx a P H H1) (y : Fx a P H1 H2) : Fx a P H H2 := ⟨fun c o n h e => y.fr c o n h (x.fr c o n h e), fun h => y.tb (x.tb h), fun c e => x.dom c (y.dom c e)⟩
theorem Fx.put {a P : Addr} {H : Hp} {o : HO} (h : H a ≠ none) (hP : a ≠ P) : Fx a P H (upd H a o) := by
  refine ⟨fun b u n g e => ?_, fun ⟨ps, e, t⟩ => ⟨ps, by rw [upd_ne (Ne.symm hP)]; exact e, t⟩, fun b e => ?_⟩
  · rw [upd_ne g]
    exact e
  · by_cases hb : b = a
    · rw [hb, upd_same] at e
      cases e
    · rw [upd_ne hb] at e
      exact e
theorem Fx.new {a P p : Addr} {H H' : Hp} {o : HO} (x : Fx a P H H') (hp : H p = none) (hP : p ≠ P) : Fx a P H (upd H' p o) := by
  refine ⟨fun b u n g e => ?_, fun t => ?_, fun b e => ?_⟩
  · rw [upd_ne (ne_of_none e hp)]
    exact x.fr b u n g e
  · obtain ⟨ps, e, t⟩ := x.tb t
    exact ⟨ps, by rw [upd_ne (Ne.symm hP)]; exact e, t⟩
  · by_cases hb : b = p
    · rw [hb]
      exact hp
    · rw [upd_ne hb] at e
      exact x.dom b e
theorem Fx.tup {a P b : Addr} {H H' : Hp} {xs ys : List V} (x : Fx a P H H') (ha : H a = some (.lst ys)) (e : H b = some (.tup xs)) : H' b = some (.tup xs) := x.fr b _ trivial (fun z => by
  rw [z, ha] at e
  cases e) e
theorem Fx.tp {a P : Addr} {H H' : Hp} {ys : List V} (x : Fx a P H H') (ha : H a = some (.lst ys)) : Tp H H' := fun b xs e => x.tup ha e
/-- what is new is not in the way -/
theorem Fx.close {a P : Addr} {H H1 H2 : Hp} (ha : H a = none) (s : Sm P H H1) (x : Fx a P H1 H2) : Sm P H H2 := ⟨fun b o n e => x.fr b o n (ne_of_none e ha) (s.fr b o n e), fun t => x.tb (s.tb t), fun b e => s.dom b (x.dom b e)⟩
/-! ### owners in a list -/
def sI (r : Bool) : Int := if r = true then 1 else 0
def owV : Option Bool → V
  | none => .non
  | some r => .int (sI r)
theorem sI_inj {r r' : Bool} (h : sI r = sI r') : r = r' := by revert h; cases r <;> cases r' <;> decide
theorem owV_none {o : Option Bool} : owV o = .non ↔ o = none := by
  cases o with
  | none => exact ⟨fun _ => rfl, fun _ => rfl⟩
  | some r => exact ⟨fun e => (nomatch e), fun e => (nomatch e)⟩
theorem owV_some {o : Option Bool} {r : Bool} : owV o = .int (sI r) ↔ o = some r := by
  cases o with
  | none => exact ⟨fun e => (nomatch e), fun e => (nomatch e)⟩
  | some r' =>
    refine ⟨fun e => ?_, fun e => by rw [Option.some.inj e]; rfl⟩
    have : V.int (sI r') = V.int (sI r) := e
    rw [sI_inj (V.int.inj this)]
def osO (n : Nat) (p : Int → Option Bool) : List V := (List.range n).map (fun i : Nat => owV (p (i : Int))) ++ [owV (p (-1))]
theorem osO_len (n : Nat) (p : Int → Option Bool) : (osO n p).length = n + 1 := by
  unfold osO
  rw [List.length_append, List.length_map, List.length_range]
  rfl
theorem osO_nat {n : Nat} {p : Int → Option Bool} {k : Nat} (h : k < n) : (osO n p)[k]? = some (owV (p (k : Int))) := by
  unfold osO
  rw [List.getElem?_append_left (by rw [List.length_map, List.length_range]; exact h), List.getElem?_map, List.getElem?_range h]
  rfl
theorem osO_last {n : Nat} {p : Int → Option Bool} : (osO n p)[n]? = some (owV (p (-1))) := by
  unfold osO
  rw [List.getElem?_append_right (by rw [List.length_map, List.length_range]; exact Nat.le_refl n), List.length_map, List.length_range, Nat.sub_self]
  rfl
theorem osO_at {n : Nat} {p : Int → Option Bool} {x : Int} (h0 : -1 ≤ x) (h1 : x < n) : atI (osO n p) x = some (owV (p x)) := by
  by_cases hp : 0 ≤ x
  · have := atI_nat (osO_nat (p := p) (show x.toNat < n by omega))
    rw [show ((x.toNat : Nat) : Int) = x by omega] at this
    exact this
  · have : x = -1 := by omega
    subst this
    unfold atI ixN
    rw [if_neg (by decide), if_pos (by rw [osO_len]; omega), osO_len, show ((-1 : Int) + ((n + 1 : Nat) : Int)).toNat = n by omega]
    exact osO_last
theorem osO_ext {n : Nat} {p q : Int → Option Bool} (h : ∀ x : Int, -1 ≤ x → x < n → p x = q x) : osO n p = osO n q := by
  unfold osO
  rw [h (-1) (Int.le_refl _) (by omega)]
  congr 1
  exact List.map_congr_left fun k hk => by rw [h _ (by omega) (by have := List.mem_range.mp hk; omega)]
/-- one owner set -/
def setO (p : Int → Option Bool) (x : Int) (r : Option Bool) : Int → Option Bool := fun y => if y = x then r else p y
theorem setO_same {p : Int → Option Bool} {x : Int} {r : Option Bool} : setO p x r x = r := if_pos rfl
theorem setO_ne {p : Int → Option Bool} {x y : Int} {r : Option Bool} (h : y ≠ x) : setO p x r y = p y := if_neg h
theorem osO_set {n : Nat} {p : Int → Option Bool} {x : Int} {r : Option Bool} (h0 : 0 ≤ x) (h1 : x < n) : (osO n p).set x.toNat (owV r) = osO n (setO p x r) := by
  refine List.ext_getElem? fun k => ?_
  rw [List.getElem?_set]
  by_cases hk : x.toNat = k
  · rw [if_pos hk, if_pos (by rw [osO_len]; omega)]
    rw [osO_nat (show k < n by omega)]
    have : ((k : Nat) : Int) = x := by omega
    rw [this, setO_same]
  · rw [if_neg hk]
    rcases Nat.lt_trichotomy k n with h | h | h
    · rw [osO_nat h, osO_nat h, setO_ne (by omega)]
    · subst h
      rw [osO_last, osO_last, setO_ne (by omega)]
    · rw [List.getElem?_eq_none (by rw [osO_len]; omega), List.getElem?_eq_none (by rw [osO_len]; omega)]
theorem osO_flat {n : Nat} {p : Int → Option Bool} : ∀ v ∈ osO n p, v = .non ∨ ∃ i, v = .int i := by
  have h : ∀ o, owV o = .non ∨ ∃ i, owV o = .int i := fun o => by
    cases o with
    | none => exact .inl rfl
    | some r => exact .inr ⟨_, rfl⟩
  intro v hv
  unfold osO at hv
  rcases List.mem_append.mp hv with hv | hv
  · obtain ⟨k, _, rfl⟩ := List.mem_map.mp hv
    exact h _
  · rw [List.mem_singleton.mp hv]
    exact h _
/-- the open positions, in order -/
def opn (n : Nat) (p : Int → Option Bool) : List Int := ((List.range n).filter fun i : Nat => decide (p (i : Int) = none)).map fun i : Nat => (i : Int)
theorem opn_mem {n : Nat} {p : Int → Option Bool} {x : Int} : x ∈ opn n p ↔ (0 ≤ x ∧ x < (n : Int)) ∧ p x = none := by
  unfold opn
  rw [List.mem_map]
  constructor
  · rintro ⟨k, hk, rfl⟩
    obtain ⟨h1, h2⟩ := List.mem_filter.mp hk
    have := List.mem_range.mp h1
    exact ⟨by omega, of_decide_eq_true h2⟩
  · rintro ⟨h1, h2⟩
    exact ⟨x.toNat, List.mem_filter.mpr ⟨List.mem_range.mpr (by omega), decide_eq_true (by rw [show ((x.toNat : Nat) : Int) = x by omega]; exact h2)⟩, by omega⟩
theorem opn_s (n : Nat) (p : Int → Option Bool) : opn (n + 1) p = opn n p ++ (if p (n : Int) = none then [(n : Int)] else []) := by
  unfold opn
  rw [List.range_succ, List.filter_append, List.map_append]
  congr 1
  rw [List.filter_cons]
  by_cases h : p (n : Int) = none
  · rw [if_pos h, if_pos (decide_eq_true h)]
    rfl
  · rw [if_neg h, if_neg (by rw [decide_eq_false h]; exact Bool.false_ne_true)]
    rfl
theorem opn_len (n : Nat) (p : Int → Option Bool) : (opn n p).length ≤ n := by
  unfold opn
  rw [List.length_map]
  have := List.length_filter_le (fun i : Nat => decide (p (i : Int) = none)) (List.range n)
  rw [List.length_range] at this
  exact this
theorem osO_marks (n : Nat) (p : Int → Option Bool) (r : Bool) : (osO n p).map (fun u => V.bl (decide (u = V.int (sI r)))) = (bsO n fun x => decide (p x = some r)).map V.bl := by
  have h : ∀ x, V.bl (decide (owV (p x) = V.int (sI r))) = V.bl (decide (p x = some r)) := fun x => by
    congr 1
    by_cases e : p x = some r
    · rw [decide_eq_true e, decide_eq_true (owV_some.mpr e)]
    · rw [decide_eq_false e, decide_eq_false fun z => e (owV_some.mp z)]
  unfold osO bsO
  rw [List.map_append, List.map_append, List.map_map, List.map_map]
  congr 1
  · exact List.map_congr_left fun k _ => h _
  · show [V.bl _] = [V.bl _]
    rw [h]
/-! ### what is near -/
theorem frcM_Frc {r : Bool} {os : Pos'} {M : Mk'} : frcM (sI r) os M = true ↔ Frc r os (fun p => M p = true) := by
  unfold frcM Frc
  cases r with
  | true =>
    rw [if_neg (by decide), if_pos rfl]
    simp only [List.all_eq_true, List.any_eq_true]
  | false =>
    rw [if_pos (show sI false = 0 from rfl), if_neg (by decide)]
    simp only [List.all_eq_true, List.any_eq_true]
theorem takes_takes {p : Int → Option Bool} {S S' : Int → Prop} {r : Bool} (h : ∀ x, S x → S' x) : takes (takes p S r) S' r = takes p S' r := funext fun x => by
  by_cases hp : p x = none
  · by_cases hs : S x
    · rw [takes_new hp (h x hs), takes_old (takes_new hp hs)]
    · have e : takes p S r x = none := by rw [takes_not hs]; exact hp
      by_cases hs' : S' x
      · rw [takes_new hp hs', takes_new e hs']
      · rw [takes_not hs', takes_not hs', e, hp]
  · cases hq : p x with
    | none => exact absurd hq hp
    | some r' => rw [takes_old (takes_old hq), takes_old hq]
section
variable {A : Ar} {r : Bool} {p : Int → Option Bool} {am : List Int} {M : Mk'} {col : Int → Nat} {b : Nat}
theorem mr_old (hM : ∀ x, M x = decide (p x = some r)) (ham : ∀ x, x ∈ am → p x = none) {k : Nat} {y : Int} (h : mr A (sI r) am M k y = true) : takes p (fun x => mr A (sI r) am M k x = true) r y = some r := by
  cases hp : p y with
  | none => exact takes_new hp h
  | some r' =>
    rw [mr_out (fun z => by rw [ham y z] at hp; cases hp) k, hM y] at h
    rw [takes_old hp, ← hp]
    exact of_decide_eq_true h
theorem near_half (hM : ∀ x, M x = decide (p x = some r)) (ham : ∀ x, x ∈ am → p x = none) (hb : ∀ x, p x = none → col x < b) : ∀ k : Nat, Half (psO A) col b p (takes p (fun x => mr A (sI r) am M k x = true) r)
  | 0 => by
    have e : takes p (fun x => mr A (sI r) am M 0 x = true) r = p := funext fun x => by
      cases hp : p x with
      | none =>
        rw [takes_not, hp]
        show ¬ M x = true
        rw [hM, hp]
        exact fun h => nomatch of_decide_eq_true h
      | some r' => exact takes_old hp
    rw [e]
    exact Half.refl
  | k + 1 => by
    have ih := near_half hM ham hb k
    have e := takes_takes (p := p) (r := r) (S := fun x => mr A (sI r) am M k x = true) (S' := fun x => mr A (sI r) am M (k + 1) x = true) fun x hx => mr_up hx
    rw [← e]
    refine ih.trans hb (half_near fun x hx hq => ?_)
    obtain ⟨hp, hn⟩ := takes_none hq
    have hx : (mr A (sI r) am M k x || (decide (x ∈ am) && frcM (sI r) (psO A x) (mr A (sI r) am M k))) = true := hx
    rw [Bool.or_eq_true] at hx
    have hx := hx.resolve_left hn
    rw [Bool.and_eq_true] at hx
    exact (frcM_Frc.mp hx.2).imp fun y hy => mr_old hM ham hy
theorem near_closed {n K : Nat} (hM : ∀ x, M x = decide (p x = some r)) (ham : ∀ x, x ∈ am ↔ p x = none) (hr : ∀ x, p x = none → 0 ≤ x ∧ x < (n : Int)) (hst : ∀ L, K ≤ L → ∀ x, -1 ≤ x → x < (n : Int) → mr A (sI r) am M L x = mr A (sI r) am M K x) {x : Int}
    (hx : takes p (fun x => mr A (sI r) am M K x = true) r x = none) : ¬ Frc r (psO A x) (fun y => takes p (fun x => mr A (sI r) am M K x = true) r y = some r) := fun h => by
  obtain ⟨hp, hn⟩ := takes_none hx
  have h1 := hr x hp
  have e := hst (K + 1) (Nat.le_succ K) x (by omega) h1.2
  have h2 : frcM (sI r) (psO A x) (mr A (sI r) am M K) = true := frcM_Frc.mpr (h.imp fun y hy => by
    rcases takes_some hy with z | z
    · refine mr_le (Nat.zero_le K) ?_
      show M y = true
      rw [hM y]
      exact decide_eq_true z
    · exact z.2.1)
  have : (mr A (sI r) am M K x || (decide (x ∈ am) && frcM (sI r) (psO A x) (mr A (sI r) am M K))) = mr A (sI r) am M K x := e
  rw [h2, decide_eq_true ((ham x).mpr hp)] at this
  have hn' : mr A (sI r) am M K x = false := by simpa using hn
  rw [hn'] at this
  cases this
end
/-- what a step to what is near keeps, and that nothing is near any more -/
structure NearO (A : Ar) (p q : Int → Option Bool) : Prop where
  half : ∀ (col : Int → Nat) (b : Nat), (∀ x, p x = none → col x < b) → Half (psO A) col b p q
  closed : ∀ (r : Bool) x, q x = none → ¬ Frc r (psO A x) (fun y => q y = some r)
/-- what is asked when the first k sides have taken -/
structure NearK (A : Ar) (p q : Int → Option Bool) (k : Nat) : Prop where
  half : ∀ (col : Int → Nat) (b : Nat), (∀ x, p x = none → col x < b) → Half (psO A) col b p q
  c0 : 1 ≤ k → ∀ x, q x = none → ¬ Frc false (psO A x) (fun y => q y = some false)
  c1 : 2 ≤ k → ∀ x, q x = none → ¬ Frc true (psO A x) (fun y => q y = some true)
section
variable {P : Program} {w : World} {K : PySem.W.Frag} {mg : Str → Option Value} {base : Heap}
def spNear (Pt : Addr) : Sp := fun vs H Q _ => ∃ (v : V) (A : Ar) (ol : Addr) (p : Int → Option Bool), vs = [v, .ref ol] ∧ ArIn H A v ∧ A.length ≤ 500 ∧ InA A A.length ∧ H ol = some (.lst (osO A.length p)) ∧ GxR.TabG H Pt ∧ (∀ x, p x = none → 0 ≤ x ∧ x < (A.length : Int)) ∧
  ∀ q H', Fx ol Pt H H' → H' ol = some (.lst (osO A.length q)) → NearO A p q → Q .non H'
theorem ok_take_near (T : Txt K mg) {c Pt : Addr} (TB : GxR.TabB base mg c Pt) (hc : T.dforces.code = .ref c) : FnOk P w K mg base CX0 4 T.a_take_near T.d_take_near P_take_near (spNear Pt) := by
  have Gsteps_to := ok_steps_to (P := P) (w := w) T TB hc
  refine T.F_take_near.ok sc_take_near (fun vs H Q E h => ?_) (fun cdv A outer s H vs Q E hr h => ?_)
  · obtain ⟨v, A, ol, p, rfl, _⟩ := h
    rfl
  obtain ⟨v, A0, ol, p, rfl, hA, hn, hin, ho, hT, hp, q⟩ := h
  generalize hnn : A0.length = n at *
  refine ⟨_, (pss_one (ps_for  PassesOwn.never rfl (pi_tup (pe_tup (pa_cons (pe_glob rfl T.g_CONTROLLER T.r_CONTROLLER) (pa_cons (pe_glob rfl T.g_DISTURBANCE T.r_DISTURBANCE) pa_nil)))) (pg_name (i := 2) sc_take_near.nd rfl (Or.inr rfl))
    (pss_cons (ps_setLc (i := 3) (own := [("at", 4), ("owner", 5)]) (g := (gTup K 2 (gCons (gName 4) (gCons (gName 5) gNil)))) (tt := _) rfl sc_take_near.nd rfl rfl (sw_true rfl rfl rfl (by decide +kernel)) (pi_enum (by rfl) T.z_enumerate (pa_cons (pv 1) pa_nil)) (blkOk_by (N := N_take_near) (sc := defScope s_take_near) (by decide +kernel)) (fun _ _ _ _ _ => (pg_tup rfl (pgs_cons (pg_name (i := 4) sc_take_near.nd rfl (Or.inl rfl)) (pgs_cons (pg_name (i := 5) sc_take_near.nd rfl (Or.inl rfl)) pgs_nil)))) (fun _ _ _ _ _ => (pts_one (pt_cmpR op_isN (pv 5) pe_non (nomark _)))) (fun _ _ _ _ _ => (pv 4)))
    (pss_cons (ps_setLc (i := 6) (own := [("owner", 5)]) (g := (gName 5)) (tt := tYes) rfl sc_take_near.nd rfl rfl (sw_true rfl rfl rfl (by decide +kernel)) (pi_list (pv 1)) (blkOk_by (N := N_take_near) (sc := defScope s_take_near) (by decide +kernel)) (fun _ _ _ _ _ => (pg_name (i := 5) sc_take_near.nd rfl (Or.inl rfl))) (fun _ _ _ _ _ => pts_nil) (fun _ _ _ _ _ => (pe_cmpR op_eq (pv 5) (pv 2) (nomark _))))
    (pss_one (ps_for PassesOwn.never rfl (pi_keysN (pe_call Gsteps_to (hr.mono (by omega)) (by rfl) T.msteps_to T.Fsteps_to.kp T.bsteps_to .nil pass0 (pa_cons (pv 0) (pa_cons (pv 2) (pa_cons (pv 6) (pa_cons (pv 3) pa_nil)))))) (pg_name (i := 4) sc_take_near.nd rfl (Or.inl rfl))
    (pss_one (ps_asg (pv 2) (pg_sub (pv 1) (pv 4) set_list))))))))), ?_⟩
  refine ⟨Nat.le_of_ble_eq_true rfl, fun tt htt => ?_⟩
  obtain ⟨H1, e1, s1, k1⟩ := newH htt (.tup [V.int 0, V.int 1])
  rw [e1]
  refine ⟨tt, rfl, ⟨_, sqt k1⟩, ?_⟩
  have hTo : ∀ {H' : Hp}, GxR.TabG H' Pt → ∀ {xs}, H' ol = some (.lst xs) → ol ≠ Pt := fun t xs e => TabG.ne t (o := .lst xs) trivial e
  refine for_tup (K := K) (a := tt) (xs := [V.int 0, V.int 1]) (fun (j : Nat) (σ : L2.St) (H' : Hp) => ∃ (g : Int → Option Bool) (y2 y3 y4 y5 y6 : Option V), σ = [some v, some (.ref ol), y2, y3, y4, y5, y6] ∧ Fx ol Pt H1 H' ∧ H' ol = some (.lst (osO n g)) ∧ NearK A0 p g j) ?_ ?_ ?_ ?_
  · exact ⟨p, _, _, _, _, _, rfl, Fx.refl, s1 _ _ ho, ⟨fun col b hb => Half.refl, fun h => by omega, fun h => by omega⟩⟩
  · rintro j σ H' _ ⟨g, y2, y3, y4, y5, y6, rfl, f1, kg, _⟩
    exact sqt (f1.tup (s1 _ _ ho) k1)
  · rintro j x σ H2 hx ⟨g, y2, y3, y4, y5, y6, rfl, f1, kg, hN⟩
    obtain ⟨r, hr1, rfl⟩ : ∃ r : Bool, (r = decide (j = 1)) ∧ x = V.int (sI r) := by
      match j, hx with
      | 0, hx => exact ⟨false, rfl, (Option.some.inj hx).symm⟩
      | 1, hx => exact ⟨true, rfl, (Option.some.inj hx).symm⟩
      | j + 2, hx => cases hx
    have hj2 : j < 2 := (List.getElem?_eq_some_iff.mp hx).1
    have hT2 := f1.tb (TabG.same hT s1)
    have hopen : ∀ x, g x = none → 0 ≤ x ∧ x < (n : Int) := fun x hx => hp x ((hN.half (fun _ => 0) 1 fun _ _ => Nat.zero_lt_one).open_ hx)
    refine ⟨_, rfl, ol, _, rfl, sqd kg, fun L hL => ?_⟩
    have hLP : L ≠ Pt := TabG.ne0 hT2 hL
    refine lc_it (walk_enum (K := K) (a := ol) (xs := osO n g)) (fun (i : Nat) (H' : Hp) => Sm Pt H2 H' ∧ H' L = some (.lst ((opn (min i n) g).map V.int))) ?_ ?_ ?_ ?_
    · exact ⟨.of (same_new hL _), by rw [Nat.min_eq_left (Nat.zero_le _)]; exact upd_same⟩
    · rintro i H' _ ⟨s3, _⟩
      exact sqd (s3.lst kg)
    · rintro i x H3 H4 hi ⟨s3, k3⟩ ⟨t, x1, y1, rfl, ht, rfl, hx1, hy1⟩
      cases hx1
      rw [osO_len] at hi
      obtain ⟨H5, e5, s5, k5⟩ := newH ht (.tup [.int (i : Nat), y1])
      rw [e5]
      have hol := opn_len (min i n) g
      refine ⟨t, _, rfl, sqt k5, rfl, _, _, rfl, _, _, rfl, rfl, rfl, ?_⟩
      refine ⟨_, rfl, rfl, _, rfl, ?_⟩
      rcases Nat.lt_or_ge i n with hin2 | hin2
      · have hy2 : y1 = owV (g (i : Int)) := by
          have := osO_nat (p := g) hin2
          rw [show (osO n g)[i]? = some y1 from hy1] at this
          exact Option.some.inj this
        rw [Nat.min_eq_left (by omega)] at k3 hol
        rw [Nat.min_eq_left (by omega), opn_s]
        by_cases hg : g (i : Int) = none
        · rw [decide_eq_true (by rw [hy2]; exact owV_none.mpr hg), if_pos hg]
          refine iteT ⟨_, rfl, _, s5 _ _ k3, big' (by rw [List.length_map]; omega), (s3.trans (.of s5)).put hL hLP, ?_⟩
          rw [upd_same, List.map_append]
          rfl
        · rw [decide_eq_false (by rw [hy2]; exact fun z => hg (owV_none.mp z)), if_neg hg, List.append_nil]
          exact iteF ⟨s3.trans (.of s5), s5 _ _ k3⟩
      · have hie : i = n := by omega
        subst hie
        have hy2 : y1 = owV (g (-1)) := by
          have := osO_last (n := i) (p := g)
          rw [show (osO i g)[i]? = some y1 from hy1] at this
          exact Option.some.inj this
        have hg : g (-1) ≠ none := fun e => by
          have := hopen _ e
          omega
        rw [decide_eq_false (by rw [hy2]; exact fun z => hg (owV_none.mp z))]
        rw [Nat.min_self] at k3
        rw [Nat.min_eq_right (Nat.le_succ i)]
        exact iteF ⟨s3.trans (.of s5), s5 _ _ k3⟩
    rintro H3 ⟨s3, k3⟩
    rw [osO_len, Nat.min_eq_right (Nat.le_succ n)] at k3
    have kg3 := s3.lst kg
    refine ⟨_, rfl, ol, rfl, ⟨_, sqd kg3⟩, fun ML hML => ?_⟩
    have hT3 := s3.tb hT2
    have hMP : ML ≠ Pt := TabG.ne0 hT3 hML
    refine lc_list (K := K) (a := ol) (xs := osO n g) (fun (i : Nat) (H' : Hp) => Sm Pt H3 H' ∧ H' ML = some (.lst (((osO n g).take i).map fun u => V.bl (decide (u = V.int (sI r)))))) ?_ ?_ ?_ ?_
    · exact ⟨.of (same_new hML _), upd_same⟩
    · rintro i H' _ ⟨s4, _⟩
      exact sqd (s4.lst kg3)
    · rintro i x H4 hi ⟨s4, k4⟩
      have hil := (List.getElem?_eq_some_iff.mp hi).1
      rw [osO_len] at hil
      refine ⟨rfl, yes_if ?_⟩
      have hsc : ∀ u ∈ osO n g, scal u (V.int (sI r)) = true := fun u hu => by
        rcases osO_flat u hu with rfl | ⟨i, rfl⟩ <;> rfl
      refine ⟨_, rfl, _, rfl, hsc x (List.mem_of_getElem? hi), _, k4, big' (by rw [List.length_map, List.length_take, osO_len]; omega), s4.put hML hMP, ?_⟩
      rw [upd_same, List.take_add_one, hi, List.map_append]
      rfl
    rintro H4 ⟨s4, k4⟩
    rw [List.take_length, osO_marks] at k4
    have s24 := s3.trans s4
    have hA4 : ArIn H4 A0 v := hA.tp ((Tp.same s1).trans ((f1.tp (s1 _ _ ho)).trans s24.tp))
    refine ⟨_, rfl, _, rfl, _, rfl, _, rfl, v, A0, sI r, ML, L, (fun x => decide (g x = some r)), opn n g, rfl, .of hA4, by omega, by rw [hnn]; exact hin, by rw [hnn]; exact k4, s4.lst k3, by have := opn_len n g; omega, fun x hx => by rw [hnn]; exact (opn_mem.mp hx).1, s24.tb hT2, fun D kvs k H5 s5 hD kD hdk hky hkl hst => ?_⟩
    refine ⟨D, kvs, rfl, kD, fun od => ?_⟩
    have hDP : D ≠ Pt := TabG.ne0 (s24.tb hT2) hD
    have hDo : D ≠ ol := (ne_of_none (s24.lst kg) hD).symm
    have fD : Fx ol Pt H4 (upd H5 D (.frz od (.dK kvs))) := (Fx.sm s5).new hD hDP
    have inK : ∀ e ∈ kvs, ∃ x : Int, e.1 = (Sum.inl x : Key) ∧ (0 ≤ x ∧ x < (n : Int)) ∧ g x = none ∧ mr A0 (sI r) (opn n g) (fun x => decide (g x = some r)) k x = true := fun e he => by
      obtain ⟨m, hm, em⟩ := hky e he
      rw [hnn] at hm
      have hv : valV kvs (Sum.inl (m : Int) : Key) ≠ none := fun h => by
        have h2 : (kvs.any fun kv => decide (kv.1 = (Sum.inl (m : Int) : Key))) = true := List.any_eq_true.mpr ⟨e, he, decide_eq_true em⟩
        rw [valV_any, h] at h2
        cases h2
      have h1 : mr A0 (sI r) (opn n g) (fun x => decide (g x = some r)) k (m : Int) = true := by
        cases h : mr A0 (sI r) (opn n g) (fun x => decide (g x = some r)) k (m : Int) with
        | true => rfl
        | false => exact absurd ((hdk (m : Int)).1 (.inl h)) hv
      have h2 : mr A0 (sI r) (opn n g) (fun x => decide (g x = some r)) 0 (m : Int) = false := by
        cases h : mr A0 (sI r) (opn n g) (fun x => decide (g x = some r)) 0 (m : Int) with
        | false => rfl
        | true => exact absurd ((hdk (m : Int)).1 (.inr h)) hv
      refine ⟨(m : Int), em, ⟨by omega, by omega⟩, ?_, h1⟩
      refine Classical.byContradiction fun hg => ?_
      rw [mr_out (fun z => hg (opn_mem.mp z).2) k] at h1
      have h2 : decide (g (m : Int) = some r) = false := h2
      rw [h2] at h1
      cases h1
    refine for_it (walk_keys (d := D) (o := od) (kvs := kvs)) (fun (i : Nat) (σ : L2.St) (H' : Hp) => ∃ y4' y5' : Option V, σ = [some v, some (.ref ol), some (.int (sI r)), some (.ref L), y4', y5', some (.ref ML)] ∧ Fx ol Pt H4 H' ∧ H' D = some (.frz od (.dK kvs)) ∧ H' ol = some (.lst (osO n (takes g (fun x => ∃ e ∈ kvs.take i, e.1 = (Sum.inl x : Key)) r)))) ?_ ?_ ?_ ?_
    · refine ⟨_, _, rfl, fD, upd_same, ?_⟩
      rw [upd_ne hDo.symm, s5.lst (s24.lst kg)]
      congr 3
      exact funext fun x => (takes_not (fun ⟨e, he, _⟩ => by rw [List.take_zero] at he; cases he)).symm
    · rintro i σ H' _ ⟨y4', y5', rfl, _, e1, _⟩
      exact e1
    · rintro i x σ H6 H7 hi ⟨y4', y5', rfl, f6, kD6, ko6⟩ ⟨rfl, key, u, hku, rfl⟩
      obtain ⟨z, ez, hz, hgz, _⟩ := inK _ (List.mem_of_getElem? hku)
      have ez : key = Sum.inl z := ez
      subst ez
      have hoP : ol ≠ Pt := hTo (f6.tb (s24.tb hT2)) ko6
      refine ⟨_, rfl, _, rfl, _, rfl, ol, _, _, _, rfl, rfl, ko6, ixN_in (by omega) (by rw [osO_len]; omega), ?_⟩
      refine ⟨_, _, rfl, f6.trans (Fx.put (by rw [ko6]; exact fun h => nomatch h) hoP), by rw [upd_ne hDo]; exact kD6, ?_⟩
      rw [upd_same, show V.int (sI r) = owV (some r) from rfl, osO_set hz.1 hz.2]
      congr 3
      refine funext fun y => ?_
      by_cases hy : y = z
      · rw [hy, setO_same, takes_new hgz ⟨_, (foldK_take hku _).mpr (.inr rfl), rfl⟩]
      · rw [setO_ne hy]
        have : (fun x : Int => ∃ e ∈ kvs.take (i + 1), e.1 = (Sum.inl x : Key)) y ↔ (fun x : Int => ∃ e ∈ kvs.take i, e.1 = (Sum.inl x : Key)) y := by
          constructor
          · rintro ⟨e1, h1, h2⟩
            rcases (foldK_take hku _).mp h1 with h1 | h1
            · exact ⟨e1, h1, h2⟩
            · rw [h1] at h2
              exact absurd (Sum.inl.inj h2).symm hy
          · rintro ⟨e1, h1, h2⟩
            exact ⟨e1, (foldK_take hku _).mpr (.inl h1), h2⟩
        cases hgy : g y with
        | some r' => rw [takes_old hgy, takes_old hgy]
        | none =>
          by_cases hs : (fun x : Int => ∃ e ∈ kvs.take i, e.1 = (Sum.inl x : Key)) y
          · rw [takes_new hgy hs, takes_new hgy (this.mpr hs)]
          · rw [takes_not hs, takes_not fun h => hs (this.mp h)]
    rintro σ H6 ⟨y4', y5', rfl, f6, kD6, ko6⟩
    rw [List.take_length] at ko6
    have hfin : takes g (fun x => ∃ e ∈ kvs, e.1 = (Sum.inl x : Key)) r = takes g (fun x => mr A0 (sI r) (opn n g) (fun x => decide (g x = some r)) k x = true) r := funext fun y => by
      cases hgy : g y with
      | some r' => rw [takes_old hgy, takes_old hgy]
      | none =>
        have : (∃ e ∈ kvs, e.1 = (Sum.inl y : Key)) ↔ mr A0 (sI r) (opn n g) (fun x => decide (g x = some r)) k y = true := by
          constructor
          · rintro ⟨e, he, e1⟩
            obtain ⟨z, ez, _, _, hm⟩ := inK e he
            rw [e1] at ez
            rw [Sum.inl.inj ez]
            exact hm
          · intro hm
            have h0 : mr A0 (sI r) (opn n g) (fun x => decide (g x = some r)) 0 y = false := decide_eq_false (by rw [hgy]; exact fun h => nomatch h)
            obtain ⟨r', _, hv, _⟩ := (hdk y).2 hm h0
            exact ⟨_, valV_mem hv, rfl⟩
        by_cases hs : ∃ e ∈ kvs, e.1 = (Sum.inl y : Key)
        · rw [takes_new (S := fun x => ∃ e ∈ kvs, e.1 = (Sum.inl x : Key)) hgy hs, takes_new hgy (this.mp hs)]
        · rw [takes_not (S := fun x => ∃ e ∈ kvs, e.1 = (Sum.inl x : Key)) hs, takes_not fun h => hs (this.mpr h)]
    rw [hfin] at ko6
    rw [hnn] at hst
    have hcl : ∀ x, takes g (fun x => mr A0 (sI r) (opn n g) (fun x => decide (g x = some r)) k x = true) r x = none → ¬ Frc r (psO A0 x) (fun y => takes g (fun x => mr A0 (sI r) (opn n g) (fun x => decide (g x = some r)) k x = true) r y = some r) := fun x hx => near_closed (n := n) (fun _ => rfl) (fun x => ⟨fun h => (opn_mem.mp h).2, fun h => opn_mem.mpr ⟨hopen x h, h⟩⟩) hopen hst hx
    refine ⟨_, _, _, _, _, _, rfl, (f1.trans (Fx.sm s24)).trans f6, ko6, ⟨fun col b hb => ?_, fun hj x hx => ?_, fun hj x hx => ?_⟩⟩
    · have h1 := hN.half col b hb
      exact h1.trans hb (near_half (fun _ => rfl) (fun x h => (opn_mem.mp h).2) (fun x hx => hb x (h1.open_ hx)) k)
    · cases r with
      | false => exact hcl x hx
      | true =>
        have hj1 : 1 ≤ j := by
          have : j = 1 := of_decide_eq_true hr1.symm
          omega
        refine fun h => hN.c0 hj1 x (takes_none hx).1 (h.imp fun y hy => ?_)
        rcases takes_some hy with z | z
        · exact z
        · cases z.2.2
    · have hj1 : j = 1 := by omega
      have hr2 : r = true := by rw [hr1, decide_eq_true hj1]
      subst hr2
      exact hcl x hx
  · rintro σ H' ⟨g, y2, y3, y4, y5, y6, rfl, f1, kg, hN⟩
    exact q g H' ((Fx.of s1).trans f1) kg ⟨hN.half, fun r => by
      cases r
      · exact hN.c0 (by decide)
      · exact hN.c1 (by decide)⟩
end
end NL

set_option maxHeartbeats 4000000
namespace NL
open PySem PySem.Spec PyProof.Rows L2
/-! ### settle -/
theorem intE {Q : VK} {i j : Int} {H : Hp} (h : i = j) (q : Q (.int j) H) : Q (.int i) H := by rw [h]; exact q
/-- the colour of a position -/
def colF (cs : List Int) (x : Int) : Nat := ((cs[x.toNat]?).getD 0).toNat
theorem colF_at {cs : List Int} (h : ∀ c ∈ cs, 0 ≤ c) {x : Int} (h0 : 0 ≤ x) (h1 : x < cs.length) : atI (cs.map V.int) x = some (V.int (colF cs x : Nat)) := by
  have hg : cs[x.toNat]? = some cs[x.toNat] := List.getElem?_eq_getElem (show x.toNat < cs.length by omega)
  have := atI_nat (j := x.toNat) (v := V.int cs[x.toNat]) (show (cs.map V.int)[x.toNat]? = some (V.int cs[x.toNat]) by rw [List.getElem?_map, hg]; rfl)
  rw [show ((x.toNat : Nat) : Int) = x by omega] at this
  have hc := h _ (List.mem_of_getElem? hg)
  have e : ((colF cs x : Nat) : Int) = cs[x.toNat] := by
    unfold colF
    rw [hg]
    exact Int.toNat_of_nonneg hc
  rw [e]
  exact this
theorem sI_par (t : Nat) : ((t : Int) % 2) = sI (par t) := by
  unfold sI par
  rcases Nat.mod_two_eq_zero_or_one t with h | h
  · rw [h, if_neg (by decide)]
    omega
  · rw [h, if_pos (by decide)]
    omega
theorem inV_non {n : Nat} {g : Int → Option Bool} (h1 : g (-1) ≠ none) : inV .non (osO n g) = !(opn n g).isEmpty := by
  have hV : ∀ o, eqV (owV o) .non = decide (o = none) := fun o => by cases o <;> rfl
  unfold inV osO
  rw [List.any_append]
  have h2 : ([owV (g (-1))] : List V).any (fun y => eqV y .non) = false := by
    show (eqV (owV (g (-1))) .non || false) = false
    rw [hV, decide_eq_false h1]
    rfl
  rw [h2, Bool.or_false, List.any_map]
  cases he : opn n g with
  | nil =>
    refine List.any_eq_false.mpr fun k hk => ?_
    show ¬ eqV (owV (g (k : Int))) .non = true
    rw [hV]
    intro e
    have : ((k : Nat) : Int) ∈ opn n g := opn_mem.mpr ⟨⟨by omega, by have := List.mem_range.mp hk; omega⟩, of_decide_eq_true e⟩
    rw [he] at this
    cases this
  | cons x r =>
    obtain ⟨hx, hg⟩ := opn_mem.mp (show x ∈ opn n g by rw [he]; exact List.mem_cons_self ..)
    refine List.any_eq_true.mpr ⟨x.toNat, List.mem_range.mpr (by omega), ?_⟩
    show eqV (owV (g ((x.toNat : Nat) : Int))) .non = true
    rw [show ((x.toNat : Nat) : Int) = x by omega, hV]
    exact decide_eq_true hg
theorem osO_flatV (n : Nat) (g : Int → Option Bool) : (osO n g).all flatV = true := by
  refine List.all_eq_true.mpr fun v hv => ?_
  rcases osO_flat v hv with rfl | ⟨i, rfl⟩ <;> rfl
/-- what is written over the open positions of a list -/
def wrO (g h : Int → Option Bool) (l : List Int) : Int → Option Bool := fun x => if x ∈ l then h x else g x
theorem wrO_nil (g h : Int → Option Bool) : wrO g h [] = g := rfl
theorem wrO_snoc {g h : Int → Option Bool} {l : List Int} {j : Nat} {x : Int} (hx : l[j]? = some x) : setO (wrO g h (l.take j)) x (h x) = wrO g h (l.take (j + 1)) := funext fun y => by
  unfold setO wrO
  by_cases hy : y = x
  · rw [if_pos hy, if_pos ((foldK_take hx y).mpr (.inr hy)), hy]
  · rw [if_neg hy]
    by_cases hm : y ∈ l.take j
    · rw [if_pos hm, if_pos ((foldK_take hx y).mpr (.inl hm))]
    · rw [if_neg hm, if_neg fun z => ((foldK_take hx y).mp z).elim hm hy]
/-- how many are settled -/
def cntO (n : Nat) (g : Int → Option Bool) : Nat := cnt n fun x => (g x).isSome
theorem cntO_lt {n : Nat} {g g' : Int → Option Bool} (h : ∀ x, g' x = none → g x = none) {x : Int} (hx : x ∈ opn n g) (hx' : g' x ≠ none) : cntO n g < cntO n g' := by
  obtain ⟨h1, h2⟩ := opn_mem.mp hx
  refine cnt_lt (k := x.toNat) (fun y hy => ?_) (by omega) ?_ ?_
  · have hy : (g y).isSome = true := hy
    show (g' y).isSome = true
    cases hg : g' y with
    | some r => rfl
    | none =>
      rw [h y hg] at hy
      cases hy
  · rw [show ((x.toNat : Nat) : Int) = x by omega, h2]
    rfl
  · rw [show ((x.toNat : Nat) : Int) = x by omega]
    cases hg : g' x with
    | some r => rfl
    | none => exact absurd hg hx'
/-- the open positions of a list -/
theorem wrO_lost {n : Nat} {g h : Int → Option Bool} {s : Bool} (hr : ∀ x, g x = none → 0 ≤ x ∧ x < (n : Int)) (tot : ∀ x, h x ≠ none) : wrO g h ((opn n g).filter fun x => decide (h x ≠ some s)) = takes g (fun x => h x = some (!s)) (!s) := funext fun x => by
  have ne : h x ≠ some s ↔ h x = some (!s) := by
    cases e : h x with
    | none => exact absurd e (tot x)
    | some r => cases r <;> cases s <;> decide
  unfold wrO
  cases hg : g x with
  | some r => rw [takes_old hg, if_neg fun z => by rw [(opn_mem.mp (List.mem_filter.mp z).1).2] at hg; cases hg]
  | none =>
    by_cases hh : h x = some (!s)
    · rw [takes_new hg hh, if_pos (List.mem_filter.mpr ⟨opn_mem.mpr ⟨hr x hg, hg⟩, decide_eq_true (ne.mpr hh)⟩), hh]
    · have hnot : x ∉ (opn n g).filter (fun x => decide (h x ≠ some s)) := fun z => hh (ne.mp (by have := (List.mem_filter.mp z).2; exact of_decide_eq_true this))
      rw [takes_not hh, if_neg hnot, hg]
theorem wrO_all {n : Nat} {g h : Int → Option Bool} {s : Bool} (hr : ∀ x, g x = none → 0 ≤ x ∧ x < (n : Int)) (all : ∀ x, g x = none → h x = some s) : wrO g h (opn n g) = takes g (fun _ => True) s := funext fun x => by
  unfold wrO
  cases hg : g x with
  | some r => rw [takes_old hg, if_neg fun z => by rw [(opn_mem.mp z).2] at hg; cases hg]
  | none => rw [takes_new (S := fun _ => True) hg trivial, if_pos (opn_mem.mpr ⟨hr x hg, hg⟩), all x hg]
section
variable {P : Program} {w : World} {K : PySem.W.Frag} {mg : Str → Option Value} {base : Heap}
def spSettle (Pt : Addr) (k : Nat) : Sp := fun vs H Q _ => ∃ (v : V) (A : Ar) (cp ol : Addr) (cs : List Int) (p : Int → Option Bool), vs = [v, .ref cp, .ref ol] ∧ ArIn H A v ∧ A.length ≤ 500 ∧ InA A A.length ∧ H cp = some (.tup (cs.map V.int)) ∧ cs.length = A.length ∧ (∀ c ∈ cs, 0 ≤ c) ∧ H ol = some (.lst (osO A.length p)) ∧ GxR.TabG H Pt ∧
  (∀ x, p x = none → (0 ≤ x ∧ x < (A.length : Int)) ∧ colF cs x < k) ∧ ∀ q sl H', Sm Pt H H' → H sl = none → H' sl = some (.lst (osO A.length q)) → (∀ x, q x ≠ none) → (∀ b, (∀ x, p x = none → colF cs x < b) → Half (psO A) (colF cs) b p q) → Q (.ref sl) H'
theorem ok_settle (T : Txt K mg) {c Pt : Addr} (TB : GxR.TabB base mg c Pt) (hc : T.dforces.code = .ref c) : ∀ k : Nat, FnOk P w K mg base CX0 (k + 5) T.asettle T.dsettle Psettle (spSettle Pt k) := by
  intro k
  have G_take_near := ok_take_near (P := P) (w := w) T TB hc
  obtain ⟨sp, Gsettle, hsp⟩ : ∃ sp : Sp, FnOk P w K mg base CX0 (k + 4) T.asettle T.dsettle Psettle sp ∧ ∀ k', k = k' + 1 → sp = spSettle Pt k' := by
    match k with
    | 0 => exact ⟨fun _ _ _ _ => False, ⟨fun vs H Q E h => h.elim, fun A outer s H args us vs Q E _ _ _ _ h => h.elim⟩, fun k' e => by cases e⟩
    | k' + 1 => exact ⟨_, ok_settle T TB hc k', fun k2 e => by rw [Nat.succ.inj e]⟩
  refine T.Fsettle.ok scsettle (fun vs H Q E h => ?_) (fun cdv A outer s H vs Q E hr h => ?_)
  · obtain ⟨v, A, cp, ol, cs, p, rfl, _⟩ := h
    rfl
  obtain ⟨v, A0, cp, ol, cs, p, rfl, hA, hn, hin, hcp, hcl, hc0, ho, hT, hp, q⟩ := h
  generalize hnn : A0.length = n at *
  refine ⟨_, (pss_cons (ps_set (i := 3) scsettle.nd rfl (Or.inl rfl) (pe_callTy call_list_of (by rfl) T.z_list (by decide +kernel) (pa_cons (pv 2) pa_nil)))
    (pss_cons (ps_expr (pe_call G_take_near (hr.mono (by omega)) (by rfl) T.m_take_near T.F_take_near.kp T.b_take_near .nil pass0 (pa_cons (pv 0) (pa_cons (pv 3) pa_nil))))
    (pss_cons (ps_while PassesOwn.never (pt_cmpR op_in_seq pe_non (pv 3) (by rfl))
    (pss_cons (ps_setLc (i := 4) (own := [("at", 5), ("owner", 6)]) (g := (gTup K 2 (gCons (gName 5) (gCons (gName 6) gNil)))) (tt := _) rfl scsettle.nd rfl rfl (sw_true rfl rfl rfl (by decide +kernel)) (pi_enum (by rfl) T.z_enumerate (pa_cons (pv 3) pa_nil)) (blkOk_by (N := Nsettle) (sc := defScope ssettle) (by decide +kernel)) (fun _ _ _ _ _ => (pg_tup rfl (pgs_cons (pg_name (i := 5) scsettle.nd rfl (Or.inl rfl)) (pgs_cons (pg_name (i := 6) scsettle.nd rfl (Or.inl rfl)) pgs_nil)))) (fun _ _ _ _ _ => (pts_one (pt_cmpR op_isN (pv 6) pe_non (nomark _)))) (fun _ _ _ _ _ => (pv 5)))
    (pss_cons (ps_set (i := 7) scsettle.nd rfl (Or.inl rfl) (pe_callB (cr_max rfl) (by rfl) T.z_max (by decide +kernel) (pa_cons (pe_lc (own := [("at", 5)]) (g := (gName 5)) (tt := tYes) rfl scsettle.nd (pi_list (pv 4)) (blkOk_by (N := Nsettle) (sc := defScope ssettle) (by decide +kernel)) (fun _ _ _ _ _ => (pg_name (i := 5) scsettle.nd rfl (Or.inl rfl))) (fun _ _ _ _ _ => pts_nil) (fun _ _ _ _ _ => (pe_ix (ix_tupK (K := K) rfl) (pv 1) (pv 5) (fun _ _ => rfl)))) pa_nil)))
    (pss_cons (ps_set (i := 8) scsettle.nd rfl (Or.inr rfl) (pe_op op_mod (pv 7) pe_int))
    (pss_cons (ps_set (i := 9) scsettle.nd rfl (Or.inr rfl) (pe_callTy call_list_of (by rfl) T.z_list (by decide +kernel) (pa_cons (pv 3) pa_nil)))
    (pss_cons (ps_for  PassesOwn.never rfl (pi_list (pv 4)) (pg_name (i := 5) scsettle.nd rfl (Or.inl rfl))
    (pss_one (ps_if (pt_cmpR op_eq (pe_ix ix_tup (pv 1) (pv 5) (fun _ _ => rfl)) (pv 7) (nomark _))
    (pss_one (ps_asg (pv 8) (pg_sub (pv 9) (pv 5) set_list)))
    pss_nil)))
    (pss_cons (ps_set (i := 9) scsettle.nd rfl (Or.inr rfl) (pe_call Gsettle (hr.mono (by omega)) (by rfl) T.msettle T.Fsettle.kp T.bsettle .nil pass0 (pa_cons (pv 0) (pa_cons (pv 1) (pa_cons (pv 9) pa_nil)))))
    (pss_cons (ps_setLc (i := 10) (own := [("at", 5)]) (g := (gName 5)) (tt := _) rfl scsettle.nd rfl rfl (sw_true rfl rfl rfl (by decide +kernel)) (pi_list (pv 4)) (blkOk_by (N := Nsettle) (sc := defScope ssettle) (by decide +kernel)) (fun _ _ _ _ _ => (pg_name (i := 5) scsettle.nd rfl (Or.inl rfl))) (fun _ _ _ _ _ => (pts_one (pt_cmpR op_ne (pe_ix (ix_listK (K := K) rfl) (pv 9) (pv 5) (fun _ _ => rfl)) (pv 8) (nomark _)))) (fun _ _ _ _ _ => (pv 5)))
    (pss_cons (ps_for  PassesOwn.never rfl (pi_list (pe_orT (pv 10) (pe_one (pv 4)))) (pg_name (i := 5) scsettle.nd rfl (Or.inl rfl))
    (pss_one (ps_asg (pe_ix ix_list (pv 9) (pv 5) (fun _ _ => rfl)) (pg_sub (pv 3) (pv 5) set_list))))
    (pss_one (ps_expr (pe_call G_take_near (hr.mono (by omega)) (by rfl) T.m_take_near T.F_take_near.kp T.b_take_near .nil pass0 (pa_cons (pv 0) (pa_cons (pv 3) pa_nil))))))))))))))
    (pss_one (ps_ret (pv 3)))))), ?_⟩
  refine ⟨_, rfl, ol, _, rfl, .inl (sqd ho), fun sl hsl => ?_⟩
  obtain ⟨H1, e1, s1, k1⟩ := newH hsl (.lst (osO n p))
  rw [e1]
  have hslP : sl ≠ Pt := TabG.ne0 hT hsl
  have hA1 := hA.tp (Tp.same s1)
  refine ⟨_, rfl, _, rfl, v, A0, sl, p, rfl, hA1, by omega, by rw [hnn]; exact hin, by rw [hnn]; exact k1, TabG.same hT s1, fun x hx => by rw [hnn]; exact (hp x hx).1, fun g0 H2 f2 k2 hN0 => ?_⟩
  rw [hnn] at k2
  have s2 : Sm Pt H H2 := f2.close hsl (.of s1)
  -- round by round
  refine ⟨fun m σ H' => ∃ (g : Int → Option Bool) (y4 y5 y6 y7 y8 y9 y10 : Option V), σ = [some v, some (.ref cp), some (.ref ol), some (.ref sl), y4, y5, y6, y7, y8, y9, y10] ∧ Sm Pt H H' ∧ H' sl = some (.lst (osO n g)) ∧ (∀ b, (∀ x, p x = none → colF cs x < b) → Half (psO A0) (colF cs) b p g) ∧ (∀ (r : Bool) x, g x = none → ¬ Frc r (psO A0 x) (fun y => g y = some r)) ∧ m = n - cntO n g, ⟨_, g0, _, _, _, _, _, _, _, rfl, s2, k2, fun b hb => hN0.half _ b hb, hN0.closed, rfl⟩, ?_⟩
  rintro m σ H3 ⟨g, y4, y5, y6, y7, y8, y9, y10, rfl, s3, k3, hH, hcl3, hmm⟩
  have hgp : ∀ x, g x = none → p x = none := fun x hx => (hH k fun x hx => (hp x hx).2).open_ hx
  have hgr : ∀ x, g x = none → 0 ≤ x ∧ x < (n : Int) := fun x hx => (hp x (hgp x hx)).1
  have hg1 : g (-1) ≠ none := fun e => by
    have := hgr _ e
    omega
  refine ⟨_, rfl, sl, _, rfl, .inl (sqd k3), rfl, osO_flatV n g, _, rfl, ?_⟩
  rw [if_neg Bool.false_ne_true, inV_non hg1]
  cases hop : opn n g with
  | nil =>
    refine ifF rfl ?_
    refine ⟨_, rfl, q g sl H3 s3 hsl k3 (fun x hx => ?_) hH⟩
    have : x ∈ opn n g := opn_mem.mpr ⟨hgr x hx, hx⟩
    rw [hop] at this
    cases this
  | cons x0 rest =>
  refine ifT rfl ?_
  have hne : opn n g ≠ [] := by rw [hop]; exact fun h => nomatch h
  clear hop x0 rest
  refine ⟨fun σ H' => ∃ (g' : Int → Option Bool) (y4 y5 y6 y7 y8 y9 y10 : Option V), σ = [some v, some (.ref cp), some (.ref ol), some (.ref sl), y4, y5, y6, y7, y8, y9, y10] ∧ Sm Pt H H' ∧ H' sl = some (.lst (osO n g')) ∧ (∀ b, (∀ x, p x = none → colF cs x < b) → Half (psO A0) (colF cs) b p g') ∧ (∀ (r : Bool) x, g' x = none → ¬ Frc r (psO A0 x) (fun y => g' y = some r)) ∧ cntO n g < cntO n g', ?_, ?_⟩
  · rintro σ' H' ⟨g', y4, y5, y6, y7, y8, y9, y10, rfl, s4, k4, hH4, hc4, hlt⟩
    refine ⟨_, ?_, g', y4, y5, y6, y7, y8, y9, y10, rfl, s4, k4, hH4, hc4, rfl⟩
    have := cnt_le n (fun x => (g' x).isSome)
    have hlt : cntO n g < cntO n g' := hlt
    have : cntO n g' ≤ n := this
    omega
  refine ⟨_, rfl, sl, _, rfl, sqd k3, fun L hL => ?_⟩
  have hT3 := s3.tb hT
  have hLP : L ≠ Pt := TabG.ne0 hT3 hL
  refine lc_it (walk_enum (K := K) (a := sl) (xs := osO n g)) (fun (i : Nat) (H' : Hp) => Sm Pt H3 H' ∧ H' L = some (.lst ((opn (min i n) g).map V.int))) ?_ ?_ ?_ ?_
  · exact ⟨.of (same_new hL _), by rw [Nat.min_eq_left (Nat.zero_le _)]; exact upd_same⟩
  · rintro i H' _ ⟨s4, _⟩
    exact sqd (s4.lst k3)
  · rintro i x H4 H5 hi ⟨s4, k4⟩ ⟨t, x1, y1, rfl, ht, rfl, hx1, hy1⟩
    cases hx1
    rw [osO_len] at hi
    obtain ⟨H6, e6, s6, k6⟩ := newH ht (.tup [.int (i : Nat), y1])
    rw [e6]
    have hol := opn_len (min i n) g
    refine ⟨t, _, rfl, sqt k6, rfl, _, _, rfl, _, _, rfl, rfl, rfl, ?_⟩
    refine ⟨_, rfl, rfl, _, rfl, ?_⟩
    rcases Nat.lt_or_ge i n with hin2 | hin2
    · have hy2 : y1 = owV (g (i : Int)) := by
        have := osO_nat (p := g) hin2
        rw [show (osO n g)[i]? = some y1 from hy1] at this
        exact Option.some.inj this
      rw [Nat.min_eq_left (by omega)] at k4 hol
      rw [Nat.min_eq_left (by omega), opn_s]
      by_cases hg : g (i : Int) = none
      · rw [decide_eq_true (by rw [hy2]; exact owV_none.mpr hg), if_pos hg]
        refine iteT ⟨_, rfl, _, s6 _ _ k4, big' (by rw [List.length_map]; omega), (s4.trans (.of s6)).put hL hLP, ?_⟩
        rw [upd_same, List.map_append]
        rfl
      · rw [decide_eq_false (by rw [hy2]; exact fun z => hg (owV_none.mp z)), if_neg hg, List.append_nil]
        exact iteF ⟨s4.trans (.of s6), s6 _ _ k4⟩
    · have hie : i = n := by omega
      subst hie
      have hy2 : y1 = owV (g (-1)) := by
        have := osO_last (n := i) (p := g)
        rw [show (osO i g)[i]? = some y1 from hy1] at this
        exact Option.some.inj this
      rw [decide_eq_false (by rw [hy2]; exact fun z => hg1 (owV_none.mp z))]
      rw [Nat.min_self] at k4
      rw [Nat.min_eq_right (Nat.le_succ i)]
      exact iteF ⟨s4.trans (.of s6), s6 _ _ k4⟩
  rintro H4 ⟨s4, k4⟩
  rw [osO_len, Nat.min_eq_right (Nat.le_succ n)] at k4
  have hol := opn_len n g
  have hcp4 := (s3.trans s4).tup hcp
  have hT4 := s4.tb hT3
  have inO : ∀ {j : Nat} {x : V}, ((opn n g).map V.int)[j]? = some x → ∃ z, (opn n g)[j]? = some z ∧ x = V.int z ∧ (0 ≤ z ∧ z < (n : Int)) ∧ g z = none := fun {j x} h => by
    rw [List.getElem?_map] at h
    obtain ⟨z, hz, rfl⟩ := Option.map_eq_some_iff.mp h
    have := opn_mem.mp (List.mem_of_getElem? hz)
    exact ⟨z, hz, rfl, this.1, this.2⟩
  -- the greatest colour
  refine ⟨_, rfl, L, rfl, ⟨_, sqd k4⟩, fun CL hCL => ?_⟩
  have hCP : CL ≠ Pt := TabG.ne0 hT4 hCL
  refine lc_list (K := K) (a := L) (xs := (opn n g).map V.int) (fun (i : Nat) (H' : Hp) => Sm Pt H4 H' ∧ H' CL = some (.lst ((((opn n g).take i).map fun x => ((colF cs x : Nat) : Int)).map V.int))) ?_ ?_ ?_ ?_
  · exact ⟨.of (same_new hCL _), upd_same⟩
  · rintro i H' _ ⟨s5, _⟩
    exact sqd (s5.lst k4)
  · rintro i x H5 hi ⟨s5, k5⟩
    obtain ⟨z, hz, rfl, hz1, hz2⟩ := inO hi
    refine ⟨rfl, yes_if ?_⟩
    refine ⟨_, rfl, _, rfl, cp, _, _, _, rfl, rfl, sqt (s5.tup hcp4), colF_at hc0 hz1.1 (by omega), _, k5, big' (by rw [List.length_map, List.length_map, List.length_take]; omega), s5.put hCL hCP, ?_⟩
    rw [upd_same, List.take_add_one, hz, List.map_append, List.map_append]
    rfl
  rintro H5 ⟨s5, k5⟩
  rw [List.length_map, List.take_length] at k5
  refine ⟨CL, _, rfl, sqd k5, ?_, fun m1 hm1 hmx => ?_⟩
  · rw [List.length_map]
    exact List.length_pos_iff.mpr hne
  obtain ⟨z0, hz0, rfl⟩ := List.mem_map.mp hm1
  have htop : ∀ x, g x = none → colF cs x < colF cs z0 + 1 := fun x hx => by
    have := hmx _ (List.mem_map.mpr ⟨x, opn_mem.mpr ⟨hgr x hx, hx⟩, rfl⟩)
    omega
  have hz0n : g z0 = none := (opn_mem.mp hz0).2
  have htk : colF cs z0 < k := (hp z0 (hgp z0 hz0n)).2
  generalize hte : colF cs z0 = t at *
  refine ⟨_, rfl, _, _, rfl, rfl, (by show (0 : Int) < 2; decide), ?_⟩
  refine ⟨_, rfl, sl, _, rfl, .inl (sqd ((s4.trans s5).lst k3)), fun gl hgl => ?_⟩
  have hT5 := s5.tb hT4
  have hgP : gl ≠ Pt := TabG.ne0 hT5 hgl
  obtain ⟨H6, e6, s6, k6⟩ := newH hgl (.lst (osO n g))
  rw [e6]
  have s36 : Sm Pt H3 H6 := (s4.trans s5).trans (.of s6)
  have hgl3 : H3 gl = none := (s4.trans s5).dom _ hgl
  have kL6 : H6 L = some (.lst ((opn n g).map V.int)) := (s5.trans (.of s6)).lst k4
  have hgL : gl ≠ L := (ne_of_none (s5.lst k4) hgl).symm
  have hcp6 := s36.tup (s3.tup hcp)
  refine ⟨_, rfl, L, rfl, ⟨_, sqd kL6⟩, ?_⟩
  refine for_list (K := K) (a := L) (xs := (opn n g).map V.int) (fun (i : Nat) (σ : L2.St) (H' : Hp) => ∃ y5 y6 y10 : Option V, σ = [some v, some (.ref cp), some (.ref ol), some (.ref sl), some (.ref L), y5, y6, some (.int (t : Nat)), some (.int (sI (par t))), some (.ref gl), y10] ∧ Fx gl Pt H6 H' ∧ H' gl = some (.lst (osO n (takes g (fun x => x ∈ (opn n g).take i ∧ colF cs x = t) (par t))))) ?_ ?_ ?_ ?_
  · refine ⟨_, _, _, (by rw [← sI_par t]; rfl), Fx.refl, ?_⟩
    rw [k6]
    congr 3
    exact funext fun x => (takes_not fun h => by have := h.1; rw [List.take_zero] at this; cases this).symm
  · rintro i σ H' _ ⟨y5, y6, y10, rfl, f7, _⟩
    exact sqd (f7.fr L _ trivial hgL.symm kL6)
  · rintro i x σ H7 hi ⟨y5, y6, y10, rfl, f7, k7⟩
    obtain ⟨z, hz, rfl, hz1, hz2⟩ := inO hi
    refine ⟨_, rfl, _, rfl, cp, _, _, _, rfl, rfl, sqt (f7.tup k6 hcp6), colF_at hc0 hz1.1 (by omega), _, rfl, rfl, _, rfl, ?_⟩
    have hnx : ∀ x, (x ∈ (opn n g).take (i + 1) ∧ colF cs x = t) ↔ (x ∈ (opn n g).take i ∧ colF cs x = t) ∨ (x = z ∧ colF cs z = t) := fun x => by
      rw [foldK_take hz]
      constructor
      · rintro ⟨h | h, h2⟩
        · exact .inl ⟨h, h2⟩
        · subst h
          exact .inr ⟨rfl, h2⟩
      · rintro (⟨h, h2⟩ | ⟨rfl, h2⟩)
        · exact ⟨.inl h, h2⟩
        · exact ⟨.inr rfl, h2⟩
    by_cases hzt : colF cs z = t
    · refine ifT (decide_eq_true (by rw [hzt])) ?_
      refine ⟨_, rfl, _, rfl, _, rfl, gl, _, _, _, rfl, rfl, k7, ixN_in (by omega) (by rw [osO_len]; omega), ?_⟩
      refine ⟨_, _, _, rfl, f7.trans (Fx.put (by rw [k7]; exact fun h => nomatch h) hgP), ?_⟩
      rw [upd_same, show V.int (sI (par t)) = owV (some (par t)) from rfl, osO_set hz1.1 hz1.2]
      congr 3
      refine funext fun y => ?_
      by_cases hy : y = z
      · rw [hy, setO_same, takes_new hz2 ((hnx z).mpr (.inr ⟨rfl, hzt⟩))]
      · rw [setO_ne hy]
        cases hgy : g y with
        | some r' => rw [takes_old hgy, takes_old hgy]
        | none =>
          by_cases hs : y ∈ (opn n g).take i ∧ colF cs y = t
          · rw [takes_new (S := fun x => x ∈ (opn n g).take i ∧ colF cs x = t) hgy hs, takes_new (S := fun x => x ∈ (opn n g).take (i + 1) ∧ colF cs x = t) hgy ((hnx y).mpr (.inl hs))]
          · rw [takes_not (S := fun x => x ∈ (opn n g).take i ∧ colF cs x = t) hs, takes_not (S := fun x => x ∈ (opn n g).take (i + 1) ∧ colF cs x = t) fun h => ((hnx y).mp h).elim hs fun h => hy h.1]
    · refine ifF (decide_eq_false fun e => hzt (by have := V.int.inj e; omega)) ?_
      refine ⟨_, _, _, rfl, f7, ?_⟩
      rw [k7]
      congr 3
      refine funext fun y => ?_
      cases hgy : g y with
      | some r' => rw [takes_old hgy, takes_old hgy]
      | none =>
        by_cases hs : y ∈ (opn n g).take i ∧ colF cs y = t
        · rw [takes_new (S := fun x => x ∈ (opn n g).take i ∧ colF cs x = t) hgy hs, takes_new (S := fun x => x ∈ (opn n g).take (i + 1) ∧ colF cs x = t) hgy ((hnx y).mpr (.inl hs))]
        · rw [takes_not (S := fun x => x ∈ (opn n g).take i ∧ colF cs x = t) hs, takes_not (S := fun x => x ∈ (opn n g).take (i + 1) ∧ colF cs x = t) fun h => ((hnx y).mp h).elim hs fun h => hzt h.2]
  rintro σ H7 ⟨y5', y6', y10', rfl, f7, k7⟩
  have hfin : takes g (fun x => x ∈ (opn n g).take ((opn n g).map V.int).length ∧ colF cs x = t) (par t) = takes g (fun x => colF cs x = t) (par t) := funext fun y => by
    cases hgy : g y with
    | some r' => rw [takes_old hgy, takes_old hgy]
    | none =>
      by_cases hs : colF cs y = t
      · rw [takes_new (S := fun x => colF cs x = t) hgy hs, takes_new (S := fun x => x ∈ (opn n g).take ((opn n g).map V.int).length ∧ colF cs x = t) hgy ⟨by rw [List.length_map, List.take_length]; exact opn_mem.mpr ⟨hgr y hgy, hgy⟩, hs⟩]
      · rw [takes_not (S := fun x => colF cs x = t) hs, takes_not (S := fun x => x ∈ (opn n g).take ((opn n g).map V.int).length ∧ colF cs x = t) fun h => hs h.2]
  rw [hfin] at k7
  have s37 : Sm Pt H3 H7 := f7.close hgl3 s36 |> fun z => z
  obtain ⟨k', hk'⟩ : ∃ k', k = k' + 1 := ⟨k - 1, by omega⟩
  have hspk := hsp k' hk'
  subst hspk
  have hA7 : ArIn H7 A0 v := hA.tp (s3.trans s37).tp
  refine ⟨_, rfl, _, rfl, _, rfl, v, A0, cp, gl, cs, takes g (fun x => colF cs x = t) (par t), rfl, hA7, by omega, by rw [hnn]; exact hin, (s3.trans s37).tup hcp, by omega, hc0, by rw [hnn]; exact k7, s37.tb hT3, fun x hx => ?_, fun h hl H8 s8 hhl k8 tot hh => ?_⟩
  · obtain ⟨z1, z2⟩ := takes_none hx
    have := htop x z1
    have z2 : ¬ colF cs x = t := z2
    exact ⟨by rw [hnn]; exact hgr x z1, by omega⟩
  have hht := hh t fun x hx => by
    obtain ⟨z1, z2⟩ := takes_none hx
    have := htop x z1
    have z2 : ¬ colF cs x = t := z2
    omega
  rw [hnn] at k8
  have s38 : Sm Pt H3 H8 := s37.trans s8
  have kL8 : H8 L = some (.lst ((opn n g).map V.int)) := s8.lst (f7.fr L _ trivial hgL.symm kL6)
  have hT8 := s38.tb hT3
  -- what is lost
  refine ⟨_, rfl, L, rfl, ⟨_, sqd kL8⟩, fun LL hLL => ?_⟩
  have hLLP : LL ≠ Pt := TabG.ne0 hT8 hLL
  refine lc_list (K := K) (a := L) (xs := (opn n g).map V.int) (fun (i : Nat) (H' : Hp) => Sm Pt H8 H' ∧ H' LL = some (.lst ((((opn n g).take i).filter fun x => decide (h x ≠ some (par t))).map V.int))) ?_ ?_ ?_ ?_
  · exact ⟨.of (same_new hLL _), upd_same⟩
  · rintro i H' _ ⟨s9, _⟩
    exact sqd (s9.lst kL8)
  · rintro i x H9 hi ⟨s9, k9⟩
    obtain ⟨z, hz, rfl, hz1, hz2⟩ := inO hi
    have hsc : scal (owV (h z)) (V.int (sI (par t))) = true := by
      cases h z <;> rfl
    refine ⟨rfl, ?_⟩
    refine ⟨_, rfl, _, rfl, hl, _, _, _, rfl, rfl, sqd (s9.lst k8), osO_at (by omega) hz1.2, _, rfl, hsc, _, rfl, ?_⟩
    have hlen : (((opn n g).take i).filter fun x => decide (h x ≠ some (par t))).length ≤ 500 := by
      have h1 := List.length_filter_le (fun x => decide (h x ≠ some (par t))) ((opn n g).take i)
      rw [List.length_take] at h1
      omega
    rw [List.take_add_one, hz, List.filter_append]
    by_cases hzs : h z = some (par t)
    · have e1 : (!decide (owV (h z) = V.int (sI (par t)))) = false := by rw [decide_eq_true (owV_some.mpr hzs)]; rfl
      refine ifF e1 ⟨s9, ?_⟩
      rw [Option.toList_some, List.filter_cons, if_neg (by rw [decide_eq_false (fun z => z hzs)]; exact Bool.false_ne_true), List.filter_nil, List.append_nil]
      exact k9
    · have e1 : (!decide (owV (h z) = V.int (sI (par t)))) = true := by rw [decide_eq_false fun z => hzs (owV_some.mp z)]; rfl
      refine ifT e1 ⟨_, rfl, _, k9, big' (by rw [List.length_map]; omega), s9.put hLL hLLP, ?_⟩
      rw [upd_same, Option.toList_some, List.filter_cons, if_pos (decide_eq_true hzs), List.filter_nil, List.map_append]
      rfl
  rintro H9 ⟨s9, k9⟩
  rw [List.length_map, List.take_length] at k9
  have s39 := s38.trans s9
  have kL9 := s9.lst kL8
  have k89 := s9.lst k8
  have k39 := s39.lst k3
  have hb1 : ∀ b, (∀ x, p x = none → colF cs x < b) → t + 1 ≤ b := fun b hb => by
    have := hb z0 (hgp z0 hz0n)
    omega
  -- which positions are settled now
  obtain ⟨a, l, hasl, ka, hlO, hlne, hH2, hread⟩ : ∃ (a : Addr) (l : List Int), a ≠ sl ∧ H9 a = some (.lst (l.map V.int)) ∧ (∀ x ∈ l, x ∈ opn n g) ∧ l ≠ [] ∧ Half (psO A0) (colF cs) (t + 1) g (wrO g h l) ∧ ∀ Q : VK, Q (.ref a) H9 → tOrT K (tVar 10) (tVar 4) ((([some v, some (.ref cp), some (.ref ol), some (.ref sl), some (.ref L), y5', y6', some (.int (t : Nat)), some (.int (sI (par t))), some (.ref gl), y10'].set 9 (some (.ref hl)))).set 10 (some (.ref LL))) H9 Q := by
    by_cases hlost : (opn n g).filter (fun x => decide (h x ≠ some (par t))) = []
    · have all : ∀ x, g x = none → h x = some (par t) := fun x hx => by
        refine Classical.byContradiction fun hn => ?_
        have : x ∈ (opn n g).filter (fun x => decide (h x ≠ some (par t))) := List.mem_filter.mpr ⟨opn_mem.mpr ⟨hgr x hx, hx⟩, decide_eq_true hn⟩
        rw [hlost] at this
        cases this
      refine ⟨L, opn n g, (ne_of_none k3 hL).symm, kL9, fun x hx => hx, hne, ?_, fun Q hQ => ?_⟩
      · rw [wrO_all hgr all]
        exact half_all htop (hcl3 _) hht all
      · rw [hlost] at k9
        exact ⟨_, rfl, false, .inl ⟨_, sqd k9, rfl⟩, iteF ⟨_, rfl, hQ⟩⟩
    · refine ⟨LL, _, (ne_of_none (s38.lst k3) hLL).symm, k9, fun x hx => (List.mem_filter.mp hx).1, hlost, ?_, fun Q hQ => ?_⟩
      · rw [wrO_lost hgr tot]
        exact half_lost hht
      · refine ⟨_, rfl, true, .inl ⟨_, sqd k9, ?_⟩, iteT hQ⟩
        cases hq : (opn n g).filter (fun x => decide (h x ≠ some (par t))) with
        | nil => exact absurd hq hlost
        | cons _ _ => rfl
  refine hread _ ⟨a, rfl, ⟨_, sqd ka⟩, ?_⟩
  have hT9 := s39.tb hT3
  have hnesl : hl ≠ sl := (ne_of_none (s37.lst k3) hhl).symm
  refine for_list (K := K) (a := a) (xs := l.map V.int) (fun (i : Nat) (σ : L2.St) (H' : Hp) => ∃ y5 y6 : Option V, σ = [some v, some (.ref cp), some (.ref ol), some (.ref sl), some (.ref L), y5, y6, some (.int (t : Nat)), some (.int (sI (par t))), some (.ref hl), some (.ref LL)] ∧ Fx sl Pt H9 H' ∧ H' sl = some (.lst (osO n (wrO g h (l.take i))))) ?_ ?_ ?_ ?_
  · exact ⟨_, _, rfl, Fx.refl, k39⟩
  · rintro i σ H' _ ⟨y5, y6, rfl, f10, _⟩
    exact sqd (f10.fr a _ trivial hasl ka)
  · rintro i x σ H10 hi ⟨y5, y6, rfl, f10, k10⟩
    rw [List.getElem?_map] at hi
    obtain ⟨z, hz, rfl⟩ := Option.map_eq_some_iff.mp hi
    obtain ⟨hz1, hz2⟩ := opn_mem.mp (hlO z (List.mem_of_getElem? hz))
    have hslP2 : sl ≠ Pt := hslP
    refine ⟨_, rfl, _, rfl, hl, _, _, _, rfl, rfl, sqd (f10.fr hl _ trivial hnesl k89), osO_at (by omega) hz1.2, _, rfl, _, rfl, sl, _, _, _, rfl, rfl, k10, ixN_in (by omega) (by rw [osO_len]; omega), ?_⟩
    refine ⟨_, _, rfl, f10.trans (Fx.put (by rw [k10]; exact fun h => nomatch h) hslP), ?_⟩
    rw [upd_same, osO_set hz1.1 hz1.2, wrO_snoc hz]
  rintro σ H10 ⟨y5, y6, rfl, f10, k10⟩
  rw [List.length_map, List.take_length] at k10
  have s310 : Sm Pt H H10 := f10.close hsl (s3.trans s39)
  have hA10 : ArIn H10 A0 v := hA.tp s310.tp
  have hw : ∀ x, wrO g h l x = none → g x = none := fun x hx => hH2.open_ hx
  refine ⟨_, rfl, _, rfl, v, A0, sl, wrO g h l, rfl, hA10, by omega, by rw [hnn]; exact hin, by rw [hnn]; exact k10, s310.tb hT, fun x hx => by rw [hnn]; exact hgr x (hw x hx), fun g2 H11 f11 k11 hN2 => ?_⟩
  rw [hnn] at k11
  refine ⟨g2, _, _, _, _, _, _, _, rfl, f11.close hsl s310, k11, fun b hb => ?_, hN2.closed, ?_⟩
  · have h1 := (hH b hb).trans hb (hH2.mono (hb1 b hb))
    exact h1.trans hb (hN2.half _ b fun x hx => hb x (h1.open_ hx))
  · have hop2 : ∀ x, g2 x = none → wrO g h l x = none := fun x hx => (hN2.half (colF cs) (t + 1) fun x hx => htop x (hw x hx)).open_ hx
    obtain ⟨x1, r1, hlr⟩ : ∃ x1 r1, l = x1 :: r1 := by
      cases l with
      | nil => exact absurd rfl hlne
      | cons x1 r1 => exact ⟨x1, r1, rfl⟩
    have hx1 : x1 ∈ l := by rw [hlr]; exact List.mem_cons_self ..
    refine cntO_lt (fun x hx => hw x (hop2 x hx)) (hlO x1 hx1) fun e => ?_
    have := hop2 x1 e
    unfold wrO at this
    rw [if_pos hx1] at this
    exact tot x1 this
end
end NL

set_option maxHeartbeats 4000000
namespace NL
open PySem PySem.Spec PyProof.Rows L2
/-! ### colour_owners -/
theorem osO_o0 (n : Nat) : osO n (o0 n) = List.replicate n V.non ++ [V.int 1] := by
  unfold osO
  have h1 : (List.range n).map (fun i : Nat => owV (o0 n (i : Int))) = List.replicate n V.non := by
    rw [List.eq_replicate_iff]
    refine ⟨by rw [List.length_map, List.length_range], fun v hv => ?_⟩
    obtain ⟨k, hk, rfl⟩ := List.mem_map.mp hv
    have := List.mem_range.mp hk
    rw [o0_none.mpr ⟨by omega, by omega⟩]
    rfl
  have h2 : o0 n (-1) = some true := (o0_own (Int.le_refl _) (by omega)).mpr ⟨rfl, rfl⟩
  rw [h1, h2]
  rfl
section
variable {P : Program} {w : World} {K : PySem.W.Frag} {mg : Str → Option Value} {base : Heap}
def spColO (Pt : Addr) : Sp := fun vs H Q _ => ∃ (v : V) (A : Ar) (cp : Addr) (cs : List Int), vs = [v, .ref cp] ∧ ArIn H A v ∧ A.length ≤ 500 ∧ InA A A.length ∧ H cp = some (.tup (cs.map V.int)) ∧ cs.length = A.length ∧ (∀ c ∈ cs, 0 ≤ c ∧ c < 45) ∧ GxR.TabG H Pt ∧
  ∀ q sl H', Sm Pt H H' → H sl = none → H' sl = some (.lst (osO A.length q)) → (∀ x, q x ≠ none) → (∀ b, (∀ x, 0 ≤ x → x < (A.length : Int) → colF cs x < b) → ∀ x, 0 ≤ x → x < (A.length : Int) → ∀ r, q x = some r ↔ Own (psO A) (colF cs) b A.length r x) → Q (.ref sl) H'
theorem colF_lt {cs : List Int} (h : ∀ c ∈ cs, 0 ≤ c ∧ c < 45) (x : Int) : colF cs x < 45 := by
  unfold colF
  cases hg : cs[x.toNat]? with
  | none => show (0 : Int).toNat < 45; decide
  | some c =>
    have := h c (List.mem_of_getElem? hg)
    show c.toNat < 45
    omega
theorem ok_colour_owners (T : Txt K mg) {c Pt : Addr} (TB : GxR.TabB base mg c Pt) (hc : T.dforces.code = .ref c) : FnOk P w K mg base CX0 51 T.acolour_owners T.dcolour_owners Pcolour_owners (spColO Pt) := by
  have Gsettle := ok_settle (P := P) (w := w) T TB hc 45
  refine T.Fcolour_owners.ok sccolour_owners (fun vs H Q E h => ?_) (fun cdv A outer s H vs Q E hr h => ?_)
  · obtain ⟨v, A, cp, cs, rfl, _⟩ := h
    rfl
  obtain ⟨v, A0, cp, cs, rfl, hA, hn, hin, hcp, hcl, hc0, hT, q⟩ := h
  obtain ⟨b0, xs, rfl, hb0, hxs⟩ := id hA
  have hxl := hxs.1
  refine ⟨_, (pss_one (ps_ret (pe_call Gsettle (hr.mono (by omega)) (by rfl) T.msettle T.Fsettle.kp T.bsettle .nil pass0 (pa_cons (pv 0) (pa_cons (pv 1) (pa_cons (pe_op op_cat (pe_op op_rep (pe_lst (pa_cons pe_non pa_nil)) (pe_callB call_len_seq (by rfl) T.z_len PySem.boot_len (pa_cons (pv 0) pa_nil))) (pe_lst (pa_cons (pe_glob rfl T.g_DISTURBANCE T.r_DISTURBANCE) pa_nil))) pa_nil)))))), ?_⟩
  refine ⟨_, rfl, _, rfl, Nat.le_of_ble_eq_true rfl, fun l1 hl1 => ?_⟩
  obtain ⟨H1, e1, s1, k1⟩ := newH hl1 (.lst [V.non])
  rw [e1]
  refine ⟨_, rfl, b0, _, rfl, .inr (sqt (s1 _ _ hb0)), l1, _, _, rfl, rfl, k1, by omega, by omega, big (by rw [List.length_singleton]; omega), fun l2 hl2 => ?_⟩
  obtain ⟨H2, e2, s2, k2⟩ := newH hl2 (.lst (List.replicate ((xs.length : Nat) : Int).toNat [V.non]).flatten)
  rw [e2]
  refine ⟨Nat.le_of_ble_eq_true rfl, fun l3 hl3 => ?_⟩
  obtain ⟨H3, e3, s3, k3⟩ := newH hl3 (.lst [V.int 1])
  rw [e3]
  have hfl : (List.replicate ((xs.length : Nat) : Int).toNat [V.non]).flatten = List.replicate A0.length V.non := by
    rw [Int.toNat_natCast, hxl]
    generalize A0.length = m
    induction m with
    | zero => rfl
    | succ m ih =>
      rw [List.replicate_succ, List.flatten_cons, ih, List.replicate_succ]
      rfl
  rw [hfl] at k2
  refine ⟨l2, l3, _, _, rfl, rfl, s3 _ _ k2, k3, big (by rw [List.length_replicate, List.length_singleton]; omega), fun l4 hl4 => ?_⟩
  obtain ⟨H4, e4, s4, k4⟩ := newH hl4 (.lst (List.replicate A0.length V.non ++ [V.int 1]))
  rw [e4]
  have s14 := ((s1.trans s2).trans s3).trans s4
  rw [← osO_o0] at k4
  refine ⟨.ref b0, A0, cp, l4, cs, o0 A0.length, rfl, hA.tp (Tp.same s14), hn, hin, s14 _ _ hcp, hcl, fun c hc => (hc0 c hc).1, k4, TabG.same hT s14, fun x hx => ⟨o0_none.mp hx, colF_lt hc0 x⟩, fun h hl H5 s5 hhl k5 tot hh => ?_⟩
  refine q h hl H5 ((Sm.of s14).trans s5) (s14.free hhl) k5 tot fun b hb x x0 x1 r => ?_
  exact (hh b fun x hx => hb x (o0_none.mp hx).1 (o0_none.mp hx).2).wn (n := A0.length) (fun y hy => o0_none.mp hy) (fun y _ => tot y) (o0_none.mpr ⟨x0, x1⟩)
/-! ### _is_ended -/
def spEnded : Sp := fun vs H Q _ => ∃ (v : V) (os : Pos'), vs = [v] ∧ PosIn H os v ∧ (∀ o ∈ os, o ≠ [] ∧ (∀ p ∈ o, -1 ≤ p) ∧ o.Pairwise (· < ·)) ∧ os.length ≤ 1000 ∧ ∀ H', Same H H' → Q (.bl (decide (∀ o ∈ os, (-1 : Int) ∈ o))) H'
theorem ok_is_ended (T : Txt K mg) : FnOk P w K mg base CX0 1 T.a_is_ended T.d_is_ended P_is_ended spEnded := by
  refine T.F_is_ended.ok sc_is_ended (fun vs H Q E h => ?_) (fun cdv A outer s H vs Q E hr h => ?_)
  · obtain ⟨v, os, rfl, _⟩ := h
    rfl
  obtain ⟨v, os, rfl, hp, hg, hl, q⟩ := h
  obtain ⟨b0, xs, rfl, e0, hxs⟩ := id hp
  refine ⟨_, (pss_one (ps_ret (pe_callB (cr_all rfl) (by rfl) T.z_all (by decide +kernel) (pa_cons (pe_lc (own := [("option", 1)]) (g := (gName 1)) (tt := tYes) rfl sc_is_ended.nd (pi_tup (pv 0)) (blkOk_by (N := N_is_ended) (sc := defScope s_is_ended) (by decide +kernel)) (fun _ _ _ _ _ => (pg_name (i := 1) sc_is_ended.nd rfl (Or.inl rfl))) (fun _ _ _ _ _ => pts_nil) (fun _ _ _ _ _ => (pe_cmpR op_eq (pe_ix (ix_tupK (K := K) rfl) (pv 1) pe_int (fun _ _ => rfl)) (pe_un un_neg pe_int) (nomark _)))) pa_nil)))), ?_⟩
  refine ⟨_, rfl, b0, rfl, ⟨_, sqt e0⟩, fun D hD => ?_⟩
  refine lc_tup (K := K) (a := b0) (xs := xs) (fun (i : Nat) (H' : Hp) => Same H H' ∧ H' D = some (.lst (((os.take i).map fun o => decide ((-1 : Int) ∈ o)).map V.bl))) ?_ ?_ ?_ ?_
  · exact ⟨same_new hD _, upd_same⟩
  · rintro i H' _ ⟨s1, _⟩
    exact sqt (s1 _ _ e0)
  · rintro i x H1 hx ⟨s1, k1⟩
    have hil := (List.getElem?_eq_some_iff.mp hx).1
    have hio : i < os.length := by have := hxs.1; omega
    have ho : os[i]? = some os[i] := List.getElem?_eq_getElem hio
    obtain ⟨x2, hx2, b1, rfl, e1⟩ := hxs.at ho
    rw [hx] at hx2
    obtain rfl := Option.some.inj hx2
    obtain ⟨g1, g2, g3⟩ := hg _ (List.mem_of_getElem? ho)
    obtain ⟨a, r, hoe⟩ : ∃ a r, os[i] = a :: r := by
      cases h : os[i] with
      | nil => exact absurd h g1
      | cons a r => exact ⟨a, r, rfl⟩
    rw [hoe] at e1
    refine ⟨rfl, yes_if ?_⟩
    refine ⟨_, rfl, b1, _, _, _, rfl, rfl, sqt (s1 _ _ e1), atI0, _, rfl, rfl, _, k1, big' (by rw [List.length_map, List.length_map, List.length_take]; omega), same_put s1 hD, ?_⟩
    rw [upd_same, List.take_add_one, ho, List.map_append, List.map_append]
    congr 4
    have : decide (V.int a = V.int (-1)) = decide ((-1 : Int) ∈ os[i]) := by
      rw [hoe] at g2 g3 ⊢
      by_cases h : a = -1
      · subst h
        rw [decide_eq_true rfl, decide_eq_true (List.mem_cons_self ..)]
      · rw [decide_eq_false (fun e => h (V.int.inj e)), decide_eq_false fun m => ?_]
        rcases List.mem_cons.mp m with m | m
        · exact h m.symm
        · have := (List.pairwise_cons.mp g3).1 _ m
          have := g2 a (List.mem_cons_self ..)
          omega
    show V.bl (decide (V.int a = V.int (-1))) = V.bl (decide ((-1 : Int) ∈ os[i]))
    rw [this]
  rintro H1 ⟨s1, k1⟩
  rw [show xs.length = os.length from hxs.1, List.take_length] at k1
  refine ⟨D, _, rfl, sqd k1, boolE ?_ (q H1 s1)⟩
  rw [List.all_map]
  refine Bool.eq_iff_iff.mpr ⟨fun h => decide_eq_true fun o ho => ?_, fun h => List.all_eq_true.mpr fun o ho => ?_⟩
  · exact of_decide_eq_true (List.all_eq_true.mp h o ho)
  · exact decide_eq_true (of_decide_eq_true h o ho)
/-! ### _won_without -/
def spWon (Pt : Addr) : Sp := fun vs H Q _ => ∃ (v : V) (A : Ar) (cp al ml : Addr) (cs : List Int) (s : Bool) (am : List Int) (M : Mk') (d : Nat) (G : Int → Prop), vs = [v, .ref cp, .int (sI s), .ref al, .ref ml] ∧ ArIn H A v ∧ A.length ≤ 500 ∧ InA A A.length ∧ H cp = some (.tup (cs.map V.int)) ∧ cs.length = A.length ∧ (∀ c ∈ cs, 0 ≤ c ∧ c < 45) ∧ GxR.TabG H Pt ∧
  H al = some (.lst (am.map V.int)) ∧ am.length ≤ 500 ∧ H ml = some (.lst ((bsO A.length M).map V.bl)) ∧ (∀ x, x ∈ am ↔ G x ∧ colF cs x < d ∧ M x = false) ∧ (∀ x, G x → 0 ≤ x ∧ x < (A.length : Int)) ∧
  ∀ (t : Int → Bool) l H', Sm Pt H H' → H l = none → H' l = some (.lst ((am.filter t).map V.int)) → (∀ x ∈ am, t x = true ↔ Wn (psO A) (colF cs) d s (oV (colF cs) s d G (fun x => M x = true)) x) → Q (.ref l) H'
theorem ok_won_without (T : Txt K mg) {c Pt : Addr} (TB : GxR.TabB base mg c Pt) (hc : T.dforces.code = .ref c) : FnOk P w K mg base CX0 51 T.a_won_without T.d_won_without P_won_without (spWon Pt) := by
  have Gsettle := ok_settle (P := P) (w := w) T TB hc 45
  refine T.F_won_without.ok sc_won_without (fun vs H Q E h => ?_) (fun cdv A outer s H vs Q E hr h => ?_)
  · obtain ⟨v, A, cp, al, ml, cs, s, am, M, d, G, rfl, _⟩ := h
    rfl
  obtain ⟨v, A0, cp, al, ml, cs, s, am, M, d, G, rfl, hA, hn, hin, hcp, hcl, hc0, hT, hal, haml, hml, ham, hG, q⟩ := h
  generalize hnn : A0.length = n at *
  refine ⟨_, (pss_cons (ps_set (i := 5) sc_won_without.nd rfl (Or.inr rfl) (pe_lc (own := [("mark", 6)]) (g := (gName 6)) (tt := tYes) rfl sc_won_without.nd (pi_list (pv 4)) (blkOk_by (N := N_won_without) (sc := defScope s_won_without) (by decide +kernel)) (fun _ _ _ _ _ => (pg_name (i := 6) sc_won_without.nd rfl (Or.inl rfl))) (fun _ _ _ _ _ => pts_nil) (fun _ _ _ _ _ => (pe_ifExp (pt_val (pv 6)) (pv 2) (pe_op op_sub pe_int (pv 2))))))
    (pss_cons (ps_for  PassesOwn.never rfl (pi_list (pv 3)) (pg_name (i := 7) sc_won_without.nd rfl (Or.inl rfl))
    (pss_one (ps_asg pe_non (pg_sub (pv 5) (pv 7) set_list))))
    (pss_cons (ps_set (i := 5) sc_won_without.nd rfl (Or.inr rfl) (pe_call Gsettle (hr.mono (by omega)) (by rfl) T.msettle T.Fsettle.kp T.bsettle .nil pass0 (pa_cons (pv 0) (pa_cons (pv 1) (pa_cons (pv 5) pa_nil)))))
    (pss_one (ps_ret (pe_lc (own := [("at", 7)]) (g := (gName 7)) (tt := _) rfl sc_won_without.nd (pi_list (pv 3)) (blkOk_by (N := N_won_without) (sc := defScope s_won_without) (by decide +kernel)) (fun _ _ _ _ _ => (pg_name (i := 7) sc_won_without.nd rfl (Or.inl rfl))) (fun _ _ _ _ _ => (pts_one (pt_cmpR op_eq (pe_ix (ix_listK (K := K) rfl) (pv 5) (pv 7) (fun _ _ => rfl)) (pv 2) (nomark _)))) (fun _ _ _ _ _ => (pv 7)))))))), ?_⟩
  refine ⟨_, rfl, ml, rfl, ⟨_, sqd hml⟩, fun OL hOL => ?_⟩
  have hOP : OL ≠ Pt := TabG.ne0 hT hOL
  have hw : ∀ m : Bool, (if m = true then V.int (sI s) else V.int (1 - sI s)) = owV (some (if m = true then s else !s)) := fun m => by
    cases m <;> cases s <;> rfl
  refine lc_list (K := K) (a := ml) (xs := (bsO n M).map V.bl) (fun (i : Nat) (H' : Hp) => Sm Pt H H' ∧ H' OL = some (.lst (((bsO n M).take i).map fun m => owV (some (if m = true then s else !s))))) ?_ ?_ ?_ ?_
  · exact ⟨.of (same_new hOL _), upd_same⟩
  · rintro i H' _ ⟨s1, _⟩
    exact sqd (s1.lst hml)
  · rintro i x H1 hx ⟨s1, k1⟩
    rw [List.getElem?_map] at hx
    obtain ⟨m, hm, rfl⟩ := Option.map_eq_some_iff.mp hx
    have hlen : ((bsO n M).take i).length ≤ 600 := by rw [List.length_take, bsO_len]; omega
    have fin : ∀ u, u = owV (some (if m = true then s else !s)) → ∃ acc, H1 OL = some (.lst acc) ∧ acc.length < sizeLine ∧ (Sm Pt H (upd H1 OL (.lst (acc ++ [u]))) ∧ upd H1 OL (.lst (acc ++ [u])) OL = some (.lst (((bsO n M).take (i + 1)).map fun m => owV (some (if m = true then s else !s))))) := fun u hu => by
      refine ⟨_, k1, big' (by rw [List.length_map]; omega), s1.put hOL hOP, ?_⟩
      rw [upd_same, List.take_add_one, hm, List.map_append, hu]
      rfl
    refine ⟨rfl, yes_if ?_⟩
    cases m with
    | true => exact ⟨_, rfl, true, rfl, iteT ⟨_, rfl, fin _ (hw true)⟩⟩
    | false => exact ⟨_, rfl, false, rfl, iteF ⟨_, rfl, _, _, rfl, rfl, fin _ (hw false)⟩⟩
  rintro H1 ⟨s1, k1⟩
  have kO : H1 OL = some (.lst (osO n fun x => some (if M x = true then s else !s))) := by
    rw [k1, List.length_map, List.take_length]
    unfold bsO osO
    rw [List.map_append, List.map_map]
    rfl
  have hT1 := s1.tb hT
  have hal1 := s1.lst hal
  have haO : al ≠ OL := ne_of_none hal hOL
  refine ⟨_, rfl, al, rfl, ⟨_, sqd hal1⟩, ?_⟩
  refine for_list (K := K) (a := al) (xs := am.map V.int) (fun (i : Nat) (σ : L2.St) (H' : Hp) => ∃ y6 y7 : Option V, σ = [some v, some (.ref cp), some (.int (sI s)), some (.ref al), some (.ref ml), some (.ref OL), y6, y7] ∧ Fx OL Pt H1 H' ∧ H' OL = some (.lst (osO n fun x => if x ∈ am.take i then none else some (if M x = true then s else !s)))) ?_ ?_ ?_ ?_
  · exact ⟨_, _, rfl, Fx.refl, kO⟩
  · rintro i σ H' _ ⟨y6, y7, rfl, f2, _⟩
    exact sqd (f2.fr al _ trivial haO hal1)
  · rintro i x σ H2 hx ⟨y6, y7, rfl, f2, k2⟩
    rw [List.getElem?_map] at hx
    obtain ⟨z, hz, rfl⟩ := Option.map_eq_some_iff.mp hx
    have hzr := hG z ((ham z).mp (List.mem_of_getElem? hz)).1
    refine ⟨_, rfl, _, rfl, OL, _, _, _, rfl, rfl, k2, ixN_in (by omega) (by rw [osO_len]; omega), ?_⟩
    refine ⟨_, _, rfl, f2.trans (Fx.put (by rw [k2]; exact fun h => nomatch h) hOP), ?_⟩
    rw [upd_same, show V.non = owV none from rfl, osO_set hzr.1 hzr.2]
    congr 3
    refine funext fun y => ?_
    unfold setO
    by_cases hy : y = z
    · rw [if_pos hy, if_pos ((foldK_take hz y).mpr (.inr hy))]
    · rw [if_neg hy]
      dsimp only
      by_cases hm : y ∈ am.take i
      · rw [if_pos hm, if_pos ((foldK_take hz y).mpr (.inl hm))]
      · rw [if_neg hm, if_neg fun w => ((foldK_take hz y).mp w).elim hm hy]
  rintro σ H2 ⟨y6, y7, rfl, f2, k2⟩
  rw [List.length_map, List.take_length] at k2
  have hfun : (fun x => if x ∈ am then none else some (if M x = true then s else !s)) = oV (colF cs) s d G (fun x => M x = true) := funext fun x => by
    unfold oV
    dsimp only
    by_cases hx : x ∈ am
    · obtain ⟨h1, h2, h3⟩ := (ham x).mp hx
      rw [if_pos hx, if_neg (by rw [h3]; exact Bool.false_ne_true), if_pos ⟨h1, h2⟩]
    · rw [if_neg hx]
      by_cases hM : M x = true
      · rw [if_pos hM, if_pos hM]
      · rw [if_neg hM, if_neg hM, if_neg fun w => hx ((ham x).mpr ⟨w.1, w.2, by simpa using hM⟩)]
  rw [hfun] at k2
  have s2 : Sm Pt H H2 := f2.close hOL s1
  refine ⟨_, rfl, _, rfl, _, rfl, v, A0, cp, OL, cs, oV (colF cs) s d G (fun x => M x = true), rfl, hA.tp s2.tp, by omega, by rw [hnn]; exact hin, s2.tup hcp, by omega, fun c hc => (hc0 c hc).1, by rw [hnn]; exact k2, s2.tb hT, fun x hx => ⟨by rw [hnn]; exact hG x (oV_none.mp hx).2.1, colF_lt hc0 x⟩, fun h hl H3 s3 hhl k3 tot hh => ?_⟩
  rw [hnn] at k3
  have hwn : ∀ x ∈ am, h x = some s ↔ Wn (psO A0) (colF cs) d s (oV (colF cs) s d G (fun x => M x = true)) x := fun x hx => by
    refine (hh d fun y hy => oV_bd y hy).wn (n := n) (fun y hy => hG y (oV_none.mp hy).2.1) (fun y _ => tot y) ?_
    rw [← hfun]
    exact if_pos hx
  have s13 := s2.trans s3
  have hal3 := s13.lst hal
  have hT3 := s13.tb hT
  refine ⟨_, rfl, al, rfl, ⟨_, sqd hal3⟩, fun RL hRL => ?_⟩
  have hRP : RL ≠ Pt := TabG.ne0 hT3 hRL
  refine lc_list (K := K) (a := al) (xs := am.map V.int) (fun (i : Nat) (H' : Hp) => Sm Pt H3 H' ∧ H' RL = some (.lst (((am.take i).filter fun x => decide (h x = some s)).map V.int))) ?_ ?_ ?_ ?_
  · exact ⟨.of (same_new hRL _), upd_same⟩
  · rintro i H' _ ⟨s4, _⟩
    exact sqd (s4.lst hal3)
  · rintro i x H4 hx ⟨s4, k4⟩
    rw [List.getElem?_map] at hx
    obtain ⟨z, hz, rfl⟩ := Option.map_eq_some_iff.mp hx
    have hzr := hG z ((ham z).mp (List.mem_of_getElem? hz)).1
    have hsc : scal (owV (h z)) (V.int (sI s)) = true := by
      cases h z <;> rfl
    refine ⟨rfl, ?_⟩
    refine ⟨_, rfl, _, rfl, hl, _, _, _, rfl, rfl, sqd (s4.lst k3), osO_at (by omega) hzr.2, _, rfl, hsc, _, rfl, ?_⟩
    have hlen : ((am.take i).filter fun x => decide (h x = some s)).length ≤ 500 := by
      have h1 := List.length_filter_le (fun x => decide (h x = some s)) (am.take i)
      rw [List.length_take] at h1
      omega
    rw [List.take_add_one, hz, List.filter_append]
    by_cases hzs : h z = some s
    · refine ifT (decide_eq_true (owV_some.mpr hzs)) ⟨_, rfl, _, k4, big' (by rw [List.length_map]; omega), s4.put hRL hRP, ?_⟩
      rw [upd_same, Option.toList_some, List.filter_cons, if_pos (decide_eq_true hzs), List.filter_nil, List.map_append]
      rfl
    · refine ifF (decide_eq_false fun w => hzs (owV_some.mp w)) ⟨s4, ?_⟩
      rw [Option.toList_some, List.filter_cons, if_neg (by rw [decide_eq_false hzs]; exact Bool.false_ne_true), List.filter_nil, List.append_nil]
      exact k4
  rintro H4 ⟨s4, k4⟩
  rw [List.length_map, List.take_length] at k4
  exact q _ RL H4 (s13.trans s4) (s13.dom _ hRL) k4 fun x hx => ⟨fun e => (hwn x hx).mp (of_decide_eq_true e), fun e => decide_eq_true ((hwn x hx).mpr e)⟩
end
end NL

set_option maxHeartbeats 4000000
namespace NL
open PySem PySem.Spec PyProof.Rows L2
theorem sw_trueD {kx vx : Expr} {gs : List Comprehension} {scope : Scope} {pos py : Pos} {y : Str} {l : Nat} {env : Env} (hk : env.scope.kind = .function) (hy : env.scope.names.lookup y = some .local) (hl : (py.line == pos.line) = true)
    (ha : (scope.names.any fun (n, k) => n == y && (k == .local || k == .cell)) = false) : swapsWith (.DictComp kx vx gs scope pos) (some (.Name y py)) l env = pure true := by
  have ky : env.kindOf y = some .local := hy
  have hb : env.blockKind = .function := by unfold Env.blockKind; rw [hk]; rfl
  unfold swapsWith
  simp only [hb, ky, ha, Expr.pos, hl]
  rfl
/-- name = {k: v for ..} on one line, the name a local -/
theorem ps_setDc {X : Cx} {i : Nat} {y : Str} {py : Pos} {kx vx tg iter : Expr} {ifs : List Expr} {scope : Scope} {own : List (Str × Nat)} {pos spos : Pos} {wi : TI} {g : TG} {tt : TT} {tk tv : TE} (hc : X.calm = true) (hN : X.N.Nodup) (hy : X.N[i]? = some y) (hyl : X.env.scope.names.lookup y = some .local)
    (hsw : swapsWith (.DictComp kx vx [⟨tg, iter, ifs, 0⟩] scope pos) (some (.Name y py)) spos.line X.env = pure true) (hi : PI X tg iter wi) (ok : BlkOk X.N X.env.scope scope own)
    (hg : ∀ (s : Shared) (H : Hp) (C : Addr) (cl : List (Str × Addr)) (fp : List Addr), PG (X.blk s H scope (compEnvC scope cl C X.env) fp) tg g) (ht : ∀ (s : Shared) (H : Hp) (C : Addr) (cl : List (Str × Addr)) (fp : List Addr), PTs (X.blk s H scope (compEnvC scope cl C X.env) fp) ifs tt)
    (hk : ∀ (s : Shared) (H : Hp) (C : Addr) (cl : List (Str × Addr)) (fp : List Addr), PE (X.blk s H scope (compEnvC scope cl C X.env) fp) kx tk)
    (he : ∀ (s : Shared) (H : Hp) (C : Addr) (cl : List (Str × Addr)) (fp : List Addr), PE (X.blk s H scope (compEnvC scope cl C X.env) fp) vx tv) (hs : ∀ x, foldedSetIterable iter X.env x = pure x := by intro _; rfl) :
    PS X (.Assign [.Name y py] (.DictComp kx vx [⟨tg, iter, ifs, 0⟩] scope pos) spos) (tAsg (tDc wi g tt tk tv (own.map (·.2))) (gName i)) := by
  refine ⟨fun pins s σ H D I h => ?_⟩
  rw [exec_Assign_Name_used _ _ _ _ hsw]
  refine wpAny_bind (wpAny_standAt (wpAny_bind ?_))
  show wpAny _ X.A (do let _ ← comprehension (.DictComp kx vx [⟨tg, iter, ifs, 0⟩] scope pos) scope X.env (firstIterPos [⟨tg, iter, ifs, 0⟩] pos) newDict false (eval iter X.env) (some (assign (.Name y py) X.env))) _ _ s
  have h : tDc wi g tt tk tv (own.map (·.2)) σ H (fun x H1 => gName i x σ H1 D.nx) := h
  refine wpAny_bind (thn (dc_core (Qf := fun _ s' => SP X pins D .next s') hc hN I hi ok hg ht hk he hs h fun L C s' m H' I' q hn f => ?_) fun _ s' hq => wpAny_pure (wpAny_pure hq))
  show wpAny _ _ (assign (.Name y py) X.env (.ref L)) _ _ _
  refine wpAny_assign_Name (store_ok2 (v := V.ref L) I' hN hy (.inl hyl) rfl (fun s2 I2 ⟨a, sb, ha⟩ => ?_) (.inr hyl))
  obtain ⟨f0, f1, f2, f3, f4, f5⟩ := f
  have haC : C ≠ a := by
    rcases ha with z | z
    · rw [z]; exact f1
    · exact fun e => f4 y a z e.symm
  refine ⟨m, hn.sameBut sb haC, fun h3 sb3 => ?_⟩
  exact ⟨_, H', I2.turned (t' := s2.toks) (fun b o hb e => (sb3.2 b hb).trans e) f0 f1 f3 f4 f5, q⟩
/-! ### list(d.values()) -/
def tListVals (td : TE) : TE := fun σ H Q => td σ H fun x H1 => ∃ (a : Addr) (kvs : List (Key × V)), x = V.ref a ∧ H1 a = some (.dK kvs) ∧ ∀ p, H1 p = none → Q (.ref p) (upd H1 p (.lst (kvs.map (·.2))))
theorem vals_of_kv {kvs : List (Key × V)} {vs : List (Key × Value)} (rel : KV kvs vs) {l : List Value} (hl : l.length = vs.length) (hv : ∀ (i : Nat) v, l[i]? = some v → ∃ k, vs[i]? = some (k, v)) : L2.Vals (kvs.map (·.2)) l := by
  induction rel generalizing l with
  | nil =>
    have : l = [] := List.length_eq_zero_iff.mp hl
    subst this
    exact .nil
  | cons h r ih =>
    cases l with
    | nil => cases hl
    | cons v l =>
      obtain ⟨k, hk⟩ := hv 0 v rfl
      have hk := Option.some.inj hk
      refine .cons ?_ (ih (by simpa using hl) fun i w hw => hv (i + 1) w hw)
      first
        | exact hk ▸ h.2
        | (rw [hk] at h; exact h.2)
        | (rw [hk] at h; exact h)
theorem pe_listVals {X : Cx} {o : Expr} {p pos apos mpos : Pos} {td : TE} (hc : X.calm = true) (hg : Gl X "list") (hm : X.mg "list" = none) (hd : PE X o td) (hb : attributeBase o "values" X.env (eval o X.env) = eval o X.env := by rfl) (hli : (apos.endLine == mpos.line) = true := by rfl)
    (hse : starEach [Expr.Call (.Attribute o "values" apos) [] [] mpos] X.env = [(false, eval (Expr.Call (.Attribute o "values" apos) [] [] mpos) X.env)] := by rfl) : PE X (.Call (.Name "list" p) [.Call (.Attribute o "values" apos) [] [] mpos] [] pos) (tListVals td) := by
  refine ⟨fun pins s σ H Q I h => ?_⟩
  refine wpAny_Call_Name_kw (ld_blt I hg hm (u := .type "list") (by first | rfl | decide +kernel) ?_ (by first | decide +kernel | decide) (by first | decide +kernel | decide))
  rw [hse]
  refine PySem.callWith_type1 (wpAny_Call_method0_late hb hli (thn (hd.run pins s σ H _ I h) fun v s1 ⟨x, H1, I1, r1, a, kvs, ex, ha, q⟩ => ?_))
  subst ex
  cases r1
  obtain ⟨hz, lo, vs, rel, dof⟩ := dk_of I1.hok ha
  obtain ⟨ep, dat⟩ := dof.dictAt
  have hat := dat
  obtain ⟨ob, es, ho, ex, _⟩ := hat
  refine ⟨"dict", "dict.values", F.plainAttrs_dict, F.slot_dict_values, F.type_dict_values, ⟨ob, ho, ex.1⟩, fun b e => ?_, Calls.callWith_builtin rfl (PySem.evalArgs_none ?_)⟩
  · cases e
    exact ⟨ob, ho, ex.2.1⟩
  refine call_meetsIn F.slot_dict_values ⟨ob, ho, ex.1⟩ F.entry_dict_values (F.args_dict_values_1 _) (meets_dict_values (mixKind X.prog X.w) a lo) ⟨⟨vs, dof⟩, ?_⟩
  have up : ∀ b u, s1.heap.get? b = some u → (s1.heap.push { cls := .type "dict_values", data := .fields #[.ref a] }).get? b = some u := fun b u e => Heap.get?_push_of_some _ e
  have hvl : vs.length ≤ sizeLine := by rw [← KV.length rel]; exact hz
  refine PySem.W.kdl_call (PySem.W.kdl_values (knd := mixKind X.prog X.w) (r := s1.heap.objs.size) (d := a) (kvs := vs) (ep := ep)) (I.ok.hd hc) ⟨⟨_, Heap.get?_push_size _ rfl, rfl, rfl⟩, dat.keep up⟩ hvl fun h' tk acc c kp e it => ?_
  have hsz : (s1.heap.push { cls := .type "dict_values", data := .fields #[.ref a] }).objs.size = s1.heap.objs.size + 1 := Heap.size_push _ _
  rw [hsz] at e ⊢
  have rv : L2.Vals (kvs.map (·.2)) acc.toList := vals_of_kv rel (by rw [Array.length_toList]; exact it.1) fun i v hv => it.2 i v (by rw [← Array.getElem?_toList]; exact hv)
  refine ⟨.ref (s1.heap.objs.size + 1), _, I1.laid (t' := tk) (o := .lst (kvs.map (·.2))) (fun b u eb => kp b u (up b u eb)) (Nat.le_succ _) ?_, rfl, q _ (I1.hok.fresh (Nat.le_succ _))⟩
  exact ⟨by rw [List.length_map]; exact hz, acc.toList, c, rv, by rw [Array.toArray_toList]; exact e⟩
theorem dc_it {J : It} {n : Nat} {G : Hp → Prop} {Y : Nat → Hp → V → Hp → Prop} (w : Walk J n G Y) {g : TG} {tt : TT} {tk tv : TE} {vs : List Nat} {σ : L2.St} {H1 : Hp} {D : Addr} {Qd : Hp → Prop} (Pv : Nat → Hp → Prop) (h0 : Pv 0 (upd H1 D (.dK []))) (hq : ∀ i H, i ≤ n → Pv i H → G H)
    (hs : ∀ (i : Nat) (x : V) (H H' : Hp), i < n → Pv i H → Y i H x H' → g x (wipe σ vs) H' fun σ2 H2 => wipe σ2 vs = wipe σ vs ∧ tt σ2 H2 fun c H3 =>
      if c = true then tk σ2 H3 fun y1 H4 => tv σ2 H4 fun z H5 => ∃ kvs k, y1 = kV k ∧ H5 D = some (.dK kvs) ∧ kvs.length < sizeLine ∧ Pv (i + 1) (upd H5 D (.dK (putK kvs k z))) else Pv (i + 1) H3) (hd : ∀ H, Pv n H → Qd H) :
    ∃ W : Nat → Nat → Hp → Prop, (∃ m, W 0 m (upd H1 D (.dK []))) ∧ ∀ i m H, W i m H →
      (J.stop i H ∧ Qd H) ∨ (J.go i H ∧ ∃ Nx : Hp → Prop, (∀ H', Nx H' → ∃ m', m' < m ∧ W (i + 1) m' H') ∧ ∀ x H', J.yld i H x H' → g x (wipe σ vs) H' fun σ2 H2 => wipe σ2 vs = wipe σ vs ∧ tt σ2 H2 fun c H3 =>
        if c = true then tk σ2 H3 fun y1 H4 => tv σ2 H4 fun z H5 => ∃ kvs k, y1 = kV k ∧ H5 D = some (.dK kvs) ∧ kvs.length < sizeLine ∧ Nx (upd H5 D (.dK (putK kvs k z))) else Nx H3) := by
  refine ⟨fun i m H => m + i = n ∧ Pv i H, ⟨n, rfl, h0⟩, ?_⟩
  rintro i m H ⟨hi, p⟩
  have hG := hq i H (by omega) p
  by_cases lt : i < n
  · exact .inr ⟨w.goes i H lt hG, Pv (i + 1), fun H' p' => ⟨m - 1, by omega, by omega, p'⟩, fun v H' y => hs i v H H' lt p (w.yields i H v H' lt hG y)⟩
  · have e : i = n := by omega
    subst e
    exact .inl ⟨w.stops H hG, hd H p⟩
def rLenDK : List V → Hp → VK → Prop := fun xs H Q => ∃ (p : Addr) (kvs : List (Key × V)), xs = [.ref p] ∧ H p = some (.dK kvs) ∧ Q (.int ((kvs.length : Nat) : Int)) H
theorem call_len_dK {X : Cx} : CallR X (.builtin "len") rLenDK := by
  intro pins s σ H xs us Q I r h
  obtain ⟨p, kvs, rfl, hp, q⟩ := h
  obtain ⟨u, rfl, rx⟩ := vals1 r
  obtain rfl : u = .ref p := rx
  obtain ⟨z, hd, ys, rel, dd⟩ := dk_of I.hok hp
  have hl : kvs.length = ys.length := Paired.length rel
  refine call_len_dict hd dd (by rw [← hl]; rw [sizeLine_eq] at z; omega) ?_
  rw [← hl]
  exact ⟨.int ((kvs.length : Nat) : Int), H, I.tok _, ⟨_, rfl⟩, q⟩
/-! ### all stays but for two places -/
structure F2 (a b P : Addr) (H H' : Hp) : Prop where
  fr : ∀ x o, NT o → x ≠ a → x ≠ b → H x = some o → H' x = some o
  tb : GxR.TabG H P → GxR.TabG H' P
  dom : ∀ b, H' b = none → H b = none
theorem F2.sm {a b P : Addr} {H H' : Hp} (s : Sm P H H') : F2 a b P H H' := ⟨fun x o n _ _ e => s.fr x o n e, s.tb, s.dom⟩
theorem F2.refl {a b P : Addr} {H : Hp} : F2 a b P H H := .sm Sm.refl
theorem F2.of {a b P : Addr} {H H' : Hp} (s : Same H H') : F2 a b P H H' := .sm (.of s)
theorem F2.trans {a b P : Addr} {H H1 H2 : Hp} (x : F2 a b P H H1) (y : F2 a b P H1 H2) : F2 a b P H H2 := ⟨fun c o n h h' e => y.fr c o n h h' (x.fr c o n h h' e), fun h => y.tb (x.tb h), fun c e => x.dom c (y.dom c e)⟩
theorem F2.put {a b P p : Addr} {H : Hp} {o : HO} (hp : p = a ∨ p = b) (h : H p ≠ none) (hP : p ≠ P) : F2 a b P H (upd H p o) := by
  refine ⟨fun x u n g g' e => ?_, fun ⟨ps, e, t⟩ => ⟨ps, by rw [upd_ne (Ne.symm hP)]; exact e, t⟩, fun x e => ?_⟩
  · rw [upd_ne (fun z => by
      rcases hp with h | h
      · exact g (z.trans h)
      · exact g' (z.trans h))]
    exact e
  · by_cases hb : x = p
    · rw [hb, upd_same] at e
      cases e
    · rw [upd_ne hb] at e
      exact e
theorem F2.close {a b P : Addr} {H H1 H2 : Hp} (ha : H a = none) (hb : H b = none) (s : Sm P H H1) (x : F2 a b P H1 H2) : Sm P H H2 := ⟨fun c o n e => x.fr c o n (ne_of_none e ha) (ne_of_none e hb) (s.fr c o n e), fun t => x.tb (s.tb t), fun c e => s.dom c (x.dom c e)⟩
/-! ### a dict of ints by its keys -/
def encE (l : List Int) (e : Int → Int) : List (Key × V) := l.map fun x => ((Sum.inl x : Key), V.int (e x))
theorem encE_len (l : List Int) (e : Int → Int) : (encE l e).length = l.length := by unfold encE; rw [List.length_map]
theorem encE_val {l : List Int} {e : Int → Int} {x : Int} : x ∈ l → valV (encE l e) (Sum.inl x : Key) = some (.int (e x)) := by
  induction l with
  | nil => exact fun h => nomatch h
  | cons a r ih =>
    intro h
    show valV (((Sum.inl a : Key), V.int (e a)) :: encE r e) (Sum.inl x : Key) = _
    by_cases hx : a = x
    · rw [valV_pos (by show (Sum.inl a : Key) = Sum.inl x; rw [hx]), hx]
    · rw [valV_neg (fun z => hx (Sum.inl.inj z))]
      exact ih ((List.mem_cons.mp h).resolve_left fun z => hx z.symm)
theorem encE_put {l : List Int} {e : Int → Int} {x : Int} (h : x ∉ l) : putK (encE l e) (Sum.inl x : Key) (.int (e x)) = encE (l ++ [x]) e := by
  unfold putK
  rw [if_neg]
  · unfold encE
    rw [List.map_append]
    rfl
  · rw [List.any_eq_true]
    rintro ⟨kv, h1, h2⟩
    obtain ⟨y, hy, rfl⟩ := List.mem_map.mp h1
    have := Sum.inl.inj (of_decide_eq_true h2)
    exact h (this ▸ hy)
theorem encE_vals (l : List Int) (e : Int → Int) : (encE l e).map (·.2) = (l.map e).map V.int := by
  unfold encE
  rw [List.map_map, List.map_map]
  rfl
theorem take_new {l : List Int} (h : l.Nodup) {j : Nat} {x : Int} (hx : l[j]? = some x) : x ∉ l.take j := fun hm => by
  obtain ⟨i, hi⟩ := List.getElem?_of_mem hm
  have hil := (List.getElem?_eq_some_iff.mp hi).1
  rw [List.length_take] at hil
  rw [List.getElem?_take_of_lt (by omega)] at hi
  have hjl := (List.getElem?_eq_some_iff.mp hx).1
  have h1 := (List.getElem?_eq_some_iff.mp hi).2
  have h2 := (List.getElem?_eq_some_iff.mp hx).2
  have := (List.nodup_iff_pairwise_ne.mp h)
  have := List.pairwise_iff_getElem.mp this i j (by omega) hjl (by omega)
  exact this (h1.trans h2.symm)
/-- the first round -/
theorem first_ex {Pk : Nat → Prop} (h : ∃ k, Pk k) : ∃ k, Pk k ∧ ∀ j, j < k → ¬ Pk j := by
  obtain ⟨k, hk⟩ := h
  induction k using Nat.strongRecOn with
  | ind k ih =>
    by_cases hl : ∃ j, j < k ∧ Pk j
    · obtain ⟨j, h1, h2⟩ := hl
      exact ih j h1 h2
    · exact ⟨k, hk, fun j hj hp => hl ⟨j, hj, hp⟩⟩
noncomputable def fstK (Pk : Nat → Prop) : Nat := open Classical in if h : ∃ k, Pk k then Classical.choose (first_ex h) else 0
theorem fstK_is {Pk : Nat → Prop} (h : ∃ k, Pk k) : Pk (fstK Pk) ∧ ∀ j, j < fstK Pk → ¬ Pk j := by
  unfold fstK
  rw [dif_pos h]
  exact Classical.choose_spec (first_ex h)
theorem fstK_eq {Pk : Nat → Prop} {k : Nat} (h : Pk k) (g : ∀ j, j < k → ¬ Pk j) : fstK Pk = k := by
  obtain ⟨h1, h2⟩ := fstK_is ⟨k, h⟩
  rcases Nat.lt_trichotomy (fstK Pk) k with z | z | z
  · exact absurd h1 (g _ z)
  · exact z
  · exact absurd h (h2 _ z)
noncomputable def mB (S : Int → Prop) : Mk' := fun x => @decide (S x) (Classical.propDecidable _)
theorem mB_t {S : Int → Prop} {x : Int} : mB S x = true ↔ S x := ⟨fun h => @of_decide_eq_true _ (Classical.propDecidable _) h, fun h => @decide_eq_true _ (Classical.propDecidable _) h⟩
theorem mB_f {S : Int → Prop} {x : Int} : mB S x = false ↔ ¬ S x := ⟨fun h => @of_decide_eq_false _ (Classical.propDecidable _) h, fun h => @decide_eq_false _ (Classical.propDecidable _) h⟩
theorem mB_ext {S S' : Int → Prop} (h : ∀ x, S x ↔ S' x) : mB S = mB S' := by
  rw [show S = S' from funext fun x => propext (h x)]
end NL

set_option maxHeartbeats 4000000
namespace NL
open PySem PySem.Spec PyProof.Rows L2
/-! ### _entries_in -/
/-- the round in which a position is won -/
noncomputable def rdE (A : Ar) (cs : List Int) (s : Bool) (d : Nat) (G L : Int → Prop) (x : Int) : Nat := fstK fun k => Wk (psO A) (colF cs) s d G L k x
section
variable {P : Program} {w : World} {K : PySem.W.Frag} {mg : Str → Option Value} {base : Heap}
def spEntries (Pt : Addr) : Sp := fun vs H Q _ => ∃ (v : V) (A : Ar) (cp gl ll : Addr) (cs : List Int) (s : Bool) (d KK : Nat) (gp : List Int) (L : Mk'), vs = [v, .ref cp, .int (sI s), .int (d : Nat), .ref gl, .ref ll] ∧ ArIn H A v ∧ ArG A ∧ InA A A.length ∧ H cp = some (.tup (cs.map V.int)) ∧ cs.length = A.length ∧ (∀ c ∈ cs, 0 ≤ c ∧ c < 45) ∧ GxR.TabG H Pt ∧
  H gl = some (.lst (gp.map V.int)) ∧ gp.length ≤ 500 ∧ gp.Nodup ∧ (∀ x ∈ gp, 0 ≤ x ∧ x < (A.length : Int)) ∧ H ll = some (.lst ((bsO A.length L).map V.bl)) ∧ (∀ x ∈ gp, L x = false) ∧ (∀ x ∈ gp, (∀ o ∈ psO A x, (-1 : Int) ∈ o) ↔ Frc s (psO A x) (Out1 s)) ∧
  (∀ x ∈ gp, Wk (psO A) (colF cs) s d (fun y => y ∈ gp) (fun y => L y = true) KK x) ∧
  ∀ (l : List Int) D H', Sm Pt H H' → H D = none → H' D = some (.dK (encE l fun x => (rdE A cs s d (fun y => y ∈ gp) (fun y => L y = true) x : Nat))) → l.Nodup → (∀ x, x ∈ l ↔ x ∈ gp) → Q (.ref D) H'
theorem ok_entries_in (T : Txt K mg) {c Pt : Addr} (TB : GxR.TabB base mg c Pt) (hc : T.dforces.code = .ref c) : FnOk P w K mg base CX0 52 T.a_entries_in T.d_entries_in P_entries_in (spEntries Pt) := by
  have Gforces := ok_forces (P := P) (w := w) T TB hc
  have G_is_ended := ok_is_ended (P := P) (w := w) (base := base) T
  have G_won_without := ok_won_without (P := P) (w := w) T TB hc
  refine T.F_entries_in.ok sc_entries_in (fun vs H Q E h => ?_) (fun cdv A outer s H vs Q E hr h => ?_)
  · obtain ⟨v, A, cp, gl, ll, cs, s, d, KK, gp, L, rfl, _⟩ := h
    rfl
  obtain ⟨v, A0, cp, gl, ll, cs, s, d, KK, gp, L, rfl, hA, hAG, hin, hcp, hcl, hc0, hT, hgl, hgll, hnd, hgr, hll, hgL, hend, hKK, q⟩ := h
  have hn : A0.length ≤ 400 := hAG.1
  generalize hnn : A0.length = n at *
  obtain ⟨b0, xs, rfl, hb0, hxs⟩ := id hA
  have hxl := hxs.1
  generalize hGe : (fun y => y ∈ gp : Int → Prop) = G at *
  generalize hLe : (fun y => L y = true : Int → Prop) = Lp at *
  have hGm : ∀ x, G x ↔ x ∈ gp := fun x => by rw [← hGe]
  have hLm : ∀ x, Lp x ↔ L x = true := fun x => by rw [← hLe]
  have hGr : ∀ x, G x → 0 ≤ x ∧ x < (n : Int) := fun x hx => hgr x ((hGm x).mp hx)
  have at_ : ∀ {H' : Hp}, Sm Pt H H' → ∀ {x : Int}, x ∈ gp → ∃ os u, A0[x.toNat]? = some os ∧ os ∈ A0 ∧ psO A0 x = os ∧ atI xs x = some u ∧ PosIn H' os u := fun {H'} s1 {x} hx => by
    obtain ⟨h0, h1⟩ := hgr x hx
    obtain ⟨os, u, ho, hat, hpos⟩ := hxs.atI h0 (by rw [hnn]; exact h1)
    exact ⟨os, u, ho, List.mem_of_getElem? ho, psO_at h0 ho, hat, PosIn.tp s1.tp hpos⟩
  have inG : ∀ {j : Nat} {x : V}, (gp.map V.int)[j]? = some x → ∃ z, gp[j]? = some z ∧ x = V.int z ∧ z ∈ gp ∧ 0 ≤ z ∧ z < (n : Int) := fun {j x} h => by
    rw [List.getElem?_map] at h
    obtain ⟨z, hz, rfl⟩ := Option.map_eq_some_iff.mp h
    have := hgr z (List.mem_of_getElem? hz)
    exact ⟨z, hz, rfl, List.mem_of_getElem? hz, this.1, this.2⟩
  refine ⟨_, (pss_cons (ps_if (pt_cmpR op_notIn_seq (pv 3) (pe_lc (own := [("at", 6)]) (g := (gName 6)) (tt := tYes) rfl sc_entries_in.nd (pi_list (pv 4)) (blkOk_by (N := N_entries_in) (sc := defScope s_entries_in) (by decide +kernel)) (fun _ _ _ _ _ => (pg_name (i := 6) sc_entries_in.nd rfl (Or.inl rfl))) (fun _ _ _ _ _ => pts_nil) (fun _ _ _ _ _ => (pe_ix (ix_tupK (K := K) rfl) (pv 1) (pv 6) (fun _ _ => rfl)))) (by rfl))
    (pss_one (ps_ret (pe_dc (own := [("at", 6)]) (g := (gName 6)) (tt := tYes) rfl sc_entries_in.nd (pi_list (pv 4)) (blkOk_by (N := N_entries_in) (sc := defScope s_entries_in) (by decide +kernel)) (fun _ _ _ _ _ => (pg_name (i := 6) sc_entries_in.nd rfl (Or.inl rfl))) (fun _ _ _ _ _ => pts_nil) (fun _ _ _ _ _ => (pv 6)) (fun _ _ _ _ _ => pe_int))))
    pss_nil)
    (pss_cons (ps_setDc (i := 7) (own := [("at", 6)]) (g := (gName 6)) (tt := _) rfl sc_entries_in.nd rfl rfl (sw_trueD rfl rfl rfl (by decide +kernel)) (pi_list (pv 4)) (blkOk_by (N := N_entries_in) (sc := defScope s_entries_in) (by decide +kernel)) (fun _ _ _ _ _ => (pg_name (i := 6) sc_entries_in.nd rfl (Or.inl rfl))) (fun _ _ _ _ _ => (pts_one (PW.pt (pw_or (pt_cmpR op_gt (pe_ix (ix_tupK (K := K) rfl) (pv 1) (pv 6) (fun _ _ => rfl)) (pv 3) (nomark _)) (pw_or1 (pt_val (pe_call G_is_ended (hr.mono (by omega)) (by rfl) T.m_is_ended T.F_is_ended.kp T.b_is_ended .nil pass0 (pa_cons (pe_ix (ix_tupK (K := K) rfl) (pv 0) (pv 6) (fun _ _ => rfl)) pa_nil)))))))) (fun _ _ _ _ _ => (pv 6)) (fun _ _ _ _ _ => pe_int))
    (pss_cons (ps_set (i := 8) sc_entries_in.nd rfl (Or.inr rfl) (pe_callTy call_list_of (by rfl) T.z_list (by decide +kernel) (pa_cons (pv 5) pa_nil)))
    (pss_cons (ps_lock (ps_for PassesOwn.never rfl (pi_keys (pv 7)) (pg_name (i := 6) sc_entries_in.nd rfl (Or.inl rfl))
    (pss_one (ps_asg pe_bl (pg_sub (pv 8) (pv 6) set_list)))))
    (pss_cons (ps_set (i := 9) sc_entries_in.nd rfl (Or.inl rfl) pe_int)
    (pss_cons (ps_while PassesOwn.never (pt_cmpR op_lt (pe_callB call_len_dK (by rfl) T.z_len PySem.boot_len (pa_cons (pv 7) pa_nil)) (pe_callB call_len_seq (by rfl) T.z_len PySem.boot_len (pa_cons (pv 4) pa_nil)) (nomark _))
    (pss_cons (ps_setLc (i := 10) (own := [("at", 6)]) (g := (gName 6)) (tt := _) rfl sc_entries_in.nd rfl rfl (sw_true rfl rfl rfl (by decide +kernel)) (pi_list (pv 4)) (blkOk_by (N := N_entries_in) (sc := defScope s_entries_in) (by decide +kernel)) (fun _ _ _ _ _ => (pg_name (i := 6) sc_entries_in.nd rfl (Or.inl rfl))) (fun _ _ _ _ _ => (pts_one (PW.pt (pw_and (pt_cmpR op_lt (pe_ix (ix_tupK (K := K) rfl) (pv 1) (pv 6) (fun _ _ => rfl)) (pv 3) (nomark _)) (pw_and1 (pt_not (pt_val (pe_ix (ix_listK (K := K) rfl) (pv 8) (pv 6) (fun _ _ => rfl))))))))) (fun _ _ _ _ _ => (pv 6)))
    (pss_cons (ps_for  PassesOwn.never rfl (pi_list (pe_call G_won_without (hr.mono (by omega)) (by rfl) T.m_won_without T.F_won_without.kp T.b_won_without .nil pass0 (pa_cons (pv 0) (pa_cons (pv 1) (pa_cons (pv 2) (pa_cons (pv 10) (pa_cons (pv 8) pa_nil))))))) (pg_name (i := 6) sc_entries_in.nd rfl (Or.inl rfl))
    (pss_cons (ps_dput (hu_of hr) (pv 7) (pv 6) (pv 9) rfl)
    (pss_one (ps_asg pe_bl (pg_sub (pv 8) (pv 6) set_list)))))
    (pss_cons (ps_aug (i := 9) sc_entries_in.nd rfl (Or.inl rfl) pe_int ip_add)
    (pss_cons (ps_setLc (i := 11) (own := [("at", 6)]) (g := (gName 6)) (tt := _) rfl sc_entries_in.nd rfl rfl (sw_true rfl rfl rfl (by decide +kernel)) (pi_list (pv 4)) (blkOk_by (N := N_entries_in) (sc := defScope s_entries_in) (by decide +kernel)) (fun _ _ _ _ _ => (pg_name (i := 6) sc_entries_in.nd rfl (Or.inl rfl))) (fun _ _ _ _ _ => (pts_one (PW.pt (pw_and (pt_not (pt_val (pe_ix (ix_listK (K := K) rfl) (pv 8) (pv 6) (fun _ _ => rfl)))) (pw_and1 (pt_val (pe_call Gforces (hr.mono (by omega)) (by rfl) T.mforces T.Fforces.kp T.bforces .nil pass0 (pa_cons (pv 2) (pa_cons (pe_ix (ix_tupK (K := K) rfl) (pv 0) (pv 6) (fun _ _ => rfl)) (pa_cons (pv 8) pa_nil)))))))))) (fun _ _ _ _ _ => (pv 6)))
    (pss_one (ps_for  PassesOwn.never rfl (pi_list (pv 11)) (pg_name (i := 6) sc_entries_in.nd rfl (Or.inl rfl))
    (pss_cons (ps_dput (hu_of hr) (pv 7) (pv 6) (pv 9) rfl)
    (pss_one (ps_asg pe_bl (pg_sub (pv 8) (pv 6) set_list)))))))))))
    (pss_one (ps_ret (pv 7))))))))), ?_⟩
  -- the colours of the group
  refine ⟨_, rfl, _, rfl, gl, rfl, ⟨_, sqd hgl⟩, ?_⟩
  refine fun CL hCL => ?_
  have hCP : CL ≠ Pt := TabG.ne0 hT hCL
  refine lc_list (K := K) (a := gl) (xs := gp.map V.int) (fun (i : Nat) (H' : Hp) => Sm Pt H H' ∧ H' CL = some (.lst (((gp.take i).map fun x => ((colF cs x : Nat) : Int)).map V.int))) ?_ ?_ ?_ ?_
  · exact ⟨.of (same_new hCL _), upd_same⟩
  · rintro i H' _ ⟨s1, _⟩
    exact sqd (s1.lst hgl)
  · rintro i x H1 hi ⟨s1, k1⟩
    obtain ⟨z, hz, rfl, hzm, hz1⟩ := inG hi
    refine ⟨rfl, yes_if ?_⟩
    refine ⟨_, rfl, _, rfl, cp, _, _, _, rfl, rfl, sqt (s1.tup hcp), colF_at (fun c hc => (hc0 c hc).1) hz1.1 (by omega), _, k1, big' (by rw [List.length_map, List.length_map, List.length_take]; omega), s1.put hCL hCP, ?_⟩
    rw [upd_same, List.take_add_one, hz, List.map_append, List.map_append]
    rfl
  rintro H1 ⟨s1, k1⟩
  rw [List.length_map, List.take_length] at k1
  refine ⟨CL, _, rfl, .inl (sqd k1), rfl, flat_ints' _, _, rfl, ?_⟩
  rw [if_pos rfl, int_in]
  by_cases hcol : ((d : Nat) : Int) ∈ gp.map fun x => ((colF cs x : Nat) : Int)
  rotate_left
  · -- none of the colour
    refine ifT (by rw [decide_eq_false hcol]; rfl) ?_
    have hno : ∀ x ∈ gp, colF cs x ≠ d := fun x hx e => hcol (List.mem_map.mpr ⟨x, hx, by rw [e]⟩)
    have hr0 : ∀ x ∈ gp, rdE A0 cs s d G Lp x = 0 := fun x hx => fstK_eq (Wk_stop hGr (j := 0) (fun y hy hcy _ => absurd hcy (hno y ((hGm y).mp hy))) KK (Nat.zero_le _) x (hKK x hx)) fun j hj => absurd hj (Nat.not_lt_zero j)
    have hgl1 := s1.lst hgl
    refine ⟨_, rfl, gl, rfl, ⟨_, sqd hgl1⟩, fun D hD => ?_⟩
    have hDP : D ≠ Pt := TabG.ne0 (s1.tb hT) hD
    refine dc_it (walk_list (K := K) (a := gl) (xs := gp.map V.int)) (fun (i : Nat) (H' : Hp) => Sm Pt H1 H' ∧ H' D = some (.dK (encE (gp.take i) fun x => (rdE A0 cs s d G Lp x : Nat)))) ?_ ?_ ?_ ?_
    · exact ⟨.of (same_new hD _), upd_same⟩
    · rintro i H' _ ⟨s2, _⟩
      exact sqd (s2.lst hgl1)
    · rintro i x H2 H3 hi ⟨s2, k2⟩ ⟨rfl, hx⟩
      obtain ⟨z, hz, rfl, hzm, hz1⟩ := inG hx
      refine ⟨rfl, yes_if ?_⟩
      refine ⟨_, rfl, _, Sum.inl z, rfl, k2, big' (by rw [encE_len, List.length_take]; omega), s2.put hD hDP, ?_⟩
      rw [upd_same]
      have := encE_put (e := fun x => (rdE A0 cs s d G Lp x : Nat)) (take_new hnd hz)
      rw [show ((rdE A0 cs s d G Lp z : Nat) : Int) = 0 by rw [hr0 z hzm]; rfl] at this
      rw [List.take_add_one, hz]
      exact congrArg (fun x => some (HO.dK x)) this
    · rintro H2 ⟨s2, k2⟩
      rw [List.length_map, List.take_length] at k2
      exact q gp D H2 (s1.trans s2) (s1.dom _ hD) k2 hnd fun x => Iff.rfl
  refine ifF (by rw [decide_eq_true hcol]; rfl) ?_
  have hgl1 := s1.lst hgl
  have hT1 := s1.tb hT
  have hhi0 : ∀ x ∈ gp, Vk (psO A0) (colF cs) s d G Lp 0 x ↔ (d < colF cs x ∨ Frc s (psO A0 x) (Out1 s)) := fun x hx => ⟨fun h => h.elim (fun h => by rw [hLm, hgL x hx] at h; cases h) fun h => h.2, fun h => .inr ⟨(hGm x).mpr hx, h⟩⟩
  -- the entries of the higher ones
  refine ⟨_, rfl, gl, rfl, ⟨_, sqd hgl1⟩, fun D hD => ?_⟩
  have hDP : D ≠ Pt := TabG.ne0 hT1 hD
  have hDH := s1.dom _ hD
  refine dc_it (walk_list (K := K) (a := gl) (xs := gp.map V.int)) (fun (i : Nat) (H' : Hp) => Sm Pt H1 H' ∧ H' D = some (.dK (encE ((gp.take i).filter (mB (Vk (psO A0) (colF cs) s d G Lp 0))) fun x => (rdE A0 cs s d G Lp x : Nat)))) ?_ ?_ ?_ ?_
  · exact ⟨.of (same_new hD _), upd_same⟩
  · rintro i H' _ ⟨s2, _⟩
    exact sqd (s2.lst hgl1)
  · rintro i x H2 H3 hi ⟨s2, k2⟩ ⟨rfl, hx⟩
    obtain ⟨z, hz, rfl, hzm, hz1⟩ := inG hx
    have s02 := s1.trans s2
    obtain ⟨os, u, ho, hom, hps, hat, hpos⟩ := at_ s02 hzm
    have hPG := hAG.2 os hom
    have hV0 := hhi0 z hzm
    have hlen : ((gp.take i).filter (mB (Vk (psO A0) (colF cs) s d G Lp 0))).length ≤ 500 := by
      have h1 := List.length_filter_le (mB (Vk (psO A0) (colF cs) s d G Lp 0)) (gp.take i)
      rw [List.length_take] at h1
      omega
    have yes : Vk (psO A0) (colF cs) s d G Lp 0 z → ∀ H', Sm Pt H1 H' → H' D = some (.dK (encE ((gp.take i).filter (mB (Vk (psO A0) (colF cs) s d G Lp 0))) fun x => (rdE A0 cs s d G Lp x : Nat))) → Sm Pt H1 (upd H' D (.dK (putK (encE ((gp.take i).filter (mB (Vk (psO A0) (colF cs) s d G Lp 0))) fun x => (rdE A0 cs s d G Lp x : Nat)) (Sum.inl z) (V.int 0)))) ∧ upd H' D (.dK (putK (encE ((gp.take i).filter (mB (Vk (psO A0) (colF cs) s d G Lp 0))) fun x => (rdE A0 cs s d G Lp x : Nat)) (Sum.inl z) (V.int 0))) D = some (.dK (encE ((gp.take (i + 1)).filter (mB (Vk (psO A0) (colF cs) s d G Lp 0))) fun x => (rdE A0 cs s d G Lp x : Nat))) := fun hv H' s3 k3 => by
      refine ⟨s3.put hD hDP, ?_⟩
      have hr0 : rdE A0 cs s d G Lp z = 0 := fstK_eq (.inl hv) fun j hj => absurd hj (Nat.not_lt_zero j)
      have := encE_put (e := fun x => (rdE A0 cs s d G Lp x : Nat)) (l := (gp.take i).filter (mB (Vk (psO A0) (colF cs) s d G Lp 0))) (x := z) fun h => take_new hnd hz (List.mem_filter.mp h).1
      rw [show ((rdE A0 cs s d G Lp z : Nat) : Int) = 0 by rw [hr0]; rfl] at this
      rw [upd_same, List.take_add_one, hz, List.filter_append, Option.toList_some, List.filter_cons, if_pos (mB_t.mpr hv), List.filter_nil]
      exact congrArg (fun x => some (HO.dK x)) this
    have no : ¬ Vk (psO A0) (colF cs) s d G Lp 0 z → ∀ H', Sm Pt H1 H' → H' D = some (.dK (encE ((gp.take i).filter (mB (Vk (psO A0) (colF cs) s d G Lp 0))) fun x => (rdE A0 cs s d G Lp x : Nat))) → Sm Pt H1 H' ∧ H' D = some (.dK (encE ((gp.take (i + 1)).filter (mB (Vk (psO A0) (colF cs) s d G Lp 0))) fun x => (rdE A0 cs s d G Lp x : Nat))) := fun hv H' s3 k3 => by
      refine ⟨s3, ?_⟩
      rw [List.take_add_one, hz, List.filter_append, Option.toList_some, List.filter_cons, if_neg (by rw [mB_f.mpr hv]; exact Bool.false_ne_true), List.filter_nil, List.append_nil]
      exact k3
    refine ⟨rfl, ?_⟩
    refine ⟨_, rfl, _, rfl, cp, _, _, _, rfl, rfl, sqt (s02.tup hcp), colF_at (fun c hc => (hc0 c hc).1) hz1.1 (by omega), _, rfl, _, _, rfl, rfl, _, rfl, ?_⟩
    by_cases hdc : d < colF cs z
    · refine ifT (decide_eq_true (by omega)) ?_
      refine iteT ⟨_, rfl, _, Sum.inl z, rfl, k2, big' (by rw [encE_len]; omega), ?_⟩
      exact yes (hV0.mpr (.inl hdc)) _ s2 k2
    · refine ifF (decide_eq_false (by omega)) ?_
      refine ⟨_, rfl, _, rfl, b0, _, _, _, rfl, rfl, sqt (s02.tup hb0), hat, u, os, rfl, hpos, fun o ho => ⟨(hPG.2 o ho).ne, fun p hp => ((hPG.2 o ho).mem p hp).1, (hPG.2 o ho).asc⟩, by have := hPG.1; omega, fun H4 s4 => ⟨_, rfl, ?_⟩⟩
      have he := hend z hzm
      rw [hps] at he
      have s24 : Sm Pt H1 H4 := s2.trans (.of s4)
      by_cases hf : Frc s os (Out1 s)
      · refine ifT (decide_eq_true (he.mpr hf)) ?_
        refine ⟨_, rfl, _, Sum.inl z, rfl, s4 _ _ k2, big' (by rw [encE_len]; omega), ?_⟩
        exact yes (hV0.mpr (.inr (by rw [hps]; exact hf))) _ s24 (s4 _ _ k2)
      · refine ifF (decide_eq_false fun h => hf (he.mp h)) ?_
        exact no (fun h => (hV0.mp h).elim hdc fun h => hf (by rw [← hps]; exact h)) _ s24 (s4 _ _ k2)
  rintro H2 ⟨s2, k2⟩
  rw [List.length_map, List.take_length] at k2
  have s02 := s1.trans s2
  have hT2 := s02.tb hT
  -- the marks
  have hll2 := s02.lst hll
  refine ⟨_, rfl, ll, _, rfl, .inl (sqd hll2), fun ml hml => ?_⟩
  obtain ⟨H3, e3, s3, k3⟩ := newH hml (.lst ((bsO n L).map V.bl))
  rw [e3]
  have hmP : ml ≠ Pt := TabG.ne0 hT2 hml
  have hmH : H ml = none := s02.dom _ hml
  have hDm : D ≠ ml := ne_of_none k2 hml
  have kD3 := s3 _ _ k2
  have s03 : Sm Pt H H3 := s02.trans (.of s3)
  refine ⟨D, _, kD3, trivial, fun od => ?_⟩
  refine ⟨_, rfl, D, od, rfl, .inl ⟨_, upd_same, ?_⟩⟩
  generalize hl0 : gp.filter (mB (Vk (psO A0) (colF cs) s d G Lp 0)) = l0 at *
  have hl0m : ∀ x, x ∈ l0 ↔ x ∈ gp ∧ Vk (psO A0) (colF cs) s d G Lp 0 x := fun x => by rw [← hl0, List.mem_filter, mB_t]
  have hl0n : l0.Nodup := by rw [← hl0]; exact hnd.filter _
  refine for_it (walk_keys (d := D) (o := od) (kvs := encE l0 fun x => (rdE A0 cs s d G Lp x : Nat))) (fun (i : Nat) (σ : L2.St) (H' : Hp) => ∃ y6 y9 y10 y11 : Option V, σ = [some (.ref b0), some (.ref cp), some (.int (sI s)), some (.int (d : Nat)), some (.ref gl), some (.ref ll), y6, some (.ref D), some (.ref ml), y9, y10, y11] ∧ F2 D ml Pt H3 H' ∧ H' D = some (.frz od (.dK (encE l0 fun x => (rdE A0 cs s d G Lp x : Nat)))) ∧ H' ml = some (.lst ((bsO n fun x => L x || decide (x ∈ l0.take i)).map V.bl))) ?_ ?_ ?_ ?_
  · refine ⟨_, _, _, _, rfl, F2.put (.inl rfl) (by rw [kD3]; exact fun h => nomatch h) hDP, upd_same, ?_⟩
    rw [upd_ne hDm.symm, k3]
    simp
  · rintro i σ H' _ ⟨y6, y9, y10, y11, rfl, _, e1, _⟩
    exact e1
  · rintro i x σ H4 H5 hi ⟨y6, y9, y10, y11, rfl, f4, kD4, km4⟩ ⟨rfl, key, u, hku, rfl⟩
    obtain ⟨z, hz, ez⟩ : ∃ z, l0[i]? = some z ∧ key = Sum.inl z := by
      unfold encE at hku
      rw [List.getElem?_map] at hku
      obtain ⟨z, hz, e⟩ := Option.map_eq_some_iff.mp hku
      exact ⟨z, hz, (congrArg Prod.fst e).symm⟩
    subst ez
    have hzr := hgr z ((hl0m z).mp (List.mem_of_getElem? hz)).1
    refine ⟨_, rfl, _, rfl, ml, _, _, _, rfl, rfl, km4, ixN_in (by omega) (by rw [List.length_map, bsO_len]; omega), ?_⟩
    refine ⟨_, _, _, _, rfl, f4.trans (F2.put (.inr rfl) (by rw [km4]; exact fun h => nomatch h) hmP), by rw [upd_ne hDm]; exact kD4, ?_⟩
    rw [upd_same, ← List.map_set, bsO_set hzr.1 hzr.2]
    congr 3
    refine bsO_ext fun x _ _ => ?_
    rw [Bool.or_assoc]
    congr 1
    rw [← Bool.decide_or]
    exact decide_eq_decide.mpr (foldK_take hz x).symm
  rintro σ H4 ⟨y6, y9, y10, y11, rfl, f4, kD4, km4⟩
  refine ⟨kD4, ?_⟩
  have f5 : F2 D ml Pt H3 (upd H4 D (.dK (encE l0 fun x => (rdE A0 cs s d G Lp x : Nat)))) := f4.trans (F2.put (.inl rfl) (by rw [kD4]; exact fun h => nomatch h) hDP)
  have km5 : upd H4 D (.dK (encE l0 fun x => (rdE A0 cs s d G Lp x : Nat))) ml = some (.lst ((bsO n (mB (Vk (psO A0) (colF cs) s d G Lp 0))).map V.bl)) := by
    rw [upd_ne hDm.symm, km4, encE_len, List.take_length]
    congr 3
    refine bsO_ext fun x h0 h1 => ?_
    refine Bool.eq_iff_iff.mpr ?_
    rw [Bool.or_eq_true, mB_t, decide_eq_true_eq, hl0m, ← hLm]
    constructor
    · rintro (h | h)
      · exact .inl h
      · exact h.2
    · rintro (h | h)
      · exact .inl h
      · exact .inr ⟨(hGm x).mp h.1, .inr h⟩
  have kD5 : upd H4 D (.dK (encE l0 fun x => (rdE A0 cs s d G Lp x : Nat))) D = some (.dK (encE l0 fun x => (rdE A0 cs s d G Lp x : Nat))) := upd_same
  have s05 : Sm Pt H (upd H4 D (.dK (encE l0 fun x => (rdE A0 cs s d G Lp x : Nat)))) := f5.close hDH hmH s03
  generalize hH5 : upd H4 D (.dK (encE l0 fun x => (rdE A0 cs s d G Lp x : Nat))) = H5 at *
  clear f4 kD4 km4 f5 hH5
  -- round by round
  refine ⟨fun m σ H' => ∃ (k : Nat) (l : List Int) (y6 y10 y11 : Option V), σ = [some (.ref b0), some (.ref cp), some (.int (sI s)), some (.int (d : Nat)), some (.ref gl), some (.ref ll), y6, some (.ref D), some (.ref ml), some (.int (k : Nat)), y10, y11] ∧ Sm Pt H H' ∧ H' D = some (.dK (encE l fun x => (rdE A0 cs s d G Lp x : Nat))) ∧ H' ml = some (.lst ((bsO n (mB (Vk (psO A0) (colF cs) s d G Lp k))).map V.bl)) ∧ l.Nodup ∧ (∀ x, x ∈ l ↔ x ∈ gp ∧ Vk (psO A0) (colF cs) s d G Lp k x) ∧ m = KK + 2 - k, ⟨_, 0, l0, _, _, _, rfl, s05, kD5, km5, hl0n, hl0m, rfl⟩, ?_⟩
  rintro m σ H6 ⟨k, l, y6, y10, y11, rfl, s6, kD6, km6, hln, hlm, hmm⟩
  have hlp : l.Perm (gp.filter (mB (Vk (psO A0) (colF cs) s d G Lp k))) := (List.perm_ext_iff_of_nodup hln (hnd.filter _)).mpr fun x => by rw [hlm, List.mem_filter, mB_t]
  have hll6 := hlp.length_eq
  have hfl := List.length_filter_le (mB (Vk (psO A0) (colF cs) s d G Lp k)) gp
  have hgl6 := s6.lst hgl
  refine ⟨_, rfl, D, _, rfl, kD6, _, rfl, gl, _, rfl, .inl (sqd hgl6), _, _, rfl, rfl, _, rfl, ?_⟩
  rw [encE_len, List.length_map]
  by_cases hall : ∀ x ∈ gp, Vk (psO A0) (colF cs) s d G Lp k x
  · have : (gp.filter (mB (Vk (psO A0) (colF cs) s d G Lp k))).length = gp.length := List.length_filter_eq_length_iff.mpr fun x hx => mB_t.mpr (hall x hx)
    refine ifF (decide_eq_false (by omega)) ?_
    exact ⟨_, rfl, q l D H6 s6 hDH kD6 hln fun x => ⟨fun h => ((hlm x).mp h).1, fun h => (hlm x).mpr ⟨h, hall x h⟩⟩⟩
  have hlt : l.length < gp.length := by
    rcases Nat.lt_or_ge l.length gp.length with z | z
    · exact z
    · refine absurd (fun x hx => mB_t.mp (List.length_filter_eq_length_iff.mp (show (gp.filter (mB (Vk (psO A0) (colF cs) s d G Lp k))).length = gp.length by omega) x hx)) hall
  have hkK : k ≤ KK := by
    rcases Nat.lt_or_ge KK k with z | z
    · exact absurd (fun x hx => Vk_le (Wk_V (hKK x hx)) z) hall
    · exact z
  refine ifT (decide_eq_true (by omega)) ?_
  refine ⟨fun σ H' => ∃ (l' : List Int) (y6 y10 y11 : Option V), σ = [some (.ref b0), some (.ref cp), some (.int (sI s)), some (.int (d : Nat)), some (.ref gl), some (.ref ll), y6, some (.ref D), some (.ref ml), some (.int ((k + 1 : Nat) : Int)), y10, y11] ∧ Sm Pt H H' ∧ H' D = some (.dK (encE l' fun x => (rdE A0 cs s d G Lp x : Nat))) ∧ H' ml = some (.lst ((bsO n (mB (Vk (psO A0) (colF cs) s d G Lp (k + 1)))).map V.bl)) ∧ l'.Nodup ∧ (∀ x, x ∈ l' ↔ x ∈ gp ∧ Vk (psO A0) (colF cs) s d G Lp (k + 1) x), ?_, ?_⟩
  · rintro σ' H' ⟨l', y6, y10, y11, rfl, t1, t2, t3, t4, t5⟩
    exact ⟨_, by omega, k + 1, l', y6, y10, y11, rfl, t1, t2, t3, t4, t5, rfl⟩
  have hT6 := s6.tb hT
  have hVr : ∀ x, Vk (psO A0) (colF cs) s d G Lp k x → True := fun _ _ => trivial
  -- the open ones
  refine ⟨_, rfl, gl, rfl, ⟨_, sqd hgl6⟩, fun al hal => ?_⟩
  have halP : al ≠ Pt := TabG.ne0 hT6 hal
  have hDal : D ≠ al := ne_of_none kD6 hal
  have hmal : ml ≠ al := ne_of_none km6 hal
  generalize htO : (fun x => decide (colF cs x < d) && !mB (Vk (psO A0) (colF cs) s d G Lp k) x : Int → Bool) = tO
  refine lc_list (K := K) (a := gl) (xs := gp.map V.int) (fun (i : Nat) (H' : Hp) => Sm Pt H6 H' ∧ H' al = some (.lst (((gp.take i).filter tO).map V.int))) ?_ ?_ ?_ ?_
  · exact ⟨.of (same_new hal _), upd_same⟩
  · rintro i H' _ ⟨s7, _⟩
    exact sqd (s7.lst hgl6)
  · rintro i x H7 hi ⟨s7, k7⟩
    obtain ⟨z, hz, rfl, hzm, hz1⟩ := inG hi
    have hlen : ((gp.take i).filter tO).length ≤ 500 := by
      have h1 := List.length_filter_le tO (gp.take i)
      rw [List.length_take] at h1
      omega
    have hnext : (gp.take (i + 1)).filter tO = (gp.take i).filter tO ++ (if tO z = true then [z] else []) := by
      rw [List.take_add_one, hz, List.filter_append]
      congr 1
      rw [Option.toList_some, List.filter_cons]
      cases tO z <;> rfl
    refine ⟨rfl, ?_⟩
    refine ⟨_, rfl, _, rfl, cp, _, _, _, rfl, rfl, sqt ((s6.trans s7).tup hcp), colF_at (fun c hc => (hc0 c hc).1) hz1.1 (by omega), _, rfl, _, _, rfl, rfl, _, rfl, ?_⟩
    by_cases hdc : colF cs z < d
    · refine ifT (decide_eq_true (by omega)) ?_
      refine ⟨_, rfl, _, rfl, ml, _, _, _, rfl, rfl, sqd (s7.lst km6), bsO_V (by omega) hz1.2, _, rfl, ?_⟩
      cases hm : mB (Vk (psO A0) (colF cs) s d G Lp k) z with
      | true =>
        refine ifF rfl ⟨s7, ?_⟩
        rw [hnext, show tO z = false by rw [← htO]; simp [hm], if_neg Bool.false_ne_true, List.append_nil]
        exact k7
      | false =>
        refine ifT rfl ⟨_, rfl, _, k7, big' (by rw [List.length_map]; omega), s7.put hal halP, ?_⟩
        rw [upd_same, hnext, show tO z = true by rw [← htO]; simp [hm, hdc], if_pos rfl, List.map_append]
        rfl
    · refine ifF (decide_eq_false (by omega)) (iteF ⟨s7, ?_⟩)
      rw [hnext, show tO z = false by rw [← htO]; simp [hdc], if_neg Bool.false_ne_true, List.append_nil]
      exact k7
  rintro H7 ⟨s7, k7⟩
  rw [List.length_map, List.take_length] at k7
  have s07 := s6.trans s7
  have hamm : ∀ x, x ∈ gp.filter tO ↔ G x ∧ colF cs x < d ∧ mB (Vk (psO A0) (colF cs) s d G Lp k) x = false := fun x => by
    rw [List.mem_filter, hGm, ← htO]
    simp
  have hVe : (fun x => mB (Vk (psO A0) (colF cs) s d G Lp k) x = true) = Vk (psO A0) (colF cs) s d G Lp k := funext fun x => propext mB_t
  -- those that are won
  refine ⟨_, rfl, _, rfl, _, rfl, _, rfl, _, rfl, .ref b0, A0, cp, al, ml, cs, s, gp.filter tO, mB (Vk (psO A0) (colF cs) s d G Lp k), d, G, rfl, hA.tp s07.tp, by omega, by rw [hnn]; exact hin, s07.tup hcp, by omega, hc0, s07.tb hT, k7, (by have h1 := List.length_filter_le tO gp; omega), (by rw [hnn]; exact s7.lst km6), hamm, (fun x hx => by rw [hnn]; exact hGr x hx), fun t wl H8 s8 hwl kwl ht => ?_⟩
  rw [hVe] at ht
  generalize hws : (gp.filter tO).filter t = ws at *
  have hwm : ∀ x, x ∈ ws ↔ x ∈ gp ∧ ¬ Vk (psO A0) (colF cs) s d G Lp k x ∧ Wn (psO A0) (colF cs) d s (oV (colF cs) s d G (Vk (psO A0) (colF cs) s d G Lp k)) x := fun x => by
    rw [← hws, List.mem_filter]
    constructor
    · rintro ⟨h1, h2⟩
      obtain ⟨g1, g2, g3⟩ := (hamm x).mp h1
      exact ⟨(hGm x).mp g1, mB_f.mp g3, (ht x h1).mp h2⟩
    · rintro ⟨h1, h2, h3⟩
      have h4 := (hamm x).mpr ⟨(hGm x).mpr h1, (oV_none.mp h3.open_).2.2, mB_f.mpr h2⟩
      exact ⟨h4, (ht x h4).mpr h3⟩
  have hwn : ws.Nodup := by rw [← hws]; exact (hnd.filter _).filter _
  have hwr : ∀ x ∈ ws, rdE A0 cs s d G Lp x = k := fun x hx => by
    obtain ⟨_, h2, h3⟩ := (hwm x).mp hx
    exact fstK_eq (.inr h3) fun j hj h => h2 (Vk_le (Wk_V h) hj)
  have hwl' : ∀ x ∈ ws, x ∉ l := fun x hx h => ((hwm x).mp hx).2.1 ((hlm x).mp h).2
  have hwlen : ws.length ≤ 500 := by
    have h1 := List.length_filter_le t (gp.filter tO)
    have h2 := List.length_filter_le tO gp
    rw [hws] at h1
    omega
  have s68 : Sm Pt H6 H8 := s7.trans s8
  have s08 := s6.trans s68
  have hT8 := s08.tb hT
  have kD8 := s68.dK kD6
  have km8 := s68.lst km6
  refine ⟨wl, rfl, ⟨_, sqd kwl⟩, ?_⟩
  have hwD : wl ≠ D := (ne_of_none (s7.dK kD6) hwl).symm
  have hwml : wl ≠ ml := (ne_of_none (s7.lst km6) hwl).symm
  refine for_list (K := K) (a := wl) (xs := ws.map V.int) (fun (i : Nat) (σ : L2.St) (H' : Hp) => ∃ y6 y11 : Option V, σ = [some (.ref b0), some (.ref cp), some (.int (sI s)), some (.int (d : Nat)), some (.ref gl), some (.ref ll), y6, some (.ref D), some (.ref ml), some (.int (k : Nat)), some (.ref al), y11] ∧ F2 D ml Pt H8 H' ∧ H' D = some (.dK (encE (l ++ ws.take i) fun x => (rdE A0 cs s d G Lp x : Nat))) ∧ H' ml = some (.lst ((bsO n fun x => mB (Vk (psO A0) (colF cs) s d G Lp k) x || decide (x ∈ ws.take i)).map V.bl))) ?_ ?_ ?_ ?_
  · refine ⟨_, _, rfl, F2.refl, by rw [List.take_zero, List.append_nil]; exact kD8, ?_⟩
    rw [km8]
    simp
  · rintro i σ H' _ ⟨y6, y11, rfl, f9, _⟩
    exact sqd (f9.fr wl _ trivial hwD hwml kwl)
  · rintro i x σ H9 hi ⟨y6, y11, rfl, f9, kD9, km9⟩
    rw [List.getElem?_map] at hi
    obtain ⟨z, hz, rfl⟩ := Option.map_eq_some_iff.mp hi
    have hzw := List.mem_of_getElem? hz
    have hzr := hgr z ((hwm z).mp hzw).1
    refine ⟨_, rfl, _, rfl, _, rfl, D, _, rfl, DPut.k (k := Sum.inl z) kD9 (big' (by rw [encE_len, List.length_append, List.length_take]; omega)), ?_⟩
    refine ⟨_, rfl, _, rfl, ml, _, _, _, rfl, rfl, by rw [upd_ne hDm.symm]; exact km9, ixN_in (by omega) (by rw [List.length_map, bsO_len]; omega), ?_⟩
    have hput := encE_put (e := fun x => (rdE A0 cs s d G Lp x : Nat)) (l := l ++ ws.take i) (x := z) fun h => (List.mem_append.mp h).elim (hwl' z hzw) (take_new hwn hz)
    rw [show ((rdE A0 cs s d G Lp z : Nat) : Int) = (k : Nat) by rw [hwr z hzw]] at hput
    have fD : F2 D ml Pt H8 (upd H9 D (.dK (putK (encE (l ++ ws.take i) fun x => (rdE A0 cs s d G Lp x : Nat)) (Sum.inl z) (.int (k : Nat))))) := f9.trans (F2.put (.inl rfl) (by rw [kD9]; exact fun h => nomatch h) hDP)
    refine ⟨_, _, rfl, fD.trans (F2.put (.inr rfl) (by rw [upd_ne hDm.symm, km9]; exact fun h => nomatch h) hmP), ?_, ?_⟩
    · rw [upd_ne hDm, upd_same, List.take_add_one, hz, Option.toList_some, ← List.append_assoc]
      exact congrArg (fun x => some (HO.dK x)) hput
    · rw [upd_same, ← List.map_set, bsO_set hzr.1 hzr.2]
      congr 3
      refine bsO_ext fun x _ _ => ?_
      rw [Bool.or_assoc]
      congr 1
      rw [← Bool.decide_or]
      exact decide_eq_decide.mpr (foldK_take hz x).symm
  rintro σ H9 ⟨y6', y11', rfl, f9, kD9, km9⟩
  rw [List.length_map, List.take_length] at kD9 km9
  have km9' : H9 ml = some (.lst ((bsO n (mB (Wk (psO A0) (colF cs) s d G Lp k))).map V.bl)) := by
    rw [km9]
    congr 3
    refine bsO_ext fun x h0 h1 => ?_
    refine Bool.eq_iff_iff.mpr ?_
    rw [Bool.or_eq_true, mB_t, mB_t, decide_eq_true_eq, hwm]
    constructor
    · rintro (h | h)
      · exact .inl h
      · exact .inr h.2.2
    · intro h
      by_cases hv : Vk (psO A0) (colF cs) s d G Lp k x
      · exact .inl hv
      · have hw := h.resolve_left hv
        exact .inr ⟨(hGm x).mp (oV_none.mp hw.open_).2.1, hv, hw⟩
  have s09 : Sm Pt H H9 := f9.close hDH hmH s08
  have hT9 := s09.tb hT
  have hgl9 := s09.lst hgl
  refine ⟨_, rfl, _, _, rfl, rfl, ?_⟩
  -- those that pass the colour
  refine ⟨_, rfl, gl, rfl, ⟨_, sqd hgl9⟩, fun pl hpl => ?_⟩
  have hplP : pl ≠ Pt := TabG.ne0 hT9 hpl
  have hDpl : D ≠ pl := ne_of_none kD9 hpl
  have hmpl : ml ≠ pl := ne_of_none km9 hpl
  generalize htP : (fun x => !mB (Wk (psO A0) (colF cs) s d G Lp k) x && frcM (sI s) (psO A0 x) (mB (Wk (psO A0) (colF cs) s d G Lp k)) : Int → Bool) = tP
  refine lc_list (K := K) (a := gl) (xs := gp.map V.int) (fun (i : Nat) (H' : Hp) => Sm Pt H9 H' ∧ H' pl = some (.lst (((gp.take i).filter tP).map V.int))) ?_ ?_ ?_ ?_
  · exact ⟨.of (same_new hpl _), upd_same⟩
  · rintro i H' _ ⟨s10, _⟩
    exact sqd (s10.lst hgl9)
  · rintro i x H10 hi ⟨s10, k10⟩
    obtain ⟨z, hz, rfl, hzm, hz1⟩ := inG hi
    have s010 := s09.trans s10
    obtain ⟨os, u, ho, hom, hps, hat, hpos⟩ := at_ s010 hzm
    have hlen : ((gp.take i).filter tP).length ≤ 500 := by
      have h1 := List.length_filter_le tP (gp.take i)
      rw [List.length_take] at h1
      omega
    have hnext : (gp.take (i + 1)).filter tP = (gp.take i).filter tP ++ (if tP z = true then [z] else []) := by
      rw [List.take_add_one, hz, List.filter_append]
      congr 1
      rw [Option.toList_some, List.filter_cons]
      cases tP z <;> rfl
    have hios := hin os hom
    refine ⟨rfl, ?_⟩
    refine ⟨_, rfl, _, rfl, ml, _, _, _, rfl, rfl, sqd (s10.lst km9'), bsO_V (by omega) hz1.2, _, rfl, ?_⟩
    cases hm : mB (Wk (psO A0) (colF cs) s d G Lp k) z with
    | true =>
      refine ifF rfl (iteF ⟨s10, ?_⟩)
      rw [hnext, show tP z = false by rw [← htP]; simp [hm], if_neg Bool.false_ne_true, List.append_nil]
      exact k10
    | false =>
      refine ifT rfl ?_
      refine ⟨_, rfl, _, rfl, _, rfl, b0, _, _, _, rfl, rfl, sqt (s010.tup hb0), hat, _, rfl, sI s, u, ml, os, bsO n (mB (Wk (psO A0) (colF cs) s d G Lp k)), rfl, hpos, s10.lst km9', s010.tb hT, fun o ho2 i hi => ?_, fun H11 s11 => ⟨_, rfl, ?_⟩⟩
      · rw [bsO_at (hios o ho2 i hi).1 (hios o ho2 i hi).2]
        rfl
      · rw [frcF_bsO hios]
        have htp : tP z = frcM (sI s) os (mB (Wk (psO A0) (colF cs) s d G Lp k)) := by rw [← htP]; simp [hm, hps]
        cases hfr : frcM (sI s) os (mB (Wk (psO A0) (colF cs) s d G Lp k)) with
        | false =>
          refine iteF ⟨s10.trans s11, ?_⟩
          rw [hnext, htp, hfr, if_neg Bool.false_ne_true, List.append_nil]
          exact s11.lst k10
        | true =>
          refine iteT ⟨_, rfl, _, s11.lst k10, big' (by rw [List.length_map]; omega), (s10.trans s11).put hpl hplP, ?_⟩
          rw [upd_same, hnext, htp, hfr, if_pos rfl, List.map_append]
          rfl
  rintro H10 ⟨s10, k10⟩
  rw [List.length_map, List.take_length] at k10
  generalize hps : gp.filter tP = ps at *
  have hpm : ∀ x, x ∈ ps ↔ x ∈ gp ∧ ¬ Wk (psO A0) (colF cs) s d G Lp k x ∧ Frc s (psO A0 x) (Wk (psO A0) (colF cs) s d G Lp k) := fun x => by
    rw [← hps, List.mem_filter, ← htP]
    show x ∈ gp ∧ (!mB _ x && frcM (sI s) (psO A0 x) (mB _)) = true ↔ _
    rw [Bool.and_eq_true, frcM_Frc, Bool.not_eq_true', mB_f]
    constructor
    · rintro ⟨h1, h2, h3⟩
      exact ⟨h1, h2, h3.imp fun y hy => mB_t.mp hy⟩
    · rintro ⟨h1, h2, h3⟩
      exact ⟨h1, h2, h3.imp fun y hy => mB_t.mpr hy⟩
  have hpn : ps.Nodup := by rw [← hps]; exact hnd.filter _
  have hpr : ∀ x ∈ ps, rdE A0 cs s d G Lp x = k + 1 := fun x hx => by
    obtain ⟨h1, h2, h3⟩ := (hpm x).mp hx
    exact fstK_eq (.inl (.inr ⟨(hGm x).mpr h1, h3⟩)) fun j hj h => h2 (Wk_le h (by omega))
  have hpl' : ∀ x ∈ ps, x ∉ l ++ ws := fun x hx h => by
    have h2 := ((hpm x).mp hx).2.1
    rcases List.mem_append.mp h with h | h
    · exact h2 (.inl ((hlm x).mp h).2)
    · exact h2 (.inr ((hwm x).mp h).2.2)
  have hplen : ps.length ≤ 500 := by
    have h2 := List.length_filter_le tP gp
    rw [hps] at h2
    omega
  have kD10 := s10.dK kD9
  have km10 := s10.lst km9'
  refine ⟨_, rfl, pl, rfl, ⟨_, sqd k10⟩, ?_⟩
  refine for_list (K := K) (a := pl) (xs := ps.map V.int) (fun (i : Nat) (σ : L2.St) (H' : Hp) => ∃ y6 : Option V, σ = [some (.ref b0), some (.ref cp), some (.int (sI s)), some (.int (d : Nat)), some (.ref gl), some (.ref ll), y6, some (.ref D), some (.ref ml), some (.int (((k : Nat) : Int) + 1)), some (.ref al), some (.ref pl)] ∧ F2 D ml Pt H10 H' ∧ H' D = some (.dK (encE (l ++ ws ++ ps.take i) fun x => (rdE A0 cs s d G Lp x : Nat))) ∧ H' ml = some (.lst ((bsO n fun x => mB (Wk (psO A0) (colF cs) s d G Lp k) x || decide (x ∈ ps.take i)).map V.bl))) ?_ ?_ ?_ ?_
  · refine ⟨_, rfl, F2.refl, by rw [List.take_zero, List.append_nil]; exact kD10, ?_⟩
    rw [km10]
    simp
  · rintro i σ H' _ ⟨y6, rfl, f11, _⟩
    exact sqd (f11.fr pl _ trivial hDpl.symm hmpl.symm k10)
  · rintro i x σ H11 hi ⟨y6, rfl, f11, kD11, km11⟩
    rw [List.getElem?_map] at hi
    obtain ⟨z, hz, rfl⟩ := Option.map_eq_some_iff.mp hi
    have hzp := List.mem_of_getElem? hz
    have hzr := hgr z ((hpm z).mp hzp).1
    refine ⟨_, rfl, _, rfl, _, rfl, D, _, rfl, DPut.k (k := Sum.inl z) kD11 (big' (by rw [encE_len, List.length_append, List.length_append, List.length_take]; omega)), ?_⟩
    refine ⟨_, rfl, _, rfl, ml, _, _, _, rfl, rfl, by rw [upd_ne hDm.symm]; exact km11, ixN_in (by omega) (by rw [List.length_map, bsO_len]; omega), ?_⟩
    have hput := encE_put (e := fun x => (rdE A0 cs s d G Lp x : Nat)) (l := l ++ ws ++ ps.take i) (x := z) fun h => (List.mem_append.mp h).elim (hpl' z hzp) (take_new hpn hz)
    rw [show ((rdE A0 cs s d G Lp z : Nat) : Int) = ((k : Nat) : Int) + 1 by rw [hpr z hzp]; rfl] at hput
    have fD : F2 D ml Pt H10 (upd H11 D (.dK (putK (encE (l ++ ws ++ ps.take i) fun x => (rdE A0 cs s d G Lp x : Nat)) (Sum.inl z) (.int (((k : Nat) : Int) + 1))))) := f11.trans (F2.put (.inl rfl) (by rw [kD11]; exact fun h => nomatch h) hDP)
    refine ⟨_, rfl, fD.trans (F2.put (.inr rfl) (by rw [upd_ne hDm.symm, km11]; exact fun h => nomatch h) hmP), ?_, ?_⟩
    · rw [upd_ne hDm, upd_same, List.take_add_one, hz, Option.toList_some, ← List.append_assoc]
      exact congrArg (fun x => some (HO.dK x)) hput
    · rw [upd_same, ← List.map_set, bsO_set hzr.1 hzr.2]
      congr 3
      refine bsO_ext fun x _ _ => ?_
      rw [Bool.or_assoc]
      congr 1
      rw [← Bool.decide_or]
      exact decide_eq_decide.mpr (foldK_take hz x).symm
  rintro σ H11 ⟨y6'', rfl, f11, kD11, km11⟩
  rw [List.length_map, List.take_length] at kD11 km11
  refine ⟨l ++ ws ++ ps, _, _, _, rfl, f11.close hDH hmH (s09.trans s10), kD11, ?_, ?_, fun x => ?_⟩
  · rw [km11]
    congr 3
    refine bsO_ext fun x h0 h1 => ?_
    refine Bool.eq_iff_iff.mpr ?_
    rw [Bool.or_eq_true, mB_t, mB_t, decide_eq_true_eq, hpm]
    constructor
    · rintro (h | h)
      · exact .inl h
      · exact .inr ⟨(hGm x).mpr h.1, h.2.2⟩
    · rintro (h | h)
      · exact .inl h
      · by_cases hw : Wk (psO A0) (colF cs) s d G Lp k x
        · exact .inl hw
        · exact .inr ⟨(hGm x).mp h.1, hw, h.2⟩
  · refine List.nodup_append.mpr ⟨List.nodup_append.mpr ⟨hln, hwn, fun a ha b hb e => hwl' b hb (e ▸ ha)⟩, hpn, fun a ha b hb e => hpl' b hb (e ▸ ha)⟩
  · rw [List.mem_append, List.mem_append, hlm, hwm, hpm]
    constructor
    · rintro ((h | h) | h)
      · exact ⟨h.1, Vk_up h.2⟩
      · exact ⟨h.1, .inl (.inr h.2.2)⟩
      · exact ⟨h.1, .inr ⟨(hGm x).mpr h.1, h.2.2⟩⟩
    · rintro ⟨h1, h2⟩
      by_cases hv : Vk (psO A0) (colF cs) s d G Lp k x
      · exact .inl (.inl ⟨h1, hv⟩)
      · by_cases hw : Wk (psO A0) (colF cs) s d G Lp k x
        · exact .inl (.inr ⟨h1, hv, hw.resolve_left hv⟩)
        · exact .inr ⟨h1, hw, (h2.resolve_left hw).2⟩
end
end NL

set_option maxHeartbeats 4000000
namespace NL
open PySem PySem.Spec PyProof.Rows L2
/-! ### groups of positions, level by level -/
/-- the counted colours from t on, the first j of all colours looked at -/
def cdJ (t : Nat) (s : Bool) (j : Nat) : List Nat := ((List.range j).map fun i => t - i).filter fun c => decide (par c ≠ s)
theorem cdJ_s (t : Nat) (s : Bool) (j : Nat) : cdJ t s (j + 1) = cdJ t s j ++ (if par (t - j) ≠ s then [t - j] else []) := by
  unfold cdJ
  rw [List.range_succ, List.map_append, List.filter_append]
  congr 1
  show List.filter _ [t - j] = _
  rw [List.filter_cons]
  by_cases h : par (t - j) ≠ s
  · rw [if_pos h, if_pos (decide_eq_true h)]
    rfl
  · rw [if_neg h, if_neg (by rw [decide_eq_false h]; exact Bool.false_ne_true)]
    rfl
theorem cdJ_mem {t : Nat} {s : Bool} {j c : Nat} (h : c ∈ cdJ t s j) : ∃ i, i < j ∧ c = t - i ∧ par c ≠ s := by
  obtain ⟨h1, h2⟩ := List.mem_filter.mp h
  obtain ⟨i, hi, rfl⟩ := List.mem_map.mp h1
  exact ⟨i, List.mem_range.mp hi, rfl, of_decide_eq_true h2⟩
theorem cdJ_len (t : Nat) (s : Bool) (j : Nat) : (cdJ t s j).length ≤ j := by
  unfold cdJ
  have := List.length_filter_le (fun c => decide (par c ≠ s)) ((List.range j).map fun i => t - i)
  rw [List.length_map, List.length_range] at this
  exact this
/-- parts found so far -/
structure PartX (s : Bool) (d : Nat) (M : Int → Nat → Nat) (ps : List (List Int)) (S : Int → Prop) : Prop where
  mem : ∀ x, (∃ q ∈ ps, x ∈ q) ↔ S x
  nd : ∀ q ∈ ps, q.Nodup
  eq : ∀ q ∈ ps, ∀ x ∈ q, ∀ y ∈ q, Eqm s d (M x) (M y)
  lt : ps.Pairwise fun q q' => ∀ x ∈ q, ∀ y ∈ q', Gt s d (M y) (M x)
theorem PartX.nil {s : Bool} {d : Nat} {M : Int → Nat → Nat} : PartX s d M [] (fun _ => False) := ⟨fun x => ⟨fun ⟨q, h, _⟩ => (by cases h), fun h => h.elim⟩, fun q h => (by cases h), fun q h => (by cases h), List.Pairwise.nil⟩
theorem PartX.snoc {s : Bool} {d : Nat} {M : Int → Nat → Nat} {ps : List (List Int)} {S S' : Int → Prop} {q : List Int} (h : PartX s d M ps S) (hn : q.Nodup) (he : ∀ x ∈ q, ∀ y ∈ q, Eqm s d (M x) (M y)) (hl : ∀ x, S x → ∀ y ∈ q, Gt s d (M y) (M x)) (hS : ∀ x, S' x ↔ S x ∨ x ∈ q) : PartX s d M (ps ++ [q]) S' := by
  refine ⟨fun x => ?_, fun q' hq => ?_, fun q' hq => ?_, ?_⟩
  · rw [hS, ← h.mem]
    constructor
    · rintro ⟨q', h1, h2⟩
      rcases List.mem_append.mp h1 with h1 | h1
      · exact .inl ⟨q', h1, h2⟩
      · rw [List.mem_singleton.mp h1] at h2
        exact .inr h2
    · rintro (⟨q', h1, h2⟩ | h2)
      · exact ⟨q', List.mem_append_left _ h1, h2⟩
      · exact ⟨q, List.mem_append_right _ (List.mem_singleton.mpr rfl), h2⟩
  · rcases List.mem_append.mp hq with h1 | h1
    · exact h.nd q' h1
    · rw [List.mem_singleton.mp h1]
      exact hn
  · rcases List.mem_append.mp hq with h1 | h1
    · exact h.eq q' h1
    · rw [List.mem_singleton.mp h1]
      exact he
  · refine List.pairwise_append.mpr ⟨h.lt, List.pairwise_singleton _ _, fun a ha b hb x hx y hy => ?_⟩
    rw [List.mem_singleton.mp hb] at hy
    exact hl x ((h.mem x).mp ⟨a, ha, hx⟩) y hy
theorem PartX.to {s : Bool} {d : Nat} {M : Int → Nat → Nat} {ps : List (List Int)} {S S' : Int → Prop} (h : PartX s d M ps S) (hS : ∀ x, S x ↔ S' x) : PartX s d M ps S' := ⟨fun x => (h.mem x).trans (hS x), h.nd, h.eq, h.lt⟩
section
variable {A : Ar} {cs : List Int} {s : Bool} {R : Int → Prop} {t n : Nat}
/-- after the first j colours -/
structure Lev (A : Ar) (cs : List Int) (s : Bool) (R : Int → Prop) (t j : Nat) (M : Int → Nat → Nat) (gs : List (List Int)) : Prop where
  bd : ∃ KM, Bd (t + 1) KM M
  lo : ∀ x e, e + j < t + 1 → M x e = 0
  sp : ∀ d, t + 1 ≤ d + j → d < t + 1 → par d ≠ s → SpM (psO A) (colF cs) s R M d
  gr : PartX s (t + 1 - j) M gs R
theorem Lev.zero {ow : List Int} (hR : ∀ x, R x ↔ x ∈ ow) (hn : ow.Nodup) : Lev A cs s R t 0 (fun _ _ => 0) [ow] :=
  ⟨⟨0, fun _ _ => Nat.le_refl _, fun _ _ _ => rfl⟩, fun _ _ _ => rfl, fun d h1 h2 => by omega, ⟨fun x => ⟨fun ⟨q, h1, h2⟩ => by rw [List.mem_singleton.mp h1] at h2; exact (hR x).mpr h2, fun h => ⟨ow, List.mem_singleton.mpr rfl, (hR x).mp h⟩⟩, fun q h => by rw [List.mem_singleton.mp h]; exact hn,
    fun _ _ _ _ _ _ => Eqm.refl, List.pairwise_singleton _ _⟩⟩
theorem Lev.skip {j : Nat} {M : Int → Nat → Nat} {gs : List (List Int)} (h : Lev A cs s R t j M gs) (hj : j ≤ t) (hp : par (t - j) = s) : Lev A cs s R t (j + 1) M gs := by
  have e : t + 1 - j = t - j + 1 := by omega
  have e' : t + 1 - (j + 1) = t - j := by omega
  refine ⟨h.bd, fun x e he => h.lo x e (by omega), fun d h1 h2 h3 => ?_, ?_⟩
  · by_cases hd : t + 1 ≤ d + j
    · exact h.sp d hd h2 h3
    · have : d = t - j := by omega
      rw [this] at h3
      exact absurd hp h3
  · have g := h.gr
    rw [e] at g
    rw [e']
    refine ⟨g.mem, g.nd, fun q hq x hx y hy e he hq2 => ?_, g.lt.imp fun h x hx y hy => (h x hx y hy).low (Nat.le_succ _)⟩
    refine g.eq q hq x hx y hy e ?_ hq2
    rcases Nat.lt_or_ge (t - j) e with w | w
    · exact w
    · have : e = t - j := by omega
      rw [this] at hq2
      exact absurd hp hq2
/-- the entries of one colour more -/
noncomputable def upM (A : Ar) (cs : List Int) (s : Bool) (R : Int → Prop) (d : Nat) (M : Int → Nat → Nat) : Int → Nat → Nat := fun x e => open Classical in if e = d ∧ R x then rdE A cs s d (grp R s M d x) (lss R s M d x) x else M x e
theorem upM_ne {d e : Nat} {M : Int → Nat → Nat} {x : Int} (h : e ≠ d) : upM A cs s R d M x e = M x e := if_neg fun z => h z.1
theorem upM_at {d : Nat} {M : Int → Nat → Nat} {x : Int} (h : R x) : upM A cs s R d M x d = rdE A cs s d (grp R s M d x) (lss R s M d x) x := if_pos ⟨rfl, h⟩
theorem upM_hi {d : Nat} {M : Int → Nat → Nat} (x : Int) : ∀ e, d + 1 ≤ e → upM A cs s R d M x e = M x e := fun e he => upM_ne (by omega)
theorem grp_congr {d : Nat} {M M' : Int → Nat → Nat} (h : ∀ x e, d + 1 ≤ e → M' x e = M x e) (x : Int) : grp R s M' d x = grp R s M d x := funext fun y => propext ⟨fun g => ⟨g.1, g.2.congr (h y) (h x)⟩, fun g => ⟨g.1, g.2.congr (fun e he => (h y e he).symm) (fun e he => (h x e he).symm)⟩⟩
theorem lss_congr {d : Nat} {M M' : Int → Nat → Nat} (h : ∀ x e, d + 1 ≤ e → M' x e = M x e) (x : Int) : lss R s M' d x = lss R s M d x := funext fun y => propext ⟨fun g => g.elim .inl fun g => .inr ⟨g.1, g.2.congr (h x) (h y)⟩, fun g => g.elim .inl fun g => .inr ⟨g.1, g.2.congr (fun e he => (h x e he).symm) (fun e he => (h y e he).symm)⟩⟩
theorem sp_congr {d : Nat} {M M' : Int → Nat → Nat} (h : ∀ x e, d ≤ e → M' x e = M x e) (sp : SpM (psO A) (colF cs) s R M d) : SpM (psO A) (colF cs) s R M' d := fun x hx => by
  rw [grp_congr (fun x e he => h x e (by omega)), lss_congr (fun x e he => h x e (by omega)), h x d (Nat.le_refl d)]
  exact sp x hx
theorem Lev.next {j KK : Nat} {M : Int → Nat → Nat} {gs ps : List (List Int)} (hR : ∀ x, R x → 0 ≤ x ∧ x < (n : Int)) (h : Lev A cs s R t j M gs) (hj : j ≤ t) (hp : par (t - j) ≠ s) (hK : ∀ x, R x → Wk (psO A) (colF cs) s (t - j) (grp R s M (t - j) x) (lss R s M (t - j) x) KK x)
    (hq : PartX s (t - j) (upM A cs s R (t - j) M) ps R) : Lev A cs s R t (j + 1) (upM A cs s R (t - j) M) ps := by
  have e' : t + 1 - (j + 1) = t - j := by omega
  obtain ⟨KM, bM⟩ := h.bd
  obtain ⟨K2, hK2⟩ := fin_max (fun x => rdE A cs s (t - j) (grp R s M (t - j) x) (lss R s M (t - j) x) x) n
  refine ⟨⟨KM + K2, fun x e => ?_, fun x e he => ?_⟩, fun x e he => ?_, fun d h1 h2 h3 => ?_, by rw [e']; exact hq⟩
  · have := bM.1 x e
    unfold upM
    split
    · next hx =>
      have := hK2 x (hR x hx.2).1 (hR x hx.2).2
      omega
    · omega
  · rw [upM_ne (by omega)]
    exact bM.2 x e he
  · rw [upM_ne (by omega)]
    exact h.lo x e (by omega)
  · by_cases hd : t + 1 ≤ d + j
    · exact sp_congr (fun x e he => upM_ne (by omega)) (h.sp d hd h2 h3)
    · have : d = t - j := by omega
      subst this
      intro x hx
      rw [grp_congr upM_hi, lss_congr upM_hi, upM_at hx]
      exact fstK_is (Pk := fun k => Wk (psO A) (colF cs) s (t - j) (grp R s M (t - j) x) (lss R s M (t - j) x) k x) ⟨KK, hK x hx⟩
/-- a group is what is equal to one of it; what is less stands before -/
theorem part_grp {d : Nat} {M : Int → Nat → Nat} {gs : List (List Int)} (h : PartX s (d + 1) M gs R) {i : Nat} {g : List Int} (hg : gs[i]? = some g) {x : Int} (hx : x ∈ g) : grp R s M d x = (fun y => y ∈ g) ∧ lss R s M d x = fun y => Out1 s y ∨ ∃ (i' : Nat) (g' : List Int), i' < i ∧ gs[i']? = some g' ∧ y ∈ g' := by
  have hgm := List.mem_of_getElem? hg
  have hil := (List.getElem?_eq_some_iff.mp hg).1
  have pw := List.pairwise_iff_getElem.mp h.lt
  have find : ∀ y, R y → ∃ i' g', gs[i']? = some g' ∧ y ∈ g' := fun y hy => by
    obtain ⟨q, h1, h2⟩ := (h.mem y).mpr hy
    obtain ⟨i', hi'⟩ := List.getElem?_of_mem h1
    exact ⟨i', q, hi', h2⟩
  have ord : ∀ {i' : Nat} {g' : List Int}, gs[i']? = some g' → ∀ y ∈ g', (i' < i → Gt s (d + 1) (M x) (M y)) ∧ (i < i' → Gt s (d + 1) (M y) (M x)) := fun {i' g'} hg' y hy => by
    have hil' := (List.getElem?_eq_some_iff.mp hg').1
    have e1 := (List.getElem?_eq_some_iff.mp hg).2
    have e2 := (List.getElem?_eq_some_iff.mp hg').2
    exact ⟨fun hlt => pw i' i hil' hil hlt y (by rw [e2]; exact hy) x (by rw [e1]; exact hx), fun hlt => pw i i' hil hil' hlt x (by rw [e1]; exact hx) y (by rw [e2]; exact hy)⟩
  have same : ∀ {i' : Nat} {g' : List Int}, gs[i']? = some g' → ∀ y ∈ g', i' = i → y ∈ g := fun {i' g'} hg' y hy e => by
    subst e
    rw [hg] at hg'
    cases hg'
    exact hy
  constructor
  · refine funext fun y => propext ⟨fun hy => ?_, fun hy => ⟨(h.mem y).mp ⟨g, hgm, hy⟩, h.eq g hgm y hy x hx⟩⟩
    obtain ⟨i', g', hg', hy'⟩ := find y hy.1
    rcases Nat.lt_trichotomy i' i with z | z | z
    · exact (((ord hg' y hy').1 z).ge (.inr hy.2)).irr.elim
    · exact same hg' y hy' z
    · exact (((ord hg' y hy').2 z).ge (.inr hy.2.symm)).irr.elim
  · refine funext fun y => propext ⟨fun hy => hy.elim .inl fun hy => ?_, fun hy => hy.elim .inl fun ⟨i', g', h1, h2, h3⟩ => .inr ⟨(h.mem y).mp ⟨g', List.mem_of_getElem? h2, h3⟩, (ord h2 y h3).1 h1⟩⟩
    obtain ⟨i', g', hg', hy'⟩ := find y hy.1
    rcases Nat.lt_trichotomy i' i with z | z | z
    · exact .inr ⟨i', g', z, hg', hy'⟩
    · exact (hy.2.ge (.inr (h.eq g hgm y (same hg' y hy' z) x hx))).irr.elim
    · exact ((hy.2.trans ((ord hg' y hy').2 z))).irr.elim
end
/-! ### measures in a dict -/
/-- the measures: a tuple for each position -/
def encR (l : List Int) (ad : Int → Addr) : List (Key × V) := l.map fun x => ((Sum.inl x : Key), V.ref (ad x))
theorem encR_len (l : List Int) (ad : Int → Addr) : (encR l ad).length = l.length := by unfold encR; rw [List.length_map]
theorem encR_val {l : List Int} {ad : Int → Addr} {x : Int} : x ∈ l → valV (encR l ad) (Sum.inl x : Key) = some (.ref (ad x)) := by
  induction l with
  | nil => exact fun h => nomatch h
  | cons a r ih =>
    intro h
    show valV (((Sum.inl a : Key), V.ref (ad a)) :: encR r ad) (Sum.inl x : Key) = _
    by_cases hx : a = x
    · rw [valV_pos (by show (Sum.inl a : Key) = Sum.inl x; rw [hx]), hx]
    · rw [valV_neg (fun z => hx (Sum.inl.inj z))]
      exact ih ((List.mem_cons.mp h).resolve_left fun z => hx z.symm)
theorem encR_new {l : List Int} {ad : Int → Addr} {x : Int} {a : Addr} (h : x ∉ l) : putK (encR l ad) (Sum.inl x : Key) (.ref a) = encR (l ++ [x]) (fun y => if y = x then a else ad y) := by
  unfold putK
  rw [if_neg]
  · unfold encR
    rw [List.map_append]
    congr 1
    · exact List.map_congr_left fun y hy => by
        dsimp only
        rw [if_neg (fun e => h (by rw [← e]; exact hy))]
    · show [_] = [_]
      dsimp only
      rw [if_pos rfl]
  · rw [List.any_eq_true]
    rintro ⟨kv, h1, h2⟩
    obtain ⟨y, hy, rfl⟩ := List.mem_map.mp h1
    have := Sum.inl.inj (of_decide_eq_true h2)
    exact h (this ▸ hy)
theorem encR_put {l : List Int} {ad : Int → Addr} {x : Int} {a : Addr} (h : x ∈ l) : putK (encR l ad) (Sum.inl x : Key) (.ref a) = encR l (fun y => if y = x then a else ad y) := by
  unfold putK
  rw [if_pos]
  · unfold encR
    rw [List.map_map]
    refine List.map_congr_left fun y hy => ?_
    show (if (Sum.inl y : Key) = Sum.inl x then _ else _) = _
    dsimp only
    by_cases e : y = x
    · rw [if_pos (by rw [e]), if_pos e]
    · rw [if_neg (fun z => e (Sum.inl.inj z)), if_neg e]
  · rw [List.any_eq_true]
    exact ⟨_, List.mem_map.mpr ⟨x, h, rfl⟩, decide_eq_true rfl⟩
end NL

set_option maxHeartbeats 4000000
namespace NL
open PySem PySem.Spec PyProof.Rows L2
/-! ### least_measures -/
theorem nodup_len {l : List Int} {n : Nat} (h : l.Nodup) (hr : ∀ x ∈ l, 0 ≤ x ∧ x < (n : Int)) : l.length ≤ n := by
  have hn : ((List.range n).map fun i : Nat => (i : Int)).Nodup := by
    refine List.nodup_iff_pairwise_ne.mpr (List.pairwise_map.mpr ?_)
    exact (List.nodup_iff_pairwise_ne.mp List.nodup_range).imp fun h e => h (Int.ofNat.inj e)
  have hp : l.Perm (((List.range n).map fun i : Nat => (i : Int)).filter fun x => decide (x ∈ l)) := (List.perm_ext_iff_of_nodup h (hn.filter _)).mpr fun x => by
    rw [List.mem_filter, decide_eq_true_eq]
    refine ⟨fun hx => ⟨List.mem_map.mpr ⟨x.toNat, List.mem_range.mpr (by have := hr x hx; omega), by have := hr x hx; omega⟩, hx⟩, fun hx => hx.2⟩
  have h1 := hp.length_eq
  have h2 := List.length_filter_le (fun x => decide (x ∈ l)) ((List.range n).map fun i : Nat => (i : Int))
  rw [List.length_map, List.length_range] at h2
  omega
/-- a list of ints in a new list -/
def LsIn (H : Hp) (g : List Int) (v : V) : Prop := ∃ a, v = .ref a ∧ H a = some (.lst (g.map V.int))
/-- .. that is none of two others -/
def LsN (L1 L2 : Addr) (H : Hp) (g : List Int) (v : V) : Prop := ∃ a, v = .ref a ∧ (a ≠ L1 ∧ a ≠ L2) ∧ H a = some (.lst (g.map V.int))
/-- all stays but for the places S -/
structure FS (S : Addr → Prop) (P : Addr) (H H' : Hp) : Prop where
  fr : ∀ x o, NT o → ¬ S x → H x = some o → H' x = some o
  tb : GxR.TabG H P → GxR.TabG H' P
  dom : ∀ b, H' b = none → H b = none
theorem FS.sm {S : Addr → Prop} {P : Addr} {H H' : Hp} (s : Sm P H H') : FS S P H H' := ⟨fun x o n _ e => s.fr x o n e, s.tb, s.dom⟩
theorem FS.refl {S : Addr → Prop} {P : Addr} {H : Hp} : FS S P H H := .sm Sm.refl
theorem FS.of {S : Addr → Prop} {P : Addr} {H H' : Hp} (s : Same H H') : FS S P H H' := .sm (.of s)
theorem FS.trans {S : Addr → Prop} {P : Addr} {H H1 H2 : Hp} (x : FS S P H H1) (y : FS S P H1 H2) : FS S P H H2 := ⟨fun c o n h e => y.fr c o n h (x.fr c o n h e), fun h => y.tb (x.tb h), fun c e => x.dom c (y.dom c e)⟩
theorem FS.put {S : Addr → Prop} {P p : Addr} {H : Hp} {o : HO} (hp : S p) (h : H p ≠ none) (hP : p ≠ P) : FS S P H (upd H p o) := by
  refine ⟨fun x u n g e => ?_, fun ⟨ps, e, t⟩ => ⟨ps, by rw [upd_ne (Ne.symm hP)]; exact e, t⟩, fun x e => ?_⟩
  · rw [upd_ne (fun z => g (by rw [z]; exact hp))]
    exact e
  · by_cases hb : x = p
    · rw [hb, upd_same] at e
      cases e
    · rw [upd_ne hb] at e
      exact e
theorem FS.close {S : Addr → Prop} {P : Addr} {H H1 H2 : Hp} (hS : ∀ b, S b → H b = none) (s : Sm P H H1) (x : FS S P H1 H2) : Sm P H H2 := ⟨fun c o n e => x.fr c o n (fun g => by rw [hS c g] at e; cases e) (s.fr c o n e), fun t => x.tb (s.tb t), fun c e => s.dom c (x.dom c e)⟩
/-- the greatest colour, or 0 -/
structure TopC (cs : List Int) (t : Nat) : Prop where
  nil : cs = [] → t = 0
  mem : cs ≠ [] → ((t : Nat) : Int) ∈ cs
  le : ∀ c ∈ cs, c ≤ ((t : Nat) : Int)
theorem TopC.col {cs : List Int} {t : Nat} (h : TopC cs t) (x : Int) : colF cs x ≤ t := by
  unfold colF
  cases hg : cs[x.toNat]? with
  | none => exact Nat.zero_le _
  | some c =>
    have := h.le c (List.mem_of_getElem? hg)
    show c.toNat ≤ t
    omega
structure LeastM (A : Ar) (cs : List Int) (s : Bool) (R : Int → Prop) (t : Nat) (M : Int → Nat → Nat) : Prop where
  top : TopC cs t
  bd : ∃ KM, Bd (t + 1) KM M
  sp : ∀ d, d < t + 1 → par d ≠ s → SpM (psO A) (colF cs) s R M d
/-- a measure as a tuple -/
def msT (t : Nat) (s : Bool) (j : Nat) (m : Nat → Nat) : List Int := (cdJ t s j).map fun c => ((m c : Nat) : Int)
theorem msT_skip {t j : Nat} {s : Bool} {m : Nat → Nat} (hp : par (t - j) = s) : msT t s (j + 1) m = msT t s j m := by
  unfold msT
  rw [cdJ_s, if_neg (fun h => h hp), List.append_nil]
theorem msT_next {A : Ar} {cs : List Int} {R : Int → Prop} {t j : Nat} {s : Bool} {M : Int → Nat → Nat} {x : Int} (hj : j ≤ t) (hp : par (t - j) ≠ s) : msT t s (j + 1) (upM A cs s R (t - j) M x) = msT t s j (M x) ++ [((upM A cs s R (t - j) M x (t - j) : Nat) : Int)] := by
  unfold msT
  rw [cdJ_s, if_pos hp, List.map_append]
  congr 1
  refine List.map_congr_left fun c hc => ?_
  obtain ⟨i, h1, rfl, h3⟩ := cdJ_mem hc
  rw [upM_ne (by omega)]
theorem PartX.len {s : Bool} {d n : Nat} {M : Int → Nat → Nat} {ps : List (List Int)} {S : Int → Prop} (h : PartX s d M ps S) (hS : ∀ x, S x → 0 ≤ x ∧ x < (n : Int)) (hne : ∀ q ∈ ps, q ≠ []) : ps.length ≤ n := by
  have h1 : (ps.map fun q => q.headD 0).Nodup := by
    refine List.nodup_iff_pairwise_ne.mpr (List.pairwise_map.mpr ?_)
    refine List.Pairwise.imp_of_mem ?_ h.lt
    intro q q' hq hq' hl e
    obtain ⟨a, r, rfl⟩ : ∃ a r, q = a :: r := by
      cases q with
      | nil => exact absurd rfl (hne _ hq)
      | cons a r => exact ⟨a, r, rfl⟩
    obtain ⟨a', r', rfl⟩ : ∃ a r, q' = a :: r := by
      cases q' with
      | nil => exact absurd rfl (hne _ hq')
      | cons a r => exact ⟨a, r, rfl⟩
    have e : a = a' := e
    have := hl a (List.mem_cons_self ..) a' (List.mem_cons_self ..)
    rw [e] at this
    exact this.irr
  have h2 := nodup_len h1 fun x hx => by
    obtain ⟨q, hq, rfl⟩ := List.mem_map.mp hx
    cases q with
    | nil => exact absurd rfl (hne _ hq)
    | cons a r => exact hS _ ((h.mem a).mp ⟨_, hq, List.mem_cons_self ..⟩)
  rw [List.length_map] at h2
  exact h2
/-- those of the first groups -/
def procG (gs : List (List Int)) (i : Nat) : Int → Prop := fun y => ∃ (i' : Nat) (g' : List Int), i' < i ∧ gs[i']? = some g' ∧ y ∈ g'
theorem procG_0 {gs : List (List Int)} {y : Int} : ¬ procG gs 0 y := fun ⟨_, _, h, _⟩ => absurd h (Nat.not_lt_zero _)
theorem procG_s {gs : List (List Int)} {i : Nat} {g : List Int} (hg : gs[i]? = some g) (y : Int) : procG gs (i + 1) y ↔ procG gs i y ∨ y ∈ g := by
  constructor
  · rintro ⟨i', g', h1, h2, h3⟩
    by_cases hi : i' = i
    · subst hi
      rw [hg] at h2
      cases h2
      exact .inr h3
    · exact .inl ⟨i', g', by omega, h2, h3⟩
  · rintro (⟨i', g', h1, h2, h3⟩ | h)
    · exact ⟨i', g', by omega, h2, h3⟩
    · exact ⟨i, g, Nat.lt_succ_self i, hg, h⟩
theorem procG_all {gs : List (List Int)} (y : Int) : procG gs gs.length y ↔ ∃ q ∈ gs, y ∈ q := by
  constructor
  · rintro ⟨i', g', _, h2, h3⟩
    exact ⟨g', List.mem_of_getElem? h2, h3⟩
  · rintro ⟨q, h1, h2⟩
    obtain ⟨i', hi'⟩ := List.getElem?_of_mem h1
    exact ⟨i', q, (List.getElem?_eq_some_iff.mp hi').1, hi', h2⟩
/-- measures and groups in the heap -/
def LvH (H' : Hp) (MD GL : Addr) (ow : List Int) (t : Nat) (s : Bool) (j : Nat) (M : Int → Nat → Nat) (gs : List (List Int)) : Prop :=
  (∃ ad : Int → Addr, H' MD = some (.dK (encR ow ad)) ∧ ∀ x ∈ ow, H' (ad x) = some (.tup ((msT t s j (M x)).map V.int))) ∧ ∃ xs, H' GL = some (.lst xs) ∧ Each (LsIn H') gs xs
/-- while a level is looked at: the entry is there for those of S -/
def MdH (H' : Hp) (MD : Addr) (ow : List Int) (t : Nat) (s : Bool) (j : Nat) (M M' : Int → Nat → Nat) (S : Int → Prop) : Prop :=
  ∃ ad : Int → Addr, H' MD = some (.dK (encR ow ad)) ∧ ∀ x ∈ ow, H' (ad x) = some (.tup ((msT t s j (M x) ++ if mB S x = true then [((M' x (t - j) : Nat) : Int)] else []).map V.int))
theorem MdH.same {H H' : Hp} {MD : Addr} {ow : List Int} {t j : Nat} {s : Bool} {M M' : Int → Nat → Nat} {S S' : Int → Prop} (h : MdH H MD ow t s j M M' S) (hk : ∀ ad, H MD = some (.dK (encR ow ad)) → H' MD = some (.dK (encR ow ad))) (ht : ∀ a xs, H a = some (.tup xs) → H' a = some (.tup xs)) (hS : ∀ x ∈ ow, S x ↔ S' x) : MdH H' MD ow t s j M M' S' := by
  obtain ⟨ad, h1, h2⟩ := h
  refine ⟨ad, hk ad h1, fun x hx => ?_⟩
  have : mB S' x = mB S x := Bool.eq_iff_iff.mpr (by rw [mB_t, mB_t]; exact (hS x hx).symm)
  rw [this]
  exact ht _ _ (h2 x hx)
theorem ended_iff {A : Ar} {cs : List Int} {s : Bool} {b n : Nat} (hG : ArG A) (hin : InA A n) (hb : ∀ x, 0 ≤ x → x < (n : Int) → colF cs x < b) {x : Int} (hx : Own (psO A) (colF cs) b n s x) : (∀ o ∈ psO A x, (-1 : Int) ∈ o) ↔ Frc s (psO A x) (Out1 s) := by
  have hne : ∀ o ∈ psO A x, o ≠ [] := fun o ho => by
    unfold psO at ho
    split at ho
    · cases hq : A[x.toNat]? with
      | none => rw [hq] at ho; cases ho
      | some os =>
        rw [hq] at ho
        exact ((hG.2 os (List.mem_of_getElem? hq)).2 o ho).ne
    · cases ho
  cases s with
  | true =>
    unfold Frc Out1
    rw [if_pos rfl]
    exact ⟨fun h o ho => ⟨-1, h o ho, rfl, rfl⟩, fun h o ho => by
      obtain ⟨p, hp, rfl, _⟩ := h o ho
      exact hp⟩
  | false =>
    obtain ⟨N, K, _, hN⟩ := Own.pg (ops := psO A) (col := colF cs) (s := false) (fun x o ho y hy => psO_in hin x o ho y hy) hb
    have hf := hN x hx
    constructor
    · intro h
      unfold Frc at hf
      rw [if_neg Bool.false_ne_true] at hf
      obtain ⟨o, ho, hq⟩ := hf
      rcases hq _ (h o ho) with hq | hq
      · cases hq.2
      · have := hq.1.rg
        omega
    · intro h
      unfold Frc at h
      rw [if_neg Bool.false_ne_true] at h
      obtain ⟨o, ho, hq⟩ := h
      cases ho2 : o with
      | nil => exact absurd ho2 (hne o ho)
      | cons a r => cases (hq a (by rw [ho2]; exact List.mem_cons_self ..)).2
section
variable {P : Program} {w : World} {K : PySem.W.Frag} {mg : Str → Option Value} {base : Heap}
def spLeast (Pt : Addr) : Sp := fun vs H Q _ => ∃ (v : V) (A : Ar) (cp owl : Addr) (cs : List Int) (s : Bool) (ow : List Int), vs = [v, .ref cp, .int (sI s), .ref owl] ∧ ArIn H A v ∧ ArG A ∧ A.length ≤ 63 ∧ InA A A.length ∧ H cp = some (.tup (cs.map V.int)) ∧ cs.length = A.length ∧ (∀ c ∈ cs, 0 ≤ c ∧ c < 45) ∧ GxR.TabG H Pt ∧
  H owl = some (.lst (ow.map V.int)) ∧ ow.Nodup ∧ (∀ b, (∀ x, 0 ≤ x → x < (A.length : Int) → colF cs x < b) → ∀ x, x ∈ ow ↔ Own (psO A) (colF cs) b A.length s x) ∧
  ∀ (t : Nat) (M : Int → Nat → Nat) (ad : Int → Addr) D H', Sm Pt H H' → H D = none → H' D = some (.dK (encR ow ad)) → (∀ x ∈ ow, H' (ad x) = some (.tup ((msT t s (t + 1) (M x)).map V.int))) → LeastM A cs s (fun x => x ∈ ow) t M → Q (.ref D) H'
theorem ok_least_measures (T : Txt K mg) {c Pt : Addr} (TB : GxR.TabB base mg c Pt) (hc : T.dforces.code = .ref c) : FnOk P w K mg base CX0 53 T.aleast_measures T.dleast_measures Pleast_measures (spLeast Pt) := by
  have G_entries_in := ok_entries_in (P := P) (w := w) T TB hc
  refine T.Fleast_measures.ok scleast_measures (fun vs H Q E h => ?_) (fun cdv A outer s H vs Q E hr h => ?_)
  · obtain ⟨v, A, cp, owl, cs, s, ow, rfl, _⟩ := h
    rfl
  obtain ⟨v, A0, cp, owl, cs, s, ow, rfl, hA, hAG, hn, hin, hcp, hcl, hc0, hT, how, hown, hOw, q⟩ := h
  generalize hnn : A0.length = n at *
  obtain ⟨b0, xs, rfl, hb0, hxs⟩ := id hA
  have hxl := hxs.1
  have hor : ∀ x ∈ ow, 0 ≤ x ∧ x < (n : Int) := fun x hx => ((hOw 45 fun x _ _ => colF_lt hc0 x) x).mp hx |>.rg
  have howl := nodup_len hown hor
  refine ⟨_, (pss_cons (ps_setDc (i := 4) (own := [("at", 5)]) (g := (gName 5)) (tt := tYes) rfl scleast_measures.nd rfl rfl (sw_trueD rfl rfl rfl (by decide +kernel)) (pi_list (pv 3)) (blkOk_by (N := Nleast_measures) (sc := defScope sleast_measures) (by decide +kernel)) (fun _ _ _ _ _ => (pg_name (i := 5) scleast_measures.nd rfl (Or.inl rfl))) (fun _ _ _ _ _ => pts_nil) (fun _ _ _ _ _ => (pv 5)) (fun _ _ _ _ _ => (pe_tup pa_nil)))
    (pss_cons (ps_set (i := 6) scleast_measures.nd rfl (Or.inl rfl) (pe_lst (pa_cons (pv 3) pa_nil)))
    (pss_cons (ps_for  PassesOwn.never rfl (pi_range3 (by rfl) T.z_range (pa_cons (pe_callBK (cr_maxDfT rfl) (by rfl) T.z_max (by decide +kernel) (pa_cons (pv 1) pa_nil) (pk_cons pe_int pk_nil)) (pa_cons (pe_un un_neg pe_int) (pa_cons (pe_un un_neg pe_int) pa_nil)))) (pg_name (i := 7) scleast_measures.nd rfl (Or.inl rfl))
    (pss_cons (ps_if (pt_cmpR op_eq (pe_op op_mod (pv 7) pe_int) (pv 2) (nomark _))
    (pss_one ps_continue)
    pss_nil)
    (pss_cons (ps_set (i := 8) scleast_measures.nd rfl (Or.inl rfl) (pe_op op_cat (pe_op op_rep (pe_lst (pa_cons pe_bl pa_nil)) (pe_callB call_len_seq (by rfl) T.z_len PySem.boot_len (pa_cons (pv 0) pa_nil))) (pe_lst (pa_cons (pe_cmpR op_eq (pv 2) (pe_glob rfl T.g_DISTURBANCE T.r_DISTURBANCE) (nomark _)) pa_nil))))
    (pss_cons (ps_set (i := 9) scleast_measures.nd rfl (Or.inl rfl) (pe_lst pa_nil))
    (pss_cons (ps_for  PassesOwn.never rfl (pi_list (pv 6)) (pg_name (i := 10) scleast_measures.nd rfl (Or.inl rfl))
    (pss_cons (ps_set (i := 11) scleast_measures.nd rfl (Or.inr rfl) (pe_call G_entries_in (hr.mono (by omega)) (by rfl) T.m_entries_in T.F_entries_in.kp T.b_entries_in .nil pass0 (pa_cons (pv 0) (pa_cons (pv 1) (pa_cons (pv 2) (pa_cons (pv 7) (pa_cons (pv 10) (pa_cons (pv 8) pa_nil))))))))
    (pss_cons (ps_for  PassesOwn.never rfl (pi_list (pv 10)) (pg_name (i := 5) scleast_measures.nd rfl (Or.inl rfl))
    (pss_cons (ps_dput (hu_of hr) (pv 4) (pv 5) (pe_op op_catA (pe_dget (hu_of hr) (pv 4) (pv 5) (fun _ _ => rfl)) (pe_tup (pa_cons (pe_dget (hu_of hr) (pv 11) (pv 5) (fun _ _ => rfl)) pa_nil))) rfl)
    (pss_one (ps_asg pe_bl (pg_sub (pv 8) (pv 5) set_list)))))
    (pss_one (ps_for  PassesOwn.never rfl (pi_list (pe_callB (cr_sortedSet rfl) (by rfl) T.z_sorted (by decide +kernel) (pa_cons (pe_callTy (cr_setOfI rfl) (by rfl) T.z_set (by decide +kernel) (pa_cons (pe_listVals rfl (by rfl) T.z_list (pv 11)) pa_nil)) pa_nil))) (pg_name (i := 12) scleast_measures.nd rfl (Or.inr rfl))
    (pss_one (ps_expr (pe_bm PySem.F.plainAttrs_list PySem.F.slot_list_append PySem.F.type_list_append mt_append (pv 9) (pa_cons (pe_lc (own := [("at", 5)]) (g := (gName 5)) (tt := _) rfl scleast_measures.nd (pi_list (pv 10)) (blkOk_by (N := Nleast_measures) (sc := defScope sleast_measures) (by decide +kernel)) (fun _ _ _ _ _ => (pg_name (i := 5) scleast_measures.nd rfl (Or.inl rfl))) (fun _ _ _ _ _ => (pts_one (pt_cmpR op_eq (pe_dget (hu_of hr) (pv 11) (pv 5) (fun _ _ => rfl)) (pv 12) (nomark _)))) (fun _ _ _ _ _ => (pv 5))) pa_nil)))))))))
    (pss_one (ps_set (i := 6) scleast_measures.nd rfl (Or.inl rfl) (pv 9))))))))
    (pss_one (ps_ret (pv 4)))))), ?_⟩
  refine ⟨_, rfl, owl, rfl, ⟨_, sqd how⟩, fun MD hMD => ?_⟩
  have hMP : MD ≠ Pt := TabG.ne0 hT hMD
  refine dc_it (walk_list (K := K) (a := owl) (xs := ow.map V.int)) (fun (i : Nat) (H' : Hp) => ∃ ad : Int → Addr, Sm Pt H H' ∧ H' MD = some (.dK (encR (ow.take i) ad)) ∧ ∀ x ∈ ow.take i, H' (ad x) = some (.tup [])) ?_ ?_ ?_ ?_
  · exact ⟨fun _ => 0, .of (same_new hMD _), upd_same, fun x hx => by rw [List.take_zero] at hx; cases hx⟩
  · rintro i H' _ ⟨ad, s1, _⟩
    exact sqd (s1.lst how)
  · rintro i x H1 H2 hi ⟨ad, s1, k1, ha1⟩ ⟨rfl, hx⟩
    rw [List.getElem?_map] at hx
    obtain ⟨z, hz, rfl⟩ := Option.map_eq_some_iff.mp hx
    refine ⟨rfl, yes_if ?_⟩
    refine ⟨_, rfl, Nat.zero_le _, fun ta hta => ?_⟩
    obtain ⟨H3, e3, s3, k3⟩ := newH hta (.tup [])
    rw [e3]
    have hzn := take_new hown hz
    have htM : ta ≠ MD := (ne_of_none k1 hta).symm
    refine ⟨_, Sum.inl z, rfl, s3 _ _ k1, big' (by rw [encR_len, List.length_take]; omega), fun y => if y = z then ta else ad y, (s1.trans (.of s3)).put hMD hMP, ?_, fun y hy => ?_⟩
    · rw [upd_same, encR_new hzn, List.take_add_one, hz]
      rfl
    · dsimp only
      have hne : ∀ b, b ≠ MD → upd H3 MD (.dK (putK (encR (ow.take i) ad) (Sum.inl z) (.ref ta))) b = H3 b := fun b hb => upd_ne hb
      by_cases hyz : y = z
      · rw [if_pos hyz, hne ta htM]
        exact k3
      · rw [if_neg hyz]
        rw [List.take_add_one, hz] at hy
        have hy2 := (List.mem_append.mp hy).resolve_right fun w => hyz (List.mem_singleton.mp w)
        have := ha1 y hy2
        rw [hne (ad y) (fun e => by rw [e, k1] at this; cases this)]
        exact s3 _ _ this
  rintro H1 ⟨ad0, s1, k1, ha1⟩
  rw [List.length_map, List.take_length] at k1 ha1
  have hT1 := s1.tb hT
  refine ⟨_, rfl, Nat.le_of_ble_eq_true rfl, fun GL0 hGL => ?_⟩
  obtain ⟨H2, e2, s2, k2⟩ := newH hGL (.lst [V.ref owl])
  rw [e2]
  have s02 : Sm Pt H H2 := s1.trans (.of s2)
  -- the greatest colour
  refine ⟨_, rfl, cp, cs, 0, rfl, rfl, sqt (s02.tup hcp), fun m hm0 hm1 => ?_⟩
  obtain ⟨t, rfl, hTop⟩ : ∃ t : Nat, m = ((t : Nat) : Int) ∧ TopC cs t := by
    by_cases hcs : cs = []
    · exact ⟨0, hm0 hcs, ⟨fun _ => rfl, fun h => absurd hcs h, fun c hc => by rw [hcs] at hc; cases hc⟩⟩
    · obtain ⟨h1, h2⟩ := hm1 hcs
      have h3 := (hc0 m h1).1
      exact ⟨m.toNat, by omega, ⟨fun h => absurd h hcs, fun _ => by rw [Int.toNat_of_nonneg h3]; exact h1, fun c hc => by rw [Int.toNat_of_nonneg h3]; exact h2 c hc⟩⟩
  have ht45 : t < 45 := by
    by_cases hcs : cs = []
    · rw [hTop.nil hcs]
      decide
    · have := (hc0 _ (hTop.mem hcs)).2
      omega
  have hct : ∀ x, 0 ≤ x → x < (n : Int) → colF cs x < t + 1 := fun x _ _ => by
    have := hTop.col x
    omega
  have hRo : ∀ x, x ∈ ow ↔ Own (psO A0) (colF cs) (t + 1) n s x := hOw (t + 1) hct
  obtain ⟨N0, K0, bN0, hN0⟩ := Own.pg (ops := psO A0) (col := colF cs) (s := s) (n := n) (b := t + 1) (fun x o ho y hy => psO_in hin x o ho y hy) hct
  have hPg : Pg (psO A0) (colF cs) s (fun x => x ∈ ow) N0 := fun x hx => (hN0 x ((hRo x).mp hx)).imp fun y hy => hy.elim .inl fun hy => .inr ⟨(hRo y).mpr hy.1, hy.2⟩
  refine ⟨_, rfl, _, rfl, _, _, _, _, rfl, RgC.neg (by omega) (by omega) (by decide) (by decide), ?_⟩
  have hd0 : (((t : Nat) : Int) - (-1)).toNat = t + 1 := by omega
  rw [hd0]
  refine for_it (walk_rangeC (lo := ((t : Nat) : Int)) (c := -1) (n := t + 1)) (fun (j : Nat) (σ : L2.St) (H' : Hp) => ∃ (M : Int → Nat → Nat) (gs : List (List Int)) (GL : Addr) (y5 y7 y8 y9 y10 y11 y12 : Option V), σ = [some (.ref b0), some (.ref cp), some (.int (sI s)), some (.ref owl), some (.ref MD), y5, some (.ref GL), y7, y8, y9, y10, y11, y12] ∧ Sm Pt H H' ∧ LvH H' MD GL ow t s j M gs ∧ Lev A0 cs s (fun x => x ∈ ow) t j M gs ∧ gs.length ≤ 64) ?_ ?_ ?_ ?_
  · refine ⟨fun _ _ => 0, [ow], GL0, _, _, _, _, _, _, _, rfl, s02, ⟨⟨ad0, s2 _ _ k1, fun x hx => s2 _ _ (ha1 x hx)⟩, [V.ref owl], k2, ⟨rfl, fun k a x h1 h2 => ?_⟩⟩, Lev.zero (fun _ => Iff.rfl) hown, by rw [List.length_singleton]; decide⟩
    cases k with
    | zero =>
      cases h1
      cases h2
      exact ⟨owl, rfl, s02.lst how⟩
    | succ k => cases h1
  · exact fun _ _ _ _ _ => trivial
  · rintro j x σ Hx3 H3 hj ⟨M, gs, GL, y5, y7, y8, y9, y10, y11, y12, rfl, s3, hLv, hLev, hgl⟩ ⟨rfl, hxv⟩
    have hcd : ((t : Nat) : Int) + (j : Nat) * -1 = ((t - j : Nat) : Int) := by omega
    have hxv2 : x = V.int ((t - j : Nat) : Int) := hxv.trans (congrArg V.int hcd)
    subst hxv2
    have hT3 := s3.tb hT
    have hjt : j ≤ t := by omega
    have hpar : (((t - j : Nat) : Int) % 2) = sI (par (t - j)) := sI_par _
    refine ⟨_, rfl, _, _, rfl, rfl, (by show (0 : Int) < 2; decide), _, rfl, rfl, _, rfl, ?_⟩
    by_cases hp : par (t - j) = s
    · refine ifT (decide_eq_true (congrArg V.int (hpar.trans (by rw [hp])))) ?_
      refine ⟨M, gs, GL, _, _, _, _, _, _, _, rfl, s3, ?_, hLev.skip hjt hp, hgl⟩
      obtain ⟨⟨ad, h1, h2⟩, h3⟩ := hLv
      exact ⟨⟨ad, h1, fun x hx => by rw [msT_skip hp]; exact h2 x hx⟩, h3⟩
    refine ifF (decide_eq_false fun e => hp (sI_inj (hpar.symm.trans (V.int.inj e)))) ?_
    obtain ⟨⟨ad3, kM3, ha3⟩, gxs, kG3, hgx⟩ := hLv
    have hgxl := hgx.1
    -- less
    refine ⟨Nat.le_of_ble_eq_true rfl, fun l1 hl1 => ?_⟩
    obtain ⟨H4, e4, s4, k4⟩ := newH hl1 (.lst [V.bl false])
    rw [e4]
    refine ⟨_, rfl, b0, _, rfl, .inr (sqt ((s3.trans (.of s4)).tup hb0)), l1, _, _, rfl, rfl, k4, by omega, by omega, big (by rw [List.length_singleton]; omega), fun l2 hl2 => ?_⟩
    obtain ⟨H5, e5, s5, k5⟩ := newH hl2 (.lst (List.replicate ((xs.length : Nat) : Int).toNat [V.bl false]).flatten)
    rw [e5]
    refine ⟨_, rfl, rfl, Nat.le_of_ble_eq_true rfl, fun l3 hl3 => ?_⟩
    obtain ⟨H6, e6, s6, k6⟩ := newH hl3 (.lst [V.bl (decide (V.int (sI s) = V.int 1))])
    rw [e6]
    have hfl : (List.replicate ((xs.length : Nat) : Int).toNat [V.bl false]).flatten = List.replicate n (V.bl false) := by
      rw [Int.toNat_natCast, hxl, hnn]
      generalize n = m
      induction m with
      | zero => rfl
      | succ m ih =>
        rw [List.replicate_succ, List.flatten_cons, ih, List.replicate_succ]
        rfl
    rw [hfl] at k5
    refine ⟨l2, l3, _, _, rfl, rfl, s6 _ _ k5, k6, big (by rw [List.length_replicate, List.length_singleton]; omega), fun LS hLS => ?_⟩
    obtain ⟨H7, e7, s7, k7⟩ := newH hLS (.lst (List.replicate n (V.bl false) ++ [V.bl (decide (V.int (sI s) = V.int 1))]))
    rw [e7]
    have kLS7 : H7 LS = some (.lst ((bsO n (mB (Out1 s))).map V.bl)) := by
      rw [k7]
      congr 2
      unfold bsO
      rw [List.map_append, List.map_map]
      congr 1
      · refine (List.eq_replicate_iff.mpr ⟨by rw [List.length_map, List.length_range], fun v hv => ?_⟩).symm
        obtain ⟨k, hk, rfl⟩ := List.mem_map.mp hv
        show V.bl (mB (Out1 s) (k : Int)) = V.bl false
        rw [mB_f.mpr fun h => by have := h.1; omega]
      · show [V.bl _] = [V.bl _]
        congr 2
        cases s with
        | true =>
          rw [mB_t.mpr ⟨rfl, rfl⟩]
          rfl
        | false =>
          rw [mB_f.mpr fun h => by cases h.2]
          rfl
    refine ⟨Nat.zero_le _, fun PS hPS => ?_⟩
    obtain ⟨H8, e8, s8, k8⟩ := newH hPS (.lst [])
    rw [e8]
    have s38' : Same H3 H8 := (((s4.trans s5).trans s6).trans s7).trans s8
    have s38 : Sm Pt H3 H8 := .of s38'
    have hT8 := s38.tb hT3
    have hLS3 : H3 LS = none := ((s4.trans s5).trans s6).free hLS
    have hPS3 : H3 PS = none := (((s4.trans s5).trans s6).trans s7).free hPS
    have hLP : LS ≠ Pt := TabG.ne0 hT3 hLS3
    have hPP : PS ≠ Pt := TabG.ne0 hT3 hPS3
    have hML : MD ≠ LS := ne_of_none kM3 hLS3
    have hMPS : MD ≠ PS := ne_of_none kM3 hPS3
    have hLPS : LS ≠ PS := ne_of_none k7 hPS
    have kG8 := s38.lst kG3
    have hgx8 : Each (LsIn H8) gs gxs := hgx.mono fun g x ⟨a, h1, h2⟩ => ⟨a, h1, s38.lst h2⟩
    have hSn : ∀ b, (b = MD ∨ b = LS ∨ b = PS) → H b = none := fun b hb => by
      rcases hb with rfl | rfl | rfl
      · exact hMD
      · exact s3.dom _ hLS3
      · exact s3.dom _ hPS3
    have notS : ∀ {b : Addr} {o : HO}, H3 b = some o → b ≠ MD → ¬ (b = MD ∨ b = LS ∨ b = PS) := fun {b o} hb hn h => by
      rcases h with h | h | h
      · exact hn h
      · exact ne_of_none hb hLS3 h
      · exact ne_of_none hb hPS3 h
    generalize hd : t - j = d at *
    have hgr := hLev.gr
    rw [show t + 1 - j = d + 1 by omega] at hgr
    obtain ⟨KM, bM⟩ := hLev.bd
    obtain ⟨KK, hKK⟩ := won_ex (fun x hx => hor x hx) bM bN0 hPg hp fun d' h1 h2 h3 => hLev.sp d' (by omega) h2 h3
    generalize hMe : upM A0 cs s (fun x => x ∈ ow) d M = M' at *
    have hS8 : Sm Pt H H8 := s3.trans s38
    -- the groups
    refine ⟨_, rfl, GL, rfl, ⟨_, sqd kG8⟩, ?_⟩
    refine for_list (K := K) (a := GL) (xs := gxs) (fun (i : Nat) (σ : L2.St) (H' : Hp) => ∃ (ps : List (List Int)) (pxs : List V) (y5 y10 y11 y12 : Option V), σ = [some (.ref b0), some (.ref cp), some (.int (sI s)), some (.ref owl), some (.ref MD), y5, some (.ref GL), some (.int (d : Nat)), some (.ref LS), some (.ref PS), y10, y11, y12] ∧ FS (fun b => b = MD ∨ b = LS ∨ b = PS) Pt H8 H' ∧ MdH H' MD ow t s j M M' (procG gs i) ∧ H' LS = some (.lst ((bsO n (mB fun y => Out1 s y ∨ procG gs i y)).map V.bl)) ∧ H' PS = some (.lst pxs) ∧ Each (LsN LS PS H') ps pxs ∧ PartX s d M' ps (procG gs i) ∧ ∀ q ∈ ps, q ≠ []) ?_ ?_ ?_ ?_
    · refine ⟨[], [], _, _, _, _, rfl, FS.refl, ⟨ad3, s38.dK kM3, fun x hx => ?_⟩, ?_, k8, ⟨rfl, fun k a x h => (by cases h)⟩, PartX.nil.to fun x => ⟨fun h => h.elim, fun h => procG_0 h⟩, fun q h => (by cases h)⟩
      · rw [mB_f.mpr procG_0, if_neg Bool.false_ne_true, List.append_nil]
        exact s38.tup (ha3 x hx)
      · rw [show mB (Out1 s) = mB (fun y => Out1 s y ∨ procG gs 0 y) from mB_ext fun x => ⟨fun h => Or.inl h, fun h => h.resolve_right procG_0⟩] at kLS7
        exact s8 _ _ kLS7
    · rintro i σ H' _ ⟨ps, pxs, y5, y10, y11, y12, rfl, f9, _⟩
      exact sqd (f9.fr GL _ trivial (fun h => notS kG3 (fun e => by rw [e, kM3] at kG3; cases kG3) h) kG8)
    · rintro i x σ H9 hi ⟨ps, pxs, y5, y10, y11, y12, rfl, f9, hMd, kL9, kP9, hpx, hPart, hpne⟩
      have hil := (List.getElem?_eq_some_iff.mp hi).1
      obtain ⟨g, hg⟩ : ∃ g, gs[i]? = some g := ⟨_, List.getElem?_eq_getElem (by omega)⟩
      obtain ⟨x2, hx2, ga, rfl, kga⟩ := hgx.at hg
      rw [hi] at hx2
      obtain rfl := Option.some.inj hx2
      have hgm := List.mem_of_getElem? hg
      have hgR : ∀ y ∈ g, y ∈ ow := fun y hy => (hgr.mem y).mp ⟨g, hgm, hy⟩
      have hgnd := hgr.nd g hgm
      have hglen := nodup_len hgnd fun y hy => hor y (hgR y hy)
      have hgaM : ga ≠ MD := fun e => by rw [e, kM3] at kga; cases kga
      have kg9 : H9 ga = some (.lst (g.map V.int)) := f9.fr ga _ trivial (notS kga hgaM) (s38.lst kga)
      have s09 : Sm Pt H H9 := f9.close hSn hS8
      have hT9 := s09.tb hT
      have hgrp : ∀ {y}, y ∈ g → grp (fun x => x ∈ ow) s M d y = (fun z => z ∈ g) ∧ lss (fun x => x ∈ ow) s M d y = fun z => Out1 s z ∨ procG gs i z := fun {y} hy => part_grp hgr hg hy
      have hLe : (fun y => mB (fun z => Out1 s z ∨ procG gs i z) y = true) = fun z => Out1 s z ∨ procG gs i z := funext fun y => propext mB_t
      have hMg : ∀ y ∈ g, rdE A0 cs s d (fun z => z ∈ g) (fun z => Out1 s z ∨ procG gs i z) y = M' y d := fun y hy => by
        rw [← hMe, upM_at (hgR y hy), (hgrp hy).1, (hgrp hy).2]
      refine ⟨_, rfl, _, rfl, _, rfl, _, rfl, _, rfl, _, rfl, .ref b0, A0, cp, ga, LS, cs, s, d, KK, g, mB (fun z => Out1 s z ∨ procG gs i z), rfl, hA.tp s09.tp, hAG, by rw [hnn]; exact hin, s09.tup hcp, by omega, hc0, hT9, kg9, by omega, hgnd, fun y hy => by rw [hnn]; exact hor y (hgR y hy), by rw [hnn]; exact kL9, fun y hy => mB_f.mpr fun h => ?_, fun y hy => ended_iff hAG hin hct ((hRo y).mp (hgR y hy)), fun y hy => ?_, fun l D H10 s10 hD kD hlnd hlm => ?_⟩
      · have h2 : lss (fun x => x ∈ ow) s M d y y := by rw [(hgrp hy).2]; exact h
        rcases h2 with h2 | h2
        · have := hor y (hgR y hy)
          have := h2.1
          omega
        · exact h2.2.irr
      · rw [hLe]
        have := hKK y (hgR y hy)
        rw [(hgrp hy).1, (hgrp hy).2] at this
        exact this
      rw [hLe] at kD
      have f10 : FS (fun b => b = MD ∨ b = LS ∨ b = PS) Pt H8 H10 := f9.trans (.sm s10)
      have kg10 := s10.lst kg9
      have hMd10 : MdH H10 MD ow t s j M M' (fun y => procG gs i y ∨ y ∈ g.take 0) := hMd.same (fun ad h => s10.dK h) (fun a xs h => s10.tup h) fun y _ => ⟨.inl, fun h => h.resolve_right fun h => by rw [List.take_zero] at h; cases h⟩
      have kL10 := s10.lst kL9
      have kP10 := s10.lst kP9
      have hDM : D ≠ MD := fun e => by
        obtain ⟨ad, h1, _⟩ := hMd
        rw [e, h1] at hD
        cases hD
      have hDL : D ≠ LS := fun e => by rw [e, kL9] at hD; cases hD
      have hDP : D ≠ PS := fun e => by rw [e, kP9] at hD; cases hD
      have hgL : ga ≠ LS := ne_of_none kga hLS3
      have hgP : ga ≠ PS := ne_of_none kga hPS3
      -- the measures of the group
      refine ⟨_, rfl, ga, rfl, ⟨_, sqd kg10⟩, ?_⟩
      refine for_list (K := K) (a := ga) (xs := g.map V.int) (fun (k : Nat) (σ : L2.St) (H' : Hp) => ∃ y5 y12 : Option V, σ = [some (.ref b0), some (.ref cp), some (.int (sI s)), some (.ref owl), some (.ref MD), y5, some (.ref GL), some (.int (d : Nat)), some (.ref LS), some (.ref PS), some (.ref ga), some (.ref D), y12] ∧ FS (fun b => b = MD ∨ b = LS) Pt H10 H' ∧ MdH H' MD ow t s j M M' (fun y => procG gs i y ∨ y ∈ g.take k) ∧ H' LS = some (.lst ((bsO n (mB fun y => Out1 s y ∨ procG gs i y ∨ y ∈ g.take k)).map V.bl))) ?_ ?_ ?_ ?_
      · refine ⟨_, _, rfl, FS.refl, hMd10, ?_⟩
        rw [kL10, show mB (fun y => Out1 s y ∨ procG gs i y) = mB (fun y => Out1 s y ∨ procG gs i y ∨ y ∈ g.take 0) from mB_ext fun y => ⟨fun h => h.elim Or.inl fun h => Or.inr (Or.inl h), fun h => h.elim Or.inl fun h => Or.inr (h.resolve_right fun h => by rw [List.take_zero] at h; cases h)⟩]
      · rintro k σ H' _ ⟨y5, y12, rfl, f11, _⟩
        exact sqd (f11.fr ga _ trivial (fun h => h.elim hgaM hgL) kg10)
      · rintro k x σ H11 hk ⟨y5, y12, rfl, f11, ⟨ad, kM11, ha11⟩, kL11⟩
        rw [List.getElem?_map] at hk
        obtain ⟨z, hz, rfl⟩ := Option.map_eq_some_iff.mp hk
        have hzg := List.mem_of_getElem? hz
        have hzo := hgR z hzg
        have hzr := hor z hzo
        have hzn : ¬ (procG gs i z ∨ z ∈ g.take k) := fun h => by
          rcases h with h | h
          · have h2 : lss (fun x => x ∈ ow) s M d z z := by rw [(hgrp hzg).2]; exact .inr h
            rcases h2 with h2 | h2
            · have := h2.1
              omega
            · exact h2.2.irr
          · exact take_new hgnd hz h
        have hta := ha11 z hzo
        rw [mB_f.mpr hzn, if_neg Bool.false_ne_true, List.append_nil] at hta
        have kD11 : H11 D = some (.dK (encE l fun x => (rdE A0 cs s d (fun y => y ∈ g) (fun z => Out1 s z ∨ procG gs i z) x : Nat))) := f11.fr D _ trivial (fun h => h.elim hDM hDL) kD
        have hev := encE_val (e := fun x => ((rdE A0 cs s d (fun y => y ∈ g) (fun z => Out1 s z ∨ procG gs i z) x : Nat) : Int)) ((hlm z).mpr hzg)
        rw [hMg z hzg] at hev
        refine ⟨_, rfl, _, rfl, MD, _, rfl, (encR_val (ad := ad) hzo ▸ DGet.k (k := Sum.inl z) kM11), _, rfl, _, rfl, D, _, rfl, (hev ▸ DGet.k (k := Sum.inl z) kD11), Nat.le_of_ble_eq_true rfl, fun tp htp => ?_⟩
        obtain ⟨H12, e12, s12, k12⟩ := newH htp (.tup [V.int ((M' z d : Nat) : Int)])
        rw [e12]
        have hml := cdJ_len t s j
        refine catA_of (s12 _ _ hta) k12 (by rw [List.length_map]; unfold msT; rw [List.length_map, List.length_singleton]; omega) fun np H13 s13 k13 => ?_
        have s113 := s12.trans s13
        have kM13 := s113 _ _ kM11
        have kL13 := s113 _ _ kL11
        refine ⟨_, rfl, _, rfl, MD, _, rfl, DPut.k (k := Sum.inl z) kM13 (big' (by rw [encR_len]; omega)), ?_⟩
        refine ⟨_, rfl, _, rfl, LS, _, _, _, rfl, rfl, by rw [upd_ne hML.symm]; exact kL13, ixN_in (by omega) (by rw [List.length_map, bsO_len]; omega), ?_⟩
        rw [encR_put hzo]
        have fM : FS (fun b => b = MD ∨ b = LS) Pt H10 (upd H13 MD (.dK (encR ow fun y => if y = z then np else ad y))) := (f11.trans (.of s113)).trans (FS.put (.inl rfl) (by rw [kM13]; exact fun h => nomatch h) hMP)
        refine ⟨_, _, rfl, fM.trans (FS.put (.inr rfl) (by rw [upd_ne hML.symm, kL13]; exact fun h => nomatch h) hLP), ⟨fun y => if y = z then np else ad y, by rw [upd_ne hML, upd_same], fun y hy => ?_⟩, ?_⟩
        · have keep : ∀ {b : Addr} {us : List V}, H13 b = some (.tup us) → upd (upd H13 MD (.dK (encR ow fun y => if y = z then np else ad y))) LS (.lst (((bsO n (mB fun y => Out1 s y ∨ procG gs i y ∨ y ∈ g.take k)).map V.bl).set z.toNat (V.bl true))) b = some (.tup us) := fun {b us} e => by
            rw [upd_ne (fun w => by rw [w, kL13] at e; cases e), upd_ne (fun w => by rw [w, kM13] at e; cases e)]
            exact e
          dsimp only
          by_cases hyz : y = z
          · subst hyz
            rw [if_pos rfl, mB_t.mpr (.inr ((foldK_take hz y).mpr (.inr rfl))), if_pos rfl, hd, List.map_append]
            exact keep k13
          · rw [if_neg hyz]
            have e1 : mB (fun y => procG gs i y ∨ y ∈ g.take (k + 1)) y = mB (fun y => procG gs i y ∨ y ∈ g.take k) y := Bool.eq_iff_iff.mpr (by
              rw [mB_t, mB_t, foldK_take hz]
              exact ⟨fun h => h.elim .inl fun h => h.elim .inr fun h => absurd h hyz, fun h => h.elim .inl fun h => .inr (.inl h)⟩)
            rw [e1]
            exact keep (s113 _ _ (ha11 y hy))
        · rw [upd_same, ← List.map_set, bsO_set hzr.1 hzr.2]
          congr 3
          refine bsO_ext fun x _ _ => Bool.eq_iff_iff.mpr ?_
          rw [Bool.or_eq_true, mB_t, mB_t, decide_eq_true_eq, foldK_take hz]
          constructor
          · rintro ((h | h | h) | h)
            · exact .inl h
            · exact .inr (.inl h)
            · exact .inr (.inr (.inl h))
            · exact .inr (.inr (.inr h))
          · rintro (h | h | h | h)
            · exact .inl (.inl h)
            · exact .inl (.inr (.inl h))
            · exact .inl (.inr (.inr h))
            · exact .inr h
      rintro σ H11 ⟨y5', y12', rfl, f11, hMd11, kL11⟩
      rw [List.length_map, List.take_length] at hMd11 kL11
      have kD11 : H11 D = some (.dK (encE l fun x => (rdE A0 cs s d (fun y => y ∈ g) (fun z => Out1 s z ∨ procG gs i z) x : Nat))) := f11.fr D _ trivial (fun h => h.elim hDM hDL) kD
      have kP11 : H11 PS = some (.lst pxs) := f11.fr PS _ trivial (fun h => h.elim (fun e => hMPS e.symm) fun e => hLPS e.symm) kP10
      have kg11 : H11 ga = some (.lst (g.map V.int)) := f11.fr ga _ trivial (fun h => h.elim hgaM hgL) kg10
      have hpx11 : Each (LsN LS PS H11) ps pxs := hpx.mono fun q x ⟨a, h1, hn, h2⟩ => ⟨a, h1, hn, f11.fr a _ trivial (fun h => h.elim (fun e => by
        obtain ⟨ad, h3, _⟩ := hMd
        rw [e, h3] at h2
        cases h2) hn.1) (s10.lst h2)⟩
      have hT11 := f11.tb (s10.tb hT9)
      -- the new groups, from the least entry on
      have hlp : l.Perm g := (List.perm_ext_iff_of_nodup hlnd hgnd).mpr hlm
      have hll := hlp.length_eq
      refine ⟨_, rfl, D, _, rfl, kD11, fun vl hvl => ?_⟩
      obtain ⟨H12, e12, s12, k12⟩ := newH hvl (.lst ((encE l fun x => (rdE A0 cs s d (fun y => y ∈ g) (fun z => Out1 s z ∨ procG gs i z) x : Nat)).map (·.2)))
      rw [e12]
      rw [encE_vals] at k12
      refine ⟨vl, _, rfl, sqd k12, by rw [List.length_map]; omega, fun sa cc hsa hcc => ?_⟩
      refine ⟨sa, _, _, rfl, upd_same, by rw [List.length_map] at hcc; omega, fun es ep hasc hmem hesl hep => ?_⟩
      have s13 := same_new hsa (SetO w sa (fun j => decide (j ∈ l.map fun x => ((rdE A0 cs s d (fun y => y ∈ g) (fun z => Out1 s z ∨ procG gs i z) x : Nat) : Int))) cc)
      have hepP : ep ≠ PS := (ne_of_none (s13 _ _ (s12 _ _ kP11)) hep).symm
      obtain ⟨H14, e14, s14, k14⟩ := newH hep (.lst (es.map V.int))
      rw [e14]
      have s1114 := (s12.trans s13).trans s14
      have hesl2 : es.length ≤ 64 := by
        rw [List.length_map] at hcc
        omega
      have hmem2 : ∀ k : Int, k ∈ es ↔ ∃ y ∈ g, ((M' y d : Nat) : Int) = k := fun k => by
        rw [hmem k, decide_eq_true_eq, List.mem_map]
        constructor
        · rintro ⟨y, hy, e⟩
          have hyg := (hlm y).mp hy
          rw [hMg y hyg] at e
          exact ⟨y, hyg, e⟩
        · rintro ⟨y, hy, e⟩
          exact ⟨y, (hlm y).mpr hy, by rw [hMg y hy]; exact e⟩
      have hesn : es.Nodup := List.nodup_iff_pairwise_ne.mpr (hasc.imp fun h e => by rw [e] at h; exact absurd h (Int.lt_irrefl _))
      have kg14 := s1114 _ _ kg11
      have kD14 := s1114 _ _ kD11
      have hPS14 := s1114 _ _ kP11
      have f14 : FS (fun b => b = MD ∨ b = LS ∨ b = PS) Pt H8 H14 := (f10.trans (⟨fun x o n h e => f11.fr x o n (fun w => h (w.elim .inl fun w => .inr (.inl w))) e, f11.tb, f11.dom⟩ : FS (fun b => b = MD ∨ b = LS ∨ b = PS) Pt H10 H11)).trans (.of s1114)
      have hT14 := f14.tb hT8
      have hg2 : ∀ y ∈ g, ∀ y' ∈ g, Eqm s (d + 1) (M' y) (M' y') := fun y hy y' hy' => (hgr.eq g hgm y hy y' hy').congr (fun e he => by rw [← hMe]; exact (upM_hi y e he).symm) (fun e he => by rw [← hMe]; exact (upM_hi y' e he).symm)
      refine ⟨ep, rfl, ⟨_, sqd k14⟩, ?_⟩
      refine for_list (K := K) (a := ep) (xs := es.map V.int) (fun (k : Nat) (σ : L2.St) (H' : Hp) => ∃ (ps : List (List Int)) (pxs : List V) (y5 y12 : Option V), σ = [some (.ref b0), some (.ref cp), some (.int (sI s)), some (.ref owl), some (.ref MD), y5, some (.ref GL), some (.int (d : Nat)), some (.ref LS), some (.ref PS), some (.ref ga), some (.ref D), y12] ∧ Fx PS Pt H14 H' ∧ H' PS = some (.lst pxs) ∧ Each (LsN LS PS H') ps pxs ∧ PartX s d M' ps (fun y => procG gs i y ∨ (y ∈ g ∧ ((M' y d : Nat) : Int) ∈ es.take k)) ∧ ∀ q ∈ ps, q ≠ []) ?_ ?_ ?_ ?_
      · refine ⟨ps, pxs, _, _, rfl, Fx.refl, hPS14, hpx11.mono fun q x ⟨a, h1, hn, h2⟩ => ⟨a, h1, hn, s1114 _ _ h2⟩, hPart.to fun y => ⟨.inl, fun h => h.resolve_right fun h => by have := h.2; rw [List.take_zero] at this; cases this⟩, hpne⟩
      · rintro k σ H' _ ⟨ps, pxs, y5, y12, rfl, f15, _⟩
        exact sqd (f15.fr ep _ trivial hepP k14)
      · rintro k x σ H15 hk ⟨ps, pxs, y5, y12, rfl, f15, kP15, hpx15, hPart15, hpne15⟩
        rw [List.getElem?_map] at hk
        obtain ⟨en, hen, rfl⟩ := Option.map_eq_some_iff.mp hk
        have hgaP : ga ≠ PS := hgP
        have kg15 : H15 ga = some (.lst (g.map V.int)) := f15.fr ga _ trivial hgaP kg14
        have kD15 : H15 D = some (.dK (encE l fun x => (rdE A0 cs s d (fun y => y ∈ g) (fun z => Out1 s z ∨ procG gs i z) x : Nat))) := f15.fr D _ trivial hDP kD14
        have hT15 := f15.tb hT14
        refine ⟨_, rfl, .inl ⟨rfl, _, sqd kP15⟩, ?_⟩
        refine ⟨_, rfl, ga, rfl, ⟨_, sqd kg15⟩, fun NL hNL => ?_⟩
        have hNP : NL ≠ Pt := TabG.ne0 hT15 hNL
        refine lc_list (K := K) (a := ga) (xs := g.map V.int) (fun (i' : Nat) (H' : Hp) => Sm Pt H15 H' ∧ H' NL = some (.lst (((g.take i').filter fun y => decide (((M' y d : Nat) : Int) = en)).map V.int))) ?_ ?_ ?_ ?_
        · exact ⟨.of (same_new hNL _), upd_same⟩
        · rintro i' H' _ ⟨s16, _⟩
          exact sqd (s16.lst kg15)
        · rintro i' x H16 hx ⟨s16, k16⟩
          rw [List.getElem?_map] at hx
          obtain ⟨z, hz, rfl⟩ := Option.map_eq_some_iff.mp hx
          have hzg := List.mem_of_getElem? hz
          have hev := encE_val (e := fun x => ((rdE A0 cs s d (fun y => y ∈ g) (fun z => Out1 s z ∨ procG gs i z) x : Nat) : Int)) ((hlm z).mpr hzg)
          rw [hMg z hzg] at hev
          have hlen : ((g.take i').filter fun y => decide (((M' y d : Nat) : Int) = en)).length ≤ 500 := by
            have h1 := List.length_filter_le (fun y => decide (((M' y d : Nat) : Int) = en)) (g.take i')
            rw [List.length_take] at h1
            omega
          refine ⟨rfl, ?_⟩
          refine ⟨_, rfl, _, rfl, D, _, rfl, (hev ▸ DGet.k (k := Sum.inl z) (s16.dK kD15)), _, rfl, rfl, _, rfl, ?_⟩
          rw [List.take_add_one, hz, List.filter_append]
          by_cases hze : ((M' z d : Nat) : Int) = en
          · refine ifT (decide_eq_true (congrArg V.int hze)) ⟨_, rfl, _, k16, big' (by rw [List.length_map]; omega), s16.put hNL hNP, ?_⟩
            rw [upd_same, Option.toList_some, List.filter_cons, if_pos (decide_eq_true hze), List.filter_nil, List.map_append]
            rfl
          · refine ifF (decide_eq_false fun e => hze (V.int.inj e)) ⟨s16, ?_⟩
            rw [Option.toList_some, List.filter_cons, if_neg (by rw [decide_eq_false hze]; exact Bool.false_ne_true), List.filter_nil, List.append_nil]
            exact k16
        rintro H16 ⟨s16, k16⟩
        rw [List.length_map, List.take_length] at k16
        have kP16 := s16.lst kP15
        have hNPS : NL ≠ PS := (ne_of_none kP15 hNL).symm
        have hNLS : NL ≠ LS := by
          have h1 : H15 LS = some (.lst ((bsO n (mB fun y => Out1 s y ∨ procG gs i y ∨ y ∈ g)).map V.bl)) := f15.fr LS _ trivial hLPS (s1114 _ _ kL11)
          exact (ne_of_none h1 hNL).symm
        have hqne : g.filter (fun y => decide (((M' y d : Nat) : Int) = en)) ≠ [] := by
          obtain ⟨y, hy, he⟩ := (hmem2 en).mp (List.mem_of_getElem? hen)
          intro e
          have : y ∈ g.filter (fun y => decide (((M' y d : Nat) : Int) = en)) := List.mem_filter.mpr ⟨hy, decide_eq_true he⟩
          rw [e] at this
          cases this
        have hpl : ps.length ≤ n := hPart15.len (fun y hy => hy.elim (fun ⟨i', g', h1, h2, h3⟩ => hor y ((hgr.mem y).mp ⟨g', List.mem_of_getElem? h2, h3⟩)) fun h => hor y (hgR y h.1)) hpne15
        have hpxl := hpx15.1
        have hPP2 : PS ≠ Pt := hPP
        refine ⟨PS, _, _, rfl, rfl, kP16, big' (by omega), ?_⟩
        refine ⟨ps ++ [g.filter fun y => decide (((M' y d : Nat) : Int) = en)], _, _, _, rfl, (f15.trans (Fx.sm s16)).trans (Fx.put (by rw [kP16]; exact fun h => nomatch h) hPP), upd_same, ?_, ?_, ?_⟩
        · refine Each.snoc (hpx15.mono fun q x ⟨a, h1, hn, h2⟩ => ⟨a, h1, hn, by rw [upd_ne hn.2]; exact s16.lst h2⟩) ⟨NL, rfl, ⟨hNLS, hNPS⟩, by rw [upd_ne hNPS]; exact k16⟩
        · have hfm : ∀ y, y ∈ g.filter (fun y => decide (((M' y d : Nat) : Int) = en)) ↔ y ∈ g ∧ ((M' y d : Nat) : Int) = en := fun y => by rw [List.mem_filter, decide_eq_true_eq]
          refine hPart15.snoc (hgnd.filter _) (fun y hy y' hy' e he hq => ?_) (fun y hy y' hy' => ?_) fun y => ?_
          · obtain ⟨a1, a2⟩ := (hfm y).mp hy
            obtain ⟨b1, b2⟩ := (hfm y').mp hy'
            rcases Nat.lt_or_ge d e with w | w
            · exact hg2 y a1 y' b1 e w hq
            · have : e = d := by omega
              subst this
              omega
          · obtain ⟨b1, b2⟩ := (hfm y').mp hy'
            rcases hy with hy | ⟨h1, h2⟩
            · have h3 : lss (fun x => x ∈ ow) s M d y' y := by rw [(hgrp b1).2]; exact .inr hy
              rcases h3 with h3 | h3
              · obtain ⟨i', g', _, h5, h6⟩ := hy
                have := hor y ((hgr.mem y).mp ⟨g', List.mem_of_getElem? h5, h6⟩)
                have := h3.1
                omega
              · exact (h3.2.congr (fun e he => by rw [← hMe]; exact (upM_hi y' e he).symm) (fun e he => by rw [← hMe]; exact (upM_hi y e he).symm)).low (Nat.le_succ d)
            · refine Gt.of_lt (hg2 y' b1 y h1) hp ?_
              obtain ⟨i1, hi1⟩ := List.getElem?_of_mem h2
              have hi1l := (List.getElem?_eq_some_iff.mp hi1).1
              rw [List.length_take] at hi1l
              rw [List.getElem?_take_of_lt (by omega)] at hi1
              have hkl := (List.getElem?_eq_some_iff.mp hen).1
              have := List.pairwise_iff_getElem.mp hasc i1 k (by omega) hkl (by omega)
              rw [(List.getElem?_eq_some_iff.mp hi1).2, (List.getElem?_eq_some_iff.mp hen).2] at this
              omega
          · rw [hfm, foldK_take hen]
            constructor
            · rintro (h | ⟨h1, h2 | h2⟩)
              · exact .inl (.inl h)
              · exact .inl (.inr ⟨h1, h2⟩)
              · exact .inr ⟨h1, h2⟩
            · rintro ((h | ⟨h1, h2⟩) | ⟨h1, h2⟩)
              · exact .inl h
              · exact .inr ⟨h1, .inl h2⟩
              · exact .inr ⟨h1, .inr h2⟩
        · intro q hq
          rcases List.mem_append.mp hq with h | h
          · exact hpne15 q h
          · rw [List.mem_singleton.mp h]
            exact hqne
      rintro σ H15 ⟨ps', pxs', y5, y12, rfl, f15, kP15, hpx15, hPart15, hpne15⟩
      rw [List.length_map, List.take_length] at hPart15
      refine ⟨ps', pxs', _, _, _, _, rfl, f14.trans ⟨fun x o n h e => f15.fr x o n (fun w => h (.inr (.inr w))) e, f15.tb, f15.dom⟩, ?_, ?_, kP15, hpx15, hPart15.to fun y => ?_, hpne15⟩
      · refine hMd11.same (fun ad h => f15.fr MD _ trivial hMPS (s1114 _ _ h)) (fun a xs h => f15.tup hPS14 (s1114 _ _ h)) fun y hy => (procG_s hg y).symm
      · have h1 : H15 LS = some (.lst ((bsO n (mB fun y => Out1 s y ∨ procG gs i y ∨ y ∈ g)).map V.bl)) := f15.fr LS _ trivial hLPS (s1114 _ _ kL11)
        rw [h1, show mB (fun y => Out1 s y ∨ procG gs i y ∨ y ∈ g) = mB (fun y => Out1 s y ∨ procG gs (i + 1) y) from mB_ext fun y => by rw [procG_s hg]]
      · rw [procG_s hg]
        exact ⟨fun h => h.elim .inl fun h => .inr h.1, fun h => h.elim .inl fun h => .inr ⟨h, (hmem2 _).mpr ⟨y, h, rfl⟩⟩⟩
    rintro σ H9 ⟨ps, pxs, y5', y10', y11', y12', rfl, f9, hMd, kL9, kP9, hpx, hPart, hpne⟩
    rw [hgxl] at hMd hPart
    have hallR : ∀ y, procG gs gs.length y ↔ y ∈ ow := fun y => (procG_all y).trans (hgr.mem y)
    have hPart2 := hPart.to hallR
    refine ⟨_, rfl, M', ps, PS, _, _, _, _, _, _, _, rfl, f9.close hSn hS8, ⟨?_, pxs, kP9, hpx.mono fun q x ⟨a, h1, _, h2⟩ => ⟨a, h1, h2⟩⟩, ?_, by have := hPart2.len hor hpne; omega⟩
    · obtain ⟨ad, h1, h2⟩ := hMd
      refine ⟨ad, h1, fun x hx => ?_⟩
      have h3 := h2 x hx
      rw [mB_t.mpr ((hallR x).mpr hx), if_pos rfl] at h3
      rw [← hMe, ← hd, msT_next hjt (by rw [hd]; exact hp), hd, hMe]
      rw [hd] at h3
      exact h3
    · rw [← hMe, ← hd]
      refine hLev.next (n := n) hor hjt (by rw [hd]; exact hp) (KK := KK) (by rw [hd]; exact hKK) ?_
      rw [hd, hMe]
      exact hPart2
  rintro σ H3 ⟨M, gs, GL, y5, y7, y8, y9, y10, y11, y12, rfl, s3, ⟨⟨ad, kM, ha⟩, _⟩, hLev, _⟩
  exact ⟨_, rfl, q t M ad MD H3 s3 hMD kM ha ⟨hTop, hLev.bd, fun d h1 h2 => hLev.sp d (by omega) h1 h2⟩⟩
end
end NL

set_option maxHeartbeats 4000000
namespace NL
open PySem PySem.Spec PyProof.Rows L2
/-! ### the labels of colours, without options and replies; owners -/
theorem TopC.ex {cs : List Int} (h : ∀ c ∈ cs, 0 ≤ c) : ∃ t, TopC cs t := by
  induction cs with
  | nil => exact ⟨0, ⟨fun _ => rfl, fun h => absurd rfl h, fun c h => (by cases h)⟩⟩
  | cons a r ih =>
    obtain ⟨t, ht⟩ := ih fun c hc => h c (List.mem_cons_of_mem _ hc)
    have ha := h a (List.mem_cons_self ..)
    by_cases hat : a ≤ ((t : Nat) : Int) ∧ r ≠ []
    · exact ⟨t, ⟨fun e => (by cases e), fun _ => List.mem_cons_of_mem _ (ht.mem hat.2), fun c hc => (List.mem_cons.mp hc).elim (fun e => by rw [e]; exact hat.1) (ht.le c)⟩⟩
    · refine ⟨a.toNat, ⟨fun e => (by cases e), fun _ => ?_, fun c hc => ?_⟩⟩
      · rw [Int.toNat_of_nonneg ha]
        exact List.mem_cons_self ..
      · rw [Int.toNat_of_nonneg ha]
        rcases List.mem_cons.mp hc with e | e
        · rw [e]
          exact Int.le_refl _
        · have := ht.le c e
          have hr : r ≠ [] := fun e2 => by rw [e2] at e; cases e
          have : ¬ a ≤ ((t : Nat) : Int) := fun e3 => hat ⟨e3, hr⟩
          omega
theorem TopC.uniq {cs : List Int} {t t' : Nat} (h : TopC cs t) (h' : TopC cs t') : t = t' := by
  by_cases e : cs = []
  · rw [h.nil e, h'.nil e]
  · have h1 := h'.le _ (h.mem e)
    have h2 := h.le _ (h'.mem e)
    omega
/-- the sides of all positions -/
def SdIs (A : Ar) (cs : List Int) (sd : Int → Bool) : Prop := ∀ b, (∀ x, 0 ≤ x → x < (A.length : Int) → colF cs x < b) → ∀ x, 0 ≤ x → x < (A.length : Int) → ∀ r, sd x = r ↔ Own (psO A) (colF cs) b A.length r x
/-- the positions of a side -/
def slF (n : Nat) (sd : Int → Bool) (s : Bool) : List Int := ((List.range n).filter fun i : Nat => decide (sd (i : Int) = s)).map fun i : Nat => (i : Int)
theorem slF_mem {n : Nat} {sd : Int → Bool} {s : Bool} {x : Int} : x ∈ slF n sd s ↔ (0 ≤ x ∧ x < (n : Int)) ∧ sd x = s := by
  unfold slF
  rw [List.mem_map]
  constructor
  · rintro ⟨k, hk, rfl⟩
    obtain ⟨h1, h2⟩ := List.mem_filter.mp hk
    have := List.mem_range.mp h1
    exact ⟨by omega, of_decide_eq_true h2⟩
  · rintro ⟨h1, h2⟩
    exact ⟨x.toNat, List.mem_filter.mpr ⟨List.mem_range.mpr (by omega), decide_eq_true (by rw [show ((x.toNat : Nat) : Int) = x by omega]; exact h2)⟩, by omega⟩
theorem slF_s (n : Nat) (sd : Int → Bool) (s : Bool) : slF (n + 1) sd s = slF n sd s ++ (if sd (n : Int) = s then [(n : Int)] else []) := by
  unfold slF
  rw [List.range_succ, List.filter_append, List.map_append]
  congr 1
  rw [List.filter_cons]
  by_cases h : sd (n : Int) = s
  · rw [if_pos h, if_pos (decide_eq_true h)]
    rfl
  · rw [if_neg h, if_neg (by rw [decide_eq_false h]; exact Bool.false_ne_true)]
    rfl
theorem slF_nodup (n : Nat) (sd : Int → Bool) (s : Bool) : (slF n sd s).Nodup := by
  unfold slF
  refine List.nodup_iff_pairwise_ne.mpr (List.pairwise_map.mpr ?_)
  exact (List.nodup_iff_pairwise_ne.mp (List.nodup_range.filter _)).imp fun h e => h (Int.ofNat.inj e)
theorem slF_len (n : Nat) (sd : Int → Bool) (s : Bool) : (slF n sd s).length ≤ n := by
  unfold slF
  rw [List.length_map]
  have := List.length_filter_le (fun i : Nat => decide (sd (i : Int) = s)) (List.range n)
  rw [List.length_range] at this
  exact this
def kdS (s : Bool) : Str := if s = true then "odd" else "even"
def DrOk (H : Hp) (s : Bool) (t : Nat) (m : Nat → Nat) (v : V) : Prop := ∃ tp ma, v = .ref tp ∧ H tp = some (.tup [.str (kdS s), .ref ma]) ∧ H ma = some (.tup ((msT t s (t + 1) m).map V.int))
theorem DrOk.tp {H H' : Hp} {s : Bool} {t : Nat} {m : Nat → Nat} {v : V} (k : Tp H H') (h : DrOk H s t m v) : DrOk H' s t m v := by
  obtain ⟨tp, ma, h1, h2, h3⟩ := h
  exact ⟨tp, ma, h1, k _ _ h2, k _ _ h3⟩
section
variable {P : Program} {w : World} {K : PySem.W.Frag} {mg : Str → Option Value} {base : Heap}
def spColD (Pt : Addr) : Sp := fun vs H Q _ => ∃ (v : V) (A : Ar) (cp : Addr) (cs : List Int), vs = [v, .ref cp] ∧ ArIn H A v ∧ ArG A ∧ A.length ≤ 63 ∧ InA A A.length ∧ H cp = some (.tup (cs.map V.int)) ∧ cs.length = A.length ∧ (∀ c ∈ cs, 0 ≤ c ∧ c < 45) ∧ GxR.TabG H Pt ∧
  ∀ (t : Nat) (sd : Int → Bool) (MM : Bool → Int → Nat → Nat) (ds : List V) dl H', Sm Pt H H' → H dl = none → H' dl = some (.lst ds) → SdIs A cs sd → (∀ s, LeastM A cs s (fun x => x ∈ slF A.length sd s) t (MM s)) → ds.length = A.length →
    (∀ (k : Nat), k < A.length → ∃ u, ds[k]? = some u ∧ DrOk H' (sd (k : Int)) t (MM (sd (k : Int)) (k : Int)) u) → Q (.ref dl) H'
theorem ok_colour_drafts (T : Txt K mg) {c Pt : Addr} (TB : GxR.TabB base mg c Pt) (hc : T.dforces.code = .ref c) : FnOk P w K mg base CX0 54 T.a_colour_drafts T.d_colour_drafts P_colour_drafts (spColD Pt) := by
  have Gcolour_owners := ok_colour_owners (P := P) (w := w) T TB hc
  have Gleast_measures := ok_least_measures (P := P) (w := w) T TB hc
  refine T.F_colour_drafts.ok sc_colour_drafts (fun vs H Q E h => ?_) (fun cdv A outer s H vs Q E hr h => ?_)
  · obtain ⟨v, A, cp, cs, rfl, _⟩ := h
    rfl
  obtain ⟨v, A0, cp, cs, rfl, hA, hAG, hn, hin, hcp, hcl, hc0, hT, q⟩ := h
  generalize hnn : A0.length = n at *
  obtain ⟨t, hTop⟩ := TopC.ex (cs := cs) fun c hc => (hc0 c hc).1
  refine ⟨_, (pss_cons (ps_set (i := 2) sc_colour_drafts.nd rfl (Or.inr rfl) (pe_call Gcolour_owners (hr.mono (by omega)) (by rfl) T.mcolour_owners T.Fcolour_owners.kp T.bcolour_owners .nil pass0 (pa_cons (pv 0) (pa_cons (pv 1) pa_nil))))
    (pss_cons (ps_set (i := 3) sc_colour_drafts.nd rfl (Or.inl rfl) (pe_op op_rep (pe_lst (pa_cons (pe_tup pa_nil) pa_nil)) (pe_callB call_len_seq (by rfl) T.z_len PySem.boot_len (pa_cons (pv 0) pa_nil))))
    (pss_cons (ps_for  PassesOwn.never rfl (pi_tup (pe_tup (pa_cons (pe_tup (pa_cons pe_str (pa_cons (pe_glob rfl T.g_CONTROLLER T.r_CONTROLLER) pa_nil))) (pa_cons (pe_tup (pa_cons pe_str (pa_cons (pe_glob rfl T.g_DISTURBANCE T.r_DISTURBANCE) pa_nil))) pa_nil)))) (pg_tup rfl (pgs_cons (pg_name (i := 4) sc_colour_drafts.nd rfl (Or.inl rfl)) (pgs_cons (pg_name (i := 5) sc_colour_drafts.nd rfl (Or.inr rfl)) pgs_nil)))
    (pss_cons (ps_setLc (i := 6) (own := [("at", 7)]) (g := (gName 7)) (tt := _) rfl sc_colour_drafts.nd rfl rfl (sw_true rfl rfl rfl (by decide +kernel)) (pi_range1 (by rfl) T.z_range (pa_cons (pe_callB call_len_seq (by rfl) T.z_len PySem.boot_len (pa_cons (pv 0) pa_nil)) pa_nil)) (blkOk_by (N := N_colour_drafts) (sc := defScope s_colour_drafts) (by decide +kernel)) (fun _ _ _ _ _ => (pg_name (i := 7) sc_colour_drafts.nd rfl (Or.inl rfl))) (fun _ _ _ _ _ => (pts_one (pt_cmpR op_eq (pe_ix (ix_listK (K := K) rfl) (pv 2) (pv 7) (fun _ _ => rfl)) (pv 5) (nomark _)))) (fun _ _ _ _ _ => (pv 7)))
    (pss_cons (ps_set (i := 8) sc_colour_drafts.nd rfl (Or.inl rfl) (pe_call Gleast_measures (hr.mono (by omega)) (by rfl) T.mleast_measures T.Fleast_measures.kp T.bleast_measures .nil pass0 (pa_cons (pv 0) (pa_cons (pv 1) (pa_cons (pv 5) (pa_cons (pv 6) pa_nil))))))
    (pss_one (ps_for  PassesOwn.never rfl (pi_list (pv 6)) (pg_name (i := 7) sc_colour_drafts.nd rfl (Or.inl rfl))
    (pss_one (ps_asg (pe_tup (pa_cons (pv 4) (pa_cons (pe_dget (hu_of hr) (pv 8) (pv 7) (fun _ _ => rfl)) pa_nil))) (pg_sub (pv 3) (pv 7) set_list))))))))
    (pss_one (ps_ret (pv 3)))))), ?_⟩
  refine ⟨_, rfl, _, rfl, v, A0, cp, cs, rfl, hA, by omega, by rw [hnn]; exact hin, hcp, by omega, hc0, hT, fun g sl H1 s1 hsl k1 tot hown => ?_⟩
  rw [hnn] at k1 hown
  obtain ⟨sd, hsd⟩ : ∃ sd : Int → Bool, ∀ x r, g x = some r ↔ sd x = r := ⟨fun x => (g x).getD false, fun x r => by
    dsimp only
    cases hg : g x with
    | none => exact absurd hg (tot x)
    | some r' => exact ⟨fun e => Option.some.inj e, fun e => congrArg some e⟩⟩
  have hSd : SdIs A0 cs sd := fun b hb x h0 h1 r => (hsd x r).symm.trans (by rw [hnn] at hb h1 ⊢; exact hown b hb x h0 h1 r)
  obtain ⟨b0, xs, rfl, hb0, hxs⟩ := id hA
  have hxl := hxs.1
  have hT1 := s1.tb hT
  refine ⟨Nat.zero_le _, fun te hte => ?_⟩
  obtain ⟨H2, e2, s2, k2⟩ := newH hte (.tup [])
  rw [e2]
  refine ⟨Nat.le_of_ble_eq_true rfl, fun l1 hl1 => ?_⟩
  obtain ⟨H3, e3, s3, k3⟩ := newH hl1 (.lst [V.ref te])
  rw [e3]
  have s13 : Sm Pt H H3 := s1.trans (.of (s2.trans s3))
  refine ⟨_, rfl, b0, _, rfl, .inr (sqt (s13.tup hb0)), l1, _, _, rfl, rfl, k3, by omega, by omega, big (by rw [List.length_singleton]; omega), fun DL hDL => ?_⟩
  obtain ⟨H4, e4, s4, k4⟩ := newH hDL (.lst (List.replicate ((xs.length : Nat) : Int).toNat [V.ref te]).flatten)
  rw [e4]
  have hfl : (List.replicate ((xs.length : Nat) : Int).toNat [V.ref te]).flatten = List.replicate n (V.ref te) := by
    rw [Int.toNat_natCast, hxl, hnn]
    generalize n = m
    induction m with
    | zero => rfl
    | succ m ih =>
      rw [List.replicate_succ, List.flatten_cons, ih, List.replicate_succ]
      rfl
  rw [hfl] at k4
  have s04 : Sm Pt H H4 := s13.trans (.of s4)
  have hDLH : H DL = none := s13.dom _ hDL
  have hDP : DL ≠ Pt := TabG.ne0 hT hDLH
  refine ⟨Nat.le_of_ble_eq_true rfl, fun t1 ht1 => ?_⟩
  obtain ⟨H5, e5, s5, k5⟩ := newH ht1 (.tup [.str "even", .int 0])
  rw [e5]
  refine ⟨Nat.le_of_ble_eq_true rfl, fun t2 ht2 => ?_⟩
  obtain ⟨H6, e6, s6, k6⟩ := newH ht2 (.tup [.str "odd", .int 1])
  rw [e6]
  refine ⟨Nat.le_of_ble_eq_true rfl, fun tt htt => ?_⟩
  obtain ⟨H7, e7, s7, k7⟩ := newH htt (.tup [.ref t1, .ref t2])
  rw [e7]
  have s47 : Same H4 H7 := (s5.trans s6).trans s7
  have s07 : Sm Pt H H7 := s04.trans (.of s47)
  have kD7 := s47 _ _ k4
  have kt1 := s7 _ _ (s6 _ _ k5)
  have kt2 := s7 _ _ k6
  have ksl7 : H7 sl = some (.lst (osO n g)) := s47 _ _ (s4 _ _ (s3 _ _ (s2 _ _ k1)))
  have hslD : sl ≠ DL := ne_of_none (s3 _ _ (s2 _ _ k1)) hDL
  refine ⟨tt, rfl, ⟨_, sqt k7⟩, ?_⟩
  refine for_tup (K := K) (a := tt) (xs := [V.ref t1, V.ref t2]) (fun (j : Nat) (σ : L2.St) (H' : Hp) => ∃ (MM : Bool → Int → Nat → Nat) (ds : List V) (y4 y5 y6 y7 y8 : Option V), σ = [some (.ref b0), some (.ref cp), some (.ref sl), some (.ref DL), y4, y5, y6, y7, y8] ∧ Fx DL Pt H7 H' ∧ H' DL = some (.lst ds) ∧ ds.length = n ∧
    ∀ s : Bool, (if s = true then 2 ≤ j else 1 ≤ j) → LeastM A0 cs s (fun x => x ∈ slF n sd s) t (MM s) ∧ ∀ k : Nat, k < n → sd (k : Int) = s → ∃ u, ds[k]? = some u ∧ DrOk H' s t (MM s (k : Int)) u) ?_ ?_ ?_ ?_
  · exact ⟨fun _ _ _ => 0, _, _, _, _, _, _, rfl, Fx.refl, kD7, by rw [List.length_replicate], fun s h => by cases s <;> exact absurd h (by decide)⟩
  · rintro j σ H' _ ⟨MM, ds, y4, y5, y6, y7, y8, rfl, f8, _⟩
    exact sqt (f8.tup kD7 k7)
  · rintro j x σ H8 hx ⟨MM, ds, y4, y5, y6, y7, y8, rfl, f8, kD8, hdl, hds⟩
    obtain ⟨r, ta, hrj, rfl, kta⟩ : ∃ (r : Bool) (ta : Addr), r = decide (j = 1) ∧ x = V.ref ta ∧ H8 ta = some (.tup [.str (kdS r), .int (sI r)]) := by
      match j, hx with
      | 0, hx => exact ⟨false, t1, rfl, (Option.some.inj hx).symm, f8.tup kD7 kt1⟩
      | 1, hx => exact ⟨true, t2, rfl, (Option.some.inj hx).symm, f8.tup kD7 kt2⟩
      | j + 2, hx => cases hx
    have hj2 : j < 2 := (List.getElem?_eq_some_iff.mp hx).1
    refine ⟨ta, _, rfl, sqt kta, rfl, _, _, rfl, _, _, rfl, rfl, ?_⟩
    have s08 : Sm Pt H H8 := f8.close hDLH s07
    have hT8 := s08.tb hT
    have ksl8 : H8 sl = some (.lst (osO n g)) := f8.fr sl _ trivial hslD ksl7
    refine ⟨_, rfl, b0, _, rfl, .inr (sqt (s08.tup hb0)), _, rfl, by omega, by omega, fun OW hOW => ?_⟩
    have hOP : OW ≠ Pt := TabG.ne0 hT8 hOW
    refine lc_range (lo := 0) (n := ((xs.length : Nat) : Int).toNat) (fun (i : Nat) (H' : Hp) => Sm Pt H8 H' ∧ H' OW = some (.lst ((slF i sd r).map V.int))) ?_ ?_ ?_
    · exact ⟨.of (same_new hOW _), upd_same⟩
    · rintro i H9 hi ⟨s9, k9⟩
      have hin2 : i < n := by omega
      have hsc : scal (owV (g (i : Int))) (V.int (sI r)) = true := by
        cases g (i : Int) <;> rfl
      have hsl := slF_len i sd r
      refine ⟨rfl, ?_⟩
      refine ⟨_, rfl, _, rfl, sl, _, _, _, rfl, rfl, sqd (s9.lst ksl8), by rw [Int.zero_add]; exact osO_at (by omega) (by omega), _, rfl, hsc, _, rfl, ?_⟩
      rw [slF_s]
      by_cases hi2 : sd (i : Int) = r
      · refine ifT (decide_eq_true (owV_some.mpr ((hsd _ _).mpr hi2))) ⟨_, rfl, _, k9, big' (by rw [List.length_map]; omega), s9.put hOW hOP, ?_⟩
        rw [upd_same, if_pos hi2, List.map_append, Int.zero_add]
        rfl
      · refine ifF (decide_eq_false fun e => hi2 ((hsd _ _).mp (owV_some.mp e))) ⟨s9, ?_⟩
        rw [if_neg hi2, List.append_nil]
        exact k9
    rintro H9 ⟨s9, k9⟩
    rw [show ((xs.length : Nat) : Int).toNat = n by omega] at k9
    have s09 := s08.trans s9
    refine ⟨_, rfl, _, rfl, _, rfl, _, rfl, .ref b0, A0, cp, OW, cs, r, slF n sd r, rfl, hA.tp s09.tp, hAG, by omega, by rw [hnn]; exact hin, s09.tup hcp, by omega, hc0, s09.tb hT, k9, slF_nodup n sd r, fun b hb x => ?_, fun t' M ad MD H10 s10 hMD kMD hme hLM => ?_⟩
    · rw [slF_mem]
      constructor
      · rintro ⟨h1, h2⟩
        exact (hSd b hb x h1.1 (by rw [hnn]; exact h1.2) r).mp h2
      · intro h
        have h1 := h.rg
        rw [hnn] at h1
        exact ⟨h1, (hSd b hb x h1.1 (by rw [hnn]; exact h1.2) r).mpr h⟩
    obtain rfl : t' = t := hLM.top.uniq hTop
    have s010 := s09.trans s10
    have kO10 := s10.lst k9
    have kD10 : H10 DL = some (.lst ds) := (s9.trans s10).lst kD8
    have hODL : OW ≠ DL := (ne_of_none kD8 hOW).symm
    have hMDL : MD ≠ DL := (ne_of_none (s9.lst kD8) hMD).symm
    refine ⟨_, rfl, OW, rfl, ⟨_, sqd kO10⟩, ?_⟩
    refine for_list (K := K) (a := OW) (xs := (slF n sd r).map V.int) (fun (i : Nat) (σ : L2.St) (H' : Hp) => ∃ (ds' : List V) (y7 : Option V), σ = [some (.ref b0), some (.ref cp), some (.ref sl), some (.ref DL), some (.str (kdS r)), some (.int (sI r)), some (.ref OW), y7, some (.ref MD)] ∧ Fx DL Pt H10 H' ∧ H' DL = some (.lst ds') ∧ ds'.length = n ∧ (∀ k : Nat, (k : Int) ∈ (slF n sd r).take i → ∃ u, ds'[k]? = some u ∧ DrOk H' r t' (M (k : Int)) u) ∧ ∀ k : Nat, (k : Int) ∉ (slF n sd r).take i → ds'[k]? = ds[k]?) ?_ ?_ ?_ ?_
    · exact ⟨ds, _, rfl, Fx.refl, kD10, hdl, fun k h => (by rw [List.take_zero] at h; cases h), fun k _ => rfl⟩
    · rintro i σ H' _ ⟨ds', y7, rfl, f11, _⟩
      exact sqd (f11.fr OW _ trivial hODL kO10)
    · rintro i x σ H11 hi ⟨ds', y7, rfl, f11, kD11, hdl', hd1, hd2⟩
      rw [List.getElem?_map] at hi
      obtain ⟨z, hz, rfl⟩ := Option.map_eq_some_iff.mp hi
      have hzm := List.mem_of_getElem? hz
      have hzr := (slF_mem.mp hzm).1
      have kMD11 : H11 MD = some (.dK (encR (slF n sd r) ad)) := f11.fr MD _ trivial hMDL kMD
      refine ⟨_, rfl, _, rfl, _, rfl, MD, _, rfl, (encR_val (ad := ad) hzm ▸ DGet.k (k := Sum.inl z) kMD11), Nat.le_of_ble_eq_true rfl, fun np hnp => ?_⟩
      obtain ⟨H12, e12, s12, k12⟩ := newH hnp (.tup [.str (kdS r), .ref (ad z)])
      rw [e12]
      have kD12 := s12 _ _ kD11
      refine ⟨_, rfl, _, rfl, DL, _, _, _, rfl, rfl, kD12, ixN_in (by omega) (by omega), ?_⟩
      have hnpD : np ≠ DL := (ne_of_none kD11 hnp).symm
      have kp : ∀ {b : Addr} {us : List V}, H12 b = some (.tup us) → upd H12 DL (.lst (ds'.set z.toNat (.ref np))) b = some (.tup us) := fun {b us} e => by
        rw [upd_ne (fun w => by rw [w, kD12] at e; cases e)]
        exact e
      have hzn : ((z.toNat : Nat) : Int) = z := by omega
      refine ⟨_, _, rfl, (f11.trans (.of s12)).trans (Fx.put (by rw [kD12]; exact fun h => nomatch h) hDP), upd_same, by rw [List.length_set]; exact hdl', fun k hk => ?_, fun k hk => ?_⟩
      · by_cases hkz : k = z.toNat
        · subst hkz
          refine ⟨.ref np, by rw [List.getElem?_set, if_pos rfl, if_pos (by omega)], np, ad z, rfl, kp k12, ?_⟩
          rw [hzn]
          exact kp (s12 _ _ (f11.tup kD10 (hme z hzm)))
        · have hk' : (k : Int) ∈ (slF n sd r).take i := ((foldK_take hz _).mp hk).resolve_right fun e => hkz (by omega)
          obtain ⟨u, h1, h2⟩ := hd1 k hk'
          refine ⟨u, by rw [List.getElem?_set, if_neg fun e => hkz e.symm]; exact h1, ?_⟩
          obtain ⟨tp, ma, g1, g2, g3⟩ := h2
          exact ⟨tp, ma, g1, kp (s12 _ _ g2), kp (s12 _ _ g3)⟩
      · have hkz : z.toNat ≠ k := fun e => hk ((foldK_take hz _).mpr (.inr (by omega)))
        rw [List.getElem?_set, if_neg hkz]
        exact hd2 k fun h => hk ((foldK_take hz _).mpr (.inl h))
    rintro σ H11 ⟨ds', y7', rfl, f11, kD11, hdl', hd1, hd2⟩
    rw [List.length_map, List.take_length] at hd1 hd2
    have tp11 : ∀ {b us}, H8 b = some (.tup us) → H11 b = some (.tup us) := fun {b us} e => f11.tup kD10 ((s9.trans s10).tup e)
    refine ⟨fun s => if s = r then M else MM s, ds', _, _, _, _, _, rfl, (f8.trans (Fx.sm (s9.trans s10))).trans f11, kD11, hdl', fun s hs => ?_⟩
    by_cases hsr : s = r
    · subst hsr
      dsimp only
      rw [if_pos rfl]
      exact ⟨hLM, fun k hk hks => hd1 k (slF_mem.mpr ⟨⟨by omega, by omega⟩, hks⟩)⟩
    · dsimp only
      rw [if_neg hsr]
      have hs2 : if s = true then 2 ≤ j else 1 ≤ j := by
        cases s with
        | true =>
          have : j ≠ 1 := fun e => hsr (by rw [hrj, decide_eq_true e])
          rw [if_pos rfl] at hs
          omega
        | false =>
          have : j ≠ 0 := fun e => hsr (by rw [hrj, e]; rfl)
          rw [if_neg Bool.false_ne_true]
          omega
      obtain ⟨h1, h2⟩ := hds s hs2
      refine ⟨h1, fun k hk hks => ?_⟩
      obtain ⟨u, h3, h4⟩ := h2 k hk hks
      refine ⟨u, by rw [hd2 k fun h => hsr (hks.symm.trans (slF_mem.mp h).2)]; exact h3, ?_⟩
      obtain ⟨tp, ma, g1, g2, g3⟩ := h4
      exact ⟨tp, ma, g1, tp11 g2, tp11 g3⟩
  rintro σ H8 ⟨MM, ds, y4, y5, y6, y7, y8, rfl, f8, kD8, hdl, hds⟩
  have hds2 : ∀ s, LeastM A0 cs s (fun x => x ∈ slF n sd s) t (MM s) ∧ ∀ k : Nat, k < n → sd (k : Int) = s → ∃ u, ds[k]? = some u ∧ DrOk H8 s t (MM s (k : Int)) u := fun s => hds s ((by intro s; cases s <;> decide : ∀ s : Bool, if s = true then 2 ≤ 2 else 1 ≤ 2) s)
  refine ⟨_, rfl, q t sd MM ds DL H8 (f8.close hDLH s07) hDLH kD8 hSd (fun s => (hds2 s).1) hdl fun k hk => ?_⟩
  exact (hds2 (sd (k : Int))).2 k hk rfl
/-! ### _drafts, owners -/
theorem gx_never {P : Program} {w : World} {K : PySem.W.Frag} {mg : Str → Option Value} {base : Heap} {n : Nat} {v : Addr} {d : FuncData} {ps : List Str} : FnOk P w K mg base CX0 n v d ps (fun _ _ _ _ => False) := ⟨fun vs H Q E h => h.elim, fun A outer s H args us vs Q E _ _ _ _ h => h.elim⟩
end
end NL

set_option maxHeartbeats 4000000
namespace NL
open PySem PySem.Spec PyProof.Rows L2
def sdS (s : Bool) : V := .str (if s = true then "disturbance" else "controller")
section
variable {P : Program} {w : World} {K : PySem.W.Frag} {mg : Str → Option Value} {base : Heap}
def spHasC : Sp := fun vs H Q _ => ∃ (a : Addr) (s : Bool) (r : List V), vs = [.ref a] ∧ H a = some (.tup (.str (kdS s) :: r)) ∧ Q (.bl (!s)) H
theorem gx_hasC (T : Txt K mg) : FnOk P w K mg base CX0 1 T.ahas_option T.dhas_option Phas_option spHasC := by
  refine T.Fhas_option.ok schas_option (fun vs H Q E h => ?_) (fun cdv A outer s H vs Q E hr h => ?_)
  · obtain ⟨a, s, r, rfl, _⟩ := h
    rfl
  obtain ⟨a, s, r, rfl, e, q⟩ := h
  refine ⟨_, (pss_one (ps_ret (pe_cmpR op_in_seq (pe_ix ix_tup (pv 0) pe_int (fun _ _ => rfl)) (pe_glob (v := .ref T.c_OPTION_KINDS) rfl T.g_OPTION_KINDS rfl) (by rfl)))), ?_⟩
  have hb : inV (.str (kdS s)) [(.str "holds"), (.str "comes"), (.str "even"), (.str "keeps")] = !s := by cases s <;> decide
  exact ⟨_, rfl, a, _, _, _, rfl, rfl, sqt e, atI0, T.c_OPTION_KINDS, _, rfl, .inr (.inr T.k_OPTION_KINDS), rfl, by decide, boolE hb q⟩
def spDrC (Pt : Addr) : Sp := fun vs H Q _ => ∃ (v : V) (A : Ar) (g cp : Addr) (cs : List Int), vs = [v, .ref g] ∧ H g = some (.tup [.str "colours", .ref cp]) ∧ ArIn H A v ∧ ArG A ∧ A.length ≤ 63 ∧ InA A A.length ∧ H cp = some (.tup (cs.map V.int)) ∧ cs.length = A.length ∧ (∀ c ∈ cs, 0 ≤ c ∧ c < 45) ∧ GxR.TabG H Pt ∧
  ∀ (t : Nat) (sd : Int → Bool) (MM : Bool → Int → Nat → Nat) (ds : List V) dl H', Sm Pt H H' → H dl = none → H' dl = some (.lst ds) → SdIs A cs sd → (∀ s, LeastM A cs s (fun x => x ∈ slF A.length sd s) t (MM s)) → ds.length = A.length →
    (∀ (k : Nat), k < A.length → ∃ u, ds[k]? = some u ∧ DrOk H' (sd (k : Int)) t (MM (sd (k : Int)) (k : Int)) u) → Q (.ref dl) H'
theorem gx_draftsC (T : Txt K mg) {c Pt : Addr} (TB : GxR.TabB base mg c Pt) (hc : T.dforces.code = .ref c) : FnOk P w K mg base CX0 55 T.a_drafts T.d_drafts P_drafts (spDrC Pt) := by
  have G_colour_drafts := ok_colour_drafts (P := P) (w := w) T TB hc
  have Gcome_ranks : FnOk P w K mg base CX0 1 T.acome_ranks T.dcome_ranks Pcome_ranks (fun _ _ _ _ => False) := gx_never
  have Gstay_ranks : FnOk P w K mg base CX0 1 T.astay_ranks T.dstay_ranks Pstay_ranks (fun _ _ _ _ => False) := gx_never
  have G_tank_drafts : FnOk P w K mg base CX0 1 T.a_tank_drafts T.d_tank_drafts P_tank_drafts (fun _ _ _ _ => False) := gx_never
  refine T.F_drafts.ok sc_drafts (fun vs H Q E h => ?_) (fun cdv A outer s H vs Q E hr h => ?_)
  · obtain ⟨v, A, g, cp, cs, rfl, _⟩ := h
    rfl
  obtain ⟨v, A0, g, cp, cs, rfl, eg, hA, hAG, hn, hin, hcp, hcl, hc0, hT, q⟩ := h
  refine ⟨_, (pss_cons (ps_asg (pv 1) (pg_tup rfl (pgs_cons (pg_name (i := 2) sc_drafts.nd rfl (Or.inl rfl)) (pgs_cons (pg_name (i := 3) sc_drafts.nd rfl (Or.inl rfl)) pgs_nil))))
    (pss_cons (ps_if (pt_cmpR op_eq (pv 2) pe_str (nomark _))
    (pss_cons (ps_set (i := 4) sc_drafts.nd rfl (Or.inl rfl) (pe_call Gstay_ranks (hr.mono (by omega)) (by rfl) T.mstay_ranks T.Fstay_ranks.kp T.bstay_ranks .nil pass0 (pa_cons (pv 0) (pa_cons (pv 3) pa_nil))))
    (pss_one (ps_ret (pe_lc (own := [("rank", 5)]) (g := (gName 5)) (tt := tYes) rfl sc_drafts.nd (pi_list (pv 4)) (blkOk_by (N := N_drafts) (sc := defScope s_drafts) (by decide +kernel)) (fun _ _ _ _ _ => (pg_name (i := 5) sc_drafts.nd rfl (Or.inl rfl))) (fun _ _ _ _ _ => pts_nil) (fun _ _ _ _ _ => (pe_ifExp (pt_cmpR op_isN (pv 5) pe_non (nomark _)) (pe_tup (pa_cons pe_str pa_nil)) (pe_tup (pa_cons pe_str (pa_cons (pv 5) pa_nil)))))))))
    pss_nil)
    (pss_cons (ps_if (pt_cmpR op_eq (pv 2) pe_str (nomark _))
    (pss_cons (ps_set (i := 4) sc_drafts.nd rfl (Or.inl rfl) (pe_call Gcome_ranks (hr.mono (by omega)) (by rfl) T.mcome_ranks T.Fcome_ranks.kp T.bcome_ranks .nil pass0 (pa_cons (pv 0) (pa_cons (pv 3) pa_nil))))
    (pss_one (ps_ret (pe_lc (own := [("rank", 5)]) (g := (gName 5)) (tt := tYes) rfl sc_drafts.nd (pi_list (pv 4)) (blkOk_by (N := N_drafts) (sc := defScope s_drafts) (by decide +kernel)) (fun _ _ _ _ _ => (pg_name (i := 5) sc_drafts.nd rfl (Or.inl rfl))) (fun _ _ _ _ _ => pts_nil) (fun _ _ _ _ _ => (pe_ifExp (pt_cmpR op_isN (pv 5) pe_non (nomark _)) (pe_tup (pa_cons pe_str pa_nil)) (pe_tup (pa_cons pe_str (pa_cons (pv 5) pa_nil)))))))))
    pss_nil)
    (pss_cons (ps_if (pt_cmpR op_eq (pv 2) pe_str (nomark _))
    (pss_one (ps_ret (pe_call G_colour_drafts (hr.mono (by omega)) (by rfl) T.m_colour_drafts T.F_colour_drafts.kp T.b_colour_drafts .nil pass0 (pa_cons (pv 0) (pa_cons (pv 3) pa_nil)))))
    pss_nil)
    (pss_one (ps_ret (pe_call G_tank_drafts (hr.mono (by omega)) (by rfl) T.m_tank_drafts T.F_tank_drafts.kp T.b_tank_drafts .nil pass0 (pa_cons (pv 0) (pa_cons (pv 3) pa_nil))))))))), ?_⟩
  refine ⟨_, rfl, g, _, rfl, sqt eg, rfl, _, _, rfl, _, _, rfl, rfl, ?_⟩
  refine ⟨_, rfl, rfl, _, rfl, ifF (by decide) ?_⟩
  refine ⟨_, rfl, rfl, _, rfl, ifF (by decide) ?_⟩
  refine ⟨_, rfl, rfl, _, rfl, ifT (by decide) ?_⟩
  exact ⟨_, rfl, _, rfl, v, A0, cp, cs, rfl, hA, hAG, hn, hin, hcp, hcl, hc0, hT, q⟩
def spOwnC (Pt : Addr) : Sp := fun vs H Q _ => ∃ (v : V) (A : Ar) (g cp : Addr) (cs : List Int), vs = [v, .ref g] ∧ H g = some (.tup [.str "colours", .ref cp]) ∧ ArIn H A v ∧ ArG A ∧ A.length ≤ 63 ∧ InA A A.length ∧ H cp = some (.tup (cs.map V.int)) ∧ cs.length = A.length ∧ (∀ c ∈ cs, 0 ≤ c ∧ c < 45) ∧ GxR.TabG H Pt ∧
  ∀ (sd : Int → Bool) p H', Sm Pt H H' → H' p = some (.tup ((List.range A.length).map fun k : Nat => sdS (sd (k : Int)))) → SdIs A cs sd → Q (.ref p) H'
theorem gx_ownersC (T : Txt K mg) {c Pt : Addr} (TB : GxR.TabB base mg c Pt) (hc : T.dforces.code = .ref c) : FnOk P w K mg base CX0 56 T.aowners T.downers Powners (spOwnC Pt) := by
  have G_drafts := gx_draftsC (P := P) (w := w) T TB hc
  have Ghas_option := gx_hasC (P := P) (w := w) (base := base) T
  refine T.Fowners.ok scowners (fun vs H Q E h => ?_) (fun cdv A outer s H vs Q E hr h => ?_)
  · obtain ⟨v, A, g, cp, cs, rfl, _⟩ := h
    rfl
  obtain ⟨v, A0, g, cp, cs, rfl, eg, hA, hAG, hn, hin, hcp, hcl, hc0, hT, q⟩ := h
  refine ⟨_, (pss_one (ps_ret (pe_callTy call_tuple_of (by rfl) T.z_tuple (by decide +kernel) (pa_cons (pe_lc (own := [("draft", 2)]) (g := (gName 2)) (tt := tYes) rfl scowners.nd (pi_list (pe_call G_drafts (hr.mono (by omega)) (by rfl) T.m_drafts T.F_drafts.kp T.b_drafts .nil pass0 (pa_cons (pv 0) (pa_cons (pv 1) pa_nil)))) (blkOk_by (N := Nowners) (sc := defScope sowners) (by decide +kernel)) (fun _ _ _ _ _ => (pg_name (i := 2) scowners.nd rfl (Or.inl rfl))) (fun _ _ _ _ _ => pts_nil) (fun _ _ _ _ _ => (pe_ifExp (pt_val (pe_call Ghas_option (hr.mono (by omega)) (by rfl) T.mhas_option T.Fhas_option.kp T.bhas_option .nil pass0 (pa_cons (pv 2) pa_nil))) pe_str pe_str))) pa_nil)))), ?_⟩
  refine ⟨_, rfl, _, rfl, v, A0, g, cp, cs, rfl, eg, hA, hAG, hn, hin, hcp, hcl, hc0, hT, fun t sd MM ds dl H1 s1 hdl k1 hSd hLM hdsl hds => ?_⟩
  refine ⟨dl, rfl, ⟨_, sqd k1⟩, fun L hL => ?_⟩
  refine lc_list (K := K) (a := dl) (xs := ds) (fun (j : Nat) (H' : Hp) => Same H1 H' ∧ H' L = some (.lst ((List.range j).map fun k : Nat => sdS (sd (k : Int))))) ?_ ?_ ?_ ?_
  · exact ⟨same_new hL _, upd_same⟩
  · rintro j H' _ ⟨s2, _⟩
    exact sqd (s2 _ _ k1)
  · rintro j x H2 hx ⟨s2, k2⟩
    have hj := (List.getElem?_eq_some_iff.mp hx).1
    obtain ⟨u, hu, tp, ma, rfl, e1, _⟩ := hds j (by omega)
    rw [hx] at hu
    obtain rfl := Option.some.inj hu
    have fin : ∀ u : V, u = sdS (sd (j : Int)) → ∃ acc, H2 L = some (.lst acc) ∧ acc.length < sizeLine ∧ (Same H1 (upd H2 L (.lst (acc ++ [u]))) ∧ (upd H2 L (.lst (acc ++ [u]))) L = some (.lst ((List.range (j + 1)).map fun k : Nat => sdS (sd (k : Int))))) := fun u hu => by
      refine ⟨_, k2, big' (by rw [List.length_map, List.length_range]; omega), same_put s2 hL, ?_⟩
      rw [upd_same, List.range_succ, List.map_append, hu]
      rfl
    refine ⟨rfl, yes_if ?_⟩
    refine ⟨_, rfl, tp, sd (j : Int), _, rfl, s2 _ _ e1, _, rfl, ?_⟩
    cases hs : sd (j : Int) with
    | true => exact iteF (fin _ (by rw [hs]; rfl))
    | false => exact iteT (fin _ (by rw [hs]; rfl))
  rintro H2 ⟨s2, k2⟩
  rw [hdsl] at k2
  refine ⟨L, _, rfl, .inl ⟨sqd k2, fun p hp => ?_⟩⟩
  exact q sd p _ ((s1.trans (.of s2)).trans (.of (same_new hp _))) upd_same hSd
end
end NL

namespace NL
open PySem PySem.Spec PyProof.Rows L2
/-! ### two answers that are the same -/
def AlkC : Nat → Hp → V → V → Prop
  | 0, _, _, _ => False
  | n + 1, H, u, v => (∃ s, u = .str s ∧ v = .str s) ∨ (∃ i, u = .int i ∧ v = .int i) ∨ ∃ a b xs ys, u = .ref a ∧ v = .ref b ∧ H a = some (.tup xs) ∧ H b = some (.tup ys) ∧ xs.length = ys.length ∧ ys.length ≤ 1000000 ∧
      ∀ (k : Nat) x y, xs[k]? = some x → ys[k]? = some y → AlkC n H x y
theorem AlkC.ints {H : Hp} {a b : Addr} {l : List Int} (ha : H a = some (.tup (l.map V.int))) (hb : H b = some (.tup (l.map V.int))) (hl : l.length ≤ 1000000) : AlkC 2 H (.ref a) (.ref b) := by
  refine .inr (.inr ⟨a, b, _, _, rfl, rfl, ha, hb, rfl, by rw [List.length_map]; exact hl, fun k x y hx hy => ?_⟩)
  rw [hx] at hy
  cases hy
  rw [List.getElem?_map] at hx
  obtain ⟨i, _, rfl⟩ := Option.map_eq_some_iff.mp hx
  exact .inr (.inl ⟨i, rfl, rfl⟩)
theorem AlkC.strs {H : Hp} {a b : Addr} {xs : List V} (ha : H a = some (.tup xs)) (hb : H b = some (.tup xs)) (hl : xs.length ≤ 1000000) (h : ∀ x ∈ xs, ∃ s, x = .str s) : AlkC 2 H (.ref a) (.ref b) := by
  refine .inr (.inr ⟨a, b, _, _, rfl, rfl, ha, hb, rfl, hl, fun k x y hx hy => ?_⟩)
  rw [hx] at hy
  cases hy
  obtain ⟨s, e⟩ := h x (List.mem_of_getElem? hx)
  exact .inl ⟨s, e, e⟩
section
variable {P : Program} {w : World} {K : PySem.W.Frag} {mg : Str → Option Value} {base : Heap}
def spSameC (n : Nat) : Sp := fun vs H Q _ => ∃ u v : V, vs = [u, v] ∧ AlkC n H u v ∧ Q (.bl true) H
theorem gx_law_same (T : Txt K mg) : ∀ n : Nat, FnOk P w K mg base CX0 (n + 1) T.a_law_same T.d_law_same P_law_same (spSameC n)
  | 0 => by
    have no : ∀ vs H Q E, ¬ spSameC 0 vs H Q E := fun vs H Q E ⟨u, v, _, h, _⟩ => h
    exact ⟨fun vs H Q E h => absurd h (no vs H Q E), fun A outer s H args us vs Q E _ _ _ _ h => absurd h (no vs H Q E)⟩
  | n + 1 => by
    have G_law_same := gx_law_same T n
    refine T.F_law_same.ok sc_law_same (fun vs H Q E h => ?_) (fun cdv A outer s H vs Q E hr h => ?_)
    · obtain ⟨u, v, rfl, _⟩ := h
      rfl
    obtain ⟨u, v, rfl, h, q⟩ := h
    refine ⟨_, (pss_cons (ps_if (pt_val (pe_callB (call_isi) (by rfl) T.z_isinstance (by decide +kernel) (pa_cons (pv 1) (pa_cons (pe_bltn (v := .ty "bool") (u := .type "bool") (by rfl) T.z_bool (by decide +kernel) rfl) pa_nil))))
    (pss_one (ps_ret (pe_and (pe_callB (call_isi) (by rfl) T.z_isinstance (by decide +kernel) (pa_cons (pv 0) (pa_cons (pe_bltn (v := .ty "bool") (u := .type "bool") (by rfl) T.z_bool (by decide +kernel) rfl) pa_nil))) (pe_one (pe_cmpR op_eq (pv 0) (pv 1) (nomark _))))))
    pss_nil)
    (pss_cons (ps_if (pt_val (pe_callB (call_isi) (by rfl) T.z_isinstance (by decide +kernel) (pa_cons (pv 1) (pa_cons (pe_bltn (v := .ty "int") (u := .type "int") (by rfl) T.z_int (by decide +kernel) rfl) pa_nil))))
    (pss_one (ps_ret (pe_and (pe_callB (call_isi) (by rfl) T.z_isinstance (by decide +kernel) (pa_cons (pv 0) (pa_cons (pe_bltn (v := .ty "int") (u := .type "int") (by rfl) T.z_int (by decide +kernel) rfl) pa_nil))) (pe_and (pe_not (pe_callB (call_isi) (by rfl) T.z_isinstance (by decide +kernel) (pa_cons (pv 0) (pa_cons (pe_bltn (v := .ty "bool") (u := .type "bool") (by rfl) T.z_bool (by decide +kernel) rfl) pa_nil)))) (pe_one (pe_cmpR op_eq (pv 0) (pv 1) (nomark _)))))))
    pss_nil)
    (pss_cons (ps_if (pt_val (pe_callB (call_isi) (by rfl) T.z_isinstance (by decide +kernel) (pa_cons (pv 1) (pa_cons (pe_bltn (v := .ty "str") (u := .type "str") (by rfl) T.z_str (by decide +kernel) rfl) pa_nil))))
    (pss_one (ps_ret (pe_and (pe_callB (call_isi) (by rfl) T.z_isinstance (by decide +kernel) (pa_cons (pv 0) (pa_cons (pe_bltn (v := .ty "str") (u := .type "str") (by rfl) T.z_str (by decide +kernel) rfl) pa_nil))) (pe_one (pe_cmpR op_eq (pv 0) (pv 1) (nomark _))))))
    pss_nil)
    (pss_cons (ps_if (pt_cmpR op_isN (pv 1) pe_non (nomark _))
    (pss_one (ps_ret (pe_cmpR op_isN (pv 0) pe_non (nomark _))))
    pss_nil)
    (pss_cons (ps_if (PW.pt (pw_and (pt_val (pe_callB (call_isi) (by rfl) T.z_isinstance (by decide +kernel) (pa_cons (pv 1) (pa_cons (pe_bltn (v := .ty "tuple") (u := .type "tuple") (by rfl) T.z_tuple (by decide +kernel) rfl) pa_nil)))) (pw_and1 (pt_not (pt_val (pe_callB (call_isi) (by rfl) T.z_isinstance (by decide +kernel) (pa_cons (pv 0) (pa_cons (pe_bltn (v := .ty "tuple") (u := .type "tuple") (by rfl) T.z_tuple (by decide +kernel) rfl) pa_nil))))))))
    (pss_one (ps_ret pe_bl))
    pss_nil)
    (pss_cons (ps_if (PW.pt (pw_and (pt_val (pe_callB (call_isi) (by rfl) T.z_isinstance (by decide +kernel) (pa_cons (pv 1) (pa_cons (pe_bltn (v := .ty "list") (u := .type "list") (by rfl) T.z_list (by decide +kernel) rfl) pa_nil)))) (pw_and1 (pt_not (pt_val (pe_callB (call_isi) (by rfl) T.z_isinstance (by decide +kernel) (pa_cons (pv 0) (pa_cons (pe_bltn (v := .ty "list") (u := .type "list") (by rfl) T.z_list (by decide +kernel) rfl) pa_nil))))))))
    (pss_one (ps_ret pe_bl))
    pss_nil)
    (pss_cons (ps_if (pt_cmpR op_ne (pe_callB call_len_seq (by rfl) T.z_len PySem.boot_len (pa_cons (pv 0) pa_nil)) (pe_callB call_len_seq (by rfl) T.z_len PySem.boot_len (pa_cons (pv 1) pa_nil)) (nomark _))
    (pss_one (ps_ret pe_bl))
    pss_nil)
    (pss_cons (ps_for  PassesOwn.never rfl (pi_range1 (by rfl) T.z_range (pa_cons (pe_callB call_len_seq (by rfl) T.z_len PySem.boot_len (pa_cons (pv 1) pa_nil)) pa_nil)) (pg_name (i := 2) sc_law_same.nd rfl (Or.inl rfl))
    (pss_one (ps_if (pt_not (pt_val (pe_call G_law_same (hr.mono (by omega)) (by rfl) T.m_law_same T.F_law_same.kp T.b_law_same .nil pass0 (pa_cons (pe_ix ix_tup (pv 0) (pv 2) (fun _ _ => rfl)) (pa_cons (pe_ix ix_tup (pv 1) (pv 2) (fun _ _ => rfl)) pa_nil)))))
    (pss_one (ps_ret pe_bl))
    pss_nil)))
    (pss_one (ps_ret pe_bl)))))))))), ?_⟩
    rcases h with ⟨s, rfl, rfl⟩ | ⟨i, rfl, rfl⟩ | ⟨a, b, xs, ys, rfl, rfl, ea, eb, hl, hz, hall⟩
    · refine ⟨_, rfl, _, _, .type "str", .type "bool", false, rfl, .ty "bool", .base (.str _), kit_ty (by decide +kernel), false, rfl, ?_⟩
      refine iteF ⟨_, rfl, _, _, .type "str", .type "int", false, rfl, .ty "int", .base (.str _), kit_ty (by decide +kernel), false, rfl, ?_⟩
      refine iteF ⟨_, rfl, _, _, .type "str", .type "str", true, rfl, .ty "str", .base (.str _), kit_ty (by decide +kernel), true, rfl, ?_⟩
      refine iteT ⟨_, rfl, _, _, .type "str", .type "str", true, rfl, .ty "str", .base (.str _), kit_ty (by decide +kernel), true, rfl, ?_⟩
      exact iteT ⟨_, rfl, _, rfl, rfl, boolE (decide_eq_true rfl) q⟩
    · refine ⟨_, rfl, _, _, .type "int", .type "bool", false, rfl, .ty "bool", .base (.int _), kit_ty (by decide +kernel), false, rfl, ?_⟩
      refine iteF ⟨_, rfl, _, _, .type "int", .type "int", true, rfl, .ty "int", .base (.int _), kit_ty (by decide +kernel), true, rfl, ?_⟩
      refine iteT ⟨_, rfl, _, _, .type "int", .type "int", true, rfl, .ty "int", .base (.int _), kit_ty (by decide +kernel), true, rfl, ?_⟩
      refine iteT ⟨_, rfl, _, _, .type "int", .type "bool", false, rfl, .ty "bool", .base (.int _), kit_ty (by decide +kernel), false, rfl, true, rfl, ?_⟩
      exact iteT ⟨_, rfl, _, rfl, rfl, boolE (decide_eq_true rfl) q⟩
    · refine ⟨_, rfl, _, _, .type "tuple", .type "bool", false, rfl, .ty "bool", .base (.tup eb), kit_ty (by decide +kernel), false, rfl, ?_⟩
      refine iteF ⟨_, rfl, _, _, .type "tuple", .type "int", false, rfl, .ty "int", .base (.tup eb), kit_ty (by decide +kernel), false, rfl, ?_⟩
      refine iteF ⟨_, rfl, _, _, .type "tuple", .type "str", false, rfl, .ty "str", .base (.tup eb), kit_ty (by decide +kernel), false, rfl, ?_⟩
      refine iteF ⟨_, rfl, rfl, _, rfl, ifF (decide_eq_false (fun e => nomatch e)) ?_⟩
      refine ⟨_, rfl, _, _, .type "tuple", .type "tuple", true, rfl, .ty "tuple", .base (.tup eb), kit_ty (by decide +kernel), true, rfl, ?_⟩
      refine iteT ⟨_, rfl, _, _, .type "tuple", .type "tuple", true, rfl, .ty "tuple", .base (.tup ea), kit_ty (by decide +kernel), true, rfl, ?_⟩
      refine iteF ⟨_, rfl, _, _, .type "tuple", .type "list", false, rfl, .ty "list", .base (.tup eb), kit_ty (by decide +kernel), false, rfl, ?_⟩
      refine iteF (iteF ?_)
      refine ⟨_, rfl, a, _, rfl, .inr (sqt ea), _, rfl, b, _, rfl, .inr (sqt eb), rfl, _, rfl, ?_⟩
      refine ifF (by rw [hl, decide_eq_true rfl] <;> rfl) ?_
      refine ⟨_, rfl, b, _, rfl, .inr (sqt eb), _, rfl, by omega, by omega, for_range (lo := 0) (n := ys.length) (fun j σ H' => ∃ y : Option V, σ = [some (.ref a), some (.ref b), y] ∧ H' = H) ?_ ?_ ?_⟩
      · exact ⟨none, rfl, rfl⟩
      · rintro j σ H' hj ⟨y, rfl, rfl⟩
        have hjx : xs[j]? = some xs[j] := List.getElem?_eq_getElem (by omega)
        have hjy : ys[j]? = some ys[j] := List.getElem?_eq_getElem hj
        have e0 : (0 : Int) + (j : Int) = (j : Int) := Int.zero_add _
        refine ⟨_, rfl, _, rfl, a, _, _, _, rfl, rfl, sqt ea, by rw [e0]; exact atI_nat hjx, _, rfl, _, rfl, b, _, _, _, rfl, rfl, sqt eb, by rw [e0]; exact atI_nat hjy, ?_⟩
        refine ⟨_, _, rfl, hall j _ _ hjx hjy, true, rfl, ?_⟩
        exact iteF ⟨_, rfl, rfl⟩
      · rintro σ H' ⟨y, rfl, rfl⟩
        exact q
end
end NL

set_option maxHeartbeats 4000000
namespace NL
open PySem PySem.Spec PyProof.Rows L2
/-! ### choices of one option for each position -/
def nxC (ops : Int → Pos') (f : Int → Int) (x : Int) : Opt := if 0 ≤ f x then ((ops x)[(f x).toNat]?).getD [] else [-1]
inductive Rch (nx : Int → Opt) (al : Int → Prop) (x : Int) : Int → Prop
  | one {z : Int} : z ∈ nx x → (z < 0 ∨ al z) → Rch nx al x z
  | step {y z : Int} : Rch nx al x y → 0 ≤ y → z ∈ nx y → (z < 0 ∨ al z) → Rch nx al x z
theorem Rch.al {nx : Int → Opt} {al : Int → Prop} {x z : Int} (h : Rch nx al x z) : z < 0 ∨ al z := by
  cases h with
  | one _ h => exact h
  | step _ _ _ h => exact h
def BadC (nx : Int → Opt) (col : Int → Nat) (n : Nat) (y : Int) : Prop := y = -1 ∨ (0 ≤ y ∧ y < (n : Int) ∧ par (col y) = true ∧ Rch nx (fun z => col z ≤ col y) y y)
def KeptC (nx : Int → Opt) (col : Int → Nat) (n : Nat) (p : Int) : Prop := ¬ BadC nx col n p ∧ ∀ y, Rch nx (fun _ => True) p y → ¬ BadC nx col n y
section
variable {ops : Int → Pos'} {col : Int → Nat} {b n : Nat}
theorem kept_own (hin : ∀ x, ∀ o ∈ ops x, ∀ y ∈ o, -1 ≤ y ∧ y < (n : Int)) (hb : ∀ x, 0 ≤ x → x < (n : Int) → col x < b) {f : Int → Int}
    (hf : ∀ x, 0 ≤ x → x < (n : Int) → f x < 0 ∨ ∃ o ∈ ops x, nxC ops f x = o) {p : Int} (hk : KeptC (nxC ops f) col n p) : ¬ Own ops col b n true p := fun hp => by
  obtain ⟨N, K, _, hN⟩ := Own.pg (s := true) hin hb
  let S : Int → Prop := fun x => Own ops col b n true x ∧ (x = p ∨ Rch (nxC ops f) (fun _ => True) p x)
  have go : ∀ x y, (x = p ∨ Rch (nxC ops f) (fun _ => True) p x) → 0 ≤ x → y ∈ nxC ops f x → Rch (nxC ops f) (fun _ => True) p y := fun x y hx h0 hy => by
    rcases hx with rfl | hx
    · exact .one hy (.inr trivial)
    · exact .step hx h0 hy (.inr trivial)
  have step : ∀ x, S x → ∃ y, S y ∧ y ∈ nxC ops f x ∧ Rel true (col x) (N x) (N y) := fun x hx => by
    have hr := hx.1.rg
    rcases hf x hr.1 hr.2 with h | ⟨o, ho, e⟩
    · refine absurd (.inl rfl) (hk.2 (-1) (go x (-1) hx.2 hr.1 ?_))
      unfold nxC
      rw [if_neg (by omega)]
      exact List.mem_singleton.mpr rfl
    · have := hN x hx.1
      unfold Frc at this
      rw [if_pos rfl] at this
      obtain ⟨y, hy, q⟩ := this o ho
      have hyn : y ∈ nxC ops f x := by rw [e]; exact hy
      have hg := go x y hx.2 hr.1 hyn
      rcases q with q | q
      · exact absurd (.inl q.1) (hk.2 y hg)
      · exact ⟨y, ⟨q.1, .inr hg⟩, hyn, q.2⟩
  have nx : ∀ z : {z // S z}, ∃ y : {z // S z}, y.1 ∈ nxC ops f z.1 ∧ Rel true (col z.1) (N z.1) (N y.1) := fun z => by
    obtain ⟨y, h1, h2⟩ := step z.1 z.2
    exact ⟨⟨y, h1⟩, h2⟩
  let nxt : {z // S z} → {z // S z} := fun z => Classical.choose (nx z)
  have nxs : ∀ z : {z // S z}, (nxt z).1 ∈ nxC ops f z.1 ∧ Rel true (col z.1) (N z.1) (N (nxt z).1) := fun z => Classical.choose_spec (nx z)
  let a : Nat → {z // S z} := fun k => Nat.rec ⟨p, hp, .inl rfl⟩ (fun _ z => nxt z) k
  have as : ∀ k, a (k + 1) = nxt (a k) := fun _ => rfl
  have rg : ∀ k, 0 ≤ (a k).1 ∧ (a k).1 < (n : Int) := fun k => (a k).2.1.rg
  obtain ⟨i, j, hij, _, he⟩ := pigeon n (fun k => (a k).1.toNat) fun k _ => by
    have := rg k
    show (a k).1.toNat < n
    omega
  have he : a i = a j := by
    have h1 := rg i
    have h2 := rg j
    have he : (a i).1.toNat = (a j).1.toNat := he
    exact Subtype.ext (by omega)
  have per : ∀ m, a (i + m) = a (j + m) := fun m => by
    induction m with
    | zero => exact he
    | succ m ih => rw [← Nat.add_assoc, ← Nat.add_assoc, as, as, ih]
  obtain ⟨t, t1, t2, t3⟩ := top_at (fun k => col (a k).1) i (j - i - 1)
  have st : ∀ k, (a (k + 1)).1 ∈ nxC ops f (a k).1 ∧ Rel true (col (a k).1) (N (a k).1) (N (a (k + 1)).1) := fun k => by
    rw [as]
    exact nxs (a k)
  cases hpar : par (col (a t).1) with
  | false =>
    have := chain_gt (r := true) (c := col (a t).1) (f := fun k => N (a k).1) (i := i) (k := j - i) (t := t) (fun k h1 h2 => (st k).2.ge.up (t3 k h1 (by omega))) t1 (by omega) ((st t).2.gt (by rw [hpar]; decide))
    rw [show i + (j - i) = j by omega] at this
    have this : Gt true (col (a t).1) (N (a i).1) (N (a j).1) := this
    rw [he] at this
    exact this.irr
  | true =>
    have cle : ∀ m, t ≤ m → m ≤ t + (j - i) → col (a m).1 ≤ col (a t).1 := fun m h1 h2 => by
      rcases Nat.lt_or_ge m j with w | w
      · exact t3 m (by omega) (by omega)
      · have := per (m - j)
        rw [show j + (m - j) = m by omega] at this
        rw [← this]
        exact t3 (i + (m - j)) (by omega) (by omega)
    have rch : ∀ m, m < j - i → Rch (nxC ops f) (fun z => col z ≤ col (a t).1) (a t).1 (a (t + m + 1)).1 := fun m => by
      induction m with
      | zero => exact fun hm => .one (st t).1 (.inr (cle (t + 1) (by omega) (by omega)))
      | succ m ih => exact fun hm => .step (ih (by omega)) (rg (t + m + 1)).1 (st (t + m + 1)).1 (.inr (cle (t + m + 1 + 1) (by omega) (by omega)))
    have last := rch (j - i - 1) (by omega)
    have e2 : a (t + (j - i - 1) + 1) = a t := by
      have := per (t - i)
      rw [show i + (t - i) = t by omega] at this
      rw [this]
      rw [show t + (j - i - 1) + 1 = j + (t - i) by omega]
    rw [e2] at last
    have bad : BadC (nxC ops f) col n (a t).1 := .inr ⟨(rg t).1, (rg t).2, hpar, last⟩
    rcases (a t).2.2 with h | h
    · exact hk.1 (by rw [← h]; exact bad)
    · exact hk.2 _ h bad
theorem own_kept {f : Int → Int} {N : Int → Nat → Nat} {S : Int → Prop} (hS : ∀ x, S x → 0 ≤ x ∧ x < (n : Int))
    (hf : ∀ x, S x → ∀ y ∈ nxC ops f x, S y ∧ Rel false (col x) (N x) (N y)) {p : Int} (hp : S p) : KeptC (nxC ops f) col n p := by
  have cl : ∀ al x y, S x → Rch (nxC ops f) al x y → S y := fun al x y hx h => by
    induction h with
    | one h _ => exact (hf x hx _ h).1
    | step _ _ h _ ih => exact (hf _ ih _ h).1
  have nb : ∀ y, S y → ¬ BadC (nxC ops f) col n y := fun y hy h => by
    rcases h with rfl | ⟨_, _, hpar, hr⟩
    · have := (hS _ hy).1
      omega
    · have key : ∀ z, Rch (nxC ops f) (fun z => col z ≤ col y) y z → S z ∧ Gt false (col y) (N y) (N z) := fun z h => by
        induction h with
        | one h _ => exact ⟨(hf y hy _ h).1, (hf y hy _ h).2.gt (by rw [hpar]; decide)⟩
        | @step u v h1 h0 h2 _ ih =>
          have hl : col u ≤ col y := h1.al.resolve_left (by omega)
          exact ⟨(hf _ ih.1 _ h2).1, ih.2.ge ((hf _ ih.1 _ h2).2.ge.up hl)⟩
      exact (key y hr).2.irr
  exact ⟨nb p hp, fun y h => nb y (cl _ p y hp h)⟩
end
end NL

set_option maxHeartbeats 4000000
namespace NL
open PySem PySem.Spec PyProof.Rows L2
/-! ### for over a list or a tuple -/
section
variable {X : Cx} {tg : Expr}
def iSeq (K : PySem.W.Frag) (tl : TE) : TI := fun σ H R => tl σ H fun x H1 => ∃ a, x = .ref a ∧ (((∃ xs, SqL K H1 a xs) ∧ R (Itl K a) H1) ∨ ((∃ xs, SqT K H1 a xs) ∧ R (Itt K a) H1))
theorem pi_seq {l : Expr} {tl : TE} (hl : PE X l tl) : PI X tg l (iSeq X.K tl) := by
  refine ⟨fun pins s σ H R I h => ?_⟩
  refine thn (hl.run pins s σ H _ I h) fun v s1 ⟨x, H1, I1, r1, q1⟩ => ?_
  obtain ⟨a, e, q⟩ := q1
  subst e
  cases r1
  rcases q with ⟨⟨xs, hq⟩, q⟩ | ⟨⟨xs, hq⟩, q⟩
  · obtain ⟨its, rv, p, hz⟩ := I1.list hq
    refine wpAny_pyIter_list p.isList ?_
    refine ⟨s1.heap.objs.size, [s1.heap.objs.size], _, _, H1, rfl, I1.kept (t' := s1.toks) fun b o e => Heap.get?_push_of_some _ e, turn_list a _, ⟨_, Heap.get?_push_size _ rfl, rfl, rfl⟩, fun b hb => ?_, q⟩
    have e : b = s1.heap.objs.size := by simpa using hb
    subst e
    exact I1.fpOk (Nat.le_refl _) (I1.hok.fresh (Nat.le_refl _))
  · obtain ⟨its, rv, p, hz⟩ := I1.tuple hq
    refine wpAny_pyIter_tuple (show s1.heap.IsTuple a its.toArray from p) ?_
    refine ⟨s1.heap.objs.size, [s1.heap.objs.size], _, _, H1, rfl, I1.kept (t' := s1.toks) fun b o e => Heap.get?_push_of_some _ e, turn_tuple a _, ⟨_, Heap.get?_push_size _ rfl, rfl, rfl⟩, fun b hb => ?_, q⟩
    have e : b = s1.heap.objs.size := by simpa using hb
    subst e
    exact I1.fpOk (Nat.le_refl _) (I1.hok.fresh (Nat.le_refl _))
end
end NL

set_option maxHeartbeats 4000000
namespace NL
open PySem PySem.Spec PyProof.Rows L2
theorem for_seq {K : PySem.W.Frag} {a : Addr} {xs : List V} {g : TG} {tb : TS} {D : Ends} {σ : L2.St} {H : Hp} (Pv : Nat → L2.St → Hp → Prop)
    (hq : (SqL K H a xs ∧ ∀ i σ H, Pv i σ H → SqL K H a xs) ∨ (SqT K H a xs ∧ ∀ i σ H, Pv i σ H → SqT K H a xs)) (h0 : Pv 0 σ H)
    (hs : ∀ i x σ H, xs[i]? = some x → Pv i σ H → g x σ H fun σ2 H2 => tb { D with nx := Pv (i + 1), ct := Pv (i + 1), bk := D.nx } σ2 H2) (hd : ∀ σ H, Pv xs.length σ H → D.nx σ H) :
    ((∃ xs, SqL K H a xs) ∧ ∃ W : Nat → Nat → L2.St → Hp → Prop, (∃ m, W 0 m σ H) ∧ ∀ i m σ H, W i m σ H →
      ((Itl K a).stop i H ∧ D.nx σ H) ∨ ((Itl K a).go i H ∧ ∃ N : L2.St → Hp → Prop, (∀ σ' H', N σ' H' → ∃ m', m' < m ∧ W (i + 1) m' σ' H') ∧ ∀ x H', (Itl K a).yld i H x H' → g x σ H' fun σ2 H2 => tb { D with nx := N, ct := N, bk := D.nx } σ2 H2)) ∨
    ((∃ xs, SqT K H a xs) ∧ ∃ W : Nat → Nat → L2.St → Hp → Prop, (∃ m, W 0 m σ H) ∧ ∀ i m σ H, W i m σ H →
      ((Itt K a).stop i H ∧ D.nx σ H) ∨ ((Itt K a).go i H ∧ ∃ N : L2.St → Hp → Prop, (∀ σ' H', N σ' H' → ∃ m', m' < m ∧ W (i + 1) m' σ' H') ∧ ∀ x H', (Itt K a).yld i H x H' → g x σ H' fun σ2 H2 => tb { D with nx := N, ct := N, bk := D.nx } σ2 H2)) :=
  hq.elim (fun h => .inl ⟨⟨_, h.1⟩, for_list (K := K) (a := a) (xs := xs) Pv h0 (fun i σ H _ p => h.2 i σ H p) hs hd⟩) (fun h => .inr ⟨⟨_, h.1⟩, for_tup (K := K) (a := a) (xs := xs) Pv h0 (fun i σ H _ p => h.2 i σ H p) hs hd⟩)
theorem nd_sub {α : Type} [BEq α] [LawfulBEq α] : ∀ {S U : List α}, S.Nodup → (∀ x ∈ S, x ∈ U) → S.length ≤ U.length
  | [], _, _, _ => Nat.zero_le _
  | a :: S, U, h, hs => by
    obtain ⟨h1, h2⟩ := List.nodup_cons.mp h
    have ha := hs a List.mem_cons_self
    have := nd_sub (U := U.erase a) h2 fun x hx => (List.mem_erase_of_ne (fun e => h1 (by rw [← e]; exact hx))).mpr (hs x (List.mem_cons_of_mem _ hx))
    rw [List.length_erase_of_mem ha] at this
    have hp := List.length_pos_of_mem ha
    rw [List.length_cons]
    omega
/-- a list without doubles that is as long as there are numbers holds each -/
theorem all_in {n : Nat} {fs : List Int} (hnd : fs.Nodup) (hr : ∀ z ∈ fs, -1 ≤ z ∧ z < (n : Int)) (hl : n + 1 ≤ fs.length) {z : Int} (z0 : -1 ≤ z) (z1 : z < (n : Int)) : z ∈ fs := by
  refine Classical.byContradiction fun h => ?_
  have h1 := nd_sub (S := z :: fs) (U := (List.range (n + 1)).map fun k : Nat => (k : Int) - 1) (List.nodup_cons.mpr ⟨h, hnd⟩) fun x hx => by
    have : -1 ≤ x ∧ x < (n : Int) := by
      rcases List.mem_cons.mp hx with rfl | hx
      · exact ⟨z0, z1⟩
      · exact hr x hx
    exact List.mem_map.mpr ⟨(x + 1).toNat, List.mem_range.mpr (by omega), by omega⟩
  rw [List.length_cons, List.length_map, List.length_range] at h1
  omega
def chF (ch : List Int) (x : Int) : Int := (ch[x.toNat]?).getD 0
def alF (al : List Bool) (z : Int) : Prop := (al[z.toNat]?).getD false = true
/-- choices: an index of an option, or less than 0 -/
def ChV (A : Ar) (ch : List Int) : Prop := ch.length = A.length ∧ ∀ (k : Nat) os c, A[k]? = some os → ch[k]? = some c → c < 0 ∨ ∃ o ∈ os, os[c.toNat]? = some o
theorem nx_in {A : Ar} {ch : List Int} (hin : InA A A.length) {x z : Int} (h : z ∈ nxC (psO A) (chF ch) x) : -1 ≤ z ∧ z < (A.length : Int) := by
  unfold nxC at h
  by_cases hx : 0 ≤ chF ch x
  · rw [if_pos hx] at h
    cases ho : (psO A x)[(chF ch x).toNat]? with
    | none => rw [ho] at h; cases h
    | some o =>
      rw [ho] at h
      exact psO_in hin x o (List.mem_of_getElem? ho) z h
  · rw [if_neg hx] at h
    rw [List.mem_singleton.mp h]
    omega
/-- what a search holds -/
structure Srch (A : Ar) (ch : List Int) (al : List Bool) (st : Int) (fs : List Int) : Prop where
  nd : fs.Nodup
  sound : ∀ z ∈ fs, -1 ≤ z ∧ z < (A.length : Int) ∧ Rch (nxC (psO A) (chF ch)) (alF al) st z
theorem Srch.len {A : Ar} {ch : List Int} {al : List Bool} {st : Int} {fs : List Int} (h : Srch A ch al st fs) : fs.length ≤ A.length + 1 := by
  have h1 := nd_sub (S := fs) (U := (List.range (A.length + 1)).map fun k : Nat => (k : Int) - 1) h.nd fun x hx => by
    have := h.sound x hx
    exact List.mem_map.mpr ⟨(x + 1).toNat, List.mem_range.mpr (by omega), by omega⟩
  rw [List.length_map, List.length_range] at h1
  exact h1
section
variable {P : Program} {w : World} {K : PySem.W.Frag} {mg : Str → Option Value} {base : Heap}
def spRch : Sp := fun vs H Q _ => ∃ (v : V) (cp ap : Addr) (A : Ar) (ch : List Int) (al : List Bool) (st : Int), vs = [v, .ref cp, .int st, .ref ap] ∧ ArIn H A v ∧ InA A A.length ∧ A.length ≤ 63 ∧ H cp = some (.tup (ch.map V.int)) ∧ ChV A ch ∧ H ap = some (.lst (al.map V.bl)) ∧ al.length = A.length ∧ 0 ≤ st ∧ st < (A.length : Int) ∧
  ∀ L (fs : List Int) H', Same H H' → H' L = some (.lst (fs.map V.int)) → fs.length ≤ A.length + 1 → (∀ z, z ∈ fs ↔ Rch (nxC (psO A) (chF ch)) (alF al) st z) → (∀ z ∈ fs, -1 ≤ z ∧ z < (A.length : Int)) → Q (.ref L) H'
theorem ok_law_reached (T : Txt K mg) : FnOk P w K mg base CX0 1 T.a_law_reached T.d_law_reached P_law_reached spRch := by
  refine T.F_law_reached.ok sc_law_reached (fun vs H Q E h => ?_) (fun cdv A outer s0 H vs Q E hr h => ?_)
  · obtain ⟨v, cp, ap, A, ch, al, st, rfl, _⟩ := h
    rfl
  obtain ⟨v, cp, ap, A0, ch, al, st, rfl, ⟨b0, ys, rfl, hb0, hys⟩, hin, h63, ecp, ⟨hcl, hcv⟩, eap, hal, st0, st1, q⟩ := h
  have hyl := hys.1
  refine ⟨_, (pss_cons (ps_set (i := 4) sc_law_reached.nd rfl (Or.inl rfl) (pe_lst pa_nil))
    (pss_cons (ps_set (i := 5) sc_law_reached.nd rfl (Or.inl rfl) (pe_lst (pa_cons (pv 2) pa_nil)))
    (pss_cons (ps_for  PassesOwn.never rfl (pi_range1 (by rfl) T.z_range (pa_cons (pe_op op_add (pe_callB call_len_seq (by rfl) T.z_len PySem.boot_len (pa_cons (pv 0) pa_nil)) pe_int) pa_nil)) (pg_name (i := 6) sc_law_reached.nd rfl (Or.inl rfl))
    (pss_cons (ps_set (i := 7) sc_law_reached.nd rfl (Or.inl rfl) (pe_lst pa_nil))
    (pss_cons (ps_for  PassesOwn.never rfl (pi_list (pv 5)) (pg_name (i := 8) sc_law_reached.nd rfl (Or.inl rfl))
    (pss_cons (ps_set (i := 9) sc_law_reached.nd rfl (Or.inl rfl) (pe_lst (pa_cons (pe_un un_neg pe_int) pa_nil)))
    (C8.pss_cut (ps_if (PW.pt (pw_and (pt_cmpR op_ge (pv 8) pe_int (nomark _)) (pw_and1 (pt_cmpR op_ge (pe_ix ix_tup (pv 1) (pv 8) (fun _ _ => rfl)) pe_int (nomark _)))))
    (pss_one (ps_set (i := 9) sc_law_reached.nd rfl (Or.inl rfl) (pe_ix ix_tup (pe_ix ix_tup (pv 0) (pv 8) (fun _ _ => rfl)) (pe_ix ix_tup (pv 1) (pv 8) (fun _ _ => rfl)) (fun _ _ => rfl))))
    pss_nil)
    (pss_one (ps_for  PassesOwn.never rfl (pi_seq (pv 9)) (pg_name (i := 10) sc_law_reached.nd rfl (Or.inl rfl))
    (pss_one (ps_if (PW.pt (pw_and (pt_cmpR op_notIn_seq (pv 10) (pv 4) (by rfl)) (pw_and1 (PW.pt (pw_or (pt_cmpR op_lt (pv 10) pe_int (nomark _)) (pw_or1 (pt_val (pe_ix ix_list (pv 3) (pv 10) (fun _ _ => rfl)))))))))
    (pss_cons (ps_expr (pe_bm PySem.F.plainAttrs_list PySem.F.slot_list_append PySem.F.type_list_append mt_append (pv 4) (pa_cons (pv 10) pa_nil)))
    (pss_one (ps_expr (pe_bm PySem.F.plainAttrs_list PySem.F.slot_list_append PySem.F.type_list_append mt_append (pv 7) (pa_cons (pv 10) pa_nil)))))
    pss_nil)))))))
    (pss_one (ps_setLc (i := 5) (own := [("place", 8)]) (g := (gName 8)) (tt := _) rfl sc_law_reached.nd rfl rfl (sw_true rfl rfl rfl (by decide +kernel)) (pi_list (pv 7)) (blkOk_by (N := N_law_reached) (sc := defScope s_law_reached) (by decide +kernel)) (fun _ _ _ _ _ => (pg_name (i := 8) sc_law_reached.nd rfl (Or.inl rfl))) (fun _ _ _ _ _ => (pts_one (pt_cmpR op_ge (pv 8) pe_int (nomark _)))) (fun _ _ _ _ _ => (pv 8)))))))
    (pss_one (ps_ret (pv 4)))))), ?_⟩
  refine ⟨Nat.zero_le _, fun L hL => ?_⟩
  obtain ⟨H1, e1, s1, k1⟩ := newH hL (.lst [])
  rw [e1]
  refine ⟨_, rfl, Nat.le_of_ble_eq_true rfl, fun W0 hW0 => ?_⟩
  obtain ⟨H2, e2, s2, k2⟩ := newH hW0 (.lst [V.int st])
  rw [e2]
  have eb2 := (s1.trans s2) _ _ hb0
  refine ⟨_, rfl, b0, _, rfl, .inr (sqt eb2), _, _, rfl, rfl, _, rfl, by omega, by omega, ?_⟩
  generalize hnx : nxC (psO A0) (chF ch) = nx at *
  refine for_range (lo := 0) (n := (((ys.length : Nat) : Int) + 1).toNat) (fun (i : Nat) (σ : L2.St) (H' : Hp) => ∃ (W : Addr) (fs ws : List Int) (y6 y7 y8 y9 y10 : Option V), σ = [some (.ref b0), some (.ref cp), some (.int st), some (.ref ap), some (.ref L), some (.ref W), y6, y7, y8, y9, y10] ∧ Same H H' ∧ W ≠ L ∧ H' L = some (.lst (fs.map V.int)) ∧ H' W = some (.lst (ws.map V.int)) ∧ ws.length ≤ A0.length + 1 ∧ Srch A0 ch al st fs ∧ (∀ x ∈ ws, 0 ≤ x ∧ (x = st ∨ x ∈ fs)) ∧
    (∀ x, (x = st ∨ (x ∈ fs ∧ 0 ≤ x)) → x ∉ ws → ∀ z ∈ nx x, (z < 0 ∨ alF al z) → z ∈ fs) ∧ (ws = [] ∨ i ≤ fs.length)) ?_ ?_ ?_
  · refine ⟨W0, [], [st], _, _, _, _, _, rfl, s1.trans s2, fun e => ?_, s2 _ _ k1, k2, by rw [List.length_singleton]; omega, ⟨List.nodup_nil, fun z h => nomatch h⟩, fun x hx => ?_, fun x hx hn => ?_, .inr (Nat.zero_le _)⟩
    · rw [e, k1] at hW0
      cases hW0
    · rw [List.mem_singleton.mp hx]
      exact ⟨st0, .inl rfl⟩
    · rcases hx with rfl | hx
      · exact absurd (List.mem_singleton.mpr rfl) hn
      · exact nomatch hx.1
  · rintro i σ H3 hi ⟨W, fs, ws, y6, y7, y8, y9, y10, rfl, s3, nWL, kL, kW, hwl, hS, hws, hcl2, hprog⟩
    refine ⟨Nat.zero_le _, fun F hF => ?_⟩
    obtain ⟨H4, e4, s4, k4⟩ := newH hF (.lst [])
    rw [e4]
    have hF0 : H F = none := s3.free hF
    have nFL : F ≠ L := fun e => by rw [e, kL] at hF; cases hF
    have nFW : F ≠ W := fun e => by rw [e, kW] at hF; cases hF
    have hnin : ∀ x z, z ∈ nx x → -1 ≤ z ∧ z < (A0.length : Int) := fun x z h => nx_in (ch := ch) hin (by rw [hnx]; exact h)
    refine ⟨_, rfl, W, rfl, ⟨_, sqd (s4 _ _ kW)⟩, ?_⟩
    refine for_list (K := K) (a := W) (xs := ws.map V.int) (fun (j : Nat) (σ : L2.St) (H' : Hp) => ∃ (gs : List Int) (y8 y9 y10 : Option V), σ = [some (.ref b0), some (.ref cp), some (.int st), some (.ref ap), some (.ref L), some (.ref W), some (.int (0 + (i : Int))), some (.ref F), y8, y9, y10] ∧ Same H H' ∧ H' W = some (.lst (ws.map V.int)) ∧ H' L = some (.lst ((fs ++ gs).map V.int)) ∧ H' F = some (.lst (gs.map V.int)) ∧ Srch A0 ch al st (fs ++ gs) ∧ (j = 0 → gs = []) ∧ ∀ x ∈ ws.take j, ∀ z ∈ nx x, (z < 0 ∨ alF al z) → z ∈ fs ++ gs) ?_ ?_ ?_ ?_
    · refine ⟨[], _, _, _, rfl, s3.trans s4, s4 _ _ kW, by rw [List.append_nil]; exact s4 _ _ kL, k4, by rw [List.append_nil]; exact hS, fun _ => rfl, fun x hx => nomatch hx⟩
    · rintro j σ H' _ ⟨_, _, _, _, _, _, kW', _⟩
      exact sqd kW'
    · rintro j x σ H5 hx ⟨gs, y8, y9, y10, rfl, s5, kW5, kL5, kF5, hS5, hj0, hdone⟩
      rw [List.getElem?_map] at hx
      obtain ⟨p, hp, rfl⟩ := Option.map_eq_some_iff.mp hx
      obtain ⟨p0, hpo⟩ := hws p (List.mem_of_getElem? hp)
      have p1 : p < (A0.length : Int) := by
        rcases hpo with e | e
        · rw [e]; exact st1
        · exact (hS.sound p e).2.1
      have hpn : ((p.toNat : Nat) : Int) = p := by omega
      have hos := List.getElem?_eq_getElem (show p.toNat < A0.length by omega)
      generalize A0[p.toNat]'(by omega) = os at hos
      have hcg := List.getElem?_eq_getElem (show p.toNat < ch.length by omega)
      generalize ch[p.toNat]'(by omega) = c at hcg
      have hchF : chF ch p = c := by unfold chF; rw [hcg]; rfl
      refine ⟨_, rfl, Nat.le_of_ble_eq_true rfl, fun S0 hS0 => ?_⟩
      obtain ⟨H6, e6, s6, k6⟩ := newH hS0 (.lst [V.int (-1)])
      rw [show upd H5 S0 (.lst [V.int (-1)]) = H6 from e6]
      have kL6 := s6 _ _ kL5
      have kF6 := s6 _ _ kF5
      have kW6 := s6 _ _ kW5
      have s06 := s5.trans s6
      have ecp6 := s06 _ _ ecp
      have hatc : atI (ch.map V.int) p = some (.int c) := by
        have := atI_nat (mapV hcg)
        rw [hpn] at this
        exact this
      have nS : ∀ b o, H5 b = some o → S0 ≠ b := fun b o e z => by rw [z, e] at hS0; cases hS0
      refine ⟨fun σ' H' => ∃ (sa : Addr) (so : HO), σ' = [some (.ref b0), some (.ref cp), some (.int st), some (.ref ap), some (.ref L), some (.ref W), some (.int (0 + (i : Int))), some (.ref F), some (.int p), some (.ref sa), y10] ∧ H' = H6 ∧ H6 sa = some so ∧ (so = .lst ((nx p).map V.int) ∨ so = .tup ((nx p).map V.int)) ∧ sa ≠ L ∧ sa ≠ F ∧ sa ≠ W, ?_, ?_⟩
      · refine ⟨_, rfl, _, _, rfl, rfl, _, rfl, ifT (decide_eq_true p0) ?_⟩
        refine ⟨_, rfl, _, rfl, cp, _, _, _, rfl, rfl, sqt ecp6, hatc, _, _, rfl, rfl, _, rfl, ?_⟩
        by_cases hc : 0 ≤ c
        · refine ifT (decide_eq_true hc) ?_
          obtain ⟨o, _, ho⟩ := (hcv p.toNat os c hos hcg).resolve_left (by omega)
          have hps : psO A0 p = os := psO_at p0 hos
          have hno : nx p = o := by
            rw [← hnx]
            unfold nxC
            rw [hchF, if_pos hc, hps, ho]
            rfl
          obtain ⟨u1, hu1, bz, zs, rfl, ebz, hzs⟩ := (hys.mono fun o x => PosIn.tp (Tp.same s06)).at hos
          have hatb : atI ys p = some (.ref bz) := by
            have := atI_nat hu1
            rw [hpn] at this
            exact this
          obtain ⟨u2, hu2, bo, rfl, ebo⟩ := hzs.at ho
          have hato : atI zs c = some (.ref bo) := by
            have := atI_nat hu2
            rw [show ((c.toNat : Nat) : Int) = c by omega] at this
            exact this
          refine ⟨_, rfl, _, rfl, b0, _, _, _, rfl, rfl, sqt (s06 _ _ hb0), hatb, _, rfl, _, rfl, cp, _, _, _, rfl, rfl, sqt ecp6, hatc, bz, _, _, _, rfl, rfl, sqt ebz, hato, ?_⟩
          exact ⟨bo, _, rfl, rfl, ebo, .inr (by rw [hno]), fun e => (by rw [e, kL6] at ebo; cases ebo), fun e => (by rw [e, kF6] at ebo; cases ebo), fun e => (by rw [e, kW6] at ebo; cases ebo)⟩
        · refine ifF (decide_eq_false hc) ?_
          have hno : nx p = [-1] := by
            rw [← hnx]
            unfold nxC
            rw [hchF, if_neg hc]
          exact ⟨S0, _, rfl, rfl, k6, .inl (by rw [hno]; rfl), nS L _ kL5, nS F _ kF5, nS W _ kW5⟩
      rintro σ H' ⟨sa, so, rfl, rfl, ksa, hso, nsL, nsF, nsW⟩
      have hwj : ws.take (j + 1) = ws.take j ++ [p] := by rw [List.take_add_one, hp]; rfl
      have eap6 := s06 _ _ eap
      have hsq : ∀ H' : Hp, H' sa = some so → SqL K H' sa ((nx p).map V.int) ∨ SqT K H' sa ((nx p).map V.int) := fun H' e => by
        rcases hso with z | z
        · rw [z] at e
          exact .inl (sqd e)
        · rw [z] at e
          exact .inr (sqt e)
      refine ⟨_, rfl, sa, rfl, for_seq (K := K) (a := sa) (xs := (nx p).map V.int) (fun (l : Nat) (σ : L2.St) (H' : Hp) => ∃ (gs : List Int) (y10 : Option V), σ = [some (.ref b0), some (.ref cp), some (.int st), some (.ref ap), some (.ref L), some (.ref W), some (.int (0 + (i : Int))), some (.ref F), some (.int p), some (.ref sa), y10] ∧ Same H H' ∧ H' sa = some so ∧ H' W = some (.lst (ws.map V.int)) ∧ H' L = some (.lst ((fs ++ gs).map V.int)) ∧ H' F = some (.lst (gs.map V.int)) ∧ Srch A0 ch al st (fs ++ gs) ∧ (∀ x ∈ ws.take j, ∀ z ∈ nx x, (z < 0 ∨ alF al z) → z ∈ fs ++ gs) ∧ ∀ z ∈ (nx p).take l, (z < 0 ∨ alF al z) → z ∈ fs ++ gs) ?_ ?_ ?_ ?_⟩
      · rcases hso with z | z
        · exact .inl ⟨sqd (by rw [ksa, z]), fun l σ H' ⟨_, _, _, _, e, _⟩ => sqd (by rw [e, z])⟩
        · exact .inr ⟨sqt (by rw [ksa, z]), fun l σ H' ⟨_, _, _, _, e, _⟩ => sqt (by rw [e, z])⟩
      · exact ⟨gs, _, rfl, s06, ksa, kW6, kL6, kF6, hS5, hdone, fun z hz => nomatch hz⟩
      · rintro l x σ H7 hx ⟨gs, y10, rfl, s7, ksa7, kW7, kL7, kF7, hS7, hdone7, hl7⟩
        rw [List.getElem?_map] at hx
        obtain ⟨z, hz, rfl⟩ := Option.map_eq_some_iff.mp hx
        have hzm := List.mem_of_getElem? hz
        have hzr := hnin p z hzm
        have hlen := hS7.len
        have htk : (nx p).take (l + 1) = (nx p).take l ++ [z] := by rw [List.take_add_one, hz]; rfl
        have skip_ : ((z < 0 ∨ alF al z) → z ∈ fs ++ gs) → ∀ y ∈ (nx p).take (l + 1), (y < 0 ∨ alF al y) → y ∈ fs ++ gs := fun h y hy ha => by
          rw [htk] at hy
          rcases List.mem_append.mp hy with hy | hy
          · exact hl7 y hy ha
          · rw [List.mem_singleton.mp hy] at ha ⊢
            exact h ha
        have add : z ∉ fs ++ gs → (z < 0 ∨ alF al z) → Srch A0 ch al st (fs ++ (gs ++ [z])) := fun hn ha => by
          rw [← List.append_assoc]
          refine ⟨List.nodup_append.mpr ⟨hS7.nd, by simp, fun a ha b hb e => hn (by rw [← List.mem_singleton.mp hb, ← e]; exact ha)⟩, fun y hy => ?_⟩
          rcases List.mem_append.mp hy with hy | hy
          · exact hS7.sound y hy
          · rw [List.mem_singleton.mp hy]
            refine ⟨hzr.1, hzr.2, ?_⟩
            rw [hnx]
            rcases hpo with e | e
            · rw [← e]
              exact .one hzm ha
            · have h1 := (hS.sound p e).2.2
              rw [hnx] at h1
              exact .step h1 p0 hzm ha
        refine ⟨_, rfl, _, rfl, L, _, rfl, .inl (sqd kL7), rfl, flat_ints' _, _, rfl, ?_⟩
        by_cases hin7 : z ∈ fs ++ gs
        · refine ifF (by rw [notIn_int, decide_eq_true hin7] <;> rfl) (ifF rfl ?_)
          exact ⟨gs, _, rfl, s7, ksa7, kW7, kL7, kF7, hS7, hdone7, skip_ fun _ => hin7⟩
        refine ifT (by rw [notIn_int, decide_eq_false hin7] <;> rfl) ?_
        have nLF : L ≠ F := fun e => nFL e.symm
        have put : (z < 0 ∨ alF al z) → Same H (upd (upd H7 L (.lst ((fs ++ gs).map V.int ++ [V.int z]))) F (.lst (gs.map V.int ++ [V.int z]))) := fun _ => same_put (same_put s7 hL) hF0
        refine ⟨_, rfl, _, _, rfl, rfl, _, rfl, ?_⟩
        have hlz : ∀ y ∈ (nx p).take (l + 1), (y < 0 ∨ alF al y) → y ∈ fs ++ (gs ++ [z]) := fun y hy ha => by
          rw [← List.append_assoc]
          rw [htk] at hy
          rcases List.mem_append.mp hy with hy | hy
          · exact List.mem_append_left _ (hl7 y hy ha)
          · exact List.mem_append_right _ hy
        by_cases hz0 : z < 0
        · have ha : z < 0 ∨ alF al z := .inl hz0
          refine ifT (decide_eq_true hz0) (ifT rfl ?_)
          refine ⟨_, rfl, .inl ⟨rfl, _, sqd kL7⟩, _, rfl, L, _, _, rfl, rfl, kL7, big' (by rw [List.length_map]; omega), ?_⟩
          have kF8 : upd H7 L (.lst ((fs ++ gs).map V.int ++ [V.int z])) F = some (.lst (gs.map V.int)) := by rw [upd_ne nFL]; exact kF7
          refine ⟨_, rfl, .inl ⟨rfl, _, sqd kF8⟩, _, rfl, F, _, _, rfl, rfl, kF8, big' (by rw [List.length_map]; rw [List.length_append] at hlen; omega), ?_⟩
          exact ⟨gs ++ [z], _, rfl, put ha, by rw [upd_ne nsF, upd_ne nsL]; exact ksa7, by rw [upd_ne (fun e => nFW e.symm), upd_ne nWL]; exact kW7, by rw [upd_ne nLF, upd_same, ← List.append_assoc, List.map_append (l₁ := fs ++ gs)]; rfl, by rw [upd_same, List.map_append]; rfl, add hin7 ha, fun x hx y hy h => by rw [← List.append_assoc]; exact List.mem_append_left _ (hdone7 x hx y hy h), hlz⟩
        · refine ifF (decide_eq_false hz0) ?_
          have hag := List.getElem?_eq_getElem (show z.toNat < al.length by omega)
          generalize al[z.toNat]'(by omega) = bv at hag
          have hatal : atI (al.map V.bl) z = some (.bl bv) := by
            have := atI_nat (show (al.map V.bl)[z.toNat]? = some (V.bl bv) by rw [List.getElem?_map, hag]; rfl)
            rw [show ((z.toNat : Nat) : Int) = z by omega] at this
            exact this
          refine ⟨_, rfl, _, rfl, ap, _, _, _, rfl, rfl, sqd (s7 _ _ eap), hatal, bv, rfl, ?_⟩
          have haF : alF al z ↔ bv = true := by
            unfold alF
            rw [hag]
            exact Iff.rfl
          cases bv with
          | false => exact ifF rfl ⟨gs, _, rfl, s7, ksa7, kW7, kL7, kF7, hS7, hdone7, skip_ fun h => h.elim (fun h => absurd h hz0) (fun h => (by cases haF.mp h))⟩
          | true =>
            have ha : z < 0 ∨ alF al z := .inr (haF.mpr rfl)
            refine ifT rfl ?_
            refine ⟨_, rfl, .inl ⟨rfl, _, sqd kL7⟩, _, rfl, L, _, _, rfl, rfl, kL7, big' (by rw [List.length_map]; omega), ?_⟩
            have kF8 : upd H7 L (.lst ((fs ++ gs).map V.int ++ [V.int z])) F = some (.lst (gs.map V.int)) := by rw [upd_ne nFL]; exact kF7
            refine ⟨_, rfl, .inl ⟨rfl, _, sqd kF8⟩, _, rfl, F, _, _, rfl, rfl, kF8, big' (by rw [List.length_map]; rw [List.length_append] at hlen; omega), ?_⟩
            exact ⟨gs ++ [z], _, rfl, put ha, by rw [upd_ne nsF, upd_ne nsL]; exact ksa7, by rw [upd_ne (fun e => nFW e.symm), upd_ne nWL]; exact kW7, by rw [upd_ne nLF, upd_same, ← List.append_assoc, List.map_append (l₁ := fs ++ gs)]; rfl, by rw [upd_same, List.map_append]; rfl, add hin7 ha, fun x hx y hy h => by rw [← List.append_assoc]; exact List.mem_append_left _ (hdone7 x hx y hy h), hlz⟩
      · rintro σ H7 ⟨gs, y10, rfl, s7, ksa7, kW7, kL7, kF7, hS7, hdone7, hl7⟩
        rw [List.length_map, List.take_length] at hl7
        refine ⟨gs, _, _, _, rfl, s7, kW7, kL7, kF7, hS7, fun e => (by omega), fun x hx z hz ha => ?_⟩
        rw [hwj] at hx
        rcases List.mem_append.mp hx with hx | hx
        · exact hdone7 x hx z hz ha
        · rw [List.mem_singleton.mp hx] at hz
          exact hl7 z hz ha
    · rintro σ H5 ⟨gs, y8, y9, y10, rfl, s5, kW5, kL5, kF5, hS5, hj0, hdone⟩
      rw [List.length_map, List.take_length] at hdone
      rw [List.length_map] at hj0
      -- waiting anew
      refine ⟨_, rfl, F, rfl, ⟨_, sqd kF5⟩, fun W' hW' => ?_⟩
      have hlen := hS5.len
      rw [List.length_append] at hlen
      refine lc_list (K := K) (a := F) (xs := gs.map V.int) (fun (m : Nat) (H' : Hp) => Same H5 H' ∧ H' W' = some (.lst (((gs.take m).filter fun z => decide (0 ≤ z)).map V.int))) ?_ ?_ ?_ ?_
      · exact ⟨same_new hW' _, upd_same⟩
      · rintro m H' _ ⟨s8, _⟩
        exact sqd (s8 _ _ kF5)
      · rintro m x H8 hx ⟨s8, k8⟩
        rw [List.getElem?_map] at hx
        obtain ⟨z, hz, rfl⟩ := Option.map_eq_some_iff.mp hx
        have hml := (List.getElem?_eq_some_iff.mp hz).1
        have htk : (gs.take (m + 1)).filter (fun z => decide (0 ≤ z)) = (gs.take m).filter (fun z => decide (0 ≤ z)) ++ (if 0 ≤ z then [z] else []) := by
          rw [List.take_add_one, hz, List.filter_append]
          congr 1
          show [z].filter (fun z => decide (0 ≤ z)) = _
          by_cases h : 0 ≤ z
          · rw [if_pos h]
            simp [h]
          · rw [if_neg h]
            simp [h]
        rw [htk]
        refine ⟨rfl, ?_⟩
        refine ⟨_, rfl, _, _, rfl, rfl, _, rfl, ?_⟩
        by_cases h : 0 ≤ z
        · refine ifT (decide_eq_true h) ?_
          refine ⟨_, rfl, _, k8, big' (by rw [List.length_map]; have := List.length_filter_le (fun z : Int => decide (0 ≤ z)) (gs.take m); rw [List.length_take] at this; omega), same_put s8 hW', ?_⟩
          rw [upd_same, if_pos h, List.map_append]
          rfl
        · refine ifF (decide_eq_false h) ⟨s8, ?_⟩
          rw [if_neg h, List.append_nil]
          exact k8
      rintro H8 ⟨s8, k8⟩
      rw [List.length_map, List.take_length] at k8
      refine ⟨W', fs ++ gs, _, _, _, _, _, _, rfl, s5.trans s8, fun e => (by rw [e, kL5] at hW'; cases hW'), s8 _ _ kL5, k8, by have := List.length_filter_le (fun z : Int => decide (0 ≤ z)) gs; omega, hS5, fun x hx => ?_, fun x hx hn z hz ha => ?_, ?_⟩
      · obtain ⟨h1, h2⟩ := List.mem_filter.mp hx
        exact ⟨of_decide_eq_true h2, .inr (List.mem_append_right _ h1)⟩
      · by_cases hxw : x ∈ ws
        · exact hdone x hxw z hz ha
        · rcases hx with hx | hx
          · exact List.mem_append_left _ (hcl2 x (.inl hx) hxw z hz ha)
          · rcases List.mem_append.mp hx.1 with h | h
            · exact List.mem_append_left _ (hcl2 x (.inr ⟨h, hx.2⟩) hxw z hz ha)
            · exact absurd (List.mem_filter.mpr ⟨h, decide_eq_true hx.2⟩) hn
      · cases gs with
        | nil => exact .inl rfl
        | cons g gs =>
          refine .inr ?_
          rw [List.length_append, List.length_cons]
          rcases hprog with h | h
          · exact absurd (hj0 (by rw [h]; rfl)) (List.cons_ne_nil _ _)
          · omega
  · rintro σ H3 ⟨W, fs, ws, y6, y7, y8, y9, y10, rfl, s3, nWL, kL, kW, hwl, hS, hws, hcl2, hprog⟩
    refine ⟨_, rfl, q L fs H3 s3 kL hS.len (fun z => ⟨fun hz => (by have := (hS.sound z hz).2.2; rw [hnx] at this; exact this), fun hz => ?_⟩) fun z hz => ⟨(hS.sound z hz).1, (hS.sound z hz).2.1⟩⟩
    have hnin : ∀ x z, z ∈ nx x → -1 ≤ z ∧ z < (A0.length : Int) := fun x z h => nx_in (ch := ch) hin (by rw [hnx]; exact h)
    have hall : ∀ x, (x = st ∨ (x ∈ fs ∧ 0 ≤ x)) → ∀ z ∈ nx x, (z < 0 ∨ alF al z) → z ∈ fs := fun x hx z hz ha => by
      rcases hprog with h | h
      · exact hcl2 x hx (by rw [h]; exact fun g => nomatch g) z hz ha
      · have := hnin x z hz
        exact all_in hS.nd (fun y hy => ⟨(hS.sound y hy).1, (hS.sound y hy).2.1⟩) (by omega) this.1 this.2
    induction hz with
    | one h ha => exact hall st (.inl rfl) _ h ha
    | step _ h0 h ha ih => exact hall _ (.inr ⟨ih, h0⟩) _ h ha
end
end NL

set_option maxHeartbeats 4000000
namespace NL
open PySem PySem.Spec PyProof.Rows L2
/-! ### all choices -/
def OkC (os : Pos') (c : Int) : Prop := (os.length = 0 ∧ c = -1) ∨ (0 ≤ c ∧ c < (os.length : Int))
def ChP (B : List Pos') (ch : List Int) : Prop := ch.length = B.length ∧ ∀ (k : Nat) os c, B[k]? = some os → ch[k]? = some c → OkC os c
def ixC (os : Pos') (k : Nat) : Int := if os.length = 0 then -1 else (k : Int)
theorem okC_ix {os : Pos'} {c : Int} {m : Nat} (hm : m = if os.length = 0 then 1 else os.length) : OkC os c ↔ ∃ k, k < m ∧ c = ixC os k := by
  unfold OkC ixC
  by_cases h : os.length = 0
  · rw [if_pos h] at hm
    simp only [if_pos h]
    refine ⟨fun g => ⟨0, by omega, ?_⟩, fun ⟨k, _, e⟩ => .inl ⟨h, e⟩⟩
    rcases g with g | g
    · exact g.2
    · omega
  · rw [if_neg h] at hm
    simp only [if_neg h]
    refine ⟨fun g => ?_, fun ⟨k, hk, e⟩ => .inr ⟨by omega, by omega⟩⟩
    rcases g with g | g
    · exact absurd g.1 h
    · exact ⟨c.toNat, by omega, by omega⟩
theorem ChP.snoc {B : List Pos'} {os : Pos'} {ch : List Int} : ChP (B ++ [os]) ch ↔ ∃ r c, ChP B r ∧ OkC os c ∧ ch = r ++ [c] := by
  constructor
  · rintro ⟨hl, h⟩
    rw [List.length_append, List.length_singleton] at hl
    have hcl : B.length < ch.length := by omega
    have e : ch = ch.take B.length ++ [ch[B.length]] := by
      have h1 := List.take_append_getElem hcl
      rw [h1, List.take_of_length_le (by omega)]
    refine ⟨ch.take B.length, ch[B.length], ⟨by rw [List.length_take]; omega, fun k o c hk hc => ?_⟩, h B.length os _ (by rw [List.getElem?_append_right (Nat.le_refl _), Nat.sub_self]; rfl) (List.getElem?_eq_getElem hcl), e⟩
    have hkl := (List.getElem?_eq_some_iff.mp hk).1
    rw [List.getElem?_take_of_lt hkl] at hc
    exact h k o c (by rw [List.getElem?_append_left hkl]; exact hk) hc
  · rintro ⟨r, c, ⟨hl, h⟩, hc, rfl⟩
    refine ⟨by rw [List.length_append, List.length_append, hl]; rfl, fun k o d hk hd => ?_⟩
    rcases Nat.lt_or_ge k B.length with w | w
    · rw [List.getElem?_append_left w] at hk
      rw [List.getElem?_append_left (by omega)] at hd
      exact h k o d hk hd
    · have := (List.getElem?_eq_some_iff.mp hk).1
      rw [List.length_append, List.length_singleton] at this
      rw [List.getElem?_append_right w, show k - B.length = 0 by omega] at hk
      rw [List.getElem?_append_right (by omega), show k - r.length = 0 by omega] at hd
      obtain rfl : os = o := Option.some.inj hk
      obtain rfl : c = d := Option.some.inj hd
      exact hc
def RowIn (H : Hp) (r : List Int) (x : V) : Prop := ∃ t, x = .ref t ∧ H t = some (.tup (r.map V.int))
theorem RowIn.tp {H H' : Hp} {r : List Int} {x : V} (t : Tp H H') (h : RowIn H r x) : RowIn H' r x := by
  obtain ⟨a, h1, h2⟩ := h
  exact ⟨a, h1, t _ _ h2⟩
section
variable {P : Program} {w : World} {K : PySem.W.Frag} {mg : Str → Option Value} {base : Heap}
def spCho : Sp := fun vs H Q _ => ∃ (v : V) (A : Ar), vs = [v] ∧ ArIn H A v ∧ A.length ≤ 4 ∧ (∀ os ∈ A, os.length ≤ 5) ∧
  ∀ L rows rs H', Same H H' → H L = none → H' L = some (.lst rs) → Each (RowIn H') rows rs → rows.length ≤ 625 → (∀ ch, ch ∈ rows ↔ ChP A ch) → Q (.ref L) H'
theorem ok_law_choices (T : Txt K mg) : FnOk P w K mg base CX0 1 T.a_law_choices T.d_law_choices P_law_choices spCho := by
  refine T.F_law_choices.ok sc_law_choices (fun vs H Q E h => ?_) (fun cdv A outer s0 H vs Q E hr h => ?_)
  · obtain ⟨v, A, rfl, _⟩ := h
    rfl
  obtain ⟨v, A0, rfl, ⟨b0, ys, rfl, hb0, hys⟩, h4, h5, q⟩ := h
  have hyl := hys.1
  refine ⟨_, (pss_cons (ps_set (i := 1) sc_law_choices.nd rfl (Or.inl rfl) (pe_lst (pa_cons (pe_tup pa_nil) pa_nil)))
    (pss_cons (ps_for  PassesOwn.never rfl (pi_tup (pv 0)) (pg_name (i := 2) sc_law_choices.nd rfl (Or.inl rfl))
    (pss_cons (ps_set (i := 3) sc_law_choices.nd rfl (Or.inl rfl) (pe_lst pa_nil))
    (pss_cons (ps_for  PassesOwn.never rfl (pi_range1 (by rfl) T.z_range (pa_cons (pe_callB (call_max2 rfl) (by rfl) T.z_max (by decide +kernel) (pa_cons pe_int (pa_cons (pe_callB call_len_seq (by rfl) T.z_len PySem.boot_len (pa_cons (pv 2) pa_nil)) pa_nil))) pa_nil)) (pg_name (i := 4) sc_law_choices.nd rfl (Or.inr rfl))
    (C8.pss_cut (ps_if (pt_cmpR op_eq (pe_callB call_len_seq (by rfl) T.z_len PySem.boot_len (pa_cons (pv 2) pa_nil)) pe_int (nomark _))
    (pss_one (ps_set (i := 4) sc_law_choices.nd rfl (Or.inr rfl) (pe_un un_neg pe_int)))
    pss_nil)
    (pss_one (ps_set (i := 3) sc_law_choices.nd rfl (Or.inl rfl) (pe_op op_cat (pv 3) (pe_lc (own := [("row", 5)]) (g := (gName 5)) (tt := tYes) rfl sc_law_choices.nd (pi_list (pv 1)) (blkOk_by (N := N_law_choices) (sc := defScope s_law_choices) (by decide +kernel)) (fun _ _ _ _ _ => (pg_name (i := 5) sc_law_choices.nd rfl (Or.inl rfl))) (fun _ _ _ _ _ => pts_nil) (fun _ _ _ _ _ => (pe_op (op_catAK (K := K) rfl) (pv 5) (pe_tup (pa_cons (pv 4) pa_nil))))))))))
    (pss_one (ps_set (i := 1) sc_law_choices.nd rfl (Or.inl rfl) (pv 3))))))
    (pss_one (ps_ret (pv 1))))), ?_⟩
  refine ⟨Nat.zero_le _, fun t0 ht0 => ?_⟩
  obtain ⟨H1, e1, s1, k1⟩ := newH ht0 (.tup [])
  rw [e1]
  refine ⟨Nat.le_of_ble_eq_true rfl, fun R0 hR0 => ?_⟩
  obtain ⟨H2, e2, s2, k2⟩ := newH hR0 (.lst [V.ref t0])
  rw [e2]
  have s12 := s1.trans s2
  refine ⟨_, rfl, b0, rfl, ⟨_, sqt (s12 _ _ hb0)⟩, ?_⟩
  refine for_tup (K := K) (a := b0) (xs := ys) (fun (i : Nat) (σ : L2.St) (H' : Hp) => ∃ (R : Addr) (rows : List (List Int)) (rs : List V) (y2 y3 y4 y5 : Option V), σ = [some (.ref b0), some (.ref R), y2, y3, y4, y5] ∧ Same H H' ∧ H R = none ∧ H' R = some (.lst rs) ∧ Each (RowIn H') rows rs ∧ rows.length ≤ 5 ^ i ∧ ∀ ch, ch ∈ rows ↔ ChP (A0.take i) ch) ?_ ?_ ?_ ?_
  · refine ⟨R0, [[]], [V.ref t0], _, _, _, _, rfl, s12, s1.free hR0, k2, Each.nil.snoc ⟨t0, rfl, s2 _ _ k1⟩, Nat.le_refl _, fun ch => ?_⟩
    rw [List.mem_singleton]
    refine ⟨fun e => ?_, fun h => List.length_eq_zero_iff.mp h.1⟩
    subst e
    exact ⟨rfl, fun k os c hk _ => nomatch hk⟩
  · rintro i σ H' _ ⟨_, _, _, _, _, _, _, _, s3, _⟩
    exact sqt (s3 _ _ hb0)
  · rintro i x σ H3 hx ⟨R, rows, rs, y2, y3, y4, y5, rfl, s3, hR9, kR, hR, hrl, hrows⟩
    have hil := (List.getElem?_eq_some_iff.mp hx).1
    have hos := List.getElem?_eq_getElem (show i < A0.length by omega)
    generalize A0[i]'(by omega) = os at hos
    have hos5 := h5 os (List.mem_of_getElem? hos)
    obtain ⟨bz, zs, rfl, ebz, hzs⟩ := (hys.mono fun o x => PosIn.tp (Tp.same s3)).2 i os x hos hx
    have hzl := hzs.1
    refine ⟨Nat.zero_le _, fun L0 hL0 => ?_⟩
    obtain ⟨H4, e4, s4, k4⟩ := newH hL0 (.lst [])
    rw [e4]
    have ebz4 := s4 _ _ ebz
    refine ⟨_, rfl, bz, _, rfl, .inr (sqt ebz4), _, _, rfl, ?_⟩
    obtain ⟨m, hm⟩ : ∃ m : Nat, m = if os.length = 0 then 1 else os.length := ⟨_, rfl⟩
    have hmI : (if ((zs.length : Nat) : Int) > 1 then ((zs.length : Nat) : Int) else 1) = (m : Int) := by
      rw [hzl, hm]
      split <;> split <;> omega
    have hm5 : m ≤ 5 := by
      rw [hm]
      split <;> omega
    rw [hmI]
    refine ⟨_, rfl, by omega, by omega, ?_⟩
    refine for_range (lo := 0) (n := ((m : Nat) : Int).toNat) (fun (j : Nat) (σ : L2.St) (H' : Hp) => ∃ (Lj : Addr) (lg : List (List Int)) (ls : List V) (y4 y5 : Option V), σ = [some (.ref b0), some (.ref R), some (.ref bz), some (.ref Lj), y4, y5] ∧ Same H4 H' ∧ H3 Lj = none ∧ H' Lj = some (.lst ls) ∧ Each (RowIn H') lg ls ∧ lg.length = j * rows.length ∧ ∀ ch, ch ∈ lg ↔ ∃ r ∈ rows, ∃ k, k < j ∧ ch = r ++ [ixC os k]) ?_ ?_ ?_
    · exact ⟨L0, [], [], _, _, rfl, .refl _, hL0, k4, .nil, by rw [Nat.zero_mul]; rfl, fun ch => ⟨fun h => (nomatch h), fun ⟨_, _, _, hk, _⟩ => absurd hk (Nat.not_lt_zero _)⟩⟩
    · rintro j σ H5 hj ⟨Lj, lg, ls, z4, z5, rfl, s5, hLj, kLj, hlg, hll, hmem⟩
      rw [Int.toNat_natCast] at hj
      have ebz5 := s5 _ _ ebz4
      have kR5 := s5 _ _ (s4 _ _ kR)
      have hR5 := hR.mono fun o x => RowIn.tp (Tp.same (s4.trans s5))
      have hrl6 : rows.length ≤ 625 := by
        have : 5 ^ i ≤ 5 ^ 4 := Nat.pow_le_pow_right (by decide) (by omega)
        omega
      have hjm : (j + 1) * rows.length ≤ 5 * 625 := Nat.mul_le_mul (by omega) hrl6
      rw [Nat.succ_mul] at hjm
      refine ⟨fun σ' H' => σ' = [some (.ref b0), some (.ref R), some (.ref bz), some (.ref Lj), some (.int (ixC os j)), z5] ∧ H' = H5, ?_, ?_⟩
      · refine ⟨_, rfl, bz, _, rfl, .inr (sqt ebz5), rfl, _, rfl, ?_⟩
        by_cases h0 : os.length = 0
        · refine ifT (decide_eq_true (by congr 1; omega)) ⟨_, rfl, ?_, rfl⟩
          unfold ixC
          rw [if_pos h0]
          rfl
        · refine ifF (decide_eq_false fun e => h0 (by have := V.int.inj e; omega)) ⟨?_, rfl⟩
          unfold ixC
          rw [if_neg h0, Int.zero_add]
          rfl
      rintro σ H' ⟨rfl, rfl⟩
      refine ⟨_, rfl, _, rfl, R, rfl, ⟨_, sqd kR5⟩, fun D hD => ?_⟩
      refine lc_list (K := K) (a := R) (xs := rs) (fun (t : Nat) (H'' : Hp) => Same H' H'' ∧ ∃ ds, H'' D = some (.lst ds) ∧ ds.length = t ∧ Each (RowIn H'') ((rows.take t).map fun r => r ++ [ixC os j]) ds) ?_ ?_ ?_ ?_
      · exact ⟨same_new hD _, [], upd_same, rfl, .nil⟩
      · rintro t H'' _ ⟨s6, _⟩
        exact sqd (s6 _ _ kR5)
      · rintro t x H6 hx ⟨s6, ds, k6, hdl, hds⟩
        have htl := (List.getElem?_eq_some_iff.mp hx).1
        have hRl := hR.1
        have hr := List.getElem?_eq_getElem (show t < rows.length by omega)
        generalize rows[t]'(by omega) = r at hr
        obtain ⟨tr, rfl, etr⟩ := hR5.2 t r x hr hx
        have hrlen : r.length = (A0.take i).length := ((hrows r).mp (List.mem_of_getElem? hr)).1
        rw [List.length_take] at hrlen
        refine ⟨rfl, yes_if ?_⟩
        refine ⟨_, rfl, _, rfl, Nat.le_of_ble_eq_true rfl, fun tz htz => ?_⟩
        obtain ⟨H7, e7, s7, k7⟩ := newH htz (.tup [V.int (ixC os j)])
        rw [e7]
        refine catA_of (s7 _ _ (s6 _ _ etr)) k7 (by rw [List.length_map, List.length_singleton]; omega) fun p H8 s8 k8 => ?_
        have s78 := s7.trans s8
        have kD8 := s78 _ _ k6
        have tt : Tp H8 (upd H8 D (.lst (ds ++ [V.ref p]))) := tp_put Tp.refl kD8
        refine ⟨ds, kD8, big' (by omega), same_put (s6.trans s78) hD, _, upd_same, by rw [List.length_append, hdl]; rfl, ?_⟩
        rw [List.take_add_one, hr, List.map_append]
        refine (hds.mono fun o x => RowIn.tp ((Tp.same s78).trans tt)).snoc ⟨p, rfl, tt _ _ ?_⟩
        rw [List.map_append]
        exact k8
      rintro H6 ⟨s6, ds, k6, hdl, hds⟩
      have hRl := hR.1
      rw [hRl, List.take_length] at hds
      refine ⟨Lj, D, ls, ds, rfl, rfl, s6 _ _ kLj, k6, by have := hlg.1; exact Nat.le_of_lt (big' (by omega)), fun p hp => ?_⟩
      have s7 := same_new hp (.lst (ls ++ ds))
      refine ⟨p, lg ++ rows.map (fun r => r ++ [ixC os j]), _, _, _, rfl, (s5.trans s6).trans s7, (s4.trans (s5.trans s6)).free hp, upd_same, ?_, by rw [List.length_append, List.length_map, hll, Nat.succ_mul], fun ch => ?_⟩
      · exact (hlg.mono fun o x => RowIn.tp (Tp.same (s6.trans s7))).app (hds.mono fun o x => RowIn.tp (Tp.same s7))
      · rw [List.mem_append, hmem, List.mem_map]
        constructor
        · rintro (⟨r, hr, k, hk, e⟩ | ⟨r, hr, e⟩)
          · exact ⟨r, hr, k, by omega, e⟩
          · exact ⟨r, hr, j, by omega, e.symm⟩
        · rintro ⟨r, hr, k, hk, e⟩
          rcases Nat.lt_or_ge k j with w | w
          · exact .inl ⟨r, hr, k, w, e⟩
          · have : k = j := by omega
            subst this
            exact .inr ⟨r, hr, e.symm⟩
    · rintro σ H5 ⟨Lj, lg, ls, z4, z5, rfl, s5, hLj, kLj, hlg, hll, hmem⟩
      rw [Int.toNat_natCast] at hll hmem
      refine ⟨_, rfl, Lj, lg, ls, _, _, _, _, rfl, (s3.trans s4).trans s5, s3.free hLj, kLj, hlg, ?_, fun ch => ?_⟩
      · rw [hll, Nat.pow_succ, Nat.mul_comm]
        exact Nat.mul_le_mul hrl hm5
      · rw [hmem, List.take_add_one, hos]
        show _ ↔ ChP (A0.take i ++ [os]) ch
        rw [ChP.snoc]
        constructor
        · rintro ⟨r, hr, k, hk, e⟩
          exact ⟨r, _, (hrows r).mp hr, (okC_ix hm).mpr ⟨k, hk, rfl⟩, e⟩
        · rintro ⟨r, c, hr, hc, e⟩
          obtain ⟨k, hk, rfl⟩ := (okC_ix hm).mp hc
          exact ⟨r, (hrows r).mpr hr, k, hk, e⟩
  · rintro σ H3 ⟨R, rows, rs, y2, y3, y4, y5, rfl, s3, hR9, kR, hR, hrl, hrows⟩
    rw [hyl, List.take_length] at hrows
    refine ⟨_, rfl, q R rows rs H3 s3 hR9 kR hR ?_ hrows⟩
    have : 5 ^ ys.length ≤ 5 ^ 4 := Nat.pow_le_pow_right (by decide) (by omega)
    omega
end
end NL

set_option maxHeartbeats 4000000
namespace NL
open PySem PySem.Spec PyProof.Rows L2
theorem Rch.mono {nx : Int → Opt} {al al' : Int → Prop} {x z : Int} {n : Nat} (hin : ∀ x z, z ∈ nx x → -1 ≤ z ∧ z < (n : Int)) (ha : ∀ z, 0 ≤ z → z < (n : Int) → al z → al' z) (h : Rch nx al x z) : Rch nx al' x z := by
  have key : ∀ x z, z ∈ nx x → (z < 0 ∨ al z) → (z < 0 ∨ al' z) := fun x z hz h => by
    have := hin x z hz
    rcases h with h | h
    · exact .inl h
    · rcases Int.lt_or_le z 0 with w | w
      · exact .inl w
      · exact .inr (ha z w this.2 h)
  induction h with
  | one h ha' => exact .one h (key _ _ h ha')
  | step _ h0 h ha' ih => exact .step ih h0 h (key _ _ h ha')
section
variable {P : Program} {w : World} {K : PySem.W.Frag} {mg : Str → Option Value} {base : Heap}
def spKept : Sp := fun vs H Q _ => ∃ (v : V) (kc cp : Addr) (A : Ar) (cs ch : List Int), vs = [v, .ref kc, .ref cp] ∧ ArIn H A v ∧ InA A A.length ∧ A.length ≤ 63 ∧ H kc = some (.tup (cs.map V.int)) ∧ cs.length = A.length ∧ (∀ c ∈ cs, 0 ≤ c) ∧ H cp = some (.tup (ch.map V.int)) ∧ ChV A ch ∧
  ∀ L (ks : List Int) H', Same H H' → H L = none → H' L = some (.lst (ks.map V.int)) → ks.length ≤ A.length → (∀ p, p ∈ ks ↔ 0 ≤ p ∧ p < (A.length : Int) ∧ KeptC (nxC (psO A) (chF ch)) (colF cs) A.length p) → Q (.ref L) H'
theorem ok_law_kept (T : Txt K mg) : FnOk P w K mg base CX0 2 T.a_law_kept T.d_law_kept P_law_kept spKept := by
  have G_law_reached := ok_law_reached (P := P) (w := w) (base := base) T
  refine T.F_law_kept.ok sc_law_kept (fun vs H Q E h => ?_) (fun cdv A outer s0 H vs Q E hr h => ?_)
  · obtain ⟨v, kc, cp, A, cs, ch, rfl, _⟩ := h
    rfl
  obtain ⟨v, kc, cp, A0, cs, ch, rfl, ⟨b0, ys, rfl, hb0, hys⟩, hin, h63, ekc, hcl, hc0, ecp, hcv, q⟩ := h
  have hyl := hys.1
  have hnin : ∀ x z, z ∈ nxC (psO A0) (chF ch) x → -1 ≤ z ∧ z < (A0.length : Int) := fun x z h => nx_in hin h
  refine ⟨_, (pss_cons (ps_setLc (i := 3) (own := [("options", 4)]) (g := (gName 4)) (tt := tYes) rfl sc_law_kept.nd rfl rfl (sw_true rfl rfl rfl (by decide +kernel)) (pi_tup (pv 0)) (blkOk_by (N := N_law_kept) (sc := defScope s_law_kept) (by decide +kernel)) (fun _ _ _ _ _ => (pg_name (i := 4) sc_law_kept.nd rfl (Or.inl rfl))) (fun _ _ _ _ _ => pts_nil) (fun _ _ _ _ _ => pe_bl))
    (pss_cons (ps_set (i := 5) sc_law_kept.nd rfl (Or.inr rfl) (pe_lst (pa_cons (pe_un un_neg pe_int) pa_nil)))
    (pss_cons (ps_for  PassesOwn.never rfl (pi_range1 (by rfl) T.z_range (pa_cons (pe_callB call_len_seq (by rfl) T.z_len PySem.boot_len (pa_cons (pv 0) pa_nil)) pa_nil)) (pg_name (i := 6) sc_law_kept.nd rfl (Or.inr rfl))
    (pss_one (ps_if (pt_cmpR op_eq (pe_op op_mod (pe_callTy call_int1 (by rfl) T.z_int (by decide +kernel) (pa_cons (pe_ix ix_tup (pv 1) (pv 6) (fun _ _ => rfl)) pa_nil)) pe_int) pe_int (nomark _))
    (pss_one (ps_if (pt_cmpR op_in_seq (pv 6) (pe_call G_law_reached (hr.mono (by omega)) (by rfl) T.m_law_reached T.F_law_reached.kp T.b_law_reached .nil pass0 (pa_cons (pv 0) (pa_cons (pv 2) (pa_cons (pv 6) (pa_cons (pe_lc (own := [("colour", 7)]) (g := (gName 7)) (tt := tYes) rfl sc_law_kept.nd (pi_tup (pv 1)) (blkOk_by (N := N_law_kept) (sc := defScope s_law_kept) (by decide +kernel)) (fun _ _ _ _ _ => (pg_name (i := 7) sc_law_kept.nd rfl (Or.inl rfl))) (fun _ _ _ _ _ => pts_nil) (fun _ _ _ _ _ => (pe_cmpR op_le (pv 7) (pe_ix (ix_tupK (K := K) rfl) (pv 1) (pv 6) (fun _ _ => rfl)) (nomark _)))) pa_nil))))) (by rfl))
    (pss_one (ps_expr (pe_bm PySem.F.plainAttrs_list PySem.F.slot_list_append PySem.F.type_list_append mt_append (pv 5) (pa_cons (pv 6) pa_nil))))
    pss_nil))
    pss_nil)))
    (pss_cons (ps_set (i := 8) sc_law_kept.nd rfl (Or.inl rfl) (pe_lst pa_nil))
    (pss_cons (ps_for  PassesOwn.never rfl (pi_range1 (by rfl) T.z_range (pa_cons (pe_callB call_len_seq (by rfl) T.z_len PySem.boot_len (pa_cons (pv 0) pa_nil)) pa_nil)) (pg_name (i := 6) sc_law_kept.nd rfl (Or.inr rfl))
    (pss_cons (ps_set (i := 9) sc_law_kept.nd rfl (Or.inl rfl) (pe_op op_cat (pe_lst (pa_cons (pv 6) pa_nil)) (pe_call G_law_reached (hr.mono (by omega)) (by rfl) T.m_law_reached T.F_law_reached.kp T.b_law_reached .nil pass0 (pa_cons (pv 0) (pa_cons (pv 2) (pa_cons (pv 6) (pa_cons (pv 3) pa_nil)))))))
    (pss_one (ps_if (pt_cmpR op_eq (pe_callB call_len_seq (by rfl) T.z_len PySem.boot_len (pa_cons (pe_lc (own := [("other", 10)]) (g := (gName 10)) (tt := _) rfl sc_law_kept.nd (pi_list (pv 9)) (blkOk_by (N := N_law_kept) (sc := defScope s_law_kept) (by decide +kernel)) (fun _ _ _ _ _ => (pg_name (i := 10) sc_law_kept.nd rfl (Or.inl rfl))) (fun _ _ _ _ _ => (pts_one (pt_cmpR (op_in_seqK (K := K) rfl) (pv 10) (pv 5) (by rfl)))) (fun _ _ _ _ _ => (pv 10))) pa_nil)) pe_int (nomark _))
    (pss_one (ps_expr (pe_bm PySem.F.plainAttrs_list PySem.F.slot_list_append PySem.F.type_list_append mt_append (pv 8) (pa_cons (pv 6) pa_nil))))
    pss_nil))))
    (pss_one (ps_ret (pv 8)))))))), ?_⟩
  refine ⟨_, rfl, b0, rfl, ⟨_, sqt hb0⟩, fun EV hEV => ?_⟩
  refine lc_tup (K := K) (a := b0) (xs := ys) (fun (i : Nat) (H' : Hp) => Same H H' ∧ H' EV = some (.lst ((List.replicate i true).map V.bl))) ?_ ?_ ?_ ?_
  · exact ⟨same_new hEV _, upd_same⟩
  · rintro i H' _ ⟨s1, _⟩
    exact sqt (s1 _ _ hb0)
  · rintro i x H1 hx ⟨s1, k1⟩
    have hil := (List.getElem?_eq_some_iff.mp hx).1
    refine ⟨rfl, yes_if ?_⟩
    refine ⟨_, k1, big' (by rw [List.length_map, List.length_replicate]; omega), same_put s1 hEV, ?_⟩
    rw [upd_same, List.replicate_succ', List.map_append]
    rfl
  rintro H1 ⟨s1, kEV⟩
  rw [hyl] at kEV
  refine ⟨_, rfl, Nat.le_of_ble_eq_true rfl, fun B hB => ?_⟩
  obtain ⟨H2, e2, s2, k2⟩ := newH hB (.lst [V.int (-1)])
  rw [show upd H1 B (.lst [V.int (-1)]) = H2 from e2]
  have s12 := s1.trans s2
  have hB0 : H B = none := s1.free hB
  have nEB : EV ≠ B := fun e => by rw [← e, kEV] at hB; cases hB
  refine ⟨_, rfl, b0, _, rfl, .inr (sqt (s12 _ _ hb0)), _, rfl, by omega, by omega, ?_⟩
  generalize hnx : nxC (psO A0) (chF ch) = nx at *
  have hcol : ∀ p : Int, 0 ≤ p → p < (A0.length : Int) → atI (cs.map V.int) p = some (V.int ((colF cs p : Nat) : Int)) := fun p p0 p1 => colF_at hc0 p0 (by omega)
  have alle : ∀ (c : Int) (z : Int), 0 ≤ z → z < (A0.length : Int) → (alF (cs.map fun d => decide (d ≤ c)) z ↔ ((colF cs z : Nat) : Int) ≤ c) := fun c z z0 z1 => by
    have hg := List.getElem?_eq_getElem (show z.toNat < cs.length by omega)
    have hm := hc0 _ (List.getElem_mem (show z.toNat < cs.length by omega))
    generalize cs[z.toNat]'(by omega) = d at hg hm
    unfold alF colF
    rw [List.getElem?_map, hg]
    show decide (d ≤ c) = true ↔ ((d.toNat : Nat) : Int) ≤ c
    rw [decide_eq_true_eq]
    omega
  refine for_range (lo := 0) (n := ((ys.length : Nat) : Int).toNat) (fun (j : Nat) (σ : L2.St) (H' : Hp) => ∃ (bs : List Int) (y4 y6 y7 y8 y9 y10 : Option V), σ = [some (.ref b0), some (.ref kc), some (.ref cp), some (.ref EV), y4, some (.ref B), y6, y7, y8, y9, y10] ∧ Same H H' ∧ H' EV = some (.lst ((List.replicate A0.length true).map V.bl)) ∧ H' B = some (.lst (bs.map V.int)) ∧ bs.length ≤ j + 1 ∧ ∀ y, y ∈ bs ↔ (y = -1 ∨ (0 ≤ y ∧ y < (j : Int) ∧ par (colF cs y) = true ∧ Rch nx (fun z => colF cs z ≤ colF cs y) y y))) ?_ ?_ ?_
  · refine ⟨[-1], _, _, _, _, _, _, rfl, s12, s2 _ _ kEV, k2, Nat.le_refl _, fun y => ?_⟩
    rw [List.mem_singleton]
    exact ⟨.inl, fun h => h.resolve_right (by omega)⟩
  · rintro j σ H3 hj ⟨bs, y4, y6, y7, y8, y9, y10, rfl, s3, kE3, kB3, hbl, hbs⟩
    rw [Int.toNat_natCast] at hj
    have hj0 : (0 : Int) ≤ 0 + (j : Int) := by omega
    have hj1 : (0 : Int) + (j : Int) < (A0.length : Int) := by omega
    have hcj := hcol _ hj0 hj1
    have ekc3 := s3 _ _ ekc
    have next : ∀ y : Int, (0 ≤ y ∧ y < ((j + 1 : Nat) : Int)) ↔ ((0 ≤ y ∧ y < (j : Int)) ∨ y = 0 + (j : Int)) := fun y => by omega
    refine ⟨_, rfl, _, rfl, kc, _, _, _, rfl, rfl, sqt ekc3, hcj, .inl ⟨_, rfl, _, _, rfl, rfl, (show (0 : Int) < 2 by decide), rfl, _, rfl, ?_⟩⟩
    generalize hp : (0 : Int) + (j : Int) = p at *
    have c2 : (((colF cs p : Nat) : Int) % 2) = sI (par (colF cs p)) := sI_par _
    cases hpar : par (colF cs p) with
    | false =>
      refine ifF (decide_eq_false fun h => ?_) ⟨bs, _, _, _, _, _, _, rfl, s3, kE3, kB3, by omega, fun y => ?_⟩
      · have h := V.int.inj h
        have h : (((colF cs p : Nat) : Int) % 2) = 1 := h
        rw [c2, hpar] at h
        cases h
      · rw [hbs y]
        refine or_congr Iff.rfl ⟨fun g => ⟨g.1, by omega, g.2.2⟩, fun g => ⟨g.1, ?_, g.2.2⟩⟩
        rcases (next y).mp ⟨g.1, g.2.1⟩ with w | w
        · exact w.2
        · rw [w, hpar] at g
          cases g.2.2.1
    | true =>
      refine ifT (decide_eq_true (congrArg V.int (c2.trans (by rw [hpar]; rfl)))) ?_
      refine ⟨_, rfl, _, rfl, _, rfl, _, rfl, _, rfl, kc, rfl, ⟨_, sqt ekc3⟩, fun AL hAL => ?_⟩
      refine lc_tup (K := K) (a := kc) (xs := cs.map V.int) (fun (t : Nat) (H' : Hp) => Same H3 H' ∧ H' AL = some (.lst (((cs.take t).map fun d => decide (d ≤ ((colF cs p : Nat) : Int))).map V.bl))) ?_ ?_ ?_ ?_
      · exact ⟨same_new hAL _, upd_same⟩
      · rintro t H' _ ⟨s4, _⟩
        exact sqt (s4 _ _ ekc3)
      · rintro t x H4 hx ⟨s4, k4⟩
        rw [List.getElem?_map] at hx
        obtain ⟨d, hd, rfl⟩ := Option.map_eq_some_iff.mp hx
        refine ⟨rfl, yes_if ?_⟩
        refine ⟨_, rfl, _, rfl, _, rfl, kc, _, _, _, rfl, rfl, sqt (s4 _ _ ekc3), hcj, _, _, rfl, rfl, _, k4, big' (by rw [List.length_map, List.length_map, List.length_take]; omega), same_put s4 hAL, ?_⟩
        rw [upd_same, List.take_add_one, hd, List.map_append, List.map_append]
        rfl
      rintro H4 ⟨s4, k4⟩
      rw [List.length_map, List.take_length] at k4
      have s04 := s3.trans s4
      refine ⟨.ref b0, cp, AL, A0, ch, _, p, rfl, ⟨b0, ys, rfl, s04 _ _ hb0, hys.mono fun o x => PosIn.tp (Tp.same s04)⟩, hin, h63, s04 _ _ ecp, hcv, k4, by rw [List.length_map, hcl], hj0, hj1, fun L fs H5 s5 kL hfl hfs hfr => ?_⟩
      rw [hnx] at hfs
      have s05 := s04.trans s5
      have kE5 := s5 _ _ (s4 _ _ kE3)
      have kB5 := s5 _ _ (s4 _ _ kB3)
      have hrch : p ∈ fs ↔ Rch nx (fun z => colF cs z ≤ colF cs p) p p := by
        rw [hfs p]
        exact ⟨Rch.mono hnin fun z z0 z1 h => by have := (alle _ z z0 z1).mp h; omega, Rch.mono hnin fun z z0 z1 h => (alle _ z z0 z1).mpr (by omega)⟩
      refine ⟨L, _, rfl, .inl (sqd kL), rfl, flat_ints' fs, _, rfl, ?_⟩
      by_cases hm : p ∈ fs
      · refine ifT (by rw [if_neg (by decide), int_in, decide_eq_true hm]) ?_
        refine ⟨_, rfl, .inl ⟨rfl, _, sqd kB5⟩, _, rfl, B, _, _, rfl, rfl, kB5, big' (by rw [List.length_map]; omega), ?_⟩
        refine ⟨bs ++ [p], _, _, _, _, _, _, rfl, same_put s05 hB0, by rw [upd_ne nEB]; exact kE5, by rw [upd_same, List.map_append]; rfl, by rw [List.length_append, List.length_singleton]; omega, fun y => ?_⟩
        rw [List.mem_append, List.mem_singleton, hbs y]
        constructor
        · rintro ((h | h) | h)
          · exact .inl h
          · exact .inr ⟨h.1, by omega, h.2.2⟩
          · rw [h]
            exact .inr ⟨hj0, by omega, hpar, hrch.mp hm⟩
        · rintro (h | h)
          · exact .inl (.inl h)
          · rcases (next y).mp ⟨h.1, h.2.1⟩ with w | w
            · exact .inl (.inr ⟨h.1, w.2, h.2.2⟩)
            · exact .inr w
      · refine ifF (by rw [if_neg (by decide), int_in, decide_eq_false hm]) ⟨bs, _, _, _, _, _, _, rfl, s05, kE5, kB5, by omega, fun y => ?_⟩
        rw [hbs y]
        refine or_congr Iff.rfl ⟨fun g => ⟨g.1, by omega, g.2.2⟩, fun g => ⟨g.1, ?_, g.2.2⟩⟩
        rcases (next y).mp ⟨g.1, g.2.1⟩ with w | w
        · exact w.2
        · rw [w] at g
          exact absurd (hrch.mpr g.2.2.2) hm
  rintro σ H3 ⟨bs, y4, y6, y7, y8, y9, y10, rfl, s3, kE3, kB3, hbl, hbs⟩
  rw [Int.toNat_natCast, hyl] at hbl hbs
  have hbad : ∀ y, y ∈ bs ↔ BadC nx (colF cs) A0.length y := fun y => hbs y
  refine ⟨Nat.zero_le _, fun KL hKL => ?_⟩
  obtain ⟨H4, e4, s4, k4⟩ := newH hKL (.lst [])
  rw [e4]
  have s04 := s3.trans s4
  have hKL0 : H KL = none := s3.free hKL
  have nKE : KL ≠ EV := fun e => by rw [e, kE3] at hKL; cases hKL
  have nKB : KL ≠ B := fun e => by rw [e, kB3] at hKL; cases hKL
  refine ⟨_, rfl, b0, _, rfl, .inr (sqt (s04 _ _ hb0)), _, rfl, by omega, by omega, ?_⟩
  refine for_range (lo := 0) (n := ((ys.length : Nat) : Int).toNat) (fun (j : Nat) (σ : L2.St) (H' : Hp) => ∃ (ks : List Int) (y4 y6 y7 y9 y10 : Option V), σ = [some (.ref b0), some (.ref kc), some (.ref cp), some (.ref EV), y4, some (.ref B), y6, y7, some (.ref KL), y9, y10] ∧ Same H H' ∧ H' EV = some (.lst ((List.replicate A0.length true).map V.bl)) ∧ H' B = some (.lst (bs.map V.int)) ∧ H' KL = some (.lst (ks.map V.int)) ∧ ks.length ≤ j ∧ ∀ p, p ∈ ks ↔ (0 ≤ p ∧ p < (j : Int)) ∧ KeptC nx (colF cs) A0.length p) ?_ ?_ ?_
  · exact ⟨[], _, _, _, _, _, rfl, s04, s4 _ _ kE3, s4 _ _ kB3, k4, Nat.le_refl _, fun p => ⟨fun h => (nomatch h), fun h => (by omega)⟩⟩
  · rintro j σ H5 hj ⟨ks, y4, y6, y7, y9, y10, rfl, s5, kE5, kB5, kK5, hkl, hks⟩
    rw [Int.toNat_natCast] at hj
    have hj0 : (0 : Int) ≤ 0 + (j : Int) := by omega
    have hj1 : (0 : Int) + (j : Int) < (A0.length : Int) := by omega
    have next : ∀ y : Int, (0 ≤ y ∧ y < ((j + 1 : Nat) : Int)) ↔ ((0 ≤ y ∧ y < (j : Int)) ∨ y = 0 + (j : Int)) := fun y => by omega
    generalize hp : (0 : Int) + (j : Int) = p at *
    refine ⟨_, rfl, Nat.le_of_ble_eq_true rfl, fun O hO => ?_⟩
    obtain ⟨H6, e6, s6, k6⟩ := newH hO (.lst [V.int p])
    rw [e6]
    have s06 := s5.trans s6
    refine ⟨_, rfl, _, rfl, _, rfl, _, rfl, .ref b0, cp, EV, A0, ch, _, p, rfl, ⟨b0, ys, rfl, s06 _ _ hb0, hys.mono fun o x => PosIn.tp (Tp.same s06)⟩, hin, h63, s06 _ _ ecp, hcv, s6 _ _ kE5, by rw [List.length_replicate], hj0, hj1, fun L fs H7 s7 kL hfl hfs hfr => ?_⟩
    rw [hnx] at hfs
    have htr : ∀ z, 0 ≤ z → z < (A0.length : Int) → alF (List.replicate A0.length true) z := fun z z0 z1 => by
      unfold alF
      rw [List.getElem?_replicate, if_pos (by omega)]
      rfl
    have hrch : ∀ y, y ∈ fs ↔ Rch nx (fun _ => True) p y := fun y => by
      rw [hfs y]
      exact ⟨Rch.mono hnin fun z _ _ _ => trivial, Rch.mono hnin fun z z0 z1 _ => htr z z0 z1⟩
    refine ⟨O, L, _, _, rfl, rfl, s7 _ _ k6, kL, by rw [List.length_map]; exact (show 1 + fs.length ≤ sizeLine from Nat.le_of_lt (big' (by omega))), fun F hF => ?_⟩
    obtain ⟨H8, e8, s8, k8⟩ := newH hF (.lst ((p :: fs).map V.int))
    rw [show upd H7 F (.lst ([V.int p] ++ fs.map V.int)) = H8 from e8]
    have s08 := (s06.trans s7).trans s8
    have s58 := (s6.trans s7).trans s8
    have kB8 := s58 _ _ kB5
    refine ⟨_, rfl, F, rfl, ⟨_, sqd k8⟩, fun D hD => ?_⟩
    refine lc_list (K := K) (a := F) (xs := (p :: fs).map V.int) (fun (t : Nat) (H' : Hp) => Same H8 H' ∧ H' D = some (.lst ((((p :: fs).take t).filter fun y => decide (y ∈ bs)).map V.int))) ?_ ?_ ?_ ?_
    · exact ⟨same_new hD _, upd_same⟩
    · rintro t H' _ ⟨s9, _⟩
      exact sqd (s9 _ _ k8)
    · rintro t x H9 hx ⟨s9, k9⟩
      rw [List.getElem?_map] at hx
      obtain ⟨z, hz, rfl⟩ := Option.map_eq_some_iff.mp hx
      have htl := (List.getElem?_eq_some_iff.mp hz).1
      rw [List.length_cons] at htl
      have htk : ((p :: fs).take (t + 1)).filter (fun y => decide (y ∈ bs)) = ((p :: fs).take t).filter (fun y => decide (y ∈ bs)) ++ (if z ∈ bs then [z] else []) := by
        rw [List.take_add_one, hz, List.filter_append]
        congr 1
        show [z].filter (fun y => decide (y ∈ bs)) = _
        by_cases h : z ∈ bs
        · rw [if_pos h]
          simp [h]
        · rw [if_neg h]
          simp [h]
      rw [htk]
      refine ⟨rfl, ?_⟩
      refine ⟨_, rfl, _, rfl, B, _, rfl, .inl (sqd (s9 _ _ kB8)), rfl, flat_ints' bs, _, rfl, ?_⟩
      by_cases h : z ∈ bs
      · refine ifT (by rw [if_neg (by decide), int_in, decide_eq_true h]) ?_
        refine ⟨_, rfl, _, k9, big' (by rw [List.length_map]; have := List.length_filter_le (fun y : Int => decide (y ∈ bs)) ((p :: fs).take t); rw [List.length_take, List.length_cons] at this; omega), same_put s9 hD, ?_⟩
        rw [upd_same, if_pos h, List.map_append]
        rfl
      · refine ifF (by rw [if_neg (by decide), int_in, decide_eq_false h]) ⟨s9, ?_⟩
        rw [if_neg h, List.append_nil]
        exact k9
    rintro H9 ⟨s9, k9⟩
    rw [List.length_map, List.take_length] at k9
    have s59 := s58.trans s9
    have kK9 := s59 _ _ kK5
    have hkept : ((p :: fs).filter fun y => decide (y ∈ bs)) = [] ↔ KeptC nx (colF cs) A0.length p := by
      rw [List.filter_eq_nil_iff]
      constructor
      · intro h
        refine ⟨fun hb => h p List.mem_cons_self (decide_eq_true ((hbad p).mpr hb)), fun y hy hb => h y (List.mem_cons_of_mem _ ((hrch y).mpr hy)) (decide_eq_true ((hbad y).mpr hb))⟩
      · intro h y hy hd
        have hb := (hbad y).mp (of_decide_eq_true hd)
        rcases List.mem_cons.mp hy with e | hy
        · rw [e] at hb
          exact h.1 hb
        · exact h.2 y ((hrch y).mp hy) hb
    refine ⟨D, _, rfl, .inl (sqd k9), rfl, _, rfl, ?_⟩
    by_cases hk : ((p :: fs).filter fun y => decide (y ∈ bs)) = []
    · refine ifT (by rw [hk]; rfl) ?_
      refine ⟨_, rfl, .inl ⟨rfl, _, sqd kK9⟩, _, rfl, KL, _, _, rfl, rfl, kK9, big' (by rw [List.length_map]; omega), ?_⟩
      refine ⟨ks ++ [p], _, _, _, _, _, rfl, same_put (s5.trans s59) hKL0, by rw [upd_ne (fun e => nKE e.symm)]; exact s59 _ _ kE5, by rw [upd_ne (fun e => nKB e.symm)]; exact s59 _ _ kB5, by rw [upd_same, List.map_append]; rfl, by rw [List.length_append, List.length_singleton]; omega, fun y => ?_⟩
      rw [List.mem_append, List.mem_singleton, hks y, next y]
      constructor
      · rintro (h | h)
        · exact ⟨.inl h.1, h.2⟩
        · rw [h]
          exact ⟨.inr rfl, hkept.mp hk⟩
      · rintro ⟨h | h, g⟩
        · exact .inl ⟨h, g⟩
        · exact .inr h
    · refine ifF (decide_eq_false fun e => hk ?_) ⟨ks, _, _, _, _, _, rfl, s5.trans s59, s59 _ _ kE5, s59 _ _ kB5, kK9, by omega, fun y => ?_⟩
      · have e := V.int.inj e
        rw [List.length_map] at e
        exact List.length_eq_zero_iff.mp (by omega)
      · rw [hks y, next y]
        constructor
        · rintro ⟨h, g⟩
          exact ⟨.inl h, g⟩
        · rintro ⟨h | h, g⟩
          · exact ⟨h, g⟩
          · rw [h] at g
            exact absurd (hkept.mpr g) hk
  · rintro σ H5 ⟨ks, y4, y6, y7, y9, y10, rfl, s5, kE5, kB5, kK5, hkl, hks⟩
    rw [Int.toNat_natCast, hyl] at hkl hks
    exact ⟨_, rfl, q KL ks H5 s5 hKL0 kK5 hkl fun p => by rw [hks p, and_assoc]⟩
end
end NL

set_option maxHeartbeats 4000000
namespace NL
open PySem PySem.Spec PyProof.Rows L2
/-! ### owned by some choice -/
theorem ChP.v {A : Ar} {ch : List Int} (h : ChP A ch) : ChV A ch := ⟨h.1, fun k os c hk hc => by
  rcases h.2 k os c hk hc with g | g
  · exact .inl (by omega)
  · refine .inr ?_
    have hg := List.getElem?_eq_getElem (show c.toNat < os.length by omega)
    exact ⟨_, List.mem_of_getElem? hg, hg⟩⟩
theorem chosen {A : Ar} {cs : List Int} {sd : Int → Bool} (hin : InA A A.length) (hcb : ∀ c ∈ cs, 0 ≤ c ∧ c < 45) (hS : SdIs A cs sd) {p : Int} (p0 : 0 ≤ p) (p1 : p < (A.length : Int)) : (∃ ch, ChP A ch ∧ KeptC (nxC (psO A) (chF ch)) (colF cs) A.length p) ↔ sd p = false := by
  have hct : ∀ x : Int, 0 ≤ x → x < (A.length : Int) → colF cs x < 45 := fun x _ _ => colF_lt hcb x
  have hio : ∀ x, ∀ o ∈ psO A x, ∀ y ∈ o, -1 ≤ y ∧ y < (A.length : Int) := fun x o ho y hy => psO_in hin x o ho y hy
  constructor
  · rintro ⟨ch, hch, hk⟩
    cases hs : sd p with
    | false => rfl
    | true =>
      refine absurd ((hS 45 hct p p0 p1 true).mp hs) (kept_own (f := chF ch) hio hct (fun x x0 x1 => ?_) hk)
      have hos := List.getElem?_eq_getElem (show x.toNat < A.length by omega)
      generalize A[x.toNat]'(by omega) = os at hos
      have hcg := List.getElem?_eq_getElem (show x.toNat < ch.length by have := hch.1; omega)
      generalize ch[x.toNat]'(by have := hch.1; omega) = c at hcg
      have hcf : chF ch x = c := by unfold chF; rw [hcg]; rfl
      rcases hch.v.2 x.toNat os c hos hcg with g | ⟨o, ho, e⟩
      · exact .inl (by rw [hcf]; exact g)
      · rcases hch.2 x.toNat os c hos hcg with g | g
        · exact .inl (by rw [hcf]; omega)
        · refine .inr ⟨o, by rw [psO_at x0 hos]; exact ho, ?_⟩
          unfold nxC
          rw [hcf, if_pos g.1, psO_at x0 hos, e]
          rfl
  · intro hs
    obtain ⟨N, K, _, hN⟩ := Own.pg (s := false) hio hct
    have hop := (hS 45 hct p p0 p1 false).mp hs
    have pick : ∀ x : Int, ∃ c : Int, 0 ≤ x → x < (A.length : Int) → OkC (psO A x) c ∧ (Own (psO A) (colF cs) 45 A.length false x → 0 ≤ c ∧ ∃ o, (psO A x)[c.toNat]? = some o ∧ ∀ y ∈ o, Own (psO A) (colF cs) 45 A.length false y ∧ Rel false (colF cs x) (N x) (N y)) := fun x => by
      by_cases ho : Own (psO A) (colF cs) 45 A.length false x
      · have h := hN x ho
        unfold Frc at h
        rw [if_neg (by decide)] at h
        obtain ⟨o, hom, hq⟩ := h
        obtain ⟨i, hi⟩ := List.getElem?_of_mem hom
        have hil := (List.getElem?_eq_some_iff.mp hi).1
        refine ⟨(i : Int), fun _ _ => ⟨.inr ⟨by omega, by omega⟩, fun _ => ⟨by omega, o, by rw [Int.toNat_natCast]; exact hi, fun y hy => ?_⟩⟩⟩
        rcases hq y hy with g | g
        · cases g.2
        · exact g
      · refine ⟨ixC (psO A x) 0, fun _ _ => ⟨(okC_ix rfl).mpr ⟨0, by split <;> omega, rfl⟩, fun h => absurd h ho⟩⟩
    have hg : ∀ x : Int, 0 ≤ x → x < (A.length : Int) → OkC (psO A x) (Classical.choose (pick x)) ∧ _ := fun x => Classical.choose_spec (pick x)
    have hchk : ∀ x : Int, 0 ≤ x → x < (A.length : Int) → chF ((List.range A.length).map fun k : Nat => Classical.choose (pick (k : Int))) x = Classical.choose (pick x) := fun x x0 x1 => by
      unfold chF
      rw [List.getElem?_map, List.getElem?_range (by omega)]
      show Classical.choose (pick ((x.toNat : Nat) : Int)) = _
      rw [show ((x.toNat : Nat) : Int) = x by omega]
    refine ⟨(List.range A.length).map fun k : Nat => Classical.choose (pick (k : Int)), ⟨by rw [List.length_map, List.length_range], fun k os c hk hc => ?_⟩, ?_⟩
    · have hkl := (List.getElem?_eq_some_iff.mp hk).1
      rw [List.getElem?_map, List.getElem?_range hkl] at hc
      obtain rfl := Option.some.inj hc
      have := (hg (k : Int) (by omega) (by omega)).1
      have e : psO A (k : Int) = os := psO_at (by omega) (by rw [Int.toNat_natCast]; exact hk)
      rw [← e]
      exact this
    · refine own_kept (S := Own (psO A) (colF cs) 45 A.length false) (N := N) (fun x hx => hx.rg) (fun x hx y hy => ?_) hop
      obtain ⟨h1, o, h2, h3⟩ := (hg x hx.rg.1 hx.rg.2).2 hx
      unfold nxC at hy
      rw [hchk x hx.rg.1 hx.rg.2, if_pos h1, h2] at hy
      exact h3 y hy
theorem Each.dropN {α : Type} {R : α → V → Prop} {l : List α} {xs : List V} (h : Each R l xs) (m : Nat) : Each R (l.drop m) (xs.drop m) := by
  have hl := h.1
  refine ⟨by rw [List.length_drop, List.length_drop]; omega, fun k o x ho hx => ?_⟩
  rw [List.getElem?_drop] at ho hx
  exact h.2 _ _ _ ho hx
def l5 (os : Pos') : Pos' := os.drop (os.length - 5)
theorem cut_m5 {xs : List V} : cutV xs (some (-5)) none = xs.drop (xs.length - 5) := by
  unfold cutV
  have e : HT.sIx xs.length 0 (some (-5)) = xs.length - 5 := by
    show (if (-5 : Int) < 0 then (-5 + (xs.length : Int)).toNat else min (-5 : Int).toNat xs.length) = _
    rw [if_pos (by decide)]
    omega
  rw [e]
  refine List.take_of_length_le ?_
  rw [List.length_drop]
  show xs.length - (xs.length - 5) ≤ xs.length - (xs.length - 5)
  exact Nat.le_refl _
theorem slY_of {K : PySem.W.Frag} {a : Addr} {xs : List V} {lo hi : Option Int} {H : Hp} {Q : VK} (ha : H a = some (.tup xs)) (q : ∀ p H', Same H H' → H' p = some (.tup (cutV xs lo hi)) → Q (.ref p) H') : rSlA K (.ref a) lo hi H Q := by
  refine ⟨a, xs, rfl, sqt ha, fun h => ?_, fun _ p hp => q p _ (same_new hp _) upd_same⟩
  refine q a H (Same.refl H) ?_
  have : cutV xs lo hi = xs := by
    unfold cutV
    rw [h.1, h.2, List.drop_zero, Nat.sub_zero]
    exact List.take_length
  rw [this]
  exact ha
section
variable {P : Program} {w : World} {K : PySem.W.Frag} {mg : Str → Option Value} {base : Heap}
theorem ok_law (T : Txt K mg) {c Pt : Addr} (TB : GxR.TabB base mg c Pt) (hc : T.dforces.code = .ref c) : FnOk P w K mg base CX0 58 T.alaw T.dlaw Plaw (spLawT K Pt) := by
  have G_law_draws := ok_law_draws (P := P) (w := w) (base := base) T
  have G_law_game := ok_law_game (P := P) (w := w) (base := base) T
  have G_law_choices := ok_law_choices (P := P) (w := w) (base := base) T
  have G_law_kept := ok_law_kept (P := P) (w := w) (base := base) T
  have Gowners := gx_ownersC (P := P) (w := w) T TB hc
  have G_law_same := gx_law_same (P := P) (w := w) (base := base) T 2
  refine T.Flaw.ok sclaw (fun vs H Q E h => ?_) (fun cdv A outer s H vs Q E hr h => ?_)
  · obtain ⟨a, ns, rfl, _⟩ := h
    rfl
  obtain ⟨a, ns, rfl, hSq, hl, hT, q⟩ := h
  refine ⟨_, (pss_cons (ps_set (i := 1) sclaw.nd rfl (Or.inl rfl) (pe_call G_law_draws (hr.mono (by omega)) (by rfl) T.m_law_draws T.F_law_draws.kp T.b_law_draws .nil pass0 (pa_cons (pv 0) (pa_cons pe_int pa_nil))))
    (pss_cons (ps_set (i := 2) sclaw.nd rfl (Or.inl rfl) (pe_call G_law_game (hr.mono (by omega)) (by rfl) T.m_law_game T.F_law_game.kp T.b_law_game .nil pass0 (pa_cons (pv 1) (pa_cons pe_int pa_nil))))
    (pss_cons (ps_asg (pe_callTy call_tuple_of (by rfl) T.z_tuple (by decide +kernel) (pa_cons (pe_lc (own := [("options", 3)]) (g := (gName 3)) (tt := tYes) rfl sclaw.nd (pi_tup (pe_ix ix_list (pv 2) pe_int (fun _ _ => rfl))) (blkOk_by (N := Nlaw) (sc := defScope slaw) (by decide +kernel)) (fun _ _ _ _ _ => (pg_name (i := 3) sclaw.nd rfl (Or.inl rfl))) (fun _ _ _ _ _ => pts_nil) (fun _ _ _ _ _ => (pe_slice (sl_tupAK (K := K) rfl) (pv 3) (po_some (pe_un un_neg pe_int)) po_none))) pa_nil)) (pg_sub (pv 2) pe_int set_list))
    (pss_cons (ps_set (i := 4) sclaw.nd rfl (Or.inr rfl) (pe_lst pa_nil))
    (pss_cons (ps_for  PassesOwn.never rfl (pi_list (pe_call G_law_choices (hr.mono (by omega)) (by rfl) T.m_law_choices T.F_law_choices.kp T.b_law_choices .nil pass0 (pa_cons (pe_ix ix_list (pv 2) pe_int (fun _ _ => rfl)) pa_nil))) (pg_name (i := 5) sclaw.nd rfl (Or.inl rfl))
    (pss_one (ps_for  PassesOwn.never rfl (pi_list (pe_call G_law_kept (hr.mono (by omega)) (by rfl) T.m_law_kept T.F_law_kept.kp T.b_law_kept .nil pass0 (pa_cons (pe_ix ix_list (pv 2) pe_int (fun _ _ => rfl)) (pa_cons (pe_ix ix_list (pv 2) pe_int (fun _ _ => rfl)) (pa_cons (pv 5) pa_nil))))) (pg_name (i := 6) sclaw.nd rfl (Or.inl rfl))
    (pss_one (ps_if (pt_cmpR op_notIn_seq (pv 6) (pv 4) (by rfl))
    (pss_one (ps_expr (pe_bm PySem.F.plainAttrs_list PySem.F.slot_list_append PySem.F.type_list_append mt_append (pv 4) (pa_cons (pv 6) pa_nil))))
    pss_nil)))))
    (pss_cons (ps_set (i := 7) sclaw.nd rfl (Or.inl rfl) (pe_callTy call_tuple_of (by rfl) T.z_tuple (by decide +kernel) (pa_cons (pe_lc (own := [("place", 6)]) (g := (gName 6)) (tt := tYes) rfl sclaw.nd (pi_range1 (by rfl) T.z_range (pa_cons (pe_callB call_len_seq (by rfl) T.z_len PySem.boot_len (pa_cons (pe_ix ix_list (pv 2) pe_int (fun _ _ => rfl)) pa_nil)) pa_nil)) (blkOk_by (N := Nlaw) (sc := defScope slaw) (by decide +kernel)) (fun _ _ _ _ _ => (pg_name (i := 6) sclaw.nd rfl (Or.inl rfl))) (fun _ _ _ _ _ => pts_nil) (fun _ _ _ _ _ => (pe_ix (ix_listK (K := K) rfl) (pe_lst (pa_cons pe_str (pa_cons pe_str pa_nil))) (pe_callTy call_int1 (by rfl) T.z_int (by decide +kernel) (pa_cons (pe_cmpR (op_in_seqK (K := K) rfl) (pv 6) (pv 4) (by rfl)) pa_nil)) (fun _ _ => rfl)))) pa_nil)))
    (pss_one (ps_ret (pe_call G_law_same (hr.mono (by omega)) (by rfl) T.m_law_same T.F_law_same.kp T.b_law_same .nil pass0 (pa_cons (pe_call Gowners (hr.mono (by omega)) (by rfl) T.mowners T.Fowners.kp T.bowners .nil pass0 (pa_cons (pe_ix ix_list (pv 2) pe_int (fun _ _ => rfl)) (pa_cons (pe_tup (pa_cons pe_str (pa_cons (pe_ix ix_list (pv 2) pe_int (fun _ _ => rfl)) pa_nil))) pa_nil))) (pa_cons (pv 7) pa_nil))))))))))), ?_⟩
  refine ⟨_, rfl, a, ns, 230, rfl, hSq, hl, by decide, by decide, fun d H1 s1 hd D1 => ?_⟩
  have hT1 := TabG.same hT s1
  refine ⟨_, rfl, d, 4, rfl, D1, by decide, by decide, fun gl v kc A0 cs H4 g4 ngl kgl hA hG ekc hcl0 hcs0 hAm hgl3 => ?_⟩
  have hT4 := Go.tab g4 D1 hT1
  have h400 := hG.1
  have hglP : gl ≠ Pt := TabG.ne hT4 (o := .lst [v, .ref kc]) trivial kgl
  obtain ⟨b0, ys, rfl, hb0, hys⟩ := id hA
  have hyl := hys.1
  -- at most five options of each
  refine ⟨_, rfl, gl, _, _, _, rfl, rfl, sqd kgl, atI0, b0, rfl, ⟨_, sqt hb0⟩, fun D hD => ?_⟩
  refine lc_tup (K := K) (a := b0) (xs := ys) (fun (i : Nat) (H' : Hp) => Same H4 H' ∧ ∃ ds, H' D = some (.lst ds) ∧ ds.length = i ∧ Each (PosIn H') ((A0.take i).map l5) ds) ?_ ?_ ?_ ?_
  · exact ⟨same_new hD _, [], upd_same, rfl, .nil⟩
  · rintro i H' _ ⟨s5, _⟩
    exact sqt (s5 _ _ hb0)
  · rintro i x H5 hx ⟨s5, ds, k5, hdl, hds⟩
    have hil := (List.getElem?_eq_some_iff.mp hx).1
    have hos := List.getElem?_eq_getElem (show i < A0.length by omega)
    generalize A0[i]'(by omega) = os at hos
    obtain ⟨bz, zs, rfl, ebz, hzs⟩ := (hys.mono fun o x => PosIn.tp (Tp.same s5)).2 i os x hos hx
    refine ⟨rfl, yes_if ?_⟩
    refine ⟨_, rfl, ?_⟩
    dsimp only [tNoPart]
    refine ⟨_, rfl, _, rfl, slY_of ebz fun p H6 s6 k6 => ?_⟩
    have kD6 := s6 _ _ k5
    have tt : Tp H6 (upd H6 D (.lst (ds ++ [V.ref p]))) := tp_put Tp.refl kD6
    refine ⟨ds, kD6, big' (by omega), same_put (s5.trans s6) hD, _, upd_same, by rw [List.length_append, hdl]; rfl, ?_⟩
    rw [List.take_add_one, hos, List.map_append]
    have hzl := hzs.1
    refine (hds.mono fun o x => PosIn.tp ((Tp.same s6).trans tt)).snoc ⟨p, _, rfl, tt _ _ k6, ?_⟩
    rw [cut_m5, hzl]
    exact (hzs.mono fun o x => OptIn.tp ((Tp.same s6).trans tt)).dropN _
  rintro H5 ⟨s5, ds, k5, hdl, hds⟩
  rw [hyl, List.take_length] at hds
  refine ⟨D, _, rfl, .inl ⟨sqd k5, fun b5 hb5 => ?_⟩⟩
  obtain ⟨H6, e6, s6, k6⟩ := newH hb5 (.tup ds)
  rw [e6]
  have s46 := s5.trans s6
  have kgl6 := s46 _ _ kgl
  refine ⟨_, rfl, gl, _, _, _, rfl, rfl, kgl6, ixN_in (by decide) (by show (0 : Int) < ((2 : Nat) : Int); decide), ?_⟩
  have hset : ([V.ref b0, V.ref kc] : List V).set (0 : Int).toNat (.ref b5) = [.ref b5, .ref kc] := rfl
  rw [hset]
  have hl5 : (A0.map l5).length = A0.length := List.length_map ..
  have hG5 : ArG (A0.map l5) := ⟨by omega, fun os ho => by
    obtain ⟨o0, h0, rfl⟩ := List.mem_map.mp ho
    have := hG.2 o0 h0
    rw [hl5]
    refine ⟨?_, fun o hoo => this.2 o (List.mem_of_mem_drop hoo)⟩
    have h1 := this.1
    unfold l5
    rw [List.length_drop]
    omega⟩
  have h5 : ∀ os ∈ A0.map l5, os.length ≤ 5 := fun os ho => by
    obtain ⟨o0, h0, rfl⟩ := List.mem_map.mp ho
    unfold l5
    rw [List.length_drop]
    omega
  generalize A0.map l5 = A5 at *
  have hin : InA A5 A5.length := fun os ho o hoo p hp => ((hG5.2 os ho).2 o hoo).mem p hp
  have fg : Fx gl Pt H6 (upd H6 gl (.lst [V.ref b5, .ref kc])) := Fx.put (by rw [kgl6]; exact fun h => nomatch h) hglP
  have hb7 : upd H6 gl (.lst [V.ref b5, .ref kc]) b5 = some (.tup ds) := fg.tup kgl6 k6
  have k7 : upd H6 gl (.lst [V.ref b5, .ref kc]) kc = some (.tup (cs.map V.int)) := fg.tup kgl6 (s46 _ _ ekc)
  have hds7 : Each (PosIn (upd H6 gl (.lst [V.ref b5, .ref kc]))) A5 ds := hds.mono fun o x => PosIn.tp (fun b us e => fg.tup kgl6 (s6 _ _ e))
  have hT7 := fg.tb (TabG.same hT4 s46)
  have kgl7 : upd H6 gl (.lst [V.ref b5, .ref kc]) gl = some (.lst [V.ref b5, .ref kc]) := upd_same
  generalize upd H6 gl (.lst [V.ref b5, .ref kc]) = H7 at *
  have hcl : cs.length = A5.length := by omega
  have hc0 : ∀ c ∈ cs, 0 ≤ c := fun c hc => (hcs0 c hc).1
  have hc45 : ∀ c ∈ cs, 0 ≤ c ∧ c < 45 := fun c hc => ⟨(hcs0 c hc).1, by have := (hcs0 c hc).2; omega⟩
  refine ⟨Nat.zero_le _, fun O hO => ?_⟩
  obtain ⟨H8, e8, s8, k8⟩ := newH hO (.lst [])
  rw [e8]
  have arIn : ∀ H', Same H7 H' → ArIn H' A5 (.ref b5) := fun H' s' => ⟨b5, ds, rfl, s' _ _ hb7, hds7.mono fun o x => PosIn.tp (Tp.same s')⟩
  refine ⟨_, rfl, gl, _, _, _, rfl, rfl, sqd (s8 _ _ kgl7), atI0, .ref b5, A5, rfl, arIn _ s8, by omega, h5, fun CL rows rs H9 s9 hCL kCL hRows hlen hmem => ?_⟩
  have nCO : O ≠ CL := fun e => by rw [← e, k8] at hCL; cases hCL
  refine ⟨CL, rfl, ⟨_, sqd kCL⟩, ?_⟩
  refine for_list (K := K) (a := CL) (xs := rs) (fun (i : Nat) (σ : L2.St) (H' : Hp) => ∃ (os : List Int) (y3 y5 y6 y7 : Option V), σ = [some (.ref a), some (.ref d), some (.ref gl), y3, some (.ref O), y5, y6, y7] ∧ Same H7 H' ∧ H' CL = some (.lst rs) ∧ Each (RowIn H') rows rs ∧ H' O = some (.lst (os.map V.int)) ∧ os.Nodup ∧ (∀ p ∈ os, 0 ≤ p ∧ p < (A5.length : Int)) ∧ ∀ p, p ∈ os ↔ ∃ r ∈ rows.take i, 0 ≤ p ∧ p < (A5.length : Int) ∧ KeptC (nxC (psO A5) (chF r)) (colF cs) A5.length p) ?_ ?_ ?_ ?_
  · exact ⟨[], _, _, _, _, rfl, s8.trans s9, kCL, hRows, s9 _ _ k8, List.nodup_nil, fun p h => (nomatch h), fun p => ⟨fun h => (nomatch h), fun ⟨r, h, _⟩ => (nomatch h)⟩⟩
  · rintro i σ H' _ ⟨_, _, _, _, _, _, _, h, _⟩
    exact sqd h
  · rintro i x σ H10 hx ⟨os, y3, y5, y6, y7, rfl, s10, kCL10, hR10, kO10, hnd, hrg, hos⟩
    have hil := (List.getElem?_eq_some_iff.mp hx).1
    have hRl := hR10.1
    have hr := List.getElem?_eq_getElem (show i < rows.length by omega)
    generalize rows[i]'(by omega) = r at hr
    obtain ⟨t, rfl, et⟩ := hR10.2 i r x hr hx
    refine ⟨_, rfl, gl, _, _, _, rfl, rfl, sqd (s10 _ _ kgl7), atI0, _, rfl, gl, _, _, _, rfl, rfl, sqd (s10 _ _ kgl7), atI1, _, rfl, .ref b5, kc, t, A5, cs, r, rfl, arIn _ s10, hin, by omega, s10 _ _ k7, hcl, hc0, et, ((hmem r).mp (List.mem_of_getElem? hr)).v, fun KL ks H11 s11 hKL kKL hkl hks => ?_⟩
    have nKO : O ≠ KL := fun e => by rw [← e, kO10] at hKL; cases hKL
    refine ⟨KL, rfl, ⟨_, sqd kKL⟩, ?_⟩
    refine for_list (K := K) (a := KL) (xs := ks.map V.int) (fun (j : Nat) (σ : L2.St) (H' : Hp) => ∃ (os' : List Int) (y6 y7 : Option V), σ = [some (.ref a), some (.ref d), some (.ref gl), y3, some (.ref O), some (.ref t), y6, y7] ∧ Same H7 H' ∧ H' CL = some (.lst rs) ∧ Each (RowIn H') rows rs ∧ H' KL = some (.lst (ks.map V.int)) ∧ H' O = some (.lst (os'.map V.int)) ∧ os'.Nodup ∧ (∀ p ∈ os', 0 ≤ p ∧ p < (A5.length : Int)) ∧ ∀ p, p ∈ os' ↔ (p ∈ os ∨ p ∈ ks.take j)) ?_ ?_ ?_ ?_
    · exact ⟨os, _, _, rfl, s10.trans s11, s11 _ _ kCL10, hR10.mono fun o x => RowIn.tp (Tp.same s11), kKL, s11 _ _ kO10, hnd, hrg, fun p => ⟨.inl, fun h => h.resolve_right fun g => (nomatch g)⟩⟩
    · rintro j σ H' _ ⟨_, _, _, _, _, _, _, h, _⟩
      exact sqd h
    · rintro j x σ H12 hx ⟨os', z6, z7, rfl, s12, kCL12, hR12, kKL12, kO12, hnd', hrg', hos'⟩
      rw [List.getElem?_map] at hx
      obtain ⟨p, hp, rfl⟩ := Option.map_eq_some_iff.mp hx
      have hpk := (hks p).mp (List.mem_of_getElem? hp)
      have htk : ks.take (j + 1) = ks.take j ++ [p] := by rw [List.take_add_one, hp]; rfl
      have hol : os'.length ≤ A5.length := by
        have h1 := nd_sub (S := os') (U := (List.range A5.length).map fun k : Nat => (k : Int)) hnd' fun x hx => by
          have := hrg' x hx
          exact List.mem_map.mpr ⟨x.toNat, List.mem_range.mpr (by omega), by omega⟩
        rw [List.length_map, List.length_range] at h1
        exact h1
      refine ⟨_, rfl, _, rfl, O, _, rfl, .inl (sqd kO12), rfl, flat_ints' _, _, rfl, ?_⟩
      by_cases hm : p ∈ os'
      · refine ifF (by rw [notIn_int, decide_eq_true hm] <;> rfl) ⟨os', _, _, rfl, s12, kCL12, hR12, kKL12, kO12, hnd', hrg', fun y => ?_⟩
        rw [hos' y, htk, List.mem_append, List.mem_singleton, ← or_assoc, ← hos' y]
        exact ⟨.inl, fun h => h.elim id fun e => by rw [e]; exact hm⟩
      · refine ifT (by rw [notIn_int, decide_eq_false hm] <;> rfl) ?_
        refine ⟨_, rfl, .inl ⟨rfl, _, sqd kO12⟩, _, rfl, O, _, _, rfl, rfl, kO12, big' (by rw [List.length_map]; omega), ?_⟩
        have tt : Tp H12 (upd H12 O (.lst (os'.map V.int ++ [V.int p]))) := tp_put Tp.refl kO12
        refine ⟨os' ++ [p], _, _, rfl, same_put s12 hO, by rw [upd_ne (fun e => nCO e.symm)]; exact kCL12, hR12.mono fun o x => RowIn.tp tt, by rw [upd_ne (fun e => nKO e.symm)]; exact kKL12, by rw [upd_same, List.map_append]; rfl, List.nodup_append.mpr ⟨hnd', by simp, fun a ha b hb e => hm (by rw [← List.mem_singleton.mp hb, ← e]; exact ha)⟩, fun y hy => ?_, fun y => ?_⟩
        · rcases List.mem_append.mp hy with hy | hy
          · exact hrg' y hy
          · rw [List.mem_singleton.mp hy]
            exact ⟨hpk.1, hpk.2.1⟩
        · rw [List.mem_append, List.mem_singleton, hos' y, htk, List.mem_append, List.mem_singleton, or_assoc]
    · rintro σ H12 ⟨os', z6, z7, rfl, s12, kCL12, hR12, kKL12, kO12, hnd', hrg', hos'⟩
      rw [List.length_map, List.take_length] at hos'
      refine ⟨os', _, _, _, _, rfl, s12, kCL12, hR12, kO12, hnd', hrg', fun y => ?_⟩
      have htk : rows.take (i + 1) = rows.take i ++ [r] := by rw [List.take_add_one, hr]; rfl
      rw [hos' y, hos y, hks y, htk]
      constructor
      · rintro (⟨r', h1, h2⟩ | h)
        · exact ⟨r', List.mem_append_left _ h1, h2⟩
        · exact ⟨r, List.mem_append_right _ (List.mem_singleton.mpr rfl), h⟩
      · rintro ⟨r', h1, h2⟩
        rcases List.mem_append.mp h1 with h1 | h1
        · exact .inl ⟨r', h1, h2⟩
        · rw [List.mem_singleton.mp h1] at h2
          exact .inr h2
  rintro σ H10 ⟨os, y3, y5, y6, y7, rfl, s10, kCL10, hR10, kO10, hnd, hrg, hos⟩
  have hRl := hR10.1
  rw [hRl, List.take_length] at hos
  have hdl5 := hds7.1
  refine ⟨_, rfl, gl, _, _, _, rfl, rfl, sqd (s10 _ _ kgl7), atI0, b5, _, rfl, .inr (sqt (s10 _ _ hb7)), _, rfl, by omega, by omega, fun DL hDL => ?_⟩
  refine lc_range (lo := 0) (n := ((ds.length : Nat) : Int).toNat) (fun (i : Nat) (H' : Hp) => Same H10 H' ∧ H' DL = some (.lst ((List.range i).map fun k : Nat => sdS (!decide ((k : Int) ∈ os))))) ?_ ?_ ?_
  · exact ⟨same_new hDL _, upd_same⟩
  · rintro i H11 hi ⟨s11, k11⟩
    rw [Int.toNat_natCast] at hi
    refine ⟨rfl, yes_if ?_⟩
    refine ⟨Nat.le_of_ble_eq_true rfl, fun tl htl => ?_⟩
    obtain ⟨H12, e12, s12, k12⟩ := newH htl (.lst [V.str "disturbance", V.str "controller"])
    rw [e12]
    have s1012 := s11.trans s12
    have hat : atI [V.str "disturbance", V.str "controller"] (if (if false = true then !inV (V.int (0 + (i : Int))) (os.map V.int) else inV (V.int (0 + (i : Int))) (os.map V.int)) = true then 1 else 0) = some (sdS (!decide ((i : Int) ∈ os))) := by
      rw [if_neg (show ¬ (false = true) from fun h => nomatch h), int_in, Int.zero_add]
      cases decide ((i : Int) ∈ os) <;> rfl
    refine ⟨_, rfl, _, rfl, O, _, rfl, .inl (sqd (s1012 _ _ kO10)), rfl, flat_ints' os, .inr ⟨_, rfl, tl, _, _, _, rfl, rfl, sqd k12, hat, _, s12 _ _ k11, big' (by rw [List.length_map, List.length_range]; omega), same_put s1012 hDL, ?_⟩⟩
    rw [upd_same, List.range_succ, List.map_append]
    rfl
  rintro H11 ⟨s11, k11⟩
  rw [Int.toNat_natCast] at k11
  refine ⟨DL, _, rfl, .inl ⟨sqd k11, fun dt hdt => ?_⟩⟩
  obtain ⟨H12, e12, s12, k12⟩ := newH hdt (.tup ((List.range ds.length).map fun k : Nat => sdS (!decide ((k : Int) ∈ os))))
  rw [e12]
  have s712 := (s10.trans s11).trans s12
  refine ⟨_, rfl, gl, _, _, _, rfl, rfl, sqd (s712 _ _ kgl7), atI0, ?_⟩
  refine ⟨_, rfl, gl, _, _, _, rfl, rfl, sqd (s712 _ _ kgl7), atI1, Nat.le_of_ble_eq_true rfl, fun gp hgp => ?_⟩
  obtain ⟨H13, e13, s13, k13⟩ := newH hgp (.tup [V.str "colours", .ref kc])
  rw [e13]
  have s713 := s712.trans s13
  refine ⟨.ref b5, A5, gp, kc, cs, rfl, k13, arIn _ s713, hG5, by omega, hin, s713 _ _ k7, hcl, hc45, TabG.same hT7 s713, fun sd op H14 s14 kop hSd => ?_⟩
  have hst14 := s14.tup (s13 _ _ k12)
  have hlist : ((List.range A5.length).map fun k : Nat => sdS (sd (k : Int))) = (List.range ds.length).map fun k : Nat => sdS (!decide ((k : Int) ∈ os)) := by
    rw [← hdl5]
    refine List.map_congr_left fun k hk => ?_
    have hkl := List.mem_range.mp hk
    have h1 := chosen hin hc45 hSd (p := (k : Int)) (by omega) (by omega)
    have h2 : (k : Int) ∈ os ↔ sd (k : Int) = false := by
      rw [hos, ← h1]
      exact ⟨fun ⟨r, hr, _, _, hk⟩ => ⟨r, (hmem r).mp hr, hk⟩, fun ⟨ch, hch, hk⟩ => ⟨ch, (hmem ch).mpr hch, by omega, by omega, hk⟩⟩
    congr 1
    cases hs : sd (k : Int) with
    | false => rw [decide_eq_true (h2.mpr hs)]; rfl
    | true => rw [decide_eq_false (fun g => by rw [h2.mp g] at hs; cases hs)]; rfl
  rw [hlist] at kop
  refine ⟨_, rfl, _, _, rfl, AlkC.strs kop hst14 (by rw [List.length_map, List.length_range]; omega) (fun x hx => ?_), ?_⟩
  · obtain ⟨k, _, rfl⟩ := List.mem_map.mp hx
    exact ⟨_, rfl⟩
  exact q H14
end
end NL

namespace NL
open PySem PySem.Spec PyProof.Rows L2
theorem all_mk {l : PySem.W.OpenLaw} {w : World} {K : PySem.W.Frag} {h : Heap} {mg : Str → Option Value} {fa fforces f_all_marked f_some_marked fsteps_to fcolour_owners fsettle f_take_near fhas_option fleast_measures f_entries_in f_is_ended f_won_without fstay_ranks fcome_ranks f_ranks_to fleast_credits fleast_loads f_scaled f_least_values fvalues_of_rows fowners f_drafts f_tank_drafts f_colour_drafts f_law_draws f_law_take f_law_same f_law_option f_law_arena f_law_colours f_law_game f_law_choices f_law_reached f_law_kept flaw : Addr} (X : K.In h) (G : h.Ns mainGlobals mg) (hfa : mg "law" = some (.ref fa)) (own : ∀ f, mg "forces" = some (.ref f) → LamX.OwnTab K f h)
    {odforces anforces : Option Addr} {slforces : Array (Option Value)} {ocforces kVforces dcforces pmforces cdforces ctforces : Value}
    {od_all_marked an_all_marked : Option Addr} {sl_all_marked : Array (Option Value)} {oc_all_marked kV_all_marked dc_all_marked pm_all_marked cd_all_marked ct_all_marked : Value}
    {od_some_marked an_some_marked : Option Addr} {sl_some_marked : Array (Option Value)} {oc_some_marked kV_some_marked dc_some_marked pm_some_marked cd_some_marked ct_some_marked : Value}
    {odsteps_to ansteps_to : Option Addr} {slsteps_to : Array (Option Value)} {ocsteps_to kVsteps_to dcsteps_to pmsteps_to cdsteps_to ctsteps_to : Value}
    {odcolour_owners ancolour_owners : Option Addr} {slcolour_owners : Array (Option Value)} {occolour_owners kVcolour_owners dccolour_owners pmcolour_owners cdcolour_owners ctcolour_owners : Value}
    {odsettle ansettle : Option Addr} {slsettle : Array (Option Value)} {ocsettle kVsettle dcsettle pmsettle cdsettle ctsettle : Value}
    {od_take_near an_take_near : Option Addr} {sl_take_near : Array (Option Value)} {oc_take_near kV_take_near dc_take_near pm_take_near cd_take_near ct_take_near : Value}
    {odhas_option anhas_option : Option Addr} {slhas_option : Array (Option Value)} {ochas_option kVhas_option dchas_option pmhas_option cdhas_option cthas_option : Value}
    {odleast_measures anleast_measures : Option Addr} {slleast_measures : Array (Option Value)} {ocleast_measures kVleast_measures dcleast_measures pmleast_measures cdleast_measures ctleast_measures : Value}
    {od_entries_in an_entries_in : Option Addr} {sl_entries_in : Array (Option Value)} {oc_entries_in kV_entries_in dc_entries_in pm_entries_in cd_entries_in ct_entries_in : Value}
    {od_is_ended an_is_ended : Option Addr} {sl_is_ended : Array (Option Value)} {oc_is_ended kV_is_ended dc_is_ended pm_is_ended cd_is_ended ct_is_ended : Value}
    {od_won_without an_won_without : Option Addr} {sl_won_without : Array (Option Value)} {oc_won_without kV_won_without dc_won_without pm_won_without cd_won_without ct_won_without : Value}
    {odstay_ranks anstay_ranks : Option Addr} {slstay_ranks : Array (Option Value)} {ocstay_ranks kVstay_ranks dcstay_ranks pmstay_ranks cdstay_ranks ctstay_ranks : Value}
    {odcome_ranks ancome_ranks : Option Addr} {slcome_ranks : Array (Option Value)} {occome_ranks kVcome_ranks dccome_ranks pmcome_ranks cdcome_ranks ctcome_ranks : Value}
    {od_ranks_to an_ranks_to : Option Addr} {sl_ranks_to : Array (Option Value)} {oc_ranks_to kV_ranks_to dc_ranks_to pm_ranks_to cd_ranks_to ct_ranks_to : Value}
    {odleast_credits anleast_credits : Option Addr} {slleast_credits : Array (Option Value)} {ocleast_credits kVleast_credits dcleast_credits pmleast_credits cdleast_credits ctleast_credits : Value}
    {odleast_loads anleast_loads : Option Addr} {slleast_loads : Array (Option Value)} {ocleast_loads kVleast_loads dcleast_loads pmleast_loads cdleast_loads ctleast_loads : Value}
    {od_scaled an_scaled : Option Addr} {sl_scaled : Array (Option Value)} {oc_scaled kV_scaled dc_scaled pm_scaled cd_scaled ct_scaled : Value}
    {od_least_values an_least_values : Option Addr} {sl_least_values : Array (Option Value)} {oc_least_values kV_least_values dc_least_values pm_least_values cd_least_values ct_least_values : Value}
    {odvalues_of_rows anvalues_of_rows : Option Addr} {slvalues_of_rows : Array (Option Value)} {ocvalues_of_rows kVvalues_of_rows dcvalues_of_rows pmvalues_of_rows cdvalues_of_rows ctvalues_of_rows : Value}
    {odowners anowners : Option Addr} {slowners : Array (Option Value)} {ocowners kVowners dcowners pmowners cdowners ctowners : Value}
    {od_drafts an_drafts : Option Addr} {sl_drafts : Array (Option Value)} {oc_drafts kV_drafts dc_drafts pm_drafts cd_drafts ct_drafts : Value}
    {od_tank_drafts an_tank_drafts : Option Addr} {sl_tank_drafts : Array (Option Value)} {oc_tank_drafts kV_tank_drafts dc_tank_drafts pm_tank_drafts cd_tank_drafts ct_tank_drafts : Value}
    {od_colour_drafts an_colour_drafts : Option Addr} {sl_colour_drafts : Array (Option Value)} {oc_colour_drafts kV_colour_drafts dc_colour_drafts pm_colour_drafts cd_colour_drafts ct_colour_drafts : Value}
    {od_law_draws an_law_draws : Option Addr} {sl_law_draws : Array (Option Value)} {oc_law_draws kV_law_draws dc_law_draws pm_law_draws cd_law_draws ct_law_draws : Value}
    {od_law_take an_law_take : Option Addr} {sl_law_take : Array (Option Value)} {oc_law_take kV_law_take dc_law_take pm_law_take cd_law_take ct_law_take : Value}
    {od_law_same an_law_same : Option Addr} {sl_law_same : Array (Option Value)} {oc_law_same kV_law_same dc_law_same pm_law_same cd_law_same ct_law_same : Value}
    {od_law_option an_law_option : Option Addr} {sl_law_option : Array (Option Value)} {oc_law_option kV_law_option dc_law_option pm_law_option cd_law_option ct_law_option : Value}
    {od_law_arena an_law_arena : Option Addr} {sl_law_arena : Array (Option Value)} {oc_law_arena kV_law_arena dc_law_arena pm_law_arena cd_law_arena ct_law_arena : Value}
    {od_law_colours an_law_colours : Option Addr} {sl_law_colours : Array (Option Value)} {oc_law_colours kV_law_colours dc_law_colours pm_law_colours cd_law_colours ct_law_colours : Value}
    {od_law_game an_law_game : Option Addr} {sl_law_game : Array (Option Value)} {oc_law_game kV_law_game dc_law_game pm_law_game cd_law_game ct_law_game : Value}
    {od_law_choices an_law_choices : Option Addr} {sl_law_choices : Array (Option Value)} {oc_law_choices kV_law_choices dc_law_choices pm_law_choices cd_law_choices ct_law_choices : Value}
    {od_law_reached an_law_reached : Option Addr} {sl_law_reached : Array (Option Value)} {oc_law_reached kV_law_reached dc_law_reached pm_law_reached cd_law_reached ct_law_reached : Value}
    {od_law_kept an_law_kept : Option Addr} {sl_law_kept : Array (Option Value)} {oc_law_kept kV_law_kept dc_law_kept pm_law_kept cd_law_kept ct_law_kept : Value}
    {odlaw anlaw : Option Addr} {sllaw : Array (Option Value)} {oclaw kVlaw dclaw pmlaw cdlaw ctlaw : Value}
    {u_CONTROLLER : Value}
    {u_DISTURBANCE : Value}
    {c_OPTION_KINDS : Addr}
    {cF PF : Addr} {odF : Option Addr} {vsF : Array Value} {slF : Array (Option Value)} {xFile : Str} {xFlags xText : Int} {xIn : Bool} {xt1 xt2 xt3 : Tok}
    (aforces : PySem.W.nsIn K mainGlobals "forces" = some (some (.ref fforces))) (lforces : K.lookup fforces = some ⟨ocforces, odforces, .func (PySem.W.fnOf "forces" "forces" (defArgs sforces) (defBody sforces) (defScope sforces) .none kVforces dcforces pmforces anforces cdforces ctforces), slforces⟩) (cforces : PySem.W.codeIn K cdforces "forces" = true) (kforces : PySem.W.keepIn K (.ref fforces) = true)
    (a_all_marked : PySem.W.nsIn K mainGlobals "_all_marked" = some (some (.ref f_all_marked))) (l_all_marked : K.lookup f_all_marked = some ⟨oc_all_marked, od_all_marked, .func (PySem.W.fnOf "_all_marked" "_all_marked" (defArgs s_all_marked) (defBody s_all_marked) (defScope s_all_marked) .none kV_all_marked dc_all_marked pm_all_marked an_all_marked cd_all_marked ct_all_marked), sl_all_marked⟩) (c_all_marked : PySem.W.codeIn K cd_all_marked "_all_marked" = true) (k_all_marked : PySem.W.keepIn K (.ref f_all_marked) = true)
    (a_some_marked : PySem.W.nsIn K mainGlobals "_some_marked" = some (some (.ref f_some_marked))) (l_some_marked : K.lookup f_some_marked = some ⟨oc_some_marked, od_some_marked, .func (PySem.W.fnOf "_some_marked" "_some_marked" (defArgs s_some_marked) (defBody s_some_marked) (defScope s_some_marked) .none kV_some_marked dc_some_marked pm_some_marked an_some_marked cd_some_marked ct_some_marked), sl_some_marked⟩) (c_some_marked : PySem.W.codeIn K cd_some_marked "_some_marked" = true) (k_some_marked : PySem.W.keepIn K (.ref f_some_marked) = true)
    (asteps_to : PySem.W.nsIn K mainGlobals "steps_to" = some (some (.ref fsteps_to))) (lsteps_to : K.lookup fsteps_to = some ⟨ocsteps_to, odsteps_to, .func (PySem.W.fnOf "steps_to" "steps_to" (defArgs ssteps_to) (defBody ssteps_to) (defScope ssteps_to) .none kVsteps_to dcsteps_to pmsteps_to ansteps_to cdsteps_to ctsteps_to), slsteps_to⟩) (csteps_to : PySem.W.codeIn K cdsteps_to "steps_to" = true) (ksteps_to : PySem.W.keepIn K (.ref fsteps_to) = true)
    (acolour_owners : PySem.W.nsIn K mainGlobals "colour_owners" = some (some (.ref fcolour_owners))) (lcolour_owners : K.lookup fcolour_owners = some ⟨occolour_owners, odcolour_owners, .func (PySem.W.fnOf "colour_owners" "colour_owners" (defArgs scolour_owners) (defBody scolour_owners) (defScope scolour_owners) .none kVcolour_owners dccolour_owners pmcolour_owners ancolour_owners cdcolour_owners ctcolour_owners), slcolour_owners⟩) (ccolour_owners : PySem.W.codeIn K cdcolour_owners "colour_owners" = true) (kcolour_owners : PySem.W.keepIn K (.ref fcolour_owners) = true)
    (asettle : PySem.W.nsIn K mainGlobals "settle" = some (some (.ref fsettle))) (lsettle : K.lookup fsettle = some ⟨ocsettle, odsettle, .func (PySem.W.fnOf "settle" "settle" (defArgs ssettle) (defBody ssettle) (defScope ssettle) .none kVsettle dcsettle pmsettle ansettle cdsettle ctsettle), slsettle⟩) (csettle : PySem.W.codeIn K cdsettle "settle" = true) (ksettle : PySem.W.keepIn K (.ref fsettle) = true)
    (a_take_near : PySem.W.nsIn K mainGlobals "_take_near" = some (some (.ref f_take_near))) (l_take_near : K.lookup f_take_near = some ⟨oc_take_near, od_take_near, .func (PySem.W.fnOf "_take_near" "_take_near" (defArgs s_take_near) (defBody s_take_near) (defScope s_take_near) .none kV_take_near dc_take_near pm_take_near an_take_near cd_take_near ct_take_near), sl_take_near⟩) (c_take_near : PySem.W.codeIn K cd_take_near "_take_near" = true) (k_take_near : PySem.W.keepIn K (.ref f_take_near) = true)
    (ahas_option : PySem.W.nsIn K mainGlobals "has_option" = some (some (.ref fhas_option))) (lhas_option : K.lookup fhas_option = some ⟨ochas_option, odhas_option, .func (PySem.W.fnOf "has_option" "has_option" (defArgs shas_option) (defBody shas_option) (defScope shas_option) .none kVhas_option dchas_option pmhas_option anhas_option cdhas_option cthas_option), slhas_option⟩) (chas_option : PySem.W.codeIn K cdhas_option "has_option" = true) (khas_option : PySem.W.keepIn K (.ref fhas_option) = true)
    (aleast_measures : PySem.W.nsIn K mainGlobals "least_measures" = some (some (.ref fleast_measures))) (lleast_measures : K.lookup fleast_measures = some ⟨ocleast_measures, odleast_measures, .func (PySem.W.fnOf "least_measures" "least_measures" (defArgs sleast_measures) (defBody sleast_measures) (defScope sleast_measures) .none kVleast_measures dcleast_measures pmleast_measures anleast_measures cdleast_measures ctleast_measures), slleast_measures⟩) (cleast_measures : PySem.W.codeIn K cdleast_measures "least_measures" = true) (kleast_measures : PySem.W.keepIn K (.ref fleast_measures) = true)
    (a_entries_in : PySem.W.nsIn K mainGlobals "_entries_in" = some (some (.ref f_entries_in))) (l_entries_in : K.lookup f_entries_in = some ⟨oc_entries_in, od_entries_in, .func (PySem.W.fnOf "_entries_in" "_entries_in" (defArgs s_entries_in) (defBody s_entries_in) (defScope s_entries_in) .none kV_entries_in dc_entries_in pm_entries_in an_entries_in cd_entries_in ct_entries_in), sl_entries_in⟩) (c_entries_in : PySem.W.codeIn K cd_entries_in "_entries_in" = true) (k_entries_in : PySem.W.keepIn K (.ref f_entries_in) = true)
    (a_is_ended : PySem.W.nsIn K mainGlobals "_is_ended" = some (some (.ref f_is_ended))) (l_is_ended : K.lookup f_is_ended = some ⟨oc_is_ended, od_is_ended, .func (PySem.W.fnOf "_is_ended" "_is_ended" (defArgs s_is_ended) (defBody s_is_ended) (defScope s_is_ended) .none kV_is_ended dc_is_ended pm_is_ended an_is_ended cd_is_ended ct_is_ended), sl_is_ended⟩) (c_is_ended : PySem.W.codeIn K cd_is_ended "_is_ended" = true) (k_is_ended : PySem.W.keepIn K (.ref f_is_ended) = true)
    (a_won_without : PySem.W.nsIn K mainGlobals "_won_without" = some (some (.ref f_won_without))) (l_won_without : K.lookup f_won_without = some ⟨oc_won_without, od_won_without, .func (PySem.W.fnOf "_won_without" "_won_without" (defArgs s_won_without) (defBody s_won_without) (defScope s_won_without) .none kV_won_without dc_won_without pm_won_without an_won_without cd_won_without ct_won_without), sl_won_without⟩) (c_won_without : PySem.W.codeIn K cd_won_without "_won_without" = true) (k_won_without : PySem.W.keepIn K (.ref f_won_without) = true)
    (astay_ranks : PySem.W.nsIn K mainGlobals "stay_ranks" = some (some (.ref fstay_ranks))) (lstay_ranks : K.lookup fstay_ranks = some ⟨ocstay_ranks, odstay_ranks, .func (PySem.W.fnOf "stay_ranks" "stay_ranks" (defArgs sstay_ranks) (defBody sstay_ranks) (defScope sstay_ranks) .none kVstay_ranks dcstay_ranks pmstay_ranks anstay_ranks cdstay_ranks ctstay_ranks), slstay_ranks⟩) (cstay_ranks : PySem.W.codeIn K cdstay_ranks "stay_ranks" = true) (kstay_ranks : PySem.W.keepIn K (.ref fstay_ranks) = true)
    (acome_ranks : PySem.W.nsIn K mainGlobals "come_ranks" = some (some (.ref fcome_ranks))) (lcome_ranks : K.lookup fcome_ranks = some ⟨occome_ranks, odcome_ranks, .func (PySem.W.fnOf "come_ranks" "come_ranks" (defArgs scome_ranks) (defBody scome_ranks) (defScope scome_ranks) .none kVcome_ranks dccome_ranks pmcome_ranks ancome_ranks cdcome_ranks ctcome_ranks), slcome_ranks⟩) (ccome_ranks : PySem.W.codeIn K cdcome_ranks "come_ranks" = true) (kcome_ranks : PySem.W.keepIn K (.ref fcome_ranks) = true)
    (a_ranks_to : PySem.W.nsIn K mainGlobals "_ranks_to" = some (some (.ref f_ranks_to))) (l_ranks_to : K.lookup f_ranks_to = some ⟨oc_ranks_to, od_ranks_to, .func (PySem.W.fnOf "_ranks_to" "_ranks_to" (defArgs s_ranks_to) (defBody s_ranks_to) (defScope s_ranks_to) .none kV_ranks_to dc_ranks_to pm_ranks_to an_ranks_to cd_ranks_to ct_ranks_to), sl_ranks_to⟩) (c_ranks_to : PySem.W.codeIn K cd_ranks_to "_ranks_to" = true) (k_ranks_to : PySem.W.keepIn K (.ref f_ranks_to) = true)
    (aleast_credits : PySem.W.nsIn K mainGlobals "least_credits" = some (some (.ref fleast_credits))) (lleast_credits : K.lookup fleast_credits = some ⟨ocleast_credits, odleast_credits, .func (PySem.W.fnOf "least_credits" "least_credits" (defArgs sleast_credits) (defBody sleast_credits) (defScope sleast_credits) .none kVleast_credits dcleast_credits pmleast_credits anleast_credits cdleast_credits ctleast_credits), slleast_credits⟩) (cleast_credits : PySem.W.codeIn K cdleast_credits "least_credits" = true) (kleast_credits : PySem.W.keepIn K (.ref fleast_credits) = true)
    (aleast_loads : PySem.W.nsIn K mainGlobals "least_loads" = some (some (.ref fleast_loads))) (lleast_loads : K.lookup fleast_loads = some ⟨ocleast_loads, odleast_loads, .func (PySem.W.fnOf "least_loads" "least_loads" (defArgs sleast_loads) (defBody sleast_loads) (defScope sleast_loads) .none kVleast_loads dcleast_loads pmleast_loads anleast_loads cdleast_loads ctleast_loads), slleast_loads⟩) (cleast_loads : PySem.W.codeIn K cdleast_loads "least_loads" = true) (kleast_loads : PySem.W.keepIn K (.ref fleast_loads) = true)
    (a_scaled : PySem.W.nsIn K mainGlobals "_scaled" = some (some (.ref f_scaled))) (l_scaled : K.lookup f_scaled = some ⟨oc_scaled, od_scaled, .func (PySem.W.fnOf "_scaled" "_scaled" (defArgs s_scaled) (defBody s_scaled) (defScope s_scaled) .none kV_scaled dc_scaled pm_scaled an_scaled cd_scaled ct_scaled), sl_scaled⟩) (c_scaled : PySem.W.codeIn K cd_scaled "_scaled" = true) (k_scaled : PySem.W.keepIn K (.ref f_scaled) = true)
    (a_least_values : PySem.W.nsIn K mainGlobals "_least_values" = some (some (.ref f_least_values))) (l_least_values : K.lookup f_least_values = some ⟨oc_least_values, od_least_values, .func (PySem.W.fnOf "_least_values" "_least_values" (defArgs s_least_values) (defBody s_least_values) (defScope s_least_values) .none kV_least_values dc_least_values pm_least_values an_least_values cd_least_values ct_least_values), sl_least_values⟩) (c_least_values : PySem.W.codeIn K cd_least_values "_least_values" = true) (k_least_values : PySem.W.keepIn K (.ref f_least_values) = true)
    (avalues_of_rows : PySem.W.nsIn K mainGlobals "values_of_rows" = some (some (.ref fvalues_of_rows))) (lvalues_of_rows : K.lookup fvalues_of_rows = some ⟨ocvalues_of_rows, odvalues_of_rows, .func (PySem.W.fnOf "values_of_rows" "values_of_rows" (defArgs svalues_of_rows) (defBody svalues_of_rows) (defScope svalues_of_rows) .none kVvalues_of_rows dcvalues_of_rows pmvalues_of_rows anvalues_of_rows cdvalues_of_rows ctvalues_of_rows), slvalues_of_rows⟩) (cvalues_of_rows : PySem.W.codeIn K cdvalues_of_rows "values_of_rows" = true) (kvalues_of_rows : PySem.W.keepIn K (.ref fvalues_of_rows) = true)
    (aowners : PySem.W.nsIn K mainGlobals "owners" = some (some (.ref fowners))) (lowners : K.lookup fowners = some ⟨ocowners, odowners, .func (PySem.W.fnOf "owners" "owners" (defArgs sowners) (defBody sowners) (defScope sowners) .none kVowners dcowners pmowners anowners cdowners ctowners), slowners⟩) (cowners : PySem.W.codeIn K cdowners "owners" = true) (kowners : PySem.W.keepIn K (.ref fowners) = true)
    (a_drafts : PySem.W.nsIn K mainGlobals "_drafts" = some (some (.ref f_drafts))) (l_drafts : K.lookup f_drafts = some ⟨oc_drafts, od_drafts, .func (PySem.W.fnOf "_drafts" "_drafts" (defArgs s_drafts) (defBody s_drafts) (defScope s_drafts) .none kV_drafts dc_drafts pm_drafts an_drafts cd_drafts ct_drafts), sl_drafts⟩) (c_drafts : PySem.W.codeIn K cd_drafts "_drafts" = true) (k_drafts : PySem.W.keepIn K (.ref f_drafts) = true)
    (a_tank_drafts : PySem.W.nsIn K mainGlobals "_tank_drafts" = some (some (.ref f_tank_drafts))) (l_tank_drafts : K.lookup f_tank_drafts = some ⟨oc_tank_drafts, od_tank_drafts, .func (PySem.W.fnOf "_tank_drafts" "_tank_drafts" (defArgs s_tank_drafts) (defBody s_tank_drafts) (defScope s_tank_drafts) .none kV_tank_drafts dc_tank_drafts pm_tank_drafts an_tank_drafts cd_tank_drafts ct_tank_drafts), sl_tank_drafts⟩) (c_tank_drafts : PySem.W.codeIn K cd_tank_drafts "_tank_drafts" = true) (k_tank_drafts : PySem.W.keepIn K (.ref f_tank_drafts) = true)
    (a_colour_drafts : PySem.W.nsIn K mainGlobals "_colour_drafts" = some (some (.ref f_colour_drafts))) (l_colour_drafts : K.lookup f_colour_drafts = some ⟨oc_colour_drafts, od_colour_drafts, .func (PySem.W.fnOf "_colour_drafts" "_colour_drafts" (defArgs s_colour_drafts) (defBody s_colour_drafts) (defScope s_colour_drafts) .none kV_colour_drafts dc_colour_drafts pm_colour_drafts an_colour_drafts cd_colour_drafts ct_colour_drafts), sl_colour_drafts⟩) (c_colour_drafts : PySem.W.codeIn K cd_colour_drafts "_colour_drafts" = true) (k_colour_drafts : PySem.W.keepIn K (.ref f_colour_drafts) = true)
    (a_law_draws : PySem.W.nsIn K mainGlobals "_law_draws" = some (some (.ref f_law_draws))) (l_law_draws : K.lookup f_law_draws = some ⟨oc_law_draws, od_law_draws, .func (PySem.W.fnOf "_law_draws" "_law_draws" (defArgs s_law_draws) (defBody s_law_draws) (defScope s_law_draws) .none kV_law_draws dc_law_draws pm_law_draws an_law_draws cd_law_draws ct_law_draws), sl_law_draws⟩) (c_law_draws : PySem.W.codeIn K cd_law_draws "_law_draws" = true) (k_law_draws : PySem.W.keepIn K (.ref f_law_draws) = true)
    (a_law_take : PySem.W.nsIn K mainGlobals "_law_take" = some (some (.ref f_law_take))) (l_law_take : K.lookup f_law_take = some ⟨oc_law_take, od_law_take, .func (PySem.W.fnOf "_law_take" "_law_take" (defArgs s_law_take) (defBody s_law_take) (defScope s_law_take) .none kV_law_take dc_law_take pm_law_take an_law_take cd_law_take ct_law_take), sl_law_take⟩) (c_law_take : PySem.W.codeIn K cd_law_take "_law_take" = true) (k_law_take : PySem.W.keepIn K (.ref f_law_take) = true)
    (a_law_same : PySem.W.nsIn K mainGlobals "_law_same" = some (some (.ref f_law_same))) (l_law_same : K.lookup f_law_same = some ⟨oc_law_same, od_law_same, .func (PySem.W.fnOf "_law_same" "_law_same" (defArgs s_law_same) (defBody s_law_same) (defScope s_law_same) .none kV_law_same dc_law_same pm_law_same an_law_same cd_law_same ct_law_same), sl_law_same⟩) (c_law_same : PySem.W.codeIn K cd_law_same "_law_same" = true) (k_law_same : PySem.W.keepIn K (.ref f_law_same) = true)
    (a_law_option : PySem.W.nsIn K mainGlobals "_law_option" = some (some (.ref f_law_option))) (l_law_option : K.lookup f_law_option = some ⟨oc_law_option, od_law_option, .func (PySem.W.fnOf "_law_option" "_law_option" (defArgs s_law_option) (defBody s_law_option) (defScope s_law_option) .none kV_law_option dc_law_option pm_law_option an_law_option cd_law_option ct_law_option), sl_law_option⟩) (c_law_option : PySem.W.codeIn K cd_law_option "_law_option" = true) (k_law_option : PySem.W.keepIn K (.ref f_law_option) = true)
    (a_law_arena : PySem.W.nsIn K mainGlobals "_law_arena" = some (some (.ref f_law_arena))) (l_law_arena : K.lookup f_law_arena = some ⟨oc_law_arena, od_law_arena, .func (PySem.W.fnOf "_law_arena" "_law_arena" (defArgs s_law_arena) (defBody s_law_arena) (defScope s_law_arena) .none kV_law_arena dc_law_arena pm_law_arena an_law_arena cd_law_arena ct_law_arena), sl_law_arena⟩) (c_law_arena : PySem.W.codeIn K cd_law_arena "_law_arena" = true) (k_law_arena : PySem.W.keepIn K (.ref f_law_arena) = true)
    (a_law_colours : PySem.W.nsIn K mainGlobals "_law_colours" = some (some (.ref f_law_colours))) (l_law_colours : K.lookup f_law_colours = some ⟨oc_law_colours, od_law_colours, .func (PySem.W.fnOf "_law_colours" "_law_colours" (defArgs s_law_colours) (defBody s_law_colours) (defScope s_law_colours) .none kV_law_colours dc_law_colours pm_law_colours an_law_colours cd_law_colours ct_law_colours), sl_law_colours⟩) (c_law_colours : PySem.W.codeIn K cd_law_colours "_law_colours" = true) (k_law_colours : PySem.W.keepIn K (.ref f_law_colours) = true)
    (a_law_game : PySem.W.nsIn K mainGlobals "_law_game" = some (some (.ref f_law_game))) (l_law_game : K.lookup f_law_game = some ⟨oc_law_game, od_law_game, .func (PySem.W.fnOf "_law_game" "_law_game" (defArgs s_law_game) (defBody s_law_game) (defScope s_law_game) .none kV_law_game dc_law_game pm_law_game an_law_game cd_law_game ct_law_game), sl_law_game⟩) (c_law_game : PySem.W.codeIn K cd_law_game "_law_game" = true) (k_law_game : PySem.W.keepIn K (.ref f_law_game) = true)
    (a_law_choices : PySem.W.nsIn K mainGlobals "_law_choices" = some (some (.ref f_law_choices))) (l_law_choices : K.lookup f_law_choices = some ⟨oc_law_choices, od_law_choices, .func (PySem.W.fnOf "_law_choices" "_law_choices" (defArgs s_law_choices) (defBody s_law_choices) (defScope s_law_choices) .none kV_law_choices dc_law_choices pm_law_choices an_law_choices cd_law_choices ct_law_choices), sl_law_choices⟩) (c_law_choices : PySem.W.codeIn K cd_law_choices "_law_choices" = true) (k_law_choices : PySem.W.keepIn K (.ref f_law_choices) = true)
    (a_law_reached : PySem.W.nsIn K mainGlobals "_law_reached" = some (some (.ref f_law_reached))) (l_law_reached : K.lookup f_law_reached = some ⟨oc_law_reached, od_law_reached, .func (PySem.W.fnOf "_law_reached" "_law_reached" (defArgs s_law_reached) (defBody s_law_reached) (defScope s_law_reached) .none kV_law_reached dc_law_reached pm_law_reached an_law_reached cd_law_reached ct_law_reached), sl_law_reached⟩) (c_law_reached : PySem.W.codeIn K cd_law_reached "_law_reached" = true) (k_law_reached : PySem.W.keepIn K (.ref f_law_reached) = true)
    (a_law_kept : PySem.W.nsIn K mainGlobals "_law_kept" = some (some (.ref f_law_kept))) (l_law_kept : K.lookup f_law_kept = some ⟨oc_law_kept, od_law_kept, .func (PySem.W.fnOf "_law_kept" "_law_kept" (defArgs s_law_kept) (defBody s_law_kept) (defScope s_law_kept) .none kV_law_kept dc_law_kept pm_law_kept an_law_kept cd_law_kept ct_law_kept), sl_law_kept⟩) (c_law_kept : PySem.W.codeIn K cd_law_kept "_law_kept" = true) (k_law_kept : PySem.W.keepIn K (.ref f_law_kept) = true)
    (alaw : PySem.W.nsIn K mainGlobals "law" = some (some (.ref flaw))) (llaw : K.lookup flaw = some ⟨oclaw, odlaw, .func (PySem.W.fnOf "law" "law" (defArgs slaw) (defBody slaw) (defScope slaw) .none kVlaw dclaw pmlaw anlaw cdlaw ctlaw), sllaw⟩) (claw : PySem.W.codeIn K cdlaw "law" = true) (klaw : PySem.W.keepIn K (.ref flaw) = true)
    (g_CONTROLLER : PySem.W.nsIn K mainGlobals "CONTROLLER" = some (some u_CONTROLLER)) (r_CONTROLLER : L2.RelV (.int 0) u_CONTROLLER)
    (g_DISTURBANCE : PySem.W.nsIn K mainGlobals "DISTURBANCE" = some (some u_DISTURBANCE)) (r_DISTURBANCE : L2.RelV (.int 1) u_DISTURBANCE)
    (g_OPTION_KINDS : PySem.W.nsIn K mainGlobals "OPTION_KINDS" = some (some (.ref c_OPTION_KINDS))) (k_OPTION_KINDS : KT K c_OPTION_KINDS [(.str "holds"), (.str "comes"), (.str "even"), (.str "keeps")])
    (tF : cdforces = .ref cF) (tL : K.lookup cF = some ⟨.type "code", odF, .fields vsF, slF⟩) (t11 : vsF[11]? = some (.ref PF)) (tN : K.lookup PF = none) (tg11 : vsF.getD 11 .none = .ref PF) (tg18 : vsF.getD 18 .none = .str xFile xt1) (tg7 : vsF.getD 7 .none = .int xFlags xt2) (tg9 : vsF.getD 9 .none = .bool xIn) (tg10 : vsF.getD 10 .none = .int xText xt3) (tne : cF ≠ PF)
    (z_all : PySem.W.nsIn K mainGlobals "all" = some none)
    (z_any : PySem.W.nsIn K mainGlobals "any" = some none)
    (z_bool : PySem.W.nsIn K mainGlobals "bool" = some none)
    (z_enumerate : PySem.W.nsIn K mainGlobals "enumerate" = some none)
    (z_int : PySem.W.nsIn K mainGlobals "int" = some none)
    (z_isinstance : PySem.W.nsIn K mainGlobals "isinstance" = some none)
    (z_len : PySem.W.nsIn K mainGlobals "len" = some none)
    (z_list : PySem.W.nsIn K mainGlobals "list" = some none)
    (z_max : PySem.W.nsIn K mainGlobals "max" = some none)
    (z_range : PySem.W.nsIn K mainGlobals "range" = some none)
    (z_set : PySem.W.nsIn K mainGlobals "set" = some none)
    (z_sorted : PySem.W.nsIn K mainGlobals "sorted" = some none)
    (z_str : PySem.W.nsIn K mainGlobals "str" = some none)
    (z_tuple : PySem.W.nsIn K mainGlobals "tuple" = some none)
    (z_zip : PySem.W.nsIn K mainGlobals "zip" = some none)
    : LamX.LawAtS l w K CX0 58 63 "script" mg fa h := by
  have e := hfa.symm.trans (PySem.W.mg_of X G alaw)
  cases e
  let T : Txt K mg := {
    z_all := PySem.W.mg_none_of X G z_all
    z_any := PySem.W.mg_none_of X G z_any
    z_bool := PySem.W.mg_none_of X G z_bool
    z_enumerate := PySem.W.mg_none_of X G z_enumerate
    z_int := PySem.W.mg_none_of X G z_int
    z_isinstance := PySem.W.mg_none_of X G z_isinstance
    z_len := PySem.W.mg_none_of X G z_len
    z_list := PySem.W.mg_none_of X G z_list
    z_max := PySem.W.mg_none_of X G z_max
    z_range := PySem.W.mg_none_of X G z_range
    z_set := PySem.W.mg_none_of X G z_set
    z_sorted := PySem.W.mg_none_of X G z_sorted
    z_str := PySem.W.mg_none_of X G z_str
    z_tuple := PySem.W.mg_none_of X G z_tuple
    z_zip := PySem.W.mg_none_of X G z_zip
    u_CONTROLLER := u_CONTROLLER
    g_CONTROLLER := PySem.W.mg_of X G g_CONTROLLER
    r_CONTROLLER := r_CONTROLLER
    u_DISTURBANCE := u_DISTURBANCE
    g_DISTURBANCE := PySem.W.mg_of X G g_DISTURBANCE
    r_DISTURBANCE := r_DISTURBANCE
    c_OPTION_KINDS := c_OPTION_KINDS
    g_OPTION_KINDS := PySem.W.mg_of X G g_OPTION_KINDS
    k_OPTION_KINDS := k_OPTION_KINDS
    aforces := fforces
    dforces := _
    Fforces := fun_mk (st := sforces) lforces cforces kforces
    mforces := PySem.W.mg_of X G aforces
    a_all_marked := f_all_marked
    d_all_marked := _
    F_all_marked := fun_mk (st := s_all_marked) l_all_marked c_all_marked k_all_marked
    m_all_marked := PySem.W.mg_of X G a_all_marked
    a_some_marked := f_some_marked
    d_some_marked := _
    F_some_marked := fun_mk (st := s_some_marked) l_some_marked c_some_marked k_some_marked
    m_some_marked := PySem.W.mg_of X G a_some_marked
    asteps_to := fsteps_to
    dsteps_to := _
    Fsteps_to := fun_mk (st := ssteps_to) lsteps_to csteps_to ksteps_to
    msteps_to := PySem.W.mg_of X G asteps_to
    acolour_owners := fcolour_owners
    dcolour_owners := _
    Fcolour_owners := fun_mk (st := scolour_owners) lcolour_owners ccolour_owners kcolour_owners
    mcolour_owners := PySem.W.mg_of X G acolour_owners
    asettle := fsettle
    dsettle := _
    Fsettle := fun_mk (st := ssettle) lsettle csettle ksettle
    msettle := PySem.W.mg_of X G asettle
    a_take_near := f_take_near
    d_take_near := _
    F_take_near := fun_mk (st := s_take_near) l_take_near c_take_near k_take_near
    m_take_near := PySem.W.mg_of X G a_take_near
    ahas_option := fhas_option
    dhas_option := _
    Fhas_option := fun_mk (st := shas_option) lhas_option chas_option khas_option
    mhas_option := PySem.W.mg_of X G ahas_option
    aleast_measures := fleast_measures
    dleast_measures := _
    Fleast_measures := fun_mk (st := sleast_measures) lleast_measures cleast_measures kleast_measures
    mleast_measures := PySem.W.mg_of X G aleast_measures
    a_entries_in := f_entries_in
    d_entries_in := _
    F_entries_in := fun_mk (st := s_entries_in) l_entries_in c_entries_in k_entries_in
    m_entries_in := PySem.W.mg_of X G a_entries_in
    a_is_ended := f_is_ended
    d_is_ended := _
    F_is_ended := fun_mk (st := s_is_ended) l_is_ended c_is_ended k_is_ended
    m_is_ended := PySem.W.mg_of X G a_is_ended
    a_won_without := f_won_without
    d_won_without := _
    F_won_without := fun_mk (st := s_won_without) l_won_without c_won_without k_won_without
    m_won_without := PySem.W.mg_of X G a_won_without
    astay_ranks := fstay_ranks
    dstay_ranks := _
    Fstay_ranks := fun_mk (st := sstay_ranks) lstay_ranks cstay_ranks kstay_ranks
    mstay_ranks := PySem.W.mg_of X G astay_ranks
    acome_ranks := fcome_ranks
    dcome_ranks := _
    Fcome_ranks := fun_mk (st := scome_ranks) lcome_ranks ccome_ranks kcome_ranks
    mcome_ranks := PySem.W.mg_of X G acome_ranks
    a_ranks_to := f_ranks_to
    d_ranks_to := _
    F_ranks_to := fun_mk (st := s_ranks_to) l_ranks_to c_ranks_to k_ranks_to
    m_ranks_to := PySem.W.mg_of X G a_ranks_to
    aleast_credits := fleast_credits
    dleast_credits := _
    Fleast_credits := fun_mk (st := sleast_credits) lleast_credits cleast_credits kleast_credits
    mleast_credits := PySem.W.mg_of X G aleast_credits
    aleast_loads := fleast_loads
    dleast_loads := _
    Fleast_loads := fun_mk (st := sleast_loads) lleast_loads cleast_loads kleast_loads
    mleast_loads := PySem.W.mg_of X G aleast_loads
    a_scaled := f_scaled
    d_scaled := _
    F_scaled := fun_mk (st := s_scaled) l_scaled c_scaled k_scaled
    m_scaled := PySem.W.mg_of X G a_scaled
    a_least_values := f_least_values
    d_least_values := _
    F_least_values := fun_mk (st := s_least_values) l_least_values c_least_values k_least_values
    m_least_values := PySem.W.mg_of X G a_least_values
    avalues_of_rows := fvalues_of_rows
    dvalues_of_rows := _
    Fvalues_of_rows := fun_mk (st := svalues_of_rows) lvalues_of_rows cvalues_of_rows kvalues_of_rows
    mvalues_of_rows := PySem.W.mg_of X G avalues_of_rows
    aowners := fowners
    downers := _
    Fowners := fun_mk (st := sowners) lowners cowners kowners
    mowners := PySem.W.mg_of X G aowners
    a_drafts := f_drafts
    d_drafts := _
    F_drafts := fun_mk (st := s_drafts) l_drafts c_drafts k_drafts
    m_drafts := PySem.W.mg_of X G a_drafts
    a_tank_drafts := f_tank_drafts
    d_tank_drafts := _
    F_tank_drafts := fun_mk (st := s_tank_drafts) l_tank_drafts c_tank_drafts k_tank_drafts
    m_tank_drafts := PySem.W.mg_of X G a_tank_drafts
    a_colour_drafts := f_colour_drafts
    d_colour_drafts := _
    F_colour_drafts := fun_mk (st := s_colour_drafts) l_colour_drafts c_colour_drafts k_colour_drafts
    m_colour_drafts := PySem.W.mg_of X G a_colour_drafts
    a_law_draws := f_law_draws
    d_law_draws := _
    F_law_draws := fun_mk (st := s_law_draws) l_law_draws c_law_draws k_law_draws
    m_law_draws := PySem.W.mg_of X G a_law_draws
    a_law_take := f_law_take
    d_law_take := _
    F_law_take := fun_mk (st := s_law_take) l_law_take c_law_take k_law_take
    m_law_take := PySem.W.mg_of X G a_law_take
    a_law_same := f_law_same
    d_law_same := _
    F_law_same := fun_mk (st := s_law_same) l_law_same c_law_same k_law_same
    m_law_same := PySem.W.mg_of X G a_law_same
    a_law_option := f_law_option
    d_law_option := _
    F_law_option := fun_mk (st := s_law_option) l_law_option c_law_option k_law_option
    m_law_option := PySem.W.mg_of X G a_law_option
    a_law_arena := f_law_arena
    d_law_arena := _
    F_law_arena := fun_mk (st := s_law_arena) l_law_arena c_law_arena k_law_arena
    m_law_arena := PySem.W.mg_of X G a_law_arena
    a_law_colours := f_law_colours
    d_law_colours := _
    F_law_colours := fun_mk (st := s_law_colours) l_law_colours c_law_colours k_law_colours
    m_law_colours := PySem.W.mg_of X G a_law_colours
    a_law_game := f_law_game
    d_law_game := _
    F_law_game := fun_mk (st := s_law_game) l_law_game c_law_game k_law_game
    m_law_game := PySem.W.mg_of X G a_law_game
    a_law_choices := f_law_choices
    d_law_choices := _
    F_law_choices := fun_mk (st := s_law_choices) l_law_choices c_law_choices k_law_choices
    m_law_choices := PySem.W.mg_of X G a_law_choices
    a_law_reached := f_law_reached
    d_law_reached := _
    F_law_reached := fun_mk (st := s_law_reached) l_law_reached c_law_reached k_law_reached
    m_law_reached := PySem.W.mg_of X G a_law_reached
    a_law_kept := f_law_kept
    d_law_kept := _
    F_law_kept := fun_mk (st := s_law_kept) l_law_kept c_law_kept k_law_kept
    m_law_kept := PySem.W.mg_of X G a_law_kept
    alaw := fa
    dlaw := _
    Flaw := fun_mk (st := slaw) llaw claw klaw
    mlaw := PySem.W.mg_of X G alaw }
  have hP := own fforces (PySem.W.mg_of X G aforces) cF PF _ _ _ _ _ _ lforces rfl tF tL t11
  refine ⟨T.dlaw, [(cF, PF)], spLawT K PF, fun p hp => ?_, fun p hp => ?_, fun p hp => ?_, fun s v => .of_eq rfl, fun H a ns hl _ hH hS => ⟨a, ns, rfl, hS, hl, ⟨#[], hH _ (List.mem_singleton.mpr rfl), trivial⟩, fun _ => rfl⟩, fun base _ _ hTB => ?_⟩
  · rw [List.mem_singleton.mp hp]; exact hP
  · rw [List.mem_singleton.mp hp]; exact tN
  · rw [List.mem_singleton.mp hp]; exact ⟨_, vsF, xFile, xt1, xFlags, xt2, xIn, xText, xt3, X _ _ tL, rfl, rfl, t11, tg11, tg18, tg7, tg9, tg10, tne⟩
  have TB0 := hTB (cF, PF) (List.mem_singleton.mpr rfl)
  exact ok_law T ⟨TB0.code, TB0.bm, TB0.gP⟩ tF
end NL
open PySem PySem.W PyProof.Rows
set_option maxRecDepth 100000 in
set_option maxHeartbeats 0 in
theorem PySem.Challenge.cw_neverleaves_k54_whole_owners_by_all_choi_holds : PySem.Challenge.rw_neverleaves_k54_whole_owners_by_all_choi.Holds := by
  w_on; o_law; k_head; (case hw => w_witness2)
  k_fill
  refine NL.walk_tab (l := PySem.Challenge.rw_neverleaves_k54_whole_owners_by_all_choi) (n := 63) (k := 58) (x := "script") (CX := fun _ => L2.CX0) "forces" rfl (by decide) rfl ⟨rfl, by decide, by decide⟩ (by decide +kernel) (fun w h Y => PySem.W.kIn_of Y) ?F (fun _ _ _ _ _ h => h)
  case F =>
    intro w mg fa h _ KX G hmg own
    refine' NL.all_mk KX G hmg own  ?aforces ?lforces ?cforces ?kforces ?a_all_marked ?l_all_marked ?c_all_marked ?k_all_marked ?a_some_marked ?l_some_marked ?c_some_marked ?k_some_marked ?asteps_to ?lsteps_to ?csteps_to ?ksteps_to ?acolour_owners ?lcolour_owners ?ccolour_owners ?kcolour_owners ?asettle ?lsettle ?csettle ?ksettle ?a_take_near ?l_take_near ?c_take_near ?k_take_near ?ahas_option ?lhas_option ?chas_option ?khas_option ?aleast_measures ?lleast_measures ?cleast_measures ?kleast_measures ?a_entries_in ?l_entries_in ?c_entries_in ?k_entries_in ?a_is_ended ?l_is_ended ?c_is_ended ?k_is_ended ?a_won_without ?l_won_without ?c_won_without ?k_won_without ?astay_ranks ?lstay_ranks ?cstay_ranks ?kstay_ranks ?acome_ranks ?lcome_ranks ?ccome_ranks ?kcome_ranks ?a_ranks_to ?l_ranks_to ?c_ranks_to ?k_ranks_to ?aleast_credits ?lleast_credits ?cleast_credits ?kleast_credits ?aleast_loads ?lleast_loads ?cleast_loads ?kleast_loads ?a_scaled ?l_scaled ?c_scaled ?k_scaled ?a_least_values ?l_least_values ?c_least_values ?k_least_values ?avalues_of_rows ?lvalues_of_rows ?cvalues_of_rows ?kvalues_of_rows ?aowners ?lowners ?cowners ?kowners ?a_drafts ?l_drafts ?c_drafts ?k_drafts ?a_tank_drafts ?l_tank_drafts ?c_tank_drafts ?k_tank_drafts ?a_colour_drafts ?l_colour_drafts ?c_colour_drafts ?k_colour_drafts ?a_law_draws ?l_law_draws ?c_law_draws ?k_law_draws ?a_law_take ?l_law_take ?c_law_take ?k_law_take ?a_law_same ?l_law_same ?c_law_same ?k_law_same ?a_law_option ?l_law_option ?c_law_option ?k_law_option ?a_law_arena ?l_law_arena ?c_law_arena ?k_law_arena ?a_law_colours ?l_law_colours ?c_law_colours ?k_law_colours ?a_law_game ?l_law_game ?c_law_game ?k_law_game ?a_law_choices ?l_law_choices ?c_law_choices ?k_law_choices ?a_law_reached ?l_law_reached ?c_law_reached ?k_law_reached ?a_law_kept ?l_law_kept ?c_law_kept ?k_law_kept ?alaw ?llaw ?claw ?klaw ?g_CONTROLLER ?r_CONTROLLER ?g_DISTURBANCE ?r_DISTURBANCE ?g_OPTION_KINDS ?k_OPTION_KINDS ?tF ?tL ?t11 ?tN ?tg11 ?tg18 ?tg7 ?tg9 ?tg10 ?tne ?z_all ?z_any ?z_bool ?z_enumerate ?z_int ?z_isinstance ?z_len ?z_list ?z_max ?z_range ?z_set ?z_sorted ?z_str ?z_tuple ?z_zip
    (case aforces => k_is); (case lforces => k_is); (case cforces => k_is); (case kforces => k_is)
    (case a_all_marked => k_is); (case l_all_marked => k_is); (case c_all_marked => k_is); (case k_all_marked => k_is)
    (case a_some_marked => k_is); (case l_some_marked => k_is); (case c_some_marked => k_is); (case k_some_marked => k_is)
    (case asteps_to => k_is); (case lsteps_to => k_is); (case csteps_to => k_is); (case ksteps_to => k_is)
    (case acolour_owners => k_is); (case lcolour_owners => k_is); (case ccolour_owners => k_is); (case kcolour_owners => k_is)
    (case asettle => k_is); (case lsettle => k_is); (case csettle => k_is); (case ksettle => k_is)
    (case a_take_near => k_is); (case l_take_near => k_is); (case c_take_near => k_is); (case k_take_near => k_is)
    (case ahas_option => k_is); (case lhas_option => k_is); (case chas_option => k_is); (case khas_option => k_is)
    (case aleast_measures => k_is); (case lleast_measures => k_is); (case cleast_measures => k_is); (case kleast_measures => k_is)
    (case a_entries_in => k_is); (case l_entries_in => k_is); (case c_entries_in => k_is); (case k_entries_in => k_is)
    (case a_is_ended => k_is); (case l_is_ended => k_is); (case c_is_ended => k_is); (case k_is_ended => k_is)
    (case a_won_without => k_is); (case l_won_without => k_is); (case c_won_without => k_is); (case k_won_without => k_is)
    (case astay_ranks => k_is); (case lstay_ranks => k_is); (case cstay_ranks => k_is); (case kstay_ranks => k_is)
    (case acome_ranks => k_is); (case lcome_ranks => k_is); (case ccome_ranks => k_is); (case kcome_ranks => k_is)
    (case a_ranks_to => k_is); (case l_ranks_to => k_is); (case c_ranks_to => k_is); (case k_ranks_to => k_is)
    (case aleast_credits => k_is); (case lleast_credits => k_is); (case cleast_credits => k_is); (case kleast_credits => k_is)
    (case aleast_loads => k_is); (case lleast_loads => k_is); (case cleast_loads => k_is); (case kleast_loads => k_is)
    (case a_scaled => k_is); (case l_scaled => k_is); (case c_scaled => k_is); (case k_scaled => k_is)
    (case a_least_values => k_is); (case l_least_values => k_is); (case c_least_values => k_is); (case k_least_values => k_is)
    (case avalues_of_rows => k_is); (case lvalues_of_rows => k_is); (case cvalues_of_rows => k_is); (case kvalues_of_rows => k_is)
    (case aowners => k_is); (case lowners => k_is); (case cowners => k_is); (case kowners => k_is)
    (case a_drafts => k_is); (case l_drafts => k_is); (case c_drafts => k_is); (case k_drafts => k_is)
    (case a_tank_drafts => k_is); (case l_tank_drafts => k_is); (case c_tank_drafts => k_is); (case k_tank_drafts => k_is)
    (case a_colour_drafts => k_is); (case l_colour_drafts => k_is); (case c_colour_drafts => k_is); (case k_colour_drafts => k_is)
    (case a_law_draws => k_is); (case l_law_draws => k_is); (case c_law_draws => k_is); (case k_law_draws => k_is)
    (case a_law_take => k_is); (case l_law_take => k_is); (case c_law_take => k_is); (case k_law_take => k_is)
    (case a_law_same => k_is); (case l_law_same => k_is); (case c_law_same => k_is); (case k_law_same => k_is)
    (case a_law_option => k_is); (case l_law_option => k_is); (case c_law_option => k_is); (case k_law_option => k_is)
    (case a_law_arena => k_is); (case l_law_arena => k_is); (case c_law_arena => k_is); (case k_law_arena => k_is)
    (case a_law_colours => k_is); (case l_law_colours => k_is); (case c_law_colours => k_is); (case k_law_colours => k_is)
    (case a_law_game => k_is); (case l_law_game => k_is); (case c_law_game => k_is); (case k_law_game => k_is)
    (case a_law_choices => k_is); (case l_law_choices => k_is); (case c_law_choices => k_is); (case k_law_choices => k_is)
    (case a_law_reached => k_is); (case l_law_reached => k_is); (case c_law_reached => k_is); (case k_law_reached => k_is)
    (case a_law_kept => k_is); (case l_law_kept => k_is); (case c_law_kept => k_is); (case k_law_kept => k_is)
    (case alaw => k_is); (case llaw => k_is); (case claw => k_is); (case klaw => k_is)
    (case g_CONTROLLER => k_is); (case r_CONTROLLER => exact ⟨_, rfl⟩)
    (case g_DISTURBANCE => k_is); (case r_DISTURBANCE => exact ⟨_, rfl⟩)
    (case g_OPTION_KINDS => k_is); (case k_OPTION_KINDS => (refine' NL.kt_mk ?h1 ?h2 ?h3 ?h4 ?h5; (case h1 => k_is); (case h2 => rfl); (case h3 => rfl); (case h4 => decide); (case h5 => repeat (first | exact .nil | refine .cons ⟨_, rfl⟩ ?_))))
    (case tF => rfl); (case tL => k_is); (case t11 => rfl); (case tN => first | rfl | decide | k_is); (case tg11 => rfl); (case tg18 => rfl); (case tg7 => rfl); (case tg9 => rfl); (case tg10 => rfl); (case tne => decide)
    (case z_all => k_is)
    (case z_any => k_is)
    (case z_bool => k_is)
    (case z_enumerate => k_is)
    (case z_int => k_is)
    (case z_isinstance => k_is)
    (case z_len => k_is)
    (case z_list => k_is)
    (case z_max => k_is)
    (case z_range => k_is)
    (case z_set => k_is)
    (case z_sorted => k_is)
    (case z_str => k_is)
    (case z_tuple => k_is)
    (case z_zip => k_is)
