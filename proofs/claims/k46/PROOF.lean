import PyProof.Rows.All
import Wide.All
import OpenK.AllK
import Wide.FinOn
import HandS.ForExc
import HandS.ForMost
import HandS.TupAny
import HandS.IsInst
import HandS.Codes
import HandS.FStr
import HandS.Zip
import HandS.Conv
import HandS.TupLe
import PyProof.Draws
import HandS.Iter
import HandS.SortKw
import KE.DataMinMax
import KE.KxIndex
import PySem.Challenge.RW_neverleaves_k46_judge_of_odd_labels
set_option Elab.async false
set_option linter.all false
set_option maxRecDepth 100000

namespace NL
open PySem PySem.Spec PyProof.Rows L2
def topS (i : Nat) : Stmt := PySem.Challenge.pw_neverleaves_k46_judge_of_odd_labels.main.body.getD i (.Pass ⟨0, 0, 0, 0⟩)
abbrev shas_option : Stmt := topS 4
abbrev Nhas_option : List Str := ["label"]
abbrev Phas_option : List Str := ["label"]
theorem schas_option : FnScope Nhas_option Phas_option (defScope shas_option) := ⟨rfl, rfl, rfl, by decide +kernel, rfl, by decide +kernel, by decide +kernel⟩
abbrev sentries_from : Stmt := topS 6
abbrev Nentries_from : List Str := ["colour", "greatest", "side"]
abbrev Pentries_from : List Str := ["colour", "greatest", "side"]
theorem scentries_from : FnScope Nentries_from Pentries_from (defScope sentries_from) := ⟨rfl, rfl, rfl, by decide +kernel, rfl, by decide +kernel, by decide +kernel⟩
abbrev sjudge : Stmt := topS 10
abbrev Njudge : List Str := ["arena", "goal", "paper", "fitting", "at"]
abbrev Pjudge : List Str := ["arena", "goal", "paper"]
theorem scjudge : FnScope Njudge Pjudge (defScope sjudge) := ⟨rfl, rfl, rfl, by decide +kernel, rfl, by decide +kernel, by decide +kernel⟩
abbrev s_is_right : Stmt := topS 11
abbrev N_is_right : List Str := ["fitting", "at", "label", "kind"]
abbrev P_is_right : List Str := ["fitting", "at"]
theorem sc_is_right : FnScope N_is_right P_is_right (defScope s_is_right) := ⟨rfl, rfl, rfl, by decide +kernel, rfl, by decide +kernel, by decide +kernel⟩
abbrev s_numbers_are_right : Stmt := topS 12
abbrev N_numbers_are_right : List Str := ["fitting", "label", "kind", "side"]
abbrev P_numbers_are_right : List Str := ["fitting", "label"]
theorem sc_numbers_are_right : FnScope N_numbers_are_right P_numbers_are_right (defScope s_numbers_are_right) := ⟨rfl, rfl, rfl, by decide +kernel, rfl, by decide +kernel, by decide +kernel⟩
abbrev s_replies_are_right : Stmt := topS 13
abbrev N_replies_are_right : List Str := ["fitting", "at", "replies", "options", "index", "reply"]
abbrev P_replies_are_right : List Str := ["fitting", "at", "replies"]
theorem sc_replies_are_right : FnScope N_replies_are_right P_replies_are_right (defScope s_replies_are_right) := ⟨rfl, rfl, rfl, by decide +kernel, rfl, by decide +kernel, by decide +kernel⟩
abbrev s_law_draws : Stmt := topS 15
abbrev N_law_draws : List Str := ["script", "many", "cells", "cell", "rest", "draws", "k", "at", "once"]
abbrev P_law_draws : List Str := ["script", "many"]
theorem sc_law_draws : FnScope N_law_draws P_law_draws (defScope s_law_draws) := ⟨rfl, rfl, rfl, by decide +kernel, rfl, by decide +kernel, by decide +kernel⟩
abbrev s_law_take : Stmt := topS 16
abbrev N_law_take : List Str := ["draws", "many"]
abbrev P_law_take : List Str := ["draws", "many"]
theorem sc_law_take : FnScope N_law_take P_law_take (defScope s_law_take) := ⟨rfl, rfl, rfl, by decide +kernel, rfl, by decide +kernel, by decide +kernel⟩
abbrev s_law_same : Stmt := topS 17
abbrev N_law_same : List Str := ["actual", "due", "k"]
abbrev P_law_same : List Str := ["actual", "due"]
theorem sc_law_same : FnScope N_law_same P_law_same (defScope s_law_same) := ⟨rfl, rfl, rfl, by decide +kernel, rfl, by decide +kernel, by decide +kernel⟩
abbrev s_law_cell : Stmt := topS 18
abbrev N_law_cell : List Str := ["script", "draws"]
abbrev P_law_cell : List Str := ["script", "draws"]
theorem sc_law_cell : FnScope N_law_cell P_law_cell (defScope s_law_cell) := ⟨rfl, rfl, rfl, by decide +kernel, rfl, by decide +kernel, by decide +kernel⟩
abbrev s_law_option : Stmt := topS 19
abbrev N_law_option : List Str := ["draws", "count", "k", "shape", "found", "i", "successor"]
abbrev P_law_option : List Str := ["draws", "count", "k", "shape"]
theorem sc_law_option : FnScope N_law_option P_law_option (defScope s_law_option) := ⟨rfl, rfl, rfl, by decide +kernel, rfl, by decide +kernel, by decide +kernel⟩
abbrev s_law_arena : Stmt := topS 20
abbrev N_law_arena : List Str := ["draws", "most", "count", "shape", "arena", "k", "many", "j", "at", "more", "every"]
abbrev P_law_arena : List Str := ["draws", "most"]
theorem sc_law_arena : FnScope N_law_arena P_law_arena (defScope s_law_arena) := ⟨rfl, rfl, rfl, by decide +kernel, rfl, by decide +kernel, by decide +kernel⟩
abbrev s_law_colours : Stmt := topS 21
abbrev N_law_colours : List Str := ["draws", "arena", "most", "factor", "plus", "options"]
abbrev P_law_colours : List Str := ["draws", "arena"]
theorem sc_law_colours : FnScope N_law_colours P_law_colours (defScope s_law_colours) := ⟨rfl, rfl, rfl, by decide +kernel, rfl, by decide +kernel, by decide +kernel⟩
abbrev s_law_counted : Stmt := topS 22
abbrev N_law_counted : List Str := ["colours", "side", "greatest", "k"]
abbrev P_law_counted : List Str := ["colours", "side"]
theorem sc_law_counted : FnScope N_law_counted P_law_counted (defScope s_law_counted) := ⟨rfl, rfl, rfl, by decide +kernel, rfl, by decide +kernel, by decide +kernel⟩
abbrev s_law_frame : Stmt := topS 23
abbrev N_law_frame : List Str := ["colours", "side", "counted", "lengths", "colour", "known"]
abbrev P_law_frame : List Str := ["colours", "side"]
theorem sc_law_frame : FnScope N_law_frame P_law_frame (defScope s_law_frame) := ⟨rfl, rfl, rfl, by decide +kernel, rfl, by decide +kernel, by decide +kernel⟩
abbrev s_law_may : Stmt := topS 24
abbrev N_law_may : List Str := ["frame", "colour", "measure", "other", "one", "two"]
abbrev P_law_may : List Str := ["frame", "colour", "measure", "other"]
theorem sc_law_may : FnScope N_law_may P_law_may (defScope s_law_may) := ⟨rfl, rfl, rfl, by decide +kernel, rfl, by decide +kernel, by decide +kernel⟩
abbrev s_law_next : Stmt := topS 25
abbrev N_law_next : List Str := ["frame", "colour", "other", "length", "measure", "entry", "k", "at"]
abbrev P_law_next : List Str := ["frame", "colour", "other"]
theorem sc_law_next : FnScope N_law_next P_law_next (defScope s_law_next) := ⟨rfl, rfl, rfl, by decide +kernel, rfl, by decide +kernel, by decide +kernel⟩
abbrev s_law_option_lift : Stmt := topS 26
abbrev N_law_option_lift : List Str := ["frame", "colour", "option", "measures", "lifts", "successor", "lift", "entry", "known"]
abbrev P_law_option_lift : List Str := ["frame", "colour", "option", "measures"]
theorem sc_law_option_lift : FnScope N_law_option_lift P_law_option_lift (defScope s_law_option_lift) := ⟨rfl, rfl, rfl, by decide +kernel, rfl, by decide +kernel, by decide +kernel⟩
abbrev s_law_lift : Stmt := topS 27
abbrev N_law_lift : List Str := ["arena", "frame", "colour", "place", "measures", "lifts", "option", "known", "lift", "entry"]
abbrev P_law_lift : List Str := ["arena", "frame", "colour", "place", "measures"]
theorem sc_law_lift : FnScope N_law_lift P_law_lift (defScope s_law_lift) := ⟨rfl, rfl, rfl, by decide +kernel, rfl, by decide +kernel, by decide +kernel⟩
abbrev s_law_measures : Stmt := topS 28
abbrev N_law_measures : List Str := ["arena", "colours", "side", "frame", "measures", "entry", "options", "steps", "most", "k", "lifted", "place", "lift"]
abbrev P_law_measures : List Str := ["arena", "colours", "side"]
theorem sc_law_measures : FnScope N_law_measures P_law_measures (defScope s_law_measures) := ⟨rfl, rfl, rfl, by decide +kernel, rfl, by decide +kernel, by decide +kernel⟩
abbrev s_law_even_choice : Stmt := topS 29
abbrev N_law_even_choice : List Str := ["frame", "colour", "measures", "place", "options", "k", "right", "successor", "passing", "other"]
abbrev P_law_even_choice : List Str := ["frame", "colour", "measures", "place", "options"]
theorem sc_law_even_choice : FnScope N_law_even_choice P_law_even_choice (defScope s_law_even_choice) := ⟨rfl, rfl, rfl, by decide +kernel, rfl, by decide +kernel, by decide +kernel⟩
abbrev s_law_odd_replies : Stmt := topS 30
abbrev N_law_odd_replies : List Str := ["frame", "colour", "measures", "place", "options", "replies", "option", "right", "successor"]
abbrev P_law_odd_replies : List Str := ["frame", "colour", "measures", "place", "options"]
theorem sc_law_odd_replies : FnScope N_law_odd_replies P_law_odd_replies (defScope s_law_odd_replies) := ⟨rfl, rfl, rfl, by decide +kernel, rfl, by decide +kernel, by decide +kernel⟩
abbrev s_law_colour_paper : Stmt := topS 31
abbrev N_law_colour_paper : List Str := ["arena", "colours", "even", "odd", "frames", "labels", "place", "colour"]
abbrev P_law_colour_paper : List Str := ["arena", "colours"]
theorem sc_law_colour_paper : FnScope N_law_colour_paper P_law_colour_paper (defScope s_law_colour_paper) := ⟨rfl, rfl, rfl, by decide +kernel, rfl, by decide +kernel, by decide +kernel⟩
abbrev s_law_replies_right : Stmt := topS 32
abbrev N_law_replies_right : List Str := ["options", "replies", "k"]
abbrev P_law_replies_right : List Str := ["options", "replies"]
theorem sc_law_replies_right : FnScope N_law_replies_right P_law_replies_right (defScope s_law_replies_right) := ⟨rfl, rfl, rfl, by decide +kernel, rfl, by decide +kernel, by decide +kernel⟩
abbrev s_law_colour_right : Stmt := topS 33
abbrev N_law_colour_right : List Str := ["arena", "colours", "paper", "place", "frames", "kind", "measure", "frame", "entry", "options", "choice", "met", "successor"]
abbrev P_law_colour_right : List Str := ["arena", "colours", "paper", "place", "frames"]
theorem sc_law_colour_right : FnScope N_law_colour_right P_law_colour_right (defScope s_law_colour_right) := ⟨rfl, rfl, rfl, by decide +kernel, rfl, by decide +kernel, by decide +kernel⟩
abbrev s_law_colour_judge : Stmt := topS 34
abbrev N_law_colour_judge : List Str := ["arena", "colours", "paper", "frames", "place"]
abbrev P_law_colour_judge : List Str := ["arena", "colours", "paper"]
theorem sc_law_colour_judge : FnScope N_law_colour_judge P_law_colour_judge (defScope s_law_colour_judge) := ⟨rfl, rfl, rfl, by decide +kernel, rfl, by decide +kernel, by decide +kernel⟩
abbrev s_law_game : Stmt := topS 35
abbrev N_law_game : List Str := ["draws", "most", "arena"]
abbrev P_law_game : List Str := ["draws", "most"]
theorem sc_law_game : FnScope N_law_game P_law_game (defScope s_law_game) := ⟨rfl, rfl, rfl, by decide +kernel, rfl, by decide +kernel, by decide +kernel⟩
abbrev s_law_entries : Stmt := topS 36
abbrev N_law_entries : List Str := ["draws", "script", "measure", "at", "kind", "change"]
abbrev P_law_entries : List Str := ["draws", "script", "measure"]
theorem sc_law_entries : FnScope N_law_entries P_law_entries (defScope s_law_entries) := ⟨rfl, rfl, rfl, by decide +kernel, rfl, by decide +kernel, by decide +kernel⟩
abbrev s_law_other_replies : Stmt := topS 37
abbrev N_law_other_replies : List Str := ["draws", "count", "replies", "at", "kind", "other"]
abbrev P_law_other_replies : List Str := ["draws", "count", "replies"]
theorem sc_law_other_replies : FnScope N_law_other_replies P_law_other_replies (defScope s_law_other_replies) := ⟨rfl, rfl, rfl, by decide +kernel, rfl, by decide +kernel, by decide +kernel⟩
abbrev s_law_changed : Stmt := topS 38
abbrev N_law_changed : List Str := ["draws", "script", "game", "paper", "places", "k", "place", "label", "kind", "colour"]
abbrev P_law_changed : List Str := ["draws", "script", "game", "paper"]
theorem sc_law_changed : FnScope N_law_changed P_law_changed (defScope s_law_changed) := ⟨rfl, rfl, rfl, by decide +kernel, rfl, by decide +kernel, by decide +kernel⟩
abbrev s_law_stretched : Stmt := topS 39
abbrev N_law_stretched : List Str := ["paper", "labels", "label", "entry"]
abbrev P_law_stretched : List Str := ["paper"]
theorem sc_law_stretched : FnScope N_law_stretched P_law_stretched (defScope s_law_stretched) := ⟨rfl, rfl, rfl, by decide +kernel, rfl, by decide +kernel, by decide +kernel⟩
abbrev slaw : Stmt := topS 40
abbrev Nlaw : List Str := ["script", "draws", "game", "paper", "papers", "k", "one"]
abbrev Plaw : List Str := ["script"]
theorem sclaw : FnScope Nlaw Plaw (defScope slaw) := ⟨rfl, rfl, rfl, by decide +kernel, rfl, by decide +kernel, by decide +kernel⟩
abbrev sFitting___init__ : Stmt := inClass (topS 8) 0
abbrev NFitting___init__ : List Str := ["self", "arena", "goal", "labels"]
abbrev PFitting___init__ : List Str := ["self", "arena", "goal", "labels"]
theorem scFitting___init__ : FnScope NFitting___init__ PFitting___init__ (defScope sFitting___init__) := ⟨rfl, rfl, rfl, by decide +kernel, rfl, by decide +kernel, by decide +kernel⟩
abbrev sFitting_fits : Stmt := inClass (topS 8) 1
abbrev NFitting_fits : List Str := ["self", "at", "index", "after", "mine", "other"]
abbrev PFitting_fits : List Str := ["self", "at", "index", "after"]
theorem scFitting_fits : FnScope NFitting_fits PFitting_fits (defScope sFitting_fits) := ⟨rfl, rfl, rfl, by decide +kernel, rfl, by decide +kernel, by decide +kernel⟩
abbrev sFitting_all_fit : Stmt := inClass (topS 8) 2
abbrev NFitting_all_fit : List Str := ["self", "at", "index", "after"]
abbrev PFitting_all_fit : List Str := ["self", "at", "index"]
theorem scFitting_all_fit : FnScope NFitting_all_fit PFitting_all_fit (defScope sFitting_all_fit) := ⟨rfl, rfl, rfl, by decide +kernel, rfl, by decide +kernel, by decide +kernel⟩
abbrev sFitting__measures_fit : Stmt := inClass (topS 8) 3
abbrev NFitting__measures_fit : List Str := ["self", "mine", "other", "colour", "side", "many"]
abbrev PFitting__measures_fit : List Str := ["self", "mine", "other", "colour"]
theorem scFitting__measures_fit : FnScope NFitting__measures_fit PFitting__measures_fit (defScope sFitting__measures_fit) := ⟨rfl, rfl, rfl, by decide +kernel, rfl, by decide +kernel, by decide +kernel⟩
abbrev sFitting__change : Stmt := inClass (topS 8) 4
abbrev NFitting__change : List Str := ["self", "kind", "gain"]
abbrev PFitting__change : List Str := ["self", "kind", "gain"]
theorem scFitting__change : FnScope NFitting__change PFitting__change (defScope sFitting__change) := ⟨rfl, rfl, rfl, by decide +kernel, rfl, by decide +kernel, by decide +kernel⟩
def KT (K : PySem.W.Frag) (a : Addr) (ys : List V) : Prop := ∃ o its n, List.lookup a K = some o ∧ o.cls = .type "tuple" ∧ o.data = .seq its n ∧ its.size ≤ sizeLine ∧ L2.Vals ys its.toList
theorem kt_mk {K : PySem.W.Frag} {a : Addr} {ys : List V} {o : Obj} {its : Array Value} {n : Nat} (h1 : List.lookup a K = some o) (h2 : o.cls = .type "tuple") (h3 : o.data = .seq its n) (h4 : its.size ≤ sizeLine) (h5 : L2.Vals ys its.toList) : KT K a ys := ⟨o, its, n, h1, h2, h3, h4, h5⟩
set_option genInjectivity false in
set_option genSizeOfSpec false in
structure Txt (K : PySem.W.Frag) (mg : Str → Option Value) where
  z_all : mg "all" = none
  z_bool : mg "bool" = none
  z_enumerate : mg "enumerate" = none
  z_int : mg "int" = none
  z_isinstance : mg "isinstance" = none
  z_len : mg "len" = none
  z_list : mg "list" = none
  z_max : mg "max" = none
  z_min : mg "min" = none
  z_range : mg "range" = none
  z_sorted : mg "sorted" = none
  z_str : mg "str" = none
  z_tuple : mg "tuple" = none
  u_CONTROLLER : Value
  g_CONTROLLER : mg "CONTROLLER" = some u_CONTROLLER
  r_CONTROLLER : L2.RelV (.int 0) u_CONTROLLER
  u_DISTURBANCE : Value
  g_DISTURBANCE : mg "DISTURBANCE" = some u_DISTURBANCE
  r_DISTURBANCE : L2.RelV (.int 1) u_DISTURBANCE
  c_OPTION_KINDS : Addr
  g_OPTION_KINDS : mg "OPTION_KINDS" = some (.ref c_OPTION_KINDS)
  k_OPTION_KINDS : KT K c_OPTION_KINDS [(.str "holds"), (.str "comes"), (.str "even"), (.str "keeps")]
  C_Fitting : Addr
  g_Fitting : mg "Fitting" = some (.ref C_Fitting)
  cl_Fitting : Cls K C_Fitting
  na_Fitting_arena : NoAttr K C_Fitting "arena"
  na_Fitting_told : NoAttr K C_Fitting "told"
  na_Fitting_labels : NoAttr K C_Fitting "labels"
  na_Fitting_greatest : NoAttr K C_Fitting "greatest"
  ahas_option : Addr
  dhas_option : FuncData
  Fhas_option : Fun K "has_option" "has_option" shas_option ahas_option dhas_option
  mhas_option : mg "has_option" = some (.ref ahas_option)
  aentries_from : Addr
  dentries_from : FuncData
  Fentries_from : Fun K "entries_from" "entries_from" sentries_from aentries_from dentries_from
  mentries_from : mg "entries_from" = some (.ref aentries_from)
  ajudge : Addr
  djudge : FuncData
  Fjudge : Fun K "judge" "judge" sjudge ajudge djudge
  mjudge : mg "judge" = some (.ref ajudge)
  a_is_right : Addr
  d_is_right : FuncData
  F_is_right : Fun K "_is_right" "_is_right" s_is_right a_is_right d_is_right
  m_is_right : mg "_is_right" = some (.ref a_is_right)
  a_numbers_are_right : Addr
  d_numbers_are_right : FuncData
  F_numbers_are_right : Fun K "_numbers_are_right" "_numbers_are_right" s_numbers_are_right a_numbers_are_right d_numbers_are_right
  m_numbers_are_right : mg "_numbers_are_right" = some (.ref a_numbers_are_right)
  a_replies_are_right : Addr
  d_replies_are_right : FuncData
  F_replies_are_right : Fun K "_replies_are_right" "_replies_are_right" s_replies_are_right a_replies_are_right d_replies_are_right
  m_replies_are_right : mg "_replies_are_right" = some (.ref a_replies_are_right)
  a_law_draws : Addr
  d_law_draws : FuncData
  F_law_draws : Fun K "_law_draws" "_law_draws" s_law_draws a_law_draws d_law_draws
  m_law_draws : mg "_law_draws" = some (.ref a_law_draws)
  a_law_take : Addr
  d_law_take : FuncData
  F_law_take : Fun K "_law_take" "_law_take" s_law_take a_law_take d_law_take
  m_law_take : mg "_law_take" = some (.ref a_law_take)
  a_law_same : Addr
  d_law_same : FuncData
  F_law_same : Fun K "_law_same" "_law_same" s_law_same a_law_same d_law_same
  m_law_same : mg "_law_same" = some (.ref a_law_same)
  a_law_cell : Addr
  d_law_cell : FuncData
  F_law_cell : Fun K "_law_cell" "_law_cell" s_law_cell a_law_cell d_law_cell
  m_law_cell : mg "_law_cell" = some (.ref a_law_cell)
  a_law_option : Addr
  d_law_option : FuncData
  F_law_option : Fun K "_law_option" "_law_option" s_law_option a_law_option d_law_option
  m_law_option : mg "_law_option" = some (.ref a_law_option)
  a_law_arena : Addr
  d_law_arena : FuncData
  F_law_arena : Fun K "_law_arena" "_law_arena" s_law_arena a_law_arena d_law_arena
  m_law_arena : mg "_law_arena" = some (.ref a_law_arena)
  a_law_colours : Addr
  d_law_colours : FuncData
  F_law_colours : Fun K "_law_colours" "_law_colours" s_law_colours a_law_colours d_law_colours
  m_law_colours : mg "_law_colours" = some (.ref a_law_colours)
  a_law_counted : Addr
  d_law_counted : FuncData
  F_law_counted : Fun K "_law_counted" "_law_counted" s_law_counted a_law_counted d_law_counted
  m_law_counted : mg "_law_counted" = some (.ref a_law_counted)
  a_law_frame : Addr
  d_law_frame : FuncData
  F_law_frame : Fun K "_law_frame" "_law_frame" s_law_frame a_law_frame d_law_frame
  m_law_frame : mg "_law_frame" = some (.ref a_law_frame)
  a_law_may : Addr
  d_law_may : FuncData
  F_law_may : Fun K "_law_may" "_law_may" s_law_may a_law_may d_law_may
  m_law_may : mg "_law_may" = some (.ref a_law_may)
  a_law_next : Addr
  d_law_next : FuncData
  F_law_next : Fun K "_law_next" "_law_next" s_law_next a_law_next d_law_next
  m_law_next : mg "_law_next" = some (.ref a_law_next)
  a_law_option_lift : Addr
  d_law_option_lift : FuncData
  F_law_option_lift : Fun K "_law_option_lift" "_law_option_lift" s_law_option_lift a_law_option_lift d_law_option_lift
  m_law_option_lift : mg "_law_option_lift" = some (.ref a_law_option_lift)
  a_law_lift : Addr
  d_law_lift : FuncData
  F_law_lift : Fun K "_law_lift" "_law_lift" s_law_lift a_law_lift d_law_lift
  m_law_lift : mg "_law_lift" = some (.ref a_law_lift)
  a_law_measures : Addr
  d_law_measures : FuncData
  F_law_measures : Fun K "_law_measures" "_law_measures" s_law_measures a_law_measures d_law_measures
  m_law_measures : mg "_law_measures" = some (.ref a_law_measures)
  a_law_even_choice : Addr
  d_law_even_choice : FuncData
  F_law_even_choice : Fun K "_law_even_choice" "_law_even_choice" s_law_even_choice a_law_even_choice d_law_even_choice
  m_law_even_choice : mg "_law_even_choice" = some (.ref a_law_even_choice)
  a_law_odd_replies : Addr
  d_law_odd_replies : FuncData
  F_law_odd_replies : Fun K "_law_odd_replies" "_law_odd_replies" s_law_odd_replies a_law_odd_replies d_law_odd_replies
  m_law_odd_replies : mg "_law_odd_replies" = some (.ref a_law_odd_replies)
  a_law_colour_paper : Addr
  d_law_colour_paper : FuncData
  F_law_colour_paper : Fun K "_law_colour_paper" "_law_colour_paper" s_law_colour_paper a_law_colour_paper d_law_colour_paper
  m_law_colour_paper : mg "_law_colour_paper" = some (.ref a_law_colour_paper)
  a_law_replies_right : Addr
  d_law_replies_right : FuncData
  F_law_replies_right : Fun K "_law_replies_right" "_law_replies_right" s_law_replies_right a_law_replies_right d_law_replies_right
  m_law_replies_right : mg "_law_replies_right" = some (.ref a_law_replies_right)
  a_law_colour_right : Addr
  d_law_colour_right : FuncData
  F_law_colour_right : Fun K "_law_colour_right" "_law_colour_right" s_law_colour_right a_law_colour_right d_law_colour_right
  m_law_colour_right : mg "_law_colour_right" = some (.ref a_law_colour_right)
  a_law_colour_judge : Addr
  d_law_colour_judge : FuncData
  F_law_colour_judge : Fun K "_law_colour_judge" "_law_colour_judge" s_law_colour_judge a_law_colour_judge d_law_colour_judge
  m_law_colour_judge : mg "_law_colour_judge" = some (.ref a_law_colour_judge)
  a_law_game : Addr
  d_law_game : FuncData
  F_law_game : Fun K "_law_game" "_law_game" s_law_game a_law_game d_law_game
  m_law_game : mg "_law_game" = some (.ref a_law_game)
  a_law_entries : Addr
  d_law_entries : FuncData
  F_law_entries : Fun K "_law_entries" "_law_entries" s_law_entries a_law_entries d_law_entries
  m_law_entries : mg "_law_entries" = some (.ref a_law_entries)
  a_law_other_replies : Addr
  d_law_other_replies : FuncData
  F_law_other_replies : Fun K "_law_other_replies" "_law_other_replies" s_law_other_replies a_law_other_replies d_law_other_replies
  m_law_other_replies : mg "_law_other_replies" = some (.ref a_law_other_replies)
  a_law_changed : Addr
  d_law_changed : FuncData
  F_law_changed : Fun K "_law_changed" "_law_changed" s_law_changed a_law_changed d_law_changed
  m_law_changed : mg "_law_changed" = some (.ref a_law_changed)
  a_law_stretched : Addr
  d_law_stretched : FuncData
  F_law_stretched : Fun K "_law_stretched" "_law_stretched" s_law_stretched a_law_stretched d_law_stretched
  m_law_stretched : mg "_law_stretched" = some (.ref a_law_stretched)
  alaw : Addr
  dlaw : FuncData
  Flaw : Fun K "law" "law" slaw alaw dlaw
  mlaw : mg "law" = some (.ref alaw)
  aFitting___init__ : Addr
  dFitting___init__ : FuncData
  FFitting___init__ : Fun K "__init__" "Fitting.__init__" sFitting___init__ aFitting___init__ dFitting___init__
  mFitting___init__ : Meth K C_Fitting "__init__" aFitting___init__
  mk_Fitting : Mk K C_Fitting aFitting___init__
  aFitting_fits : Addr
  dFitting_fits : FuncData
  FFitting_fits : Fun K "fits" "Fitting.fits" sFitting_fits aFitting_fits dFitting_fits
  mFitting_fits : Meth K C_Fitting "fits" aFitting_fits
  aFitting_all_fit : Addr
  dFitting_all_fit : FuncData
  FFitting_all_fit : Fun K "all_fit" "Fitting.all_fit" sFitting_all_fit aFitting_all_fit dFitting_all_fit
  mFitting_all_fit : Meth K C_Fitting "all_fit" aFitting_all_fit
  aFitting__measures_fit : Addr
  dFitting__measures_fit : FuncData
  FFitting__measures_fit : Fun K "_measures_fit" "Fitting._measures_fit" sFitting__measures_fit aFitting__measures_fit dFitting__measures_fit
  mFitting__measures_fit : Meth K C_Fitting "_measures_fit" aFitting__measures_fit
  aFitting__change : Addr
  dFitting__change : FuncData
  FFitting__change : Fun K "_change" "Fitting._change" sFitting__change aFitting__change dFitting__change
  mFitting__change : Meth K C_Fitting "_change" aFitting__change
theorem Txt.bhas_option {K : PySem.W.Frag} {mg : Str → Option Value} (T : Txt K mg) : Binds K T.dhas_option Phas_option [] := T.Fhas_option.binds fun _ _ _ _ _ _ us hl => match us, hl with | [_], _ => rfl
theorem Txt.bentries_from {K : PySem.W.Frag} {mg : Str → Option Value} (T : Txt K mg) : Binds K T.dentries_from Pentries_from [] := T.Fentries_from.binds fun _ _ _ _ _ _ us hl => match us, hl with | [_, _, _], _ => rfl
theorem Txt.bjudge {K : PySem.W.Frag} {mg : Str → Option Value} (T : Txt K mg) : Binds K T.djudge Pjudge [] := T.Fjudge.binds fun _ _ _ _ _ _ us hl => match us, hl with | [_, _, _], _ => rfl
theorem Txt.b_is_right {K : PySem.W.Frag} {mg : Str → Option Value} (T : Txt K mg) : Binds K T.d_is_right P_is_right [] := T.F_is_right.binds fun _ _ _ _ _ _ us hl => match us, hl with | [_, _], _ => rfl
theorem Txt.b_numbers_are_right {K : PySem.W.Frag} {mg : Str → Option Value} (T : Txt K mg) : Binds K T.d_numbers_are_right P_numbers_are_right [] := T.F_numbers_are_right.binds fun _ _ _ _ _ _ us hl => match us, hl with | [_, _], _ => rfl
theorem Txt.b_replies_are_right {K : PySem.W.Frag} {mg : Str → Option Value} (T : Txt K mg) : Binds K T.d_replies_are_right P_replies_are_right [] := T.F_replies_are_right.binds fun _ _ _ _ _ _ us hl => match us, hl with | [_, _, _], _ => rfl
theorem Txt.b_law_draws {K : PySem.W.Frag} {mg : Str → Option Value} (T : Txt K mg) : Binds K T.d_law_draws P_law_draws [] := T.F_law_draws.binds fun _ _ _ _ _ _ us hl => match us, hl with | [_, _], _ => rfl
theorem Txt.b_law_take {K : PySem.W.Frag} {mg : Str → Option Value} (T : Txt K mg) : Binds K T.d_law_take P_law_take [] := T.F_law_take.binds fun _ _ _ _ _ _ us hl => match us, hl with | [_, _], _ => rfl
theorem Txt.b_law_same {K : PySem.W.Frag} {mg : Str → Option Value} (T : Txt K mg) : Binds K T.d_law_same P_law_same [] := T.F_law_same.binds fun _ _ _ _ _ _ us hl => match us, hl with | [_, _], _ => rfl
theorem Txt.b_law_cell {K : PySem.W.Frag} {mg : Str → Option Value} (T : Txt K mg) : Binds K T.d_law_cell P_law_cell [] := T.F_law_cell.binds fun _ _ _ _ _ _ us hl => match us, hl with | [_, _], _ => rfl
theorem Txt.b_law_option {K : PySem.W.Frag} {mg : Str → Option Value} (T : Txt K mg) : Binds K T.d_law_option P_law_option [] := T.F_law_option.binds fun _ _ _ _ _ _ us hl => match us, hl with | [_, _, _, _], _ => rfl
theorem Txt.b_law_arena {K : PySem.W.Frag} {mg : Str → Option Value} (T : Txt K mg) : Binds K T.d_law_arena P_law_arena [] := T.F_law_arena.binds fun _ _ _ _ _ _ us hl => match us, hl with | [_, _], _ => rfl
theorem Txt.b_law_colours {K : PySem.W.Frag} {mg : Str → Option Value} (T : Txt K mg) : Binds K T.d_law_colours P_law_colours [] := T.F_law_colours.binds fun _ _ _ _ _ _ us hl => match us, hl with | [_, _], _ => rfl
theorem Txt.b_law_counted {K : PySem.W.Frag} {mg : Str → Option Value} (T : Txt K mg) : Binds K T.d_law_counted P_law_counted [] := T.F_law_counted.binds fun _ _ _ _ _ _ us hl => match us, hl with | [_, _], _ => rfl
theorem Txt.b_law_frame {K : PySem.W.Frag} {mg : Str → Option Value} (T : Txt K mg) : Binds K T.d_law_frame P_law_frame [] := T.F_law_frame.binds fun _ _ _ _ _ _ us hl => match us, hl with | [_, _], _ => rfl
theorem Txt.b_law_may {K : PySem.W.Frag} {mg : Str → Option Value} (T : Txt K mg) : Binds K T.d_law_may P_law_may [] := T.F_law_may.binds fun _ _ _ _ _ _ us hl => match us, hl with | [_, _, _, _], _ => rfl
theorem Txt.b_law_next {K : PySem.W.Frag} {mg : Str → Option Value} (T : Txt K mg) : Binds K T.d_law_next P_law_next [] := T.F_law_next.binds fun _ _ _ _ _ _ us hl => match us, hl with | [_, _, _], _ => rfl
theorem Txt.b_law_option_lift {K : PySem.W.Frag} {mg : Str → Option Value} (T : Txt K mg) : Binds K T.d_law_option_lift P_law_option_lift [] := T.F_law_option_lift.binds fun _ _ _ _ _ _ us hl => match us, hl with | [_, _, _, _], _ => rfl
theorem Txt.b_law_lift {K : PySem.W.Frag} {mg : Str → Option Value} (T : Txt K mg) : Binds K T.d_law_lift P_law_lift [] := T.F_law_lift.binds fun _ _ _ _ _ _ us hl => match us, hl with | [_, _, _, _, _], _ => rfl
theorem Txt.b_law_measures {K : PySem.W.Frag} {mg : Str → Option Value} (T : Txt K mg) : Binds K T.d_law_measures P_law_measures [] := T.F_law_measures.binds fun _ _ _ _ _ _ us hl => match us, hl with | [_, _, _], _ => rfl
theorem Txt.b_law_even_choice {K : PySem.W.Frag} {mg : Str → Option Value} (T : Txt K mg) : Binds K T.d_law_even_choice P_law_even_choice [] := T.F_law_even_choice.binds fun _ _ _ _ _ _ us hl => match us, hl with | [_, _, _, _, _], _ => rfl
theorem Txt.b_law_odd_replies {K : PySem.W.Frag} {mg : Str → Option Value} (T : Txt K mg) : Binds K T.d_law_odd_replies P_law_odd_replies [] := T.F_law_odd_replies.binds fun _ _ _ _ _ _ us hl => match us, hl with | [_, _, _, _, _], _ => rfl
theorem Txt.b_law_colour_paper {K : PySem.W.Frag} {mg : Str → Option Value} (T : Txt K mg) : Binds K T.d_law_colour_paper P_law_colour_paper [] := T.F_law_colour_paper.binds fun _ _ _ _ _ _ us hl => match us, hl with | [_, _], _ => rfl
theorem Txt.b_law_replies_right {K : PySem.W.Frag} {mg : Str → Option Value} (T : Txt K mg) : Binds K T.d_law_replies_right P_law_replies_right [] := T.F_law_replies_right.binds fun _ _ _ _ _ _ us hl => match us, hl with | [_, _], _ => rfl
theorem Txt.b_law_colour_right {K : PySem.W.Frag} {mg : Str → Option Value} (T : Txt K mg) : Binds K T.d_law_colour_right P_law_colour_right [] := T.F_law_colour_right.binds fun _ _ _ _ _ _ us hl => match us, hl with | [_, _, _, _, _], _ => rfl
theorem Txt.b_law_colour_judge {K : PySem.W.Frag} {mg : Str → Option Value} (T : Txt K mg) : Binds K T.d_law_colour_judge P_law_colour_judge [] := T.F_law_colour_judge.binds fun _ _ _ _ _ _ us hl => match us, hl with | [_, _, _], _ => rfl
theorem Txt.b_law_game {K : PySem.W.Frag} {mg : Str → Option Value} (T : Txt K mg) : Binds K T.d_law_game P_law_game [] := T.F_law_game.binds fun _ _ _ _ _ _ us hl => match us, hl with | [_, _], _ => rfl
theorem Txt.b_law_entries {K : PySem.W.Frag} {mg : Str → Option Value} (T : Txt K mg) : Binds K T.d_law_entries P_law_entries [] := T.F_law_entries.binds fun _ _ _ _ _ _ us hl => match us, hl with | [_, _, _], _ => rfl
theorem Txt.b_law_other_replies {K : PySem.W.Frag} {mg : Str → Option Value} (T : Txt K mg) : Binds K T.d_law_other_replies P_law_other_replies [] := T.F_law_other_replies.binds fun _ _ _ _ _ _ us hl => match us, hl with | [_, _, _], _ => rfl
theorem Txt.b_law_changed {K : PySem.W.Frag} {mg : Str → Option Value} (T : Txt K mg) : Binds K T.d_law_changed P_law_changed [] := T.F_law_changed.binds fun _ _ _ _ _ _ us hl => match us, hl with | [_, _, _, _], _ => rfl
theorem Txt.b_law_stretched {K : PySem.W.Frag} {mg : Str → Option Value} (T : Txt K mg) : Binds K T.d_law_stretched P_law_stretched [] := T.F_law_stretched.binds fun _ _ _ _ _ _ us hl => match us, hl with | [_], _ => rfl
theorem Txt.blaw {K : PySem.W.Frag} {mg : Str → Option Value} (T : Txt K mg) : Binds K T.dlaw Plaw [] := T.Flaw.binds fun _ _ _ _ _ _ us hl => match us, hl with | [_], _ => rfl
theorem Txt.bFitting___init__ {K : PySem.W.Frag} {mg : Str → Option Value} (T : Txt K mg) : Binds K T.dFitting___init__ PFitting___init__ [] := T.FFitting___init__.binds fun _ _ _ _ _ _ us hl => match us, hl with | [_, _, _, _], _ => rfl
theorem Txt.bFitting_fits {K : PySem.W.Frag} {mg : Str → Option Value} (T : Txt K mg) : Binds K T.dFitting_fits PFitting_fits [] := T.FFitting_fits.binds fun _ _ _ _ _ _ us hl => match us, hl with | [_, _, _, _], _ => rfl
theorem Txt.bFitting_all_fit {K : PySem.W.Frag} {mg : Str → Option Value} (T : Txt K mg) : Binds K T.dFitting_all_fit PFitting_all_fit [] := T.FFitting_all_fit.binds fun _ _ _ _ _ _ us hl => match us, hl with | [_, _, _], _ => rfl
theorem Txt.bFitting__measures_fit {K : PySem.W.Frag} {mg : Str → Option Value} (T : Txt K mg) : Binds K T.dFitting__measures_fit PFitting__measures_fit [] := T.FFitting__measures_fit.binds fun _ _ _ _ _ _ us hl => match us, hl with | [_, _, _, _], _ => rfl
theorem Txt.bFitting__change {K : PySem.W.Frag} {mg : Str → Option Value} (T : Txt K mg) : Binds K T.dFitting__change PFitting__change [] := T.FFitting__change.binds fun _ _ _ _ _ _ us hl => match us, hl with | [_, _, _], _ => rfl
end NL

namespace NL
open PySem PySem.Spec PyProof.Rows L2

/-! ### frames: what stays while the list of draws at d is used up -/
structure Go (d : Addr) (H H' : Hp) : Prop where
  fr : ∀ b o, b ≠ d → H b = some o → H' b = some o
  dr : ∃ ns : List Int, H' d = some (.lst (ns.map V.int))
abbrev Dr (H : Hp) (d : Addr) : Prop := ∃ ns : List Int, H d = some (.lst (ns.map V.int))
theorem Go.refl {d : Addr} {H : Hp} (h : Dr H d) : Go d H H := ⟨fun _ _ _ e => e, h⟩
theorem Go.trans {d : Addr} {H H1 H2 : Hp} (a : Go d H H1) (b : Go d H1 H2) : Go d H H2 := ⟨fun c o n e => b.fr c o n (a.fr c o n e), b.dr⟩
theorem Go.new {d p : Addr} {H : Hp} {o : HO} (h : Dr H d) (hp : H p = none) : Go d H (upd H p o) := by
  obtain ⟨ns, e⟩ := h
  have n : d ≠ p := ne_of_none e hp
  exact ⟨fun b u _ q => by rw [upd_ne (ne_of_none q hp)]; exact q, ⟨ns, by rw [upd_ne n]; exact e⟩⟩
theorem Go.put {d : Addr} {H : Hp} (ns : List Int) : Go d H (upd H d (.lst (ns.map V.int))) := ⟨fun b u n q => by rw [upd_ne n]; exact q, ⟨ns, upd_same⟩⟩
theorem Go.same {d : Addr} {H H' : Hp} (h : Dr H d) (s : Same H H') : Go d H H' := ⟨fun b o _ e => s b o e, by obtain ⟨ns, e⟩ := h; exact ⟨ns, s _ _ e⟩⟩
theorem Go.tup {d a : Addr} {H H' : Hp} {xs : List V} (g : Go d H H') (h : Dr H d) (e : H a = some (.tup xs)) : H' a = some (.tup xs) := by
  refine g.fr a _ ?_ e
  rintro rfl
  obtain ⟨ns, q⟩ := h
  rw [e] at q; cases q
theorem same_new {H : Hp} {p : Addr} (h : H p = none) (o : HO) : Same H (upd H p o) := fun b u q => by rw [upd_ne (ne_of_none q h)]; exact q
/-- all tuples stay -/
def Tp (H H' : Hp) : Prop := ∀ a xs, H a = some (.tup xs) → H' a = some (.tup xs)
theorem Go.tp {d : Addr} {H H' : Hp} (g : Go d H H') (h : Dr H d) : Tp H H' := fun _ _ e => g.tup h e
theorem Tp.same {H H' : Hp} (s : Same H H') : Tp H H' := fun _ _ e => s _ _ e
theorem Tp.trans {H H1 H2 : Hp} (a : Tp H H1) (b : Tp H1 H2) : Tp H H2 := fun x y e => b x y (a x y e)
theorem Tp.refl {H : Hp} : Tp H H := fun _ _ e => e
/-- a list that stays readable whatever is drawn at d -/
def Keep (K : PySem.W.Frag) (d : Addr) (H : Hp) (a : Addr) (xs : List V) : Prop := ∀ H', (∀ b o, b ≠ d → H b = some o → H' b = some o) → SqL K H' a xs
theorem Keep.now {K : PySem.W.Frag} {d a : Addr} {H : Hp} {xs : List V} (k : Keep K d H a xs) : SqL K H a xs := k H fun _ _ _ e => e
theorem Keep.go {K : PySem.W.Frag} {d a : Addr} {H H' : Hp} {xs : List V} (k : Keep K d H a xs) (g : Go d H H') : Keep K d H' a xs := fun H2 f => k H2 fun b o n e => f b o n (g.fr b o n e)
theorem Keep.of {K : PySem.W.Frag} {d a : Addr} {H : Hp} {xs : List V} (n : a ≠ d) (h : H a = some (.lst xs)) : Keep K d H a xs := fun H' f => .inl (.inl (f a _ n h))
/-- what was read ahead of the draws' list stays -/
theorem Keep.old {K : PySem.W.Frag} {d a : Addr} {H0 H : Hp} {xs : List V} (h : SqL K H0 a xs) (hd : H0 d = none) (f : ∀ b o, H0 b = some o → H b = some o) : Keep K d H a xs := fun H' g => by
  rcases h with (h | ⟨o, h⟩) | h
  · exact .inl (.inl (g a _ (ne_of_none h hd) (f _ _ h)))
  · exact .inl (.inr ⟨o, g a _ (ne_of_none h hd) (f _ _ h)⟩)
  · exact .inr h

/-! ### rules whose written part is named (in a comprehension) -/
theorem ix_tupK {X : Cx} {K : PySem.W.Frag} (h : X.K = K) : IxR X (rIxT K) := by subst h; exact ix_tup
theorem ix_listK {X : Cx} {K : PySem.W.Frag} (h : X.K = K) : IxR X (rIxL K) := by subst h; exact ix_list
def rTupOf (K : PySem.W.Frag) : List V → Hp → VK → Prop := fun xs H Q => ∃ p ys, xs = [.ref p] ∧ ((SqL K H p ys ∧ ∀ l, H l = none → Q (.ref l) (upd H l (.tup ys))) ∨ (SqT K H p ys ∧ Q (.ref p) H))
theorem call_tuple_ofK {X : Cx} {K : PySem.W.Frag} (h : X.K = K) : CallR X (.type "tuple") (rTupOf K) := by subst h; exact call_tuple_of
/-! ### texts and words -/
/-- signs a to z alone -/
def Wd (z : Str) : Prop := ∀ c ∈ z.cps.toList, 97 ≤ c ∧ c ≤ 122
instance (z : Str) : Decidable (Wd z) := by unfold Wd; infer_instance
def res : List Str := ["true", "false", "add", "sub", "mul", "div", "mod", "min", "max", "abs", "if", "less", "equal", "not", "all", "any"]
theorem app_list (a b : Str) : (a ++ b).cps.toList = a.cps.toList ++ b.cps.toList := by
  show (a.cps ++ b.cps).toList = _
  simp
theorem len_list (a : Str) : a.length = a.cps.toList.length := by
  show a.cps.size = _
  simp
theorem len_app (a b : Str) : (a ++ b).length = a.length + b.length := by
  rw [len_list, app_list, List.length_append, ← len_list, ← len_list]
theorem str_ext {a b : Str} (h : a.cps.toList = b.cps.toList) : a = b := by
  cases a with | mk x => cases b with | mk y =>
  have : x = y := Array.toList_inj.mp h
  rw [this]
theorem Wd.app {a b : Str} (ha : Wd a) (hb : Wd b) : Wd (a ++ b) := fun c hc => by
  rw [app_list] at hc
  rcases List.mem_append.mp hc with h | h
  · exact ha c h
  · exact hb c h
structure Nam (z : Str) : Prop where
  wd : Wd z
  len : 0 < z.length ∧ z.length ≤ 200
  nr : z ∉ res
structure Nm (z : Str) : Prop where
  wd : Wd z
  len : 0 < z.length ∧ z.length ≤ 150

/-! ### lists at an index -/
theorem atI_mem {α : Type} {xs : List α} {i : Int} (h0 : 0 ≤ i) (h1 : i < xs.length) : ∃ v, atI xs i = some v ∧ v ∈ xs := by
  have hk : i.toNat < xs.length := by omega
  have ek : i = ((i.toNat : Nat) : Int) := by omega
  have q : atI xs ((i.toNat : Nat) : Int) = some xs[i.toNat] := atI_nat (List.getElem?_eq_getElem hk)
  rw [← ek] at q
  exact ⟨_, q, List.getElem_mem hk⟩
theorem atI_map {α β : Type} {f : α → β} {xs : List α} {i : Int} (h0 : 0 ≤ i) (h1 : i < xs.length) : ∃ v, atI (xs.map f) i = some (f v) ∧ v ∈ xs := by
  obtain ⟨v, h, m⟩ := atI_mem (xs := xs.map f) h0 (by rw [List.length_map]; exact h1)
  obtain ⟨u, hu, rfl⟩ := List.mem_map.mp m
  exact ⟨u, h, hu⟩
theorem sqd {K : PySem.W.Frag} {H : Hp} {a : Addr} {xs : List V} (h : H a = some (.lst xs)) : SqL K H a xs := .inl (.inl h)
theorem sqt {K : PySem.W.Frag} {H : Hp} {a : Addr} {xs : List V} (h : H a = some (.tup xs)) : SqT K H a xs := .inl (.inl h)
theorem int_eq {i j : Int} (h : decide (V.int i = V.int j) = true) : i = j := V.int.inj (of_decide_eq_true h)
theorem int_ne {i j : Int} (h : ¬ decide (V.int i = V.int j) = true) : i ≠ j := fun e => h (decide_eq_true (by rw [e]))
section
variable {P : Program} {w : World} {K : PySem.W.Frag} {mg : Str → Option Value} {base : Heap}
/-! ### _law_take -/
def spTake : Sp := fun vs H Q _ => ∃ (d : Addr) (m : Int), vs = [.ref d, .int m] ∧ Dr H d ∧ 0 < m ∧ ∀ r H', Go d H H' → 0 ≤ r → r < m → Q (.int r) H'
theorem ok_law_take (T : Txt K mg) : FnOk P w K mg base CX0 1 T.a_law_take T.d_law_take P_law_take spTake := by
  refine T.F_law_take.ok sc_law_take (fun vs H Q E h => ?_) (fun cdv A outer s H vs Q E hr h => ?_)
  · obtain ⟨d, m, rfl, _⟩ := h
    rfl
  obtain ⟨d, m, rfl, hD, hm, q⟩ := h
  refine ⟨_, (pss_cons (ps_if (pt_cmpR op_eq (pe_callB call_len_seq (by rfl) T.z_len PySem.boot_len (pa_cons (pv 0) pa_nil)) pe_int (nomark _))
    (pss_one (ps_ret pe_int))
    pss_nil)
    (pss_one (ps_ret (pe_op op_mod (pe_callTy call_int1 (by rfl) T.z_int (by decide +kernel) (pa_cons (pe_bm0 PySem.F.plainAttrs_list PySem.F.slot_list_pop PySem.F.type_list_pop mt_pop (pv 0)) pa_nil)) (pv 1))))), ?_⟩
  obtain ⟨ns, hd⟩ := hD
  refine ⟨_, rfl, _, _, rfl, .inl (sqd hd), rfl, _, rfl, ?_⟩
  refine ite2 (fun c => ?_) (fun c => ?_)
  · exact q 0 H (Go.refl ⟨ns, hd⟩) (Int.le_refl 0) hm
  · have hn := int_ne c
    rw [List.length_map] at hn
    have hz : ns ≠ [] := by
      rintro rfl
      exact hn rfl
    have hl : 0 < ns.length := List.length_pos_iff.mpr hz
    have he : (ns.map V.int)[(ns.map V.int).length - 1]? = some (.int ns[ns.length - 1]) := by
      rw [List.length_map, List.getElem?_map, List.getElem?_eq_getElem (by omega)]
      rfl
    refine ⟨_, rfl, .inl ⟨rfl, _, sqd hd⟩, _, _, _, rfl, rfl, hd, he, .inl ⟨_, rfl, ?_⟩⟩
    refine ⟨_, rfl, _, _, rfl, rfl, hm, ?_⟩
    refine q _ _ ?_ (Int.emod_nonneg _ (by omega)) (Int.emod_lt_of_pos _ hm)
    rw [← List.map_dropLast]
    exact Go.put _
end
end NL

namespace NL
open PySem PySem.Spec PyProof.Rows L2
theorem yes_if {σ : L2.St} {H : Hp} {a n : Hp → Prop} (h : a H) : tYes σ H (fun b H3 => if b = true then a H3 else n H3) := by
  show (if true = true then a H else n H)
  rw [if_pos rfl]
  exact h
/-- one reading for two ways -/
theorem cutP {B C : Prop} (f : B → C) (b : B) : C := f b
theorem ifT {c : Bool} {A B : Prop} (h : c = true) (a : A) : if c = true then A else B := by
  rw [if_pos h]; exact a
theorem ifF {c : Bool} {A B : Prop} (h : c = false) (b : B) : if c = true then A else B := by
  rw [if_neg (by rw [h]; exact Bool.false_ne_true)]; exact b
theorem atI0 {α : Type} {x : α} {r : List α} : atI (x :: r) 0 = some x := atI_nat (j := 0) rfl
theorem atI1 {α : Type} {x y : α} {r : List α} : atI (x :: y :: r) 1 = some y := atI_nat (j := 1) rfl
theorem boolE {Q : VK} {b b' : Bool} {H : Hp} (h : b = b') (q : Q (.bl b') H) : Q (.bl b) H := by rw [h]; exact q
theorem big {n : Nat} (h : n ≤ 1000000) : n ≤ sizeLine := Nat.le_trans h (by decide)
theorem big' {n : Nat} (h : n ≤ 1000000) : n < sizeLine := Nat.lt_of_le_of_lt h (by decide)
theorem int_in {x : Int} {l : List Int} : inV (.int x) (l.map V.int) = decide (x ∈ l) := by
  unfold inV
  rw [List.any_map]
  induction l with
  | nil => rfl
  | cons a r ih =>
    rw [List.any_cons, ih]
    show (eqV (.int a) (.int x) || _) = _
    have e : eqV (.int a) (.int x) = decide (x = a) := by
      show (a == x) = _
      rw [Bool.beq_eq_decide_eq]
      exact decide_eq_decide.mpr ⟨fun h => h.symm, fun h => h.symm⟩
    rw [e, ← Bool.decide_or]
    exact decide_eq_decide.mpr List.mem_cons.symm
theorem flat_ints' (l : List Int) : (l.map V.int).all flatV = true := by
  induction l with
  | nil => rfl
  | cons a r ih => rw [List.map_cons, List.all_cons, ih]; rfl
theorem notIn_int {x : Int} {l : List Int} : (if true = true then !inV (V.int x) (l.map V.int) else inV (V.int x) (l.map V.int)) = !decide (x ∈ l) := by
  rw [if_pos rfl, int_in]
def rLenK (K : PySem.W.Frag) : List V → Hp → VK → Prop := fun xs H Q => ∃ p ys, xs = [.ref p] ∧ (SqL K H p ys ∨ SqT K H p ys) ∧ Q (.int (ys.length : Nat)) H
theorem call_len_seqK {X : Cx} {K : PySem.W.Frag} (h : X.K = K) : CallR X (.builtin "len") (rLenK K) := by
  subst h
  exact call_len_seq
end NL

namespace NL
open PySem PySem.Spec PyProof.Rows L2
theorem ixN_in {n : Nat} {k : Int} (h0 : 0 ≤ k) (h1 : k < n) : ixN n k = some k.toNat := by
  unfold ixN
  rw [if_pos h0, if_pos h1]
/-- a change at what was not there before -/
theorem same_put {H H' : Hp} {p : Addr} {o : HO} (s : Same H H') (hp : H p = none) : Same H (upd H' p o) := fun b u e => by
  rw [upd_ne (ne_of_none e hp)]
  exact s b u e
section
variable {P : Program} {w : World} {K : PySem.W.Frag} {mg : Str → Option Value} {base : Heap}
def spDraws (K : PySem.W.Frag) : Sp := fun vs H Q _ => ∃ (a : Addr) (ns : List Int) (m : Int), vs = [.ref a, .int m] ∧ SqL K H a (ns.map V.int) ∧ ns.length ≤ 63 ∧ 0 ≤ m ∧ m ≤ 10000 ∧
  ∀ d H', Same H H' → H d = none → Dr H' d → Q (.ref d) H'
theorem ok_law_draws (T : Txt K mg) : FnOk P w K mg base CX0 1 T.a_law_draws T.d_law_draws P_law_draws (spDraws K) := by
  refine T.F_law_draws.ok sc_law_draws (fun vs H Q E h => ?_) (fun cdv A outer s H vs Q E hr h => ?_)
  · obtain ⟨a, ns, m, rfl, _⟩ := h
    rfl
  obtain ⟨a, ns, m, rfl, hS, hl, m0, m1, q⟩ := h
  refine ⟨_, (pss_cons (ps_setLc (i := 2) (own := [("cell", 3)]) (g := (gName 3)) (tt := tYes) rfl sc_law_draws.nd rfl rfl (sw_true rfl rfl rfl (by decide +kernel)) (pi_list (pv 0)) (blkOk_by (N := N_law_draws) (sc := defScope s_law_draws) (by decide +kernel)) (fun _ _ _ _ _ => (pg_name (i := 3) sc_law_draws.nd rfl (Or.inl rfl))) (fun _ _ _ _ _ => pts_nil) (fun _ _ _ _ _ => (pe_callTy call_int1 (by rfl) T.z_int (by decide +kernel) (pa_cons (pv 3) pa_nil))))
    (C8.pss_cut (ps_if (pt_cmpR op_eq (pe_callB call_len_seq (by rfl) T.z_len PySem.boot_len (pa_cons (pv 2) pa_nil)) pe_int (nomark _))
    (pss_one (ps_expr (pe_bm PySem.F.plainAttrs_list PySem.F.slot_list_append PySem.F.type_list_append mt_append (pv 2) (pa_cons pe_int pa_nil))))
    pss_nil)
    (pss_cons (ps_set (i := 4) sc_law_draws.nd rfl (Or.inl rfl) (pe_callTy call_list_of (by rfl) T.z_list (by decide +kernel) (pa_cons (pv 2) pa_nil)))
    (pss_cons (ps_set (i := 5) sc_law_draws.nd rfl (Or.inl rfl) (pe_lst pa_nil))
    (pss_cons (ps_for  PassesOwn.never rfl (pi_range1 (by rfl) T.z_range (pa_cons (pv 1) pa_nil)) (pg_name (i := 6) sc_law_draws.nd rfl (Or.inl rfl))
    (pss_cons (ps_set (i := 7) sc_law_draws.nd rfl (Or.inl rfl) (pe_op op_mod (pv 6) (pe_callB call_len_seq (by rfl) T.z_len PySem.boot_len (pa_cons (pv 2) pa_nil))))
    (pss_one (ps_if (pt_cmpR op_ge (pe_ix ix_list (pv 2) (pv 7) (fun _ _ => rfl)) (pe_op op_pow pe_int pe_int) (nomark _))
    (pss_cons (ps_expr (pe_bm PySem.F.plainAttrs_list PySem.F.slot_list_append PySem.F.type_list_append mt_append (pv 5) (pa_cons (pe_op op_mod (pe_callTy call_int1 (by rfl) T.z_int (by decide +kernel) (pa_cons (pe_ix ix_list (pv 4) (pv 7) (fun _ _ => rfl)) pa_nil)) pe_int) pa_nil)))
    (pss_one (ps_asg (pe_op op_fdiv (pe_ix ix_list (pv 4) (pv 7) (fun _ _ => rfl)) pe_int) (pg_sub (pv 4) (pv 7) set_list))))
    (pss_cons (ps_set (i := 8) sc_law_draws.nd rfl (Or.inl rfl) (pe_op op_mod (pe_callTy call_int1 (by rfl) T.z_int (by decide +kernel) (pa_cons (pe_op op_add (pe_op op_add (pe_op op_mul (pe_ix ix_list (pv 2) (pv 7) (fun _ _ => rfl)) pe_int) (pe_op op_mul (pv 6) pe_int)) pe_int) pa_nil)) pe_int))
    (pss_one (ps_expr (pe_bm PySem.F.plainAttrs_list PySem.F.slot_list_append PySem.F.type_list_append mt_append (pv 5) (pa_cons (pe_op op_mod (pe_callTy call_int1 (by rfl) T.z_int (by decide +kernel) (pa_cons (pe_op op_add (pe_op op_add (pe_op op_mul (pv 8) (pv 8)) (pe_op op_mul pe_int (pv 8))) (pv 6)) pa_nil)) pe_int) pa_nil)))))))))
    (pss_cons (ps_expr (pe_bm0 PySem.F.plainAttrs_list PySem.F.slot_list_reverse PySem.F.type_list_reverse mt_reverse (pv 5)))
    (pss_one (ps_ret (pv 5))))))))), ?_⟩
  -- cells
  refine ⟨_, rfl, a, rfl, ⟨_, hS⟩, fun c hc => ?_⟩
  refine lc_list (K := K) (a := a) (xs := ns.map V.int) (fun (j : Nat) (H' : Hp) => Same H H' ∧ H' c = some (.lst ((ns.take j).map V.int))) ?_ ?_ ?_ ?_
  · exact ⟨same_new hc _, by rw [upd_same, List.take_zero]; rfl⟩
  · rintro i H' _ ⟨s1, _⟩
    exact s1.seq hS
  · rintro i x H' hx ⟨s1, e1⟩
    rw [List.getElem?_map] at hx
    cases hn : ns[i]? with
    | none => rw [hn] at hx; cases hx
    | some n =>
      rw [hn] at hx
      obtain rfl : V.int n = x := Option.some.inj hx
      refine ⟨rfl, yes_if ?_⟩
      refine ⟨_, rfl, .inl ⟨n, rfl, _, e1, ?_, same_put s1 hc, ?_⟩⟩
      · rw [List.length_map, List.length_take]
        exact big' (by omega)
      · rw [upd_same, List.take_add_one, hn, List.map_append]
        rfl
  · rintro H1 ⟨s1, e1⟩
    rw [List.length_map, List.take_length] at e1
    -- at least one cell
    refine ⟨fun σ H2 => ∃ cs : List Int, cs ≠ [] ∧ cs.length ≤ 63 ∧ σ = [some (.ref a), some (.int m), some (.ref c), none, none, none, none, none, none] ∧ Same H H2 ∧ H2 c = some (.lst (cs.map V.int)), ?_, ?_⟩
    · refine ⟨_, rfl, _, _, rfl, .inl (sqd e1), rfl, _, rfl, ?_⟩
      refine ite2 (fun z => ?_) (fun z => ?_)
      · refine ⟨_, rfl, .inl ⟨rfl, _, sqd e1⟩, c, _, _, rfl, rfl, e1, ?_, ?_⟩
        · rw [List.length_map]
          exact big' (by omega)
        · have hz := int_eq z
          rw [List.length_map] at hz
          have : ns = [] := List.length_eq_zero_iff.mp (by omega)
          subst this
          exact ⟨[0], by simp, by decide, rfl, same_put s1 hc, upd_same⟩
      · have hz := int_ne z
        rw [List.length_map] at hz
        refine ⟨ns, ?_, hl, rfl, s1, e1⟩
        rintro rfl
        exact hz rfl
    · rintro σ H2 ⟨cs, hcs, hcl, rfl, s2, e2⟩
      have hpos : 0 < cs.length := List.length_pos_iff.mpr hcs
      -- rest, draws
      refine ⟨_, rfl, _, _, rfl, .inl (sqd e2), fun r hr2 => ?_⟩
      have ncr : c ≠ r := ne_of_none e2 hr2
      refine ⟨(Nat.le_of_ble_eq_true rfl), fun d hd => ?_⟩
      have ncd : c ≠ d := ne_of_none (by rw [upd_ne ncr]; exact e2) hd
      have nrd : r ≠ d := ne_of_none upd_same hd
      have hHr : H r = none := s2.free hr2
      have hHd : H d = none := (s2.trans (same_new hr2 _)).free hd
      refine ⟨_, rfl, m, rfl, by omega, by omega, for_range (lo := 0) (n := m.toNat) (fun (j : Nat) (σ : L2.St) (H' : Hp) => ∃ (rs ds : List Int) (y1 y2 y3 : Option V), σ = [some (.ref a), some (.int m), some (.ref c), none, some (.ref r), some (.ref d), y1, y2, y3] ∧ Same H H' ∧ H' c = some (.lst (cs.map V.int)) ∧ H' r = some (.lst (rs.map V.int)) ∧ rs.length = cs.length ∧ H' d = some (.lst (ds.map V.int)) ∧ ds.length ≤ j) ?_ ?_ ?_⟩
      · refine ⟨cs, [], none, none, none, rfl, (s2.trans (same_new hr2 _)).trans (same_new hd _), ?_, ?_, rfl, upd_same, Nat.le_refl _⟩
        · rw [upd_ne ncd, upd_ne ncr]; exact e2
        · rw [upd_ne nrd]; exact upd_same
      · rintro j σ H' hj ⟨rs, ds, y1, y2, y3, rfl, s3, ec, er, hrl, ed, hdl⟩
        have b0 := Int.emod_nonneg ((0 : Int) + (j : Int)) (show (((cs.map V.int).length : Nat) : Int) ≠ 0 by rw [List.length_map]; omega)
        have b1 : (((0 : Int) + (j : Int)) % (((cs.map V.int).length : Nat) : Int)) < (cs.length : Int) := by
          have h := Int.emod_lt_of_pos ((0 : Int) + (j : Int)) (show 0 < (((cs.map V.int).length : Nat) : Int) by rw [List.length_map]; omega)
          rw [List.length_map] at h ⊢
          exact h
        refine ⟨_, rfl, _, rfl, _, _, rfl, .inl (sqd ec), _, _, rfl, rfl, (by show 0 < (((cs.map V.int).length : Nat) : Int); rw [List.length_map]; omega), ?_⟩
        obtain ⟨cv, hcv, _⟩ := atI_map (f := V.int) (xs := cs) b0 b1
        obtain ⟨rv, hrv, _⟩ := atI_map (f := V.int) (xs := rs) b0 (by omega)
        refine ⟨_, rfl, _, rfl, _, _, _, _, rfl, rfl, sqd ec, hcv, _, _, rfl, rfl, ⟨by decide, by decide, by decide⟩, _, _, rfl, rfl, _, rfl, ?_⟩
        refine ite2 (fun z => ?_) (fun z => ?_)
        · refine ⟨_, rfl, .inl ⟨rfl, _, sqd ed⟩, _, rfl, _, rfl, _, _, _, _, rfl, rfl, sqd er, hrv, .inl ⟨_, rfl, _, _, rfl, rfl, (by show (0 : Int) < 1000; decide), d, _, _, rfl, rfl, ed, ?_, ?_⟩⟩
          · rw [List.length_map]
            exact big' (by omega)
          · have er2 : ∀ o, (upd H' d o) r = some (.lst (rs.map V.int)) := fun o => by rw [upd_ne nrd]; exact er
            refine ⟨_, rfl, _, rfl, _, _, _, _, rfl, rfl, sqd (er2 _), hrv, _, _, rfl, rfl, ⟨by decide, by decide⟩, _, rfl, _, rfl, r, _, _, _, rfl, rfl, er2 _, ixN_in b0 (by have h : (rs.map V.int).length = rs.length := List.length_map _; omega), ?_⟩
            refine ⟨rs.set (((0 : Int) + (j : Int)) % (((cs.map V.int).length : Nat) : Int)).toNat (rv / 1000), ds ++ [rv % 1000], _, _, _, rfl, same_put (same_put s3 hHd) hHr, ?_, ?_, ?_, ?_, ?_⟩
            · rw [upd_ne ncr, upd_ne ncd]; exact ec
            · rw [upd_same, List.map_set]
            · rw [List.length_set]; exact hrl
            · rw [upd_ne nrd.symm, upd_same, List.map_append]; rfl
            · rw [List.length_append, List.length_singleton]; omega
        · have o0 := fun z : Int => Int.emod_nonneg z (by decide : (2147483647 : Int) ≠ 0)
          have o1 := fun z : Int => Int.emod_lt_of_pos z (by decide : (0 : Int) < 2147483647)
          refine ⟨_, rfl, _, rfl, _, _, _, _, rfl, rfl, sqd ec, hcv, _, _, rfl, rfl, .inr ⟨by decide, by decide⟩, _, rfl, _, _, rfl, rfl, .inr ⟨by decide, by decide⟩, _, _, rfl, rfl, _, _, rfl, rfl, .inl ⟨_, rfl, _, _, rfl, rfl, (by show (0 : Int) < 2147483647; decide), ?_⟩⟩
          refine ⟨_, rfl, .inl ⟨rfl, _, sqd ed⟩, _, rfl, _, rfl, _, _, rfl, rfl, ?_, ?_⟩
          · left
            have h1 := o0 (cv * 48271 + (0 + (j : Int)) * 69621 + 11)
            have h2 := o1 (cv * 48271 + (0 + (j : Int)) * 69621 + 11)
            constructor
            · show -(2 ^ 64) < _
              omega
            · show _ < 2 ^ 64
              omega
          · refine ⟨_, rfl, _, _, rfl, rfl, .inl ⟨by decide, by decide⟩, _, _, rfl, rfl, _, rfl, _, _, rfl, rfl, .inl ⟨_, rfl, _, _, rfl, rfl, (by show (0 : Int) < 1000003; decide), d, _, _, rfl, rfl, ed, ?_, ?_⟩⟩
            · rw [List.length_map]
              exact big' (by omega)
            · refine ⟨rs, ds ++ [(((cv * 48271 + (0 + (j : Int)) * 69621 + 11) % 2147483647) * ((cv * 48271 + (0 + (j : Int)) * 69621 + 11) % 2147483647) + 3 * ((cv * 48271 + (0 + (j : Int)) * 69621 + 11) % 2147483647) + (0 + (j : Int))) % 1000003], _, _, _, rfl, same_put s3 hHd, ?_, ?_, hrl, ?_, ?_⟩
              · rw [upd_ne ncd]; exact ec
              · rw [upd_ne nrd]; exact er
              · rw [upd_same, List.map_append]; rfl
              · rw [List.length_append, List.length_singleton]; omega
      · rintro σ H' ⟨rs, ds, y1, y2, y3, rfl, s3, ec, er, hrl, ed, hdl⟩
        refine ⟨_, rfl, .inl ⟨rfl, _, sqd ed⟩, d, _, rfl, rfl, ed, ?_⟩
        refine ⟨_, rfl, q d _ (same_put s3 hHd) hHd ⟨ds.reverse, ?_⟩⟩
        rw [upd_same, List.map_reverse]
end
end NL

namespace NL
open PySem PySem.Spec PyProof.Rows L2
/-! ### rows and what stands in them -/
def Each {α : Type} (R : α → V → Prop) (l : List α) (xs : List V) : Prop := xs.length = l.length ∧ ∀ (k : Nat) a x, l[k]? = some a → xs[k]? = some x → R a x
theorem Each.nil {α : Type} {R : α → V → Prop} : Each R [] [] := ⟨rfl, fun k a x h => by simp at h⟩
theorem Each.mono {α : Type} {R S : α → V → Prop} {l : List α} {xs : List V} (h : Each R l xs) (f : ∀ a x, R a x → S a x) : Each S l xs := ⟨h.1, fun k a x e g => f a x (h.2 k a x e g)⟩
theorem Each.cons {α : Type} {R : α → V → Prop} {l : List α} {xs : List V} {a : α} {x : V} (r : R a x) (h : Each R l xs) : Each R (a :: l) (x :: xs) := ⟨by rw [List.length_cons, List.length_cons, h.1], fun k b y e g => by
  cases k with
  | zero => cases e; cases g; exact r
  | succ k => exact h.2 k b y e g⟩
theorem Each.app {α : Type} {R : α → V → Prop} {l m : List α} {xs ys : List V} (h : Each R l xs) (g : Each R m ys) : Each R (l ++ m) (xs ++ ys) := by
  refine ⟨by rw [List.length_append, List.length_append, h.1, g.1], fun k r x e f => ?_⟩
  by_cases hk : k < l.length
  · rw [List.getElem?_append_left hk] at e
    rw [List.getElem?_append_left (by rw [h.1]; exact hk)] at f
    exact h.2 k r x e f
  · rw [List.getElem?_append_right (by omega)] at e
    rw [List.getElem?_append_right (by rw [h.1]; omega), h.1] at f
    exact g.2 _ r x e f
theorem Each.snoc {α : Type} {R : α → V → Prop} {l : List α} {xs : List V} {a : α} {x : V} (h : Each R l xs) (r : R a x) : Each R (l ++ [a]) (xs ++ [x]) := h.app (.cons r .nil)
theorem Each.take {α : Type} {R : α → V → Prop} {l : List α} {xs : List V} (h : Each R l xs) (n : Nat) : Each R (l.take n) (xs.take n) := ⟨by rw [List.length_take, List.length_take, h.1], fun k a x e g => by
  rw [List.getElem?_take] at e g
  split at e
  · rename_i hk
    rw [if_pos hk] at g
    exact h.2 k a x e g
  · cases e⟩
theorem Each.drop {α : Type} {R : α → V → Prop} {l : List α} {xs : List V} (h : Each R l xs) (n : Nat) : Each R (l.drop n) (xs.drop n) := ⟨by rw [List.length_drop, List.length_drop, h.1], fun k a x e g => by
  rw [List.getElem?_drop] at e g
  exact h.2 _ a x e g⟩
theorem Each.set {α : Type} {R : α → V → Prop} {l : List α} {xs : List V} {a : α} {x : V} (h : Each R l xs) (n : Nat) (r : R a x) : Each R (l.set n a) (xs.set n x) := ⟨by rw [List.length_set, List.length_set, h.1], fun k b y e g => by
  rw [List.getElem?_set] at e g
  by_cases hk : n = k
  · rw [if_pos hk] at e g
    by_cases hl : n < l.length
    · rw [if_pos hl] at e
      rw [if_pos (by rw [h.1]; exact hl)] at g
      cases e; cases g; exact r
    · rw [if_neg hl] at e
      cases e
  · rw [if_neg hk] at e g
    exact h.2 k b y e g⟩
theorem Each.at {α : Type} {R : α → V → Prop} {l : List α} {xs : List V} {a : α} {k : Nat} (h : Each R l xs) (e : l[k]? = some a) : ∃ x, xs[k]? = some x ∧ R a x := by
  have hk : k < xs.length := by
    rw [h.1]
    exact (List.getElem?_eq_some_iff.mp e).1
  exact ⟨_, List.getElem?_eq_getElem hk, h.2 k a _ e (List.getElem?_eq_getElem hk)⟩
theorem Each.atI {α : Type} {R : α → V → Prop} {l : List α} {xs : List V} {i : Int} (h : Each R l xs) (h0 : 0 ≤ i) (h1 : i < l.length) : ∃ a x, l[i.toNat]? = some a ∧ atI xs i = some x ∧ R a x := by
  have hk : i.toNat < l.length := by omega
  obtain ⟨x, hx, r⟩ := h.at (List.getElem?_eq_getElem hk)
  have q : L2.atI xs ((i.toNat : Nat) : Int) = some x := atI_nat hx
  rw [show ((i.toNat : Nat) : Int) = i by omega] at q
  exact ⟨_, x, List.getElem?_eq_getElem hk, q, r⟩
/-! ### options, positions, arenas -/
abbrev Opt := List Int
abbrev Pos' := List Opt
abbrev Ar := List Pos'
def OptIn (H : Hp) (o : Opt) (v : V) : Prop := ∃ b, v = .ref b ∧ H b = some (.tup (o.map V.int))
def PosIn (H : Hp) (os : Pos') (v : V) : Prop := ∃ b xs, v = .ref b ∧ H b = some (.tup xs) ∧ Each (OptIn H) os xs
def ArIn (H : Hp) (A : Ar) (v : V) : Prop := ∃ b xs, v = .ref b ∧ H b = some (.tup xs) ∧ Each (PosIn H) A xs
theorem OptIn.tp {H H' : Hp} {o : Opt} {v : V} (t : Tp H H') (h : OptIn H o v) : OptIn H' o v := by
  obtain ⟨b, e, q⟩ := h
  exact ⟨b, e, t _ _ q⟩
theorem PosIn.tp {H H' : Hp} {o : Pos'} {v : V} (t : Tp H H') (h : PosIn H o v) : PosIn H' o v := by
  obtain ⟨b, xs, e, q, r⟩ := h
  exact ⟨b, xs, e, t _ _ q, r.mono fun a x => OptIn.tp t⟩
theorem ArIn.tp {H H' : Hp} {o : Ar} {v : V} (t : Tp H H') (h : ArIn H o v) : ArIn H' o v := by
  obtain ⟨b, xs, e, q, r⟩ := h
  exact ⟨b, xs, e, t _ _ q, r.mono fun a x => PosIn.tp t⟩
/-- an option of an arena with n positions -/
structure OptG (n : Int) (o : Opt) : Prop where
  ne : o ≠ []
  len : o.length ≤ 60
  mem : ∀ s ∈ o, -1 ≤ s ∧ s < n
  asc : o.Pairwise (· < ·)
def PosG (n : Int) (os : Pos') : Prop := os.length ≤ 12 ∧ ∀ o ∈ os, OptG n o
def ArG (A : Ar) : Prop := A.length ≤ 400 ∧ ∀ os ∈ A, PosG A.length os
theorem OptG.one {n s : Int} (h0 : -1 ≤ s) (h1 : s < n) : OptG n [s] := ⟨by simp, by simp, fun t ht => by rw [List.mem_singleton.mp ht]; exact ⟨h0, h1⟩, List.pairwise_singleton _ _⟩
theorem asc_of {l m : List Int} (h : l.Perm m) (hm : m.Nodup) (hp : l.Pairwise (· ≤ ·)) : l.Pairwise (· < ·) := by
  have hn : l.Nodup := h.nodup_iff.mpr hm
  refine (hp.and hn).imp fun {a b} h => ?_
  obtain ⟨h1, h2⟩ := h
  omega
theorem tp_put {H H' : Hp} {p : Addr} {o : List V} {o' : HO} (t : Tp H H') (h : H' p = some (.lst o)) : Tp H (upd H' p o') := fun a xs e => by
  have n : a ≠ p := fun q => by
    have := t a xs e
    rw [q, h] at this
    cases this
  rw [upd_ne n]
  exact t a xs e
theorem Go.put2 {d p : Addr} {H H' : Hp} {o : HO} (g : Go d H H') (hp : H p = none) (n : p ≠ d) : Go d H (upd H' p o) := ⟨fun b u hb e => by
  rw [upd_ne (ne_of_none e hp)]
  exact g.fr b u hb e, by
  obtain ⟨ns, e⟩ := g.dr
  exact ⟨ns, by rw [upd_ne n.symm]; exact e⟩⟩
theorem new_ne {d p : Addr} {H : Hp} (h : Dr H d) (hp : H p = none) : p ≠ d := by
  rintro rfl
  obtain ⟨ns, e⟩ := h
  rw [hp] at e
  cases e
theorem Go.free {d p : Addr} {H H' : Hp} (g : Go d H H') (hp : H' p = none) : H p = none := by
  cases e : H p with
  | none => rfl
  | some o =>
    by_cases hd : p = d
    · obtain ⟨ns, q⟩ := g.dr
      rw [hd, q] at hp
      cases hp
    · rw [g.fr p o hd e] at hp
      cases hp
end NL

namespace NL
open PySem PySem.Spec PyProof.Rows L2
theorem newH {H : Hp} {p : Addr} (hp : H p = none) (o : HO) : ∃ H', upd H p o = H' ∧ Same H H' ∧ H' p = some o := ⟨_, rfl, same_new hp _, upd_same⟩
theorem catA_of {K : PySem.W.Frag} {a b : Addr} {xs ys : List V} {H : Hp} {Q : VK} (ha : H a = some (.tup xs)) (hb : H b = some (.tup ys)) (hl : xs.length + ys.length ≤ 1000) (q : ∀ p H', Same H H' → H' p = some (.tup (xs ++ ys)) → Q (.ref p) H') : rCatA K (.ref a) (.ref b) H Q := by
  refine ⟨a, b, xs, ys, rfl, rfl, sqt ha, sqt hb, big (by omega), fun h => ?_, fun _ h => ?_, fun _ _ p hp => ?_⟩
  · exact q b H (Same.refl H) (by rw [h, List.nil_append]; exact hb)
  · exact q a H (Same.refl H) (by rw [h, List.append_nil]; exact ha)
  · exact q p _ (same_new hp _) upd_same
theorem rg_ints (a b : Int) : rgV a b = ((List.range (b - a).toNat).map fun i : Nat => a + (i : Int)).map V.int := by
  unfold rgV
  rw [List.map_map]
  rfl
theorem rg_good {a n : Int} (h0 : -1 ≤ a) (h1 : a ≤ 0) (hn : 0 < n) (hm : n ≤ 46) : OptG n ((List.range (n - a).toNat).map fun i : Nat => a + (i : Int)) := by
  refine ⟨fun e => ?_, ?_, fun s hs => ?_, ?_⟩
  · have h := congrArg List.length e
    rw [List.length_map, List.length_range, List.length_nil] at h
    omega
  · rw [List.length_map, List.length_range]
    omega
  · obtain ⟨i, hi, rfl⟩ := List.mem_map.mp hs
    have := List.mem_range.mp hi
    omega
  · rw [List.pairwise_map]
    exact List.pairwise_lt_range.imp fun {a b} h => by omega
section
variable {P : Program} {w : World} {K : PySem.W.Frag} {mg : Str → Option Value} {base : Heap}
/-! ### _law_option -/
def spOption : Sp := fun vs H Q _ => ∃ (d : Addr) (n k sh : Int), vs = [.ref d, .int n, .int k, .int sh] ∧ Dr H d ∧ 0 ≤ k ∧ k < n ∧ n ≤ 45 ∧ ∀ p o H', Go d H H' → H p = none → H' p = some (.tup (o.map V.int)) → OptG n o → Q (.ref p) H'
theorem ok_law_option (T : Txt K mg) : FnOk P w K mg base CX0 2 T.a_law_option T.d_law_option P_law_option spOption := by
  have G_law_take := ok_law_take (P := P) (w := w) (base := base) T
  refine T.F_law_option.ok sc_law_option (fun vs H Q E h => ?_) (fun cdv A outer s H vs Q E hr h => ?_)
  · obtain ⟨d, n, k, sh, rfl, _⟩ := h
    rfl
  obtain ⟨d, n, k, sh, rfl, hD, k0, k1, n45, q⟩ := h
  have hn0 : 0 < n := by omega
  refine ⟨_, (pss_cons (ps_set (i := 4) sc_law_option.nd rfl (Or.inl rfl) (pe_lst pa_nil))
    (pss_cons (ps_for  PassesOwn.never rfl (pi_range1 (by rfl) T.z_range (pa_cons (pe_op op_add pe_int (pe_ix ix_list (pe_lst (pa_cons pe_int (pa_cons pe_int (pa_cons pe_int (pa_cons pe_int (pa_cons pe_int (pa_cons pe_int pa_nil))))))) (pe_call G_law_take (hr.mono (by omega)) (by rfl) T.m_law_take T.F_law_take.kp T.b_law_take .nil pass0 (pa_cons (pv 0) (pa_cons pe_int pa_nil))) (fun _ _ => rfl))) pa_nil)) (pg_name (i := 5) sc_law_option.nd rfl (Or.inl rfl))
    (pss_cons (ps_set (i := 6) sc_law_option.nd rfl (Or.inl rfl) (pe_call G_law_take (hr.mono (by omega)) (by rfl) T.m_law_take T.F_law_take.kp T.b_law_take .nil pass0 (pa_cons (pv 0) (pa_cons (pv 1) pa_nil))))
    (C8.pss_cut (ps_if (pt_cmpR op_eq (pv 3) pe_int (nomark _))
    (pss_one (ps_set (i := 6) sc_law_option.nd rfl (Or.inl rfl) (pe_op op_mod (pe_callTy call_int1 (by rfl) T.z_int (by decide +kernel) (pa_cons (pe_op op_add (pe_op op_add (pv 2) pe_int) (pe_op op_fdiv (pv 6) pe_int)) pa_nil)) (pv 1))))
    pss_nil)
    (C8.pss_cut (ps_if (pt_cmpR op_eq (pv 3) pe_int (nomark _))
    (pss_one (ps_set (i := 6) sc_law_option.nd rfl (Or.inl rfl) (pe_callB (call_max2 rfl) (by rfl) T.z_max (by decide +kernel) (pa_cons pe_int (pa_cons (pe_op op_sub (pv 2) (pe_op op_mod (pe_callTy call_int1 (by rfl) T.z_int (by decide +kernel) (pa_cons (pv 6) pa_nil)) pe_int)) pa_nil)))))
    pss_nil)
    (C8.pss_cut (ps_if (PW.pt (pw_and (pt_cmpR op_ne (pv 3) pe_int (nomark _)) (pw_and1 (pt_cmpR op_eq (pe_call G_law_take (hr.mono (by omega)) (by rfl) T.m_law_take T.F_law_take.kp T.b_law_take .nil pass0 (pa_cons (pv 0) (pa_cons pe_int pa_nil))) pe_int (nomark _)))))
    (pss_one (ps_set (i := 6) sc_law_option.nd rfl (Or.inl rfl) (pe_un un_neg pe_int)))
    pss_nil)
    (pss_one (ps_if (pt_cmpR op_notIn_seq (pv 6) (pv 4) (by rfl))
    (pss_one (ps_expr (pe_bm PySem.F.plainAttrs_list PySem.F.slot_list_append PySem.F.type_list_append mt_append (pv 4) (pa_cons (pv 6) pa_nil))))
    pss_nil)))))))
    (pss_one (ps_ret (pe_callTy call_tuple_of (by rfl) T.z_tuple (by decide +kernel) (pa_cons (pe_callB (cr_sorted) (by rfl) T.z_sorted (by decide +kernel) (pa_cons (pv 4) pa_nil)) pa_nil)))))), ?_⟩
  refine ⟨Nat.zero_le _, fun fl hfl => ?_⟩
  have nfl := new_ne hD hfl
  obtain ⟨H1, e1, s1, c1⟩ := newH hfl (.lst [])
  rw [e1]
  refine ⟨Nat.le_of_ble_eq_true rfl, fun l5 hl5 => ?_⟩
  obtain ⟨H2, e2, s2, c2⟩ := newH hl5 (.lst [.int 0, .int 0, .int 1, .int 1, .int 2, .int 3])
  rw [e2]
  have ga := Go.same hD s1
  have gb := ga.trans (.same ga.dr s2)
  refine ⟨_, rfl, d, 6, rfl, gb.dr, by decide, fun u H3 g3 u0 u1 => ?_⟩
  obtain ⟨mf, hmf, hmfm⟩ := atI_map (f := V.int) (xs := ([0, 0, 1, 1, 2, 3] : List Int)) u0 u1
  have hmf3 : 0 ≤ mf ∧ mf ≤ 3 := by
    simp only [List.mem_cons, List.not_mem_nil, or_false] at hmfm
    omega
  refine ⟨l5, _, _, _, rfl, rfl, sqd (g3.fr l5 _ (new_ne ga.dr hl5) c2), hmf, _, _, rfl, rfl, 1 + mf, rfl, by omega, by omega, ?_⟩
  have gc := gb.trans g3
  have ef := g3.fr fl _ nfl (s2 _ _ c1)
  refine for_range (lo := 0) (n := (1 + mf).toNat) (fun (i : Nat) (σ : L2.St) (H' : Hp) => ∃ (fs : List Int) (y5 y6 : Option V), σ = [some (.ref d), some (.int n), some (.int k), some (.int sh), some (.ref fl), y5, y6] ∧ Go d H H' ∧ H' fl = some (.lst (fs.map V.int)) ∧ fs.Nodup ∧ fs.length ≤ i ∧ (∀ s ∈ fs, -1 ≤ s ∧ s < n) ∧ (0 < i → fs ≠ [])) ?_ ?_ ?_
  · exact ⟨[], none, none, rfl, gc, ef, List.nodup_nil, Nat.zero_le _, fun s h => (nomatch h), fun h => absurd h (by omega)⟩
  · rintro t σ H4 ht ⟨fs, y5, y6, rfl, g4, e4, hnd, hlen, hmem, hne⟩
    generalize hk3 : (0 : Int) + (t : Int) = k3
    refine ⟨_, rfl, _, rfl, d, n, rfl, g4.dr, hn0, fun x H5 g5 x0 x1 => ?_⟩
    have e5 := g5.fr fl _ nfl e4
    have g45 := g4.trans g5
    refine ⟨fun σ H' => ∃ x : Int, σ = [some (.ref d), some (.int n), some (.int k), some (.int sh), some (.ref fl), some (.int k3), some (.int x)] ∧ H' = H5 ∧ -1 ≤ x ∧ x < n, ?_, ?_⟩
    · refine ⟨_, rfl, rfl, _, rfl, ?_⟩
      refine ite2 (fun z => ?_) (fun z => ⟨x, rfl, rfl, by omega, x1⟩)
      refine ⟨_, rfl, _, _, rfl, rfl, _, rfl, _, _, rfl, rfl, ⟨by decide, by decide⟩, _, _, rfl, rfl, .inl ⟨_, rfl, _, rfl, _, _, rfl, rfl, hn0, ?_⟩⟩
      exact ⟨_, rfl, rfl, by have := Int.emod_nonneg (k + 1 + x / 3) (show n ≠ 0 by omega); omega, Int.emod_lt_of_pos _ hn0⟩
    rintro σ H6 ⟨x, rfl, rfl, x0, x1⟩
    refine ⟨fun σ H' => ∃ x : Int, σ = [some (.ref d), some (.int n), some (.int k), some (.int sh), some (.ref fl), some (.int k3), some (.int x)] ∧ H' = H6 ∧ -1 ≤ x ∧ x < n, ?_, ?_⟩
    · refine ⟨_, rfl, rfl, _, rfl, ?_⟩
      refine ite2 (fun z => ?_) (fun z => ⟨x, rfl, rfl, x0, x1⟩)
      refine ⟨_, rfl, _, rfl, .inl ⟨_, rfl, _, _, rfl, rfl, (by show (0 : Int) < 3; decide), _, _, rfl, rfl, _, _, rfl, ?_⟩⟩
      have m0 := Int.emod_nonneg x (show (3 : Int) ≠ 0 by decide)
      refine ⟨_, rfl, rfl, ?_, ?_⟩
      · show (-1 : Int) ≤ (if k - x % 3 > 0 then k - x % 3 else 0)
        split <;> omega
      · show (if k - x % 3 > 0 then k - x % 3 else 0) < n
        split <;> omega
    rintro σ H7 ⟨x, rfl, rfl, x0, x1⟩
    refine ⟨fun σ H' => ∃ x : Int, σ = [some (.ref d), some (.int n), some (.int k), some (.int sh), some (.ref fl), some (.int k3), some (.int x)] ∧ Go d H7 H' ∧ -1 ≤ x ∧ x < n, ?_, ?_⟩
    · refine ⟨_, rfl, rfl, _, rfl, ?_⟩
      refine ite2 (fun z => ?_) (fun z => iteF ⟨x, rfl, .refl g45.dr, x0, x1⟩)
      refine ⟨_, rfl, d, 14, rfl, g45.dr, by decide, fun y H8 g8 _ _ => ⟨rfl, _, rfl, ?_⟩⟩
      refine ite2 (fun z => ⟨_, rfl, -1, rfl, g8, by omega, by omega⟩) (fun z => ⟨x, rfl, g8, x0, x1⟩)
    rintro σ H8 ⟨x, rfl, g8, x0, x1⟩
    have e8 := g8.fr fl _ nfl e5
    have g48 := g45.trans g8
    refine ⟨_, rfl, _, rfl, fl, _, rfl, .inl (sqd e8), rfl, flat_ints' fs, _, rfl, ?_⟩
    by_cases hin : x ∈ fs
    · refine ifF (by rw [notIn_int, decide_eq_true hin] <;> rfl) ?_
      exact ⟨fs, _, _, rfl, g48, e8, hnd, by omega, hmem, fun _ e => by rw [e] at hin; cases hin⟩
    · refine ifT (by rw [notIn_int, decide_eq_false hin] <;> rfl) ?_
      refine ⟨_, rfl, .inl ⟨rfl, _, sqd e8⟩, _, rfl, fl, _, _, rfl, rfl, e8, big' (by rw [List.length_map]; omega), ?_⟩
      refine ⟨fs ++ [x], _, _, rfl, g48.put2 hfl nfl, by rw [upd_same, List.map_append]; rfl, ?_, ?_, ?_, fun _ => by simp⟩
      · exact List.nodup_append.mpr ⟨hnd, by simp, fun a ha b hb e => hin (by rw [← List.mem_singleton.mp hb, ← e]; exact ha)⟩
      · rw [List.length_append]
        exact Nat.add_le_add_right hlen 1
      · intro s hs
        rcases List.mem_append.mp hs with hs | hs
        · exact hmem s hs
        · rw [List.mem_singleton.mp hs]
          exact ⟨x0, x1⟩
  · rintro σ H4 ⟨fs, y5, y6, rfl, g4, e4, hnd, hlen, hmem, hne⟩
    have hfl64 : fs.length ≤ 4 := by omega
    refine ⟨_, rfl, fl, fs, rfl, sqd e4, by omega, fun ns q1 hperm hpw hq1 => ?_⟩
    obtain ⟨Hd, ed, sd, kd⟩ := newH hq1 (.lst (ns.map V.int))
    rw [ed]
    refine ⟨q1, _, rfl, .inl ⟨sqd kd, fun t2 ht2 => ?_⟩⟩
    have gd := g4.trans (.same g4.dr sd)
    refine q t2 ns _ (gd.trans (Go.new gd.dr ht2)) (gd.free ht2) upd_same ⟨fun e => ?_, by have := hperm.length_eq; omega, fun s hs => hmem s (hperm.mem_iff.mp hs), asc_of hperm hnd hpw⟩
    rw [e] at hperm
    exact hne (by omega) hperm.symm.eq_nil
/-! ### _law_arena -/
def spArena : Sp := fun vs H Q _ => ∃ (d : Addr) (most : Int), vs = [.ref d, .int most] ∧ Dr H d ∧ 0 ≤ most ∧ most ≤ 45 ∧ ∀ v A H', Go d H H' → ArIn H' A v → ArG A → (A.length : Int) ≤ most → Q v H'
theorem ok_law_arena (T : Txt K mg) : FnOk P w K mg base CX0 3 T.a_law_arena T.d_law_arena P_law_arena spArena := by
  have G_law_take := ok_law_take (P := P) (w := w) (base := base) T
  have G_law_option := ok_law_option (P := P) (w := w) (base := base) T
  refine T.F_law_arena.ok sc_law_arena (fun vs H Q E h => ?_) (fun cdv A outer s H vs Q E hr h => ?_)
  · obtain ⟨d, most, rfl, _⟩ := h
    rfl
  obtain ⟨d, most, rfl, hD, m0, m1, q⟩ := h
  refine ⟨_, (pss_cons (ps_set (i := 2) sc_law_arena.nd rfl (Or.inr rfl) (pe_call G_law_take (hr.mono (by omega)) (by rfl) T.m_law_take T.F_law_take.kp T.b_law_take .nil pass0 (pa_cons (pv 0) (pa_cons (pe_op op_add (pv 1) pe_int) pa_nil))))
    (pss_cons (ps_set (i := 3) sc_law_arena.nd rfl (Or.inr rfl) (pe_call G_law_take (hr.mono (by omega)) (by rfl) T.m_law_take T.F_law_take.kp T.b_law_take .nil pass0 (pa_cons (pv 0) (pa_cons pe_int pa_nil))))
    (pss_cons (ps_set (i := 4) sc_law_arena.nd rfl (Or.inl rfl) (pe_lst pa_nil))
    (pss_cons (ps_for  PassesOwn.never rfl (pi_range1 (by rfl) T.z_range (pa_cons (pv 2) pa_nil)) (pg_name (i := 5) sc_law_arena.nd rfl (Or.inr rfl))
    (pss_cons (ps_set (i := 6) sc_law_arena.nd rfl (Or.inl rfl) (pe_ix ix_list (pe_lst (pa_cons pe_int (pa_cons pe_int (pa_cons pe_int (pa_cons pe_int (pa_cons pe_int (pa_cons pe_int pa_nil))))))) (pe_call G_law_take (hr.mono (by omega)) (by rfl) T.m_law_take T.F_law_take.kp T.b_law_take .nil pass0 (pa_cons (pv 0) (pa_cons pe_int pa_nil))) (fun _ _ => rfl)))
    (C8.pss_cut (ps_if (pt_cmpR op_gt (pv 3) pe_int (nomark _))
    (pss_one (ps_set (i := 6) sc_law_arena.nd rfl (Or.inl rfl) (pe_callB (call_max2 rfl) (by rfl) T.z_max (by decide +kernel) (pa_cons pe_int (pa_cons (pv 6) pa_nil)))))
    pss_nil)
    (pss_one (ps_expr (pe_bm PySem.F.plainAttrs_list PySem.F.slot_list_append PySem.F.type_list_append mt_append (pv 4) (pa_cons (pe_callTy call_tuple_of (by rfl) T.z_tuple (by decide +kernel) (pa_cons (pe_lc (own := [("j", 7)]) (g := (gName 7)) (tt := tYes) rfl sc_law_arena.nd (pi_range1 (by rfl) T.z_range (pa_cons (pv 6) pa_nil)) (blkOk_by (N := N_law_arena) (sc := defScope s_law_arena) (by decide +kernel)) (fun _ _ _ _ _ => (pg_name (i := 7) sc_law_arena.nd rfl (Or.inl rfl))) (fun _ _ _ _ _ => pts_nil) (fun _ _ _ _ _ => (pe_call G_law_option (hr.mono (by omega)) (by rfl) T.m_law_option T.F_law_option.kp T.b_law_option .nil pass0 (pa_cons (pv 0) (pa_cons (pv 2) (pa_cons (pv 5) (pa_cons (pv 3) pa_nil))))))) pa_nil)) pa_nil)))))))
    (C8.pss_cut (ps_if (PW.pt (pw_and (pt_cmpR op_gt (pv 2) pe_int (nomark _)) (pw_and1 (pt_cmpR op_eq (pe_call G_law_take (hr.mono (by omega)) (by rfl) T.m_law_take T.F_law_take.kp T.b_law_take .nil pass0 (pa_cons (pv 0) (pa_cons pe_int pa_nil))) pe_int (nomark _)))))
    (pss_cons (ps_set (i := 8) sc_law_arena.nd rfl (Or.inr rfl) (pe_call G_law_take (hr.mono (by omega)) (by rfl) T.m_law_take T.F_law_take.kp T.b_law_take .nil pass0 (pa_cons (pv 0) (pa_cons (pv 2) pa_nil))))
    (pss_cons (ps_setLc (i := 9) (own := [("j", 7)]) (g := (gName 7)) (tt := tYes) rfl sc_law_arena.nd rfl rfl (sw_true rfl rfl rfl (by decide +kernel)) (pi_range1 (by rfl) T.z_range (pa_cons (pe_op op_add pe_int (pe_call G_law_take (hr.mono (by omega)) (by rfl) T.m_law_take T.F_law_take.kp T.b_law_take .nil pass0 (pa_cons (pv 0) (pa_cons pe_int pa_nil)))) pa_nil)) (blkOk_by (N := N_law_arena) (sc := defScope s_law_arena) (by decide +kernel)) (fun _ _ _ _ _ => (pg_name (i := 7) sc_law_arena.nd rfl (Or.inl rfl))) (fun _ _ _ _ _ => pts_nil) (fun _ _ _ _ _ => (pe_call G_law_option (hr.mono (by omega)) (by rfl) T.m_law_option T.F_law_option.kp T.b_law_option .nil pass0 (pa_cons (pv 0) (pa_cons (pv 2) (pa_cons (pv 8) (pa_cons (pv 3) pa_nil)))))))
    (pss_cons (ps_set (i := 10) sc_law_arena.nd rfl (Or.inl rfl) (pe_tupRg rfl (by rfl) T.z_tuple (prg_2 (by rfl) T.z_range (pe_op op_mul (pe_un un_neg (pe_call G_law_take (hr.mono (by omega)) (by rfl) T.m_law_take T.F_law_take.kp T.b_law_take .nil pass0 (pa_cons (pv 0) (pa_cons pe_int pa_nil)))) (pe_callTy call_int1 (by rfl) T.z_int (by decide +kernel) (pa_cons (pe_cmpR op_ne (pv 3) pe_int (nomark _)) pa_nil))) (pv 2))))
    (pss_one (ps_asg (pe_op op_catA (pe_op op_catA (pe_ix ix_list (pv 4) (pv 8) (fun _ _ => rfl)) (pe_callTy call_tuple_of (by rfl) T.z_tuple (by decide +kernel) (pa_cons (pv 9) pa_nil))) (pe_tup (pa_cons (pv 10) pa_nil))) (pg_sub (pv 4) (pv 8) set_list))))))
    pss_nil)
    (pss_one (ps_ret (pe_callTy call_tuple_of (by rfl) T.z_tuple (by decide +kernel) (pa_cons (pv 4) pa_nil))))))))), ?_⟩
  refine ⟨_, rfl, _, rfl, _, _, rfl, rfl, d, _, rfl, hD, by omega, fun n H1 g1 n0 n1 => ?_⟩
  have n45 : n ≤ 45 := by
    have : n < most + 1 := n1
    omega
  refine ⟨_, rfl, d, 5, rfl, g1.dr, by decide, fun sh H2 g2 _ _ => ?_⟩
  have g12 := g1.trans g2
  refine ⟨Nat.zero_le _, fun p hp => ?_⟩
  have hpd := new_ne g12.dr hp
  have hp0 := g12.free hp
  obtain ⟨H3, e3, s3, k3⟩ := newH hp (.lst [])
  rw [e3]
  have g13 := g12.trans (.same g12.dr s3)
  refine ⟨_, rfl, n, rfl, by omega, by omega, for_range (lo := 0) (n := n.toNat) (fun (j : Nat) (σ : L2.St) (H' : Hp) => ∃ (xs : List V) (A' : Ar) (y5 y6 : Option V), σ = [some (.ref d), some (.int most), some (.int n), some (.int sh), some (.ref p), y5, y6, none, none, none, none] ∧ Go d H H' ∧ H' p = some (.lst xs) ∧ Each (PosIn H') A' xs ∧ A'.length = j ∧ ∀ os ∈ A', os.length ≤ 3 ∧ PosG n os) ?_ ?_ ?_⟩
  · exact ⟨[], [], none, none, rfl, g13, k3, .nil, rfl, fun os h => nomatch h⟩
  · rintro j σ H4 hj ⟨xs, A', y5, y6, rfl, g4, e4, hxs, hA, hG⟩
    have hn0 : 0 < n := by omega
    have hk1 : (0 : Int) + (j : Int) < n := by omega
    have hk0 : (0 : Int) ≤ 0 + (j : Int) := by omega
    generalize hk : (0 : Int) + (j : Int) = k at hk0 hk1 ⊢
    refine ⟨Nat.le_of_ble_eq_true rfl, fun l5 hl5 => ?_⟩
    obtain ⟨H5, e5, s5, k5⟩ := newH hl5 (.lst [.int 0, .int 1, .int 1, .int 2, .int 2, .int 3])
    rw [e5]
    have ga := Go.same g4.dr s5
    refine ⟨_, rfl, d, 6, rfl, ga.dr, by decide, fun u H6 g6 u0 u1 => ?_⟩
    obtain ⟨mf, hmf, hmfm⟩ := atI_map (f := V.int) (xs := ([0, 1, 1, 2, 2, 3] : List Int)) u0 u1
    have hmf3 : 0 ≤ mf ∧ mf ≤ 3 := by
      simp only [List.mem_cons, List.not_mem_nil, or_false] at hmfm
      omega
    refine ⟨l5, _, _, _, rfl, rfl, sqd (g6.fr l5 _ (new_ne g4.dr hl5) k5), hmf, ?_⟩
    have g46 := ga.trans g6
    have e6 := g46.fr p _ hpd e4
    refine ⟨fun σ H' => ∃ m : Int, σ = [some (.ref d), some (.int most), some (.int n), some (.int sh), some (.ref p), some (.int k), some (.int m), none, none, none, none] ∧ H' = H6 ∧ 0 ≤ m ∧ m ≤ 3, ?_, ?_⟩
    · refine ⟨_, rfl, _, _, rfl, rfl, _, rfl, ?_⟩
      refine ite2 (fun z => ?_) (fun z => ⟨mf, rfl, rfl, hmf3.1, hmf3.2⟩)
      refine ⟨_, rfl, _, _, rfl, ?_⟩
      refine ⟨_, rfl, rfl, ?_, ?_⟩
      · show (0 : Int) ≤ (if mf > 1 then mf else 1)
        split <;> omega
      · show (if mf > 1 then mf else 1) ≤ (3 : Int)
        split <;> omega
    rintro σ H7 ⟨m, rfl, rfl, m0', m3⟩
    refine ⟨_, rfl, .inl ⟨rfl, _, sqd e6⟩, _, rfl, m, rfl, by omega, by omega, fun D hD' => ?_⟩
    have nDd := new_ne g46.dr hD'
    have s7 := same_new hD' (.lst [])
    refine lc_range (lo := 0) (n := m.toNat) (fun (i : Nat) (H' : Hp) => ∃ (zs : List V) (os : Pos'), Go d H7 H' ∧ H' D = some (.lst zs) ∧ Each (OptIn H') os zs ∧ os.length = i ∧ ∀ o ∈ os, OptG n o) ?_ ?_ ?_
    · exact ⟨[], [], .same g46.dr s7, upd_same, .nil, rfl, fun o h => nomatch h⟩
    · rintro i H' hi ⟨zs, os, gj, ej, hzs, hos, hoG⟩
      refine ⟨rfl, yes_if ?_⟩
      refine ⟨_, rfl, _, rfl, _, rfl, _, rfl, d, n, k, sh, rfl, gj.dr, hk0, hk1, n45, fun t o H8 g8 ht et og => ?_⟩
      have ej8 := g8.fr D _ nDd ej
      have ntD : t ≠ D := fun e => by
        rw [e, ej] at ht
        cases ht
      refine ⟨zs, ej8, big' (by have := hzs.1; omega), zs ++ [.ref t], os ++ [o], (gj.trans g8).put2 hD' nDd, upd_same, ?_, by rw [List.length_append, hos]; rfl, ?_⟩
      · refine (hzs.mono fun o x => OptIn.tp (tp_put (g8.tp gj.dr) ej8)).snoc ⟨t, rfl, ?_⟩
        rw [upd_ne ntD]
        exact et
      · intro o' ho'
        rcases List.mem_append.mp ho' with ho' | ho'
        · exact hoG o' ho'
        · rw [List.mem_singleton.mp ho']
          exact og
    · rintro H8 ⟨zs, os, gj, ej, hzs, hos, hoG⟩
      refine ⟨D, _, rfl, .inl ⟨sqd ej, fun t ht => ?_⟩⟩
      have st := same_new ht (.tup zs)
      have ejp := gj.fr p _ hpd e6
      have ept := st _ _ ejp
      have hxl := hxs.1
      have ntp : t ≠ p := fun e => by
        rw [e, ejp] at ht
        cases ht
      refine ⟨p, xs, _, rfl, rfl, ept, big' (by omega), ?_⟩
      have gall := (g4.trans g46).trans gj
      have tpx : Tp H4 (upd (upd H8 t (.tup zs)) p (.lst (xs ++ [.ref t]))) := tp_put (((g46.trans gj).tp g4.dr).trans (Tp.same st)) ept
      refine ⟨xs ++ [.ref t], A' ++ [os], _, _, rfl, (gall.trans (.same gall.dr st)).put2 hp0 hpd, upd_same, ?_, by rw [List.length_append, hA]; rfl, ?_⟩
      · refine (hxs.mono fun o x => PosIn.tp tpx).snoc ⟨t, zs, rfl, ?_, hzs.mono fun o x => OptIn.tp (tp_put (Tp.same st) ept)⟩
        rw [upd_ne ntp]
        exact upd_same
      · intro o ho
        rcases List.mem_append.mp ho with ho | ho
        · exact hG o ho
        · rw [List.mem_singleton.mp ho]
          exact ⟨by omega, by omega, hoG⟩
  · rintro σ H4 ⟨xs, A', y5, y6, rfl, g4, e4, hxs, hA, hG⟩
    refine ⟨fun σ H' => ∃ (xs : List V) (A' : Ar) (y5 y6 y8 y9 y10 : Option V), σ = [some (.ref d), some (.int most), some (.int n), some (.int sh), some (.ref p), y5, y6, none, y8, y9, y10] ∧ Go d H H' ∧ H' p = some (.lst xs) ∧ Each (PosIn H') A' xs ∧ A'.length = n.toNat ∧ ∀ os ∈ A', PosG n os, ?_, ?_⟩
    · refine ⟨_, rfl, _, _, rfl, rfl, _, rfl, ?_⟩
      refine ite2 (fun z => ?_) (fun z => iteF ⟨xs, A', _, _, _, _, _, rfl, g4, e4, hxs, hA, fun os h => (hG os h).2⟩)
      have hn0 : 0 < n := of_decide_eq_true z
      refine ⟨_, rfl, d, 8, rfl, g4.dr, by decide, fun u5 H9 g9 _ _ => ⟨rfl, _, rfl, ?_⟩⟩
      have e9 := g9.fr p _ hpd e4
      have hxs9 := hxs.mono fun o x => PosIn.tp (g9.tp g4.dr)
      have gg := g4.trans g9
      refine ite2 (fun z => ?_) (fun z => ⟨xs, A', _, _, _, _, _, rfl, gg, e9, hxs9, hA, fun os h => (hG os h).2⟩)
      refine ⟨_, rfl, _, rfl, d, n, rfl, g9.dr, hn0, fun at_ H10 g10 t0 t1 => ?_⟩
      refine ⟨_, rfl, d, 4, rfl, g10.dr, by decide, fun u H11 g11 u0 u1 => ⟨_, _, rfl, rfl, _, rfl, by omega, by omega, fun D hD' => ?_⟩⟩
      have nDd := new_ne g11.dr hD'
      have s11 := same_new hD' (.lst [])
      have g911 := g10.trans g11
      refine lc_range (lo := 0) (n := (4 + u).toNat) (fun (i : Nat) (H' : Hp) => ∃ (zs : List V) (os : Pos'), Go d H11 H' ∧ H' D = some (.lst zs) ∧ Each (OptIn H') os zs ∧ os.length = i ∧ ∀ o ∈ os, OptG n o) ?_ ?_ ?_
      · exact ⟨[], [], .same g11.dr s11, upd_same, .nil, rfl, fun o h => nomatch h⟩
      · rintro i H' hi ⟨zs, os, gj, ej, hzs, hos, hoG⟩
        refine ⟨rfl, yes_if ?_⟩
        refine ⟨_, rfl, _, rfl, _, rfl, _, rfl, d, n, at_, sh, rfl, gj.dr, t0, t1, n45, fun t o H8 g8 ht et og => ?_⟩
        have ej8 := g8.fr D _ nDd ej
        have ntD : t ≠ D := fun e => by
          rw [e, ej] at ht
          cases ht
        refine ⟨zs, ej8, big' (by have := hzs.1; omega), zs ++ [.ref t], os ++ [o], (gj.trans g8).put2 hD' nDd, upd_same, ?_, by rw [List.length_append, hos]; rfl, ?_⟩
        · refine (hzs.mono fun o x => OptIn.tp (tp_put (g8.tp gj.dr) ej8)).snoc ⟨t, rfl, ?_⟩
          rw [upd_ne ntD]
          exact et
        · intro o' ho'
          rcases List.mem_append.mp ho' with ho' | ho'
          · exact hoG o' ho'
          · rw [List.mem_singleton.mp ho']
            exact og
      · rintro H12 ⟨zs, os, gj, ej, hzs, hos, hoG⟩
        refine ⟨_, rfl, d, 2, rfl, gj.dr, by decide, fun v H13 g13' v0 v1 => ⟨_, rfl, _, rfl, rfl, .inr ⟨_, rfl, _, _, rfl, rfl, .inl ⟨by omega, by omega⟩, _, rfl, _, _, rfl, rfl, ?_⟩⟩⟩
        have low : -1 ≤ -v * (if (!decide (V.int sh = V.int 3)) = true then (1 : Int) else 0) ∧ -v * (if (!decide (V.int sh = V.int 3)) = true then (1 : Int) else 0) ≤ 0 := by
          split <;> omega
        generalize hlo : -v * (if (!decide (V.int sh = V.int 3)) = true then (1 : Int) else 0) = lo at low
        have hgoal : RgOk lo n := ⟨by omega, by omega, by omega, by omega, by omega⟩
        have og1 := rg_good low.1 low.2 hn0 (by omega)
        have er := rg_ints lo n
        generalize (List.range (n - lo).toNat).map (fun i : Nat => lo + (i : Int)) = o1 at og1 er
        refine ⟨hgoal, fun q1 hq1 => ?_⟩
        rw [er]
        obtain ⟨Ha, ea, sa, ka⟩ := newH hq1 (.tup (o1.map V.int))
        rw [ea]
        have gx := gj.trans g13'
        have g9a : Go d H9 Ha := (g911.trans gx).trans (.same gx.dr sa)
        have eap := g9a.fr p _ hpd e9
        have hxa := hxs9.mono fun o x => PosIn.tp (g9a.tp g9.dr)
        obtain ⟨os0, x0, hos0, hat, hin⟩ := hxa.atI t0 (by rw [hA]; omega)
        obtain ⟨b0, zs0, rfl, eb0, hzs0⟩ := hin
        have hG0 := hG os0 (List.mem_of_getElem? hos0)
        have eDa := sa _ _ (g13'.fr D _ nDd ej)
        have hza := hzs.mono fun o x => OptIn.tp ((g13'.tp gj.dr).trans (Tp.same sa))
        refine ⟨_, rfl, _, rfl, p, _, _, _, rfl, rfl, sqd eap, hat, _, rfl, D, _, rfl, .inl ⟨sqd eDa, fun t2 ht2 => ?_⟩⟩
        obtain ⟨He, ee, se, ke⟩ := newH ht2 (.tup zs)
        rw [ee]
        have l0 := hzs0.1
        have l1 := hzs.1
        refine catA_of (se _ _ eb0) ke (by have := hG0.1; omega) fun pc Hf sf ef => ?_
        refine ⟨_, rfl, Nat.le_of_ble_eq_true rfl, fun t3 ht3 => ?_⟩
        obtain ⟨Hg, eg, sg, kg⟩ := newH ht3 (.tup [.ref q1])
        rw [eg]
        refine catA_of (sg _ _ ef) kg (by rw [List.length_append, List.length_singleton]; have := hG0.1; omega) fun ps Hh sh' eh => ?_
        have sea := ((se.trans sf).trans sg).trans sh'
        have ehp := sea _ _ eap
        have nps : ps ≠ p := fun e => by
          rw [e, ehp] at eh
          cases eh
        refine ⟨_, rfl, _, rfl, p, _, _, _, rfl, rfl, ehp, ixN_in t0 (by rw [hxa.1, hA]; omega), ?_⟩
        have tpp : Tp Ha (upd Hh p (.lst (xs.set at_.toNat (.ref ps)))) := tp_put (Tp.same sea) ehp
        have hgg := gg.trans (g9a.trans (.same g9a.dr sea))
        refine ⟨xs.set at_.toNat (.ref ps), A'.set at_.toNat (os0 ++ os ++ [o1]), _, _, _, _, _, rfl, hgg.put2 hp0 hpd, upd_same, ?_, by rw [List.length_set]; exact hA, ?_⟩
        · refine (hxa.mono fun o x => PosIn.tp tpp).set _ ⟨ps, zs0 ++ zs ++ [.ref q1], rfl, ?_, ?_⟩
          · rw [upd_ne nps]
            exact eh
          · exact ((hzs0.app hza).snoc ⟨q1, rfl, ka⟩).mono fun o x => OptIn.tp tpp
        · intro o ho
          rcases List.mem_or_eq_of_mem_set ho with ho | rfl
          · exact (hG o ho).2
          · refine ⟨by rw [List.length_append, List.length_append, List.length_singleton]; have := hG0.1; omega, fun w hw => ?_⟩
            rcases List.mem_append.mp hw with hw | hw
            · rcases List.mem_append.mp hw with hw | hw
              · exact hG0.2.2 w hw
              · exact hoG w hw
            · rw [List.mem_singleton.mp hw]
              exact og1
    rintro σ H8 ⟨xs, A', y5, y6, y8, y9, y10, rfl, g8, e8, hxs, hA, hG⟩
    refine ⟨_, rfl, p, xs, rfl, .inl ⟨sqd e8, fun t ht => ?_⟩⟩
    have st := same_new ht (.tup xs)
    refine q _ A' _ (g8.trans (.same g8.dr st)) ⟨t, xs, rfl, upd_same, hxs.mono fun os x => PosIn.tp (.same st)⟩ ⟨by omega, fun os h => ?_⟩ (by have := of_decide_eq_true (decide_eq_true hA); omega)
    rw [show (A'.length : Int) = n by omega]
    exact hG os h
end
end NL

namespace NL
open PySem PySem.Spec PyProof.Rows L2
/-! ### a text times a number -/
theorem op_mulS {X : Cx} : OpR X (binaryOp .Mult) (fun x y H Q => ∃ (z : Str) (k : Int), x = .str z ∧ y = .int k ∧ z.length ≤ 16 ∧ 0 ≤ k ∧ k ≤ 1000 ∧ ((Txt.mul z k).length = z.length * k.toNat → Q (.str (Txt.mul z k)) H)) := by
  intro pins s σ H x y v u Q I rx ry h
  obtain ⟨z, k, rfl, rfl, hz, h0, h1, q⟩ := h
  obtain ⟨t, rfl⟩ := rx
  obtain ⟨t', rfl⟩ := ry
  refine PySem.W.KXi.mul rfl hz (by omega) (by omega) fun t' tk _ hl => ⟨.str (Txt.mul z k), H, I.tok _, ⟨_, rfl⟩, q ?_⟩
  have e := hl h0
  have e2 : k = ((k.toNat : Nat) : Int) := by omega
  rw [e2] at e
  have : ((z.length : Int) * ((k.toNat : Nat) : Int)) = ((z.length * k.toNat : Nat) : Int) := by push_cast; rfl
  rw [this] at e
  have e3 := Int.ofNat.inj e
  rw [← e2] at e3
  exact e3
def abc : Str := "abcdefghijklmnopqrstuvwxyz"
theorem abc_at {i : Int} (h0 : 0 ≤ i) (h1 : i < 26) : ∃ c, atI abc.cps.toList i = some c ∧ 97 ≤ c ∧ c ≤ 122 := by
  have hl : abc.cps.toList.length = 26 := by decide +kernel
  obtain ⟨c, h, m⟩ := atI_mem (xs := abc.cps.toList) h0 (by rw [hl]; exact h1)
  have hall : ∀ c ∈ abc.cps.toList, 97 ≤ c ∧ c ≤ 122 := by decide +kernel
  exact ⟨c, h, hall c m⟩
section
variable {P : Program} {w : World} {K : PySem.W.Frag} {mg : Str → Option Value} {base : Heap}
/-! ### _law_cell -/
def spCell (K : PySem.W.Frag) : Sp := fun vs H Q _ => ∃ (a d : Addr) (ns : List Int), vs = [.ref a, .ref d] ∧ Keep K d H a (ns.map V.int) ∧ Dr H d ∧ ∀ r H', Go d H H' → (r = 0 ∨ r ∈ ns) → Q (.int r) H'
theorem ok_law_cell (T : Txt K mg) : FnOk P w K mg base CX0 2 T.a_law_cell T.d_law_cell P_law_cell (spCell K) := by
  have G_law_take := ok_law_take (P := P) (w := w) (base := base) T
  refine T.F_law_cell.ok sc_law_cell (fun vs H Q E h => ?_) (fun cdv A outer s H vs Q E hr h => ?_)
  · obtain ⟨a, d, ns, rfl, _⟩ := h
    rfl
  obtain ⟨a, d, ns, rfl, hk, hD, q⟩ := h
  refine ⟨_, (pss_cons (ps_if (pt_cmpR op_eq (pe_callB call_len_seq (by rfl) T.z_len PySem.boot_len (pa_cons (pv 0) pa_nil)) pe_int (nomark _))
    (pss_one (ps_ret pe_int))
    pss_nil)
    (pss_one (ps_ret (pe_callTy call_int1 (by rfl) T.z_int (by decide +kernel) (pa_cons (pe_ix ix_list (pv 0) (pe_call G_law_take (hr.mono (by omega)) (by rfl) T.m_law_take T.F_law_take.kp T.b_law_take .nil pass0 (pa_cons (pv 1) (pa_cons (pe_callB call_len_seq (by rfl) T.z_len PySem.boot_len (pa_cons (pv 0) pa_nil)) pa_nil))) (fun _ _ => rfl)) pa_nil))))), ?_⟩
  refine ⟨_, rfl, _, _, rfl, .inl hk.now, rfl, _, rfl, ?_⟩
  refine ite2 (fun c => ?_) (fun c => ?_)
  · exact q 0 H (Go.refl hD) (.inl rfl)
  · have hn := int_ne c
    rw [List.length_map] at hn
    refine ⟨_, rfl, _, rfl, _, rfl, _, _, rfl, .inl hk.now, d, _, rfl, hD, by rw [List.length_map]; omega, fun r H1 g h0 h1 => ?_⟩
    rw [List.length_map] at h1
    obtain ⟨v, hv, hm⟩ := atI_map (f := V.int) h0 h1
    exact ⟨_, _, _, _, rfl, rfl, (hk.go g).now, hv, .inl ⟨_, rfl, q v H1 g (.inr hm)⟩⟩
/-! ### _law_word -/
def spWord : Sp := fun vs H Q _ => ∃ i : Int, vs = [.int i] ∧ ∀ z : Str, Wd z → z.length ≤ 60 → (1 ≤ i → 0 < z.length) → Q (.str z) H
end
end NL

set_option maxHeartbeats 4000000
namespace NL
open PySem PySem.Spec PyProof.Rows L2
/-! ### enumerate of a tuple -/
theorem draws_tup {P : Program} {w : World} {A : Around} (cold : A.handled = none) (j l : Addr) (apart : l ≠ j) (vs : Array Value) : Draws P w A j [j, l] vs.size (fun i v => vs[i]? = some v) (fun i h => h.IsTupleIter j l i ∧ h.IsTuple l vs) where
  live := fun _ _ st => by
    obtain ⟨⟨o, ho, _⟩, _⟩ := st
    exact ⟨o, ho⟩
  frame := fun _ _ _ st hold => by
    obtain ⟨st1, o, ho, hr⟩ := st
    exact ⟨st1.at fun ob e => hold j (by simp) ob e, o, hold l (by simp) o ho, hr⟩
  item := fun i s Q E hi st hQ => by
    refine RZ.nextOf_tuple_item st.1 st.2 (x := vs[i]) (by simp [hi]) fun g st1 sb => ?_
    refine hQ _ g s.toks (by simp [hi]) ⟨st1, ?_⟩ sb
    obtain ⟨o, ho, hr⟩ := st.2
    exact ⟨o, (sb.2 l apart).trans ho, hr⟩
  done := fun s Q E st hE => RZ.nextOf_tuple_end cold st.1 st.2 (by simp) hE
theorem enum_newT (l : Addr) (vs : Array Value) :
    Meets (Builtin.«enumerate.__new__» ⟨[.type "enumerate", .ref l], []⟩) (fun _ R s => s.heap.IsTuple l vs ∧
      R (.ok (.ret (.ref (s.heap.push { cls := .type "tuple_iterator", data := .fields #[.ref l, .int 0 0] }).objs.size)))
        { s with heap := (s.heap.push { cls := .type "tuple_iterator", data := .fields #[.ref l, .int 0 0] }).push { cls := .type "enumerate", data := .fields #[.none, .bool false, .ref s.heap.objs.size, rawInt 0, .none, .none] } }) :=
  .of_wp fun P w A R s r => by
    obtain ⟨hp, gs, dr, tk, os⟩ := s
    obtain ⟨tu, r⟩ := r
    have hsub := sub_enumerate
    have T2 : Heap.IsTuple (Shared.heap ⟨hp, gs, dr, tk, os⟩) l vs := tu
    obtain ⟨⟨c, dct, dt, sl⟩, hl, hc, n, hd⟩ := tu
    replace hc : c = .type "tuple" := hc
    replace hd : dt = .seq vs n := hd
    subst hc hd
    wp_walk using AutoSeq1.wpAny_loadPart' hl
    refine wpAny_stack_any fun st => wpAny_pure ?_
    split
    · rename_i c2 _ _ _ _ _
      cases (c2 == Value.type "enumerate")
      · wp_walk using AutoSeq1.wpAny_loadPart' hl, wpAny_pyIter_tuple T2
        exact ⟨_, rfl, r⟩
      · wp_walk using AutoSeq1.wpAny_loadPart' hl, wpAny_pyIter_tuple T2
        exact ⟨_, rfl, r⟩
    · wp_walk using AutoSeq1.wpAny_loadPart' hl, wpAny_pyIter_tuple T2
      exact ⟨_, rfl, r⟩
theorem enum_callT {P : Program} {w : World} {A : Around} {E : Value → Shared → Prop} {s : Shared} {l : Addr} {vs : Array Value} {Q : Value → Shared → Prop} (tu : s.heap.IsTuple l vs)
    (k : ∀ g, IsEnum g (s.heap.objs.size + 1) s.heap.objs.size 0 .none → g.IsTupleIter s.heap.objs.size l 0 → (∀ b o, s.heap.get? b = some o → g.get? b = some o) → Q (.ref (s.heap.objs.size + 1)) { s with heap := g }) :
    wpAny (model P w) A (call (.type "enumerate") [.ref l]) Q E s := by
  refine callType_new F.called_enumerate (by decide) (F.typeCall_enumerate_1 _) (F.newCall_enumerate_1 _) (fun ob => F.args_object_init_2 ob _) F.entry_enumerate_new (enum_newT l vs) ⟨tu, ?_⟩
  have sz : (s.heap.push { cls := .type "tuple_iterator", data := .fields #[.ref l, .int 0 0] }).objs.size = s.heap.objs.size + 1 := Heap.size_push ..
  show _ ∧ _
  rw [sz]
  have isE : IsEnum ((s.heap.push { cls := .type "tuple_iterator", data := .fields #[.ref l, .int 0 0] }).push { cls := .type "enumerate", data := .fields #[.none, .bool false, .ref s.heap.objs.size, rawInt 0, .none, .none] }) (s.heap.objs.size + 1) s.heap.objs.size 0 .none := by
    have top := Heap.get?_push_size (s.heap.push { cls := .type "tuple_iterator", data := .fields #[.ref l, .int 0 0] }) (o := { cls := .type "enumerate", data := .fields #[.none, .bool false, .ref s.heap.objs.size, rawInt 0, .none, .none] }) rfl
    rw [sz] at top
    exact top
  exact ⟨⟨_, isE, rfl⟩, k _ isE ⟨_, Heap.get?_push_of_some _ (Heap.get?_push_size _ rfl), rfl, rfl⟩ fun b o e => Heap.get?_push_of_some _ (Heap.get?_push_of_some _ e)⟩
/-- the tuple at a, each item in a new pair with its number -/
def EtT (K : PySem.W.Frag) (a : Addr) : L2.It :=
  ⟨fun i H => ∃ (xs : List V) (x : V), SqT K H a xs ∧ xs[i]? = some x, fun i H v H' => ∃ t x, v = .ref t ∧ H t = none ∧ H' = upd H t (.tup [.int (i : Nat), x]) ∧ ∀ xs, SqT K H a xs → xs[i]? = some x, fun i H => ∃ xs : List V, SqT K H a xs ∧ xs.length ≤ i⟩
theorem turn_enumT {P : Program} {w : World} {K : PySem.W.Frag} {elts : List Expr} {kk : Nat} {tpos : Pos} (a e j : Addr) :
    Turn P w K (.Tuple elts kk tpos) (EtT K a) [e, j] e (fun i h => (∃ old, IsEnum h e j ((i : Nat) : Int) old) ∧ h.IsTupleIter j a i ∧ e ≠ j) where
  mem := List.mem_cons_self
  obj := by
    rintro i h ⟨⟨old, isE⟩, ⟨o, ho, hc, hd⟩, _⟩ b hb
    have hb2 : b = e ∨ b = j := by simpa using hb
    rcases hb2 with rfl | rfl
    · exact ⟨_, isE, fun v q => nomatch q⟩
    · exact ⟨o, ho, fun v q => by rw [hd] at q; cases q⟩
  keep := by
    rintro i h g ⟨⟨old, isE⟩, isT, ne⟩ hold
    exact ⟨⟨old, hold e (by simp) _ isE⟩, isT.at fun o q => hold j (by simp) o q, ne⟩
  item := by
    rintro X rfl rfl rfl hcalm i pins s σ H E hinv hfp ⟨⟨old, isE⟩, isT, ne⟩ ⟨xs, x, hq, hx⟩
    obtain ⟨its, rv, pt, hz⟩ := hinv.tuple hq
    have tu : s.heap.IsTuple a its.toArray := pt
    obtain ⟨u, hu, ru⟩ := rv.get hx
    have ha : a ≠ j := fun q => by
      obtain ⟨o, ho, hc, _⟩ := id isT
      obtain ⟨o2, ho2, hc2, _⟩ := id tu
      rw [q, ho] at ho2
      cases ho2
      rw [hc] at hc2
      exact absurd (Value.type.inj hc2) (by decide)
    have hea : e ≠ a := fun q => by
      obtain ⟨o2, ho2, hc2, _⟩ := id tu
      have isE2 : s.heap.get? e = some _ := isE
      have e3 := (congrArg s.heap.get? q).symm.trans isE2
      rw [ho2] at e3
      cases e3
      exact absurd (Value.type.inj hc2) (by decide)
    have hlt : i < its.toArray.size := by
      have := (List.getElem?_eq_some_iff.mp hu).1
      simpa using this
    have cold := hinv.ok.hd hcalm
    refine wpAny_pyNext_enum_itemD (draws_tup (A := X.A.in1) cold j a ha its.toArray) isE ⟨isT, tu⟩ hlt ne (by simp [ne, hea]) fun y g tk hy ho st1 hT hsz hold => ?_
    have hyu : y = u := by
      have h2 : its[i]? = some y := by simpa using hy
      rw [hu] at h2
      exact (Option.some.inj h2).symm
    subst hyu
    refine ⟨_, rfl, wpAny_letOwnedTupleGo_enum (s := { s with heap := g, toks := tk + 1 }) ho fun g2 isE2 sb => ?_⟩
    have hel : e < s.heap.objs.size := Heap.lt_size isE
    have hjl : j < s.heap.objs.size := by
      obtain ⟨_, q, _⟩ := id isT
      exact Heap.lt_size q
    have hT2 : g2.get? s.heap.objs.size = some { cls := .type "tuple", data := .seq #[.int i tk, y] } := (sb.2 _ (Nat.ne_of_gt hel)).trans hT
    have made : ObjOk X.prog X.w (upd H s.heap.objs.size (.tup [.int (i : Nat), x])) g2 s.heap.objs.size (.tup [.int (i : Nat), x]) :=
      ⟨by show 2 ≤ sizeLine; decide, [.int i tk, y], .cons ⟨_, rfl⟩ (.cons ru .nil), ⟨_, hT2, rfl, _, rfl⟩⟩
    have inv2 : Inv X pins σ (upd H s.heap.objs.size (.tup [.int (i : Nat), x])) { s with heap := g2, toks := tk + 1 } :=
      hinv.turnedNew (ch := [e, j]) (fun b ob hb q => (sb.2 b (fun z => hb (by simp [z]))).trans (hold b ob (fun z => hb (by simp [z])) (fun z => hb (by simp [z])) q)) hfp (Nat.le_refl _) made
    refine ⟨.ref s.heap.objs.size, _, inv2, rfl, ⟨_, x, rfl, hinv.hok.fresh (Nat.le_refl _), rfl, fun ys hy2 => by rw [hinv.tuple_inj hy2 hq]; exact hx⟩, ⟨⟨y, ?_⟩, st1.1.at fun o q => (sb.2 j (Ne.symm ne)).trans q, ne⟩, fun b hb => ?_⟩
    · have e1 : ((i + 1 : Nat) : Int) = (i : Int) + 1 := by omega
      rw [e1]
      exact isE2
    · have hb2 : b < s.heap.objs.size := by
        have z : b = e ∨ b = j := by simpa using hb
        rcases z with rfl | rfl
        · exact hel
        · exact hjl
      rw [upd_ne (Nat.ne_of_lt hb2)]
      exact (hfp b hb).1
  done := by
    rintro X rfl rfl rfl hcalm i pins s σ H E hinv hfp ⟨⟨old, isE⟩, isT, ne⟩ ⟨xs, hq, hx⟩
    obtain ⟨its, rv, pt, hz⟩ := hinv.tuple hq
    have tu : s.heap.IsTuple a its.toArray := pt
    have hT : s.TypeIs (.ref e) "enumerate" := ⟨_, isE, rfl⟩
    obtain ⟨f0, f1, f2, f3, f4, f5⟩ := hfp j (by simp)
    have hl := rv.length
    have cold := hinv.ok.hd hcalm
    unfold pyNext
    refine wpAny_bind (wpAny_attempt (wpAny_callSpecial?_slot (name := Str.ofString "__next__") hT F.slot_enumerate_next
      (wpAny_call_entry F.slot_enumerate_next hT F.entry_enumerate_next ?_ (F.args_enumerate_next_1 _))))
    show wpAny _ _ (field (.ref e) 2 >>= _) _ _ _
    refine wpAny_bind (wpAny_field isE rfl (x := .ref j) rfl (wpAny_bind (RZ.nextOf_tuple_end cold isT tu (by simp; omega) fun g x eb ⟨o, ho, hc⟩ => ?_)))
    refine wpAny_bind (wpAny_isInstance (T := "StopIteration") (b := true) ⟨o, ho, hc⟩ isSubtype_stop (wpAny_pure ⟨rfl, hinv.turned (t' := s.toks) (fun b o hb q => eb b o hb q) f0 f1 f3 f4 f5⟩))
  self := by
    rintro A i s Q E ⟨⟨_, isE⟩, _⟩ h
    exact wpAny_pyIter_enum isE h
def iEnumT (K : PySem.W.Frag) (ta : TA) : TI := fun σ H R => ta σ H fun vs H1 => ∃ a xs, vs = [.ref a] ∧ SqT K H1 a xs ∧ R (EtT K a) H1
theorem pi_enumT {X : Cx} {ex : Expr} {ta : TA} {p pos tpos : Pos} {elts : List Expr} {kk : Nat} (hg : Gl X "enumerate") (hm : X.mg "enumerate" = none) (ha : PA X [ex] ta) (hs : starEach [ex] X.env = [(false, eval ex X.env)] := by rfl) :
    PI X (.Tuple elts kk tpos) (.Call (.Name "enumerate" p) [ex] [] pos) (iEnumT X.K ta) := by
  refine ⟨fun pins s σ H R hinv h => ?_⟩
  refine Call_ (ld_blt hinv hg hm boot_enumerate (PyProof.Rows.callWith_type1 (thn (ha.run pos pins s σ H _ hinv h) fun us s1 ⟨vs, H1, inv1, hv, q1⟩ => ?_) hs rfl))
  obtain ⟨a, xs, rfl, hq, q⟩ := q1
  cases hv with
  | cons r rest =>
    cases rest
    cases r
    obtain ⟨its, rv, pt, hz⟩ := inv1.tuple hq
    refine enum_callT (show s1.heap.IsTuple a its.toArray from pt) fun g isE isT hold => wpAny_pyIter_enum isE ?_
    have inv2 : Inv X pins σ H1 { s1 with heap := g } := inv1.kept (t' := s1.toks) hold
    refine ⟨s1.heap.objs.size + 1, [s1.heap.objs.size + 1, s1.heap.objs.size], _, _, H1, rfl, inv2, turn_enumT a (s1.heap.objs.size + 1) s1.heap.objs.size, ⟨⟨.none, isE⟩, isT, Nat.succ_ne_self _⟩, fun b hb => ?_, q⟩
    have hle : s1.heap.objs.size ≤ b := by
      have z : b = s1.heap.objs.size + 1 ∨ b = s1.heap.objs.size := by simpa using hb
      rcases z with z | z
      · rw [z]; exact Nat.le_succ _
      · rw [z]; exact Nat.le_refl _
    exact inv1.fpOk hle (inv1.hok.fresh hle)
theorem lc_enumT {K : PySem.W.Frag} {a : Addr} {xs : List V} {g : TG} {tt : TT} {te : TE} {vs : List Nat} {σ : L2.St} {H1 : Hp} {D : Addr} {Qd : Hp → Prop} (Pv : Nat → Hp → Prop) (h0 : Pv 0 (upd H1 D (.lst []))) (hq : ∀ i H, Pv i H → SqT K H a xs)
    (hs : ∀ (i : Nat) (x : V) (t : Addr) (H : Hp), xs[i]? = some x → Pv i H → H t = none → g (.ref t) (wipe σ vs) (upd H t (.tup [.int (i : Nat), x])) fun σ2 H2 => wipe σ2 vs = wipe σ vs ∧ tt σ2 H2 fun c H3 =>
      if c = true then te σ2 H3 fun z H4 => ∃ acc, H4 D = some (.lst acc) ∧ acc.length < sizeLine ∧ Pv (i + 1) (upd H4 D (.lst (acc ++ [z]))) else Pv (i + 1) H3) (hd : ∀ H, Pv xs.length H → Qd H) :
    ∃ W : Nat → Nat → Hp → Prop, (∃ m, W 0 m (upd H1 D (.lst []))) ∧ ∀ i m H, W i m H →
      ((EtT K a).stop i H ∧ Qd H) ∨ ((EtT K a).go i H ∧ ∃ Nx : Hp → Prop, (∀ H', Nx H' → ∃ m', m' < m ∧ W (i + 1) m' H') ∧ ∀ x H', (EtT K a).yld i H x H' → g x (wipe σ vs) H' fun σ2 H2 => wipe σ2 vs = wipe σ vs ∧ tt σ2 H2 fun c H3 =>
        if c = true then te σ2 H3 fun z H4 => ∃ acc, H4 D = some (.lst acc) ∧ acc.length < sizeLine ∧ Nx (upd H4 D (.lst (acc ++ [z]))) else Nx H3) := by
  refine ⟨fun i m H => m + i = xs.length ∧ Pv i H, ⟨xs.length, rfl, h0⟩, ?_⟩
  rintro i m H ⟨hi, p⟩
  have q := hq i H p
  by_cases lt : i < xs.length
  · have ex : xs[i]? = some xs[i] := List.getElem?_eq_getElem lt
    refine .inr ⟨⟨xs, _, q, ex⟩, Pv (i + 1), fun H' p' => ⟨m - 1, by omega, by omega, p'⟩, fun v H' y => ?_⟩
    obtain ⟨t, x1, rfl, ht, rfl, f1⟩ := y
    exact hs i x1 t H (f1 xs q) p ht
  · have e : i = xs.length := by omega
    subst e
    exact .inl ⟨⟨xs, q, Nat.le_refl _⟩, hd H p⟩
end NL

set_option maxHeartbeats 4000000
namespace NL
open PySem PySem.Spec PyProof.Rows L2
theorem pi_tupK {X : Cx} {K : PySem.W.Frag} {tg l : Expr} {tl : TE} (h : X.K = K) (e : PE X l tl) : PI X tg l (iTup K tl) := by
  subst h
  exact pi_tup e
theorem pi_listK {X : Cx} {K : PySem.W.Frag} {tg l : Expr} {tl : TE} (h : X.K = K) (e : PE X l tl) : PI X tg l (iList K tl) := by
  subst h
  exact pi_list e
theorem op_in_seqK {X : Cx} {K : PySem.W.Frag} (h : X.K = K) : OpR X (compareOp .In) (rIn K false) := by
  subst h
  exact op_in_seq
theorem op_notIn_seqK {X : Cx} {K : PySem.W.Frag} (h : X.K = K) : OpR X (compareOp .NotIn) (rIn K true) := by
  subst h
  exact op_notIn_seq
theorem op_catAK {X : Cx} {K : PySem.W.Frag} (h : X.K = K) : OpR X (binaryOp .Add) (rCatA K) := by
  subst h
  exact op_catA
theorem sl_tupAK {X : Cx} {K : PySem.W.Frag} (h : X.K = K) : SlR X (rSlA K) := by
  subst h
  exact sl_tupA
theorem fil_t (f : Int → Bool) {o : List Int} {i : Nat} {a : Int} (h : o[i]? = some a) : (o.take (i + 1)).filter f = (o.take i).filter f ++ (if f a = true then [a] else []) := by
  rw [List.take_add_one, h, List.filter_append]
  congr 1
  show List.filter f [a] = _
  rw [List.filter_cons]
  rfl
theorem mapV {l : List Int} {k : Nat} {x : Int} (h : l[k]? = some x) : (l.map V.int)[k]? = some (V.int x) := by
  rw [List.getElem?_map, h]
  rfl
theorem lay_intsX : ∀ l : List Int, PyData.canLayAll0 (l.map PyData.int) = true ∧ PyData.depthAll (l.map PyData.int) = 0
  | [] => ⟨rfl, rfl⟩
  | a :: l => by
    obtain ⟨h1, h2⟩ := lay_intsX l
    refine ⟨?_, ?_⟩
    · show (true && PyData.canLayAll0 (l.map PyData.int)) = true
      rw [h1]
      rfl
    · show max 0 (PyData.depthAll (l.map PyData.int)) = 0
      rw [h2]
      rfl
theorem shaped_tupX (l : List Int) : SeqAt.shaped (.tuple (l.map PyData.int)) = true := by
  obtain ⟨h1, h2⟩ := lay_intsX l
  show (PyData.canLayAll0 (l.map PyData.int) && decide (PyData.depthAll (l.map PyData.int) + 1 ≤ 64)) = true
  rw [h1, h2]
  rfl
theorem shaped_lstX (l : List Int) : SeqAt.shaped (.list (l.map PyData.int)) = true := by
  obtain ⟨h1, h2⟩ := lay_intsX l
  show (PyData.canLayAll0 (l.map PyData.int) && decide (PyData.depthAll (l.map PyData.int) + 1 ≤ 64)) = true
  rw [h1, h2]
  rfl
theorem dp_intsX {K : PySem.W.Frag} {H : Hp} : ∀ l : List Int, DpAll K H (l.map V.int) (l.map PyData.int)
  | [] => .nil
  | a :: r => .cons (.int a) (dp_intsX r)
theorem eqv_intsX : ∀ l m : List Int, PyData.eqvAll (l.map PyData.int) (m.map PyData.int) = decide (l = m)
  | [], [] => rfl
  | [], b :: m => rfl
  | a :: l, [] => rfl
  | a :: l, b :: m => by
    show ((a == b) && PyData.eqvAll (l.map PyData.int) (m.map PyData.int)) = _
    rw [eqv_intsX l m]
    by_cases h1 : a = b
    · subst h1
      by_cases h2 : l = m
      · subst h2
        simp
      · rw [decide_eq_false h2, Bool.and_false, decide_eq_false (fun h => h2 (List.cons.inj h).2)]
    · rw [beq_eq_false_iff_ne.mpr h1, Bool.false_and, decide_eq_false (fun h => h1 (List.cons.inj h).1)]
theorem catX_of {K : PySem.W.Frag} {a b : Addr} {xs ys : List V} {H : Hp} {Q : VK} (ha : H a = some (.tup xs)) (hb : H b = some (.tup ys)) (hl : xs.length + ys.length ≤ 100000) (q : ∀ p H', Same H H' → H' p = some (.tup (xs ++ ys)) → Q (.ref p) H') : rCatA K (.ref a) (.ref b) H Q := by
  refine ⟨a, b, xs, ys, rfl, rfl, sqt ha, sqt hb, big (by omega), fun h => ?_, fun _ h => ?_, fun _ _ p hp => ?_⟩
  · exact q b H (Same.refl H) (by rw [h, List.nil_append]; exact hb)
  · exact q a H (Same.refl H) (by rw [h, List.append_nil]; exact ha)
  · exact q p _ (same_new hp _) upd_same
theorem slV_of {K : PySem.W.Frag} {a : Addr} {xs : List V} {lo hi : Option Int} {H : Hp} {Q : VK} (ha : H a = some (.tup xs)) (q : ∀ p H', Same H H' → H' p = some (.tup (cutV xs lo hi)) → Q (.ref p) H') : rSlA K (.ref a) lo hi H Q := by
  refine ⟨a, xs, rfl, sqt ha, fun h => ?_, fun _ p hp => q p _ (same_new hp _) upd_same⟩
  refine q a H (Same.refl H) ?_
  have : cutV xs lo hi = xs := by
    unfold cutV
    rw [h.1, h.2, List.drop_zero, Nat.sub_zero]
    exact List.take_length
  rw [this]
  exact ha
theorem jcutT {xs : List V} {k : Nat} {i : Int} (h : i = (k : Int)) : cutV xs none (some i) = xs.take k := by
  subst h
  unfold cutV
  rw [HT.sIx_none, show HT.sIx xs.length xs.length (some (k : Int)) = min k xs.length from HT.sIx_nat _ _ _, List.drop_zero, Nat.sub_zero]
  by_cases h : k ≤ xs.length
  · rw [Nat.min_eq_left h]
  · rw [Nat.min_eq_right (by omega), List.take_length, List.take_of_length_le (by omega)]
theorem jcutD {xs : List V} {k : Nat} {i : Int} (h : i = (k : Int)) : cutV xs (some i) none = xs.drop k := by
  subst h
  unfold cutV
  rw [HT.sIx_none, show HT.sIx xs.length 0 (some (k : Int)) = min k xs.length from HT.sIx_nat _ _ _]
  by_cases h : k ≤ xs.length
  · rw [Nat.min_eq_left h, List.take_of_length_le (by rw [List.length_drop]; omega)]
  · rw [Nat.min_eq_right (by omega), Nat.sub_self, List.take_zero, List.drop_of_length_le (by omega)]
theorem jcutI {xs : List V} : cutV xs none (some (-1)) = xs.dropLast := by
  unfold cutV
  have : HT.sIx xs.length xs.length (some (-1)) = xs.length - 1 := by
    unfold HT.sIx
    simp
    omega
  rw [HT.sIx_none, this, List.drop_zero, Nat.sub_zero, List.dropLast_eq_take]
end NL

set_option maxHeartbeats 4000000
namespace NL
open PySem PySem.Spec PyProof.Rows L2
/-! ### rows of ints compared from the left -/
def ltL : List Int → List Int → Bool
  | [], [] => false
  | [], _ :: _ => true
  | _ :: _, [] => false
  | x :: xs, y :: ys => if x = y then ltL xs ys else decide (x < y)
def leL : List Int → List Int → Bool
  | [], _ => true
  | _ :: _, [] => false
  | x :: xs, y :: ys => if x = y then leL xs ys else decide (x ≤ y)
theorem leL_iff : ∀ xs ys : List Int, leL xs ys = (ltL xs ys || decide (xs = ys))
  | [], [] => rfl
  | [], _ :: _ => rfl
  | _ :: _, [] => rfl
  | x :: xs, y :: ys => by
    show (if x = y then leL xs ys else decide (x ≤ y)) = ((if x = y then ltL xs ys else decide (x < y)) || decide (x :: xs = y :: ys))
    by_cases h : x = y
    · subst h
      rw [if_pos rfl, if_pos rfl, leL_iff xs ys]
      congr 1
      exact decide_eq_decide.mpr ⟨fun h => by rw [h], fun h => (List.cons.inj h).2⟩
    · rw [if_neg h, if_neg h, decide_eq_false (fun e => h (List.cons.inj e).1), Bool.or_false]
      exact decide_eq_decide.mpr (by omega)
theorem lexAt_gen (R : Int → Int → Bool) (Z : Nat → Nat → Bool) (F : List Int → List Int → Bool) (h0 : ∀ ys, F [] ys = Z 0 ys.length) (h1 : ∀ x xs, F (x :: xs) [] = Z (xs.length + 1) 0) (h2 : ∀ x xs y ys, F (x :: xs) (y :: ys) = if x = y then F xs ys else R x y) (hz : ∀ a b, Z (a + 1) (b + 1) = Z a b) (ns ms : List Int) :
    ∀ (i : Nat), i ≤ min ns.length ms.length → Ob.lexAt (fun j => decide (ns.getD j 0 = ms.getD j 0)) (fun j => R (ns.getD j 0) (ms.getD j 0)) (Z ns.length ms.length) i (min ns.length ms.length - i) = F (ns.drop i) (ms.drop i) := by
  have main : ∀ (k i : Nat), i + k = min ns.length ms.length → Ob.lexAt (fun j => decide (ns.getD j 0 = ms.getD j 0)) (fun j => R (ns.getD j 0) (ms.getD j 0)) (Z ns.length ms.length) i k = F (ns.drop i) (ms.drop i) := by
    intro k
    induction k with
    | zero =>
      intro i hi
      rw [Ob.lexAt_zero]
      have zz : ∀ (d a b : Nat), Z (a + d) (b + d) = Z a b := fun d => by
        induction d with
        | zero => intro a b; rfl
        | succ d ih => intro a b; rw [← Nat.add_assoc, ← Nat.add_assoc, hz, ih]
      by_cases h : ns.length ≤ ms.length
      · have e : i = ns.length := by omega
        rw [e, List.drop_length, h0, List.length_drop]
        have := zz ns.length 0 (ms.length - ns.length)
        rw [Nat.zero_add, Nat.sub_add_cancel h] at this
        exact this
      · have e : i = ms.length := by omega
        rw [e, List.drop_length]
        obtain ⟨x, xs, hx⟩ : ∃ x xs, ns.drop ms.length = x :: xs := by
          cases hd : ns.drop ms.length with
          | nil =>
            have := congrArg List.length hd
            rw [List.length_drop, List.length_nil] at this
            omega
          | cons x xs => exact ⟨x, xs, rfl⟩
        rw [hx, h1]
        have hl := congrArg List.length hx
        rw [List.length_drop, List.length_cons] at hl
        have := zz ms.length (xs.length + 1) 0
        rw [Nat.zero_add, ← hl, Nat.sub_add_cancel (by omega)] at this
        rw [this, hl]
    | succ k ih =>
      intro i hi
      rw [Ob.lexAt_succ]
      have e1 := List.drop_eq_getElem_cons (show i < ns.length by omega)
      have e2 := List.drop_eq_getElem_cons (show i < ms.length by omega)
      have g1 : ns.getD i 0 = ns[i]'(by omega) := by rw [List.getD_eq_getElem?_getD, List.getElem?_eq_getElem (by omega)]; rfl
      have g2 : ms.getD i 0 = ms[i]'(by omega) := by rw [List.getD_eq_getElem?_getD, List.getElem?_eq_getElem (by omega)]; rfl
      rw [e1, e2, h2, ih (i + 1) (by omega), g1, g2]
      by_cases h : ns[i]'(by omega) = ms[i]'(by omega)
      · rw [if_pos h, if_pos (decide_eq_true h)]
      · rw [if_neg h, if_neg (by rw [decide_eq_false h]; exact Bool.false_ne_true)]
  intro i hi
  exact main _ i (by omega)
theorem lexAt_le (ns ms : List Int) : Ob.lexAt (fun j => decide (ns.getD j 0 = ms.getD j 0)) (fun j => decide (ns.getD j 0 ≤ ms.getD j 0)) (decide (ns.length ≤ ms.length)) 0 (min ns.length ms.length) = leL ns ms := by
  have := lexAt_gen (fun a b => decide (a ≤ b)) (fun a b => decide (a ≤ b)) leL (fun ys => (decide_eq_true (Nat.zero_le _)).symm) (fun x xs => (decide_eq_false (by omega)).symm) (fun x xs y ys => rfl) (fun a b => decide_eq_decide.mpr (by omega)) ns ms 0 (Nat.zero_le _)
  rw [Nat.sub_zero, List.drop_zero, List.drop_zero] at this
  exact this
theorem lexAt_gt (ns ms : List Int) : Ob.lexAt (fun j => decide (ns.getD j 0 = ms.getD j 0)) (fun j => decide (ms.getD j 0 < ns.getD j 0)) (decide (ns.length > ms.length)) 0 (min ns.length ms.length) = ltL ms ns := by
  have := lexAt_gen (fun a b => decide (b < a)) (fun a b => decide (a > b)) (fun a b => ltL b a) (fun ys => by
    cases ys with
    | nil => rfl
    | cons y ys => exact (decide_eq_false (by omega)).symm) (fun x xs => (decide_eq_true (by omega)).symm) (fun x xs y ys => by
    show (if y = x then ltL ys xs else decide (y < x)) = _
    by_cases h : x = y
    · subst h; rfl
    · rw [if_neg h, if_neg (fun e => h e.symm)]) (fun a b => decide_eq_decide.mpr (by omega)) ns ms 0 (Nat.zero_le _)
  rw [Nat.sub_zero, List.drop_zero, List.drop_zero] at this
  exact this
theorem lexLt_is : ∀ xs ys : List Int, HT.lexLt xs ys = ltL xs ys
  | [], [] => rfl
  | [], _ :: _ => rfl
  | _ :: _, [] => rfl
  | x :: xs, y :: ys => by
    have ih := lexLt_is xs ys
    show HT.lexLt (x :: xs) (y :: ys) = if x = y then ltL xs ys else decide (x < y)
    rw [← ih]
    rfl
def rLtT (K : PySem.W.Frag) (f : List Int → List Int → Bool) : R2 := fun x y H Q => ∃ (a b : Addr) (ns ms : List Int), x = .ref a ∧ y = .ref b ∧ SqT K H a (ns.map V.int) ∧ SqT K H b (ms.map V.int) ∧ Q (.bl (f ns ms)) H
theorem gx_leT {X : Cx} (hu : X.A.units + 64 < cLine) : OpR X (compareOp .LtE) (rLtT X.K leL) := by
  intro pins s σ H x y v u Q I rx ry h
  obtain ⟨a, b, ns, ms, rfl, rfl, ha, hb, q⟩ := h
  refine op_leT (Nat.lt_of_le_of_lt (Nat.le_add_right _ 64) hu) pins s σ H _ _ v u Q I rx ry ⟨a, b, ns, ms, rfl, rfl, ha, hb, ?_⟩
  rw [lexAt_le]
  exact q
theorem gx_ltT {X : Cx} (hu : X.A.units + 64 < cLine) : OpR X (compareOp .Lt) (rLtT X.K ltL) := by
  intro pins s σ H x y v u Q I rx ry h
  obtain ⟨a, b, ns, ms, rfl, rfl, ha, hb, q⟩ := h
  cases rx
  cases ry
  obtain ⟨its, r1, p1, _⟩ := I.tuple ha
  obtain ⟨its2, r2, p2, _⟩ := I.tuple hb
  refine HT.lt_tupInts p1 p2 (by simpa using Vals.ints r1) (by simpa using Vals.ints r2) (Nat.lt_of_le_of_lt (Nat.le_add_right _ 64) hu) ?_
  rw [lexLt_is]
  exact ⟨.bl _, H, I, rfl, q⟩
theorem gx_gtT {X : Cx} (hu : X.A.units + 64 < cLine) : OpR X (compareOp .Gt) (rLtT X.K fun a b => ltL b a) := by
  intro pins s σ H x y v u Q I rx ry h
  obtain ⟨a, b, ns, ms, rfl, rfl, ha, hb, q⟩ := h
  cases rx
  cases ry
  obtain ⟨its, r1, p1, _⟩ := I.tuple ha
  obtain ⟨its2, r2, p2, _⟩ := I.tuple hb
  have i1 := Vals.ints r1
  have i2 := Vals.ints r2
  have z1 : its.toArray.size = ns.length := by rw [List.size_toArray]; exact i1.length
  have z2 : its2.toArray.size = ms.length := by rw [List.size_toArray]; exact i2.length
  have val1 : ∀ j (h1 : j < its.toArray.size), ∃ t, its.toArray[j] = .int (ns.getD j 0) t := fun j h1 => i1.int_at _ _ (by simp at h1; simp [h1])
  have val2 : ∀ j (h1 : j < its2.toArray.size), ∃ t, its2.toArray[j] = .int (ms.getD j 0) t := fun j h1 => i2.int_at _ _ (by simp at h1; simp [h1])
  have R := Ob.RcOp.tuples_gt (A := X.A) (s := s) (e := fun j => decide (ns.getD j 0 = ms.getD j 0)) (r := fun j => decide (ms.getD j 0 < ns.getD j 0)) p1 p2 (Nat.lt_of_le_of_lt (Nat.le_add_right _ 64) hu)
    (fun j h1 h2 => by
      obtain ⟨t, et⟩ := val1 j h1
      obtain ⟨t', et'⟩ := val2 j h2
      rw [et, et']
      have z : (ns.getD j 0 == ms.getD j 0) = decide (ns.getD j 0 = ms.getD j 0) := Bool.beq_eq_decide_eq _ _
      rw [← z]
      exact SeqAt.EqAt.int_int _ _ _ _)
    (fun j h1 h2 _ => by
      obtain ⟨t, et⟩ := val1 j h1
      obtain ⟨t', et'⟩ := val2 j h2
      rw [et, et']
      exact Ob.RcOp.gt_int _ _ _ _)
  rw [z1, z2, lexAt_gt] at R
  exact R X.prog X.w X.xe (EP X pins σ Q) ⟨.bl _, H, I, rfl, q⟩
end NL

set_option maxHeartbeats 4000000
namespace NL
open PySem PySem.Spec PyProof.Rows L2
/-! ### max and min of a list of tuples of ints: one of them -/
def rMxT (K : PySem.W.Frag) : List V → Hp → VK → Prop := fun vs H Q => ∃ (a : Addr) (xs : List V), vs = [V.ref a] ∧ SqL K H a xs ∧ 0 < xs.length ∧ (∀ x ∈ xs, ∃ (b : Addr) (ns : List Int), x = .ref b ∧ SqT K H b (ns.map V.int)) ∧ ∀ x ∈ xs, Q x H
theorem argBest_bd (bt : Nat → Nat → Bool) : ∀ k : Nat, argBest bt k ≤ k
  | 0 => Nat.le_refl 0
  | k + 1 => by
    have e : argBest bt (k + 1) = if bt (k + 1) (argBest bt k) = true then k + 1 else argBest bt k := rfl
    have := argBest_bd bt k
    rw [e]
    split <;> omega
theorem tupsAt {X : Cx} {pins : List (Addr × Obj)} {σ : L2.St} {H : Hp} {s : Shared} {xs : List V} {its : List Value} (I : Inv X pins σ H s) (rv : L2.Vals xs its) (hx : ∀ x ∈ xs, ∃ (b : Addr) (ns : List Int), x = .ref b ∧ SqT X.K H b (ns.map V.int)) :
    ∃ f : Nat → List Int, ∀ (i : Nat) (v : Value), its.toArray[i]? = some v → ∃ b us, v = .ref b ∧ s.heap.IsTuple b us ∧ L2.Vals ((f i).map V.int) us.toList := by
  have main : ∀ i : Nat, ∃ l : List Int, ∀ v : Value, its.toArray[i]? = some v → ∃ b us, v = .ref b ∧ s.heap.IsTuple b us ∧ L2.Vals (l.map V.int) us.toList := fun i => by
    cases e : its.toArray[i]? with
    | none => exact ⟨[], fun v h => nomatch h⟩
    | some v =>
      have hv2 : its[i]? = some v := by simpa using e
      have hil := (List.getElem?_eq_some_iff.mp hv2).1
      have hl := rv.length
      have hn := List.getElem?_eq_getElem (show i < xs.length by omega)
      obtain ⟨u, hu1, ru⟩ := rv.get hn
      rw [hv2] at hu1
      cases hu1
      obtain ⟨b, ns, h1, h2⟩ := hx _ (List.mem_of_getElem? hn)
      rw [h1] at ru
      cases ru
      obtain ⟨us, r1, p1, _⟩ := I.tuple h2
      refine ⟨ns, fun v' h' => ?_⟩
      cases h'
      exact ⟨b, us.toArray, rfl, p1, by simpa using r1⟩
  exact ⟨fun i => Classical.choose (main i), fun i => Classical.choose_spec (main i)⟩
theorem cr_maxT {X : Cx} (hc : X.calm = true) (hu : X.A.units + 64 < cLine) : CallR X (.builtin "max") (rMxT X.K) := by
  intro pins s σ H vs us Q I r h
  obtain ⟨a, xs, rfl, hs, hne, hx, q⟩ := h
  obtain ⟨its, rv, hl, _⟩ := I.list hs
  rw [Vals.ref1 r]
  have hitl := rv.length
  obtain ⟨f, hf⟩ := tupsAt I rv hx
  refine call_max_walkH (PySem.W.iter_listW (A := X.A.in1) (I.ok.hd hc) hl.isList fun s₂ e W st hfp hw hk => ?_)
  refine ⟨_, _, _, _, _, _, _, s.heap, (fun i j => ltL (f j) (f i)), rfl, W, st, hfp, by rw [List.size_toArray]; omega, hw, hk, ?_, fun v s' hP m => ?_⟩
  · intro i j vi vj s' Q' E' hk' hi hj hQ
    obtain ⟨b1, u1, rfl, p1, i1⟩ := hf i vi hi
    obtain ⟨b2, u2, rfl, p2, i2⟩ := hf j vj hj
    have q1 : s'.heap.IsTuple b1 u1 := by
      obtain ⟨o, ho, hr⟩ := p1
      exact ⟨o, hk' _ _ ho, hr⟩
    have q2 : s'.heap.IsTuple b2 u2 := by
      obtain ⟨o, ho, hr⟩ := p2
      exact ⟨o, hk' _ _ ho, hr⟩
    have n1 := Vals.ints i1
    have n2 := Vals.ints i2
    have z1 : u1.size = (f i).length := by rw [← Array.length_toList]; exact n1.length
    have z2 : u2.size = (f j).length := by rw [← Array.length_toList]; exact n2.length
    have R := Ob.RcOp.tuples_gt (A := X.A.in1) (s := s') (e := fun k => decide ((f i).getD k 0 = (f j).getD k 0)) (r := fun k => decide ((f j).getD k 0 < (f i).getD k 0)) q1 q2 (by show X.A.units + 1 < cLine; omega)
      (fun k h1 h2 => by
        obtain ⟨t, et⟩ : ∃ t, u1[k] = .int ((f i).getD k 0) t := n1.int_at k u1[k] (by simp [h1])
        obtain ⟨t', et'⟩ : ∃ t, u2[k] = .int ((f j).getD k 0) t := n2.int_at k u2[k] (by simp [h2])
        rw [et, et']
        have z : ((f i).getD k 0 == (f j).getD k 0) = decide ((f i).getD k 0 = (f j).getD k 0) := Bool.beq_eq_decide_eq _ _
        rw [← z]
        exact SeqAt.EqAt.int_int _ _ _ _)
      (fun k h1 h2 _ => by
        obtain ⟨t, et⟩ : ∃ t, u1[k] = .int ((f i).getD k 0) t := n1.int_at k u1[k] (by simp [h1])
        obtain ⟨t', et'⟩ : ∃ t, u2[k] = .int ((f j).getD k 0) t := n2.int_at k u2[k] (by simp [h2])
        rw [et, et']
        exact Ob.RcOp.gt_int _ _ _ _)
    rw [z1, z2, lexAt_gt] at R
    exact R X.prog X.w E' Q' hQ
  · obtain ⟨h', tk, rfl, hk'⟩ := PySem.W.moved_old e rfl m
    have hP2 : its.toArray[argBest (fun i j => ltL (f j) (f i)) (its.toArray.size - 1)]? = some v := hP
    have hv2 : its[argBest (fun i j => ltL (f j) (f i)) (its.toArray.size - 1)]? = some v := by simpa using hP2
    have hil := (List.getElem?_eq_some_iff.mp hv2).1
    have hn := List.getElem?_eq_getElem (show argBest (fun i j => ltL (f j) (f i)) (its.toArray.size - 1) < xs.length by omega)
    obtain ⟨u, hu1, ru⟩ := rv.get hn
    rw [hv2] at hu1
    cases hu1
    exact ⟨_, H, I.kept hk', ru, q _ (List.mem_of_getElem? hn)⟩
theorem cr_minT {X : Cx} (hc : X.calm = true) (hu : X.A.units + 64 < cLine) : CallR X (.builtin "min") (rMxT X.K) := by
  intro pins s σ H vs us Q I r h
  obtain ⟨a, xs, rfl, hs, hne, hx, q⟩ := h
  obtain ⟨its, rv, hl, _⟩ := I.list hs
  rw [Vals.ref1 r]
  have hitl := rv.length
  obtain ⟨f, hf⟩ := tupsAt I rv hx
  refine call_min_walkH (PySem.W.iter_listW (A := X.A.in1) (I.ok.hd hc) hl.isList fun s₂ e W st hfp hw hk => ?_)
  refine ⟨_, _, _, _, _, _, _, s.heap, (fun i j => ltL (f i) (f j)), rfl, W, st, hfp, by rw [List.size_toArray]; omega, hw, hk, ?_, fun v s' hP m => ?_⟩
  · intro i j vi vj s' Q' E' hk' hi hj hQ
    obtain ⟨b1, u1, rfl, p1, i1⟩ := hf i vi hi
    obtain ⟨b2, u2, rfl, p2, i2⟩ := hf j vj hj
    have q1 : s'.heap.IsTuple b1 u1 := by
      obtain ⟨o, ho, hr⟩ := p1
      exact ⟨o, hk' _ _ ho, hr⟩
    have q2 : s'.heap.IsTuple b2 u2 := by
      obtain ⟨o, ho, hr⟩ := p2
      exact ⟨o, hk' _ _ ho, hr⟩
    refine HT.lt_tupInts q1 q2 (Vals.ints i1) (Vals.ints i2) (by show X.A.units + 1 < cLine; omega) ?_
    rw [lexLt_is]
    exact hQ
  · obtain ⟨h', tk, rfl, hk'⟩ := PySem.W.moved_old e rfl m
    have hP2 : its.toArray[argBest (fun i j => ltL (f i) (f j)) (its.toArray.size - 1)]? = some v := hP
    have hv2 : its[argBest (fun i j => ltL (f i) (f j)) (its.toArray.size - 1)]? = some v := by simpa using hP2
    have hil := (List.getElem?_eq_some_iff.mp hv2).1
    have hn := List.getElem?_eq_getElem (show argBest (fun i j => ltL (f i) (f j)) (its.toArray.size - 1) < xs.length by omega)
    obtain ⟨u, hu1, ru⟩ := rv.get hn
    rw [hv2] at hu1
    cases hu1
    exact ⟨_, H, I.kept hk', ru, q _ (List.mem_of_getElem? hn)⟩
end NL

set_option maxHeartbeats 4000000
namespace NL
open PySem PySem.Spec PyProof.Rows L2
/-! ### max and min of a tuple of ints with a default -/
def rDfT (K : PySem.W.Frag) (le : Int → Int → Prop) : List V → List V → Hp → VK → Prop := fun vs zs H Q => ∃ (a : Addr) (ns : List Int) (d : Int), vs = [V.ref a] ∧ zs = [V.int d] ∧ SqT K H a (ns.map V.int) ∧ ∀ m, (ns = [] → m = d) → (ns ≠ [] → m ∈ ns ∧ ∀ y, y ∈ ns → le y m) → Q (.int m) H
theorem intsAt {ns : List Int} {its : List Value} (rv : L2.Vals (ns.map V.int) its) {i : Nat} {v : Value} (h : its.toArray[i]? = some v) : ∃ n t, ns[i]? = some n ∧ v = .int n t := by
  have hv2 : its[i]? = some v := by simpa using h
  have hil := (List.getElem?_eq_some_iff.mp hv2).1
  have hl := rv.length
  rw [List.length_map] at hl
  have hn := List.getElem?_eq_getElem (show i < ns.length by omega)
  obtain ⟨u, hu1, ru⟩ := rv.get (i := i) (x := V.int ns[i]) (by rw [List.getElem?_map, hn]; rfl)
  rw [hv2] at hu1
  cases hu1
  obtain ⟨t, rfl⟩ := ru
  exact ⟨_, t, hn, rfl⟩
theorem argBest_mn (f : Nat → Int) : ∀ k : Nat, argBest (fun i j => decide (f i < f j)) k ≤ k ∧ ∀ j, j ≤ k → f (argBest (fun i j => decide (f i < f j)) k) ≤ f j
  | 0 => ⟨Nat.le_refl 0, fun j hj => by rw [show j = 0 by omega]; exact Int.le_refl _⟩
  | k + 1 => by
    obtain ⟨h1, h2⟩ := argBest_mn f k
    have e : argBest (fun i j => decide (f i < f j)) (k + 1) = if decide (f (k + 1) < f (argBest (fun i j => decide (f i < f j)) k)) = true then k + 1 else argBest (fun i j => decide (f i < f j)) k := rfl
    rw [e]
    by_cases h : f (k + 1) < f (argBest (fun i j => decide (f i < f j)) k)
    · rw [if_pos (decide_eq_true h)]
      refine ⟨Nat.le_refl _, fun j hj => ?_⟩
      by_cases hk : j = k + 1
      · rw [hk]
        exact Int.le_refl _
      · have := h2 j (by omega)
        omega
    · rw [if_neg (by rw [decide_eq_false h]; exact Bool.false_ne_true)]
      refine ⟨by omega, fun j hj => ?_⟩
      by_cases hk : j = k + 1
      · rw [hk]
        omega
      · exact h2 j (by omega)
theorem cr_maxDfT {X : Cx} (hc : X.calm = true) : CallRK X (.builtin "max") [Str.ofString "default"] (rDfT X.K fun y m => y ≤ m) := by
  intro pins s σ H vs zs us ws Q I r rz h
  obtain ⟨a, ns, d, rfl, rfl, hs, q⟩ := h
  obtain ⟨its, rv, hl, _⟩ := I.tuple hs
  rw [Vals.ref1 r]
  obtain ⟨w1, rfl, e1⟩ := vals1 rz
  obtain ⟨td, rfl⟩ := e1
  have hitl := rv.length
  rw [List.length_map] at hitl
  refine call_max_walkD (PySem.W.iter_tupleW (A := X.A.in1) (I.ok.hd hc) hl fun s₂ e W st hfp hw hk => ?_)
  refine ⟨_, _, _, _, _, _, _, s.heap, (fun i j => decide (ns.getD i 0 > ns.getD j 0)), rfl, W, st, hfp, hw, hk, fun hn s' m => ?_, fun hn => ⟨?_, fun v s' hP m => ?_⟩⟩
  · obtain ⟨h', tk, rfl, hk'⟩ := PySem.W.moved_old e rfl m
    have hne : ns = [] := List.length_eq_zero_iff.mp (by rw [List.size_toArray] at hn; omega)
    exact ⟨.int d, H, I.kept hk', ⟨_, rfl⟩, q d (fun _ => rfl) (fun h => absurd hne h)⟩
  · intro i j vi vj s' Q' E' hk' hi hj hQ
    obtain ⟨n1, t1, h1, rfl⟩ := intsAt rv hi
    obtain ⟨n2, t2, h2, rfl⟩ := intsAt rv hj
    refine PySem.SiftDown.gt_int ?_
    have hQ2 : Q' (.bool (decide (ns.getD i 0 > ns.getD j 0))) s' := hQ
    rw [show ns.getD i 0 = n1 by rw [List.getD_eq_getElem?_getD, h1]; rfl, show ns.getD j 0 = n2 by rw [List.getD_eq_getElem?_getD, h2]; rfl] at hQ2
    exact hQ2
  · obtain ⟨h', tk, rfl, hk'⟩ := PySem.W.moved_old e rfl m
    obtain ⟨b1, b2⟩ := argBest_gt (fun i => ns.getD i 0) (its.toArray.size - 1)
    obtain ⟨n, t, h1, rfl⟩ := intsAt rv hP
    refine ⟨.int n, H, I.kept hk', ⟨_, rfl⟩, q n (fun h => by rw [h] at h1; cases h1) fun _ => ⟨List.mem_of_getElem? h1, fun y hy => ?_⟩⟩
    obtain ⟨j, hj⟩ := List.getElem?_of_mem hy
    have hjl := (List.getElem?_eq_some_iff.mp hj).1
    have h3 := b2 j (by rw [List.size_toArray]; omega)
    have h4 : ns.getD (argBest (fun i j => decide (ns.getD i 0 > ns.getD j 0)) (its.toArray.size - 1)) 0 = n := by rw [List.getD_eq_getElem?_getD, h1]; rfl
    have h5 : ns.getD j 0 = y := by rw [List.getD_eq_getElem?_getD, hj]; rfl
    rw [← h5, ← h4]
    exact h3
theorem cr_minDfT {X : Cx} (hc : X.calm = true) : CallRK X (.builtin "min") [Str.ofString "default"] (rDfT X.K fun y m => m ≤ y) := by
  intro pins s σ H vs zs us ws Q I r rz h
  obtain ⟨a, ns, d, rfl, rfl, hs, q⟩ := h
  obtain ⟨its, rv, hl, _⟩ := I.tuple hs
  rw [Vals.ref1 r]
  obtain ⟨w1, rfl, e1⟩ := vals1 rz
  obtain ⟨td, rfl⟩ := e1
  have hitl := rv.length
  rw [List.length_map] at hitl
  refine call_min_walkD (PySem.W.iter_tupleW (A := X.A.in1) (I.ok.hd hc) hl fun s₂ e W st hfp hw hk => ?_)
  refine ⟨_, _, _, _, _, _, _, s.heap, (fun i j => decide (ns.getD i 0 < ns.getD j 0)), rfl, W, st, hfp, hw, hk, fun hn s' m => ?_, fun hn => ⟨?_, fun v s' hP m => ?_⟩⟩
  · obtain ⟨h', tk, rfl, hk'⟩ := PySem.W.moved_old e rfl m
    have hne : ns = [] := List.length_eq_zero_iff.mp (by rw [List.size_toArray] at hn; omega)
    exact ⟨.int d, H, I.kept hk', ⟨_, rfl⟩, q d (fun _ => rfl) (fun h => absurd hne h)⟩
  · intro i j vi vj s' Q' E' hk' hi hj hQ
    obtain ⟨n1, t1, h1, rfl⟩ := intsAt rv hi
    obtain ⟨n2, t2, h2, rfl⟩ := intsAt rv hj
    refine PyProof.Rows.lt_int ?_
    have hQ2 : Q' (.bool (decide (ns.getD i 0 < ns.getD j 0))) s' := hQ
    rw [show ns.getD i 0 = n1 by rw [List.getD_eq_getElem?_getD, h1]; rfl, show ns.getD j 0 = n2 by rw [List.getD_eq_getElem?_getD, h2]; rfl] at hQ2
    exact hQ2
  · obtain ⟨h', tk, rfl, hk'⟩ := PySem.W.moved_old e rfl m
    obtain ⟨b1, b2⟩ := argBest_mn (fun i => ns.getD i 0) (its.toArray.size - 1)
    obtain ⟨n, t, h1, rfl⟩ := intsAt rv hP
    refine ⟨.int n, H, I.kept hk', ⟨_, rfl⟩, q n (fun h => by rw [h] at h1; cases h1) fun _ => ⟨List.mem_of_getElem? h1, fun y hy => ?_⟩⟩
    obtain ⟨j, hj⟩ := List.getElem?_of_mem hy
    have hjl := (List.getElem?_eq_some_iff.mp hj).1
    have h3 := b2 j (by rw [List.size_toArray]; omega)
    have h4 : ns.getD (argBest (fun i j => decide (ns.getD i 0 < ns.getD j 0)) (its.toArray.size - 1)) 0 = n := by rw [List.getD_eq_getElem?_getD, h1]; rfl
    have h5 : ns.getD j 0 = y := by rw [List.getD_eq_getElem?_getD, hj]; rfl
    rw [← h5, ← h4]
    exact h3
end NL

set_option maxHeartbeats 4000000
namespace NL
open PySem PySem.Spec PyProof.Rows L2
/-! ### the greatest of some numbers, 0 if there are none -/
def gst : List Int → Int
  | [] => 0
  | [a] => a
  | a :: b :: r => max a (gst (b :: r))
theorem gst_ge : ∀ {l : List Int} {y : Int}, y ∈ l → y ≤ gst l
  | [a], y, h => by rw [List.mem_singleton.mp h]; exact Int.le_refl _
  | a :: b :: r, y, h => by
    show y ≤ max a (gst (b :: r))
    rcases List.mem_cons.mp h with rfl | h
    · exact Int.le_max_left _ _
    · exact Int.le_trans (gst_ge h) (Int.le_max_right _ _)
theorem gst_mem : ∀ {l : List Int}, l ≠ [] → gst l ∈ l
  | [a], _ => List.mem_singleton.mpr rfl
  | a :: b :: r, _ => by
    show max a (gst (b :: r)) ∈ a :: b :: r
    rcases Int.le_total a (gst (b :: r)) with h | h
    · rw [Int.max_eq_right h]
      exact List.mem_cons_of_mem _ (gst_mem (by simp))
    · rw [Int.max_eq_left h]
      exact List.mem_cons_self
theorem gst_eq {l : List Int} {m : Int} (h0 : l = [] → m = 0) (h1 : l ≠ [] → m ∈ l ∧ ∀ y, y ∈ l → y ≤ m) : m = gst l := by
  by_cases h : l = []
  · rw [h0 h, h]; rfl
  · obtain ⟨a, b⟩ := h1 h
    have c := gst_ge a
    have d := b _ (gst_mem h)
    omega
/-! ### labels of colours (b true) and of a tank (b false) -/
structure Lx where
  own : Bool
  me : List Int
  n : Int
  ix : Int
  rs : List Int
def wdX : Bool → Bool → Str
  | true, true => "even"
  | true, false => "odd"
  | false, true => "keeps"
  | false, false => "drained"
def numIn (b : Bool) (H : Hp) (L : Lx) (x : V) : Prop := if b = true then ∃ m, x = .ref m ∧ H m = some (.tup (L.me.map V.int)) else x = .int L.n
def endIn (H : Hp) (L : Lx) (y : V) : Prop := if L.own = true then y = .int L.ix else ∃ c, y = .ref c ∧ H c = some (.tup (L.rs.map V.int))
def LxIn (b : Bool) (H : Hp) (L : Lx) (v : V) : Prop := ∃ t x y, v = .ref t ∧ H t = some (.tup [.str (wdX b L.own), x, y]) ∧ numIn b H L x ∧ endIn H L y
theorem numIn.tp {b : Bool} {H H' : Hp} {L : Lx} {x : V} (t : Tp H H') (h : numIn b H L x) : numIn b H' L x := by
  unfold numIn at h ⊢
  split
  · rename_i hb
    rw [if_pos hb] at h
    obtain ⟨m, e, k⟩ := h
    exact ⟨m, e, t _ _ k⟩
  · rename_i hb
    rw [if_neg hb] at h
    exact h
theorem endIn.tp {H H' : Hp} {L : Lx} {x : V} (t : Tp H H') (h : endIn H L x) : endIn H' L x := by
  unfold endIn at h ⊢
  split
  · rename_i hb
    rw [if_pos hb] at h
    exact h
  · rename_i hb
    rw [if_neg hb] at h
    obtain ⟨m, e, k⟩ := h
    exact ⟨m, e, t _ _ k⟩
theorem LxIn.tp {b : Bool} {H H' : Hp} {L : Lx} {v : V} (t : Tp H H') (h : LxIn b H L v) : LxIn b H' L v := by
  obtain ⟨a, x, y, h1, h2, h3, h4⟩ := h
  exact ⟨a, x, y, h1, t _ _ h2, h3.tp t, h4.tp t⟩
def getX (ls : List Lx) (p : Int) : Lx := (ls[p.toNat]?).getD ⟨true, [], 0, 0, []⟩
theorem lx_at {b : Bool} {H : Hp} {ls : List Lx} {xs : List V} (h : Each (LxIn b H) ls xs) {p : Int} (h0 : 0 ≤ p) (h1 : p < ls.length) : ∃ t x y, atI xs p = some (.ref t) ∧ H t = some (.tup [.str (wdX b (getX ls p).own), x, y]) ∧ numIn b H (getX ls p) x ∧ endIn H (getX ls p) y := by
  have hp : p.toNat < ls.length := by omega
  have hl := h.1
  have e1 := List.getElem?_eq_getElem hp
  obtain ⟨t, x, y, e2, e3, e4, e5⟩ := h.2 _ _ _ e1 (List.getElem?_eq_getElem (show p.toNat < xs.length by omega))
  have hat : atI xs p = some (.ref t) := by
    have h2 := List.getElem?_eq_getElem (show p.toNat < xs.length by omega)
    rw [e2] at h2
    have := atI_nat h2
    rw [show ((p.toNat : Nat) : Int) = p by omega] at this
    exact this
  have eg : getX ls p = ls[p.toNat] := by
    unfold getX
    rw [e1]
    rfl
  exact ⟨t, x, y, hat, by rw [eg]; exact e3, by rw [eg]; exact e4, by rw [eg]; exact e5⟩
theorem wd_has (b o : Bool) : inV (.str (wdX b o)) [(.str "holds"), (.str "comes"), (.str "even"), (.str "keeps")] = o := by
  cases b <;> cases o
  · exact (by decide : inV (.str "drained") [(.str "holds"), (.str "comes"), (.str "even"), (.str "keeps")] = false)
  · exact (by decide : inV (.str "keeps") [(.str "holds"), (.str "comes"), (.str "even"), (.str "keeps")] = true)
  · exact (by decide : inV (.str "odd") [(.str "holds"), (.str "comes"), (.str "even"), (.str "keeps")] = false)
  · exact (by decide : inV (.str "even") [(.str "holds"), (.str "comes"), (.str "even"), (.str "keeps")] = true)
theorem wd_eq (b o o' : Bool) : decide (V.str (wdX b o) = V.str (wdX b o')) = decide (o = o') := by
  cases b <;> cases o <;> cases o' <;> decide
theorem wd_ha (b o : Bool) : inV (.str (wdX b o)) [.str "holds", .str "away"] = false := by cases b <;> cases o <;> decide
theorem wd_cd (b o : Bool) : inV (.str (wdX b o)) [.str "comes", .str "driven"] = false := by cases b <;> cases o <;> decide
theorem wd_kd (b o : Bool) : inV (.str (wdX b o)) [.str "keeps", .str "drained"] = !b := by cases b <;> cases o <;> decide
theorem wd_eo (b o : Bool) : inV (.str (wdX b o)) [.str "even", .str "odd"] = b := by cases b <;> cases o <;> decide
theorem wd_even (o : Bool) : decide (V.str (wdX true o) = V.str "even") = o := by cases o <;> decide
theorem wd_keeps (o : Bool) : decide (V.str (wdX false o) = V.str "keeps") = o := by cases o <;> decide
/-! ### which labels fit -/
def sdX (o : Bool) : Int := if o = true then 0 else 1
def efX (c g s : Int) : Int := (g + 1 + s) / 2 - (c + s) / 2
theorem efX_nn {c g s : Int} (h : c ≤ g) : 0 ≤ efX c g s := by unfold efX; omega
def mfX (c g : Int) (L1 L2 : Lx) : Bool := if c % 2 = sdX L1.own then leL (L2.me.take (efX c g (sdX L1.own)).toNat) (L1.me.take (efX c g (sdX L1.own)).toNat) else ltL (L2.me.take (efX c g (sdX L1.own)).toNat) (L1.me.take (efX c g (sdX L1.own)).toNat)
def chX (o : Bool) (n : Nat) (g : Int) : Int := if o = true then g else -((n : Int) * g + 1)
def colX (cs : List Int) (p : Int) : Int := (cs[p.toNat]?).getD 0
def gnX (gn : List (List Int)) (p i : Int) : Int := (((gn[p.toNat]?).getD [])[i.toNat]?).getD 0
/-- a goal: colours, or gains -/
structure Gx where
  b : Bool
  cs : List Int
  gn : List (List Int)
def Gx.gr (G : Gx) : Int := if G.b = true then gst G.cs else 0
def fitX (G : Gx) (n : Nat) (ls : List Lx) (p i q : Int) : Bool :=
  if q = -1 then !(getX ls p).own else if (getX ls p).own ≠ (getX ls q).own then false else
    if G.b = true then mfX (colX G.cs p) (gst G.cs) (getX ls p) (getX ls q) else decide ((getX ls q).n ≤ (getX ls p).n + chX (getX ls p).own n (gnX G.gn p i))
/-- the goal is one of the arena -/
structure GxG (A : Ar) (G : Gx) : Prop where
  cl : G.b = true → G.cs.length = A.length
  c0 : G.b = true → ∀ c ∈ G.cs, 0 ≤ c ∧ c ≤ 1000
  gl : G.b = false → G.gn.length = A.length
  gr : G.b = false → ∀ (k : Nat) os r, A[k]? = some os → G.gn[k]? = some r → r.length = os.length
def ToldIn (G : Gx) (H : Hp) (t : V) : Prop := if G.b = true then ∃ k, t = .ref k ∧ H k = some (.tup (G.cs.map V.int)) else PosIn H G.gn t
theorem ToldIn.tp {G : Gx} {H H' : Hp} {t : V} (s : Tp H H') (h : ToldIn G H t) : ToldIn G H' t := by
  unfold ToldIn at h ⊢
  split
  · rename_i hb
    rw [if_pos hb] at h
    obtain ⟨k, e, z⟩ := h
    exact ⟨k, e, s _ _ z⟩
  · rename_i hb
    rw [if_neg hb] at h
    exact h.tp s
def fxF (a t l g : V) : List (Str × V) := [("arena", a), ("told", t), ("labels", l), ("greatest", g)]
theorem fx_arena {a t l g : V} : (fxF a t l g).lookup ("arena" : Str) = some a := rfl
theorem fx_told {a t l g : V} : (fxF a t l g).lookup ("told" : Str) = some t := rfl
theorem fx_labels {a t l g : V} : (fxF a t l g).lookup ("labels" : Str) = some l := rfl
theorem fx_greatest {a t l g : V} : (fxF a t l g).lookup ("greatest" : Str) = some g := rfl
theorem fx_fits {a t l g : V} : (fxF a t l g).lookup ("fits" : Str) = none := rfl
theorem fx_all_fit {a t l g : V} : (fxF a t l g).lookup ("all_fit" : Str) = none := rfl
theorem fx_mf {a t l g : V} : (fxF a t l g).lookup ("_measures_fit" : Str) = none := rfl
theorem fx_ch {a t l g : V} : (fxF a t l g).lookup ("_change" : Str) = none := rfl
theorem fx_new {a t l g : V} : putF "greatest" g (putF "labels" l (putF "told" t (putF "arena" a []))) = fxF a t l g := rfl
structure FitX (C : Addr) (H : Hp) (f : Addr) (A : Ar) (G : Gx) (ls : List Lx) : Prop where
  obj : ∃ dx v t lb xs, H f = some (.ins C dx (fxF v t (.ref lb) (.int G.gr))) ∧ ArIn H A v ∧ ToldIn G H t ∧ H lb = some (.tup xs) ∧ Each (LxIn G.b H) ls xs
  len : ls.length = A.length
theorem FitX.same {C f : Addr} {H H' : Hp} {A : Ar} {G : Gx} {ls : List Lx} (s : Same H H') (h : FitX C H f A G ls) : FitX C H' f A G ls := by
  obtain ⟨⟨dx, v, t, lb, xs, h1, h2, h3, h4, h5⟩, h6⟩ := h
  exact ⟨⟨dx, v, t, lb, xs, s _ _ h1, h2.tp (Tp.same s), h3.tp (Tp.same s), s _ _ h4, h5.mono fun o x => LxIn.tp (Tp.same s)⟩, h6⟩
theorem cut_to {xs : List Int} {k : Int} (h : 0 ≤ k) : cutV (xs.map V.int) none (some k) = (xs.take k.toNat).map V.int := by
  obtain ⟨n, rfl⟩ : ∃ n : Nat, k = (n : Int) := ⟨k.toNat, by omega⟩
  rw [Int.toNat_natCast, List.map_take]
  unfold cutV
  rw [HT.sIx_none, show HT.sIx (xs.map V.int).length (xs.map V.int).length (some (n : Int)) = min n (xs.map V.int).length from HT.sIx_nat _ _ _, List.drop_zero, Nat.sub_zero]
  by_cases h : n ≤ (xs.map V.int).length
  · rw [Nat.min_eq_left h]
  · rw [Nat.min_eq_right (by omega), List.take_length, List.take_of_length_le (by omega)]
theorem slX_of {K : PySem.W.Frag} {a : Addr} {xs : List V} {lo hi : Option Int} {H : Hp} {Q : VK} (ha : H a = some (.tup xs)) (q : ∀ p H', Same H H' → H' p = some (.tup (cutV xs lo hi)) → Q (.ref p) H') : rSlA K (.ref a) lo hi H Q := by
  refine ⟨a, xs, rfl, sqt ha, fun h => ?_, fun _ p hp => q p _ (same_new hp _) upd_same⟩
  refine q a H (Same.refl H) ?_
  have : cutV xs lo hi = xs := by
    unfold cutV
    rw [h.1, h.2, List.drop_zero, Nat.sub_zero]
    exact List.take_length
  rw [this]
  exact ha
section
variable {P : Program} {w : World} {K : PySem.W.Frag} {mg : Str → Option Value} {base : Heap}
theorem iteC {c : Bool} {i j : V} {σ σ' : L2.St} {H : Hp} {Kk : V → Hp → Prop} (h : Kk (if c = true then i else j) H) : if c = true then tC i σ H Kk else tC j σ' H Kk := by
  cases c
  · exact h
  · exact h
def spHasX : Sp := fun vs H Q _ => ∃ (a : Addr) (b o : Bool) (r : List V), vs = [.ref a] ∧ H a = some (.tup (.str (wdX b o) :: r)) ∧ Q (.bl o) H
theorem gx_has_option (T : Txt K mg) : FnOk P w K mg base CX0 1 T.ahas_option T.dhas_option Phas_option spHasX := by
  refine T.Fhas_option.ok schas_option (fun vs H Q E h => ?_) (fun cdv A outer s H vs Q E hr h => ?_)
  · obtain ⟨a, b, o, r, rfl, _⟩ := h
    rfl
  obtain ⟨a, b, o, r, rfl, e, q⟩ := h
  refine ⟨_, (pss_one (ps_ret (pe_cmpR op_in_seq (pe_ix ix_tup (pv 0) pe_int (fun _ _ => rfl)) (pe_glob (v := .ref T.c_OPTION_KINDS) rfl T.g_OPTION_KINDS rfl) (by rfl)))), ?_⟩
  refine ⟨_, rfl, a, _, _, _, rfl, rfl, sqt e, atI0, T.c_OPTION_KINDS, _, rfl, .inr (.inr T.k_OPTION_KINDS), rfl, by decide, ?_⟩
  exact boolE (wd_has b o) q
def spEnt : Sp := fun vs H Q _ => ∃ c g s : Int, vs = [.int c, .int g, .int s] ∧ Q (.int (efX c g s)) H
theorem ok_entries_from (T : Txt K mg) : FnOk P w K mg base CX0 1 T.aentries_from T.dentries_from Pentries_from spEnt := by
  refine T.Fentries_from.ok scentries_from (fun vs H Q E h => ?_) (fun cdv A outer s H vs Q E hr h => ?_)
  · obtain ⟨c, g, s, rfl, _⟩ := h
    rfl
  obtain ⟨c, g, s, rfl, q⟩ := h
  refine ⟨_, (pss_one (ps_ret (pe_op op_sub (pe_op op_fdiv (pe_op op_add (pe_op op_add (pv 1) pe_int) (pv 2)) pe_int) (pe_op op_fdiv (pe_op op_add (pv 0) (pv 2)) pe_int)))), ?_⟩
  exact ⟨_, rfl, _, _, rfl, rfl, _, rfl, _, _, rfl, rfl, _, _, rfl, rfl, ⟨by decide, by decide⟩, _, rfl, _, rfl, _, _, rfl, rfl, _, _, rfl, rfl, ⟨by decide, by decide⟩, _, _, rfl, rfl, q⟩
def spMf (C : Addr) : Sp := fun vs H Q _ => ∃ (f dx t1 t2 m1 m2 : Addr) (v t lb y1 y2 : V) (g c : Int) (L1 L2 : Lx), vs = [.ref f, .ref t1, .ref t2, .int c] ∧ H f = some (.ins C dx (fxF v t lb (.int g))) ∧ H t1 = some (.tup [.str (wdX true L1.own), .ref m1, y1]) ∧ H t2 = some (.tup [.str (wdX true L2.own), .ref m2, y2]) ∧ H m1 = some (.tup (L1.me.map V.int)) ∧ H m2 = some (.tup (L2.me.map V.int)) ∧ c ≤ g ∧
  ∀ H', Same H H' → Q (.bl (mfX c g L1 L2)) H'
theorem ok_Fitting__measures_fit (T : Txt K mg) : FnOk P w K mg base CX0 2 T.aFitting__measures_fit T.dFitting__measures_fit PFitting__measures_fit (spMf T.C_Fitting) := by
  have Gentries_from := ok_entries_from (P := P) (w := w) (base := base) T
  refine T.FFitting__measures_fit.ok scFitting__measures_fit (fun vs H Q E h => ?_) (fun cdv A outer s H vs Q E hr h => ?_)
  · obtain ⟨f, dx, t1, t2, m1, m2, v, t, lb, y1, y2, g, c, L1, L2', rfl, _⟩ := h
    rfl
  obtain ⟨f, dx, t1, t2, m1, m2, v, t, lb, y1, y2, g, c, L1, L2', rfl, ef, e1, e2, k1, k2, hcg, q⟩ := h
  refine ⟨_, (pss_cons (ps_set (i := 4) scFitting__measures_fit.nd rfl (Or.inl rfl) (pe_ifExp (pt_cmpR op_eq (pe_ix ix_tup (pv 1) pe_int (fun _ _ => rfl)) pe_str (nomark _)) (pe_glob rfl T.g_CONTROLLER T.r_CONTROLLER) (pe_glob rfl T.g_DISTURBANCE T.r_DISTURBANCE)))
    (pss_cons (ps_set (i := 5) scFitting__measures_fit.nd rfl (Or.inl rfl) (pe_call Gentries_from (hr.mono (by omega)) (by rfl) T.mentries_from T.Fentries_from.kp T.bentries_from .nil pass0 (pa_cons (pv 3) (pa_cons (pe_fld (pv 0) rfl) (pa_cons (pv 4) pa_nil)))))
    (pss_cons (ps_if (pt_cmpR op_eq (pe_op op_mod (pv 3) pe_int) (pv 4) (nomark _))
    (pss_one (ps_ret (pe_cmpR (gx_leT hr.units) (pe_slice sl_tupA (pe_ix ix_tup (pv 2) pe_int (fun _ _ => rfl)) po_none (po_some (pv 5))) (pe_slice sl_tupA (pe_ix ix_tup (pv 1) pe_int (fun _ _ => rfl)) po_none (po_some (pv 5))) (nomark _))))
    pss_nil)
    (pss_one (ps_ret (pe_cmpR (gx_ltT hr.units) (pe_slice sl_tupA (pe_ix ix_tup (pv 2) pe_int (fun _ _ => rfl)) po_none (po_some (pv 5))) (pe_slice sl_tupA (pe_ix ix_tup (pv 1) pe_int (fun _ _ => rfl)) po_none (po_some (pv 5))) (nomark _))))))), ?_⟩
  have hnn : 0 ≤ efX c g (sdX L1.own) := efX_nn hcg
  refine ⟨_, rfl, t1, _, _, _, rfl, rfl, sqt e1, atI0, rfl, _, rfl, ?_⟩
  refine iteC ?_
  rw [show (if decide (V.str (wdX true L1.own) = V.str "even") = true then V.int 0 else V.int 1) = V.int (sdX L1.own) by rw [wd_even]; cases L1.own <;> rfl]
  refine ⟨_, rfl, _, rfl, f, _, dx, _, _, rfl, ef, T.cl_Fitting, T.na_Fitting_greatest, fx_greatest, _, rfl, c, g, _, rfl, ?_⟩
  generalize hmy : efX c g (sdX L1.own) = my at *
  refine ⟨_, rfl, _, _, rfl, rfl, (show (0 : Int) < 2 by decide), _, rfl, rfl, _, rfl, ?_⟩
  have cut2 := cut_to (xs := L2'.me) hnn
  have cut1 := cut_to (xs := L1.me) hnn
  have hm : mfX c g L1 L2' = if c % 2 = sdX L1.own then leL (L2'.me.take my.toNat) (L1.me.take my.toNat) else ltL (L2'.me.take my.toNat) (L1.me.take my.toNat) := by
    unfold mfX
    rw [hmy]
  by_cases hc : c % 2 = sdX L1.own
  · rw [if_pos hc] at hm
    refine ifT (decide_eq_true (congrArg V.int hc)) ?_
    refine ⟨_, rfl, t2, _, _, _, rfl, rfl, sqt e2, atI1, ?_⟩
    unfold tNoPart
    refine ⟨_, rfl, _, rfl, slX_of k2 fun p2 H1 s1 g2 => ?_⟩
    refine ⟨_, rfl, t1, _, _, _, rfl, rfl, sqt (s1 _ _ e1), atI1, ?_⟩
    refine ⟨_, rfl, _, rfl, slX_of (s1 _ _ k1) fun p1 H3 s3 g1 => ?_⟩
    rw [cut2] at g2
    rw [cut1] at g1
    exact ⟨p2, p1, _, _, rfl, rfl, sqt (s3 _ _ g2), sqt g1, boolE hm.symm (q H3 (s1.trans s3))⟩
  · rw [if_neg hc] at hm
    refine ifF (decide_eq_false fun h => hc (V.int.inj h)) ?_
    refine ⟨_, rfl, t2, _, _, _, rfl, rfl, sqt e2, atI1, ?_⟩
    unfold tNoPart
    refine ⟨_, rfl, _, rfl, slX_of k2 fun p2 H1 s1 g2 => ?_⟩
    refine ⟨_, rfl, t1, _, _, _, rfl, rfl, sqt (s1 _ _ e1), atI1, ?_⟩
    refine ⟨_, rfl, _, rfl, slX_of (s1 _ _ k1) fun p1 H3 s3 g1 => ?_⟩
    rw [cut2] at g2
    rw [cut1] at g1
    exact ⟨p2, p1, _, _, rfl, rfl, sqt (s3 _ _ g2), sqt g1, boolE hm.symm (q H3 (s1.trans s3))⟩
def spCh (C : Addr) : Sp := fun vs H Q _ => ∃ (f dx : Addr) (v t lb : V) (gr g : Int) (o : Bool) (A : Ar), vs = [.ref f, .str (wdX false o), .int g] ∧ H f = some (.ins C dx (fxF v t lb (.int gr))) ∧ ArIn H A v ∧ A.length ≤ 1000 ∧ Q (.int (chX o A.length g)) H
theorem ok_Fitting__change (T : Txt K mg) : FnOk P w K mg base CX0 1 T.aFitting__change T.dFitting__change PFitting__change (spCh T.C_Fitting) := by
  refine T.FFitting__change.ok scFitting__change (fun vs H Q E h => ?_) (fun cdv A outer s H vs Q E hr h => ?_)
  · obtain ⟨f, dx, v, t, lb, gr, g, o, A, rfl, _⟩ := h
    rfl
  obtain ⟨f, dx, v, t, lb, gr, g, o, A0, rfl, ef, ⟨b0, xs, rfl, e0, hxs⟩, hl, q⟩ := h
  have hxl := hxs.1
  refine ⟨_, (pss_one (ps_ret (pe_ifExp (pt_cmpR op_eq (pv 1) pe_str (nomark _)) (pv 2) (pe_un un_neg (pe_op op_add (pe_op op_mul (pe_callB call_len_seq (by rfl) T.z_len PySem.boot_len (pa_cons (pe_fld (pv 0) rfl) pa_nil)) (pv 2)) pe_int))))), ?_⟩
  refine ⟨_, rfl, rfl, _, rfl, ?_⟩
  cases o with
  | true => exact ifT (wd_keeps true) ⟨_, rfl, q⟩
  | false =>
    refine ifF (wd_keeps false) ?_
    refine ⟨_, rfl, f, _, dx, _, _, rfl, ef, T.cl_Fitting, T.na_Fitting_arena, fx_arena, b0, _, rfl, .inr (sqt e0), _, rfl, _, _, rfl, rfl, .inl ⟨by omega, by omega⟩, _, _, rfl, rfl, _, rfl, ?_⟩
    have : chX false A0.length g = -(((xs.length : Nat) : Int) * g + 1) := by rw [hxl]; rfl
    rw [this] at q
    exact q
def spFitX (C : Addr) : Sp := fun vs H Q _ => ∃ (f : Addr) (A : Ar) (G : Gx) (ls : List Lx) (p i : Nat) (q : Int) (os : Pos'), vs = [.ref f, .int p, .int i, .int q] ∧ FitX C H f A G ls ∧ GxG A G ∧ A.length ≤ 1000 ∧ A[p]? = some os ∧ i < os.length ∧ -1 ≤ q ∧ q < A.length ∧ ∀ H', Same H H' → Q (.bl (fitX G A.length ls p i q)) H'
theorem gx_Fitting_fits (T : Txt K mg) : FnOk P w K mg base CX0 3 T.aFitting_fits T.dFitting_fits PFitting_fits (spFitX T.C_Fitting) := by
  have Ghas_option := gx_has_option (P := P) (w := w) (base := base) T
  have GFitting__measures_fit := ok_Fitting__measures_fit (P := P) (w := w) (base := base) T
  have GFitting__change := ok_Fitting__change (P := P) (w := w) (base := base) T
  refine T.FFitting_fits.ok scFitting_fits (fun vs H Q E h => ?_) (fun cdv A outer s H vs Q E hr h => ?_)
  · obtain ⟨f, A, G, ls, p, i, q, os, rfl, _⟩ := h
    rfl
  obtain ⟨f, A0, G, ls, p, i, q, os, rfl, hF, hGx, h1000, hos, hil, q0, q1, qq⟩ := h
  obtain ⟨⟨dx, v, t, lb, xs, ef, hA, ht, el, hxs⟩, hlen⟩ := id hF
  have hpl := (List.getElem?_eq_some_iff.mp hos).1
  obtain ⟨t1, x1, y1, hat1, et1, hx1, hy1⟩ := lx_at hxs (p := (p : Int)) (by omega) (by omega)
  refine ⟨_, (pss_cons (ps_set (i := 4) scFitting_fits.nd rfl (Or.inl rfl) (pe_ix ix_seq (pe_fld (pv 0) rfl) (pv 1) (fun _ _ => rfl)))
    (pss_cons (ps_if (pt_cmpR op_eq (pv 3) (pe_un un_neg pe_int) (nomark _))
    (pss_one (ps_ret (pe_not (pe_call Ghas_option (hr.mono (by omega)) (by rfl) T.mhas_option T.Fhas_option.kp T.bhas_option .nil pass0 (pa_cons (pv 4) pa_nil)))))
    pss_nil)
    (pss_cons (ps_set (i := 5) scFitting_fits.nd rfl (Or.inl rfl) (pe_ix ix_seq (pe_fld (pv 0) rfl) (pv 3) (fun _ _ => rfl)))
    (pss_cons (ps_if (pt_cmpR op_ne (pe_ix ix_tup (pv 4) pe_int (fun _ _ => rfl)) (pe_ix ix_tup (pv 5) pe_int (fun _ _ => rfl)) (nomark _))
    (pss_one (ps_ret pe_bl))
    pss_nil)
    (pss_cons (ps_if (pt_cmpR op_in_seq (pe_ix ix_tup (pv 4) pe_int (fun _ _ => rfl)) (pe_tup (pa_cons pe_str (pa_cons pe_str pa_nil))) (by rfl))
    (pss_one (ps_ret pe_bl))
    pss_nil)
    (pss_cons (ps_if (pt_cmpR op_in_seq (pe_ix ix_tup (pv 4) pe_int (fun _ _ => rfl)) (pe_tup (pa_cons pe_str (pa_cons pe_str pa_nil))) (by rfl))
    (pss_one (ps_ret (pe_cmpR op_lt (pe_ix ix_tup (pv 5) pe_int (fun _ _ => rfl)) (pe_ix ix_tup (pv 4) pe_int (fun _ _ => rfl)) (nomark _))))
    pss_nil)
    (pss_cons (ps_if (pt_cmpR op_in_seq (pe_ix ix_tup (pv 4) pe_int (fun _ _ => rfl)) (pe_tup (pa_cons pe_str (pa_cons pe_str pa_nil))) (by rfl))
    (pss_one (ps_ret (pe_meth (pv 0) T.cl_Fitting T.mFitting__measures_fit GFitting__measures_fit (hr.mono (by omega)) T.bFitting__measures_fit .nil pass0 (pa_cons (pv 4) (pa_cons (pv 5) (pa_cons (pe_ix ix_tup (pe_fld (pv 0) rfl) (pv 1) (fun _ _ => rfl)) pa_nil))))))
    pss_nil)
    (pss_one (ps_ret (pe_cmpR op_le (pe_ix ix_tup (pv 5) pe_int (fun _ _ => rfl)) (pe_op op_add (pe_ix ix_tup (pv 4) pe_int (fun _ _ => rfl)) (pe_meth (pv 0) T.cl_Fitting T.mFitting__change GFitting__change (hr.mono (by omega)) T.bFitting__change .nil pass0 (pa_cons (pe_ix ix_tup (pv 4) pe_int (fun _ _ => rfl)) (pa_cons (pe_ix ix_tup (pe_ix ix_tup (pe_fld (pv 0) rfl) (pv 1) (fun _ _ => rfl)) (pv 2) (fun _ _ => rfl)) pa_nil)))) (nomark _))))))))))), ?_⟩
  refine ⟨_, rfl, f, _, dx, _, _, rfl, ef, T.cl_Fitting, T.na_Fitting_labels, fx_labels, _, rfl, .inr (.inl ⟨lb, _, _, _, rfl, rfl, sqt el, hat1, ?_⟩)⟩
  refine ⟨_, rfl, _, rfl, rfl, _, rfl, ?_⟩
  by_cases hq1 : q = -1
  · refine ifT (decide_eq_true (by rw [hq1])) ?_
    refine ⟨_, rfl, t1, _, _, _, rfl, et1, _, rfl, ?_⟩
    refine boolE ?_ (qq H (Same.refl H))
    unfold fitX
    rw [if_pos hq1]
  refine ifF (decide_eq_false (fun e => hq1 (V.int.inj e))) ?_
  obtain ⟨t2, x2, y2, hat2, et2, hx2, hy2⟩ := lx_at hxs (p := q) (by omega) (by omega)
  refine ⟨_, rfl, f, _, dx, _, _, rfl, ef, T.cl_Fitting, T.na_Fitting_labels, fx_labels, _, rfl, .inr (.inl ⟨lb, _, _, _, rfl, rfl, sqt el, hat2, ?_⟩)⟩
  have hfit : fitX G A0.length ls p i q = if (getX ls p).own ≠ (getX ls q).own then false else if G.b = true then mfX (colX G.cs p) (gst G.cs) (getX ls p) (getX ls q) else decide ((getX ls q).n ≤ (getX ls p).n + chX (getX ls p).own A0.length (gnX G.gn p i)) := by
    unfold fitX
    rw [if_neg hq1]
  generalize getX ls p = L1 at *
  generalize getX ls q = L2' at *
  refine ⟨_, rfl, t1, _, _, _, rfl, rfl, sqt et1, atI0, _, rfl, t2, _, _, _, rfl, rfl, sqt et2, atI0, rfl, _, rfl, ?_⟩
  by_cases hk : L1.own = L2'.own
  rotate_left
  · rw [if_pos hk] at hfit
    exact ifT (by rw [wd_eq, decide_eq_false hk]; rfl) (boolE hfit.symm (qq H (Same.refl H)))
  rw [if_neg (fun h => h hk)] at hfit
  refine ifF (by rw [wd_eq, decide_eq_true hk]; rfl) ?_
  refine ⟨_, rfl, t1, _, _, _, rfl, rfl, sqt et1, atI0, Nat.le_of_ble_eq_true rfl, fun tt htt => ?_⟩
  obtain ⟨H1, e1, s1, k1⟩ := newH htt (.tup [V.str "holds", V.str "away"])
  rw [e1]
  refine ⟨tt, _, rfl, .inr (sqt k1), rfl, by decide, _, rfl, ?_⟩
  refine ifF (wd_ha _ _) ?_
  refine ⟨_, rfl, t1, _, _, _, rfl, rfl, sqt (s1 _ _ et1), atI0, Nat.le_of_ble_eq_true rfl, fun tu htu => ?_⟩
  obtain ⟨H2, e2, s2, k2⟩ := newH htu (.tup [V.str "comes", V.str "driven"])
  rw [e2]
  have s12 := s1.trans s2
  refine ⟨tu, _, rfl, .inr (sqt k2), rfl, by decide, _, rfl, ?_⟩
  refine ifF (wd_cd _ _) ?_
  refine ⟨_, rfl, t1, _, _, _, rfl, rfl, sqt (s12 _ _ et1), atI0, Nat.le_of_ble_eq_true rfl, fun tw htw => ?_⟩
  obtain ⟨H3, e3, s3, k3⟩ := newH htw (.tup [V.str "even", V.str "odd"])
  rw [e3]
  have s13 := s12.trans s3
  refine ⟨tw, _, rfl, .inr (sqt k3), rfl, by decide, _, rfl, ?_⟩
  cases hb : G.b with
  | true =>
    rw [hb] at et1 et2 hx1 hx2
    rw [if_pos hb] at hfit
    obtain ⟨m1, rfl, km1⟩ : ∃ m, x1 = .ref m ∧ H m = some (.tup (L1.me.map V.int)) := hx1
    obtain ⟨m2, rfl, km2⟩ : ∃ m, x2 = .ref m ∧ H m = some (.tup (L2'.me.map V.int)) := hx2
    have ht' := ht
    unfold ToldIn at ht'
    rw [if_pos hb] at ht'
    obtain ⟨kc, rfl, ekc⟩ := ht'
    have hcl := hGx.cl hb
    have hcp := List.getElem?_eq_getElem (show p < G.cs.length by omega)
    have hcol : colX G.cs (p : Int) = G.cs[p]'(by omega) := by unfold colX; rw [Int.toNat_natCast, hcp]; rfl
    refine ifT (wd_eo true _) ?_
    refine ⟨_, rfl, f, dx, _, rfl, s13 _ _ ef, fx_mf, _, rfl, _, rfl, _, rfl, f, _, dx, _, _, rfl, s13 _ _ ef, T.cl_Fitting, T.na_Fitting_told, fx_told, _, rfl, kc, _, _, _, rfl, rfl, sqt (s13 _ _ ekc), atI_nat (by rw [List.getElem?_map, hcp]; rfl), ?_⟩
    have hge := gst_ge (List.getElem_mem (show p < G.cs.length by omega))
    refine ⟨f, dx, t1, t2, m1, m2, _, _, _, y1, y2, G.gr, _, L1, L2', rfl, s13 _ _ ef, s13 _ _ et1, s13 _ _ et2, s13 _ _ km1, s13 _ _ km2, ?_, fun H4 s4 => boolE ?_ (qq H4 (s13.trans s4))⟩
    · unfold Gx.gr
      rw [if_pos hb]
      exact hge
    · rw [hfit, hcol]
      unfold Gx.gr
      rw [if_pos hb]
  | false =>
    rw [hb] at et1 et2 hx1 hx2
    rw [if_neg (by rw [hb]; exact Bool.false_ne_true)] at hfit
    have hx1' : x1 = .int L1.n := hx1
    have hx2' : x2 = .int L2'.n := hx2
    subst hx1'
    subst hx2'
    have ht' := ht
    unfold ToldIn at ht'
    rw [if_neg (by rw [hb]; exact Bool.false_ne_true)] at ht'
    obtain ⟨kg, zs, rfl, ekg, hzs⟩ := ht'
    have hgl := hGx.gl hb
    obtain ⟨r, hr0⟩ : ∃ r, G.gn[p]? = some r := ⟨_, List.getElem?_eq_getElem (by omega)⟩
    have hrl := hGx.gr hb p os r hos hr0
    obtain ⟨z, hz, br, rfl, ebr⟩ := hzs.at hr0
    obtain ⟨g, hg⟩ : ∃ g, r[i]? = some g := ⟨_, List.getElem?_eq_getElem (by omega)⟩
    have hgn : gnX G.gn (p : Int) (i : Int) = g := by unfold gnX; rw [Int.toNat_natCast, Int.toNat_natCast, hr0]; show (r[i]?).getD 0 = g; rw [hg]; rfl
    refine ifF (wd_eo false _) ?_
    refine ⟨_, rfl, t2, _, _, _, rfl, rfl, sqt (s13 _ _ et2), atI1, _, rfl, t1, _, _, _, rfl, rfl, sqt (s13 _ _ et1), atI1, ?_⟩
    refine ⟨_, rfl, f, dx, _, rfl, s13 _ _ ef, fx_ch, _, rfl, t1, _, _, _, rfl, rfl, sqt (s13 _ _ et1), atI0, _, rfl, f, _, dx, _, _, rfl, s13 _ _ ef, T.cl_Fitting, T.na_Fitting_told, fx_told, _, rfl, kg, _, _, _, rfl, rfl, sqt (s13 _ _ ekg), atI_nat hz, _, rfl, br, _, _, _, rfl, rfl, sqt (s13 _ _ ebr), atI_nat (by rw [List.getElem?_map, hg]; rfl), ?_⟩
    refine ⟨f, dx, _, _, _, _, g, L1.own, A0, rfl, s13 _ _ ef, hA.tp (Tp.same s13), h1000, ?_⟩
    refine ⟨_, _, rfl, rfl, _, _, rfl, rfl, boolE ?_ (qq H3 s13)⟩
    rw [hfit, hgn]
end
end NL

set_option maxHeartbeats 4000000
namespace NL
open PySem PySem.Spec PyProof.Rows L2
theorem forX_enumT {K : PySem.W.Frag} {a : Addr} {xs : List V} {g : TG} {tb : TS} {D : Ends} {σ : L2.St} {H : Hp} (Pv : Nat → L2.St → Hp → Prop) (h0 : Pv 0 σ H) (hq : ∀ i σ H, Pv i σ H → SqT K H a xs)
    (hs : ∀ (i : Nat) (x : V) (t : Addr) σ H, xs[i]? = some x → Pv i σ H → H t = none → g (.ref t) σ (upd H t (.tup [.int (i : Nat), x])) fun σ2 H2 => tb { D with nx := Pv (i + 1), ct := Pv (i + 1), bk := D.nx } σ2 H2) (hd : ∀ σ H, Pv xs.length σ H → D.nx σ H) :
    ∃ W : Nat → Nat → L2.St → Hp → Prop, (∃ m, W 0 m σ H) ∧ ∀ i m σ H, W i m σ H →
      ((EtT K a).stop i H ∧ D.nx σ H) ∨ ((EtT K a).go i H ∧ ∃ N : L2.St → Hp → Prop, (∀ σ' H', N σ' H' → ∃ m', m' < m ∧ W (i + 1) m' σ' H') ∧ ∀ x H', (EtT K a).yld i H x H' → g x σ H' fun σ2 H2 => tb { D with nx := N, ct := N, bk := D.nx } σ2 H2) := by
  refine ⟨fun i m σ H => m + i = xs.length ∧ Pv i σ H, ⟨xs.length, rfl, h0⟩, ?_⟩
  rintro i m σ H ⟨hi, p⟩
  have q := hq i σ H p
  by_cases lt : i < xs.length
  · have ex : xs[i]? = some xs[i] := List.getElem?_eq_getElem lt
    refine .inr ⟨⟨xs, _, q, ex⟩, Pv (i + 1), fun σ' H' p' => ⟨m - 1, by omega, by omega, p'⟩, fun v H' y => ?_⟩
    obtain ⟨t, x1, rfl, ht, rfl, f1⟩ := y
    exact hs i x1 t σ H (f1 xs q) p ht
  · have e : i = xs.length := by omega
    subst e
    exact .inl ⟨⟨xs, q, Nat.le_refl _⟩, hd σ H p⟩
def numX (G : Gx) (L : Lx) : Bool := if G.b = true then decide ((L.me.length : Int) = efX 0 (gst G.cs) (sdX L.own)) && L.me.all fun e => decide (0 ≤ e) else decide (0 ≤ L.n)
def repX (G : Gx) (n : Nat) (ls : List Lx) (p : Int) (rs : List Int) (os : Pos') : Bool := decide (rs.length = os.length) && (List.range rs.length).all fun k => decide ((rs[k]?).getD 0 ∈ (os[k]?).getD []) && fitX G n ls p (k : Int) ((rs[k]?).getD 0)
def coreX (G : Gx) (n : Nat) (ls : List Lx) (p : Int) (os : Pos') (L : Lx) : Bool := if L.own = true then decide (0 ≤ L.ix) && (decide (L.ix < os.length) && ((os[L.ix.toNat]?).getD []).all (fitX G n ls p L.ix)) else repX G n ls p L.rs os
def rightX (G : Gx) (A : Ar) (ls : List Lx) (p : Int) : Bool := numX G (getX ls p) && coreX G A.length ls p ((A[p.toNat]?).getD []) (getX ls p)
def judgeX (G : Gx) (A : Ar) (ls : List Lx) : Bool := decide (ls.length = A.length) && (List.range A.length).all fun k => rightX G A ls (k : Int)
section
variable {P : Program} {w : World} {K : PySem.W.Frag} {mg : Str → Option Value} {base : Heap}
def spAllFitX (C : Addr) : Sp := fun vs H Q _ => ∃ (f : Addr) (A : Ar) (G : Gx) (ls : List Lx) (p i : Nat) (os : Pos') (o : Opt), vs = [.ref f, .int p, .int i] ∧ FitX C H f A G ls ∧ GxG A G ∧ ArG A ∧ A[p]? = some os ∧ os[i]? = some o ∧ ∀ H', Same H H' → Q (.bl (o.all (fitX G A.length ls p i))) H'
theorem gx_Fitting_all_fit (T : Txt K mg) : FnOk P w K mg base CX0 4 T.aFitting_all_fit T.dFitting_all_fit PFitting_all_fit (spAllFitX T.C_Fitting) := by
  have GFitting_fits := gx_Fitting_fits (P := P) (w := w) (base := base) T
  refine T.FFitting_all_fit.ok scFitting_all_fit (fun vs H Q E h => ?_) (fun cdv A outer s H vs Q E hr h => ?_)
  · obtain ⟨f, A, G, ls, p, i, os, o, rfl, _⟩ := h
    rfl
  obtain ⟨f, A0, G, ls, p, i, os, o, rfl, hF, hGx, hG, hos, ho, qq⟩ := h
  have hpl := (List.getElem?_eq_some_iff.mp hos).1
  obtain ⟨⟨dx, v, t, lb, ts, ef, ⟨b0, xs, rfl, e0, hxs⟩, _⟩, _⟩ := id hF
  obtain ⟨x, hx, b1, ys, rfl, e1, hys⟩ := hxs.at hos
  obtain ⟨y, hy, bo, rfl, eo⟩ := hys.at ho
  have hoG := (hG.2 os (List.mem_of_getElem? hos)).2 o (List.mem_of_getElem? ho)
  have hil := (List.getElem?_eq_some_iff.mp ho).1
  have h400 := hG.1
  refine ⟨_, (pss_cons (ps_for  PassesOwn.never rfl (pi_tup (pe_ix ix_tup (pe_ix ix_tup (pe_fld (pv 0) rfl) (pv 1) (fun _ _ => rfl)) (pv 2) (fun _ _ => rfl))) (pg_name (i := 3) scFitting_all_fit.nd rfl (Or.inl rfl))
    (pss_one (ps_if (pt_not (pt_val (pe_meth (pv 0) T.cl_Fitting T.mFitting_fits GFitting_fits (hr.mono (by omega)) T.bFitting_fits .nil pass0 (pa_cons (pv 1) (pa_cons (pv 2) (pa_cons (pv 3) pa_nil))))))
    (pss_one (ps_ret pe_bl))
    pss_nil)))
    (pss_one (ps_ret pe_bl))), ?_⟩
  refine ⟨_, rfl, f, _, dx, _, _, rfl, ef, T.cl_Fitting, T.na_Fitting_arena, fx_arena, _, rfl, b0, _, _, _, rfl, rfl, sqt e0, atI_nat hx, _, rfl, b1, _, _, _, rfl, rfl, sqt e1, atI_nat hy, bo, rfl, ⟨_, sqt eo⟩, ?_⟩
  refine for_tup (K := K) (a := bo) (xs := o.map V.int) (fun (j : Nat) (σ : L2.St) (H' : Hp) => ∃ y3 : Option V, σ = [some (.ref f), some (.int p), some (.int i), y3] ∧ Same H H' ∧ (o.take j).all (fitX G A0.length ls p i) = true) ?_ ?_ ?_ ?_
  · exact ⟨_, rfl, Same.refl _, rfl⟩
  · rintro j σ H' _ ⟨y3, rfl, s1, _⟩
    exact sqt (s1 _ _ eo)
  · rintro j x σ H1 hx ⟨y3, rfl, s1, hall⟩
    rw [List.getElem?_map] at hx
    obtain ⟨c, hc, rfl⟩ := Option.map_eq_some_iff.mp hx
    have hcm := hoG.mem c (List.mem_of_getElem? hc)
    refine ⟨_, rfl, f, dx, _, rfl, s1 _ _ ef, fx_fits, _, rfl, _, rfl, _, rfl, f, A0, G, ls, p, i, c, os, rfl, hF.same s1, hGx, by omega, hos, hil, hcm.1, hcm.2, fun H2 s2 => ⟨_, rfl, ?_⟩⟩
    cases hfit : fitX G A0.length ls p i c with
    | true =>
      refine ifF rfl ⟨_, rfl, s1.trans s2, ?_⟩
      rw [List.take_add_one, hc, List.all_append, hall]
      show (true && (fitX G A0.length ls p i c && true)) = true
      rw [hfit]
      rfl
    | false =>
      refine ifT rfl (boolE ?_ (qq H2 (s1.trans s2)))
      exact (List.all_eq_false.mpr ⟨c, List.mem_of_getElem? hc, by rw [hfit]; exact Bool.false_ne_true⟩).symm
  · rintro σ H1 ⟨y3, rfl, s1, hall⟩
    rw [List.length_map, List.take_length] at hall
    exact boolE hall.symm (qq H1 s1)
/-! ### _numbers_are_right -/
def spNumX (C : Addr) : Sp := fun vs H Q _ => ∃ (f t dx : Addr) (v u lb x y : V) (G : Gx) (L : Lx), vs = [.ref f, .ref t] ∧ H f = some (.ins C dx (fxF v u lb (.int G.gr))) ∧ H t = some (.tup [.str (wdX G.b L.own), x, y]) ∧ numIn G.b H L x ∧ ∀ H', Same H H' → Q (.bl (numX G L)) H'
theorem gx_numbers_are_right (T : Txt K mg) : FnOk P w K mg base CX0 2 T.a_numbers_are_right T.d_numbers_are_right P_numbers_are_right (spNumX T.C_Fitting) := by
  have Gentries_from := ok_entries_from (P := P) (w := w) (base := base) T
  refine T.F_numbers_are_right.ok sc_numbers_are_right (fun vs H Q E h => ?_) (fun cdv A outer s H vs Q E hr h => ?_)
  · obtain ⟨f, t, dx, v, u, lb, x, y, G, L, rfl, _⟩ := h
    rfl
  obtain ⟨f, t, dx, v, u, lb, x, y, G, L, rfl, ef, et, hx, qq⟩ := h
  refine ⟨_, (pss_cons (ps_set (i := 2) sc_numbers_are_right.nd rfl (Or.inl rfl) (pe_ix ix_tup (pv 1) pe_int (fun _ _ => rfl)))
    (pss_cons (ps_if (pt_cmpR op_in_seq (pv 2) (pe_tup (pa_cons pe_str (pa_cons pe_str pa_nil))) (by rfl))
    (pss_one (ps_ret (pe_cmpR op_ge (pe_ix ix_tup (pv 1) pe_int (fun _ _ => rfl)) pe_int (nomark _))))
    pss_nil)
    (pss_cons (ps_if (pt_cmpR op_in_seq (pv 2) (pe_tup (pa_cons pe_str (pa_cons pe_str pa_nil))) (by rfl))
    (pss_one (ps_ret (pe_cmpR op_ge (pe_ix ix_tup (pv 1) pe_int (fun _ _ => rfl)) pe_int (nomark _))))
    pss_nil)
    (pss_cons (ps_if (pt_cmpR op_in_seq (pv 2) (pe_tup (pa_cons pe_str (pa_cons pe_str pa_nil))) (by rfl))
    (pss_cons (ps_set (i := 3) sc_numbers_are_right.nd rfl (Or.inl rfl) (pe_ifExp (pt_cmpR op_eq (pv 2) pe_str (nomark _)) (pe_glob rfl T.g_CONTROLLER T.r_CONTROLLER) (pe_glob rfl T.g_DISTURBANCE T.r_DISTURBANCE)))
    (pss_one (ps_ret (pe_and (pe_cmpR op_eq (pe_callB call_len_seq (by rfl) T.z_len PySem.boot_len (pa_cons (pe_ix ix_tup (pv 1) pe_int (fun _ _ => rfl)) pa_nil)) (pe_call Gentries_from (hr.mono (by omega)) (by rfl) T.mentries_from T.Fentries_from.kp T.bentries_from .nil pass0 (pa_cons pe_int (pa_cons (pe_fld (pv 0) rfl) (pa_cons (pv 3) pa_nil)))) (nomark _)) (pe_one (pe_cmpR op_ge (pe_callBK (cr_minDfT rfl) (by rfl) T.z_min (by decide +kernel) (pa_cons (pe_ix ix_tup (pv 1) pe_int (fun _ _ => rfl)) pa_nil) (pk_cons pe_int pk_nil)) pe_int (nomark _)))))))
    pss_nil)
    (pss_one (ps_ret pe_bl)))))), ?_⟩
  refine ⟨_, rfl, t, _, _, _, rfl, rfl, sqt et, atI0, ?_⟩
  refine ⟨_, rfl, Nat.le_of_ble_eq_true rfl, fun tu htu => ?_⟩
  obtain ⟨H1, e1, s1, k1⟩ := newH htu (.tup [V.str "comes", V.str "driven"])
  rw [e1]
  refine ⟨tu, _, rfl, .inr (sqt k1), rfl, by decide, _, rfl, ?_⟩
  refine ifF (wd_cd _ _) ?_
  refine ⟨_, rfl, Nat.le_of_ble_eq_true rfl, fun t2 ht2 => ?_⟩
  obtain ⟨H2, e2, s2, k2⟩ := newH ht2 (.tup [V.str "keeps", V.str "drained"])
  rw [e2]
  have s12 := s1.trans s2
  refine ⟨t2, _, rfl, .inr (sqt k2), rfl, by decide, _, rfl, ?_⟩
  cases hb : G.b with
  | false =>
    rw [hb] at et hx
    have hx' : x = .int L.n := hx
    subst hx'
    refine ifT (wd_kd false _) ?_
    refine ⟨_, rfl, t, _, _, _, rfl, rfl, sqt (s12 _ _ et), atI1, _, _, rfl, rfl, boolE ?_ (qq H2 s12)⟩
    unfold numX
    rw [if_neg (by rw [hb]; exact Bool.false_ne_true)]
  | true =>
    rw [hb] at et hx
    obtain ⟨m, rfl, km⟩ : ∃ m, x = .ref m ∧ H m = some (.tup (L.me.map V.int)) := hx
    have hn : numX G L = (decide ((L.me.length : Int) = efX 0 (gst G.cs) (sdX L.own)) && L.me.all fun e => decide (0 ≤ e)) := by
      unfold numX
      rw [if_pos hb]
    have hgr : G.gr = gst G.cs := by unfold Gx.gr; rw [if_pos hb]
    rw [hgr] at ef
    refine ifF (wd_kd true _) ?_
    refine ⟨_, rfl, Nat.le_of_ble_eq_true rfl, fun t3 ht3 => ?_⟩
    obtain ⟨H3, e3, s3, k3⟩ := newH ht3 (.tup [V.str "even", V.str "odd"])
    rw [e3]
    have s13 := s12.trans s3
    refine ⟨t3, _, rfl, .inr (sqt k3), rfl, by decide, _, rfl, ?_⟩
    refine ifT (wd_eo true _) ?_
    refine ⟨_, rfl, rfl, _, rfl, ?_⟩
    refine iteC ?_
    rw [show (if decide (V.str (wdX true L.own) = V.str "even") = true then V.int 0 else V.int 1) = V.int (sdX L.own) by rw [wd_even]; cases L.own <;> rfl]
    refine ⟨_, rfl, t, _, _, _, rfl, rfl, sqt (s13 _ _ et), atI1, m, _, rfl, .inr (sqt (s13 _ _ km)), _, rfl, f, _, dx, _, _, rfl, s13 _ _ ef, T.cl_Fitting, T.na_Fitting_greatest, fx_greatest, _, rfl, 0, gst G.cs, sdX L.own, rfl, rfl, ?_⟩
    rw [List.length_map]
    by_cases hl : ((L.me.length : Nat) : Int) = efX 0 (gst G.cs) (sdX L.own)
    rotate_left
    · refine ⟨_, rfl, ?_⟩
      refine ifF (decide_eq_false fun h => hl (V.int.inj h)) ?_
      refine boolE ?_ (qq H3 s13)
      rw [hn, decide_eq_false hl]
      rfl
    refine ⟨_, rfl, ?_⟩
    refine ifT (decide_eq_true (congrArg V.int hl)) ?_
    refine ⟨_, rfl, t, _, _, _, rfl, rfl, sqt (s13 _ _ et), atI1, m, _, 0, rfl, rfl, sqt (s13 _ _ km), fun mn h0 h1 => ?_⟩
    refine ⟨_, _, rfl, rfl, boolE ?_ (qq H3 s13)⟩
    rw [hn, decide_eq_true hl, Bool.true_and]
    by_cases he : L.me = []
    · rw [h0 he, he]
      rfl
    · obtain ⟨a1, a2⟩ := h1 he
      by_cases hm : 0 ≤ mn
      · rw [decide_eq_true hm]
        exact (List.all_eq_true.mpr fun e h => decide_eq_true (by have := a2 e h; omega)).symm
      · rw [decide_eq_false hm]
        exact (List.all_eq_false.mpr ⟨mn, a1, by rw [decide_eq_false hm]; exact Bool.false_ne_true⟩).symm
/-! ### _replies_are_right -/
def spRepX (C : Addr) : Sp := fun vs H Q _ => ∃ (f : Addr) (A : Ar) (G : Gx) (ls : List Lx) (p : Nat) (c : Addr) (rs : List Int) (os : Pos'), vs = [.ref f, .int p, .ref c] ∧ FitX C H f A G ls ∧ GxG A G ∧ ArG A ∧ A[p]? = some os ∧ H c = some (.tup (rs.map V.int)) ∧ ∀ H', Same H H' → Q (.bl (repX G A.length ls p rs os)) H'
theorem gx_replies_are_right (T : Txt K mg) : FnOk P w K mg base CX0 4 T.a_replies_are_right T.d_replies_are_right P_replies_are_right (spRepX T.C_Fitting) := by
  have GFitting_fits := gx_Fitting_fits (P := P) (w := w) (base := base) T
  refine T.F_replies_are_right.ok sc_replies_are_right (fun vs H Q E h => ?_) (fun cdv A outer s H vs Q E hr h => ?_)
  · obtain ⟨f, A, G, ls, p, c, rs, os, rfl, _⟩ := h
    rfl
  obtain ⟨f, A0, G, ls, p, c, rs, os, rfl, hF, hGx, hG, hos, ec, qq⟩ := h
  have hpl := (List.getElem?_eq_some_iff.mp hos).1
  have h400 := hG.1
  obtain ⟨⟨dx, v, t, lb, ts, ef, ⟨b0, xs, rfl, e0, hxs⟩, _⟩, _⟩ := id hF
  obtain ⟨x, hx, b1, ys, rfl, e1, hys⟩ := hxs.at hos
  have hyl := hys.1
  have hosG := hG.2 os (List.mem_of_getElem? hos)
  refine ⟨_, (pss_cons (ps_set (i := 3) sc_replies_are_right.nd rfl (Or.inl rfl) (pe_ix ix_tup (pe_fld (pv 0) rfl) (pv 1) (fun _ _ => rfl)))
    (pss_cons (ps_if (pt_cmpR op_ne (pe_callB call_len_seq (by rfl) T.z_len PySem.boot_len (pa_cons (pv 2) pa_nil)) (pe_callB call_len_seq (by rfl) T.z_len PySem.boot_len (pa_cons (pv 3) pa_nil)) (nomark _))
    (pss_one (ps_ret pe_bl))
    pss_nil)
    (pss_cons (ps_for  PassesOwn.never rfl (pi_enumT (by rfl) T.z_enumerate (pa_cons (pv 2) pa_nil)) (pg_tup rfl (pgs_cons (pg_name (i := 4) sc_replies_are_right.nd rfl (Or.inl rfl)) (pgs_cons (pg_name (i := 5) sc_replies_are_right.nd rfl (Or.inl rfl)) pgs_nil)))
    (pss_one (ps_if (PW.pt (pw_or (pt_cmpR op_notIn_seq (pv 5) (pe_ix ix_tup (pv 3) (pv 4) (fun _ _ => rfl)) (by rfl)) (pw_or1 (pt_not (pt_val (pe_meth (pv 0) T.cl_Fitting T.mFitting_fits GFitting_fits (hr.mono (by omega)) T.bFitting_fits .nil pass0 (pa_cons (pv 1) (pa_cons (pv 4) (pa_cons (pv 5) pa_nil)))))))))
    (pss_one (ps_ret pe_bl))
    pss_nil)))
    (pss_one (ps_ret pe_bl))))), ?_⟩
  refine ⟨_, rfl, f, _, dx, _, _, rfl, ef, T.cl_Fitting, T.na_Fitting_arena, fx_arena, _, rfl, b0, _, _, _, rfl, rfl, sqt e0, atI_nat hx, ?_⟩
  refine ⟨_, rfl, c, _, rfl, .inr (sqt ec), _, rfl, b1, _, rfl, .inr (sqt e1), rfl, _, rfl, ?_⟩
  by_cases hlen : rs.length = os.length
  rotate_left
  · refine ifT (by rw [List.length_map, decide_eq_false (fun e => hlen (by have := V.int.inj e; omega))]; rfl) (boolE ?_ (qq H (Same.refl H)))
    unfold repX
    rw [decide_eq_false hlen]
    rfl
  refine ifF (by rw [List.length_map, decide_eq_true (by congr 1; omega)]; rfl) ?_
  refine ⟨_, rfl, c, _, rfl, sqt ec, ?_⟩
  have hrep : repX G A0.length ls p rs os = (List.range rs.length).all fun k => decide ((rs[k]?).getD 0 ∈ (os[k]?).getD []) && fitX G A0.length ls p (k : Int) ((rs[k]?).getD 0) := by
    unfold repX
    rw [decide_eq_true hlen, Bool.true_and]
  refine forX_enumT (K := K) (a := c) (xs := rs.map V.int) (fun (j : Nat) (σ : L2.St) (H' : Hp) => ∃ y4 y5 : Option V, σ = [some (.ref f), some (.int p), some (.ref c), some (.ref b1), y4, y5] ∧ Same H H' ∧ (List.range j).all (fun k => decide ((rs[k]?).getD 0 ∈ (os[k]?).getD []) && fitX G A0.length ls p (k : Int) ((rs[k]?).getD 0)) = true) ?_ ?_ ?_ ?_
  · exact ⟨_, _, rfl, Same.refl _, rfl⟩
  · rintro j σ H' ⟨y4, y5, rfl, s1, _⟩
    exact sqt (s1 _ _ ec)
  · rintro j x t σ H1 hx1 ⟨y4, y5, rfl, s1, hall⟩ ht
    rw [List.getElem?_map] at hx1
    obtain ⟨r, hr1, rfl⟩ := Option.map_eq_some_iff.mp hx1
    have hj := (List.getElem?_eq_some_iff.mp hr1).1
    obtain ⟨o, ho⟩ : ∃ o, os[j]? = some o := ⟨_, List.getElem?_eq_getElem (by omega)⟩
    obtain ⟨y, hy, bo, rfl, eo⟩ := hys.at ho
    have hoG := hosG.2 o (List.mem_of_getElem? ho)
    obtain ⟨H2, e2, st1, kt⟩ := newH ht (.tup [.int (j : Nat), V.int r])
    rw [e2]
    have s2 := s1.trans st1
    have hone : (decide ((rs[j]?).getD 0 ∈ (os[j]?).getD []) && fitX G A0.length ls p (j : Int) ((rs[j]?).getD 0)) = (decide (r ∈ o) && fitX G A0.length ls p (j : Int) r) := by rw [hr1, ho]; rfl
    have hbad : ¬ (r ∈ o ∧ fitX G A0.length ls p j r = true) → repX G A0.length ls p rs os = false := fun hb => by
      rw [hrep]
      refine List.all_eq_false.mpr ⟨j, List.mem_range.mpr hj, fun e => hb ?_⟩
      rw [hone, Bool.and_eq_true, decide_eq_true_eq] at e
      exact e
    refine ⟨t, _, rfl, sqt kt, rfl, _, _, rfl, _, _, rfl, rfl, ?_⟩
    refine ⟨_, rfl, _, rfl, _, rfl, b1, _, _, _, rfl, rfl, sqt (s2 _ _ e1), atI_nat hy, bo, _, rfl, .inr (sqt (s2 _ _ eo)), rfl, flat_ints' o, _, rfl, ?_⟩
    by_cases hro : r ∈ o
    rotate_left
    · rw [notIn_int, decide_eq_false hro]
      refine iteT (boolE (hbad (fun h => hro h.1)).symm (qq H2 s2))
    rw [notIn_int, decide_eq_true hro]
    refine iteF ?_
    have hcm := hoG.mem r hro
    refine ⟨_, rfl, f, dx, _, rfl, s2 _ _ ef, fx_fits, _, rfl, _, rfl, _, rfl, f, A0, G, ls, p, j, r, os, rfl, hF.same s2, hGx, by omega, hos, by omega, hcm.1, hcm.2, fun H3 s3 => ⟨_, rfl, ?_⟩⟩
    cases hfit : fitX G A0.length ls p j r with
    | false =>
      refine ifT rfl (boolE (hbad (fun h => by rw [hfit] at h; cases h.2)).symm (qq H3 (s2.trans s3)))
    | true =>
      refine ifF rfl ⟨_, _, rfl, s2.trans s3, ?_⟩
      rw [List.range_succ, List.all_append, hall]
      show (true && ((decide ((rs[j]?).getD 0 ∈ (os[j]?).getD []) && fitX G A0.length ls p (j : Int) ((rs[j]?).getD 0)) && true)) = true
      rw [hone, hfit, decide_eq_true hro]
      rfl
  · rintro σ H1 ⟨y4, y5, rfl, s1, hall⟩
    rw [List.length_map] at hall
    exact boolE (hrep.trans hall).symm (qq H1 s1)
/-! ### _is_right -/
def spRightX (C : Addr) : Sp := fun vs H Q _ => ∃ (f : Addr) (A : Ar) (G : Gx) (ls : List Lx) (p : Nat) (os : Pos'), vs = [.ref f, .int p] ∧ FitX C H f A G ls ∧ GxG A G ∧ ArG A ∧ A[p]? = some os ∧ ∀ H', Same H H' → Q (.bl (rightX G A ls p)) H'
theorem wd_not (b o : Bool) : decide (V.str (wdX b o) = V.str "comes") = false ∧ decide (V.str (wdX b o) = V.str "driven") = false ∧ decide (V.str (wdX b o) = V.str "holds") = false ∧ decide (V.str (wdX b o) = V.str "away") = false := by
  cases b <;> cases o <;> decide
theorem gx_is_right (T : Txt K mg) : FnOk P w K mg base CX0 5 T.a_is_right T.d_is_right P_is_right (spRightX T.C_Fitting) := by
  have Ghas_option := gx_has_option (P := P) (w := w) (base := base) T
  have G_numbers_are_right := gx_numbers_are_right (P := P) (w := w) (base := base) T
  have G_replies_are_right := gx_replies_are_right (P := P) (w := w) (base := base) T
  have GFitting_all_fit := gx_Fitting_all_fit (P := P) (w := w) (base := base) T
  refine T.F_is_right.ok sc_is_right (fun vs H Q E h => ?_) (fun cdv A outer s H vs Q E hr h => ?_)
  · obtain ⟨f, A, G, ls, p, os, rfl, _⟩ := h
    rfl
  obtain ⟨f, A0, G, ls, p, os, rfl, hF, hGx, hG, hos, qq⟩ := h
  have hpl := (List.getElem?_eq_some_iff.mp hos).1
  obtain ⟨⟨dx, v, t, lb, ts, ef, hA, ht, el, hts⟩, hlen⟩ := id hF
  obtain ⟨b0, xs, rfl, e0, hxs⟩ := id hA
  obtain ⟨t1, x1, y1, hat1, et1, hx1, hy1⟩ := lx_at hts (p := (p : Int)) (by omega) (by omega)
  obtain ⟨x, hx, b1, ys, rfl, eb1, hys⟩ := hxs.at hos
  have hyl := hys.1
  have hright : rightX G A0 ls p = (numX G (getX ls p) && coreX G A0.length ls p os (getX ls p)) := by
    unfold rightX
    rw [Int.toNat_natCast, hos]
    rfl
  have fin : ∀ b, rightX G A0 ls p = b → ∀ H', Same H H' → Q (.bl b) H' := fun b e H' s' => by rw [← e]; exact qq H' s'
  refine ⟨_, (pss_cons (ps_set (i := 2) sc_is_right.nd rfl (Or.inl rfl) (pe_ix ix_seq (pe_fld (pv 0) rfl) (pv 1) (fun _ _ => rfl)))
    (pss_cons (ps_set (i := 3) sc_is_right.nd rfl (Or.inl rfl) (pe_ix ix_tup (pv 2) pe_int (fun _ _ => rfl)))
    (pss_cons (ps_if (PW.pt (pw_and (pt_cmpR op_eq (pv 3) pe_str (nomark _)) (pw_and1 (pt_cmpR op_in_seq (pv 1) (pe_fld (pv 0) rfl) (by rfl)))))
    (pss_one (ps_ret (pe_cmpR (op_eqD hr.units) (pv 2) (pe_tup (pa_cons pe_str (pa_cons pe_int (pa_cons (pe_un un_neg pe_int) pa_nil)))) (nomark _))))
    pss_nil)
    (pss_cons (ps_if (PW.pt (pw_and (pt_cmpR op_eq (pv 3) pe_str (nomark _)) (pw_and1 (pt_cmpR op_notIn_seq (pv 1) (pe_fld (pv 0) rfl) (by rfl)))))
    (pss_one (ps_ret (pe_cmpR (op_eqD hr.units) (pv 2) (pe_tup (pa_cons pe_str (pa_cons pe_int (pa_cons (pe_tup pa_nil) pa_nil)))) (nomark _))))
    pss_nil)
    (pss_cons (ps_if (PW.pt (pw_and (pt_cmpR op_eq (pv 3) pe_str (nomark _)) (pw_and1 (pt_cmpR op_notIn_seq (pv 1) (pe_fld (pv 0) rfl) (by rfl)))))
    (pss_one (ps_ret pe_bl))
    pss_nil)
    (pss_cons (ps_if (PW.pt (pw_and (pt_cmpR op_eq (pv 3) pe_str (nomark _)) (pw_and1 (pt_cmpR op_in_seq (pv 1) (pe_fld (pv 0) rfl) (by rfl)))))
    (pss_one (ps_ret pe_bl))
    pss_nil)
    (pss_cons (ps_if (pt_not (pt_val (pe_call G_numbers_are_right (hr.mono (by omega)) (by rfl) T.m_numbers_are_right T.F_numbers_are_right.kp T.b_numbers_are_right .nil pass0 (pa_cons (pv 0) (pa_cons (pv 2) pa_nil)))))
    (pss_one (ps_ret pe_bl))
    pss_nil)
    (pss_cons (ps_if (pt_val (pe_call Ghas_option (hr.mono (by omega)) (by rfl) T.mhas_option T.Fhas_option.kp T.bhas_option .nil pass0 (pa_cons (pv 2) pa_nil)))
    (pss_one (ps_ret (pe_and (pe_chain op_le op_lt pe_int (pe_ix ix_tup (pv 2) (pe_un un_neg pe_int) (fun _ _ => rfl)) (pe_callB call_len_seq (by rfl) T.z_len PySem.boot_len (pa_cons (pe_ix ix_tup (pe_fld (pv 0) rfl) (pv 1) (fun _ _ => rfl)) pa_nil))) (pe_one (pe_meth (pv 0) T.cl_Fitting T.mFitting_all_fit GFitting_all_fit (hr.mono (by omega)) T.bFitting_all_fit .nil pass0 (pa_cons (pv 1) (pa_cons (pe_ix ix_tup (pv 2) (pe_un un_neg pe_int) (fun _ _ => rfl)) pa_nil)))))))
    pss_nil)
    (pss_one (ps_ret (pe_call G_replies_are_right (hr.mono (by omega)) (by rfl) T.m_replies_are_right T.F_replies_are_right.kp T.b_replies_are_right .nil pass0 (pa_cons (pv 0) (pa_cons (pv 1) (pa_cons (pe_ix ix_tup (pv 2) (pe_un un_neg pe_int) (fun _ _ => rfl)) pa_nil)))))))))))))), ?_⟩
  refine ⟨_, rfl, f, _, dx, _, _, rfl, ef, T.cl_Fitting, T.na_Fitting_labels, fx_labels, _, rfl, .inr (.inl ⟨lb, _, _, _, rfl, rfl, sqt el, hat1, ?_⟩)⟩
  generalize getX ls p = L at *
  obtain ⟨n1, n2, n3, n4⟩ := wd_not G.b L.own
  refine ⟨_, rfl, t1, _, _, _, rfl, rfl, sqt et1, atI0, ?_⟩
  refine ⟨_, rfl, rfl, _, rfl, ?_⟩
  refine ifF n1 (iteF ?_)
  refine ⟨_, rfl, rfl, _, rfl, ?_⟩
  refine ifF n2 (iteF ?_)
  refine ⟨_, rfl, rfl, _, rfl, ?_⟩
  refine ifF n3 (iteF ?_)
  refine ⟨_, rfl, rfl, _, rfl, ?_⟩
  refine ifF n4 (iteF ?_)
  refine ⟨_, rfl, _, rfl, f, t1, dx, _, _, _, x1, y1, G, L, rfl, ef, et1, hx1, fun H1 s1 => ⟨_, rfl, ?_⟩⟩
  cases hnb : numX G L with
  | false =>
    refine ifT rfl ?_
    exact fin _ (by rw [hright, hnb]; rfl) H1 s1
  | true =>
  rw [hnb, Bool.true_and] at hright
  refine ifF rfl ?_
  refine ⟨_, rfl, t1, _, _, _, rfl, s1 _ _ et1, _, rfl, ?_⟩
  cases ho : L.own with
  | true =>
    have core : coreX G A0.length ls p os L = (decide (0 ≤ L.ix) && (decide (L.ix < os.length) && ((os[L.ix.toNat]?).getD []).all (fitX G A0.length ls p L.ix))) := by
      unfold coreX
      rw [if_pos ho]
    have hy1' : y1 = .int L.ix := by
      unfold endIn at hy1
      rw [if_pos ho] at hy1
      exact hy1
    subst hy1'
    generalize L.ix = i at *
    refine ifT rfl ?_
    refine ⟨_, rfl, _, rfl, t1, _, _, _, rfl, rfl, sqt (s1 _ _ et1), rfl, _, _, rfl, rfl, _, rfl, ?_⟩
    by_cases h0 : 0 ≤ i
    rotate_left
    · rw [decide_eq_false h0]
      rw [core, decide_eq_false h0] at hright
      refine iteF ⟨_, rfl, iteF ?_⟩
      exact fin _ (by rw [hright]; rfl) H1 s1
    rw [decide_eq_true h0]
    refine iteT ?_
    refine ⟨_, rfl, f, _, dx, _, _, rfl, s1 _ _ ef, T.cl_Fitting, T.na_Fitting_arena, fx_arena, _, rfl, b0, _, _, _, rfl, rfl, sqt (s1 _ _ e0), atI_nat hx, b1, _, rfl, .inr (sqt (s1 _ _ eb1)), _, _, rfl, rfl, _, rfl, ?_⟩
    rw [hyl]
    by_cases h1 : i < os.length
    rotate_left
    · rw [decide_eq_false h1]
      rw [core, decide_eq_true h0, decide_eq_false h1] at hright
      refine iteF ?_
      exact fin _ (by rw [hright]; rfl) H1 s1
    rw [decide_eq_true h1]
    refine iteT ?_
    obtain ⟨k, rfl⟩ : ∃ k : Nat, i = (k : Int) := ⟨i.toNat, by omega⟩
    obtain ⟨o, ho⟩ : ∃ o, os[k]? = some o := ⟨_, List.getElem?_eq_getElem (by omega)⟩
    rw [core, decide_eq_true h0, decide_eq_true h1, Int.toNat_natCast, ho] at hright
    refine ⟨_, rfl, f, dx, _, rfl, s1 _ _ ef, fx_all_fit, _, rfl, _, rfl, _, rfl, t1, _, _, _, rfl, rfl, sqt (s1 _ _ et1), rfl, f, A0, G, ls, p, k, os, o, rfl, hF.same s1, hGx, hG, hos, ho, fun H2 s2 => ?_⟩
    exact fin _ (by rw [hright]; rfl) H2 (s1.trans s2)
  | false =>
    have core : coreX G A0.length ls p os L = repX G A0.length ls p L.rs os := by
      unfold coreX
      rw [if_neg (by rw [ho]; exact Bool.false_ne_true)]
    obtain ⟨c1, rfl, ec⟩ : ∃ c, y1 = .ref c ∧ H c = some (.tup (L.rs.map V.int)) := by
      unfold endIn at hy1
      rw [if_neg (by rw [ho]; exact Bool.false_ne_true)] at hy1
      exact hy1
    refine ifF rfl ?_
    refine ⟨_, rfl, _, rfl, _, rfl, _, rfl, t1, _, _, _, rfl, rfl, sqt (s1 _ _ et1), rfl, f, A0, G, ls, p, c1, L.rs, os, rfl, hF.same s1, hGx, hG, hos, s1 _ _ ec, fun H2 s2 => ?_⟩
    exact fin _ (by rw [hright, core]) H2 (s1.trans s2)
/-! ### judge -/
def gwX (b : Bool) : Str := if b = true then "colours" else "tank"
def spInitX (C : Addr) : Sp := fun vs H Q _ => ∃ (p dx g lb : Addr) (v t : V) (G : Gx), vs = [.ref p, v, .ref g, .ref lb] ∧ H p = some (.ins C dx []) ∧ H g = some (.tup [.str (gwX G.b), t]) ∧ ToldIn G H t ∧
  ∀ H', H' p = some (.ins C dx (fxF v t (.ref lb) (.int G.gr))) → (∀ b o, H b = some o → b ≠ p → H' b = some o) → Q .non H'
theorem gx_Fitting___init__ (T : Txt K mg) : FnOk P w K mg base CX0 1 T.aFitting___init__ T.dFitting___init__ PFitting___init__ (spInitX T.C_Fitting) := by
  refine T.FFitting___init__.ok scFitting___init__ (fun vs H Q E h => ?_) (fun cdv A outer s H vs Q E hr h => ?_)
  · obtain ⟨p, dx, g, lb, v, t, G, rfl, _⟩ := h
    rfl
  obtain ⟨p, dx, g, lb, v, t, G, rfl, hp, eg, ht, q⟩ := h
  refine ⟨_, (pss_cons (ps_fld (pv 0) (pv 1) rfl)
    (pss_cons (ps_fld (pv 0) (pe_ix ix_tup (pv 2) pe_int (fun _ _ => rfl)) rfl)
    (pss_cons (ps_fld (pv 0) (pv 3) rfl)
    (pss_one (ps_fld (pv 0) (pe_ifExp (pt_cmpR op_eq (pe_ix ix_tup (pv 2) pe_int (fun _ _ => rfl)) pe_str (nomark _)) (pe_callBK (cr_maxDfT rfl) (by rfl) T.z_max (by decide +kernel) (pa_cons (pe_ix ix_tup (pv 2) pe_int (fun _ _ => rfl)) pa_nil) (pk_cons pe_int pk_nil)) pe_int) rfl))))), ?_⟩
  have hgp : g ≠ p := fun z => by
    rw [z, hp] at eg
    cases eg
  refine ⟨_, rfl, _, rfl, p, _, _, _, rfl, hp, T.cl_Fitting, T.na_Fitting_arena, Nat.le_of_ble_eq_true rfl, ?_⟩
  refine ⟨_, rfl, g, _, _, _, rfl, rfl, sqt (by rw [upd_ne hgp]; exact eg), atI1, _, rfl, p, _, _, _, rfl, upd_same, T.cl_Fitting, T.na_Fitting_told, Nat.le_of_ble_eq_true rfl, ?_⟩
  refine ⟨_, rfl, _, rfl, p, _, _, _, rfl, upd_same, T.cl_Fitting, T.na_Fitting_labels, Nat.le_of_ble_eq_true rfl, ?_⟩
  refine ⟨_, rfl, g, _, _, _, rfl, rfl, sqt (by rw [upd_ne hgp, upd_ne hgp, upd_ne hgp]; exact eg), atI0, rfl, _, rfl, ?_⟩
  have fin : ∀ m : Int, m = G.gr → ∀ H3, H3 p = some (.ins T.C_Fitting dx (putF "labels" (.ref lb) (putF "told" t (putF "arena" v [])))) → (∀ b o, H b = some o → b ≠ p → H3 b = some o) → Q .non (upd H3 p (.ins T.C_Fitting dx (putF "greatest" (.int m) (putF "labels" (.ref lb) (putF "told" t (putF "arena" v [])))))) := fun m hm H3 _ h3 => by
    refine q _ (by rw [upd_same, fx_new, hm]) fun b o e hb => ?_
    rw [upd_ne hb]
    exact h3 b o e hb
  have old : ∀ b o, H b = some o → b ≠ p → (upd (upd (upd H p (.ins T.C_Fitting dx (putF "arena" v []))) p (.ins T.C_Fitting dx (putF "told" t (putF "arena" v [])))) p (.ins T.C_Fitting dx (putF "labels" (.ref lb) (putF "told" t (putF "arena" v []))))) b = some o := fun b o e hb => by
    rw [upd_ne hb, upd_ne hb, upd_ne hb]
    exact e
  cases hb : G.b with
  | false =>
    refine ifF (by decide) ?_
    refine ⟨_, rfl, p, _, _, _, rfl, upd_same, T.cl_Fitting, T.na_Fitting_greatest, Nat.le_of_ble_eq_true rfl, ?_⟩
    exact fin 0 (by unfold Gx.gr; rw [if_neg (by rw [hb]; exact Bool.false_ne_true)]) _ upd_same old
  | true =>
    unfold ToldIn at ht
    rw [if_pos hb] at ht
    obtain ⟨k, rfl, ek⟩ := ht
    have hkp : k ≠ p := fun z => by
      rw [z, hp] at ek
      cases ek
    refine ifT (by decide) ?_
    refine ⟨_, rfl, g, _, _, _, rfl, rfl, sqt (by rw [upd_ne hgp, upd_ne hgp, upd_ne hgp]; exact eg), atI1, k, _, 0, rfl, rfl, sqt (by rw [upd_ne hkp, upd_ne hkp, upd_ne hkp]; exact ek), fun m h0 h1 => ?_⟩
    refine ⟨_, rfl, p, _, _, _, rfl, upd_same, T.cl_Fitting, T.na_Fitting_greatest, Nat.le_of_ble_eq_true rfl, ?_⟩
    exact fin m (by unfold Gx.gr; rw [if_pos hb]; exact gst_eq h0 h1) _ upd_same old
def spJudgeX (C : Addr) : Sp := fun vs H Q _ => ∃ (v t : V) (A : Ar) (g pp : Addr) (G : Gx) (ls : List Lx) (xs : List V), vs = [v, .ref g, .ref pp] ∧ ArIn H A v ∧ ArG A ∧ H g = some (.tup [.str (gwX G.b), t]) ∧ ToldIn G H t ∧ GxG A G ∧ H pp = some (.tup xs) ∧ Each (LxIn G.b H) ls xs ∧ ∀ H', Same H H' → Q (.bl (judgeX G A ls)) H'
theorem ok_judge (T : Txt K mg) : FnOk P w K mg base CX0 6 T.ajudge T.djudge Pjudge (spJudgeX T.C_Fitting) := by
  have G_is_right := gx_is_right (P := P) (w := w) (base := base) T
  have GFitting___init__ := gx_Fitting___init__ (P := P) (w := w) (base := base) T
  refine T.Fjudge.ok scjudge (fun vs H Q E h => ?_) (fun cdv A outer s H vs Q E hr h => ?_)
  · obtain ⟨v, t, A, g, pp, G, ls, xs, rfl, _⟩ := h
    rfl
  obtain ⟨v, t, A0, g, pp, G, ls, xs, rfl, hA, hG, eg, ht, hGx, ep, hls, qq⟩ := h
  have hll := hls.1
  have h400 := hG.1
  obtain ⟨b0, zs, rfl, e0, hzs⟩ := id hA
  have hzl := hzs.1
  refine ⟨_, (pss_cons (ps_if (pt_cmpR op_ne (pe_callB call_len_seq (by rfl) T.z_len PySem.boot_len (pa_cons (pv 2) pa_nil)) (pe_callB call_len_seq (by rfl) T.z_len PySem.boot_len (pa_cons (pv 0) pa_nil)) (nomark _))
    (pss_one (ps_ret pe_bl))
    pss_nil)
    (pss_cons (ps_set (i := 3) scjudge.nd rfl (Or.inr rfl) (pe_make T.mk_Fitting GFitting___init__ (hr.mono (by omega)) (by rfl) T.g_Fitting T.bFitting___init__ .nil pass0 (pa_cons (pv 0) (pa_cons (pv 1) (pa_cons (pv 2) pa_nil)))))
    (pss_one (ps_ret (pe_callB (cr_all rfl) (by rfl) T.z_all (by decide +kernel) (pa_cons (pe_lc (own := [("at", 4)]) (g := (gName 4)) (tt := tYes) rfl scjudge.nd (pi_range1 (by rfl) T.z_range (pa_cons (pe_callB call_len_seq (by rfl) T.z_len PySem.boot_len (pa_cons (pv 0) pa_nil)) pa_nil)) (blkOk_by (N := Njudge) (sc := defScope sjudge) (by decide +kernel)) (fun _ _ _ _ _ => (pg_name (i := 4) scjudge.nd rfl (Or.inl rfl))) (fun _ _ _ _ _ => pts_nil) (fun _ _ _ _ _ => (pe_call G_is_right (hr.mono (by omega)) (by rfl) T.m_is_right T.F_is_right.kp T.b_is_right .nil pass0 (pa_cons (pv 3) (pa_cons (pv 4) pa_nil))))) pa_nil)))))), ?_⟩
  refine ⟨_, rfl, pp, _, rfl, .inr (sqt ep), _, rfl, b0, _, rfl, .inr (sqt e0), rfl, _, rfl, ?_⟩
  by_cases hlen : ls.length = A0.length
  rotate_left
  · refine ifT (by rw [decide_eq_false (fun e => hlen (by have := V.int.inj e; omega))]; rfl) (boolE ?_ (qq H (Same.refl H)))
    unfold judgeX
    rw [decide_eq_false hlen]
    rfl
  refine ifF (by rw [decide_eq_true (by congr 1; omega)]; rfl) ?_
  refine ⟨_, rfl, _, rfl, _, rfl, fun f dx hf hdx hne => ?_⟩
  have hfd : ∀ b o, H b = some o → b ≠ f ∧ b ≠ dx := fun b o e => ⟨fun z => (by rw [z, hf] at e; cases e), fun z => (by rw [z, hdx] at e; cases e)⟩
  have s0 : ∀ b o, H b = some o → (upd (upd H dx (.own f)) f (.ins T.C_Fitting dx [])) b = some o := fun b o e => by
    rw [upd_ne (hfd _ _ e).1, upd_ne (hfd _ _ e).2]
    exact e
  refine ⟨f, dx, g, pp, _, t, G, rfl, upd_same, s0 _ _ eg, ht.tp (Tp.same s0), fun H2 k2 fr2 => ⟨rfl, ?_⟩⟩
  have s2 : Same H H2 := fun b o e => fr2 b o (s0 b o e) (hfd _ _ e).1
  have hF : FitX T.C_Fitting H2 f A0 G ls := ⟨⟨dx, _, t, pp, xs, k2, hA.tp (Tp.same s2), ht.tp (Tp.same s2), s2 _ _ ep, hls.mono fun o x => LxIn.tp (Tp.same s2)⟩, hlen⟩
  refine ⟨_, rfl, b0, _, rfl, .inr (sqt (s2 _ _ e0)), _, rfl, by omega, by omega, fun L hL => ?_⟩
  refine lc_range (lo := 0) (n := ((zs.length : Nat) : Int).toNat) (fun (j : Nat) (H' : Hp) => Same H2 H' ∧ H' L = some (.lst (((List.range j).map fun k : Nat => rightX G A0 ls (k : Int)).map V.bl))) ?_ ?_ ?_
  · exact ⟨same_new hL _, upd_same⟩
  · rintro j H3 hj ⟨s3, k3⟩
    obtain ⟨os, hos⟩ : ∃ os, A0[j]? = some os := ⟨_, List.getElem?_eq_getElem (by omega)⟩
    refine ⟨rfl, ?_⟩
    refine yes_if ?_
    refine ⟨_, rfl, _, rfl, f, A0, G, ls, j, os, by rw [show (0 : Int) + (j : Nat) = (j : Nat) by omega]; rfl, hF.same s3, hGx, hG, hos, fun H4 s4 => ?_⟩
    refine ⟨_, s4 _ _ k3, big' (by rw [List.length_map, List.length_map, List.length_range]; omega), same_put (s3.trans s4) hL, ?_⟩
    rw [upd_same, List.range_succ, List.map_append, List.map_append]
    rfl
  · rintro H3 ⟨s3, k3⟩
    refine ⟨L, _, rfl, sqd k3, ?_⟩
    refine boolE ?_ (qq H3 (s2.trans s3))
    unfold judgeX
    rw [decide_eq_true hlen, Bool.true_and, List.all_map]
    rw [show ((zs.length : Nat) : Int).toNat = A0.length by omega]
    rfl
end
end NL

set_option maxHeartbeats 4000000
namespace NL
open PySem PySem.Spec PyProof.Rows L2
/-- n, n - 1, .., 0 -/
def dnL (n : Nat) : List Int := (List.range (n + 1)).map fun k : Nat => (n : Int) - (k : Int)
theorem dnL_succ (n : Nat) : dnL (n + 1) = ((n : Int) + 1) :: dnL n := by
  unfold dnL
  rw [List.range_succ_eq_map (n := n + 1), List.map_cons, List.map_map]
  refine List.cons_eq_cons.mpr ⟨by simp, List.map_congr_left fun k _ => ?_⟩
  show ((n + 1 : Nat) : Int) - ((k + 1 : Nat) : Int) = (n : Int) - (k : Int)
  omega
/-- the colours that count for a side -/
def cntL (n : Nat) (s : Int) : List Int := (dnL n).filter fun c => decide (c % 2 = s)
theorem cntL_succ (n : Nat) (s : Int) : cntL (n + 1) s = if ((n : Int) + 1) % 2 = s then ((n : Int) + 1) :: cntL n s else cntL n s := by
  unfold cntL
  rw [dnL_succ, List.filter_cons]
  by_cases h : ((n : Int) + 1) % 2 = s
  · rw [if_pos h, if_pos (decide_eq_true h)]
  · rw [if_neg h, if_neg (by rw [decide_eq_false h]; exact Bool.false_ne_true)]
theorem cntL_le (s : Int) : ∀ (n : Nat), ∀ c ∈ cntL n s, 0 ≤ c ∧ c ≤ (n : Int) := fun n c h => by
  unfold cntL dnL at h
  obtain ⟨h, _⟩ := List.mem_filter.mp h
  obtain ⟨k, hk, rfl⟩ := List.mem_map.mp h
  have := List.mem_range.mp hk
  omega
/-- how many of them are at least c -/
theorem cnt_ge (sd : Int) (hs : sd = 0 ∨ sd = 1) : ∀ (n : Nat) (c : Int), 0 ≤ c → c ≤ (n : Int) + 1 → (((cntL n (1 - sd)).filter fun x => decide (c ≤ x)).length : Int) = efX c n sd
  | 0, c, h0, h1 => by
    have e : cntL 0 (1 - sd) = if (0 : Int) % 2 = 1 - sd then [0] else [] := by
      unfold cntL dnL
      rw [List.range_one, List.map_cons, List.map_nil, List.filter_cons, List.filter_nil]
      by_cases h : (0 : Int) % 2 = 1 - sd
      · rw [if_pos h]
        exact if_pos (decide_eq_true h)
      · rw [if_neg h]
        exact if_neg (by show ¬ decide ((0 : Int) % 2 = 1 - sd) = true; rw [decide_eq_false h]; exact Bool.false_ne_true)
    rw [e]
    unfold efX
    have hc : c = 0 ∨ c = 1 := by omega
    rcases hs with rfl | rfl <;> rcases hc with rfl | rfl <;> decide
  | n + 1, c, h0, h1 => by
    rw [cntL_succ]
    by_cases hc : c = (n : Int) + 2
    · have none : ∀ x ∈ (if ((n : Int) + 1) % 2 = 1 - sd then ((n : Int) + 1) :: cntL n (1 - sd) else cntL n (1 - sd)), ¬ decide (c ≤ x) = true := by
        intro x hx hd
        have hd := of_decide_eq_true hd
        have : x ≤ (n : Int) + 1 := by
          split at hx
          · rcases List.mem_cons.mp hx with rfl | hx
            · omega
            · have := cntL_le _ n x hx
              omega
          · have := cntL_le _ n x hx
            omega
        omega
      rw [List.filter_eq_nil_iff.mpr none]
      unfold efX
      rcases hs with rfl | rfl <;> (show (0 : Int) = _) <;> omega
    · have ih := cnt_ge sd hs n c h0 (by omega)
      by_cases h : ((n : Int) + 1) % 2 = 1 - sd
      · rw [if_pos h, List.filter_cons, if_pos (decide_eq_true (by omega)), List.length_cons]
        unfold efX at ih ⊢
        rcases hs with rfl | rfl <;> omega
      · rw [if_neg h, ih]
        unfold efX
        rcases hs with rfl | rfl <;> omega
theorem cnt_len (sd : Int) (hs : sd = 0 ∨ sd = 1) (n : Nat) : ((cntL n (1 - sd)).length : Int) = efX 0 n sd := by
  rw [← cnt_ge sd hs n 0 (Int.le_refl 0) (by omega)]
  congr 1
  rw [List.filter_eq_self.mpr fun x hx => decide_eq_true (cntL_le _ n x hx).1]
/-- the side of the colours that count -/
def sX (o : Bool) : Int := if o = true then 1 else 0
theorem sX_sd (o : Bool) : sX o = 1 - sdX o := by cases o <;> rfl
theorem sd_01 (o : Bool) : sdX o = 0 ∨ sdX o = 1 := by cases o <;> decide
structure ColG (cs : List Int) : Prop where
  c0 : ∀ c ∈ cs, 0 ≤ c ∧ c ≤ 1000
theorem gst_nn {cs : List Int} (h : ∀ c ∈ cs, 0 ≤ c ∧ c ≤ 1000) : 0 ≤ gst cs ∧ gst cs ≤ 1000 := by
  by_cases he : cs = []
  · subst he
    exact ⟨Int.le_refl 0, by decide⟩
  · exact h _ (gst_mem he)
def frLen (cs : List Int) (s : Int) : List Int := (List.range ((gst cs).toNat + 1)).map fun c : Nat => (((cntL (gst cs).toNat s).filter fun x => decide ((c : Int) ≤ x)).length : Int)
def frCnt (cs : List Int) (s : Int) : List Int := (cntL (gst cs).toNat s).map fun c => ((cs.filter fun x => decide (x = c)).length : Int)
def FrIn (H : Hp) (cs : List Int) (s : Int) (v : V) : Prop := ∃ t l m, v = .ref t ∧ H t = some (.tup [.int s, .ref l, .ref m]) ∧ H l = some (.lst ((frLen cs s).map V.int)) ∧ H m = some (.lst ((frCnt cs s).map V.int))
theorem FrIn.same {H H' : Hp} {cs : List Int} {s : Int} {v : V} (k : Same H H') (h : FrIn H cs s v) : FrIn H' cs s v := by
  obtain ⟨t, l, m, h1, h2, h3, h4⟩ := h
  exact ⟨t, l, m, h1, k _ _ h2, k _ _ h3, k _ _ h4⟩
section
variable {P : Program} {w : World} {K : PySem.W.Frag} {mg : Str → Option Value} {base : Heap}
theorem max_gst {cs : List Int} (h : ∀ c ∈ cs, 0 ≤ c ∧ c ≤ 1000) {m : Int} (h1 : m ∈ cs ++ [0]) (h2 : ∀ y, y ∈ cs ++ [0] → y ≤ m) : m = gst cs := by
  have h0 := gst_nn h
  by_cases he : cs = []
  · subst he
    rw [List.nil_append] at h1
    rw [List.mem_singleton.mp h1]
    rfl
  · have a := h2 _ (List.mem_append_left _ (gst_mem he))
    rcases List.mem_append.mp h1 with h1 | h1
    · have := gst_ge h1
      omega
    · have := List.mem_singleton.mp h1
      omega
def spCnt : Sp := fun vs H Q _ => ∃ (k : Addr) (cs : List Int) (s : Int), vs = [.ref k, .int s] ∧ H k = some (.tup (cs.map V.int)) ∧ cs.length ≤ 1000 ∧ (∀ c ∈ cs, 0 ≤ c ∧ c ≤ 1000) ∧ ∀ p H', Same H H' → H p = none → H' p = some (.lst ((cntL (gst cs).toNat s).map V.int)) → Q (.ref p) H'
theorem ok_law_counted (T : Txt K mg) : FnOk P w K mg base CX0 1 T.a_law_counted T.d_law_counted P_law_counted spCnt := by
  refine T.F_law_counted.ok sc_law_counted (fun vs H Q E h => ?_) (fun cdv A outer s H vs Q E hr h => ?_)
  · obtain ⟨k, cs, sd, rfl, _⟩ := h
    rfl
  obtain ⟨k, cs, sd, rfl, ek, hl, hc, q⟩ := h
  have h0 := gst_nn hc
  refine ⟨_, (pss_cons (ps_set (i := 2) sc_law_counted.nd rfl (Or.inr rfl) (pe_callB (cr_max rfl) (by rfl) T.z_max (by decide +kernel) (pa_cons (pe_op op_cat (pe_callTy call_list_of (by rfl) T.z_list (by decide +kernel) (pa_cons (pv 0) pa_nil)) (pe_lst (pa_cons pe_int pa_nil))) pa_nil)))
    (pss_one (ps_ret (pe_lc (own := [("k", 3)]) (g := (gName 3)) (tt := _) rfl sc_law_counted.nd (pi_range1 (by rfl) T.z_range (pa_cons (pe_op op_add (pv 2) pe_int) pa_nil)) (blkOk_by (N := N_law_counted) (sc := defScope s_law_counted) (by decide +kernel)) (fun _ _ _ _ _ => (pg_name (i := 3) sc_law_counted.nd rfl (Or.inl rfl))) (fun _ _ _ _ _ => (pts_one (pt_cmpR op_eq (pe_op op_mod (pe_callTy call_int1 (by rfl) T.z_int (by decide +kernel) (pa_cons (pe_op op_sub (pv 2) (pv 3)) pa_nil)) pe_int) (pv 1) (nomark _)))) (fun _ _ _ _ _ => (pe_op op_sub (pv 2) (pv 3))))))), ?_⟩
  refine ⟨_, rfl, k, _, rfl, .inr (sqt ek), fun l1 hl1 => ?_⟩
  obtain ⟨H1, E1, s1, k1⟩ := newH hl1 (.lst (cs.map V.int))
  rw [E1]
  refine ⟨Nat.le_of_ble_eq_true rfl, fun l2 hl2 => ?_⟩
  obtain ⟨H2, E2, s2, k2⟩ := newH hl2 (.lst [V.int 0])
  rw [E2]
  refine ⟨l1, l2, _, _, rfl, rfl, s2 _ _ k1, k2, big (by rw [List.length_map]; show cs.length + 1 ≤ 1000000; omega), fun l3 hl3 => ?_⟩
  have e3 : cs.map V.int ++ [V.int 0] = (cs ++ [0]).map V.int := by rw [List.map_append]; rfl
  rw [e3]
  obtain ⟨H3, E3, s3, k3⟩ := newH hl3 (.lst ((cs ++ [0]).map V.int))
  rw [E3]
  have s13 := (s1.trans s2).trans s3
  refine ⟨l3, _, rfl, sqd k3, by rw [List.length_append]; exact Nat.succ_pos _, fun mx h1 h2 => ?_⟩
  have hmx := max_gst hc h1 h2
  subst hmx
  obtain ⟨n, hn⟩ : ∃ n : Nat, gst cs = (n : Int) := ⟨(gst cs).toNat, by omega⟩
  rw [hn, Int.toNat_natCast] at q
  rw [hn] at h0 ⊢
  refine ⟨_, rfl, _, _, rfl, rfl, _, rfl, by omega, by omega, fun D hD => ?_⟩
  refine lc_range (lo := 0) (n := ((n : Int) + 1).toNat) (fun (j : Nat) (H' : Hp) => Same H3 H' ∧ H' D = some (.lst ((((dnL n).take j).filter fun c => decide (c % 2 = sd)).map V.int))) ?_ ?_ ?_
  · exact ⟨same_new hD _, upd_same⟩
  · rintro j H4 hj ⟨s4, k4⟩
    generalize hk : (0 : Int) + (j : Int) = kk
    have hkj : kk = (j : Int) := by omega
    clear hk
    subst hkj
    have hat : (dnL n)[j]? = some ((n : Int) - (j : Int)) := by
      unfold dnL
      rw [List.getElem?_map, List.getElem?_range (by omega)]
      rfl
    have hfs := fil_t (fun c => decide (c % 2 = sd)) hat
    have hlen : ((dnL n).take j).length ≤ j := by rw [List.length_take]; exact Nat.min_le_left _ _
    have hfl := List.length_filter_le (fun c => decide (c % 2 = sd)) ((dnL n).take j)
    refine ⟨rfl, ?_⟩
    refine ⟨_, rfl, _, rfl, _, _, rfl, rfl, .inl ⟨_, rfl, _, _, rfl, rfl, (show (0 : Int) < 2 by decide), _, rfl, rfl, _, rfl, ?_⟩⟩
    by_cases hc : ((n : Int) - (j : Int)) % 2 = sd
    · rw [if_pos (decide_eq_true hc)] at hfs
      refine ifT (decide_eq_true (congrArg V.int hc)) ?_
      refine ⟨_, rfl, _, rfl, _, _, rfl, rfl, _, k4, big' (by rw [List.length_map]; omega), same_put s4 hD, ?_⟩
      rw [upd_same, hfs, List.map_append]
      rfl
    · rw [if_neg (by rw [decide_eq_false hc]; exact Bool.false_ne_true), List.append_nil] at hfs
      refine ifF (decide_eq_false fun h => hc (V.int.inj h)) ⟨s4, ?_⟩
      rw [k4, hfs]
  · rintro H4 ⟨s4, k4⟩
    rw [List.take_of_length_le (by unfold dnL; rw [List.length_map, List.length_range]; omega)] at k4
    have hDH : H D = none := s13.free hD
    exact q D H4 (s13.trans s4) hDH k4
def spFrame : Sp := fun vs H Q _ => ∃ (k : Addr) (cs : List Int) (s : Int), vs = [.ref k, .int s] ∧ H k = some (.tup (cs.map V.int)) ∧ cs.length ≤ 1000 ∧ (∀ c ∈ cs, 0 ≤ c ∧ c ≤ 1000) ∧ ∀ v H', Same H H' → FrIn H' cs s v → Q v H'
theorem ok_law_frame (T : Txt K mg) : FnOk P w K mg base CX0 2 T.a_law_frame T.d_law_frame P_law_frame spFrame := by
  have G_law_counted := ok_law_counted (P := P) (w := w) (base := base) T
  refine T.F_law_frame.ok sc_law_frame (fun vs H Q E h => ?_) (fun cdv A outer s H vs Q E hr h => ?_)
  · obtain ⟨k, cs, sd, rfl, _⟩ := h
    rfl
  obtain ⟨k, cs, sd, rfl, ek, hl, hc, q⟩ := h
  have h0 := gst_nn hc
  refine ⟨_, (pss_cons (ps_set (i := 2) sc_law_frame.nd rfl (Or.inl rfl) (pe_call G_law_counted (hr.mono (by omega)) (by rfl) T.m_law_counted T.F_law_counted.kp T.b_law_counted .nil pass0 (pa_cons (pv 0) (pa_cons (pv 1) pa_nil))))
    (pss_cons (ps_set (i := 3) sc_law_frame.nd rfl (Or.inl rfl) (pe_lst pa_nil))
    (pss_cons (ps_for  PassesOwn.never rfl (pi_range1 (by rfl) T.z_range (pa_cons (pe_op op_add (pe_callB (cr_max rfl) (by rfl) T.z_max (by decide +kernel) (pa_cons (pe_op op_cat (pe_callTy call_list_of (by rfl) T.z_list (by decide +kernel) (pa_cons (pv 0) pa_nil)) (pe_lst (pa_cons pe_int pa_nil))) pa_nil)) pe_int) pa_nil)) (pg_name (i := 4) sc_law_frame.nd rfl (Or.inr rfl))
    (pss_one (ps_expr (pe_bm PySem.F.plainAttrs_list PySem.F.slot_list_append PySem.F.type_list_append mt_append (pv 3) (pa_cons (pe_callB call_len_seq (by rfl) T.z_len PySem.boot_len (pa_cons (pe_lc (own := [("known", 5)]) (g := (gName 5)) (tt := _) rfl sc_law_frame.nd (pi_list (pv 2)) (blkOk_by (N := N_law_frame) (sc := defScope s_law_frame) (by decide +kernel)) (fun _ _ _ _ _ => (pg_name (i := 5) sc_law_frame.nd rfl (Or.inl rfl))) (fun _ _ _ _ _ => (pts_one (pt_cmpR op_ge (pv 5) (pv 4) (nomark _)))) (fun _ _ _ _ _ => (pv 5))) pa_nil)) pa_nil)))))
    (pss_one (ps_ret (pe_tup (pa_cons (pv 1) (pa_cons (pv 3) (pa_cons (pe_lc (own := [("colour", 4)]) (g := (gName 4)) (tt := tYes) rfl sc_law_frame.nd (pi_list (pv 2)) (blkOk_by (N := N_law_frame) (sc := defScope s_law_frame) (by decide +kernel)) (fun _ _ _ _ _ => (pg_name (i := 4) sc_law_frame.nd rfl (Or.inr rfl))) (fun _ _ _ _ _ => pts_nil) (fun _ _ _ _ _ => (pe_callB (call_len_seqK (K := K) rfl) (by rfl) T.z_len PySem.boot_len (pa_cons (pe_lc (own := [("known", 5)]) (g := (gName 5)) (tt := _) rfl sc_law_frame.nd (pi_tupK (K := K) rfl (pv 0)) (blkOk_by (by rfl)) (fun _ _ _ _ _ => (pg_name (i := 5) sc_law_frame.nd rfl (Or.inl rfl))) (fun _ _ _ _ _ => (pts_one (pt_cmpR op_eq (pv 5) (pv 4) (nomark _)))) (fun _ _ _ _ _ => (pv 5))) pa_nil)))) pa_nil))))))))), ?_⟩
  refine ⟨_, rfl, _, rfl, k, cs, sd, rfl, ek, hl, hc, fun cl H1 s1 hcl kcl => ?_⟩
  have hcnl : (cntL (gst cs).toNat sd).length ≤ (gst cs).toNat + 1 := by
    unfold cntL
    refine Nat.le_trans (List.length_filter_le _ _) ?_
    unfold dnL
    rw [List.length_map, List.length_range]
    exact Nat.le_refl _
  refine ⟨Nat.zero_le _, fun ll hll => ?_⟩
  obtain ⟨H2, E2, s2, k2⟩ := newH hll (.lst [])
  rw [E2]
  have s12 := s1.trans s2
  have hllH : H ll = none := s1.free hll
  have ncl : cl ≠ ll := fun e => by rw [e, hll] at kcl; cases kcl
  refine ⟨_, rfl, k, _, rfl, .inr (sqt (s12 _ _ ek)), fun l1 hl1 => ?_⟩
  obtain ⟨H3, E3, s3, k3⟩ := newH hl1 (.lst (cs.map V.int))
  rw [E3]
  refine ⟨Nat.le_of_ble_eq_true rfl, fun l2 hl2 => ?_⟩
  obtain ⟨H4, E4, s4, k4⟩ := newH hl2 (.lst [V.int 0])
  rw [E4]
  refine ⟨l1, l2, _, _, rfl, rfl, s4 _ _ k3, k4, big (by rw [List.length_map]; show cs.length + 1 ≤ 1000000; omega), fun l3 hl3 => ?_⟩
  have e3 : cs.map V.int ++ [V.int 0] = (cs ++ [0]).map V.int := by rw [List.map_append]; rfl
  rw [e3]
  obtain ⟨H5, E5, s5, k5⟩ := newH hl3 (.lst ((cs ++ [0]).map V.int))
  rw [E5]
  have s25 := (s3.trans s4).trans s5
  have s15 := s12.trans s25
  refine ⟨l3, _, rfl, sqd k5, by rw [List.length_append]; exact Nat.succ_pos _, fun mx h1 h2 => ?_⟩
  have hmx := max_gst hc h1 h2
  subst hmx
  have hgn : gst cs = ((gst cs).toNat : Int) := by omega
  refine ⟨_, _, rfl, rfl, _, rfl, by omega, by omega, ?_⟩
  refine for_range (lo := 0) (n := (gst cs + 1).toNat) (fun (j : Nat) (σ : L2.St) (H' : Hp) => ∃ y4 y5 : Option V, σ = [some (.ref k), some (.int sd), some (.ref cl), some (.ref ll), y4, y5] ∧ Same H H' ∧ H' cl = some (.lst ((cntL (gst cs).toNat sd).map V.int)) ∧ H' ll = some (.lst (((frLen cs sd).take j).map V.int))) ?_ ?_ ?_
  · exact ⟨none, none, rfl, s15, s25 _ _ (s2 _ _ kcl), s25 _ _ k2⟩
  · rintro j σ H6 hj ⟨y4, y5, rfl, s6, c6, k6⟩
    generalize hk : (0 : Int) + (j : Int) = kk
    have hkj : kk = (j : Int) := by omega
    clear hk
    subst hkj
    refine ⟨_, rfl, .inl ⟨rfl, _, sqd k6⟩, ?_⟩
    refine ⟨_, rfl, cl, rfl, ⟨_, sqd c6⟩, fun D hD => ?_⟩
    have hDn : H6 D = none := hD
    refine lc_list (K := K) (a := cl) (xs := (cntL (gst cs).toNat sd).map V.int) (fun (m : Nat) (H' : Hp) => Same H6 H' ∧ H' D = some (.lst ((((cntL (gst cs).toNat sd).take m).filter fun x => decide ((j : Int) ≤ x)).map V.int))) ?_ ?_ ?_ ?_
    · exact ⟨same_new hD _, upd_same⟩
    · rintro m H' _ ⟨s7, _⟩
      exact sqd (s7 _ _ c6)
    · rintro m x H7 hx ⟨s7, k7⟩
      rw [List.getElem?_map] at hx
      obtain ⟨y, hy, rfl⟩ := Option.map_eq_some_iff.mp hx
      have hfs := fil_t (fun x => decide ((j : Int) ≤ x)) hy
      have hfl := List.length_filter_le (fun x => decide ((j : Int) ≤ x)) ((cntL (gst cs).toNat sd).take m)
      have hfl2 : ((cntL (gst cs).toNat sd).take m).length ≤ (gst cs).toNat + 1 := by rw [List.length_take]; exact Nat.le_trans (Nat.min_le_right _ _) hcnl
      refine ⟨rfl, ?_⟩
      refine ⟨_, rfl, _, rfl, _, _, rfl, rfl, _, rfl, ?_⟩
      by_cases hc : (j : Int) ≤ y
      · rw [if_pos (decide_eq_true hc)] at hfs
        refine ifT (decide_eq_true hc) ?_
        refine ⟨_, rfl, _, k7, big' (by rw [List.length_map]; omega), same_put s7 hD, ?_⟩
        rw [upd_same, hfs, List.map_append]
        rfl
      · rw [if_neg (by rw [decide_eq_false hc]; exact Bool.false_ne_true), List.append_nil] at hfs
        refine ifF (decide_eq_false hc) ⟨s7, ?_⟩
        rw [k7, hfs]
    · rintro H7 ⟨s7, k7⟩
      rw [List.length_map, List.take_length] at k7
      have k67 := s7 _ _ k6
      have hjl : j < (gst cs).toNat + 1 := by omega
      have hfr : (frLen cs sd)[j]? = some (((cntL (gst cs).toNat sd).filter fun x => decide ((j : Int) ≤ x)).length : Int) := by
        unfold frLen
        rw [List.getElem?_map, List.getElem?_range hjl]
        rfl
      refine ⟨D, _, rfl, .inl (sqd k7), ll, _, _, rfl, rfl, k67, big' (by rw [List.length_map, List.length_take]; omega), ?_⟩
      refine ⟨_, _, rfl, same_put (s6.trans s7) hllH, by rw [upd_ne ncl]; exact s7 _ _ c6, ?_⟩
      rw [upd_same, List.take_add_one, hfr, List.map_append, List.length_map]
      rfl
  · rintro σ H6 ⟨y4, y5, rfl, s6, c6, k6⟩
    rw [List.take_of_length_le (by unfold frLen; rw [List.length_map, List.length_range]; omega)] at k6
    refine ⟨_, rfl, _, rfl, _, rfl, cl, rfl, ⟨_, sqd c6⟩, fun D hD => ?_⟩
    refine lc_list (K := K) (a := cl) (xs := (cntL (gst cs).toNat sd).map V.int) (fun (m : Nat) (H' : Hp) => Same H6 H' ∧ H' D = some (.lst (((frCnt cs sd).take m).map V.int))) ?_ ?_ ?_ ?_
    · exact ⟨same_new hD _, upd_same⟩
    · rintro m H' _ ⟨s7, _⟩
      exact sqd (s7 _ _ c6)
    · rintro m x H7 hx ⟨s7, k7⟩
      rw [List.getElem?_map] at hx
      obtain ⟨y, hy, rfl⟩ := Option.map_eq_some_iff.mp hx
      have hml := (List.getElem?_eq_some_iff.mp hy).1
      refine ⟨rfl, yes_if ?_⟩
      refine ⟨_, rfl, k, rfl, ⟨_, sqt ((s6.trans s7) _ _ ek)⟩, fun D2 hD2 => ?_⟩
      refine lc_tup (K := K) (a := k) (xs := cs.map V.int) (fun (i : Nat) (H' : Hp) => Same H7 H' ∧ H' D2 = some (.lst (((cs.take i).filter fun x => decide (x = y)).map V.int))) ?_ ?_ ?_ ?_
      · exact ⟨same_new hD2 _, upd_same⟩
      · rintro i H' _ ⟨s8, _⟩
        exact sqt ((s6.trans s7).trans s8 _ _ ek)
      · rintro i x H8 hx8 ⟨s8, k8⟩
        rw [List.getElem?_map] at hx8
        obtain ⟨z, hz, rfl⟩ := Option.map_eq_some_iff.mp hx8
        have hfs := fil_t (fun x => decide (x = y)) hz
        have hfl := List.length_filter_le (fun x => decide (x = y)) (cs.take i)
        have hfl2 : (cs.take i).length ≤ cs.length := by rw [List.length_take]; exact Nat.min_le_right _ _
        refine ⟨rfl, ?_⟩
        refine ⟨_, rfl, _, rfl, rfl, _, rfl, ?_⟩
        by_cases hzy : z = y
        · rw [if_pos (decide_eq_true hzy)] at hfs
          refine ifT (decide_eq_true (congrArg V.int hzy)) ?_
          refine ⟨_, rfl, _, k8, big' (by rw [List.length_map]; omega), same_put s8 hD2, ?_⟩
          rw [upd_same, hfs, List.map_append]
          rfl
        · rw [if_neg (by rw [decide_eq_false hzy]; exact Bool.false_ne_true), List.append_nil] at hfs
          refine ifF (decide_eq_false fun h => hzy (V.int.inj h)) ⟨s8, ?_⟩
          rw [k8, hfs]
      · rintro H8 ⟨s8, k8⟩
        rw [List.length_map, List.take_length] at k8
        refine ⟨D2, _, rfl, .inl (sqd k8), _, s8 _ _ k7, big' (by rw [List.length_map, List.length_take]; omega), same_put (s7.trans s8) hD, ?_⟩
        have hfc : (frCnt cs sd)[m]? = some ((cs.filter fun x => decide (x = y)).length : Int) := by
          unfold frCnt
          rw [List.getElem?_map, hy]
          rfl
        rw [upd_same, List.take_add_one, hfc, List.map_append, List.length_map]
        rfl
    · rintro H7 ⟨s7, k7⟩
      rw [List.length_map, List.take_of_length_le (by unfold frCnt; rw [List.length_map]; exact Nat.le_refl _)] at k7
      refine ⟨Nat.le_of_ble_eq_true rfl, fun t ht => ?_⟩
      have s8 := same_new ht (.tup [V.int sd, .ref ll, .ref D])
      exact q _ _ ((s6.trans s7).trans s8) ⟨t, ll, D, rfl, upd_same, s8 _ _ (s7 _ _ k6), s8 _ _ k7⟩
end
end NL

set_option maxHeartbeats 4000000
namespace NL
open PySem PySem.Spec PyProof.Rows L2
theorem in_int2 {x : Int} {l : List Int} : (if false = true then !inV (V.int x) (l.map V.int) else inV (V.int x) (l.map V.int)) = decide (x ∈ l) := by
  rw [if_neg Bool.false_ne_true, int_in]
theorem flat_bls : ∀ bs : List Bool, (bs.map V.bl).all flatV = true
  | [] => rfl
  | a :: r => by rw [List.map_cons, List.all_cons, flat_bls r]; rfl
theorem inF_bls : ∀ bs : List Bool, inV (V.bl false) (bs.map V.bl) = !(bs.all id)
  | [] => rfl
  | a :: r => by
    have ih := inF_bls r
    unfold inV at ih ⊢
    rw [List.map_cons, List.any_cons, ih, List.all_cons]
    cases a
    · rfl
    · rfl
theorem notF_bls (bs : List Bool) : (if true = true then !inV (V.bl false) (bs.map V.bl) else inV (V.bl false) (bs.map V.bl)) = bs.all id := by
  rw [if_pos rfl, inF_bls, Bool.not_not]
/-! ### the law's own judge of colours -/
def okC (cs : List Int) (ls : List Lx) (p q : Int) : Bool := if q = -1 then !(getX ls p).own else if (getX ls p).own ≠ (getX ls q).own then false else mfX (colX cs p) (gst cs) (getX ls p) (getX ls q)
theorem okC_fit (cs : List Int) (gn : List (List Int)) (n : Nat) (ls : List Lx) (p i q : Int) : fitX ⟨true, cs, gn⟩ n ls p i q = okC cs ls p q := rfl
theorem mf_may {cs : List Int} {L1 L2 : Lx} {c : Int} (h0 : 0 ≤ c) (h1 : c ≤ gst cs) (a b : List Int) : (if c % 2 = sdX L1.own then leL b a else ltL b a) = (ltL b a || (decide (a = b) && decide (c % 2 ≠ sX L1.own))) := by
  have hm : c % 2 = 0 ∨ c % 2 = 1 := by omega
  by_cases h : c % 2 = sdX L1.own
  · rw [if_pos h, leL_iff, decide_eq_true (show c % 2 ≠ sX L1.own by rw [sX_sd]; omega), Bool.and_true]
    congr 1
    exact decide_eq_decide.mpr ⟨fun h => h.symm, fun h => h.symm⟩
  · have e : c % 2 = sX L1.own := by
      rw [sX_sd]
      rcases sd_01 L1.own with hs | hs <;> omega
    rw [if_neg h, decide_eq_false (show ¬ (c % 2 ≠ sX L1.own) from fun h => h e), Bool.and_false, Bool.or_false]
section
variable {P : Program} {w : World} {K : PySem.W.Frag} {mg : Str → Option Value} {base : Heap}
def spMay : Sp := fun vs H Q _ => ∃ (f : V) (a b : Addr) (cs : List Int) (c : Int) (L1 L2 : Lx), vs = [f, .int c, .ref a, .ref b] ∧ FrIn H cs (sX L1.own) f ∧ (∀ c ∈ cs, 0 ≤ c ∧ c ≤ 1000) ∧ c ∈ cs ∧ H a = some (.tup (L1.me.map V.int)) ∧ H b = some (.tup (L2.me.map V.int)) ∧ ∀ H', Same H H' → Q (.bl (mfX c (gst cs) L1 L2)) H'
theorem ok_law_may (T : Txt K mg) : FnOk P w K mg base CX0 1 T.a_law_may T.d_law_may P_law_may spMay := by
  refine T.F_law_may.ok sc_law_may (fun vs H Q E h => ?_) (fun cdv A outer s H vs Q E hr h => ?_)
  · obtain ⟨f, a, b, cs, c, L1, L2', rfl, _⟩ := h
    rfl
  obtain ⟨f, a, b, cs, c, L1, L2', rfl, ⟨t, l, m, rfl, kt, kl, km⟩, hc, hcm, ka, kb, q⟩ := h
  have h0 := (hc c hcm).1
  have h1 := gst_ge hcm
  have hn : (((gst cs).toNat : Nat) : Int) = gst cs := by omega
  have hfr : (frLen cs (sX L1.own))[c.toNat]? = some (efX c (gst cs) (sdX L1.own)) := by
    unfold frLen
    rw [List.getElem?_map, List.getElem?_range (by omega), Option.map_some, sX_sd]
    have := cnt_ge (sdX L1.own) (sd_01 _) (gst cs).toNat c h0 (by omega)
    rw [hn] at this
    rw [← this, show ((c.toNat : Nat) : Int) = c by omega]
  have hnn : 0 ≤ efX c (gst cs) (sdX L1.own) := efX_nn h1
  have hat : atI ((frLen cs (sX L1.own)).map V.int) c = some (V.int (efX c (gst cs) (sdX L1.own))) := by
    have := atI_nat (mapV hfr)
    rw [show ((c.toNat : Nat) : Int) = c by omega] at this
    exact this
  have hmf : mfX c (gst cs) L1 L2' = (ltL (L2'.me.take (efX c (gst cs) (sdX L1.own)).toNat) (L1.me.take (efX c (gst cs) (sdX L1.own)).toNat) || (decide (L1.me.take (efX c (gst cs) (sdX L1.own)).toNat = L2'.me.take (efX c (gst cs) (sdX L1.own)).toNat) && decide (c % 2 ≠ sX L1.own))) := by
    unfold mfX
    exact mf_may (L2 := L2') h0 h1 _ _
  generalize hmy : efX c (gst cs) (sdX L1.own) = my at *
  have cut2 := cut_to (xs := L2'.me) hnn
  have cut1 := cut_to (xs := L1.me) hnn
  refine ⟨_, (pss_cons (ps_set (i := 4) sc_law_may.nd rfl (Or.inl rfl) (pe_slice sl_tupA (pv 2) po_none (po_some (pe_ix ix_list (pe_ix ix_tup (pv 0) pe_int (fun _ _ => rfl)) (pv 1) (fun _ _ => rfl)))))
    (pss_cons (ps_set (i := 5) sc_law_may.nd rfl (Or.inl rfl) (pe_slice sl_tupA (pv 3) po_none (po_some (pe_ix ix_list (pe_ix ix_tup (pv 0) pe_int (fun _ _ => rfl)) (pv 1) (fun _ _ => rfl)))))
    (pss_one (ps_ret (pe_or (pe_cmpR (gx_gtT hr.units) (pv 4) (pv 5) (nomark _)) (pe_one (pe_and (pe_cmpR (op_eqD hr.units) (pv 4) (pv 5) (nomark _)) (pe_one (pe_cmpR op_ne (pe_op op_mod (pe_callTy call_int1 (by rfl) T.z_int (by decide +kernel) (pa_cons (pv 1) pa_nil)) pe_int) (pe_ix ix_tup (pv 0) pe_int (fun _ _ => rfl)) (nomark _)))))))))), ?_⟩
  refine ⟨_, rfl, ?_⟩
  unfold tNoPart
  refine ⟨_, rfl, t, _, _, _, rfl, rfl, sqt kt, atI1, _, rfl, l, _, _, _, rfl, rfl, sqd kl, hat, _, rfl, slX_of ka fun p1 H1 s1 g1 => ?_⟩
  refine ⟨_, rfl, ?_⟩
  refine ⟨_, rfl, t, _, _, _, rfl, rfl, sqt (s1 _ _ kt), atI1, _, rfl, l, _, _, _, rfl, rfl, sqd (s1 _ _ kl), hat, _, rfl, slX_of (s1 _ _ kb) fun p2 H2 s2 g2 => ?_⟩
  rw [cut1] at g1
  rw [cut2] at g2
  have s12 := s1.trans s2
  have g1' := s2 _ _ g1
  generalize L1.me.take my.toNat = x1 at *
  generalize L2'.me.take my.toNat = x2 at *
  refine ⟨_, rfl, _, rfl, p1, p2, _, _, rfl, rfl, sqt g1', sqt g2, _, rfl, ?_⟩
  cases hlt : ltL x2 x1 with
  | true =>
    refine ifT hlt (boolE ?_ (q H2 s12))
    rw [hmf, hlt]
    rfl
  | false =>
    rw [hlt, Bool.false_or] at hmf
    refine ifF hlt ?_
    refine ⟨_, rfl, _, rfl, .tuple (x1.map PyData.int), .tuple (x2.map PyData.int), .tup (sqt g1') (dp_intsX _), .tup (sqt g2) (dp_intsX _), shaped_tupX _, shaped_tupX _, _, rfl, ?_⟩
    by_cases he : x1 = x2
    · refine ifT ((eqv_intsX _ _).trans (decide_eq_true he)) ?_
      rw [decide_eq_true he, Bool.true_and] at hmf
      refine ⟨_, rfl, .inl ⟨_, rfl, _, _, rfl, rfl, (show (0 : Int) < 2 by decide), _, rfl, t, _, _, _, rfl, rfl, sqt (s12 _ _ kt), atI0, rfl, boolE ?_ (q H2 s12)⟩⟩
      rw [hmf]
      by_cases hz : c % 2 = sX L1.own
      · rw [show decide (c % 2 ≠ sX L1.own) = false from decide_eq_false (fun h => h hz)]
        exact congrArg (! ·) (decide_eq_true (congrArg V.int hz))
      · rw [show decide (c % 2 ≠ sX L1.own) = true from decide_eq_true hz]
        exact congrArg (! ·) (decide_eq_false fun h => hz (V.int.inj h))
    · refine ifF ((eqv_intsX _ _).trans (decide_eq_false he)) (boolE ?_ (q H2 s12))
      rw [hmf, decide_eq_false he]
      rfl
def repR (rs : List Int) (os : Pos') : Bool := decide (rs.length = os.length) && (List.range os.length).all fun k => decide ((rs[k]?).getD 0 ∈ (os[k]?).getD [])
def spRR : Sp := fun vs H Q _ => ∃ (v : V) (c : Addr) (os : Pos') (rs : List Int), vs = [v, .ref c] ∧ PosIn H os v ∧ os.length ≤ 1000 ∧ H c = some (.tup (rs.map V.int)) ∧ ∀ H', Same H H' → Q (.bl (repR rs os)) H'
theorem ok_law_replies_right (T : Txt K mg) : FnOk P w K mg base CX0 1 T.a_law_replies_right T.d_law_replies_right P_law_replies_right spRR := by
  refine T.F_law_replies_right.ok sc_law_replies_right (fun vs H Q E h => ?_) (fun cdv A outer s H vs Q E hr h => ?_)
  · obtain ⟨v, c, os, rs, rfl, _⟩ := h
    rfl
  obtain ⟨v, c, os, rs, rfl, ⟨b, xs, rfl, eb, hxs⟩, h1000, ec, q⟩ := h
  have hxl := hxs.1
  refine ⟨_, (pss_cons (ps_if (pt_cmpR op_ne (pe_callB call_len_seq (by rfl) T.z_len PySem.boot_len (pa_cons (pv 1) pa_nil)) (pe_callB call_len_seq (by rfl) T.z_len PySem.boot_len (pa_cons (pv 0) pa_nil)) (nomark _))
    (pss_one (ps_ret pe_bl))
    pss_nil)
    (pss_one (ps_ret (pe_cmpR op_notIn_seq pe_bl (pe_lc (own := [("k", 2)]) (g := (gName 2)) (tt := tYes) rfl sc_law_replies_right.nd (pi_range1 (by rfl) T.z_range (pa_cons (pe_callB call_len_seq (by rfl) T.z_len PySem.boot_len (pa_cons (pv 0) pa_nil)) pa_nil)) (blkOk_by (N := N_law_replies_right) (sc := defScope s_law_replies_right) (by decide +kernel)) (fun _ _ _ _ _ => (pg_name (i := 2) sc_law_replies_right.nd rfl (Or.inl rfl))) (fun _ _ _ _ _ => pts_nil) (fun _ _ _ _ _ => (pe_cmpR (op_in_seqK (K := K) rfl) (pe_ix (ix_tupK (K := K) rfl) (pv 1) (pv 2) (fun _ _ => rfl)) (pe_ix (ix_tupK (K := K) rfl) (pv 0) (pv 2) (fun _ _ => rfl)) (by rfl)))) (by rfl))))), ?_⟩
  refine ⟨_, rfl, c, _, rfl, .inr (sqt ec), _, rfl, b, _, rfl, .inr (sqt eb), rfl, _, rfl, ?_⟩
  by_cases hlen : rs.length = os.length
  rotate_left
  · refine ifT (by rw [List.length_map, decide_eq_false (fun e => hlen (by have := V.int.inj e; omega))]; rfl) (boolE ?_ (q H (Same.refl H)))
    unfold repR
    rw [decide_eq_false hlen]
    rfl
  refine ifF (by rw [List.length_map, decide_eq_true (by congr 1; omega)]; rfl) ?_
  refine ⟨_, rfl, b, _, rfl, .inr (sqt eb), _, rfl, by omega, by omega, fun D hD => ?_⟩
  refine lc_range (lo := 0) (n := ((xs.length : Nat) : Int).toNat) (fun (j : Nat) (H' : Hp) => Same H H' ∧ H' D = some (.lst (((List.range j).map fun k : Nat => decide ((rs[k]?).getD 0 ∈ (os[k]?).getD [])).map V.bl))) ?_ ?_ ?_
  · exact ⟨same_new hD _, upd_same⟩
  · rintro j H1 hj ⟨s1, k1⟩
    generalize hk : (0 : Int) + (j : Int) = kk
    have hkj : kk = (j : Int) := by omega
    clear hk
    subst hkj
    obtain ⟨r, hr1⟩ : ∃ r, rs[j]? = some r := ⟨_, List.getElem?_eq_getElem (by omega)⟩
    obtain ⟨o, ho⟩ : ∃ o, os[j]? = some o := ⟨_, List.getElem?_eq_getElem (by omega)⟩
    obtain ⟨y, hy, bo, rfl, eo⟩ := hxs.at ho
    refine ⟨rfl, yes_if ?_⟩
    refine ⟨_, rfl, _, rfl, c, _, _, _, rfl, rfl, sqt (s1 _ _ ec), atI_nat (mapV hr1), _, rfl, _, rfl, b, _, _, _, rfl, rfl, sqt (s1 _ _ eb), atI_nat hy, bo, _, rfl, .inr (sqt (s1 _ _ eo)), rfl, flat_ints' o, ?_⟩
    rw [in_int2]
    refine ⟨_, k1, big' (by rw [List.length_map, List.length_map, List.length_range]; omega), same_put s1 hD, ?_⟩
    rw [upd_same, List.range_succ, List.map_append, List.map_append]
    refine congrArg (fun z => some (HO.lst (_ ++ z))) ?_
    show [V.bl (decide (r ∈ o))] = [V.bl (decide ((rs[j]?).getD 0 ∈ (os[j]?).getD []))]
    rw [hr1, ho]
    rfl
  · rintro H1 ⟨s1, k1⟩
    refine ⟨D, _, rfl, .inl (sqd k1), rfl, flat_bls _, ?_⟩
    rw [notF_bls]
    refine boolE ?_ (q H1 s1)
    unfold repR
    rw [decide_eq_true hlen, Bool.true_and, List.all_map, show ((xs.length : Nat) : Int).toNat = os.length by omega]
    rfl
/-! ### the law's judge, label by label -/
def meOk (cs : List Int) (L : Lx) : Bool := decide (L.me.length = (frCnt cs (sX L.own)).length) && L.me.all fun e => decide (0 ≤ e)
def metR (os : Pos') (L : Lx) : Bool := if L.own = true then decide (0 ≤ L.ix) && decide (L.ix < os.length) else repR L.rs os
def metL (os : Pos') (L : Lx) : List Int := if L.own = true then (os[L.ix.toNat]?).getD [] else L.rs
def rightC (cs : List Int) (A : Ar) (ls : List Lx) (p : Int) : Bool := meOk cs (getX ls p) && (metR ((A[p.toNat]?).getD []) (getX ls p) && (metL ((A[p.toNat]?).getD []) (getX ls p)).all (okC cs ls p))
theorem rep_all {G : Gx} {cs : List Int} {n : Nat} {ls : List Lx} {p : Int} {rs : List Int} {os : Pos'} (h : ∀ k : Nat, fitX G n ls p (k : Int) = okC cs ls p) : repX G n ls p rs os = (repR rs os && rs.all (okC cs ls p)) := by
  unfold repX repR
  by_cases hl : rs.length = os.length
  · rw [decide_eq_true hl, Bool.true_and, Bool.true_and, ← hl]
    have : rs.all (okC cs ls p) = (List.range rs.length).all fun k => okC cs ls p ((rs[k]?).getD 0) := by
      rw [Bool.eq_iff_iff, List.all_eq_true, List.all_eq_true]
      constructor
      · intro h k hk
        have hk := List.mem_range.mp hk
        rw [List.getElem?_eq_getElem hk]
        exact h _ (List.getElem_mem hk)
      · intro h x hx
        obtain ⟨k, hk⟩ := List.getElem?_of_mem hx
        have := h k (List.mem_range.mpr (List.getElem?_eq_some_iff.mp hk).1)
        rw [hk] at this
        exact this
    rw [this, Bool.eq_iff_iff, Bool.and_eq_true, List.all_eq_true, List.all_eq_true, List.all_eq_true]
    constructor
    · intro hh
      refine ⟨fun k hk => ?_, fun k hk => ?_⟩
      · have := hh k hk
        rw [Bool.and_eq_true] at this
        exact this.1
      · have := hh k hk
        rw [Bool.and_eq_true, h] at this
        exact this.2
    · rintro ⟨h1, h2⟩ k hk
      rw [Bool.and_eq_true, h]
      exact ⟨h1 k hk, h2 k hk⟩
  · rw [decide_eq_false hl, Bool.false_and, Bool.false_and, Bool.false_and]
theorem right_is (cs : List Int) (gn : List (List Int)) (A : Ar) (ls : List Lx) (hc : ∀ c ∈ cs, 0 ≤ c ∧ c ≤ 1000) (p : Int) : rightX ⟨true, cs, gn⟩ A ls p = rightC cs A ls p := by
  have h0 := gst_nn hc
  unfold rightX rightC
  generalize getX ls p = L
  generalize (A[p.toNat]?).getD [] = os
  have e1 : numX ⟨true, cs, gn⟩ L = meOk cs L := by
    unfold numX meOk
    rw [if_pos rfl]
    congr 1
    refine decide_eq_decide.mpr ?_
    have := cnt_len (sdX L.own) (sd_01 _) (gst cs).toNat
    rw [show (((gst cs).toNat : Nat) : Int) = gst cs by omega] at this
    unfold frCnt
    rw [List.length_map, sX_sd]
    show (L.me.length : Int) = efX 0 (gst cs) (sdX L.own) ↔ _
    omega
  have e2 : coreX ⟨true, cs, gn⟩ A.length ls p os L = (metR os L && (metL os L).all (okC cs ls p)) := by
    unfold coreX metR metL
    cases ho : L.own with
    | true =>
      rw [if_pos rfl, if_pos rfl, if_pos rfl, Bool.and_assoc]
      rfl
    | false =>
      rw [if_neg Bool.false_ne_true, if_neg Bool.false_ne_true, if_neg Bool.false_ne_true]
      exact rep_all fun k => rfl
  rw [e1, e2]
theorem repR_mem {rs : List Int} {os : Pos'} (h : repR rs os = true) : ∀ q ∈ rs, ∃ o ∈ os, q ∈ o := by
  intro q hq
  unfold repR at h
  rw [Bool.and_eq_true, decide_eq_true_eq, List.all_eq_true] at h
  obtain ⟨k, hk⟩ := List.getElem?_of_mem hq
  have hl := (List.getElem?_eq_some_iff.mp hk).1
  have h2 := of_decide_eq_true (h.2 k (List.mem_range.mpr (by omega)))
  rw [hk, List.getElem?_eq_getElem (show k < os.length by omega)] at h2
  exact ⟨_, List.getElem_mem _, h2⟩
def spCR : Sp := fun vs H Q _ => ∃ (v f0 f1 : V) (kc pp fl : Addr) (A : Ar) (cs : List Int) (ls : List Lx) (xs : List V) (p : Nat) (os : Pos'), vs = [v, .ref kc, .ref pp, .int p, .ref fl] ∧ ArIn H A v ∧ ArG A ∧ H kc = some (.tup (cs.map V.int)) ∧ cs.length = A.length ∧ (∀ c ∈ cs, 0 ≤ c ∧ c ≤ 1000) ∧ H pp = some (.tup xs) ∧ Each (LxIn true H) ls xs ∧ ls.length = A.length ∧ H fl = some (.lst [f0, f1]) ∧ FrIn H cs 0 f0 ∧ FrIn H cs 1 f1 ∧ A[p]? = some os ∧
  ∀ H', Same H H' → Q (.bl (rightC cs A ls p)) H'
theorem ok_law_colour_right (T : Txt K mg) : FnOk P w K mg base CX0 2 T.a_law_colour_right T.d_law_colour_right P_law_colour_right spCR := by
  have G_law_may := ok_law_may (P := P) (w := w) (base := base) T
  have G_law_replies_right := ok_law_replies_right (P := P) (w := w) (base := base) T
  refine T.F_law_colour_right.ok sc_law_colour_right (fun vs H Q E h => ?_) (fun cdv A outer s H vs Q E hr h => ?_)
  · obtain ⟨v, f0, f1, kc, pp, fl, A, cs, ls, xs, p, os, rfl, _⟩ := h
    rfl
  obtain ⟨v, f0, f1, kc, pp, fl, A0, cs, ls, xs, p, os, rfl, hA, hG, ekc, hcl, hc, ep, hls, hll, efl, hf0, hf1, hos, q⟩ := h
  have hpl := (List.getElem?_eq_some_iff.mp hos).1
  have h400 := hG.1
  obtain ⟨t1, x1, y1, hat1, et1, hx1, hy1⟩ := lx_at hls (p := (p : Int)) (by omega) (by omega)
  obtain ⟨m1, rfl, km1⟩ : ∃ m, x1 = .ref m ∧ H m = some (.tup ((getX ls p).me.map V.int)) := hx1
  obtain ⟨b0, zs, rfl, e0, hzs⟩ := id hA
  obtain ⟨z, hz, b1, ys, rfl, e1, hys⟩ := hzs.at hos
  have hyl := hys.1
  have hosG := hG.2 os (List.mem_of_getElem? hos)
  have hright : rightC cs A0 ls p = (meOk cs (getX ls p) && (metR os (getX ls p) && (metL os (getX ls p)).all (okC cs ls p))) := by
    unfold rightC
    rw [Int.toNat_natCast, hos]
    rfl
  have hcp := List.getElem?_eq_getElem (show p < cs.length by omega)
  have hcol : colX cs (p : Int) = cs[p]'(by omega) := by unfold colX; rw [Int.toNat_natCast, hcp]; rfl
  have hcm := List.getElem_mem (show p < cs.length by omega)
  rw [← hcol] at hcp hcm
  have hokC : ∀ q, okC cs ls p q = if q = -1 then !(getX ls p).own else if (getX ls p).own ≠ (getX ls q).own then false else mfX (colX cs p) (gst cs) (getX ls p) (getX ls q) := fun q => rfl
  refine ⟨_, (pss_cons (ps_set (i := 5) sc_law_colour_right.nd rfl (Or.inl rfl) (pe_ix ix_tup (pe_ix ix_tup (pv 2) (pv 3) (fun _ _ => rfl)) pe_int (fun _ _ => rfl)))
    (pss_cons (ps_set (i := 6) sc_law_colour_right.nd rfl (Or.inl rfl) (pe_ix ix_tup (pe_ix ix_tup (pv 2) (pv 3) (fun _ _ => rfl)) pe_int (fun _ _ => rfl)))
    (pss_cons (ps_set (i := 7) sc_law_colour_right.nd rfl (Or.inl rfl) (pe_ix ix_list (pv 4) (pe_callTy call_int1 (by rfl) T.z_int (by decide +kernel) (pa_cons (pe_cmpR op_eq (pv 5) pe_str (nomark _)) pa_nil)) (fun _ _ => rfl)))
    (pss_cons (ps_if (PW.pt (pw_or (pt_cmpR op_ne (pe_callB call_len_seq (by rfl) T.z_len PySem.boot_len (pa_cons (pv 6) pa_nil)) (pe_callB call_len_seq (by rfl) T.z_len PySem.boot_len (pa_cons (pe_ix ix_tup (pv 7) pe_int (fun _ _ => rfl)) pa_nil)) (nomark _)) (pw_or1 (pt_cmpR op_gt (pe_callB call_len_seq (by rfl) T.z_len PySem.boot_len (pa_cons (pe_lc (own := [("entry", 8)]) (g := (gName 8)) (tt := _) rfl sc_law_colour_right.nd (pi_tup (pv 6)) (blkOk_by (N := N_law_colour_right) (sc := defScope s_law_colour_right) (by decide +kernel)) (fun _ _ _ _ _ => (pg_name (i := 8) sc_law_colour_right.nd rfl (Or.inl rfl))) (fun _ _ _ _ _ => (pts_one (pt_cmpR op_lt (pv 8) pe_int (nomark _)))) (fun _ _ _ _ _ => (pv 8))) pa_nil)) pe_int (nomark _)))))
    (pss_one (ps_ret pe_bl))
    pss_nil)
    (pss_cons (ps_set (i := 9) sc_law_colour_right.nd rfl (Or.inl rfl) (pe_ix ix_tup (pv 0) (pv 3) (fun _ _ => rfl)))
    (pss_cons (ps_set (i := 10) sc_law_colour_right.nd rfl (Or.inl rfl) (pe_ix ix_tup (pe_ix ix_tup (pv 2) (pv 3) (fun _ _ => rfl)) pe_int (fun _ _ => rfl)))
    (C8.pss_cut (ps_if (pt_cmpR op_eq (pv 5) pe_str (nomark _))
    (pss_cons (ps_if (PW.pt (pw_or (pt_cmpR op_lt (pv 10) pe_int (nomark _)) (pw_or1 (pt_cmpR op_ge (pv 10) (pe_callB call_len_seq (by rfl) T.z_len PySem.boot_len (pa_cons (pv 9) pa_nil)) (nomark _)))))
    (pss_one (ps_ret pe_bl))
    pss_nil)
    (pss_one (ps_set (i := 11) sc_law_colour_right.nd rfl (Or.inl rfl) (pe_ix ix_tup (pv 9) (pv 10) (fun _ _ => rfl)))))
    (pss_cons (ps_if (pt_not (pt_val (pe_call G_law_replies_right (hr.mono (by omega)) (by rfl) T.m_law_replies_right T.F_law_replies_right.kp T.b_law_replies_right .nil pass0 (pa_cons (pv 9) (pa_cons (pv 10) pa_nil)))))
    (pss_one (ps_ret pe_bl))
    pss_nil)
    (pss_one (ps_set (i := 11) sc_law_colour_right.nd rfl (Or.inl rfl) (pv 10)))))
    (pss_cons (ps_for  PassesOwn.never rfl (pi_tup (pv 11)) (pg_name (i := 12) sc_law_colour_right.nd rfl (Or.inl rfl))
    (pss_one (ps_if (pt_cmpR op_eq (pv 12) (pe_un un_neg pe_int) (nomark _))
    (pss_one (ps_if (pt_cmpR op_eq (pv 5) pe_str (nomark _))
    (pss_one (ps_ret pe_bl))
    pss_nil))
    (pss_one (ps_if (pt_cmpR op_ne (pe_ix ix_tup (pe_ix ix_tup (pv 2) (pv 12) (fun _ _ => rfl)) pe_int (fun _ _ => rfl)) (pv 5) (nomark _))
    (pss_one (ps_ret pe_bl))
    (pss_one (ps_if (pt_not (pt_val (pe_call G_law_may (hr.mono (by omega)) (by rfl) T.m_law_may T.F_law_may.kp T.b_law_may .nil pass0 (pa_cons (pv 7) (pa_cons (pe_ix ix_tup (pv 1) (pv 3) (fun _ _ => rfl)) (pa_cons (pv 6) (pa_cons (pe_ix ix_tup (pe_ix ix_tup (pv 2) (pv 12) (fun _ _ => rfl)) pe_int (fun _ _ => rfl)) pa_nil)))))))
    (pss_one (ps_ret pe_bl))
    pss_nil)))))))
    (pss_one (ps_ret pe_bl)))))))))), ?_⟩
  refine ⟨_, rfl, _, rfl, pp, _, _, _, rfl, rfl, sqt ep, hat1, t1, _, _, _, rfl, rfl, sqt et1, atI0, ?_⟩
  refine ⟨_, rfl, _, rfl, pp, _, _, _, rfl, rfl, sqt ep, hat1, t1, _, _, _, rfl, rfl, sqt et1, atI1, ?_⟩
  have hfr : ∃ f, atI [f0, f1] (if (getX ls (p : Int)).own = true then 1 else 0) = some f ∧ FrIn H cs (sX (getX ls (p : Int)).own) f := by
    cases (getX ls (p : Int)).own
    · exact ⟨f0, atI0, hf0⟩
    · exact ⟨f1, atI1, hf1⟩
  obtain ⟨f, hfat, hfi⟩ := hfr
  have hwe : (if decide (V.str (wdX true (getX ls (p : Int)).own) = V.str "even") = true then (1 : Int) else 0) = if (getX ls (p : Int)).own = true then 1 else 0 := by rw [wd_even]
  refine ⟨_, rfl, _, rfl, rfl, .inr ⟨_, rfl, fl, _, _, _, rfl, rfl, sqd efl, by rw [hwe]; exact hfat, ?_⟩⟩
  obtain ⟨tf, lf, mf, rfl, ktf, klf, kmf⟩ := id hfi
  generalize hLe : getX ls (p : Int) = L at *
  refine ⟨_, rfl, m1, _, rfl, .inr (sqt km1), _, rfl, tf, _, _, _, rfl, rfl, sqt ktf, atI_nat (j := 2) rfl, mf, _, rfl, .inl (sqd kmf), rfl, _, rfl, ?_⟩
  rw [List.length_map, List.length_map]
  by_cases hml : L.me.length = (frCnt cs (sX L.own)).length
  rotate_left
  · refine ifT (by rw [decide_eq_false (fun e => hml (by have := V.int.inj e; omega))]; rfl) ?_
    refine iteT (boolE ?_ (q H (Same.refl H)))
    rw [hright]
    unfold meOk
    rw [decide_eq_false hml]
    rfl
  refine ifF (by rw [decide_eq_true (by rw [hml])]; rfl) ?_
  have hme : meOk cs L = L.me.all fun e => decide (0 ≤ e) := by
    unfold meOk
    rw [decide_eq_true hml, Bool.true_and]
  refine ⟨_, rfl, m1, rfl, ⟨_, sqt km1⟩, fun D hD => ?_⟩
  refine lc_tup (K := K) (a := m1) (xs := L.me.map V.int) (fun (i : Nat) (H' : Hp) => Same H H' ∧ H' D = some (.lst (((L.me.take i).filter fun e => decide (e < 0)).map V.int))) ?_ ?_ ?_ ?_
  · exact ⟨same_new hD _, upd_same⟩
  · rintro i H' _ ⟨s2, _⟩
    exact sqt (s2 _ _ km1)
  · rintro i x H2 hx2 ⟨s2, k2⟩
    rw [List.getElem?_map] at hx2
    obtain ⟨y, hy, rfl⟩ := Option.map_eq_some_iff.mp hx2
    have hil := (List.getElem?_eq_some_iff.mp hy).1
    have hfs := fil_t (fun e => decide (e < 0)) hy
    have hfl := List.length_filter_le (fun e => decide (e < 0)) (L.me.take i)
    have hfl2 : (L.me.take i).length ≤ L.me.length := by rw [List.length_take]; exact Nat.min_le_right _ _
    have hcl2 : (frCnt cs (sX L.own)).length ≤ 1001 := by
      have h0 := gst_nn hc
      unfold frCnt cntL dnL
      rw [List.length_map]
      refine Nat.le_trans (List.length_filter_le _ _) ?_
      rw [List.length_map, List.length_range]
      omega
    refine ⟨rfl, ?_⟩
    refine ⟨_, rfl, _, _, rfl, rfl, _, rfl, ?_⟩
    by_cases hneg : y < 0
    · rw [if_pos (decide_eq_true hneg)] at hfs
      refine ifT (decide_eq_true hneg) ?_
      refine ⟨_, rfl, _, k2, big' (by rw [List.length_map]; omega), same_put s2 hD, ?_⟩
      rw [upd_same, hfs, List.map_append]
      rfl
    · rw [if_neg (by rw [decide_eq_false hneg]; exact Bool.false_ne_true), List.append_nil] at hfs
      refine ifF (decide_eq_false hneg) ⟨s2, ?_⟩
      rw [k2, hfs]
  rintro H2 ⟨s2, k2⟩
  rw [List.length_map, List.take_length] at k2
  refine ⟨D, _, rfl, .inl (sqd k2), _, _, rfl, rfl, _, rfl, ?_⟩
  by_cases hneg : L.me.all (fun e => decide (0 ≤ e)) = true
  rotate_left
  · have : 0 < ((L.me.filter fun e => decide (e < 0)).map V.int).length := by
      rw [List.length_map]
      refine List.length_pos_iff.mpr fun e => hneg (List.all_eq_true.mpr fun x hx => decide_eq_true ?_)
      have := List.filter_eq_nil_iff.mp e x hx
      rw [decide_eq_true_eq] at this
      omega
    refine ifT (decide_eq_true (by omega)) (boolE ?_ (q H2 s2))
    rw [hright, hme]
    cases h : L.me.all (fun e => decide (0 ≤ e))
    · rfl
    · exact absurd h hneg
  have hno : L.me.filter (fun e => decide (e < 0)) = [] := List.filter_eq_nil_iff.mpr fun x hx => by
    have := of_decide_eq_true (List.all_eq_true.mp hneg x hx)
    rw [decide_eq_true_eq]
    omega
  refine ifF (decide_eq_false (by rw [hno]; exact fun h => absurd h (by decide))) ?_
  rw [hme, hneg, Bool.true_and] at hright
  have fin : ∀ b, rightC cs A0 ls p = b → ∀ H', Same H2 H' → Q (.bl b) H' := fun b e H' s' => by rw [← e]; exact q H' (s2.trans s')
  refine ⟨_, rfl, _, rfl, b0, _, _, _, rfl, rfl, sqt (s2 _ _ e0), atI_nat hz, ?_⟩
  refine ⟨_, rfl, _, rfl, pp, _, _, _, rfl, rfl, sqt (s2 _ _ ep), hat1, t1, _, _, _, rfl, rfl, sqt (s2 _ _ et1), atI_nat (j := 2) rfl, ?_⟩
  refine ⟨fun σ H' => ∃ (mt : Addr) (y8 : Option V), σ = [some (.ref b0), some (.ref kc), some (.ref pp), some (.int p), some (.ref fl), some (.str (wdX true L.own)), some (.ref m1), some (.ref tf), y8, some (.ref b1), some y1, some (.ref mt), none] ∧ Same H2 H' ∧ H' mt = some (.tup ((metL os L).map V.int)) ∧ metR os L = true ∧ ∀ q ∈ metL os L, -1 ≤ q ∧ q < A0.length, ?_, ?_⟩
  · refine ⟨_, rfl, rfl, _, rfl, ?_⟩
    cases ho : L.own with
    | true =>
      have hmr : metR os L = (decide (0 ≤ L.ix) && decide (L.ix < os.length)) := by unfold metR; rw [if_pos ho]
      have hmt : metL os L = (os[L.ix.toNat]?).getD [] := by unfold metL; rw [if_pos ho]
      have hy1' : y1 = .int L.ix := by
        unfold endIn at hy1
        rw [if_pos ho] at hy1
        exact hy1
      subst hy1'
      refine ifT (wd_even true) ?_
      refine ⟨_, rfl, _, _, rfl, rfl, _, rfl, ?_⟩
      by_cases h0 : L.ix < 0
      · refine ifT (decide_eq_true h0) (iteT ?_)
        refine fin _ ?_ H2 (Same.refl H2)
        rw [hright, hmr, decide_eq_false (by omega)]
        rfl
      refine ifF (decide_eq_false h0) ?_
      refine ⟨_, rfl, _, rfl, b1, _, rfl, .inr (sqt (s2 _ _ e1)), _, _, rfl, rfl, _, rfl, ?_⟩
      by_cases h1 : L.ix < os.length
      rotate_left
      · refine ifT (decide_eq_true (by omega)) ?_
        refine fin _ ?_ H2 (Same.refl H2)
        rw [hright, hmr, decide_eq_false h1, Bool.and_false]
        rfl
      refine ifF (decide_eq_false (by omega)) ?_
      obtain ⟨o, ho'⟩ : ∃ o, os[L.ix.toNat]? = some o := ⟨_, List.getElem?_eq_getElem (by omega)⟩
      obtain ⟨u, hu, bo, rfl, eo⟩ := hys.at ho'
      have hat2 := atI_nat hu
      rw [show ((L.ix.toNat : Nat) : Int) = L.ix by omega] at hat2
      have hoG := hosG.2 o (List.mem_of_getElem? ho')
      refine ⟨_, rfl, _, rfl, b1, _, _, _, rfl, rfl, sqt (s2 _ _ e1), hat2, ?_⟩
      refine ⟨bo, _, rfl, Same.refl H2, ?_, ?_, ?_⟩
      · rw [hmt, ho']
        exact s2 _ _ eo
      · rw [hmr, decide_eq_true (by omega), decide_eq_true h1]
        rfl
      · rw [hmt, ho']
        exact hoG.mem
    | false =>
      have hmr : metR os L = repR L.rs os := by unfold metR; rw [if_neg (by rw [ho]; exact Bool.false_ne_true)]
      have hmt : metL os L = L.rs := by unfold metL; rw [if_neg (by rw [ho]; exact Bool.false_ne_true)]
      obtain ⟨c1, rfl, ec⟩ : ∃ c, y1 = .ref c ∧ H c = some (.tup (L.rs.map V.int)) := by
        unfold endIn at hy1
        rw [if_neg (by rw [ho]; exact Bool.false_ne_true)] at hy1
        exact hy1
      refine ifF (wd_even false) ?_
      refine ⟨_, rfl, _, rfl, .ref b1, c1, os, L.rs, rfl, ⟨b1, ys, rfl, s2 _ _ e1, hys.mono fun a x => OptIn.tp (Tp.same s2)⟩, by have := hosG.1; omega, s2 _ _ ec, fun H3 s3 => ⟨_, rfl, ?_⟩⟩
      cases hr : repR L.rs os with
      | false =>
        refine ifT rfl ?_
        refine fin _ ?_ H3 s3
        rw [hright, hmr, hr]
        rfl
      | true =>
        refine ifF rfl ?_
        refine ⟨_, rfl, c1, _, rfl, s3, ?_, ?_, ?_⟩
        · rw [hmt]
          exact s3 _ _ (s2 _ _ ec)
        · rw [hmr, hr]
        · rw [hmt]
          intro q hq
          obtain ⟨o, ho', hqo⟩ := repR_mem hr q hq
          exact (hosG.2 o ho').mem q hqo
  rintro σ H3 ⟨mt, y8, rfl, s3, k3, hmr, hmem⟩
  rw [hmr, Bool.true_and] at hright
  have s23 := s2.trans s3
  refine ⟨_, rfl, mt, rfl, ⟨_, sqt k3⟩, ?_⟩
  refine for_tup (K := K) (a := mt) (xs := (metL os L).map V.int) (fun (j : Nat) (σ : L2.St) (H' : Hp) => ∃ y12 : Option V, σ = [some (.ref b0), some (.ref kc), some (.ref pp), some (.int p), some (.ref fl), some (.str (wdX true L.own)), some (.ref m1), some (.ref tf), y8, some (.ref b1), some y1, some (.ref mt), y12] ∧ Same H3 H' ∧ ((metL os L).take j).all (okC cs ls p) = true) ?_ ?_ ?_ ?_
  · exact ⟨none, rfl, Same.refl H3, rfl⟩
  · rintro j σ H' _ ⟨y12, rfl, s4, _⟩
    exact sqt (s4 _ _ k3)
  · rintro j x σ H4 hx4 ⟨y12, rfl, s4, hall⟩
    rw [List.getElem?_map] at hx4
    obtain ⟨c, hc1, rfl⟩ := Option.map_eq_some_iff.mp hx4
    have hcmem := List.mem_of_getElem? hc1
    have hin := hmem c hcmem
    have s24 := s23.trans s4
    have s34 := s3.trans s4
    have bad : okC cs ls p c = false → ∀ H', Same H4 H' → Q (.bl false) H' := fun h H' s' => fin _ (by
      rw [hright]
      exact List.all_eq_false.mpr ⟨c, hcmem, by rw [h]; exact Bool.false_ne_true⟩) H' (s34.trans s')
    have good : okC cs ls p c = true → ((metL os L).take (j + 1)).all (okC cs ls p) = true := fun h => by
      rw [List.take_add_one, hc1, List.all_append, hall]
      show (true && (okC cs ls p c && true)) = true
      rw [h]
      rfl
    have hok := hokC c
    refine ⟨_, rfl, _, rfl, rfl, _, rfl, ?_⟩
    by_cases hc1' : c = -1
    · rw [if_pos hc1'] at hok
      refine ifT (decide_eq_true (by rw [hc1'])) ?_
      refine ⟨_, rfl, rfl, _, rfl, ?_⟩
      cases ho : L.own with
      | true =>
        rw [ho] at hok
        exact ifT (wd_even true) (bad hok H4 (Same.refl H4))
      | false =>
        rw [ho] at hok
        exact ifF (wd_even false) ⟨_, rfl, s4, good hok⟩
    rw [if_neg hc1'] at hok
    refine ifF (decide_eq_false fun h => hc1' (V.int.inj h)) ?_
    obtain ⟨t2, x2, y2, hat2, et2, hx2, _⟩ := lx_at hls (p := c) (by omega) (by omega)
    obtain ⟨m2, rfl, km2⟩ : ∃ m, x2 = .ref m ∧ H m = some (.tup ((getX ls c).me.map V.int)) := hx2
    refine ⟨_, rfl, _, rfl, pp, _, _, _, rfl, rfl, sqt (s24 _ _ ep), hat2, t2, _, _, _, rfl, rfl, sqt (s24 _ _ et2), atI0, _, rfl, rfl, _, rfl, ?_⟩
    by_cases hk : L.own = (getX ls c).own
    rotate_left
    · rw [if_pos hk] at hok
      exact ifT (by rw [wd_eq, decide_eq_false (fun h => hk h.symm)]; rfl) (bad hok H4 (Same.refl H4))
    rw [if_neg (fun h => h hk)] at hok
    refine ifF (by rw [wd_eq, decide_eq_true hk.symm]; rfl) ?_
    refine ⟨_, rfl, _, rfl, _, rfl, kc, _, _, _, rfl, rfl, sqt (s24 _ _ ekc), atI_nat (mapV hcp), _, rfl, _, rfl, _, rfl, pp, _, _, _, rfl, rfl, sqt (s24 _ _ ep), hat2, t2, _, _, _, rfl, rfl, sqt (s24 _ _ et2), atI1, ?_⟩
    refine ⟨_, m1, m2, cs, colX cs p, L, getX ls c, rfl, hfi.same s24, hc, hcm, s24 _ _ km1, s24 _ _ km2, fun H5 s5 => ⟨_, rfl, ?_⟩⟩
    cases hmf : mfX (colX cs p) (gst cs) L (getX ls c) with
    | true =>
      rw [hmf] at hok
      exact ifF rfl ⟨_, rfl, s4.trans s5, good hok⟩
    | false =>
      rw [hmf] at hok
      exact ifT rfl (bad hok H5 s5)
  · rintro σ H4 ⟨y12, rfl, s4, hall⟩
    rw [List.length_map, List.take_length] at hall
    exact fin _ (hright.trans hall) H4 (s3.trans s4)
def judgeC (cs : List Int) (A : Ar) (ls : List Lx) : Bool := decide (ls.length = A.length) && (List.range A.length).all fun k => rightC cs A ls (k : Int)
theorem judge_is (cs : List Int) (gn : List (List Int)) (A : Ar) (ls : List Lx) (hc : ∀ c ∈ cs, 0 ≤ c ∧ c ≤ 1000) : judgeX ⟨true, cs, gn⟩ A ls = judgeC cs A ls := by
  unfold judgeX judgeC
  congr 2
  funext k
  exact right_is cs gn A ls hc k
def spCJ : Sp := fun vs H Q _ => ∃ (v : V) (kc pp : Addr) (A : Ar) (cs : List Int) (ls : List Lx) (xs : List V), vs = [v, .ref kc, .ref pp] ∧ ArIn H A v ∧ ArG A ∧ H kc = some (.tup (cs.map V.int)) ∧ cs.length = A.length ∧ (∀ c ∈ cs, 0 ≤ c ∧ c ≤ 1000) ∧ H pp = some (.tup xs) ∧ Each (LxIn true H) ls xs ∧
  ∀ H', Same H H' → Q (.bl (judgeC cs A ls)) H'
theorem ok_law_colour_judge (T : Txt K mg) : FnOk P w K mg base CX0 3 T.a_law_colour_judge T.d_law_colour_judge P_law_colour_judge spCJ := by
  have G_law_frame := ok_law_frame (P := P) (w := w) (base := base) T
  have G_law_colour_right := ok_law_colour_right (P := P) (w := w) (base := base) T
  refine T.F_law_colour_judge.ok sc_law_colour_judge (fun vs H Q E h => ?_) (fun cdv A outer s H vs Q E hr h => ?_)
  · obtain ⟨v, kc, pp, A, cs, ls, xs, rfl, _⟩ := h
    rfl
  obtain ⟨v, kc, pp, A0, cs, ls, xs, rfl, hA, hG, ekc, hcl, hc, ep, hls, q⟩ := h
  have h400 := hG.1
  have hxl := hls.1
  obtain ⟨b0, zs, rfl, e0, hzs⟩ := id hA
  have hzl := hzs.1
  refine ⟨_, (pss_cons (ps_set (i := 3) sc_law_colour_judge.nd rfl (Or.inr rfl) (pe_lst (pa_cons (pe_call G_law_frame (hr.mono (by omega)) (by rfl) T.m_law_frame T.F_law_frame.kp T.b_law_frame .nil pass0 (pa_cons (pv 1) (pa_cons pe_int pa_nil))) (pa_cons (pe_call G_law_frame (hr.mono (by omega)) (by rfl) T.m_law_frame T.F_law_frame.kp T.b_law_frame .nil pass0 (pa_cons (pv 1) (pa_cons pe_int pa_nil))) pa_nil))))
    (pss_cons (ps_if (pt_cmpR op_ne (pe_callB call_len_seq (by rfl) T.z_len PySem.boot_len (pa_cons (pv 2) pa_nil)) (pe_callB call_len_seq (by rfl) T.z_len PySem.boot_len (pa_cons (pv 0) pa_nil)) (nomark _))
    (pss_one (ps_ret pe_bl))
    pss_nil)
    (pss_one (ps_ret (pe_cmpR op_notIn_seq pe_bl (pe_lc (own := [("place", 4)]) (g := (gName 4)) (tt := tYes) rfl sc_law_colour_judge.nd (pi_range1 (by rfl) T.z_range (pa_cons (pe_callB call_len_seq (by rfl) T.z_len PySem.boot_len (pa_cons (pv 0) pa_nil)) pa_nil)) (blkOk_by (N := N_law_colour_judge) (sc := defScope s_law_colour_judge) (by decide +kernel)) (fun _ _ _ _ _ => (pg_name (i := 4) sc_law_colour_judge.nd rfl (Or.inl rfl))) (fun _ _ _ _ _ => pts_nil) (fun _ _ _ _ _ => (pe_call G_law_colour_right (hr.mono (by omega)) (by rfl) T.m_law_colour_right T.F_law_colour_right.kp T.b_law_colour_right .nil pass0 (pa_cons (pv 0) (pa_cons (pv 1) (pa_cons (pv 2) (pa_cons (pv 4) (pa_cons (pv 3) pa_nil)))))))) (by rfl)))))), ?_⟩
  refine ⟨_, rfl, kc, cs, 0, rfl, ekc, by omega, hc, fun f0 H1 s1 hf0 => ?_⟩
  refine ⟨_, rfl, kc, cs, 1, rfl, s1 _ _ ekc, by omega, hc, fun f1 H2 s2 hf1 => ?_⟩
  refine ⟨Nat.le_of_ble_eq_true rfl, fun fl hfl => ?_⟩
  obtain ⟨H3, E3, s3, k3⟩ := newH hfl (.lst [f0, f1])
  rw [E3]
  have s13 := (s1.trans s2).trans s3
  refine ⟨_, rfl, pp, _, rfl, .inr (sqt (s13 _ _ ep)), _, rfl, b0, _, rfl, .inr (sqt (s13 _ _ e0)), rfl, _, rfl, ?_⟩
  by_cases hlen : ls.length = A0.length
  rotate_left
  · refine ifT (by rw [decide_eq_false (fun e => hlen (by have := V.int.inj e; omega))]; rfl) (boolE ?_ (q H3 s13))
    unfold judgeC
    rw [decide_eq_false hlen]
    rfl
  refine ifF (by rw [decide_eq_true (by congr 1; omega)]; rfl) ?_
  refine ⟨_, rfl, b0, _, rfl, .inr (sqt (s13 _ _ e0)), _, rfl, by omega, by omega, fun D hD => ?_⟩
  refine lc_range (lo := 0) (n := ((zs.length : Nat) : Int).toNat) (fun (j : Nat) (H' : Hp) => Same H3 H' ∧ H' D = some (.lst (((List.range j).map fun k : Nat => rightC cs A0 ls (k : Int)).map V.bl))) ?_ ?_ ?_
  · exact ⟨same_new hD _, upd_same⟩
  · rintro j H4 hj ⟨s4, k4⟩
    generalize hk : (0 : Int) + (j : Int) = kk
    have hkj : kk = (j : Int) := by omega
    clear hk
    subst hkj
    obtain ⟨os, hos⟩ : ∃ os, A0[j]? = some os := ⟨_, List.getElem?_eq_getElem (by omega)⟩
    have s14 := s13.trans s4
    refine ⟨rfl, yes_if ?_⟩
    refine ⟨_, rfl, _, rfl, _, rfl, _, rfl, _, rfl, .ref b0, f0, f1, kc, pp, fl, A0, cs, ls, xs, j, os, rfl, hA.tp (Tp.same s14), hG, s14 _ _ ekc, hcl, hc, s14 _ _ ep, hls.mono fun o x => LxIn.tp (Tp.same s14), hlen, s4 _ _ k3, hf0.same ((s2.trans s3).trans s4), hf1.same (s3.trans s4), hos, fun H5 s5 => ?_⟩
    refine ⟨_, s5 _ _ k4, big' (by rw [List.length_map, List.length_map, List.length_range]; omega), same_put (s4.trans s5) hD, ?_⟩
    rw [upd_same, List.range_succ, List.map_append, List.map_append]
    rfl
  · rintro H4 ⟨s4, k4⟩
    refine ⟨D, _, rfl, .inl (sqd k4), rfl, flat_bls _, ?_⟩
    rw [notF_bls]
    refine boolE ?_ (q H4 (s13.trans s4))
    unfold judgeC
    rw [decide_eq_true hlen, Bool.true_and, List.all_map, show ((zs.length : Nat) : Int).toNat = A0.length by omega]
    rfl
/-! ### _law_same of two truths -/
def spSameB : Sp := fun vs H Q _ => ∃ b : Bool, vs = [.bl b, .bl b] ∧ Q (.bl true) H
theorem ok_law_same (T : Txt K mg) : FnOk P w K mg base CX0 1 T.a_law_same T.d_law_same P_law_same spSameB := by
  have G_law_same : FnOk P w K mg base CX0 0 T.a_law_same T.d_law_same P_law_same (fun _ _ _ _ => False) := ⟨fun _ _ _ _ h => h.elim, fun A outer s H args us vs Q E _ _ _ _ h => h.elim⟩
  refine T.F_law_same.ok sc_law_same (fun vs H Q E h => ?_) (fun cdv A outer s H vs Q E hr h => ?_)
  · obtain ⟨b, rfl, _⟩ := h
    rfl
  obtain ⟨b, rfl, q⟩ := h
  refine ⟨_, (pss_cons (ps_if (pt_val (pe_callB (call_isi) (by rfl) T.z_isinstance (by decide +kernel) (pa_cons (pv 1) (pa_cons (pe_bltn (v := .ty "bool") (u := .type "bool") (by rfl) T.z_bool (by decide +kernel) rfl) pa_nil))))
    (pss_one (ps_ret (pe_and (pe_callB (call_isi) (by rfl) T.z_isinstance (by decide +kernel) (pa_cons (pv 0) (pa_cons (pe_bltn (v := .ty "bool") (u := .type "bool") (by rfl) T.z_bool (by decide +kernel) rfl) pa_nil))) (pe_one (pe_cmpR op_eq (pv 0) (pv 1) (nomark _))))))
    pss_nil)
    (pss_cons (ps_if (pt_val (pe_callB (call_isi) (by rfl) T.z_isinstance (by decide +kernel) (pa_cons (pv 1) (pa_cons (pe_bltn (v := .ty "int") (u := .type "int") (by rfl) T.z_int (by decide +kernel) rfl) pa_nil))))
    (pss_one (ps_ret (pe_and (pe_callB (call_isi) (by rfl) T.z_isinstance (by decide +kernel) (pa_cons (pv 0) (pa_cons (pe_bltn (v := .ty "int") (u := .type "int") (by rfl) T.z_int (by decide +kernel) rfl) pa_nil))) (pe_and (pe_not (pe_callB (call_isi) (by rfl) T.z_isinstance (by decide +kernel) (pa_cons (pv 0) (pa_cons (pe_bltn (v := .ty "bool") (u := .type "bool") (by rfl) T.z_bool (by decide +kernel) rfl) pa_nil)))) (pe_one (pe_cmpR op_eq (pv 0) (pv 1) (nomark _)))))))
    pss_nil)
    (pss_cons (ps_if (pt_val (pe_callB (call_isi) (by rfl) T.z_isinstance (by decide +kernel) (pa_cons (pv 1) (pa_cons (pe_bltn (v := .ty "str") (u := .type "str") (by rfl) T.z_str (by decide +kernel) rfl) pa_nil))))
    (pss_one (ps_ret (pe_and (pe_callB (call_isi) (by rfl) T.z_isinstance (by decide +kernel) (pa_cons (pv 0) (pa_cons (pe_bltn (v := .ty "str") (u := .type "str") (by rfl) T.z_str (by decide +kernel) rfl) pa_nil))) (pe_one (pe_cmpR op_eq (pv 0) (pv 1) (nomark _))))))
    pss_nil)
    (pss_cons (ps_if (pt_cmpR op_isN (pv 1) pe_non (nomark _))
    (pss_one (ps_ret (pe_cmpR op_isN (pv 0) pe_non (nomark _))))
    pss_nil)
    (pss_cons (ps_if (PW.pt (pw_and (pt_val (pe_callB (call_isi) (by rfl) T.z_isinstance (by decide +kernel) (pa_cons (pv 1) (pa_cons (pe_bltn (v := .ty "tuple") (u := .type "tuple") (by rfl) T.z_tuple (by decide +kernel) rfl) pa_nil)))) (pw_and1 (pt_not (pt_val (pe_callB (call_isi) (by rfl) T.z_isinstance (by decide +kernel) (pa_cons (pv 0) (pa_cons (pe_bltn (v := .ty "tuple") (u := .type "tuple") (by rfl) T.z_tuple (by decide +kernel) rfl) pa_nil))))))))
    (pss_one (ps_ret pe_bl))
    pss_nil)
    (pss_cons (ps_if (PW.pt (pw_and (pt_val (pe_callB (call_isi) (by rfl) T.z_isinstance (by decide +kernel) (pa_cons (pv 1) (pa_cons (pe_bltn (v := .ty "list") (u := .type "list") (by rfl) T.z_list (by decide +kernel) rfl) pa_nil)))) (pw_and1 (pt_not (pt_val (pe_callB (call_isi) (by rfl) T.z_isinstance (by decide +kernel) (pa_cons (pv 0) (pa_cons (pe_bltn (v := .ty "list") (u := .type "list") (by rfl) T.z_list (by decide +kernel) rfl) pa_nil))))))))
    (pss_one (ps_ret pe_bl))
    pss_nil)
    (pss_cons (ps_if (pt_cmpR op_ne (pe_callB call_len_seq (by rfl) T.z_len PySem.boot_len (pa_cons (pv 0) pa_nil)) (pe_callB call_len_seq (by rfl) T.z_len PySem.boot_len (pa_cons (pv 1) pa_nil)) (nomark _))
    (pss_one (ps_ret pe_bl))
    pss_nil)
    (pss_cons (ps_for  PassesOwn.never rfl (pi_range1 (by rfl) T.z_range (pa_cons (pe_callB call_len_seq (by rfl) T.z_len PySem.boot_len (pa_cons (pv 1) pa_nil)) pa_nil)) (pg_name (i := 2) sc_law_same.nd rfl (Or.inl rfl))
    (pss_one (ps_if (pt_not (pt_val (pe_call G_law_same (hr.mono (by omega)) (by rfl) T.m_law_same T.F_law_same.kp T.b_law_same .nil pass0 (pa_cons (pe_ix ix_tup (pv 0) (pv 2) (fun _ _ => rfl)) (pa_cons (pe_ix ix_tup (pv 1) (pv 2) (fun _ _ => rfl)) pa_nil)))))
    (pss_one (ps_ret pe_bl))
    pss_nil)))
    (pss_one (ps_ret pe_bl)))))))))), ?_⟩
  refine ⟨_, rfl, _, _, .type "bool", .type "bool", true, rfl, .ty "bool", .base (.bl _), kit_ty (by decide +kernel), true, rfl, ?_⟩
  refine iteT ⟨_, rfl, _, _, .type "bool", .type "bool", true, rfl, .ty "bool", .base (.bl _), kit_ty (by decide +kernel), true, rfl, ?_⟩
  exact iteT ⟨_, rfl, _, rfl, rfl, boolE (decide_eq_true rfl) q⟩
end
end NL

set_option maxHeartbeats 4000000
namespace NL
open PySem PySem.Spec PyProof.Rows L2
theorem Keep.same {K : PySem.W.Frag} {d a : Addr} {H H' : Hp} {xs : List V} (k : Keep K d H a xs) (s : Same H H') : Keep K d H' a xs := fun H2 f => k H2 fun b o n e => f b o n (s b o e)
section
variable {P : Program} {w : World} {K : PySem.W.Frag} {mg : Str → Option Value} {base : Heap}
/-! ### _law_colours -/
def spColours : Sp := fun vs H Q _ => ∃ (d : Addr) (v : V) (A : Ar), vs = [.ref d, v] ∧ Dr H d ∧ ArIn H A v ∧ A.length ≤ 400 ∧ ∀ (p : Addr) (o : List Int) (H' : Hp), Go d H H' → H' p = some (.tup (o.map V.int)) → o.length = A.length → (∀ c ∈ o, (0 : Int) ≤ c ∧ c ≤ 44) → Q (.ref p) H'
theorem ok_law_colours (T : Txt K mg) : FnOk P w K mg base CX0 2 T.a_law_colours T.d_law_colours P_law_colours spColours := by
  have G_law_take := ok_law_take (P := P) (w := w) (base := base) T
  refine T.F_law_colours.ok sc_law_colours (fun vs H Q E h => ?_) (fun cdv A outer s H vs Q E hr h => ?_)
  · obtain ⟨d, v, A, rfl, _⟩ := h
    rfl
  obtain ⟨d, v, A0, rfl, hD, ⟨b0, xs, rfl, e0, hxs⟩, h46, q⟩ := h
  have hxl := hxs.1
  refine ⟨_, (pss_cons (ps_set (i := 2) sc_law_colours.nd rfl (Or.inr rfl) (pe_ix ix_list (pe_lst (pa_cons pe_int (pa_cons pe_int (pa_cons pe_int (pa_cons pe_int (pa_cons pe_int (pa_cons pe_int (pa_cons pe_int pa_nil)))))))) (pe_call G_law_take (hr.mono (by omega)) (by rfl) T.m_law_take T.F_law_take.kp T.b_law_take .nil pass0 (pa_cons (pv 0) (pa_cons pe_int pa_nil))) (fun _ _ => rfl)))
    (pss_cons (ps_set (i := 3) sc_law_colours.nd rfl (Or.inr rfl) (pe_ix ix_list (pe_lst (pa_cons pe_int (pa_cons pe_int (pa_cons pe_int (pa_cons pe_int (pa_cons pe_int (pa_cons pe_int pa_nil))))))) (pe_call G_law_take (hr.mono (by omega)) (by rfl) T.m_law_take T.F_law_take.kp T.b_law_take .nil pass0 (pa_cons (pv 0) (pa_cons pe_int pa_nil))) (fun _ _ => rfl)))
    (C8.pss_cut (ps_if (pt_cmpR op_eq (pv 2) pe_int (nomark _))
    (pss_cons (ps_set (i := 3) sc_law_colours.nd rfl (Or.inr rfl) pe_int)
    (pss_one (ps_set (i := 2) sc_law_colours.nd rfl (Or.inr rfl) (pe_ix ix_list (pe_lst (pa_cons pe_int (pa_cons pe_int pa_nil))) (pe_callTy call_int1 (by rfl) T.z_int (by decide +kernel) (pa_cons (pe_cmpR op_gt (pe_callB call_len_seq (by rfl) T.z_len PySem.boot_len (pa_cons (pv 1) pa_nil)) pe_int (nomark _)) pa_nil)) (fun _ _ => rfl)))))
    pss_nil)
    (pss_cons (ps_set (i := 4) sc_law_colours.nd rfl (Or.inr rfl) (pe_op op_mul (pe_ix ix_list (pe_lst (pa_cons pe_int (pa_cons pe_int (pa_cons pe_int (pa_cons pe_int pa_nil))))) (pe_call G_law_take (hr.mono (by omega)) (by rfl) T.m_law_take T.F_law_take.kp T.b_law_take .nil pass0 (pa_cons (pv 0) (pa_cons pe_int pa_nil))) (fun _ _ => rfl)) (pe_callTy call_int1 (by rfl) T.z_int (by decide +kernel) (pa_cons (pe_cmpR op_lt (pv 3) pe_int (nomark _)) pa_nil))))
    (pss_one (ps_ret (pe_callTy call_tuple_of (by rfl) T.z_tuple (by decide +kernel) (pa_cons (pe_lc (own := [("options", 5)]) (g := (gName 5)) (tt := tYes) rfl sc_law_colours.nd (pi_tup (pv 1)) (blkOk_by (N := N_law_colours) (sc := defScope s_law_colours) (by decide +kernel)) (fun _ _ _ _ _ => (pg_name (i := 5) sc_law_colours.nd rfl (Or.inl rfl))) (fun _ _ _ _ _ => pts_nil) (fun _ _ _ _ _ => (pe_op op_add (pe_op op_mul (pe_call G_law_take (hr.mono (by omega)) (by rfl) T.m_law_take T.F_law_take.kp T.b_law_take .nil pass0 (pa_cons (pv 0) (pa_cons (pv 2) pa_nil))) (pv 3)) (pv 4)))) pa_nil)))))))), ?_⟩
  refine ⟨Nat.le_of_ble_eq_true rfl, fun l1 hl1 => ?_⟩
  have g1 := Go.new (o := .lst [.int 2, .int 3, .int 3, .int 4, .int 5, .int 6, .int 12]) hD hl1
  refine ⟨_, rfl, d, 7, rfl, g1.dr, by decide, fun u1 H1 g2 a1 a2 => ?_⟩
  obtain ⟨m, hm, hmm⟩ := atI_map (f := V.int) (xs := ([2, 3, 3, 4, 5, 6, 12] : List Int)) a1 a2
  have hm2 : 2 ≤ m ∧ m ≤ 12 := by
    simp only [List.mem_cons, List.not_mem_nil, or_false] at hmm
    omega
  refine ⟨l1, _, _, _, rfl, rfl, sqd (g2.fr l1 _ (new_ne hD hl1) upd_same), hm, ?_⟩
  have g12 := g1.trans g2
  refine ⟨Nat.le_of_ble_eq_true rfl, fun l2 hl2 => ?_⟩
  have g3 := Go.new (o := .lst [.int 1, .int 1, .int 1, .int 1, .int 3, .int 4]) g12.dr hl2
  refine ⟨_, rfl, d, 6, rfl, g3.dr, by decide, fun u2 H2 g4 b1 b2 => ?_⟩
  obtain ⟨f, hf, hff⟩ := atI_map (f := V.int) (xs := ([1, 1, 1, 1, 3, 4] : List Int)) b1 b2
  have hf4 : f = 1 ∨ f = 3 ∨ f = 4 := by
    simp only [List.mem_cons, List.not_mem_nil, or_false] at hff
    omega
  refine ⟨l2, _, _, _, rfl, rfl, sqd (g4.fr l2 _ (new_ne g12.dr hl2) upd_same), hf, ?_⟩
  have g14 := (g12.trans g3).trans g4
  have e4 := g14.tp hD _ _ e0
  refine ⟨fun σ H' => ∃ m f : Int, σ = [some (.ref d), some (.ref b0), some (.int m), some (.int f), none, none] ∧ Go d H H' ∧ 2 ≤ m ∧ m ≤ 12 ∧ (f = 1 ∨ f = 3 ∨ f = 4), ?_, ?_⟩
  · refine ⟨_, rfl, rfl, _, rfl, ?_⟩
    refine ite2 (fun z => ?_) (fun z => ⟨m, f, rfl, g14, hm2.1, hm2.2, hf4⟩)
    refine ⟨Nat.le_of_ble_eq_true rfl, fun l3 hl3 => ?_⟩
    have g5 := Go.new (o := .lst [.int 12, .int 4]) g14.dr hl3
    have e5 := g5.tp g14.dr _ _ e4
    refine ⟨_, rfl, b0, _, rfl, .inr (sqt e5), _, _, rfl, rfl, .inr ⟨_, rfl, ?_⟩⟩
    cases hb : decide (((xs.length : Nat) : Int) > 5) with
    | true =>
      refine ⟨l3, _, _, _, rfl, rfl, sqd upd_same, (show atI [V.int 12, V.int 4] (if true = true then (1 : Int) else 0) = some (V.int 4) from atI1), ?_⟩
      exact ⟨4, 1, rfl, g14.trans g5, by decide, by decide, by decide⟩
    | false =>
      refine ⟨l3, _, _, _, rfl, rfl, sqd upd_same, (show atI [V.int 12, V.int 4] (if false = true then (1 : Int) else 0) = some (V.int 12) from atI0), ?_⟩
      exact ⟨12, 1, rfl, g14.trans g5, by decide, by decide, by decide⟩
  rintro σ H3 ⟨m, f, rfl, g13, m1, m2, f1⟩
  refine ⟨Nat.le_of_ble_eq_true rfl, fun l4 hl4 => ?_⟩
  have g6 := Go.new (o := .lst [.int 0, .int 0, .int 1, .int 2]) g13.dr hl4
  refine ⟨_, rfl, d, 4, rfl, g6.dr, by decide, fun u3 H4 g7 c1 c2 => ?_⟩
  obtain ⟨pl, hp, hpp⟩ := atI_map (f := V.int) (xs := ([0, 0, 1, 2] : List Int)) c1 c2
  have hp2 : 0 ≤ pl ∧ pl ≤ 2 := by
    simp only [List.mem_cons, List.not_mem_nil, or_false] at hpp
    omega
  refine ⟨l4, _, _, _, rfl, rfl, sqd (g7.fr l4 _ (new_ne g13.dr hl4) upd_same), hp, ?_⟩
  refine ⟨_, rfl, _, _, rfl, rfl, .inr ⟨_, rfl, _, _, rfl, rfl, .inl ⟨by omega, by omega⟩, ?_⟩⟩
  have hplus : 0 ≤ pl * (if decide (f < 4) = true then (1 : Int) else 0) ∧ pl * (if decide (f < 4) = true then (1 : Int) else 0) ≤ 2 := by
    split <;> omega
  have hp4 : f = 4 → pl * (if decide (f < 4) = true then (1 : Int) else 0) = 0 := fun e => by
    subst e
    rw [if_neg (by decide), Int.mul_zero]
  obtain ⟨plus, hpl⟩ : ∃ z : Int, z = pl * (if decide (f < 4) = true then (1 : Int) else 0) := ⟨_, rfl⟩
  rw [← hpl] at hplus hp4
  have g17 := (g13.trans g6).trans g7
  have e7 := g17.tp hD _ _ e0
  refine ⟨_, rfl, b0, rfl, ⟨_, sqt e7⟩, fun D hD' => ?_⟩
  have nDd := new_ne g17.dr hD'
  have s1 := same_new hD' (.lst [])
  refine lc_tup (K := K) (a := b0) (xs := xs) (fun (i : Nat) (H' : Hp) => ∃ o : List Int, Go d H H' ∧ H' D = some (.lst (o.map V.int)) ∧ o.length = i ∧ ∀ c ∈ o, 0 ≤ c ∧ c ≤ 44) ?_ ?_ ?_ ?_
  · exact ⟨[], g17.trans (.same g17.dr s1), upd_same, rfl, fun s h => nomatch h⟩
  · rintro i H' _ ⟨o, g8, _⟩
    exact sqt (g8.tp hD _ _ e0)
  · rintro i x H' hx ⟨o, g8, e8, hlen, hmem⟩
    have hi := (List.getElem?_eq_some_iff.mp hx).1
    refine ⟨rfl, yes_if ?_⟩
    refine ⟨_, rfl, _, rfl, d, m, rfl, g8.dr, by omega, fun y H5 g9 y0 y1 => ?_⟩
    have e9 := g9.fr D _ nDd e8
    have hD0 : H D = none := g17.free hD'
    refine ⟨_, rfl, _, _, rfl, rfl, .inl ⟨by omega, by omega⟩, _, rfl, _, _, rfl, rfl, _, e9, big' (by rw [List.length_map]; omega), o ++ [y * f + plus], (g8.trans g9).put2 hD0 nDd, ?_, by rw [List.length_append, hlen]; rfl, fun c hc => ?_⟩
    · rw [upd_same, List.map_append, hpl]
      rfl
    · rcases List.mem_append.mp hc with hc | hc
      · exact hmem c hc
      · rw [List.mem_singleton.mp hc]
        have y12 : y < 12 := by omega
        rcases f1 with rfl | rfl | rfl
        · omega
        · omega
        · have := hp4 rfl
          omega
  · rintro H5 ⟨o, g8, e8, hlen, hmem⟩
    refine ⟨D, _, rfl, .inl ⟨sqd e8, fun t ht => ?_⟩⟩
    exact q t o _ (g8.trans (Go.new g8.dr ht)) upd_same (by omega) hmem
/-! ### _law_other_replies -/
def spOthR : Sp := fun vs H Q _ => ∃ (d c : Addr) (n : Int) (rs : List Int), vs = [.ref d, .int n, .ref c] ∧ Dr H d ∧ 0 ≤ n ∧ H c = some (.tup (rs.map V.int)) ∧ rs.length ≤ 1000 ∧ ∀ p (m : List Int) H', Go d H H' → H' p = some (.tup (m.map V.int)) → m.length ≤ rs.length + 1 → Q (.ref p) H'
theorem ok_law_other_replies (T : Txt K mg) : FnOk P w K mg base CX0 2 T.a_law_other_replies T.d_law_other_replies P_law_other_replies spOthR := by
  have G_law_take := ok_law_take (P := P) (w := w) (base := base) T
  refine T.F_law_other_replies.ok sc_law_other_replies (fun vs H Q E h => ?_) (fun cdv A outer s H vs Q E hr h => ?_)
  · obtain ⟨d, c, n, rs, rfl, _⟩ := h
    rfl
  obtain ⟨d, c, n, rs, rfl, hD, n0, ec, hl, q⟩ := h
  refine ⟨_, (pss_cons (ps_set (i := 3) sc_law_other_replies.nd rfl (Or.inl rfl) (pe_call G_law_take (hr.mono (by omega)) (by rfl) T.m_law_take T.F_law_take.kp T.b_law_take .nil pass0 (pa_cons (pv 0) (pa_cons (pe_op op_add (pe_callB call_len_seq (by rfl) T.z_len PySem.boot_len (pa_cons (pv 2) pa_nil)) pe_int) pa_nil))))
    (pss_cons (ps_set (i := 4) sc_law_other_replies.nd rfl (Or.inl rfl) (pe_call G_law_take (hr.mono (by omega)) (by rfl) T.m_law_take T.F_law_take.kp T.b_law_take .nil pass0 (pa_cons (pv 0) (pa_cons pe_int pa_nil))))
    (pss_cons (ps_set (i := 5) sc_law_other_replies.nd rfl (Or.inl rfl) (pe_op op_sub (pe_call G_law_take (hr.mono (by omega)) (by rfl) T.m_law_take T.F_law_take.kp T.b_law_take .nil pass0 (pa_cons (pv 0) (pa_cons (pe_op op_add (pv 1) pe_int) pa_nil))) pe_int))
    (pss_cons (ps_if (PW.pt (pw_or (pt_cmpR op_eq (pv 3) (pe_callB call_len_seq (by rfl) T.z_len PySem.boot_len (pa_cons (pv 2) pa_nil)) (nomark _)) (pw_or1 (pt_cmpR op_eq (pv 4) pe_int (nomark _)))))
    (pss_one (ps_ret (pe_op op_catA (pe_op op_catA (pe_slice sl_tupA (pv 2) po_none (po_some (pv 3))) (pe_tup (pa_cons (pv 5) pa_nil))) (pe_slice sl_tupA (pv 2) (po_some (pv 3)) po_none))))
    pss_nil)
    (pss_cons (ps_if (pt_cmpR op_eq (pv 4) pe_int (nomark _))
    (pss_one (ps_ret (pe_op op_catA (pe_slice sl_tupA (pv 2) po_none (po_some (pv 3))) (pe_slice sl_tupA (pv 2) (po_some (pe_op op_add (pv 3) pe_int)) po_none))))
    pss_nil)
    (pss_one (ps_ret (pe_op op_catA (pe_op op_catA (pe_slice sl_tupA (pv 2) po_none (po_some (pv 3))) (pe_tup (pa_cons (pv 5) pa_nil))) (pe_slice sl_tupA (pv 2) (po_some (pe_op op_add (pv 3) pe_int)) po_none))))))))), ?_⟩
  refine ⟨_, rfl, _, rfl, c, _, rfl, .inr (sqt ec), _, _, rfl, rfl, d, _, rfl, hD, by omega, fun at_ H1 g1 a0 a1 => ?_⟩
  have a1 : at_ < ((rs.map V.int).length : Int) + 1 := a1
  rw [List.length_map] at a1
  refine ⟨_, rfl, d, 4, rfl, g1.dr, by decide, fun k H2 g2 k0 k1 => ?_⟩
  refine ⟨_, rfl, _, rfl, _, _, rfl, rfl, d, _, rfl, g2.dr, (show (0 : Int) < n + 3 by omega), fun o H3 g3 o0 o1 => ⟨_, _, rfl, rfl, ?_⟩⟩
  dsimp only
  generalize ho2 : o - 2 = oth
  have g13 := (g1.trans g2).trans g3
  have ec3 := g13.tp hD _ _ ec
  obtain ⟨j, rfl⟩ : ∃ j : Nat, at_ = (j : Int) := ⟨at_.toNat, by omega⟩
  have gs : ∀ {H'}, Same H3 H' → Go d H H' := fun s => g13.trans (.same g13.dr s)
  have hlt : ((rs.map V.int).take j).length ≤ rs.length := by rw [List.length_take, List.length_map]; exact Nat.min_le_right _ _
  refine' cutP ?f1 ?b1
  case f1 =>
    intro ins
    refine ⟨_, rfl, _, rfl, c, _, rfl, .inr (sqt ec3), rfl, _, rfl, ?_⟩
    by_cases z : (j : Int) = ((rs.map V.int).length : Int)
    · exact ifT (decide_eq_true (congrArg V.int z)) (iteT ins)
    refine ifF (decide_eq_false fun h => z (V.int.inj h)) ?_
    refine ⟨_, rfl, rfl, _, rfl, ?_⟩
    refine ite2 (fun z2 => ins) (fun z2 => ?_)
    refine ⟨_, rfl, rfl, _, rfl, ?_⟩
    refine ite2 (fun z3 => ?_) (fun z3 => ?_)
    · refine ⟨_, rfl, ?_⟩
      unfold tNoPart
      refine ⟨_, rfl, _, rfl, slV_of ec3 fun p1 H4 s4 k4 => ?_⟩
      rw [jcutT rfl] at k4
      refine ⟨_, rfl, _, rfl, _, _, rfl, rfl, _, rfl, slV_of (s4 _ _ ec3) fun p3 H7 s7 k7 => ?_⟩
      rw [jcutD (k := j + 1) (by omega)] at k7
      refine catX_of (s7 _ _ k4) k7 (by rw [List.length_drop, List.length_map]; omega) fun p4 H8 s8 k8 => ?_
      refine q p4 (rs.take j ++ rs.drop (j + 1)) H8 (gs (s4.trans (s7.trans s8))) ?_ ?_
      · rw [k8, List.map_append, List.map_take, List.map_drop]
      · rw [List.length_append, List.length_take, List.length_drop]
        omega
    · refine ⟨_, rfl, ?_⟩
      unfold tNoPart
      refine ⟨_, rfl, _, rfl, slV_of ec3 fun p1 H4 s4 k4 => ?_⟩
      rw [jcutT rfl] at k4
      refine ⟨_, rfl, Nat.le_of_ble_eq_true rfl, fun t ht => ?_⟩
      obtain ⟨H5, E5, s5, k5⟩ := newH ht (.tup [V.int oth])
      rw [E5]
      refine catX_of (s5 _ _ k4) k5 (by show _ + 1 ≤ _; omega) fun p2 H6 s6 k6 => ?_
      have s36 := s4.trans (s5.trans s6)
      refine ⟨_, rfl, _, rfl, _, _, rfl, rfl, _, rfl, slV_of (s36 _ _ ec3) fun p3 H7 s7 k7 => ?_⟩
      rw [jcutD (k := j + 1) (by omega)] at k7
      refine catX_of (s7 _ _ k6) k7 (by rw [List.length_append, List.length_drop, List.length_map]; show _ + 1 + _ ≤ _; omega) fun p4 H8 s8 k8 => ?_
      refine q p4 (rs.take j ++ [oth] ++ rs.drop (j + 1)) H8 (gs (s36.trans (s7.trans s8))) ?_ ?_
      · rw [k8, List.map_append, List.map_append, List.map_take, List.map_drop]
        rfl
      · rw [List.length_append, List.length_append, List.length_take, List.length_drop]
        show min j rs.length + 1 + (rs.length - (j + 1)) ≤ rs.length + 1
        omega
  case b1 =>
    refine ⟨_, rfl, ?_⟩
    unfold tNoPart
    refine ⟨_, rfl, _, rfl, slV_of ec3 fun p1 H4 s4 k4 => ?_⟩
    rw [jcutT rfl] at k4
    refine ⟨_, rfl, Nat.le_of_ble_eq_true rfl, fun t ht => ?_⟩
    obtain ⟨H5, E5, s5, k5⟩ := newH ht (.tup [V.int oth])
    rw [E5]
    refine catX_of (s5 _ _ k4) k5 (by show _ + 1 ≤ _; omega) fun p2 H6 s6 k6 => ?_
    have s36 := s4.trans (s5.trans s6)
    refine ⟨_, rfl, _, rfl, _, rfl, slV_of (s36 _ _ ec3) fun p3 H7 s7 k7 => ?_⟩
    rw [jcutD rfl] at k7
    refine catX_of (s7 _ _ k6) k7 (by rw [List.length_append, List.length_drop, List.length_map]; show _ + 1 + _ ≤ _; omega) fun p4 H8 s8 k8 => ?_
    refine q p4 (rs.take j ++ [oth] ++ rs.drop (j)) H8 (gs (s36.trans (s7.trans s8))) ?_ ?_
    · rw [k8, List.map_append, List.map_append, List.map_take, List.map_drop]
      rfl
    · rw [List.length_append, List.length_append, List.length_take, List.length_drop]
      show min j rs.length + 1 + (rs.length - (j)) ≤ rs.length + 1
      omega
end
end NL

set_option maxHeartbeats 4000000
namespace NL
open PySem PySem.Spec PyProof.Rows L2
section
variable {P : Program} {w : World} {K : PySem.W.Frag} {mg : Str → Option Value} {base : Heap}
/-! ### a game -/
def spGame : Sp := fun vs H Q _ => ∃ (d : Addr) (m : Int), vs = [.ref d, .int m] ∧ Dr H d ∧ 0 ≤ m ∧ m ≤ 44 ∧ ∀ gl v kc A (cs : List Int) H', Go d H H' → gl ≠ d → H' gl = some (.lst [v, .ref kc]) → ArIn H' A v → ArG A → H' kc = some (.tup (cs.map V.int)) → cs.length = A.length → (∀ c ∈ cs, (0 : Int) ≤ c ∧ c ≤ 44) → (A.length : Int) ≤ m → H gl = none → Q (.ref gl) H'
theorem ok_law_game (T : Txt K mg) : FnOk P w K mg base CX0 4 T.a_law_game T.d_law_game P_law_game spGame := by
  have G_law_arena := ok_law_arena (P := P) (w := w) (base := base) T
  have G_law_colours := ok_law_colours (P := P) (w := w) (base := base) T
  refine T.F_law_game.ok sc_law_game (fun vs H Q E h => ?_) (fun cdv A outer s H vs Q E hr h => ?_)
  · obtain ⟨d, m, rfl, _⟩ := h
    rfl
  obtain ⟨d, m, rfl, hD, m0, m1, q⟩ := h
  refine ⟨_, (pss_cons (ps_set (i := 2) sc_law_game.nd rfl (Or.inl rfl) (pe_call G_law_arena (hr.mono (by omega)) (by rfl) T.m_law_arena T.F_law_arena.kp T.b_law_arena .nil pass0 (pa_cons (pv 0) (pa_cons (pv 1) pa_nil))))
    (pss_one (ps_ret (pe_lst (pa_cons (pv 2) (pa_cons (pe_call G_law_colours (hr.mono (by omega)) (by rfl) T.m_law_colours T.F_law_colours.kp T.b_law_colours .nil pass0 (pa_cons (pv 0) (pa_cons (pv 2) pa_nil))) pa_nil)))))), ?_⟩
  refine ⟨_, rfl, _, rfl, d, m, rfl, hD, m0, by omega, fun v A0 H1 g1 hA hG hAm => ?_⟩
  refine ⟨_, rfl, _, rfl, _, rfl, d, v, A0, rfl, g1.dr, hA, hG.1, fun kc cs H2 g2 k2 hl hc => ?_⟩
  refine ⟨Nat.le_of_ble_eq_true rfl, fun gl hgl => ?_⟩
  obtain ⟨H3, E3, s3, k3⟩ := newH hgl (.lst [v, .ref kc])
  rw [E3]
  have g12 := g1.trans g2
  exact q gl v kc A0 cs H3 (g12.trans (.same g12.dr s3)) (new_ne g12.dr hgl) k3 ((hA.tp (g2.tp g1.dr)).tp (Tp.same s3)) hG (s3 _ _ k2) hl hc hAm (g12.free hgl)
end
end NL

set_option maxHeartbeats 4000000
namespace NL
open PySem PySem.Spec PyProof.Rows L2
/-! ### measures, or none -/
def OmIn (m : Nat) (H : Hp) (o : Option (List Int)) (v : V) : Prop := match o with
  | none => v = .non
  | some l => ∃ b, v = .ref b ∧ H b = some (.tup (l.map V.int)) ∧ l.length = m
theorem OmIn.tp {m : Nat} {H H' : Hp} {o : Option (List Int)} {v : V} (t : Tp H H') (h : OmIn m H o v) : OmIn m H' o v := by
  cases o with
  | none => exact h
  | some l =>
    obtain ⟨b, h1, h2, h3⟩ := h
    exact ⟨b, h1, t _ _ h2, h3⟩
def msG (ms : List (Option (List Int))) (q : Int) : Option (List Int) := (ms[q.toNat]?).getD none
theorem ms_at {m : Nat} {H : Hp} {ms : List (Option (List Int))} {xs : List V} (h : Each (OmIn m H) ms xs) {q : Int} (h0 : 0 ≤ q) (h1 : q < ms.length) : ∃ v, atI xs q = some v ∧ OmIn m H (msG ms q) v := by
  obtain ⟨a, x, e, g, r⟩ := h.atI h0 h1
  refine ⟨x, g, ?_⟩
  unfold msG
  rw [e]
  exact r
theorem Each.hd {α : Type} {R : α → V → Prop} {a : α} {l : List α} {x : V} {xs : List V} (h : Each R (a :: l) (x :: xs)) : R a x ∧ Each R l xs := by
  refine ⟨h.2 0 a x rfl rfl, ?_, fun k b y e g => h.2 (k + 1) b y e g⟩
  have := h.1
  rw [List.length_cons, List.length_cons] at this
  omega
theorem dp_om {K : PySem.W.Frag} {H : Hp} {m : Nat} : ∀ (ms : List (Option (List Int))) (xs : List V), Each (OmIn m H) ms xs → ∃ ds, DpAll K H xs ds ∧ PyData.canLayAll0 ds = true ∧ PyData.depthAll ds ≤ 1
  | [], xs, h => by
    have : xs = [] := List.length_eq_zero_iff.mp h.1
    subst this
    exact ⟨[], .nil, rfl, Nat.zero_le _⟩
  | o :: r, [], h => by
    have := h.1
    rw [List.length_cons] at this
    exact absurd this (by simp)
  | o :: r, x :: xs, h => by
    obtain ⟨ho, hr⟩ := h.hd
    obtain ⟨ds, h1, h2, h3⟩ := dp_om (K := K) r xs hr
    cases o with
    | none =>
      have hx : x = .non := ho
      subst hx
      refine ⟨.none :: ds, .cons .non h1, ?_, ?_⟩
      · show (true && PyData.canLayAll0 ds) = true
        rw [h2]
        rfl
      · show max 0 (PyData.depthAll ds) ≤ 1
        omega
    | some l =>
      obtain ⟨b, rfl, hb, _⟩ := ho
      obtain ⟨e1, e2⟩ := lay_intsX l
      refine ⟨.tuple (l.map PyData.int) :: ds, .cons (.tup (sqt hb) (dp_intsX l)) h1, ?_, ?_⟩
      · show (PyData.canLayAll0 (l.map PyData.int) && PyData.canLayAll0 ds) = true
        rw [e1, h2]
        rfl
      · show max (PyData.depthAll (l.map PyData.int) + 1) (PyData.depthAll ds) ≤ 1
        omega
theorem shaped_om {ds : List PyData} (h1 : PyData.canLayAll0 ds = true) (h2 : PyData.depthAll ds ≤ 1) : SeqAt.shaped (.list ds) = true := by
  show (PyData.canLayAll0 ds && decide (PyData.depthAll ds + 1 ≤ 64)) = true
  rw [h1, decide_eq_true (by omega)]
  rfl
theorem fr_at {cs : List Int} {s c : Int} (hc : ∀ c ∈ cs, 0 ≤ c ∧ c ≤ 1000) (hm : c ∈ cs) : ∃ k : Nat, k ≤ (frCnt cs s).length ∧ atI ((frLen cs s).map V.int) c = some (V.int (k : Int)) := by
  have h0 := (hc c hm).1
  have h1 := gst_ge hm
  have hn := gst_nn hc
  refine ⟨((cntL (gst cs).toNat s).filter fun x => decide (((c.toNat : Nat) : Int) ≤ x)).length, ?_, ?_⟩
  · unfold frCnt
    rw [List.length_map]
    exact List.length_filter_le _ _
  · have hfr : (frLen cs s)[c.toNat]? = some ((((cntL (gst cs).toNat s).filter fun x => decide (((c.toNat : Nat) : Int) ≤ x)).length : Nat) : Int) := by
      unfold frLen
      rw [List.getElem?_map, List.getElem?_range (by omega)]
      rfl
    have := atI_nat (mapV hfr)
    rw [show ((c.toNat : Nat) : Int) = c by omega] at this ⊢
    exact this
theorem fr_len {cs : List Int} {s : Int} (hc : ∀ c ∈ cs, 0 ≤ c ∧ c ≤ 44) (hs : s = 0 ∨ s = 1) : (frCnt cs s).length ≤ 23 := by
  have hn := gst_nn fun c h => ⟨(hc c h).1, Int.le_trans (hc c h).2 (by decide)⟩
  have h44 : gst cs ≤ 44 := by
    by_cases he : cs = []
    · subst he
      decide
    · exact (hc _ (gst_mem he)).2
  unfold frCnt
  rw [List.length_map]
  have := cnt_len (1 - s) (by omega) (gst cs).toNat
  rw [show 1 - (1 - s) = s by omega] at this
  unfold efX at this
  omega
section
variable {P : Program} {w : World} {K : PySem.W.Frag} {mg : Str → Option Value} {base : Heap}
/-! ### _law_next -/
def spNext : Sp := fun vs H Q _ => ∃ (f : V) (b : Addr) (cs l : List Int) (c s : Int), vs = [f, .int c, .ref b] ∧ FrIn H cs s f ∧ (∀ c ∈ cs, 0 ≤ c ∧ c ≤ 1000) ∧ c ∈ cs ∧ (frCnt cs s).length ≤ 1000 ∧ H b = some (.tup (l.map V.int)) ∧ l.length = (frCnt cs s).length ∧ ∀ o u H', Same H H' → OmIn (frCnt cs s).length H' o u → Q u H'
theorem ok_law_next (T : Txt K mg) : FnOk P w K mg base CX0 1 T.a_law_next T.d_law_next P_law_next spNext := by
  refine T.F_law_next.ok sc_law_next (fun vs H Q E h => ?_) (fun cdv A outer s H vs Q E hr h => ?_)
  · obtain ⟨f, b, cs, l, c, sd, rfl, _⟩ := h
    rfl
  obtain ⟨f, b, cs, ol, c, sd, rfl, ⟨t, l, mm, rfl, kt, kl, km⟩, hc, hcm, hm1000, kb, hol, q⟩ := h
  obtain ⟨ln, hln, hat⟩ := fr_at (s := sd) hc hcm
  generalize frCnt cs sd = fc at *
  generalize hmf : fc.length = m at *
  refine ⟨_, (pss_cons (ps_set (i := 3) sc_law_next.nd rfl (Or.inl rfl) (pe_ix ix_list (pe_ix ix_tup (pv 0) pe_int (fun _ _ => rfl)) (pv 1) (fun _ _ => rfl)))
    (pss_cons (ps_set (i := 4) sc_law_next.nd rfl (Or.inl rfl) (pe_op op_cat (pe_callTy call_list_of (by rfl) T.z_list (by decide +kernel) (pa_cons (pe_slice sl_tupA (pv 2) po_none (po_some (pv 3))) pa_nil)) (pe_lc (own := [("entry", 5)]) (g := (gName 5)) (tt := tYes) rfl sc_law_next.nd (pi_list (pe_slice sl_list (pe_ix ix_tup (pv 0) pe_int (fun _ _ => rfl)) (po_some (pv 3)) po_none)) (blkOk_by (N := N_law_next) (sc := defScope s_law_next) (by decide +kernel)) (fun _ _ _ _ _ => (pg_name (i := 5) sc_law_next.nd rfl (Or.inl rfl))) (fun _ _ _ _ _ => pts_nil) (fun _ _ _ _ _ => pe_int))))
    (pss_cons (ps_if (pt_cmpR op_ne (pe_op op_mod (pe_callTy call_int1 (by rfl) T.z_int (by decide +kernel) (pa_cons (pv 1) pa_nil)) pe_int) (pe_ix ix_tup (pv 0) pe_int (fun _ _ => rfl)) (nomark _))
    (pss_one (ps_ret (pe_callTy call_tuple_of (by rfl) T.z_tuple (by decide +kernel) (pa_cons (pv 4) pa_nil))))
    pss_nil)
    (pss_cons (ps_for  PassesOwn.never rfl (pi_range1 (by rfl) T.z_range (pa_cons (pv 3) pa_nil)) (pg_name (i := 6) sc_law_next.nd rfl (Or.inl rfl))
    (pss_cons (ps_set (i := 7) sc_law_next.nd rfl (Or.inl rfl) (pe_op op_sub (pe_op op_sub (pv 3) pe_int) (pv 6)))
    (pss_cons (ps_if (pt_cmpR op_lt (pe_ix ix_list (pv 4) (pv 7) (fun _ _ => rfl)) (pe_ix ix_list (pe_ix ix_tup (pv 0) pe_int (fun _ _ => rfl)) (pv 7) (fun _ _ => rfl)) (nomark _))
    (pss_cons (ps_asg (pe_op op_add (pe_ix ix_list (pv 4) (pv 7) (fun _ _ => rfl)) pe_int) (pg_sub (pv 4) (pv 7) set_list))
    (pss_one (ps_ret (pe_callTy call_tuple_of (by rfl) T.z_tuple (by decide +kernel) (pa_cons (pv 4) pa_nil)))))
    pss_nil)
    (pss_one (ps_asg pe_int (pg_sub (pv 4) (pv 7) set_list))))))
    (pss_one (ps_ret pe_non)))))), ?_⟩
  refine ⟨_, rfl, t, _, _, _, rfl, rfl, sqt kt, atI1, _, rfl, l, _, _, _, rfl, rfl, sqd kl, hat, ?_⟩
  refine ⟨_, rfl, ?_⟩
  unfold tNoPart
  refine ⟨_, rfl, _, rfl, slV_of kb fun p1 H1 s1 k1 => ?_⟩
  rw [jcutT (k := ln) rfl] at k1
  refine ⟨p1, _, rfl, .inr (sqt k1), fun l1 hl1 => ?_⟩
  obtain ⟨H2, E2, s2, k2⟩ := newH hl1 (.lst ((ol.map V.int).take ln))
  rw [E2]
  have s12 := s1.trans s2
  refine ⟨_, rfl, t, _, _, _, rfl, rfl, sqt (s12 _ _ kt), atI_nat (j := 2) rfl, _, rfl, _, rfl, mm, _, rfl, sqd (s12 _ _ km), fun p2 hp2 => ?_⟩
  obtain ⟨H3, E3, s3, k3⟩ := newH hp2 (.lst (cutV (fc.map V.int) (some (ln : Int)) none))
  rw [E3]
  rw [jcutD (k := ln) rfl] at k3
  have s13 := s12.trans s3
  refine ⟨p2, rfl, ⟨_, sqd k3⟩, fun D hD => ?_⟩
  refine lc_list (K := K) (a := p2) (xs := (fc.map V.int).drop ln) (fun (j : Nat) (H' : Hp) => ∃ zs : List Int, Same H3 H' ∧ H' D = some (.lst (zs.map V.int)) ∧ zs.length = j) ?_ ?_ ?_ ?_
  · exact ⟨[], same_new hD _, upd_same, rfl⟩
  · rintro j H' _ ⟨zs, s4, _⟩
    exact sqd (s4 _ _ k3)
  · rintro j x H4 hx ⟨zs, s4, k4, hzs⟩
    have hjl := (List.getElem?_eq_some_iff.mp hx).1
    rw [List.length_drop, List.length_map] at hjl
    refine ⟨rfl, yes_if ?_⟩
    refine ⟨_, k4, big' (by rw [List.length_map]; omega), zs ++ [0], same_put s4 hD, ?_, by rw [List.length_append, hzs]; rfl⟩
    rw [upd_same, List.map_append]
    rfl
  rintro H4 ⟨zs, s4, k4, hzs⟩
  rw [List.length_drop, List.length_map] at hzs
  have s24 := s3.trans s4
  refine ⟨l1, D, _, _, rfl, rfl, s24 _ _ k2, k4, big (by rw [List.length_take, List.length_map, List.length_map]; omega), fun l5 hl5 => ?_⟩
  have e5 : (ol.map V.int).take ln ++ zs.map V.int = (ol.take ln ++ zs).map V.int := by rw [List.map_append, List.map_take]
  rw [e5]
  obtain ⟨me0, hme0⟩ : ∃ x, x = ol.take ln ++ zs := ⟨_, rfl⟩
  rw [← hme0]
  have hml0 : me0.length = m := by
    rw [hme0, List.length_append, List.length_take]
    omega
  obtain ⟨H5, E5, s5, k5⟩ := newH hl5 (.lst (me0.map V.int))
  rw [E5]
  have s15 := s12.trans (s24.trans s5)
  have hl5H : H l5 = none := (s12.trans s24).free hl5
  have done : ∀ (me : List Int) (H' : Hp) (tt : Addr), Same H H' → me.length = m → H' tt = none → Q (.ref tt) (upd H' tt (.tup (me.map V.int))) := fun me H' tt s' hl ht => q (some me) _ _ (s'.trans (same_new ht _)) ⟨tt, rfl, upd_same, hl⟩
  refine ⟨_, rfl, .inl ⟨_, rfl, _, _, rfl, rfl, (show (0 : Int) < 2 by decide), _, rfl, t, _, _, _, rfl, rfl, sqt (s15 _ _ kt), atI0, rfl, _, rfl, ?_⟩⟩
  refine ite2 (fun z => ?_) (fun z => ?_)
  · exact ⟨_, rfl, l5, _, rfl, .inl ⟨sqd k5, fun tt ht => done me0 H5 tt s15 hml0 ht⟩⟩
  refine ⟨_, rfl, _, rfl, by omega, by omega, ?_⟩
  refine for_range (lo := 0) (n := ((ln : Nat) : Int).toNat) (fun (j : Nat) (σ : L2.St) (H' : Hp) => ∃ (me : List Int) (y6 y7 : Option V), σ = [some (.ref t), some (.int c), some (.ref b), some (.int (ln : Nat)), some (.ref l5), none, y6, y7] ∧ Same H H' ∧ H' l5 = some (.lst (me.map V.int)) ∧ me.length = m) ?_ ?_ ?_
  · exact ⟨me0, none, none, rfl, s15, k5, hml0⟩
  · rintro j σ H6 hj ⟨me, y6, y7, rfl, s6, k6, hme⟩
    generalize hk : (0 : Int) + (j : Int) = kk
    have hkj : kk = (j : Int) := by omega
    clear hk
    subst hkj
    obtain ⟨at_, hat_⟩ : ∃ i : Nat, (i : Int) = ((ln : Nat) : Int) - 1 - (j : Int) := ⟨ln - 1 - j, by omega⟩
    refine ⟨_, rfl, _, _, rfl, rfl, _, rfl, _, _, rfl, rfl, ?_⟩
    obtain ⟨x, hx⟩ : ∃ x, me[at_]? = some x := ⟨_, List.getElem?_eq_getElem (by omega)⟩
    obtain ⟨y, hy⟩ : ∃ x, fc[at_]? = some x := ⟨_, List.getElem?_eq_getElem (by omega)⟩
    have ax := atI_nat (mapV hx)
    have ay := atI_nat (mapV hy)
    rw [hat_] at ax ay
    refine ⟨_, rfl, _, rfl, l5, _, _, _, rfl, rfl, sqd k6, ax, _, rfl, t, _, _, _, rfl, rfl, sqt (s6 _ _ kt), atI_nat (j := 2) rfl, _, rfl, mm, _, _, _, rfl, rfl, sqd (s6 _ _ km), ay, _, _, rfl, rfl, _, rfl, ?_⟩
    have hset : ∀ v : Int, (me.map V.int).set (((ln : Nat) : Int) - 1 - (j : Int)).toNat (V.int v) = (me.set at_ v).map V.int := fun v => by rw [← hat_, Int.toNat_natCast, List.map_set]
    refine ite2 (fun z => ?_) (fun z => ?_)
    · refine ⟨_, rfl, _, rfl, l5, _, _, _, rfl, rfl, sqd k6, ax, _, _, rfl, rfl, ?_⟩
      refine ⟨_, rfl, _, rfl, l5, _, _, _, rfl, rfl, k6, ixN_in (by omega) (by rw [List.length_map]; omega), ?_⟩
      dsimp only
      rw [hset]
      obtain ⟨H7, E7⟩ : ∃ H', H' = upd H6 l5 (.lst ((me.set at_ (x + 1)).map V.int)) := ⟨_, rfl⟩
      have k7 : H7 l5 = some (.lst ((me.set at_ (x + 1)).map V.int)) := by rw [E7]; exact upd_same
      have s7 : Same H H7 := by rw [E7]; exact same_put s6 hl5H
      rw [← E7]
      exact ⟨_, rfl, l5, _, rfl, .inl ⟨sqd k7, fun tt ht => done _ H7 tt s7 (by rw [List.length_set]; exact hme) ht⟩⟩
    · refine ⟨_, rfl, _, rfl, l5, _, _, _, rfl, rfl, k6, ixN_in (by omega) (by rw [List.length_map]; omega), ?_⟩
      rw [hset]
      exact ⟨_, _, _, rfl, same_put s6 hl5H, upd_same, by rw [List.length_set]; exact hme⟩
  · rintro σ H6 ⟨me, y6, y7, rfl, s6, k6, hme⟩
    exact q none .non H6 s6 rfl
end
end NL

set_option maxHeartbeats 4000000
namespace NL
open PySem PySem.Spec PyProof.Rows L2
def TupIn (m : Nat) (H : Hp) (x : V) : Prop := ∃ (b : Addr) (l : List Int), x = .ref b ∧ H b = some (.tup (l.map V.int)) ∧ l.length = m
theorem TupIn.tp {m : Nat} {H H' : Hp} {x : V} (t : Tp H H') (h : TupIn m H x) : TupIn m H' x := by
  obtain ⟨b, l, h1, h2, h3⟩ := h
  exact ⟨b, l, h1, t _ _ h2, h3⟩
theorem TupIn.om {m : Nat} {H : Hp} {x : V} (h : TupIn m H x) : ∃ o, OmIn m H o x := by
  obtain ⟨b, l, h1, h2, h3⟩ := h
  exact ⟨some l, b, h1, h2, h3⟩
theorem tups_ok {m : Nat} {K : PySem.W.Frag} {H : Hp} {xs : List V} (h : ∀ x ∈ xs, TupIn m H x) : ∀ x ∈ xs, ∃ (b : Addr) (ns : List Int), x = .ref b ∧ SqT K H b (ns.map V.int) := fun x hx => by
  obtain ⟨b, l, h1, h2, _⟩ := h x hx
  exact ⟨b, l, h1, sqt h2⟩
section
variable {P : Program} {w : World} {K : PySem.W.Frag} {mg : Str → Option Value} {base : Heap}
/-! ### _law_option_lift -/
def spOL : Sp := fun vs H Q _ => ∃ (f : V) (b ml : Addr) (cs : List Int) (ms : List (Option (List Int))) (xs : List V) (c s : Int) (o : List Int), vs = [f, .int c, .ref b, .ref ml] ∧ FrIn H cs s f ∧ (∀ c ∈ cs, 0 ≤ c ∧ c ≤ 1000) ∧ c ∈ cs ∧ (frCnt cs s).length ≤ 1000 ∧ H b = some (.tup (o.map V.int)) ∧ OptG ms.length o ∧ H ml = some (.lst xs) ∧ Each (OmIn (frCnt cs s).length H) ms xs ∧ ∀ o' u H', Same H H' → OmIn (frCnt cs s).length H' o' u → Q u H'
theorem ok_law_option_lift (T : Txt K mg) : FnOk P w K mg base CX0 2 T.a_law_option_lift T.d_law_option_lift P_law_option_lift spOL := by
  have G_law_next := ok_law_next (P := P) (w := w) (base := base) T
  refine T.F_law_option_lift.ok sc_law_option_lift (fun vs H Q E h => ?_) (fun cdv A outer s H vs Q E hr h => ?_)
  · obtain ⟨f, b, ml, cs, ms, xs, c, sd, o, rfl, _⟩ := h
    rfl
  obtain ⟨f, b, ml, cs, ms, xs, c, sd, o, rfl, hf, hc, hcm, hm1000, kb, hoG, kml, hms, q⟩ := h
  obtain ⟨t, l, mm, rfl, kt, kl, km⟩ := id hf
  have hol := hoG.len
  have hone := List.length_pos_iff.mpr hoG.ne
  refine ⟨_, (pss_cons (ps_set (i := 4) sc_law_option_lift.nd rfl (Or.inl rfl) (pe_lst pa_nil))
    (pss_cons (ps_for  PassesOwn.never rfl (pi_tup (pv 2)) (pg_name (i := 5) sc_law_option_lift.nd rfl (Or.inl rfl))
    (pss_cons (ps_set (i := 6) sc_law_option_lift.nd rfl (Or.inl rfl) pe_non)
    (C8.pss_cut (ps_if (PW.pt (pw_and (pt_cmpR op_eq (pv 5) (pe_un un_neg pe_int) (nomark _)) (pw_and1 (pt_cmpR op_eq (pe_ix ix_tup (pv 0) pe_int (fun _ _ => rfl)) pe_int (nomark _)))))
    (pss_one (ps_set (i := 6) sc_law_option_lift.nd rfl (Or.inl rfl) (pe_callTy call_tuple_of (by rfl) T.z_tuple (by decide +kernel) (pa_cons (pe_lc (own := [("entry", 7)]) (g := (gName 7)) (tt := tYes) rfl sc_law_option_lift.nd (pi_list (pe_ix ix_tup (pv 0) pe_int (fun _ _ => rfl))) (blkOk_by (N := N_law_option_lift) (sc := defScope s_law_option_lift) (by decide +kernel)) (fun _ _ _ _ _ => (pg_name (i := 7) sc_law_option_lift.nd rfl (Or.inl rfl))) (fun _ _ _ _ _ => pts_nil) (fun _ _ _ _ _ => pe_int)) pa_nil))))
    pss_nil)
    (C8.pss_cut (ps_if (PW.pt (pw_and (pt_cmpR op_ge (pv 5) pe_int (nomark _)) (pw_and1 (pt_cmpR op_notN (pe_ix ix_list (pv 3) (pv 5) (fun _ _ => rfl)) pe_non (nomark _)))))
    (pss_one (ps_set (i := 6) sc_law_option_lift.nd rfl (Or.inl rfl) (pe_call G_law_next (hr.mono (by omega)) (by rfl) T.m_law_next T.F_law_next.kp T.b_law_next .nil pass0 (pa_cons (pv 0) (pa_cons (pv 1) (pa_cons (pe_ix ix_list (pv 3) (pv 5) (fun _ _ => rfl)) pa_nil))))))
    pss_nil)
    (pss_one (ps_expr (pe_bm PySem.F.plainAttrs_list PySem.F.slot_list_append PySem.F.type_list_append mt_append (pv 4) (pa_cons (pv 6) pa_nil))))))))
    (pss_cons (ps_setLc (i := 8) (own := [("lift", 6)]) (g := (gName 6)) (tt := _) rfl sc_law_option_lift.nd rfl rfl (sw_true rfl rfl rfl (by decide +kernel)) (pi_list (pv 4)) (blkOk_by (N := N_law_option_lift) (sc := defScope s_law_option_lift) (by decide +kernel)) (fun _ _ _ _ _ => (pg_name (i := 6) sc_law_option_lift.nd rfl (Or.inl rfl))) (fun _ _ _ _ _ => (pts_one (pt_cmpR op_notN (pv 6) pe_non (nomark _)))) (fun _ _ _ _ _ => (pv 6)))
    (pss_cons (ps_if (pt_cmpR op_eq (pe_ix ix_tup (pv 0) pe_int (fun _ _ => rfl)) pe_int (nomark _))
    (pss_cons (ps_if (pt_cmpR op_lt (pe_callB call_len_seq (by rfl) T.z_len PySem.boot_len (pa_cons (pv 8) pa_nil)) (pe_callB call_len_seq (by rfl) T.z_len PySem.boot_len (pa_cons (pv 4) pa_nil)) (nomark _))
    (pss_one (ps_ret pe_non))
    pss_nil)
    (pss_one (ps_ret (pe_callB (cr_maxT rfl hr.units) (by rfl) T.z_max (by decide +kernel) (pa_cons (pv 8) pa_nil)))))
    pss_nil)
    (pss_cons (ps_if (pt_cmpR op_eq (pe_callB call_len_seq (by rfl) T.z_len PySem.boot_len (pa_cons (pv 8) pa_nil)) pe_int (nomark _))
    (pss_one (ps_ret pe_non))
    pss_nil)
    (pss_one (ps_ret (pe_callB (cr_minT rfl hr.units) (by rfl) T.z_min (by decide +kernel) (pa_cons (pv 8) pa_nil))))))))), ?_⟩
  refine ⟨Nat.zero_le _, fun fl hfl => ?_⟩
  obtain ⟨H1, E1, s1, k1⟩ := newH hfl (.lst [])
  rw [E1]
  refine ⟨_, rfl, b, rfl, ⟨_, sqt (s1 _ _ kb)⟩, ?_⟩
  refine for_tup (K := K) (a := b) (xs := o.map V.int) (fun (j : Nat) (σ : L2.St) (H' : Hp) => ∃ (ys : List V) (os : List (Option (List Int))) (y5 y6 : Option V), σ = [some (.ref t), some (.int c), some (.ref b), some (.ref ml), some (.ref fl), y5, y6, none, none] ∧ Same H H' ∧ H' fl = some (.lst ys) ∧ Each (OmIn (frCnt cs sd).length H') os ys ∧ os.length = j) ?_ ?_ ?_ ?_
  · exact ⟨[], [], none, none, rfl, s1, k1, .nil, rfl⟩
  · rintro j σ H' _ ⟨ys, os, y5, y6, rfl, s2, _⟩
    exact sqt (s2 _ _ kb)
  · rintro j x σ H2 hx ⟨ys, os, y5, y6, rfl, s2, k2, hys, hos⟩
    have hjl := (List.getElem?_eq_some_iff.mp hx).1
    rw [List.length_map] at hjl
    rw [List.getElem?_map] at hx
    obtain ⟨e, he, rfl⟩ := Option.map_eq_some_iff.mp hx
    have hem := hoG.mem e (List.mem_of_getElem? he)
    refine ⟨fun σ H' => ∃ (ov : Option (List Int)) (v : V), σ = [some (.ref t), some (.int c), some (.ref b), some (.ref ml), some (.ref fl), some (.int e), some v, none, none] ∧ Same H2 H' ∧ OmIn (frCnt cs sd).length H' ov v, ?_, ?_⟩
    · refine ⟨_, rfl, _, rfl, rfl, _, rfl, ?_⟩
      refine ite2 (fun z => ?_) (fun z => iteF ⟨none, .non, rfl, Same.refl _, rfl⟩)
      refine ⟨_, rfl, t, _, _, _, rfl, rfl, sqt (s2 _ _ kt), atI0, rfl, _, rfl, ?_⟩
      refine ite2 (fun z => ?_) (fun z => ⟨none, .non, rfl, Same.refl _, rfl⟩)
      refine ⟨_, rfl, t, _, _, _, rfl, rfl, sqt (s2 _ _ kt), atI_nat (j := 2) rfl, mm, rfl, ⟨_, sqd (s2 _ _ km)⟩, fun D hD => ?_⟩
      refine lc_list (K := K) (a := mm) (xs := (frCnt cs sd).map V.int) (fun (i : Nat) (H' : Hp) => ∃ zs : List Int, Same H2 H' ∧ H' D = some (.lst (zs.map V.int)) ∧ zs.length = i) ?_ ?_ ?_ ?_
      · exact ⟨[], same_new hD _, upd_same, rfl⟩
      · rintro i H' _ ⟨zs, s4, _⟩
        exact sqd (s4 _ _ (s2 _ _ km))
      · rintro i x H4 hx ⟨zs, s4, k4, hzs⟩
        have hil := (List.getElem?_eq_some_iff.mp hx).1
        rw [List.length_map] at hil
        refine ⟨rfl, yes_if ?_⟩
        refine ⟨_, k4, big' (by rw [List.length_map]; omega), zs ++ [0], same_put s4 hD, ?_, by rw [List.length_append, hzs]; rfl⟩
        rw [upd_same, List.map_append]
        rfl
      rintro H4 ⟨zs, s4, k4, hzs⟩
      rw [List.length_map] at hzs
      refine ⟨D, _, rfl, .inl ⟨sqd k4, fun tt ht => ?_⟩⟩
      exact ⟨some zs, .ref tt, rfl, s4.trans (same_new ht _), ⟨tt, rfl, upd_same, hzs⟩⟩
    rintro σ H3 ⟨ov, v, rfl, s3, hov⟩
    refine ⟨fun σ H' => ∃ (ov : Option (List Int)) (v : V), σ = [some (.ref t), some (.int c), some (.ref b), some (.ref ml), some (.ref fl), some (.int e), some v, none, none] ∧ Same H3 H' ∧ OmIn (frCnt cs sd).length H' ov v, ?_, ?_⟩
    · have s03 := s2.trans s3
      refine ⟨_, rfl, _, _, rfl, rfl, _, rfl, ?_⟩
      by_cases h0 : 0 ≤ e
      rotate_left
      · exact ifF (decide_eq_false h0) (iteF ⟨ov, v, rfl, Same.refl _, hov⟩)
      refine ifT (decide_eq_true h0) ?_
      obtain ⟨u, hu, hou⟩ := ms_at (hms.mono fun a x => OmIn.tp (Tp.same s03)) h0 (show e < (ms.length : Int) by omega)
      refine ⟨_, rfl, _, rfl, ml, _, _, _, rfl, rfl, sqd (s03 _ _ kml), hu, rfl, _, rfl, ?_⟩
      cases hg : msG ms e with
      | none =>
        rw [hg] at hou
        have hu0 : u = .non := hou
        subst hu0
        exact ifF rfl ⟨ov, v, rfl, Same.refl _, hov⟩
      | some ol =>
        rw [hg] at hou
        obtain ⟨bb, rfl, kbb, hol2⟩ := hou
        refine ifT rfl ?_
        exact ⟨_, rfl, _, rfl, _, rfl, _, rfl, ml, _, _, _, rfl, rfl, sqd (s03 _ _ kml), hu, .ref t, bb, cs, ol, c, sd, rfl, hf.same s03, hc, hcm, hm1000, kbb, hol2, fun o' u' H' s' ho' => ⟨o', u', rfl, s', ho'⟩⟩
    rintro σ H4 ⟨ov, v, rfl, s4, hov⟩
    have s24 := s3.trans s4
    have k4 := s24 _ _ k2
    have hyl := hys.1
    refine ⟨_, rfl, .inl ⟨rfl, _, sqd k4⟩, _, rfl, fl, _, _, rfl, rfl, k4, big' (by omega), ?_⟩
    have tpx : Tp H4 (upd H4 fl (.lst (ys ++ [v]))) := tp_put Tp.refl k4
    exact ⟨ys ++ [v], os ++ [ov], _, _, rfl, same_put (s2.trans s24) hfl, upd_same, (hys.mono fun a x => OmIn.tp ((Tp.same s24).trans tpx)).snoc (hov.tp tpx), by rw [List.length_append, hos]; rfl⟩
  · rintro σ H2 ⟨ys, os, y5, y6, rfl, s2, k2, hys, hos⟩
    rw [List.length_map] at hos
    have hyl := hys.1
    refine ⟨_, rfl, fl, rfl, ⟨_, sqd k2⟩, fun D hD => ?_⟩
    refine lc_list (K := K) (a := fl) (xs := ys) (fun (i : Nat) (H' : Hp) => ∃ zs : List V, Same H2 H' ∧ H' D = some (.lst zs) ∧ (∀ x ∈ zs, TupIn (frCnt cs sd).length H' x) ∧ zs.length ≤ i) ?_ ?_ ?_ ?_
    · exact ⟨[], same_new hD _, upd_same, fun x h => (nomatch h), Nat.le_refl 0⟩
    · rintro i H' _ ⟨zs, s3, _⟩
      exact sqd (s3 _ _ k2)
    · rintro i x H3 hx ⟨zs, s3, k3, hzs, hzl⟩
      have hil := (List.getElem?_eq_some_iff.mp hx).1
      obtain ⟨ov, hov⟩ : ∃ ov, os[i]? = some ov := ⟨_, List.getElem?_eq_getElem (by omega)⟩
      have hxo := hys.2 _ _ _ hov hx
      refine ⟨rfl, ?_⟩
      refine ⟨_, rfl, rfl, _, rfl, ?_⟩
      cases ov with
      | none =>
        have hx0 : x = .non := hxo
        subst hx0
        exact ifF rfl ⟨zs, s3, k3, hzs, by omega⟩
      | some ll =>
        obtain ⟨bb, rfl, kbb, hll⟩ := hxo
        refine ifT rfl ?_
        have tpx : Tp H3 (upd H3 D (.lst (zs ++ [.ref bb]))) := tp_put Tp.refl k3
        refine ⟨_, rfl, _, k3, big' (by omega), zs ++ [.ref bb], same_put s3 hD, upd_same, fun x hx => ?_, by rw [List.length_append]; show zs.length + 1 ≤ i + 1; omega⟩
        rcases List.mem_append.mp hx with h | h
        · exact (hzs x h).tp tpx
        · rw [List.mem_singleton.mp h]
          exact ⟨bb, ll, rfl, tpx _ _ (s3 _ _ kbb), hll⟩
    rintro H3 ⟨zs, s3, k3, hzs, hzl⟩
    have s03 := s2.trans s3
    have fin : ∀ x ∈ zs, Q x H3 := fun x hx => by
      obtain ⟨o', ho'⟩ := (hzs x hx).om
      exact q o' x H3 s03 ho'
    refine ⟨_, rfl, t, _, _, _, rfl, rfl, sqt (s03 _ _ kt), atI0, rfl, _, rfl, ?_⟩
    refine ite2 (fun z => ?_) (fun z => ?_)
    · refine ⟨_, rfl, D, _, rfl, .inl (sqd k3), _, rfl, fl, _, rfl, .inl (sqd (s3 _ _ k2)), _, _, rfl, rfl, _, rfl, ?_⟩
      by_cases hlt : ((zs.length : Nat) : Int) < (ys.length : Nat)
      · exact ifT (decide_eq_true hlt) (q none .non H3 s03 rfl)
      · exact ifF (decide_eq_false hlt) ⟨_, rfl, D, zs, rfl, sqd k3, by omega, tups_ok hzs, fin⟩
    · refine ⟨_, rfl, D, _, rfl, .inl (sqd k3), rfl, _, rfl, ?_⟩
      refine ite2 (fun z => q none .non H3 s03 rfl) (fun z => ?_)
      have hz' := int_ne z
      exact ⟨_, rfl, D, zs, rfl, sqd k3, by omega, tups_ok hzs, fin⟩
/-! ### _law_lift -/
def spLf : Sp := fun vs H Q _ => ∃ (v f : V) (ml : Addr) (A : Ar) (cs : List Int) (ms : List (Option (List Int))) (xs : List V) (c s : Int) (p : Nat), vs = [v, f, .int c, .int p, .ref ml] ∧ ArIn H A v ∧ ArG A ∧ FrIn H cs s f ∧ (∀ c ∈ cs, 0 ≤ c ∧ c ≤ 1000) ∧ c ∈ cs ∧ (frCnt cs s).length ≤ 1000 ∧ H ml = some (.lst xs) ∧ Each (OmIn (frCnt cs s).length H) ms xs ∧ ms.length = A.length ∧ p < A.length ∧ ∀ o' u H', Same H H' → OmIn (frCnt cs s).length H' o' u → Q u H'
theorem ok_law_lift (T : Txt K mg) : FnOk P w K mg base CX0 3 T.a_law_lift T.d_law_lift P_law_lift spLf := by
  have G_law_option_lift := ok_law_option_lift (P := P) (w := w) (base := base) T
  refine T.F_law_lift.ok sc_law_lift (fun vs H Q E h => ?_) (fun cdv A outer s H vs Q E hr h => ?_)
  · obtain ⟨v, f, ml, A, cs, ms, xs, c, sd, p, rfl, _⟩ := h
    rfl
  obtain ⟨v, f, ml, A0, cs, ms, xs, c, sd, p, rfl, hA, hG, hf, hc, hcm, hm1000, kml, hms, hml, hp, q⟩ := h
  obtain ⟨t, l, mm, rfl, kt, kl, km⟩ := id hf
  obtain ⟨b0, zs0, rfl, e0, hzs0⟩ := id hA
  obtain ⟨ps, hps⟩ : ∃ ps, A0[p]? = some ps := ⟨_, List.getElem?_eq_getElem hp⟩
  obtain ⟨z, hz, b1, ys, rfl, e1, hys⟩ := hzs0.at hps
  have hyl := hys.1
  have hosG := hG.2 ps (List.mem_of_getElem? hps)
  have h12 := hosG.1
  refine ⟨_, (pss_cons (ps_setLc (i := 5) (own := [("option", 6)]) (g := (gName 6)) (tt := tYes) rfl sc_law_lift.nd rfl rfl (sw_true rfl rfl rfl (by decide +kernel)) (pi_tup (pe_ix ix_tup (pv 0) (pv 3) (fun _ _ => rfl))) (blkOk_by (N := N_law_lift) (sc := defScope s_law_lift) (by decide +kernel)) (fun _ _ _ _ _ => (pg_name (i := 6) sc_law_lift.nd rfl (Or.inl rfl))) (fun _ _ _ _ _ => pts_nil) (fun _ _ _ _ _ => (pe_call G_law_option_lift (hr.mono (by omega)) (by rfl) T.m_law_option_lift T.F_law_option_lift.kp T.b_law_option_lift .nil pass0 (pa_cons (pv 1) (pa_cons (pv 2) (pa_cons (pv 6) (pa_cons (pv 4) pa_nil)))))))
    (pss_cons (ps_setLc (i := 7) (own := [("lift", 8)]) (g := (gName 8)) (tt := _) rfl sc_law_lift.nd rfl rfl (sw_true rfl rfl rfl (by decide +kernel)) (pi_list (pv 5)) (blkOk_by (N := N_law_lift) (sc := defScope s_law_lift) (by decide +kernel)) (fun _ _ _ _ _ => (pg_name (i := 8) sc_law_lift.nd rfl (Or.inl rfl))) (fun _ _ _ _ _ => (pts_one (pt_cmpR op_notN (pv 8) pe_non (nomark _)))) (fun _ _ _ _ _ => (pv 8)))
    (pss_cons (ps_if (pt_cmpR op_eq (pe_ix ix_tup (pv 1) pe_int (fun _ _ => rfl)) pe_int (nomark _))
    (pss_cons (ps_if (pt_cmpR op_eq (pe_callB call_len_seq (by rfl) T.z_len PySem.boot_len (pa_cons (pv 7) pa_nil)) pe_int (nomark _))
    (pss_one (ps_ret pe_non))
    pss_nil)
    (pss_one (ps_ret (pe_callB (cr_minT rfl hr.units) (by rfl) T.z_min (by decide +kernel) (pa_cons (pv 7) pa_nil)))))
    pss_nil)
    (pss_cons (ps_if (pt_cmpR op_lt (pe_callB call_len_seq (by rfl) T.z_len PySem.boot_len (pa_cons (pv 7) pa_nil)) (pe_callB call_len_seq (by rfl) T.z_len PySem.boot_len (pa_cons (pv 5) pa_nil)) (nomark _))
    (pss_one (ps_ret pe_non))
    pss_nil)
    (pss_one (ps_ret (pe_callB (cr_maxT rfl hr.units) (by rfl) T.z_max (by decide +kernel) (pa_cons (pe_op op_cat (pv 7) (pe_lst (pa_cons (pe_callTy call_tuple_of (by rfl) T.z_tuple (by decide +kernel) (pa_cons (pe_lc (own := [("entry", 9)]) (g := (gName 9)) (tt := tYes) rfl sc_law_lift.nd (pi_list (pe_ix ix_tup (pv 1) pe_int (fun _ _ => rfl))) (blkOk_by (N := N_law_lift) (sc := defScope s_law_lift) (by decide +kernel)) (fun _ _ _ _ _ => (pg_name (i := 9) sc_law_lift.nd rfl (Or.inl rfl))) (fun _ _ _ _ _ => pts_nil) (fun _ _ _ _ _ => pe_int)) pa_nil)) pa_nil))) pa_nil)))))))), ?_⟩
  refine ⟨_, rfl, _, rfl, b0, _, _, _, rfl, rfl, sqt e0, atI_nat hz, b1, rfl, ⟨_, sqt e1⟩, fun F hF => ?_⟩
  refine lc_tup (K := K) (a := b1) (xs := ys) (fun (j : Nat) (H' : Hp) => ∃ (ws : List V) (os : List (Option (List Int))), Same H H' ∧ H' F = some (.lst ws) ∧ Each (OmIn (frCnt cs sd).length H') os ws ∧ os.length = j) ?_ ?_ ?_ ?_
  · exact ⟨[], [], same_new hF _, upd_same, .nil, rfl⟩
  · rintro j H' _ ⟨ws, os, s1, _⟩
    exact sqt (s1 _ _ e1)
  · rintro j x H1 hx ⟨ws, os, s1, k1, hws, hos⟩
    have hjl := (List.getElem?_eq_some_iff.mp hx).1
    have hwl := hws.1
    obtain ⟨oo, hoo⟩ : ∃ oo, ps[j]? = some oo := ⟨_, List.getElem?_eq_getElem (by omega)⟩
    obtain ⟨y, hy, bo, rfl, eo⟩ := hys.at hoo
    rw [hx] at hy
    cases hy
    have hoG := hosG.2 oo (List.mem_of_getElem? hoo)
    rw [← hml] at hoG
    refine ⟨rfl, yes_if ?_⟩
    refine ⟨_, rfl, _, rfl, _, rfl, _, rfl, .ref t, bo, ml, cs, ms, xs, c, sd, oo, rfl, hf.same s1, hc, hcm, hm1000, s1 _ _ eo, hoG, s1 _ _ kml, hms.mono fun a x => OmIn.tp (Tp.same s1), fun o' u H2 s2 hu => ?_⟩
    have k2 := s2 _ _ k1
    have tpx : Tp H2 (upd H2 F (.lst (ws ++ [u]))) := tp_put Tp.refl k2
    exact ⟨_, k2, big' (by omega), ws ++ [u], os ++ [o'], same_put (s1.trans s2) hF, upd_same, (hws.mono fun a x => OmIn.tp ((Tp.same s2).trans tpx)).snoc (hu.tp tpx), by rw [List.length_append, hos]; rfl⟩
  rintro H2 ⟨ws, os, s2, k2, hws, hos⟩
  have hwl := hws.1
  refine ⟨_, rfl, F, rfl, ⟨_, sqd k2⟩, fun D hD => ?_⟩
  refine lc_list (K := K) (a := F) (xs := ws) (fun (i : Nat) (H' : Hp) => ∃ zs : List V, Same H2 H' ∧ H' D = some (.lst zs) ∧ (∀ x ∈ zs, TupIn (frCnt cs sd).length H' x) ∧ zs.length ≤ i) ?_ ?_ ?_ ?_
  · exact ⟨[], same_new hD _, upd_same, fun x h => (nomatch h), Nat.le_refl 0⟩
  · rintro i H' _ ⟨zs, s3, _⟩
    exact sqd (s3 _ _ k2)
  · rintro i x H3 hx ⟨zs, s3, k3, hzs, hzl⟩
    have hil := (List.getElem?_eq_some_iff.mp hx).1
    obtain ⟨ov, hov⟩ : ∃ ov, os[i]? = some ov := ⟨_, List.getElem?_eq_getElem (by omega)⟩
    have hxo := hws.2 _ _ _ hov hx
    refine ⟨rfl, ?_⟩
    refine ⟨_, rfl, rfl, _, rfl, ?_⟩
    cases ov with
    | none =>
      have hx0 : x = .non := hxo
      subst hx0
      exact ifF rfl ⟨zs, s3, k3, hzs, by omega⟩
    | some ll =>
      obtain ⟨bb, rfl, kbb, hll⟩ := hxo
      refine ifT rfl ?_
      have tpx : Tp H3 (upd H3 D (.lst (zs ++ [.ref bb]))) := tp_put Tp.refl k3
      refine ⟨_, rfl, _, k3, big' (by omega), zs ++ [.ref bb], same_put s3 hD, upd_same, fun x hx => ?_, by rw [List.length_append]; show zs.length + 1 ≤ i + 1; omega⟩
      rcases List.mem_append.mp hx with h | h
      · exact (hzs x h).tp tpx
      · rw [List.mem_singleton.mp h]
        exact ⟨bb, ll, rfl, tpx _ _ (s3 _ _ kbb), hll⟩
  rintro H3 ⟨zs, s3, k3, hzs, hzl⟩
  have s03 := s2.trans s3
  refine ⟨_, rfl, t, _, _, _, rfl, rfl, sqt (s03 _ _ kt), atI0, rfl, _, rfl, ?_⟩
  refine ite2 (fun z => ?_) (fun z => ?_)
  · refine ⟨_, rfl, D, _, rfl, .inl (sqd k3), rfl, _, rfl, ?_⟩
    refine ite2 (fun z => q none .non H3 s03 rfl) (fun z => ?_)
    have hz' := int_ne z
    refine ⟨_, rfl, D, zs, rfl, sqd k3, by omega, tups_ok hzs, fun x hx => ?_⟩
    obtain ⟨o', ho'⟩ := (hzs x hx).om
    exact q o' x H3 s03 ho'
  · refine ⟨_, rfl, D, _, rfl, .inl (sqd k3), _, rfl, F, _, rfl, .inl (sqd (s3 _ _ k2)), _, _, rfl, rfl, _, rfl, ?_⟩
    refine ite2 (fun z => q none .non H3 s03 rfl) (fun z => ?_)
    refine ⟨_, rfl, _, rfl, t, _, _, _, rfl, rfl, sqt (s03 _ _ kt), atI_nat (j := 2) rfl, mm, rfl, ⟨_, sqd (s03 _ _ km)⟩, fun G hGn => ?_⟩
    refine lc_list (K := K) (a := mm) (xs := (frCnt cs sd).map V.int) (fun (i : Nat) (H' : Hp) => ∃ es : List Int, Same H3 H' ∧ H' G = some (.lst (es.map V.int)) ∧ es.length = i) ?_ ?_ ?_ ?_
    · exact ⟨[], same_new hGn _, upd_same, rfl⟩
    · rintro i H' _ ⟨es, s4, _⟩
      exact sqd (s4 _ _ (s03 _ _ km))
    · rintro i x H4 hx ⟨es, s4, k4, hes⟩
      have hil := (List.getElem?_eq_some_iff.mp hx).1
      rw [List.length_map] at hil
      refine ⟨rfl, yes_if ?_⟩
      refine ⟨_, k4, big' (by rw [List.length_map]; omega), es ++ [0], same_put s4 hGn, ?_, by rw [List.length_append, hes]; rfl⟩
      rw [upd_same, List.map_append]
      rfl
    rintro H4 ⟨es, s4, k4, hes⟩
    rw [List.length_map] at hes
    refine ⟨G, _, rfl, .inl ⟨sqd k4, fun tt ht => ?_⟩⟩
    obtain ⟨H5, E5, s5, k5⟩ := newH ht (.tup (es.map V.int))
    rw [E5]
    refine ⟨Nat.le_of_ble_eq_true rfl, fun l6 hl6 => ?_⟩
    obtain ⟨H6, E6, s6, k6⟩ := newH hl6 (.lst [.ref tt])
    rw [E6]
    have s36 := (s4.trans s5).trans s6
    refine ⟨D, l6, _, _, rfl, rfl, s36 _ _ k3, k6, big (by show _ + 1 ≤ _; omega), fun l7 hl7 => ?_⟩
    obtain ⟨H7, E7, s7, k7⟩ := newH hl7 (.lst (zs ++ [.ref tt]))
    rw [E7]
    have s37 := s36.trans s7
    have all : ∀ x ∈ zs ++ [V.ref tt], TupIn (frCnt cs sd).length H7 x := fun x hx => by
      rcases List.mem_append.mp hx with h | h
      · exact (hzs x h).tp (Tp.same s37)
      · rw [List.mem_singleton.mp h]
        exact ⟨tt, es, rfl, (s6.trans s7) _ _ k5, hes⟩
    refine ⟨l7, _, rfl, sqd k7, by rw [List.length_append]; exact Nat.succ_pos _, tups_ok all, fun x hx => ?_⟩
    obtain ⟨o', ho'⟩ := (all x hx).om
    exact q o' x H7 (s03.trans s37) ho'
end
end NL

set_option maxHeartbeats 4000000
namespace NL
open PySem PySem.Spec PyProof.Rows L2
section
variable {P : Program} {w : World} {K : PySem.W.Frag} {mg : Str → Option Value} {base : Heap}
theorem frCnt_le {cs : List Int} {s x : Int} (h : x ∈ frCnt cs s) : 0 ≤ x ∧ x ≤ (cs.length : Int) := by
  unfold frCnt at h
  obtain ⟨c, _, rfl⟩ := List.mem_map.mp h
  have := List.length_filter_le (fun x => decide (x = c)) cs
  omega
/-! ### _law_measures -/
def spMs : Sp := fun vs H Q _ => ∃ (v : V) (kc : Addr) (A : Ar) (cs : List Int) (s : Int), vs = [v, .ref kc, .int s] ∧ (s = 0 ∨ s = 1) ∧ ArIn H A v ∧ ArG A ∧ A.length ≤ 5 ∧ H kc = some (.tup (cs.map V.int)) ∧ cs.length = A.length ∧ (∀ c ∈ cs, (0 : Int) ≤ c ∧ c ≤ 44) ∧ ∀ (ml : Addr) (ms : List (Option (List Int))) (xs : List V) H', Same H H' → H' ml = some (.lst xs) → Each (OmIn (frCnt cs s).length H') ms xs → ms.length = A.length → Q (.ref ml) H'
theorem ok_law_measures (T : Txt K mg) : FnOk P w K mg base CX0 4 T.a_law_measures T.d_law_measures P_law_measures spMs := by
  have G_law_frame := ok_law_frame (P := P) (w := w) (base := base) T
  have G_law_lift := ok_law_lift (P := P) (w := w) (base := base) T
  refine T.F_law_measures.ok sc_law_measures (fun vs H Q E h => ?_) (fun cdv A outer s H vs Q E hr h => ?_)
  · obtain ⟨v, kc, A, cs, sd, rfl, _⟩ := h
    rfl
  obtain ⟨v, kc, A0, cs, sd, rfl, hsd, hA, hG, hA5, ekc, hcl, hc, q⟩ := h
  have hc1000 : ∀ c ∈ cs, (0 : Int) ≤ c ∧ c ≤ 1000 := fun c h => ⟨(hc c h).1, Int.le_trans (hc c h).2 (by decide)⟩
  have hm23 := fr_len (s := sd) hc hsd
  obtain ⟨b0, zs0, rfl, e0, hzs0⟩ := id hA
  have hzl := hzs0.1
  refine ⟨_, (pss_cons (ps_set (i := 3) sc_law_measures.nd rfl (Or.inr rfl) (pe_call G_law_frame (hr.mono (by omega)) (by rfl) T.m_law_frame T.F_law_frame.kp T.b_law_frame .nil pass0 (pa_cons (pv 1) (pa_cons (pv 2) pa_nil))))
    (pss_cons (ps_setLc (i := 4) (own := [("options", 6)]) (g := (gName 6)) (tt := tYes) rfl sc_law_measures.nd rfl rfl (sw_true rfl rfl rfl (by decide +kernel)) (pi_tup (pv 0)) (blkOk_by (N := N_law_measures) (sc := defScope s_law_measures) (by decide +kernel)) (fun _ _ _ _ _ => (pg_name (i := 6) sc_law_measures.nd rfl (Or.inl rfl))) (fun _ _ _ _ _ => pts_nil) (fun _ _ _ _ _ => (pe_callTy (call_tuple_ofK (K := K) rfl) (by rfl) T.z_tuple (by decide +kernel) (pa_cons (pe_lc (own := [("entry", 5)]) (g := (gName 5)) (tt := tYes) rfl sc_law_measures.nd (pi_listK (K := K) rfl (pe_ix (ix_tupK (K := K) rfl) (pv 3) pe_int (fun _ _ => rfl))) (blkOk_by (by rfl)) (fun _ _ _ _ _ => (pg_name (i := 5) sc_law_measures.nd rfl (Or.inl rfl))) (fun _ _ _ _ _ => pts_nil) (fun _ _ _ _ _ => pe_int)) pa_nil))))
    (pss_cons (ps_set (i := 7) sc_law_measures.nd rfl (Or.inl rfl) pe_int)
    (pss_cons (ps_for  PassesOwn.never rfl (pi_list (pe_ix ix_tup (pv 3) pe_int (fun _ _ => rfl))) (pg_name (i := 8) sc_law_measures.nd rfl (Or.inl rfl))
    (pss_one (ps_set (i := 7) sc_law_measures.nd rfl (Or.inl rfl) (pe_op op_mul (pv 7) (pe_op op_add pe_int (pv 8))))))
    (pss_cons (ps_for  PassesOwn.never rfl (pi_range1 (by rfl) T.z_range (pa_cons (pe_op op_add (pe_op op_mul (pe_op op_add (pv 7) pe_int) (pe_callB call_len_seq (by rfl) T.z_len PySem.boot_len (pa_cons (pv 0) pa_nil))) pe_int) pa_nil)) (pg_name (i := 9) sc_law_measures.nd rfl (Or.inl rfl))
    (pss_cons (ps_set (i := 10) sc_law_measures.nd rfl (Or.inl rfl) (pe_lst pa_nil))
    (pss_cons (ps_for  PassesOwn.never rfl (pi_range1 (by rfl) T.z_range (pa_cons (pe_callB call_len_seq (by rfl) T.z_len PySem.boot_len (pa_cons (pv 0) pa_nil)) pa_nil)) (pg_name (i := 11) sc_law_measures.nd rfl (Or.inl rfl))
    (pss_cons (ps_set (i := 12) sc_law_measures.nd rfl (Or.inl rfl) pe_non)
    (C8.pss_cut (ps_if (pt_cmpR op_notN (pe_ix ix_list (pv 4) (pv 11) (fun _ _ => rfl)) pe_non (nomark _))
    (pss_one (ps_set (i := 12) sc_law_measures.nd rfl (Or.inl rfl) (pe_call G_law_lift (hr.mono (by omega)) (by rfl) T.m_law_lift T.F_law_lift.kp T.b_law_lift .nil pass0 (pa_cons (pv 0) (pa_cons (pv 3) (pa_cons (pe_ix ix_tup (pv 1) (pv 11) (fun _ _ => rfl)) (pa_cons (pv 11) (pa_cons (pv 4) pa_nil))))))))
    pss_nil)
    (pss_one (ps_expr (pe_bm PySem.F.plainAttrs_list PySem.F.slot_list_append PySem.F.type_list_append mt_append (pv 10) (pa_cons (pv 12) pa_nil)))))))
    (pss_cons (ps_if (pt_cmpR (op_eqD hr.units) (pv 10) (pv 4) (nomark _))
    (pss_one ps_break)
    pss_nil)
    (pss_one (ps_set (i := 4) sc_law_measures.nd rfl (Or.inl rfl) (pv 10)))))))
    (pss_one (ps_ret (pv 4)))))))), ?_⟩
  refine ⟨_, rfl, _, rfl, kc, cs, sd, rfl, ekc, by omega, hc1000, fun f H1 s1 hf => ?_⟩
  obtain ⟨t, l, mm, rfl, kt, kl, km⟩ := id hf
  refine ⟨_, rfl, b0, rfl, ⟨_, sqt (s1 _ _ e0)⟩, fun D hD => ?_⟩
  refine lc_tup (K := K) (a := b0) (xs := zs0) (fun (j : Nat) (H' : Hp) => ∃ (ws : List V) (os : List (Option (List Int))), Same H1 H' ∧ H' D = some (.lst ws) ∧ Each (OmIn (frCnt cs sd).length H') os ws ∧ os.length = j) ?_ ?_ ?_ ?_
  · exact ⟨[], [], same_new hD _, upd_same, .nil, rfl⟩
  · rintro j H' _ ⟨ws, os, s2, _⟩
    exact sqt (s2 _ _ (s1 _ _ e0))
  · rintro j x H2 hx ⟨ws, os, s2, k2, hws, hos⟩
    have hjl := (List.getElem?_eq_some_iff.mp hx).1
    have hwl := hws.1
    refine ⟨rfl, yes_if ?_⟩
    refine ⟨_, rfl, t, _, _, _, rfl, rfl, sqt (s2 _ _ kt), atI_nat (j := 2) rfl, mm, rfl, ⟨_, sqd (s2 _ _ km)⟩, fun G hGn => ?_⟩
    refine lc_list (K := K) (a := mm) (xs := (frCnt cs sd).map V.int) (fun (i : Nat) (H' : Hp) => ∃ es : List Int, Same H2 H' ∧ H' G = some (.lst (es.map V.int)) ∧ es.length = i) ?_ ?_ ?_ ?_
    · exact ⟨[], same_new hGn _, upd_same, rfl⟩
    · rintro i H' _ ⟨es, s4, _⟩
      exact sqd (s4 _ _ (s2 _ _ km))
    · rintro i x H4 hx ⟨es, s4, k4, hes⟩
      have hil := (List.getElem?_eq_some_iff.mp hx).1
      rw [List.length_map] at hil
      refine ⟨rfl, yes_if ?_⟩
      refine ⟨_, k4, big' (by rw [List.length_map]; omega), es ++ [0], same_put s4 hGn, ?_, by rw [List.length_append, hes]; rfl⟩
      rw [upd_same, List.map_append]
      rfl
    rintro H4 ⟨es, s4, k4, hes⟩
    rw [List.length_map] at hes
    refine ⟨G, _, rfl, .inl ⟨sqd k4, fun tt ht => ?_⟩⟩
    obtain ⟨H5, E5, s5, k5⟩ := newH ht (.tup (es.map V.int))
    rw [E5]
    have s25 := s4.trans s5
    have k25 := s25 _ _ k2
    have tpx : Tp H5 (upd H5 D (.lst (ws ++ [.ref tt]))) := tp_put Tp.refl k25
    exact ⟨_, k25, big' (by omega), ws ++ [.ref tt], os ++ [some es], same_put (s2.trans s25) hD, upd_same, (hws.mono fun a x => OmIn.tp ((Tp.same s25).trans tpx)).snoc ⟨tt, rfl, tpx _ _ k5, hes⟩, by rw [List.length_append, hos]; rfl⟩
  rintro H2 ⟨ws, os, s2, k2, hws, hos⟩
  have s02 := s1.trans s2
  refine ⟨_, rfl, t, _, _, _, rfl, rfl, sqt (s2 _ _ kt), atI_nat (j := 2) rfl, mm, rfl, ⟨_, sqd (s2 _ _ km)⟩, ?_⟩
  refine for_list (K := K) (a := mm) (xs := (frCnt cs sd).map V.int) (fun (j : Nat) (σ : L2.St) (H' : Hp) => ∃ (st : Int) (y8 : Option V), σ = [some (.ref b0), some (.ref kc), some (.int sd), some (.ref t), some (.ref D), none, none, some (.int st), y8, none, none, none, none] ∧ Same H2 H' ∧ 0 ≤ st ∧ st ≤ ((6 ^ j : Nat) : Int)) ?_ ?_ ?_ ?_
  · exact ⟨1, none, rfl, Same.refl _, by decide, by decide⟩
  · rintro j σ H' _ ⟨st, y8, rfl, s3, _⟩
    exact sqd (s3 _ _ (s2 _ _ km))
  · rintro j x σ H3 hx ⟨st, y8, rfl, s3, st0, st1⟩
    rw [List.getElem?_map] at hx
    obtain ⟨c, hc', rfl⟩ := Option.map_eq_some_iff.mp hx
    have hcb := frCnt_le (List.mem_of_getElem? hc')
    refine ⟨_, rfl, _, rfl, _, _, rfl, rfl, _, _, rfl, rfl, .inr ⟨by omega, by omega⟩, ?_⟩
    refine ⟨_, _, rfl, s3, Int.mul_nonneg st0 (by omega), ?_⟩
    rw [Nat.pow_succ, Int.natCast_mul]
    exact Int.mul_le_mul st1 (show 1 + c ≤ 6 by omega) (by omega) (Int.natCast_nonneg _)
  rintro σ H3 ⟨st, y8, rfl, s3, st0, st1⟩
  have st23 : st ≤ 789730223053602816 := by
    rw [List.length_map] at st1
    have h1 : (6 ^ (frCnt cs sd).length : Nat) ≤ 6 ^ 23 := Nat.pow_le_pow_right (by decide) hm23
    have h2 : (6 ^ 23 : Nat) = 789730223053602816 := by decide +kernel
    omega
  have s03 := s02.trans s3
  have hb : 0 ≤ (st + 1) * ((zs0.length : Nat) : Int) ∧ (st + 1) * ((zs0.length : Nat) : Int) ≤ 3948651115268014085 := by
    have a := Int.mul_nonneg (show 0 ≤ st + 1 by omega) (show (0 : Int) ≤ (zs0.length : Nat) by omega)
    have b := Int.mul_le_mul (show st + 1 ≤ 789730223053602817 by omega) (show ((zs0.length : Nat) : Int) ≤ 5 by omega) (show (0 : Int) ≤ (zs0.length : Nat) by omega) (by omega)
    omega
  refine ⟨_, rfl, _, _, rfl, rfl, _, rfl, b0, _, rfl, .inr (sqt (s03 _ _ e0)), _, _, rfl, rfl, .inr ⟨by omega, by omega⟩, _, _, rfl, rfl, _, rfl, ?_, ?_, ?_⟩
  · omega
  · omega
  refine for_range (lo := 0) (n := ((st + 1) * ((zs0.length : Nat) : Int) + 1).toNat) (fun (j : Nat) (σ : L2.St) (H' : Hp) => ∃ (ml : Addr) (ms : List (Option (List Int))) (xs : List V) (y8 y9 y10 y11 y12 : Option V), σ = [some (.ref b0), some (.ref kc), some (.int sd), some (.ref t), some (.ref ml), none, none, some (.int st), y8, y9, y10, y11, y12] ∧ Same H1 H' ∧ H' ml = some (.lst xs) ∧ Each (OmIn (frCnt cs sd).length H') ms xs ∧ ms.length = A0.length) ?_ ?_ ?_
  · exact ⟨D, os, ws, _, none, none, none, none, rfl, s2.trans s3, s3 _ _ k2, hws.mono fun a x => OmIn.tp (Tp.same s3), by omega⟩
  · rintro j σ H4 hj ⟨ml, ms, xs, y8, y9, y10, y11, y12, rfl, s4, k4, hms, hml⟩
    have hxl := hms.1
    refine ⟨Nat.zero_le _, fun fl hfl => ?_⟩
    obtain ⟨H5, E5, s5, k5⟩ := newH hfl (.lst [])
    rw [E5]
    have s05 := (s1.trans s4).trans s5
    refine ⟨_, rfl, b0, _, rfl, .inr (sqt (s05 _ _ e0)), _, rfl, by omega, by omega, ?_⟩
    refine for_range (lo := 0) (n := ((zs0.length : Nat) : Int).toNat) (fun (i : Nat) (σ : L2.St) (H' : Hp) => ∃ (ws : List V) (os : List (Option (List Int))) (y11 y12 : Option V), σ = [some (.ref b0), some (.ref kc), some (.int sd), some (.ref t), some (.ref ml), none, none, some (.int st), y8, some (.int (0 + (j : Int))), some (.ref fl), y11, y12] ∧ Same H4 H' ∧ H' fl = some (.lst ws) ∧ Each (OmIn (frCnt cs sd).length H') os ws ∧ os.length = i) ?_ ?_ ?_
    · exact ⟨[], [], _, _, rfl, s5, k5, .nil, rfl⟩
    · rintro i σ H6 hi ⟨ws, os, y11, y12, rfl, s6, k6, hws, hos⟩
      generalize hk : (0 : Int) + (i : Int) = kk
      have hki : kk = (i : Int) := by omega
      clear hk
      subst hki
      have hwl := hws.1
      have s16 := s4.trans s6
      have s06 := s1.trans s16
      obtain ⟨u, hu, hou⟩ := ms_at (hms.mono fun a x => OmIn.tp (Tp.same s6)) (q := (i : Int)) (by omega) (show (i : Int) < (ms.length : Int) by omega)
      obtain ⟨c, hci⟩ : ∃ c, cs[i]? = some c := ⟨_, List.getElem?_eq_getElem (by omega)⟩
      refine ⟨fun σ H' => ∃ (ov : Option (List Int)) (v : V), σ = [some (.ref b0), some (.ref kc), some (.int sd), some (.ref t), some (.ref ml), none, none, some (.int st), y8, some (.int (0 + (j : Int))), some (.ref fl), some (.int (i : Int)), some v] ∧ Same H6 H' ∧ OmIn (frCnt cs sd).length H' ov v, ?_, ?_⟩
      · refine ⟨_, rfl, _, rfl, ml, _, _, _, rfl, rfl, sqd (s6 _ _ k4), hu, rfl, _, rfl, ?_⟩
        cases hg : msG ms (i : Int) with
        | none =>
          rw [hg] at hou
          have hu0 : u = .non := hou
          subst hu0
          exact ifF rfl ⟨none, .non, rfl, Same.refl _, rfl⟩
        | some ol =>
          rw [hg] at hou
          obtain ⟨bb, rfl, kbb, hol2⟩ := hou
          refine ifT rfl ?_
          exact ⟨_, rfl, _, rfl, _, rfl, _, rfl, kc, _, _, _, rfl, rfl, sqt (s06 _ _ ekc), atI_nat (mapV hci), _, rfl, _, rfl, .ref b0, .ref t, ml, A0, cs, ms, xs, c, sd, i, rfl, hA.tp (Tp.same s06), hG, hf.same s16, hc1000, List.mem_of_getElem? hci, by omega, s6 _ _ k4, hms.mono (fun a x => OmIn.tp (Tp.same s6)), hml, by omega, fun o' u' H' s' ho' => ⟨o', u', rfl, s', ho'⟩⟩
      rintro σ H7 ⟨ov, v, rfl, s7, hov⟩
      have k7 := s7 _ _ k6
      refine ⟨_, rfl, .inl ⟨rfl, _, sqd k7⟩, _, rfl, fl, _, _, rfl, rfl, k7, big' (by omega), ?_⟩
      have tpx : Tp H7 (upd H7 fl (.lst (ws ++ [v]))) := tp_put Tp.refl k7
      exact ⟨ws ++ [v], os ++ [ov], _, _, rfl, same_put (s6.trans s7) hfl, upd_same, (hws.mono fun a x => OmIn.tp ((Tp.same s7).trans tpx)).snoc (hov.tp tpx), by rw [List.length_append, hos]; rfl⟩
    · rintro σ H6 ⟨ws, os, y11, y12, rfl, s6, k6, hws, hos⟩
      have k46 := s6 _ _ k4
      have hms6 := hms.mono fun a x => OmIn.tp (m := (frCnt cs sd).length) (o := a) (v := x) (Tp.same s6)
      obtain ⟨ds, d1, d2, d3⟩ := dp_om (K := K) _ _ hws
      obtain ⟨es, e1, e2, e3⟩ := dp_om (K := K) _ _ hms6
      refine ⟨_, rfl, _, rfl, _, _, .lst (sqd k6) d1, .lst (sqd k46) e1, shaped_om d2 d3, shaped_om e2 e3, _, rfl, ?_⟩
      refine ite2 (fun z => ?_) (fun z => ?_)
      · exact ⟨_, rfl, q ml ms xs H6 (s1.trans (s4.trans s6)) k46 hms6 hml⟩
      · exact ⟨_, rfl, fl, os, ws, _, _, _, _, _, rfl, s4.trans s6, k6, hws, by omega⟩
  · rintro σ H4 ⟨ml, ms, xs, y8, y9, y10, y11, y12, rfl, s4, k4, hms, hml⟩
    exact ⟨_, rfl, q ml ms xs H4 (s1.trans s4) k4 hms hml⟩
end
end NL

set_option maxHeartbeats 4000000
namespace NL
open PySem PySem.Spec PyProof.Rows L2
section
variable {P : Program} {w : World} {K : PySem.W.Frag} {mg : Str → Option Value} {base : Heap}
def spEC (s : Int) (fin : (H : Hp) → Pos' → (V → Hp → Prop) → Prop) : Sp := fun vs H Q _ => ∃ (f v : V) (ml : Addr) (cs : List Int) (ms : List (Option (List Int))) (xs : List V) (c : Int) (p : Nat) (l0 : List Int) (os : Pos'), vs = [f, .int c, .ref ml, .int p, v] ∧ FrIn H cs s f ∧ (∀ c ∈ cs, 0 ≤ c ∧ c ≤ 1000) ∧ c ∈ cs ∧ H ml = some (.lst xs) ∧ Each (OmIn (frCnt cs s).length H) ms xs ∧ p < ms.length ∧ msG ms (p : Int) = some l0 ∧ PosIn H os v ∧ PosG ms.length os ∧ fin H os Q
/-! ### _law_even_choice -/
theorem ok_law_even_choice (T : Txt K mg) : FnOk P w K mg base CX0 2 T.a_law_even_choice T.d_law_even_choice P_law_even_choice (spEC 1 fun H os Q => ∀ (r : Int) H', Same H H' → Q (.int r) H') := by
  have G_law_may := ok_law_may (P := P) (w := w) (base := base) T
  refine T.F_law_even_choice.ok sc_law_even_choice (fun vs H Q E h => ?_) (fun cdv A outer s H vs Q E hr h => ?_)
  · obtain ⟨f, v, ml, cs, ms, xs, c, p, l0, os, rfl, _⟩ := h
    rfl
  obtain ⟨f, v, ml, cs, ms, xs, c, p, l0, os, rfl, hf, hc, hcm, kml, hms, hp, hl0, hv, hosG, q⟩ := h
  obtain ⟨b1, ys, rfl, e1, hys⟩ := id hv
  have hyl := hys.1
  have h12 := hosG.1
  obtain ⟨u0, hu0, hou0⟩ := ms_at hms (q := (p : Int)) (by omega) (by omega)
  rw [hl0] at hou0
  obtain ⟨ba, rfl, kba, _⟩ := hou0
  refine ⟨_, (pss_cons (ps_for  PassesOwn.never rfl (pi_range1 (by rfl) T.z_range (pa_cons (pe_callB call_len_seq (by rfl) T.z_len PySem.boot_len (pa_cons (pv 4) pa_nil)) pa_nil)) (pg_name (i := 5) sc_law_even_choice.nd rfl (Or.inl rfl))
    (pss_cons (ps_setLc (i := 6) (own := [("successor", 7)]) (g := (gName 7)) (tt := _) rfl sc_law_even_choice.nd rfl rfl (sw_true rfl rfl rfl (by decide +kernel)) (pi_tup (pe_ix ix_tup (pv 4) (pv 5) (fun _ _ => rfl))) (blkOk_by (N := N_law_even_choice) (sc := defScope s_law_even_choice) (by decide +kernel)) (fun _ _ _ _ _ => (pg_name (i := 7) sc_law_even_choice.nd rfl (Or.inl rfl))) (fun _ _ _ _ _ => (pts_one (PW.pt (pw_and (pt_cmpR op_ge (pv 7) pe_int (nomark _)) (pw_and1 (pt_cmpR op_notN (pe_ix (ix_listK (K := K) rfl) (pv 2) (pv 7) (fun _ _ => rfl)) pe_non (nomark _))))))) (fun _ _ _ _ _ => (pv 7)))
    (pss_one (ps_if (pt_cmpR op_eq (pe_callB call_len_seq (by rfl) T.z_len PySem.boot_len (pa_cons (pv 6) pa_nil)) (pe_callB call_len_seq (by rfl) T.z_len PySem.boot_len (pa_cons (pe_ix ix_tup (pv 4) (pv 5) (fun _ _ => rfl)) pa_nil)) (nomark _))
    (pss_cons (ps_setLc (i := 8) (own := [("other", 9)]) (g := (gName 9)) (tt := tYes) rfl sc_law_even_choice.nd rfl rfl (sw_true rfl rfl rfl (by decide +kernel)) (pi_list (pv 6)) (blkOk_by (N := N_law_even_choice) (sc := defScope s_law_even_choice) (by decide +kernel)) (fun _ _ _ _ _ => (pg_name (i := 9) sc_law_even_choice.nd rfl (Or.inl rfl))) (fun _ _ _ _ _ => pts_nil) (fun _ _ _ _ _ => (pe_call G_law_may (hr.mono (by omega)) (by rfl) T.m_law_may T.F_law_may.kp T.b_law_may .nil pass0 (pa_cons (pv 0) (pa_cons (pv 1) (pa_cons (pe_ix (ix_listK (K := K) rfl) (pv 2) (pv 3) (fun _ _ => rfl)) (pa_cons (pe_ix (ix_listK (K := K) rfl) (pv 2) (pv 9) (fun _ _ => rfl)) pa_nil)))))))
    (pss_one (ps_if (pt_cmpR op_notIn_seq pe_bl (pv 8) (by rfl))
    (pss_one (ps_ret (pv 5)))
    pss_nil)))
    pss_nil))))
    (pss_one (ps_ret pe_int))), ?_⟩
  refine ⟨_, rfl, b1, _, rfl, .inr (sqt e1), _, rfl, by omega, by omega, ?_⟩
  refine for_range (lo := 0) (n := ((ys.length : Nat) : Int).toNat) (fun (j : Nat) (σ : L2.St) (H' : Hp) => ∃ (y5 y6 y8 : Option V), σ = [some f, some (.int c), some (.ref ml), some (.int (p : Nat)), some (.ref b1), y5, y6, none, y8, none] ∧ Same H H') ?_ ?_ ?_
  · exact ⟨none, none, none, rfl, Same.refl _⟩
  · rintro j σ H2 hj ⟨y5, y6, y8, rfl, s2⟩
    generalize hk : (0 : Int) + (j : Int) = kk
    have hkj : kk = (j : Int) := by omega
    clear hk
    subst hkj
    obtain ⟨o, ho⟩ : ∃ o, os[j]? = some o := ⟨_, List.getElem?_eq_getElem (by omega)⟩
    obtain ⟨u, hu, bo, rfl, eo⟩ := hys.at ho
    have hoG := hosG.2 o (List.mem_of_getElem? ho)
    have hol := hoG.len
    refine ⟨_, rfl, _, rfl, b1, _, _, _, rfl, rfl, sqt (s2 _ _ e1), atI_nat hu, bo, rfl, ⟨_, sqt (s2 _ _ eo)⟩, fun D hD => ?_⟩
    refine lc_tup (K := K) (a := bo) (xs := o.map V.int) (fun (i : Nat) (H' : Hp) => ∃ rs : List Int, Same H2 H' ∧ H' D = some (.lst (rs.map V.int)) ∧ rs.length ≤ i ∧ ∀ x ∈ rs, 0 ≤ x ∧ x < (ms.length : Int) ∧ ∃ l, msG ms x = some l) ?_ ?_ ?_ ?_
    · exact ⟨[], same_new hD _, upd_same, Nat.le_refl 0, fun x h => nomatch h⟩
    · rintro i H' _ ⟨rs, s3, _⟩
      exact sqt (s3 _ _ (s2 _ _ eo))
    · rintro i x H3 hx ⟨rs, s3, k3, hrl, hrs⟩
      have hil := (List.getElem?_eq_some_iff.mp hx).1
      rw [List.length_map] at hil
      rw [List.getElem?_map] at hx
      obtain ⟨e, he, rfl⟩ := Option.map_eq_some_iff.mp hx
      have hem := hoG.mem e (List.mem_of_getElem? he)
      have s03 := s2.trans s3
      refine ⟨rfl, ?_⟩
      refine ⟨_, rfl, _, _, rfl, rfl, _, rfl, ?_⟩
      by_cases h0 : 0 ≤ e
      rotate_left
      · exact ifF (decide_eq_false h0) (iteF ⟨rs, s3, k3, by omega, hrs⟩)
      refine ifT (decide_eq_true h0) ?_
      obtain ⟨u1, hu1, hou1⟩ := ms_at hms h0 (show e < (ms.length : Int) by omega)
      refine ⟨_, rfl, _, rfl, ml, _, _, _, rfl, rfl, sqd (s03 _ _ kml), hu1, rfl, _, rfl, ?_⟩
      cases hg : msG ms e with
      | none =>
        rw [hg] at hou1
        have hz : u1 = .non := hou1
        subst hz
        exact ifF rfl ⟨rs, s3, k3, by omega, hrs⟩
      | some ll =>
        rw [hg] at hou1
        obtain ⟨bb, rfl, kbb, _⟩ := hou1
        refine ifT rfl ?_
        refine ⟨_, rfl, _, k3, big' (by rw [List.length_map]; omega), rs ++ [e], same_put s3 hD, ?_, by rw [List.length_append]; show rs.length + 1 ≤ i + 1; omega, fun x hx => ?_⟩
        · rw [upd_same, List.map_append]
          rfl
        · rcases List.mem_append.mp hx with h | h
          · exact hrs x h
          · rw [List.mem_singleton.mp h]
            exact ⟨h0, by omega, ll, hg⟩
    rintro H3 ⟨rs, s3, k3, hrl, hrs⟩
    rw [List.length_map] at hrl
    have s03 := s2.trans s3
    refine ⟨_, rfl, D, _, rfl, .inl (sqd k3), _, rfl, _, rfl, b1, _, _, _, rfl, rfl, sqt (s03 _ _ e1), atI_nat hu, bo, _, rfl, .inr (sqt (s03 _ _ eo)), rfl, _, rfl, ?_⟩
    refine ite2 (fun z => ?_) (fun z => ⟨_, _, _, rfl, s03⟩)
    refine ⟨_, rfl, D, rfl, ⟨_, sqd k3⟩, fun F hF => ?_⟩
    refine lc_list (K := K) (a := D) (xs := rs.map V.int) (fun (i : Nat) (H' : Hp) => ∃ bs : List Bool, Same H3 H' ∧ H' F = some (.lst (bs.map V.bl)) ∧ bs.length ≤ i) ?_ ?_ ?_ ?_
    · exact ⟨[], same_new hF _, upd_same, Nat.le_refl 0⟩
    · rintro i H' _ ⟨bs, s4, _⟩
      exact sqd (s4 _ _ k3)
    · rintro i x H4 hx ⟨bs, s4, k4, hbs⟩
      have hil := (List.getElem?_eq_some_iff.mp hx).1
      rw [List.length_map] at hil
      rw [List.getElem?_map] at hx
      obtain ⟨e, he, rfl⟩ := Option.map_eq_some_iff.mp hx
      obtain ⟨h0, h1, ll, hg⟩ := hrs e (List.mem_of_getElem? he)
      obtain ⟨u1, hu1, hou1⟩ := ms_at hms h0 h1
      rw [hg] at hou1
      obtain ⟨bb, rfl, kbb, _⟩ := hou1
      have s04 := s03.trans s4
      refine ⟨rfl, yes_if ?_⟩
      refine ⟨_, rfl, _, rfl, _, rfl, _, rfl, ml, _, _, _, rfl, rfl, sqd (s04 _ _ kml), hu0, _, rfl, _, rfl, ml, _, _, _, rfl, rfl, sqd (s04 _ _ kml), hu1, f, ba, bb, cs, c, ⟨true, l0, 0, 0, []⟩, ⟨true, ll, 0, 0, []⟩, rfl, hf.same s04, hc, hcm, s04 _ _ kba, s04 _ _ kbb, fun H5 s5 => ?_⟩
      have k5 := s5 _ _ k4
      refine ⟨_, k5, big' (by rw [List.length_map]; omega), bs ++ [mfX c (gst cs) ⟨true, l0, 0, 0, []⟩ ⟨true, ll, 0, 0, []⟩], same_put (s4.trans s5) hF, ?_, by rw [List.length_append]; show bs.length + 1 ≤ i + 1; omega⟩
      rw [upd_same, List.map_append]
      rfl
    rintro H4 ⟨bs, s4, k4, hbs⟩
    refine ⟨_, rfl, F, _, rfl, .inl (sqd k4), rfl, flat_bls _, _, rfl, ?_⟩
    refine ite2 (fun z => ⟨_, rfl, q _ H4 (s03.trans s4)⟩) (fun z => ⟨_, _, _, rfl, s03.trans s4⟩)
  · rintro σ H2 ⟨y5, y6, y8, rfl, s2⟩
    exact q 0 H2 s2
/-! ### _law_odd_replies -/
theorem ok_law_odd_replies (T : Txt K mg) : FnOk P w K mg base CX0 2 T.a_law_odd_replies T.d_law_odd_replies P_law_odd_replies (spEC 0 fun H os Q => ∀ (t : Addr) (rs : List Int) H', Same H H' → H' t = some (.tup (rs.map V.int)) → rs.length = os.length → Q (.ref t) H') := by
  have G_law_may := ok_law_may (P := P) (w := w) (base := base) T
  refine T.F_law_odd_replies.ok sc_law_odd_replies (fun vs H Q E h => ?_) (fun cdv A outer s H vs Q E hr h => ?_)
  · obtain ⟨f, v, ml, cs, ms, xs, c, p, l0, os, rfl, _⟩ := h
    rfl
  obtain ⟨f, v, ml, cs, ms, xs, c, p, l0, os, rfl, hf, hc, hcm, kml, hms, hp, hl0, hv, hosG, q⟩ := h
  obtain ⟨b1, ys, rfl, e1, hys⟩ := id hv
  have hyl := hys.1
  have h12 := hosG.1
  obtain ⟨u0, hu0, hou0⟩ := ms_at hms (q := (p : Int)) (by omega) (by omega)
  rw [hl0] at hou0
  obtain ⟨ba, rfl, kba, _⟩ := hou0
  refine ⟨_, (pss_cons (ps_set (i := 5) sc_law_odd_replies.nd rfl (Or.inl rfl) (pe_lst pa_nil))
    (pss_cons (ps_for  PassesOwn.never rfl (pi_tup (pv 4)) (pg_name (i := 6) sc_law_odd_replies.nd rfl (Or.inl rfl))
    (pss_cons (ps_set (i := 7) sc_law_odd_replies.nd rfl (Or.inl rfl) (pe_lst pa_nil))
    (pss_cons (ps_for  PassesOwn.never rfl (pi_tup (pv 6)) (pg_name (i := 8) sc_law_odd_replies.nd rfl (Or.inl rfl))
    (pss_one (ps_if (pt_cmpR op_eq (pv 8) (pe_un un_neg pe_int) (nomark _))
    (pss_one (ps_expr (pe_bm PySem.F.plainAttrs_list PySem.F.slot_list_append PySem.F.type_list_append mt_append (pv 7) (pa_cons (pv 8) pa_nil))))
    (pss_one (ps_if (pt_cmpR op_notN (pe_ix ix_list (pv 2) (pv 8) (fun _ _ => rfl)) pe_non (nomark _))
    (pss_one (ps_if (pt_val (pe_call G_law_may (hr.mono (by omega)) (by rfl) T.m_law_may T.F_law_may.kp T.b_law_may .nil pass0 (pa_cons (pv 0) (pa_cons (pv 1) (pa_cons (pe_ix ix_list (pv 2) (pv 3) (fun _ _ => rfl)) (pa_cons (pe_ix ix_list (pv 2) (pv 8) (fun _ _ => rfl)) pa_nil))))))
    (pss_one (ps_expr (pe_bm PySem.F.plainAttrs_list PySem.F.slot_list_append PySem.F.type_list_append mt_append (pv 7) (pa_cons (pv 8) pa_nil))))
    pss_nil))
    pss_nil)))))
    (pss_one (ps_expr (pe_bm PySem.F.plainAttrs_list PySem.F.slot_list_append PySem.F.type_list_append mt_append (pv 5) (pa_cons (pe_ix ix_list (pe_op op_cat (pv 7) (pe_lst (pa_cons (pe_ix ix_tup (pv 6) pe_int (fun _ _ => rfl)) pa_nil))) pe_int (fun _ _ => rfl)) pa_nil)))))))
    (pss_one (ps_ret (pe_callTy call_tuple_of (by rfl) T.z_tuple (by decide +kernel) (pa_cons (pv 5) pa_nil)))))), ?_⟩
  refine ⟨Nat.zero_le _, fun rl hrn => ?_⟩
  obtain ⟨H1, E1, s1, k1⟩ := newH hrn (.lst [])
  rw [E1]
  refine ⟨_, rfl, b1, rfl, ⟨_, sqt (s1 _ _ e1)⟩, ?_⟩
  refine for_tup (K := K) (a := b1) (xs := ys) (fun (j : Nat) (σ : L2.St) (H' : Hp) => ∃ (rs : List Int) (y6 y7 y8 : Option V), σ = [some f, some (.int c), some (.ref ml), some (.int (p : Nat)), some (.ref b1), some (.ref rl), y6, y7, y8] ∧ Same H H' ∧ H' rl = some (.lst (rs.map V.int)) ∧ rs.length = j) ?_ ?_ ?_ ?_
  · exact ⟨[], none, none, none, rfl, s1, k1, rfl⟩
  · rintro j σ H' _ ⟨rs, y6, y7, y8, rfl, s2, _⟩
    exact sqt (s2 _ _ e1)
  · rintro j x σ H2 hx ⟨rs, y6, y7, y8, rfl, s2, k2, hrs⟩
    have hjl := (List.getElem?_eq_some_iff.mp hx).1
    obtain ⟨o, ho⟩ : ∃ o, os[j]? = some o := ⟨_, List.getElem?_eq_getElem (by omega)⟩
    obtain ⟨u, hu, bo, rfl, eo⟩ := hys.at ho
    rw [hx] at hu
    cases hu
    have hoG := hosG.2 o (List.mem_of_getElem? ho)
    have hol := hoG.len
    have hone := List.length_pos_iff.mpr hoG.ne
    refine ⟨Nat.zero_le _, fun gl hgl => ?_⟩
    obtain ⟨H3, E3, s3, k3⟩ := newH hgl (.lst [])
    rw [E3]
    refine ⟨_, rfl, bo, rfl, ⟨_, sqt ((s2.trans s3) _ _ eo)⟩, ?_⟩
    refine for_tup (K := K) (a := bo) (xs := o.map V.int) (fun (i : Nat) (σ : L2.St) (H' : Hp) => ∃ (gs : List Int) (y8 : Option V), σ = [some f, some (.int c), some (.ref ml), some (.int (p : Nat)), some (.ref b1), some (.ref rl), some (.ref bo), some (.ref gl), y8] ∧ Same H2 H' ∧ H' gl = some (.lst (gs.map V.int)) ∧ gs.length ≤ i) ?_ ?_ ?_ ?_
    · exact ⟨[], _, rfl, s3, k3, Nat.le_refl 0⟩
    · rintro i σ H' _ ⟨gs, y8, rfl, s4, _⟩
      exact sqt ((s2.trans s4) _ _ eo)
    · rintro i x σ H4 hx ⟨gs, y8, rfl, s4, k4, hgs⟩
      have hil := (List.getElem?_eq_some_iff.mp hx).1
      rw [List.length_map] at hil
      rw [List.getElem?_map] at hx
      obtain ⟨e, he, rfl⟩ := Option.map_eq_some_iff.mp hx
      have hem := hoG.mem e (List.mem_of_getElem? he)
      have s04 := s2.trans s4
      refine ⟨_, rfl, _, rfl, rfl, _, rfl, ?_⟩
      refine ite2 (fun z => ?_) (fun z => ?_)
      · refine ⟨_, rfl, .inl ⟨rfl, _, sqd k4⟩, _, rfl, gl, _, _, rfl, rfl, k4, big' (by rw [List.length_map]; omega), ?_⟩
        refine ⟨gs ++ [e], _, rfl, same_put s4 hgl, ?_, by rw [List.length_append]; show gs.length + 1 ≤ i + 1; omega⟩
        rw [upd_same, List.map_append]
        rfl
      · have hne := int_ne z
        have h0 : 0 ≤ e := by omega
        obtain ⟨u1, hu1, hou1⟩ := ms_at hms h0 (show e < (ms.length : Int) by omega)
        refine ⟨_, rfl, _, rfl, ml, _, _, _, rfl, rfl, sqd (s04 _ _ kml), hu1, rfl, _, rfl, ?_⟩
        cases hg : msG ms e with
        | none =>
          rw [hg] at hou1
          have hz : u1 = .non := hou1
          subst hz
          exact ifF rfl ⟨gs, _, rfl, s4, k4, by omega⟩
        | some ll =>
          rw [hg] at hou1
          obtain ⟨bb, rfl, kbb, _⟩ := hou1
          refine ifT rfl ?_
          refine ⟨_, rfl, _, rfl, _, rfl, _, rfl, ml, _, _, _, rfl, rfl, sqd (s04 _ _ kml), hu0, _, rfl, _, rfl, ml, _, _, _, rfl, rfl, sqd (s04 _ _ kml), hu1, f, ba, bb, cs, c, ⟨false, l0, 0, 0, []⟩, ⟨false, ll, 0, 0, []⟩, rfl, hf.same s04, hc, hcm, s04 _ _ kba, s04 _ _ kbb, fun H5 s5 => ⟨_, rfl, ?_⟩⟩
          have k5 := s5 _ _ k4
          refine ite2 (fun z => ?_) (fun z => ⟨gs, _, rfl, s4.trans s5, k5, by omega⟩)
          refine ⟨_, rfl, .inl ⟨rfl, _, sqd k5⟩, _, rfl, gl, _, _, rfl, rfl, k5, big' (by rw [List.length_map]; omega), ?_⟩
          refine ⟨gs ++ [e], _, rfl, same_put (s4.trans s5) hgl, ?_, by rw [List.length_append]; show gs.length + 1 ≤ i + 1; omega⟩
          rw [upd_same, List.map_append]
          rfl
    · rintro σ H4 ⟨gs, y8, rfl, s4, k4, hgs⟩
      rw [List.length_map] at hgs
      have k24 := s4 _ _ k2
      have s04 := s2.trans s4
      obtain ⟨o0, ho0, _⟩ := atI_map (f := V.int) (xs := o) (i := 0) (by omega) (by omega)
      refine ⟨_, rfl, .inl ⟨rfl, _, sqd k24⟩, ?_⟩
      refine ⟨_, rfl, _, rfl, bo, _, _, _, rfl, rfl, sqt (s04 _ _ eo), ho0, Nat.le_of_ble_eq_true rfl, fun l8 hl8 => ?_⟩
      obtain ⟨H8, E8, s8, k8⟩ := newH hl8 (.lst [V.int o0])
      rw [E8]
      refine ⟨gl, l8, _, _, rfl, rfl, s8 _ _ k4, k8, big (by rw [List.length_map]; show _ + 1 ≤ _; omega), fun l9 hl9 => ?_⟩
      have e9 : gs.map V.int ++ [V.int o0] = (gs ++ [o0]).map V.int := by rw [List.map_append]; rfl
      rw [e9]
      obtain ⟨H9, E9, s9, k9⟩ := newH hl9 (.lst ((gs ++ [o0]).map V.int))
      rw [E9]
      obtain ⟨g0, hg0, _⟩ := atI_map (f := V.int) (xs := gs ++ [o0]) (i := 0) (by omega) (by rw [List.length_append]; show ((gs.length + 1 : Nat) : Int) > 0; omega)
      have k29 := (s8.trans s9) _ _ k24
      refine ⟨l9, _, _, _, rfl, rfl, sqd k9, hg0, rl, _, _, rfl, rfl, k29, big' (by rw [List.length_map]; omega), ?_⟩
      refine ⟨rs ++ [g0], _, _, _, rfl, same_put (s04.trans (s8.trans s9)) hrn, ?_, by rw [List.length_append, hrs]; rfl⟩
      rw [upd_same, List.map_append]
      rfl
  · rintro σ H2 ⟨rs, y6, y7, y8, rfl, s2, k2, hrs⟩
    refine ⟨_, rfl, rl, _, rfl, .inl ⟨sqd k2, fun t ht => ?_⟩⟩
    exact q t rs _ (s2.trans (same_new ht _)) upd_same (by omega)
/-- a label of colours with so many replies and entries at most -/
def LcR (n : Nat) (H : Hp) (L : Lx) (x : V) : Prop := LxIn true H L x ∧ L.rs.length ≤ n ∧ L.me.length ≤ n
theorem LcR.tp {n : Nat} {H H' : Hp} {L : Lx} {x : V} (t : Tp H H') (h : LcR n H L x) : LcR n H' L x := ⟨LxIn.tp t h.1, h.2⟩
theorem LcR.up {n m : Nat} {H : Hp} {L : Lx} {x : V} (h : LcR n H L x) (hm : n ≤ m) : LcR m H L x := ⟨h.1, Nat.le_trans h.2.1 hm, Nat.le_trans h.2.2 hm⟩
/-! ### _law_colour_paper -/
def spCP : Sp := fun vs H Q _ => ∃ (v : V) (kc : Addr) (A : Ar) (cs : List Int), vs = [v, .ref kc] ∧ ArIn H A v ∧ ArG A ∧ A.length ≤ 5 ∧ H kc = some (.tup (cs.map V.int)) ∧ cs.length = A.length ∧ (∀ c ∈ cs, (0 : Int) ≤ c ∧ c ≤ 44) ∧ ∀ p xs ls H', Same H H' → H' p = some (.tup xs) → Each (LcR 23 H') ls xs → ls.length = A.length → Q (.ref p) H'
theorem ok_law_colour_paper (T : Txt K mg) : FnOk P w K mg base CX0 5 T.a_law_colour_paper T.d_law_colour_paper P_law_colour_paper spCP := by
  have G_law_frame := ok_law_frame (P := P) (w := w) (base := base) T
  have G_law_measures := ok_law_measures (P := P) (w := w) (base := base) T
  have G_law_even_choice := ok_law_even_choice (P := P) (w := w) (base := base) T
  have G_law_odd_replies := ok_law_odd_replies (P := P) (w := w) (base := base) T
  refine T.F_law_colour_paper.ok sc_law_colour_paper (fun vs H Q E h => ?_) (fun cdv A outer s H vs Q E hr h => ?_)
  · obtain ⟨v, kc, A, cs, rfl, _⟩ := h
    rfl
  obtain ⟨v, kc, A0, cs, rfl, hA, hG, hA5, ekc, hcl, hc, q⟩ := h
  have hc1000 : ∀ c ∈ cs, (0 : Int) ≤ c ∧ c ≤ 1000 := fun c h => ⟨(hc c h).1, Int.le_trans (hc c h).2 (by decide)⟩
  obtain ⟨b0, zs, rfl, e0, hzs⟩ := id hA
  have hzl := hzs.1
  refine ⟨_, (pss_cons (ps_set (i := 2) sc_law_colour_paper.nd rfl (Or.inl rfl) (pe_call G_law_measures (hr.mono (by omega)) (by rfl) T.m_law_measures T.F_law_measures.kp T.b_law_measures .nil pass0 (pa_cons (pv 0) (pa_cons (pv 1) (pa_cons pe_int pa_nil)))))
    (pss_cons (ps_set (i := 3) sc_law_colour_paper.nd rfl (Or.inl rfl) (pe_call G_law_measures (hr.mono (by omega)) (by rfl) T.m_law_measures T.F_law_measures.kp T.b_law_measures .nil pass0 (pa_cons (pv 0) (pa_cons (pv 1) (pa_cons pe_int pa_nil)))))
    (pss_cons (ps_set (i := 4) sc_law_colour_paper.nd rfl (Or.inl rfl) (pe_lst (pa_cons (pe_call G_law_frame (hr.mono (by omega)) (by rfl) T.m_law_frame T.F_law_frame.kp T.b_law_frame .nil pass0 (pa_cons (pv 1) (pa_cons pe_int pa_nil))) (pa_cons (pe_call G_law_frame (hr.mono (by omega)) (by rfl) T.m_law_frame T.F_law_frame.kp T.b_law_frame .nil pass0 (pa_cons (pv 1) (pa_cons pe_int pa_nil))) pa_nil))))
    (pss_cons (ps_set (i := 5) sc_law_colour_paper.nd rfl (Or.inl rfl) (pe_lst pa_nil))
    (pss_cons (ps_for  PassesOwn.never rfl (pi_range1 (by rfl) T.z_range (pa_cons (pe_callB call_len_seq (by rfl) T.z_len PySem.boot_len (pa_cons (pv 0) pa_nil)) pa_nil)) (pg_name (i := 6) sc_law_colour_paper.nd rfl (Or.inl rfl))
    (pss_cons (ps_set (i := 7) sc_law_colour_paper.nd rfl (Or.inl rfl) (pe_ix ix_tup (pv 1) (pv 6) (fun _ _ => rfl)))
    (pss_one (ps_if (pt_cmpR op_notN (pe_ix ix_list (pv 2) (pv 6) (fun _ _ => rfl)) pe_non (nomark _))
    (pss_one (ps_expr (pe_bm PySem.F.plainAttrs_list PySem.F.slot_list_append PySem.F.type_list_append mt_append (pv 5) (pa_cons (pe_tup (pa_cons pe_str (pa_cons (pe_ix ix_list (pv 2) (pv 6) (fun _ _ => rfl)) (pa_cons (pe_call G_law_even_choice (hr.mono (by omega)) (by rfl) T.m_law_even_choice T.F_law_even_choice.kp T.b_law_even_choice .nil pass0 (pa_cons (pe_ix ix_list (pv 4) pe_int (fun _ _ => rfl)) (pa_cons (pv 7) (pa_cons (pv 2) (pa_cons (pv 6) (pa_cons (pe_ix ix_tup (pv 0) (pv 6) (fun _ _ => rfl)) pa_nil)))))) pa_nil)))) pa_nil))))
    (pss_one (ps_if (pt_cmpR op_notN (pe_ix ix_list (pv 3) (pv 6) (fun _ _ => rfl)) pe_non (nomark _))
    (pss_one (ps_expr (pe_bm PySem.F.plainAttrs_list PySem.F.slot_list_append PySem.F.type_list_append mt_append (pv 5) (pa_cons (pe_tup (pa_cons pe_str (pa_cons (pe_ix ix_list (pv 3) (pv 6) (fun _ _ => rfl)) (pa_cons (pe_call G_law_odd_replies (hr.mono (by omega)) (by rfl) T.m_law_odd_replies T.F_law_odd_replies.kp T.b_law_odd_replies .nil pass0 (pa_cons (pe_ix ix_list (pv 4) pe_int (fun _ _ => rfl)) (pa_cons (pv 7) (pa_cons (pv 3) (pa_cons (pv 6) (pa_cons (pe_ix ix_tup (pv 0) (pv 6) (fun _ _ => rfl)) pa_nil)))))) pa_nil)))) pa_nil))))
    (pss_one (ps_expr (pe_bm PySem.F.plainAttrs_list PySem.F.slot_list_append PySem.F.type_list_append mt_append (pv 5) (pa_cons (pe_tup (pa_cons pe_str (pa_cons (pe_tup pa_nil) (pa_cons (pe_tup pa_nil) pa_nil)))) pa_nil))))))))))
    (pss_one (ps_ret (pe_callTy call_tuple_of (by rfl) T.z_tuple (by decide +kernel) (pa_cons (pv 5) pa_nil))))))))), ?_⟩
  refine ⟨_, rfl, _, rfl, .ref b0, kc, A0, cs, 1, rfl, .inr rfl, hA, hG, hA5, ekc, hcl, hc, fun el ems exs H1 s1 ke1 hems hel => ?_⟩
  refine ⟨_, rfl, _, rfl, .ref b0, kc, A0, cs, 0, rfl, .inl rfl, hA.tp (Tp.same s1), hG, hA5, s1 _ _ ekc, hcl, hc, fun dl dms dxs H2 s2 kd2 hdms hdl => ?_⟩
  have s02 := s1.trans s2
  refine ⟨_, rfl, kc, cs, 0, rfl, s02 _ _ ekc, by omega, hc1000, fun f0 H3 s3 hf0 => ?_⟩
  have s03 := s02.trans s3
  refine ⟨_, rfl, kc, cs, 1, rfl, s03 _ _ ekc, by omega, hc1000, fun f1 H4 s4 hf1 => ?_⟩
  refine ⟨Nat.le_of_ble_eq_true rfl, fun Lf hLf => ?_⟩
  obtain ⟨H5, E5, s5, k5⟩ := newH hLf (.lst [f0, f1])
  rw [E5]
  have s25 := (s3.trans s4).trans s5
  have ke5 := s25 _ _ (s2 _ _ ke1)
  have kd5 := s25 _ _ kd2
  have s05 := s02.trans s25
  have hems5 : Each (OmIn (frCnt cs 1).length H5) ems exs := hems.mono fun a x => OmIn.tp (Tp.same (s2.trans s25))
  have hdms5 : Each (OmIn (frCnt cs 0).length H5) dms dxs := hdms.mono fun a x => OmIn.tp (Tp.same s25)
  have hf05 := hf0.same (s4.trans s5)
  have hf15 := hf1.same s5
  have hm1 := fr_len (s := 1) hc (.inr rfl)
  have hm0 := fr_len (s := 0) hc (.inl rfl)
  refine ⟨Nat.zero_le _, fun lb hlb => ?_⟩
  obtain ⟨H6, E6, s6, k6⟩ := newH hlb (.lst [])
  rw [E6]
  refine ⟨_, rfl, b0, _, rfl, .inr (sqt (s6 _ _ (s05 _ _ e0))), _, rfl, by omega, by omega, ?_⟩
  refine for_range (lo := 0) (n := ((zs.length : Nat) : Int).toNat) (fun (j : Nat) (σ : L2.St) (H' : Hp) => ∃ (xs : List V) (ls : List Lx) (y6 y7 : Option V), σ = [some (.ref b0), some (.ref kc), some (.ref el), some (.ref dl), some (.ref Lf), some (.ref lb), y6, y7] ∧ Same H5 H' ∧ H' lb = some (.lst xs) ∧ Each (LcR 23 H') ls xs ∧ ls.length = j) ?_ ?_ ?_
  · exact ⟨[], [], none, none, rfl, s6, k6, .nil, rfl⟩
  · rintro p σ H7 hp ⟨xs, ls, y6, y7, rfl, s7, k7, hxs, hls⟩
    generalize hk : (0 : Int) + (p : Int) = kk
    have hkp : kk = (p : Int) := by omega
    clear hk
    subst hkp
    have hxl := hxs.1
    have s07 := s05.trans s7
    obtain ⟨c, hci⟩ : ∃ c, cs[p]? = some c := ⟨_, List.getElem?_eq_getElem (by omega)⟩
    have hcm := List.mem_of_getElem? hci
    obtain ⟨os, hos⟩ : ∃ os, A0[p]? = some os := ⟨_, List.getElem?_eq_getElem (by omega)⟩
    obtain ⟨z, hz, hzin⟩ := hzs.at hos
    have hosG := hG.2 os (List.mem_of_getElem? hos)
    have h12 := hosG.1
    have hems7 := hems5.mono fun a x => OmIn.tp (m := (frCnt cs 1).length) (o := a) (v := x) (Tp.same s7)
    have hdms7 := hdms5.mono fun a x => OmIn.tp (m := (frCnt cs 0).length) (o := a) (v := x) (Tp.same s7)
    obtain ⟨u1, hu1, hou1⟩ := ms_at hems7 (q := (p : Int)) (by omega) (by omega)
    obtain ⟨u2, hu2, hou2⟩ := ms_at hdms7 (q := (p : Int)) (by omega) (by omega)
    refine ⟨_, rfl, _, rfl, kc, _, _, _, rfl, rfl, sqt (s07 _ _ ekc), atI_nat (mapV hci), ?_⟩
    refine ⟨_, rfl, _, rfl, el, _, _, _, rfl, rfl, sqd (s7 _ _ ke5), hu1, rfl, _, rfl, ?_⟩
    cases hg : msG ems (p : Int) with
    | some l1 =>
      rw [hg] at hou1
      obtain ⟨ba, rfl, kba, hl1⟩ := hou1
      refine ifT rfl ?_
      refine ⟨_, rfl, .inl ⟨rfl, _, sqd k7⟩, ?_⟩
      refine ⟨_, rfl, _, rfl, el, _, _, _, rfl, rfl, sqd (s7 _ _ ke5), hu1, ?_⟩
      refine ⟨_, rfl, Lf, _, _, _, rfl, rfl, sqd (s7 _ _ k5), atI1, _, rfl, _, rfl, _, rfl, _, rfl, _, rfl, b0, _, _, _, rfl, rfl, sqt (s07 _ _ e0), atI_nat hz, ?_⟩
      refine ⟨f1, z, el, cs, ems, exs, c, p, l1, os, rfl, hf15.same s7, hc1000, hcm, s7 _ _ ke5, hems7, by omega, hg, hzin.tp (Tp.same s07), by rw [hel]; exact hosG, fun r H8 s8 => ⟨Nat.le_of_ble_eq_true rfl, fun tl htl => ?_⟩⟩
      obtain ⟨H9, E9, s9, k9⟩ := newH htl (.tup [V.str "even", .ref ba, .int r])
      rw [E9]
      have s79 := s8.trans s9
      have kb9 := s79 _ _ k7
      have tpx : Tp H9 (upd H9 lb (.lst (xs ++ [.ref tl]))) := tp_put Tp.refl kb9
      refine ⟨lb, _, _, rfl, rfl, kb9, big' (by omega), ?_⟩
      refine ⟨xs ++ [.ref tl], ls ++ [⟨true, l1, 0, r, []⟩], _, _, rfl, same_put (s7.trans s79) hlb, upd_same, ?_, by rw [List.length_append, hls]; rfl⟩
      exact (hxs.mono fun a x => LcR.tp ((Tp.same s79).trans tpx)).snoc ⟨⟨tl, .ref ba, .int r, rfl, tpx _ _ k9, ⟨ba, rfl, tpx _ _ (s79 _ _ kba)⟩, rfl⟩, Nat.zero_le _, by show l1.length ≤ 23; omega⟩
    | none =>
      rw [hg] at hou1
      have hz1 : u1 = .non := hou1
      subst hz1
      refine ifF rfl ?_
      refine ⟨_, rfl, _, rfl, dl, _, _, _, rfl, rfl, sqd (s7 _ _ kd5), hu2, rfl, _, rfl, ?_⟩
      cases hg2 : msG dms (p : Int) with
      | some l1 =>
        rw [hg2] at hou2
        obtain ⟨ba, rfl, kba, hl1⟩ := hou2
        refine ifT rfl ?_
        refine ⟨_, rfl, .inl ⟨rfl, _, sqd k7⟩, ?_⟩
        refine ⟨_, rfl, _, rfl, dl, _, _, _, rfl, rfl, sqd (s7 _ _ kd5), hu2, ?_⟩
        refine ⟨_, rfl, Lf, _, _, _, rfl, rfl, sqd (s7 _ _ k5), atI0, _, rfl, _, rfl, _, rfl, _, rfl, _, rfl, b0, _, _, _, rfl, rfl, sqt (s07 _ _ e0), atI_nat hz, ?_⟩
        refine ⟨f0, z, dl, cs, dms, dxs, c, p, l1, os, rfl, hf05.same s7, hc1000, hcm, s7 _ _ kd5, hdms7, by omega, hg2, hzin.tp (Tp.same s07), by rw [hdl]; exact hosG, fun tr rs H8 s8 k8 hrs => ⟨Nat.le_of_ble_eq_true rfl, fun tl htl => ?_⟩⟩
        obtain ⟨H9, E9, s9, k9⟩ := newH htl (.tup [V.str "odd", .ref ba, .ref tr])
        rw [E9]
        have s79 := s8.trans s9
        have kb9 := s79 _ _ k7
        have tpx : Tp H9 (upd H9 lb (.lst (xs ++ [.ref tl]))) := tp_put Tp.refl kb9
        refine ⟨lb, _, _, rfl, rfl, kb9, big' (by omega), ?_⟩
        refine ⟨xs ++ [.ref tl], ls ++ [⟨false, l1, 0, 0, rs⟩], _, _, rfl, same_put (s7.trans s79) hlb, upd_same, ?_, by rw [List.length_append, hls]; rfl⟩
        exact (hxs.mono fun a x => LcR.tp ((Tp.same s79).trans tpx)).snoc ⟨⟨tl, .ref ba, .ref tr, rfl, tpx _ _ k9, ⟨ba, rfl, tpx _ _ (s79 _ _ kba)⟩, ⟨tr, rfl, tpx _ _ (s9 _ _ k8)⟩⟩, by show rs.length ≤ 23; omega, by show l1.length ≤ 23; omega⟩
      | none =>
        rw [hg2] at hou2
        have hz2 : u2 = .non := hou2
        subst hz2
        refine ifF rfl ?_
        refine ⟨_, rfl, .inl ⟨rfl, _, sqd k7⟩, ?_⟩
        refine ⟨Nat.zero_le _, fun tm htm => ?_⟩
        obtain ⟨H8, E8, s8, k8⟩ := newH htm (.tup [])
        rw [E8]
        refine ⟨Nat.zero_le _, fun tr htr => ?_⟩
        obtain ⟨H9, E9, s9, k9⟩ := newH htr (.tup [])
        rw [E9]
        refine ⟨Nat.le_of_ble_eq_true rfl, fun tl htl => ?_⟩
        obtain ⟨Ha, Ea, sa, ka⟩ := newH htl (.tup [V.str "odd", .ref tm, .ref tr])
        rw [Ea]
        have s7a := (s8.trans s9).trans sa
        have kba := s7a _ _ k7
        have tpx : Tp Ha (upd Ha lb (.lst (xs ++ [.ref tl]))) := tp_put Tp.refl kba
        refine ⟨lb, _, _, rfl, rfl, kba, big' (by omega), ?_⟩
        refine ⟨xs ++ [.ref tl], ls ++ [⟨false, [], 0, 0, []⟩], _, _, rfl, same_put (s7.trans s7a) hlb, upd_same, ?_, by rw [List.length_append, hls]; rfl⟩
        exact (hxs.mono fun a x => LcR.tp ((Tp.same s7a).trans tpx)).snoc ⟨⟨tl, .ref tm, .ref tr, rfl, tpx _ _ ka, ⟨tm, rfl, tpx _ _ ((s9.trans sa) _ _ k8)⟩, ⟨tr, rfl, tpx _ _ (sa _ _ k9)⟩⟩, Nat.zero_le _, Nat.zero_le _⟩
  · rintro σ H7 ⟨xs, ls, y6, y7, rfl, s7, k7, hxs, hls⟩
    refine ⟨_, rfl, lb, _, rfl, .inl ⟨sqd k7, fun t ht => ?_⟩⟩
    have s8 := same_new ht (.tup xs)
    exact q t xs ls _ ((s05.trans s7).trans s8) upd_same (hxs.mono fun a x => LcR.tp (Tp.same s8)) (by omega)
end
end NL

set_option maxHeartbeats 4000000
namespace NL
open PySem PySem.Spec PyProof.Rows L2
def PapC (n : Nat) (H : Hp) (m : Nat) (x : V) : Prop := ∃ p xs ls, x = .ref p ∧ H p = some (.tup xs) ∧ Each (LcR n H) ls xs ∧ ls.length = m
theorem PapC.tp {H H' : Hp} {n m : Nat} {x : V} (t : Tp H H') (h : PapC n H m x) : PapC n H' m x := by
  obtain ⟨p, xs, ls, h1, h2, h3, h4⟩ := h
  exact ⟨p, xs, ls, h1, t _ _ h2, h3.mono fun a x => LcR.tp t, h4⟩
theorem PapC.up {H : Hp} {n n' m : Nat} {x : V} (h : PapC n H m x) (hn : n ≤ n') : PapC n' H m x := by
  obtain ⟨p, xs, ls, h1, h2, h3, h4⟩ := h
  exact ⟨p, xs, ls, h1, h2, h3.mono fun a x h => h.up hn, h4⟩
section
variable {P : Program} {w : World} {K : PySem.W.Frag} {mg : Str → Option Value} {base : Heap}
/-! ### _law_entries -/
def spEnts (K : PySem.W.Frag) : Sp := fun vs H Q _ => ∃ (d sc b : Addr) (ns me : List Int), vs = [.ref d, .ref sc, .ref b] ∧ Dr H d ∧ Keep K d H sc (ns.map V.int) ∧ H b = some (.tup (me.map V.int)) ∧ me.length ≤ 1000 ∧ ∀ p (m : List Int) H', Go d H H' → H' p = some (.tup (m.map V.int)) → m.length ≤ me.length + 1 → Q (.ref p) H'
theorem ok_law_entries (T : Txt K mg) : FnOk P w K mg base CX0 3 T.a_law_entries T.d_law_entries P_law_entries (spEnts K) := by
  have G_law_take := ok_law_take (P := P) (w := w) (base := base) T
  have G_law_cell := ok_law_cell (P := P) (w := w) (base := base) T
  refine T.F_law_entries.ok sc_law_entries (fun vs H Q E h => ?_) (fun cdv A outer s H vs Q E hr h => ?_)
  · obtain ⟨d, sc, b, ns, me, rfl, _⟩ := h
    rfl
  obtain ⟨d, sc, b, ns, me, rfl, hD, hK, eb, hl, q⟩ := h
  refine ⟨_, (pss_cons (ps_set (i := 3) sc_law_entries.nd rfl (Or.inl rfl) (pe_call G_law_take (hr.mono (by omega)) (by rfl) T.m_law_take T.F_law_take.kp T.b_law_take .nil pass0 (pa_cons (pv 0) (pa_cons (pe_op op_add (pe_callB call_len_seq (by rfl) T.z_len PySem.boot_len (pa_cons (pv 2) pa_nil)) pe_int) pa_nil))))
    (pss_cons (ps_set (i := 4) sc_law_entries.nd rfl (Or.inl rfl) (pe_call G_law_take (hr.mono (by omega)) (by rfl) T.m_law_take T.F_law_take.kp T.b_law_take .nil pass0 (pa_cons (pv 0) (pa_cons pe_int pa_nil))))
    (pss_cons (ps_if (PW.pt (pw_or (pt_cmpR op_eq (pv 3) (pe_callB call_len_seq (by rfl) T.z_len PySem.boot_len (pa_cons (pv 2) pa_nil)) (nomark _)) (pw_or1 (pt_cmpR op_eq (pv 4) pe_int (nomark _)))))
    (pss_one (ps_ret (pe_op op_catA (pe_op op_catA (pe_slice sl_tupA (pv 2) po_none (po_some (pv 3))) (pe_tup (pa_cons (pe_call G_law_take (hr.mono (by omega)) (by rfl) T.m_law_take T.F_law_take.kp T.b_law_take .nil pass0 (pa_cons (pv 0) (pa_cons pe_int pa_nil))) pa_nil))) (pe_slice sl_tupA (pv 2) (po_some (pv 3)) po_none))))
    pss_nil)
    (pss_cons (ps_if (pt_cmpR op_eq (pv 4) pe_int (nomark _))
    (pss_one (ps_ret (pe_op op_catA (pe_slice sl_tupA (pv 2) po_none (po_some (pv 3))) (pe_slice sl_tupA (pv 2) (po_some (pe_op op_add (pv 3) pe_int)) po_none))))
    pss_nil)
    (pss_cons (ps_set (i := 5) sc_law_entries.nd rfl (Or.inl rfl) (pe_ix ix_list (pe_lst (pa_cons pe_int (pa_cons (pe_un un_neg pe_int) (pa_cons pe_int (pa_cons (pe_op op_sub (pe_un un_neg pe_int) (pe_ix ix_tup (pv 2) (pv 3) (fun _ _ => rfl))) pa_nil))))) (pe_op op_sub (pv 4) pe_int) (fun _ _ => rfl)))
    (C8.pss_cut (ps_if (pt_cmpR op_eq (pe_call G_law_take (hr.mono (by omega)) (by rfl) T.m_law_take T.F_law_take.kp T.b_law_take .nil pass0 (pa_cons (pv 0) (pa_cons pe_int pa_nil))) pe_int (nomark _))
    (pss_one (ps_set (i := 5) sc_law_entries.nd rfl (Or.inl rfl) (pe_call G_law_cell (hr.mono (by omega)) (by rfl) T.m_law_cell T.F_law_cell.kp T.b_law_cell .nil pass0 (pa_cons (pv 1) (pa_cons (pv 0) pa_nil)))))
    pss_nil)
    (pss_one (ps_ret (pe_op op_catA (pe_op op_catA (pe_slice sl_tupA (pv 2) po_none (po_some (pv 3))) (pe_tup (pa_cons (pe_op op_add (pe_ix ix_tup (pv 2) (pv 3) (fun _ _ => rfl)) (pv 5)) pa_nil))) (pe_slice sl_tupA (pv 2) (po_some (pe_op op_add (pv 3) pe_int)) po_none)))))))))), ?_⟩
  refine ⟨_, rfl, _, rfl, b, _, rfl, .inr (sqt eb), _, _, rfl, rfl, d, _, rfl, hD, (show (0 : Int) < ((me.map V.int).length : Int) + 1 by omega), fun at_ H1 g1 a0 a1 => ?_⟩
  have a1 : at_ < ((me.map V.int).length : Int) + 1 := a1
  rw [List.length_map] at a1
  refine ⟨_, rfl, d, 6, rfl, g1.dr, by decide, fun k H2 g2 k0 k1 => ?_⟩
  have g12 := g1.trans g2
  have eb2 := g12.tp hD _ _ eb
  obtain ⟨j, rfl⟩ : ∃ j : Nat, at_ = (j : Int) := ⟨at_.toNat, by omega⟩
  refine' cutP ?f1 ?b1
  case f1 =>
    intro ins
    refine ⟨_, rfl, _, rfl, b, _, rfl, .inr (sqt eb2), rfl, _, rfl, ?_⟩
    by_cases z : (j : Int) = ((me.map V.int).length : Int)
    · exact ifT (decide_eq_true (congrArg V.int z)) (iteT ins)
    refine ifF (decide_eq_false fun h => z (V.int.inj h)) ?_
    rw [List.length_map] at z
    refine ⟨_, rfl, rfl, _, rfl, ?_⟩
    refine ite2 (fun z2 => ins) (fun z2 => ?_)
    have z2' := int_ne z2
    refine ⟨_, rfl, rfl, _, rfl, ?_⟩
    refine ite2 (fun z3 => ?_) (fun z3 => ?_)
    · refine ⟨_, rfl, ?_⟩
      unfold tNoPart
      refine ⟨_, rfl, _, rfl, slV_of eb2 fun p1 H4 s4 k4 => ?_⟩
      rw [jcutT rfl] at k4
      refine ⟨_, rfl, _, rfl, _, _, rfl, rfl, _, rfl, slV_of (s4 _ _ eb2) fun p3 H7 s7 k7 => ?_⟩
      rw [jcutD (k := j + 1) (by omega)] at k7
      refine catX_of (s7 _ _ k4) k7 (by rw [List.length_take, List.length_drop, List.length_map]; omega) fun p4 H8 s8 k8 => ?_
      refine q p4 (me.take j ++ me.drop (j + 1)) H8 (g12.trans (.same g12.dr (s4.trans (s7.trans s8)))) ?_ ?_
      · rw [k8, List.map_append, List.map_take, List.map_drop]
      · rw [List.length_append, List.length_take, List.length_drop]
        omega
    · have z3' := int_ne z3
      obtain ⟨x, hx⟩ : ∃ x, me[j]? = some x := ⟨_, List.getElem?_eq_getElem (by omega)⟩
      refine ⟨_, rfl, _, rfl, _, rfl, _, rfl, b, _, _, _, rfl, rfl, sqt eb2, atI_nat (mapV hx), _, _, rfl, rfl, Nat.le_of_ble_eq_true rfl, fun l3 hl3 => ?_⟩
      obtain ⟨H3, E3, s3, k3⟩ := newH hl3 (.lst (([1, -1, 1, -1 - x] : List Int).map V.int))
      have E3' : upd H2 l3 (.lst [.int 1, .int (-1), .int 1, .int (-1 - x)]) = H3 := E3
      rw [E3']
      obtain ⟨m, hm, _⟩ := atI_map (f := V.int) (xs := ([1, -1, 1, -1 - x] : List Int)) (i := k - 2) (by omega) (by show k - 2 < 4; omega)
      refine ⟨_, rfl, _, _, rfl, rfl, l3, _, _, _, rfl, rfl, sqd k3, hm, ?_⟩
      have g13 := g12.trans (.same g12.dr s3)
      refine ⟨fun σ H' => ∃ ch : Int, σ = [some (.ref d), some (.ref sc), some (.ref b), some (.int (j : Int)), some (.int k), some (.int ch)] ∧ Go d H H', ?_, ?_⟩
      · refine ⟨_, rfl, d, 8, rfl, g13.dr, by decide, fun u H4 g4 _ _ => ⟨rfl, _, rfl, ?_⟩⟩
        have g14 := g13.trans g4
        refine ite2 (fun z => ?_) (fun z => ⟨_, rfl, g14⟩)
        refine ⟨_, rfl, _, rfl, sc, d, ns, rfl, hK.go g14, g14.dr, fun r H5 g5 _ => ?_⟩
        exact ⟨_, rfl, g14.trans g5⟩
      rintro σ H4 ⟨ch, rfl, g4⟩
      have eb4 := g4.tp hD _ _ eb
      refine ⟨_, rfl, ?_⟩
      unfold tNoPart
      refine ⟨_, rfl, _, rfl, slV_of eb4 fun p1 H5 s5 k5 => ?_⟩
      rw [jcutT rfl] at k5
      refine ⟨_, rfl, _, rfl, b, _, _, _, rfl, rfl, sqt (s5 _ _ eb4), atI_nat (mapV hx), _, rfl, _, _, rfl, rfl, Nat.le_of_ble_eq_true rfl, fun t ht => ?_⟩
      obtain ⟨H6, E6, s6, k6⟩ := newH ht (.tup [V.int (x + ch)])
      have E6' : upd H5 t (.tup [V.int (x + ch)]) = H6 := E6
      rw [E6']
      refine catX_of (s6 _ _ k5) k6 (by rw [List.length_take, List.length_map]; show _ + 1 ≤ _; omega) fun p2 H7 s7 k7 => ?_
      have s47 := s5.trans (s6.trans s7)
      refine ⟨_, rfl, _, rfl, _, _, rfl, rfl, _, rfl, slV_of (s47 _ _ eb4) fun p3 H8 s8 k8 => ?_⟩
      rw [jcutD (k := j + 1) (by omega)] at k8
      refine catX_of (s8 _ _ k7) k8 (by rw [List.length_append, List.length_take, List.length_drop, List.length_map]; show _ + 1 + _ ≤ _; omega) fun p4 H9 s9 k9 => ?_
      refine q p4 (me.take j ++ [x + ch] ++ me.drop (j + 1)) H9 (g4.trans (.same g4.dr (s47.trans (s8.trans s9)))) ?_ ?_
      · rw [k9, List.map_append, List.map_append, List.map_take, List.map_drop]
        rfl
      · rw [List.length_append, List.length_append, List.length_take, List.length_drop]
        show min j me.length + 1 + (me.length - (j + 1)) ≤ me.length + 1
        omega
  case b1 =>
    refine ⟨_, rfl, ?_⟩
    unfold tNoPart
    refine ⟨_, rfl, _, rfl, slV_of eb2 fun p1 H4 s4 k4 => ?_⟩
    rw [jcutT rfl] at k4
    have g4 : Go d H2 H4 := .same g2.dr s4
    refine ⟨_, rfl, d, 3, rfl, g4.dr, by decide, fun e H5 g5 _ _ => ⟨Nat.le_of_ble_eq_true rfl, fun t ht => ?_⟩⟩
    have k5 := g5.tp g4.dr _ _ k4
    obtain ⟨H6, E6, s6, k6⟩ := newH ht (.tup [V.int e])
    rw [E6]
    refine catX_of (s6 _ _ k5) k6 (by rw [List.length_take, List.length_map]; show _ + 1 ≤ _; omega) fun p2 H7 s7 k7 => ?_
    have g47 := (g4.trans g5).trans (.same g5.dr (s6.trans s7))
    have g07 := g12.trans g47
    refine ⟨_, rfl, _, rfl, _, rfl, slV_of (g07.tp hD _ _ eb) fun p3 H8 s8 k8 => ?_⟩
    rw [jcutD rfl] at k8
    refine catX_of (s8 _ _ k7) k8 (by rw [List.length_append, List.length_take, List.length_drop, List.length_map]; show _ + 1 + _ ≤ _; omega) fun p4 H9 s9 k9 => ?_
    refine q p4 (me.take j ++ [e] ++ me.drop j) H9 (g07.trans (.same g07.dr (s8.trans s9))) ?_ ?_
    · rw [k9, List.map_append, List.map_append, List.map_take, List.map_drop]
      rfl
    · rw [List.length_append, List.length_append, List.length_take, List.length_drop]
      show min j me.length + 1 + (me.length - j) ≤ me.length + 1
      omega
end
end NL

set_option maxHeartbeats 4000000
namespace NL
open PySem PySem.Spec PyProof.Rows L2
theorem wd_odd (o : Bool) : decide (V.str (wdX true o) = V.str "odd") = !o := by cases o <;> decide
section
variable {P : Program} {w : World} {K : PySem.W.Frag} {mg : Str → Option Value} {base : Heap}
/-! ### _law_stretched, of odd labels -/
def spStr : Sp := fun vs H Q _ => ∃ (x : V) (n m : Nat), vs = [x] ∧ PapC n H m x ∧ m ≤ 1000 ∧ n ≤ 1000 ∧ ∀ u H', Same H H' → PapC n H' m u → Q u H'
theorem ok_law_stretched (T : Txt K mg) : FnOk P w K mg base CX0 1 T.a_law_stretched T.d_law_stretched P_law_stretched spStr := by
  refine T.F_law_stretched.ok sc_law_stretched (fun vs H Q E h => ?_) (fun cdv A outer s H vs Q E hr h => ?_)
  · obtain ⟨x, n, m, rfl, _⟩ := h
    rfl
  obtain ⟨x, n, m, rfl, ⟨p, xs, ls, rfl, kp, hls, hll⟩, hm, hn, q⟩ := h
  have hxl := hls.1
  refine ⟨_, (pss_cons (ps_set (i := 1) sc_law_stretched.nd rfl (Or.inl rfl) (pe_lst pa_nil))
    (pss_cons (ps_for  PassesOwn.never rfl (pi_tup (pv 0)) (pg_name (i := 2) sc_law_stretched.nd rfl (Or.inl rfl))
    (C8.pss_cut (ps_if (pt_cmpR op_eq (pe_ix ix_tup (pv 2) pe_int (fun _ _ => rfl)) pe_str (nomark _))
    (pss_one (ps_set (i := 2) sc_law_stretched.nd rfl (Or.inl rfl) (pe_tup (pa_cons pe_str (pa_cons (pe_callTy call_tuple_of (by rfl) T.z_tuple (by decide +kernel) (pa_cons (pe_lc (own := [("entry", 3)]) (g := (gName 3)) (tt := tYes) rfl sc_law_stretched.nd (pi_tup (pe_ix ix_tup (pv 2) pe_int (fun _ _ => rfl))) (blkOk_by (N := N_law_stretched) (sc := defScope s_law_stretched) (by decide +kernel)) (fun _ _ _ _ _ => (pg_name (i := 3) sc_law_stretched.nd rfl (Or.inl rfl))) (fun _ _ _ _ _ => pts_nil) (fun _ _ _ _ _ => (pe_op op_mul pe_int (pv 3)))) pa_nil)) (pa_cons (pe_ix ix_tup (pv 2) pe_int (fun _ _ => rfl)) pa_nil))))))
    pss_nil)
    (pss_one (ps_expr (pe_bm PySem.F.plainAttrs_list PySem.F.slot_list_append PySem.F.type_list_append mt_append (pv 1) (pa_cons (pv 2) pa_nil))))))
    (pss_one (ps_ret (pe_callTy call_tuple_of (by rfl) T.z_tuple (by decide +kernel) (pa_cons (pv 1) pa_nil)))))), ?_⟩
  refine ⟨Nat.zero_le _, fun fl hfl => ?_⟩
  obtain ⟨H1, E1, s1, k1⟩ := newH hfl (.lst [])
  rw [E1]
  refine ⟨_, rfl, p, rfl, ⟨_, sqt (s1 _ _ kp)⟩, ?_⟩
  refine for_tup (K := K) (a := p) (xs := xs) (fun (j : Nat) (σ : L2.St) (H' : Hp) => ∃ (us : List V) (ms : List Lx) (y2 : Option V), σ = [some (.ref p), some (.ref fl), y2, none] ∧ Same H H' ∧ H' fl = some (.lst us) ∧ Each (LcR n H') ms us ∧ ms.length = j) ?_ ?_ ?_ ?_
  · exact ⟨[], [], none, rfl, s1, k1, .nil, rfl⟩
  · rintro j σ H' _ ⟨us, ms, y2, rfl, s2, _⟩
    exact sqt (s2 _ _ kp)
  · rintro j x σ H2 hx ⟨us, ms, y2, rfl, s2, k2, hus, hms⟩
    have hjl := (List.getElem?_eq_some_iff.mp hx).1
    have hul := hus.1
    obtain ⟨L, hL⟩ : ∃ L, ls[j]? = some L := ⟨_, List.getElem?_eq_getElem (by omega)⟩
    have hLr := (hls.2 _ _ _ hL hx).tp (Tp.same s2)
    obtain ⟨⟨t, x1, y1, rfl, et, hx1, hy1⟩, hrl, hml⟩ := id hLr
    obtain ⟨mt, rfl, kmt⟩ : ∃ m, x1 = .ref m ∧ H2 m = some (.tup (L.me.map V.int)) := hx1
    refine ⟨fun σ H' => ∃ (u : V) (L' : Lx), σ = [some (.ref p), some (.ref fl), some u, none] ∧ Same H2 H' ∧ LcR n H' L' u, ?_, ?_⟩
    · refine ⟨_, rfl, t, _, _, _, rfl, rfl, sqt et, atI0, rfl, _, rfl, ?_⟩
      cases ho : L.own with
      | true => exact ifF (wd_odd true) ⟨.ref t, L, rfl, Same.refl _, hLr⟩
      | false =>
        refine ifT (wd_odd false) ?_
        refine ⟨_, rfl, t, _, _, _, rfl, rfl, sqt et, atI1, mt, rfl, ⟨_, sqt kmt⟩, fun D hD => ?_⟩
        refine lc_tup (K := K) (a := mt) (xs := L.me.map V.int) (fun (i : Nat) (H' : Hp) => ∃ es : List Int, Same H2 H' ∧ H' D = some (.lst (es.map V.int)) ∧ es.length = i) ?_ ?_ ?_ ?_
        · exact ⟨[], same_new hD _, upd_same, rfl⟩
        · rintro i H' _ ⟨es, s4, _⟩
          exact sqt (s4 _ _ kmt)
        · rintro i x H4 hx4 ⟨es, s4, k4, hes⟩
          have hil := (List.getElem?_eq_some_iff.mp hx4).1
          rw [List.length_map] at hil
          rw [List.getElem?_map] at hx4
          obtain ⟨c, hc, rfl⟩ := Option.map_eq_some_iff.mp hx4
          refine ⟨rfl, yes_if ?_⟩
          refine ⟨_, rfl, _, _, rfl, rfl, .inl ⟨by omega, by omega⟩, ?_⟩
          refine ⟨_, k4, big' (by rw [List.length_map]; omega), es ++ [3 * c], same_put s4 hD, ?_, by rw [List.length_append, hes]; rfl⟩
          rw [upd_same, List.map_append]
          rfl
        rintro H4 ⟨es, s4, k4, hes⟩
        rw [List.length_map] at hes
        refine ⟨D, _, rfl, .inl ⟨sqd k4, fun tt ht => ?_⟩⟩
        obtain ⟨H5, E5, s5, k5⟩ := newH ht (.tup (es.map V.int))
        rw [E5]
        have s25 := s4.trans s5
        refine ⟨_, rfl, t, _, _, _, rfl, rfl, sqt (s25 _ _ et), atI_nat (j := 2) rfl, Nat.le_of_ble_eq_true rfl, fun tl htl => ?_⟩
        obtain ⟨H6, E6, s6, k6⟩ := newH htl (.tup [V.str "odd", .ref tt, y1])
        rw [E6]
        refine ⟨.ref tl, ⟨false, es, 0, L.ix, L.rs⟩, rfl, s25.trans s6, ⟨tl, .ref tt, y1, rfl, k6, ⟨tt, rfl, s6 _ _ k5⟩, ?_⟩, hrl, by show es.length ≤ n; omega⟩
        have := endIn.tp (Tp.same (s25.trans s6)) hy1
        unfold endIn at this ⊢
        rw [if_neg (by rw [ho]; exact Bool.false_ne_true)] at this
        rw [if_neg Bool.false_ne_true]
        exact this
    rintro σ H3 ⟨u, L', rfl, s3, hu⟩
    have k3 := s3 _ _ k2
    have tpx : Tp H3 (upd H3 fl (.lst (us ++ [u]))) := tp_put Tp.refl k3
    refine ⟨_, rfl, .inl ⟨rfl, _, sqd k3⟩, _, rfl, fl, _, _, rfl, rfl, k3, big' (by omega), ?_⟩
    exact ⟨us ++ [u], ms ++ [L'], _, rfl, same_put (s2.trans s3) hfl, upd_same, (hus.mono fun a x => LcR.tp ((Tp.same s3).trans tpx)).snoc (hu.tp tpx), by rw [List.length_append, hms]; rfl⟩
  · rintro σ H2 ⟨us, ms, y2, rfl, s2, k2, hus, hms⟩
    refine ⟨_, rfl, fl, _, rfl, .inl ⟨sqd k2, fun t ht => ?_⟩⟩
    have s3 := same_new ht (.tup us)
    exact q (.ref t) _ (s2.trans s3) ⟨t, us, ms, rfl, upd_same, hus.mono fun a x => LcR.tp (Tp.same s3), by omega⟩
/-! ### _law_changed, of odd labels -/
def spChC (K : PySem.W.Frag) : Sp := fun vs H Q _ => ∃ (d sc gl kc : Addr) (v x : V) (A : Ar) (cs ns : List Int) (n : Nat), vs = [.ref d, .ref sc, .ref gl, x] ∧ Dr H d ∧ Keep K d H sc (ns.map V.int) ∧ H gl = some (.lst [v, .ref kc]) ∧ gl ≠ d ∧ ArIn H A v ∧ ArG A ∧ H kc = some (.tup (cs.map V.int)) ∧ cs.length = A.length ∧ (∀ c ∈ cs, (0 : Int) ≤ c ∧ c ≤ 44) ∧ PapC n H A.length x ∧ 23 ≤ n ∧ n ≤ 100 ∧
  ∀ u H', Go d H H' → PapC (n + 1) H' A.length u → Q u H'
theorem ok_law_changed (T : Txt K mg) : FnOk P w K mg base CX0 5 T.a_law_changed T.d_law_changed P_law_changed (spChC K) := by
  have G_law_take := ok_law_take (P := P) (w := w) (base := base) T
  have G_law_other_replies := ok_law_other_replies (P := P) (w := w) (base := base) T
  have G_law_counted := ok_law_counted (P := P) (w := w) (base := base) T
  have G_law_entries := ok_law_entries (P := P) (w := w) (base := base) T
  refine T.F_law_changed.ok sc_law_changed (fun vs H Q E h => ?_) (fun cdv A outer s H vs Q E hr h => ?_)
  · obtain ⟨d, sc, gl, kc, v, x, A, cs, ns, n, rfl, _⟩ := h
    rfl
  obtain ⟨d, sc, gl, kc, v, x, A0, cs, ns, n, rfl, hD, hK, egl, ngl, hA, hG, ekc, hcl, hc, hx, hn0, hn1, q⟩ := h
  have hc1000 : ∀ c ∈ cs, (0 : Int) ≤ c ∧ c ≤ 1000 := fun c h => ⟨(hc c h).1, Int.le_trans (hc c h).2 (by decide)⟩
  have h400 := hG.1
  obtain ⟨p, xs, ls, rfl, kp, hls, hll⟩ := id hx
  have hxl := hls.1
  obtain ⟨b0, zs, rfl, e0, hzs⟩ := id hA
  refine ⟨_, (pss_cons (ps_setLc (i := 4) (own := [("k", 5)]) (g := (gName 5)) (tt := _) rfl sc_law_changed.nd rfl rfl (sw_true rfl rfl rfl (by decide +kernel)) (pi_range1 (by rfl) T.z_range (pa_cons (pe_callB call_len_seq (by rfl) T.z_len PySem.boot_len (pa_cons (pv 3) pa_nil)) pa_nil)) (blkOk_by (N := N_law_changed) (sc := defScope s_law_changed) (by decide +kernel)) (fun _ _ _ _ _ => (pg_name (i := 5) sc_law_changed.nd rfl (Or.inl rfl))) (fun _ _ _ _ _ => (pts_one (pt_cmpR op_eq (pe_ix (ix_tupK (K := K) rfl) (pe_ix (ix_tupK (K := K) rfl) (pv 3) (pv 5) (fun _ _ => rfl)) pe_int (fun _ _ => rfl)) pe_str (nomark _)))) (fun _ _ _ _ _ => (pv 5)))
    (pss_cons (ps_if (pt_cmpR op_eq (pe_callB call_len_seq (by rfl) T.z_len PySem.boot_len (pa_cons (pv 4) pa_nil)) pe_int (nomark _))
    (pss_one (ps_ret (pv 3)))
    pss_nil)
    (pss_cons (ps_set (i := 6) sc_law_changed.nd rfl (Or.inl rfl) (pe_ix ix_list (pv 4) (pe_call G_law_take (hr.mono (by omega)) (by rfl) T.m_law_take T.F_law_take.kp T.b_law_take .nil pass0 (pa_cons (pv 0) (pa_cons (pe_callB call_len_seq (by rfl) T.z_len PySem.boot_len (pa_cons (pv 4) pa_nil)) pa_nil))) (fun _ _ => rfl)))
    (pss_cons (ps_set (i := 7) sc_law_changed.nd rfl (Or.inl rfl) (pe_ix ix_tup (pv 3) (pv 6) (fun _ _ => rfl)))
    (pss_cons (ps_set (i := 8) sc_law_changed.nd rfl (Or.inl rfl) (pe_call G_law_take (hr.mono (by omega)) (by rfl) T.m_law_take T.F_law_take.kp T.b_law_take .nil pass0 (pa_cons (pv 0) (pa_cons pe_int pa_nil))))
    (C8.pss_cut (ps_if (pt_cmpR op_lt (pv 8) pe_int (nomark _))
    (pss_one (ps_set (i := 7) sc_law_changed.nd rfl (Or.inl rfl) (pe_tup (pa_cons pe_str (pa_cons (pe_call G_law_entries (hr.mono (by omega)) (by rfl) T.m_law_entries T.F_law_entries.kp T.b_law_entries .nil pass0 (pa_cons (pv 0) (pa_cons (pv 1) (pa_cons (pe_ix ix_tup (pv 7) pe_int (fun _ _ => rfl)) pa_nil)))) (pa_cons (pe_ix ix_tup (pv 7) pe_int (fun _ _ => rfl)) pa_nil))))))
    (pss_one (ps_if (pt_cmpR op_lt (pv 8) pe_int (nomark _))
    (pss_one (ps_set (i := 7) sc_law_changed.nd rfl (Or.inl rfl) (pe_tup (pa_cons pe_str (pa_cons (pe_ix ix_tup (pv 7) pe_int (fun _ _ => rfl)) (pa_cons (pe_call G_law_other_replies (hr.mono (by omega)) (by rfl) T.m_law_other_replies T.F_law_other_replies.kp T.b_law_other_replies .nil pass0 (pa_cons (pv 0) (pa_cons (pe_callB call_len_seq (by rfl) T.z_len PySem.boot_len (pa_cons (pv 3) pa_nil)) (pa_cons (pe_ix ix_tup (pv 7) pe_int (fun _ _ => rfl)) pa_nil)))) pa_nil))))))
    (pss_one (ps_set (i := 7) sc_law_changed.nd rfl (Or.inl rfl) (pe_tup (pa_cons pe_str (pa_cons (pe_callTy call_tuple_of (by rfl) T.z_tuple (by decide +kernel) (pa_cons (pe_lc (own := [("colour", 9)]) (g := (gName 9)) (tt := tYes) rfl sc_law_changed.nd (pi_list (pe_call G_law_counted (hr.mono (by omega)) (by rfl) T.m_law_counted T.F_law_counted.kp T.b_law_counted .nil pass0 (pa_cons (pe_ix ix_list (pv 2) pe_int (fun _ _ => rfl)) (pa_cons pe_int pa_nil)))) (blkOk_by (N := N_law_changed) (sc := defScope s_law_changed) (by decide +kernel)) (fun _ _ _ _ _ => (pg_name (i := 9) sc_law_changed.nd rfl (Or.inl rfl))) (fun _ _ _ _ _ => pts_nil) (fun _ _ _ _ _ => pe_int)) pa_nil)) (pa_cons (pe_call G_law_take (hr.mono (by omega)) (by rfl) T.m_law_take T.F_law_take.kp T.b_law_take .nil pass0 (pa_cons (pv 0) (pa_cons pe_int pa_nil))) pa_nil)))))))))
    (pss_one (ps_ret (pe_op op_catA (pe_op op_catA (pe_slice sl_tupA (pv 3) po_none (po_some (pv 6))) (pe_tup (pa_cons (pv 7) pa_nil))) (pe_slice sl_tupA (pv 3) (po_some (pe_op op_add (pv 6) pe_int)) po_none)))))))))), ?_⟩
  refine ⟨_, rfl, p, _, rfl, .inr (sqt kp), _, rfl, by omega, by omega, fun D hD' => ?_⟩
  refine lc_range (lo := 0) (n := ((xs.length : Nat) : Int).toNat) (fun (j : Nat) (H' : Hp) => ∃ ks : List Int, Same H H' ∧ H' D = some (.lst (ks.map V.int)) ∧ ks.length ≤ j ∧ ∀ k ∈ ks, 0 ≤ k ∧ k < (xs.length : Int) ∧ (getX ls k).own = false) ?_ ?_ ?_
  · exact ⟨[], same_new hD' _, upd_same, Nat.le_refl 0, fun k h => nomatch h⟩
  · rintro j H1 hj ⟨ks, s1, k1, hkl, hks⟩
    generalize hk : (0 : Int) + (j : Int) = kk
    have hkj : kk = (j : Int) := by omega
    clear hk
    subst hkj
    obtain ⟨L, hL⟩ : ∃ L, ls[j]? = some L := ⟨_, List.getElem?_eq_getElem (by omega)⟩
    obtain ⟨u, hu, ⟨t, x1, y1, rfl, et, hx1, hy1⟩, _⟩ := hls.at hL
    have hgx : getX ls (j : Int) = L := by
      unfold getX
      rw [Int.toNat_natCast, hL]
      rfl
    refine ⟨rfl, ?_⟩
    refine ⟨_, rfl, _, rfl, p, _, _, _, rfl, rfl, sqt (s1 _ _ kp), atI_nat hu, t, _, _, _, rfl, rfl, sqt (s1 _ _ et), atI0, rfl, _, rfl, ?_⟩
    cases ho : L.own with
    | true => exact ifF (wd_odd true) ⟨ks, s1, k1, by omega, hks⟩
    | false =>
      refine ifT (wd_odd false) ?_
      refine ⟨_, rfl, _, k1, big' (by rw [List.length_map]; omega), ks ++ [(j : Int)], same_put s1 hD', ?_, by rw [List.length_append]; show ks.length + 1 ≤ j + 1; omega, fun k hk => ?_⟩
      · rw [upd_same, List.map_append]
        rfl
      · rcases List.mem_append.mp hk with h | h
        · exact hks k h
        · rw [List.mem_singleton.mp h]
          exact ⟨by omega, by omega, by rw [hgx]; exact ho⟩
  rintro H1 ⟨ks, s1, k1, hkl, hks⟩
  have g1 : Go d H H1 := .same hD s1
  refine ⟨_, rfl, D, _, rfl, .inl (sqd k1), rfl, _, rfl, ?_⟩
  refine ite2 (fun z => ?_) (fun z => ?_)
  · exact ⟨_, rfl, q (.ref p) H1 g1 ((hx.tp (Tp.same s1)).up (by omega))⟩
  have hz' := int_ne z
  rw [List.length_map] at hz'
  refine ⟨_, rfl, _, rfl, _, rfl, D, _, rfl, .inl (sqd k1), d, _, rfl, g1.dr, by rw [List.length_map]; omega, fun u2 H2 g2 a2 c2 => ?_⟩
  have nDd := new_ne hD hD'
  have c2' : u2 < (ks.length : Int) := by
    have : u2 < ((ks.map V.int).length : Int) := c2
    rwa [List.length_map] at this
  obtain ⟨pl, hpl, hplm⟩ := atI_map (f := V.int) (xs := ks) a2 c2'
  obtain ⟨pl0, pl1, plo⟩ := hks pl hplm
  obtain ⟨k, rfl⟩ : ∃ k : Nat, pl = (k : Int) := ⟨pl.toNat, by omega⟩
  refine ⟨D, _, _, _, rfl, rfl, sqd (g2.fr D _ nDd k1), hpl, ?_⟩
  have g12 := g1.trans g2
  obtain ⟨L, hL⟩ : ∃ L, ls[k]? = some L := ⟨_, List.getElem?_eq_getElem (by omega)⟩
  have hgx : getX ls (k : Int) = L := by
    unfold getX
    rw [Int.toNat_natCast, hL]
    rfl
  rw [hgx] at plo
  obtain ⟨u, hu, hLu⟩ := hls.at hL
  obtain ⟨⟨t, x1, y1, rfl, et, hx1, hy1⟩, hrl, hml⟩ := id hLu
  obtain ⟨mt, rfl, kmt⟩ : ∃ m, x1 = .ref m ∧ H m = some (.tup (L.me.map V.int)) := hx1
  obtain ⟨c1, rfl, ec⟩ : ∃ c, y1 = .ref c ∧ H c = some (.tup (L.rs.map V.int)) := by
    unfold endIn at hy1
    rw [if_neg (by rw [plo]; exact Bool.false_ne_true)] at hy1
    exact hy1
  have kp2 := g12.tp hD _ _ kp
  refine ⟨_, rfl, _, rfl, p, _, _, _, rfl, rfl, sqt kp2, atI_nat hu, ?_⟩
  refine ⟨_, rfl, d, 5, rfl, g12.dr, by decide, fun kd H3 g3 a3 c3 => ?_⟩
  have g13 := g12.trans g3
  have et3 := g13.tp hD _ _ et
  have kmt3 := g13.tp hD _ _ kmt
  have egl3 := g13.fr gl _ ngl egl
  have e03 := g13.tp hD _ _ e0
  have ec3 := g13.tp hD _ _ ec
  refine ⟨fun σ H' => ∃ (u : V) (L' : Lx), σ = [some (.ref d), some (.ref sc), some (.ref gl), some (.ref p), some (.ref D), none, some (.int (k : Int)), some u, some (.int kd), none] ∧ Go d H H' ∧ LcR (n + 1) H' L' u, ?_, ?_⟩
  · refine ⟨_, rfl, _, _, rfl, rfl, _, rfl, ?_⟩
    refine ite2 (fun z2 => ?_) (fun z2 => ?_)
    · refine ⟨_, rfl, _, rfl, _, rfl, t, _, _, _, rfl, rfl, sqt et3, atI1, ?_⟩
      refine ⟨d, sc, mt, ns, L.me, rfl, g13.dr, hK.go g13, kmt3, by omega, fun mt2 me2 H4 g4 k4 hl4 => ?_⟩
      refine ⟨_, rfl, t, _, _, _, rfl, rfl, sqt (g4.tp g13.dr _ _ et3), atI_nat (j := 2) rfl, Nat.le_of_ble_eq_true rfl, fun tl htl => ?_⟩
      obtain ⟨H5, E5, s5, k5⟩ := newH htl (.tup [V.str "odd", .ref mt2, .ref c1])
      rw [E5]
      have g35 := g4.trans (.same g4.dr s5)
      exact ⟨.ref tl, ⟨false, me2, 0, 0, L.rs⟩, rfl, g13.trans g35, ⟨tl, .ref mt2, .ref c1, rfl, k5, ⟨mt2, rfl, s5 _ _ k4⟩, ⟨c1, rfl, g35.tp g13.dr _ _ ec3⟩⟩, by show L.rs.length ≤ n + 1; omega, by show me2.length ≤ n + 1; omega⟩
    · refine ⟨_, rfl, _, _, rfl, rfl, _, rfl, ?_⟩
      refine ite2 (fun z3 => ?_) (fun z3 => ?_)
      · refine ⟨_, rfl, t, _, _, _, rfl, rfl, sqt et3, atI1, ?_⟩
        refine ⟨_, rfl, _, rfl, p, _, rfl, .inr (sqt (g13.tp hD _ _ kp)), _, rfl, t, _, _, _, rfl, rfl, sqt et3, atI_nat (j := 2) rfl, ?_⟩
        refine ⟨d, c1, _, L.rs, rfl, g13.dr, Int.natCast_nonneg _, ec3, by omega, fun t2 ms H4 g4 k4 hl4 => ?_⟩
        refine ⟨Nat.le_of_ble_eq_true rfl, fun tl htl => ?_⟩
        obtain ⟨H5, E5, s5, k5⟩ := newH htl (.tup [V.str "odd", .ref mt, .ref t2])
        rw [E5]
        have g35 := g4.trans (.same g4.dr s5)
        exact ⟨.ref tl, ⟨false, L.me, 0, 0, ms⟩, rfl, g13.trans g35, ⟨tl, .ref mt, .ref t2, rfl, k5, ⟨mt, rfl, g35.tp g13.dr _ _ kmt3⟩, ⟨t2, rfl, s5 _ _ k4⟩⟩, by show ms.length ≤ n + 1; omega, by show L.me.length ≤ n + 1; omega⟩
      · refine ⟨_, rfl, gl, _, _, _, rfl, rfl, sqd egl3, atI1, kc, cs, 1, rfl, g13.tp hD _ _ ekc, by omega, hc1000, fun cl H4 s4 _ k4 => ?_⟩
        refine ⟨cl, rfl, ⟨_, sqd k4⟩, fun F hF => ?_⟩
        refine lc_list (K := K) (a := cl) (xs := (cntL (gst cs).toNat 1).map V.int) (fun (i : Nat) (H' : Hp) => ∃ es : List Int, Same H4 H' ∧ H' F = some (.lst (es.map V.int)) ∧ es.length = i) ?_ ?_ ?_ ?_
        · exact ⟨[], same_new hF _, upd_same, rfl⟩
        · rintro i H' _ ⟨es, s5, _⟩
          exact sqd (s5 _ _ k4)
        · rintro i x H5 hx ⟨es, s5, k5, hes⟩
          have hil := (List.getElem?_eq_some_iff.mp hx).1
          rw [List.length_map] at hil
          have hf0 := fr_len (s := 1) hc (.inr rfl)
          unfold frCnt at hf0
          rw [List.length_map] at hf0
          refine ⟨rfl, yes_if ?_⟩
          refine ⟨_, k5, big' (by rw [List.length_map]; omega), es ++ [0], same_put s5 hF, ?_, by rw [List.length_append, hes]; rfl⟩
          rw [upd_same, List.map_append]
          rfl
        rintro H5 ⟨es, s5, k5, hes⟩
        have hes23 : es.length ≤ 23 := by
          have hf0 := fr_len (s := 1) hc (.inr rfl)
          unfold frCnt at hf0
          rw [List.length_map] at hf0 hes
          omega
        refine ⟨F, _, rfl, .inl ⟨sqd k5, fun tm htm => ?_⟩⟩
        obtain ⟨H6, E6, s6, k6⟩ := newH htm (.tup (es.map V.int))
        rw [E6]
        have g36 : Go d H3 H6 := .same g13.dr ((s4.trans s5).trans s6)
        refine ⟨_, rfl, d, 3, rfl, g36.dr, by decide, fun ch H7 g7 _ _ => ⟨Nat.le_of_ble_eq_true rfl, fun tl htl => ?_⟩⟩
        obtain ⟨H8, E8, s8, k8⟩ := newH htl (.tup [V.str "even", .ref tm, .int ch])
        rw [E8]
        have g68 := g7.trans (.same g7.dr s8)
        exact ⟨.ref tl, ⟨true, es, 0, ch, []⟩, rfl, g13.trans (g36.trans g68), ⟨tl, .ref tm, .int ch, rfl, k8, ⟨tm, rfl, g68.tp g36.dr _ _ k6⟩, rfl⟩, Nat.zero_le _, by show es.length ≤ n + 1; omega⟩
  rintro σ H3 ⟨u3, L3, rfl, g3', hu3⟩
  have kp3 := g3'.tp hD _ _ kp
  refine ⟨_, rfl, ?_⟩
  unfold tNoPart
  refine ⟨_, rfl, _, rfl, slV_of kp3 fun p1 H4 s4 k4 => ?_⟩
  rw [jcutT rfl] at k4
  refine ⟨_, rfl, Nat.le_of_ble_eq_true rfl, fun t5 ht5 => ?_⟩
  obtain ⟨H5, E5, s5, k5⟩ := newH ht5 (.tup [u3])
  rw [E5]
  refine catX_of (s5 _ _ k4) k5 (by rw [List.length_take]; show _ + 1 ≤ _; omega) fun p6 H6 s6 k6 => ?_
  have s36 := s4.trans (s5.trans s6)
  refine ⟨_, rfl, _, rfl, _, _, rfl, rfl, _, rfl, slV_of (s36 _ _ kp3) fun p7 H7 s7 k7 => ?_⟩
  rw [jcutD (k := k + 1) (by omega)] at k7
  refine catX_of (s7 _ _ k6) k7 (by rw [List.length_append, List.length_take, List.length_drop]; show _ + 1 + _ ≤ _; omega) fun p8 H8 s8 k8 => ?_
  have s38 := s36.trans (s7.trans s8)
  have g08 := g3'.trans (.same g3'.dr s38)
  have hls8 : Each (LcR (n + 1) H8) ls xs := hls.mono fun a x h => (h.tp (g08.tp hD)).up (by omega)
  refine q (.ref p8) H8 g08 ⟨p8, _, ls.take k ++ [L3] ++ ls.drop (k + 1), rfl, k8, ((hls8.take k).snoc (hu3.tp (Tp.same s38))).app (hls8.drop (k + 1)), ?_⟩
  rw [List.length_append, List.length_append, List.length_take, List.length_drop]
  show min k ls.length + 1 + (ls.length - (k + 1)) = A0.length
  omega
end
end NL

set_option maxHeartbeats 4000000
namespace NL
open PySem PySem.Spec PyProof.Rows L2
def spLaw (K : PySem.W.Frag) : Sp := fun vs H Q _ => ∃ (a : Addr) (ns : List Int), vs = [.ref a] ∧ SqL K H a (ns.map V.int) ∧ ns.length ≤ 63 ∧ ∀ H', Q (.bl true) H'
section
variable {P : Program} {w : World} {K : PySem.W.Frag} {mg : Str → Option Value} {base : Heap}
theorem ok_law (T : Txt K mg) : FnOk P w K mg base CX0 8 T.alaw T.dlaw Plaw (spLaw K) := by
  have G_law_draws := ok_law_draws (P := P) (w := w) (base := base) T
  have G_law_game := ok_law_game (P := P) (w := w) (base := base) T
  have G_law_colour_paper := ok_law_colour_paper (P := P) (w := w) (base := base) T
  have G_law_stretched := ok_law_stretched (P := P) (w := w) (base := base) T
  have G_law_changed := ok_law_changed (P := P) (w := w) (base := base) T
  have G_law_same := ok_law_same (P := P) (w := w) (base := base) T
  have G_law_colour_judge := ok_law_colour_judge (P := P) (w := w) (base := base) T
  have Gjudge := ok_judge (P := P) (w := w) (base := base) T
  refine T.Flaw.ok sclaw (fun vs H Q E h => ?_) (fun cdv A outer s H vs Q E hr h => ?_)
  · obtain ⟨a, ns, rfl, _⟩ := h
    rfl
  obtain ⟨a, ns, rfl, hS, hl, q⟩ := h
  refine ⟨_, (pss_cons (ps_set (i := 1) sclaw.nd rfl (Or.inl rfl) (pe_call G_law_draws (hr.mono (by omega)) (by rfl) T.m_law_draws T.F_law_draws.kp T.b_law_draws .nil pass0 (pa_cons (pv 0) (pa_cons pe_int pa_nil))))
    (pss_cons (ps_set (i := 2) sclaw.nd rfl (Or.inl rfl) (pe_call G_law_game (hr.mono (by omega)) (by rfl) T.m_law_game T.F_law_game.kp T.b_law_game .nil pass0 (pa_cons (pv 1) (pa_cons pe_int pa_nil))))
    (pss_cons (ps_set (i := 3) sclaw.nd rfl (Or.inl rfl) (pe_call G_law_colour_paper (hr.mono (by omega)) (by rfl) T.m_law_colour_paper T.F_law_colour_paper.kp T.b_law_colour_paper .nil pass0 (pa_cons (pe_ix ix_list (pv 2) pe_int (fun _ _ => rfl)) (pa_cons (pe_ix ix_list (pv 2) pe_int (fun _ _ => rfl)) pa_nil))))
    (pss_cons (ps_set (i := 4) sclaw.nd rfl (Or.inl rfl) (pe_lst (pa_cons (pv 3) (pa_cons (pe_call G_law_stretched (hr.mono (by omega)) (by rfl) T.m_law_stretched T.F_law_stretched.kp T.b_law_stretched .nil pass0 (pa_cons (pv 3) pa_nil)) pa_nil))))
    (pss_cons (ps_for  PassesOwn.never rfl (pi_range1 (by rfl) T.z_range (pa_cons pe_int pa_nil)) (pg_name (i := 5) sclaw.nd rfl (Or.inl rfl))
    (pss_one (ps_expr (pe_bm PySem.F.plainAttrs_list PySem.F.slot_list_append PySem.F.type_list_append mt_append (pv 4) (pa_cons (pe_call G_law_changed (hr.mono (by omega)) (by rfl) T.m_law_changed T.F_law_changed.kp T.b_law_changed .nil pass0 (pa_cons (pv 1) (pa_cons (pv 0) (pa_cons (pv 2) (pa_cons (pe_ix ix_list (pv 4) (pv 5) (fun _ _ => rfl)) pa_nil))))) pa_nil)))))
    (pss_cons (ps_for  PassesOwn.never rfl (pi_list (pe_op op_cat (pv 4) (pe_lst (pa_cons (pv 3) pa_nil)))) (pg_name (i := 6) sclaw.nd rfl (Or.inl rfl))
    (pss_one (ps_if (pt_not (pt_val (pe_call G_law_same (hr.mono (by omega)) (by rfl) T.m_law_same T.F_law_same.kp T.b_law_same .nil pass0 (pa_cons (pe_call Gjudge (hr.mono (by omega)) (by rfl) T.mjudge T.Fjudge.kp T.bjudge .nil pass0 (pa_cons (pe_ix ix_list (pv 2) pe_int (fun _ _ => rfl)) (pa_cons (pe_tup (pa_cons pe_str (pa_cons (pe_ix ix_list (pv 2) pe_int (fun _ _ => rfl)) pa_nil))) (pa_cons (pv 6) pa_nil)))) (pa_cons (pe_call G_law_colour_judge (hr.mono (by omega)) (by rfl) T.m_law_colour_judge T.F_law_colour_judge.kp T.b_law_colour_judge .nil pass0 (pa_cons (pe_ix ix_list (pv 2) pe_int (fun _ _ => rfl)) (pa_cons (pe_ix ix_list (pv 2) pe_int (fun _ _ => rfl)) (pa_cons (pv 6) pa_nil)))) pa_nil)))))
    (pss_one (ps_ret pe_bl))
    pss_nil)))
    (pss_one (ps_ret pe_bl)))))))), ?_⟩
  refine ⟨_, rfl, a, ns, 360, rfl, hS, hl, by decide, by decide, fun d H1 s1 hd D1 => ?_⟩
  have hk := Keep.old hS hd s1
  refine ⟨_, rfl, d, 5, rfl, D1, by decide, by decide, fun gl v kc A0 cs H2 g2 ngl kgl hA hG ekc hcl hc hAm _ => ?_⟩
  have h400 := hG.1
  have hc1000 : ∀ c ∈ cs, (0 : Int) ≤ c ∧ c ≤ 1000 := fun c h => ⟨(hc c h).1, Int.le_trans (hc c h).2 (by decide)⟩
  have hGx : GxG A0 ⟨true, cs, []⟩ := ⟨fun _ => hcl, fun _ => hc1000, fun h => (nomatch h), fun h => (nomatch h)⟩
  -- the told paper
  refine ⟨_, rfl, gl, _, _, _, rfl, rfl, sqd kgl, atI0, _, rfl, gl, _, _, _, rfl, rfl, sqd kgl, atI1, v, kc, A0, cs, rfl, hA, hG, by omega, ekc, hcl, hc, fun p0 xs0 ls0 H3 s3 kp0 hls0 hll0 => ?_⟩
  have hP0 : PapC 23 H3 A0.length (.ref p0) := ⟨p0, xs0, ls0, rfl, kp0, hls0, hll0⟩
  have g3 := g2.trans (.same g2.dr s3)
  -- the papers
  refine ⟨_, rfl, _, rfl, .ref p0, 23, A0.length, rfl, hP0, by omega, by decide, fun u7 H7 s7 hu7 => ⟨Nat.le_of_ble_eq_true rfl, fun Lp hLp => ?_⟩⟩
  obtain ⟨H8, E8, s8, k8⟩ := newH hLp (.lst [.ref p0, u7])
  rw [E8]
  have g37 : Go d H3 H7 := .same g3.dr s7
  have g38 := g37.trans (.same g37.dr s8)
  have g18 := g3.trans g38
  have nLp := new_ne g37.dr hLp
  have hLp3 : H7 Lp = none := hLp
  refine ⟨3, rfl, by decide, by decide, ?_⟩
  refine for_range (lo := 0) (n := 3) (fun (j : Nat) (σ : L2.St) (H' : Hp) => ∃ (xs : List V) (y6 : Option V), σ = [some (.ref a), some (.ref d), some (.ref gl), some (.ref p0), some (.ref Lp), y6, none] ∧ Go d H7 H' ∧ H' Lp = some (.lst xs) ∧ xs.length = 2 + j ∧ ∀ x ∈ xs, PapC (23 + j) H' A0.length x) ?_ ?_ ?_
  · refine ⟨_, _, rfl, .same g37.dr s8, k8, rfl, fun x hx => ?_⟩
    simp only [List.mem_cons, List.not_mem_nil, or_false] at hx
    rcases hx with rfl | rfl
    · exact hP0.tp (Tp.same (s7.trans s8))
    · exact hu7.tp (Tp.same s8)
  · rintro j σ H9 hj ⟨xs, y6, rfl, g9, k9, hxl, hxs⟩
    have g39 := g37.trans g9
    have g19 := g3.trans g39
    have g29 := (Go.same g2.dr s3).trans g39
    obtain ⟨x, hx⟩ : ∃ x, xs[j]? = some x := ⟨_, List.getElem?_eq_getElem (by omega)⟩
    generalize hkk : (0 : Int) + (j : Int) = kk
    have hkj : kk = (j : Int) := by omega
    clear hkk
    subst hkj
    refine ⟨_, rfl, .inl ⟨rfl, _, sqd k9⟩, ?_⟩
    refine ⟨_, rfl, _, rfl, _, rfl, _, rfl, _, rfl, Lp, _, _, _, rfl, rfl, sqd k9, atI_nat hx, ?_⟩
    refine ⟨d, a, gl, kc, v, x, A0, cs, ns, 23 + j, rfl, g9.dr, hk.go g19, g29.fr gl _ ngl kgl, ngl, hA.tp (g29.tp g2.dr), hG, g29.tp g2.dr _ _ ekc, hcl, hc, hxs x (List.mem_of_getElem? hx), by omega, by omega, fun u Ha ga hu => ?_⟩
    have ka := ga.fr Lp _ nLp k9
    have tpx : Tp Ha (upd Ha Lp (.lst (xs ++ [u]))) := tp_put Tp.refl ka
    refine ⟨Lp, _, _, rfl, rfl, ka, big' (by omega), ?_⟩
    refine ⟨xs ++ [u], _, rfl, (g9.trans ga).put2 hLp3 nLp, upd_same, by rw [List.length_append, hxl]; rfl, fun y hy => ?_⟩
    rcases List.mem_append.mp hy with h | h
    · exact ((hxs y h).tp ((ga.tp g9.dr).trans tpx)).up (by omega)
    · rw [List.mem_singleton.mp h]
      exact hu.tp tpx
  rintro σ H9 ⟨xs, y6, rfl, g9, k9, hxl, hxs⟩
  have g39 := g37.trans g9
  have g29 := (Go.same g2.dr s3).trans g39
  refine ⟨_, rfl, _, rfl, Nat.le_of_ble_eq_true rfl, fun l1 hl1 => ?_⟩
  obtain ⟨H10, E10, s10, k10⟩ := newH hl1 (.lst [.ref p0])
  rw [E10]
  refine ⟨Lp, l1, _, _, rfl, rfl, s10 _ _ k9, k10, big (by show _ + 1 ≤ _; omega), fun L3 hL3 => ?_⟩
  obtain ⟨H11, E11, s11, k11⟩ := newH hL3 (.lst (xs ++ [.ref p0]))
  rw [E11]
  have s911 := s10.trans s11
  have g211 := g29.trans (.same g29.dr s911)
  have all : ∀ x ∈ xs ++ [V.ref p0], PapC 26 H11 A0.length x := fun x hx => by
    rcases List.mem_append.mp hx with h | h
    · exact (hxs x h).tp (Tp.same s911)
    · rw [List.mem_singleton.mp h]
      exact (hP0.tp ((g39.trans (.same g39.dr s911)).tp g3.dr)).up (by omega)
  have kgl11 := g211.fr gl _ ngl kgl
  have hA11 := hA.tp (g211.tp g2.dr)
  have ekc11 := g211.tp g2.dr _ _ ekc
  refine ⟨L3, rfl, ⟨_, sqd k11⟩, ?_⟩
  refine for_list (K := K) (a := L3) (xs := xs ++ [V.ref p0]) (fun (i : Nat) (σ : L2.St) (H' : Hp) => ∃ y6 y7 : Option V, σ = [some (.ref a), some (.ref d), some (.ref gl), some (.ref p0), some (.ref Lp), y6, y7] ∧ Same H11 H') ?_ ?_ ?_ ?_
  · exact ⟨_, _, rfl, Same.refl H11⟩
  · rintro i σ H' _ ⟨y6, y7, rfl, s12⟩
    exact sqd (s12 _ _ k11)
  · rintro i x σ H12 hx ⟨y6, y7, rfl, s12⟩
    obtain ⟨p, us, ls, rfl, kp, hlr, hll⟩ := (all x (List.mem_of_getElem? hx)).tp (Tp.same s12)
    have kgl12 := s12 _ _ kgl11
    refine ⟨_, rfl, gl, _, _, _, rfl, rfl, sqd kgl12, atI0, _, rfl, gl, _, _, _, rfl, rfl, sqd kgl12, atI1, Nat.le_of_ble_eq_true rfl, fun tq htq => ?_⟩
    obtain ⟨H13, E13, s13, k13⟩ := newH htq (.tup [V.str "colours", .ref kc])
    rw [E13]
    have s113 := s12.trans s13
    have hls : Each (LxIn true H13) ls us := hlr.mono fun a x h => (h.tp (Tp.same s13)).1
    refine ⟨_, rfl, v, .ref kc, A0, tq, p, ⟨true, cs, []⟩, ls, us, rfl, hA11.tp (Tp.same s113), hG, k13, ⟨kc, rfl, s113 _ _ ekc11⟩, hGx, s13 _ _ kp, hls, fun H20 s20 => ?_⟩
    rw [judge_is cs [] A0 ls hc1000]
    have s120 := s113.trans s20
    have kgl20 := s120 _ _ kgl11
    refine ⟨_, rfl, gl, _, _, _, rfl, rfl, sqd kgl20, atI0, _, rfl, gl, _, _, _, rfl, rfl, sqd kgl20, atI1, _, rfl, v, kc, p, A0, cs, ls, us, rfl, hA11.tp (Tp.same s120), hG, s120 _ _ ekc11, hcl, hc1000, (s13.trans s20) _ _ kp, hls.mono (fun a x => LxIn.tp (Tp.same s20)), fun H21 s21 => ?_⟩
    refine ⟨_, rfl, ⟨true, rfl, iteF ?_⟩⟩
    exact ⟨_, _, rfl, s120.trans s21⟩
  · rintro σ H19 ⟨y6, y7, rfl, s19⟩
    exact q H19
end
end NL

namespace NL
open PySem PySem.Spec PyProof.Rows L2
theorem all_mk {l : PySem.W.OpenLaw} {w : World} {K : PySem.W.Frag} {h : Heap} {mg : Str → Option Value} {fa fhas_option fentries_from fjudge f_is_right f_numbers_are_right f_replies_are_right f_law_draws f_law_take f_law_same f_law_cell f_law_option f_law_arena f_law_colours f_law_counted f_law_frame f_law_may f_law_next f_law_option_lift f_law_lift f_law_measures f_law_even_choice f_law_odd_replies f_law_colour_paper f_law_replies_right f_law_colour_right f_law_colour_judge f_law_game f_law_entries f_law_other_replies f_law_changed f_law_stretched flaw fFitting___init__ fFitting_fits fFitting_all_fit fFitting__measures_fit fFitting__change : Addr} (X : K.In h) (G : h.Ns mainGlobals mg) (hfa : mg "law" = some (.ref fa))
    {odhas_option anhas_option : Option Addr} {slhas_option : Array (Option Value)} {ochas_option kVhas_option dchas_option pmhas_option cdhas_option cthas_option : Value}
    {odentries_from anentries_from : Option Addr} {slentries_from : Array (Option Value)} {ocentries_from kVentries_from dcentries_from pmentries_from cdentries_from ctentries_from : Value}
    {odjudge anjudge : Option Addr} {sljudge : Array (Option Value)} {ocjudge kVjudge dcjudge pmjudge cdjudge ctjudge : Value}
    {od_is_right an_is_right : Option Addr} {sl_is_right : Array (Option Value)} {oc_is_right kV_is_right dc_is_right pm_is_right cd_is_right ct_is_right : Value}
    {od_numbers_are_right an_numbers_are_right : Option Addr} {sl_numbers_are_right : Array (Option Value)} {oc_numbers_are_right kV_numbers_are_right dc_numbers_are_right pm_numbers_are_right cd_numbers_are_right ct_numbers_are_right : Value}
    {od_replies_are_right an_replies_are_right : Option Addr} {sl_replies_are_right : Array (Option Value)} {oc_replies_are_right kV_replies_are_right dc_replies_are_right pm_replies_are_right cd_replies_are_right ct_replies_are_right : Value}
    {od_law_draws an_law_draws : Option Addr} {sl_law_draws : Array (Option Value)} {oc_law_draws kV_law_draws dc_law_draws pm_law_draws cd_law_draws ct_law_draws : Value}
    {od_law_take an_law_take : Option Addr} {sl_law_take : Array (Option Value)} {oc_law_take kV_law_take dc_law_take pm_law_take cd_law_take ct_law_take : Value}
    {od_law_same an_law_same : Option Addr} {sl_law_same : Array (Option Value)} {oc_law_same kV_law_same dc_law_same pm_law_same cd_law_same ct_law_same : Value}
    {od_law_cell an_law_cell : Option Addr} {sl_law_cell : Array (Option Value)} {oc_law_cell kV_law_cell dc_law_cell pm_law_cell cd_law_cell ct_law_cell : Value}
    {od_law_option an_law_option : Option Addr} {sl_law_option : Array (Option Value)} {oc_law_option kV_law_option dc_law_option pm_law_option cd_law_option ct_law_option : Value}
    {od_law_arena an_law_arena : Option Addr} {sl_law_arena : Array (Option Value)} {oc_law_arena kV_law_arena dc_law_arena pm_law_arena cd_law_arena ct_law_arena : Value}
    {od_law_colours an_law_colours : Option Addr} {sl_law_colours : Array (Option Value)} {oc_law_colours kV_law_colours dc_law_colours pm_law_colours cd_law_colours ct_law_colours : Value}
    {od_law_counted an_law_counted : Option Addr} {sl_law_counted : Array (Option Value)} {oc_law_counted kV_law_counted dc_law_counted pm_law_counted cd_law_counted ct_law_counted : Value}
    {od_law_frame an_law_frame : Option Addr} {sl_law_frame : Array (Option Value)} {oc_law_frame kV_law_frame dc_law_frame pm_law_frame cd_law_frame ct_law_frame : Value}
    {od_law_may an_law_may : Option Addr} {sl_law_may : Array (Option Value)} {oc_law_may kV_law_may dc_law_may pm_law_may cd_law_may ct_law_may : Value}
    {od_law_next an_law_next : Option Addr} {sl_law_next : Array (Option Value)} {oc_law_next kV_law_next dc_law_next pm_law_next cd_law_next ct_law_next : Value}
    {od_law_option_lift an_law_option_lift : Option Addr} {sl_law_option_lift : Array (Option Value)} {oc_law_option_lift kV_law_option_lift dc_law_option_lift pm_law_option_lift cd_law_option_lift ct_law_option_lift : Value}
    {od_law_lift an_law_lift : Option Addr} {sl_law_lift : Array (Option Value)} {oc_law_lift kV_law_lift dc_law_lift pm_law_lift cd_law_lift ct_law_lift : Value}
    {od_law_measures an_law_measures : Option Addr} {sl_law_measures : Array (Option Value)} {oc_law_measures kV_law_measures dc_law_measures pm_law_measures cd_law_measures ct_law_measures : Value}
    {od_law_even_choice an_law_even_choice : Option Addr} {sl_law_even_choice : Array (Option Value)} {oc_law_even_choice kV_law_even_choice dc_law_even_choice pm_law_even_choice cd_law_even_choice ct_law_even_choice : Value}
    {od_law_odd_replies an_law_odd_replies : Option Addr} {sl_law_odd_replies : Array (Option Value)} {oc_law_odd_replies kV_law_odd_replies dc_law_odd_replies pm_law_odd_replies cd_law_odd_replies ct_law_odd_replies : Value}
    {od_law_colour_paper an_law_colour_paper : Option Addr} {sl_law_colour_paper : Array (Option Value)} {oc_law_colour_paper kV_law_colour_paper dc_law_colour_paper pm_law_colour_paper cd_law_colour_paper ct_law_colour_paper : Value}
    {od_law_replies_right an_law_replies_right : Option Addr} {sl_law_replies_right : Array (Option Value)} {oc_law_replies_right kV_law_replies_right dc_law_replies_right pm_law_replies_right cd_law_replies_right ct_law_replies_right : Value}
    {od_law_colour_right an_law_colour_right : Option Addr} {sl_law_colour_right : Array (Option Value)} {oc_law_colour_right kV_law_colour_right dc_law_colour_right pm_law_colour_right cd_law_colour_right ct_law_colour_right : Value}
    {od_law_colour_judge an_law_colour_judge : Option Addr} {sl_law_colour_judge : Array (Option Value)} {oc_law_colour_judge kV_law_colour_judge dc_law_colour_judge pm_law_colour_judge cd_law_colour_judge ct_law_colour_judge : Value}
    {od_law_game an_law_game : Option Addr} {sl_law_game : Array (Option Value)} {oc_law_game kV_law_game dc_law_game pm_law_game cd_law_game ct_law_game : Value}
    {od_law_entries an_law_entries : Option Addr} {sl_law_entries : Array (Option Value)} {oc_law_entries kV_law_entries dc_law_entries pm_law_entries cd_law_entries ct_law_entries : Value}
    {od_law_other_replies an_law_other_replies : Option Addr} {sl_law_other_replies : Array (Option Value)} {oc_law_other_replies kV_law_other_replies dc_law_other_replies pm_law_other_replies cd_law_other_replies ct_law_other_replies : Value}
    {od_law_changed an_law_changed : Option Addr} {sl_law_changed : Array (Option Value)} {oc_law_changed kV_law_changed dc_law_changed pm_law_changed cd_law_changed ct_law_changed : Value}
    {od_law_stretched an_law_stretched : Option Addr} {sl_law_stretched : Array (Option Value)} {oc_law_stretched kV_law_stretched dc_law_stretched pm_law_stretched cd_law_stretched ct_law_stretched : Value}
    {odlaw anlaw : Option Addr} {sllaw : Array (Option Value)} {oclaw kVlaw dclaw pmlaw cdlaw ctlaw : Value}
    {odFitting___init__ anFitting___init__ : Option Addr} {slFitting___init__ : Array (Option Value)} {ocFitting___init__ kVFitting___init__ dcFitting___init__ pmFitting___init__ cdFitting___init__ ctFitting___init__ : Value}
    {odFitting_fits anFitting_fits : Option Addr} {slFitting_fits : Array (Option Value)} {ocFitting_fits kVFitting_fits dcFitting_fits pmFitting_fits cdFitting_fits ctFitting_fits : Value}
    {odFitting_all_fit anFitting_all_fit : Option Addr} {slFitting_all_fit : Array (Option Value)} {ocFitting_all_fit kVFitting_all_fit dcFitting_all_fit pmFitting_all_fit cdFitting_all_fit ctFitting_all_fit : Value}
    {odFitting__measures_fit anFitting__measures_fit : Option Addr} {slFitting__measures_fit : Array (Option Value)} {ocFitting__measures_fit kVFitting__measures_fit dcFitting__measures_fit pmFitting__measures_fit cdFitting__measures_fit ctFitting__measures_fit : Value}
    {odFitting__change anFitting__change : Option Addr} {slFitting__change : Array (Option Value)} {ocFitting__change kVFitting__change dcFitting__change pmFitting__change cdFitting__change ctFitting__change : Value}
    {C_Fitting : Addr}
    {u_CONTROLLER : Value}
    {u_DISTURBANCE : Value}
    {c_OPTION_KINDS : Addr}
    (kg_Fitting : PySem.W.nsIn K mainGlobals "Fitting" = some (some (.ref C_Fitting))) (kp_Fitting : PySem.W.plainGet K C_Fitting Str.empty = true) (kh_Fitting : PySem.W.hasDictIn K C_Fitting = true) (ko_Fitting : PySem.W.plainOver K C_Fitting = true) (ks_Fitting : PySem.W.findIn K (.ref C_Fitting) "__setattr__" = some (some (.builtin "object.__setattr__"))) (km_Fitting : PySem.W.makesIn K C_Fitting = true) (kk_Fitting : PySem.W.keepIn K (.ref C_Fitting) = true) (kn_Fitting_arena : PySem.W.findIn K (.ref C_Fitting) "arena" = some none) (kn_Fitting_told : PySem.W.findIn K (.ref C_Fitting) "told" = some none) (kn_Fitting_labels : PySem.W.findIn K (.ref C_Fitting) "labels" = some none) (kn_Fitting_greatest : PySem.W.findIn K (.ref C_Fitting) "greatest" = some none)
    (ahas_option : PySem.W.nsIn K mainGlobals "has_option" = some (some (.ref fhas_option))) (lhas_option : K.lookup fhas_option = some ⟨ochas_option, odhas_option, .func (PySem.W.fnOf "has_option" "has_option" (defArgs shas_option) (defBody shas_option) (defScope shas_option) .none kVhas_option dchas_option pmhas_option anhas_option cdhas_option cthas_option), slhas_option⟩) (chas_option : PySem.W.codeIn K cdhas_option "has_option" = true) (khas_option : PySem.W.keepIn K (.ref fhas_option) = true)
    (aentries_from : PySem.W.nsIn K mainGlobals "entries_from" = some (some (.ref fentries_from))) (lentries_from : K.lookup fentries_from = some ⟨ocentries_from, odentries_from, .func (PySem.W.fnOf "entries_from" "entries_from" (defArgs sentries_from) (defBody sentries_from) (defScope sentries_from) .none kVentries_from dcentries_from pmentries_from anentries_from cdentries_from ctentries_from), slentries_from⟩) (centries_from : PySem.W.codeIn K cdentries_from "entries_from" = true) (kentries_from : PySem.W.keepIn K (.ref fentries_from) = true)
    (ajudge : PySem.W.nsIn K mainGlobals "judge" = some (some (.ref fjudge))) (ljudge : K.lookup fjudge = some ⟨ocjudge, odjudge, .func (PySem.W.fnOf "judge" "judge" (defArgs sjudge) (defBody sjudge) (defScope sjudge) .none kVjudge dcjudge pmjudge anjudge cdjudge ctjudge), sljudge⟩) (cjudge : PySem.W.codeIn K cdjudge "judge" = true) (kjudge : PySem.W.keepIn K (.ref fjudge) = true)
    (a_is_right : PySem.W.nsIn K mainGlobals "_is_right" = some (some (.ref f_is_right))) (l_is_right : K.lookup f_is_right = some ⟨oc_is_right, od_is_right, .func (PySem.W.fnOf "_is_right" "_is_right" (defArgs s_is_right) (defBody s_is_right) (defScope s_is_right) .none kV_is_right dc_is_right pm_is_right an_is_right cd_is_right ct_is_right), sl_is_right⟩) (c_is_right : PySem.W.codeIn K cd_is_right "_is_right" = true) (k_is_right : PySem.W.keepIn K (.ref f_is_right) = true)
    (a_numbers_are_right : PySem.W.nsIn K mainGlobals "_numbers_are_right" = some (some (.ref f_numbers_are_right))) (l_numbers_are_right : K.lookup f_numbers_are_right = some ⟨oc_numbers_are_right, od_numbers_are_right, .func (PySem.W.fnOf "_numbers_are_right" "_numbers_are_right" (defArgs s_numbers_are_right) (defBody s_numbers_are_right) (defScope s_numbers_are_right) .none kV_numbers_are_right dc_numbers_are_right pm_numbers_are_right an_numbers_are_right cd_numbers_are_right ct_numbers_are_right), sl_numbers_are_right⟩) (c_numbers_are_right : PySem.W.codeIn K cd_numbers_are_right "_numbers_are_right" = true) (k_numbers_are_right : PySem.W.keepIn K (.ref f_numbers_are_right) = true)
    (a_replies_are_right : PySem.W.nsIn K mainGlobals "_replies_are_right" = some (some (.ref f_replies_are_right))) (l_replies_are_right : K.lookup f_replies_are_right = some ⟨oc_replies_are_right, od_replies_are_right, .func (PySem.W.fnOf "_replies_are_right" "_replies_are_right" (defArgs s_replies_are_right) (defBody s_replies_are_right) (defScope s_replies_are_right) .none kV_replies_are_right dc_replies_are_right pm_replies_are_right an_replies_are_right cd_replies_are_right ct_replies_are_right), sl_replies_are_right⟩) (c_replies_are_right : PySem.W.codeIn K cd_replies_are_right "_replies_are_right" = true) (k_replies_are_right : PySem.W.keepIn K (.ref f_replies_are_right) = true)
    (a_law_draws : PySem.W.nsIn K mainGlobals "_law_draws" = some (some (.ref f_law_draws))) (l_law_draws : K.lookup f_law_draws = some ⟨oc_law_draws, od_law_draws, .func (PySem.W.fnOf "_law_draws" "_law_draws" (defArgs s_law_draws) (defBody s_law_draws) (defScope s_law_draws) .none kV_law_draws dc_law_draws pm_law_draws an_law_draws cd_law_draws ct_law_draws), sl_law_draws⟩) (c_law_draws : PySem.W.codeIn K cd_law_draws "_law_draws" = true) (k_law_draws : PySem.W.keepIn K (.ref f_law_draws) = true)
    (a_law_take : PySem.W.nsIn K mainGlobals "_law_take" = some (some (.ref f_law_take))) (l_law_take : K.lookup f_law_take = some ⟨oc_law_take, od_law_take, .func (PySem.W.fnOf "_law_take" "_law_take" (defArgs s_law_take) (defBody s_law_take) (defScope s_law_take) .none kV_law_take dc_law_take pm_law_take an_law_take cd_law_take ct_law_take), sl_law_take⟩) (c_law_take : PySem.W.codeIn K cd_law_take "_law_take" = true) (k_law_take : PySem.W.keepIn K (.ref f_law_take) = true)
    (a_law_same : PySem.W.nsIn K mainGlobals "_law_same" = some (some (.ref f_law_same))) (l_law_same : K.lookup f_law_same = some ⟨oc_law_same, od_law_same, .func (PySem.W.fnOf "_law_same" "_law_same" (defArgs s_law_same) (defBody s_law_same) (defScope s_law_same) .none kV_law_same dc_law_same pm_law_same an_law_same cd_law_same ct_law_same), sl_law_same⟩) (c_law_same : PySem.W.codeIn K cd_law_same "_law_same" = true) (k_law_same : PySem.W.keepIn K (.ref f_law_same) = true)
    (a_law_cell : PySem.W.nsIn K mainGlobals "_law_cell" = some (some (.ref f_law_cell))) (l_law_cell : K.lookup f_law_cell = some ⟨oc_law_cell, od_law_cell, .func (PySem.W.fnOf "_law_cell" "_law_cell" (defArgs s_law_cell) (defBody s_law_cell) (defScope s_law_cell) .none kV_law_cell dc_law_cell pm_law_cell an_law_cell cd_law_cell ct_law_cell), sl_law_cell⟩) (c_law_cell : PySem.W.codeIn K cd_law_cell "_law_cell" = true) (k_law_cell : PySem.W.keepIn K (.ref f_law_cell) = true)
    (a_law_option : PySem.W.nsIn K mainGlobals "_law_option" = some (some (.ref f_law_option))) (l_law_option : K.lookup f_law_option = some ⟨oc_law_option, od_law_option, .func (PySem.W.fnOf "_law_option" "_law_option" (defArgs s_law_option) (defBody s_law_option) (defScope s_law_option) .none kV_law_option dc_law_option pm_law_option an_law_option cd_law_option ct_law_option), sl_law_option⟩) (c_law_option : PySem.W.codeIn K cd_law_option "_law_option" = true) (k_law_option : PySem.W.keepIn K (.ref f_law_option) = true)
    (a_law_arena : PySem.W.nsIn K mainGlobals "_law_arena" = some (some (.ref f_law_arena))) (l_law_arena : K.lookup f_law_arena = some ⟨oc_law_arena, od_law_arena, .func (PySem.W.fnOf "_law_arena" "_law_arena" (defArgs s_law_arena) (defBody s_law_arena) (defScope s_law_arena) .none kV_law_arena dc_law_arena pm_law_arena an_law_arena cd_law_arena ct_law_arena), sl_law_arena⟩) (c_law_arena : PySem.W.codeIn K cd_law_arena "_law_arena" = true) (k_law_arena : PySem.W.keepIn K (.ref f_law_arena) = true)
    (a_law_colours : PySem.W.nsIn K mainGlobals "_law_colours" = some (some (.ref f_law_colours))) (l_law_colours : K.lookup f_law_colours = some ⟨oc_law_colours, od_law_colours, .func (PySem.W.fnOf "_law_colours" "_law_colours" (defArgs s_law_colours) (defBody s_law_colours) (defScope s_law_colours) .none kV_law_colours dc_law_colours pm_law_colours an_law_colours cd_law_colours ct_law_colours), sl_law_colours⟩) (c_law_colours : PySem.W.codeIn K cd_law_colours "_law_colours" = true) (k_law_colours : PySem.W.keepIn K (.ref f_law_colours) = true)
    (a_law_counted : PySem.W.nsIn K mainGlobals "_law_counted" = some (some (.ref f_law_counted))) (l_law_counted : K.lookup f_law_counted = some ⟨oc_law_counted, od_law_counted, .func (PySem.W.fnOf "_law_counted" "_law_counted" (defArgs s_law_counted) (defBody s_law_counted) (defScope s_law_counted) .none kV_law_counted dc_law_counted pm_law_counted an_law_counted cd_law_counted ct_law_counted), sl_law_counted⟩) (c_law_counted : PySem.W.codeIn K cd_law_counted "_law_counted" = true) (k_law_counted : PySem.W.keepIn K (.ref f_law_counted) = true)
    (a_law_frame : PySem.W.nsIn K mainGlobals "_law_frame" = some (some (.ref f_law_frame))) (l_law_frame : K.lookup f_law_frame = some ⟨oc_law_frame, od_law_frame, .func (PySem.W.fnOf "_law_frame" "_law_frame" (defArgs s_law_frame) (defBody s_law_frame) (defScope s_law_frame) .none kV_law_frame dc_law_frame pm_law_frame an_law_frame cd_law_frame ct_law_frame), sl_law_frame⟩) (c_law_frame : PySem.W.codeIn K cd_law_frame "_law_frame" = true) (k_law_frame : PySem.W.keepIn K (.ref f_law_frame) = true)
    (a_law_may : PySem.W.nsIn K mainGlobals "_law_may" = some (some (.ref f_law_may))) (l_law_may : K.lookup f_law_may = some ⟨oc_law_may, od_law_may, .func (PySem.W.fnOf "_law_may" "_law_may" (defArgs s_law_may) (defBody s_law_may) (defScope s_law_may) .none kV_law_may dc_law_may pm_law_may an_law_may cd_law_may ct_law_may), sl_law_may⟩) (c_law_may : PySem.W.codeIn K cd_law_may "_law_may" = true) (k_law_may : PySem.W.keepIn K (.ref f_law_may) = true)
    (a_law_next : PySem.W.nsIn K mainGlobals "_law_next" = some (some (.ref f_law_next))) (l_law_next : K.lookup f_law_next = some ⟨oc_law_next, od_law_next, .func (PySem.W.fnOf "_law_next" "_law_next" (defArgs s_law_next) (defBody s_law_next) (defScope s_law_next) .none kV_law_next dc_law_next pm_law_next an_law_next cd_law_next ct_law_next), sl_law_next⟩) (c_law_next : PySem.W.codeIn K cd_law_next "_law_next" = true) (k_law_next : PySem.W.keepIn K (.ref f_law_next) = true)
    (a_law_option_lift : PySem.W.nsIn K mainGlobals "_law_option_lift" = some (some (.ref f_law_option_lift))) (l_law_option_lift : K.lookup f_law_option_lift = some ⟨oc_law_option_lift, od_law_option_lift, .func (PySem.W.fnOf "_law_option_lift" "_law_option_lift" (defArgs s_law_option_lift) (defBody s_law_option_lift) (defScope s_law_option_lift) .none kV_law_option_lift dc_law_option_lift pm_law_option_lift an_law_option_lift cd_law_option_lift ct_law_option_lift), sl_law_option_lift⟩) (c_law_option_lift : PySem.W.codeIn K cd_law_option_lift "_law_option_lift" = true) (k_law_option_lift : PySem.W.keepIn K (.ref f_law_option_lift) = true)
    (a_law_lift : PySem.W.nsIn K mainGlobals "_law_lift" = some (some (.ref f_law_lift))) (l_law_lift : K.lookup f_law_lift = some ⟨oc_law_lift, od_law_lift, .func (PySem.W.fnOf "_law_lift" "_law_lift" (defArgs s_law_lift) (defBody s_law_lift) (defScope s_law_lift) .none kV_law_lift dc_law_lift pm_law_lift an_law_lift cd_law_lift ct_law_lift), sl_law_lift⟩) (c_law_lift : PySem.W.codeIn K cd_law_lift "_law_lift" = true) (k_law_lift : PySem.W.keepIn K (.ref f_law_lift) = true)
    (a_law_measures : PySem.W.nsIn K mainGlobals "_law_measures" = some (some (.ref f_law_measures))) (l_law_measures : K.lookup f_law_measures = some ⟨oc_law_measures, od_law_measures, .func (PySem.W.fnOf "_law_measures" "_law_measures" (defArgs s_law_measures) (defBody s_law_measures) (defScope s_law_measures) .none kV_law_measures dc_law_measures pm_law_measures an_law_measures cd_law_measures ct_law_measures), sl_law_measures⟩) (c_law_measures : PySem.W.codeIn K cd_law_measures "_law_measures" = true) (k_law_measures : PySem.W.keepIn K (.ref f_law_measures) = true)
    (a_law_even_choice : PySem.W.nsIn K mainGlobals "_law_even_choice" = some (some (.ref f_law_even_choice))) (l_law_even_choice : K.lookup f_law_even_choice = some ⟨oc_law_even_choice, od_law_even_choice, .func (PySem.W.fnOf "_law_even_choice" "_law_even_choice" (defArgs s_law_even_choice) (defBody s_law_even_choice) (defScope s_law_even_choice) .none kV_law_even_choice dc_law_even_choice pm_law_even_choice an_law_even_choice cd_law_even_choice ct_law_even_choice), sl_law_even_choice⟩) (c_law_even_choice : PySem.W.codeIn K cd_law_even_choice "_law_even_choice" = true) (k_law_even_choice : PySem.W.keepIn K (.ref f_law_even_choice) = true)
    (a_law_odd_replies : PySem.W.nsIn K mainGlobals "_law_odd_replies" = some (some (.ref f_law_odd_replies))) (l_law_odd_replies : K.lookup f_law_odd_replies = some ⟨oc_law_odd_replies, od_law_odd_replies, .func (PySem.W.fnOf "_law_odd_replies" "_law_odd_replies" (defArgs s_law_odd_replies) (defBody s_law_odd_replies) (defScope s_law_odd_replies) .none kV_law_odd_replies dc_law_odd_replies pm_law_odd_replies an_law_odd_replies cd_law_odd_replies ct_law_odd_replies), sl_law_odd_replies⟩) (c_law_odd_replies : PySem.W.codeIn K cd_law_odd_replies "_law_odd_replies" = true) (k_law_odd_replies : PySem.W.keepIn K (.ref f_law_odd_replies) = true)
    (a_law_colour_paper : PySem.W.nsIn K mainGlobals "_law_colour_paper" = some (some (.ref f_law_colour_paper))) (l_law_colour_paper : K.lookup f_law_colour_paper = some ⟨oc_law_colour_paper, od_law_colour_paper, .func (PySem.W.fnOf "_law_colour_paper" "_law_colour_paper" (defArgs s_law_colour_paper) (defBody s_law_colour_paper) (defScope s_law_colour_paper) .none kV_law_colour_paper dc_law_colour_paper pm_law_colour_paper an_law_colour_paper cd_law_colour_paper ct_law_colour_paper), sl_law_colour_paper⟩) (c_law_colour_paper : PySem.W.codeIn K cd_law_colour_paper "_law_colour_paper" = true) (k_law_colour_paper : PySem.W.keepIn K (.ref f_law_colour_paper) = true)
    (a_law_replies_right : PySem.W.nsIn K mainGlobals "_law_replies_right" = some (some (.ref f_law_replies_right))) (l_law_replies_right : K.lookup f_law_replies_right = some ⟨oc_law_replies_right, od_law_replies_right, .func (PySem.W.fnOf "_law_replies_right" "_law_replies_right" (defArgs s_law_replies_right) (defBody s_law_replies_right) (defScope s_law_replies_right) .none kV_law_replies_right dc_law_replies_right pm_law_replies_right an_law_replies_right cd_law_replies_right ct_law_replies_right), sl_law_replies_right⟩) (c_law_replies_right : PySem.W.codeIn K cd_law_replies_right "_law_replies_right" = true) (k_law_replies_right : PySem.W.keepIn K (.ref f_law_replies_right) = true)
    (a_law_colour_right : PySem.W.nsIn K mainGlobals "_law_colour_right" = some (some (.ref f_law_colour_right))) (l_law_colour_right : K.lookup f_law_colour_right = some ⟨oc_law_colour_right, od_law_colour_right, .func (PySem.W.fnOf "_law_colour_right" "_law_colour_right" (defArgs s_law_colour_right) (defBody s_law_colour_right) (defScope s_law_colour_right) .none kV_law_colour_right dc_law_colour_right pm_law_colour_right an_law_colour_right cd_law_colour_right ct_law_colour_right), sl_law_colour_right⟩) (c_law_colour_right : PySem.W.codeIn K cd_law_colour_right "_law_colour_right" = true) (k_law_colour_right : PySem.W.keepIn K (.ref f_law_colour_right) = true)
    (a_law_colour_judge : PySem.W.nsIn K mainGlobals "_law_colour_judge" = some (some (.ref f_law_colour_judge))) (l_law_colour_judge : K.lookup f_law_colour_judge = some ⟨oc_law_colour_judge, od_law_colour_judge, .func (PySem.W.fnOf "_law_colour_judge" "_law_colour_judge" (defArgs s_law_colour_judge) (defBody s_law_colour_judge) (defScope s_law_colour_judge) .none kV_law_colour_judge dc_law_colour_judge pm_law_colour_judge an_law_colour_judge cd_law_colour_judge ct_law_colour_judge), sl_law_colour_judge⟩) (c_law_colour_judge : PySem.W.codeIn K cd_law_colour_judge "_law_colour_judge" = true) (k_law_colour_judge : PySem.W.keepIn K (.ref f_law_colour_judge) = true)
    (a_law_game : PySem.W.nsIn K mainGlobals "_law_game" = some (some (.ref f_law_game))) (l_law_game : K.lookup f_law_game = some ⟨oc_law_game, od_law_game, .func (PySem.W.fnOf "_law_game" "_law_game" (defArgs s_law_game) (defBody s_law_game) (defScope s_law_game) .none kV_law_game dc_law_game pm_law_game an_law_game cd_law_game ct_law_game), sl_law_game⟩) (c_law_game : PySem.W.codeIn K cd_law_game "_law_game" = true) (k_law_game : PySem.W.keepIn K (.ref f_law_game) = true)
    (a_law_entries : PySem.W.nsIn K mainGlobals "_law_entries" = some (some (.ref f_law_entries))) (l_law_entries : K.lookup f_law_entries = some ⟨oc_law_entries, od_law_entries, .func (PySem.W.fnOf "_law_entries" "_law_entries" (defArgs s_law_entries) (defBody s_law_entries) (defScope s_law_entries) .none kV_law_entries dc_law_entries pm_law_entries an_law_entries cd_law_entries ct_law_entries), sl_law_entries⟩) (c_law_entries : PySem.W.codeIn K cd_law_entries "_law_entries" = true) (k_law_entries : PySem.W.keepIn K (.ref f_law_entries) = true)
    (a_law_other_replies : PySem.W.nsIn K mainGlobals "_law_other_replies" = some (some (.ref f_law_other_replies))) (l_law_other_replies : K.lookup f_law_other_replies = some ⟨oc_law_other_replies, od_law_other_replies, .func (PySem.W.fnOf "_law_other_replies" "_law_other_replies" (defArgs s_law_other_replies) (defBody s_law_other_replies) (defScope s_law_other_replies) .none kV_law_other_replies dc_law_other_replies pm_law_other_replies an_law_other_replies cd_law_other_replies ct_law_other_replies), sl_law_other_replies⟩) (c_law_other_replies : PySem.W.codeIn K cd_law_other_replies "_law_other_replies" = true) (k_law_other_replies : PySem.W.keepIn K (.ref f_law_other_replies) = true)
    (a_law_changed : PySem.W.nsIn K mainGlobals "_law_changed" = some (some (.ref f_law_changed))) (l_law_changed : K.lookup f_law_changed = some ⟨oc_law_changed, od_law_changed, .func (PySem.W.fnOf "_law_changed" "_law_changed" (defArgs s_law_changed) (defBody s_law_changed) (defScope s_law_changed) .none kV_law_changed dc_law_changed pm_law_changed an_law_changed cd_law_changed ct_law_changed), sl_law_changed⟩) (c_law_changed : PySem.W.codeIn K cd_law_changed "_law_changed" = true) (k_law_changed : PySem.W.keepIn K (.ref f_law_changed) = true)
    (a_law_stretched : PySem.W.nsIn K mainGlobals "_law_stretched" = some (some (.ref f_law_stretched))) (l_law_stretched : K.lookup f_law_stretched = some ⟨oc_law_stretched, od_law_stretched, .func (PySem.W.fnOf "_law_stretched" "_law_stretched" (defArgs s_law_stretched) (defBody s_law_stretched) (defScope s_law_stretched) .none kV_law_stretched dc_law_stretched pm_law_stretched an_law_stretched cd_law_stretched ct_law_stretched), sl_law_stretched⟩) (c_law_stretched : PySem.W.codeIn K cd_law_stretched "_law_stretched" = true) (k_law_stretched : PySem.W.keepIn K (.ref f_law_stretched) = true)
    (alaw : PySem.W.nsIn K mainGlobals "law" = some (some (.ref flaw))) (llaw : K.lookup flaw = some ⟨oclaw, odlaw, .func (PySem.W.fnOf "law" "law" (defArgs slaw) (defBody slaw) (defScope slaw) .none kVlaw dclaw pmlaw anlaw cdlaw ctlaw), sllaw⟩) (claw : PySem.W.codeIn K cdlaw "law" = true) (klaw : PySem.W.keepIn K (.ref flaw) = true)
    (aFitting___init__ : PySem.W.findIn K (.ref C_Fitting) "__init__" = some (some (.ref fFitting___init__))) (lFitting___init__ : K.lookup fFitting___init__ = some ⟨ocFitting___init__, odFitting___init__, .func (PySem.W.fnOf "__init__" "Fitting.__init__" (defArgs sFitting___init__) (defBody sFitting___init__) (defScope sFitting___init__) .none kVFitting___init__ dcFitting___init__ pmFitting___init__ anFitting___init__ cdFitting___init__ ctFitting___init__), slFitting___init__⟩) (cFitting___init__ : PySem.W.codeIn K cdFitting___init__ "Fitting.__init__" = true) (kFitting___init__ : PySem.W.keepIn K (.ref fFitting___init__) = true) (iFitting___init__ : PySem.W.isFn K (.ref fFitting___init__) = true)
    (aFitting_fits : PySem.W.findIn K (.ref C_Fitting) "fits" = some (some (.ref fFitting_fits))) (lFitting_fits : K.lookup fFitting_fits = some ⟨ocFitting_fits, odFitting_fits, .func (PySem.W.fnOf "fits" "Fitting.fits" (defArgs sFitting_fits) (defBody sFitting_fits) (defScope sFitting_fits) .none kVFitting_fits dcFitting_fits pmFitting_fits anFitting_fits cdFitting_fits ctFitting_fits), slFitting_fits⟩) (cFitting_fits : PySem.W.codeIn K cdFitting_fits "Fitting.fits" = true) (kFitting_fits : PySem.W.keepIn K (.ref fFitting_fits) = true) (iFitting_fits : PySem.W.isFn K (.ref fFitting_fits) = true)
    (aFitting_all_fit : PySem.W.findIn K (.ref C_Fitting) "all_fit" = some (some (.ref fFitting_all_fit))) (lFitting_all_fit : K.lookup fFitting_all_fit = some ⟨ocFitting_all_fit, odFitting_all_fit, .func (PySem.W.fnOf "all_fit" "Fitting.all_fit" (defArgs sFitting_all_fit) (defBody sFitting_all_fit) (defScope sFitting_all_fit) .none kVFitting_all_fit dcFitting_all_fit pmFitting_all_fit anFitting_all_fit cdFitting_all_fit ctFitting_all_fit), slFitting_all_fit⟩) (cFitting_all_fit : PySem.W.codeIn K cdFitting_all_fit "Fitting.all_fit" = true) (kFitting_all_fit : PySem.W.keepIn K (.ref fFitting_all_fit) = true) (iFitting_all_fit : PySem.W.isFn K (.ref fFitting_all_fit) = true)
    (aFitting__measures_fit : PySem.W.findIn K (.ref C_Fitting) "_measures_fit" = some (some (.ref fFitting__measures_fit))) (lFitting__measures_fit : K.lookup fFitting__measures_fit = some ⟨ocFitting__measures_fit, odFitting__measures_fit, .func (PySem.W.fnOf "_measures_fit" "Fitting._measures_fit" (defArgs sFitting__measures_fit) (defBody sFitting__measures_fit) (defScope sFitting__measures_fit) .none kVFitting__measures_fit dcFitting__measures_fit pmFitting__measures_fit anFitting__measures_fit cdFitting__measures_fit ctFitting__measures_fit), slFitting__measures_fit⟩) (cFitting__measures_fit : PySem.W.codeIn K cdFitting__measures_fit "Fitting._measures_fit" = true) (kFitting__measures_fit : PySem.W.keepIn K (.ref fFitting__measures_fit) = true) (iFitting__measures_fit : PySem.W.isFn K (.ref fFitting__measures_fit) = true)
    (aFitting__change : PySem.W.findIn K (.ref C_Fitting) "_change" = some (some (.ref fFitting__change))) (lFitting__change : K.lookup fFitting__change = some ⟨ocFitting__change, odFitting__change, .func (PySem.W.fnOf "_change" "Fitting._change" (defArgs sFitting__change) (defBody sFitting__change) (defScope sFitting__change) .none kVFitting__change dcFitting__change pmFitting__change anFitting__change cdFitting__change ctFitting__change), slFitting__change⟩) (cFitting__change : PySem.W.codeIn K cdFitting__change "Fitting._change" = true) (kFitting__change : PySem.W.keepIn K (.ref fFitting__change) = true) (iFitting__change : PySem.W.isFn K (.ref fFitting__change) = true)
    (g_CONTROLLER : PySem.W.nsIn K mainGlobals "CONTROLLER" = some (some u_CONTROLLER)) (r_CONTROLLER : L2.RelV (.int 0) u_CONTROLLER)
    (g_DISTURBANCE : PySem.W.nsIn K mainGlobals "DISTURBANCE" = some (some u_DISTURBANCE)) (r_DISTURBANCE : L2.RelV (.int 1) u_DISTURBANCE)
    (g_OPTION_KINDS : PySem.W.nsIn K mainGlobals "OPTION_KINDS" = some (some (.ref c_OPTION_KINDS))) (k_OPTION_KINDS : KT K c_OPTION_KINDS [(.str "holds"), (.str "comes"), (.str "even"), (.str "keeps")])
    (z_all : PySem.W.nsIn K mainGlobals "all" = some none)
    (z_bool : PySem.W.nsIn K mainGlobals "bool" = some none)
    (z_enumerate : PySem.W.nsIn K mainGlobals "enumerate" = some none)
    (z_int : PySem.W.nsIn K mainGlobals "int" = some none)
    (z_isinstance : PySem.W.nsIn K mainGlobals "isinstance" = some none)
    (z_len : PySem.W.nsIn K mainGlobals "len" = some none)
    (z_list : PySem.W.nsIn K mainGlobals "list" = some none)
    (z_max : PySem.W.nsIn K mainGlobals "max" = some none)
    (z_min : PySem.W.nsIn K mainGlobals "min" = some none)
    (z_range : PySem.W.nsIn K mainGlobals "range" = some none)
    (z_sorted : PySem.W.nsIn K mainGlobals "sorted" = some none)
    (z_str : PySem.W.nsIn K mainGlobals "str" = some none)
    (z_tuple : PySem.W.nsIn K mainGlobals "tuple" = some none)
    : ∃ fd : FuncData, (∀ (s : Shared) (v : Value), BindsTo s fd ⟨[v], []⟩ [("script", v)]) ∧ ∀ base : Heap, K.In base → base.Ns mainGlobals mg → FnOk l.prog w K mg base CX0 8 fa fd ["script"] (spLaw K) := by
  have e := hfa.symm.trans (PySem.W.mg_of X G alaw)
  cases e
  let T : Txt K mg := {
    z_all := PySem.W.mg_none_of X G z_all
    z_bool := PySem.W.mg_none_of X G z_bool
    z_enumerate := PySem.W.mg_none_of X G z_enumerate
    z_int := PySem.W.mg_none_of X G z_int
    z_isinstance := PySem.W.mg_none_of X G z_isinstance
    z_len := PySem.W.mg_none_of X G z_len
    z_list := PySem.W.mg_none_of X G z_list
    z_max := PySem.W.mg_none_of X G z_max
    z_min := PySem.W.mg_none_of X G z_min
    z_range := PySem.W.mg_none_of X G z_range
    z_sorted := PySem.W.mg_none_of X G z_sorted
    z_str := PySem.W.mg_none_of X G z_str
    z_tuple := PySem.W.mg_none_of X G z_tuple
    u_CONTROLLER := u_CONTROLLER
    g_CONTROLLER := PySem.W.mg_of X G g_CONTROLLER
    r_CONTROLLER := r_CONTROLLER
    u_DISTURBANCE := u_DISTURBANCE
    g_DISTURBANCE := PySem.W.mg_of X G g_DISTURBANCE
    r_DISTURBANCE := r_DISTURBANCE
    c_OPTION_KINDS := c_OPTION_KINDS
    g_OPTION_KINDS := PySem.W.mg_of X G g_OPTION_KINDS
    k_OPTION_KINDS := k_OPTION_KINDS
    C_Fitting := C_Fitting
    g_Fitting := PySem.W.mg_of X G kg_Fitting
    cl_Fitting := ⟨kp_Fitting, kh_Fitting, ko_Fitting, ks_Fitting⟩
    na_Fitting_arena := kn_Fitting_arena
    na_Fitting_told := kn_Fitting_told
    na_Fitting_labels := kn_Fitting_labels
    na_Fitting_greatest := kn_Fitting_greatest
    aFitting___init__ := fFitting___init__
    dFitting___init__ := _
    FFitting___init__ := fun_mk (st := sFitting___init__) lFitting___init__ cFitting___init__ kFitting___init__
    mFitting___init__ := ⟨aFitting___init__, iFitting___init__, kFitting___init__⟩
    mk_Fitting := ⟨km_Fitting, aFitting___init__, iFitting___init__, kk_Fitting⟩
    aFitting_fits := fFitting_fits
    dFitting_fits := _
    FFitting_fits := fun_mk (st := sFitting_fits) lFitting_fits cFitting_fits kFitting_fits
    mFitting_fits := ⟨aFitting_fits, iFitting_fits, kFitting_fits⟩
    aFitting_all_fit := fFitting_all_fit
    dFitting_all_fit := _
    FFitting_all_fit := fun_mk (st := sFitting_all_fit) lFitting_all_fit cFitting_all_fit kFitting_all_fit
    mFitting_all_fit := ⟨aFitting_all_fit, iFitting_all_fit, kFitting_all_fit⟩
    aFitting__measures_fit := fFitting__measures_fit
    dFitting__measures_fit := _
    FFitting__measures_fit := fun_mk (st := sFitting__measures_fit) lFitting__measures_fit cFitting__measures_fit kFitting__measures_fit
    mFitting__measures_fit := ⟨aFitting__measures_fit, iFitting__measures_fit, kFitting__measures_fit⟩
    aFitting__change := fFitting__change
    dFitting__change := _
    FFitting__change := fun_mk (st := sFitting__change) lFitting__change cFitting__change kFitting__change
    mFitting__change := ⟨aFitting__change, iFitting__change, kFitting__change⟩
    ahas_option := fhas_option
    dhas_option := _
    Fhas_option := fun_mk (st := shas_option) lhas_option chas_option khas_option
    mhas_option := PySem.W.mg_of X G ahas_option
    aentries_from := fentries_from
    dentries_from := _
    Fentries_from := fun_mk (st := sentries_from) lentries_from centries_from kentries_from
    mentries_from := PySem.W.mg_of X G aentries_from
    ajudge := fjudge
    djudge := _
    Fjudge := fun_mk (st := sjudge) ljudge cjudge kjudge
    mjudge := PySem.W.mg_of X G ajudge
    a_is_right := f_is_right
    d_is_right := _
    F_is_right := fun_mk (st := s_is_right) l_is_right c_is_right k_is_right
    m_is_right := PySem.W.mg_of X G a_is_right
    a_numbers_are_right := f_numbers_are_right
    d_numbers_are_right := _
    F_numbers_are_right := fun_mk (st := s_numbers_are_right) l_numbers_are_right c_numbers_are_right k_numbers_are_right
    m_numbers_are_right := PySem.W.mg_of X G a_numbers_are_right
    a_replies_are_right := f_replies_are_right
    d_replies_are_right := _
    F_replies_are_right := fun_mk (st := s_replies_are_right) l_replies_are_right c_replies_are_right k_replies_are_right
    m_replies_are_right := PySem.W.mg_of X G a_replies_are_right
    a_law_draws := f_law_draws
    d_law_draws := _
    F_law_draws := fun_mk (st := s_law_draws) l_law_draws c_law_draws k_law_draws
    m_law_draws := PySem.W.mg_of X G a_law_draws
    a_law_take := f_law_take
    d_law_take := _
    F_law_take := fun_mk (st := s_law_take) l_law_take c_law_take k_law_take
    m_law_take := PySem.W.mg_of X G a_law_take
    a_law_same := f_law_same
    d_law_same := _
    F_law_same := fun_mk (st := s_law_same) l_law_same c_law_same k_law_same
    m_law_same := PySem.W.mg_of X G a_law_same
    a_law_cell := f_law_cell
    d_law_cell := _
    F_law_cell := fun_mk (st := s_law_cell) l_law_cell c_law_cell k_law_cell
    m_law_cell := PySem.W.mg_of X G a_law_cell
    a_law_option := f_law_option
    d_law_option := _
    F_law_option := fun_mk (st := s_law_option) l_law_option c_law_option k_law_option
    m_law_option := PySem.W.mg_of X G a_law_option
    a_law_arena := f_law_arena
    d_law_arena := _
    F_law_arena := fun_mk (st := s_law_arena) l_law_arena c_law_arena k_law_arena
    m_law_arena := PySem.W.mg_of X G a_law_arena
    a_law_colours := f_law_colours
    d_law_colours := _
    F_law_colours := fun_mk (st := s_law_colours) l_law_colours c_law_colours k_law_colours
    m_law_colours := PySem.W.mg_of X G a_law_colours
    a_law_counted := f_law_counted
    d_law_counted := _
    F_law_counted := fun_mk (st := s_law_counted) l_law_counted c_law_counted k_law_counted
    m_law_counted := PySem.W.mg_of X G a_law_counted
    a_law_frame := f_law_frame
    d_law_frame := _
    F_law_frame := fun_mk (st := s_law_frame) l_law_frame c_law_frame k_law_frame
    m_law_frame := PySem.W.mg_of X G a_law_frame
    a_law_may := f_law_may
    d_law_may := _
    F_law_may := fun_mk (st := s_law_may) l_law_may c_law_may k_law_may
    m_law_may := PySem.W.mg_of X G a_law_may
    a_law_next := f_law_next
    d_law_next := _
    F_law_next := fun_mk (st := s_law_next) l_law_next c_law_next k_law_next
    m_law_next := PySem.W.mg_of X G a_law_next
    a_law_option_lift := f_law_option_lift
    d_law_option_lift := _
    F_law_option_lift := fun_mk (st := s_law_option_lift) l_law_option_lift c_law_option_lift k_law_option_lift
    m_law_option_lift := PySem.W.mg_of X G a_law_option_lift
    a_law_lift := f_law_lift
    d_law_lift := _
    F_law_lift := fun_mk (st := s_law_lift) l_law_lift c_law_lift k_law_lift
    m_law_lift := PySem.W.mg_of X G a_law_lift
    a_law_measures := f_law_measures
    d_law_measures := _
    F_law_measures := fun_mk (st := s_law_measures) l_law_measures c_law_measures k_law_measures
    m_law_measures := PySem.W.mg_of X G a_law_measures
    a_law_even_choice := f_law_even_choice
    d_law_even_choice := _
    F_law_even_choice := fun_mk (st := s_law_even_choice) l_law_even_choice c_law_even_choice k_law_even_choice
    m_law_even_choice := PySem.W.mg_of X G a_law_even_choice
    a_law_odd_replies := f_law_odd_replies
    d_law_odd_replies := _
    F_law_odd_replies := fun_mk (st := s_law_odd_replies) l_law_odd_replies c_law_odd_replies k_law_odd_replies
    m_law_odd_replies := PySem.W.mg_of X G a_law_odd_replies
    a_law_colour_paper := f_law_colour_paper
    d_law_colour_paper := _
    F_law_colour_paper := fun_mk (st := s_law_colour_paper) l_law_colour_paper c_law_colour_paper k_law_colour_paper
    m_law_colour_paper := PySem.W.mg_of X G a_law_colour_paper
    a_law_replies_right := f_law_replies_right
    d_law_replies_right := _
    F_law_replies_right := fun_mk (st := s_law_replies_right) l_law_replies_right c_law_replies_right k_law_replies_right
    m_law_replies_right := PySem.W.mg_of X G a_law_replies_right
    a_law_colour_right := f_law_colour_right
    d_law_colour_right := _
    F_law_colour_right := fun_mk (st := s_law_colour_right) l_law_colour_right c_law_colour_right k_law_colour_right
    m_law_colour_right := PySem.W.mg_of X G a_law_colour_right
    a_law_colour_judge := f_law_colour_judge
    d_law_colour_judge := _
    F_law_colour_judge := fun_mk (st := s_law_colour_judge) l_law_colour_judge c_law_colour_judge k_law_colour_judge
    m_law_colour_judge := PySem.W.mg_of X G a_law_colour_judge
    a_law_game := f_law_game
    d_law_game := _
    F_law_game := fun_mk (st := s_law_game) l_law_game c_law_game k_law_game
    m_law_game := PySem.W.mg_of X G a_law_game
    a_law_entries := f_law_entries
    d_law_entries := _
    F_law_entries := fun_mk (st := s_law_entries) l_law_entries c_law_entries k_law_entries
    m_law_entries := PySem.W.mg_of X G a_law_entries
    a_law_other_replies := f_law_other_replies
    d_law_other_replies := _
    F_law_other_replies := fun_mk (st := s_law_other_replies) l_law_other_replies c_law_other_replies k_law_other_replies
    m_law_other_replies := PySem.W.mg_of X G a_law_other_replies
    a_law_changed := f_law_changed
    d_law_changed := _
    F_law_changed := fun_mk (st := s_law_changed) l_law_changed c_law_changed k_law_changed
    m_law_changed := PySem.W.mg_of X G a_law_changed
    a_law_stretched := f_law_stretched
    d_law_stretched := _
    F_law_stretched := fun_mk (st := s_law_stretched) l_law_stretched c_law_stretched k_law_stretched
    m_law_stretched := PySem.W.mg_of X G a_law_stretched
    alaw := fa
    dlaw := _
    Flaw := fun_mk (st := slaw) llaw claw klaw
    mlaw := PySem.W.mg_of X G alaw }
  refine ⟨T.dlaw, fun s v => .of_eq rfl, fun base _ _ => ?_⟩
  exact ok_law T
end NL
open PySem PySem.W PyProof.Rows
set_option maxRecDepth 100000 in
set_option maxHeartbeats 0 in
theorem PySem.Challenge.cw_neverleaves_k46_judge_of_odd_labels_holds : PySem.Challenge.rw_neverleaves_k46_judge_of_odd_labels.Holds := by
  w_on; o_law; k_head; (case hw => w_witness2)
  k_fill
  refine L2.walk_of (l := PySem.Challenge.rw_neverleaves_k46_judge_of_odd_labels) (n := 63) (k := 8) (x := "script") (CX := fun _ => L2.CX0) (sp := fun w => NL.spLaw _) rfl (by decide) rfl ⟨rfl, by decide, by decide⟩ (fun w h Y => PySem.W.kIn_of Y) ?F (fun _ _ a ns hl _ hS => ⟨a, ns, rfl, hS, hl, fun _ => rfl⟩) (fun _ _ _ _ _ h => h)
  case F =>
    intro w mg fa h KX G hmg
    refine' NL.all_mk KX G hmg ?kg_Fitting ?kp_Fitting ?kh_Fitting ?ko_Fitting ?ks_Fitting ?km_Fitting ?kk_Fitting ?kn_Fitting_arena ?kn_Fitting_told ?kn_Fitting_labels ?kn_Fitting_greatest ?ahas_option ?lhas_option ?chas_option ?khas_option ?aentries_from ?lentries_from ?centries_from ?kentries_from ?ajudge ?ljudge ?cjudge ?kjudge ?a_is_right ?l_is_right ?c_is_right ?k_is_right ?a_numbers_are_right ?l_numbers_are_right ?c_numbers_are_right ?k_numbers_are_right ?a_replies_are_right ?l_replies_are_right ?c_replies_are_right ?k_replies_are_right ?a_law_draws ?l_law_draws ?c_law_draws ?k_law_draws ?a_law_take ?l_law_take ?c_law_take ?k_law_take ?a_law_same ?l_law_same ?c_law_same ?k_law_same ?a_law_cell ?l_law_cell ?c_law_cell ?k_law_cell ?a_law_option ?l_law_option ?c_law_option ?k_law_option ?a_law_arena ?l_law_arena ?c_law_arena ?k_law_arena ?a_law_colours ?l_law_colours ?c_law_colours ?k_law_colours ?a_law_counted ?l_law_counted ?c_law_counted ?k_law_counted ?a_law_frame ?l_law_frame ?c_law_frame ?k_law_frame ?a_law_may ?l_law_may ?c_law_may ?k_law_may ?a_law_next ?l_law_next ?c_law_next ?k_law_next ?a_law_option_lift ?l_law_option_lift ?c_law_option_lift ?k_law_option_lift ?a_law_lift ?l_law_lift ?c_law_lift ?k_law_lift ?a_law_measures ?l_law_measures ?c_law_measures ?k_law_measures ?a_law_even_choice ?l_law_even_choice ?c_law_even_choice ?k_law_even_choice ?a_law_odd_replies ?l_law_odd_replies ?c_law_odd_replies ?k_law_odd_replies ?a_law_colour_paper ?l_law_colour_paper ?c_law_colour_paper ?k_law_colour_paper ?a_law_replies_right ?l_law_replies_right ?c_law_replies_right ?k_law_replies_right ?a_law_colour_right ?l_law_colour_right ?c_law_colour_right ?k_law_colour_right ?a_law_colour_judge ?l_law_colour_judge ?c_law_colour_judge ?k_law_colour_judge ?a_law_game ?l_law_game ?c_law_game ?k_law_game ?a_law_entries ?l_law_entries ?c_law_entries ?k_law_entries ?a_law_other_replies ?l_law_other_replies ?c_law_other_replies ?k_law_other_replies ?a_law_changed ?l_law_changed ?c_law_changed ?k_law_changed ?a_law_stretched ?l_law_stretched ?c_law_stretched ?k_law_stretched ?alaw ?llaw ?claw ?klaw ?aFitting___init__ ?lFitting___init__ ?cFitting___init__ ?kFitting___init__ ?iFitting___init__ ?aFitting_fits ?lFitting_fits ?cFitting_fits ?kFitting_fits ?iFitting_fits ?aFitting_all_fit ?lFitting_all_fit ?cFitting_all_fit ?kFitting_all_fit ?iFitting_all_fit ?aFitting__measures_fit ?lFitting__measures_fit ?cFitting__measures_fit ?kFitting__measures_fit ?iFitting__measures_fit ?aFitting__change ?lFitting__change ?cFitting__change ?kFitting__change ?iFitting__change ?g_CONTROLLER ?r_CONTROLLER ?g_DISTURBANCE ?r_DISTURBANCE ?g_OPTION_KINDS ?k_OPTION_KINDS ?z_all ?z_bool ?z_enumerate ?z_int ?z_isinstance ?z_len ?z_list ?z_max ?z_min ?z_range ?z_sorted ?z_str ?z_tuple
    (case kg_Fitting => k_is); (case kp_Fitting => k_is); (case kh_Fitting => k_is); (case ko_Fitting => k_is); (case ks_Fitting => k_is); (case km_Fitting => k_is); (case kk_Fitting => k_is); (case kn_Fitting_arena => k_is); (case kn_Fitting_told => k_is); (case kn_Fitting_labels => k_is); (case kn_Fitting_greatest => k_is)
    (case ahas_option => k_is); (case lhas_option => k_is); (case chas_option => k_is); (case khas_option => k_is)
    (case aentries_from => k_is); (case lentries_from => k_is); (case centries_from => k_is); (case kentries_from => k_is)
    (case ajudge => k_is); (case ljudge => k_is); (case cjudge => k_is); (case kjudge => k_is)
    (case a_is_right => k_is); (case l_is_right => k_is); (case c_is_right => k_is); (case k_is_right => k_is)
    (case a_numbers_are_right => k_is); (case l_numbers_are_right => k_is); (case c_numbers_are_right => k_is); (case k_numbers_are_right => k_is)
    (case a_replies_are_right => k_is); (case l_replies_are_right => k_is); (case c_replies_are_right => k_is); (case k_replies_are_right => k_is)
    (case a_law_draws => k_is); (case l_law_draws => k_is); (case c_law_draws => k_is); (case k_law_draws => k_is)
    (case a_law_take => k_is); (case l_law_take => k_is); (case c_law_take => k_is); (case k_law_take => k_is)
    (case a_law_same => k_is); (case l_law_same => k_is); (case c_law_same => k_is); (case k_law_same => k_is)
    (case a_law_cell => k_is); (case l_law_cell => k_is); (case c_law_cell => k_is); (case k_law_cell => k_is)
    (case a_law_option => k_is); (case l_law_option => k_is); (case c_law_option => k_is); (case k_law_option => k_is)
    (case a_law_arena => k_is); (case l_law_arena => k_is); (case c_law_arena => k_is); (case k_law_arena => k_is)
    (case a_law_colours => k_is); (case l_law_colours => k_is); (case c_law_colours => k_is); (case k_law_colours => k_is)
    (case a_law_counted => k_is); (case l_law_counted => k_is); (case c_law_counted => k_is); (case k_law_counted => k_is)
    (case a_law_frame => k_is); (case l_law_frame => k_is); (case c_law_frame => k_is); (case k_law_frame => k_is)
    (case a_law_may => k_is); (case l_law_may => k_is); (case c_law_may => k_is); (case k_law_may => k_is)
    (case a_law_next => k_is); (case l_law_next => k_is); (case c_law_next => k_is); (case k_law_next => k_is)
    (case a_law_option_lift => k_is); (case l_law_option_lift => k_is); (case c_law_option_lift => k_is); (case k_law_option_lift => k_is)
    (case a_law_lift => k_is); (case l_law_lift => k_is); (case c_law_lift => k_is); (case k_law_lift => k_is)
    (case a_law_measures => k_is); (case l_law_measures => k_is); (case c_law_measures => k_is); (case k_law_measures => k_is)
    (case a_law_even_choice => k_is); (case l_law_even_choice => k_is); (case c_law_even_choice => k_is); (case k_law_even_choice => k_is)
    (case a_law_odd_replies => k_is); (case l_law_odd_replies => k_is); (case c_law_odd_replies => k_is); (case k_law_odd_replies => k_is)
    (case a_law_colour_paper => k_is); (case l_law_colour_paper => k_is); (case c_law_colour_paper => k_is); (case k_law_colour_paper => k_is)
    (case a_law_replies_right => k_is); (case l_law_replies_right => k_is); (case c_law_replies_right => k_is); (case k_law_replies_right => k_is)
    (case a_law_colour_right => k_is); (case l_law_colour_right => k_is); (case c_law_colour_right => k_is); (case k_law_colour_right => k_is)
    (case a_law_colour_judge => k_is); (case l_law_colour_judge => k_is); (case c_law_colour_judge => k_is); (case k_law_colour_judge => k_is)
    (case a_law_game => k_is); (case l_law_game => k_is); (case c_law_game => k_is); (case k_law_game => k_is)
    (case a_law_entries => k_is); (case l_law_entries => k_is); (case c_law_entries => k_is); (case k_law_entries => k_is)
    (case a_law_other_replies => k_is); (case l_law_other_replies => k_is); (case c_law_other_replies => k_is); (case k_law_other_replies => k_is)
    (case a_law_changed => k_is); (case l_law_changed => k_is); (case c_law_changed => k_is); (case k_law_changed => k_is)
    (case a_law_stretched => k_is); (case l_law_stretched => k_is); (case c_law_stretched => k_is); (case k_law_stretched => k_is)
    (case alaw => k_is); (case llaw => k_is); (case claw => k_is); (case klaw => k_is)
    (case aFitting___init__ => k_is); (case lFitting___init__ => k_is); (case cFitting___init__ => k_is); (case kFitting___init__ => k_is); (case iFitting___init__ => k_is)
    (case aFitting_fits => k_is); (case lFitting_fits => k_is); (case cFitting_fits => k_is); (case kFitting_fits => k_is); (case iFitting_fits => k_is)
    (case aFitting_all_fit => k_is); (case lFitting_all_fit => k_is); (case cFitting_all_fit => k_is); (case kFitting_all_fit => k_is); (case iFitting_all_fit => k_is)
    (case aFitting__measures_fit => k_is); (case lFitting__measures_fit => k_is); (case cFitting__measures_fit => k_is); (case kFitting__measures_fit => k_is); (case iFitting__measures_fit => k_is)
    (case aFitting__change => k_is); (case lFitting__change => k_is); (case cFitting__change => k_is); (case kFitting__change => k_is); (case iFitting__change => k_is)
    (case g_CONTROLLER => k_is); (case r_CONTROLLER => exact ⟨_, rfl⟩)
    (case g_DISTURBANCE => k_is); (case r_DISTURBANCE => exact ⟨_, rfl⟩)
    (case g_OPTION_KINDS => k_is); (case k_OPTION_KINDS => (refine' NL.kt_mk ?h1 ?h2 ?h3 ?h4 ?h5; (case h1 => k_is); (case h2 => rfl); (case h3 => rfl); (case h4 => decide); (case h5 => repeat (first | exact .nil | refine .cons ⟨_, rfl⟩ ?_))))
    (case z_all => k_is)
    (case z_bool => k_is)
    (case z_enumerate => k_is)
    (case z_int => k_is)
    (case z_isinstance => k_is)
    (case z_len => k_is)
    (case z_list => k_is)
    (case z_max => k_is)
    (case z_min => k_is)
    (case z_range => k_is)
    (case z_sorted => k_is)
    (case z_str => k_is)
    (case z_tuple => k_is)
