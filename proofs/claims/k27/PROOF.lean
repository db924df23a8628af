import PyProof.Rows.All
import Wide.All
import OpenK.AllK
import Wide.FinOn
import HandS.ForExc
import HandS.ForMost
import HandS.TupAny
import HandS.IsInst
import HandS.Codes
import HandS.FStr
import HandS.Zip
import HandS.Conv
import HandS.TupLe
import PyProof.Draws
import HandS.Iter
import KE.GoesMore
import HandS.AnyAll
import HandS.EndOwn
import PyProof.GenCompD
import HandS.More
import HandS.DictComp
import HandS.Walk
import KE.DataMinMax
import KE.KxIndex
import PySem.Challenge.RW_neverleaves_k27_judge_of_staying
set_option Elab.async false
set_option linter.all false
set_option maxRecDepth 100000

namespace NL
open PySem PySem.Spec PyProof.Rows L2
def topS (i : Nat) : Stmt := PySem.Challenge.pw_neverleaves_k27_judge_of_staying.main.body.getD i (.Pass ⟨0, 0, 0, 0⟩)
abbrev shas_option : Stmt := topS 4
abbrev Nhas_option : List Str := ["label"]
abbrev Phas_option : List Str := ["label"]
theorem schas_option : FnScope Nhas_option Phas_option (defScope shas_option) := ⟨rfl, rfl, rfl, by decide +kernel, rfl, by decide +kernel, by decide +kernel⟩
abbrev sentries_from : Stmt := topS 6
abbrev Nentries_from : List Str := ["colour", "greatest", "side"]
abbrev Pentries_from : List Str := ["colour", "greatest", "side"]
theorem scentries_from : FnScope Nentries_from Pentries_from (defScope sentries_from) := ⟨rfl, rfl, rfl, by decide +kernel, rfl, by decide +kernel, by decide +kernel⟩
abbrev sjudge : Stmt := topS 10
abbrev Njudge : List Str := ["arena", "goal", "paper", "fitting", "at"]
abbrev Pjudge : List Str := ["arena", "goal", "paper"]
theorem scjudge : FnScope Njudge Pjudge (defScope sjudge) := ⟨rfl, rfl, rfl, by decide +kernel, rfl, by decide +kernel, by decide +kernel⟩
abbrev s_is_right : Stmt := topS 11
abbrev N_is_right : List Str := ["fitting", "at", "label", "kind"]
abbrev P_is_right : List Str := ["fitting", "at"]
theorem sc_is_right : FnScope N_is_right P_is_right (defScope s_is_right) := ⟨rfl, rfl, rfl, by decide +kernel, rfl, by decide +kernel, by decide +kernel⟩
abbrev s_numbers_are_right : Stmt := topS 12
abbrev N_numbers_are_right : List Str := ["fitting", "label", "kind", "side"]
abbrev P_numbers_are_right : List Str := ["fitting", "label"]
theorem sc_numbers_are_right : FnScope N_numbers_are_right P_numbers_are_right (defScope s_numbers_are_right) := ⟨rfl, rfl, rfl, by decide +kernel, rfl, by decide +kernel, by decide +kernel⟩
abbrev s_replies_are_right : Stmt := topS 13
abbrev N_replies_are_right : List Str := ["fitting", "at", "replies", "options", "index", "reply"]
abbrev P_replies_are_right : List Str := ["fitting", "at", "replies"]
theorem sc_replies_are_right : FnScope N_replies_are_right P_replies_are_right (defScope s_replies_are_right) := ⟨rfl, rfl, rfl, by decide +kernel, rfl, by decide +kernel, by decide +kernel⟩
abbrev s_law_replies_right : Stmt := topS 15
abbrev N_law_replies_right : List Str := ["replies", "options", "k"]
abbrev P_law_replies_right : List Str := ["replies", "options"]
theorem sc_law_replies_right : FnScope N_law_replies_right P_law_replies_right (defScope s_law_replies_right) := ⟨rfl, rfl, rfl, by decide +kernel, rfl, by decide +kernel, by decide +kernel⟩
abbrev s_law_stay_right : Stmt := topS 16
abbrev N_law_stay_right : List Str := ["arena", "keep", "paper", "k", "label", "one"]
abbrev P_law_stay_right : List Str := ["arena", "keep", "paper", "k"]
theorem sc_law_stay_right : FnScope N_law_stay_right P_law_stay_right (defScope s_law_stay_right) := ⟨rfl, rfl, rfl, by decide +kernel, rfl, by decide +kernel, by decide +kernel⟩
abbrev s_law_draws : Stmt := topS 17
abbrev N_law_draws : List Str := ["script", "many", "cells", "cell", "rest", "draws", "k", "at", "once"]
abbrev P_law_draws : List Str := ["script", "many"]
theorem sc_law_draws : FnScope N_law_draws P_law_draws (defScope s_law_draws) := ⟨rfl, rfl, rfl, by decide +kernel, rfl, by decide +kernel, by decide +kernel⟩
abbrev s_law_take : Stmt := topS 18
abbrev N_law_take : List Str := ["draws", "many"]
abbrev P_law_take : List Str := ["draws", "many"]
theorem sc_law_take : FnScope N_law_take P_law_take (defScope s_law_take) := ⟨rfl, rfl, rfl, by decide +kernel, rfl, by decide +kernel, by decide +kernel⟩
abbrev s_law_options : Stmt := topS 19
abbrev N_law_options : List Str := ["draws", "count", "sizes", "options", "j", "found", "i", "successor"]
abbrev P_law_options : List Str := ["draws", "count", "sizes"]
theorem sc_law_options : FnScope N_law_options P_law_options (defScope s_law_options) := ⟨rfl, rfl, rfl, by decide +kernel, rfl, by decide +kernel, by decide +kernel⟩
abbrev s_law_distinct : Stmt := topS 20
abbrev N_law_distinct : List Str := ["items", "found", "item"]
abbrev P_law_distinct : List Str := ["items"]
theorem sc_law_distinct : FnScope N_law_distinct P_law_distinct (defScope s_law_distinct) := ⟨rfl, rfl, rfl, by decide +kernel, rfl, by decide +kernel, by decide +kernel⟩
abbrev s_law_arena : Stmt := topS 21
abbrev N_law_arena : List Str := ["draws", "most", "count", "tower", "arena", "k", "options"]
abbrev P_law_arena : List Str := ["draws", "most"]
theorem sc_law_arena : FnScope N_law_arena P_law_arena (defScope s_law_arena) := ⟨rfl, rfl, rfl, by decide +kernel, rfl, by decide +kernel, by decide +kernel⟩
abbrev s_law_some : Stmt := topS 22
abbrev N_law_some : List Str := ["draws", "count", "share", "k"]
abbrev P_law_some : List Str := ["draws", "count", "share"]
theorem sc_law_some : FnScope N_law_some P_law_some (defScope s_law_some) := ⟨rfl, rfl, rfl, by decide +kernel, rfl, by decide +kernel, by decide +kernel⟩
abbrev s_law_stay_ranks : Stmt := topS 23
abbrev N_law_stay_ranks : List Str := ["arena", "keep", "ranks", "options", "k", "rank", "before", "driven", "option", "one"]
abbrev P_law_stay_ranks : List Str := ["arena", "keep"]
theorem sc_law_stay_ranks : FnScope N_law_stay_ranks P_law_stay_ranks (defScope s_law_stay_ranks) := ⟨rfl, rfl, rfl, by decide +kernel, rfl, by decide +kernel, by decide +kernel⟩
abbrev s_law_stay_paper : Stmt := topS 24
abbrev N_law_stay_paper : List Str := ["arena", "keep", "ranks", "labels", "k", "good", "index", "one", "replies", "option", "pairs"]
abbrev P_law_stay_paper : List Str := ["arena", "keep"]
theorem sc_law_stay_paper : FnScope N_law_stay_paper P_law_stay_paper (defScope s_law_stay_paper) := ⟨rfl, rfl, rfl, by decide +kernel, rfl, by decide +kernel, by decide +kernel⟩
abbrev s_law_changed : Stmt := topS 25
abbrev N_law_changed : List Str := ["draws", "label", "options", "count", "kind", "parts", "at", "other", "pair", "names", "replies", "option", "row", "place"]
abbrev P_law_changed : List Str := ["draws", "label", "options", "count"]
theorem sc_law_changed : FnScope N_law_changed P_law_changed (defScope s_law_changed) := ⟨rfl, rfl, rfl, by decide +kernel, rfl, by decide +kernel, by decide +kernel⟩
abbrev s_law_spoilt : Stmt := topS 26
abbrev N_law_spoilt : List Str := ["draws", "arena", "paper", "labels", "kind", "k", "at"]
abbrev P_law_spoilt : List Str := ["draws", "arena", "paper"]
theorem sc_law_spoilt : FnScope N_law_spoilt P_law_spoilt (defScope s_law_spoilt) := ⟨rfl, rfl, rfl, by decide +kernel, rfl, by decide +kernel, by decide +kernel⟩
abbrev s_law_taken : Stmt := topS 27
abbrev N_law_taken : List Str := ["arena", "positions", "paper", "k"]
abbrev P_law_taken : List Str := ["arena", "positions", "paper"]
theorem sc_law_taken : FnScope N_law_taken P_law_taken (defScope s_law_taken) := ⟨rfl, rfl, rfl, by decide +kernel, rfl, by decide +kernel, by decide +kernel⟩
abbrev slaw : Stmt := topS 28
abbrev Nlaw : List Str := ["script", "draws", "arena", "positions", "paper", "k", "taken"]
abbrev Plaw : List Str := ["script"]
theorem sclaw : FnScope Nlaw Plaw (defScope slaw) := ⟨rfl, rfl, rfl, by decide +kernel, rfl, by decide +kernel, by decide +kernel⟩
abbrev sFitting___init__ : Stmt := inClass (topS 8) 0
abbrev NFitting___init__ : List Str := ["self", "arena", "goal", "labels"]
abbrev PFitting___init__ : List Str := ["self", "arena", "goal", "labels"]
theorem scFitting___init__ : FnScope NFitting___init__ PFitting___init__ (defScope sFitting___init__) := ⟨rfl, rfl, rfl, by decide +kernel, rfl, by decide +kernel, by decide +kernel⟩
abbrev sFitting_fits : Stmt := inClass (topS 8) 1
abbrev NFitting_fits : List Str := ["self", "at", "index", "after", "mine", "other"]
abbrev PFitting_fits : List Str := ["self", "at", "index", "after"]
theorem scFitting_fits : FnScope NFitting_fits PFitting_fits (defScope sFitting_fits) := ⟨rfl, rfl, rfl, by decide +kernel, rfl, by decide +kernel, by decide +kernel⟩
abbrev sFitting_all_fit : Stmt := inClass (topS 8) 2
abbrev NFitting_all_fit : List Str := ["self", "at", "index", "after"]
abbrev PFitting_all_fit : List Str := ["self", "at", "index"]
theorem scFitting_all_fit : FnScope NFitting_all_fit PFitting_all_fit (defScope sFitting_all_fit) := ⟨rfl, rfl, rfl, by decide +kernel, rfl, by decide +kernel, by decide +kernel⟩
def KT (K : PySem.W.Frag) (a : Addr) (ys : List V) : Prop := ∃ o its n, List.lookup a K = some o ∧ o.cls = .type "tuple" ∧ o.data = .seq its n ∧ its.size ≤ sizeLine ∧ L2.Vals ys its.toList
theorem kt_mk {K : PySem.W.Frag} {a : Addr} {ys : List V} {o : Obj} {its : Array Value} {n : Nat} (h1 : List.lookup a K = some o) (h2 : o.cls = .type "tuple") (h3 : o.data = .seq its n) (h4 : its.size ≤ sizeLine) (h5 : L2.Vals ys its.toList) : KT K a ys := ⟨o, its, n, h1, h2, h3, h4, h5⟩
set_option genInjectivity false in
set_option genSizeOfSpec false in
structure Txt (K : PySem.W.Frag) (mg : Str → Option Value) where
  z_all : mg "all" = none
  z_bool : mg "bool" = none
  z_enumerate : mg "enumerate" = none
  z_int : mg "int" = none
  z_isinstance : mg "isinstance" = none
  z_len : mg "len" = none
  z_list : mg "list" = none
  z_max : mg "max" = none
  z_min : mg "min" = none
  z_range : mg "range" = none
  z_sorted : mg "sorted" = none
  z_tuple : mg "tuple" = none
  u_CONTROLLER : Value
  g_CONTROLLER : mg "CONTROLLER" = some u_CONTROLLER
  r_CONTROLLER : L2.RelV (.int 0) u_CONTROLLER
  u_DISTURBANCE : Value
  g_DISTURBANCE : mg "DISTURBANCE" = some u_DISTURBANCE
  r_DISTURBANCE : L2.RelV (.int 1) u_DISTURBANCE
  c_OPTION_KINDS : Addr
  g_OPTION_KINDS : mg "OPTION_KINDS" = some (.ref c_OPTION_KINDS)
  k_OPTION_KINDS : KT K c_OPTION_KINDS [(.str "holds"), (.str "comes"), (.str "even"), (.str "keeps")]
  C_Fitting : Addr
  g_Fitting : mg "Fitting" = some (.ref C_Fitting)
  cl_Fitting : Cls K C_Fitting
  na_Fitting_arena : NoAttr K C_Fitting "arena"
  na_Fitting_told : NoAttr K C_Fitting "told"
  na_Fitting_labels : NoAttr K C_Fitting "labels"
  na_Fitting_greatest : NoAttr K C_Fitting "greatest"
  ahas_option : Addr
  dhas_option : FuncData
  Fhas_option : Fun K "has_option" "has_option" shas_option ahas_option dhas_option
  mhas_option : mg "has_option" = some (.ref ahas_option)
  aentries_from : Addr
  dentries_from : FuncData
  Fentries_from : Fun K "entries_from" "entries_from" sentries_from aentries_from dentries_from
  mentries_from : mg "entries_from" = some (.ref aentries_from)
  ajudge : Addr
  djudge : FuncData
  Fjudge : Fun K "judge" "judge" sjudge ajudge djudge
  mjudge : mg "judge" = some (.ref ajudge)
  a_is_right : Addr
  d_is_right : FuncData
  F_is_right : Fun K "_is_right" "_is_right" s_is_right a_is_right d_is_right
  m_is_right : mg "_is_right" = some (.ref a_is_right)
  a_numbers_are_right : Addr
  d_numbers_are_right : FuncData
  F_numbers_are_right : Fun K "_numbers_are_right" "_numbers_are_right" s_numbers_are_right a_numbers_are_right d_numbers_are_right
  m_numbers_are_right : mg "_numbers_are_right" = some (.ref a_numbers_are_right)
  a_replies_are_right : Addr
  d_replies_are_right : FuncData
  F_replies_are_right : Fun K "_replies_are_right" "_replies_are_right" s_replies_are_right a_replies_are_right d_replies_are_right
  m_replies_are_right : mg "_replies_are_right" = some (.ref a_replies_are_right)
  a_law_replies_right : Addr
  d_law_replies_right : FuncData
  F_law_replies_right : Fun K "_law_replies_right" "_law_replies_right" s_law_replies_right a_law_replies_right d_law_replies_right
  m_law_replies_right : mg "_law_replies_right" = some (.ref a_law_replies_right)
  a_law_stay_right : Addr
  d_law_stay_right : FuncData
  F_law_stay_right : Fun K "_law_stay_right" "_law_stay_right" s_law_stay_right a_law_stay_right d_law_stay_right
  m_law_stay_right : mg "_law_stay_right" = some (.ref a_law_stay_right)
  a_law_draws : Addr
  d_law_draws : FuncData
  F_law_draws : Fun K "_law_draws" "_law_draws" s_law_draws a_law_draws d_law_draws
  m_law_draws : mg "_law_draws" = some (.ref a_law_draws)
  a_law_take : Addr
  d_law_take : FuncData
  F_law_take : Fun K "_law_take" "_law_take" s_law_take a_law_take d_law_take
  m_law_take : mg "_law_take" = some (.ref a_law_take)
  a_law_options : Addr
  d_law_options : FuncData
  F_law_options : Fun K "_law_options" "_law_options" s_law_options a_law_options d_law_options
  m_law_options : mg "_law_options" = some (.ref a_law_options)
  a_law_distinct : Addr
  d_law_distinct : FuncData
  F_law_distinct : Fun K "_law_distinct" "_law_distinct" s_law_distinct a_law_distinct d_law_distinct
  m_law_distinct : mg "_law_distinct" = some (.ref a_law_distinct)
  a_law_arena : Addr
  d_law_arena : FuncData
  F_law_arena : Fun K "_law_arena" "_law_arena" s_law_arena a_law_arena d_law_arena
  m_law_arena : mg "_law_arena" = some (.ref a_law_arena)
  a_law_some : Addr
  d_law_some : FuncData
  F_law_some : Fun K "_law_some" "_law_some" s_law_some a_law_some d_law_some
  m_law_some : mg "_law_some" = some (.ref a_law_some)
  a_law_stay_ranks : Addr
  d_law_stay_ranks : FuncData
  F_law_stay_ranks : Fun K "_law_stay_ranks" "_law_stay_ranks" s_law_stay_ranks a_law_stay_ranks d_law_stay_ranks
  m_law_stay_ranks : mg "_law_stay_ranks" = some (.ref a_law_stay_ranks)
  a_law_stay_paper : Addr
  d_law_stay_paper : FuncData
  F_law_stay_paper : Fun K "_law_stay_paper" "_law_stay_paper" s_law_stay_paper a_law_stay_paper d_law_stay_paper
  m_law_stay_paper : mg "_law_stay_paper" = some (.ref a_law_stay_paper)
  a_law_changed : Addr
  d_law_changed : FuncData
  F_law_changed : Fun K "_law_changed" "_law_changed" s_law_changed a_law_changed d_law_changed
  m_law_changed : mg "_law_changed" = some (.ref a_law_changed)
  a_law_spoilt : Addr
  d_law_spoilt : FuncData
  F_law_spoilt : Fun K "_law_spoilt" "_law_spoilt" s_law_spoilt a_law_spoilt d_law_spoilt
  m_law_spoilt : mg "_law_spoilt" = some (.ref a_law_spoilt)
  a_law_taken : Addr
  d_law_taken : FuncData
  F_law_taken : Fun K "_law_taken" "_law_taken" s_law_taken a_law_taken d_law_taken
  m_law_taken : mg "_law_taken" = some (.ref a_law_taken)
  alaw : Addr
  dlaw : FuncData
  Flaw : Fun K "law" "law" slaw alaw dlaw
  mlaw : mg "law" = some (.ref alaw)
  aFitting___init__ : Addr
  dFitting___init__ : FuncData
  FFitting___init__ : Fun K "__init__" "Fitting.__init__" sFitting___init__ aFitting___init__ dFitting___init__
  mFitting___init__ : Meth K C_Fitting "__init__" aFitting___init__
  mk_Fitting : Mk K C_Fitting aFitting___init__
  aFitting_fits : Addr
  dFitting_fits : FuncData
  FFitting_fits : Fun K "fits" "Fitting.fits" sFitting_fits aFitting_fits dFitting_fits
  mFitting_fits : Meth K C_Fitting "fits" aFitting_fits
  aFitting_all_fit : Addr
  dFitting_all_fit : FuncData
  FFitting_all_fit : Fun K "all_fit" "Fitting.all_fit" sFitting_all_fit aFitting_all_fit dFitting_all_fit
  mFitting_all_fit : Meth K C_Fitting "all_fit" aFitting_all_fit
theorem Txt.bhas_option {K : PySem.W.Frag} {mg : Str → Option Value} (T : Txt K mg) : Binds K T.dhas_option Phas_option [] := T.Fhas_option.binds fun _ _ _ _ _ _ us hl => match us, hl with | [_], _ => rfl
theorem Txt.bentries_from {K : PySem.W.Frag} {mg : Str → Option Value} (T : Txt K mg) : Binds K T.dentries_from Pentries_from [] := T.Fentries_from.binds fun _ _ _ _ _ _ us hl => match us, hl with | [_, _, _], _ => rfl
theorem Txt.bjudge {K : PySem.W.Frag} {mg : Str → Option Value} (T : Txt K mg) : Binds K T.djudge Pjudge [] := T.Fjudge.binds fun _ _ _ _ _ _ us hl => match us, hl with | [_, _, _], _ => rfl
theorem Txt.b_is_right {K : PySem.W.Frag} {mg : Str → Option Value} (T : Txt K mg) : Binds K T.d_is_right P_is_right [] := T.F_is_right.binds fun _ _ _ _ _ _ us hl => match us, hl with | [_, _], _ => rfl
theorem Txt.b_numbers_are_right {K : PySem.W.Frag} {mg : Str → Option Value} (T : Txt K mg) : Binds K T.d_numbers_are_right P_numbers_are_right [] := T.F_numbers_are_right.binds fun _ _ _ _ _ _ us hl => match us, hl with | [_, _], _ => rfl
theorem Txt.b_replies_are_right {K : PySem.W.Frag} {mg : Str → Option Value} (T : Txt K mg) : Binds K T.d_replies_are_right P_replies_are_right [] := T.F_replies_are_right.binds fun _ _ _ _ _ _ us hl => match us, hl with | [_, _, _], _ => rfl
theorem Txt.b_law_replies_right {K : PySem.W.Frag} {mg : Str → Option Value} (T : Txt K mg) : Binds K T.d_law_replies_right P_law_replies_right [] := T.F_law_replies_right.binds fun _ _ _ _ _ _ us hl => match us, hl with | [_, _], _ => rfl
theorem Txt.b_law_stay_right {K : PySem.W.Frag} {mg : Str → Option Value} (T : Txt K mg) : Binds K T.d_law_stay_right P_law_stay_right [] := T.F_law_stay_right.binds fun _ _ _ _ _ _ us hl => match us, hl with | [_, _, _, _], _ => rfl
theorem Txt.b_law_draws {K : PySem.W.Frag} {mg : Str → Option Value} (T : Txt K mg) : Binds K T.d_law_draws P_law_draws [] := T.F_law_draws.binds fun _ _ _ _ _ _ us hl => match us, hl with | [_, _], _ => rfl
theorem Txt.b_law_take {K : PySem.W.Frag} {mg : Str → Option Value} (T : Txt K mg) : Binds K T.d_law_take P_law_take [] := T.F_law_take.binds fun _ _ _ _ _ _ us hl => match us, hl with | [_, _], _ => rfl
theorem Txt.b_law_options {K : PySem.W.Frag} {mg : Str → Option Value} (T : Txt K mg) : Binds K T.d_law_options P_law_options [] := T.F_law_options.binds fun _ _ _ _ _ _ us hl => match us, hl with | [_, _, _], _ => rfl
theorem Txt.b_law_distinct {K : PySem.W.Frag} {mg : Str → Option Value} (T : Txt K mg) : Binds K T.d_law_distinct P_law_distinct [] := T.F_law_distinct.binds fun _ _ _ _ _ _ us hl => match us, hl with | [_], _ => rfl
theorem Txt.b_law_arena {K : PySem.W.Frag} {mg : Str → Option Value} (T : Txt K mg) : Binds K T.d_law_arena P_law_arena [] := T.F_law_arena.binds fun _ _ _ _ _ _ us hl => match us, hl with | [_, _], _ => rfl
theorem Txt.b_law_some {K : PySem.W.Frag} {mg : Str → Option Value} (T : Txt K mg) : Binds K T.d_law_some P_law_some [] := T.F_law_some.binds fun _ _ _ _ _ _ us hl => match us, hl with | [_, _, _], _ => rfl
theorem Txt.b_law_stay_ranks {K : PySem.W.Frag} {mg : Str → Option Value} (T : Txt K mg) : Binds K T.d_law_stay_ranks P_law_stay_ranks [] := T.F_law_stay_ranks.binds fun _ _ _ _ _ _ us hl => match us, hl with | [_, _], _ => rfl
theorem Txt.b_law_stay_paper {K : PySem.W.Frag} {mg : Str → Option Value} (T : Txt K mg) : Binds K T.d_law_stay_paper P_law_stay_paper [] := T.F_law_stay_paper.binds fun _ _ _ _ _ _ us hl => match us, hl with | [_, _], _ => rfl
theorem Txt.b_law_changed {K : PySem.W.Frag} {mg : Str → Option Value} (T : Txt K mg) : Binds K T.d_law_changed P_law_changed [] := T.F_law_changed.binds fun _ _ _ _ _ _ us hl => match us, hl with | [_, _, _, _], _ => rfl
theorem Txt.b_law_spoilt {K : PySem.W.Frag} {mg : Str → Option Value} (T : Txt K mg) : Binds K T.d_law_spoilt P_law_spoilt [] := T.F_law_spoilt.binds fun _ _ _ _ _ _ us hl => match us, hl with | [_, _, _], _ => rfl
theorem Txt.b_law_taken {K : PySem.W.Frag} {mg : Str → Option Value} (T : Txt K mg) : Binds K T.d_law_taken P_law_taken [] := T.F_law_taken.binds fun _ _ _ _ _ _ us hl => match us, hl with | [_, _, _], _ => rfl
theorem Txt.blaw {K : PySem.W.Frag} {mg : Str → Option Value} (T : Txt K mg) : Binds K T.dlaw Plaw [] := T.Flaw.binds fun _ _ _ _ _ _ us hl => match us, hl with | [_], _ => rfl
theorem Txt.bFitting___init__ {K : PySem.W.Frag} {mg : Str → Option Value} (T : Txt K mg) : Binds K T.dFitting___init__ PFitting___init__ [] := T.FFitting___init__.binds fun _ _ _ _ _ _ us hl => match us, hl with | [_, _, _, _], _ => rfl
theorem Txt.bFitting_fits {K : PySem.W.Frag} {mg : Str → Option Value} (T : Txt K mg) : Binds K T.dFitting_fits PFitting_fits [] := T.FFitting_fits.binds fun _ _ _ _ _ _ us hl => match us, hl with | [_, _, _, _], _ => rfl
theorem Txt.bFitting_all_fit {K : PySem.W.Frag} {mg : Str → Option Value} (T : Txt K mg) : Binds K T.dFitting_all_fit PFitting_all_fit [] := T.FFitting_all_fit.binds fun _ _ _ _ _ _ us hl => match us, hl with | [_, _, _], _ => rfl
end NL

namespace NL
open PySem PySem.Spec PyProof.Rows L2

/-! ### frames: what stays while the list of draws at d is used up -/
structure Go (d : Addr) (H H' : Hp) : Prop where
  fr : ∀ b o, b ≠ d → H b = some o → H' b = some o
  dr : ∃ ns : List Int, H' d = some (.lst (ns.map V.int))
abbrev Dr (H : Hp) (d : Addr) : Prop := ∃ ns : List Int, H d = some (.lst (ns.map V.int))
theorem Go.refl {d : Addr} {H : Hp} (h : Dr H d) : Go d H H := ⟨fun _ _ _ e => e, h⟩
theorem Go.trans {d : Addr} {H H1 H2 : Hp} (a : Go d H H1) (b : Go d H1 H2) : Go d H H2 := ⟨fun c o n e => b.fr c o n (a.fr c o n e), b.dr⟩
theorem Go.new {d p : Addr} {H : Hp} {o : HO} (h : Dr H d) (hp : H p = none) : Go d H (upd H p o) := by
  obtain ⟨ns, e⟩ := h
  have n : d ≠ p := ne_of_none e hp
  exact ⟨fun b u _ q => by rw [upd_ne (ne_of_none q hp)]; exact q, ⟨ns, by rw [upd_ne n]; exact e⟩⟩
theorem Go.put {d : Addr} {H : Hp} (ns : List Int) : Go d H (upd H d (.lst (ns.map V.int))) := ⟨fun b u n q => by rw [upd_ne n]; exact q, ⟨ns, upd_same⟩⟩
theorem Go.same {d : Addr} {H H' : Hp} (h : Dr H d) (s : Same H H') : Go d H H' := ⟨fun b o _ e => s b o e, by obtain ⟨ns, e⟩ := h; exact ⟨ns, s _ _ e⟩⟩
theorem Go.tup {d a : Addr} {H H' : Hp} {xs : List V} (g : Go d H H') (h : Dr H d) (e : H a = some (.tup xs)) : H' a = some (.tup xs) := by
  refine g.fr a _ ?_ e
  rintro rfl
  obtain ⟨ns, q⟩ := h
  rw [e] at q; cases q
theorem same_new {H : Hp} {p : Addr} (h : H p = none) (o : HO) : Same H (upd H p o) := fun b u q => by rw [upd_ne (ne_of_none q h)]; exact q
/-- all tuples stay -/
def Tp (H H' : Hp) : Prop := ∀ a xs, H a = some (.tup xs) → H' a = some (.tup xs)
theorem Go.tp {d : Addr} {H H' : Hp} (g : Go d H H') (h : Dr H d) : Tp H H' := fun _ _ e => g.tup h e
theorem Tp.same {H H' : Hp} (s : Same H H') : Tp H H' := fun _ _ e => s _ _ e
theorem Tp.trans {H H1 H2 : Hp} (a : Tp H H1) (b : Tp H1 H2) : Tp H H2 := fun x y e => b x y (a x y e)
theorem Tp.refl {H : Hp} : Tp H H := fun _ _ e => e
/-- a list that stays readable whatever is drawn at d -/
def Keep (K : PySem.W.Frag) (d : Addr) (H : Hp) (a : Addr) (xs : List V) : Prop := ∀ H', (∀ b o, b ≠ d → H b = some o → H' b = some o) → SqL K H' a xs
theorem Keep.now {K : PySem.W.Frag} {d a : Addr} {H : Hp} {xs : List V} (k : Keep K d H a xs) : SqL K H a xs := k H fun _ _ _ e => e
theorem Keep.go {K : PySem.W.Frag} {d a : Addr} {H H' : Hp} {xs : List V} (k : Keep K d H a xs) (g : Go d H H') : Keep K d H' a xs := fun H2 f => k H2 fun b o n e => f b o n (g.fr b o n e)
theorem Keep.of {K : PySem.W.Frag} {d a : Addr} {H : Hp} {xs : List V} (n : a ≠ d) (h : H a = some (.lst xs)) : Keep K d H a xs := fun H' f => .inl (.inl (f a _ n h))
/-- what was read ahead of the draws' list stays -/
theorem Keep.old {K : PySem.W.Frag} {d a : Addr} {H0 H : Hp} {xs : List V} (h : SqL K H0 a xs) (hd : H0 d = none) (f : ∀ b o, H0 b = some o → H b = some o) : Keep K d H a xs := fun H' g => by
  rcases h with (h | ⟨o, h⟩) | h
  · exact .inl (.inl (g a _ (ne_of_none h hd) (f _ _ h)))
  · exact .inl (.inr ⟨o, g a _ (ne_of_none h hd) (f _ _ h)⟩)
  · exact .inr h

/-! ### rules whose written part is named (in a comprehension) -/
theorem ix_tupK {X : Cx} {K : PySem.W.Frag} (h : X.K = K) : IxR X (rIxT K) := by subst h; exact ix_tup
theorem ix_listK {X : Cx} {K : PySem.W.Frag} (h : X.K = K) : IxR X (rIxL K) := by subst h; exact ix_list
def rTupOf (K : PySem.W.Frag) : List V → Hp → VK → Prop := fun xs H Q => ∃ p ys, xs = [.ref p] ∧ ((SqL K H p ys ∧ ∀ l, H l = none → Q (.ref l) (upd H l (.tup ys))) ∨ (SqT K H p ys ∧ Q (.ref p) H))
theorem call_tuple_ofK {X : Cx} {K : PySem.W.Frag} (h : X.K = K) : CallR X (.type "tuple") (rTupOf K) := by subst h; exact call_tuple_of
/-! ### texts and words -/
/-- signs a to z alone -/
def Wd (z : Str) : Prop := ∀ c ∈ z.cps.toList, 97 ≤ c ∧ c ≤ 122
instance (z : Str) : Decidable (Wd z) := by unfold Wd; infer_instance
def res : List Str := ["true", "false", "add", "sub", "mul", "div", "mod", "min", "max", "abs", "if", "less", "equal", "not", "all", "any"]
theorem app_list (a b : Str) : (a ++ b).cps.toList = a.cps.toList ++ b.cps.toList := by
  show (a.cps ++ b.cps).toList = _
  simp
theorem len_list (a : Str) : a.length = a.cps.toList.length := by
  show a.cps.size = _
  simp
theorem len_app (a b : Str) : (a ++ b).length = a.length + b.length := by
  rw [len_list, app_list, List.length_append, ← len_list, ← len_list]
theorem str_ext {a b : Str} (h : a.cps.toList = b.cps.toList) : a = b := by
  cases a with | mk x => cases b with | mk y =>
  have : x = y := Array.toList_inj.mp h
  rw [this]
theorem Wd.app {a b : Str} (ha : Wd a) (hb : Wd b) : Wd (a ++ b) := fun c hc => by
  rw [app_list] at hc
  rcases List.mem_append.mp hc with h | h
  · exact ha c h
  · exact hb c h
structure Nam (z : Str) : Prop where
  wd : Wd z
  len : 0 < z.length ∧ z.length ≤ 200
  nr : z ∉ res
structure Nm (z : Str) : Prop where
  wd : Wd z
  len : 0 < z.length ∧ z.length ≤ 150

/-! ### lists at an index -/
theorem atI_mem {α : Type} {xs : List α} {i : Int} (h0 : 0 ≤ i) (h1 : i < xs.length) : ∃ v, atI xs i = some v ∧ v ∈ xs := by
  have hk : i.toNat < xs.length := by omega
  have ek : i = ((i.toNat : Nat) : Int) := by omega
  have q : atI xs ((i.toNat : Nat) : Int) = some xs[i.toNat] := atI_nat (List.getElem?_eq_getElem hk)
  rw [← ek] at q
  exact ⟨_, q, List.getElem_mem hk⟩
theorem atI_map {α β : Type} {f : α → β} {xs : List α} {i : Int} (h0 : 0 ≤ i) (h1 : i < xs.length) : ∃ v, atI (xs.map f) i = some (f v) ∧ v ∈ xs := by
  obtain ⟨v, h, m⟩ := atI_mem (xs := xs.map f) h0 (by rw [List.length_map]; exact h1)
  obtain ⟨u, hu, rfl⟩ := List.mem_map.mp m
  exact ⟨u, h, hu⟩
theorem sqd {K : PySem.W.Frag} {H : Hp} {a : Addr} {xs : List V} (h : H a = some (.lst xs)) : SqL K H a xs := .inl (.inl h)
theorem sqt {K : PySem.W.Frag} {H : Hp} {a : Addr} {xs : List V} (h : H a = some (.tup xs)) : SqT K H a xs := .inl (.inl h)
theorem int_eq {i j : Int} (h : decide (V.int i = V.int j) = true) : i = j := V.int.inj (of_decide_eq_true h)
theorem int_ne {i j : Int} (h : ¬ decide (V.int i = V.int j) = true) : i ≠ j := fun e => h (decide_eq_true (by rw [e]))
section
variable {P : Program} {w : World} {K : PySem.W.Frag} {mg : Str → Option Value} {base : Heap}
/-! ### _law_take -/
def spTake : Sp := fun vs H Q _ => ∃ (d : Addr) (m : Int), vs = [.ref d, .int m] ∧ Dr H d ∧ 0 < m ∧ ∀ r H', Go d H H' → 0 ≤ r → r < m → Q (.int r) H'
theorem ok_law_take (T : Txt K mg) : FnOk P w K mg base CX0 1 T.a_law_take T.d_law_take P_law_take spTake := by
  refine T.F_law_take.ok sc_law_take (fun vs H Q E h => ?_) (fun cdv A outer s H vs Q E hr h => ?_)
  · obtain ⟨d, m, rfl, _⟩ := h
    rfl
  obtain ⟨d, m, rfl, hD, hm, q⟩ := h
  refine ⟨_, (pss_cons (ps_if (pt_cmpR op_eq (pe_callB call_len_seq (by rfl) T.z_len PySem.boot_len (pa_cons (pv 0) pa_nil)) pe_int (nomark _))
    (pss_one (ps_ret pe_int))
    pss_nil)
    (pss_one (ps_ret (pe_op op_mod (pe_callTy call_int1 (by rfl) T.z_int (by decide +kernel) (pa_cons (pe_bm0 PySem.F.plainAttrs_list PySem.F.slot_list_pop PySem.F.type_list_pop mt_pop (pv 0)) pa_nil)) (pv 1))))), ?_⟩
  obtain ⟨ns, hd⟩ := hD
  refine ⟨_, rfl, _, _, rfl, .inl (sqd hd), rfl, _, rfl, ?_⟩
  refine ite2 (fun c => ?_) (fun c => ?_)
  · exact q 0 H (Go.refl ⟨ns, hd⟩) (Int.le_refl 0) hm
  · have hn := int_ne c
    rw [List.length_map] at hn
    have hz : ns ≠ [] := by
      rintro rfl
      exact hn rfl
    have hl : 0 < ns.length := List.length_pos_iff.mpr hz
    have he : (ns.map V.int)[(ns.map V.int).length - 1]? = some (.int ns[ns.length - 1]) := by
      rw [List.length_map, List.getElem?_map, List.getElem?_eq_getElem (by omega)]
      rfl
    refine ⟨_, rfl, .inl ⟨rfl, _, sqd hd⟩, _, _, _, rfl, rfl, hd, he, .inl ⟨_, rfl, ?_⟩⟩
    refine ⟨_, rfl, _, _, rfl, rfl, hm, ?_⟩
    refine q _ _ ?_ (Int.emod_nonneg _ (by omega)) (Int.emod_lt_of_pos _ hm)
    rw [← List.map_dropLast]
    exact Go.put _
end
end NL

namespace NL
open PySem PySem.Spec PyProof.Rows L2
theorem yes_if {σ : L2.St} {H : Hp} {a n : Hp → Prop} (h : a H) : tYes σ H (fun b H3 => if b = true then a H3 else n H3) := by
  show (if true = true then a H else n H)
  rw [if_pos rfl]
  exact h
/-- one reading for two ways -/
theorem cutP {B C : Prop} (f : B → C) (b : B) : C := f b
theorem ifT {c : Bool} {A B : Prop} (h : c = true) (a : A) : if c = true then A else B := by
  rw [if_pos h]; exact a
theorem ifF {c : Bool} {A B : Prop} (h : c = false) (b : B) : if c = true then A else B := by
  rw [if_neg (by rw [h]; exact Bool.false_ne_true)]; exact b
theorem atI0 {α : Type} {x : α} {r : List α} : atI (x :: r) 0 = some x := atI_nat (j := 0) rfl
theorem atI1 {α : Type} {x y : α} {r : List α} : atI (x :: y :: r) 1 = some y := atI_nat (j := 1) rfl
theorem boolE {Q : VK} {b b' : Bool} {H : Hp} (h : b = b') (q : Q (.bl b') H) : Q (.bl b) H := by rw [h]; exact q
theorem big {n : Nat} (h : n ≤ 1000000) : n ≤ sizeLine := Nat.le_trans h (by decide)
theorem big' {n : Nat} (h : n ≤ 1000000) : n < sizeLine := Nat.lt_of_le_of_lt h (by decide)
theorem int_in {x : Int} {l : List Int} : inV (.int x) (l.map V.int) = decide (x ∈ l) := by
  unfold inV
  rw [List.any_map]
  induction l with
  | nil => rfl
  | cons a r ih =>
    rw [List.any_cons, ih]
    show (eqV (.int a) (.int x) || _) = _
    have e : eqV (.int a) (.int x) = decide (x = a) := by
      show (a == x) = _
      rw [Bool.beq_eq_decide_eq]
      exact decide_eq_decide.mpr ⟨fun h => h.symm, fun h => h.symm⟩
    rw [e, ← Bool.decide_or]
    exact decide_eq_decide.mpr List.mem_cons.symm
theorem flat_ints' (l : List Int) : (l.map V.int).all flatV = true := by
  induction l with
  | nil => rfl
  | cons a r ih => rw [List.map_cons, List.all_cons, ih]; rfl
theorem notIn_int {x : Int} {l : List Int} : (if true = true then !inV (V.int x) (l.map V.int) else inV (V.int x) (l.map V.int)) = !decide (x ∈ l) := by
  rw [if_pos rfl, int_in]
def rLenK (K : PySem.W.Frag) : List V → Hp → VK → Prop := fun xs H Q => ∃ p ys, xs = [.ref p] ∧ (SqL K H p ys ∨ SqT K H p ys) ∧ Q (.int (ys.length : Nat)) H
theorem call_len_seqK {X : Cx} {K : PySem.W.Frag} (h : X.K = K) : CallR X (.builtin "len") (rLenK K) := by
  subst h
  exact call_len_seq
end NL

namespace NL
open PySem PySem.Spec PyProof.Rows L2
theorem ixN_in {n : Nat} {k : Int} (h0 : 0 ≤ k) (h1 : k < n) : ixN n k = some k.toNat := by
  unfold ixN
  rw [if_pos h0, if_pos h1]
/-- a change at what was not there before -/
theorem same_put {H H' : Hp} {p : Addr} {o : HO} (s : Same H H') (hp : H p = none) : Same H (upd H' p o) := fun b u e => by
  rw [upd_ne (ne_of_none e hp)]
  exact s b u e
section
variable {P : Program} {w : World} {K : PySem.W.Frag} {mg : Str → Option Value} {base : Heap}
def spDraws (K : PySem.W.Frag) : Sp := fun vs H Q _ => ∃ (a : Addr) (ns : List Int) (m : Int), vs = [.ref a, .int m] ∧ SqL K H a (ns.map V.int) ∧ ns.length ≤ 63 ∧ 0 ≤ m ∧ m ≤ 10000 ∧
  ∀ d H', Same H H' → H d = none → Dr H' d → Q (.ref d) H'
theorem ok_law_draws (T : Txt K mg) : FnOk P w K mg base CX0 1 T.a_law_draws T.d_law_draws P_law_draws (spDraws K) := by
  refine T.F_law_draws.ok sc_law_draws (fun vs H Q E h => ?_) (fun cdv A outer s H vs Q E hr h => ?_)
  · obtain ⟨a, ns, m, rfl, _⟩ := h
    rfl
  obtain ⟨a, ns, m, rfl, hS, hl, m0, m1, q⟩ := h
  refine ⟨_, (pss_cons (ps_setLc (i := 2) (own := [("cell", 3)]) (g := (gName 3)) (tt := tYes) rfl sc_law_draws.nd rfl rfl (sw_true rfl rfl rfl (by decide +kernel)) (pi_list (pv 0)) (blkOk_by (N := N_law_draws) (sc := defScope s_law_draws) (by decide +kernel)) (fun _ _ _ _ _ => (pg_name (i := 3) sc_law_draws.nd rfl (Or.inl rfl))) (fun _ _ _ _ _ => pts_nil) (fun _ _ _ _ _ => (pe_callTy call_int1 (by rfl) T.z_int (by decide +kernel) (pa_cons (pv 3) pa_nil))))
    (C8.pss_cut (ps_if (pt_cmpR op_eq (pe_callB call_len_seq (by rfl) T.z_len PySem.boot_len (pa_cons (pv 2) pa_nil)) pe_int (nomark _))
    (pss_one (ps_expr (pe_bm PySem.F.plainAttrs_list PySem.F.slot_list_append PySem.F.type_list_append mt_append (pv 2) (pa_cons pe_int pa_nil))))
    pss_nil)
    (pss_cons (ps_set (i := 4) sc_law_draws.nd rfl (Or.inl rfl) (pe_callTy call_list_of (by rfl) T.z_list (by decide +kernel) (pa_cons (pv 2) pa_nil)))
    (pss_cons (ps_set (i := 5) sc_law_draws.nd rfl (Or.inl rfl) (pe_lst pa_nil))
    (pss_cons (ps_for  PassesOwn.never rfl (pi_range1 (by rfl) T.z_range (pa_cons (pv 1) pa_nil)) (pg_name (i := 6) sc_law_draws.nd rfl (Or.inl rfl))
    (pss_cons (ps_set (i := 7) sc_law_draws.nd rfl (Or.inl rfl) (pe_op op_mod (pv 6) (pe_callB call_len_seq (by rfl) T.z_len PySem.boot_len (pa_cons (pv 2) pa_nil))))
    (pss_one (ps_if (pt_cmpR op_ge (pe_ix ix_list (pv 2) (pv 7) (fun _ _ => rfl)) (pe_op op_pow pe_int pe_int) (nomark _))
    (pss_cons (ps_expr (pe_bm PySem.F.plainAttrs_list PySem.F.slot_list_append PySem.F.type_list_append mt_append (pv 5) (pa_cons (pe_op op_mod (pe_callTy call_int1 (by rfl) T.z_int (by decide +kernel) (pa_cons (pe_ix ix_list (pv 4) (pv 7) (fun _ _ => rfl)) pa_nil)) pe_int) pa_nil)))
    (pss_one (ps_asg (pe_op op_fdiv (pe_ix ix_list (pv 4) (pv 7) (fun _ _ => rfl)) pe_int) (pg_sub (pv 4) (pv 7) set_list))))
    (pss_cons (ps_set (i := 8) sc_law_draws.nd rfl (Or.inl rfl) (pe_op op_mod (pe_callTy call_int1 (by rfl) T.z_int (by decide +kernel) (pa_cons (pe_op op_add (pe_op op_add (pe_op op_mul (pe_ix ix_list (pv 2) (pv 7) (fun _ _ => rfl)) pe_int) (pe_op op_mul (pv 6) pe_int)) pe_int) pa_nil)) pe_int))
    (pss_one (ps_expr (pe_bm PySem.F.plainAttrs_list PySem.F.slot_list_append PySem.F.type_list_append mt_append (pv 5) (pa_cons (pe_op op_mod (pe_callTy call_int1 (by rfl) T.z_int (by decide +kernel) (pa_cons (pe_op op_add (pe_op op_add (pe_op op_mul (pv 8) (pv 8)) (pe_op op_mul pe_int (pv 8))) (pv 6)) pa_nil)) pe_int) pa_nil)))))))))
    (pss_cons (ps_expr (pe_bm0 PySem.F.plainAttrs_list PySem.F.slot_list_reverse PySem.F.type_list_reverse mt_reverse (pv 5)))
    (pss_one (ps_ret (pv 5))))))))), ?_⟩
  -- cells
  refine ⟨_, rfl, a, rfl, ⟨_, hS⟩, fun c hc => ?_⟩
  refine lc_list (K := K) (a := a) (xs := ns.map V.int) (fun (j : Nat) (H' : Hp) => Same H H' ∧ H' c = some (.lst ((ns.take j).map V.int))) ?_ ?_ ?_ ?_
  · exact ⟨same_new hc _, by rw [upd_same, List.take_zero]; rfl⟩
  · rintro i H' _ ⟨s1, _⟩
    exact s1.seq hS
  · rintro i x H' hx ⟨s1, e1⟩
    rw [List.getElem?_map] at hx
    cases hn : ns[i]? with
    | none => rw [hn] at hx; cases hx
    | some n =>
      rw [hn] at hx
      obtain rfl : V.int n = x := Option.some.inj hx
      refine ⟨rfl, yes_if ?_⟩
      refine ⟨_, rfl, .inl ⟨n, rfl, _, e1, ?_, same_put s1 hc, ?_⟩⟩
      · rw [List.length_map, List.length_take]
        exact big' (by omega)
      · rw [upd_same, List.take_add_one, hn, List.map_append]
        rfl
  · rintro H1 ⟨s1, e1⟩
    rw [List.length_map, List.take_length] at e1
    -- at least one cell
    refine ⟨fun σ H2 => ∃ cs : List Int, cs ≠ [] ∧ cs.length ≤ 63 ∧ σ = [some (.ref a), some (.int m), some (.ref c), none, none, none, none, none, none] ∧ Same H H2 ∧ H2 c = some (.lst (cs.map V.int)), ?_, ?_⟩
    · refine ⟨_, rfl, _, _, rfl, .inl (sqd e1), rfl, _, rfl, ?_⟩
      refine ite2 (fun z => ?_) (fun z => ?_)
      · refine ⟨_, rfl, .inl ⟨rfl, _, sqd e1⟩, c, _, _, rfl, rfl, e1, ?_, ?_⟩
        · rw [List.length_map]
          exact big' (by omega)
        · have hz := int_eq z
          rw [List.length_map] at hz
          have : ns = [] := List.length_eq_zero_iff.mp (by omega)
          subst this
          exact ⟨[0], by simp, by decide, rfl, same_put s1 hc, upd_same⟩
      · have hz := int_ne z
        rw [List.length_map] at hz
        refine ⟨ns, ?_, hl, rfl, s1, e1⟩
        rintro rfl
        exact hz rfl
    · rintro σ H2 ⟨cs, hcs, hcl, rfl, s2, e2⟩
      have hpos : 0 < cs.length := List.length_pos_iff.mpr hcs
      -- rest, draws
      refine ⟨_, rfl, _, _, rfl, .inl (sqd e2), fun r hr2 => ?_⟩
      have ncr : c ≠ r := ne_of_none e2 hr2
      refine ⟨(Nat.le_of_ble_eq_true rfl), fun d hd => ?_⟩
      have ncd : c ≠ d := ne_of_none (by rw [upd_ne ncr]; exact e2) hd
      have nrd : r ≠ d := ne_of_none upd_same hd
      have hHr : H r = none := s2.free hr2
      have hHd : H d = none := (s2.trans (same_new hr2 _)).free hd
      refine ⟨_, rfl, m, rfl, by omega, by omega, for_range (lo := 0) (n := m.toNat) (fun (j : Nat) (σ : L2.St) (H' : Hp) => ∃ (rs ds : List Int) (y1 y2 y3 : Option V), σ = [some (.ref a), some (.int m), some (.ref c), none, some (.ref r), some (.ref d), y1, y2, y3] ∧ Same H H' ∧ H' c = some (.lst (cs.map V.int)) ∧ H' r = some (.lst (rs.map V.int)) ∧ rs.length = cs.length ∧ H' d = some (.lst (ds.map V.int)) ∧ ds.length ≤ j) ?_ ?_ ?_⟩
      · refine ⟨cs, [], none, none, none, rfl, (s2.trans (same_new hr2 _)).trans (same_new hd _), ?_, ?_, rfl, upd_same, Nat.le_refl _⟩
        · rw [upd_ne ncd, upd_ne ncr]; exact e2
        · rw [upd_ne nrd]; exact upd_same
      · rintro j σ H' hj ⟨rs, ds, y1, y2, y3, rfl, s3, ec, er, hrl, ed, hdl⟩
        have b0 := Int.emod_nonneg ((0 : Int) + (j : Int)) (show (((cs.map V.int).length : Nat) : Int) ≠ 0 by rw [List.length_map]; omega)
        have b1 : (((0 : Int) + (j : Int)) % (((cs.map V.int).length : Nat) : Int)) < (cs.length : Int) := by
          have h := Int.emod_lt_of_pos ((0 : Int) + (j : Int)) (show 0 < (((cs.map V.int).length : Nat) : Int) by rw [List.length_map]; omega)
          rw [List.length_map] at h ⊢
          exact h
        refine ⟨_, rfl, _, rfl, _, _, rfl, .inl (sqd ec), _, _, rfl, rfl, (by show 0 < (((cs.map V.int).length : Nat) : Int); rw [List.length_map]; omega), ?_⟩
        obtain ⟨cv, hcv, _⟩ := atI_map (f := V.int) (xs := cs) b0 b1
        obtain ⟨rv, hrv, _⟩ := atI_map (f := V.int) (xs := rs) b0 (by omega)
        refine ⟨_, rfl, _, rfl, _, _, _, _, rfl, rfl, sqd ec, hcv, _, _, rfl, rfl, ⟨by decide, by decide, by decide⟩, _, _, rfl, rfl, _, rfl, ?_⟩
        refine ite2 (fun z => ?_) (fun z => ?_)
        · refine ⟨_, rfl, .inl ⟨rfl, _, sqd ed⟩, _, rfl, _, rfl, _, _, _, _, rfl, rfl, sqd er, hrv, .inl ⟨_, rfl, _, _, rfl, rfl, (by show (0 : Int) < 1000; decide), d, _, _, rfl, rfl, ed, ?_, ?_⟩⟩
          · rw [List.length_map]
            exact big' (by omega)
          · have er2 : ∀ o, (upd H' d o) r = some (.lst (rs.map V.int)) := fun o => by rw [upd_ne nrd]; exact er
            refine ⟨_, rfl, _, rfl, _, _, _, _, rfl, rfl, sqd (er2 _), hrv, _, _, rfl, rfl, ⟨by decide, by decide⟩, _, rfl, _, rfl, r, _, _, _, rfl, rfl, er2 _, ixN_in b0 (by have h : (rs.map V.int).length = rs.length := List.length_map _; omega), ?_⟩
            refine ⟨rs.set (((0 : Int) + (j : Int)) % (((cs.map V.int).length : Nat) : Int)).toNat (rv / 1000), ds ++ [rv % 1000], _, _, _, rfl, same_put (same_put s3 hHd) hHr, ?_, ?_, ?_, ?_, ?_⟩
            · rw [upd_ne ncr, upd_ne ncd]; exact ec
            · rw [upd_same, List.map_set]
            · rw [List.length_set]; exact hrl
            · rw [upd_ne nrd.symm, upd_same, List.map_append]; rfl
            · rw [List.length_append, List.length_singleton]; omega
        · have o0 := fun z : Int => Int.emod_nonneg z (by decide : (2147483647 : Int) ≠ 0)
          have o1 := fun z : Int => Int.emod_lt_of_pos z (by decide : (0 : Int) < 2147483647)
          refine ⟨_, rfl, _, rfl, _, _, _, _, rfl, rfl, sqd ec, hcv, _, _, rfl, rfl, .inr ⟨by decide, by decide⟩, _, rfl, _, _, rfl, rfl, .inr ⟨by decide, by decide⟩, _, _, rfl, rfl, _, _, rfl, rfl, .inl ⟨_, rfl, _, _, rfl, rfl, (by show (0 : Int) < 2147483647; decide), ?_⟩⟩
          refine ⟨_, rfl, .inl ⟨rfl, _, sqd ed⟩, _, rfl, _, rfl, _, _, rfl, rfl, ?_, ?_⟩
          · left
            have h1 := o0 (cv * 48271 + (0 + (j : Int)) * 69621 + 11)
            have h2 := o1 (cv * 48271 + (0 + (j : Int)) * 69621 + 11)
            constructor
            · show -(2 ^ 64) < _
              omega
            · show _ < 2 ^ 64
              omega
          · refine ⟨_, rfl, _, _, rfl, rfl, .inl ⟨by decide, by decide⟩, _, _, rfl, rfl, _, rfl, _, _, rfl, rfl, .inl ⟨_, rfl, _, _, rfl, rfl, (by show (0 : Int) < 1000003; decide), d, _, _, rfl, rfl, ed, ?_, ?_⟩⟩
            · rw [List.length_map]
              exact big' (by omega)
            · refine ⟨rs, ds ++ [(((cv * 48271 + (0 + (j : Int)) * 69621 + 11) % 2147483647) * ((cv * 48271 + (0 + (j : Int)) * 69621 + 11) % 2147483647) + 3 * ((cv * 48271 + (0 + (j : Int)) * 69621 + 11) % 2147483647) + (0 + (j : Int))) % 1000003], _, _, _, rfl, same_put s3 hHd, ?_, ?_, hrl, ?_, ?_⟩
              · rw [upd_ne ncd]; exact ec
              · rw [upd_ne nrd]; exact er
              · rw [upd_same, List.map_append]; rfl
              · rw [List.length_append, List.length_singleton]; omega
      · rintro σ H' ⟨rs, ds, y1, y2, y3, rfl, s3, ec, er, hrl, ed, hdl⟩
        refine ⟨_, rfl, .inl ⟨rfl, _, sqd ed⟩, d, _, rfl, rfl, ed, ?_⟩
        refine ⟨_, rfl, q d _ (same_put s3 hHd) hHd ⟨ds.reverse, ?_⟩⟩
        rw [upd_same, List.map_reverse]
end
end NL

namespace NL
open PySem PySem.Spec PyProof.Rows L2
/-! ### rows and what stands in them -/
def Each {α : Type} (R : α → V → Prop) (l : List α) (xs : List V) : Prop := xs.length = l.length ∧ ∀ (k : Nat) a x, l[k]? = some a → xs[k]? = some x → R a x
theorem Each.nil {α : Type} {R : α → V → Prop} : Each R [] [] := ⟨rfl, fun k a x h => by simp at h⟩
theorem Each.mono {α : Type} {R S : α → V → Prop} {l : List α} {xs : List V} (h : Each R l xs) (f : ∀ a x, R a x → S a x) : Each S l xs := ⟨h.1, fun k a x e g => f a x (h.2 k a x e g)⟩
theorem Each.cons {α : Type} {R : α → V → Prop} {l : List α} {xs : List V} {a : α} {x : V} (r : R a x) (h : Each R l xs) : Each R (a :: l) (x :: xs) := ⟨by rw [List.length_cons, List.length_cons, h.1], fun k b y e g => by
  cases k with
  | zero => cases e; cases g; exact r
  | succ k => exact h.2 k b y e g⟩
theorem Each.app {α : Type} {R : α → V → Prop} {l m : List α} {xs ys : List V} (h : Each R l xs) (g : Each R m ys) : Each R (l ++ m) (xs ++ ys) := by
  refine ⟨by rw [List.length_append, List.length_append, h.1, g.1], fun k r x e f => ?_⟩
  by_cases hk : k < l.length
  · rw [List.getElem?_append_left hk] at e
    rw [List.getElem?_append_left (by rw [h.1]; exact hk)] at f
    exact h.2 k r x e f
  · rw [List.getElem?_append_right (by omega)] at e
    rw [List.getElem?_append_right (by rw [h.1]; omega), h.1] at f
    exact g.2 _ r x e f
theorem Each.snoc {α : Type} {R : α → V → Prop} {l : List α} {xs : List V} {a : α} {x : V} (h : Each R l xs) (r : R a x) : Each R (l ++ [a]) (xs ++ [x]) := h.app (.cons r .nil)
theorem Each.take {α : Type} {R : α → V → Prop} {l : List α} {xs : List V} (h : Each R l xs) (n : Nat) : Each R (l.take n) (xs.take n) := ⟨by rw [List.length_take, List.length_take, h.1], fun k a x e g => by
  rw [List.getElem?_take] at e g
  split at e
  · rename_i hk
    rw [if_pos hk] at g
    exact h.2 k a x e g
  · cases e⟩
theorem Each.drop {α : Type} {R : α → V → Prop} {l : List α} {xs : List V} (h : Each R l xs) (n : Nat) : Each R (l.drop n) (xs.drop n) := ⟨by rw [List.length_drop, List.length_drop, h.1], fun k a x e g => by
  rw [List.getElem?_drop] at e g
  exact h.2 _ a x e g⟩
theorem Each.set {α : Type} {R : α → V → Prop} {l : List α} {xs : List V} {a : α} {x : V} (h : Each R l xs) (n : Nat) (r : R a x) : Each R (l.set n a) (xs.set n x) := ⟨by rw [List.length_set, List.length_set, h.1], fun k b y e g => by
  rw [List.getElem?_set] at e g
  by_cases hk : n = k
  · rw [if_pos hk] at e g
    by_cases hl : n < l.length
    · rw [if_pos hl] at e
      rw [if_pos (by rw [h.1]; exact hl)] at g
      cases e; cases g; exact r
    · rw [if_neg hl] at e
      cases e
  · rw [if_neg hk] at e g
    exact h.2 k b y e g⟩
theorem Each.at {α : Type} {R : α → V → Prop} {l : List α} {xs : List V} {a : α} {k : Nat} (h : Each R l xs) (e : l[k]? = some a) : ∃ x, xs[k]? = some x ∧ R a x := by
  have hk : k < xs.length := by
    rw [h.1]
    exact (List.getElem?_eq_some_iff.mp e).1
  exact ⟨_, List.getElem?_eq_getElem hk, h.2 k a _ e (List.getElem?_eq_getElem hk)⟩
theorem Each.atI {α : Type} {R : α → V → Prop} {l : List α} {xs : List V} {i : Int} (h : Each R l xs) (h0 : 0 ≤ i) (h1 : i < l.length) : ∃ a x, l[i.toNat]? = some a ∧ atI xs i = some x ∧ R a x := by
  have hk : i.toNat < l.length := by omega
  obtain ⟨x, hx, r⟩ := h.at (List.getElem?_eq_getElem hk)
  have q : L2.atI xs ((i.toNat : Nat) : Int) = some x := atI_nat hx
  rw [show ((i.toNat : Nat) : Int) = i by omega] at q
  exact ⟨_, x, List.getElem?_eq_getElem hk, q, r⟩
/-! ### options, positions, arenas -/
abbrev Opt := List Int
abbrev Pos' := List Opt
abbrev Ar := List Pos'
def OptIn (H : Hp) (o : Opt) (v : V) : Prop := ∃ b, v = .ref b ∧ H b = some (.tup (o.map V.int))
def PosIn (H : Hp) (os : Pos') (v : V) : Prop := ∃ b xs, v = .ref b ∧ H b = some (.tup xs) ∧ Each (OptIn H) os xs
def ArIn (H : Hp) (A : Ar) (v : V) : Prop := ∃ b xs, v = .ref b ∧ H b = some (.tup xs) ∧ Each (PosIn H) A xs
theorem OptIn.tp {H H' : Hp} {o : Opt} {v : V} (t : Tp H H') (h : OptIn H o v) : OptIn H' o v := by
  obtain ⟨b, e, q⟩ := h
  exact ⟨b, e, t _ _ q⟩
theorem PosIn.tp {H H' : Hp} {o : Pos'} {v : V} (t : Tp H H') (h : PosIn H o v) : PosIn H' o v := by
  obtain ⟨b, xs, e, q, r⟩ := h
  exact ⟨b, xs, e, t _ _ q, r.mono fun a x => OptIn.tp t⟩
theorem ArIn.tp {H H' : Hp} {o : Ar} {v : V} (t : Tp H H') (h : ArIn H o v) : ArIn H' o v := by
  obtain ⟨b, xs, e, q, r⟩ := h
  exact ⟨b, xs, e, t _ _ q, r.mono fun a x => PosIn.tp t⟩
/-- an option of an arena with n positions -/
structure OptG (n : Int) (o : Opt) : Prop where
  ne : o ≠ []
  len : o.length ≤ 60
  mem : ∀ s ∈ o, -1 ≤ s ∧ s < n
  asc : o.Pairwise (· < ·)
def PosG (n : Int) (os : Pos') : Prop := os.length ≤ 12 ∧ ∀ o ∈ os, OptG n o
def ArG (A : Ar) : Prop := A.length ≤ 400 ∧ ∀ os ∈ A, PosG A.length os
theorem OptG.one {n s : Int} (h0 : -1 ≤ s) (h1 : s < n) : OptG n [s] := ⟨by simp, by simp, fun t ht => by rw [List.mem_singleton.mp ht]; exact ⟨h0, h1⟩, List.pairwise_singleton _ _⟩
theorem asc_of {l m : List Int} (h : l.Perm m) (hm : m.Nodup) (hp : l.Pairwise (· ≤ ·)) : l.Pairwise (· < ·) := by
  have hn : l.Nodup := h.nodup_iff.mpr hm
  refine (hp.and hn).imp fun {a b} h => ?_
  obtain ⟨h1, h2⟩ := h
  omega
theorem tp_put {H H' : Hp} {p : Addr} {o : List V} {o' : HO} (t : Tp H H') (h : H' p = some (.lst o)) : Tp H (upd H' p o') := fun a xs e => by
  have n : a ≠ p := fun q => by
    have := t a xs e
    rw [q, h] at this
    cases this
  rw [upd_ne n]
  exact t a xs e
theorem Go.put2 {d p : Addr} {H H' : Hp} {o : HO} (g : Go d H H') (hp : H p = none) (n : p ≠ d) : Go d H (upd H' p o) := ⟨fun b u hb e => by
  rw [upd_ne (ne_of_none e hp)]
  exact g.fr b u hb e, by
  obtain ⟨ns, e⟩ := g.dr
  exact ⟨ns, by rw [upd_ne n.symm]; exact e⟩⟩
theorem new_ne {d p : Addr} {H : Hp} (h : Dr H d) (hp : H p = none) : p ≠ d := by
  rintro rfl
  obtain ⟨ns, e⟩ := h
  rw [hp] at e
  cases e
theorem Go.free {d p : Addr} {H H' : Hp} (g : Go d H H') (hp : H' p = none) : H p = none := by
  cases e : H p with
  | none => rfl
  | some o =>
    by_cases hd : p = d
    · obtain ⟨ns, q⟩ := g.dr
      rw [hd, q] at hp
      cases hp
    · rw [g.fr p o hd e] at hp
      cases hp
end NL

namespace NL
open PySem PySem.Spec PyProof.Rows L2
theorem cut_tl {x : V} {r : List V} : cutV (x :: r) (some 1) none = r := by
  unfold cutV
  rw [show HT.sIx (x :: r).length 0 (some 1) = min 1 (x :: r).length from HT.sIx_nat _ _ 1, HT.sIx_none, List.length_cons, show min 1 (r.length + 1) = 1 by omega]
  simp
theorem asc_lt {l : List Int} (h : l.Pairwise (· < ·)) : l.Nodup := h.imp fun {a b} h e => by omega
theorem newH {H : Hp} {p : Addr} (hp : H p = none) (o : HO) : ∃ H', upd H p o = H' ∧ Same H H' ∧ H' p = some o := ⟨_, rfl, same_new hp _, upd_same⟩
section
variable {P : Program} {w : World} {K : PySem.W.Frag} {mg : Str → Option Value} {base : Heap}
/-! ### _law_great -/
def spGreat : Sp := fun vs H Q _ => ∃ d : Addr, vs = [.ref d] ∧ Dr H d ∧ ∀ v A H', Go d H H' → ArIn H' A v → ArG A → Q v H'
end
end NL

namespace NL
open PySem PySem.Spec PyProof.Rows L2
theorem ints_snoc2 (ps : List Int) (l : Int) : (ps ++ [l]).map V.int = ps.map V.int ++ [V.int l] := by
  rw [List.map_append]
  rfl
theorem at_last {α : Type} {x : α} {xs : List α} : atI (xs ++ [x]) (-1) = some x := by
  unfold atI
  rw [show ixN (xs ++ [x]).length (-1) = some xs.length by
    unfold ixN
    rw [if_neg (by decide), if_pos (by rw [List.length_append, List.length_singleton]; omega), List.length_append, List.length_singleton]
    congr 1
    omega]
  simp
theorem lc_pairs {K : PySem.W.Frag} {a b : Addr} {xs ys : List V} {g : TG} {tt : TT} {te : TE} {vs : List Nat} {σ : L2.St} {H1 : Hp} {D : Addr} {Qd : Hp → Prop} (n : Nat) (hn : n = min xs.length ys.length) (Pv : Nat → Hp → Prop) (h0 : Pv 0 (upd H1 D (.lst []))) (hq : ∀ i H, Pv i H → SqT K H a xs ∧ SqT K H b ys)
    (hs : ∀ (i : Nat) (x y : V) (t : Addr) (H : Hp), xs[i]? = some x → ys[i]? = some y → Pv i H → H t = none → g (.ref t) (wipe σ vs) (upd H t (.tup [x, y])) fun σ2 H2 => wipe σ2 vs = wipe σ vs ∧ tt σ2 H2 fun c H3 =>
      if c = true then te σ2 H3 fun z H4 => ∃ acc, H4 D = some (.lst acc) ∧ acc.length < sizeLine ∧ Pv (i + 1) (upd H4 D (.lst (acc ++ [z]))) else Pv (i + 1) H3) (hd : ∀ H, Pv n H → Qd H) :
    ∃ W : Nat → Nat → Hp → Prop, (∃ m, W 0 m (upd H1 D (.lst []))) ∧ ∀ i m H, W i m H →
      ((RZ.ItzT K a b).stop i H ∧ Qd H) ∨ ((RZ.ItzT K a b).go i H ∧ ∃ Nx : Hp → Prop, (∀ H', Nx H' → ∃ m', m' < m ∧ W (i + 1) m' H') ∧ ∀ x H', (RZ.ItzT K a b).yld i H x H' → g x (wipe σ vs) H' fun σ2 H2 => wipe σ2 vs = wipe σ vs ∧ tt σ2 H2 fun c H3 =>
        if c = true then te σ2 H3 fun z H4 => ∃ acc, H4 D = some (.lst acc) ∧ acc.length < sizeLine ∧ Nx (upd H4 D (.lst (acc ++ [z]))) else Nx H3) := by
  refine ⟨fun i m H => m + i = n ∧ Pv i H, ⟨n, rfl, h0⟩, ?_⟩
  rintro i m H ⟨hi, p⟩
  obtain ⟨qx, qy⟩ := hq i H p
  by_cases lt : i < n
  · have ex : xs[i]? = some xs[i] := List.getElem?_eq_getElem (by omega)
    have ey : ys[i]? = some ys[i] := List.getElem?_eq_getElem (by omega)
    refine .inr ⟨⟨xs, ys, _, _, qx, qy, ex, ey⟩, Pv (i + 1), fun H' p' => ⟨m - 1, by omega, by omega, p'⟩, fun v H' y => ?_⟩
    obtain ⟨t, x1, y1, rfl, ht, rfl, f1, f2⟩ := y
    exact hs i x1 y1 t H (f1 xs qx) (f2 ys qy) p ht
  · have e : i = n := by omega
    subst e
    exact .inl ⟨⟨xs, ys, qx, qy, by omega⟩, hd H p⟩
theorem op_catAK {X : Cx} {K : PySem.W.Frag} (h : X.K = K) : OpR X (binaryOp .Add) (rCatA K) := by subst h; exact op_catA
end NL

set_option maxHeartbeats 4000000
namespace NL
open PySem PySem.Spec PyProof.Rows L2
/-! ### enumerate of a tuple -/
theorem draws_tup {P : Program} {w : World} {A : Around} (cold : A.handled = none) (j l : Addr) (apart : l ≠ j) (vs : Array Value) : Draws P w A j [j, l] vs.size (fun i v => vs[i]? = some v) (fun i h => h.IsTupleIter j l i ∧ h.IsTuple l vs) where
  live := fun _ _ st => by
    obtain ⟨⟨o, ho, _⟩, _⟩ := st
    exact ⟨o, ho⟩
  frame := fun _ _ _ st hold => by
    obtain ⟨st1, o, ho, hr⟩ := st
    exact ⟨st1.at fun ob e => hold j (by simp) ob e, o, hold l (by simp) o ho, hr⟩
  item := fun i s Q E hi st hQ => by
    refine RZ.nextOf_tuple_item st.1 st.2 (x := vs[i]) (by simp [hi]) fun g st1 sb => ?_
    refine hQ _ g s.toks (by simp [hi]) ⟨st1, ?_⟩ sb
    obtain ⟨o, ho, hr⟩ := st.2
    exact ⟨o, (sb.2 l apart).trans ho, hr⟩
  done := fun s Q E st hE => RZ.nextOf_tuple_end cold st.1 st.2 (by simp) hE
theorem enum_newT (l : Addr) (vs : Array Value) :
    Meets (Builtin.«enumerate.__new__» ⟨[.type "enumerate", .ref l], []⟩) (fun _ R s => s.heap.IsTuple l vs ∧
      R (.ok (.ret (.ref (s.heap.push { cls := .type "tuple_iterator", data := .fields #[.ref l, .int 0 0] }).objs.size)))
        { s with heap := (s.heap.push { cls := .type "tuple_iterator", data := .fields #[.ref l, .int 0 0] }).push { cls := .type "enumerate", data := .fields #[.none, .bool false, .ref s.heap.objs.size, rawInt 0, .none, .none] } }) :=
  .of_wp fun P w A R s r => by
    obtain ⟨hp, gs, dr, tk, os⟩ := s
    obtain ⟨tu, r⟩ := r
    have hsub := sub_enumerate
    have T2 : Heap.IsTuple (Shared.heap ⟨hp, gs, dr, tk, os⟩) l vs := tu
    obtain ⟨⟨c, dct, dt, sl⟩, hl, hc, n, hd⟩ := tu
    replace hc : c = .type "tuple" := hc
    replace hd : dt = .seq vs n := hd
    subst hc hd
    wp_walk using AutoSeq1.wpAny_loadPart' hl
    refine wpAny_stack_any fun st => wpAny_pure ?_
    split
    · rename_i c2 _ _ _ _ _
      cases (c2 == Value.type "enumerate")
      · wp_walk using AutoSeq1.wpAny_loadPart' hl, wpAny_pyIter_tuple T2
        exact ⟨_, rfl, r⟩
      · wp_walk using AutoSeq1.wpAny_loadPart' hl, wpAny_pyIter_tuple T2
        exact ⟨_, rfl, r⟩
    · wp_walk using AutoSeq1.wpAny_loadPart' hl, wpAny_pyIter_tuple T2
      exact ⟨_, rfl, r⟩
theorem enum_callT {P : Program} {w : World} {A : Around} {E : Value → Shared → Prop} {s : Shared} {l : Addr} {vs : Array Value} {Q : Value → Shared → Prop} (tu : s.heap.IsTuple l vs)
    (k : ∀ g, IsEnum g (s.heap.objs.size + 1) s.heap.objs.size 0 .none → g.IsTupleIter s.heap.objs.size l 0 → (∀ b o, s.heap.get? b = some o → g.get? b = some o) → Q (.ref (s.heap.objs.size + 1)) { s with heap := g }) :
    wpAny (model P w) A (call (.type "enumerate") [.ref l]) Q E s := by
  refine callType_new F.called_enumerate (by decide) (F.typeCall_enumerate_1 _) (F.newCall_enumerate_1 _) (fun ob => F.args_object_init_2 ob _) F.entry_enumerate_new (enum_newT l vs) ⟨tu, ?_⟩
  have sz : (s.heap.push { cls := .type "tuple_iterator", data := .fields #[.ref l, .int 0 0] }).objs.size = s.heap.objs.size + 1 := Heap.size_push ..
  show _ ∧ _
  rw [sz]
  have isE : IsEnum ((s.heap.push { cls := .type "tuple_iterator", data := .fields #[.ref l, .int 0 0] }).push { cls := .type "enumerate", data := .fields #[.none, .bool false, .ref s.heap.objs.size, rawInt 0, .none, .none] }) (s.heap.objs.size + 1) s.heap.objs.size 0 .none := by
    have top := Heap.get?_push_size (s.heap.push { cls := .type "tuple_iterator", data := .fields #[.ref l, .int 0 0] }) (o := { cls := .type "enumerate", data := .fields #[.none, .bool false, .ref s.heap.objs.size, rawInt 0, .none, .none] }) rfl
    rw [sz] at top
    exact top
  exact ⟨⟨_, isE, rfl⟩, k _ isE ⟨_, Heap.get?_push_of_some _ (Heap.get?_push_size _ rfl), rfl, rfl⟩ fun b o e => Heap.get?_push_of_some _ (Heap.get?_push_of_some _ e)⟩
/-- the tuple at a, each item in a new pair with its number -/
def EtT (K : PySem.W.Frag) (a : Addr) : L2.It :=
  ⟨fun i H => ∃ (xs : List V) (x : V), SqT K H a xs ∧ xs[i]? = some x, fun i H v H' => ∃ t x, v = .ref t ∧ H t = none ∧ H' = upd H t (.tup [.int (i : Nat), x]) ∧ ∀ xs, SqT K H a xs → xs[i]? = some x, fun i H => ∃ xs : List V, SqT K H a xs ∧ xs.length ≤ i⟩
theorem turn_enumT {P : Program} {w : World} {K : PySem.W.Frag} {elts : List Expr} {kk : Nat} {tpos : Pos} (a e j : Addr) :
    Turn P w K (.Tuple elts kk tpos) (EtT K a) [e, j] e (fun i h => (∃ old, IsEnum h e j ((i : Nat) : Int) old) ∧ h.IsTupleIter j a i ∧ e ≠ j) where
  mem := List.mem_cons_self
  obj := by
    rintro i h ⟨⟨old, isE⟩, ⟨o, ho, hc, hd⟩, _⟩ b hb
    have hb2 : b = e ∨ b = j := by simpa using hb
    rcases hb2 with rfl | rfl
    · exact ⟨_, isE, fun v q => nomatch q⟩
    · exact ⟨o, ho, fun v q => by rw [hd] at q; cases q⟩
  keep := by
    rintro i h g ⟨⟨old, isE⟩, isT, ne⟩ hold
    exact ⟨⟨old, hold e (by simp) _ isE⟩, isT.at fun o q => hold j (by simp) o q, ne⟩
  item := by
    rintro X rfl rfl rfl hcalm i pins s σ H E hinv hfp ⟨⟨old, isE⟩, isT, ne⟩ ⟨xs, x, hq, hx⟩
    obtain ⟨its, rv, pt, hz⟩ := hinv.tuple hq
    have tu : s.heap.IsTuple a its.toArray := pt
    obtain ⟨u, hu, ru⟩ := rv.get hx
    have ha : a ≠ j := fun q => by
      obtain ⟨o, ho, hc, _⟩ := id isT
      obtain ⟨o2, ho2, hc2, _⟩ := id tu
      rw [q, ho] at ho2
      cases ho2
      rw [hc] at hc2
      exact absurd (Value.type.inj hc2) (by decide)
    have hea : e ≠ a := fun q => by
      obtain ⟨o2, ho2, hc2, _⟩ := id tu
      have isE2 : s.heap.get? e = some _ := isE
      have e3 := (congrArg s.heap.get? q).symm.trans isE2
      rw [ho2] at e3
      cases e3
      exact absurd (Value.type.inj hc2) (by decide)
    have hlt : i < its.toArray.size := by
      have := (List.getElem?_eq_some_iff.mp hu).1
      simpa using this
    have cold := hinv.ok.hd hcalm
    refine wpAny_pyNext_enum_itemD (draws_tup (A := X.A.in1) cold j a ha its.toArray) isE ⟨isT, tu⟩ hlt ne (by simp [ne, hea]) fun y g tk hy ho st1 hT hsz hold => ?_
    have hyu : y = u := by
      have h2 : its[i]? = some y := by simpa using hy
      rw [hu] at h2
      exact (Option.some.inj h2).symm
    subst hyu
    refine ⟨_, rfl, wpAny_letOwnedTupleGo_enum (s := { s with heap := g, toks := tk + 1 }) ho fun g2 isE2 sb => ?_⟩
    have hel : e < s.heap.objs.size := Heap.lt_size isE
    have hjl : j < s.heap.objs.size := by
      obtain ⟨_, q, _⟩ := id isT
      exact Heap.lt_size q
    have hT2 : g2.get? s.heap.objs.size = some { cls := .type "tuple", data := .seq #[.int i tk, y] } := (sb.2 _ (Nat.ne_of_gt hel)).trans hT
    have made : ObjOk X.prog X.w (upd H s.heap.objs.size (.tup [.int (i : Nat), x])) g2 s.heap.objs.size (.tup [.int (i : Nat), x]) :=
      ⟨by show 2 ≤ sizeLine; decide, [.int i tk, y], .cons ⟨_, rfl⟩ (.cons ru .nil), ⟨_, hT2, rfl, _, rfl⟩⟩
    have inv2 : Inv X pins σ (upd H s.heap.objs.size (.tup [.int (i : Nat), x])) { s with heap := g2, toks := tk + 1 } :=
      hinv.turnedNew (ch := [e, j]) (fun b ob hb q => (sb.2 b (fun z => hb (by simp [z]))).trans (hold b ob (fun z => hb (by simp [z])) (fun z => hb (by simp [z])) q)) hfp (Nat.le_refl _) made
    refine ⟨.ref s.heap.objs.size, _, inv2, rfl, ⟨_, x, rfl, hinv.hok.fresh (Nat.le_refl _), rfl, fun ys hy2 => by rw [hinv.tuple_inj hy2 hq]; exact hx⟩, ⟨⟨y, ?_⟩, st1.1.at fun o q => (sb.2 j (Ne.symm ne)).trans q, ne⟩, fun b hb => ?_⟩
    · have e1 : ((i + 1 : Nat) : Int) = (i : Int) + 1 := by omega
      rw [e1]
      exact isE2
    · have hb2 : b < s.heap.objs.size := by
        have z : b = e ∨ b = j := by simpa using hb
        rcases z with rfl | rfl
        · exact hel
        · exact hjl
      rw [upd_ne (Nat.ne_of_lt hb2)]
      exact (hfp b hb).1
  done := by
    rintro X rfl rfl rfl hcalm i pins s σ H E hinv hfp ⟨⟨old, isE⟩, isT, ne⟩ ⟨xs, hq, hx⟩
    obtain ⟨its, rv, pt, hz⟩ := hinv.tuple hq
    have tu : s.heap.IsTuple a its.toArray := pt
    have hT : s.TypeIs (.ref e) "enumerate" := ⟨_, isE, rfl⟩
    obtain ⟨f0, f1, f2, f3, f4, f5⟩ := hfp j (by simp)
    have hl := rv.length
    have cold := hinv.ok.hd hcalm
    unfold pyNext
    refine wpAny_bind (wpAny_attempt (wpAny_callSpecial?_slot (name := Str.ofString "__next__") hT F.slot_enumerate_next
      (wpAny_call_entry F.slot_enumerate_next hT F.entry_enumerate_next ?_ (F.args_enumerate_next_1 _))))
    show wpAny _ _ (field (.ref e) 2 >>= _) _ _ _
    refine wpAny_bind (wpAny_field isE rfl (x := .ref j) rfl (wpAny_bind (RZ.nextOf_tuple_end cold isT tu (by simp; omega) fun g x eb ⟨o, ho, hc⟩ => ?_)))
    refine wpAny_bind (wpAny_isInstance (T := "StopIteration") (b := true) ⟨o, ho, hc⟩ isSubtype_stop (wpAny_pure ⟨rfl, hinv.turned (t' := s.toks) (fun b o hb q => eb b o hb q) f0 f1 f3 f4 f5⟩))
  self := by
    rintro A i s Q E ⟨⟨_, isE⟩, _⟩ h
    exact wpAny_pyIter_enum isE h
def iEnumT (K : PySem.W.Frag) (ta : TA) : TI := fun σ H R => ta σ H fun vs H1 => ∃ a xs, vs = [.ref a] ∧ SqT K H1 a xs ∧ R (EtT K a) H1
theorem pi_enumT {X : Cx} {ex : Expr} {ta : TA} {p pos tpos : Pos} {elts : List Expr} {kk : Nat} (hg : Gl X "enumerate") (hm : X.mg "enumerate" = none) (ha : PA X [ex] ta) (hs : starEach [ex] X.env = [(false, eval ex X.env)] := by rfl) :
    PI X (.Tuple elts kk tpos) (.Call (.Name "enumerate" p) [ex] [] pos) (iEnumT X.K ta) := by
  refine ⟨fun pins s σ H R hinv h => ?_⟩
  refine Call_ (ld_blt hinv hg hm boot_enumerate (PyProof.Rows.callWith_type1 (thn (ha.run pos pins s σ H _ hinv h) fun us s1 ⟨vs, H1, inv1, hv, q1⟩ => ?_) hs rfl))
  obtain ⟨a, xs, rfl, hq, q⟩ := q1
  cases hv with
  | cons r rest =>
    cases rest
    cases r
    obtain ⟨its, rv, pt, hz⟩ := inv1.tuple hq
    refine enum_callT (show s1.heap.IsTuple a its.toArray from pt) fun g isE isT hold => wpAny_pyIter_enum isE ?_
    have inv2 : Inv X pins σ H1 { s1 with heap := g } := inv1.kept (t' := s1.toks) hold
    refine ⟨s1.heap.objs.size + 1, [s1.heap.objs.size + 1, s1.heap.objs.size], _, _, H1, rfl, inv2, turn_enumT a (s1.heap.objs.size + 1) s1.heap.objs.size, ⟨⟨.none, isE⟩, isT, Nat.succ_ne_self _⟩, fun b hb => ?_, q⟩
    have hle : s1.heap.objs.size ≤ b := by
      have z : b = s1.heap.objs.size + 1 ∨ b = s1.heap.objs.size := by simpa using hb
      rcases z with z | z
      · rw [z]; exact Nat.le_succ _
      · rw [z]; exact Nat.le_refl _
    exact inv1.fpOk hle (inv1.hok.fresh hle)
theorem lc_enumT {K : PySem.W.Frag} {a : Addr} {xs : List V} {g : TG} {tt : TT} {te : TE} {vs : List Nat} {σ : L2.St} {H1 : Hp} {D : Addr} {Qd : Hp → Prop} (Pv : Nat → Hp → Prop) (h0 : Pv 0 (upd H1 D (.lst []))) (hq : ∀ i H, Pv i H → SqT K H a xs)
    (hs : ∀ (i : Nat) (x : V) (t : Addr) (H : Hp), xs[i]? = some x → Pv i H → H t = none → g (.ref t) (wipe σ vs) (upd H t (.tup [.int (i : Nat), x])) fun σ2 H2 => wipe σ2 vs = wipe σ vs ∧ tt σ2 H2 fun c H3 =>
      if c = true then te σ2 H3 fun z H4 => ∃ acc, H4 D = some (.lst acc) ∧ acc.length < sizeLine ∧ Pv (i + 1) (upd H4 D (.lst (acc ++ [z]))) else Pv (i + 1) H3) (hd : ∀ H, Pv xs.length H → Qd H) :
    ∃ W : Nat → Nat → Hp → Prop, (∃ m, W 0 m (upd H1 D (.lst []))) ∧ ∀ i m H, W i m H →
      ((EtT K a).stop i H ∧ Qd H) ∨ ((EtT K a).go i H ∧ ∃ Nx : Hp → Prop, (∀ H', Nx H' → ∃ m', m' < m ∧ W (i + 1) m' H') ∧ ∀ x H', (EtT K a).yld i H x H' → g x (wipe σ vs) H' fun σ2 H2 => wipe σ2 vs = wipe σ vs ∧ tt σ2 H2 fun c H3 =>
        if c = true then te σ2 H3 fun z H4 => ∃ acc, H4 D = some (.lst acc) ∧ acc.length < sizeLine ∧ Nx (upd H4 D (.lst (acc ++ [z]))) else Nx H3) := by
  refine ⟨fun i m H => m + i = xs.length ∧ Pv i H, ⟨xs.length, rfl, h0⟩, ?_⟩
  rintro i m H ⟨hi, p⟩
  have q := hq i H p
  by_cases lt : i < xs.length
  · have ex : xs[i]? = some xs[i] := List.getElem?_eq_getElem lt
    refine .inr ⟨⟨xs, _, q, ex⟩, Pv (i + 1), fun H' p' => ⟨m - 1, by omega, by omega, p'⟩, fun v H' y => ?_⟩
    obtain ⟨t, x1, rfl, ht, rfl, f1⟩ := y
    exact hs i x1 t H (f1 xs q) p ht
  · have e : i = xs.length := by omega
    subst e
    exact .inl ⟨⟨xs, q, Nat.le_refl _⟩, hd H p⟩
end NL

namespace NL
open PySem PySem.Spec PyProof.Rows L2
/-- the mark at an index, from before or from behind -/
def mkAt (bs : List Bool) (i : Int) : Bool := (atI bs i).getD false
section
variable {prog : Program} {w : World} {A : Around} {env : Env} {s : Shared}
theorem low_ix {E : Value → Shared → Prop} {m : Addr} {ms : List Value} {bs : List Bool} {mm : Str → Option Value} {i : Int} {t : Tok} {p1 p2 p3 : Pos} {Q : Value → Shared → Prop}
    (hk : env.scope.kind = .function) (hm : env.kindOf "marks" = some .local) (ha : env.kindOf "after" = some .local)
    (hn : s.heap.Ns env.locals mm) (h2 : mm "marks" = some (.ref m)) (h3 : mm "after" = some (.int i t))
    (hl : s.heap.IsList m ms.toArray) (hb : Vals (bs.map V.bl) ms) (hz : ms.length ≤ sizeLine) (hin : (atI bs i).isSome = true)
    (h : Q (.bool (mkAt bs i)) s) :
    wpAny (model prog w) A (eval (.Subscript (.Name "marks" p1) (.Name "after" p2) p3) env) Q E s := by
  refine Subscript_ ?_
  refine wpAny_Name (wpAny_loadName_local hk hm hn h2 ?_)
  refine wpAny_Name (wpAny_loadName_local hk ha hn h3 ?_)
  obtain ⟨b, eb⟩ := Option.isSome_iff_exists.mp hin
  have hbm : mkAt bs i = b := by unfold mkAt; rw [eb]; rfl
  rw [hbm] at h
  obtain ⟨j, q1, q2, q3, q4, q5⟩ := atI_get eb
  have hl2 := hb.length
  rw [List.length_map] at hl2
  obtain ⟨u, eu, ru⟩ := hb.get (i := j) (x := V.bl b) (by rw [List.getElem?_map, q2]; rfl)
  have e : u = .bool b := ru
  subst e
  have hn63 := line63
  by_cases h0 : 0 ≤ i
  · have hj : i.toNat = j := by
      rw [seqIndex_of h0 q5] at q1
      exact Option.some.inj q1
    exact item_listR hl h0 (by omega) (by rw [hj]; simpa using eu) h
  · have hj : (i + (ms.toArray.size : Int)).toNat = j := by
      rw [seqIndex_neg (by omega) q4] at q1
      rw [List.size_toArray, ← hl2]
      exact Option.some.inj q1
    exact subscriptTail_builtinR (x := .bool b) hl.typeIs slot_list_getitem.lookup
      (wpAny_getItem_list_neg (Q := fun r s' => r = .bool b ∧ Q r s') hl (by omega) (by rw [List.size_toArray] <;> omega) (by omega) (by rw [hj]; simpa using eu) ⟨rfl, h⟩)

theorem low_bool {E : Value → Shared → Prop} {c : Bool} {k : Nat} {p : Pos} {Q : Value → Shared → Prop} (h : Q (.bool c) s) : wpAny (model prog w) A (eval (.Constant (.bool c) k p) env) Q E s := fun _ _ _ => h
/-- for after in option: if (not) marks[after]: return r1 .. return r2 -/
theorem low_body {o m : Addr} {its ms : List Value} {is : List Int} {bs : List Bool} {mm : Str → Option Value} {test : Expr} {fl r1 r2 : Bool} {k1 k2 : Nat} {p1 p2 q1 q2 q3 q4 q5 q6 q7 q8 q9 : Pos}
    (hh : A.handled = none) (hk : env.scope.kind = .function) (ho : env.kindOf "option" = some .local) (hm : env.kindOf "marks" = some .local) (ha : env.kindOf "after" = some .local)
    (hn : s.heap.Ns env.locals mm) (h1 : mm "option" = some (.ref o)) (h2 : mm "marks" = some (.ref m)) (ht : s.heap.IsTuple o its.toArray) (hl : s.heap.IsList m ms.toArray)
    (hi : Vals (is.map V.int) its) (hb : Vals (bs.map V.bl) ms) (hz : ms.length ≤ sizeLine) (hin : ∀ i ∈ is, (atI bs i).isSome = true)
    (htest : ∀ (s' : Shared) (E' : Value → Shared → Prop) (Q : Bool → Shared → Prop) (b : Bool), wpAny (model prog w) A (eval (.Subscript (.Name "marks" q1) (.Name "after" q2) q3) env) (fun v s₁ => v = .bool b ∧ s₁ = s') E' s' → Q (fl ^^ b) s' → wpAny (model prog w) A (isTrue test env (eval test env)) Q E' s') :
    wpAny (model prog w) A (execs [.For (.Name "after" p1) (.Name "option" p2) [.If test [.Return (some (.Constant (.bool r1) k1 q4)) q5] [] q6] [] q7, .Return (some (.Constant (.bool r2) k2 q8)) q9] env)
      (fun f s' => f = .ret (.bool (if is.any (fun i => fl ^^ mkAt bs i) then r1 else r2)) ∧ ∃ h' tk, s' = { s with heap := h', toks := tk } ∧ ∀ b o, b ≠ env.locals → s.heap.get? b = some o → h'.get? b = some o) (fun _ _ => False) s := by
  have hp : (env.scope.kind == .class || (env.scope.kind == .module && env.locals != env.globals)) = false := by rw [hk]; rfl
  have hL : env.locals < s.heap.objs.size := hn.lt
  have hto : o < s.heap.objs.size := by obtain ⟨_, e, _⟩ := ht; exact Heap.lt_size e
  have hno : env.locals ≠ o := fun e => by
    obtain ⟨ob, es, ep, e1, e2, _⟩ := hn
    obtain ⟨ob2, f1, f2, n, f3⟩ := ht
    rw [e, f1] at e1
    cases e1
    rw [f3] at e2
    cases e2
  have hnm : env.locals ≠ m := fun e => by
    obtain ⟨ob, es, ep, e1, e2, _⟩ := hn
    obtain ⟨ob2, f1, f2, n, f3⟩ := hl
    rw [e, f1] at e1
    cases e1
    rw [f3] at e2
    cases e2
  have hml : m < s.heap.objs.size := by obtain ⟨_, e, _⟩ := hl; exact Heap.lt_size e
  have hlen : its.length = is.length := by have := hi.length; rw [List.length_map] at this; exact this.symm
  refine wpAny_execs_cons (exec_For_goes ?_)
  refine wpAny_Name (wpAny_loadName_local hk ho hn h1 ?_)
  refine wpAny_pyIter_tuple ht ?_
  refine ⟨_, _, _, _, _, _, fun i s₁ => (is.take i).any (fun i => fl ^^ mkAt bs i) = false ∧ ∃ h₁ tk m₁, s₁ = { s with heap := h₁, toks := tk } ∧ h₁.Ns env.locals m₁ ∧ m₁ "marks" = some (.ref m) ∧ ∀ b ob, b ≠ env.locals → s.heap.get? b = some ob → h₁.get? b = some ob, rfl,
    Goes.tuple hh s.heap.objs.size o (Nat.ne_of_lt hto) its.toArray, ⟨⟨_, Heap.get?_push_size _ rfl, rfl, rfl⟩, ?_⟩, ⟨by rw [List.take_zero]; rfl, _, _, mm, rfl, hn.at' fun ob e => Heap.get?_push_of_some _ e, h2, fun b ob _ e => Heap.get?_push_of_some _ e⟩, ?_, ?_, ?_⟩
  · obtain ⟨ob, e, r⟩ := ht
    exact ⟨ob, Heap.get?_push_of_some _ e, r⟩
  · rintro i s₁ h' tk ⟨ha1, h₁, tk₁, m₁, rfl, n₁, t₁, k₁⟩ hk' _
    refine ⟨ha1, h', tk, m₁, rfl, n₁.at' fun ob e => hk' _ ob (by simp; exact Nat.ne_of_lt hL) e, t₁, fun b ob hb e => hk' b ob ?_ (k₁ b ob hb e)⟩
    have hlt := Heap.lt_size e
    simp
    exact Nat.ne_of_lt hlt
  · rintro i v s₁ hi' hv st ⟨ha1, h₁, tk₁, m₁, rfl, n₁, t₁, k₁⟩
    have hv' : its[i]? = some v := by simpa using hv
    obtain ⟨x, hx⟩ : ∃ x, is[i]? = some x := ⟨_, List.getElem?_eq_getElem (by rw [← hlen]; simpa using hi')⟩
    obtain ⟨u, eu, t, rfl⟩ := hi.get (i := i) (x := V.int x) (by rw [List.getElem?_map, hx]; rfl)
    rw [hv'] at eu
    cases eu
    refine wpAny_assign_Name (wpAny_storeName_local ha n₁ (fun h₂ n₂ s₂ => ?_) hp)
    have k₂ : ∀ b ob, b ≠ env.locals → s.heap.get? b = some ob → h₂.get? b = some ob := fun b ob hb e => s₂.extBut b ob hb (k₁ b ob hb e)
    have hl₂ : h₂.IsList m ms.toArray := by
      obtain ⟨ob, e, r⟩ := hl
      exact ⟨ob, k₂ m ob hnm.symm e, r⟩
    have hbx := hin x (List.mem_of_getElem? hx)
    refine wpAny_execs_cons (wpAny_If (htest _ _ _ (mkAt bs x) (low_ix hk hm ha n₂ ((if_neg (by decide)).trans t₁) (if_pos rfl) hl₂ hb hz hbx ⟨rfl, rfl⟩) ?_))
    have hnext : (is.take (i + 1)).any (fun i => fl ^^ mkAt bs i) = (fl ^^ mkAt bs x) := by
      rw [List.take_add_one, hx, List.any_append, ha1]
      simp
    cases hc : (fl ^^ mkAt bs x) with
    | true =>
      refine wpAny_execs_cons (wpAny_Return_some ?_)
      refine low_bool ?_
      have hany : is.any (fun i => fl ^^ mkAt bs i) = true := List.any_eq_true.mpr ⟨x, List.mem_of_getElem? hx, hc⟩
      refine ⟨by rw [hany]; rfl, h₂, _, rfl, k₂⟩
    | false =>
      refine wpAny_execs_nil (wpAny_execs_nil ⟨⟨by rw [hnext, hc], h₂, _, _, rfl, n₂, (if_neg (by decide)).trans t₁, k₂⟩, ?_⟩)
      exact ⟨st.1.at fun ob e => s₂.extBut _ _ (Nat.ne_of_gt hL) e, st.2.at fun ob e => s₂.extBut _ _ hno.symm e⟩
  · rintro s₁ ⟨ha1, h₁, tk₁, m₁, rfl, n₁, t₁, k₁⟩
    refine wpAny_execs_nil (wpAny_execs_cons (wpAny_Return_some ?_))
    refine low_bool ?_
    rw [show its.toArray.size = is.length by rw [List.size_toArray, hlen], List.take_length] at ha1
    refine ⟨by rw [ha1]; rfl, h₁, _, rfl, k₁⟩
end
end NL

namespace NL
open PySem PySem.Spec PyProof.Rows L2
/-- the test of such a def: not marks[after], or marks[after] -/
def MarkTest (fl : Bool) (q1 q2 q3 : Pos) (test : Expr) : Prop :=
  (fl = true ∧ ∃ q, test = .UnaryOp .Not (.Subscript (.Name "marks" q1) (.Name "after" q2) q3) q) ∨ (fl = false ∧ test = .Subscript (.Name "marks" q1) (.Name "after" q2) q3)
/-- a def of this form -/
structure MarkFn (K : PySem.W.Frag) (nm : Str) (st : Stmt) (f : Addr) (fd : FuncData) (fl r1 r2 : Bool) : Prop where
  F : L2.Fun K nm nm st f fd
  bd : Binds K fd ["option", "marks"] []
  body : ∃ (test : Expr) (k1 k2 : Nat) (p1 p2 q1 q2 q3 q4 q5 q6 q7 q8 q9 : Pos), MarkTest fl q1 q2 q3 test ∧ defBody st = [.For (.Name "after" p1) (.Name "option" p2) [.If test [.Return (some (.Constant (.bool r1) k1 q4)) q5] [] q6] [] q7, .Return (some (.Constant (.bool r2) k2 q8)) q9]
  kind : (defScope st).kind = .function
  co : (defScope st).isCoroutine = false
  gen : (defScope st).isGenerator = false
  cell : ∀ y ∈ (defScope st).names, y.2 ≠ .cell
  lo : (defScope st).names.lookup ("option" : Str) = some .local
  lm : (defScope st).names.lookup ("marks" : Str) = some .local
  la : (defScope st).names.lookup ("after" : Str) = some .local
section
variable {prog : Program} {w : World} {A : Around} {s : Shared}
theorem mark_test {env : Env} {fl : Bool} {q1 q2 q3 : Pos} {test : Expr} (h : MarkTest fl q1 q2 q3 test) (s' : Shared) (E' : Value → Shared → Prop) (Q : Bool → Shared → Prop) (b : Bool)
    (he : wpAny (model prog w) A (eval (.Subscript (.Name "marks" q1) (.Name "after" q2) q3) env) (fun v s₁ => v = .bool b ∧ s₁ = s') E' s') (hq : Q (fl ^^ b) s') : wpAny (model prog w) A (isTrue test env (eval test env)) Q E' s' := by
  have base : ∀ Q' : Bool → Shared → Prop, Q' b s' → wpAny (model prog w) A (isTrue (.Subscript (.Name "marks" q1) (.Name "after" q2) q3) env (eval (.Subscript (.Name "marks" q1) (.Name "after" q2) q3) env)) Q' E' s' := fun Q' h' =>
    isTrue_plain (wpAny_mono he (fun v s₁ r => by
      obtain ⟨rfl, rfl⟩ := r
      exact wpAny_truthy_bool h') fun _ _ x => x)
  rcases h with ⟨rfl, q, rfl⟩ | ⟨rfl, rfl⟩
  · exact isTrue_not (base _ (by rw [Bool.true_xor] at hq; exact hq))
  · exact base _ (by rw [Bool.false_xor] at hq; exact hq)
theorem low_call {E : Value → Shared → Prop} {K : PySem.W.Frag} {nm : Str} {st : Stmt} {f : Addr} {fd : FuncData} {fl r1 r2 : Bool} (M : MarkFn K nm st f fd fl r1 r2) (hK : K.In s.heap) (hlim : s.heap.NoLimit) (hh : A.handled = none) (hd : A.depth < recursionLimit)
    {o m : Addr} {its ms : List Value} {is : List Int} {bs : List Bool} (ht : s.heap.IsTuple o its.toArray) (hl : s.heap.IsList m ms.toArray)
    (hi : Vals (is.map V.int) its) (hb : Vals (bs.map V.bl) ms) (hz : ms.length ≤ sizeLine) (hin : ∀ i ∈ is, (atI bs i).isSome = true) :
    wpAny (model prog w) A (call (.ref f) [.ref o, .ref m]) (fun y s₃ => y = .bool (if is.any (fun i => fl ^^ mkAt bs i) then r1 else r2) ∧ Keeps s s₃) E s := by
  obtain ⟨⟨⟨oc, od, kV, doc, pm, an, cdv, ct, osl, rfl, lk, hcd⟩, kp⟩, bd, ⟨test, k1, k2, p1, p2, q1, q2, q3, q4, q5, q6, q7, q8, q9, hT, hbody⟩, kind, co, gen, cell, lo, lm, la⟩ := M
  refine wpAny_call (codeAny_call_function hd (hK _ _ lk) rfl co gen rfl (PySem.W.codeRec_of hK hcd) (bd s [.ref o, .ref m] hK rfl _ _ _ _ ?_))
  refine wpAny_newFunctionEnv cell (fun y hy => ?_) (fun h₁ hns hsb => ⟨?_, ?_⟩) kind
  · rcases List.mem_cons.mp hy with rfl | hy
    · exact lo
    · rcases List.mem_cons.mp hy with rfl | hy
      · exact lm
      · cases hy
  · exact hlim.fresh _ hsb
  have kk : ∀ b ob, s.heap.get? b = some ob → h₁.get? b = some ob := fun b ob e => hsb.extBut b ob (Nat.ne_of_lt (Heap.lt_size e)) (Heap.get?_push_of_some _ e)
  refine codeAny_func ?_
  have hb2 : (PySem.W.fnOf nm nm (defArgs st) (defBody st) (defScope st) .none kV doc pm an cdv ct).body = .stmts (defBody st) := rfl
  rw [hbody]
  refine wpAny_mono (low_body (o := o) (m := m) (is := is) (bs := bs) (mm := fun x => ((["option", "marks"] : List Str).zip [Value.ref o, Value.ref m]).reverse.lookup x) hh kind lo lm la hns rfl rfl
    (by obtain ⟨ob, e, r⟩ := ht; exact ⟨ob, kk _ _ e, r⟩) (by obtain ⟨ob, e, r⟩ := hl; exact ⟨ob, kk _ _ e, r⟩) hi hb hz hin (fun s' E' Q b => mark_test hT s' E' Q b)) (fun fl' s' r => ?_) fun _ _ x => x.elim
  obtain ⟨rfl, h', tk, rfl, k'⟩ := r
  exact ⟨rfl, h', tk, rfl, fun b ob e => k' b ob (Nat.ne_of_lt (Heap.lt_size e)) (kk b ob e)⟩
end
end NL

set_option maxHeartbeats 2000000
namespace NL
open PySem PySem.Spec PyProof.Rows L2
/-- the element of a generator expression over the item u gives b, and changes nothing that stood -/
def ElV (X : Cx) (P : Addr) (scope : Scope) (nm : Str) (elt : Expr) (σ : L2.St) (H1 : Hp) (x : V) (b : Bool) : Prop :=
  ∀ (pins : List (Addr × Obj)) (s1 : Shared) (u : Value), Inv X pins σ H1 s1 → RelV x u →
    ∀ (cenv : Env) (A' : Around) (E' : Value → Shared → Prop) (s₂ : Shared) (m₂ : Str → Option Value), cenv.scope = scope → cenv.cells = cloFrom X.env.cells scope.names [] → cenv.globals = X.env.globals →
      A'.handled = none → A'.depth ≤ X.A.depth + 1 → A'.units ≤ X.A.units + 8 → s₂.heap.Ns cenv.locals m₂ → m₂ nm = some u → (∀ c o, c ≠ P → s1.heap.get? c = some o → s₂.heap.get? c = some o) →
      wpAny (model X.prog X.w) A' (eval elt cenv) (fun y s₃ => y = .bool b ∧ Keeps s₂ s₃) E' s₂
def bAt (bs : List Bool) (j : Nat) : Bool := (bs[j]?).getD false
theorem any_bAt (bs : List Bool) : (List.range bs.length).any (bAt bs) = bs.any id := by
  rw [Bool.eq_iff_iff, List.any_eq_true, List.any_eq_true]
  constructor
  · rintro ⟨j, hj, h⟩
    have hj' := List.mem_range.mp hj
    refine ⟨bs[j], List.getElem_mem hj', ?_⟩
    unfold bAt at h
    rw [List.getElem?_eq_getElem hj'] at h
    exact h
  · rintro ⟨b, hb, h⟩
    obtain ⟨j, hj, rfl⟩ := List.getElem_of_mem hb
    refine ⟨j, List.mem_range.mpr hj, ?_⟩
    unfold bAt
    rw [List.getElem?_eq_getElem hj]
    exact h
theorem all_bAt (bs : List Bool) : (List.range bs.length).all (bAt bs) = bs.all id := by
  rw [Bool.eq_iff_iff, List.all_eq_true, List.all_eq_true]
  constructor
  · intro h b hb
    obtain ⟨j, hj, rfl⟩ := List.getElem_of_mem hb
    have q := h j (List.mem_range.mpr hj)
    unfold bAt at q
    rw [List.getElem?_eq_getElem hj] at q
    exact q
  · intro h j hj
    have hj' := List.mem_range.mp hj
    unfold bAt
    rw [List.getElem?_eq_getElem hj']
    exact h _ (List.getElem_mem hj')
section
variable {X : Cx} {pins : List (Addr × Obj)} {σ : L2.St} {H : Hp} {s : Shared}
/-- the generator at g gives the truths bs, one after the other -/
def Gives (X : Cx) (pins : List (Addr × Obj)) (σ : L2.St) (H1 : Hp) (P : Addr) (bs : List Bool) (g : Addr) (s5 : Shared) : Prop :=
  ∃ (fp wr : List Addr) (G : Array GenState → Array GenState → Prop) (F : Nat → Value → Prop) (St : Nat → Shared → Prop), WalksS X.prog X.w X.A.in1 g fp wr G bs.length F St ∧ St 0 s5 ∧ TruthOf X.prog X.w X.A.in1 F (bAt bs) ∧
    ∀ s', Moved wr G s5 s' → ∃ H2, GxR.Tabbed P H1 H2 ∧ Inv X pins σ H2 s'
theorem gen_tup {c P : Addr} {elt iter : Expr} {nm : Str} {px gpos : Pos} {scope : Scope} {te : TE} {k : Nat} {Q' : Value → Shared → Prop} {R : List Bool → Hp → Prop}
    (hr : Room k X.A) (TB : GxR.TabB X.base X.mg c P) (hcode : X.env.code = .ref c) (S : GxR.GenS X.env scope nm) (hi : PE X iter te)
    (hs : ∀ v, genFold iter X.env v = pure v) (I : Inv X pins σ H s)
    (h : te σ H fun v H1 => ∃ (a : Addr) (xs : List V) (bs : List Bool), v = .ref a ∧ SqT X.K H1 a xs ∧ bs.length = xs.length ∧ GxR.TabG H1 P ∧ (∀ (i : Nat) x b, xs[i]? = some x → bs[i]? = some b → ElV X P scope nm elt σ H1 x b) ∧ R bs H1)
    (hQ : ∀ bs H1 g s5, R bs H1 → Gives X pins σ H1 P bs g s5 → Q' (.ref g) s5) :
    wpAny (model X.prog X.w) X.A (eval (.GeneratorExp elt [⟨.Name nm px, iter, [], 0⟩] scope gpos) X.env) Q' X.xe s := by
  refine wpAny_GeneratorExp_walksQD hr.hd S.co (closure_ok S.free) S.cell S.dot S.loc S.kind hr.depth ?_ hs
  refine thn (hi.run pins s σ H _ I h) fun xv s1 ⟨v, H1, I1, r1, q1⟩ => ?_
  obtain ⟨a, xs, bs, rfl, hT, hbl, ⟨ps, hP, ht⟩, hE, hR⟩ := q1
  obtain rfl : xv = Value.ref a := r1
  obtain ⟨its, rv, pl, hz⟩ := I1.tuple hT
  have plT : s1.heap.IsTuple a its.toArray := pl
  have hPs : s1.heap.get? P = some { cls := .none, data := .fields ps } := I1.hok P _ hP
  have hPlt : P < s1.heap.objs.size := Heap.lt_size hPs
  have halt : a < s1.heap.objs.size := by
    obtain ⟨_, e, _⟩ := pl
    exact Heap.lt_size e
  have haP : a ≠ P := fun e => by
    obtain ⟨ob, e1, e2, _⟩ := pl
    rw [e, hPs] at e1
    cases e1
    cases e2
  have hil : its.length = bs.length := by rw [hbl]; exact rv.length.symm
  refine wpAny_pyIter_tuple plT ?_
  generalize ho : ({ cls := Value.type "tuple_iterator", data := Data.fields #[Value.ref a, Value.int 0 0] } : Obj) = ob
  have hP2 : (s1.heap.push ob).get? P = some { cls := .none, data := .fields ps } := Heap.get?_push_of_some _ hPs
  have cd : PySem.W.CodeHd (s1.heap.push ob) c P := TB.code.keeps fun b u e => Heap.get?_push_of_some _ (I1.bk b u e)
  have lim2 : (s1.heap.push ob).NoLimit := I1.nolimit.push ob
  have hst0 : (s1.heap.push ob).IsTupleIter s1.heap.objs.size a 0 ∧ (s1.heap.push ob).IsTuple a its.toArray := by
    refine ⟨⟨ob, Heap.get?_push_size _ (by rw [← ho] <;> rfl), ?_, ?_⟩, ?_⟩
    · rw [← ho]
    · rw [← ho] <;> rfl
    · obtain ⟨o2, e, r⟩ := pl
      exact ⟨o2, Heap.get?_push_of_some _ e, r⟩
  have cont : ∀ (code : Value) (h3 : Heap) (tk : Nat) (ps' : Array Value), Heap.ExtBut P (s1.heap.push ob) h3 → (s1.heap.push ob).objs.size ≤ h3.objs.size → h3.get? P = some { cls := .none, data := .fields ps' } → (∃ more, ps' = ps ++ more) → TriplesOk ps'.toList →
      wpAny (model X.prog X.w) X.A (builtinsFor X.env.globals X.env.builtins) (fun bi s₄ =>
        ∃ Ia fp wr n₀ Pf St₀ pz F, Value.ref s1.heap.objs.size = .ref Ia ∧ (∀ A' : Around, A'.handled = none → Walks X.prog X.w A' Ia fp wr n₀ Pf St₀) ∧ St₀ 0 s₄.heap ∧ (∀ b ∈ fp, b < s₄.heap.objs.size) ∧ s₄.heap.NoLimit ∧ cStatics ∉ wr ∧
          (∀ href : Heap, (∀ b o, s₄.heap.get? b = some o → href.get? b = some o) →
            QuietGenD X.prog X.w (genEnv scope (cloFrom X.env.cells scope.names []) s₄.heap.objs.size code bi X.env) nm [] elt (List.range s₄.heap.objs.size) wr Pf pz F href (X.A.depth + 1) (X.A.units + 8)) ∧
          (∀ a h₅ tk gs, gs.bare = true → s₄.heap.objs.size < a → h₅.objs.size = a + 1 → (∀ b o, s₄.heap.get? b = some o → h₅.get? b = some o) →
            WalksS X.prog X.w X.A.in4 a (a :: s₄.heap.objs.size :: List.range s₄.heap.objs.size) (s₄.heap.objs.size :: wr) (GenOnlyQ s₄.gens.size) (passing pz n₀ 0).length
              (fun j y => ∃ i, (passing pz n₀ 0)[j]? = some i ∧ F i y) (GenAt X.prog X.w X.A.in4 a s₄.gens.size s₄.heap.objs.size (List.range s₄.heap.objs.size) wr pz n₀ F) →
            GenAt X.prog X.w X.A.in4 a s₄.gens.size s₄.heap.objs.size (List.range s₄.heap.objs.size) wr pz n₀ F 0 { s₄ with gens := s₄.gens.push gs, toks := tk, heap := h₅ } →
            Q' (.ref a) { s₄ with gens := s₄.gens.push gs, toks := tk, heap := h₅ })) X.xe { s1 with heap := h3, toks := tk } := by
    intro code h3 tk ps' hx hsz hP3 hmore ht3
    obtain ⟨bm, obm, e1, e2, e3, e4, e5, e6, e7, e8⟩ := TB.bm
    have hcP : cStatics ≠ P := fun e => by
      obtain ⟨_, hns, _⟩ := I1.nolimit
      obtain ⟨o', es, ep, ho', hd, _⟩ := hns
      rw [e, hPs] at ho'
      cases ho'
      cases hd
    have hcl : cStatics < s1.heap.objs.size := let ⟨_, hns, _⟩ := I1.nolimit; hns.lt
    have sz2 : (s1.heap.push ob).objs.size = s1.heap.objs.size + 1 := Heap.size_push ..
    have keep3 : ∀ b u, b ≠ P → s1.heap.get? b = some u → h3.get? b = some u := fun b u hb e => hx b u hb (Heap.get?_push_of_some _ e)
    have h0lt : s1.heap.objs.size < h3.objs.size := Nat.lt_of_lt_of_le (Nat.lt_succ_self _) (by rw [sz2] at hsz; exact hsz)
    have hIP : s1.heap.objs.size ≠ P := Nat.ne_of_gt hPlt
    refine wpAny_builtinsFor (m := X.mg) (by rw [I1.ok.glob]; exact ((I1.mod.glob.keeps I1.bk).push ob).extBut hx TB.gP) e1 e2 (keep3 _ _ e4 (I1.bk _ _ e5)) e6 e7 e8 ?_
    refine ⟨s1.heap.objs.size, [s1.heap.objs.size, a], [s1.heap.objs.size], its.toArray.size, (fun i v => its.toArray[i]? = some v), (fun i h => h.IsTupleIter s1.heap.objs.size a i ∧ h.IsTuple a its.toArray), (fun _ => true), (fun i y => ∃ b, bs[i]? = some b ∧ y = .bool b), rfl,
      (fun A' hA => Walks.tuple hA s1.heap.objs.size a (Nat.ne_of_lt halt) its.toArray), ?_, ?_, lim2.extBut hx hcP, ?_, ?_, ?_⟩
    · refine ⟨?_, ?_⟩
      · obtain ⟨o2, f1, f2⟩ := hst0.1
        exact ⟨o2, hx _ _ hIP f1, f2⟩
      · obtain ⟨o2, f1, f2⟩ := hst0.2
        exact ⟨o2, hx _ _ haP f1, f2⟩
    · intro b hb
      show b < h3.objs.size
      rcases List.mem_cons.mp hb with z | z
      · rw [z]
        exact h0lt
      · rw [List.mem_singleton.mp z]
        exact Nat.lt_trans halt h0lt
    · intro z
      exact Nat.ne_of_lt hcl (List.mem_singleton.mp z)
    · intro href hhref
      refine ⟨fun A' E' i v s₂ m₂ hA hD hU hPv hn hm hk => ?_, fun A' E' i v s₂ m₂ hA hD hU hPv hp hn hm hk => ?_⟩
      · simp only [List.forIn_nil]
        exact wpAny_pure ⟨rfl, GxR.keeps_refl _⟩
      · have hv : its[i]? = some v := by simpa using hPv
        have hib : i < bs.length := by rw [← hil]; exact (List.getElem?_eq_some_iff.mp hv).1
        have hix : i < xs.length := by rw [← hbl]; exact hib
        obtain ⟨u, eu, ru⟩ := rv.get (List.getElem?_eq_getElem hix)
        rw [hv] at eu
        cases eu
        have hb2 := List.getElem?_eq_getElem hib
        refine wpAny_mono (hE i _ _ (List.getElem?_eq_getElem hix) hb2 pins s1 v I1 ru _ A' E' s₂ m₂ rfl rfl rfl hA hD hU hn hm fun b o hb e => ?_) (fun y s3 r => ⟨⟨_, hb2, r.1⟩, r.2⟩) fun _ _ e => e
        have e3 := keep3 b o hb e
        exact hk b (List.mem_range.mpr (Heap.lt_size e3)) (fun z => by
          have hlt := Heap.lt_size e
          rw [List.mem_singleton.mp z] at hlt
          exact Nat.lt_irrefl _ hlt) o (hhref b o e3)
    · intro g h5 tk5 gs hgb hag hsz5 hk5 W5 hat
      simp only [GxR.passing_true, List.length_range, List.size_toArray, hil] at W5
      have hat2 := hat
      simp only [List.size_toArray, hil] at hat2
      refine hQ bs H1 g _ hR ⟨_, _, _, _, _, W5.in4_1, hat2, ?_, fun s' hm => ?_⟩
      · intro j y sj Qj Ej hy hQj
        obtain ⟨i, hij, b, hb, rfl⟩ := hy
        obtain ⟨hj, ej⟩ := List.getElem?_eq_some_iff.mp hij
        rw [List.getElem_range] at ej
        subst ej
        have hQ2 : Qj (bAt bs j) sj := hQj
        unfold bAt at hQ2
        rw [hb] at hQ2
        exact wpAny_truthy_bool hQ2
      · obtain ⟨more, em⟩ := hmore
        have nwr : ∀ b u, s1.heap.get? b = some u → b ∉ h3.objs.size :: [s1.heap.objs.size] := fun b u e hb => by
          have hl := Heap.lt_size e
          rcases List.mem_cons.mp hb with z | z
          · rw [z] at hl
            have h9 : (h3.objs.size : Nat) < s1.heap.objs.size := hl
            omega
          · rw [List.mem_singleton.mp z] at hl
            exact Nat.lt_irrefl _ hl
        have J := GxR.inv_tab (more := more) (h' := s'.heap) (g' := s'.gens) (d' := s'.drawn) (t' := s'.toks) I1 hP (fun b u hb e => hm.heap b u (nwr b u e) (hk5 b u (keep3 b u hb e)))
          (by rw [← em]; exact hm.heap P _ (nwr P _ hPs) (hk5 P _ hP3)) (AllBare.movedS (I1.bare.push hgb) hm)
        rw [GxR.sh_eta s1 s' hm.os] at J
        exact ⟨upd H1 P (.tbl (ps ++ more)), ⟨⟨ps ++ more, upd_same, by rw [← em]; exact ht3⟩, fun b hb => upd_ne hb⟩, J⟩
  refine ⟨lim2, ?_⟩
  cases hf : codeAmong gpos ps.toList with
  | none =>
    refine wpAny_genexprCodeX hcode (cd.code hP2 ht) (cd.tab hP2) hf fun c' h' tk hx hge hlt hco' _ htab' _ => ?_
    obtain ⟨o1, vs, f1, tf, fl, tg, inF, tx, tt, op, _, _, _, _, _, _, _, _, _, htr, _⟩ := hco'
    exact cont _ h' tk _ hx (Nat.le_trans hge (Nat.le_of_lt hlt)) htab'.2 ⟨_, rfl⟩ htr
  | some cv =>
    refine wpAny_genexprCode_hit hcode (cd.code hP2 ht) hf ?_
    exact cont cv (s1.heap.push ob) s1.toks ps (Heap.ExtBut.refl _ _) (Nat.le_refl _) hP2 ⟨#[], by simp⟩ ht
/-- any(test for nm in e), all(test for nm in e), e a tuple -/
def tGenM (X : Cx) (P : Addr) (scope : Scope) (nm : Str) (elt : Expr) (f : List Bool → Bool) (te : TE) : TE := fun σ H Q => te σ H fun v H1 => ∃ (a : Addr) (xs : List V) (bs : List Bool), v = .ref a ∧ SqT X.K H1 a xs ∧ bs.length = xs.length ∧ GxR.TabG H1 P ∧
  (∀ (i : Nat) x b, xs[i]? = some x → bs[i]? = some b → ElV X P scope nm elt σ H1 x b) ∧ ∀ H2, GxR.Tabbed P H1 H2 → Q (.bl (f bs)) H2
theorem pe_anyM {c P : Addr} {elt iter : Expr} {nm : Str} {px p pos gpos : Pos} {scope : Scope} {te : TE} {k : Nat}
    (hr : Room k X.A) (hg : Gl X "any") (hm : X.mg "any" = none) (TB : GxR.TabB X.base X.mg c P) (hcode : X.env.code = .ref c) (S : GxR.GenS X.env scope nm) (hi : PE X iter te)
    (hs : ∀ v, genFold iter X.env v = pure v)
    (he : starEach [.GeneratorExp elt [⟨.Name nm px, iter, [], 0⟩] scope gpos] X.env = (false, eval (.GeneratorExp elt [⟨.Name nm px, iter, [], 0⟩] scope gpos) X.env) :: starEach [] X.env := by rfl) :
    PE X (.Call (.Name "any" p) [.GeneratorExp elt [⟨.Name nm px, iter, [], 0⟩] scope gpos] [] pos) (tGenM X P scope nm elt (·.any id) te) := by
  refine ⟨fun pins s σ H Q I h => ?_⟩
  refine wpAny_Call_Name_kw (ld_blt I hg hm boot_any ?_)
  refine PyProof.Rows.callWith_builtin1 ?_ he (by rfl)
  rw [he]
  show wpAny _ _ (spliced ((false, eval (.GeneratorExp elt [⟨.Name nm px, iter, [], 0⟩] scope gpos) X.env) :: backTo pos (starEach [] X.env))) _ _ s
  refine Calls.spliced_cons (gen_tup (R := fun bs H1 => ∀ H2, GxR.Tabbed P H1 H2 → Q (.bl (bs.any id)) H2) hr TB hcode S hi hs I h fun bs H1 g s5 hR hG => ?_)
  obtain ⟨fp, wr, G, F, St, W, hst, htr, hI⟩ := hG
  refine Calls.spliced_nil (call_any_walkS (W.self 0 _ _ _ hst ⟨g, fp, wr, G, _, F, St, _, rfl, W, hst, htr, fun s' hmv => ?_⟩))
  obtain ⟨H2, hT, J⟩ := hI s' hmv
  refine ⟨.bl _, H2, J, rfl, ?_⟩
  rw [any_bAt]
  exact hR H2 hT
theorem pe_allM {c P : Addr} {elt iter : Expr} {nm : Str} {px p pos gpos : Pos} {scope : Scope} {te : TE} {k : Nat}
    (hr : Room k X.A) (hg : Gl X "all") (hm : X.mg "all" = none) (hb : bootBuiltins "all" = some (.builtin "all")) (TB : GxR.TabB X.base X.mg c P) (hcode : X.env.code = .ref c) (S : GxR.GenS X.env scope nm) (hi : PE X iter te)
    (hs : ∀ v, genFold iter X.env v = pure v)
    (he : starEach [.GeneratorExp elt [⟨.Name nm px, iter, [], 0⟩] scope gpos] X.env = (false, eval (.GeneratorExp elt [⟨.Name nm px, iter, [], 0⟩] scope gpos) X.env) :: starEach [] X.env := by rfl) :
    PE X (.Call (.Name "all" p) [.GeneratorExp elt [⟨.Name nm px, iter, [], 0⟩] scope gpos] [] pos) (tGenM X P scope nm elt (·.all id) te) := by
  refine ⟨fun pins s σ H Q I h => ?_⟩
  refine wpAny_Call_Name_kw (ld_blt I hg hm hb ?_)
  refine PyProof.Rows.callWith_builtin1 ?_ he (by rfl)
  rw [he]
  show wpAny _ _ (spliced ((false, eval (.GeneratorExp elt [⟨.Name nm px, iter, [], 0⟩] scope gpos) X.env) :: backTo pos (starEach [] X.env))) _ _ s
  refine Calls.spliced_cons (gen_tup (R := fun bs H1 => ∀ H2, GxR.Tabbed P H1 H2 → Q (.bl (bs.all id)) H2) hr TB hcode S hi hs I h fun bs H1 g s5 hR hG => ?_)
  obtain ⟨fp, wr, G, F, St, W, hst, htr, hI⟩ := hG
  refine Calls.spliced_nil (call_all_walkS (W.self 0 _ _ _ hst ⟨g, fp, wr, G, _, F, St, _, rfl, W, hst, htr, fun s' hmv => ?_⟩))
  obtain ⟨H2, hT, J⟩ := hI s' hmv
  refine ⟨.bl _, H2, J, rfl, ?_⟩
  rw [all_bAt]
  exact hR H2 hT
end
end NL

set_option maxHeartbeats 2000000
namespace NL
open PySem PySem.Spec PyProof.Rows L2
theorem elv_mark {X : Cx} {P : Addr} {scope : Scope} {fnm : Str} {st : Stmt} {f : Addr} {fd : FuncData} {fl r1 r2 : Bool} {p p1 p2 pos : Pos} {σ : L2.St} {H1 : Hp} {k i : Nat} {m o : Addr} {is : List Int} {bs : List Bool}
    (M : MarkFn X.K fnm st f fd fl r1 r2) (hmg : X.mg fnm = some (.ref f)) (hr : Room k X.A) (hsk : scope.kind = .function) (hsl : scope.names.lookup ("option" : Str) = some .local) (hsf : scope.names.lookup ("marks" : Str) = some .free)
    (hsg : scope.names.lookup fnm = some .globalImplicit) (hclo : cloFrom X.env.cells scope.names [] = [(("marks" : Str), (X.env.cells.lookup ("marks" : Str)).getD 0)])
    (hN : X.N[i]? = some ("marks" : Str)) (hcell : X.env.kindOf ("marks" : Str) = some .cell) (hσ : σ[i]? = some (some (.ref m))) (hP : GxR.TabG H1 P)
    (hm : H1 m = some (.lst (bs.map V.bl))) (ho : H1 o = some (.tup (is.map V.int))) (hin : ∀ i ∈ is, (atI bs i).isSome = true)
    (hdb : (fnm == ("__debug__" : Str)) = false) :
    ElV X P scope "option" (.Call (.Name fnm p) [.Name "option" p1, .Name "marks" p2] [] pos) σ H1 (.ref o) (if is.any (fun i => fl ^^ mkAt bs i) then r1 else r2) := by
  intro pins s1 u I ru cenv A' E' s₂ m₂ hsc hce hgl hA hD hU hn2 hm2 hk
  obtain rfl : u = Value.ref o := ru
  obtain ⟨ps, hP, _⟩ := hP
  have hnP : ∀ b, H1 b = none → b ≠ P := fun b e z => by
    rw [z, hP] at e
    cases e
  have hb : ∀ b ob, X.base.get? b = some ob → s₂.heap.get? b = some ob := fun b ob e => hk b ob (hnP b (I.bs b ob e).2) (I.bk b ob e)
  have hKs : X.K.In s₂.heap := I.ok.mod.kin.keeps hb
  obtain ⟨its, rv, plo, _⟩ := I.tuple (a := o) (xs := is.map V.int) (.inl (.inl ho))
  obtain ⟨ms, rm, plm, hz⟩ := I.list (a := m) (xs := bs.map V.bl) (.inl (.inl hm))
  have hnT : ∀ {b : Addr} {q : HO}, H1 b = some q → (∀ qs, q ≠ .tbl qs) → b ≠ P := fun {b q} e n z => by
    rw [z, hP] at e
    exact n ps (Option.some.inj e).symm
  have ht2 : s₂.heap.IsTuple o its.toArray := by
    obtain ⟨ob, e, r⟩ := plo
    exact ⟨ob, hk o ob (hnT ho (fun qs z => nomatch z)) e, r⟩
  have hl2 : s₂.heap.IsList m ms.toArray := by
    obtain ⟨ob, e, r⟩ := plm.isList
    exact ⟨ob, hk m ob (hnT hm (fun qs z => nomatch z)) e, r⟩
  obtain ⟨mm, _, hloc⟩ := I.loc
  obtain ⟨v, rv2, hlook⟩ := hloc i _ _ hN hσ (.inr (.inl hcell))
  obtain rfl : v = Value.ref m := rv2
  obtain ⟨c, hc1, hc2⟩ : ∃ c, X.env.cells.lookup ("marks" : Str) = some c ∧ s1.heap.IsCell c (some (.ref m)) := by
    rcases hlook with ⟨h1, _⟩ | ⟨_, c, h1, h2⟩
    · rw [hcell] at h1
      cases h1
    · exact ⟨c, h1, h2⟩
  have hc3 : s₂.heap.IsCell c (some (.ref m)) := by
    obtain ⟨ob, e, r⟩ := hc2
    exact ⟨ob, hk c ob (hnP c (I.freeC _ _ hc1)) e, r⟩
  have hcl : cenv.cells.lookup ("marks" : Str) = some c := by
    rw [hce, hclo, hc1]
    rfl
  have hkind : cenv.scope.kind = .function := by rw [hsc]; exact hsk
  have kOf : ∀ x kd, scope.names.lookup x = some kd → cenv.kindOf x = some kd := fun x kd e => by
    show cenv.scope.names.lookup x = some kd
    rw [hsc]
    exact e
  refine wpAny_Call_Name_kw (Calls.Name_function_global hkind (kOf _ _ hsg) (Calls.loadGlobal_global (by rw [hgl, I.ok.glob]; exact I.mod.glob.keeps hb) hmg ?_) hdb)
  refine PySem.W.callWith_K (h₀ := X.base) I.ok.mod.kin M.F.kp ?_
  show wpAny _ _ (spliced ((false, eval (.Name "option" p1) cenv) :: (false, eval (.Name "marks" p2) cenv) :: [])) _ _ s₂
  refine Calls.spliced_cons (wpAny_Name (wpAny_loadName_local hkind (kOf _ _ hsl) hn2 hm2 ?_))
  refine Calls.spliced_cons (wpAny_Name (wpAny_loadName_free hkind (kOf _ _ hsf) hcl hc3 ?_))
  refine Calls.spliced_nil ⟨hKs, ?_⟩
  have dp := hr.dp
  exact low_call M hKs (I.ok.mod.nolimit.keeps hb) hA (by omega) ht2 hl2 rv rm (by rw [← rm.length]; exact hz) hin
end NL

set_option maxHeartbeats 2000000
namespace NL
open PySem PySem.Spec PyProof.Rows L2
/-! ### what is kept by a def whose table may grow -/
def NT : HO → Prop
  | .tbl _ => False
  | _ => True
structure Sm (P : Addr) (H H' : Hp) : Prop where
  fr : ∀ b o, NT o → H b = some o → H' b = some o
  tb : GxR.TabG H P → GxR.TabG H' P
  dom : ∀ b, H' b = none → H b = none
theorem Sm.refl {P : Addr} {H : Hp} : Sm P H H := ⟨fun _ _ _ e => e, fun h => h, fun _ e => e⟩
theorem Sm.trans {P : Addr} {H H1 H2 : Hp} (a : Sm P H H1) (b : Sm P H1 H2) : Sm P H H2 := ⟨fun c o n e => b.fr c o n (a.fr c o n e), fun h => b.tb (a.tb h), fun c e => a.dom c (b.dom c e)⟩
theorem Sm.of {P : Addr} {H H' : Hp} (s : Same H H') : Sm P H H' := ⟨fun b o _ e => s b o e, fun ⟨ps, e, t⟩ => ⟨ps, s _ _ e, t⟩, fun b e => s.free e⟩
theorem Sm.tbd {P : Addr} {H H' : Hp} (t : GxR.TabG H P) (h : GxR.Tabbed P H H') : Sm P H H' := by
  refine ⟨fun b o n e => ?_, fun _ => h.1, fun b e => ?_⟩
  · by_cases hb : b = P
    · obtain ⟨ps, e2, _⟩ := t
      rw [hb, e2] at e
      cases e
      cases n
    · rw [h.2 b hb]
      exact e
  · by_cases hb : b = P
    · obtain ⟨ps, e2, _⟩ := h.1
      rw [hb, e2] at e
      cases e
    · rw [← h.2 b hb]
      exact e
theorem Sm.tup {P : Addr} {H H' : Hp} {b : Addr} {xs : List V} (h : Sm P H H') (e : H b = some (.tup xs)) : H' b = some (.tup xs) := h.fr b _ trivial e
theorem Sm.lst {P : Addr} {H H' : Hp} {b : Addr} {xs : List V} (h : Sm P H H') (e : H b = some (.lst xs)) : H' b = some (.lst xs) := h.fr b _ trivial e
theorem Sm.dK {P : Addr} {H H' : Hp} {b : Addr} {xs : List (Key × V)} (h : Sm P H H') (e : H b = some (.dK xs)) : H' b = some (.dK xs) := h.fr b _ trivial e
theorem Sm.tp {P : Addr} {H H' : Hp} (h : Sm P H H') : Tp H H' := fun a xs e => h.tup e
theorem Sm.put {P : Addr} {H H' : Hp} {p : Addr} {o : HO} (s : Sm P H H') (hp : H p = none) (hP : p ≠ P) : Sm P H (upd H' p o) := by
  refine ⟨fun b u n e => ?_, fun t => ?_, fun b e => ?_⟩
  · rw [upd_ne (ne_of_none e hp)]
    exact s.fr b u n e
  · obtain ⟨ps, e, t⟩ := s.tb t
    exact ⟨ps, by rw [upd_ne (Ne.symm hP)]; exact e, t⟩
  · by_cases hb : b = p
    · rw [hb]
      exact hp
    · rw [upd_ne hb] at e
      exact s.dom b e
theorem Sm.seqT {P : Addr} {K : PySem.W.Frag} {H H' : Hp} {a : Addr} {xs : List V} (s : Sm P H H') (h : SqT K H a xs) : SqT K H' a xs := by
  rcases h with (h | ⟨o, h⟩) | h
  · exact .inl (.inl (s.fr _ _ trivial h))
  · exact .inl (.inr ⟨o, s.fr _ _ trivial h⟩)
  · exact .inr h
theorem Sm.seqL {P : Addr} {K : PySem.W.Frag} {H H' : Hp} {a : Addr} {xs : List V} (s : Sm P H H') (h : SqL K H a xs) : SqL K H' a xs := by
  rcases h with (h | ⟨o, h⟩) | h
  · exact .inl (.inl (s.fr _ _ trivial h))
  · exact .inl (.inr ⟨o, s.fr _ _ trivial h⟩)
  · exact .inr h
theorem TabG.ne {H : Hp} {P b : Addr} {o : HO} (t : GxR.TabG H P) (n : NT o) (e : H b = some o) : b ≠ P := fun z => by
  obtain ⟨ps, e2, _⟩ := t
  rw [z, e2] at e
  cases e
  cases n
theorem TabG.ne0 {H : Hp} {P b : Addr} (t : GxR.TabG H P) (e : H b = none) : b ≠ P := fun z => by
  obtain ⟨ps, e2, _⟩ := t
  rw [z, e2] at e
  cases e
theorem TabG.same {H H' : Hp} {P : Addr} (t : GxR.TabG H P) (s : Same H H') : GxR.TabG H' P := by
  obtain ⟨ps, e2, r⟩ := t
  exact ⟨ps, s _ _ e2, r⟩
theorem TabG.put {H : Hp} {P p : Addr} {o : HO} (t : GxR.TabG H P) (hp : p ≠ P) : GxR.TabG (upd H p o) P := by
  obtain ⟨ps, e2, r⟩ := t
  exact ⟨ps, by rw [upd_ne (Ne.symm hp)]; exact e2, r⟩
theorem Go.tab {d P : Addr} {H H' : Hp} (g : Go d H H') (h : Dr H d) (t : GxR.TabG H P) : GxR.TabG H' P := by
  obtain ⟨ps, e2, r⟩ := t
  refine ⟨ps, g.fr P _ (fun z => ?_) e2, r⟩
  obtain ⟨ns, e⟩ := h
  rw [← z, e2] at e
  cases e
/-! ### a def whose code has a table -/
theorem gens_of {env : Env} {scope : Scope} {x : Str} (a : scope.kind = .function) (b : scope.isCoroutine = false) (c : ∀ y ∈ scope.names, y.2 ≠ .cell) (d : scope.names.lookup (".0" : Str) = some NameKind.local) (e : scope.names.lookup x = some .local)
    (f : ∀ y ∈ scope.names, y.2 = .free → ∃ c, env.cells.lookup y.1 = some c) : GxR.GenS env scope x := ⟨a, b, c, d, e, f⟩
theorem cells_has {qual : Str} {sc scope : Scope} {L f : Addr} {cd : Value} (h : ∀ y ∈ scope.names, y.2 = .free → sc.names.lookup y.1 = some .cell) : ∀ y ∈ scope.names, y.2 = .free → ∃ c, (envOfC qual sc L f cd).cells.lookup y.1 = some c := fun y hy e =>
  Option.isSome_iff_exists.mp (PySem.W.cellsFrom_some _ _ _ (.inl (h y hy e)))
theorem okC {P : Program} {w : World} {K : PySem.W.Frag} {mg : Str → Option Value} {base : Heap} {x qual : Str} {st : Stmt} {f c : Addr} {fd : FuncData} {N ps : List Str} {k : Nat} {sp : Sp} (F : L2.Fun K x qual st f fd) (hc : fd.code = .ref c) (S : FnScope N ps (defScope st)) (len : ∀ vs H Q E, sp vs H Q E → vs.length = ps.length)
    (hbody : ∀ (A : Around) (outer : List Env) (s : Shared) (H : Hp) (vs : List V) (Q : VK) (E : XK), Room k (A.deeper (envOfC qual (defScope st) s.heap.objs.size f (.ref c))) → sp vs H Q E →
      ∃ t, PSs (cxOf CX0 P w K mg base N qual (defScope st) f (.ref c) A outer s H E).nox (defBody st) t ∧ t { nx := fun _ H' => Q .non H', rt := Q } (start N vs) H) : FnOk P w K mg base CX0 (k + 1) f fd ps sp := by
  obtain ⟨⟨oc, od, kV, doc, pm, an, cdv, ct, osl, rfl, lk, hcd⟩, kp⟩ := F
  obtain rfl : cdv = .ref c := hc
  refine fn_of lk hcd S len fun A outer s H vs Q E hr hsp => ?_
  obtain ⟨t, h, q⟩ := hbody A outer s H vs Q E hr hsp
  exact ⟨t, h.nox, q⟩
/-! ### forces -/
def frcF (side : Int) (os : Pos') (bs : List Bool) : Bool := if side = 0 then os.any (fun o => o.all (mkAt bs)) else os.all (fun o => o.any (mkAt bs))
section
variable {P : Program} {w : World} {K : PySem.W.Frag} {mg : Str → Option Value} {base : Heap}
def spForces (K : PySem.W.Frag) (Pt : Addr) : Sp := fun vs H Q _ => ∃ (side : Int) (v : V) (m : Addr) (os : Pos') (bs : List Bool), vs = [.int side, v, .ref m] ∧ PosIn H os v ∧ H m = some (.lst (bs.map V.bl)) ∧ GxR.TabG H Pt ∧ (∀ o ∈ os, ∀ i ∈ o, (atI bs i).isSome = true) ∧
  ∀ H', Sm Pt H H' → Q (.bl (frcF side os bs)) H'
theorem not_any {α : Type} (l : List α) (p : α → Bool) : (if l.any (fun i => true ^^ p i) = true then false else true) = l.all p := by
  cases h : l.any (fun i => true ^^ p i) with
  | true =>
    obtain ⟨x, hx, hp⟩ := List.any_eq_true.mp h
    rw [if_pos rfl]
    exact (List.all_eq_false.mpr ⟨x, hx, by simpa using hp⟩).symm
  | false =>
    rw [if_neg Bool.false_ne_true]
    refine (List.all_eq_true.mpr fun x hx => ?_).symm
    have := List.any_eq_false.mp h x hx
    simpa using this
end
end NL

set_option maxHeartbeats 2000000
namespace NL
open PySem PySem.Spec PyProof.Rows L2
/-- the end of a law whose program holds a generator expression in the def nm -/
theorem walk_tab {l : PySem.W.OpenLaw} {n k : Nat} {q : Program} {loose : List Str} {XP : (Str → Option Value) → Heap → Prop} {YP : World → Heap → Prop} {d : DefRec} {K : Params → PySem.W.Frag} {CX : World → CXT} {x : Str} (nm : Str)
    (hn : l.most = some n) (hn2 : n ≤ sizeLine) (hdf : d.params.defaults = []) (hr : Room k callerA) (hrec : ((recsOf q).any fun e => e.name == nm) = true) (hY : ∀ (w : World) (h : Heap), YP w h → (K w.params).In h)
    (F : ∀ (w : World) (mg : Str → Option Value) (fa : Addr) (h : Heap), YP w h → (K w.params).In h → h.Ns mainGlobals mg → mg d.name = some (.ref fa) → (∀ f, mg nm = some (.ref f) → LamX.OwnTab (K w.params) f h) → LamX.LawAtS l w (K w.params) (CX w) k n x mg fa h)
    (hCX : ∀ (w : World) (H : Hp) (s : Shared) (e : Value) (s' : Shared), CX w [] H s (fun _ _ _ => False) e s' → False) :
    PySem.W.WalkO q loose XP YP l.row.toRowW d [] (fun f vs => PySem.call f vs) := by
  refine Att.attach_callB hn hdf fun w s0 s1 mg mb fa ob pm cd doc a vs ns Gt Y hob hd hcd hmg hobj hints hlen hbits hg => ?_
  have KX := hY w _ Y
  have own : ∀ f, mg nm = some (.ref f) → LamX.OwnTab (K w.params) f s1.heap := fun f hf c P o1 fd1 e dd vs1 sl k1 k2 k3 k4 k5 => by
    obtain ⟨dL, hm, hn1⟩ := List.any_eq_true.mp hrec
    have hn3 : dL.name = nm := beq_iff_eq.mp hn1
    obtain ⟨a', o', fd', c', P', h1, h2, h3, h4, h5, h6⟩ := Gt.T.tab dL hm
    rw [hn3, hf] at h1
    cases h1
    rw [KX _ _ k1] at h2
    cases h2
    rw [k2] at h3
    cases h3
    rw [k3] at h4
    cases h4
    obtain ⟨⟨oc, vc, e1, _, e3, e4⟩, hP⟩ := h6
    rw [KX _ _ k4] at e1
    cases e1
    cases e3
    rw [k5] at e4
    cases e4
    exact hP
  obtain ⟨fd, cs, sp, hT, nT, C, hb, hsp, hF⟩ := F w mg fa _ Y KX Gt.T.g hmg own
  exact LamX.law_callTs KX Gt.T.g Gt.T.b Gt.T.builtins Gt.T.nolimit hg hT nT C Gt.T.bmain hobj hints (Nat.le_trans hlen hn2) hr hF hb (fun H hH hS => hsp H a ns hlen hbits hH hS) fun H e s' => hCX w H s1 e s'
/-- the law's promise where a table stands at Pt -/
def spLawT (K : PySem.W.Frag) (Pt : Addr) : Sp := fun vs H Q _ => ∃ (a : Addr) (ns : List Int), vs = [.ref a] ∧ SqL K H a (ns.map V.int) ∧ ns.length ≤ 63 ∧ GxR.TabG H Pt ∧ ∀ H', Q (.bl true) H'
end NL

namespace NL
open PySem PySem.Spec PyProof.Rows L2
/-! ### marks as a function of positions from -1 on -/
abbrev Mk' := Int → Bool
def bsO (n : Nat) (M : Mk') : List Bool := (List.range n).map (fun i : Nat => M (i : Int)) ++ [M (-1)]
theorem bsO_len (n : Nat) (M : Mk') : (bsO n M).length = n + 1 := by
  unfold bsO
  rw [List.length_append, List.length_map, List.length_range]
  rfl
theorem bsO_nat {n : Nat} {M : Mk'} {k : Nat} (h : k < n) : (bsO n M)[k]? = some (M (k : Int)) := by
  unfold bsO
  rw [List.getElem?_append_left (by rw [List.length_map, List.length_range]; exact h), List.getElem?_map, List.getElem?_range h]
  rfl
theorem bsO_last {n : Nat} {M : Mk'} : (bsO n M)[n]? = some (M (-1)) := by
  unfold bsO
  rw [List.getElem?_append_right (by rw [List.length_map, List.length_range]; exact Nat.le_refl n), List.length_map, List.length_range, Nat.sub_self]
  rfl
theorem bsO_at {n : Nat} {M : Mk'} {p : Int} (h0 : -1 ≤ p) (h1 : p < n) : atI (bsO n M) p = some (M p) := by
  by_cases hp : 0 ≤ p
  · have := atI_nat (bsO_nat (M := M) (show p.toNat < n by omega))
    rw [show ((p.toNat : Nat) : Int) = p by omega] at this
    exact this
  · have : p = -1 := by omega
    subst this
    unfold atI ixN
    rw [if_neg (by decide), if_pos (by rw [bsO_len]; omega), bsO_len, show ((-1 : Int) + ((n + 1 : Nat) : Int)).toNat = n by omega]
    exact bsO_last
theorem atI_mapO {α β : Type} (g : α → β) (xs : List α) (i : Int) : atI (xs.map g) i = (atI xs i).map g := by
  unfold atI
  rw [List.length_map]
  cases ixN xs.length i with
  | none => rfl
  | some j => exact List.getElem?_map
theorem bsO_V {n : Nat} {M : Mk'} {p : Int} (h0 : -1 ≤ p) (h1 : p < n) : atI ((bsO n M).map V.bl) p = some (.bl (M p)) := by
  rw [atI_mapO, bsO_at h0 h1]
  rfl
theorem bsO_mk {n : Nat} {M : Mk'} {p : Int} (h0 : -1 ≤ p) (h1 : p < n) : mkAt (bsO n M) p = M p := by
  unfold mkAt
  rw [bsO_at h0 h1]
  rfl
theorem bsO_ext {n : Nat} {M N : Mk'} (h : ∀ p : Int, -1 ≤ p → p < n → M p = N p) : bsO n M = bsO n N := by
  unfold bsO
  rw [h (-1) (Int.le_refl _) (by omega)]
  congr 1
  exact List.map_congr_left fun k hk => h _ (by omega) (by have := List.mem_range.mp hk; omega)
theorem bsO_set {n : Nat} {M : Mk'} {p : Int} (h0 : 0 ≤ p) (h1 : p < n) : (bsO n M).set p.toNat true = bsO n (fun x => M x || decide (x = p)) := by
  refine List.ext_getElem? fun k => ?_
  rw [List.getElem?_set]
  by_cases hk : p.toNat = k
  · rw [if_pos hk, if_pos (by rw [bsO_len]; omega)]
    rw [bsO_nat (show k < n by omega)]
    have : ((k : Nat) : Int) = p := by omega
    rw [this, decide_eq_true rfl, Bool.or_true]
  · rw [if_neg hk]
    rcases Nat.lt_trichotomy k n with h | h | h
    · rw [bsO_nat h, bsO_nat h, decide_eq_false (by omega), Bool.or_false]
    · subst h
      rw [bsO_last, bsO_last, decide_eq_false (by omega), Bool.or_false]
    · rw [List.getElem?_eq_none (by rw [bsO_len]; omega), List.getElem?_eq_none (by rw [bsO_len]; omega)]
/-! ### round by round -/
def frcM (side : Int) (os : Pos') (M : Mk') : Bool := if side = 0 then os.any (fun o => o.all M) else os.all (fun o => o.any M)
theorem any_congr' {α : Type} {l : List α} {f g : α → Bool} (h : ∀ x ∈ l, f x = g x) : l.any f = l.any g := by
  induction l with
  | nil => rfl
  | cons a r ih =>
    rw [List.any_cons, List.any_cons, h a (List.mem_cons_self ..), ih fun x hx => h x (List.mem_cons_of_mem _ hx)]
theorem all_congr' {α : Type} {l : List α} {f g : α → Bool} (h : ∀ x ∈ l, f x = g x) : l.all f = l.all g := by
  induction l with
  | nil => rfl
  | cons a r ih =>
    rw [List.all_cons, List.all_cons, h a (List.mem_cons_self ..), ih fun x hx => h x (List.mem_cons_of_mem _ hx)]
theorem frcM_ext {side : Int} {os : Pos'} {M N : Mk'} (h : ∀ o ∈ os, ∀ p ∈ o, M p = N p) : frcM side os M = frcM side os N := by
  unfold frcM
  split
  · exact any_congr' fun o ho => all_congr' fun p hp => h o ho p hp
  · exact all_congr' fun o ho => any_congr' fun p hp => h o ho p hp
theorem frcF_bsO {side : Int} {os : Pos'} {n : Nat} {M : Mk'} (h : ∀ o ∈ os, ∀ p ∈ o, -1 ≤ p ∧ p < (n : Int)) : frcF side os (bsO n M) = frcM side os M := by
  unfold frcF frcM
  split
  · exact any_congr' fun o ho => all_congr' fun p hp => bsO_mk (h o ho p hp).1 (h o ho p hp).2
  · exact all_congr' fun o ho => any_congr' fun p hp => bsO_mk (h o ho p hp).1 (h o ho p hp).2
def psO (A : Ar) (p : Int) : Pos' := if 0 ≤ p then (A[p.toNat]?).getD [] else []
theorem psO_at {A : Ar} {p : Int} {os : Pos'} (h0 : 0 ≤ p) (h : A[p.toNat]? = some os) : psO A p = os := by
  unfold psO
  rw [if_pos h0, h]
  rfl
/-- all successors are positions or -1 -/
def InA (A : Ar) (n : Nat) : Prop := ∀ os ∈ A, ∀ o ∈ os, ∀ p ∈ o, -1 ≤ p ∧ p < (n : Int)
theorem psO_in {A : Ar} {n : Nat} (h : InA A n) (p : Int) : ∀ o ∈ psO A p, ∀ x ∈ o, -1 ≤ x ∧ x < (n : Int) := by
  unfold psO
  split
  · cases hq : A[p.toNat]? with
    | none => intro o ho; cases ho
    | some os => exact h os (List.mem_of_getElem? hq)
  · intro o ho; cases ho
def nxM (A : Ar) (side : Int) (am : List Int) (M : Mk') : Mk' := fun p => M p || (decide (p ∈ am) && frcM side (psO A p) M)
def mr (A : Ar) (side : Int) (am : List Int) (M : Mk') : Nat → Mk'
  | 0 => M
  | k + 1 => nxM A side am (mr A side am M k)
section
variable {A : Ar} {side : Int} {am : List Int} {M : Mk'}
theorem mr_up {p : Int} {k : Nat} (h : mr A side am M k p = true) : mr A side am M (k + 1) p = true := by
  show (mr A side am M k p || _) = true
  rw [h, Bool.true_or]
theorem mr_le {p : Int} {j k : Nat} (h : j ≤ k) (e : mr A side am M j p = true) : mr A side am M k p = true := by
  induction h with
  | refl => exact e
  | step _ ih => exact mr_up ih
theorem mr_out {p : Int} (h : p ∉ am) : ∀ k, mr A side am M k p = M p
  | 0 => rfl
  | k + 1 => by
    show (mr A side am M k p || (decide (p ∈ am) && _)) = M p
    rw [decide_eq_false h, Bool.false_and, Bool.or_false, mr_out h k]
theorem mr_stop {n : Nat} (hA : InA A n) {K : Nat} (h : ∀ p, -1 ≤ p → p < (n : Int) → mr A side am M (K + 1) p = mr A side am M K p) : ∀ L, K ≤ L → ∀ p, -1 ≤ p → p < (n : Int) → mr A side am M L p = mr A side am M K p := by
  intro L hL
  induction hL with
  | refl => intro p _ _; rfl
  | step _ ih =>
    rename_i L _
    intro p h0 h1
    show (mr A side am M L p || (decide (p ∈ am) && frcM side (psO A p) (mr A side am M L))) = _
    rw [ih p h0 h1, frcM_ext (N := mr A side am M K) fun o ho x hx => ih x (psO_in hA p o ho x hx).1 (psO_in hA p o ho x hx).2]
    exact h p h0 h1
/-- the round in which a position is marked first -/
def IsRk (f : Nat → Mk') (p : Int) : Option Nat → Prop
  | some r => f r p = true ∧ ∀ j, j < r → f j p = false
  | none => ∀ j, f j p = false
theorem IsRk.uniq {f : Nat → Mk'} {p : Int} : ∀ {a b : Option Nat}, IsRk f p a → IsRk f p b → a = b
  | none, none, _, _ => rfl
  | some r, none, h, g => by
    have := g r
    rw [h.1] at this
    cases this
  | none, some r, g, h => by
    have := g r
    rw [h.1] at this
    cases this
  | some r, some q, h, g => by
    rcases Nat.lt_trichotomy r q with z | z | z
    · have := g.2 r z
      rw [h.1] at this
      cases this
    · rw [z]
    · have := h.2 q z
      rw [g.1] at this
      cases this
/-- how many of the first n positions are marked -/
def cnt (n : Nat) (f : Mk') : Nat := ((List.range n).filter (fun i : Nat => f (i : Int))).length
theorem cnt_le (n : Nat) (f : Mk') : cnt n f ≤ n := by
  have := List.length_filter_le (fun i : Nat => f (i : Int)) (List.range n)
  rw [List.length_range] at this
  exact this
theorem cnt_s (n : Nat) (f : Mk') : cnt (n + 1) f = cnt n f + (if f (n : Int) = true then 1 else 0) := by
  unfold cnt
  rw [List.range_succ, List.filter_append, List.length_append]
  congr 1
  rw [List.filter_cons]
  cases h : f (n : Int) with
  | true => rfl
  | false => rfl
theorem cnt_mono {f g : Mk'} (h : ∀ p, f p = true → g p = true) : ∀ n, cnt n f ≤ cnt n g
  | 0 => Nat.le_refl _
  | n + 1 => by
    have ih := cnt_mono h n
    rw [cnt_s, cnt_s]
    cases hf : f (n : Int) with
    | true => rw [h _ hf]; simp; exact ih
    | false =>
      rw [if_neg Bool.false_ne_true]
      omega
theorem cnt_lt {f g : Mk'} (h : ∀ p, f p = true → g p = true) : ∀ {n k : Nat}, k < n → f (k : Int) = false → g (k : Int) = true → cnt n f < cnt n g
  | 0, k, hk, _, _ => absurd hk (Nat.not_lt_zero k)
  | n + 1, k, hk, hf, hg => by
    rw [cnt_s, cnt_s]
    by_cases hkn : k = n
    · subst hkn
      have := cnt_mono h k
      rw [hf, hg, if_pos rfl, if_neg Bool.false_ne_true]
      omega
    · have ih := cnt_lt h (show k < n by omega) hf hg
      cases hf2 : f (n : Int) with
      | true => rw [h _ hf2]; simp; exact ih
      | false =>
        rw [if_neg Bool.false_ne_true]
        omega
theorem cnt_full {f : Mk'} : ∀ {n : Nat}, cnt n f = n → ∀ k, k < n → f (k : Int) = true
  | 0, _, k, hk => absurd hk (Nat.not_lt_zero k)
  | n + 1, h, k, hk => by
    have h1 := cnt_le n f
    rw [cnt_s] at h
    cases hf : f (n : Int) with
    | true =>
      rw [hf, if_pos rfl] at h
      by_cases hkn : k = n
      · rw [hkn]; exact hf
      · exact cnt_full (show cnt n f = n by omega) k (by omega)
    | false =>
      rw [hf, if_neg Bool.false_ne_true] at h
      omega
/-- where each of the first rounds marks one more, all n positions are marked in round n -/
theorem cnt_rounds {n : Nat} {f : Nat → Mk'} (up : ∀ k p, f k p = true → f (k + 1) p = true) : ∀ K, (∀ k, k < K → ∃ i : Nat, i < n ∧ f k (i : Int) = false ∧ f (k + 1) (i : Int) = true) → K ≤ cnt n (f K)
  | 0, _ => Nat.zero_le _
  | K + 1, h => by
    have ih := cnt_rounds up K fun k hk => h k (by omega)
    obtain ⟨i, hi, h1, h2⟩ := h K (Nat.lt_succ_self K)
    have := cnt_lt (fun p hp => up K p hp) hi h1 h2
    omega
end
end NL

set_option maxHeartbeats 4000000
namespace NL
open PySem PySem.Spec PyProof.Rows L2
/-- an item of a list or a tuple -/
def rIxQ (K : PySem.W.Frag) : R2 := fun x y H Q => ∃ p xs i v, x = .ref p ∧ y = .int i ∧ (SqL K H p xs ∨ SqT K H p xs) ∧ atI xs i = some v ∧ Q v H
theorem ix_seqK {X : Cx} {K : PySem.W.Frag} (h : X.K = K) : IxR X (rIxQ K) := by
  subst h
  intro value slice pins s σ H x y v u Q I rx ry q hs
  obtain ⟨p, xs, i, z, e1, e2, hq | hq, he, q⟩ := q
  · exact ix_list value slice pins s σ H x y v u Q I rx ry ⟨p, xs, i, z, e1, e2, hq, he, q⟩ hs
  · exact ix_tup value slice pins s σ H x y v u Q I rx ry ⟨p, xs, i, z, e1, e2, hq, he, q⟩ hs
/-- an arena, a tuple or a list of positions -/
def ArQ (H : Hp) (A : Ar) (v : V) : Prop := ∃ b xs, v = .ref b ∧ (H b = some (.lst xs) ∨ H b = some (.tup xs)) ∧ Each (PosIn H) A xs
theorem ArQ.of {H : Hp} {A : Ar} {v : V} (h : ArIn H A v) : ArQ H A v := by
  obtain ⟨b, xs, e, q, r⟩ := h
  exact ⟨b, xs, e, .inr q, r⟩
theorem ArQ.sm {P : Addr} {H H' : Hp} {A : Ar} {v : V} (s : Sm P H H') (h : ArQ H A v) : ArQ H' A v := by
  obtain ⟨b, xs, e, q, r⟩ := h
  refine ⟨b, xs, e, ?_, r.mono fun a x => PosIn.tp s.tp⟩
  rcases q with q | q
  · exact .inl (s.lst q)
  · exact .inr (s.tup q)
theorem seqQ {K : PySem.W.Frag} {H : Hp} {b : Addr} {xs : List V} (h : H b = some (.lst xs) ∨ H b = some (.tup xs)) : SqL K H b xs ∨ SqT K H b xs := by
  rcases h with h | h
  · exact .inl (sqd h)
  · exact .inr (sqt h)
/-- what the dict of steps says after k rounds -/
def DkR (f : Nat → Mk') (k : Nat) (kvs : List (Key × V)) : Prop := ∀ p : Int, ((f k p = false ∨ f 0 p = true) → valV kvs (Sum.inl p : Key) = none) ∧ (f k p = true → f 0 p = false → ∃ r, r ≤ k ∧ valV kvs (Sum.inl p : Key) = some (.int (r : Nat)) ∧ f r p = true ∧ ∀ j, j < r → f j p = false)
/-- .. of a position in the end -/
theorem DkR.rk {A : Ar} {side : Int} {am : List Int} {M : Mk'} {n K : Nat} {kvs : List (Key × V)} (h : DkR (mr A side am M) K kvs) (hst : ∀ L, K ≤ L → ∀ p, -1 ≤ p → p < (n : Int) → mr A side am M L p = mr A side am M K p) {p : Int} (h0 : -1 ≤ p) (h1 : p < n) :
    ∃ ro : Option Nat, IsRk (mr A side am M) p ro ∧ (M p = true → ro = some 0) ∧ (M p = false → valV kvs (Sum.inl p : Key) = ro.map fun r : Nat => V.int (r : Int)) := by
  by_cases hM : M p = true
  · exact ⟨some 0, ⟨hM, fun j hj => absurd hj (Nat.not_lt_zero j)⟩, fun _ => rfl, fun e => by rw [hM] at e; cases e⟩
  · have hM' : M p = false := by simpa using hM
    by_cases hK : mr A side am M K p = true
    · obtain ⟨r, hr, hv, h2, h3⟩ := (h p).2 hK hM'
      exact ⟨some r, ⟨h2, h3⟩, fun e => absurd e hM, fun _ => hv⟩
    · have hK' : mr A side am M K p = false := by simpa using hK
      refine ⟨none, fun j => ?_, fun e => absurd e hM, fun _ => (h p).1 (.inl hK')⟩
      rcases Nat.le_total K j with z | z
      · rw [hst j z p h0 h1]
        exact hK'
      · cases hj : mr A side am M j p with
        | false => rfl
        | true => exact absurd (mr_le z hj) hK
theorem putK_len' {κ : Type} [DecidableEq κ] (c : List (κ × V)) (k : κ) (x : V) : (putK c k x).length ≤ c.length + 1 := by
  unfold putK
  split
  · rw [List.length_map]
    exact Nat.le_succ _
  · rw [List.length_append]
    exact Nat.le_refl _
theorem dp_intsG {K : PySem.W.Frag} {H : Hp} : ∀ l : List Int, DpAll K H (l.map V.int) (l.map PyData.int)
  | [] => .nil
  | a :: r => .cons (.int a) (dp_intsG r)
theorem lay_intsG : ∀ l : List Int, PyData.canLayAll0 (l.map PyData.int) = true ∧ PyData.depthAll (l.map PyData.int) = 0
  | [] => ⟨rfl, rfl⟩
  | a :: r => by
    obtain ⟨h1, h2⟩ := lay_intsG r
    refine ⟨?_, ?_⟩
    · show (true && PyData.canLayAll0 (r.map PyData.int)) = true
      rw [h1]
      rfl
    · show max 0 (PyData.depthAll (r.map PyData.int)) = 0
      rw [h2]
      rfl
theorem shaped_lstG (l : List Int) : SeqAt.shaped (.list (l.map PyData.int)) = true := by
  obtain ⟨h1, h2⟩ := lay_intsG l
  show (PyData.canLayAll0 (l.map PyData.int) && decide (PyData.depthAll (l.map PyData.int) + 1 ≤ 64)) = true
  rw [h1, h2]
  rfl
theorem foldK_take {α : Type} {l : List α} {j : Nat} {x : α} (h : l[j]? = some x) (y : α) : y ∈ l.take (j + 1) ↔ y ∈ l.take j ∨ y = x := by
  rw [List.take_add_one, h, List.mem_append]
  simp
section
variable {P : Program} {w : World} {K : PySem.W.Frag} {mg : Str → Option Value} {base : Heap}
def spSteps (K : PySem.W.Frag) (Pt : Addr) : Sp := fun vs H Q _ => ∃ (v : V) (A : Ar) (side : Int) (ml al : Addr) (M : Mk') (am : List Int), vs = [v, .int side, .ref ml, .ref al] ∧ ArQ H A v ∧ A.length ≤ 500 ∧ InA A A.length ∧ H ml = some (.lst ((bsO A.length M).map V.bl)) ∧
  H al = some (.lst (am.map V.int)) ∧ am.length ≤ 500 ∧ (∀ p ∈ am, 0 ≤ p ∧ p < (A.length : Int)) ∧ GxR.TabG H Pt ∧
  ∀ D kvs k H', Sm Pt H H' → H D = none → H' D = some (.dK kvs) → DkR (mr A side am M) k kvs → (∀ L, k ≤ L → ∀ p, -1 ≤ p → p < (A.length : Int) → mr A side am M L p = mr A side am M k p) → Q (.ref D) H'
end
end NL

set_option maxHeartbeats 4000000
namespace NL
open PySem PySem.Spec PyProof.Rows L2
theorem rgA_ints (a b : Int) : rgV a b = ((List.range (b - a).toNat).map fun i : Nat => a + (i : Int)).map V.int := by
  unfold rgV
  rw [List.map_map] <;> rfl
/-- the first n positions -/
def psA (n : Nat) : List Int := (List.range n).map fun i : Nat => (i : Int)
theorem psA_mem {n : Nat} {p : Int} : p ∈ psA n ↔ 0 ≤ p ∧ p < (n : Int) := by
  unfold psA
  rw [List.mem_map]
  constructor
  · rintro ⟨i, hi, rfl⟩
    have := List.mem_range.mp hi
    omega
  · rintro ⟨h0, h1⟩
    exact ⟨p.toNat, List.mem_range.mpr (by omega), by omega⟩
theorem psA_len (n : Nat) : (psA n).length = n := by
  unfold psA
  rw [List.length_map, List.length_range]
theorem op_in_seqK {X : Cx} {K : PySem.W.Frag} (h : X.K = K) : OpR X (compareOp .In) (rIn K false) := by
  subst h
  exact op_in_seq
theorem op_notIn_seqK {X : Cx} {K : PySem.W.Frag} (h : X.K = K) : OpR X (compareOp .NotIn) (rIn K true) := by
  subst h
  exact op_notIn_seq
theorem SqT.same {K : PySem.W.Frag} {H H' : Hp} {a : Addr} {xs : List V} (s : Same H H') (h : SqT K H a xs) : SqT K H' a xs := (Sm.of (P := 0) s).seqT h
def rkV : Option Nat → V
  | none => .non
  | some r => .int (r : Nat)
/-- marks of the positions, and of being out: o -/
def mkO (o : Bool) (B : Int → Bool) : Mk' := fun p => if p = -1 then o else B p
theorem bsO_mkO (n : Nat) (o : Bool) (B : Int → Bool) : bsO n (mkO o B) = ((List.range n).map fun i : Nat => B (i : Int)) ++ [o] := by
  unfold bsO
  have h : ∀ k : Nat, mkO o B (k : Int) = B (k : Int) := fun k => if_neg (by omega)
  rw [show mkO o B (-1) = o from if_pos rfl, show (fun i : Nat => mkO o B (i : Int)) = fun i : Nat => B (i : Int) from funext h]
/-- the ranks rs are those of the marks M -/
def RksAt (A : Ar) (side : Int) (M : Mk') (rs : List V) : Prop := rs.length = A.length ∧ ∀ (k : Nat), k < A.length → ∃ ro, IsRk (mr A side (psA A.length) M) (k : Int) ro ∧ rs[k]? = some (rkV ro)
section
variable {P : Program} {w : World} {K : PySem.W.Frag} {mg : Str → Option Value} {base : Heap}
def spRanks (K : PySem.W.Frag) (Pt : Addr) : Sp := fun vs H Q _ => ∃ (v : V) (A : Ar) (side : Int) (ml : Addr) (B : Int → Bool), vs = [v, .int side, .ref ml] ∧ ArQ H A v ∧ A.length ≤ 500 ∧ InA A A.length ∧ H ml = some (.lst (((List.range A.length).map fun i : Nat => B (i : Int)).map V.bl)) ∧ GxR.TabG H Pt ∧
  ∀ p rs H', Sm Pt H H' → H p = none → H' p = some (.lst rs) → RksAt A side (mkO (decide (side = 1)) B) rs → Q (.ref p) H'
/-! ### come_ranks, stay_ranks -/
theorem dec_V {a b : Int} : decide (V.int a = V.int b) = decide (a = b) := by
  rw [dec_int, Bool.beq_eq_decide_eq]
def spComeR (K : PySem.W.Frag) (Pt : Addr) : Sp := fun vs H Q _ => ∃ (v : V) (A : Ar) (hp : Addr) (hm : List Int), vs = [v, .ref hp] ∧ ArQ H A v ∧ A.length ≤ 500 ∧ InA A A.length ∧ H hp = some (.tup (hm.map V.int)) ∧ GxR.TabG H Pt ∧
  ∀ p rs H', Sm Pt H H' → H p = none → H' p = some (.lst rs) → RksAt A 0 (mkO false (fun p => decide (p ∈ hm))) rs → Q (.ref p) H'
def spStayR (K : PySem.W.Frag) (Pt : Addr) : Sp := fun vs H Q _ => ∃ (v : V) (A : Ar) (hp : Addr) (hm : List Int), vs = [v, .ref hp] ∧ ArQ H A v ∧ A.length ≤ 500 ∧ InA A A.length ∧ (SqL K H hp (hm.map V.int) ∨ SqT K H hp (hm.map V.int)) ∧ GxR.TabG H Pt ∧
  ∀ p rs H', Sm Pt H H' → H p = none → H' p = some (.lst rs) → RksAt A 1 (mkO true (fun p => !decide (p ∈ hm))) rs → Q (.ref p) H'
end
end NL

namespace NL
open PySem PySem.Spec PyProof.Rows L2
/-! ### a list of ints by places -/
def lzF (n : Nat) (φ : Nat → Int) : List Int := (List.range n).map φ
theorem lzF_len (n : Nat) (φ : Nat → Int) : (lzF n φ).length = n := by unfold lzF; rw [List.length_map, List.length_range]
theorem lzF_at {n : Nat} {φ : Nat → Int} {k : Nat} (h : k < n) : (lzF n φ)[k]? = some (φ k) := by
  unfold lzF
  rw [List.getElem?_map, List.getElem?_range h]
  rfl
theorem lzF_get {n : Nat} {φ : Nat → Int} {k : Int} (h0 : 0 ≤ k) (h1 : k < n) : atI ((lzF n φ).map V.int) k = some (.int (φ k.toNat)) := by
  have := atI_nat (j := k.toNat) (show ((lzF n φ).map V.int)[k.toNat]? = some (V.int (φ k.toNat)) by rw [List.getElem?_map, lzF_at (by omega)]; rfl)
  rw [show ((k.toNat : Nat) : Int) = k by omega] at this
  exact this
theorem lzF_ext {n : Nat} {φ ψ : Nat → Int} (h : ∀ k, k < n → φ k = ψ k) : lzF n φ = lzF n ψ := List.map_congr_left fun k hk => h k (List.mem_range.mp hk)
theorem lzF_inj {n : Nat} {φ ψ : Nat → Int} (h : lzF n φ = lzF n ψ) (k : Nat) (hk : k < n) : φ k = ψ k := by
  have := lzF_at (φ := φ) hk
  rw [h, lzF_at hk] at this
  exact (Option.some.inj this).symm
theorem lzF_set {n i : Nat} {φ : Nat → Int} {c : Int} (hi : i < n) : ((lzF n φ).map V.int).set i (.int c) = (lzF n fun k => if k = i then c else φ k).map V.int := by
  refine List.ext_getElem? fun k => ?_
  rw [List.getElem?_set]
  by_cases hk : i = k
  · subst hk
    rw [if_pos rfl, if_pos (by rw [List.length_map, lzF_len]; exact hi), List.getElem?_map, lzF_at hi, Option.map_some, if_pos rfl]
  · rw [if_neg hk, List.getElem?_map, List.getElem?_map]
    rcases Nat.lt_or_ge k n with h | h
    · rw [lzF_at h, lzF_at h, if_neg (fun e => hk e.symm)]
    · rw [List.getElem?_eq_none (by rw [lzF_len]; exact h), List.getElem?_eq_none (by rw [lzF_len]; exact h)]
theorem lzF_snoc (n : Nat) (φ : Nat → Int) : (lzF (n + 1) φ).map V.int = (lzF n φ).map V.int ++ [V.int (φ n)] := by
  unfold lzF
  rw [List.range_succ, List.map_append, List.map_append]
  rfl
theorem eqv_intsG : ∀ l m : List Int, PyData.eqvAll (l.map PyData.int) (m.map PyData.int) = true → l = m
  | [], [], _ => rfl
  | [], b :: m, h => by cases h
  | a :: l, [], h => by cases h
  | a :: l, b :: m, h => by
    have h' : ((a == b) && PyData.eqvAll (l.map PyData.int) (m.map PyData.int)) = true := h
    rw [Bool.and_eq_true] at h'
    rw [eq_of_beq h'.1, eqv_intsG l m h'.2]
theorem eqv_reflG : ∀ l : List Int, PyData.eqvAll (l.map PyData.int) (l.map PyData.int) = true
  | [] => rfl
  | a :: l => by
    show ((a == a) && PyData.eqvAll (l.map PyData.int) (l.map PyData.int)) = true
    rw [eqv_reflG l, beq_self_eq_true]
    rfl
theorem inT_intG {x : Int} {l : List Int} : (V.bl (if false = true then !inV (V.int x) (l.map V.int) else inV (V.int x) (l.map V.int))) = V.bl (decide (x ∈ l)) := by
  rw [if_neg Bool.false_ne_true, int_in]
/-! ### the rounds of marks, told as the round of each position (-1: none yet) -/
def hz (f : Nat → Mk') : Nat → Int → Int
  | 0, p => if f 0 p = true then 0 else -1
  | k + 1, p => if 0 ≤ hz f k p then hz f k p else if f (k + 1) p = true then ((k + 1 : Nat) : Int) else -1
theorem hz_ge (f : Nat → Mk') : ∀ k p, -1 ≤ hz f k p
  | 0, p => by unfold hz; split <;> omega
  | k + 1, p => by
    unfold hz
    split
    · exact hz_ge f k p
    · split <;> omega
theorem hz_le (f : Nat → Mk') : ∀ k p, hz f k p ≤ (k : Int)
  | 0, p => by unfold hz; split <;> omega
  | k + 1, p => by
    have := hz_le f k p
    unfold hz
    split
    · omega
    · split <;> omega
theorem up_le {f : Nat → Mk'} (up : ∀ k p, f k p = true → f (k + 1) p = true) {p : Int} {j k : Nat} (h : j ≤ k) (e : f j p = true) : f k p = true := by
  induction h with
  | refl => exact e
  | step _ ih => exact up _ _ ih
section
variable {f : Nat → Mk'} (up : ∀ k p, f k p = true → f (k + 1) p = true)
include up
theorem hz_says : ∀ k p, (hz f k p < 0 → f k p = false) ∧ (0 ≤ hz f k p → f k p = true ∧ f (hz f k p).toNat p = true ∧ ∀ j, j < (hz f k p).toNat → f j p = false)
  | 0, p => by
    unfold hz
    cases h : f 0 p with
    | true =>
      rw [if_pos rfl]
      exact ⟨fun z => absurd z (by decide), fun _ => ⟨rfl, h, fun j hj => absurd hj (Nat.not_lt_zero j)⟩⟩
    | false =>
      rw [if_neg Bool.false_ne_true]
      exact ⟨fun _ => rfl, fun z => absurd z (by decide)⟩
  | k + 1, p => by
    obtain ⟨h1, h2⟩ := hz_says k p
    unfold hz
    by_cases h : 0 ≤ hz f k p
    · rw [if_pos h]
      obtain ⟨g1, g2, g3⟩ := h2 h
      exact ⟨fun z => absurd h (by omega), fun _ => ⟨up k p g1, g2, g3⟩⟩
    · rw [if_neg h]
      have hk := h1 (by omega)
      cases hf : f (k + 1) p with
      | true =>
        rw [if_pos rfl]
        refine ⟨fun z => by omega, fun _ => ⟨rfl, hf, fun j hj => ?_⟩⟩
        have hj2 : j ≤ k := by
          have : (((k + 1 : Nat) : Int)).toNat = k + 1 := Int.toNat_natCast _
          omega
        cases hfj : f j p with
        | false => rfl
        | true =>
          have : f k p = true := up_le up hj2 hfj
          rw [this] at hk
          cases hk
      | false =>
        rw [if_neg Bool.false_ne_true]
        exact ⟨fun _ => rfl, fun z => absurd z (by decide)⟩
end
def zOf : Option Nat → Int
  | none => -1
  | some r => (r : Nat)
end NL

set_option maxHeartbeats 4000000
namespace NL
open PySem PySem.Spec PyProof.Rows L2
/-! ### the arenas of these laws -/
theorem cut_pre {xs : List V} {k : Nat} : cutV xs none (some (k : Int)) = xs.take k := by
  unfold cutV
  rw [HT.sIx_none, show HT.sIx xs.length xs.length (some (k : Int)) = min k xs.length from HT.sIx_nat _ _ _, List.drop_zero, Nat.sub_zero]
  by_cases h : k ≤ xs.length
  · rw [Nat.min_eq_left h]
  · rw [Nat.min_eq_right (by omega), List.take_length, List.take_of_length_le (by omega)]
theorem slA_of {K : PySem.W.Frag} {a : Addr} {xs : List V} {lo hi : Option Int} {H : Hp} {Q : VK} (ha : H a = some (.tup xs)) (q : ∀ p H', Same H H' → H' p = some (.tup (cutV xs lo hi)) → Q (.ref p) H') : rSlA K (.ref a) lo hi H Q := by
  refine ⟨a, xs, rfl, sqt ha, fun h => ?_, fun _ p hp => q p _ (same_new hp _) upd_same⟩
  refine q a H (Same.refl H) ?_
  have : cutV xs lo hi = xs := by
    unfold cutV
    rw [h.1, h.2, List.drop_zero, Nat.sub_zero]
    exact List.take_length
  rw [this]
  exact ha
theorem catA_of {K : PySem.W.Frag} {a b : Addr} {xs ys : List V} {H : Hp} {Q : VK} (ha : H a = some (.tup xs)) (hb : H b = some (.tup ys)) (hl : xs.length + ys.length ≤ 1000) (q : ∀ p H', Same H H' → H' p = some (.tup (xs ++ ys)) → Q (.ref p) H') : rCatA K (.ref a) (.ref b) H Q := by
  refine ⟨a, b, xs, ys, rfl, rfl, sqt ha, sqt hb, big (by omega), fun h => ?_, fun _ h => ?_, fun _ _ p hp => ?_⟩
  · exact q b H (Same.refl H) (by rw [h, List.nil_append]; exact hb)
  · exact q a H (Same.refl H) (by rw [h, List.append_nil]; exact ha)
  · exact q p _ (same_new hp _) upd_same
theorem rgS_good {u n : Int} (h0 : 0 ≤ u) (h1 : u < 2) (hn : 0 < n) (hm : n ≤ 46) : OptG n ((List.range (n - (-u)).toNat).map fun i : Nat => (-u) + (i : Int)) := by
  refine ⟨fun e => ?_, ?_, fun s hs => ?_, ?_⟩
  · have h := congrArg List.length e
    rw [List.length_map, List.length_range, List.length_nil] at h
    omega
  · rw [List.length_map, List.length_range]
    omega
  · obtain ⟨i, hi, rfl⟩ := List.mem_map.mp hs
    have := List.mem_range.mp hi
    omega
  · rw [List.pairwise_map]
    exact List.pairwise_lt_range.imp fun {a b} h => by omega
theorem cut_from {l : List V} {k : Nat} : cutV l (some (k : Int)) none = l.drop k := by
  unfold cutV
  rw [HT.sIx_none, show HT.sIx l.length 0 (some (k : Int)) = min k l.length from HT.sIx_nat _ _ _]
  by_cases h : k ≤ l.length
  · rw [Nat.min_eq_left h]
    exact List.take_of_length_le (by rw [List.length_drop]; omega)
  · rw [Nat.min_eq_right (by omega), List.drop_length, List.drop_eq_nil_of_le (by omega)]
    exact List.take_nil
theorem cut_mid {l : List V} : cutV l (some 1) (some 2) = (l.drop 1).take 1 := by
  unfold cutV
  rw [show HT.sIx l.length 0 (some 1) = min 1 l.length from HT.sIx_nat _ _ _, show HT.sIx l.length l.length (some 2) = min 2 l.length from HT.sIx_nat _ _ _]
  match l with
  | [] => rfl
  | [a] => rfl
  | a :: b :: r =>
    rw [show min 1 (a :: b :: r).length = 1 by rw [List.length_cons, List.length_cons]; omega, show min 2 (a :: b :: r).length = 2 by rw [List.length_cons, List.length_cons]; omega]
section
variable {P : Program} {w : World} {K : PySem.W.Frag} {mg : Str → Option Value} {base : Heap}
/-! ### _law_distinct -/
def spDistinct (K : PySem.W.Frag) : Sp := fun vs H Q _ => ∃ (l : Addr) (ns : List Int), vs = [.ref l] ∧ SqL K H l (ns.map V.int) ∧ ns.length ≤ 1000 ∧ ∀ (p : Addr) (fs : List Int) H', Same H H' → H p = none → H' p = some (.lst (fs.map V.int)) → fs.Nodup → (∀ x, x ∈ fs ↔ x ∈ ns) → fs.length ≤ ns.length → Q (.ref p) H'
theorem ok_law_distinct (T : Txt K mg) : FnOk P w K mg base CX0 1 T.a_law_distinct T.d_law_distinct P_law_distinct (spDistinct K) := by
  refine T.F_law_distinct.ok sc_law_distinct (fun vs H Q E h => ?_) (fun cdv A outer s H vs Q E hr h => ?_)
  · obtain ⟨l, ns, rfl, _⟩ := h
    rfl
  obtain ⟨l, ns, rfl, hl, hn, q⟩ := h
  refine ⟨_, (pss_cons (ps_set (i := 1) sc_law_distinct.nd rfl (Or.inl rfl) (pe_lst pa_nil))
    (pss_cons (ps_for  PassesOwn.never rfl (pi_list (pv 0)) (pg_name (i := 2) sc_law_distinct.nd rfl (Or.inl rfl))
    (pss_one (ps_if (pt_cmpR op_notIn_seq (pv 2) (pv 1) (by rfl))
    (pss_one (ps_expr (pe_bm PySem.F.plainAttrs_list PySem.F.slot_list_append PySem.F.type_list_append mt_append (pv 1) (pa_cons (pv 2) pa_nil))))
    pss_nil)))
    (pss_one (ps_ret (pv 1))))), ?_⟩
  refine ⟨Nat.zero_le _, fun p hp => ?_⟩
  obtain ⟨H1, e1, s1, k1⟩ := newH hp (.lst [])
  rw [e1]
  refine ⟨_, rfl, l, rfl, ⟨_, s1.seq hl⟩, ?_⟩
  refine for_list (K := K) (a := l) (xs := ns.map V.int) (fun (j : Nat) (σ : L2.St) (H' : Hp) => ∃ (fs : List Int) (y : Option V), σ = [some (.ref l), some (.ref p), y] ∧ Same H H' ∧ H' p = some (.lst (fs.map V.int)) ∧ fs.Nodup ∧ (∀ x, x ∈ fs ↔ x ∈ ns.take j) ∧ fs.length ≤ j) ?_ ?_ ?_ ?_
  · exact ⟨[], _, rfl, s1, k1, List.nodup_nil, fun x => by rw [List.take_zero], Nat.le_refl 0⟩
  · rintro j σ H' _ ⟨fs, y, rfl, s2, _⟩
    exact s2.seq hl
  · rintro j x σ H2 hx ⟨fs, y, rfl, s2, k2, hnd, hm, hfl⟩
    rw [List.getElem?_map] at hx
    obtain ⟨c, hc, rfl⟩ := Option.map_eq_some_iff.mp hx
    have hj := (List.getElem?_eq_some_iff.mp hc).1
    refine ⟨_, rfl, _, rfl, p, _, rfl, .inl (sqd k2), rfl, flat_ints' fs, _, rfl, ?_⟩
    by_cases hin : c ∈ fs
    · refine ifF (by rw [notIn_int, decide_eq_true hin] <;> rfl) ?_
      refine ⟨fs, _, rfl, s2, k2, hnd, fun x => ?_, by omega⟩
      rw [foldK_take hc, hm]
      exact ⟨fun h => .inl h, fun h => h.elim id fun e => by rw [e]; exact (hm c).mp hin⟩
    · refine ifT (by rw [notIn_int, decide_eq_false hin] <;> rfl) ?_
      refine ⟨_, rfl, .inl ⟨rfl, _, sqd k2⟩, _, rfl, p, _, _, rfl, rfl, k2, big' (by rw [List.length_map]; omega), ?_⟩
      refine ⟨fs ++ [c], _, rfl, same_put s2 hp, by rw [upd_same, List.map_append]; rfl, ?_, fun x => ?_, by rw [List.length_append]; exact Nat.succ_le_succ hfl⟩
      · exact List.nodup_append.mpr ⟨hnd, by simp, fun a ha b hb e => hin (by rw [← List.mem_singleton.mp hb, ← e]; exact ha)⟩
      · rw [List.mem_append, List.mem_singleton, hm, foldK_take hc]
  · rintro σ H2 ⟨fs, y, rfl, s2, k2, hnd, hm, hfl⟩
    rw [List.length_map] at hfl
    simp only [List.length_map, List.take_length] at hm
    exact ⟨_, rfl, q p fs H2 s2 hp k2 hnd hm hfl⟩
/-! ### _law_options -/
def spOptions (K : PySem.W.Frag) : Sp := fun vs H Q _ => ∃ (d sz : Addr) (n B : Int) (S : List Int), vs = [.ref d, .int n, .ref sz] ∧ Dr H d ∧ 0 < n ∧ n ≤ 46 ∧ B ≤ 6 ∧ sz ≠ d ∧ H sz = some (.lst (S.map V.int)) ∧ 0 < S.length ∧ S.length ≤ 100 ∧ (∀ x ∈ S, 0 ≤ x ∧ x ≤ B) ∧
  ∀ v os H', Go d H H' → PosIn H' os v → (os.length : Int) ≤ B → (∀ o ∈ os, OptG n o) → Q v H'
theorem ok_law_options (T : Txt K mg) : FnOk P w K mg base CX0 2 T.a_law_options T.d_law_options P_law_options (spOptions K) := by
  have G_law_take := ok_law_take (P := P) (w := w) (base := base) T
  refine T.F_law_options.ok sc_law_options (fun vs H Q E h => ?_) (fun cdv A outer s H vs Q E hr h => ?_)
  · obtain ⟨d, sz, n, B, S, rfl, _⟩ := h
    rfl
  obtain ⟨d, sz, n, B, S, rfl, hD, hn0, n46, hB, hsd, hsz, hS0, hS1, hS2, q⟩ := h
  refine ⟨_, (pss_cons (ps_set (i := 3) sc_law_options.nd rfl (Or.inl rfl) (pe_lst pa_nil))
    (pss_cons (ps_for  PassesOwn.never rfl (pi_range1 (by rfl) T.z_range (pa_cons (pe_ix ix_list (pv 2) (pe_call G_law_take (hr.mono (by omega)) (by rfl) T.m_law_take T.F_law_take.kp T.b_law_take .nil pass0 (pa_cons (pv 0) (pa_cons (pe_callB call_len_seq (by rfl) T.z_len PySem.boot_len (pa_cons (pv 2) pa_nil)) pa_nil))) (fun _ _ => rfl)) pa_nil)) (pg_name (i := 4) sc_law_options.nd rfl (Or.inl rfl))
    (pss_cons (ps_set (i := 5) sc_law_options.nd rfl (Or.inl rfl) (pe_lst pa_nil))
    (pss_cons (ps_for  PassesOwn.never rfl (pi_range1 (by rfl) T.z_range (pa_cons (pe_ix ix_list (pe_lst (pa_cons pe_int (pa_cons pe_int (pa_cons pe_int (pa_cons pe_int (pa_cons pe_int (pa_cons pe_int (pa_cons pe_int pa_nil)))))))) (pe_call G_law_take (hr.mono (by omega)) (by rfl) T.m_law_take T.F_law_take.kp T.b_law_take .nil pass0 (pa_cons (pv 0) (pa_cons pe_int pa_nil))) (fun _ _ => rfl)) pa_nil)) (pg_name (i := 6) sc_law_options.nd rfl (Or.inl rfl))
    (pss_cons (ps_set (i := 7) sc_law_options.nd rfl (Or.inl rfl) (pe_call G_law_take (hr.mono (by omega)) (by rfl) T.m_law_take T.F_law_take.kp T.b_law_take .nil pass0 (pa_cons (pv 0) (pa_cons (pv 1) pa_nil))))
    (C8.pss_cut (ps_if (pt_cmpR op_eq (pe_call G_law_take (hr.mono (by omega)) (by rfl) T.m_law_take T.F_law_take.kp T.b_law_take .nil pass0 (pa_cons (pv 0) (pa_cons pe_int pa_nil))) pe_int (nomark _))
    (pss_one (ps_set (i := 7) sc_law_options.nd rfl (Or.inl rfl) (pe_un un_neg pe_int)))
    pss_nil)
    (pss_one (ps_if (pt_cmpR op_notIn_seq (pv 7) (pv 5) (by rfl))
    (pss_one (ps_expr (pe_bm PySem.F.plainAttrs_list PySem.F.slot_list_append PySem.F.type_list_append mt_append (pv 5) (pa_cons (pv 7) pa_nil))))
    pss_nil)))))
    (pss_one (ps_expr (pe_bm PySem.F.plainAttrs_list PySem.F.slot_list_append PySem.F.type_list_append mt_append (pv 3) (pa_cons (pe_callTy call_tuple_of (by rfl) T.z_tuple (by decide +kernel) (pa_cons (pe_callB (cr_sorted) (by rfl) T.z_sorted (by decide +kernel) (pa_cons (pv 5) pa_nil)) pa_nil)) pa_nil)))))))
    (pss_one (ps_ret (pe_callTy call_tuple_of (by rfl) T.z_tuple (by decide +kernel) (pa_cons (pv 3) pa_nil)))))), ?_⟩
  refine ⟨Nat.zero_le _, fun ol hol => ?_⟩
  have nol := new_ne hD hol
  obtain ⟨H1, e1, s1, k1⟩ := newH hol (.lst [])
  rw [e1]
  have g1 := Go.same hD s1
  refine ⟨_, rfl, _, rfl, _, rfl, sz, _, rfl, .inl (sqd (s1 _ _ hsz)), d, _, rfl, g1.dr, by rw [List.length_map]; omega, fun u H2 g2 u0 u1 => ?_⟩
  have esz := g2.fr sz _ hsd (s1 _ _ hsz)
  rw [List.length_map] at u1
  obtain ⟨mm, hmm, hmmem⟩ := atI_map (f := V.int) (xs := S) u0 u1
  have hmb := hS2 mm hmmem
  refine ⟨sz, _, _, _, rfl, rfl, sqd esz, hmm, mm, rfl, by omega, by omega, ?_⟩
  have g12 := g1.trans g2
  have e2o := g2.fr ol _ nol k1
  refine for_range (lo := 0) (n := mm.toNat) (fun (i : Nat) (σ : L2.St) (H' : Hp) => ∃ (zs : List V) (os : Pos') (y4 y5 y6 y7 : Option V), σ = [some (.ref d), some (.int n), some (.ref sz), some (.ref ol), y4, y5, y6, y7] ∧ Go d H H' ∧ H' ol = some (.lst zs) ∧ Each (OptIn H') os zs ∧ os.length = i ∧ ∀ o ∈ os, OptG n o) ?_ ?_ ?_
  · exact ⟨[], [], _, _, _, _, rfl, g12, e2o, .nil, rfl, fun o h => nomatch h⟩
  · rintro i σ H10 hi ⟨zs, os, y4, y5, y6, y7, rfl, g10, e10, hzs, hos, hG2⟩
    generalize hk2 : (0 : Int) + (i : Int) = k2
    refine ⟨Nat.zero_le _, fun fl hfl => ?_⟩
    have nfl := new_ne g10.dr hfl
    obtain ⟨H11, e11, s11, k11⟩ := newH hfl (.lst [])
    rw [e11]
    have ga := Go.same g10.dr s11
    refine ⟨Nat.le_of_ble_eq_true rfl, fun l5 hl5 => ?_⟩
    obtain ⟨H12, e12, s12, k12⟩ := newH hl5 (.lst [.int 1, .int 1, .int 1, .int 2, .int 2, .int 3, .int 4])
    rw [e12]
    have gb := ga.trans (.same ga.dr s12)
    refine ⟨_, rfl, d, 7, rfl, gb.dr, by decide, fun u5 H13 g13' a5 b5 => ?_⟩
    have n5 := new_ne ga.dr hl5
    obtain ⟨mf, hmf, hmfm⟩ := atI_map (f := V.int) (xs := ([1, 1, 1, 2, 2, 3, 4] : List Int)) a5 b5
    have hmf3 : 1 ≤ mf ∧ mf ≤ 4 := by
      simp only [List.mem_cons, List.not_mem_nil, or_false] at hmfm
      omega
    refine ⟨l5, _, _, _, rfl, rfl, sqd (g13'.fr l5 _ n5 k12), hmf, mf, rfl, by omega, by omega, ?_⟩
    have gc2 := gb.trans g13'
    have ef13 := g13'.fr fl _ nfl (s12 _ _ k11)
    refine for_range (lo := 0) (n := mf.toNat) (fun (t : Nat) (σ : L2.St) (H' : Hp) => ∃ (fs : List Int) (y6 y7 : Option V), σ = [some (.ref d), some (.int n), some (.ref sz), some (.ref ol), some (.int k2), some (.ref fl), y6, y7] ∧ Go d H10 H' ∧ H' fl = some (.lst (fs.map V.int)) ∧ fs.Nodup ∧ fs.length ≤ t ∧ (∀ s ∈ fs, -1 ≤ s ∧ s < n) ∧ (0 < t → fs ≠ [])) ?_ ?_ ?_
    · exact ⟨[], _, _, rfl, gc2, ef13, List.nodup_nil, Nat.zero_le _, fun s h => (nomatch h), fun h => absurd h (by omega)⟩
    · rintro t σ H14 ht ⟨fs, y6, y7, rfl, g14', e14, hnd, hlen, hmem, hne⟩
      generalize hk3 : (0 : Int) + (t : Int) = k3
      refine ⟨_, rfl, _, rfl, d, n, rfl, g14'.dr, hn0, fun dr H15 g15' d0 d1 => ?_⟩
      have e15 := g15'.fr fl _ nfl e14
      refine ⟨fun σ H' => ∃ sc : Int, σ = [some (.ref d), some (.int n), some (.ref sz), some (.ref ol), some (.int k2), some (.ref fl), some (.int k3), some (.int sc)] ∧ Go d H15 H' ∧ -1 ≤ sc ∧ sc < n, ?_, ?_⟩
      · refine ⟨_, rfl, d, 14, rfl, g15'.dr, by decide, fun u6 H16 g16 _ _ => ⟨rfl, _, rfl, ?_⟩⟩
        refine ite2 (fun z => ?_) (fun z => ?_)
        · exact ⟨_, rfl, -1, rfl, g16, by omega, by omega⟩
        · exact ⟨dr, rfl, g16, by omega, d1⟩
      rintro σ H16 ⟨sc, rfl, g16, c0, c1⟩
      have e16 := g16.fr fl _ nfl e15
      have g1016 := (g14'.trans g15').trans g16
      refine ⟨_, rfl, _, rfl, fl, _, rfl, .inl (sqd e16), rfl, flat_ints' fs, _, rfl, ?_⟩
      by_cases hin : sc ∈ fs
      · refine ifF (by rw [notIn_int, decide_eq_true hin] <;> rfl) ?_
        exact ⟨fs, _, _, rfl, g1016, e16, hnd, by omega, hmem, fun _ e => by rw [e] at hin; cases hin⟩
      · refine ifT (by rw [notIn_int, decide_eq_false hin] <;> rfl) ?_
        refine ⟨_, rfl, .inl ⟨rfl, _, sqd e16⟩, _, rfl, fl, _, _, rfl, rfl, e16, big' (by rw [List.length_map]; omega), ?_⟩
        refine ⟨fs ++ [sc], _, _, rfl, g1016.put2 hfl nfl, by rw [upd_same, List.map_append]; rfl, ?_, ?_, ?_, fun _ => by simp⟩
        · exact List.nodup_append.mpr ⟨hnd, by simp, fun a ha b hb e => hin (by rw [← List.mem_singleton.mp hb, ← e]; exact ha)⟩
        · rw [List.length_append]
          exact Nat.add_le_add_right hlen 1
        · intro s hs
          rcases List.mem_append.mp hs with hs | hs
          · exact hmem s hs
          · rw [List.mem_singleton.mp hs]
            exact ⟨c0, c1⟩
    · rintro σ H14 ⟨fs, y6, y7, rfl, g14', e14, hnd, hlen, hmem, hne⟩
      have e14o := g14'.fr ol _ nol e10
      refine ⟨_, rfl, .inl ⟨rfl, _, sqd e14o⟩, _, rfl, fl, fs, rfl, sqd e14, by omega, fun ns q1 hperm hpw hq1 => ?_⟩
      obtain ⟨Hd, ed, sd, kd⟩ := newH hq1 (.lst (ns.map V.int))
      rw [ed]
      refine ⟨q1, _, rfl, .inl ⟨sqd kd, fun t2 ht2 => ?_⟩⟩
      obtain ⟨He, ee, se, ke⟩ := newH ht2 (.tup (ns.map V.int))
      rw [ee]
      have sde := sd.trans se
      have eoe := sde _ _ e14o
      have hzl := hzs.1
      refine ⟨ol, zs, _, rfl, rfl, eoe, big' (by omega), ?_⟩
      have ge := g14'.trans (.same g14'.dr sde)
      have tpx : Tp H10 (upd He ol (.lst (zs ++ [.ref t2]))) := tp_put (ge.tp g10.dr) eoe
      have nt2 : t2 ≠ ol := fun e => by
        rw [e, sd _ _ e14o] at ht2
        cases ht2
      refine ⟨zs ++ [.ref t2], os ++ [ns], _, _, _, _, rfl, (g10.trans ge).put2 hol nol, upd_same, ?_, by rw [List.length_append, hos]; rfl, ?_⟩
      · refine (hzs.mono fun o x => OptIn.tp tpx).snoc ⟨t2, rfl, ?_⟩
        rw [upd_ne nt2]
        exact ke
      · intro o ho
        rcases List.mem_append.mp ho with ho | ho
        · exact hG2 o ho
        · rw [List.mem_singleton.mp ho]
          refine ⟨fun e => ?_, by have := hperm.length_eq; omega, fun s hs => hmem s (hperm.mem_iff.mp hs), asc_of hperm hnd hpw⟩
          rw [e] at hperm
          exact hne (by omega) hperm.symm.eq_nil
  · rintro σ H10 ⟨zs, os, y4, y5, y6, y7, rfl, g10, e10, hzs, hos, hG2⟩
    refine ⟨_, rfl, ol, zs, rfl, .inl ⟨sqd e10, fun t ht => ?_⟩⟩
    have st := same_new ht (.tup zs)
    exact q _ os _ (g10.trans (.same g10.dr st)) ⟨t, zs, rfl, upd_same, hzs.mono fun o x => OptIn.tp (Tp.same st)⟩ (by omega) hG2
/-! ### _law_arena -/
theorem opt_two {n a b : Int} {fs ns : List Int} (ha : 0 ≤ a ∧ a < n) (hb : 0 ≤ b ∧ b < n) (hnd : fs.Nodup) (hm : ∀ x, x ∈ fs ↔ x ∈ [a, b]) (hl : fs.length ≤ 2) (hperm : ns.Perm fs) (hpw : ns.Pairwise (· ≤ ·)) : OptG n ns := by
  have hmem : ∀ s ∈ ns, 0 ≤ s ∧ s < n := fun s hs => by
    have := (hm s).mp (hperm.mem_iff.mp hs)
    rcases List.mem_cons.mp this with h | h
    · rw [h]; exact ha
    · rw [List.mem_singleton.mp h]; exact hb
  refine ⟨fun e => ?_, by have := hperm.length_eq; omega, fun s hs => by have := hmem s hs; omega, asc_of hperm hnd hpw⟩
  have : a ∈ ns := hperm.mem_iff.mpr ((hm a).mpr (List.mem_cons_self ..))
  rw [e] at this
  cases this
def spArena : Sp := fun vs H Q _ => ∃ (d : Addr) (most : Int), vs = [.ref d, .int most] ∧ Dr H d ∧ 0 ≤ most ∧ most ≤ 45 ∧ ∀ v A H', Go d H H' → ArIn H' A v → ArG A → Q v H'
theorem ok_law_arena (T : Txt K mg) : FnOk P w K mg base CX0 3 T.a_law_arena T.d_law_arena P_law_arena spArena := by
  have G_law_take := ok_law_take (P := P) (w := w) (base := base) T
  have G_law_options := ok_law_options (P := P) (w := w) (base := base) T
  have G_law_distinct := ok_law_distinct (P := P) (w := w) (base := base) T
  refine T.F_law_arena.ok sc_law_arena (fun vs H Q E h => ?_) (fun cdv A outer s H vs Q E hr h => ?_)
  · obtain ⟨d, most, rfl, _⟩ := h
    rfl
  obtain ⟨d, most, rfl, hD, m0, m1, q⟩ := h
  refine ⟨_, (pss_cons (ps_set (i := 2) sc_law_arena.nd rfl (Or.inl rfl) (pe_call G_law_take (hr.mono (by omega)) (by rfl) T.m_law_take T.F_law_take.kp T.b_law_take .nil pass0 (pa_cons (pv 0) (pa_cons (pe_op op_add (pv 1) pe_int) pa_nil))))
    (pss_cons (ps_set (i := 3) sc_law_arena.nd rfl (Or.inl rfl) (pe_call G_law_take (hr.mono (by omega)) (by rfl) T.m_law_take T.F_law_take.kp T.b_law_take .nil pass0 (pa_cons (pv 0) (pa_cons pe_int pa_nil))))
    (pss_cons (ps_set (i := 4) sc_law_arena.nd rfl (Or.inl rfl) (pe_lst pa_nil))
    (pss_cons (ps_for  PassesOwn.never rfl (pi_range1 (by rfl) T.z_range (pa_cons (pv 2) pa_nil)) (pg_name (i := 5) sc_law_arena.nd rfl (Or.inl rfl))
    (pss_cons (ps_set (i := 6) sc_law_arena.nd rfl (Or.inl rfl) (pe_call G_law_options (hr.mono (by omega)) (by rfl) T.m_law_options T.F_law_options.kp T.b_law_options .nil pass0 (pa_cons (pv 0) (pa_cons (pv 2) (pa_cons (pe_lst (pa_cons pe_int (pa_cons pe_int (pa_cons pe_int (pa_cons pe_int (pa_cons pe_int (pa_cons pe_int pa_nil))))))) pa_nil)))))
    (C8.pss_cut (ps_if (pt_cmpR op_eq (pv 3) pe_int (nomark _))
    (pss_one (ps_set (i := 6) sc_law_arena.nd rfl (Or.inl rfl) (pe_op op_catA (pe_tup (pa_cons (pe_callTy call_tuple_of (by rfl) T.z_tuple (by decide +kernel) (pa_cons (pe_callB (cr_sorted) (by rfl) T.z_sorted (by decide +kernel) (pa_cons (pe_call G_law_distinct (hr.mono (by omega)) (by rfl) T.m_law_distinct T.F_law_distinct.kp T.b_law_distinct .nil pass0 (pa_cons (pe_lst (pa_cons (pe_callB (call_min2 rfl) (by rfl) T.z_min (by decide +kernel) (pa_cons (pe_op op_add (pv 5) pe_int) (pa_cons (pe_op op_sub (pv 2) pe_int) pa_nil))) (pa_cons (pe_callB (call_min2 rfl) (by rfl) T.z_min (by decide +kernel) (pa_cons (pe_op op_add (pv 5) pe_int) (pa_cons (pe_op op_sub (pv 2) pe_int) pa_nil))) pa_nil))) pa_nil)) pa_nil)) pa_nil)) pa_nil)) (pe_slice sl_tupA (pv 6) (po_some pe_int) (po_some pe_int)))))
    pss_nil)
    (C8.pss_cut (ps_if (pt_cmpR op_eq (pv 3) pe_int (nomark _))
    (pss_one (ps_set (i := 6) sc_law_arena.nd rfl (Or.inl rfl) (pe_op op_catA (pe_tup (pa_cons (pe_callTy call_tuple_of (by rfl) T.z_tuple (by decide +kernel) (pa_cons (pe_callB (cr_sorted) (by rfl) T.z_sorted (by decide +kernel) (pa_cons (pe_call G_law_distinct (hr.mono (by omega)) (by rfl) T.m_law_distinct T.F_law_distinct.kp T.b_law_distinct .nil pass0 (pa_cons (pe_lst (pa_cons (pe_callB (call_max2 rfl) (by rfl) T.z_max (by decide +kernel) (pa_cons (pe_op op_sub (pv 5) pe_int) (pa_cons pe_int pa_nil))) (pa_cons (pe_callB (call_max2 rfl) (by rfl) T.z_max (by decide +kernel) (pa_cons (pe_op op_sub (pv 5) pe_int) (pa_cons pe_int pa_nil))) pa_nil))) pa_nil)) pa_nil)) pa_nil)) pa_nil)) (pe_slice sl_tupA (pv 6) (po_some pe_int) po_none))))
    pss_nil)
    (C8.pss_cut (ps_if (PW.pt (pw_and (pt_cmpR op_eq (pv 3) pe_int (nomark _)) (pw_and1 (pt_cmpR op_eq (pv 5) pe_int (nomark _)))))
    (pss_one (ps_set (i := 6) sc_law_arena.nd rfl (Or.inl rfl) (pe_op op_catA (pe_op op_catA (pv 6) (pe_call G_law_options (hr.mono (by omega)) (by rfl) T.m_law_options T.F_law_options.kp T.b_law_options .nil pass0 (pa_cons (pv 0) (pa_cons (pv 2) (pa_cons (pe_lst (pa_cons pe_int (pa_cons pe_int (pa_cons pe_int pa_nil)))) pa_nil))))) (pe_tup (pa_cons (pe_tupRg rfl (by rfl) T.z_tuple (prg_2 (by rfl) T.z_range (pe_un un_neg (pe_call G_law_take (hr.mono (by omega)) (by rfl) T.m_law_take T.F_law_take.kp T.b_law_take .nil pass0 (pa_cons (pv 0) (pa_cons pe_int pa_nil)))) (pv 2))) pa_nil)))))
    pss_nil)
    (pss_one (ps_expr (pe_bm PySem.F.plainAttrs_list PySem.F.slot_list_append PySem.F.type_list_append mt_append (pv 4) (pa_cons (pv 6) pa_nil)))))))))
    (pss_one (ps_ret (pe_callTy call_tuple_of (by rfl) T.z_tuple (by decide +kernel) (pa_cons (pv 4) pa_nil)))))))), ?_⟩
  refine ⟨_, rfl, _, rfl, _, _, rfl, rfl, d, _, rfl, hD, by omega, fun n H1 g1 n0 n1 => ?_⟩
  have n46 : n ≤ 46 := by
    have : n < most + 1 := n1
    omega
  refine ⟨_, rfl, d, 10, rfl, g1.dr, by decide, fun tw H2 g2 _ _ => ?_⟩
  have g12 := g1.trans g2
  refine ⟨Nat.zero_le _, fun p hp => ?_⟩
  have hpd := new_ne g2.dr hp
  have hp0 := g12.free hp
  obtain ⟨H5, e5, s5, k5⟩ := newH hp (.lst [])
  rw [e5]
  have g15 := g12.trans (.same g2.dr s5)
  refine ⟨_, rfl, n, rfl, by omega, by omega, for_range (lo := 0) (n := n.toNat) (fun (j : Nat) (σ : L2.St) (H' : Hp) => ∃ (xs : List V) (A' : Ar) (y5 y6 : Option V), σ = [some (.ref d), some (.int most), some (.int n), some (.int tw), some (.ref p), y5, y6] ∧ Go d H H' ∧ H' p = some (.lst xs) ∧ Each (PosIn H') A' xs ∧ A'.length = j ∧ ∀ os ∈ A', PosG n os) ?_ ?_ ?_⟩
  · exact ⟨[], [], _, _, rfl, g15, k5, .nil, rfl, fun os h => nomatch h⟩
  · rintro j σ H7 hj ⟨xs, A', y5, y6, rfl, g7, e7, hxs, hA, hG⟩
    have hn0 : 0 < n := by omega
    generalize hk : (0 : Int) + (j : Int) = k
    have hk0 : 0 ≤ k ∧ k < n := by omega
    refine ⟨_, rfl, _, rfl, Nat.le_of_ble_eq_true rfl, fun l1 hl1 => ?_⟩
    obtain ⟨H8, e8, s8, k8⟩ := newH hl1 (.lst [.int 0, .int 1, .int 1, .int 2, .int 2, .int 3])
    rw [e8]
    have nl1 := new_ne g7.dr hl1
    have g8 := Go.same g7.dr s8
    refine ⟨d, l1, n, 3, [0, 1, 1, 2, 2, 3], rfl, g8.dr, hn0, n46, by decide, nl1, k8, by decide, by decide, by decide, fun v os H9 g9 hv hol hoG => ?_⟩
    have g79 := g8.trans g9
    -- what the options are like
    have mid : ∀ {Y : Int} {H' : Hp} {v' : V} {os' : Pos'}, Go d H7 H' → PosIn H' os' v' → (os'.length : Int) ≤ Y → (∀ o ∈ os', OptG n o) → ∃ (v : V) (os : Pos'), [some (V.ref d), some (.int most), some (.int n), some (.int tw), some (.ref p), some (.int k), some v'] = [some (V.ref d), some (.int most), some (.int n), some (.int tw), some (.ref p), some (.int k), some v] ∧ Go d H7 H' ∧ PosIn H' os v ∧ (os.length : Int) ≤ Y ∧ ∀ o ∈ os, OptG n o := fun a b c e => ⟨_, _, rfl, a, b, c, e⟩
    refine ⟨fun σ H' => ∃ (v : V) (os : Pos'), σ = [some (.ref d), some (.int most), some (.int n), some (.int tw), some (.ref p), some (.int k), some v] ∧ Go d H7 H' ∧ PosIn H' os v ∧ (os.length : Int) ≤ 3 ∧ ∀ o ∈ os, OptG n o, ?_, ?_⟩
    · refine ⟨_, rfl, rfl, _, rfl, ?_⟩
      refine ite2 (fun z => ?_) (fun z => mid g79 hv hol hoG)
      obtain ⟨b0, ys, rfl, e0, hys⟩ := hv
      obtain ⟨a, ha⟩ : ∃ a : Int, (if n - 1 < k + 1 then n - 1 else k + 1) = a := ⟨_, rfl⟩
      obtain ⟨b, hb⟩ : ∃ b : Int, (if n - 1 < k + 2 then n - 1 else k + 2) = b := ⟨_, rfl⟩
      have ha2 : 0 ≤ a ∧ a < n := by split at ha <;> omega
      have hb2 : 0 ≤ b ∧ b < n := by split at hb <;> omega
      refine ⟨_, rfl, _, _, rfl, rfl, _, rfl, _, _, rfl, rfl, _, _, rfl, ?_⟩
      refine ⟨_, rfl, _, _, rfl, rfl, _, rfl, _, _, rfl, rfl, _, _, rfl, ?_⟩
      refine ⟨Nat.le_of_ble_eq_true rfl, fun l hl => ?_⟩
      rw [ha, hb] at *
      obtain ⟨Ha, ea, sa, ka⟩ := newH hl (.lst [V.int a, V.int b])
      rw [ea]
      refine ⟨l, [a, b], rfl, sqd ka, Nat.le_of_ble_eq_true rfl, fun pf fs Hb sb _ kb hnd hm hfl => ?_⟩
      refine ⟨pf, fs, rfl, sqd kb, by have : fs.length ≤ 2 := hfl; omega, fun ns q1 hperm hpw hq1 => ?_⟩
      have og := opt_two ha2 hb2 hnd hm hfl hperm hpw
      obtain ⟨Hc, ec, sc, kc⟩ := newH hq1 (.lst (ns.map V.int))
      rw [ec]
      refine ⟨q1, _, rfl, .inl ⟨sqd kc, fun t2 ht2 => ?_⟩⟩
      obtain ⟨Hd, ed, sd, kd⟩ := newH ht2 (.tup (ns.map V.int))
      rw [ed]
      refine ⟨Nat.le_of_ble_eq_true rfl, fun t3 ht3 => ?_⟩
      obtain ⟨He, ee, se, ke⟩ := newH ht3 (.tup [V.ref t2])
      rw [ee]
      have s9e := (((sa.trans sb).trans sc).trans sd).trans se
      refine ⟨_, rfl, _, rfl, _, rfl, ?_⟩
      refine slA_of (s9e _ _ e0) fun ps Hf sf ef => ?_
      rw [cut_mid] at ef
      refine catA_of (sf _ _ ke) ef (by have := hys.1; rw [List.length_take, List.length_singleton]; omega) fun pc Hg sg eg => ?_
      have s9g := s9e.trans (sf.trans sg)
      refine mid (os' := [ns] ++ (os.drop 1).take 1) (g79.trans (.same g9.dr s9g)) ⟨pc, _, rfl, eg, ?_⟩ (by rw [List.length_append, List.length_singleton, List.length_take]; omega) fun o ho => ?_
      · refine (Each.cons ⟨t2, rfl, ((se.trans sf).trans sg) _ _ kd⟩ .nil).app (((hys.drop 1).take 1).mono fun o x => OptIn.tp (Tp.same s9g))
      · rcases List.mem_append.mp ho with ho | ho
        · rw [List.mem_singleton.mp ho]
          exact og
        · exact hoG o (List.mem_of_mem_drop (List.mem_of_mem_take ho))
    rintro σ H10 ⟨v, os, rfl, g10, hv, hol, hoG⟩
    refine ⟨fun σ H' => ∃ (v : V) (os : Pos'), σ = [some (.ref d), some (.int most), some (.int n), some (.int tw), some (.ref p), some (.int k), some v] ∧ Go d H7 H' ∧ PosIn H' os v ∧ (os.length : Int) ≤ 3 ∧ ∀ o ∈ os, OptG n o, ?_, ?_⟩
    · refine ⟨_, rfl, rfl, _, rfl, ?_⟩
      refine ite2 (fun z => ?_) (fun z => mid g10 hv hol hoG)
      obtain ⟨b0, ys, rfl, e0, hys⟩ := hv
      obtain ⟨a, ha⟩ : ∃ a : Int, (if 0 > k - 1 then 0 else k - 1) = a := ⟨_, rfl⟩
      obtain ⟨b, hb⟩ : ∃ b : Int, (if 0 > k - 2 then 0 else k - 2) = b := ⟨_, rfl⟩
      have ha2 : 0 ≤ a ∧ a < n := by split at ha <;> omega
      have hb2 : 0 ≤ b ∧ b < n := by split at hb <;> omega
      refine ⟨_, rfl, _, _, rfl, rfl, _, _, rfl, ?_⟩
      refine ⟨_, rfl, _, _, rfl, rfl, _, _, rfl, ?_⟩
      refine ⟨Nat.le_of_ble_eq_true rfl, fun l hl => ?_⟩
      rw [ha, hb] at *
      obtain ⟨Ha, ea, sa, ka⟩ := newH hl (.lst [V.int a, V.int b])
      rw [ea]
      refine ⟨l, [a, b], rfl, sqd ka, Nat.le_of_ble_eq_true rfl, fun pf fs Hb sb _ kb hnd hm hfl => ?_⟩
      refine ⟨pf, fs, rfl, sqd kb, by have : fs.length ≤ 2 := hfl; omega, fun ns q1 hperm hpw hq1 => ?_⟩
      have og := opt_two ha2 hb2 hnd hm hfl hperm hpw
      obtain ⟨Hc, ec, sc, kc⟩ := newH hq1 (.lst (ns.map V.int))
      rw [ec]
      refine ⟨q1, _, rfl, .inl ⟨sqd kc, fun t2 ht2 => ?_⟩⟩
      obtain ⟨Hd, ed, sd, kd⟩ := newH ht2 (.tup (ns.map V.int))
      rw [ed]
      refine ⟨Nat.le_of_ble_eq_true rfl, fun t3 ht3 => ?_⟩
      obtain ⟨He, ee, se, ke⟩ := newH ht3 (.tup [V.ref t2])
      rw [ee]
      have s9e := (((sa.trans sb).trans sc).trans sd).trans se
      refine ⟨_, rfl, _, rfl, ?_⟩
      unfold tNoPart
      refine slA_of (s9e _ _ e0) fun ps Hf sf ef => ?_
      rw [show cutV ys (some 1) none = ys.drop 1 from cut_from (k := 1)] at ef
      refine catA_of (sf _ _ ke) ef (by have := hys.1; rw [List.length_drop, List.length_singleton]; omega) fun pc Hg sg eg => ?_
      have s9g := s9e.trans (sf.trans sg)
      refine mid (os' := [ns] ++ os.drop 1) (g10.trans (.same g10.dr s9g)) ⟨pc, _, rfl, eg, ?_⟩ (by rw [List.length_append, List.length_singleton, List.length_drop]; omega) fun o ho => ?_
      · refine (Each.cons ⟨t2, rfl, ((se.trans sf).trans sg) _ _ kd⟩ .nil).app ((hys.drop 1).mono fun o x => OptIn.tp (Tp.same s9g))
      · rcases List.mem_append.mp ho with ho | ho
        · rw [List.mem_singleton.mp ho]
          exact og
        · exact hoG o (List.mem_of_mem_drop ho)
    rintro σ H11 ⟨v, os, rfl, g11, hv, hol, hoG⟩
    refine ⟨fun σ H' => ∃ (v : V) (os : Pos'), σ = [some (.ref d), some (.int most), some (.int n), some (.int tw), some (.ref p), some (.int k), some v] ∧ Go d H7 H' ∧ PosIn H' os v ∧ (os.length : Int) ≤ 12 ∧ ∀ o ∈ os, OptG n o, ?_, ?_⟩
    · refine ⟨_, rfl, rfl, _, rfl, ?_⟩
      refine ite2 (fun z => ?_) (fun z => mid g11 hv (by omega) hoG)
      refine ⟨_, rfl, rfl, _, rfl, ?_⟩
      refine ite2 (fun z => ?_) (fun z => mid g11 hv (by omega) hoG)
      obtain ⟨b0, ys, rfl, e0, hys⟩ := hv
      refine ⟨_, rfl, _, rfl, _, rfl, Nat.le_of_ble_eq_true rfl, fun l hl => ?_⟩
      obtain ⟨Ha, ea, sa, ka⟩ := newH hl (.lst [V.int 4, V.int 5, V.int 6])
      rw [ea]
      have ga := Go.same g11.dr sa
      refine ⟨d, l, n, 6, [4, 5, 6], rfl, ga.dr, hn0, n46, by decide, new_ne g11.dr hl, ka, by decide, by decide, by decide, fun v2 os2 Hb gb hv2 hol2 hoG2 => ?_⟩
      obtain ⟨b2, ys2, rfl, e2, hys2⟩ := hv2
      have gab := ga.trans gb
      have e0b := gab.tp g11.dr _ _ e0
      have hyl := hys.1
      have hyl2 := hys2.1
      refine catA_of e0b e2 (by omega) fun pc Hc sc ec => ?_
      have gc := gab.trans (.same gb.dr sc)
      refine ⟨_, rfl, d, 2, rfl, gc.dr, by decide, fun u Hd gd u0 u1 => ⟨_, rfl, _, rfl, _, _, rfl, rfl, ⟨by omega, by omega, by omega, by omega, by omega⟩, fun q1 hq1 => ?_⟩⟩
      rw [rgA_ints]
      have og := rgS_good u0 u1 hn0 n46
      generalize (List.range (n - (-u)).toNat).map (fun i : Nat => (-u) + (i : Int)) = o1 at og ⊢
      obtain ⟨He, ee, se, ke⟩ := newH hq1 (.tup (o1.map V.int))
      rw [ee]
      refine ⟨Nat.le_of_ble_eq_true rfl, fun t3 ht3 => ?_⟩
      obtain ⟨Hf, ef, sf, kf⟩ := newH ht3 (.tup [V.ref q1])
      rw [ef]
      have ecf := (se.trans sf) _ _ (gd.tp gc.dr _ _ ec)
      refine catA_of ecf kf (by rw [List.length_append, List.length_singleton]; omega) fun pg Hg sg eg => ?_
      have gdg := gd.trans (.same gd.dr ((se.trans sf).trans sg))
      refine mid (os' := os ++ os2 ++ [o1]) (g11.trans (gc.trans gdg)) ⟨pg, _, rfl, eg, ?_⟩ (by rw [List.length_append, List.length_append, List.length_singleton]; omega) fun o ho => ?_
      · refine ((hys.mono fun o x => OptIn.tp ((gc.trans gdg).tp g11.dr)).app (hys2.mono fun o x => OptIn.tp ((Tp.same sc).trans (gdg.tp gc.dr)))).app (.cons ⟨q1, rfl, (sf.trans sg) _ _ ke⟩ .nil)
      · rcases List.mem_append.mp ho with ho | ho
        · rcases List.mem_append.mp ho with ho | ho
          · exact hoG o ho
          · exact hoG2 o ho
        · rw [List.mem_singleton.mp ho]
          exact og
    rintro σ H12 ⟨v, os, rfl, g12', hv, hol, hoG⟩
    have e12p := g12'.fr p _ hpd e7
    have hxl := hxs.1
    refine ⟨_, rfl, .inl ⟨rfl, _, sqd e12p⟩, _, rfl, p, xs, _, rfl, rfl, e12p, big' (by omega), ?_⟩
    have tp : Tp H7 (upd H12 p (.lst (xs ++ [v]))) := tp_put (g12'.tp g7.dr) e12p
    refine ⟨xs ++ [v], A' ++ [os], _, _, rfl, (g7.trans g12').put2 hp0 hpd, upd_same, (hxs.mono fun o x => PosIn.tp tp).snoc (hv.tp (tp_put Tp.refl e12p)), by rw [List.length_append, hA]; rfl, ?_⟩
    intro o ho
    rcases List.mem_append.mp ho with ho | ho
    · exact hG o ho
    · rw [List.mem_singleton.mp ho]
      exact ⟨by omega, hoG⟩
  · rintro σ H7 ⟨xs, A', y5, y6, rfl, g7, e7, hxs, hA, hG⟩
    refine ⟨_, rfl, p, xs, rfl, .inl ⟨sqd e7, fun t ht => ?_⟩⟩
    have st := same_new ht (.tup xs)
    refine q _ A' _ (g7.trans (.same g7.dr st)) ⟨t, xs, rfl, upd_same, hxs.mono fun os x => PosIn.tp (.same st)⟩ ⟨by omega, fun os h => ?_⟩
    rw [show (A'.length : Int) = n by omega]
    exact hG os h
end
end NL

set_option maxHeartbeats 4000000
namespace NL
open PySem PySem.Spec PyProof.Rows L2
theorem ArG.inA {A : Ar} (h : ArG A) : InA A A.length := fun os hos o ho p hp => ((h.2 os hos).2 o ho).mem p hp
theorem pi_tupK {X : Cx} {K : PySem.W.Frag} {tg l : Expr} {tl : TE} (h : X.K = K) (e : PE X l tl) : PI X tg l (iTup K tl) := by
  subst h
  exact pi_tup e
theorem cr_allK {X : Cx} {K : PySem.W.Frag} (h : X.K = K) (hc : X.calm = true) : CallR X (.builtin "all") (rAll K) := by
  subst h
  exact cr_all hc
section
variable {P : Program} {w : World} {K : PySem.W.Frag} {mg : Str → Option Value} {base : Heap}
/-! ### some of the positions -/
def spSomeN : Sp := fun vs H Q _ => ∃ (d : Addr) (n sh : Int), vs = [.ref d, .int n, .int sh] ∧ Dr H d ∧ 0 ≤ n ∧ n ≤ 1000 ∧ ∀ (p : Addr) (o : List Int) (H' : Hp), Go d H H' → H' p = some (.tup (o.map V.int)) → (∀ x ∈ o, 0 ≤ x ∧ x < n) → Q (.ref p) H'
theorem ok_law_some (T : Txt K mg) : FnOk P w K mg base CX0 2 T.a_law_some T.d_law_some P_law_some spSomeN := by
  have G_law_take := ok_law_take (P := P) (w := w) (base := base) T
  refine T.F_law_some.ok sc_law_some (fun vs H Q E h => ?_) (fun cdv A outer s H vs Q E hr h => ?_)
  · obtain ⟨d, n, sh, rfl, _⟩ := h
    rfl
  obtain ⟨d, n, sh, rfl, hD, n0, n1, q⟩ := h
  refine ⟨_, (pss_one (ps_ret (pe_callTy call_tuple_of (by rfl) T.z_tuple (by decide +kernel) (pa_cons (pe_lc (own := [("k", 3)]) (g := (gName 3)) (tt := _) rfl sc_law_some.nd (pi_range1 (by rfl) T.z_range (pa_cons (pv 1) pa_nil)) (blkOk_by (N := N_law_some) (sc := defScope s_law_some) (by decide +kernel)) (fun _ _ _ _ _ => (pg_name (i := 3) sc_law_some.nd rfl (Or.inl rfl))) (fun _ _ _ _ _ => (pts_one (pt_cmpR op_lt (pe_call G_law_take (hr.mono (by omega)) (by rfl) T.m_law_take T.F_law_take.kp T.b_law_take .nil pass0 (pa_cons (pv 0) (pa_cons pe_int pa_nil))) (pv 2) (nomark _)))) (fun _ _ _ _ _ => (pv 3))) pa_nil)))), ?_⟩
  refine ⟨_, rfl, n, rfl, by omega, by omega, fun D hD' => ?_⟩
  have nDd := new_ne hD hD'
  have s1 := same_new hD' (.lst [])
  refine lc_range (lo := 0) (n := n.toNat) (fun (i : Nat) (H' : Hp) => ∃ o : List Int, Go d H H' ∧ H' D = some (.lst (o.map V.int)) ∧ o.length ≤ i ∧ ∀ x ∈ o, 0 ≤ x ∧ x < n) ?_ ?_ ?_
  · exact ⟨[], .same hD s1, upd_same, Nat.le_refl 0, fun x hx => nomatch hx⟩
  · rintro i H' hi ⟨o, g2, e2, hlen, hin⟩
    refine ⟨rfl, ?_⟩
    refine ⟨_, rfl, d, 8, rfl, g2.dr, by decide, fun u H2 g3 _ _ => ⟨_, rfl, _, _, rfl, rfl, _, rfl, ?_⟩⟩
    have e3 := g3.fr D _ nDd e2
    refine ite2 (fun z => ?_) (fun z => ⟨o, g2.trans g3, e3, by omega, hin⟩)
    exact ⟨_, rfl, _, e3, big' (by rw [List.length_map]; omega), o ++ [0 + (i : Int)], (g2.trans g3).put2 hD' nDd, by rw [upd_same, List.map_append]; rfl, by rw [List.length_append]; exact Nat.add_le_add_right hlen 1, fun x hx => (List.mem_append.mp hx).elim (hin x) fun h => by rw [List.mem_singleton.mp h]; omega⟩
  · rintro H2 ⟨o, g2, e2, hlen, hin⟩
    refine ⟨D, _, rfl, .inl ⟨sqd e2, fun t ht => ?_⟩⟩
    exact q t o _ (g2.trans (Go.new g2.dr ht)) upd_same hin
/-! ### two answers that are the same -/
def Alk : Nat → Hp → V → V → Prop
  | 0, _, _, _ => False
  | n + 1, H, u, v => (∃ s, u = .str s ∧ v = .str s) ∨ (∃ i, u = .int i ∧ v = .int i) ∨ ∃ a b xs ys, u = .ref a ∧ v = .ref b ∧ H a = some (.tup xs) ∧ H b = some (.tup ys) ∧ xs.length = ys.length ∧ ys.length ≤ 1000000 ∧
      ∀ (k : Nat) x y, xs[k]? = some x → ys[k]? = some y → Alk n H x y
theorem Alk.ints {H : Hp} {a b : Addr} {l : List Int} (ha : H a = some (.tup (l.map V.int))) (hb : H b = some (.tup (l.map V.int))) (hl : l.length ≤ 1000000) : Alk 2 H (.ref a) (.ref b) := by
  refine .inr (.inr ⟨a, b, _, _, rfl, rfl, ha, hb, rfl, by rw [List.length_map]; exact hl, fun k x y hx hy => ?_⟩)
  rw [hx] at hy
  cases hy
  rw [List.getElem?_map] at hx
  obtain ⟨i, _, rfl⟩ := Option.map_eq_some_iff.mp hx
  exact .inr (.inl ⟨i, rfl, rfl⟩)
def spSame (n : Nat) : Sp := fun vs H Q _ => ∃ u v : V, vs = [u, v] ∧ Alk n H u v ∧ Q (.bl true) H
/-! ### the indexes of the safe options -/
def sfI (os : Pos') (M : Mk') : List Int := ((List.range os.length).filter fun i => ((os[i]?).getD []).all M).map fun i : Nat => (i : Int)
def sfT (os : Pos') (M : Mk') (j : Nat) : List Int := ((List.range j).filter fun i => ((os[i]?).getD []).all M).map fun i : Nat => (i : Int)
theorem sfT_len (os : Pos') (M : Mk') (j : Nat) : (sfT os M j).length ≤ j := by
  unfold sfT
  rw [List.length_map]
  have := List.length_filter_le (fun i => ((os[i]?).getD []).all M) (List.range j)
  rw [List.length_range] at this
  exact this
theorem sfT_s {os : Pos'} {M : Mk'} {j : Nat} {o : Opt} (h : os[j]? = some o) : sfT os M (j + 1) = sfT os M j ++ (if o.all M = true then [(j : Int)] else []) := by
  unfold sfT
  rw [List.range_succ, List.filter_append, List.map_append]
  congr 1
  rw [List.filter_cons, h]
  show List.map _ (if o.all M = true then [j] else []) = _
  cases o.all M <;> rfl
theorem sfT_full (os : Pos') (M : Mk') : sfT os M os.length = sfI os M := rfl
theorem sfI_mem {os : Pos'} {M : Mk'} {g : Int} (h : g ∈ sfI os M) : ∃ (i : Nat) (o : Opt), g = (i : Int) ∧ os[i]? = some o ∧ o.all M = true := by
  unfold sfI at h
  obtain ⟨i, hi, rfl⟩ := List.mem_map.mp h
  obtain ⟨h1, h2⟩ := List.mem_filter.mp hi
  have hl := List.mem_range.mp h1
  have ho := List.getElem?_eq_getElem hl
  rw [ho] at h2
  exact ⟨i, _, rfl, ho, h2⟩
theorem sfI_ne {os : Pos'} {M : Mk'} (h : frcM 0 os M = true) : sfI os M ≠ [] := by
  unfold frcM at h
  rw [if_pos rfl] at h
  obtain ⟨o, ho, hall⟩ := List.any_eq_true.mp h
  obtain ⟨i, hi⟩ := List.getElem?_of_mem ho
  have hl := (List.getElem?_eq_some_iff.mp hi).1
  intro e
  unfold sfI at e
  have : i ∈ (List.range os.length).filter fun i => ((os[i]?).getD []).all M := List.mem_filter.mpr ⟨List.mem_range.mpr hl, by rw [hi]; exact hall⟩
  rw [List.map_eq_nil_iff.mp e] at this
  cases this
def spSafe (K : PySem.W.Frag) : Sp := fun vs H Q _ => ∃ (v : V) (b : Addr) (os : Pos') (n : Nat) (M : Mk'), vs = [v, .ref b] ∧ PosIn H os v ∧ os.length ≤ 1000 ∧ (∀ o ∈ os, o.length ≤ 1000 ∧ ∀ p ∈ o, -1 ≤ p ∧ p < (n : Int)) ∧ H b = some (.lst ((bsO n M).map V.bl)) ∧
  ∀ (p : Addr) H', Same H H' → H' p = some (.tup ((sfI os M).map V.int)) → Q (.ref p) H'
/-! ### has_option -/
end
end NL

set_option maxHeartbeats 4000000
namespace NL
open PySem PySem.Spec PyProof.Rows L2
/-! ### min of a list of pairs of ints -/
def plt (p q : Int × Int) : Bool := decide (p.1 < q.1 ∨ (p.1 = q.1 ∧ p.2 < q.2))
theorem lexLt2 (a b c d : Int) : HT.lexLt [a, b] [c, d] = plt (a, b) (c, d) := by
  rw [HT.lexLt_cons]
  unfold plt
  by_cases h : a = c
  · rw [if_pos h, HT.lexLt_cons]
    by_cases h2 : b = d
    · rw [if_pos h2, HT.lexLt_nil_nil]
      exact (decide_eq_false (by show ¬ (a < c ∨ (a = c ∧ b < d)); omega)).symm
    · rw [if_neg h2]
      by_cases h3 : b < d
      · rw [decide_eq_true h3]; exact (decide_eq_true (by show a < c ∨ (a = c ∧ b < d); omega)).symm
      · rw [decide_eq_false h3]; exact (decide_eq_false (by show ¬ (a < c ∨ (a = c ∧ b < d)); omega)).symm
  · rw [if_neg h]
    by_cases h3 : a < c
    · rw [decide_eq_true h3]; exact (decide_eq_true (by show a < c ∨ (a = c ∧ b < d); omega)).symm
    · rw [decide_eq_false h3]; exact (decide_eq_false (by show ¬ (a < c ∨ (a = c ∧ b < d)); omega)).symm
theorem plt_irr (p : Int × Int) : plt p p = false := decide_eq_false (by omega)
theorem plt_tr {p q r : Int × Int} (h1 : plt p q = false) (h2 : plt r q = true) : plt p r = false := by
  have h2 := of_decide_eq_true h2
  have h1 := of_decide_eq_false h1
  exact decide_eq_false (by omega)
theorem best_pair (g : Nat → Int × Int) : ∀ k, argBest (fun i j => plt (g i) (g j)) k ≤ k ∧ ∀ j, j ≤ k → plt (g j) (g (argBest (fun i j => plt (g i) (g j)) k)) = false
  | 0 => ⟨Nat.le_refl _, fun j hj => by
    have : j = 0 := by omega
    subst this
    exact plt_irr _⟩
  | k + 1 => by
    obtain ⟨h1, h2⟩ := best_pair g k
    cases hb : plt (g (k + 1)) (g (argBest (fun i j => plt (g i) (g j)) k)) with
    | true =>
      have e : argBest (fun i j => plt (g i) (g j)) (k + 1) = k + 1 := by
        show (if plt (g (k + 1)) (g (argBest (fun i j => plt (g i) (g j)) k)) = true then k + 1 else argBest (fun i j => plt (g i) (g j)) k) = k + 1
        rw [hb, if_pos rfl]
      rw [e]
      refine ⟨Nat.le_refl _, fun j hj => ?_⟩
      by_cases hjk : j ≤ k
      · exact plt_tr (h2 j hjk) hb
      · have : j = k + 1 := by omega
        rw [this]
        exact plt_irr _
    | false =>
      have e : argBest (fun i j => plt (g i) (g j)) (k + 1) = argBest (fun i j => plt (g i) (g j)) k := by
        show (if plt (g (k + 1)) (g (argBest (fun i j => plt (g i) (g j)) k)) = true then k + 1 else argBest (fun i j => plt (g i) (g j)) k) = _
        rw [hb, if_neg Bool.false_ne_true]
      rw [e]
      refine ⟨Nat.le_succ_of_le h1, fun j hj => ?_⟩
      by_cases hjk : j ≤ k
      · exact h2 j hjk
      · have : j = k + 1 := by omega
        rw [this]
        exact hb
def rMinP (K : PySem.W.Frag) : List V → Hp → VK → Prop := fun vs H Q => ∃ (a : Addr) (ts : List Addr) (ps : List (Int × Int)), vs = [V.ref a] ∧ SqL K H a (ts.map V.ref) ∧ ts.length = ps.length ∧ 0 < ps.length ∧ (∀ (i : Nat) t p, ts[i]? = some t → ps[i]? = some p → SqT K H t ([p.1, p.2].map V.int)) ∧
  ∀ (i : Nat) t p, ts[i]? = some t → ps[i]? = some p → (∀ q ∈ ps, plt q p = false) → Q (.ref t) H
theorem cr_minP {X : Cx} (hc : X.calm = true) (hu : X.A.units + 1 < cLine) : CallR X (.builtin "min") (rMinP X.K) := by
  intro pins s σ H vs us Q I r h
  obtain ⟨a, ts, ps, rfl, hs, hlen, hne, hts, q⟩ := h
  obtain ⟨its, rv, hl, _⟩ := I.list hs
  rw [Vals.ref1 r]
  have hitl := rv.length
  rw [List.length_map] at hitl
  have hit : ∀ (i : Nat) v, its.toArray[i]? = some v → ∃ t p, ts[i]? = some t ∧ ps[i]? = some p ∧ v = .ref t ∧ ∃ its2, PyProof.Rows.IntsAre its2 [p.1, p.2] ∧ s.heap.IsTuple t its2.toArray := fun i v hv => by
    have hv2 : its[i]? = some v := by simpa using hv
    have hil := (List.getElem?_eq_some_iff.mp hv2).1
    have ht := List.getElem?_eq_getElem (show i < ts.length by omega)
    have hp := List.getElem?_eq_getElem (show i < ps.length by omega)
    obtain ⟨u, hu1, ru⟩ := rv.get (i := i) (x := V.ref ts[i]) (by rw [List.getElem?_map, ht]; rfl)
    rw [hv2] at hu1
    cases hu1
    obtain ⟨its2, rv2, pt, _⟩ := I.tuple (hts i _ _ ht hp)
    exact ⟨_, _, ht, hp, ru, its2, rv2.ints, pt⟩
  refine call_min_walkH (PySem.W.iter_listW (A := X.A.in1) (I.ok.hd hc) hl.isList fun s₂ e W st hfp hw hk => ?_)
  refine ⟨_, _, _, _, _, _, _, s.heap, (fun i j => plt (ps.getD i (0, 0)) (ps.getD j (0, 0))), rfl, W, st, hfp, by rw [List.size_toArray]; omega, hw, hk, ?_, fun v s' hP m => ?_⟩
  · intro i j vi vj s' Q' E' hk' hi hj hQ
    obtain ⟨t, p, ht, hp, rfl, it2, hin, hI⟩ := hit i vi hi
    obtain ⟨t', p', ht', hp', rfl, it2', hin', hI'⟩ := hit j vj hj
    obtain ⟨o, ho, h2⟩ := hI
    obtain ⟨o', ho', h2'⟩ := hI'
    refine HT.lt_tupInts (items := it2.toArray) (items2 := it2'.toArray) ⟨o, hk' _ _ ho, h2⟩ ⟨o', hk' _ _ ho', h2'⟩ hin hin' hu ?_
    rw [lexLt2]
    have hQ2 : Q' (.bool (plt (ps.getD i (0, 0)) (ps.getD j (0, 0)))) s' := hQ
    rw [show ps.getD i (0, 0) = p by rw [List.getD_eq_getElem?_getD, hp]; rfl, show ps.getD j (0, 0) = p' by rw [List.getD_eq_getElem?_getD, hp']; rfl] at hQ2
    exact hQ2
  · obtain ⟨h', tk, rfl, hk'⟩ := PySem.W.moved_old e rfl m
    obtain ⟨b1, b2⟩ := best_pair (fun i => ps.getD i (0, 0)) (its.toArray.size - 1)
    obtain ⟨t, p, ht, hp, rfl, _⟩ := hit _ v hP
    refine ⟨.ref t, H, I.kept hk', rfl, q _ t p ht hp fun z hz => ?_⟩
    obtain ⟨j, hj⟩ := List.getElem?_of_mem hz
    have hjl := (List.getElem?_eq_some_iff.mp hj).1
    have h3 := b2 j (by rw [List.size_toArray]; omega)
    rw [show ps.getD j (0, 0) = z by rw [List.getD_eq_getElem?_getD, hj]; rfl] at h3
    have h4 : ps.getD (argBest (fun i j => plt (ps.getD i (0, 0)) (ps.getD j (0, 0))) (its.toArray.size - 1)) (0, 0) = p := by rw [List.getD_eq_getElem?_getD, hp]; rfl
    rw [h4] at h3
    exact h3
end NL

set_option maxHeartbeats 4000000
namespace NL
open PySem PySem.Spec PyProof.Rows L2
/-! ### ranks of all positions -/
theorem rk_ex (f : Nat → Mk') (p : Int) : ∃ ro, IsRk f p ro := by
  by_cases h : ∃ j, f j p = true
  · have ex : ∀ n j, j ≤ n → f j p = true → ∃ r, f r p = true ∧ ∀ j, j < r → f j p = false := by
      intro n
      induction n with
      | zero =>
        intro j hj hf
        have : j = 0 := by omega
        subst this
        exact ⟨0, hf, fun j hj => absurd hj (Nat.not_lt_zero j)⟩
      | succ n ih =>
        intro j hj hf
        by_cases hl : ∃ i, i < j ∧ f i p = true
        · obtain ⟨i, hi, hfi⟩ := hl
          exact ih i (by omega) hfi
        · refine ⟨j, hf, fun i hi => ?_⟩
          cases hfi : f i p with
          | false => rfl
          | true => exact absurd ⟨i, hi, hfi⟩ hl
    obtain ⟨j, hj⟩ := h
    obtain ⟨r, h1, h2⟩ := ex j j (Nat.le_refl j) hj
    exact ⟨some r, h1, h2⟩
  · refine ⟨none, fun j => ?_⟩
    cases hf : f j p with
    | false => rfl
    | true => exact absurd ⟨j, hf⟩ h
noncomputable def rkF (f : Nat → Mk') (p : Int) : Option Nat := Classical.choose (rk_ex f p)
theorem rkF_is (f : Nat → Mk') (p : Int) : IsRk f p (rkF f p) := Classical.choose_spec (rk_ex f p)
theorem rkF_eq {f : Nat → Mk'} {p : Int} {ro : Option Nat} (h : IsRk f p ro) : rkF f p = ro := (rkF_is f p).uniq h
/-- the marks of a goal: st, to stay; else to come -/
def gF (st : Bool) (A : Ar) (Kp : List Int) : Nat → Mk' := mr A (if st = true then 1 else 0) (psA A.length) (mkO st (fun p => if st = true then !decide (p ∈ Kp) else decide (p ∈ Kp)))
theorem gF_up {st : Bool} {A : Ar} {Kp : List Int} (k : Nat) (p : Int) (h : gF st A Kp k p = true) : gF st A Kp (k + 1) p = true := mr_up h
theorem gF_out {st : Bool} {A : Ar} {Kp : List Int} (k : Nat) : gF st A Kp k (-1) = st := by
  have : gF st A Kp k (-1) = mkO st (fun p => if st = true then !decide (p ∈ Kp) else decide (p ∈ Kp)) (-1) := mr_out (fun h => by
    have := psA_mem.mp h
    omega) k
  exact this
theorem gF_0 {st : Bool} {A : Ar} {Kp : List Int} {p : Int} (h : 0 ≤ p) : gF st A Kp 0 p = if st = true then !decide (p ∈ Kp) else decide (p ∈ Kp) := by
  show mkO st (fun p => if st = true then !decide (p ∈ Kp) else decide (p ∈ Kp)) p = _
  unfold mkO
  exact if_neg (by omega)
theorem gF_s {st : Bool} {A : Ar} {Kp : List Int} {k i : Nat} {os : Pos'} (hi : A[i]? = some os) : gF st A Kp (k + 1) (i : Int) = (gF st A Kp k (i : Int) || frcM (if st = true then 1 else 0) os (gF st A Kp k)) := by
  have hl := (List.getElem?_eq_some_iff.mp hi).1
  have h1 : decide ((i : Int) ∈ psA A.length) = true := decide_eq_true (psA_mem.mpr (by omega))
  have h2 : psO A (i : Int) = os := psO_at (by omega) (by rw [Int.toNat_natCast]; exact hi)
  show (gF st A Kp k (i : Int) || (decide ((i : Int) ∈ psA A.length) && frcM (if st = true then 1 else 0) (psO A (i : Int)) (gF st A Kp k))) = _
  rw [h1, h2, Bool.true_and]
noncomputable def gR (st : Bool) (A : Ar) (Kp : List Int) (p : Int) : Option Nat := rkF (gF st A Kp) p
theorem gR_is (st : Bool) (A : Ar) (Kp : List Int) (p : Int) : IsRk (gF st A Kp) p (gR st A Kp p) := rkF_is _ _
/-! ### which successor fits -/
def fitB (st : Bool) (R : Int → Option Nat) (p q : Int) : Bool := if q = -1 then (R p).isSome == st else match R p, R q with
  | none, none => true
  | some a, some b => decide (b < a)
  | _, _ => false
theorem rk_end {f : Nat → Mk'} (up : ∀ k p, f k p = true → f (k + 1) p = true) : ∀ n : Nat, ∃ J, ∀ k : Nat, k < n → ∀ j, f j (k : Int) = true → f J (k : Int) = true
  | 0 => ⟨0, fun k hk => absurd hk (Nat.not_lt_zero k)⟩
  | n + 1 => by
    obtain ⟨J, hJ⟩ := rk_end up n
    obtain ⟨ro, hro⟩ := rk_ex f (n : Int)
    cases ro with
    | none =>
      refine ⟨J, fun k hk j hj => ?_⟩
      by_cases hkn : k = n
      · subst hkn
        rw [hro j] at hj
        cases hj
      · exact hJ k (by omega) j hj
    | some r =>
      refine ⟨max J r, fun k hk j hj => ?_⟩
      by_cases hkn : k = n
      · subst hkn
        exact up_le up (Nat.le_max_right J r) hro.1
      · exact up_le up (Nat.le_max_left J r) (hJ k (by omega) j hj)
section
variable {st : Bool} {A : Ar} {Kp : List Int}
/-- a marked successor fits where its position is marked one round later -/
theorem fit_some {p q : Int} {r : Nat} (hp : gR st A Kp p = some (r + 1)) (hq : q ≠ -1 ∨ st = true) (h : gF st A Kp r q = true) : fitB st (gR st A Kp) p q = true := by
  unfold fitB
  by_cases h1 : q = -1
  · rw [if_pos h1, hp]
    rcases hq with hq | hq
    · exact absurd h1 hq
    · rw [hq]
      rfl
  · rw [if_neg h1, hp]
    have hr := gR_is st A Kp q
    cases hb : gR st A Kp q with
    | none =>
      rw [hb] at hr
      rw [hr r] at h
      cases h
    | some b =>
      rw [hb] at hr
      have : b ≤ r := by
        rcases Nat.lt_or_ge r b with z | z
        · rw [hr.2 r z] at h
          cases h
        · exact z
      exact decide_eq_true (by omega)
theorem fit_none {p q : Int} (hp : gR st A Kp p = none) (hq : gR st A Kp q = none) (h1 : q ≠ -1) : fitB st (gR st A Kp) p q = true := by
  unfold fitB
  rw [if_neg h1, hp, hq]
theorem fit_out {p : Int} (hp : gR false A Kp p = none) : fitB false (gR false A Kp) p (-1) = true := by
  unfold fitB
  rw [if_pos rfl, hp]
  rfl
end
/-! ### labels, and the object that goes over them -/
def lbV (st : Bool) : Option Nat → List V
  | none => [.str (if st = true then "holds" else "away")]
  | some r => [.str (if st = true then "driven" else "comes"), .int (r : Nat)]
def LabIn (st : Bool) (H : Hp) (r : Option Nat) (v : V) : Prop := ∃ t, v = .ref t ∧ H t = some (.tup (lbV st r))
theorem LabIn.tp {st : Bool} {H H' : Hp} {b : Option Nat} {v : V} (t : Tp H H') (h : LabIn st H b v) : LabIn st H' b v := by
  obtain ⟨a, h1, h2⟩ := h
  exact ⟨a, h1, t _ _ h2⟩
def ffF (a t l g : V) : List (Str × V) := [("arena", a), ("told", t), ("labels", l), ("greatest", g)]
theorem ff_arena {a t l g : V} : (ffF a t l g).lookup ("arena" : Str) = some a := rfl
theorem ff_labels {a t l g : V} : (ffF a t l g).lookup ("labels" : Str) = some l := rfl
theorem ff_fits {a t l g : V} : (ffF a t l g).lookup ("fits" : Str) = none := rfl
theorem ff_all_fit {a t l g : V} : (ffF a t l g).lookup ("all_fit" : Str) = none := rfl
theorem ff_new {a t l g : V} : putF "greatest" g (putF "labels" l (putF "told" t (putF "arena" a []))) = ffF a t l g := rfl
structure FitAt (C : Addr) (st : Bool) (H : Hp) (f : Addr) (A : Ar) (R : Int → Option Nat) (lb : Addr) : Prop where
  obj : ∃ dx v t g, H f = some (.ins C dx (ffF v t (.ref lb) g)) ∧ ArIn H A v
  lab : ∃ ds, H lb = some (.lst ds) ∧ Each (LabIn st H) ((List.range A.length).map fun k : Nat => R (k : Int)) ds
theorem FitAt.same {C f lb : Addr} {st : Bool} {H H' : Hp} {A : Ar} {R : Int → Option Nat} (s : Same H H') (h : FitAt C st H f A R lb) : FitAt C st H' f A R lb := by
  obtain ⟨⟨dx, v, t, g, h1, h2⟩, ds, h3, h4⟩ := h
  exact ⟨⟨dx, v, t, g, s _ _ h1, h2.tp (Tp.same s)⟩, ds, s _ _ h3, h4.mono fun o x => LabIn.tp (Tp.same s)⟩
theorem FitAt.at {C f lb : Addr} {st : Bool} {H : Hp} {A : Ar} {R : Int → Option Nat} (h : FitAt C st H f A R lb) {p : Int} (h0 : 0 ≤ p) (h1 : p < A.length) : ∃ ds t, H lb = some (.lst ds) ∧ atI ds p = some (.ref t) ∧ H t = some (.tup (lbV st (R p))) := by
  obtain ⟨_, ds, h3, h4⟩ := h
  obtain ⟨o, x, ho, hat, t, rfl, et⟩ := h4.atI h0 (by rw [List.length_map, List.length_range]; exact h1)
  rw [List.getElem?_map, List.getElem?_range (by omega)] at ho
  have : R p = o := by
    have := Option.some.inj ho
    rw [← this]
    congr 1
    omega
  exact ⟨ds, t, h3, hat, by rw [this]; exact et⟩
theorem pe_never {X : Cx} {e : Expr} : PE X e (fun _ _ _ => False) := ⟨fun _ _ _ _ _ _ h => h.elim⟩
theorem pe_fldK {X : Cx} {K : PySem.W.Frag} {e : Expr} {f : Str} {pos : Pos} {ta : TE} (h : X.K = K) (he : PE X e ta) (hb : attributeBase e f X.env (eval e X.env) = eval e X.env) : PE X (.Attribute e f pos) (tFld K ta f) := by
  subst h
  exact pe_fld he hb
section
variable {P : Program} {w : World} {K : PySem.W.Frag} {mg : Str → Option Value} {base : Heap}
def spHas : Sp := fun vs H Q _ => ∃ (a : Addr) (s : Str) (r : List V), vs = [.ref a] ∧ H a = some (.tup (.str s :: r)) ∧ Q (.bl (inV (.str s) [(.str "holds"), (.str "comes"), (.str "even"), (.str "keeps")])) H
theorem ok_has_option (T : Txt K mg) : FnOk P w K mg base CX0 1 T.ahas_option T.dhas_option Phas_option spHas := by
  refine T.Fhas_option.ok schas_option (fun vs H Q E h => ?_) (fun cdv A outer s H vs Q E hr h => ?_)
  · obtain ⟨a, s, r, rfl, _⟩ := h
    rfl
  obtain ⟨a, s, r, rfl, e, q⟩ := h
  refine ⟨_, (pss_one (ps_ret (pe_cmpR op_in_seq (pe_ix ix_tup (pv 0) pe_int (fun _ _ => rfl)) (pe_glob (v := .ref T.c_OPTION_KINDS) rfl T.g_OPTION_KINDS rfl) (by rfl)))), ?_⟩
  refine ⟨_, rfl, a, _, _, _, rfl, rfl, sqt e, atI0, T.c_OPTION_KINDS, _, rfl, .inr (.inr T.k_OPTION_KINDS), rfl, by decide, q⟩
theorem has_lb (st : Bool) (r : Option Nat) : ∃ s tl, lbV st r = .str s :: tl ∧ inV (.str s) [(.str "holds"), (.str "comes"), (.str "even"), (.str "keeps")] = (r.isSome != st) := by
  cases r with
  | none => cases st <;> exact ⟨_, _, rfl, by decide⟩
  | some r =>
    cases st
    · exact ⟨"comes", _, rfl, (by decide : inV (.str "comes") [(.str "holds"), (.str "comes"), (.str "even"), (.str "keeps")] = (true != false))⟩
    · exact ⟨"driven", _, rfl, (by decide : inV (.str "driven") [(.str "holds"), (.str "comes"), (.str "even"), (.str "keeps")] = (true != true))⟩
/-! ### is_end -/
def spEnd (st : Bool) : Sp := fun vs H Q _ => ∃ (a : Addr) (r : Option Nat), vs = [.ref a] ∧ H a = some (.tup (lbV st r)) ∧ ∀ H', Same H H' → Q (.bl (decide (r = some 0))) H'
/-! ### Fitting -/
def spInit (C : Addr) (st : Bool) : Sp := fun vs H Q _ => ∃ (p dx g lb : Addr) (v t : V), vs = [.ref p, v, .ref g, .ref lb] ∧ H p = some (.ins C dx []) ∧ H g = some (.tup [.str (if st = true then "stay" else "come"), t]) ∧
  ∀ H', H' p = some (.ins C dx (ffF v t (.ref lb) (.int 0))) → (∀ b o, H b = some o → b ≠ p → H' b = some o) → Q .non H'
theorem ok_Fitting___init__ (T : Txt K mg) (st : Bool) : FnOk P w K mg base CX0 1 T.aFitting___init__ T.dFitting___init__ PFitting___init__ (spInit T.C_Fitting st) := by
  refine T.FFitting___init__.ok scFitting___init__ (fun vs H Q E h => ?_) (fun cdv A outer s H vs Q E hr h => ?_)
  · obtain ⟨p, dx, g, lb, v, t, rfl, _⟩ := h
    rfl
  obtain ⟨p, dx, g, lb, v, t, rfl, hp, eg, q⟩ := h
  refine ⟨_, (pss_cons (ps_fld (pv 0) (pv 1) rfl)
    (pss_cons (ps_fld (pv 0) (pe_ix ix_tup (pv 2) pe_int (fun _ _ => rfl)) rfl)
    (pss_cons (ps_fld (pv 0) (pv 3) rfl)
    (pss_one (ps_fld (pv 0) (pe_ifExp (pt_cmpR op_eq (pe_ix ix_tup (pv 2) pe_int (fun _ _ => rfl)) pe_str (nomark _)) pe_never pe_int) rfl))))), ?_⟩
  have hgp : g ≠ p := fun z => by
    rw [z, hp] at eg
    cases eg
  refine ⟨_, rfl, _, rfl, p, _, _, _, rfl, hp, T.cl_Fitting, T.na_Fitting_arena, Nat.le_of_ble_eq_true rfl, ?_⟩
  refine ⟨_, rfl, g, _, _, _, rfl, rfl, sqt (by rw [upd_ne hgp]; exact eg), atI1, _, rfl, p, _, _, _, rfl, upd_same, T.cl_Fitting, T.na_Fitting_told, Nat.le_of_ble_eq_true rfl, ?_⟩
  refine ⟨_, rfl, _, rfl, p, _, _, _, rfl, upd_same, T.cl_Fitting, T.na_Fitting_labels, Nat.le_of_ble_eq_true rfl, ?_⟩
  refine ⟨_, rfl, g, _, _, _, rfl, rfl, sqt (by rw [upd_ne hgp, upd_ne hgp, upd_ne hgp]; exact eg), atI0, rfl, _, rfl, ?_⟩
  refine ifF (by cases st <;> decide) ?_
  refine ⟨_, rfl, p, _, _, _, rfl, upd_same, T.cl_Fitting, T.na_Fitting_greatest, Nat.le_of_ble_eq_true rfl, ?_⟩
  refine q _ (by rw [upd_same, ff_new]) fun b o e hb => ?_
  rw [upd_ne hb, upd_ne hb, upd_ne hb, upd_ne hb]
  exact e
def spFits (C : Addr) (st : Bool) : Sp := fun vs H Q _ => ∃ (f lb : Addr) (A : Ar) (R : Int → Option Nat) (p i q : Int), vs = [.ref f, .int p, .int i, .int q] ∧ FitAt C st H f A R lb ∧ 0 ≤ p ∧ p < A.length ∧ -1 ≤ q ∧ q < A.length ∧ ∀ H', Same H H' → Q (.bl (fitB st R p q)) H'
theorem ok_Fitting_fits (T : Txt K mg) (st : Bool) : FnOk P w K mg base CX0 2 T.aFitting_fits T.dFitting_fits PFitting_fits (spFits T.C_Fitting st) := by
  have Ghas_option := ok_has_option (P := P) (w := w) (base := base) T
  refine T.FFitting_fits.ok scFitting_fits (fun vs H Q E h => ?_) (fun cdv A outer s H vs Q E hr h => ?_)
  · obtain ⟨f, lb, A, R, p, i, q, rfl, _⟩ := h
    rfl
  obtain ⟨f, lb, A0, R, p, i, q, rfl, hF, p0, p1, q0, q1, qq⟩ := h
  obtain ⟨⟨dx, v, t, g, ef, hA⟩, _⟩ := id hF
  obtain ⟨ds, t1, el, hat1, et1⟩ := hF.at p0 p1
  refine ⟨_, (pss_cons (ps_set (i := 4) scFitting_fits.nd rfl (Or.inl rfl) (pe_ix ix_seq (pe_fld (pv 0) rfl) (pv 1) (fun _ _ => rfl)))
    (pss_cons (ps_if (pt_cmpR op_eq (pv 3) (pe_un un_neg pe_int) (nomark _))
    (pss_one (ps_ret (pe_not (pe_call Ghas_option (hr.mono (by omega)) (by rfl) T.mhas_option T.Fhas_option.kp T.bhas_option .nil pass0 (pa_cons (pv 4) pa_nil)))))
    pss_nil)
    (pss_cons (ps_set (i := 5) scFitting_fits.nd rfl (Or.inl rfl) (pe_ix ix_seq (pe_fld (pv 0) rfl) (pv 3) (fun _ _ => rfl)))
    (pss_cons (ps_if (pt_cmpR op_ne (pe_ix ix_tup (pv 4) pe_int (fun _ _ => rfl)) (pe_ix ix_tup (pv 5) pe_int (fun _ _ => rfl)) (nomark _))
    (pss_one (ps_ret pe_bl))
    pss_nil)
    (pss_cons (ps_if (pt_cmpR op_in_seq (pe_ix ix_tup (pv 4) pe_int (fun _ _ => rfl)) (pe_tup (pa_cons pe_str (pa_cons pe_str pa_nil))) (by rfl))
    (pss_one (ps_ret pe_bl))
    pss_nil)
    (pss_cons (ps_if (pt_cmpR op_in_seq (pe_ix ix_tup (pv 4) pe_int (fun _ _ => rfl)) (pe_tup (pa_cons pe_str (pa_cons pe_str pa_nil))) (by rfl))
    (pss_one (ps_ret (pe_cmpR op_lt (pe_ix ix_tup (pv 5) pe_int (fun _ _ => rfl)) (pe_ix ix_tup (pv 4) pe_int (fun _ _ => rfl)) (nomark _))))
    pss_nil)
    (pss_cons (ps_if (pt_cmpR op_in_seq (pe_ix ix_tup (pv 4) pe_int (fun _ _ => rfl)) (pe_tup (pa_cons pe_str (pa_cons pe_str pa_nil))) (by rfl))
    (pss_one (ps_ret pe_never))
    pss_nil)
    (pss_one (ps_ret (pe_cmpR op_le (pe_ix ix_tup (pv 5) pe_int (fun _ _ => rfl)) (pe_op op_add (pe_ix ix_tup (pv 4) pe_int (fun _ _ => rfl)) pe_never) (nomark _))))))))))), ?_⟩
  refine ⟨_, rfl, f, _, dx, _, _, rfl, ef, T.cl_Fitting, T.na_Fitting_labels, ff_labels, _, rfl, .inl ⟨lb, _, _, _, rfl, rfl, sqd el, hat1, ?_⟩⟩
  refine ⟨_, rfl, _, rfl, rfl, _, rfl, ?_⟩
  by_cases hq1 : q = -1
  · refine ifT (decide_eq_true (by rw [hq1])) ?_
    obtain ⟨s0, tl, e1, e2⟩ := has_lb st (R p)
    refine ⟨_, rfl, t1, s0, tl, rfl, by rw [et1, e1], _, rfl, ?_⟩
    refine boolE ?_ (qq H (Same.refl H))
    unfold fitB
    rw [if_pos hq1, e2]
    cases (R p).isSome <;> cases st <;> rfl
  refine ifF (decide_eq_false (fun e => hq1 (V.int.inj e))) ?_
  obtain ⟨ds', t2, el', hat2, et2⟩ := hF.at (p := q) (by omega) q1
  rw [el] at el'
  obtain rfl : ds = ds' := by injection el' with z; injection z
  refine ⟨_, rfl, f, _, dx, _, _, rfl, ef, T.cl_Fitting, T.na_Fitting_labels, ff_labels, _, rfl, .inl ⟨lb, _, _, _, rfl, rfl, sqd el, hat2, ?_⟩⟩
  cases hp : R p with
  | none =>
    rw [hp] at et1
    cases hq : R q with
    | none =>
      rw [hq] at et2
      have hfit : fitB st R p q = true := by
        unfold fitB
        rw [if_neg hq1, hp, hq]
      refine ⟨_, rfl, t1, _, _, _, rfl, rfl, sqt et1, atI0, _, rfl, t2, _, _, _, rfl, rfl, sqt et2, atI0, rfl, _, rfl, ?_⟩
      refine ifF (by cases st <;> decide) ?_
      refine ⟨_, rfl, t1, _, _, _, rfl, rfl, sqt et1, atI0, Nat.le_of_ble_eq_true rfl, fun tt htt => ?_⟩
      obtain ⟨H1, e1, s1, k1⟩ := newH htt (.tup [V.str "holds", V.str "away"])
      rw [e1]
      refine ⟨tt, _, rfl, .inr (sqt k1), rfl, by decide, _, rfl, ?_⟩
      exact ifT (by cases st <;> decide) (boolE hfit.symm (qq H1 s1))
    | some b =>
      rw [hq] at et2
      have hfit : fitB st R p q = false := by
        unfold fitB
        rw [if_neg hq1, hp, hq]
      refine ⟨_, rfl, t1, _, _, _, rfl, rfl, sqt et1, atI0, _, rfl, t2, _, _, _, rfl, rfl, sqt et2, atI0, rfl, _, rfl, ?_⟩
      exact ifT (by cases st <;> decide) (boolE hfit.symm (qq H (Same.refl H)))
  | some a =>
    rw [hp] at et1
    cases hq : R q with
    | none =>
      rw [hq] at et2
      have hfit : fitB st R p q = false := by
        unfold fitB
        rw [if_neg hq1, hp, hq]
      refine ⟨_, rfl, t1, _, _, _, rfl, rfl, sqt et1, atI0, _, rfl, t2, _, _, _, rfl, rfl, sqt et2, atI0, rfl, _, rfl, ?_⟩
      exact ifT (by cases st <;> decide) (boolE hfit.symm (qq H (Same.refl H)))
    | some b =>
      rw [hq] at et2
      have hfit : fitB st R p q = decide (b < a) := by
        unfold fitB
        rw [if_neg hq1, hp, hq]
      refine ⟨_, rfl, t1, _, _, _, rfl, rfl, sqt et1, atI0, _, rfl, t2, _, _, _, rfl, rfl, sqt et2, atI0, rfl, _, rfl, ?_⟩
      refine ifF (by cases st <;> decide) ?_
      refine ⟨_, rfl, t1, _, _, _, rfl, rfl, sqt et1, atI0, Nat.le_of_ble_eq_true rfl, fun tt htt => ?_⟩
      obtain ⟨H1, e1, s1, k1⟩ := newH htt (.tup [V.str "holds", V.str "away"])
      rw [e1]
      refine ⟨tt, _, rfl, .inr (sqt k1), rfl, by decide, _, rfl, ?_⟩
      refine ifF (by cases st <;> decide) ?_
      refine ⟨_, rfl, t1, _, _, _, rfl, rfl, sqt (s1 _ _ et1), atI0, Nat.le_of_ble_eq_true rfl, fun tu htu => ?_⟩
      obtain ⟨H2, e2, s2, k2⟩ := newH htu (.tup [V.str "comes", V.str "driven"])
      rw [e2]
      have s12 := s1.trans s2
      refine ⟨tu, _, rfl, .inr (sqt k2), rfl, by decide, _, rfl, ?_⟩
      refine ifT (by cases st <;> decide) ?_
      refine ⟨_, rfl, t2, _, _, _, rfl, rfl, sqt (s12 _ _ et2), atI1, _, rfl, t1, _, _, _, rfl, rfl, sqt (s12 _ _ et1), atI1, _, _, rfl, rfl, boolE ?_ (qq H2 s12)⟩
      rw [hfit]
      by_cases h : b < a
      · rw [decide_eq_true h]
        exact decide_eq_true (by omega)
      · rw [decide_eq_false h]
        exact decide_eq_false (by omega)
/-- the place of an option: within what is held -/
def spAllFit (C : Addr) (st : Bool) : Sp := fun vs H Q _ => ∃ (f lb : Addr) (A : Ar) (R : Int → Option Nat) (p i : Nat) (os : Pos') (o : Opt), vs = [.ref f, .int p, .int i] ∧ FitAt C st H f A R lb ∧ ArG A ∧ A[p]? = some os ∧ os[i]? = some o ∧ ∀ H', Same H H' → Q (.bl (o.all (fitB st R p))) H'
theorem ok_Fitting_all_fit (T : Txt K mg) (st : Bool) : FnOk P w K mg base CX0 3 T.aFitting_all_fit T.dFitting_all_fit PFitting_all_fit (spAllFit T.C_Fitting st) := by
  have GFitting_fits := ok_Fitting_fits (P := P) (w := w) (base := base) T st
  refine T.FFitting_all_fit.ok scFitting_all_fit (fun vs H Q E h => ?_) (fun cdv A outer s H vs Q E hr h => ?_)
  · obtain ⟨f, lb, A, R, p, i, os, o, rfl, _⟩ := h
    rfl
  obtain ⟨f, lb, A0, R, p, i, os, o, rfl, hF, hG, hos, ho, qq⟩ := h
  have hpl := (List.getElem?_eq_some_iff.mp hos).1
  obtain ⟨⟨dx, v, t, g, ef, b0, xs, rfl, e0, hxs⟩, _⟩ := id hF
  obtain ⟨x, hx, b1, ys, rfl, e1, hys⟩ := hxs.at hos
  obtain ⟨y, hy, bo, rfl, eo⟩ := hys.at ho
  have hoG := (hG.2 os (List.mem_of_getElem? hos)).2 o (List.mem_of_getElem? ho)
  refine ⟨_, (pss_cons (ps_for  PassesOwn.never rfl (pi_tup (pe_ix ix_tup (pe_ix ix_tup (pe_fld (pv 0) rfl) (pv 1) (fun _ _ => rfl)) (pv 2) (fun _ _ => rfl))) (pg_name (i := 3) scFitting_all_fit.nd rfl (Or.inl rfl))
    (pss_one (ps_if (pt_not (pt_val (pe_meth (pv 0) T.cl_Fitting T.mFitting_fits GFitting_fits (hr.mono (by omega)) T.bFitting_fits .nil pass0 (pa_cons (pv 1) (pa_cons (pv 2) (pa_cons (pv 3) pa_nil))))))
    (pss_one (ps_ret pe_bl))
    pss_nil)))
    (pss_one (ps_ret pe_bl))), ?_⟩
  refine ⟨_, rfl, f, _, dx, _, _, rfl, ef, T.cl_Fitting, T.na_Fitting_arena, ff_arena, _, rfl, b0, _, _, _, rfl, rfl, sqt e0, atI_nat hx, _, rfl, b1, _, _, _, rfl, rfl, sqt e1, atI_nat hy, bo, rfl, ⟨_, sqt eo⟩, ?_⟩
  refine for_tup (K := K) (a := bo) (xs := o.map V.int) (fun (j : Nat) (σ : L2.St) (H' : Hp) => ∃ y3 : Option V, σ = [some (.ref f), some (.int p), some (.int i), y3] ∧ Same H H' ∧ (o.take j).all (fitB st R p) = true) ?_ ?_ ?_ ?_
  · exact ⟨_, rfl, Same.refl _, rfl⟩
  · rintro j σ H' _ ⟨y3, rfl, s1, _⟩
    exact sqt (s1 _ _ eo)
  · rintro j x σ H1 hx ⟨y3, rfl, s1, hall⟩
    rw [List.getElem?_map] at hx
    obtain ⟨c, hc, rfl⟩ := Option.map_eq_some_iff.mp hx
    have hcm := hoG.mem c (List.mem_of_getElem? hc)
    refine ⟨_, rfl, f, dx, _, rfl, s1 _ _ ef, ff_fits, _, rfl, _, rfl, _, rfl, f, lb, A0, R, p, i, c, rfl, hF.same s1, by omega, by omega, hcm.1, hcm.2, fun H2 s2 => ⟨_, rfl, ?_⟩⟩
    cases hfit : fitB st R p c with
    | true =>
      refine ifF rfl ⟨_, rfl, s1.trans s2, ?_⟩
      rw [List.take_add_one, hc, List.all_append, hall]
      show (true && (fitB st R p c && true)) = true
      rw [hfit]
      rfl
    | false =>
      refine ifT rfl (boolE ?_ (qq H2 (s1.trans s2)))
      exact (List.all_eq_false.mpr ⟨c, List.mem_of_getElem? hc, by rw [hfit]; exact Bool.false_ne_true⟩).symm
  · rintro σ H1 ⟨y3, rfl, s1, hall⟩
    rw [List.length_map, List.take_length] at hall
    exact boolE hall.symm (qq H1 s1)
end
end NL

set_option maxHeartbeats 4000000
namespace NL
open PySem PySem.Spec PyProof.Rows L2
def rpF (R : Int → Option Nat) (p : Int) (o : Opt) : Int := (o.filter (fitB false R p)).headD 0
theorem rpF_in {R : Int → Option Nat} {p : Int} {o : Opt} (h : ∃ q ∈ o, fitB false R p q = true) : rpF R p o ∈ o ∧ fitB false R p (rpF R p o) = true := by
  obtain ⟨q, hq, hf⟩ := h
  have hm : q ∈ o.filter (fitB false R p) := List.mem_filter.mpr ⟨hq, hf⟩
  unfold rpF
  cases hl : o.filter (fitB false R p) with
  | nil => rw [hl] at hm; cases hm
  | cons a r =>
    have : a ∈ o.filter (fitB false R p) := by rw [hl]; exact List.mem_cons_self ..
    exact List.mem_filter.mp this
/-- the first option whose successors all fit -/
def IsIx (st : Bool) (R : Int → Option Nat) (p : Int) (os : Pos') (i : Nat) : Prop := (∃ o, os[i]? = some o ∧ o.all (fitB st R p) = true) ∧ ∀ j, j < i → ∀ o, os[j]? = some o → o.all (fitB st R p) = false
def rkI (R : Int → Option Nat) (q : Int) : Int := ((R q).getD 0 : Nat)
/-- the reply within an option -/
def IsRp (st : Bool) (R : Int → Option Nat) (p : Int) (o : Opt) (z : Int) : Prop := z ∈ o ∧ fitB st R p z = true ∧ (st = false → z = rpF R p o) ∧ (st = true → (-1 ∈ o → z = -1) ∧ (z ≠ -1 → ∀ q ∈ o, fitB st R p q = true → plt (rkI R q, q) (rkI R z, z) = false))
def PickG (st : Bool) (H : Hp) (os : Pos') (R : Int → Option Nat) (p : Int) (v : V) : Prop := if ((R p).isSome != st) = true then (if R p = some 0 then v = .int (-1) else ∃ i : Nat, v = .int i ∧ IsIx st R p os i)
  else ∃ (c : Addr) (zs : List Int), v = .ref c ∧ H c = some (.tup (zs.map V.int)) ∧ (if R p = some 0 then zs = [] else zs.length = os.length ∧ ∀ (i : Nat) o z, os[i]? = some o → zs[i]? = some z → IsRp st R p o z)
theorem PickG.tp {st : Bool} {H H' : Hp} {os : Pos'} {R : Int → Option Nat} {p : Int} {v : V} (t : Tp H H') (h : PickG st H os R p v) : PickG st H' os R p v := by
  unfold PickG at h ⊢
  split
  · rename_i e
    rw [if_pos e] at h
    exact h
  · rename_i e
    rw [if_neg e] at h
    obtain ⟨c, zs, h1, h2, h3⟩ := h
    exact ⟨c, zs, h1, t _ _ h2, h3⟩
theorem head_out {o : Opt} {n : Int} (h : OptG n o) (hm : (-1 : Int) ∈ o) : ∃ r, o = -1 :: r := by
  cases o with
  | nil => cases hm
  | cons a r =>
    have ha := (h.mem a (List.mem_cons_self ..)).1
    rcases List.mem_cons.mp hm with e | e
    · exact ⟨r, by rw [← e]⟩
    · have := List.rel_of_pairwise_cons h.asc e
      omega
section
variable {P : Program} {w : World} {K : PySem.W.Frag} {mg : Str → Option Value} {base : Heap}
/-! ### _option -/
def spOption (C : Addr) (st : Bool) : Sp := fun vs H Q _ => ∃ (f lb : Addr) (A : Ar) (R : Int → Option Nat) (p : Nat) (os : Pos'), vs = [.ref f, .int p] ∧ FitAt C st H f A R lb ∧ ArG A ∧ A[p]? = some os ∧ (∃ o ∈ os, o.all (fitB st R p) = true) ∧ ∀ (i : Nat) H', Same H H' → IsIx st R p os i → Q (.int i) H'
/-! ### _reply -/
def spReply (C : Addr) (st : Bool) : Sp := fun vs H Q _ => ∃ (f lb : Addr) (A : Ar) (R : Int → Option Nat) (p i : Nat) (os : Pos') (o : Opt), vs = [.ref f, .int p, .int i] ∧ FitAt C st H f A R lb ∧ ArG A ∧ A[p]? = some os ∧ os[i]? = some o ∧ ((R p).isSome = st) ∧ (∃ q ∈ o, fitB st R p q = true) ∧ ∀ z H', Same H H' → IsRp st R p o z → Q (.int z) H'
/-! ### _pick -/
def spPick (C : Addr) (st : Bool) : Sp := fun vs H Q _ => ∃ (f lb : Addr) (A : Ar) (R : Int → Option Nat) (p : Nat) (os : Pos'), vs = [.ref f, .int p] ∧ FitAt C st H f A R lb ∧ ArG A ∧ A[p]? = some os ∧ (((R p).isSome = st) → R p ≠ some 0 → ∀ o ∈ os, ∃ q ∈ o, fitB st R p q = true) ∧ (((R p).isSome = !st) → R p ≠ some 0 → ∃ o ∈ os, o.all (fitB st R p) = true) ∧
  ∀ v H', Same H H' → PickG st H' os R p v → Q v H'
end
end NL

set_option maxHeartbeats 4000000
namespace NL
open PySem PySem.Spec PyProof.Rows L2
def sdV (b : Bool) : V := .str (if b = true then "controller" else "disturbance")
theorem come_no {A : Ar} {Kp : List Int} (hin : InA A A.length) {p : Nat} {os : Pos'} (hp : A[p]? = some os) (h : gR false A Kp p = none) : ∀ o ∈ os, ∃ q ∈ o, fitB false (gR false A Kp) p q = true := by
  intro o ho
  obtain ⟨J, hJ⟩ := rk_end (f := gF false A Kp) (fun k p e => gF_up k p e) A.length
  have hr := gR_is false A Kp p
  rw [h] at hr
  have h1 := hr (J + 1)
  rw [gF_s hp, Bool.or_eq_false_iff] at h1
  have h2 : os.any (fun o => o.all (gF false A Kp J)) = false := h1.2
  have h3 := List.any_eq_false.mp h2 o ho
  have h4 : o.all (gF false A Kp J) = false := by
    cases hz : o.all (gF false A Kp J) with
    | false => rfl
    | true => exact absurd hz h3
  obtain ⟨q, hq, hf⟩ := List.all_eq_false.mp h4
  refine ⟨q, hq, ?_⟩
  have hqm := hin os (List.mem_of_getElem? hp) o ho q hq
  by_cases hq1 : q = -1
  · rw [hq1]
    exact fit_out h
  · refine fit_none h ?_ hq1
    have hrq := gR_is false A Kp q
    cases hb : gR false A Kp q with
    | none => rfl
    | some b =>
      rw [hb] at hrq
      have := hJ q.toNat (by omega) b (by rw [show ((q.toNat : Nat) : Int) = q by omega]; exact hrq.1)
      rw [show ((q.toNat : Nat) : Int) = q by omega] at this
      exact absurd this hf
theorem come_yes {A : Ar} {Kp : List Int} {p : Nat} {os : Pos'} (hp : A[p]? = some os) {r : Nat} (h : gR false A Kp p = some (r + 1)) : ∃ o ∈ os, o.all (fitB false (gR false A Kp) p) = true := by
  have hr := gR_is false A Kp p
  rw [h] at hr
  have h1 := hr.1
  rw [gF_s hp, hr.2 r (Nat.lt_succ_self r), Bool.false_or] at h1
  have h2 : os.any (fun o => o.all (gF false A Kp r)) = true := h1
  obtain ⟨o, ho, hall⟩ := List.any_eq_true.mp h2
  refine ⟨o, ho, List.all_eq_true.mpr fun q hq => ?_⟩
  have hf := List.all_eq_true.mp hall q hq
  refine fit_some h (.inl fun e => ?_) hf
  rw [e, gF_out] at hf
  cases hf
theorem stay_yes {A : Ar} {Kp : List Int} (hin : InA A A.length) {p : Nat} {os : Pos'} (hp : A[p]? = some os) (h : gR true A Kp p = none) : ∃ o ∈ os, o.all (fitB true (gR true A Kp) p) = true := by
  obtain ⟨J, hJ⟩ := rk_end (f := gF true A Kp) (fun k p e => gF_up k p e) A.length
  have hr := gR_is true A Kp p
  rw [h] at hr
  have h1 := hr (J + 1)
  rw [gF_s hp, Bool.or_eq_false_iff] at h1
  have h2 : os.all (fun o => o.any (gF true A Kp J)) = false := h1.2
  obtain ⟨o, ho, hno⟩ := List.all_eq_false.mp h2
  refine ⟨o, ho, List.all_eq_true.mpr fun q hq => ?_⟩
  have hqm := hin os (List.mem_of_getElem? hp) o ho q hq
  have hf : gF true A Kp J q = false := by
    cases hf : gF true A Kp J q with
    | false => rfl
    | true => exact absurd (List.any_eq_true.mpr ⟨q, hq, hf⟩) hno
  have hq1 : q ≠ -1 := fun e => by
    rw [e, gF_out] at hf
    cases hf
  refine fit_none h ?_ hq1
  have hrq := gR_is true A Kp q
  cases hb : gR true A Kp q with
  | none => rfl
  | some b =>
    rw [hb] at hrq
    have := hJ q.toNat (by omega) b (by rw [show ((q.toNat : Nat) : Int) = q by omega]; exact hrq.1)
    rw [show ((q.toNat : Nat) : Int) = q by omega, hf] at this
    cases this
theorem stay_no {A : Ar} {Kp : List Int} {p : Nat} {os : Pos'} (hp : A[p]? = some os) {r : Nat} (h : gR true A Kp p = some (r + 1)) : ∀ o ∈ os, ∃ q ∈ o, fitB true (gR true A Kp) p q = true := by
  intro o ho
  have hr := gR_is true A Kp p
  rw [h] at hr
  have h1 := hr.1
  rw [gF_s hp, hr.2 r (Nat.lt_succ_self r), Bool.false_or] at h1
  have h2 : os.all (fun o => o.any (gF true A Kp r)) = true := h1
  obtain ⟨q, hq, hf⟩ := List.any_eq_true.mp (List.all_eq_true.mp h2 o ho)
  exact ⟨q, hq, fit_some h (.inr rfl) hf⟩
theorem pick_no {st : Bool} {A : Ar} {Kp : List Int} (hin : InA A A.length) {p : Nat} {os : Pos'} (hp : A[p]? = some os) (h : (gR st A Kp p).isSome = st) (h0 : gR st A Kp p ≠ some 0) : ∀ o ∈ os, ∃ q ∈ o, fitB st (gR st A Kp) p q = true := by
  cases st with
  | false =>
    refine come_no hin hp ?_
    cases hR : gR false A Kp p with
    | none => rfl
    | some r => rw [hR] at h; cases h
  | true =>
    cases hR : gR true A Kp p with
    | none => rw [hR] at h; cases h
    | some r =>
      cases r with
      | zero => exact absurd hR h0
      | succ r => exact stay_no hp hR
theorem pick_yes {st : Bool} {A : Ar} {Kp : List Int} (hin : InA A A.length) {p : Nat} {os : Pos'} (hp : A[p]? = some os) (h : (gR st A Kp p).isSome = !st) (h0 : gR st A Kp p ≠ some 0) : ∃ o ∈ os, o.all (fitB st (gR st A Kp) p) = true := by
  cases st with
  | true =>
    refine stay_yes hin hp ?_
    cases hR : gR true A Kp p with
    | none => rfl
    | some r => rw [hR] at h; cases h
  | false =>
    cases hR : gR false A Kp p with
    | none => rw [hR] at h; cases h
    | some r =>
      cases r with
      | zero => exact absurd hR h0
      | succ r => exact come_yes hp hR
/-- one label of a paper -/
def PapIn (st : Bool) (H : Hp) (os : Pos') (R : Int → Option Nat) (p : Int) (v : V) : Prop := ∃ b pk, v = .ref b ∧ H b = some (.tup (lbV st (R p) ++ [pk])) ∧ PickG st H os R p pk
theorem PapIn.tp {st : Bool} {H H' : Hp} {os : Pos'} {R : Int → Option Nat} {p : Int} {v : V} (t : Tp H H') (h : PapIn st H os R p v) : PapIn st H' os R p v := by
  obtain ⟨b, pk, h1, h2, h3⟩ := h
  exact ⟨b, pk, h1, t _ _ h2, h3.tp t⟩
/-- the paper, position by position -/
def PaperAt (st : Bool) (H : Hp) (A : Ar) (R : Int → Option Nat) (n : Nat) (ls : List V) : Prop := ls.length = n ∧ ∀ (k : Nat) os, k < n → A[k]? = some os → ∃ v, ls[k]? = some v ∧ PapIn st H os R (k : Int) v
theorem PaperAt.tp {st : Bool} {H H' : Hp} {A : Ar} {R : Int → Option Nat} {n : Nat} {ls : List V} (t : Tp H H') (h : PaperAt st H A R n ls) : PaperAt st H' A R n ls := ⟨h.1, fun k os hk ho => by
  obtain ⟨v, h1, h2⟩ := h.2 k os hk ho
  exact ⟨v, h1, h2.tp t⟩⟩
section
variable {P : Program} {w : World} {K : PySem.W.Frag} {mg : Str → Option Value} {base : Heap}
/-! ### _drafts -/
def goalW (st : Bool) : V := .str (if st = true then "stay" else "come")
def spDrafts (Pt : Addr) (st : Bool) : Sp := fun vs H Q _ => ∃ (v : V) (A : Ar) (g kp : Addr) (Kp : List Int), vs = [v, .ref g] ∧ ArIn H A v ∧ ArG A ∧ H g = some (.tup [goalW st, .ref kp]) ∧ H kp = some (.tup (Kp.map V.int)) ∧ GxR.TabG H Pt ∧
  ∀ p ds H', Sm Pt H H' → H' p = some (.lst ds) → Each (LabIn st H') ((List.range A.length).map fun k : Nat => gR st A Kp (k : Int)) ds → Q (.ref p) H'
/-! ### owners -/
def spOwners (Pt : Addr) (st : Bool) : Sp := fun vs H Q _ => ∃ (v : V) (A : Ar) (g kp : Addr) (Kp : List Int), vs = [v, .ref g] ∧ ArIn H A v ∧ ArG A ∧ H g = some (.tup [goalW st, .ref kp]) ∧ H kp = some (.tup (Kp.map V.int)) ∧ GxR.TabG H Pt ∧
  ∀ p H', Sm Pt H H' → H' p = some (.tup ((List.range A.length).map fun k : Nat => sdV ((gR st A Kp (k : Int)).isSome != st))) → Q (.ref p) H'
/-! ### told_paper -/
def spTold (Pt : Addr) (st : Bool) : Sp := fun vs H Q _ => ∃ (v : V) (A : Ar) (g kp : Addr) (Kp : List Int), vs = [v, .ref g] ∧ ArIn H A v ∧ ArG A ∧ H g = some (.tup [goalW st, .ref kp]) ∧ H kp = some (.tup (Kp.map V.int)) ∧ GxR.TabG H Pt ∧
  ∀ p ls H', Sm Pt H H' → H' p = some (.tup ls) → PaperAt st H' A (gR st A Kp) A.length ls → Q (.ref p) H'
end
end NL

set_option maxHeartbeats 4000000
namespace NL
open PySem PySem.Spec PyProof.Rows L2
/-! ### a list of rounds, None where there is none -/
def rz (z : Int) : V := if z < 0 then .non else .int z
def rzL (n : Nat) (φ : Nat → Int) : List V := (List.range n).map fun k => rz (φ k)
theorem rzL_len (n : Nat) (φ : Nat → Int) : (rzL n φ).length = n := by unfold rzL; rw [List.length_map, List.length_range]
theorem rzL_at {n : Nat} {φ : Nat → Int} {k : Nat} (h : k < n) : (rzL n φ)[k]? = some (rz (φ k)) := by
  unfold rzL
  rw [List.getElem?_map, List.getElem?_range h]
  rfl
theorem rzL_get {n : Nat} {φ : Nat → Int} {k : Int} (h0 : 0 ≤ k) (h1 : k < n) : atI (rzL n φ) k = some (rz (φ k.toNat)) := by
  have := atI_nat (rzL_at (φ := φ) (show k.toNat < n by omega))
  rw [show ((k.toNat : Nat) : Int) = k by omega] at this
  exact this
theorem rzL_ext {n : Nat} {φ ψ : Nat → Int} (h : ∀ k, k < n → φ k = ψ k) : rzL n φ = rzL n ψ := List.map_congr_left fun k hk => by rw [h k (List.mem_range.mp hk)]
theorem rz_inj {a b : Int} (h1 : -1 ≤ a) (h2 : -1 ≤ b) (h : rz a = rz b) : a = b := by
  unfold rz at h
  split at h <;> split at h
  · omega
  · cases h
  · cases h
  · exact V.int.inj h
theorem rzL_inj {n : Nat} {φ ψ : Nat → Int} (h1 : ∀ k, -1 ≤ φ k) (h2 : ∀ k, -1 ≤ ψ k) (h : rzL n φ = rzL n ψ) (k : Nat) (hk : k < n) : φ k = ψ k := by
  have := rzL_at (φ := φ) hk
  rw [h, rzL_at hk] at this
  exact (rz_inj (h2 k) (h1 k) (Option.some.inj this)).symm
theorem rzL_set {n i : Nat} {φ : Nat → Int} {c : Int} (hi : i < n) (hc : 0 ≤ c) : (rzL n φ).set i (.int c) = rzL n fun k => if k = i then c else φ k := by
  refine List.ext_getElem? fun k => ?_
  rw [List.getElem?_set]
  by_cases hk : i = k
  · subst hk
    rw [if_pos rfl, if_pos (by rw [rzL_len]; exact hi), rzL_at hi, if_pos rfl]
    unfold rz
    rw [if_neg (by omega)]
  · rw [if_neg hk]
    rcases Nat.lt_or_ge k n with h | h
    · rw [rzL_at h, rzL_at h, if_neg (fun e => hk e.symm)]
    · rw [List.getElem?_eq_none (by rw [rzL_len]; exact h), List.getElem?_eq_none (by rw [rzL_len]; exact h)]
theorem rzL_snoc (n : Nat) (φ : Nat → Int) : rzL (n + 1) φ = rzL n φ ++ [rz (φ n)] := by
  unfold rzL
  rw [List.range_succ, List.map_append]
  rfl
def rd : V → PyData
  | .int i => .int i
  | _ => .none
def zs (n : Nat) (φ : Nat → Int) : List Int := (List.range n).map φ
theorem rzL_zs (n : Nat) (φ : Nat → Int) : rzL n φ = (zs n φ).map rz := by
  unfold rzL zs
  rw [List.map_map]
  rfl
theorem dp_rz {K : PySem.W.Frag} {H : Hp} : ∀ l : List Int, DpAll K H (l.map rz) (l.map fun z => rd (rz z))
  | [] => .nil
  | a :: r => by
    refine .cons ?_ (dp_rz r)
    show Dp K H (rz a) (rd (rz a))
    unfold rz
    by_cases h : a < 0
    · rw [if_pos h]
      exact .non
    · rw [if_neg h]
      exact .int a
theorem lay_rz : ∀ l : List Int, PyData.canLayAll0 (l.map fun z => rd (rz z)) = true ∧ PyData.depthAll (l.map fun z => rd (rz z)) = 0
  | [] => ⟨rfl, rfl⟩
  | a :: r => by
    obtain ⟨h1, h2⟩ := lay_rz r
    have : rd (rz a) = .none ∨ ∃ i, rd (rz a) = .int i := by
      unfold rz
      split
      · exact .inl rfl
      · exact .inr ⟨a, rfl⟩
    show PyData.canLayAll0 (rd (rz a) :: _) = true ∧ PyData.depthAll (rd (rz a) :: _) = 0
    rcases this with h | ⟨i, h⟩
    · rw [h]
      exact ⟨h1, by show max 0 (PyData.depthAll _) = 0; rw [h2]; rfl⟩
    · rw [h]
      exact ⟨h1, by show max 0 (PyData.depthAll _) = 0; rw [h2]; rfl⟩
theorem eqv_rz : ∀ l m : List Int, PyData.eqvAll (l.map fun z => rd (rz z)) (m.map fun z => rd (rz z)) = true → l.map rz = m.map rz
  | [], [], _ => rfl
  | [], b :: m, h => by cases h
  | a :: l, [], h => by cases h
  | a :: l, b :: m, h => by
    have h' : (PyData.eqv (rd (rz a)) (rd (rz b)) && PyData.eqvAll (l.map fun z => rd (rz z)) (m.map fun z => rd (rz z))) = true := h
    rw [Bool.and_eq_true] at h'
    rw [List.map_cons, List.map_cons, eqv_rz l m h'.2]
    congr 1
    have h1 := h'.1
    unfold rz at h1 ⊢
    split at h1 <;> split at h1
    · rename_i x y
      rw [if_pos x, if_pos y]
    · cases h1
    · cases h1
    · rename_i x y
      rw [if_neg x, if_neg y]
      rw [eq_of_beq (show (a == b) = true from h1)]
theorem eqv_reflR : ∀ l : List Int, PyData.eqvAll (l.map fun z => rd (rz z)) (l.map fun z => rd (rz z)) = true
  | [] => rfl
  | a :: l => by
    show (PyData.eqv (rd (rz a)) (rd (rz a)) && PyData.eqvAll (l.map fun z => rd (rz z)) (l.map fun z => rd (rz z))) = true
    rw [eqv_reflR l, Bool.and_true]
    unfold rz
    by_cases h : a < 0
    · rw [if_pos h]
      rfl
    · rw [if_neg h]
      exact beq_self_eq_true a
theorem shaped_rz (l : List Int) : SeqAt.shaped (.list (l.map fun z => rd (rz z))) = true := by
  obtain ⟨h1, h2⟩ := lay_rz l
  show (PyData.canLayAll0 (l.map fun z => rd (rz z)) && decide (PyData.depthAll (l.map fun z => rd (rz z)) + 1 ≤ 64)) = true
  rw [h1, h2]
  rfl
theorem rz_non {z : Int} : decide (rz z = V.non) = decide (z < 0) := by
  unfold rz
  by_cases h : z < 0
  · rw [if_pos h, decide_eq_true h, decide_eq_true rfl]
  · rw [if_neg h, decide_eq_false h]
    exact decide_eq_false (fun e => nomatch e)
abbrev snF (A : Ar) (Kp : List Int) : Nat → Mk' := mr A 1 (psA A.length) (mkO true (fun p => !decide (p ∈ Kp)))
theorem snF_up {A : Ar} {Kp : List Int} (k : Nat) (p : Int) (h : snF A Kp k p = true) : snF A Kp (k + 1) p = true := mr_up h
theorem snF_out {A : Ar} {Kp : List Int} (k : Nat) : snF A Kp k (-1) = true := by
  have : mr A 1 (psA A.length) (mkO true (fun p => !decide (p ∈ Kp))) k (-1) = mkO true (fun p => !decide (p ∈ Kp)) (-1) := mr_out (fun h => by
    have := psA_mem.mp h
    omega) k
  exact this
theorem snF_s {A : Ar} {Kp : List Int} {k i : Nat} {os : Pos'} (hi : A[i]? = some os) : snF A Kp (k + 1) (i : Int) = (snF A Kp k (i : Int) || os.all (fun o => o.any (snF A Kp k))) := by
  have hl := (List.getElem?_eq_some_iff.mp hi).1
  have h1 : decide ((i : Int) ∈ psA A.length) = true := decide_eq_true (psA_mem.mpr (by omega))
  have h2 : psO A (i : Int) = os := psO_at (by omega) (by rw [Int.toNat_natCast]; exact hi)
  show (snF A Kp k (i : Int) || (decide ((i : Int) ∈ psA A.length) && frcM 1 (psO A (i : Int)) (snF A Kp k))) = _
  rw [h1, h2, Bool.true_and]
  rfl
def szF (A : Ar) (Kp : List Int) (r k : Nat) : Int := hz (snF A Kp) r (k : Int)
section
variable {P : Program} {w : World} {K : PySem.W.Frag} {mg : Str → Option Value} {base : Heap}
/-! ### _law_stay_ranks -/
def spLStay : Sp := fun vs H Q _ => ∃ (v : V) (A : Ar) (hp : Addr) (Kp : List Int), vs = [v, .ref hp] ∧ ArIn H A v ∧ ArG A ∧ H hp = some (.tup (Kp.map V.int)) ∧
  ∀ (p : Addr) (rs : List V) H', Same H H' → H p = none → H' p = some (.lst rs) → RksAt A 1 (mkO true (fun p => !decide (p ∈ Kp))) rs → Q (.ref p) H'
theorem ok_law_stay_ranks (T : Txt K mg) : FnOk P w K mg base CX0 1 T.a_law_stay_ranks T.d_law_stay_ranks P_law_stay_ranks spLStay := by
  refine T.F_law_stay_ranks.ok sc_law_stay_ranks (fun vs H Q E h => ?_) (fun cdv A outer s H vs Q E hr h => ?_)
  · obtain ⟨v, A, hp, Kp, rfl, _⟩ := h
    rfl
  obtain ⟨v, A0, hp, Kp, rfl, ⟨b0, xs, rfl, e0, hxs⟩, hG, eh, q⟩ := h
  have hxl := hxs.1
  have h46 := hG.1
  have says := hz_says (f := snF A0 Kp) (fun k p e => snF_up k p e)
  refine ⟨_, (pss_cons (ps_setLc (i := 2) (own := [("options", 3)]) (g := (gName 3)) (tt := tYes) rfl sc_law_stay_ranks.nd rfl rfl (sw_true rfl rfl rfl (by decide +kernel)) (pi_tup (pv 0)) (blkOk_by (N := N_law_stay_ranks) (sc := defScope s_law_stay_ranks) (by decide +kernel)) (fun _ _ _ _ _ => (pg_name (i := 3) sc_law_stay_ranks.nd rfl (Or.inl rfl))) (fun _ _ _ _ _ => pts_nil) (fun _ _ _ _ _ => pe_non))
    (pss_cons (ps_for  PassesOwn.never rfl (pi_range1 (by rfl) T.z_range (pa_cons (pe_callB call_len_seq (by rfl) T.z_len PySem.boot_len (pa_cons (pv 0) pa_nil)) pa_nil)) (pg_name (i := 4) sc_law_stay_ranks.nd rfl (Or.inl rfl))
    (pss_one (ps_if (pt_cmpR op_notIn_seq (pv 4) (pv 1) (by rfl))
    (pss_one (ps_asg pe_int (pg_sub (pv 2) (pv 4) set_list)))
    pss_nil)))
    (pss_cons (ps_for  PassesOwn.never rfl (pi_range2 (by rfl) T.z_range (pa_cons pe_int (pa_cons (pe_op op_add (pe_callB call_len_seq (by rfl) T.z_len PySem.boot_len (pa_cons (pv 0) pa_nil)) pe_int) pa_nil))) (pg_name (i := 5) sc_law_stay_ranks.nd rfl (Or.inl rfl))
    (pss_cons (ps_set (i := 6) sc_law_stay_ranks.nd rfl (Or.inr rfl) (pe_callTy call_list_of (by rfl) T.z_list (by decide +kernel) (pa_cons (pv 2) pa_nil)))
    (pss_cons (ps_for  PassesOwn.never rfl (pi_range1 (by rfl) T.z_range (pa_cons (pe_callB call_len_seq (by rfl) T.z_len PySem.boot_len (pa_cons (pv 0) pa_nil)) pa_nil)) (pg_name (i := 4) sc_law_stay_ranks.nd rfl (Or.inl rfl))
    (pss_one (ps_if (pt_cmpR op_isN (pe_ix ix_list (pv 6) (pv 4) (fun _ _ => rfl)) pe_non (nomark _))
    (pss_cons (ps_set (i := 7) sc_law_stay_ranks.nd rfl (Or.inl rfl) pe_bl)
    (pss_cons (ps_for  PassesOwn.never rfl (pi_tup (pe_ix ix_tup (pv 0) (pv 4) (fun _ _ => rfl))) (pg_name (i := 8) sc_law_stay_ranks.nd rfl (Or.inl rfl))
    (pss_one (ps_if (pt_cmpR op_eq (pe_callB call_len_seq (by rfl) T.z_len PySem.boot_len (pa_cons (pe_lc (own := [("one", 9)]) (g := (gName 9)) (tt := _) rfl sc_law_stay_ranks.nd (pi_tup (pv 8)) (blkOk_by (N := N_law_stay_ranks) (sc := defScope s_law_stay_ranks) (by decide +kernel)) (fun _ _ _ _ _ => (pg_name (i := 9) sc_law_stay_ranks.nd rfl (Or.inl rfl))) (fun _ _ _ _ _ => (pts_one (PW.pt (pw_or (pt_cmpR op_eq (pv 9) (pe_un un_neg pe_int) (nomark _)) (pw_or1 (pt_cmpR op_notN (pe_ix (ix_listK (K := K) rfl) (pv 6) (pv 9) (fun _ _ => rfl)) pe_non (nomark _))))))) (fun _ _ _ _ _ => (pv 9))) pa_nil)) pe_int (nomark _))
    (pss_one (ps_set (i := 7) sc_law_stay_ranks.nd rfl (Or.inl rfl) pe_bl))
    pss_nil)))
    (pss_one (ps_if (pt_val (pv 7))
    (pss_one (ps_asg (pv 5) (pg_sub (pv 2) (pv 4) set_list)))
    pss_nil))))
    pss_nil)))
    (pss_one (ps_if (pt_cmpR (op_eqD hr.units) (pv 2) (pv 6) (nomark _))
    (pss_one ps_break)
    pss_nil)))))
    (pss_one (ps_ret (pv 2)))))), ?_⟩
  refine ⟨_, rfl, b0, rfl, ⟨_, sqt e0⟩, fun fl hfl => ?_⟩
  refine lc_tup (K := K) (a := b0) (xs := xs) (fun (j : Nat) (H' : Hp) => Same H H' ∧ H' fl = some (.lst (rzL j fun _ => -1))) ?_ ?_ ?_ ?_
  · exact ⟨same_new hfl _, upd_same⟩
  · rintro j H' _ ⟨s1, _⟩
    exact sqt (s1 _ _ e0)
  · rintro j x H1 hx ⟨s1, k1⟩
    have hjl := (List.getElem?_eq_some_iff.mp hx).1
    refine ⟨rfl, yes_if ?_⟩
    refine ⟨_, k1, big' (by rw [rzL_len]; omega), same_put s1 hfl, ?_⟩
    rw [upd_same, rzL_snoc]
    rfl
  rintro H1 ⟨s1, k1⟩
  rw [hxl] at k1
  have hflH : H fl = none := hfl
  have done : ∀ (m : Nat) (H' : Hp), Same H H' → H' fl = some (.lst (rzL A0.length (szF A0 Kp m))) → (∀ L, m ≤ L → ∀ k : Nat, k < A0.length → snF A0 Kp L (k : Int) = snF A0 Kp m (k : Int)) → Q (.ref fl) H' := fun m H' s' e' hst => by
    refine q fl _ H' s' hflH e' ⟨rzL_len _ _, fun k hk => ?_⟩
    obtain ⟨h1, h2⟩ := says m (k : Int)
    have hge := hz_ge (snF A0 Kp) m (k : Int)
    by_cases hz0 : 0 ≤ hz (snF A0 Kp) m (k : Int)
    · obtain ⟨_, g2, g3⟩ := h2 hz0
      refine ⟨some (hz (snF A0 Kp) m (k : Int)).toNat, ⟨g2, g3⟩, ?_⟩
      rw [rzL_at hk]
      congr 1
      show rz (hz (snF A0 Kp) m (k : Int)) = V.int (((hz (snF A0 Kp) m (k : Int)).toNat : Nat) : Int)
      unfold rz
      rw [if_neg (by omega)]
      congr 1
      omega
    · have hf0 := h1 (by omega)
      refine ⟨none, fun j => ?_, ?_⟩
      · show snF A0 Kp j (k : Int) = false
        rcases Nat.le_total m j with z | z
        · rw [hst j z k hk]
          exact hf0
        · cases hj : snF A0 Kp j (k : Int) with
          | false => rfl
          | true =>
            rw [up_le (fun k p e => snF_up k p e) z hj] at hf0
            cases hf0
      · rw [rzL_at hk]
        congr 1
        show rz (hz (snF A0 Kp) m (k : Int)) = V.non
        unfold rz
        rw [if_pos (by omega)]
  -- the positions outside of keep
  refine ⟨_, rfl, b0, _, rfl, .inr (sqt (s1 _ _ e0)), _, rfl, by omega, by omega, ?_⟩
  refine for_range (lo := 0) (n := ((xs.length : Nat) : Int).toNat) (fun (j : Nat) (σ : L2.St) (H' : Hp) => ∃ y4 : Option V, σ = [some (.ref b0), some (.ref hp), some (.ref fl), none, y4, none, none, none, none, none] ∧ Same H H' ∧ H' fl = some (.lst (rzL A0.length fun k => if k < j then szF A0 Kp 0 k else -1))) ?_ ?_ ?_
  · refine ⟨_, rfl, s1, ?_⟩
    exact k1.trans (congrArg (fun l => some (HO.lst l)) (rzL_ext fun k _ => (if_neg (Nat.not_lt_zero k)).symm))
  · rintro j σ H2 hj ⟨y4, rfl, s2, k2⟩
    have hjA : j < A0.length := by omega
    generalize hat : (0 : Int) + (j : Int) = at_
    have haj : at_ = (j : Int) := by omega
    have hz0 : szF A0 Kp 0 j = if (!decide ((j : Int) ∈ Kp)) = true then 0 else -1 := by
      have h1 : snF A0 Kp 0 ((j : Nat) : Int) = !decide (((j : Nat) : Int) ∈ Kp) := by
        show mkO true (fun p => !decide (p ∈ Kp)) ((j : Nat) : Int) = _
        unfold mkO
        exact if_neg (by omega)
      unfold szF hz
      rw [h1]
    refine ⟨_, rfl, _, rfl, hp, _, rfl, .inr (sqt (s2 _ _ eh)), rfl, flat_ints' Kp, _, rfl, ?_⟩
    rw [haj]
    cases hin : (!decide ((j : Int) ∈ Kp)) with
    | true =>
      rw [hin, if_pos rfl] at hz0
      refine ifT (by rw [notIn_int]; exact hin) ?_
      refine ⟨_, rfl, _, rfl, fl, _, _, _, rfl, rfl, k2, ixN_in (by omega) (by rw [rzL_len]; omega), ?_⟩
      refine ⟨_, rfl, same_put s2 hflH, ?_⟩
      rw [upd_same, Int.toNat_natCast, rzL_set hjA (Int.le_refl 0)]
      congr 2
      refine rzL_ext fun k _ => ?_
      by_cases hk : k = j
      · rw [if_pos hk, if_pos (by omega), hk, hz0]
      · rw [if_neg hk]
        by_cases h : k < j
        · rw [if_pos h, if_pos (by omega)]
        · rw [if_neg h, if_neg (by omega)]
    | false =>
      rw [hin, if_neg Bool.false_ne_true] at hz0
      refine ifF (by rw [notIn_int]; exact hin) ?_
      refine ⟨_, rfl, s2, ?_⟩
      rw [k2]
      congr 2
      refine rzL_ext fun k _ => ?_
      by_cases h : k < j
      · rw [if_pos h, if_pos (by omega)]
      · rw [if_neg h]
        by_cases hk : k = j
        · rw [hk, if_pos (Nat.lt_succ_self j), hz0]
        · rw [if_neg (by omega)]
  rintro σ H2 ⟨y4, rfl, s2, k2⟩
  have hall0 : (rzL A0.length fun k => if k < ((xs.length : Nat) : Int).toNat then szF A0 Kp 0 k else -1) = rzL A0.length (szF A0 Kp 0) := rzL_ext fun k hk => if_pos (by omega)
  rw [hall0] at k2
  refine ⟨_, rfl, b0, _, rfl, .inr (sqt (s2 _ _ e0)), _, _, rfl, rfl, _, _, rfl, ⟨by omega, by omega, by omega, by omega⟩, ?_⟩
  refine for_range (lo := 1) (n := ((xs.length : Int) + 1 - 1).toNat) (fun (j : Nat) (σ : L2.St) (H' : Hp) => ∃ y4 y5 y6 y7 y8 : Option V, σ = [some (.ref b0), some (.ref hp), some (.ref fl), none, y4, y5, y6, y7, y8, none] ∧ Same H H' ∧ H' fl = some (.lst (rzL A0.length (szF A0 Kp j))) ∧ ∀ k, k < j → ∃ i : Nat, i < A0.length ∧ snF A0 Kp k (i : Int) = false ∧ snF A0 Kp (k + 1) (i : Int) = true) ?_ ?_ ?_
  · exact ⟨_, _, _, _, _, rfl, s2, k2, fun k hk => absurd hk (Nat.not_lt_zero k)⟩
  · rintro j σ H3 hj ⟨y4, y5, y6, y7, y8, rfl, s3, kf3, hgr⟩
    have hjn : j < A0.length := by omega
    generalize hrk : (1 : Int) + (j : Int) = rank
    refine ⟨_, rfl, fl, _, rfl, .inl (sqd kf3), fun bl hbl => ?_⟩
    obtain ⟨H4, e4, s4, k4⟩ := newH hbl (.lst (rzL A0.length (szF A0 Kp j)))
    rw [e4]
    have hne : fl ≠ bl := fun z => by
      rw [← z, kf3] at hbl
      cases hbl
    refine ⟨_, rfl, b0, _, rfl, .inr (sqt ((s3.trans s4) _ _ e0)), _, rfl, by omega, by omega, ?_⟩
    refine for_range (lo := 0) (n := ((xs.length : Nat) : Int).toNat) (fun (i : Nat) (σ : L2.St) (H' : Hp) => ∃ y4 y7 y8 : Option V, σ = [some (.ref b0), some (.ref hp), some (.ref fl), none, y4, some (.int rank), some (.ref bl), y7, y8, none] ∧ Same H H' ∧ H' bl = some (.lst (rzL A0.length (szF A0 Kp j))) ∧ H' fl = some (.lst (rzL A0.length fun k => if k < i then szF A0 Kp (j + 1) k else szF A0 Kp j k))) ?_ ?_ ?_
    · exact ⟨y4, y7, y8, rfl, s3.trans s4, k4, s4 _ _ kf3⟩
    · rintro i σ H5 hi ⟨y4, y7, y8, rfl, s5, kb5, kf5⟩
      have hiA : i < A0.length := by omega
      generalize hat : (0 : Int) + (i : Int) = at_
      have hai : at_ = (i : Int) := by omega
      have hti : at_.toNat = i := by omega
      have hge := hz_ge (snF A0 Kp) j (i : Int)
      have hstep : szF A0 Kp (j + 1) i = if 0 ≤ szF A0 Kp j i then szF A0 Kp j i else if snF A0 Kp (j + 1) (i : Int) = true then ((j + 1 : Nat) : Int) else -1 := rfl
      have keep : ∀ (y7' y8' : Option V) (H6 : Hp), Same H H6 → H6 bl = some (.lst (rzL A0.length (szF A0 Kp j))) → H6 fl = some (.lst (rzL A0.length fun k => if k < i then szF A0 Kp (j + 1) k else szF A0 Kp j k)) → szF A0 Kp (j + 1) i = szF A0 Kp j i →
          ∃ y4 y7 y8 : Option V, [some (V.ref b0), some (.ref hp), some (.ref fl), none, some (.int at_), some (.int rank), some (.ref bl), y7', y8', none] = [some (.ref b0), some (.ref hp), some (.ref fl), none, y4, some (.int rank), some (.ref bl), y7, y8, none] ∧ Same H H6 ∧ H6 bl = some (.lst (rzL A0.length (szF A0 Kp j))) ∧ H6 fl = some (.lst (rzL A0.length fun k => if k < i + 1 then szF A0 Kp (j + 1) k else szF A0 Kp j k)) := fun y7' y8' H6 s6 kb6 kf6 he => by
        refine ⟨_, _, _, rfl, s6, kb6, ?_⟩
        rw [kf6]
        congr 2
        refine rzL_ext fun k _ => ?_
        by_cases h : k < i
        · rw [if_pos h, if_pos (by omega)]
        · rw [if_neg h]
          by_cases hk : k = i
          · rw [hk, if_pos (Nat.lt_succ_self i), he]
          · rw [if_neg (by omega)]
      refine ⟨_, rfl, _, rfl, bl, _, _, _, rfl, rfl, sqd kb5, rzL_get (by omega) (by omega), rfl, _, rfl, ?_⟩
      rw [hti, rz_non]
      by_cases hlt : szF A0 Kp j i < 0
      · refine ifT (decide_eq_true hlt) ?_
        have hf0 := (says j (i : Int)).1 hlt
        have hm1 : szF A0 Kp j i = -1 := by unfold szF at hlt ⊢; omega
        have hos := List.getElem?_eq_getElem hiA
        generalize A0[i] = os at hos
        obtain ⟨x, hx, b1, ys, rfl, e1', hys⟩ := hxs.at hos
        have hyl := hys.1
        have hosG := (hG.2 os (List.mem_of_getElem? hos))
        have hfj : snF A0 Kp (j + 1) (i : Int) = os.all (fun o => o.any (snF A0 Kp j)) := by
          rw [snF_s hos, hf0, Bool.false_or]
        have hatx : atI xs at_ = some (V.ref b1) := by
          rw [hai]
          exact atI_nat hx
        refine ⟨_, rfl, _, rfl, b0, _, _, _, rfl, rfl, sqt (s5 _ _ e0), hatx, b1, rfl, ⟨_, sqt (s5 _ _ e1')⟩, ?_⟩
        refine for_tup (K := K) (a := b1) (xs := ys) (fun (m : Nat) (σ : L2.St) (H' : Hp) => ∃ y8 : Option V, σ = [some (.ref b0), some (.ref hp), some (.ref fl), none, some (.int at_), some (.int rank), some (.ref bl), some (.bl ((os.take m).all (fun o => o.any (snF A0 Kp j)))), y8, none] ∧ Same H5 H') ?_ ?_ ?_ ?_
        · exact ⟨y8, rfl, Same.refl _⟩
        · rintro m σ H' _ ⟨y8, rfl, s6⟩
          exact sqt (s6 _ _ (s5 _ _ e1'))
        · rintro m x σ H6 hx6 ⟨y8, rfl, s6⟩
          have hml := (List.getElem?_eq_some_iff.mp hx6).1
          have ho := List.getElem?_eq_getElem (show m < os.length by omega)
          generalize os[m] = o at ho
          obtain ⟨bo, rfl, eo⟩ := hys.2 m o x ho hx6
          have hoG := hosG.2 o (List.mem_of_getElem? ho)
          have hnext : (os.take (m + 1)).all (fun o => o.any (snF A0 Kp j)) = ((os.take m).all (fun o => o.any (snF A0 Kp j)) && o.any (snF A0 Kp j)) := by
            rw [List.take_add_one, ho, List.all_append]
            show (_ && (o.any (snF A0 Kp j) && true)) = _
            rw [Bool.and_true]
          refine ⟨_, rfl, bo, rfl, ⟨_, sqt ((s5.trans s6) _ _ eo)⟩, fun L hL => ?_⟩
          refine lc_tup (K := K) (a := bo) (xs := o.map V.int) (fun (c : Nat) (H' : Hp) => Same H6 H' ∧ H' L = some (.lst (((o.take c).filter (snF A0 Kp j)).map V.int))) ?_ ?_ ?_ ?_
          · exact ⟨same_new hL _, upd_same⟩
          · rintro c H' _ ⟨s7, _⟩
            exact sqt ((s5.trans (s6.trans s7)) _ _ eo)
          · rintro c x H7 hx7 ⟨s7, k7⟩
            rw [List.getElem?_map] at hx7
            obtain ⟨p, hp7, rfl⟩ := Option.map_eq_some_iff.mp hx7
            have hpm := hoG.mem p (List.mem_of_getElem? hp7)
            have hfl := List.length_filter_le (snF A0 Kp j) (o.take c)
            rw [List.length_take] at hfl
            have hlen := hoG.len
            have hnx : (o.take (c + 1)).filter (snF A0 Kp j) = (o.take c).filter (snF A0 Kp j) ++ (if snF A0 Kp j p = true then [p] else []) := by
              rw [List.take_add_one, hp7, List.filter_append]
              congr 1
              rw [Option.toList_some, List.filter_cons]
              cases (snF A0 Kp j p) <;> rfl
            have yes : snF A0 Kp j p = true → ∃ acc, H7 L = some (.lst acc) ∧ acc.length < sizeLine ∧ (Same H6 (upd H7 L (.lst (acc ++ [V.int p]))) ∧ upd H7 L (.lst (acc ++ [V.int p])) L = some (.lst (((o.take (c + 1)).filter (snF A0 Kp j)).map V.int))) := fun hy => by
              refine ⟨_, k7, big' (by rw [List.length_map]; omega), same_put s7 hL, ?_⟩
              rw [upd_same, hnx, hy, if_pos rfl, List.map_append]
              rfl
            refine ⟨rfl, ?_⟩
            refine ⟨_, rfl, _, rfl, rfl, _, rfl, ?_⟩
            by_cases hp1 : p = -1
            · subst hp1
              refine ifT (decide_eq_true rfl) ?_
              exact iteT ⟨_, rfl, yes (snF_out j)⟩
            · refine ifF (decide_eq_false (fun e => hp1 (V.int.inj e))) ?_
              refine ⟨_, rfl, _, rfl, bl, _, _, _, rfl, rfl, sqd ((s6.trans s7) _ _ kb5), rzL_get (by omega) (by omega), rfl, _, rfl, ?_⟩
              rw [rz_non]
              obtain ⟨a1, a2⟩ := says j p
              have hpp : szF A0 Kp j p.toNat = hz (snF A0 Kp) j p := by
                unfold szF
                rw [show ((p.toNat : Nat) : Int) = p by omega]
              rw [hpp]
              by_cases hz0 : hz (snF A0 Kp) j p < 0
              · rw [decide_eq_true hz0]
                refine iteF ⟨s7, ?_⟩
                rw [hnx, a1 hz0, if_neg Bool.false_ne_true, List.append_nil]
                exact k7
              · rw [decide_eq_false hz0]
                exact iteT ⟨_, rfl, yes (a2 (by omega)).1⟩
          · rintro H7 ⟨s7, k7⟩
            rw [List.length_map, List.take_length] at k7
            refine ⟨L, _, rfl, .inl (sqd k7), rfl, _, rfl, ?_⟩
            refine ite2 (fun z => ?_) (fun z => ?_)
            · have hz := int_eq z
              have hno : o.any (snF A0 Kp j) = false := by
                rw [List.length_map] at hz
                have hnil : o.filter (snF A0 Kp j) = [] := List.length_eq_zero_iff.mp (by omega)
                rw [List.filter_eq_nil_iff] at hnil
                exact List.any_eq_false.mpr hnil
              refine ⟨some (.ref bo), ?_, s6.trans s7⟩
              rw [hnext, hno, Bool.and_false]
              rfl
            · have hz := int_ne z
              have hyes : o.any (snF A0 Kp j) = true := by
                cases ha : o.any (snF A0 Kp j) with
                | true => rfl
                | false =>
                  have hnil : o.filter (snF A0 Kp j) = [] := List.filter_eq_nil_iff.mpr (List.any_eq_false.mp ha)
                  rw [hnil] at hz
                  exact absurd rfl hz
              refine ⟨some (.ref bo), ?_, s6.trans s7⟩
              rw [hnext, hyes, Bool.and_true]
              rfl
        · rintro σ H6 ⟨y8, rfl, s6⟩
          rw [show os.take ys.length = os by rw [hyl]; exact List.take_length]
          refine ⟨_, rfl, _, rfl, ?_⟩
          have kb6 := s6 _ _ kb5
          have kf6 := s6 _ _ kf5
          rw [← hfj]
          cases hf : snF A0 Kp (j + 1) (i : Int) with
          | true =>
            refine ifT rfl ?_
            refine ⟨_, rfl, _, rfl, _, rfl, fl, _, _, _, rfl, rfl, kf6, ixN_in (by omega) (by rw [rzL_len]; omega), ?_⟩
            refine ⟨_, _, _, rfl, same_put (s5.trans s6) hflH, by rw [upd_ne (Ne.symm hne)]; exact kb6, ?_⟩
            rw [upd_same, hti, rzL_set hiA (by omega)]
            congr 2
            refine rzL_ext fun k _ => ?_
            by_cases hk : k = i
            · rw [if_pos hk, if_pos (by omega), hk, hstep, if_neg (by omega), hf, if_pos rfl]
              omega
            · rw [if_neg hk]
              by_cases h : k < i
              · rw [if_pos h, if_pos (by omega)]
              · rw [if_neg h, if_neg (by omega)]
          | false =>
            refine ifF rfl ?_
            refine keep _ _ H6 (s5.trans s6) kb6 kf6 ?_
            rw [hstep, if_neg (by omega), hf, if_neg Bool.false_ne_true, hm1]
      · refine ifF (decide_eq_false hlt) ?_
        refine keep _ _ H5 s5 kb5 kf5 ?_
        rw [hstep, if_pos (by omega)]
    · rintro σ H5 ⟨y4, y7, y8, rfl, s5, kb5, kf5⟩
      have hall : (rzL A0.length fun k => if k < ((xs.length : Nat) : Int).toNat then szF A0 Kp (j + 1) k else szF A0 Kp j k) = rzL A0.length (szF A0 Kp (j + 1)) := rzL_ext fun k hk => if_pos (by omega)
      rw [hall] at kf5
      have hinj : rzL A0.length (szF A0 Kp (j + 1)) = rzL A0.length (szF A0 Kp j) → ∀ k, k < A0.length → szF A0 Kp (j + 1) k = szF A0 Kp j k := rzL_inj (fun k => hz_ge _ _ _) (fun k => hz_ge _ _ _)
      refine ⟨_, rfl, _, rfl, .list ((zs A0.length (szF A0 Kp (j + 1))).map fun z => rd (rz z)), .list ((zs A0.length (szF A0 Kp j)).map fun z => rd (rz z)), .lst (sqd kf5) (by rw [rzL_zs]; exact dp_rz _), .lst (sqd kb5) (by rw [rzL_zs]; exact dp_rz _), shaped_rz _, shaped_rz _, _, rfl, ?_⟩
      refine ite2 (fun z => ?_) (fun z => ?_)
      · have heq := hinj (by rw [rzL_zs, rzL_zs]; exact eqv_rz _ _ z)
        refine ⟨_, rfl, done (j + 1) H5 s5 kf5 fun L hL k hk => ?_⟩
        have hst : ∀ p, -1 ≤ p → p < (A0.length : Int) → snF A0 Kp (j + 1) p = snF A0 Kp j p := fun p h0 h1 => by
          by_cases hp : p = -1
          · rw [hp, snF_out, snF_out]
          · have hzz := heq p.toNat (by omega)
            unfold szF at hzz
            rw [show ((p.toNat : Nat) : Int) = p by omega] at hzz
            obtain ⟨a1, a2⟩ := says j p
            obtain ⟨b1, b2⟩ := says (j + 1) p
            by_cases h : 0 ≤ hz (snF A0 Kp) j p
            · rw [(a2 h).1, (b2 (by omega)).1]
            · rw [a1 (by omega), b1 (by omega)]
        have hstop := mr_stop (side := 1) (am := psA A0.length) (M := mkO true (fun p => !decide (p ∈ Kp))) hG.inA hst
        rw [show snF A0 Kp L (k : Int) = _ from hstop L (by omega) k (by omega) (by omega), show snF A0 Kp (j + 1) (k : Int) = _ from hstop (j + 1) (by omega) k (by omega) (by omega)]
      · refine ⟨_, _, _, _, _, rfl, s5, kf5, fun k hk => ?_⟩
        by_cases hkj : k < j
        · exact hgr k hkj
        · have : k = j := by omega
          subst this
          by_cases hex : ∃ i : Nat, i < A0.length ∧ szF A0 Kp (k + 1) i ≠ szF A0 Kp k i
          · obtain ⟨i, hi, hne2⟩ := hex
            refine ⟨i, hi, ?_⟩
            have hstep : szF A0 Kp (k + 1) i = if 0 ≤ szF A0 Kp k i then szF A0 Kp k i else if snF A0 Kp (k + 1) (i : Int) = true then ((k + 1 : Nat) : Int) else -1 := rfl
            have hge := hz_ge (snF A0 Kp) k (i : Int)
            by_cases h0 : 0 ≤ szF A0 Kp k i
            · rw [if_pos h0] at hstep
              exact absurd hstep hne2
            · rw [if_neg h0] at hstep
              have hm1 : szF A0 Kp k i = -1 := by unfold szF at h0 ⊢; omega
              refine ⟨(says k (i : Int)).1 (by unfold szF at h0; omega), ?_⟩
              cases hf : snF A0 Kp (k + 1) (i : Int) with
              | true => rfl
              | false =>
                rw [hf, if_neg Bool.false_ne_true] at hstep
                exact absurd (hstep.trans hm1.symm) hne2
          · exfalso
            have heq : zs A0.length (szF A0 Kp (k + 1)) = zs A0.length (szF A0 Kp k) := List.map_congr_left fun i hi => by
              by_cases h : szF A0 Kp (k + 1) i = szF A0 Kp k i
              · exact h
              · exact absurd ⟨i, List.mem_range.mp hi, h⟩ hex
            apply z
            rw [heq]
            exact eqv_reflR _
  · rintro σ H3 ⟨y4, y5, y6, y7, y8, rfl, s3, kf3, hgr⟩
    rw [show ((xs.length : Int) + 1 - 1).toNat = A0.length by omega] at kf3 hgr
    refine ⟨_, rfl, done A0.length H3 s3 kf3 fun L hL k hk => ?_⟩
    have hc := cnt_rounds (f := snF A0 Kp) (fun k p e => snF_up k p e) A0.length hgr
    have hfull := cnt_full (f := snF A0 Kp A0.length) (Nat.le_antisymm (cnt_le _ _) hc) k hk
    rw [hfull]
    exact up_le (fun k p e => snF_up k p e) hL hfull
end
end NL

set_option maxHeartbeats 4000000
namespace NL
open PySem PySem.Spec PyProof.Rows L2
def czF (A : Ar) (Kp : List Int) (r k : Nat) : Int := hz (gF false A Kp) r (k : Int)
theorem gF_sc {A : Ar} {Kp : List Int} {k i : Nat} {os : Pos'} (hi : A[i]? = some os) : gF false A Kp (k + 1) (i : Int) = (gF false A Kp k (i : Int) || os.any (fun o => o.all (gF false A Kp k))) := gF_s hi
section
variable {P : Program} {w : World} {K : PySem.W.Frag} {mg : Str → Option Value} {base : Heap}
/-! ### _law_come_ranks -/
/-- the ranks rs by R -/
def RkL (A : Ar) (R : Int → Option Nat) (rs : List V) : Prop := rs.length = A.length ∧ ∀ k : Nat, k < A.length → rs[k]? = some (rkV (R (k : Int)))
def spLCome : Sp := fun vs H Q _ => ∃ (v : V) (A : Ar) (hp : Addr) (Kp : List Int), vs = [v, .ref hp] ∧ ArIn H A v ∧ ArG A ∧ H hp = some (.tup (Kp.map V.int)) ∧ (∀ x ∈ Kp, 0 ≤ x ∧ x < A.length) ∧
  ∀ (p : Addr) (rs : List V) H', Same H H' → H p = none → H' p = some (.lst rs) → RkL A (gR false A Kp) rs → Q (.ref p) H'
end
end NL

set_option maxHeartbeats 4000000
namespace NL
open PySem PySem.Spec PyProof.Rows L2
theorem sfT_0 (os : Pos') (M : Mk') : sfT os M 0 = [] := rfl
/-- the first of the options that are counted -/
theorem sfT_first {os : Pos'} {M : Mk'} : ∀ n : Nat, n ≤ os.length → (sfT os M n = [] ∧ ∀ j, j < n → ∀ o, os[j]? = some o → o.all M = false) ∨ ∃ (i : Nat) (r : List Int), i < n ∧ sfT os M n = (i : Int) :: r ∧ (∃ o, os[i]? = some o ∧ o.all M = true) ∧ ∀ j, j < i → ∀ o, os[j]? = some o → o.all M = false
  | 0, _ => .inl ⟨rfl, fun j hj => absurd hj (Nat.not_lt_zero j)⟩
  | n + 1, h => by
    have hnl : n < os.length := by omega
    have ho := List.getElem?_eq_getElem hnl
    generalize os[n] = o at ho
    have hs := sfT_s (M := M) ho
    rcases sfT_first (os := os) (M := M) n (by omega) with ⟨e, hno⟩ | ⟨i, r, hi, e, hex, hno⟩
    · cases hall : o.all M with
      | false =>
        rw [hall, if_neg Bool.false_ne_true, List.append_nil, e] at hs
        refine .inl ⟨hs, fun j hj o' ho' => ?_⟩
        by_cases hjn : j < n
        · exact hno j hjn o' ho'
        · have : j = n := by omega
          subst this
          rw [ho] at ho'
          cases ho'
          exact hall
      | true =>
        rw [hall, if_pos rfl, e, List.nil_append] at hs
        exact .inr ⟨n, [], Nat.lt_succ_self n, hs, ⟨o, ho, hall⟩, hno⟩
    · rw [e, List.cons_append] at hs
      exact .inr ⟨i, _, by omega, hs, hex, hno⟩
def wB (R : Int → Option Nat) (q : Int) : Bool := decide (q = -1) || (R q).isNone
theorem wB_away {R : Int → Option Nat} {p q : Int} (hp : R p = none) : fitB false R p q = wB R q := by
  unfold fitB wB
  by_cases h : q = -1
  · rw [if_pos h, hp, decide_eq_true h]
    rfl
  · rw [if_neg h, hp, decide_eq_false h]
    cases R q <;> rfl
theorem fit_rk {R : Int → Option Nat} {p q : Int} {a : Nat} (hp : R p = some a) : fitB false R p q = (!wB R q && decide (rkI R q < (a : Int))) := by
  unfold fitB wB rkI
  by_cases h : q = -1
  · rw [if_pos h, hp, decide_eq_true h]
    rfl
  · rw [if_neg h, hp, decide_eq_false h]
    cases hb : R q with
    | none => rfl
    | some b =>
      show decide (b < a) = (true && decide (((b : Nat) : Int) < (a : Int)))
      rw [Bool.true_and]
      by_cases h2 : b < a
      · rw [decide_eq_true h2]; exact (decide_eq_true (by omega)).symm
      · rw [decide_eq_false h2]; exact (decide_eq_false (by omega)).symm
theorem wB_held {R : Int → Option Nat} {p q : Int} (hp : R p = none) : fitB true R p q = (!decide (q = -1) && (R q).isNone) := by
  unfold fitB
  by_cases h : q = -1
  · rw [if_pos h, hp, decide_eq_true h]
    rfl
  · rw [if_neg h, hp, decide_eq_false h]
    cases R q <;> rfl
theorem fit_driven' {R : Int → Option Nat} {p q : Int} {a : Nat} (hp : R p = some a) (h : fitB true R p q = true) : q = -1 ∨ ∃ b, R q = some b ∧ b < a := by
  unfold fitB at h
  by_cases hq : q = -1
  · exact .inl hq
  · rw [if_neg hq, hp] at h
    refine .inr ?_
    cases hb : R q with
    | none => rw [hb] at h; cases h
    | some b =>
      rw [hb] at h
      exact ⟨b, rfl, of_decide_eq_true h⟩
theorem IsRp.uniq {st : Bool} {R : Int → Option Nat} {p : Int} {o : Opt} {y z : Int} (h : IsRp st R p o y) (g : IsRp st R p o z) : y = z := by
  obtain ⟨h1, h2, h3, h4⟩ := h
  obtain ⟨g1, g2, g3, g4⟩ := g
  cases st with
  | false => rw [h3 rfl, g3 rfl]
  | true =>
    by_cases hm : (-1 : Int) ∈ o
    · rw [(h4 rfl).1 hm, (g4 rfl).1 hm]
    · have hy : y ≠ -1 := fun e => hm (e ▸ h1)
      have hz : z ≠ -1 := fun e => hm (e ▸ g1)
      have e1 := of_decide_eq_false ((h4 rfl).2 hy z g1 g2)
      have e2 := of_decide_eq_false ((g4 rfl).2 hz y h1 h2)
      have e1 : ¬ (rkI R z < rkI R y ∨ (rkI R z = rkI R y ∧ z < y)) := e1
      have e2 : ¬ (rkI R y < rkI R z ∨ (rkI R y = rkI R z ∧ y < z)) := e2
      omega
section
variable {P : Program} {w : World} {K : PySem.W.Frag} {mg : Str → Option Value} {base : Heap}
theorem RkL.atI {A : Ar} {R : Int → Option Nat} {rs : List V} (h : RkL A R rs) {k : Int} (h0 : 0 ≤ k) (h1 : k < A.length) : atI rs k = some (rkV (R k)) := by
  have := atI_nat (h.2 k.toNat (by omega))
  rw [show ((k.toNat : Nat) : Int) = k by omega] at this
  exact this
theorem rkV_non {r : Option Nat} : decide (rkV r = V.non) = r.isNone := by
  cases r with
  | none => exact decide_eq_true rfl
  | some r => exact decide_eq_false (fun e => nomatch e)
/-- a paper grows by one label -/
theorem PaperAt.more {st : Bool} {H H' : Hp} {A : Ar} {R : Int → Option Nat} {j : Nat} {ls : List V} {os : Pos'} {u : V} (h : PaperAt st H A R j ls) (t : Tp H H') (ho : A[j]? = some os) (hu : PapIn st H' os R (j : Int) u) : PaperAt st H' A R (j + 1) (ls ++ [u]) := by
  have hl := h.1
  refine ⟨by rw [List.length_append, hl]; rfl, fun k os' hk hk' => ?_⟩
  by_cases hkj : k < j
  · obtain ⟨v', h1, h2⟩ := h.2 k os' hkj hk'
    exact ⟨v', by rw [List.getElem?_append_left (by omega)]; exact h1, h2.tp t⟩
  · have : k = j := by omega
    subst this
    rw [ho] at hk'
    cases hk'
    exact ⟨u, by rw [List.getElem?_append_right (by omega), hl, Nat.sub_self]; rfl, hu⟩
/-! ### _law_stay_paper -/
def spSPap : Sp := fun vs H Q _ => ∃ (v : V) (A : Ar) (hp : Addr) (Kp : List Int), vs = [v, .ref hp] ∧ ArIn H A v ∧ ArG A ∧ H hp = some (.tup (Kp.map V.int)) ∧
  ∀ (p : Addr) (ls : List V) H', Same H H' → H' p = some (.tup ls) → PaperAt true H' A (gR true A Kp) A.length ls → Q (.ref p) H'
theorem ok_law_stay_paper (T : Txt K mg) : FnOk P w K mg base CX0 2 T.a_law_stay_paper T.d_law_stay_paper P_law_stay_paper spSPap := by
  have G_law_stay_ranks := ok_law_stay_ranks (P := P) (w := w) (base := base) T
  refine T.F_law_stay_paper.ok sc_law_stay_paper (fun vs H Q E h => ?_) (fun cdv A outer s H vs Q E hr h => ?_)
  · obtain ⟨v, A, hp, Kp, rfl, _⟩ := h
    rfl
  obtain ⟨v, A0, hp, Kp, rfl, ⟨b0, xs, rfl, e0, hxs⟩, hG, eh, q⟩ := h
  have hxl := hxs.1
  have h46 := hG.1
  generalize hRR : gR true A0 Kp = R at *
  refine ⟨_, (pss_cons (ps_set (i := 2) sc_law_stay_paper.nd rfl (Or.inr rfl) (pe_call G_law_stay_ranks (hr.mono (by omega)) (by rfl) T.m_law_stay_ranks T.F_law_stay_ranks.kp T.b_law_stay_ranks .nil pass0 (pa_cons (pv 0) (pa_cons (pv 1) pa_nil))))
    (pss_cons (ps_set (i := 3) sc_law_stay_paper.nd rfl (Or.inl rfl) (pe_lst pa_nil))
    (pss_cons (ps_for  PassesOwn.never rfl (pi_range1 (by rfl) T.z_range (pa_cons (pe_callB call_len_seq (by rfl) T.z_len PySem.boot_len (pa_cons (pv 0) pa_nil)) pa_nil)) (pg_name (i := 4) sc_law_stay_paper.nd rfl (Or.inl rfl))
    (pss_one (ps_if (pt_cmpR op_isN (pe_ix ix_list (pv 2) (pv 4) (fun _ _ => rfl)) pe_non (nomark _))
    (pss_cons (ps_set (i := 5) sc_law_stay_paper.nd rfl (Or.inl rfl) (pe_lst pa_nil))
    (pss_cons (ps_for  PassesOwn.never rfl (pi_range1 (by rfl) T.z_range (pa_cons (pe_callB call_len_seq (by rfl) T.z_len PySem.boot_len (pa_cons (pe_ix ix_tup (pv 0) (pv 4) (fun _ _ => rfl)) pa_nil)) pa_nil)) (pg_name (i := 6) sc_law_stay_paper.nd rfl (Or.inl rfl))
    (pss_one (ps_if (pt_cmpR op_eq (pe_callB call_len_seq (by rfl) T.z_len PySem.boot_len (pa_cons (pe_lc (own := [("one", 7)]) (g := (gName 7)) (tt := _) rfl sc_law_stay_paper.nd (pi_tup (pe_ix ix_tup (pe_ix ix_tup (pv 0) (pv 4) (fun _ _ => rfl)) (pv 6) (fun _ _ => rfl))) (blkOk_by (N := N_law_stay_paper) (sc := defScope s_law_stay_paper) (by decide +kernel)) (fun _ _ _ _ _ => (pg_name (i := 7) sc_law_stay_paper.nd rfl (Or.inl rfl))) (fun _ _ _ _ _ => (pts_one (PW.pt (pw_or (pt_cmpR op_eq (pv 7) (pe_un un_neg pe_int) (nomark _)) (pw_or1 (pt_cmpR op_notN (pe_ix (ix_listK (K := K) rfl) (pv 2) (pv 7) (fun _ _ => rfl)) pe_non (nomark _))))))) (fun _ _ _ _ _ => (pv 7))) pa_nil)) pe_int (nomark _))
    (pss_one (ps_expr (pe_bm PySem.F.plainAttrs_list PySem.F.slot_list_append PySem.F.type_list_append mt_append (pv 5) (pa_cons (pv 6) pa_nil))))
    pss_nil)))
    (pss_one (ps_expr (pe_bm PySem.F.plainAttrs_list PySem.F.slot_list_append PySem.F.type_list_append mt_append (pv 3) (pa_cons (pe_tup (pa_cons pe_str (pa_cons (pe_ix ix_list (pv 5) pe_int (fun _ _ => rfl)) pa_nil))) pa_nil))))))
    (pss_one (ps_if (pt_cmpR op_eq (pe_ix ix_list (pv 2) (pv 4) (fun _ _ => rfl)) pe_int (nomark _))
    (pss_one (ps_expr (pe_bm PySem.F.plainAttrs_list PySem.F.slot_list_append PySem.F.type_list_append mt_append (pv 3) (pa_cons (pe_tup (pa_cons pe_str (pa_cons pe_int (pa_cons (pe_tup pa_nil) pa_nil)))) pa_nil))))
    (pss_cons (ps_set (i := 8) sc_law_stay_paper.nd rfl (Or.inl rfl) (pe_lst pa_nil))
    (pss_cons (ps_for  PassesOwn.never rfl (pi_tup (pe_ix ix_tup (pv 0) (pv 4) (fun _ _ => rfl))) (pg_name (i := 9) sc_law_stay_paper.nd rfl (Or.inl rfl))
    (pss_cons (ps_set (i := 10) sc_law_stay_paper.nd rfl (Or.inl rfl) (pe_op op_rep (pe_lst (pa_cons (pe_tup (pa_cons (pe_un un_neg pe_int) (pa_cons (pe_un un_neg pe_int) pa_nil))) pa_nil)) (pe_callTy call_int1 (by rfl) T.z_int (by decide +kernel) (pa_cons (pe_cmpR op_eq (pe_ix ix_tup (pv 9) pe_int (fun _ _ => rfl)) (pe_un un_neg pe_int) (nomark _)) pa_nil))))
    (pss_cons (ps_set (i := 10) sc_law_stay_paper.nd rfl (Or.inl rfl) (pe_op op_cat (pv 10) (pe_lc (own := [("one", 7)]) (g := (gName 7)) (tt := _) rfl sc_law_stay_paper.nd (pi_tup (pv 9)) (blkOk_by (N := N_law_stay_paper) (sc := defScope s_law_stay_paper) (by decide +kernel)) (fun _ _ _ _ _ => (pg_name (i := 7) sc_law_stay_paper.nd rfl (Or.inl rfl))) (fun _ _ _ _ _ => (pts_one (PW.pt (pw_and (pt_cmpR op_ne (pv 7) (pe_un un_neg pe_int) (nomark _)) (pw_and1 (pt_cmpR op_notN (pe_ix (ix_listK (K := K) rfl) (pv 2) (pv 7) (fun _ _ => rfl)) pe_non (nomark _))))))) (fun _ _ _ _ _ => (pe_tup (pa_cons (pe_ix (ix_listK (K := K) rfl) (pv 2) (pv 7) (fun _ _ => rfl)) (pa_cons (pv 7) pa_nil)))))))
    (pss_one (ps_expr (pe_bm PySem.F.plainAttrs_list PySem.F.slot_list_append PySem.F.type_list_append mt_append (pv 8) (pa_cons (pe_ix ix_tup (pe_callB (cr_minP rfl (hu_of hr)) (by rfl) T.z_min (by decide +kernel) (pa_cons (pv 10) pa_nil)) pe_int (fun _ _ => rfl)) pa_nil)))))))
    (pss_one (ps_expr (pe_bm PySem.F.plainAttrs_list PySem.F.slot_list_append PySem.F.type_list_append mt_append (pv 3) (pa_cons (pe_tup (pa_cons pe_str (pa_cons (pe_ix ix_list (pv 2) (pv 4) (fun _ _ => rfl)) (pa_cons (pe_callTy call_tuple_of (by rfl) T.z_tuple (by decide +kernel) (pa_cons (pv 8) pa_nil)) pa_nil)))) pa_nil)))))))))))
    (pss_one (ps_ret (pe_callTy call_tuple_of (by rfl) T.z_tuple (by decide +kernel) (pa_cons (pv 3) pa_nil))))))), ?_⟩
  refine ⟨_, rfl, _, rfl, _, A0, hp, Kp, rfl, ⟨b0, xs, rfl, e0, hxs⟩, hG, eh, fun rl rs H1 s1 hrl0 kr1 hR0 => ?_⟩
  have hR : RkL A0 R rs := ⟨hR0.1, fun k hk => by
    obtain ⟨ro, h1, h2⟩ := hR0.2 k hk
    rw [h2, ← hRR, show gR true A0 Kp (k : Int) = ro from rkF_eq h1]⟩
  refine ⟨Nat.zero_le _, fun lp hlp => ?_⟩
  obtain ⟨H2, e2, s2, k2⟩ := newH hlp (.lst [])
  rw [e2]
  have hlpH : H lp = none := s1.free hlp
  have hlr : lp ≠ rl := fun z => by
    rw [z, kr1] at hlp
    cases hlp
  have s12 := s1.trans s2
  have kr2 := s2 _ _ kr1
  refine ⟨_, rfl, b0, _, rfl, .inr (sqt (s12 _ _ e0)), _, rfl, by omega, by omega, ?_⟩
  refine for_range (lo := 0) (n := ((xs.length : Nat) : Int).toNat) (fun (j : Nat) (σ : L2.St) (H' : Hp) => ∃ (ls : List V) (y4 y5 y6 y7 y8 y9 y10 : Option V), σ = [some (.ref b0), some (.ref hp), some (.ref rl), some (.ref lp), y4, y5, y6, y7, y8, y9, y10] ∧ Same H H' ∧ H' rl = some (.lst rs) ∧ H' lp = some (.lst ls) ∧ PaperAt true H' A0 R j ls) ?_ ?_ ?_
  · exact ⟨[], _, _, _, _, _, _, _, rfl, s12, kr2, k2, rfl, fun k os hk => absurd hk (Nat.not_lt_zero k)⟩
  · rintro j σ H3 hj ⟨ls, y4, y5, y6, y7, y8, y9, y10, rfl, s3, kr, klp, hls⟩
    have hjA : j < A0.length := by omega
    have hos := List.getElem?_eq_getElem hjA
    generalize A0[j] = os at hos
    obtain ⟨x, hx, b1, ys, rfl, e1, hys⟩ := hxs.at hos
    have hyl := hys.1
    have hosG := hG.2 os (List.mem_of_getElem? hos)
    have hosl := hosG.1
    have hll := hls.1
    generalize hat : (0 : Int) + (j : Int) = at_
    have haj : at_ = (j : Int) := by omega
    have hatx : atI xs at_ = some (V.ref b1) := by
      rw [haj]
      exact atI_nat hx
    have hatr : atI rs at_ = some (rkV (R (j : Int))) := by
      rw [haj]
      exact hR.atI (by omega) (by omega)
    -- a label is put behind the others
    have fin : ∀ (u : V) (z5 z6 z7 z8 z9 z10 : Option V) (H7 : Hp), Same H3 H7 → PapIn true H7 os R (j : Int) u → ∃ (ls2 : List V) (y4 y5 y6 y7 y8 y9 y10 : Option V), [some (V.ref b0), some (.ref hp), some (.ref rl), some (.ref lp), some (.int at_), z5, z6, z7, z8, z9, z10] = [some (V.ref b0), some (.ref hp), some (.ref rl), some (.ref lp), y4, y5, y6, y7, y8, y9, y10] ∧ Same H (upd H7 lp (.lst (ls ++ [u]))) ∧ (upd H7 lp (.lst (ls ++ [u]))) rl = some (.lst rs) ∧ (upd H7 lp (.lst (ls ++ [u]))) lp = some (.lst ls2) ∧ PaperAt true (upd H7 lp (.lst (ls ++ [u]))) A0 R (j + 1) ls2 := fun u z5 z6 z7 z8 z9 z10 H7 s7 hu => by
      have tt : Tp H7 (upd H7 lp (.lst (ls ++ [u]))) := tp_put Tp.refl (s7 _ _ klp)
      exact ⟨_, _, _, _, _, _, _, _, rfl, same_put (s3.trans s7) hlpH, by rw [upd_ne hlr.symm]; exact s7 _ _ kr, upd_same, hls.more ((Tp.same s7).trans tt) hos (hu.tp tt)⟩
    refine ⟨_, rfl, _, rfl, rl, _, _, _, rfl, rfl, sqd kr, hatr, rfl, _, rfl, ?_⟩
    cases hRj : R ((j : Nat) : Int) with
    | none =>
      refine ifT (decide_eq_true rfl) ?_
      refine ⟨Nat.zero_le _, fun gp hgp => ?_⟩
      obtain ⟨H4, e4, s4, k4⟩ := newH hgp (.lst [])
      rw [e4]
      have hgp3 : H3 gp = none := hgp
      have s34 := s3.trans s4
      refine ⟨_, rfl, _, rfl, b0, _, _, _, rfl, rfl, sqt (s34 _ _ e0), hatx, b1, _, rfl, .inr (sqt (s34 _ _ e1)), _, rfl, by omega, by omega, ?_⟩
      refine for_range (lo := 0) (n := ((ys.length : Nat) : Int).toNat) (fun (m : Nat) (σ : L2.St) (H' : Hp) => ∃ z6 : Option V, σ = [some (.ref b0), some (.ref hp), some (.ref rl), some (.ref lp), some (.int at_), some (.ref gp), z6, y7, y8, y9, y10] ∧ Same H3 H' ∧ H' gp = some (.lst ((sfT os (fitB true R (j : Int)) m).map V.int))) ?_ ?_ ?_
      · exact ⟨_, rfl, s4, k4⟩
      · rintro m σ H5 hm ⟨z6, rfl, s5, k5⟩
        have hml : m < os.length := by omega
        have ho := List.getElem?_eq_getElem hml
        generalize os[m] = o at ho
        obtain ⟨x2, hx2, bo, rfl, eo⟩ := hys.at ho
        have hoG := hosG.2 o (List.mem_of_getElem? ho)
        have hlen := hoG.len
        generalize hix : (0 : Int) + (m : Int) = ix
        have hat2 : atI ys ix = some (V.ref bo) := by
          rw [← hix, Int.zero_add]
          exact atI_nat hx2
        have hst := sfT_s (M := fitB true R (j : Int)) ho
        have hsl := sfT_len os (fitB true R (j : Int)) m
        have s35 := s3.trans s5
        have kr5 := s5 _ _ kr
        refine ⟨_, rfl, _, rfl, b0, _, _, _, rfl, rfl, sqt (s35 _ _ e0), hatx, _, rfl, b1, _, _, _, rfl, rfl, sqt (s35 _ _ e1), hat2, bo, rfl, ⟨_, sqt (s35 _ _ eo)⟩, fun L hL => ?_⟩
        refine lc_tup (K := K) (a := bo) (xs := o.map V.int) (fun (c : Nat) (H' : Hp) => Same H5 H' ∧ H' L = some (.lst (((o.take c).filter (fun p => !fitB true R (j : Int) p)).map V.int))) ?_ ?_ ?_ ?_
        · exact ⟨same_new hL _, upd_same⟩
        · rintro c H' _ ⟨s6, _⟩
          exact sqt ((s35.trans s6) _ _ eo)
        · rintro c x H6 hx6 ⟨s6, k6⟩
          rw [List.getElem?_map] at hx6
          obtain ⟨p, hp6, rfl⟩ := Option.map_eq_some_iff.mp hx6
          have hpm := hoG.mem p (List.mem_of_getElem? hp6)
          have hfl := List.length_filter_le (fun p => !fitB true R (j : Int) p) (o.take c)
          rw [List.length_take] at hfl
          have hnx : (o.take (c + 1)).filter (fun p => !fitB true R (j : Int) p) = (o.take c).filter (fun p => !fitB true R (j : Int) p) ++ (if (!fitB true R (j : Int) p) = true then [p] else []) := by
            rw [List.take_add_one, hp6, List.filter_append]
            congr 1
            rw [Option.toList_some, List.filter_cons]
            cases (!fitB true R (j : Int) p) <;> rfl
          have hw := wB_held (q := p) hRj
          have yes : fitB true R (j : Int) p = false → ∃ acc, H6 L = some (.lst acc) ∧ acc.length < sizeLine ∧ (Same H5 (upd H6 L (.lst (acc ++ [V.int p]))) ∧ upd H6 L (.lst (acc ++ [V.int p])) L = some (.lst (((o.take (c + 1)).filter (fun p => !fitB true R (j : Int) p)).map V.int))) := fun hy => by
            refine ⟨_, k6, big' (by rw [List.length_map]; omega), same_put s6 hL, ?_⟩
            rw [upd_same, hnx, hy, Bool.not_false, if_pos rfl, List.map_append]
            rfl
          refine ⟨rfl, ?_⟩
          refine ⟨_, rfl, _, rfl, rfl, _, rfl, ?_⟩
          by_cases hp1 : p = -1
          · refine ifT (decide_eq_true (by rw [hp1])) ?_
            refine iteT ⟨_, rfl, yes ?_⟩
            rw [hw, decide_eq_true hp1]
            rfl
          · refine ifF (decide_eq_false (fun e => hp1 (V.int.inj e))) ?_
            refine ⟨_, rfl, _, rfl, rl, _, _, _, rfl, rfl, sqd (s6 _ _ kr5), hR.atI (by omega) (by omega), rfl, _, rfl, ?_⟩
            rw [rkV_non]
            rw [decide_eq_false hp1, Bool.not_false, Bool.true_and] at hw
            cases hn : (R p).isNone with
            | false => exact iteT ⟨_, rfl, yes (hw.trans hn)⟩
            | true =>
              refine iteF ⟨s6, ?_⟩
              rw [hnx, hw, hn, Bool.not_true, if_neg Bool.false_ne_true, List.append_nil]
              exact k6
        · rintro H6 ⟨s6, k6⟩
          rw [List.length_map, List.take_length] at k6
          have kg6 := s6 _ _ k5
          refine ⟨L, _, rfl, .inl (sqd k6), rfl, _, rfl, ?_⟩
          refine ite2 (fun z => ?_) (fun z => ?_)
          · have hz := int_eq z
            have hall : o.all (fitB true R (j : Int)) = true := by
              rw [List.length_map] at hz
              have hnil : o.filter (fun p => !fitB true R (j : Int) p) = [] := List.length_eq_zero_iff.mp (by omega)
              rw [List.filter_eq_nil_iff] at hnil
              exact List.all_eq_true.mpr fun p hp => by
                cases h : fitB true R (j : Int) p with
                | true => rfl
                | false => exact absurd (by rw [h]; rfl) (hnil p hp)
            refine ⟨_, rfl, .inl ⟨rfl, _, sqd kg6⟩, _, rfl, gp, _, _, rfl, rfl, kg6, big' (by rw [List.length_map]; omega), ?_⟩
            refine ⟨_, rfl, same_put (s5.trans s6) hgp3, ?_⟩
            rw [upd_same, hst, hall, if_pos rfl, List.map_append]
            show _ = some (HO.lst (_ ++ [V.int (m : Int)]))
            rw [← hix, Int.zero_add]
          · have hz := int_ne z
            have hno : o.all (fitB true R (j : Int)) = false := by
              cases ha : o.all (fitB true R (j : Int)) with
              | false => rfl
              | true =>
                have hnil : o.filter (fun p => !fitB true R (j : Int) p) = [] := List.filter_eq_nil_iff.mpr fun p hp => by
                  rw [List.all_eq_true.mp ha p hp]
                  exact Bool.false_ne_true
                rw [hnil] at hz
                exact absurd rfl hz
            refine ⟨_, rfl, s5.trans s6, ?_⟩
            rw [hst, hno, if_neg Bool.false_ne_true, List.append_nil]
            exact kg6
      · rintro σ H5 ⟨z6, rfl, s5, k5⟩
        rw [show ((ys.length : Nat) : Int).toNat = os.length by omega] at k5
        have hex : ∃ o ∈ os, o.all (fitB true R (j : Int)) = true := by
          have := stay_yes (Kp := Kp) hG.inA hos (by rw [hRR]; exact hRj)
          rw [hRR] at this
          exact this
        rcases sfT_first (M := fitB true R (j : Int)) os.length (Nat.le_refl _) with ⟨_, hno⟩ | ⟨i, rr, hi, hsf, hio, hino⟩
        · obtain ⟨o, ho, hall⟩ := hex
          obtain ⟨k, hk⟩ := List.getElem?_of_mem ho
          have := hno k (List.getElem?_eq_some_iff.mp hk).1 o hk
          rw [hall] at this
          cases this
        rw [hsf] at k5
        refine ⟨_, rfl, .inl ⟨rfl, _, sqd (s5 _ _ klp)⟩, _, rfl, gp, _, _, _, rfl, rfl, sqd k5, atI0, Nat.le_of_ble_eq_true rfl, fun td htd => ?_⟩
        obtain ⟨H6, e6, s6, k6⟩ := newH htd (.tup [V.str "holds", V.int (i : Nat)])
        rw [e6]
        refine ⟨lp, _, _, rfl, rfl, (s5.trans s6) _ _ klp, big' (by omega), ?_⟩
        refine fin _ _ _ _ _ _ _ H6 (s5.trans s6) ⟨td, .int (i : Nat), rfl, by rw [hRj]; exact k6, ?_⟩
        unfold PickG
        rw [hRj, if_pos (show ((none : Option Nat).isSome != true) = true from rfl), if_neg (show ¬ (none : Option Nat) = some 0 from fun e => nomatch e)]
        exact ⟨i, rfl, hio, hino⟩
    | some r =>
      refine ifF (decide_eq_false (fun e => nomatch e)) ?_
      refine ⟨_, rfl, _, rfl, rl, _, _, _, rfl, rfl, sqd kr, hatr, by rw [hRj] <;> rfl, _, rfl, ?_⟩
      rw [hRj]
      have hown : ¬ ((some r : Option Nat).isSome != true) = true := (by decide : ¬ (true != true) = true)
      cases r with
      | zero =>
        refine ifT (decide_eq_true rfl) ?_
        refine ⟨_, rfl, .inl ⟨rfl, _, sqd klp⟩, Nat.zero_le _, fun te hte => ?_⟩
        obtain ⟨H5, e5, s5, k5⟩ := newH hte (.tup ([] : List V))
        rw [e5]
        refine ⟨Nat.le_of_ble_eq_true rfl, fun td htd => ?_⟩
        obtain ⟨H6, e6, s6, k6⟩ := newH htd (.tup [V.str "driven", V.int 0, V.ref te])
        rw [e6]
        refine ⟨lp, _, _, rfl, rfl, (s5.trans s6) _ _ klp, big' (by omega), ?_⟩
        refine fin _ _ _ _ _ _ _ H6 (s5.trans s6) ⟨td, .ref te, rfl, by rw [hRj]; exact k6, ?_⟩
        unfold PickG
        rw [hRj, if_neg hown]
        exact ⟨te, [], rfl, s6 _ _ k5, by rw [if_pos rfl]⟩
      | succ r =>
        refine ifF (decide_eq_false (fun e => by have := V.int.inj e; omega)) ?_
        refine ⟨Nat.zero_le _, fun gp hgp => ?_⟩
        obtain ⟨H4, e4, s4, k4⟩ := newH hgp (.lst [])
        rw [e4]
        have hgp3 : H3 gp = none := hgp
        have s34 := s3.trans s4
        refine ⟨_, rfl, _, rfl, b0, _, _, _, rfl, rfl, sqt (s34 _ _ e0), hatx, b1, rfl, ⟨_, sqt (s34 _ _ e1)⟩, ?_⟩
        refine for_tup (K := K) (a := b1) (xs := ys) (fun (m : Nat) (σ : L2.St) (H' : Hp) => ∃ (z7 z9 z10 : Option V) (zs : List Int), σ = [some (.ref b0), some (.ref hp), some (.ref rl), some (.ref lp), some (.int at_), y5, y6, z7, some (.ref gp), z9, z10] ∧ Same H3 H' ∧ H' gp = some (.lst (zs.map V.int)) ∧ zs.length = m ∧ ∀ (i : Nat) o z, os[i]? = some o → zs[i]? = some z → IsRp true R (j : Int) o z) ?_ ?_ ?_ ?_
        · exact ⟨_, _, _, [], rfl, s4, k4, rfl, fun i o z _ h => nomatch h⟩
        · rintro m σ H' _ ⟨z7, z9, z10, zs, rfl, s5, _⟩
          exact sqt ((s3.trans s5) _ _ e1)
        · rintro m x σ H5 hx5 ⟨z7, z9, z10, zs, rfl, s5, k5, hzl, hzs⟩
          have hml := (List.getElem?_eq_some_iff.mp hx5).1
          have ho := List.getElem?_eq_getElem (show m < os.length by omega)
          generalize os[m] = o at ho
          obtain ⟨bo, rfl, eo⟩ := hys.2 m o x ho hx5
          have hoG := hosG.2 o (List.mem_of_getElem? ho)
          have hlen := hoG.len
          obtain ⟨a0, r0, ho0⟩ : ∃ a0 r0, o = a0 :: r0 := by
            cases hh : o with
            | nil => exact absurd hh hoG.ne
            | cons a r => exact ⟨a, r, rfl⟩
          have hat0 : atI (o.map V.int) 0 = some (V.int a0) := by
            rw [ho0]
            exact atI0
          have hm1 : a0 = -1 ↔ (-1 : Int) ∈ o := by
            constructor
            · intro e
              rw [ho0, e]
              exact List.mem_cons_self ..
            · intro e
              obtain ⟨r', e'⟩ := head_out hoG e
              rw [ho0] at e'
              injection e'
          have hex : ∃ q ∈ o, fitB true R (j : Int) q = true := by
            have := stay_no (Kp := Kp) hos (r := r) (by rw [hRR]; exact hRj) o (List.mem_of_getElem? ho)
            rw [hRR] at this
            exact this
          have kr5 := s5 _ _ kr
          have s35 := s3.trans s5
          refine ⟨_, rfl, _, rfl, Nat.le_of_ble_eq_true rfl, fun t1 ht1 => ?_⟩
          obtain ⟨H6, e6, s6, k6⟩ := newH ht1 (.tup [V.int (-1), V.int (-1)])
          rw [e6]
          refine ⟨Nat.le_of_ble_eq_true rfl, fun l1 hl1 => ?_⟩
          obtain ⟨H7, e7, s7, k7⟩ := newH hl1 (.lst [V.ref t1])
          rw [e7]
          refine ⟨_, rfl, bo, _, _, _, rfl, rfl, sqt ((s35.trans (s6.trans s7)) _ _ eo), hat0, _, rfl, rfl, .inr ⟨_, rfl, ?_⟩⟩
          obtain ⟨kk, hkk, ts0, hts0, hrep, hc⟩ : ∃ kk : Int, (if decide (V.int a0 = V.int (-1)) = true then (1 : Int) else 0) = kk ∧ ∃ ts0 : List Addr, (0 ≤ kk ∧ kk ≤ 1) ∧ (List.replicate kk.toNat [V.ref t1]).flatten = ts0.map V.ref ∧ ((a0 = -1 ∧ ts0 = [t1]) ∨ (a0 ≠ -1 ∧ ts0 = [])) := by
            by_cases h : a0 = -1
            · exact ⟨1, by rw [decide_eq_true (by rw [h])]; rfl, [t1], by omega, rfl, .inl ⟨h, rfl⟩⟩
            · exact ⟨0, by rw [decide_eq_false (fun e => h (V.int.inj e))]; rfl, [], by omega, rfl, .inr ⟨h, rfl⟩⟩
          refine ⟨l1, kk, [V.ref t1], rfl, congrArg V.int hkk, k7, by omega, by omega, big (by have : kk.toNat ≤ 1 := (by omega); rw [List.length_singleton]; omega), fun p1 hp1 => ?_⟩
          rw [hrep]
          obtain ⟨H8, e8, s8, k8⟩ := newH hp1 (.lst (ts0.map V.ref))
          rw [e8]
          have s58 := (s6.trans s7).trans s8
          refine ⟨_, rfl, _, rfl, bo, rfl, ⟨_, sqt ((s35.trans s58) _ _ eo)⟩, fun L hL => ?_⟩
          refine lc_tup (K := K) (a := bo) (xs := o.map V.int) (fun (c : Nat) (H' : Hp) => Same H8 H' ∧ ∃ ts : List Addr, H' L = some (.lst (ts.map V.ref)) ∧ ts.length = ((o.take c).filter (fun q => !wB R q)).length ∧ ∀ (i : Nat) tt z, ts[i]? = some tt → ((o.take c).filter (fun q => !wB R q))[i]? = some z → H' tt = some (.tup ([rkI R z, z].map V.int))) ?_ ?_ ?_ ?_
          · exact ⟨same_new hL _, [], upd_same, rfl, fun i tt z h => nomatch h⟩
          · rintro c H' _ ⟨s9, _⟩
            exact sqt ((s35.trans (s58.trans s9)) _ _ eo)
          · rintro c x H9 hx9 ⟨s9, ts, k9, htl, hts⟩
            rw [List.getElem?_map] at hx9
            obtain ⟨pz, hp9, rfl⟩ := Option.map_eq_some_iff.mp hx9
            have hpm := hoG.mem pz (List.mem_of_getElem? hp9)
            have hfl := List.length_filter_le (fun q => !wB R q) (o.take c)
            rw [List.length_take] at hfl
            have hnx : (o.take (c + 1)).filter (fun q => !wB R q) = (o.take c).filter (fun q => !wB R q) ++ (if (!wB R pz) = true then [pz] else []) := by
              rw [List.take_add_one, hp9, List.filter_append]
              congr 1
              rw [Option.toList_some, List.filter_cons]
              cases (!wB R pz) <;> rfl
            have skip : wB R pz = true → Same H8 H9 ∧ ∃ ts : List Addr, H9 L = some (.lst (ts.map V.ref)) ∧ ts.length = ((o.take (c + 1)).filter (fun q => !wB R q)).length ∧ ∀ (i : Nat) tt z, ts[i]? = some tt → ((o.take (c + 1)).filter (fun q => !wB R q))[i]? = some z → H9 tt = some (.tup ([rkI R z, z].map V.int)) := fun hw => by
              rw [hw, Bool.not_true, if_neg Bool.false_ne_true, List.append_nil] at hnx
              rw [hnx]
              exact ⟨s9, ts, k9, htl, hts⟩
            refine ⟨rfl, ?_⟩
            refine ⟨_, rfl, _, rfl, rfl, _, rfl, ?_⟩
            by_cases hp1' : pz = -1
            · refine ifF (by rw [hp1'] <;> rfl) ?_
              refine iteF (skip ?_)
              unfold wB
              rw [decide_eq_true hp1']
              rfl
            · refine ifT (by rw [decide_eq_false (fun e => hp1' (V.int.inj e))] <;> rfl) ?_
              have hat9 := hR.atI (k := pz) (by omega) (by omega)
              refine ⟨_, rfl, _, rfl, rl, _, _, _, rfl, rfl, sqd ((s58.trans s9) _ _ kr5), hat9, rfl, _, rfl, ?_⟩
              rw [rkV_non]
              have hwp : wB R pz = (R pz).isNone := by
                unfold wB
                rw [decide_eq_false hp1', Bool.false_or]
              cases hRp : R pz with
              | none =>
                exact iteF (skip (by rw [hwp, hRp] <;> rfl))
              | some b =>
                have hw2 : wB R pz = false := by
                  rw [hwp, hRp]
                  rfl
                rw [hw2, Bool.not_false, if_pos rfl] at hnx
                refine iteT ⟨_, rfl, _, rfl, rl, _, _, _, rfl, rfl, sqd ((s58.trans s9) _ _ kr5), hat9, _, rfl, Nat.le_of_ble_eq_true rfl, fun tn htn => ?_⟩
                rw [hRp]
                obtain ⟨Ha, ea, sa, ka⟩ := newH htn (.tup [V.int (b : Nat), V.int pz])
                have ea' : upd H9 tn (.tup [rkV (some b), V.int pz]) = Ha := ea
                rw [ea']
                have k9a := sa _ _ k9
                refine ⟨_, k9a, big' (by rw [List.length_map]; omega), same_put (s9.trans sa) hL, ts ++ [tn], by rw [upd_same, List.map_append]; rfl, by rw [hnx, List.length_append, List.length_append, htl]; rfl, fun i tt z hi hz => ?_⟩
                have hup : ∀ aa oo, Ha aa = some oo → aa ≠ L → upd Ha L (.lst (ts.map V.ref ++ [V.ref tn])) aa = some oo := fun aa oo e hne => by rw [upd_ne hne]; exact e
                rw [hnx] at hz
                by_cases hij : i < ts.length
                · rw [List.getElem?_append_left hij] at hi
                  rw [List.getElem?_append_left (by omega)] at hz
                  have h4 := sa _ _ (hts i tt z hi hz)
                  exact hup _ _ h4 (fun e => by rw [e, k9a] at h4; cases h4)
                · have hij2 : i = ts.length := by
                    have := (List.getElem?_eq_some_iff.mp hi).1
                    rw [List.length_append] at this
                    have h1 : [tn].length = 1 := rfl
                    omega
                  subst hij2
                  rw [List.getElem?_append_right (Nat.le_refl _), Nat.sub_self] at hi
                  cases hi
                  rw [htl, List.getElem?_append_right (Nat.le_refl _), Nat.sub_self] at hz
                  cases hz
                  refine hup _ _ ?_ (fun e => by rw [e, k9a] at ka; cases ka)
                  rw [ka]
                  unfold rkI
                  rw [hRp]
                  rfl
          · rintro H9 ⟨s9, ts, k9, htl, hts⟩
            rw [List.length_map, List.take_length] at htl hts
            have hfl := List.length_filter_le (fun q => !wB R q) o
            have h0l : ts0.length ≤ 1 := by
              rcases hc with ⟨_, h⟩ | ⟨_, h⟩ <;> rw [h] <;> exact Nat.le_of_ble_eq_true rfl
            have k89 := s9 _ _ k8
            refine ⟨p1, L, _, _, rfl, rfl, k89, k9, big (by rw [List.length_map, List.length_map]; omega), fun p2 hp2 => ?_⟩
            rw [← List.map_append]
            obtain ⟨Hb, eb, sb, kb⟩ := newH hp2 (.lst ((ts0 ++ ts).map V.ref))
            rw [eb]
            have s5b := (s58.trans s9).trans sb
            have kg := s5b _ _ k5
            have fit_of : ∀ q ∈ o, q ≠ -1 → (∃ b, R q = some b) → (!wB R q) = true := fun q _ h1 ⟨b, hb⟩ => by
              unfold wB
              rw [decide_eq_false h1, hb]
              rfl
            have nw_of : ∀ q, (!wB R q) = true → q ≠ -1 ∧ ∃ b, R q = some b := fun q h => by
              unfold wB at h
              by_cases h1 : q = -1
              · rw [decide_eq_true h1] at h
                cases h
              · refine ⟨h1, ?_⟩
                rw [decide_eq_false h1, Bool.false_or] at h
                cases hb : R q with
                | none => rw [hb] at h; cases h
                | some b => exact ⟨b, rfl⟩
            have fits_of : ∀ q, q ≠ -1 → fitB true R (j : Int) q = true → ∃ b, R q = some b ∧ b < r + 1 := fun q h1 h => by
              rcases fit_driven' hRj h with e | e
              · exact absurd e h1
              · exact e
            -- the reply is put behind the others
            have fin2 : ∀ z : Int, IsRp true R (j : Int) o z → ∃ (w7 w9 w10 : Option V) (zs2 : List Int), [some (V.ref b0), some (.ref hp), some (.ref rl), some (.ref lp), some (.int at_), y5, y6, z7, some (.ref gp), some (.ref bo), some (.ref p2)] = [some (.ref b0), some (.ref hp), some (.ref rl), some (.ref lp), some (.int at_), y5, y6, w7, some (.ref gp), w9, w10] ∧ Same H3 (upd Hb gp (.lst (zs.map V.int ++ [V.int z]))) ∧ (upd Hb gp (.lst (zs.map V.int ++ [V.int z]))) gp = some (.lst (zs2.map V.int)) ∧ zs2.length = m + 1 ∧ ∀ (i : Nat) o z, os[i]? = some o → zs2[i]? = some z → IsRp true R (j : Int) o z := fun z hz => by
              refine ⟨_, _, _, zs ++ [z], rfl, same_put (s5.trans s5b) hgp3, by rw [upd_same, List.map_append]; rfl, by rw [List.length_append, hzl]; rfl, fun i o' z' hi hz' => ?_⟩
              by_cases hij : i < m
              · rw [List.getElem?_append_left (by omega)] at hz'
                exact hzs i o' z' hi hz'
              · have hij2 : i = m := by
                  have := (List.getElem?_eq_some_iff.mp hz').1
                  rw [List.length_append, hzl] at this
                  have h1 : [z].length = 1 := rfl
                  omega
                subst hij2
                rw [List.getElem?_append_right (by omega), hzl, Nat.sub_self] at hz'
                cases hz'
                rw [ho] at hi
                cases hi
                exact hz
            have hzs60 : (zs.map V.int).length ≤ 1000000 := by rw [List.length_map]; omega
            rcases hc with ⟨ha0, rfl⟩ | ⟨ha0, rfl⟩
            · -- out is among the successors
              have hout := hm1.mp ha0
              refine ⟨_, rfl, .inl ⟨rfl, _, sqd kg⟩, _, rfl, p2, [t1] ++ ts, (-1, -1) :: (o.filter (fun q => !wB R q)).map (fun q => (rkI R q, q)), rfl, sqd kb, by show (t1 :: ts).length = _; rw [List.length_cons, List.length_cons, List.length_map, htl], Nat.succ_pos _, fun i tt pp hi hpp => ?_, fun i tt pp hi hpp hmin => ?_⟩
              · cases i with
                | zero =>
                  cases hi
                  cases hpp
                  exact sqt ((((s7.trans s8).trans s9).trans sb) _ _ k6)
                | succ i =>
                  have hi : ts[i]? = some tt := hi
                  have hpp : ((o.filter (fun q => !wB R q)).map (fun q => (rkI R q, q)))[i]? = some pp := hpp
                  rw [List.getElem?_map] at hpp
                  obtain ⟨z, hz, rfl⟩ := Option.map_eq_some_iff.mp hpp
                  exact sqt (sb _ _ (hts i tt z hi hz))
              · have h1 := of_decide_eq_false (hmin (-1, -1) (List.mem_cons_self ..))
                cases i with
                | zero =>
                  cases hi
                  cases hpp
                  refine ⟨t1, _, _, _, rfl, rfl, sqt ((((s7.trans s8).trans s9).trans sb) _ _ k6), atI1, gp, _, _, rfl, rfl, kg, big' hzs60, ?_⟩
                  refine fin2 (-1) ⟨hout, ?_, fun e => (nomatch e), fun _ => ⟨fun _ => rfl, fun e => absurd rfl e⟩⟩
                  unfold fitB
                  rw [if_pos rfl, hRj]
                  rfl
                | succ i =>
                  have hpp : ((o.filter (fun q => !wB R q)).map (fun q => (rkI R q, q)))[i]? = some pp := hpp
                  rw [List.getElem?_map] at hpp
                  obtain ⟨z, hz, rfl⟩ := Option.map_eq_some_iff.mp hpp
                  have h1 : ¬ ((-1 : Int) < rkI R z ∨ ((-1 : Int) = rkI R z ∧ (-1 : Int) < z)) := h1
                  have h2 : 0 ≤ rkI R z := Int.natCast_nonneg _
                  omega
            · have hnout : (-1 : Int) ∉ o := fun h => ha0 (hm1.mpr h)
              obtain ⟨q0, hq0, hf0⟩ := hex
              have hq01 : q0 ≠ -1 := fun e => hnout (e ▸ hq0)
              obtain ⟨b0', hb0, hlt0⟩ := fits_of q0 hq01 hf0
              have hq0m : q0 ∈ o.filter (fun q => !wB R q) := List.mem_filter.mpr ⟨hq0, fit_of q0 hq0 hq01 ⟨b0', hb0⟩⟩
              refine ⟨_, rfl, .inl ⟨rfl, _, sqd kg⟩, _, rfl, p2, [] ++ ts, (o.filter (fun q => !wB R q)).map (fun q => (rkI R q, q)), rfl, sqd kb, by rw [List.nil_append, List.length_map, htl], by rw [List.length_map]; exact List.length_pos_of_mem hq0m, fun i tt pp hi hpp => ?_, fun i tt pp hi hpp hmin => ?_⟩
              · rw [List.getElem?_map] at hpp
                obtain ⟨z, hz, rfl⟩ := Option.map_eq_some_iff.mp hpp
                exact sqt (sb _ _ (hts i tt z hi hz))
              · rw [List.getElem?_map] at hpp
                obtain ⟨z, hz, rfl⟩ := Option.map_eq_some_iff.mp hpp
                obtain ⟨hz1, hz2⟩ := List.mem_filter.mp (List.mem_of_getElem? hz)
                obtain ⟨hz3, bz, hbz⟩ := nw_of z hz2
                refine ⟨tt, _, _, _, rfl, rfl, sqt (sb _ _ (hts i tt z hi hz)), atI1, gp, _, _, rfl, rfl, kg, big' hzs60, ?_⟩
                refine fin2 z ⟨hz1, ?_, fun e => (nomatch e), fun _ => ⟨fun h => absurd h hnout, fun _ q hq hfq => ?_⟩⟩
                · have h1 := of_decide_eq_false (hmin _ (List.mem_map_of_mem hq0m))
                  have h1 : ¬ (rkI R q0 < rkI R z ∨ (rkI R q0 = rkI R z ∧ q0 < z)) := h1
                  unfold rkI at h1
                  rw [hb0, hbz] at h1
                  have h1 : ¬ (((b0' : Nat) : Int) < ((bz : Nat) : Int) ∨ (((b0' : Nat) : Int) = ((bz : Nat) : Int) ∧ q0 < z)) := h1
                  unfold fitB
                  rw [if_neg hz3, hRj, hbz]
                  exact decide_eq_true (by omega)
                · have hq1 : q ≠ -1 := fun e => hnout (e ▸ hq)
                  obtain ⟨bq, hbq, _⟩ := fits_of q hq1 hfq
                  exact hmin _ (List.mem_map_of_mem (List.mem_filter.mpr ⟨hq, fit_of q hq hq1 ⟨bq, hbq⟩⟩))
        · rintro σ H5 ⟨z7, z9, z10, zs, rfl, s5, k5, hzl, hzs⟩
          have kr5 := s5 _ _ kr
          refine ⟨_, rfl, .inl ⟨rfl, _, sqd (s5 _ _ klp)⟩, _, rfl, _, rfl, rl, _, _, _, rfl, rfl, sqd kr5, hatr, _, rfl, gp, _, rfl, .inl ⟨sqd k5, fun tc htc => ?_⟩⟩
          obtain ⟨H6, e6, s6, k6⟩ := newH htc (.tup (zs.map V.int))
          rw [e6]
          refine ⟨Nat.le_of_ble_eq_true rfl, fun td htd => ?_⟩
          obtain ⟨H7, e7, s7, k7⟩ := newH htd (.tup [V.str "driven", rkV (R (j : Int)), V.ref tc])
          rw [e7]
          refine ⟨lp, _, _, rfl, rfl, ((s5.trans s6).trans s7) _ _ klp, big' (by omega), ?_⟩
          refine fin _ _ _ _ _ _ _ H7 ((s5.trans s6).trans s7) ⟨td, .ref tc, rfl, ?_, ?_⟩
          · rw [hRj] at k7 ⊢
            exact k7
          · unfold PickG
            rw [hRj, if_neg hown]
            exact ⟨tc, zs, rfl, s7 _ _ k6, by rw [if_neg (fun e => by cases e)]; exact ⟨by omega, hzs⟩⟩
  · rintro σ H3 ⟨ls, y4, y5, y6, y7, y8, y9, y10, rfl, s3, kr, klp, hls⟩
    rw [show ((xs.length : Nat) : Int).toNat = A0.length by omega] at hls
    refine ⟨_, rfl, lp, _, rfl, .inl ⟨sqd klp, fun t ht => ?_⟩⟩
    have s4 := same_new ht (.tup ls)
    exact q t ls _ (s3.trans s4) upd_same (hls.tp (Tp.same s4))
end
end NL

set_option maxHeartbeats 4000000
namespace NL
open PySem PySem.Spec PyProof.Rows L2
theorem for_enumT {K : PySem.W.Frag} {a : Addr} {xs : List V} {g : TG} {tb : TS} {D : Ends} {σ : L2.St} {H : Hp} (Pv : Nat → L2.St → Hp → Prop) (h0 : Pv 0 σ H) (hq : ∀ i σ H, Pv i σ H → SqT K H a xs)
    (hs : ∀ (i : Nat) (x : V) (t : Addr) σ H, xs[i]? = some x → Pv i σ H → H t = none → g (.ref t) σ (upd H t (.tup [.int (i : Nat), x])) fun σ2 H2 => tb { D with nx := Pv (i + 1), ct := Pv (i + 1), bk := D.nx } σ2 H2) (hd : ∀ σ H, Pv xs.length σ H → D.nx σ H) :
    ∃ W : Nat → Nat → L2.St → Hp → Prop, (∃ m, W 0 m σ H) ∧ ∀ i m σ H, W i m σ H →
      ((EtT K a).stop i H ∧ D.nx σ H) ∨ ((EtT K a).go i H ∧ ∃ N : L2.St → Hp → Prop, (∀ σ' H', N σ' H' → ∃ m', m' < m ∧ W (i + 1) m' σ' H') ∧ ∀ x H', (EtT K a).yld i H x H' → g x σ H' fun σ2 H2 => tb { D with nx := N, ct := N, bk := D.nx } σ2 H2) := by
  refine ⟨fun i m σ H => m + i = xs.length ∧ Pv i σ H, ⟨xs.length, rfl, h0⟩, ?_⟩
  rintro i m σ H ⟨hi, p⟩
  have q := hq i σ H p
  by_cases lt : i < xs.length
  · have ex : xs[i]? = some xs[i] := List.getElem?_eq_getElem lt
    refine .inr ⟨⟨xs, _, q, ex⟩, Pv (i + 1), fun σ' H' p' => ⟨m - 1, by omega, by omega, p'⟩, fun v H' y => ?_⟩
    obtain ⟨t, x1, rfl, ht, rfl, f1⟩ := y
    exact hs i x1 t σ H (f1 xs q) p ht
  · have e : i = xs.length := by omega
    subst e
    exact .inl ⟨⟨xs, q, Nat.le_refl _⟩, hd σ H p⟩
/-! ### any labels of a goal -/
inductive Lb where
  | opt (n i : Int)
  | rep (n : Int) (rs : List Int)
def Lb.isRep : Lb → Bool | .opt _ _ => false | .rep _ _ => true
def Lb.num : Lb → Int | .opt n _ => n | .rep n _ => n
def Lb.rs : Lb → List Int | .opt _ _ => [] | .rep _ rs => rs
def hdS : Bool → Lb → Str
  | true, .opt _ _ => "holds"
  | true, .rep _ _ => "driven"
  | false, .opt _ _ => "comes"
  | false, .rep _ _ => "away"
def lbT (c : Addr) : Bool → Lb → List V
  | true, .opt _ i => [.str "holds", .int i]
  | true, .rep n _ => [.str "driven", .int n, .ref c]
  | false, .opt n i => [.str "comes", .int n, .int i]
  | false, .rep _ _ => [.str "away", .ref c]
def LbIn (st : Bool) (H : Hp) (L : Lb) (v : V) : Prop := ∃ t c, v = .ref t ∧ H t = some (.tup (lbT c st L)) ∧ (L.isRep = true → H c = some (.tup (L.rs.map V.int)))
theorem LbIn.tp {st : Bool} {H H' : Hp} {L : Lb} {v : V} (t : Tp H H') (h : LbIn st H L v) : LbIn st H' L v := by
  obtain ⟨a, c, h1, h2, h3⟩ := h
  exact ⟨a, c, h1, t _ _ h2, fun e => t _ _ (h3 e)⟩
theorem lbT_hd (c : Addr) (st : Bool) (L : Lb) : ∃ r, lbT c st L = .str (hdS st L) :: r := by
  cases st <;> cases L <;> exact ⟨_, rfl⟩
theorem lb_has (st : Bool) (L : Lb) : inV (.str (hdS st L)) [(.str "holds"), (.str "comes"), (.str "even"), (.str "keeps")] = !L.isRep := by
  cases st <;> cases L
  · exact (by decide : inV (.str "comes") [(.str "holds"), (.str "comes"), (.str "even"), (.str "keeps")] = true)
  · exact (by decide : inV (.str "away") [(.str "holds"), (.str "comes"), (.str "even"), (.str "keeps")] = false)
  · exact (by decide : inV (.str "holds") [(.str "holds"), (.str "comes"), (.str "even"), (.str "keeps")] = true)
  · exact (by decide : inV (.str "driven") [(.str "holds"), (.str "comes"), (.str "even"), (.str "keeps")] = false)
def getL (ls : List Lb) (p : Int) : Lb := (ls[p.toNat]?).getD (.opt 0 0)
/-- does a successor fit -/
def fitL (st : Bool) (ls : List Lb) (p q : Int) : Bool := if q = -1 then (getL ls p).isRep else if (getL ls p).isRep ≠ (getL ls q).isRep then false else if (getL ls p).isRep = st then decide ((getL ls q).num < (getL ls p).num) else true
structure FitL (C : Addr) (st : Bool) (H : Hp) (f : Addr) (A : Ar) (kp : Addr) (Kp : List Int) (ls : List Lb) : Prop where
  obj : ∃ dx v lb g xs, H f = some (.ins C dx (ffF v (.ref kp) (.ref lb) g)) ∧ ArIn H A v ∧ H lb = some (.tup xs) ∧ Each (LbIn st H) ls xs
  ke : H kp = some (.tup (Kp.map V.int))
  len : ls.length = A.length
theorem FitL.same {C f : Addr} {st : Bool} {H H' : Hp} {A : Ar} {kp : Addr} {Kp : List Int} {ls : List Lb} (s : Same H H') (h : FitL C st H f A kp Kp ls) : FitL C st H' f A kp Kp ls := by
  obtain ⟨⟨dx, v, lb, g, xs, h1, h2, h3, h4⟩, h5, h6⟩ := h
  exact ⟨⟨dx, v, lb, g, xs, s _ _ h1, h2.tp (Tp.same s), s _ _ h3, h4.mono fun o x => LbIn.tp (Tp.same s)⟩, s _ _ h5, h6⟩
theorem lb_at {st : Bool} {H : Hp} {ls : List Lb} {xs : List V} (h : Each (LbIn st H) ls xs) {p : Int} (h0 : 0 ≤ p) (h1 : p < ls.length) : ∃ t c, atI xs p = some (.ref t) ∧ H t = some (.tup (lbT c st (getL ls p))) ∧ ((getL ls p).isRep = true → H c = some (.tup ((getL ls p).rs.map V.int))) := by
  have hp : p.toNat < ls.length := by omega
  have hl := h.1
  have e1 := List.getElem?_eq_getElem hp
  obtain ⟨t, c, e2, e3, e4⟩ := h.2 _ _ _ e1 (List.getElem?_eq_getElem (show p.toNat < xs.length by omega))
  have hat : atI xs p = some (.ref t) := by
    have h2 := List.getElem?_eq_getElem (show p.toNat < xs.length by omega)
    rw [e2] at h2
    have := atI_nat h2
    rw [show ((p.toNat : Nat) : Int) = p by omega] at this
    exact this
  have eg : getL ls p = ls[p.toNat] := by
    unfold getL
    rw [e1]
    rfl
  exact ⟨t, c, hat, by rw [eg]; exact e3, by rw [eg]; exact e4⟩
section
variable {P : Program} {w : World} {K : PySem.W.Frag} {mg : Str → Option Value} {base : Heap}
def spFitL (C : Addr) (st : Bool) : Sp := fun vs H Q _ => ∃ (f : Addr) (A : Ar) (kp : Addr) (Kp : List Int) (ls : List Lb) (p i q : Int), vs = [.ref f, .int p, .int i, .int q] ∧ FitL C st H f A kp Kp ls ∧ 0 ≤ p ∧ p < A.length ∧ -1 ≤ q ∧ q < A.length ∧ ∀ H', Same H H' → Q (.bl (fitL st ls p q)) H'
theorem gx_Fitting_fits (T : Txt K mg) (st : Bool) : FnOk P w K mg base CX0 2 T.aFitting_fits T.dFitting_fits PFitting_fits (spFitL T.C_Fitting st) := by
  have Ghas_option := ok_has_option (P := P) (w := w) (base := base) T
  refine T.FFitting_fits.ok scFitting_fits (fun vs H Q E h => ?_) (fun cdv A outer s H vs Q E hr h => ?_)
  · obtain ⟨f, A, kp, Kp, ls, p, i, q, rfl, _⟩ := h
    rfl
  obtain ⟨f, A0, kp, Kp, ls, p, i, q, rfl, hF, p0, p1, q0, q1, qq⟩ := h
  obtain ⟨⟨dx, v, lb, g, xs, ef, hA, el, hxs⟩, _, hlen⟩ := id hF
  obtain ⟨t1, c1, hat1, et1, _⟩ := lb_at hxs p0 (by rw [hlen]; exact p1)
  obtain ⟨r1, er1⟩ := lbT_hd c1 st (getL ls p)
  refine ⟨_, (pss_cons (ps_set (i := 4) scFitting_fits.nd rfl (Or.inl rfl) (pe_ix ix_seq (pe_fld (pv 0) rfl) (pv 1) (fun _ _ => rfl)))
    (pss_cons (ps_if (pt_cmpR op_eq (pv 3) (pe_un un_neg pe_int) (nomark _))
    (pss_one (ps_ret (pe_not (pe_call Ghas_option (hr.mono (by omega)) (by rfl) T.mhas_option T.Fhas_option.kp T.bhas_option .nil pass0 (pa_cons (pv 4) pa_nil)))))
    pss_nil)
    (pss_cons (ps_set (i := 5) scFitting_fits.nd rfl (Or.inl rfl) (pe_ix ix_seq (pe_fld (pv 0) rfl) (pv 3) (fun _ _ => rfl)))
    (pss_cons (ps_if (pt_cmpR op_ne (pe_ix ix_tup (pv 4) pe_int (fun _ _ => rfl)) (pe_ix ix_tup (pv 5) pe_int (fun _ _ => rfl)) (nomark _))
    (pss_one (ps_ret pe_bl))
    pss_nil)
    (pss_cons (ps_if (pt_cmpR op_in_seq (pe_ix ix_tup (pv 4) pe_int (fun _ _ => rfl)) (pe_tup (pa_cons pe_str (pa_cons pe_str pa_nil))) (by rfl))
    (pss_one (ps_ret pe_bl))
    pss_nil)
    (pss_cons (ps_if (pt_cmpR op_in_seq (pe_ix ix_tup (pv 4) pe_int (fun _ _ => rfl)) (pe_tup (pa_cons pe_str (pa_cons pe_str pa_nil))) (by rfl))
    (pss_one (ps_ret (pe_cmpR op_lt (pe_ix ix_tup (pv 5) pe_int (fun _ _ => rfl)) (pe_ix ix_tup (pv 4) pe_int (fun _ _ => rfl)) (nomark _))))
    pss_nil)
    (pss_cons (ps_if (pt_cmpR op_in_seq (pe_ix ix_tup (pv 4) pe_int (fun _ _ => rfl)) (pe_tup (pa_cons pe_str (pa_cons pe_str pa_nil))) (by rfl))
    (pss_one (ps_ret pe_never))
    pss_nil)
    (pss_one (ps_ret (pe_cmpR op_le (pe_ix ix_tup (pv 5) pe_int (fun _ _ => rfl)) (pe_op op_add (pe_ix ix_tup (pv 4) pe_int (fun _ _ => rfl)) pe_never) (nomark _))))))))))), ?_⟩
  refine ⟨_, rfl, f, _, dx, _, _, rfl, ef, T.cl_Fitting, T.na_Fitting_labels, ff_labels, _, rfl, .inr (.inl ⟨lb, _, _, _, rfl, rfl, sqt el, hat1, ?_⟩)⟩
  refine ⟨_, rfl, _, rfl, rfl, _, rfl, ?_⟩
  by_cases hq1 : q = -1
  · refine ifT (decide_eq_true (by rw [hq1])) ?_
    refine ⟨_, rfl, t1, _, r1, rfl, by rw [et1, er1], _, rfl, ?_⟩
    refine boolE ?_ (qq H (Same.refl H))
    unfold fitL
    rw [if_pos hq1, lb_has, Bool.not_not]
  refine ifF (decide_eq_false (fun e => hq1 (V.int.inj e))) ?_
  obtain ⟨t2, c2, hat2, et2, _⟩ := lb_at hxs (p := q) (by omega) (by rw [hlen]; exact q1)
  refine ⟨_, rfl, f, _, dx, _, _, rfl, ef, T.cl_Fitting, T.na_Fitting_labels, ff_labels, _, rfl, .inr (.inl ⟨lb, _, _, _, rfl, rfl, sqt el, hat2, ?_⟩)⟩
  have hfit : fitL st ls p q = if (getL ls p).isRep ≠ (getL ls q).isRep then false else if (getL ls p).isRep = st then decide ((getL ls q).num < (getL ls p).num) else true := by
    unfold fitL
    rw [if_neg hq1]
  generalize getL ls p = L1 at *
  generalize getL ls q = L2' at *
  by_cases hk : L1.isRep = L2'.isRep
  · rw [if_neg (fun h => h hk)] at hfit
    by_cases hst : L1.isRep = st
    · -- the numbers are compared
      rw [if_pos hst] at hfit
      have hn : ∃ k1 k2 s1 s2 tl1 tl2, lbT c1 st L1 = .str k1 :: .int L1.num :: tl1 ∧ lbT c2 st L2' = .str k1 :: .int L2'.num :: tl2 ∧ inV (.str k1) [.str "holds", .str "away"] = false ∧ inV (.str k1) [.str "comes", .str "driven"] = true ∧ k2 = k1 ∧ s1 = s2 ∧ s2 = k1 := by
        subst hst
        cases L1 with
        | opt n i => cases L2' with
          | opt n' i' => exact ⟨"comes", _, _, _, _, _, rfl, rfl, by decide, by decide, rfl, rfl, rfl⟩
          | rep n' rs' => cases hk
        | rep n rs => cases L2' with
          | opt n' i' => cases hk
          | rep n' rs' => exact ⟨"driven", _, _, _, _, _, rfl, rfl, by decide, by decide, rfl, rfl, rfl⟩
      obtain ⟨k1, _, _, _, tl1, tl2, el1, el2, hi1, hi2, _, _, _⟩ := hn
      rw [el1] at et1
      rw [el2] at et2
      refine ⟨_, rfl, t1, _, _, _, rfl, rfl, sqt et1, atI0, _, rfl, t2, _, _, _, rfl, rfl, sqt et2, atI0, rfl, _, rfl, ?_⟩
      refine ifF (by rw [decide_eq_true rfl]; rfl) ?_
      refine ⟨_, rfl, t1, _, _, _, rfl, rfl, sqt et1, atI0, Nat.le_of_ble_eq_true rfl, fun tt htt => ?_⟩
      obtain ⟨H1, e1, s1, k1'⟩ := newH htt (.tup [V.str "holds", V.str "away"])
      rw [e1]
      refine ⟨tt, _, rfl, .inr (sqt k1'), rfl, by decide, _, rfl, ?_⟩
      refine ifF hi1 ?_
      refine ⟨_, rfl, t1, _, _, _, rfl, rfl, sqt (s1 _ _ et1), atI0, Nat.le_of_ble_eq_true rfl, fun tu htu => ?_⟩
      obtain ⟨H2, e2, s2, k2⟩ := newH htu (.tup [V.str "comes", V.str "driven"])
      rw [e2]
      have s12 := s1.trans s2
      refine ⟨tu, _, rfl, .inr (sqt k2), rfl, by decide, _, rfl, ?_⟩
      refine ifT hi2 ?_
      exact ⟨_, rfl, t2, _, _, _, rfl, rfl, sqt (s12 _ _ et2), atI1, _, rfl, t1, _, _, _, rfl, rfl, sqt (s12 _ _ et1), atI1, _, _, rfl, rfl, boolE hfit.symm (qq H2 s12)⟩
    · rw [if_neg hst] at hfit
      have hn : ∃ k1 tl1 tl2, lbT c1 st L1 = .str k1 :: tl1 ∧ lbT c2 st L2' = .str k1 :: tl2 ∧ inV (.str k1) [.str "holds", .str "away"] = true := by
        cases st <;> cases L1 <;> cases L2' <;> first | exact absurd rfl hst | exact (Bool.noConfusion hk) | exact ⟨"holds", _, _, rfl, rfl, by decide⟩ | exact ⟨"away", _, _, rfl, rfl, by decide⟩
      obtain ⟨k1, tl1, tl2, el1, el2, hi1⟩ := hn
      rw [el1] at et1
      rw [el2] at et2
      refine ⟨_, rfl, t1, _, _, _, rfl, rfl, sqt et1, atI0, _, rfl, t2, _, _, _, rfl, rfl, sqt et2, atI0, rfl, _, rfl, ?_⟩
      refine ifF (by rw [decide_eq_true rfl]; rfl) ?_
      refine ⟨_, rfl, t1, _, _, _, rfl, rfl, sqt et1, atI0, Nat.le_of_ble_eq_true rfl, fun tt htt => ?_⟩
      obtain ⟨H1, e1, s1, k1'⟩ := newH htt (.tup [V.str "holds", V.str "away"])
      rw [e1]
      refine ⟨tt, _, rfl, .inr (sqt k1'), rfl, by decide, _, rfl, ?_⟩
      exact ifT hi1 (boolE hfit.symm (qq H1 s1))
  · rw [if_pos hk] at hfit
    have hn : ∃ k1 k2 tl1 tl2, lbT c1 st L1 = .str k1 :: tl1 ∧ lbT c2 st L2' = .str k2 :: tl2 ∧ decide (V.str k1 = V.str k2) = false := by
      cases st <;> cases L1 <;> cases L2' <;> first | exact absurd rfl hk | exact ⟨_, _, _, _, rfl, rfl, by decide⟩
    obtain ⟨k1, k2, tl1, tl2, el1, el2, hd⟩ := hn
    rw [el1] at et1
    rw [el2] at et2
    refine ⟨_, rfl, t1, _, _, _, rfl, rfl, sqt et1, atI0, _, rfl, t2, _, _, _, rfl, rfl, sqt et2, atI0, rfl, _, rfl, ?_⟩
    exact ifT (by rw [hd]; rfl) (boolE hfit.symm (qq H (Same.refl H)))
end
end NL

set_option maxHeartbeats 4000000
namespace NL
open PySem PySem.Spec PyProof.Rows L2
theorem ints_layJ : ∀ l : List Int, PyData.canLayAll0 (l.map PyData.int) = true ∧ PyData.depthAll (l.map PyData.int) = 0
  | [] => ⟨rfl, rfl⟩
  | a :: l => by
    obtain ⟨h1, h2⟩ := ints_layJ l
    refine ⟨?_, ?_⟩
    · show (true && PyData.canLayAll0 (l.map PyData.int)) = true
      rw [h1]
      rfl
    · show max 0 (PyData.depthAll (l.map PyData.int)) = 0
      rw [h2]
      rfl
theorem two_intsJ {K : PySem.W.Frag} {H : Hp} : ∀ l : List Int, DpAll K H (l.map V.int) (l.map PyData.int)
  | [] => .nil
  | _ :: l => .cons (.int _) (two_intsJ l)
theorem drv_shaped (n : Int) (rs : List Int) : SeqAt.shaped (.tuple [.str "driven", .int n, .tuple (rs.map PyData.int)]) = true := by
  obtain ⟨h1, h2⟩ := ints_layJ rs
  have hs : PyData.strOk "driven" = true := by decide +kernel
  have e1 : PyData.canLay0 (.tuple [.str "driven", .int n, .tuple (rs.map PyData.int)]) = true := by simp [PyData.canLay0, PyData.canLayAll0, hs, h1]
  have e2 : PyData.depth (.tuple [.str "driven", .int n, .tuple (rs.map PyData.int)]) ≤ 64 := by simp [PyData.depth, PyData.depthAll, h2]
  show (PyData.canLay0 _ && decide (PyData.depth _ ≤ 64)) = true
  rw [e1, decide_eq_true e2]
  rfl
theorem com_shaped (n i : Int) : SeqAt.shaped (.tuple [.str "comes", .int n, .int i]) = true := by
  have hs : PyData.strOk "comes" = true := by decide +kernel
  have e1 : PyData.canLay0 (.tuple [.str "comes", .int n, .int i]) = true := by simp [PyData.canLay0, PyData.canLayAll0, hs]
  have e2 : PyData.depth (.tuple [.str "comes", .int n, .int i]) ≤ 64 := by simp [PyData.depth, PyData.depthAll]
  show (PyData.canLay0 _ && decide (PyData.depth _ ≤ 64)) = true
  rw [e1, decide_eq_true e2]
  rfl
def endB : Lb → Bool | .opt n i => decide (n = 0) && decide (i = -1) | .rep n rs => decide (n = 0) && decide (rs = [])
theorem drv_eqv (n : Int) (rs : List Int) : PyData.eqv (.tuple [.str "driven", .int n, .tuple (rs.map PyData.int)]) (.tuple [.str "driven", .int 0, .tuple []]) = endB (.rep n rs) := by
  show (("driven" : Str) == "driven" && ((n == 0) && (PyData.eqvAll (rs.map PyData.int) [] && true))) = _
  have h1 : (("driven" : Str) == "driven") = true := beq_self_eq_true _
  rw [h1]
  cases rs with
  | nil =>
    show (true && ((n == 0) && (true && true))) = (decide (n = 0) && decide (([] : List Int) = []))
    by_cases h : n = 0
    · subst h; rfl
    · rw [decide_eq_false h, show (n == 0) = false from beq_eq_false_iff_ne.mpr h]
      rfl
  | cons r rs =>
    show (true && ((n == 0) && (false && true))) = (decide (n = 0) && decide (r :: rs = []))
    rw [decide_eq_false (List.cons_ne_nil r rs)]
    cases (n == 0) <;> cases decide (n = 0) <;> rfl
theorem com_eqv (n i : Int) : PyData.eqv (.tuple [.str "comes", .int n, .int i]) (.tuple [.str "comes", .int 0, .int (-1)]) = endB (.opt n i) := by
  show (("comes" : Str) == "comes" && ((n == 0) && ((i == -1) && true))) = _
  have h1 : (("comes" : Str) == "comes") = true := beq_self_eq_true _
  rw [h1, Bool.true_and, Bool.and_true]
  rfl
def repB (st : Bool) (ls : List Lb) (p : Int) (rs : List Int) (os : Pos') : Bool := decide (rs.length = os.length) && (rs.zip os).all fun x => decide (x.1 ∈ x.2) && fitL st ls p x.1
def coreB (st : Bool) (os : Pos') (ls : List Lb) (p : Int) : Bool := match getL ls p with
  | .opt _ i => decide (0 ≤ i) && (decide (i < os.length) && ((os[i.toNat]?).getD []).all (fitL st ls p))
  | .rep _ rs => repB st ls p rs os
def numB (st : Bool) (L : Lb) : Bool := if L.isRep = st then decide (1 ≤ L.num) else true
def rightL (st : Bool) (A : Ar) (Kp : List Int) (ls : List Lb) (p : Int) : Bool := if (getL ls p).isRep = st then (if decide (p ∈ Kp) = st then numB st (getL ls p) && coreB st ((A[p.toNat]?).getD []) ls p else endB (getL ls p)) else decide (decide (p ∈ Kp) = st) && coreB st ((A[p.toNat]?).getD []) ls p
section
variable {P : Program} {w : World} {K : PySem.W.Frag} {mg : Str → Option Value} {base : Heap}
def spAllFitL (C : Addr) (st : Bool) : Sp := fun vs H Q _ => ∃ (f : Addr) (A : Ar) (kp : Addr) (Kp : List Int) (ls : List Lb) (p i : Nat) (os : Pos') (o : Opt), vs = [.ref f, .int p, .int i] ∧ FitL C st H f A kp Kp ls ∧ ArG A ∧ A[p]? = some os ∧ os[i]? = some o ∧ ∀ H', Same H H' → Q (.bl (o.all (fitL st ls p))) H'
theorem gx_Fitting_all_fit (T : Txt K mg) (st : Bool) : FnOk P w K mg base CX0 3 T.aFitting_all_fit T.dFitting_all_fit PFitting_all_fit (spAllFitL T.C_Fitting st) := by
  have GFitting_fits := gx_Fitting_fits (P := P) (w := w) (base := base) T st
  refine T.FFitting_all_fit.ok scFitting_all_fit (fun vs H Q E h => ?_) (fun cdv A outer s H vs Q E hr h => ?_)
  · obtain ⟨f, A, kp, Kp, ls, p, i, os, o, rfl, _⟩ := h
    rfl
  obtain ⟨f, A0, kp, Kp, ls, p, i, os, o, rfl, hF, hG, hos, ho, qq⟩ := h
  have hpl := (List.getElem?_eq_some_iff.mp hos).1
  obtain ⟨⟨dx, v, lb, g, ts, ef, ⟨b0, xs, rfl, e0, hxs⟩, _⟩, _⟩ := id hF
  obtain ⟨x, hx, b1, ys, rfl, e1, hys⟩ := hxs.at hos
  obtain ⟨y, hy, bo, rfl, eo⟩ := hys.at ho
  have hoG := (hG.2 os (List.mem_of_getElem? hos)).2 o (List.mem_of_getElem? ho)
  refine ⟨_, (pss_cons (ps_for  PassesOwn.never rfl (pi_tup (pe_ix ix_tup (pe_ix ix_tup (pe_fld (pv 0) rfl) (pv 1) (fun _ _ => rfl)) (pv 2) (fun _ _ => rfl))) (pg_name (i := 3) scFitting_all_fit.nd rfl (Or.inl rfl))
    (pss_one (ps_if (pt_not (pt_val (pe_meth (pv 0) T.cl_Fitting T.mFitting_fits GFitting_fits (hr.mono (by omega)) T.bFitting_fits .nil pass0 (pa_cons (pv 1) (pa_cons (pv 2) (pa_cons (pv 3) pa_nil))))))
    (pss_one (ps_ret pe_bl))
    pss_nil)))
    (pss_one (ps_ret pe_bl))), ?_⟩
  refine ⟨_, rfl, f, _, dx, _, _, rfl, ef, T.cl_Fitting, T.na_Fitting_arena, ff_arena, _, rfl, b0, _, _, _, rfl, rfl, sqt e0, atI_nat hx, _, rfl, b1, _, _, _, rfl, rfl, sqt e1, atI_nat hy, bo, rfl, ⟨_, sqt eo⟩, ?_⟩
  refine for_tup (K := K) (a := bo) (xs := o.map V.int) (fun (j : Nat) (σ : L2.St) (H' : Hp) => ∃ y3 : Option V, σ = [some (.ref f), some (.int p), some (.int i), y3] ∧ Same H H' ∧ (o.take j).all (fitL st ls p) = true) ?_ ?_ ?_ ?_
  · exact ⟨_, rfl, Same.refl _, rfl⟩
  · rintro j σ H' _ ⟨y3, rfl, s1, _⟩
    exact sqt (s1 _ _ eo)
  · rintro j x σ H1 hx ⟨y3, rfl, s1, hall⟩
    rw [List.getElem?_map] at hx
    obtain ⟨c, hc, rfl⟩ := Option.map_eq_some_iff.mp hx
    have hcm := hoG.mem c (List.mem_of_getElem? hc)
    refine ⟨_, rfl, f, dx, _, rfl, s1 _ _ ef, ff_fits, _, rfl, _, rfl, _, rfl, f, A0, kp, Kp, ls, p, i, c, rfl, hF.same s1, by omega, by omega, hcm.1, hcm.2, fun H2 s2 => ⟨_, rfl, ?_⟩⟩
    cases hfit : fitL st ls p c with
    | true =>
      refine ifF rfl ⟨_, rfl, s1.trans s2, ?_⟩
      rw [List.take_add_one, hc, List.all_append, hall]
      show (true && (fitL st ls p c && true)) = true
      rw [hfit]
      rfl
    | false =>
      refine ifT rfl (boolE ?_ (qq H2 (s1.trans s2)))
      exact (List.all_eq_false.mpr ⟨c, List.mem_of_getElem? hc, by rw [hfit]; exact Bool.false_ne_true⟩).symm
  · rintro σ H1 ⟨y3, rfl, s1, hall⟩
    rw [List.length_map, List.take_length] at hall
    exact boolE hall.symm (qq H1 s1)
/-! ### _numbers_are_right -/
def spNumJ (st : Bool) : Sp := fun vs H Q _ => ∃ (f t c : Addr) (L : Lb), vs = [.ref f, .ref t] ∧ H t = some (.tup (lbT c st L)) ∧ ∀ H', Same H H' → Q (.bl (numB st L)) H'
theorem ok_numbers_are_right (T : Txt K mg) (st : Bool) : FnOk P w K mg base CX0 1 T.a_numbers_are_right T.d_numbers_are_right P_numbers_are_right (spNumJ st) := by
  have Gentries_from : FnOk P w K mg base CX0 0 T.aentries_from T.dentries_from Pentries_from (fun _ _ _ _ => False) := ⟨fun _ _ _ _ h => h.elim, fun A outer s H args us vs Q E _ _ _ _ h => h.elim⟩
  refine T.F_numbers_are_right.ok sc_numbers_are_right (fun vs H Q E h => ?_) (fun cdv A outer s H vs Q E hr h => ?_)
  · obtain ⟨f, t, c, L, rfl, _⟩ := h
    rfl
  obtain ⟨f, t, c, L, rfl, et, qq⟩ := h
  refine ⟨_, (pss_cons (ps_set (i := 2) sc_numbers_are_right.nd rfl (Or.inl rfl) (pe_ix ix_tup (pv 1) pe_int (fun _ _ => rfl)))
    (pss_cons (ps_if (pt_cmpR op_in_seq (pv 2) (pe_tup (pa_cons pe_str (pa_cons pe_str pa_nil))) (by rfl))
    (pss_one (ps_ret (pe_cmpR op_ge (pe_ix ix_tup (pv 1) pe_int (fun _ _ => rfl)) pe_int (nomark _))))
    pss_nil)
    (pss_cons (ps_if (pt_cmpR op_in_seq (pv 2) (pe_tup (pa_cons pe_str (pa_cons pe_str pa_nil))) (by rfl))
    (pss_one (ps_ret (pe_cmpR op_ge (pe_ix ix_tup (pv 1) pe_int (fun _ _ => rfl)) pe_int (nomark _))))
    pss_nil)
    (pss_cons (ps_if (pt_cmpR op_in_seq (pv 2) (pe_tup (pa_cons pe_str (pa_cons pe_str pa_nil))) (by rfl))
    (pss_cons (ps_set (i := 3) sc_numbers_are_right.nd rfl (Or.inl rfl) (pe_ifExp (pt_cmpR op_eq (pv 2) pe_str (nomark _)) (pe_glob rfl T.g_CONTROLLER T.r_CONTROLLER) (pe_glob rfl T.g_DISTURBANCE T.r_DISTURBANCE)))
    (pss_one (ps_ret (pe_and (pe_cmpR op_eq (pe_callB call_len_seq (by rfl) T.z_len PySem.boot_len (pa_cons (pe_ix ix_tup (pv 1) pe_int (fun _ _ => rfl)) pa_nil)) (pe_call Gentries_from (hr.mono (by omega)) (by rfl) T.mentries_from T.Fentries_from.kp T.bentries_from .nil pass0 (pa_cons pe_int (pa_cons (pe_fld (pv 0) rfl) (pa_cons (pv 3) pa_nil)))) (nomark _)) (pe_one (pe_cmpR op_ge pe_never pe_int (nomark _)))))))
    pss_nil)
    (pss_one (ps_ret pe_bl)))))), ?_⟩
  by_cases hk : L.isRep = st
  · have hn : ∃ k tl, lbT c st L = .str k :: .int L.num :: tl ∧ inV (.str k) [.str "comes", .str "driven"] = true := by
      subst hk
      cases L with
      | opt n i => exact ⟨"comes", _, rfl, by decide⟩
      | rep n rs => exact ⟨"driven", _, rfl, by decide⟩
    obtain ⟨k, tl, el, hi⟩ := hn
    rw [el] at et
    refine ⟨_, rfl, t, _, _, _, rfl, rfl, sqt et, atI0, ?_⟩
    refine ⟨_, rfl, Nat.le_of_ble_eq_true rfl, fun tu htu => ?_⟩
    obtain ⟨H1, e1, s1, k1⟩ := newH htu (.tup [V.str "comes", V.str "driven"])
    rw [e1]
    refine ⟨tu, _, rfl, .inr (sqt k1), rfl, by decide, _, rfl, ?_⟩
    refine ifT hi ?_
    refine ⟨_, rfl, t, _, _, _, rfl, rfl, sqt (s1 _ _ et), atI1, _, _, rfl, rfl, boolE ?_ (qq H1 s1)⟩
    unfold numB
    rw [if_pos hk]
  · have hn : ∃ k tl, lbT c st L = .str k :: tl ∧ inV (.str k) [.str "comes", .str "driven"] = false ∧ inV (.str k) [.str "keeps", .str "drained"] = false ∧ inV (.str k) [.str "even", .str "odd"] = false := by
      cases st <;> cases L <;> first | exact absurd rfl hk | exact ⟨"holds", _, rfl, by decide, by decide, by decide⟩ | exact ⟨"away", _, rfl, by decide, by decide, by decide⟩
    obtain ⟨k, tl, el, h1, h2, h3⟩ := hn
    rw [el] at et
    refine ⟨_, rfl, t, _, _, _, rfl, rfl, sqt et, atI0, ?_⟩
    refine ⟨_, rfl, Nat.le_of_ble_eq_true rfl, fun t1 ht1 => ?_⟩
    obtain ⟨H1, e1, s1, k1⟩ := newH ht1 (.tup [V.str "comes", V.str "driven"])
    rw [e1]
    refine ⟨t1, _, rfl, .inr (sqt k1), rfl, by decide, _, rfl, ?_⟩
    refine ifF h1 ?_
    refine ⟨_, rfl, Nat.le_of_ble_eq_true rfl, fun t2 ht2 => ?_⟩
    obtain ⟨H2, e2, s2, k2⟩ := newH ht2 (.tup [V.str "keeps", V.str "drained"])
    rw [e2]
    refine ⟨t2, _, rfl, .inr (sqt k2), rfl, by decide, _, rfl, ?_⟩
    refine ifF h2 ?_
    refine ⟨_, rfl, Nat.le_of_ble_eq_true rfl, fun t3 ht3 => ?_⟩
    obtain ⟨H3, e3, s3, k3⟩ := newH ht3 (.tup [V.str "even", V.str "odd"])
    rw [e3]
    refine ⟨t3, _, rfl, .inr (sqt k3), rfl, by decide, _, rfl, ?_⟩
    refine ifF h3 (boolE ?_ (qq H3 ((s1.trans s2).trans s3)))
    unfold numB
    rw [if_neg hk]
/-! ### _replies_are_right -/
def spReps (C : Addr) (st : Bool) : Sp := fun vs H Q _ => ∃ (f : Addr) (A : Ar) (kp : Addr) (Kp : List Int) (ls : List Lb) (p : Nat) (c : Addr) (rs : List Int) (os : Pos'), vs = [.ref f, .int p, .ref c] ∧ FitL C st H f A kp Kp ls ∧ ArG A ∧ A[p]? = some os ∧ H c = some (.tup (rs.map V.int)) ∧ ∀ H', Same H H' → Q (.bl (repB st ls p rs os)) H'
theorem ok_replies_are_right (T : Txt K mg) (st : Bool) : FnOk P w K mg base CX0 3 T.a_replies_are_right T.d_replies_are_right P_replies_are_right (spReps T.C_Fitting st) := by
  have GFitting_fits := gx_Fitting_fits (P := P) (w := w) (base := base) T st
  refine T.F_replies_are_right.ok sc_replies_are_right (fun vs H Q E h => ?_) (fun cdv A outer s H vs Q E hr h => ?_)
  · obtain ⟨f, A, kp, Kp, ls, p, c, rs, os, rfl, _⟩ := h
    rfl
  obtain ⟨f, A0, kp, Kp, ls, p, c, rs, os, rfl, hF, hG, hos, ec, qq⟩ := h
  have hpl := (List.getElem?_eq_some_iff.mp hos).1
  obtain ⟨⟨dx, v, lb, g, ts, ef, ⟨b0, xs, rfl, e0, hxs⟩, _⟩, _⟩ := id hF
  obtain ⟨x, hx, b1, ys, rfl, e1, hys⟩ := hxs.at hos
  have hyl := hys.1
  have hosG := hG.2 os (List.mem_of_getElem? hos)
  refine ⟨_, (pss_cons (ps_set (i := 3) sc_replies_are_right.nd rfl (Or.inl rfl) (pe_ix ix_tup (pe_fld (pv 0) rfl) (pv 1) (fun _ _ => rfl)))
    (pss_cons (ps_if (pt_cmpR op_ne (pe_callB call_len_seq (by rfl) T.z_len PySem.boot_len (pa_cons (pv 2) pa_nil)) (pe_callB call_len_seq (by rfl) T.z_len PySem.boot_len (pa_cons (pv 3) pa_nil)) (nomark _))
    (pss_one (ps_ret pe_bl))
    pss_nil)
    (pss_cons (ps_for  PassesOwn.never rfl (pi_enumT (by rfl) T.z_enumerate (pa_cons (pv 2) pa_nil)) (pg_tup rfl (pgs_cons (pg_name (i := 4) sc_replies_are_right.nd rfl (Or.inl rfl)) (pgs_cons (pg_name (i := 5) sc_replies_are_right.nd rfl (Or.inl rfl)) pgs_nil)))
    (pss_one (ps_if (PW.pt (pw_or (pt_cmpR op_notIn_seq (pv 5) (pe_ix ix_tup (pv 3) (pv 4) (fun _ _ => rfl)) (by rfl)) (pw_or1 (pt_not (pt_val (pe_meth (pv 0) T.cl_Fitting T.mFitting_fits GFitting_fits (hr.mono (by omega)) T.bFitting_fits .nil pass0 (pa_cons (pv 1) (pa_cons (pv 4) (pa_cons (pv 5) pa_nil)))))))))
    (pss_one (ps_ret pe_bl))
    pss_nil)))
    (pss_one (ps_ret pe_bl))))), ?_⟩
  refine ⟨_, rfl, f, _, dx, _, _, rfl, ef, T.cl_Fitting, T.na_Fitting_arena, ff_arena, _, rfl, b0, _, _, _, rfl, rfl, sqt e0, atI_nat hx, ?_⟩
  refine ⟨_, rfl, c, _, rfl, .inr (sqt ec), _, rfl, b1, _, rfl, .inr (sqt e1), rfl, _, rfl, ?_⟩
  by_cases hlen : rs.length = os.length
  rotate_left
  · refine ifT (by rw [List.length_map, decide_eq_false (fun e => hlen (by have := V.int.inj e; omega))]; rfl) (boolE ?_ (qq H (Same.refl H)))
    unfold repB
    rw [decide_eq_false hlen]
    rfl
  refine ifF (by rw [List.length_map, decide_eq_true (by congr 1; omega)]; rfl) ?_
  refine ⟨_, rfl, c, _, rfl, sqt ec, ?_⟩
  refine for_enumT (K := K) (a := c) (xs := rs.map V.int) (fun (j : Nat) (σ : L2.St) (H' : Hp) => ∃ y4 y5 : Option V, σ = [some (.ref f), some (.int p), some (.ref c), some (.ref b1), y4, y5] ∧ Same H H' ∧ ((rs.zip os).take j).all (fun x => decide (x.1 ∈ x.2) && fitL st ls p x.1) = true) ?_ ?_ ?_ ?_
  · exact ⟨_, _, rfl, Same.refl _, rfl⟩
  · rintro j σ H' ⟨y4, y5, rfl, s1, _⟩
    exact sqt (s1 _ _ ec)
  · rintro j x t σ H1 hx1 ⟨y4, y5, rfl, s1, hall⟩ ht
    rw [List.getElem?_map] at hx1
    obtain ⟨r, hr1, rfl⟩ := Option.map_eq_some_iff.mp hx1
    have hj := (List.getElem?_eq_some_iff.mp hr1).1
    obtain ⟨o, ho⟩ : ∃ o, os[j]? = some o := ⟨_, List.getElem?_eq_getElem (by omega)⟩
    obtain ⟨y, hy, bo, rfl, eo⟩ := hys.at ho
    have hoG := hosG.2 o (List.mem_of_getElem? ho)
    have hz : (rs.zip os)[j]? = some (r, o) := by
      rw [List.getElem?_zip_eq_some]
      exact ⟨hr1, ho⟩
    obtain ⟨H2, e2, st1, kt⟩ := newH ht (.tup [.int (j : Nat), V.int r])
    rw [e2]
    have s2 := s1.trans st1
    have hbad : ¬ (r ∈ o ∧ fitL st ls p r = true) → repB st ls p rs os = false := fun hb => by
      unfold repB
      rw [decide_eq_true hlen, Bool.true_and]
      refine List.all_eq_false.mpr ⟨(r, o), List.mem_of_getElem? hz, fun e => hb ?_⟩
      rw [Bool.and_eq_true, decide_eq_true_eq] at e
      exact e
    refine ⟨t, _, rfl, sqt kt, rfl, _, _, rfl, _, _, rfl, rfl, ?_⟩
    refine ⟨_, rfl, _, rfl, _, rfl, b1, _, _, _, rfl, rfl, sqt (s2 _ _ e1), atI_nat hy, bo, _, rfl, .inr (sqt (s2 _ _ eo)), rfl, flat_ints' o, _, rfl, ?_⟩
    by_cases hro : r ∈ o
    rotate_left
    · rw [notIn_int, decide_eq_false hro]
      refine iteT (boolE (hbad (fun h => hro h.1)).symm (qq H2 s2))
    rw [notIn_int, decide_eq_true hro]
    refine iteF ?_
    have hcm := hoG.mem r hro
    refine ⟨_, rfl, f, dx, _, rfl, s2 _ _ ef, ff_fits, _, rfl, _, rfl, _, rfl, f, A0, kp, Kp, ls, p, _, r, rfl, hF.same s2, by omega, by omega, hcm.1, hcm.2, fun H3 s3 => ⟨_, rfl, ?_⟩⟩
    cases hfit : fitL st ls p r with
    | false =>
      refine ifT rfl (boolE (hbad (fun h => by rw [hfit] at h; cases h.2)).symm (qq H3 (s2.trans s3)))
    | true =>
      refine ifF rfl ⟨_, _, rfl, s2.trans s3, ?_⟩
      rw [List.take_add_one, hz, List.all_append, hall]
      show (true && ((decide (r ∈ o) && fitL st ls p r) && true)) = true
      rw [hfit, decide_eq_true hro]
      rfl
  · rintro σ H1 ⟨y4, y5, rfl, s1, hall⟩
    rw [List.length_map] at hall
    refine boolE ?_ (qq H1 s1)
    unfold repB
    rw [decide_eq_true hlen, Bool.true_and]
    rw [List.take_of_length_le (by rw [List.length_zip]; omega)] at hall
    exact hall.symm
end
end NL

set_option maxHeartbeats 4000000
namespace NL
open PySem PySem.Spec PyProof.Rows L2
theorem in_intJ {x : Int} {l : List Int} : (if false = true then !inV (V.int x) (l.map V.int) else inV (V.int x) (l.map V.int)) = decide (x ∈ l) := by
  have h := notIn_int (x := x) (l := l)
  rw [if_pos rfl] at h
  rw [if_neg Bool.false_ne_true]
  cases hb : inV (V.int x) (l.map V.int) <;> rw [hb] at h <;> cases hd : decide (x ∈ l) <;> rw [hd] at h <;> first | rfl | cases h
theorem core_opt {st : Bool} {os : Pos'} {ls : List Lb} {p n i : Int} (e : getL ls p = .opt n i) : coreB st os ls p = (decide (0 ≤ i) && (decide (i < os.length) && ((os[i.toNat]?).getD []).all (fitL st ls p))) := by
  unfold coreB
  rw [e]
theorem core_rep {st : Bool} {os : Pos'} {ls : List Lb} {p n : Int} {rs : List Int} (e : getL ls p = .rep n rs) : coreB st os ls p = repB st ls p rs os := by
  unfold coreB
  rw [e]
theorem ff_told {a t l g : V} : (ffF a t l g).lookup ("told" : Str) = some t := rfl
section
variable {P : Program} {w : World} {K : PySem.W.Frag} {mg : Str → Option Value} {base : Heap}
def spRgtJ (C : Addr) (st : Bool) : Sp := fun vs H Q _ => ∃ (f : Addr) (A : Ar) (kp : Addr) (Kp : List Int) (ls : List Lb) (p : Nat) (os : Pos'), vs = [.ref f, .int p] ∧ FitL C st H f A kp Kp ls ∧ ArG A ∧ A[p]? = some os ∧ ∀ H', Same H H' → Q (.bl (rightL st A Kp ls p)) H'
theorem ok_is_right (T : Txt K mg) (st : Bool) : FnOk P w K mg base CX0 4 T.a_is_right T.d_is_right P_is_right (spRgtJ T.C_Fitting st) := by
  have G_numbers_are_right := ok_numbers_are_right (P := P) (w := w) (base := base) T st
  have G_replies_are_right := ok_replies_are_right (P := P) (w := w) (base := base) T st
  have Ghas_option := ok_has_option (P := P) (w := w) (base := base) T
  have GFitting_all_fit := gx_Fitting_all_fit (P := P) (w := w) (base := base) T st
  refine T.F_is_right.ok sc_is_right (fun vs H Q E h => ?_) (fun cdv A outer s H vs Q E hr h => ?_)
  · obtain ⟨f, A, kp, Kp, ls, p, os, rfl, _⟩ := h
    rfl
  obtain ⟨f, A0, kp, Kp, ls, p, os, rfl, hF, hG, hos, qq⟩ := h
  have hpl := (List.getElem?_eq_some_iff.mp hos).1
  obtain ⟨⟨dx, v, lb, g, ts, ef, hA, el, hts⟩, ek, hlen⟩ := id hF
  obtain ⟨b0, xs, rfl, e0, hxs⟩ := id hA
  obtain ⟨t1, c1, hat1, et1, ec1⟩ := lb_at hts (p := (p : Int)) (by omega) (by omega)
  obtain ⟨x, hx, b1, ys, rfl, eb1, hys⟩ := hxs.at hos
  have hyl := hys.1
  have hosG := hG.2 os (List.mem_of_getElem? hos)
  have hd : (A0[((p : Nat) : Int).toNat]?).getD [] = os := by rw [Int.toNat_natCast, hos]; rfl
  have hright : rightL st A0 Kp ls p = if (getL ls p).isRep = st then (if decide ((p : Int) ∈ Kp) = st then numB st (getL ls p) && coreB st os ls p else endB (getL ls p)) else decide (decide ((p : Int) ∈ Kp) = st) && coreB st os ls p := by
    unfold rightL
    rw [hd]
  have fin : ∀ b, rightL st A0 Kp ls p = b → ∀ H', Same H H' → Q (.bl b) H' := fun b e H' s' => by rw [← e]; exact qq H' s'
  refine ⟨_, (pss_cons (ps_set (i := 2) sc_is_right.nd rfl (Or.inl rfl) (pe_ix ix_seq (pe_fld (pv 0) rfl) (pv 1) (fun _ _ => rfl)))
    (pss_cons (ps_set (i := 3) sc_is_right.nd rfl (Or.inl rfl) (pe_ix ix_tup (pv 2) pe_int (fun _ _ => rfl)))
    (pss_cons (ps_if (PW.pt (pw_and (pt_cmpR op_eq (pv 3) pe_str (nomark _)) (pw_and1 (pt_cmpR op_in_seq (pv 1) (pe_fld (pv 0) rfl) (by rfl)))))
    (pss_one (ps_ret (pe_cmpR (op_eqD hr.units) (pv 2) (pe_tup (pa_cons pe_str (pa_cons pe_int (pa_cons (pe_un un_neg pe_int) pa_nil)))) (nomark _))))
    pss_nil)
    (pss_cons (ps_if (PW.pt (pw_and (pt_cmpR op_eq (pv 3) pe_str (nomark _)) (pw_and1 (pt_cmpR op_notIn_seq (pv 1) (pe_fld (pv 0) rfl) (by rfl)))))
    (pss_one (ps_ret (pe_cmpR (op_eqD hr.units) (pv 2) (pe_tup (pa_cons pe_str (pa_cons pe_int (pa_cons (pe_tup pa_nil) pa_nil)))) (nomark _))))
    pss_nil)
    (pss_cons (ps_if (PW.pt (pw_and (pt_cmpR op_eq (pv 3) pe_str (nomark _)) (pw_and1 (pt_cmpR op_notIn_seq (pv 1) (pe_fld (pv 0) rfl) (by rfl)))))
    (pss_one (ps_ret pe_bl))
    pss_nil)
    (pss_cons (ps_if (PW.pt (pw_and (pt_cmpR op_eq (pv 3) pe_str (nomark _)) (pw_and1 (pt_cmpR op_in_seq (pv 1) (pe_fld (pv 0) rfl) (by rfl)))))
    (pss_one (ps_ret pe_bl))
    pss_nil)
    (pss_cons (ps_if (pt_not (pt_val (pe_call G_numbers_are_right (hr.mono (by omega)) (by rfl) T.m_numbers_are_right T.F_numbers_are_right.kp T.b_numbers_are_right .nil pass0 (pa_cons (pv 0) (pa_cons (pv 2) pa_nil)))))
    (pss_one (ps_ret pe_bl))
    pss_nil)
    (pss_cons (ps_if (pt_val (pe_call Ghas_option (hr.mono (by omega)) (by rfl) T.mhas_option T.Fhas_option.kp T.bhas_option .nil pass0 (pa_cons (pv 2) pa_nil)))
    (pss_one (ps_ret (pe_and (pe_chain op_le op_lt pe_int (pe_ix ix_tup (pv 2) (pe_un un_neg pe_int) (fun _ _ => rfl)) (pe_callB call_len_seq (by rfl) T.z_len PySem.boot_len (pa_cons (pe_ix ix_tup (pe_fld (pv 0) rfl) (pv 1) (fun _ _ => rfl)) pa_nil))) (pe_one (pe_meth (pv 0) T.cl_Fitting T.mFitting_all_fit GFitting_all_fit (hr.mono (by omega)) T.bFitting_all_fit .nil pass0 (pa_cons (pv 1) (pa_cons (pe_ix ix_tup (pv 2) (pe_un un_neg pe_int) (fun _ _ => rfl)) pa_nil)))))))
    pss_nil)
    (pss_one (ps_ret (pe_call G_replies_are_right (hr.mono (by omega)) (by rfl) T.m_replies_are_right T.F_replies_are_right.kp T.b_replies_are_right .nil pass0 (pa_cons (pv 0) (pa_cons (pv 1) (pa_cons (pe_ix ix_tup (pv 2) (pe_un un_neg pe_int) (fun _ _ => rfl)) pa_nil)))))))))))))), ?_⟩
  refine ⟨_, rfl, f, _, dx, _, _, rfl, ef, T.cl_Fitting, T.na_Fitting_labels, ff_labels, _, rfl, .inr (.inl ⟨lb, _, _, _, rfl, rfl, sqt el, hat1, ?_⟩)⟩
  cases hL : getL ls p with
  | opt n i =>
    rw [hL] at et1 hright
    have core := core_opt (st := st) (os := os) hL
    -- what comes behind the first tests
    cases st with
    | true =>
      have et1' : H t1 = some (.tup [.str "holds", .int i]) := et1
      rw [if_neg (show ¬ (Lb.opt n i).isRep = true from Bool.false_ne_true)] at hright
      refine ⟨_, rfl, t1, _, _, _, rfl, rfl, sqt et1', atI0, ?_⟩
      refine ⟨_, rfl, rfl, _, rfl, ?_⟩
      refine ifF (by decide) (iteF ?_)
      refine ⟨_, rfl, rfl, _, rfl, ?_⟩
      refine ifF (by decide) (iteF ?_)
      refine ⟨_, rfl, rfl, _, rfl, ?_⟩
      refine ifT (by decide) ?_
      refine ⟨_, rfl, _, rfl, f, _, dx, _, _, rfl, ef, T.cl_Fitting, T.na_Fitting_told, ff_told, kp, _, rfl, .inr (sqt ek), rfl, flat_ints' Kp, _, rfl, ?_⟩
      rw [notIn_int]
      by_cases hp : (p : Int) ∈ Kp
      rotate_left
      · rw [decide_eq_false hp]
        rw [decide_eq_false hp] at hright
        exact iteT (fin _ hright H (Same.refl H))
      rw [decide_eq_true hp] at hright ⊢
      refine iteF ?_
      refine ⟨_, rfl, rfl, _, rfl, ?_⟩
      refine ifF (by decide) (iteF ?_)
      refine ⟨_, rfl, _, rfl, f, t1, c1, .opt n i, rfl, et1, fun H1 s1 => ⟨_, rfl, ?_⟩⟩
      refine ifF rfl ?_
      refine ⟨_, rfl, t1, _, _, rfl, s1 _ _ et1', _, rfl, ?_⟩
      refine ifT (by decide) ?_
      refine ⟨_, rfl, _, rfl, t1, _, _, _, rfl, rfl, sqt (s1 _ _ et1'), rfl, _, _, rfl, rfl, _, rfl, ?_⟩
      by_cases h0 : 0 ≤ i
      rotate_left
      · rw [decide_eq_false h0]
        rw [core, decide_eq_false h0] at hright
        refine iteF ⟨_, rfl, iteF ?_⟩
        exact fin _ (by rw [hright]; rfl) H1 s1
      rw [decide_eq_true h0]
      refine iteT ?_
      refine ⟨_, rfl, f, _, dx, _, _, rfl, s1 _ _ ef, T.cl_Fitting, T.na_Fitting_arena, ff_arena, _, rfl, b0, _, _, _, rfl, rfl, sqt (s1 _ _ e0), atI_nat hx, b1, _, rfl, .inr (sqt (s1 _ _ eb1)), _, _, rfl, rfl, _, rfl, ?_⟩
      rw [hyl]
      by_cases h1 : i < os.length
      rotate_left
      · rw [decide_eq_false h1]
        rw [core, decide_eq_true h0, decide_eq_false h1] at hright
        refine iteF ?_
        exact fin _ (by rw [hright]; rfl) H1 s1
      rw [decide_eq_true h1]
      refine iteT ?_
      obtain ⟨k, rfl⟩ : ∃ k : Nat, i = (k : Int) := ⟨i.toNat, by omega⟩
      obtain ⟨o, ho⟩ : ∃ o, os[k]? = some o := ⟨_, List.getElem?_eq_getElem (by omega)⟩
      rw [core, decide_eq_true h0, decide_eq_true h1, Int.toNat_natCast, ho] at hright
      refine ⟨_, rfl, f, dx, _, rfl, s1 _ _ ef, ff_all_fit, _, rfl, _, rfl, _, rfl, t1, _, _, _, rfl, rfl, sqt (s1 _ _ et1'), rfl, f, A0, kp, Kp, ls, p, k, os, o, rfl, hF.same s1, hG, hos, ho, fun H2 s2 => ?_⟩
      exact fin _ (by rw [hright]; rfl) H2 (s1.trans s2)
    | false =>
      have et1' : H t1 = some (.tup [.str "comes", .int n, .int i]) := et1
      rw [if_pos (show (Lb.opt n i).isRep = false from rfl)] at hright
      refine ⟨_, rfl, t1, _, _, _, rfl, rfl, sqt et1', atI0, ?_⟩
      refine ⟨_, rfl, rfl, _, rfl, ?_⟩
      refine ifT (by decide) ?_
      refine ⟨_, rfl, _, rfl, f, _, dx, _, _, rfl, ef, T.cl_Fitting, T.na_Fitting_told, ff_told, kp, _, rfl, .inr (sqt ek), rfl, flat_ints' Kp, _, rfl, ?_⟩
      rw [in_intJ]
      by_cases hp : (p : Int) ∈ Kp
      · rw [decide_eq_true hp] at hright ⊢
        rw [if_neg (show ¬ true = false from fun e => nomatch e)] at hright
        refine iteT ?_
        refine ⟨_, rfl, _, rfl, Nat.le_of_ble_eq_true rfl, fun tt htt => ?_⟩
        obtain ⟨H1, e1, s1, k1⟩ := newH htt (.tup [V.str "comes", V.int 0, V.int (-1)])
        have e1' : upd H tt (.tup [V.str "comes", V.int 0, V.int (-1)]) = H1 := e1
        rw [e1']
        refine ⟨_, _, .tup (sqt (s1 _ _ et1')) (.cons (.str _) (.cons (.int _) (.cons (.int _) .nil))), .tup (sqt k1) (.cons (.str _) (.cons (.int _) (.cons (.int _) .nil))), com_shaped n i, com_shaped 0 (-1), ?_⟩
        rw [com_eqv]
        exact fin _ hright H1 s1
      rw [decide_eq_false hp] at hright ⊢
      rw [if_pos rfl] at hright
      refine iteF ?_
      refine ⟨_, rfl, rfl, _, rfl, ?_⟩
      refine ifF (by decide) (iteF ?_)
      refine ⟨_, rfl, rfl, _, rfl, ?_⟩
      refine ifF (by decide) (iteF ?_)
      refine ⟨_, rfl, rfl, _, rfl, ?_⟩
      refine ifF (by decide) (iteF ?_)
      refine ⟨_, rfl, _, rfl, f, t1, c1, .opt n i, rfl, et1, fun H1 s1 => ⟨_, rfl, ?_⟩⟩
      by_cases hn : 1 ≤ n
      rotate_left
      · have hnb : numB false (.opt n i) = false := by
          unfold numB
          rw [if_pos (show (Lb.opt n i).isRep = false from rfl)]
          exact decide_eq_false hn
        rw [hnb] at hright ⊢
        refine ifT rfl ?_
        exact fin _ (by rw [hright]; rfl) H1 s1
      have hnb : numB false (.opt n i) = true := by
        unfold numB
        rw [if_pos (show (Lb.opt n i).isRep = false from rfl)]
        exact decide_eq_true hn
      rw [hnb] at hright ⊢
      refine ifF rfl ?_
      refine ⟨_, rfl, t1, _, _, rfl, s1 _ _ et1', _, rfl, ?_⟩
      refine ifT (by decide) ?_
      refine ⟨_, rfl, _, rfl, t1, _, _, _, rfl, rfl, sqt (s1 _ _ et1'), rfl, _, _, rfl, rfl, _, rfl, ?_⟩
      by_cases h0 : 0 ≤ i
      rotate_left
      · rw [decide_eq_false h0]
        rw [core, decide_eq_false h0] at hright
        refine iteF ⟨_, rfl, iteF ?_⟩
        exact fin _ (by rw [hright]; rfl) H1 s1
      rw [decide_eq_true h0]
      refine iteT ?_
      refine ⟨_, rfl, f, _, dx, _, _, rfl, s1 _ _ ef, T.cl_Fitting, T.na_Fitting_arena, ff_arena, _, rfl, b0, _, _, _, rfl, rfl, sqt (s1 _ _ e0), atI_nat hx, b1, _, rfl, .inr (sqt (s1 _ _ eb1)), _, _, rfl, rfl, _, rfl, ?_⟩
      rw [hyl]
      by_cases h1 : i < os.length
      rotate_left
      · rw [decide_eq_false h1]
        rw [core, decide_eq_true h0, decide_eq_false h1] at hright
        refine iteF ?_
        exact fin _ (by rw [hright]; rfl) H1 s1
      rw [decide_eq_true h1]
      refine iteT ?_
      obtain ⟨k, rfl⟩ : ∃ k : Nat, i = (k : Int) := ⟨i.toNat, by omega⟩
      obtain ⟨o, ho⟩ : ∃ o, os[k]? = some o := ⟨_, List.getElem?_eq_getElem (by omega)⟩
      rw [core, decide_eq_true h0, decide_eq_true h1, Int.toNat_natCast, ho] at hright
      refine ⟨_, rfl, f, dx, _, rfl, s1 _ _ ef, ff_all_fit, _, rfl, _, rfl, _, rfl, t1, _, _, _, rfl, rfl, sqt (s1 _ _ et1'), rfl, f, A0, kp, Kp, ls, p, k, os, o, rfl, hF.same s1, hG, hos, ho, fun H2 s2 => ?_⟩
      exact fin _ (by rw [hright]; rfl) H2 (s1.trans s2)
  | rep n rs =>
    rw [hL] at et1 hright ec1
    have ec : H c1 = some (.tup (rs.map V.int)) := ec1 rfl
    have core := core_rep (st := st) (os := os) hL
    cases st with
    | true =>
      have et1' : H t1 = some (.tup [.str "driven", .int n, .ref c1]) := et1
      rw [if_pos (show (Lb.rep n rs).isRep = true from rfl)] at hright
      refine ⟨_, rfl, t1, _, _, _, rfl, rfl, sqt et1', atI0, ?_⟩
      refine ⟨_, rfl, rfl, _, rfl, ?_⟩
      refine ifF (by decide) (iteF ?_)
      refine ⟨_, rfl, rfl, _, rfl, ?_⟩
      refine ifT (by decide) ?_
      refine ⟨_, rfl, _, rfl, f, _, dx, _, _, rfl, ef, T.cl_Fitting, T.na_Fitting_told, ff_told, kp, _, rfl, .inr (sqt ek), rfl, flat_ints' Kp, _, rfl, ?_⟩
      rw [notIn_int]
      by_cases hp : (p : Int) ∈ Kp
      rotate_left
      · rw [decide_eq_false hp] at hright ⊢
        rw [if_neg (show ¬ false = true from fun e => nomatch e)] at hright
        refine iteT ?_
        refine ⟨_, rfl, Nat.zero_le _, fun te hte => ?_⟩
        obtain ⟨H1, e1, s1, k1⟩ := newH hte (.tup ([] : List V))
        rw [e1]
        refine ⟨Nat.le_of_ble_eq_true rfl, fun tt htt => ?_⟩
        obtain ⟨H2, e2, s2, k2⟩ := newH htt (.tup [V.str "driven", V.int 0, V.ref te])
        rw [e2]
        have s12 := s1.trans s2
        refine ⟨_, _, .tup (sqt (s12 _ _ et1')) (.cons (.str _) (.cons (.int _) (.cons (.tup (sqt (s12 _ _ ec)) (two_intsJ rs)) .nil))), .tup (sqt k2) (.cons (.str _) (.cons (.int _) (.cons (.tup (sqt (s2 _ _ k1)) .nil) .nil))), drv_shaped n rs, drv_shaped 0 [], ?_⟩
        rw [show PyData.eqv _ _ = endB (.rep n rs) from drv_eqv n rs]
        exact fin _ hright H2 s12
      rw [decide_eq_true hp] at hright ⊢
      rw [if_pos rfl] at hright
      refine iteF ?_
      refine ⟨_, rfl, rfl, _, rfl, ?_⟩
      refine ifF (by decide) (iteF ?_)
      refine ⟨_, rfl, rfl, _, rfl, ?_⟩
      refine ifF (by decide) (iteF ?_)
      refine ⟨_, rfl, _, rfl, f, t1, c1, .rep n rs, rfl, et1, fun H1 s1 => ⟨_, rfl, ?_⟩⟩
      by_cases hn : 1 ≤ n
      rotate_left
      · have hnb : numB true (.rep n rs) = false := by
          unfold numB
          rw [if_pos (show (Lb.rep n rs).isRep = true from rfl)]
          exact decide_eq_false hn
        rw [hnb] at hright ⊢
        refine ifT rfl ?_
        exact fin _ (by rw [hright]; rfl) H1 s1
      have hnb : numB true (.rep n rs) = true := by
        unfold numB
        rw [if_pos (show (Lb.rep n rs).isRep = true from rfl)]
        exact decide_eq_true hn
      rw [hnb] at hright ⊢
      refine ifF rfl ?_
      rw [core] at hright
      refine ⟨_, rfl, t1, _, _, rfl, s1 _ _ et1', _, rfl, ?_⟩
      refine ifF (by decide) ?_
      refine ⟨_, rfl, _, rfl, _, rfl, _, rfl, t1, _, _, _, rfl, rfl, sqt (s1 _ _ et1'), rfl, f, A0, kp, Kp, ls, p, c1, rs, os, rfl, hF.same s1, hG, hos, s1 _ _ ec, fun H2 s2 => ?_⟩
      exact fin _ (by rw [hright]; rfl) H2 (s1.trans s2)
    | false =>
      have et1' : H t1 = some (.tup [.str "away", .ref c1]) := et1
      rw [if_neg (show ¬ (Lb.rep n rs).isRep = false from fun e => nomatch e)] at hright
      refine ⟨_, rfl, t1, _, _, _, rfl, rfl, sqt et1', atI0, ?_⟩
      refine ⟨_, rfl, rfl, _, rfl, ?_⟩
      refine ifF (by decide) (iteF ?_)
      refine ⟨_, rfl, rfl, _, rfl, ?_⟩
      refine ifF (by decide) (iteF ?_)
      refine ⟨_, rfl, rfl, _, rfl, ?_⟩
      refine ifF (by decide) (iteF ?_)
      refine ⟨_, rfl, rfl, _, rfl, ?_⟩
      refine ifT (by decide) ?_
      refine ⟨_, rfl, _, rfl, f, _, dx, _, _, rfl, ef, T.cl_Fitting, T.na_Fitting_told, ff_told, kp, _, rfl, .inr (sqt ek), rfl, flat_ints' Kp, _, rfl, ?_⟩
      rw [in_intJ]
      by_cases hp : (p : Int) ∈ Kp
      · rw [decide_eq_true hp] at hright ⊢
        exact iteT (fin _ (by rw [hright]; rfl) H (Same.refl H))
      rw [decide_eq_false hp] at hright ⊢
      refine iteF ?_
      refine ⟨_, rfl, _, rfl, f, t1, c1, .rep n rs, rfl, et1, fun H1 s1 => ⟨_, rfl, ?_⟩⟩
      refine ifF rfl ?_
      rw [core] at hright
      refine ⟨_, rfl, t1, _, _, rfl, s1 _ _ et1', _, rfl, ?_⟩
      refine ifF (by decide) ?_
      refine ⟨_, rfl, _, rfl, _, rfl, _, rfl, t1, _, _, _, rfl, rfl, sqt (s1 _ _ et1'), rfl, f, A0, kp, Kp, ls, p, c1, rs, os, rfl, hF.same s1, hG, hos, s1 _ _ ec, fun H2 s2 => ?_⟩
      exact fin _ (by rw [hright]; rfl) H2 (s1.trans s2)
/-! ### judge -/
def judgeL (st : Bool) (A : Ar) (Kp : List Int) (ls : List Lb) : Bool := decide (ls.length = A.length) && (List.range A.length).all fun k => rightL st A Kp ls (k : Int)
def spJudge (C : Addr) (st : Bool) : Sp := fun vs H Q _ => ∃ (v : V) (A : Ar) (g kp pp : Addr) (Kp : List Int) (ls : List Lb) (xs : List V), vs = [v, .ref g, .ref pp] ∧ ArIn H A v ∧ ArG A ∧ H g = some (.tup [.str (if st = true then "stay" else "come"), .ref kp]) ∧ H kp = some (.tup (Kp.map V.int)) ∧ H pp = some (.tup xs) ∧ Each (LbIn st H) ls xs ∧ ∀ H', Same H H' → Q (.bl (judgeL st A Kp ls)) H'
theorem ok_judge (T : Txt K mg) (st : Bool) : FnOk P w K mg base CX0 5 T.ajudge T.djudge Pjudge (spJudge T.C_Fitting st) := by
  have G_is_right := ok_is_right (P := P) (w := w) (base := base) T st
  have GFitting___init__ := ok_Fitting___init__ (P := P) (w := w) (base := base) T st
  refine T.Fjudge.ok scjudge (fun vs H Q E h => ?_) (fun cdv A outer s H vs Q E hr h => ?_)
  · obtain ⟨v, A, g, kp, pp, Kp, ls, xs, rfl, _⟩ := h
    rfl
  obtain ⟨v, A0, g, kp, pp, Kp, ls, xs, rfl, hA, hG, eg, ek, ep, hls, qq⟩ := h
  have hll := hls.1
  have h400 := hG.1
  obtain ⟨b0, zs, rfl, e0, hzs⟩ := id hA
  have hzl := hzs.1
  refine ⟨_, (pss_cons (ps_if (pt_cmpR op_ne (pe_callB call_len_seq (by rfl) T.z_len PySem.boot_len (pa_cons (pv 2) pa_nil)) (pe_callB call_len_seq (by rfl) T.z_len PySem.boot_len (pa_cons (pv 0) pa_nil)) (nomark _))
    (pss_one (ps_ret pe_bl))
    pss_nil)
    (pss_cons (ps_set (i := 3) scjudge.nd rfl (Or.inr rfl) (pe_make T.mk_Fitting GFitting___init__ (hr.mono (by omega)) (by rfl) T.g_Fitting T.bFitting___init__ .nil pass0 (pa_cons (pv 0) (pa_cons (pv 1) (pa_cons (pv 2) pa_nil)))))
    (pss_one (ps_ret (pe_callB (cr_all rfl) (by rfl) T.z_all (by decide +kernel) (pa_cons (pe_lc (own := [("at", 4)]) (g := (gName 4)) (tt := tYes) rfl scjudge.nd (pi_range1 (by rfl) T.z_range (pa_cons (pe_callB call_len_seq (by rfl) T.z_len PySem.boot_len (pa_cons (pv 0) pa_nil)) pa_nil)) (blkOk_by (N := Njudge) (sc := defScope sjudge) (by decide +kernel)) (fun _ _ _ _ _ => (pg_name (i := 4) scjudge.nd rfl (Or.inl rfl))) (fun _ _ _ _ _ => pts_nil) (fun _ _ _ _ _ => (pe_call G_is_right (hr.mono (by omega)) (by rfl) T.m_is_right T.F_is_right.kp T.b_is_right .nil pass0 (pa_cons (pv 3) (pa_cons (pv 4) pa_nil))))) pa_nil)))))), ?_⟩
  refine ⟨_, rfl, pp, _, rfl, .inr (sqt ep), _, rfl, b0, _, rfl, .inr (sqt e0), rfl, _, rfl, ?_⟩
  by_cases hlen : ls.length = A0.length
  rotate_left
  · refine ifT (by rw [decide_eq_false (fun e => hlen (by have := V.int.inj e; omega))]; rfl) (boolE ?_ (qq H (Same.refl H)))
    unfold judgeL
    rw [decide_eq_false hlen]
    rfl
  refine ifF (by rw [decide_eq_true (by congr 1; omega)]; rfl) ?_
  refine ⟨_, rfl, _, rfl, _, rfl, fun f dx hf hdx hne => ?_⟩
  have hfd : ∀ b o, H b = some o → b ≠ f ∧ b ≠ dx := fun b o e => ⟨fun z => (by rw [z, hf] at e; cases e), fun z => (by rw [z, hdx] at e; cases e)⟩
  refine ⟨f, dx, g, pp, _, _, rfl, upd_same, by rw [upd_ne (hfd _ _ eg).1, upd_ne (hfd _ _ eg).2]; exact eg, fun H2 k2 fr2 => ⟨rfl, ?_⟩⟩
  have s2 : Same H H2 := fun b o e => fr2 b o (by rw [upd_ne (hfd _ _ e).1, upd_ne (hfd _ _ e).2]; exact e) (hfd _ _ e).1
  have hF : FitL T.C_Fitting st H2 f A0 kp Kp ls := ⟨⟨dx, _, pp, _, xs, k2, hA.tp (Tp.same s2), s2 _ _ ep, hls.mono fun o x => LbIn.tp (Tp.same s2)⟩, s2 _ _ ek, hlen⟩
  refine ⟨_, rfl, b0, _, rfl, .inr (sqt (s2 _ _ e0)), _, rfl, by omega, by omega, fun L hL => ?_⟩
  refine lc_range (lo := 0) (n := ((zs.length : Nat) : Int).toNat) (fun (j : Nat) (H' : Hp) => Same H2 H' ∧ H' L = some (.lst (((List.range j).map fun k : Nat => rightL st A0 Kp ls (k : Int)).map V.bl))) ?_ ?_ ?_
  · exact ⟨same_new hL _, upd_same⟩
  · rintro j H3 hj ⟨s3, k3⟩
    obtain ⟨os, hos⟩ : ∃ os, A0[j]? = some os := ⟨_, List.getElem?_eq_getElem (by omega)⟩
    refine ⟨rfl, ?_⟩
    refine yes_if ?_
    refine ⟨_, rfl, _, rfl, f, A0, kp, Kp, ls, j, os, by rw [show (0 : Int) + (j : Nat) = (j : Nat) by omega]; rfl, hF.same s3, hG, hos, fun H4 s4 => ?_⟩
    refine ⟨_, s4 _ _ k3, big' (by rw [List.length_map, List.length_map, List.length_range]; omega), same_put (s3.trans s4) hL, ?_⟩
    rw [upd_same, List.range_succ, List.map_append, List.map_append]
    rfl
  · rintro H3 ⟨s3, k3⟩
    refine ⟨L, _, rfl, sqd k3, ?_⟩
    refine boolE ?_ (qq H3 (s2.trans s3))
    unfold judgeL
    rw [decide_eq_true hlen, Bool.true_and, List.all_map]
    rw [show ((zs.length : Nat) : Int).toNat = A0.length by omega]
    rfl
end
end NL

set_option maxHeartbeats 4000000
namespace NL
open PySem PySem.Spec PyProof.Rows L2
theorem list_of {α : Type} {R : Nat → α → Prop} : ∀ n : Nat, (∀ k, k < n → ∃ x, R k x) → ∃ l : List α, l.length = n ∧ ∀ (k : Nat) x, l[k]? = some x → R k x
  | 0, _ => ⟨[], rfl, fun k x h => by cases h⟩
  | n + 1, h => by
    obtain ⟨l, h1, h2⟩ := list_of n fun k hk => h k (by omega)
    obtain ⟨x, hx⟩ := h n (by omega)
    refine ⟨l ++ [x], by rw [List.length_append, h1]; rfl, fun k y hy => ?_⟩
    by_cases hk : k < l.length
    · rw [List.getElem?_append_left hk] at hy
      exact h2 k y hy
    · have hk2 : k = l.length := by
        have := (List.getElem?_eq_some_iff.mp hy).1
        rw [List.length_append, List.length_singleton] at this
        omega
      subst hk2
      rw [List.getElem?_append_right (Nat.le_refl _), Nat.sub_self] at hy
      cases hy
      rw [h1]
      exact hx
/-- a told label as a label -/
structure ToldL (st : Bool) (R : Int → Option Nat) (k : Int) (os : Pos') (L : Lb) : Prop where
  rep : L.isRep = ((R k).isSome == st)
  num : L.num = (((R k).getD 0 : Nat) : Int)
  end_ : R k = some 0 → endB L = true
  opt : ∀ n i, L = .opt n i → R k ≠ some 0 → ∃ j : Nat, i = j ∧ IsIx st R k os j
  reps : ∀ n rs, L = .rep n rs → R k ≠ some 0 → rs.length = os.length ∧ ∀ (i : Nat) o z, os[i]? = some o → rs[i]? = some z → IsRp st R k o z
theorem told_lab {st : Bool} {H : Hp} {os : Pos'} {R : Int → Option Nat} {k : Int} {v : V} (h : PapIn st H os R k v) : ∃ L, LbIn st H L v ∧ ToldL st R k os L := by
  obtain ⟨b, pk, rfl, eb, hp⟩ := h
  unfold PickG at hp
  by_cases hk : ((R k).isSome != st) = true
  · rw [if_pos hk] at hp
    cases hR : R k with
    | none =>
      rw [hR] at hk eb hp
      rw [if_neg (fun e => nomatch e)] at hp
      obtain ⟨i, rfl, hi⟩ := hp
      cases st with
      | false => exact absurd hk Bool.false_ne_true
      | true => exact ⟨.opt 0 i, ⟨b, b, rfl, eb, fun e => absurd e Bool.false_ne_true⟩, by rw [hR]; rfl, by rw [hR]; rfl, (fun e => by rw [hR] at e; cases e), (fun n j e _ => by cases e; exact ⟨i, rfl, hi⟩), fun n rs e => by cases e⟩
    | some r =>
      rw [hR] at hk eb hp
      cases st with
      | true => exact absurd hk Bool.false_ne_true
      | false =>
        by_cases h0 : r = 0
        · subst h0
          rw [if_pos rfl] at hp
          subst hp
          exact ⟨.opt 0 (-1), ⟨b, b, rfl, eb, fun e => absurd e Bool.false_ne_true⟩, by rw [hR]; rfl, by rw [hR]; rfl, fun _ => rfl, fun n j e h => absurd hR h, fun n rs e => by cases e⟩
        · rw [if_neg (fun e => h0 (Option.some.inj e))] at hp
          obtain ⟨i, rfl, hi⟩ := hp
          exact ⟨.opt r i, ⟨b, b, rfl, eb, fun e => absurd e Bool.false_ne_true⟩, by rw [hR]; rfl, by rw [hR]; rfl, (fun e => by rw [hR] at e; exact absurd (Option.some.inj e) h0), (fun n j e _ => by cases e; exact ⟨i, rfl, hi⟩), fun n rs e => by cases e⟩
  · rw [if_neg hk] at hp
    obtain ⟨c, zs, rfl, ec, hz⟩ := hp
    cases hR : R k with
    | none =>
      rw [hR] at hk eb hz
      rw [if_neg (fun e => nomatch e)] at hz
      cases st with
      | true => exact absurd rfl hk
      | false => exact ⟨.rep 0 zs, ⟨b, c, rfl, eb, fun _ => ec⟩, by rw [hR]; rfl, by rw [hR]; rfl, (fun e => by rw [hR] at e; cases e), (fun n i e => by cases e), fun n rs e _ => by cases e; exact hz⟩
    | some r =>
      rw [hR] at hk eb hz
      cases st with
      | false => exact absurd rfl hk
      | true =>
        by_cases h0 : r = 0
        · subst h0
          rw [if_pos rfl] at hz
          subst hz
          exact ⟨.rep 0 [], ⟨b, c, rfl, eb, fun _ => ec⟩, by rw [hR]; rfl, by rw [hR]; rfl, fun _ => rfl, (fun n i e => by cases e), fun n rs e h => absurd hR h⟩
        · rw [if_neg (fun e => h0 (Option.some.inj e))] at hz
          exact ⟨.rep r zs, ⟨b, c, rfl, eb, fun _ => ec⟩, by rw [hR]; rfl, by rw [hR]; rfl, (fun e => by rw [hR] at e; exact absurd (Option.some.inj e) h0), (fun n i e => by cases e), fun n rs e _ => by cases e; exact hz⟩
theorem fit_told {st : Bool} {R : Int → Option Nat} {ls : List Lb} {p q : Int} (hp : (getL ls p).isRep = ((R p).isSome == st) ∧ (getL ls p).num = (((R p).getD 0 : Nat) : Int)) (hq : q ≠ -1 → (getL ls q).isRep = ((R q).isSome == st) ∧ (getL ls q).num = (((R q).getD 0 : Nat) : Int)) (h : fitB st R p q = true) : fitL st ls p q = true := by
  unfold fitB at h
  unfold fitL
  by_cases h1 : q = -1
  · rw [if_pos h1] at h ⊢
    rw [hp.1]
    exact h
  · rw [if_neg h1] at h ⊢
    obtain ⟨q1, q2⟩ := hq h1
    obtain ⟨p1, p2⟩ := hp
    cases hRp : R p with
    | none =>
      cases hRq : R q with
      | none =>
        rw [hRp] at p1
        rw [hRq] at q1
        rw [if_neg (fun e => e (by rw [p1, q1])), if_neg (by rw [p1]; cases st <;> decide)]
      | some b => rw [hRp, hRq] at h; cases h
    | some a =>
      cases hRq : R q with
      | none => rw [hRp, hRq] at h; cases h
      | some b =>
        rw [hRp, hRq] at h
        rw [hRp] at p1 p2
        rw [hRq] at q1 q2
        rw [if_neg (fun e => e (by rw [p1, q1]; rfl)), if_pos (by rw [p1]; cases st <;> rfl), p2, q2]
        have h : b < a := of_decide_eq_true h
        exact decide_eq_true (by show ((b : Nat) : Int) < (a : Nat); omega)
theorem told_right {st : Bool} {H : Hp} {A : Ar} {Kp : List Int} {vs : List V} (hG : ArG A) (h : PaperAt st H A (gR st A Kp) A.length vs) : ∃ ls, Each (LbIn st H) ls vs ∧ judgeL st A Kp ls = true ∧ ∀ (k : Nat) os L, A[k]? = some os → ls[k]? = some L → ToldL st (gR st A Kp) k os L := by
  have hvl := h.1
  obtain ⟨ls, hl, hls⟩ := list_of (R := fun k L => ∃ os v, A[k]? = some os ∧ vs[k]? = some v ∧ LbIn st H L v ∧ ToldL st (gR st A Kp) k os L) A.length fun k hk => by
    have hos := List.getElem?_eq_getElem hk
    obtain ⟨v, e1, e2⟩ := h.2 k _ hk hos
    obtain ⟨L, e3, e4⟩ := told_lab e2
    exact ⟨L, _, v, hos, e1, e3, e4⟩
  have hE : Each (LbIn st H) ls vs := ⟨by omega, fun k L v e1 e2 => by
    obtain ⟨os, v', _, g2, g3, _⟩ := hls k L e1
    rw [e2] at g2
    cases g2
    exact g3⟩
  have hT : ∀ (k : Nat) os L, A[k]? = some os → ls[k]? = some L → ToldL st (gR st A Kp) k os L := fun k os L e1 e2 => by
    obtain ⟨os', v', g1, _, _, g4⟩ := hls k L e2
    rw [e1] at g1
    cases g1
    exact g4
  refine ⟨ls, hE, ?_, hT⟩
  have hget : ∀ k : Nat, k < A.length → ∃ os L, A[k]? = some os ∧ getL ls (k : Int) = L ∧ ToldL st (gR st A Kp) k os L := fun k hk => by
    have e1 := List.getElem?_eq_getElem hk
    have e2 := List.getElem?_eq_getElem (show k < ls.length by omega)
    refine ⟨_, _, e1, ?_, hT k _ _ e1 e2⟩
    unfold getL
    rw [Int.toNat_natCast, e2]
    rfl
  have hfit : ∀ (k : Nat) (q : Int), k < A.length → -1 ≤ q → q < A.length → fitB st (gR st A Kp) k q = true → fitL st ls k q = true := fun k q hk q0 q1 hf => by
    obtain ⟨os, L, _, e2, e3⟩ := hget k hk
    refine fit_told ⟨by rw [e2]; exact e3.rep, by rw [e2]; exact e3.num⟩ (fun hq => ?_) hf
    obtain ⟨os', L', _, g2, g3⟩ := hget q.toNat (by omega)
    rw [show ((q.toNat : Nat) : Int) = q by omega] at g2 g3
    exact ⟨by rw [g2]; exact g3.rep, by rw [g2]; exact g3.num⟩
  unfold judgeL
  rw [decide_eq_true hl, Bool.true_and, List.all_eq_true]
  intro k hk
  have hk := List.mem_range.mp hk
  obtain ⟨os, L, hos, e2, e3⟩ := hget k hk
  have hosG := hG.2 os (List.mem_of_getElem? hos)
  have hrk := gR_is st A Kp (k : Int)
  have h0 := gF_0 (st := st) (A := A) (Kp := Kp) (p := (k : Int)) (by omega)
  have core : gR st A Kp (k : Int) ≠ some 0 → coreB st os ls k = true := fun hne => by
    cases L with
    | opt n i =>
      obtain ⟨j, rfl, ⟨o, ho, hall⟩, _⟩ := e3.opt n i rfl hne
      have hjl := (List.getElem?_eq_some_iff.mp ho).1
      have hoG := hosG.2 o (List.mem_of_getElem? ho)
      rw [core_opt e2, decide_eq_true (show (0 : Int) ≤ (j : Nat) by omega), decide_eq_true (show ((j : Nat) : Int) < os.length by omega), Int.toNat_natCast, ho]
      show (true && (true && o.all (fitL st ls k))) = true
      rw [Bool.true_and, Bool.true_and, List.all_eq_true]
      intro q hq
      have hm := hoG.mem q hq
      exact hfit k q hk hm.1 hm.2 (List.all_eq_true.mp hall q hq)
    | rep n rs =>
      obtain ⟨hrl, hrs⟩ := e3.reps n rs rfl hne
      rw [core_rep e2]
      unfold repB
      rw [decide_eq_true hrl, Bool.true_and, List.all_eq_true]
      rintro ⟨z, o⟩ hm
      obtain ⟨i, hi⟩ := List.getElem?_of_mem hm
      rw [List.getElem?_zip_eq_some] at hi
      have hoG := hosG.2 o (List.mem_of_getElem? hi.2)
      obtain ⟨r1, r2, _⟩ := hrs i o z hi.2 hi.1
      have hz := hoG.mem z r1
      show (decide (z ∈ o) && fitL st ls k z) = true
      rw [decide_eq_true r1, hfit k z hk hz.1 hz.2 r2]
      rfl
  unfold rightL
  rw [Int.toNat_natCast, hos, e2]
  show (if L.isRep = st then if decide ((k : Int) ∈ Kp) = st then numB st L && coreB st os ls k else endB L else decide (decide ((k : Int) ∈ Kp) = st) && coreB st os ls k) = true
  cases hR : gR st A Kp (k : Int) with
  | none =>
    have hrep := e3.rep
    rw [hR] at hrk hrep
    have hf := hrk 0
    rw [h0] at hf
    have hd : decide ((k : Int) ∈ Kp) = st := by cases st <;> cases hb : decide ((k : Int) ∈ Kp) <;> rw [hb] at hf <;> first | rfl | cases hf
    rw [if_neg (by rw [hrep]; cases st <;> decide), hd, decide_eq_true rfl, core (by rw [hR]; exact fun e => nomatch e)]
    rfl
  | some r =>
    have hrep := e3.rep
    have hnum := e3.num
    rw [hR] at hrk hrep hnum
    rw [if_pos (by rw [hrep]; cases st <;> rfl)]
    by_cases hr0 : r = 0
    · subst hr0
      have hf := hrk.1
      rw [h0] at hf
      have hd : ¬ decide ((k : Int) ∈ Kp) = st := fun e => by rw [e] at hf; cases st <;> cases hf
      rw [if_neg hd]
      exact e3.end_ hR
    · have hf := hrk.2 0 (by omega)
      rw [h0] at hf
      have hd : decide ((k : Int) ∈ Kp) = st := by cases st <;> cases hb : decide ((k : Int) ∈ Kp) <;> rw [hb] at hf <;> first | rfl | cases hf
      rw [if_pos hd, core (by rw [hR]; exact fun e => hr0 (Option.some.inj e)), Bool.and_true]
      unfold numB
      rw [if_pos (by rw [hrep]; cases st <;> rfl), hnum]
      exact decide_eq_true (by show (1 : Int) ≤ ((r : Nat) : Int); omega)
end NL

set_option maxHeartbeats 4000000
namespace NL
open PySem PySem.Spec PyProof.Rows L2
theorem tup_shaped (rs : List Int) : SeqAt.shaped (.tuple (rs.map PyData.int)) = true := by
  obtain ⟨h1, h2⟩ := ints_layJ rs
  have e1 : PyData.canLay0 (.tuple (rs.map PyData.int)) = true := h1
  have e2 : PyData.depth (.tuple (rs.map PyData.int)) ≤ 64 := by
    show PyData.depthAll (rs.map PyData.int) + 1 ≤ 64
    omega
  show (PyData.canLay0 _ && decide (PyData.depth _ ≤ 64)) = true
  rw [e1, decide_eq_true e2]
  rfl
theorem tup_eqv (rs : List Int) : PyData.eqv (.tuple (rs.map PyData.int)) (.tuple []) = decide (rs = []) := by
  cases rs with
  | nil => rfl
  | cons r rs => rw [decide_eq_false (List.cons_ne_nil r rs)]; rfl
def rrB (rs : List Int) (os : Pos') : Bool := decide (rs.length = os.length) && (rs.zip os).all fun x => decide (x.1 ∈ x.2)
theorem rep_rr {st : Bool} {ls : List Lb} {p : Int} {rs : List Int} {os : Pos'} : repB st ls p rs os = (rrB rs os && rs.all (fitL st ls p)) := by
  unfold repB rrB
  by_cases h : rs.length = os.length
  · rw [decide_eq_true h, Bool.true_and, Bool.true_and]
    induction rs generalizing os with
    | nil => cases os <;> rfl
    | cons r rs ih =>
      cases os with
      | nil => cases h
      | cons o os =>
        have := ih (os := os) (Nat.succ.inj h)
        rw [List.zip_cons_cons, List.all_cons, List.all_cons, List.all_cons, this]
        cases decide (r ∈ o) <;> cases fitL st ls p r <;> cases (rs.zip os).all (fun x => decide (x.1 ∈ x.2)) <;> rfl
  · rw [decide_eq_false h]
    rfl
theorem rr_mem {rs : List Int} {os : Pos'} (h : rrB rs os = true) {r : Int} (hr : r ∈ rs) : ∃ o ∈ os, r ∈ o := by
  unfold rrB at h
  rw [Bool.and_eq_true, decide_eq_true_eq, List.all_eq_true] at h
  obtain ⟨i, hi⟩ := List.getElem?_of_mem hr
  have hil := (List.getElem?_eq_some_iff.mp hi).1
  obtain ⟨o, ho⟩ : ∃ o, os[i]? = some o := ⟨_, List.getElem?_eq_getElem (by omega)⟩
  have hz : (rs.zip os)[i]? = some (r, o) := by
    rw [List.getElem?_zip_eq_some]
    exact ⟨hi, ho⟩
  exact ⟨o, List.mem_of_getElem? ho, of_decide_eq_true (h.2 _ (List.mem_of_getElem? hz))⟩
section
variable {P : Program} {w : World} {K : PySem.W.Frag} {mg : Str → Option Value} {base : Heap}
/-! ### _law_replies_right -/
def spLRep : Sp := fun vs H Q _ => ∃ (c : Addr) (v : V) (rs : List Int) (os : Pos'), vs = [.ref c, v] ∧ H c = some (.tup (rs.map V.int)) ∧ PosIn H os v ∧ os.length ≤ 1000 ∧ Q (.bl (rrB rs os)) H
theorem ok_law_replies_right (T : Txt K mg) : FnOk P w K mg base CX0 1 T.a_law_replies_right T.d_law_replies_right P_law_replies_right spLRep := by
  refine T.F_law_replies_right.ok sc_law_replies_right (fun vs H Q E h => ?_) (fun cdv A outer s H vs Q E hr h => ?_)
  · obtain ⟨c, v, rs, os, rfl, _⟩ := h
    rfl
  obtain ⟨c, v, rs, os, rfl, ec, ⟨b1, ys, rfl, e1, hys⟩, hol, qq⟩ := h
  have hyl := hys.1
  refine ⟨_, (pss_cons (ps_if (pt_cmpR op_ne (pe_callB call_len_seq (by rfl) T.z_len PySem.boot_len (pa_cons (pv 0) pa_nil)) (pe_callB call_len_seq (by rfl) T.z_len PySem.boot_len (pa_cons (pv 1) pa_nil)) (nomark _))
    (pss_one (ps_ret pe_bl))
    pss_nil)
    (pss_cons (ps_for  PassesOwn.never rfl (pi_range1 (by rfl) T.z_range (pa_cons (pe_callB call_len_seq (by rfl) T.z_len PySem.boot_len (pa_cons (pv 1) pa_nil)) pa_nil)) (pg_name (i := 2) sc_law_replies_right.nd rfl (Or.inl rfl))
    (pss_one (ps_if (pt_cmpR op_notIn_seq (pe_ix ix_tup (pv 0) (pv 2) (fun _ _ => rfl)) (pe_ix ix_tup (pv 1) (pv 2) (fun _ _ => rfl)) (by rfl))
    (pss_one (ps_ret pe_bl))
    pss_nil)))
    (pss_one (ps_ret pe_bl)))), ?_⟩
  refine ⟨_, rfl, c, _, rfl, .inr (sqt ec), _, rfl, b1, _, rfl, .inr (sqt e1), rfl, _, rfl, ?_⟩
  by_cases hlen : rs.length = os.length
  rotate_left
  · refine ifT (by rw [List.length_map, decide_eq_false (fun e => hlen (by have := V.int.inj e; omega))]; rfl) (boolE ?_ qq)
    unfold rrB
    rw [decide_eq_false hlen]
    rfl
  refine ifF (by rw [List.length_map, decide_eq_true (by congr 1; omega)]; rfl) ?_
  refine ⟨_, rfl, b1, _, rfl, .inr (sqt e1), _, rfl, by omega, by omega, ?_⟩
  refine for_range (lo := 0) (n := ((ys.length : Nat) : Int).toNat) (fun (j : Nat) (σ : L2.St) (H' : Hp) => ∃ y2 : Option V, σ = [some (.ref c), some (.ref b1), y2] ∧ H' = H ∧ ((rs.zip os).take j).all (fun x => decide (x.1 ∈ x.2)) = true) ?_ ?_ ?_
  · exact ⟨_, rfl, rfl, rfl⟩
  · rintro j σ H' hj ⟨y2, rfl, rfl, hall⟩
    obtain ⟨r, hr1⟩ : ∃ r, rs[j]? = some r := ⟨_, List.getElem?_eq_getElem (by omega)⟩
    obtain ⟨o, ho⟩ : ∃ o, os[j]? = some o := ⟨_, List.getElem?_eq_getElem (by omega)⟩
    obtain ⟨y, hy, bo, rfl, eo⟩ := hys.at ho
    have hz : (rs.zip os)[j]? = some (r, o) := by
      rw [List.getElem?_zip_eq_some]
      exact ⟨hr1, ho⟩
    have hat : atI (rs.map V.int) (0 + (j : Nat)) = some (.int r) := by
      rw [show (0 : Int) + (j : Nat) = (j : Nat) by omega]
      exact atI_nat (by rw [List.getElem?_map, hr1]; rfl)
    have haty : atI ys (0 + (j : Nat)) = some (.ref bo) := by
      rw [show (0 : Int) + (j : Nat) = (j : Nat) by omega]
      exact atI_nat hy
    refine ⟨_, rfl, _, rfl, c, _, _, _, rfl, rfl, sqt ec, hat, _, rfl, _, rfl, b1, _, _, _, rfl, rfl, sqt e1, haty, bo, _, rfl, .inr (sqt eo), rfl, flat_ints' o, _, rfl, ?_⟩
    by_cases hro : r ∈ o
    · refine ifF (by rw [notIn_int, decide_eq_true hro] <;> rfl) ⟨_, rfl, rfl, ?_⟩
      rw [List.take_add_one, hz, List.all_append, hall]
      show (true && (decide (r ∈ o) && true)) = true
      rw [decide_eq_true hro]
      rfl
    · refine ifT (by rw [notIn_int, decide_eq_false hro] <;> rfl) (boolE ?_ qq)
      unfold rrB
      rw [decide_eq_true hlen, Bool.true_and]
      exact (List.all_eq_false.mpr ⟨(r, o), List.mem_of_getElem? hz, by show ¬ decide (r ∈ o) = true; rw [decide_eq_false hro]; exact Bool.false_ne_true⟩).symm
  · rintro σ H' ⟨y2, rfl, rfl, hall⟩
    refine boolE ?_ qq
    unfold rrB
    rw [decide_eq_true hlen, Bool.true_and]
    rw [List.take_of_length_le (by rw [List.length_zip]; omega)] at hall
    exact hall.symm
/-! ### _law_stay_right -/
def spLSR : Sp := fun vs H Q _ => ∃ (v : V) (A : Ar) (kp pp : Addr) (Kp : List Int) (ls : List Lb) (xs : List V) (p : Nat), vs = [v, .ref kp, .ref pp, .int p] ∧ ArIn H A v ∧ ArG A ∧ H kp = some (.tup (Kp.map V.int)) ∧ H pp = some (.tup xs) ∧ Each (LbIn true H) ls xs ∧ ls.length = A.length ∧ p < A.length ∧ ∀ H', Same H H' → Q (.bl (rightL true A Kp ls p)) H'
theorem ok_law_stay_right (T : Txt K mg) : FnOk P w K mg base CX0 2 T.a_law_stay_right T.d_law_stay_right P_law_stay_right spLSR := by
  have G_law_replies_right := ok_law_replies_right (P := P) (w := w) (base := base) T
  refine T.F_law_stay_right.ok sc_law_stay_right (fun vs H Q E h => ?_) (fun cdv A outer s H vs Q E hr h => ?_)
  · obtain ⟨v, A, kp, pp, Kp, ls, xs, p, rfl, _⟩ := h
    rfl
  obtain ⟨v, A0, kp, pp, Kp, ls, xs, p, rfl, ⟨b0, zs, rfl, e0, hzs⟩, hG, ek, ep, hls, hlen, hp, qq⟩ := h
  obtain ⟨os, hos⟩ : ∃ os, A0[p]? = some os := ⟨_, List.getElem?_eq_getElem hp⟩
  have hosG := hG.2 os (List.mem_of_getElem? hos)
  obtain ⟨x, hx, b1, ys, rfl, e1, hys⟩ := hzs.at hos
  have hyl := hys.1
  have hosl := hosG.1
  obtain ⟨t1, c1, hat1, et1, ec1⟩ := lb_at hls (p := (p : Int)) (by omega) (by omega)
  have hd : (A0[((p : Nat) : Int).toNat]?).getD [] = os := by rw [Int.toNat_natCast, hos]; rfl
  have hright : rightL true A0 Kp ls p = if (getL ls p).isRep = true then (if decide ((p : Int) ∈ Kp) = true then numB true (getL ls p) && coreB true os ls p else endB (getL ls p)) else decide (decide ((p : Int) ∈ Kp) = true) && coreB true os ls p := by
    unfold rightL
    rw [hd]
  have fin : ∀ b, rightL true A0 Kp ls p = b → ∀ H', Same H H' → Q (.bl b) H' := fun b e H' s' => by rw [← e]; exact qq H' s'
  have okq : ∀ {q : Int}, -1 ≤ q → q < A0.length → q ≠ -1 → ∃ t c, atI xs q = some (.ref t) ∧ H t = some (.tup (lbT c true (getL ls q))) := fun {q} h0 h1 h2 => by
    obtain ⟨t, c, g1, g2, _⟩ := lb_at hls (p := q) (by omega) (by omega)
    exact ⟨t, c, g1, g2⟩
  refine ⟨_, (pss_cons (ps_set (i := 4) sc_law_stay_right.nd rfl (Or.inl rfl) (pe_ix ix_tup (pv 2) (pv 3) (fun _ _ => rfl)))
    (pss_cons (ps_if (pt_cmpR op_eq (pe_ix ix_tup (pv 4) pe_int (fun _ _ => rfl)) pe_str (nomark _))
    (pss_cons (ps_if (PW.pt (pw_or (pt_cmpR op_notIn_seq (pv 3) (pv 1) (by rfl)) (pw_or (pt_cmpR op_lt (pe_ix ix_tup (pv 4) pe_int (fun _ _ => rfl)) pe_int (nomark _)) (pw_or1 (pt_cmpR op_ge (pe_ix ix_tup (pv 4) pe_int (fun _ _ => rfl)) (pe_callB call_len_seq (by rfl) T.z_len PySem.boot_len (pa_cons (pe_ix ix_tup (pv 0) (pv 3) (fun _ _ => rfl)) pa_nil)) (nomark _))))))
    (pss_one (ps_ret pe_bl))
    pss_nil)
    (pss_cons (ps_for  PassesOwn.never rfl (pi_tup (pe_ix ix_tup (pe_ix ix_tup (pv 0) (pv 3) (fun _ _ => rfl)) (pe_ix ix_tup (pv 4) pe_int (fun _ _ => rfl)) (fun _ _ => rfl))) (pg_name (i := 5) sc_law_stay_right.nd rfl (Or.inl rfl))
    (pss_one (ps_if (PW.pt (pw_or (pt_cmpR op_eq (pv 5) (pe_un un_neg pe_int) (nomark _)) (pw_or1 (pt_cmpR op_ne (pe_ix ix_tup (pe_ix ix_tup (pv 2) (pv 5) (fun _ _ => rfl)) pe_int (fun _ _ => rfl)) pe_str (nomark _)))))
    (pss_one (ps_ret pe_bl))
    pss_nil)))
    (pss_one (ps_ret pe_bl))))
    pss_nil)
    (pss_cons (ps_if (pt_cmpR op_notIn_seq (pv 3) (pv 1) (by rfl))
    (pss_one (ps_ret (pe_and (pe_cmpR op_eq (pe_ix ix_tup (pv 4) pe_int (fun _ _ => rfl)) pe_int (nomark _)) (pe_one (pe_cmpR (op_eqD hr.units) (pe_ix ix_tup (pv 4) pe_int (fun _ _ => rfl)) (pe_tup pa_nil) (nomark _))))))
    pss_nil)
    (pss_cons (ps_if (PW.pt (pw_or (pt_cmpR op_lt (pe_ix ix_tup (pv 4) pe_int (fun _ _ => rfl)) pe_int (nomark _)) (pw_or1 (pt_not (pt_val (pe_call G_law_replies_right (hr.mono (by omega)) (by rfl) T.m_law_replies_right T.F_law_replies_right.kp T.b_law_replies_right .nil pass0 (pa_cons (pe_ix ix_tup (pv 4) pe_int (fun _ _ => rfl)) (pa_cons (pe_ix ix_tup (pv 0) (pv 3) (fun _ _ => rfl)) pa_nil))))))))
    (pss_one (ps_ret pe_bl))
    pss_nil)
    (pss_cons (ps_for  PassesOwn.never rfl (pi_tup (pe_ix ix_tup (pv 4) pe_int (fun _ _ => rfl))) (pg_name (i := 5) sc_law_stay_right.nd rfl (Or.inl rfl))
    (pss_one (ps_if (PW.pt (pw_and (pt_cmpR op_ne (pv 5) (pe_un un_neg pe_int) (nomark _)) (pw_and1 (PW.pt (pw_or (pt_cmpR op_ne (pe_ix ix_tup (pe_ix ix_tup (pv 2) (pv 5) (fun _ _ => rfl)) pe_int (fun _ _ => rfl)) pe_str (nomark _)) (pw_or1 (pt_cmpR op_ge (pe_ix ix_tup (pe_ix ix_tup (pv 2) (pv 5) (fun _ _ => rfl)) pe_int (fun _ _ => rfl)) (pe_ix ix_tup (pv 4) pe_int (fun _ _ => rfl)) (nomark _))))))))
    (pss_one (ps_ret pe_bl))
    pss_nil)))
    (pss_one (ps_ret pe_bl))))))), ?_⟩
  refine ⟨_, rfl, _, rfl, pp, _, _, _, rfl, rfl, sqt ep, hat1, ?_⟩
  cases hL : getL ls p with
  | opt n i =>
    rw [hL] at et1 hright
    have core := core_opt (st := true) (os := os) hL
    have et1' : H t1 = some (.tup [.str "holds", .int i]) := et1
    rw [if_neg (show ¬ (Lb.opt n i).isRep = true from Bool.false_ne_true)] at hright
    refine ⟨_, rfl, t1, _, _, _, rfl, rfl, sqt et1', atI0, rfl, _, rfl, ?_⟩
    refine ifT (by decide) ?_
    refine ⟨_, rfl, _, rfl, kp, _, rfl, .inr (sqt ek), rfl, flat_ints' Kp, _, rfl, ?_⟩
    rw [notIn_int]
    by_cases hpk : (p : Int) ∈ Kp
    rotate_left
    · rw [decide_eq_false hpk] at hright ⊢
      exact iteT (fin _ hright H (Same.refl H))
    rw [decide_eq_true hpk] at hright ⊢
    refine iteF ?_
    refine ⟨_, rfl, t1, _, _, _, rfl, rfl, sqt et1', atI1, _, _, rfl, rfl, _, rfl, ?_⟩
    by_cases h0 : i < 0
    · rw [decide_eq_true h0]
      rw [core, decide_eq_false (show ¬ (0 : Int) ≤ i by omega)] at hright
      exact iteT (fin _ (by rw [hright]; rfl) H (Same.refl H))
    rw [decide_eq_false h0]
    refine iteF ?_
    refine ⟨_, rfl, t1, _, _, _, rfl, rfl, sqt et1', atI1, _, rfl, _, rfl, b0, _, _, _, rfl, rfl, sqt e0, atI_nat hx, b1, _, rfl, .inr (sqt e1), _, _, rfl, rfl, _, rfl, ?_⟩
    by_cases h1 : i < os.length
    rotate_left
    · refine ifT (decide_eq_true (by omega)) ?_
      rw [core, decide_eq_true (show (0 : Int) ≤ i by omega), decide_eq_false h1] at hright
      exact fin _ (by rw [hright]; rfl) H (Same.refl H)
    refine ifF (decide_eq_false (by omega)) ?_
    obtain ⟨k, rfl⟩ : ∃ k : Nat, i = (k : Int) := ⟨i.toNat, by omega⟩
    obtain ⟨o, ho⟩ : ∃ o, os[k]? = some o := ⟨_, List.getElem?_eq_getElem (by omega)⟩
    obtain ⟨y, hy, bo, rfl, eo⟩ := hys.at ho
    have hoG := hosG.2 o (List.mem_of_getElem? ho)
    rw [core, decide_eq_true (show (0 : Int) ≤ (k : Nat) by omega), decide_eq_true h1, Int.toNat_natCast, ho] at hright
    have hright' : rightL true A0 Kp ls p = o.all (fitL true ls p) := by rw [hright]; rfl
    refine ⟨_, rfl, _, rfl, b0, _, _, _, rfl, rfl, sqt e0, atI_nat hx, _, rfl, t1, _, _, _, rfl, rfl, sqt et1', atI1, b1, _, _, _, rfl, rfl, sqt e1, atI_nat hy, bo, rfl, ⟨_, sqt eo⟩, ?_⟩
    refine for_tup (K := K) (a := bo) (xs := o.map V.int) (fun (j : Nat) (σ : L2.St) (H' : Hp) => ∃ y5 : Option V, σ = [some (.ref b0), some (.ref kp), some (.ref pp), some (.int p), some (.ref t1), y5] ∧ H' = H ∧ (o.take j).all (fitL true ls p) = true) ?_ ?_ ?_ ?_
    · exact ⟨_, rfl, rfl, rfl⟩
    · rintro j σ H' _ ⟨y5, rfl, rfl, _⟩
      exact sqt eo
    · rintro j z σ H' hz ⟨y5, rfl, rfl, hall⟩
      rw [List.getElem?_map] at hz
      obtain ⟨q, hq, rfl⟩ := Option.map_eq_some_iff.mp hz
      have hm := hoG.mem q (List.mem_of_getElem? hq)
      have bad : fitL true ls p q = false → rightL true A0 Kp ls p = false := fun hb => by
        rw [hright']
        exact List.all_eq_false.mpr ⟨q, List.mem_of_getElem? hq, by rw [hb]; exact Bool.false_ne_true⟩
      refine ⟨_, rfl, _, rfl, rfl, _, rfl, ?_⟩
      by_cases hq1 : q = -1
      · refine ite2 (fun z => iteT ?_) (fun z => absurd (decide_eq_true (by rw [hq1])) z)
        refine fin _ (bad ?_) H' (Same.refl _)
        unfold fitL
        rw [if_pos hq1, hL]
        rfl
      refine ite2 (fun z => absurd (V.int.inj (of_decide_eq_true z)) hq1) (fun z => ?_)
      obtain ⟨t2, c2, hat2, et2⟩ := okq hm.1 hm.2 hq1
      cases hLq : getL ls q with
      | opt n' i' =>
        rw [hLq] at et2
        have et2' : H' t2 = some (.tup [.str "holds", .int i']) := et2
        refine ⟨_, rfl, _, rfl, pp, _, _, _, rfl, rfl, sqt ep, hat2, t2, _, _, _, rfl, rfl, sqt et2', atI0, rfl, _, rfl, ?_⟩
        refine ifF (by decide) ⟨_, rfl, rfl, ?_⟩
        rw [List.take_add_one, hq, List.all_append, hall]
        show (true && (fitL true ls p q && true)) = true
        have : fitL true ls p q = true := by
          unfold fitL
          rw [if_neg hq1, hL, hLq, if_neg (fun e => e rfl), if_neg (show ¬ (Lb.opt n (k : Nat)).isRep = true from Bool.false_ne_true)]
        rw [this]
        rfl
      | rep n' rs' =>
        rw [hLq] at et2
        have et2' : H' t2 = some (.tup [.str "driven", .int n', .ref c2]) := et2
        refine ⟨_, rfl, _, rfl, pp, _, _, _, rfl, rfl, sqt ep, hat2, t2, _, _, _, rfl, rfl, sqt et2', atI0, rfl, _, rfl, ?_⟩
        refine ifT (by decide) ?_
        refine fin _ (bad ?_) H' (Same.refl _)
        unfold fitL
        rw [if_neg hq1, hL, hLq, if_pos (show ¬ (Lb.opt n (k : Nat)).isRep = (Lb.rep n' rs').isRep from Bool.false_ne_true)]
    · rintro σ H' ⟨y5, rfl, rfl, hall⟩
      rw [List.length_map, List.take_length] at hall
      exact fin _ (by rw [hright', hall]) H' (Same.refl _)
  | rep n rs =>
    rw [hL] at et1 hright ec1
    have ec : H c1 = some (.tup (rs.map V.int)) := ec1 rfl
    have core := core_rep (st := true) (os := os) hL
    have et1' : H t1 = some (.tup [.str "driven", .int n, .ref c1]) := et1
    rw [if_pos (show (Lb.rep n rs).isRep = true from rfl)] at hright
    refine ⟨_, rfl, t1, _, _, _, rfl, rfl, sqt et1', atI0, rfl, _, rfl, ?_⟩
    refine ifF (by decide) ?_
    refine ⟨_, rfl, _, rfl, kp, _, rfl, .inr (sqt ek), rfl, flat_ints' Kp, _, rfl, ?_⟩
    by_cases hpk : (p : Int) ∈ Kp
    rotate_left
    · refine ifT (by rw [notIn_int, decide_eq_false hpk] <;> rfl) ?_
      rw [decide_eq_false hpk, if_neg (show ¬ false = true from Bool.false_ne_true)] at hright
      refine ⟨_, rfl, t1, _, _, _, rfl, rfl, sqt et1', atI1, rfl, _, rfl, ?_⟩
      have he : endB (.rep n rs) = (decide (n = 0) && decide (rs = [])) := rfl
      by_cases hn : n = 0
      rotate_left
      · rw [decide_eq_false (fun e => hn (V.int.inj e))]
        rw [he, decide_eq_false hn] at hright
        exact iteF (fin _ hright H (Same.refl H))
      rw [he, decide_eq_true hn, Bool.true_and] at hright
      rw [decide_eq_true (by rw [hn])]
      refine iteT ?_
      refine ⟨_, rfl, t1, _, _, _, rfl, rfl, sqt et1', rfl, Nat.zero_le _, fun te hte => ?_⟩
      obtain ⟨H1, e1', s1, k1⟩ := newH hte (.tup ([] : List V))
      rw [e1']
      refine ⟨_, _, .tup (sqt (s1 _ _ ec)) (two_intsJ rs), .tup (sqt k1) .nil, tup_shaped rs, tup_shaped [], ?_⟩
      rw [show PyData.eqv _ _ = decide (rs = []) from tup_eqv rs]
      exact fin _ hright H1 s1
    refine ifF (by rw [notIn_int, decide_eq_true hpk] <;> rfl) ?_
    rw [decide_eq_true hpk, if_pos rfl, core, rep_rr] at hright
    refine ⟨_, rfl, t1, _, _, _, rfl, rfl, sqt et1', atI1, _, _, rfl, rfl, _, rfl, ?_⟩
    by_cases hn : n < 1
    · refine ite2 (fun z => iteT ?_) (fun z => absurd (decide_eq_true hn) z)
      have hnb : numB true (.rep n rs) = false := by
        unfold numB
        rw [if_pos (show (Lb.rep n rs).isRep = true from rfl)]
        exact decide_eq_false (by show ¬ 1 ≤ n; omega)
      rw [hnb] at hright
      exact fin _ hright H (Same.refl H)
    refine ite2 (fun z => absurd (of_decide_eq_true z) hn) (fun z => ?_)
    have hnb : numB true (.rep n rs) = true := by
      unfold numB
      rw [if_pos (show (Lb.rep n rs).isRep = true from rfl)]
      exact decide_eq_true (by show 1 ≤ n; omega)
    rw [hnb, Bool.true_and] at hright
    refine ⟨_, rfl, t1, _, _, _, rfl, rfl, sqt et1', rfl, _, rfl, _, rfl, b0, _, _, _, rfl, rfl, sqt e0, atI_nat hx, c1, .ref b1, rs, os, rfl, ec, ⟨b1, ys, rfl, e1, hys⟩, by omega, _, rfl, ?_⟩
    cases hrr : rrB rs os with
    | false =>
      rw [hrr] at hright
      refine iteT (fin _ hright H (Same.refl H))
    | true =>
      rw [hrr, Bool.true_and] at hright
      refine iteF ?_
      refine ⟨_, rfl, t1, _, _, _, rfl, rfl, sqt et1', rfl, c1, rfl, ⟨_, sqt ec⟩, ?_⟩
      refine for_tup (K := K) (a := c1) (xs := rs.map V.int) (fun (j : Nat) (σ : L2.St) (H' : Hp) => ∃ y5 : Option V, σ = [some (.ref b0), some (.ref kp), some (.ref pp), some (.int p), some (.ref t1), y5] ∧ H' = H ∧ (rs.take j).all (fitL true ls p) = true) ?_ ?_ ?_ ?_
      · exact ⟨_, rfl, rfl, rfl⟩
      · rintro j σ H' _ ⟨y5, rfl, rfl, _⟩
        exact sqt ec
      · rintro j z σ H' hz ⟨y5, rfl, rfl, hall⟩
        rw [List.getElem?_map] at hz
        obtain ⟨q, hq, rfl⟩ := Option.map_eq_some_iff.mp hz
        obtain ⟨o, hom, hqo⟩ := rr_mem hrr (List.mem_of_getElem? hq)
        have hm := (hosG.2 o hom).mem q hqo
        have bad : fitL true ls p q = false → rightL true A0 Kp ls p = false := fun hb => by
          rw [hright]
          exact List.all_eq_false.mpr ⟨q, List.mem_of_getElem? hq, by rw [hb]; exact Bool.false_ne_true⟩
        have go : fitL true ls p q = true → (rs.take (j + 1)).all (fitL true ls p) = true := fun h => by
          rw [List.take_add_one, hq, List.all_append, hall]
          show (true && (fitL true ls p q && true)) = true
          rw [h]
          rfl
        refine ⟨_, rfl, _, rfl, rfl, _, rfl, ?_⟩
        by_cases hq1 : q = -1
        · have hf : fitL true ls p q = true := by
            unfold fitL
            rw [if_pos hq1, hL]
            rfl
          refine ite2 (fun z => absurd z (by rw [decide_eq_true (by rw [hq1])]; exact Bool.false_ne_true)) (fun z => ?_)
          exact iteF ⟨_, rfl, rfl, go hf⟩
        refine ite2 (fun z => ?_) (fun z => absurd (by rw [decide_eq_false (fun e => hq1 (V.int.inj e))]; rfl) z)
        obtain ⟨t2, c2, hat2, et2⟩ := okq hm.1 hm.2 hq1
        cases hLq : getL ls q with
        | opt n' i' =>
          rw [hLq] at et2
          have et2' : H' t2 = some (.tup [.str "holds", .int i']) := et2
          have hf : fitL true ls p q = false := by
            unfold fitL
            rw [if_neg hq1, hL, hLq, if_pos (show ¬ (Lb.rep n rs).isRep = (Lb.opt n' i').isRep from fun e => nomatch e)]
          refine ⟨_, rfl, _, rfl, pp, _, _, _, rfl, rfl, sqt ep, hat2, t2, _, _, _, rfl, rfl, sqt et2', atI0, rfl, _, rfl, ?_⟩
          refine ite2 (fun z => iteT ?_) (fun z => absurd (show (!decide (V.str "holds" = V.str "driven")) = true by decide) z)
          exact fin _ (bad hf) H' (Same.refl _)
        | rep n' rs' =>
          rw [hLq] at et2
          have et2' : H' t2 = some (.tup [.str "driven", .int n', .ref c2]) := et2
          have hf : fitL true ls p q = decide (n' < n) := by
            unfold fitL
            rw [if_neg hq1, hL, hLq, if_neg (fun e => e rfl), if_pos (show (Lb.rep n rs).isRep = true from rfl)]
            rfl
          refine ⟨_, rfl, _, rfl, pp, _, _, _, rfl, rfl, sqt ep, hat2, t2, _, _, _, rfl, rfl, sqt et2', atI0, rfl, _, rfl, ?_⟩
          refine ite2 (fun z => absurd z (show ¬ (!decide (V.str "driven" = V.str "driven")) = true by decide)) (fun z => ?_)
          refine ⟨_, rfl, _, rfl, pp, _, _, _, rfl, rfl, sqt ep, hat2, t2, _, _, _, rfl, rfl, sqt et2', atI1, _, rfl, t1, _, _, _, rfl, rfl, sqt et1', atI1, _, _, rfl, rfl, _, rfl, ?_⟩
          by_cases hnn : n' < n
          · refine ite2 (fun z => absurd (of_decide_eq_true z) (by omega)) (fun z => ?_)
            exact ⟨_, rfl, rfl, go (by rw [hf]; exact decide_eq_true hnn)⟩
          · refine ite2 (fun z => ?_) (fun z => absurd (decide_eq_true (by omega)) z)
            exact (fin _ (bad (by rw [hf]; exact decide_eq_false hnn)) H' (Same.refl _))
      · rintro σ H' ⟨y5, rfl, rfl, hall⟩
        rw [List.length_map, List.take_length] at hall
        exact fin _ (by rw [hright, hall]) H' (Same.refl _)
end
end NL

set_option maxHeartbeats 8000000
namespace NL
open PySem PySem.Spec PyProof.Rows L2
theorem lbT_len (c : Addr) (st : Bool) (L : Lb) : (lbT c st L).length = 2 ∨ (lbT c st L).length = 3 := by cases st <;> cases L <;> first | exact .inl rfl | exact .inr rfl
/-- what stands at a place of a label, and what stands there behind a change -/
theorem lbT_at (c : Addr) (st : Bool) (L : Lb) {k : Nat} (h1 : 1 ≤ k) (h2 : k < (lbT c st L).length) : (∃ z, (lbT c st L)[k]? = some (.int z) ∧ ∀ z', ∃ L', (lbT c st L).set k (.int z') = lbT c st L' ∧ L'.isRep = L.isRep ∧ L'.rs = L.rs) ∨ (L.isRep = true ∧ (lbT c st L)[k]? = some (.ref c) ∧ ∀ c' rs', ∃ L', (lbT c st L).set k (.ref c') = lbT c' st L' ∧ L'.isRep = true ∧ L'.rs = rs') := by
  cases st <;> cases L
  · rename_i n i
    have : k = 1 ∨ k = 2 := by
      have : (lbT c false (.opt n i)).length = 3 := rfl
      omega
    rcases this with rfl | rfl
    · exact .inl ⟨n, rfl, fun z' => ⟨.opt z' i, rfl, rfl, rfl⟩⟩
    · exact .inl ⟨i, rfl, fun z' => ⟨.opt n z', rfl, rfl, rfl⟩⟩
  · rename_i n rs
    have : k = 1 := by
      have : (lbT c false (.rep n rs)).length = 2 := rfl
      omega
    subst this
    exact .inr ⟨rfl, rfl, fun c' rs' => ⟨.rep n rs', rfl, rfl, rfl⟩⟩
  · rename_i n i
    have : k = 1 := by
      have : (lbT c true (.opt n i)).length = 2 := rfl
      omega
    subst this
    exact .inl ⟨i, rfl, fun z' => ⟨.opt n z', rfl, rfl, rfl⟩⟩
  · rename_i n rs
    have : k = 1 ∨ k = 2 := by
      have : (lbT c true (.rep n rs)).length = 3 := rfl
      omega
    rcases this with rfl | rfl
    · exact .inl ⟨n, rfl, fun z' => ⟨.rep z' rs, rfl, rfl, rfl⟩⟩
    · exact .inr ⟨rfl, rfl, fun c' rs' => ⟨.rep n rs', rfl, rfl, rfl⟩⟩
theorem hd_mem (st : Bool) (L : Lb) : hdS st L = "holds" ∨ hdS st L = "driven" ∨ hdS st L = "comes" ∨ hdS st L = "away" := by
  cases st <;> cases L
  · exact .inr (.inr (.inl rfl))
  · exact .inr (.inr (.inr rfl))
  · exact .inl rfl
  · exact .inr (.inl rfl)
section
variable {P : Program} {w : World} {K : PySem.W.Frag} {mg : Str → Option Value} {base : Heap}
def spChg (st : Bool) : Sp := fun vs H Q _ => ∃ (d t c : Addr) (v : V) (L : Lb) (os : Pos') (n : Int), vs = [.ref d, .ref t, v, .int n] ∧ Dr H d ∧ H t = some (.tup (lbT c st L)) ∧ (L.isRep = true → H c = some (.tup (L.rs.map V.int))) ∧ PosIn H os v ∧ (∀ o ∈ os, o ≠ []) ∧ os.length ≤ 100 ∧ L.rs.length ≤ 1000 ∧ 0 ≤ n ∧ n ≤ 400 ∧
  ∀ t' L' H', Go d H H' → LbIn st H' L' (.ref t') → L'.rs.length ≤ max L.rs.length os.length + 1 → Q (.ref t') H'
theorem ok_law_changed (T : Txt K mg) (st : Bool) : FnOk P w K mg base CX0 2 T.a_law_changed T.d_law_changed P_law_changed (spChg st) := by
  have G_law_take := ok_law_take (P := P) (w := w) (base := base) T
  refine T.F_law_changed.ok sc_law_changed (fun vs H Q E h => ?_) (fun cdv A outer s H vs Q E hr h => ?_)
  · obtain ⟨d, t, c, v, L, os, n, rfl, _⟩ := h
    rfl
  obtain ⟨d, t, c, v, L, os, n, rfl, hD, et, ec, ⟨bo, ys, rfl, eo, hys⟩, hne, hol, hrl, n0, n1, q⟩ := h
  have hyl := hys.1
  obtain ⟨rt, ert⟩ := lbT_hd c st L
  refine ⟨_, (pss_cons (ps_set (i := 4) sc_law_changed.nd rfl (Or.inl rfl) (pe_call G_law_take (hr.mono (by omega)) (by rfl) T.m_law_take T.F_law_take.kp T.b_law_take .nil pass0 (pa_cons (pv 0) (pa_cons pe_int pa_nil))))
    (pss_cons (ps_set (i := 5) sc_law_changed.nd rfl (Or.inl rfl) (pe_callTy call_list_of (by rfl) T.z_list (by decide +kernel) (pa_cons (pv 1) pa_nil)))
    (pss_cons (ps_set (i := 6) sc_law_changed.nd rfl (Or.inl rfl) (pe_op op_add pe_int (pe_call G_law_take (hr.mono (by omega)) (by rfl) T.m_law_take T.F_law_take.kp T.b_law_take .nil pass0 (pa_cons (pv 0) (pa_cons (pe_op op_sub (pe_callB call_len_seq (by rfl) T.z_len PySem.boot_len (pa_cons (pv 5) pa_nil)) pe_int) pa_nil)))))
    (pss_cons (ps_if (pt_cmpR op_eq (pv 4) pe_int (nomark _))
    (pss_cons (ps_set (i := 7) sc_law_changed.nd rfl (Or.inl rfl) (pe_lst (pa_cons (pe_lst (pa_cons pe_str (pa_cons pe_str pa_nil))) (pa_cons (pe_lst (pa_cons pe_str (pa_cons pe_str pa_nil))) (pa_cons (pe_lst (pa_cons pe_str (pa_cons pe_str pa_nil))) (pa_cons (pe_lst (pa_cons pe_str (pa_cons pe_str pa_nil))) pa_nil))))))
    (pss_cons (ps_set (i := 8) sc_law_changed.nd rfl (Or.inl rfl) (pe_ix ix_list (pe_lc (own := [("names", 9)]) (g := (gName 9)) (tt := _) rfl sc_law_changed.nd (pi_list (pv 7)) (blkOk_by (N := N_law_changed) (sc := defScope s_law_changed) (by decide +kernel)) (fun _ _ _ _ _ => (pg_name (i := 9) sc_law_changed.nd rfl (Or.inl rfl))) (fun _ _ _ _ _ => (pts_one (pt_cmpR (op_in_seqK (K := K) rfl) (pe_ix (ix_tupK (K := K) rfl) (pv 1) pe_int (fun _ _ => rfl)) (pv 9) (by rfl)))) (fun _ _ _ _ _ => (pv 9))) pe_int (fun _ _ => rfl)))
    (pss_cons (ps_set (i := 10) sc_law_changed.nd rfl (Or.inl rfl) (pe_callTy call_tuple_of (by rfl) T.z_tuple (by decide +kernel) (pa_cons (pe_lc (own := [("option", 11)]) (g := (gName 11)) (tt := tYes) rfl sc_law_changed.nd (pi_tup (pv 2)) (blkOk_by (N := N_law_changed) (sc := defScope s_law_changed) (by decide +kernel)) (fun _ _ _ _ _ => (pg_name (i := 11) sc_law_changed.nd rfl (Or.inl rfl))) (fun _ _ _ _ _ => pts_nil) (fun _ _ _ _ _ => (pe_ix (ix_tupK (K := K) rfl) (pv 11) pe_int (fun _ _ => rfl)))) pa_nil)))
    (pss_cons (ps_if (PW.pt (pw_and (pt_cmpR op_eq (pe_ix ix_tup (pv 1) pe_int (fun _ _ => rfl)) (pe_ix ix_list (pv 8) pe_int (fun _ _ => rfl)) (nomark _)) (pw_and1 (pt_cmpR op_eq (pe_ix ix_list (pv 8) pe_int (fun _ _ => rfl)) pe_str (nomark _)))))
    (pss_one (ps_ret (pe_tup (pa_cons pe_str (pa_cons (pe_call G_law_take (hr.mono (by omega)) (by rfl) T.m_law_take T.F_law_take.kp T.b_law_take .nil pass0 (pa_cons (pv 0) (pa_cons (pe_op op_add (pe_callB call_len_seq (by rfl) T.z_len PySem.boot_len (pa_cons (pv 2) pa_nil)) pe_int) pa_nil))) pa_nil)))))
    pss_nil)
    (pss_cons (ps_if (pt_cmpR op_eq (pe_ix ix_tup (pv 1) pe_int (fun _ _ => rfl)) (pe_ix ix_list (pv 8) pe_int (fun _ _ => rfl)) (nomark _))
    (pss_one (ps_ret (pe_tup (pa_cons (pe_ix ix_list (pv 8) pe_int (fun _ _ => rfl)) (pa_cons (pe_ix ix_list (pe_lst (pa_cons (pe_ix ix_tup (pv 1) pe_int (fun _ _ => rfl)) (pa_cons pe_int pa_nil))) (pe_callTy call_int1 (by rfl) T.z_int (by decide +kernel) (pa_cons (pe_cmpR op_eq (pe_ix ix_tup (pv 1) pe_int (fun _ _ => rfl)) pe_str (nomark _)) pa_nil)) (fun _ _ => rfl)) (pa_cons pe_int pa_nil))))))
    pss_nil)
    (pss_cons (ps_if (pt_cmpR op_eq (pe_ix ix_list (pv 8) pe_int (fun _ _ => rfl)) pe_str (nomark _))
    (pss_one (ps_ret (pe_tup (pa_cons pe_str (pa_cons (pv 10) pa_nil)))))
    pss_nil)
    (pss_one (ps_ret (pe_tup (pa_cons (pe_ix ix_list (pv 8) pe_int (fun _ _ => rfl)) (pa_cons (pe_ix ix_list (pe_lst (pa_cons (pe_ix ix_tup (pv 1) pe_int (fun _ _ => rfl)) (pa_cons (pe_op op_add pe_int (pv 3)) pa_nil))) (pe_callTy call_int1 (by rfl) T.z_int (by decide +kernel) (pa_cons (pe_cmpR op_eq (pe_ix ix_tup (pv 1) pe_int (fun _ _ => rfl)) pe_str (nomark _)) pa_nil)) (fun _ _ => rfl)) (pa_cons (pv 10) pa_nil))))))))))))
    pss_nil)
    (pss_cons (ps_if (pt_val (pe_callB (call_isi) (by rfl) T.z_isinstance (by decide +kernel) (pa_cons (pe_ix ix_list (pv 5) (pv 6) (fun _ _ => rfl)) (pa_cons (pe_bltn (v := .ty "int") (u := .type "int") (by rfl) T.z_int (by decide +kernel) rfl) pa_nil))))
    (pss_cons (ps_asg (pe_op op_add (pe_ix ix_list (pv 5) (pv 6) (fun _ _ => rfl)) (pe_ix ix_list (pe_lst (pa_cons pe_int (pa_cons (pe_un un_neg pe_int) (pa_cons pe_int (pa_cons (pe_op op_sub (pe_un un_neg (pe_ix ix_list (pv 5) (pv 6) (fun _ _ => rfl))) pe_int) (pa_cons (pv 3) (pa_cons (pe_op op_pow pe_int pe_int) pa_nil))))))) (pe_call G_law_take (hr.mono (by omega)) (by rfl) T.m_law_take T.F_law_take.kp T.b_law_take .nil pass0 (pa_cons (pv 0) (pa_cons pe_int pa_nil))) (fun _ _ => rfl))) (pg_sub (pv 5) (pv 6) set_list))
    (pss_one (ps_ret (pe_callTy call_tuple_of (by rfl) T.z_tuple (by decide +kernel) (pa_cons (pv 5) pa_nil)))))
    pss_nil)
    (pss_cons (ps_set (i := 12) sc_law_changed.nd rfl (Or.inl rfl) (pe_callTy call_list_of (by rfl) T.z_list (by decide +kernel) (pa_cons (pe_ix ix_list (pv 5) (pv 6) (fun _ _ => rfl)) pa_nil)))
    (C8.pss_cut (ps_if (PW.pt (pw_or (pt_cmpR op_eq (pe_callB call_len_seq (by rfl) T.z_len PySem.boot_len (pa_cons (pv 12) pa_nil)) pe_int (nomark _)) (pw_or1 (pt_cmpR op_eq (pv 4) pe_int (nomark _)))))
    (pss_one (ps_expr (pe_bm PySem.F.plainAttrs_list PySem.F.slot_list_append PySem.F.type_list_append mt_append (pv 12) (pa_cons (pe_op op_sub (pe_call G_law_take (hr.mono (by omega)) (by rfl) T.m_law_take T.F_law_take.kp T.b_law_take .nil pass0 (pa_cons (pv 0) (pa_cons (pe_op op_add (pv 3) pe_int) pa_nil))) pe_int) pa_nil))))
    (pss_one (ps_if (pt_cmpR op_eq (pv 4) pe_int (nomark _))
    (pss_one (ps_expr (pe_bm0 PySem.F.plainAttrs_list PySem.F.slot_list_pop PySem.F.type_list_pop mt_pop (pv 12))))
    (pss_one (ps_if (PW.pt (pw_and (pt_cmpR op_eq (pv 4) pe_int (nomark _)) (pw_and1 (pt_cmpR op_in_seq (pe_ix ix_tup (pv 1) pe_int (fun _ _ => rfl)) (pe_lst (pa_cons pe_str (pa_cons pe_str pa_nil))) (by rfl)))))
    (pss_one (ps_asg (pe_un un_neg pe_int) (pg_sub (pv 12) (pe_call G_law_take (hr.mono (by omega)) (by rfl) T.m_law_take T.F_law_take.kp T.b_law_take .nil pass0 (pa_cons (pv 0) (pa_cons (pe_callB call_len_seq (by rfl) T.z_len PySem.boot_len (pa_cons (pv 12) pa_nil)) pa_nil))) set_list)))
    (pss_cons (ps_set (i := 13) sc_law_changed.nd rfl (Or.inl rfl) (pe_call G_law_take (hr.mono (by omega)) (by rfl) T.m_law_take T.F_law_take.kp T.b_law_take .nil pass0 (pa_cons (pv 0) (pa_cons (pe_callB call_len_seq (by rfl) T.z_len PySem.boot_len (pa_cons (pv 12) pa_nil)) pa_nil))))
    (pss_one (ps_asg (pe_ix ix_list (pe_lst (pa_cons (pe_op op_add (pe_ix ix_list (pv 12) (pv 13) (fun _ _ => rfl)) pe_int) (pa_cons (pe_op op_sub (pe_ix ix_list (pv 12) (pv 13) (fun _ _ => rfl)) pe_int) (pa_cons (pe_op op_sub (pe_call G_law_take (hr.mono (by omega)) (by rfl) T.m_law_take T.F_law_take.kp T.b_law_take .nil pass0 (pa_cons (pv 0) (pa_cons (pe_op op_add (pv 3) pe_int) pa_nil))) pe_int) pa_nil)))) (pe_call G_law_take (hr.mono (by omega)) (by rfl) T.m_law_take T.F_law_take.kp T.b_law_take .nil pass0 (pa_cons (pv 0) (pa_cons pe_int pa_nil))) (fun _ _ => rfl)) (pg_sub (pv 12) (pv 13) set_list)))))))))
    (pss_cons (ps_asg (pe_callTy call_tuple_of (by rfl) T.z_tuple (by decide +kernel) (pa_cons (pv 12) pa_nil)) (pg_sub (pv 5) (pv 6) set_list))
    (pss_one (ps_ret (pe_callTy call_tuple_of (by rfl) T.z_tuple (by decide +kernel) (pa_cons (pv 5) pa_nil)))))))))))), ?_⟩
  refine ⟨_, rfl, d, 8, rfl, hD, by decide, fun k H1 g1 a1 b1 => ?_⟩
  have et1 := g1.tp hD _ _ et
  refine ⟨_, rfl, t, _, rfl, .inr (sqt et1), fun p hp => ?_⟩
  have hpd := new_ne g1.dr hp
  have hp0 := g1.free hp
  obtain ⟨H2, e2, s2, kp⟩ := newH hp (.lst (lbT c st L))
  rw [e2]
  have g2 := g1.trans (.same g1.dr s2)
  have hlen := lbT_len c st L
  refine ⟨_, rfl, _, rfl, p, _, rfl, .inl (sqd kp), _, _, rfl, rfl, d, _, rfl, g2.dr, by omega, fun u H3 g3 a3 b3 => ⟨_, _, rfl, rfl, ?_⟩⟩
  have g23 := g2.trans g3
  have kp3 := g3.fr p _ hpd kp
  have et3 := g23.tp hD _ _ et
  have eo3 := g23.tp hD _ _ eo
  refine ⟨_, rfl, rfl, _, rfl, ?_⟩
  by_cases hk0 : k = 0
  · refine ite2 (fun z => ?_) (fun z => absurd (decide_eq_true (by rw [hk0])) z)
    refine ⟨Nat.le_of_ble_eq_true rfl, fun o1 ho1 => ?_⟩
    obtain ⟨Ha, ea, sa, ka⟩ := newH ho1 (.lst [V.str "holds", V.str "driven"])
    rw [ea]
    refine ⟨Nat.le_of_ble_eq_true rfl, fun o2 ho2 => ?_⟩
    obtain ⟨Hb, eb, sb, kb⟩ := newH ho2 (.lst [V.str "comes", V.str "away"])
    rw [eb]
    refine ⟨Nat.le_of_ble_eq_true rfl, fun o3 ho3 => ?_⟩
    obtain ⟨Hc, ec', sc, kc⟩ := newH ho3 (.lst [V.str "even", V.str "odd"])
    rw [ec']
    refine ⟨Nat.le_of_ble_eq_true rfl, fun o4 ho4 => ?_⟩
    obtain ⟨Hd, ed, sd, kd⟩ := newH ho4 (.lst [V.str "keeps", V.str "drained"])
    rw [ed]
    refine ⟨Nat.le_of_ble_eq_true rfl, fun oo hoo => ?_⟩
    obtain ⟨He, ee, se, ke⟩ := newH hoo (.lst [V.ref o1, V.ref o2, V.ref o3, V.ref o4])
    rw [ee]
    have s3e := (((sa.trans sb).trans sc).trans sd).trans se
    have k1e := (((sb.trans sc).trans sd).trans se) _ _ ka
    have k2e := ((sc.trans sd).trans se) _ _ kb
    have k3e := (sd.trans se) _ _ kc
    have k4e := se _ _ kd
    have ete : He t = some (.tup (.str (hdS st L) :: rt)) := by rw [← ert]; exact s3e _ _ et3
    have g3e := g23.trans (.same g23.dr s3e)
    -- the pair
    refine ⟨_, rfl, oo, rfl, ⟨_, sqd ke⟩, fun Lp hLp => ?_⟩
    refine lc_list (K := K) (a := oo) (xs := [V.ref o1, V.ref o2, V.ref o3, V.ref o4]) (fun (j : Nat) (H' : Hp) => Same He H' ∧ H' Lp = some (.lst (if (if st = true then 1 else 2) ≤ j then [V.ref (if st = true then o1 else o2)] else []))) ?_ ?_ ?_ ?_
    · exact ⟨same_new hLp _, by rw [upd_same]; cases st <;> rfl⟩
    · rintro j H' _ ⟨sx, _⟩
      exact sqd (sx _ _ ke)
    · rintro j x H' hx ⟨sx, kx⟩
      refine ⟨rfl, ?_⟩
      have etx := sx _ _ ete
      match j, hx with
      | 0, hx =>
        cases hx
        refine ⟨_, rfl, t, _, _, _, rfl, rfl, sqt etx, atI0, _, rfl, o1, _, rfl, .inl (sqd (sx _ _ k1e)), rfl, by decide, _, rfl, ?_⟩
        cases st with
        | true =>
          refine ite2 (fun z => ?_) (fun z => absurd (by cases L <;> exact (rfl : true = true)) z)
          exact ⟨_, rfl, _, kx, big' (Nat.le_of_ble_eq_true rfl), same_put sx hLp, upd_same⟩
        | false =>
          refine ite2 (fun z => absurd z (by cases L <;> exact Bool.false_ne_true)) (fun z => ⟨sx, kx⟩)
      | 1, hx =>
        cases hx
        refine ⟨_, rfl, t, _, _, _, rfl, rfl, sqt etx, atI0, _, rfl, o2, _, rfl, .inl (sqd (sx _ _ k2e)), rfl, by decide, _, rfl, ?_⟩
        cases st with
        | true =>
          refine ite2 (fun z => absurd z (by cases L <;> exact Bool.false_ne_true)) (fun z => ⟨sx, kx⟩)
        | false =>
          refine ite2 (fun z => ?_) (fun z => absurd (by cases L <;> exact (rfl : true = true)) z)
          exact ⟨_, rfl, _, kx, big' (Nat.le_of_ble_eq_true rfl), same_put sx hLp, upd_same⟩
      | 2, hx =>
        cases hx
        refine ⟨_, rfl, t, _, _, _, rfl, rfl, sqt etx, atI0, _, rfl, o3, _, rfl, .inl (sqd (sx _ _ k3e)), rfl, by decide, _, rfl, ?_⟩
        refine ite2 (fun z => absurd z (by cases st <;> cases L <;> exact Bool.false_ne_true)) (fun z => ⟨sx, by rw [kx]; cases st <;> rfl⟩)
      | 3, hx =>
        cases hx
        refine ⟨_, rfl, t, _, _, _, rfl, rfl, sqt etx, atI0, _, rfl, o4, _, rfl, .inl (sqd (sx _ _ k4e)), rfl, by decide, _, rfl, ?_⟩
        refine ite2 (fun z => absurd z (by cases st <;> cases L <;> exact Bool.false_ne_true)) (fun z => ⟨sx, by rw [kx]; cases st <;> rfl⟩)
      | j + 4, hx => cases hx
    rintro Hf ⟨sf, kf⟩
    have kf' : Hf Lp = some (.lst [V.ref (if st = true then o1 else o2)]) := by rw [kf]; cases st <;> rfl
    refine ⟨Lp, _, _, _, rfl, rfl, sqd kf', atI0, ?_⟩
    have eof := sf _ _ (s3e _ _ eo3)
    have g3f := g3e.trans (.same g3e.dr sf)
    have hysf : Each (OptIn Hf) os ys := hys.mono fun o x => OptIn.tp (g3f.tp hD)
    -- the first replies
    refine ⟨_, rfl, bo, rfl, ⟨_, sqt eof⟩, fun Lr hLr => ?_⟩
    refine lc_tup (K := K) (a := bo) (xs := ys) (fun (j : Nat) (H' : Hp) => Same Hf H' ∧ H' Lr = some (.lst (((os.take j).map fun o => o.headD 0).map V.int))) ?_ ?_ ?_ ?_
    · exact ⟨same_new hLr _, upd_same⟩
    · rintro j H' _ ⟨sx, _⟩
      exact sqt (sx _ _ eof)
    · rintro j x H' hx ⟨sx, kx⟩
      refine ⟨rfl, yes_if ?_⟩
      have hj := (List.getElem?_eq_some_iff.mp hx).1
      obtain ⟨o, ho⟩ : ∃ o, os[j]? = some o := ⟨_, List.getElem?_eq_getElem (by omega)⟩
      obtain ⟨b, rfl, eb'⟩ := hysf.2 j o x ho hx
      obtain ⟨q0, qr, rfl⟩ : ∃ q0 qr, o = q0 :: qr := by
        cases o with
        | nil => exact absurd rfl (hne _ (List.mem_of_getElem? ho))
        | cons q0 qr => exact ⟨_, _, rfl⟩
      refine ⟨_, rfl, b, _, _, _, rfl, rfl, sqt (sx _ _ eb'), atI0, _, kx, big' (by rw [List.length_map, List.length_map, List.length_take]; omega), same_put sx hLr, ?_⟩
      rw [upd_same, List.take_add_one, ho, List.map_append, List.map_append]
      rfl
    rintro Hg ⟨sg, kg⟩
    rw [hyl, List.take_length] at kg
    refine ⟨Lr, _, rfl, .inl ⟨sqd kg, fun tr htr => ?_⟩⟩
    obtain ⟨Hh, eh, sh, kh⟩ := newH htr (.tup ((os.map fun o => o.headD 0).map V.int))
    rw [eh]
    have sfh := sg.trans sh
    have seh := sf.trans sfh
    have eth := seh _ _ ete
    have g3h := g3f.trans (.same g3f.dr sfh)
    have eoh := sfh _ _ eof
    have kow : Hh (if st = true then o1 else o2) = some (.lst (if st = true then [V.str "holds", V.str "driven"] else [V.str "comes", V.str "away"])) := by
      cases st
      · exact seh _ _ k2e
      · exact seh _ _ k1e
    have hl2 : (os.map fun o => o.headD 0).length = os.length := List.length_map _
    have fet : Hh t = some (.tup (lbT c st L)) := by rw [ert]; exact eth
    cases st with
    | true =>
      have kow : Hh o1 = some (.lst [V.str "holds", V.str "driven"]) := kow
      cases L with
      | opt ln li =>
        have fet : Hh t = some (.tup [.str "holds", .int li]) := fet
        refine ⟨_, rfl, t, _, _, _, rfl, rfl, sqt fet, atI0, _, rfl, o1, _, _, _, rfl, rfl, sqd kow, atI1, rfl, _, rfl, ?_⟩
        refine ifF (by decide) (iteF ?_)
        refine ⟨_, rfl, t, _, _, _, rfl, rfl, sqt fet, atI0, _, rfl, o1, _, _, _, rfl, rfl, sqd kow, atI1, rfl, _, rfl, ?_⟩
        refine ifF (by decide) ?_
        refine ⟨_, rfl, o1, _, _, _, rfl, rfl, sqd kow, atI1, rfl, _, rfl, ?_⟩
        refine ifF (by decide) ?_
        refine ⟨_, rfl, o1, _, _, _, rfl, rfl, sqd kow, atI1, _, rfl, t, _, _, _, rfl, rfl, sqt fet, atI1, _, rfl, _, _, rfl, rfl, Nat.le_of_ble_eq_true rfl, fun ml hml => ?_⟩
        obtain ⟨Hi, ei, si, ki⟩ := newH hml (.lst [V.int li, V.int (1 + n)])
        have ei' := ei
        rw [ei]
        refine ⟨_, rfl, t, _, _, _, rfl, rfl, sqt (si _ _ fet), atI0, rfl, .inr ⟨_, rfl, ml, _, _, _, rfl, rfl, sqd ki, rfl, _, rfl, Nat.le_of_ble_eq_true rfl, fun tz htz => ?_⟩⟩
        obtain ⟨Hj, ej, sj, kj⟩ := newH htz (.tup [V.str "driven", V.int (1 + n), V.ref tr])
        have ej' : upd Hi tz (.tup [V.str "driven", V.int (1 + n), V.ref tr]) = Hj := ej
        rw [ej']
        have gi : Go d H Hi := g3h.trans (.same g3h.dr si)
        have gz := gi.trans (.same gi.dr sj)
        exact q tz (.rep (1 + n) (os.map fun (o : Opt) => List.headD o (0 : Int))) Hj gz ⟨tz, tr, rfl, kj, fun _ => (si.trans sj) _ _ kh⟩ (by show (os.map fun o => o.headD 0).length ≤ _; omega)
      | rep ln lrs =>
        have fet : Hh t = some (.tup [.str "driven", .int ln, .ref c]) := fet
        refine ⟨_, rfl, t, _, _, _, rfl, rfl, sqt fet, atI0, _, rfl, o1, _, _, _, rfl, rfl, sqd kow, atI1, rfl, _, rfl, ?_⟩
        refine ifT (by decide) ?_
        refine ⟨_, rfl, o1, _, _, _, rfl, rfl, sqd kow, atI0, rfl, _, rfl, ?_⟩
        refine ifT (by decide) ?_
        refine ⟨_, rfl, _, rfl, bo, _, rfl, .inr (sqt eoh), _, _, rfl, rfl, d, _, rfl, g3h.dr, by omega, fun w Hi gi ai bi => ⟨Nat.le_of_ble_eq_true rfl, fun tz htz => ?_⟩⟩
        obtain ⟨Hj, ej, sj, kj⟩ := newH htz (.tup [V.str "holds", V.int w])
        rw [ej]
        have gz := (g3h.trans gi).trans (.same gi.dr sj)
        exact q tz (.opt 0 w) Hj gz ⟨tz, c, rfl, kj, fun e => absurd e Bool.false_ne_true⟩ (Nat.zero_le _)
    | false =>
      have kow : Hh o2 = some (.lst [V.str "comes", V.str "away"]) := kow
      cases L with
      | opt ln li =>
        have fet : Hh t = some (.tup [.str "comes", .int ln, .int li]) := fet
        refine ⟨_, rfl, t, _, _, _, rfl, rfl, sqt fet, atI0, _, rfl, o2, _, _, _, rfl, rfl, sqd kow, atI1, rfl, _, rfl, ?_⟩
        refine ifF (by decide) (iteF ?_)
        refine ⟨_, rfl, t, _, _, _, rfl, rfl, sqt fet, atI0, _, rfl, o2, _, _, _, rfl, rfl, sqd kow, atI1, rfl, _, rfl, ?_⟩
        refine ifF (by decide) ?_
        refine ⟨_, rfl, o2, _, _, _, rfl, rfl, sqd kow, atI1, rfl, _, rfl, ?_⟩
        refine ifT (by decide) ?_
        refine ⟨_, rfl, Nat.le_of_ble_eq_true rfl, fun tz htz => ?_⟩
        obtain ⟨Hj, ej, sj, kj⟩ := newH htz (.tup [V.str "away", V.ref tr])
        rw [ej]
        have gz := g3h.trans (.same g3h.dr sj)
        exact q tz (.rep 0 (os.map fun (o : Opt) => List.headD o (0 : Int))) Hj gz ⟨tz, tr, rfl, kj, fun _ => sj _ _ kh⟩ (by show (os.map fun o => o.headD 0).length ≤ _; omega)
      | rep ln lrs =>
        have fet : Hh t = some (.tup [.str "away", .ref c]) := fet
        refine ⟨_, rfl, t, _, _, _, rfl, rfl, sqt fet, atI0, _, rfl, o2, _, _, _, rfl, rfl, sqd kow, atI1, rfl, _, rfl, ?_⟩
        refine ifT (by decide) ?_
        refine ⟨_, rfl, o2, _, _, _, rfl, rfl, sqd kow, atI0, rfl, _, rfl, ?_⟩
        refine ifF (by decide) ?_
        refine ⟨_, rfl, t, _, _, _, rfl, rfl, sqt fet, atI0, _, rfl, o2, _, _, _, rfl, rfl, sqd kow, atI1, rfl, _, rfl, ?_⟩
        refine ifT (by decide) ?_
        refine ⟨_, rfl, o2, _, _, _, rfl, rfl, sqd kow, atI0, _, rfl, t, _, _, _, rfl, rfl, sqt fet, atI1, Nat.le_of_ble_eq_true rfl, fun ml hml => ?_⟩
        obtain ⟨Hi, ei, si, ki⟩ := newH hml (.lst [V.ref c, V.int 1])
        rw [ei]
        refine ⟨_, rfl, t, _, _, _, rfl, rfl, sqt (si _ _ fet), atI0, rfl, .inr ⟨_, rfl, ml, _, _, _, rfl, rfl, sqd ki, rfl, Nat.le_of_ble_eq_true rfl, fun tz htz => ?_⟩⟩
        obtain ⟨Hj, ej, sj, kj⟩ := newH htz (.tup [V.str "comes", V.int 1, V.int 0])
        rw [ej]
        have gi : Go d H Hi := g3h.trans (.same g3h.dr si)
        have gz := gi.trans (.same gi.dr sj)
        exact q tz (.opt 1 0) Hj gz ⟨tz, c, rfl, kj, fun e => absurd e Bool.false_ne_true⟩ (Nat.zero_le _)
  refine ite2 (fun z => absurd (V.int.inj (of_decide_eq_true z)) hk0) (fun z => ?_)
  -- a number or a row
  obtain ⟨m, hm⟩ : ∃ m : Nat, 1 + u = (m : Int) := ⟨(1 + u).toNat, by omega⟩
  have hm1 : 1 ≤ m := by omega
  have hm2 : m < (lbT c st L).length := by omega
  have hix : ixN (lbT c st L).length (1 + u) = some m := by
    rw [hm]
    unfold ixN
    rw [if_pos (by omega), if_pos (by omega), Int.toNat_natCast]
  rcases lbT_at c st L hm1 hm2 with ⟨z0, hz0, hset⟩ | ⟨hrep, hz0, hset⟩
  · have hat : atI (lbT c st L) (1 + u) = some (.int z0) := by rw [hm]; exact atI_nat hz0
    refine ⟨_, rfl, _, rfl, p, _, _, _, rfl, rfl, sqd kp3, hat, _, _, .type "int", .type "int", true, rfl, .ty "int", .base (.int _), kit_ty (by decide +kernel), _, rfl, ?_⟩
    refine iteT ?_
    refine ⟨_, rfl, _, rfl, p, _, _, _, rfl, rfl, sqd kp3, hat, ?_⟩
    refine ⟨_, rfl, _, rfl, _, rfl, p, _, _, _, rfl, rfl, sqd kp3, hat, _, rfl, _, _, rfl, rfl, _, rfl, _, _, rfl, rfl, ⟨by decide, by decide, by decide⟩, Nat.le_of_ble_eq_true rfl, fun ml hml => ?_⟩
    have hmld := new_ne g23.dr hml
    obtain ⟨H4, e4, s4, k4⟩ := newH hml (.lst [V.int 1, V.int (-1), V.int 2, V.int (-z0 - 1), V.int n, V.int ((10 : Int) ^ (20 : Int).toNat)])
    have e4' := e4
    rw [e4]
    have g4 := g23.trans (.same g23.dr s4)
    refine ⟨_, rfl, d, 6, rfl, g4.dr, by decide, fun w H5 g5 a5 b5 => ?_⟩
    have k5 := g5.fr ml _ hmld k4
    have kp5 := g5.fr p _ hpd (s4 _ _ kp3)
    obtain ⟨wv, hwv⟩ : ∃ wv, atI [V.int 1, V.int (-1), V.int 2, V.int (-z0 - 1), V.int n, V.int ((10 : Int) ^ (20 : Int).toNat)] w = some (.int wv) := by
      obtain rfl | rfl | rfl | rfl | rfl | rfl : w = 0 ∨ w = 1 ∨ w = 2 ∨ w = 3 ∨ w = 4 ∨ w = 5 := by omega
      all_goals exact ⟨_, rfl⟩
    obtain ⟨L', hL', hLr, hLs⟩ := hset (z0 + wv)
    refine ⟨ml, _, _, _, rfl, rfl, sqd k5, hwv, _, _, rfl, rfl, _, rfl, _, rfl, p, _, _, _, rfl, rfl, kp5, hix, ?_⟩
    have g5' := (g4.trans g5).put2 (o := .lst ((lbT c st L).set m (.int (z0 + wv)))) hp0 hpd
    have kp6 : (upd H5 p (.lst ((lbT c st L).set m (.int (z0 + wv))))) p = some (.lst ((lbT c st L).set m (.int (z0 + wv)))) := upd_same
    generalize upd H5 p (.lst ((lbT c st L).set m (.int (z0 + wv)))) = H6 at g5' kp6 ⊢
    refine ⟨_, rfl, p, _, rfl, .inl ⟨sqd kp6, fun tr htr => ?_⟩⟩
    obtain ⟨H7, e7, s7, k7⟩ := newH htr (.tup ((lbT c st L).set m (.int (z0 + wv))))
    rw [e7]
    rw [hL'] at k7
    have g7 := g5'.trans (.same g5'.dr s7)
    exact q tr L' H7 g7 ⟨tr, c, rfl, k7, fun e => by rw [hLs]; exact g7.tp hD _ _ (ec (by rw [← hLr]; exact e))⟩ (by rw [hLs]; omega)
  · have hat : atI (lbT c st L) (1 + u) = some (.ref c) := by rw [hm]; exact atI_nat hz0
    have ec3 := g23.tp hD _ _ (ec hrep)
    refine ⟨_, rfl, _, rfl, p, _, _, _, rfl, rfl, sqd kp3, hat, _, _, .type "tuple", .type "int", false, rfl, .ty "int", .base (.tup ec3), kit_ty (by decide +kernel), _, rfl, ?_⟩
    refine iteF ?_
    refine ⟨_, rfl, _, rfl, p, _, _, _, rfl, rfl, sqd kp3, hat, c, _, rfl, .inr (sqt ec3), fun r hr0 => ?_⟩
    have hrd := new_ne g23.dr hr0
    have hr0' := g23.free hr0
    have hrp : r ≠ p := fun e => by
      rw [e, kp3] at hr0
      cases hr0
    obtain ⟨H4, e4, s4, k4⟩ := newH hr0 (.lst (L.rs.map V.int))
    rw [e4]
    have g4 := g23.trans (.same g23.dr s4)
    have kp4 := s4 _ _ kp3
    have et4 := s4 _ _ et3
    refine ⟨fun σ' H' => ∃ (rs' : List Int) (y13 : Option V), σ' = [some (.ref d), some (.ref t), some (.ref bo), some (.int n), some (.int k), some (.ref p), some (.int (1 + u)), none, none, none, none, none, some (.ref r), y13] ∧ Go d H H' ∧ H' r = some (.lst (rs'.map V.int)) ∧ H' p = some (.lst (lbT c st L)) ∧ rs'.length ≤ L.rs.length + 1, ?_, ?_⟩
    · refine ⟨_, rfl, r, _, rfl, .inl (sqd k4), rfl, _, rfl, ?_⟩
      rw [List.length_map]
      by_cases hl0 : L.rs.length = 0
      · refine ite2 (fun z => iteT ?_) (fun z => absurd (decide_eq_true (by rw [hl0]; rfl)) z)
        refine ⟨_, rfl, .inl ⟨rfl, _, sqd k4⟩, _, rfl, _, rfl, _, _, rfl, rfl, d, _, rfl, g4.dr, by omega, fun w H5 g5 a5 b5 => ⟨_, _, rfl, rfl, ?_⟩⟩
        have k5 := g5.fr r _ hrd k4
        refine ⟨r, _, _, rfl, rfl, k5, big' (by rw [List.length_map]; omega), ?_⟩
        have gz := (g4.trans g5).put2 (o := .lst (L.rs.map V.int ++ [V.int (w - 1)])) hr0' hrd
        exact ⟨L.rs ++ [w - 1], _, rfl, gz, by rw [upd_same, List.map_append]; rfl, by rw [upd_ne hrp.symm]; exact g5.fr p _ hpd kp4, by rw [List.length_append]; exact Nat.le_refl _⟩
      refine ite2 (fun z => absurd (V.int.inj (of_decide_eq_true z)) (by omega)) (fun z => ?_)
      refine ⟨_, rfl, rfl, _, rfl, ?_⟩
      by_cases hk1 : k = 1
      · refine ite2 (fun z => ?_) (fun z => absurd (decide_eq_true (by rw [hk1])) z)
        refine ⟨_, rfl, .inl ⟨rfl, _, sqd k4⟩, _, rfl, _, rfl, _, _, rfl, rfl, d, _, rfl, g4.dr, by omega, fun w H5 g5 a5 b5 => ⟨_, _, rfl, rfl, ?_⟩⟩
        have k5 := g5.fr r _ hrd k4
        refine ⟨r, _, _, rfl, rfl, k5, big' (by rw [List.length_map]; omega), ?_⟩
        have gz := (g4.trans g5).put2 (o := .lst (L.rs.map V.int ++ [V.int (w - 1)])) hr0' hrd
        exact ⟨L.rs ++ [w - 1], _, rfl, gz, by rw [upd_same, List.map_append]; rfl, by rw [upd_ne hrp.symm]; exact g5.fr p _ hpd kp4, by rw [List.length_append]; exact Nat.le_refl _⟩
      refine ite2 (fun z => absurd (V.int.inj (of_decide_eq_true z)) hk1) (fun z => ?_)
      refine ⟨_, rfl, rfl, _, rfl, ?_⟩
      by_cases hk2 : k = 2
      · refine ite2 (fun z => ?_) (fun z => absurd (decide_eq_true (by rw [hk2])) z)
        obtain ⟨yl, hyl'⟩ : ∃ yl, (L.rs.map V.int)[(L.rs.map V.int).length - 1]? = some yl := ⟨_, List.getElem?_eq_getElem (by rw [List.length_map]; omega)⟩
        refine ⟨_, rfl, .inl ⟨rfl, _, sqd k4⟩, r, _, yl, rfl, rfl, k4, hyl', ?_⟩
        have gz := g4.put2 (o := .lst (L.rs.map V.int).dropLast) hr0' hrd
        exact ⟨L.rs.dropLast, _, rfl, gz, by rw [upd_same, List.map_dropLast], by rw [upd_ne hrp.symm]; exact kp4, by rw [List.length_dropLast]; omega⟩
      refine ite2 (fun z => absurd (V.int.inj (of_decide_eq_true z)) hk2) (fun z => ?_)
      refine ⟨_, rfl, rfl, _, rfl, ?_⟩
      by_cases hk3 : k = 3
      · refine ite2 (fun z => ?_) (fun z => absurd (decide_eq_true (by rw [hk3])) z)
        have et4' : H4 t = some (.tup (.str (hdS st L) :: rt)) := by rw [et4, ert]
        refine ⟨_, rfl, t, _, _, _, rfl, rfl, sqt et4', atI0, Nat.le_of_ble_eq_true rfl, fun kl hkl => ?_⟩
        obtain ⟨H4b, e4b, s4b, k4b⟩ := newH hkl (.lst [V.str "even", V.str "odd"])
        rw [e4b]
        have g4b := g4.trans (.same g4.dr s4b)
        have k4r := s4b _ _ k4
        have kp4b := s4b _ _ kp4
        refine ⟨kl, _, rfl, .inl (sqd k4b), rfl, rfl, _, rfl, ?_⟩
        refine ite2 (fun z => absurd z (by rcases hd_mem st L with h | h | h | h <;> rw [h] <;> decide)) (fun z => ?_)
        refine ⟨_, rfl, _, rfl, r, _, rfl, .inl (sqd k4r), d, _, rfl, g4b.dr, by rw [List.length_map]; omega, fun pz H5 g5 a5 b5 => ?_⟩
        rw [List.length_map] at b5
        have gp := g4b.trans g5
        have k5 := g5.fr r _ hrd k4r
        have kp5 := g5.fr p _ hpd kp4b
        obtain ⟨j, hj⟩ : ∃ j : Nat, pz = (j : Int) := ⟨pz.toNat, by omega⟩
        obtain ⟨rz, hrz⟩ : ∃ rz, L.rs[j]? = some rz := ⟨_, List.getElem?_eq_getElem (by omega)⟩
        have hatr : atI (L.rs.map V.int) pz = some (.int rz) := by rw [hj]; exact atI_nat (by rw [List.getElem?_map, hrz]; rfl)
        refine ⟨_, rfl, _, rfl, r, _, _, _, rfl, rfl, sqd k5, hatr, _, _, rfl, rfl, _, rfl, _, rfl, r, _, _, _, rfl, rfl, sqd k5, hatr, _, _, rfl, rfl, _, rfl, _, rfl, _, _, rfl, rfl, d, _, rfl, gp.dr, by omega, fun w H6 g6 a6 b6 => ⟨_, _, rfl, rfl, Nat.le_of_ble_eq_true rfl, fun ml hml => ?_⟩⟩
        have gq := gp.trans g6
        have hmld := new_ne gq.dr hml
        obtain ⟨H7, e7, s7, k7⟩ := newH hml (.lst [V.int (rz + 1), V.int (rz - 1), V.int (w - 1)])
        rw [e7]
        have gq7 := gq.trans (.same gq.dr s7)
        refine ⟨_, rfl, d, 3, rfl, gq7.dr, by decide, fun x H8 g8 a8 b8 => ?_⟩
        have k8 := g8.fr ml _ hmld k7
        have kr8 := g8.fr r _ hrd (s7 _ _ (g6.fr r _ hrd k5))
        have kp8 := g8.fr p _ hpd (s7 _ _ (g6.fr p _ hpd kp5))
        obtain ⟨wv, hwv⟩ : ∃ wv, atI [V.int (rz + 1), V.int (rz - 1), V.int (w - 1)] x = some (.int wv) := by
          obtain rfl | rfl | rfl : x = 0 ∨ x = 1 ∨ x = 2 := by omega
          all_goals exact ⟨_, rfl⟩
        have hixr : ixN (L.rs.map V.int).length pz = some j := by
          rw [hj, List.length_map]
          unfold ixN
          rw [if_pos (by omega), if_pos (by omega), Int.toNat_natCast]
        refine ⟨ml, _, _, _, rfl, rfl, sqd k8, hwv, _, rfl, _, rfl, r, _, _, _, rfl, rfl, kr8, hixr, ?_⟩
        have gz := (gq7.trans g8).put2 (o := .lst ((L.rs.map V.int).set j (.int wv))) hr0' hrd
        exact ⟨L.rs.set j wv, _, rfl, gz, by rw [upd_same, List.map_set], by rw [upd_ne hrp.symm]; exact kp8, by rw [List.length_set]; omega⟩
      refine ite2 (fun z => absurd (V.int.inj (of_decide_eq_true z)) hk3) (fun z => iteF ?_)
      refine ⟨_, rfl, _, rfl, r, _, rfl, .inl (sqd k4), d, _, rfl, g4.dr, by rw [List.length_map]; omega, fun pz H5 g5 a5 b5 => ?_⟩
      rw [List.length_map] at b5
      have gp := g4.trans g5
      have k5 := g5.fr r _ hrd k4
      have kp5 := g5.fr p _ hpd kp4
      obtain ⟨j, hj⟩ : ∃ j : Nat, pz = (j : Int) := ⟨pz.toNat, by omega⟩
      obtain ⟨rz, hrz⟩ : ∃ rz, L.rs[j]? = some rz := ⟨_, List.getElem?_eq_getElem (by omega)⟩
      have hatr : atI (L.rs.map V.int) pz = some (.int rz) := by rw [hj]; exact atI_nat (by rw [List.getElem?_map, hrz]; rfl)
      refine ⟨_, rfl, _, rfl, r, _, _, _, rfl, rfl, sqd k5, hatr, _, _, rfl, rfl, _, rfl, _, rfl, r, _, _, _, rfl, rfl, sqd k5, hatr, _, _, rfl, rfl, _, rfl, _, rfl, _, _, rfl, rfl, d, _, rfl, gp.dr, by omega, fun w H6 g6 a6 b6 => ⟨_, _, rfl, rfl, Nat.le_of_ble_eq_true rfl, fun ml hml => ?_⟩⟩
      have gq := gp.trans g6
      have hmld := new_ne gq.dr hml
      obtain ⟨H7, e7, s7, k7⟩ := newH hml (.lst [V.int (rz + 1), V.int (rz - 1), V.int (w - 1)])
      rw [e7]
      have gq7 := gq.trans (.same gq.dr s7)
      refine ⟨_, rfl, d, 3, rfl, gq7.dr, by decide, fun x H8 g8 a8 b8 => ?_⟩
      have k8 := g8.fr ml _ hmld k7
      have kr8 := g8.fr r _ hrd (s7 _ _ (g6.fr r _ hrd k5))
      have kp8 := g8.fr p _ hpd (s7 _ _ (g6.fr p _ hpd kp5))
      obtain ⟨wv, hwv⟩ : ∃ wv, atI [V.int (rz + 1), V.int (rz - 1), V.int (w - 1)] x = some (.int wv) := by
        obtain rfl | rfl | rfl : x = 0 ∨ x = 1 ∨ x = 2 := by omega
        all_goals exact ⟨_, rfl⟩
      have hixr : ixN (L.rs.map V.int).length pz = some j := by
        rw [hj, List.length_map]
        unfold ixN
        rw [if_pos (by omega), if_pos (by omega), Int.toNat_natCast]
      refine ⟨ml, _, _, _, rfl, rfl, sqd k8, hwv, _, rfl, _, rfl, r, _, _, _, rfl, rfl, kr8, hixr, ?_⟩
      have gz := (gq7.trans g8).put2 (o := .lst ((L.rs.map V.int).set j (.int wv))) hr0' hrd
      exact ⟨L.rs.set j wv, _, rfl, gz, by rw [upd_same, List.map_set], by rw [upd_ne hrp.symm]; exact kp8, by rw [List.length_set]; omega⟩
    · rintro σ' H5 ⟨rs', y13, rfl, g5, k5, kp5, hl5⟩
      refine ⟨_, rfl, r, _, rfl, .inl ⟨sqd k5, fun tr htr => ?_⟩⟩
      obtain ⟨H6, e6, s6, k6⟩ := newH htr (.tup (rs'.map V.int))
      rw [e6]
      have g6 := g5.trans (.same g5.dr s6)
      have kp6 := s6 _ _ kp5
      obtain ⟨L', hL', hLr, hLs⟩ := hset tr rs'
      refine ⟨_, rfl, _, rfl, p, _, _, _, rfl, rfl, kp6, hix, ?_⟩
      have g6' := g6.put2 (o := .lst ((lbT c st L).set m (.ref tr))) hp0 hpd
      have ktr : (upd H6 p (.lst ((lbT c st L).set m (.ref tr)))) tr = some (.tup (rs'.map V.int)) := by
        rw [upd_ne (fun e => by rw [e, kp6] at k6; cases k6)]
        exact k6
      have kp7 : (upd H6 p (.lst ((lbT c st L).set m (.ref tr)))) p = some (.lst ((lbT c st L).set m (.ref tr))) := upd_same
      generalize upd H6 p (.lst ((lbT c st L).set m (.ref tr))) = H7 at g6' kp7 ktr ⊢
      refine ⟨_, rfl, p, _, rfl, .inl ⟨sqd kp7, fun tz htz => ?_⟩⟩
      obtain ⟨H8, e8, s8, k8⟩ := newH htz (.tup ((lbT c st L).set m (.ref tr)))
      rw [e8]
      rw [hL'] at k8
      have g8 := g6'.trans (.same g6'.dr s8)
      exact q tz L' H8 g8 ⟨tz, tr, rfl, k8, fun _ => by rw [hLs]; exact s8 _ _ ktr⟩ (by rw [hLs]; omega)
end
end NL

set_option maxHeartbeats 8000000
namespace NL
open PySem PySem.Spec PyProof.Rows L2
theorem each_set {α : Type} {R : α → V → Prop} {l : List α} {xs : List V} (h : Each R l xs) {a : α} {x : V} (r : R a x) (k : Nat) : Each R (l.set k a) (xs.set k x) := by
  refine ⟨by rw [List.length_set, List.length_set]; exact h.1, fun j b y hb hy => ?_⟩
  rw [List.getElem?_set] at hb hy
  by_cases hkj : k = j
  · rw [if_pos hkj] at hb hy
    have hl := h.1
    by_cases hj : j < l.length
    · rw [if_pos (by omega)] at hb hy
      cases hb
      cases hy
      exact r
    · rw [if_neg (by omega)] at hb
      cases hb
  · rw [if_neg hkj] at hb hy
    exact h.2 j b y hb hy
theorem each_tk {α : Type} {R : α → V → Prop} {l : List α} {xs : List V} (h : Each R l xs) (k : Nat) : Each R (l.take k) (xs.take k) := by
  refine ⟨by rw [List.length_take, List.length_take, h.1], fun j a x ha hx => ?_⟩
  have hj := (List.getElem?_eq_some_iff.mp ha).1
  rw [List.length_take] at hj
  rw [List.getElem?_take_of_lt (by omega)] at ha hx
  exact h.2 j a x ha hx
theorem each_dr {α : Type} {R : α → V → Prop} {l : List α} {xs : List V} (h : Each R l xs) (k : Nat) : Each R (l.drop k) (xs.drop k) := by
  refine ⟨by rw [List.length_drop, List.length_drop, h.1], fun j a x ha hx => ?_⟩
  rw [List.getElem?_drop] at ha hx
  exact h.2 (k + j) a x ha hx
theorem each_ap {α : Type} {R : α → V → Prop} {l m : List α} {xs ys : List V} (h : Each R l xs) (g : Each R m ys) : Each R (l ++ m) (xs ++ ys) := by
  have h1 := h.1
  refine ⟨by rw [List.length_append, List.length_append, h.1, g.1], fun j a x ha hx => ?_⟩
  by_cases hj : j < l.length
  · rw [List.getElem?_append_left hj] at ha
    rw [List.getElem?_append_left (by omega)] at hx
    exact h.2 j a x ha hx
  · rw [List.getElem?_append_right (by omega)] at ha hx
    rw [h1] at hx
    exact g.2 _ a x ha hx
theorem cut_drJ {xs : List V} {k : Nat} : cutV xs (some (k : Int)) none = xs.drop k := by
  unfold cutV
  rw [HT.sIx_none, show HT.sIx xs.length 0 (some (k : Int)) = min k xs.length from HT.sIx_nat _ _ _]
  by_cases h : k ≤ xs.length
  · rw [Nat.min_eq_left h, List.take_of_length_le (by rw [List.length_drop]; exact Nat.le_refl _)]
  · rw [Nat.min_eq_right (by omega), Nat.sub_self, List.take_zero, List.drop_eq_nil_of_le (by omega)]
theorem cut_preJ {xs : List V} {k : Nat} : cutV xs none (some (k : Int)) = xs.take k := by
  unfold cutV
  rw [HT.sIx_none, show HT.sIx xs.length xs.length (some (k : Int)) = min k xs.length from HT.sIx_nat _ _ _, List.drop_zero, Nat.sub_zero]
  by_cases h : k ≤ xs.length
  · rw [Nat.min_eq_left h]
  · rw [Nat.min_eq_right (by omega), List.take_of_length_le (Nat.le_refl _), List.take_of_length_le (by omega)]
section
variable {P : Program} {w : World} {K : PySem.W.Frag} {mg : Str → Option Value} {base : Heap}
def spSpoilt (st : Bool) : Sp := fun vs H Q _ => ∃ (d pp : Addr) (v : V) (A : Ar) (ls : List Lb) (xs : List V) (B : Nat), vs = [.ref d, v, .ref pp] ∧ Dr H d ∧ ArIn H A v ∧ ArG A ∧ H pp = some (.tup xs) ∧ Each (LbIn st H) ls xs ∧ ls.length = A.length ∧ (∀ L ∈ ls, L.rs.length ≤ B) ∧ 12 ≤ B ∧ B ≤ 500 ∧
  ∀ p' xs' ls' H', Go d H H' → H' p' = some (.tup xs') → Each (LbIn st H') ls' xs' → (∀ L ∈ ls', L.rs.length ≤ B + 2) → Q (.ref p') H'
theorem ok_law_spoilt (T : Txt K mg) (st : Bool) : FnOk P w K mg base CX0 3 T.a_law_spoilt T.d_law_spoilt P_law_spoilt (spSpoilt st) := by
  have G_law_take := ok_law_take (P := P) (w := w) (base := base) T
  have G_law_changed := ok_law_changed (P := P) (w := w) (base := base) T st
  refine T.F_law_spoilt.ok sc_law_spoilt (fun vs H Q E h => ?_) (fun cdv A outer s H vs Q E hr h => ?_)
  · obtain ⟨d, pp, v, A, ls, xs, B, rfl, _⟩ := h
    rfl
  obtain ⟨d, pp, v, A0, ls, xs, B, rfl, hD, ⟨b0, zs, rfl, e0, hzs⟩, hG, ep, hls, hlen, hB, hB12, hB5, q⟩ := h
  have hll := hls.1
  have hzl := hzs.1
  have h400 := hG.1
  refine ⟨_, (pss_cons (ps_set (i := 3) sc_law_spoilt.nd rfl (Or.inl rfl) (pe_callTy call_list_of (by rfl) T.z_list (by decide +kernel) (pa_cons (pv 2) pa_nil)))
    (pss_cons (ps_if (pt_cmpR op_eq (pe_callB call_len_seq (by rfl) T.z_len PySem.boot_len (pa_cons (pv 3) pa_nil)) pe_int (nomark _))
    (pss_one (ps_ret (pe_tup pa_nil)))
    pss_nil)
    (pss_cons (ps_set (i := 4) sc_law_spoilt.nd rfl (Or.inl rfl) (pe_call G_law_take (hr.mono (by omega)) (by rfl) T.m_law_take T.F_law_take.kp T.b_law_take .nil pass0 (pa_cons (pv 0) (pa_cons pe_int pa_nil))))
    (pss_cons (ps_if (pt_cmpR op_eq (pv 4) pe_int (nomark _))
    (pss_one (ps_ret (pe_callTy call_tuple_of (by rfl) T.z_tuple (by decide +kernel) (pa_cons (pe_slice sl_list (pv 3) (po_some pe_int) po_none) pa_nil))))
    pss_nil)
    (pss_cons (ps_if (pt_cmpR op_eq (pv 4) pe_int (nomark _))
    (pss_one (ps_ret (pe_callTy call_tuple_of (by rfl) T.z_tuple (by decide +kernel) (pa_cons (pe_op op_cat (pv 3) (pe_slice sl_list (pv 3) po_none (po_some pe_int))) pa_nil))))
    pss_nil)
    (pss_cons (ps_for  PassesOwn.never rfl (pi_range1 (by rfl) T.z_range (pa_cons (pe_op op_add pe_int (pe_call G_law_take (hr.mono (by omega)) (by rfl) T.m_law_take T.F_law_take.kp T.b_law_take .nil pass0 (pa_cons (pv 0) (pa_cons pe_int pa_nil)))) pa_nil)) (pg_name (i := 5) sc_law_spoilt.nd rfl (Or.inl rfl))
    (pss_cons (ps_set (i := 6) sc_law_spoilt.nd rfl (Or.inl rfl) (pe_call G_law_take (hr.mono (by omega)) (by rfl) T.m_law_take T.F_law_take.kp T.b_law_take .nil pass0 (pa_cons (pv 0) (pa_cons (pe_callB call_len_seq (by rfl) T.z_len PySem.boot_len (pa_cons (pv 3) pa_nil)) pa_nil))))
    (pss_one (ps_asg (pe_call G_law_changed (hr.mono (by omega)) (by rfl) T.m_law_changed T.F_law_changed.kp T.b_law_changed .nil pass0 (pa_cons (pv 0) (pa_cons (pe_ix ix_list (pv 3) (pv 6) (fun _ _ => rfl)) (pa_cons (pe_ix ix_tup (pv 1) (pv 6) (fun _ _ => rfl)) (pa_cons (pe_callB call_len_seq (by rfl) T.z_len PySem.boot_len (pa_cons (pv 1) pa_nil)) pa_nil))))) (pg_sub (pv 3) (pv 6) set_list)))))
    (pss_one (ps_ret (pe_callTy call_tuple_of (by rfl) T.z_tuple (by decide +kernel) (pa_cons (pv 3) pa_nil)))))))))), ?_⟩
  refine ⟨_, rfl, pp, _, rfl, .inr (sqt ep), fun p hp => ?_⟩
  have hpd := new_ne hD hp
  obtain ⟨H1, e1, s1, k1⟩ := newH hp (.lst xs)
  rw [e1]
  have g1 : Go d H H1 := .same hD s1
  refine ⟨_, rfl, p, _, rfl, .inl (sqd k1), rfl, _, rfl, ?_⟩
  by_cases hz : xs.length = 0
  · refine ite2 (fun z => ?_) (fun z => absurd (decide_eq_true (by rw [hz]; rfl)) z)
    refine ⟨Nat.zero_le _, fun t ht => ?_⟩
    obtain ⟨H2, e2, s2, k2⟩ := newH ht (.tup ([] : List V))
    rw [e2]
    exact q t [] [] H2 (g1.trans (.same g1.dr s2)) k2 .nil (fun L h => by cases h)
  refine ite2 (fun z => absurd (V.int.inj (of_decide_eq_true z)) (by omega)) (fun z => ?_)
  refine ⟨_, rfl, d, 10, rfl, g1.dr, by decide, fun k H2 g2 a2 b2 => ?_⟩
  have g12 := g1.trans g2
  have k2 := g2.fr p _ hpd k1
  have ls2 : Each (LbIn st H2) ls xs := hls.mono fun o x => LbIn.tp (g12.tp hD)
  refine ⟨_, rfl, rfl, _, rfl, ?_⟩
  by_cases hk0 : k = 0
  · refine ite2 (fun z => ?_) (fun z => absurd (decide_eq_true (by rw [hk0])) z)
    refine ⟨_, rfl, _, rfl, ?_⟩
    refine (id ?_ : tNoPart _ H2 fun z H5 => rSlL K (V.ref p) (some 1) z H5 _)
    unfold tNoPart
    refine ⟨p, _, rfl, sqd k2, fun p2 hp2 => ?_⟩
    rw [show cutV xs (some 1) none = xs.drop 1 from cut_drJ (k := 1)]
    obtain ⟨H3, e3, s3, k3⟩ := newH hp2 (.lst (xs.drop 1))
    rw [e3]
    refine ⟨p2, _, rfl, .inl ⟨sqd k3, fun t ht => ?_⟩⟩
    obtain ⟨H4, e4, s4, k4⟩ := newH ht (.tup (xs.drop 1))
    rw [e4]
    have s34 := s3.trans s4
    exact q t _ (ls.drop 1) H4 (g12.trans (.same g12.dr s34)) k4 (each_dr (ls2.mono fun o x => LbIn.tp (Tp.same s34)) 1) (fun L hL => by have := hB L (List.mem_of_mem_drop hL); omega)
  refine ite2 (fun z => absurd (V.int.inj (of_decide_eq_true z)) hk0) (fun z => ?_)
  refine ⟨_, rfl, rfl, _, rfl, ?_⟩
  by_cases hk1 : k = 1
  · refine ite2 (fun z => ?_) (fun z => absurd (decide_eq_true (by rw [hk1])) z)
    refine ⟨_, rfl, _, rfl, _, rfl, p, _, rfl, sqd k2, fun p2 hp2 => ?_⟩
    rw [show cutV xs none (some 1) = xs.take 1 from cut_preJ (k := 1)]
    obtain ⟨H3, e3, s3, k3⟩ := newH hp2 (.lst (xs.take 1))
    rw [e3]
    refine ⟨p, p2, _, _, rfl, rfl, s3 _ _ k2, k3, big (by rw [List.length_take]; omega), fun p3 hp3 => ?_⟩
    obtain ⟨H4, e4, s4, k4⟩ := newH hp3 (.lst (xs ++ xs.take 1))
    rw [e4]
    refine ⟨p3, _, rfl, .inl ⟨sqd k4, fun t ht => ?_⟩⟩
    obtain ⟨H5, e5, s5, k5⟩ := newH ht (.tup (xs ++ xs.take 1))
    rw [e5]
    have s35 := (s3.trans s4).trans s5
    have ls5 : Each (LbIn st H5) ls xs := ls2.mono fun o x => LbIn.tp (Tp.same s35)
    exact q t _ (ls ++ ls.take 1) H5 (g12.trans (.same g12.dr s35)) k5 (each_ap ls5 (each_tk ls5 1)) (fun L hL => by
      rcases List.mem_append.mp hL with h | h
      · have := hB L h; omega
      · have := hB L (List.mem_of_mem_take h); omega)
  refine ite2 (fun z => absurd (V.int.inj (of_decide_eq_true z)) hk1) (fun z => ?_)
  refine ⟨_, rfl, d, 2, rfl, g12.dr, by decide, fun u H3 g3 a3 b3 => ⟨_, _, rfl, rfl, 1 + u, rfl, by omega, by omega, ?_⟩⟩
  have g13 := g12.trans g3
  refine for_range (lo := 0) (n := (1 + u).toNat) (fun (j : Nat) (σ : L2.St) (H' : Hp) => ∃ (y5 y6 : Option V) (xs' : List V) (ls' : List Lb), σ = [some (.ref d), some (.ref b0), some (.ref pp), some (.ref p), some (.int k), y5, y6] ∧ Go d H H' ∧ H' p = some (.lst xs') ∧ Each (LbIn st H') ls' xs' ∧ ls'.length = A0.length ∧ ∀ L ∈ ls', L.rs.length ≤ B + j) ?_ ?_ ?_
  · exact ⟨_, _, xs, ls, rfl, g13, g3.fr p _ hpd k2, ls2.mono fun o x => LbIn.tp (g3.tp g12.dr), hlen, hB⟩
  · rintro j σ H4 hj ⟨y5, y6, xs', ls', rfl, g4, k4, hls4, hl4, hB4⟩
    have hxl4 := hls4.1
    refine ⟨_, rfl, _, rfl, p, _, rfl, .inl (sqd k4), d, _, rfl, g4.dr, by omega, fun m H5 g5 a5 b5 => ?_⟩
    have g45 := g4.trans g5
    have k5 := g5.fr p _ hpd k4
    have hls5 : Each (LbIn st H5) ls' xs' := hls4.mono fun o x => LbIn.tp (g5.tp g4.dr)
    obtain ⟨i, hi⟩ : ∃ i : Nat, m = (i : Int) := ⟨m.toNat, by omega⟩
    have hil : i < ls'.length := by omega
    obtain ⟨t, c, hat, et, ec⟩ := lb_at hls5 (p := m) a5 (by omega)
    have t45 := g45.tp hD
    obtain ⟨os, hos⟩ : ∃ os, A0[i]? = some os := ⟨_, List.getElem?_eq_getElem (by omega)⟩
    have hosG := hG.2 os (List.mem_of_getElem? hos)
    have hos12 := hosG.1
    obtain ⟨x, hx, hxin⟩ := hzs.at hos
    have hxin5 := PosIn.tp t45 hxin
    have hatx : atI zs m = some x := by rw [hi]; exact atI_nat hx
    have hLm : getL ls' m ∈ ls' := by
      unfold getL
      rw [hi, Int.toNat_natCast, List.getElem?_eq_getElem hil]
      exact List.getElem_mem hil
    have hLb := hB4 _ hLm
    have hj2 : j < 2 := by omega
    refine ⟨_, rfl, _, rfl, _, rfl, p, _, _, _, rfl, rfl, sqd k5, hat, _, rfl, _, rfl, b0, _, _, _, rfl, rfl, sqt (t45 _ _ e0), hatx, _, rfl, b0, _, rfl, .inr (sqt (t45 _ _ e0)), d, t, c, x, getL ls' m, os, _, rfl, g45.dr, et, ec, hxin5, (fun o ho => (hosG.2 o ho).ne), by omega, by omega, by omega, by omega, fun t' L' H6 g6 hL' hLl => ?_⟩
    have g46 := g45.trans g6
    have k6 := g6.fr p _ hpd k5
    have hix : ixN xs'.length m = some i := by
      rw [hi]
      unfold ixN
      rw [if_pos (by omega), if_pos (by omega), Int.toNat_natCast]
    refine ⟨_, rfl, _, rfl, p, _, _, _, rfl, rfl, k6, hix, ?_⟩
    have gz := g46.put2 (o := .lst (xs'.set i (.ref t'))) hp hpd
    have tz : Tp H6 (upd H6 p (.lst (xs'.set i (.ref t')))) := tp_put Tp.refl k6
    refine ⟨_, _, _, ls'.set i L', rfl, gz, upd_same, ?_, by rw [List.length_set]; exact hl4, fun L hL => ?_⟩
    · exact each_set ((hls5.mono fun o x => LbIn.tp (g6.tp g45.dr)).mono fun o x => LbIn.tp tz) (hL'.tp tz) i
    · rcases List.mem_or_eq_of_mem_set hL with h | h
      · have := hB4 L h
        omega
      · subst h
        omega
  · rintro σ H4 ⟨y5, y6, xs', ls', rfl, g4, k4, hls4, hl4, hB4⟩
    refine ⟨_, rfl, p, _, rfl, .inl ⟨sqd k4, fun t ht => ?_⟩⟩
    obtain ⟨H5, e5, s5, k5⟩ := newH ht (.tup xs')
    rw [e5]
    exact q t xs' ls' H5 (g4.trans (.same g4.dr s5)) k5 (hls4.mono fun o x => LbIn.tp (Tp.same s5)) (fun L hL => by have := hB4 L hL; omega)
end
end NL

set_option maxHeartbeats 8000000
namespace NL
open PySem PySem.Spec PyProof.Rows L2
section
variable {P : Program} {w : World} {K : PySem.W.Frag} {mg : Str → Option Value} {base : Heap}
/-! ### _law_taken -/
def spTaken (st : Bool) : Sp := fun vs H Q _ => ∃ (v : V) (A : Ar) (kp pp : Addr) (Kp : List Int) (ls : List Lb) (xs : List V), vs = [v, .ref kp, .ref pp] ∧ ArIn H A v ∧ ArG A ∧ H kp = some (.tup (Kp.map V.int)) ∧ H pp = some (.tup xs) ∧ Each (LbIn st H) ls xs ∧ ∀ H', Same H H' → Q (.bl (judgeL st A Kp ls)) H'
theorem ok_law_taken (T : Txt K mg) : FnOk P w K mg base CX0 3 T.a_law_taken T.d_law_taken P_law_taken (spTaken true) := by
  have G_law_stay_right := ok_law_stay_right (P := P) (w := w) (base := base) T
  refine T.F_law_taken.ok sc_law_taken (fun vs H Q E h => ?_) (fun cdv A outer s H vs Q E hr h => ?_)
  · obtain ⟨v, A, kp, pp, Kp, ls, xs, rfl, _⟩ := h
    rfl
  obtain ⟨v, A0, kp, pp, Kp, ls, xs, rfl, hA, hG, ek, ep, hls, qq⟩ := h
  obtain ⟨b0, zs, rfl, e0, hzs⟩ := id hA
  have hll := hls.1
  have hzl := hzs.1
  have h400 := hG.1
  refine ⟨_, (pss_cons (ps_if (pt_cmpR op_ne (pe_callB call_len_seq (by rfl) T.z_len PySem.boot_len (pa_cons (pv 2) pa_nil)) (pe_callB call_len_seq (by rfl) T.z_len PySem.boot_len (pa_cons (pv 0) pa_nil)) (nomark _))
    (pss_one (ps_ret pe_bl))
    pss_nil)
    (pss_cons (ps_for  PassesOwn.never rfl (pi_range1 (by rfl) T.z_range (pa_cons (pe_callB call_len_seq (by rfl) T.z_len PySem.boot_len (pa_cons (pv 0) pa_nil)) pa_nil)) (pg_name (i := 3) sc_law_taken.nd rfl (Or.inl rfl))
    (pss_one (ps_if (pt_not (pt_val (pe_call G_law_stay_right (hr.mono (by omega)) (by rfl) T.m_law_stay_right T.F_law_stay_right.kp T.b_law_stay_right .nil pass0 (pa_cons (pv 0) (pa_cons (pv 1) (pa_cons (pv 2) (pa_cons (pv 3) pa_nil)))))))
    (pss_one (ps_ret pe_bl))
    pss_nil)))
    (pss_one (ps_ret pe_bl)))), ?_⟩
  refine ⟨_, rfl, pp, _, rfl, .inr (sqt ep), _, rfl, b0, _, rfl, .inr (sqt e0), rfl, _, rfl, ?_⟩
  by_cases hlen : ls.length = A0.length
  rotate_left
  · refine ifT (by rw [decide_eq_false (fun e => hlen (by have := V.int.inj e; omega))]; rfl) (boolE ?_ (qq H (Same.refl H)))
    unfold judgeL
    rw [decide_eq_false hlen]
    rfl
  refine ifF (by rw [decide_eq_true (by congr 1; omega)]; rfl) ?_
  refine ⟨_, rfl, b0, _, rfl, .inr (sqt e0), _, rfl, by omega, by omega, ?_⟩
  refine for_range (lo := 0) (n := ((zs.length : Nat) : Int).toNat) (fun (j : Nat) (σ : L2.St) (H' : Hp) => ∃ y3 : Option V, σ = [some (.ref b0), some (.ref kp), some (.ref pp), y3] ∧ Same H H' ∧ (List.range j).all (fun k => rightL true A0 Kp ls (k : Nat)) = true) ?_ ?_ ?_
  · exact ⟨_, rfl, Same.refl _, rfl⟩
  · rintro j σ H1 hj ⟨y3, rfl, s1, hall⟩
    have t1 := Tp.same s1
    refine ⟨_, rfl, _, rfl, _, rfl, _, rfl, .ref b0, A0, kp, pp, Kp, ls, xs, j, by rw [show (0 : Int) + (j : Nat) = (j : Nat) by omega]; rfl, hA.tp t1, hG, s1 _ _ ek, s1 _ _ ep, hls.mono fun o x => LbIn.tp t1, hlen, by omega, fun H2 s2 => ⟨_, rfl, ?_⟩⟩
    cases hr : rightL true A0 Kp ls (j : Nat) with
    | true =>
      refine ifF rfl ⟨_, rfl, s1.trans s2, ?_⟩
      rw [List.range_succ, List.all_append, hall]
      show (true && (rightL true A0 Kp ls (j : Nat) && true)) = true
      rw [hr]
      rfl
    | false =>
      refine ifT rfl (boolE ?_ (qq H2 (s1.trans s2)))
      unfold judgeL
      rw [decide_eq_true hlen, Bool.true_and]
      exact (List.all_eq_false.mpr ⟨j, List.mem_range.mpr (by omega), by rw [hr]; exact Bool.false_ne_true⟩).symm
  · rintro σ H1 ⟨y3, rfl, s1, hall⟩
    refine boolE ?_ (qq H1 s1)
    unfold judgeL
    rw [decide_eq_true hlen, Bool.true_and]
    rw [show ((zs.length : Nat) : Int).toNat = A0.length by omega] at hall
    exact hall.symm
theorem told_len {st : Bool} {A : Ar} {R : Int → Option Nat} {ls : List Lb} (hG : ArG A) (hl : ls.length = A.length) (h : ∀ (k : Nat) os L, A[k]? = some os → ls[k]? = some L → ToldL st R k os L) : ∀ L ∈ ls, L.rs.length ≤ 12 := fun L hL => by
  obtain ⟨k, hk⟩ := List.getElem?_of_mem hL
  have hkl := (List.getElem?_eq_some_iff.mp hk).1
  have hos := List.getElem?_eq_getElem (show k < A.length by omega)
  have t := h k _ L hos hk
  cases L with
  | opt n i => exact Nat.zero_le _
  | rep n rs =>
    by_cases h0 : R (k : Int) = some 0
    · have := t.end_ h0
      have e : endB (.rep n rs) = (decide (n = 0) && decide (rs = [])) := rfl
      rw [e, Bool.and_eq_true, decide_eq_true_eq, decide_eq_true_eq] at this
      rw [show (Lb.rep n rs).rs = rs from rfl, this.2]
      exact Nat.zero_le _
    · have h1 := (t.reps n rs rfl h0).1
      have h2 := (hG.2 _ (List.mem_of_getElem? hos)).1
      show rs.length ≤ 12
      omega
def spLaw (K : PySem.W.Frag) : Sp := fun vs H Q _ => ∃ (a : Addr) (ns : List Int), vs = [.ref a] ∧ SqL K H a (ns.map V.int) ∧ ns.length ≤ 63 ∧ ∀ H', Q (.bl true) H'
theorem ok_law (T : Txt K mg) : FnOk P w K mg base CX0 6 T.alaw T.dlaw Plaw (spLaw K) := by
  have G_law_draws := ok_law_draws (P := P) (w := w) (base := base) T
  have G_law_arena := ok_law_arena (P := P) (w := w) (base := base) T
  have G_law_some := ok_law_some (P := P) (w := w) (base := base) T
  have G_law_take := ok_law_take (P := P) (w := w) (base := base) T
  have G_law_stay_paper := ok_law_stay_paper (P := P) (w := w) (base := base) T
  have Gjudge := ok_judge (P := P) (w := w) (base := base) T true
  have G_law_spoilt := ok_law_spoilt (P := P) (w := w) (base := base) T true
  have G_law_taken := ok_law_taken (P := P) (w := w) (base := base) T
  refine T.Flaw.ok sclaw (fun vs H Q E h => ?_) (fun cdv A outer s H vs Q E hr h => ?_)
  · obtain ⟨a, ns, rfl, _⟩ := h
    rfl
  obtain ⟨a, ns, rfl, hS, hl, q⟩ := h
  refine ⟨_, (pss_cons (ps_set (i := 1) sclaw.nd rfl (Or.inl rfl) (pe_call G_law_draws (hr.mono (by omega)) (by rfl) T.m_law_draws T.F_law_draws.kp T.b_law_draws .nil pass0 (pa_cons (pv 0) (pa_cons pe_int pa_nil))))
    (pss_cons (ps_set (i := 2) sclaw.nd rfl (Or.inl rfl) (pe_call G_law_arena (hr.mono (by omega)) (by rfl) T.m_law_arena T.F_law_arena.kp T.b_law_arena .nil pass0 (pa_cons (pv 1) (pa_cons (pe_ix ix_list (pe_lst (pa_cons pe_int (pa_cons pe_int (pa_cons pe_int (pa_cons pe_int (pa_cons pe_int (pa_cons pe_int pa_nil))))))) (pe_call G_law_take (hr.mono (by omega)) (by rfl) T.m_law_take T.F_law_take.kp T.b_law_take .nil pass0 (pa_cons (pv 1) (pa_cons pe_int pa_nil))) (fun _ _ => rfl)) pa_nil))))
    (pss_cons (ps_set (i := 3) sclaw.nd rfl (Or.inl rfl) (pe_call G_law_some (hr.mono (by omega)) (by rfl) T.m_law_some T.F_law_some.kp T.b_law_some .nil pass0 (pa_cons (pv 1) (pa_cons (pe_callB call_len_seq (by rfl) T.z_len PySem.boot_len (pa_cons (pv 2) pa_nil)) (pa_cons (pe_ix ix_list (pe_lst (pa_cons pe_int (pa_cons pe_int (pa_cons pe_int (pa_cons pe_int pa_nil))))) (pe_call G_law_take (hr.mono (by omega)) (by rfl) T.m_law_take T.F_law_take.kp T.b_law_take .nil pass0 (pa_cons (pv 1) (pa_cons pe_int pa_nil))) (fun _ _ => rfl)) pa_nil)))))
    (pss_cons (ps_set (i := 4) sclaw.nd rfl (Or.inl rfl) (pe_call G_law_stay_paper (hr.mono (by omega)) (by rfl) T.m_law_stay_paper T.F_law_stay_paper.kp T.b_law_stay_paper .nil pass0 (pa_cons (pv 2) (pa_cons (pv 3) pa_nil))))
    (pss_cons (ps_if (pt_cmpR op_isnot_bl (pe_call Gjudge (hr.mono (by omega)) (by rfl) T.mjudge T.Fjudge.kp T.bjudge .nil pass0 (pa_cons (pv 2) (pa_cons (pe_tup (pa_cons pe_str (pa_cons (pv 3) pa_nil))) (pa_cons (pv 4) pa_nil)))) pe_bl (nomark _))
    (pss_one (ps_ret pe_bl))
    pss_nil)
    (pss_cons (ps_for  PassesOwn.never rfl (pi_range1 (by rfl) T.z_range (pa_cons pe_int pa_nil)) (pg_name (i := 5) sclaw.nd rfl (Or.inl rfl))
    (pss_cons (ps_set (i := 4) sclaw.nd rfl (Or.inl rfl) (pe_call G_law_spoilt (hr.mono (by omega)) (by rfl) T.m_law_spoilt T.F_law_spoilt.kp T.b_law_spoilt .nil pass0 (pa_cons (pv 1) (pa_cons (pv 2) (pa_cons (pv 4) pa_nil)))))
    (pss_cons (ps_set (i := 6) sclaw.nd rfl (Or.inl rfl) (pe_call Gjudge (hr.mono (by omega)) (by rfl) T.mjudge T.Fjudge.kp T.bjudge .nil pass0 (pa_cons (pv 2) (pa_cons (pe_tup (pa_cons pe_str (pa_cons (pv 3) pa_nil))) (pa_cons (pv 4) pa_nil)))))
    (pss_cons (ps_if (PW.pt (pw_or (pt_not (pt_val (pe_callB (call_isi) (by rfl) T.z_isinstance (by decide +kernel) (pa_cons (pv 6) (pa_cons (pe_bltn (v := .ty "bool") (u := .type "bool") (by rfl) T.z_bool (by decide +kernel) rfl) pa_nil))))) (pw_or1 (pt_cmpR op_ne (pv 6) (pe_call G_law_taken (hr.mono (by omega)) (by rfl) T.m_law_taken T.F_law_taken.kp T.b_law_taken .nil pass0 (pa_cons (pv 2) (pa_cons (pv 3) (pa_cons (pv 4) pa_nil)))) (nomark _)))))
    (pss_one (ps_ret pe_bl))
    pss_nil)
    (pss_one (ps_if (pt_cmpR op_ne (pe_callB call_len_seq (by rfl) T.z_len PySem.boot_len (pa_cons (pv 4) pa_nil)) (pe_callB call_len_seq (by rfl) T.z_len PySem.boot_len (pa_cons (pv 2) pa_nil)) (nomark _))
    (pss_one (ps_ret pe_bl))
    pss_nil))))))
    (pss_one (ps_ret pe_bl)))))))), ?_⟩
  refine ⟨_, rfl, a, ns, 720, rfl, hS, hl, by decide, by decide, fun d H1 s1 hd D1 => ?_⟩
  refine ⟨_, rfl, Nat.le_of_ble_eq_true rfl, fun ml hml => ?_⟩
  have hmld := new_ne D1 hml
  obtain ⟨H2, e2, s2, k2⟩ := newH hml (.lst [V.int 3, V.int 5, V.int 8, V.int 8, V.int 8, V.int 30])
  rw [e2]
  have g2 : Go d H1 H2 := .same D1 s2
  refine ⟨_, rfl, d, 6, rfl, g2.dr, by decide, fun u H3 g3 a3 b3 => ?_⟩
  have k3 := g3.fr ml _ hmld k2
  obtain ⟨wv, hwv, hw0, hw1⟩ : ∃ wv : Int, atI [V.int 3, V.int 5, V.int 8, V.int 8, V.int 8, V.int 30] u = some (.int wv) ∧ 0 ≤ wv ∧ wv ≤ 45 := by
    obtain rfl | rfl | rfl | rfl | rfl | rfl : u = 0 ∨ u = 1 ∨ u = 2 ∨ u = 3 ∨ u = 4 ∨ u = 5 := by omega
    all_goals exact ⟨_, rfl, by decide, by decide⟩
  have g13 := g2.trans g3
  refine ⟨ml, _, _, _, rfl, rfl, sqd k3, hwv, d, wv, rfl, g13.dr, hw0, hw1, fun v A0 H4 g4 hA4 hG => ?_⟩
  have g14 := g13.trans g4
  have h400 := hG.1
  obtain ⟨b0, zs, rfl, e0, hzs⟩ := id hA4
  have hzl := hzs.1
  refine ⟨_, rfl, _, rfl, b0, _, rfl, .inr (sqt e0), Nat.le_of_ble_eq_true rfl, fun nl hnl => ?_⟩
  have hnld := new_ne g14.dr hnl
  obtain ⟨H5, e5, s5, k5⟩ := newH hnl (.lst [V.int 4, V.int 7, V.int 8, V.int 8])
  rw [e5]
  have g15 := g14.trans (.same g14.dr s5)
  refine ⟨_, rfl, d, 4, rfl, g15.dr, by decide, fun u2 H6 g6 a6 b6 => ?_⟩
  have k6 := g6.fr nl _ hnld k5
  obtain ⟨sv, hsv⟩ : ∃ sv : Int, atI [V.int 4, V.int 7, V.int 8, V.int 8] u2 = some (.int sv) := by
    obtain rfl | rfl | rfl | rfl : u2 = 0 ∨ u2 = 1 ∨ u2 = 2 ∨ u2 = 3 := by omega
    all_goals exact ⟨_, rfl⟩
  have g16 := g15.trans g6
  refine ⟨nl, _, _, _, rfl, rfl, sqd k6, hsv, d, _, sv, rfl, g16.dr, by omega, by omega, fun kp Kp H7 g7 ek hK => ?_⟩
  have g17 := g16.trans g7
  have g47 : Go d H4 H7 := ((Go.same g14.dr s5).trans g6).trans g7
  have hA7 := hA4.tp (g47.tp g14.dr)
  refine ⟨_, rfl, _, rfl, _, A0, kp, Kp, rfl, hA7, hG, ek, fun pp vs H8 s8 ep hP => ?_⟩
  obtain ⟨ls, hls, hj, htold⟩ := told_right hG hP
  have hll : ls.length = A0.length := by
    have h1 := hls.1
    have h2 := hP.1
    omega
  have g18 := g17.trans (.same g17.dr s8)
  have hA8 := hA7.tp (Tp.same s8)
  have ek8 := s8 _ _ ek
  refine ⟨_, rfl, _, rfl, Nat.le_of_ble_eq_true rfl, fun g hg => ?_⟩
  obtain ⟨H9, e9, s9, k9⟩ := newH hg (.tup [V.str "stay", V.ref kp])
  rw [e9]
  have t9 := Tp.same s9
  refine ⟨_, rfl, _, A0, g, kp, pp, Kp, ls, vs, rfl, hA8.tp t9, hG, k9, s9 _ _ ek8, s9 _ _ ep, hls.mono fun o x => LbIn.tp t9, fun H10 s10 => ⟨_, _, rfl, rfl, _, rfl, ?_⟩⟩
  refine ifF (by rw [hj]; rfl) ?_
  have s810 := s9.trans s10
  have t810 := Tp.same s810
  have g10 := g18.trans (.same g18.dr s810)
  refine ⟨3, rfl, by decide, by decide, ?_⟩
  refine for_range (lo := 0) (n := (3 : Int).toNat) (fun (j : Nat) (σ : L2.St) (H' : Hp) => ∃ (pp' : Addr) (y5 y6 : Option V) (xs : List V) (ls' : List Lb), σ = [some (.ref a), some (.ref d), some (.ref b0), some (.ref kp), some (.ref pp'), y5, y6] ∧ Go d H10 H' ∧ H' pp' = some (.tup xs) ∧ Each (LbIn true H') ls' xs ∧ ls'.length = A0.length ∧ ∀ L ∈ ls', L.rs.length ≤ 12 + 2 * j) ?_ ?_ ?_
  · exact ⟨pp, _, _, vs, ls, rfl, Go.refl g10.dr, s810 _ _ ep, hls.mono fun o x => LbIn.tp t810, hll, told_len hG hll htold⟩
  · rintro j σ H11 hj3 ⟨pp', y5, y6, xs, ls', rfl, g11, ep11, hls11, hl11, hB11⟩
    have hj33 : j < 3 := hj3
    have tt := g11.tp g10.dr
    have hA11 := (hA8.tp t810).tp tt
    have ek11 := tt _ _ (s810 _ _ ek8)
    refine ⟨_, rfl, _, rfl, _, rfl, d, pp', _, A0, ls', xs, 12 + 2 * j, rfl, g11.dr, hA11, hG, ep11, hls11, hl11, hB11, by omega, by omega, fun p2 xs2 ls2 H12 g12 ep12 hls12 hB12 => ?_⟩
    have t12 := g12.tp g11.dr
    have hA12 := hA11.tp t12
    have ek12 := t12 _ _ ek11
    refine ⟨_, rfl, _, rfl, Nat.le_of_ble_eq_true rfl, fun gg hgg => ?_⟩
    obtain ⟨H13, e13, s13, k13⟩ := newH hgg (.tup [V.str "stay", V.ref kp])
    rw [e13]
    have t13 := Tp.same s13
    refine ⟨_, rfl, _, A0, gg, kp, p2, Kp, ls2, xs2, rfl, hA12.tp t13, hG, k13, s13 _ _ ek12, s13 _ _ ep12, hls12.mono fun o x => LbIn.tp t13, fun H14 s14 => ?_⟩
    have s24 := s13.trans s14
    have t24 := Tp.same s24
    have hls14 : Each (LbIn true H14) ls2 xs2 := hls12.mono fun o x => LbIn.tp t24
    refine ⟨_, rfl, _, _, .type "bool", .type "bool", true, rfl, .ty "bool", .base (.bl _), kit_ty (by decide +kernel), true, rfl, iteF ?_⟩
    refine ⟨_, rfl, _, rfl, _, rfl, _, rfl, _, A0, kp, p2, Kp, ls2, xs2, rfl, hA12.tp t24, hG, s24 _ _ ek12, s24 _ _ ep12, hls14, fun H15 s15 => ?_⟩
    refine ⟨rfl, _, rfl, ifF (by rw [decide_eq_true rfl]; rfl) ?_⟩
    have s25 := s24.trans s15
    have e015 : H15 b0 = some (.tup zs) := s25 _ _ (t12 _ _ (tt _ _ (s810 _ _ (s8 _ _ (g47.tp g14.dr _ _ e0)))))
    refine ⟨_, rfl, p2, _, rfl, .inr (sqt (s25 _ _ ep12)), _, rfl, b0, _, rfl, .inr (sqt e015), rfl, _, rfl, ?_⟩
    have hx2 := hls12.1
    by_cases hlen : ls2.length = A0.length
    · refine ifF (by rw [decide_eq_true (by congr 1; omega)]; rfl) ?_
      exact ⟨p2, _, _, xs2, ls2, rfl, (g11.trans g12).trans (.same g12.dr s25), s25 _ _ ep12, hls14.mono fun o x => LbIn.tp (Tp.same s15), hlen, fun L hL => by have := hB12 L hL; omega⟩
    · refine ifT (by rw [decide_eq_false (fun e => hlen (by have := V.int.inj e; omega))]; rfl) ?_
      exact q H15
  · rintro σ H11 ⟨pp', y5, y6, xs, ls', rfl, g11, _⟩
    exact q H11
end
end NL

namespace NL
open PySem PySem.Spec PyProof.Rows L2
theorem all_mk {l : PySem.W.OpenLaw} {w : World} {K : PySem.W.Frag} {h : Heap} {mg : Str → Option Value} {fa fhas_option fentries_from fjudge f_is_right f_numbers_are_right f_replies_are_right f_law_replies_right f_law_stay_right f_law_draws f_law_take f_law_options f_law_distinct f_law_arena f_law_some f_law_stay_ranks f_law_stay_paper f_law_changed f_law_spoilt f_law_taken flaw fFitting___init__ fFitting_fits fFitting_all_fit : Addr} (X : K.In h) (G : h.Ns mainGlobals mg) (hfa : mg "law" = some (.ref fa))
    {odhas_option anhas_option : Option Addr} {slhas_option : Array (Option Value)} {ochas_option kVhas_option dchas_option pmhas_option cdhas_option cthas_option : Value}
    {odentries_from anentries_from : Option Addr} {slentries_from : Array (Option Value)} {ocentries_from kVentries_from dcentries_from pmentries_from cdentries_from ctentries_from : Value}
    {odjudge anjudge : Option Addr} {sljudge : Array (Option Value)} {ocjudge kVjudge dcjudge pmjudge cdjudge ctjudge : Value}
    {od_is_right an_is_right : Option Addr} {sl_is_right : Array (Option Value)} {oc_is_right kV_is_right dc_is_right pm_is_right cd_is_right ct_is_right : Value}
    {od_numbers_are_right an_numbers_are_right : Option Addr} {sl_numbers_are_right : Array (Option Value)} {oc_numbers_are_right kV_numbers_are_right dc_numbers_are_right pm_numbers_are_right cd_numbers_are_right ct_numbers_are_right : Value}
    {od_replies_are_right an_replies_are_right : Option Addr} {sl_replies_are_right : Array (Option Value)} {oc_replies_are_right kV_replies_are_right dc_replies_are_right pm_replies_are_right cd_replies_are_right ct_replies_are_right : Value}
    {od_law_replies_right an_law_replies_right : Option Addr} {sl_law_replies_right : Array (Option Value)} {oc_law_replies_right kV_law_replies_right dc_law_replies_right pm_law_replies_right cd_law_replies_right ct_law_replies_right : Value}
    {od_law_stay_right an_law_stay_right : Option Addr} {sl_law_stay_right : Array (Option Value)} {oc_law_stay_right kV_law_stay_right dc_law_stay_right pm_law_stay_right cd_law_stay_right ct_law_stay_right : Value}
    {od_law_draws an_law_draws : Option Addr} {sl_law_draws : Array (Option Value)} {oc_law_draws kV_law_draws dc_law_draws pm_law_draws cd_law_draws ct_law_draws : Value}
    {od_law_take an_law_take : Option Addr} {sl_law_take : Array (Option Value)} {oc_law_take kV_law_take dc_law_take pm_law_take cd_law_take ct_law_take : Value}
    {od_law_options an_law_options : Option Addr} {sl_law_options : Array (Option Value)} {oc_law_options kV_law_options dc_law_options pm_law_options cd_law_options ct_law_options : Value}
    {od_law_distinct an_law_distinct : Option Addr} {sl_law_distinct : Array (Option Value)} {oc_law_distinct kV_law_distinct dc_law_distinct pm_law_distinct cd_law_distinct ct_law_distinct : Value}
    {od_law_arena an_law_arena : Option Addr} {sl_law_arena : Array (Option Value)} {oc_law_arena kV_law_arena dc_law_arena pm_law_arena cd_law_arena ct_law_arena : Value}
    {od_law_some an_law_some : Option Addr} {sl_law_some : Array (Option Value)} {oc_law_some kV_law_some dc_law_some pm_law_some cd_law_some ct_law_some : Value}
    {od_law_stay_ranks an_law_stay_ranks : Option Addr} {sl_law_stay_ranks : Array (Option Value)} {oc_law_stay_ranks kV_law_stay_ranks dc_law_stay_ranks pm_law_stay_ranks cd_law_stay_ranks ct_law_stay_ranks : Value}
    {od_law_stay_paper an_law_stay_paper : Option Addr} {sl_law_stay_paper : Array (Option Value)} {oc_law_stay_paper kV_law_stay_paper dc_law_stay_paper pm_law_stay_paper cd_law_stay_paper ct_law_stay_paper : Value}
    {od_law_changed an_law_changed : Option Addr} {sl_law_changed : Array (Option Value)} {oc_law_changed kV_law_changed dc_law_changed pm_law_changed cd_law_changed ct_law_changed : Value}
    {od_law_spoilt an_law_spoilt : Option Addr} {sl_law_spoilt : Array (Option Value)} {oc_law_spoilt kV_law_spoilt dc_law_spoilt pm_law_spoilt cd_law_spoilt ct_law_spoilt : Value}
    {od_law_taken an_law_taken : Option Addr} {sl_law_taken : Array (Option Value)} {oc_law_taken kV_law_taken dc_law_taken pm_law_taken cd_law_taken ct_law_taken : Value}
    {odlaw anlaw : Option Addr} {sllaw : Array (Option Value)} {oclaw kVlaw dclaw pmlaw cdlaw ctlaw : Value}
    {odFitting___init__ anFitting___init__ : Option Addr} {slFitting___init__ : Array (Option Value)} {ocFitting___init__ kVFitting___init__ dcFitting___init__ pmFitting___init__ cdFitting___init__ ctFitting___init__ : Value}
    {odFitting_fits anFitting_fits : Option Addr} {slFitting_fits : Array (Option Value)} {ocFitting_fits kVFitting_fits dcFitting_fits pmFitting_fits cdFitting_fits ctFitting_fits : Value}
    {odFitting_all_fit anFitting_all_fit : Option Addr} {slFitting_all_fit : Array (Option Value)} {ocFitting_all_fit kVFitting_all_fit dcFitting_all_fit pmFitting_all_fit cdFitting_all_fit ctFitting_all_fit : Value}
    {C_Fitting : Addr}
    {u_CONTROLLER : Value}
    {u_DISTURBANCE : Value}
    {c_OPTION_KINDS : Addr}
    (kg_Fitting : PySem.W.nsIn K mainGlobals "Fitting" = some (some (.ref C_Fitting))) (kp_Fitting : PySem.W.plainGet K C_Fitting Str.empty = true) (kh_Fitting : PySem.W.hasDictIn K C_Fitting = true) (ko_Fitting : PySem.W.plainOver K C_Fitting = true) (ks_Fitting : PySem.W.findIn K (.ref C_Fitting) "__setattr__" = some (some (.builtin "object.__setattr__"))) (km_Fitting : PySem.W.makesIn K C_Fitting = true) (kk_Fitting : PySem.W.keepIn K (.ref C_Fitting) = true) (kn_Fitting_arena : PySem.W.findIn K (.ref C_Fitting) "arena" = some none) (kn_Fitting_told : PySem.W.findIn K (.ref C_Fitting) "told" = some none) (kn_Fitting_labels : PySem.W.findIn K (.ref C_Fitting) "labels" = some none) (kn_Fitting_greatest : PySem.W.findIn K (.ref C_Fitting) "greatest" = some none)
    (ahas_option : PySem.W.nsIn K mainGlobals "has_option" = some (some (.ref fhas_option))) (lhas_option : K.lookup fhas_option = some ⟨ochas_option, odhas_option, .func (PySem.W.fnOf "has_option" "has_option" (defArgs shas_option) (defBody shas_option) (defScope shas_option) .none kVhas_option dchas_option pmhas_option anhas_option cdhas_option cthas_option), slhas_option⟩) (chas_option : PySem.W.codeIn K cdhas_option "has_option" = true) (khas_option : PySem.W.keepIn K (.ref fhas_option) = true)
    (aentries_from : PySem.W.nsIn K mainGlobals "entries_from" = some (some (.ref fentries_from))) (lentries_from : K.lookup fentries_from = some ⟨ocentries_from, odentries_from, .func (PySem.W.fnOf "entries_from" "entries_from" (defArgs sentries_from) (defBody sentries_from) (defScope sentries_from) .none kVentries_from dcentries_from pmentries_from anentries_from cdentries_from ctentries_from), slentries_from⟩) (centries_from : PySem.W.codeIn K cdentries_from "entries_from" = true) (kentries_from : PySem.W.keepIn K (.ref fentries_from) = true)
    (ajudge : PySem.W.nsIn K mainGlobals "judge" = some (some (.ref fjudge))) (ljudge : K.lookup fjudge = some ⟨ocjudge, odjudge, .func (PySem.W.fnOf "judge" "judge" (defArgs sjudge) (defBody sjudge) (defScope sjudge) .none kVjudge dcjudge pmjudge anjudge cdjudge ctjudge), sljudge⟩) (cjudge : PySem.W.codeIn K cdjudge "judge" = true) (kjudge : PySem.W.keepIn K (.ref fjudge) = true)
    (a_is_right : PySem.W.nsIn K mainGlobals "_is_right" = some (some (.ref f_is_right))) (l_is_right : K.lookup f_is_right = some ⟨oc_is_right, od_is_right, .func (PySem.W.fnOf "_is_right" "_is_right" (defArgs s_is_right) (defBody s_is_right) (defScope s_is_right) .none kV_is_right dc_is_right pm_is_right an_is_right cd_is_right ct_is_right), sl_is_right⟩) (c_is_right : PySem.W.codeIn K cd_is_right "_is_right" = true) (k_is_right : PySem.W.keepIn K (.ref f_is_right) = true)
    (a_numbers_are_right : PySem.W.nsIn K mainGlobals "_numbers_are_right" = some (some (.ref f_numbers_are_right))) (l_numbers_are_right : K.lookup f_numbers_are_right = some ⟨oc_numbers_are_right, od_numbers_are_right, .func (PySem.W.fnOf "_numbers_are_right" "_numbers_are_right" (defArgs s_numbers_are_right) (defBody s_numbers_are_right) (defScope s_numbers_are_right) .none kV_numbers_are_right dc_numbers_are_right pm_numbers_are_right an_numbers_are_right cd_numbers_are_right ct_numbers_are_right), sl_numbers_are_right⟩) (c_numbers_are_right : PySem.W.codeIn K cd_numbers_are_right "_numbers_are_right" = true) (k_numbers_are_right : PySem.W.keepIn K (.ref f_numbers_are_right) = true)
    (a_replies_are_right : PySem.W.nsIn K mainGlobals "_replies_are_right" = some (some (.ref f_replies_are_right))) (l_replies_are_right : K.lookup f_replies_are_right = some ⟨oc_replies_are_right, od_replies_are_right, .func (PySem.W.fnOf "_replies_are_right" "_replies_are_right" (defArgs s_replies_are_right) (defBody s_replies_are_right) (defScope s_replies_are_right) .none kV_replies_are_right dc_replies_are_right pm_replies_are_right an_replies_are_right cd_replies_are_right ct_replies_are_right), sl_replies_are_right⟩) (c_replies_are_right : PySem.W.codeIn K cd_replies_are_right "_replies_are_right" = true) (k_replies_are_right : PySem.W.keepIn K (.ref f_replies_are_right) = true)
    (a_law_replies_right : PySem.W.nsIn K mainGlobals "_law_replies_right" = some (some (.ref f_law_replies_right))) (l_law_replies_right : K.lookup f_law_replies_right = some ⟨oc_law_replies_right, od_law_replies_right, .func (PySem.W.fnOf "_law_replies_right" "_law_replies_right" (defArgs s_law_replies_right) (defBody s_law_replies_right) (defScope s_law_replies_right) .none kV_law_replies_right dc_law_replies_right pm_law_replies_right an_law_replies_right cd_law_replies_right ct_law_replies_right), sl_law_replies_right⟩) (c_law_replies_right : PySem.W.codeIn K cd_law_replies_right "_law_replies_right" = true) (k_law_replies_right : PySem.W.keepIn K (.ref f_law_replies_right) = true)
    (a_law_stay_right : PySem.W.nsIn K mainGlobals "_law_stay_right" = some (some (.ref f_law_stay_right))) (l_law_stay_right : K.lookup f_law_stay_right = some ⟨oc_law_stay_right, od_law_stay_right, .func (PySem.W.fnOf "_law_stay_right" "_law_stay_right" (defArgs s_law_stay_right) (defBody s_law_stay_right) (defScope s_law_stay_right) .none kV_law_stay_right dc_law_stay_right pm_law_stay_right an_law_stay_right cd_law_stay_right ct_law_stay_right), sl_law_stay_right⟩) (c_law_stay_right : PySem.W.codeIn K cd_law_stay_right "_law_stay_right" = true) (k_law_stay_right : PySem.W.keepIn K (.ref f_law_stay_right) = true)
    (a_law_draws : PySem.W.nsIn K mainGlobals "_law_draws" = some (some (.ref f_law_draws))) (l_law_draws : K.lookup f_law_draws = some ⟨oc_law_draws, od_law_draws, .func (PySem.W.fnOf "_law_draws" "_law_draws" (defArgs s_law_draws) (defBody s_law_draws) (defScope s_law_draws) .none kV_law_draws dc_law_draws pm_law_draws an_law_draws cd_law_draws ct_law_draws), sl_law_draws⟩) (c_law_draws : PySem.W.codeIn K cd_law_draws "_law_draws" = true) (k_law_draws : PySem.W.keepIn K (.ref f_law_draws) = true)
    (a_law_take : PySem.W.nsIn K mainGlobals "_law_take" = some (some (.ref f_law_take))) (l_law_take : K.lookup f_law_take = some ⟨oc_law_take, od_law_take, .func (PySem.W.fnOf "_law_take" "_law_take" (defArgs s_law_take) (defBody s_law_take) (defScope s_law_take) .none kV_law_take dc_law_take pm_law_take an_law_take cd_law_take ct_law_take), sl_law_take⟩) (c_law_take : PySem.W.codeIn K cd_law_take "_law_take" = true) (k_law_take : PySem.W.keepIn K (.ref f_law_take) = true)
    (a_law_options : PySem.W.nsIn K mainGlobals "_law_options" = some (some (.ref f_law_options))) (l_law_options : K.lookup f_law_options = some ⟨oc_law_options, od_law_options, .func (PySem.W.fnOf "_law_options" "_law_options" (defArgs s_law_options) (defBody s_law_options) (defScope s_law_options) .none kV_law_options dc_law_options pm_law_options an_law_options cd_law_options ct_law_options), sl_law_options⟩) (c_law_options : PySem.W.codeIn K cd_law_options "_law_options" = true) (k_law_options : PySem.W.keepIn K (.ref f_law_options) = true)
    (a_law_distinct : PySem.W.nsIn K mainGlobals "_law_distinct" = some (some (.ref f_law_distinct))) (l_law_distinct : K.lookup f_law_distinct = some ⟨oc_law_distinct, od_law_distinct, .func (PySem.W.fnOf "_law_distinct" "_law_distinct" (defArgs s_law_distinct) (defBody s_law_distinct) (defScope s_law_distinct) .none kV_law_distinct dc_law_distinct pm_law_distinct an_law_distinct cd_law_distinct ct_law_distinct), sl_law_distinct⟩) (c_law_distinct : PySem.W.codeIn K cd_law_distinct "_law_distinct" = true) (k_law_distinct : PySem.W.keepIn K (.ref f_law_distinct) = true)
    (a_law_arena : PySem.W.nsIn K mainGlobals "_law_arena" = some (some (.ref f_law_arena))) (l_law_arena : K.lookup f_law_arena = some ⟨oc_law_arena, od_law_arena, .func (PySem.W.fnOf "_law_arena" "_law_arena" (defArgs s_law_arena) (defBody s_law_arena) (defScope s_law_arena) .none kV_law_arena dc_law_arena pm_law_arena an_law_arena cd_law_arena ct_law_arena), sl_law_arena⟩) (c_law_arena : PySem.W.codeIn K cd_law_arena "_law_arena" = true) (k_law_arena : PySem.W.keepIn K (.ref f_law_arena) = true)
    (a_law_some : PySem.W.nsIn K mainGlobals "_law_some" = some (some (.ref f_law_some))) (l_law_some : K.lookup f_law_some = some ⟨oc_law_some, od_law_some, .func (PySem.W.fnOf "_law_some" "_law_some" (defArgs s_law_some) (defBody s_law_some) (defScope s_law_some) .none kV_law_some dc_law_some pm_law_some an_law_some cd_law_some ct_law_some), sl_law_some⟩) (c_law_some : PySem.W.codeIn K cd_law_some "_law_some" = true) (k_law_some : PySem.W.keepIn K (.ref f_law_some) = true)
    (a_law_stay_ranks : PySem.W.nsIn K mainGlobals "_law_stay_ranks" = some (some (.ref f_law_stay_ranks))) (l_law_stay_ranks : K.lookup f_law_stay_ranks = some ⟨oc_law_stay_ranks, od_law_stay_ranks, .func (PySem.W.fnOf "_law_stay_ranks" "_law_stay_ranks" (defArgs s_law_stay_ranks) (defBody s_law_stay_ranks) (defScope s_law_stay_ranks) .none kV_law_stay_ranks dc_law_stay_ranks pm_law_stay_ranks an_law_stay_ranks cd_law_stay_ranks ct_law_stay_ranks), sl_law_stay_ranks⟩) (c_law_stay_ranks : PySem.W.codeIn K cd_law_stay_ranks "_law_stay_ranks" = true) (k_law_stay_ranks : PySem.W.keepIn K (.ref f_law_stay_ranks) = true)
    (a_law_stay_paper : PySem.W.nsIn K mainGlobals "_law_stay_paper" = some (some (.ref f_law_stay_paper))) (l_law_stay_paper : K.lookup f_law_stay_paper = some ⟨oc_law_stay_paper, od_law_stay_paper, .func (PySem.W.fnOf "_law_stay_paper" "_law_stay_paper" (defArgs s_law_stay_paper) (defBody s_law_stay_paper) (defScope s_law_stay_paper) .none kV_law_stay_paper dc_law_stay_paper pm_law_stay_paper an_law_stay_paper cd_law_stay_paper ct_law_stay_paper), sl_law_stay_paper⟩) (c_law_stay_paper : PySem.W.codeIn K cd_law_stay_paper "_law_stay_paper" = true) (k_law_stay_paper : PySem.W.keepIn K (.ref f_law_stay_paper) = true)
    (a_law_changed : PySem.W.nsIn K mainGlobals "_law_changed" = some (some (.ref f_law_changed))) (l_law_changed : K.lookup f_law_changed = some ⟨oc_law_changed, od_law_changed, .func (PySem.W.fnOf "_law_changed" "_law_changed" (defArgs s_law_changed) (defBody s_law_changed) (defScope s_law_changed) .none kV_law_changed dc_law_changed pm_law_changed an_law_changed cd_law_changed ct_law_changed), sl_law_changed⟩) (c_law_changed : PySem.W.codeIn K cd_law_changed "_law_changed" = true) (k_law_changed : PySem.W.keepIn K (.ref f_law_changed) = true)
    (a_law_spoilt : PySem.W.nsIn K mainGlobals "_law_spoilt" = some (some (.ref f_law_spoilt))) (l_law_spoilt : K.lookup f_law_spoilt = some ⟨oc_law_spoilt, od_law_spoilt, .func (PySem.W.fnOf "_law_spoilt" "_law_spoilt" (defArgs s_law_spoilt) (defBody s_law_spoilt) (defScope s_law_spoilt) .none kV_law_spoilt dc_law_spoilt pm_law_spoilt an_law_spoilt cd_law_spoilt ct_law_spoilt), sl_law_spoilt⟩) (c_law_spoilt : PySem.W.codeIn K cd_law_spoilt "_law_spoilt" = true) (k_law_spoilt : PySem.W.keepIn K (.ref f_law_spoilt) = true)
    (a_law_taken : PySem.W.nsIn K mainGlobals "_law_taken" = some (some (.ref f_law_taken))) (l_law_taken : K.lookup f_law_taken = some ⟨oc_law_taken, od_law_taken, .func (PySem.W.fnOf "_law_taken" "_law_taken" (defArgs s_law_taken) (defBody s_law_taken) (defScope s_law_taken) .none kV_law_taken dc_law_taken pm_law_taken an_law_taken cd_law_taken ct_law_taken), sl_law_taken⟩) (c_law_taken : PySem.W.codeIn K cd_law_taken "_law_taken" = true) (k_law_taken : PySem.W.keepIn K (.ref f_law_taken) = true)
    (alaw : PySem.W.nsIn K mainGlobals "law" = some (some (.ref flaw))) (llaw : K.lookup flaw = some ⟨oclaw, odlaw, .func (PySem.W.fnOf "law" "law" (defArgs slaw) (defBody slaw) (defScope slaw) .none kVlaw dclaw pmlaw anlaw cdlaw ctlaw), sllaw⟩) (claw : PySem.W.codeIn K cdlaw "law" = true) (klaw : PySem.W.keepIn K (.ref flaw) = true)
    (aFitting___init__ : PySem.W.findIn K (.ref C_Fitting) "__init__" = some (some (.ref fFitting___init__))) (lFitting___init__ : K.lookup fFitting___init__ = some ⟨ocFitting___init__, odFitting___init__, .func (PySem.W.fnOf "__init__" "Fitting.__init__" (defArgs sFitting___init__) (defBody sFitting___init__) (defScope sFitting___init__) .none kVFitting___init__ dcFitting___init__ pmFitting___init__ anFitting___init__ cdFitting___init__ ctFitting___init__), slFitting___init__⟩) (cFitting___init__ : PySem.W.codeIn K cdFitting___init__ "Fitting.__init__" = true) (kFitting___init__ : PySem.W.keepIn K (.ref fFitting___init__) = true) (iFitting___init__ : PySem.W.isFn K (.ref fFitting___init__) = true)
    (aFitting_fits : PySem.W.findIn K (.ref C_Fitting) "fits" = some (some (.ref fFitting_fits))) (lFitting_fits : K.lookup fFitting_fits = some ⟨ocFitting_fits, odFitting_fits, .func (PySem.W.fnOf "fits" "Fitting.fits" (defArgs sFitting_fits) (defBody sFitting_fits) (defScope sFitting_fits) .none kVFitting_fits dcFitting_fits pmFitting_fits anFitting_fits cdFitting_fits ctFitting_fits), slFitting_fits⟩) (cFitting_fits : PySem.W.codeIn K cdFitting_fits "Fitting.fits" = true) (kFitting_fits : PySem.W.keepIn K (.ref fFitting_fits) = true) (iFitting_fits : PySem.W.isFn K (.ref fFitting_fits) = true)
    (aFitting_all_fit : PySem.W.findIn K (.ref C_Fitting) "all_fit" = some (some (.ref fFitting_all_fit))) (lFitting_all_fit : K.lookup fFitting_all_fit = some ⟨ocFitting_all_fit, odFitting_all_fit, .func (PySem.W.fnOf "all_fit" "Fitting.all_fit" (defArgs sFitting_all_fit) (defBody sFitting_all_fit) (defScope sFitting_all_fit) .none kVFitting_all_fit dcFitting_all_fit pmFitting_all_fit anFitting_all_fit cdFitting_all_fit ctFitting_all_fit), slFitting_all_fit⟩) (cFitting_all_fit : PySem.W.codeIn K cdFitting_all_fit "Fitting.all_fit" = true) (kFitting_all_fit : PySem.W.keepIn K (.ref fFitting_all_fit) = true) (iFitting_all_fit : PySem.W.isFn K (.ref fFitting_all_fit) = true)
    (g_CONTROLLER : PySem.W.nsIn K mainGlobals "CONTROLLER" = some (some u_CONTROLLER)) (r_CONTROLLER : L2.RelV (.int 0) u_CONTROLLER)
    (g_DISTURBANCE : PySem.W.nsIn K mainGlobals "DISTURBANCE" = some (some u_DISTURBANCE)) (r_DISTURBANCE : L2.RelV (.int 1) u_DISTURBANCE)
    (g_OPTION_KINDS : PySem.W.nsIn K mainGlobals "OPTION_KINDS" = some (some (.ref c_OPTION_KINDS))) (k_OPTION_KINDS : KT K c_OPTION_KINDS [(.str "holds"), (.str "comes"), (.str "even"), (.str "keeps")])
    (z_all : PySem.W.nsIn K mainGlobals "all" = some none)
    (z_bool : PySem.W.nsIn K mainGlobals "bool" = some none)
    (z_enumerate : PySem.W.nsIn K mainGlobals "enumerate" = some none)
    (z_int : PySem.W.nsIn K mainGlobals "int" = some none)
    (z_isinstance : PySem.W.nsIn K mainGlobals "isinstance" = some none)
    (z_len : PySem.W.nsIn K mainGlobals "len" = some none)
    (z_list : PySem.W.nsIn K mainGlobals "list" = some none)
    (z_max : PySem.W.nsIn K mainGlobals "max" = some none)
    (z_min : PySem.W.nsIn K mainGlobals "min" = some none)
    (z_range : PySem.W.nsIn K mainGlobals "range" = some none)
    (z_sorted : PySem.W.nsIn K mainGlobals "sorted" = some none)
    (z_tuple : PySem.W.nsIn K mainGlobals "tuple" = some none)
    : ∃ fd : FuncData, (∀ (s : Shared) (v : Value), BindsTo s fd ⟨[v], []⟩ [("script", v)]) ∧ ∀ base : Heap, K.In base → base.Ns mainGlobals mg → FnOk l.prog w K mg base CX0 6 fa fd ["script"] (spLaw K) := by
  have e := hfa.symm.trans (PySem.W.mg_of X G alaw)
  cases e
  let T : Txt K mg := {
    z_all := PySem.W.mg_none_of X G z_all
    z_bool := PySem.W.mg_none_of X G z_bool
    z_enumerate := PySem.W.mg_none_of X G z_enumerate
    z_int := PySem.W.mg_none_of X G z_int
    z_isinstance := PySem.W.mg_none_of X G z_isinstance
    z_len := PySem.W.mg_none_of X G z_len
    z_list := PySem.W.mg_none_of X G z_list
    z_max := PySem.W.mg_none_of X G z_max
    z_min := PySem.W.mg_none_of X G z_min
    z_range := PySem.W.mg_none_of X G z_range
    z_sorted := PySem.W.mg_none_of X G z_sorted
    z_tuple := PySem.W.mg_none_of X G z_tuple
    u_CONTROLLER := u_CONTROLLER
    g_CONTROLLER := PySem.W.mg_of X G g_CONTROLLER
    r_CONTROLLER := r_CONTROLLER
    u_DISTURBANCE := u_DISTURBANCE
    g_DISTURBANCE := PySem.W.mg_of X G g_DISTURBANCE
    r_DISTURBANCE := r_DISTURBANCE
    c_OPTION_KINDS := c_OPTION_KINDS
    g_OPTION_KINDS := PySem.W.mg_of X G g_OPTION_KINDS
    k_OPTION_KINDS := k_OPTION_KINDS
    C_Fitting := C_Fitting
    g_Fitting := PySem.W.mg_of X G kg_Fitting
    cl_Fitting := ⟨kp_Fitting, kh_Fitting, ko_Fitting, ks_Fitting⟩
    na_Fitting_arena := kn_Fitting_arena
    na_Fitting_told := kn_Fitting_told
    na_Fitting_labels := kn_Fitting_labels
    na_Fitting_greatest := kn_Fitting_greatest
    aFitting___init__ := fFitting___init__
    dFitting___init__ := _
    FFitting___init__ := fun_mk (st := sFitting___init__) lFitting___init__ cFitting___init__ kFitting___init__
    mFitting___init__ := ⟨aFitting___init__, iFitting___init__, kFitting___init__⟩
    mk_Fitting := ⟨km_Fitting, aFitting___init__, iFitting___init__, kk_Fitting⟩
    aFitting_fits := fFitting_fits
    dFitting_fits := _
    FFitting_fits := fun_mk (st := sFitting_fits) lFitting_fits cFitting_fits kFitting_fits
    mFitting_fits := ⟨aFitting_fits, iFitting_fits, kFitting_fits⟩
    aFitting_all_fit := fFitting_all_fit
    dFitting_all_fit := _
    FFitting_all_fit := fun_mk (st := sFitting_all_fit) lFitting_all_fit cFitting_all_fit kFitting_all_fit
    mFitting_all_fit := ⟨aFitting_all_fit, iFitting_all_fit, kFitting_all_fit⟩
    ahas_option := fhas_option
    dhas_option := _
    Fhas_option := fun_mk (st := shas_option) lhas_option chas_option khas_option
    mhas_option := PySem.W.mg_of X G ahas_option
    aentries_from := fentries_from
    dentries_from := _
    Fentries_from := fun_mk (st := sentries_from) lentries_from centries_from kentries_from
    mentries_from := PySem.W.mg_of X G aentries_from
    ajudge := fjudge
    djudge := _
    Fjudge := fun_mk (st := sjudge) ljudge cjudge kjudge
    mjudge := PySem.W.mg_of X G ajudge
    a_is_right := f_is_right
    d_is_right := _
    F_is_right := fun_mk (st := s_is_right) l_is_right c_is_right k_is_right
    m_is_right := PySem.W.mg_of X G a_is_right
    a_numbers_are_right := f_numbers_are_right
    d_numbers_are_right := _
    F_numbers_are_right := fun_mk (st := s_numbers_are_right) l_numbers_are_right c_numbers_are_right k_numbers_are_right
    m_numbers_are_right := PySem.W.mg_of X G a_numbers_are_right
    a_replies_are_right := f_replies_are_right
    d_replies_are_right := _
    F_replies_are_right := fun_mk (st := s_replies_are_right) l_replies_are_right c_replies_are_right k_replies_are_right
    m_replies_are_right := PySem.W.mg_of X G a_replies_are_right
    a_law_replies_right := f_law_replies_right
    d_law_replies_right := _
    F_law_replies_right := fun_mk (st := s_law_replies_right) l_law_replies_right c_law_replies_right k_law_replies_right
    m_law_replies_right := PySem.W.mg_of X G a_law_replies_right
    a_law_stay_right := f_law_stay_right
    d_law_stay_right := _
    F_law_stay_right := fun_mk (st := s_law_stay_right) l_law_stay_right c_law_stay_right k_law_stay_right
    m_law_stay_right := PySem.W.mg_of X G a_law_stay_right
    a_law_draws := f_law_draws
    d_law_draws := _
    F_law_draws := fun_mk (st := s_law_draws) l_law_draws c_law_draws k_law_draws
    m_law_draws := PySem.W.mg_of X G a_law_draws
    a_law_take := f_law_take
    d_law_take := _
    F_law_take := fun_mk (st := s_law_take) l_law_take c_law_take k_law_take
    m_law_take := PySem.W.mg_of X G a_law_take
    a_law_options := f_law_options
    d_law_options := _
    F_law_options := fun_mk (st := s_law_options) l_law_options c_law_options k_law_options
    m_law_options := PySem.W.mg_of X G a_law_options
    a_law_distinct := f_law_distinct
    d_law_distinct := _
    F_law_distinct := fun_mk (st := s_law_distinct) l_law_distinct c_law_distinct k_law_distinct
    m_law_distinct := PySem.W.mg_of X G a_law_distinct
    a_law_arena := f_law_arena
    d_law_arena := _
    F_law_arena := fun_mk (st := s_law_arena) l_law_arena c_law_arena k_law_arena
    m_law_arena := PySem.W.mg_of X G a_law_arena
    a_law_some := f_law_some
    d_law_some := _
    F_law_some := fun_mk (st := s_law_some) l_law_some c_law_some k_law_some
    m_law_some := PySem.W.mg_of X G a_law_some
    a_law_stay_ranks := f_law_stay_ranks
    d_law_stay_ranks := _
    F_law_stay_ranks := fun_mk (st := s_law_stay_ranks) l_law_stay_ranks c_law_stay_ranks k_law_stay_ranks
    m_law_stay_ranks := PySem.W.mg_of X G a_law_stay_ranks
    a_law_stay_paper := f_law_stay_paper
    d_law_stay_paper := _
    F_law_stay_paper := fun_mk (st := s_law_stay_paper) l_law_stay_paper c_law_stay_paper k_law_stay_paper
    m_law_stay_paper := PySem.W.mg_of X G a_law_stay_paper
    a_law_changed := f_law_changed
    d_law_changed := _
    F_law_changed := fun_mk (st := s_law_changed) l_law_changed c_law_changed k_law_changed
    m_law_changed := PySem.W.mg_of X G a_law_changed
    a_law_spoilt := f_law_spoilt
    d_law_spoilt := _
    F_law_spoilt := fun_mk (st := s_law_spoilt) l_law_spoilt c_law_spoilt k_law_spoilt
    m_law_spoilt := PySem.W.mg_of X G a_law_spoilt
    a_law_taken := f_law_taken
    d_law_taken := _
    F_law_taken := fun_mk (st := s_law_taken) l_law_taken c_law_taken k_law_taken
    m_law_taken := PySem.W.mg_of X G a_law_taken
    alaw := fa
    dlaw := _
    Flaw := fun_mk (st := slaw) llaw claw klaw
    mlaw := PySem.W.mg_of X G alaw }
  refine ⟨T.dlaw, fun s v => .of_eq rfl, fun base _ _ => ?_⟩
  exact ok_law T
end NL
open PySem PySem.W PyProof.Rows
set_option maxRecDepth 100000 in
set_option maxHeartbeats 0 in
theorem PySem.Challenge.cw_neverleaves_k27_judge_of_staying_holds : PySem.Challenge.rw_neverleaves_k27_judge_of_staying.Holds := by
  w_on; o_law; k_head; (case hw => w_witness2)
  k_fill
  refine L2.walk_of (l := PySem.Challenge.rw_neverleaves_k27_judge_of_staying) (n := 63) (k := 6) (x := "script") (CX := fun _ => L2.CX0) (sp := fun w => NL.spLaw _) rfl (by decide) rfl ⟨rfl, by decide, by decide⟩ (fun w h Y => PySem.W.kIn_of Y) ?F (fun _ _ a ns hl _ hS => ⟨a, ns, rfl, hS, hl, fun _ => rfl⟩) (fun _ _ _ _ _ h => h)
  case F =>
    intro w mg fa h KX G hmg
    refine' NL.all_mk KX G hmg ?kg_Fitting ?kp_Fitting ?kh_Fitting ?ko_Fitting ?ks_Fitting ?km_Fitting ?kk_Fitting ?kn_Fitting_arena ?kn_Fitting_told ?kn_Fitting_labels ?kn_Fitting_greatest ?ahas_option ?lhas_option ?chas_option ?khas_option ?aentries_from ?lentries_from ?centries_from ?kentries_from ?ajudge ?ljudge ?cjudge ?kjudge ?a_is_right ?l_is_right ?c_is_right ?k_is_right ?a_numbers_are_right ?l_numbers_are_right ?c_numbers_are_right ?k_numbers_are_right ?a_replies_are_right ?l_replies_are_right ?c_replies_are_right ?k_replies_are_right ?a_law_replies_right ?l_law_replies_right ?c_law_replies_right ?k_law_replies_right ?a_law_stay_right ?l_law_stay_right ?c_law_stay_right ?k_law_stay_right ?a_law_draws ?l_law_draws ?c_law_draws ?k_law_draws ?a_law_take ?l_law_take ?c_law_take ?k_law_take ?a_law_options ?l_law_options ?c_law_options ?k_law_options ?a_law_distinct ?l_law_distinct ?c_law_distinct ?k_law_distinct ?a_law_arena ?l_law_arena ?c_law_arena ?k_law_arena ?a_law_some ?l_law_some ?c_law_some ?k_law_some ?a_law_stay_ranks ?l_law_stay_ranks ?c_law_stay_ranks ?k_law_stay_ranks ?a_law_stay_paper ?l_law_stay_paper ?c_law_stay_paper ?k_law_stay_paper ?a_law_changed ?l_law_changed ?c_law_changed ?k_law_changed ?a_law_spoilt ?l_law_spoilt ?c_law_spoilt ?k_law_spoilt ?a_law_taken ?l_law_taken ?c_law_taken ?k_law_taken ?alaw ?llaw ?claw ?klaw ?aFitting___init__ ?lFitting___init__ ?cFitting___init__ ?kFitting___init__ ?iFitting___init__ ?aFitting_fits ?lFitting_fits ?cFitting_fits ?kFitting_fits ?iFitting_fits ?aFitting_all_fit ?lFitting_all_fit ?cFitting_all_fit ?kFitting_all_fit ?iFitting_all_fit ?g_CONTROLLER ?r_CONTROLLER ?g_DISTURBANCE ?r_DISTURBANCE ?g_OPTION_KINDS ?k_OPTION_KINDS ?z_all ?z_bool ?z_enumerate ?z_int ?z_isinstance ?z_len ?z_list ?z_max ?z_min ?z_range ?z_sorted ?z_tuple
    (case kg_Fitting => k_is); (case kp_Fitting => k_is); (case kh_Fitting => k_is); (case ko_Fitting => k_is); (case ks_Fitting => k_is); (case km_Fitting => k_is); (case kk_Fitting => k_is); (case kn_Fitting_arena => k_is); (case kn_Fitting_told => k_is); (case kn_Fitting_labels => k_is); (case kn_Fitting_greatest => k_is)
    (case ahas_option => k_is); (case lhas_option => k_is); (case chas_option => k_is); (case khas_option => k_is)
    (case aentries_from => k_is); (case lentries_from => k_is); (case centries_from => k_is); (case kentries_from => k_is)
    (case ajudge => k_is); (case ljudge => k_is); (case cjudge => k_is); (case kjudge => k_is)
    (case a_is_right => k_is); (case l_is_right => k_is); (case c_is_right => k_is); (case k_is_right => k_is)
    (case a_numbers_are_right => k_is); (case l_numbers_are_right => k_is); (case c_numbers_are_right => k_is); (case k_numbers_are_right => k_is)
    (case a_replies_are_right => k_is); (case l_replies_are_right => k_is); (case c_replies_are_right => k_is); (case k_replies_are_right => k_is)
    (case a_law_replies_right => k_is); (case l_law_replies_right => k_is); (case c_law_replies_right => k_is); (case k_law_replies_right => k_is)
    (case a_law_stay_right => k_is); (case l_law_stay_right => k_is); (case c_law_stay_right => k_is); (case k_law_stay_right => k_is)
    (case a_law_draws => k_is); (case l_law_draws => k_is); (case c_law_draws => k_is); (case k_law_draws => k_is)
    (case a_law_take => k_is); (case l_law_take => k_is); (case c_law_take => k_is); (case k_law_take => k_is)
    (case a_law_options => k_is); (case l_law_options => k_is); (case c_law_options => k_is); (case k_law_options => k_is)
    (case a_law_distinct => k_is); (case l_law_distinct => k_is); (case c_law_distinct => k_is); (case k_law_distinct => k_is)
    (case a_law_arena => k_is); (case l_law_arena => k_is); (case c_law_arena => k_is); (case k_law_arena => k_is)
    (case a_law_some => k_is); (case l_law_some => k_is); (case c_law_some => k_is); (case k_law_some => k_is)
    (case a_law_stay_ranks => k_is); (case l_law_stay_ranks => k_is); (case c_law_stay_ranks => k_is); (case k_law_stay_ranks => k_is)
    (case a_law_stay_paper => k_is); (case l_law_stay_paper => k_is); (case c_law_stay_paper => k_is); (case k_law_stay_paper => k_is)
    (case a_law_changed => k_is); (case l_law_changed => k_is); (case c_law_changed => k_is); (case k_law_changed => k_is)
    (case a_law_spoilt => k_is); (case l_law_spoilt => k_is); (case c_law_spoilt => k_is); (case k_law_spoilt => k_is)
    (case a_law_taken => k_is); (case l_law_taken => k_is); (case c_law_taken => k_is); (case k_law_taken => k_is)
    (case alaw => k_is); (case llaw => k_is); (case claw => k_is); (case klaw => k_is)
    (case aFitting___init__ => k_is); (case lFitting___init__ => k_is); (case cFitting___init__ => k_is); (case kFitting___init__ => k_is); (case iFitting___init__ => k_is)
    (case aFitting_fits => k_is); (case lFitting_fits => k_is); (case cFitting_fits => k_is); (case kFitting_fits => k_is); (case iFitting_fits => k_is)
    (case aFitting_all_fit => k_is); (case lFitting_all_fit => k_is); (case cFitting_all_fit => k_is); (case kFitting_all_fit => k_is); (case iFitting_all_fit => k_is)
    (case g_CONTROLLER => k_is); (case r_CONTROLLER => exact ⟨_, rfl⟩)
    (case g_DISTURBANCE => k_is); (case r_DISTURBANCE => exact ⟨_, rfl⟩)
    (case g_OPTION_KINDS => k_is); (case k_OPTION_KINDS => (refine' NL.kt_mk ?h1 ?h2 ?h3 ?h4 ?h5; (case h1 => k_is); (case h2 => rfl); (case h3 => rfl); (case h4 => decide); (case h5 => repeat (first | exact .nil | refine .cons ⟨_, rfl⟩ ?_))))
    (case z_all => k_is)
    (case z_bool => k_is)
    (case z_enumerate => k_is)
    (case z_int => k_is)
    (case z_isinstance => k_is)
    (case z_len => k_is)
    (case z_list => k_is)
    (case z_max => k_is)
    (case z_min => k_is)
    (case z_range => k_is)
    (case z_sorted => k_is)
    (case z_tuple => k_is)
