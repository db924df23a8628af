import PyProof.Rows.All
import Wide.All
import OpenK.AllK
import Wide.FinOn
import HandS.ForExc
import HandS.ForMost
import HandS.TupAny
import HandS.IsInst
import HandS.Codes
import HandS.FStr
import HandS.Zip
import HandS.EndBits
import HandS.Wide
import HandS.WideBits
import HandS.More
import HandS.DictComp
import HandS.Sort
import KE.SortData
import PyProof.Draws
import KE.KxIndex
import PySem.Challenge.RW_neverleaves_k19_positions_of_states
set_option Elab.async false
set_option linter.all false
set_option maxRecDepth 100000

namespace NL
open PySem PySem.Spec PyProof.Rows L2
def topS (i : Nat) : Stmt := PySem.Challenge.pw_neverleaves_k19_positions_of_states.main.body.getD i (.Pass ⟨0, 0, 0, 0⟩)
abbrev svalue_of : Stmt := topS 1
abbrev Nvalue_of : List Str := ["expression", "values", "word", "chosen"]
abbrev Pvalue_of : List Str := ["expression", "values"]
theorem scvalue_of : FnScope Nvalue_of Pvalue_of (defScope svalue_of) := ⟨rfl, rfl, rfl, by decide +kernel, rfl, by decide +kernel, by decide +kernel⟩
abbrev s_value_of_two : Stmt := topS 2
abbrev N_value_of_two : List Str := ["word", "first", "second"]
abbrev P_value_of_two : List Str := ["word", "first", "second"]
theorem sc_value_of_two : FnScope N_value_of_two P_value_of_two (defScope s_value_of_two) := ⟨rfl, rfl, rfl, by decide +kernel, rfl, by decide +kernel, by decide +kernel⟩
abbrev sholds : Stmt := topS 3
abbrev Nholds : List Str := ["condition", "values", "word", "part"]
abbrev Pholds : List Str := ["condition", "values"]
theorem scholds : FnScope Nholds Pholds (defScope sholds) := ⟨rfl, rfl, rfl, by decide +kernel, rfl, by decide +kernel, by decide +kernel⟩
abbrev svalues_by_name : Stmt := topS 5
abbrev Nvalues_by_name : List Str := ["ranges", "numbers", "row", "number"]
abbrev Pvalues_by_name : List Str := ["ranges", "numbers"]
theorem scvalues_by_name : FnScope Nvalues_by_name Pvalues_by_name (defScope svalues_by_name) := ⟨rfl, rfl, rfl, by decide +kernel, rfl, by decide +kernel, by decide +kernel⟩
abbrev sstates_of : Stmt := topS 6
abbrev Nstates_of : List Str := ["plant"]
abbrev Pstates_of : List Str := ["plant"]
theorem scstates_of : FnScope Nstates_of Pstates_of (defScope sstates_of) := ⟨rfl, rfl, rfl, by decide +kernel, rfl, by decide +kernel, by decide +kernel⟩
abbrev s_rows_in : Stmt := topS 7
abbrev N_rows_in : List Str := ["ranges", "rows", "name", "low", "high", "row", "number"]
abbrev P_rows_in : List Str := ["ranges"]
theorem sc_rows_in : FnScope N_rows_in P_rows_in (defScope s_rows_in) := ⟨rfl, rfl, rfl, by decide +kernel, rfl, by decide +kernel, by decide +kernel⟩
abbrev sposition_of : Stmt := topS 9
abbrev Nposition_of : List Str := ["plant", "state", "position", "name", "low", "high", "number"]
abbrev Pposition_of : List Str := ["plant", "state"]
theorem scposition_of : FnScope Nposition_of Pposition_of (defScope sposition_of) := ⟨rfl, rfl, rfl, by decide +kernel, rfl, by decide +kernel, by decide +kernel⟩
abbrev spositions_where : Stmt := topS 10
abbrev Npositions_where : List Str := ["plant", "condition", "states", "at", "state"]
abbrev Ppositions_where : List Str := ["plant", "condition"]
theorem scpositions_where : FnScope Npositions_where Ppositions_where (defScope spositions_where) := ⟨rfl, rfl, rfl, by decide +kernel, rfl, by decide +kernel, by decide +kernel⟩
abbrev s_law_draws : Stmt := topS 12
abbrev N_law_draws : List Str := ["script", "many", "cells", "cell", "rest", "draws", "k", "at", "once"]
abbrev P_law_draws : List Str := ["script", "many"]
theorem sc_law_draws : FnScope N_law_draws P_law_draws (defScope s_law_draws) := ⟨rfl, rfl, rfl, by decide +kernel, rfl, by decide +kernel, by decide +kernel⟩
abbrev s_law_take : Stmt := topS 13
abbrev N_law_take : List Str := ["draws", "many"]
abbrev P_law_take : List Str := ["draws", "many"]
theorem sc_law_take : FnScope N_law_take P_law_take (defScope s_law_take) := ⟨rfl, rfl, rfl, by decide +kernel, rfl, by decide +kernel, by decide +kernel⟩
abbrev s_law_cell : Stmt := topS 14
abbrev N_law_cell : List Str := ["script", "draws"]
abbrev P_law_cell : List Str := ["script", "draws"]
theorem sc_law_cell : FnScope N_law_cell P_law_cell (defScope s_law_cell) := ⟨rfl, rfl, rfl, by decide +kernel, rfl, by decide +kernel, by decide +kernel⟩
abbrev s_law_word : Stmt := topS 15
abbrev N_law_word : List Str := ["number", "word", "k"]
abbrev P_law_word : List Str := ["number"]
theorem sc_law_word : FnScope N_law_word P_law_word (defScope s_law_word) := ⟨rfl, rfl, rfl, by decide +kernel, rfl, by decide +kernel, by decide +kernel⟩
abbrev s_law_some_word : Stmt := topS 16
abbrev N_law_some_word : List Str := ["draws", "number", "great"]
abbrev P_law_some_word : List Str := ["draws"]
theorem sc_law_some_word : FnScope N_law_some_word P_law_some_word (defScope s_law_some_word) := ⟨rfl, rfl, rfl, by decide +kernel, rfl, by decide +kernel, by decide +kernel⟩
abbrev s_law_reserved : Stmt := topS 17
abbrev N_law_reserved : List Str := ["first"]
abbrev P_law_reserved : List Str := []
theorem sc_law_reserved : FnScope N_law_reserved P_law_reserved (defScope s_law_reserved) := ⟨rfl, rfl, rfl, by decide +kernel, rfl, by decide +kernel, by decide +kernel⟩
abbrev s_law_name : Stmt := topS 18
abbrev N_law_name : List Str := ["draws", "known", "name", "near"]
abbrev P_law_name : List Str := ["draws"]
theorem sc_law_name : FnScope N_law_name P_law_name (defScope s_law_name) := ⟨rfl, rfl, rfl, by decide +kernel, rfl, by decide +kernel, by decide +kernel⟩
abbrev s_law_names : Stmt := topS 19
abbrev N_law_names : List Str := ["draws", "many", "names", "k", "name"]
abbrev P_law_names : List Str := ["draws", "many"]
theorem sc_law_names : FnScope N_law_names P_law_names (defScope s_law_names) := ⟨rfl, rfl, rfl, by decide +kernel, rfl, by decide +kernel, by decide +kernel⟩
abbrev s_law_number : Stmt := topS 20
abbrev N_law_number : List Str := ["draws", "cell"]
abbrev P_law_number : List Str := ["draws", "cell"]
theorem sc_law_number : FnScope N_law_number P_law_number (defScope s_law_number) := ⟨rfl, rfl, rfl, by decide +kernel, rfl, by decide +kernel, by decide +kernel⟩
abbrev s_law_leaf : Stmt := topS 21
abbrev N_law_leaf : List Str := ["draws", "names", "cell"]
abbrev P_law_leaf : List Str := ["draws", "names", "cell"]
theorem sc_law_leaf : FnScope N_law_leaf P_law_leaf (defScope s_law_leaf) := ⟨rfl, rfl, rfl, by decide +kernel, rfl, by decide +kernel, by decide +kernel⟩
abbrev s_law_expression : Stmt := topS 22
abbrev N_law_expression : List Str := ["draws", "names", "cell", "depth", "kind", "one", "two"]
abbrev P_law_expression : List Str := ["draws", "names", "cell", "depth"]
theorem sc_law_expression : FnScope N_law_expression P_law_expression (defScope s_law_expression) := ⟨rfl, rfl, rfl, by decide +kernel, rfl, by decide +kernel, by decide +kernel⟩
abbrev s_law_test : Stmt := topS 23
abbrev N_law_test : List Str := ["draws", "names", "cell", "depth", "kind", "one", "many", "k"]
abbrev P_law_test : List Str := ["draws", "names", "cell", "depth"]
theorem sc_law_test : FnScope N_law_test P_law_test (defScope s_law_test) := ⟨rfl, rfl, rfl, by decide +kernel, rfl, by decide +kernel, by decide +kernel⟩
abbrev s_law_inner : Stmt := topS 24
abbrev N_law_inner : List Str := ["item"]
abbrev P_law_inner : List Str := ["item"]
theorem sc_law_inner : FnScope N_law_inner P_law_inner (defScope s_law_inner) := ⟨rfl, rfl, rfl, by decide +kernel, rfl, by decide +kernel, by decide +kernel⟩
abbrev s_law_depth : Stmt := topS 25
abbrev N_law_depth : List Str := ["item", "part"]
abbrev P_law_depth : List Str := ["item"]
theorem sc_law_depth : FnScope N_law_depth P_law_depth (defScope s_law_depth) := ⟨rfl, rfl, rfl, by decide +kernel, rfl, by decide +kernel, by decide +kernel⟩
abbrev s_law_is_test : Stmt := topS 26
abbrev N_law_is_test : List Str := ["item"]
abbrev P_law_is_test : List Str := ["item"]
theorem sc_law_is_test : FnScope N_law_is_test P_law_is_test (defScope s_law_is_test) := ⟨rfl, rfl, rfl, by decide +kernel, rfl, by decide +kernel, by decide +kernel⟩
abbrev s_law_around : Stmt := topS 27
abbrev N_law_around : List Str := ["item", "side", "many", "turn", "k", "both", "parts", "found"]
abbrev P_law_around : List Str := ["item", "side", "many", "turn"]
theorem sc_law_around : FnScope N_law_around P_law_around (defScope s_law_around) := ⟨rfl, rfl, rfl, by decide +kernel, rfl, by decide +kernel, by decide +kernel⟩
abbrev s_law_ranges : Stmt := topS 28
abbrev N_law_ranges : List Str := ["draws", "names", "room", "cell", "found", "name", "size", "low"]
abbrev P_law_ranges : List Str := ["draws", "names", "room", "cell"]
theorem sc_law_ranges : FnScope N_law_ranges P_law_ranges (defScope s_law_ranges) := ⟨rfl, rfl, rfl, by decide +kernel, rfl, by decide +kernel, by decide +kernel⟩
abbrev s_law_step : Stmt := topS 29
abbrev N_law_step : List Str := ["draws", "row", "names", "cell", "depth", "kind", "own", "found"]
abbrev P_law_step : List Str := ["draws", "row", "names", "cell", "depth"]
theorem sc_law_step : FnScope N_law_step P_law_step (defScope s_law_step) := ⟨rfl, rfl, rfl, by decide +kernel, rfl, by decide +kernel, by decide +kernel⟩
abbrev s_law_plant : Stmt := topS 30
abbrev N_law_plant : List Str := ["draws", "cell", "rooms", "counts", "names", "variables", "inputs", "noises", "deep", "steps", "row", "allowed"]
abbrev P_law_plant : List Str := ["draws", "cell", "rooms"]
theorem sc_law_plant : FnScope N_law_plant P_law_plant (defScope s_law_plant) := ⟨rfl, rfl, rfl, by decide +kernel, rfl, by decide +kernel, by decide +kernel⟩
abbrev s_law_same : Stmt := topS 31
abbrev N_law_same : List Str := ["actual", "due", "k"]
abbrev P_law_same : List Str := ["actual", "due"]
theorem sc_law_same : FnScope N_law_same P_law_same (defScope s_law_same) := ⟨rfl, rfl, rfl, by decide +kernel, rfl, by decide +kernel, by decide +kernel⟩
abbrev s_law_value : Stmt := topS 32
abbrev N_law_value : List Str := ["item", "values", "kind", "one", "two"]
abbrev P_law_value : List Str := ["item", "values"]
theorem sc_law_value : FnScope N_law_value P_law_value (defScope s_law_value) := ⟨rfl, rfl, rfl, by decide +kernel, rfl, by decide +kernel, by decide +kernel⟩
abbrev s_law_truth : Stmt := topS 33
abbrev N_law_truth : List Str := ["item", "values", "kind", "part"]
abbrev P_law_truth : List Str := ["item", "values"]
theorem sc_law_truth : FnScope N_law_truth P_law_truth (defScope s_law_truth) := ⟨rfl, rfl, rfl, by decide +kernel, rfl, by decide +kernel, by decide +kernel⟩
abbrev s_law_rows : Stmt := topS 34
abbrev N_law_rows : List Str := ["ranges", "rows", "row", "longer", "first", "value"]
abbrev P_law_rows : List Str := ["ranges"]
theorem sc_law_rows : FnScope N_law_rows P_law_rows (defScope s_law_rows) := ⟨rfl, rfl, rfl, by decide +kernel, rfl, by decide +kernel, by decide +kernel⟩
abbrev s_law_named : Stmt := topS 35
abbrev N_law_named : List Str := ["ranges", "row", "found", "k"]
abbrev P_law_named : List Str := ["ranges", "row"]
theorem sc_law_named : FnScope N_law_named P_law_named (defScope s_law_named) := ⟨rfl, rfl, rfl, by decide +kernel, rfl, by decide +kernel, by decide +kernel⟩
abbrev s_law_where : Stmt := topS 38
abbrev N_law_where : List Str := ["plant", "condition", "found", "states", "k"]
abbrev P_law_where : List Str := ["plant", "condition"]
theorem sc_law_where : FnScope N_law_where P_law_where (defScope s_law_where) := ⟨rfl, rfl, rfl, by decide +kernel, rfl, by decide +kernel, by decide +kernel⟩
abbrev s_law_is_large : Stmt := topS 39
abbrev N_law_is_large : List Str := ["draws", "name", "low", "plant", "many", "k"]
abbrev P_law_is_large : List Str := ["draws", "name"]
theorem sc_law_is_large : FnScope N_law_is_large P_law_is_large (defScope s_law_is_large) := ⟨rfl, rfl, rfl, by decide +kernel, rfl, by decide +kernel, by decide +kernel⟩
abbrev slaw : Stmt := topS 40
abbrev Nlaw : List Str := ["script", "draws", "cell", "plant", "names", "row", "states", "k", "tests", "found", "test", "both", "some", "rest"]
abbrev Plaw : List Str := ["script"]
theorem sclaw : FnScope Nlaw Plaw (defScope slaw) := ⟨rfl, rfl, rfl, by decide +kernel, rfl, by decide +kernel, by decide +kernel⟩
def KT (K : PySem.W.Frag) (a : Addr) (ys : List V) : Prop := ∃ o its n, List.lookup a K = some o ∧ o.cls = .type "tuple" ∧ o.data = .seq its n ∧ its.size ≤ sizeLine ∧ L2.Vals ys its.toList
theorem kt_mk {K : PySem.W.Frag} {a : Addr} {ys : List V} {o : Obj} {its : Array Value} {n : Nat} (h1 : List.lookup a K = some o) (h2 : o.cls = .type "tuple") (h3 : o.data = .seq its n) (h4 : its.size ≤ sizeLine) (h5 : L2.Vals ys its.toList) : KT K a ys := ⟨o, its, n, h1, h2, h3, h4, h5⟩
structure Txt (K : PySem.W.Frag) (mg : Str → Option Value) where
  z_abs : mg "abs" = none
  z_all : mg "all" = none
  z_any : mg "any" = none
  z_bool : mg "bool" = none
  z_enumerate : mg "enumerate" = none
  z_int : mg "int" = none
  z_isinstance : mg "isinstance" = none
  z_len : mg "len" = none
  z_list : mg "list" = none
  z_max : mg "max" = none
  z_min : mg "min" = none
  z_range : mg "range" = none
  z_sorted : mg "sorted" = none
  z_str : mg "str" = none
  z_tuple : mg "tuple" = none
  z_zip : mg "zip" = none
  avalue_of : Addr
  dvalue_of : FuncData
  Fvalue_of : Fun K "value_of" "value_of" svalue_of avalue_of dvalue_of
  mvalue_of : mg "value_of" = some (.ref avalue_of)
  a_value_of_two : Addr
  d_value_of_two : FuncData
  F_value_of_two : Fun K "_value_of_two" "_value_of_two" s_value_of_two a_value_of_two d_value_of_two
  m_value_of_two : mg "_value_of_two" = some (.ref a_value_of_two)
  aholds : Addr
  dholds : FuncData
  Fholds : Fun K "holds" "holds" sholds aholds dholds
  mholds : mg "holds" = some (.ref aholds)
  avalues_by_name : Addr
  dvalues_by_name : FuncData
  Fvalues_by_name : Fun K "values_by_name" "values_by_name" svalues_by_name avalues_by_name dvalues_by_name
  mvalues_by_name : mg "values_by_name" = some (.ref avalues_by_name)
  astates_of : Addr
  dstates_of : FuncData
  Fstates_of : Fun K "states_of" "states_of" sstates_of astates_of dstates_of
  mstates_of : mg "states_of" = some (.ref astates_of)
  a_rows_in : Addr
  d_rows_in : FuncData
  F_rows_in : Fun K "_rows_in" "_rows_in" s_rows_in a_rows_in d_rows_in
  m_rows_in : mg "_rows_in" = some (.ref a_rows_in)
  aposition_of : Addr
  dposition_of : FuncData
  Fposition_of : Fun K "position_of" "position_of" sposition_of aposition_of dposition_of
  mposition_of : mg "position_of" = some (.ref aposition_of)
  apositions_where : Addr
  dpositions_where : FuncData
  Fpositions_where : Fun K "positions_where" "positions_where" spositions_where apositions_where dpositions_where
  mpositions_where : mg "positions_where" = some (.ref apositions_where)
  a_law_draws : Addr
  d_law_draws : FuncData
  F_law_draws : Fun K "_law_draws" "_law_draws" s_law_draws a_law_draws d_law_draws
  m_law_draws : mg "_law_draws" = some (.ref a_law_draws)
  a_law_take : Addr
  d_law_take : FuncData
  F_law_take : Fun K "_law_take" "_law_take" s_law_take a_law_take d_law_take
  m_law_take : mg "_law_take" = some (.ref a_law_take)
  a_law_cell : Addr
  d_law_cell : FuncData
  F_law_cell : Fun K "_law_cell" "_law_cell" s_law_cell a_law_cell d_law_cell
  m_law_cell : mg "_law_cell" = some (.ref a_law_cell)
  a_law_word : Addr
  d_law_word : FuncData
  F_law_word : Fun K "_law_word" "_law_word" s_law_word a_law_word d_law_word
  m_law_word : mg "_law_word" = some (.ref a_law_word)
  a_law_some_word : Addr
  d_law_some_word : FuncData
  F_law_some_word : Fun K "_law_some_word" "_law_some_word" s_law_some_word a_law_some_word d_law_some_word
  m_law_some_word : mg "_law_some_word" = some (.ref a_law_some_word)
  a_law_reserved : Addr
  d_law_reserved : FuncData
  F_law_reserved : Fun K "_law_reserved" "_law_reserved" s_law_reserved a_law_reserved d_law_reserved
  m_law_reserved : mg "_law_reserved" = some (.ref a_law_reserved)
  a_law_name : Addr
  d_law_name : FuncData
  F_law_name : Fun K "_law_name" "_law_name" s_law_name a_law_name d_law_name
  m_law_name : mg "_law_name" = some (.ref a_law_name)
  a_law_names : Addr
  d_law_names : FuncData
  F_law_names : Fun K "_law_names" "_law_names" s_law_names a_law_names d_law_names
  m_law_names : mg "_law_names" = some (.ref a_law_names)
  a_law_number : Addr
  d_law_number : FuncData
  F_law_number : Fun K "_law_number" "_law_number" s_law_number a_law_number d_law_number
  m_law_number : mg "_law_number" = some (.ref a_law_number)
  a_law_leaf : Addr
  d_law_leaf : FuncData
  F_law_leaf : Fun K "_law_leaf" "_law_leaf" s_law_leaf a_law_leaf d_law_leaf
  m_law_leaf : mg "_law_leaf" = some (.ref a_law_leaf)
  a_law_expression : Addr
  d_law_expression : FuncData
  F_law_expression : Fun K "_law_expression" "_law_expression" s_law_expression a_law_expression d_law_expression
  m_law_expression : mg "_law_expression" = some (.ref a_law_expression)
  a_law_test : Addr
  d_law_test : FuncData
  F_law_test : Fun K "_law_test" "_law_test" s_law_test a_law_test d_law_test
  m_law_test : mg "_law_test" = some (.ref a_law_test)
  a_law_inner : Addr
  d_law_inner : FuncData
  F_law_inner : Fun K "_law_inner" "_law_inner" s_law_inner a_law_inner d_law_inner
  m_law_inner : mg "_law_inner" = some (.ref a_law_inner)
  a_law_depth : Addr
  d_law_depth : FuncData
  F_law_depth : Fun K "_law_depth" "_law_depth" s_law_depth a_law_depth d_law_depth
  m_law_depth : mg "_law_depth" = some (.ref a_law_depth)
  a_law_is_test : Addr
  d_law_is_test : FuncData
  F_law_is_test : Fun K "_law_is_test" "_law_is_test" s_law_is_test a_law_is_test d_law_is_test
  m_law_is_test : mg "_law_is_test" = some (.ref a_law_is_test)
  a_law_around : Addr
  d_law_around : FuncData
  F_law_around : Fun K "_law_around" "_law_around" s_law_around a_law_around d_law_around
  m_law_around : mg "_law_around" = some (.ref a_law_around)
  a_law_ranges : Addr
  d_law_ranges : FuncData
  F_law_ranges : Fun K "_law_ranges" "_law_ranges" s_law_ranges a_law_ranges d_law_ranges
  m_law_ranges : mg "_law_ranges" = some (.ref a_law_ranges)
  a_law_step : Addr
  d_law_step : FuncData
  F_law_step : Fun K "_law_step" "_law_step" s_law_step a_law_step d_law_step
  m_law_step : mg "_law_step" = some (.ref a_law_step)
  a_law_plant : Addr
  d_law_plant : FuncData
  F_law_plant : Fun K "_law_plant" "_law_plant" s_law_plant a_law_plant d_law_plant
  m_law_plant : mg "_law_plant" = some (.ref a_law_plant)
  a_law_same : Addr
  d_law_same : FuncData
  F_law_same : Fun K "_law_same" "_law_same" s_law_same a_law_same d_law_same
  m_law_same : mg "_law_same" = some (.ref a_law_same)
  a_law_value : Addr
  d_law_value : FuncData
  F_law_value : Fun K "_law_value" "_law_value" s_law_value a_law_value d_law_value
  m_law_value : mg "_law_value" = some (.ref a_law_value)
  a_law_truth : Addr
  d_law_truth : FuncData
  F_law_truth : Fun K "_law_truth" "_law_truth" s_law_truth a_law_truth d_law_truth
  m_law_truth : mg "_law_truth" = some (.ref a_law_truth)
  a_law_rows : Addr
  d_law_rows : FuncData
  F_law_rows : Fun K "_law_rows" "_law_rows" s_law_rows a_law_rows d_law_rows
  m_law_rows : mg "_law_rows" = some (.ref a_law_rows)
  a_law_named : Addr
  d_law_named : FuncData
  F_law_named : Fun K "_law_named" "_law_named" s_law_named a_law_named d_law_named
  m_law_named : mg "_law_named" = some (.ref a_law_named)
  a_law_where : Addr
  d_law_where : FuncData
  F_law_where : Fun K "_law_where" "_law_where" s_law_where a_law_where d_law_where
  m_law_where : mg "_law_where" = some (.ref a_law_where)
  a_law_is_large : Addr
  d_law_is_large : FuncData
  F_law_is_large : Fun K "_law_is_large" "_law_is_large" s_law_is_large a_law_is_large d_law_is_large
  m_law_is_large : mg "_law_is_large" = some (.ref a_law_is_large)
  alaw : Addr
  dlaw : FuncData
  Flaw : Fun K "law" "law" slaw alaw dlaw
  mlaw : mg "law" = some (.ref alaw)
theorem Txt.bvalue_of {K : PySem.W.Frag} {mg : Str → Option Value} (T : Txt K mg) : Binds K T.dvalue_of Pvalue_of [] := T.Fvalue_of.binds fun _ _ _ _ _ _ us hl => match us, hl with | [_, _], _ => rfl
theorem Txt.b_value_of_two {K : PySem.W.Frag} {mg : Str → Option Value} (T : Txt K mg) : Binds K T.d_value_of_two P_value_of_two [] := T.F_value_of_two.binds fun _ _ _ _ _ _ us hl => match us, hl with | [_, _, _], _ => rfl
theorem Txt.bholds {K : PySem.W.Frag} {mg : Str → Option Value} (T : Txt K mg) : Binds K T.dholds Pholds [] := T.Fholds.binds fun _ _ _ _ _ _ us hl => match us, hl with | [_, _], _ => rfl
theorem Txt.bvalues_by_name {K : PySem.W.Frag} {mg : Str → Option Value} (T : Txt K mg) : Binds K T.dvalues_by_name Pvalues_by_name [] := T.Fvalues_by_name.binds fun _ _ _ _ _ _ us hl => match us, hl with | [_, _], _ => rfl
theorem Txt.bstates_of {K : PySem.W.Frag} {mg : Str → Option Value} (T : Txt K mg) : Binds K T.dstates_of Pstates_of [] := T.Fstates_of.binds fun _ _ _ _ _ _ us hl => match us, hl with | [_], _ => rfl
theorem Txt.b_rows_in {K : PySem.W.Frag} {mg : Str → Option Value} (T : Txt K mg) : Binds K T.d_rows_in P_rows_in [] := T.F_rows_in.binds fun _ _ _ _ _ _ us hl => match us, hl with | [_], _ => rfl
theorem Txt.bposition_of {K : PySem.W.Frag} {mg : Str → Option Value} (T : Txt K mg) : Binds K T.dposition_of Pposition_of [] := T.Fposition_of.binds fun _ _ _ _ _ _ us hl => match us, hl with | [_, _], _ => rfl
theorem Txt.bpositions_where {K : PySem.W.Frag} {mg : Str → Option Value} (T : Txt K mg) : Binds K T.dpositions_where Ppositions_where [] := T.Fpositions_where.binds fun _ _ _ _ _ _ us hl => match us, hl with | [_, _], _ => rfl
theorem Txt.b_law_draws {K : PySem.W.Frag} {mg : Str → Option Value} (T : Txt K mg) : Binds K T.d_law_draws P_law_draws [] := T.F_law_draws.binds fun _ _ _ _ _ _ us hl => match us, hl with | [_, _], _ => rfl
theorem Txt.b_law_take {K : PySem.W.Frag} {mg : Str → Option Value} (T : Txt K mg) : Binds K T.d_law_take P_law_take [] := T.F_law_take.binds fun _ _ _ _ _ _ us hl => match us, hl with | [_, _], _ => rfl
theorem Txt.b_law_cell {K : PySem.W.Frag} {mg : Str → Option Value} (T : Txt K mg) : Binds K T.d_law_cell P_law_cell [] := T.F_law_cell.binds fun _ _ _ _ _ _ us hl => match us, hl with | [_, _], _ => rfl
theorem Txt.b_law_word {K : PySem.W.Frag} {mg : Str → Option Value} (T : Txt K mg) : Binds K T.d_law_word P_law_word [] := T.F_law_word.binds fun _ _ _ _ _ _ us hl => match us, hl with | [_], _ => rfl
theorem Txt.b_law_some_word {K : PySem.W.Frag} {mg : Str → Option Value} (T : Txt K mg) : Binds K T.d_law_some_word P_law_some_word [] := T.F_law_some_word.binds fun _ _ _ _ _ _ us hl => match us, hl with | [_], _ => rfl
theorem Txt.b_law_reserved {K : PySem.W.Frag} {mg : Str → Option Value} (T : Txt K mg) : Binds K T.d_law_reserved P_law_reserved [] := T.F_law_reserved.binds fun _ _ _ _ _ _ us hl => match us, hl with | [], _ => rfl
theorem Txt.b_law_name {K : PySem.W.Frag} {mg : Str → Option Value} (T : Txt K mg) : Binds K T.d_law_name P_law_name [] := T.F_law_name.binds fun _ _ _ _ _ _ us hl => match us, hl with | [_], _ => rfl
theorem Txt.b_law_names {K : PySem.W.Frag} {mg : Str → Option Value} (T : Txt K mg) : Binds K T.d_law_names P_law_names [] := T.F_law_names.binds fun _ _ _ _ _ _ us hl => match us, hl with | [_, _], _ => rfl
theorem Txt.b_law_number {K : PySem.W.Frag} {mg : Str → Option Value} (T : Txt K mg) : Binds K T.d_law_number P_law_number [] := T.F_law_number.binds fun _ _ _ _ _ _ us hl => match us, hl with | [_, _], _ => rfl
theorem Txt.b_law_leaf {K : PySem.W.Frag} {mg : Str → Option Value} (T : Txt K mg) : Binds K T.d_law_leaf P_law_leaf [] := T.F_law_leaf.binds fun _ _ _ _ _ _ us hl => match us, hl with | [_, _, _], _ => rfl
theorem Txt.b_law_expression {K : PySem.W.Frag} {mg : Str → Option Value} (T : Txt K mg) : Binds K T.d_law_expression P_law_expression [] := T.F_law_expression.binds fun _ _ _ _ _ _ us hl => match us, hl with | [_, _, _, _], _ => rfl
theorem Txt.b_law_test {K : PySem.W.Frag} {mg : Str → Option Value} (T : Txt K mg) : Binds K T.d_law_test P_law_test [] := T.F_law_test.binds fun _ _ _ _ _ _ us hl => match us, hl with | [_, _, _, _], _ => rfl
theorem Txt.b_law_inner {K : PySem.W.Frag} {mg : Str → Option Value} (T : Txt K mg) : Binds K T.d_law_inner P_law_inner [] := T.F_law_inner.binds fun _ _ _ _ _ _ us hl => match us, hl with | [_], _ => rfl
theorem Txt.b_law_depth {K : PySem.W.Frag} {mg : Str → Option Value} (T : Txt K mg) : Binds K T.d_law_depth P_law_depth [] := T.F_law_depth.binds fun _ _ _ _ _ _ us hl => match us, hl with | [_], _ => rfl
theorem Txt.b_law_is_test {K : PySem.W.Frag} {mg : Str → Option Value} (T : Txt K mg) : Binds K T.d_law_is_test P_law_is_test [] := T.F_law_is_test.binds fun _ _ _ _ _ _ us hl => match us, hl with | [_], _ => rfl
theorem Txt.b_law_around {K : PySem.W.Frag} {mg : Str → Option Value} (T : Txt K mg) : Binds K T.d_law_around P_law_around [] := T.F_law_around.binds fun _ _ _ _ _ _ us hl => match us, hl with | [_, _, _, _], _ => rfl
theorem Txt.b_law_ranges {K : PySem.W.Frag} {mg : Str → Option Value} (T : Txt K mg) : Binds K T.d_law_ranges P_law_ranges [] := T.F_law_ranges.binds fun _ _ _ _ _ _ us hl => match us, hl with | [_, _, _, _], _ => rfl
theorem Txt.b_law_step {K : PySem.W.Frag} {mg : Str → Option Value} (T : Txt K mg) : Binds K T.d_law_step P_law_step [] := T.F_law_step.binds fun _ _ _ _ _ _ us hl => match us, hl with | [_, _, _, _, _], _ => rfl
theorem Txt.b_law_plant {K : PySem.W.Frag} {mg : Str → Option Value} (T : Txt K mg) : Binds K T.d_law_plant P_law_plant [] := T.F_law_plant.binds fun _ _ _ _ _ _ us hl => match us, hl with | [_, _, _], _ => rfl
theorem Txt.b_law_same {K : PySem.W.Frag} {mg : Str → Option Value} (T : Txt K mg) : Binds K T.d_law_same P_law_same [] := T.F_law_same.binds fun _ _ _ _ _ _ us hl => match us, hl with | [_, _], _ => rfl
theorem Txt.b_law_value {K : PySem.W.Frag} {mg : Str → Option Value} (T : Txt K mg) : Binds K T.d_law_value P_law_value [] := T.F_law_value.binds fun _ _ _ _ _ _ us hl => match us, hl with | [_, _], _ => rfl
theorem Txt.b_law_truth {K : PySem.W.Frag} {mg : Str → Option Value} (T : Txt K mg) : Binds K T.d_law_truth P_law_truth [] := T.F_law_truth.binds fun _ _ _ _ _ _ us hl => match us, hl with | [_, _], _ => rfl
theorem Txt.b_law_rows {K : PySem.W.Frag} {mg : Str → Option Value} (T : Txt K mg) : Binds K T.d_law_rows P_law_rows [] := T.F_law_rows.binds fun _ _ _ _ _ _ us hl => match us, hl with | [_], _ => rfl
theorem Txt.b_law_named {K : PySem.W.Frag} {mg : Str → Option Value} (T : Txt K mg) : Binds K T.d_law_named P_law_named [] := T.F_law_named.binds fun _ _ _ _ _ _ us hl => match us, hl with | [_, _], _ => rfl
theorem Txt.b_law_where {K : PySem.W.Frag} {mg : Str → Option Value} (T : Txt K mg) : Binds K T.d_law_where P_law_where [] := T.F_law_where.binds fun _ _ _ _ _ _ us hl => match us, hl with | [_, _], _ => rfl
theorem Txt.b_law_is_large {K : PySem.W.Frag} {mg : Str → Option Value} (T : Txt K mg) : Binds K T.d_law_is_large P_law_is_large [] := T.F_law_is_large.binds fun _ _ _ _ _ _ us hl => match us, hl with | [_, _], _ => rfl
theorem Txt.blaw {K : PySem.W.Frag} {mg : Str → Option Value} (T : Txt K mg) : Binds K T.dlaw Plaw [] := T.Flaw.binds fun _ _ _ _ _ _ us hl => match us, hl with | [_], _ => rfl
end NL

namespace NL
open PySem PySem.Spec PyProof.Rows L2
/-! ### the end, with what the top leaves of imports and hooks: nothing stands in the way of a long division -/
theorem law_callN {P : Program} {w : World} {K : PySem.W.Frag} {mg mb : Str → Option Value} {CX : CXT} {k : Nat} {fa a : Addr} {fd : FuncData} {x : Str} {sp : Sp} {s₁ : Shared} {vs : List Value} {ns : List Int}
    (KX : K.In s₁.heap) (hns : s₁.heap.Ns mainGlobals mg) (hb : s₁.heap.Ns builtinsNs mb) (hbb : ∀ (x : Str), x ≠ Str.ofString "__name__" → mb x = bootBuiltins x) (hlim : s₁.heap.NoLimit) (hs : s₁.heap.NoSeer)
    (hg : s₁.gens = #[]) (ha : s₁.heap.get? a = some { cls := .type "list", data := .seq vs.toArray }) (hi : IntsAre vs ns) (hl : ns.length ≤ sizeLine) (hr : Room k callerA)
    (F : ∀ base : Heap, K.In base → base.Ns mainGlobals mg → base.NoSeer → FnOk P w K mg base CX k fa fd [x] sp)
    (hbind : ∀ (s : Shared) (u : Value), BindsTo s fd { pos := [u] } [(x, u)])
    (hsp : ∀ H : Hp, Only H → SqL K H a (ns.map V.int) → sp [V.ref a] H (fun v _ => v = V.bl true) fun _ _ _ => False)
    (hCX : ∀ (H : Hp) (e : Value) (s' : Shared), CX [] H s₁ (fun _ _ _ => False) e s' → False) :
    codeAny (model P w) callerA (Code.call (.ref fa) { pos := [.ref a] }) (fun r s' => r = Except.ok (Flow.ret (.bool true)) ∧ OldK s₁.heap s'.heap ∧ s'.os = s₁.os ∧ AllBare s'.gens) s₁ := by
  have rv := vals_ints hi
  have lenV := IntsAre.length hi
  have core : ∀ (H : Hp), Only H → SqL K H a (ns.map V.int) → HOk P w H s₁.heap → (∀ b, H b ≠ none → b = a) → (H a ≠ none → List.lookup a K = none) →
      codeAny (model P w) callerA (Code.call (.ref fa) { pos := [.ref a] }) (fun r s' => r = Except.ok (Flow.ret (.bool true)) ∧ OldK s₁.heap s'.heap ∧ s'.os = s₁.os ∧ AllBare s'.gens) s₁ := by
    intro H hO hS hok hA hK
    have base_of : ∀ {b : Addr} {o : Obj}, s₁.heap.get? b = some o → H b = none → (hidT s₁.heap H).get? b = some o := fun e n => hidT_get e n
    have notL : ∀ {b : Addr} {o : Obj}, s₁.heap.get? b = some o → o.cls ≠ .type "list" → H b = none := fun {b o} e d => by
      cases q : H b with
      | none => rfl
      | some u =>
        have e' := hA b (by rw [q]; exact fun h => by cases h)
        subst e'
        rw [ha] at e
        cases e
        exact absurd rfl d
    have noA : ∀ {b : Addr} {o : Obj} {es : Array DictEntry} {ep : Nat}, s₁.heap.get? b = some o → o.data = .dict es ep → H b = none := fun {b o es ep} e d => by
      cases q : H b with
      | none => rfl
      | some u =>
        have e' := hA b (by rw [q]; exact fun h => by cases h)
        subst e'
        rw [ha] at e
        cases e
        cases d
    have nsK : ∀ {b : Addr} {m : Str → Option Value}, s₁.heap.Ns b m → (hidT s₁.heap H).Ns b m := fun {b m} h => by
      obtain ⟨o, es, ep, e, d, r⟩ := h
      exact ⟨o, es, ep, base_of e (noA e d), d, r⟩
    have hKb : K.In (hidT s₁.heap H) := fun b o e => base_of (KX b o e) (by
      cases q : H b with
      | none => rfl
      | some u =>
        have e' := hA b (by rw [q]; exact fun h => by cases h)
        subst e'
        have := hK (by rw [q]; exact fun h => by cases h)
        rw [this] at e
        cases e)
    have hNS : (hidT s₁.heap H).NoSeer := by
      obtain ⟨⟨mc, c1, c2, c3⟩, ⟨mm, m1, m2⟩, ⟨mb2, b1, b2⟩, ⟨mg2, bm, ob, g1, g2, g3, g4, g5⟩⟩ := hs
      exact ⟨⟨mc, nsK c1, c2, c3⟩, ⟨mm, nsK m1, m2⟩, ⟨mb2, nsK b1, b2⟩, ⟨mg2, bm, ob, nsK g1, g2, base_of g3 (notL g3 (by rw [g4]; decide)), g4, g5⟩⟩
    have hM : Mod K mg (hidT s₁.heap H) := ⟨hKb, nsK hns, ⟨mb, nsK hb, hbb⟩, by obtain ⟨mc, h1, h2⟩ := hlim; exact ⟨mc, nsK h1, h2⟩⟩
    have e0 : Env0 P w K mg (hidT s₁.heap H) callerA [] s₁ H := { frames := rfl, mod := hM, bs := fun b o e => of_hidT e, bsz := Nat.le_of_eq (hidT_size s₁.heap H), funs := trivial, frf := fun b hb => absurd hb List.not_mem_nil, hok := hok, bare := AllBare.of_eq hg }
    refine codeAny_mono ((F (hidT s₁.heap H) hKb (nsK hns) hNS).run callerA [] s₁ H { pos := [.ref a] } [.ref a] [V.ref a] (fun v _ => v = V.bl true) (fun _ _ _ => False) hr e0 (hbind s₁ (.ref a)) (.cons rfl .nil) (hsp H hO hS)) fun r s' h => ?_
    cases r with
    | error e => exact (hCX H e s' h).elim
    | ok fl =>
      cases fl with
      | ret u =>
        obtain ⟨v, H', os, bare, un, hok', r', q⟩ := h
        subst q
        have hu : u = Value.bool true := r'
        subst hu
        refine ⟨rfl, OldK.of_keep fun b o e => ?_, os, bare⟩
        cases q : H b with
        | none => exact un.keep b o e q (fun z => by simp [frs] at z) (fun z => by cases z)
        | some y =>
          rcases hO b with h0 | ⟨o', xs, h1⟩
          · rw [h0] at q; cases q
          · have z1 := un.frzs b o' _ h1
            have z2 := (hok' b _ z1).1
            have z3 := (hok b _ h1).1
            rw [z3] at e
            rw [z2]
            exact e
      | _ => exact (h : False).elim
  cases hk : List.lookup a K with
  | none =>
    refine core (fun b => if b = a then some (.frz { cls := .type "list", data := .seq vs.toArray } (.lst (ns.map V.int))) else none) (fun b => ?_) (.inl (.inr ⟨_, if_pos rfl⟩)) (fun b u z => ?_) (fun b z => ?_) (fun _ => hk)
    · by_cases h : b = a
      · exact .inr ⟨_, _, if_pos h⟩
      · exact .inl (if_neg h)
    · by_cases h : b = a
      · subst h
        have z' := (if_pos rfl).symm.trans z
        cases z'
        exact ⟨ha, by rw [List.length_map]; exact hl, vs, 0, rv, ha⟩
      · have z' := (if_neg h).symm.trans z
        cases z'
    · by_cases h : b = a
      · exact h
      · exact absurd (if_neg h) z
  | some o =>
    have e := KX a o hk
    rw [ha] at e
    cases e
    exact core (fun _ => none) (fun _ => .inl rfl) (.inr ⟨_, vs.toArray, 0, hk, rfl, rfl, rfl, by rw [List.size_toArray, lenV]; exact hl, rv⟩) (fun b u z => by cases z) (fun b z => absurd rfl z) (fun z => absurd rfl z)
theorem walk_ofN {l : PySem.W.OpenLaw} {n k : Nat} {q : Program} {loose : List Str} {XP : (Str → Option Value) → Heap → Prop} {YP : World → Heap → Prop} {d : DefRec} {K : Params → PySem.W.Frag} {CX : World → CXT} {sp : World → Sp} {x : Str}
    (hn : l.most = some n) (hn2 : n ≤ sizeLine) (hdf : d.params.defaults = []) (hr : Room k callerA) (hY : ∀ (w : World) (h : Heap), YP w h → (K w.params).In h) (him : importsNone q = true)
    (F : ∀ (w : World) (mg : Str → Option Value) (fa : Addr) (h : Heap), (K w.params).In h → h.Ns mainGlobals mg → mg d.name = some (.ref fa) → ∃ fd : FuncData, (∀ (s : Shared) (u : Value), BindsTo s fd { pos := [u] } [(x, u)]) ∧
      ∀ base : Heap, (K w.params).In base → base.Ns mainGlobals mg → base.NoSeer → FnOk l.prog w (K w.params) mg base (CX w) k fa fd [x] (sp w))
    (hsp : ∀ (w : World) (H : Hp) (a : Addr) (ns : List Int), ns.length ≤ n → (∀ z ∈ ns, Builtin.Int.intBits z ≤ 1048576) → Only H → SqL (K w.params) H a (ns.map V.int) → sp w [V.ref a] H (fun v _ => v = V.bl true) fun _ _ _ => False)
    (hCX : ∀ (w : World) (H : Hp) (s : Shared) (e : Value) (s' : Shared), CX w [] H s (fun _ _ _ => False) e s' → False) :
    PySem.W.WalkO q loose XP YP l.row.toRowW d [] fun f vs => PySem.call f vs :=
  Att.attach_callB hn hdf fun w s₀ s₁ mg mb fa o pm cd doc a vs ns G Y ho hd hcd hmg hobj hints hlen hbits hg => by
    have KX := hY w s₁.heap Y
    obtain ⟨fd, hb, hF⟩ := F w mg fa s₁.heap KX G.T.g hmg
    exact law_callN KX G.T.g G.T.b G.T.builtins G.T.nolimit (G.T.seer him) hg hobj hints (Nat.le_trans hlen hn2) hr hF hb (fun H hO hS => hsp w H a ns hlen hbits hO hS) fun H e s' => hCX w H s₁ e s'
/-! ### a // b, a % b: b positive, of any size; 97 frames lie ahead -/
theorem noseer_now {X : Cx} {pins : List (Addr × Obj)} {σ : L2.St} {H : Hp} {s : Shared} (hN : X.base.NoSeer) (I : L2.Inv X pins σ H s) : s.heap.NoSeer ∧ s.heap.NoLimit := by
  have hO := I.ok
  have kp : ∀ (b : Addr) (o : Obj), X.base.get? b = some o → ∃ o', s.heap.get? b = some o' ∧ o'.cls = o.cls ∧ o'.dict = o.dict ∧ o'.data = o.data := fun b o e => by
    obtain ⟨e1, e2⟩ := hO.bs b o e
    have hx := hO.noex b o e
    by_cases hf : b ∈ X.fs
    · obtain ⟨sl, h⟩ := I.base.slot b o e1 e2 hf hx
      exact ⟨_, h, rfl, rfl, rfl⟩
    · exact ⟨o, I.base.keep b o e1 e2 hf hx, rfl, rfl, rfl⟩
  have nsK : ∀ {b : Addr} {m : Str → Option Value}, X.base.Ns b m → s.heap.Ns b m := fun {b m} h => by
    obtain ⟨o, es, ep, e, d, r⟩ := h
    obtain ⟨o', e', _, _, d'⟩ := kp b o e
    exact ⟨o', es, ep, e', d'.trans d, r⟩
  obtain ⟨⟨mc, c1, c2, c3⟩, ⟨mm, m1, m2⟩, ⟨mb2, b1, b2⟩, ⟨mg2, bm, ob, g1, g2, g3, g4, g5⟩⟩ := hN
  obtain ⟨ob', e', f1, f2, _⟩ := kp bm ob g3
  obtain ⟨ml, l1, l2⟩ := hO.mod.nolimit
  exact ⟨⟨⟨mc, nsK c1, c2, c3⟩, ⟨mm, nsK m1, m2⟩, ⟨mb2, nsK b1, b2⟩, ⟨mg2, bm, ob', nsK g1, g2, e', f1.trans g4, f2.trans g5⟩⟩, ⟨ml, nsK l1, l2⟩⟩
theorem op_fdivN {X : Cx} {k : Nat} (hN : X.base.NoSeer) (hp : X.prog.given.tree = none) (hr : Room k X.A) (hk : 32 ≤ k) (hst : X.stack = X.env :: X.outer) (hg : X.env.scope.isGenerator = false) (hc : X.env.scope.isCoroutine = false) :
    OpR X (binaryOp .FloorDiv) (rI (fun _ j => 0 < j) fun i j => V.int (i / j)) := by
  intro pins s σ H x y v u Q I rx ry h
  obtain ⟨i, j, rfl, rfl, hj, q⟩ := h
  obtain ⟨t, rfl⟩ := rx
  obtain ⟨t', rfl⟩ := ry
  have hO := I.ok
  obtain ⟨n1, n2⟩ := noseer_now hN I
  have hd : X.A.depth + Builtin.pylongFrames < recursionLimit := by
    have h1 := hr.dp
    have h2 : recursionLimit = 1000 := rfl
    have h3 : Builtin.pylongFrames = 100 := rfl
    omega
  refine PyProof.Rows.floordiv_int (by omega) ?_ (.inr (PylongRoom.of n2 hd (SeerAt.of n1 hp (by rw [← hst]; exact hO.frames) hg hc hO.blt hO.glob)))
  rw [Int.fdiv_eq_ediv_of_nonneg i (by omega)]
  exact ⟨.int (i / j), H, I.tok _, ⟨_, rfl⟩, q⟩
end NL

namespace NL
open PySem PySem.Spec PyProof.Rows L2

/-! ### frames: what stays while the list of draws at d is used up -/
structure Go (d : Addr) (H H' : Hp) : Prop where
  fr : ∀ b o, b ≠ d → H b = some o → H' b = some o
  dr : ∃ ns : List Int, H' d = some (.lst (ns.map V.int))
abbrev Dr (H : Hp) (d : Addr) : Prop := ∃ ns : List Int, H d = some (.lst (ns.map V.int))
theorem Go.refl {d : Addr} {H : Hp} (h : Dr H d) : Go d H H := ⟨fun _ _ _ e => e, h⟩
theorem Go.trans {d : Addr} {H H1 H2 : Hp} (a : Go d H H1) (b : Go d H1 H2) : Go d H H2 := ⟨fun c o n e => b.fr c o n (a.fr c o n e), b.dr⟩
theorem Go.new {d p : Addr} {H : Hp} {o : HO} (h : Dr H d) (hp : H p = none) : Go d H (upd H p o) := by
  obtain ⟨ns, e⟩ := h
  have n : d ≠ p := ne_of_none e hp
  exact ⟨fun b u _ q => by rw [upd_ne (ne_of_none q hp)]; exact q, ⟨ns, by rw [upd_ne n]; exact e⟩⟩
theorem Go.put {d : Addr} {H : Hp} (ns : List Int) : Go d H (upd H d (.lst (ns.map V.int))) := ⟨fun b u n q => by rw [upd_ne n]; exact q, ⟨ns, upd_same⟩⟩
theorem Go.same {d : Addr} {H H' : Hp} (h : Dr H d) (s : Same H H') : Go d H H' := ⟨fun b o _ e => s b o e, by obtain ⟨ns, e⟩ := h; exact ⟨ns, s _ _ e⟩⟩
theorem Go.tup {d a : Addr} {H H' : Hp} {xs : List V} (g : Go d H H') (h : Dr H d) (e : H a = some (.tup xs)) : H' a = some (.tup xs) := by
  refine g.fr a _ ?_ e
  rintro rfl
  obtain ⟨ns, q⟩ := h
  rw [e] at q; cases q
theorem same_new {H : Hp} {p : Addr} (h : H p = none) (o : HO) : Same H (upd H p o) := fun b u q => by rw [upd_ne (ne_of_none q h)]; exact q
/-- all tuples stay -/
def Tp (H H' : Hp) : Prop := ∀ a xs, H a = some (.tup xs) → H' a = some (.tup xs)
theorem Go.tp {d : Addr} {H H' : Hp} (g : Go d H H') (h : Dr H d) : Tp H H' := fun _ _ e => g.tup h e
theorem Tp.same {H H' : Hp} (s : Same H H') : Tp H H' := fun _ _ e => s _ _ e
theorem Tp.trans {H H1 H2 : Hp} (a : Tp H H1) (b : Tp H1 H2) : Tp H H2 := fun x y e => b x y (a x y e)
theorem Tp.refl {H : Hp} : Tp H H := fun _ _ e => e
/-- a list that stays readable whatever is drawn at d -/
def Keep (K : PySem.W.Frag) (d : Addr) (H : Hp) (a : Addr) (xs : List V) : Prop := ∀ H', (∀ b o, b ≠ d → H b = some o → H' b = some o) → SqL K H' a xs
theorem Keep.now {K : PySem.W.Frag} {d a : Addr} {H : Hp} {xs : List V} (k : Keep K d H a xs) : SqL K H a xs := k H fun _ _ _ e => e
theorem Keep.go {K : PySem.W.Frag} {d a : Addr} {H H' : Hp} {xs : List V} (k : Keep K d H a xs) (g : Go d H H') : Keep K d H' a xs := fun H2 f => k H2 fun b o n e => f b o n (g.fr b o n e)
theorem Keep.of {K : PySem.W.Frag} {d a : Addr} {H : Hp} {xs : List V} (n : a ≠ d) (h : H a = some (.lst xs)) : Keep K d H a xs := fun H' f => .inl (.inl (f a _ n h))
/-- what was read ahead of the draws' list stays -/
theorem Keep.old {K : PySem.W.Frag} {d a : Addr} {H0 H : Hp} {xs : List V} (h : SqL K H0 a xs) (hd : H0 d = none) (f : ∀ b o, H0 b = some o → H b = some o) : Keep K d H a xs := fun H' g => by
  rcases h with (h | ⟨o, h⟩) | h
  · exact .inl (.inl (g a _ (ne_of_none h hd) (f _ _ h)))
  · exact .inl (.inr ⟨o, g a _ (ne_of_none h hd) (f _ _ h)⟩)
  · exact .inr h

/-! ### rules whose written part is named (in a comprehension) -/
theorem ix_tupK {X : Cx} {K : PySem.W.Frag} (h : X.K = K) : IxR X (rIxT K) := by subst h; exact ix_tup
theorem ix_listK {X : Cx} {K : PySem.W.Frag} (h : X.K = K) : IxR X (rIxL K) := by subst h; exact ix_list
def rTupOf (K : PySem.W.Frag) : List V → Hp → VK → Prop := fun xs H Q => ∃ p ys, xs = [.ref p] ∧ ((SqL K H p ys ∧ ∀ l, H l = none → Q (.ref l) (upd H l (.tup ys))) ∨ (SqT K H p ys ∧ Q (.ref p) H))
theorem call_tuple_ofK {X : Cx} {K : PySem.W.Frag} (h : X.K = K) : CallR X (.type "tuple") (rTupOf K) := by subst h; exact call_tuple_of
/-! ### texts and words -/
/-- signs a to z alone -/
def Wd (z : Str) : Prop := ∀ c ∈ z.cps.toList, 97 ≤ c ∧ c ≤ 122
instance (z : Str) : Decidable (Wd z) := by unfold Wd; infer_instance
def res : List Str := ["true", "false", "add", "sub", "mul", "div", "mod", "min", "max", "abs", "if", "less", "equal", "not", "all", "any"]
theorem app_list (a b : Str) : (a ++ b).cps.toList = a.cps.toList ++ b.cps.toList := by
  show (a.cps ++ b.cps).toList = _
  simp
theorem len_list (a : Str) : a.length = a.cps.toList.length := by
  show a.cps.size = _
  simp
theorem len_app (a b : Str) : (a ++ b).length = a.length + b.length := by
  rw [len_list, app_list, List.length_append, ← len_list, ← len_list]
theorem str_ext {a b : Str} (h : a.cps.toList = b.cps.toList) : a = b := by
  cases a with | mk x => cases b with | mk y =>
  have : x = y := Array.toList_inj.mp h
  rw [this]
theorem Wd.app {a b : Str} (ha : Wd a) (hb : Wd b) : Wd (a ++ b) := fun c hc => by
  rw [app_list] at hc
  rcases List.mem_append.mp hc with h | h
  · exact ha c h
  · exact hb c h
structure Nam (z : Str) : Prop where
  wd : Wd z
  len : 0 < z.length ∧ z.length ≤ 200
  nr : z ∉ res
structure Nm (z : Str) : Prop where
  wd : Wd z
  len : 0 < z.length ∧ z.length ≤ 150

/-! ### lists at an index -/
theorem atI_mem {α : Type} {xs : List α} {i : Int} (h0 : 0 ≤ i) (h1 : i < xs.length) : ∃ v, atI xs i = some v ∧ v ∈ xs := by
  have hk : i.toNat < xs.length := by omega
  have ek : i = ((i.toNat : Nat) : Int) := by omega
  have q : atI xs ((i.toNat : Nat) : Int) = some xs[i.toNat] := atI_nat (List.getElem?_eq_getElem hk)
  rw [← ek] at q
  exact ⟨_, q, List.getElem_mem hk⟩
theorem atI_map {α β : Type} {f : α → β} {xs : List α} {i : Int} (h0 : 0 ≤ i) (h1 : i < xs.length) : ∃ v, atI (xs.map f) i = some (f v) ∧ v ∈ xs := by
  obtain ⟨v, h, m⟩ := atI_mem (xs := xs.map f) h0 (by rw [List.length_map]; exact h1)
  obtain ⟨u, hu, rfl⟩ := List.mem_map.mp m
  exact ⟨u, h, hu⟩
theorem sqd {K : PySem.W.Frag} {H : Hp} {a : Addr} {xs : List V} (h : H a = some (.lst xs)) : SqL K H a xs := .inl (.inl h)
theorem sqt {K : PySem.W.Frag} {H : Hp} {a : Addr} {xs : List V} (h : H a = some (.tup xs)) : SqT K H a xs := .inl (.inl h)
theorem int_eq {i j : Int} (h : decide (V.int i = V.int j) = true) : i = j := V.int.inj (of_decide_eq_true h)
theorem int_ne {i j : Int} (h : ¬ decide (V.int i = V.int j) = true) : i ≠ j := fun e => h (decide_eq_true (by rw [e]))
section
variable {P : Program} {w : World} {K : PySem.W.Frag} {mg : Str → Option Value} {base : Heap}
/-! ### _law_take -/
def spTake : Sp := fun vs H Q _ => ∃ (d : Addr) (m : Int), vs = [.ref d, .int m] ∧ Dr H d ∧ 0 < m ∧ ∀ r H', Go d H H' → 0 ≤ r → r < m → Q (.int r) H'
theorem ok_law_take (T : Txt K mg) : FnOk P w K mg base CX0 1 T.a_law_take T.d_law_take P_law_take spTake := by
  refine T.F_law_take.ok sc_law_take (fun vs H Q E h => ?_) (fun cdv A outer s H vs Q E hr h => ?_)
  · obtain ⟨d, m, rfl, _⟩ := h
    rfl
  obtain ⟨d, m, rfl, hD, hm, q⟩ := h
  refine ⟨_, (pss_cons (ps_if (pt_cmpR op_eq (pe_callB call_len_seq (by rfl) T.z_len PySem.boot_len (pa_cons (pv 0) pa_nil)) pe_int (nomark _))
    (pss_one (ps_ret pe_int))
    pss_nil)
    (pss_one (ps_ret (pe_op op_mod (pe_callTy call_int1 (by rfl) T.z_int (by decide +kernel) (pa_cons (pe_bm0 PySem.F.plainAttrs_list PySem.F.slot_list_pop PySem.F.type_list_pop mt_pop (pv 0)) pa_nil)) (pv 1))))), ?_⟩
  obtain ⟨ns, hd⟩ := hD
  refine ⟨_, rfl, _, _, rfl, .inl (sqd hd), rfl, _, rfl, ?_⟩
  refine ite2 (fun c => ?_) (fun c => ?_)
  · exact q 0 H (Go.refl ⟨ns, hd⟩) (Int.le_refl 0) hm
  · have hn := int_ne c
    rw [List.length_map] at hn
    have hz : ns ≠ [] := by
      rintro rfl
      exact hn rfl
    have hl : 0 < ns.length := List.length_pos_iff.mpr hz
    have he : (ns.map V.int)[(ns.map V.int).length - 1]? = some (.int ns[ns.length - 1]) := by
      rw [List.length_map, List.getElem?_map, List.getElem?_eq_getElem (by omega)]
      rfl
    refine ⟨_, rfl, .inl ⟨rfl, _, sqd hd⟩, _, _, _, rfl, rfl, hd, he, .inl ⟨_, rfl, ?_⟩⟩
    refine ⟨_, rfl, _, _, rfl, rfl, hm, ?_⟩
    refine q _ _ ?_ (Int.emod_nonneg _ (by omega)) (Int.emod_lt_of_pos _ hm)
    rw [← List.map_dropLast]
    exact Go.put _
end
end NL

namespace NL
open PySem PySem.Spec PyProof.Rows L2
/-! ### a text times a number -/
theorem op_mulS {X : Cx} : OpR X (binaryOp .Mult) (fun x y H Q => ∃ (z : Str) (k : Int), x = .str z ∧ y = .int k ∧ z.length ≤ 16 ∧ 0 ≤ k ∧ k ≤ 1000 ∧ ((Txt.mul z k).length = z.length * k.toNat → Q (.str (Txt.mul z k)) H)) := by
  intro pins s σ H x y v u Q I rx ry h
  obtain ⟨z, k, rfl, rfl, hz, h0, h1, q⟩ := h
  obtain ⟨t, rfl⟩ := rx
  obtain ⟨t', rfl⟩ := ry
  refine PySem.W.KXi.mul rfl hz (by omega) (by omega) fun t' tk _ hl => ⟨.str (Txt.mul z k), H, I.tok _, ⟨_, rfl⟩, q ?_⟩
  have e := hl h0
  have e2 : k = ((k.toNat : Nat) : Int) := by omega
  rw [e2] at e
  have : ((z.length : Int) * ((k.toNat : Nat) : Int)) = ((z.length * k.toNat : Nat) : Int) := by push_cast; rfl
  rw [this] at e
  have e3 := Int.ofNat.inj e
  rw [← e2] at e3
  exact e3
def abc : Str := "abcdefghijklmnopqrstuvwxyz"
theorem abc_at {i : Int} (h0 : 0 ≤ i) (h1 : i < 26) : ∃ c, atI abc.cps.toList i = some c ∧ 97 ≤ c ∧ c ≤ 122 := by
  have hl : abc.cps.toList.length = 26 := by decide +kernel
  obtain ⟨c, h, m⟩ := atI_mem (xs := abc.cps.toList) h0 (by rw [hl]; exact h1)
  have hall : ∀ c ∈ abc.cps.toList, 97 ≤ c ∧ c ≤ 122 := by decide +kernel
  exact ⟨c, h, hall c m⟩
section
variable {P : Program} {w : World} {K : PySem.W.Frag} {mg : Str → Option Value} {base : Heap}
/-! ### _law_cell -/
def spCell (K : PySem.W.Frag) : Sp := fun vs H Q _ => ∃ (a d : Addr) (ns : List Int), vs = [.ref a, .ref d] ∧ Keep K d H a (ns.map V.int) ∧ Dr H d ∧ ∀ r H', Go d H H' → (r = 0 ∨ r ∈ ns) → Q (.int r) H'
theorem ok_law_cell (T : Txt K mg) : FnOk P w K mg base CX0 2 T.a_law_cell T.d_law_cell P_law_cell (spCell K) := by
  have G_law_take := ok_law_take (P := P) (w := w) (base := base) T
  refine T.F_law_cell.ok sc_law_cell (fun vs H Q E h => ?_) (fun cdv A outer s H vs Q E hr h => ?_)
  · obtain ⟨a, d, ns, rfl, _⟩ := h
    rfl
  obtain ⟨a, d, ns, rfl, hk, hD, q⟩ := h
  refine ⟨_, (pss_cons (ps_if (pt_cmpR op_eq (pe_callB call_len_seq (by rfl) T.z_len PySem.boot_len (pa_cons (pv 0) pa_nil)) pe_int (nomark _))
    (pss_one (ps_ret pe_int))
    pss_nil)
    (pss_one (ps_ret (pe_callTy call_int1 (by rfl) T.z_int (by decide +kernel) (pa_cons (pe_ix ix_list (pv 0) (pe_call G_law_take (hr.mono (by omega)) (by rfl) T.m_law_take T.F_law_take.kp T.b_law_take .nil pass0 (pa_cons (pv 1) (pa_cons (pe_callB call_len_seq (by rfl) T.z_len PySem.boot_len (pa_cons (pv 0) pa_nil)) pa_nil))) (fun _ _ => rfl)) pa_nil))))), ?_⟩
  refine ⟨_, rfl, _, _, rfl, .inl hk.now, rfl, _, rfl, ?_⟩
  refine ite2 (fun c => ?_) (fun c => ?_)
  · exact q 0 H (Go.refl hD) (.inl rfl)
  · have hn := int_ne c
    rw [List.length_map] at hn
    refine ⟨_, rfl, _, rfl, _, rfl, _, _, rfl, .inl hk.now, d, _, rfl, hD, by rw [List.length_map]; omega, fun r H1 g h0 h1 => ?_⟩
    rw [List.length_map] at h1
    obtain ⟨v, hv, hm⟩ := atI_map (f := V.int) h0 h1
    exact ⟨_, _, _, _, rfl, rfl, (hk.go g).now, hv, .inl ⟨_, rfl, q v H1 g (.inr hm)⟩⟩
/-! ### _law_word -/
def spWord : Sp := fun vs H Q _ => ∃ i : Int, vs = [.int i] ∧ ∀ z : Str, Wd z → z.length ≤ 60 → (1 ≤ i → 0 < z.length) → Q (.str z) H
theorem ok_law_word (T : Txt K mg) : FnOk P w K mg base CX0 1 T.a_law_word T.d_law_word P_law_word spWord := by
  refine T.F_law_word.ok sc_law_word (fun vs H Q E h => ?_) (fun cdv A outer s H vs Q E hr h => ?_)
  · obtain ⟨i, rfl, _⟩ := h
    rfl
  obtain ⟨i0, rfl, q⟩ := h
  refine ⟨_, (pss_cons (ps_set (i := 1) sc_law_word.nd rfl (Or.inl rfl) pe_str)
    (pss_cons (ps_for  PassesOwn.never rfl (pi_range1 (by rfl) T.z_range (pa_cons pe_int pa_nil)) (pg_name (i := 2) sc_law_word.nd rfl (Or.inl rfl))
    (pss_cons (ps_if (pt_cmpR op_lt (pv 0) pe_int (nomark _))
    (pss_one ps_break)
    pss_nil)
    (pss_cons (ps_set (i := 1) sc_law_word.nd rfl (Or.inl rfl) (pe_op op_add_str (pe_ix ix_str pe_str (pe_op op_mod (pe_callTy call_int1 (by rfl) T.z_int (by decide +kernel) (pa_cons (pe_op op_sub (pv 0) pe_int) pa_nil)) pe_int) (fun _ _ => rfl)) (pv 1)))
    (pss_one (ps_set (i := 0) sc_law_word.nd rfl (Or.inl rfl) (pe_op op_fdiv (pe_op op_sub (pv 0) pe_int) pe_int))))))
    (pss_one (ps_ret (pv 1))))), ?_⟩
  refine ⟨60, rfl, by decide, by decide, for_range (lo := 0) (n := 60) (fun j σ H' => ∃ (i : Int) (z : Str) (y : Option V), σ = [some (.int i), some (.str z), y] ∧ H' = H ∧ Wd z ∧ z.length ≤ j ∧ (j = 0 → i = i0) ∧ (0 < j → 0 < z.length)) ?_ ?_ ?_⟩
  · exact ⟨i0, _, none, rfl, rfl, (by decide +kernel), (by decide +kernel), fun _ => rfl, fun h => absurd h (by decide)⟩
  · rintro j σ H' hj ⟨i, z, y, rfl, rfl, hw, hz, e0, e1⟩
    refine ⟨_, rfl, _, _, rfl, rfl, _, rfl, ?_⟩
    refine ite2 (fun c => ?_) (fun c => ?_)
    · have hi : i < 1 := of_decide_eq_true c
      exact ⟨_, rfl, q z hw (by omega) fun h1 => e1 (by
        rcases Nat.eq_zero_or_pos j with e | e
        · have := e0 e
          omega
        · exact e)⟩
    · obtain ⟨ch, hc, hc1⟩ := abc_at (Int.emod_nonneg (i - 1) (by decide : (26 : Int) ≠ 0)) (Int.emod_lt_of_pos (i - 1) (by decide))
      have hw1 : Wd (⟨#[ch]⟩ : Str) := fun c h => by
        have : c = ch := by simpa using h
        rw [this]
        exact hc1
      have hl : ((⟨#[ch]⟩ : Str) ++ z).length = 1 + z.length := by rw [len_app] <;> rfl
      refine ⟨_, rfl, _, _, rfl, rfl, .inl ⟨_, rfl, _, _, rfl, rfl, (by show (0 : Int) < 26; decide), _, _, ch, rfl, rfl, (by decide +kernel), hc, _, rfl, _, _, rfl, rfl, ?_, ?_⟩⟩
      · have : (⟨#[ch]⟩ : Str).length = 1 := rfl
        rw [this]
        exact Nat.le_of_lt (small1000 (by omega))
      · refine ⟨_, rfl, _, _, rfl, rfl, _, _, rfl, rfl, ⟨by decide, by decide⟩, ?_⟩
        exact ⟨_, _, _, rfl, rfl, hw1.app hw, by rw [hl]; omega, fun h => absurd h (by omega), fun _ => by rw [hl]; omega⟩
  · rintro σ H' ⟨i, z, y, rfl, rfl, hw, hz, e0, e1⟩
    exact ⟨_, rfl, q z hw hz fun _ => e1 (by decide)⟩
end
end NL

namespace NL
open PySem PySem.Spec PyProof.Rows L2
section
variable {P : Program} {w : World} {K : PySem.W.Frag} {mg : Str → Option Value} {base : Heap}
/-! ### _law_some_word -/
theorem fold_wd {p : Nat → Prop} : ∀ (l : List (Array Nat)) (acc : Array Nat), (∀ c ∈ acc.toList, p c) → (∀ a ∈ l, ∀ c ∈ a.toList, p c) → ∀ c ∈ (l.foldl (· ++ ·) acc).toList, p c
  | [], acc, h, _, c, hc => h c hc
  | a :: r, acc, h, g, c, hc => by
    refine fold_wd r (acc ++ a) (fun c hc => ?_) (fun a ha => g a (List.mem_cons_of_mem _ ha)) c hc
    rw [Array.toList_append] at hc
    rcases List.mem_append.mp hc with h1 | h1
    · exact h c h1
    · exact g a List.mem_cons_self c h1
theorem mul_wd {z : Str} (h : Wd z) (k : Int) : Wd (Txt.mul z k) := by
  unfold Txt.mul
  split
  · decide
  · split
    · exact h
    · refine fold_wd _ _ (fun c hc => by simp at hc) fun a ha => ?_
      rw [(List.mem_replicate.mp ha).2]
      exact h
def spSomeWord : Sp := fun vs H Q _ => ∃ d : Addr, vs = [.ref d] ∧ Dr H d ∧ ∀ z H', Go d H H' → Nm z → Q (.str z) H'
theorem ok_law_some_word (T : Txt K mg) : FnOk P w K mg base CX0 2 T.a_law_some_word T.d_law_some_word P_law_some_word spSomeWord := by
  have G_law_take := ok_law_take (P := P) (w := w) (base := base) T
  have G_law_word := ok_law_word (P := P) (w := w) (base := base) T
  refine T.F_law_some_word.ok sc_law_some_word (fun vs H Q E h => ?_) (fun cdv A outer s H vs Q E hr h => ?_)
  · obtain ⟨d, rfl, _⟩ := h
    rfl
  obtain ⟨d, rfl, hD, q⟩ := h
  refine ⟨_, (pss_cons (ps_set (i := 1) sc_law_some_word.nd rfl (Or.inl rfl) (pe_call G_law_take (hr.mono (by omega)) (by rfl) T.m_law_take T.F_law_take.kp T.b_law_take .nil pass0 (pa_cons (pv 0) (pa_cons pe_int pa_nil))))
    (pss_cons (ps_if (pt_cmpR op_lt (pv 1) pe_int (nomark _))
    (pss_one (ps_ret (pe_call G_law_word (hr.mono (by omega)) (by rfl) T.m_law_word T.F_law_word.kp T.b_law_word .nil pass0 (pa_cons (pe_op op_add (pe_op op_add pe_int (pe_op op_mod (pv 1) pe_int)) (pe_op op_mul pe_int (pe_op op_mod (pe_op op_fdiv (pv 1) pe_int) pe_int))) pa_nil))))
    pss_nil)
    (pss_cons (ps_if (pt_cmpR op_lt (pv 1) pe_int (nomark _))
    (pss_one (ps_ret (pe_call G_law_word (hr.mono (by omega)) (by rfl) T.m_law_word T.F_law_word.kp T.b_law_word .nil pass0 (pa_cons (pe_op op_add pe_int (pe_call G_law_take (hr.mono (by omega)) (by rfl) T.m_law_take T.F_law_take.kp T.b_law_take .nil pass0 (pa_cons (pv 0) (pa_cons pe_int pa_nil)))) pa_nil))))
    pss_nil)
    (pss_cons (ps_if (pt_cmpR op_lt (pv 1) pe_int (nomark _))
    (pss_one (ps_ret (pe_op op_add_str (pe_op op_mulS pe_str (pe_op op_add pe_int (pe_op op_mod (pe_callTy call_int1 (by rfl) T.z_int (by decide +kernel) (pa_cons (pv 1) pa_nil)) pe_int))) (pe_call G_law_word (hr.mono (by omega)) (by rfl) T.m_law_word T.F_law_word.kp T.b_law_word .nil pass0 (pa_cons (pe_op op_add pe_int (pe_call G_law_take (hr.mono (by omega)) (by rfl) T.m_law_take T.F_law_take.kp T.b_law_take .nil pass0 (pa_cons (pv 0) (pa_cons pe_int pa_nil)))) pa_nil)))))
    pss_nil)
    (pss_cons (ps_set (i := 2) sc_law_some_word.nd rfl (Or.inl rfl) (pe_op op_add (pe_op op_mul pe_int (pe_call G_law_take (hr.mono (by omega)) (by rfl) T.m_law_take T.F_law_take.kp T.b_law_take .nil pass0 (pa_cons (pv 0) (pa_cons pe_int pa_nil)))) (pe_op op_mul pe_int (pe_call G_law_take (hr.mono (by omega)) (by rfl) T.m_law_take T.F_law_take.kp T.b_law_take .nil pass0 (pa_cons (pv 0) (pa_cons pe_int pa_nil))))))
    (C8.pss_cut (ps_if (pt_cmpR op_ge (pv 1) pe_int (nomark _))
    (pss_one (ps_set (i := 2) sc_law_some_word.nd rfl (Or.inl rfl) (pe_op op_mul (pv 2) (pe_op op_pow pe_int pe_int))))
    pss_nil)
    (pss_one (ps_ret (pe_call G_law_word (hr.mono (by omega)) (by rfl) T.m_law_word T.F_law_word.kp T.b_law_word .nil pass0 (pa_cons (pe_op op_add (pe_op op_add pe_int (pv 2)) (pe_call G_law_take (hr.mono (by omega)) (by rfl) T.m_law_take T.F_law_take.kp T.b_law_take .nil pass0 (pa_cons (pv 0) (pa_cons pe_int pa_nil)))) pa_nil)))))))))), ?_⟩
  -- number = take(draws, 1000)
  refine ⟨_, rfl, d, _, rfl, hD, (by decide), fun n H1 g1 n0 n1 => ?_⟩
  -- if number < 600
  refine ⟨_, rfl, _, _, rfl, rfl, _, rfl, ?_⟩
  refine ite2 (fun c => ?_) (fun c => ?_)
  · refine ⟨_, rfl, _, _, rfl, rfl, (by show (0 : Int) < 6; decide), _, _, rfl, rfl, _, rfl, _, _, rfl, rfl, ⟨by decide, by decide⟩, _, _, rfl, rfl, (by show (0 : Int) < 2; decide), _, _, rfl, rfl, .inl ⟨by decide, by decide⟩, _, _, rfl, rfl, _, rfl, fun z hw hl hp => ?_⟩
    have b1 := Int.emod_nonneg n (by decide : (6 : Int) ≠ 0)
    have b2 := Int.emod_nonneg (n / 100) (by decide : (2 : Int) ≠ 0)
    exact q z H1 g1 ⟨hw, hp (by omega), by omega⟩
  -- if number < 850
  refine ⟨_, rfl, _, _, rfl, rfl, _, rfl, ?_⟩
  refine ite2 (fun c => ?_) (fun c => ?_)
  · refine ⟨_, rfl, d, _, rfl, g1.dr, (by decide), fun r H2 g2 r0 r1 => ?_⟩
    refine ⟨_, _, rfl, rfl, _, rfl, fun z hw hl hp => ?_⟩
    exact q z H2 (g1.trans g2) ⟨hw, hp (by omega), by omega⟩
  -- if number < 875
  refine ⟨_, rfl, _, _, rfl, rfl, _, rfl, ?_⟩
  refine ite2 (fun c => ?_) (fun c => ?_)
  · have b1 := Int.emod_nonneg n (by decide : (3 : Int) ≠ 0)
    have b2 := Int.emod_lt_of_pos n (by decide : (0 : Int) < 3)
    refine ⟨_, rfl, .inl ⟨_, rfl, _, _, rfl, rfl, (by show (0 : Int) < 3; decide), _, _, rfl, rfl, _, _, rfl, rfl, (by decide +kernel), (by omega), (by omega), fun hm => ?_⟩⟩
    refine ⟨_, rfl, d, _, rfl, g1.dr, (by decide), fun r H2 g2 r0 r1 => ?_⟩
    refine ⟨_, _, rfl, rfl, _, rfl, fun z hw hl hp => ?_⟩
    have l12 : ("abcdefghijkl" : Str).length = 12 := by decide +kernel
    have w12 : Wd ("abcdefghijkl" : Str) := by decide +kernel
    rw [l12] at hm
    have hb : (1 + n % 3).toNat ≤ 6 := by omega
    have hp' := hp (by omega)
    refine ⟨_, _, rfl, rfl, ?_, q _ H2 (g1.trans g2) ⟨(mul_wd w12 _).app hw, ?_, ?_⟩⟩
    · rw [hm]
      exact Nat.le_of_lt (small1000 (by omega))
    · rw [len_app]; omega
    · rw [len_app, hm]; omega
  -- great = ..
  refine ⟨_, rfl, d, _, rfl, g1.dr, (by decide), fun r H2 g2 r0 r1 => ?_⟩
  refine ⟨_, _, rfl, rfl, .inl ⟨by decide, by decide⟩, ?_⟩
  refine ⟨_, rfl, d, _, rfl, g2.dr, (by decide), fun t H3 g3 t0 t1 => ?_⟩
  refine ⟨_, _, rfl, rfl, .inl ⟨by decide, by decide⟩, _, _, rfl, rfl, ?_⟩
  refine ⟨fun σ H4 => ∃ gr : Int, 0 ≤ gr ∧ σ = [some (.ref d), some (.int n), some (.int gr)] ∧ Go d H H4, ?_, ?_⟩
  · refine ⟨_, rfl, _, _, rfl, rfl, _, rfl, ?_⟩
    refine ite2 (fun c => ?_) (fun c => ?_)
    · refine ⟨_, rfl, _, _, rfl, rfl, ⟨by decide, by decide, by decide⟩, _, _, rfl, rfl, ?_, ?_⟩
      · left
        constructor <;> omega
      · refine ⟨_, ?_, rfl, (g1.trans g2).trans g3⟩
        have : (0 : Int) ≤ 10 ^ (Int.toNat 15) := by decide
        exact Int.mul_nonneg (by omega) this
    · exact ⟨_, by omega, rfl, (g1.trans g2).trans g3⟩
  · rintro σ H4 ⟨gr, hg, rfl, g4⟩
    refine ⟨_, rfl, _, _, rfl, rfl, _, rfl, d, _, rfl, g4.dr, (by decide), fun u H5 g5 u0 u1 => ?_⟩
    refine ⟨_, _, rfl, rfl, _, rfl, fun z hw hl hp => ?_⟩
    exact q z H5 (g4.trans g5) ⟨hw, hp (by omega), by omega⟩
/-! ### _law_reserved -/
def spReserved : Sp := fun vs H Q _ => vs = [] ∧ ∀ p H', Same H H' → H p = none → H' p = some (.lst (res.map V.str)) → Q (.ref p) H'
theorem ok_law_reserved (T : Txt K mg) : FnOk P w K mg base CX0 1 T.a_law_reserved T.d_law_reserved P_law_reserved spReserved := by
  refine T.F_law_reserved.ok sc_law_reserved (fun vs H Q E h => ?_) (fun cdv A outer s H vs Q E hr h => ?_)
  · obtain ⟨rfl, _⟩ := h
    rfl
  obtain ⟨rfl, q⟩ := h
  refine ⟨_, (pss_cons (ps_set (i := 0) sc_law_reserved.nd rfl (Or.inl rfl) (pe_lst (pa_cons pe_str (pa_cons pe_str (pa_cons pe_str (pa_cons pe_str (pa_cons pe_str (pa_cons pe_str (pa_cons pe_str (pa_cons pe_str (pa_cons pe_str (pa_cons pe_str pa_nil))))))))))))
    (pss_one (ps_ret (pe_op op_cat (pv 0) (pe_lst (pa_cons pe_str (pa_cons pe_str (pa_cons pe_str (pa_cons pe_str (pa_cons pe_str (pa_cons pe_str pa_nil))))))))))), ?_⟩
  refine ⟨(by decide), fun p hp => ?_⟩
  refine ⟨_, rfl, (by decide), fun p2 hp2 => ?_⟩
  have n12 : p ≠ p2 := ne_of_none upd_same hp2
  refine ⟨_, _, _, _, rfl, rfl, (by rw [upd_ne n12]; exact upd_same), upd_same, (by decide), fun p3 hp3 => ?_⟩
  refine q p3 _ ?_ ?_ ?_
  · exact (same_new hp _).trans ((same_new hp2 _).trans (same_new hp3 _))
  · exact ((same_new hp _).trans (same_new hp2 _)).free hp3
  · rw [upd_same]
    rfl
end
end NL

namespace NL
open PySem PySem.Spec PyProof.Rows L2
/-! ### the tree of an expression or a condition -/
inductive It where
  | num (n : Int)
  | name (x : Str)
  | lit (b : Bool)
  | un (w : Str) (a : It)
  | dm (w : Str) (a : It) (n : Int)
  | bin (w : Str) (a b : It)
  | tri (a b c : It)
  | grp (w : Str) (l : List It)
def bstr (b : Bool) : Str := if b then "true" else "false"
/-- the tree stands at v -/
inductive ItemIn (H : Hp) : It → V → Prop where
  | num {n a} : H a = some (.tup [.str "number", .int n]) → ItemIn H (.num n) (.ref a)
  | name {x a} : H a = some (.tup [.str "name", .str x]) → ItemIn H (.name x) (.ref a)
  | lit {b a} : H a = some (.tup [.str (bstr b)]) → ItemIn H (.lit b) (.ref a)
  | un {w i a x} : H a = some (.tup [.str w, x]) → ItemIn H i x → ItemIn H (.un w i) (.ref a)
  | dm {w i n a x} : H a = some (.tup [.str w, x, .int n]) → ItemIn H i x → ItemIn H (.dm w i n) (.ref a)
  | bin {w i j a x y} : H a = some (.tup [.str w, x, y]) → ItemIn H i x → ItemIn H j y → ItemIn H (.bin w i j) (.ref a)
  | tri {i j k a x y z} : H a = some (.tup [.str "if", x, y, z]) → ItemIn H i x → ItemIn H j y → ItemIn H k z → ItemIn H (.tri i j k) (.ref a)
  | grp {w l a b xs} : H a = some (.tup [.str w, .ref b]) → H b = some (.tup xs) → xs.length = l.length → (∀ (k : Nat) i x, l[k]? = some i → xs[k]? = some x → ItemIn H i x) → ItemIn H (.grp w l) (.ref a)
theorem ItemIn.mono {H H' : Hp} (t : Tp H H') {i : It} {v : V} (h : ItemIn H i v) : ItemIn H' i v := by
  induction h with
  | num e => exact .num (t _ _ e)
  | name e => exact .name (t _ _ e)
  | lit e => exact .lit (t _ _ e)
  | un e _ ih => exact .un (t _ _ e) ih
  | dm e _ ih => exact .dm (t _ _ e) ih
  | bin e _ _ ih jh => exact .bin (t _ _ e) ih jh
  | tri e _ _ _ ih jh kh => exact .tri (t _ _ e) ih jh kh
  | grp e f g _ ih => exact .grp (t _ _ e) (t _ _ f) g ih
theorem ItemIn.go {d : Addr} {H H' : Hp} {i : It} {v : V} (h : ItemIn H i v) (g : Go d H H') (hD : Dr H d) : ItemIn H' i v := h.mono (g.tp hD)
theorem ItemIn.ref {H : Hp} {i : It} {v : V} (h : ItemIn H i v) : ∃ a, v = .ref a := by cases h <;> exact ⟨_, rfl⟩
mutual
def It.dep : It → Nat
  | .num _ => 1
  | .name _ => 1
  | .lit _ => 1
  | .un _ a => 1 + a.dep
  | .dm _ a _ => 1 + a.dep
  | .bin _ a b => 1 + max a.dep b.dep
  | .tri a b c => 1 + max a.dep (max b.dep c.dep)
  | .grp _ l => 1 + depL l
def depL : List It → Nat
  | [] => 0
  | a :: r => max a.dep (depL r)
end
mutual
def It.sz : It → Nat
  | .num _ => 1
  | .name _ => 1
  | .lit _ => 1
  | .un _ a => 1 + a.sz
  | .dm _ a _ => 1 + a.sz
  | .bin _ a b => 1 + a.sz + b.sz
  | .tri a b c => 1 + a.sz + b.sz + c.sz
  | .grp _ l => 1 + szL l
def szL : List It → Nat
  | [] => 0
  | a :: r => a.sz + szL r
end
/-- of the right kinds: conditions (true) and expressions (false), over names, ints within B -/
inductive Okx (xs : List Str) (B : Nat) : Bool → It → Prop where
  | num {n} : n.natAbs ≤ B → Okx xs B false (.num n)
  | name {x} : x ∈ xs → Okx xs B false (.name x)
  | lit {b} : Okx xs B true (.lit b)
  | abs {a} : Okx xs B false a → Okx xs B false (.un "abs" a)
  | not {a} : Okx xs B true a → Okx xs B true (.un "not" a)
  | dm {w a n} : w ∈ (["div", "mod"] : List Str) → Okx xs B false a → 1 ≤ n → n.natAbs ≤ B + 1 → Okx xs B false (.dm w a n)
  | bin {w a b} : w ∈ (["add", "sub", "mul", "min", "max"] : List Str) → Okx xs B false a → Okx xs B false b → Okx xs B false (.bin w a b)
  | cmp {w a b} : w ∈ (["less", "equal"] : List Str) → Okx xs B false a → Okx xs B false b → Okx xs B true (.bin w a b)
  | tri {a b c} : Okx xs B true a → Okx xs B false b → Okx xs B false c → Okx xs B false (.tri a b c)
  | grp {w l} : w ∈ (["all", "any"] : List Str) → l.length ≤ 100 → (∀ i ∈ l, Okx xs B true i) → Okx xs B true (.grp w l)
theorem dep_pos : ∀ i : It, 1 ≤ i.dep
  | .num _ => by rw [It.dep]; omega
  | .name _ => by rw [It.dep]; omega
  | .lit _ => by rw [It.dep]; omega
  | .un _ a => by rw [It.dep]; omega
  | .dm _ a _ => by rw [It.dep]; omega
  | .bin _ a b => by rw [It.dep]; omega
  | .tri a b c => by rw [It.dep]; omega
  | .grp _ l => by rw [It.dep]; omega
section
variable {P : Program} {w : World} {K : PySem.W.Frag} {mg : Str → Option Value} {base : Heap}
/-! ### _law_name -/
theorem flat_res : (res.map V.str).all flatV = true := by decide +kernel
theorem flat_strs' (ys : List Str) : (ys.map V.str).all flatV = true := by
  rw [List.all_map]
  exact List.all_eq_true.mpr fun _ _ => rfl
theorem inV_str {x : Str} {ys : List Str} : inV (.str x) (ys.map V.str) = decide (x ∈ ys) := by
  unfold inV
  rw [List.any_map]
  induction ys with
  | nil => rfl
  | cons y r ih =>
    rw [List.any_cons, ih]
    show (eqV (.str y) (.str x) || _) = _
    have e : eqV (.str y) (.str x) = decide (x = y) := by
      show (y == x) = _
      rw [Bool.beq_eq_decide_eq]
      exact decide_eq_decide.mpr ⟨fun h => h.symm, fun h => h.symm⟩
    rw [e]
    by_cases h : x = y
    · rw [decide_eq_true h, decide_eq_true (List.mem_cons.mpr (.inl h)), Bool.true_or]
    · rw [decide_eq_false h, Bool.false_or]
      exact decide_eq_decide.mpr ⟨fun m => List.mem_cons_of_mem _ m, fun m => (List.mem_cons.mp m).resolve_left h⟩
theorem res_wd : ∀ z ∈ res, Wd z ∧ 2 ≤ z.length ∧ z.length ≤ 5 := by decide +kernel
theorem not_x : ∀ z ∈ res, ∀ y ∈ res, y ++ ("x" : Str) ≠ z := by decide +kernel
def spName : Sp := fun vs H Q _ => ∃ d : Addr, vs = [.ref d] ∧ Dr H d ∧ ∀ z H', Go d H H' → Nam z → Q (.str z) H'
theorem wd_cut {z : Str} (h : Wd z) (lo hi : Option Int) : Wd (cutS z lo hi) := fun c hc => by
  refine h c ?_
  unfold cutS at hc
  exact List.mem_of_mem_drop (List.mem_of_mem_take (by simpa using hc))
theorem len_cut1 {z : Str} (h : 2 ≤ z.length) : (cutS z none (some (-1))).length = z.length - 1 := by
  rw [len_list]
  unfold cutS
  rw [HT.sIx_none, show HT.sIx z.length z.length (some (-1)) = z.length - 1 by
    show (if (-1 : Int) < 0 then ((-1 : Int) + (z.length : Int)).toNat else min (-1 : Int).toNat z.length) = z.length - 1
    rw [if_pos (by decide)]
    omega]
  rw [List.toList_toArray, List.length_take, List.length_drop, ← len_list]
  omega
theorem ok_law_name (T : Txt K mg) : FnOk P w K mg base CX0 3 T.a_law_name T.d_law_name P_law_name spName := by
  have G_law_take := ok_law_take (P := P) (w := w) (base := base) T
  have G_law_some_word := ok_law_some_word (P := P) (w := w) (base := base) T
  have G_law_reserved := ok_law_reserved (P := P) (w := w) (base := base) T
  refine T.F_law_name.ok sc_law_name (fun vs H Q E h => ?_) (fun cdv A outer s H vs Q E hr h => ?_)
  · obtain ⟨d, rfl, _⟩ := h
    rfl
  obtain ⟨d, rfl, hD, q⟩ := h
  refine ⟨_, (pss_cons (ps_set (i := 1) sc_law_name.nd rfl (Or.inl rfl) (pe_call0 G_law_reserved (hr.mono (by omega)) (by rfl) T.m_law_reserved T.F_law_reserved.kp T.b_law_reserved .nil pass0))
    (pss_cons (ps_set (i := 2) sc_law_name.nd rfl (Or.inl rfl) (pe_call G_law_some_word (hr.mono (by omega)) (by rfl) T.m_law_some_word T.F_law_some_word.kp T.b_law_some_word .nil pass0 (pa_cons (pv 0) pa_nil)))
    (C8.pss_cut (ps_if (pt_cmpR op_eq (pe_call G_law_take (hr.mono (by omega)) (by rfl) T.m_law_take T.F_law_take.kp T.b_law_take .nil pass0 (pa_cons (pv 0) (pa_cons pe_int pa_nil))) pe_int (nomark _))
    (pss_cons (ps_set (i := 3) sc_law_name.nd rfl (Or.inl rfl) (pe_ix ix_list (pv 1) (pe_call G_law_take (hr.mono (by omega)) (by rfl) T.m_law_take T.F_law_take.kp T.b_law_take .nil pass0 (pa_cons (pv 0) (pa_cons pe_int pa_nil))) (fun _ _ => rfl)))
    (pss_one (ps_set (i := 2) sc_law_name.nd rfl (Or.inl rfl) (pe_ix ix_list (pe_lst (pa_cons (pe_op op_add_str (pv 3) pe_str) (pa_cons (pe_slice sl_str (pv 3) po_none (po_some (pe_un un_neg pe_int))) (pa_cons (pe_op op_add_str pe_str (pv 3)) pa_nil)))) (pe_call G_law_take (hr.mono (by omega)) (by rfl) T.m_law_take T.F_law_take.kp T.b_law_take .nil pass0 (pa_cons (pv 0) (pa_cons pe_int pa_nil))) (fun _ _ => rfl)))))
    pss_nil)
    (pss_cons (ps_if (pt_cmpR op_in_seq (pv 2) (pv 1) (by rfl))
    (pss_one (ps_ret (pe_op op_add_str (pv 2) pe_str)))
    pss_nil)
    (pss_one (ps_ret (pv 2))))))), ?_⟩
  refine ⟨rfl, fun kn H1 s1 n1 e1 => ?_⟩
  have hn : kn ≠ d := by
    rintro rfl
    obtain ⟨ns, hd⟩ := hD
    rw [n1] at hd; cases hd
  have g1 : Go d H H1 := .same hD s1
  have k1 : Keep K d H1 kn (res.map V.str) := .of hn e1
  refine ⟨_, rfl, d, rfl, g1.dr, fun z H2 g2 hz => ?_⟩
  refine ⟨fun σ H4 => ∃ (z : Str) (y : Option V), Nm z ∧ σ = [some (.ref d), some (.ref kn), some (.str z), y] ∧ Go d H1 H4, ?_, ?_⟩
  · refine ⟨_, rfl, d, _, rfl, g2.dr, (by decide), fun r H3 g3 r0 r1 => ?_⟩
    refine ⟨rfl, _, rfl, ?_⟩
    refine ite2 (fun c => ?_) (fun c => ?_)
    · refine ⟨_, rfl, _, rfl, d, _, rfl, g3.dr, (by decide), fun t H4 g4 t0 t1 => ?_⟩
      obtain ⟨nr, h1, h2⟩ := atI_map (f := V.str) (xs := res) t0 t1
      refine ⟨_, _, _, _, rfl, rfl, ((k1.go g2).go (g3.trans g4)).now, h1, ?_⟩
      obtain ⟨w1, w2, w3⟩ := res_wd nr h2
      have ws : Wd ("s" : Str) ∧ ("s" : Str).length = 1 ∧ Wd ("a" : Str) ∧ ("a" : Str).length = 1 := by decide +kernel
      have sz : ∀ n, n ≤ 1000 → n ≤ sizeLine := fun n h => Nat.le_of_lt (small1000 h)
      refine ⟨_, rfl, _, _, rfl, rfl, sz _ (by rw [ws.2.1]; omega), _, rfl, _, rfl, _, rfl, _, rfl, sz _ (by omega), _, rfl, _, _, rfl, rfl, sz _ (by rw [ws.2.2.2]; omega), (Nat.le_of_ble_eq_true rfl), fun p hp => ?_⟩
      have dp := g4.dr
      have g5 := fun o => Go.new (o := o) dp hp
      refine ⟨_, rfl, d, _, rfl, (g5 _).dr, (by decide), fun u H6 g6 u0 u1 => ?_⟩
      have np : p ≠ d := by
        rintro rfl
        obtain ⟨ns, hd⟩ := dp
        rw [hp] at hd; cases hd
      have e6 := g6.fr p _ np upd_same
      have l1 : Nm (nr ++ ("s" : Str)) := ⟨w1.app ws.1, by rw [len_app]; omega, by rw [len_app, ws.2.1]; omega⟩
      have l2 : Nm (cutS nr none (some (-1))) := ⟨wd_cut w1 _ _, by rw [len_cut1 w2]; omega, by rw [len_cut1 w2]; omega⟩
      have l3 : Nm (("a" : Str) ++ nr) := ⟨ws.2.2.1.app w1, by rw [len_app]; omega, by rw [len_app, ws.2.2.2]; omega⟩
      obtain ⟨v, hv, hm⟩ := atI_map (f := V.str) (xs := [nr ++ ("s" : Str), cutS nr none (some (-1)), ("a" : Str) ++ nr]) u0 u1
      refine ⟨_, _, _, _, rfl, rfl, sqd e6, hv, ?_⟩
      refine ⟨v, _, ?_, rfl, g2.trans (g3.trans (g4.trans ((g5 _).trans g6)))⟩
      simp only [List.mem_cons, List.not_mem_nil, or_false] at hm
      rcases hm with rfl | rfl | rfl
      · exact l1
      · exact l2
      · exact l3
    · exact ⟨z, none, hz, rfl, g2.trans g3⟩
  · rintro σ H4 ⟨z, y, hz, rfl, g4⟩
    refine ⟨_, rfl, _, rfl, _, _, rfl, .inl (k1.go g4).now, rfl, flat_res, _, rfl, ?_⟩
    rw [inV_str]
    refine ite2 (fun c => ?_) (fun c => ?_)
    · have hm : z ∈ res := of_decide_eq_true c
      have wx : Wd ("x" : Str) ∧ ("x" : Str).length = 1 := by decide +kernel
      refine ⟨_, rfl, _, _, rfl, rfl, ?_, q _ H4 (g1.trans g4) ⟨hz.wd.app wx.1, ?_, fun h => not_x _ h _ hm rfl⟩⟩
      · rw [wx.2]
        exact Nat.le_of_lt (small1000 (by have := hz.len; omega))
      · rw [len_app, wx.2]
        have := hz.len
        omega
    · have hm : z ∉ res := fun h => c (decide_eq_true h)
      exact ⟨_, rfl, q _ H4 (g1.trans g4) ⟨hz.wd, by have := hz.len; omega, hm⟩⟩
/-! ### _law_names -/
def spNames : Sp := fun vs H Q _ => ∃ (d : Addr) (m : Int), vs = [.ref d, .int m] ∧ Dr H d ∧ 0 ≤ m ∧ m ≤ 100 ∧
  ∀ (n : Addr) (xs : List Str) H', Go d H H' → H n = none → n ≠ d → H' n = some (.lst (xs.map V.str)) → (∀ x ∈ xs, Nam x) → xs.length ≤ m → xs.Nodup → (1 ≤ m → xs ≠ []) → Q (.ref n) H'
theorem ok_law_names (T : Txt K mg) : FnOk P w K mg base CX0 4 T.a_law_names T.d_law_names P_law_names spNames := by
  have G_law_name := ok_law_name (P := P) (w := w) (base := base) T
  refine T.F_law_names.ok sc_law_names (fun vs H Q E h => ?_) (fun cdv A outer s H vs Q E hr h => ?_)
  · obtain ⟨d, m, rfl, _⟩ := h
    rfl
  obtain ⟨d, m, rfl, hD, m0, m1, q⟩ := h
  refine ⟨_, (pss_cons (ps_set (i := 2) sc_law_names.nd rfl (Or.inl rfl) (pe_lst pa_nil))
    (pss_cons (ps_for  PassesOwn.never rfl (pi_range1 (by rfl) T.z_range (pa_cons (pv 1) pa_nil)) (pg_name (i := 3) sc_law_names.nd rfl (Or.inl rfl))
    (pss_cons (ps_set (i := 4) sc_law_names.nd rfl (Or.inl rfl) (pe_call G_law_name (hr.mono (by omega)) (by rfl) T.m_law_name T.F_law_name.kp T.b_law_name .nil pass0 (pa_cons (pv 0) pa_nil)))
    (pss_one (ps_if (pt_cmpR op_notIn_seq (pv 4) (pv 2) (by rfl))
    (pss_one (ps_expr (pe_bm PySem.F.plainAttrs_list PySem.F.slot_list_append PySem.F.type_list_append mt_append (pv 2) (pa_cons (pv 4) pa_nil))))
    pss_nil))))
    (pss_one (ps_ret (pv 2))))), ?_⟩
  refine ⟨(by decide), fun n hn => ?_⟩
  have nd : n ≠ d := by
    rintro rfl
    obtain ⟨ns, hd⟩ := hD
    rw [hn] at hd; cases hd
  refine ⟨_, rfl, m, rfl, by omega, by omega, for_range (lo := 0) (n := m.toNat) (fun j σ H' => ∃ (xs : List Str) (y z : Option V), σ = [some (.ref d), some (.int m), some (.ref n), y, z] ∧ Go d H H' ∧ H' n = some (.lst (xs.map V.str)) ∧ (∀ x ∈ xs, Nam x) ∧ xs.length ≤ j ∧ xs.Nodup ∧ (0 < j → xs ≠ [])) ?_ ?_ ?_⟩
  · exact ⟨[], none, none, rfl, .new hD hn, upd_same, (fun x h => by cases h), Nat.le_refl _, List.nodup_nil, fun h => absurd h (by decide)⟩
  · rintro j σ H' hj ⟨xs, y, z, rfl, g, e, hx, hl, hnd, hne⟩
    refine ⟨_, rfl, d, rfl, g.dr, fun nm H2 g2 hnm => ?_⟩
    have e2 := g2.fr n _ nd e
    refine ⟨_, rfl, _, rfl, _, _, rfl, .inl (sqd e2), rfl, flat_strs' xs, _, rfl, ?_⟩
    rw [inV_str]
    refine ite2 (fun c => ?_) (fun c => ?_)
    · have hm : nm ∉ xs := fun h => by
        have c' : (!decide (nm ∈ xs)) = true := c
        rw [decide_eq_true h] at c'
        cases c'
      refine ⟨_, rfl, .inl ⟨rfl, _, sqd e2⟩, _, rfl, n, _, _, rfl, rfl, e2, ?_, ?_⟩
      · rw [List.length_map]
        exact small1000 (by omega)
      · refine ⟨xs ++ [nm], _, _, rfl, ?_, ?_, ?_, ?_, ?_, fun _ => by simp⟩
        · have g3 := g.trans g2
          refine ⟨fun b o hb eb => ?_, ?_⟩
          · rw [upd_ne (ne_of_none eb hn)]
            exact g3.fr b o hb eb
          · obtain ⟨ns, hd⟩ := g3.dr
            exact ⟨ns, by rw [upd_ne nd.symm]; exact hd⟩
        · rw [upd_same, List.map_append]
          rfl
        · intro x h
          rcases List.mem_append.mp h with h | h
          · exact hx x h
          · rw [List.mem_singleton.mp h]
            exact hnm
        · rw [List.length_append, List.length_singleton]
          omega
        · exact List.nodup_append.mpr ⟨hnd, List.nodup_cons.mpr ⟨List.not_mem_nil, List.nodup_nil⟩, fun a ha b hb => by
            rw [List.mem_singleton.mp hb]
            rintro rfl
            exact hm ha⟩
    · refine ⟨xs, _, _, rfl, g.trans g2, e2, hx, by omega, hnd, fun _ h => ?_⟩
      rw [h] at c
      exact c rfl
  · rintro σ H' ⟨xs, y, z, rfl, g, e, hx, hl, hnd, hne⟩
    exact ⟨_, rfl, q n xs H' g hn nd e hx (by omega) hnd fun h => hne (by omega)⟩
/-! ### _law_number -/
def spNumber (B : Nat) : Sp := fun vs H Q _ => ∃ (d : Addr) (c : Int), vs = [.ref d, .int c] ∧ Dr H d ∧ c.natAbs ≤ B ∧ ∀ n H', Go d H H' → n.natAbs ≤ B → Q (.int n) H'
theorem ok_law_number {B : Nat} (hB : 100 ≤ B) (T : Txt K mg) : FnOk P w K mg base CX0 2 T.a_law_number T.d_law_number P_law_number (spNumber B) := by
  have G_law_take := ok_law_take (P := P) (w := w) (base := base) T
  refine T.F_law_number.ok sc_law_number (fun vs H Q E h => ?_) (fun cdv A outer s H vs Q E hr h => ?_)
  · obtain ⟨d, c, rfl, _⟩ := h
    rfl
  obtain ⟨d, c, rfl, hD, hc, q⟩ := h
  refine ⟨_, (pss_one (ps_ret (pe_ix ix_list (pe_lst (pa_cons pe_int (pa_cons pe_int (pa_cons (pe_un un_neg pe_int) (pa_cons (pe_op op_sub (pe_call G_law_take (hr.mono (by omega)) (by rfl) T.m_law_take T.F_law_take.kp T.b_law_take .nil pass0 (pa_cons (pv 0) (pa_cons pe_int pa_nil))) pe_int) (pa_cons (pe_op op_sub (pe_call G_law_take (hr.mono (by omega)) (by rfl) T.m_law_take T.F_law_take.kp T.b_law_take .nil pass0 (pa_cons (pv 0) (pa_cons pe_int pa_nil))) pe_int) (pa_cons (pv 1) pa_nil))))))) (pe_call G_law_take (hr.mono (by omega)) (by rfl) T.m_law_take T.F_law_take.kp T.b_law_take .nil pass0 (pa_cons (pv 0) (pa_cons pe_int pa_nil))) (fun _ _ => rfl)))), ?_⟩
  refine ⟨_, rfl, _, rfl, d, _, rfl, hD, (by decide), fun r1 H1 g1 a0 a1 => ?_⟩
  refine ⟨_, _, rfl, rfl, _, rfl, d, _, rfl, g1.dr, (by decide), fun r2 H2 g2 b0 b1 => ?_⟩
  refine ⟨_, _, rfl, rfl, _, rfl, (Nat.le_of_ble_eq_true rfl), fun p hp => ?_⟩
  have g3 := fun o => Go.new (o := o) g2.dr hp
  refine ⟨_, rfl, d, _, rfl, (g3 _).dr, (by decide), fun u H4 g4 u0 u1 => ?_⟩
  have np : p ≠ d := by
    rintro rfl
    obtain ⟨ns, hd⟩ := g2.dr
    rw [hp] at hd; cases hd
  have e4 := g4.fr p _ np upd_same
  obtain ⟨v, hv, hm⟩ := atI_map (f := V.int) (xs := [0, 1, -1, r1 - 5, r2 - 100, c]) u0 u1
  refine ⟨_, _, _, _, rfl, rfl, sqd e4, hv, q v H4 (g1.trans (g2.trans ((g3 _).trans g4))) ?_⟩
  simp only [List.mem_cons, List.not_mem_nil, or_false] at hm
  omega
/-! ### _law_leaf -/
def spLeaf (K : PySem.W.Frag) (B : Nat) : Sp := fun vs H Q _ => ∃ (d n : Addr) (xs : List Str) (c : Int), vs = [.ref d, .ref n, .int c] ∧ Dr H d ∧ Keep K d H n (xs.map V.str) ∧ c.natAbs ≤ B ∧
  ∀ v i H', Go d H H' → ItemIn H' i v → Okx xs B false i → i.dep = 1 → i.sz = 1 → Q v H'
theorem ok_law_leaf {B : Nat} (hB : 100 ≤ B) (T : Txt K mg) : FnOk P w K mg base CX0 3 T.a_law_leaf T.d_law_leaf P_law_leaf (spLeaf K B) := by
  have G_law_take := ok_law_take (P := P) (w := w) (base := base) T
  have G_law_number := ok_law_number (P := P) (w := w) (base := base) hB T
  refine T.F_law_leaf.ok sc_law_leaf (fun vs H Q E h => ?_) (fun cdv A outer s H vs Q E hr h => ?_)
  · obtain ⟨d, n, xs, c, rfl, _⟩ := h
    rfl
  obtain ⟨d, n, xs, c, rfl, hD, hk, hc, q⟩ := h
  refine ⟨_, (pss_cons (ps_if (PW.pt (pw_or (pt_cmpR op_eq (pe_callB call_len_seq (by rfl) T.z_len PySem.boot_len (pa_cons (pv 1) pa_nil)) pe_int (nomark _)) (pw_or1 (pt_cmpR op_lt (pe_call G_law_take (hr.mono (by omega)) (by rfl) T.m_law_take T.F_law_take.kp T.b_law_take .nil pass0 (pa_cons (pv 0) (pa_cons pe_int pa_nil))) pe_int (nomark _)))))
    (pss_one (ps_ret (pe_tup (pa_cons pe_str (pa_cons (pe_call G_law_number (hr.mono (by omega)) (by rfl) T.m_law_number T.F_law_number.kp T.b_law_number .nil pass0 (pa_cons (pv 0) (pa_cons (pv 2) pa_nil))) pa_nil)))))
    pss_nil)
    (pss_one (ps_ret (pe_tup (pa_cons pe_str (pa_cons (pe_ix ix_list (pv 1) (pe_call G_law_take (hr.mono (by omega)) (by rfl) T.m_law_take T.F_law_take.kp T.b_law_take .nil pass0 (pa_cons (pv 0) (pa_cons (pe_callB call_len_seq (by rfl) T.z_len PySem.boot_len (pa_cons (pv 1) pa_nil)) pa_nil))) (fun _ _ => rfl)) pa_nil)))))), ?_⟩
  have one : ∀ H1, Go d H H1 → tRet (tTup (tCons (tC (.str "number")) (tCons (tCall (spNumber B) [] E0 (tCons (tVar 0) (tCons (tVar 2) tNil))) tNil))) { nx := fun _ H' => Q .non H', rt := Q } [some (.ref d), some (.ref n), some (.int c)] H1 := fun H1 g1 => by
    refine ⟨_, rfl, _, rfl, d, c, rfl, g1.dr, hc, fun m H2 g2 hm => ⟨(Nat.le_of_ble_eq_true rfl), fun p hp => ?_⟩⟩
    exact q _ _ _ (g1.trans (g2.trans (.new g2.dr hp))) (.num upd_same) (.num hm) (by rw [It.dep]) (by rw [It.sz])
  refine ⟨_, rfl, _, _, rfl, .inl hk.now, rfl, _, rfl, ?_⟩
  refine ite2 (fun c0 => ?_) (fun c0 => ?_)
  · exact one H (Go.refl hD)
  · have hl := int_ne c0
    rw [List.length_map] at hl
    refine ⟨_, rfl, d, _, rfl, hD, (by decide), fun r H1 g1 r0 r1 => ?_⟩
    refine ⟨_, _, rfl, rfl, _, rfl, ?_⟩
    refine ite2 (fun c1 => ?_) (fun c1 => ?_)
    · exact one H1 g1
    · refine ⟨_, rfl, _, rfl, _, rfl, _, _, rfl, .inl (hk.go g1).now, d, _, rfl, g1.dr, by rw [List.length_map]; omega, fun u H2 g2 u0 u1 => ?_⟩
      rw [List.length_map] at u1
      obtain ⟨v, hv, hm⟩ := atI_map (f := V.str) u0 u1
      refine ⟨_, _, _, _, rfl, rfl, ((hk.go g1).go g2).now, hv, (Nat.le_of_ble_eq_true rfl), fun p hp => ?_⟩
      exact q _ _ _ (g1.trans (g2.trans (.new g2.dr hp))) (.name upd_same) (.name hm) (by rw [It.dep]) (by rw [It.sz])
end
end NL

namespace NL
open PySem PySem.Spec PyProof.Rows L2
theorem yes_if {σ : L2.St} {H : Hp} {a n : Hp → Prop} (h : a H) : tYes σ H (fun b H3 => if b = true then a H3 else n H3) := by
  show (if true = true then a H else n H)
  rw [if_pos rfl]
  exact h
/-- one reading for two ways -/
theorem cutP {B C : Prop} (f : B → C) (b : B) : C := f b
/-! ### _law_expression, _law_test: both by one induction over the depth -/
def eT : Nat → Nat × Nat
  | 0 => (1, 3)
  | n + 1 => (1 + 2 * (eT n).1 + (eT n).2, 1 + 2 * (1 + 2 * (eT n).1 + (eT n).2) + 5 * (eT n).2)
theorem eT_pos (n : Nat) : 1 ≤ (eT n).1 := by
  cases n with
  | zero => decide
  | succ n => show 1 ≤ 1 + 2 * (eT n).1 + (eT n).2; omega
theorem eT_bin (n : Nat) : 1 + 2 * (eT n).1 ≤ (eT n).2 := by
  cases n with
  | zero => decide
  | succ n => show 1 + 2 * (1 + 2 * (eT n).1 + (eT n).2) ≤ 1 + 2 * (1 + 2 * (eT n).1 + (eT n).2) + 5 * (eT n).2; omega
theorem new_ne {d p : Addr} {H : Hp} (h : Dr H d) (hp : H p = none) : p ≠ d := by
  rintro rfl
  obtain ⟨ns, e⟩ := h
  rw [hp] at e; cases e
/-- a new list that was made while d is drawn, read behind more draws -/
theorem Go.at {d p : Addr} {H H' : Hp} {o : HO} (h : Dr H d) (hp : H p = none) (g : Go d (upd H p o) H') : H' p = some o := g.fr p o (new_ne h hp) upd_same
def spE (K : PySem.W.Frag) (B : Nat) : Nat → Sp
  | 0 => fun _ _ _ _ => False
  | n + 1 => fun vs H Q _ => ∃ (d nm : Addr) (xs : List Str) (c δ : Int), vs = [.ref d, .ref nm, .int c, .int δ] ∧ Dr H d ∧ Keep K d H nm (xs.map V.str) ∧ c.natAbs ≤ B ∧ δ ≤ n ∧
    ∀ v i H', Go d H H' → ItemIn H' i v → Okx xs B false i → i.dep ≤ 2 * n + 1 → i.sz ≤ (eT n).1 → Q v H'
def spT (K : PySem.W.Frag) (B : Nat) : Nat → Sp
  | 0 => fun _ _ _ _ => False
  | n + 1 => fun vs H Q _ => ∃ (d nm : Addr) (xs : List Str) (c δ : Int), vs = [.ref d, .ref nm, .int c, .int δ] ∧ Dr H d ∧ Keep K d H nm (xs.map V.str) ∧ c.natAbs ≤ B ∧ δ ≤ n ∧
    ∀ v i H', Go d H H' → ItemIn H' i v → Okx xs B true i → i.dep ≤ 2 * n + 2 → i.sz ≤ (eT n).2 → Q v H'
theorem szL_le {m : Nat} : ∀ (l : List It), (∀ i ∈ l, i.sz ≤ m) → szL l ≤ l.length * m
  | [], _ => by rw [szL]; omega
  | a :: r, h => by
    rw [szL, List.length_cons, Nat.succ_mul]
    have h1 := h a List.mem_cons_self
    have h2 := szL_le r fun i hi => h i (List.mem_cons_of_mem _ hi)
    omega
theorem depL_le {m : Nat} : ∀ (l : List It), (∀ i ∈ l, i.dep ≤ m) → depL l ≤ m
  | [], _ => by rw [depL]; omega
  | a :: r, h => by
    rw [depL]
    have h1 := h a List.mem_cons_self
    have h2 := depL_le r fun i hi => h i (List.mem_cons_of_mem _ hi)
    omega
section
variable {P : Program} {w : World} {K : PySem.W.Frag} {mg : Str → Option Value} {base : Heap}
theorem ok_E {B n : Nat} (hB : 100 ≤ B) (T : Txt K mg) (G_law_expression : FnOk P w K mg base CX0 (3 + 2 * n) T.a_law_expression T.d_law_expression P_law_expression (spE K B n))
    (G_law_test : FnOk P w K mg base CX0 (4 + 2 * n) T.a_law_test T.d_law_test P_law_test (spT K B n)) :
    FnOk P w K mg base CX0 (4 + 2 * n + 1) T.a_law_expression T.d_law_expression P_law_expression (spE K B (n + 1)) := by
  have G_law_take := ok_law_take (P := P) (w := w) (base := base) T
  have G_law_leaf := ok_law_leaf (P := P) (w := w) (base := base) hB T
  refine T.F_law_expression.ok sc_law_expression (fun vs H Q E h => ?_) (fun cdv A outer s H vs Q E hr h => ?_)
  · obtain ⟨d, nm, xs, c, δ, rfl, _⟩ := h
    rfl
  obtain ⟨d, nm, xs, c, δ, rfl, hD, hk, hc, hδ, q⟩ := h
  refine ⟨_, (pss_cons (ps_set (i := 4) sc_law_expression.nd rfl (Or.inl rfl) (pe_call G_law_take (hr.mono (by omega)) (by rfl) T.m_law_take T.F_law_take.kp T.b_law_take .nil pass0 (pa_cons (pv 0) (pa_cons pe_int pa_nil))))
    (pss_cons (ps_if (PW.pt (pw_or (pt_cmpR op_lt (pv 3) pe_int (nomark _)) (pw_or1 (pt_cmpR op_lt (pv 4) pe_int (nomark _)))))
    (pss_one (ps_ret (pe_call G_law_leaf (hr.mono (by omega)) (by rfl) T.m_law_leaf T.F_law_leaf.kp T.b_law_leaf .nil pass0 (pa_cons (pv 0) (pa_cons (pv 1) (pa_cons (pv 2) pa_nil))))))
    pss_nil)
    (pss_cons (ps_set (i := 5) sc_law_expression.nd rfl (Or.inl rfl) (pe_call G_law_expression (hr.mono (by omega)) (by rfl) T.m_law_expression T.F_law_expression.kp T.b_law_expression .nil pass0 (pa_cons (pv 0) (pa_cons (pv 1) (pa_cons (pv 2) (pa_cons (pe_op op_sub (pv 3) pe_int) pa_nil))))))
    (pss_cons (ps_if (pt_cmpR op_eq (pv 4) pe_int (nomark _))
    (pss_one (ps_ret (pe_tup (pa_cons pe_str (pa_cons (pv 5) pa_nil)))))
    pss_nil)
    (pss_cons (ps_if (pt_cmpR op_lt (pv 4) pe_int (nomark _))
    (pss_one (ps_ret (pe_tup (pa_cons (pe_ix ix_list (pe_lst (pa_cons pe_str (pa_cons pe_str pa_nil))) (pe_op op_sub (pv 4) pe_int) (fun _ _ => rfl)) (pa_cons (pv 5) (pa_cons (pe_op op_add pe_int (pe_ix ix_list (pe_lst (pa_cons pe_int (pa_cons (pe_call G_law_take (hr.mono (by omega)) (by rfl) T.m_law_take T.F_law_take.kp T.b_law_take .nil pass0 (pa_cons (pv 0) (pa_cons pe_int pa_nil))) (pa_cons (pe_callB (call_abs) (by rfl) T.z_abs (by decide +kernel) (pa_cons (pv 2) pa_nil)) pa_nil)))) (pe_call G_law_take (hr.mono (by omega)) (by rfl) T.m_law_take T.F_law_take.kp T.b_law_take .nil pass0 (pa_cons (pv 0) (pa_cons pe_int pa_nil))) (fun _ _ => rfl))) pa_nil))))))
    pss_nil)
    (pss_cons (ps_set (i := 6) sc_law_expression.nd rfl (Or.inl rfl) (pe_call G_law_expression (hr.mono (by omega)) (by rfl) T.m_law_expression T.F_law_expression.kp T.b_law_expression .nil pass0 (pa_cons (pv 0) (pa_cons (pv 1) (pa_cons (pv 2) (pa_cons (pe_op op_sub (pv 3) pe_int) pa_nil))))))
    (pss_cons (ps_if (pt_cmpR op_eq (pv 4) pe_int (nomark _))
    (pss_one (ps_ret (pe_tup (pa_cons pe_str (pa_cons (pe_call G_law_test (hr.mono (by omega)) (by rfl) T.m_law_test T.F_law_test.kp T.b_law_test .nil pass0 (pa_cons (pv 0) (pa_cons (pv 1) (pa_cons (pv 2) (pa_cons (pe_op op_sub (pv 3) pe_int) pa_nil))))) (pa_cons (pv 5) (pa_cons (pv 6) pa_nil)))))))
    pss_nil)
    (pss_one (ps_ret (pe_tup (pa_cons (pe_ix ix_list (pe_lst (pa_cons pe_str (pa_cons pe_str (pa_cons pe_str (pa_cons pe_str (pa_cons pe_str pa_nil)))))) (pe_op op_sub (pv 4) pe_int) (fun _ _ => rfl)) (pa_cons (pv 5) (pa_cons (pv 6) pa_nil))))))))))))), ?_⟩
  refine ⟨_, rfl, d, _, rfl, hD, (by decide), fun kd H1 g1 k0 k1 => ?_⟩
  have leaf : tRet (tCall (spLeaf K B) [] E0 (tCons (tVar 0) (tCons (tVar 1) (tCons (tVar 2) tNil)))) { nx := fun _ H' => Q .non H', rt := Q } [some (.ref d), some (.ref nm), some (.int c), some (.int δ), some (.int kd), none, none] H1 := by
    refine ⟨_, rfl, _, rfl, _, rfl, d, nm, xs, c, rfl, g1.dr, hk.go g1, hc, fun v i H2 g2 hi ho hd hs => ?_⟩
    exact q v i H2 (g1.trans g2) hi ho (by omega) (by have := eT_pos n; omega)
  refine ⟨_, rfl, _, _, rfl, rfl, _, rfl, ?_⟩
  refine ite2 (fun c1 => iteT leaf) (fun c1 => ?_)
  refine ⟨_, rfl, _, _, rfl, rfl, _, rfl, ?_⟩
  refine ite2 (fun c2 => leaf) (fun c2 => ?_)
  have d1 : ¬ δ < 1 := fun h => c1 (decide_eq_true h)
  have k3 : ¬ kd < 3 := fun h => c2 (decide_eq_true h)
  cases n with
  | zero => exact absurd hδ (by omega)
  | succ n =>
  have eE : (eT (n + 1)).1 = 1 + 2 * (eT n).1 + (eT n).2 := rfl
  -- one
  refine ⟨_, rfl, _, rfl, _, rfl, _, rfl, _, _, rfl, rfl, d, nm, xs, c, δ - 1, rfl, g1.dr, hk.go g1, hc, by omega, fun v1 i1 H2 g2 hi1 ho1 hd1 hs1 => ?_⟩
  refine ⟨_, rfl, rfl, _, rfl, ?_⟩
  refine ite2 (fun c3 => ?_) (fun c3 => ?_)
  · refine ⟨_, rfl, (Nat.le_of_ble_eq_true rfl), fun p hp => ?_⟩
    have gn := fun o => Go.new (o := o) g2.dr hp
    exact q _ _ _ (g1.trans (g2.trans (gn _))) (.un upd_same (hi1.go (gn _) g2.dr)) (.abs ho1) (by rw [It.dep]; omega) (by rw [It.sz]; omega)
  have k4 : kd ≠ 3 := int_ne c3
  refine ⟨_, rfl, _, _, rfl, rfl, _, rfl, ?_⟩
  refine ite2 (fun c4 => ?_) (fun c4 => ?_)
  · have k5 : kd < 6 := of_decide_eq_true c4
    refine ⟨(Nat.le_of_ble_eq_true rfl), fun p hp => ?_⟩
    have gp := fun o => Go.new (o := o) g2.dr hp
    obtain ⟨wd, hw, hm⟩ := atI_map (f := V.str) (xs := ["div", "mod"]) (i := kd - 4) (by omega) (by show kd - 4 < 2; omega)
    refine ⟨_, rfl, _, _, rfl, rfl, _, _, _, _, rfl, rfl, sqd upd_same, hw, ?_⟩
    refine ⟨_, rfl, _, rfl, d, _, rfl, (gp _).dr, (by decide), fun r H3 g3 r0 r1 => ?_⟩
    refine ⟨_, rfl, _, rfl, (Nat.le_of_ble_eq_true rfl), fun p2 hp2 => ?_⟩
    have gp2 := fun o => Go.new (o := o) g3.dr hp2
    refine ⟨_, rfl, d, _, rfl, (gp2 _).dr, (by decide), fun u H4 g4 u0 u1 => ?_⟩
    obtain ⟨n1, hn1, hm1⟩ := atI_map (f := V.int) (xs := [0, r, if c < 0 then -c else c]) u0 u1
    refine ⟨_, _, _, _, rfl, rfl, sqd (g4.at g3.dr hp2), hn1, _, _, rfl, rfl, (Nat.le_of_ble_eq_true rfl), fun p3 hp3 => ?_⟩
    have gp3 := fun o => Go.new (o := o) g4.dr hp3
    have gg := fun o => (gp _).trans (g3.trans ((gp2 _).trans (g4.trans (gp3 o))))
    have hb : 0 ≤ n1 ∧ n1.natAbs ≤ B := by
      simp only [List.mem_cons, List.not_mem_nil, or_false] at hm1
      rcases hm1 with h | h | h
      · omega
      · omega
      · split at h <;> omega
    exact q _ _ _ (g1.trans (g2.trans (gg _))) (.dm upd_same (hi1.go (gg _) g2.dr)) (.dm hm ho1 (by omega) (by omega)) (by rw [It.dep]; omega) (by rw [It.sz]; omega)
  have k6 : ¬ kd < 6 := fun h => c4 (decide_eq_true h)
  -- two
  refine ⟨_, rfl, _, rfl, _, rfl, _, rfl, _, _, rfl, rfl, d, nm, xs, c, δ - 1, rfl, g2.dr, (hk.go g1).go g2, hc, by omega, fun v2 i2 H3 g3 hi2 ho2 hd2 hs2 => ?_⟩
  refine ⟨_, rfl, rfl, _, rfl, ?_⟩
  refine ite2 (fun c5 => ?_) (fun c5 => ?_)
  · refine ⟨_, rfl, _, rfl, _, rfl, _, rfl, _, _, rfl, rfl, d, nm, xs, c, δ - 1, rfl, g3.dr, ((hk.go g1).go g2).go g3, hc, by omega, fun v3 i3 H4 g4 hi3 ho3 hd3 hs3 => ?_⟩
    refine ⟨_, rfl, _, rfl, (Nat.le_of_ble_eq_true rfl), fun p hp => ?_⟩
    have gp := fun o => Go.new (o := o) g4.dr hp
    exact q _ _ _ (g1.trans (g2.trans (g3.trans (g4.trans (gp _))))) (.tri upd_same (hi3.go (gp _) g4.dr) (hi1.go (g3.trans (g4.trans (gp _))) g2.dr) (hi2.go (g4.trans (gp _)) g3.dr)) (.tri ho3 ho1 ho2) (by rw [It.dep]; omega) (by rw [It.sz]; omega)
  have k7 : kd ≠ 6 := int_ne c5
  refine ⟨(Nat.le_of_ble_eq_true rfl), fun p hp => ?_⟩
  have gp := fun o => Go.new (o := o) g3.dr hp
  obtain ⟨wd, hw, hm⟩ := atI_map (f := V.str) (xs := ["add", "sub", "mul", "min", "max"]) (i := kd - 7) (by omega) (by show kd - 7 < 5; omega)
  refine ⟨_, rfl, _, _, rfl, rfl, _, _, _, _, rfl, rfl, sqd upd_same, hw, _, rfl, _, rfl, (Nat.le_of_ble_eq_true rfl), fun p2 hp2 => ?_⟩
  have gp2 := fun o => Go.new (o := o) (gp _).dr hp2
  have gg := fun o => (gp _).trans (gp2 o)
  exact q _ _ _ (g1.trans (g2.trans (g3.trans (gg _)))) (.bin upd_same (hi1.go (g3.trans (gg _)) g2.dr) (hi2.go (gg _) g3.dr)) (.bin hm ho1 ho2) (by rw [It.dep]; omega) (by rw [It.sz]; omega)
theorem ok_T {B n : Nat} (hB : 100 ≤ B) (T : Txt K mg) (G_law_expression : FnOk P w K mg base CX0 (4 + 2 * n + 1) T.a_law_expression T.d_law_expression P_law_expression (spE K B (n + 1)))
    (G_law_test : FnOk P w K mg base CX0 (4 + 2 * n) T.a_law_test T.d_law_test P_law_test (spT K B n)) :
    FnOk P w K mg base CX0 (5 + 2 * n + 1) T.a_law_test T.d_law_test P_law_test (spT K B (n + 1)) := by
  have G_law_take := ok_law_take (P := P) (w := w) (base := base) T
  refine T.F_law_test.ok sc_law_test (fun vs H Q E h => ?_) (fun cdv A outer s H vs Q E hr h => ?_)
  · obtain ⟨d, nm, xs, c, δ, rfl, _⟩ := h
    rfl
  obtain ⟨d, nm, xs, c, δ, rfl, hD, hk, hc, hδ, q⟩ := h
  have eB := eT_bin n
  refine ⟨_, (pss_cons (ps_set (i := 4) sc_law_test.nd rfl (Or.inl rfl) (pe_call G_law_take (hr.mono (by omega)) (by rfl) T.m_law_take T.F_law_take.kp T.b_law_take .nil pass0 (pa_cons (pv 0) (pa_cons pe_int pa_nil))))
    (pss_cons (ps_if (pt_cmpR op_lt (pv 4) pe_int (nomark _))
    (pss_one (ps_ret (pe_ix ix_list (pe_lst (pa_cons (pe_tup (pa_cons pe_str pa_nil)) (pa_cons (pe_tup (pa_cons pe_str pa_nil)) pa_nil))) (pv 4) (fun _ _ => rfl))))
    pss_nil)
    (pss_cons (ps_if (PW.pt (pw_or (pt_cmpR op_lt (pv 3) pe_int (nomark _)) (pw_or1 (pt_cmpR op_lt (pv 4) pe_int (nomark _)))))
    (pss_cons (ps_set (i := 5) sc_law_test.nd rfl (Or.inl rfl) (pe_call G_law_expression (hr.mono (by omega)) (by rfl) T.m_law_expression T.F_law_expression.kp T.b_law_expression .nil pass0 (pa_cons (pv 0) (pa_cons (pv 1) (pa_cons (pv 2) (pa_cons (pe_op op_sub (pv 3) pe_int) pa_nil))))))
    (pss_one (ps_ret (pe_tup (pa_cons (pe_ix ix_list (pe_lst (pa_cons pe_str (pa_cons pe_str pa_nil))) (pe_op op_mod (pv 4) pe_int) (fun _ _ => rfl)) (pa_cons (pv 5) (pa_cons (pe_call G_law_expression (hr.mono (by omega)) (by rfl) T.m_law_expression T.F_law_expression.kp T.b_law_expression .nil pass0 (pa_cons (pv 0) (pa_cons (pv 1) (pa_cons (pv 2) (pa_cons (pe_op op_sub (pv 3) pe_int) pa_nil))))) pa_nil)))))))
    pss_nil)
    (pss_cons (ps_if (pt_cmpR op_eq (pv 4) pe_int (nomark _))
    (pss_one (ps_ret (pe_tup (pa_cons pe_str (pa_cons (pe_call G_law_test (hr.mono (by omega)) (by rfl) T.m_law_test T.F_law_test.kp T.b_law_test .nil pass0 (pa_cons (pv 0) (pa_cons (pv 1) (pa_cons (pv 2) (pa_cons (pe_op op_sub (pv 3) pe_int) pa_nil))))) pa_nil)))))
    pss_nil)
    (pss_cons (ps_set (i := 6) sc_law_test.nd rfl (Or.inl rfl) (pe_ix ix_list (pe_lst (pa_cons pe_int (pa_cons pe_int (pa_cons pe_int (pa_cons pe_int (pa_cons pe_int (pa_cons pe_int pa_nil))))))) (pe_call G_law_take (hr.mono (by omega)) (by rfl) T.m_law_take T.F_law_take.kp T.b_law_take .nil pass0 (pa_cons (pv 0) (pa_cons pe_int pa_nil))) (fun _ _ => rfl)))
    (pss_one (ps_ret (pe_tup (pa_cons (pe_ix ix_list (pe_lst (pa_cons pe_str (pa_cons pe_str (pa_cons pe_str pa_nil)))) (pe_op op_sub (pv 4) pe_int) (fun _ _ => rfl)) (pa_cons (pe_callTy call_tuple_of (by rfl) T.z_tuple (by decide +kernel) (pa_cons (pe_lc (own := [("k", 7)]) (g := (gName 7)) (tt := tYes) rfl sc_law_test.nd (pi_range1 (by rfl) T.z_range (pa_cons (pv 6) pa_nil)) (blkOk_by (N := N_law_test) (sc := defScope s_law_test) (by decide +kernel)) (fun _ _ _ _ _ => (pg_name (i := 7) sc_law_test.nd rfl (Or.inl rfl))) (fun _ _ _ _ _ => pts_nil) (fun _ _ _ _ _ => (pe_call G_law_test (hr.mono (by omega)) (by rfl) T.m_law_test T.F_law_test.kp T.b_law_test .nil pass0 (pa_cons (pv 0) (pa_cons (pv 1) (pa_cons (pv 2) (pa_cons (pe_op op_sub (pv 3) pe_int) pa_nil))))))) pa_nil)) pa_nil)))))))))), ?_⟩
  refine ⟨_, rfl, d, _, rfl, hD, (by decide), fun kd H1 g1 k0 k1 => ?_⟩
  refine ⟨_, rfl, _, _, rfl, rfl, _, rfl, ?_⟩
  refine ite2 (fun c1 => ?_) (fun c1 => ?_)
  · have k2 : kd < 2 := of_decide_eq_true c1
    refine ⟨(Nat.le_of_ble_eq_true rfl), fun p hp => ⟨(Nat.le_of_ble_eq_true rfl), fun p2 hp2 => ⟨(Nat.le_of_ble_eq_true rfl), fun p3 hp3 => ?_⟩⟩⟩
    have n12 : p ≠ p2 := ne_of_none upd_same hp2
    have n13 : p ≠ p3 := ne_of_none (by rw [upd_ne n12]; exact upd_same) hp3
    have n23 : p2 ≠ p3 := ne_of_none upd_same hp3
    obtain ⟨v, hv, hm⟩ := atI_mem (xs := [V.ref p, V.ref p2]) (i := kd) k0 (by show kd < 2; exact k2)
    have g2 := fun o => Go.new (o := o) g1.dr hp
    have g3 := fun o => Go.new (o := o) (g2 _).dr hp2
    have g4 := fun o => Go.new (o := o) (g3 _).dr hp3
    refine ⟨_, rfl, _, _, _, _, rfl, rfl, sqd upd_same, hv, ?_⟩
    simp only [List.mem_cons, List.not_mem_nil, or_false] at hm
    have gg := fun o => g1.trans ((g2 _).trans ((g3 _).trans (g4 o)))
    rcases hm with rfl | rfl
    · exact q _ (.lit true) _ (gg _) (.lit (by rw [upd_ne n13, upd_ne n12]; exact upd_same)) .lit (by rw [It.dep]; omega) (by rw [It.sz]; omega)
    · exact q _ (.lit false) _ (gg _) (.lit (by rw [upd_ne n23]; exact upd_same)) .lit (by rw [It.dep]; omega) (by rw [It.sz]; omega)
  have k2 : ¬ kd < 2 := fun h => c1 (decide_eq_true h)
  -- less, equal
  refine ⟨_, rfl, _, _, rfl, rfl, _, rfl, ?_⟩
  refine' cutP ?f ?b
  case f =>
    intro body
    refine ite2 (fun c2 => iteT body) (fun c2 => ?_)
    refine ⟨_, rfl, _, _, rfl, rfl, _, rfl, ?_⟩
    refine ite2 (fun c3 => body) (fun c3 => ?_)
    have d1 : ¬ δ < 1 := fun h => c2 (decide_eq_true h)
    have k6 : ¬ kd < 6 := fun h => c3 (decide_eq_true h)
    cases n with
    | zero => exact absurd hδ (by omega)
    | succ n =>
    have eE : (eT (n + 1)).2 = 1 + 2 * (1 + 2 * (eT n).1 + (eT n).2) + 5 * (eT n).2 := rfl
    -- not
    refine ⟨_, rfl, rfl, _, rfl, ?_⟩
    refine ite2 (fun c4 => ?_) (fun c4 => ?_)
    · refine ⟨_, rfl, _, rfl, _, rfl, _, rfl, _, _, rfl, rfl, d, nm, xs, c, δ - 1, rfl, g1.dr, hk.go g1, hc, by omega, fun v1 i1 H2 g2 hi1 ho1 hd1 hs1 => ?_⟩
      refine ⟨(Nat.le_of_ble_eq_true rfl), fun p hp => ?_⟩
      have gp := fun o => Go.new (o := o) g2.dr hp
      exact q _ _ _ (g1.trans (g2.trans (gp _))) (.un upd_same (hi1.go (gp _) g2.dr)) (.not ho1) (by rw [It.dep]; omega) (by rw [It.sz]; omega)
    have k7 : kd ≠ 6 := int_ne c4
    -- many
    refine ⟨(Nat.le_of_ble_eq_true rfl), fun p hp => ?_⟩
    have gp := fun o => Go.new (o := o) g1.dr hp
    refine ⟨_, rfl, d, _, rfl, (gp _).dr, (by decide), fun u H2 g2 u0 u1 => ?_⟩
    obtain ⟨m, hmv, hmm⟩ := atI_map (f := V.int) (xs := [0, 1, 2, 3, 2, 5]) u0 u1
    have hm5 : 0 ≤ m ∧ m ≤ 5 := by
      simp only [List.mem_cons, List.not_mem_nil, or_false] at hmm
      omega
    have g12 := g1.trans ((gp _).trans g2)
    refine ⟨_, _, _, _, rfl, rfl, sqd (g2.at g1.dr hp), hmv, (Nat.le_of_ble_eq_true rfl), fun p2 hp2 => ?_⟩
    have gp2 := fun o => Go.new (o := o) g2.dr hp2
    obtain ⟨wd, hw, hmw⟩ := atI_map (f := V.str) (xs := ["all", "any", "all"]) (i := kd - 7) (by omega) (by show kd - 7 < 3; omega)
    refine ⟨_, rfl, _, _, rfl, rfl, _, _, _, _, rfl, rfl, sqd upd_same, hw, _, rfl, m, rfl, by omega, by omega, fun D hD => ?_⟩
    have gD := fun o => Go.new (o := o) (gp2 _).dr hD
    refine lc_range (lo := 0) (n := m.toNat) (fun (j : Nat) (H' : Hp) => ∃ (l : List It) (vs : List V), vs.length = j ∧ l.length = j ∧ Go d (upd H2 p2 (.lst [.str "all", .str "any", .str "all"])) H' ∧ H' D = some (.lst vs) ∧ (∀ (k : Nat) i x, l[k]? = some i → vs[k]? = some x → ItemIn H' i x) ∧ (∀ i ∈ l, Okx xs B true i ∧ i.dep ≤ 2 * n + 2 ∧ i.sz ≤ (eT n).2)) ?_ ?_ ?_
    · exact ⟨[], [], rfl, rfl, gD _, upd_same, fun k i x h => by simp at h, fun i h => by cases h⟩
    · rintro j H' hj ⟨l, vs, hl1, hl2, g, e, hin, hok⟩
      refine ⟨rfl, ?_⟩
      refine yes_if ?_
      refine ⟨_, rfl, _, rfl, _, rfl, _, rfl, _, _, rfl, rfl, d, nm, xs, c, δ - 2, rfl, g.dr, (hk.go g12).go ((gp2 _).trans g), hc, by omega, fun v1 i1 H4 g4 hi1 ho1 hd1 hs1 => ?_⟩
      have nD : D ≠ d := new_ne (gp2 _).dr hD
      have e4 := g4.fr D _ nD e
      have t4 : Tp H4 (upd H4 D (.lst (vs ++ [v1]))) := fun a ys ea => by
        rw [upd_ne]
        · exact ea
        · rintro rfl
          rw [e4] at ea; cases ea
      refine ⟨vs, e4, small1000 (by omega), l ++ [i1], vs ++ [v1], ?_, ?_, ?_, upd_same, ?_, ?_⟩
      · rw [List.length_append, hl1] <;> rfl
      · rw [List.length_append, hl2] <;> rfl
      · have g5 := g.trans g4
        refine ⟨fun b o hb eb => ?_, ?_⟩
        · rw [upd_ne (ne_of_none eb hD)]
          exact g5.fr b o hb eb
        · obtain ⟨ns, h⟩ := g5.dr
          exact ⟨ns, by rw [upd_ne nD.symm]; exact h⟩
      · intro k i x h1 h2
        by_cases hk2 : k < j
        · rw [List.getElem?_append_left (by omega)] at h1 h2
          exact ((hin k i x h1 h2).go g4 g.dr).mono t4
        · have hk3 : k = j := by
            have := (List.getElem?_eq_some_iff.mp h1).1
            rw [List.length_append, hl2] at this
            have : [i1].length = 1 := rfl
            omega
          subst hk3
          rw [List.getElem?_append_right (by omega), hl2, Nat.sub_self] at h1
          rw [List.getElem?_append_right (by omega), hl1, Nat.sub_self] at h2
          obtain rfl : i1 = i := Option.some.inj h1
          obtain rfl : v1 = x := Option.some.inj h2
          exact hi1.mono t4
      · intro i hi
        rcases List.mem_append.mp hi with h | h
        · exact hok i h
        · rw [List.mem_singleton.mp h]
          exact ⟨ho1, hd1, hs1⟩
    · rintro H' ⟨l, vs, hl1, hl2, g, e, hin, hok⟩
      refine ⟨D, vs, rfl, .inl ⟨sqd e, fun tp htp => ?_⟩⟩
      have gt := fun o => Go.new (o := o) g.dr htp
      refine ⟨(Nat.le_of_ble_eq_true rfl), fun rp hrp => ?_⟩
      have gr := fun o => Go.new (o := o) (gt _).dr hrp
      have nt : tp ≠ rp := ne_of_none upd_same hrp
      have hz : szL l ≤ 5 * (eT n).2 := by
        have := szL_le l (fun i hi => (hok i hi).2.2)
        have h5 : l.length ≤ 5 := by omega
        exact Nat.le_trans this (Nat.mul_le_mul_right _ h5)
      have hd : depL l ≤ 2 * n + 2 := depL_le l (fun i hi => (hok i hi).2.1)
      refine q _ (.grp wd l) _ (g12.trans ((gp2 _).trans (g.trans ((gt _).trans (gr _))))) (.grp upd_same (by rw [upd_ne nt]; exact upd_same) (by omega) ?_) (.grp ?_ (by omega) fun i hi => (hok i hi).1) (by rw [It.dep]; omega) (by rw [It.sz]; omega)
      · intro k i x h1 h2
        exact (hin k i x h1 h2).go ((gt _).trans (gr _)) g.dr
      · simp only [List.mem_cons, List.not_mem_nil, or_false] at hmw ⊢
        rcases hmw with h | h | h
        · exact .inl h
        · exact .inr h
        · exact .inl h
  case b =>
    refine ⟨_, rfl, _, rfl, _, rfl, _, rfl, _, _, rfl, rfl, d, nm, xs, c, δ - 1, rfl, g1.dr, hk.go g1, hc, by omega, fun v1 i1 H2 g2 hi1 ho1 hd1 hs1 => ?_⟩
    refine ⟨(Nat.le_of_ble_eq_true rfl), fun p hp => ?_⟩
    have gp := fun o => Go.new (o := o) g2.dr hp
    have b1 := Int.emod_nonneg kd (by decide : (2 : Int) ≠ 0)
    have b2 := Int.emod_lt_of_pos kd (by decide : (0 : Int) < 2)
    obtain ⟨wd, hw, hm⟩ := atI_map (f := V.str) (xs := ["less", "equal"]) (i := kd % 2) b1 (by show kd % 2 < 2; exact b2)
    refine ⟨_, rfl, _, _, rfl, rfl, (by show (0 : Int) < 2; decide), _, _, _, _, rfl, rfl, sqd upd_same, hw, _, rfl, _, rfl, _, rfl, _, rfl, _, rfl, _, _, rfl, rfl, d, nm, xs, c, δ - 1, rfl, (gp _).dr, ((hk.go g1).go g2).go (gp _), hc, by omega, fun v2 i2 H3 g3 hi2 ho2 hd2 hs2 => ?_⟩
    refine ⟨(Nat.le_of_ble_eq_true rfl), fun p2 hp2 => ?_⟩
    have gp2 := fun o => Go.new (o := o) g3.dr hp2
    exact q _ _ _ (g1.trans (g2.trans ((gp _).trans (g3.trans (gp2 _))))) (.bin upd_same (hi1.go ((gp _).trans (g3.trans (gp2 _))) g2.dr) (hi2.go (gp2 _) g3.dr)) (.cmp hm ho1 ho2) (by rw [It.dep]; omega) (by rw [It.sz]; omega)
theorem ok_ET {B : Nat} (hB : 100 ≤ B) (T : Txt K mg) : ∀ n : Nat,
    FnOk P w K mg base CX0 (3 + 2 * n) T.a_law_expression T.d_law_expression P_law_expression (spE K B n) ∧ FnOk P w K mg base CX0 (4 + 2 * n) T.a_law_test T.d_law_test P_law_test (spT K B n)
  | 0 => ⟨⟨fun _ _ _ _ h => h.elim, fun _ _ _ _ _ _ _ _ _ _ _ _ _ h => h.elim⟩, ⟨fun _ _ _ _ h => h.elim, fun _ _ _ _ _ _ _ _ _ _ _ _ _ h => h.elim⟩⟩
  | n + 1 => by
    obtain ⟨ge, gt⟩ := ok_ET hB T n
    have h1 := ok_E hB T ge gt
    have h2 := ok_T hB T h1 gt
    exact ⟨h1.mono (by omega), h2.mono (by omega)⟩
end
end NL

namespace NL
open PySem PySem.Spec PyProof.Rows L2
theorem ixN_in {n : Nat} {k : Int} (h0 : 0 ≤ k) (h1 : k < n) : ixN n k = some k.toNat := by
  unfold ixN
  rw [if_pos h0, if_pos h1]
/-- a change at what was not there before -/
theorem same_put {H H' : Hp} {p : Addr} {o : HO} (s : Same H H') (hp : H p = none) : Same H (upd H' p o) := fun b u e => by
  rw [upd_ne (ne_of_none e hp)]
  exact s b u e
section
variable {P : Program} {w : World} {K : PySem.W.Frag} {mg : Str → Option Value} {base : Heap}
def spDraws (K : PySem.W.Frag) : Sp := fun vs H Q _ => ∃ (a : Addr) (ns : List Int) (m : Int), vs = [.ref a, .int m] ∧ SqL K H a (ns.map V.int) ∧ ns.length ≤ 63 ∧ 0 ≤ m ∧ m ≤ 1000 ∧
  ∀ d H', Same H H' → H d = none → Dr H' d → Q (.ref d) H'
theorem ok_law_draws (T : Txt K mg) : FnOk P w K mg base CX0 1 T.a_law_draws T.d_law_draws P_law_draws (spDraws K) := by
  refine T.F_law_draws.ok sc_law_draws (fun vs H Q E h => ?_) (fun cdv A outer s H vs Q E hr h => ?_)
  · obtain ⟨a, ns, m, rfl, _⟩ := h
    rfl
  obtain ⟨a, ns, m, rfl, hS, hl, m0, m1, q⟩ := h
  refine ⟨_, (pss_cons (ps_setLc (i := 2) (own := [("cell", 3)]) (g := (gName 3)) (tt := tYes) rfl sc_law_draws.nd rfl rfl (sw_true rfl rfl rfl (by decide +kernel)) (pi_list (pv 0)) (blkOk_by (N := N_law_draws) (sc := defScope s_law_draws) (by decide +kernel)) (fun _ _ _ _ _ => (pg_name (i := 3) sc_law_draws.nd rfl (Or.inl rfl))) (fun _ _ _ _ _ => pts_nil) (fun _ _ _ _ _ => (pe_callTy call_int1 (by rfl) T.z_int (by decide +kernel) (pa_cons (pv 3) pa_nil))))
    (C8.pss_cut (ps_if (pt_cmpR op_eq (pe_callB call_len_seq (by rfl) T.z_len PySem.boot_len (pa_cons (pv 2) pa_nil)) pe_int (nomark _))
    (pss_one (ps_expr (pe_bm PySem.F.plainAttrs_list PySem.F.slot_list_append PySem.F.type_list_append mt_append (pv 2) (pa_cons pe_int pa_nil))))
    pss_nil)
    (pss_cons (ps_set (i := 4) sc_law_draws.nd rfl (Or.inl rfl) (pe_callTy call_list_of (by rfl) T.z_list (by decide +kernel) (pa_cons (pv 2) pa_nil)))
    (pss_cons (ps_set (i := 5) sc_law_draws.nd rfl (Or.inl rfl) (pe_lst pa_nil))
    (pss_cons (ps_for  PassesOwn.never rfl (pi_range1 (by rfl) T.z_range (pa_cons (pv 1) pa_nil)) (pg_name (i := 6) sc_law_draws.nd rfl (Or.inl rfl))
    (pss_cons (ps_set (i := 7) sc_law_draws.nd rfl (Or.inl rfl) (pe_op op_mod (pv 6) (pe_callB call_len_seq (by rfl) T.z_len PySem.boot_len (pa_cons (pv 2) pa_nil))))
    (pss_one (ps_if (pt_cmpR op_ge (pe_ix ix_list (pv 2) (pv 7) (fun _ _ => rfl)) (pe_op op_pow pe_int pe_int) (nomark _))
    (pss_cons (ps_expr (pe_bm PySem.F.plainAttrs_list PySem.F.slot_list_append PySem.F.type_list_append mt_append (pv 5) (pa_cons (pe_op op_mod (pe_callTy call_int1 (by rfl) T.z_int (by decide +kernel) (pa_cons (pe_ix ix_list (pv 4) (pv 7) (fun _ _ => rfl)) pa_nil)) pe_int) pa_nil)))
    (pss_one (ps_asg (pe_op op_fdiv (pe_ix ix_list (pv 4) (pv 7) (fun _ _ => rfl)) pe_int) (pg_sub (pv 4) (pv 7) set_list))))
    (pss_cons (ps_set (i := 8) sc_law_draws.nd rfl (Or.inl rfl) (pe_op op_mod (pe_callTy call_int1 (by rfl) T.z_int (by decide +kernel) (pa_cons (pe_op op_add (pe_op op_add (pe_op op_mul (pe_ix ix_list (pv 2) (pv 7) (fun _ _ => rfl)) pe_int) (pe_op op_mul (pv 6) pe_int)) pe_int) pa_nil)) pe_int))
    (pss_one (ps_expr (pe_bm PySem.F.plainAttrs_list PySem.F.slot_list_append PySem.F.type_list_append mt_append (pv 5) (pa_cons (pe_op op_mod (pe_callTy call_int1 (by rfl) T.z_int (by decide +kernel) (pa_cons (pe_op op_add (pe_op op_add (pe_op op_mul (pv 8) (pv 8)) (pe_op op_mul pe_int (pv 8))) (pv 6)) pa_nil)) pe_int) pa_nil)))))))))
    (pss_cons (ps_expr (pe_bm0 PySem.F.plainAttrs_list PySem.F.slot_list_reverse PySem.F.type_list_reverse mt_reverse (pv 5)))
    (pss_one (ps_ret (pv 5))))))))), ?_⟩
  -- cells
  refine ⟨_, rfl, a, rfl, ⟨_, hS⟩, fun c hc => ?_⟩
  refine lc_list (K := K) (a := a) (xs := ns.map V.int) (fun (j : Nat) (H' : Hp) => Same H H' ∧ H' c = some (.lst ((ns.take j).map V.int))) ?_ ?_ ?_ ?_
  · exact ⟨same_new hc _, by rw [upd_same, List.take_zero]; rfl⟩
  · rintro i H' _ ⟨s1, _⟩
    exact s1.seq hS
  · rintro i x H' hx ⟨s1, e1⟩
    rw [List.getElem?_map] at hx
    cases hn : ns[i]? with
    | none => rw [hn] at hx; cases hx
    | some n =>
      rw [hn] at hx
      obtain rfl : V.int n = x := Option.some.inj hx
      refine ⟨rfl, yes_if ?_⟩
      refine ⟨_, rfl, .inl ⟨n, rfl, _, e1, ?_, same_put s1 hc, ?_⟩⟩
      · rw [List.length_map, List.length_take]
        exact small1000 (by omega)
      · rw [upd_same, List.take_add_one, hn, List.map_append]
        rfl
  · rintro H1 ⟨s1, e1⟩
    rw [List.length_map, List.take_length] at e1
    -- at least one cell
    refine ⟨fun σ H2 => ∃ cs : List Int, cs ≠ [] ∧ cs.length ≤ 63 ∧ σ = [some (.ref a), some (.int m), some (.ref c), none, none, none, none, none, none] ∧ Same H H2 ∧ H2 c = some (.lst (cs.map V.int)), ?_, ?_⟩
    · refine ⟨_, rfl, _, _, rfl, .inl (sqd e1), rfl, _, rfl, ?_⟩
      refine ite2 (fun z => ?_) (fun z => ?_)
      · refine ⟨_, rfl, .inl ⟨rfl, _, sqd e1⟩, c, _, _, rfl, rfl, e1, ?_, ?_⟩
        · rw [List.length_map]
          exact small1000 (by omega)
        · have hz := int_eq z
          rw [List.length_map] at hz
          have : ns = [] := List.length_eq_zero_iff.mp (by omega)
          subst this
          exact ⟨[0], by simp, by decide, rfl, same_put s1 hc, upd_same⟩
      · have hz := int_ne z
        rw [List.length_map] at hz
        refine ⟨ns, ?_, hl, rfl, s1, e1⟩
        rintro rfl
        exact hz rfl
    · rintro σ H2 ⟨cs, hcs, hcl, rfl, s2, e2⟩
      have hpos : 0 < cs.length := List.length_pos_iff.mpr hcs
      -- rest, draws
      refine ⟨_, rfl, _, _, rfl, .inl (sqd e2), fun r hr2 => ?_⟩
      have ncr : c ≠ r := ne_of_none e2 hr2
      refine ⟨(Nat.le_of_ble_eq_true rfl), fun d hd => ?_⟩
      have ncd : c ≠ d := ne_of_none (by rw [upd_ne ncr]; exact e2) hd
      have nrd : r ≠ d := ne_of_none upd_same hd
      have hHr : H r = none := s2.free hr2
      have hHd : H d = none := (s2.trans (same_new hr2 _)).free hd
      refine ⟨_, rfl, m, rfl, by omega, by omega, for_range (lo := 0) (n := m.toNat) (fun (j : Nat) (σ : L2.St) (H' : Hp) => ∃ (rs ds : List Int) (y1 y2 y3 : Option V), σ = [some (.ref a), some (.int m), some (.ref c), none, some (.ref r), some (.ref d), y1, y2, y3] ∧ Same H H' ∧ H' c = some (.lst (cs.map V.int)) ∧ H' r = some (.lst (rs.map V.int)) ∧ rs.length = cs.length ∧ H' d = some (.lst (ds.map V.int)) ∧ ds.length ≤ j) ?_ ?_ ?_⟩
      · refine ⟨cs, [], none, none, none, rfl, (s2.trans (same_new hr2 _)).trans (same_new hd _), ?_, ?_, rfl, upd_same, Nat.le_refl _⟩
        · rw [upd_ne ncd, upd_ne ncr]; exact e2
        · rw [upd_ne nrd]; exact upd_same
      · rintro j σ H' hj ⟨rs, ds, y1, y2, y3, rfl, s3, ec, er, hrl, ed, hdl⟩
        have b0 := Int.emod_nonneg ((0 : Int) + (j : Int)) (show (((cs.map V.int).length : Nat) : Int) ≠ 0 by rw [List.length_map]; omega)
        have b1 : (((0 : Int) + (j : Int)) % (((cs.map V.int).length : Nat) : Int)) < (cs.length : Int) := by
          have h := Int.emod_lt_of_pos ((0 : Int) + (j : Int)) (show 0 < (((cs.map V.int).length : Nat) : Int) by rw [List.length_map]; omega)
          rw [List.length_map] at h ⊢
          exact h
        refine ⟨_, rfl, _, rfl, _, _, rfl, .inl (sqd ec), _, _, rfl, rfl, (by show 0 < (((cs.map V.int).length : Nat) : Int); rw [List.length_map]; omega), ?_⟩
        obtain ⟨cv, hcv, _⟩ := atI_map (f := V.int) (xs := cs) b0 b1
        obtain ⟨rv, hrv, _⟩ := atI_map (f := V.int) (xs := rs) b0 (by omega)
        refine ⟨_, rfl, _, rfl, _, _, _, _, rfl, rfl, sqd ec, hcv, _, _, rfl, rfl, ⟨by decide, by decide, by decide⟩, _, _, rfl, rfl, _, rfl, ?_⟩
        refine ite2 (fun z => ?_) (fun z => ?_)
        · refine ⟨_, rfl, .inl ⟨rfl, _, sqd ed⟩, _, rfl, _, rfl, _, _, _, _, rfl, rfl, sqd er, hrv, .inl ⟨_, rfl, _, _, rfl, rfl, (by show (0 : Int) < 1000; decide), d, _, _, rfl, rfl, ed, ?_, ?_⟩⟩
          · rw [List.length_map]
            exact small1000 (by omega)
          · have er2 : ∀ o, (upd H' d o) r = some (.lst (rs.map V.int)) := fun o => by rw [upd_ne nrd]; exact er
            refine ⟨_, rfl, _, rfl, _, _, _, _, rfl, rfl, sqd (er2 _), hrv, _, _, rfl, rfl, ⟨by decide, by decide⟩, _, rfl, _, rfl, r, _, _, _, rfl, rfl, er2 _, ixN_in b0 (by have h : (rs.map V.int).length = rs.length := List.length_map _; omega), ?_⟩
            refine ⟨rs.set (((0 : Int) + (j : Int)) % (((cs.map V.int).length : Nat) : Int)).toNat (rv / 1000), ds ++ [rv % 1000], _, _, _, rfl, same_put (same_put s3 hHd) hHr, ?_, ?_, ?_, ?_, ?_⟩
            · rw [upd_ne ncr, upd_ne ncd]; exact ec
            · rw [upd_same, List.map_set]
            · rw [List.length_set]; exact hrl
            · rw [upd_ne nrd.symm, upd_same, List.map_append]; rfl
            · rw [List.length_append, List.length_singleton]; omega
        · have o0 := fun z : Int => Int.emod_nonneg z (by decide : (2147483647 : Int) ≠ 0)
          have o1 := fun z : Int => Int.emod_lt_of_pos z (by decide : (0 : Int) < 2147483647)
          refine ⟨_, rfl, _, rfl, _, _, _, _, rfl, rfl, sqd ec, hcv, _, _, rfl, rfl, .inr ⟨by decide, by decide⟩, _, rfl, _, _, rfl, rfl, .inr ⟨by decide, by decide⟩, _, _, rfl, rfl, _, _, rfl, rfl, .inl ⟨_, rfl, _, _, rfl, rfl, (by show (0 : Int) < 2147483647; decide), ?_⟩⟩
          refine ⟨_, rfl, .inl ⟨rfl, _, sqd ed⟩, _, rfl, _, rfl, _, _, rfl, rfl, ?_, ?_⟩
          · left
            have h1 := o0 (cv * 48271 + (0 + (j : Int)) * 69621 + 11)
            have h2 := o1 (cv * 48271 + (0 + (j : Int)) * 69621 + 11)
            constructor
            · show -(2 ^ 64) < _
              omega
            · show _ < 2 ^ 64
              omega
          · refine ⟨_, rfl, _, _, rfl, rfl, .inl ⟨by decide, by decide⟩, _, _, rfl, rfl, _, rfl, _, _, rfl, rfl, .inl ⟨_, rfl, _, _, rfl, rfl, (by show (0 : Int) < 1000003; decide), d, _, _, rfl, rfl, ed, ?_, ?_⟩⟩
            · rw [List.length_map]
              exact small1000 (by omega)
            · refine ⟨rs, ds ++ [(((cv * 48271 + (0 + (j : Int)) * 69621 + 11) % 2147483647) * ((cv * 48271 + (0 + (j : Int)) * 69621 + 11) % 2147483647) + 3 * ((cv * 48271 + (0 + (j : Int)) * 69621 + 11) % 2147483647) + (0 + (j : Int))) % 1000003], _, _, _, rfl, same_put s3 hHd, ?_, ?_, hrl, ?_, ?_⟩
              · rw [upd_ne ncd]; exact ec
              · rw [upd_ne nrd]; exact er
              · rw [upd_same, List.map_append]; rfl
              · rw [List.length_append, List.length_singleton]; omega
      · rintro σ H' ⟨rs, ds, y1, y2, y3, rfl, s3, ec, er, hrl, ed, hdl⟩
        refine ⟨_, rfl, .inl ⟨rfl, _, sqd ed⟩, d, _, rfl, rfl, ed, ?_⟩
        refine ⟨_, rfl, q d _ (same_put s3 hHd) hHd ⟨ds.reverse, ?_⟩⟩
        rw [upd_same, List.map_reverse]
end
end NL

namespace NL
open PySem PySem.Spec PyProof.Rows L2
/-! ### what stands in an item: its tuple -/
def It.kids : It → List It
  | .num _ => []
  | .name _ => []
  | .lit _ => []
  | .un _ a => [a]
  | .dm _ a _ => [a]
  | .bin _ a b => [a, b]
  | .tri a b c => [a, b, c]
  | .grp _ l => l
def It.word : It → Str
  | .num _ => "number"
  | .name _ => "name"
  | .lit b => bstr b
  | .un w _ => w
  | .dm w _ _ => w
  | .bin w _ _ => w
  | .tri _ _ _ => "if"
  | .grp w _ => w
/-- the items stand at the values, one by one -/
def Kids (H : Hp) (l : List It) (xs : List V) : Prop := xs.length = l.length ∧ ∀ (k : Nat) i x, l[k]? = some i → xs[k]? = some x → ItemIn H i x
theorem Kids.mono {H H' : Hp} (t : Tp H H') {l : List It} {xs : List V} (h : Kids H l xs) : Kids H' l xs := ⟨h.1, fun k i x a b => (h.2 k i x a b).mono t⟩
theorem kids1 {H : Hp} {i : It} {x : V} (h : ItemIn H i x) : Kids H [i] [x] := ⟨rfl, fun k j y a b => by
  cases k with
  | zero => cases Option.some.inj a; cases Option.some.inj b; exact h
  | succ k => simp at a⟩
theorem Kids.cons {H : Hp} {i : It} {x : V} {l : List It} {xs : List V} (h : ItemIn H i x) (g : Kids H l xs) : Kids H (i :: l) (x :: xs) := ⟨by rw [List.length_cons, List.length_cons, g.1], fun k j y a b => by
  cases k with
  | zero => cases Option.some.inj a; cases Option.some.inj b; exact h
  | succ k => exact g.2 k j y (by simpa using a) (by simpa using b)⟩
theorem kids0 {H : Hp} : Kids H [] [] := ⟨rfl, fun k j y a b => by simp at a⟩
theorem Kids.get {H : Hp} {l : List It} {xs : List V} (h : Kids H l xs) {k : Nat} {x : V} (e : xs[k]? = some x) : ∃ i, l[k]? = some i ∧ ItemIn H i x ∧ i ∈ l := by
  have hk : k < xs.length := (List.getElem?_eq_some_iff.mp e).1
  rw [h.1] at hk
  exact ⟨l[k], List.getElem?_eq_getElem hk, h.2 k _ x (List.getElem?_eq_getElem hk) e, List.getElem_mem hk⟩
/-- an item's first part is its word -/
theorem ItemIn.head {H : Hp} {i : It} {a : Addr} (h : ItemIn H i (.ref a)) : ∃ r, H a = some (.tup (.str i.word :: r)) := by
  cases h <;> exact ⟨_, by assumption⟩
/-- the conditions' words are not the expressions' -/
def tests : List Str := ["true", "false", "less", "equal", "not", "all", "any"]
def wl (x : Str) (ys : List Str) : Bool := decide (x ∈ ys)
theorem word_test {xs : List Str} {B : Nat} {b : Bool} {i : It} (h : Okx xs B b i) : wl i.word tests = b := by
  cases h with
  | num _ => simp only [It.word]; decide +kernel
  | name _ => simp only [It.word]; decide +kernel
  | lit => rename_i b; cases b <;> (simp only [It.word]; decide +kernel)
  | abs _ => simp only [It.word]; decide +kernel
  | not _ => simp only [It.word]; decide +kernel
  | dm hw _ _ _ =>
    simp only [List.mem_cons, List.not_mem_nil, or_false] at hw
    rcases hw with rfl | rfl <;> (simp only [It.word]; decide +kernel)
  | bin hw _ _ =>
    simp only [List.mem_cons, List.not_mem_nil, or_false] at hw
    rcases hw with rfl | rfl | rfl | rfl | rfl <;> (simp only [It.word]; decide +kernel)
  | cmp hw _ _ =>
    simp only [List.mem_cons, List.not_mem_nil, or_false] at hw
    rcases hw with rfl | rfl <;> (simp only [It.word]; decide +kernel)
  | tri _ _ _ => simp only [It.word]; decide +kernel
  | grp hw _ _ =>
    simp only [List.mem_cons, List.not_mem_nil, or_false] at hw
    rcases hw with rfl | rfl <;> (simp only [It.word]; decide +kernel)
/-- 0: a leaf, 1: all and any, 2: div and mod, 3: the others -/
def It.cls : It → Nat
  | .num _ => 0
  | .name _ => 0
  | .lit _ => 0
  | .grp _ _ => 1
  | .dm _ _ _ => 2
  | _ => 3
theorem word_cls {xs : List Str} {B : Nat} {b : Bool} {i : It} (h : Okx xs B b i) :
    wl i.word ["number", "name", "true", "false"] = (i.cls == 0) ∧ wl i.word ["number", "name"] = (i.cls == 0 && !b) ∧ wl i.word ["true", "false"] = (i.cls == 0 && b) ∧
    wl i.word ["all", "any"] = (i.cls == 1) ∧ wl i.word ["div", "mod"] = (i.cls == 2) := by
  cases h with
  | num _ => simp only [It.word, It.cls]; decide +kernel
  | name _ => simp only [It.word, It.cls]; decide +kernel
  | lit => rename_i b; cases b <;> (simp only [It.word, It.cls]; decide +kernel)
  | abs _ => simp only [It.word, It.cls]; decide +kernel
  | not _ => simp only [It.word, It.cls]; decide +kernel
  | dm hw _ _ _ =>
    simp only [List.mem_cons, List.not_mem_nil, or_false] at hw
    rcases hw with rfl | rfl <;> (simp only [It.word, It.cls]; decide +kernel)
  | bin hw _ _ =>
    simp only [List.mem_cons, List.not_mem_nil, or_false] at hw
    rcases hw with rfl | rfl | rfl | rfl | rfl <;> (simp only [It.word, It.cls]; decide +kernel)
  | cmp hw _ _ =>
    simp only [List.mem_cons, List.not_mem_nil, or_false] at hw
    rcases hw with rfl | rfl <;> (simp only [It.word, It.cls]; decide +kernel)
  | tri _ _ _ => simp only [It.word, It.cls]; decide +kernel
  | grp hw _ _ =>
    simp only [List.mem_cons, List.not_mem_nil, or_false] at hw
    rcases hw with rfl | rfl <;> (simp only [It.word, It.cls]; decide +kernel)
/-- x in [a, b, ..], (a, b, ..): texts, the answer known -/
theorem inT {x : Str} {ys : List Str} {zs : List V} {b : Bool} (hz : zs = ys.map V.str) (h : wl x ys = b) : (if false = true then !inV (V.str x) zs else inV (V.str x) zs) = b := by
  rw [if_neg Bool.false_ne_true, hz, inV_str]; exact h
theorem ifT {c : Bool} {A B : Prop} (h : c = true) (a : A) : if c = true then A else B := by
  rw [if_pos h]; exact a
theorem ifF {c : Bool} {A B : Prop} (h : c = false) (b : B) : if c = true then A else B := by
  rw [if_neg (by rw [h]; exact Bool.false_ne_true)]; exact b
theorem blE {Q : VK} {b b' : Bool} {H : Hp} (h : b = b') (q : Q (.bl b') H) : Q (.bl b) H := by rw [h]; exact q
theorem flatW (ys : List Str) (zs : List V) (hz : zs = ys.map V.str) : zs.all flatV = true := by rw [hz]; exact flat_strs' ys
theorem atI0 {α : Type} {x : α} {r : List α} : atI (x :: r) 0 = some x := atI_nat (j := 0) rfl
theorem atI1 {α : Type} {x y : α} {r : List α} : atI (x :: y :: r) 1 = some y := atI_nat (j := 1) rfl
theorem atI2 {α : Type} {x y z : α} {r : List α} : atI (x :: y :: z :: r) 2 = some z := atI_nat (j := 2) rfl
/-- behind the first -/
theorem cut_tail (x : V) (r : List V) : cutV (x :: r) (some 1) none = r := by
  unfold cutV
  rw [show HT.sIx (x :: r).length 0 (some 1) = min 1 (x :: r).length from HT.sIx_nat (x :: r).length 0 1, HT.sIx_none]
  rw [show min 1 (x :: r).length = 1 by rw [List.length_cons]; omega]
  show List.take ((x :: r).length - 1) r = r
  rw [List.length_cons, Nat.add_sub_cancel]
  exact List.take_length
theorem not_whole (x : V) (r : List V) (hi : Option Int) : ¬ (HT.sIx (x :: r).length 0 (some 1) = 0 ∧ HT.sIx (x :: r).length (x :: r).length hi = (x :: r).length) := by
  rintro ⟨h, _⟩
  rw [show HT.sIx (x :: r).length 0 (some 1) = min 1 (x :: r).length from HT.sIx_nat (x :: r).length 0 1, List.length_cons] at h
  omega
/-- the parts of an item that is no leaf, no group and no div: behind its word -/
theorem ItemIn.rest {H : Hp} {i : It} {a : Addr} (h : ItemIn H i (.ref a)) (h3 : i.cls = 3) : ∃ r, H a = some (.tup (.str i.word :: r)) ∧ Kids H i.kids r := by
  cases h with
  | num _ => cases h3
  | name _ => cases h3
  | lit _ => cases h3
  | un e g => exact ⟨_, e, kids1 g⟩
  | dm _ _ => cases h3
  | bin e g k => exact ⟨_, e, .cons g (kids1 k)⟩
  | tri e g k l => exact ⟨_, e, .cons g (.cons k (kids1 l))⟩
  | grp _ _ _ _ => cases h3
theorem ItemIn.group {H : Hp} {i : It} {a : Addr} (h : ItemIn H i (.ref a)) (h3 : i.cls = 1) : ∃ b xs, H a = some (.tup [.str i.word, .ref b]) ∧ H b = some (.tup xs) ∧ Kids H i.kids xs := by
  cases h with
  | grp e f g k => exact ⟨_, _, e, f, g, k⟩
  | num _ => cases h3
  | name _ => cases h3
  | lit _ => cases h3
  | un e g => cases h3
  | dm _ _ => cases h3
  | bin e g k => cases h3
  | tri e g k l => cases h3
theorem ItemIn.divs {H : Hp} {i : It} {a : Addr} (h : ItemIn H i (.ref a)) (h3 : i.cls = 2) : ∃ x j n, H a = some (.tup [.str i.word, x, .int n]) ∧ ItemIn H j x ∧ i = .dm i.word j n := by
  cases h with
  | dm e g => exact ⟨_, _, _, e, g, rfl⟩
  | grp e f g k => cases h3
  | num _ => cases h3
  | name _ => cases h3
  | lit _ => cases h3
  | un e g => cases h3
  | bin e g k => cases h3
  | tri e g k l => cases h3
theorem cls_le (i : It) : i.cls = 0 ∨ i.cls = 1 ∨ i.cls = 2 ∨ i.cls = 3 := by cases i <;> simp [It.cls]
theorem kids_leaf {i : It} (h : i.cls = 0) : i.kids = [] := by cases i <;> first | rfl | cases h
theorem Kids.snoc {H : Hp} {l : List It} {vs : List V} {i : It} {v : V} (h : Kids H l vs) (hi : ItemIn H i v) : Kids H (l ++ [i]) (vs ++ [v]) := by
  obtain ⟨hl, hin⟩ := h
  refine ⟨by rw [List.length_append, List.length_append, hl] <;> rfl, fun k j x h1 h2 => ?_⟩
  by_cases hk : k < l.length
  · rw [List.getElem?_append_left (by omega)] at h1 h2
    exact hin k j x h1 h2
  · have hk3 : k = l.length := by
      have := (List.getElem?_eq_some_iff.mp h1).1
      rw [List.length_append, List.length_singleton] at this
      omega
    subst hk3
    rw [List.getElem?_append_right (by omega), Nat.sub_self] at h1
    rw [List.getElem?_append_right (by omega), hl, Nat.sub_self] at h2
    obtain rfl : i = j := Option.some.inj h1
    obtain rfl : v = x := Option.some.inj h2
    exact hi
theorem tp_put {H : Hp} {p : Addr} {xs : List V} {o : HO} (e : H p = some (.lst xs)) : Tp H (upd H p o) := fun a ys ea => by
  rw [upd_ne]
  · exact ea
  · rintro rfl
    rw [e] at ea; cases ea
theorem Kids.ok {H : Hp} {l : List It} {vs : List V} (h : Kids H l vs) {w : Str} {a b : Addr} (ha : H a = some (.tup [.str w, .ref b])) (hb : H b = some (.tup vs)) : ItemIn H (.grp w l) (.ref a) := .grp ha hb h.1 h.2
/-- a change at what was not there before keeps what is drawn -/
theorem Go.put2 {d p : Addr} {H H' : Hp} {o : HO} (g : Go d H H') (hp : H p = none) (n : p ≠ d) : Go d H (upd H' p o) := ⟨fun b u hb e => by
  rw [upd_ne (ne_of_none e hp)]
  exact g.fr b u hb e, by
  obtain ⟨ns, e⟩ := g.dr
  exact ⟨ns, by rw [upd_ne n.symm]; exact e⟩⟩
section
variable {P : Program} {w : World} {K : PySem.W.Frag} {mg : Str → Option Value} {base : Heap}
/-! ### _law_is_test -/
def spIsTest : Sp := fun vs H Q _ => ∃ (v : V) (i : It) (xs : List Str) (B : Nat) (b : Bool), vs = [v] ∧ ItemIn H i v ∧ Okx xs B b i ∧ ∀ H', Same H H' → Q (.bl b) H'
theorem ok_law_is_test (T : Txt K mg) : FnOk P w K mg base CX0 1 T.a_law_is_test T.d_law_is_test P_law_is_test spIsTest := by
  refine T.F_law_is_test.ok sc_law_is_test (fun vs H Q E h => ?_) (fun cdv A outer s H vs Q E hr h => ?_)
  · obtain ⟨v, i, xs, B, b, rfl, _⟩ := h
    rfl
  obtain ⟨v, i, xs, B, b, rfl, hi, ho, q⟩ := h
  obtain ⟨a, rfl⟩ := hi.ref
  obtain ⟨r, ha⟩ := hi.head
  refine ⟨_, (pss_one (ps_ret (pe_cmpR op_in_seq (pe_ix ix_tup (pv 0) pe_int (fun _ _ => rfl)) (pe_lst (pa_cons pe_str (pa_cons pe_str (pa_cons pe_str (pa_cons pe_str (pa_cons pe_str (pa_cons pe_str (pa_cons pe_str pa_nil)))))))) (by rfl)))), ?_⟩
  refine ⟨_, rfl, a, _, 0, _, rfl, rfl, sqt ha, atI0, (Nat.le_of_ble_eq_true rfl), fun p hp => ?_⟩
  refine ⟨p, _, rfl, .inl (sqd upd_same), rfl, by decide +kernel, ?_⟩
  exact blE (inT (ys := tests) rfl (word_test ho)) (q _ (same_new hp _))
/-! ### _law_inner: the parts as a new list -/
def spInner : Sp := fun vs H Q _ => ∃ (v : V) (i : It) (xs : List Str) (B : Nat) (b : Bool), vs = [v] ∧ ItemIn H i v ∧ Okx xs B b i ∧ ∀ p ys H', Same H H' → H p = none → H' p = some (.lst ys) → Kids H' i.kids ys → Q (.ref p) H'
theorem ok_law_inner (T : Txt K mg) : FnOk P w K mg base CX0 1 T.a_law_inner T.d_law_inner P_law_inner spInner := by
  refine T.F_law_inner.ok sc_law_inner (fun vs H Q E h => ?_) (fun cdv A outer s H vs Q E hr h => ?_)
  · obtain ⟨v, i, xs, B, b, rfl, _⟩ := h
    rfl
  obtain ⟨v, i, xs, B, b, rfl, hi, ho, q⟩ := h
  obtain ⟨a, rfl⟩ := hi.ref
  obtain ⟨r, ha⟩ := hi.head
  obtain ⟨c0, _, _, c1, c2⟩ := word_cls ho
  refine ⟨_, (pss_cons (ps_if (pt_cmpR op_in_seq (pe_ix ix_tup (pv 0) pe_int (fun _ _ => rfl)) (pe_lst (pa_cons pe_str (pa_cons pe_str (pa_cons pe_str (pa_cons pe_str pa_nil))))) (by rfl))
    (pss_one (ps_ret (pe_lst pa_nil)))
    pss_nil)
    (pss_cons (ps_if (pt_cmpR op_in_seq (pe_ix ix_tup (pv 0) pe_int (fun _ _ => rfl)) (pe_lst (pa_cons pe_str (pa_cons pe_str pa_nil))) (by rfl))
    (pss_one (ps_ret (pe_callTy call_list_of (by rfl) T.z_list (by decide +kernel) (pa_cons (pe_ix ix_tup (pv 0) pe_int (fun _ _ => rfl)) pa_nil))))
    pss_nil)
    (pss_cons (ps_if (pt_cmpR op_in_seq (pe_ix ix_tup (pv 0) pe_int (fun _ _ => rfl)) (pe_lst (pa_cons pe_str (pa_cons pe_str pa_nil))) (by rfl))
    (pss_one (ps_ret (pe_lst (pa_cons (pe_ix ix_tup (pv 0) pe_int (fun _ _ => rfl)) pa_nil))))
    pss_nil)
    (pss_one (ps_ret (pe_callTy call_list_of (by rfl) T.z_list (by decide +kernel) (pa_cons (pe_slice sl_tup (pv 0) (po_some pe_int) po_none) pa_nil))))))), ?_⟩
  refine ⟨_, rfl, a, _, 0, _, rfl, rfl, sqt ha, atI0, (Nat.le_of_ble_eq_true rfl), fun p1 hp1 => ?_⟩
  have s1 := fun o => same_new hp1 o
  refine ⟨p1, _, rfl, .inl (sqd upd_same), rfl, (by decide +kernel), _, rfl, ?_⟩
  rcases cls_le i with h0 | h1 | h2 | h3
  · refine ifT (inT (ys := ["number", "name", "true", "false"]) rfl (by rw [c0, h0] <;> rfl)) ?_
    refine ⟨(Nat.le_of_ble_eq_true rfl), fun p hp => ?_⟩
    refine q p [] _ ((s1 _).trans (same_new hp _)) ((s1 _).free hp) upd_same ?_
    rw [kids_leaf h0]
    exact kids0
  · refine ifF (inT (ys := ["number", "name", "true", "false"]) rfl (by rw [c0, h1] <;> rfl)) ?_
    obtain ⟨b2, ys, e1, e2, hk⟩ := hi.group h1
    refine ⟨_, rfl, a, _, 0, _, rfl, rfl, sqt (s1 _ _ _ e1), atI0, (Nat.le_of_ble_eq_true rfl), fun p2 hp2 => ?_⟩
    have s2 := fun o => (s1 _).trans (same_new hp2 o)
    refine ⟨p2, _, rfl, .inl (sqd upd_same), rfl, (by decide +kernel), _, rfl, ?_⟩
    refine ifT (inT (ys := ["all", "any"]) rfl (by rw [c1, h1] <;> rfl)) ?_
    refine ⟨_, rfl, a, _, 1, _, rfl, rfl, sqt (s2 _ _ _ e1), atI1, _, _, rfl, .inr (sqt (s2 _ _ _ e2)), fun p hp => ?_⟩
    exact q p ys _ ((s2 _).trans (same_new hp _)) ((s2 _).free hp) upd_same (hk.mono (Tp.same ((s2 _).trans (same_new hp _))))
  · refine ifF (inT (ys := ["number", "name", "true", "false"]) rfl (by rw [c0, h2] <;> rfl)) ?_
    obtain ⟨x, j, n, e1, hj, ej⟩ := hi.divs h2
    refine ⟨_, rfl, a, _, 0, _, rfl, rfl, sqt (s1 _ _ _ e1), atI0, (Nat.le_of_ble_eq_true rfl), fun p2 hp2 => ?_⟩
    have s2 := fun o => (s1 _).trans (same_new hp2 o)
    refine ⟨p2, _, rfl, .inl (sqd upd_same), rfl, (by decide +kernel), _, rfl, ?_⟩
    refine ifF (inT (ys := ["all", "any"]) rfl (by rw [c1, h2] <;> rfl)) ?_
    refine ⟨_, rfl, a, _, 0, _, rfl, rfl, sqt (s2 _ _ _ e1), atI0, (Nat.le_of_ble_eq_true rfl), fun p3 hp3 => ?_⟩
    have s3 := fun o => (s2 _).trans (same_new hp3 o)
    refine ⟨p3, _, rfl, .inl (sqd upd_same), rfl, (by decide +kernel), _, rfl, ?_⟩
    refine ifT (inT (ys := ["div", "mod"]) rfl (by rw [c2, h2] <;> rfl)) ?_
    refine ⟨_, rfl, a, _, 1, _, rfl, rfl, sqt (s3 _ _ _ e1), atI1, (Nat.le_of_ble_eq_true rfl), fun p hp => ?_⟩
    refine q p [x] _ ((s3 _).trans (same_new hp _)) ((s3 _).free hp) upd_same ?_
    rw [ej]
    exact kids1 (hj.mono (Tp.same ((s3 _).trans (same_new hp _))))
  · refine ifF (inT (ys := ["number", "name", "true", "false"]) rfl (by rw [c0, h3] <;> rfl)) ?_
    obtain ⟨ys, e1, hk⟩ := hi.rest h3
    refine ⟨_, rfl, a, _, 0, _, rfl, rfl, sqt (s1 _ _ _ e1), atI0, (Nat.le_of_ble_eq_true rfl), fun p2 hp2 => ?_⟩
    have s2 := fun o => (s1 _).trans (same_new hp2 o)
    refine ⟨p2, _, rfl, .inl (sqd upd_same), rfl, (by decide +kernel), _, rfl, ?_⟩
    refine ifF (inT (ys := ["all", "any"]) rfl (by rw [c1, h3] <;> rfl)) ?_
    refine ⟨_, rfl, a, _, 0, _, rfl, rfl, sqt (s2 _ _ _ e1), atI0, (Nat.le_of_ble_eq_true rfl), fun p3 hp3 => ?_⟩
    have s3 := fun o => (s2 _).trans (same_new hp3 o)
    refine ⟨p3, _, rfl, .inl (sqd upd_same), rfl, (by decide +kernel), _, rfl, ?_⟩
    refine ifF (inT (ys := ["div", "mod"]) rfl (by rw [c2, h3] <;> rfl)) ?_
    refine ⟨_, rfl, 1, rfl, a, _, rfl, sqt (s3 _ _ _ e1), not_whole _ _ _, fun p4 hp4 => ?_⟩
    have s4 := fun o => (s3 _).trans (same_new hp4 o)
    rw [cut_tail]
    refine ⟨_, _, rfl, .inr (sqt upd_same), fun p hp => ?_⟩
    exact q p ys _ ((s4 _).trans (same_new hp _)) ((s4 _).free hp) upd_same (hk.mono (Tp.same ((s4 _).trans (same_new hp _))))
end
end NL

namespace NL
open PySem PySem.Spec PyProof.Rows L2
/-! ### how large values can be: a number for each leaf that goes into a product -/
mutual
def It.mx : It → Nat
  | .num _ => 1
  | .name _ => 1
  | .lit _ => 1
  | .un _ a => a.mx
  | .dm _ a _ => a.mx
  | .bin _ a b => a.mx + b.mx
  | .tri a b c => max a.mx (max b.mx c.mx)
  | .grp _ l => mxL l
def mxL : List It → Nat
  | [] => 0
  | a :: r => max a.mx (mxL r)
end
theorem two_mono {a b : Nat} (h : a ≤ b) : 2 ^ a ≤ 2 ^ b := Nat.pow_le_pow_right (by decide) h
mutual
theorem mx_dep : ∀ i : It, 2 * i.mx ≤ 2 ^ i.dep
  | .num _ => by rw [It.mx, It.dep]; decide
  | .name _ => by rw [It.mx, It.dep]; decide
  | .lit _ => by rw [It.mx, It.dep]; decide
  | .un _ a => by
    rw [It.mx, It.dep, Nat.pow_add]
    have := mx_dep a
    omega
  | .dm _ a _ => by
    rw [It.mx, It.dep, Nat.pow_add]
    have := mx_dep a
    omega
  | .bin _ a b => by
    rw [It.mx, It.dep, Nat.pow_add]
    have h1 := mx_dep a
    have h2 := mx_dep b
    have h3 := two_mono (Nat.le_max_left a.dep b.dep)
    have h4 := two_mono (Nat.le_max_right a.dep b.dep)
    omega
  | .tri a b c => by
    rw [It.mx, It.dep, Nat.pow_add]
    have h1 := mx_dep a
    have h2 := mx_dep b
    have h5 := mx_dep c
    have h3 := two_mono (Nat.le_max_left a.dep (max b.dep c.dep))
    have h4 := two_mono (Nat.le_trans (Nat.le_max_left b.dep c.dep) (Nat.le_max_right a.dep (max b.dep c.dep)))
    have h6 := two_mono (Nat.le_trans (Nat.le_max_right b.dep c.dep) (Nat.le_max_right a.dep (max b.dep c.dep)))
    omega
  | .grp _ l => by
    rw [It.mx, It.dep, Nat.pow_add]
    have := mxL_dep l
    omega
theorem mxL_dep : ∀ l : List It, mxL l ≤ 2 ^ depL l
  | [] => Nat.zero_le _
  | a :: r => by
    rw [mxL, depL]
    have h1 := mx_dep a
    have h2 := mxL_dep r
    have h3 := two_mono (Nat.le_max_left a.dep (depL r))
    have h4 := two_mono (Nat.le_max_right a.dep (depL r))
    omega
end
theorem mxL_in {j : It} : ∀ {l : List It}, j ∈ l → j.mx ≤ mxL l
  | a :: r, h => by
    rw [mxL]
    rcases List.mem_cons.mp h with e | e
    · rw [e]; omega
    · have := mxL_in e
      omega
theorem mx_kid {i j : It} (h : j ∈ i.kids) : j.mx ≤ i.mx := by
  cases i with
  | num _ => cases h
  | name _ => cases h
  | lit _ => cases h
  | un _ a => rw [It.mx, List.mem_singleton.mp h]; exact Nat.le_refl _
  | dm _ a _ => rw [It.mx, List.mem_singleton.mp h]; exact Nat.le_refl _
  | bin _ a b =>
    rw [It.mx]
    simp only [It.kids, List.mem_cons, List.not_mem_nil, or_false] at h
    rcases h with e | e <;> rw [e] <;> omega
  | tri a b c =>
    rw [It.mx]
    simp only [It.kids, List.mem_cons, List.not_mem_nil, or_false] at h
    rcases h with e | e | e <;> rw [e] <;> omega
  | grp _ l => rw [It.mx]; exact mxL_in h
theorem leaf_mx {xs : List Str} {B : Nat} {i : It} (h : Okx xs B false i) (hd : i.dep = 1) : i.mx = 1 := by
  cases h with
  | num _ => rw [It.mx]
  | name _ => rw [It.mx]
  | abs _ => rename_i a _; rw [It.dep] at hd; have := dep_pos a; omega
  | dm _ _ _ _ => rename_i a _ _ _ _ _; rw [It.dep] at hd; have := dep_pos a; omega
  | bin _ _ _ => rename_i a b _ _ _; rw [It.dep] at hd; have := dep_pos a; omega
  | tri _ _ _ => rename_i a b c _ _ _; rw [It.dep] at hd; have := dep_pos a; omega
/-! ### values and truths -/
def opv (w : Str) (x y : Int) : Int := if w = "add" then x + y else if w = "sub" then x - y else if w = "mul" then x * y else if w = "min" then (if y < x then y else x) else (if y > x then y else x)
mutual
def It.ev (ρ : Str → Int) : It → Int
  | .num n => n
  | .name x => ρ x
  | .lit _ => 0
  | .un _ a => if a.ev ρ < 0 then -(a.ev ρ) else a.ev ρ
  | .dm w a n => if w = "div" then a.ev ρ / n else a.ev ρ % n
  | .bin w a b => opv w (a.ev ρ) (b.ev ρ)
  | .tri c a b => if c.tr ρ = true then a.ev ρ else b.ev ρ
  | .grp _ _ => 0
def It.tr (ρ : Str → Int) : It → Bool
  | .num _ => false
  | .name _ => false
  | .lit b => b
  | .un _ a => !(a.tr ρ)
  | .dm _ _ _ => false
  | .bin w a b => if w = "less" then decide (a.ev ρ < b.ev ρ) else decide (a.ev ρ = b.ev ρ)
  | .tri _ _ _ => false
  | .grp w l => if w = "all" then (trL ρ l).all id else (trL ρ l).any id
def trL (ρ : Str → Int) : List It → List Bool
  | [] => []
  | a :: r => a.tr ρ :: trL ρ r
end
theorem trL_map (ρ : Str → Int) : ∀ l : List It, trL ρ l = l.map (It.tr ρ)
  | [] => by rw [trL]; rfl
  | a :: r => by rw [trL, trL_map ρ r]; rfl
structure Bs (xs : List Str) (B k : Nat) (ρ : Str → Int) : Prop where
  num : ∀ n : Int, n.natAbs ≤ B + 1 → Builtin.Int.intBits n ≤ k
  env : ∀ x ∈ xs, Builtin.Int.intBits (ρ x) ≤ k
  pos : 1 ≤ k
theorem opv_bits {w : Str} {x y : Int} {m n : Nat} (hx : Builtin.Int.intBits x ≤ m) (hy : Builtin.Int.intBits y ≤ n) (hm : 1 ≤ m) (hn : 1 ≤ n) : Builtin.Int.intBits (opv w x y) ≤ m + n := by
  unfold opv
  split
  · have := intBits_add_le hx hy; omega
  · split
    · have := intBits_sub_le hx hy; omega
    · split
      · exact intBits_mul_le hx hy
      · split
        · have := intBits_ite_le (c := y < x) hy hx; omega
        · have := intBits_ite_le (c := y > x) hy hx; omega
theorem ev_bits {xs : List Str} {B k : Nat} {ρ : Str → Int} (hB : Bs xs B k ρ) {b : Bool} {i : It} (h : Okx xs B b i) : b = false → Builtin.Int.intBits (i.ev ρ) ≤ k * i.mx ∧ 1 ≤ i.mx := by
  have hk := hB.pos
  induction h with
  | num h => intro _; rw [It.ev, It.mx, Nat.mul_one]; exact ⟨hB.num _ (by omega), Nat.le_refl 1⟩
  | name h => intro _; rw [It.ev, It.mx, Nat.mul_one]; exact ⟨hB.env _ h, Nat.le_refl 1⟩
  | lit => intro e; cases e
  | abs h ih =>
    rename_i a
    intro _
    obtain ⟨h1, h2⟩ := ih rfl
    rw [It.ev, It.mx]
    refine ⟨?_, h2⟩
    have := intBits_ite_le (c := It.ev ρ a < 0) (intBits_neg_le h1) h1
    rw [Nat.max_self] at this
    exact this
  | not h ih => intro e; cases e
  | dm hw h h1 h2 ih =>
    rename_i w a n
    intro _
    obtain ⟨g1, g2⟩ := ih rfl
    rw [It.ev, It.mx]
    refine ⟨?_, g2⟩
    split
    · have := intBits_fdiv_le (y := n) g1
      rw [Int.fdiv_eq_ediv_of_nonneg _ (by omega)] at this
      exact this
    · have := bits_emod g1 (hB.num n h2)
      have h3 : k ≤ k * a.mx := Nat.le_mul_of_pos_right k g2
      show Builtin.Int.intBits _ ≤ _
      omega
  | bin hw h g ih jh =>
    rename_i w a b
    intro _
    obtain ⟨g1, g2⟩ := ih rfl
    obtain ⟨g3, g4⟩ := jh rfl
    rw [It.ev, It.mx, Nat.mul_add]
    exact ⟨opv_bits g1 g3 (Nat.mul_pos hk g2) (Nat.mul_pos hk g4), by omega⟩
  | cmp hw h g ih jh => intro e; cases e
  | tri h g l ih jh lh =>
    rename_i c a b
    intro _
    obtain ⟨g1, g2⟩ := jh rfl
    obtain ⟨g3, g4⟩ := lh rfl
    rw [It.ev, It.mx]
    refine ⟨?_, by omega⟩
    have m1 : k * a.mx ≤ k * max c.mx (max a.mx b.mx) := Nat.mul_le_mul_left k (by omega)
    have m2 : k * b.mx ≤ k * max c.mx (max a.mx b.mx) := Nat.mul_le_mul_left k (by omega)
    split
    · exact Nat.le_trans g1 m1
    · exact Nat.le_trans g3 m2
  | grp hw hl h ih => intro e; cases e
/-- the dict at a has these values -/
def EnvIn (H : Hp) (a : Addr) (ρ : Str → Int) (xs : List Str) : Prop := ∃ kvs : List (Key × V), H a = some (.dK kvs) ∧ ∀ x ∈ xs, valV kvs (Sum.inr x) = some (.int (ρ x))
theorem EnvIn.same {H H' : Hp} {a : Addr} {ρ : Str → Int} {xs : List Str} (h : EnvIn H a ρ xs) (s : Same H H') : EnvIn H' a ρ xs := by
  obtain ⟨kvs, e, g⟩ := h
  exact ⟨kvs, s _ _ e, g⟩
/-! ### dicts whose keys stand once, and whose values are ints -/
def Cn (B : Nat) (kvs : List (Key × V)) : Prop := ∀ p ∈ kvs, valV kvs p.1 = some p.2 ∧ ∃ n : Int, p.2 = .int n ∧ n.natAbs ≤ B
theorem Cn.put {B : Nat} {kvs : List (Key × V)} (h : Cn B kvs) (k : Key) {n : Int} (hn : n.natAbs ≤ B) : Cn B (putK kvs k (.int n)) := by
  intro p hp
  rw [valV_put]
  unfold putK at hp
  split at hp
  · obtain ⟨q, hq, rfl⟩ := List.mem_map.mp hp
    obtain ⟨h1, h2⟩ := h q hq
    by_cases e : q.1 = k
    · rw [if_pos e]
      exact ⟨if_pos e, n, rfl, hn⟩
    · rw [if_neg e]
      exact ⟨by rw [if_neg e]; exact h1, h2⟩
  · rename_i ha
    rcases List.mem_append.mp hp with hq | hq
    · obtain ⟨h1, h2⟩ := h p hq
      have e : ¬ p.1 = k := fun e => ha (List.any_eq_true.mpr ⟨p, hq, decide_eq_true e⟩)
      exact ⟨by rw [if_neg e]; exact h1, h2⟩
    · rw [List.mem_singleton.mp hq]
      exact ⟨if_pos rfl, n, rfl, hn⟩
theorem Cn.val {B : Nat} {kvs : List (Key × V)} (h : Cn B kvs) {k : Key} {v : V} (e : valV kvs k = some v) : ∃ n : Int, v = .int n ∧ n.natAbs ≤ B := by
  unfold valV at e
  cases hf : kvs.find? (fun kv => decide (kv.1 = k)) with
  | none => rw [hf] at e; cases e
  | some p =>
    rw [hf] at e
    obtain rfl : p.2 = v := Option.some.inj e
    exact (h p (List.mem_of_find?_eq_some hf)).2
end NL

namespace NL
open PySem PySem.Spec PyProof.Rows L2
/-! ### what an expression is worth, by a fact that stays -/
def EvP (te : TE) (σ : L2.St) (H : Hp) (P : V → Hp → Prop) : Prop := ∀ H1, Same H H1 → ∀ Q : VK, (∀ v H2, Same H1 H2 → P v H2 → Q v H2) → te σ H1 Q
def EvA (ta : TA) (σ : L2.St) (H : Hp) (P : List V → Hp → Prop) : Prop := ∀ H1, Same H H1 → ∀ Q : List V → Hp → Prop, (∀ vs H2, Same H1 H2 → P vs H2 → Q vs H2) → ta σ H1 Q
def Mo (P : V → Hp → Prop) : Prop := ∀ v H H', Same H H' → P v H → P v H'
def MoA (P : List V → Hp → Prop) : Prop := ∀ vs H H', Same H H' → P vs H → P vs H'
section
variable {σ : L2.St} {H : Hp} {P P' P1 : V → Hp → Prop} {Pr Pa : List V → Hp → Prop} {te : TE} {ta tr : TA} {v : V} {K : PySem.W.Frag}
theorem evp_imp (h : EvP te σ H P) (g : ∀ v H', Same H H' → P v H' → P' v H') : EvP te σ H P' := fun H1 s Q q => h H1 s Q fun v H2 s2 p => q v H2 s2 (g v H2 (s.trans s2) p)
theorem eva_imp {Pa' : List V → Hp → Prop} (h : EvA ta σ H Pa) (g : ∀ v H', Same H H' → Pa v H' → Pa' v H') : EvA ta σ H Pa' := fun H1 s Q q => h H1 s Q fun v H2 s2 p => q v H2 s2 (g v H2 (s.trans s2) p)
theorem evp_c : EvP (tC v) σ H (fun x _ => x = v) := fun H1 _ Q q => q v H1 (Same.refl H1) rfl
theorem evp_v {i : Nat} (h : σ[i]? = some (some v)) : EvP (tVar i) σ H (fun x _ => x = v) := fun H1 _ Q q => ⟨v, h, q v H1 (Same.refl H1) rfl⟩
theorem eva_nil : EvA tNil σ H (fun vs _ => vs = []) := fun H1 _ Q q => q [] H1 (Same.refl H1) rfl
theorem eva_cons (h : EvP te σ H P) (m : Mo P) (hr : EvA tr σ H Pr) : EvA (tCons te tr) σ H (fun vs H' => ∃ v r, vs = v :: r ∧ P v H' ∧ Pr r H') := fun H1 s Q q =>
  h H1 s _ fun v H2 s2 p => hr H2 (s.trans s2) _ fun r H3 s3 pr => q _ H3 (s2.trans s3) ⟨v, r, rfl, m _ _ _ s3 p, pr⟩
theorem evp_tup (h : EvA ta σ H Pa) (m : MoA Pa) (hl : ∀ vs H', Pa vs H' → vs.length ≤ 1000) : EvP (tTup ta) σ H (fun v H' => ∃ p xs, v = .ref p ∧ H' p = some (.tup xs) ∧ Pa xs H') := fun H1 s Q q =>
  h H1 s _ fun xs H2 s2 pa => ⟨Nat.le_of_lt (small1000 (hl _ _ pa)), fun p hp => q _ _ (s2.trans (same_new hp _)) ⟨p, xs, rfl, upd_same, m _ _ _ (same_new hp _) pa⟩⟩
/-- a tuple of constants and slots: its items -/
theorem evp_fix {xs : List V} (h : EvA ta σ H (fun vs _ => vs = xs)) (hl : xs.length ≤ 1000) : EvP (tTup ta) σ H (fun v H' => ∃ p, v = .ref p ∧ H' p = some (.tup xs)) :=
  evp_imp (evp_tup h (fun _ _ _ _ e => e) (fun vs _ e => by rw [e]; exact hl)) fun v H' _ ⟨p, ys, e, e2, e3⟩ => ⟨p, e, by rw [e2, e3]⟩
theorem eva_c {xs : List V} (hr : EvA tr σ H (fun vs _ => vs = xs)) : EvA (tCons (tC v) tr) σ H (fun vs _ => vs = v :: xs) := fun H1 s Q q => hr H1 s _ fun r H2 s2 e => q _ H2 s2 (by rw [e])
theorem eva_v {i : Nat} {xs : List V} (h : σ[i]? = some (some v)) (hr : EvA tr σ H (fun vs _ => vs = xs)) : EvA (tCons (tVar i) tr) σ H (fun vs _ => vs = v :: xs) := fun H1 s Q q => ⟨v, h, hr H1 s _ fun r H2 s2 e => q _ H2 s2 (by rw [e])⟩
/-- a list of items that are all of one kind -/
def All (n : Nat) (P : V → Hp → Prop) : List V → Hp → Prop := fun vs H => vs.length = n ∧ ∀ v ∈ vs, P v H
theorem all_mo {n : Nat} (m : Mo P) : MoA (All n P) := fun vs H H' s h => ⟨h.1, fun v hv => m v H H' s (h.2 v hv)⟩
theorem eva_all0 : EvA tNil σ H (All 0 P) := eva_imp eva_nil fun vs _ _ e => ⟨by rw [e] <;> rfl, fun v hv => by rw [e] at hv; cases hv⟩
theorem eva_all {n : Nat} (m : Mo P) (h : EvP te σ H P) (hr : EvA tr σ H (All n P)) : EvA (tCons te tr) σ H (All (n + 1) P) := eva_imp (eva_cons h m hr) fun vs H' _ ⟨v, r, e, p, pr⟩ => ⟨by rw [e, List.length_cons, pr.1], fun x hx => by
  rw [e] at hx
  rcases List.mem_cons.mp hx with h | h
  · rw [h]; exact p
  · exact pr.2 x h⟩
theorem evp_lst (h : EvA ta σ H Pa) (m : MoA Pa) (hl : ∀ vs H', Pa vs H' → vs.length ≤ 1000) : EvP (tLst ta) σ H (fun v H' => ∃ p xs, v = .ref p ∧ H' p = some (.lst xs) ∧ Pa xs H' ∧ H p = none) := fun H1 s Q q =>
  h H1 s _ fun xs H2 s2 pa => ⟨Nat.le_of_lt (small1000 (hl _ _ pa)), fun p hp => q _ _ (s2.trans (same_new hp _)) ⟨p, xs, rfl, upd_same, m _ _ _ (same_new hp _) pa, (s.trans s2).free hp⟩⟩
/-- (w,) + both -/
theorem evp_wcat {w : V} {i : Nat} {b : Addr} {xs : List V} (hb : H b = some (.tup xs)) (hx : xs ≠ []) (hl : xs.length ≤ 900) (hi : σ[i]? = some (some (.ref b))) :
    EvP (tOp (rCatA K) (tTup (tCons (tC w) tNil)) (tVar i)) σ H (fun v H' => ∃ p, v = .ref p ∧ H' p = some (.tup (w :: xs))) := fun H1 s Q q => by
  refine ⟨(Nat.le_of_ble_eq_true rfl), fun p hp => ⟨_, hi, p, b, _, _, rfl, rfl, sqt upd_same, sqt (same_new hp _ _ _ (s _ _ hb)), ?_, (fun h => by cases h), fun _ h => absurd h hx, fun _ _ p2 hp2 => ?_⟩⟩
  · rw [List.length_singleton]
    exact Nat.le_of_lt (small1000 (by omega))
  · exact q _ _ ((same_new hp _).trans (same_new hp2 _)) ⟨p2, rfl, upd_same⟩
end
theorem valE {Q : VK} {a b : Int} {H : Hp} (h : a = b) (q : Q (.int b) H) : Q (.int a) H := by rw [h]; exact q
/-! ### items one level deeper -/
def ItP (xs : List Str) (B D S : Nat) : V → Hp → Prop := fun v H => ∃ (i : It) (b : Bool), ItemIn H i v ∧ Okx xs B b i ∧ i.dep = D ∧ i.mx ≤ S
theorem itp_mo {xs : List Str} {B D S : Nat} : Mo (ItP xs B D S) := fun v H H' s ⟨i, b, h, r⟩ => ⟨i, b, h.mono (Tp.same s), r⟩
section
variable {P : Program} {w : World} {K : PySem.W.Frag} {mg : Str → Option Value} {base : Heap}
/-! ### _law_depth -/
def spDepth (n : Nat) : Sp := fun vs H Q _ => ∃ (v : V) (i : It) (xs : List Str) (B : Nat) (b : Bool), vs = [v] ∧ ItemIn H i v ∧ Okx xs B b i ∧ i.dep ≤ n ∧ ∀ H', Same H H' → Q (.int i.dep) H'
theorem kids_dep {i : It} : i.dep = 1 + depL i.kids := by
  cases i <;> simp only [It.dep, It.kids, depL] <;> omega
theorem kids_ok {xs : List Str} {B : Nat} {b : Bool} {i : It} (h : Okx xs B b i) : ∀ j ∈ i.kids, ∃ b', Okx xs B b' j := by
  intro j hj
  cases h <;> simp only [It.kids, List.mem_cons, List.not_mem_nil, or_false] at hj
  case abs h => rw [hj]; exact ⟨_, h⟩
  case not h => rw [hj]; exact ⟨_, h⟩
  case dm h _ _ => rw [hj]; exact ⟨_, h⟩
  case bin h g =>
    rcases hj with e | e <;> rw [e]
    · exact ⟨_, h⟩
    · exact ⟨_, g⟩
  case cmp h g =>
    rcases hj with e | e <;> rw [e]
    · exact ⟨_, h⟩
    · exact ⟨_, g⟩
  case tri h g k =>
    rcases hj with e | e | e <;> rw [e]
    · exact ⟨_, h⟩
    · exact ⟨_, g⟩
    · exact ⟨_, k⟩
  case grp h => exact ⟨_, h j hj⟩
theorem kids_len {xs : List Str} {B : Nat} {b : Bool} {i : It} (h : Okx xs B b i) : i.kids.length ≤ 100 := by
  cases h <;> simp only [It.kids, List.length_cons, List.length_nil] <;> omega
theorem depL_in {l : List It} {i : It} (h : i ∈ l) : i.dep ≤ depL l := by
  induction l with
  | nil => cases h
  | cons a r ih =>
    rw [depL]
    rcases List.mem_cons.mp h with e | e
    · rw [e]; omega
    · have := ih e
      omega
theorem depL_max : ∀ l : List It, (∀ y ∈ (0 :: l.map fun i => (i.dep : Int)), y ≤ (depL l : Int)) ∧ (depL l : Int) ∈ (0 :: l.map fun i => (i.dep : Int))
  | [] => by
    rw [depL]
    refine ⟨fun y hy => ?_, List.mem_cons_self⟩
    rcases List.mem_cons.mp hy with h | h
    · rw [h]; exact Int.le_refl 0
    · cases h
  | a :: r => by
    obtain ⟨h1, h2⟩ := depL_max r
    rw [depL]
    refine ⟨fun y hy => ?_, ?_⟩
    · rw [List.map_cons] at hy
      rcases List.mem_cons.mp hy with h | h
      · omega
      · rcases List.mem_cons.mp h with h | h
        · omega
        · have := h1 y (List.mem_cons_of_mem _ h)
          omega
    · rw [List.map_cons]
      rcases Nat.le_total a.dep (depL r) with h | h
      · rw [Nat.max_eq_right h]
        rcases List.mem_cons.mp h2 with g | g
        · rw [g]; exact List.mem_cons_self
        · exact List.mem_cons_of_mem _ (List.mem_cons_of_mem _ g)
      · rw [Nat.max_eq_left h]
        exact List.mem_cons_of_mem _ List.mem_cons_self
theorem ok_law_depth (T : Txt K mg) : ∀ n : Nat, FnOk P w K mg base CX0 (n + 2) T.a_law_depth T.d_law_depth P_law_depth (spDepth n)
  | 0 => by
    have no : ∀ vs H Q E, ¬ spDepth 0 vs H Q E := fun vs H Q E ⟨v, i, xs, B, b, _, _, _, h, _⟩ => by
      have := dep_pos i
      omega
    exact ⟨fun vs H Q E h => absurd h (no vs H Q E), fun A outer s H args us vs Q E _ _ _ _ h => absurd h (no vs H Q E)⟩
  | n + 1 => by
    have G_law_depth := ok_law_depth T n
    have G_law_inner := ok_law_inner (P := P) (w := w) (base := base) T
    refine T.F_law_depth.ok sc_law_depth (fun vs H Q E h => ?_) (fun cdv A outer s H vs Q E hr h => ?_)
    · obtain ⟨v, i, xs, B, b, rfl, _⟩ := h
      rfl
    obtain ⟨v, i, xs, B, b, rfl, hi, ho, hd, q⟩ := h
    refine ⟨_, (pss_one (ps_ret (pe_op op_add pe_int (pe_callB (cr_max rfl) (by rfl) T.z_max (by decide +kernel) (pa_cons (pe_op op_cat (pe_lst (pa_cons pe_int pa_nil)) (pe_lc (own := [("part", 1)]) (g := (gName 1)) (tt := tYes) rfl sc_law_depth.nd (pi_list (pe_call G_law_inner (hr.mono (by omega)) (by rfl) T.m_law_inner T.F_law_inner.kp T.b_law_inner .nil pass0 (pa_cons (pv 0) pa_nil))) (blkOk_by (N := N_law_depth) (sc := defScope s_law_depth) (by decide +kernel)) (fun _ _ _ _ _ => (pg_name (i := 1) sc_law_depth.nd rfl (Or.inl rfl))) (fun _ _ _ _ _ => pts_nil) (fun _ _ _ _ _ => (pe_call G_law_depth (hr.mono (by omega)) (by rfl) T.m_law_depth T.F_law_depth.kp T.b_law_depth .nil pass0 (pa_cons (pv 1) pa_nil))))) pa_nil))))), ?_⟩
    refine ⟨(Nat.le_of_ble_eq_true rfl), fun p1 hp1 => ?_⟩
    have s1 := fun o => same_new hp1 o
    refine ⟨_, rfl, v, i, xs, B, b, rfl, hi.mono (Tp.same (s1 _)), ho, fun lp ys H2 s2 hlp e2 hk => ?_⟩
    refine ⟨lp, rfl, ⟨_, sqd e2⟩, fun D hD => ?_⟩
    have e1 := s2 p1 _ upd_same
    have n1D : p1 ≠ D := ne_of_none e1 hD
    have hkd := @kids_dep i
    refine lc_list (K := K) (a := lp) (xs := ys) (fun (j : Nat) (H' : Hp) => Same H2 H' ∧ H' D = some (.lst ((i.kids.take j).map fun k => V.int k.dep))) ?_ ?_ ?_ ?_
    · exact ⟨same_new hD _, by rw [upd_same, List.take_zero]; rfl⟩
    · rintro j H' _ ⟨s3, _⟩
      exact sqd (s3 _ _ e2)
    · rintro j x H' hx ⟨s3, e3⟩
      obtain ⟨kj, hkj, hin, hmem⟩ := hk.get hx
      obtain ⟨b', ho'⟩ := kids_ok ho kj hmem
      have hdj := depL_in hmem
      refine ⟨rfl, yes_if ?_⟩
      refine ⟨_, rfl, _, kj, xs, B, b', rfl, hin.mono (Tp.same s3), ho', by omega, fun H4 s4 => ?_⟩
      refine ⟨_, s4 _ _ e3, ?_, same_put (s3.trans s4) hD, ?_⟩
      · rw [List.length_map, List.length_take]
        have := kids_len ho
        exact small1000 (by omega)
      · rw [upd_same, List.take_add_one, hkj, List.map_append]
        rfl
    · rintro H3 ⟨s3, e3⟩
      rw [hk.1, List.take_length] at e3
      have hkl := kids_len ho
      refine ⟨p1, D, _, _, rfl, rfl, s3 _ _ e1, e3, ?_, fun p4 hp4 => ?_⟩
      · rw [List.length_map, List.length_singleton]
        exact Nat.le_of_lt (small1000 (by omega))
      · refine ⟨p4, 0 :: i.kids.map (fun k => (k.dep : Int)), rfl, sqd ?_, Nat.succ_pos _, fun m hm hmx => ?_⟩
        · rw [upd_same, List.map_cons, List.map_map]
          rfl
        · obtain ⟨g1, g2⟩ := depL_max i.kids
          have h1 := g1 m hm
          have h2 := hmx _ g2
          have e : 1 + m = (i.dep : Int) := by omega
          refine ⟨_, _, rfl, rfl, ?_⟩
          exact valE e (q _ ((s1 _).trans (s2.trans (s3.trans (same_new hp4 _)))))
end
end NL

namespace NL
open PySem PySem.Spec PyProof.Rows L2
theorem gn {i : Nat} {v : V} {σ : L2.St} {H : Hp} {Q : L2.St → Hp → Prop} (h : Q (σ.set i (some v)) H) : gName i v σ H Q := h
theorem r_seq {t u : TS} {D : Ends} {σ : L2.St} {H : Hp} (h : t { D with nx := u D } σ H) : tSeq t u D σ H := h
theorem r_asg {te : TE} {g : TG} {D : Ends} {σ : L2.St} {H : Hp} (h : te σ H fun x H1 => g x σ H1 D.nx) : tAsg te g D σ H := h
theorem r_op {r : R2} {ta tb : TE} {σ : L2.St} {H : Hp} {Q : VK} (h : ta σ H fun x H1 => tb σ H1 fun y H2 => r x y H2 Q) : tOp r ta tb σ H Q := h
theorem mo_eq {v : V} : Mo (fun x _ => x = v) := fun _ _ _ _ e => e
theorem moa_eq {xs : List V} : MoA (fun vs _ => vs = xs) := fun _ _ _ _ e => e
theorem moa_cons {P : V → Hp → Prop} {Pr : List V → Hp → Prop} (m : Mo P) (g : MoA Pr) : MoA (fun vs H' => ∃ v r, vs = v :: r ∧ P v H' ∧ Pr r H') := fun _ _ _ s ⟨v, r, e, p, q⟩ => ⟨v, r, e, m _ _ _ s p, g _ _ _ s q⟩
/-- a tuple of these items is at v -/
abbrev TupP (xs : List V) : V → Hp → Prop := fun v H => ∃ p, v = .ref p ∧ H p = some (.tup xs)
theorem mo_tup {xs : List V} : Mo (TupP xs) := fun _ _ _ s ⟨p, e, h⟩ => ⟨p, e, s _ _ h⟩
section
variable {σ : L2.St} {H : Hp} {v sv : V} {i si : It} {xs : List Str} {B : Nat} {K : PySem.W.Frag}
theorem p_abs (hv : σ[0]? = some (some v)) (hi : ItemIn H i v) (ho : Okx xs B false i) : EvP (tTup (tCons (tC (.str "abs")) (tCons (tVar 0) tNil))) σ H (ItP xs B (i.dep + 1) (i.mx + 3)) :=
  evp_imp (evp_fix (eva_c (eva_v hv eva_nil)) (Nat.le_of_ble_eq_true rfl)) fun x H' s ⟨p, e, h⟩ => ⟨.un "abs" i, false, by rw [e]; exact .un h (hi.mono (Tp.same s)), .abs ho, by rw [It.dep]; omega, by rw [It.mx]; omega⟩
theorem p_not (hv : σ[0]? = some (some v)) (hi : ItemIn H i v) (ho : Okx xs B true i) : EvP (tTup (tCons (tC (.str "not")) (tCons (tVar 0) tNil))) σ H (ItP xs B (i.dep + 1) (i.mx + 3)) :=
  evp_imp (evp_fix (eva_c (eva_v hv eva_nil)) (Nat.le_of_ble_eq_true rfl)) fun x H' s ⟨p, e, h⟩ => ⟨.un "not" i, true, by rw [e]; exact .un h (hi.mono (Tp.same s)), .not ho, by rw [It.dep]; omega, by rw [It.mx]; omega⟩
theorem p_dm {w : Str} {n : Int} (hw : w ∈ (["div", "mod"] : List Str)) (hn : 1 ≤ n ∧ n.natAbs ≤ B + 1) (hv : σ[0]? = some (some v)) (hi : ItemIn H i v) (ho : Okx xs B false i) : EvP (tTup (tCons (tC (.str w)) (tCons (tVar 0) (tCons (tC (.int n)) tNil)))) σ H (ItP xs B (i.dep + 1) (i.mx + 3)) :=
  evp_imp (evp_fix (eva_c (eva_v hv (eva_c eva_nil))) (Nat.le_of_ble_eq_true rfl)) fun x H' s ⟨p, e, h⟩ => ⟨.dm w i n, false, by rw [e]; exact .dm h (hi.mono (Tp.same s)), .dm hw ho hn.1 hn.2, by rw [It.dep]; omega, by rw [It.mx]; omega⟩
theorem p_bin {w : Str} {k : Nat} {b : Addr} {ys : List V} (hb : H b = some (.tup ys)) (hys : ys = [v, sv] ∨ ys = [sv, v]) (hσ : σ[k]? = some (some (.ref b))) (hi : ItemIn H i v) (hsi : ItemIn H si sv) (ho : Okx xs B false i) (hso : Okx xs B false si) (hd : si.dep = 1) (hz : si.mx = 1)
    (hw : w ∈ (["add", "sub", "mul", "min", "max", "less", "equal"] : List Str)) : EvP (tOp (rCatA K) (tTup (tCons (tC (.str w)) tNil)) (tVar k)) σ H (ItP xs B (i.dep + 1) (i.mx + 3)) := by
  have hp := dep_pos i
  have hl : ys.length = 2 := by rcases hys with e | e <;> rw [e] <;> rfl
  refine evp_imp (evp_wcat hb (by intro h; rw [h] at hl; cases hl) (by omega) hσ) fun x H' s ⟨p, e, h⟩ => ?_
  have hok : ∀ a b, Okx xs B false a → Okx xs B false b → ∃ t, Okx xs B t (.bin w a b) := fun a b ha hb => by
    by_cases h7 : w ∈ (["less", "equal"] : List Str)
    · exact ⟨_, .cmp h7 ha hb⟩
    · refine ⟨_, .bin ?_ ha hb⟩
      simp only [List.mem_cons, List.not_mem_nil, or_false] at hw h7 ⊢
      rcases hw with h | h | h | h | h | h | h
      · exact .inl h
      · exact .inr (.inl h)
      · exact .inr (.inr (.inl h))
      · exact .inr (.inr (.inr (.inl h)))
      · exact .inr (.inr (.inr (.inr h)))
      · exact absurd (.inl h) h7
      · exact absurd (.inr h) h7
  have hi' := hi.mono (Tp.same s)
  have hsi' := hsi.mono (Tp.same s)
  rw [e]
  rcases hys with ey | ey
  · rw [ey] at h
    obtain ⟨t, ht⟩ := hok i si ho hso
    exact ⟨.bin w i si, t, .bin h hi' hsi', ht, by rw [It.dep]; omega, by rw [It.mx]; omega⟩
  · rw [ey] at h
    obtain ⟨t, ht⟩ := hok si i hso ho
    exact ⟨.bin w si i, t, .bin h hsi' hi', ht, by rw [It.dep]; omega, by rw [It.mx]; omega⟩
theorem p_if1 (hv : σ[0]? = some (some v)) (hs : σ[1]? = some (some sv)) (hi : ItemIn H i v) (hsi : ItemIn H si sv) (ho : Okx xs B false i) (hso : Okx xs B false si) (hd : si.dep = 1) (hz : si.mx = 1) :
    EvP (tTup (tCons (tC (.str "if")) (tCons (tTup (tCons (tC (.str "true")) tNil)) (tCons (tVar 0) (tCons (tVar 1) tNil))))) σ H (ItP xs B (i.dep + 1) (i.mx + 3)) := by
  have hp := dep_pos i
  refine evp_imp (evp_tup (eva_cons evp_c mo_eq (eva_cons (evp_fix (eva_c eva_nil) (Nat.le_of_ble_eq_true rfl)) mo_tup (eva_v hv (eva_v hs eva_nil)))) (moa_cons mo_eq (moa_cons mo_tup moa_eq)) ?_) ?_
  · rintro vs H' ⟨_, _, rfl, _, _, _, rfl, _, rfl⟩
    exact Nat.le_of_ble_eq_true rfl
  · rintro x H' s ⟨p, _, rfl, h, _, _, rfl, rfl, _, _, rfl, ⟨p2, rfl, h2⟩, rfl⟩
    refine ⟨.tri (.lit true) i si, false, .tri h (.lit h2) (hi.mono (Tp.same s)) (hsi.mono (Tp.same s)), .tri .lit ho hso, ?_, ?_⟩
    · simp only [It.dep]; omega
    · simp only [It.mx]; omega
theorem p_if2 (hv : σ[0]? = some (some v)) (hs : σ[1]? = some (some sv)) (hi : ItemIn H i v) (hsi : ItemIn H si sv) (ho : Okx xs B false i) (hso : Okx xs B false si) (hd : si.dep = 1) (hz : si.mx = 1) :
    EvP (tTup (tCons (tC (.str "if")) (tCons (tTup (tCons (tC (.str "false")) tNil)) (tCons (tVar 1) (tCons (tVar 0) tNil))))) σ H (ItP xs B (i.dep + 1) (i.mx + 3)) := by
  have hp := dep_pos i
  refine evp_imp (evp_tup (eva_cons evp_c mo_eq (eva_cons (evp_fix (eva_c eva_nil) (Nat.le_of_ble_eq_true rfl)) mo_tup (eva_v hs (eva_v hv eva_nil)))) (moa_cons mo_eq (moa_cons mo_tup moa_eq)) ?_) ?_
  · rintro vs H' ⟨_, _, rfl, _, _, _, rfl, _, rfl⟩
    exact Nat.le_of_ble_eq_true rfl
  · rintro x H' s ⟨p, _, rfl, h, _, _, rfl, rfl, _, _, rfl, ⟨p2, rfl, h2⟩, rfl⟩
    refine ⟨.tri (.lit false) si i, false, .tri h (.lit h2) (hsi.mono (Tp.same s)) (hi.mono (Tp.same s)), .tri .lit hso ho, ?_, ?_⟩
    · simp only [It.dep]; omega
    · simp only [It.mx]; omega
theorem p_if3 (hv : σ[0]? = some (some v)) (hs : σ[1]? = some (some sv)) (hi : ItemIn H i v) (hsi : ItemIn H si sv) (ho : Okx xs B true i) (hso : Okx xs B false si) (hd : si.dep = 1) (hz : si.mx = 1) :
    EvP (tTup (tCons (tC (.str "if")) (tCons (tVar 0) (tCons (tVar 1) (tCons (tVar 1) tNil))))) σ H (ItP xs B (i.dep + 1) (i.mx + 3)) :=
  have hp := dep_pos i
  evp_imp (evp_fix (eva_c (eva_v hv (eva_v hs (eva_v hs eva_nil)))) (Nat.le_of_ble_eq_true rfl)) fun x H' s ⟨p, e, h⟩ => ⟨.tri i si si, false, by rw [e]; exact .tri h (hi.mono (Tp.same s)) (hsi.mono (Tp.same s)) (hsi.mono (Tp.same s)), .tri ho hso hso, by rw [It.dep]; omega, by rw [It.mx]; omega⟩
/-- the parts of a group -/
def GrP (xs : List Str) (B N D S : Nat) : V → Hp → Prop := fun x H => ∃ p ys l, x = .ref p ∧ H p = some (.tup ys) ∧ Kids H l ys ∧ (∀ j ∈ l, Okx xs B true j) ∧ depL l = D ∧ mxL l ≤ S ∧ l.length ≤ N
theorem grp_mo {N D S : Nat} : Mo (GrP xs B N D S) := fun _ _ _ s ⟨p, ys, l, e, h, k, r⟩ => ⟨p, ys, l, e, s _ _ h, k.mono (Tp.same s), r⟩
theorem p_parts1 (hv : σ[0]? = some (some v)) (hi : ItemIn H i v) (ho : Okx xs B true i) : EvP (tTup (tCons (tVar 0) (tCons (tTup (tCons (tC (.str "true")) tNil)) tNil))) σ H (GrP xs B 2 i.dep (i.mx + 1)) := by
  have hp := dep_pos i
  refine evp_imp (evp_tup (eva_cons (evp_v hv) mo_eq (eva_cons (evp_fix (eva_c eva_nil) (Nat.le_of_ble_eq_true rfl)) mo_tup eva_nil)) (moa_cons mo_eq (moa_cons mo_tup moa_eq)) ?_) ?_
  · rintro vs H' ⟨_, _, rfl, _, _, _, rfl, _, rfl⟩
    exact Nat.le_of_ble_eq_true rfl
  · rintro x H' s ⟨p, _, rfl, h, _, _, rfl, rfl, _, _, rfl, ⟨p2, rfl, h2⟩, rfl⟩
    refine ⟨p, _, [i, .lit true], rfl, h, .cons (hi.mono (Tp.same s)) (kids1 (.lit h2)), ?_, ?_, ?_, Nat.le_refl 2⟩
    · intro j hj
      simp only [List.mem_cons, List.not_mem_nil, or_false] at hj
      rcases hj with e | e <;> rw [e]
      · exact ho
      · exact .lit
    · simp only [depL, It.dep]; omega
    · simp only [mxL, It.mx]; omega
theorem p_parts2 (hv : σ[0]? = some (some v)) (hi : ItemIn H i v) (ho : Okx xs B true i) : EvP (tTup (tCons (tTup (tCons (tC (.str "false")) tNil)) (tCons (tVar 0) tNil))) σ H (GrP xs B 2 i.dep (i.mx + 1)) := by
  have hp := dep_pos i
  refine evp_imp (evp_tup (eva_cons (evp_fix (eva_c eva_nil) (Nat.le_of_ble_eq_true rfl)) mo_tup (eva_v hv eva_nil)) (moa_cons mo_tup moa_eq) ?_) ?_
  · rintro vs H' ⟨_, _, rfl, _, rfl⟩
    exact Nat.le_of_ble_eq_true rfl
  · rintro x H' s ⟨p, _, rfl, h, _, _, rfl, ⟨p2, rfl, h2⟩, rfl⟩
    refine ⟨p, _, [.lit false, i], rfl, h, .cons (.lit h2) (kids1 (hi.mono (Tp.same s))), ?_, ?_, ?_, Nat.le_refl 2⟩
    · intro j hj
      simp only [List.mem_cons, List.not_mem_nil, or_false] at hj
      rcases hj with e | e <;> rw [e]
      · exact .lit
      · exact ho
    · simp only [depL, It.dep]; omega
    · simp only [mxL, It.mx]; omega
theorem p_grp {w : Str} {k : Nat} {gv : V} {D S : Nat} (hw : w ∈ (["all", "any"] : List Str)) (hg : GrP xs B 3 D S gv H) (hσ : σ[k]? = some (some gv)) : EvP (tTup (tCons (tC (.str w)) (tCons (tVar k) tNil))) σ H (ItP xs B (D + 1) (S + 1)) := by
  obtain ⟨b, ys, l, rfl, hb, hk, hok, hd, hs, h3⟩ := hg
  refine evp_imp (evp_fix (eva_c (eva_v hσ eva_nil)) (Nat.le_of_ble_eq_true rfl)) fun x H' s ⟨p, e, h⟩ => ⟨.grp w l, true, ?_, .grp hw (by omega) hok, by rw [It.dep]; omega, by rw [It.mx]; omega⟩
  have hk' := hk.mono (Tp.same s)
  rw [e]
  exact .grp h (s _ _ hb) hk'.1 hk'.2
theorem itp_le {D S S' : Nat} {x : V} (h : ItP xs B D S x H) (hs : S ≤ S') : ItP xs B D S' x H := by
  obtain ⟨i, b, a, c, d, e⟩ := h
  exact ⟨i, b, a, c, d, Nat.le_trans e hs⟩
/-- the two orders of an item and its side -/
def BothP (v sv : V) : V → Hp → Prop := fun x H => ∃ p ys, x = .ref p ∧ H p = some (.tup ys) ∧ (ys = [v, sv] ∨ ys = [sv, v])
theorem both_mo : Mo (BothP v sv) := fun _ _ _ s ⟨p, ys, e, h, r⟩ => ⟨p, ys, e, s _ _ h, r⟩
theorem p_both (hv : σ[0]? = some (some v)) (hs : σ[1]? = some (some sv)) : EvP (tLst (tCons (tTup (tCons (tVar 0) (tCons (tVar 1) tNil))) (tCons (tTup (tCons (tVar 1) (tCons (tVar 0) tNil))) tNil))) σ H (fun v' H' => ∃ p ys, v' = .ref p ∧ H' p = some (.lst ys) ∧ All 2 (BothP v sv) ys H' ∧ H p = none) :=
  evp_lst (eva_all both_mo (evp_imp (evp_fix (eva_v hv (eva_v hs eva_nil)) (Nat.le_of_ble_eq_true rfl)) fun x H' _ ⟨p, e, h⟩ => ⟨p, _, e, h, .inl rfl⟩)
    (eva_all both_mo (evp_imp (evp_fix (eva_v hs (eva_v hv eva_nil)) (Nat.le_of_ble_eq_true rfl)) fun x H' _ ⟨p, e, h⟩ => ⟨p, _, e, h, .inr rfl⟩) eva_all0)) (all_mo both_mo) fun vs H' h => by rw [h.1]; exact (Nat.le_of_ble_eq_true rfl)
end
section
variable {P : Program} {w : World} {K : PySem.W.Frag} {mg : Str → Option Value} {base : Heap}
/-! ### _law_around -/
def spAround : Sp := fun vs H Q _ => ∃ (v sv : V) (i si : It) (xs : List Str) (B : Nat) (b : Bool) (m t : Int), vs = [v, sv, .int m, .int t] ∧ ItemIn H i v ∧ Okx xs B b i ∧ ItemIn H si sv ∧ Okx xs B false si ∧ si.dep = 1 ∧ si.mx = 1 ∧ 100 ≤ B ∧ -1000 ≤ m ∧ m ≤ 1000 ∧
  ∀ v' i' b' H', Same H H' → ItemIn H' i' v' → Okx xs B b' i' → i'.dep = i.dep + m.toNat → i'.mx ≤ i.mx + 5 * m.toNat → Q v' H'
theorem ok_law_around (T : Txt K mg) : FnOk P w K mg base CX0 2 T.a_law_around T.d_law_around P_law_around spAround := by
  have G_law_is_test := ok_law_is_test (P := P) (w := w) (base := base) T
  refine T.F_law_around.ok sc_law_around (fun vs H Q E h => ?_) (fun cdv A outer s H vs Q E hr h => ?_)
  · obtain ⟨v, sv, i, si, xs, B, b, m, t, rfl, _⟩ := h
    rfl
  obtain ⟨v, sv, i, si, xs, B, b, m, t, rfl, hi, ho, hsi, hso, hsd, hsz, hB, m0, m1, q⟩ := h
  refine ⟨_, (pss_cons (ps_for  PassesOwn.never rfl (pi_range1 (by rfl) T.z_range (pa_cons (pv 2) pa_nil)) (pg_name (i := 4) sc_law_around.nd rfl (Or.inl rfl))
    (pss_cons (ps_set (i := 5) sc_law_around.nd rfl (Or.inl rfl) (pe_ix ix_list (pe_lst (pa_cons (pe_tup (pa_cons (pv 0) (pa_cons (pv 1) pa_nil))) (pa_cons (pe_tup (pa_cons (pv 1) (pa_cons (pv 0) pa_nil))) pa_nil))) (pe_op op_mod (pe_callTy call_int1 (by rfl) T.z_int (by decide +kernel) (pa_cons (pe_op op_add (pe_op op_fdiv (pv 3) pe_int) (pv 4)) pa_nil)) pe_int) (fun _ _ => rfl)))
    (pss_one (ps_if (pt_val (pe_call G_law_is_test (hr.mono (by omega)) (by rfl) T.m_law_is_test T.F_law_is_test.kp T.b_law_is_test .nil pass0 (pa_cons (pv 0) pa_nil)))
    (pss_cons (ps_set (i := 6) sc_law_around.nd rfl (Or.inl rfl) (pe_ix ix_list (pe_lst (pa_cons (pe_tup (pa_cons (pv 0) (pa_cons (pe_tup (pa_cons pe_str pa_nil)) pa_nil))) (pa_cons (pe_tup (pa_cons (pe_tup (pa_cons pe_str pa_nil)) (pa_cons (pv 0) pa_nil))) pa_nil))) (pe_op op_mod (pe_callTy call_int1 (by rfl) T.z_int (by decide +kernel) (pa_cons (pe_op op_add (pe_op op_fdiv (pv 3) pe_int) (pv 4)) pa_nil)) pe_int) (fun _ _ => rfl)))
    (C8.pss_cut (ps_if (pt_cmpR op_lt (pv 2) pe_int (nomark _))
    (pss_one (ps_set (i := 6) sc_law_around.nd rfl (Or.inl rfl) (pe_op op_catA (pe_tup (pa_cons (pe_tup (pa_cons pe_str pa_nil)) pa_nil)) (pv 6))))
    pss_nil)
    (pss_one (ps_set (i := 0) sc_law_around.nd rfl (Or.inl rfl) (pe_ix ix_list (pe_lst (pa_cons (pe_tup (pa_cons pe_str (pa_cons (pv 0) pa_nil))) (pa_cons (pe_tup (pa_cons pe_str (pa_cons (pv 6) pa_nil))) (pa_cons (pe_tup (pa_cons pe_str (pa_cons (pv 6) pa_nil))) (pa_cons (pe_tup (pa_cons pe_str (pa_cons (pv 0) (pa_cons (pv 1) (pa_cons (pv 1) pa_nil))))) pa_nil))))) (pe_op op_mod (pe_callTy call_int1 (by rfl) T.z_int (by decide +kernel) (pa_cons (pe_op op_add (pv 3) (pv 4)) pa_nil)) pe_int) (fun _ _ => rfl))))))
    (pss_cons (ps_set (i := 7) sc_law_around.nd rfl (Or.inl rfl) (pe_lst (pa_cons (pe_tup (pa_cons pe_str (pa_cons (pv 0) pa_nil))) (pa_cons (pe_op op_catA (pe_tup (pa_cons pe_str pa_nil)) (pv 5)) (pa_cons (pe_op op_catA (pe_tup (pa_cons pe_str pa_nil)) (pv 5)) (pa_cons (pe_op op_catA (pe_tup (pa_cons pe_str pa_nil)) (pv 5)) (pa_cons (pe_op op_catA (pe_tup (pa_cons pe_str pa_nil)) (pv 5)) (pa_cons (pe_op op_catA (pe_tup (pa_cons pe_str pa_nil)) (pv 5)) pa_nil))))))))
    (pss_cons (ps_set (i := 7) sc_law_around.nd rfl (Or.inl rfl) (pe_op op_cat (pv 7) (pe_lst (pa_cons (pe_tup (pa_cons pe_str (pa_cons (pv 0) (pa_cons pe_int pa_nil)))) (pa_cons (pe_tup (pa_cons pe_str (pa_cons (pv 0) (pa_cons pe_int pa_nil)))) (pa_cons (pe_tup (pa_cons pe_str (pa_cons (pe_tup (pa_cons pe_str pa_nil)) (pa_cons (pv 0) (pa_cons (pv 1) pa_nil))))) pa_nil))))))
    (pss_cons (ps_set (i := 7) sc_law_around.nd rfl (Or.inl rfl) (pe_op op_cat (pv 7) (pe_lst (pa_cons (pe_tup (pa_cons pe_str (pa_cons (pe_tup (pa_cons pe_str pa_nil)) (pa_cons (pv 1) (pa_cons (pv 0) pa_nil))))) (pa_cons (pe_op op_catA (pe_tup (pa_cons pe_str pa_nil)) (pv 5)) (pa_cons (pe_op op_catA (pe_tup (pa_cons pe_str pa_nil)) (pv 5)) pa_nil))))))
    (pss_one (ps_set (i := 0) sc_law_around.nd rfl (Or.inl rfl) (pe_ix ix_list (pv 7) (pe_op op_mod (pe_callTy call_int1 (by rfl) T.z_int (by decide +kernel) (pa_cons (pe_op op_add (pv 3) (pe_op op_mul (pv 4) pe_int)) pa_nil)) pe_int) (fun _ _ => rfl)))))))))))
    (pss_one (ps_ret (pv 0)))), ?_⟩
  refine ⟨_, rfl, m, rfl, by omega, by omega, for_range (lo := 0) (n := m.toNat) (fun (j : Nat) (σ : L2.St) (H' : Hp) => ∃ (v : V) (i' : It) (b' : Bool) (y1 y2 y3 y4 : Option V), σ = [some v, some sv, some (.int m), some (.int t), y1, y2, y3, y4] ∧ Same H H' ∧ ItemIn H' i' v ∧ Okx xs B b' i' ∧ i'.dep = i.dep + j ∧ i'.mx ≤ i.mx + 5 * j) ?_ ?_ ?_⟩
  · exact ⟨v, i, b, none, none, none, none, rfl, Same.refl H, hi, ho, rfl, Nat.le_refl _⟩
  · rintro j σ H1 hj ⟨v, i', b', y1, y2, y3, y4, rfl, s1, hi', ho', hd', hz'⟩
    -- both
    refine gn (r_seq (r_asg (r_op ?_)))
    refine p_both (v := v) (sv := sv) (σ := [some v, some sv, some (.int m), some (.int t), some (.int (0 + (j : Int))), y2, y3, y4]) rfl rfl H1 (Same.refl H1) _ fun u H2 s2 hu => ?_
    obtain ⟨p, ys, rfl, e2, ⟨yl, yall⟩, _⟩ := hu
    have two := fun z : Int => (⟨Int.emod_nonneg z (by decide : (2 : Int) ≠ 0), Int.emod_lt_of_pos z (by decide)⟩ : 0 ≤ z % 2 ∧ z % 2 < 2)
    obtain ⟨bv, hbv, hbm⟩ := atI_mem (xs := ys) (two (t / 12 + (0 + (j : Int)))).1 (by rw [yl]; exact (two _).2)
    refine ⟨_, rfl, _, _, rfl, rfl, ⟨by decide, by decide⟩, _, rfl, _, _, rfl, rfl, .inl ⟨_, rfl, _, _, rfl, rfl, (by show (0 : Int) < 2; decide), _, _, _, _, rfl, rfl, sqd e2, hbv, ?_⟩⟩
    obtain ⟨bp, bys, rfl, ebp, hbys⟩ := yall bv hbm
    have hsi2 := hsi.mono (Tp.same (s1.trans s2))
    have hi2 := hi'.mono (Tp.same s2)
    refine ⟨_, rfl, v, i', xs, B, b', rfl, hi2, ho', fun H3 s3 => ⟨b', rfl, ?_⟩⟩
    have hi3 := hi2.mono (Tp.same s3)
    have hsi3 := hsi2.mono (Tp.same s3)
    cases b' with
    | true =>
      refine iteT ?_
      -- parts
      refine r_seq (r_asg (r_op ?_))
      refine (evp_lst (σ := [some v, some sv, some (.int m), some (.int t), some (.int (0 + (j : Int))), some (.ref bp), y3, y4]) (eva_all grp_mo (p_parts1 rfl hi3 ho') (eva_all grp_mo (p_parts2 rfl hi3 ho') eva_all0)) (all_mo grp_mo) fun vs H' h => by rw [h.1]; exact (Nat.le_of_ble_eq_true rfl)) H3 (Same.refl H3) _ fun u H4 s4 hu => ?_
      obtain ⟨p4, ys4, rfl, e4, ⟨yl4, yall4⟩, _⟩ := hu
      obtain ⟨gv, hgv, hgm⟩ := atI_mem (xs := ys4) (two (t / 12 + (0 + (j : Int)))).1 (by rw [yl4]; exact (two _).2)
      refine ⟨_, rfl, _, _, rfl, rfl, ⟨by decide, by decide⟩, _, rfl, _, _, rfl, rfl, .inl ⟨_, rfl, _, _, rfl, rfl, (by show (0 : Int) < 2; decide), _, _, _, _, rfl, rfl, sqd e4, hgv, ?_⟩⟩
      obtain ⟨gb, gys, gl, rfl, eg, hk, hok, hgd, hgs, hgl⟩ := yall4 gv hgm
      have hp := dep_pos i'
      refine ⟨fun σ H5 => ∃ gv, σ = [some v, some sv, some (.int m), some (.int t), some (.int (0 + (j : Int))), some (.ref bp), some gv, y4] ∧ Same H4 H5 ∧ GrP xs B 3 i'.dep (i'.mx + 2) gv H5, ?_, ?_⟩
      · refine ⟨_, rfl, _, _, rfl, rfl, _, rfl, ?_⟩
        refine ite2 (fun c => ?_) (fun c => ?_)
        · refine ⟨(Nat.le_of_ble_eq_true rfl), fun p5 hp5 => ⟨(Nat.le_of_ble_eq_true rfl), fun p6 hp6 => ⟨_, rfl, p6, gb, _, _, rfl, rfl, sqt upd_same, sqt (((same_new hp5 _).trans (same_new hp6 _)) _ _ eg), ?_, (fun h => by cases h), (fun _ h => ?_), fun _ _ p7 hp7 => ?_⟩⟩⟩
          · rw [List.length_singleton, hk.1]
            exact Nat.le_of_lt (small1000 (by omega))
          · have h0 := hk.1
            rw [h] at h0
            have : gl = [] := List.length_eq_zero_iff.mp h0.symm
            rw [this] at hgd
            simp only [depL] at hgd
            omega
          · have s56 := fun o => ((same_new hp5 _).trans (same_new hp6 _)).trans (same_new hp7 o)
            have n56 : p5 ≠ p6 := ne_of_none upd_same hp6
            have n57 : p5 ≠ p7 := ne_of_none (by rw [upd_ne n56]; exact upd_same) hp7
            refine ⟨_, rfl, s56 _, p7, _, .lit true :: gl, rfl, upd_same, .cons (.lit (by rw [upd_ne n57, upd_ne n56]; exact upd_same)) (hk.mono (Tp.same (s56 _))), ?_, ?_, ?_, ?_⟩
            · intro z hz
              rcases List.mem_cons.mp hz with e | e
              · rw [e]; exact .lit
              · exact hok z e
            · simp only [depL, It.dep]; omega
            · simp only [mxL, It.mx]; omega
            · rw [List.length_cons]; omega
        · exact ⟨_, rfl, Same.refl H4, gb, gys, gl, rfl, eg, hk, hok, hgd, by omega, by omega⟩
      · rintro σ5 H5 ⟨gv, rfl, s5, hg⟩
        have s35 := s4.trans s5
        have hi5 := hi3.mono (Tp.same s35)
        have hsi5 := hsi3.mono (Tp.same s35)
        refine r_asg (r_op ?_)
        refine (evp_lst (σ := [some v, some sv, some (.int m), some (.int t), some (.int (0 + (j : Int))), some (.ref bp), some gv, y4]) (eva_all itp_mo (p_not rfl hi5 ho') (eva_all itp_mo (p_grp (w := "all") (by decide +kernel) hg rfl) (eva_all itp_mo (p_grp (w := "any") (by decide +kernel) hg rfl) (eva_all itp_mo (p_if3 rfl rfl hi5 hsi5 ho' hso hsd hsz) eva_all0)))) (all_mo itp_mo) fun vs H' h => by rw [h.1]; exact (Nat.le_of_ble_eq_true rfl)) H5 (Same.refl H5) _ fun u H6 s6 hu => ?_
        obtain ⟨p6, ys6, rfl, e6, ⟨yl6, yall6⟩, _⟩ := hu
        obtain ⟨nv, hnv, hnm⟩ := atI_mem (xs := ys6) (Int.emod_nonneg (t + (0 + (j : Int))) (by decide : (4 : Int) ≠ 0)) (by rw [yl6]; exact Int.emod_lt_of_pos _ (by decide))
        refine ⟨_, rfl, _, rfl, _, _, rfl, rfl, .inl ⟨_, rfl, _, _, rfl, rfl, (by show (0 : Int) < 4; decide), _, _, _, _, rfl, rfl, sqd e6, hnv, ?_⟩⟩
        obtain ⟨i2, b2, h1, h2, h3, h4⟩ := yall6 nv hnm
        exact ⟨nv, i2, b2, _, _, _, _, rfl, s1.trans (s2.trans (s3.trans (s35.trans s6))), h1, h2, by omega, by omega⟩
    | false =>
      refine iteF ?_
      have bn := fun (w : Str) (H' : Hp) (s' : Same H3 H') (y3 y4 : Option V) (hw : w ∈ (["add", "sub", "mul", "min", "max", "less", "equal"] : List Str)) => p_bin (K := K) (σ := [some v, some sv, some (.int m), some (.int t), some (.int (0 + (j : Int))), some (.ref bp), y3, y4]) (k := 5) (H := H') (s' _ _ (s3 _ _ ebp)) hbys rfl (hi3.mono (Tp.same s')) (hsi3.mono (Tp.same s')) ho' hso hsd hsz hw
      have r3 := Same.refl H3
      refine r_seq (r_asg ?_)
      refine (evp_lst (σ := [some v, some sv, some (.int m), some (.int t), some (.int (0 + (j : Int))), some (.ref bp), y3, y4]) (eva_all itp_mo (p_abs rfl hi3 ho') (eva_all itp_mo (bn "add" H3 r3 y3 y4 (by decide +kernel)) (eva_all itp_mo (bn "sub" H3 r3 y3 y4 (by decide +kernel)) (eva_all itp_mo (bn "mul" H3 r3 y3 y4 (by decide +kernel)) (eva_all itp_mo (bn "min" H3 r3 y3 y4 (by decide +kernel)) (eva_all itp_mo (bn "max" H3 r3 y3 y4 (by decide +kernel)) eva_all0)))))) (all_mo itp_mo) fun vs H' h => by rw [h.1]; exact (Nat.le_of_ble_eq_true rfl)) H3 r3 _ fun u H4 s4 hu => ?_
      obtain ⟨p4, ys4, rfl, e4, ⟨yl4, yall4⟩, _⟩ := hu
      have hi4 := hi3.mono (Tp.same s4)
      have hsi4 := hsi3.mono (Tp.same s4)
      refine ⟨_, rfl, ?_⟩
      refine (evp_lst (σ := [some v, some sv, some (.int m), some (.int t), some (.int (0 + (j : Int))), some (.ref bp), y3, some (.ref p4)]) (eva_all itp_mo (p_dm (w := "div") (by decide +kernel) (by omega) rfl hi4 ho') (eva_all itp_mo (p_dm (w := "mod") (by decide +kernel) (by omega) rfl hi4 ho') (eva_all itp_mo (p_if1 rfl rfl hi4 hsi4 ho' hso hsd hsz) eva_all0))) (all_mo itp_mo) fun vs H' h => by rw [h.1]; exact (Nat.le_of_ble_eq_true rfl)) H4 (Same.refl H4) _ fun u H5 s5 hu => ?_
      obtain ⟨p5, ys5, rfl, e5, ⟨yl5, yall5⟩, _⟩ := hu
      refine ⟨p4, p5, ys4, ys5, rfl, rfl, s5 _ _ e4, e5, by rw [yl4, yl5]; exact (Nat.le_of_ble_eq_true rfl), fun p6 hp6 => ?_⟩
      have s36 := fun o => (s4.trans s5).trans (same_new hp6 o)
      refine ⟨_, rfl, ?_⟩
      refine (evp_lst (σ := [some v, some sv, some (.int m), some (.int t), some (.int (0 + (j : Int))), some (.ref bp), y3, some (.ref p6)]) (eva_all itp_mo (p_if2 rfl rfl (hi3.mono (Tp.same (s36 _))) (hsi3.mono (Tp.same (s36 _))) ho' hso hsd hsz) (eva_all itp_mo (bn "less" _ (s36 _) _ _ (by decide +kernel)) (eva_all itp_mo (bn "equal" _ (s36 _) _ _ (by decide +kernel)) eva_all0))) (all_mo itp_mo) fun vs H' h => by rw [h.1]; exact (Nat.le_of_ble_eq_true rfl)) _ (Same.refl _) _ fun u H7 s7 hu => ?_
      obtain ⟨p7, ys7, rfl, e7, ⟨yl7, yall7⟩, _⟩ := hu
      refine ⟨p6, p7, ys4 ++ ys5, ys7, rfl, rfl, s7 _ _ upd_same, e7, by rw [List.length_append, yl4, yl5, yl7]; exact (Nat.le_of_ble_eq_true rfl), fun p8 hp8 => ?_⟩
      have s8 := fun o => s7.trans (same_new hp8 o)
      have hl12 : ((ys4 ++ ys5) ++ ys7).length = 12 := by rw [List.length_append, List.length_append, yl4, yl5, yl7]
      obtain ⟨nv, hnv, hnm⟩ := atI_mem (xs := (ys4 ++ ys5) ++ ys7) (Int.emod_nonneg (t + (0 + (j : Int)) * 5) (by decide : (12 : Int) ≠ 0)) (by rw [hl12]; exact Int.emod_lt_of_pos _ (by decide))
      refine ⟨_, rfl, _, rfl, _, rfl, _, _, rfl, rfl, .inr ⟨by decide, by decide⟩, _, _, rfl, rfl, .inl ⟨_, rfl, _, _, rfl, rfl, (by show (0 : Int) < 12; decide), _, _, _, _, rfl, rfl, sqd upd_same, hnv, ?_⟩⟩
      have hnp : ∀ o, ItP xs B (i'.dep + 1) (i'.mx + 3) nv (upd H7 p8 o) := fun o => by
        rcases List.mem_append.mp hnm with h | h
        · rcases List.mem_append.mp h with h | h
          · exact itp_mo _ _ _ ((s5.trans (same_new hp6 _)).trans (s8 _)) (yall4 nv h)
          · exact itp_mo _ _ _ ((same_new hp6 _).trans (s8 _)) (yall5 nv h)
        · exact itp_mo _ _ _ (same_new hp8 _) (yall7 nv h)
      obtain ⟨i2, b2, h1, h2, h3, h4⟩ := hnp _
      exact ⟨nv, i2, b2, _, _, _, _, rfl, s1.trans (s2.trans (s3.trans ((s36 _).trans (s8 _)))), h1, h2, by omega, by omega⟩
  · rintro σ H1 ⟨v, i', b', y1, y2, y3, y4, rfl, s1, hi', ho', hd', hz'⟩
    exact ⟨_, rfl, q v i' b' H1 s1 hi' ho' hd' hz'⟩
end
end NL

namespace NL
open PySem PySem.Spec PyProof.Rows L2
section
variable {P : Program} {w : World} {K : PySem.W.Frag} {mg : Str → Option Value} {base : Heap}
/-! ### _law_many -/
def spMany (K : PySem.W.Frag) (B : Nat) : Sp := fun vs H Q _ => ∃ (d n : Addr) (xs : List Str) (c : Int), vs = [.ref d, .ref n, .int c] ∧ Dr H d ∧ Keep K d H n (xs.map V.str) ∧ c.natAbs ≤ B ∧
  ∀ v i H', Go d H H' → ItemIn H' i v → Okx xs B true i → i.dep ≤ 3 → i.sz ≤ 100 → Q v H'
end
end NL

namespace NL
open PySem PySem.Spec PyProof.Rows L2
abbrev five : List Str := ["add", "sub", "mul", "min", "max"]
theorem five_ne : ∀ w ∈ five, ∀ z ∈ (["number", "name", "if", "abs", "div", "mod"] : List Str), decide (V.str w = V.str z) = false := by decide +kernel
theorem no5 {w z : Str} (h : w ∈ five) (hz : z ∈ (["number", "name", "if", "abs", "div", "mod"] : List Str)) : decide (V.str w = V.str z) = false := five_ne w h z hz
theorem mul_ok {x y : Int} {m n : Nat} (hx : Builtin.Int.intBits x ≤ m) (hy : Builtin.Int.intBits y ≤ n) (h : m + n ≤ 134217728) : CMulX x y := by
  show (Builtin.Int.intBits x : Int) + (Builtin.Int.intBits y : Int) ≤ 134217728
  have h1 : Builtin.Int.intBits x ≤ m := hx
  have h2 : Builtin.Int.intBits y ≤ n := hy
  omega
theorem boolV {Q : VK} {b b' : Bool} {H : Hp} (h : b = b') (q : Q (.bl b') H) : Q (.bl b) H := by rw [h]; exact q
theorem strE {a b : Str} : decide (V.str a = V.str b) = decide (a = b) := decide_eq_decide.mpr ⟨V.str.inj, fun h => by rw [h]⟩
section
variable {P : Program} {w : World} {K : PySem.W.Frag} {mg : Str → Option Value} {base : Heap}
/-! ### _value_of_two -/
def spTwo : Sp := fun vs H Q _ => ∃ (w : Str) (x y : Int), vs = [.str w, .int x, .int y] ∧ w ∈ five ∧ CMulX x y ∧ Q (.int (opv w x y)) H
theorem ok_value_of_two (T : Txt K mg) : FnOk P w K mg base CX0 1 T.a_value_of_two T.d_value_of_two P_value_of_two spTwo := by
  refine T.F_value_of_two.ok sc_value_of_two (fun vs H Q E h => ?_) (fun cdv A outer s H vs Q E hr h => ?_)
  · obtain ⟨w, x, y, rfl, _⟩ := h
    rfl
  obtain ⟨w, x, y, rfl, hw, hc, q⟩ := h
  refine ⟨_, (pss_cons (ps_if (pt_cmpR op_eq (pv 0) pe_str (nomark _))
    (pss_one (ps_ret (pe_op op_add (pv 1) (pv 2))))
    pss_nil)
    (pss_cons (ps_if (pt_cmpR op_eq (pv 0) pe_str (nomark _))
    (pss_one (ps_ret (pe_op op_sub (pv 1) (pv 2))))
    pss_nil)
    (pss_cons (ps_if (pt_cmpR op_eq (pv 0) pe_str (nomark _))
    (pss_one (ps_ret (pe_op op_mulX (pv 1) (pv 2))))
    pss_nil)
    (pss_cons (ps_if (pt_cmpR op_eq (pv 0) pe_str (nomark _))
    (pss_one (ps_ret (pe_callB (call_min2 rfl) (by rfl) T.z_min (by decide +kernel) (pa_cons (pv 1) (pa_cons (pv 2) pa_nil)))))
    pss_nil)
    (pss_one (ps_ret (pe_callB (call_max2 rfl) (by rfl) T.z_max (by decide +kernel) (pa_cons (pv 1) (pa_cons (pv 2) pa_nil))))))))), ?_⟩
  simp only [List.mem_cons, List.not_mem_nil, or_false] at hw
  refine ⟨_, rfl, rfl, _, rfl, ?_⟩
  rcases hw with rfl | rfl | rfl | rfl | rfl
  · exact ifT (by first | decide +kernel | (rw [strE]; exact decide_eq_true rfl) | (rw [strE]; refine decide_eq_false ?_; simp only [It.word]; decide +kernel)) ⟨_, rfl, _, rfl, _, _, rfl, rfl, q⟩
  · refine ifF (by first | decide +kernel | (rw [strE]; exact decide_eq_true rfl) | (rw [strE]; refine decide_eq_false ?_; simp only [It.word]; decide +kernel)) ⟨_, rfl, rfl, _, rfl, ?_⟩
    exact ifT (by first | decide +kernel | (rw [strE]; exact decide_eq_true rfl) | (rw [strE]; refine decide_eq_false ?_; simp only [It.word]; decide +kernel)) ⟨_, rfl, _, rfl, _, _, rfl, rfl, q⟩
  · refine ifF (by first | decide +kernel | (rw [strE]; exact decide_eq_true rfl) | (rw [strE]; refine decide_eq_false ?_; simp only [It.word]; decide +kernel)) ⟨_, rfl, rfl, _, rfl, ?_⟩
    refine ifF (by first | decide +kernel | (rw [strE]; exact decide_eq_true rfl) | (rw [strE]; refine decide_eq_false ?_; simp only [It.word]; decide +kernel)) ⟨_, rfl, rfl, _, rfl, ?_⟩
    exact ifT (by first | decide +kernel | (rw [strE]; exact decide_eq_true rfl) | (rw [strE]; refine decide_eq_false ?_; simp only [It.word]; decide +kernel)) ⟨_, rfl, _, rfl, _, _, rfl, rfl, hc, q⟩
  · refine ifF (by first | decide +kernel | (rw [strE]; exact decide_eq_true rfl) | (rw [strE]; refine decide_eq_false ?_; simp only [It.word]; decide +kernel)) ⟨_, rfl, rfl, _, rfl, ?_⟩
    refine ifF (by first | decide +kernel | (rw [strE]; exact decide_eq_true rfl) | (rw [strE]; refine decide_eq_false ?_; simp only [It.word]; decide +kernel)) ⟨_, rfl, rfl, _, rfl, ?_⟩
    refine ifF (by first | decide +kernel | (rw [strE]; exact decide_eq_true rfl) | (rw [strE]; refine decide_eq_false ?_; simp only [It.word]; decide +kernel)) ⟨_, rfl, rfl, _, rfl, ?_⟩
    exact ifT (by first | decide +kernel | (rw [strE]; exact decide_eq_true rfl) | (rw [strE]; refine decide_eq_false ?_; simp only [It.word]; decide +kernel)) ⟨_, rfl, _, rfl, _, _, rfl, q⟩
  · refine ifF (by first | decide +kernel | (rw [strE]; exact decide_eq_true rfl) | (rw [strE]; refine decide_eq_false ?_; simp only [It.word]; decide +kernel)) ⟨_, rfl, rfl, _, rfl, ?_⟩
    refine ifF (by first | decide +kernel | (rw [strE]; exact decide_eq_true rfl) | (rw [strE]; refine decide_eq_false ?_; simp only [It.word]; decide +kernel)) ⟨_, rfl, rfl, _, rfl, ?_⟩
    refine ifF (by first | decide +kernel | (rw [strE]; exact decide_eq_true rfl) | (rw [strE]; refine decide_eq_false ?_; simp only [It.word]; decide +kernel)) ⟨_, rfl, rfl, _, rfl, ?_⟩
    refine ifF (by first | decide +kernel | (rw [strE]; exact decide_eq_true rfl) | (rw [strE]; refine decide_eq_false ?_; simp only [It.word]; decide +kernel)) ⟨_, rfl, _, rfl, _, _, rfl, q⟩
/-! ### value_of, holds -/
structure Ev (H : Hp) (xs : List Str) (B k : Nat) (ρ : Str → Int) (dv : Addr) (n : Nat) (b : Bool) (i : It) (v : V) : Prop where
  it : ItemIn H i v
  ok : Okx xs B b i
  dp : i.dep ≤ n
  bs : Bs xs B k ρ
  sz : k * (i.mx + 1) ≤ 134217728
  en : EnvIn H dv ρ xs
theorem Ev.same {H H' : Hp} {xs : List Str} {B k : Nat} {ρ : Str → Int} {dv : Addr} {n : Nat} {b : Bool} {i : It} {v : V} (h : Ev H xs B k ρ dv n b i v) (s : Same H H') : Ev H' xs B k ρ dv n b i v := ⟨h.it.mono (Tp.same s), h.ok, h.dp, h.bs, h.sz, h.en.same s⟩
theorem Ev.kid {H : Hp} {xs : List Str} {B k : Nat} {ρ : Str → Int} {dv : Addr} {n : Nat} {b b' : Bool} {i j : It} {v x : V} (h : Ev H xs B k ρ dv (n + 1) b i v) (hj : j ∈ i.kids) (hx : ItemIn H j x) (ho : Okx xs B b' j) : Ev H xs B k ρ dv n b' j x := by
  have h1 := depL_in hj
  have h2 := @kids_dep i
  have h3 := h.dp
  have h4 := mx_kid hj
  exact ⟨hx, ho, by omega, h.bs, Nat.le_trans (Nat.mul_le_mul_left k (by omega)) h.sz, h.en⟩
theorem Ev.bits {H : Hp} {xs : List Str} {B k : Nat} {ρ : Str → Int} {dv : Addr} {n : Nat} {i : It} {v : V} (h : Ev H xs B k ρ dv n false i v) : Builtin.Int.intBits (i.ev ρ) ≤ k * i.mx := (ev_bits h.bs h.ok rfl).1
def spEv (n : Nat) : Sp := fun vs H Q _ => ∃ (v : V) (dv : Addr) (i : It) (xs : List Str) (B k : Nat) (ρ : Str → Int), vs = [v, .ref dv] ∧ Ev H xs B k ρ dv n false i v ∧ ∀ H', Same H H' → Q (.int (i.ev ρ)) H'
def spTr (n : Nat) : Sp := fun vs H Q _ => ∃ (v : V) (dv : Addr) (i : It) (xs : List Str) (B k : Nat) (ρ : Str → Int), vs = [v, .ref dv] ∧ Ev H xs B k ρ dv n true i v ∧ ∀ H', Same H H' → Q (.bl (i.tr ρ)) H'
theorem no_ev {fa : Addr} {fd : FuncData} {ps : List Str} {c : Nat} : FnOk P w K mg base CX0 c fa fd ps (spEv 0) := by
  have no : ∀ vs H Q E, ¬ spEv 0 vs H Q E := fun vs H Q E ⟨v, dv, i, xs, B, k, ρ, _, h, _⟩ => by
    have := dep_pos i
    have := h.dp
    omega
  exact ⟨fun vs H Q E h => absurd h (no vs H Q E), fun A outer s H args us vs Q E _ _ _ _ h => absurd h (no vs H Q E)⟩
theorem no_tr {fa : Addr} {fd : FuncData} {ps : List Str} {c : Nat} : FnOk P w K mg base CX0 c fa fd ps (spTr 0) := by
  have no : ∀ vs H Q E, ¬ spTr 0 vs H Q E := fun vs H Q E ⟨v, dv, i, xs, B, k, ρ, _, h, _⟩ => by
    have := dep_pos i
    have := h.dp
    omega
  exact ⟨fun vs H Q E h => absurd h (no vs H Q E), fun A outer s H args us vs Q E _ _ _ _ h => absurd h (no vs H Q E)⟩
/-- the truths of a group's parts, listed -/
theorem dgetE {H : Hp} {dv : Addr} {ρ : Str → Int} {xs : List Str} {x : Str} (h : EnvIn H dv ρ xs) (hx : x ∈ xs) : DGet H dv (.str x) (some (.int (ρ x))) := by
  obtain ⟨kvs, e, g⟩ := h
  rw [← g x hx]
  exact DGet.k (k := Sum.inr x) e
theorem intE {Q : VK} {a b : Int} {H : Hp} (h : a = b) (q : Q (.int b) H) : Q (.int a) H := by rw [h]; exact q
theorem rd_value (hN : base.NoSeer) (hp : P.given.tree = none) (T : Txt K mg) {n c : Nat} (hc : 33 ≤ c) (Gvalue_of : FnOk P w K mg base CX0 c T.avalue_of T.dvalue_of Pvalue_of (spEv n)) (Gholds : FnOk P w K mg base CX0 c T.aholds T.dholds Pholds (spTr n)) :
    FnOk P w K mg base CX0 (c + 1) T.avalue_of T.dvalue_of Pvalue_of (spEv (n + 1)) := by
  have G_value_of_two := ok_value_of_two (P := P) (w := w) (base := base) T
  refine T.Fvalue_of.ok scvalue_of (fun vs H Q E h => ?_) (fun cdv A outer s H vs Q E hr h => ?_)
  · obtain ⟨v, dv, i, xs, B, k, ρ, rfl, _⟩ := h
    rfl
  obtain ⟨v, dv, i, xs, B, k, ρ, rfl, hv, q⟩ := h
  refine ⟨_, (pss_cons (ps_set (i := 2) scvalue_of.nd rfl (Or.inl rfl) (pe_ix ix_tup (pv 0) pe_int (fun _ _ => rfl)))
    (pss_cons (ps_if (pt_cmpR op_eq (pv 2) pe_str (nomark _))
    (pss_one (ps_ret (pe_ix ix_tup (pv 0) pe_int (fun _ _ => rfl))))
    pss_nil)
    (pss_cons (ps_if (pt_cmpR op_eq (pv 2) pe_str (nomark _))
    (pss_one (ps_ret (pe_dget (hu_of hr) (pv 1) (pe_ix ix_tup (pv 0) pe_int (fun _ _ => rfl)) (fun _ _ => rfl))))
    pss_nil)
    (pss_cons (ps_if (pt_cmpR op_eq (pv 2) pe_str (nomark _))
    (pss_cons (ps_set (i := 3) scvalue_of.nd rfl (Or.inl rfl) (pe_ifExp (pt_val (pe_call Gholds (hr.mono (by omega)) (by rfl) T.mholds T.Fholds.kp T.bholds .nil pass0 (pa_cons (pe_ix ix_tup (pv 0) pe_int (fun _ _ => rfl)) (pa_cons (pv 1) pa_nil)))) (pe_ix ix_tup (pv 0) pe_int (fun _ _ => rfl)) (pe_ix ix_tup (pv 0) pe_int (fun _ _ => rfl))))
    (pss_one (ps_ret (pe_call Gvalue_of (hr.mono (by omega)) (by rfl) T.mvalue_of T.Fvalue_of.kp T.bvalue_of .nil pass0 (pa_cons (pv 3) (pa_cons (pv 1) pa_nil))))))
    pss_nil)
    (pss_cons (ps_if (pt_cmpR op_eq (pv 2) pe_str (nomark _))
    (pss_one (ps_ret (pe_callB (call_abs) (by rfl) T.z_abs (by decide +kernel) (pa_cons (pe_call Gvalue_of (hr.mono (by omega)) (by rfl) T.mvalue_of T.Fvalue_of.kp T.bvalue_of .nil pass0 (pa_cons (pe_ix ix_tup (pv 0) pe_int (fun _ _ => rfl)) (pa_cons (pv 1) pa_nil))) pa_nil))))
    pss_nil)
    (pss_cons (ps_if (pt_cmpR op_eq (pv 2) pe_str (nomark _))
    (pss_one (ps_ret (pe_op (op_fdivN hN hp hr (by omega) rfl (by rfl) (by rfl)) (pe_call Gvalue_of (hr.mono (by omega)) (by rfl) T.mvalue_of T.Fvalue_of.kp T.bvalue_of .nil pass0 (pa_cons (pe_ix ix_tup (pv 0) pe_int (fun _ _ => rfl)) (pa_cons (pv 1) pa_nil))) (pe_ix ix_tup (pv 0) pe_int (fun _ _ => rfl)))))
    pss_nil)
    (pss_cons (ps_if (pt_cmpR op_eq (pv 2) pe_str (nomark _))
    (pss_one (ps_ret (pe_op op_mod (pe_call Gvalue_of (hr.mono (by omega)) (by rfl) T.mvalue_of T.Fvalue_of.kp T.bvalue_of .nil pass0 (pa_cons (pe_ix ix_tup (pv 0) pe_int (fun _ _ => rfl)) (pa_cons (pv 1) pa_nil))) (pe_ix ix_tup (pv 0) pe_int (fun _ _ => rfl)))))
    pss_nil)
    (pss_one (ps_ret (pe_call G_value_of_two (hr.mono (by omega)) (by rfl) T.m_value_of_two T.F_value_of_two.kp T.b_value_of_two .nil pass0 (pa_cons (pv 2) (pa_cons (pe_call Gvalue_of (hr.mono (by omega)) (by rfl) T.mvalue_of T.Fvalue_of.kp T.bvalue_of .nil pass0 (pa_cons (pe_ix ix_tup (pv 0) pe_int (fun _ _ => rfl)) (pa_cons (pv 1) pa_nil))) (pa_cons (pe_call Gvalue_of (hr.mono (by omega)) (by rfl) T.mvalue_of T.Fvalue_of.kp T.bvalue_of .nil pass0 (pa_cons (pe_ix ix_tup (pv 0) pe_int (fun _ _ => rfl)) (pa_cons (pv 1) pa_nil))) pa_nil))))))))))))), ?_⟩
  obtain ⟨a, rfl⟩ := hv.it.ref
  obtain ⟨r, ha⟩ := hv.it.head
  refine ⟨_, rfl, a, _, 0, _, rfl, rfl, sqt ha, atI0, ?_⟩
  refine ⟨_, rfl, rfl, _, rfl, ?_⟩
  have hit := hv.it
  have hok := hv.ok
  cases hok with
  | num hb =>
    cases hit with
    | num e =>
      refine ifT (by first | decide +kernel | (rw [strE]; exact decide_eq_true rfl) | (rw [strE]; refine decide_eq_false ?_; simp only [It.word]; decide +kernel)) ⟨_, rfl, a, _, 1, _, rfl, rfl, sqt e, atI1, ?_⟩
      exact intE (by rw [It.ev]) (q H (Same.refl H))
  | name hx =>
    cases hit with
    | name e =>
      refine ifF (by first | decide +kernel | (rw [strE]; exact decide_eq_true rfl) | (rw [strE]; refine decide_eq_false ?_; simp only [It.word]; decide +kernel)) ⟨_, rfl, rfl, _, rfl, ?_⟩
      refine ifT (by first | decide +kernel | (rw [strE]; exact decide_eq_true rfl) | (rw [strE]; refine decide_eq_false ?_; simp only [It.word]; decide +kernel)) ⟨_, rfl, _, rfl, a, _, 1, _, rfl, rfl, sqt e, atI1, dv, _, rfl, dgetE hv.en hx, ?_⟩
      exact intE (by rw [It.ev]) (q H (Same.refl H))
  | tri hc2 h1 h2 =>
    cases hit with
    | tri e g1 g2 g3 =>
      rename_i ic ia ib vc va vb
      refine ifF (by first | decide +kernel | (rw [strE]; exact decide_eq_true rfl) | (rw [strE]; refine decide_eq_false ?_; simp only [It.word]; decide +kernel)) ⟨_, rfl, rfl, _, rfl, ?_⟩
      refine ifF (by first | decide +kernel | (rw [strE]; exact decide_eq_true rfl) | (rw [strE]; refine decide_eq_false ?_; simp only [It.word]; decide +kernel)) ⟨_, rfl, rfl, _, rfl, ?_⟩
      refine ifT (by first | decide +kernel | (rw [strE]; exact decide_eq_true rfl) | (rw [strE]; refine decide_eq_false ?_; simp only [It.word]; decide +kernel)) ⟨_, rfl, a, _, 1, _, rfl, rfl, sqt e, atI1, _, rfl, ?_⟩
      refine ⟨_, dv, ic, xs, B, k, ρ, rfl, hv.kid (by simp [It.kids]) g1 hc2, fun H1 s1 => ⟨_, rfl, ?_⟩⟩
      have e1 := s1 _ _ e
      have hv1 := hv.same s1
      refine ite2 (fun c => ?_) (fun c => ?_)
      · refine ⟨_, rfl, a, _, 2, _, rfl, rfl, sqt e1, atI2, _, rfl, _, rfl, _, dv, ia, xs, B, k, ρ, rfl, hv1.kid (by simp [It.kids]) (g2.mono (Tp.same s1)) h1, fun H2 s2 => ?_⟩
        exact intE (by rw [It.ev, if_pos c]) (q H2 (s1.trans s2))
      · refine ⟨_, rfl, a, _, 3, _, rfl, rfl, sqt e1, atI_nat (j := 3) rfl, _, rfl, _, rfl, _, dv, ib, xs, B, k, ρ, rfl, hv1.kid (by simp [It.kids]) (g3.mono (Tp.same s1)) h2, fun H2 s2 => ?_⟩
        exact intE (by rw [It.ev, if_neg c]) (q H2 (s1.trans s2))
  | abs h1 =>
    cases hit with
    | un e g1 =>
      rename_i ia va
      refine ifF (by first | decide +kernel | (rw [strE]; exact decide_eq_true rfl) | (rw [strE]; refine decide_eq_false ?_; simp only [It.word]; decide +kernel)) ⟨_, rfl, rfl, _, rfl, ?_⟩
      refine ifF (by first | decide +kernel | (rw [strE]; exact decide_eq_true rfl) | (rw [strE]; refine decide_eq_false ?_; simp only [It.word]; decide +kernel)) ⟨_, rfl, rfl, _, rfl, ?_⟩
      refine ifF (by first | decide +kernel | (rw [strE]; exact decide_eq_true rfl) | (rw [strE]; refine decide_eq_false ?_; simp only [It.word]; decide +kernel)) ⟨_, rfl, rfl, _, rfl, ?_⟩
      refine ifT (by first | decide +kernel | (rw [strE]; exact decide_eq_true rfl) | (rw [strE]; refine decide_eq_false ?_; simp only [It.word]; decide +kernel)) ⟨_, rfl, a, _, 1, _, rfl, rfl, sqt e, atI1, _, rfl, ?_⟩
      refine ⟨_, dv, ia, xs, B, k, ρ, rfl, hv.kid (by simp [It.kids]) g1 h1, fun H1 s1 => ⟨_, rfl, ?_⟩⟩
      exact intE (by rw [It.ev]) (q H1 s1)
  | dm hw h1 h2 h3 =>
    cases hit with
    | dm e g1 =>
      rename_i ww ia m va
      simp only [List.mem_cons, List.not_mem_nil, or_false] at hw
      have hk := hv.kid (by simp [It.kids]) g1 h1
      rcases hw with rfl | rfl
      · refine ifF (by first | decide +kernel | (rw [strE]; exact decide_eq_true rfl) | (rw [strE]; refine decide_eq_false ?_; simp only [It.word]; decide +kernel)) ⟨_, rfl, rfl, _, rfl, ?_⟩
        refine ifF (by first | decide +kernel | (rw [strE]; exact decide_eq_true rfl) | (rw [strE]; refine decide_eq_false ?_; simp only [It.word]; decide +kernel)) ⟨_, rfl, rfl, _, rfl, ?_⟩
        refine ifF (by first | decide +kernel | (rw [strE]; exact decide_eq_true rfl) | (rw [strE]; refine decide_eq_false ?_; simp only [It.word]; decide +kernel)) ⟨_, rfl, rfl, _, rfl, ?_⟩
        refine ifF (by first | decide +kernel | (rw [strE]; exact decide_eq_true rfl) | (rw [strE]; refine decide_eq_false ?_; simp only [It.word]; decide +kernel)) ⟨_, rfl, rfl, _, rfl, ?_⟩
        refine ifT (by first | decide +kernel | (rw [strE]; exact decide_eq_true rfl) | (rw [strE]; refine decide_eq_false ?_; simp only [It.word]; decide +kernel)) ⟨_, rfl, a, _, 1, _, rfl, rfl, sqt e, atI1, _, rfl, _, dv, ia, xs, B, k, ρ, rfl, hk, fun H1 s1 => ?_⟩
        refine ⟨_, rfl, a, _, 2, _, rfl, rfl, sqt (s1 _ _ e), atI2, _, _, rfl, rfl, (by show 0 < m; omega), ?_⟩
        exact intE (by rw [It.ev, if_pos rfl]) (q H1 s1)
      · refine ifF (by first | decide +kernel | (rw [strE]; exact decide_eq_true rfl) | (rw [strE]; refine decide_eq_false ?_; simp only [It.word]; decide +kernel)) ⟨_, rfl, rfl, _, rfl, ?_⟩
        refine ifF (by first | decide +kernel | (rw [strE]; exact decide_eq_true rfl) | (rw [strE]; refine decide_eq_false ?_; simp only [It.word]; decide +kernel)) ⟨_, rfl, rfl, _, rfl, ?_⟩
        refine ifF (by first | decide +kernel | (rw [strE]; exact decide_eq_true rfl) | (rw [strE]; refine decide_eq_false ?_; simp only [It.word]; decide +kernel)) ⟨_, rfl, rfl, _, rfl, ?_⟩
        refine ifF (by first | decide +kernel | (rw [strE]; exact decide_eq_true rfl) | (rw [strE]; refine decide_eq_false ?_; simp only [It.word]; decide +kernel)) ⟨_, rfl, rfl, _, rfl, ?_⟩
        refine ifF (by first | decide +kernel | (rw [strE]; exact decide_eq_true rfl) | (rw [strE]; refine decide_eq_false ?_; simp only [It.word]; decide +kernel)) ⟨_, rfl, rfl, _, rfl, ?_⟩
        refine ifT (by first | decide +kernel | (rw [strE]; exact decide_eq_true rfl) | (rw [strE]; refine decide_eq_false ?_; simp only [It.word]; decide +kernel)) ⟨_, rfl, a, _, 1, _, rfl, rfl, sqt e, atI1, _, rfl, _, dv, ia, xs, B, k, ρ, rfl, hk, fun H1 s1 => ?_⟩
        refine ⟨_, rfl, a, _, 2, _, rfl, rfl, sqt (s1 _ _ e), atI2, _, _, rfl, rfl, (by show 0 < m; omega), ?_⟩
        exact intE (by rw [It.ev, if_neg (by decide +kernel)]) (q H1 s1)
  | bin hw h1 h2 =>
    cases hit with
    | bin e g1 g2 =>
      rename_i ww ia ib va vb
      have hk1 := hv.kid (by simp [It.kids]) g1 h1
      refine ifF (no5 hw (by decide +kernel)) ⟨_, rfl, rfl, _, rfl, ?_⟩
      refine ifF (no5 hw (by decide +kernel)) ⟨_, rfl, rfl, _, rfl, ?_⟩
      refine ifF (no5 hw (by decide +kernel)) ⟨_, rfl, rfl, _, rfl, ?_⟩
      refine ifF (no5 hw (by decide +kernel)) ⟨_, rfl, rfl, _, rfl, ?_⟩
      refine ifF (no5 hw (by decide +kernel)) ⟨_, rfl, rfl, _, rfl, ?_⟩
      refine ifF (no5 hw (by decide +kernel)) ⟨_, rfl, _, rfl, a, _, 1, _, rfl, rfl, sqt e, atI1, _, rfl, _, dv, ia, xs, B, k, ρ, rfl, hk1, fun H1 s1 => ?_⟩
      have hv1 := hv.same s1
      have hk2 := hv1.kid (by simp [It.kids]) (g2.mono (Tp.same s1)) h2
      refine ⟨_, rfl, a, _, 2, _, rfl, rfl, sqt (s1 _ _ e), atI2, _, rfl, _, dv, ib, xs, B, k, ρ, rfl, hk2, fun H2 s2 => ?_⟩
      have hsz := hv.sz
      rw [It.mx, Nat.mul_add, Nat.mul_add] at hsz
      refine ⟨ww, _, _, rfl, hw, mul_ok hk1.bits hk2.bits (by omega), ?_⟩
      exact intE (by rw [It.ev]) (q H2 (s1.trans s2))
theorem truths {l : List It} {ρ : Str → Int} {j : Nat} {u : It} (h : l[j]? = some u) : ((l.take j).map (It.tr ρ)).map V.bl ++ [V.bl (u.tr ρ)] = ((l.take (j + 1)).map (It.tr ρ)).map V.bl := by
  rw [List.take_add_one, h, List.map_append, List.map_append]
  rfl
theorem rd_holds (T : Txt K mg) {n c : Nat} (Gvalue_of : FnOk P w K mg base CX0 c T.avalue_of T.dvalue_of Pvalue_of (spEv n)) (Gholds : FnOk P w K mg base CX0 c T.aholds T.dholds Pholds (spTr n)) :
    FnOk P w K mg base CX0 (c + 1) T.aholds T.dholds Pholds (spTr (n + 1)) := by
  refine T.Fholds.ok scholds (fun vs H Q E h => ?_) (fun cdv A outer s H vs Q E hr h => ?_)
  · obtain ⟨v, dv, i, xs, B, k, ρ, rfl, _⟩ := h
    rfl
  obtain ⟨v, dv, i, xs, B, k, ρ, rfl, hv, q⟩ := h
  refine ⟨_, (pss_cons (ps_set (i := 2) scholds.nd rfl (Or.inl rfl) (pe_ix ix_tup (pv 0) pe_int (fun _ _ => rfl)))
    (pss_cons (ps_if (pt_cmpR op_eq (pv 2) pe_str (nomark _))
    (pss_one (ps_ret pe_bl))
    pss_nil)
    (pss_cons (ps_if (pt_cmpR op_eq (pv 2) pe_str (nomark _))
    (pss_one (ps_ret pe_bl))
    pss_nil)
    (pss_cons (ps_if (pt_cmpR op_eq (pv 2) pe_str (nomark _))
    (pss_one (ps_ret (pe_cmpR op_lt (pe_call Gvalue_of (hr.mono (by omega)) (by rfl) T.mvalue_of T.Fvalue_of.kp T.bvalue_of .nil pass0 (pa_cons (pe_ix ix_tup (pv 0) pe_int (fun _ _ => rfl)) (pa_cons (pv 1) pa_nil))) (pe_call Gvalue_of (hr.mono (by omega)) (by rfl) T.mvalue_of T.Fvalue_of.kp T.bvalue_of .nil pass0 (pa_cons (pe_ix ix_tup (pv 0) pe_int (fun _ _ => rfl)) (pa_cons (pv 1) pa_nil))) (nomark _))))
    pss_nil)
    (pss_cons (ps_if (pt_cmpR op_eq (pv 2) pe_str (nomark _))
    (pss_one (ps_ret (pe_cmpR op_eq (pe_call Gvalue_of (hr.mono (by omega)) (by rfl) T.mvalue_of T.Fvalue_of.kp T.bvalue_of .nil pass0 (pa_cons (pe_ix ix_tup (pv 0) pe_int (fun _ _ => rfl)) (pa_cons (pv 1) pa_nil))) (pe_call Gvalue_of (hr.mono (by omega)) (by rfl) T.mvalue_of T.Fvalue_of.kp T.bvalue_of .nil pass0 (pa_cons (pe_ix ix_tup (pv 0) pe_int (fun _ _ => rfl)) (pa_cons (pv 1) pa_nil))) (nomark _))))
    pss_nil)
    (pss_cons (ps_if (pt_cmpR op_eq (pv 2) pe_str (nomark _))
    (pss_one (ps_ret (pe_not (pe_call Gholds (hr.mono (by omega)) (by rfl) T.mholds T.Fholds.kp T.bholds .nil pass0 (pa_cons (pe_ix ix_tup (pv 0) pe_int (fun _ _ => rfl)) (pa_cons (pv 1) pa_nil))))))
    pss_nil)
    (pss_cons (ps_if (pt_cmpR op_eq (pv 2) pe_str (nomark _))
    (pss_one (ps_ret (pe_callB (cr_all rfl) (by rfl) T.z_all (by decide +kernel) (pa_cons (pe_lc (own := [("part", 3)]) (g := (gName 3)) (tt := tYes) rfl scholds.nd (pi_tup (pe_ix ix_tup (pv 0) pe_int (fun _ _ => rfl))) (blkOk_by (N := Nholds) (sc := defScope sholds) (by decide +kernel)) (fun _ _ _ _ _ => (pg_name (i := 3) scholds.nd rfl (Or.inl rfl))) (fun _ _ _ _ _ => pts_nil) (fun _ _ _ _ _ => (pe_call Gholds (hr.mono (by omega)) (by rfl) T.mholds T.Fholds.kp T.bholds .nil pass0 (pa_cons (pv 3) (pa_cons (pv 1) pa_nil))))) pa_nil))))
    pss_nil)
    (pss_one (ps_ret (pe_callB (cr_any rfl) (by rfl) T.z_any (by decide +kernel) (pa_cons (pe_lc (own := [("part", 3)]) (g := (gName 3)) (tt := tYes) rfl scholds.nd (pi_tup (pe_ix ix_tup (pv 0) pe_int (fun _ _ => rfl))) (blkOk_by (N := Nholds) (sc := defScope sholds) (by decide +kernel)) (fun _ _ _ _ _ => (pg_name (i := 3) scholds.nd rfl (Or.inl rfl))) (fun _ _ _ _ _ => pts_nil) (fun _ _ _ _ _ => (pe_call Gholds (hr.mono (by omega)) (by rfl) T.mholds T.Fholds.kp T.bholds .nil pass0 (pa_cons (pv 3) (pa_cons (pv 1) pa_nil))))) pa_nil))))))))))), ?_⟩
  obtain ⟨a, rfl⟩ := hv.it.ref
  obtain ⟨r, ha⟩ := hv.it.head
  refine ⟨_, rfl, a, _, 0, _, rfl, rfl, sqt ha, atI0, ?_⟩
  refine ⟨_, rfl, rfl, _, rfl, ?_⟩
  have hit := hv.it
  have hok := hv.ok
  cases hok with
  | lit =>
    rename_i b
    cases b with
    | true => exact ifT (by first | decide +kernel | (rw [strE]; exact decide_eq_true rfl) | (rw [strE]; refine decide_eq_false ?_; simp only [It.word]; decide +kernel)) (boolV (by rw [It.tr]) (q H (Same.refl H)))
    | false =>
      refine ifF (by first | decide +kernel | (rw [strE]; exact decide_eq_true rfl) | (rw [strE]; refine decide_eq_false ?_; simp only [It.word]; decide +kernel)) ⟨_, rfl, rfl, _, rfl, ?_⟩
      exact ifT (by first | decide +kernel | (rw [strE]; exact decide_eq_true rfl) | (rw [strE]; refine decide_eq_false ?_; simp only [It.word]; decide +kernel)) (boolV (by rw [It.tr]) (q H (Same.refl H)))
  | cmp hw h1 h2 =>
    cases hit with
    | bin e g1 g2 =>
      rename_i ww ia ib va vb
      simp only [List.mem_cons, List.not_mem_nil, or_false] at hw
      have hk1 := hv.kid (by simp [It.kids]) g1 h1
      rcases hw with rfl | rfl
      · refine ifF (by first | decide +kernel | (rw [strE]; exact decide_eq_true rfl) | (rw [strE]; refine decide_eq_false ?_; simp only [It.word]; decide +kernel)) ⟨_, rfl, rfl, _, rfl, ?_⟩
        refine ifF (by first | decide +kernel | (rw [strE]; exact decide_eq_true rfl) | (rw [strE]; refine decide_eq_false ?_; simp only [It.word]; decide +kernel)) ⟨_, rfl, rfl, _, rfl, ?_⟩
        refine ifT (by first | decide +kernel | (rw [strE]; exact decide_eq_true rfl) | (rw [strE]; refine decide_eq_false ?_; simp only [It.word]; decide +kernel)) ⟨_, rfl, a, _, 1, _, rfl, rfl, sqt e, atI1, _, rfl, _, dv, ia, xs, B, k, ρ, rfl, hk1, fun H1 s1 => ?_⟩
        have hk2 := (hv.same s1).kid (by simp [It.kids]) (g2.mono (Tp.same s1)) h2
        refine ⟨_, rfl, a, _, 2, _, rfl, rfl, sqt (s1 _ _ e), atI2, _, rfl, _, dv, ib, xs, B, k, ρ, rfl, hk2, fun H2 s2 => ⟨_, _, rfl, rfl, ?_⟩⟩
        exact boolV (by rw [It.tr, if_pos rfl]) (q H2 (s1.trans s2))
      · refine ifF (by first | decide +kernel | (rw [strE]; exact decide_eq_true rfl) | (rw [strE]; refine decide_eq_false ?_; simp only [It.word]; decide +kernel)) ⟨_, rfl, rfl, _, rfl, ?_⟩
        refine ifF (by first | decide +kernel | (rw [strE]; exact decide_eq_true rfl) | (rw [strE]; refine decide_eq_false ?_; simp only [It.word]; decide +kernel)) ⟨_, rfl, rfl, _, rfl, ?_⟩
        refine ifF (by first | decide +kernel | (rw [strE]; exact decide_eq_true rfl) | (rw [strE]; refine decide_eq_false ?_; simp only [It.word]; decide +kernel)) ⟨_, rfl, rfl, _, rfl, ?_⟩
        refine ifT (by first | decide +kernel | (rw [strE]; exact decide_eq_true rfl) | (rw [strE]; refine decide_eq_false ?_; simp only [It.word]; decide +kernel)) ⟨_, rfl, a, _, 1, _, rfl, rfl, sqt e, atI1, _, rfl, _, dv, ia, xs, B, k, ρ, rfl, hk1, fun H1 s1 => ?_⟩
        have hk2 := (hv.same s1).kid (by simp [It.kids]) (g2.mono (Tp.same s1)) h2
        refine ⟨_, rfl, a, _, 2, _, rfl, rfl, sqt (s1 _ _ e), atI2, _, rfl, _, dv, ib, xs, B, k, ρ, rfl, hk2, fun H2 s2 => ⟨rfl, ?_⟩⟩
        refine boolV ?_ (q H2 (s1.trans s2))
        rw [It.tr, if_neg (by decide +kernel)]
        exact decide_eq_decide.mpr ⟨V.int.inj, fun h => by rw [h]⟩
  | not h1 =>
    cases hit with
    | un e g1 =>
      rename_i ia va
      refine ifF (by first | decide +kernel | (rw [strE]; exact decide_eq_true rfl) | (rw [strE]; refine decide_eq_false ?_; simp only [It.word]; decide +kernel)) ⟨_, rfl, rfl, _, rfl, ?_⟩
      refine ifF (by first | decide +kernel | (rw [strE]; exact decide_eq_true rfl) | (rw [strE]; refine decide_eq_false ?_; simp only [It.word]; decide +kernel)) ⟨_, rfl, rfl, _, rfl, ?_⟩
      refine ifF (by first | decide +kernel | (rw [strE]; exact decide_eq_true rfl) | (rw [strE]; refine decide_eq_false ?_; simp only [It.word]; decide +kernel)) ⟨_, rfl, rfl, _, rfl, ?_⟩
      refine ifF (by first | decide +kernel | (rw [strE]; exact decide_eq_true rfl) | (rw [strE]; refine decide_eq_false ?_; simp only [It.word]; decide +kernel)) ⟨_, rfl, rfl, _, rfl, ?_⟩
      refine ifT (by first | decide +kernel | (rw [strE]; exact decide_eq_true rfl) | (rw [strE]; refine decide_eq_false ?_; simp only [It.word]; decide +kernel)) ⟨_, rfl, a, _, 1, _, rfl, rfl, sqt e, atI1, _, rfl, ?_⟩
      refine ⟨_, dv, ia, xs, B, k, ρ, rfl, hv.kid (by simp [It.kids]) g1 h1, fun H1 s1 => ⟨_, rfl, ?_⟩⟩
      exact boolV (by rw [It.tr]) (q H1 s1)
  | grp hw hl hall =>
    cases hit with
    | grp e e2 hlen hk =>
      rename_i ww l b ys
      have hkids : Kids H l ys := ⟨hlen, hk⟩
      simp only [List.mem_cons, List.not_mem_nil, or_false] at hw
      rcases hw with rfl | rfl
      · refine ifF (by first | decide +kernel | (rw [strE]; exact decide_eq_true rfl) | (rw [strE]; refine decide_eq_false ?_; simp only [It.word]; decide +kernel)) ⟨_, rfl, rfl, _, rfl, ?_⟩
        refine ifF (by first | decide +kernel | (rw [strE]; exact decide_eq_true rfl) | (rw [strE]; refine decide_eq_false ?_; simp only [It.word]; decide +kernel)) ⟨_, rfl, rfl, _, rfl, ?_⟩
        refine ifF (by first | decide +kernel | (rw [strE]; exact decide_eq_true rfl) | (rw [strE]; refine decide_eq_false ?_; simp only [It.word]; decide +kernel)) ⟨_, rfl, rfl, _, rfl, ?_⟩
        refine ifF (by first | decide +kernel | (rw [strE]; exact decide_eq_true rfl) | (rw [strE]; refine decide_eq_false ?_; simp only [It.word]; decide +kernel)) ⟨_, rfl, rfl, _, rfl, ?_⟩
        refine ifF (by first | decide +kernel | (rw [strE]; exact decide_eq_true rfl) | (rw [strE]; refine decide_eq_false ?_; simp only [It.word]; decide +kernel)) ⟨_, rfl, rfl, _, rfl, ?_⟩
        refine ifT (by first | decide +kernel | (rw [strE]; exact decide_eq_true rfl) | (rw [strE]; refine decide_eq_false ?_; simp only [It.word]; decide +kernel)) ⟨_, rfl, a, _, 1, _, rfl, rfl, sqt e, atI1, b, rfl, ⟨_, sqt e2⟩, fun D hD => ?_⟩
        refine lc_tup (K := K) (a := b) (xs := ys) (fun (j : Nat) (H' : Hp) => Same H H' ∧ H' D = some (.lst (((l.take j).map (It.tr ρ)).map V.bl))) ?_ ?_ ?_ ?_
        · exact ⟨same_new hD _, by rw [upd_same, List.take_zero] <;> rfl⟩
        · rintro j H' _ ⟨s3, _⟩
          exact sqt (s3 _ _ e2)
        · rintro j x H' hx ⟨s3, e3⟩
          obtain ⟨u, hu, hin, hmem⟩ := hkids.get hx
          refine ⟨rfl, yes_if ?_⟩
          refine ⟨_, rfl, _, rfl, _, dv, u, xs, B, k, ρ, rfl, (hv.same s3).kid hmem (hin.mono (Tp.same s3)) (hall u hmem), fun H4 s4 => ?_⟩
          refine ⟨_, s4 _ _ e3, ?_, same_put (s3.trans s4) hD, ?_⟩
          · rw [List.length_map, List.length_map, List.length_take]
            exact small1000 (by omega)
          · rw [upd_same, truths hu]
        · rintro H3 ⟨s3, e3⟩
          rw [hlen, List.take_length] at e3
          refine ⟨D, _, rfl, sqd e3, ?_⟩
          exact boolV (by rw [It.tr, if_pos rfl, trL_map]) (q H3 s3)
      · refine ifF (by first | decide +kernel | (rw [strE]; exact decide_eq_true rfl) | (rw [strE]; refine decide_eq_false ?_; simp only [It.word]; decide +kernel)) ⟨_, rfl, rfl, _, rfl, ?_⟩
        refine ifF (by first | decide +kernel | (rw [strE]; exact decide_eq_true rfl) | (rw [strE]; refine decide_eq_false ?_; simp only [It.word]; decide +kernel)) ⟨_, rfl, rfl, _, rfl, ?_⟩
        refine ifF (by first | decide +kernel | (rw [strE]; exact decide_eq_true rfl) | (rw [strE]; refine decide_eq_false ?_; simp only [It.word]; decide +kernel)) ⟨_, rfl, rfl, _, rfl, ?_⟩
        refine ifF (by first | decide +kernel | (rw [strE]; exact decide_eq_true rfl) | (rw [strE]; refine decide_eq_false ?_; simp only [It.word]; decide +kernel)) ⟨_, rfl, rfl, _, rfl, ?_⟩
        refine ifF (by first | decide +kernel | (rw [strE]; exact decide_eq_true rfl) | (rw [strE]; refine decide_eq_false ?_; simp only [It.word]; decide +kernel)) ⟨_, rfl, rfl, _, rfl, ?_⟩
        refine ifF (by first | decide +kernel | (rw [strE]; exact decide_eq_true rfl) | (rw [strE]; refine decide_eq_false ?_; simp only [It.word]; decide +kernel)) ⟨_, rfl, a, _, 1, _, rfl, rfl, sqt e, atI1, b, rfl, ⟨_, sqt e2⟩, fun D hD => ?_⟩
        refine lc_tup (K := K) (a := b) (xs := ys) (fun (j : Nat) (H' : Hp) => Same H H' ∧ H' D = some (.lst (((l.take j).map (It.tr ρ)).map V.bl))) ?_ ?_ ?_ ?_
        · exact ⟨same_new hD _, by rw [upd_same, List.take_zero] <;> rfl⟩
        · rintro j H' _ ⟨s3, _⟩
          exact sqt (s3 _ _ e2)
        · rintro j x H' hx ⟨s3, e3⟩
          obtain ⟨u, hu, hin, hmem⟩ := hkids.get hx
          refine ⟨rfl, yes_if ?_⟩
          refine ⟨_, rfl, _, rfl, _, dv, u, xs, B, k, ρ, rfl, (hv.same s3).kid hmem (hin.mono (Tp.same s3)) (hall u hmem), fun H4 s4 => ?_⟩
          refine ⟨_, s4 _ _ e3, ?_, same_put (s3.trans s4) hD, ?_⟩
          · rw [List.length_map, List.length_map, List.length_take]
            exact small1000 (by omega)
          · rw [upd_same, truths hu]
        · rintro H3 ⟨s3, e3⟩
          rw [hlen, List.take_length] at e3
          refine ⟨D, _, rfl, sqd e3, ?_⟩
          exact boolV (by rw [It.tr, if_neg (by decide +kernel), trL_map]) (q H3 s3)
theorem rd_values (hN : base.NoSeer) (hp : P.given.tree = none) (T : Txt K mg) : ∀ n : Nat, FnOk P w K mg base CX0 (n + 33) T.avalue_of T.dvalue_of Pvalue_of (spEv n) ∧ FnOk P w K mg base CX0 (n + 33) T.aholds T.dholds Pholds (spTr n)
  | 0 => ⟨no_ev, no_tr⟩
  | n + 1 => by
    obtain ⟨gv, gh⟩ := rd_values hN hp T n
    exact ⟨rd_value hN hp T (by omega) gv gh, rd_holds T gv gh⟩
end
end NL

namespace NL
open PySem PySem.Spec PyProof.Rows L2
theorem opv_add {x y : Int} : opv "add" x y = x + y := if_pos rfl
theorem opv_sub {x y : Int} : opv "sub" x y = x - y := by unfold opv; rw [if_neg (by decide +kernel), if_pos rfl]
theorem opv_mul {x y : Int} : opv "mul" x y = x * y := by unfold opv; rw [if_neg (by decide +kernel), if_neg (by decide +kernel), if_pos rfl]
theorem opv_min {x y : Int} : opv "min" x y = if y < x then y else x := by unfold opv; rw [if_neg (by decide +kernel), if_neg (by decide +kernel), if_neg (by decide +kernel), if_pos rfl]
theorem opv_max {x y : Int} : opv "max" x y = if y > x then y else x := by unfold opv; rw [if_neg (by decide +kernel), if_neg (by decide +kernel), if_neg (by decide +kernel), if_neg (by decide +kernel)]
theorem inV_bl {c : Bool} {bs : List Bool} : inV (.bl c) (bs.map V.bl) = decide (c ∈ bs) := by
  unfold inV
  rw [List.any_map]
  induction bs with
  | nil => rfl
  | cons y r ih =>
    rw [List.any_cons, ih]
    show (eqV (.bl y) (.bl c) || _) = _
    have e : eqV (.bl y) (.bl c) = decide (c = y) := by cases y <;> cases c <;> rfl
    rw [e]
    by_cases h : c = y
    · rw [decide_eq_true h, decide_eq_true (List.mem_cons.mpr (.inl h)), Bool.true_or]
    · rw [decide_eq_false h, Bool.false_or]
      exact decide_eq_decide.mpr ⟨fun m => List.mem_cons_of_mem _ m, fun m => (List.mem_cons.mp m).resolve_left h⟩
theorem flat_bls (bs : List Bool) : (bs.map V.bl).all flatV = true := by
  rw [List.all_map]
  exact List.all_eq_true.mpr fun _ _ => rfl
theorem all_in {bs : List Bool} : decide (V.bl (decide (false ∈ bs)) = V.bl false) = bs.all id := by
  induction bs with
  | nil => decide +kernel
  | cons y r ih =>
    rw [List.all_cons, ← ih]
    cases y with
    | false => simp
    | true => simp
theorem any_in {bs : List Bool} : decide (V.bl (decide (true ∈ bs)) = V.bl true) = bs.any id := by
  induction bs with
  | nil => decide +kernel
  | cons y r ih =>
    rw [List.any_cons, ← ih]
    cases y with
    | false => simp
    | true => simp
theorem bigv {n : Nat} (h : n ≤ 1000000) : n < sizeLine := Nat.lt_of_le_of_lt h (by decide)
theorem minus_one {x : Int} : x + -1 * 1 = x - 1 := by omega
section
variable {P : Program} {w : World} {K : PySem.W.Frag} {mg : Str → Option Value} {base : Heap}
theorem rd_lvalue (hN : base.NoSeer) (hp : P.given.tree = none) (T : Txt K mg) {n c : Nat} (hc : 33 ≤ c) (G_law_value : FnOk P w K mg base CX0 c T.a_law_value T.d_law_value P_law_value (spEv n)) (G_law_truth : FnOk P w K mg base CX0 c T.a_law_truth T.d_law_truth P_law_truth (spTr n)) :
    FnOk P w K mg base CX0 (c + 1) T.a_law_value T.d_law_value P_law_value (spEv (n + 1)) := by
  refine T.F_law_value.ok sc_law_value (fun vs H Q E h => ?_) (fun cdv A outer s H vs Q E hr h => ?_)
  · obtain ⟨v, dv, i, xs, B, k, ρ, rfl, _⟩ := h
    rfl
  obtain ⟨v, dv, i, xs, B, k, ρ, rfl, hv, q⟩ := h
  refine ⟨_, (pss_cons (ps_set (i := 2) sc_law_value.nd rfl (Or.inl rfl) (pe_ix ix_tup (pv 0) pe_int (fun _ _ => rfl)))
    (pss_cons (ps_if (pt_cmpR op_eq (pv 2) pe_str (nomark _))
    (pss_one (ps_ret (pe_ix ix_tup (pv 0) pe_int (fun _ _ => rfl))))
    pss_nil)
    (pss_cons (ps_if (pt_cmpR op_eq (pv 2) pe_str (nomark _))
    (pss_one (ps_ret (pe_dget (hu_of hr) (pv 1) (pe_ix ix_tup (pv 0) pe_int (fun _ _ => rfl)) (fun _ _ => rfl))))
    pss_nil)
    (pss_cons (ps_if (pt_cmpR op_eq (pv 2) pe_str (nomark _))
    (pss_cons (ps_if (pt_val (pe_call G_law_truth (hr.mono (by omega)) (by rfl) T.m_law_truth T.F_law_truth.kp T.b_law_truth .nil pass0 (pa_cons (pe_ix ix_tup (pv 0) pe_int (fun _ _ => rfl)) (pa_cons (pv 1) pa_nil))))
    (pss_one (ps_ret (pe_call G_law_value (hr.mono (by omega)) (by rfl) T.m_law_value T.F_law_value.kp T.b_law_value .nil pass0 (pa_cons (pe_ix ix_tup (pv 0) pe_int (fun _ _ => rfl)) (pa_cons (pv 1) pa_nil)))))
    pss_nil)
    (pss_one (ps_ret (pe_call G_law_value (hr.mono (by omega)) (by rfl) T.m_law_value T.F_law_value.kp T.b_law_value .nil pass0 (pa_cons (pe_ix ix_tup (pv 0) pe_int (fun _ _ => rfl)) (pa_cons (pv 1) pa_nil))))))
    pss_nil)
    (pss_cons (ps_set (i := 3) sc_law_value.nd rfl (Or.inl rfl) (pe_call G_law_value (hr.mono (by omega)) (by rfl) T.m_law_value T.F_law_value.kp T.b_law_value .nil pass0 (pa_cons (pe_ix ix_tup (pv 0) pe_int (fun _ _ => rfl)) (pa_cons (pv 1) pa_nil))))
    (pss_cons (ps_if (pt_cmpR op_eq (pv 2) pe_str (nomark _))
    (pss_one (ps_ret (pe_callB (call_max2 rfl) (by rfl) T.z_max (by decide +kernel) (pa_cons (pv 3) (pa_cons (pe_un un_neg (pv 3)) pa_nil)))))
    pss_nil)
    (pss_cons (ps_if (pt_cmpR op_eq (pv 2) pe_str (nomark _))
    (pss_one (ps_ret (pe_op (op_fdivN hN hp hr (by omega) rfl (by rfl) (by rfl)) (pv 3) (pe_ix ix_tup (pv 0) pe_int (fun _ _ => rfl)))))
    pss_nil)
    (pss_cons (ps_if (pt_cmpR op_eq (pv 2) pe_str (nomark _))
    (pss_one (ps_ret (pe_op op_sub (pv 3) (pe_op op_mulX (pe_op (op_fdivN hN hp hr (by omega) rfl (by rfl) (by rfl)) (pv 3) (pe_ix ix_tup (pv 0) pe_int (fun _ _ => rfl))) (pe_ix ix_tup (pv 0) pe_int (fun _ _ => rfl))))))
    pss_nil)
    (pss_cons (ps_set (i := 4) sc_law_value.nd rfl (Or.inl rfl) (pe_call G_law_value (hr.mono (by omega)) (by rfl) T.m_law_value T.F_law_value.kp T.b_law_value .nil pass0 (pa_cons (pe_ix ix_tup (pv 0) pe_int (fun _ _ => rfl)) (pa_cons (pv 1) pa_nil))))
    (pss_cons (ps_if (PW.pt (pw_or (pt_cmpR op_eq (pv 2) pe_str (nomark _)) (pw_or1 (pt_cmpR op_eq (pv 2) pe_str (nomark _)))))
    (pss_one (ps_ret (pe_op op_add (pv 3) (pe_op op_mulX (pv 4) (pe_ix ix_list (pe_lst (pa_cons pe_int (pa_cons (pe_un un_neg pe_int) pa_nil))) (pe_callTy call_int1 (by rfl) T.z_int (by decide +kernel) (pa_cons (pe_cmpR op_eq (pv 2) pe_str (nomark _)) pa_nil)) (fun _ _ => rfl))))))
    pss_nil)
    (pss_cons (ps_if (pt_cmpR op_eq (pv 2) pe_str (nomark _))
    (pss_one (ps_ret (pe_op op_mulX (pv 3) (pv 4))))
    pss_nil)
    (pss_cons (ps_if (pt_cmpR op_eq (pe_cmpR op_lt (pv 3) (pv 4) (nomark _)) (pe_cmpR op_eq (pv 2) pe_str (nomark _)) (nomark _))
    (pss_one (ps_ret (pv 3)))
    pss_nil)
    (pss_one (ps_ret (pv 4))))))))))))))), ?_⟩
  obtain ⟨a, rfl⟩ := hv.it.ref
  have hit := hv.it
  have hok := hv.ok
  cases hok with
  | num hb =>
    cases hit with
    | num e =>
      refine ⟨_, rfl, a, _, 0, _, rfl, rfl, sqt e, atI0, _, rfl, rfl, _, rfl, ?_⟩
      refine ifT (by first | decide +kernel | (rw [strE]; exact decide_eq_true rfl) | (rw [strE]; refine decide_eq_false ?_; simp only [It.word]; decide +kernel)) ⟨_, rfl, a, _, 1, _, rfl, rfl, sqt e, atI1, ?_⟩
      exact intE (by rw [It.ev]) (q H (Same.refl H))
  | name hx =>
    cases hit with
    | name e =>
      refine ⟨_, rfl, a, _, 0, _, rfl, rfl, sqt e, atI0, _, rfl, rfl, _, rfl, ?_⟩
      refine ifF (by first | decide +kernel | (rw [strE]; exact decide_eq_true rfl) | (rw [strE]; refine decide_eq_false ?_; simp only [It.word]; decide +kernel)) ⟨_, rfl, rfl, _, rfl, ?_⟩
      refine ifT (by first | decide +kernel | (rw [strE]; exact decide_eq_true rfl) | (rw [strE]; refine decide_eq_false ?_; simp only [It.word]; decide +kernel)) ⟨_, rfl, _, rfl, a, _, 1, _, rfl, rfl, sqt e, atI1, dv, _, rfl, dgetE hv.en hx, ?_⟩
      exact intE (by rw [It.ev]) (q H (Same.refl H))
  | tri hc2 h1 h2 =>
    cases hit with
    | tri e g1 g2 g3 =>
      rename_i ic ia ib vc va vb
      refine ⟨_, rfl, a, _, 0, _, rfl, rfl, sqt e, atI0, _, rfl, rfl, _, rfl, ?_⟩
      refine ifF (by first | decide +kernel | (rw [strE]; exact decide_eq_true rfl) | (rw [strE]; refine decide_eq_false ?_; simp only [It.word]; decide +kernel)) ⟨_, rfl, rfl, _, rfl, ?_⟩
      refine ifF (by first | decide +kernel | (rw [strE]; exact decide_eq_true rfl) | (rw [strE]; refine decide_eq_false ?_; simp only [It.word]; decide +kernel)) ⟨_, rfl, rfl, _, rfl, ?_⟩
      refine ifT (by first | decide +kernel | (rw [strE]; exact decide_eq_true rfl) | (rw [strE]; refine decide_eq_false ?_; simp only [It.word]; decide +kernel)) ⟨_, rfl, a, _, 1, _, rfl, rfl, sqt e, atI1, _, rfl, ?_⟩
      refine ⟨_, dv, ic, xs, B, k, ρ, rfl, hv.kid (by simp [It.kids]) g1 hc2, fun H1 s1 => ⟨_, rfl, ?_⟩⟩
      have e1 := s1 _ _ e
      have hv1 := hv.same s1
      refine ite2 (fun c => ?_) (fun c => ?_)
      · refine ⟨_, rfl, a, _, 2, _, rfl, rfl, sqt e1, atI2, _, rfl, _, dv, ia, xs, B, k, ρ, rfl, hv1.kid (by simp [It.kids]) (g2.mono (Tp.same s1)) h1, fun H2 s2 => ?_⟩
        exact intE (by rw [It.ev, if_pos c]) (q H2 (s1.trans s2))
      · refine ⟨_, rfl, a, _, 3, _, rfl, rfl, sqt e1, atI_nat (j := 3) rfl, _, rfl, _, dv, ib, xs, B, k, ρ, rfl, hv1.kid (by simp [It.kids]) (g3.mono (Tp.same s1)) h2, fun H2 s2 => ?_⟩
        exact intE (by rw [It.ev, if_neg c]) (q H2 (s1.trans s2))
  | abs h1 =>
    cases hit with
    | un e g1 =>
      rename_i ia va
      refine ⟨_, rfl, a, _, 0, _, rfl, rfl, sqt e, atI0, _, rfl, rfl, _, rfl, ?_⟩
      refine ifF (by first | decide +kernel | (rw [strE]; exact decide_eq_true rfl) | (rw [strE]; refine decide_eq_false ?_; simp only [It.word]; decide +kernel)) ⟨_, rfl, rfl, _, rfl, ?_⟩
      refine ifF (by first | decide +kernel | (rw [strE]; exact decide_eq_true rfl) | (rw [strE]; refine decide_eq_false ?_; simp only [It.word]; decide +kernel)) ⟨_, rfl, rfl, _, rfl, ?_⟩
      refine ifF (by first | decide +kernel | (rw [strE]; exact decide_eq_true rfl) | (rw [strE]; refine decide_eq_false ?_; simp only [It.word]; decide +kernel)) ⟨_, rfl, a, _, 1, _, rfl, rfl, sqt e, atI1, _, rfl, _, dv, ia, xs, B, k, ρ, rfl, hv.kid (by simp [It.kids]) g1 h1, fun H1 s1 => ?_⟩
      refine ⟨_, rfl, rfl, _, rfl, ?_⟩
      refine ifT (by first | decide +kernel | (rw [strE]; exact decide_eq_true rfl) | (rw [strE]; refine decide_eq_false ?_; simp only [It.word]; decide +kernel)) ⟨_, rfl, _, rfl, _, rfl, _, _, rfl, ?_⟩
      refine intE ?_ (q H1 s1)
      rw [It.ev]
      by_cases h : ia.ev ρ < 0
      · rw [if_pos h, if_pos (by omega)]
      · rw [if_neg h, if_neg (by omega)]
  | dm hw h1 h2 h3 =>
    cases hit with
    | dm e g1 =>
      rename_i ww ia m va
      simp only [List.mem_cons, List.not_mem_nil, or_false] at hw
      have hk := hv.kid (by simp [It.kids]) g1 h1
      refine ⟨_, rfl, a, _, 0, _, rfl, rfl, sqt e, atI0, _, rfl, rfl, _, rfl, ?_⟩
      rcases hw with rfl | rfl
      · refine ifF (by first | decide +kernel | (rw [strE]; exact decide_eq_true rfl) | (rw [strE]; refine decide_eq_false ?_; simp only [It.word]; decide +kernel)) ⟨_, rfl, rfl, _, rfl, ?_⟩
        refine ifF (by first | decide +kernel | (rw [strE]; exact decide_eq_true rfl) | (rw [strE]; refine decide_eq_false ?_; simp only [It.word]; decide +kernel)) ⟨_, rfl, rfl, _, rfl, ?_⟩
        refine ifF (by first | decide +kernel | (rw [strE]; exact decide_eq_true rfl) | (rw [strE]; refine decide_eq_false ?_; simp only [It.word]; decide +kernel)) ⟨_, rfl, a, _, 1, _, rfl, rfl, sqt e, atI1, _, rfl, _, dv, ia, xs, B, k, ρ, rfl, hk, fun H1 s1 => ?_⟩
        refine ⟨_, rfl, rfl, _, rfl, ?_⟩
        refine ifF (by first | decide +kernel | (rw [strE]; exact decide_eq_true rfl) | (rw [strE]; refine decide_eq_false ?_; simp only [It.word]; decide +kernel)) ⟨_, rfl, rfl, _, rfl, ?_⟩
        refine ifT (by first | decide +kernel | (rw [strE]; exact decide_eq_true rfl) | (rw [strE]; refine decide_eq_false ?_; simp only [It.word]; decide +kernel)) ⟨_, rfl, _, rfl, a, _, 2, _, rfl, rfl, sqt (s1 _ _ e), atI2, _, _, rfl, rfl, (by show 0 < m; omega), ?_⟩
        exact intE (by rw [It.ev, if_pos rfl]) (q H1 s1)
      · refine ifF (by first | decide +kernel | (rw [strE]; exact decide_eq_true rfl) | (rw [strE]; refine decide_eq_false ?_; simp only [It.word]; decide +kernel)) ⟨_, rfl, rfl, _, rfl, ?_⟩
        refine ifF (by first | decide +kernel | (rw [strE]; exact decide_eq_true rfl) | (rw [strE]; refine decide_eq_false ?_; simp only [It.word]; decide +kernel)) ⟨_, rfl, rfl, _, rfl, ?_⟩
        refine ifF (by first | decide +kernel | (rw [strE]; exact decide_eq_true rfl) | (rw [strE]; refine decide_eq_false ?_; simp only [It.word]; decide +kernel)) ⟨_, rfl, a, _, 1, _, rfl, rfl, sqt e, atI1, _, rfl, _, dv, ia, xs, B, k, ρ, rfl, hk, fun H1 s1 => ?_⟩
        have e1 := s1 _ _ e
        refine ⟨_, rfl, rfl, _, rfl, ?_⟩
        refine ifF (by first | decide +kernel | (rw [strE]; exact decide_eq_true rfl) | (rw [strE]; refine decide_eq_false ?_; simp only [It.word]; decide +kernel)) ⟨_, rfl, rfl, _, rfl, ?_⟩
        refine ifF (by first | decide +kernel | (rw [strE]; exact decide_eq_true rfl) | (rw [strE]; refine decide_eq_false ?_; simp only [It.word]; decide +kernel)) ⟨_, rfl, rfl, _, rfl, ?_⟩
        have hsz := hv.sz
        rw [It.mx, Nat.mul_add, Nat.mul_one] at hsz
        have hq : Builtin.Int.intBits (ia.ev ρ / m) ≤ k * ia.mx := by
          have := intBits_fdiv_le (y := m) hk.bits
          rw [Int.fdiv_eq_ediv_of_nonneg _ (by omega)] at this
          exact this
        refine ifT (by first | decide +kernel | (rw [strE]; exact decide_eq_true rfl) | (rw [strE]; refine decide_eq_false ?_; simp only [It.word]; decide +kernel)) ⟨_, rfl, _, rfl, _, rfl, a, _, 2, _, rfl, rfl, sqt e1, atI2, _, _, rfl, rfl, (by show 0 < m; omega), _, rfl, a, _, 2, _, rfl, rfl, sqt e1, atI2, _, _, rfl, rfl, mul_ok hq (hv.bs.num m h3) hsz, _, _, rfl, rfl, ?_⟩
        refine intE ?_ (q H1 s1)
        rw [It.ev, if_neg (by decide +kernel), Int.emod_def, Int.mul_comm m]
  | bin hw h1 h2 =>
    cases hit with
    | bin e g1 g2 =>
      rename_i ww ia ib va vb
      have hk1 := hv.kid (by simp [It.kids]) g1 h1
      have hsz := hv.sz
      rw [It.mx, Nat.mul_add, Nat.mul_add, Nat.mul_one] at hsz
      have hkp := hv.bs.pos
      refine ⟨_, rfl, a, _, 0, _, rfl, rfl, sqt e, atI0, _, rfl, rfl, _, rfl, ?_⟩
      refine ifF (no5 hw (by decide +kernel)) ⟨_, rfl, rfl, _, rfl, ?_⟩
      refine ifF (no5 hw (by decide +kernel)) ⟨_, rfl, rfl, _, rfl, ?_⟩
      refine ifF (no5 hw (by decide +kernel)) ⟨_, rfl, a, _, 1, _, rfl, rfl, sqt e, atI1, _, rfl, _, dv, ia, xs, B, k, ρ, rfl, hk1, fun H1 s1 => ?_⟩
      have hv1 := hv.same s1
      have hk2 := hv1.kid (by simp [It.kids]) (g2.mono (Tp.same s1)) h2
      refine ⟨_, rfl, rfl, _, rfl, ?_⟩
      refine ifF (no5 hw (by decide +kernel)) ⟨_, rfl, rfl, _, rfl, ?_⟩
      refine ifF (no5 hw (by decide +kernel)) ⟨_, rfl, rfl, _, rfl, ?_⟩
      refine ifF (no5 hw (by decide +kernel)) ⟨_, rfl, a, _, 2, _, rfl, rfl, sqt (s1 _ _ e), atI2, _, rfl, _, dv, ib, xs, B, k, ρ, rfl, hk2, fun H2 s2 => ?_⟩
      have qq : ∀ H3, Same H2 H3 → Q (.int (opv ww (ia.ev ρ) (ib.ev ρ))) H3 := fun H3 s3 => intE (by rw [It.ev]) (q H3 (s1.trans (s2.trans s3)))
      have b1 := hk1.bits
      have b2 := hk2.bits
      generalize ia.ev ρ = x at qq b1
      generalize ib.ev ρ = y at qq b2
      refine ⟨_, rfl, rfl, _, rfl, ?_⟩
      simp only [List.mem_cons, List.not_mem_nil, or_false] at hw
      rcases hw with rfl | rfl | rfl | rfl | rfl
      · refine ifT (by first | decide +kernel | (rw [strE]; exact decide_eq_true rfl) | (rw [strE]; refine decide_eq_false ?_; simp only [It.word]; decide +kernel)) (iteT ⟨_, rfl, _, rfl, _, rfl, (Nat.le_of_ble_eq_true rfl), fun l hl => ?_⟩)
        refine ⟨_, rfl, rfl, .inr ⟨_, rfl, l, _, _, .int 1, rfl, rfl, sqd upd_same, ?_, _, _, rfl, rfl, mul_ok (n := 1) b2 (by decide +kernel) (by omega), _, _, rfl, rfl, ?_⟩⟩
        · rw [if_neg (by decide +kernel)]; exact atI0
        · exact intE (by rw [Int.mul_one, opv_add]) (qq _ (same_new hl _))
      · refine ifF (by first | decide +kernel | (rw [strE]; exact decide_eq_true rfl) | (rw [strE]; refine decide_eq_false ?_; simp only [It.word]; decide +kernel)) ⟨_, rfl, rfl, _, rfl, ?_⟩
        refine ifT (by first | decide +kernel | (rw [strE]; exact decide_eq_true rfl) | (rw [strE]; refine decide_eq_false ?_; simp only [It.word]; decide +kernel)) ⟨_, rfl, _, rfl, _, rfl, (Nat.le_of_ble_eq_true rfl), fun l hl => ?_⟩
        refine ⟨_, rfl, rfl, .inr ⟨_, rfl, l, _, _, .int (-1), rfl, rfl, sqd upd_same, ?_, _, _, rfl, rfl, mul_ok (n := 1) b2 (by decide +kernel) (by omega), _, _, rfl, rfl, ?_⟩⟩
        · rw [if_pos (by decide +kernel)]; exact atI1
        · exact intE (by rw [opv_sub]; omega) (qq _ (same_new hl _))
      · refine ifF (by first | decide +kernel | (rw [strE]; exact decide_eq_true rfl) | (rw [strE]; refine decide_eq_false ?_; simp only [It.word]; decide +kernel)) ⟨_, rfl, rfl, _, rfl, ?_⟩
        refine ifF (by first | decide +kernel | (rw [strE]; exact decide_eq_true rfl) | (rw [strE]; refine decide_eq_false ?_; simp only [It.word]; decide +kernel)) ⟨_, rfl, rfl, _, rfl, ?_⟩
        refine ifT (by first | decide +kernel | (rw [strE]; exact decide_eq_true rfl) | (rw [strE]; refine decide_eq_false ?_; simp only [It.word]; decide +kernel)) ⟨_, rfl, _, rfl, _, _, rfl, rfl, mul_ok b1 b2 (by omega), ?_⟩
        exact intE (by rw [opv_mul]) (qq _ (Same.refl _))
      · refine ifF (by first | decide +kernel | (rw [strE]; exact decide_eq_true rfl) | (rw [strE]; refine decide_eq_false ?_; simp only [It.word]; decide +kernel)) ⟨_, rfl, rfl, _, rfl, ?_⟩
        refine ifF (by first | decide +kernel | (rw [strE]; exact decide_eq_true rfl) | (rw [strE]; refine decide_eq_false ?_; simp only [It.word]; decide +kernel)) ⟨_, rfl, rfl, _, rfl, ?_⟩
        refine ifF (by first | decide +kernel | (rw [strE]; exact decide_eq_true rfl) | (rw [strE]; refine decide_eq_false ?_; simp only [It.word]; decide +kernel)) ⟨_, rfl, _, rfl, _, _, rfl, rfl, _, rfl, rfl, rfl, _, rfl, ?_⟩
        rw [show decide (V.str ("min" : Str) = V.str ("min" : Str)) = true by decide +kernel]
        by_cases h : x < y
        · refine ifT (by show decide (V.bl (decide (x < y)) = V.bl true) = true; rw [decide_eq_true h]; decide +kernel) ⟨_, rfl, ?_⟩
          exact intE (by rw [opv_min, if_neg (by omega)]) (qq _ (Same.refl _))
        · refine ifF (by show decide (V.bl (decide (x < y)) = V.bl true) = false; rw [decide_eq_false h]; decide +kernel) ⟨_, rfl, ?_⟩
          refine intE ?_ (qq _ (Same.refl _))
          rw [opv_min]
          split <;> omega
      · refine ifF (by first | decide +kernel | (rw [strE]; exact decide_eq_true rfl) | (rw [strE]; refine decide_eq_false ?_; simp only [It.word]; decide +kernel)) ⟨_, rfl, rfl, _, rfl, ?_⟩
        refine ifF (by first | decide +kernel | (rw [strE]; exact decide_eq_true rfl) | (rw [strE]; refine decide_eq_false ?_; simp only [It.word]; decide +kernel)) ⟨_, rfl, rfl, _, rfl, ?_⟩
        refine ifF (by first | decide +kernel | (rw [strE]; exact decide_eq_true rfl) | (rw [strE]; refine decide_eq_false ?_; simp only [It.word]; decide +kernel)) ⟨_, rfl, _, rfl, _, _, rfl, rfl, _, rfl, rfl, rfl, _, rfl, ?_⟩
        rw [show decide (V.str ("max" : Str) = V.str ("min" : Str)) = false by decide +kernel]
        by_cases h : x < y
        · refine ifF (by show decide (V.bl (decide (x < y)) = V.bl false) = false; rw [decide_eq_true h]; decide +kernel) ⟨_, rfl, ?_⟩
          exact intE (by rw [opv_max, if_pos h]) (qq _ (Same.refl _))
        · refine ifT (by show decide (V.bl (decide (x < y)) = V.bl false) = true; rw [decide_eq_false h]; decide +kernel) ⟨_, rfl, ?_⟩
          refine intE ?_ (qq _ (Same.refl _))
          rw [opv_max, if_neg h]
theorem rd_ltruth (T : Txt K mg) {n c : Nat} (G_law_value : FnOk P w K mg base CX0 c T.a_law_value T.d_law_value P_law_value (spEv n)) (G_law_truth : FnOk P w K mg base CX0 c T.a_law_truth T.d_law_truth P_law_truth (spTr n)) :
    FnOk P w K mg base CX0 (c + 1) T.a_law_truth T.d_law_truth P_law_truth (spTr (n + 1)) := by
  refine T.F_law_truth.ok sc_law_truth (fun vs H Q E h => ?_) (fun cdv A outer s H vs Q E hr h => ?_)
  · obtain ⟨v, dv, i, xs, B, k, ρ, rfl, _⟩ := h
    rfl
  obtain ⟨v, dv, i, xs, B, k, ρ, rfl, hv, q⟩ := h
  refine ⟨_, (pss_cons (ps_set (i := 2) sc_law_truth.nd rfl (Or.inl rfl) (pe_ix ix_tup (pv 0) pe_int (fun _ _ => rfl)))
    (pss_cons (ps_if (pt_cmpR op_eq (pv 2) pe_str (nomark _))
    (pss_one (ps_ret (pe_cmpR op_lt (pe_call G_law_value (hr.mono (by omega)) (by rfl) T.m_law_value T.F_law_value.kp T.b_law_value .nil pass0 (pa_cons (pe_ix ix_tup (pv 0) pe_int (fun _ _ => rfl)) (pa_cons (pv 1) pa_nil))) (pe_call G_law_value (hr.mono (by omega)) (by rfl) T.m_law_value T.F_law_value.kp T.b_law_value .nil pass0 (pa_cons (pe_ix ix_tup (pv 0) pe_int (fun _ _ => rfl)) (pa_cons (pv 1) pa_nil))) (nomark _))))
    pss_nil)
    (pss_cons (ps_if (pt_cmpR op_eq (pv 2) pe_str (nomark _))
    (pss_one (ps_ret (pe_cmpR op_eq (pe_call G_law_value (hr.mono (by omega)) (by rfl) T.m_law_value T.F_law_value.kp T.b_law_value .nil pass0 (pa_cons (pe_ix ix_tup (pv 0) pe_int (fun _ _ => rfl)) (pa_cons (pv 1) pa_nil))) (pe_call G_law_value (hr.mono (by omega)) (by rfl) T.m_law_value T.F_law_value.kp T.b_law_value .nil pass0 (pa_cons (pe_ix ix_tup (pv 0) pe_int (fun _ _ => rfl)) (pa_cons (pv 1) pa_nil))) (nomark _))))
    pss_nil)
    (pss_cons (ps_if (pt_cmpR op_eq (pv 2) pe_str (nomark _))
    (pss_one (ps_ret (pe_not (pe_call G_law_truth (hr.mono (by omega)) (by rfl) T.m_law_truth T.F_law_truth.kp T.b_law_truth .nil pass0 (pa_cons (pe_ix ix_tup (pv 0) pe_int (fun _ _ => rfl)) (pa_cons (pv 1) pa_nil))))))
    pss_nil)
    (pss_cons (ps_if (PW.pt (pw_or (pt_cmpR op_eq (pv 2) pe_str (nomark _)) (pw_or1 (pt_cmpR op_eq (pv 2) pe_str (nomark _)))))
    (pss_one (ps_ret (pe_cmpR op_eq (pe_cmpR op_in_seq (pe_cmpR op_eq (pv 2) pe_str (nomark _)) (pe_lc (own := [("part", 3)]) (g := (gName 3)) (tt := tYes) rfl sc_law_truth.nd (pi_tup (pe_ix ix_tup (pv 0) pe_int (fun _ _ => rfl))) (blkOk_by (N := N_law_truth) (sc := defScope s_law_truth) (by decide +kernel)) (fun _ _ _ _ _ => (pg_name (i := 3) sc_law_truth.nd rfl (Or.inl rfl))) (fun _ _ _ _ _ => pts_nil) (fun _ _ _ _ _ => (pe_call G_law_truth (hr.mono (by omega)) (by rfl) T.m_law_truth T.F_law_truth.kp T.b_law_truth .nil pass0 (pa_cons (pv 3) (pa_cons (pv 1) pa_nil))))) (by rfl)) (pe_cmpR op_eq (pv 2) pe_str (nomark _)) (nomark _))))
    pss_nil)
    (pss_one (ps_ret (pe_cmpR op_eq (pv 2) pe_str (nomark _))))))))), ?_⟩
  obtain ⟨a, rfl⟩ := hv.it.ref
  have hit := hv.it
  have hok := hv.ok
  cases hok with
  | lit =>
    rename_i b
    cases hit with
    | lit e =>
      refine ⟨_, rfl, a, _, 0, _, rfl, rfl, sqt e, atI0, _, rfl, rfl, _, rfl, ?_⟩
      have ne : ∀ z ∈ (["less", "equal", "not", "all", "any"] : List Str), decide (V.str (bstr b) = V.str z) = false := by cases b <;> decide +kernel
      refine ifF (ne _ (by decide +kernel)) ⟨_, rfl, rfl, _, rfl, ?_⟩
      refine ifF (ne _ (by decide +kernel)) ⟨_, rfl, rfl, _, rfl, ?_⟩
      refine ifF (ne _ (by decide +kernel)) ⟨_, rfl, rfl, _, rfl, ?_⟩
      refine ifF (ne _ (by decide +kernel)) ⟨_, rfl, rfl, _, rfl, ?_⟩
      refine ifF (ne _ (by decide +kernel)) ⟨_, rfl, rfl, ?_⟩
      exact boolV (by rw [It.tr]; cases b <;> decide +kernel) (q H (Same.refl H))
  | cmp hw h1 h2 =>
    cases hit with
    | bin e g1 g2 =>
      rename_i ww ia ib va vb
      simp only [List.mem_cons, List.not_mem_nil, or_false] at hw
      have hk1 := hv.kid (by simp [It.kids]) g1 h1
      refine ⟨_, rfl, a, _, 0, _, rfl, rfl, sqt e, atI0, _, rfl, rfl, _, rfl, ?_⟩
      rcases hw with rfl | rfl
      · refine ifT (by first | decide +kernel | (rw [strE]; exact decide_eq_true rfl) | (rw [strE]; refine decide_eq_false ?_; simp only [It.word]; decide +kernel)) ⟨_, rfl, a, _, 1, _, rfl, rfl, sqt e, atI1, _, rfl, _, dv, ia, xs, B, k, ρ, rfl, hk1, fun H1 s1 => ?_⟩
        have hk2 := (hv.same s1).kid (by simp [It.kids]) (g2.mono (Tp.same s1)) h2
        refine ⟨_, rfl, a, _, 2, _, rfl, rfl, sqt (s1 _ _ e), atI2, _, rfl, _, dv, ib, xs, B, k, ρ, rfl, hk2, fun H2 s2 => ⟨_, _, rfl, rfl, ?_⟩⟩
        exact boolV (by rw [It.tr, if_pos rfl]) (q H2 (s1.trans s2))
      · refine ifF (by first | decide +kernel | (rw [strE]; exact decide_eq_true rfl) | (rw [strE]; refine decide_eq_false ?_; simp only [It.word]; decide +kernel)) ⟨_, rfl, rfl, _, rfl, ?_⟩
        refine ifT (by first | decide +kernel | (rw [strE]; exact decide_eq_true rfl) | (rw [strE]; refine decide_eq_false ?_; simp only [It.word]; decide +kernel)) ⟨_, rfl, a, _, 1, _, rfl, rfl, sqt e, atI1, _, rfl, _, dv, ia, xs, B, k, ρ, rfl, hk1, fun H1 s1 => ?_⟩
        have hk2 := (hv.same s1).kid (by simp [It.kids]) (g2.mono (Tp.same s1)) h2
        refine ⟨_, rfl, a, _, 2, _, rfl, rfl, sqt (s1 _ _ e), atI2, _, rfl, _, dv, ib, xs, B, k, ρ, rfl, hk2, fun H2 s2 => ⟨rfl, ?_⟩⟩
        refine boolV ?_ (q H2 (s1.trans s2))
        rw [It.tr, if_neg (by decide +kernel)]
        exact decide_eq_decide.mpr ⟨V.int.inj, fun h => by rw [h]⟩
  | not h1 =>
    cases hit with
    | un e g1 =>
      rename_i ia va
      refine ⟨_, rfl, a, _, 0, _, rfl, rfl, sqt e, atI0, _, rfl, rfl, _, rfl, ?_⟩
      refine ifF (by first | decide +kernel | (rw [strE]; exact decide_eq_true rfl) | (rw [strE]; refine decide_eq_false ?_; simp only [It.word]; decide +kernel)) ⟨_, rfl, rfl, _, rfl, ?_⟩
      refine ifF (by first | decide +kernel | (rw [strE]; exact decide_eq_true rfl) | (rw [strE]; refine decide_eq_false ?_; simp only [It.word]; decide +kernel)) ⟨_, rfl, rfl, _, rfl, ?_⟩
      refine ifT (by first | decide +kernel | (rw [strE]; exact decide_eq_true rfl) | (rw [strE]; refine decide_eq_false ?_; simp only [It.word]; decide +kernel)) ⟨_, rfl, a, _, 1, _, rfl, rfl, sqt e, atI1, _, rfl, ?_⟩
      refine ⟨_, dv, ia, xs, B, k, ρ, rfl, hv.kid (by simp [It.kids]) g1 h1, fun H1 s1 => ⟨_, rfl, ?_⟩⟩
      exact boolV (by rw [It.tr]) (q H1 s1)
  | grp hw hl hall =>
    cases hit with
    | grp e e2 hlen hk =>
      rename_i ww l b ys
      have hkids : Kids H l ys := ⟨hlen, hk⟩
      refine ⟨_, rfl, a, _, 0, _, rfl, rfl, sqt e, atI0, _, rfl, rfl, _, rfl, ?_⟩
      simp only [List.mem_cons, List.not_mem_nil, or_false] at hw
      rcases hw with rfl | rfl
      · refine ifF (by first | decide +kernel | (rw [strE]; exact decide_eq_true rfl) | (rw [strE]; refine decide_eq_false ?_; simp only [It.word]; decide +kernel)) ⟨_, rfl, rfl, _, rfl, ?_⟩
        refine ifF (by first | decide +kernel | (rw [strE]; exact decide_eq_true rfl) | (rw [strE]; refine decide_eq_false ?_; simp only [It.word]; decide +kernel)) ⟨_, rfl, rfl, _, rfl, ?_⟩
        refine ifF (by first | decide +kernel | (rw [strE]; exact decide_eq_true rfl) | (rw [strE]; refine decide_eq_false ?_; simp only [It.word]; decide +kernel)) ⟨_, rfl, rfl, _, rfl, ?_⟩
        refine ifT (by first | decide +kernel | (rw [strE]; exact decide_eq_true rfl) | (rw [strE]; refine decide_eq_false ?_; simp only [It.word]; decide +kernel)) (iteT ?_)
        refine ⟨_, rfl, rfl, _, rfl, a, _, 1, _, rfl, rfl, sqt e, atI1, b, rfl, ⟨_, sqt e2⟩, fun D hD => ?_⟩
        refine lc_tup (K := K) (a := b) (xs := ys) (fun (j : Nat) (H' : Hp) => Same H H' ∧ H' D = some (.lst (((l.take j).map (It.tr ρ)).map V.bl))) ?_ ?_ ?_ ?_
        · exact ⟨same_new hD _, by rw [upd_same, List.take_zero] <;> rfl⟩
        · rintro j H' _ ⟨s3, _⟩
          exact sqt (s3 _ _ e2)
        · rintro j x H' hx ⟨s3, e3⟩
          obtain ⟨u, hu, hin, hmem⟩ := hkids.get hx
          refine ⟨rfl, yes_if ?_⟩
          refine ⟨_, rfl, _, rfl, _, dv, u, xs, B, k, ρ, rfl, (hv.same s3).kid hmem (hin.mono (Tp.same s3)) (hall u hmem), fun H4 s4 => ?_⟩
          refine ⟨_, s4 _ _ e3, ?_, same_put (s3.trans s4) hD, ?_⟩
          · rw [List.length_map, List.length_map, List.length_take]
            exact small1000 (by omega)
          · rw [upd_same, truths hu]
        · rintro H3 ⟨s3, e3⟩
          rw [hlen, List.take_length] at e3
          refine ⟨D, _, rfl, .inl (sqd e3), rfl, flat_bls _, _, rfl, rfl, rfl, ?_⟩
          refine boolV ?_ (q H3 s3)
          rw [show decide (V.str ("all" : Str) = V.str ("any" : Str)) = false by decide +kernel, if_neg Bool.false_ne_true, inV_bl, all_in, It.tr, if_pos rfl, trL_map]
      · refine ifF (by first | decide +kernel | (rw [strE]; exact decide_eq_true rfl) | (rw [strE]; refine decide_eq_false ?_; simp only [It.word]; decide +kernel)) ⟨_, rfl, rfl, _, rfl, ?_⟩
        refine ifF (by first | decide +kernel | (rw [strE]; exact decide_eq_true rfl) | (rw [strE]; refine decide_eq_false ?_; simp only [It.word]; decide +kernel)) ⟨_, rfl, rfl, _, rfl, ?_⟩
        refine ifF (by first | decide +kernel | (rw [strE]; exact decide_eq_true rfl) | (rw [strE]; refine decide_eq_false ?_; simp only [It.word]; decide +kernel)) ⟨_, rfl, rfl, _, rfl, ?_⟩
        refine ifF (by first | decide +kernel | (rw [strE]; exact decide_eq_true rfl) | (rw [strE]; refine decide_eq_false ?_; simp only [It.word]; decide +kernel)) ⟨_, rfl, rfl, _, rfl, ?_⟩
        refine ifT (by first | decide +kernel | (rw [strE]; exact decide_eq_true rfl) | (rw [strE]; refine decide_eq_false ?_; simp only [It.word]; decide +kernel)) ?_
        refine ⟨_, rfl, rfl, _, rfl, a, _, 1, _, rfl, rfl, sqt e, atI1, b, rfl, ⟨_, sqt e2⟩, fun D hD => ?_⟩
        refine lc_tup (K := K) (a := b) (xs := ys) (fun (j : Nat) (H' : Hp) => Same H H' ∧ H' D = some (.lst (((l.take j).map (It.tr ρ)).map V.bl))) ?_ ?_ ?_ ?_
        · exact ⟨same_new hD _, by rw [upd_same, List.take_zero] <;> rfl⟩
        · rintro j H' _ ⟨s3, _⟩
          exact sqt (s3 _ _ e2)
        · rintro j x H' hx ⟨s3, e3⟩
          obtain ⟨u, hu, hin, hmem⟩ := hkids.get hx
          refine ⟨rfl, yes_if ?_⟩
          refine ⟨_, rfl, _, rfl, _, dv, u, xs, B, k, ρ, rfl, (hv.same s3).kid hmem (hin.mono (Tp.same s3)) (hall u hmem), fun H4 s4 => ?_⟩
          refine ⟨_, s4 _ _ e3, ?_, same_put (s3.trans s4) hD, ?_⟩
          · rw [List.length_map, List.length_map, List.length_take]
            exact small1000 (by omega)
          · rw [upd_same, truths hu]
        · rintro H3 ⟨s3, e3⟩
          rw [hlen, List.take_length] at e3
          refine ⟨D, _, rfl, .inl (sqd e3), rfl, flat_bls _, _, rfl, rfl, rfl, ?_⟩
          refine boolV ?_ (q H3 s3)
          rw [show decide (V.str ("any" : Str) = V.str ("any" : Str)) = true by decide +kernel, if_neg Bool.false_ne_true, inV_bl, any_in, It.tr, if_neg (by decide +kernel), trL_map]
theorem rd_lvalues (hN : base.NoSeer) (hp : P.given.tree = none) (T : Txt K mg) : ∀ n : Nat, FnOk P w K mg base CX0 (n + 33) T.a_law_value T.d_law_value P_law_value (spEv n) ∧ FnOk P w K mg base CX0 (n + 33) T.a_law_truth T.d_law_truth P_law_truth (spTr n)
  | 0 => ⟨no_ev, no_tr⟩
  | n + 1 => by
    obtain ⟨gv, gh⟩ := rd_lvalues hN hp T n
    exact ⟨rd_lvalue hN hp T (by omega) gv gh, rd_ltruth T gv gh⟩
/-! ### _law_values -/
def spVals (K : PySem.W.Frag) (B : Nat) : Sp := fun vs H Q _ => ∃ (d n : Addr) (xs : List Str) (c : Int), vs = [.ref d, .ref n, .int c] ∧ Dr H d ∧ Keep K d H n (xs.map V.str) ∧ c.natAbs ≤ B ∧ xs.length ≤ 1000 ∧
  ∀ (p : Addr) (kvs : List (Key × V)) (ρ : Str → Int) H', Go d H H' → H p = none → H' p = some (.dK kvs) → Cn B kvs → (∀ x ∈ xs, valV kvs (Sum.inr x) = some (.int (ρ x)) ∧ (ρ x).natAbs ≤ B) → Q (.ref p) H'
/-! ### _law_is_integer -/
def spIsInt : Sp := fun vs H Q _ => ∃ n : Int, vs = [.int n] ∧ Q (.bl true) H
end
end NL

namespace NL
open PySem PySem.Spec PyProof.Rows L2
theorem big {n : Nat} (h : n ≤ 1000000) : n ≤ sizeLine := Nat.le_trans h (by decide)
theorem big' {n : Nat} (h : n ≤ 1000000) : n < sizeLine := Nat.lt_of_le_of_lt h (by decide)
theorem hu4_of {A : Around} {k : Nat} (hr : Room k A) : A.units + 3 < cLine := Nat.lt_of_le_of_lt (Nat.add_le_add_left (by decide : 3 ≤ 64) _) hr.units
/-! ### plants: rows of names with ranges, steps, a condition -/
abbrev Row := Str × Int × Int
def RowIn (H : Hp) (r : Row) (x : V) : Prop := ∃ q, x = .ref q ∧ H q = some (.tup [.str r.1, .int r.2.1, .int r.2.2])
def RowsAt (H : Hp) (rows : List Row) (xs : List V) : Prop := xs.length = rows.length ∧ ∀ (k : Nat) r x, rows[k]? = some r → xs[k]? = some x → RowIn H r x
def RowsIn (H : Hp) (rows : List Row) (v : V) : Prop := ∃ p xs, v = .ref p ∧ H p = some (.tup xs) ∧ RowsAt H rows xs
theorem RowIn.mono {H H' : Hp} (t : Tp H H') {r : Row} {x : V} (h : RowIn H r x) : RowIn H' r x := by
  obtain ⟨q, e, h⟩ := h
  exact ⟨q, e, t _ _ h⟩
theorem RowsAt.mono {H H' : Hp} (t : Tp H H') {rows : List Row} {xs : List V} (h : RowsAt H rows xs) : RowsAt H' rows xs := ⟨h.1, fun k r x a b => (h.2 k r x a b).mono t⟩
theorem RowsIn.mono {H H' : Hp} (t : Tp H H') {rows : List Row} {v : V} (h : RowsIn H rows v) : RowsIn H' rows v := by
  obtain ⟨p, xs, e, h, k⟩ := h
  exact ⟨p, xs, e, t _ _ h, k.mono t⟩
theorem RowsAt.get {H : Hp} {rows : List Row} {xs : List V} (h : RowsAt H rows xs) {k : Nat} {x : V} (e : xs[k]? = some x) : ∃ r, rows[k]? = some r ∧ RowIn H r x ∧ r ∈ rows := by
  have hk : k < xs.length := (List.getElem?_eq_some_iff.mp e).1
  rw [h.1] at hk
  exact ⟨rows[k], List.getElem?_eq_getElem hk, h.2 k _ x (List.getElem?_eq_getElem hk) e, List.getElem_mem hk⟩
theorem rows0 {H : Hp} : RowsAt H [] [] := ⟨rfl, fun k j y a b => by simp at a⟩
theorem RowsAt.snoc {H : Hp} {l : List Row} {vs : List V} {i : Row} {v : V} (h : RowsAt H l vs) (hi : RowIn H i v) : RowsAt H (l ++ [i]) (vs ++ [v]) := by
  obtain ⟨hl, hin⟩ := h
  refine ⟨by rw [List.length_append, List.length_append, hl] <;> rfl, fun k j x h1 h2 => ?_⟩
  by_cases hk : k < l.length
  · rw [List.getElem?_append_left (by omega)] at h1 h2
    exact hin k j x h1 h2
  · have hk3 : k = l.length := by
      have := (List.getElem?_eq_some_iff.mp h1).1
      rw [List.length_append, List.length_singleton] at this
      omega
    subst hk3
    rw [List.getElem?_append_right (by omega), Nat.sub_self] at h1
    rw [List.getElem?_append_right (by omega), hl, Nat.sub_self] at h2
    obtain rfl : i = j := Option.some.inj h1
    obtain rfl : v = x := Option.some.inj h2
    exact hi
structure Pl where
  vs : List Row
  ins : List Row
  ns : List Row
  st : List It
  al : It
def PlIn (H : Hp) (p : Pl) (v : V) : Prop := ∃ (a : Addr) (v1 v2 v3 vl : V) (s : Addr) (sx : List V), v = .ref a ∧ H a = some (.tup [v1, v2, v3, .ref s, vl]) ∧ RowsIn H p.vs v1 ∧ RowsIn H p.ins v2 ∧ RowsIn H p.ns v3 ∧ H s = some (.tup sx) ∧ Kids H p.st sx ∧ ItemIn H p.al vl
theorem PlIn.mono {H H' : Hp} (t : Tp H H') {p : Pl} {v : V} (h : PlIn H p v) : PlIn H' p v := by
  obtain ⟨a, v1, v2, v3, vl, s, sx, e, h0, h1, h2, h3, h4, h5, h6⟩ := h
  exact ⟨a, v1, v2, v3, vl, s, sx, e, t _ _ h0, h1.mono t, h2.mono t, h3.mono t, t _ _ h4, h5.mono t, h6.mono t⟩
theorem cut_map (xs : List Str) (lo hi : Option Int) : ∃ ys : List Str, cutV (xs.map V.str) lo hi = ys.map V.str ∧ (∀ y ∈ ys, y ∈ xs) ∧ ys.length ≤ xs.length ∧ (∀ k : Int, lo = none → hi = some k → 1 ≤ k → xs ≠ [] → ys ≠ []) := by
  unfold cutV
  refine ⟨(xs.drop (HT.sIx (xs.map V.str).length 0 lo)).take (HT.sIx (xs.map V.str).length (xs.map V.str).length hi - HT.sIx (xs.map V.str).length 0 lo), ?_, ?_, ?_, ?_⟩
  · rw [List.map_take, List.map_drop]
  · intro y hy
    exact List.mem_of_mem_drop (List.mem_of_mem_take hy)
  · rw [List.length_take, List.length_drop]
    omega
  · rintro k rfl rfl hk hx h
    have hl := congrArg List.length h
    rw [List.length_take, List.length_drop, HT.sIx_none, List.length_nil, List.length_map] at hl
    have hpos : 0 < xs.length := List.length_pos_iff.mpr hx
    have e : HT.sIx xs.length xs.length (some k) = min k.toNat xs.length := by
      show (if k < 0 then (k + (xs.length : Int)).toNat else min k.toNat xs.length) = _
      rw [if_neg (by omega)]
    rw [e] at hl
    omega
/-- a row as it is drawn -/
structure Rb (B : Nat) (r : Row) : Prop where
  le : r.2.1 ≤ r.2.2
  wd : r.2.2 ≤ r.2.1 + 4
  bd : r.2.1.natAbs + 6 ≤ B
/-- how many rows of values there are -/
def rsize (r : Row) : Nat := (r.2.2 + 1 - r.2.1).toNat
def cnt (rows : List Row) : Nat := (rows.map rsize).foldr (· * ·) 1
theorem cnt_cons (r : Row) (l : List Row) : cnt (r :: l) = rsize r * cnt l := rfl
theorem cnt_app : ∀ a b : List Row, cnt (a ++ b) = cnt a * cnt b
  | [], b => by rw [List.nil_append]; show _ = 1 * cnt b; rw [Nat.one_mul]
  | r :: a, b => by rw [List.cons_append, cnt_cons, cnt_cons, cnt_app a b, Nat.mul_assoc]
theorem rsize_pos {r : Row} (h : r.2.1 ≤ r.2.2) : 1 ≤ rsize r := by
  unfold rsize
  omega
theorem cnt_pos : ∀ {l : List Row}, (∀ r ∈ l, r.2.1 ≤ r.2.2) → 1 ≤ cnt l
  | [], _ => Nat.le_refl _
  | r :: l, h => by
    rw [cnt_cons]
    exact Nat.mul_le_mul (rsize_pos (h r List.mem_cons_self)) (cnt_pos fun q hq => h q (List.mem_cons_of_mem _ hq))
theorem cnt_take {l : List Row} (h : ∀ r ∈ l, r.2.1 ≤ r.2.2) (k : Nat) : cnt (l.take k) ≤ cnt l := by
  have e := cnt_app (l.take k) (l.drop k)
  rw [List.take_append_drop] at e
  have p := cnt_pos (l := l.drop k) fun r hr => h r (List.mem_of_mem_drop hr)
  rw [e]
  exact Nat.le_mul_of_pos_right _ p
section
variable {P : Program} {w : World} {K : PySem.W.Frag} {mg : Str → Option Value} {base : Heap}
/-! ### _law_ranges -/
def spRanges (K : PySem.W.Frag) (B : Nat) : Sp := fun vs H Q _ => ∃ (d nm : Addr) (xs : List Str) (room c : Int), vs = [.ref d, .ref nm, .int room, .int c] ∧ Dr H d ∧ Keep K d H nm (xs.map V.str) ∧ 1 ≤ room ∧ room ≤ 1000 ∧ c.natAbs + 6 ≤ B ∧ xs.length ≤ 30 ∧
  ∀ v rows H', Go d H H' → RowsIn H' rows v → rows.map (·.1) = xs → (∀ r ∈ rows, Rb B r) → cnt rows ≤ room.toNat → Q v H'
theorem ok_law_ranges {B : Nat} (hB : 100 ≤ B) (T : Txt K mg) : FnOk P w K mg base CX0 2 T.a_law_ranges T.d_law_ranges P_law_ranges (spRanges K B) := by
  have G_law_take := ok_law_take (P := P) (w := w) (base := base) T
  refine T.F_law_ranges.ok sc_law_ranges (fun vs H Q E h => ?_) (fun cdv A outer s H vs Q E hr h => ?_)
  · obtain ⟨d, nm, xs, room, c, rfl, _⟩ := h
    rfl
  obtain ⟨d, nm, xs, room, c, rfl, hD, hk, r0, r1, hc, hl, q⟩ := h
  refine ⟨_, (pss_cons (ps_set (i := 4) sc_law_ranges.nd rfl (Or.inl rfl) (pe_lst pa_nil))
    (pss_cons (ps_for  PassesOwn.never rfl (pi_list (pv 1)) (pg_name (i := 5) sc_law_ranges.nd rfl (Or.inl rfl))
    (pss_cons (ps_set (i := 6) sc_law_ranges.nd rfl (Or.inl rfl) (pe_op op_add pe_int (pe_call G_law_take (hr.mono (by omega)) (by rfl) T.m_law_take T.F_law_take.kp T.b_law_take .nil pass0 (pa_cons (pv 0) (pa_cons (pe_callB (call_min2 rfl) (by rfl) T.z_min (by decide +kernel) (pa_cons pe_int (pa_cons (pv 2) pa_nil))) pa_nil)))))
    (pss_cons (ps_set (i := 2) sc_law_ranges.nd rfl (Or.inl rfl) (pe_op op_fdiv (pv 2) (pv 6)))
    (pss_cons (ps_set (i := 7) sc_law_ranges.nd rfl (Or.inl rfl) (pe_ix ix_list (pe_lst (pa_cons pe_int (pa_cons (pe_op op_sub (pe_call G_law_take (hr.mono (by omega)) (by rfl) T.m_law_take T.F_law_take.kp T.b_law_take .nil pass0 (pa_cons (pv 0) (pa_cons pe_int pa_nil))) pe_int) (pa_cons (pv 3) pa_nil)))) (pe_op op_fdiv (pe_call G_law_take (hr.mono (by omega)) (by rfl) T.m_law_take T.F_law_take.kp T.b_law_take .nil pass0 (pa_cons (pv 0) (pa_cons pe_int pa_nil))) pe_int) (fun _ _ => rfl)))
    (pss_one (ps_expr (pe_bm PySem.F.plainAttrs_list PySem.F.slot_list_append PySem.F.type_list_append mt_append (pv 4) (pa_cons (pe_tup (pa_cons (pv 5) (pa_cons (pv 7) (pa_cons (pe_op op_sub (pe_op op_add (pv 7) (pv 6)) pe_int) pa_nil)))) pa_nil))))))))
    (pss_one (ps_ret (pe_callTy call_tuple_of (by rfl) T.z_tuple (by decide +kernel) (pa_cons (pv 4) pa_nil)))))), ?_⟩
  refine ⟨(Nat.le_of_ble_eq_true rfl), fun fp hfp => ?_⟩
  have nfd := new_ne hD hfp
  have g0 := fun o => Go.new (o := o) hD hfp
  refine ⟨_, rfl, nm, rfl, ⟨_, (hk.go (g0 _)).now⟩, ?_⟩
  refine for_list (K := K) (a := nm) (xs := xs.map V.str) (fun (j : Nat) (σ : L2.St) (H' : Hp) => ∃ (rm : Int) (rows : List Row) (rx : List V) (y5 y6 y7 : Option V), σ = [some (.ref d), some (.ref nm), some (.int rm), some (.int c), some (.ref fp), y5, y6, y7] ∧ 1 ≤ rm ∧ rm ≤ 1000 ∧ Go d H H' ∧ H' fp = some (.lst rx) ∧ RowsAt H' rows rx ∧ rows.map (·.1) = xs.take j ∧ (∀ r ∈ rows, Rb B r) ∧ (cnt rows : Int) * rm ≤ room) ?_ ?_ ?_ ?_
  · exact ⟨room, [], [], none, none, none, rfl, r0, r1, g0 _, upd_same, rows0, rfl, (fun r h => by cases h), by show ((1 : Nat) : Int) * room ≤ room; omega⟩
  · rintro j σ H' _ ⟨rm, rows, rx, y5, y6, y7, rfl, _, _, g, _⟩
    exact (hk.go g).now
  · rintro j x σ H1 hx ⟨rm, rows, rx, y5, y6, y7, rfl, m0, m1, g1, e1, hrs, hrx, hrb, hcn⟩
    rw [List.getElem?_map] at hx
    cases hn : xs[j]? with
    | none => rw [hn] at hx; cases hx
    | some z =>
      rw [hn] at hx
      obtain rfl : V.str z = x := Option.some.inj hx
      have hmin : 0 < (if rm < 5 then rm else 5) := by split <;> omega
      refine ⟨_, rfl, _, rfl, _, _, rfl, d, _, rfl, g1.dr, hmin, fun u H2 g2 u0 u1 => ?_⟩
      have hu5 : u < 5 ∧ u < rm := by split at u1 <;> omega
      refine ⟨_, _, rfl, rfl, ?_⟩
      refine ⟨_, rfl, _, rfl, _, _, rfl, rfl, ⟨by omega, by omega⟩, ?_⟩
      have hq0 : 1 ≤ rm / (1 + u) := (Int.le_ediv_iff_mul_le (by omega)).mpr (by omega)
      have hq1 : rm / (1 + u) ≤ rm := Int.ediv_le_self _ (by omega)
      -- low
      refine ⟨_, rfl, d, _, rfl, g2.dr, (by decide), fun t H3 g3 t0 t1 => ?_⟩
      refine ⟨_, _, rfl, rfl, _, rfl, (Nat.le_of_ble_eq_true rfl), fun p4 hp4 => ?_⟩
      have g4 := fun o => Go.new (o := o) g3.dr hp4
      refine ⟨_, rfl, d, _, rfl, (g4 _).dr, (by decide), fun k H5 g5 k0 k1 => ?_⟩
      obtain ⟨lo, hlo, hlm⟩ := atI_map (f := V.int) (xs := [0, t - 3, c]) (i := k / 2) (by omega) (by show k / 2 < 3; omega)
      refine ⟨_, _, rfl, rfl, ⟨by decide, by decide⟩, _, _, _, _, rfl, rfl, sqd (g5.at g3.dr hp4), hlo, ?_⟩
      have hlb : lo.natAbs + 6 ≤ B := by
        simp only [List.mem_cons, List.not_mem_nil, or_false] at hlm
        omega
      have g15 := g2.trans (g3.trans ((g4 _).trans g5))
      have e5 := g15.fr fp _ nfd e1
      refine ⟨_, rfl, .inl ⟨rfl, _, sqd e5⟩, _, rfl, _, rfl, _, rfl, _, rfl, _, _, rfl, rfl, _, _, rfl, rfl, (Nat.le_of_ble_eq_true rfl), fun p6 hp6 => ?_⟩
      have g6 := fun o => Go.new (o := o) g5.dr hp6
      have e6 := fun o => (g6 o).fr fp _ nfd e5
      refine ⟨fp, _, _, rfl, rfl, e6 _, ?_, ?_⟩
      · rw [hrs.1]
        have := congrArg List.length hrx
        rw [List.length_map, List.length_take] at this
        exact small1000 (by omega)
      · have t6 := fun o => tp_put (o := o) (e6 (.tup [.str z, .int lo, .int (lo + (1 + u) - 1)]))
        refine ⟨rm / (1 + u), rows ++ [(z, lo, lo + (1 + u) - 1)], _, _, _, _, rfl, hq0, by omega, (g1.trans (g15.trans (g6 _))).put2 hfp nfd, upd_same, ?_, ?_, ?_, ?_⟩
        · exact ((hrs.mono ((g15.trans (g6 _)).tp g1.dr)).mono (t6 _)).snoc ⟨p6, rfl, t6 _ _ _ upd_same⟩
        · rw [List.map_append, hrx, List.take_add_one, hn]; rfl
        · intro r hr
          rcases List.mem_append.mp hr with h | h
          · exact hrb r h
          · rw [List.mem_singleton.mp h]
            exact ⟨by show lo ≤ lo + (1 + u) - 1; omega, by show lo + (1 + u) - 1 ≤ lo + 4; omega, hlb⟩
        · have es : (rsize (z, lo, lo + (1 + u) - 1) : Int) = 1 + u := by
            show (((lo + (1 + u) - 1 + 1 - lo).toNat : Nat) : Int) = _
            omega
          have eq1 : cnt [(z, lo, lo + (1 + u) - 1)] = rsize (z, lo, lo + (1 + u) - 1) := Nat.mul_one _
          rw [cnt_app, eq1, Int.natCast_mul, es, Int.mul_assoc]
          exact Int.le_trans (Int.mul_le_mul_of_nonneg_left (by rw [Int.mul_comm]; exact Int.ediv_mul_le _ (by omega)) (Int.natCast_nonneg _)) hcn
  · rintro σ H1 ⟨rm, rows, rx, y5, y6, y7, rfl, m0, m1, g1, e1, hrs, hrx, hrb, hcn⟩
    rw [List.length_map, List.take_length] at hrx
    refine ⟨_, rfl, fp, rx, rfl, .inl ⟨sqd e1, fun p hp => ?_⟩⟩
    have gp := fun o => Go.new (o := o) g1.dr hp
    exact q _ rows _ (g1.trans (gp _)) ⟨p, rx, rfl, upd_same, hrs.mono ((gp _).tp g1.dr)⟩ hrx hrb (by
      have h3 : (cnt rows : Int) * 1 ≤ (cnt rows : Int) * rm := Int.mul_le_mul_of_nonneg_left m0 (Int.natCast_nonneg _)
      omega)
/-! ### _law_step -/
def spStep (K : PySem.W.Frag) (B : Nat) : Sp := fun vs H Q _ => ∃ (d nm : Addr) (rv : V) (r : Row) (xs : List Str) (c δ : Int), vs = [.ref d, rv, .ref nm, .int c, .int δ] ∧ Dr H d ∧ RowIn H r rv ∧ Rb B r ∧ r.1 ∈ xs ∧ Keep K d H nm (xs.map V.str) ∧ c.natAbs ≤ B ∧ δ ≤ 2 ∧
  ∀ v i H', Go d H H' → ItemIn H' i v → Okx xs B false i → i.dep ≤ 8 → i.sz ≤ 50 → Q v H'
theorem ok_law_step {B : Nat} (hB1 : 100 ≤ B) (T : Txt K mg) : FnOk P w K mg base CX0 15 T.a_law_step T.d_law_step P_law_step (spStep K B) := by
  have G_law_take := ok_law_take (P := P) (w := w) (base := base) T
  have G_law_leaf := ok_law_leaf (P := P) (w := w) (base := base) hB1 T
  obtain ⟨G_law_expression, G_law_test⟩ := ok_ET (P := P) (w := w) (base := base) hB1 T 3
  refine T.F_law_step.ok sc_law_step (fun vs H Q E h => ?_) (fun cdv A outer s H vs Q E hr h => ?_)
  · obtain ⟨d, nm, rv, r, xs, c, δ, rfl, _⟩ := h
    rfl
  obtain ⟨d, nm, rv, r, xs, c, δ, rfl, hD, ⟨rq, rfl, hrq⟩, hrb, hrx, hk, hc, hδ, q⟩ := h
  refine ⟨_, (pss_cons (ps_set (i := 5) sc_law_step.nd rfl (Or.inl rfl) (pe_call G_law_take (hr.mono (by omega)) (by rfl) T.m_law_take T.F_law_take.kp T.b_law_take .nil pass0 (pa_cons (pv 0) (pa_cons pe_int pa_nil))))
    (pss_cons (ps_set (i := 6) sc_law_step.nd rfl (Or.inl rfl) (pe_tup (pa_cons pe_str (pa_cons (pe_ix ix_tup (pv 1) pe_int (fun _ _ => rfl)) pa_nil))))
    (pss_cons (ps_if (pt_cmpR op_eq (pv 5) pe_int (nomark _))
    (pss_one (ps_ret (pv 6)))
    pss_nil)
    (pss_cons (ps_if (pt_cmpR op_eq (pv 5) pe_int (nomark _))
    (pss_one (ps_ret (pe_tup (pa_cons pe_str (pa_cons (pv 6) (pa_cons (pe_call G_law_leaf (hr.mono (by omega)) (by rfl) T.m_law_leaf T.F_law_leaf.kp T.b_law_leaf .nil pass0 (pa_cons (pv 0) (pa_cons (pv 2) (pa_cons (pe_op op_sub (pe_call G_law_take (hr.mono (by omega)) (by rfl) T.m_law_take T.F_law_take.kp T.b_law_take .nil pass0 (pa_cons (pv 0) (pa_cons pe_int pa_nil))) pe_int) pa_nil)))) pa_nil))))))
    pss_nil)
    (pss_cons (ps_set (i := 7) sc_law_step.nd rfl (Or.inl rfl) (pe_call G_law_expression (hr.mono (by omega)) (by rfl) T.m_law_expression T.F_law_expression.kp T.b_law_expression .nil pass0 (pa_cons (pv 0) (pa_cons (pv 2) (pa_cons (pv 3) (pa_cons (pv 4) pa_nil))))))
    (pss_cons (ps_if (pt_cmpR op_eq (pv 5) pe_int (nomark _))
    (pss_one (ps_ret (pv 7)))
    pss_nil)
    (pss_cons (ps_if (pt_cmpR op_eq (pv 5) pe_int (nomark _))
    (pss_one (ps_ret (pe_tup (pa_cons pe_str (pa_cons (pe_tup (pa_cons pe_str (pa_cons (pv 7) (pa_cons (pe_op op_add (pe_op op_sub (pe_ix ix_tup (pv 1) pe_int (fun _ _ => rfl)) (pe_ix ix_tup (pv 1) pe_int (fun _ _ => rfl))) pe_int) pa_nil)))) (pa_cons (pe_tup (pa_cons pe_str (pa_cons (pe_ix ix_tup (pv 1) pe_int (fun _ _ => rfl)) pa_nil))) pa_nil))))))
    pss_nil)
    (pss_one (ps_ret (pe_tup (pa_cons pe_str (pa_cons (pe_tup (pa_cons pe_str (pa_cons (pe_tup (pa_cons pe_str (pa_cons (pv 6) (pa_cons (pv 7) pa_nil)))) (pa_cons (pe_tup (pa_cons pe_str (pa_cons (pe_ix ix_tup (pv 1) pe_int (fun _ _ => rfl)) pa_nil))) pa_nil)))) (pa_cons (pe_tup (pa_cons pe_str (pa_cons (pe_ix ix_tup (pv 1) pe_int (fun _ _ => rfl)) pa_nil))) pa_nil))))))))))))), ?_⟩
  have b1 := hrb.le
  have b2 := hrb.wd
  have b3 := hrb.bd
  refine ⟨_, rfl, d, _, rfl, hD, (by decide), fun kd H1 g1 k0 k1 => ?_⟩
  have hq1 := g1.tup hD hrq
  refine ⟨_, rfl, _, _, _, _, rfl, rfl, sqt hq1, atI0, (Nat.le_of_ble_eq_true rfl), fun op hop => ?_⟩
  have go := fun o => Go.new (o := o) g1.dr hop
  have own : ItemIn (upd H1 op (.tup [.str "name", .str r.1])) (.name r.1) (.ref op) := .name upd_same
  have owo : Okx xs B false (.name r.1) := .name hrx
  refine ⟨_, rfl, rfl, _, rfl, ?_⟩
  refine ite2 (fun c1 => ?_) (fun c1 => ?_)
  · exact ⟨_, rfl, q _ _ _ (g1.trans (go _)) own owo (by rw [It.dep]; decide) (by rw [It.sz]; decide)⟩
  refine ⟨_, rfl, rfl, _, rfl, ?_⟩
  refine ite2 (fun c2 => ?_) (fun c2 => ?_)
  · refine ⟨_, rfl, _, rfl, _, rfl, _, rfl, d, _, rfl, (go _).dr, (by decide), fun t H2 g2 t0 t1 => ?_⟩
    refine ⟨_, _, rfl, rfl, d, nm, xs, t - 2, rfl, g2.dr, ((hk.go g1).go (go _)).go g2, by omega, fun lv li H3 g3 hli hlo hld hls => ?_⟩
    refine ⟨(Nat.le_of_ble_eq_true rfl), fun p hp => ?_⟩
    have gp := fun o => Go.new (o := o) g3.dr hp
    exact q _ (.bin "add" (.name r.1) li) _ (g1.trans ((go _).trans (g2.trans (g3.trans (gp _))))) (.bin upd_same (own.go (g2.trans (g3.trans (gp _))) (go _).dr) (hli.go (gp _) g3.dr)) (.bin (by decide +kernel) owo hlo) (by simp only [It.dep]; omega) (by simp only [It.sz]; omega)
  have k2 : kd ≠ 0 ∧ kd ≠ 1 := ⟨int_ne c1, int_ne c2⟩
  refine ⟨_, rfl, _, rfl, _, rfl, _, rfl, d, nm, xs, c, δ, rfl, (go _).dr, (hk.go g1).go (go _), hc, hδ, fun fv fi H2 g2 hfi hfo hfd0 hfs0 => ?_⟩
  have hfd : fi.dep ≤ 5 := hfd0
  have hfs : fi.sz ≤ 41 := hfs0
  have hq2 := (((go _).trans g2).tup g1.dr hq1)
  have own2 := own.go g2 (go _).dr
  refine ⟨_, rfl, rfl, _, rfl, ?_⟩
  refine ite2 (fun c3 => ?_) (fun c3 => ?_)
  · exact ⟨_, rfl, q _ _ _ (g1.trans ((go _).trans g2)) hfi hfo (by omega) (by omega)⟩
  refine ⟨_, rfl, rfl, _, rfl, ?_⟩
  refine ite2 (fun c4 => ?_) (fun c4 => ?_)
  · refine ⟨_, rfl, _, rfl, _, _, _, _, rfl, rfl, sqt hq2, atI2, _, rfl, _, _, _, _, rfl, rfl, sqt hq2, atI1, _, _, rfl, rfl, _, _, rfl, rfl, (Nat.le_of_ble_eq_true rfl), fun p1 hp1 => ?_⟩
    have gp1 := fun o => Go.new (o := o) g2.dr hp1
    refine ⟨_, rfl, _, _, _, _, rfl, rfl, sqt ((gp1 _).tup g2.dr hq2), atI1, (Nat.le_of_ble_eq_true rfl), fun p2 hp2 => ?_⟩
    have gp2 := fun o => Go.new (o := o) (gp1 _).dr hp2
    refine ⟨(Nat.le_of_ble_eq_true rfl), fun p3 hp3 => ?_⟩
    have gp3 := fun o => Go.new (o := o) (gp2 _).dr hp3
    have g13 := fun o => (gp1 _).trans ((gp2 _).trans (gp3 o))
    exact q _ (.bin "add" (.dm "mod" fi (r.2.2 - r.2.1 + 1)) (.num r.2.1)) _ (g1.trans ((go _).trans (g2.trans (g13 _))))
      (.bin upd_same (.dm (((gp2 _).trans (gp3 _)).tup (gp1 _).dr upd_same) (hfi.go (g13 _) g2.dr)) (.num ((gp3 _).tup (gp2 _).dr upd_same)))
      (.bin (by decide +kernel) (.dm (by decide +kernel) hfo (by omega) (by omega)) (.num (by omega))) (by simp only [It.dep]; omega) (by simp only [It.sz]; omega)
  · refine ⟨_, rfl, _, rfl, (Nat.le_of_ble_eq_true rfl), fun p1 hp1 => ?_⟩
    have gp1 := fun o => Go.new (o := o) g2.dr hp1
    refine ⟨_, rfl, _, _, _, _, rfl, rfl, sqt ((gp1 _).tup g2.dr hq2), atI1, (Nat.le_of_ble_eq_true rfl), fun p2 hp2 => ?_⟩
    have gp2 := fun o => Go.new (o := o) (gp1 _).dr hp2
    refine ⟨(Nat.le_of_ble_eq_true rfl), fun p3 hp3 => ?_⟩
    have gp3 := fun o => Go.new (o := o) (gp2 _).dr hp3
    have g13 := fun o => (gp1 _).trans ((gp2 _).trans (gp3 o))
    refine ⟨_, rfl, _, _, _, _, rfl, rfl, sqt ((g13 _).tup g2.dr hq2), atI2, (Nat.le_of_ble_eq_true rfl), fun p4 hp4 => ?_⟩
    have gp4 := fun o => Go.new (o := o) (gp3 _).dr hp4
    refine ⟨(Nat.le_of_ble_eq_true rfl), fun p5 hp5 => ?_⟩
    have gp5 := fun o => Go.new (o := o) (gp4 _).dr hp5
    have g15 := fun o => (g13 _).trans ((gp4 _).trans (gp5 o))
    have g25 := fun o => (gp2 _).trans ((gp3 _).trans ((gp4 _).trans (gp5 o)))
    have g35 := fun o => (gp3 _).trans ((gp4 _).trans (gp5 o))
    have g45 := fun o => (gp4 _).trans (gp5 o)
    exact q _ (.bin "min" (.bin "max" (.bin "add" (.name r.1) fi) (.num r.2.1)) (.num r.2.2)) _ (g1.trans ((go _).trans (g2.trans (g15 _))))
      (.bin upd_same (.bin ((g45 _).tup (gp3 _).dr upd_same) (.bin ((g25 _).tup (gp1 _).dr upd_same) (own2.go (g15 _) g2.dr) (hfi.go (g15 _) g2.dr)) (.num ((g35 _).tup (gp2 _).dr upd_same))) (.num ((gp5 _).tup (gp4 _).dr upd_same)))
      (.bin (by decide +kernel) (.bin (by decide +kernel) (.bin (by decide +kernel) owo hfo) (.num (by omega))) (.num (by omega))) (by simp only [It.dep]; omega) (by simp only [It.sz]; omega)
end
end NL

namespace NL
open PySem PySem.Spec PyProof.Rows L2
/-- a plant as it is drawn -/
structure PlG (p : Pl) (xs : List Str) (B : Nat) : Prop where
  nm : ∀ x ∈ xs, Nam x
  v : ∀ r ∈ p.vs, Rb B r ∧ r.1 ∈ xs
  i : ∀ r ∈ p.ins, Rb B r ∧ r.1 ∈ xs
  n : ∀ r ∈ p.ns, Rb B r ∧ r.1 ∈ xs
  s : ∀ i ∈ p.st, Okx xs B false i ∧ i.dep ≤ 8 ∧ i.sz ≤ 50
  a : Okx xs B true p.al ∧ p.al.dep ≤ 6 ∧ p.al.sz ≤ 223
  lv : p.vs.length ≤ 16 ∧ p.ins.length ≤ 16 ∧ p.ns.length ≤ 16
  ls : p.st.length = p.vs.length
  ne : p.vs ≠ []
  nm2 : xs = (p.vs ++ p.ins ++ p.ns).map (·.1)
  al2 : Okx ((p.vs ++ p.ins).map (·.1)) B true p.al
  cn : cnt p.vs ≤ 1000 ∧ cnt p.ins ≤ 1000 ∧ cnt p.ns ≤ 1000
theorem rows_sub {B : Nat} {rows : List Row} {ys xs : List Str} (h : rows.map (·.1) = ys) (hs : ∀ y ∈ ys, y ∈ xs) (hb : ∀ r ∈ rows, Rb B r) : ∀ r ∈ rows, Rb B r ∧ r.1 ∈ xs := fun r hr => ⟨hb r hr, hs _ (by rw [← h]; exact List.mem_map_of_mem hr)⟩
theorem okx_mono {xs ys : List Str} {B : Nat} (hs : ∀ y ∈ ys, y ∈ xs) {b : Bool} {i : It} (h : Okx ys B b i) : Okx xs B b i := by
  induction h with
  | num h => exact .num h
  | name h => exact .name (hs _ h)
  | lit => exact .lit
  | abs _ ih => exact .abs ih
  | not _ ih => exact .not ih
  | dm a _ c d ih => exact .dm a ih c d
  | bin a _ _ ih jh => exact .bin a ih jh
  | cmp a _ _ ih jh => exact .cmp a ih jh
  | tri _ _ _ ih jh kh => exact .tri ih jh kh
  | grp a b _ ih => exact .grp a b ih
theorem Kids.app {H : Hp} {l l' : List It} {vs vs' : List V} (h : Kids H l vs) (g : Kids H l' vs') : Kids H (l ++ l') (vs ++ vs') := by
  induction l generalizing vs with
  | nil =>
    have : vs = [] := List.length_eq_zero_iff.mp h.1
    rw [this]; exact g
  | cons a r ih =>
    cases vs with
    | nil => exact absurd h.1 (by simp)
    | cons x xs =>
      have h0 : ItemIn H a x := h.2 0 a x rfl rfl
      have h1 : Kids H r xs := ⟨by have := h.1; simpa using this, fun k i y e f => h.2 (k + 1) i y (by simpa using e) (by simpa using f)⟩
      exact .cons h0 (ih h1)
theorem RowsAt.app {H : Hp} {l l' : List Row} {vs vs' : List V} (h : RowsAt H l vs) (g : RowsAt H l' vs') : RowsAt H (l ++ l') (vs ++ vs') := by
  refine ⟨by rw [List.length_append, List.length_append, h.1, g.1], fun k r x e f => ?_⟩
  by_cases hk : k < l.length
  · rw [List.getElem?_append_left hk] at e
    rw [List.getElem?_append_left (by rw [h.1]; exact hk)] at f
    exact h.2 k r x e f
  · rw [List.getElem?_append_right (by omega)] at e
    rw [List.getElem?_append_right (by rw [h.1]; omega), h.1] at f
    exact g.2 _ r x e f
/-! ### the plant that is drawn, with what is wanted to read it back -/
theorem strs_inj : ∀ {l m : List Str}, l.map V.str = m.map V.str → l = m
  | [], [], _ => rfl
  | [], _ :: _, h => by cases h
  | _ :: _, [], h => by cases h
  | a :: l, b :: m, h => by
    rw [List.map_cons, List.map_cons] at h
    injection h with h1 h2
    injection h1 with h1
    rw [h1, strs_inj h2]
theorem sIx_up {n : Nat} {k : Int} (h : 0 ≤ k) (d : Nat) : HT.sIx n d (some k) = min k.toNat n := by
  show (if k < 0 then (k + (n : Int)).toNat else min k.toNat n) = _
  rw [if_neg (by omega)]
theorem take_min {α : Type} (l : List α) (k : Nat) : l.take (min k l.length) = l.take k := by
  rcases Nat.le_total k l.length with h | h
  · rw [Nat.min_eq_left h]
  · rw [Nat.min_eq_right h, List.take_length, List.take_of_length_le h]
theorem drop_min {α : Type} (l : List α) (k : Nat) : l.drop (min k l.length) = l.drop k := by
  rcases Nat.le_total k l.length with h | h
  · rw [Nat.min_eq_left h]
  · rw [Nat.min_eq_right h, List.drop_length, List.drop_of_length_le h]
theorem pl_lo {xs ys : List Str} {k : Int} (h : 0 ≤ k) (e : cutV (xs.map V.str) none (some k) = ys.map V.str) : ys = xs.take k.toNat := by
  refine strs_inj ?_
  rw [← e]
  unfold cutV
  rw [sIx_up h, HT.sIx_none, List.drop_zero, Nat.sub_zero, take_min, List.map_take]
theorem pl_hi {xs ys : List Str} {k : Int} (h : 0 ≤ k) (e : cutV (xs.map V.str) (some k) none = ys.map V.str) : ys = xs.drop k.toNat := by
  refine strs_inj ?_
  rw [← e]
  unfold cutV
  rw [sIx_up h, HT.sIx_none, drop_min, List.take_of_length_le (by rw [List.length_drop]; omega), List.map_drop]
theorem pl_mid {xs ys : List Str} {k m : Int} (h : 0 ≤ k) (hm : 0 ≤ m) (e : cutV (xs.map V.str) (some k) (some m) = ys.map V.str) : ys = (xs.take m.toNat).drop k.toNat := by
  refine strs_inj ?_
  rw [← e]
  unfold cutV
  rw [sIx_up h, sIx_up hm, ← List.drop_take, take_min, List.drop_take, List.map_drop, List.map_take, List.drop_take]
  rcases Nat.le_total k.toNat (xs.map V.str).length with g | g
  · rw [Nat.min_eq_left g]
  · rw [Nat.min_eq_right g, List.drop_length, List.take_nil, List.drop_of_length_le g, List.take_nil]
theorem cuts {α : Type} (xs : List α) {a b : Nat} (h : a ≤ b) : xs.take a ++ (xs.take b).drop a = xs.take b := by
  rw [List.drop_take, ← List.take_add, Nat.add_sub_cancel' h]
section
variable {P : Program} {w : World} {K : PySem.W.Frag} {mg : Str → Option Value} {base : Heap}
/-! ### _law_plant -/
def spPlant (K : PySem.W.Frag) (B : Nat) : Sp := fun vs H Q _ => ∃ (d rp : Addr) (c : Int) (ra rb rc : Int), vs = [.ref d, .int c, .ref rp] ∧ Dr H d ∧ Keep K d H rp ([ra, rb, rc].map V.int) ∧ (1 ≤ ra ∧ ra ≤ 1000) ∧ (1 ≤ rb ∧ rb ≤ 1000) ∧ (1 ≤ rc ∧ rc ≤ 1000) ∧ c.natAbs + 6 ≤ B ∧
  ∀ v p xs H', Go d H H' → PlIn H' p v → PlG p xs B → (cnt p.vs ≤ ra.toNat ∧ cnt p.ins ≤ rb.toNat ∧ cnt p.ns ≤ rc.toNat) → Q v H'
theorem ok_law_plant {B : Nat} (hB1 : 100 ≤ B) (T : Txt K mg) : FnOk P w K mg base CX0 16 T.a_law_plant T.d_law_plant P_law_plant (spPlant K B) := by
  have G_law_take := ok_law_take (P := P) (w := w) (base := base) T
  have G_law_names := ok_law_names (P := P) (w := w) (base := base) T
  have G_law_ranges := ok_law_ranges (P := P) (w := w) (base := base) hB1 T
  have G_law_step := ok_law_step (P := P) (w := w) (base := base) hB1 T
  obtain ⟨_, G_law_test⟩ := ok_ET (P := P) (w := w) (base := base) hB1 T 3
  refine T.F_law_plant.ok sc_law_plant (fun vs H Q E h => ?_) (fun cdv A outer s H vs Q E hr h => ?_)
  · obtain ⟨d, rp, c, ra, rb, rc, rfl, _⟩ := h
    rfl
  obtain ⟨d, rp, c, ra, rb, rc, rfl, hD, hkr, hra, hrb, hrc, hc, q⟩ := h
  refine ⟨_, (pss_cons (ps_set (i := 3) sc_law_plant.nd rfl (Or.inl rfl) (pe_lst (pa_cons (pe_op op_add pe_int (pe_call G_law_take (hr.mono (by omega)) (by rfl) T.m_law_take T.F_law_take.kp T.b_law_take .nil pass0 (pa_cons (pv 0) (pa_cons pe_int pa_nil)))) (pa_cons (pe_call G_law_take (hr.mono (by omega)) (by rfl) T.m_law_take T.F_law_take.kp T.b_law_take .nil pass0 (pa_cons (pv 0) (pa_cons pe_int pa_nil))) (pa_cons (pe_call G_law_take (hr.mono (by omega)) (by rfl) T.m_law_take T.F_law_take.kp T.b_law_take .nil pass0 (pa_cons (pv 0) (pa_cons pe_int pa_nil))) pa_nil)))))
    (C8.pss_cut (ps_if (pt_cmpR op_eq (pe_call G_law_take (hr.mono (by omega)) (by rfl) T.m_law_take T.F_law_take.kp T.b_law_take .nil pass0 (pa_cons (pv 0) (pa_cons pe_int pa_nil))) pe_int (nomark _))
    (pss_one (ps_set (i := 3) sc_law_plant.nd rfl (Or.inl rfl) (pe_lst (pa_cons pe_int (pa_cons pe_int (pa_cons pe_int pa_nil))))))
    pss_nil)
    (pss_cons (ps_set (i := 4) sc_law_plant.nd rfl (Or.inr rfl) (pe_call G_law_names (hr.mono (by omega)) (by rfl) T.m_law_names T.F_law_names.kp T.b_law_names .nil pass0 (pa_cons (pv 0) (pa_cons (pe_op op_add (pe_op op_add (pe_ix ix_list (pv 3) pe_int (fun _ _ => rfl)) (pe_ix ix_list (pv 3) pe_int (fun _ _ => rfl))) (pe_ix ix_list (pv 3) pe_int (fun _ _ => rfl))) pa_nil))))
    (pss_cons (ps_set (i := 5) sc_law_plant.nd rfl (Or.inl rfl) (pe_call G_law_ranges (hr.mono (by omega)) (by rfl) T.m_law_ranges T.F_law_ranges.kp T.b_law_ranges .nil pass0 (pa_cons (pv 0) (pa_cons (pe_slice sl_list (pv 4) po_none (po_some (pe_ix ix_list (pv 3) pe_int (fun _ _ => rfl)))) (pa_cons (pe_ix ix_list (pv 2) pe_int (fun _ _ => rfl)) (pa_cons (pv 1) pa_nil))))))
    (pss_cons (ps_set (i := 6) sc_law_plant.nd rfl (Or.inl rfl) (pe_call G_law_ranges (hr.mono (by omega)) (by rfl) T.m_law_ranges T.F_law_ranges.kp T.b_law_ranges .nil pass0 (pa_cons (pv 0) (pa_cons (pe_slice sl_list (pv 4) (po_some (pe_ix ix_list (pv 3) pe_int (fun _ _ => rfl))) (po_some (pe_op op_add (pe_ix ix_list (pv 3) pe_int (fun _ _ => rfl)) (pe_ix ix_list (pv 3) pe_int (fun _ _ => rfl))))) (pa_cons (pe_ix ix_list (pv 2) pe_int (fun _ _ => rfl)) (pa_cons (pv 1) pa_nil))))))
    (pss_cons (ps_set (i := 7) sc_law_plant.nd rfl (Or.inl rfl) (pe_call G_law_ranges (hr.mono (by omega)) (by rfl) T.m_law_ranges T.F_law_ranges.kp T.b_law_ranges .nil pass0 (pa_cons (pv 0) (pa_cons (pe_slice sl_list (pv 4) (po_some (pe_op op_add (pe_ix ix_list (pv 3) pe_int (fun _ _ => rfl)) (pe_ix ix_list (pv 3) pe_int (fun _ _ => rfl)))) po_none) (pa_cons (pe_ix ix_list (pv 2) pe_int (fun _ _ => rfl)) (pa_cons (pv 1) pa_nil))))))
    (pss_cons (ps_set (i := 8) sc_law_plant.nd rfl (Or.inl rfl) (pe_op op_add pe_int (pe_callTy call_int1 (by rfl) T.z_int (by decide +kernel) (pa_cons (pe_cmpR op_eq (pe_call G_law_take (hr.mono (by omega)) (by rfl) T.m_law_take T.F_law_take.kp T.b_law_take .nil pass0 (pa_cons (pv 0) (pa_cons pe_int pa_nil))) pe_int (nomark _)) pa_nil))))
    (pss_cons (ps_set (i := 9) sc_law_plant.nd rfl (Or.inl rfl) (pe_lst (pa_cons (pe_call G_law_step (hr.mono (by omega)) (by rfl) T.m_law_step T.F_law_step.kp T.b_law_step .nil pass0 (pa_cons (pv 0) (pa_cons (pe_ix ix_tup (pv 5) pe_int (fun _ _ => rfl)) (pa_cons (pv 4) (pa_cons (pv 1) (pa_cons (pv 8) pa_nil)))))) pa_nil)))
    (pss_cons (ps_set (i := 9) sc_law_plant.nd rfl (Or.inl rfl) (pe_callTy call_tuple_of (by rfl) T.z_tuple (by decide +kernel) (pa_cons (pe_op op_cat (pv 9) (pe_lc (own := [("row", 10)]) (g := (gName 10)) (tt := tYes) rfl sc_law_plant.nd (pi_tup (pe_slice sl_tup (pv 5) (po_some pe_int) po_none)) (blkOk_by (N := N_law_plant) (sc := defScope s_law_plant) (by decide +kernel)) (fun _ _ _ _ _ => (pg_name (i := 10) sc_law_plant.nd rfl (Or.inl rfl))) (fun _ _ _ _ _ => pts_nil) (fun _ _ _ _ _ => (pe_call G_law_step (hr.mono (by omega)) (by rfl) T.m_law_step T.F_law_step.kp T.b_law_step .nil pass0 (pa_cons (pv 0) (pa_cons (pv 10) (pa_cons (pv 4) (pa_cons (pv 1) (pa_cons pe_int pa_nil))))))))) pa_nil)))
    (pss_cons (ps_set (i := 11) sc_law_plant.nd rfl (Or.inl rfl) (pe_tup (pa_cons pe_str pa_nil)))
    (C8.pss_cut (ps_if (pt_cmpR op_eq (pe_call G_law_take (hr.mono (by omega)) (by rfl) T.m_law_take T.F_law_take.kp T.b_law_take .nil pass0 (pa_cons (pv 0) (pa_cons pe_int pa_nil))) pe_int (nomark _))
    (pss_one (ps_set (i := 11) sc_law_plant.nd rfl (Or.inl rfl) (pe_call G_law_test (hr.mono (by omega)) (by rfl) T.m_law_test T.F_law_test.kp T.b_law_test .nil pass0 (pa_cons (pv 0) (pa_cons (pe_slice sl_list (pv 4) po_none (po_some (pe_op op_add (pe_ix ix_list (pv 3) pe_int (fun _ _ => rfl)) (pe_ix ix_list (pv 3) pe_int (fun _ _ => rfl))))) (pa_cons (pv 1) (pa_cons (pv 8) pa_nil)))))))
    pss_nil)
    (pss_one (ps_ret (pe_tup (pa_cons (pv 5) (pa_cons (pv 6) (pa_cons (pv 7) (pa_cons (pv 9) (pa_cons (pv 11) pa_nil))))))))))))))))))), ?_⟩
  -- counts
  refine ⟨_, rfl, d, _, rfl, hD, (by decide), fun c0 H1 g1 c00 c01 => ?_⟩
  refine ⟨_, _, rfl, rfl, _, rfl, d, _, rfl, g1.dr, (by decide), fun c1 H2 g2 c10 c11 => ?_⟩
  refine ⟨_, rfl, d, _, rfl, g2.dr, (by decide), fun c2 H3 g3 c20 c21 => ?_⟩
  refine ⟨(Nat.le_of_ble_eq_true rfl), fun cp hcp => ?_⟩
  have gc := fun o => Go.new (o := o) g3.dr hcp
  have ncd := new_ne g3.dr hcp
  refine ⟨fun σ H4 => ∃ (cp : Addr) (a b e : Int), σ = [some (.ref d), some (.int c), some (.ref rp), some (.ref cp), none, none, none, none, none, none, none, none] ∧ Go d H H4 ∧ cp ≠ d ∧ H4 cp = some (.lst [.int a, .int b, .int e]) ∧ (1 ≤ a ∧ a ≤ 8) ∧ (0 ≤ b ∧ b ≤ 4) ∧ (0 ≤ e ∧ e ≤ 4), ?_, ?_⟩
  · refine ⟨_, rfl, d, _, rfl, (gc _).dr, (by decide), fun u H5 g5 u0 u1 => ?_⟩
    refine ⟨rfl, _, rfl, ?_⟩
    have g15 := g1.trans (g2.trans (g3.trans ((gc _).trans g5)))
    refine ite2 (fun z => ?_) (fun z => ?_)
    · refine ⟨(Nat.le_of_ble_eq_true rfl), fun cp2 hcp2 => ?_⟩
      exact ⟨cp2, 8, 4, 4, rfl, g15.trans (.new g5.dr hcp2), new_ne g5.dr hcp2, upd_same, by decide, by decide, by decide⟩
    · exact ⟨cp, 1 + c0, c1, c2, rfl, g15, ncd, g5.at g3.dr hcp, by omega, by omega, by omega⟩
  rintro σ4 H4 ⟨cp, ca, cb, ce, rfl, g4, ncp, ecp, hca, hcb, hce⟩
  have kc : Keep K d H4 cp [.int ca, .int cb, .int ce] := .of ncp ecp
  -- names
  refine ⟨_, rfl, _, rfl, _, _, _, _, rfl, rfl, kc.now, atI0, _, rfl, _, _, _, _, rfl, rfl, kc.now, atI1, _, _, rfl, rfl, _, rfl, _, _, _, _, rfl, rfl, kc.now, atI2, _, _, rfl, rfl, d, _, rfl, g4.dr, (by omega), (by omega), fun n xs H5 g5 hn nnd en hx hxl _ hxne => ?_⟩
  have hxne' := hxne (by omega)
  have kn : Keep K d H5 n (xs.map V.str) := .of nnd en
  have kc5 := kc.go g5
  -- variables
  refine ⟨_, rfl, _, rfl, _, rfl, _, _, _, _, rfl, rfl, kc5.now, atI0, _, rfl, _, _, rfl, kn.now, fun p1 hp1 => ?_⟩
  have g6 := fun o => Go.new (o := o) g5.dr hp1
  obtain ⟨ys1, ec1, hs1, hl1, hne1⟩ := cut_map xs none (some ca)
  have hne1' := hne1 ca rfl rfl hca.1 hxne'
  have kr6 := fun o => (hkr.go g4).go (g5.trans (g6 o))
  refine ⟨_, rfl, _, _, _, _, rfl, rfl, (kr6 _).now, atI0, _, rfl, d, p1, ys1, ra, c, rfl, (g6 _).dr, .of (new_ne g5.dr hp1) (by rw [upd_same]; exact congrArg (fun z => some (HO.lst z)) ec1), hra.1, hra.2, hc, by omega, fun v1 rows1 H7 g7 hr1 hrn1 hrb1 hct1 => ?_⟩
  have g57 := (g6 _).trans g7
  -- inputs
  have kc7 := kc5.go g57
  refine ⟨_, rfl, _, rfl, _, rfl, _, _, _, _, rfl, rfl, kc7.now, atI0, _, rfl, _, rfl, _, _, _, _, rfl, rfl, kc7.now, atI0, _, rfl, _, _, _, _, rfl, rfl, kc7.now, atI1, _, _, rfl, rfl, _, rfl, _, _, rfl, (kn.go g57).now, fun p2 hp2 => ?_⟩
  have g8 := fun o => Go.new (o := o) g7.dr hp2
  obtain ⟨ys2, ec2, hs2, hl2, _⟩ := cut_map xs (some ca) (some (ca + cb))
  have kr8 := fun o => (kr6 _).go (g7.trans (g8 o))
  refine ⟨_, rfl, _, _, _, _, rfl, rfl, (kr8 _).now, atI1, _, rfl, d, p2, ys2, rb, c, rfl, (g8 _).dr, .of (new_ne g7.dr hp2) (by rw [upd_same]; exact congrArg (fun z => some (HO.lst z)) ec2), hrb.1, hrb.2, hc, by omega, fun v2 rows2 H9 g9 hr2 hrn2 hrb2 hct2 => ?_⟩
  have g79 := (g8 _).trans g9
  -- noises
  have kc9 := kc7.go g79
  have kn9 := (kn.go g57).go g79
  refine ⟨_, rfl, _, rfl, _, rfl, _, _, _, _, rfl, rfl, kc9.now, atI0, _, rfl, _, _, _, _, rfl, rfl, kc9.now, atI1, _, _, rfl, rfl, _, rfl, _, _, rfl, kn9.now, fun p3 hp3 => ?_⟩
  have gA := fun o => Go.new (o := o) g9.dr hp3
  obtain ⟨ys3, ec3, hs3, hl3, _⟩ := cut_map xs (some (ca + cb)) none
  have krA := fun o => (kr8 _).go (g9.trans (gA o))
  refine ⟨_, rfl, _, _, _, _, rfl, rfl, (krA _).now, atI2, _, rfl, d, p3, ys3, rc, c, rfl, (gA _).dr, .of (new_ne g9.dr hp3) (by rw [upd_same]; exact congrArg (fun z => some (HO.lst z)) ec3), hrc.1, hrc.2, hc, by omega, fun v3 rows3 HB gB hr3 hrn3 hrb3 hct3 => ?_⟩
  have g9B := (gA _).trans gB
  have vs1 := rows_sub hrn1 hs1 hrb1
  have vs2 := rows_sub hrn2 hs2 hrb2
  have vs3 := rows_sub hrn3 hs3 hrb3
  have hln1 := congrArg List.length hrn1
  have hln2 := congrArg List.length hrn2
  have hln3 := congrArg List.length hrn3
  rw [List.length_map] at hln1 hln2 hln3
  have q1 := pl_lo (by omega) ec1
  have q2 := pl_mid (by omega) (by omega) ec2
  have q3 := pl_hi (by omega) ec3
  have q12 : (rows1 ++ rows2).map (·.1) = xs.take (ca + cb).toNat := by
    rw [List.map_append, hrn1, hrn2, q1, q2, cuts xs (by omega)]
  have q123 : xs = (rows1 ++ rows2 ++ rows3).map (·.1) := by
    rw [List.map_append, q12, hrn3, q3, List.take_append_drop]
  -- deep
  refine ⟨_, rfl, d, _, rfl, gB.dr, (by decide), fun dp HC gC dp0 dp1 => ?_⟩
  refine ⟨rfl, .inr ⟨_, rfl, _, _, rfl, rfl, ?_⟩⟩
  have hdeep2 : ((1 : Int) + (if decide (V.int dp = V.int 0) = true then (1 : Int) else 0)) ≤ 2 := by split <;> decide
  -- steps
  obtain ⟨tp, rx, rfl, etp, hrs⟩ := hr1
  have g7C := g79.trans (g9B.trans gC)
  have etC := g7C.tup g7.dr etp
  have hrC := hrs.mono (g7C.tp g7.dr)
  cases hrow : rows1 with
  | nil => exact absurd (by rw [← hrn1, hrow]; rfl) hne1'
  | cons r0 rr =>
  cases hrxx : rx with
  | nil => rw [hrxx, hrow] at hrs; exact absurd hrs.1 (by simp)
  | cons x0 xr =>
  have hx0 : RowIn HC r0 x0 := hrC.2 0 r0 x0 (by rw [hrow]; rfl) (by rw [hrxx]; rfl)
  have hrest : RowsAt HC rr xr := by
    refine ⟨?_, fun k r x e f => hrC.2 (k + 1) r x (by rw [hrow]; simpa using e) (by rw [hrxx]; simpa using f)⟩
    have := hrC.1
    rw [hrow, hrxx] at this
    simpa using this
  have hv0 := vs1 r0 (by rw [hrow]; exact List.mem_cons_self)
  have hvr : ∀ r ∈ rr, Rb B r ∧ r.1 ∈ xs := fun r hr => vs1 r (by rw [hrow]; exact List.mem_cons_of_mem _ hr)
  have knC := kn9.go (g9B.trans gC)
  rw [hrxx] at etC
  refine ⟨_, rfl, _, rfl, tp, _, _, _, rfl, rfl, sqt etC, atI0, _, rfl, _, rfl, _, rfl, d, n, x0, r0, xs, c, ((1 : Int) + (if decide (V.int dp = V.int 0) = true then (1 : Int) else 0)), rfl, gC.dr, hx0, hv0.1, hv0.2, knC, by omega, hdeep2, fun sv0 i0 HD gD hi0 ho0 hd0 hs0 => ?_⟩
  refine ⟨(Nat.le_of_ble_eq_true rfl), fun sp hsp => ?_⟩
  have gE := fun o => Go.new (o := o) gD.dr hsp
  have gCE := fun o => gD.trans (gE o)
  refine ⟨_, rfl, _, rfl, 1, rfl, tp, _, rfl, sqt ((gCE _).tup gC.dr etC), not_whole _ _ _, fun tp2 htp2 => ?_⟩
  have gF := fun o => Go.new (o := o) (gE _).dr htp2
  have gCF := fun o => (gCE _).trans (gF o)
  refine ⟨tp2, rfl, ⟨_, sqt upd_same⟩, fun D hDn => ?_⟩
  have nDd := new_ne (gF _).dr hDn
  have gG := fun o => Go.new (o := o) (gF _).dr hDn
  refine lc_tup (K := K) (a := tp2) (xs := cutV (x0 :: xr) (some 1) none) (fun (j : Nat) (H' : Hp) => ∃ (l : List It) (lv : List V), Go d (upd (upd HD sp (.lst [sv0])) tp2 (.tup (cutV (x0 :: xr) (some 1) none))) H' ∧ H' D = some (.lst lv) ∧ Kids H' l lv ∧ l.length = j ∧ ∀ i ∈ l, Okx xs B false i ∧ i.dep ≤ 8 ∧ i.sz ≤ 50) ?_ ?_ ?_ ?_
  · exact ⟨[], [], gG _, upd_same, kids0, rfl, fun i h => by cases h⟩
  · rintro j H' _ ⟨l, lv, g, _⟩
    exact sqt (g.tup (gF _).dr upd_same)
  · rintro j x H' hx ⟨l, lv, g, eD, hks, hll, hok⟩
    rw [cut_tail] at hx
    obtain ⟨r, hr1', hri, hrm⟩ := hrest.get hx
    have gCg := (gCF _).trans g
    refine ⟨rfl, yes_if ?_⟩
    refine ⟨_, rfl, _, rfl, _, rfl, _, rfl, d, n, x, r, xs, c, 1, rfl, g.dr, hri.mono (gCg.tp gC.dr), (hvr r hrm).1, (hvr r hrm).2, knC.go gCg, by omega, by decide, fun v i H4 g4' hi hio hid his => ?_⟩
    have e4 := g4'.fr D _ nDd eD
    have t4 := fun o => tp_put (o := o) e4
    refine ⟨lv, e4, ?_, l ++ [i], lv ++ [v], (g.trans g4').put2 hDn nDd, upd_same, ?_, ?_, ?_⟩
    · rw [hks.1, hll]
      have := (List.getElem?_eq_some_iff.mp hr1').1
      have h1 := congrArg List.length hrow
      rw [List.length_cons] at h1
      exact small1000 (by omega)
    · exact ((hks.mono (g4'.tp g.dr)).mono (t4 _)).snoc (hi.mono (t4 _))
    · rw [List.length_append, hll] <;> rfl
    · intro z hz
      rcases List.mem_append.mp hz with h | h
      · exact hok z h
      · rw [List.mem_singleton.mp h]; exact ⟨hio, hid, his⟩
  · rintro HI ⟨l, lv, g, eD, hks, hll, hok⟩
    rw [cut_tail, hrest.1] at hll
    have gEg := (gF _).trans g
    have nsd := new_ne gD.dr hsp
    have esp := gEg.fr sp _ nsd upd_same
    have hxl16 : xs.length ≤ 16 := by omega
    have h1 := congrArg List.length hrow
    rw [List.length_cons] at h1
    refine ⟨sp, D, _, _, rfl, rfl, esp, eD, ?_, fun sp2 hsp2 => ?_⟩
    · rw [hks.1, hll, List.length_singleton]
      exact big (by omega)
    have gJ := fun o => Go.new (o := o) g.dr hsp2
    refine ⟨sp2, _, rfl, .inl ⟨sqd upd_same, fun stp hstp => ?_⟩⟩
    have gK := fun o => Go.new (o := o) (gJ _).dr hstp
    have gIK := fun o => (gJ _).trans (gK o)
    have hkall : Kids HI (i0 :: l) (sv0 :: lv) := .cons (hi0.go ((gE _).trans gEg) gD.dr) hks
    -- allowed
    refine ⟨(Nat.le_of_ble_eq_true rfl), fun ap hap => ?_⟩
    have gL := fun o => Go.new (o := o) (gK _).dr hap
    have gIL := fun o => (gIK _).trans (gL o)
    have gCI := (gCF _).trans g
    have hpg : ∀ al, Okx xs B true al → Okx ((rows1 ++ rows2).map (·.1)) B true al → al.dep ≤ 6 → al.sz ≤ 223 → PlG ⟨rows1, rows2, rows3, i0 :: l, al⟩ xs B := fun al ho ho2 hd hs =>
      ⟨hx, vs1, vs2, vs3, fun i hi => by
        rcases List.mem_cons.mp hi with h | h
        · rw [h]; exact ⟨ho0, hd0, hs0⟩
        · exact hok i h, ⟨ho, hd, hs⟩, ⟨by show rows1.length ≤ 16; omega, by show rows2.length ≤ 16; omega, by show rows3.length ≤ 16; omega⟩, by show (i0 :: l).length = rows1.length; rw [hrow, List.length_cons, List.length_cons, hll], by show rows1 ≠ []; rw [hrow]; simp, q123, ho2, ⟨by show cnt rows1 ≤ 1000; omega, by show cnt rows2 ≤ 1000; omega, by show cnt rows3 ≤ 1000; omega⟩⟩
    refine ⟨fun σ HM => ∃ (y : Option V) (av : V) (al : It), σ = [some (.ref d), some (.int c), some (.ref rp), some (.ref cp), some (.ref n), some (.ref tp), some v2, some v3, some (.int ((1 : Int) + (if decide (V.int dp = V.int 0) = true then (1 : Int) else 0))), some (.ref stp), y, some av] ∧ Go d (upd (upd HI sp2 (.lst ([sv0] ++ lv))) stp (.tup ([sv0] ++ lv))) HM ∧ ItemIn HM al av ∧ Okx xs B true al ∧ Okx ((rows1 ++ rows2).map (·.1)) B true al ∧ al.dep ≤ 6 ∧ al.sz ≤ 223, ?_, ?_⟩
    · refine ⟨_, rfl, d, _, rfl, (gL _).dr, (by decide), fun u HM gM u0 u1 => ?_⟩
      refine ⟨rfl, _, rfl, ?_⟩
      have hlit : ItemIn HM (.lit true) (.ref ap) := (ItemIn.lit (b := true) upd_same).go gM (gL _).dr
      refine ite2 (fun z => ?_) (fun z => ?_)
      · have kcM := ((kc9.go (g9B.trans gC)).go gCI).go ((gIL _).trans gM)
        have knM := (knC.go gCI).go ((gIL _).trans gM)
        refine ⟨_, rfl, _, rfl, _, rfl, _, _, _, _, rfl, rfl, kcM.now, atI0, _, rfl, _, _, _, _, rfl, rfl, kcM.now, atI1, _, _, rfl, rfl, _, rfl, _, _, rfl, knM.now, fun p5 hp5 => ?_⟩
        have gN := fun o => Go.new (o := o) gM.dr hp5
        obtain ⟨ys5, ec5, hs5, hl5, _⟩ := cut_map xs none (some (ca + cb))
        refine ⟨_, rfl, _, rfl, d, p5, ys5, c, ((1 : Int) + (if decide (V.int dp = V.int 0) = true then (1 : Int) else 0)), rfl, (gN _).dr, .of (new_ne gM.dr hp5) (by rw [upd_same]; exact congrArg (fun z => some (HO.lst z)) ec5), by omega, hdeep2, fun av al HO gO hal hao had has => ?_⟩
        exact ⟨none, av, al, rfl, (gL _).trans (gM.trans ((gN _).trans gO)), hal, okx_mono hs5 hao, okx_mono (fun y hy => by rw [q12, ← pl_lo (by omega) ec5]; exact hy) hao, had, has⟩
      · exact ⟨none, _, .lit true, rfl, (gL _).trans gM, hlit, .lit, .lit, by rw [It.dep]; decide, by rw [It.sz]; decide⟩
    · rintro σM HM ⟨y, av, al, rfl, gM, hal, hao, hao2, had, has⟩
      refine ⟨_, rfl, _, rfl, _, rfl, _, rfl, _, rfl, (Nat.le_of_ble_eq_true rfl), fun pp hpp => ?_⟩
      have gP := fun o => Go.new (o := o) gM.dr hpp
      have gIP := fun o => (gIK _).trans (gM.trans (gP o))
      have gCP := fun o => gCI.trans (gIP o)
      have gBP := fun o => gC.trans (gCP o)
      refine q _ ⟨rows1, rows2, rows3, i0 :: l, al⟩ xs _ (g4.trans (g5.trans (g57.trans (g79.trans (g9B.trans (gBP _)))))) ⟨pp, _, _, _, _, stp, _, rfl, upd_same, ?_, ?_, ?_, ((gP _).tup gM.dr (gM.tup (gK _).dr upd_same)), hkall.mono ((gIP _).tp g.dr), hal.go (gP _) gM.dr⟩ (hpg al hao hao2 had has) ⟨hct1, hct2, hct3⟩
      · exact (show RowsIn H7 rows1 (.ref tp) from ⟨tp, _, rfl, etp, hrs⟩).mono ((g79.trans (g9B.trans (gBP _))).tp g7.dr)
      · exact hr2.mono ((g9B.trans (gBP _)).tp g9.dr)
      · exact hr3.mono ((gBP _).tp gB.dr)
end
end NL

set_option maxHeartbeats 4000000
namespace NL
open PySem PySem.Spec PyProof.Rows L2
theorem newH {H : Hp} {p : Addr} (hp : H p = none) (o : HO) : ∃ H', upd H p o = H' ∧ Same H H' ∧ H' p = some o := ⟨_, rfl, same_new hp _, upd_same⟩
theorem catA_of {K : PySem.W.Frag} {a b : Addr} {xs ys : List V} {H : Hp} {Q : VK} (ha : H a = some (.tup xs)) (hb : H b = some (.tup ys)) (hl : xs.length + ys.length ≤ 1000) (q : ∀ p H', Same H H' → H' p = some (.tup (xs ++ ys)) → Q (.ref p) H') : rCatA K (.ref a) (.ref b) H Q := by
  refine ⟨a, b, xs, ys, rfl, rfl, sqt ha, sqt hb, big (by omega), fun h => ?_, fun _ h => ?_, fun _ _ p hp => ?_⟩
  · exact q b H (Same.refl H) (by rw [h, List.nil_append]; exact hb)
  · exact q a H (Same.refl H) (by rw [h, List.append_nil]; exact ha)
  · exact q p _ (same_new hp _) upd_same
theorem op_catAK {X : Cx} {K : PySem.W.Frag} (h : X.K = K) : OpR X (binaryOp .Add) (rCatA K) := by subst h; exact op_catA
/-! ### ranges of ints of any size -/
theorem turn_big {P : Program} {w : World} {K : PySem.W.Frag} {te : Expr} (j : Addr) (low : Int) (m : Nat) :
    Turn P w K te (Itr low m) [j] j (fun k g => IsLongIter g j (low + (k : Nat) * 1) ((m : Int) - (k : Nat)) 1) where
  mem := List.mem_singleton.mpr rfl
  obj := by
    intro k g hst c hc
    obtain rfl : c = j := List.mem_singleton.mp hc
    refine ⟨_, hst, fun v z => ?_⟩
    have z2 : Data.fields _ = Data.cell v := z
    cases z2
  keep := fun k g g2 hst hk => hk j (List.mem_singleton.mpr rfl) _ hst
  item := by
    rintro X rfl rfl rfl hcalm k pins s σ H E hinv hfp hst hgo
    obtain ⟨b0, b1, b2, b3, b4, b5⟩ := hfp j (List.mem_singleton.mpr rfl)
    refine (Walks.longrange (prog := X.prog) (w := X.w) (hinv.ok.hd hcalm) j low 1 m).item k s _ _ hgo hst fun v g tk hv hst2 hold => ?_
    obtain ⟨t, rfl⟩ := hv
    have hinv2 : Inv X pins σ H { s with heap := g, toks := tk } := hinv.turned (fun c o hc e => hold c o (by simpa using hc) e) b0 b1 b3 b4 b5
    refine ⟨_, rfl, go_of (s := { s with heap := g, toks := tk }) (n := "longrange_iterator") hst2 rfl rfl (by decide) ⟨.int (low + k), H, hinv2, ⟨t, ?_⟩, ⟨rfl, rfl⟩, hst2, fun c hc => (hfp c hc).1⟩⟩
    rw [Int.mul_one]
  done := by
    rintro X rfl rfl rfl hcalm k pins s σ H E hinv hfp hst hstop
    obtain ⟨b0, b1, b2, b3, b4, b5⟩ := hfp j (List.mem_singleton.mpr rfl)
    have hmk : m ≤ k := hstop
    exact wpAny_pyNext_long_end (hinv.ok.hd hcalm) hst (by omega) fun g hold => ⟨rfl, hinv.turned (t' := s.toks) (fun c o hc e => hold c o hc e) b0 b1 b3 b4 b5⟩
  self := fun _ _ _ _ _ hst h => wpAny_pyIter_longiter hst h
def iRngW (ta : TA) : TI := fun σ H R => ta σ H fun vs H1 => ∃ i j : Int, vs = [.int i, .int j] ∧ R (Itr i (j - i).toNat) H1
theorem range_any {X : Cx} {te : Expr} {pins : List (Addr × Obj)} {σ : L2.St} {H : Hp} {s : Shared} {R : L2.It → Hp → Prop} {E : Value → Shared → Prop} {low top : Int} {t u v : Tok} {tk : Nat} (hinv : Inv X pins σ H s)
    (q : R (Itr low (top - low).toNat) H) : wpAny (model X.prog X.w) X.A (pyIter (.ref s.heap.objs.size)) (PIE X pins σ te R) E { s with heap := s.heap.push { cls := .type "range", data := .fields #[.int low t, .int top u, .int 1 v] }, toks := tk } := by
  have I1 : Inv X pins σ H { s with heap := s.heap.push { cls := .type "range", data := .fields #[.int low t, .int top u, .int 1 v] }, toks := tk } := hinv.kept fun b o e => Heap.get?_push_of_some _ e
  have e1 : low + ((0 : Nat) : Int) * 1 = low := by simp
  have e2 : (((top - low).toNat : Nat) : Int) - ((0 : Nat) : Int) = Builtin.Range.rangeSize low top 1 := by rw [rangeSize_one]; split <;> omega
  have fpo : ∀ b ∈ [(s.heap.push { cls := .type "range", data := .fields #[.int low t, .int top u, .int 1 v] }).objs.size], FpOk X pins H b := fun b hb => by
    obtain rfl := List.mem_singleton.mp hb
    exact I1.fpOk (Nat.le_refl _) (I1.hok.fresh (Nat.le_refl _))
  by_cases hsm : Builtin.Range.small low top 1 = true
  · refine wpAny_pyIter_range (IsRange.new ..) hsm ⟨_, _, _, _, H, rfl, I1.kept (t' := tk) fun b o e => Heap.get?_push_of_some _ e, turn_range _ low (top - low).toNat, ?_, fpo, q⟩
    show IsRangeIter _ _ (low + ((0 : Nat) : Int) * 1) ((((top - low).toNat : Nat) : Int) - ((0 : Nat) : Int)) 1
    rw [e1, e2]
    exact Heap.get?_push_size _ rfl
  · refine wpAny_pyIter_longrange (IsRange.new ..) (by simpa using hsm) ⟨_, _, _, _, H, rfl, I1.kept (t' := tk) fun b o e => Heap.get?_push_of_some _ e, turn_big _ low (top - low).toNat, ?_, fpo, q⟩
    show IsLongIter _ _ (low + ((0 : Nat) : Int) * 1) ((((top - low).toNat : Nat) : Int) - ((0 : Nat) : Int)) 1
    rw [e1, e2]
    exact Heap.get?_push_size _ rfl
theorem pi_range2W {X : Cx} {te : Expr} {a b : Expr} {ta : TA} {p pos : Pos} (hg : Gl X "range") (hm : X.mg "range" = none) (ha : PA X [a, b] ta) (hs : starEach [a, b] X.env = [(false, eval a X.env), (false, eval b X.env)] := by rfl) (ht : starEach [b] X.env = [(false, eval b X.env)] := by rfl) :
    PI X te (.Call (.Name "range" p) [a, b] [] pos) (iRngW ta) := by
  refine ⟨fun pins s σ H R hinv h => ?_⟩
  refine Call_ (ld_blt hinv hg hm boot_range (PyProof.Rows.callWith_type1 (thn (ha.run pos pins s σ H _ hinv h) fun us s1 ⟨vs, H1, I1, hv, q1⟩ => ?_) (by rw [hs, ht]) (by rw [ht]; rfl)))
  obtain ⟨i, j, rfl, q⟩ := q1
  cases hv with
  | cons ra rest =>
    cases rest with
    | cons rb none2 =>
      cases none2
      obtain ⟨ka, rfl⟩ := ra
      obtain ⟨kb, rfl⟩ := rb
      exact call_range_2 (range_any I1 q)
/-! ### rows of ints -/
def RowsL (H : Hp) (xs : List V) (ls : List (List Int)) : Prop := xs.length = ls.length ∧ ∀ (k : Nat) x l, xs[k]? = some x → ls[k]? = some l → ∃ t, x = .ref t ∧ H t = some (.tup (l.map V.int))
theorem RowsL.mono {H H' : Hp} (s : Tp H H') {xs : List V} {ls : List (List Int)} (h : RowsL H xs ls) : RowsL H' xs ls := ⟨h.1, fun k x l a b => by
  obtain ⟨t, e, g⟩ := h.2 k x l a b
  exact ⟨t, e, s _ _ g⟩⟩
theorem RowsL.nil {H : Hp} : RowsL H [] [] := ⟨rfl, fun k x l a _ => by simp at a⟩
theorem RowsL.app {H : Hp} {xs ys : List V} {ls ms : List (List Int)} (h : RowsL H xs ls) (g : RowsL H ys ms) : RowsL H (xs ++ ys) (ls ++ ms) := by
  refine ⟨by rw [List.length_append, List.length_append, h.1, g.1], fun k x l e f => ?_⟩
  by_cases hk : k < xs.length
  · rw [List.getElem?_append_left hk] at e
    rw [List.getElem?_append_left (by rw [← h.1]; exact hk)] at f
    exact h.2 k x l e f
  · rw [List.getElem?_append_right (by omega)] at e
    rw [List.getElem?_append_right (by rw [← h.1]; omega), ← h.1] at f
    exact g.2 _ x l e f
theorem RowsL.one {H : Hp} {t : Addr} {l : List Int} (h : H t = some (.tup (l.map V.int))) : RowsL H [.ref t] [l] := ⟨rfl, fun k x m a b => by
  cases k with
  | zero => cases Option.some.inj a; cases Option.some.inj b; exact ⟨t, rfl, h⟩
  | succ k => simp at a⟩
theorem RowsL.get {H : Hp} {xs : List V} {ls : List (List Int)} (h : RowsL H xs ls) {k : Nat} {x : V} (e : xs[k]? = some x) : ∃ t l, ls[k]? = some l ∧ x = .ref t ∧ H t = some (.tup (l.map V.int)) := by
  have hk : k < xs.length := (List.getElem?_eq_some_iff.mp e).1
  have hkl : k < ls.length := by rw [← h.1]; exact hk
  have hl : ls[k]? = some ls[k] := List.getElem?_eq_getElem hkl
  obtain ⟨t, e1, e2⟩ := h.2 k x _ e hl
  exact ⟨t, _, hl, e1, e2⟩
theorem RowsL.refs {H : Hp} {xs : List V} {ls : List (List Int)} (h : RowsL H xs ls) : ∀ x ∈ xs, ∃ a, x = V.ref a := fun x m => by
  obtain ⟨k, hk⟩ := List.getElem?_of_mem m
  obtain ⟨t, l, _, e, _⟩ := h.get hk
  exact ⟨t, e⟩
theorem RowsL.tail {H : Hp} {x : V} {xs : List V} {l : List Int} {ls : List (List Int)} (h : RowsL H (x :: xs) (l :: ls)) : RowsL H xs ls := ⟨by have := h.1; simpa using this, fun k y m a b => h.2 (k + 1) y m (by simpa using a) (by simpa using b)⟩
/-! ### sorted, of a list of tuples of ints -/
theorem reads_ints {h : Heap} : ∀ {l : List Int} {us : List Value}, L2.Vals (l.map V.int) us → PySem.ReadsAll h us (l.map PyData.int) []
  | [], _, .nil => .nil
  | i :: l, _, .cons r t => by
    obtain ⟨k, rfl⟩ := r
    exact PySem.ReadsAll.cons (as := []) (bs := []) (.int _ _) (reads_ints t)
abbrev encR (l : List Int) : PyData := PyData.tuple (l.map .int)
abbrev leR : List Int → List Int → Bool := PySem.W.dataLe false encR
theorem each_rows {H : Hp} : ∀ {us : List Value} {xs : List V} {ls : List (List Int)}, L2.Vals xs us → RowsL H xs ls → PySem.W.EachIs (fun v l => ∃ t, v = Value.ref t ∧ H t = some (.tup (l.map V.int))) us ls
  | _, _, [], .nil, _ => .nil
  | _, _, _ :: _, .nil, h => absurd h.1 (by simp)
  | _, _, [], .cons _ _, h => absurd h.1 (by simp)
  | _, x :: xs, l :: ls, .cons r t, h => by
    obtain ⟨a, rfl, e⟩ := h.2 0 x l rfl rfl
    cases r
    exact .cons ⟨a, rfl, e⟩ (each_rows t h.tail)
theorem rows_each {H : Hp} : ∀ {us : List Value} {ls : List (List Int)}, PySem.W.EachIs (fun v l => ∃ t, v = Value.ref t ∧ H t = some (.tup (l.map V.int))) us ls → RowsL H (us.map L2.backV) ls ∧ ∀ u ∈ us, ∃ a, u = Value.ref a
  | _, _, .nil => ⟨RowsL.nil, fun u h => by cases h⟩
  | _, _, .cons ⟨t, e, h⟩ r => by
    subst e
    obtain ⟨h1, h2⟩ := rows_each r
    refine ⟨(RowsL.one h).app h1, fun u hu => ?_⟩
    rcases List.mem_cons.mp hu with e | hu
    · exact ⟨t, e⟩
    · exact h2 u hu
/-- sorted(xs), xs a list of tuples of ints: a new list of the same tuples, in order -/
def rSortedRows (K : PySem.W.Frag) : List V → Hp → VK → Prop := fun vs H Q => ∃ a xs ls, vs = [V.ref a] ∧ SqL K H a xs ∧ RowsL H xs ls ∧ (2 ≤ ls.length → ∀ l ∈ ls, l ≠ []) ∧
  ∀ ys p, RowsL H ys (ls.mergeSort leR) → H p = none → Q (.ref p) (upd H p (.lst ys))
theorem cr_sortedRows {X : Cx} (hu : X.A.units + 3 < cLine) : CallR X (.builtin "sorted") (rSortedRows X.K) := by
  intro pins s σ H vs us Q I r h
  obtain ⟨a, xs, ls, rfl, hs, hx, hne, q⟩ := h
  obtain ⟨its, rv, hl, hz⟩ := I.list hs
  obtain ⟨u, rfl, ru⟩ := vals1 r
  obtain rfl : u = Value.ref a := ru
  have hR := each_rows rv hx
  have hlen : its.length = ls.length := hR.length
  have hit : its.length ≤ sizeLine := by rw [← rv.length]; exact hz
  have fin : ∀ out : List Value, RowsL H (out.map L2.backV) (ls.mergeSort leR) → (∀ u ∈ out, ∃ a, u = Value.ref a) → out.length = its.length → ∃ x' H', Inv X pins σ H' { s with heap := sortedAll s.heap its out.toArray } ∧ L2.RelV x' (Value.ref (s.heap.objs.size + 1)) ∧ Q x' H' := fun out h1 h2 h3 => by
    obtain ⟨ep, he⟩ := PyProof.Rows.sortedAll_at s.heap its out.toArray
    exact ⟨.ref (s.heap.objs.size + 1), upd H (s.heap.objs.size + 1) (.lst (out.map L2.backV)), I.laid (t' := s.toks) (fun _ _ => PyProof.Rows.sortedAll_old) (Nat.le_succ _) ⟨by rw [List.length_map, h3]; exact hit, out, ep, vals_back h2, he⟩, rfl, q _ _ h1 (I.hok.fresh (Nat.le_succ _))⟩
  by_cases h2 : 2 ≤ its.length
  · have er : PySem.W.EachIs (fun v l => ∃ as, PySem.Reads s.heap v (encR l) as) its ls := hR.mono fun v l ⟨t, e, ht⟩ => by
      subst e
      obtain ⟨_, its2, r2, o, ho, hc, n, hd⟩ := I.hok _ _ ht
      exact ⟨_, .tuple ho hc hd (reads_ints r2)⟩
    refine PySem.W.sorted_data (enc := encR) hl.isList hR er (PySem.W.AllAlike.of fun b b' => by show PySem.W.alike (.tuple _) (.tuple _) = true; simp only [PySem.W.alike]; exact PySem.W.alike_ints b b') (.inl fun d hd => ?_) (by rw [← hlen]; exact hit) (fun b hb => ?_) fun out ho hE => ?_
    · obtain ⟨l, hm, rfl⟩ := List.mem_map.mp hd
      have := hne (by omega) l hm
      cases l with
      | nil => exact absurd rfl this
      | cons i l => exact ⟨_, _, rfl⟩
    · have : (encR b).depth = 1 := by show PyData.depth (.tuple _) = 1; rw [PyData.depth, PySem.W.depth_ints]
      rw [this]
      exact hu
    · obtain ⟨k1, k2⟩ := rows_each hE
      exact fin out k1 k2 (by rw [ho, hlen])
  · refine Srt.sorted_any hl.isList hit (fun h => absurd h h2) fun out ho => ?_
    have eo : out = its := by
      cases its with
      | nil => exact ho.eq_nil
      | cons x r =>
        cases r with
        | nil => exact List.perm_singleton.mp ho
        | cons y r => exact absurd (by simp) h2
    have es : ls.mergeSort leR = ls := by
      cases ls with
      | nil => exact List.mergeSort_nil
      | cons x r =>
        cases r with
        | nil => exact List.mergeSort_singleton x
        | cons y r => exact absurd (by rw [hlen]; simp) h2
    obtain ⟨k1, k2⟩ := rows_each hR
    rw [eo]
    exact fin its (by rw [es]; exact k1) k2 rfl
theorem lc_pairs {K : PySem.W.Frag} {a b : Addr} {xs ys : List V} {g : TG} {tt : TT} {te : TE} {vs : List Nat} {σ : L2.St} {H1 : Hp} {D : Addr} {Qd : Hp → Prop} (n : Nat) (hn : n = min xs.length ys.length) (Pv : Nat → Hp → Prop) (h0 : Pv 0 (upd H1 D (.lst []))) (hq : ∀ i H, Pv i H → SqT K H a xs ∧ SqT K H b ys)
    (hs : ∀ (i : Nat) (x y : V) (t : Addr) (H : Hp), xs[i]? = some x → ys[i]? = some y → Pv i H → H t = none → g (.ref t) (wipe σ vs) (upd H t (.tup [x, y])) fun σ2 H2 => wipe σ2 vs = wipe σ vs ∧ tt σ2 H2 fun c H3 =>
      if c = true then te σ2 H3 fun z H4 => ∃ acc, H4 D = some (.lst acc) ∧ acc.length < sizeLine ∧ Pv (i + 1) (upd H4 D (.lst (acc ++ [z]))) else Pv (i + 1) H3) (hd : ∀ H, Pv n H → Qd H) :
    ∃ W : Nat → Nat → Hp → Prop, (∃ m, W 0 m (upd H1 D (.lst []))) ∧ ∀ i m H, W i m H →
      ((RZ.ItzT K a b).stop i H ∧ Qd H) ∨ ((RZ.ItzT K a b).go i H ∧ ∃ Nx : Hp → Prop, (∀ H', Nx H' → ∃ m', m' < m ∧ W (i + 1) m' H') ∧ ∀ x H', (RZ.ItzT K a b).yld i H x H' → g x (wipe σ vs) H' fun σ2 H2 => wipe σ2 vs = wipe σ vs ∧ tt σ2 H2 fun c H3 =>
        if c = true then te σ2 H3 fun z H4 => ∃ acc, H4 D = some (.lst acc) ∧ acc.length < sizeLine ∧ Nx (upd H4 D (.lst (acc ++ [z]))) else Nx H3) := by
  refine ⟨fun i m H => m + i = n ∧ Pv i H, ⟨n, rfl, h0⟩, ?_⟩
  rintro i m H ⟨hi, p⟩
  obtain ⟨qx, qy⟩ := hq i H p
  by_cases lt : i < n
  · have ex : xs[i]? = some xs[i] := List.getElem?_eq_getElem (by omega)
    have ey : ys[i]? = some ys[i] := List.getElem?_eq_getElem (by omega)
    refine .inr ⟨⟨xs, ys, _, _, qx, qy, ex, ey⟩, Pv (i + 1), fun H' p' => ⟨m - 1, by omega, by omega, p'⟩, fun v H' y => ?_⟩
    obtain ⟨t, x1, y1, rfl, ht, rfl, f1, f2⟩ := y
    exact hs i x1 y1 t H (f1 xs qx) (f2 ys qy) p ht
  · have e : i = n := by omega
    subst e
    exact .inl ⟨⟨xs, ys, qx, qy, by omega⟩, hd H p⟩
theorem dc_pairs {K : PySem.W.Frag} {a b : Addr} {xs ys : List V} {g : TG} {tt : TT} {tk tv : TE} {vs : List Nat} {σ : L2.St} {H1 : Hp} {D : Addr} {Qd : Hp → Prop} (n : Nat) (hn : n = min xs.length ys.length) (Pv : Nat → Hp → Prop) (h0 : Pv 0 (upd H1 D (.dK []))) (hq : ∀ i H, Pv i H → SqT K H a xs ∧ SqT K H b ys)
    (hs : ∀ (i : Nat) (x y : V) (t : Addr) (H : Hp), xs[i]? = some x → ys[i]? = some y → Pv i H → H t = none → g (.ref t) (wipe σ vs) (upd H t (.tup [x, y])) fun σ2 H2 => wipe σ2 vs = wipe σ vs ∧ tt σ2 H2 fun c H3 =>
      if c = true then tk σ2 H3 fun y1 H4 => tv σ2 H4 fun z H5 => ∃ kvs k, y1 = kV k ∧ H5 D = some (.dK kvs) ∧ kvs.length < sizeLine ∧ Pv (i + 1) (upd H5 D (.dK (putK kvs k z))) else Pv (i + 1) H3) (hd : ∀ H, Pv n H → Qd H) :
    ∃ W : Nat → Nat → Hp → Prop, (∃ m, W 0 m (upd H1 D (.dK []))) ∧ ∀ i m H, W i m H →
      ((RZ.ItzT K a b).stop i H ∧ Qd H) ∨ ((RZ.ItzT K a b).go i H ∧ ∃ Nx : Hp → Prop, (∀ H', Nx H' → ∃ m', m' < m ∧ W (i + 1) m' H') ∧ ∀ x H', (RZ.ItzT K a b).yld i H x H' → g x (wipe σ vs) H' fun σ2 H2 => wipe σ2 vs = wipe σ vs ∧ tt σ2 H2 fun c H3 =>
        if c = true then tk σ2 H3 fun y1 H4 => tv σ2 H4 fun z H5 => ∃ kvs k, y1 = kV k ∧ H5 D = some (.dK kvs) ∧ kvs.length < sizeLine ∧ Nx (upd H5 D (.dK (putK kvs k z))) else Nx H3) := by
  refine ⟨fun i m H => m + i = n ∧ Pv i H, ⟨n, rfl, h0⟩, ?_⟩
  rintro i m H ⟨hi, p⟩
  obtain ⟨qx, qy⟩ := hq i H p
  by_cases lt : i < n
  · have ex : xs[i]? = some xs[i] := List.getElem?_eq_getElem (by omega)
    have ey : ys[i]? = some ys[i] := List.getElem?_eq_getElem (by omega)
    refine .inr ⟨⟨xs, ys, _, _, qx, qy, ex, ey⟩, Pv (i + 1), fun H' p' => ⟨m - 1, by omega, by omega, p'⟩, fun v H' y => ?_⟩
    obtain ⟨t, x1, y1, rfl, ht, rfl, f1, f2⟩ := y
    exact hs i x1 y1 t H (f1 xs qx) (f2 ys qy) p ht
  · have e : i = n := by omega
    subst e
    exact .inl ⟨⟨xs, ys, qx, qy, by omega⟩, hd H p⟩
end NL

namespace NL
open PySem PySem.Spec PyProof.Rows L2
/-! ### the rows of values: pure -/
def rngI (r : Row) : List Int := (List.range (rsize r)).map fun i : Nat => r.2.1 + (i : Int)
def stepR (r : Row) (ls : List (List Int)) : List (List Int) := ls.flatMap fun l => (rngI r).map fun v => l ++ [v]
def prodR (ls : List (List Int)) (rows : List Row) : List (List Int) := rows.foldl (fun a r => stepR r a) ls
theorem prod_snoc (ls : List (List Int)) (rows : List Row) (r : Row) : prodR ls (rows ++ [r]) = stepR r (prodR ls rows) := by
  unfold prodR
  rw [List.foldl_append]
  rfl
theorem rng_len (r : Row) : (rngI r).length = rsize r := by
  unfold rngI
  rw [List.length_map, List.length_range]
theorem step_len (r : Row) : ∀ ls : List (List Int), (stepR r ls).length = ls.length * rsize r
  | [] => (Nat.zero_mul _).symm
  | l :: ls => by
    have ih := step_len r ls
    have e : stepR r (l :: ls) = ((rngI r).map fun v => l ++ [v]) ++ stepR r ls := List.flatMap_cons
    rw [e, List.length_append, List.length_map, rng_len, ih, List.length_cons, Nat.succ_mul, Nat.add_comm]
theorem prod_len : ∀ (rows : List Row) (ls : List (List Int)), (prodR ls rows).length = ls.length * cnt rows
  | [], ls => (Nat.mul_one _).symm
  | r :: rows, ls => by
    show (prodR (stepR r ls) rows).length = _
    rw [prod_len rows, step_len, cnt_cons, Nat.mul_assoc]
theorem step_take (r : Row) (ls : List (List Int)) {i : Nat} {l : List Int} (h : ls[i]? = some l) : stepR r (ls.take (i + 1)) = stepR r (ls.take i) ++ (rngI r).map fun v => l ++ [v] := by
  unfold stepR
  rw [List.take_add_one, h, List.flatMap_append]
  congr 1
  exact List.append_nil _
theorem rng_get {r : Row} {k : Nat} (h : k < rsize r) : (rngI r)[k]? = some (r.2.1 + (k : Int)) := by
  unfold rngI
  rw [List.getElem?_map, List.getElem?_range h]
  rfl
theorem rng_mem {r : Row} {v : Int} (h : v ∈ rngI r) : r.2.1 ≤ v ∧ v ≤ r.2.2 := by
  obtain ⟨i, hi, rfl⟩ := List.mem_map.mp h
  have := List.mem_range.mp hi
  unfold rsize at this
  omega
/-- a row of values, each in its range -/
def InR : List Row → List Int → Prop
  | [], ns => ns = []
  | r :: rs, ns => ∃ n m, ns = n :: m ∧ r.2.1 ≤ n ∧ n ≤ r.2.2 ∧ InR rs m
theorem InR.len : ∀ {rows : List Row} {ns : List Int}, InR rows ns → ns.length = rows.length
  | [], ns, h => by
    obtain rfl : ns = [] := h
    rfl
  | _ :: _, _, ⟨_, _, rfl, _, _, h⟩ => by rw [List.length_cons, List.length_cons, h.len]
theorem InR.at : ∀ {rows : List Row} {ns : List Int}, InR rows ns → ∀ (k : Nat) r n, rows[k]? = some r → ns[k]? = some n → r.2.1 ≤ n ∧ n ≤ r.2.2
  | [], _, _, k, r, n, h, _ => by simp at h
  | _ :: _, _, ⟨_, _, rfl, h1, h2, h⟩, 0, r, n, a, b => by
    cases Option.some.inj a
    cases Option.some.inj b
    exact ⟨h1, h2⟩
  | _ :: _, _, ⟨_, _, rfl, _, _, h⟩, k + 1, r, n, a, b => h.at k r n (by simpa using a) (by simpa using b)
theorem InR.of : ∀ {rows : List Row} {ns : List Int}, ns.length = rows.length → (∀ (k : Nat) r n, rows[k]? = some r → ns[k]? = some n → r.2.1 ≤ n ∧ n ≤ r.2.2) → InR rows ns
  | [], ns, h, _ => List.length_eq_zero_iff.mp h
  | r :: rs, [], h, _ => by simp at h
  | r :: rs, n :: m, h, g => by
    have h0 := g 0 r n rfl rfl
    exact ⟨n, m, rfl, h0.1, h0.2, InR.of (by simpa using h) fun k a b e f => g (k + 1) a b (by simpa using e) (by simpa using f)⟩
theorem InR.app : ∀ {rows : List Row} {ns : List Int} {rows2 : List Row} {ms : List Int}, InR rows ns → InR rows2 ms → InR (rows ++ rows2) (ns ++ ms)
  | [], _, _, _, h, g => by
    rw [show _ = ([] : List Int) from h]
    exact g
  | _ :: _, _, _, _, ⟨n, m, rfl, h1, h2, h⟩, g => ⟨n, _, rfl, h1, h2, h.app g⟩
theorem prod_in : ∀ (rows : List Row) (ls : List (List Int)) (l : List Int), l ∈ prodR ls rows → ∃ l0 ∈ ls, ∃ m, l = l0 ++ m ∧ InR rows m
  | [], ls, l, h => ⟨l, h, [], (List.append_nil l).symm, rfl⟩
  | r :: rows, ls, l, h => by
    obtain ⟨l0, h0, m, e, hm⟩ := prod_in rows (stepR r ls) l h
    obtain ⟨l1, h1, h2⟩ := List.mem_flatMap.mp h0
    obtain ⟨v, hv, rfl⟩ := List.mem_map.mp h2
    have hb := rng_mem hv
    exact ⟨l1, h1, v :: m, by rw [e, List.append_assoc]; rfl, v, m, rfl, hb.1, hb.2, hm⟩
theorem prod_in0 {rows : List Row} {l : List Int} (h : l ∈ prodR [[]] rows) : InR rows l := by
  obtain ⟨l0, h0, m, e, hm⟩ := prod_in rows [[]] l h
  rw [List.mem_singleton.mp h0] at e
  rw [e]
  exact hm
theorem prod_ne {rows : List Row} (h : 2 ≤ (prodR [[]] rows).length) : ∀ l ∈ prodR [[]] rows, l ≠ [] := by
  intro l hl e
  have h1 := (prod_in0 hl).len
  rw [e] at h1
  have : rows = [] := List.length_eq_zero_iff.mp h1.symm
  rw [this] at h
  exact absurd h (by decide)
/-! ### the rows stand in order -/
theorem leR_eq : leR = fun p q => decide (p ≤ q) := by
  funext p q
  show (!PySem.W.dataLt (encR q) (encR p)) = _
  rw [PySem.W.dataLt_tuple]
  show (!PySem.W.rowLt (q.map .int) (p.map .int)) = _
  rw [PySem.W.dataLt_ints]
  by_cases h : q < p
  · rw [decide_eq_true h, decide_eq_false (List.not_le.mpr h)]
    rfl
  · rw [decide_eq_false h, decide_eq_true (List.not_lt.mp h)]
    rfl
theorem snoc_lt {v u : Int} : ∀ {l m : List Int}, l.length = m.length → l < m → l ++ [v] < m ++ [u]
  | [], [], _, h => absurd h (List.lt_irrefl [])
  | [], _ :: _, h, _ => by simp at h
  | _ :: _, [], h, _ => by simp at h
  | a :: l, b :: m, hl, h => by
    rw [List.cons_append, List.cons_append, List.cons_lt_cons_iff]
    rcases List.cons_lt_cons_iff.mp h with h | ⟨h1, h2⟩
    · exact .inl h
    · exact .inr ⟨h1, snoc_lt (by simpa using hl) h2⟩
theorem snoc_lt2 {v u : Int} (h : v < u) : ∀ l : List Int, l ++ [v] < l ++ [u]
  | [] => List.cons_lt_cons_iff.mpr (.inl h)
  | a :: l => by
    rw [List.cons_append, List.cons_append, List.cons_lt_cons_iff]
    exact .inr ⟨rfl, snoc_lt2 h l⟩
theorem rng_sorted (r : Row) : (rngI r).Pairwise (· < ·) := by
  unfold rngI
  rw [List.pairwise_map]
  refine List.Pairwise.imp ?_ (List.pairwise_lt_range (n := rsize r))
  intro a b h
  omega
theorem step_sorted (r : Row) {ls : List (List Int)} {d : Nat} (h : ls.Pairwise (· < ·)) (hd : ∀ l ∈ ls, l.length = d) : (stepR r ls).Pairwise (· < ·) ∧ ∀ l ∈ stepR r ls, l.length = d + 1 := by
  refine ⟨List.pairwise_flatMap.mpr ⟨fun l _ => ?_, ?_⟩, fun l hl => ?_⟩
  · rw [List.pairwise_map]
    exact List.Pairwise.imp (fun {a b} h => snoc_lt2 h l) (rng_sorted r)
  · refine List.Pairwise.imp_of_mem ?_ h
    intro l m hl hm hlm x hx y hy
    obtain ⟨v, _, rfl⟩ := List.mem_map.mp hx
    obtain ⟨u, _, rfl⟩ := List.mem_map.mp hy
    exact snoc_lt (by rw [hd l hl, hd m hm]) hlm
  · obtain ⟨l1, h1, h2⟩ := List.mem_flatMap.mp hl
    obtain ⟨v, _, rfl⟩ := List.mem_map.mp h2
    rw [List.length_append, hd l1 h1]
    rfl
theorem prod_sorted : ∀ (rows : List Row) {ls : List (List Int)} {d : Nat}, ls.Pairwise (· < ·) → (∀ l ∈ ls, l.length = d) → (prodR ls rows).Pairwise (· < ·)
  | [], _, _, h, _ => h
  | r :: rows, ls, d, h, hd => by
    obtain ⟨h1, h2⟩ := step_sorted r h hd
    exact prod_sorted rows h1 h2
theorem rows_sorted (rows : List Row) : (prodR [[]] rows).mergeSort leR = prodR [[]] rows := by
  refine List.mergeSort_of_pairwise ?_
  rw [leR_eq]
  exact List.Pairwise.imp (fun {a b} h => decide_eq_true (List.le_of_lt h)) (prod_sorted rows (d := 0) (List.pairwise_singleton _ _) (fun l hl => by rw [List.mem_singleton.mp hl]; rfl))
section
variable {P : Program} {w : World} {K : PySem.W.Frag} {mg : Str → Option Value} {base : Heap}
/-! ### _law_rows -/
def spRows : Sp := fun vs H Q _ => ∃ (v : V) (rows : List Row), vs = [v] ∧ RowsIn H rows v ∧ (∀ r ∈ rows, r.2.1 ≤ r.2.2) ∧ cnt rows ≤ 1000 ∧ rows.length ≤ 100 ∧ ∀ p ys H', Same H H' → H p = none → H' p = some (.lst ys) → RowsL H' ys (prodR [[]] rows) → Q (.ref p) H'
theorem ok_law_rows (T : Txt K mg) : FnOk P w K mg base CX0 1 T.a_law_rows T.d_law_rows P_law_rows spRows := by
  refine T.F_law_rows.ok sc_law_rows (fun vs H Q E h => ?_) (fun cdv A outer s H vs Q E hr h => ?_)
  · obtain ⟨v, rows, rfl, _⟩ := h
    rfl
  obtain ⟨v, rows, rfl, ⟨tp, xs, rfl, ht, hrs⟩, hb, hc, hl, q⟩ := h
  refine ⟨_, (pss_cons (ps_set (i := 1) sc_law_rows.nd rfl (Or.inl rfl) (pe_lst (pa_cons (pe_tup pa_nil) pa_nil)))
    (pss_cons (ps_for  PassesOwn.never rfl (pi_tup (pv 0)) (pg_name (i := 2) sc_law_rows.nd rfl (Or.inl rfl))
    (pss_cons (ps_set (i := 3) sc_law_rows.nd rfl (Or.inl rfl) (pe_lst pa_nil))
    (pss_cons (ps_for  PassesOwn.never rfl (pi_list (pv 1)) (pg_name (i := 4) sc_law_rows.nd rfl (Or.inr rfl))
    (pss_one (ps_set (i := 3) sc_law_rows.nd rfl (Or.inl rfl) (pe_op op_cat (pv 3) (pe_lc (own := [("value", 5)]) (g := (gName 5)) (tt := tYes) rfl sc_law_rows.nd (pi_range2W (by rfl) T.z_range (pa_cons (pe_ix ix_tup (pv 2) pe_int (fun _ _ => rfl)) (pa_cons (pe_op op_add (pe_ix ix_tup (pv 2) pe_int (fun _ _ => rfl)) pe_int) pa_nil))) (blkOk_by (N := N_law_rows) (sc := defScope s_law_rows) (by decide +kernel)) (fun _ _ _ _ _ => (pg_name (i := 5) sc_law_rows.nd rfl (Or.inl rfl))) (fun _ _ _ _ _ => pts_nil) (fun _ _ _ _ _ => (pe_op (op_catAK (K := K) rfl) (pv 4) (pe_tup (pa_cons (pv 5) pa_nil)))))))))
    (pss_one (ps_set (i := 1) sc_law_rows.nd rfl (Or.inl rfl) (pv 3))))))
    (pss_one (ps_ret (pe_callB (cr_sortedRows (hu4_of hr)) (by rfl) T.z_sorted (by decide +kernel) (pa_cons (pv 1) pa_nil)))))), ?_⟩
  refine ⟨Nat.le_of_ble_eq_true rfl, fun t0 ht0 => ?_⟩
  refine ⟨Nat.le_of_ble_eq_true rfl, fun r0 hr0 => ?_⟩
  have s0 := (same_new ht0 (.tup [])).trans (same_new hr0 (.lst [.ref t0]))
  refine ⟨_, rfl, tp, rfl, ⟨_, sqt (s0 _ _ ht)⟩, ?_⟩
  refine for_tup (K := K) (a := tp) (xs := xs) (fun (j : Nat) (σ : L2.St) (H' : Hp) => ∃ (rp : Addr) (ys : List V) (y2 y3 y4 y5 : Option V), σ = [some (.ref tp), some (.ref rp), y2, y3, y4, y5] ∧ Same H H' ∧ H rp = none ∧ H' rp = some (.lst ys) ∧ RowsL H' ys (prodR [[]] (rows.take j))) ?_ ?_ ?_ ?_
  · exact ⟨r0, _, none, none, none, none, rfl, s0, (same_new ht0 _).free hr0, upd_same, by rw [List.take_zero]; exact RowsL.one (l := []) (same_new hr0 _ _ _ upd_same)⟩
  · rintro j σ H1 _ ⟨rp, ys, y2, y3, y4, y5, rfl, s1, _⟩
    exact sqt (s1 _ _ ht)
  · rintro j x σ H1 hx ⟨rp, ys, y2, y3, y4, y5, rfl, s1, nrp, e1, hR⟩
    obtain ⟨r, hr1, ⟨q1, rfl, hq⟩, hm⟩ := hrs.get hx
    have hcj : (prodR [[]] (rows.take (j + 1))).length ≤ 1000 := by
      rw [prod_len, List.length_singleton, Nat.one_mul]
      exact Nat.le_trans (cnt_take hb _) hc
    have htk : prodR [[]] (rows.take (j + 1)) = stepR r (prodR [[]] (rows.take j)) := by
      rw [List.take_add_one, hr1, ← prod_snoc]
      rfl
    rw [htk, step_len] at hcj
    refine ⟨Nat.le_of_ble_eq_true rfl, fun l0 hl0 => ?_⟩
    have sl := same_new hl0 (.lst [])
    refine ⟨_, rfl, rp, rfl, ⟨_, sqd (sl _ _ e1)⟩, ?_⟩
    refine for_list (K := K) (a := rp) (xs := ys) (fun (i : Nat) (σ : L2.St) (H' : Hp) => ∃ (lp : Addr) (zs : List V) (y4 y5 : Option V), σ = [some (.ref tp), some (.ref rp), some (.ref q1), some (.ref lp), y4, y5] ∧ Same H1 H' ∧ H1 lp = none ∧ H' lp = some (.lst zs) ∧ RowsL H' zs (stepR r ((prodR [[]] (rows.take j)).take i))) ?_ ?_ ?_ ?_
    · exact ⟨l0, [], _, _, rfl, sl, hl0, upd_same, by rw [List.take_zero]; exact RowsL.nil⟩
    · rintro i σ H2 _ ⟨lp, zs, y4, y5, rfl, s2, _⟩
      exact sqd (s2 _ _ e1)
    · rintro i x σ H2 hx2 ⟨lp, zs, y4, y5, rfl, s2, nlp, e2, hZ⟩
      obtain ⟨ft, l, hl1, rfl, hft⟩ := (hR.mono (Tp.same s2)).get hx2
      have hq2 := s2 _ _ (s1 _ _ hq)
      refine ⟨_, rfl, _, rfl, q1, _, 1, _, rfl, rfl, sqt hq2, atI1, _, rfl, q1, _, 2, _, rfl, rfl, sqt hq2, atI2, _, _, rfl, rfl, _, _, rfl, fun D hD => ?_⟩
      refine lc_range (lo := r.2.1) (n := (r.2.2 + 1 - r.2.1).toNat) (fun (k : Nat) (H' : Hp) => ∃ ws, Same H2 H' ∧ H' D = some (.lst ws) ∧ RowsL H' ws (((rngI r).take k).map fun v => l ++ [v])) ?_ ?_ ?_
      · exact ⟨[], same_new hD _, upd_same, by rw [List.take_zero]; exact RowsL.nil⟩
      · rintro k H3 hk ⟨ws, s3, e3, hW⟩
        refine ⟨rfl, yes_if ?_⟩
        refine ⟨_, rfl, _, rfl, Nat.le_of_ble_eq_true rfl, fun t1 ht1 => ?_⟩
        have s4 := same_new ht1 (.tup [.int (r.2.1 + (k : Int))])
        have hll : l.length ≤ 900 := by
          have h1 := (prod_in0 (List.mem_of_getElem? hl1)).len
          rw [List.length_take] at h1
          omega
        refine catA_of (K := K) (s4 _ _ (s3 _ _ hft)) upd_same (by rw [List.length_map, List.length_singleton]; omega) fun p H5 s5 e5 => ?_
        have s45 := s4.trans s5
        have e6 := s45 _ _ e3
        have t6 := fun o => tp_put (o := o) e6
        refine ⟨ws, e6, ?_, ws ++ [.ref p], same_put (s3.trans s45) hD, upd_same, ?_⟩
        · rw [hW.1, List.length_map, List.length_take, rng_len]
          have : k < rsize r := hk
          have h5 : 1 * rsize r ≤ (prodR [[]] (rows.take j)).length * rsize r := Nat.mul_le_mul_right _ (by have := (List.getElem?_eq_some_iff.mp hl1).1; omega)
          exact big' (by omega)
        · rw [List.take_add_one, rng_get hk, List.map_append]
          refine ((hW.mono (Tp.same s45)).mono (t6 _)).app (RowsL.one (l := l ++ [r.2.1 + (k : Int)]) ?_)
          rw [List.map_append]
          exact t6 _ _ _ e5
      · rintro H3 ⟨ws, s3, e3, hW⟩
        rw [List.take_of_length_le (by rw [rng_len]; exact Nat.le_refl _)] at hW
        refine ⟨lp, D, zs, ws, rfl, rfl, s3 _ _ e2, e3, ?_, fun p hp => ?_⟩
        · have hi := (List.getElem?_eq_some_iff.mp hl1).1
          rw [hZ.1, hW.1, step_len, List.length_map, rng_len, List.length_take, Nat.min_eq_left (Nat.le_of_lt hi)]
          have h5 : (i + 1) * rsize r ≤ (prodR [[]] (rows.take j)).length * rsize r := Nat.mul_le_mul_right _ hi
          rw [Nat.succ_mul] at h5
          exact big (by omega)
        · have s5 := same_new hp (.lst (zs ++ ws))
          refine ⟨p, zs ++ ws, _, _, rfl, s2.trans (s3.trans s5), (s2.trans s3).free hp, upd_same, ?_⟩
          rw [step_take r _ hl1]
          exact (hZ.mono (Tp.same (s3.trans s5))).app (hW.mono (Tp.same s5))
    · rintro σ H2 ⟨lp, zs, y4, y5, rfl, s2, nlp, e2, hZ⟩
      rw [hR.1, List.take_length, ← htk] at hZ
      exact ⟨_, rfl, lp, zs, _, _, _, _, rfl, s1.trans s2, s1.free nlp, e2, hZ⟩
  · rintro σ H1 ⟨rp, ys, y2, y3, y4, y5, rfl, s1, nrp, e1, hR⟩
    rw [hrs.1, List.take_length] at hR
    exact ⟨_, rfl, rp, ys, _, rfl, sqd e1, hR, prod_ne, fun ys2 p hk hp => q p ys2 _ (s1.trans (same_new hp _)) (s1.free hp) upd_same (by rw [rows_sorted] at hk; exact hk.mono (Tp.same (same_new hp _)))⟩
end
end NL

namespace NL
open PySem PySem.Spec PyProof.Rows L2
theorem boolE {Q : VK} {b b' : Bool} {H : Hp} (h : b = b') (q : Q (.bl b') H) : Q (.bl b) H := by rw [h]; exact q
/-! ### dicts of names and values: pure -/
def putAll (kvs : List (Key × V)) (ps : List (Str × Int)) : List (Key × V) := ps.foldl (fun k p => putK k (Sum.inr p.1) (.int p.2)) kvs
theorem putAll_snoc (kvs : List (Key × V)) (ps : List (Str × Int)) (p : Str × Int) : putAll kvs (ps ++ [p]) = putK (putAll kvs ps) (Sum.inr p.1) (.int p.2) := by
  unfold putAll
  rw [List.foldl_append]
  rfl
theorem putAll_len : ∀ (ps : List (Str × Int)) (kvs : List (Key × V)), (putAll kvs ps).length ≤ kvs.length + ps.length
  | [], _ => Nat.le_refl _
  | p :: ps, kvs => by
    have h1 := putAll_len ps (putK kvs (Sum.inr p.1) (.int p.2))
    have h2 := length_putK kvs (Sum.inr p.1 : Key) (V.int p.2)
    show (putAll (putK kvs (Sum.inr p.1) (.int p.2)) ps).length ≤ _
    rw [List.length_cons]
    omega
theorem putAll_rest : ∀ (ps : List (Str × Int)) (kvs : List (Key × V)) (x : Str), x ∉ ps.map (·.1) → valV (putAll kvs ps) (Sum.inr x) = valV kvs (Sum.inr x)
  | [], _, _, _ => rfl
  | p :: ps, kvs, x, h => by
    show valV (putAll (putK kvs (Sum.inr p.1) (.int p.2)) ps) _ = _
    rw [putAll_rest ps _ x (fun m => h (List.mem_cons_of_mem _ m)), valV_put, if_neg (fun e => h (by cases e; exact List.mem_cons_self))]
theorem putAll_val : ∀ (ps : List (Str × Int)) (kvs : List (Key × V)) (x : Str), x ∈ ps.map (·.1) → ∃ m ∈ ps.map (·.2), valV (putAll kvs ps) (Sum.inr x) = some (.int m)
  | [], _, _, h => by cases h
  | p :: ps, kvs, x, h => by
    by_cases h2 : x ∈ ps.map (·.1)
    · obtain ⟨m, hm, e⟩ := putAll_val ps (putK kvs (Sum.inr p.1) (.int p.2)) x h2
      exact ⟨m, List.mem_cons_of_mem _ hm, e⟩
    · have e : x = p.1 := (List.mem_cons.mp h).resolve_right h2
      refine ⟨p.2, List.mem_cons_self, ?_⟩
      show valV (putAll (putK kvs (Sum.inr p.1) (.int p.2)) ps) _ = _
      rw [putAll_rest ps _ x h2, valV_put, if_pos (by rw [e])]
def pairsR (rows : List Row) (ns : List Int) : List (Str × Int) := (rows.map (·.1)).zip ns
theorem pairs_fst {rows : List Row} {ns : List Int} (h : ns.length = rows.length) : (pairsR rows ns).map (·.1) = rows.map (·.1) := List.map_fst_zip (by rw [List.length_map, h]; exact Nat.le_refl _)
theorem pairs_snd {rows : List Row} {ns : List Int} (h : ns.length = rows.length) : (pairsR rows ns).map (·.2) = ns := List.map_snd_zip (by rw [List.length_map, h]; exact Nat.le_refl _)
theorem pairs_len {rows : List Row} {ns : List Int} (h : ns.length = rows.length) : (pairsR rows ns).length = rows.length := by
  have := congrArg List.length (pairs_snd h)
  rw [List.length_map] at this
  omega
theorem pairs_get {rows : List Row} {ns : List Int} {k : Nat} {r : Row} {n : Int} (h : rows[k]? = some r) (g : ns[k]? = some n) : (pairsR rows ns)[k]? = some (r.1, n) :=
  List.getElem?_zip_eq_some.mpr ⟨by rw [List.getElem?_map, h]; rfl, g⟩
def envR (rows : List Row) (ns : List Int) : Str → Int := fun x => match valV (putAll [] (pairsR rows ns)) (Sum.inr x) with | some (.int m) => m | _ => 0
theorem env_in {H : Hp} {a : Addr} {rows : List Row} {ns : List Int} (h : ns.length = rows.length) (e : H a = some (.dK (putAll [] (pairsR rows ns)))) : EnvIn H a (envR rows ns) (rows.map (·.1)) := ⟨_, e, fun x hx => by
  obtain ⟨m, _, hv⟩ := putAll_val (pairsR rows ns) [] x (by rw [pairs_fst h]; exact hx)
  unfold envR
  rw [hv]⟩
theorem env_mem {rows : List Row} {ns : List Int} (h : ns.length = rows.length) {x : Str} (hx : x ∈ rows.map (·.1)) : envR rows ns x ∈ ns := by
  obtain ⟨m, hm, hv⟩ := putAll_val (pairsR rows ns) [] x (by rw [pairs_fst h]; exact hx)
  rw [pairs_snd h] at hm
  unfold envR
  rw [hv]
  exact hm
theorem inr_abs {B : Nat} {rows : List Row} {ns : List Int} (h : InR rows ns) (hb : ∀ r ∈ rows, r.2.1.natAbs ≤ B + 1 ∧ r.2.2.natAbs ≤ B + 1) : ∀ n ∈ ns, n.natAbs ≤ B + 1 := fun n hn => by
  obtain ⟨k, hk⟩ := List.getElem?_of_mem hn
  have hkl := (List.getElem?_eq_some_iff.mp hk).1
  rw [h.len] at hkl
  have hr := List.getElem?_eq_getElem hkl
  have h1 := h.at k _ n hr hk
  have h2 := hb _ (List.getElem_mem hkl)
  omega
theorem Rb.abs {B : Nat} {r : Row} (h : Rb B r) : r.2.1.natAbs ≤ B + 1 ∧ r.2.2.natAbs ≤ B + 1 := by
  have h1 := h.le
  have h2 := h.wd
  have h3 := h.bd
  omega
mutual
theorem mx_sz : ∀ i : It, i.mx ≤ i.sz
  | .num _ => by rw [It.mx, It.sz]; exact Nat.le_refl 1
  | .name _ => by rw [It.mx, It.sz]; exact Nat.le_refl 1
  | .lit _ => by rw [It.mx, It.sz]; exact Nat.le_refl 1
  | .un _ a => by
    have := mx_sz a
    rw [It.mx, It.sz]
    omega
  | .dm _ a _ => by
    have := mx_sz a
    rw [It.mx, It.sz]
    omega
  | .bin _ a b => by
    have := mx_sz a
    have := mx_sz b
    rw [It.mx, It.sz]
    omega
  | .tri a b c => by
    have := mx_sz a
    have := mx_sz b
    have := mx_sz c
    rw [It.mx, It.sz]
    omega
  | .grp _ l => by
    have := mxL_sz l
    rw [It.mx, It.sz]
    omega
theorem mxL_sz : ∀ l : List It, mxL l ≤ szL l
  | [] => by rw [mxL, szL]; exact Nat.le_refl 0
  | a :: r => by
    have := mx_sz a
    have := mxL_sz r
    rw [mxL, szL]
    omega
end
section
variable {P : Program} {w : World} {K : PySem.W.Frag} {mg : Str → Option Value} {base : Heap}
/-! ### _law_named, values_by_name -/
def spNamed : Sp := fun vs H Q _ => ∃ (v : V) (rows : List Row) (b : Addr) (ns : List Int), vs = [v, .ref b] ∧ RowsIn H rows v ∧ H b = some (.tup (ns.map V.int)) ∧ ns.length = rows.length ∧ rows.length ≤ 100 ∧ ∀ D H', Same H H' → H' D = some (.dK (putAll [] (pairsR rows ns))) → Q (.ref D) H'
theorem ok_law_named (T : Txt K mg) : FnOk P w K mg base CX0 1 T.a_law_named T.d_law_named P_law_named spNamed := by
  refine T.F_law_named.ok sc_law_named (fun vs H Q E h => ?_) (fun cdv A outer s H vs Q E hr h => ?_)
  · obtain ⟨v, rows, b, ns, rfl, _⟩ := h
    rfl
  obtain ⟨v, rows, b, ns, rfl, ⟨tp, xs, rfl, ht, hrs⟩, hb, hn, hl, q⟩ := h
  have hpl := pairs_len hn
  refine ⟨_, (pss_cons (ps_set (i := 2) sc_law_named.nd rfl (Or.inl rfl) pe_dnewK)
    (pss_cons (ps_for  PassesOwn.never rfl (pi_range1 (by rfl) T.z_range (pa_cons (pe_callB call_len_seq (by rfl) T.z_len PySem.boot_len (pa_cons (pv 0) pa_nil)) pa_nil)) (pg_name (i := 3) sc_law_named.nd rfl (Or.inl rfl))
    (pss_one (ps_dput (hu_of hr) (pv 2) (pe_ix ix_tup (pe_ix ix_tup (pv 0) (pv 3) (fun _ _ => rfl)) pe_int (fun _ _ => rfl)) (pe_ix ix_tup (pv 1) (pv 3) (fun _ _ => rfl)) rfl)))
    (pss_one (ps_ret (pv 2))))), ?_⟩
  refine fun D hD => ?_
  have sD := same_new hD (.dK [])
  refine ⟨_, rfl, tp, _, rfl, .inr (sqt (sD _ _ ht)), _, rfl, by have := hrs.1; omega, by have := hrs.1; omega, for_range (lo := 0) (n := ((xs.length : Nat) : Int).toNat) (fun (j : Nat) (σ : L2.St) (H' : Hp) => ∃ y : Option V, σ = [some (.ref tp), some (.ref b), some (.ref D), y] ∧ Same H H' ∧ H' D = some (.dK (putAll [] ((pairsR rows ns).take j)))) ?_ ?_ ?_⟩
  · exact ⟨none, rfl, sD, upd_same⟩
  · rintro j σ H' hj ⟨y, rfl, s1, e1⟩
    have hjx : j < xs.length := by omega
    have hxj : xs[j]? = some xs[j] := List.getElem?_eq_getElem hjx
    obtain ⟨r, hr1, ⟨q1, hx, hq⟩, hm⟩ := hrs.get hxj
    rw [hx] at hxj
    have hjn : j < ns.length := by have := hrs.1; omega
    obtain ⟨n, hnj⟩ : ∃ n, ns[j]? = some n := ⟨_, List.getElem?_eq_getElem hjn⟩
    have e0 : (0 : Int) + (j : Int) = (j : Int) := Int.zero_add _
    refine ⟨_, rfl, _, rfl, b, _, _, _, rfl, rfl, sqt (s1 _ _ hb), by rw [e0]; exact atI_nat (by rw [List.getElem?_map, hnj]; rfl), _, rfl, _, rfl, _, rfl, tp, _, _, _, rfl, rfl, sqt (s1 _ _ ht), by rw [e0]; exact atI_nat hxj, q1, _, 0, _, rfl, rfl, sqt (s1 _ _ hq), atI0, D, _, rfl, DPut.k (k := Sum.inr r.1) e1 (bigv ?_), ?_⟩
    · have := putAll_len ((pairsR rows ns).take j) []
      rw [List.length_take, List.length_nil] at this
      omega
    · refine ⟨_, rfl, same_put s1 hD, ?_⟩
      rw [upd_same, List.take_add_one, pairs_get hr1 hnj]
      exact congrArg (fun z => some (HO.dK z)) (putAll_snoc [] _ (r.1, n)).symm
  · rintro σ H' ⟨y, rfl, s1, e1⟩
    rw [show ((xs.length : Nat) : Int).toNat = (pairsR rows ns).length by rw [hpl]; have := hrs.1; omega, List.take_length] at e1
    exact ⟨_, rfl, q D H' s1 e1⟩
theorem ok_values_by_name (T : Txt K mg) : FnOk P w K mg base CX0 1 T.avalues_by_name T.dvalues_by_name Pvalues_by_name spNamed := by
  refine T.Fvalues_by_name.ok scvalues_by_name (fun vs H Q E h => ?_) (fun cdv A outer s H vs Q E hr h => ?_)
  · obtain ⟨v, rows, b, ns, rfl, _⟩ := h
    rfl
  obtain ⟨v, rows, b, ns, rfl, ⟨tp, xs, rfl, ht, hrs⟩, hb, hn, hl, q⟩ := h
  have hpl := pairs_len hn
  refine ⟨_, (pss_one (ps_ret (pe_dc (own := [("row", 2), ("number", 3)]) (g := (gTup K 2 (gCons (gName 2) (gCons (gName 3) gNil)))) (tt := tYes) rfl scvalues_by_name.nd (RZ.pi_zipA (by rfl) T.z_zip (pa_cons (pv 0) (pa_cons (pv 1) pa_nil))) (blkOk_by (N := Nvalues_by_name) (sc := defScope svalues_by_name) (by decide +kernel)) (fun _ _ _ _ _ => (pg_tup rfl (pgs_cons (pg_name (i := 2) scvalues_by_name.nd rfl (Or.inl rfl)) (pgs_cons (pg_name (i := 3) scvalues_by_name.nd rfl (Or.inl rfl)) pgs_nil)))) (fun _ _ _ _ _ => pts_nil) (fun _ _ _ _ _ => (pe_ix (ix_tupK (K := K) rfl) (pv 2) pe_int (fun _ _ => rfl))) (fun _ _ _ _ _ => (pv 3))))), ?_⟩
  refine ⟨_, rfl, _, rfl, tp, b, _, _, rfl, .inr ⟨sqt ht, sqt hb, fun D hD => ?_⟩⟩
  refine dc_pairs (K := K) (a := tp) (b := b) (xs := xs) (ys := ns.map V.int) rows.length (by rw [List.length_map, hrs.1, hn, Nat.min_self]) (fun (j : Nat) (H' : Hp) => Same H H' ∧ H' D = some (.dK (putAll [] ((pairsR rows ns).take j)))) ?_ ?_ ?_ ?_
  · exact ⟨same_new hD _, upd_same⟩
  · rintro j H' ⟨s1, _⟩
    exact ⟨sqt (s1 _ _ ht), sqt (s1 _ _ hb)⟩
  · rintro j x y t H' hx hy ⟨s1, e1⟩ htn
    obtain ⟨r, hr1, ⟨q1, rfl, hq⟩, hm⟩ := hrs.get hx
    rw [List.getElem?_map] at hy
    obtain ⟨n, hnj, rfl⟩ := Option.map_eq_some_iff.mp hy
    have s2 := same_new htn (.tup [.ref q1, .int n])
    refine ⟨t, _, rfl, sqt upd_same, rfl, _, _, rfl, _, _, rfl, rfl, rfl, yes_if ?_⟩
    refine ⟨_, rfl, q1, _, 0, _, rfl, rfl, sqt (s2 _ _ (s1 _ _ hq)), atI0, _, rfl, _, Sum.inr r.1, rfl, s2 _ _ e1, bigv ?_, same_put (s1.trans s2) hD, ?_⟩
    · have := putAll_len ((pairsR rows ns).take j) []
      rw [List.length_take, List.length_nil] at this
      omega
    · rw [upd_same, List.take_add_one, pairs_get hr1 hnj]
      exact congrArg (fun z => some (HO.dK z)) (putAll_snoc [] _ (r.1, n)).symm
  · rintro H' ⟨s1, e1⟩
    rw [← hpl, List.take_length] at e1
    exact q D H' s1 e1
end
end NL

namespace NL
open PySem PySem.Spec PyProof.Rows L2
def Pl.rows (p : Pl) : List Row := p.vs ++ p.ins ++ p.ns
/-- the values of the steps -/
def valsOf (p : Pl) (l : List Int) : List Int := p.st.map (It.ev (envR p.rows l))
structure Mv (H : Hp) (p : Pl) (xs : List Str) (B : Nat) (a b c : Addr) (s m r : List Int) : Prop where
  g : PlG p xs B
  n : ∀ n : Int, n.natAbs ≤ B + 1 → Builtin.Int.intBits n ≤ 1048577
  ea : H a = some (.tup (s.map V.int))
  eb : H b = some (.tup (m.map V.int))
  ec : H c = some (.tup (r.map V.int))
  ia : InR p.vs s
  ib : InR p.ins m
  ic : InR p.ns r
theorem Mv.len {H : Hp} {p : Pl} {xs : List Str} {B : Nat} {a b c : Addr} {s m r : List Int} (h : Mv H p xs B a b c s m r) : (s ++ m ++ r).length = p.rows.length := ((h.ia.app h.ib).app h.ic).len
theorem Mv.same {H H' : Hp} {p : Pl} {xs : List Str} {B : Nat} {a b c : Addr} {s m r : List Int} (h : Mv H p xs B a b c s m r) (k : Same H H') : Mv H' p xs B a b c s m r := ⟨h.g, h.n, k _ _ h.ea, k _ _ h.eb, k _ _ h.ec, h.ia, h.ib, h.ic⟩
theorem Mv.ev {H : Hp} {p : Pl} {xs : List Str} {B : Nat} {a b c : Addr} {s m r : List Int} (h : Mv H p xs B a b c s m r) {H' : Hp} {D : Addr} (e : H' D = some (.dK (putAll [] (pairsR p.rows (s ++ m ++ r))))) {i : It} (hi : i ∈ p.st) {v : V} (hv : ItemIn H' i v) : Ev H' xs B 1048577 (envR p.rows (s ++ m ++ r)) D 13 false i v := by
  have hs := h.g.s i hi
  have hm := mx_sz i
  have hall : ∀ q ∈ p.rows, q.2.1.natAbs ≤ B + 1 ∧ q.2.2.natAbs ≤ B + 1 := fun q hq => by
    rcases List.mem_append.mp hq with hq | hq
    · rcases List.mem_append.mp hq with hq | hq
      · exact (h.g.v q hq).1.abs
      · exact (h.g.i q hq).1.abs
    · exact (h.g.n q hq).1.abs
  refine ⟨hv, hs.1, by omega, ⟨h.n, fun x hx => h.n _ (inr_abs ((h.ia.app h.ib).app h.ic) hall _ (env_mem h.len ?_)), by decide⟩, Nat.le_trans (Nat.mul_le_mul_left 1048577 (show i.mx + 1 ≤ 51 by omega)) (by decide), ?_⟩
  · have := h.g.nm2
    rw [this] at hx
    exact hx
  · have := env_in h.len e
    have e2 : xs = p.rows.map (·.1) := h.g.nm2
    rw [e2]
    exact this
section
variable {P : Program} {w : World} {K : PySem.W.Frag} {mg : Str → Option Value} {base : Heap}
def spAfter : Sp := fun vs H Q _ => ∃ (v : V) (p : Pl) (xs : List Str) (B : Nat) (a b c : Addr) (s m r : List Int), vs = [v, .ref a, .ref b, .ref c] ∧ PlIn H p v ∧ Mv H p xs B a b c s m r ∧
  (InR p.vs (valsOf p (s ++ m ++ r)) → ∀ t H', Same H H' → H' t = some (.tup ((valsOf p (s ++ m ++ r)).map V.int)) → Q (.ref t) H') ∧ (¬ InR p.vs (valsOf p (s ++ m ++ r)) → ∀ H', Same H H' → Q .non H')
end
end NL

namespace NL
open PySem PySem.Spec PyProof.Rows L2
section
variable {P : Program} {w : World} {K : PySem.W.Frag} {mg : Str → Option Value} {base : Heap}
end
end NL

namespace NL
open PySem PySem.Spec PyProof.Rows L2
/-! ### two loops in one: the outer over a list, the inner over a range -/
theorem loop_list {K : PySem.W.Frag} {a : Addr} {xs : List V} {Qd : Hp → Prop} {H0 : Hp} {G : V → Hp → (Hp → Prop) → Prop} (Pv : Nat → Hp → Prop) (h0 : Pv 0 H0) (hl : ∀ i H, Pv i H → SqL K H a xs)
    (hs : ∀ i x H, xs[i]? = some x → Pv i H → G x H (Pv (i + 1))) (hd : ∀ H, Pv xs.length H → Qd H) :
    ∃ W : Nat → Nat → Hp → Prop, (∃ m, W 0 m H0) ∧ ∀ i m H, W i m H → ((Itl K a).stop i H ∧ Qd H) ∨ ((Itl K a).go i H ∧ ∃ Nx : Hp → Prop, (∀ H', Nx H' → ∃ m', m' < m ∧ W (i + 1) m' H') ∧ ∀ x H', (Itl K a).yld i H x H' → G x H' Nx) := by
  refine ⟨fun i m H => m + i = xs.length ∧ Pv i H, ⟨xs.length, rfl, h0⟩, ?_⟩
  rintro i m H ⟨hi, p⟩
  have q := hl i H p
  by_cases lt : i < xs.length
  · have ex : xs[i]? = some xs[i] := List.getElem?_eq_getElem lt
    refine .inr ⟨⟨xs, _, q, ex⟩, Pv (i + 1), fun H' p' => ⟨m - 1, by omega, by omega, p'⟩, fun x H' y => ?_⟩
    obtain ⟨e, y⟩ := y
    subst e
    exact hs i x _ (y xs q) p
  · have e : i = xs.length := by omega
    subst e
    exact .inl ⟨⟨xs, q, Nat.le_refl _⟩, hd H p⟩
theorem loop_range {lo : Int} {n : Nat} {Qd : Hp → Prop} {H0 : Hp} {G : V → Hp → (Hp → Prop) → Prop} (Pv : Nat → Hp → Prop) (h0 : Pv 0 H0)
    (hs : ∀ (i : Nat) H, i < n → Pv i H → G (.int (lo + (i : Int))) H (Pv (i + 1))) (hd : ∀ H, Pv n H → Qd H) :
    ∃ W : Nat → Nat → Hp → Prop, (∃ m, W 0 m H0) ∧ ∀ i m H, W i m H → ((Itr lo n).stop i H ∧ Qd H) ∨ ((Itr lo n).go i H ∧ ∃ Nx : Hp → Prop, (∀ H', Nx H' → ∃ m', m' < m ∧ W (i + 1) m' H') ∧ ∀ x H', (Itr lo n).yld i H x H' → G x H' Nx) := by
  refine ⟨fun i m H => m + i = n ∧ Pv i H, ⟨n, rfl, h0⟩, ?_⟩
  rintro i m H ⟨hi, p⟩
  by_cases lt : i < n
  · refine .inr ⟨lt, Pv (i + 1), fun H' p' => ⟨m - 1, by omega, by omega, p'⟩, fun x H' y => ?_⟩
    obtain ⟨e, e2⟩ := y
    subst e e2
    exact hs i _ lt p
  · have e : i = n := by omega
    subst e
    exact .inl ⟨Nat.le_refl _, hd H p⟩
/-! ### which inputs are allowed -/
structure InF (p : Pl) (B : Nat) : Prop where
  le : ∀ r ∈ p.ins, r.2.1 ≤ r.2.2
  bd : ∀ r ∈ p.vs ++ p.ins, r.2.1.natAbs ≤ B + 1 ∧ r.2.2.natAbs ≤ B + 1
  num : ∀ n : Int, n.natAbs ≤ B + 1 → Builtin.Int.intBits n ≤ 1048577
  cn : cnt p.ins ≤ 1000
  lv : p.vs.length ≤ 30 ∧ p.ins.length ≤ 30
  al : Okx ((p.vs ++ p.ins).map (·.1)) B true p.al
  dp : p.al.dep ≤ 13
  mx : p.al.mx ≤ 100
def isMove (p : Pl) (s m : List Int) : Bool := p.al.tr (envR (p.vs ++ p.ins) (s ++ m))
def movesOf (p : Pl) (s : List Int) : List (List Int) := (prodR [[]] p.ins).filter (isMove p s)
theorem InF.ev {p : Pl} {B : Nat} (h : InF p B) {s m : List Int} (hs : InR p.vs s) (hm : InR p.ins m) {H : Hp} {D : Addr} (e : H D = some (.dK (putAll [] (pairsR (p.vs ++ p.ins) (s ++ m))))) {v : V} (hv : ItemIn H p.al v) :
    Ev H ((p.vs ++ p.ins).map (·.1)) B 1048577 (envR (p.vs ++ p.ins) (s ++ m)) D 13 true p.al v := by
  have hi := hs.app hm
  refine ⟨hv, h.al, h.dp, ⟨h.num, fun x hx => h.num _ (inr_abs hi h.bd _ (env_mem hi.len hx)), by decide⟩, Nat.le_trans (Nat.mul_le_mul_left 1048577 (show p.al.mx + 1 ≤ 101 by have := h.mx; omega)) (by decide), env_in hi.len e⟩
section
variable {P : Program} {w : World} {K : PySem.W.Frag} {mg : Str → Option Value} {base : Heap}
/-! ### _rows_in -/
def spRowsIn : Sp := fun vs H Q _ => ∃ (v : V) (rows : List Row), vs = [v] ∧ RowsIn H rows v ∧ (∀ r ∈ rows, r.2.1 ≤ r.2.2) ∧ cnt rows ≤ 1000 ∧ rows.length ≤ 100 ∧ ∀ p ys H', Same H H' → H' p = some (.tup ys) → RowsL H' ys (prodR [[]] rows) → Q (.ref p) H'
theorem ok_rows_in (T : Txt K mg) : FnOk P w K mg base CX0 1 T.a_rows_in T.d_rows_in P_rows_in spRowsIn := by
  refine T.F_rows_in.ok sc_rows_in (fun vs H Q E h => ?_) (fun cdv A outer s H vs Q E hr h => ?_)
  · obtain ⟨v, rows, rfl, _⟩ := h
    rfl
  obtain ⟨v, rows, rfl, ⟨tp, xs, rfl, ht, hrs⟩, hb, hc, hl, q⟩ := h
  refine ⟨_, (pss_cons (ps_set (i := 1) sc_rows_in.nd rfl (Or.inl rfl) (pe_lst (pa_cons (pe_tup pa_nil) pa_nil)))
    (pss_cons (ps_for  PassesOwn.never rfl (pi_tup (pv 0)) (pg_tup rfl (pgs_cons (pg_name (i := 2) sc_rows_in.nd rfl (Or.inl rfl)) (pgs_cons (pg_name (i := 3) sc_rows_in.nd rfl (Or.inr rfl)) (pgs_cons (pg_name (i := 4) sc_rows_in.nd rfl (Or.inr rfl)) pgs_nil))))
    (pss_one (ps_setLc2 (i := 1) (own := [("row", 5), ("number", 6)]) (vs1 := [6]) (g := (gName 5)) (g1 := (gName 6)) (tt := tYes) (tt1 := tYes) rfl sc_rows_in.nd rfl rfl (sw_true rfl rfl rfl (by decide +kernel)) (pi_list (pv 1)) (blkOk_by (N := N_rows_in) (sc := defScope s_rows_in) (by decide +kernel)) (by decide) (fun _ _ _ _ _ => (pg_name (i := 5) sc_rows_in.nd rfl (Or.inl rfl))) (fun _ _ _ _ _ => pts_nil) (fun _ _ _ _ _ => (pi_range2W (by rfl) T.z_range (pa_cons (pv 3) (pa_cons (pe_op op_add (pv 4) pe_int) pa_nil)))) (fun _ _ _ _ _ => (pg_name (i := 6) sc_rows_in.nd rfl (Or.inl rfl))) (fun _ _ _ _ _ => pts_nil) (fun _ _ _ _ _ => (pe_op (op_catAK (K := K) rfl) (pv 5) (pe_tup (pa_cons (pv 6) pa_nil)))))))
    (pss_one (ps_ret (pe_callTy call_tuple_of (by rfl) T.z_tuple (by decide +kernel) (pa_cons (pv 1) pa_nil)))))), ?_⟩
  refine ⟨Nat.le_of_ble_eq_true rfl, fun t0 ht0 => ?_⟩
  refine ⟨Nat.le_of_ble_eq_true rfl, fun r0 hr0 => ?_⟩
  have s0 := (same_new ht0 (.tup [])).trans (same_new hr0 (.lst [.ref t0]))
  refine ⟨_, rfl, tp, rfl, ⟨_, sqt (s0 _ _ ht)⟩, ?_⟩
  refine for_tup (K := K) (a := tp) (xs := xs) (fun (j : Nat) (σ : L2.St) (H' : Hp) => ∃ (rp : Addr) (ys : List V) (y2 y3 y4 y5 y6 : Option V), σ = [some (.ref tp), some (.ref rp), y2, y3, y4, y5, y6] ∧ Same H H' ∧ H rp = none ∧ H' rp = some (.lst ys) ∧ RowsL H' ys (prodR [[]] (rows.take j))) ?_ ?_ ?_ ?_
  · exact ⟨r0, _, none, none, none, none, none, rfl, s0, (same_new ht0 _).free hr0, upd_same, by rw [List.take_zero]; exact RowsL.one (l := []) (same_new hr0 _ _ _ upd_same)⟩
  · rintro j σ H1 _ ⟨rp, ys, y2, y3, y4, y5, y6, rfl, s1, _⟩
    exact sqt (s1 _ _ ht)
  · rintro j x σ H1 hx ⟨rp, ys, y2, y3, y4, y5, y6, rfl, s1, nrp, e1, hR⟩
    obtain ⟨r, hr1, ⟨q1, rfl, hq⟩, hm⟩ := hrs.get hx
    have hcj : (prodR [[]] (rows.take (j + 1))).length ≤ 1000 := by
      rw [prod_len, List.length_singleton, Nat.one_mul]
      exact Nat.le_trans (cnt_take hb _) hc
    have htk : prodR [[]] (rows.take (j + 1)) = stepR r (prodR [[]] (rows.take j)) := by
      rw [List.take_add_one, hr1, ← prod_snoc]
      rfl
    rw [htk, step_len] at hcj
    refine ⟨q1, _, rfl, sqt (s1 _ _ hq), rfl, _, _, rfl, _, _, rfl, _, _, rfl, rfl, ?_⟩
    refine ⟨_, rfl, rp, rfl, ⟨_, sqd e1⟩, fun D hD => ?_⟩
    refine loop_list (K := K) (a := rp) (xs := ys) (fun (i : Nat) (H' : Hp) => ∃ zs, Same H1 H' ∧ H' D = some (.lst zs) ∧ RowsL H' zs (stepR r ((prodR [[]] (rows.take j)).take i))) ?_ ?_ ?_ ?_
    · exact ⟨[], same_new hD _, upd_same, by rw [List.take_zero]; exact RowsL.nil⟩
    · rintro i H' ⟨zs, s2, _⟩
      exact sqd (s2 _ _ e1)
    · rintro i x H2 hx2 ⟨zs, s2, e2, hZ⟩
      obtain ⟨ft, l, hl1, rfl, hft0⟩ := hR.get hx2
      have hi := (List.getElem?_eq_some_iff.mp hl1).1
      have hzl : (stepR r ((prodR [[]] (rows.take j)).take i)).length + rsize r ≤ 1000 := by
        rw [step_len, List.length_take, Nat.min_eq_left (Nat.le_of_lt hi)]
        have h5 : (i + 1) * rsize r ≤ (prodR [[]] (rows.take j)).length * rsize r := Nat.mul_le_mul_right _ hi
        rw [Nat.succ_mul] at h5
        omega
      have hll : l.length ≤ 900 := by
        have h1 := (prod_in0 (List.mem_of_getElem? hl1)).len
        rw [List.length_take] at h1
        omega
      refine ⟨rfl, yes_if ?_⟩
      refine ⟨_, rfl, _, rfl, _, _, rfl, rfl, _, _, rfl, ?_⟩
      refine loop_range (lo := r.2.1) (n := (r.2.2 + 1 - r.2.1).toNat) (fun (k : Nat) (H' : Hp) => ∃ zs, Same H1 H' ∧ H' D = some (.lst zs) ∧ RowsL H' zs (stepR r ((prodR [[]] (rows.take j)).take i) ++ ((rngI r).take k).map fun v => l ++ [v])) ?_ ?_ ?_
      · exact ⟨zs, s2, e2, by rw [List.take_zero, List.map_nil, List.append_nil]; exact hZ⟩
      · rintro k H3 hk ⟨ws, s3, e3, hW⟩
        refine ⟨rfl, yes_if ?_⟩
        refine ⟨_, rfl, _, rfl, Nat.le_of_ble_eq_true rfl, fun t1 ht1 => ?_⟩
        have s4 := same_new ht1 (.tup [.int (r.2.1 + (k : Int))])
        refine catA_of (K := K) (s4 _ _ (s3 _ _ hft0)) upd_same (by rw [List.length_map, List.length_singleton]; omega) fun p H5 s5 e5 => ?_
        have s45 := s4.trans s5
        have e6 := s45 _ _ e3
        have t6 := fun o => tp_put (o := o) e6
        refine ⟨ws, e6, ?_, ws ++ [.ref p], same_put (s3.trans s45) hD, upd_same, ?_⟩
        · rw [hW.1, List.length_append, List.length_map, List.length_take, rng_len]
          have : k < rsize r := hk
          exact big' (by omega)
        · rw [List.take_add_one, rng_get hk, List.map_append, ← List.append_assoc]
          refine ((hW.mono (Tp.same s45)).mono (t6 _)).app (RowsL.one (l := l ++ [r.2.1 + (k : Int)]) ?_)
          rw [List.map_append]
          exact t6 _ _ _ e5
      · rintro H3 ⟨ws, s3, e3, hW⟩
        have etk : (rngI r).take (r.2.2 + 1 - r.2.1).toNat = rngI r := List.take_of_length_le (by rw [rng_len]; exact Nat.le_refl _)
        rw [etk, ← step_take r _ hl1] at hW
        exact ⟨ws, s3, e3, hW⟩
    · rintro H2 ⟨zs, s2, e2, hZ⟩
      rw [hR.1, List.take_length, ← htk] at hZ
      exact ⟨D, zs, _, _, _, _, _, rfl, s1.trans s2, s1.free hD, e2, hZ⟩
  · rintro σ H1 ⟨rp, ys, y2, y3, y4, y5, y6, rfl, s1, nrp, e1, hR⟩
    rw [hrs.1, List.take_length] at hR
    exact ⟨_, rfl, rp, ys, rfl, .inl ⟨sqd e1, fun p hp => q p ys _ (s1.trans (same_new hp _)) upd_same (hR.mono (Tp.same (same_new hp _)))⟩⟩
/-! ### states_of, replies_of -/
def spAll (sel : Pl → List Row) : Sp := fun vs H Q _ => ∃ (v : V) (p : Pl), vs = [v] ∧ PlIn H p v ∧ (∀ r ∈ sel p, r.2.1 ≤ r.2.2) ∧ cnt (sel p) ≤ 1000 ∧ (sel p).length ≤ 100 ∧ ∀ q ys H', Same H H' → H' q = some (.tup ys) → RowsL H' ys (prodR [[]] (sel p)) → Q (.ref q) H'
theorem ok_states_of (T : Txt K mg) : FnOk P w K mg base CX0 2 T.astates_of T.dstates_of Pstates_of (spAll Pl.vs) := by
  have G_rows_in := ok_rows_in (P := P) (w := w) (base := base) T
  refine T.Fstates_of.ok scstates_of (fun vs H Q E h => ?_) (fun cdv A outer s H vs Q E hr h => ?_)
  · obtain ⟨v, p, rfl, _⟩ := h
    rfl
  obtain ⟨v, p, rfl, ⟨pa, v1, v2, v3, vl, st, sx, rfl, e0, r1, r2, r3, _⟩, hb, hc, hl, q⟩ := h
  exact ⟨_, (pss_one (ps_ret (pe_call G_rows_in (hr.mono (by omega)) (by rfl) T.m_rows_in T.F_rows_in.kp T.b_rows_in .nil pass0 (pa_cons (pe_ix ix_tup (pv 0) pe_int (fun _ _ => rfl)) pa_nil)))), _, rfl, pa, _, 0, _, rfl, rfl, sqt e0, atI0, v1, p.vs, rfl, r1, hb, hc, hl, fun t ys H1 s1 e1 hR => q t ys H1 s1 e1 hR⟩
/-! ### inputs_of -/
def spInputs : Sp := fun vs H Q _ => ∃ (v : V) (p : Pl) (B : Nat) (a : Addr) (s : List Int), vs = [v, .ref a] ∧ PlIn H p v ∧ InF p B ∧ H a = some (.tup (s.map V.int)) ∧ InR p.vs s ∧ ∀ q ys H', Same H H' → H' q = some (.tup ys) → RowsL H' ys (movesOf p s) → Q (.ref q) H'
/-! ### _law_moves -/
def spMoves : Sp := fun vs H Q _ => ∃ (v : V) (p : Pl) (B : Nat) (a : Addr) (s : List Int), vs = [v, .ref a] ∧ PlIn H p v ∧ InF p B ∧ H a = some (.tup (s.map V.int)) ∧ InR p.vs s ∧ ∀ q ys H', Same H H' → H q = none → H' q = some (.lst ys) → RowsL H' ys (movesOf p s) → Q (.ref q) H'
end
end NL

set_option maxHeartbeats 4000000
namespace NL
open PySem PySem.Spec PyProof.Rows L2
/-! ### enumerate of a tuple -/
theorem draws_tup {P : Program} {w : World} {A : Around} (cold : A.handled = none) (j l : Addr) (apart : l ≠ j) (vs : Array Value) : Draws P w A j [j, l] vs.size (fun i v => vs[i]? = some v) (fun i h => h.IsTupleIter j l i ∧ h.IsTuple l vs) where
  live := fun _ _ st => by
    obtain ⟨⟨o, ho, _⟩, _⟩ := st
    exact ⟨o, ho⟩
  frame := fun _ _ _ st hold => by
    obtain ⟨st1, o, ho, hr⟩ := st
    exact ⟨st1.at fun ob e => hold j (by simp) ob e, o, hold l (by simp) o ho, hr⟩
  item := fun i s Q E hi st hQ => by
    refine RZ.nextOf_tuple_item st.1 st.2 (x := vs[i]) (by simp [hi]) fun g st1 sb => ?_
    refine hQ _ g s.toks (by simp [hi]) ⟨st1, ?_⟩ sb
    obtain ⟨o, ho, hr⟩ := st.2
    exact ⟨o, (sb.2 l apart).trans ho, hr⟩
  done := fun s Q E st hE => RZ.nextOf_tuple_end cold st.1 st.2 (by simp) hE
theorem enum_newT (l : Addr) (vs : Array Value) :
    Meets (Builtin.«enumerate.__new__» ⟨[.type "enumerate", .ref l], []⟩) (fun _ R s => s.heap.IsTuple l vs ∧
      R (.ok (.ret (.ref (s.heap.push { cls := .type "tuple_iterator", data := .fields #[.ref l, .int 0 0] }).objs.size)))
        { s with heap := (s.heap.push { cls := .type "tuple_iterator", data := .fields #[.ref l, .int 0 0] }).push { cls := .type "enumerate", data := .fields #[.none, .bool false, .ref s.heap.objs.size, rawInt 0, .none, .none] } }) :=
  .of_wp fun P w A R s r => by
    obtain ⟨hp, gs, dr, tk, os⟩ := s
    obtain ⟨tu, r⟩ := r
    have hsub := sub_enumerate
    have T2 : Heap.IsTuple (Shared.heap ⟨hp, gs, dr, tk, os⟩) l vs := tu
    obtain ⟨⟨c, dct, dt, sl⟩, hl, hc, n, hd⟩ := tu
    replace hc : c = .type "tuple" := hc
    replace hd : dt = .seq vs n := hd
    subst hc hd
    wp_walk using AutoSeq1.wpAny_loadPart' hl
    refine wpAny_stack_any fun st => wpAny_pure ?_
    split
    · rename_i c2 _ _ _ _ _
      cases (c2 == Value.type "enumerate")
      · wp_walk using AutoSeq1.wpAny_loadPart' hl, wpAny_pyIter_tuple T2
        exact ⟨_, rfl, r⟩
      · wp_walk using AutoSeq1.wpAny_loadPart' hl, wpAny_pyIter_tuple T2
        exact ⟨_, rfl, r⟩
    · wp_walk using AutoSeq1.wpAny_loadPart' hl, wpAny_pyIter_tuple T2
      exact ⟨_, rfl, r⟩
theorem enum_callT {P : Program} {w : World} {A : Around} {E : Value → Shared → Prop} {s : Shared} {l : Addr} {vs : Array Value} {Q : Value → Shared → Prop} (tu : s.heap.IsTuple l vs)
    (k : ∀ g, IsEnum g (s.heap.objs.size + 1) s.heap.objs.size 0 .none → g.IsTupleIter s.heap.objs.size l 0 → (∀ b o, s.heap.get? b = some o → g.get? b = some o) → Q (.ref (s.heap.objs.size + 1)) { s with heap := g }) :
    wpAny (model P w) A (call (.type "enumerate") [.ref l]) Q E s := by
  refine callType_new F.called_enumerate (by decide) (F.typeCall_enumerate_1 _) (F.newCall_enumerate_1 _) (fun ob => F.args_object_init_2 ob _) F.entry_enumerate_new (enum_newT l vs) ⟨tu, ?_⟩
  have sz : (s.heap.push { cls := .type "tuple_iterator", data := .fields #[.ref l, .int 0 0] }).objs.size = s.heap.objs.size + 1 := Heap.size_push ..
  show _ ∧ _
  rw [sz]
  have isE : IsEnum ((s.heap.push { cls := .type "tuple_iterator", data := .fields #[.ref l, .int 0 0] }).push { cls := .type "enumerate", data := .fields #[.none, .bool false, .ref s.heap.objs.size, rawInt 0, .none, .none] }) (s.heap.objs.size + 1) s.heap.objs.size 0 .none := by
    have top := Heap.get?_push_size (s.heap.push { cls := .type "tuple_iterator", data := .fields #[.ref l, .int 0 0] }) (o := { cls := .type "enumerate", data := .fields #[.none, .bool false, .ref s.heap.objs.size, rawInt 0, .none, .none] }) rfl
    rw [sz] at top
    exact top
  exact ⟨⟨_, isE, rfl⟩, k _ isE ⟨_, Heap.get?_push_of_some _ (Heap.get?_push_size _ rfl), rfl, rfl⟩ fun b o e => Heap.get?_push_of_some _ (Heap.get?_push_of_some _ e)⟩
/-- the tuple at a, each item in a new pair with its number -/
def EtT (K : PySem.W.Frag) (a : Addr) : L2.It :=
  ⟨fun i H => ∃ (xs : List V) (x : V), SqT K H a xs ∧ xs[i]? = some x, fun i H v H' => ∃ t x, v = .ref t ∧ H t = none ∧ H' = upd H t (.tup [.int (i : Nat), x]) ∧ ∀ xs, SqT K H a xs → xs[i]? = some x, fun i H => ∃ xs : List V, SqT K H a xs ∧ xs.length ≤ i⟩
theorem turn_enumT {P : Program} {w : World} {K : PySem.W.Frag} {elts : List Expr} {kk : Nat} {tpos : Pos} (a e j : Addr) :
    Turn P w K (.Tuple elts kk tpos) (EtT K a) [e, j] e (fun i h => (∃ old, IsEnum h e j ((i : Nat) : Int) old) ∧ h.IsTupleIter j a i ∧ e ≠ j) where
  mem := List.mem_cons_self
  obj := by
    rintro i h ⟨⟨old, isE⟩, ⟨o, ho, hc, hd⟩, _⟩ b hb
    have hb2 : b = e ∨ b = j := by simpa using hb
    rcases hb2 with rfl | rfl
    · exact ⟨_, isE, fun v q => nomatch q⟩
    · exact ⟨o, ho, fun v q => by rw [hd] at q; cases q⟩
  keep := by
    rintro i h g ⟨⟨old, isE⟩, isT, ne⟩ hold
    exact ⟨⟨old, hold e (by simp) _ isE⟩, isT.at fun o q => hold j (by simp) o q, ne⟩
  item := by
    rintro X rfl rfl rfl hcalm i pins s σ H E hinv hfp ⟨⟨old, isE⟩, isT, ne⟩ ⟨xs, x, hq, hx⟩
    obtain ⟨its, rv, pt, hz⟩ := hinv.tuple hq
    have tu : s.heap.IsTuple a its.toArray := pt
    obtain ⟨u, hu, ru⟩ := rv.get hx
    have ha : a ≠ j := fun q => by
      obtain ⟨o, ho, hc, _⟩ := id isT
      obtain ⟨o2, ho2, hc2, _⟩ := id tu
      rw [q, ho] at ho2
      cases ho2
      rw [hc] at hc2
      exact absurd (Value.type.inj hc2) (by decide)
    have hea : e ≠ a := fun q => by
      obtain ⟨o2, ho2, hc2, _⟩ := id tu
      have isE2 : s.heap.get? e = some _ := isE
      have e3 := (congrArg s.heap.get? q).symm.trans isE2
      rw [ho2] at e3
      cases e3
      exact absurd (Value.type.inj hc2) (by decide)
    have hlt : i < its.toArray.size := by
      have := (List.getElem?_eq_some_iff.mp hu).1
      simpa using this
    have cold := hinv.ok.hd hcalm
    refine wpAny_pyNext_enum_itemD (draws_tup (A := X.A.in1) cold j a ha its.toArray) isE ⟨isT, tu⟩ hlt ne (by simp [ne, hea]) fun y g tk hy ho st1 hT hsz hold => ?_
    have hyu : y = u := by
      have h2 : its[i]? = some y := by simpa using hy
      rw [hu] at h2
      exact (Option.some.inj h2).symm
    subst hyu
    refine ⟨_, rfl, wpAny_letOwnedTupleGo_enum (s := { s with heap := g, toks := tk + 1 }) ho fun g2 isE2 sb => ?_⟩
    have hel : e < s.heap.objs.size := Heap.lt_size isE
    have hjl : j < s.heap.objs.size := by
      obtain ⟨_, q, _⟩ := id isT
      exact Heap.lt_size q
    have hT2 : g2.get? s.heap.objs.size = some { cls := .type "tuple", data := .seq #[.int i tk, y] } := (sb.2 _ (Nat.ne_of_gt hel)).trans hT
    have made : ObjOk X.prog X.w (upd H s.heap.objs.size (.tup [.int (i : Nat), x])) g2 s.heap.objs.size (.tup [.int (i : Nat), x]) :=
      ⟨by show 2 ≤ sizeLine; decide, [.int i tk, y], .cons ⟨_, rfl⟩ (.cons ru .nil), ⟨_, hT2, rfl, _, rfl⟩⟩
    have inv2 : Inv X pins σ (upd H s.heap.objs.size (.tup [.int (i : Nat), x])) { s with heap := g2, toks := tk + 1 } :=
      hinv.turnedNew (ch := [e, j]) (fun b ob hb q => (sb.2 b (fun z => hb (by simp [z]))).trans (hold b ob (fun z => hb (by simp [z])) (fun z => hb (by simp [z])) q)) hfp (Nat.le_refl _) made
    refine ⟨.ref s.heap.objs.size, _, inv2, rfl, ⟨_, x, rfl, hinv.hok.fresh (Nat.le_refl _), rfl, fun ys hy2 => by rw [hinv.tuple_inj hy2 hq]; exact hx⟩, ⟨⟨y, ?_⟩, st1.1.at fun o q => (sb.2 j (Ne.symm ne)).trans q, ne⟩, fun b hb => ?_⟩
    · have e1 : ((i + 1 : Nat) : Int) = (i : Int) + 1 := by omega
      rw [e1]
      exact isE2
    · have hb2 : b < s.heap.objs.size := by
        have z : b = e ∨ b = j := by simpa using hb
        rcases z with rfl | rfl
        · exact hel
        · exact hjl
      rw [upd_ne (Nat.ne_of_lt hb2)]
      exact (hfp b hb).1
  done := by
    rintro X rfl rfl rfl hcalm i pins s σ H E hinv hfp ⟨⟨old, isE⟩, isT, ne⟩ ⟨xs, hq, hx⟩
    obtain ⟨its, rv, pt, hz⟩ := hinv.tuple hq
    have tu : s.heap.IsTuple a its.toArray := pt
    have hT : s.TypeIs (.ref e) "enumerate" := ⟨_, isE, rfl⟩
    obtain ⟨f0, f1, f2, f3, f4, f5⟩ := hfp j (by simp)
    have hl := rv.length
    have cold := hinv.ok.hd hcalm
    unfold pyNext
    refine wpAny_bind (wpAny_attempt (wpAny_callSpecial?_slot (name := Str.ofString "__next__") hT F.slot_enumerate_next
      (wpAny_call_entry F.slot_enumerate_next hT F.entry_enumerate_next ?_ (F.args_enumerate_next_1 _))))
    show wpAny _ _ (field (.ref e) 2 >>= _) _ _ _
    refine wpAny_bind (wpAny_field isE rfl (x := .ref j) rfl (wpAny_bind (RZ.nextOf_tuple_end cold isT tu (by simp; omega) fun g x eb ⟨o, ho, hc⟩ => ?_)))
    refine wpAny_bind (wpAny_isInstance (T := "StopIteration") (b := true) ⟨o, ho, hc⟩ isSubtype_stop (wpAny_pure ⟨rfl, hinv.turned (t' := s.toks) (fun b o hb q => eb b o hb q) f0 f1 f3 f4 f5⟩))
  self := by
    rintro A i s Q E ⟨⟨_, isE⟩, _⟩ h
    exact wpAny_pyIter_enum isE h
def iEnumT (K : PySem.W.Frag) (ta : TA) : TI := fun σ H R => ta σ H fun vs H1 => ∃ a xs, vs = [.ref a] ∧ SqT K H1 a xs ∧ R (EtT K a) H1
theorem pi_enumT {X : Cx} {ex : Expr} {ta : TA} {p pos tpos : Pos} {elts : List Expr} {kk : Nat} (hg : Gl X "enumerate") (hm : X.mg "enumerate" = none) (ha : PA X [ex] ta) (hs : starEach [ex] X.env = [(false, eval ex X.env)] := by rfl) :
    PI X (.Tuple elts kk tpos) (.Call (.Name "enumerate" p) [ex] [] pos) (iEnumT X.K ta) := by
  refine ⟨fun pins s σ H R hinv h => ?_⟩
  refine Call_ (ld_blt hinv hg hm boot_enumerate (PyProof.Rows.callWith_type1 (thn (ha.run pos pins s σ H _ hinv h) fun us s1 ⟨vs, H1, inv1, hv, q1⟩ => ?_) hs rfl))
  obtain ⟨a, xs, rfl, hq, q⟩ := q1
  cases hv with
  | cons r rest =>
    cases rest
    cases r
    obtain ⟨its, rv, pt, hz⟩ := inv1.tuple hq
    refine enum_callT (show s1.heap.IsTuple a its.toArray from pt) fun g isE isT hold => wpAny_pyIter_enum isE ?_
    have inv2 : Inv X pins σ H1 { s1 with heap := g } := inv1.kept (t' := s1.toks) hold
    refine ⟨s1.heap.objs.size + 1, [s1.heap.objs.size + 1, s1.heap.objs.size], _, _, H1, rfl, inv2, turn_enumT a (s1.heap.objs.size + 1) s1.heap.objs.size, ⟨⟨.none, isE⟩, isT, Nat.succ_ne_self _⟩, fun b hb => ?_, q⟩
    have hle : s1.heap.objs.size ≤ b := by
      have z : b = s1.heap.objs.size + 1 ∨ b = s1.heap.objs.size := by simpa using hb
      rcases z with z | z
      · rw [z]; exact Nat.le_succ _
      · rw [z]; exact Nat.le_refl _
    exact inv1.fpOk hle (inv1.hok.fresh hle)
theorem lc_enumT {K : PySem.W.Frag} {a : Addr} {xs : List V} {g : TG} {tt : TT} {te : TE} {vs : List Nat} {σ : L2.St} {H1 : Hp} {D : Addr} {Qd : Hp → Prop} (Pv : Nat → Hp → Prop) (h0 : Pv 0 (upd H1 D (.lst []))) (hq : ∀ i H, Pv i H → SqT K H a xs)
    (hs : ∀ (i : Nat) (x : V) (t : Addr) (H : Hp), xs[i]? = some x → Pv i H → H t = none → g (.ref t) (wipe σ vs) (upd H t (.tup [.int (i : Nat), x])) fun σ2 H2 => wipe σ2 vs = wipe σ vs ∧ tt σ2 H2 fun c H3 =>
      if c = true then te σ2 H3 fun z H4 => ∃ acc, H4 D = some (.lst acc) ∧ acc.length < sizeLine ∧ Pv (i + 1) (upd H4 D (.lst (acc ++ [z]))) else Pv (i + 1) H3) (hd : ∀ H, Pv xs.length H → Qd H) :
    ∃ W : Nat → Nat → Hp → Prop, (∃ m, W 0 m (upd H1 D (.lst []))) ∧ ∀ i m H, W i m H →
      ((EtT K a).stop i H ∧ Qd H) ∨ ((EtT K a).go i H ∧ ∃ Nx : Hp → Prop, (∀ H', Nx H' → ∃ m', m' < m ∧ W (i + 1) m' H') ∧ ∀ x H', (EtT K a).yld i H x H' → g x (wipe σ vs) H' fun σ2 H2 => wipe σ2 vs = wipe σ vs ∧ tt σ2 H2 fun c H3 =>
        if c = true then te σ2 H3 fun z H4 => ∃ acc, H4 D = some (.lst acc) ∧ acc.length < sizeLine ∧ Nx (upd H4 D (.lst (acc ++ [z]))) else Nx H3) := by
  refine ⟨fun i m H => m + i = xs.length ∧ Pv i H, ⟨xs.length, rfl, h0⟩, ?_⟩
  rintro i m H ⟨hi, p⟩
  have q := hq i H p
  by_cases lt : i < xs.length
  · have ex : xs[i]? = some xs[i] := List.getElem?_eq_getElem lt
    refine .inr ⟨⟨xs, _, q, ex⟩, Pv (i + 1), fun H' p' => ⟨m - 1, by omega, by omega, p'⟩, fun v H' y => ?_⟩
    obtain ⟨t, x1, rfl, ht, rfl, f1⟩ := y
    exact hs i x1 t H (f1 xs q) p ht
  · have e : i = xs.length := by omega
    subst e
    exact .inl ⟨⟨xs, q, Nat.le_refl _⟩, hd H p⟩
end NL

namespace NL
open PySem PySem.Spec PyProof.Rows L2
/-! ### the number of a row among all -/
theorem step_get (r : Row) : ∀ (ls : List (List Int)) (k i : Nat) (l : List Int), ls[k]? = some l → i < rsize r → (stepR r ls)[k * rsize r + i]? = some (l ++ [r.2.1 + (i : Int)])
  | [], k, i, l, h, _ => by simp at h
  | a :: ls, k, i, l, h, hi => by
    have e : stepR r (a :: ls) = ((rngI r).map fun v => a ++ [v]) ++ stepR r ls := List.flatMap_cons
    have el : ((rngI r).map fun v => a ++ [v]).length = rsize r := by rw [List.length_map, rng_len]
    rw [e]
    cases k with
    | zero =>
      obtain rfl : a = l := Option.some.inj h
      rw [Nat.zero_mul, Nat.zero_add, List.getElem?_append_left (by rw [el]; exact hi), List.getElem?_map, rng_get hi]
      rfl
    | succ k =>
      rw [List.getElem?_append_right (by rw [el, Nat.succ_mul]; omega), el]
      have e2 : (k + 1) * rsize r + i - rsize r = k * rsize r + i := by rw [Nat.succ_mul]; omega
      rw [e2]
      exact step_get r ls k i l (by simpa using h) hi
theorem sorted_at {ls : List (List Int)} (h : ls.Pairwise (· < ·)) {i j : Nat} {l : List Int} (hi : ls[i]? = some l) (hj : ls[j]? = some l) : i = j := by
  obtain ⟨li, ei⟩ := List.getElem?_eq_some_iff.mp hi
  obtain ⟨lj, ej⟩ := List.getElem?_eq_some_iff.mp hj
  rw [List.pairwise_iff_getElem] at h
  rcases Nat.lt_trichotomy i j with c | c | c
  · have := h i j li lj c
    rw [ei, ej] at this
    exact absurd this (List.lt_irrefl l)
  · exact c
  · have := h j i lj li c
    rw [ei, ej] at this
    exact absurd this (List.lt_irrefl l)
theorem all_sorted (rows : List Row) : (prodR [[]] rows).Pairwise (· < ·) := prod_sorted rows (d := 0) (List.pairwise_singleton _ _) (fun l hl => by rw [List.mem_singleton.mp hl]; rfl)
section
variable {P : Program} {w : World} {K : PySem.W.Frag} {mg : Str → Option Value} {base : Heap}
/-! ### position_of -/
def spPos : Sp := fun vs H Q _ => ∃ (v : V) (p : Pl) (a : Addr) (l : List Int), vs = [v, .ref a] ∧ PlIn H p v ∧ H a = some (.tup (l.map V.int)) ∧ InR p.vs l ∧ (∀ r ∈ p.vs, r.2.1 ≤ r.2.2) ∧ cnt p.vs ≤ 1000 ∧ ∀ (k : Nat) H', Same H H' → (prodR [[]] p.vs)[k]? = some l → Q (.int k) H'
theorem ok_position_of (T : Txt K mg) : FnOk P w K mg base CX0 1 T.aposition_of T.dposition_of Pposition_of spPos := by
  refine T.Fposition_of.ok scposition_of (fun vs H Q E h => ?_) (fun cdv A outer s H vs Q E hr h => ?_)
  · obtain ⟨v, p, a, l, rfl, _⟩ := h
    rfl
  obtain ⟨v, p, a, l, rfl, ⟨pa, v1, v2, v3, vl, st, sx, rfl, e0, ⟨t1, x1, rfl, h1, g1⟩, hrest⟩, ha, hI, hle, hc, q⟩ := h
  refine ⟨_, (pss_cons (ps_set (i := 2) scposition_of.nd rfl (Or.inl rfl) pe_int)
    (pss_cons (ps_for  PassesOwn.never rfl (RZ.pi_zipA (by rfl) T.z_zip (pa_cons (pe_ix ix_tup (pv 0) pe_int (fun _ _ => rfl)) (pa_cons (pv 1) pa_nil))) (pg_tup rfl (pgs_cons (pg_tup rfl (pgs_cons (pg_name (i := 3) scposition_of.nd rfl (Or.inl rfl)) (pgs_cons (pg_name (i := 4) scposition_of.nd rfl (Or.inl rfl)) (pgs_cons (pg_name (i := 5) scposition_of.nd rfl (Or.inl rfl)) pgs_nil)))) (pgs_cons (pg_name (i := 6) scposition_of.nd rfl (Or.inl rfl)) pgs_nil)))
    (pss_one (ps_set (i := 2) scposition_of.nd rfl (Or.inl rfl) (pe_op op_sub (pe_op op_add (pe_op op_mul (pv 2) (pe_op op_add (pe_op op_sub (pv 5) (pv 4)) pe_int)) (pv 6)) (pv 4)))))
    (pss_one (ps_ret (pv 2))))), ?_⟩
  refine ⟨_, rfl, pa, _, 0, _, rfl, rfl, sqt e0, atI0, _, rfl, t1, a, _, _, rfl, .inr ⟨sqt h1, sqt ha, ?_⟩⟩
  have hll := hI.len
  refine RZ.for_zipT (xs := x1) (ys := l.map V.int) (by rw [List.length_map, hll, g1.1]) (fun (j : Nat) (σ : L2.St) (H' : Hp) => ∃ (k : Nat) (y3 y4 y5 y6 : Option V), σ = [some (.ref pa), some (.ref a), some (.int k), y3, y4, y5, y6] ∧ Same H H' ∧ (prodR [[]] (p.vs.take j))[k]? = some (l.take j)) ?_ ?_ ?_ ?_
  · exact ⟨0, none, none, none, none, rfl, Same.refl H, by rw [List.take_zero, List.take_zero]; rfl⟩
  · rintro j σ H' ⟨k, y3, y4, y5, y6, rfl, s1, _⟩
    exact ⟨sqt (s1 _ _ h1), sqt (s1 _ _ ha)⟩
  · rintro j x y tz σ H1 hx hy ⟨k, y3, y4, y5, y6, rfl, s1, hk⟩ htz
    obtain ⟨r, hr1, ⟨q1, rfl, hq⟩, hm⟩ := g1.get hx
    rw [List.getElem?_map] at hy
    obtain ⟨n, hn, rfl⟩ := Option.map_eq_some_iff.mp hy
    have hb := hI.at j r n hr1 hn
    have hle1 := hle r hm
    have s2 := same_new htz (.tup [.ref q1, .int n])
    have hkl : k < 1000 := by
      have h2 := (List.getElem?_eq_some_iff.mp hk).1
      rw [prod_len, List.length_singleton, Nat.one_mul] at h2
      have h3 := cnt_take hle j
      omega
    have hnew : ((k : Int) * (r.2.2 - r.2.1 + 1) + n - r.2.1) = ((k * rsize r + (n - r.2.1).toNat : Nat) : Int) := by
      have e1 : (rsize r : Int) = r.2.2 - r.2.1 + 1 := by
        unfold rsize
        omega
      have e2 : (((n - r.2.1).toNat : Nat) : Int) = n - r.2.1 := by omega
      rw [Int.natCast_add, Int.natCast_mul, e1, e2]
      omega
    refine ⟨tz, _, rfl, sqt upd_same, rfl, _, _, rfl, q1, _, rfl, sqt (s2 _ _ (s1 _ _ hq)), rfl, _, _, rfl, _, _, rfl, _, _, rfl, rfl, _, _, rfl, rfl, ?_⟩
    refine ⟨_, rfl, _, rfl, _, rfl, _, _, rfl, rfl, _, _, rfl, rfl, _, _, rfl, rfl, .inl ⟨by omega, by omega⟩, _, rfl, _, _, rfl, rfl, _, rfl, _, _, rfl, rfl, ?_⟩
    refine ⟨k * rsize r + (n - r.2.1).toNat, some (.str r.1), some (.int r.2.1), some (.int r.2.2), some (.int n), ?_, s1.trans s2, ?_⟩
    · show [some (V.ref pa), some (V.ref a), some (V.int ((k : Int) * (r.2.2 - r.2.1 + 1) + n - r.2.1)), some (V.str r.1), some (V.int r.2.1), some (V.int r.2.2), some (V.int n)] = _
      rw [hnew]
    · rw [List.take_add_one, hr1, List.take_add_one, hn]
      show (prodR [[]] (p.vs.take j ++ [r]))[_]? = some (l.take j ++ [n])
      rw [prod_snoc]
      have := step_get r _ k (n - r.2.1).toNat _ hk (by unfold rsize; omega)
      rw [this]
      have e3 : r.2.1 + (((n - r.2.1).toNat : Nat) : Int) = n := by omega
      rw [e3]
  · rintro σ H1 ⟨k, y3, y4, y5, y6, rfl, s1, hk⟩
    rw [g1.1, List.take_length, ← hll, List.take_length] at hk
    exact ⟨_, rfl, q k H1 s1 hk⟩
end
end NL

namespace NL
open PySem PySem.Spec PyProof.Rows L2
/-! ### successors -/
/-- where a step with these numbers leads -/
def Suc (p : Pl) (l : List Int) (x : Int) : Prop := (InR p.vs (valsOf p l) ∧ ∃ k : Nat, x = k ∧ (prodR [[]] p.vs)[k]? = some (valsOf p l)) ∨ (¬ InR p.vs (valsOf p l) ∧ x = -1)
theorem Suc.uniq {p : Pl} {l : List Int} {x y : Int} (h : Suc p l x) (g : Suc p l y) : x = y := by
  rcases h with ⟨h1, k, rfl, hk⟩ | ⟨h1, rfl⟩
  · rcases g with ⟨_, j, rfl, hj⟩ | ⟨g1, _⟩
    · rw [sorted_at (all_sorted p.vs) hk hj]
    · exact absurd h1 g1
  · rcases g with ⟨g1, _⟩ | ⟨_, rfl⟩
    · exact absurd g1 h1
    · rfl
structure OptR (p : Pl) (s m : List Int) (o : List Int) : Prop where
  asc : o.Pairwise (· < ·)
  mem : ∀ x, x ∈ o ↔ ∃ r ∈ prodR [[]] p.ns, Suc p (s ++ m ++ r) x
/-- ints without doubles, as keys of a dict -/
def keysI (kvs : List (Key × V)) (ks : List Int) : Prop := kvs.map (·.1) = ks.map Sum.inl ∧ ks.Nodup
theorem keys_put {kvs : List (Key × V)} {ks : List Int} (h : keysI kvs ks) (x : Int) (v : V) : ∃ ks', keysI (putK kvs (Sum.inl x) v) ks' ∧ (∀ y, y ∈ ks' ↔ y ∈ ks ∨ y = x) ∧ ks'.length ≤ ks.length + 1 := by
  obtain ⟨h1, h2⟩ := h
  unfold putK
  by_cases a : (kvs.any fun kv => decide (kv.1 = Sum.inl x)) = true
  · rw [if_pos a]
    have hx : x ∈ ks := by
      obtain ⟨q, hq, e⟩ := List.any_eq_true.mp a
      have hm : q.1 ∈ kvs.map (·.1) := List.mem_map_of_mem hq
      rw [h1, of_decide_eq_true e] at hm
      obtain ⟨z, hz, ez⟩ := List.mem_map.mp hm
      cases ez
      exact hz
    refine ⟨ks, ⟨?_, h2⟩, fun y => ⟨.inl, fun h => h.elim id fun e => by rw [e]; exact hx⟩, Nat.le_succ _⟩
    rw [List.map_map, ← h1]
    refine List.map_congr_left fun q _ => ?_
    show (if q.1 = Sum.inl x then (q.1, v) else q).1 = q.1
    split <;> rfl
  · rw [if_neg a]
    have hx : x ∉ ks := fun hx => a (by
      have hm : (Sum.inl x : Key) ∈ kvs.map (·.1) := by rw [h1]; exact List.mem_map_of_mem hx
      obtain ⟨q, hq, e⟩ := List.mem_map.mp hm
      exact List.any_eq_true.mpr ⟨q, hq, decide_eq_true e⟩)
    refine ⟨ks ++ [x], ⟨by rw [List.map_append, List.map_append, h1]; rfl, ?_⟩, fun y => by rw [List.mem_append, List.mem_singleton], by rw [List.length_append]; exact Nat.le_refl _⟩
    rw [List.nodup_append]
    refine ⟨h2, List.nodup_cons.mpr ⟨fun h => (nomatch h), List.nodup_nil⟩, fun a ha b hb e => ?_⟩
    rw [List.mem_singleton.mp hb] at e
    rw [e] at ha
    exact hx ha
theorem lt_of_le_nodup {ys : List Int} (h : ys.Pairwise (· ≤ ·)) (hd : ys.Nodup) : ys.Pairwise (· < ·) :=
  List.Pairwise.imp₂ (fun a b h1 h2 => by
    have h3 : a ≠ b := h2
    omega) h hd
/-- the options of a state, at v -/
def OptsIn (H : Hp) (p : Pl) (s : List Int) (v : V) : Prop := ∃ t os, v = .ref t ∧ H t = some (.tup os) ∧ os.length = (movesOf p s).length ∧ ∀ (i : Nat) m x, (movesOf p s)[i]? = some m → os[i]? = some x → ∃ u o, x = .ref u ∧ H u = some (.tup (o.map V.int)) ∧ OptR p s m o
theorem OptsIn.mono {H H' : Hp} (t : Tp H H') {p : Pl} {s : List Int} {v : V} (h : OptsIn H p s v) : OptsIn H' p s v := by
  obtain ⟨a, os, e, h1, h2, h3⟩ := h
  refine ⟨a, os, e, t _ _ h1, h2, fun i m x hm hx => ?_⟩
  obtain ⟨u, o, e, g1, g2⟩ := h3 i m x hm hx
  exact ⟨u, o, e, t _ _ g1, g2⟩
def ArenaAt (H : Hp) (p : Pl) (xs : List V) : Prop := xs.length = (prodR [[]] p.vs).length ∧ ∀ (k : Nat) s x, (prodR [[]] p.vs)[k]? = some s → xs[k]? = some x → OptsIn H p s x
theorem ArenaAt.mono {H H' : Hp} (t : Tp H H') {p : Pl} {xs : List V} (h : ArenaAt H p xs) : ArenaAt H' p xs := ⟨h.1, fun k s x a b => (h.2 k s x a b).mono t⟩
/-- what is known of a plant whose arena is asked -/
structure ArF (p : Pl) (xs : List Str) (B : Nat) : Prop where
  g : PlG p xs B
  n : ∀ n : Int, n.natAbs ≤ B + 1 → Builtin.Int.intBits n ≤ 1048577
  few : cnt p.ns ≤ 60
theorem ArF.inf {p : Pl} {xs : List Str} {B : Nat} (h : ArF p xs B) : InF p B := by
  have hlv := h.g.lv
  have hm := mx_dep p.al
  have hd := h.g.a.2.1
  have h6 := two_mono hd
  have e6 : 2 ^ 6 = 64 := rfl
  refine ⟨fun r hr => (h.g.i r hr).1.le, fun r hr => ?_, h.n, h.g.cn.2.1, ⟨by omega, by omega⟩, h.g.al2, by omega, by omega⟩
  rcases List.mem_append.mp hr with hr | hr
  · exact (h.g.v r hr).1.abs
  · exact (h.g.i r hr).1.abs
theorem ArF.le {p : Pl} {xs : List Str} {B : Nat} (h : ArF p xs B) : ∀ r ∈ p.vs, r.2.1 ≤ r.2.2 := fun r hr => (h.g.v r hr).1.le
section
variable {P : Program} {w : World} {K : PySem.W.Frag} {mg : Str → Option Value} {base : Heap}
/-! ### _successors_of -/
def spSuc : Sp := fun vs H Q _ => ∃ (v : V) (p : Pl) (xs : List Str) (B : Nat) (a b rq : Addr) (s m : List Int) (ys : List V), vs = [v, .ref a, .ref b, .ref rq] ∧ PlIn H p v ∧ ArF p xs B ∧ H a = some (.tup (s.map V.int)) ∧ H b = some (.tup (m.map V.int)) ∧ InR p.vs s ∧ InR p.ins m ∧
  H rq = some (.tup ys) ∧ RowsL H ys (prodR [[]] p.ns) ∧ ∀ t o H', Same H H' → H' t = some (.tup (o.map V.int)) → OptR p s m o → Q (.ref t) H'
/-! ### _options_of, arena_of -/
def spOpts : Sp := fun vs H Q _ => ∃ (v : V) (p : Pl) (xs : List Str) (B : Nat) (a rq : Addr) (s : List Int) (ys : List V), vs = [v, .ref a, .ref rq] ∧ PlIn H p v ∧ ArF p xs B ∧ H a = some (.tup (s.map V.int)) ∧ InR p.vs s ∧
  H rq = some (.tup ys) ∧ RowsL H ys (prodR [[]] p.ns) ∧ ∀ u H', Same H H' → OptsIn H' p s u → Q u H'
def spArenaP : Sp := fun vs H Q _ => ∃ (v : V) (p : Pl) (xs : List Str) (B : Nat), vs = [v] ∧ PlIn H p v ∧ ArF p xs B ∧ ∀ q xs H', Same H H' → H' q = some (.tup xs) → ArenaAt H' p xs → Q (.ref q) H'
end
end NL

namespace NL
open PySem PySem.Spec PyProof.Rows L2
/-! ### the positions whose states fulfil a condition -/
def isAt (p : Pl) (t : It) (k : Nat) : Bool := match (prodR [[]] p.vs)[k]? with | some s => t.tr (envR p.vs s) | none => false
def whereTo (p : Pl) (t : It) (j : Nat) : List Int := ((List.range j).filter (isAt p t)).map fun k : Nat => (k : Int)
def whereOf (p : Pl) (t : It) : List Int := whereTo p t (prodR [[]] p.vs).length
theorem where_snoc (p : Pl) (t : It) (j : Nat) : whereTo p t (j + 1) = whereTo p t j ++ (if isAt p t j = true then [(j : Int)] else []) := by
  unfold whereTo
  rw [List.range_succ, List.filter_append, List.map_append]
  congr 1
  rw [List.filter_cons]
  split <;> rfl
theorem where_asc (p : Pl) (t : It) (j : Nat) : (whereTo p t j).Pairwise (· < ·) := by
  unfold whereTo
  rw [List.pairwise_map]
  exact List.Pairwise.imp (fun {a b} (h : a < b) => by omega) (List.Pairwise.filter _ (List.pairwise_lt_range (n := j)))
theorem where_mem {p : Pl} {t : It} {j : Nat} {x : Int} (h : x ∈ whereTo p t j) : 0 ≤ x ∧ x < j := by
  unfold whereTo at h
  obtain ⟨k, hk, rfl⟩ := List.mem_map.mp h
  have := List.mem_range.mp (List.mem_filter.mp hk).1
  omega
theorem where_len (p : Pl) (t : It) (j : Nat) : (whereTo p t j).length ≤ j := by
  unfold whereTo
  rw [List.length_map]
  refine Nat.le_trans (List.length_filter_le _ _) ?_
  rw [List.length_range]
  exact Nat.le_refl j
/-- a condition over the variables of a plant -/
structure CoF (p : Pl) (B : Nat) (t : It) : Prop where
  ok : Okx (p.vs.map (·.1)) B true t
  dp : t.dep ≤ 13
  mx : t.mx ≤ 120
structure VaF (p : Pl) (B : Nat) : Prop where
  le : ∀ r ∈ p.vs, r.2.1 ≤ r.2.2
  bd : ∀ r ∈ p.vs, r.2.1.natAbs ≤ B + 1 ∧ r.2.2.natAbs ≤ B + 1
  num : ∀ n : Int, n.natAbs ≤ B + 1 → Builtin.Int.intBits n ≤ 1048577
  cn : cnt p.vs ≤ 1000
  lv : p.vs.length ≤ 30
theorem CoF.ev {p : Pl} {B : Nat} {t : It} (g : CoF p B t) (h : VaF p B) {s : List Int} (hs : InR p.vs s) {H : Hp} {D : Addr} (eD : H D = some (.dK (putAll [] (pairsR p.vs s)))) {v : V} (hv : ItemIn H t v) :
    Ev H (p.vs.map (·.1)) B 1048577 (envR p.vs s) D 13 true t v :=
  ⟨hv, g.ok, g.dp, ⟨h.num, fun x hx => h.num _ (inr_abs hs h.bd _ (env_mem hs.len hx)), by decide⟩, Nat.le_trans (Nat.mul_le_mul_left 1048577 (show t.mx + 1 ≤ 121 by have := g.mx; omega)) (by decide), env_in hs.len eD⟩
section
variable {P : Program} {w : World} {K : PySem.W.Frag} {mg : Str → Option Value} {base : Heap}
def spWhere : Sp := fun vs H Q _ => ∃ (v cv : V) (p : Pl) (B : Nat) (t : It), vs = [v, cv] ∧ PlIn H p v ∧ VaF p B ∧ CoF p B t ∧ ItemIn H t cv ∧ ∀ q H', Same H H' → H' q = some (.tup ((whereOf p t).map V.int)) → Q (.ref q) H'
theorem ok_positions_where (hN : base.NoSeer) (hp : P.given.tree = none) (T : Txt K mg) : FnOk P w K mg base CX0 52 T.apositions_where T.dpositions_where Ppositions_where spWhere := by
  have Gstates_of := ok_states_of (P := P) (w := w) (base := base) T
  have Gvalues_by_name := ok_values_by_name (P := P) (w := w) (base := base) T
  obtain ⟨_, Gholds⟩ := rd_values (P := P) (w := w) hN hp T 13
  refine T.Fpositions_where.ok scpositions_where (fun vs H Q E h => ?_) (fun cdv A outer s H vs Q E hr h => ?_)
  · obtain ⟨v, cv, p, B, t, rfl, _⟩ := h
    rfl
  obtain ⟨v, cv, p, B, t, rfl, hpl, hV, hC, hcv, q⟩ := h
  obtain ⟨pa, v1, v2, v3, vl, st, sx, rfl, e0, ⟨t1, x1, rfl, h1, g1⟩, hrest⟩ := hpl
  have hpl : PlIn H p (.ref pa) := ⟨pa, .ref t1, v2, v3, vl, st, sx, rfl, e0, ⟨t1, x1, rfl, h1, g1⟩, hrest⟩
  have hlv := hV.lv
  refine ⟨_, (pss_cons (ps_set (i := 2) scpositions_where.nd rfl (Or.inl rfl) (pe_call Gstates_of (hr.mono (by omega)) (by rfl) T.mstates_of T.Fstates_of.kp T.bstates_of .nil pass0 (pa_cons (pv 0) pa_nil)))
    (pss_one (ps_ret (pe_callTy call_tuple_of (by rfl) T.z_tuple (by decide +kernel) (pa_cons (pe_lc (own := [("at", 3), ("state", 4)]) (g := (gTup K 2 (gCons (gName 3) (gCons (gName 4) gNil)))) (tt := _) rfl scpositions_where.nd (pi_enumT (by rfl) T.z_enumerate (pa_cons (pv 2) pa_nil)) (blkOk_by (N := Npositions_where) (sc := defScope spositions_where) (by decide +kernel)) (fun _ _ _ _ _ => (pg_tup rfl (pgs_cons (pg_name (i := 3) scpositions_where.nd rfl (Or.inl rfl)) (pgs_cons (pg_name (i := 4) scpositions_where.nd rfl (Or.inl rfl)) pgs_nil)))) (fun _ _ _ _ _ => (pts_one (pt_val (pe_call Gholds (hr.mono (by omega)) (by rfl) T.mholds T.Fholds.kp T.bholds .nil pass0 (pa_cons (pv 1) (pa_cons (pe_call Gvalues_by_name (hr.mono (by omega)) (by rfl) T.mvalues_by_name T.Fvalues_by_name.kp T.bvalues_by_name .nil pass0 (pa_cons (pe_ix (ix_tupK (K := K) rfl) (pv 0) pe_int (fun _ _ => rfl)) (pa_cons (pv 4) pa_nil))) pa_nil)))))) (fun _ _ _ _ _ => (pv 3))) pa_nil))))), ?_⟩
  refine ⟨_, rfl, .ref pa, p, rfl, hpl, hV.le, hV.cn, by omega, fun sq ys H1 s1 e1 hS => ?_⟩
  have yl : ys.length ≤ 1000 := by
    rw [hS.1, prod_len, List.length_singleton, Nat.one_mul]
    exact hV.cn
  refine ⟨_, rfl, sq, _, rfl, sqt e1, fun D hD => ?_⟩
  refine lc_enumT (K := K) (a := sq) (xs := ys) (fun (j : Nat) (H' : Hp) => Same H1 H' ∧ H' D = some (.lst ((whereTo p t j).map V.int)) ∧ j ≤ ys.length) ?_ ?_ ?_ ?_
  · exact ⟨same_new hD _, by rw [upd_same]; rfl, Nat.zero_le _⟩
  · rintro j H' ⟨s2, _⟩
    exact sqt (s2 _ _ e1)
  · rintro j x tz H2 hx ⟨s2, e2, _⟩ htz
    have hj := (List.getElem?_eq_some_iff.mp hx).1
    obtain ⟨xt, s, hs, rfl, hxt⟩ := hS.get hx
    have hI : InR p.vs s := prod_in0 (List.mem_of_getElem? hs)
    have s3 := same_new htz (.tup [.int (j : Nat), .ref xt])
    have s13 := s1.trans (s2.trans s3)
    refine ⟨tz, _, rfl, sqt upd_same, rfl, _, _, rfl, _, _, rfl, rfl, rfl, ?_⟩
    refine ⟨_, rfl, _, rfl, pa, _, 0, _, rfl, rfl, sqt (s13 _ _ e0), atI0, _, rfl, .ref t1, p.vs, xt, s, rfl, ⟨t1, x1, rfl, s13 _ _ h1, g1.mono (Tp.same s13)⟩, (s2.trans s3) _ _ hxt, hI.len, by omega, fun D2 H3 s4 eD => ?_⟩
    have s14 := s13.trans s4
    refine ⟨cv, D2, t, _, B, 1048577, _, rfl, hC.ev hV hI eD (hcv.mono (Tp.same s14)), fun H4 s5 => ?_⟩
    have s25 := s3.trans (s4.trans s5)
    have e5 := s25 _ _ e2
    have hat : isAt p t j = t.tr (envR p.vs s) := by
      unfold isAt
      rw [hs]
    refine ⟨_, rfl, ?_⟩
    have hsn := where_snoc p t j
    rw [← hat]
    show if isAt p t j = true then _ else _
    cases hb : isAt p t j with
    | true =>
      rw [hb, if_pos rfl] at hsn
      refine iteT ⟨_, rfl, _, e5, ?_, same_put (s2.trans s25) hD, ?_, hj⟩
      · have := where_len p t j
        rw [List.length_map]
        exact big' (by omega)
      · rw [upd_same, hsn, List.map_append]
        rfl
    | false =>
      rw [hb, if_neg Bool.false_ne_true, List.append_nil] at hsn
      exact iteF ⟨s2.trans s25, by rw [hsn]; exact e5, hj⟩
  · rintro H2 ⟨s2, e2, _⟩
    rw [hS.1] at e2
    exact ⟨D, _, rfl, .inl ⟨sqd e2, fun tq htq => q tq _ (s1.trans (s2.trans (same_new htq _))) upd_same⟩⟩
end
end NL

namespace NL
open PySem PySem.Spec PyProof.Rows L2
/-! ### two values that are the same, part by part -/
def Alike : Nat → Hp → V → V → Prop
  | 0, _, _, _ => False
  | n + 1, H, u, v => (∃ s, u = .str s ∧ v = .str s) ∨ (∃ i, u = .int i ∧ v = .int i) ∨ ∃ a b xs ys, u = .ref a ∧ v = .ref b ∧ H a = some (.tup xs) ∧ H b = some (.tup ys) ∧ xs.length = ys.length ∧ ys.length ≤ 1000 ∧
      ∀ (k : Nat) x y, xs[k]? = some x → ys[k]? = some y → Alike n H x y
theorem Alike.up {H : Hp} : ∀ {n : Nat} {u v : V}, Alike n H u v → Alike (n + 1) H u v
  | 0, _, _, h => h.elim
  | n + 1, u, v, h => by
    rcases h with h | h | ⟨a, b, xs, ys, h1, h2, h3, h4, h5, h6, h7⟩
    · exact .inl h
    · exact .inr (.inl h)
    · exact .inr (.inr ⟨a, b, xs, ys, h1, h2, h3, h4, h5, h6, fun k x y hx hy => (h7 k x y hx hy).up⟩)
theorem Alike.s {n : Nat} {H : Hp} {s : Str} : Alike (n + 1) H (.str s) (.str s) := .inl ⟨s, rfl, rfl⟩
theorem Alike.i {n : Nat} {H : Hp} {i : Int} : Alike (n + 1) H (.int i) (.int i) := .inr (.inl ⟨i, rfl, rfl⟩)
def AllA (n : Nat) (H : Hp) (xs ys : List V) : Prop := xs.length = ys.length ∧ ∀ (k : Nat) x y, xs[k]? = some x → ys[k]? = some y → Alike n H x y
theorem AllA.nil {n : Nat} {H : Hp} : AllA n H [] [] := ⟨rfl, fun k x y h _ => by simp at h⟩
theorem AllA.cons {n : Nat} {H : Hp} {x y : V} {xs ys : List V} (h : Alike n H x y) (g : AllA n H xs ys) : AllA n H (x :: xs) (y :: ys) := ⟨by rw [List.length_cons, List.length_cons, g.1], fun k a b ha hb => by
  cases k with
  | zero => cases Option.some.inj ha; cases Option.some.inj hb; exact h
  | succ k => exact g.2 k a b (by simpa using ha) (by simpa using hb)⟩
theorem Alike.t {n : Nat} {H : Hp} {a b : Addr} {xs ys : List V} (e : H a = some (.tup xs)) (f : H b = some (.tup ys)) (h : AllA n H xs ys) (hl : ys.length ≤ 1000) : Alike (n + 1) H (.ref a) (.ref b) := .inr (.inr ⟨a, b, xs, ys, rfl, rfl, e, f, h.1, hl, h.2⟩)
theorem item_alike {H : Hp} {xs : List Str} {B : Nat} : ∀ (n : Nat) {b : Bool} {i : It} {u v : V}, i.dep ≤ n → Okx xs B b i → ItemIn H i u → ItemIn H i v → Alike (2 * n + 1) H u v
  | 0, b, i, u, v, hd, _, _, _ => by
    have := dep_pos i
    omega
  | n + 1, b, i, u, v, hd, ho, h, g => by
    have ih := fun {b : Bool} {j : It} {u v : V} (hj : j.dep ≤ n) (o : Okx xs B b j) (h : ItemIn H j u) (g : ItemIn H j v) => item_alike n hj o h g
    show Alike (2 * n + 1 + 1 + 1) H u v
    cases h with
    | num e => cases g with | num f => exact .t e f (.cons .s (.cons .i .nil)) (Nat.le_of_ble_eq_true rfl)
    | name e => cases g with | name f => exact .t e f (.cons .s (.cons .s .nil)) (Nat.le_of_ble_eq_true rfl)
    | lit e => cases g with | lit f => exact .t e f (.cons .s .nil) (Nat.le_of_ble_eq_true rfl)
    | un e h1 =>
      cases g with
      | un f g1 =>
        rw [It.dep] at hd
        refine .t e f (.cons .s (.cons ?_ .nil)) (Nat.le_of_ble_eq_true rfl)
        cases ho with
        | abs o => exact (ih (by omega) o h1 g1).up
        | not o => exact (ih (by omega) o h1 g1).up
    | dm e h1 =>
      cases g with
      | dm f g1 =>
        rw [It.dep] at hd
        cases ho with
        | dm _ o _ _ => exact .t e f (.cons .s (.cons (ih (by omega) o h1 g1).up (.cons .i .nil))) (Nat.le_of_ble_eq_true rfl)
    | bin e h1 h2 =>
      cases g with
      | bin f g1 g2 =>
        rw [It.dep] at hd
        cases ho with
        | bin _ o p => exact .t e f (.cons .s (.cons (ih (by omega) o h1 g1).up (.cons (ih (by omega) p h2 g2).up .nil))) (Nat.le_of_ble_eq_true rfl)
        | cmp _ o p => exact .t e f (.cons .s (.cons (ih (by omega) o h1 g1).up (.cons (ih (by omega) p h2 g2).up .nil))) (Nat.le_of_ble_eq_true rfl)
    | tri e h1 h2 h3 =>
      cases g with
      | tri f g1 g2 g3 =>
        rw [It.dep] at hd
        cases ho with
        | tri o p q => exact .t e f (.cons .s (.cons (ih (by omega) o h1 g1).up (.cons (ih (by omega) p h2 g2).up (.cons (ih (by omega) q h3 g3).up .nil)))) (Nat.le_of_ble_eq_true rfl)
    | grp e e2 hl hk =>
      cases g with
      | grp f f2 gl gk =>
        rw [It.dep] at hd
        cases ho with
        | grp _ hll hall =>
          refine .t e f (.cons .s (.cons (.t e2 f2 ⟨by rw [hl, gl], fun k x y hx hy => ?_⟩ (by rw [gl]; omega)) .nil)) (Nat.le_of_ble_eq_true rfl)
          have hkl := (List.getElem?_eq_some_iff.mp hx).1
          rw [hl] at hkl
          have ej := List.getElem?_eq_getElem hkl
          have hmem := List.getElem_mem hkl
          have h1 := depL_in hmem
          exact ih (by omega) (hall _ hmem) (hk k _ x ej hx) (gk k _ y ej hy)
section
variable {P : Program} {w : World} {K : PySem.W.Frag} {mg : Str → Option Value} {base : Heap}
/-! ### _law_same -/
def spSame (n : Nat) : Sp := fun vs H Q _ => ∃ u v : V, vs = [u, v] ∧ Alike n H u v ∧ Q (.bl true) H
theorem ok_law_same (T : Txt K mg) : ∀ n : Nat, FnOk P w K mg base CX0 (n + 1) T.a_law_same T.d_law_same P_law_same (spSame n)
  | 0 => by
    have no : ∀ vs H Q E, ¬ spSame 0 vs H Q E := fun vs H Q E ⟨u, v, _, h, _⟩ => h
    exact ⟨fun vs H Q E h => absurd h (no vs H Q E), fun A outer s H args us vs Q E _ _ _ _ h => absurd h (no vs H Q E)⟩
  | n + 1 => by
    have G_law_same := ok_law_same T n
    refine T.F_law_same.ok sc_law_same (fun vs H Q E h => ?_) (fun cdv A outer s H vs Q E hr h => ?_)
    · obtain ⟨u, v, rfl, _⟩ := h
      rfl
    obtain ⟨u, v, rfl, h, q⟩ := h
    refine ⟨_, (pss_cons (ps_if (PW.pt (pw_or (pt_val (pe_callB (call_isi) (by rfl) T.z_isinstance (by decide +kernel) (pa_cons (pv 1) (pa_cons (pe_bltn (v := .ty "tuple") (u := .type "tuple") (by rfl) T.z_tuple (by decide +kernel) rfl) pa_nil)))) (pw_or1 (pt_val (pe_callB (call_isi) (by rfl) T.z_isinstance (by decide +kernel) (pa_cons (pv 1) (pa_cons (pe_bltn (v := .ty "list") (u := .type "list") (by rfl) T.z_list (by decide +kernel) rfl) pa_nil)))))))
    (pss_cons (ps_if (PW.pt (pw_and (pt_val (pe_callB (call_isi) (by rfl) T.z_isinstance (by decide +kernel) (pa_cons (pv 1) (pa_cons (pe_bltn (v := .ty "tuple") (u := .type "tuple") (by rfl) T.z_tuple (by decide +kernel) rfl) pa_nil)))) (pw_and1 (pt_not (pt_val (pe_callB (call_isi) (by rfl) T.z_isinstance (by decide +kernel) (pa_cons (pv 0) (pa_cons (pe_bltn (v := .ty "tuple") (u := .type "tuple") (by rfl) T.z_tuple (by decide +kernel) rfl) pa_nil))))))))
    (pss_one (ps_ret pe_bl))
    pss_nil)
    (pss_cons (ps_if (PW.pt (pw_and (pt_val (pe_callB (call_isi) (by rfl) T.z_isinstance (by decide +kernel) (pa_cons (pv 1) (pa_cons (pe_bltn (v := .ty "list") (u := .type "list") (by rfl) T.z_list (by decide +kernel) rfl) pa_nil)))) (pw_and1 (pt_not (pt_val (pe_callB (call_isi) (by rfl) T.z_isinstance (by decide +kernel) (pa_cons (pv 0) (pa_cons (pe_bltn (v := .ty "list") (u := .type "list") (by rfl) T.z_list (by decide +kernel) rfl) pa_nil))))))))
    (pss_one (ps_ret pe_bl))
    pss_nil)
    (pss_cons (ps_if (pt_cmpR op_ne (pe_callB call_len_seq (by rfl) T.z_len PySem.boot_len (pa_cons (pv 0) pa_nil)) (pe_callB call_len_seq (by rfl) T.z_len PySem.boot_len (pa_cons (pv 1) pa_nil)) (nomark _))
    (pss_one (ps_ret pe_bl))
    pss_nil)
    (pss_cons (ps_for  PassesOwn.never rfl (pi_range1 (by rfl) T.z_range (pa_cons (pe_callB call_len_seq (by rfl) T.z_len PySem.boot_len (pa_cons (pv 1) pa_nil)) pa_nil)) (pg_name (i := 2) sc_law_same.nd rfl (Or.inl rfl))
    (pss_one (ps_if (pt_not (pt_val (pe_call G_law_same (hr.mono (by omega)) (by rfl) T.m_law_same T.F_law_same.kp T.b_law_same .nil pass0 (pa_cons (pe_ix ix_tup (pv 0) (pv 2) (fun _ _ => rfl)) (pa_cons (pe_ix ix_tup (pv 1) (pv 2) (fun _ _ => rfl)) pa_nil)))))
    (pss_one (ps_ret pe_bl))
    pss_nil)))
    (pss_one (ps_ret pe_bl))))))
    pss_nil)
    (pss_cons (ps_if (pt_val (pe_callB (call_isi) (by rfl) T.z_isinstance (by decide +kernel) (pa_cons (pv 1) (pa_cons (pe_bltn (v := .ty "str") (u := .type "str") (by rfl) T.z_str (by decide +kernel) rfl) pa_nil))))
    (pss_one (ps_ret (pe_and (pe_callB (call_isi) (by rfl) T.z_isinstance (by decide +kernel) (pa_cons (pv 0) (pa_cons (pe_bltn (v := .ty "str") (u := .type "str") (by rfl) T.z_str (by decide +kernel) rfl) pa_nil))) (pe_one (pe_cmpR op_eq (pv 0) (pv 1) (nomark _))))))
    pss_nil)
    (pss_cons (ps_if (pt_val (pe_callB (call_isi) (by rfl) T.z_isinstance (by decide +kernel) (pa_cons (pv 1) (pa_cons (pe_bltn (v := .ty "bool") (u := .type "bool") (by rfl) T.z_bool (by decide +kernel) rfl) pa_nil))))
    (pss_one (ps_ret (pe_and (pe_callB (call_isi) (by rfl) T.z_isinstance (by decide +kernel) (pa_cons (pv 0) (pa_cons (pe_bltn (v := .ty "bool") (u := .type "bool") (by rfl) T.z_bool (by decide +kernel) rfl) pa_nil))) (pe_one (pe_cmpR op_eq (pv 0) (pv 1) (nomark _))))))
    pss_nil)
    (pss_one (ps_ret (pe_and (pe_callB (call_isi) (by rfl) T.z_isinstance (by decide +kernel) (pa_cons (pv 0) (pa_cons (pe_bltn (v := .ty "int") (u := .type "int") (by rfl) T.z_int (by decide +kernel) rfl) pa_nil))) (pe_and (pe_not (pe_callB (call_isi) (by rfl) T.z_isinstance (by decide +kernel) (pa_cons (pv 0) (pa_cons (pe_bltn (v := .ty "bool") (u := .type "bool") (by rfl) T.z_bool (by decide +kernel) rfl) pa_nil)))) (pe_one (pe_cmpR op_eq (pv 0) (pv 1) (nomark _)))))))))), ?_⟩
    rcases h with ⟨s, rfl, rfl⟩ | ⟨i, rfl, rfl⟩ | ⟨a, b, xs, ys, rfl, rfl, ea, eb, hl, hz, hall⟩
    · refine ⟨_, rfl, _, _, .type "str", .type "tuple", false, rfl, .ty "tuple", .base (.str _), kit_ty (by decide +kernel), false, rfl, ?_⟩
      refine iteF ⟨_, rfl, _, _, .type "str", .type "list", false, rfl, .ty "list", .base (.str _), kit_ty (by decide +kernel), false, rfl, ?_⟩
      refine iteF ⟨_, rfl, _, _, .type "str", .type "str", true, rfl, .ty "str", .base (.str _), kit_ty (by decide +kernel), true, rfl, ?_⟩
      refine iteT ⟨_, rfl, _, _, .type "str", .type "str", true, rfl, .ty "str", .base (.str _), kit_ty (by decide +kernel), true, rfl, ?_⟩
      exact iteT ⟨_, rfl, _, rfl, rfl, boolE (decide_eq_true rfl) q⟩
    · refine ⟨_, rfl, _, _, .type "int", .type "tuple", false, rfl, .ty "tuple", .base (.int _), kit_ty (by decide +kernel), false, rfl, ?_⟩
      refine iteF ⟨_, rfl, _, _, .type "int", .type "list", false, rfl, .ty "list", .base (.int _), kit_ty (by decide +kernel), false, rfl, ?_⟩
      refine iteF ⟨_, rfl, _, _, .type "int", .type "str", false, rfl, .ty "str", .base (.int _), kit_ty (by decide +kernel), false, rfl, ?_⟩
      refine iteF ⟨_, rfl, _, _, .type "int", .type "bool", false, rfl, .ty "bool", .base (.int _), kit_ty (by decide +kernel), false, rfl, ?_⟩
      refine iteF ⟨_, rfl, _, _, .type "int", .type "int", true, rfl, .ty "int", .base (.int _), kit_ty (by decide +kernel), true, rfl, ?_⟩
      refine iteT ⟨_, rfl, _, _, .type "int", .type "bool", false, rfl, .ty "bool", .base (.int _), kit_ty (by decide +kernel), false, rfl, true, rfl, ?_⟩
      exact iteT ⟨_, rfl, _, rfl, rfl, boolE (decide_eq_true rfl) q⟩
    · refine ⟨_, rfl, _, _, .type "tuple", .type "tuple", true, rfl, .ty "tuple", .base (.tup eb), kit_ty (by decide +kernel), true, rfl, ?_⟩
      refine iteT (iteT ?_)
      refine ⟨_, rfl, _, _, .type "tuple", .type "tuple", true, rfl, .ty "tuple", .base (.tup eb), kit_ty (by decide +kernel), true, rfl, ?_⟩
      refine iteT ⟨_, rfl, _, _, .type "tuple", .type "tuple", true, rfl, .ty "tuple", .base (.tup ea), kit_ty (by decide +kernel), true, rfl, ?_⟩
      refine iteF ?_
      refine ⟨_, rfl, _, _, .type "tuple", .type "list", false, rfl, .ty "list", .base (.tup eb), kit_ty (by decide +kernel), false, rfl, ?_⟩
      refine iteF (iteF ?_)
      refine ⟨_, rfl, a, _, rfl, .inr (sqt ea), _, rfl, b, _, rfl, .inr (sqt eb), rfl, _, rfl, ?_⟩
      refine ifF (by rw [hl, decide_eq_true rfl] <;> rfl) ?_
      refine ⟨_, rfl, b, _, rfl, .inr (sqt eb), _, rfl, by omega, by omega, for_range (lo := 0) (n := ys.length) (fun j σ H' => ∃ y : Option V, σ = [some (.ref a), some (.ref b), y] ∧ H' = H) ?_ ?_ ?_⟩
      · exact ⟨none, rfl, rfl⟩
      · rintro j σ H' hj ⟨y, rfl, rfl⟩
        have hjx : xs[j]? = some xs[j] := List.getElem?_eq_getElem (by omega)
        have hjy : ys[j]? = some ys[j] := List.getElem?_eq_getElem hj
        have e0 : (0 : Int) + (j : Int) = (j : Int) := Int.zero_add _
        refine ⟨_, rfl, _, rfl, a, _, _, _, rfl, rfl, sqt ea, by rw [e0]; exact atI_nat hjx, _, rfl, _, rfl, b, _, _, _, rfl, rfl, sqt eb, by rw [e0]; exact atI_nat hjy, ?_⟩
        refine ⟨_, _, rfl, hall j _ _ hjx hjy, true, rfl, ?_⟩
        exact iteF ⟨_, rfl, rfl⟩
      · rintro σ H' ⟨y, rfl, rfl⟩
        exact q
end
end NL

set_option maxHeartbeats 4000000
namespace NL
open PySem PySem.Spec PyProof.Rows L2
theorem op_in_seqK {X : Cx} {K : PySem.W.Frag} (h : X.K = K) : OpR X (compareOp .In) (rIn K false) := by
  subst h
  exact op_in_seq
theorem op_notIn_seqK {X : Cx} {K : PySem.W.Frag} (h : X.K = K) : OpR X (compareOp .NotIn) (rIn K true) := by
  subst h
  exact op_notIn_seq
/-! ### what the conditions tell together: pure -/
theorem where_map (p : Pl) (t : It) : whereOf p t = ((List.range (prodR [[]] p.vs).length).filter (isAt p t)).map fun k : Nat => (k : Int) := rfl
theorem where_in {p : Pl} {t : It} {k : Nat} (hk : k < (prodR [[]] p.vs).length) : (k : Int) ∈ whereOf p t ↔ isAt p t k = true := by
  rw [where_map, List.mem_map]
  constructor
  · rintro ⟨j, hj, e⟩
    have : j = k := by omega
    rw [← this]
    exact (List.mem_filter.mp hj).2
  · intro h
    exact ⟨k, List.mem_filter.mpr ⟨List.mem_range.mpr hk, h⟩, rfl⟩
theorem int_inV {x : Int} {l : List Int} : inV (V.int x) (l.map V.int) = decide (x ∈ l) := by
  unfold inV
  rw [List.any_map]
  induction l with
  | nil => rfl
  | cons y r ih =>
    rw [List.any_cons, ih]
    show (decide (y = x) || _) = _
    by_cases h : x = y
    · rw [decide_eq_true h.symm, Bool.true_or, decide_eq_true (List.mem_cons.mpr (.inl h))]
    · rw [decide_eq_false (fun e => h e.symm), Bool.false_or]
      exact decide_eq_decide.mpr ⟨fun m => List.mem_cons_of_mem _ m, fun m => (List.mem_cons.mp m).resolve_left h⟩
theorem at_in {p : Pl} {t : It} {k : Nat} (hk : k < (prodR [[]] p.vs).length) : inV (V.int (k : Int)) ((whereOf p t).map V.int) = isAt p t k := by
  rw [int_inV]
  cases h : isAt p t k with
  | true => exact decide_eq_true ((where_in hk).mpr h)
  | false =>
    refine decide_eq_false fun m => ?_
    have := (where_in hk).mp m
    rw [h] at this
    cases this
theorem at_all {p : Pl} {a b c : It} {k : Nat} (hk : k < (prodR [[]] p.vs).length) : isAt p (.grp "all" [a, b, c]) k = (isAt p a k && (isAt p b k && isAt p c k)) := by
  unfold isAt
  rw [List.getElem?_eq_getElem hk]
  show It.tr _ (.grp "all" [a, b, c]) = _
  rw [It.tr, if_pos rfl, trL_map]
  show (a.tr _ && (b.tr _ && (c.tr _ && true))) = _
  rw [Bool.and_true]
theorem at_any {p : Pl} {a b c : It} {k : Nat} (hk : k < (prodR [[]] p.vs).length) : isAt p (.grp "any" [a, b, c]) k = (isAt p a k || (isAt p b k || isAt p c k)) := by
  unfold isAt
  rw [List.getElem?_eq_getElem hk]
  show It.tr _ (.grp "any" [a, b, c]) = _
  rw [It.tr, if_neg (by decide +kernel), trL_map]
  show (a.tr _ || (b.tr _ || (c.tr _ || false))) = _
  rw [Bool.or_false]
theorem at_not {p : Pl} {a : It} {k : Nat} (hk : k < (prodR [[]] p.vs).length) : isAt p (.un "not" a) k = !(isAt p a k) := by
  unfold isAt
  rw [List.getElem?_eq_getElem hk]
  show It.tr _ (.un "not" a) = _
  rw [It.tr]
theorem at_lit {p : Pl} {b : Bool} {k : Nat} (hk : k < (prodR [[]] p.vs).length) : isAt p (.lit b) k = b := by
  unfold isAt
  rw [List.getElem?_eq_getElem hk]
  show It.tr _ (.lit b) = _
  rw [It.tr]
theorem where_congr {p : Pl} {t : It} {f : Nat → Bool} (h : ∀ k, k < (prodR [[]] p.vs).length → isAt p t k = f k) : whereOf p t = ((List.range (prodR [[]] p.vs).length).filter f).map fun k : Nat => (k : Int) := by
  rw [where_map]
  congr 1
  exact List.filter_congr fun k hk => h k (List.mem_range.mp hk)
theorem range_lt : ∀ (n m : Nat), m ≤ n → (List.range n).filter (fun k => decide (k < m)) = List.range m
  | 0, m, h => by
    have : m = 0 := by omega
    subst this
    rfl
  | n + 1, m, h => by
    rw [List.range_succ, List.filter_append]
    by_cases c : m ≤ n
    · rw [range_lt n m c, List.filter_cons, if_neg (by simp; omega)]
      simp
    · have : m = n + 1 := by omega
      subst this
      rw [List.filter_cons, if_pos (by simp), List.filter_nil, List.range_succ]
      congr 1
      exact List.filter_eq_self.mpr fun k hk => decide_eq_true (by have := List.mem_range.mp hk; omega)
/-! ### a plant with 151 states -/
def plL (nm : Str) (lo : Int) : Pl := ⟨[(nm, lo, lo + 150)], [], [], [.name nm], .lit true⟩
theorem plL_all (nm : Str) (lo : Int) : prodR [[]] (plL nm lo).vs = (rngI (nm, lo, lo + 150)).map fun v => [v] := by
  show stepR (nm, lo, lo + 150) [[]] = _
  unfold stepR
  rw [List.flatMap_cons, List.flatMap_nil, List.append_nil]
  rfl
theorem plL_size (nm : Str) (lo : Int) : rsize (nm, lo, lo + 150) = 151 := by
  show (lo + 150 + 1 - lo).toNat = 151
  omega
theorem plL_at (nm : Str) (lo : Int) {k : Nat} (hk : k < 151) : (prodR [[]] (plL nm lo).vs)[k]? = some [lo + (k : Int)] := by
  rw [plL_all, List.getElem?_map, rng_get (by rw [plL_size]; exact hk)]
  rfl
theorem plL_len (nm : Str) (lo : Int) : (prodR [[]] (plL nm lo).vs).length = 151 := by rw [plL_all, List.length_map, rng_len, plL_size]
theorem plL_less (nm : Str) (lo : Int) {m : Nat} (hm : m ≤ 151) : whereOf (plL nm lo) (.bin "less" (.name nm) (.num (lo + (m : Int)))) = (List.range m).map fun k : Nat => (k : Int) := by
  rw [where_congr (f := fun k => decide (k < m)), plL_len, range_lt 151 m hm]
  intro k hk
  rw [plL_len] at hk
  unfold isAt
  rw [plL_at nm lo hk]
  show It.tr (envR [(nm, lo, lo + 150)] [lo + (k : Int)]) (.bin "less" (.name nm) (.num (lo + (m : Int)))) = _
  rw [It.tr, if_pos rfl, It.ev, It.ev]
  have e2 : envR [(nm, lo, lo + 150)] [lo + (k : Int)] nm = lo + (k : Int) := by
    unfold envR
    show (match valV (putK [] (Sum.inr nm) (.int (lo + (k : Int)))) (Sum.inr nm) with | some (.int m) => m | _ => 0) = _
    rw [valV_put, if_pos rfl]
  rw [e2]
  exact decide_eq_decide.mpr (by omega)
theorem small_bits {n : Int} (h : n.natAbs ≤ 1001) : Builtin.Int.intBits n ≤ 1048577 := intBits_le_iff.mpr (Nat.lt_of_le_of_lt h (Nat.lt_of_lt_of_le (by decide : 1001 < 2 ^ 10) (two_mono (by decide))))
theorem ints_alike {H : Hp} {a b : Addr} {l : List Int} (ha : H a = some (.tup (l.map V.int))) (hb : H b = some (.tup (l.map V.int))) (hl : l.length ≤ 1000) : Alike 2 H (.ref a) (.ref b) := by
  refine .t ha hb ⟨rfl, fun k x y hx hy => ?_⟩ (by rw [List.length_map]; exact hl)
  rw [hx] at hy
  cases hy
  rw [List.getElem?_map] at hx
  obtain ⟨i, _, rfl⟩ := Option.map_eq_some_iff.mp hx
  exact .i
theorem cnt_one (r : Row) : cnt [r] = rsize r := Nat.mul_one _
section
variable {P : Program} {w : World} {K : PySem.W.Frag} {mg : Str → Option Value} {base : Heap}
/-! ### _law_where -/
theorem ok_law_where (hN : base.NoSeer) (hp : P.given.tree = none) (T : Txt K mg) : FnOk P w K mg base CX0 52 T.a_law_where T.d_law_where P_law_where spWhere := by
  have G_law_rows := ok_law_rows (P := P) (w := w) (base := base) T
  have G_law_named := ok_law_named (P := P) (w := w) (base := base) T
  obtain ⟨_, G_law_truth⟩ := rd_lvalues (P := P) (w := w) hN hp T 13
  refine T.F_law_where.ok sc_law_where (fun vs H Q E h => ?_) (fun cdv A outer s H vs Q E hr h => ?_)
  · obtain ⟨v, cv, p, B, t, rfl, _⟩ := h
    rfl
  obtain ⟨v, cv, p, B, t, rfl, hpl, hV, hC, hcv, q⟩ := h
  obtain ⟨pa, v1, v2, v3, vl, st, sx, rfl, e0, ⟨t1, x1, rfl, h1, g1⟩, hrest⟩ := hpl
  have hlv := hV.lv
  refine ⟨_, (pss_cons (ps_set (i := 2) sc_law_where.nd rfl (Or.inl rfl) (pe_lst pa_nil))
    (pss_cons (ps_set (i := 3) sc_law_where.nd rfl (Or.inl rfl) (pe_call G_law_rows (hr.mono (by omega)) (by rfl) T.m_law_rows T.F_law_rows.kp T.b_law_rows .nil pass0 (pa_cons (pe_ix ix_tup (pv 0) pe_int (fun _ _ => rfl)) pa_nil)))
    (pss_cons (ps_for  PassesOwn.never rfl (pi_range1 (by rfl) T.z_range (pa_cons (pe_callB call_len_seq (by rfl) T.z_len PySem.boot_len (pa_cons (pv 3) pa_nil)) pa_nil)) (pg_name (i := 4) sc_law_where.nd rfl (Or.inl rfl))
    (pss_one (ps_if (pt_val (pe_call G_law_truth (hr.mono (by omega)) (by rfl) T.m_law_truth T.F_law_truth.kp T.b_law_truth .nil pass0 (pa_cons (pv 1) (pa_cons (pe_call G_law_named (hr.mono (by omega)) (by rfl) T.m_law_named T.F_law_named.kp T.b_law_named .nil pass0 (pa_cons (pe_ix ix_tup (pv 0) pe_int (fun _ _ => rfl)) (pa_cons (pe_ix ix_list (pv 3) (pv 4) (fun _ _ => rfl)) pa_nil))) pa_nil))))
    (pss_one (ps_expr (pe_bm PySem.F.plainAttrs_list PySem.F.slot_list_append PySem.F.type_list_append mt_append (pv 2) (pa_cons (pv 4) pa_nil))))
    pss_nil)))
    (pss_one (ps_ret (pe_callTy call_tuple_of (by rfl) T.z_tuple (by decide +kernel) (pa_cons (pv 2) pa_nil))))))), ?_⟩
  refine ⟨Nat.le_of_ble_eq_true rfl, fun fp hfp => ?_⟩
  have s1 := same_new hfp (.lst [])
  refine ⟨_, rfl, pa, _, 0, _, rfl, rfl, sqt (s1 _ _ e0), atI0, _, p.vs, rfl, ⟨t1, x1, rfl, s1 _ _ h1, g1.mono (Tp.same s1)⟩, hV.le, hV.cn, by omega, fun lq ys H2 s2 hlq e2 hR => ?_⟩
  have nlf : lq ≠ fp := fun e => by rw [e, upd_same] at hlq; cases hlq
  have s12 := s1.trans s2
  have yl : ys.length ≤ 1000 := by
    rw [hR.1, prod_len, List.length_singleton, Nat.one_mul]
    exact hV.cn
  refine ⟨_, rfl, lq, _, rfl, .inl (sqd e2), _, rfl, by omega, by omega, for_range (lo := 0) (n := ((ys.length : Nat) : Int).toNat) (fun (j : Nat) (σ : L2.St) (H' : Hp) => ∃ (y4 : Option V), σ = [some (.ref pa), some cv, some (.ref fp), some (.ref lq), y4] ∧ Same H H' ∧ H' lq = some (.lst ys) ∧ RowsL H' ys (prodR [[]] p.vs) ∧ H' fp = some (.lst ((whereTo p t j).map V.int))) ?_ ?_ ?_⟩
  · exact ⟨none, rfl, s12, e2, hR, s2 _ _ upd_same⟩
  · rintro j σ H3 hj ⟨y4, rfl, s13, el3, hR3, e3⟩
    have hjl : j < ys.length := by omega
    obtain ⟨xt, s, hs, ex, hxt⟩ := hR3.get (List.getElem?_eq_getElem hjl)
    have hI : InR p.vs s := prod_in0 (List.mem_of_getElem? hs)
    have e00 : (0 : Int) + (j : Int) = (j : Int) := Int.zero_add _
    have atj : atI ys (0 + (j : Int)) = some (V.ref xt) := by
      rw [e00]
      exact atI_nat (by rw [List.getElem?_eq_getElem hjl, ex])
    refine ⟨_, rfl, _, rfl, pa, _, 0, _, rfl, rfl, sqt (s13 _ _ e0), atI0, _, rfl, _, rfl, lq, _, _, _, rfl, rfl, sqd el3, atj, .ref t1, p.vs, xt, s, rfl, ⟨t1, x1, rfl, s13 _ _ h1, g1.mono (Tp.same s13)⟩, hxt, hI.len, by omega, fun D2 H4 s4 eD => ?_⟩
    have s14 := s13.trans s4
    refine ⟨cv, D2, t, _, B, 1048577, _, rfl, hC.ev hV hI eD (hcv.mono (Tp.same s14)), fun H5 s5 => ?_⟩
    have s35 := s4.trans s5
    have e5 := s35 _ _ e3
    have hat : isAt p t j = t.tr (envR p.vs s) := by
      unfold isAt
      rw [hs]
    refine ⟨_, rfl, ?_⟩
    have hsn := where_snoc p t j
    rw [← hat]
    show if isAt p t j = true then _ else _
    have t5 := fun o => tp_put (o := o) e5
    cases hb : isAt p t j with
    | true =>
      rw [hb, if_pos rfl] at hsn
      refine iteT ⟨_, rfl, .inl ⟨rfl, _, sqd e5⟩, _, rfl, fp, _, _, rfl, rfl, e5, ?_, _, rfl, same_put (s13.trans s35) hfp, by rw [upd_ne nlf]; exact s35 _ _ el3, (hR3.mono (Tp.same s35)).mono (t5 _), ?_⟩
      · have := where_len p t j
        rw [List.length_map]
        exact big' (by omega)
      · rw [upd_same, hsn, List.map_append, e00]
        rfl
    | false =>
      rw [hb, if_neg Bool.false_ne_true, List.append_nil] at hsn
      exact iteF ⟨_, rfl, s13.trans s35, s35 _ _ el3, hR3.mono (Tp.same s35), by rw [hsn]; exact e5⟩
  · rintro σ H3 ⟨y4, rfl, s13, el3, hR3, e3⟩
    have en : ((ys.length : Nat) : Int).toNat = (prodR [[]] p.vs).length := by rw [hR.1]; omega
    rw [en] at e3
    exact ⟨_, rfl, fp, _, rfl, .inl ⟨sqd e3, fun tq htq => q tq _ (s13.trans (same_new htq _)) upd_same⟩⟩
/-! ### _law_is_large -/
def spLarge : Sp := fun vs H Q _ => ∃ (d : Addr) (nm : Str), vs = [.ref d, .str nm] ∧ Dr H d ∧ ∀ H', Go d H H' → Q (.bl true) H'
theorem ok_law_is_large (hN : base.NoSeer) (hp : P.given.tree = none) (T : Txt K mg) : FnOk P w K mg base CX0 54 T.a_law_is_large T.d_law_is_large P_law_is_large spLarge := by
  have G_law_take := ok_law_take (P := P) (w := w) (base := base) T
  have Gposition_of := ok_position_of (P := P) (w := w) (base := base) T
  have Gpositions_where := ok_positions_where (P := P) (w := w) hN hp T
  have G_law_same := ok_law_same (P := P) (w := w) (base := base) T 2
  refine T.F_law_is_large.ok sc_law_is_large (fun vs H Q E h => ?_) (fun cdv A outer s H vs Q E hr h => ?_)
  · obtain ⟨d, nm, rfl, _⟩ := h
    rfl
  obtain ⟨d, nm, rfl, hD, q⟩ := h
  refine ⟨_, (pss_cons (ps_set (i := 2) sc_law_is_large.nd rfl (Or.inl rfl) (pe_op op_sub (pe_call G_law_take (hr.mono (by omega)) (by rfl) T.m_law_take T.F_law_take.kp T.b_law_take .nil pass0 (pa_cons (pv 0) (pa_cons pe_int pa_nil))) pe_int))
    (pss_cons (ps_set (i := 3) sc_law_is_large.nd rfl (Or.inl rfl) (pe_tup (pa_cons (pe_tup (pa_cons (pe_tup (pa_cons (pv 1) (pa_cons (pv 2) (pa_cons (pe_op op_add (pv 2) pe_int) pa_nil)))) pa_nil)) (pa_cons (pe_tup pa_nil) (pa_cons (pe_tup pa_nil) (pa_cons (pe_tup (pa_cons (pe_tup (pa_cons pe_str (pa_cons (pv 1) pa_nil))) pa_nil)) (pa_cons (pe_tup (pa_cons pe_str pa_nil)) pa_nil)))))))
    (pss_cons (ps_set (i := 4) sc_law_is_large.nd rfl (Or.inl rfl) (pe_call G_law_take (hr.mono (by omega)) (by rfl) T.m_law_take T.F_law_take.kp T.b_law_take .nil pass0 (pa_cons (pv 0) (pa_cons pe_int pa_nil))))
    (pss_cons (ps_if (pt_not (pt_val (pe_call G_law_same (hr.mono (by omega)) (by rfl) T.m_law_same T.F_law_same.kp T.b_law_same .nil pass0 (pa_cons (pe_call Gposition_of (hr.mono (by omega)) (by rfl) T.mposition_of T.Fposition_of.kp T.bposition_of .nil pass0 (pa_cons (pv 3) (pa_cons (pe_tup (pa_cons (pe_op op_add (pv 2) pe_int) pa_nil)) pa_nil))) (pa_cons pe_int pa_nil)))))
    (pss_one (ps_ret pe_bl))
    pss_nil)
    (pss_one (ps_ret (pe_call G_law_same (hr.mono (by omega)) (by rfl) T.m_law_same T.F_law_same.kp T.b_law_same .nil pass0 (pa_cons (pe_call Gpositions_where (hr.mono (by omega)) (by rfl) T.mpositions_where T.Fpositions_where.kp T.bpositions_where .nil pass0 (pa_cons (pv 3) (pa_cons (pe_tup (pa_cons pe_str (pa_cons (pe_tup (pa_cons pe_str (pa_cons (pv 1) pa_nil))) (pa_cons (pe_tup (pa_cons pe_str (pa_cons (pe_op op_add (pv 2) (pv 4)) pa_nil))) pa_nil)))) pa_nil))) (pa_cons (pe_callTy call_tuple_of (by rfl) T.z_tuple (by decide +kernel) (pa_cons (pe_lc (own := [("k", 5)]) (g := (gName 5)) (tt := tYes) rfl sc_law_is_large.nd (pi_range1 (by rfl) T.z_range (pa_cons (pv 4) pa_nil)) (blkOk_by (N := N_law_is_large) (sc := defScope s_law_is_large) (by decide +kernel)) (fun _ _ _ _ _ => (pg_name (i := 5) sc_law_is_large.nd rfl (Or.inl rfl))) (fun _ _ _ _ _ => pts_nil) (fun _ _ _ _ _ => (pv 5))) pa_nil)) pa_nil))))))))), ?_⟩
  refine ⟨_, rfl, d, _, rfl, hD, by decide, fun u H1 g1 u0 u1 => ?_⟩
  refine ⟨_, _, rfl, rfl, ?_⟩
  refine ⟨_, rfl, _, rfl, _, rfl, _, _, rfl, rfl, Nat.le_of_ble_eq_true rfl, fun w1 hw1 => ⟨Nat.le_of_ble_eq_true rfl, fun w2 hw2 => ⟨Nat.le_of_ble_eq_true rfl, fun w3 hw3 => ⟨Nat.le_of_ble_eq_true rfl, fun w4 hw4 => ⟨_, rfl, Nat.le_of_ble_eq_true rfl, fun w5 hw5 => ⟨Nat.le_of_ble_eq_true rfl, fun w6 hw6 => ⟨Nat.le_of_ble_eq_true rfl, fun w7 hw7 => ⟨Nat.le_of_ble_eq_true rfl, fun wp hwp => ?_⟩⟩⟩⟩⟩⟩⟩⟩
  obtain ⟨W1, f1, r1, k1⟩ := newH hw1 (.tup [.str nm, .int (u - 200), .int (u - 200 + 150)])
  rw [show upd H1 w1 _ = W1 from f1] at hw2 hw3 hw4 hw5 hw6 hw7 hwp ⊢
  obtain ⟨W2, f2, r2, k2⟩ := newH hw2 (.tup [.ref w1])
  rw [show upd W1 w2 _ = W2 from f2] at hw3 hw4 hw5 hw6 hw7 hwp ⊢
  obtain ⟨W3, f3, r3, k3⟩ := newH hw3 (.tup [])
  rw [show upd W2 w3 _ = W3 from f3] at hw4 hw5 hw6 hw7 hwp ⊢
  obtain ⟨W4, f4, r4, k4⟩ := newH hw4 (.tup [])
  rw [show upd W3 w4 _ = W4 from f4] at hw5 hw6 hw7 hwp ⊢
  obtain ⟨W5, f5, r5, k5⟩ := newH hw5 (.tup [.str "name", .str nm])
  rw [show upd W4 w5 _ = W5 from f5] at hw6 hw7 hwp ⊢
  obtain ⟨W6, f6, r6, k6⟩ := newH hw6 (.tup [.ref w5])
  rw [show upd W5 w6 _ = W6 from f6] at hw7 hwp ⊢
  obtain ⟨W7, f7, r7, k7⟩ := newH hw7 (.tup [.str "true"])
  rw [show upd W6 w7 _ = W7 from f7] at hwp ⊢
  obtain ⟨W8, f8, r8, k8⟩ := newH hwp (.tup [.ref w2, .ref w3, .ref w4, .ref w6, .ref w7])
  rw [show upd W7 wp _ = W8 from f8]
  have r18 := r2.trans (r3.trans (r4.trans (r5.trans (r6.trans (r7.trans r8)))))
  have hpl : PlIn W8 (plL nm (u - 200)) (.ref wp) := ⟨wp, .ref w2, .ref w3, .ref w4, .ref w7, w6, [.ref w5], rfl, k8, ⟨w2, [.ref w1], rfl, (r3.trans (r4.trans (r5.trans (r6.trans (r7.trans r8))))) _ _ k2, rows0.snoc ⟨w1, rfl, r18 _ _ k1⟩⟩,
    ⟨w3, [], rfl, (r4.trans (r5.trans (r6.trans (r7.trans r8)))) _ _ k3, rows0⟩, ⟨w4, [], rfl, (r5.trans (r6.trans (r7.trans r8))) _ _ k4, rows0⟩, (r7.trans r8) _ _ k6, .cons (.name ((r6.trans (r7.trans r8)) _ _ k5)) kids0, .lit (b := true) (r8 _ _ k7)⟩
  have hle : ∀ r ∈ (plL nm (u - 200)).vs, r.2.1 ≤ r.2.2 := fun r hr => by
    rw [List.mem_singleton.mp hr]
    show u - 200 ≤ u - 200 + 150
    omega
  have hcn : cnt (plL nm (u - 200)).vs ≤ 1000 := by
    show cnt [(nm, u - 200, u - 200 + 150)] ≤ 1000
    rw [cnt_one, plL_size]
    decide
  have hV : VaF (plL nm (u - 200)) 1000 := ⟨hle, fun r hr => by
    rw [List.mem_singleton.mp hr]
    exact ⟨by show (u - 200).natAbs ≤ 1001; omega, by show (u - 200 + 150).natAbs ≤ 1001; omega⟩, fun n hn => small_bits hn, hcn, Nat.le_of_ble_eq_true rfl⟩
  have g8 := g1.trans (Go.same g1.dr (r1.trans r18))
  -- many
  refine ⟨_, rfl, d, _, rfl, g8.dr, by decide, fun m H2 g2 m0 m1 => ?_⟩
  have hplM := hpl.mono (g2.tp g8.dr)
  refine ⟨_, rfl, _, rfl, _, _, rfl, rfl, Nat.le_of_ble_eq_true rfl, fun ps hps => ?_⟩
  have s3 := same_new hps (.tup [.int (u - 200 + 150)])
  have g23 := g2.trans (Go.same g2.dr s3)
  have hI : InR (plL nm (u - 200)).vs [u - 200 + 150] := ⟨u - 200 + 150, [], rfl, by show u - 200 ≤ u - 200 + 150; omega, Int.le_refl _, rfl⟩
  refine ⟨.ref wp, plL nm (u - 200), ps, [u - 200 + 150], rfl, hplM.mono (Tp.same s3), upd_same, hI, hle, hcn, fun k H4 s4 hk => ?_⟩
  have hk2 : k = 150 := sorted_at (all_sorted _) hk (plL_at nm (u - 200) (k := 150) (by decide))
  subst hk2
  refine ⟨_, _, rfl, .i, true, rfl, ?_⟩
  refine iteF ?_
  have g24 := g23.trans (Go.same g23.dr s4)
  refine ⟨_, rfl, _, rfl, Nat.le_of_ble_eq_true rfl, fun n1 hn1 => ⟨_, rfl, _, rfl, _, _, rfl, rfl, Nat.le_of_ble_eq_true rfl, fun n2 hn2 => ⟨Nat.le_of_ble_eq_true rfl, fun n3 hn3 => ?_⟩⟩⟩
  obtain ⟨J1, j1, z1, l1⟩ := newH hn1 (.tup [.str "name", .str nm])
  rw [show upd H4 n1 _ = J1 from j1] at hn2 hn3 ⊢
  obtain ⟨J2, j2, z2, l2⟩ := newH hn2 (.tup [.str "number", .int (u - 200 + m)])
  rw [show upd J1 n2 _ = J2 from j2] at hn3 ⊢
  obtain ⟨J3, j3, z3, l3⟩ := newH hn3 (.tup [.str "less", .ref n1, .ref n2])
  rw [show upd J2 n3 _ = J3 from j3]
  have z13 := z1.trans (z2.trans z3)
  have em : m = ((m.toNat : Nat) : Int) := by omega
  have hm151 : m.toNat ≤ 151 := by omega
  have hnm : nm ∈ (plL nm (u - 200)).vs.map (·.1) := List.mem_cons_self
  have hC : CoF (plL nm (u - 200)) 1000 (.bin "less" (.name nm) (.num (u - 200 + m))) := ⟨.cmp (by decide +kernel) (.name hnm) (.num (by omega)), by simp only [It.dep]; decide, by simp only [It.mx]; decide⟩
  refine ⟨.ref wp, .ref n3, plL nm (u - 200), 1000, _, rfl, (hplM.mono (Tp.same (s3.trans s4))).mono (Tp.same z13), hV, hC, .bin l3 (.name ((z2.trans z3) _ _ l1)) (.num (z3 _ _ l2)), fun q1 H5 s5 e5 => ?_⟩
  refine ⟨_, rfl, _, rfl, by omega, by omega, fun D hD2 => ?_⟩
  refine lc_range (lo := 0) (n := m.toNat) (fun (k : Nat) (H' : Hp) => Same H5 H' ∧ H' D = some (.lst (((List.range k).map fun k : Nat => (k : Int)).map V.int))) ?_ ?_ ?_
  · exact ⟨same_new hD2 _, by rw [upd_same]; rfl⟩
  · rintro k H' hk ⟨sk, ek⟩
    refine ⟨rfl, yes_if ?_⟩
    refine ⟨_, rfl, _, ek, ?_, same_put sk hD2, ?_⟩
    · rw [List.length_map, List.length_map, List.length_range]
      exact big' (by omega)
    · rw [upd_same, List.range_succ, List.map_append, List.map_append, Int.zero_add]
      rfl
  · rintro H6 ⟨s6, e6⟩
    refine ⟨D, _, rfl, .inl ⟨sqd e6, fun tq htq => ?_⟩⟩
    have s7 := same_new htq (.tup (((List.range m.toNat).map fun k : Nat => (k : Int)).map V.int))
    have hw := plL_less nm (u - 200) hm151
    rw [← em] at hw
    rw [hw] at e5
    refine ⟨_, _, rfl, ints_alike ((s6.trans s7) _ _ e5) upd_same (by rw [List.length_map, List.length_range]; omega), ?_⟩
    exact q _ (g8.trans (g24.trans (Go.same g24.dr (z13.trans (s5.trans (s6.trans s7))))))
end
end NL

set_option maxHeartbeats 4000000
namespace NL
open PySem PySem.Spec PyProof.Rows L2
def spLaw (K : PySem.W.Frag) : Sp := fun vs H Q _ => ∃ (a : Addr) (ns : List Int), vs = [.ref a] ∧ SqL K H a (ns.map V.int) ∧ ns.length ≤ 63 ∧ (∀ z ∈ ns, Builtin.Int.intBits z ≤ 1048576) ∧ ∀ H', Q (.bl true) H'
/-- a bound that every number of the script keeps with room for six more, whose successor has one bit more -/
theorem boundR (K : Nat) (hK : 7 ≤ K) : ∃ B : Nat, 100 ≤ B ∧ (∀ n : Int, n.natAbs ≤ B + 1 → Builtin.Int.intBits n ≤ K + 1) ∧ ∀ n : Int, Builtin.Int.intBits n ≤ K → n.natAbs + 6 ≤ B := by
  have h7 : 2 ^ 7 ≤ 2 ^ K := Nat.pow_le_pow_right (by decide) hK
  have e7 : 2 ^ 7 = 128 := rfl
  refine ⟨2 ^ K + 6, by omega, fun n h => intBits_le_iff.mpr ?_, fun n h => ?_⟩
  · rw [Nat.pow_succ]; omega
  · have := intBits_le_iff.mp h; omega
/-! ### tuples of ints as data -/
theorem dp_intsR {K : PySem.W.Frag} {H : Hp} : ∀ l : List Int, DpAll K H (l.map V.int) (l.map PyData.int)
  | [] => .nil
  | a :: r => .cons (.int a) (dp_intsR r)
theorem lay_intsR : ∀ l : List Int, PyData.canLayAll0 (l.map PyData.int) = true ∧ PyData.depthAll (l.map PyData.int) = 0
  | [] => ⟨rfl, rfl⟩
  | a :: r => by
    obtain ⟨h1, h2⟩ := lay_intsR r
    refine ⟨?_, ?_⟩
    · show (true && PyData.canLayAll0 (r.map PyData.int)) = true
      rw [h1]
      rfl
    · show max 0 (PyData.depthAll (r.map PyData.int)) = 0
      rw [h2]
      rfl
theorem shapedI (l : List Int) : SeqAt.shaped (encR l) = true := by
  obtain ⟨h1, h2⟩ := lay_intsR l
  show (PyData.canLayAll0 (l.map PyData.int) && decide (PyData.depthAll (l.map PyData.int) + 1 ≤ 64)) = true
  rw [h1, h2]
  rfl
theorem eqvI (l : List Int) : PyData.eqv (encR l) (encR l) = true := PySem.W.eqv_refl_alike _ (by
  show PySem.W.alike (.tuple _) (.tuple _) = true
  simp only [PySem.W.alike]
  exact PySem.W.alike_ints l l)
theorem dp_tupI {K : PySem.W.Frag} {H : Hp} {a : Addr} {l : List Int} (e : H a = some (.tup (l.map V.int))) : Dp K H (.ref a) (encR l) := .tup (sqt e) (dp_intsR l)
theorem three {α : Type} : ∀ {l : List α}, l.length = 3 → ∃ a b c, l = [a, b, c]
  | [a, b, c], _ => ⟨a, b, c, rfl⟩
  | [], h => by simp at h
  | [_], h => by simp at h
  | [_, _], h => by simp at h
  | _ :: _ :: _ :: _ :: _, h => by simp at h
theorem flat_intsW (o : List Int) : (o.map V.int).all flatV = true := by
  rw [List.all_map]
  exact List.all_eq_true.mpr fun _ _ => rfl
theorem in_t {x : Int} {l : List Int} (c : (if false = true then !inV (V.int x) (l.map V.int) else inV (V.int x) (l.map V.int)) = true) : decide (x ∈ l) = true := by
  rw [if_neg Bool.false_ne_true, int_inV] at c
  exact c
theorem in_f {x : Int} {l : List Int} (c : ¬ (if false = true then !inV (V.int x) (l.map V.int) else inV (V.int x) (l.map V.int)) = true) : decide (x ∈ l) = false := by
  rw [if_neg Bool.false_ne_true, int_inV] at c
  cases h : decide (x ∈ l) with
  | true => exact absurd h c
  | false => rfl
theorem notin_t {x : Int} {l : List Int} (c : (if true = true then !inV (V.int x) (l.map V.int) else inV (V.int x) (l.map V.int)) = true) : decide (x ∈ l) = false := by
  rw [if_pos rfl, int_inV] at c
  cases h : decide (x ∈ l) with
  | true => rw [h] at c; cases c
  | false => rfl
theorem notin_f {x : Int} {l : List Int} (c : ¬ (if true = true then !inV (V.int x) (l.map V.int) else inV (V.int x) (l.map V.int)) = true) : decide (x ∈ l) = true := by
  rw [if_pos rfl, int_inV] at c
  cases h : decide (x ∈ l) with
  | true => rfl
  | false => rw [h] at c; exact absurd rfl c
theorem in_dec {p : Pl} {t : It} {k : Nat} (hk : k < (prodR [[]] p.vs).length) : decide ((k : Int) ∈ whereOf p t) = isAt p t k := by
  rw [← int_inV]
  exact at_in hk
theorem both_eq (p : Pl) (t0 t1 t2 : It) : (whereOf p t0).filter (fun x => decide (x ∈ whereOf p t1) && decide (x ∈ whereOf p t2)) = whereOf p (.grp "all" [t0, t1, t2]) := by
  rw [where_congr (p := p) (t := .grp "all" [t0, t1, t2]) (f := fun k => (decide ((k : Int) ∈ whereOf p t1) && decide ((k : Int) ∈ whereOf p t2)) && isAt p t0 k) (fun k hk => by
    rw [at_all hk, in_dec hk, in_dec hk, Bool.and_comm]), where_map p t0, List.filter_map, List.filter_filter]
  rfl
theorem some_eq (p : Pl) (t0 t1 t2 : It) : ((List.range (prodR [[]] p.vs).length).filter fun k : Nat => decide ((k : Int) ∈ whereOf p t0) || (decide ((k : Int) ∈ whereOf p t1) || decide ((k : Int) ∈ whereOf p t2))).map (fun k : Nat => (k : Int)) = whereOf p (.grp "any" [t0, t1, t2]) := by
  rw [where_congr (p := p) (t := .grp "any" [t0, t1, t2]) (fun k hk => by
    rw [at_any hk, ← in_dec (t := t0) hk, ← in_dec (t := t1) hk, ← in_dec (t := t2) hk])]
theorem rest_eq (p : Pl) (t0 : It) : ((List.range (prodR [[]] p.vs).length).filter fun k : Nat => !decide ((k : Int) ∈ whereOf p t0)).map (fun k : Nat => (k : Int)) = whereOf p (.un "not" t0) := by
  rw [where_congr (p := p) (t := .un "not" t0) (fun k hk => by rw [at_not hk, ← in_dec (t := t0) hk])]
theorem none_eq (p : Pl) : whereOf p (.lit false) = [] := by
  rw [where_congr (p := p) (t := .lit false) (f := fun _ => false) (fun k hk => at_lit hk)]
  simp
theorem every_eq (p : Pl) : whereOf p (.lit true) = (List.range (prodR [[]] p.vs).length).map fun k : Nat => (k : Int) := by
  rw [where_congr (p := p) (t := .lit true) (f := fun _ => true) (fun k hk => at_lit hk)]
  congr 1
  simp
section
variable {P : Program} {w : World} {K : PySem.W.Frag} {mg : Str → Option Value} {base : Heap}
theorem ok_law (hN : base.NoSeer) (hp : P.given.tree = none) (T : Txt K mg) : FnOk P w K mg base CX0 60 T.alaw T.dlaw Plaw (spLaw K) := by
  obtain ⟨B, hB, hBn, hBc⟩ := boundR 1048576 (by decide)
  have G_law_draws := ok_law_draws (P := P) (w := w) (base := base) T
  have G_law_cell := ok_law_cell (P := P) (w := w) (base := base) T
  have G_law_take := ok_law_take (P := P) (w := w) (base := base) T
  have G_law_plant := ok_law_plant (P := P) (w := w) (base := base) hB T
  have G_law_rows := ok_law_rows (P := P) (w := w) (base := base) T
  have G_law_around := ok_law_around (P := P) (w := w) (base := base) T
  have G_law_depth := ok_law_depth (P := P) (w := w) (base := base) T 12
  have G_law_is_test := ok_law_is_test (P := P) (w := w) (base := base) T
  obtain ⟨_, G_law_test⟩ := ok_ET (P := P) (w := w) (base := base) hB T 3
  have Gposition_of := ok_position_of (P := P) (w := w) (base := base) T
  have Gpositions_where := ok_positions_where (P := P) (w := w) hN hp T
  have G_law_where := ok_law_where (P := P) (w := w) hN hp T
  have G_law_is_large := ok_law_is_large (P := P) (w := w) hN hp T
  have G_law_same := ok_law_same (P := P) (w := w) (base := base) T 2
  refine T.Flaw.ok sclaw (fun vs H Q E h => ?_) (fun cdv A outer s H vs Q E hr h => ?_)
  · obtain ⟨a, ns, rfl, _⟩ := h
    rfl
  obtain ⟨a, ns, rfl, hS, hl, hbits, q⟩ := h
  refine ⟨_, (pss_cons (ps_set (i := 1) sclaw.nd rfl (Or.inr rfl) (pe_call G_law_draws (hr.mono (by omega)) (by rfl) T.m_law_draws T.F_law_draws.kp T.b_law_draws .nil pass0 (pa_cons (pv 0) (pa_cons pe_int pa_nil))))
    (pss_cons (ps_set (i := 2) sclaw.nd rfl (Or.inr rfl) (pe_call G_law_cell (hr.mono (by omega)) (by rfl) T.m_law_cell T.F_law_cell.kp T.b_law_cell .nil pass0 (pa_cons (pv 0) (pa_cons (pv 1) pa_nil))))
    (pss_cons (ps_set (i := 3) sclaw.nd rfl (Or.inr rfl) (pe_call G_law_plant (hr.mono (by omega)) (by rfl) T.m_law_plant T.F_law_plant.kp T.b_law_plant .nil pass0 (pa_cons (pv 1) (pa_cons (pv 2) (pa_cons (pe_lst (pa_cons pe_int (pa_cons pe_int (pa_cons pe_int pa_nil)))) pa_nil)))))
    (pss_cons (ps_set (i := 4) sclaw.nd rfl (Or.inr rfl) (pe_lc (own := [("row", 5)]) (g := (gName 5)) (tt := tYes) rfl sclaw.nd (pi_tup (pe_ix ix_tup (pv 3) pe_int (fun _ _ => rfl))) (blkOk_by (N := Nlaw) (sc := defScope slaw) (by decide +kernel)) (fun _ _ _ _ _ => (pg_name (i := 5) sclaw.nd rfl (Or.inl rfl))) (fun _ _ _ _ _ => pts_nil) (fun _ _ _ _ _ => (pe_ix (ix_tupK (K := K) rfl) (pv 5) pe_int (fun _ _ => rfl)))))
    (pss_cons (ps_set (i := 6) sclaw.nd rfl (Or.inl rfl) (pe_call G_law_rows (hr.mono (by omega)) (by rfl) T.m_law_rows T.F_law_rows.kp T.b_law_rows .nil pass0 (pa_cons (pe_ix ix_tup (pv 3) pe_int (fun _ _ => rfl)) pa_nil)))
    (pss_cons (ps_for  PassesOwn.never rfl (pi_range1 (by rfl) T.z_range (pa_cons (pe_callB call_len_seq (by rfl) T.z_len PySem.boot_len (pa_cons (pv 6) pa_nil)) pa_nil)) (pg_name (i := 7) sclaw.nd rfl (Or.inl rfl))
    (pss_one (ps_if (pt_not (pt_val (pe_call G_law_same (hr.mono (by omega)) (by rfl) T.m_law_same T.F_law_same.kp T.b_law_same .nil pass0 (pa_cons (pe_call Gposition_of (hr.mono (by omega)) (by rfl) T.mposition_of T.Fposition_of.kp T.bposition_of .nil pass0 (pa_cons (pv 3) (pa_cons (pe_ix ix_list (pv 6) (pv 7) (fun _ _ => rfl)) pa_nil))) (pa_cons (pv 7) pa_nil)))))
    (pss_one (ps_ret pe_bl))
    pss_nil)))
    (pss_cons (ps_setLc (i := 8) (own := [("k", 7)]) (g := (gName 7)) (tt := tYes) rfl sclaw.nd rfl rfl (sw_true rfl rfl rfl (by decide +kernel)) (pi_range1 (by rfl) T.z_range (pa_cons pe_int pa_nil)) (blkOk_by (N := Nlaw) (sc := defScope slaw) (by decide +kernel)) (fun _ _ _ _ _ => (pg_name (i := 7) sclaw.nd rfl (Or.inl rfl))) (fun _ _ _ _ _ => pts_nil) (fun _ _ _ _ _ => (pe_call G_law_test (hr.mono (by omega)) (by rfl) T.m_law_test T.F_law_test.kp T.b_law_test .nil pass0 (pa_cons (pv 1) (pa_cons (pv 4) (pa_cons (pv 2) (pa_cons (pe_op op_add pe_int (pe_call G_law_take (hr.mono (by omega)) (by rfl) T.m_law_take T.F_law_take.kp T.b_law_take .nil pass0 (pa_cons (pv 1) (pa_cons pe_int pa_nil)))) pa_nil)))))))
    (C8.pss_cut (ps_if (pt_cmpR op_eq (pe_call G_law_take (hr.mono (by omega)) (by rfl) T.m_law_take T.F_law_take.kp T.b_law_take .nil pass0 (pa_cons (pv 1) (pa_cons pe_int pa_nil))) pe_int (nomark _))
    (pss_cons (ps_asg (pe_call G_law_around (hr.mono (by omega)) (by rfl) T.m_law_around T.F_law_around.kp T.b_law_around .nil pass0 (pa_cons (pe_ix ix_list (pv 8) pe_int (fun _ _ => rfl)) (pa_cons (pe_tup (pa_cons pe_str (pa_cons (pe_ix ix_list (pv 4) pe_int (fun _ _ => rfl)) pa_nil))) (pa_cons (pe_op op_sub pe_int (pe_call G_law_depth (hr.mono (by omega)) (by rfl) T.m_law_depth T.F_law_depth.kp T.b_law_depth .nil pass0 (pa_cons (pe_ix ix_list (pv 8) pe_int (fun _ _ => rfl)) pa_nil))) (pa_cons (pe_call G_law_take (hr.mono (by omega)) (by rfl) T.m_law_take T.F_law_take.kp T.b_law_take .nil pass0 (pa_cons (pv 1) (pa_cons pe_int pa_nil))) pa_nil))))) (pg_sub (pv 8) pe_int set_list))
    (pss_one (ps_if (pt_not (pt_val (pe_call G_law_is_test (hr.mono (by omega)) (by rfl) T.m_law_is_test T.F_law_is_test.kp T.b_law_is_test .nil pass0 (pa_cons (pe_ix ix_list (pv 8) pe_int (fun _ _ => rfl)) pa_nil))))
    (pss_one (ps_asg (pe_tup (pa_cons pe_str (pa_cons (pe_ix ix_list (pv 8) pe_int (fun _ _ => rfl)) (pa_cons (pe_tup (pa_cons pe_str (pa_cons pe_int pa_nil))) pa_nil)))) (pg_sub (pv 8) pe_int set_list)))
    pss_nil)))
    pss_nil)
    (pss_cons (ps_set (i := 9) sclaw.nd rfl (Or.inr rfl) (pe_lc (own := [("test", 10)]) (g := (gName 10)) (tt := tYes) rfl sclaw.nd (pi_list (pv 8)) (blkOk_by (N := Nlaw) (sc := defScope slaw) (by decide +kernel)) (fun _ _ _ _ _ => (pg_name (i := 10) sclaw.nd rfl (Or.inl rfl))) (fun _ _ _ _ _ => pts_nil) (fun _ _ _ _ _ => (pe_call Gpositions_where (hr.mono (by omega)) (by rfl) T.mpositions_where T.Fpositions_where.kp T.bpositions_where .nil pass0 (pa_cons (pv 3) (pa_cons (pv 10) pa_nil))))))
    (pss_cons (ps_for  PassesOwn.never rfl (pi_range1 (by rfl) T.z_range (pa_cons pe_int pa_nil)) (pg_name (i := 7) sclaw.nd rfl (Or.inl rfl))
    (pss_one (ps_if (pt_not (pt_val (pe_call G_law_same (hr.mono (by omega)) (by rfl) T.m_law_same T.F_law_same.kp T.b_law_same .nil pass0 (pa_cons (pe_ix ix_list (pv 9) (pv 7) (fun _ _ => rfl)) (pa_cons (pe_call G_law_where (hr.mono (by omega)) (by rfl) T.m_law_where T.F_law_where.kp T.b_law_where .nil pass0 (pa_cons (pv 3) (pa_cons (pe_ix ix_list (pv 8) (pv 7) (fun _ _ => rfl)) pa_nil))) pa_nil)))))
    (pss_one (ps_ret pe_bl))
    pss_nil)))
    (pss_cons (ps_set (i := 11) sclaw.nd rfl (Or.inl rfl) (pe_callTy call_tuple_of (by rfl) T.z_tuple (by decide +kernel) (pa_cons (pe_lc (own := [("k", 7)]) (g := (gName 7)) (tt := _) rfl sclaw.nd (pi_tup (pe_ix ix_list (pv 9) pe_int (fun _ _ => rfl))) (blkOk_by (N := Nlaw) (sc := defScope slaw) (by decide +kernel)) (fun _ _ _ _ _ => (pg_name (i := 7) sclaw.nd rfl (Or.inl rfl))) (fun _ _ _ _ _ => (pts_one (PW.pt (pw_and (pt_cmpR (op_in_seqK (K := K) rfl) (pv 7) (pe_ix (ix_listK (K := K) rfl) (pv 9) pe_int (fun _ _ => rfl)) (by rfl)) (pw_and1 (pt_cmpR (op_in_seqK (K := K) rfl) (pv 7) (pe_ix (ix_listK (K := K) rfl) (pv 9) pe_int (fun _ _ => rfl)) (by rfl))))))) (fun _ _ _ _ _ => (pv 7))) pa_nil)))
    (pss_cons (ps_set (i := 12) sclaw.nd rfl (Or.inl rfl) (pe_callTy call_tuple_of (by rfl) T.z_tuple (by decide +kernel) (pa_cons (pe_lc (own := [("k", 7)]) (g := (gName 7)) (tt := _) rfl sclaw.nd (pi_range1 (by rfl) T.z_range (pa_cons (pe_callB call_len_seq (by rfl) T.z_len PySem.boot_len (pa_cons (pv 6) pa_nil)) pa_nil)) (blkOk_by (N := Nlaw) (sc := defScope slaw) (by decide +kernel)) (fun _ _ _ _ _ => (pg_name (i := 7) sclaw.nd rfl (Or.inl rfl))) (fun _ _ _ _ _ => (pts_one (PW.pt (pw_or (pt_cmpR (op_in_seqK (K := K) rfl) (pv 7) (pe_ix (ix_listK (K := K) rfl) (pv 9) pe_int (fun _ _ => rfl)) (by rfl)) (pw_or (pt_cmpR (op_in_seqK (K := K) rfl) (pv 7) (pe_ix (ix_listK (K := K) rfl) (pv 9) pe_int (fun _ _ => rfl)) (by rfl)) (pw_or1 (pt_cmpR (op_in_seqK (K := K) rfl) (pv 7) (pe_ix (ix_listK (K := K) rfl) (pv 9) pe_int (fun _ _ => rfl)) (by rfl)))))))) (fun _ _ _ _ _ => (pv 7))) pa_nil)))
    (pss_cons (ps_set (i := 13) sclaw.nd rfl (Or.inl rfl) (pe_callTy call_tuple_of (by rfl) T.z_tuple (by decide +kernel) (pa_cons (pe_lc (own := [("k", 7)]) (g := (gName 7)) (tt := _) rfl sclaw.nd (pi_range1 (by rfl) T.z_range (pa_cons (pe_callB call_len_seq (by rfl) T.z_len PySem.boot_len (pa_cons (pv 6) pa_nil)) pa_nil)) (blkOk_by (N := Nlaw) (sc := defScope slaw) (by decide +kernel)) (fun _ _ _ _ _ => (pg_name (i := 7) sclaw.nd rfl (Or.inl rfl))) (fun _ _ _ _ _ => (pts_one (pt_cmpR (op_notIn_seqK (K := K) rfl) (pv 7) (pe_ix (ix_listK (K := K) rfl) (pv 9) pe_int (fun _ _ => rfl)) (by rfl)))) (fun _ _ _ _ _ => (pv 7))) pa_nil)))
    (pss_cons (ps_if (PW.pt (pw_or (pt_cmpR (op_neD hr.units) (pe_call Gpositions_where (hr.mono (by omega)) (by rfl) T.mpositions_where T.Fpositions_where.kp T.bpositions_where .nil pass0 (pa_cons (pv 3) (pa_cons (pe_tup (pa_cons pe_str (pa_cons (pe_callTy call_tuple_of (by rfl) T.z_tuple (by decide +kernel) (pa_cons (pv 8) pa_nil)) pa_nil))) pa_nil))) (pv 11) (nomark _)) (pw_or1 (pt_cmpR (op_neD hr.units) (pe_call Gpositions_where (hr.mono (by omega)) (by rfl) T.mpositions_where T.Fpositions_where.kp T.bpositions_where .nil pass0 (pa_cons (pv 3) (pa_cons (pe_tup (pa_cons pe_str (pa_cons (pe_callTy call_tuple_of (by rfl) T.z_tuple (by decide +kernel) (pa_cons (pv 8) pa_nil)) pa_nil))) pa_nil))) (pv 12) (nomark _)))))
    (pss_one (ps_ret pe_bl))
    pss_nil)
    (pss_cons (ps_if (PW.pt (pw_or (pt_cmpR (op_neD hr.units) (pe_call Gpositions_where (hr.mono (by omega)) (by rfl) T.mpositions_where T.Fpositions_where.kp T.bpositions_where .nil pass0 (pa_cons (pv 3) (pa_cons (pe_tup (pa_cons pe_str (pa_cons (pe_ix ix_list (pv 8) pe_int (fun _ _ => rfl)) pa_nil))) pa_nil))) (pv 13) (nomark _)) (pw_or1 (pt_cmpR (op_neD hr.units) (pe_call Gpositions_where (hr.mono (by omega)) (by rfl) T.mpositions_where T.Fpositions_where.kp T.bpositions_where .nil pass0 (pa_cons (pv 3) (pa_cons (pe_tup (pa_cons pe_str pa_nil)) pa_nil))) (pe_tup pa_nil) (nomark _)))))
    (pss_one (ps_ret pe_bl))
    pss_nil)
    (pss_cons (ps_if (pt_cmpR (op_neD hr.units) (pe_call Gpositions_where (hr.mono (by omega)) (by rfl) T.mpositions_where T.Fpositions_where.kp T.bpositions_where .nil pass0 (pa_cons (pv 3) (pa_cons (pe_tup (pa_cons pe_str pa_nil)) pa_nil))) (pe_callTy call_tuple_of (by rfl) T.z_tuple (by decide +kernel) (pa_cons (pe_lc (own := [("k", 7)]) (g := (gName 7)) (tt := tYes) rfl sclaw.nd (pi_range1 (by rfl) T.z_range (pa_cons (pe_callB call_len_seq (by rfl) T.z_len PySem.boot_len (pa_cons (pv 6) pa_nil)) pa_nil)) (blkOk_by (N := Nlaw) (sc := defScope slaw) (by decide +kernel)) (fun _ _ _ _ _ => (pg_name (i := 7) sclaw.nd rfl (Or.inl rfl))) (fun _ _ _ _ _ => pts_nil) (fun _ _ _ _ _ => (pv 7))) pa_nil)) (nomark _))
    (pss_one (ps_ret pe_bl))
    pss_nil)
    (pss_one (ps_ret (pe_or (pe_cmpR op_gt (pe_call G_law_take (hr.mono (by omega)) (by rfl) T.m_law_take T.F_law_take.kp T.b_law_take .nil pass0 (pa_cons (pv 1) (pa_cons pe_int pa_nil))) pe_int (nomark _)) (pe_one (pe_call G_law_is_large (hr.mono (by omega)) (by rfl) T.m_law_is_large T.F_law_is_large.kp T.b_law_is_large .nil pass0 (pa_cons (pv 1) (pa_cons (pe_ix ix_list (pv 4) pe_int (fun _ _ => rfl)) pa_nil))))))))))))))))))))))), ?_⟩
  refine ⟨_, rfl, a, ns, 850, rfl, hS, hl, by decide, by decide, fun d H1 s1 hd D1 => ?_⟩
  have hk := Keep.old hS hd s1
  refine ⟨_, rfl, _, rfl, a, d, ns, rfl, hk, D1, fun c H2 g2 hc0 => ?_⟩
  have hc : c.natAbs + 6 ≤ B := by
    rcases hc0 with h | h
    · rw [h]; show 6 ≤ B; omega
    · exact hBc c (hbits c h)
  refine ⟨_, rfl, _, rfl, (Nat.le_of_ble_eq_true rfl), fun rp hrp => ?_⟩
  have g3 := fun o => Go.new (o := o) g2.dr hrp
  refine ⟨d, rp, c, 60, 4, 3, rfl, (g3 _).dr, .of (new_ne g2.dr hrp) upd_same, by decide, by decide, by decide, hc, fun v p xs H4 g4 hpl hpg hrm => ?_⟩
  obtain ⟨pa, v1, v2, v3, vl, st, sx, rfl, e0, ⟨tv1, x1, rfl, h1, gr1⟩, hrest⟩ := hpl
  have hpl : PlIn H4 p (.ref pa) := ⟨pa, .ref tv1, v2, v3, vl, st, sx, rfl, e0, ⟨tv1, x1, rfl, h1, gr1⟩, hrest⟩
  have D4 := g4.dr
  have hlv := hpg.lv
  have hcn := hpg.cn
  have le1 : ∀ r ∈ p.vs, r.2.1 ≤ r.2.2 := fun r hr => (hpg.v r hr).1.le
  have hV : VaF p B := ⟨le1, fun r hr => (hpg.v r hr).1.abs, hBn, hcn.1, by omega⟩
  -- the names
  refine ⟨_, rfl, pa, _, 0, _, rfl, rfl, sqt e0, atI0, tv1, rfl, ⟨_, sqt h1⟩, fun nq hnq => ?_⟩
  have nnd := new_ne D4 hnq
  refine lc_tup (K := K) (a := tv1) (xs := x1) (fun (j : Nat) (H' : Hp) => Same H4 H' ∧ H' nq = some (.lst ((p.vs.take j).map fun r => V.str r.1))) ?_ ?_ ?_ ?_
  · exact ⟨same_new hnq _, by rw [upd_same, List.take_zero]; rfl⟩
  · rintro j H' _ ⟨s6, _⟩
    exact sqt (s6 _ _ h1)
  · rintro j x H' hx ⟨s6, e6⟩
    obtain ⟨r, hr1, ⟨q1, rfl, hq⟩, hm⟩ := gr1.get hx
    refine ⟨rfl, yes_if ?_⟩
    refine ⟨_, rfl, q1, _, 0, _, rfl, rfl, sqt (s6 _ _ hq), atI0, _, e6, ?_, same_put s6 hnq, ?_⟩
    · rw [List.length_map, List.length_take]
      exact big' (by omega)
    · rw [upd_same, List.take_add_one, hr1, List.map_append]
      rfl
  rintro H6 ⟨s6, e6⟩
  rw [gr1.1, List.take_length] at e6
  obtain ⟨nms, hnms⟩ : ∃ nms, p.vs.map (·.1) = nms := ⟨_, rfl⟩
  have e6' : H6 nq = some (.lst (nms.map V.str)) := by
    rw [e6, ← hnms, List.map_map]
    rfl
  have g6 := Go.same D4 s6
  have kn : Keep K d H6 nq (nms.map V.str) := .of nnd e6'
  have hn0 : ∃ n0, nms[0]? = some n0 ∧ n0 ∈ nms := by
    cases hvs : p.vs with
    | nil => exact absurd hvs hpg.ne
    | cons r rr =>
      have e : nms[0]? = some r.1 := by rw [← hnms, hvs]; rfl
      exact ⟨r.1, e, List.mem_of_getElem? e⟩
  obtain ⟨n0, hn0, hn0m⟩ := hn0
  have at0 : atI (nms.map V.str) 0 = some (V.str n0) := atI_nat (j := 0) (by rw [List.getElem?_map, hn0]; rfl)
  -- the states
  refine ⟨_, rfl, pa, _, 0, _, rfl, rfl, sqt (s6 _ _ e0), atI0, .ref tv1, p.vs, rfl, ⟨tv1, x1, rfl, s6 _ _ h1, gr1.mono (Tp.same s6)⟩, le1, hcn.1, by omega, fun lq ys H7 s7 hlq e7 hR => ?_⟩
  have nld : lq ≠ d := by
    obtain ⟨zs, hz⟩ := g6.dr
    exact fun e => by rw [e, hz] at hlq; cases hlq
  have D7 : Dr H7 d := by
    obtain ⟨zs, hz⟩ := g6.dr
    exact ⟨zs, s7 _ _ hz⟩
  have kl : Keep K d H7 lq ys := .of nld e7
  have kn7 := kn.go (Go.same g6.dr s7)
  have s47 := s6.trans s7
  have hpl7 := hpl.mono (Tp.same s47)
  have yl : ys.length ≤ 1000 := by
    rw [hR.1, prod_len, List.length_singleton, Nat.one_mul]
    exact hcn.1
  have en : ((ys.length : Nat) : Int).toNat = (prodR [[]] p.vs).length := by rw [hR.1]; omega
  refine ⟨_, rfl, lq, _, rfl, .inl (sqd e7), _, rfl, by omega, by omega, for_range (lo := 0) (n := ((ys.length : Nat) : Int).toNat) (fun (j : Nat) (σ : L2.St) (H' : Hp) => ∃ (y5 y7 : Option V), σ = [some (.ref a), some (.ref d), some (.int c), some (.ref pa), some (.ref nq), y5, some (.ref lq), y7, none, none, none, none, none, none] ∧ Same H7 H') ?_ ?_ ?_⟩
  · exact ⟨_, _, rfl, Same.refl H7⟩
  · rintro j σ H8 hj ⟨y5, y7, rfl, s8⟩
    have hjl : j < ys.length := by omega
    obtain ⟨xt, l, hl, ex, hxt⟩ := hR.get (List.getElem?_eq_getElem hjl)
    have e00 : (0 : Int) + (j : Int) = (j : Int) := Int.zero_add _
    have atj : atI ys (0 + (j : Int)) = some (V.ref xt) := by
      rw [e00]
      exact atI_nat (by rw [List.getElem?_eq_getElem hjl, ex])
    refine ⟨_, rfl, _, rfl, _, rfl, lq, _, _, _, rfl, rfl, sqd (s8 _ _ e7), atj, .ref pa, p, xt, l, rfl, hpl7.mono (Tp.same s8), s8 _ _ hxt, prod_in0 (List.mem_of_getElem? hl), le1, hcn.1, fun k H9 s9 hk => ?_⟩
    have hkj : k = j := sorted_at (all_sorted _) hk hl
    refine ⟨_, rfl, _, _, rfl, by rw [hkj, e00]; exact .i, true, rfl, ?_⟩
    exact iteF ⟨_, _, rfl, s8.trans s9⟩
  rintro σ8 H8 ⟨y5, y7, rfl, s8⟩
  have g8 := Go.same D7 s8
  have kn8 := kn7.go g8
  have kl8 := kl.go g8
  have g48 := (Go.same D4 s47).trans g8
  -- three conditions
  refine ⟨3, rfl, by decide, by decide, fun D2 hD2 => ?_⟩
  have nDd := new_ne g8.dr hD2
  refine lc_range (lo := 0) (n := 3) (fun (j : Nat) (H' : Hp) => ∃ (vs : List V) (ts : List It), Go d H8 H' ∧ H' D2 = some (.lst vs) ∧ Kids H' ts vs ∧ ts.length = j ∧ ∀ t ∈ ts, Okx nms B true t ∧ t.dep ≤ 6) ?_ ?_ ?_
  · exact ⟨[], [], Go.new g8.dr hD2, upd_same, kids0, rfl, fun t h => by cases h⟩
  · rintro j H' hj ⟨vs, ts, g, e, hks, htl, hok⟩
    refine ⟨rfl, yes_if ?_⟩
    refine ⟨_, rfl, _, rfl, _, rfl, _, rfl, d, _, rfl, g.dr, by decide, fun u H9 g9 u0 u1 => ?_⟩
    have gg := g.trans g9
    refine ⟨_, _, rfl, rfl, d, nq, nms, c, 1 + u, rfl, gg.dr, kn8.go gg, by omega, (show (1 : Int) + u ≤ 2 by omega), fun w1 t HA gA ht hto htd hts => ?_⟩
    have eA := gA.fr D2 _ nDd (g9.fr D2 _ nDd e)
    have tA := fun o => tp_put (o := o) eA
    have htd' : t.dep ≤ 6 := htd
    refine ⟨vs, eA, ?_, vs ++ [w1], ts ++ [t], (gg.trans gA).put2 hD2 nDd, upd_same, ((hks.mono ((g9.trans gA).tp g.dr)).mono (tA _)).snoc (ht.mono (tA _)), by rw [List.length_append, htl]; rfl, fun z hz => ?_⟩
    · rw [hks.1, htl]
      exact big' (by omega)
    · rcases List.mem_append.mp hz with h | h
      · exact hok z h
      · rw [List.mem_singleton.mp h]
        exact ⟨hto, htd'⟩
  rintro H9 ⟨vs, ts, g9, e9, hks, htl, hok⟩
  obtain ⟨t0, t1, t2, rfl⟩ := three htl
  obtain ⟨z0, z1, z2, rfl⟩ := three (l := vs) (by rw [hks.1]; rfl)
  have i0 : ItemIn H9 t0 z0 := hks.2 0 t0 z0 rfl rfl
  have i1 : ItemIn H9 t1 z1 := hks.2 1 t1 z1 rfl rfl
  have i2 : ItemIn H9 t2 z2 := hks.2 2 t2 z2 rfl rfl
  have o0 := hok t0 (by simp)
  have o1 := hok t1 (by simp)
  have o2 := hok t2 (by simp)
  have mx6 : ∀ t : It, t.dep ≤ 6 → t.mx ≤ 32 := fun t h => by
    have h1 := mx_dep t
    have h2 : 2 ^ t.dep ≤ 2 ^ 6 := two_mono h
    have e64 : 2 ^ 6 = 64 := rfl
    omega
  have m0 := mx6 t0 o0.2
  have m1 := mx6 t1 o1.2
  have m2 := mx6 t2 o2.2
  have dp0 := dep_pos t0
  -- the first with something around it
  refine ⟨fun σ H' => ∃ (y5 y7 : Option V) (w0 : V) (r0 : It), σ = [some (.ref a), some (.ref d), some (.int c), some (.ref pa), some (.ref nq), y5, some (.ref lq), y7, some (.ref D2), none, none, none, none, none] ∧ Go d H8 H' ∧ H' D2 = some (.lst [w0, z1, z2]) ∧ ItemIn H' r0 w0 ∧ ItemIn H' t1 z1 ∧ ItemIn H' t2 z2 ∧ Okx nms B true r0 ∧ r0.dep ≤ 11 ∧ r0.mx ≤ 90, ?_, ?_⟩
  · refine ⟨_, rfl, d, _, rfl, g9.dr, by decide, fun u HA gA u0 u1 => ?_⟩
    refine ⟨rfl, _, rfl, ?_⟩
    have eA := gA.fr D2 _ nDd e9
    have i0A := i0.go gA g9.dr
    have i1A := i1.go gA g9.dr
    have i2A := i2.go gA g9.dr
    have g8A := g9.trans gA
    refine ite2 (fun cu => ?_) (fun cu => ?_)
    · refine ⟨_, rfl, D2, _, 0, _, rfl, rfl, sqd eA, atI0, _, rfl, nq, _, 0, _, rfl, rfl, (kn8.go g8A).now, at0, Nat.le_of_ble_eq_true rfl, fun tn htn => ?_⟩
      obtain ⟨HB, eB, sB, kB⟩ := newH htn (.tup [.str "name", .str n0])
      rw [eB]
      have gAB := Go.same g8A.dr sB
      have e2B := sB _ _ eA
      refine ⟨_, rfl, D2, _, 0, _, rfl, rfl, sqd e2B, atI0, z0, t0, nms, B, true, rfl, i0A.mono (Tp.same sB), o0.1, by omega, fun HC sC => ?_⟩
      have gAC := gAB.trans (Go.same gAB.dr sC)
      refine ⟨_, _, rfl, rfl, _, rfl, d, _, rfl, gAC.dr, by decide, fun t HD gD q0 q1 => ?_⟩
      have gAD := gAC.trans gD
      have kBD := gD.tup gAC.dr (sC _ _ kB)
      refine ⟨z0, .ref tn, t0, .name n0, nms, B, true, 10 - (t0.dep : Int), t, rfl, i0A.go gAD g8A.dr, o0.1, .name kBD, .name hn0m, by rw [It.dep], by rw [It.mx], hB, by omega, by omega, fun u' i' b' HE sE hi' ho' hd' hm' => ?_⟩
      have gAE := gAD.trans (Go.same gAD.dr sE)
      have hdep : i'.dep = 10 := by omega
      have hmx : i'.mx ≤ 77 := by omega
      have e2E := gAE.fr D2 _ nDd eA
      have tE := fun o => tp_put (o := o) e2E
      refine ⟨_, rfl, D2, _, 0, 0, rfl, rfl, e2E, rfl, ?_⟩
      obtain ⟨HF, eF⟩ : ∃ HF, upd HE D2 (.lst ([z0, z1, z2].set 0 u')) = HF := ⟨_, rfl⟩
      have kF : HF D2 = some (.lst [u', z1, z2]) := by rw [← eF, upd_same]; rfl
      have tEF : Tp HE HF := by rw [← eF]; exact tE _
      have g8F : Go d H8 HF := by rw [← eF]; exact (g8A.trans gAE).put2 hD2 nDd
      rw [eF]
      have iF := hi'.mono tEF
      have i1F := (i1A.go gAE g8A.dr).mono tEF
      have i2F := (i2A.go gAE g8A.dr).mono tEF
      refine ⟨_, rfl, D2, _, 0, _, rfl, rfl, sqd kF, atI0, u', i', nms, B, b', rfl, iF, ho', fun HG sG => ⟨b', rfl, ?_⟩⟩
      have g8G := g8F.trans (Go.same g8F.dr sG)
      have kG := sG _ _ kF
      have iG := iF.mono (Tp.same sG)
      have i1G := i1F.mono (Tp.same sG)
      have i2G := i2F.mono (Tp.same sG)
      cases b' with
      | true => exact iteF ⟨_, _, u', i', rfl, g8G, kG, iG, i1G, i2G, ho', by omega, by omega⟩
      | false =>
        refine iteT ⟨_, rfl, D2, _, 0, _, rfl, rfl, sqd kG, atI0, Nat.le_of_ble_eq_true rfl, fun p1 hp1 => ⟨Nat.le_of_ble_eq_true rfl, fun p2 hp2 => ?_⟩⟩
        obtain ⟨HI, eI, sI, kI⟩ := newH hp1 (.tup [.str "number", .int 2])
        rw [show upd HG p1 _ = HI from eI] at hp2 ⊢
        obtain ⟨HJ, eJ, sJ, kJ⟩ := newH hp2 (.tup [.str "less", u', .ref p1])
        rw [show upd HI p2 _ = HJ from eJ]
        have sGJ := sI.trans sJ
        have k2J := sGJ _ _ kG
        have tJ := fun o => tp_put (o := o) k2J
        refine ⟨_, rfl, D2, _, 0, 0, rfl, rfl, k2J, rfl, ?_⟩
        exact ⟨_, _, .ref p2, .bin "less" i' (.num 2), rfl, (g8G.trans (Go.same g8G.dr sGJ)).put2 hD2 nDd, by rw [upd_same]; rfl, (ItemIn.bin kJ (iG.mono (Tp.same sGJ)) (.num (sJ _ _ kI))).mono (tJ _), (i1G.mono (Tp.same sGJ)).mono (tJ _), (i2G.mono (Tp.same sGJ)).mono (tJ _), .cmp (by decide +kernel) ho' (.num (by show 2 ≤ B; omega)), by simp only [It.dep]; omega, by simp only [It.mx]; omega⟩
    · exact ⟨_, _, z0, t0, rfl, g8A, eA, i0A, i1A, i2A, o0.1, by omega, by omega⟩
  rintro σA HA ⟨y5', y7', w0, r0, rfl, g8A, eA, j0, j1, j2, ok0, hd0, hm0⟩
  have hplA := hpl7.mono ((Tp.same s8).trans (g8A.tp g8.dr))
  have three_co : ∀ t, Okx nms B true t → t.dep ≤ 12 → t.mx ≤ 120 → CoF p B t := fun t h1 h2 h3 => ⟨by rw [hnms]; exact h1, by omega, h3⟩
  have C0 := three_co r0 ok0 (by omega) (by omega)
  have C1 := three_co t1 o1.1 (by omega) (by omega)
  have C2 := three_co t2 o2.1 (by omega) (by omega)
  have kid3 : Kids HA [r0, t1, t2] [w0, z1, z2] := .cons j0 (.cons j1 (.cons j2 kids0))
  have cof3 : ∀ t ∈ [r0, t1, t2], CoF p B t := fun t ht => by
    simp only [List.mem_cons, List.not_mem_nil, or_false] at ht
    rcases ht with rfl | rfl | rfl
    · exact C0
    · exact C1
    · exact C2
  -- where they hold
  refine ⟨_, rfl, D2, rfl, ⟨_, sqd eA⟩, fun F hF => ?_⟩
  refine lc_list (K := K) (a := D2) (xs := [w0, z1, z2]) (fun (j : Nat) (H' : Hp) => ∃ ws, Same HA H' ∧ H' F = some (.lst ws) ∧ ws.length = j ∧ ∀ (i : Nat) t x, [r0, t1, t2][i]? = some t → ws[i]? = some x → ∃ q, x = .ref q ∧ H' q = some (.tup ((whereOf p t).map V.int))) ?_ ?_ ?_ ?_
  · exact ⟨[], same_new hF _, upd_same, rfl, fun i t x _ h => by simp at h⟩
  · rintro j H' _ ⟨ws, sj, _⟩
    exact sqd (sj _ _ eA)
  · rintro j x H' hx ⟨ws, sj, ej, hwl, hws⟩
    obtain ⟨t, htj, hti, htm⟩ := (kid3.mono (Tp.same sj)).get hx
    refine ⟨rfl, yes_if ?_⟩
    refine ⟨_, rfl, _, rfl, .ref pa, x, p, B, t, rfl, hplA.mono (Tp.same sj), hV, cof3 t htm, hti, fun wq HB sB eB => ?_⟩
    have e2 := sB _ _ ej
    have tB := fun o => tp_put (o := o) e2
    refine ⟨ws, e2, ?_, ws ++ [.ref wq], same_put (sj.trans sB) hF, upd_same, by rw [List.length_append, hwl]; rfl, fun i t' x' ht' hx' => ?_⟩
    · have := (List.getElem?_eq_some_iff.mp hx).1
      have h3 : ([w0, z1, z2] : List V).length = 3 := rfl
      exact big' (by omega)
    · by_cases hij : i < ws.length
      · rw [List.getElem?_append_left hij] at hx'
        obtain ⟨q', e', h'⟩ := hws i t' x' ht' hx'
        exact ⟨q', e', tB _ _ _ (sB _ _ h')⟩
      · have hil : i = ws.length := by
          have := (List.getElem?_eq_some_iff.mp hx').1
          rw [List.length_append, List.length_singleton] at this
          omega
        rw [hil, List.getElem?_append_right (Nat.le_refl _), Nat.sub_self] at hx'
        rw [hil, hwl, htj] at ht'
        cases ht'
        exact ⟨wq, (Option.some.inj hx').symm, tB _ _ _ eB⟩
  rintro HB ⟨ws, sB, eB, hwl, hws⟩
  obtain ⟨x0, x1, x2, rfl⟩ := three (l := ws) hwl
  obtain ⟨q0, rfl, f0⟩ := hws 0 r0 x0 rfl rfl
  obtain ⟨q1, rfl, f1⟩ := hws 1 t1 x1 rfl rfl
  obtain ⟨q2, rfl, f2⟩ := hws 2 t2 x2 rfl rfl
  have eT := sB _ _ eA
  have k3 := kid3.mono (Tp.same sB)
  have hplB := hplA.mono (Tp.same sB)
  have wl : ∀ t, (whereOf p t).length ≤ 1000 := fun t => by
    have h1 := where_len p t (prodR [[]] p.vs).length
    have h2 : (prodR [[]] p.vs).length ≤ 1000 := by rw [← hR.1]; exact yl
    exact Nat.le_trans h1 h2
  refine ⟨3, rfl, by decide, by decide, for_range (lo := 0) (n := 3) (fun (j : Nat) (σ : L2.St) (H' : Hp) => ∃ (y5 y7 y10 : Option V), σ = [some (.ref a), some (.ref d), some (.int c), some (.ref pa), some (.ref nq), y5, some (.ref lq), y7, some (.ref D2), some (.ref F), y10, none, none, none] ∧ Same HB H') ?_ ?_ ?_⟩
  · exact ⟨_, _, _, rfl, Same.refl HB⟩
  · rintro j σ HC hj ⟨y5, y7, y10, rfl, sC⟩
    have hj3 : j < ([r0, t1, t2] : List It).length := hj
    obtain ⟨t, htj⟩ : ∃ t, [r0, t1, t2][j]? = some t := ⟨_, List.getElem?_eq_getElem hj3⟩
    obtain ⟨x, hxj⟩ : ∃ x, [w0, z1, z2][j]? = some x := ⟨_, List.getElem?_eq_getElem (show j < ([w0, z1, z2] : List V).length from hj)⟩
    obtain ⟨y, hyj⟩ : ∃ y, [V.ref q0, V.ref q1, V.ref q2][j]? = some y := ⟨_, List.getElem?_eq_getElem (show j < ([V.ref q0, V.ref q1, V.ref q2] : List V).length from hj)⟩
    obtain ⟨qj, rfl, fj⟩ := hws j t y htj hyj
    have e00 : (0 : Int) + (j : Int) = (j : Int) := Int.zero_add _
    refine ⟨_, rfl, _, rfl, F, _, _, _, rfl, rfl, sqd (sC _ _ eB), by rw [e00]; exact atI_nat hyj, _, rfl, _, rfl, _, rfl, D2, _, _, _, rfl, rfl, sqd (sC _ _ eT), by rw [e00]; exact atI_nat hxj, .ref pa, x, p, B, t, rfl, hplB.mono (Tp.same sC), hV, cof3 t (List.mem_of_getElem? htj), (k3.2 j t x htj hxj).mono (Tp.same sC), fun wq HD sD eD => ?_⟩
    refine ⟨_, _, rfl, ints_alike ((sC.trans sD) _ _ fj) eD (wl t), true, rfl, ?_⟩
    exact iteF ⟨_, _, _, rfl, sC.trans sD⟩
  rintro σC HC ⟨y5c, y7c, y10, rfl, sC⟩
  have eFC := sC _ _ eB
  have eTC := sC _ _ eT
  have f0C := sC _ _ f0
  have f1C := sC _ _ f1
  have f2C := sC _ _ f2
  have kidC := k3.mono (Tp.same sC)
  have hplC := hplB.mono (Tp.same sC)
  have klC : Keep K d HC lq ys := kl8.go (g8A.trans (Go.same g8A.dr (sB.trans sC)))
  -- both
  refine ⟨_, rfl, F, _, 0, _, rfl, rfl, sqd eFC, atI0, q0, rfl, ⟨_, sqt f0C⟩, fun D3 hD3 => ?_⟩
  refine lc_tup (K := K) (a := q0) (xs := (whereOf p r0).map V.int) (fun (j : Nat) (H' : Hp) => Same HC H' ∧ H' D3 = some (.lst ((((whereOf p r0).take j).filter (fun x => decide (x ∈ whereOf p t1) && decide (x ∈ whereOf p t2))).map V.int))) ?_ ?_ ?_ ?_
  · exact ⟨same_new hD3 _, by rw [upd_same, List.take_zero]; rfl⟩
  · rintro j H' _ ⟨sj, _⟩
    exact sqt (sj _ _ f0C)
  · rintro j x H' hx ⟨sj, ej⟩
    rw [List.getElem?_map] at hx
    obtain ⟨n, hn, rfl⟩ := Option.map_eq_some_iff.mp hx
    have hfl : ((whereOf p r0).take (j + 1)).filter (fun x => decide (x ∈ whereOf p t1) && decide (x ∈ whereOf p t2)) = ((whereOf p r0).take j).filter (fun x => decide (x ∈ whereOf p t1) && decide (x ∈ whereOf p t2)) ++ (if (decide (n ∈ whereOf p t1) && decide (n ∈ whereOf p t2)) = true then [n] else []) := by
      rw [List.take_add_one, hn, List.filter_append]
      congr 1
      show [n].filter _ = _
      rw [List.filter_cons]
      rfl
    refine ⟨rfl, ?_⟩
    refine ⟨_, rfl, _, rfl, F, _, 1, _, rfl, rfl, sqd (sj _ _ eFC), atI1, q1, _, rfl, .inr (sqt (sj _ _ f1C)), rfl, flat_intsW _, _, rfl, ?_⟩
    refine ite2 (fun c1 => ?_) (fun c1 => ?_)
    · refine ⟨_, rfl, _, rfl, F, _, 2, _, rfl, rfl, sqd (sj _ _ eFC), atI2, q2, _, rfl, .inr (sqt (sj _ _ f2C)), rfl, flat_intsW _, _, rfl, ?_⟩
      refine ite2 (fun c2 => ?_) (fun c2 => ?_)
      · rw [in_t c1, in_t c2, Bool.and_true, if_pos rfl] at hfl
        refine ⟨_, rfl, _, ej, ?_, same_put sj hD3, by rw [upd_same, hfl, List.map_append]; rfl⟩
        rw [List.length_map]
        have h1 := List.length_filter_le (fun x => decide (x ∈ whereOf p t1) && decide (x ∈ whereOf p t2)) ((whereOf p r0).take j)
        rw [List.length_take] at h1
        have h2 := wl r0
        exact big' (by omega)
      · rw [in_t c1, in_f c2, Bool.and_false, if_neg Bool.false_ne_true, List.append_nil] at hfl
        exact ⟨sj, by rw [hfl]; exact ej⟩
    · rw [in_f c1, Bool.false_and, if_neg Bool.false_ne_true, List.append_nil] at hfl
      exact ⟨sj, by rw [hfl]; exact ej⟩
  rintro HD ⟨sD, eD3⟩
  rw [List.length_map, List.take_length, both_eq] at eD3
  refine ⟨D3, _, rfl, .inl ⟨sqd eD3, fun bq hbq => ?_⟩⟩
  obtain ⟨HE, eE, sE, kBoth⟩ := newH hbq (.tup ((whereOf p (.grp "all" [r0, t1, t2])).map V.int))
  rw [eE]
  have sCE := sD.trans sE
  have DC : Dr HC d := (g8A.trans (Go.same g8A.dr (sB.trans sC))).dr
  have gCE := Go.same DC sCE
  -- some
  refine ⟨_, rfl, lq, _, rfl, .inl (klC.go gCE).now, _, rfl, by omega, by omega, fun D4 hD4 => ?_⟩
  refine lc_range (lo := 0) (n := ((ys.length : Nat) : Int).toNat) (fun (k : Nat) (H' : Hp) => Same HE H' ∧ H' D4 = some (.lst ((((List.range k).filter (fun k : Nat => decide ((k : Int) ∈ whereOf p r0) || (decide ((k : Int) ∈ whereOf p t1) || decide ((k : Int) ∈ whereOf p t2)))).map fun k : Nat => (k : Int)).map V.int))) ?_ ?_ ?_
  · exact ⟨same_new hD4 _, by rw [upd_same]; rfl⟩
  · rintro k H' hk ⟨sj, ej⟩
    have sCj := sCE.trans sj
    have e00 : (0 : Int) + (k : Int) = (k : Int) := Int.zero_add _
    have hfl : ((List.range (k + 1)).filter (fun k : Nat => decide ((k : Int) ∈ whereOf p r0) || (decide ((k : Int) ∈ whereOf p t1) || decide ((k : Int) ∈ whereOf p t2)))).map (fun k : Nat => (k : Int)) = ((List.range k).filter (fun k : Nat => decide ((k : Int) ∈ whereOf p r0) || (decide ((k : Int) ∈ whereOf p t1) || decide ((k : Int) ∈ whereOf p t2)))).map (fun k : Nat => (k : Int)) ++ (if (decide ((k : Int) ∈ whereOf p r0) || (decide ((k : Int) ∈ whereOf p t1) || decide ((k : Int) ∈ whereOf p t2))) = true then [(k : Int)] else []) := by
      rw [List.range_succ, List.filter_append, List.map_append]
      congr 1
      rw [List.filter_cons]
      split <;> rfl
    have fits : (((List.range k).filter (fun k : Nat => decide ((k : Int) ∈ whereOf p r0) || (decide ((k : Int) ∈ whereOf p t1) || decide ((k : Int) ∈ whereOf p t2)))).map fun k : Nat => (k : Int)).length < sizeLine := by
      rw [List.length_map]
      have h1 := List.length_filter_le (fun k : Nat => decide ((k : Int) ∈ whereOf p r0) || (decide ((k : Int) ∈ whereOf p t1) || decide ((k : Int) ∈ whereOf p t2))) (List.range k)
      rw [List.length_range] at h1
      exact big' (by omega)
    refine ⟨rfl, ?_⟩
    refine ⟨_, rfl, _, rfl, F, _, 0, _, rfl, rfl, sqd (sCj _ _ eFC), atI0, q0, _, rfl, .inr (sqt (sCj _ _ f0C)), rfl, flat_intsW _, _, rfl, ?_⟩
    have yes : ((decide ((k : Int) ∈ whereOf p r0) || (decide ((k : Int) ∈ whereOf p t1) || decide ((k : Int) ∈ whereOf p t2))) = true) → ∃ acc, H' D4 = some (.lst acc) ∧ acc.length < sizeLine ∧ Same HE (upd H' D4 (.lst (acc ++ [.int (0 + (k : Int))]))) ∧ (upd H' D4 (.lst (acc ++ [.int (0 + (k : Int))]))) D4 = some (.lst ((((List.range (k + 1)).filter (fun k : Nat => decide ((k : Int) ∈ whereOf p r0) || (decide ((k : Int) ∈ whereOf p t1) || decide ((k : Int) ∈ whereOf p t2)))).map fun k : Nat => (k : Int)).map V.int)) := fun hy => by
      rw [if_pos hy] at hfl
      exact ⟨_, ej, by rw [List.length_map]; exact fits, same_put sj hD4, by rw [upd_same, hfl, List.map_append, e00]; rfl⟩
    refine ite2 (fun c0 => ?_) (fun c0 => ?_)
    · exact ⟨_, rfl, yes (by have := in_t c0; rw [e00] at this; rw [this, Bool.true_or])⟩
    have n0 := in_f c0
    rw [e00] at n0
    refine ⟨_, rfl, _, rfl, F, _, 1, _, rfl, rfl, sqd (sCj _ _ eFC), atI1, q1, _, rfl, .inr (sqt (sCj _ _ f1C)), rfl, flat_intsW _, _, rfl, ?_⟩
    refine ite2 (fun c1 => ?_) (fun c1 => ?_)
    · exact ⟨_, rfl, yes (by have := in_t c1; rw [e00] at this; rw [n0, this]; rfl)⟩
    have n1 := in_f c1
    rw [e00] at n1
    refine ⟨_, rfl, _, rfl, F, _, 2, _, rfl, rfl, sqd (sCj _ _ eFC), atI2, q2, _, rfl, .inr (sqt (sCj _ _ f2C)), rfl, flat_intsW _, _, rfl, ?_⟩
    refine ite2 (fun c2 => ?_) (fun c2 => ?_)
    · exact ⟨_, rfl, yes (by have := in_t c2; rw [e00] at this; rw [n0, n1, this]; rfl)⟩
    have n2 := in_f c2
    rw [e00] at n2
    rw [n0, n1, n2, if_neg (by decide), List.append_nil] at hfl
    exact ⟨sj, by rw [hfl]; exact ej⟩
  rintro HG ⟨sG, eD4⟩
  rw [en, some_eq] at eD4
  refine ⟨D4, _, rfl, .inl ⟨sqd eD4, fun sq hsq => ?_⟩⟩
  obtain ⟨HI, eI, sI, kSome⟩ := newH hsq (.tup ((whereOf p (.grp "any" [r0, t1, t2])).map V.int))
  rw [eI]
  have sEI := sG.trans sI
  have sCI := sCE.trans sEI
  have gCI := Go.same DC sCI
  -- rest
  refine ⟨_, rfl, lq, _, rfl, .inl (klC.go gCI).now, _, rfl, by omega, by omega, fun D5 hD5 => ?_⟩
  refine lc_range (lo := 0) (n := ((ys.length : Nat) : Int).toNat) (fun (k : Nat) (H' : Hp) => Same HI H' ∧ H' D5 = some (.lst ((((List.range k).filter (fun k : Nat => !decide ((k : Int) ∈ whereOf p r0))).map fun k : Nat => (k : Int)).map V.int))) ?_ ?_ ?_
  · exact ⟨same_new hD5 _, by rw [upd_same]; rfl⟩
  · rintro k H' hk ⟨sj, ej⟩
    have sCj := sCI.trans sj
    have e00 : (0 : Int) + (k : Int) = (k : Int) := Int.zero_add _
    have hfl : ((List.range (k + 1)).filter (fun k : Nat => !decide ((k : Int) ∈ whereOf p r0))).map (fun k : Nat => (k : Int)) = ((List.range k).filter (fun k : Nat => !decide ((k : Int) ∈ whereOf p r0))).map (fun k : Nat => (k : Int)) ++ (if (!decide ((k : Int) ∈ whereOf p r0)) = true then [(k : Int)] else []) := by
      rw [List.range_succ, List.filter_append, List.map_append]
      congr 1
      rw [List.filter_cons]
      split <;> rfl
    have fits : (((List.range k).filter (fun k : Nat => !decide ((k : Int) ∈ whereOf p r0))).map fun k : Nat => (k : Int)).length < sizeLine := by
      rw [List.length_map]
      have h1 := List.length_filter_le (fun k : Nat => !decide ((k : Int) ∈ whereOf p r0)) (List.range k)
      rw [List.length_range] at h1
      exact big' (by omega)
    refine ⟨rfl, ?_⟩
    refine ⟨_, rfl, _, rfl, F, _, 0, _, rfl, rfl, sqd (sCj _ _ eFC), atI0, q0, _, rfl, .inr (sqt (sCj _ _ f0C)), rfl, flat_intsW _, _, rfl, ?_⟩
    refine ite2 (fun c0 => ?_) (fun c0 => ?_)
    · have n0 := notin_t c0
      rw [e00] at n0
      rw [n0, if_pos (by decide)] at hfl
      exact ⟨_, rfl, _, ej, by rw [List.length_map]; exact fits, same_put sj hD5, by rw [upd_same, hfl, List.map_append, e00]; rfl⟩
    · have n0 := notin_f c0
      rw [e00] at n0
      rw [n0, if_neg (by decide), List.append_nil] at hfl
      exact ⟨sj, by rw [hfl]; exact ej⟩
  rintro HJ ⟨sJ, eD5⟩
  rw [en, rest_eq] at eD5
  refine ⟨D5, _, rfl, .inl ⟨sqd eD5, fun uq huq => ?_⟩⟩
  obtain ⟨HK, eK, sK, kRest⟩ := newH huq (.tup ((whereOf p (.un "not" r0)).map V.int))
  rw [eK]
  have sIK := sJ.trans sK
  have sCK := sCI.trans sIK
  have kBothK := (sEI.trans sIK) _ _ kBoth
  have kSomeK := sIK _ _ kSome
  have C3 : ∀ w ∈ (["all", "any"] : List Str), CoF p B (.grp w [r0, t1, t2]) := fun w hw => three_co _ (.grp hw (Nat.le_of_ble_eq_true rfl) (fun i hi => by
    simp only [List.mem_cons, List.not_mem_nil, or_false] at hi
    rcases hi with rfl | rfl | rfl
    · exact ok0
    · exact o1.1
    · exact o2.1)) (by simp only [It.dep, depL]; omega) (by simp only [It.mx, mxL]; omega)
  -- all and any
  refine ⟨_, rfl, _, rfl, D2, _, rfl, .inl ⟨sqd (sCK _ _ eTC), fun a1 ha1 => ⟨Nat.le_of_ble_eq_true rfl, fun a2 ha2 => ?_⟩⟩⟩
  obtain ⟨L1, l1, y1, g1'⟩ := newH ha1 (.tup [w0, z1, z2])
  rw [l1] at ha2 ⊢
  obtain ⟨L2, l2, y2, g2'⟩ := newH ha2 (.tup [.str "all", .ref a1])
  rw [l2]
  have sCL := sCK.trans (y1.trans y2)
  refine ⟨.ref pa, .ref a2, p, B, .grp "all" [r0, t1, t2], rfl, hplC.mono (Tp.same sCL), hV, C3 _ (by decide +kernel), .grp g2' (y2 _ _ g1') rfl (kidC.mono (Tp.same sCL)).2, fun aq1 L3 y3 m3 => ?_⟩
  have sKL := y1.trans (y2.trans y3)
  refine ⟨_, rfl, encR _, encR _, dp_tupI m3, dp_tupI (sKL _ _ kBothK), shapedI _, shapedI _, _, rfl, ?_⟩
  refine ifF (by rw [eqvI] <;> rfl) ?_
  have sCL3 := sCK.trans sKL
  refine ⟨_, rfl, _, rfl, D2, _, rfl, .inl ⟨sqd (sCL3 _ _ eTC), fun b1 hb1 => ⟨Nat.le_of_ble_eq_true rfl, fun b2 hb2 => ?_⟩⟩⟩
  obtain ⟨L4, l4, y4, g4'⟩ := newH hb1 (.tup [w0, z1, z2])
  rw [l4] at hb2 ⊢
  obtain ⟨L5, l5, y5, g5'⟩ := newH hb2 (.tup [.str "any", .ref b1])
  rw [l5]
  have sCL5 := sCL3.trans (y4.trans y5)
  refine ⟨.ref pa, .ref b2, p, B, .grp "any" [r0, t1, t2], rfl, hplC.mono (Tp.same sCL5), hV, C3 _ (by decide +kernel), .grp g5' (y5 _ _ g4') rfl (kidC.mono (Tp.same sCL5)).2, fun aq2 L6 y6 m6 => ?_⟩
  have sKL6 := sKL.trans (y4.trans (y5.trans y6))
  refine ⟨_, rfl, encR _, encR _, dp_tupI m6, dp_tupI (sKL6 _ _ kSomeK), shapedI _, shapedI _, _, rfl, ?_⟩
  refine ifF (by rw [eqvI] <;> rfl) ?_
  have sCL6 := sCK.trans sKL6
  -- not and false
  refine ⟨_, rfl, _, rfl, D2, _, 0, _, rfl, rfl, sqd (sCL6 _ _ eTC), atI0, Nat.le_of_ble_eq_true rfl, fun c1 hc1 => ?_⟩
  obtain ⟨L7, l7, y7, g7'⟩ := newH hc1 (.tup [.str "not", w0])
  rw [l7]
  have sCL7 := sCL6.trans y7
  refine ⟨.ref pa, .ref c1, p, B, .un "not" r0, rfl, hplC.mono (Tp.same sCL7), hV, three_co _ (.not ok0) (by simp only [It.dep]; omega) (by simp only [It.mx]; omega), .un g7' ((kidC.mono (Tp.same sCL7)).2 0 r0 w0 rfl rfl), fun aq3 L8 y8 m8 => ?_⟩
  have sKL8 := sKL6.trans (y7.trans y8)
  refine ⟨_, rfl, encR _, encR _, dp_tupI m8, dp_tupI (sKL8 _ _ kRest), shapedI _, shapedI _, _, rfl, ?_⟩
  refine ifF (by rw [eqvI] <;> rfl) ?_
  have sCL8 := sCK.trans sKL8
  refine ⟨_, rfl, Nat.le_of_ble_eq_true rfl, fun d1 hd1 => ?_⟩
  obtain ⟨L9, l9, y9, g9'⟩ := newH hd1 (.tup [.str "false"])
  rw [l9]
  have sCL9 := sCL8.trans y9
  refine ⟨.ref pa, .ref d1, p, B, .lit false, rfl, hplC.mono (Tp.same sCL9), hV, three_co _ .lit (by rw [It.dep]; decide) (by rw [It.mx]; decide), .lit (b := false) g9', fun aq4 LA yA mA => ?_⟩
  refine ⟨Nat.le_of_ble_eq_true rfl, fun d2 hd2 => ?_⟩
  obtain ⟨LB, lB, yB, gB'⟩ := newH hd2 (.tup [])
  rw [lB]
  rw [none_eq] at mA
  refine ⟨encR [], encR [], dp_tupI (yB _ _ mA), dp_tupI gB', shapedI _, shapedI _, _, rfl, ?_⟩
  refine ifF (by rw [eqvI] <;> rfl) ?_
  have sCLB := sCL9.trans (yA.trans yB)
  -- true
  refine ⟨_, rfl, Nat.le_of_ble_eq_true rfl, fun e1 he1 => ?_⟩
  obtain ⟨LC, lC, yC, gC'⟩ := newH he1 (.tup [.str "true"])
  rw [lC]
  have sCLC := sCLB.trans yC
  refine ⟨.ref pa, .ref e1, p, B, .lit true, rfl, hplC.mono (Tp.same sCLC), hV, three_co _ .lit (by rw [It.dep]; decide) (by rw [It.mx]; decide), .lit (b := true) gC', fun aq5 LD yD mD => ?_⟩
  have sCLD := sCLC.trans yD
  refine ⟨_, rfl, lq, _, rfl, .inl (klC.go (Go.same DC sCLD)).now, _, rfl, by omega, by omega, fun D6 hD6 => ?_⟩
  refine lc_range (lo := 0) (n := ((ys.length : Nat) : Int).toNat) (fun (k : Nat) (H' : Hp) => Same LD H' ∧ H' D6 = some (.lst (((List.range k).map fun k : Nat => (k : Int)).map V.int))) ?_ ?_ ?_
  · exact ⟨same_new hD6 _, by rw [upd_same]; rfl⟩
  · rintro k H' hk ⟨sj, ej⟩
    refine ⟨rfl, yes_if ?_⟩
    refine ⟨_, rfl, _, ej, ?_, same_put sj hD6, ?_⟩
    · rw [List.length_map, List.length_map, List.length_range]
      exact big' (by omega)
    · rw [upd_same, List.range_succ, List.map_append, List.map_append, Int.zero_add]
      rfl
  rintro LE ⟨sLE, eLE⟩
  rw [en, ← every_eq] at eLE
  refine ⟨D6, _, rfl, .inl ⟨sqd eLE, fun f1 hf1 => ?_⟩⟩
  obtain ⟨LF, lF, yF, gF'⟩ := newH hf1 (.tup ((whereOf p (.lit true)).map V.int))
  rw [lF]
  refine ⟨encR _, encR _, dp_tupI ((sLE.trans yF) _ _ mD), dp_tupI gF', shapedI _, shapedI _, _, rfl, ?_⟩
  refine ifF (by rw [eqvI] <;> rfl) ?_
  have sCLF := sCLD.trans (sLE.trans yF)
  have gLF := Go.same DC sCLF
  have knC := (kn8.go (g8A.trans (Go.same g8A.dr (sB.trans sC)))).go gLF
  refine ⟨_, rfl, d, _, rfl, gLF.dr, by decide, fun z LG gG' z0' z1' => ?_⟩
  refine ⟨_, _, rfl, rfl, _, rfl, ?_⟩
  refine ite2 (fun _ => q LG) (fun _ => ?_)
  refine ⟨_, rfl, _, rfl, nq, _, 0, _, rfl, rfl, (knC.go gG').now, at0, d, n0, rfl, gG'.dr, fun LH _ => q LH⟩
end
end NL

namespace NL
open PySem PySem.Spec PyProof.Rows L2
theorem all_mk {l : PySem.W.OpenLaw} {w : World} {K : PySem.W.Frag} {h : Heap} {mg : Str → Option Value} {fa fvalue_of f_value_of_two fholds fvalues_by_name fstates_of f_rows_in fposition_of fpositions_where f_law_draws f_law_take f_law_cell f_law_word f_law_some_word f_law_reserved f_law_name f_law_names f_law_number f_law_leaf f_law_expression f_law_test f_law_inner f_law_depth f_law_is_test f_law_around f_law_ranges f_law_step f_law_plant f_law_same f_law_value f_law_truth f_law_rows f_law_named f_law_where f_law_is_large flaw : Addr} (hp : l.prog.given.tree = none) (X : K.In h) (G : h.Ns mainGlobals mg) (hfa : mg "law" = some (.ref fa))
    {odvalue_of anvalue_of : Option Addr} {slvalue_of : Array (Option Value)} {ocvalue_of kVvalue_of dcvalue_of pmvalue_of cdvalue_of ctvalue_of : Value}
    {od_value_of_two an_value_of_two : Option Addr} {sl_value_of_two : Array (Option Value)} {oc_value_of_two kV_value_of_two dc_value_of_two pm_value_of_two cd_value_of_two ct_value_of_two : Value}
    {odholds anholds : Option Addr} {slholds : Array (Option Value)} {ocholds kVholds dcholds pmholds cdholds ctholds : Value}
    {odvalues_by_name anvalues_by_name : Option Addr} {slvalues_by_name : Array (Option Value)} {ocvalues_by_name kVvalues_by_name dcvalues_by_name pmvalues_by_name cdvalues_by_name ctvalues_by_name : Value}
    {odstates_of anstates_of : Option Addr} {slstates_of : Array (Option Value)} {ocstates_of kVstates_of dcstates_of pmstates_of cdstates_of ctstates_of : Value}
    {od_rows_in an_rows_in : Option Addr} {sl_rows_in : Array (Option Value)} {oc_rows_in kV_rows_in dc_rows_in pm_rows_in cd_rows_in ct_rows_in : Value}
    {odposition_of anposition_of : Option Addr} {slposition_of : Array (Option Value)} {ocposition_of kVposition_of dcposition_of pmposition_of cdposition_of ctposition_of : Value}
    {odpositions_where anpositions_where : Option Addr} {slpositions_where : Array (Option Value)} {ocpositions_where kVpositions_where dcpositions_where pmpositions_where cdpositions_where ctpositions_where : Value}
    {od_law_draws an_law_draws : Option Addr} {sl_law_draws : Array (Option Value)} {oc_law_draws kV_law_draws dc_law_draws pm_law_draws cd_law_draws ct_law_draws : Value}
    {od_law_take an_law_take : Option Addr} {sl_law_take : Array (Option Value)} {oc_law_take kV_law_take dc_law_take pm_law_take cd_law_take ct_law_take : Value}
    {od_law_cell an_law_cell : Option Addr} {sl_law_cell : Array (Option Value)} {oc_law_cell kV_law_cell dc_law_cell pm_law_cell cd_law_cell ct_law_cell : Value}
    {od_law_word an_law_word : Option Addr} {sl_law_word : Array (Option Value)} {oc_law_word kV_law_word dc_law_word pm_law_word cd_law_word ct_law_word : Value}
    {od_law_some_word an_law_some_word : Option Addr} {sl_law_some_word : Array (Option Value)} {oc_law_some_word kV_law_some_word dc_law_some_word pm_law_some_word cd_law_some_word ct_law_some_word : Value}
    {od_law_reserved an_law_reserved : Option Addr} {sl_law_reserved : Array (Option Value)} {oc_law_reserved kV_law_reserved dc_law_reserved pm_law_reserved cd_law_reserved ct_law_reserved : Value}
    {od_law_name an_law_name : Option Addr} {sl_law_name : Array (Option Value)} {oc_law_name kV_law_name dc_law_name pm_law_name cd_law_name ct_law_name : Value}
    {od_law_names an_law_names : Option Addr} {sl_law_names : Array (Option Value)} {oc_law_names kV_law_names dc_law_names pm_law_names cd_law_names ct_law_names : Value}
    {od_law_number an_law_number : Option Addr} {sl_law_number : Array (Option Value)} {oc_law_number kV_law_number dc_law_number pm_law_number cd_law_number ct_law_number : Value}
    {od_law_leaf an_law_leaf : Option Addr} {sl_law_leaf : Array (Option Value)} {oc_law_leaf kV_law_leaf dc_law_leaf pm_law_leaf cd_law_leaf ct_law_leaf : Value}
    {od_law_expression an_law_expression : Option Addr} {sl_law_expression : Array (Option Value)} {oc_law_expression kV_law_expression dc_law_expression pm_law_expression cd_law_expression ct_law_expression : Value}
    {od_law_test an_law_test : Option Addr} {sl_law_test : Array (Option Value)} {oc_law_test kV_law_test dc_law_test pm_law_test cd_law_test ct_law_test : Value}
    {od_law_inner an_law_inner : Option Addr} {sl_law_inner : Array (Option Value)} {oc_law_inner kV_law_inner dc_law_inner pm_law_inner cd_law_inner ct_law_inner : Value}
    {od_law_depth an_law_depth : Option Addr} {sl_law_depth : Array (Option Value)} {oc_law_depth kV_law_depth dc_law_depth pm_law_depth cd_law_depth ct_law_depth : Value}
    {od_law_is_test an_law_is_test : Option Addr} {sl_law_is_test : Array (Option Value)} {oc_law_is_test kV_law_is_test dc_law_is_test pm_law_is_test cd_law_is_test ct_law_is_test : Value}
    {od_law_around an_law_around : Option Addr} {sl_law_around : Array (Option Value)} {oc_law_around kV_law_around dc_law_around pm_law_around cd_law_around ct_law_around : Value}
    {od_law_ranges an_law_ranges : Option Addr} {sl_law_ranges : Array (Option Value)} {oc_law_ranges kV_law_ranges dc_law_ranges pm_law_ranges cd_law_ranges ct_law_ranges : Value}
    {od_law_step an_law_step : Option Addr} {sl_law_step : Array (Option Value)} {oc_law_step kV_law_step dc_law_step pm_law_step cd_law_step ct_law_step : Value}
    {od_law_plant an_law_plant : Option Addr} {sl_law_plant : Array (Option Value)} {oc_law_plant kV_law_plant dc_law_plant pm_law_plant cd_law_plant ct_law_plant : Value}
    {od_law_same an_law_same : Option Addr} {sl_law_same : Array (Option Value)} {oc_law_same kV_law_same dc_law_same pm_law_same cd_law_same ct_law_same : Value}
    {od_law_value an_law_value : Option Addr} {sl_law_value : Array (Option Value)} {oc_law_value kV_law_value dc_law_value pm_law_value cd_law_value ct_law_value : Value}
    {od_law_truth an_law_truth : Option Addr} {sl_law_truth : Array (Option Value)} {oc_law_truth kV_law_truth dc_law_truth pm_law_truth cd_law_truth ct_law_truth : Value}
    {od_law_rows an_law_rows : Option Addr} {sl_law_rows : Array (Option Value)} {oc_law_rows kV_law_rows dc_law_rows pm_law_rows cd_law_rows ct_law_rows : Value}
    {od_law_named an_law_named : Option Addr} {sl_law_named : Array (Option Value)} {oc_law_named kV_law_named dc_law_named pm_law_named cd_law_named ct_law_named : Value}
    {od_law_where an_law_where : Option Addr} {sl_law_where : Array (Option Value)} {oc_law_where kV_law_where dc_law_where pm_law_where cd_law_where ct_law_where : Value}
    {od_law_is_large an_law_is_large : Option Addr} {sl_law_is_large : Array (Option Value)} {oc_law_is_large kV_law_is_large dc_law_is_large pm_law_is_large cd_law_is_large ct_law_is_large : Value}
    {odlaw anlaw : Option Addr} {sllaw : Array (Option Value)} {oclaw kVlaw dclaw pmlaw cdlaw ctlaw : Value}
    (avalue_of : PySem.W.nsIn K mainGlobals "value_of" = some (some (.ref fvalue_of))) (lvalue_of : K.lookup fvalue_of = some ⟨ocvalue_of, odvalue_of, .func (PySem.W.fnOf "value_of" "value_of" (defArgs svalue_of) (defBody svalue_of) (defScope svalue_of) .none kVvalue_of dcvalue_of pmvalue_of anvalue_of cdvalue_of ctvalue_of), slvalue_of⟩) (cvalue_of : PySem.W.codeIn K cdvalue_of "value_of" = true) (kvalue_of : PySem.W.keepIn K (.ref fvalue_of) = true)
    (a_value_of_two : PySem.W.nsIn K mainGlobals "_value_of_two" = some (some (.ref f_value_of_two))) (l_value_of_two : K.lookup f_value_of_two = some ⟨oc_value_of_two, od_value_of_two, .func (PySem.W.fnOf "_value_of_two" "_value_of_two" (defArgs s_value_of_two) (defBody s_value_of_two) (defScope s_value_of_two) .none kV_value_of_two dc_value_of_two pm_value_of_two an_value_of_two cd_value_of_two ct_value_of_two), sl_value_of_two⟩) (c_value_of_two : PySem.W.codeIn K cd_value_of_two "_value_of_two" = true) (k_value_of_two : PySem.W.keepIn K (.ref f_value_of_two) = true)
    (aholds : PySem.W.nsIn K mainGlobals "holds" = some (some (.ref fholds))) (lholds : K.lookup fholds = some ⟨ocholds, odholds, .func (PySem.W.fnOf "holds" "holds" (defArgs sholds) (defBody sholds) (defScope sholds) .none kVholds dcholds pmholds anholds cdholds ctholds), slholds⟩) (cholds : PySem.W.codeIn K cdholds "holds" = true) (kholds : PySem.W.keepIn K (.ref fholds) = true)
    (avalues_by_name : PySem.W.nsIn K mainGlobals "values_by_name" = some (some (.ref fvalues_by_name))) (lvalues_by_name : K.lookup fvalues_by_name = some ⟨ocvalues_by_name, odvalues_by_name, .func (PySem.W.fnOf "values_by_name" "values_by_name" (defArgs svalues_by_name) (defBody svalues_by_name) (defScope svalues_by_name) .none kVvalues_by_name dcvalues_by_name pmvalues_by_name anvalues_by_name cdvalues_by_name ctvalues_by_name), slvalues_by_name⟩) (cvalues_by_name : PySem.W.codeIn K cdvalues_by_name "values_by_name" = true) (kvalues_by_name : PySem.W.keepIn K (.ref fvalues_by_name) = true)
    (astates_of : PySem.W.nsIn K mainGlobals "states_of" = some (some (.ref fstates_of))) (lstates_of : K.lookup fstates_of = some ⟨ocstates_of, odstates_of, .func (PySem.W.fnOf "states_of" "states_of" (defArgs sstates_of) (defBody sstates_of) (defScope sstates_of) .none kVstates_of dcstates_of pmstates_of anstates_of cdstates_of ctstates_of), slstates_of⟩) (cstates_of : PySem.W.codeIn K cdstates_of "states_of" = true) (kstates_of : PySem.W.keepIn K (.ref fstates_of) = true)
    (a_rows_in : PySem.W.nsIn K mainGlobals "_rows_in" = some (some (.ref f_rows_in))) (l_rows_in : K.lookup f_rows_in = some ⟨oc_rows_in, od_rows_in, .func (PySem.W.fnOf "_rows_in" "_rows_in" (defArgs s_rows_in) (defBody s_rows_in) (defScope s_rows_in) .none kV_rows_in dc_rows_in pm_rows_in an_rows_in cd_rows_in ct_rows_in), sl_rows_in⟩) (c_rows_in : PySem.W.codeIn K cd_rows_in "_rows_in" = true) (k_rows_in : PySem.W.keepIn K (.ref f_rows_in) = true)
    (aposition_of : PySem.W.nsIn K mainGlobals "position_of" = some (some (.ref fposition_of))) (lposition_of : K.lookup fposition_of = some ⟨ocposition_of, odposition_of, .func (PySem.W.fnOf "position_of" "position_of" (defArgs sposition_of) (defBody sposition_of) (defScope sposition_of) .none kVposition_of dcposition_of pmposition_of anposition_of cdposition_of ctposition_of), slposition_of⟩) (cposition_of : PySem.W.codeIn K cdposition_of "position_of" = true) (kposition_of : PySem.W.keepIn K (.ref fposition_of) = true)
    (apositions_where : PySem.W.nsIn K mainGlobals "positions_where" = some (some (.ref fpositions_where))) (lpositions_where : K.lookup fpositions_where = some ⟨ocpositions_where, odpositions_where, .func (PySem.W.fnOf "positions_where" "positions_where" (defArgs spositions_where) (defBody spositions_where) (defScope spositions_where) .none kVpositions_where dcpositions_where pmpositions_where anpositions_where cdpositions_where ctpositions_where), slpositions_where⟩) (cpositions_where : PySem.W.codeIn K cdpositions_where "positions_where" = true) (kpositions_where : PySem.W.keepIn K (.ref fpositions_where) = true)
    (a_law_draws : PySem.W.nsIn K mainGlobals "_law_draws" = some (some (.ref f_law_draws))) (l_law_draws : K.lookup f_law_draws = some ⟨oc_law_draws, od_law_draws, .func (PySem.W.fnOf "_law_draws" "_law_draws" (defArgs s_law_draws) (defBody s_law_draws) (defScope s_law_draws) .none kV_law_draws dc_law_draws pm_law_draws an_law_draws cd_law_draws ct_law_draws), sl_law_draws⟩) (c_law_draws : PySem.W.codeIn K cd_law_draws "_law_draws" = true) (k_law_draws : PySem.W.keepIn K (.ref f_law_draws) = true)
    (a_law_take : PySem.W.nsIn K mainGlobals "_law_take" = some (some (.ref f_law_take))) (l_law_take : K.lookup f_law_take = some ⟨oc_law_take, od_law_take, .func (PySem.W.fnOf "_law_take" "_law_take" (defArgs s_law_take) (defBody s_law_take) (defScope s_law_take) .none kV_law_take dc_law_take pm_law_take an_law_take cd_law_take ct_law_take), sl_law_take⟩) (c_law_take : PySem.W.codeIn K cd_law_take "_law_take" = true) (k_law_take : PySem.W.keepIn K (.ref f_law_take) = true)
    (a_law_cell : PySem.W.nsIn K mainGlobals "_law_cell" = some (some (.ref f_law_cell))) (l_law_cell : K.lookup f_law_cell = some ⟨oc_law_cell, od_law_cell, .func (PySem.W.fnOf "_law_cell" "_law_cell" (defArgs s_law_cell) (defBody s_law_cell) (defScope s_law_cell) .none kV_law_cell dc_law_cell pm_law_cell an_law_cell cd_law_cell ct_law_cell), sl_law_cell⟩) (c_law_cell : PySem.W.codeIn K cd_law_cell "_law_cell" = true) (k_law_cell : PySem.W.keepIn K (.ref f_law_cell) = true)
    (a_law_word : PySem.W.nsIn K mainGlobals "_law_word" = some (some (.ref f_law_word))) (l_law_word : K.lookup f_law_word = some ⟨oc_law_word, od_law_word, .func (PySem.W.fnOf "_law_word" "_law_word" (defArgs s_law_word) (defBody s_law_word) (defScope s_law_word) .none kV_law_word dc_law_word pm_law_word an_law_word cd_law_word ct_law_word), sl_law_word⟩) (c_law_word : PySem.W.codeIn K cd_law_word "_law_word" = true) (k_law_word : PySem.W.keepIn K (.ref f_law_word) = true)
    (a_law_some_word : PySem.W.nsIn K mainGlobals "_law_some_word" = some (some (.ref f_law_some_word))) (l_law_some_word : K.lookup f_law_some_word = some ⟨oc_law_some_word, od_law_some_word, .func (PySem.W.fnOf "_law_some_word" "_law_some_word" (defArgs s_law_some_word) (defBody s_law_some_word) (defScope s_law_some_word) .none kV_law_some_word dc_law_some_word pm_law_some_word an_law_some_word cd_law_some_word ct_law_some_word), sl_law_some_word⟩) (c_law_some_word : PySem.W.codeIn K cd_law_some_word "_law_some_word" = true) (k_law_some_word : PySem.W.keepIn K (.ref f_law_some_word) = true)
    (a_law_reserved : PySem.W.nsIn K mainGlobals "_law_reserved" = some (some (.ref f_law_reserved))) (l_law_reserved : K.lookup f_law_reserved = some ⟨oc_law_reserved, od_law_reserved, .func (PySem.W.fnOf "_law_reserved" "_law_reserved" (defArgs s_law_reserved) (defBody s_law_reserved) (defScope s_law_reserved) .none kV_law_reserved dc_law_reserved pm_law_reserved an_law_reserved cd_law_reserved ct_law_reserved), sl_law_reserved⟩) (c_law_reserved : PySem.W.codeIn K cd_law_reserved "_law_reserved" = true) (k_law_reserved : PySem.W.keepIn K (.ref f_law_reserved) = true)
    (a_law_name : PySem.W.nsIn K mainGlobals "_law_name" = some (some (.ref f_law_name))) (l_law_name : K.lookup f_law_name = some ⟨oc_law_name, od_law_name, .func (PySem.W.fnOf "_law_name" "_law_name" (defArgs s_law_name) (defBody s_law_name) (defScope s_law_name) .none kV_law_name dc_law_name pm_law_name an_law_name cd_law_name ct_law_name), sl_law_name⟩) (c_law_name : PySem.W.codeIn K cd_law_name "_law_name" = true) (k_law_name : PySem.W.keepIn K (.ref f_law_name) = true)
    (a_law_names : PySem.W.nsIn K mainGlobals "_law_names" = some (some (.ref f_law_names))) (l_law_names : K.lookup f_law_names = some ⟨oc_law_names, od_law_names, .func (PySem.W.fnOf "_law_names" "_law_names" (defArgs s_law_names) (defBody s_law_names) (defScope s_law_names) .none kV_law_names dc_law_names pm_law_names an_law_names cd_law_names ct_law_names), sl_law_names⟩) (c_law_names : PySem.W.codeIn K cd_law_names "_law_names" = true) (k_law_names : PySem.W.keepIn K (.ref f_law_names) = true)
    (a_law_number : PySem.W.nsIn K mainGlobals "_law_number" = some (some (.ref f_law_number))) (l_law_number : K.lookup f_law_number = some ⟨oc_law_number, od_law_number, .func (PySem.W.fnOf "_law_number" "_law_number" (defArgs s_law_number) (defBody s_law_number) (defScope s_law_number) .none kV_law_number dc_law_number pm_law_number an_law_number cd_law_number ct_law_number), sl_law_number⟩) (c_law_number : PySem.W.codeIn K cd_law_number "_law_number" = true) (k_law_number : PySem.W.keepIn K (.ref f_law_number) = true)
    (a_law_leaf : PySem.W.nsIn K mainGlobals "_law_leaf" = some (some (.ref f_law_leaf))) (l_law_leaf : K.lookup f_law_leaf = some ⟨oc_law_leaf, od_law_leaf, .func (PySem.W.fnOf "_law_leaf" "_law_leaf" (defArgs s_law_leaf) (defBody s_law_leaf) (defScope s_law_leaf) .none kV_law_leaf dc_law_leaf pm_law_leaf an_law_leaf cd_law_leaf ct_law_leaf), sl_law_leaf⟩) (c_law_leaf : PySem.W.codeIn K cd_law_leaf "_law_leaf" = true) (k_law_leaf : PySem.W.keepIn K (.ref f_law_leaf) = true)
    (a_law_expression : PySem.W.nsIn K mainGlobals "_law_expression" = some (some (.ref f_law_expression))) (l_law_expression : K.lookup f_law_expression = some ⟨oc_law_expression, od_law_expression, .func (PySem.W.fnOf "_law_expression" "_law_expression" (defArgs s_law_expression) (defBody s_law_expression) (defScope s_law_expression) .none kV_law_expression dc_law_expression pm_law_expression an_law_expression cd_law_expression ct_law_expression), sl_law_expression⟩) (c_law_expression : PySem.W.codeIn K cd_law_expression "_law_expression" = true) (k_law_expression : PySem.W.keepIn K (.ref f_law_expression) = true)
    (a_law_test : PySem.W.nsIn K mainGlobals "_law_test" = some (some (.ref f_law_test))) (l_law_test : K.lookup f_law_test = some ⟨oc_law_test, od_law_test, .func (PySem.W.fnOf "_law_test" "_law_test" (defArgs s_law_test) (defBody s_law_test) (defScope s_law_test) .none kV_law_test dc_law_test pm_law_test an_law_test cd_law_test ct_law_test), sl_law_test⟩) (c_law_test : PySem.W.codeIn K cd_law_test "_law_test" = true) (k_law_test : PySem.W.keepIn K (.ref f_law_test) = true)
    (a_law_inner : PySem.W.nsIn K mainGlobals "_law_inner" = some (some (.ref f_law_inner))) (l_law_inner : K.lookup f_law_inner = some ⟨oc_law_inner, od_law_inner, .func (PySem.W.fnOf "_law_inner" "_law_inner" (defArgs s_law_inner) (defBody s_law_inner) (defScope s_law_inner) .none kV_law_inner dc_law_inner pm_law_inner an_law_inner cd_law_inner ct_law_inner), sl_law_inner⟩) (c_law_inner : PySem.W.codeIn K cd_law_inner "_law_inner" = true) (k_law_inner : PySem.W.keepIn K (.ref f_law_inner) = true)
    (a_law_depth : PySem.W.nsIn K mainGlobals "_law_depth" = some (some (.ref f_law_depth))) (l_law_depth : K.lookup f_law_depth = some ⟨oc_law_depth, od_law_depth, .func (PySem.W.fnOf "_law_depth" "_law_depth" (defArgs s_law_depth) (defBody s_law_depth) (defScope s_law_depth) .none kV_law_depth dc_law_depth pm_law_depth an_law_depth cd_law_depth ct_law_depth), sl_law_depth⟩) (c_law_depth : PySem.W.codeIn K cd_law_depth "_law_depth" = true) (k_law_depth : PySem.W.keepIn K (.ref f_law_depth) = true)
    (a_law_is_test : PySem.W.nsIn K mainGlobals "_law_is_test" = some (some (.ref f_law_is_test))) (l_law_is_test : K.lookup f_law_is_test = some ⟨oc_law_is_test, od_law_is_test, .func (PySem.W.fnOf "_law_is_test" "_law_is_test" (defArgs s_law_is_test) (defBody s_law_is_test) (defScope s_law_is_test) .none kV_law_is_test dc_law_is_test pm_law_is_test an_law_is_test cd_law_is_test ct_law_is_test), sl_law_is_test⟩) (c_law_is_test : PySem.W.codeIn K cd_law_is_test "_law_is_test" = true) (k_law_is_test : PySem.W.keepIn K (.ref f_law_is_test) = true)
    (a_law_around : PySem.W.nsIn K mainGlobals "_law_around" = some (some (.ref f_law_around))) (l_law_around : K.lookup f_law_around = some ⟨oc_law_around, od_law_around, .func (PySem.W.fnOf "_law_around" "_law_around" (defArgs s_law_around) (defBody s_law_around) (defScope s_law_around) .none kV_law_around dc_law_around pm_law_around an_law_around cd_law_around ct_law_around), sl_law_around⟩) (c_law_around : PySem.W.codeIn K cd_law_around "_law_around" = true) (k_law_around : PySem.W.keepIn K (.ref f_law_around) = true)
    (a_law_ranges : PySem.W.nsIn K mainGlobals "_law_ranges" = some (some (.ref f_law_ranges))) (l_law_ranges : K.lookup f_law_ranges = some ⟨oc_law_ranges, od_law_ranges, .func (PySem.W.fnOf "_law_ranges" "_law_ranges" (defArgs s_law_ranges) (defBody s_law_ranges) (defScope s_law_ranges) .none kV_law_ranges dc_law_ranges pm_law_ranges an_law_ranges cd_law_ranges ct_law_ranges), sl_law_ranges⟩) (c_law_ranges : PySem.W.codeIn K cd_law_ranges "_law_ranges" = true) (k_law_ranges : PySem.W.keepIn K (.ref f_law_ranges) = true)
    (a_law_step : PySem.W.nsIn K mainGlobals "_law_step" = some (some (.ref f_law_step))) (l_law_step : K.lookup f_law_step = some ⟨oc_law_step, od_law_step, .func (PySem.W.fnOf "_law_step" "_law_step" (defArgs s_law_step) (defBody s_law_step) (defScope s_law_step) .none kV_law_step dc_law_step pm_law_step an_law_step cd_law_step ct_law_step), sl_law_step⟩) (c_law_step : PySem.W.codeIn K cd_law_step "_law_step" = true) (k_law_step : PySem.W.keepIn K (.ref f_law_step) = true)
    (a_law_plant : PySem.W.nsIn K mainGlobals "_law_plant" = some (some (.ref f_law_plant))) (l_law_plant : K.lookup f_law_plant = some ⟨oc_law_plant, od_law_plant, .func (PySem.W.fnOf "_law_plant" "_law_plant" (defArgs s_law_plant) (defBody s_law_plant) (defScope s_law_plant) .none kV_law_plant dc_law_plant pm_law_plant an_law_plant cd_law_plant ct_law_plant), sl_law_plant⟩) (c_law_plant : PySem.W.codeIn K cd_law_plant "_law_plant" = true) (k_law_plant : PySem.W.keepIn K (.ref f_law_plant) = true)
    (a_law_same : PySem.W.nsIn K mainGlobals "_law_same" = some (some (.ref f_law_same))) (l_law_same : K.lookup f_law_same = some ⟨oc_law_same, od_law_same, .func (PySem.W.fnOf "_law_same" "_law_same" (defArgs s_law_same) (defBody s_law_same) (defScope s_law_same) .none kV_law_same dc_law_same pm_law_same an_law_same cd_law_same ct_law_same), sl_law_same⟩) (c_law_same : PySem.W.codeIn K cd_law_same "_law_same" = true) (k_law_same : PySem.W.keepIn K (.ref f_law_same) = true)
    (a_law_value : PySem.W.nsIn K mainGlobals "_law_value" = some (some (.ref f_law_value))) (l_law_value : K.lookup f_law_value = some ⟨oc_law_value, od_law_value, .func (PySem.W.fnOf "_law_value" "_law_value" (defArgs s_law_value) (defBody s_law_value) (defScope s_law_value) .none kV_law_value dc_law_value pm_law_value an_law_value cd_law_value ct_law_value), sl_law_value⟩) (c_law_value : PySem.W.codeIn K cd_law_value "_law_value" = true) (k_law_value : PySem.W.keepIn K (.ref f_law_value) = true)
    (a_law_truth : PySem.W.nsIn K mainGlobals "_law_truth" = some (some (.ref f_law_truth))) (l_law_truth : K.lookup f_law_truth = some ⟨oc_law_truth, od_law_truth, .func (PySem.W.fnOf "_law_truth" "_law_truth" (defArgs s_law_truth) (defBody s_law_truth) (defScope s_law_truth) .none kV_law_truth dc_law_truth pm_law_truth an_law_truth cd_law_truth ct_law_truth), sl_law_truth⟩) (c_law_truth : PySem.W.codeIn K cd_law_truth "_law_truth" = true) (k_law_truth : PySem.W.keepIn K (.ref f_law_truth) = true)
    (a_law_rows : PySem.W.nsIn K mainGlobals "_law_rows" = some (some (.ref f_law_rows))) (l_law_rows : K.lookup f_law_rows = some ⟨oc_law_rows, od_law_rows, .func (PySem.W.fnOf "_law_rows" "_law_rows" (defArgs s_law_rows) (defBody s_law_rows) (defScope s_law_rows) .none kV_law_rows dc_law_rows pm_law_rows an_law_rows cd_law_rows ct_law_rows), sl_law_rows⟩) (c_law_rows : PySem.W.codeIn K cd_law_rows "_law_rows" = true) (k_law_rows : PySem.W.keepIn K (.ref f_law_rows) = true)
    (a_law_named : PySem.W.nsIn K mainGlobals "_law_named" = some (some (.ref f_law_named))) (l_law_named : K.lookup f_law_named = some ⟨oc_law_named, od_law_named, .func (PySem.W.fnOf "_law_named" "_law_named" (defArgs s_law_named) (defBody s_law_named) (defScope s_law_named) .none kV_law_named dc_law_named pm_law_named an_law_named cd_law_named ct_law_named), sl_law_named⟩) (c_law_named : PySem.W.codeIn K cd_law_named "_law_named" = true) (k_law_named : PySem.W.keepIn K (.ref f_law_named) = true)
    (a_law_where : PySem.W.nsIn K mainGlobals "_law_where" = some (some (.ref f_law_where))) (l_law_where : K.lookup f_law_where = some ⟨oc_law_where, od_law_where, .func (PySem.W.fnOf "_law_where" "_law_where" (defArgs s_law_where) (defBody s_law_where) (defScope s_law_where) .none kV_law_where dc_law_where pm_law_where an_law_where cd_law_where ct_law_where), sl_law_where⟩) (c_law_where : PySem.W.codeIn K cd_law_where "_law_where" = true) (k_law_where : PySem.W.keepIn K (.ref f_law_where) = true)
    (a_law_is_large : PySem.W.nsIn K mainGlobals "_law_is_large" = some (some (.ref f_law_is_large))) (l_law_is_large : K.lookup f_law_is_large = some ⟨oc_law_is_large, od_law_is_large, .func (PySem.W.fnOf "_law_is_large" "_law_is_large" (defArgs s_law_is_large) (defBody s_law_is_large) (defScope s_law_is_large) .none kV_law_is_large dc_law_is_large pm_law_is_large an_law_is_large cd_law_is_large ct_law_is_large), sl_law_is_large⟩) (c_law_is_large : PySem.W.codeIn K cd_law_is_large "_law_is_large" = true) (k_law_is_large : PySem.W.keepIn K (.ref f_law_is_large) = true)
    (alaw : PySem.W.nsIn K mainGlobals "law" = some (some (.ref flaw))) (llaw : K.lookup flaw = some ⟨oclaw, odlaw, .func (PySem.W.fnOf "law" "law" (defArgs slaw) (defBody slaw) (defScope slaw) .none kVlaw dclaw pmlaw anlaw cdlaw ctlaw), sllaw⟩) (claw : PySem.W.codeIn K cdlaw "law" = true) (klaw : PySem.W.keepIn K (.ref flaw) = true)
    (z_abs : PySem.W.nsIn K mainGlobals "abs" = some none)
    (z_all : PySem.W.nsIn K mainGlobals "all" = some none)
    (z_any : PySem.W.nsIn K mainGlobals "any" = some none)
    (z_bool : PySem.W.nsIn K mainGlobals "bool" = some none)
    (z_enumerate : PySem.W.nsIn K mainGlobals "enumerate" = some none)
    (z_int : PySem.W.nsIn K mainGlobals "int" = some none)
    (z_isinstance : PySem.W.nsIn K mainGlobals "isinstance" = some none)
    (z_len : PySem.W.nsIn K mainGlobals "len" = some none)
    (z_list : PySem.W.nsIn K mainGlobals "list" = some none)
    (z_max : PySem.W.nsIn K mainGlobals "max" = some none)
    (z_min : PySem.W.nsIn K mainGlobals "min" = some none)
    (z_range : PySem.W.nsIn K mainGlobals "range" = some none)
    (z_sorted : PySem.W.nsIn K mainGlobals "sorted" = some none)
    (z_str : PySem.W.nsIn K mainGlobals "str" = some none)
    (z_tuple : PySem.W.nsIn K mainGlobals "tuple" = some none)
    (z_zip : PySem.W.nsIn K mainGlobals "zip" = some none)
    : ∃ fd : FuncData, (∀ (s : Shared) (v : Value), BindsTo s fd ⟨[v], []⟩ [("script", v)]) ∧ ∀ base : Heap, K.In base → base.Ns mainGlobals mg → base.NoSeer → FnOk l.prog w K mg base CX0 60 fa fd ["script"] (spLaw K) := by
  have e := hfa.symm.trans (PySem.W.mg_of X G alaw)
  cases e
  let T : Txt K mg := {
    z_abs := PySem.W.mg_none_of X G z_abs
    z_all := PySem.W.mg_none_of X G z_all
    z_any := PySem.W.mg_none_of X G z_any
    z_bool := PySem.W.mg_none_of X G z_bool
    z_enumerate := PySem.W.mg_none_of X G z_enumerate
    z_int := PySem.W.mg_none_of X G z_int
    z_isinstance := PySem.W.mg_none_of X G z_isinstance
    z_len := PySem.W.mg_none_of X G z_len
    z_list := PySem.W.mg_none_of X G z_list
    z_max := PySem.W.mg_none_of X G z_max
    z_min := PySem.W.mg_none_of X G z_min
    z_range := PySem.W.mg_none_of X G z_range
    z_sorted := PySem.W.mg_none_of X G z_sorted
    z_str := PySem.W.mg_none_of X G z_str
    z_tuple := PySem.W.mg_none_of X G z_tuple
    z_zip := PySem.W.mg_none_of X G z_zip
    avalue_of := fvalue_of
    dvalue_of := _
    Fvalue_of := fun_mk (st := svalue_of) lvalue_of cvalue_of kvalue_of
    mvalue_of := PySem.W.mg_of X G avalue_of
    a_value_of_two := f_value_of_two
    d_value_of_two := _
    F_value_of_two := fun_mk (st := s_value_of_two) l_value_of_two c_value_of_two k_value_of_two
    m_value_of_two := PySem.W.mg_of X G a_value_of_two
    aholds := fholds
    dholds := _
    Fholds := fun_mk (st := sholds) lholds cholds kholds
    mholds := PySem.W.mg_of X G aholds
    avalues_by_name := fvalues_by_name
    dvalues_by_name := _
    Fvalues_by_name := fun_mk (st := svalues_by_name) lvalues_by_name cvalues_by_name kvalues_by_name
    mvalues_by_name := PySem.W.mg_of X G avalues_by_name
    astates_of := fstates_of
    dstates_of := _
    Fstates_of := fun_mk (st := sstates_of) lstates_of cstates_of kstates_of
    mstates_of := PySem.W.mg_of X G astates_of
    a_rows_in := f_rows_in
    d_rows_in := _
    F_rows_in := fun_mk (st := s_rows_in) l_rows_in c_rows_in k_rows_in
    m_rows_in := PySem.W.mg_of X G a_rows_in
    aposition_of := fposition_of
    dposition_of := _
    Fposition_of := fun_mk (st := sposition_of) lposition_of cposition_of kposition_of
    mposition_of := PySem.W.mg_of X G aposition_of
    apositions_where := fpositions_where
    dpositions_where := _
    Fpositions_where := fun_mk (st := spositions_where) lpositions_where cpositions_where kpositions_where
    mpositions_where := PySem.W.mg_of X G apositions_where
    a_law_draws := f_law_draws
    d_law_draws := _
    F_law_draws := fun_mk (st := s_law_draws) l_law_draws c_law_draws k_law_draws
    m_law_draws := PySem.W.mg_of X G a_law_draws
    a_law_take := f_law_take
    d_law_take := _
    F_law_take := fun_mk (st := s_law_take) l_law_take c_law_take k_law_take
    m_law_take := PySem.W.mg_of X G a_law_take
    a_law_cell := f_law_cell
    d_law_cell := _
    F_law_cell := fun_mk (st := s_law_cell) l_law_cell c_law_cell k_law_cell
    m_law_cell := PySem.W.mg_of X G a_law_cell
    a_law_word := f_law_word
    d_law_word := _
    F_law_word := fun_mk (st := s_law_word) l_law_word c_law_word k_law_word
    m_law_word := PySem.W.mg_of X G a_law_word
    a_law_some_word := f_law_some_word
    d_law_some_word := _
    F_law_some_word := fun_mk (st := s_law_some_word) l_law_some_word c_law_some_word k_law_some_word
    m_law_some_word := PySem.W.mg_of X G a_law_some_word
    a_law_reserved := f_law_reserved
    d_law_reserved := _
    F_law_reserved := fun_mk (st := s_law_reserved) l_law_reserved c_law_reserved k_law_reserved
    m_law_reserved := PySem.W.mg_of X G a_law_reserved
    a_law_name := f_law_name
    d_law_name := _
    F_law_name := fun_mk (st := s_law_name) l_law_name c_law_name k_law_name
    m_law_name := PySem.W.mg_of X G a_law_name
    a_law_names := f_law_names
    d_law_names := _
    F_law_names := fun_mk (st := s_law_names) l_law_names c_law_names k_law_names
    m_law_names := PySem.W.mg_of X G a_law_names
    a_law_number := f_law_number
    d_law_number := _
    F_law_number := fun_mk (st := s_law_number) l_law_number c_law_number k_law_number
    m_law_number := PySem.W.mg_of X G a_law_number
    a_law_leaf := f_law_leaf
    d_law_leaf := _
    F_law_leaf := fun_mk (st := s_law_leaf) l_law_leaf c_law_leaf k_law_leaf
    m_law_leaf := PySem.W.mg_of X G a_law_leaf
    a_law_expression := f_law_expression
    d_law_expression := _
    F_law_expression := fun_mk (st := s_law_expression) l_law_expression c_law_expression k_law_expression
    m_law_expression := PySem.W.mg_of X G a_law_expression
    a_law_test := f_law_test
    d_law_test := _
    F_law_test := fun_mk (st := s_law_test) l_law_test c_law_test k_law_test
    m_law_test := PySem.W.mg_of X G a_law_test
    a_law_inner := f_law_inner
    d_law_inner := _
    F_law_inner := fun_mk (st := s_law_inner) l_law_inner c_law_inner k_law_inner
    m_law_inner := PySem.W.mg_of X G a_law_inner
    a_law_depth := f_law_depth
    d_law_depth := _
    F_law_depth := fun_mk (st := s_law_depth) l_law_depth c_law_depth k_law_depth
    m_law_depth := PySem.W.mg_of X G a_law_depth
    a_law_is_test := f_law_is_test
    d_law_is_test := _
    F_law_is_test := fun_mk (st := s_law_is_test) l_law_is_test c_law_is_test k_law_is_test
    m_law_is_test := PySem.W.mg_of X G a_law_is_test
    a_law_around := f_law_around
    d_law_around := _
    F_law_around := fun_mk (st := s_law_around) l_law_around c_law_around k_law_around
    m_law_around := PySem.W.mg_of X G a_law_around
    a_law_ranges := f_law_ranges
    d_law_ranges := _
    F_law_ranges := fun_mk (st := s_law_ranges) l_law_ranges c_law_ranges k_law_ranges
    m_law_ranges := PySem.W.mg_of X G a_law_ranges
    a_law_step := f_law_step
    d_law_step := _
    F_law_step := fun_mk (st := s_law_step) l_law_step c_law_step k_law_step
    m_law_step := PySem.W.mg_of X G a_law_step
    a_law_plant := f_law_plant
    d_law_plant := _
    F_law_plant := fun_mk (st := s_law_plant) l_law_plant c_law_plant k_law_plant
    m_law_plant := PySem.W.mg_of X G a_law_plant
    a_law_same := f_law_same
    d_law_same := _
    F_law_same := fun_mk (st := s_law_same) l_law_same c_law_same k_law_same
    m_law_same := PySem.W.mg_of X G a_law_same
    a_law_value := f_law_value
    d_law_value := _
    F_law_value := fun_mk (st := s_law_value) l_law_value c_law_value k_law_value
    m_law_value := PySem.W.mg_of X G a_law_value
    a_law_truth := f_law_truth
    d_law_truth := _
    F_law_truth := fun_mk (st := s_law_truth) l_law_truth c_law_truth k_law_truth
    m_law_truth := PySem.W.mg_of X G a_law_truth
    a_law_rows := f_law_rows
    d_law_rows := _
    F_law_rows := fun_mk (st := s_law_rows) l_law_rows c_law_rows k_law_rows
    m_law_rows := PySem.W.mg_of X G a_law_rows
    a_law_named := f_law_named
    d_law_named := _
    F_law_named := fun_mk (st := s_law_named) l_law_named c_law_named k_law_named
    m_law_named := PySem.W.mg_of X G a_law_named
    a_law_where := f_law_where
    d_law_where := _
    F_law_where := fun_mk (st := s_law_where) l_law_where c_law_where k_law_where
    m_law_where := PySem.W.mg_of X G a_law_where
    a_law_is_large := f_law_is_large
    d_law_is_large := _
    F_law_is_large := fun_mk (st := s_law_is_large) l_law_is_large c_law_is_large k_law_is_large
    m_law_is_large := PySem.W.mg_of X G a_law_is_large
    alaw := fa
    dlaw := _
    Flaw := fun_mk (st := slaw) llaw claw klaw
    mlaw := PySem.W.mg_of X G alaw }
  refine ⟨T.dlaw, fun s v => .of_eq rfl, fun base _ _ hN => ?_⟩
  exact ok_law hN hp T
end NL
open PySem PySem.W PyProof.Rows
set_option maxRecDepth 100000 in
set_option maxHeartbeats 0 in
theorem PySem.Challenge.cw_neverleaves_k19_positions_of_states_holds : PySem.Challenge.rw_neverleaves_k19_positions_of_states.Holds := by
  w_on; o_law; k_head; (case hw => w_witness2)
  k_fill
  refine NL.walk_ofN (l := PySem.Challenge.rw_neverleaves_k19_positions_of_states) (n := 63) (k := 60) (x := "script") (CX := fun _ => L2.CX0) (sp := fun w => NL.spLaw _) rfl (by decide) rfl ⟨rfl, by decide, by decide⟩ (fun w h Y => PySem.W.kIn_of Y) (by decide +kernel) ?F (fun _ _ a ns hl hb _ hS => ⟨a, ns, rfl, hS, hl, hb, fun _ => rfl⟩) (fun _ _ _ _ _ h => h)
  case F =>
    intro w mg fa h KX G hmg
    refine' NL.all_mk rfl KX G hmg ?avalue_of ?lvalue_of ?cvalue_of ?kvalue_of ?a_value_of_two ?l_value_of_two ?c_value_of_two ?k_value_of_two ?aholds ?lholds ?cholds ?kholds ?avalues_by_name ?lvalues_by_name ?cvalues_by_name ?kvalues_by_name ?astates_of ?lstates_of ?cstates_of ?kstates_of ?a_rows_in ?l_rows_in ?c_rows_in ?k_rows_in ?aposition_of ?lposition_of ?cposition_of ?kposition_of ?apositions_where ?lpositions_where ?cpositions_where ?kpositions_where ?a_law_draws ?l_law_draws ?c_law_draws ?k_law_draws ?a_law_take ?l_law_take ?c_law_take ?k_law_take ?a_law_cell ?l_law_cell ?c_law_cell ?k_law_cell ?a_law_word ?l_law_word ?c_law_word ?k_law_word ?a_law_some_word ?l_law_some_word ?c_law_some_word ?k_law_some_word ?a_law_reserved ?l_law_reserved ?c_law_reserved ?k_law_reserved ?a_law_name ?l_law_name ?c_law_name ?k_law_name ?a_law_names ?l_law_names ?c_law_names ?k_law_names ?a_law_number ?l_law_number ?c_law_number ?k_law_number ?a_law_leaf ?l_law_leaf ?c_law_leaf ?k_law_leaf ?a_law_expression ?l_law_expression ?c_law_expression ?k_law_expression ?a_law_test ?l_law_test ?c_law_test ?k_law_test ?a_law_inner ?l_law_inner ?c_law_inner ?k_law_inner ?a_law_depth ?l_law_depth ?c_law_depth ?k_law_depth ?a_law_is_test ?l_law_is_test ?c_law_is_test ?k_law_is_test ?a_law_around ?l_law_around ?c_law_around ?k_law_around ?a_law_ranges ?l_law_ranges ?c_law_ranges ?k_law_ranges ?a_law_step ?l_law_step ?c_law_step ?k_law_step ?a_law_plant ?l_law_plant ?c_law_plant ?k_law_plant ?a_law_same ?l_law_same ?c_law_same ?k_law_same ?a_law_value ?l_law_value ?c_law_value ?k_law_value ?a_law_truth ?l_law_truth ?c_law_truth ?k_law_truth ?a_law_rows ?l_law_rows ?c_law_rows ?k_law_rows ?a_law_named ?l_law_named ?c_law_named ?k_law_named ?a_law_where ?l_law_where ?c_law_where ?k_law_where ?a_law_is_large ?l_law_is_large ?c_law_is_large ?k_law_is_large ?alaw ?llaw ?claw ?klaw  ?z_abs ?z_all ?z_any ?z_bool ?z_enumerate ?z_int ?z_isinstance ?z_len ?z_list ?z_max ?z_min ?z_range ?z_sorted ?z_str ?z_tuple ?z_zip
    (case avalue_of => k_is); (case lvalue_of => k_is); (case cvalue_of => k_is); (case kvalue_of => k_is)
    (case a_value_of_two => k_is); (case l_value_of_two => k_is); (case c_value_of_two => k_is); (case k_value_of_two => k_is)
    (case aholds => k_is); (case lholds => k_is); (case cholds => k_is); (case kholds => k_is)
    (case avalues_by_name => k_is); (case lvalues_by_name => k_is); (case cvalues_by_name => k_is); (case kvalues_by_name => k_is)
    (case astates_of => k_is); (case lstates_of => k_is); (case cstates_of => k_is); (case kstates_of => k_is)
    (case a_rows_in => k_is); (case l_rows_in => k_is); (case c_rows_in => k_is); (case k_rows_in => k_is)
    (case aposition_of => k_is); (case lposition_of => k_is); (case cposition_of => k_is); (case kposition_of => k_is)
    (case apositions_where => k_is); (case lpositions_where => k_is); (case cpositions_where => k_is); (case kpositions_where => k_is)
    (case a_law_draws => k_is); (case l_law_draws => k_is); (case c_law_draws => k_is); (case k_law_draws => k_is)
    (case a_law_take => k_is); (case l_law_take => k_is); (case c_law_take => k_is); (case k_law_take => k_is)
    (case a_law_cell => k_is); (case l_law_cell => k_is); (case c_law_cell => k_is); (case k_law_cell => k_is)
    (case a_law_word => k_is); (case l_law_word => k_is); (case c_law_word => k_is); (case k_law_word => k_is)
    (case a_law_some_word => k_is); (case l_law_some_word => k_is); (case c_law_some_word => k_is); (case k_law_some_word => k_is)
    (case a_law_reserved => k_is); (case l_law_reserved => k_is); (case c_law_reserved => k_is); (case k_law_reserved => k_is)
    (case a_law_name => k_is); (case l_law_name => k_is); (case c_law_name => k_is); (case k_law_name => k_is)
    (case a_law_names => k_is); (case l_law_names => k_is); (case c_law_names => k_is); (case k_law_names => k_is)
    (case a_law_number => k_is); (case l_law_number => k_is); (case c_law_number => k_is); (case k_law_number => k_is)
    (case a_law_leaf => k_is); (case l_law_leaf => k_is); (case c_law_leaf => k_is); (case k_law_leaf => k_is)
    (case a_law_expression => k_is); (case l_law_expression => k_is); (case c_law_expression => k_is); (case k_law_expression => k_is)
    (case a_law_test => k_is); (case l_law_test => k_is); (case c_law_test => k_is); (case k_law_test => k_is)
    (case a_law_inner => k_is); (case l_law_inner => k_is); (case c_law_inner => k_is); (case k_law_inner => k_is)
    (case a_law_depth => k_is); (case l_law_depth => k_is); (case c_law_depth => k_is); (case k_law_depth => k_is)
    (case a_law_is_test => k_is); (case l_law_is_test => k_is); (case c_law_is_test => k_is); (case k_law_is_test => k_is)
    (case a_law_around => k_is); (case l_law_around => k_is); (case c_law_around => k_is); (case k_law_around => k_is)
    (case a_law_ranges => k_is); (case l_law_ranges => k_is); (case c_law_ranges => k_is); (case k_law_ranges => k_is)
    (case a_law_step => k_is); (case l_law_step => k_is); (case c_law_step => k_is); (case k_law_step => k_is)
    (case a_law_plant => k_is); (case l_law_plant => k_is); (case c_law_plant => k_is); (case k_law_plant => k_is)
    (case a_law_same => k_is); (case l_law_same => k_is); (case c_law_same => k_is); (case k_law_same => k_is)
    (case a_law_value => k_is); (case l_law_value => k_is); (case c_law_value => k_is); (case k_law_value => k_is)
    (case a_law_truth => k_is); (case l_law_truth => k_is); (case c_law_truth => k_is); (case k_law_truth => k_is)
    (case a_law_rows => k_is); (case l_law_rows => k_is); (case c_law_rows => k_is); (case k_law_rows => k_is)
    (case a_law_named => k_is); (case l_law_named => k_is); (case c_law_named => k_is); (case k_law_named => k_is)
    (case a_law_where => k_is); (case l_law_where => k_is); (case c_law_where => k_is); (case k_law_where => k_is)
    (case a_law_is_large => k_is); (case l_law_is_large => k_is); (case c_law_is_large => k_is); (case k_law_is_large => k_is)
    (case alaw => k_is); (case llaw => k_is); (case claw => k_is); (case klaw => k_is)
    (case z_abs => k_is)
    (case z_all => k_is)
    (case z_any => k_is)
    (case z_bool => k_is)
    (case z_enumerate => k_is)
    (case z_int => k_is)
    (case z_isinstance => k_is)
    (case z_len => k_is)
    (case z_list => k_is)
    (case z_max => k_is)
    (case z_min => k_is)
    (case z_range => k_is)
    (case z_sorted => k_is)
    (case z_str => k_is)
    (case z_tuple => k_is)
    (case z_zip => k_is)
