import PyProof.Rows.All
import Wide.All
import OpenK.AllK
import Wide.FinOn
import HandS.ForExc
import HandS.ForMost
import HandS.TupAny
import HandS.IsInst
import HandS.Codes
import HandS.FStr
import HandS.Zip
import KE.KxIndex
import PySem.Challenge.RW_neverleaves_k14_written_plants
set_option Elab.async false
set_option linter.all false
set_option maxRecDepth 100000

namespace NL
open PySem PySem.Spec PyProof.Rows L2
def topS (i : Nat) : Stmt := PySem.Challenge.pw_neverleaves_k14_written_plants.main.body.getD i (.Pass ⟨0, 0, 0, 0⟩)
abbrev sparts_in : Stmt := topS 1
abbrev Nparts_in : List Str := ["whole", "word"]
abbrev Pparts_in : List Str := ["whole"]
theorem scparts_in : FnScope Nparts_in Pparts_in (defScope sparts_in) := ⟨rfl, rfl, rfl, by decide +kernel, rfl, by decide +kernel, by decide +kernel⟩
abbrev snames_of : Stmt := topS 3
abbrev Nnames_of : List Str := ["ranges", "name", "low", "high"]
abbrev Pnames_of : List Str := ["ranges"]
theorem scnames_of : FnScope Nnames_of Pnames_of (defScope snames_of) := ⟨rfl, rfl, rfl, by decide +kernel, rfl, by decide +kernel, by decide +kernel⟩
abbrev s_written : Stmt := topS 5
abbrev N_written : List Str := ["whole", "word", "parts", "part"]
abbrev P_written : List Str := ["whole"]
theorem sc_written : FnScope N_written P_written (defScope s_written) := ⟨rfl, rfl, rfl, by decide +kernel, rfl, by decide +kernel, by decide +kernel⟩
abbrev swrite_plant : Stmt := topS 6
abbrev Nwrite_plant : List Str := ["plant", "variables", "inputs", "disturbances", "steps", "allowed", "lines", "name", "step", "line"]
abbrev Pwrite_plant : List Str := ["plant"]
theorem scwrite_plant : FnScope Nwrite_plant Pwrite_plant (defScope swrite_plant) := ⟨rfl, rfl, rfl, by decide +kernel, rfl, by decide +kernel, by decide +kernel⟩
abbrev s_range_lines : Stmt := topS 7
abbrev N_range_lines : List Str := ["kind", "ranges", "name", "low", "high"]
abbrev P_range_lines : List Str := ["kind", "ranges"]
theorem sc_range_lines : FnScope N_range_lines P_range_lines (defScope s_range_lines) := ⟨rfl, rfl, rfl, by decide +kernel, rfl, by decide +kernel, by decide +kernel⟩
abbrev s_law_draws : Stmt := topS 9
abbrev N_law_draws : List Str := ["script", "many", "cells", "cell", "rest", "draws", "k", "at", "once"]
abbrev P_law_draws : List Str := ["script", "many"]
theorem sc_law_draws : FnScope N_law_draws P_law_draws (defScope s_law_draws) := ⟨rfl, rfl, rfl, by decide +kernel, rfl, by decide +kernel, by decide +kernel⟩
abbrev s_law_take : Stmt := topS 10
abbrev N_law_take : List Str := ["draws", "many"]
abbrev P_law_take : List Str := ["draws", "many"]
theorem sc_law_take : FnScope N_law_take P_law_take (defScope s_law_take) := ⟨rfl, rfl, rfl, by decide +kernel, rfl, by decide +kernel, by decide +kernel⟩
abbrev s_law_cell : Stmt := topS 11
abbrev N_law_cell : List Str := ["script", "draws"]
abbrev P_law_cell : List Str := ["script", "draws"]
theorem sc_law_cell : FnScope N_law_cell P_law_cell (defScope s_law_cell) := ⟨rfl, rfl, rfl, by decide +kernel, rfl, by decide +kernel, by decide +kernel⟩
abbrev s_law_word : Stmt := topS 12
abbrev N_law_word : List Str := ["number", "word", "k"]
abbrev P_law_word : List Str := ["number"]
theorem sc_law_word : FnScope N_law_word P_law_word (defScope s_law_word) := ⟨rfl, rfl, rfl, by decide +kernel, rfl, by decide +kernel, by decide +kernel⟩
abbrev s_law_some_word : Stmt := topS 13
abbrev N_law_some_word : List Str := ["draws", "number", "great"]
abbrev P_law_some_word : List Str := ["draws"]
theorem sc_law_some_word : FnScope N_law_some_word P_law_some_word (defScope s_law_some_word) := ⟨rfl, rfl, rfl, by decide +kernel, rfl, by decide +kernel, by decide +kernel⟩
abbrev s_law_reserved : Stmt := topS 14
abbrev N_law_reserved : List Str := ["first"]
abbrev P_law_reserved : List Str := []
theorem sc_law_reserved : FnScope N_law_reserved P_law_reserved (defScope s_law_reserved) := ⟨rfl, rfl, rfl, by decide +kernel, rfl, by decide +kernel, by decide +kernel⟩
abbrev s_law_name : Stmt := topS 15
abbrev N_law_name : List Str := ["draws", "known", "name", "near"]
abbrev P_law_name : List Str := ["draws"]
theorem sc_law_name : FnScope N_law_name P_law_name (defScope s_law_name) := ⟨rfl, rfl, rfl, by decide +kernel, rfl, by decide +kernel, by decide +kernel⟩
abbrev s_law_names : Stmt := topS 16
abbrev N_law_names : List Str := ["draws", "many", "names", "k", "name"]
abbrev P_law_names : List Str := ["draws", "many"]
theorem sc_law_names : FnScope N_law_names P_law_names (defScope s_law_names) := ⟨rfl, rfl, rfl, by decide +kernel, rfl, by decide +kernel, by decide +kernel⟩
abbrev s_law_number : Stmt := topS 17
abbrev N_law_number : List Str := ["draws", "cell"]
abbrev P_law_number : List Str := ["draws", "cell"]
theorem sc_law_number : FnScope N_law_number P_law_number (defScope s_law_number) := ⟨rfl, rfl, rfl, by decide +kernel, rfl, by decide +kernel, by decide +kernel⟩
abbrev s_law_leaf : Stmt := topS 18
abbrev N_law_leaf : List Str := ["draws", "names", "cell"]
abbrev P_law_leaf : List Str := ["draws", "names", "cell"]
theorem sc_law_leaf : FnScope N_law_leaf P_law_leaf (defScope s_law_leaf) := ⟨rfl, rfl, rfl, by decide +kernel, rfl, by decide +kernel, by decide +kernel⟩
abbrev s_law_expression : Stmt := topS 19
abbrev N_law_expression : List Str := ["draws", "names", "cell", "depth", "kind", "one", "two"]
abbrev P_law_expression : List Str := ["draws", "names", "cell", "depth"]
theorem sc_law_expression : FnScope N_law_expression P_law_expression (defScope s_law_expression) := ⟨rfl, rfl, rfl, by decide +kernel, rfl, by decide +kernel, by decide +kernel⟩
abbrev s_law_test : Stmt := topS 20
abbrev N_law_test : List Str := ["draws", "names", "cell", "depth", "kind", "one", "many", "k"]
abbrev P_law_test : List Str := ["draws", "names", "cell", "depth"]
theorem sc_law_test : FnScope N_law_test P_law_test (defScope s_law_test) := ⟨rfl, rfl, rfl, by decide +kernel, rfl, by decide +kernel, by decide +kernel⟩
abbrev s_law_inner : Stmt := topS 21
abbrev N_law_inner : List Str := ["item"]
abbrev P_law_inner : List Str := ["item"]
theorem sc_law_inner : FnScope N_law_inner P_law_inner (defScope s_law_inner) := ⟨rfl, rfl, rfl, by decide +kernel, rfl, by decide +kernel, by decide +kernel⟩
abbrev s_law_ranges : Stmt := topS 25
abbrev N_law_ranges : List Str := ["draws", "names", "room", "cell", "found", "name", "size", "low"]
abbrev P_law_ranges : List Str := ["draws", "names", "room", "cell"]
theorem sc_law_ranges : FnScope N_law_ranges P_law_ranges (defScope s_law_ranges) := ⟨rfl, rfl, rfl, by decide +kernel, rfl, by decide +kernel, by decide +kernel⟩
abbrev s_law_step : Stmt := topS 26
abbrev N_law_step : List Str := ["draws", "row", "names", "cell", "depth", "kind", "own", "found"]
abbrev P_law_step : List Str := ["draws", "row", "names", "cell", "depth"]
theorem sc_law_step : FnScope N_law_step P_law_step (defScope s_law_step) := ⟨rfl, rfl, rfl, by decide +kernel, rfl, by decide +kernel, by decide +kernel⟩
abbrev s_law_plant : Stmt := topS 27
abbrev N_law_plant : List Str := ["draws", "cell", "rooms", "counts", "names", "variables", "inputs", "noises", "deep", "steps", "row", "allowed"]
abbrev P_law_plant : List Str := ["draws", "cell", "rooms"]
theorem sc_law_plant : FnScope N_law_plant P_law_plant (defScope s_law_plant) := ⟨rfl, rfl, rfl, by decide +kernel, rfl, by decide +kernel, by decide +kernel⟩
abbrev s_law_wide : Stmt := topS 28
abbrev N_law_wide : List Str := ["draws", "plant", "cell", "at", "row", "far", "wide", "strange", "named", "more", "j", "k", "steps"]
abbrev P_law_wide : List Str := ["draws", "plant", "cell"]
theorem sc_law_wide : FnScope N_law_wide P_law_wide (defScope s_law_wide) := ⟨rfl, rfl, rfl, by decide +kernel, rfl, by decide +kernel, by decide +kernel⟩
abbrev s_law_far : Stmt := topS 29
abbrev N_law_far : List Str := ["script", "draws", "cell"]
abbrev P_law_far : List Str := ["script", "draws"]
theorem sc_law_far : FnScope N_law_far P_law_far (defScope s_law_far) := ⟨rfl, rfl, rfl, by decide +kernel, rfl, by decide +kernel, by decide +kernel⟩
abbrev s_law_tokens : Stmt := topS 30
abbrev N_law_tokens : List Str := ["item", "found", "parts", "k"]
abbrev P_law_tokens : List Str := ["item"]
theorem sc_law_tokens : FnScope N_law_tokens P_law_tokens (defScope s_law_tokens) := ⟨rfl, rfl, rfl, by decide +kernel, rfl, by decide +kernel, by decide +kernel⟩
abbrev s_law_written : Stmt := topS 31
abbrev N_law_written : List Str := ["tokens", "token"]
abbrev P_law_written : List Str := ["tokens"]
theorem sc_law_written : FnScope N_law_written P_law_written (defScope s_law_written) := ⟨rfl, rfl, rfl, by decide +kernel, rfl, by decide +kernel, by decide +kernel⟩
abbrev s_law_item_text : Stmt := topS 32
abbrev N_law_item_text : List Str := ["item"]
abbrev P_law_item_text : List Str := ["item"]
theorem sc_law_item_text : FnScope N_law_item_text P_law_item_text (defScope s_law_item_text) := ⟨rfl, rfl, rfl, by decide +kernel, rfl, by decide +kernel, by decide +kernel⟩
abbrev s_law_rows_of_text : Stmt := topS 33
abbrev N_law_rows_of_text : List Str := ["plant", "rows", "k", "row"]
abbrev P_law_rows_of_text : List Str := ["plant"]
theorem sc_law_rows_of_text : FnScope N_law_rows_of_text P_law_rows_of_text (defScope s_law_rows_of_text) := ⟨rfl, rfl, rfl, by decide +kernel, rfl, by decide +kernel, by decide +kernel⟩
abbrev slaw : Stmt := topS 34
abbrev Nlaw : List Str := ["script", "draws", "cell", "plant", "actual", "row", "plain"]
abbrev Plaw : List Str := ["script"]
theorem sclaw : FnScope Nlaw Plaw (defScope slaw) := ⟨rfl, rfl, rfl, by decide +kernel, rfl, by decide +kernel, by decide +kernel⟩
def KT (K : PySem.W.Frag) (a : Addr) (ys : List V) : Prop := ∃ o its n, List.lookup a K = some o ∧ o.cls = .type "tuple" ∧ o.data = .seq its n ∧ its.size ≤ sizeLine ∧ L2.Vals ys its.toList
theorem kt_mk {K : PySem.W.Frag} {a : Addr} {ys : List V} {o : Obj} {its : Array Value} {n : Nat} (h1 : List.lookup a K = some o) (h2 : o.cls = .type "tuple") (h3 : o.data = .seq its n) (h4 : its.size ≤ sizeLine) (h5 : L2.Vals ys its.toList) : KT K a ys := ⟨o, its, n, h1, h2, h3, h4, h5⟩
structure Txt (K : PySem.W.Frag) (mg : Str → Option Value) where
  z_abs : mg "abs" = none
  z_int : mg "int" = none
  z_isinstance : mg "isinstance" = none
  z_len : mg "len" = none
  z_list : mg "list" = none
  z_min : mg "min" = none
  z_range : mg "range" = none
  z_str : mg "str" = none
  z_tuple : mg "tuple" = none
  z_zip : mg "zip" = none
  aparts_in : Addr
  dparts_in : FuncData
  Fparts_in : Fun K "parts_in" "parts_in" sparts_in aparts_in dparts_in
  mparts_in : mg "parts_in" = some (.ref aparts_in)
  anames_of : Addr
  dnames_of : FuncData
  Fnames_of : Fun K "names_of" "names_of" snames_of anames_of dnames_of
  mnames_of : mg "names_of" = some (.ref anames_of)
  a_written : Addr
  d_written : FuncData
  F_written : Fun K "_written" "_written" s_written a_written d_written
  m_written : mg "_written" = some (.ref a_written)
  awrite_plant : Addr
  dwrite_plant : FuncData
  Fwrite_plant : Fun K "write_plant" "write_plant" swrite_plant awrite_plant dwrite_plant
  mwrite_plant : mg "write_plant" = some (.ref awrite_plant)
  a_range_lines : Addr
  d_range_lines : FuncData
  F_range_lines : Fun K "_range_lines" "_range_lines" s_range_lines a_range_lines d_range_lines
  m_range_lines : mg "_range_lines" = some (.ref a_range_lines)
  a_law_draws : Addr
  d_law_draws : FuncData
  F_law_draws : Fun K "_law_draws" "_law_draws" s_law_draws a_law_draws d_law_draws
  m_law_draws : mg "_law_draws" = some (.ref a_law_draws)
  a_law_take : Addr
  d_law_take : FuncData
  F_law_take : Fun K "_law_take" "_law_take" s_law_take a_law_take d_law_take
  m_law_take : mg "_law_take" = some (.ref a_law_take)
  a_law_cell : Addr
  d_law_cell : FuncData
  F_law_cell : Fun K "_law_cell" "_law_cell" s_law_cell a_law_cell d_law_cell
  m_law_cell : mg "_law_cell" = some (.ref a_law_cell)
  a_law_word : Addr
  d_law_word : FuncData
  F_law_word : Fun K "_law_word" "_law_word" s_law_word a_law_word d_law_word
  m_law_word : mg "_law_word" = some (.ref a_law_word)
  a_law_some_word : Addr
  d_law_some_word : FuncData
  F_law_some_word : Fun K "_law_some_word" "_law_some_word" s_law_some_word a_law_some_word d_law_some_word
  m_law_some_word : mg "_law_some_word" = some (.ref a_law_some_word)
  a_law_reserved : Addr
  d_law_reserved : FuncData
  F_law_reserved : Fun K "_law_reserved" "_law_reserved" s_law_reserved a_law_reserved d_law_reserved
  m_law_reserved : mg "_law_reserved" = some (.ref a_law_reserved)
  a_law_name : Addr
  d_law_name : FuncData
  F_law_name : Fun K "_law_name" "_law_name" s_law_name a_law_name d_law_name
  m_law_name : mg "_law_name" = some (.ref a_law_name)
  a_law_names : Addr
  d_law_names : FuncData
  F_law_names : Fun K "_law_names" "_law_names" s_law_names a_law_names d_law_names
  m_law_names : mg "_law_names" = some (.ref a_law_names)
  a_law_number : Addr
  d_law_number : FuncData
  F_law_number : Fun K "_law_number" "_law_number" s_law_number a_law_number d_law_number
  m_law_number : mg "_law_number" = some (.ref a_law_number)
  a_law_leaf : Addr
  d_law_leaf : FuncData
  F_law_leaf : Fun K "_law_leaf" "_law_leaf" s_law_leaf a_law_leaf d_law_leaf
  m_law_leaf : mg "_law_leaf" = some (.ref a_law_leaf)
  a_law_expression : Addr
  d_law_expression : FuncData
  F_law_expression : Fun K "_law_expression" "_law_expression" s_law_expression a_law_expression d_law_expression
  m_law_expression : mg "_law_expression" = some (.ref a_law_expression)
  a_law_test : Addr
  d_law_test : FuncData
  F_law_test : Fun K "_law_test" "_law_test" s_law_test a_law_test d_law_test
  m_law_test : mg "_law_test" = some (.ref a_law_test)
  a_law_inner : Addr
  d_law_inner : FuncData
  F_law_inner : Fun K "_law_inner" "_law_inner" s_law_inner a_law_inner d_law_inner
  m_law_inner : mg "_law_inner" = some (.ref a_law_inner)
  a_law_ranges : Addr
  d_law_ranges : FuncData
  F_law_ranges : Fun K "_law_ranges" "_law_ranges" s_law_ranges a_law_ranges d_law_ranges
  m_law_ranges : mg "_law_ranges" = some (.ref a_law_ranges)
  a_law_step : Addr
  d_law_step : FuncData
  F_law_step : Fun K "_law_step" "_law_step" s_law_step a_law_step d_law_step
  m_law_step : mg "_law_step" = some (.ref a_law_step)
  a_law_plant : Addr
  d_law_plant : FuncData
  F_law_plant : Fun K "_law_plant" "_law_plant" s_law_plant a_law_plant d_law_plant
  m_law_plant : mg "_law_plant" = some (.ref a_law_plant)
  a_law_wide : Addr
  d_law_wide : FuncData
  F_law_wide : Fun K "_law_wide" "_law_wide" s_law_wide a_law_wide d_law_wide
  m_law_wide : mg "_law_wide" = some (.ref a_law_wide)
  a_law_far : Addr
  d_law_far : FuncData
  F_law_far : Fun K "_law_far" "_law_far" s_law_far a_law_far d_law_far
  m_law_far : mg "_law_far" = some (.ref a_law_far)
  a_law_tokens : Addr
  d_law_tokens : FuncData
  F_law_tokens : Fun K "_law_tokens" "_law_tokens" s_law_tokens a_law_tokens d_law_tokens
  m_law_tokens : mg "_law_tokens" = some (.ref a_law_tokens)
  a_law_written : Addr
  d_law_written : FuncData
  F_law_written : Fun K "_law_written" "_law_written" s_law_written a_law_written d_law_written
  m_law_written : mg "_law_written" = some (.ref a_law_written)
  a_law_item_text : Addr
  d_law_item_text : FuncData
  F_law_item_text : Fun K "_law_item_text" "_law_item_text" s_law_item_text a_law_item_text d_law_item_text
  m_law_item_text : mg "_law_item_text" = some (.ref a_law_item_text)
  a_law_rows_of_text : Addr
  d_law_rows_of_text : FuncData
  F_law_rows_of_text : Fun K "_law_rows_of_text" "_law_rows_of_text" s_law_rows_of_text a_law_rows_of_text d_law_rows_of_text
  m_law_rows_of_text : mg "_law_rows_of_text" = some (.ref a_law_rows_of_text)
  alaw : Addr
  dlaw : FuncData
  Flaw : Fun K "law" "law" slaw alaw dlaw
  mlaw : mg "law" = some (.ref alaw)
theorem Txt.bparts_in {K : PySem.W.Frag} {mg : Str → Option Value} (T : Txt K mg) : Binds K T.dparts_in Pparts_in [] := T.Fparts_in.binds fun _ _ _ _ _ _ us hl => match us, hl with | [_], _ => rfl
theorem Txt.bnames_of {K : PySem.W.Frag} {mg : Str → Option Value} (T : Txt K mg) : Binds K T.dnames_of Pnames_of [] := T.Fnames_of.binds fun _ _ _ _ _ _ us hl => match us, hl with | [_], _ => rfl
theorem Txt.b_written {K : PySem.W.Frag} {mg : Str → Option Value} (T : Txt K mg) : Binds K T.d_written P_written [] := T.F_written.binds fun _ _ _ _ _ _ us hl => match us, hl with | [_], _ => rfl
theorem Txt.bwrite_plant {K : PySem.W.Frag} {mg : Str → Option Value} (T : Txt K mg) : Binds K T.dwrite_plant Pwrite_plant [] := T.Fwrite_plant.binds fun _ _ _ _ _ _ us hl => match us, hl with | [_], _ => rfl
theorem Txt.b_range_lines {K : PySem.W.Frag} {mg : Str → Option Value} (T : Txt K mg) : Binds K T.d_range_lines P_range_lines [] := T.F_range_lines.binds fun _ _ _ _ _ _ us hl => match us, hl with | [_, _], _ => rfl
theorem Txt.b_law_draws {K : PySem.W.Frag} {mg : Str → Option Value} (T : Txt K mg) : Binds K T.d_law_draws P_law_draws [] := T.F_law_draws.binds fun _ _ _ _ _ _ us hl => match us, hl with | [_, _], _ => rfl
theorem Txt.b_law_take {K : PySem.W.Frag} {mg : Str → Option Value} (T : Txt K mg) : Binds K T.d_law_take P_law_take [] := T.F_law_take.binds fun _ _ _ _ _ _ us hl => match us, hl with | [_, _], _ => rfl
theorem Txt.b_law_cell {K : PySem.W.Frag} {mg : Str → Option Value} (T : Txt K mg) : Binds K T.d_law_cell P_law_cell [] := T.F_law_cell.binds fun _ _ _ _ _ _ us hl => match us, hl with | [_, _], _ => rfl
theorem Txt.b_law_word {K : PySem.W.Frag} {mg : Str → Option Value} (T : Txt K mg) : Binds K T.d_law_word P_law_word [] := T.F_law_word.binds fun _ _ _ _ _ _ us hl => match us, hl with | [_], _ => rfl
theorem Txt.b_law_some_word {K : PySem.W.Frag} {mg : Str → Option Value} (T : Txt K mg) : Binds K T.d_law_some_word P_law_some_word [] := T.F_law_some_word.binds fun _ _ _ _ _ _ us hl => match us, hl with | [_], _ => rfl
theorem Txt.b_law_reserved {K : PySem.W.Frag} {mg : Str → Option Value} (T : Txt K mg) : Binds K T.d_law_reserved P_law_reserved [] := T.F_law_reserved.binds fun _ _ _ _ _ _ us hl => match us, hl with | [], _ => rfl
theorem Txt.b_law_name {K : PySem.W.Frag} {mg : Str → Option Value} (T : Txt K mg) : Binds K T.d_law_name P_law_name [] := T.F_law_name.binds fun _ _ _ _ _ _ us hl => match us, hl with | [_], _ => rfl
theorem Txt.b_law_names {K : PySem.W.Frag} {mg : Str → Option Value} (T : Txt K mg) : Binds K T.d_law_names P_law_names [] := T.F_law_names.binds fun _ _ _ _ _ _ us hl => match us, hl with | [_, _], _ => rfl
theorem Txt.b_law_number {K : PySem.W.Frag} {mg : Str → Option Value} (T : Txt K mg) : Binds K T.d_law_number P_law_number [] := T.F_law_number.binds fun _ _ _ _ _ _ us hl => match us, hl with | [_, _], _ => rfl
theorem Txt.b_law_leaf {K : PySem.W.Frag} {mg : Str → Option Value} (T : Txt K mg) : Binds K T.d_law_leaf P_law_leaf [] := T.F_law_leaf.binds fun _ _ _ _ _ _ us hl => match us, hl with | [_, _, _], _ => rfl
theorem Txt.b_law_expression {K : PySem.W.Frag} {mg : Str → Option Value} (T : Txt K mg) : Binds K T.d_law_expression P_law_expression [] := T.F_law_expression.binds fun _ _ _ _ _ _ us hl => match us, hl with | [_, _, _, _], _ => rfl
theorem Txt.b_law_test {K : PySem.W.Frag} {mg : Str → Option Value} (T : Txt K mg) : Binds K T.d_law_test P_law_test [] := T.F_law_test.binds fun _ _ _ _ _ _ us hl => match us, hl with | [_, _, _, _], _ => rfl
theorem Txt.b_law_inner {K : PySem.W.Frag} {mg : Str → Option Value} (T : Txt K mg) : Binds K T.d_law_inner P_law_inner [] := T.F_law_inner.binds fun _ _ _ _ _ _ us hl => match us, hl with | [_], _ => rfl
theorem Txt.b_law_ranges {K : PySem.W.Frag} {mg : Str → Option Value} (T : Txt K mg) : Binds K T.d_law_ranges P_law_ranges [] := T.F_law_ranges.binds fun _ _ _ _ _ _ us hl => match us, hl with | [_, _, _, _], _ => rfl
theorem Txt.b_law_step {K : PySem.W.Frag} {mg : Str → Option Value} (T : Txt K mg) : Binds K T.d_law_step P_law_step [] := T.F_law_step.binds fun _ _ _ _ _ _ us hl => match us, hl with | [_, _, _, _, _], _ => rfl
theorem Txt.b_law_plant {K : PySem.W.Frag} {mg : Str → Option Value} (T : Txt K mg) : Binds K T.d_law_plant P_law_plant [] := T.F_law_plant.binds fun _ _ _ _ _ _ us hl => match us, hl with | [_, _, _], _ => rfl
theorem Txt.b_law_wide {K : PySem.W.Frag} {mg : Str → Option Value} (T : Txt K mg) : Binds K T.d_law_wide P_law_wide [] := T.F_law_wide.binds fun _ _ _ _ _ _ us hl => match us, hl with | [_, _, _], _ => rfl
theorem Txt.b_law_far {K : PySem.W.Frag} {mg : Str → Option Value} (T : Txt K mg) : Binds K T.d_law_far P_law_far [] := T.F_law_far.binds fun _ _ _ _ _ _ us hl => match us, hl with | [_, _], _ => rfl
theorem Txt.b_law_tokens {K : PySem.W.Frag} {mg : Str → Option Value} (T : Txt K mg) : Binds K T.d_law_tokens P_law_tokens [] := T.F_law_tokens.binds fun _ _ _ _ _ _ us hl => match us, hl with | [_], _ => rfl
theorem Txt.b_law_written {K : PySem.W.Frag} {mg : Str → Option Value} (T : Txt K mg) : Binds K T.d_law_written P_law_written [] := T.F_law_written.binds fun _ _ _ _ _ _ us hl => match us, hl with | [_], _ => rfl
theorem Txt.b_law_item_text {K : PySem.W.Frag} {mg : Str → Option Value} (T : Txt K mg) : Binds K T.d_law_item_text P_law_item_text [] := T.F_law_item_text.binds fun _ _ _ _ _ _ us hl => match us, hl with | [_], _ => rfl
theorem Txt.b_law_rows_of_text {K : PySem.W.Frag} {mg : Str → Option Value} (T : Txt K mg) : Binds K T.d_law_rows_of_text P_law_rows_of_text [] := T.F_law_rows_of_text.binds fun _ _ _ _ _ _ us hl => match us, hl with | [_], _ => rfl
theorem Txt.blaw {K : PySem.W.Frag} {mg : Str → Option Value} (T : Txt K mg) : Binds K T.dlaw Plaw [] := T.Flaw.binds fun _ _ _ _ _ _ us hl => match us, hl with | [_], _ => rfl
end NL

namespace NL
open PySem PySem.Spec PyProof.Rows L2

/-! ### frames: what stays while the list of draws at d is used up -/
structure Go (d : Addr) (H H' : Hp) : Prop where
  fr : ∀ b o, b ≠ d → H b = some o → H' b = some o
  dr : ∃ ns : List Int, H' d = some (.lst (ns.map V.int))
abbrev Dr (H : Hp) (d : Addr) : Prop := ∃ ns : List Int, H d = some (.lst (ns.map V.int))
theorem Go.refl {d : Addr} {H : Hp} (h : Dr H d) : Go d H H := ⟨fun _ _ _ e => e, h⟩
theorem Go.trans {d : Addr} {H H1 H2 : Hp} (a : Go d H H1) (b : Go d H1 H2) : Go d H H2 := ⟨fun c o n e => b.fr c o n (a.fr c o n e), b.dr⟩
theorem Go.new {d p : Addr} {H : Hp} {o : HO} (h : Dr H d) (hp : H p = none) : Go d H (upd H p o) := by
  obtain ⟨ns, e⟩ := h
  have n : d ≠ p := ne_of_none e hp
  exact ⟨fun b u _ q => by rw [upd_ne (ne_of_none q hp)]; exact q, ⟨ns, by rw [upd_ne n]; exact e⟩⟩
theorem Go.put {d : Addr} {H : Hp} (ns : List Int) : Go d H (upd H d (.lst (ns.map V.int))) := ⟨fun b u n q => by rw [upd_ne n]; exact q, ⟨ns, upd_same⟩⟩
theorem Go.same {d : Addr} {H H' : Hp} (h : Dr H d) (s : Same H H') : Go d H H' := ⟨fun b o _ e => s b o e, by obtain ⟨ns, e⟩ := h; exact ⟨ns, s _ _ e⟩⟩
theorem Go.tup {d a : Addr} {H H' : Hp} {xs : List V} (g : Go d H H') (h : Dr H d) (e : H a = some (.tup xs)) : H' a = some (.tup xs) := by
  refine g.fr a _ ?_ e
  rintro rfl
  obtain ⟨ns, q⟩ := h
  rw [e] at q; cases q
theorem same_new {H : Hp} {p : Addr} (h : H p = none) (o : HO) : Same H (upd H p o) := fun b u q => by rw [upd_ne (ne_of_none q h)]; exact q
/-- all tuples stay -/
def Tp (H H' : Hp) : Prop := ∀ a xs, H a = some (.tup xs) → H' a = some (.tup xs)
theorem Go.tp {d : Addr} {H H' : Hp} (g : Go d H H') (h : Dr H d) : Tp H H' := fun _ _ e => g.tup h e
theorem Tp.same {H H' : Hp} (s : Same H H') : Tp H H' := fun _ _ e => s _ _ e
theorem Tp.trans {H H1 H2 : Hp} (a : Tp H H1) (b : Tp H1 H2) : Tp H H2 := fun x y e => b x y (a x y e)
theorem Tp.refl {H : Hp} : Tp H H := fun _ _ e => e
/-- a list that stays readable whatever is drawn at d -/
def Keep (K : PySem.W.Frag) (d : Addr) (H : Hp) (a : Addr) (xs : List V) : Prop := ∀ H', (∀ b o, b ≠ d → H b = some o → H' b = some o) → SqL K H' a xs
theorem Keep.now {K : PySem.W.Frag} {d a : Addr} {H : Hp} {xs : List V} (k : Keep K d H a xs) : SqL K H a xs := k H fun _ _ _ e => e
theorem Keep.go {K : PySem.W.Frag} {d a : Addr} {H H' : Hp} {xs : List V} (k : Keep K d H a xs) (g : Go d H H') : Keep K d H' a xs := fun H2 f => k H2 fun b o n e => f b o n (g.fr b o n e)
theorem Keep.of {K : PySem.W.Frag} {d a : Addr} {H : Hp} {xs : List V} (n : a ≠ d) (h : H a = some (.lst xs)) : Keep K d H a xs := fun H' f => .inl (.inl (f a _ n h))
/-- what was read ahead of the draws' list stays -/
theorem Keep.old {K : PySem.W.Frag} {d a : Addr} {H0 H : Hp} {xs : List V} (h : SqL K H0 a xs) (hd : H0 d = none) (f : ∀ b o, H0 b = some o → H b = some o) : Keep K d H a xs := fun H' g => by
  rcases h with (h | ⟨o, h⟩) | h
  · exact .inl (.inl (g a _ (ne_of_none h hd) (f _ _ h)))
  · exact .inl (.inr ⟨o, g a _ (ne_of_none h hd) (f _ _ h)⟩)
  · exact .inr h

/-! ### rules whose written part is named (in a comprehension) -/
theorem ix_tupK {X : Cx} {K : PySem.W.Frag} (h : X.K = K) : IxR X (rIxT K) := by subst h; exact ix_tup
theorem ix_listK {X : Cx} {K : PySem.W.Frag} (h : X.K = K) : IxR X (rIxL K) := by subst h; exact ix_list
def rTupOf (K : PySem.W.Frag) : List V → Hp → VK → Prop := fun xs H Q => ∃ p ys, xs = [.ref p] ∧ ((SqL K H p ys ∧ ∀ l, H l = none → Q (.ref l) (upd H l (.tup ys))) ∨ (SqT K H p ys ∧ Q (.ref p) H))
theorem call_tuple_ofK {X : Cx} {K : PySem.W.Frag} (h : X.K = K) : CallR X (.type "tuple") (rTupOf K) := by subst h; exact call_tuple_of
/-! ### texts and words -/
/-- signs a to z alone -/
def Wd (z : Str) : Prop := ∀ c ∈ z.cps.toList, 97 ≤ c ∧ c ≤ 122
instance (z : Str) : Decidable (Wd z) := by unfold Wd; infer_instance
def res : List Str := ["true", "false", "add", "sub", "mul", "div", "mod", "min", "max", "abs", "if", "less", "equal", "not", "all", "any"]
theorem app_list (a b : Str) : (a ++ b).cps.toList = a.cps.toList ++ b.cps.toList := by
  show (a.cps ++ b.cps).toList = _
  simp
theorem len_list (a : Str) : a.length = a.cps.toList.length := by
  show a.cps.size = _
  simp
theorem len_app (a b : Str) : (a ++ b).length = a.length + b.length := by
  rw [len_list, app_list, List.length_append, ← len_list, ← len_list]
theorem str_ext {a b : Str} (h : a.cps.toList = b.cps.toList) : a = b := by
  cases a with | mk x => cases b with | mk y =>
  have : x = y := Array.toList_inj.mp h
  rw [this]
theorem Wd.app {a b : Str} (ha : Wd a) (hb : Wd b) : Wd (a ++ b) := fun c hc => by
  rw [app_list] at hc
  rcases List.mem_append.mp hc with h | h
  · exact ha c h
  · exact hb c h
structure Nam (z : Str) : Prop where
  wd : Wd z
  len : 0 < z.length ∧ z.length ≤ 200
  nr : z ∉ res
structure Nm (z : Str) : Prop where
  wd : Wd z
  len : 0 < z.length ∧ z.length ≤ 150

/-! ### lists at an index -/
theorem atI_mem {α : Type} {xs : List α} {i : Int} (h0 : 0 ≤ i) (h1 : i < xs.length) : ∃ v, atI xs i = some v ∧ v ∈ xs := by
  have hk : i.toNat < xs.length := by omega
  have ek : i = ((i.toNat : Nat) : Int) := by omega
  have q : atI xs ((i.toNat : Nat) : Int) = some xs[i.toNat] := atI_nat (List.getElem?_eq_getElem hk)
  rw [← ek] at q
  exact ⟨_, q, List.getElem_mem hk⟩
theorem atI_map {α β : Type} {f : α → β} {xs : List α} {i : Int} (h0 : 0 ≤ i) (h1 : i < xs.length) : ∃ v, atI (xs.map f) i = some (f v) ∧ v ∈ xs := by
  obtain ⟨v, h, m⟩ := atI_mem (xs := xs.map f) h0 (by rw [List.length_map]; exact h1)
  obtain ⟨u, hu, rfl⟩ := List.mem_map.mp m
  exact ⟨u, h, hu⟩
theorem sqd {K : PySem.W.Frag} {H : Hp} {a : Addr} {xs : List V} (h : H a = some (.lst xs)) : SqL K H a xs := .inl (.inl h)
theorem sqt {K : PySem.W.Frag} {H : Hp} {a : Addr} {xs : List V} (h : H a = some (.tup xs)) : SqT K H a xs := .inl (.inl h)
theorem int_eq {i j : Int} (h : decide (V.int i = V.int j) = true) : i = j := V.int.inj (of_decide_eq_true h)
theorem int_ne {i j : Int} (h : ¬ decide (V.int i = V.int j) = true) : i ≠ j := fun e => h (decide_eq_true (by rw [e]))
section
variable {P : Program} {w : World} {K : PySem.W.Frag} {mg : Str → Option Value} {base : Heap}
/-! ### _law_take -/
def spTake : Sp := fun vs H Q _ => ∃ (d : Addr) (m : Int), vs = [.ref d, .int m] ∧ Dr H d ∧ 0 < m ∧ ∀ r H', Go d H H' → 0 ≤ r → r < m → Q (.int r) H'
theorem ok_law_take (T : Txt K mg) : FnOk P w K mg base CX0 1 T.a_law_take T.d_law_take P_law_take spTake := by
  refine T.F_law_take.ok sc_law_take (fun vs H Q E h => ?_) (fun cdv A outer s H vs Q E hr h => ?_)
  · obtain ⟨d, m, rfl, _⟩ := h
    rfl
  obtain ⟨d, m, rfl, hD, hm, q⟩ := h
  refine ⟨_, (pss_cons (ps_if (pt_cmpR op_eq (pe_callB call_len_seq (by rfl) T.z_len PySem.boot_len (pa_cons (pv 0) pa_nil)) pe_int (nomark _))
    (pss_one (ps_ret pe_int))
    pss_nil)
    (pss_one (ps_ret (pe_op op_mod (pe_callTy call_int1 (by rfl) T.z_int (by decide +kernel) (pa_cons (pe_bm0 PySem.F.plainAttrs_list PySem.F.slot_list_pop PySem.F.type_list_pop mt_pop (pv 0)) pa_nil)) (pv 1))))), ?_⟩
  obtain ⟨ns, hd⟩ := hD
  refine ⟨_, rfl, _, _, rfl, .inl (sqd hd), rfl, _, rfl, ?_⟩
  refine ite2 (fun c => ?_) (fun c => ?_)
  · exact q 0 H (Go.refl ⟨ns, hd⟩) (Int.le_refl 0) hm
  · have hn := int_ne c
    rw [List.length_map] at hn
    have hz : ns ≠ [] := by
      rintro rfl
      exact hn rfl
    have hl : 0 < ns.length := List.length_pos_iff.mpr hz
    have he : (ns.map V.int)[(ns.map V.int).length - 1]? = some (.int ns[ns.length - 1]) := by
      rw [List.length_map, List.getElem?_map, List.getElem?_eq_getElem (by omega)]
      rfl
    refine ⟨_, rfl, .inl ⟨rfl, _, sqd hd⟩, _, _, _, rfl, rfl, hd, he, .inl ⟨_, rfl, ?_⟩⟩
    refine ⟨_, rfl, _, _, rfl, rfl, hm, ?_⟩
    refine q _ _ ?_ (Int.emod_nonneg _ (by omega)) (Int.emod_lt_of_pos _ hm)
    rw [← List.map_dropLast]
    exact Go.put _
end
end NL

namespace NL
open PySem PySem.Spec PyProof.Rows L2
/-! ### a text times a number -/
theorem op_mulS {X : Cx} : OpR X (binaryOp .Mult) (fun x y H Q => ∃ (z : Str) (k : Int), x = .str z ∧ y = .int k ∧ z.length ≤ 16 ∧ 0 ≤ k ∧ k ≤ 1000 ∧ ((Txt.mul z k).length = z.length * k.toNat → Q (.str (Txt.mul z k)) H)) := by
  intro pins s σ H x y v u Q I rx ry h
  obtain ⟨z, k, rfl, rfl, hz, h0, h1, q⟩ := h
  obtain ⟨t, rfl⟩ := rx
  obtain ⟨t', rfl⟩ := ry
  refine PySem.W.KXi.mul rfl hz (by omega) (by omega) fun t' tk _ hl => ⟨.str (Txt.mul z k), H, I.tok _, ⟨_, rfl⟩, q ?_⟩
  have e := hl h0
  have e2 : k = ((k.toNat : Nat) : Int) := by omega
  rw [e2] at e
  have : ((z.length : Int) * ((k.toNat : Nat) : Int)) = ((z.length * k.toNat : Nat) : Int) := by push_cast; rfl
  rw [this] at e
  have e3 := Int.ofNat.inj e
  rw [← e2] at e3
  exact e3
def abc : Str := "abcdefghijklmnopqrstuvwxyz"
theorem abc_at {i : Int} (h0 : 0 ≤ i) (h1 : i < 26) : ∃ c, atI abc.cps.toList i = some c ∧ 97 ≤ c ∧ c ≤ 122 := by
  have hl : abc.cps.toList.length = 26 := by decide +kernel
  obtain ⟨c, h, m⟩ := atI_mem (xs := abc.cps.toList) h0 (by rw [hl]; exact h1)
  have hall : ∀ c ∈ abc.cps.toList, 97 ≤ c ∧ c ≤ 122 := by decide +kernel
  exact ⟨c, h, hall c m⟩
section
variable {P : Program} {w : World} {K : PySem.W.Frag} {mg : Str → Option Value} {base : Heap}
/-! ### _law_cell -/
def spCell (K : PySem.W.Frag) : Sp := fun vs H Q _ => ∃ (a d : Addr) (ns : List Int), vs = [.ref a, .ref d] ∧ Keep K d H a (ns.map V.int) ∧ Dr H d ∧ ∀ r H', Go d H H' → (r = 0 ∨ r ∈ ns) → Q (.int r) H'
theorem ok_law_cell (T : Txt K mg) : FnOk P w K mg base CX0 2 T.a_law_cell T.d_law_cell P_law_cell (spCell K) := by
  have G_law_take := ok_law_take (P := P) (w := w) (base := base) T
  refine T.F_law_cell.ok sc_law_cell (fun vs H Q E h => ?_) (fun cdv A outer s H vs Q E hr h => ?_)
  · obtain ⟨a, d, ns, rfl, _⟩ := h
    rfl
  obtain ⟨a, d, ns, rfl, hk, hD, q⟩ := h
  refine ⟨_, (pss_cons (ps_if (pt_cmpR op_eq (pe_callB call_len_seq (by rfl) T.z_len PySem.boot_len (pa_cons (pv 0) pa_nil)) pe_int (nomark _))
    (pss_one (ps_ret pe_int))
    pss_nil)
    (pss_one (ps_ret (pe_callTy call_int1 (by rfl) T.z_int (by decide +kernel) (pa_cons (pe_ix ix_list (pv 0) (pe_call G_law_take (hr.mono (by omega)) (by rfl) T.m_law_take T.F_law_take.kp T.b_law_take .nil pass0 (pa_cons (pv 1) (pa_cons (pe_callB call_len_seq (by rfl) T.z_len PySem.boot_len (pa_cons (pv 0) pa_nil)) pa_nil))) (fun _ _ => rfl)) pa_nil))))), ?_⟩
  refine ⟨_, rfl, _, _, rfl, .inl hk.now, rfl, _, rfl, ?_⟩
  refine ite2 (fun c => ?_) (fun c => ?_)
  · exact q 0 H (Go.refl hD) (.inl rfl)
  · have hn := int_ne c
    rw [List.length_map] at hn
    refine ⟨_, rfl, _, rfl, _, rfl, _, _, rfl, .inl hk.now, d, _, rfl, hD, by rw [List.length_map]; omega, fun r H1 g h0 h1 => ?_⟩
    rw [List.length_map] at h1
    obtain ⟨v, hv, hm⟩ := atI_map (f := V.int) h0 h1
    exact ⟨_, _, _, _, rfl, rfl, (hk.go g).now, hv, .inl ⟨_, rfl, q v H1 g (.inr hm)⟩⟩
/-! ### _law_word -/
def spWord : Sp := fun vs H Q _ => ∃ i : Int, vs = [.int i] ∧ ∀ z : Str, Wd z → z.length ≤ 60 → (1 ≤ i → 0 < z.length) → Q (.str z) H
theorem ok_law_word (T : Txt K mg) : FnOk P w K mg base CX0 1 T.a_law_word T.d_law_word P_law_word spWord := by
  refine T.F_law_word.ok sc_law_word (fun vs H Q E h => ?_) (fun cdv A outer s H vs Q E hr h => ?_)
  · obtain ⟨i, rfl, _⟩ := h
    rfl
  obtain ⟨i0, rfl, q⟩ := h
  refine ⟨_, (pss_cons (ps_set (i := 1) sc_law_word.nd rfl (Or.inl rfl) pe_str)
    (pss_cons (ps_for  PassesOwn.never rfl (pi_range1 (by rfl) T.z_range (pa_cons pe_int pa_nil)) (pg_name (i := 2) sc_law_word.nd rfl (Or.inl rfl))
    (pss_cons (ps_if (pt_cmpR op_lt (pv 0) pe_int (nomark _))
    (pss_one ps_break)
    pss_nil)
    (pss_cons (ps_set (i := 1) sc_law_word.nd rfl (Or.inl rfl) (pe_op op_add_str (pe_ix ix_str pe_str (pe_op op_mod (pe_callTy call_int1 (by rfl) T.z_int (by decide +kernel) (pa_cons (pe_op op_sub (pv 0) pe_int) pa_nil)) pe_int) (fun _ _ => rfl)) (pv 1)))
    (pss_one (ps_set (i := 0) sc_law_word.nd rfl (Or.inl rfl) (pe_op op_fdiv (pe_op op_sub (pv 0) pe_int) pe_int))))))
    (pss_one (ps_ret (pv 1))))), ?_⟩
  refine ⟨60, rfl, by decide, by decide, for_range (lo := 0) (n := 60) (fun j σ H' => ∃ (i : Int) (z : Str) (y : Option V), σ = [some (.int i), some (.str z), y] ∧ H' = H ∧ Wd z ∧ z.length ≤ j ∧ (j = 0 → i = i0) ∧ (0 < j → 0 < z.length)) ?_ ?_ ?_⟩
  · exact ⟨i0, _, none, rfl, rfl, (by decide +kernel), (by decide +kernel), fun _ => rfl, fun h => absurd h (by decide)⟩
  · rintro j σ H' hj ⟨i, z, y, rfl, rfl, hw, hz, e0, e1⟩
    refine ⟨_, rfl, _, _, rfl, rfl, _, rfl, ?_⟩
    refine ite2 (fun c => ?_) (fun c => ?_)
    · have hi : i < 1 := of_decide_eq_true c
      exact ⟨_, rfl, q z hw (by omega) fun h1 => e1 (by
        rcases Nat.eq_zero_or_pos j with e | e
        · have := e0 e
          omega
        · exact e)⟩
    · obtain ⟨ch, hc, hc1⟩ := abc_at (Int.emod_nonneg (i - 1) (by decide : (26 : Int) ≠ 0)) (Int.emod_lt_of_pos (i - 1) (by decide))
      have hw1 : Wd (⟨#[ch]⟩ : Str) := fun c h => by
        have : c = ch := by simpa using h
        rw [this]
        exact hc1
      have hl : ((⟨#[ch]⟩ : Str) ++ z).length = 1 + z.length := by rw [len_app] <;> rfl
      refine ⟨_, rfl, _, _, rfl, rfl, .inl ⟨_, rfl, _, _, rfl, rfl, (by show (0 : Int) < 26; decide), _, _, ch, rfl, rfl, (by decide +kernel), hc, _, rfl, _, _, rfl, rfl, ?_, ?_⟩⟩
      · have : (⟨#[ch]⟩ : Str).length = 1 := rfl
        rw [this]
        exact Nat.le_of_lt (small1000 (by omega))
      · refine ⟨_, rfl, _, _, rfl, rfl, _, _, rfl, rfl, ⟨by decide, by decide⟩, ?_⟩
        exact ⟨_, _, _, rfl, rfl, hw1.app hw, by rw [hl]; omega, fun h => absurd h (by omega), fun _ => by rw [hl]; omega⟩
  · rintro σ H' ⟨i, z, y, rfl, rfl, hw, hz, e0, e1⟩
    exact ⟨_, rfl, q z hw hz fun _ => e1 (by decide)⟩
end
end NL

namespace NL
open PySem PySem.Spec PyProof.Rows L2
section
variable {P : Program} {w : World} {K : PySem.W.Frag} {mg : Str → Option Value} {base : Heap}
/-! ### _law_some_word -/
theorem fold_wd {p : Nat → Prop} : ∀ (l : List (Array Nat)) (acc : Array Nat), (∀ c ∈ acc.toList, p c) → (∀ a ∈ l, ∀ c ∈ a.toList, p c) → ∀ c ∈ (l.foldl (· ++ ·) acc).toList, p c
  | [], acc, h, _, c, hc => h c hc
  | a :: r, acc, h, g, c, hc => by
    refine fold_wd r (acc ++ a) (fun c hc => ?_) (fun a ha => g a (List.mem_cons_of_mem _ ha)) c hc
    rw [Array.toList_append] at hc
    rcases List.mem_append.mp hc with h1 | h1
    · exact h c h1
    · exact g a List.mem_cons_self c h1
theorem mul_wd {z : Str} (h : Wd z) (k : Int) : Wd (Txt.mul z k) := by
  unfold Txt.mul
  split
  · decide
  · split
    · exact h
    · refine fold_wd _ _ (fun c hc => by simp at hc) fun a ha => ?_
      rw [(List.mem_replicate.mp ha).2]
      exact h
def spSomeWord : Sp := fun vs H Q _ => ∃ d : Addr, vs = [.ref d] ∧ Dr H d ∧ ∀ z H', Go d H H' → Nm z → Q (.str z) H'
theorem ok_law_some_word (T : Txt K mg) : FnOk P w K mg base CX0 2 T.a_law_some_word T.d_law_some_word P_law_some_word spSomeWord := by
  have G_law_take := ok_law_take (P := P) (w := w) (base := base) T
  have G_law_word := ok_law_word (P := P) (w := w) (base := base) T
  refine T.F_law_some_word.ok sc_law_some_word (fun vs H Q E h => ?_) (fun cdv A outer s H vs Q E hr h => ?_)
  · obtain ⟨d, rfl, _⟩ := h
    rfl
  obtain ⟨d, rfl, hD, q⟩ := h
  refine ⟨_, (pss_cons (ps_set (i := 1) sc_law_some_word.nd rfl (Or.inl rfl) (pe_call G_law_take (hr.mono (by omega)) (by rfl) T.m_law_take T.F_law_take.kp T.b_law_take .nil pass0 (pa_cons (pv 0) (pa_cons pe_int pa_nil))))
    (pss_cons (ps_if (pt_cmpR op_lt (pv 1) pe_int (nomark _))
    (pss_one (ps_ret (pe_call G_law_word (hr.mono (by omega)) (by rfl) T.m_law_word T.F_law_word.kp T.b_law_word .nil pass0 (pa_cons (pe_op op_add (pe_op op_add pe_int (pe_op op_mod (pv 1) pe_int)) (pe_op op_mul pe_int (pe_op op_mod (pe_op op_fdiv (pv 1) pe_int) pe_int))) pa_nil))))
    pss_nil)
    (pss_cons (ps_if (pt_cmpR op_lt (pv 1) pe_int (nomark _))
    (pss_one (ps_ret (pe_call G_law_word (hr.mono (by omega)) (by rfl) T.m_law_word T.F_law_word.kp T.b_law_word .nil pass0 (pa_cons (pe_op op_add pe_int (pe_call G_law_take (hr.mono (by omega)) (by rfl) T.m_law_take T.F_law_take.kp T.b_law_take .nil pass0 (pa_cons (pv 0) (pa_cons pe_int pa_nil)))) pa_nil))))
    pss_nil)
    (pss_cons (ps_if (pt_cmpR op_lt (pv 1) pe_int (nomark _))
    (pss_one (ps_ret (pe_op op_add_str (pe_op op_mulS pe_str (pe_op op_add pe_int (pe_op op_mod (pe_callTy call_int1 (by rfl) T.z_int (by decide +kernel) (pa_cons (pv 1) pa_nil)) pe_int))) (pe_call G_law_word (hr.mono (by omega)) (by rfl) T.m_law_word T.F_law_word.kp T.b_law_word .nil pass0 (pa_cons (pe_op op_add pe_int (pe_call G_law_take (hr.mono (by omega)) (by rfl) T.m_law_take T.F_law_take.kp T.b_law_take .nil pass0 (pa_cons (pv 0) (pa_cons pe_int pa_nil)))) pa_nil)))))
    pss_nil)
    (pss_cons (ps_set (i := 2) sc_law_some_word.nd rfl (Or.inl rfl) (pe_op op_add (pe_op op_mul pe_int (pe_call G_law_take (hr.mono (by omega)) (by rfl) T.m_law_take T.F_law_take.kp T.b_law_take .nil pass0 (pa_cons (pv 0) (pa_cons pe_int pa_nil)))) (pe_op op_mul pe_int (pe_call G_law_take (hr.mono (by omega)) (by rfl) T.m_law_take T.F_law_take.kp T.b_law_take .nil pass0 (pa_cons (pv 0) (pa_cons pe_int pa_nil))))))
    (C8.pss_cut (ps_if (pt_cmpR op_ge (pv 1) pe_int (nomark _))
    (pss_one (ps_set (i := 2) sc_law_some_word.nd rfl (Or.inl rfl) (pe_op op_mul (pv 2) (pe_op op_pow pe_int pe_int))))
    pss_nil)
    (pss_one (ps_ret (pe_call G_law_word (hr.mono (by omega)) (by rfl) T.m_law_word T.F_law_word.kp T.b_law_word .nil pass0 (pa_cons (pe_op op_add (pe_op op_add pe_int (pv 2)) (pe_call G_law_take (hr.mono (by omega)) (by rfl) T.m_law_take T.F_law_take.kp T.b_law_take .nil pass0 (pa_cons (pv 0) (pa_cons pe_int pa_nil)))) pa_nil)))))))))), ?_⟩
  -- number = take(draws, 1000)
  refine ⟨_, rfl, d, _, rfl, hD, (by decide), fun n H1 g1 n0 n1 => ?_⟩
  -- if number < 600
  refine ⟨_, rfl, _, _, rfl, rfl, _, rfl, ?_⟩
  refine ite2 (fun c => ?_) (fun c => ?_)
  · refine ⟨_, rfl, _, _, rfl, rfl, (by show (0 : Int) < 6; decide), _, _, rfl, rfl, _, rfl, _, _, rfl, rfl, ⟨by decide, by decide⟩, _, _, rfl, rfl, (by show (0 : Int) < 2; decide), _, _, rfl, rfl, .inl ⟨by decide, by decide⟩, _, _, rfl, rfl, _, rfl, fun z hw hl hp => ?_⟩
    have b1 := Int.emod_nonneg n (by decide : (6 : Int) ≠ 0)
    have b2 := Int.emod_nonneg (n / 100) (by decide : (2 : Int) ≠ 0)
    exact q z H1 g1 ⟨hw, hp (by omega), by omega⟩
  -- if number < 850
  refine ⟨_, rfl, _, _, rfl, rfl, _, rfl, ?_⟩
  refine ite2 (fun c => ?_) (fun c => ?_)
  · refine ⟨_, rfl, d, _, rfl, g1.dr, (by decide), fun r H2 g2 r0 r1 => ?_⟩
    refine ⟨_, _, rfl, rfl, _, rfl, fun z hw hl hp => ?_⟩
    exact q z H2 (g1.trans g2) ⟨hw, hp (by omega), by omega⟩
  -- if number < 875
  refine ⟨_, rfl, _, _, rfl, rfl, _, rfl, ?_⟩
  refine ite2 (fun c => ?_) (fun c => ?_)
  · have b1 := Int.emod_nonneg n (by decide : (3 : Int) ≠ 0)
    have b2 := Int.emod_lt_of_pos n (by decide : (0 : Int) < 3)
    refine ⟨_, rfl, .inl ⟨_, rfl, _, _, rfl, rfl, (by show (0 : Int) < 3; decide), _, _, rfl, rfl, _, _, rfl, rfl, (by decide +kernel), (by omega), (by omega), fun hm => ?_⟩⟩
    refine ⟨_, rfl, d, _, rfl, g1.dr, (by decide), fun r H2 g2 r0 r1 => ?_⟩
    refine ⟨_, _, rfl, rfl, _, rfl, fun z hw hl hp => ?_⟩
    have l12 : ("abcdefghijkl" : Str).length = 12 := by decide +kernel
    have w12 : Wd ("abcdefghijkl" : Str) := by decide +kernel
    rw [l12] at hm
    have hb : (1 + n % 3).toNat ≤ 6 := by omega
    have hp' := hp (by omega)
    refine ⟨_, _, rfl, rfl, ?_, q _ H2 (g1.trans g2) ⟨(mul_wd w12 _).app hw, ?_, ?_⟩⟩
    · rw [hm]
      exact Nat.le_of_lt (small1000 (by omega))
    · rw [len_app]; omega
    · rw [len_app, hm]; omega
  -- great = ..
  refine ⟨_, rfl, d, _, rfl, g1.dr, (by decide), fun r H2 g2 r0 r1 => ?_⟩
  refine ⟨_, _, rfl, rfl, .inl ⟨by decide, by decide⟩, ?_⟩
  refine ⟨_, rfl, d, _, rfl, g2.dr, (by decide), fun t H3 g3 t0 t1 => ?_⟩
  refine ⟨_, _, rfl, rfl, .inl ⟨by decide, by decide⟩, _, _, rfl, rfl, ?_⟩
  refine ⟨fun σ H4 => ∃ gr : Int, 0 ≤ gr ∧ σ = [some (.ref d), some (.int n), some (.int gr)] ∧ Go d H H4, ?_, ?_⟩
  · refine ⟨_, rfl, _, _, rfl, rfl, _, rfl, ?_⟩
    refine ite2 (fun c => ?_) (fun c => ?_)
    · refine ⟨_, rfl, _, _, rfl, rfl, ⟨by decide, by decide, by decide⟩, _, _, rfl, rfl, ?_, ?_⟩
      · left
        constructor <;> omega
      · refine ⟨_, ?_, rfl, (g1.trans g2).trans g3⟩
        have : (0 : Int) ≤ 10 ^ (Int.toNat 15) := by decide
        exact Int.mul_nonneg (by omega) this
    · exact ⟨_, by omega, rfl, (g1.trans g2).trans g3⟩
  · rintro σ H4 ⟨gr, hg, rfl, g4⟩
    refine ⟨_, rfl, _, _, rfl, rfl, _, rfl, d, _, rfl, g4.dr, (by decide), fun u H5 g5 u0 u1 => ?_⟩
    refine ⟨_, _, rfl, rfl, _, rfl, fun z hw hl hp => ?_⟩
    exact q z H5 (g4.trans g5) ⟨hw, hp (by omega), by omega⟩
/-! ### _law_reserved -/
def spReserved : Sp := fun vs H Q _ => vs = [] ∧ ∀ p H', Same H H' → H p = none → H' p = some (.lst (res.map V.str)) → Q (.ref p) H'
theorem ok_law_reserved (T : Txt K mg) : FnOk P w K mg base CX0 1 T.a_law_reserved T.d_law_reserved P_law_reserved spReserved := by
  refine T.F_law_reserved.ok sc_law_reserved (fun vs H Q E h => ?_) (fun cdv A outer s H vs Q E hr h => ?_)
  · obtain ⟨rfl, _⟩ := h
    rfl
  obtain ⟨rfl, q⟩ := h
  refine ⟨_, (pss_cons (ps_set (i := 0) sc_law_reserved.nd rfl (Or.inl rfl) (pe_lst (pa_cons pe_str (pa_cons pe_str (pa_cons pe_str (pa_cons pe_str (pa_cons pe_str (pa_cons pe_str (pa_cons pe_str (pa_cons pe_str (pa_cons pe_str (pa_cons pe_str pa_nil))))))))))))
    (pss_one (ps_ret (pe_op op_cat (pv 0) (pe_lst (pa_cons pe_str (pa_cons pe_str (pa_cons pe_str (pa_cons pe_str (pa_cons pe_str (pa_cons pe_str pa_nil))))))))))), ?_⟩
  refine ⟨(by decide), fun p hp => ?_⟩
  refine ⟨_, rfl, (by decide), fun p2 hp2 => ?_⟩
  have n12 : p ≠ p2 := ne_of_none upd_same hp2
  refine ⟨_, _, _, _, rfl, rfl, (by rw [upd_ne n12]; exact upd_same), upd_same, (by decide), fun p3 hp3 => ?_⟩
  refine q p3 _ ?_ ?_ ?_
  · exact (same_new hp _).trans ((same_new hp2 _).trans (same_new hp3 _))
  · exact ((same_new hp _).trans (same_new hp2 _)).free hp3
  · rw [upd_same]
    rfl
end
end NL

namespace NL
open PySem PySem.Spec PyProof.Rows L2
/-! ### the tree of an expression or a condition -/
inductive It where
  | num (n : Int)
  | name (x : Str)
  | lit (b : Bool)
  | un (w : Str) (a : It)
  | dm (w : Str) (a : It) (n : Int)
  | bin (w : Str) (a b : It)
  | tri (a b c : It)
  | grp (w : Str) (l : List It)
def bstr (b : Bool) : Str := if b then "true" else "false"
/-- the tree stands at v -/
inductive ItemIn (H : Hp) : It → V → Prop where
  | num {n a} : H a = some (.tup [.str "number", .int n]) → ItemIn H (.num n) (.ref a)
  | name {x a} : H a = some (.tup [.str "name", .str x]) → ItemIn H (.name x) (.ref a)
  | lit {b a} : H a = some (.tup [.str (bstr b)]) → ItemIn H (.lit b) (.ref a)
  | un {w i a x} : H a = some (.tup [.str w, x]) → ItemIn H i x → ItemIn H (.un w i) (.ref a)
  | dm {w i n a x} : H a = some (.tup [.str w, x, .int n]) → ItemIn H i x → ItemIn H (.dm w i n) (.ref a)
  | bin {w i j a x y} : H a = some (.tup [.str w, x, y]) → ItemIn H i x → ItemIn H j y → ItemIn H (.bin w i j) (.ref a)
  | tri {i j k a x y z} : H a = some (.tup [.str "if", x, y, z]) → ItemIn H i x → ItemIn H j y → ItemIn H k z → ItemIn H (.tri i j k) (.ref a)
  | grp {w l a b xs} : H a = some (.tup [.str w, .ref b]) → H b = some (.tup xs) → xs.length = l.length → (∀ (k : Nat) i x, l[k]? = some i → xs[k]? = some x → ItemIn H i x) → ItemIn H (.grp w l) (.ref a)
theorem ItemIn.mono {H H' : Hp} (t : Tp H H') {i : It} {v : V} (h : ItemIn H i v) : ItemIn H' i v := by
  induction h with
  | num e => exact .num (t _ _ e)
  | name e => exact .name (t _ _ e)
  | lit e => exact .lit (t _ _ e)
  | un e _ ih => exact .un (t _ _ e) ih
  | dm e _ ih => exact .dm (t _ _ e) ih
  | bin e _ _ ih jh => exact .bin (t _ _ e) ih jh
  | tri e _ _ _ ih jh kh => exact .tri (t _ _ e) ih jh kh
  | grp e f g _ ih => exact .grp (t _ _ e) (t _ _ f) g ih
theorem ItemIn.go {d : Addr} {H H' : Hp} {i : It} {v : V} (h : ItemIn H i v) (g : Go d H H') (hD : Dr H d) : ItemIn H' i v := h.mono (g.tp hD)
theorem ItemIn.ref {H : Hp} {i : It} {v : V} (h : ItemIn H i v) : ∃ a, v = .ref a := by cases h <;> exact ⟨_, rfl⟩
mutual
def It.dep : It → Nat
  | .num _ => 1
  | .name _ => 1
  | .lit _ => 1
  | .un _ a => 1 + a.dep
  | .dm _ a _ => 1 + a.dep
  | .bin _ a b => 1 + max a.dep b.dep
  | .tri a b c => 1 + max a.dep (max b.dep c.dep)
  | .grp _ l => 1 + depL l
def depL : List It → Nat
  | [] => 0
  | a :: r => max a.dep (depL r)
end
mutual
def It.sz : It → Nat
  | .num _ => 1
  | .name _ => 1
  | .lit _ => 1
  | .un _ a => 1 + a.sz
  | .dm _ a _ => 1 + a.sz
  | .bin _ a b => 1 + a.sz + b.sz
  | .tri a b c => 1 + a.sz + b.sz + c.sz
  | .grp _ l => 1 + szL l
def szL : List It → Nat
  | [] => 0
  | a :: r => a.sz + szL r
end
/-- of the right kinds: conditions (true) and expressions (false), over names, ints within B -/
inductive Okx (xs : List Str) (B : Nat) : Bool → It → Prop where
  | num {n} : n.natAbs ≤ B → Okx xs B false (.num n)
  | name {x} : x ∈ xs → Okx xs B false (.name x)
  | lit {b} : Okx xs B true (.lit b)
  | abs {a} : Okx xs B false a → Okx xs B false (.un "abs" a)
  | not {a} : Okx xs B true a → Okx xs B true (.un "not" a)
  | dm {w a n} : w ∈ (["div", "mod"] : List Str) → Okx xs B false a → 1 ≤ n → n.natAbs ≤ B + 1 → Okx xs B false (.dm w a n)
  | bin {w a b} : w ∈ (["add", "sub", "mul", "min", "max"] : List Str) → Okx xs B false a → Okx xs B false b → Okx xs B false (.bin w a b)
  | cmp {w a b} : w ∈ (["less", "equal"] : List Str) → Okx xs B false a → Okx xs B false b → Okx xs B true (.bin w a b)
  | tri {a b c} : Okx xs B true a → Okx xs B false b → Okx xs B false c → Okx xs B false (.tri a b c)
  | grp {w l} : w ∈ (["all", "any"] : List Str) → l.length ≤ 100 → (∀ i ∈ l, Okx xs B true i) → Okx xs B true (.grp w l)
theorem dep_pos : ∀ i : It, 1 ≤ i.dep
  | .num _ => by rw [It.dep]; omega
  | .name _ => by rw [It.dep]; omega
  | .lit _ => by rw [It.dep]; omega
  | .un _ a => by rw [It.dep]; omega
  | .dm _ a _ => by rw [It.dep]; omega
  | .bin _ a b => by rw [It.dep]; omega
  | .tri a b c => by rw [It.dep]; omega
  | .grp _ l => by rw [It.dep]; omega
section
variable {P : Program} {w : World} {K : PySem.W.Frag} {mg : Str → Option Value} {base : Heap}
/-! ### _law_name -/
theorem flat_res : (res.map V.str).all flatV = true := by decide +kernel
theorem flat_strs' (ys : List Str) : (ys.map V.str).all flatV = true := by
  rw [List.all_map]
  exact List.all_eq_true.mpr fun _ _ => rfl
theorem inV_str {x : Str} {ys : List Str} : inV (.str x) (ys.map V.str) = decide (x ∈ ys) := by
  unfold inV
  rw [List.any_map]
  induction ys with
  | nil => rfl
  | cons y r ih =>
    rw [List.any_cons, ih]
    show (eqV (.str y) (.str x) || _) = _
    have e : eqV (.str y) (.str x) = decide (x = y) := by
      show (y == x) = _
      rw [Bool.beq_eq_decide_eq]
      exact decide_eq_decide.mpr ⟨fun h => h.symm, fun h => h.symm⟩
    rw [e]
    by_cases h : x = y
    · rw [decide_eq_true h, decide_eq_true (List.mem_cons.mpr (.inl h)), Bool.true_or]
    · rw [decide_eq_false h, Bool.false_or]
      exact decide_eq_decide.mpr ⟨fun m => List.mem_cons_of_mem _ m, fun m => (List.mem_cons.mp m).resolve_left h⟩
theorem res_wd : ∀ z ∈ res, Wd z ∧ 2 ≤ z.length ∧ z.length ≤ 5 := by decide +kernel
theorem not_x : ∀ z ∈ res, ∀ y ∈ res, y ++ ("x" : Str) ≠ z := by decide +kernel
def spName : Sp := fun vs H Q _ => ∃ d : Addr, vs = [.ref d] ∧ Dr H d ∧ ∀ z H', Go d H H' → Nam z → Q (.str z) H'
theorem wd_cut {z : Str} (h : Wd z) (lo hi : Option Int) : Wd (cutS z lo hi) := fun c hc => by
  refine h c ?_
  unfold cutS at hc
  exact List.mem_of_mem_drop (List.mem_of_mem_take (by simpa using hc))
theorem len_cut1 {z : Str} (h : 2 ≤ z.length) : (cutS z none (some (-1))).length = z.length - 1 := by
  rw [len_list]
  unfold cutS
  rw [HT.sIx_none, show HT.sIx z.length z.length (some (-1)) = z.length - 1 by
    show (if (-1 : Int) < 0 then ((-1 : Int) + (z.length : Int)).toNat else min (-1 : Int).toNat z.length) = z.length - 1
    rw [if_pos (by decide)]
    omega]
  rw [List.toList_toArray, List.length_take, List.length_drop, ← len_list]
  omega
theorem ok_law_name (T : Txt K mg) : FnOk P w K mg base CX0 3 T.a_law_name T.d_law_name P_law_name spName := by
  have G_law_take := ok_law_take (P := P) (w := w) (base := base) T
  have G_law_some_word := ok_law_some_word (P := P) (w := w) (base := base) T
  have G_law_reserved := ok_law_reserved (P := P) (w := w) (base := base) T
  refine T.F_law_name.ok sc_law_name (fun vs H Q E h => ?_) (fun cdv A outer s H vs Q E hr h => ?_)
  · obtain ⟨d, rfl, _⟩ := h
    rfl
  obtain ⟨d, rfl, hD, q⟩ := h
  refine ⟨_, (pss_cons (ps_set (i := 1) sc_law_name.nd rfl (Or.inl rfl) (pe_call0 G_law_reserved (hr.mono (by omega)) (by rfl) T.m_law_reserved T.F_law_reserved.kp T.b_law_reserved .nil pass0))
    (pss_cons (ps_set (i := 2) sc_law_name.nd rfl (Or.inl rfl) (pe_call G_law_some_word (hr.mono (by omega)) (by rfl) T.m_law_some_word T.F_law_some_word.kp T.b_law_some_word .nil pass0 (pa_cons (pv 0) pa_nil)))
    (C8.pss_cut (ps_if (pt_cmpR op_eq (pe_call G_law_take (hr.mono (by omega)) (by rfl) T.m_law_take T.F_law_take.kp T.b_law_take .nil pass0 (pa_cons (pv 0) (pa_cons pe_int pa_nil))) pe_int (nomark _))
    (pss_cons (ps_set (i := 3) sc_law_name.nd rfl (Or.inl rfl) (pe_ix ix_list (pv 1) (pe_call G_law_take (hr.mono (by omega)) (by rfl) T.m_law_take T.F_law_take.kp T.b_law_take .nil pass0 (pa_cons (pv 0) (pa_cons pe_int pa_nil))) (fun _ _ => rfl)))
    (pss_one (ps_set (i := 2) sc_law_name.nd rfl (Or.inl rfl) (pe_ix ix_list (pe_lst (pa_cons (pe_op op_add_str (pv 3) pe_str) (pa_cons (pe_slice sl_str (pv 3) po_none (po_some (pe_un un_neg pe_int))) (pa_cons (pe_op op_add_str pe_str (pv 3)) pa_nil)))) (pe_call G_law_take (hr.mono (by omega)) (by rfl) T.m_law_take T.F_law_take.kp T.b_law_take .nil pass0 (pa_cons (pv 0) (pa_cons pe_int pa_nil))) (fun _ _ => rfl)))))
    pss_nil)
    (pss_cons (ps_if (pt_cmpR op_in_seq (pv 2) (pv 1) (by rfl))
    (pss_one (ps_ret (pe_op op_add_str (pv 2) pe_str)))
    pss_nil)
    (pss_one (ps_ret (pv 2))))))), ?_⟩
  refine ⟨rfl, fun kn H1 s1 n1 e1 => ?_⟩
  have hn : kn ≠ d := by
    rintro rfl
    obtain ⟨ns, hd⟩ := hD
    rw [n1] at hd; cases hd
  have g1 : Go d H H1 := .same hD s1
  have k1 : Keep K d H1 kn (res.map V.str) := .of hn e1
  refine ⟨_, rfl, d, rfl, g1.dr, fun z H2 g2 hz => ?_⟩
  refine ⟨fun σ H4 => ∃ (z : Str) (y : Option V), Nm z ∧ σ = [some (.ref d), some (.ref kn), some (.str z), y] ∧ Go d H1 H4, ?_, ?_⟩
  · refine ⟨_, rfl, d, _, rfl, g2.dr, (by decide), fun r H3 g3 r0 r1 => ?_⟩
    refine ⟨rfl, _, rfl, ?_⟩
    refine ite2 (fun c => ?_) (fun c => ?_)
    · refine ⟨_, rfl, _, rfl, d, _, rfl, g3.dr, (by decide), fun t H4 g4 t0 t1 => ?_⟩
      obtain ⟨nr, h1, h2⟩ := atI_map (f := V.str) (xs := res) t0 t1
      refine ⟨_, _, _, _, rfl, rfl, ((k1.go g2).go (g3.trans g4)).now, h1, ?_⟩
      obtain ⟨w1, w2, w3⟩ := res_wd nr h2
      have ws : Wd ("s" : Str) ∧ ("s" : Str).length = 1 ∧ Wd ("a" : Str) ∧ ("a" : Str).length = 1 := by decide +kernel
      have sz : ∀ n, n ≤ 1000 → n ≤ sizeLine := fun n h => Nat.le_of_lt (small1000 h)
      refine ⟨_, rfl, _, _, rfl, rfl, sz _ (by rw [ws.2.1]; omega), _, rfl, _, rfl, _, rfl, _, rfl, sz _ (by omega), _, rfl, _, _, rfl, rfl, sz _ (by rw [ws.2.2.2]; omega), (Nat.le_of_ble_eq_true rfl), fun p hp => ?_⟩
      have dp := g4.dr
      have g5 := fun o => Go.new (o := o) dp hp
      refine ⟨_, rfl, d, _, rfl, (g5 _).dr, (by decide), fun u H6 g6 u0 u1 => ?_⟩
      have np : p ≠ d := by
        rintro rfl
        obtain ⟨ns, hd⟩ := dp
        rw [hp] at hd; cases hd
      have e6 := g6.fr p _ np upd_same
      have l1 : Nm (nr ++ ("s" : Str)) := ⟨w1.app ws.1, by rw [len_app]; omega, by rw [len_app, ws.2.1]; omega⟩
      have l2 : Nm (cutS nr none (some (-1))) := ⟨wd_cut w1 _ _, by rw [len_cut1 w2]; omega, by rw [len_cut1 w2]; omega⟩
      have l3 : Nm (("a" : Str) ++ nr) := ⟨ws.2.2.1.app w1, by rw [len_app]; omega, by rw [len_app, ws.2.2.2]; omega⟩
      obtain ⟨v, hv, hm⟩ := atI_map (f := V.str) (xs := [nr ++ ("s" : Str), cutS nr none (some (-1)), ("a" : Str) ++ nr]) u0 u1
      refine ⟨_, _, _, _, rfl, rfl, sqd e6, hv, ?_⟩
      refine ⟨v, _, ?_, rfl, g2.trans (g3.trans (g4.trans ((g5 _).trans g6)))⟩
      simp only [List.mem_cons, List.not_mem_nil, or_false] at hm
      rcases hm with rfl | rfl | rfl
      · exact l1
      · exact l2
      · exact l3
    · exact ⟨z, none, hz, rfl, g2.trans g3⟩
  · rintro σ H4 ⟨z, y, hz, rfl, g4⟩
    refine ⟨_, rfl, _, rfl, _, _, rfl, .inl (k1.go g4).now, rfl, flat_res, _, rfl, ?_⟩
    rw [inV_str]
    refine ite2 (fun c => ?_) (fun c => ?_)
    · have hm : z ∈ res := of_decide_eq_true c
      have wx : Wd ("x" : Str) ∧ ("x" : Str).length = 1 := by decide +kernel
      refine ⟨_, rfl, _, _, rfl, rfl, ?_, q _ H4 (g1.trans g4) ⟨hz.wd.app wx.1, ?_, fun h => not_x _ h _ hm rfl⟩⟩
      · rw [wx.2]
        exact Nat.le_of_lt (small1000 (by have := hz.len; omega))
      · rw [len_app, wx.2]
        have := hz.len
        omega
    · have hm : z ∉ res := fun h => c (decide_eq_true h)
      exact ⟨_, rfl, q _ H4 (g1.trans g4) ⟨hz.wd, by have := hz.len; omega, hm⟩⟩
/-! ### _law_names -/
def spNames : Sp := fun vs H Q _ => ∃ (d : Addr) (m : Int), vs = [.ref d, .int m] ∧ Dr H d ∧ 0 ≤ m ∧ m ≤ 100 ∧
  ∀ (n : Addr) (xs : List Str) H', Go d H H' → H n = none → n ≠ d → H' n = some (.lst (xs.map V.str)) → (∀ x ∈ xs, Nam x) → xs.length ≤ m → xs.Nodup → (1 ≤ m → xs ≠ []) → Q (.ref n) H'
theorem ok_law_names (T : Txt K mg) : FnOk P w K mg base CX0 4 T.a_law_names T.d_law_names P_law_names spNames := by
  have G_law_name := ok_law_name (P := P) (w := w) (base := base) T
  refine T.F_law_names.ok sc_law_names (fun vs H Q E h => ?_) (fun cdv A outer s H vs Q E hr h => ?_)
  · obtain ⟨d, m, rfl, _⟩ := h
    rfl
  obtain ⟨d, m, rfl, hD, m0, m1, q⟩ := h
  refine ⟨_, (pss_cons (ps_set (i := 2) sc_law_names.nd rfl (Or.inl rfl) (pe_lst pa_nil))
    (pss_cons (ps_for  PassesOwn.never rfl (pi_range1 (by rfl) T.z_range (pa_cons (pv 1) pa_nil)) (pg_name (i := 3) sc_law_names.nd rfl (Or.inl rfl))
    (pss_cons (ps_set (i := 4) sc_law_names.nd rfl (Or.inl rfl) (pe_call G_law_name (hr.mono (by omega)) (by rfl) T.m_law_name T.F_law_name.kp T.b_law_name .nil pass0 (pa_cons (pv 0) pa_nil)))
    (pss_one (ps_if (pt_cmpR op_notIn_seq (pv 4) (pv 2) (by rfl))
    (pss_one (ps_expr (pe_bm PySem.F.plainAttrs_list PySem.F.slot_list_append PySem.F.type_list_append mt_append (pv 2) (pa_cons (pv 4) pa_nil))))
    pss_nil))))
    (pss_one (ps_ret (pv 2))))), ?_⟩
  refine ⟨(by decide), fun n hn => ?_⟩
  have nd : n ≠ d := by
    rintro rfl
    obtain ⟨ns, hd⟩ := hD
    rw [hn] at hd; cases hd
  refine ⟨_, rfl, m, rfl, by omega, by omega, for_range (lo := 0) (n := m.toNat) (fun j σ H' => ∃ (xs : List Str) (y z : Option V), σ = [some (.ref d), some (.int m), some (.ref n), y, z] ∧ Go d H H' ∧ H' n = some (.lst (xs.map V.str)) ∧ (∀ x ∈ xs, Nam x) ∧ xs.length ≤ j ∧ xs.Nodup ∧ (0 < j → xs ≠ [])) ?_ ?_ ?_⟩
  · exact ⟨[], none, none, rfl, .new hD hn, upd_same, (fun x h => by cases h), Nat.le_refl _, List.nodup_nil, fun h => absurd h (by decide)⟩
  · rintro j σ H' hj ⟨xs, y, z, rfl, g, e, hx, hl, hnd, hne⟩
    refine ⟨_, rfl, d, rfl, g.dr, fun nm H2 g2 hnm => ?_⟩
    have e2 := g2.fr n _ nd e
    refine ⟨_, rfl, _, rfl, _, _, rfl, .inl (sqd e2), rfl, flat_strs' xs, _, rfl, ?_⟩
    rw [inV_str]
    refine ite2 (fun c => ?_) (fun c => ?_)
    · have hm : nm ∉ xs := fun h => by
        have c' : (!decide (nm ∈ xs)) = true := c
        rw [decide_eq_true h] at c'
        cases c'
      refine ⟨_, rfl, .inl ⟨rfl, _, sqd e2⟩, _, rfl, n, _, _, rfl, rfl, e2, ?_, ?_⟩
      · rw [List.length_map]
        exact small1000 (by omega)
      · refine ⟨xs ++ [nm], _, _, rfl, ?_, ?_, ?_, ?_, ?_, fun _ => by simp⟩
        · have g3 := g.trans g2
          refine ⟨fun b o hb eb => ?_, ?_⟩
          · rw [upd_ne (ne_of_none eb hn)]
            exact g3.fr b o hb eb
          · obtain ⟨ns, hd⟩ := g3.dr
            exact ⟨ns, by rw [upd_ne nd.symm]; exact hd⟩
        · rw [upd_same, List.map_append]
          rfl
        · intro x h
          rcases List.mem_append.mp h with h | h
          · exact hx x h
          · rw [List.mem_singleton.mp h]
            exact hnm
        · rw [List.length_append, List.length_singleton]
          omega
        · exact List.nodup_append.mpr ⟨hnd, List.nodup_cons.mpr ⟨List.not_mem_nil, List.nodup_nil⟩, fun a ha b hb => by
            rw [List.mem_singleton.mp hb]
            rintro rfl
            exact hm ha⟩
    · refine ⟨xs, _, _, rfl, g.trans g2, e2, hx, by omega, hnd, fun _ h => ?_⟩
      rw [h] at c
      exact c rfl
  · rintro σ H' ⟨xs, y, z, rfl, g, e, hx, hl, hnd, hne⟩
    exact ⟨_, rfl, q n xs H' g hn nd e hx (by omega) hnd fun h => hne (by omega)⟩
/-! ### _law_number -/
def spNumber (B : Nat) : Sp := fun vs H Q _ => ∃ (d : Addr) (c : Int), vs = [.ref d, .int c] ∧ Dr H d ∧ c.natAbs ≤ B ∧ ∀ n H', Go d H H' → n.natAbs ≤ B → Q (.int n) H'
theorem ok_law_number {B : Nat} (hB : 100 ≤ B) (T : Txt K mg) : FnOk P w K mg base CX0 2 T.a_law_number T.d_law_number P_law_number (spNumber B) := by
  have G_law_take := ok_law_take (P := P) (w := w) (base := base) T
  refine T.F_law_number.ok sc_law_number (fun vs H Q E h => ?_) (fun cdv A outer s H vs Q E hr h => ?_)
  · obtain ⟨d, c, rfl, _⟩ := h
    rfl
  obtain ⟨d, c, rfl, hD, hc, q⟩ := h
  refine ⟨_, (pss_one (ps_ret (pe_ix ix_list (pe_lst (pa_cons pe_int (pa_cons pe_int (pa_cons (pe_un un_neg pe_int) (pa_cons (pe_op op_sub (pe_call G_law_take (hr.mono (by omega)) (by rfl) T.m_law_take T.F_law_take.kp T.b_law_take .nil pass0 (pa_cons (pv 0) (pa_cons pe_int pa_nil))) pe_int) (pa_cons (pe_op op_sub (pe_call G_law_take (hr.mono (by omega)) (by rfl) T.m_law_take T.F_law_take.kp T.b_law_take .nil pass0 (pa_cons (pv 0) (pa_cons pe_int pa_nil))) pe_int) (pa_cons (pv 1) pa_nil))))))) (pe_call G_law_take (hr.mono (by omega)) (by rfl) T.m_law_take T.F_law_take.kp T.b_law_take .nil pass0 (pa_cons (pv 0) (pa_cons pe_int pa_nil))) (fun _ _ => rfl)))), ?_⟩
  refine ⟨_, rfl, _, rfl, d, _, rfl, hD, (by decide), fun r1 H1 g1 a0 a1 => ?_⟩
  refine ⟨_, _, rfl, rfl, _, rfl, d, _, rfl, g1.dr, (by decide), fun r2 H2 g2 b0 b1 => ?_⟩
  refine ⟨_, _, rfl, rfl, _, rfl, (Nat.le_of_ble_eq_true rfl), fun p hp => ?_⟩
  have g3 := fun o => Go.new (o := o) g2.dr hp
  refine ⟨_, rfl, d, _, rfl, (g3 _).dr, (by decide), fun u H4 g4 u0 u1 => ?_⟩
  have np : p ≠ d := by
    rintro rfl
    obtain ⟨ns, hd⟩ := g2.dr
    rw [hp] at hd; cases hd
  have e4 := g4.fr p _ np upd_same
  obtain ⟨v, hv, hm⟩ := atI_map (f := V.int) (xs := [0, 1, -1, r1 - 5, r2 - 100, c]) u0 u1
  refine ⟨_, _, _, _, rfl, rfl, sqd e4, hv, q v H4 (g1.trans (g2.trans ((g3 _).trans g4))) ?_⟩
  simp only [List.mem_cons, List.not_mem_nil, or_false] at hm
  omega
/-! ### _law_leaf -/
def spLeaf (K : PySem.W.Frag) (B : Nat) : Sp := fun vs H Q _ => ∃ (d n : Addr) (xs : List Str) (c : Int), vs = [.ref d, .ref n, .int c] ∧ Dr H d ∧ Keep K d H n (xs.map V.str) ∧ c.natAbs ≤ B ∧
  ∀ v i H', Go d H H' → ItemIn H' i v → Okx xs B false i → i.dep = 1 → i.sz = 1 → Q v H'
theorem ok_law_leaf {B : Nat} (hB : 100 ≤ B) (T : Txt K mg) : FnOk P w K mg base CX0 3 T.a_law_leaf T.d_law_leaf P_law_leaf (spLeaf K B) := by
  have G_law_take := ok_law_take (P := P) (w := w) (base := base) T
  have G_law_number := ok_law_number (P := P) (w := w) (base := base) hB T
  refine T.F_law_leaf.ok sc_law_leaf (fun vs H Q E h => ?_) (fun cdv A outer s H vs Q E hr h => ?_)
  · obtain ⟨d, n, xs, c, rfl, _⟩ := h
    rfl
  obtain ⟨d, n, xs, c, rfl, hD, hk, hc, q⟩ := h
  refine ⟨_, (pss_cons (ps_if (PW.pt (pw_or (pt_cmpR op_eq (pe_callB call_len_seq (by rfl) T.z_len PySem.boot_len (pa_cons (pv 1) pa_nil)) pe_int (nomark _)) (pw_or1 (pt_cmpR op_lt (pe_call G_law_take (hr.mono (by omega)) (by rfl) T.m_law_take T.F_law_take.kp T.b_law_take .nil pass0 (pa_cons (pv 0) (pa_cons pe_int pa_nil))) pe_int (nomark _)))))
    (pss_one (ps_ret (pe_tup (pa_cons pe_str (pa_cons (pe_call G_law_number (hr.mono (by omega)) (by rfl) T.m_law_number T.F_law_number.kp T.b_law_number .nil pass0 (pa_cons (pv 0) (pa_cons (pv 2) pa_nil))) pa_nil)))))
    pss_nil)
    (pss_one (ps_ret (pe_tup (pa_cons pe_str (pa_cons (pe_ix ix_list (pv 1) (pe_call G_law_take (hr.mono (by omega)) (by rfl) T.m_law_take T.F_law_take.kp T.b_law_take .nil pass0 (pa_cons (pv 0) (pa_cons (pe_callB call_len_seq (by rfl) T.z_len PySem.boot_len (pa_cons (pv 1) pa_nil)) pa_nil))) (fun _ _ => rfl)) pa_nil)))))), ?_⟩
  have one : ∀ H1, Go d H H1 → tRet (tTup (tCons (tC (.str "number")) (tCons (tCall (spNumber B) [] E0 (tCons (tVar 0) (tCons (tVar 2) tNil))) tNil))) { nx := fun _ H' => Q .non H', rt := Q } [some (.ref d), some (.ref n), some (.int c)] H1 := fun H1 g1 => by
    refine ⟨_, rfl, _, rfl, d, c, rfl, g1.dr, hc, fun m H2 g2 hm => ⟨(Nat.le_of_ble_eq_true rfl), fun p hp => ?_⟩⟩
    exact q _ _ _ (g1.trans (g2.trans (.new g2.dr hp))) (.num upd_same) (.num hm) (by rw [It.dep]) (by rw [It.sz])
  refine ⟨_, rfl, _, _, rfl, .inl hk.now, rfl, _, rfl, ?_⟩
  refine ite2 (fun c0 => ?_) (fun c0 => ?_)
  · exact one H (Go.refl hD)
  · have hl := int_ne c0
    rw [List.length_map] at hl
    refine ⟨_, rfl, d, _, rfl, hD, (by decide), fun r H1 g1 r0 r1 => ?_⟩
    refine ⟨_, _, rfl, rfl, _, rfl, ?_⟩
    refine ite2 (fun c1 => ?_) (fun c1 => ?_)
    · exact one H1 g1
    · refine ⟨_, rfl, _, rfl, _, rfl, _, _, rfl, .inl (hk.go g1).now, d, _, rfl, g1.dr, by rw [List.length_map]; omega, fun u H2 g2 u0 u1 => ?_⟩
      rw [List.length_map] at u1
      obtain ⟨v, hv, hm⟩ := atI_map (f := V.str) u0 u1
      refine ⟨_, _, _, _, rfl, rfl, ((hk.go g1).go g2).now, hv, (Nat.le_of_ble_eq_true rfl), fun p hp => ?_⟩
      exact q _ _ _ (g1.trans (g2.trans (.new g2.dr hp))) (.name upd_same) (.name hm) (by rw [It.dep]) (by rw [It.sz])
end
end NL

namespace NL
open PySem PySem.Spec PyProof.Rows L2
theorem yes_if {σ : L2.St} {H : Hp} {a n : Hp → Prop} (h : a H) : tYes σ H (fun b H3 => if b = true then a H3 else n H3) := by
  show (if true = true then a H else n H)
  rw [if_pos rfl]
  exact h
/-- one reading for two ways -/
theorem cutP {B C : Prop} (f : B → C) (b : B) : C := f b
/-! ### _law_expression, _law_test: both by one induction over the depth -/
def eT : Nat → Nat × Nat
  | 0 => (1, 3)
  | n + 1 => (1 + 2 * (eT n).1 + (eT n).2, 1 + 2 * (1 + 2 * (eT n).1 + (eT n).2) + 5 * (eT n).2)
theorem eT_pos (n : Nat) : 1 ≤ (eT n).1 := by
  cases n with
  | zero => decide
  | succ n => show 1 ≤ 1 + 2 * (eT n).1 + (eT n).2; omega
theorem eT_bin (n : Nat) : 1 + 2 * (eT n).1 ≤ (eT n).2 := by
  cases n with
  | zero => decide
  | succ n => show 1 + 2 * (1 + 2 * (eT n).1 + (eT n).2) ≤ 1 + 2 * (1 + 2 * (eT n).1 + (eT n).2) + 5 * (eT n).2; omega
theorem new_ne {d p : Addr} {H : Hp} (h : Dr H d) (hp : H p = none) : p ≠ d := by
  rintro rfl
  obtain ⟨ns, e⟩ := h
  rw [hp] at e; cases e
/-- a new list that was made while d is drawn, read behind more draws -/
theorem Go.at {d p : Addr} {H H' : Hp} {o : HO} (h : Dr H d) (hp : H p = none) (g : Go d (upd H p o) H') : H' p = some o := g.fr p o (new_ne h hp) upd_same
def spE (K : PySem.W.Frag) (B : Nat) : Nat → Sp
  | 0 => fun _ _ _ _ => False
  | n + 1 => fun vs H Q _ => ∃ (d nm : Addr) (xs : List Str) (c δ : Int), vs = [.ref d, .ref nm, .int c, .int δ] ∧ Dr H d ∧ Keep K d H nm (xs.map V.str) ∧ c.natAbs ≤ B ∧ δ ≤ n ∧
    ∀ v i H', Go d H H' → ItemIn H' i v → Okx xs B false i → i.dep ≤ 2 * n + 1 → i.sz ≤ (eT n).1 → Q v H'
def spT (K : PySem.W.Frag) (B : Nat) : Nat → Sp
  | 0 => fun _ _ _ _ => False
  | n + 1 => fun vs H Q _ => ∃ (d nm : Addr) (xs : List Str) (c δ : Int), vs = [.ref d, .ref nm, .int c, .int δ] ∧ Dr H d ∧ Keep K d H nm (xs.map V.str) ∧ c.natAbs ≤ B ∧ δ ≤ n ∧
    ∀ v i H', Go d H H' → ItemIn H' i v → Okx xs B true i → i.dep ≤ 2 * n + 2 → i.sz ≤ (eT n).2 → Q v H'
theorem szL_le {m : Nat} : ∀ (l : List It), (∀ i ∈ l, i.sz ≤ m) → szL l ≤ l.length * m
  | [], _ => by rw [szL]; omega
  | a :: r, h => by
    rw [szL, List.length_cons, Nat.succ_mul]
    have h1 := h a List.mem_cons_self
    have h2 := szL_le r fun i hi => h i (List.mem_cons_of_mem _ hi)
    omega
theorem depL_le {m : Nat} : ∀ (l : List It), (∀ i ∈ l, i.dep ≤ m) → depL l ≤ m
  | [], _ => by rw [depL]; omega
  | a :: r, h => by
    rw [depL]
    have h1 := h a List.mem_cons_self
    have h2 := depL_le r fun i hi => h i (List.mem_cons_of_mem _ hi)
    omega
section
variable {P : Program} {w : World} {K : PySem.W.Frag} {mg : Str → Option Value} {base : Heap}
theorem ok_E {B n : Nat} (hB : 100 ≤ B) (T : Txt K mg) (G_law_expression : FnOk P w K mg base CX0 (3 + 2 * n) T.a_law_expression T.d_law_expression P_law_expression (spE K B n))
    (G_law_test : FnOk P w K mg base CX0 (4 + 2 * n) T.a_law_test T.d_law_test P_law_test (spT K B n)) :
    FnOk P w K mg base CX0 (4 + 2 * n + 1) T.a_law_expression T.d_law_expression P_law_expression (spE K B (n + 1)) := by
  have G_law_take := ok_law_take (P := P) (w := w) (base := base) T
  have G_law_leaf := ok_law_leaf (P := P) (w := w) (base := base) hB T
  refine T.F_law_expression.ok sc_law_expression (fun vs H Q E h => ?_) (fun cdv A outer s H vs Q E hr h => ?_)
  · obtain ⟨d, nm, xs, c, δ, rfl, _⟩ := h
    rfl
  obtain ⟨d, nm, xs, c, δ, rfl, hD, hk, hc, hδ, q⟩ := h
  refine ⟨_, (pss_cons (ps_set (i := 4) sc_law_expression.nd rfl (Or.inl rfl) (pe_call G_law_take (hr.mono (by omega)) (by rfl) T.m_law_take T.F_law_take.kp T.b_law_take .nil pass0 (pa_cons (pv 0) (pa_cons pe_int pa_nil))))
    (pss_cons (ps_if (PW.pt (pw_or (pt_cmpR op_lt (pv 3) pe_int (nomark _)) (pw_or1 (pt_cmpR op_lt (pv 4) pe_int (nomark _)))))
    (pss_one (ps_ret (pe_call G_law_leaf (hr.mono (by omega)) (by rfl) T.m_law_leaf T.F_law_leaf.kp T.b_law_leaf .nil pass0 (pa_cons (pv 0) (pa_cons (pv 1) (pa_cons (pv 2) pa_nil))))))
    pss_nil)
    (pss_cons (ps_set (i := 5) sc_law_expression.nd rfl (Or.inl rfl) (pe_call G_law_expression (hr.mono (by omega)) (by rfl) T.m_law_expression T.F_law_expression.kp T.b_law_expression .nil pass0 (pa_cons (pv 0) (pa_cons (pv 1) (pa_cons (pv 2) (pa_cons (pe_op op_sub (pv 3) pe_int) pa_nil))))))
    (pss_cons (ps_if (pt_cmpR op_eq (pv 4) pe_int (nomark _))
    (pss_one (ps_ret (pe_tup (pa_cons pe_str (pa_cons (pv 5) pa_nil)))))
    pss_nil)
    (pss_cons (ps_if (pt_cmpR op_lt (pv 4) pe_int (nomark _))
    (pss_one (ps_ret (pe_tup (pa_cons (pe_ix ix_list (pe_lst (pa_cons pe_str (pa_cons pe_str pa_nil))) (pe_op op_sub (pv 4) pe_int) (fun _ _ => rfl)) (pa_cons (pv 5) (pa_cons (pe_op op_add pe_int (pe_ix ix_list (pe_lst (pa_cons pe_int (pa_cons (pe_call G_law_take (hr.mono (by omega)) (by rfl) T.m_law_take T.F_law_take.kp T.b_law_take .nil pass0 (pa_cons (pv 0) (pa_cons pe_int pa_nil))) (pa_cons (pe_callB (call_abs) (by rfl) T.z_abs (by decide +kernel) (pa_cons (pv 2) pa_nil)) pa_nil)))) (pe_call G_law_take (hr.mono (by omega)) (by rfl) T.m_law_take T.F_law_take.kp T.b_law_take .nil pass0 (pa_cons (pv 0) (pa_cons pe_int pa_nil))) (fun _ _ => rfl))) pa_nil))))))
    pss_nil)
    (pss_cons (ps_set (i := 6) sc_law_expression.nd rfl (Or.inl rfl) (pe_call G_law_expression (hr.mono (by omega)) (by rfl) T.m_law_expression T.F_law_expression.kp T.b_law_expression .nil pass0 (pa_cons (pv 0) (pa_cons (pv 1) (pa_cons (pv 2) (pa_cons (pe_op op_sub (pv 3) pe_int) pa_nil))))))
    (pss_cons (ps_if (pt_cmpR op_eq (pv 4) pe_int (nomark _))
    (pss_one (ps_ret (pe_tup (pa_cons pe_str (pa_cons (pe_call G_law_test (hr.mono (by omega)) (by rfl) T.m_law_test T.F_law_test.kp T.b_law_test .nil pass0 (pa_cons (pv 0) (pa_cons (pv 1) (pa_cons (pv 2) (pa_cons (pe_op op_sub (pv 3) pe_int) pa_nil))))) (pa_cons (pv 5) (pa_cons (pv 6) pa_nil)))))))
    pss_nil)
    (pss_one (ps_ret (pe_tup (pa_cons (pe_ix ix_list (pe_lst (pa_cons pe_str (pa_cons pe_str (pa_cons pe_str (pa_cons pe_str (pa_cons pe_str pa_nil)))))) (pe_op op_sub (pv 4) pe_int) (fun _ _ => rfl)) (pa_cons (pv 5) (pa_cons (pv 6) pa_nil))))))))))))), ?_⟩
  refine ⟨_, rfl, d, _, rfl, hD, (by decide), fun kd H1 g1 k0 k1 => ?_⟩
  have leaf : tRet (tCall (spLeaf K B) [] E0 (tCons (tVar 0) (tCons (tVar 1) (tCons (tVar 2) tNil)))) { nx := fun _ H' => Q .non H', rt := Q } [some (.ref d), some (.ref nm), some (.int c), some (.int δ), some (.int kd), none, none] H1 := by
    refine ⟨_, rfl, _, rfl, _, rfl, d, nm, xs, c, rfl, g1.dr, hk.go g1, hc, fun v i H2 g2 hi ho hd hs => ?_⟩
    exact q v i H2 (g1.trans g2) hi ho (by omega) (by have := eT_pos n; omega)
  refine ⟨_, rfl, _, _, rfl, rfl, _, rfl, ?_⟩
  refine ite2 (fun c1 => iteT leaf) (fun c1 => ?_)
  refine ⟨_, rfl, _, _, rfl, rfl, _, rfl, ?_⟩
  refine ite2 (fun c2 => leaf) (fun c2 => ?_)
  have d1 : ¬ δ < 1 := fun h => c1 (decide_eq_true h)
  have k3 : ¬ kd < 3 := fun h => c2 (decide_eq_true h)
  cases n with
  | zero => exact absurd hδ (by omega)
  | succ n =>
  have eE : (eT (n + 1)).1 = 1 + 2 * (eT n).1 + (eT n).2 := rfl
  -- one
  refine ⟨_, rfl, _, rfl, _, rfl, _, rfl, _, _, rfl, rfl, d, nm, xs, c, δ - 1, rfl, g1.dr, hk.go g1, hc, by omega, fun v1 i1 H2 g2 hi1 ho1 hd1 hs1 => ?_⟩
  refine ⟨_, rfl, rfl, _, rfl, ?_⟩
  refine ite2 (fun c3 => ?_) (fun c3 => ?_)
  · refine ⟨_, rfl, (Nat.le_of_ble_eq_true rfl), fun p hp => ?_⟩
    have gn := fun o => Go.new (o := o) g2.dr hp
    exact q _ _ _ (g1.trans (g2.trans (gn _))) (.un upd_same (hi1.go (gn _) g2.dr)) (.abs ho1) (by rw [It.dep]; omega) (by rw [It.sz]; omega)
  have k4 : kd ≠ 3 := int_ne c3
  refine ⟨_, rfl, _, _, rfl, rfl, _, rfl, ?_⟩
  refine ite2 (fun c4 => ?_) (fun c4 => ?_)
  · have k5 : kd < 6 := of_decide_eq_true c4
    refine ⟨(Nat.le_of_ble_eq_true rfl), fun p hp => ?_⟩
    have gp := fun o => Go.new (o := o) g2.dr hp
    obtain ⟨wd, hw, hm⟩ := atI_map (f := V.str) (xs := ["div", "mod"]) (i := kd - 4) (by omega) (by show kd - 4 < 2; omega)
    refine ⟨_, rfl, _, _, rfl, rfl, _, _, _, _, rfl, rfl, sqd upd_same, hw, ?_⟩
    refine ⟨_, rfl, _, rfl, d, _, rfl, (gp _).dr, (by decide), fun r H3 g3 r0 r1 => ?_⟩
    refine ⟨_, rfl, _, rfl, (Nat.le_of_ble_eq_true rfl), fun p2 hp2 => ?_⟩
    have gp2 := fun o => Go.new (o := o) g3.dr hp2
    refine ⟨_, rfl, d, _, rfl, (gp2 _).dr, (by decide), fun u H4 g4 u0 u1 => ?_⟩
    obtain ⟨n1, hn1, hm1⟩ := atI_map (f := V.int) (xs := [0, r, if c < 0 then -c else c]) u0 u1
    refine ⟨_, _, _, _, rfl, rfl, sqd (g4.at g3.dr hp2), hn1, _, _, rfl, rfl, (Nat.le_of_ble_eq_true rfl), fun p3 hp3 => ?_⟩
    have gp3 := fun o => Go.new (o := o) g4.dr hp3
    have gg := fun o => (gp _).trans (g3.trans ((gp2 _).trans (g4.trans (gp3 o))))
    have hb : 0 ≤ n1 ∧ n1.natAbs ≤ B := by
      simp only [List.mem_cons, List.not_mem_nil, or_false] at hm1
      rcases hm1 with h | h | h
      · omega
      · omega
      · split at h <;> omega
    exact q _ _ _ (g1.trans (g2.trans (gg _))) (.dm upd_same (hi1.go (gg _) g2.dr)) (.dm hm ho1 (by omega) (by omega)) (by rw [It.dep]; omega) (by rw [It.sz]; omega)
  have k6 : ¬ kd < 6 := fun h => c4 (decide_eq_true h)
  -- two
  refine ⟨_, rfl, _, rfl, _, rfl, _, rfl, _, _, rfl, rfl, d, nm, xs, c, δ - 1, rfl, g2.dr, (hk.go g1).go g2, hc, by omega, fun v2 i2 H3 g3 hi2 ho2 hd2 hs2 => ?_⟩
  refine ⟨_, rfl, rfl, _, rfl, ?_⟩
  refine ite2 (fun c5 => ?_) (fun c5 => ?_)
  · refine ⟨_, rfl, _, rfl, _, rfl, _, rfl, _, _, rfl, rfl, d, nm, xs, c, δ - 1, rfl, g3.dr, ((hk.go g1).go g2).go g3, hc, by omega, fun v3 i3 H4 g4 hi3 ho3 hd3 hs3 => ?_⟩
    refine ⟨_, rfl, _, rfl, (Nat.le_of_ble_eq_true rfl), fun p hp => ?_⟩
    have gp := fun o => Go.new (o := o) g4.dr hp
    exact q _ _ _ (g1.trans (g2.trans (g3.trans (g4.trans (gp _))))) (.tri upd_same (hi3.go (gp _) g4.dr) (hi1.go (g3.trans (g4.trans (gp _))) g2.dr) (hi2.go (g4.trans (gp _)) g3.dr)) (.tri ho3 ho1 ho2) (by rw [It.dep]; omega) (by rw [It.sz]; omega)
  have k7 : kd ≠ 6 := int_ne c5
  refine ⟨(Nat.le_of_ble_eq_true rfl), fun p hp => ?_⟩
  have gp := fun o => Go.new (o := o) g3.dr hp
  obtain ⟨wd, hw, hm⟩ := atI_map (f := V.str) (xs := ["add", "sub", "mul", "min", "max"]) (i := kd - 7) (by omega) (by show kd - 7 < 5; omega)
  refine ⟨_, rfl, _, _, rfl, rfl, _, _, _, _, rfl, rfl, sqd upd_same, hw, _, rfl, _, rfl, (Nat.le_of_ble_eq_true rfl), fun p2 hp2 => ?_⟩
  have gp2 := fun o => Go.new (o := o) (gp _).dr hp2
  have gg := fun o => (gp _).trans (gp2 o)
  exact q _ _ _ (g1.trans (g2.trans (g3.trans (gg _)))) (.bin upd_same (hi1.go (g3.trans (gg _)) g2.dr) (hi2.go (gg _) g3.dr)) (.bin hm ho1 ho2) (by rw [It.dep]; omega) (by rw [It.sz]; omega)
theorem ok_T {B n : Nat} (hB : 100 ≤ B) (T : Txt K mg) (G_law_expression : FnOk P w K mg base CX0 (4 + 2 * n + 1) T.a_law_expression T.d_law_expression P_law_expression (spE K B (n + 1)))
    (G_law_test : FnOk P w K mg base CX0 (4 + 2 * n) T.a_law_test T.d_law_test P_law_test (spT K B n)) :
    FnOk P w K mg base CX0 (5 + 2 * n + 1) T.a_law_test T.d_law_test P_law_test (spT K B (n + 1)) := by
  have G_law_take := ok_law_take (P := P) (w := w) (base := base) T
  refine T.F_law_test.ok sc_law_test (fun vs H Q E h => ?_) (fun cdv A outer s H vs Q E hr h => ?_)
  · obtain ⟨d, nm, xs, c, δ, rfl, _⟩ := h
    rfl
  obtain ⟨d, nm, xs, c, δ, rfl, hD, hk, hc, hδ, q⟩ := h
  have eB := eT_bin n
  refine ⟨_, (pss_cons (ps_set (i := 4) sc_law_test.nd rfl (Or.inl rfl) (pe_call G_law_take (hr.mono (by omega)) (by rfl) T.m_law_take T.F_law_take.kp T.b_law_take .nil pass0 (pa_cons (pv 0) (pa_cons pe_int pa_nil))))
    (pss_cons (ps_if (pt_cmpR op_lt (pv 4) pe_int (nomark _))
    (pss_one (ps_ret (pe_ix ix_list (pe_lst (pa_cons (pe_tup (pa_cons pe_str pa_nil)) (pa_cons (pe_tup (pa_cons pe_str pa_nil)) pa_nil))) (pv 4) (fun _ _ => rfl))))
    pss_nil)
    (pss_cons (ps_if (PW.pt (pw_or (pt_cmpR op_lt (pv 3) pe_int (nomark _)) (pw_or1 (pt_cmpR op_lt (pv 4) pe_int (nomark _)))))
    (pss_cons (ps_set (i := 5) sc_law_test.nd rfl (Or.inl rfl) (pe_call G_law_expression (hr.mono (by omega)) (by rfl) T.m_law_expression T.F_law_expression.kp T.b_law_expression .nil pass0 (pa_cons (pv 0) (pa_cons (pv 1) (pa_cons (pv 2) (pa_cons (pe_op op_sub (pv 3) pe_int) pa_nil))))))
    (pss_one (ps_ret (pe_tup (pa_cons (pe_ix ix_list (pe_lst (pa_cons pe_str (pa_cons pe_str pa_nil))) (pe_op op_mod (pv 4) pe_int) (fun _ _ => rfl)) (pa_cons (pv 5) (pa_cons (pe_call G_law_expression (hr.mono (by omega)) (by rfl) T.m_law_expression T.F_law_expression.kp T.b_law_expression .nil pass0 (pa_cons (pv 0) (pa_cons (pv 1) (pa_cons (pv 2) (pa_cons (pe_op op_sub (pv 3) pe_int) pa_nil))))) pa_nil)))))))
    pss_nil)
    (pss_cons (ps_if (pt_cmpR op_eq (pv 4) pe_int (nomark _))
    (pss_one (ps_ret (pe_tup (pa_cons pe_str (pa_cons (pe_call G_law_test (hr.mono (by omega)) (by rfl) T.m_law_test T.F_law_test.kp T.b_law_test .nil pass0 (pa_cons (pv 0) (pa_cons (pv 1) (pa_cons (pv 2) (pa_cons (pe_op op_sub (pv 3) pe_int) pa_nil))))) pa_nil)))))
    pss_nil)
    (pss_cons (ps_set (i := 6) sc_law_test.nd rfl (Or.inl rfl) (pe_ix ix_list (pe_lst (pa_cons pe_int (pa_cons pe_int (pa_cons pe_int (pa_cons pe_int (pa_cons pe_int (pa_cons pe_int pa_nil))))))) (pe_call G_law_take (hr.mono (by omega)) (by rfl) T.m_law_take T.F_law_take.kp T.b_law_take .nil pass0 (pa_cons (pv 0) (pa_cons pe_int pa_nil))) (fun _ _ => rfl)))
    (pss_one (ps_ret (pe_tup (pa_cons (pe_ix ix_list (pe_lst (pa_cons pe_str (pa_cons pe_str (pa_cons pe_str pa_nil)))) (pe_op op_sub (pv 4) pe_int) (fun _ _ => rfl)) (pa_cons (pe_callTy call_tuple_of (by rfl) T.z_tuple (by decide +kernel) (pa_cons (pe_lc (own := [("k", 7)]) (g := (gName 7)) (tt := tYes) rfl sc_law_test.nd (pi_range1 (by rfl) T.z_range (pa_cons (pv 6) pa_nil)) (blkOk_by (N := N_law_test) (sc := defScope s_law_test) (by decide +kernel)) (fun _ _ _ _ _ => (pg_name (i := 7) sc_law_test.nd rfl (Or.inl rfl))) (fun _ _ _ _ _ => pts_nil) (fun _ _ _ _ _ => (pe_call G_law_test (hr.mono (by omega)) (by rfl) T.m_law_test T.F_law_test.kp T.b_law_test .nil pass0 (pa_cons (pv 0) (pa_cons (pv 1) (pa_cons (pv 2) (pa_cons (pe_op op_sub (pv 3) pe_int) pa_nil))))))) pa_nil)) pa_nil)))))))))), ?_⟩
  refine ⟨_, rfl, d, _, rfl, hD, (by decide), fun kd H1 g1 k0 k1 => ?_⟩
  refine ⟨_, rfl, _, _, rfl, rfl, _, rfl, ?_⟩
  refine ite2 (fun c1 => ?_) (fun c1 => ?_)
  · have k2 : kd < 2 := of_decide_eq_true c1
    refine ⟨(Nat.le_of_ble_eq_true rfl), fun p hp => ⟨(Nat.le_of_ble_eq_true rfl), fun p2 hp2 => ⟨(Nat.le_of_ble_eq_true rfl), fun p3 hp3 => ?_⟩⟩⟩
    have n12 : p ≠ p2 := ne_of_none upd_same hp2
    have n13 : p ≠ p3 := ne_of_none (by rw [upd_ne n12]; exact upd_same) hp3
    have n23 : p2 ≠ p3 := ne_of_none upd_same hp3
    obtain ⟨v, hv, hm⟩ := atI_mem (xs := [V.ref p, V.ref p2]) (i := kd) k0 (by show kd < 2; exact k2)
    have g2 := fun o => Go.new (o := o) g1.dr hp
    have g3 := fun o => Go.new (o := o) (g2 _).dr hp2
    have g4 := fun o => Go.new (o := o) (g3 _).dr hp3
    refine ⟨_, rfl, _, _, _, _, rfl, rfl, sqd upd_same, hv, ?_⟩
    simp only [List.mem_cons, List.not_mem_nil, or_false] at hm
    have gg := fun o => g1.trans ((g2 _).trans ((g3 _).trans (g4 o)))
    rcases hm with rfl | rfl
    · exact q _ (.lit true) _ (gg _) (.lit (by rw [upd_ne n13, upd_ne n12]; exact upd_same)) .lit (by rw [It.dep]; omega) (by rw [It.sz]; omega)
    · exact q _ (.lit false) _ (gg _) (.lit (by rw [upd_ne n23]; exact upd_same)) .lit (by rw [It.dep]; omega) (by rw [It.sz]; omega)
  have k2 : ¬ kd < 2 := fun h => c1 (decide_eq_true h)
  -- less, equal
  refine ⟨_, rfl, _, _, rfl, rfl, _, rfl, ?_⟩
  refine' cutP ?f ?b
  case f =>
    intro body
    refine ite2 (fun c2 => iteT body) (fun c2 => ?_)
    refine ⟨_, rfl, _, _, rfl, rfl, _, rfl, ?_⟩
    refine ite2 (fun c3 => body) (fun c3 => ?_)
    have d1 : ¬ δ < 1 := fun h => c2 (decide_eq_true h)
    have k6 : ¬ kd < 6 := fun h => c3 (decide_eq_true h)
    cases n with
    | zero => exact absurd hδ (by omega)
    | succ n =>
    have eE : (eT (n + 1)).2 = 1 + 2 * (1 + 2 * (eT n).1 + (eT n).2) + 5 * (eT n).2 := rfl
    -- not
    refine ⟨_, rfl, rfl, _, rfl, ?_⟩
    refine ite2 (fun c4 => ?_) (fun c4 => ?_)
    · refine ⟨_, rfl, _, rfl, _, rfl, _, rfl, _, _, rfl, rfl, d, nm, xs, c, δ - 1, rfl, g1.dr, hk.go g1, hc, by omega, fun v1 i1 H2 g2 hi1 ho1 hd1 hs1 => ?_⟩
      refine ⟨(Nat.le_of_ble_eq_true rfl), fun p hp => ?_⟩
      have gp := fun o => Go.new (o := o) g2.dr hp
      exact q _ _ _ (g1.trans (g2.trans (gp _))) (.un upd_same (hi1.go (gp _) g2.dr)) (.not ho1) (by rw [It.dep]; omega) (by rw [It.sz]; omega)
    have k7 : kd ≠ 6 := int_ne c4
    -- many
    refine ⟨(Nat.le_of_ble_eq_true rfl), fun p hp => ?_⟩
    have gp := fun o => Go.new (o := o) g1.dr hp
    refine ⟨_, rfl, d, _, rfl, (gp _).dr, (by decide), fun u H2 g2 u0 u1 => ?_⟩
    obtain ⟨m, hmv, hmm⟩ := atI_map (f := V.int) (xs := [0, 1, 2, 3, 2, 5]) u0 u1
    have hm5 : 0 ≤ m ∧ m ≤ 5 := by
      simp only [List.mem_cons, List.not_mem_nil, or_false] at hmm
      omega
    have g12 := g1.trans ((gp _).trans g2)
    refine ⟨_, _, _, _, rfl, rfl, sqd (g2.at g1.dr hp), hmv, (Nat.le_of_ble_eq_true rfl), fun p2 hp2 => ?_⟩
    have gp2 := fun o => Go.new (o := o) g2.dr hp2
    obtain ⟨wd, hw, hmw⟩ := atI_map (f := V.str) (xs := ["all", "any", "all"]) (i := kd - 7) (by omega) (by show kd - 7 < 3; omega)
    refine ⟨_, rfl, _, _, rfl, rfl, _, _, _, _, rfl, rfl, sqd upd_same, hw, _, rfl, m, rfl, by omega, by omega, fun D hD => ?_⟩
    have gD := fun o => Go.new (o := o) (gp2 _).dr hD
    refine lc_range (lo := 0) (n := m.toNat) (fun (j : Nat) (H' : Hp) => ∃ (l : List It) (vs : List V), vs.length = j ∧ l.length = j ∧ Go d (upd H2 p2 (.lst [.str "all", .str "any", .str "all"])) H' ∧ H' D = some (.lst vs) ∧ (∀ (k : Nat) i x, l[k]? = some i → vs[k]? = some x → ItemIn H' i x) ∧ (∀ i ∈ l, Okx xs B true i ∧ i.dep ≤ 2 * n + 2 ∧ i.sz ≤ (eT n).2)) ?_ ?_ ?_
    · exact ⟨[], [], rfl, rfl, gD _, upd_same, fun k i x h => by simp at h, fun i h => by cases h⟩
    · rintro j H' hj ⟨l, vs, hl1, hl2, g, e, hin, hok⟩
      refine ⟨rfl, ?_⟩
      refine yes_if ?_
      refine ⟨_, rfl, _, rfl, _, rfl, _, rfl, _, _, rfl, rfl, d, nm, xs, c, δ - 2, rfl, g.dr, (hk.go g12).go ((gp2 _).trans g), hc, by omega, fun v1 i1 H4 g4 hi1 ho1 hd1 hs1 => ?_⟩
      have nD : D ≠ d := new_ne (gp2 _).dr hD
      have e4 := g4.fr D _ nD e
      have t4 : Tp H4 (upd H4 D (.lst (vs ++ [v1]))) := fun a ys ea => by
        rw [upd_ne]
        · exact ea
        · rintro rfl
          rw [e4] at ea; cases ea
      refine ⟨vs, e4, small1000 (by omega), l ++ [i1], vs ++ [v1], ?_, ?_, ?_, upd_same, ?_, ?_⟩
      · rw [List.length_append, hl1] <;> rfl
      · rw [List.length_append, hl2] <;> rfl
      · have g5 := g.trans g4
        refine ⟨fun b o hb eb => ?_, ?_⟩
        · rw [upd_ne (ne_of_none eb hD)]
          exact g5.fr b o hb eb
        · obtain ⟨ns, h⟩ := g5.dr
          exact ⟨ns, by rw [upd_ne nD.symm]; exact h⟩
      · intro k i x h1 h2
        by_cases hk2 : k < j
        · rw [List.getElem?_append_left (by omega)] at h1 h2
          exact ((hin k i x h1 h2).go g4 g.dr).mono t4
        · have hk3 : k = j := by
            have := (List.getElem?_eq_some_iff.mp h1).1
            rw [List.length_append, hl2] at this
            have : [i1].length = 1 := rfl
            omega
          subst hk3
          rw [List.getElem?_append_right (by omega), hl2, Nat.sub_self] at h1
          rw [List.getElem?_append_right (by omega), hl1, Nat.sub_self] at h2
          obtain rfl : i1 = i := Option.some.inj h1
          obtain rfl : v1 = x := Option.some.inj h2
          exact hi1.mono t4
      · intro i hi
        rcases List.mem_append.mp hi with h | h
        · exact hok i h
        · rw [List.mem_singleton.mp h]
          exact ⟨ho1, hd1, hs1⟩
    · rintro H' ⟨l, vs, hl1, hl2, g, e, hin, hok⟩
      refine ⟨D, vs, rfl, .inl ⟨sqd e, fun tp htp => ?_⟩⟩
      have gt := fun o => Go.new (o := o) g.dr htp
      refine ⟨(Nat.le_of_ble_eq_true rfl), fun rp hrp => ?_⟩
      have gr := fun o => Go.new (o := o) (gt _).dr hrp
      have nt : tp ≠ rp := ne_of_none upd_same hrp
      have hz : szL l ≤ 5 * (eT n).2 := by
        have := szL_le l (fun i hi => (hok i hi).2.2)
        have h5 : l.length ≤ 5 := by omega
        exact Nat.le_trans this (Nat.mul_le_mul_right _ h5)
      have hd : depL l ≤ 2 * n + 2 := depL_le l (fun i hi => (hok i hi).2.1)
      refine q _ (.grp wd l) _ (g12.trans ((gp2 _).trans (g.trans ((gt _).trans (gr _))))) (.grp upd_same (by rw [upd_ne nt]; exact upd_same) (by omega) ?_) (.grp ?_ (by omega) fun i hi => (hok i hi).1) (by rw [It.dep]; omega) (by rw [It.sz]; omega)
      · intro k i x h1 h2
        exact (hin k i x h1 h2).go ((gt _).trans (gr _)) g.dr
      · simp only [List.mem_cons, List.not_mem_nil, or_false] at hmw ⊢
        rcases hmw with h | h | h
        · exact .inl h
        · exact .inr h
        · exact .inl h
  case b =>
    refine ⟨_, rfl, _, rfl, _, rfl, _, rfl, _, _, rfl, rfl, d, nm, xs, c, δ - 1, rfl, g1.dr, hk.go g1, hc, by omega, fun v1 i1 H2 g2 hi1 ho1 hd1 hs1 => ?_⟩
    refine ⟨(Nat.le_of_ble_eq_true rfl), fun p hp => ?_⟩
    have gp := fun o => Go.new (o := o) g2.dr hp
    have b1 := Int.emod_nonneg kd (by decide : (2 : Int) ≠ 0)
    have b2 := Int.emod_lt_of_pos kd (by decide : (0 : Int) < 2)
    obtain ⟨wd, hw, hm⟩ := atI_map (f := V.str) (xs := ["less", "equal"]) (i := kd % 2) b1 (by show kd % 2 < 2; exact b2)
    refine ⟨_, rfl, _, _, rfl, rfl, (by show (0 : Int) < 2; decide), _, _, _, _, rfl, rfl, sqd upd_same, hw, _, rfl, _, rfl, _, rfl, _, rfl, _, rfl, _, _, rfl, rfl, d, nm, xs, c, δ - 1, rfl, (gp _).dr, ((hk.go g1).go g2).go (gp _), hc, by omega, fun v2 i2 H3 g3 hi2 ho2 hd2 hs2 => ?_⟩
    refine ⟨(Nat.le_of_ble_eq_true rfl), fun p2 hp2 => ?_⟩
    have gp2 := fun o => Go.new (o := o) g3.dr hp2
    exact q _ _ _ (g1.trans (g2.trans ((gp _).trans (g3.trans (gp2 _))))) (.bin upd_same (hi1.go ((gp _).trans (g3.trans (gp2 _))) g2.dr) (hi2.go (gp2 _) g3.dr)) (.cmp hm ho1 ho2) (by rw [It.dep]; omega) (by rw [It.sz]; omega)
theorem ok_ET {B : Nat} (hB : 100 ≤ B) (T : Txt K mg) : ∀ n : Nat,
    FnOk P w K mg base CX0 (3 + 2 * n) T.a_law_expression T.d_law_expression P_law_expression (spE K B n) ∧ FnOk P w K mg base CX0 (4 + 2 * n) T.a_law_test T.d_law_test P_law_test (spT K B n)
  | 0 => ⟨⟨fun _ _ _ _ h => h.elim, fun _ _ _ _ _ _ _ _ _ _ _ _ _ h => h.elim⟩, ⟨fun _ _ _ _ h => h.elim, fun _ _ _ _ _ _ _ _ _ _ _ _ _ h => h.elim⟩⟩
  | n + 1 => by
    obtain ⟨ge, gt⟩ := ok_ET hB T n
    have h1 := ok_E hB T ge gt
    have h2 := ok_T hB T h1 gt
    exact ⟨h1.mono (by omega), h2.mono (by omega)⟩
end
end NL

namespace NL
open PySem PySem.Spec PyProof.Rows L2
theorem ixN_in {n : Nat} {k : Int} (h0 : 0 ≤ k) (h1 : k < n) : ixN n k = some k.toNat := by
  unfold ixN
  rw [if_pos h0, if_pos h1]
/-- a change at what was not there before -/
theorem same_put {H H' : Hp} {p : Addr} {o : HO} (s : Same H H') (hp : H p = none) : Same H (upd H' p o) := fun b u e => by
  rw [upd_ne (ne_of_none e hp)]
  exact s b u e
section
variable {P : Program} {w : World} {K : PySem.W.Frag} {mg : Str → Option Value} {base : Heap}
def spDraws (K : PySem.W.Frag) : Sp := fun vs H Q _ => ∃ (a : Addr) (ns : List Int) (m : Int), vs = [.ref a, .int m] ∧ SqL K H a (ns.map V.int) ∧ ns.length ≤ 63 ∧ 0 ≤ m ∧ m ≤ 1000 ∧
  ∀ d H', Same H H' → H d = none → Dr H' d → Q (.ref d) H'
theorem ok_law_draws (T : Txt K mg) : FnOk P w K mg base CX0 1 T.a_law_draws T.d_law_draws P_law_draws (spDraws K) := by
  refine T.F_law_draws.ok sc_law_draws (fun vs H Q E h => ?_) (fun cdv A outer s H vs Q E hr h => ?_)
  · obtain ⟨a, ns, m, rfl, _⟩ := h
    rfl
  obtain ⟨a, ns, m, rfl, hS, hl, m0, m1, q⟩ := h
  refine ⟨_, (pss_cons (ps_setLc (i := 2) (own := [("cell", 3)]) (g := (gName 3)) (tt := tYes) rfl sc_law_draws.nd rfl rfl (sw_true rfl rfl rfl (by decide +kernel)) (pi_list (pv 0)) (blkOk_by (N := N_law_draws) (sc := defScope s_law_draws) (by decide +kernel)) (fun _ _ _ _ _ => (pg_name (i := 3) sc_law_draws.nd rfl (Or.inl rfl))) (fun _ _ _ _ _ => pts_nil) (fun _ _ _ _ _ => (pe_callTy call_int1 (by rfl) T.z_int (by decide +kernel) (pa_cons (pv 3) pa_nil))))
    (C8.pss_cut (ps_if (pt_cmpR op_eq (pe_callB call_len_seq (by rfl) T.z_len PySem.boot_len (pa_cons (pv 2) pa_nil)) pe_int (nomark _))
    (pss_one (ps_expr (pe_bm PySem.F.plainAttrs_list PySem.F.slot_list_append PySem.F.type_list_append mt_append (pv 2) (pa_cons pe_int pa_nil))))
    pss_nil)
    (pss_cons (ps_set (i := 4) sc_law_draws.nd rfl (Or.inl rfl) (pe_callTy call_list_of (by rfl) T.z_list (by decide +kernel) (pa_cons (pv 2) pa_nil)))
    (pss_cons (ps_set (i := 5) sc_law_draws.nd rfl (Or.inl rfl) (pe_lst pa_nil))
    (pss_cons (ps_for  PassesOwn.never rfl (pi_range1 (by rfl) T.z_range (pa_cons (pv 1) pa_nil)) (pg_name (i := 6) sc_law_draws.nd rfl (Or.inl rfl))
    (pss_cons (ps_set (i := 7) sc_law_draws.nd rfl (Or.inl rfl) (pe_op op_mod (pv 6) (pe_callB call_len_seq (by rfl) T.z_len PySem.boot_len (pa_cons (pv 2) pa_nil))))
    (pss_one (ps_if (pt_cmpR op_ge (pe_ix ix_list (pv 2) (pv 7) (fun _ _ => rfl)) (pe_op op_pow pe_int pe_int) (nomark _))
    (pss_cons (ps_expr (pe_bm PySem.F.plainAttrs_list PySem.F.slot_list_append PySem.F.type_list_append mt_append (pv 5) (pa_cons (pe_op op_mod (pe_callTy call_int1 (by rfl) T.z_int (by decide +kernel) (pa_cons (pe_ix ix_list (pv 4) (pv 7) (fun _ _ => rfl)) pa_nil)) pe_int) pa_nil)))
    (pss_one (ps_asg (pe_op op_fdiv (pe_ix ix_list (pv 4) (pv 7) (fun _ _ => rfl)) pe_int) (pg_sub (pv 4) (pv 7) set_list))))
    (pss_cons (ps_set (i := 8) sc_law_draws.nd rfl (Or.inl rfl) (pe_op op_mod (pe_callTy call_int1 (by rfl) T.z_int (by decide +kernel) (pa_cons (pe_op op_add (pe_op op_add (pe_op op_mul (pe_ix ix_list (pv 2) (pv 7) (fun _ _ => rfl)) pe_int) (pe_op op_mul (pv 6) pe_int)) pe_int) pa_nil)) pe_int))
    (pss_one (ps_expr (pe_bm PySem.F.plainAttrs_list PySem.F.slot_list_append PySem.F.type_list_append mt_append (pv 5) (pa_cons (pe_op op_mod (pe_callTy call_int1 (by rfl) T.z_int (by decide +kernel) (pa_cons (pe_op op_add (pe_op op_add (pe_op op_mul (pv 8) (pv 8)) (pe_op op_mul pe_int (pv 8))) (pv 6)) pa_nil)) pe_int) pa_nil)))))))))
    (pss_cons (ps_expr (pe_bm0 PySem.F.plainAttrs_list PySem.F.slot_list_reverse PySem.F.type_list_reverse mt_reverse (pv 5)))
    (pss_one (ps_ret (pv 5))))))))), ?_⟩
  -- cells
  refine ⟨_, rfl, a, rfl, ⟨_, hS⟩, fun c hc => ?_⟩
  refine lc_list (K := K) (a := a) (xs := ns.map V.int) (fun (j : Nat) (H' : Hp) => Same H H' ∧ H' c = some (.lst ((ns.take j).map V.int))) ?_ ?_ ?_ ?_
  · exact ⟨same_new hc _, by rw [upd_same, List.take_zero]; rfl⟩
  · rintro i H' _ ⟨s1, _⟩
    exact s1.seq hS
  · rintro i x H' hx ⟨s1, e1⟩
    rw [List.getElem?_map] at hx
    cases hn : ns[i]? with
    | none => rw [hn] at hx; cases hx
    | some n =>
      rw [hn] at hx
      obtain rfl : V.int n = x := Option.some.inj hx
      refine ⟨rfl, yes_if ?_⟩
      refine ⟨_, rfl, .inl ⟨n, rfl, _, e1, ?_, same_put s1 hc, ?_⟩⟩
      · rw [List.length_map, List.length_take]
        exact small1000 (by omega)
      · rw [upd_same, List.take_add_one, hn, List.map_append]
        rfl
  · rintro H1 ⟨s1, e1⟩
    rw [List.length_map, List.take_length] at e1
    -- at least one cell
    refine ⟨fun σ H2 => ∃ cs : List Int, cs ≠ [] ∧ cs.length ≤ 63 ∧ σ = [some (.ref a), some (.int m), some (.ref c), none, none, none, none, none, none] ∧ Same H H2 ∧ H2 c = some (.lst (cs.map V.int)), ?_, ?_⟩
    · refine ⟨_, rfl, _, _, rfl, .inl (sqd e1), rfl, _, rfl, ?_⟩
      refine ite2 (fun z => ?_) (fun z => ?_)
      · refine ⟨_, rfl, .inl ⟨rfl, _, sqd e1⟩, c, _, _, rfl, rfl, e1, ?_, ?_⟩
        · rw [List.length_map]
          exact small1000 (by omega)
        · have hz := int_eq z
          rw [List.length_map] at hz
          have : ns = [] := List.length_eq_zero_iff.mp (by omega)
          subst this
          exact ⟨[0], by simp, by decide, rfl, same_put s1 hc, upd_same⟩
      · have hz := int_ne z
        rw [List.length_map] at hz
        refine ⟨ns, ?_, hl, rfl, s1, e1⟩
        rintro rfl
        exact hz rfl
    · rintro σ H2 ⟨cs, hcs, hcl, rfl, s2, e2⟩
      have hpos : 0 < cs.length := List.length_pos_iff.mpr hcs
      -- rest, draws
      refine ⟨_, rfl, _, _, rfl, .inl (sqd e2), fun r hr2 => ?_⟩
      have ncr : c ≠ r := ne_of_none e2 hr2
      refine ⟨(Nat.le_of_ble_eq_true rfl), fun d hd => ?_⟩
      have ncd : c ≠ d := ne_of_none (by rw [upd_ne ncr]; exact e2) hd
      have nrd : r ≠ d := ne_of_none upd_same hd
      have hHr : H r = none := s2.free hr2
      have hHd : H d = none := (s2.trans (same_new hr2 _)).free hd
      refine ⟨_, rfl, m, rfl, by omega, by omega, for_range (lo := 0) (n := m.toNat) (fun (j : Nat) (σ : L2.St) (H' : Hp) => ∃ (rs ds : List Int) (y1 y2 y3 : Option V), σ = [some (.ref a), some (.int m), some (.ref c), none, some (.ref r), some (.ref d), y1, y2, y3] ∧ Same H H' ∧ H' c = some (.lst (cs.map V.int)) ∧ H' r = some (.lst (rs.map V.int)) ∧ rs.length = cs.length ∧ H' d = some (.lst (ds.map V.int)) ∧ ds.length ≤ j) ?_ ?_ ?_⟩
      · refine ⟨cs, [], none, none, none, rfl, (s2.trans (same_new hr2 _)).trans (same_new hd _), ?_, ?_, rfl, upd_same, Nat.le_refl _⟩
        · rw [upd_ne ncd, upd_ne ncr]; exact e2
        · rw [upd_ne nrd]; exact upd_same
      · rintro j σ H' hj ⟨rs, ds, y1, y2, y3, rfl, s3, ec, er, hrl, ed, hdl⟩
        have b0 := Int.emod_nonneg ((0 : Int) + (j : Int)) (show (((cs.map V.int).length : Nat) : Int) ≠ 0 by rw [List.length_map]; omega)
        have b1 : (((0 : Int) + (j : Int)) % (((cs.map V.int).length : Nat) : Int)) < (cs.length : Int) := by
          have h := Int.emod_lt_of_pos ((0 : Int) + (j : Int)) (show 0 < (((cs.map V.int).length : Nat) : Int) by rw [List.length_map]; omega)
          rw [List.length_map] at h ⊢
          exact h
        refine ⟨_, rfl, _, rfl, _, _, rfl, .inl (sqd ec), _, _, rfl, rfl, (by show 0 < (((cs.map V.int).length : Nat) : Int); rw [List.length_map]; omega), ?_⟩
        obtain ⟨cv, hcv, _⟩ := atI_map (f := V.int) (xs := cs) b0 b1
        obtain ⟨rv, hrv, _⟩ := atI_map (f := V.int) (xs := rs) b0 (by omega)
        refine ⟨_, rfl, _, rfl, _, _, _, _, rfl, rfl, sqd ec, hcv, _, _, rfl, rfl, ⟨by decide, by decide, by decide⟩, _, _, rfl, rfl, _, rfl, ?_⟩
        refine ite2 (fun z => ?_) (fun z => ?_)
        · refine ⟨_, rfl, .inl ⟨rfl, _, sqd ed⟩, _, rfl, _, rfl, _, _, _, _, rfl, rfl, sqd er, hrv, .inl ⟨_, rfl, _, _, rfl, rfl, (by show (0 : Int) < 1000; decide), d, _, _, rfl, rfl, ed, ?_, ?_⟩⟩
          · rw [List.length_map]
            exact small1000 (by omega)
          · have er2 : ∀ o, (upd H' d o) r = some (.lst (rs.map V.int)) := fun o => by rw [upd_ne nrd]; exact er
            refine ⟨_, rfl, _, rfl, _, _, _, _, rfl, rfl, sqd (er2 _), hrv, _, _, rfl, rfl, ⟨by decide, by decide⟩, _, rfl, _, rfl, r, _, _, _, rfl, rfl, er2 _, ixN_in b0 (by have h : (rs.map V.int).length = rs.length := List.length_map _; omega), ?_⟩
            refine ⟨rs.set (((0 : Int) + (j : Int)) % (((cs.map V.int).length : Nat) : Int)).toNat (rv / 1000), ds ++ [rv % 1000], _, _, _, rfl, same_put (same_put s3 hHd) hHr, ?_, ?_, ?_, ?_, ?_⟩
            · rw [upd_ne ncr, upd_ne ncd]; exact ec
            · rw [upd_same, List.map_set]
            · rw [List.length_set]; exact hrl
            · rw [upd_ne nrd.symm, upd_same, List.map_append]; rfl
            · rw [List.length_append, List.length_singleton]; omega
        · have o0 := fun z : Int => Int.emod_nonneg z (by decide : (2147483647 : Int) ≠ 0)
          have o1 := fun z : Int => Int.emod_lt_of_pos z (by decide : (0 : Int) < 2147483647)
          refine ⟨_, rfl, _, rfl, _, _, _, _, rfl, rfl, sqd ec, hcv, _, _, rfl, rfl, .inr ⟨by decide, by decide⟩, _, rfl, _, _, rfl, rfl, .inr ⟨by decide, by decide⟩, _, _, rfl, rfl, _, _, rfl, rfl, .inl ⟨_, rfl, _, _, rfl, rfl, (by show (0 : Int) < 2147483647; decide), ?_⟩⟩
          refine ⟨_, rfl, .inl ⟨rfl, _, sqd ed⟩, _, rfl, _, rfl, _, _, rfl, rfl, ?_, ?_⟩
          · left
            have h1 := o0 (cv * 48271 + (0 + (j : Int)) * 69621 + 11)
            have h2 := o1 (cv * 48271 + (0 + (j : Int)) * 69621 + 11)
            constructor
            · show -(2 ^ 64) < _
              omega
            · show _ < 2 ^ 64
              omega
          · refine ⟨_, rfl, _, _, rfl, rfl, .inl ⟨by decide, by decide⟩, _, _, rfl, rfl, _, rfl, _, _, rfl, rfl, .inl ⟨_, rfl, _, _, rfl, rfl, (by show (0 : Int) < 1000003; decide), d, _, _, rfl, rfl, ed, ?_, ?_⟩⟩
            · rw [List.length_map]
              exact small1000 (by omega)
            · refine ⟨rs, ds ++ [(((cv * 48271 + (0 + (j : Int)) * 69621 + 11) % 2147483647) * ((cv * 48271 + (0 + (j : Int)) * 69621 + 11) % 2147483647) + 3 * ((cv * 48271 + (0 + (j : Int)) * 69621 + 11) % 2147483647) + (0 + (j : Int))) % 1000003], _, _, _, rfl, same_put s3 hHd, ?_, ?_, hrl, ?_, ?_⟩
              · rw [upd_ne ncd]; exact ec
              · rw [upd_ne nrd]; exact er
              · rw [upd_same, List.map_append]; rfl
              · rw [List.length_append, List.length_singleton]; omega
      · rintro σ H' ⟨rs, ds, y1, y2, y3, rfl, s3, ec, er, hrl, ed, hdl⟩
        refine ⟨_, rfl, .inl ⟨rfl, _, sqd ed⟩, d, _, rfl, rfl, ed, ?_⟩
        refine ⟨_, rfl, q d _ (same_put s3 hHd) hHd ⟨ds.reverse, ?_⟩⟩
        rw [upd_same, List.map_reverse]
end
end NL

namespace NL
open PySem PySem.Spec PyProof.Rows L2
/-! ### what stands in an item: its tuple -/
def It.kids : It → List It
  | .num _ => []
  | .name _ => []
  | .lit _ => []
  | .un _ a => [a]
  | .dm _ a _ => [a]
  | .bin _ a b => [a, b]
  | .tri a b c => [a, b, c]
  | .grp _ l => l
def It.word : It → Str
  | .num _ => "number"
  | .name _ => "name"
  | .lit b => bstr b
  | .un w _ => w
  | .dm w _ _ => w
  | .bin w _ _ => w
  | .tri _ _ _ => "if"
  | .grp w _ => w
/-- the items stand at the values, one by one -/
def Kids (H : Hp) (l : List It) (xs : List V) : Prop := xs.length = l.length ∧ ∀ (k : Nat) i x, l[k]? = some i → xs[k]? = some x → ItemIn H i x
theorem Kids.mono {H H' : Hp} (t : Tp H H') {l : List It} {xs : List V} (h : Kids H l xs) : Kids H' l xs := ⟨h.1, fun k i x a b => (h.2 k i x a b).mono t⟩
theorem kids1 {H : Hp} {i : It} {x : V} (h : ItemIn H i x) : Kids H [i] [x] := ⟨rfl, fun k j y a b => by
  cases k with
  | zero => cases Option.some.inj a; cases Option.some.inj b; exact h
  | succ k => simp at a⟩
theorem Kids.cons {H : Hp} {i : It} {x : V} {l : List It} {xs : List V} (h : ItemIn H i x) (g : Kids H l xs) : Kids H (i :: l) (x :: xs) := ⟨by rw [List.length_cons, List.length_cons, g.1], fun k j y a b => by
  cases k with
  | zero => cases Option.some.inj a; cases Option.some.inj b; exact h
  | succ k => exact g.2 k j y (by simpa using a) (by simpa using b)⟩
theorem kids0 {H : Hp} : Kids H [] [] := ⟨rfl, fun k j y a b => by simp at a⟩
theorem Kids.get {H : Hp} {l : List It} {xs : List V} (h : Kids H l xs) {k : Nat} {x : V} (e : xs[k]? = some x) : ∃ i, l[k]? = some i ∧ ItemIn H i x ∧ i ∈ l := by
  have hk : k < xs.length := (List.getElem?_eq_some_iff.mp e).1
  rw [h.1] at hk
  exact ⟨l[k], List.getElem?_eq_getElem hk, h.2 k _ x (List.getElem?_eq_getElem hk) e, List.getElem_mem hk⟩
/-- an item's first part is its word -/
theorem ItemIn.head {H : Hp} {i : It} {a : Addr} (h : ItemIn H i (.ref a)) : ∃ r, H a = some (.tup (.str i.word :: r)) := by
  cases h <;> exact ⟨_, by assumption⟩
/-- the conditions' words are not the expressions' -/
def tests : List Str := ["true", "false", "less", "equal", "not", "all", "any"]
def wl (x : Str) (ys : List Str) : Bool := decide (x ∈ ys)
theorem word_test {xs : List Str} {B : Nat} {b : Bool} {i : It} (h : Okx xs B b i) : wl i.word tests = b := by
  cases h with
  | num _ => simp only [It.word]; decide +kernel
  | name _ => simp only [It.word]; decide +kernel
  | lit => rename_i b; cases b <;> (simp only [It.word]; decide +kernel)
  | abs _ => simp only [It.word]; decide +kernel
  | not _ => simp only [It.word]; decide +kernel
  | dm hw _ _ _ =>
    simp only [List.mem_cons, List.not_mem_nil, or_false] at hw
    rcases hw with rfl | rfl <;> (simp only [It.word]; decide +kernel)
  | bin hw _ _ =>
    simp only [List.mem_cons, List.not_mem_nil, or_false] at hw
    rcases hw with rfl | rfl | rfl | rfl | rfl <;> (simp only [It.word]; decide +kernel)
  | cmp hw _ _ =>
    simp only [List.mem_cons, List.not_mem_nil, or_false] at hw
    rcases hw with rfl | rfl <;> (simp only [It.word]; decide +kernel)
  | tri _ _ _ => simp only [It.word]; decide +kernel
  | grp hw _ _ =>
    simp only [List.mem_cons, List.not_mem_nil, or_false] at hw
    rcases hw with rfl | rfl <;> (simp only [It.word]; decide +kernel)
/-- 0: a leaf, 1: all and any, 2: div and mod, 3: the others -/
def It.cls : It → Nat
  | .num _ => 0
  | .name _ => 0
  | .lit _ => 0
  | .grp _ _ => 1
  | .dm _ _ _ => 2
  | _ => 3
theorem word_cls {xs : List Str} {B : Nat} {b : Bool} {i : It} (h : Okx xs B b i) :
    wl i.word ["number", "name", "true", "false"] = (i.cls == 0) ∧ wl i.word ["number", "name"] = (i.cls == 0 && !b) ∧ wl i.word ["true", "false"] = (i.cls == 0 && b) ∧
    wl i.word ["all", "any"] = (i.cls == 1) ∧ wl i.word ["div", "mod"] = (i.cls == 2) := by
  cases h with
  | num _ => simp only [It.word, It.cls]; decide +kernel
  | name _ => simp only [It.word, It.cls]; decide +kernel
  | lit => rename_i b; cases b <;> (simp only [It.word, It.cls]; decide +kernel)
  | abs _ => simp only [It.word, It.cls]; decide +kernel
  | not _ => simp only [It.word, It.cls]; decide +kernel
  | dm hw _ _ _ =>
    simp only [List.mem_cons, List.not_mem_nil, or_false] at hw
    rcases hw with rfl | rfl <;> (simp only [It.word, It.cls]; decide +kernel)
  | bin hw _ _ =>
    simp only [List.mem_cons, List.not_mem_nil, or_false] at hw
    rcases hw with rfl | rfl | rfl | rfl | rfl <;> (simp only [It.word, It.cls]; decide +kernel)
  | cmp hw _ _ =>
    simp only [List.mem_cons, List.not_mem_nil, or_false] at hw
    rcases hw with rfl | rfl <;> (simp only [It.word, It.cls]; decide +kernel)
  | tri _ _ _ => simp only [It.word, It.cls]; decide +kernel
  | grp hw _ _ =>
    simp only [List.mem_cons, List.not_mem_nil, or_false] at hw
    rcases hw with rfl | rfl <;> (simp only [It.word, It.cls]; decide +kernel)
/-- x in [a, b, ..], (a, b, ..): texts, the answer known -/
theorem inT {x : Str} {ys : List Str} {zs : List V} {b : Bool} (hz : zs = ys.map V.str) (h : wl x ys = b) : (if false = true then !inV (V.str x) zs else inV (V.str x) zs) = b := by
  rw [if_neg Bool.false_ne_true, hz, inV_str]; exact h
theorem ifT {c : Bool} {A B : Prop} (h : c = true) (a : A) : if c = true then A else B := by
  rw [if_pos h]; exact a
theorem ifF {c : Bool} {A B : Prop} (h : c = false) (b : B) : if c = true then A else B := by
  rw [if_neg (by rw [h]; exact Bool.false_ne_true)]; exact b
theorem blE {Q : VK} {b b' : Bool} {H : Hp} (h : b = b') (q : Q (.bl b') H) : Q (.bl b) H := by rw [h]; exact q
theorem flatW (ys : List Str) (zs : List V) (hz : zs = ys.map V.str) : zs.all flatV = true := by rw [hz]; exact flat_strs' ys
theorem atI0 {α : Type} {x : α} {r : List α} : atI (x :: r) 0 = some x := atI_nat (j := 0) rfl
theorem atI1 {α : Type} {x y : α} {r : List α} : atI (x :: y :: r) 1 = some y := atI_nat (j := 1) rfl
theorem atI2 {α : Type} {x y z : α} {r : List α} : atI (x :: y :: z :: r) 2 = some z := atI_nat (j := 2) rfl
/-- behind the first -/
theorem cut_tail (x : V) (r : List V) : cutV (x :: r) (some 1) none = r := by
  unfold cutV
  rw [show HT.sIx (x :: r).length 0 (some 1) = min 1 (x :: r).length from HT.sIx_nat (x :: r).length 0 1, HT.sIx_none]
  rw [show min 1 (x :: r).length = 1 by rw [List.length_cons]; omega]
  show List.take ((x :: r).length - 1) r = r
  rw [List.length_cons, Nat.add_sub_cancel]
  exact List.take_length
theorem not_whole (x : V) (r : List V) (hi : Option Int) : ¬ (HT.sIx (x :: r).length 0 (some 1) = 0 ∧ HT.sIx (x :: r).length (x :: r).length hi = (x :: r).length) := by
  rintro ⟨h, _⟩
  rw [show HT.sIx (x :: r).length 0 (some 1) = min 1 (x :: r).length from HT.sIx_nat (x :: r).length 0 1, List.length_cons] at h
  omega
/-- the parts of an item that is no leaf, no group and no div: behind its word -/
theorem ItemIn.rest {H : Hp} {i : It} {a : Addr} (h : ItemIn H i (.ref a)) (h3 : i.cls = 3) : ∃ r, H a = some (.tup (.str i.word :: r)) ∧ Kids H i.kids r := by
  cases h with
  | num _ => cases h3
  | name _ => cases h3
  | lit _ => cases h3
  | un e g => exact ⟨_, e, kids1 g⟩
  | dm _ _ => cases h3
  | bin e g k => exact ⟨_, e, .cons g (kids1 k)⟩
  | tri e g k l => exact ⟨_, e, .cons g (.cons k (kids1 l))⟩
  | grp _ _ _ _ => cases h3
theorem ItemIn.group {H : Hp} {i : It} {a : Addr} (h : ItemIn H i (.ref a)) (h3 : i.cls = 1) : ∃ b xs, H a = some (.tup [.str i.word, .ref b]) ∧ H b = some (.tup xs) ∧ Kids H i.kids xs := by
  cases h with
  | grp e f g k => exact ⟨_, _, e, f, g, k⟩
  | num _ => cases h3
  | name _ => cases h3
  | lit _ => cases h3
  | un e g => cases h3
  | dm _ _ => cases h3
  | bin e g k => cases h3
  | tri e g k l => cases h3
theorem ItemIn.divs {H : Hp} {i : It} {a : Addr} (h : ItemIn H i (.ref a)) (h3 : i.cls = 2) : ∃ x j n, H a = some (.tup [.str i.word, x, .int n]) ∧ ItemIn H j x ∧ i = .dm i.word j n := by
  cases h with
  | dm e g => exact ⟨_, _, _, e, g, rfl⟩
  | grp e f g k => cases h3
  | num _ => cases h3
  | name _ => cases h3
  | lit _ => cases h3
  | un e g => cases h3
  | bin e g k => cases h3
  | tri e g k l => cases h3
theorem cls_le (i : It) : i.cls = 0 ∨ i.cls = 1 ∨ i.cls = 2 ∨ i.cls = 3 := by cases i <;> simp [It.cls]
theorem kids_leaf {i : It} (h : i.cls = 0) : i.kids = [] := by cases i <;> first | rfl | cases h
theorem Kids.snoc {H : Hp} {l : List It} {vs : List V} {i : It} {v : V} (h : Kids H l vs) (hi : ItemIn H i v) : Kids H (l ++ [i]) (vs ++ [v]) := by
  obtain ⟨hl, hin⟩ := h
  refine ⟨by rw [List.length_append, List.length_append, hl] <;> rfl, fun k j x h1 h2 => ?_⟩
  by_cases hk : k < l.length
  · rw [List.getElem?_append_left (by omega)] at h1 h2
    exact hin k j x h1 h2
  · have hk3 : k = l.length := by
      have := (List.getElem?_eq_some_iff.mp h1).1
      rw [List.length_append, List.length_singleton] at this
      omega
    subst hk3
    rw [List.getElem?_append_right (by omega), Nat.sub_self] at h1
    rw [List.getElem?_append_right (by omega), hl, Nat.sub_self] at h2
    obtain rfl : i = j := Option.some.inj h1
    obtain rfl : v = x := Option.some.inj h2
    exact hi
theorem tp_put {H : Hp} {p : Addr} {xs : List V} {o : HO} (e : H p = some (.lst xs)) : Tp H (upd H p o) := fun a ys ea => by
  rw [upd_ne]
  · exact ea
  · rintro rfl
    rw [e] at ea; cases ea
theorem Kids.ok {H : Hp} {l : List It} {vs : List V} (h : Kids H l vs) {w : Str} {a b : Addr} (ha : H a = some (.tup [.str w, .ref b])) (hb : H b = some (.tup vs)) : ItemIn H (.grp w l) (.ref a) := .grp ha hb h.1 h.2
/-- a change at what was not there before keeps what is drawn -/
theorem Go.put2 {d p : Addr} {H H' : Hp} {o : HO} (g : Go d H H') (hp : H p = none) (n : p ≠ d) : Go d H (upd H' p o) := ⟨fun b u hb e => by
  rw [upd_ne (ne_of_none e hp)]
  exact g.fr b u hb e, by
  obtain ⟨ns, e⟩ := g.dr
  exact ⟨ns, by rw [upd_ne n.symm]; exact e⟩⟩
section
variable {P : Program} {w : World} {K : PySem.W.Frag} {mg : Str → Option Value} {base : Heap}
/-! ### _law_is_test -/
def spIsTest : Sp := fun vs H Q _ => ∃ (v : V) (i : It) (xs : List Str) (B : Nat) (b : Bool), vs = [v] ∧ ItemIn H i v ∧ Okx xs B b i ∧ ∀ H', Same H H' → Q (.bl b) H'
/-! ### _law_inner: the parts as a new list -/
def spInner : Sp := fun vs H Q _ => ∃ (v : V) (i : It) (xs : List Str) (B : Nat) (b : Bool), vs = [v] ∧ ItemIn H i v ∧ Okx xs B b i ∧ ∀ p ys H', Same H H' → H p = none → H' p = some (.lst ys) → Kids H' i.kids ys → Q (.ref p) H'
theorem ok_law_inner (T : Txt K mg) : FnOk P w K mg base CX0 1 T.a_law_inner T.d_law_inner P_law_inner spInner := by
  refine T.F_law_inner.ok sc_law_inner (fun vs H Q E h => ?_) (fun cdv A outer s H vs Q E hr h => ?_)
  · obtain ⟨v, i, xs, B, b, rfl, _⟩ := h
    rfl
  obtain ⟨v, i, xs, B, b, rfl, hi, ho, q⟩ := h
  obtain ⟨a, rfl⟩ := hi.ref
  obtain ⟨r, ha⟩ := hi.head
  obtain ⟨c0, _, _, c1, c2⟩ := word_cls ho
  refine ⟨_, (pss_cons (ps_if (pt_cmpR op_in_seq (pe_ix ix_tup (pv 0) pe_int (fun _ _ => rfl)) (pe_lst (pa_cons pe_str (pa_cons pe_str (pa_cons pe_str (pa_cons pe_str pa_nil))))) (by rfl))
    (pss_one (ps_ret (pe_lst pa_nil)))
    pss_nil)
    (pss_cons (ps_if (pt_cmpR op_in_seq (pe_ix ix_tup (pv 0) pe_int (fun _ _ => rfl)) (pe_lst (pa_cons pe_str (pa_cons pe_str pa_nil))) (by rfl))
    (pss_one (ps_ret (pe_callTy call_list_of (by rfl) T.z_list (by decide +kernel) (pa_cons (pe_ix ix_tup (pv 0) pe_int (fun _ _ => rfl)) pa_nil))))
    pss_nil)
    (pss_cons (ps_if (pt_cmpR op_in_seq (pe_ix ix_tup (pv 0) pe_int (fun _ _ => rfl)) (pe_lst (pa_cons pe_str (pa_cons pe_str pa_nil))) (by rfl))
    (pss_one (ps_ret (pe_lst (pa_cons (pe_ix ix_tup (pv 0) pe_int (fun _ _ => rfl)) pa_nil))))
    pss_nil)
    (pss_one (ps_ret (pe_callTy call_list_of (by rfl) T.z_list (by decide +kernel) (pa_cons (pe_slice sl_tup (pv 0) (po_some pe_int) po_none) pa_nil))))))), ?_⟩
  refine ⟨_, rfl, a, _, 0, _, rfl, rfl, sqt ha, atI0, (Nat.le_of_ble_eq_true rfl), fun p1 hp1 => ?_⟩
  have s1 := fun o => same_new hp1 o
  refine ⟨p1, _, rfl, .inl (sqd upd_same), rfl, (by decide +kernel), _, rfl, ?_⟩
  rcases cls_le i with h0 | h1 | h2 | h3
  · refine ifT (inT (ys := ["number", "name", "true", "false"]) rfl (by rw [c0, h0] <;> rfl)) ?_
    refine ⟨(Nat.le_of_ble_eq_true rfl), fun p hp => ?_⟩
    refine q p [] _ ((s1 _).trans (same_new hp _)) ((s1 _).free hp) upd_same ?_
    rw [kids_leaf h0]
    exact kids0
  · refine ifF (inT (ys := ["number", "name", "true", "false"]) rfl (by rw [c0, h1] <;> rfl)) ?_
    obtain ⟨b2, ys, e1, e2, hk⟩ := hi.group h1
    refine ⟨_, rfl, a, _, 0, _, rfl, rfl, sqt (s1 _ _ _ e1), atI0, (Nat.le_of_ble_eq_true rfl), fun p2 hp2 => ?_⟩
    have s2 := fun o => (s1 _).trans (same_new hp2 o)
    refine ⟨p2, _, rfl, .inl (sqd upd_same), rfl, (by decide +kernel), _, rfl, ?_⟩
    refine ifT (inT (ys := ["all", "any"]) rfl (by rw [c1, h1] <;> rfl)) ?_
    refine ⟨_, rfl, a, _, 1, _, rfl, rfl, sqt (s2 _ _ _ e1), atI1, _, _, rfl, .inr (sqt (s2 _ _ _ e2)), fun p hp => ?_⟩
    exact q p ys _ ((s2 _).trans (same_new hp _)) ((s2 _).free hp) upd_same (hk.mono (Tp.same ((s2 _).trans (same_new hp _))))
  · refine ifF (inT (ys := ["number", "name", "true", "false"]) rfl (by rw [c0, h2] <;> rfl)) ?_
    obtain ⟨x, j, n, e1, hj, ej⟩ := hi.divs h2
    refine ⟨_, rfl, a, _, 0, _, rfl, rfl, sqt (s1 _ _ _ e1), atI0, (Nat.le_of_ble_eq_true rfl), fun p2 hp2 => ?_⟩
    have s2 := fun o => (s1 _).trans (same_new hp2 o)
    refine ⟨p2, _, rfl, .inl (sqd upd_same), rfl, (by decide +kernel), _, rfl, ?_⟩
    refine ifF (inT (ys := ["all", "any"]) rfl (by rw [c1, h2] <;> rfl)) ?_
    refine ⟨_, rfl, a, _, 0, _, rfl, rfl, sqt (s2 _ _ _ e1), atI0, (Nat.le_of_ble_eq_true rfl), fun p3 hp3 => ?_⟩
    have s3 := fun o => (s2 _).trans (same_new hp3 o)
    refine ⟨p3, _, rfl, .inl (sqd upd_same), rfl, (by decide +kernel), _, rfl, ?_⟩
    refine ifT (inT (ys := ["div", "mod"]) rfl (by rw [c2, h2] <;> rfl)) ?_
    refine ⟨_, rfl, a, _, 1, _, rfl, rfl, sqt (s3 _ _ _ e1), atI1, (Nat.le_of_ble_eq_true rfl), fun p hp => ?_⟩
    refine q p [x] _ ((s3 _).trans (same_new hp _)) ((s3 _).free hp) upd_same ?_
    rw [ej]
    exact kids1 (hj.mono (Tp.same ((s3 _).trans (same_new hp _))))
  · refine ifF (inT (ys := ["number", "name", "true", "false"]) rfl (by rw [c0, h3] <;> rfl)) ?_
    obtain ⟨ys, e1, hk⟩ := hi.rest h3
    refine ⟨_, rfl, a, _, 0, _, rfl, rfl, sqt (s1 _ _ _ e1), atI0, (Nat.le_of_ble_eq_true rfl), fun p2 hp2 => ?_⟩
    have s2 := fun o => (s1 _).trans (same_new hp2 o)
    refine ⟨p2, _, rfl, .inl (sqd upd_same), rfl, (by decide +kernel), _, rfl, ?_⟩
    refine ifF (inT (ys := ["all", "any"]) rfl (by rw [c1, h3] <;> rfl)) ?_
    refine ⟨_, rfl, a, _, 0, _, rfl, rfl, sqt (s2 _ _ _ e1), atI0, (Nat.le_of_ble_eq_true rfl), fun p3 hp3 => ?_⟩
    have s3 := fun o => (s2 _).trans (same_new hp3 o)
    refine ⟨p3, _, rfl, .inl (sqd upd_same), rfl, (by decide +kernel), _, rfl, ?_⟩
    refine ifF (inT (ys := ["div", "mod"]) rfl (by rw [c2, h3] <;> rfl)) ?_
    refine ⟨_, rfl, 1, rfl, a, _, rfl, sqt (s3 _ _ _ e1), not_whole _ _ _, fun p4 hp4 => ?_⟩
    have s4 := fun o => (s3 _).trans (same_new hp4 o)
    rw [cut_tail]
    refine ⟨_, _, rfl, .inr (sqt upd_same), fun p hp => ?_⟩
    exact q p ys _ ((s4 _).trans (same_new hp _)) ((s4 _).free hp) upd_same (hk.mono (Tp.same ((s4 _).trans (same_new hp _))))
end
end NL

namespace NL
open PySem PySem.Spec PyProof.Rows L2
/-! ### what an expression is worth, by a fact that stays -/
def EvP (te : TE) (σ : L2.St) (H : Hp) (P : V → Hp → Prop) : Prop := ∀ H1, Same H H1 → ∀ Q : VK, (∀ v H2, Same H1 H2 → P v H2 → Q v H2) → te σ H1 Q
def EvA (ta : TA) (σ : L2.St) (H : Hp) (P : List V → Hp → Prop) : Prop := ∀ H1, Same H H1 → ∀ Q : List V → Hp → Prop, (∀ vs H2, Same H1 H2 → P vs H2 → Q vs H2) → ta σ H1 Q
def Mo (P : V → Hp → Prop) : Prop := ∀ v H H', Same H H' → P v H → P v H'
def MoA (P : List V → Hp → Prop) : Prop := ∀ vs H H', Same H H' → P vs H → P vs H'
section
variable {σ : L2.St} {H : Hp} {P P' P1 : V → Hp → Prop} {Pr Pa : List V → Hp → Prop} {te : TE} {ta tr : TA} {v : V} {K : PySem.W.Frag}
theorem evp_imp (h : EvP te σ H P) (g : ∀ v H', Same H H' → P v H' → P' v H') : EvP te σ H P' := fun H1 s Q q => h H1 s Q fun v H2 s2 p => q v H2 s2 (g v H2 (s.trans s2) p)
theorem eva_imp {Pa' : List V → Hp → Prop} (h : EvA ta σ H Pa) (g : ∀ v H', Same H H' → Pa v H' → Pa' v H') : EvA ta σ H Pa' := fun H1 s Q q => h H1 s Q fun v H2 s2 p => q v H2 s2 (g v H2 (s.trans s2) p)
theorem evp_c : EvP (tC v) σ H (fun x _ => x = v) := fun H1 _ Q q => q v H1 (Same.refl H1) rfl
theorem evp_v {i : Nat} (h : σ[i]? = some (some v)) : EvP (tVar i) σ H (fun x _ => x = v) := fun H1 _ Q q => ⟨v, h, q v H1 (Same.refl H1) rfl⟩
theorem eva_nil : EvA tNil σ H (fun vs _ => vs = []) := fun H1 _ Q q => q [] H1 (Same.refl H1) rfl
theorem eva_cons (h : EvP te σ H P) (m : Mo P) (hr : EvA tr σ H Pr) : EvA (tCons te tr) σ H (fun vs H' => ∃ v r, vs = v :: r ∧ P v H' ∧ Pr r H') := fun H1 s Q q =>
  h H1 s _ fun v H2 s2 p => hr H2 (s.trans s2) _ fun r H3 s3 pr => q _ H3 (s2.trans s3) ⟨v, r, rfl, m _ _ _ s3 p, pr⟩
theorem evp_tup (h : EvA ta σ H Pa) (m : MoA Pa) (hl : ∀ vs H', Pa vs H' → vs.length ≤ 1000) : EvP (tTup ta) σ H (fun v H' => ∃ p xs, v = .ref p ∧ H' p = some (.tup xs) ∧ Pa xs H') := fun H1 s Q q =>
  h H1 s _ fun xs H2 s2 pa => ⟨Nat.le_of_lt (small1000 (hl _ _ pa)), fun p hp => q _ _ (s2.trans (same_new hp _)) ⟨p, xs, rfl, upd_same, m _ _ _ (same_new hp _) pa⟩⟩
/-- a tuple of constants and slots: its items -/
theorem evp_fix {xs : List V} (h : EvA ta σ H (fun vs _ => vs = xs)) (hl : xs.length ≤ 1000) : EvP (tTup ta) σ H (fun v H' => ∃ p, v = .ref p ∧ H' p = some (.tup xs)) :=
  evp_imp (evp_tup h (fun _ _ _ _ e => e) (fun vs _ e => by rw [e]; exact hl)) fun v H' _ ⟨p, ys, e, e2, e3⟩ => ⟨p, e, by rw [e2, e3]⟩
theorem eva_c {xs : List V} (hr : EvA tr σ H (fun vs _ => vs = xs)) : EvA (tCons (tC v) tr) σ H (fun vs _ => vs = v :: xs) := fun H1 s Q q => hr H1 s _ fun r H2 s2 e => q _ H2 s2 (by rw [e])
theorem eva_v {i : Nat} {xs : List V} (h : σ[i]? = some (some v)) (hr : EvA tr σ H (fun vs _ => vs = xs)) : EvA (tCons (tVar i) tr) σ H (fun vs _ => vs = v :: xs) := fun H1 s Q q => ⟨v, h, hr H1 s _ fun r H2 s2 e => q _ H2 s2 (by rw [e])⟩
/-- a list of items that are all of one kind -/
def All (n : Nat) (P : V → Hp → Prop) : List V → Hp → Prop := fun vs H => vs.length = n ∧ ∀ v ∈ vs, P v H
theorem all_mo {n : Nat} (m : Mo P) : MoA (All n P) := fun vs H H' s h => ⟨h.1, fun v hv => m v H H' s (h.2 v hv)⟩
theorem eva_all0 : EvA tNil σ H (All 0 P) := eva_imp eva_nil fun vs _ _ e => ⟨by rw [e] <;> rfl, fun v hv => by rw [e] at hv; cases hv⟩
theorem eva_all {n : Nat} (m : Mo P) (h : EvP te σ H P) (hr : EvA tr σ H (All n P)) : EvA (tCons te tr) σ H (All (n + 1) P) := eva_imp (eva_cons h m hr) fun vs H' _ ⟨v, r, e, p, pr⟩ => ⟨by rw [e, List.length_cons, pr.1], fun x hx => by
  rw [e] at hx
  rcases List.mem_cons.mp hx with h | h
  · rw [h]; exact p
  · exact pr.2 x h⟩
theorem evp_lst (h : EvA ta σ H Pa) (m : MoA Pa) (hl : ∀ vs H', Pa vs H' → vs.length ≤ 1000) : EvP (tLst ta) σ H (fun v H' => ∃ p xs, v = .ref p ∧ H' p = some (.lst xs) ∧ Pa xs H' ∧ H p = none) := fun H1 s Q q =>
  h H1 s _ fun xs H2 s2 pa => ⟨Nat.le_of_lt (small1000 (hl _ _ pa)), fun p hp => q _ _ (s2.trans (same_new hp _)) ⟨p, xs, rfl, upd_same, m _ _ _ (same_new hp _) pa, (s.trans s2).free hp⟩⟩
/-- (w,) + both -/
theorem evp_wcat {w : V} {i : Nat} {b : Addr} {xs : List V} (hb : H b = some (.tup xs)) (hx : xs ≠ []) (hl : xs.length ≤ 900) (hi : σ[i]? = some (some (.ref b))) :
    EvP (tOp (rCatA K) (tTup (tCons (tC w) tNil)) (tVar i)) σ H (fun v H' => ∃ p, v = .ref p ∧ H' p = some (.tup (w :: xs))) := fun H1 s Q q => by
  refine ⟨(Nat.le_of_ble_eq_true rfl), fun p hp => ⟨_, hi, p, b, _, _, rfl, rfl, sqt upd_same, sqt (same_new hp _ _ _ (s _ _ hb)), ?_, (fun h => by cases h), fun _ h => absurd h hx, fun _ _ p2 hp2 => ?_⟩⟩
  · rw [List.length_singleton]
    exact Nat.le_of_lt (small1000 (by omega))
  · exact q _ _ ((same_new hp _).trans (same_new hp2 _)) ⟨p2, rfl, upd_same⟩
end
theorem valE {Q : VK} {a b : Int} {H : Hp} (h : a = b) (q : Q (.int b) H) : Q (.int a) H := by rw [h]; exact q
/-! ### items one level deeper -/
def ItP (xs : List Str) (B D S : Nat) : V → Hp → Prop := fun v H => ∃ (i : It) (b : Bool), ItemIn H i v ∧ Okx xs B b i ∧ i.dep = D ∧ i.sz ≤ S
theorem itp_mo {xs : List Str} {B D S : Nat} : Mo (ItP xs B D S) := fun v H H' s ⟨i, b, h, r⟩ => ⟨i, b, h.mono (Tp.same s), r⟩
section
variable {P : Program} {w : World} {K : PySem.W.Frag} {mg : Str → Option Value} {base : Heap}
/-! ### _law_depth -/
def spDepth (n : Nat) : Sp := fun vs H Q _ => ∃ (v : V) (i : It) (xs : List Str) (B : Nat) (b : Bool), vs = [v] ∧ ItemIn H i v ∧ Okx xs B b i ∧ i.dep ≤ n ∧ ∀ H', Same H H' → Q (.int i.dep) H'
theorem kids_dep {i : It} : i.dep = 1 + depL i.kids := by
  cases i <;> simp only [It.dep, It.kids, depL] <;> omega
theorem kids_ok {xs : List Str} {B : Nat} {b : Bool} {i : It} (h : Okx xs B b i) : ∀ j ∈ i.kids, ∃ b', Okx xs B b' j := by
  intro j hj
  cases h <;> simp only [It.kids, List.mem_cons, List.not_mem_nil, or_false] at hj
  case abs h => rw [hj]; exact ⟨_, h⟩
  case not h => rw [hj]; exact ⟨_, h⟩
  case dm h _ _ => rw [hj]; exact ⟨_, h⟩
  case bin h g =>
    rcases hj with e | e <;> rw [e]
    · exact ⟨_, h⟩
    · exact ⟨_, g⟩
  case cmp h g =>
    rcases hj with e | e <;> rw [e]
    · exact ⟨_, h⟩
    · exact ⟨_, g⟩
  case tri h g k =>
    rcases hj with e | e | e <;> rw [e]
    · exact ⟨_, h⟩
    · exact ⟨_, g⟩
    · exact ⟨_, k⟩
  case grp h => exact ⟨_, h j hj⟩
theorem kids_len {xs : List Str} {B : Nat} {b : Bool} {i : It} (h : Okx xs B b i) : i.kids.length ≤ 100 := by
  cases h <;> simp only [It.kids, List.length_cons, List.length_nil] <;> omega
theorem depL_in {l : List It} {i : It} (h : i ∈ l) : i.dep ≤ depL l := by
  induction l with
  | nil => cases h
  | cons a r ih =>
    rw [depL]
    rcases List.mem_cons.mp h with e | e
    · rw [e]; omega
    · have := ih e
      omega
theorem depL_max : ∀ l : List It, (∀ y ∈ (0 :: l.map fun i => (i.dep : Int)), y ≤ (depL l : Int)) ∧ (depL l : Int) ∈ (0 :: l.map fun i => (i.dep : Int))
  | [] => by
    rw [depL]
    refine ⟨fun y hy => ?_, List.mem_cons_self⟩
    rcases List.mem_cons.mp hy with h | h
    · rw [h]; exact Int.le_refl 0
    · cases h
  | a :: r => by
    obtain ⟨h1, h2⟩ := depL_max r
    rw [depL]
    refine ⟨fun y hy => ?_, ?_⟩
    · rw [List.map_cons] at hy
      rcases List.mem_cons.mp hy with h | h
      · omega
      · rcases List.mem_cons.mp h with h | h
        · omega
        · have := h1 y (List.mem_cons_of_mem _ h)
          omega
    · rw [List.map_cons]
      rcases Nat.le_total a.dep (depL r) with h | h
      · rw [Nat.max_eq_right h]
        rcases List.mem_cons.mp h2 with g | g
        · rw [g]; exact List.mem_cons_self
        · exact List.mem_cons_of_mem _ (List.mem_cons_of_mem _ g)
      · rw [Nat.max_eq_left h]
        exact List.mem_cons_of_mem _ List.mem_cons_self
end
end NL

namespace NL
open PySem PySem.Spec PyProof.Rows L2
/-! ### the written form, and its tokens -/
/-- what a name in a text is at least -/
structure Nw (z : Str) : Prop where
  wd : Wd z
  len : z.length ≤ 250
theorem Nam.nw {z : Str} (h : Nam z) : Nw z := ⟨h.wd, by have := h.len; omega⟩
def itxt (n : Int) : Str := Str.ofString (toString n)
mutual
def It.wr : It → Str
  | .num n => itxt n
  | .name x => x
  | .lit b => bstr b
  | .un w a => w ++ "(" ++ Str.join ", " [a.wr] ++ ")"
  | .dm w a n => w ++ "(" ++ Str.join ", " [a.wr, itxt n] ++ ")"
  | .bin w a b => w ++ "(" ++ Str.join ", " [a.wr, b.wr] ++ ")"
  | .tri a b c => "if" ++ "(" ++ Str.join ", " [a.wr, b.wr, c.wr] ++ ")"
  | .grp w l => w ++ "(" ++ Str.join ", " (wrL l) ++ ")"
def wrL : List It → List Str
  | [] => []
  | a :: r => a.wr :: wrL r
end
theorem wrL_map : ∀ l : List It, wrL l = l.map It.wr
  | [] => by rw [wrL]; rfl
  | a :: r => by rw [wrL, wrL_map r]; rfl
/-- rows of tokens with a comma between two of them -/
def sepF : List (List Str) → List Str
  | [] => []
  | a :: r => a ++ r.flatMap fun t => ("," : Str) :: t
theorem sepF_snoc (l : List (List Str)) (t : List Str) : sepF (l ++ [t]) = sepF l ++ (if l = [] then ([] : List Str) else [","]) ++ t := by
  cases l with
  | nil => simp [sepF]
  | cons a r => simp [sepF, List.flatMap_append]
mutual
def It.tk : It → List Str
  | .num n => [itxt n]
  | .name x => [x]
  | .lit b => [bstr b]
  | .un w a => ([w, "("] : List Str) ++ sepF [a.tk] ++ ([")"] : List Str)
  | .dm w a n => ([w, "("] : List Str) ++ sepF [a.tk] ++ ([",", itxt n] : List Str) ++ ([")"] : List Str)
  | .bin w a b => ([w, "("] : List Str) ++ sepF [a.tk, b.tk] ++ ([")"] : List Str)
  | .tri a b c => (["if", "("] : List Str) ++ sepF [a.tk, b.tk, c.tk] ++ ([")"] : List Str)
  | .grp w l => ([w, "("] : List Str) ++ sepF (tkL l) ++ ([")"] : List Str)
def tkL : List It → List (List Str)
  | [] => []
  | a :: r => a.tk :: tkL r
end
theorem tkL_map : ∀ l : List It, tkL l = l.map It.tk
  | [] => by rw [tkL]; rfl
  | a :: r => by rw [tkL, tkL_map r]; rfl
/-- behind the parts: the divisor -/
def It.tailT : It → List Str
  | .dm _ _ n => [",", itxt n]
  | _ => []
def It.tailW : It → List Str
  | .dm _ _ n => [itxt n]
  | _ => []
theorem tk_eq {i : It} (h : i.cls ≠ 0) : i.tk = ([i.word, "("] : List Str) ++ sepF (i.kids.map It.tk) ++ i.tailT ++ ([")"] : List Str) := by
  cases i with
  | num _ => exact absurd rfl h
  | name _ => exact absurd rfl h
  | lit _ => exact absurd rfl h
  | un w a => rw [It.tk]; simp [It.word, It.kids, It.tailT]
  | dm w a n => rw [It.tk]; simp [It.word, It.kids, It.tailT]
  | bin w a b => rw [It.tk]; simp [It.word, It.kids, It.tailT]
  | tri a b c => rw [It.tk]; simp [It.word, It.kids, It.tailT]
  | grp w l => rw [It.tk, tkL_map]; simp [It.word, It.kids, It.tailT]
theorem wr_eq {i : It} (h : i.cls ≠ 0) : i.wr = i.word ++ "(" ++ Str.join ", " (i.kids.map It.wr ++ i.tailW) ++ ")" := by
  cases i with
  | num _ => exact absurd rfl h
  | name _ => exact absurd rfl h
  | lit _ => exact absurd rfl h
  | un w a => rw [It.wr]; simp [It.word, It.kids, It.tailW]
  | dm w a n => rw [It.wr]; simp [It.word, It.kids, It.tailW]
  | bin w a b => rw [It.wr]; simp [It.word, It.kids, It.tailW]
  | tri a b c => rw [It.wr]; simp [It.word, It.kids, It.tailW]
  | grp w l => rw [It.wr, wrL_map]; simp [It.word, It.kids, It.tailW]
/-! ### what the tokens are worth together -/
def sub (t : Str) : Str := if t = "," then ", " else t
/-- the signs of the tokens, each comma with a space -/
def ct (ts : List Str) : List Nat := ts.flatMap fun t => (sub t).cps.toList
theorem ct_app (a b : List Str) : ct (a ++ b) = ct a ++ ct b := List.flatMap_append
theorem ct_cons (a : Str) (b : List Str) : ct (a :: b) = (sub a).cps.toList ++ ct b := rfl
theorem ct_nil : ct [] = [] := rfl
theorem join_codes : ∀ l : List Str, (Str.join "" l).cps.toList = l.flatMap fun t => t.cps.toList
  | [] => rfl
  | [x] => by
    show x.cps.toList = _
    simp
  | x :: y :: r => by
    have e : Str.join "" (x :: y :: r) = x ++ "" ++ Str.join "" (y :: r) := rfl
    rw [e, app_list, app_list, join_codes (y :: r), show ("" : Str).cps.toList = [] by decide +kernel, List.append_nil]
    rfl
theorem ct_join (ts : List Str) : (Str.join "" (ts.map sub)).cps.toList = ct ts := by
  rw [join_codes, List.flatMap_map]
  rfl
theorem sub_ne {t : Str} (h : t ≠ ",") : sub t = t := if_neg h
theorem ct_sep {f : It → List Str} {g : It → Str} : ∀ (l : List It), (∀ i ∈ l, ct (f i) = (g i).cps.toList) → ct (sepF (l.map f)) = (Str.join ", " (l.map g)).cps.toList
  | [], _ => rfl
  | [a], h => by
    show ct (f a ++ []) = (g a).cps.toList
    rw [List.append_nil]
    exact h a List.mem_cons_self
  | a :: b :: r, h => by
    have e : Str.join ", " ((a :: b :: r).map g) = g a ++ ", " ++ Str.join ", " ((b :: r).map g) := rfl
    have ih := ct_sep (b :: r) fun i hi => h i (List.mem_cons_of_mem _ hi)
    have e2 : sepF ((a :: b :: r).map f) = f a ++ ("," : Str) :: sepF ((b :: r).map f) := by
      show f a ++ ((("," : Str) :: f b) ++ _) = _
      rw [List.cons_append]
      rfl
    rw [e, app_list, app_list, e2, ct_app, h a List.mem_cons_self, ct_cons, ih]
    rw [show sub "," = ", " by decide +kernel, List.append_assoc]
theorem itxt_ne (n : Int) : itxt n ≠ "," := fun h => by
  have h44 := int_text_free' 44 ⟨by decide, by decide⟩ n
  have h2 : (44 : Nat) ∈ (itxt n).cps.toList := by rw [h]; decide +kernel
  exact h44 h2
theorem wd_ne {z : Str} (h : Wd z) : z ≠ "," := fun e => by
  rw [e] at h
  exact absurd h (by decide +kernel)
theorem word_wd {xs : List Str} {B : Nat} {b : Bool} {i : It} (h : Okx xs B b i) : Wd i.word ∧ i.word.length ≤ 6 := by
  have g : ∀ z ∈ (["number", "name", "true", "false", "abs", "not", "div", "mod", "add", "sub", "mul", "min", "max", "less", "equal", "if", "all", "any"] : List Str), Wd z ∧ z.length ≤ 6 := by decide +kernel
  refine g _ ?_
  simp only [List.mem_cons, List.not_mem_nil, or_false]
  cases h with
  | num _ => simp [It.word]
  | name _ => simp [It.word]
  | lit => rename_i b; cases b <;> simp [It.word, bstr]
  | abs _ => simp [It.word]
  | not _ => simp [It.word]
  | dm hw _ _ _ =>
    simp only [List.mem_cons, List.not_mem_nil, or_false] at hw
    rcases hw with rfl | rfl <;> simp [It.word]
  | bin hw _ _ =>
    simp only [List.mem_cons, List.not_mem_nil, or_false] at hw
    rcases hw with rfl | rfl | rfl | rfl | rfl <;> simp [It.word]
  | cmp hw _ _ =>
    simp only [List.mem_cons, List.not_mem_nil, or_false] at hw
    rcases hw with rfl | rfl <;> simp [It.word]
  | tri _ _ _ => simp [It.word]
  | grp hw _ _ =>
    simp only [List.mem_cons, List.not_mem_nil, or_false] at hw
    rcases hw with rfl | rfl <;> simp [It.word]
theorem kids_rec {xs : List Str} {B : Nat} {p : It → Prop} (leaf : ∀ b i, Okx xs B b i → i.cls = 0 → p i) (node : ∀ b i, Okx xs B b i → i.cls ≠ 0 → (∀ j ∈ i.kids, p j) → p i) {b : Bool} {i : It} (h : Okx xs B b i) : p i := by
  induction h with
  | num h => exact leaf _ _ (.num h) rfl
  | name h => exact leaf _ _ (.name h) rfl
  | lit => exact leaf _ _ .lit rfl
  | abs h ih =>
    refine node _ _ (.abs h) (by simp [It.cls]) fun j hj => ?_
    simp only [It.kids, List.mem_cons, List.not_mem_nil, or_false] at hj
    rw [hj]; exact ih
  | not h ih =>
    refine node _ _ (.not h) (by simp [It.cls]) fun j hj => ?_
    simp only [It.kids, List.mem_cons, List.not_mem_nil, or_false] at hj
    rw [hj]; exact ih
  | dm hw h h1 h2 ih =>
    refine node _ _ (.dm hw h h1 h2) (by simp [It.cls]) fun j hj => ?_
    simp only [It.kids, List.mem_cons, List.not_mem_nil, or_false] at hj
    rw [hj]; exact ih
  | bin hw h g ih jh =>
    refine node _ _ (.bin hw h g) (by simp [It.cls]) fun j hj => ?_
    simp only [It.kids, List.mem_cons, List.not_mem_nil, or_false] at hj
    rcases hj with e | e <;> rw [e] <;> assumption
  | cmp hw h g ih jh =>
    refine node _ _ (.cmp hw h g) (by simp [It.cls]) fun j hj => ?_
    simp only [It.kids, List.mem_cons, List.not_mem_nil, or_false] at hj
    rcases hj with e | e <;> rw [e] <;> assumption
  | tri h g k ih jh kh =>
    refine node _ _ (.tri h g k) (by simp [It.cls]) fun j hj => ?_
    simp only [It.kids, List.mem_cons, List.not_mem_nil, or_false] at hj
    rcases hj with e | e | e <;> rw [e] <;> assumption
  | grp hw hl h ih => exact node _ _ (.grp hw hl h) (by simp [It.cls]) (fun j hj => ih j hj)
/-- THE EQUATION: the tokens, glued, are the written form -/
theorem ct_tk {xs : List Str} {B : Nat} (hx : ∀ x ∈ xs, Nw x) {b : Bool} {i : It} (h : Okx xs B b i) : ct i.tk = i.wr.cps.toList := by
  refine kids_rec (p := fun i => ct i.tk = i.wr.cps.toList) (fun b i h h0 => ?_) (fun b i h h0 ih => ?_) h
  · cases h with
    | num _ => rw [It.tk, It.wr, ct_cons, ct_nil, List.append_nil, sub_ne (itxt_ne _)]
    | name hm => rw [It.tk, It.wr, ct_cons, ct_nil, List.append_nil, sub_ne (wd_ne (hx _ hm).wd)]
    | lit => rename_i b; cases b <;> (rw [It.tk, It.wr]; decide +kernel)
    | abs _ => cases h0
    | not _ => cases h0
    | dm _ _ _ _ => cases h0
    | bin _ _ _ => cases h0
    | cmp _ _ _ => cases h0
    | tri _ _ _ => cases h0
    | grp _ _ _ => cases h0
  · rw [tk_eq h0, wr_eq h0]
    have hs := ct_sep i.kids ih
    have hw := sub_ne (wd_ne (word_wd h).1)
    have e1 : ct ([i.word, "("] : List Str) = i.word.cps.toList ++ ("(" : Str).cps.toList := by
      rw [ct_cons, ct_cons, ct_nil, List.append_nil, hw, show sub "(" = "(" by decide +kernel]
    have e2 : ct ([")"] : List Str) = (")" : Str).cps.toList := by decide +kernel
    rw [ct_app, ct_app, ct_app, e1, e2, hs, app_list, app_list, app_list]
    congr 1
    rw [List.append_assoc]
    congr 1
    cases i with
    | dm w a n =>
      show (Str.join ", " [a.wr]).cps.toList ++ ct ([",", itxt n] : List Str) = (Str.join ", " [a.wr, itxt n]).cps.toList
      have e3 : Str.join ", " [a.wr, itxt n] = a.wr ++ ", " ++ itxt n := rfl
      have e4 : Str.join ", " [a.wr] = a.wr := rfl
      rw [e3, e4, ct_cons, ct_cons, ct_nil, sub_ne (itxt_ne n), app_list, app_list, show sub "," = ", " by decide +kernel, List.append_nil, List.append_assoc]
    | _ => simp [It.tailT, It.tailW, ct_nil]
/-! ### sizes -/
theorem itxt_len {n : Int} (h : n.natAbs < 10 ^ 61) : (itxt n).length ≤ 62 := by
  have h1 := int_text_length_le10 (by decide : 0 < 61) h
  have h2 : (itxt n).length = (toString n).length := PySem.ofString_length _
  omega
end NL

namespace NL
open PySem PySem.Spec PyProof.Rows L2
theorem sz_eq (i : It) : i.sz = 1 + szL i.kids := by
  cases i <;> simp only [It.sz, It.kids, szL] <;> omega
theorem szL_map (l : List It) : szL l = (l.map It.sz).sum := by
  induction l with
  | nil => rw [szL]; rfl
  | cons a r ih => rw [szL, ih, List.map_cons, List.sum_cons]
theorem join_len (sep : Str) : ∀ l : List Str, (Str.join sep l).length ≤ (l.map fun t => t.length + sep.length).sum
  | [] => Nat.zero_le _
  | [x] => by
    show x.length ≤ x.length + sep.length + 0
    omega
  | x :: y :: r => by
    have e : Str.join sep (x :: y :: r) = x ++ sep ++ Str.join sep (y :: r) := rfl
    have ih := join_len sep (y :: r)
    rw [e, len_app, len_app, List.map_cons, List.sum_cons]
    omega
theorem sum_le {f g : It → Nat} : ∀ l : List It, (∀ i ∈ l, f i ≤ g i) → (l.map f).sum ≤ (l.map g).sum
  | [], _ => Nat.le_refl _
  | a :: r, h => by
    rw [List.map_cons, List.map_cons, List.sum_cons, List.sum_cons]
    have h1 := h a List.mem_cons_self
    have h2 := sum_le r fun i hi => h i (List.mem_cons_of_mem _ hi)
    omega
theorem sum_mul (k : Nat) : ∀ l : List It, (l.map fun i => k * i.sz).sum = k * szL l
  | [] => by rw [szL]; rfl
  | a :: r => by rw [List.map_cons, List.sum_cons, sum_mul k r, szL, Nat.mul_add]
/-- ints of these items have short texts -/
theorem tail_len {xs : List Str} {B : Nat} (hB : B < 10 ^ 60 + 1) {b : Bool} {i : It} (h : Okx xs B b i) : (i.tailW.map fun t => t.length + 2).sum ≤ 64 ∧ i.tailT.length ≤ 2 := by
  cases h with
  | dm hw h h1 h2 =>
    rename_i n
    have hn := itxt_len (n := n) (by have e : (10 : Nat) ^ 61 = 10 * 10 ^ 60 := by decide
                                     omega)
    show (itxt n).length + 2 + 0 ≤ 64 ∧ 2 ≤ 2
    omega
  | _ => exact ⟨Nat.zero_le _, Nat.zero_le _⟩
theorem wr_len {xs : List Str} {B : Nat} (hx : ∀ x ∈ xs, Nw x) (hB : B < 10 ^ 60 + 1) {b : Bool} {i : It} (h : Okx xs B b i) : i.wr.length + 10 ≤ 300 * i.sz ∧ i.tk.length + 2 ≤ 10 * i.sz := by
  refine kids_rec (p := fun i => i.wr.length + 10 ≤ 300 * i.sz ∧ i.tk.length + 2 ≤ 10 * i.sz) (fun b i h h0 => ?_) (fun b i h h0 ih => ?_) h
  · cases h with
    | num hn =>
      rename_i n
      have hn := itxt_len (n := n) (by have e : (10 : Nat) ^ 61 = 10 * 10 ^ 60 := by decide
                                       omega)
      rw [It.wr, It.sz, It.tk, List.length_singleton]
      omega
    | name hm =>
      have := (hx _ hm).len
      rw [It.wr, It.sz, It.tk, List.length_singleton]
      omega
    | lit =>
      rename_i b
      rw [It.wr, It.sz, It.tk, List.length_singleton]
      have : (bstr b).length ≤ 10 := by cases b <;> decide +kernel
      omega
    | abs _ => cases h0
    | not _ => cases h0
    | dm _ _ _ _ => cases h0
    | bin _ _ _ => cases h0
    | cmp _ _ _ => cases h0
    | tri _ _ _ => cases h0
    | grp _ _ _ => cases h0
  · have hw := (word_wd h).2
    obtain ⟨t1, t2⟩ := tail_len hB h
    have hz := sz_eq i
    have l1 : ("(" : Str).length = 1 ∧ (")" : Str).length = 1 ∧ (", " : Str).length = 2 := by decide +kernel
    constructor
    · rw [wr_eq h0, len_app, len_app, len_app]
      have j := join_len ", " (i.kids.map It.wr ++ i.tailW)
      rw [l1.2.2, List.map_append, List.sum_append, List.map_map] at j
      have k := sum_le (f := (fun t : Str => t.length + 2) ∘ It.wr) (g := fun i => 300 * i.sz) i.kids fun i hi => by
        have := (ih i hi).1
        show i.wr.length + 2 ≤ 300 * i.sz
        omega
      rw [sum_mul] at k
      omega
    · rw [tk_eq h0, List.length_append, List.length_append, List.length_append]
      have hs : (sepF (i.kids.map It.tk)).length ≤ (i.kids.map fun i => i.tk.length + 1).sum := by
        cases i.kids with
        | nil => exact Nat.zero_le _
        | cons a r =>
          show (a.tk ++ (r.map It.tk).flatMap _).length ≤ _
          rw [List.length_append, List.length_flatMap, List.map_cons, List.sum_cons, List.map_map]
          have : ((fun a => (("," : Str) :: a).length) ∘ It.tk) = fun i : It => i.tk.length + 1 := rfl
          rw [this]
          omega
      have k := sum_le (f := fun i : It => i.tk.length + 1) (g := fun i => 10 * i.sz) i.kids fun i hi => by
        have := (ih i hi).2
        omega
      rw [sum_mul] at k
      have e1 : ([i.word, "("] : List Str).length = 2 ∧ ([")"] : List Str).length = 1 := ⟨rfl, rfl⟩
      omega
theorem log_ok {n : Int} (h : n.natAbs < 10 ^ 61) : n.natAbs.log2 < 1920 := by
  by_cases h0 : n.natAbs = 0
  · rw [h0]; decide
  · exact (Nat.log2_lt h0).mpr (Nat.lt_of_lt_of_le h (by decide))
end NL

namespace NL
open PySem PySem.Spec PyProof.Rows L2
theorem ItemIn.leaf {H : Hp} {i : It} {a : Addr} (h : ItemIn H i (.ref a)) (h3 : i.cls = 0) :
    (∃ n, i = .num n ∧ H a = some (.tup [.str "number", .int n])) ∨ (∃ x, i = .name x ∧ H a = some (.tup [.str "name", .str x])) ∨ ∃ b, i = .lit b ∧ H a = some (.tup [.str (bstr b)]) := by
  cases h with
  | num e => exact .inl ⟨_, rfl, e⟩
  | name e => exact .inr (.inl ⟨_, rfl, e⟩)
  | lit e => exact .inr (.inr ⟨_, rfl, e⟩)
  | un _ _ => cases h3
  | dm _ _ => cases h3
  | bin _ _ _ => cases h3
  | tri _ _ _ _ => cases h3
  | grp _ _ _ _ => cases h3
theorem strE {a b : Str} : decide (V.str a = V.str b) = decide (a = b) := decide_eq_decide.mpr ⟨V.str.inj, fun h => by rw [h]⟩
/-- an item that is no leaf has another word -/
theorem word_ne {xs : List Str} {B : Nat} {b : Bool} {i : It} (h : Okx xs B b i) (h0 : i.cls ≠ 0) {z : Str} (hz : z ∈ (["number", "name", "true", "false"] : List Str)) : decide (V.str i.word = V.str z) = false := by
  rw [strE]
  have c := (word_cls h).1
  have e : (i.cls == 0) = false := by simpa using h0
  rw [e] at c
  refine decide_eq_false fun q => ?_
  rw [← q] at hz
  exact absurd (show wl i.word _ = true from decide_eq_true hz) (by rw [c]; exact Bool.false_ne_true)
theorem in_divs {i : It} : (i.cls == 2) = true ↔ i.cls = 2 := by simp
section
variable {P : Program} {w : World} {K : PySem.W.Frag} {mg : Str → Option Value} {base : Heap}
/-! ### parts_in -/
def spParts : Sp := fun vs H Q _ => ∃ (v : V) (i : It) (xs : List Str) (B : Nat) (b : Bool), vs = [v] ∧ ItemIn H i v ∧ Okx xs B b i ∧ ∀ p ys H', Same H H' → H' p = some (.tup ys) → Kids H' i.kids ys → Q (.ref p) H'
theorem ok_parts_in (T : Txt K mg) : FnOk P w K mg base CX0 1 T.aparts_in T.dparts_in Pparts_in spParts := by
  refine T.Fparts_in.ok scparts_in (fun vs H Q E h => ?_) (fun cdv A outer s H vs Q E hr h => ?_)
  · obtain ⟨v, i, xs, B, b, rfl, _⟩ := h
    rfl
  obtain ⟨v, i, xs, B, b, rfl, hi, ho, q⟩ := h
  obtain ⟨a, rfl⟩ := hi.ref
  obtain ⟨r, ha⟩ := hi.head
  obtain ⟨c0, cn, ct_, c1, c2⟩ := word_cls ho
  refine ⟨_, (pss_cons (ps_set (i := 1) scparts_in.nd rfl (Or.inl rfl) (pe_ix ix_tup (pv 0) pe_int (fun _ _ => rfl)))
    (pss_cons (ps_if (pt_cmpR op_in_seq (pv 1) (pe_tup (pa_cons pe_str (pa_cons pe_str pa_nil))) (by rfl))
    (pss_one (ps_ret (pe_tup pa_nil)))
    pss_nil)
    (pss_cons (ps_if (pt_cmpR op_in_seq (pv 1) (pe_tup (pa_cons pe_str (pa_cons pe_str pa_nil))) (by rfl))
    (pss_one (ps_ret (pe_slice sl_tup (pv 0) (po_some pe_int) (po_some pe_int))))
    pss_nil)
    (pss_cons (ps_if (pt_cmpR op_in_seq (pv 1) (pe_tup (pa_cons pe_str (pa_cons pe_str pa_nil))) (by rfl))
    (pss_one (ps_ret (pe_ix ix_tup (pv 0) pe_int (fun _ _ => rfl))))
    pss_nil)
    (pss_one (ps_ret (pe_slice sl_tup (pv 0) (po_some pe_int) po_none))))))), ?_⟩
  refine ⟨_, rfl, a, _, 0, _, rfl, rfl, sqt ha, atI0, ?_⟩
  refine ⟨_, rfl, (Nat.le_of_ble_eq_true rfl), fun p1 hp1 => ?_⟩
  have s1 := fun o => same_new hp1 o
  refine ⟨p1, _, rfl, .inr (sqt upd_same), rfl, (by decide +kernel), _, rfl, ?_⟩
  by_cases hnn : (i.cls == 0 && !b) = true
  · refine ifT (inT (ys := ["number", "name"]) rfl (by rw [cn]; exact hnn)) ?_
    have h0 : i.cls = 0 := by simp at hnn; exact hnn.1
    refine ⟨(Nat.le_of_ble_eq_true rfl), fun p hp => ?_⟩
    exact q p [] _ ((s1 _).trans (same_new hp _)) upd_same (by rw [kids_leaf h0]; exact kids0)
  refine ifF (inT (ys := ["number", "name"]) rfl (by rw [cn]; simpa using hnn)) ?_
  refine ⟨_, rfl, (Nat.le_of_ble_eq_true rfl), fun p2 hp2 => ?_⟩
  have s2 := fun o => (s1 _).trans (same_new hp2 o)
  refine ⟨p2, _, rfl, .inr (sqt upd_same), rfl, (by decide +kernel), _, rfl, ?_⟩
  by_cases h2 : i.cls = 2
  · refine ifT (inT (ys := ["div", "mod"]) rfl (by rw [c2, h2] <;> rfl)) ?_
    obtain ⟨x, j, n, e1, hj, ej⟩ := hi.divs h2
    refine ⟨_, rfl, 1, rfl, 2, rfl, a, _, rfl, sqt (s2 _ _ _ e1), not_whole _ _ _, fun p hp => ?_⟩
    refine q p [x] _ ((s2 _).trans (same_new hp _)) upd_same ?_
    rw [ej]
    exact kids1 (hj.mono (Tp.same ((s2 _).trans (same_new hp _))))
  refine ifF (inT (ys := ["div", "mod"]) rfl (by rw [c2]; simpa using h2)) ?_
  refine ⟨_, rfl, (Nat.le_of_ble_eq_true rfl), fun p3 hp3 => ?_⟩
  have s3 := fun o => (s2 _).trans (same_new hp3 o)
  refine ⟨p3, _, rfl, .inr (sqt upd_same), rfl, (by decide +kernel), _, rfl, ?_⟩
  by_cases h1 : i.cls = 1
  · refine ifT (inT (ys := ["all", "any"]) rfl (by rw [c1, h1] <;> rfl)) ?_
    obtain ⟨b2, ys, e1, e2, hk⟩ := hi.group h1
    refine ⟨_, rfl, a, _, 1, _, rfl, rfl, sqt (s3 _ _ _ e1), atI1, ?_⟩
    exact q b2 ys _ (s3 _) (s3 _ _ _ e2) (hk.mono (Tp.same (s3 _)))
  refine ifF (inT (ys := ["all", "any"]) rfl (by rw [c1]; simpa using h1)) ?_
  by_cases h0 : i.cls = 0
  · -- true, false: nothing stands behind the word
    rcases hi.leaf h0 with ⟨n, e, e1⟩ | ⟨n, e, e1⟩ | ⟨n, e, e1⟩
    · subst e; cases ho; exact absurd rfl hnn
    · subst e; cases ho; exact absurd rfl hnn
    · refine ⟨_, rfl, 1, rfl, a, _, rfl, sqt (s3 _ _ _ e1), not_whole _ _ _, fun p hp => ?_⟩
      rw [cut_tail]
      exact q p [] _ ((s3 _).trans (same_new hp _)) upd_same (by rw [kids_leaf h0]; exact kids0)
  · obtain ⟨ys, e1, hk⟩ := hi.rest (by rcases cls_le i with h | h | h | h <;> first | exact absurd h h0 | exact absurd h h1 | exact absurd h h2 | exact h)
    refine ⟨_, rfl, 1, rfl, a, _, rfl, sqt (s3 _ _ _ e1), not_whole _ _ _, fun p hp => ?_⟩
    rw [cut_tail]
    exact q p ys _ ((s3 _).trans (same_new hp _)) upd_same (hk.mono (Tp.same ((s3 _).trans (same_new hp _))))
/-! ### _written -/
structure Fit (xs : List Str) (B n : Nat) (b : Bool) (i : It) : Prop where
  ok : Okx xs B b i
  nm : ∀ x ∈ xs, Nw x
  bd : B < 10 ^ 60 + 1
  dp : i.dep ≤ n
  sz : i.sz ≤ 1000
theorem Fit.kid {xs : List Str} {B n : Nat} {b : Bool} {i j : It} (f : Fit xs B (n + 1) b i) (h : j ∈ i.kids) : ∃ b', Fit xs B n b' j := by
  obtain ⟨b', ho⟩ := kids_ok f.ok j h
  have h1 := depL_in h
  have h2 := @kids_dep i
  have h3 := sz_eq i
  have h4 : j.sz ≤ szL i.kids := by
    have : ∀ l : List It, j ∈ l → j.sz ≤ szL l := fun l => by
      induction l with
      | nil => intro h; cases h
      | cons a r ih =>
        intro h
        rw [szL]
        rcases List.mem_cons.mp h with e | e
        · rw [e]; omega
        · have := ih e
          omega
    exact this _ h
  have h5 := f.dp
  have h6 := f.sz
  exact ⟨b', ho, f.nm, f.bd, by omega, by omega⟩
theorem big {n : Nat} (h : n ≤ 1000000) : n ≤ sizeLine := Nat.le_trans h (by decide)
theorem big' {n : Nat} (h : n ≤ 1000000) : n < sizeLine := Nat.lt_of_le_of_lt h (by decide)
theorem strV {Q : VK} {a b : Str} {H : Hp} (h : a = b) (q : Q (.str b) H) : Q (.str a) H := by rw [h]; exact q
def spWr (n : Nat) : Sp := fun vs H Q _ => ∃ (v : V) (i : It) (xs : List Str) (B : Nat) (b : Bool), vs = [v] ∧ ItemIn H i v ∧ Fit xs B n b i ∧ ∀ H', Same H H' → Q (.str i.wr) H'
theorem ok_written (T : Txt K mg) : ∀ n : Nat, FnOk P w K mg base CX0 (n + 2) T.a_written T.d_written P_written (spWr n)
  | 0 => by
    have no : ∀ vs H Q E, ¬ spWr 0 vs H Q E := fun vs H Q E ⟨v, i, xs, B, b, _, _, f, _⟩ => by
      have := dep_pos i
      have := f.dp
      omega
    exact ⟨fun vs H Q E h => absurd h (no vs H Q E), fun A outer s H args us vs Q E _ _ _ _ h => absurd h (no vs H Q E)⟩
  | n + 1 => by
    have G_written := ok_written T n
    have Gparts_in := ok_parts_in (P := P) (w := w) (base := base) T
    refine T.F_written.ok sc_written (fun vs H Q E h => ?_) (fun cdv A outer s H vs Q E hr h => ?_)
    · obtain ⟨v, i, xs, B, b, rfl, _⟩ := h
      rfl
    obtain ⟨v, i, xs, B, b, rfl, hi, hf, q⟩ := h
    obtain ⟨a, rfl⟩ := hi.ref
    obtain ⟨r, ha⟩ := hi.head
    have ho := hf.ok
    obtain ⟨c0, cn, ct_, c1, c2⟩ := word_cls ho
    refine ⟨_, (pss_cons (ps_set (i := 1) sc_written.nd rfl (Or.inl rfl) (pe_ix ix_tup (pv 0) pe_int (fun _ _ => rfl)))
    (pss_cons (ps_if (pt_cmpR op_eq (pv 1) pe_str (nomark _))
    (pss_one (ps_ret (pe_callTy call_str_int (by rfl) T.z_str (by decide +kernel) (pa_cons (pe_ix ix_tup (pv 0) pe_int (fun _ _ => rfl)) pa_nil))))
    pss_nil)
    (pss_cons (ps_if (pt_cmpR op_eq (pv 1) pe_str (nomark _))
    (pss_one (ps_ret (pe_ix ix_tup (pv 0) pe_int (fun _ _ => rfl))))
    pss_nil)
    (pss_cons (ps_if (pt_cmpR op_in_seq (pv 1) (pe_tup (pa_cons pe_str (pa_cons pe_str pa_nil))) (by rfl))
    (pss_one (ps_ret (pv 1)))
    pss_nil)
    (pss_cons (ps_setLc (i := 2) (own := [("part", 3)]) (g := (gName 3)) (tt := tYes) rfl sc_written.nd rfl rfl (sw_true rfl rfl rfl (by decide +kernel)) (pi_tup (pe_call Gparts_in (hr.mono (by omega)) (by rfl) T.mparts_in T.Fparts_in.kp T.bparts_in .nil pass0 (pa_cons (pv 0) pa_nil))) (blkOk_by (N := N_written) (sc := defScope s_written) (by decide +kernel)) (fun _ _ _ _ _ => (pg_name (i := 3) sc_written.nd rfl (Or.inl rfl))) (fun _ _ _ _ _ => pts_nil) (fun _ _ _ _ _ => (pe_call G_written (hr.mono (by omega)) (by rfl) T.m_written T.F_written.kp T.b_written .nil pass0 (pa_cons (pv 3) pa_nil))))
    (C8.pss_cut (ps_if (pt_cmpR op_in_seq (pv 1) (pe_tup (pa_cons pe_str (pa_cons pe_str pa_nil))) (by rfl))
    (pss_one (ps_expr (pe_bm PySem.F.plainAttrs_list PySem.F.slot_list_append PySem.F.type_list_append mt_append (pv 2) (pa_cons (pe_callTy call_str_int (by rfl) T.z_str (by decide +kernel) (pa_cons (pe_ix ix_tup (pv 0) pe_int (fun _ _ => rfl)) pa_nil)) pa_nil))))
    pss_nil)
    (pss_one (ps_ret (pe_op op_add_str (pe_op op_add_str (pe_op op_add_str (pv 1) pe_str) (pe_join pe_str (pv 2))) pe_str))))))))), ?_⟩
    refine ⟨_, rfl, a, _, 0, _, rfl, rfl, sqt ha, atI0, ?_⟩
    refine ⟨_, rfl, rfl, _, rfl, ?_⟩
    have e60 : (10 : Nat) ^ 61 = 10 * 10 ^ 60 := by decide
    by_cases h0 : i.cls = 0
    · rcases hi.leaf h0 with ⟨n, e, e1⟩ | ⟨n, e, e1⟩ | ⟨n, e, e1⟩
      · subst e
        refine ifT (by show decide (V.str ("number" : Str) = V.str ("number" : Str)) = true; decide +kernel) ?_
        have hn : n.natAbs ≤ B := by cases ho; assumption
        have hb := hf.bd
        exact ⟨_, rfl, a, _, 1, _, rfl, rfl, sqt e1, atI1, n, rfl, log_ok (by omega), strV (by rw [It.wr]; rfl) (q _ (Same.refl H))⟩
      · subst e
        refine ifF (by show decide (V.str ("name" : Str) = V.str ("number" : Str)) = false; decide +kernel) ?_
        refine ⟨_, rfl, rfl, _, rfl, ?_⟩
        refine ifT (by show decide (V.str ("name" : Str) = V.str ("name" : Str)) = true; decide +kernel) ?_
        exact ⟨_, rfl, a, _, 1, _, rfl, rfl, sqt e1, atI1, strV (by rw [It.wr]) (q _ (Same.refl H))⟩
      · subst e
        refine ifF (by cases n <;> decide +kernel) ?_
        refine ⟨_, rfl, rfl, _, rfl, ?_⟩
        refine ifF (by cases n <;> decide +kernel) ?_
        refine ⟨_, rfl, (Nat.le_of_ble_eq_true rfl), fun p1 hp1 => ?_⟩
        refine ⟨p1, _, rfl, .inr (sqt upd_same), rfl, (by decide +kernel), _, rfl, ?_⟩
        refine ifT (inT (ys := ["true", "false"]) rfl (by cases n <;> decide +kernel)) ?_
        exact ⟨_, rfl, strV (by rw [It.wr]; rfl) (q _ (same_new hp1 _))⟩
    · refine ifF (word_ne ho h0 (by decide +kernel)) ?_
      refine ⟨_, rfl, rfl, _, rfl, ?_⟩
      refine ifF (word_ne ho h0 (by decide +kernel)) ?_
      refine ⟨_, rfl, (Nat.le_of_ble_eq_true rfl), fun p1 hp1 => ?_⟩
      have s1 := fun o => same_new hp1 o
      refine ⟨p1, _, rfl, .inr (sqt upd_same), rfl, (by decide +kernel), _, rfl, ?_⟩
      refine ifF (inT (ys := ["true", "false"]) rfl (by rw [ct_]; simp [h0])) ?_
      -- parts
      refine ⟨_, rfl, _, i, xs, B, b, rfl, hi.mono (Tp.same (s1 _)), ho, fun tp ys H2 s2 e2 hk => ?_⟩
      refine ⟨tp, rfl, ⟨_, sqt e2⟩, fun D hD => ?_⟩
      refine lc_tup (K := K) (a := tp) (xs := ys) (fun (j : Nat) (H' : Hp) => Same H2 H' ∧ H' D = some (.lst ((i.kids.take j).map fun k => V.str k.wr))) ?_ ?_ ?_ ?_
      · exact ⟨same_new hD _, by rw [upd_same, List.take_zero]; rfl⟩
      · rintro j H' _ ⟨s3, _⟩
        exact sqt (s3 _ _ e2)
      · rintro j x H' hx ⟨s3, e3⟩
        obtain ⟨kj, hkj, hin, hmem⟩ := hk.get hx
        obtain ⟨b', hf'⟩ := hf.kid hmem
        refine ⟨rfl, yes_if ?_⟩
        refine ⟨_, rfl, _, kj, xs, B, b', rfl, hin.mono (Tp.same s3), hf', fun H4 s4 => ?_⟩
        refine ⟨_, s4 _ _ e3, ?_, same_put (s3.trans s4) hD, ?_⟩
        · rw [List.length_map, List.length_take]
          have := kids_len ho
          exact small1000 (by omega)
        · rw [upd_same, List.take_add_one, hkj, List.map_append]
          rfl
      · rintro H3 ⟨s3, e3⟩
        rw [hk.1, List.take_length] at e3
        have hkl := kids_len ho
        have s13 := (s1 _).trans (s2.trans s3)
        have hHD : H D = none := ((s1 _).trans s2).free hD
        -- div, mod
        refine ⟨fun σ H4 => ∃ y3 : Option V, σ = [some (.ref a), some (.str i.word), some (.ref D), y3] ∧ Same H H4 ∧ H4 D = some (.lst ((i.kids.map It.wr ++ i.tailW).map V.str)), ?_, ?_⟩
        · refine ⟨_, rfl, (Nat.le_of_ble_eq_true rfl), fun p4 hp4 => ?_⟩
          have s4 := fun o => s13.trans (same_new hp4 o)
          have e4 := fun o => same_new hp4 o D _ e3
          refine ⟨p4, _, rfl, .inr (sqt upd_same), rfl, (by decide +kernel), _, rfl, ?_⟩
          by_cases h2 : i.cls = 2
          · refine ifT (inT (ys := ["div", "mod"]) rfl (by rw [c2, h2] <;> rfl)) ?_
            obtain ⟨x, j, m, e1, hj, ej⟩ := hi.divs h2
            have hm : m.natAbs ≤ B + 1 := by
              rw [ej] at ho
              cases ho; assumption
            have hb := hf.bd
            refine ⟨_, rfl, .inl ⟨rfl, _, sqd (e4 _)⟩, _, rfl, a, _, 2, _, rfl, rfl, sqt (s4 _ _ _ e1), atI2, m, rfl, log_ok (by omega), D, _, _, rfl, rfl, e4 _, ?_, ?_⟩
            · rw [List.length_map]
              exact small1000 (by omega)
            · refine ⟨_, rfl, same_put (s4 _) hHD, ?_⟩
              rw [upd_same, List.map_append, List.map_map]
              have et : i.tailW = [itxt m] := by rw [ej] <;> rfl
              rw [et]
              rfl
          · refine ifF (inT (ys := ["div", "mod"]) rfl (by rw [c2]; simpa using h2)) ?_
            refine ⟨_, rfl, s4 _, ?_⟩
            rw [e4]
            have et : i.tailW = [] := by
              cases i <;> first | rfl | exact absurd rfl h2
            rw [et, List.append_nil, List.map_map]
            rfl
        · rintro σ4 H4 ⟨y3, rfl, s4, e4⟩
          have hw := (word_wd ho).2
          obtain ⟨t1, _⟩ := tail_len hf.bd ho
          have l1 : ("(" : Str).length = 1 ∧ (")" : Str).length = 1 ∧ (", " : Str).length = 2 := by decide +kernel
          have hl := (wr_len hf.nm hf.bd ho).1
          have hz := hf.sz
          rw [wr_eq h0, len_app, len_app, len_app] at hl
          have hsum : (((i.kids.map It.wr ++ i.tailW).map (·.length)).sum) + (i.kids.map It.wr ++ i.tailW).length * (", " : Str).length ≤ 16777216 := by
            rw [l1.2.2]
            have k := sum_le (f := (fun t : Str => t.length) ∘ It.wr) (g := fun i => 300 * i.sz) i.kids fun j hj => by
              obtain ⟨b', f'⟩ := hf.kid hj
              have := (wr_len f'.nm f'.bd f'.ok).1
              show j.wr.length ≤ 300 * j.sz
              omega
            rw [sum_mul] at k
            have hz2 := sz_eq i
            have t3 : (i.tailW.map (·.length)).sum ≤ (i.tailW.map fun t => t.length + 2).sum := by
              generalize i.tailW = l
              induction l with
              | nil => exact Nat.le_refl _
              | cons a r ih => rw [List.map_cons, List.map_cons, List.sum_cons, List.sum_cons]; omega
            have t4 : i.tailW.length ≤ 1 := by cases i <;> exact (Nat.le_of_ble_eq_true rfl)
            rw [List.map_append, List.sum_append, List.map_map, List.length_append, List.length_map]
            omega
          refine ⟨_, rfl, _, _, rfl, rfl, big (by omega), ⟨_, rfl⟩, _, rfl, _, D, _, rfl, rfl, .inl (sqd e4), hsum, _, _, rfl, rfl, ?_, _, _, rfl, rfl, ?_, ?_⟩
          · rw [TL.join_eq, len_app]
            exact big (by omega)
          · rw [TL.join_eq, len_app, len_app]
            exact big (by omega)
          · rw [TL.join_eq]
            exact strV (wr_eq h0).symm (q _ s4)
end
end NL

namespace NL
open PySem PySem.Spec PyProof.Rows L2
theorem take_sepF {l : List (List Str)} {j : Nat} {t : List Str} (h : l[j]? = some t) : sepF (l.take (j + 1)) = sepF (l.take j) ++ (List.replicate (if (0 : Int) < (0 + (j : Int)) then (1 : Int) else 0).toNat ([","] : List Str)).flatten ++ t := by
  rw [List.take_add_one, h]
  show sepF (l.take j ++ [t]) = _
  rw [sepF_snoc]
  have hj : j < l.length := (List.getElem?_eq_some_iff.mp h).1
  cases j with
  | zero => rfl
  | succ j =>
    have hne : l.take (j + 1) ≠ [] := fun e => by
      have := congrArg List.length e
      rw [List.length_take, List.length_nil] at this
      omega
    rw [if_neg hne, if_pos (by omega)]
    rfl
section
variable {P : Program} {w : World} {K : PySem.W.Frag} {mg : Str → Option Value} {base : Heap}
/-! ### _law_tokens -/
def spTokens (n : Nat) : Sp := fun vs H Q _ => ∃ (v : V) (i : It) (xs : List Str) (B : Nat) (b : Bool), vs = [v] ∧ ItemIn H i v ∧ Fit xs B n b i ∧ ∀ p H', Same H H' → H p = none → H' p = some (.lst (i.tk.map V.str)) → Q (.ref p) H'
theorem ok_law_tokens (T : Txt K mg) : ∀ n : Nat, FnOk P w K mg base CX0 (n + 2) T.a_law_tokens T.d_law_tokens P_law_tokens (spTokens n)
  | 0 => by
    have no : ∀ vs H Q E, ¬ spTokens 0 vs H Q E := fun vs H Q E ⟨v, i, xs, B, b, _, _, f, _⟩ => by
      have := dep_pos i
      have := f.dp
      omega
    exact ⟨fun vs H Q E h => absurd h (no vs H Q E), fun A outer s H args us vs Q E _ _ _ _ h => absurd h (no vs H Q E)⟩
  | n + 1 => by
    have G_law_tokens := ok_law_tokens T n
    have G_law_inner := ok_law_inner (P := P) (w := w) (base := base) T
    refine T.F_law_tokens.ok sc_law_tokens (fun vs H Q E h => ?_) (fun cdv A outer s H vs Q E hr h => ?_)
    · obtain ⟨v, i, xs, B, b, rfl, _⟩ := h
      rfl
    obtain ⟨v, i, xs, B, b, rfl, hi, hf, q⟩ := h
    obtain ⟨a, rfl⟩ := hi.ref
    obtain ⟨r, ha⟩ := hi.head
    have ho := hf.ok
    obtain ⟨c0, cn, ct_, c1, c2⟩ := word_cls ho
    have e60 : (10 : Nat) ^ 61 = 10 * 10 ^ 60 := by decide
    refine ⟨_, (pss_cons (ps_if (pt_cmpR op_eq (pe_ix ix_tup (pv 0) pe_int (fun _ _ => rfl)) pe_str (nomark _))
    (pss_one (ps_ret (pe_lst (pa_cons (pe_callTy call_str_int (by rfl) T.z_str (by decide +kernel) (pa_cons (pe_ix ix_tup (pv 0) pe_int (fun _ _ => rfl)) pa_nil)) pa_nil))))
    pss_nil)
    (pss_cons (ps_if (pt_cmpR op_eq (pe_ix ix_tup (pv 0) pe_int (fun _ _ => rfl)) pe_str (nomark _))
    (pss_one (ps_ret (pe_lst (pa_cons (pe_ix ix_tup (pv 0) pe_int (fun _ _ => rfl)) pa_nil))))
    pss_nil)
    (pss_cons (ps_if (PW.pt (pw_or (pt_cmpR op_eq (pe_ix ix_tup (pv 0) pe_int (fun _ _ => rfl)) pe_str (nomark _)) (pw_or1 (pt_cmpR op_eq (pe_ix ix_tup (pv 0) pe_int (fun _ _ => rfl)) pe_str (nomark _)))))
    (pss_one (ps_ret (pe_lst (pa_cons (pe_ix ix_tup (pv 0) pe_int (fun _ _ => rfl)) pa_nil))))
    pss_nil)
    (pss_cons (ps_set (i := 1) sc_law_tokens.nd rfl (Or.inl rfl) (pe_lst (pa_cons (pe_ix ix_tup (pv 0) pe_int (fun _ _ => rfl)) (pa_cons pe_str pa_nil))))
    (pss_cons (ps_set (i := 2) sc_law_tokens.nd rfl (Or.inl rfl) (pe_call G_law_inner (hr.mono (by omega)) (by rfl) T.m_law_inner T.F_law_inner.kp T.b_law_inner .nil pass0 (pa_cons (pv 0) pa_nil)))
    (pss_cons (ps_for  PassesOwn.never rfl (pi_range1 (by rfl) T.z_range (pa_cons (pe_callB call_len_seq (by rfl) T.z_len PySem.boot_len (pa_cons (pv 2) pa_nil)) pa_nil)) (pg_name (i := 3) sc_law_tokens.nd rfl (Or.inl rfl))
    (pss_one (ps_set (i := 1) sc_law_tokens.nd rfl (Or.inl rfl) (pe_op op_cat (pe_op op_cat (pv 1) (pe_op op_rep (pe_lst (pa_cons pe_str pa_nil)) (pe_callTy call_int1 (by rfl) T.z_int (by decide +kernel) (pa_cons (pe_cmpR op_gt (pv 3) pe_int (nomark _)) pa_nil)))) (pe_call G_law_tokens (hr.mono (by omega)) (by rfl) T.m_law_tokens T.F_law_tokens.kp T.b_law_tokens .nil pass0 (pa_cons (pe_ix ix_list (pv 2) (pv 3) (fun _ _ => rfl)) pa_nil))))))
    (C8.pss_cut (ps_if (PW.pt (pw_or (pt_cmpR op_eq (pe_ix ix_tup (pv 0) pe_int (fun _ _ => rfl)) pe_str (nomark _)) (pw_or1 (pt_cmpR op_eq (pe_ix ix_tup (pv 0) pe_int (fun _ _ => rfl)) pe_str (nomark _)))))
    (pss_one (ps_set (i := 1) sc_law_tokens.nd rfl (Or.inl rfl) (pe_op op_cat (pv 1) (pe_lst (pa_cons pe_str (pa_cons (pe_callTy call_str_int (by rfl) T.z_str (by decide +kernel) (pa_cons (pe_ix ix_tup (pv 0) pe_int (fun _ _ => rfl)) pa_nil)) pa_nil))))))
    pss_nil)
    (pss_one (ps_ret (pe_op op_cat (pv 1) (pe_lst (pa_cons pe_str pa_nil)))))))))))), ?_⟩
    refine ⟨_, rfl, a, _, 0, _, rfl, rfl, sqt ha, atI0, rfl, _, rfl, ?_⟩
    by_cases h0 : i.cls = 0
    · rcases hi.leaf h0 with ⟨n, e, e1⟩ | ⟨n, e, e1⟩ | ⟨n, e, e1⟩
      · subst e
        refine ifT (by show decide (V.str ("number" : Str) = V.str ("number" : Str)) = true; decide +kernel) ?_
        have hn : n.natAbs ≤ B := by cases ho; assumption
        have hb := hf.bd
        refine ⟨_, rfl, a, _, 1, _, rfl, rfl, sqt e1, atI1, n, rfl, log_ok (by omega), (Nat.le_of_ble_eq_true rfl), fun p hp => ?_⟩
        exact q p _ (same_new hp _) hp (by rw [upd_same, It.tk]; rfl)
      · subst e
        refine ifF (by show decide (V.str ("name" : Str) = V.str ("number" : Str)) = false; decide +kernel) ?_
        refine ⟨_, rfl, a, _, 0, _, rfl, rfl, sqt ha, atI0, rfl, _, rfl, ?_⟩
        refine ifT (by show decide (V.str ("name" : Str) = V.str ("name" : Str)) = true; decide +kernel) ?_
        refine ⟨_, rfl, a, _, 1, _, rfl, rfl, sqt e1, atI1, (Nat.le_of_ble_eq_true rfl), fun p hp => ?_⟩
        exact q p _ (same_new hp _) hp (by rw [upd_same, It.tk]; rfl)
      · subst e
        refine ifF (by cases n <;> decide +kernel) ?_
        refine ⟨_, rfl, a, _, 0, _, rfl, rfl, sqt ha, atI0, rfl, _, rfl, ?_⟩
        refine ifF (by cases n <;> decide +kernel) ?_
        refine ⟨_, rfl, a, _, 0, _, rfl, rfl, sqt ha, atI0, rfl, _, rfl, ?_⟩
        refine' cutP ?f ?b
        case f =>
          intro body
          refine ite2 (fun c => iteT body) (fun c => ?_)
          refine ⟨_, rfl, a, _, 0, _, rfl, rfl, sqt ha, atI0, rfl, _, rfl, ?_⟩
          refine ite2 (fun c => body) (fun c2 => ?_)
          exfalso
          cases n
          · exact c2 (by decide +kernel)
          · exact c (by decide +kernel)
        case b =>
          refine ⟨_, rfl, a, _, 0, _, rfl, rfl, sqt ha, atI0, (Nat.le_of_ble_eq_true rfl), fun p hp => ?_⟩
          exact q p _ (same_new hp _) hp (by rw [upd_same, It.tk]; rfl)
    refine ifF (word_ne ho h0 (by decide +kernel)) ?_
    refine ⟨_, rfl, a, _, 0, _, rfl, rfl, sqt ha, atI0, rfl, _, rfl, ?_⟩
    refine ifF (word_ne ho h0 (by decide +kernel)) ?_
    refine ⟨_, rfl, a, _, 0, _, rfl, rfl, sqt ha, atI0, rfl, _, rfl, ?_⟩
    refine ifF (word_ne ho h0 (by decide +kernel)) ?_
    refine ⟨_, rfl, a, _, 0, _, rfl, rfl, sqt ha, atI0, rfl, _, rfl, ?_⟩
    refine ifF (word_ne ho h0 (by decide +kernel)) ?_
    -- found, parts
    refine ⟨_, rfl, a, _, 0, _, rfl, rfl, sqt ha, atI0, (Nat.le_of_ble_eq_true rfl), fun p1 hp1 => ?_⟩
    have s1 := fun o => same_new hp1 o
    refine ⟨_, rfl, _, i, xs, B, b, rfl, hi.mono (Tp.same (s1 _)), ho, fun lp ys H2 s2 hlp e2 hk => ?_⟩
    have hkl := kids_len ho
    have hwl := (wr_len hf.nm hf.bd ho).2
    have hz := hf.sz
    have htk := tk_eq h0
    have hlen : ∀ j ≤ i.kids.length, (sepF ((i.kids.map It.tk).take j)).length ≤ 10 * i.sz := by
      intro j hj
      have e : sepF (i.kids.map It.tk) = sepF ((i.kids.map It.tk).take j) ++ (sepF (i.kids.map It.tk)).drop (sepF ((i.kids.map It.tk).take j)).length := by
        have hpre : ∀ (l : List (List Str)) (j : Nat), sepF (l.take j) <+: sepF l := by
          intro l j
          cases l with
          | nil => rw [List.take_nil]; exact List.prefix_refl _
          | cons a r =>
            cases j with
            | zero => exact List.nil_prefix
            | succ j =>
              show a ++ (r.take j).flatMap _ <+: a ++ r.flatMap _
              refine (List.prefix_append_right_inj a).mpr ?_
              have : r.flatMap (fun t => ("," : Str) :: t) = (r.take j).flatMap (fun t => ("," : Str) :: t) ++ (r.drop j).flatMap (fun t => ("," : Str) :: t) := by
                rw [← List.flatMap_append, List.take_append_drop]
              rw [this]
              exact List.prefix_append _ _
        exact (List.prefix_iff_eq_append.mp (hpre _ j)).symm
      have l1 := congrArg List.length e
      rw [List.length_append] at l1
      have l2 := congrArg List.length htk
      rw [List.length_append, List.length_append, List.length_append] at l2
      omega
    refine ⟨_, rfl, _, _, rfl, .inl (sqd e2), ((ys.length : Nat) : Int), rfl, by omega, by rw [hk.1]; omega, for_range (lo := 0) (n := ((ys.length : Nat) : Int).toNat) (fun (j : Nat) (σ : L2.St) (H' : Hp) => ∃ (fp : Addr) (y3 : Option V), σ = [some (.ref a), some (.ref fp), some (.ref lp), y3] ∧ Same H2 H' ∧ H' fp = some (.lst ((([i.word, "("] : List Str) ++ sepF ((i.kids.map It.tk).take j)).map V.str))) ?_ ?_ ?_⟩
    · refine ⟨p1, none, rfl, Same.refl H2, ?_⟩
      rw [s2 p1 _ upd_same, List.take_zero]
      rfl
    · rintro j σ H3 hj ⟨fp, y3, rfl, s3, e3⟩
      have hj2 : j < i.kids.length := by rw [← hk.1]; omega
      have hl3 := hlen j (by omega)
      have hcl : ((List.replicate (if decide ((0 : Int) < 0 + (j : Int)) = true then (1 : Int) else 0).toNat ([V.str ","] : List V)).flatten).length ≤ 1 := by split <;> decide
      have hcm : (List.replicate (if decide ((0 : Int) < 0 + (j : Int)) = true then (1 : Int) else 0).toNat ([V.str ","] : List V)).flatten = ((List.replicate (if (0 : Int) < (0 + (j : Int)) then (1 : Int) else 0).toNat ([","] : List Str)).flatten).map V.str := by
        by_cases h : (0 : Int) < 0 + (j : Int)
        · rw [if_pos (decide_eq_true h), if_pos h]; rfl
        · rw [if_neg (by simpa using h), if_neg h]; rfl
      have hx : ys[j]? = some ys[j] := List.getElem?_eq_getElem (by rw [hk.1]; exact hj2)
      obtain ⟨kj, hkj, hin, hmem⟩ := hk.get hx
      obtain ⟨b', hf'⟩ := hf.kid hmem
      refine ⟨_, rfl, ?_⟩
      refine ⟨(Nat.le_of_ble_eq_true rfl), fun p4 hp4 => ?_⟩
      have s4 := fun o => s3.trans (same_new hp4 o)
      refine ⟨_, rfl, _, _, rfl, rfl, .inr ⟨_, rfl, p4, _, _, rfl, rfl, upd_same, ?_, ?_, ?_, fun p5 hp5 => ?_⟩⟩
      · split <;> decide
      · split <;> decide
      · have : ((if decide ((0 : Int) < 0 + (j : Int)) = true then (1 : Int) else 0).toNat) ≤ 1 := by split <;> decide
        show 1 * _ ≤ sizeLine
        exact big (by omega)
      have s5 := fun o => (s4 _).trans (same_new hp5 o)
      have e5 := fun o => ((same_new hp4 _).trans (same_new hp5 o)) fp _ e3
      refine ⟨fp, p5, _, _, rfl, rfl, e5 _, upd_same, ?_, fun p6 hp6 => ?_⟩
      · rw [List.length_map, List.length_append]
        have h1 := hcl
        have h2 : ([i.word, "("] : List Str).length = 2 := rfl
        exact big (by omega)
      have s6 := fun o => (s5 _).trans (same_new hp6 o)
      refine ⟨_, rfl, _, rfl, lp, ys, _, _, rfl, rfl, sqd ((s6 _) _ _ e2), (by rw [Int.zero_add]; exact atI_nat hx), _, kj, xs, B, b', rfl, hin.mono (Tp.same (s6 _)), hf', fun p7 H7 s7 hp7 e7 => ?_⟩
      have hl7 := (wr_len hf'.nm hf'.bd hf'.ok).2
      have hz7 := hf'.sz
      refine ⟨p6, p7, _, _, rfl, rfl, s7 _ _ upd_same, e7, ?_, fun p8 hp8 => ?_⟩
      · rw [List.length_append, List.length_map, List.length_map, List.length_append]
        have h1 := hcl
        have h2 : ([i.word, "("] : List Str).length = 2 := rfl
        exact big (by omega)
      · refine ⟨p8, _, rfl, (s6 _).trans (s7.trans (same_new hp8 _)), ?_⟩
        have ht : (i.kids.map It.tk)[j]? = some kj.tk := by rw [List.getElem?_map, hkj]; rfl
        rw [upd_same, take_sepF ht, hcm, ← List.map_append, ← List.map_append, List.append_assoc, List.append_assoc, List.append_assoc]
    · rintro σ H3 ⟨fp, y3, rfl, s3, e3⟩
      rw [show ((ys.length : Nat) : Int).toNat = (i.kids.map It.tk).length by rw [List.length_map, ← hk.1]; exact Int.toNat_natCast _, List.take_length] at e3
      have hall := hlen i.kids.length (Nat.le_refl _)
      rw [show i.kids.length = (i.kids.map It.tk).length by rw [List.length_map], List.take_length] at hall
      have h2l : ([i.word, "("] : List Str).length = 2 := rfl
      have s13 := (s1 _).trans (s2.trans s3)
      refine ⟨fun σ H4 => ∃ fp : Addr, σ = [some (.ref a), some (.ref fp), some (.ref lp), y3] ∧ Same H3 H4 ∧ H4 fp = some (.lst ((([i.word, "("] : List Str) ++ sepF (i.kids.map It.tk) ++ i.tailT).map V.str)), ?_, ?_⟩
      · by_cases h2 : i.cls = 2
        · obtain ⟨x, jt, m, e1, hj, ej⟩ := hi.divs h2
          have hm : m.natAbs ≤ B + 1 := by
            rw [ej] at ho
            cases ho; assumption
          have hb := hf.bd
          have et : i.tailT = ([",", itxt m] : List Str) := by rw [ej] <;> rfl
          have hw : i.word = "div" ∨ i.word = "mod" := by
            have c := c2
            rw [h2] at c
            have := of_decide_eq_true (show decide (i.word ∈ (["div", "mod"] : List Str)) = true from c)
            simpa using this
          refine' cutP ?f ?b
          case f =>
            intro body
            refine ⟨_, rfl, a, _, 0, _, rfl, rfl, sqt (s13 _ _ ha), atI0, rfl, _, rfl, ?_⟩
            refine ite2 (fun c => iteT body) (fun c => ?_)
            refine ⟨_, rfl, a, _, 0, _, rfl, rfl, sqt (s13 _ _ ha), atI0, rfl, _, rfl, ?_⟩
            refine ite2 (fun c => body) (fun c3 => ?_)
            exfalso
            rcases hw with h | h
            · exact c (decide_eq_true (by rw [h]))
            · exact c3 (decide_eq_true (by rw [h]))
          case b =>
            refine ⟨_, rfl, _, rfl, a, _, 2, _, rfl, rfl, sqt (s13 _ _ e1), atI2, m, rfl, log_ok (by omega), (Nat.le_of_ble_eq_true rfl), fun p4 hp4 => ?_⟩
            refine ⟨fp, p4, _, _, rfl, rfl, same_new hp4 _ _ _ e3, upd_same, ?_, fun p5 hp5 => ?_⟩
            · rw [List.length_map, List.length_append]
              show _ + 2 ≤ sizeLine
              exact big (by omega)
            · refine ⟨p5, rfl, (same_new hp4 _).trans (same_new hp5 _), ?_⟩
              rw [upd_same, et, List.map_append (l₂ := ([",", itxt m] : List Str))]
              rfl
        · have et : i.tailT = [] := by
            cases i <;> first | rfl | exact absurd rfl h2
          have hw : i.word ∉ (["div", "mod"] : List Str) := fun h => by
            have c : decide (i.word ∈ (["div", "mod"] : List Str)) = (i.cls == 2) := c2
            rw [decide_eq_true h] at c
            exact h2 (by simpa using c.symm)
          refine ⟨_, rfl, a, _, 0, _, rfl, rfl, sqt (s13 _ _ ha), atI0, rfl, _, rfl, ?_⟩
          refine ifF (by rw [strE]; exact decide_eq_false fun h => hw (by rw [h]; exact List.mem_cons_self)) ?_
          refine ⟨_, rfl, a, _, 0, _, rfl, rfl, sqt (s13 _ _ ha), atI0, rfl, _, rfl, ?_⟩
          refine ifF (by rw [strE]; exact decide_eq_false fun h => hw (by rw [h]; exact List.mem_cons_of_mem _ List.mem_cons_self)) ?_
          exact ⟨fp, rfl, Same.refl H3, by rw [et, List.append_nil]; exact e3⟩
      · rintro σ4 H4 ⟨fp, rfl, s4, e4⟩
        refine ⟨_, rfl, (Nat.le_of_ble_eq_true rfl), fun p5 hp5 => ?_⟩
        have ht := (tail_len hf.bd ho).2
        refine ⟨fp, p5, _, _, rfl, rfl, same_new hp5 _ _ _ e4, upd_same, ?_, fun p6 hp6 => ?_⟩
        · rw [List.length_map, List.length_append, List.length_append]
          show _ + 1 ≤ sizeLine
          exact big (by omega)
        · refine q p6 _ (s13.trans (s4.trans ((same_new hp5 _).trans (same_new hp6 _)))) ((s13.trans (s4.trans (same_new hp5 _))).free hp6) ?_
          rw [upd_same, htk, List.map_append (l₂ := ([")"] : List Str))]
          rfl
/-! ### _law_written: the tokens, glued -/
def spGlue : Sp := fun vs H Q _ => ∃ (p : Addr) (ts : List Str), vs = [.ref p] ∧ H p = some (.lst (ts.map V.str)) ∧ ts.length ≤ 100000 ∧ (ct ts).length ≤ 1000000 ∧ ∀ H', Same H H' → Q (.str (Str.join "" (ts.map sub))) H'
theorem ok_law_written (T : Txt K mg) : FnOk P w K mg base CX0 1 T.a_law_written T.d_law_written P_law_written spGlue := by
  refine T.F_law_written.ok sc_law_written (fun vs H Q E h => ?_) (fun cdv A outer s H vs Q E hr h => ?_)
  · obtain ⟨p, ts, rfl, _⟩ := h
    rfl
  obtain ⟨p, ts, rfl, hp, hl, hc, q⟩ := h
  refine ⟨_, (pss_one (ps_ret (pe_join pe_str (pe_lc (own := [("token", 1)]) (g := (gName 1)) (tt := tYes) rfl sc_law_written.nd (pi_list (pv 0)) (blkOk_by (N := N_law_written) (sc := defScope s_law_written) (by decide +kernel)) (fun _ _ _ _ _ => (pg_name (i := 1) sc_law_written.nd rfl (Or.inl rfl))) (fun _ _ _ _ _ => pts_nil) (fun _ _ _ _ _ => (pe_dget2 (hu_of hr) (pe_disp (pps_cons pe_str pe_str pps_nil) (by rfl) (by rfl) (fun z => by cases z) (by decide)) (pv 1) (pv 1) ⟨rfl, rfl, rfl, rfl⟩)))))), ?_⟩
  refine ⟨⟨_, rfl⟩, _, rfl, p, rfl, ⟨_, sqd hp⟩, fun D hD => ?_⟩
  refine lc_list (K := K) (a := p) (xs := ts.map V.str) (fun (j : Nat) (H' : Hp) => Same H H' ∧ H' D = some (.lst (((ts.take j).map sub).map V.str))) ?_ ?_ ?_ ?_
  · exact ⟨same_new hD _, by rw [upd_same, List.take_zero]; rfl⟩
  · rintro j H' _ ⟨s3, _⟩
    exact sqd (s3 _ _ hp)
  · rintro j x H' hx ⟨s3, e3⟩
    rw [List.getElem?_map] at hx
    cases hn : ts[j]? with
    | none => rw [hn] at hx; cases hx
    | some t =>
      rw [hn] at hx
      obtain rfl : V.str t = x := Option.some.inj hx
      refine ⟨rfl, yes_if ?_⟩
      refine fun dp hdp => ?_
      refine ⟨upd_same, [(Sum.inr ",", V.str ", ")], rfl, by decide, dp, rfl, .inl ⟨_, .inl upd_same⟩, _, rfl, _, rfl, _, DGet.k (k := Sum.inr t) upd_same, ?_⟩
      have n1 : D ≠ dp := ne_of_none e3 hdp
      have ev : (Option.getD (valV (mergeK [] [((Sum.inr "," : Key), V.str ", ")]) (Sum.inr t)) (V.str t)) = V.str (sub t) := by
        by_cases h : t = ","
        · rw [h]; decide +kernel
        · rw [sub_ne h]
          have : valV (mergeK [] [((Sum.inr "," : Key), V.str ", ")]) (Sum.inr t) = none := by
            have hne : ¬ ((Sum.inr "," : Key) = Sum.inr t) := fun e => h (Sum.inr.inj e).symm
            show valV [((Sum.inr "," : Key), V.str ", ")] (Sum.inr t) = none
            unfold valV
            simp [hne]
          rw [this]; rfl
      have hHd : H dp = none := s3.free hdp
      refine ⟨_, by rw [upd_ne n1, upd_ne n1]; exact e3, ?_, same_put (same_put (same_put s3 hHd) hHd) hD, ?_⟩
      · rw [List.length_map, List.length_map, List.length_take]
        exact big' (by omega)
      · rw [upd_same, List.take_add_one, hn, List.map_append, List.map_append]
        exact congrArg (fun z => some (HO.lst (_ ++ [z]))) ev
  · rintro H3 ⟨s3, e3⟩
    rw [List.length_map, List.take_length] at e3
    refine ⟨_, D, _, rfl, rfl, .inl (sqd e3), ?_, ?_⟩
    · have h := congrArg List.length (ct_join ts)
      rw [join_codes, List.length_flatMap] at h
      have e : ((ts.map sub).map fun t : Str => t.length) = (ts.map sub).map fun t => t.cps.toList.length := List.map_congr_left fun t _ => len_list t
      have l0 : ("" : Str).length = 0 := by decide +kernel
      rw [e, h, l0]
      omega
    · rw [TL.join_eq]
      exact q _ s3
end
end NL

namespace NL
open PySem PySem.Spec PyProof.Rows L2
/-- an f-string, its parts glued -/
def tJoin (ts : List TE) : TE := fun σ H Q => tJs ts Str.empty σ H fun out H1 => Q (.str out) H1
theorem pe_joinedN {X : Cx} {v1 v2 : Expr} {rest : List Expr} {ts : List TE} {pos : Pos} (h : PJ X (v1 :: v2 :: rest) ts) : PE X (.JoinedStr (v1 :: v2 :: rest) pos) (tJoin ts) := pe_joined h
/-! ### plants: rows of names with ranges, steps, a condition -/
abbrev Row := Str × Int × Int
def RowIn (H : Hp) (r : Row) (x : V) : Prop := ∃ q, x = .ref q ∧ H q = some (.tup [.str r.1, .int r.2.1, .int r.2.2])
def RowsAt (H : Hp) (rows : List Row) (xs : List V) : Prop := xs.length = rows.length ∧ ∀ (k : Nat) r x, rows[k]? = some r → xs[k]? = some x → RowIn H r x
def RowsIn (H : Hp) (rows : List Row) (v : V) : Prop := ∃ p xs, v = .ref p ∧ H p = some (.tup xs) ∧ RowsAt H rows xs
theorem RowIn.mono {H H' : Hp} (t : Tp H H') {r : Row} {x : V} (h : RowIn H r x) : RowIn H' r x := by
  obtain ⟨q, e, h⟩ := h
  exact ⟨q, e, t _ _ h⟩
theorem RowsAt.mono {H H' : Hp} (t : Tp H H') {rows : List Row} {xs : List V} (h : RowsAt H rows xs) : RowsAt H' rows xs := ⟨h.1, fun k r x a b => (h.2 k r x a b).mono t⟩
theorem RowsIn.mono {H H' : Hp} (t : Tp H H') {rows : List Row} {v : V} (h : RowsIn H rows v) : RowsIn H' rows v := by
  obtain ⟨p, xs, e, h, k⟩ := h
  exact ⟨p, xs, e, t _ _ h, k.mono t⟩
theorem RowsAt.get {H : Hp} {rows : List Row} {xs : List V} (h : RowsAt H rows xs) {k : Nat} {x : V} (e : xs[k]? = some x) : ∃ r, rows[k]? = some r ∧ RowIn H r x ∧ r ∈ rows := by
  have hk : k < xs.length := (List.getElem?_eq_some_iff.mp e).1
  rw [h.1] at hk
  exact ⟨rows[k], List.getElem?_eq_getElem hk, h.2 k _ x (List.getElem?_eq_getElem hk) e, List.getElem_mem hk⟩
theorem rows0 {H : Hp} : RowsAt H [] [] := ⟨rfl, fun k j y a b => by simp at a⟩
theorem RowsAt.snoc {H : Hp} {l : List Row} {vs : List V} {i : Row} {v : V} (h : RowsAt H l vs) (hi : RowIn H i v) : RowsAt H (l ++ [i]) (vs ++ [v]) := by
  obtain ⟨hl, hin⟩ := h
  refine ⟨by rw [List.length_append, List.length_append, hl] <;> rfl, fun k j x h1 h2 => ?_⟩
  by_cases hk : k < l.length
  · rw [List.getElem?_append_left (by omega)] at h1 h2
    exact hin k j x h1 h2
  · have hk3 : k = l.length := by
      have := (List.getElem?_eq_some_iff.mp h1).1
      rw [List.length_append, List.length_singleton] at this
      omega
    subst hk3
    rw [List.getElem?_append_right (by omega), Nat.sub_self] at h1
    rw [List.getElem?_append_right (by omega), hl, Nat.sub_self] at h2
    obtain rfl : i = j := Option.some.inj h1
    obtain rfl : v = x := Option.some.inj h2
    exact hi
structure Rw (r : Row) : Prop where
  nm : Nw r.1
  lo : r.2.1.natAbs < 10 ^ 61
  hi : r.2.2.natAbs < 10 ^ 61
structure Pl where
  vs : List Row
  ins : List Row
  ns : List Row
  st : List It
  al : It
def PlIn (H : Hp) (p : Pl) (v : V) : Prop := ∃ (a : Addr) (v1 v2 v3 vl : V) (s : Addr) (sx : List V), v = .ref a ∧ H a = some (.tup [v1, v2, v3, .ref s, vl]) ∧ RowsIn H p.vs v1 ∧ RowsIn H p.ins v2 ∧ RowsIn H p.ns v3 ∧ H s = some (.tup sx) ∧ Kids H p.st sx ∧ ItemIn H p.al vl
theorem PlIn.mono {H H' : Hp} (t : Tp H H') {p : Pl} {v : V} (h : PlIn H p v) : PlIn H' p v := by
  obtain ⟨a, v1, v2, v3, vl, s, sx, e, h0, h1, h2, h3, h4, h5, h6⟩ := h
  exact ⟨a, v1, v2, v3, vl, s, sx, e, t _ _ h0, h1.mono t, h2.mono t, h3.mono t, t _ _ h4, h5.mono t, h6.mono t⟩
/-- an item of a plant whose text may be written -/
def Ok1 (i : It) : Prop := ∃ (xs : List Str) (B : Nat) (b : Bool), Fit xs B 12 b i ∧ i.sz ≤ 300
structure PlOk (p : Pl) : Prop where
  v : ∀ r ∈ p.vs, Rw r
  i : ∀ r ∈ p.ins, Rw r
  n : ∀ r ∈ p.ns, Rw r
  s : ∀ i ∈ p.st, Ok1 i
  a : Ok1 p.al
  lv : p.vs.length ≤ 30 ∧ p.ins.length ≤ 30 ∧ p.ns.length ≤ 30
  ls : p.st.length = p.vs.length
  ne : p.vs ≠ []
/-! ### the lines -/
def rowLine (kind : Str) (r : Row) : Str := kind ++ " " ++ r.1 ++ " " ++ itxt r.2.1 ++ " " ++ itxt r.2.2
def nextLine (r : Row) (i : It) : Str := "next " ++ r.1 ++ " " ++ i.wr
def Pl.head (p : Pl) : List Str := p.vs.map (rowLine "state") ++ p.ins.map (rowLine "input") ++ p.ns.map (rowLine "noise")
def Pl.lines (p : Pl) : List Str := p.head ++ List.zipWith nextLine p.vs p.st ++ ["allow " ++ p.al.wr]
def eol (t : Str) : Str := t ++ "\n"
theorem wr_small {i : It} (h : Ok1 i) : i.wr.length ≤ 90000 := by
  obtain ⟨xs, B, b, f, hz⟩ := h
  have := (wr_len f.nm f.bd f.ok).1
  omega
theorem line_len {kind : Str} (hk : kind.length ≤ 10) {r : Row} (h : Rw r) : (rowLine kind r).length ≤ 400 := by
  have h1 := itxt_len h.lo
  have h2 := itxt_len h.hi
  have h3 := h.nm.len
  have l1 : (" " : Str).length = 1 := by decide +kernel
  unfold rowLine
  rw [len_app, len_app, len_app, len_app, len_app, len_app, l1]
  omega
theorem lines_len {p : Pl} (h : PlOk p) : p.lines.length ≤ 121 ∧ ∀ t ∈ p.lines, t.length ≤ 90300 := by
  have hv := h.lv
  constructor
  · unfold Pl.lines Pl.head
    rw [List.length_append, List.length_append, List.length_append, List.length_append, List.length_map, List.length_map, List.length_map, List.length_zipWith, List.length_singleton]
    omega
  · intro t ht
    have k5 : ("state" : Str).length ≤ 10 ∧ ("input" : Str).length ≤ 10 ∧ ("noise" : Str).length ≤ 10 ∧ ("next " : Str).length = 5 ∧ (" " : Str).length = 1 ∧ ("allow " : Str).length = 6 := by decide +kernel
    unfold Pl.lines Pl.head at ht
    simp only [List.mem_append, List.mem_map, List.mem_singleton] at ht
    rcases ht with (((⟨r, hr, rfl⟩ | ⟨r, hr, rfl⟩) | ⟨r, hr, rfl⟩) | ht) | rfl
    · exact Nat.le_trans (line_len k5.1 (h.v r hr)) (by decide)
    · exact Nat.le_trans (line_len k5.2.1 (h.i r hr)) (by decide)
    · exact Nat.le_trans (line_len k5.2.2.1 (h.n r hr)) (by decide)
    · obtain ⟨k, hk⟩ := List.getElem?_of_mem ht
      rw [List.getElem?_zipWith] at hk
      cases e1 : p.vs[k]? with
      | none => rw [e1] at hk; cases hk
      | some r =>
        cases e2 : p.st[k]? with
        | none => rw [e1, e2] at hk; cases hk
        | some i =>
          rw [e1, e2] at hk
          obtain rfl : nextLine r i = t := Option.some.inj hk
          have h1 := wr_small (h.s i (List.mem_of_getElem? e2))
          have h2 := (h.v r (List.mem_of_getElem? e1)).nm.len
          unfold nextLine
          rw [len_app, len_app, len_app, k5.2.2.2.1, k5.2.2.2.2.1]
          omega
    · have h1 := wr_small h.a
      rw [len_app, k5.2.2.2.2.2]
      omega
section
variable {P : Program} {w : World} {K : PySem.W.Frag} {mg : Str → Option Value} {base : Heap}
/-! ### _range_lines, _names_of -/
def spRangeLines : Sp := fun vs H Q _ => ∃ (kind : Str) (v : V) (rows : List Row), vs = [.str kind, v] ∧ RowsIn H rows v ∧ (∀ r ∈ rows, Rw r) ∧ rows.length ≤ 100 ∧ kind.length ≤ 10 ∧ ∀ p H', Same H H' → H p = none → H' p = some (.lst ((rows.map (rowLine kind)).map V.str)) → Q (.ref p) H'
theorem ok_range_lines (T : Txt K mg) : FnOk P w K mg base CX0 1 T.a_range_lines T.d_range_lines P_range_lines spRangeLines := by
  refine T.F_range_lines.ok sc_range_lines (fun vs H Q E h => ?_) (fun cdv A outer s H vs Q E hr h => ?_)
  · obtain ⟨kind, v, rows, rfl, _⟩ := h
    rfl
  obtain ⟨kind, v, rows, rfl, ⟨tp, xs, rfl, ht, hrs⟩, hrw, hl, hk, q⟩ := h
  refine ⟨_, (pss_one (ps_ret (pe_lc (own := [("name", 2), ("low", 3), ("high", 4)]) (g := (gTup K 3 (gCons (gName 2) (gCons (gName 3) (gCons (gName 4) gNil))))) (tt := tYes) rfl sc_range_lines.nd (pi_tup (pv 1)) (blkOk_by (N := N_range_lines) (sc := defScope s_range_lines) (by decide +kernel)) (fun _ _ _ _ _ => (pg_tup rfl (pgs_cons (pg_name (i := 2) sc_range_lines.nd rfl (Or.inl rfl)) (pgs_cons (pg_name (i := 3) sc_range_lines.nd rfl (Or.inl rfl)) (pgs_cons (pg_name (i := 4) sc_range_lines.nd rfl (Or.inl rfl)) pgs_nil))))) (fun _ _ _ _ _ => pts_nil) (fun _ _ _ _ _ => (pe_joinedN (.cons (pe_fmt (pv 0)) (.cons pe_str (.cons (pe_fmt (pv 2)) (.cons pe_str (.cons (pe_fmt (pv 3)) (.cons pe_str (.cons (pe_fmt (pv 4)) .nil)))))))))))), ?_⟩
  refine ⟨_, rfl, tp, rfl, ⟨_, sqt ht⟩, fun D hD => ?_⟩
  refine lc_tup (K := K) (a := tp) (xs := xs) (fun (j : Nat) (H' : Hp) => Same H H' ∧ H' D = some (.lst (((rows.take j).map (rowLine kind)).map V.str))) ?_ ?_ ?_ ?_
  · exact ⟨same_new hD _, by rw [upd_same, List.take_zero]; rfl⟩
  · rintro j H' _ ⟨s3, _⟩
    exact sqt (s3 _ _ ht)
  · rintro j x H' hx ⟨s3, e3⟩
    obtain ⟨r, hr1, ⟨q1, rfl, hq⟩, hm⟩ := hrs.get hx
    have hrr := hrw r hm
    have h1 := itxt_len hrr.lo
    have h2 := itxt_len hrr.hi
    have h3 := hrr.nm.len
    have l1 : (" " : Str).length = 1 := by decide +kernel
    have l0 : Str.empty.length = 0 := rfl
    refine ⟨q1, _, rfl, sqt (s3 _ _ hq), rfl, _, _, rfl, _, _, rfl, _, _, rfl, rfl, rfl, yes_if ?_⟩
    refine ⟨_, rfl, .inl ⟨kind, rfl, big (by omega), kind, rfl, ?_, " ", rfl, ?_, _, rfl, .inl ⟨r.1, rfl, big (by omega), r.1, rfl, ?_, " ", rfl, ?_, _, rfl, .inr ⟨r.2.1, rfl, log_ok hrr.lo, itxt r.2.1, rfl, ?_, " ", rfl, ?_, _, rfl, .inr ⟨r.2.2, rfl, log_ok hrr.hi, itxt r.2.2, rfl, ?_, ?_⟩⟩⟩⟩⟩
    all_goals first | (simp only [len_app, l0, l1]; exact big (by omega)) | skip
    refine ⟨_, e3, ?_, same_put s3 hD, ?_⟩
    · rw [List.length_map, List.length_map, List.length_take]
      exact small1000 (by omega)
    · rw [upd_same, List.take_add_one, hr1, List.map_append, List.map_append]
      have e0 : ∀ z : Str, Str.empty ++ z = z := fun z => str_ext (by rw [app_list]; rfl)
      rw [e0]
      rfl
  · rintro H3 ⟨s3, e3⟩
    rw [hrs.1, List.take_length] at e3
    exact q D H3 s3 hD e3
def spNamesOf : Sp := fun vs H Q _ => ∃ (v : V) (rows : List Row), vs = [v] ∧ RowsIn H rows v ∧ rows.length ≤ 100 ∧ ∀ p H', Same H H' → H' p = some (.tup (rows.map fun r => V.str r.1)) → Q (.ref p) H'
theorem ok_names_of (T : Txt K mg) : FnOk P w K mg base CX0 1 T.anames_of T.dnames_of Pnames_of spNamesOf := by
  refine T.Fnames_of.ok scnames_of (fun vs H Q E h => ?_) (fun cdv A outer s H vs Q E hr h => ?_)
  · obtain ⟨v, rows, rfl, _⟩ := h
    rfl
  obtain ⟨v, rows, rfl, ⟨tp, xs, rfl, ht, hrs⟩, hl, q⟩ := h
  refine ⟨_, (pss_one (ps_ret (pe_callTy call_tuple_of (by rfl) T.z_tuple (by decide +kernel) (pa_cons (pe_lc (own := [("name", 1), ("low", 2), ("high", 3)]) (g := (gTup K 3 (gCons (gName 1) (gCons (gName 2) (gCons (gName 3) gNil))))) (tt := tYes) rfl scnames_of.nd (pi_tup (pv 0)) (blkOk_by (N := Nnames_of) (sc := defScope snames_of) (by decide +kernel)) (fun _ _ _ _ _ => (pg_tup rfl (pgs_cons (pg_name (i := 1) scnames_of.nd rfl (Or.inl rfl)) (pgs_cons (pg_name (i := 2) scnames_of.nd rfl (Or.inl rfl)) (pgs_cons (pg_name (i := 3) scnames_of.nd rfl (Or.inl rfl)) pgs_nil))))) (fun _ _ _ _ _ => pts_nil) (fun _ _ _ _ _ => (pv 1))) pa_nil)))), ?_⟩
  refine ⟨_, rfl, tp, rfl, ⟨_, sqt ht⟩, fun D hD => ?_⟩
  refine lc_tup (K := K) (a := tp) (xs := xs) (fun (j : Nat) (H' : Hp) => Same H H' ∧ H' D = some (.lst ((rows.take j).map fun r => V.str r.1))) ?_ ?_ ?_ ?_
  · exact ⟨same_new hD _, by rw [upd_same, List.take_zero]; rfl⟩
  · rintro j H' _ ⟨s3, _⟩
    exact sqt (s3 _ _ ht)
  · rintro j x H' hx ⟨s3, e3⟩
    obtain ⟨r, hr1, ⟨q1, rfl, hq⟩, hm⟩ := hrs.get hx
    refine ⟨q1, _, rfl, sqt (s3 _ _ hq), rfl, _, _, rfl, _, _, rfl, _, _, rfl, rfl, rfl, yes_if ?_⟩
    refine ⟨_, rfl, _, e3, ?_, same_put s3 hD, ?_⟩
    · rw [List.length_map, List.length_take]
      exact small1000 (by omega)
    · rw [upd_same, List.take_add_one, hr1, List.map_append]
      rfl
  · rintro H3 ⟨s3, e3⟩
    rw [hrs.1, List.take_length] at e3
    exact ⟨D, _, rfl, .inl ⟨sqd e3, fun p hp => q p _ (s3.trans (same_new hp _)) upd_same⟩⟩
/-! ### write_plant -/
theorem lines_sum : ∀ l : List Str, (∀ t ∈ l, t.length ≤ 90300) → ((l.map eol).map (·.length)).sum ≤ l.length * 90301
  | [], _ => Nat.le_refl _
  | a :: r, h => by
    have h1 := h a List.mem_cons_self
    have h2 := lines_sum r fun t ht => h t (List.mem_cons_of_mem _ ht)
    rw [List.map_cons, List.map_cons, List.sum_cons, List.length_cons]
    have : (eol a).length = a.length + 1 := by unfold eol; rw [len_app]; rfl
    omega
def spWritePlant : Sp := fun vs H Q _ => ∃ (v : V) (p : Pl), vs = [v] ∧ PlIn H p v ∧ PlOk p ∧ ∀ H', Same H H' → Q (.str (Str.join "" (p.lines.map eol))) H'
theorem ok_write_plant (T : Txt K mg) : FnOk P w K mg base CX0 15 T.awrite_plant T.dwrite_plant Pwrite_plant spWritePlant := by
  have G_range_lines := ok_range_lines (P := P) (w := w) (base := base) T
  have Gnames_of := ok_names_of (P := P) (w := w) (base := base) T
  have G_written := ok_written (P := P) (w := w) (base := base) T 12
  refine T.Fwrite_plant.ok scwrite_plant (fun vs H Q E h => ?_) (fun cdv A outer s H vs Q E hr h => ?_)
  · obtain ⟨v, p, rfl, _⟩ := h
    rfl
  obtain ⟨v, p, rfl, ⟨a, v1, v2, v3, vl, st, sx, rfl, e0, r1, r2, r3, e4, hk, hal⟩, hp, q⟩ := h
  have hlv := hp.lv
  obtain ⟨hlen, hline⟩ := lines_len hp
  refine ⟨_, (pss_cons (ps_asg (pv 0) (pg_tup rfl (pgs_cons (pg_name (i := 1) scwrite_plant.nd rfl (Or.inl rfl)) (pgs_cons (pg_name (i := 2) scwrite_plant.nd rfl (Or.inl rfl)) (pgs_cons (pg_name (i := 3) scwrite_plant.nd rfl (Or.inl rfl)) (pgs_cons (pg_name (i := 4) scwrite_plant.nd rfl (Or.inl rfl)) (pgs_cons (pg_name (i := 5) scwrite_plant.nd rfl (Or.inl rfl)) pgs_nil)))))))
    (pss_cons (ps_set (i := 6) scwrite_plant.nd rfl (Or.inl rfl) (pe_call G_range_lines (hr.mono (by omega)) (by rfl) T.m_range_lines T.F_range_lines.kp T.b_range_lines .nil pass0 (pa_cons pe_str (pa_cons (pv 1) pa_nil))))
    (pss_cons (ps_expr (pe_bm PySem.F.plainAttrs_list PySem.F.slot_list_extend PySem.F.type_list_extend mt_extend (pv 6) (pa_cons (pe_call G_range_lines (hr.mono (by omega)) (by rfl) T.m_range_lines T.F_range_lines.kp T.b_range_lines .nil pass0 (pa_cons pe_str (pa_cons (pv 2) pa_nil))) pa_nil)))
    (pss_cons (ps_expr (pe_bm PySem.F.plainAttrs_list PySem.F.slot_list_extend PySem.F.type_list_extend mt_extend (pv 6) (pa_cons (pe_call G_range_lines (hr.mono (by omega)) (by rfl) T.m_range_lines T.F_range_lines.kp T.b_range_lines .nil pass0 (pa_cons pe_str (pa_cons (pv 3) pa_nil))) pa_nil)))
    (pss_cons (ps_for  PassesOwn.never rfl (RZ.pi_zipA (by rfl) T.z_zip (pa_cons (pe_call Gnames_of (hr.mono (by omega)) (by rfl) T.mnames_of T.Fnames_of.kp T.bnames_of .nil pass0 (pa_cons (pv 1) pa_nil)) (pa_cons (pv 4) pa_nil))) (pg_tup rfl (pgs_cons (pg_name (i := 7) scwrite_plant.nd rfl (Or.inl rfl)) (pgs_cons (pg_name (i := 8) scwrite_plant.nd rfl (Or.inl rfl)) pgs_nil)))
    (pss_one (ps_expr (pe_bm PySem.F.plainAttrs_list PySem.F.slot_list_append PySem.F.type_list_append mt_append (pv 6) (pa_cons (pe_op op_add_str (pe_op op_add_str (pe_op op_add_str pe_str (pv 7)) pe_str) (pe_call G_written (hr.mono (by omega)) (by rfl) T.m_written T.F_written.kp T.b_written .nil pass0 (pa_cons (pv 8) pa_nil))) pa_nil)))))
    (pss_cons (ps_expr (pe_bm PySem.F.plainAttrs_list PySem.F.slot_list_append PySem.F.type_list_append mt_append (pv 6) (pa_cons (pe_op op_add_str pe_str (pe_call G_written (hr.mono (by omega)) (by rfl) T.m_written T.F_written.kp T.b_written .nil pass0 (pa_cons (pv 5) pa_nil))) pa_nil)))
    (pss_one (ps_ret (pe_join pe_str (pe_lc (own := [("line", 9)]) (g := (gName 9)) (tt := tYes) rfl scwrite_plant.nd (pi_list (pv 6)) (blkOk_by (N := Nwrite_plant) (sc := defScope swrite_plant) (by decide +kernel)) (fun _ _ _ _ _ => (pg_name (i := 9) scwrite_plant.nd rfl (Or.inl rfl))) (fun _ _ _ _ _ => pts_nil) (fun _ _ _ _ _ => (pe_op op_add_str (pv 9) pe_str)))))))))))), ?_⟩
  refine ⟨_, rfl, a, _, rfl, sqt e0, rfl, _, _, rfl, _, _, rfl, _, _, rfl, _, _, rfl, _, _, rfl, rfl, ?_⟩
  have k5 : ("state" : Str).length ≤ 10 ∧ ("input" : Str).length ≤ 10 ∧ ("noise" : Str).length ≤ 10 := by decide +kernel
  refine ⟨_, rfl, "state", v1, p.vs, rfl, r1, hp.v, by omega, k5.1, fun lp H1 s1 hlp e1 => ?_⟩
  refine ⟨_, rfl, .inl ⟨rfl, _, sqd e1⟩, _, rfl, "input", v2, p.ins, rfl, r2.mono (Tp.same s1), hp.i, by omega, k5.2.1, fun lp2 H2 s2 hlp2 e2 => ?_⟩
  refine ⟨lp, lp2, _, _, rfl, rfl, s2 _ _ e1, e2, by rw [List.length_map, List.length_map, List.length_map, List.length_map]; exact big (by omega), ?_⟩
  have s12 := fun o => same_put (o := o) (s1.trans s2) hlp
  refine ⟨_, rfl, .inl ⟨rfl, _, sqd upd_same⟩, _, rfl, "noise", v3, p.ns, rfl, r3.mono (Tp.same (s12 _)), hp.n, by omega, k5.2.2, fun lp3 H3 s3 hlp3 e3 => ?_⟩
  refine ⟨lp, lp3, _, _, rfl, rfl, s3 _ _ upd_same, e3, by rw [List.length_append, List.length_map, List.length_map, List.length_map, List.length_map, List.length_map, List.length_map]; exact big (by omega), ?_⟩
  have s13 := fun o => same_put (o := o) ((s12 _).trans s3) hlp
  -- the steps
  refine ⟨_, rfl, v1, p.vs, rfl, r1.mono (Tp.same (s13 _)), by omega, fun np H4 s4 e5 => ?_⟩
  have s14 := (s13 _).trans s4
  refine ⟨_, rfl, np, st, _, _, rfl, .inr ⟨sqt e5, sqt (s14 _ _ e4), ?_⟩⟩
  have hzl : (p.vs.map fun r => V.str r.1).length = sx.length := by rw [List.length_map, hk.1, hp.ls]
  refine RZ.for_zipT hzl (fun (j : Nat) (σ : L2.St) (H' : Hp) => ∃ (y7 y8 : Option V), σ = [some (.ref a), some v1, some v2, some v3, some (.ref st), some vl, some (.ref lp), y7, y8, none] ∧ Same H H' ∧ H' np = some (.tup (p.vs.map fun r => V.str r.1)) ∧ H' lp = some (.lst ((p.head ++ (List.zipWith nextLine p.vs p.st).take j).map V.str))) ?_ ?_ ?_ ?_
  · refine ⟨none, none, rfl, s14, e5, ?_⟩
    rw [s4 _ _ upd_same, List.take_zero, List.append_nil]
    unfold Pl.head
    rw [List.map_append, List.map_append]
  · rintro j σ H' ⟨y7, y8, rfl, s5, e6, e7⟩
    exact ⟨sqt e6, sqt (s5 _ _ e4)⟩
  · rintro j x y tp σ H' hx hy ⟨y7, y8, rfl, s5, e6, e7⟩ htp
    rw [List.getElem?_map] at hx
    cases hr1 : p.vs[j]? with
    | none => rw [hr1] at hx; cases hx
    | some r =>
      rw [hr1] at hx
      obtain rfl : V.str r.1 = x := Option.some.inj hx
      obtain ⟨ij, hij, hin, hmem⟩ := (hk.mono (Tp.same s5)).get hy
      have s6 := fun o => same_new htp o
      obtain ⟨xs, B, b, hf, hz⟩ := hp.s ij hmem
      have hw := wr_small (hp.s ij hmem)
      have hnm := (hp.v r (List.mem_of_getElem? hr1)).nm.len
      have k6 : ("next " : Str).length = 5 ∧ (" " : Str).length = 1 := by decide +kernel
      refine ⟨tp, _, rfl, sqt upd_same, rfl, _, _, rfl, _, _, rfl, rfl, ?_⟩
      refine ⟨_, rfl, .inl ⟨rfl, _, sqd (s6 _ _ _ e7)⟩, _, rfl, _, _, rfl, rfl, ?_, _, _, rfl, rfl, ?_, _, rfl, y, ij, xs, B, b, rfl, hin.mono (Tp.same (s6 _)), hf, fun H7 s7 => ?_⟩
      · rw [k6.1]; exact big (by omega)
      · rw [len_app, k6.1, k6.2]; exact big (by omega)
      · have e8 := s7 _ _ (s6 _ _ _ e7)
        refine ⟨_, _, rfl, rfl, ?_, lp, _, _, rfl, rfl, e8, ?_, ?_⟩
        · rw [len_app, len_app, k6.1, k6.2]; exact big (by omega)
        · rw [List.length_map, List.length_append, List.length_take]
          have h1 : p.head.length ≤ 90 := by
            unfold Pl.head
            rw [List.length_append, List.length_append, List.length_map, List.length_map, List.length_map]
            omega
          have h2 : (List.zipWith nextLine p.vs p.st).length ≤ 30 := by rw [List.length_zipWith]; omega
          exact small1000 (by omega)
        · refine ⟨_, _, rfl, same_put (s5.trans ((s6 _).trans s7)) hlp, tp_put e8 _ _ (s7 _ _ (s6 _ _ _ e6)), ?_⟩
          have hz2 : (List.zipWith nextLine p.vs p.st)[j]? = some (nextLine r ij) := by rw [List.getElem?_zipWith, hr1, hij]
          rw [upd_same, List.take_add_one, hz2, ← List.append_assoc, List.map_append (l₂ := (some (nextLine r ij)).toList)]
          rfl
  · rintro σ H5 ⟨y7, y8, rfl, s5, e6, e7⟩
    have hall : (List.zipWith nextLine p.vs p.st).take (p.vs.map fun r => V.str r.1).length = List.zipWith nextLine p.vs p.st := List.take_of_length_le (by rw [List.length_zipWith, List.length_map]; omega)
    rw [hall] at e7
    obtain ⟨xs, B, b, hf, hz⟩ := hp.a
    have hw := wr_small hp.a
    have k6 : ("allow " : Str).length = 6 := by decide +kernel
    refine ⟨_, rfl, .inl ⟨rfl, _, sqd e7⟩, _, rfl, vl, p.al, xs, B, b, rfl, hal.mono (Tp.same s5), hf, fun H6 s6 => ?_⟩
    have e8 := s6 _ _ e7
    refine ⟨_, _, rfl, rfl, ?_, lp, _, _, rfl, rfl, e8, ?_, ?_⟩
    · rw [k6]; exact big (by omega)
    · rw [List.length_map]
      have h1 : (p.head ++ List.zipWith nextLine p.vs p.st).length ≤ 121 := by
        refine Nat.le_trans ?_ hlen
        unfold Pl.lines
        rw [List.length_append (as := p.head ++ _)]
        omega
      exact small1000 (by omega)
    · have e9 : ∀ o : Hp, (upd H6 lp (.lst ((p.head ++ List.zipWith nextLine p.vs p.st).map V.str ++ [V.str ("allow " ++ p.al.wr)]))) lp = some (.lst (p.lines.map V.str)) := fun _ => by
        rw [upd_same]
        unfold Pl.lines
        rw [List.map_append (l₂ := ["allow " ++ p.al.wr])]
        rfl
      have s7 := fun o => same_put (o := o) (s5.trans s6) hlp
      refine ⟨⟨_, rfl⟩, _, rfl, lp, rfl, ⟨_, sqd (e9 H6)⟩, fun D hD => ?_⟩
      have nlD : lp ≠ D := ne_of_none (e9 H6) hD
      refine lc_list (K := K) (a := lp) (xs := p.lines.map V.str) (fun (j : Nat) (H' : Hp) => Same H H' ∧ H' lp = some (.lst (p.lines.map V.str)) ∧ H' D = some (.lst (((p.lines.take j).map eol).map V.str))) ?_ ?_ ?_ ?_
      · exact ⟨(s7 _).trans (same_new hD _), by rw [upd_ne nlD]; exact e9 H6, by rw [upd_same, List.take_zero]; rfl⟩
      · rintro j H' _ ⟨_, s8, _⟩
        exact sqd s8
      · rintro j x H' hx ⟨s8, e10, e11⟩
        rw [List.getElem?_map] at hx
        cases hn : p.lines[j]? with
        | none => rw [hn] at hx; cases hx
        | some t =>
          rw [hn] at hx
          obtain rfl : V.str t = x := Option.some.inj hx
          have ht := hline t (List.mem_of_getElem? hn)
          have k1 : ("\n" : Str).length = 1 := by decide +kernel
          refine ⟨rfl, yes_if ?_⟩
          refine ⟨_, rfl, _, _, rfl, rfl, by rw [k1]; exact big (by omega), _, e11, ?_, same_put s8 ((s7 _).free hD), ?_, ?_⟩
          · rw [List.length_map, List.length_map, List.length_take]
            exact small1000 (by omega)
          · rw [upd_ne nlD]; exact e10
          · rw [upd_same, List.take_add_one, hn, List.map_append, List.map_append]
            rfl
      · rintro H7 ⟨s8, e10, e11⟩
        rw [List.length_map, List.take_length] at e11
        have hsum := lines_sum p.lines hline
        have k0 : ("" : Str).length = 0 := by decide +kernel
        refine ⟨_, D, _, rfl, rfl, .inl (sqd e11), ?_, ?_⟩
        · rw [k0]
          have : p.lines.length * 90301 ≤ 121 * 90301 := Nat.mul_le_mul_right _ hlen
          omega
        · rw [TL.join_eq]
          exact q _ s8
/-! ### the law's own text of a plant -/
def spItemText : Sp := fun vs H Q _ => ∃ (v : V) (i : It), vs = [v] ∧ ItemIn H i v ∧ Ok1 i ∧ ∀ H', Same H H' → Q (.str i.wr) H'
theorem ok_law_item_text (T : Txt K mg) : FnOk P w K mg base CX0 15 T.a_law_item_text T.d_law_item_text P_law_item_text spItemText := by
  have G_law_tokens := ok_law_tokens (P := P) (w := w) (base := base) T 12
  have G_law_written := ok_law_written (P := P) (w := w) (base := base) T
  refine T.F_law_item_text.ok sc_law_item_text (fun vs H Q E h => ?_) (fun cdv A outer s H vs Q E hr h => ?_)
  · obtain ⟨v, i, rfl, _⟩ := h
    rfl
  obtain ⟨v, i, rfl, hi, ⟨xs, B, b, hf, hz⟩, q⟩ := h
  refine ⟨_, (pss_one (ps_ret (pe_call G_law_written (hr.mono (by omega)) (by rfl) T.m_law_written T.F_law_written.kp T.b_law_written .nil pass0 (pa_cons (pe_call G_law_tokens (hr.mono (by omega)) (by rfl) T.m_law_tokens T.F_law_tokens.kp T.b_law_tokens .nil pass0 (pa_cons (pv 0) pa_nil)) pa_nil)))), ?_⟩
  refine ⟨_, rfl, v, i, xs, B, b, rfl, hi, hf, fun p H1 s1 hp e1 => ?_⟩
  have hw := wr_len hf.nm hf.bd hf.ok
  have hct := ct_tk hf.nm hf.ok
  refine ⟨p, i.tk, rfl, e1, by omega, ?_, fun H2 s2 => ?_⟩
  · rw [hct, ← len_list]
    omega
  · exact strV (str_ext (by rw [ct_join]; exact hct)) (q _ (s1.trans s2))
/-- the rows of the three kinds -/
def Pl.kind (p : Pl) : Nat → List Row
  | 0 => p.vs
  | 1 => p.ins
  | _ => p.ns
def kindS : Nat → Str
  | 0 => "state"
  | 1 => "input"
  | _ => "noise"
def Pl.headTo (p : Pl) : Nat → List Str
  | 0 => []
  | k + 1 => p.headTo k ++ (p.kind k).map (rowLine (kindS k))
theorem head3 (p : Pl) : p.headTo 3 = p.head := by
  show ([] ++ _ ++ _) ++ _ = _
  rfl
def spRows : Sp := fun vs H Q _ => ∃ (v : V) (p : Pl), vs = [v] ∧ PlIn H p v ∧ PlOk p ∧ ∀ r H', Same H H' → H r = none → H' r = some (.lst (p.lines.map V.str)) → Q (.ref r) H'
theorem ok_law_rows_of_text (T : Txt K mg) : FnOk P w K mg base CX0 16 T.a_law_rows_of_text T.d_law_rows_of_text P_law_rows_of_text spRows := by
  have G_law_item_text := ok_law_item_text (P := P) (w := w) (base := base) T
  refine T.F_law_rows_of_text.ok sc_law_rows_of_text (fun vs H Q E h => ?_) (fun cdv A outer s H vs Q E hr h => ?_)
  · obtain ⟨v, p, rfl, _⟩ := h
    rfl
  obtain ⟨v, p, rfl, ⟨a, v1, v2, v3, vl, st, sx, rfl, e0, r1, r2, r3, e4, hk, hal⟩, hp, q⟩ := h
  have hlv := hp.lv
  obtain ⟨hlen, hline⟩ := lines_len hp
  have hkl : ∀ k, (p.kind k).length ≤ 30 := fun k => match k with
    | 0 => hlv.1
    | 1 => hlv.2.1
    | _ + 2 => hlv.2.2
  have hhead : ∀ k, (p.headTo k).length ≤ 30 * k := by
    intro k
    induction k with
    | zero => exact Nat.zero_le _
    | succ k ih =>
      show (p.headTo k ++ (p.kind k).map _).length ≤ _
      rw [List.length_append, List.length_map]
      have := hkl k
      omega
  have hkr : ∀ k < 3, RowsIn H (p.kind k) ([v1, v2, v3].getD k .non) ∧ (∀ r ∈ p.kind k, Rw r) ∧ (p.kind k).length ≤ 30 := by
    intro k hk3
    match k, hk3 with
    | 0, _ => exact ⟨r1, hp.v, hlv.1⟩
    | 1, _ => exact ⟨r2, hp.i, hlv.2.1⟩
    | 2, _ => exact ⟨r3, hp.n, hlv.2.2⟩
  refine ⟨_, (pss_cons (ps_set (i := 1) sc_law_rows_of_text.nd rfl (Or.inl rfl) (pe_lst pa_nil))
    (pss_cons (ps_for  PassesOwn.never rfl (pi_range1 (by rfl) T.z_range (pa_cons pe_int pa_nil)) (pg_name (i := 2) sc_law_rows_of_text.nd rfl (Or.inl rfl))
    (pss_one (ps_for  PassesOwn.never rfl (pi_tup (pe_ix ix_tup (pv 0) (pv 2) (fun _ _ => rfl))) (pg_name (i := 3) sc_law_rows_of_text.nd rfl (Or.inl rfl))
    (pss_one (ps_expr (pe_bm PySem.F.plainAttrs_list PySem.F.slot_list_append PySem.F.type_list_append mt_append (pv 1) (pa_cons (pe_op op_add_str (pe_op op_add_str (pe_op op_add_str (pe_op op_add_str (pe_op op_add_str (pe_op op_add_str (pe_ix ix_list (pe_lst (pa_cons pe_str (pa_cons pe_str (pa_cons pe_str pa_nil)))) (pv 2) (fun _ _ => rfl)) pe_str) (pe_ix ix_tup (pv 3) pe_int (fun _ _ => rfl))) pe_str) (pe_callTy call_str_int (by rfl) T.z_str (by decide +kernel) (pa_cons (pe_ix ix_tup (pv 3) pe_int (fun _ _ => rfl)) pa_nil))) pe_str) (pe_callTy call_str_int (by rfl) T.z_str (by decide +kernel) (pa_cons (pe_ix ix_tup (pv 3) pe_int (fun _ _ => rfl)) pa_nil))) pa_nil)))))))
    (pss_cons (ps_for  PassesOwn.never rfl (pi_range1 (by rfl) T.z_range (pa_cons (pe_callB call_len_seq (by rfl) T.z_len PySem.boot_len (pa_cons (pe_ix ix_tup (pv 0) pe_int (fun _ _ => rfl)) pa_nil)) pa_nil)) (pg_name (i := 2) sc_law_rows_of_text.nd rfl (Or.inl rfl))
    (pss_one (ps_expr (pe_bm PySem.F.plainAttrs_list PySem.F.slot_list_append PySem.F.type_list_append mt_append (pv 1) (pa_cons (pe_op op_add_str (pe_op op_add_str (pe_op op_add_str pe_str (pe_ix ix_tup (pe_ix ix_tup (pe_ix ix_tup (pv 0) pe_int (fun _ _ => rfl)) (pv 2) (fun _ _ => rfl)) pe_int (fun _ _ => rfl))) pe_str) (pe_call G_law_item_text (hr.mono (by omega)) (by rfl) T.m_law_item_text T.F_law_item_text.kp T.b_law_item_text .nil pass0 (pa_cons (pe_ix ix_tup (pe_ix ix_tup (pv 0) pe_int (fun _ _ => rfl)) (pv 2) (fun _ _ => rfl)) pa_nil))) pa_nil)))))
    (pss_one (ps_ret (pe_op op_cat (pv 1) (pe_lst (pa_cons (pe_op op_add_str pe_str (pe_call G_law_item_text (hr.mono (by omega)) (by rfl) T.m_law_item_text T.F_law_item_text.kp T.b_law_item_text .nil pass0 (pa_cons (pe_ix ix_tup (pv 0) pe_int (fun _ _ => rfl)) pa_nil))) pa_nil)))))))), ?_⟩
  refine ⟨(Nat.le_of_ble_eq_true rfl), fun rp hrp => ?_⟩
  refine ⟨3, rfl, by decide, by decide, for_range (lo := 0) (n := 3) (fun (j : Nat) (σ : L2.St) (H' : Hp) => ∃ (y2 y3 : Option V), σ = [some (.ref a), some (.ref rp), y2, y3] ∧ Same H H' ∧ H' rp = some (.lst ((p.headTo j).map V.str))) ?_ ?_ ?_⟩
  · exact ⟨none, none, rfl, same_new hrp _, upd_same⟩
  · rintro k σ H1 hk3 ⟨y2, y3, rfl, s1, e1⟩
    obtain ⟨⟨tp, xs, etp, et, hrs⟩, hrw, hrl⟩ := hkr k hk3
    have hat : atI [v1, v2, v3, .ref st, vl] (0 + (k : Int)) = some (.ref tp) := by
      rw [Int.zero_add]
      refine atI_nat ?_
      match k, hk3, etp with
      | 0, _, e => exact congrArg some e
      | 1, _, e => exact congrArg some e
      | 2, _, e => exact congrArg some e
    refine ⟨_, rfl, _, rfl, a, _, _, _, rfl, rfl, sqt (s1 _ _ e0), hat, tp, rfl, ⟨_, sqt (s1 _ _ et)⟩, ?_⟩
    refine for_tup (K := K) (a := tp) (xs := xs) (fun (j : Nat) (σ : L2.St) (H' : Hp) => ∃ (y3 : Option V), σ = [some (.ref a), some (.ref rp), some (.int (0 + (k : Int))), y3] ∧ Same H H' ∧ H' rp = some (.lst ((p.headTo k ++ ((p.kind k).take j).map (rowLine (kindS k))).map V.str))) ?_ ?_ ?_ ?_
    · exact ⟨y3, rfl, s1, by rw [e1, List.take_zero]; simp⟩
    · rintro j σ H' _ ⟨y3, rfl, s2, _⟩
      exact sqt (s2 _ _ et)
    · rintro j x σ H2 hx ⟨y3, rfl, s2, e2⟩
      obtain ⟨r, hr1, ⟨q1, rfl, hq⟩, hm⟩ := hrs.get hx
      have hrr := hrw r hm
      have h1 := itxt_len hrr.lo
      have h2 := itxt_len hrr.hi
      have h3 := hrr.nm.len
      have l1 : (" " : Str).length = 1 := by decide +kernel
      have hks : (kindS k).length ≤ 10 := by
        match k, hk3 with
        | 0, _ => decide +kernel
        | 1, _ => decide +kernel
        | 2, _ => decide +kernel
      have hkat : atI [V.str "state", V.str "input", V.str "noise"] (0 + (k : Int)) = some (V.str (kindS k)) := by
        rw [Int.zero_add]
        refine atI_nat ?_
        match k, hk3 with
        | 0, _ => rfl
        | 1, _ => rfl
        | 2, _ => rfl
      refine ⟨_, rfl, .inl ⟨rfl, _, sqd e2⟩, ?_⟩
      refine ⟨(Nat.le_of_ble_eq_true rfl), fun p5 hp5 => ?_⟩
      have s5 := fun o => same_new hp5 o
      have hq5 := fun o => s5 o _ _ (s2 _ _ hq)
      refine ⟨_, rfl, _, _, _, _, rfl, rfl, sqd upd_same, hkat, _, _, rfl, rfl, ?_, _, rfl, _, _, _, _, rfl, rfl, sqt (hq5 _), atI0, _, _, rfl, rfl, ?_, _, _, rfl, rfl, ?_, _, rfl, _, _, _, _, rfl, rfl, sqt (hq5 _), atI1, _, rfl, log_ok hrr.lo, _, _, rfl, rfl, ?_, _, _, rfl, rfl, ?_, _, rfl, _, _, _, _, rfl, rfl, sqt (hq5 _), atI2, _, rfl, log_ok hrr.hi, _, _, rfl, rfl, ?_, ?_⟩
      all_goals first | (simp only [len_app, l1]; exact big (by first | omega | (have h4 : (itxt r.2.1).length = (Str.ofString (toString r.2.1)).length := rfl; have h5 : (itxt r.2.2).length = (Str.ofString (toString r.2.2)).length := rfl; omega))) | skip
      have e6 := s5 (.lst [V.str "state", V.str "input", V.str "noise"]) _ _ e2
      refine ⟨rp, _, _, rfl, rfl, e6, ?_, _, rfl, same_put (s2.trans (s5 _)) hrp, ?_⟩
      · rw [List.length_map, List.length_append, List.length_map, List.length_take]
        have := hhead k
        exact small1000 (by omega)
      · rw [upd_same, List.take_add_one, hr1]
        simp only [List.map_append, List.append_assoc]
        rfl
    · rintro σ H2 ⟨y3, rfl, s2, e2⟩
      rw [hrs.1, List.take_length] at e2
      exact ⟨_, _, rfl, s2, e2⟩
  · rintro σ H1 ⟨y2, y3, rfl, s1, e1⟩
    rw [head3] at e1
    have hh : p.head.length ≤ 90 := by rw [← head3]; exact hhead 3
    refine ⟨_, rfl, a, _, 3, _, rfl, rfl, sqt (s1 _ _ e0), atI_nat (j := 3) rfl, _, _, rfl, .inr (sqt (s1 _ _ e4)), ((sx.length : Nat) : Int), rfl, by omega, by rw [hk.1, hp.ls]; omega, for_range (lo := 0) (n := ((sx.length : Nat) : Int).toNat) (fun (j : Nat) (σ : L2.St) (H' : Hp) => ∃ (y2 : Option V), σ = [some (.ref a), some (.ref rp), y2, y3] ∧ Same H H' ∧ H' rp = some (.lst ((p.head ++ (List.zipWith nextLine p.vs p.st).take j).map V.str))) ?_ ?_ ?_⟩
    · exact ⟨y2, rfl, s1, by rw [List.take_zero, List.append_nil]; exact e1⟩
    · rintro j σ H2 hj ⟨y2, rfl, s2, e2⟩
      have hj2 : j < p.st.length := by rw [← hk.1]; omega
      have hx : sx[j]? = some sx[j] := List.getElem?_eq_getElem (by rw [hk.1]; exact hj2)
      obtain ⟨ij, hij, hin, hmem⟩ := (hk.mono (Tp.same s2)).get hx
      obtain ⟨tp, vx, etv, etp, hvs⟩ := r1
      have hvl : j < vx.length := by rw [hvs.1, ← hp.ls]; exact hj2
      obtain ⟨r, hr1, ⟨q1, eq1, hq⟩, hm⟩ := hvs.get (List.getElem?_eq_getElem hvl)
      have hw := wr_small (hp.s ij hmem)
      have hnm := (hp.v r hm).nm.len
      have k6 : ("next " : Str).length = 5 ∧ (" " : Str).length = 1 := by decide +kernel
      subst etv
      refine ⟨_, rfl, .inl ⟨rfl, _, sqd e2⟩, ?_⟩
      refine ⟨_, rfl, a, _, 0, _, rfl, rfl, sqt (s2 _ _ e0), atI0, _, rfl, tp, vx, _, _, rfl, rfl, sqt (s2 _ _ etp), (by rw [Int.zero_add]; exact atI_nat (List.getElem?_eq_getElem hvl)), q1, _, 0, _, eq1, rfl, sqt (s2 _ _ hq), atI0, _, _, rfl, rfl, ?_, _, _, rfl, rfl, ?_, ?_⟩
      · rw [k6.1]; exact big (by omega)
      · rw [len_app, k6.1, k6.2]; exact big (by omega)
      · refine ⟨_, rfl, a, _, 3, _, rfl, rfl, sqt (s2 _ _ e0), atI_nat (j := 3) rfl, _, rfl, st, sx, _, _, rfl, rfl, sqt (s2 _ _ e4), (by rw [Int.zero_add]; exact atI_nat hx), _, ij, rfl, hin, hp.s ij hmem, fun H3 s3 => ?_⟩
        have e3 := s3 _ _ e2
        refine ⟨_, _, rfl, rfl, ?_, rp, _, _, rfl, rfl, e3, ?_, _, rfl, same_put (s2.trans s3) hrp, ?_⟩
        · rw [len_app, len_app, k6.1, k6.2]; exact big (by omega)
        · rw [List.length_map, List.length_append, List.length_take]
          have h2 : (List.zipWith nextLine p.vs p.st).length ≤ 30 := by rw [List.length_zipWith]; omega
          exact small1000 (by omega)
        · have hz2 : (List.zipWith nextLine p.vs p.st)[j]? = some (nextLine r ij) := by rw [List.getElem?_zipWith, hr1, hij]
          rw [upd_same, List.take_add_one, hz2, ← List.append_assoc, List.map_append (l₂ := (some (nextLine r ij)).toList)]
          rfl
    · rintro σ H2 ⟨y2, rfl, s2, e2⟩
      have hall : (List.zipWith nextLine p.vs p.st).take ((sx.length : Nat) : Int).toNat = List.zipWith nextLine p.vs p.st := List.take_of_length_le (by rw [List.length_zipWith, Int.toNat_natCast, hk.1]; omega)
      rw [hall] at e2
      have hw := wr_small hp.a
      have k6 : ("allow " : Str).length = 6 := by decide +kernel
      refine ⟨_, rfl, _, rfl, a, _, 4, _, rfl, rfl, sqt (s2 _ _ e0), atI_nat (j := 4) rfl, vl, p.al, rfl, hal.mono (Tp.same s2), hp.a, fun H3 s3 => ?_⟩
      refine ⟨_, _, rfl, rfl, by rw [k6]; exact big (by omega), (Nat.le_of_ble_eq_true rfl), fun p5 hp5 => ?_⟩
      have e3 := same_new hp5 (.lst [V.str ("allow " ++ p.al.wr)]) _ _ (s3 _ _ e2)
      refine ⟨rp, p5, _, _, rfl, rfl, e3, upd_same, ?_, fun p6 hp6 => ?_⟩
      · rw [List.length_map, List.length_append, List.length_zipWith]
        show _ + 1 ≤ sizeLine
        exact big (by omega)
      · refine q p6 _ (s2.trans (s3.trans ((same_new hp5 _).trans (same_new hp6 _)))) ((s2.trans (s3.trans (same_new hp5 _))).free hp6) ?_
        rw [upd_same]
        unfold Pl.lines
        rw [List.map_append (l₂ := ["allow " ++ p.al.wr])]
        rfl
end
end NL

namespace NL
open PySem PySem.Spec PyProof.Rows L2
def big60 : Nat := 1000000000000000000000000000000000000000000000000000000000000
theorem big60_eq : (10 : Nat) ^ 60 = big60 := by decide
theorem cut_map (xs : List Str) (lo hi : Option Int) : ∃ ys : List Str, cutV (xs.map V.str) lo hi = ys.map V.str ∧ (∀ y ∈ ys, y ∈ xs) ∧ ys.length ≤ xs.length ∧ (∀ k : Int, lo = none → hi = some k → 1 ≤ k → xs ≠ [] → ys ≠ []) := by
  unfold cutV
  refine ⟨(xs.drop (HT.sIx (xs.map V.str).length 0 lo)).take (HT.sIx (xs.map V.str).length (xs.map V.str).length hi - HT.sIx (xs.map V.str).length 0 lo), ?_, ?_, ?_, ?_⟩
  · rw [List.map_take, List.map_drop]
  · intro y hy
    exact List.mem_of_mem_drop (List.mem_of_mem_take hy)
  · rw [List.length_take, List.length_drop]
    omega
  · rintro k rfl rfl hk hx h
    have hl := congrArg List.length h
    rw [List.length_take, List.length_drop, HT.sIx_none, List.length_nil, List.length_map] at hl
    have hpos : 0 < xs.length := List.length_pos_iff.mpr hx
    have e : HT.sIx xs.length xs.length (some k) = min k.toNat xs.length := by
      show (if k < 0 then (k + (xs.length : Int)).toNat else min k.toNat xs.length) = _
      rw [if_neg (by omega)]
    rw [e] at hl
    omega
/-- a row as it is drawn -/
structure Rb (r : Row) : Prop where
  le : r.2.1 ≤ r.2.2
  wd : r.2.2 ≤ r.2.1 + 4
  bd : r.2.1.natAbs + 6 ≤ big60
section
variable {P : Program} {w : World} {K : PySem.W.Frag} {mg : Str → Option Value} {base : Heap}
/-! ### _law_far -/
def spFar (K : PySem.W.Frag) : Sp := fun vs H Q _ => ∃ (a d : Addr) (ns : List Int), vs = [.ref a, .ref d] ∧ Keep K d H a (ns.map V.int) ∧ Dr H d ∧ ∀ n H', Go d H H' → n.natAbs + 6 ≤ big60 → Q (.int n) H'
theorem ok_law_far (T : Txt K mg) : FnOk P w K mg base CX0 3 T.a_law_far T.d_law_far P_law_far (spFar K) := by
  have G_law_take := ok_law_take (P := P) (w := w) (base := base) T
  have G_law_cell := ok_law_cell (P := P) (w := w) (base := base) T
  refine T.F_law_far.ok sc_law_far (fun vs H Q E h => ?_) (fun cdv A outer s H vs Q E hr h => ?_)
  · obtain ⟨a, d, ns, rfl, _⟩ := h
    rfl
  obtain ⟨a, d, ns, rfl, hk, hD, q⟩ := h
  refine ⟨_, (pss_cons (ps_set (i := 2) sc_law_far.nd rfl (Or.inl rfl) (pe_op op_mod (pe_callTy call_int1 (by rfl) T.z_int (by decide +kernel) (pa_cons (pe_call G_law_cell (hr.mono (by omega)) (by rfl) T.m_law_cell T.F_law_cell.kp T.b_law_cell .nil pass0 (pa_cons (pv 0) (pa_cons (pv 1) pa_nil))) pa_nil)) (pe_op op_pow pe_int pe_int)))
    (pss_one (ps_ret (pe_ix ix_list (pe_lst (pa_cons (pv 2) (pa_cons (pv 2) (pa_cons (pv 2) (pa_cons (pe_un un_neg (pv 2)) (pa_cons (pe_un un_neg (pv 2)) (pa_cons (pe_un un_neg (pv 2)) (pa_cons (pe_op op_sub (pe_op op_pow pe_int pe_int) pe_int) (pa_cons (pe_op op_sub pe_int (pe_op op_pow pe_int pe_int)) pa_nil))))))))) (pe_call G_law_take (hr.mono (by omega)) (by rfl) T.m_law_take T.F_law_take.kp T.b_law_take .nil pass0 (pa_cons (pv 1) (pa_cons pe_int pa_nil))) (fun _ _ => rfl))))), ?_⟩
  have p58 : (10 : Int) ^ (Int.toNat 58) = 10000000000000000000000000000000000000000000000000000000000 := by decide
  have p60 : (10 : Int) ^ (Int.toNat 60) = 1000000000000000000000000000000000000000000000000000000000000 := by decide
  have q60 : big60 = 1000000000000000000000000000000000000000000000000000000000000 := rfl
  refine ⟨_, rfl, _, rfl, a, d, ns, rfl, hk, hD, fun c0 H1 g1 _ => .inl ⟨_, rfl, _, _, rfl, rfl, ⟨by decide, by decide, by decide⟩, _, _, rfl, rfl, (by show (0 : Int) < 10 ^ (Int.toNat 58); decide), ?_⟩⟩
  have m0 := Int.emod_nonneg c0 (show (10 : Int) ^ (Int.toNat 58) ≠ 0 by decide)
  have m1 := Int.emod_lt_of_pos c0 (show (0 : Int) < 10 ^ (Int.toNat 58) by decide)
  refine ⟨_, rfl, _, rfl, _, rfl, _, rfl, _, rfl, _, rfl, _, rfl, _, rfl, _, rfl, _, _, rfl, rfl, ⟨by decide, by decide, by decide⟩, _, _, rfl, rfl, _, _, rfl, rfl, ⟨by decide, by decide, by decide⟩, _, _, rfl, rfl, (Nat.le_of_ble_eq_true rfl), fun p hp => ?_⟩
  have gp := fun o => Go.new (o := o) g1.dr hp
  refine ⟨_, rfl, d, _, rfl, (gp _).dr, (by decide), fun u H2 g2 u0 u1 => ?_⟩
  obtain ⟨z, hz, hzm⟩ := atI_map (f := V.int) (xs := [c0 % 10 ^ (Int.toNat 58), c0 % 10 ^ (Int.toNat 58), c0 % 10 ^ (Int.toNat 58), -(c0 % 10 ^ (Int.toNat 58)), -(c0 % 10 ^ (Int.toNat 58)), -(c0 % 10 ^ (Int.toNat 58)), 10 ^ (Int.toNat 60) - 6, 6 - 10 ^ (Int.toNat 60)]) u0 u1
  refine ⟨_, _, _, _, rfl, rfl, sqd (g2.at g1.dr hp), hz, q z H2 (g1.trans ((gp _).trans g2)) ?_⟩
  rw [p58] at m0 m1 hzm
  rw [p60] at hzm
  rw [q60]
  simp only [List.mem_cons, List.not_mem_nil, or_false] at hzm
  omega
/-! ### _law_ranges -/
def spRanges (K : PySem.W.Frag) : Sp := fun vs H Q _ => ∃ (d nm : Addr) (xs : List Str) (room c : Int), vs = [.ref d, .ref nm, .int room, .int c] ∧ Dr H d ∧ Keep K d H nm (xs.map V.str) ∧ 1 ≤ room ∧ room ≤ 1000 ∧ c.natAbs + 6 ≤ big60 ∧ xs.length ≤ 30 ∧
  ∀ v rows H', Go d H H' → RowsIn H' rows v → rows.map (·.1) = xs → (∀ r ∈ rows, Rb r) → Q v H'
theorem ok_law_ranges (T : Txt K mg) : FnOk P w K mg base CX0 2 T.a_law_ranges T.d_law_ranges P_law_ranges (spRanges K) := by
  have G_law_take := ok_law_take (P := P) (w := w) (base := base) T
  refine T.F_law_ranges.ok sc_law_ranges (fun vs H Q E h => ?_) (fun cdv A outer s H vs Q E hr h => ?_)
  · obtain ⟨d, nm, xs, room, c, rfl, _⟩ := h
    rfl
  obtain ⟨d, nm, xs, room, c, rfl, hD, hk, r0, r1, hc, hl, q⟩ := h
  refine ⟨_, (pss_cons (ps_set (i := 4) sc_law_ranges.nd rfl (Or.inl rfl) (pe_lst pa_nil))
    (pss_cons (ps_for  PassesOwn.never rfl (pi_list (pv 1)) (pg_name (i := 5) sc_law_ranges.nd rfl (Or.inl rfl))
    (pss_cons (ps_set (i := 6) sc_law_ranges.nd rfl (Or.inl rfl) (pe_op op_add pe_int (pe_call G_law_take (hr.mono (by omega)) (by rfl) T.m_law_take T.F_law_take.kp T.b_law_take .nil pass0 (pa_cons (pv 0) (pa_cons (pe_callB (call_min2 rfl) (by rfl) T.z_min (by decide +kernel) (pa_cons pe_int (pa_cons (pv 2) pa_nil))) pa_nil)))))
    (pss_cons (ps_set (i := 2) sc_law_ranges.nd rfl (Or.inl rfl) (pe_op op_fdiv (pv 2) (pv 6)))
    (pss_cons (ps_set (i := 7) sc_law_ranges.nd rfl (Or.inl rfl) (pe_ix ix_list (pe_lst (pa_cons pe_int (pa_cons (pe_op op_sub (pe_call G_law_take (hr.mono (by omega)) (by rfl) T.m_law_take T.F_law_take.kp T.b_law_take .nil pass0 (pa_cons (pv 0) (pa_cons pe_int pa_nil))) pe_int) (pa_cons (pv 3) pa_nil)))) (pe_op op_fdiv (pe_call G_law_take (hr.mono (by omega)) (by rfl) T.m_law_take T.F_law_take.kp T.b_law_take .nil pass0 (pa_cons (pv 0) (pa_cons pe_int pa_nil))) pe_int) (fun _ _ => rfl)))
    (pss_one (ps_expr (pe_bm PySem.F.plainAttrs_list PySem.F.slot_list_append PySem.F.type_list_append mt_append (pv 4) (pa_cons (pe_tup (pa_cons (pv 5) (pa_cons (pv 7) (pa_cons (pe_op op_sub (pe_op op_add (pv 7) (pv 6)) pe_int) pa_nil)))) pa_nil))))))))
    (pss_one (ps_ret (pe_callTy call_tuple_of (by rfl) T.z_tuple (by decide +kernel) (pa_cons (pv 4) pa_nil)))))), ?_⟩
  refine ⟨(Nat.le_of_ble_eq_true rfl), fun fp hfp => ?_⟩
  have nfd := new_ne hD hfp
  have g0 := fun o => Go.new (o := o) hD hfp
  refine ⟨_, rfl, nm, rfl, ⟨_, (hk.go (g0 _)).now⟩, ?_⟩
  refine for_list (K := K) (a := nm) (xs := xs.map V.str) (fun (j : Nat) (σ : L2.St) (H' : Hp) => ∃ (rm : Int) (rows : List Row) (rx : List V) (y5 y6 y7 : Option V), σ = [some (.ref d), some (.ref nm), some (.int rm), some (.int c), some (.ref fp), y5, y6, y7] ∧ 1 ≤ rm ∧ rm ≤ 1000 ∧ Go d H H' ∧ H' fp = some (.lst rx) ∧ RowsAt H' rows rx ∧ rows.map (·.1) = xs.take j ∧ ∀ r ∈ rows, Rb r) ?_ ?_ ?_ ?_
  · exact ⟨room, [], [], none, none, none, rfl, r0, r1, g0 _, upd_same, rows0, rfl, fun r h => by cases h⟩
  · rintro j σ H' _ ⟨rm, rows, rx, y5, y6, y7, rfl, _, _, g, _⟩
    exact (hk.go g).now
  · rintro j x σ H1 hx ⟨rm, rows, rx, y5, y6, y7, rfl, m0, m1, g1, e1, hrs, hrx, hrb⟩
    rw [List.getElem?_map] at hx
    cases hn : xs[j]? with
    | none => rw [hn] at hx; cases hx
    | some z =>
      rw [hn] at hx
      obtain rfl : V.str z = x := Option.some.inj hx
      have hmin : 0 < (if rm < 5 then rm else 5) := by split <;> omega
      refine ⟨_, rfl, _, rfl, _, _, rfl, d, _, rfl, g1.dr, hmin, fun u H2 g2 u0 u1 => ?_⟩
      have hu5 : u < 5 ∧ u < rm := by split at u1 <;> omega
      refine ⟨_, _, rfl, rfl, ?_⟩
      refine ⟨_, rfl, _, rfl, _, _, rfl, rfl, ⟨by omega, by omega⟩, ?_⟩
      have hq0 : 1 ≤ rm / (1 + u) := (Int.le_ediv_iff_mul_le (by omega)).mpr (by omega)
      have hq1 : rm / (1 + u) ≤ rm := Int.ediv_le_self _ (by omega)
      -- low
      refine ⟨_, rfl, d, _, rfl, g2.dr, (by decide), fun t H3 g3 t0 t1 => ?_⟩
      refine ⟨_, _, rfl, rfl, _, rfl, (Nat.le_of_ble_eq_true rfl), fun p4 hp4 => ?_⟩
      have g4 := fun o => Go.new (o := o) g3.dr hp4
      refine ⟨_, rfl, d, _, rfl, (g4 _).dr, (by decide), fun k H5 g5 k0 k1 => ?_⟩
      obtain ⟨lo, hlo, hlm⟩ := atI_map (f := V.int) (xs := [0, t - 3, c]) (i := k / 2) (by omega) (by show k / 2 < 3; omega)
      refine ⟨_, _, rfl, rfl, ⟨by decide, by decide⟩, _, _, _, _, rfl, rfl, sqd (g5.at g3.dr hp4), hlo, ?_⟩
      have hlb : lo.natAbs + 6 ≤ big60 := by
        simp only [List.mem_cons, List.not_mem_nil, or_false] at hlm
        have q60 : big60 = 1000000000000000000000000000000000000000000000000000000000000 := rfl
        omega
      have g15 := g2.trans (g3.trans ((g4 _).trans g5))
      have e5 := g15.fr fp _ nfd e1
      refine ⟨_, rfl, .inl ⟨rfl, _, sqd e5⟩, _, rfl, _, rfl, _, rfl, _, rfl, _, _, rfl, rfl, _, _, rfl, rfl, (Nat.le_of_ble_eq_true rfl), fun p6 hp6 => ?_⟩
      have g6 := fun o => Go.new (o := o) g5.dr hp6
      have e6 := fun o => (g6 o).fr fp _ nfd e5
      refine ⟨fp, _, _, rfl, rfl, e6 _, ?_, ?_⟩
      · rw [hrs.1]
        have := congrArg List.length hrx
        rw [List.length_map, List.length_take] at this
        exact small1000 (by omega)
      · have t6 := fun o => tp_put (o := o) (e6 (.tup [.str z, .int lo, .int (lo + (1 + u) - 1)]))
        refine ⟨rm / (1 + u), rows ++ [(z, lo, lo + (1 + u) - 1)], _, _, _, _, rfl, hq0, by omega, (g1.trans (g15.trans (g6 _))).put2 hfp nfd, upd_same, ?_, ?_, ?_⟩
        · exact ((hrs.mono ((g15.trans (g6 _)).tp g1.dr)).mono (t6 _)).snoc ⟨p6, rfl, t6 _ _ _ upd_same⟩
        · rw [List.map_append, hrx, List.take_add_one, hn]; rfl
        · intro r hr
          rcases List.mem_append.mp hr with h | h
          · exact hrb r h
          · rw [List.mem_singleton.mp h]
            exact ⟨by show lo ≤ lo + (1 + u) - 1; omega, by show lo + (1 + u) - 1 ≤ lo + 4; omega, hlb⟩
  · rintro σ H1 ⟨rm, rows, rx, y5, y6, y7, rfl, m0, m1, g1, e1, hrs, hrx, hrb⟩
    rw [List.length_map, List.take_length] at hrx
    refine ⟨_, rfl, fp, rx, rfl, .inl ⟨sqd e1, fun p hp => ?_⟩⟩
    have gp := fun o => Go.new (o := o) g1.dr hp
    exact q _ rows _ (g1.trans (gp _)) ⟨p, rx, rfl, upd_same, hrs.mono ((gp _).tp g1.dr)⟩ hrx hrb
/-! ### _law_step -/
def spStep (K : PySem.W.Frag) (B : Nat) : Sp := fun vs H Q _ => ∃ (d nm : Addr) (rv : V) (r : Row) (xs : List Str) (c δ : Int), vs = [.ref d, rv, .ref nm, .int c, .int δ] ∧ Dr H d ∧ RowIn H r rv ∧ Rb r ∧ r.1 ∈ xs ∧ Keep K d H nm (xs.map V.str) ∧ c.natAbs ≤ B ∧ δ ≤ 2 ∧
  ∀ v i H', Go d H H' → ItemIn H' i v → Okx xs B false i → i.dep ≤ 8 → i.sz ≤ 50 → Q v H'
theorem ok_law_step {B : Nat} (hB : big60 ≤ B + 2) (T : Txt K mg) : FnOk P w K mg base CX0 15 T.a_law_step T.d_law_step P_law_step (spStep K B) := by
  have q60 : big60 = 1000000000000000000000000000000000000000000000000000000000000 := rfl
  have hB1 : 100 ≤ B := by omega
  have G_law_take := ok_law_take (P := P) (w := w) (base := base) T
  have G_law_leaf := ok_law_leaf (P := P) (w := w) (base := base) hB1 T
  obtain ⟨G_law_expression, G_law_test⟩ := ok_ET (P := P) (w := w) (base := base) hB1 T 3
  refine T.F_law_step.ok sc_law_step (fun vs H Q E h => ?_) (fun cdv A outer s H vs Q E hr h => ?_)
  · obtain ⟨d, nm, rv, r, xs, c, δ, rfl, _⟩ := h
    rfl
  obtain ⟨d, nm, rv, r, xs, c, δ, rfl, hD, ⟨rq, rfl, hrq⟩, hrb, hrx, hk, hc, hδ, q⟩ := h
  refine ⟨_, (pss_cons (ps_set (i := 5) sc_law_step.nd rfl (Or.inl rfl) (pe_call G_law_take (hr.mono (by omega)) (by rfl) T.m_law_take T.F_law_take.kp T.b_law_take .nil pass0 (pa_cons (pv 0) (pa_cons pe_int pa_nil))))
    (pss_cons (ps_set (i := 6) sc_law_step.nd rfl (Or.inl rfl) (pe_tup (pa_cons pe_str (pa_cons (pe_ix ix_tup (pv 1) pe_int (fun _ _ => rfl)) pa_nil))))
    (pss_cons (ps_if (pt_cmpR op_eq (pv 5) pe_int (nomark _))
    (pss_one (ps_ret (pv 6)))
    pss_nil)
    (pss_cons (ps_if (pt_cmpR op_eq (pv 5) pe_int (nomark _))
    (pss_one (ps_ret (pe_tup (pa_cons pe_str (pa_cons (pv 6) (pa_cons (pe_call G_law_leaf (hr.mono (by omega)) (by rfl) T.m_law_leaf T.F_law_leaf.kp T.b_law_leaf .nil pass0 (pa_cons (pv 0) (pa_cons (pv 2) (pa_cons (pe_op op_sub (pe_call G_law_take (hr.mono (by omega)) (by rfl) T.m_law_take T.F_law_take.kp T.b_law_take .nil pass0 (pa_cons (pv 0) (pa_cons pe_int pa_nil))) pe_int) pa_nil)))) pa_nil))))))
    pss_nil)
    (pss_cons (ps_set (i := 7) sc_law_step.nd rfl (Or.inl rfl) (pe_call G_law_expression (hr.mono (by omega)) (by rfl) T.m_law_expression T.F_law_expression.kp T.b_law_expression .nil pass0 (pa_cons (pv 0) (pa_cons (pv 2) (pa_cons (pv 3) (pa_cons (pv 4) pa_nil))))))
    (pss_cons (ps_if (pt_cmpR op_eq (pv 5) pe_int (nomark _))
    (pss_one (ps_ret (pv 7)))
    pss_nil)
    (pss_cons (ps_if (pt_cmpR op_eq (pv 5) pe_int (nomark _))
    (pss_one (ps_ret (pe_tup (pa_cons pe_str (pa_cons (pe_tup (pa_cons pe_str (pa_cons (pv 7) (pa_cons (pe_op op_add (pe_op op_sub (pe_ix ix_tup (pv 1) pe_int (fun _ _ => rfl)) (pe_ix ix_tup (pv 1) pe_int (fun _ _ => rfl))) pe_int) pa_nil)))) (pa_cons (pe_tup (pa_cons pe_str (pa_cons (pe_ix ix_tup (pv 1) pe_int (fun _ _ => rfl)) pa_nil))) pa_nil))))))
    pss_nil)
    (pss_one (ps_ret (pe_tup (pa_cons pe_str (pa_cons (pe_tup (pa_cons pe_str (pa_cons (pe_tup (pa_cons pe_str (pa_cons (pv 6) (pa_cons (pv 7) pa_nil)))) (pa_cons (pe_tup (pa_cons pe_str (pa_cons (pe_ix ix_tup (pv 1) pe_int (fun _ _ => rfl)) pa_nil))) pa_nil)))) (pa_cons (pe_tup (pa_cons pe_str (pa_cons (pe_ix ix_tup (pv 1) pe_int (fun _ _ => rfl)) pa_nil))) pa_nil))))))))))))), ?_⟩
  have b1 := hrb.le
  have b2 := hrb.wd
  have b3 := hrb.bd
  refine ⟨_, rfl, d, _, rfl, hD, (by decide), fun kd H1 g1 k0 k1 => ?_⟩
  have hq1 := g1.tup hD hrq
  refine ⟨_, rfl, _, _, _, _, rfl, rfl, sqt hq1, atI0, (Nat.le_of_ble_eq_true rfl), fun op hop => ?_⟩
  have go := fun o => Go.new (o := o) g1.dr hop
  have own : ItemIn (upd H1 op (.tup [.str "name", .str r.1])) (.name r.1) (.ref op) := .name upd_same
  have owo : Okx xs B false (.name r.1) := .name hrx
  refine ⟨_, rfl, rfl, _, rfl, ?_⟩
  refine ite2 (fun c1 => ?_) (fun c1 => ?_)
  · exact ⟨_, rfl, q _ _ _ (g1.trans (go _)) own owo (by rw [It.dep]; decide) (by rw [It.sz]; decide)⟩
  refine ⟨_, rfl, rfl, _, rfl, ?_⟩
  refine ite2 (fun c2 => ?_) (fun c2 => ?_)
  · refine ⟨_, rfl, _, rfl, _, rfl, _, rfl, d, _, rfl, (go _).dr, (by decide), fun t H2 g2 t0 t1 => ?_⟩
    refine ⟨_, _, rfl, rfl, d, nm, xs, t - 2, rfl, g2.dr, ((hk.go g1).go (go _)).go g2, by omega, fun lv li H3 g3 hli hlo hld hls => ?_⟩
    refine ⟨(Nat.le_of_ble_eq_true rfl), fun p hp => ?_⟩
    have gp := fun o => Go.new (o := o) g3.dr hp
    exact q _ (.bin "add" (.name r.1) li) _ (g1.trans ((go _).trans (g2.trans (g3.trans (gp _))))) (.bin upd_same (own.go (g2.trans (g3.trans (gp _))) (go _).dr) (hli.go (gp _) g3.dr)) (.bin (by decide +kernel) owo hlo) (by simp only [It.dep]; omega) (by simp only [It.sz]; omega)
  have k2 : kd ≠ 0 ∧ kd ≠ 1 := ⟨int_ne c1, int_ne c2⟩
  refine ⟨_, rfl, _, rfl, _, rfl, _, rfl, d, nm, xs, c, δ, rfl, (go _).dr, (hk.go g1).go (go _), hc, hδ, fun fv fi H2 g2 hfi hfo hfd0 hfs0 => ?_⟩
  have hfd : fi.dep ≤ 5 := hfd0
  have hfs : fi.sz ≤ 41 := hfs0
  have hq2 := (((go _).trans g2).tup g1.dr hq1)
  have own2 := own.go g2 (go _).dr
  refine ⟨_, rfl, rfl, _, rfl, ?_⟩
  refine ite2 (fun c3 => ?_) (fun c3 => ?_)
  · exact ⟨_, rfl, q _ _ _ (g1.trans ((go _).trans g2)) hfi hfo (by omega) (by omega)⟩
  refine ⟨_, rfl, rfl, _, rfl, ?_⟩
  refine ite2 (fun c4 => ?_) (fun c4 => ?_)
  · refine ⟨_, rfl, _, rfl, _, _, _, _, rfl, rfl, sqt hq2, atI2, _, rfl, _, _, _, _, rfl, rfl, sqt hq2, atI1, _, _, rfl, rfl, _, _, rfl, rfl, (Nat.le_of_ble_eq_true rfl), fun p1 hp1 => ?_⟩
    have gp1 := fun o => Go.new (o := o) g2.dr hp1
    refine ⟨_, rfl, _, _, _, _, rfl, rfl, sqt ((gp1 _).tup g2.dr hq2), atI1, (Nat.le_of_ble_eq_true rfl), fun p2 hp2 => ?_⟩
    have gp2 := fun o => Go.new (o := o) (gp1 _).dr hp2
    refine ⟨(Nat.le_of_ble_eq_true rfl), fun p3 hp3 => ?_⟩
    have gp3 := fun o => Go.new (o := o) (gp2 _).dr hp3
    have g13 := fun o => (gp1 _).trans ((gp2 _).trans (gp3 o))
    exact q _ (.bin "add" (.dm "mod" fi (r.2.2 - r.2.1 + 1)) (.num r.2.1)) _ (g1.trans ((go _).trans (g2.trans (g13 _))))
      (.bin upd_same (.dm (((gp2 _).trans (gp3 _)).tup (gp1 _).dr upd_same) (hfi.go (g13 _) g2.dr)) (.num ((gp3 _).tup (gp2 _).dr upd_same)))
      (.bin (by decide +kernel) (.dm (by decide +kernel) hfo (by omega) (by omega)) (.num (by omega))) (by simp only [It.dep]; omega) (by simp only [It.sz]; omega)
  · refine ⟨_, rfl, _, rfl, (Nat.le_of_ble_eq_true rfl), fun p1 hp1 => ?_⟩
    have gp1 := fun o => Go.new (o := o) g2.dr hp1
    refine ⟨_, rfl, _, _, _, _, rfl, rfl, sqt ((gp1 _).tup g2.dr hq2), atI1, (Nat.le_of_ble_eq_true rfl), fun p2 hp2 => ?_⟩
    have gp2 := fun o => Go.new (o := o) (gp1 _).dr hp2
    refine ⟨(Nat.le_of_ble_eq_true rfl), fun p3 hp3 => ?_⟩
    have gp3 := fun o => Go.new (o := o) (gp2 _).dr hp3
    have g13 := fun o => (gp1 _).trans ((gp2 _).trans (gp3 o))
    refine ⟨_, rfl, _, _, _, _, rfl, rfl, sqt ((g13 _).tup g2.dr hq2), atI2, (Nat.le_of_ble_eq_true rfl), fun p4 hp4 => ?_⟩
    have gp4 := fun o => Go.new (o := o) (gp3 _).dr hp4
    refine ⟨(Nat.le_of_ble_eq_true rfl), fun p5 hp5 => ?_⟩
    have gp5 := fun o => Go.new (o := o) (gp4 _).dr hp5
    have g15 := fun o => (g13 _).trans ((gp4 _).trans (gp5 o))
    have g25 := fun o => (gp2 _).trans ((gp3 _).trans ((gp4 _).trans (gp5 o)))
    have g35 := fun o => (gp3 _).trans ((gp4 _).trans (gp5 o))
    have g45 := fun o => (gp4 _).trans (gp5 o)
    exact q _ (.bin "min" (.bin "max" (.bin "add" (.name r.1) fi) (.num r.2.1)) (.num r.2.2)) _ (g1.trans ((go _).trans (g2.trans (g15 _))))
      (.bin upd_same (.bin ((g45 _).tup (gp3 _).dr upd_same) (.bin ((g25 _).tup (gp1 _).dr upd_same) (own2.go (g15 _) g2.dr) (hfi.go (g15 _) g2.dr)) (.num ((g35 _).tup (gp2 _).dr upd_same))) (.num ((gp5 _).tup (gp4 _).dr upd_same)))
      (.bin (by decide +kernel) (.bin (by decide +kernel) (.bin (by decide +kernel) owo hfo) (.num (by omega))) (.num (by omega))) (by simp only [It.dep]; omega) (by simp only [It.sz]; omega)
end
end NL

namespace NL
open PySem PySem.Spec PyProof.Rows L2
/-- a plant as it is drawn -/
structure PlG (p : Pl) (xs : List Str) (B : Nat) : Prop where
  nm : ∀ x ∈ xs, Nam x
  v : ∀ r ∈ p.vs, Rb r ∧ r.1 ∈ xs
  i : ∀ r ∈ p.ins, Rb r ∧ r.1 ∈ xs
  n : ∀ r ∈ p.ns, Rb r ∧ r.1 ∈ xs
  s : ∀ i ∈ p.st, Okx xs B false i ∧ i.dep ≤ 8 ∧ i.sz ≤ 50
  a : Okx xs B true p.al ∧ p.al.dep ≤ 6 ∧ p.al.sz ≤ 223
  lv : p.vs.length ≤ 16 ∧ p.ins.length ≤ 16 ∧ p.ns.length ≤ 16
  ls : p.st.length = p.vs.length
  ne : p.vs ≠ []
theorem rows_sub {rows : List Row} {ys xs : List Str} (h : rows.map (·.1) = ys) (hs : ∀ y ∈ ys, y ∈ xs) (hb : ∀ r ∈ rows, Rb r) : ∀ r ∈ rows, Rb r ∧ r.1 ∈ xs := fun r hr => ⟨hb r hr, hs _ (by rw [← h]; exact List.mem_map_of_mem hr)⟩
theorem okx_mono {xs ys : List Str} {B : Nat} (hs : ∀ y ∈ ys, y ∈ xs) {b : Bool} {i : It} (h : Okx ys B b i) : Okx xs B b i := by
  induction h with
  | num h => exact .num h
  | name h => exact .name (hs _ h)
  | lit => exact .lit
  | abs _ ih => exact .abs ih
  | not _ ih => exact .not ih
  | dm a _ c d ih => exact .dm a ih c d
  | bin a _ _ ih jh => exact .bin a ih jh
  | cmp a _ _ ih jh => exact .cmp a ih jh
  | tri _ _ _ ih jh kh => exact .tri ih jh kh
  | grp a b _ ih => exact .grp a b ih
theorem Kids.app {H : Hp} {l l' : List It} {vs vs' : List V} (h : Kids H l vs) (g : Kids H l' vs') : Kids H (l ++ l') (vs ++ vs') := by
  induction l generalizing vs with
  | nil =>
    have : vs = [] := List.length_eq_zero_iff.mp h.1
    rw [this]; exact g
  | cons a r ih =>
    cases vs with
    | nil => exact absurd h.1 (by simp)
    | cons x xs =>
      have h0 : ItemIn H a x := h.2 0 a x rfl rfl
      have h1 : Kids H r xs := ⟨by have := h.1; simpa using this, fun k i y e f => h.2 (k + 1) i y (by simpa using e) (by simpa using f)⟩
      exact .cons h0 (ih h1)
theorem RowsAt.app {H : Hp} {l l' : List Row} {vs vs' : List V} (h : RowsAt H l vs) (g : RowsAt H l' vs') : RowsAt H (l ++ l') (vs ++ vs') := by
  refine ⟨by rw [List.length_append, List.length_append, h.1, g.1], fun k r x e f => ?_⟩
  by_cases hk : k < l.length
  · rw [List.getElem?_append_left hk] at e
    rw [List.getElem?_append_left (by rw [h.1]; exact hk)] at f
    exact h.2 k r x e f
  · rw [List.getElem?_append_right (by omega)] at e
    rw [List.getElem?_append_right (by rw [h.1]; omega), h.1] at f
    exact g.2 _ r x e f
section
variable {P : Program} {w : World} {K : PySem.W.Frag} {mg : Str → Option Value} {base : Heap}
/-! ### _law_plant -/
def spPlant (K : PySem.W.Frag) (B : Nat) : Sp := fun vs H Q _ => ∃ (d rp : Addr) (c : Int) (ra rb rc : Int), vs = [.ref d, .int c, .ref rp] ∧ Dr H d ∧ Keep K d H rp ([ra, rb, rc].map V.int) ∧ (1 ≤ ra ∧ ra ≤ 1000) ∧ (1 ≤ rb ∧ rb ≤ 1000) ∧ (1 ≤ rc ∧ rc ≤ 1000) ∧ c.natAbs + 6 ≤ big60 ∧
  ∀ v p xs H', Go d H H' → PlIn H' p v → PlG p xs B → Q v H'
theorem ok_law_plant {B : Nat} (hB : big60 ≤ B + 2) (T : Txt K mg) : FnOk P w K mg base CX0 16 T.a_law_plant T.d_law_plant P_law_plant (spPlant K B) := by
  have q60 : big60 = 1000000000000000000000000000000000000000000000000000000000000 := rfl
  have hB1 : 100 ≤ B := by omega
  have G_law_take := ok_law_take (P := P) (w := w) (base := base) T
  have G_law_names := ok_law_names (P := P) (w := w) (base := base) T
  have G_law_ranges := ok_law_ranges (P := P) (w := w) (base := base) T
  have G_law_step := ok_law_step (P := P) (w := w) (base := base) hB T
  obtain ⟨_, G_law_test⟩ := ok_ET (P := P) (w := w) (base := base) hB1 T 3
  refine T.F_law_plant.ok sc_law_plant (fun vs H Q E h => ?_) (fun cdv A outer s H vs Q E hr h => ?_)
  · obtain ⟨d, rp, c, ra, rb, rc, rfl, _⟩ := h
    rfl
  obtain ⟨d, rp, c, ra, rb, rc, rfl, hD, hkr, hra, hrb, hrc, hc, q⟩ := h
  refine ⟨_, (pss_cons (ps_set (i := 3) sc_law_plant.nd rfl (Or.inl rfl) (pe_lst (pa_cons (pe_op op_add pe_int (pe_call G_law_take (hr.mono (by omega)) (by rfl) T.m_law_take T.F_law_take.kp T.b_law_take .nil pass0 (pa_cons (pv 0) (pa_cons pe_int pa_nil)))) (pa_cons (pe_call G_law_take (hr.mono (by omega)) (by rfl) T.m_law_take T.F_law_take.kp T.b_law_take .nil pass0 (pa_cons (pv 0) (pa_cons pe_int pa_nil))) (pa_cons (pe_call G_law_take (hr.mono (by omega)) (by rfl) T.m_law_take T.F_law_take.kp T.b_law_take .nil pass0 (pa_cons (pv 0) (pa_cons pe_int pa_nil))) pa_nil)))))
    (C8.pss_cut (ps_if (pt_cmpR op_eq (pe_call G_law_take (hr.mono (by omega)) (by rfl) T.m_law_take T.F_law_take.kp T.b_law_take .nil pass0 (pa_cons (pv 0) (pa_cons pe_int pa_nil))) pe_int (nomark _))
    (pss_one (ps_set (i := 3) sc_law_plant.nd rfl (Or.inl rfl) (pe_lst (pa_cons pe_int (pa_cons pe_int (pa_cons pe_int pa_nil))))))
    pss_nil)
    (pss_cons (ps_set (i := 4) sc_law_plant.nd rfl (Or.inr rfl) (pe_call G_law_names (hr.mono (by omega)) (by rfl) T.m_law_names T.F_law_names.kp T.b_law_names .nil pass0 (pa_cons (pv 0) (pa_cons (pe_op op_add (pe_op op_add (pe_ix ix_list (pv 3) pe_int (fun _ _ => rfl)) (pe_ix ix_list (pv 3) pe_int (fun _ _ => rfl))) (pe_ix ix_list (pv 3) pe_int (fun _ _ => rfl))) pa_nil))))
    (pss_cons (ps_set (i := 5) sc_law_plant.nd rfl (Or.inl rfl) (pe_call G_law_ranges (hr.mono (by omega)) (by rfl) T.m_law_ranges T.F_law_ranges.kp T.b_law_ranges .nil pass0 (pa_cons (pv 0) (pa_cons (pe_slice sl_list (pv 4) po_none (po_some (pe_ix ix_list (pv 3) pe_int (fun _ _ => rfl)))) (pa_cons (pe_ix ix_list (pv 2) pe_int (fun _ _ => rfl)) (pa_cons (pv 1) pa_nil))))))
    (pss_cons (ps_set (i := 6) sc_law_plant.nd rfl (Or.inl rfl) (pe_call G_law_ranges (hr.mono (by omega)) (by rfl) T.m_law_ranges T.F_law_ranges.kp T.b_law_ranges .nil pass0 (pa_cons (pv 0) (pa_cons (pe_slice sl_list (pv 4) (po_some (pe_ix ix_list (pv 3) pe_int (fun _ _ => rfl))) (po_some (pe_op op_add (pe_ix ix_list (pv 3) pe_int (fun _ _ => rfl)) (pe_ix ix_list (pv 3) pe_int (fun _ _ => rfl))))) (pa_cons (pe_ix ix_list (pv 2) pe_int (fun _ _ => rfl)) (pa_cons (pv 1) pa_nil))))))
    (pss_cons (ps_set (i := 7) sc_law_plant.nd rfl (Or.inl rfl) (pe_call G_law_ranges (hr.mono (by omega)) (by rfl) T.m_law_ranges T.F_law_ranges.kp T.b_law_ranges .nil pass0 (pa_cons (pv 0) (pa_cons (pe_slice sl_list (pv 4) (po_some (pe_op op_add (pe_ix ix_list (pv 3) pe_int (fun _ _ => rfl)) (pe_ix ix_list (pv 3) pe_int (fun _ _ => rfl)))) po_none) (pa_cons (pe_ix ix_list (pv 2) pe_int (fun _ _ => rfl)) (pa_cons (pv 1) pa_nil))))))
    (pss_cons (ps_set (i := 8) sc_law_plant.nd rfl (Or.inl rfl) (pe_op op_add pe_int (pe_callTy call_int1 (by rfl) T.z_int (by decide +kernel) (pa_cons (pe_cmpR op_eq (pe_call G_law_take (hr.mono (by omega)) (by rfl) T.m_law_take T.F_law_take.kp T.b_law_take .nil pass0 (pa_cons (pv 0) (pa_cons pe_int pa_nil))) pe_int (nomark _)) pa_nil))))
    (pss_cons (ps_set (i := 9) sc_law_plant.nd rfl (Or.inl rfl) (pe_lst (pa_cons (pe_call G_law_step (hr.mono (by omega)) (by rfl) T.m_law_step T.F_law_step.kp T.b_law_step .nil pass0 (pa_cons (pv 0) (pa_cons (pe_ix ix_tup (pv 5) pe_int (fun _ _ => rfl)) (pa_cons (pv 4) (pa_cons (pv 1) (pa_cons (pv 8) pa_nil)))))) pa_nil)))
    (pss_cons (ps_set (i := 9) sc_law_plant.nd rfl (Or.inl rfl) (pe_callTy call_tuple_of (by rfl) T.z_tuple (by decide +kernel) (pa_cons (pe_op op_cat (pv 9) (pe_lc (own := [("row", 10)]) (g := (gName 10)) (tt := tYes) rfl sc_law_plant.nd (pi_tup (pe_slice sl_tup (pv 5) (po_some pe_int) po_none)) (blkOk_by (N := N_law_plant) (sc := defScope s_law_plant) (by decide +kernel)) (fun _ _ _ _ _ => (pg_name (i := 10) sc_law_plant.nd rfl (Or.inl rfl))) (fun _ _ _ _ _ => pts_nil) (fun _ _ _ _ _ => (pe_call G_law_step (hr.mono (by omega)) (by rfl) T.m_law_step T.F_law_step.kp T.b_law_step .nil pass0 (pa_cons (pv 0) (pa_cons (pv 10) (pa_cons (pv 4) (pa_cons (pv 1) (pa_cons pe_int pa_nil))))))))) pa_nil)))
    (pss_cons (ps_set (i := 11) sc_law_plant.nd rfl (Or.inl rfl) (pe_tup (pa_cons pe_str pa_nil)))
    (C8.pss_cut (ps_if (pt_cmpR op_eq (pe_call G_law_take (hr.mono (by omega)) (by rfl) T.m_law_take T.F_law_take.kp T.b_law_take .nil pass0 (pa_cons (pv 0) (pa_cons pe_int pa_nil))) pe_int (nomark _))
    (pss_one (ps_set (i := 11) sc_law_plant.nd rfl (Or.inl rfl) (pe_call G_law_test (hr.mono (by omega)) (by rfl) T.m_law_test T.F_law_test.kp T.b_law_test .nil pass0 (pa_cons (pv 0) (pa_cons (pe_slice sl_list (pv 4) po_none (po_some (pe_op op_add (pe_ix ix_list (pv 3) pe_int (fun _ _ => rfl)) (pe_ix ix_list (pv 3) pe_int (fun _ _ => rfl))))) (pa_cons (pv 1) (pa_cons (pv 8) pa_nil)))))))
    pss_nil)
    (pss_one (ps_ret (pe_tup (pa_cons (pv 5) (pa_cons (pv 6) (pa_cons (pv 7) (pa_cons (pv 9) (pa_cons (pv 11) pa_nil))))))))))))))))))), ?_⟩
  -- counts
  refine ⟨_, rfl, d, _, rfl, hD, (by decide), fun c0 H1 g1 c00 c01 => ?_⟩
  refine ⟨_, _, rfl, rfl, _, rfl, d, _, rfl, g1.dr, (by decide), fun c1 H2 g2 c10 c11 => ?_⟩
  refine ⟨_, rfl, d, _, rfl, g2.dr, (by decide), fun c2 H3 g3 c20 c21 => ?_⟩
  refine ⟨(Nat.le_of_ble_eq_true rfl), fun cp hcp => ?_⟩
  have gc := fun o => Go.new (o := o) g3.dr hcp
  have ncd := new_ne g3.dr hcp
  refine ⟨fun σ H4 => ∃ (cp : Addr) (a b e : Int), σ = [some (.ref d), some (.int c), some (.ref rp), some (.ref cp), none, none, none, none, none, none, none, none] ∧ Go d H H4 ∧ cp ≠ d ∧ H4 cp = some (.lst [.int a, .int b, .int e]) ∧ (1 ≤ a ∧ a ≤ 8) ∧ (0 ≤ b ∧ b ≤ 4) ∧ (0 ≤ e ∧ e ≤ 4), ?_, ?_⟩
  · refine ⟨_, rfl, d, _, rfl, (gc _).dr, (by decide), fun u H5 g5 u0 u1 => ?_⟩
    refine ⟨rfl, _, rfl, ?_⟩
    have g15 := g1.trans (g2.trans (g3.trans ((gc _).trans g5)))
    refine ite2 (fun z => ?_) (fun z => ?_)
    · refine ⟨(Nat.le_of_ble_eq_true rfl), fun cp2 hcp2 => ?_⟩
      exact ⟨cp2, 8, 4, 4, rfl, g15.trans (.new g5.dr hcp2), new_ne g5.dr hcp2, upd_same, by decide, by decide, by decide⟩
    · exact ⟨cp, 1 + c0, c1, c2, rfl, g15, ncd, g5.at g3.dr hcp, by omega, by omega, by omega⟩
  rintro σ4 H4 ⟨cp, ca, cb, ce, rfl, g4, ncp, ecp, hca, hcb, hce⟩
  have kc : Keep K d H4 cp [.int ca, .int cb, .int ce] := .of ncp ecp
  -- names
  refine ⟨_, rfl, _, rfl, _, _, _, _, rfl, rfl, kc.now, atI0, _, rfl, _, _, _, _, rfl, rfl, kc.now, atI1, _, _, rfl, rfl, _, rfl, _, _, _, _, rfl, rfl, kc.now, atI2, _, _, rfl, rfl, d, _, rfl, g4.dr, (by omega), (by omega), fun n xs H5 g5 hn nnd en hx hxl _ hxne => ?_⟩
  have hxne' := hxne (by omega)
  have kn : Keep K d H5 n (xs.map V.str) := .of nnd en
  have kc5 := kc.go g5
  -- variables
  refine ⟨_, rfl, _, rfl, _, rfl, _, _, _, _, rfl, rfl, kc5.now, atI0, _, rfl, _, _, rfl, kn.now, fun p1 hp1 => ?_⟩
  have g6 := fun o => Go.new (o := o) g5.dr hp1
  obtain ⟨ys1, ec1, hs1, hl1, hne1⟩ := cut_map xs none (some ca)
  have hne1' := hne1 ca rfl rfl hca.1 hxne'
  have kr6 := fun o => (hkr.go g4).go (g5.trans (g6 o))
  refine ⟨_, rfl, _, _, _, _, rfl, rfl, (kr6 _).now, atI0, _, rfl, d, p1, ys1, ra, c, rfl, (g6 _).dr, .of (new_ne g5.dr hp1) (by rw [upd_same]; exact congrArg (fun z => some (HO.lst z)) ec1), hra.1, hra.2, hc, by omega, fun v1 rows1 H7 g7 hr1 hrn1 hrb1 => ?_⟩
  have g57 := (g6 _).trans g7
  -- inputs
  have kc7 := kc5.go g57
  refine ⟨_, rfl, _, rfl, _, rfl, _, _, _, _, rfl, rfl, kc7.now, atI0, _, rfl, _, rfl, _, _, _, _, rfl, rfl, kc7.now, atI0, _, rfl, _, _, _, _, rfl, rfl, kc7.now, atI1, _, _, rfl, rfl, _, rfl, _, _, rfl, (kn.go g57).now, fun p2 hp2 => ?_⟩
  have g8 := fun o => Go.new (o := o) g7.dr hp2
  obtain ⟨ys2, ec2, hs2, hl2, _⟩ := cut_map xs (some ca) (some (ca + cb))
  have kr8 := fun o => (kr6 _).go (g7.trans (g8 o))
  refine ⟨_, rfl, _, _, _, _, rfl, rfl, (kr8 _).now, atI1, _, rfl, d, p2, ys2, rb, c, rfl, (g8 _).dr, .of (new_ne g7.dr hp2) (by rw [upd_same]; exact congrArg (fun z => some (HO.lst z)) ec2), hrb.1, hrb.2, hc, by omega, fun v2 rows2 H9 g9 hr2 hrn2 hrb2 => ?_⟩
  have g79 := (g8 _).trans g9
  -- noises
  have kc9 := kc7.go g79
  have kn9 := (kn.go g57).go g79
  refine ⟨_, rfl, _, rfl, _, rfl, _, _, _, _, rfl, rfl, kc9.now, atI0, _, rfl, _, _, _, _, rfl, rfl, kc9.now, atI1, _, _, rfl, rfl, _, rfl, _, _, rfl, kn9.now, fun p3 hp3 => ?_⟩
  have gA := fun o => Go.new (o := o) g9.dr hp3
  obtain ⟨ys3, ec3, hs3, hl3, _⟩ := cut_map xs (some (ca + cb)) none
  have krA := fun o => (kr8 _).go (g9.trans (gA o))
  refine ⟨_, rfl, _, _, _, _, rfl, rfl, (krA _).now, atI2, _, rfl, d, p3, ys3, rc, c, rfl, (gA _).dr, .of (new_ne g9.dr hp3) (by rw [upd_same]; exact congrArg (fun z => some (HO.lst z)) ec3), hrc.1, hrc.2, hc, by omega, fun v3 rows3 HB gB hr3 hrn3 hrb3 => ?_⟩
  have g9B := (gA _).trans gB
  have vs1 := rows_sub hrn1 hs1 hrb1
  have vs2 := rows_sub hrn2 hs2 hrb2
  have vs3 := rows_sub hrn3 hs3 hrb3
  have hln1 := congrArg List.length hrn1
  have hln2 := congrArg List.length hrn2
  have hln3 := congrArg List.length hrn3
  rw [List.length_map] at hln1 hln2 hln3
  -- deep
  refine ⟨_, rfl, d, _, rfl, gB.dr, (by decide), fun dp HC gC dp0 dp1 => ?_⟩
  refine ⟨rfl, .inr ⟨_, rfl, _, _, rfl, rfl, ?_⟩⟩
  have hdeep2 : ((1 : Int) + (if decide (V.int dp = V.int 0) = true then (1 : Int) else 0)) ≤ 2 := by split <;> decide
  -- steps
  obtain ⟨tp, rx, rfl, etp, hrs⟩ := hr1
  have g7C := g79.trans (g9B.trans gC)
  have etC := g7C.tup g7.dr etp
  have hrC := hrs.mono (g7C.tp g7.dr)
  cases hrow : rows1 with
  | nil => exact absurd (by rw [← hrn1, hrow]; rfl) hne1'
  | cons r0 rr =>
  cases hrxx : rx with
  | nil => rw [hrxx, hrow] at hrs; exact absurd hrs.1 (by simp)
  | cons x0 xr =>
  have hx0 : RowIn HC r0 x0 := hrC.2 0 r0 x0 (by rw [hrow]; rfl) (by rw [hrxx]; rfl)
  have hrest : RowsAt HC rr xr := by
    refine ⟨?_, fun k r x e f => hrC.2 (k + 1) r x (by rw [hrow]; simpa using e) (by rw [hrxx]; simpa using f)⟩
    have := hrC.1
    rw [hrow, hrxx] at this
    simpa using this
  have hv0 := vs1 r0 (by rw [hrow]; exact List.mem_cons_self)
  have hvr : ∀ r ∈ rr, Rb r ∧ r.1 ∈ xs := fun r hr => vs1 r (by rw [hrow]; exact List.mem_cons_of_mem _ hr)
  have knC := kn9.go (g9B.trans gC)
  rw [hrxx] at etC
  refine ⟨_, rfl, _, rfl, tp, _, _, _, rfl, rfl, sqt etC, atI0, _, rfl, _, rfl, _, rfl, d, n, x0, r0, xs, c, ((1 : Int) + (if decide (V.int dp = V.int 0) = true then (1 : Int) else 0)), rfl, gC.dr, hx0, hv0.1, hv0.2, knC, by omega, hdeep2, fun sv0 i0 HD gD hi0 ho0 hd0 hs0 => ?_⟩
  refine ⟨(Nat.le_of_ble_eq_true rfl), fun sp hsp => ?_⟩
  have gE := fun o => Go.new (o := o) gD.dr hsp
  have gCE := fun o => gD.trans (gE o)
  refine ⟨_, rfl, _, rfl, 1, rfl, tp, _, rfl, sqt ((gCE _).tup gC.dr etC), not_whole _ _ _, fun tp2 htp2 => ?_⟩
  have gF := fun o => Go.new (o := o) (gE _).dr htp2
  have gCF := fun o => (gCE _).trans (gF o)
  refine ⟨tp2, rfl, ⟨_, sqt upd_same⟩, fun D hDn => ?_⟩
  have nDd := new_ne (gF _).dr hDn
  have gG := fun o => Go.new (o := o) (gF _).dr hDn
  refine lc_tup (K := K) (a := tp2) (xs := cutV (x0 :: xr) (some 1) none) (fun (j : Nat) (H' : Hp) => ∃ (l : List It) (lv : List V), Go d (upd (upd HD sp (.lst [sv0])) tp2 (.tup (cutV (x0 :: xr) (some 1) none))) H' ∧ H' D = some (.lst lv) ∧ Kids H' l lv ∧ l.length = j ∧ ∀ i ∈ l, Okx xs B false i ∧ i.dep ≤ 8 ∧ i.sz ≤ 50) ?_ ?_ ?_ ?_
  · exact ⟨[], [], gG _, upd_same, kids0, rfl, fun i h => by cases h⟩
  · rintro j H' _ ⟨l, lv, g, _⟩
    exact sqt (g.tup (gF _).dr upd_same)
  · rintro j x H' hx ⟨l, lv, g, eD, hks, hll, hok⟩
    rw [cut_tail] at hx
    obtain ⟨r, hr1', hri, hrm⟩ := hrest.get hx
    have gCg := (gCF _).trans g
    refine ⟨rfl, yes_if ?_⟩
    refine ⟨_, rfl, _, rfl, _, rfl, _, rfl, d, n, x, r, xs, c, 1, rfl, g.dr, hri.mono (gCg.tp gC.dr), (hvr r hrm).1, (hvr r hrm).2, knC.go gCg, by omega, by decide, fun v i H4 g4' hi hio hid his => ?_⟩
    have e4 := g4'.fr D _ nDd eD
    have t4 := fun o => tp_put (o := o) e4
    refine ⟨lv, e4, ?_, l ++ [i], lv ++ [v], (g.trans g4').put2 hDn nDd, upd_same, ?_, ?_, ?_⟩
    · rw [hks.1, hll]
      have := (List.getElem?_eq_some_iff.mp hr1').1
      have h1 := congrArg List.length hrow
      rw [List.length_cons] at h1
      exact small1000 (by omega)
    · exact ((hks.mono (g4'.tp g.dr)).mono (t4 _)).snoc (hi.mono (t4 _))
    · rw [List.length_append, hll] <;> rfl
    · intro z hz
      rcases List.mem_append.mp hz with h | h
      · exact hok z h
      · rw [List.mem_singleton.mp h]; exact ⟨hio, hid, his⟩
  · rintro HI ⟨l, lv, g, eD, hks, hll, hok⟩
    rw [cut_tail, hrest.1] at hll
    have gEg := (gF _).trans g
    have nsd := new_ne gD.dr hsp
    have esp := gEg.fr sp _ nsd upd_same
    have hxl16 : xs.length ≤ 16 := by omega
    have h1 := congrArg List.length hrow
    rw [List.length_cons] at h1
    refine ⟨sp, D, _, _, rfl, rfl, esp, eD, ?_, fun sp2 hsp2 => ?_⟩
    · rw [hks.1, hll, List.length_singleton]
      exact big (by omega)
    have gJ := fun o => Go.new (o := o) g.dr hsp2
    refine ⟨sp2, _, rfl, .inl ⟨sqd upd_same, fun stp hstp => ?_⟩⟩
    have gK := fun o => Go.new (o := o) (gJ _).dr hstp
    have gIK := fun o => (gJ _).trans (gK o)
    have hkall : Kids HI (i0 :: l) (sv0 :: lv) := .cons (hi0.go ((gE _).trans gEg) gD.dr) hks
    -- allowed
    refine ⟨(Nat.le_of_ble_eq_true rfl), fun ap hap => ?_⟩
    have gL := fun o => Go.new (o := o) (gK _).dr hap
    have gIL := fun o => (gIK _).trans (gL o)
    have gCI := (gCF _).trans g
    have hpg : ∀ al, Okx xs B true al → al.dep ≤ 6 → al.sz ≤ 223 → PlG ⟨rows1, rows2, rows3, i0 :: l, al⟩ xs B := fun al ho hd hs =>
      ⟨hx, vs1, vs2, vs3, fun i hi => by
        rcases List.mem_cons.mp hi with h | h
        · rw [h]; exact ⟨ho0, hd0, hs0⟩
        · exact hok i h, ⟨ho, hd, hs⟩, ⟨by show rows1.length ≤ 16; omega, by show rows2.length ≤ 16; omega, by show rows3.length ≤ 16; omega⟩, by show (i0 :: l).length = rows1.length; rw [hrow, List.length_cons, List.length_cons, hll], by show rows1 ≠ []; rw [hrow]; simp⟩
    refine ⟨fun σ HM => ∃ (y : Option V) (av : V) (al : It), σ = [some (.ref d), some (.int c), some (.ref rp), some (.ref cp), some (.ref n), some (.ref tp), some v2, some v3, some (.int ((1 : Int) + (if decide (V.int dp = V.int 0) = true then (1 : Int) else 0))), some (.ref stp), y, some av] ∧ Go d (upd (upd HI sp2 (.lst ([sv0] ++ lv))) stp (.tup ([sv0] ++ lv))) HM ∧ ItemIn HM al av ∧ Okx xs B true al ∧ al.dep ≤ 6 ∧ al.sz ≤ 223, ?_, ?_⟩
    · refine ⟨_, rfl, d, _, rfl, (gL _).dr, (by decide), fun u HM gM u0 u1 => ?_⟩
      refine ⟨rfl, _, rfl, ?_⟩
      have hlit : ItemIn HM (.lit true) (.ref ap) := (ItemIn.lit (b := true) upd_same).go gM (gL _).dr
      refine ite2 (fun z => ?_) (fun z => ?_)
      · have kcM := ((kc9.go (g9B.trans gC)).go gCI).go ((gIL _).trans gM)
        have knM := (knC.go gCI).go ((gIL _).trans gM)
        refine ⟨_, rfl, _, rfl, _, rfl, _, _, _, _, rfl, rfl, kcM.now, atI0, _, rfl, _, _, _, _, rfl, rfl, kcM.now, atI1, _, _, rfl, rfl, _, rfl, _, _, rfl, knM.now, fun p5 hp5 => ?_⟩
        have gN := fun o => Go.new (o := o) gM.dr hp5
        obtain ⟨ys5, ec5, hs5, hl5, _⟩ := cut_map xs none (some (ca + cb))
        refine ⟨_, rfl, _, rfl, d, p5, ys5, c, ((1 : Int) + (if decide (V.int dp = V.int 0) = true then (1 : Int) else 0)), rfl, (gN _).dr, .of (new_ne gM.dr hp5) (by rw [upd_same]; exact congrArg (fun z => some (HO.lst z)) ec5), by omega, hdeep2, fun av al HO gO hal hao had has => ?_⟩
        exact ⟨none, av, al, rfl, (gL _).trans (gM.trans ((gN _).trans gO)), hal, okx_mono hs5 hao, had, has⟩
      · exact ⟨none, _, .lit true, rfl, (gL _).trans gM, hlit, .lit, by rw [It.dep]; decide, by rw [It.sz]; decide⟩
    · rintro σM HM ⟨y, av, al, rfl, gM, hal, hao, had, has⟩
      refine ⟨_, rfl, _, rfl, _, rfl, _, rfl, _, rfl, (Nat.le_of_ble_eq_true rfl), fun pp hpp => ?_⟩
      have gP := fun o => Go.new (o := o) gM.dr hpp
      have gIP := fun o => (gIK _).trans (gM.trans (gP o))
      have gCP := fun o => gCI.trans (gIP o)
      have gBP := fun o => gC.trans (gCP o)
      refine q _ ⟨rows1, rows2, rows3, i0 :: l, al⟩ xs _ (g4.trans (g5.trans (g57.trans (g79.trans (g9B.trans (gBP _)))))) ⟨pp, _, _, _, _, stp, _, rfl, upd_same, ?_, ?_, ?_, ((gP _).tup gM.dr (gM.tup (gK _).dr upd_same)), hkall.mono ((gIP _).tp g.dr), hal.go (gP _) gM.dr⟩ (hpg al hao had has)
      · exact (show RowsIn H7 rows1 (.ref tp) from ⟨tp, _, rfl, etp, hrs⟩).mono ((g79.trans (g9B.trans (gBP _))).tp g7.dr)
      · exact hr2.mono ((g9B.trans (gBP _)).tp g9.dr)
      · exact hr3.mono ((gBP _).tp gB.dr)
end
end NL

namespace NL
open PySem PySem.Spec PyProof.Rows L2
theorem rb_rw {r : Row} {xs : List Str} (hx : ∀ x ∈ xs, Nam x) (h : Rb r ∧ r.1 ∈ xs) : Rw r := by
  have q60 : big60 = 1000000000000000000000000000000000000000000000000000000000000 := rfl
  have e : (10 : Nat) ^ 61 = 10000000000000000000000000000000000000000000000000000000000000 := by decide
  have h1 := h.1.le
  have h2 := h.1.wd
  have h3 := h.1.bd
  exact ⟨(hx _ h.2).nw, by rw [e]; omega, by rw [e]; omega⟩
theorem ok1_of {xs : List Str} {b : Bool} {i : It} (hx : ∀ x ∈ xs, Nam x) (ho : Okx xs big60 b i) (hd : i.dep ≤ 12) (hs : i.sz ≤ 300) : Ok1 i :=
  ⟨xs, big60, b, ⟨ho, fun x h => (hx x h).nw, by rw [big60_eq]; exact Nat.lt_succ_self _, hd, by omega⟩, hs⟩
theorem PlG.ok {p : Pl} {xs : List Str} (h : PlG p xs big60) : PlOk p where
  v := fun r hr => rb_rw h.nm (h.v r hr)
  i := fun r hr => rb_rw h.nm (h.i r hr)
  n := fun r hr => rb_rw h.nm (h.n r hr)
  s := fun i hi => ok1_of h.nm (h.s i hi).1 (by have := (h.s i hi).2.1; omega) (by have := (h.s i hi).2.2; omega)
  a := ok1_of h.nm h.a.1 (by have := h.a.2.1; omega) (by have := h.a.2.2; omega)
  lv := by have := h.lv; omega
  ls := h.ls
  ne := h.ne
/-- tuple + tuple, whichever may be empty -/
theorem catA_of {K : PySem.W.Frag} {a b : Addr} {xs ys : List V} {H : Hp} {Q : VK} (ha : H a = some (.tup xs)) (hb : H b = some (.tup ys)) (hl : xs.length + ys.length ≤ 1000) (q : ∀ p H', Same H H' → H' p = some (.tup (xs ++ ys)) → Q (.ref p) H') : rCatA K (.ref a) (.ref b) H Q := by
  refine ⟨a, b, xs, ys, rfl, rfl, sqt ha, sqt hb, Nat.le_of_lt (small1000 hl), fun h => ?_, fun _ h => ?_, fun _ _ p hp => ?_⟩
  · exact q b H (Same.refl H) (by rw [h, List.nil_append]; exact hb)
  · exact q a H (Same.refl H) (by rw [h, List.append_nil]; exact ha)
  · exact q p _ (same_new hp _) upd_same
theorem RowsAt.take {H : Hp} {l : List Row} {vs : List V} (h : RowsAt H l vs) (n : Nat) : RowsAt H (l.take n) (vs.take n) := by
  refine ⟨by rw [List.length_take, List.length_take, h.1], fun k r x e f => ?_⟩
  rw [List.getElem?_take] at e f
  by_cases hk : k < n
  · rw [if_pos hk] at e f
    exact h.2 k r x e f
  · rw [if_neg hk] at e
    cases e
theorem RowsAt.drop {H : Hp} {l : List Row} {vs : List V} (h : RowsAt H l vs) (n : Nat) : RowsAt H (l.drop n) (vs.drop n) := by
  refine ⟨by rw [List.length_drop, List.length_drop, h.1], fun k r x e f => ?_⟩
  rw [List.getElem?_drop] at e f
  exact h.2 _ r x e f
theorem rows1 {H : Hp} {r : Row} {x : V} (h : RowIn H r x) : RowsAt H [r] [x] := RowsAt.snoc rows0 h
theorem cut_to {xs : List V} {k : Int} (h0 : 0 ≤ k) (h1 : k < xs.length) : cutV xs none (some k) = xs.take k.toNat ∧ ¬ (HT.sIx xs.length 0 none = 0 ∧ HT.sIx xs.length xs.length (some k) = xs.length) := by
  have e : HT.sIx xs.length xs.length (some k) = min k.toNat xs.length := by
    show (if k < 0 then (k + (xs.length : Int)).toNat else min k.toNat xs.length) = _
    rw [if_neg (by omega)]
  constructor
  · unfold cutV
    rw [HT.sIx_none, e, List.drop_zero, Nat.sub_zero]
    congr 1
    omega
  · rw [e]
    omega
theorem cut_from {xs : List V} {k : Int} (h0 : 0 ≤ k) (h1 : k < xs.length) : cutV xs (some (k + 1)) none = xs.drop (k.toNat + 1) ∧ ¬ (HT.sIx xs.length 0 (some (k + 1)) = 0 ∧ HT.sIx xs.length xs.length none = xs.length) := by
  have e : HT.sIx xs.length 0 (some (k + 1)) = k.toNat + 1 := by
    show (if k + 1 < 0 then (k + 1 + (xs.length : Int)).toNat else min (k + 1).toNat xs.length) = _
    rw [if_neg (by omega)]
    omega
  constructor
  · unfold cutV
    rw [HT.sIx_none, e]
    refine List.take_of_length_le ?_
    rw [List.length_drop]
    omega
  · rw [e]
    omega
section
variable {P : Program} {w : World} {K : PySem.W.Frag} {mg : Str → Option Value} {base : Heap}
def spWide : Sp := fun vs H Q _ => ∃ (d : Addr) (v : V) (p : Pl) (xs : List Str) (c : Int), vs = [.ref d, v, .int c] ∧ Dr H d ∧ PlIn H p v ∧ PlG p xs big60 ∧ c.natAbs + 6 ≤ big60 ∧
  ∀ v' p' H', Go d H H' → PlIn H' p' v' → PlOk p' → Q v' H'
theorem ok_law_wide (T : Txt K mg) : FnOk P w K mg base CX0 2 T.a_law_wide T.d_law_wide P_law_wide spWide := by
  have q60 : big60 = 1000000000000000000000000000000000000000000000000000000000000 := rfl
  have G_law_take := ok_law_take (P := P) (w := w) (base := base) T
  refine T.F_law_wide.ok sc_law_wide (fun vs H Q E h => ?_) (fun cdv A outer s H vs Q E hr h => ?_)
  · obtain ⟨d, v, p, xs, c, rfl, _⟩ := h
    rfl
  obtain ⟨d, v, p, xs, c, rfl, hD, hpl, hg, hc, q⟩ := h
  obtain ⟨a, v1, v2, v3, vl, st, sx, rfl, e0, ⟨t1, x1, rfl, et1, hr1⟩, ⟨t2, x2, rfl, et2, hr2⟩, ⟨t3, x3, rfl, et3, hr3⟩, e4, hk, hal⟩ := id hpl
  have hlv := hg.lv
  have hpos : 0 < x1.length := by
    rw [hr1.1]
    exact List.length_pos_iff.mpr hg.ne
  refine ⟨_, (pss_cons (ps_set (i := 3) sc_law_wide.nd rfl (Or.inl rfl) (pe_call G_law_take (hr.mono (by omega)) (by rfl) T.m_law_take T.F_law_take.kp T.b_law_take .nil pass0 (pa_cons (pv 0) (pa_cons (pe_callB call_len_seq (by rfl) T.z_len PySem.boot_len (pa_cons (pe_ix ix_tup (pv 1) pe_int (fun _ _ => rfl)) pa_nil)) pa_nil))))
    (pss_cons (ps_if (pt_cmpR op_gt (pe_call G_law_take (hr.mono (by omega)) (by rfl) T.m_law_take T.F_law_take.kp T.b_law_take .nil pass0 (pa_cons (pv 0) (pa_cons pe_int pa_nil))) pe_int (nomark _))
    (pss_one (ps_ret (pv 1)))
    pss_nil)
    (pss_cons (ps_set (i := 4) sc_law_wide.nd rfl (Or.inl rfl) (pe_ix ix_tup (pe_ix ix_tup (pv 1) pe_int (fun _ _ => rfl)) (pv 3) (fun _ _ => rfl)))
    (pss_cons (ps_set (i := 5) sc_law_wide.nd rfl (Or.inl rfl) (pe_op op_add pe_int (pe_op op_mod (pe_callB (call_abs) (by rfl) T.z_abs (by decide +kernel) (pa_cons (pv 2) pa_nil)) (pe_op op_pow pe_int pe_int))))
    (pss_cons (ps_set (i := 6) sc_law_wide.nd rfl (Or.inl rfl) (pe_tup (pa_cons (pe_ix ix_tup (pv 4) pe_int (fun _ _ => rfl)) (pa_cons (pe_ix ix_tup (pv 4) pe_int (fun _ _ => rfl)) (pa_cons (pe_op op_add (pe_ix ix_tup (pv 4) pe_int (fun _ _ => rfl)) (pv 5)) pa_nil)))))
    (C8.pss_cut (ps_if (pt_cmpR op_gt (pe_ix ix_tup (pv 4) pe_int (fun _ _ => rfl)) pe_int (nomark _))
    (pss_one (ps_set (i := 6) sc_law_wide.nd rfl (Or.inl rfl) (pe_tup (pa_cons (pe_ix ix_tup (pv 4) pe_int (fun _ _ => rfl)) (pa_cons (pe_op op_sub (pe_ix ix_tup (pv 4) pe_int (fun _ _ => rfl)) (pv 5)) (pa_cons (pe_ix ix_tup (pv 4) pe_int (fun _ _ => rfl)) pa_nil))))))
    pss_nil)
    (pss_cons (ps_set (i := 7) sc_law_wide.nd rfl (Or.inr rfl) pe_str)
    (pss_cons (ps_for  PassesOwn.never rfl (pi_tup (pe_op op_catA (pe_op op_catA (pe_ix ix_tup (pv 1) pe_int (fun _ _ => rfl)) (pe_ix ix_tup (pv 1) pe_int (fun _ _ => rfl))) (pe_ix ix_tup (pv 1) pe_int (fun _ _ => rfl)))) (pg_name (i := 8) sc_law_wide.nd rfl (Or.inl rfl))
    (pss_one (ps_if (pt_cmpR op_ge (pe_callB call_len_str (by rfl) T.z_len PySem.boot_len (pa_cons (pe_ix ix_tup (pv 8) pe_int (fun _ _ => rfl)) pa_nil)) (pe_callB call_len_str (by rfl) T.z_len PySem.boot_len (pa_cons (pv 7) pa_nil)) (nomark _))
    (pss_one (ps_set (i := 7) sc_law_wide.nd rfl (Or.inr rfl) (pe_op op_add_str (pe_ix ix_tup (pv 8) pe_int (fun _ _ => rfl)) pe_str)))
    pss_nil)))
    (pss_cons (ps_setLc (i := 9) (own := [("k", 11)]) (g := (gName 11)) (tt := tYes) rfl sc_law_wide.nd rfl rfl (sw_true rfl rfl rfl (by decide +kernel)) (pi_range1 (by rfl) T.z_range (pa_cons pe_int pa_nil)) (blkOk_by (N := N_law_wide) (sc := defScope s_law_wide) (by decide +kernel)) (fun _ _ _ _ _ => (pg_name (i := 11) sc_law_wide.nd rfl (Or.inr rfl))) (fun _ _ _ _ _ => pts_nil) (fun _ _ _ _ _ => (pe_callTy (call_tuple_ofK (K := K) rfl) (by rfl) T.z_tuple (by decide +kernel) (pa_cons (pe_lc (own := [("j", 10)]) (g := (gName 10)) (tt := tYes) rfl sc_law_wide.nd (pi_range2 (by rfl) T.z_range (pa_cons pe_int (pa_cons pe_int pa_nil))) (blkOk_by (by rfl)) (fun _ _ _ _ _ => (pg_name (i := 10) sc_law_wide.nd rfl (Or.inl rfl))) (fun _ _ _ _ _ => pts_nil) (fun _ _ _ _ _ => (pe_tup (pa_cons (pe_op op_add_str (pv 7) (pe_op op_mulS (pe_ix ix_str pe_str (pv 11) (fun _ _ => rfl)) (pv 10))) (pa_cons (pe_un un_neg (pv 10)) (pa_cons (pv 11) pa_nil)))))) pa_nil))))
    (pss_cons (ps_set (i := 12) sc_law_wide.nd rfl (Or.inl rfl) (pe_op op_catA (pe_ix ix_tup (pv 1) pe_int (fun _ _ => rfl)) (pe_callTy call_tuple_of (by rfl) T.z_tuple (by decide +kernel) (pa_cons (pe_lc (own := [("row", 4)]) (g := (gName 4)) (tt := tYes) rfl sc_law_wide.nd (pi_tup (pe_ix ix_list (pv 9) pe_int (fun _ _ => rfl))) (blkOk_by (N := N_law_wide) (sc := defScope s_law_wide) (by decide +kernel)) (fun _ _ _ _ _ => (pg_name (i := 4) sc_law_wide.nd rfl (Or.inl rfl))) (fun _ _ _ _ _ => pts_nil) (fun _ _ _ _ _ => (pe_tup (pa_cons pe_str (pa_cons (pe_ix (ix_tupK (K := K) rfl) (pv 4) pe_int (fun _ _ => rfl)) pa_nil))))) pa_nil))))
    (pss_one (ps_ret (pe_tup (pa_cons (pe_op op_catA (pe_op op_catA (pe_op op_catA (pe_slice sl_tup (pe_ix ix_tup (pv 1) pe_int (fun _ _ => rfl)) po_none (po_some (pv 3))) (pe_tup (pa_cons (pv 6) pa_nil))) (pe_slice sl_tup (pe_ix ix_tup (pv 1) pe_int (fun _ _ => rfl)) (po_some (pe_op op_add (pv 3) pe_int)) po_none)) (pe_ix ix_list (pv 9) pe_int (fun _ _ => rfl))) (pa_cons (pe_op op_catA (pe_ix ix_tup (pv 1) pe_int (fun _ _ => rfl)) (pe_ix ix_list (pv 9) pe_int (fun _ _ => rfl))) (pa_cons (pe_op op_catA (pe_ix ix_tup (pv 1) pe_int (fun _ _ => rfl)) (pe_ix ix_list (pv 9) pe_int (fun _ _ => rfl))) (pa_cons (pv 12) (pa_cons (pe_ix ix_tup (pv 1) pe_int (fun _ _ => rfl)) pa_nil)))))))))))))))))), ?_⟩
  refine ⟨_, rfl, _, rfl, a, _, 0, _, rfl, rfl, sqt e0, atI0, t1, _, rfl, .inr (sqt et1), d, _, rfl, hD, by omega, fun at_ H1 g1 a0 a1 => ?_⟩
  refine ⟨_, rfl, d, _, rfl, g1.dr, (by decide), fun u H2 g2 u0 u1 => ?_⟩
  have g12 := g1.trans g2
  refine ⟨_, _, rfl, rfl, _, rfl, ?_⟩
  refine ite2 (fun z => ?_) (fun z => ?_)
  · exact ⟨_, rfl, q _ p H2 g12 (hpl.mono (g12.tp hD)) hg.ok⟩
  have f0 := g12.tup hD e0
  have f1 := g12.tup hD et1
  -- row
  have ha : at_.toNat < x1.length := by omega
  obtain ⟨r, hr, ⟨rq, erq, hrq⟩, hrm⟩ := hr1.get (List.getElem?_eq_getElem ha)
  have hat : atI x1 at_ = some (.ref rq) := by
    have ek : at_ = ((at_.toNat : Nat) : Int) := by omega
    rw [ek]
    exact atI_nat (by rw [← erq]; exact List.getElem?_eq_getElem ha)
  refine ⟨_, rfl, a, _, 0, _, rfl, rfl, sqt f0, atI0, _, rfl, t1, _, _, _, rfl, rfl, sqt f1, hat, ?_⟩
  -- far
  have p50 : (10 : Int) ^ (Int.toNat 50) = 100000000000000000000000000000000000000000000000000 := by decide
  refine ⟨_, rfl, _, rfl, _, _, rfl, rfl, ⟨by decide, by decide, by decide⟩, _, _, rfl, rfl, (by show (0 : Int) < 10 ^ (Int.toNat 50); decide), _, _, rfl, rfl, ?_⟩
  have m0 := Int.emod_nonneg (if c < 0 then -c else c) (show (10 : Int) ^ (Int.toNat 50) ≠ 0 by decide)
  have m1 := Int.emod_lt_of_pos (if c < 0 then -c else c) (show (0 : Int) < 10 ^ (Int.toNat 50) by decide)
  have fq := g12.tup hD hrq
  have hrb := (hg.v r hrm).1
  have b1 := hrb.le
  have b2 := hrb.wd
  have b3 := hrb.bd
  have hnr := hg.nm _ (hg.v r hrm).2
  refine ⟨_, rfl, rq, _, _, _, rfl, rfl, sqt fq, atI0, _, rfl, rq, _, _, _, rfl, rfl, sqt fq, atI1, _, rfl, rq, _, _, _, rfl, rfl, sqt fq, atI2, _, rfl, _, _, rfl, rfl, (Nat.le_of_ble_eq_true rfl), fun wq hwq => ?_⟩
  have gw := fun o => Go.new (o := o) g2.dr hwq
  have e61 : (10 : Nat) ^ 61 = 10000000000000000000000000000000000000000000000000000000000000 := by decide
  refine ⟨fun σ H4 => ∃ (wr : Row) (wq : Addr) (fr : Int), σ = [some (.ref d), some (.ref a), some (.int c), some (.int at_), some (.ref rq), some (.int fr), some (.ref wq), none, none, none, none, none, none] ∧ Go d H2 H4 ∧ H4 wq = some (.tup [.str wr.1, .int wr.2.1, .int wr.2.2]) ∧ Rw wr, ?_, ?_⟩
  · refine ⟨_, rfl, rq, _, _, _, rfl, rfl, sqt ((gw _).tup g2.dr fq), atI1, _, _, rfl, rfl, _, rfl, ?_⟩
    refine ite2 (fun z => ?_) (fun z => ?_)
    · have hz : 0 < r.2.1 := of_decide_eq_true z
      have fq2 := fun o => (gw o).tup g2.dr fq
      refine ⟨_, rfl, rq, _, _, _, rfl, rfl, sqt (fq2 _), atI0, _, rfl, rq, _, _, _, rfl, rfl, sqt (fq2 _), atI1, _, rfl, _, _, rfl, rfl, _, rfl, rq, _, _, _, rfl, rfl, sqt (fq2 _), atI2, (Nat.le_of_ble_eq_true rfl), fun wq2 hwq2 => ?_⟩
      exact ⟨(r.1, r.2.1 - (300 + (if c < 0 then -c else c) % 10 ^ (Int.toNat 50)), r.2.2), wq2, _, rfl, (gw _).trans (.new (gw _).dr hwq2), upd_same, ⟨hnr.nw, by show Int.natAbs (r.2.1 - _) < _; rw [e61]; omega, by show Int.natAbs r.2.2 < _; rw [e61]; omega⟩⟩
    · have hz : ¬ 0 < r.2.1 := fun h => z (decide_eq_true h)
      exact ⟨(r.1, r.2.1, r.2.2 + (300 + (if c < 0 then -c else c) % 10 ^ (Int.toNat 50))), wq, _, rfl, gw _, upd_same, ⟨hnr.nw, by show Int.natAbs r.2.1 < _; rw [e61]; omega, by show Int.natAbs (r.2.2 + _) < _; rw [e61]; omega⟩⟩
  rintro σ4 H4 ⟨wr, wq, fr, rfl, g4, ewq, hwr⟩
  have g14 := g12.trans g4
  have h0 := g14.tup hD e0
  have h1 := g14.tup hD et1
  have h2 := g14.tup hD et2
  have h3 := g14.tup hD et3
  have h4 := g14.tup hD e4
  have t14 := g14.tp hD
  have hl1 := hr1.1
  have hl2 := hr2.1
  have hl3 := hr3.1
  -- strange
  refine ⟨_, rfl, a, _, 0, _, rfl, rfl, sqt h0, atI0, _, rfl, a, _, 1, _, rfl, rfl, sqt h0, atI1, ?_⟩
  refine catA_of h1 h2 (by omega) fun q1 H5 s5 e5 => ?_
  refine ⟨_, rfl, a, _, 2, _, rfl, rfl, sqt (s5 _ _ h0), atI2, ?_⟩
  refine catA_of e5 (s5 _ _ h3) (by rw [List.length_append]; omega) fun q2 H6 s6 e6 => ?_
  have s46 := s5.trans s6
  have hall : RowsAt H6 ((p.vs ++ p.ins) ++ p.ns) ((x1 ++ x2) ++ x3) := (((hr1.mono t14).app (hr2.mono t14)).app (hr3.mono t14)).mono (Tp.same s46)
  refine ⟨q2, rfl, ⟨_, sqt e6⟩, ?_⟩
  refine for_tup (K := K) (a := q2) (xs := (x1 ++ x2) ++ x3) (fun (j : Nat) (σ : L2.St) (H' : Hp) => ∃ (S : Str) (y8 : Option V), σ = [some (.ref d), some (.ref a), some (.int c), some (.int at_), some (.ref rq), some (.int fr), some (.ref wq), some (.str S), y8, none, none, none, none] ∧ H' = H6 ∧ Wd S ∧ S.length ≤ 201) ?_ ?_ ?_ ?_
  · exact ⟨_, none, rfl, rfl, by decide +kernel, by decide +kernel⟩
  · rintro j σ H' _ ⟨S, y8, rfl, rfl, _, _⟩
    exact sqt e6
  · rintro j x σ H' hx ⟨S, y8, rfl, rfl, hw, hl⟩
    obtain ⟨nr, hnr1, ⟨nq, rfl, hnq⟩, hnm⟩ := hall.get hx
    have hnn : Nam nr.1 := by
      simp only [List.mem_append] at hnm
      rcases hnm with (h | h) | h
      · exact hg.nm _ (hg.v nr h).2
      · exact hg.nm _ (hg.i nr h).2
      · exact hg.nm _ (hg.n nr h).2
    have hq1 : Wd ("q" : Str) ∧ ("q" : Str).length = 1 := by decide +kernel
    refine ⟨_, rfl, nq, _, 0, _, rfl, rfl, sqt hnq, atI0, _, rfl, big (by have := hnn.len; omega), _, rfl, _, rfl, big (by omega), _, _, rfl, rfl, _, rfl, ?_⟩
    refine ite2 (fun z => ?_) (fun z => ?_)
    · refine ⟨_, rfl, nq, _, 0, _, rfl, rfl, sqt hnq, atI0, _, _, rfl, rfl, ?_, _, _, rfl, rfl, hnn.wd.app hq1.1, ?_⟩
      · rw [hq1.2]; exact big (by have := hnn.len; omega)
      · rw [len_app, hq1.2]; have := hnn.len; omega
    · exact ⟨S, _, rfl, rfl, hw, hl⟩
  rintro σ6 H' ⟨S, y8, rfl, eH, hw, hl⟩
  obtain rfl := eH.symm
  -- more
  refine ⟨3, rfl, by decide, by decide, fun D hDn => ?_⟩
  refine lc_range (lo := 0) (n := 3) (fun (k : Nat) (H' : Hp) => ∃ vs : List V, Same H6 H' ∧ H' D = some (.lst vs) ∧ vs.length = k ∧ ∀ v ∈ vs, ∃ rows, RowsIn H' rows v ∧ rows.length = 6 ∧ ∀ r ∈ rows, Rw r) ?_ ?_ ?_
  · exact ⟨[], same_new hDn _, upd_same, rfl, fun v h => by cases h⟩
  · rintro k H7 hk3 ⟨vs, s7, e7, hvl, hvs⟩
    refine ⟨rfl, yes_if ?_⟩
    refine ⟨1, 7, rfl, ⟨by decide, by decide, by decide, by decide⟩, fun D2 hD2 => ?_⟩
    have nDD : D ≠ D2 := ne_of_none e7 hD2
    refine lc_range (lo := 1) (n := 6) (fun (j : Nat) (H' : Hp) => ∃ (rows : List Row) (rx : List V), Same H7 H' ∧ H' D2 = some (.lst rx) ∧ RowsAt H' rows rx ∧ rows.length = j ∧ ∀ r ∈ rows, Rw r) ?_ ?_ ?_
    · exact ⟨[], [], same_new hD2 _, upd_same, rows0, rfl, fun r h => by cases h⟩
    · rintro j H8 hj6 ⟨rows, rx, s8, e8, hrs, hrl, hrw⟩
      refine ⟨rfl, yes_if ?_⟩
      have habc : ∀ i : Nat, i < 3 → ∃ ch, atI ("abc" : Str).cps.toList (0 + (i : Int)) = some ch ∧ 97 ≤ ch ∧ ch ≤ 122 := by
        intro i hi
        rw [Int.zero_add]
        match i, hi with
        | 0, _ => exact ⟨97, by decide +kernel, by decide⟩
        | 1, _ => exact ⟨98, by decide +kernel, by decide⟩
        | 2, _ => exact ⟨99, by decide +kernel, by decide⟩
      obtain ⟨ch, hch, hcb⟩ := habc k hk3
      have hw1 : Wd (⟨#[ch]⟩ : Str) := fun c h => by
        have : c = ch := by simpa using h
        rw [this]
        exact hcb
      have hj7 : (0 : Int) ≤ 1 + (j : Int) ∧ 1 + (j : Int) ≤ 6 := by omega
      refine ⟨_, rfl, _, rfl, _, _, ch, rfl, rfl, (by decide +kernel), hch, _, rfl, _, _, rfl, rfl, (by show 1 ≤ 16; decide), hj7.1, by omega, fun hm => ?_⟩
      have hm2 : (Txt.mul (⟨#[ch]⟩ : Str) (1 + (j : Int))).length ≤ 6 := by
        rw [hm]
        show 1 * _ ≤ 6
        omega
      refine ⟨_, _, rfl, rfl, big (by omega), _, rfl, _, rfl, _, rfl, (Nat.le_of_ble_eq_true rfl), fun p9 hp9 => ?_⟩
      have s9 := fun o => same_new hp9 o
      have e9 := fun o => s9 o _ _ e8
      have t9 := fun o o2 => tp_put (o := o) (e9 o2)
      refine ⟨rx, e9 _, ?_, rows ++ [(S ++ Txt.mul (⟨#[ch]⟩ : Str) (1 + (j : Int)), -(1 + (j : Int)), 0 + (k : Int))], rx ++ [.ref p9], same_put (s8.trans (s9 _)) hD2, upd_same, ?_, ?_, ?_⟩
      · rw [hrs.1, hrl]; exact small1000 (by omega)
      · exact ((hrs.mono (Tp.same (s9 _))).mono (t9 _ _)).snoc ⟨p9, rfl, t9 _ _ _ _ upd_same⟩
      · rw [List.length_append, hrl] <;> rfl
      · intro r hr
        rcases List.mem_append.mp hr with h | h
        · exact hrw r h
        · rw [List.mem_singleton.mp h]
          exact ⟨⟨hw.app (mul_wd hw1 _), by show (S ++ _).length ≤ 250; rw [len_app]; omega⟩, by show Int.natAbs (-(1 + (j : Int))) < _; rw [e61]; omega, by show Int.natAbs (0 + (k : Int)) < _; rw [e61]; omega⟩
    · rintro H8 ⟨rows, rx, s8, e8, hrs, hrl, hrw⟩
      refine ⟨D2, rx, rfl, .inl ⟨sqd e8, fun tp htp => ?_⟩⟩
      have s9 := fun o => s8.trans (same_new htp o)
      have e9 := fun o => s9 o _ _ e7
      have t9 := fun o o2 => tp_put (o := o) (e9 o2)
      refine ⟨vs, e9 _, ?_, vs ++ [.ref tp], same_put (s7.trans (s9 _)) hDn, upd_same, ?_, ?_⟩
      · rw [hvl]; exact small1000 (by omega)
      · rw [List.length_append, hvl] <;> rfl
      · intro v hv
        rcases List.mem_append.mp hv with h | h
        · obtain ⟨rows', h1', h2', h3'⟩ := hvs v h
          exact ⟨rows', (h1'.mono (Tp.same (s9 _))).mono (t9 _ _), h2', h3'⟩
        · rw [List.mem_singleton.mp h]
          exact ⟨rows, ⟨tp, rx, rfl, t9 _ _ _ _ upd_same, (hrs.mono (Tp.same (same_new htp _))).mono (t9 _ _)⟩, hrl, hrw⟩
  rintro H7 ⟨vs, s7, e7, hvl, hvs⟩
  obtain ⟨w0, w1, w2, rfl⟩ : ∃ w0 w1 w2, vs = [w0, w1, w2] := by
    match vs, hvl with
    | [x, y, z], _ => exact ⟨x, y, z, rfl⟩
  obtain ⟨m0r, ⟨mp0, mx0, rfl, em0, hm0⟩, hm0l, hm0w⟩ := hvs w0 (by simp)
  obtain ⟨m1r, ⟨mp1, mx1, rfl, em1, hm1⟩, hm1l, hm1w⟩ := hvs w1 (by simp)
  obtain ⟨m2r, ⟨mp2, mx2, rfl, em2, hm2⟩, hm2l, hm2w⟩ := hvs w2 (by simp)
  have s47 := s46.trans s7
  -- steps
  refine ⟨_, rfl, a, _, 3, _, rfl, rfl, sqt (s47 _ _ h0), atI_nat (j := 3) rfl, ?_⟩
  refine ⟨_, rfl, D, _, 0, _, rfl, rfl, sqd e7, atI0, mp0, rfl, ⟨_, sqt em0⟩, fun D3 hD3 => ?_⟩
  have nDD3 : D ≠ D3 := ne_of_none e7 hD3
  refine lc_tup (K := K) (a := mp0) (xs := mx0) (fun (j : Nat) (H' : Hp) => ∃ lv : List V, Same H7 H' ∧ H' D3 = some (.lst lv) ∧ Kids H' ((m0r.take j).map fun r => .name r.1) lv) ?_ ?_ ?_ ?_
  · exact ⟨[], same_new hD3 _, upd_same, kids0⟩
  · rintro j H' _ ⟨lv, s8, _⟩
    exact sqt (s8 _ _ em0)
  · rintro j x H8 hx ⟨lv, s8, e8, hks⟩
    obtain ⟨nr, hnr1, ⟨nq, rfl, hnq⟩, hnm⟩ := hm0.get hx
    refine ⟨rfl, yes_if ?_⟩
    refine ⟨_, rfl, nq, _, 0, _, rfl, rfl, sqt (s8 _ _ hnq), atI0, (Nat.le_of_ble_eq_true rfl), fun p9 hp9 => ?_⟩
    have s9 := fun o => same_new hp9 o
    have e9 := fun o => s9 o _ _ e8
    have t9 := fun o o2 => tp_put (o := o) (e9 o2)
    refine ⟨lv, e9 _, ?_, lv ++ [.ref p9], same_put (s8.trans (s9 _)) hD3, upd_same, ?_⟩
    · rw [hks.1, List.length_map, List.length_take]; exact small1000 (by omega)
    · rw [List.take_add_one, hnr1, List.map_append]
      exact ((hks.mono (Tp.same (s9 _))).mono (t9 _ _)).snoc (.name (t9 _ _ _ _ upd_same))
  rintro H8 ⟨lv, s8, e8, hks⟩
  rw [hm0.1, List.take_length] at hks
  refine ⟨D3, lv, rfl, .inl ⟨sqd e8, fun stp hstp => ?_⟩⟩
  have s9 := fun o => s8.trans (same_new hstp o)
  have s49 := fun o => s47.trans (s9 o)
  have hlst := hg.ls
  have hkl := hk.1
  have hksl := hks.1
  rw [List.length_map] at hksl
  refine catA_of (s49 _ _ _ h4) upd_same (by omega) fun sq HA sA eA => ?_
  have s4A := (s49 _).trans sA
  have s7A := (s9 _).trans sA
  -- the parts
  obtain ⟨ct1, ct2⟩ := cut_to (xs := x1) a0 a1
  obtain ⟨cf1, cf2⟩ := cut_from (xs := x1) a0 a1
  refine ⟨_, rfl, a, _, 0, _, rfl, rfl, sqt (s4A _ _ h0), atI0, _, rfl, at_, rfl, t1, x1, rfl, sqt (s4A _ _ h1), ct2, fun pB hpB => ?_⟩
  refine ⟨_, rfl, (Nat.le_of_ble_eq_true rfl), fun pC hpC => ?_⟩
  have sB := fun o => same_new hpB o
  have sC := fun o => (sB _).trans (same_new hpC o)
  refine catA_of (same_new hpC _ _ _ upd_same) upd_same (by rw [ct1, List.length_take, List.length_singleton]; omega) fun pD HD sD eD => ?_
  have s4D := s4A.trans ((sC _).trans sD)
  refine ⟨_, rfl, a, _, 0, _, rfl, rfl, sqt (s4D _ _ h0), atI0, _, rfl, _, _, rfl, rfl, _, rfl, t1, x1, rfl, sqt (s4D _ _ h1), cf2, fun pE hpE => ?_⟩
  have sE := fun o => same_new hpE o
  refine catA_of (sE _ _ _ eD) upd_same (by rw [ct1, List.length_append, List.length_take, List.length_singleton, show cutV x1 (some ((fun i j => i + j) at_ 1)) none = x1.drop (at_.toNat + 1) from cf1, List.length_drop]; omega) fun pF HF sF eF => ?_
  have s7F := s7A.trans ((sC _).trans (sD.trans ((sE _).trans sF)))
  have s4F := s4D.trans ((sE _).trans sF)
  have hx1l : (cutV x1 none (some at_) ++ [V.ref wq] ++ cutV x1 (some (at_ + 1)) none).length ≤ 20 := by
    rw [ct1, cf1, List.length_append, List.length_append, List.length_take, List.length_drop, List.length_singleton]
    omega
  refine ⟨_, rfl, D, _, 0, _, rfl, rfl, sqd (s7F _ _ e7), atI0, ?_⟩
  refine catA_of eF (s7F _ _ em0) (by have h := hx1l; have h6 := hm0.1; exact Nat.le_trans (Nat.add_le_add h (Nat.le_of_eq (h6.trans hm0l))) (by decide)) fun pG HG sG eG => ?_
  have s7G := s7F.trans sG
  have s4G := s4F.trans sG
  refine ⟨_, rfl, a, _, 1, _, rfl, rfl, sqt (s4G _ _ h0), atI1, _, rfl, D, _, 1, _, rfl, rfl, sqd (s7G _ _ e7), atI1, ?_⟩
  refine catA_of (s4G _ _ h2) (s7G _ _ em1) (by have := hm1.1; omega) fun pH HH sH eH => ?_
  have s7H := s7G.trans sH
  have s4H := s4G.trans sH
  refine ⟨_, rfl, a, _, 2, _, rfl, rfl, sqt (s4H _ _ h0), atI2, _, rfl, D, _, 2, _, rfl, rfl, sqd (s7H _ _ e7), atI2, ?_⟩
  refine catA_of (s4H _ _ h3) (s7H _ _ em2) (by have := hm2.1; omega) fun pI HI sI eI => ?_
  have s7I := s7H.trans sI
  have s4I := s4H.trans sI
  refine ⟨_, rfl, _, rfl, a, _, 4, _, rfl, rfl, sqt (s4I _ _ h0), atI_nat (j := 4) rfl, (Nat.le_of_ble_eq_true rfl), fun pJ hpJ => ?_⟩
  have sJ := fun o => same_new hpJ o
  have s7J := fun o => s7I.trans (sJ o)
  have s4J := fun o => s4I.trans (sJ o)
  have sAJ := fun o => (sC _).trans (sD.trans ((sE _).trans (sF.trans (sG.trans (sH.trans (sI.trans (sJ o)))))))
  have hvrows : RowsAt (upd HI pJ (.tup [.ref pG, .ref pH, .ref pI, .ref sq, vl])) (((p.vs.take at_.toNat ++ [wr]) ++ p.vs.drop (at_.toNat + 1)) ++ m0r) ((cutV x1 none (some at_) ++ [V.ref wq] ++ cutV x1 (some (at_ + 1)) none) ++ mx0) := by
    rw [ct1, cf1]
    have hb := fun o => hr1.mono ((t14.trans (Tp.same (s4J o))))
    exact ((((hb _).take _).app (rows1 ⟨wq, rfl, (s4J _) _ _ ewq⟩)).app ((hb _).drop _)).app (hm0.mono (Tp.same (s7J _)))
  refine q _ ⟨((p.vs.take at_.toNat ++ [wr]) ++ p.vs.drop (at_.toNat + 1)) ++ m0r, p.ins ++ m1r, p.ns ++ m2r, p.st ++ m0r.map fun r => .name r.1, p.al⟩ _ (g14.trans (Go.same g14.dr (s4J _))) ⟨pJ, _, _, _, _, sq, _, rfl, upd_same, ⟨pG, _, rfl, ((sH.trans (sI.trans (sJ _))) _ _ eG), hvrows⟩, ⟨pH, _, rfl, ((sI.trans (sJ _)) _ _ eH), (hr2.mono (t14.trans (Tp.same (s4J _)))).app (hm1.mono (Tp.same (s7J _)))⟩, ⟨pI, _, rfl, (sJ _ _ _ eI), (hr3.mono (t14.trans (Tp.same (s4J _)))).app (hm2.mono (Tp.same (s7J _)))⟩, (sAJ _ _ _ eA), ?_, hal.mono (t14.trans (Tp.same (s4J _)))⟩ ?_
  · exact (hk.mono (t14.trans (Tp.same (s4J _)))).app (hks.mono (Tp.same ((same_new hstp _).trans (sA.trans (sAJ _)))))
  · have hok := hg.ok
    have hat2 : at_.toNat < p.vs.length := by omega
    refine ⟨?_, ?_, ?_, ?_, hok.a, ?_, ?_, ?_⟩
    · intro z hz
      simp only [List.mem_append, List.mem_singleton] at hz
      rcases hz with ((h | h) | h) | h
      · exact hok.v z (List.mem_of_mem_take h)
      · rw [h]; exact hwr
      · exact hok.v z (List.mem_of_mem_drop h)
      · exact hm0w z h
    · intro z hz
      rcases List.mem_append.mp hz with h | h
      · exact hok.i z h
      · exact hm1w z h
    · intro z hz
      rcases List.mem_append.mp hz with h | h
      · exact hok.n z h
      · exact hm2w z h
    · intro z hz
      rcases List.mem_append.mp hz with h | h
      · exact hok.s z h
      · obtain ⟨r', hr', rfl⟩ := List.mem_map.mp h
        have hw := (hm0w r' hr').nm
        exact ⟨[r'.1], big60, false, ⟨.name List.mem_cons_self, fun x hx => by rw [List.mem_singleton.mp hx]; exact hw, by rw [big60_eq]; exact Nat.lt_succ_self _, by rw [It.dep]; decide, by rw [It.sz]; decide⟩, by rw [It.sz]; decide⟩
    · show (((p.vs.take at_.toNat ++ [wr]) ++ p.vs.drop (at_.toNat + 1)) ++ m0r).length ≤ 30 ∧ (p.ins ++ m1r).length ≤ 30 ∧ (p.ns ++ m2r).length ≤ 30
      rw [List.length_append, List.length_append, List.length_append, List.length_append, List.length_append, List.length_take, List.length_drop, List.length_singleton]
      omega
    · show (p.st ++ m0r.map _).length = (((p.vs.take at_.toNat ++ [wr]) ++ p.vs.drop (at_.toNat + 1)) ++ m0r).length
      rw [List.length_append, List.length_append, List.length_append, List.length_append, List.length_map, List.length_take, List.length_drop, List.length_singleton]
      omega
    · show ((p.vs.take at_.toNat ++ [wr]) ++ p.vs.drop (at_.toNat + 1)) ++ m0r ≠ []
      simp
end
end NL

namespace NL
open PySem PySem.Spec PyProof.Rows L2
def spLaw (K : PySem.W.Frag) : Sp := fun vs H Q _ => ∃ (a : Addr) (ns : List Int), vs = [.ref a] ∧ SqL K H a (ns.map V.int) ∧ ns.length ≤ 63 ∧ ∀ H', Q (.bl true) H'
/-- a slice of a tuple, perhaps the tuple itself -/
theorem slA_of {K : PySem.W.Frag} {a : Addr} {xs : List V} {lo hi : Option Int} {H : Hp} {Q : VK} (ha : H a = some (.tup xs)) (q : ∀ p H', Same H H' → H' p = some (.tup (cutV xs lo hi)) → Q (.ref p) H') : rSlA K (.ref a) lo hi H Q := by
  refine ⟨a, xs, rfl, sqt ha, fun h => ?_, fun _ p hp => q p _ (same_new hp _) upd_same⟩
  refine q a H (Same.refl H) ?_
  have : cutV xs lo hi = xs := by
    unfold cutV
    rw [h.1, h.2, List.drop_zero, Nat.sub_zero]
    exact List.take_length
  rw [this]
  exact ha
/-- the reading of ''.join([row + '\n' for row in rows(plant)]) -/
theorem rows_text {K : PySem.W.Frag} {i j : Nat} {σ : L2.St} {H : Hp} {p : Pl} {v : V} {Q : VK} (hσ : σ[i]? = some (some v)) (hj : j < σ.length) (hij : i ≠ j) (hp : PlIn H p v) (hok : PlOk p) (q : ∀ H', Same H H' → Q (.str (Str.join "" (p.lines.map eol))) H') :
    tM1 (fun x xs H Q => ∃ a p, ∃ ys : List Str, x = .str a ∧ xs = [.ref p] ∧ (SqL K H p (ys.map V.str) ∨ SqT K H p (ys.map V.str)) ∧ (ys.map (·.length)).sum + ys.length * a.length ≤ 16777216 ∧ Q (.str (Txt.join a ys)) H) (tC (.str ""))
      (tLc (iList K (tCall spRows [] E0 (tCons (tVar i) tNil))) (gName j) tYes (tOp (fun x y H Q => ∃ i j, x = .str i ∧ y = .str j ∧ i.length + j.length ≤ sizeLine ∧ Q (.str (i ++ j)) H) (tVar j) (tC (.str "\n"))) [j]) σ H Q := by
  obtain ⟨hlen, hline⟩ := lines_len hok
  refine ⟨⟨_, rfl⟩, v, hσ, v, p, rfl, hp, hok, fun r H1 s1 hr e1 => ?_⟩
  refine ⟨r, rfl, ⟨_, sqd e1⟩, fun D hD => ?_⟩
  refine lc_list (K := K) (a := r) (xs := p.lines.map V.str) (fun (k : Nat) (H' : Hp) => Same H1 H' ∧ H' D = some (.lst (((p.lines.take k).map eol).map V.str))) ?_ ?_ ?_ ?_
  · exact ⟨same_new hD _, by rw [upd_same, List.take_zero]; rfl⟩
  · rintro k H' _ ⟨s8, _⟩
    exact sqd (s8 _ _ e1)
  · rintro k x H' hx ⟨s8, e11⟩
    rw [List.getElem?_map] at hx
    cases hn : p.lines[k]? with
    | none => rw [hn] at hx; cases hx
    | some t =>
      rw [hn] at hx
      obtain rfl : V.str t = x := Option.some.inj hx
      have ht := hline t (List.mem_of_getElem? hn)
      have k1 : ("\n" : Str).length = 1 := by decide +kernel
      have hwl : (wipe σ [j]).length = σ.length := wipe_length σ [j]
      refine ⟨?_, yes_if ?_⟩
      · show wipe ((wipe σ [j]).set j (some (V.str t))) [j] = wipe σ [j]
        show ((σ.set j none).set j (some (V.str t))).set j none = σ.set j none
        rw [List.set_set, List.set_set]
      · refine ⟨V.str t, ?_, _, _, rfl, rfl, by rw [k1]; exact big (by omega), _, e11, ?_, same_put s8 hD, ?_⟩
        · rw [List.getElem?_set_self (by rw [hwl]; exact hj)]
        · rw [List.length_map, List.length_map, List.length_take]
          exact small1000 (by omega)
        · rw [upd_same, List.take_add_one, hn, List.map_append, List.map_append]
          rfl
  · rintro H7 ⟨s8, e11⟩
    rw [List.length_map, List.take_length] at e11
    have hsum := lines_sum p.lines hline
    have k0 : ("" : Str).length = 0 := by decide +kernel
    refine ⟨_, D, _, rfl, rfl, .inl (sqd e11), ?_, ?_⟩
    · rw [k0]
      have : p.lines.length * 90301 ≤ 121 * 90301 := Nat.mul_le_mul_right _ hlen
      omega
    · rw [TL.join_eq]
      exact q _ (s1.trans s8)
section
variable {P : Program} {w : World} {K : PySem.W.Frag} {mg : Str → Option Value} {base : Heap}
theorem ok_law (T : Txt K mg) : FnOk P w K mg base CX0 20 T.alaw T.dlaw Plaw (spLaw K) := by
  have G_law_draws := ok_law_draws (P := P) (w := w) (base := base) T
  have G_law_far := ok_law_far (P := P) (w := w) (base := base) T
  have G_law_plant := ok_law_plant (P := P) (w := w) (base := base) (B := big60) (by omega) T
  have G_law_wide := ok_law_wide (P := P) (w := w) (base := base) T
  have Gwrite_plant := ok_write_plant (P := P) (w := w) (base := base) T
  have G_law_rows_of_text := ok_law_rows_of_text (P := P) (w := w) (base := base) T
  refine T.Flaw.ok sclaw (fun vs H Q E h => ?_) (fun cdv A outer s H vs Q E hr h => ?_)
  · obtain ⟨a, ns, rfl, _⟩ := h
    rfl
  obtain ⟨a, ns, rfl, hS, hl, q⟩ := h
  refine ⟨_, (pss_cons (ps_set (i := 1) sclaw.nd rfl (Or.inl rfl) (pe_call G_law_draws (hr.mono (by omega)) (by rfl) T.m_law_draws T.F_law_draws.kp T.b_law_draws .nil pass0 (pa_cons (pv 0) (pa_cons pe_int pa_nil))))
    (pss_cons (ps_set (i := 2) sclaw.nd rfl (Or.inl rfl) (pe_call G_law_far (hr.mono (by omega)) (by rfl) T.m_law_far T.F_law_far.kp T.b_law_far .nil pass0 (pa_cons (pv 0) (pa_cons (pv 1) pa_nil))))
    (pss_cons (ps_set (i := 3) sclaw.nd rfl (Or.inl rfl) (pe_call G_law_plant (hr.mono (by omega)) (by rfl) T.m_law_plant T.F_law_plant.kp T.b_law_plant .nil pass0 (pa_cons (pv 1) (pa_cons (pv 2) (pa_cons (pe_lst (pa_cons pe_int (pa_cons pe_int (pa_cons pe_int pa_nil)))) pa_nil)))))
    (pss_cons (ps_set (i := 3) sclaw.nd rfl (Or.inl rfl) (pe_call G_law_wide (hr.mono (by omega)) (by rfl) T.m_law_wide T.F_law_wide.kp T.b_law_wide .nil pass0 (pa_cons (pv 1) (pa_cons (pv 3) (pa_cons (pv 2) pa_nil)))))
    (pss_cons (ps_set (i := 4) sclaw.nd rfl (Or.inl rfl) (pe_call Gwrite_plant (hr.mono (by omega)) (by rfl) T.mwrite_plant T.Fwrite_plant.kp T.bwrite_plant .nil pass0 (pa_cons (pv 3) pa_nil)))
    (pss_cons (ps_if (PW.pt (pw_or (pt_not (pt_val (pe_callB (call_isi) (by rfl) T.z_isinstance (by decide +kernel) (pa_cons (pv 4) (pa_cons (pe_bltn (v := .ty "str") (u := .type "str") (by rfl) T.z_str (by decide +kernel) rfl) pa_nil))))) (pw_or1 (pt_cmpR op_ne (pv 4) (pe_join pe_str (pe_lc (own := [("row", 5)]) (g := (gName 5)) (tt := tYes) rfl sclaw.nd (pi_list (pe_call G_law_rows_of_text (hr.mono (by omega)) (by rfl) T.m_law_rows_of_text T.F_law_rows_of_text.kp T.b_law_rows_of_text .nil pass0 (pa_cons (pv 3) pa_nil))) (blkOk_by (N := Nlaw) (sc := defScope slaw) (by decide +kernel)) (fun _ _ _ _ _ => (pg_name (i := 5) sclaw.nd rfl (Or.inl rfl))) (fun _ _ _ _ _ => pts_nil) (fun _ _ _ _ _ => (pe_op op_add_str (pv 5) pe_str)))) (nomark _)))))
    (pss_one (ps_ret pe_bl))
    pss_nil)
    (pss_cons (ps_set (i := 6) sclaw.nd rfl (Or.inl rfl) (pe_tup (pa_cons (pe_slice sl_tupA (pe_ix ix_tup (pv 3) pe_int (fun _ _ => rfl)) po_none (po_some pe_int)) (pa_cons (pe_tup pa_nil) (pa_cons (pe_tup pa_nil) (pa_cons (pe_tup (pa_cons (pe_tup (pa_cons pe_str (pa_cons (pe_ix ix_tup (pe_ix ix_tup (pe_ix ix_tup (pv 3) pe_int (fun _ _ => rfl)) pe_int (fun _ _ => rfl)) pe_int (fun _ _ => rfl)) pa_nil))) pa_nil)) (pa_cons (pe_tup (pa_cons pe_str pa_nil)) pa_nil)))))))
    (pss_one (ps_ret (pe_cmpR op_eq (pe_call Gwrite_plant (hr.mono (by omega)) (by rfl) T.mwrite_plant T.Fwrite_plant.kp T.bwrite_plant .nil pass0 (pa_cons (pv 6) pa_nil)) (pe_join pe_str (pe_lc (own := [("row", 5)]) (g := (gName 5)) (tt := tYes) rfl sclaw.nd (pi_list (pe_call G_law_rows_of_text (hr.mono (by omega)) (by rfl) T.m_law_rows_of_text T.F_law_rows_of_text.kp T.b_law_rows_of_text .nil pass0 (pa_cons (pv 6) pa_nil))) (blkOk_by (N := Nlaw) (sc := defScope slaw) (by decide +kernel)) (fun _ _ _ _ _ => (pg_name (i := 5) sclaw.nd rfl (Or.inl rfl))) (fun _ _ _ _ _ => pts_nil) (fun _ _ _ _ _ => (pe_op op_add_str (pv 5) pe_str)))) (nomark _))))))))))), ?_⟩
  refine ⟨_, rfl, a, ns, 600, rfl, hS, hl, by decide, by decide, fun d H1 s1 hd D1 => ?_⟩
  have hk := Keep.old hS hd s1
  refine ⟨_, rfl, _, rfl, a, d, ns, rfl, hk, D1, fun c H2 g2 hc => ?_⟩
  refine ⟨_, rfl, _, rfl, (Nat.le_of_ble_eq_true rfl), fun rp hrp => ?_⟩
  have g3 := fun o => Go.new (o := o) g2.dr hrp
  refine ⟨d, rp, c, 200, 60, 60, rfl, (g3 _).dr, .of (new_ne g2.dr hrp) upd_same, by decide, by decide, by decide, hc, fun v p xs H4 g4 hpl hpg => ?_⟩
  refine ⟨_, rfl, _, rfl, _, rfl, d, v, p, xs, c, rfl, g4.dr, hpl, hpg, hc, fun v' p' H5 g5 hpl' hok => ?_⟩
  refine ⟨_, rfl, v', p', rfl, hpl', hok, fun H6 s6 => ?_⟩
  refine ⟨_, rfl, _, _, .type "str", .type "str", true, rfl, .ty "str", .base (.str _), kit_ty (by decide +kernel), true, rfl, ?_⟩
  refine iteF ?_
  refine ⟨_, rfl, ?_⟩
  refine rows_text (i := 3) (j := 5) rfl (Nat.le_of_ble_eq_true rfl) (by decide) (hpl'.mono (Tp.same s6)) hok fun H7 s7 => ?_
  refine ⟨rfl, _, rfl, ?_⟩
  refine ifF (by simp) ?_
  -- the plain one
  have hpl7 := hpl'.mono (Tp.same (s6.trans s7))
  obtain ⟨pa, v1, v2, v3, vl, st, sx, rfl, e0, ⟨t1, x1, rfl, et1, hr1⟩, _, _, _, _, _⟩ := id hpl7
  obtain ⟨r0, rr, hvs⟩ : ∃ r0 rr, p'.vs = r0 :: rr := by
    cases h : p'.vs with
    | nil => exact absurd h hok.ne
    | cons x r => exact ⟨x, r, rfl⟩
  obtain ⟨y0, yr, rfl⟩ : ∃ y0 yr, x1 = y0 :: yr := by
    cases h : x1 with
    | nil => rw [h, hvs] at hr1; exact absurd hr1.1 (by simp)
    | cons x r => exact ⟨x, r, rfl⟩
  obtain ⟨q0, rfl, hq0⟩ : RowIn H7 r0 y0 := hr1.2 0 r0 y0 (by rw [hvs]; rfl) rfl
  have hw0 := hok.v r0 (by rw [hvs]; exact List.mem_cons_self)
  have hcut : cutV (V.ref q0 :: yr) none (some 1) = [V.ref q0] := by
    unfold cutV
    rw [HT.sIx_none, show HT.sIx (V.ref q0 :: yr).length (V.ref q0 :: yr).length (some 1) = min 1 (V.ref q0 :: yr).length from HT.sIx_nat _ _ 1, List.drop_zero, Nat.sub_zero, List.length_cons, show min 1 (yr.length + 1) = 1 by omega]
    rfl
  refine ⟨_, rfl, pa, _, 0, _, rfl, rfl, sqt e0, atI0, 1, rfl, ?_⟩
  refine slA_of et1 fun p8 H8 s8 e8 => ?_
  rw [hcut] at e8
  refine ⟨(Nat.le_of_ble_eq_true rfl), fun p9 hp9 => ?_⟩
  have s9 := fun o => same_new hp9 o
  refine ⟨(Nat.le_of_ble_eq_true rfl), fun pA hpA => ?_⟩
  have sA := fun o => (s9 _).trans (same_new hpA o)
  have s7A := fun o => s8.trans (sA o)
  refine ⟨_, rfl, pa, _, 0, _, rfl, rfl, sqt (s7A _ _ _ e0), atI0, t1, _, 0, _, rfl, rfl, sqt (s7A _ _ _ et1), atI0, q0, _, 0, _, rfl, rfl, sqt (s7A _ _ _ hq0), atI0, (Nat.le_of_ble_eq_true rfl), fun pB hpB => ?_⟩
  have sB := fun o => same_new hpB o
  refine ⟨(Nat.le_of_ble_eq_true rfl), fun pC hpC => ?_⟩
  have sC := fun o => same_new hpC o
  refine ⟨(Nat.le_of_ble_eq_true rfl), fun pD hpD => ?_⟩
  have sD := fun o => same_new hpD o
  refine ⟨(Nat.le_of_ble_eq_true rfl), fun pE hpE => ?_⟩
  have sE := fun o => same_new hpE o
  have sBE := fun o => (sB _).trans ((sC _).trans ((sD _).trans (sE o)))
  have s8E := fun o => (sA _).trans (sBE o)
  have hplain : PlIn (upd (upd (upd (upd (upd (upd H8 p9 (.tup [])) pA (.tup [])) pB (.tup [.str "name", .str r0.1])) pC (.tup [.ref pB])) pD (.tup [.str "true"])) pE (.tup [.ref p8, .ref p9, .ref pA, .ref pC, .ref pD])) ⟨[r0], [], [], [.name r0.1], .lit true⟩ (.ref pE) :=
    ⟨pE, _, _, _, _, pC, _, rfl, upd_same, ⟨p8, _, rfl, s8E _ _ _ e8, rows1 ⟨q0, rfl, (s8.trans (s8E _)) _ _ hq0⟩⟩, ⟨p9, [], rfl, ((same_new hpA _).trans (sBE _)) _ _ upd_same, rows0⟩, ⟨pA, [], rfl, sBE _ _ _ upd_same, rows0⟩,
      ((sD _).trans (sE _)) _ _ upd_same, kids1 (.name (((sC _).trans ((sD _).trans (sE _))) _ _ upd_same)), .lit (b := true) (sE _ _ _ upd_same)⟩
  have okp : PlOk ⟨[r0], [], [], [.name r0.1], .lit true⟩ := by
    refine ⟨fun r h => by rw [List.mem_singleton.mp h]; exact hw0, fun r h => (by cases h), fun r h => (by cases h), fun i h => ?_, ?_, ⟨Nat.le_of_ble_eq_true rfl, Nat.zero_le _, Nat.zero_le _⟩, rfl, by simp⟩
    · rw [List.mem_singleton.mp h]
      exact ⟨[r0.1], big60, false, ⟨.name List.mem_cons_self, fun x hx => by rw [List.mem_singleton.mp hx]; exact hw0.nm, by rw [big60_eq]; exact Nat.lt_succ_self _, by rw [It.dep]; decide, by rw [It.sz]; decide⟩, by rw [It.sz]; decide⟩
    · exact ⟨[], big60, true, ⟨.lit, fun x hx => (by cases hx), by rw [big60_eq]; exact Nat.lt_succ_self _, by rw [It.dep]; decide, by rw [It.sz]; decide⟩, by rw [It.sz]; decide⟩
  refine ⟨_, rfl, _, _, rfl, hplain, okp, fun H9 s9' => ?_⟩
  refine rows_text (i := 6) (j := 5) rfl (Nat.le_of_ble_eq_true rfl) (by decide) (hplain.mono (Tp.same s9')) okp fun HA sA' => ?_
  refine ⟨rfl, ?_⟩
  rw [decide_eq_true rfl]
  exact q HA
end
end NL

namespace NL
open PySem PySem.Spec PyProof.Rows L2
theorem all_mk {l : PySem.W.OpenLaw} {w : World} {K : PySem.W.Frag} {h : Heap} {mg : Str → Option Value} {fa fparts_in fnames_of f_written fwrite_plant f_range_lines f_law_draws f_law_take f_law_cell f_law_word f_law_some_word f_law_reserved f_law_name f_law_names f_law_number f_law_leaf f_law_expression f_law_test f_law_inner f_law_ranges f_law_step f_law_plant f_law_wide f_law_far f_law_tokens f_law_written f_law_item_text f_law_rows_of_text flaw : Addr} (X : K.In h) (G : h.Ns mainGlobals mg) (hfa : mg "law" = some (.ref fa))
    {odparts_in anparts_in : Option Addr} {slparts_in : Array (Option Value)} {ocparts_in kVparts_in dcparts_in pmparts_in cdparts_in ctparts_in : Value}
    {odnames_of annames_of : Option Addr} {slnames_of : Array (Option Value)} {ocnames_of kVnames_of dcnames_of pmnames_of cdnames_of ctnames_of : Value}
    {od_written an_written : Option Addr} {sl_written : Array (Option Value)} {oc_written kV_written dc_written pm_written cd_written ct_written : Value}
    {odwrite_plant anwrite_plant : Option Addr} {slwrite_plant : Array (Option Value)} {ocwrite_plant kVwrite_plant dcwrite_plant pmwrite_plant cdwrite_plant ctwrite_plant : Value}
    {od_range_lines an_range_lines : Option Addr} {sl_range_lines : Array (Option Value)} {oc_range_lines kV_range_lines dc_range_lines pm_range_lines cd_range_lines ct_range_lines : Value}
    {od_law_draws an_law_draws : Option Addr} {sl_law_draws : Array (Option Value)} {oc_law_draws kV_law_draws dc_law_draws pm_law_draws cd_law_draws ct_law_draws : Value}
    {od_law_take an_law_take : Option Addr} {sl_law_take : Array (Option Value)} {oc_law_take kV_law_take dc_law_take pm_law_take cd_law_take ct_law_take : Value}
    {od_law_cell an_law_cell : Option Addr} {sl_law_cell : Array (Option Value)} {oc_law_cell kV_law_cell dc_law_cell pm_law_cell cd_law_cell ct_law_cell : Value}
    {od_law_word an_law_word : Option Addr} {sl_law_word : Array (Option Value)} {oc_law_word kV_law_word dc_law_word pm_law_word cd_law_word ct_law_word : Value}
    {od_law_some_word an_law_some_word : Option Addr} {sl_law_some_word : Array (Option Value)} {oc_law_some_word kV_law_some_word dc_law_some_word pm_law_some_word cd_law_some_word ct_law_some_word : Value}
    {od_law_reserved an_law_reserved : Option Addr} {sl_law_reserved : Array (Option Value)} {oc_law_reserved kV_law_reserved dc_law_reserved pm_law_reserved cd_law_reserved ct_law_reserved : Value}
    {od_law_name an_law_name : Option Addr} {sl_law_name : Array (Option Value)} {oc_law_name kV_law_name dc_law_name pm_law_name cd_law_name ct_law_name : Value}
    {od_law_names an_law_names : Option Addr} {sl_law_names : Array (Option Value)} {oc_law_names kV_law_names dc_law_names pm_law_names cd_law_names ct_law_names : Value}
    {od_law_number an_law_number : Option Addr} {sl_law_number : Array (Option Value)} {oc_law_number kV_law_number dc_law_number pm_law_number cd_law_number ct_law_number : Value}
    {od_law_leaf an_law_leaf : Option Addr} {sl_law_leaf : Array (Option Value)} {oc_law_leaf kV_law_leaf dc_law_leaf pm_law_leaf cd_law_leaf ct_law_leaf : Value}
    {od_law_expression an_law_expression : Option Addr} {sl_law_expression : Array (Option Value)} {oc_law_expression kV_law_expression dc_law_expression pm_law_expression cd_law_expression ct_law_expression : Value}
    {od_law_test an_law_test : Option Addr} {sl_law_test : Array (Option Value)} {oc_law_test kV_law_test dc_law_test pm_law_test cd_law_test ct_law_test : Value}
    {od_law_inner an_law_inner : Option Addr} {sl_law_inner : Array (Option Value)} {oc_law_inner kV_law_inner dc_law_inner pm_law_inner cd_law_inner ct_law_inner : Value}
    {od_law_ranges an_law_ranges : Option Addr} {sl_law_ranges : Array (Option Value)} {oc_law_ranges kV_law_ranges dc_law_ranges pm_law_ranges cd_law_ranges ct_law_ranges : Value}
    {od_law_step an_law_step : Option Addr} {sl_law_step : Array (Option Value)} {oc_law_step kV_law_step dc_law_step pm_law_step cd_law_step ct_law_step : Value}
    {od_law_plant an_law_plant : Option Addr} {sl_law_plant : Array (Option Value)} {oc_law_plant kV_law_plant dc_law_plant pm_law_plant cd_law_plant ct_law_plant : Value}
    {od_law_wide an_law_wide : Option Addr} {sl_law_wide : Array (Option Value)} {oc_law_wide kV_law_wide dc_law_wide pm_law_wide cd_law_wide ct_law_wide : Value}
    {od_law_far an_law_far : Option Addr} {sl_law_far : Array (Option Value)} {oc_law_far kV_law_far dc_law_far pm_law_far cd_law_far ct_law_far : Value}
    {od_law_tokens an_law_tokens : Option Addr} {sl_law_tokens : Array (Option Value)} {oc_law_tokens kV_law_tokens dc_law_tokens pm_law_tokens cd_law_tokens ct_law_tokens : Value}
    {od_law_written an_law_written : Option Addr} {sl_law_written : Array (Option Value)} {oc_law_written kV_law_written dc_law_written pm_law_written cd_law_written ct_law_written : Value}
    {od_law_item_text an_law_item_text : Option Addr} {sl_law_item_text : Array (Option Value)} {oc_law_item_text kV_law_item_text dc_law_item_text pm_law_item_text cd_law_item_text ct_law_item_text : Value}
    {od_law_rows_of_text an_law_rows_of_text : Option Addr} {sl_law_rows_of_text : Array (Option Value)} {oc_law_rows_of_text kV_law_rows_of_text dc_law_rows_of_text pm_law_rows_of_text cd_law_rows_of_text ct_law_rows_of_text : Value}
    {odlaw anlaw : Option Addr} {sllaw : Array (Option Value)} {oclaw kVlaw dclaw pmlaw cdlaw ctlaw : Value}
    (aparts_in : PySem.W.nsIn K mainGlobals "parts_in" = some (some (.ref fparts_in))) (lparts_in : K.lookup fparts_in = some ⟨ocparts_in, odparts_in, .func (PySem.W.fnOf "parts_in" "parts_in" (defArgs sparts_in) (defBody sparts_in) (defScope sparts_in) .none kVparts_in dcparts_in pmparts_in anparts_in cdparts_in ctparts_in), slparts_in⟩) (cparts_in : PySem.W.codeIn K cdparts_in "parts_in" = true) (kparts_in : PySem.W.keepIn K (.ref fparts_in) = true)
    (anames_of : PySem.W.nsIn K mainGlobals "names_of" = some (some (.ref fnames_of))) (lnames_of : K.lookup fnames_of = some ⟨ocnames_of, odnames_of, .func (PySem.W.fnOf "names_of" "names_of" (defArgs snames_of) (defBody snames_of) (defScope snames_of) .none kVnames_of dcnames_of pmnames_of annames_of cdnames_of ctnames_of), slnames_of⟩) (cnames_of : PySem.W.codeIn K cdnames_of "names_of" = true) (knames_of : PySem.W.keepIn K (.ref fnames_of) = true)
    (a_written : PySem.W.nsIn K mainGlobals "_written" = some (some (.ref f_written))) (l_written : K.lookup f_written = some ⟨oc_written, od_written, .func (PySem.W.fnOf "_written" "_written" (defArgs s_written) (defBody s_written) (defScope s_written) .none kV_written dc_written pm_written an_written cd_written ct_written), sl_written⟩) (c_written : PySem.W.codeIn K cd_written "_written" = true) (k_written : PySem.W.keepIn K (.ref f_written) = true)
    (awrite_plant : PySem.W.nsIn K mainGlobals "write_plant" = some (some (.ref fwrite_plant))) (lwrite_plant : K.lookup fwrite_plant = some ⟨ocwrite_plant, odwrite_plant, .func (PySem.W.fnOf "write_plant" "write_plant" (defArgs swrite_plant) (defBody swrite_plant) (defScope swrite_plant) .none kVwrite_plant dcwrite_plant pmwrite_plant anwrite_plant cdwrite_plant ctwrite_plant), slwrite_plant⟩) (cwrite_plant : PySem.W.codeIn K cdwrite_plant "write_plant" = true) (kwrite_plant : PySem.W.keepIn K (.ref fwrite_plant) = true)
    (a_range_lines : PySem.W.nsIn K mainGlobals "_range_lines" = some (some (.ref f_range_lines))) (l_range_lines : K.lookup f_range_lines = some ⟨oc_range_lines, od_range_lines, .func (PySem.W.fnOf "_range_lines" "_range_lines" (defArgs s_range_lines) (defBody s_range_lines) (defScope s_range_lines) .none kV_range_lines dc_range_lines pm_range_lines an_range_lines cd_range_lines ct_range_lines), sl_range_lines⟩) (c_range_lines : PySem.W.codeIn K cd_range_lines "_range_lines" = true) (k_range_lines : PySem.W.keepIn K (.ref f_range_lines) = true)
    (a_law_draws : PySem.W.nsIn K mainGlobals "_law_draws" = some (some (.ref f_law_draws))) (l_law_draws : K.lookup f_law_draws = some ⟨oc_law_draws, od_law_draws, .func (PySem.W.fnOf "_law_draws" "_law_draws" (defArgs s_law_draws) (defBody s_law_draws) (defScope s_law_draws) .none kV_law_draws dc_law_draws pm_law_draws an_law_draws cd_law_draws ct_law_draws), sl_law_draws⟩) (c_law_draws : PySem.W.codeIn K cd_law_draws "_law_draws" = true) (k_law_draws : PySem.W.keepIn K (.ref f_law_draws) = true)
    (a_law_take : PySem.W.nsIn K mainGlobals "_law_take" = some (some (.ref f_law_take))) (l_law_take : K.lookup f_law_take = some ⟨oc_law_take, od_law_take, .func (PySem.W.fnOf "_law_take" "_law_take" (defArgs s_law_take) (defBody s_law_take) (defScope s_law_take) .none kV_law_take dc_law_take pm_law_take an_law_take cd_law_take ct_law_take), sl_law_take⟩) (c_law_take : PySem.W.codeIn K cd_law_take "_law_take" = true) (k_law_take : PySem.W.keepIn K (.ref f_law_take) = true)
    (a_law_cell : PySem.W.nsIn K mainGlobals "_law_cell" = some (some (.ref f_law_cell))) (l_law_cell : K.lookup f_law_cell = some ⟨oc_law_cell, od_law_cell, .func (PySem.W.fnOf "_law_cell" "_law_cell" (defArgs s_law_cell) (defBody s_law_cell) (defScope s_law_cell) .none kV_law_cell dc_law_cell pm_law_cell an_law_cell cd_law_cell ct_law_cell), sl_law_cell⟩) (c_law_cell : PySem.W.codeIn K cd_law_cell "_law_cell" = true) (k_law_cell : PySem.W.keepIn K (.ref f_law_cell) = true)
    (a_law_word : PySem.W.nsIn K mainGlobals "_law_word" = some (some (.ref f_law_word))) (l_law_word : K.lookup f_law_word = some ⟨oc_law_word, od_law_word, .func (PySem.W.fnOf "_law_word" "_law_word" (defArgs s_law_word) (defBody s_law_word) (defScope s_law_word) .none kV_law_word dc_law_word pm_law_word an_law_word cd_law_word ct_law_word), sl_law_word⟩) (c_law_word : PySem.W.codeIn K cd_law_word "_law_word" = true) (k_law_word : PySem.W.keepIn K (.ref f_law_word) = true)
    (a_law_some_word : PySem.W.nsIn K mainGlobals "_law_some_word" = some (some (.ref f_law_some_word))) (l_law_some_word : K.lookup f_law_some_word = some ⟨oc_law_some_word, od_law_some_word, .func (PySem.W.fnOf "_law_some_word" "_law_some_word" (defArgs s_law_some_word) (defBody s_law_some_word) (defScope s_law_some_word) .none kV_law_some_word dc_law_some_word pm_law_some_word an_law_some_word cd_law_some_word ct_law_some_word), sl_law_some_word⟩) (c_law_some_word : PySem.W.codeIn K cd_law_some_word "_law_some_word" = true) (k_law_some_word : PySem.W.keepIn K (.ref f_law_some_word) = true)
    (a_law_reserved : PySem.W.nsIn K mainGlobals "_law_reserved" = some (some (.ref f_law_reserved))) (l_law_reserved : K.lookup f_law_reserved = some ⟨oc_law_reserved, od_law_reserved, .func (PySem.W.fnOf "_law_reserved" "_law_reserved" (defArgs s_law_reserved) (defBody s_law_reserved) (defScope s_law_reserved) .none kV_law_reserved dc_law_reserved pm_law_reserved an_law_reserved cd_law_reserved ct_law_reserved), sl_law_reserved⟩) (c_law_reserved : PySem.W.codeIn K cd_law_reserved "_law_reserved" = true) (k_law_reserved : PySem.W.keepIn K (.ref f_law_reserved) = true)
    (a_law_name : PySem.W.nsIn K mainGlobals "_law_name" = some (some (.ref f_law_name))) (l_law_name : K.lookup f_law_name = some ⟨oc_law_name, od_law_name, .func (PySem.W.fnOf "_law_name" "_law_name" (defArgs s_law_name) (defBody s_law_name) (defScope s_law_name) .none kV_law_name dc_law_name pm_law_name an_law_name cd_law_name ct_law_name), sl_law_name⟩) (c_law_name : PySem.W.codeIn K cd_law_name "_law_name" = true) (k_law_name : PySem.W.keepIn K (.ref f_law_name) = true)
    (a_law_names : PySem.W.nsIn K mainGlobals "_law_names" = some (some (.ref f_law_names))) (l_law_names : K.lookup f_law_names = some ⟨oc_law_names, od_law_names, .func (PySem.W.fnOf "_law_names" "_law_names" (defArgs s_law_names) (defBody s_law_names) (defScope s_law_names) .none kV_law_names dc_law_names pm_law_names an_law_names cd_law_names ct_law_names), sl_law_names⟩) (c_law_names : PySem.W.codeIn K cd_law_names "_law_names" = true) (k_law_names : PySem.W.keepIn K (.ref f_law_names) = true)
    (a_law_number : PySem.W.nsIn K mainGlobals "_law_number" = some (some (.ref f_law_number))) (l_law_number : K.lookup f_law_number = some ⟨oc_law_number, od_law_number, .func (PySem.W.fnOf "_law_number" "_law_number" (defArgs s_law_number) (defBody s_law_number) (defScope s_law_number) .none kV_law_number dc_law_number pm_law_number an_law_number cd_law_number ct_law_number), sl_law_number⟩) (c_law_number : PySem.W.codeIn K cd_law_number "_law_number" = true) (k_law_number : PySem.W.keepIn K (.ref f_law_number) = true)
    (a_law_leaf : PySem.W.nsIn K mainGlobals "_law_leaf" = some (some (.ref f_law_leaf))) (l_law_leaf : K.lookup f_law_leaf = some ⟨oc_law_leaf, od_law_leaf, .func (PySem.W.fnOf "_law_leaf" "_law_leaf" (defArgs s_law_leaf) (defBody s_law_leaf) (defScope s_law_leaf) .none kV_law_leaf dc_law_leaf pm_law_leaf an_law_leaf cd_law_leaf ct_law_leaf), sl_law_leaf⟩) (c_law_leaf : PySem.W.codeIn K cd_law_leaf "_law_leaf" = true) (k_law_leaf : PySem.W.keepIn K (.ref f_law_leaf) = true)
    (a_law_expression : PySem.W.nsIn K mainGlobals "_law_expression" = some (some (.ref f_law_expression))) (l_law_expression : K.lookup f_law_expression = some ⟨oc_law_expression, od_law_expression, .func (PySem.W.fnOf "_law_expression" "_law_expression" (defArgs s_law_expression) (defBody s_law_expression) (defScope s_law_expression) .none kV_law_expression dc_law_expression pm_law_expression an_law_expression cd_law_expression ct_law_expression), sl_law_expression⟩) (c_law_expression : PySem.W.codeIn K cd_law_expression "_law_expression" = true) (k_law_expression : PySem.W.keepIn K (.ref f_law_expression) = true)
    (a_law_test : PySem.W.nsIn K mainGlobals "_law_test" = some (some (.ref f_law_test))) (l_law_test : K.lookup f_law_test = some ⟨oc_law_test, od_law_test, .func (PySem.W.fnOf "_law_test" "_law_test" (defArgs s_law_test) (defBody s_law_test) (defScope s_law_test) .none kV_law_test dc_law_test pm_law_test an_law_test cd_law_test ct_law_test), sl_law_test⟩) (c_law_test : PySem.W.codeIn K cd_law_test "_law_test" = true) (k_law_test : PySem.W.keepIn K (.ref f_law_test) = true)
    (a_law_inner : PySem.W.nsIn K mainGlobals "_law_inner" = some (some (.ref f_law_inner))) (l_law_inner : K.lookup f_law_inner = some ⟨oc_law_inner, od_law_inner, .func (PySem.W.fnOf "_law_inner" "_law_inner" (defArgs s_law_inner) (defBody s_law_inner) (defScope s_law_inner) .none kV_law_inner dc_law_inner pm_law_inner an_law_inner cd_law_inner ct_law_inner), sl_law_inner⟩) (c_law_inner : PySem.W.codeIn K cd_law_inner "_law_inner" = true) (k_law_inner : PySem.W.keepIn K (.ref f_law_inner) = true)
    (a_law_ranges : PySem.W.nsIn K mainGlobals "_law_ranges" = some (some (.ref f_law_ranges))) (l_law_ranges : K.lookup f_law_ranges = some ⟨oc_law_ranges, od_law_ranges, .func (PySem.W.fnOf "_law_ranges" "_law_ranges" (defArgs s_law_ranges) (defBody s_law_ranges) (defScope s_law_ranges) .none kV_law_ranges dc_law_ranges pm_law_ranges an_law_ranges cd_law_ranges ct_law_ranges), sl_law_ranges⟩) (c_law_ranges : PySem.W.codeIn K cd_law_ranges "_law_ranges" = true) (k_law_ranges : PySem.W.keepIn K (.ref f_law_ranges) = true)
    (a_law_step : PySem.W.nsIn K mainGlobals "_law_step" = some (some (.ref f_law_step))) (l_law_step : K.lookup f_law_step = some ⟨oc_law_step, od_law_step, .func (PySem.W.fnOf "_law_step" "_law_step" (defArgs s_law_step) (defBody s_law_step) (defScope s_law_step) .none kV_law_step dc_law_step pm_law_step an_law_step cd_law_step ct_law_step), sl_law_step⟩) (c_law_step : PySem.W.codeIn K cd_law_step "_law_step" = true) (k_law_step : PySem.W.keepIn K (.ref f_law_step) = true)
    (a_law_plant : PySem.W.nsIn K mainGlobals "_law_plant" = some (some (.ref f_law_plant))) (l_law_plant : K.lookup f_law_plant = some ⟨oc_law_plant, od_law_plant, .func (PySem.W.fnOf "_law_plant" "_law_plant" (defArgs s_law_plant) (defBody s_law_plant) (defScope s_law_plant) .none kV_law_plant dc_law_plant pm_law_plant an_law_plant cd_law_plant ct_law_plant), sl_law_plant⟩) (c_law_plant : PySem.W.codeIn K cd_law_plant "_law_plant" = true) (k_law_plant : PySem.W.keepIn K (.ref f_law_plant) = true)
    (a_law_wide : PySem.W.nsIn K mainGlobals "_law_wide" = some (some (.ref f_law_wide))) (l_law_wide : K.lookup f_law_wide = some ⟨oc_law_wide, od_law_wide, .func (PySem.W.fnOf "_law_wide" "_law_wide" (defArgs s_law_wide) (defBody s_law_wide) (defScope s_law_wide) .none kV_law_wide dc_law_wide pm_law_wide an_law_wide cd_law_wide ct_law_wide), sl_law_wide⟩) (c_law_wide : PySem.W.codeIn K cd_law_wide "_law_wide" = true) (k_law_wide : PySem.W.keepIn K (.ref f_law_wide) = true)
    (a_law_far : PySem.W.nsIn K mainGlobals "_law_far" = some (some (.ref f_law_far))) (l_law_far : K.lookup f_law_far = some ⟨oc_law_far, od_law_far, .func (PySem.W.fnOf "_law_far" "_law_far" (defArgs s_law_far) (defBody s_law_far) (defScope s_law_far) .none kV_law_far dc_law_far pm_law_far an_law_far cd_law_far ct_law_far), sl_law_far⟩) (c_law_far : PySem.W.codeIn K cd_law_far "_law_far" = true) (k_law_far : PySem.W.keepIn K (.ref f_law_far) = true)
    (a_law_tokens : PySem.W.nsIn K mainGlobals "_law_tokens" = some (some (.ref f_law_tokens))) (l_law_tokens : K.lookup f_law_tokens = some ⟨oc_law_tokens, od_law_tokens, .func (PySem.W.fnOf "_law_tokens" "_law_tokens" (defArgs s_law_tokens) (defBody s_law_tokens) (defScope s_law_tokens) .none kV_law_tokens dc_law_tokens pm_law_tokens an_law_tokens cd_law_tokens ct_law_tokens), sl_law_tokens⟩) (c_law_tokens : PySem.W.codeIn K cd_law_tokens "_law_tokens" = true) (k_law_tokens : PySem.W.keepIn K (.ref f_law_tokens) = true)
    (a_law_written : PySem.W.nsIn K mainGlobals "_law_written" = some (some (.ref f_law_written))) (l_law_written : K.lookup f_law_written = some ⟨oc_law_written, od_law_written, .func (PySem.W.fnOf "_law_written" "_law_written" (defArgs s_law_written) (defBody s_law_written) (defScope s_law_written) .none kV_law_written dc_law_written pm_law_written an_law_written cd_law_written ct_law_written), sl_law_written⟩) (c_law_written : PySem.W.codeIn K cd_law_written "_law_written" = true) (k_law_written : PySem.W.keepIn K (.ref f_law_written) = true)
    (a_law_item_text : PySem.W.nsIn K mainGlobals "_law_item_text" = some (some (.ref f_law_item_text))) (l_law_item_text : K.lookup f_law_item_text = some ⟨oc_law_item_text, od_law_item_text, .func (PySem.W.fnOf "_law_item_text" "_law_item_text" (defArgs s_law_item_text) (defBody s_law_item_text) (defScope s_law_item_text) .none kV_law_item_text dc_law_item_text pm_law_item_text an_law_item_text cd_law_item_text ct_law_item_text), sl_law_item_text⟩) (c_law_item_text : PySem.W.codeIn K cd_law_item_text "_law_item_text" = true) (k_law_item_text : PySem.W.keepIn K (.ref f_law_item_text) = true)
    (a_law_rows_of_text : PySem.W.nsIn K mainGlobals "_law_rows_of_text" = some (some (.ref f_law_rows_of_text))) (l_law_rows_of_text : K.lookup f_law_rows_of_text = some ⟨oc_law_rows_of_text, od_law_rows_of_text, .func (PySem.W.fnOf "_law_rows_of_text" "_law_rows_of_text" (defArgs s_law_rows_of_text) (defBody s_law_rows_of_text) (defScope s_law_rows_of_text) .none kV_law_rows_of_text dc_law_rows_of_text pm_law_rows_of_text an_law_rows_of_text cd_law_rows_of_text ct_law_rows_of_text), sl_law_rows_of_text⟩) (c_law_rows_of_text : PySem.W.codeIn K cd_law_rows_of_text "_law_rows_of_text" = true) (k_law_rows_of_text : PySem.W.keepIn K (.ref f_law_rows_of_text) = true)
    (alaw : PySem.W.nsIn K mainGlobals "law" = some (some (.ref flaw))) (llaw : K.lookup flaw = some ⟨oclaw, odlaw, .func (PySem.W.fnOf "law" "law" (defArgs slaw) (defBody slaw) (defScope slaw) .none kVlaw dclaw pmlaw anlaw cdlaw ctlaw), sllaw⟩) (claw : PySem.W.codeIn K cdlaw "law" = true) (klaw : PySem.W.keepIn K (.ref flaw) = true)
    (z_abs : PySem.W.nsIn K mainGlobals "abs" = some none)
    (z_int : PySem.W.nsIn K mainGlobals "int" = some none)
    (z_isinstance : PySem.W.nsIn K mainGlobals "isinstance" = some none)
    (z_len : PySem.W.nsIn K mainGlobals "len" = some none)
    (z_list : PySem.W.nsIn K mainGlobals "list" = some none)
    (z_min : PySem.W.nsIn K mainGlobals "min" = some none)
    (z_range : PySem.W.nsIn K mainGlobals "range" = some none)
    (z_str : PySem.W.nsIn K mainGlobals "str" = some none)
    (z_tuple : PySem.W.nsIn K mainGlobals "tuple" = some none)
    (z_zip : PySem.W.nsIn K mainGlobals "zip" = some none)
    : ∃ fd : FuncData, (∀ (s : Shared) (v : Value), BindsTo s fd ⟨[v], []⟩ [("script", v)]) ∧ ∀ base : Heap, K.In base → base.Ns mainGlobals mg → FnOk l.prog w K mg base CX0 20 fa fd ["script"] (spLaw K) := by
  have e := hfa.symm.trans (PySem.W.mg_of X G alaw)
  cases e
  let T : Txt K mg := {
    z_abs := PySem.W.mg_none_of X G z_abs
    z_int := PySem.W.mg_none_of X G z_int
    z_isinstance := PySem.W.mg_none_of X G z_isinstance
    z_len := PySem.W.mg_none_of X G z_len
    z_list := PySem.W.mg_none_of X G z_list
    z_min := PySem.W.mg_none_of X G z_min
    z_range := PySem.W.mg_none_of X G z_range
    z_str := PySem.W.mg_none_of X G z_str
    z_tuple := PySem.W.mg_none_of X G z_tuple
    z_zip := PySem.W.mg_none_of X G z_zip
    aparts_in := fparts_in
    dparts_in := _
    Fparts_in := fun_mk (st := sparts_in) lparts_in cparts_in kparts_in
    mparts_in := PySem.W.mg_of X G aparts_in
    anames_of := fnames_of
    dnames_of := _
    Fnames_of := fun_mk (st := snames_of) lnames_of cnames_of knames_of
    mnames_of := PySem.W.mg_of X G anames_of
    a_written := f_written
    d_written := _
    F_written := fun_mk (st := s_written) l_written c_written k_written
    m_written := PySem.W.mg_of X G a_written
    awrite_plant := fwrite_plant
    dwrite_plant := _
    Fwrite_plant := fun_mk (st := swrite_plant) lwrite_plant cwrite_plant kwrite_plant
    mwrite_plant := PySem.W.mg_of X G awrite_plant
    a_range_lines := f_range_lines
    d_range_lines := _
    F_range_lines := fun_mk (st := s_range_lines) l_range_lines c_range_lines k_range_lines
    m_range_lines := PySem.W.mg_of X G a_range_lines
    a_law_draws := f_law_draws
    d_law_draws := _
    F_law_draws := fun_mk (st := s_law_draws) l_law_draws c_law_draws k_law_draws
    m_law_draws := PySem.W.mg_of X G a_law_draws
    a_law_take := f_law_take
    d_law_take := _
    F_law_take := fun_mk (st := s_law_take) l_law_take c_law_take k_law_take
    m_law_take := PySem.W.mg_of X G a_law_take
    a_law_cell := f_law_cell
    d_law_cell := _
    F_law_cell := fun_mk (st := s_law_cell) l_law_cell c_law_cell k_law_cell
    m_law_cell := PySem.W.mg_of X G a_law_cell
    a_law_word := f_law_word
    d_law_word := _
    F_law_word := fun_mk (st := s_law_word) l_law_word c_law_word k_law_word
    m_law_word := PySem.W.mg_of X G a_law_word
    a_law_some_word := f_law_some_word
    d_law_some_word := _
    F_law_some_word := fun_mk (st := s_law_some_word) l_law_some_word c_law_some_word k_law_some_word
    m_law_some_word := PySem.W.mg_of X G a_law_some_word
    a_law_reserved := f_law_reserved
    d_law_reserved := _
    F_law_reserved := fun_mk (st := s_law_reserved) l_law_reserved c_law_reserved k_law_reserved
    m_law_reserved := PySem.W.mg_of X G a_law_reserved
    a_law_name := f_law_name
    d_law_name := _
    F_law_name := fun_mk (st := s_law_name) l_law_name c_law_name k_law_name
    m_law_name := PySem.W.mg_of X G a_law_name
    a_law_names := f_law_names
    d_law_names := _
    F_law_names := fun_mk (st := s_law_names) l_law_names c_law_names k_law_names
    m_law_names := PySem.W.mg_of X G a_law_names
    a_law_number := f_law_number
    d_law_number := _
    F_law_number := fun_mk (st := s_law_number) l_law_number c_law_number k_law_number
    m_law_number := PySem.W.mg_of X G a_law_number
    a_law_leaf := f_law_leaf
    d_law_leaf := _
    F_law_leaf := fun_mk (st := s_law_leaf) l_law_leaf c_law_leaf k_law_leaf
    m_law_leaf := PySem.W.mg_of X G a_law_leaf
    a_law_expression := f_law_expression
    d_law_expression := _
    F_law_expression := fun_mk (st := s_law_expression) l_law_expression c_law_expression k_law_expression
    m_law_expression := PySem.W.mg_of X G a_law_expression
    a_law_test := f_law_test
    d_law_test := _
    F_law_test := fun_mk (st := s_law_test) l_law_test c_law_test k_law_test
    m_law_test := PySem.W.mg_of X G a_law_test
    a_law_inner := f_law_inner
    d_law_inner := _
    F_law_inner := fun_mk (st := s_law_inner) l_law_inner c_law_inner k_law_inner
    m_law_inner := PySem.W.mg_of X G a_law_inner
    a_law_ranges := f_law_ranges
    d_law_ranges := _
    F_law_ranges := fun_mk (st := s_law_ranges) l_law_ranges c_law_ranges k_law_ranges
    m_law_ranges := PySem.W.mg_of X G a_law_ranges
    a_law_step := f_law_step
    d_law_step := _
    F_law_step := fun_mk (st := s_law_step) l_law_step c_law_step k_law_step
    m_law_step := PySem.W.mg_of X G a_law_step
    a_law_plant := f_law_plant
    d_law_plant := _
    F_law_plant := fun_mk (st := s_law_plant) l_law_plant c_law_plant k_law_plant
    m_law_plant := PySem.W.mg_of X G a_law_plant
    a_law_wide := f_law_wide
    d_law_wide := _
    F_law_wide := fun_mk (st := s_law_wide) l_law_wide c_law_wide k_law_wide
    m_law_wide := PySem.W.mg_of X G a_law_wide
    a_law_far := f_law_far
    d_law_far := _
    F_law_far := fun_mk (st := s_law_far) l_law_far c_law_far k_law_far
    m_law_far := PySem.W.mg_of X G a_law_far
    a_law_tokens := f_law_tokens
    d_law_tokens := _
    F_law_tokens := fun_mk (st := s_law_tokens) l_law_tokens c_law_tokens k_law_tokens
    m_law_tokens := PySem.W.mg_of X G a_law_tokens
    a_law_written := f_law_written
    d_law_written := _
    F_law_written := fun_mk (st := s_law_written) l_law_written c_law_written k_law_written
    m_law_written := PySem.W.mg_of X G a_law_written
    a_law_item_text := f_law_item_text
    d_law_item_text := _
    F_law_item_text := fun_mk (st := s_law_item_text) l_law_item_text c_law_item_text k_law_item_text
    m_law_item_text := PySem.W.mg_of X G a_law_item_text
    a_law_rows_of_text := f_law_rows_of_text
    d_law_rows_of_text := _
    F_law_rows_of_text := fun_mk (st := s_law_rows_of_text) l_law_rows_of_text c_law_rows_of_text k_law_rows_of_text
    m_law_rows_of_text := PySem.W.mg_of X G a_law_rows_of_text
    alaw := fa
    dlaw := _
    Flaw := fun_mk (st := slaw) llaw claw klaw
    mlaw := PySem.W.mg_of X G alaw }
  refine ⟨T.dlaw, fun s v => .of_eq rfl, fun base _ _ => ?_⟩
  exact ok_law T
end NL
open PySem PySem.W PyProof.Rows
set_option maxRecDepth 100000 in
set_option maxHeartbeats 0 in
theorem PySem.Challenge.cw_neverleaves_k14_written_plants_holds : PySem.Challenge.rw_neverleaves_k14_written_plants.Holds := by
  w_on; o_law; k_head; (case hw => w_witness2)
  k_fill
  refine L2.walk_of (l := PySem.Challenge.rw_neverleaves_k14_written_plants) (n := 63) (k := 20) (x := "script") (CX := fun _ => L2.CX0) (sp := fun w => NL.spLaw _) rfl (by decide) rfl ⟨rfl, by decide, by decide⟩ (fun w h Y => PySem.W.kIn_of Y) ?F (fun _ _ a ns hl _ hS => ⟨a, ns, rfl, hS, hl, fun _ => rfl⟩) (fun _ _ _ _ _ h => h)
  case F =>
    intro w mg fa h KX G hmg
    refine' NL.all_mk KX G hmg ?aparts_in ?lparts_in ?cparts_in ?kparts_in ?anames_of ?lnames_of ?cnames_of ?knames_of ?a_written ?l_written ?c_written ?k_written ?awrite_plant ?lwrite_plant ?cwrite_plant ?kwrite_plant ?a_range_lines ?l_range_lines ?c_range_lines ?k_range_lines ?a_law_draws ?l_law_draws ?c_law_draws ?k_law_draws ?a_law_take ?l_law_take ?c_law_take ?k_law_take ?a_law_cell ?l_law_cell ?c_law_cell ?k_law_cell ?a_law_word ?l_law_word ?c_law_word ?k_law_word ?a_law_some_word ?l_law_some_word ?c_law_some_word ?k_law_some_word ?a_law_reserved ?l_law_reserved ?c_law_reserved ?k_law_reserved ?a_law_name ?l_law_name ?c_law_name ?k_law_name ?a_law_names ?l_law_names ?c_law_names ?k_law_names ?a_law_number ?l_law_number ?c_law_number ?k_law_number ?a_law_leaf ?l_law_leaf ?c_law_leaf ?k_law_leaf ?a_law_expression ?l_law_expression ?c_law_expression ?k_law_expression ?a_law_test ?l_law_test ?c_law_test ?k_law_test ?a_law_inner ?l_law_inner ?c_law_inner ?k_law_inner ?a_law_ranges ?l_law_ranges ?c_law_ranges ?k_law_ranges ?a_law_step ?l_law_step ?c_law_step ?k_law_step ?a_law_plant ?l_law_plant ?c_law_plant ?k_law_plant ?a_law_wide ?l_law_wide ?c_law_wide ?k_law_wide ?a_law_far ?l_law_far ?c_law_far ?k_law_far ?a_law_tokens ?l_law_tokens ?c_law_tokens ?k_law_tokens ?a_law_written ?l_law_written ?c_law_written ?k_law_written ?a_law_item_text ?l_law_item_text ?c_law_item_text ?k_law_item_text ?a_law_rows_of_text ?l_law_rows_of_text ?c_law_rows_of_text ?k_law_rows_of_text ?alaw ?llaw ?claw ?klaw  ?z_abs ?z_int ?z_isinstance ?z_len ?z_list ?z_min ?z_range ?z_str ?z_tuple ?z_zip
    (case aparts_in => k_is); (case lparts_in => k_is); (case cparts_in => k_is); (case kparts_in => k_is)
    (case anames_of => k_is); (case lnames_of => k_is); (case cnames_of => k_is); (case knames_of => k_is)
    (case a_written => k_is); (case l_written => k_is); (case c_written => k_is); (case k_written => k_is)
    (case awrite_plant => k_is); (case lwrite_plant => k_is); (case cwrite_plant => k_is); (case kwrite_plant => k_is)
    (case a_range_lines => k_is); (case l_range_lines => k_is); (case c_range_lines => k_is); (case k_range_lines => k_is)
    (case a_law_draws => k_is); (case l_law_draws => k_is); (case c_law_draws => k_is); (case k_law_draws => k_is)
    (case a_law_take => k_is); (case l_law_take => k_is); (case c_law_take => k_is); (case k_law_take => k_is)
    (case a_law_cell => k_is); (case l_law_cell => k_is); (case c_law_cell => k_is); (case k_law_cell => k_is)
    (case a_law_word => k_is); (case l_law_word => k_is); (case c_law_word => k_is); (case k_law_word => k_is)
    (case a_law_some_word => k_is); (case l_law_some_word => k_is); (case c_law_some_word => k_is); (case k_law_some_word => k_is)
    (case a_law_reserved => k_is); (case l_law_reserved => k_is); (case c_law_reserved => k_is); (case k_law_reserved => k_is)
    (case a_law_name => k_is); (case l_law_name => k_is); (case c_law_name => k_is); (case k_law_name => k_is)
    (case a_law_names => k_is); (case l_law_names => k_is); (case c_law_names => k_is); (case k_law_names => k_is)
    (case a_law_number => k_is); (case l_law_number => k_is); (case c_law_number => k_is); (case k_law_number => k_is)
    (case a_law_leaf => k_is); (case l_law_leaf => k_is); (case c_law_leaf => k_is); (case k_law_leaf => k_is)
    (case a_law_expression => k_is); (case l_law_expression => k_is); (case c_law_expression => k_is); (case k_law_expression => k_is)
    (case a_law_test => k_is); (case l_law_test => k_is); (case c_law_test => k_is); (case k_law_test => k_is)
    (case a_law_inner => k_is); (case l_law_inner => k_is); (case c_law_inner => k_is); (case k_law_inner => k_is)
    (case a_law_ranges => k_is); (case l_law_ranges => k_is); (case c_law_ranges => k_is); (case k_law_ranges => k_is)
    (case a_law_step => k_is); (case l_law_step => k_is); (case c_law_step => k_is); (case k_law_step => k_is)
    (case a_law_plant => k_is); (case l_law_plant => k_is); (case c_law_plant => k_is); (case k_law_plant => k_is)
    (case a_law_wide => k_is); (case l_law_wide => k_is); (case c_law_wide => k_is); (case k_law_wide => k_is)
    (case a_law_far => k_is); (case l_law_far => k_is); (case c_law_far => k_is); (case k_law_far => k_is)
    (case a_law_tokens => k_is); (case l_law_tokens => k_is); (case c_law_tokens => k_is); (case k_law_tokens => k_is)
    (case a_law_written => k_is); (case l_law_written => k_is); (case c_law_written => k_is); (case k_law_written => k_is)
    (case a_law_item_text => k_is); (case l_law_item_text => k_is); (case c_law_item_text => k_is); (case k_law_item_text => k_is)
    (case a_law_rows_of_text => k_is); (case l_law_rows_of_text => k_is); (case c_law_rows_of_text => k_is); (case k_law_rows_of_text => k_is)
    (case alaw => k_is); (case llaw => k_is); (case claw => k_is); (case klaw => k_is)
    (case z_abs => k_is)
    (case z_int => k_is)
    (case z_isinstance => k_is)
    (case z_len => k_is)
    (case z_list => k_is)
    (case z_min => k_is)
    (case z_range => k_is)
    (case z_str => k_is)
    (case z_tuple => k_is)
    (case z_zip => k_is)
