import PyProof.Rows.All
import Wide.All
import OpenK.AllK
import Wide.FinOn
import HandS.ForExc
import HandS.ForMost
import HandS.TupAny
import HandS.IsInst
import HandS.Codes
import HandS.FStr
import HandS.Zip
import HandS.More
import HandS.StrMore
import HandS.Text
import HandS.TupSets
import HandS.SetFor
import HandS.HotCalls
import HandS.ExcIs
import HandS.ExcCtx
import HandS.More
import HandS.Text
import HandS.ExcInitHot
import HandS.ExcField
import KE.KExcIs
import KE.KxIndex
import PySem.Challenge.RW_neverleaves_k15_plants_read_back
set_option Elab.async false
set_option linter.all false
set_option maxRecDepth 100000

namespace NL
open PySem PySem.Spec PyProof.Rows L2
def topS (i : Nat) : Stmt := PySem.Challenge.pw_neverleaves_k15_plants_read_back.main.body.getD i (.Pass ⟨0, 0, 0, 0⟩)
abbrev srun_end : Stmt := topS 10
abbrev Nrun_end : List Str := ["text", "at", "characters"]
abbrev Prun_end : List Str := ["text", "at", "characters"]
theorem scrun_end : FnScope Nrun_end Prun_end (defScope srun_end) := ⟨rfl, rfl, rfl, by decide +kernel, rfl, by decide +kernel, by decide +kernel⟩
abbrev sis_name : Stmt := topS 11
abbrev Nis_name : List Str := ["word"]
abbrev Pis_name : List Str := ["word"]
theorem scis_name : FnScope Nis_name Pis_name (defScope sis_name) := ⟨rfl, rfl, rfl, by decide +kernel, rfl, by decide +kernel, by decide +kernel⟩
abbrev sis_integer : Stmt := topS 12
abbrev Nis_integer : List Str := ["word", "digits"]
abbrev Pis_integer : List Str := ["word"]
theorem scis_integer : FnScope Nis_integer Pis_integer (defScope sis_integer) := ⟨rfl, rfl, rfl, by decide +kernel, rfl, by decide +kernel, by decide +kernel⟩
abbrev sparts_in : Stmt := topS 15
abbrev Nparts_in : List Str := ["whole", "word"]
abbrev Pparts_in : List Str := ["whole"]
theorem scparts_in : FnScope Nparts_in Pparts_in (defScope sparts_in) := ⟨rfl, rfl, rfl, by decide +kernel, rfl, by decide +kernel, by decide +kernel⟩
abbrev scheck_expression : Stmt := topS 16
abbrev Ncheck_expression : List Str := ["expression"]
abbrev Pcheck_expression : List Str := ["expression"]
theorem sccheck_expression : FnScope Ncheck_expression Pcheck_expression (defScope scheck_expression) := ⟨rfl, rfl, rfl, by decide +kernel, rfl, by decide +kernel, by decide +kernel⟩
abbrev scheck_condition : Stmt := topS 17
abbrev Ncheck_condition : List Str := ["condition"]
abbrev Pcheck_condition : List Str := ["condition"]
theorem sccheck_condition : FnScope Ncheck_condition Pcheck_condition (defScope scheck_condition) := ⟨rfl, rfl, rfl, by decide +kernel, rfl, by decide +kernel, by decide +kernel⟩
abbrev s_check : Stmt := topS 18
abbrev N_check : List Str := ["whole", "depth", "word", "part"]
abbrev P_check : List Str := ["whole", "depth"]
theorem sc_check : FnScope N_check P_check (defScope s_check) := ⟨rfl, rfl, rfl, by decide +kernel, rfl, by decide +kernel, by decide +kernel⟩
abbrev snames_in : Stmt := topS 19
abbrev Nnames_in : List Str := ["expression"]
abbrev Pnames_in : List Str := ["expression"]
theorem scnames_in : FnScope Nnames_in Pnames_in (defScope snames_in) := ⟨rfl, rfl, rfl, by decide +kernel, rfl, by decide +kernel, by decide +kernel⟩
abbrev s_all_names : Stmt := topS 20
abbrev N_all_names : List Str := ["whole", "found", "part"]
abbrev P_all_names : List Str := ["whole"]
theorem sc_all_names : FnScope N_all_names P_all_names (defScope s_all_names) := ⟨rfl, rfl, rfl, by decide +kernel, rfl, by decide +kernel, by decide +kernel⟩
abbrev stokens_of : Stmt := topS 22
abbrev Ntokens_of : List Str := ["text", "tokens", "at", "end"]
abbrev Ptokens_of : List Str := ["text"]
theorem sctokens_of : FnScope Ntokens_of Ptokens_of (defScope stokens_of) := ⟨rfl, rfl, rfl, by decide +kernel, rfl, by decide +kernel, by decide +kernel⟩
abbrev s_piece_end : Stmt := topS 23
abbrev N_piece_end : List Str := ["text", "at"]
abbrev P_piece_end : List Str := ["text", "at"]
theorem sc_piece_end : FnScope N_piece_end P_piece_end (defScope s_piece_end) := ⟨rfl, rfl, rfl, by decide +kernel, rfl, by decide +kernel, by decide +kernel⟩
abbrev sread_whole : Stmt := topS 27
abbrev Nread_whole : List Str := ["text", "kind", "tokens", "whole", "at"]
abbrev Pread_whole : List Str := ["text", "kind"]
theorem scread_whole : FnScope Nread_whole Pread_whole (defScope sread_whole) := ⟨rfl, rfl, rfl, by decide +kernel, rfl, by decide +kernel, by decide +kernel⟩
abbrev s_pass_token : Stmt := topS 28
abbrev N_pass_token : List Str := ["tokens", "at", "due", "word", "column"]
abbrev P_pass_token : List Str := ["tokens", "at", "due"]
theorem sc_pass_token : FnScope N_pass_token P_pass_token (defScope s_pass_token) := ⟨rfl, rfl, rfl, by decide +kernel, rfl, by decide +kernel, by decide +kernel⟩
abbrev s_read_part : Stmt := topS 29
abbrev N_read_part : List Str := ["tokens", "at", "kind", "depth"]
abbrev P_read_part : List Str := ["tokens", "at", "kind", "depth"]
theorem sc_read_part : FnScope N_read_part P_read_part (defScope s_read_part) := ⟨rfl, rfl, rfl, by decide +kernel, rfl, by decide +kernel, by decide +kernel⟩
abbrev s_read_divisor : Stmt := topS 30
abbrev N_read_divisor : List Str := ["tokens", "at", "word", "column"]
abbrev P_read_divisor : List Str := ["tokens", "at"]
theorem sc_read_divisor : FnScope N_read_divisor P_read_divisor (defScope s_read_divisor) := ⟨rfl, rfl, rfl, by decide +kernel, rfl, by decide +kernel, by decide +kernel⟩
abbrev s_read_expression : Stmt := topS 31
abbrev N_read_expression : List Str := ["tokens", "at", "depth", "word", "column", "parts", "end"]
abbrev P_read_expression : List Str := ["tokens", "at", "depth"]
theorem sc_read_expression : FnScope N_read_expression P_read_expression (defScope s_read_expression) := ⟨rfl, rfl, rfl, by decide +kernel, rfl, by decide +kernel, by decide +kernel⟩
abbrev s_read_condition : Stmt := topS 32
abbrev N_read_condition : List Str := ["tokens", "at", "depth", "word", "column", "conditions", "end", "parts"]
abbrev P_read_condition : List Str := ["tokens", "at", "depth"]
theorem sc_read_condition : FnScope N_read_condition P_read_condition (defScope s_read_condition) := ⟨rfl, rfl, rfl, by decide +kernel, rfl, by decide +kernel, by decide +kernel⟩
abbrev s_read_parts : Stmt := topS 33
abbrev N_read_parts : List Str := ["tokens", "at", "kinds", "depth", "parts", "before", "kind", "part"]
abbrev P_read_parts : List Str := ["tokens", "at", "kinds", "depth"]
theorem sc_read_parts : FnScope N_read_parts P_read_parts (defScope s_read_parts) := ⟨rfl, rfl, rfl, by decide +kernel, rfl, by decide +kernel, by decide +kernel⟩
abbrev s_read_conditions : Stmt := topS 34
abbrev N_read_conditions : List Str := ["tokens", "at", "depth", "first", "conditions", "condition"]
abbrev P_read_conditions : List Str := ["tokens", "at", "depth"]
theorem sc_read_conditions : FnScope N_read_conditions P_read_conditions (defScope s_read_conditions) := ⟨rfl, rfl, rfl, by decide +kernel, rfl, by decide +kernel, by decide +kernel⟩
abbrev snames_of : Stmt := topS 36
abbrev Nnames_of : List Str := ["ranges", "name", "low", "high"]
abbrev Pnames_of : List Str := ["ranges"]
theorem scnames_of : FnScope Nnames_of Pnames_of (defScope snames_of) := ⟨rfl, rfl, rfl, by decide +kernel, rfl, by decide +kernel, by decide +kernel⟩
abbrev scheck_plant : Stmt := topS 37
abbrev Ncheck_plant : List Str := ["plant", "variables", "inputs", "disturbances", "steps", "allowed"]
abbrev Pcheck_plant : List Str := ["plant"]
theorem sccheck_plant : FnScope Ncheck_plant Pcheck_plant (defScope scheck_plant) := ⟨rfl, rfl, rfl, by decide +kernel, rfl, by decide +kernel, by decide +kernel⟩
abbrev s_check_ranges : Stmt := topS 38
abbrev N_check_ranges : List Str := ["ranges", "taken", "name", "low", "high"]
abbrev P_check_ranges : List Str := ["ranges"]
theorem sc_check_ranges : FnScope N_check_ranges P_check_ranges (defScope s_check_ranges) := ⟨rfl, rfl, rfl, by decide +kernel, rfl, by decide +kernel, by decide +kernel⟩
abbrev s_check_parts : Stmt := topS 39
abbrev N_check_parts : List Str := ["steps", "allowed", "step"]
abbrev P_check_parts : List Str := ["steps", "allowed"]
theorem sc_check_parts : FnScope N_check_parts P_check_parts (defScope s_check_parts) := ⟨rfl, rfl, rfl, by decide +kernel, rfl, by decide +kernel, by decide +kernel⟩
abbrev s_check_names_in : Stmt := topS 40
abbrev N_check_names_in : List Str := ["parts", "names", "part", "name"]
abbrev P_check_names_in : List Str := ["parts", "names"]
theorem sc_check_names_in : FnScope N_check_names_in P_check_names_in (defScope s_check_names_in) := ⟨rfl, rfl, rfl, by decide +kernel, rfl, by decide +kernel, by decide +kernel⟩
abbrev s_written : Stmt := topS 42
abbrev N_written : List Str := ["whole", "word", "parts", "part"]
abbrev P_written : List Str := ["whole"]
theorem sc_written : FnScope N_written P_written (defScope s_written) := ⟨rfl, rfl, rfl, by decide +kernel, rfl, by decide +kernel, by decide +kernel⟩
abbrev swrite_plant : Stmt := topS 43
abbrev Nwrite_plant : List Str := ["plant", "variables", "inputs", "disturbances", "steps", "allowed", "lines", "name", "step", "line"]
abbrev Pwrite_plant : List Str := ["plant"]
theorem scwrite_plant : FnScope Nwrite_plant Pwrite_plant (defScope swrite_plant) := ⟨rfl, rfl, rfl, by decide +kernel, rfl, by decide +kernel, by decide +kernel⟩
abbrev s_range_lines : Stmt := topS 44
abbrev N_range_lines : List Str := ["kind", "ranges", "name", "low", "high"]
abbrev P_range_lines : List Str := ["kind", "ranges"]
theorem sc_range_lines : FnScope N_range_lines P_range_lines (defScope s_range_lines) := ⟨rfl, rfl, rfl, by decide +kernel, rfl, by decide +kernel, by decide +kernel⟩
abbrev sread_plant : Stmt := topS 45
abbrev Nread_plant : List Str := ["text", "lines", "variables", "at", "inputs", "known", "disturbances", "named", "steps", "name", "allowed"]
abbrev Pread_plant : List Str := ["text"]
theorem scread_plant : FnScope Nread_plant Pread_plant (defScope sread_plant) := ⟨rfl, rfl, rfl, by decide +kernel, rfl, by decide +kernel, by decide +kernel⟩
abbrev s_read_ranges : Stmt := topS 46
abbrev N_read_ranges : List Str := ["lines", "at", "kind", "taken", "ranges", "words"]
abbrev P_read_ranges : List Str := ["lines", "at", "kind", "taken"]
theorem sc_read_ranges : FnScope N_read_ranges P_read_ranges (defScope s_read_ranges) := ⟨rfl, rfl, rfl, by decide +kernel, rfl, by decide +kernel, by decide +kernel⟩
abbrev s_is_range : Stmt := topS 47
abbrev N_is_range : List Str := ["words", "taken", "name", "low", "high"]
abbrev P_is_range : List Str := ["words", "taken"]
theorem sc_is_range : FnScope N_is_range P_is_range (defScope s_is_range) := ⟨rfl, rfl, rfl, by decide +kernel, rfl, by decide +kernel, by decide +kernel⟩
abbrev s_read_behind : Stmt := topS 48
abbrev N_read_behind : List Str := ["start", "lines", "at", "kind", "names", "rest", "whole", "name"]
abbrev P_read_behind : List Str := ["start", "lines", "at", "kind", "names"]
theorem sc_read_behind : FnScope N_read_behind P_read_behind (defScope s_read_behind) := ⟨rfl, rfl, rfl, by decide +kernel, rfl, by decide +kernel, by decide +kernel⟩
abbrev s_law_draws : Stmt := topS 50
abbrev N_law_draws : List Str := ["script", "many", "cells", "cell", "rest", "draws", "k", "at", "once"]
abbrev P_law_draws : List Str := ["script", "many"]
theorem sc_law_draws : FnScope N_law_draws P_law_draws (defScope s_law_draws) := ⟨rfl, rfl, rfl, by decide +kernel, rfl, by decide +kernel, by decide +kernel⟩
abbrev s_law_take : Stmt := topS 51
abbrev N_law_take : List Str := ["draws", "many"]
abbrev P_law_take : List Str := ["draws", "many"]
theorem sc_law_take : FnScope N_law_take P_law_take (defScope s_law_take) := ⟨rfl, rfl, rfl, by decide +kernel, rfl, by decide +kernel, by decide +kernel⟩
abbrev s_law_cell : Stmt := topS 52
abbrev N_law_cell : List Str := ["script", "draws"]
abbrev P_law_cell : List Str := ["script", "draws"]
theorem sc_law_cell : FnScope N_law_cell P_law_cell (defScope s_law_cell) := ⟨rfl, rfl, rfl, by decide +kernel, rfl, by decide +kernel, by decide +kernel⟩
abbrev s_law_word : Stmt := topS 53
abbrev N_law_word : List Str := ["number", "word", "k"]
abbrev P_law_word : List Str := ["number"]
theorem sc_law_word : FnScope N_law_word P_law_word (defScope s_law_word) := ⟨rfl, rfl, rfl, by decide +kernel, rfl, by decide +kernel, by decide +kernel⟩
abbrev s_law_some_word : Stmt := topS 54
abbrev N_law_some_word : List Str := ["draws", "number", "great"]
abbrev P_law_some_word : List Str := ["draws"]
theorem sc_law_some_word : FnScope N_law_some_word P_law_some_word (defScope s_law_some_word) := ⟨rfl, rfl, rfl, by decide +kernel, rfl, by decide +kernel, by decide +kernel⟩
abbrev s_law_reserved : Stmt := topS 55
abbrev N_law_reserved : List Str := ["first"]
abbrev P_law_reserved : List Str := []
theorem sc_law_reserved : FnScope N_law_reserved P_law_reserved (defScope s_law_reserved) := ⟨rfl, rfl, rfl, by decide +kernel, rfl, by decide +kernel, by decide +kernel⟩
abbrev s_law_name : Stmt := topS 56
abbrev N_law_name : List Str := ["draws", "known", "name", "near"]
abbrev P_law_name : List Str := ["draws"]
theorem sc_law_name : FnScope N_law_name P_law_name (defScope s_law_name) := ⟨rfl, rfl, rfl, by decide +kernel, rfl, by decide +kernel, by decide +kernel⟩
abbrev s_law_names : Stmt := topS 57
abbrev N_law_names : List Str := ["draws", "many", "names", "k", "name"]
abbrev P_law_names : List Str := ["draws", "many"]
theorem sc_law_names : FnScope N_law_names P_law_names (defScope s_law_names) := ⟨rfl, rfl, rfl, by decide +kernel, rfl, by decide +kernel, by decide +kernel⟩
abbrev s_law_number : Stmt := topS 58
abbrev N_law_number : List Str := ["draws", "cell"]
abbrev P_law_number : List Str := ["draws", "cell"]
theorem sc_law_number : FnScope N_law_number P_law_number (defScope s_law_number) := ⟨rfl, rfl, rfl, by decide +kernel, rfl, by decide +kernel, by decide +kernel⟩
abbrev s_law_leaf : Stmt := topS 59
abbrev N_law_leaf : List Str := ["draws", "names", "cell"]
abbrev P_law_leaf : List Str := ["draws", "names", "cell"]
theorem sc_law_leaf : FnScope N_law_leaf P_law_leaf (defScope s_law_leaf) := ⟨rfl, rfl, rfl, by decide +kernel, rfl, by decide +kernel, by decide +kernel⟩
abbrev s_law_expression : Stmt := topS 60
abbrev N_law_expression : List Str := ["draws", "names", "cell", "depth", "kind", "one", "two"]
abbrev P_law_expression : List Str := ["draws", "names", "cell", "depth"]
theorem sc_law_expression : FnScope N_law_expression P_law_expression (defScope s_law_expression) := ⟨rfl, rfl, rfl, by decide +kernel, rfl, by decide +kernel, by decide +kernel⟩
abbrev s_law_test : Stmt := topS 61
abbrev N_law_test : List Str := ["draws", "names", "cell", "depth", "kind", "one", "many", "k"]
abbrev P_law_test : List Str := ["draws", "names", "cell", "depth"]
theorem sc_law_test : FnScope N_law_test P_law_test (defScope s_law_test) := ⟨rfl, rfl, rfl, by decide +kernel, rfl, by decide +kernel, by decide +kernel⟩
abbrev s_law_inner : Stmt := topS 62
abbrev N_law_inner : List Str := ["item"]
abbrev P_law_inner : List Str := ["item"]
theorem sc_law_inner : FnScope N_law_inner P_law_inner (defScope s_law_inner) := ⟨rfl, rfl, rfl, by decide +kernel, rfl, by decide +kernel, by decide +kernel⟩
abbrev s_law_depth : Stmt := topS 63
abbrev N_law_depth : List Str := ["item", "part"]
abbrev P_law_depth : List Str := ["item"]
theorem sc_law_depth : FnScope N_law_depth P_law_depth (defScope s_law_depth) := ⟨rfl, rfl, rfl, by decide +kernel, rfl, by decide +kernel, by decide +kernel⟩
abbrev s_law_is_test : Stmt := topS 64
abbrev N_law_is_test : List Str := ["item"]
abbrev P_law_is_test : List Str := ["item"]
theorem sc_law_is_test : FnScope N_law_is_test P_law_is_test (defScope s_law_is_test) := ⟨rfl, rfl, rfl, by decide +kernel, rfl, by decide +kernel, by decide +kernel⟩
abbrev s_law_around : Stmt := topS 65
abbrev N_law_around : List Str := ["item", "side", "many", "turn", "k", "both", "parts", "found"]
abbrev P_law_around : List Str := ["item", "side", "many", "turn"]
theorem sc_law_around : FnScope N_law_around P_law_around (defScope s_law_around) := ⟨rfl, rfl, rfl, by decide +kernel, rfl, by decide +kernel, by decide +kernel⟩
abbrev s_law_ranges : Stmt := topS 66
abbrev N_law_ranges : List Str := ["draws", "names", "room", "cell", "found", "name", "size", "low"]
abbrev P_law_ranges : List Str := ["draws", "names", "room", "cell"]
theorem sc_law_ranges : FnScope N_law_ranges P_law_ranges (defScope s_law_ranges) := ⟨rfl, rfl, rfl, by decide +kernel, rfl, by decide +kernel, by decide +kernel⟩
abbrev s_law_step : Stmt := topS 67
abbrev N_law_step : List Str := ["draws", "row", "names", "cell", "depth", "kind", "own", "found"]
abbrev P_law_step : List Str := ["draws", "row", "names", "cell", "depth"]
theorem sc_law_step : FnScope N_law_step P_law_step (defScope s_law_step) := ⟨rfl, rfl, rfl, by decide +kernel, rfl, by decide +kernel, by decide +kernel⟩
abbrev s_law_plant : Stmt := topS 68
abbrev N_law_plant : List Str := ["draws", "cell", "rooms", "counts", "names", "variables", "inputs", "noises", "deep", "steps", "row", "allowed"]
abbrev P_law_plant : List Str := ["draws", "cell", "rooms"]
theorem sc_law_plant : FnScope N_law_plant P_law_plant (defScope s_law_plant) := ⟨rfl, rfl, rfl, by decide +kernel, rfl, by decide +kernel, by decide +kernel⟩
abbrev s_law_wide : Stmt := topS 69
abbrev N_law_wide : List Str := ["draws", "plant", "cell", "at", "row", "far", "wide", "strange", "named", "more", "j", "k", "steps"]
abbrev P_law_wide : List Str := ["draws", "plant", "cell"]
theorem sc_law_wide : FnScope N_law_wide P_law_wide (defScope s_law_wide) := ⟨rfl, rfl, rfl, by decide +kernel, rfl, by decide +kernel, by decide +kernel⟩
abbrev s_law_far : Stmt := topS 70
abbrev N_law_far : List Str := ["script", "draws", "cell"]
abbrev P_law_far : List Str := ["script", "draws"]
theorem sc_law_far : FnScope N_law_far P_law_far (defScope s_law_far) := ⟨rfl, rfl, rfl, by decide +kernel, rfl, by decide +kernel, by decide +kernel⟩
abbrev s_law_tokens : Stmt := topS 71
abbrev N_law_tokens : List Str := ["item", "found", "parts", "k"]
abbrev P_law_tokens : List Str := ["item"]
theorem sc_law_tokens : FnScope N_law_tokens P_law_tokens (defScope s_law_tokens) := ⟨rfl, rfl, rfl, by decide +kernel, rfl, by decide +kernel, by decide +kernel⟩
abbrev s_law_written : Stmt := topS 72
abbrev N_law_written : List Str := ["tokens", "token"]
abbrev P_law_written : List Str := ["tokens"]
theorem sc_law_written : FnScope N_law_written P_law_written (defScope s_law_written) := ⟨rfl, rfl, rfl, by decide +kernel, rfl, by decide +kernel, by decide +kernel⟩
abbrev s_law_item_text : Stmt := topS 73
abbrev N_law_item_text : List Str := ["item"]
abbrev P_law_item_text : List Str := ["item"]
theorem sc_law_item_text : FnScope N_law_item_text P_law_item_text (defScope s_law_item_text) := ⟨rfl, rfl, rfl, by decide +kernel, rfl, by decide +kernel, by decide +kernel⟩
abbrev s_law_rows_of_text : Stmt := topS 74
abbrev N_law_rows_of_text : List Str := ["plant", "rows", "k", "row"]
abbrev P_law_rows_of_text : List Str := ["plant"]
theorem sc_law_rows_of_text : FnScope N_law_rows_of_text P_law_rows_of_text (defScope s_law_rows_of_text) := ⟨rfl, rfl, rfl, by decide +kernel, rfl, by decide +kernel, by decide +kernel⟩
abbrev s_law_same : Stmt := topS 75
abbrev N_law_same : List Str := ["actual", "due", "k"]
abbrev P_law_same : List Str := ["actual", "due"]
theorem sc_law_same : FnScope N_law_same P_law_same (defScope s_law_same) := ⟨rfl, rfl, rfl, by decide +kernel, rfl, by decide +kernel, by decide +kernel⟩
abbrev s_law_called : Stmt := topS 76
abbrev N_law_called : List Str := ["draws", "plant", "name", "names", "row", "variables"]
abbrev P_law_called : List Str := ["draws", "plant"]
theorem sc_law_called : FnScope N_law_called P_law_called (defScope s_law_called) := ⟨rfl, rfl, rfl, by decide +kernel, rfl, by decide +kernel, by decide +kernel⟩
abbrev s_law_deep : Stmt := topS 77
abbrev N_law_deep : List Str := ["draws", "plant", "step", "allowed"]
abbrev P_law_deep : List Str := ["draws", "plant"]
theorem sc_law_deep : FnScope N_law_deep P_law_deep (defScope s_law_deep) := ⟨rfl, rfl, rfl, by decide +kernel, rfl, by decide +kernel, by decide +kernel⟩
abbrev slaw : Stmt := topS 78
abbrev Nlaw : List Str := ["script", "draws", "cell", "plant", "text", "row", "actual"]
abbrev Plaw : List Str := ["script"]
theorem sclaw : FnScope Nlaw Plaw (defScope slaw) := ⟨rfl, rfl, rfl, by decide +kernel, rfl, by decide +kernel, by decide +kernel⟩
def KT (K : PySem.W.Frag) (a : Addr) (ys : List V) : Prop := ∃ o its n, List.lookup a K = some o ∧ o.cls = .type "tuple" ∧ o.data = .seq its n ∧ its.size ≤ sizeLine ∧ L2.Vals ys its.toList
theorem kt_mk {K : PySem.W.Frag} {a : Addr} {ys : List V} {o : Obj} {its : Array Value} {n : Nat} (h1 : List.lookup a K = some o) (h2 : o.cls = .type "tuple") (h3 : o.data = .seq its n) (h4 : its.size ≤ sizeLine) (h5 : L2.Vals ys its.toList) : KT K a ys := ⟨o, its, n, h1, h2, h3, h4, h5⟩
def rows_EXPRESSION_PARTS : List (Str × List Str) := [("add", ["expression", "expression"]), ("sub", ["expression", "expression"]), ("mul", ["expression", "expression"]), ("div", ["expression", "divisor"]), ("mod", ["expression", "divisor"]), ("min", ["expression", "expression"]), ("max", ["expression", "expression"]), ("abs", ["expression"]), ("if", ["condition", "expression", "expression"])]
def rows_CONDITION_PARTS : List (Str × List Str) := [("less", ["expression", "expression"]), ("equal", ["expression", "expression"]), ("not", ["condition"])]
def kstr : Value → Str | .str x _ => x | _ => ""
structure Dic (K : PySem.W.Frag) (w : World) (mg : Str → Option Value) where
  c_EXPRESSION_PARTS : Addr
  g_EXPRESSION_PARTS : mg "EXPRESSION_PARTS" = some (.ref c_EXPRESSION_PARTS)
  e_EXPRESSION_PARTS : Array DictEntry
  n_EXPRESSION_PARTS : Nat
  D_EXPRESSION_PARTS : KDict K w c_EXPRESSION_PARTS e_EXPRESSION_PARTS n_EXPRESSION_PARTS
  y_EXPRESSION_PARTS : e_EXPRESSION_PARTS.toList.map (fun e => kstr e.key) = rows_EXPRESSION_PARTS.map (·.1)
  q_EXPRESSION_PARTS : ∀ x ks, (x, ks) ∈ rows_EXPRESSION_PARTS → ∃ t, PySem.W.nsIn K c_EXPRESSION_PARTS x = some (some (.ref t)) ∧ KT K t (ks.map V.str)
  c_CONDITION_PARTS : Addr
  g_CONDITION_PARTS : mg "CONDITION_PARTS" = some (.ref c_CONDITION_PARTS)
  e_CONDITION_PARTS : Array DictEntry
  n_CONDITION_PARTS : Nat
  D_CONDITION_PARTS : KDict K w c_CONDITION_PARTS e_CONDITION_PARTS n_CONDITION_PARTS
  y_CONDITION_PARTS : e_CONDITION_PARTS.toList.map (fun e => kstr e.key) = rows_CONDITION_PARTS.map (·.1)
  q_CONDITION_PARTS : ∀ x ks, (x, ks) ∈ rows_CONDITION_PARTS → ∃ t, PySem.W.nsIn K c_CONDITION_PARTS x = some (some (.ref t)) ∧ KT K t (ks.map V.str)
structure Txt (K : PySem.W.Frag) (mg : Str → Option Value) where
  z_abs : mg "abs" = none
  z_all : mg "all" = none
  z_bool : mg "bool" = none
  z_int : mg "int" = none
  z_isinstance : mg "isinstance" = none
  z_len : mg "len" = none
  z_list : mg "list" = none
  z_max : mg "max" = none
  z_min : mg "min" = none
  z_range : mg "range" = none
  z_set : mg "set" = none
  z_sorted : mg "sorted" = none
  z_str : mg "str" = none
  z_tuple : mg "tuple" = none
  z_zip : mg "zip" = none
  u_LETTERS : Value
  g_LETTERS : mg "LETTERS" = some u_LETTERS
  r_LETTERS : L2.RelV (.str "abcdefghijklmnopqrstuvwxyz") u_LETTERS
  u_DIGITS : Value
  g_DIGITS : mg "DIGITS" = some u_DIGITS
  r_DIGITS : L2.RelV (.str "0123456789") u_DIGITS
  u_MOST_DIGITS : Value
  g_MOST_DIGITS : mg "MOST_DIGITS" = some u_MOST_DIGITS
  r_MOST_DIGITS : L2.RelV (.int 60) u_MOST_DIGITS
  c_WORDS : Addr
  g_WORDS : mg "WORDS" = some (.ref c_WORDS)
  k_WORDS : KT K c_WORDS [(.str "true"), (.str "false"), (.str "add"), (.str "sub"), (.str "mul"), (.str "div"), (.str "mod"), (.str "min"), (.str "max"), (.str "abs"), (.str "if"), (.str "less"), (.str "equal"), (.str "not"), (.str "all"), (.str "any")]
  u_MOST_DEPTH : Value
  g_MOST_DEPTH : mg "MOST_DEPTH" = some u_MOST_DEPTH
  r_MOST_DEPTH : L2.RelV (.int 12) u_MOST_DEPTH
  arun_end : Addr
  drun_end : FuncData
  Frun_end : Fun K "run_end" "run_end" srun_end arun_end drun_end
  mrun_end : mg "run_end" = some (.ref arun_end)
  ais_name : Addr
  dis_name : FuncData
  Fis_name : Fun K "is_name" "is_name" sis_name ais_name dis_name
  mis_name : mg "is_name" = some (.ref ais_name)
  ais_integer : Addr
  dis_integer : FuncData
  Fis_integer : Fun K "is_integer" "is_integer" sis_integer ais_integer dis_integer
  mis_integer : mg "is_integer" = some (.ref ais_integer)
  aparts_in : Addr
  dparts_in : FuncData
  Fparts_in : Fun K "parts_in" "parts_in" sparts_in aparts_in dparts_in
  mparts_in : mg "parts_in" = some (.ref aparts_in)
  acheck_expression : Addr
  dcheck_expression : FuncData
  Fcheck_expression : Fun K "check_expression" "check_expression" scheck_expression acheck_expression dcheck_expression
  mcheck_expression : mg "check_expression" = some (.ref acheck_expression)
  acheck_condition : Addr
  dcheck_condition : FuncData
  Fcheck_condition : Fun K "check_condition" "check_condition" scheck_condition acheck_condition dcheck_condition
  mcheck_condition : mg "check_condition" = some (.ref acheck_condition)
  a_check : Addr
  d_check : FuncData
  F_check : Fun K "_check" "_check" s_check a_check d_check
  m_check : mg "_check" = some (.ref a_check)
  anames_in : Addr
  dnames_in : FuncData
  Fnames_in : Fun K "names_in" "names_in" snames_in anames_in dnames_in
  mnames_in : mg "names_in" = some (.ref anames_in)
  a_all_names : Addr
  d_all_names : FuncData
  F_all_names : Fun K "_all_names" "_all_names" s_all_names a_all_names d_all_names
  m_all_names : mg "_all_names" = some (.ref a_all_names)
  atokens_of : Addr
  dtokens_of : FuncData
  Ftokens_of : Fun K "tokens_of" "tokens_of" stokens_of atokens_of dtokens_of
  mtokens_of : mg "tokens_of" = some (.ref atokens_of)
  a_piece_end : Addr
  d_piece_end : FuncData
  F_piece_end : Fun K "_piece_end" "_piece_end" s_piece_end a_piece_end d_piece_end
  m_piece_end : mg "_piece_end" = some (.ref a_piece_end)
  aread_whole : Addr
  dread_whole : FuncData
  Fread_whole : Fun K "read_whole" "read_whole" sread_whole aread_whole dread_whole
  mread_whole : mg "read_whole" = some (.ref aread_whole)
  a_pass_token : Addr
  d_pass_token : FuncData
  F_pass_token : Fun K "_pass_token" "_pass_token" s_pass_token a_pass_token d_pass_token
  m_pass_token : mg "_pass_token" = some (.ref a_pass_token)
  a_read_part : Addr
  d_read_part : FuncData
  F_read_part : Fun K "_read_part" "_read_part" s_read_part a_read_part d_read_part
  m_read_part : mg "_read_part" = some (.ref a_read_part)
  a_read_divisor : Addr
  d_read_divisor : FuncData
  F_read_divisor : Fun K "_read_divisor" "_read_divisor" s_read_divisor a_read_divisor d_read_divisor
  m_read_divisor : mg "_read_divisor" = some (.ref a_read_divisor)
  a_read_expression : Addr
  d_read_expression : FuncData
  F_read_expression : Fun K "_read_expression" "_read_expression" s_read_expression a_read_expression d_read_expression
  m_read_expression : mg "_read_expression" = some (.ref a_read_expression)
  a_read_condition : Addr
  d_read_condition : FuncData
  F_read_condition : Fun K "_read_condition" "_read_condition" s_read_condition a_read_condition d_read_condition
  m_read_condition : mg "_read_condition" = some (.ref a_read_condition)
  a_read_parts : Addr
  d_read_parts : FuncData
  F_read_parts : Fun K "_read_parts" "_read_parts" s_read_parts a_read_parts d_read_parts
  m_read_parts : mg "_read_parts" = some (.ref a_read_parts)
  a_read_conditions : Addr
  d_read_conditions : FuncData
  F_read_conditions : Fun K "_read_conditions" "_read_conditions" s_read_conditions a_read_conditions d_read_conditions
  m_read_conditions : mg "_read_conditions" = some (.ref a_read_conditions)
  anames_of : Addr
  dnames_of : FuncData
  Fnames_of : Fun K "names_of" "names_of" snames_of anames_of dnames_of
  mnames_of : mg "names_of" = some (.ref anames_of)
  acheck_plant : Addr
  dcheck_plant : FuncData
  Fcheck_plant : Fun K "check_plant" "check_plant" scheck_plant acheck_plant dcheck_plant
  mcheck_plant : mg "check_plant" = some (.ref acheck_plant)
  a_check_ranges : Addr
  d_check_ranges : FuncData
  F_check_ranges : Fun K "_check_ranges" "_check_ranges" s_check_ranges a_check_ranges d_check_ranges
  m_check_ranges : mg "_check_ranges" = some (.ref a_check_ranges)
  a_check_parts : Addr
  d_check_parts : FuncData
  F_check_parts : Fun K "_check_parts" "_check_parts" s_check_parts a_check_parts d_check_parts
  m_check_parts : mg "_check_parts" = some (.ref a_check_parts)
  a_check_names_in : Addr
  d_check_names_in : FuncData
  F_check_names_in : Fun K "_check_names_in" "_check_names_in" s_check_names_in a_check_names_in d_check_names_in
  m_check_names_in : mg "_check_names_in" = some (.ref a_check_names_in)
  a_written : Addr
  d_written : FuncData
  F_written : Fun K "_written" "_written" s_written a_written d_written
  m_written : mg "_written" = some (.ref a_written)
  awrite_plant : Addr
  dwrite_plant : FuncData
  Fwrite_plant : Fun K "write_plant" "write_plant" swrite_plant awrite_plant dwrite_plant
  mwrite_plant : mg "write_plant" = some (.ref awrite_plant)
  a_range_lines : Addr
  d_range_lines : FuncData
  F_range_lines : Fun K "_range_lines" "_range_lines" s_range_lines a_range_lines d_range_lines
  m_range_lines : mg "_range_lines" = some (.ref a_range_lines)
  aread_plant : Addr
  dread_plant : FuncData
  Fread_plant : Fun K "read_plant" "read_plant" sread_plant aread_plant dread_plant
  mread_plant : mg "read_plant" = some (.ref aread_plant)
  a_read_ranges : Addr
  d_read_ranges : FuncData
  F_read_ranges : Fun K "_read_ranges" "_read_ranges" s_read_ranges a_read_ranges d_read_ranges
  m_read_ranges : mg "_read_ranges" = some (.ref a_read_ranges)
  a_is_range : Addr
  d_is_range : FuncData
  F_is_range : Fun K "_is_range" "_is_range" s_is_range a_is_range d_is_range
  m_is_range : mg "_is_range" = some (.ref a_is_range)
  a_read_behind : Addr
  d_read_behind : FuncData
  F_read_behind : Fun K "_read_behind" "_read_behind" s_read_behind a_read_behind d_read_behind
  m_read_behind : mg "_read_behind" = some (.ref a_read_behind)
  a_law_draws : Addr
  d_law_draws : FuncData
  F_law_draws : Fun K "_law_draws" "_law_draws" s_law_draws a_law_draws d_law_draws
  m_law_draws : mg "_law_draws" = some (.ref a_law_draws)
  a_law_take : Addr
  d_law_take : FuncData
  F_law_take : Fun K "_law_take" "_law_take" s_law_take a_law_take d_law_take
  m_law_take : mg "_law_take" = some (.ref a_law_take)
  a_law_cell : Addr
  d_law_cell : FuncData
  F_law_cell : Fun K "_law_cell" "_law_cell" s_law_cell a_law_cell d_law_cell
  m_law_cell : mg "_law_cell" = some (.ref a_law_cell)
  a_law_word : Addr
  d_law_word : FuncData
  F_law_word : Fun K "_law_word" "_law_word" s_law_word a_law_word d_law_word
  m_law_word : mg "_law_word" = some (.ref a_law_word)
  a_law_some_word : Addr
  d_law_some_word : FuncData
  F_law_some_word : Fun K "_law_some_word" "_law_some_word" s_law_some_word a_law_some_word d_law_some_word
  m_law_some_word : mg "_law_some_word" = some (.ref a_law_some_word)
  a_law_reserved : Addr
  d_law_reserved : FuncData
  F_law_reserved : Fun K "_law_reserved" "_law_reserved" s_law_reserved a_law_reserved d_law_reserved
  m_law_reserved : mg "_law_reserved" = some (.ref a_law_reserved)
  a_law_name : Addr
  d_law_name : FuncData
  F_law_name : Fun K "_law_name" "_law_name" s_law_name a_law_name d_law_name
  m_law_name : mg "_law_name" = some (.ref a_law_name)
  a_law_names : Addr
  d_law_names : FuncData
  F_law_names : Fun K "_law_names" "_law_names" s_law_names a_law_names d_law_names
  m_law_names : mg "_law_names" = some (.ref a_law_names)
  a_law_number : Addr
  d_law_number : FuncData
  F_law_number : Fun K "_law_number" "_law_number" s_law_number a_law_number d_law_number
  m_law_number : mg "_law_number" = some (.ref a_law_number)
  a_law_leaf : Addr
  d_law_leaf : FuncData
  F_law_leaf : Fun K "_law_leaf" "_law_leaf" s_law_leaf a_law_leaf d_law_leaf
  m_law_leaf : mg "_law_leaf" = some (.ref a_law_leaf)
  a_law_expression : Addr
  d_law_expression : FuncData
  F_law_expression : Fun K "_law_expression" "_law_expression" s_law_expression a_law_expression d_law_expression
  m_law_expression : mg "_law_expression" = some (.ref a_law_expression)
  a_law_test : Addr
  d_law_test : FuncData
  F_law_test : Fun K "_law_test" "_law_test" s_law_test a_law_test d_law_test
  m_law_test : mg "_law_test" = some (.ref a_law_test)
  a_law_inner : Addr
  d_law_inner : FuncData
  F_law_inner : Fun K "_law_inner" "_law_inner" s_law_inner a_law_inner d_law_inner
  m_law_inner : mg "_law_inner" = some (.ref a_law_inner)
  a_law_depth : Addr
  d_law_depth : FuncData
  F_law_depth : Fun K "_law_depth" "_law_depth" s_law_depth a_law_depth d_law_depth
  m_law_depth : mg "_law_depth" = some (.ref a_law_depth)
  a_law_is_test : Addr
  d_law_is_test : FuncData
  F_law_is_test : Fun K "_law_is_test" "_law_is_test" s_law_is_test a_law_is_test d_law_is_test
  m_law_is_test : mg "_law_is_test" = some (.ref a_law_is_test)
  a_law_around : Addr
  d_law_around : FuncData
  F_law_around : Fun K "_law_around" "_law_around" s_law_around a_law_around d_law_around
  m_law_around : mg "_law_around" = some (.ref a_law_around)
  a_law_ranges : Addr
  d_law_ranges : FuncData
  F_law_ranges : Fun K "_law_ranges" "_law_ranges" s_law_ranges a_law_ranges d_law_ranges
  m_law_ranges : mg "_law_ranges" = some (.ref a_law_ranges)
  a_law_step : Addr
  d_law_step : FuncData
  F_law_step : Fun K "_law_step" "_law_step" s_law_step a_law_step d_law_step
  m_law_step : mg "_law_step" = some (.ref a_law_step)
  a_law_plant : Addr
  d_law_plant : FuncData
  F_law_plant : Fun K "_law_plant" "_law_plant" s_law_plant a_law_plant d_law_plant
  m_law_plant : mg "_law_plant" = some (.ref a_law_plant)
  a_law_wide : Addr
  d_law_wide : FuncData
  F_law_wide : Fun K "_law_wide" "_law_wide" s_law_wide a_law_wide d_law_wide
  m_law_wide : mg "_law_wide" = some (.ref a_law_wide)
  a_law_far : Addr
  d_law_far : FuncData
  F_law_far : Fun K "_law_far" "_law_far" s_law_far a_law_far d_law_far
  m_law_far : mg "_law_far" = some (.ref a_law_far)
  a_law_tokens : Addr
  d_law_tokens : FuncData
  F_law_tokens : Fun K "_law_tokens" "_law_tokens" s_law_tokens a_law_tokens d_law_tokens
  m_law_tokens : mg "_law_tokens" = some (.ref a_law_tokens)
  a_law_written : Addr
  d_law_written : FuncData
  F_law_written : Fun K "_law_written" "_law_written" s_law_written a_law_written d_law_written
  m_law_written : mg "_law_written" = some (.ref a_law_written)
  a_law_item_text : Addr
  d_law_item_text : FuncData
  F_law_item_text : Fun K "_law_item_text" "_law_item_text" s_law_item_text a_law_item_text d_law_item_text
  m_law_item_text : mg "_law_item_text" = some (.ref a_law_item_text)
  a_law_rows_of_text : Addr
  d_law_rows_of_text : FuncData
  F_law_rows_of_text : Fun K "_law_rows_of_text" "_law_rows_of_text" s_law_rows_of_text a_law_rows_of_text d_law_rows_of_text
  m_law_rows_of_text : mg "_law_rows_of_text" = some (.ref a_law_rows_of_text)
  a_law_same : Addr
  d_law_same : FuncData
  F_law_same : Fun K "_law_same" "_law_same" s_law_same a_law_same d_law_same
  m_law_same : mg "_law_same" = some (.ref a_law_same)
  a_law_called : Addr
  d_law_called : FuncData
  F_law_called : Fun K "_law_called" "_law_called" s_law_called a_law_called d_law_called
  m_law_called : mg "_law_called" = some (.ref a_law_called)
  a_law_deep : Addr
  d_law_deep : FuncData
  F_law_deep : Fun K "_law_deep" "_law_deep" s_law_deep a_law_deep d_law_deep
  m_law_deep : mg "_law_deep" = some (.ref a_law_deep)
  alaw : Addr
  dlaw : FuncData
  Flaw : Fun K "law" "law" slaw alaw dlaw
  mlaw : mg "law" = some (.ref alaw)
def clsBody (s : Stmt) : List Stmt := match s with | .ClassDef _ _ _ b _ _ _ _ _ _ _ => b | _ => []
abbrev sI_BadText : Stmt := (clsBody (topS 4)).getD 0 (.Pass ⟨0, 0, 0, 0⟩)
abbrev PI_BadText : List Str := ["self", "line", "column"]
theorem scI_BadText : FnScope PI_BadText PI_BadText (defScope sI_BadText) := ⟨rfl, rfl, rfl, by decide +kernel, rfl, by decide +kernel, by decide +kernel⟩
structure Exs (K : PySem.W.Frag) (mg : Str → Option Value) where
  c_ControlError : Addr
  g_ControlError : mg "ControlError" = some (.ref c_ControlError)
  c_InvalidExpression : Addr
  g_InvalidExpression : mg "InvalidExpression" = some (.ref c_InvalidExpression)
  c_InvalidPlant : Addr
  g_InvalidPlant : mg "InvalidPlant" = some (.ref c_InvalidPlant)
  c_BadText : Addr
  g_BadText : mg "BadText" = some (.ref c_BadText)
  oe : OexC K c_BadText
  xf : XfC K c_BadText
  n_line : PySem.W.findIn K (.ref c_BadText) "line" = some none
  n_column : PySem.W.findIn K (.ref c_BadText) "column" = some none
  aI : Addr
  dI : FuncData
  FI : L2.Fun K "__init__" "BadText.__init__" sI_BadText aI dI
  bI : Binds K dI PI_BadText []
  iI : PySem.W.findIn K (.ref c_BadText) "__init__" = some (some (.ref aI))
  tI : PySem.W.typeIn K (.ref aI) = some (.type "function")
  k : PySem.W.keepIn K (.ref c_BadText) = true
  b : PySem.W.subIn K (.ref c_BadText) (.type "BaseException") = some true
  sV : PySem.W.subIn K (.ref c_BadText) (.type "ValueError") = some true
  bC : PySem.W.subIn K (.ref c_ControlError) (.type "BaseException") = some true
  ec : ExcC K c_BadText
  i_ControlError : PySem.W.isClsIn K c_ControlError = true
  t_ControlError : PySem.W.typeIn K (.ref c_ControlError) = some (.type "type")
  s_ControlError : PySem.W.subIn K (.ref c_BadText) (.ref c_ControlError) = some true
  i_InvalidExpression : PySem.W.isClsIn K c_InvalidExpression = true
  t_InvalidExpression : PySem.W.typeIn K (.ref c_InvalidExpression) = some (.type "type")
  s_InvalidExpression : PySem.W.subIn K (.ref c_BadText) (.ref c_InvalidExpression) = some false
  i_InvalidPlant : PySem.W.isClsIn K c_InvalidPlant = true
  t_InvalidPlant : PySem.W.typeIn K (.ref c_InvalidPlant) = some (.type "type")
  s_InvalidPlant : PySem.W.subIn K (.ref c_BadText) (.ref c_InvalidPlant) = some false
  i_BadText : PySem.W.isClsIn K c_BadText = true
  t_BadText : PySem.W.typeIn K (.ref c_BadText) = some (.type "type")
  s_BadText : PySem.W.subIn K (.ref c_BadText) (.ref c_BadText) = some true
theorem Txt.brun_end {K : PySem.W.Frag} {mg : Str → Option Value} (T : Txt K mg) : Binds K T.drun_end Prun_end [] := T.Frun_end.binds fun _ _ _ _ _ _ us hl => match us, hl with | [_, _, _], _ => rfl
theorem Txt.bis_name {K : PySem.W.Frag} {mg : Str → Option Value} (T : Txt K mg) : Binds K T.dis_name Pis_name [] := T.Fis_name.binds fun _ _ _ _ _ _ us hl => match us, hl with | [_], _ => rfl
theorem Txt.bis_integer {K : PySem.W.Frag} {mg : Str → Option Value} (T : Txt K mg) : Binds K T.dis_integer Pis_integer [] := T.Fis_integer.binds fun _ _ _ _ _ _ us hl => match us, hl with | [_], _ => rfl
theorem Txt.bparts_in {K : PySem.W.Frag} {mg : Str → Option Value} (T : Txt K mg) : Binds K T.dparts_in Pparts_in [] := T.Fparts_in.binds fun _ _ _ _ _ _ us hl => match us, hl with | [_], _ => rfl
theorem Txt.bcheck_expression {K : PySem.W.Frag} {mg : Str → Option Value} (T : Txt K mg) : Binds K T.dcheck_expression Pcheck_expression [] := T.Fcheck_expression.binds fun _ _ _ _ _ _ us hl => match us, hl with | [_], _ => rfl
theorem Txt.bcheck_condition {K : PySem.W.Frag} {mg : Str → Option Value} (T : Txt K mg) : Binds K T.dcheck_condition Pcheck_condition [] := T.Fcheck_condition.binds fun _ _ _ _ _ _ us hl => match us, hl with | [_], _ => rfl
theorem Txt.b_check {K : PySem.W.Frag} {mg : Str → Option Value} (T : Txt K mg) : Binds K T.d_check P_check [] := T.F_check.binds fun _ _ _ _ _ _ us hl => match us, hl with | [_, _], _ => rfl
theorem Txt.bnames_in {K : PySem.W.Frag} {mg : Str → Option Value} (T : Txt K mg) : Binds K T.dnames_in Pnames_in [] := T.Fnames_in.binds fun _ _ _ _ _ _ us hl => match us, hl with | [_], _ => rfl
theorem Txt.b_all_names {K : PySem.W.Frag} {mg : Str → Option Value} (T : Txt K mg) : Binds K T.d_all_names P_all_names [] := T.F_all_names.binds fun _ _ _ _ _ _ us hl => match us, hl with | [_], _ => rfl
theorem Txt.btokens_of {K : PySem.W.Frag} {mg : Str → Option Value} (T : Txt K mg) : Binds K T.dtokens_of Ptokens_of [] := T.Ftokens_of.binds fun _ _ _ _ _ _ us hl => match us, hl with | [_], _ => rfl
theorem Txt.b_piece_end {K : PySem.W.Frag} {mg : Str → Option Value} (T : Txt K mg) : Binds K T.d_piece_end P_piece_end [] := T.F_piece_end.binds fun _ _ _ _ _ _ us hl => match us, hl with | [_, _], _ => rfl
theorem Txt.bread_whole {K : PySem.W.Frag} {mg : Str → Option Value} (T : Txt K mg) : Binds K T.dread_whole Pread_whole [] := T.Fread_whole.binds fun _ _ _ _ _ _ us hl => match us, hl with | [_, _], _ => rfl
theorem Txt.b_pass_token {K : PySem.W.Frag} {mg : Str → Option Value} (T : Txt K mg) : Binds K T.d_pass_token P_pass_token [] := T.F_pass_token.binds fun _ _ _ _ _ _ us hl => match us, hl with | [_, _, _], _ => rfl
theorem Txt.b_read_part {K : PySem.W.Frag} {mg : Str → Option Value} (T : Txt K mg) : Binds K T.d_read_part P_read_part [] := T.F_read_part.binds fun _ _ _ _ _ _ us hl => match us, hl with | [_, _, _, _], _ => rfl
theorem Txt.b_read_divisor {K : PySem.W.Frag} {mg : Str → Option Value} (T : Txt K mg) : Binds K T.d_read_divisor P_read_divisor [] := T.F_read_divisor.binds fun _ _ _ _ _ _ us hl => match us, hl with | [_, _], _ => rfl
theorem Txt.b_read_expression {K : PySem.W.Frag} {mg : Str → Option Value} (T : Txt K mg) : Binds K T.d_read_expression P_read_expression [] := T.F_read_expression.binds fun _ _ _ _ _ _ us hl => match us, hl with | [_, _, _], _ => rfl
theorem Txt.b_read_condition {K : PySem.W.Frag} {mg : Str → Option Value} (T : Txt K mg) : Binds K T.d_read_condition P_read_condition [] := T.F_read_condition.binds fun _ _ _ _ _ _ us hl => match us, hl with | [_, _, _], _ => rfl
theorem Txt.b_read_parts {K : PySem.W.Frag} {mg : Str → Option Value} (T : Txt K mg) : Binds K T.d_read_parts P_read_parts [] := T.F_read_parts.binds fun _ _ _ _ _ _ us hl => match us, hl with | [_, _, _, _], _ => rfl
theorem Txt.b_read_conditions {K : PySem.W.Frag} {mg : Str → Option Value} (T : Txt K mg) : Binds K T.d_read_conditions P_read_conditions [] := T.F_read_conditions.binds fun _ _ _ _ _ _ us hl => match us, hl with | [_, _, _], _ => rfl
theorem Txt.bnames_of {K : PySem.W.Frag} {mg : Str → Option Value} (T : Txt K mg) : Binds K T.dnames_of Pnames_of [] := T.Fnames_of.binds fun _ _ _ _ _ _ us hl => match us, hl with | [_], _ => rfl
theorem Txt.bcheck_plant {K : PySem.W.Frag} {mg : Str → Option Value} (T : Txt K mg) : Binds K T.dcheck_plant Pcheck_plant [] := T.Fcheck_plant.binds fun _ _ _ _ _ _ us hl => match us, hl with | [_], _ => rfl
theorem Txt.b_check_ranges {K : PySem.W.Frag} {mg : Str → Option Value} (T : Txt K mg) : Binds K T.d_check_ranges P_check_ranges [] := T.F_check_ranges.binds fun _ _ _ _ _ _ us hl => match us, hl with | [_], _ => rfl
theorem Txt.b_check_parts {K : PySem.W.Frag} {mg : Str → Option Value} (T : Txt K mg) : Binds K T.d_check_parts P_check_parts [] := T.F_check_parts.binds fun _ _ _ _ _ _ us hl => match us, hl with | [_, _], _ => rfl
theorem Txt.b_check_names_in {K : PySem.W.Frag} {mg : Str → Option Value} (T : Txt K mg) : Binds K T.d_check_names_in P_check_names_in [] := T.F_check_names_in.binds fun _ _ _ _ _ _ us hl => match us, hl with | [_, _], _ => rfl
theorem Txt.b_written {K : PySem.W.Frag} {mg : Str → Option Value} (T : Txt K mg) : Binds K T.d_written P_written [] := T.F_written.binds fun _ _ _ _ _ _ us hl => match us, hl with | [_], _ => rfl
theorem Txt.bwrite_plant {K : PySem.W.Frag} {mg : Str → Option Value} (T : Txt K mg) : Binds K T.dwrite_plant Pwrite_plant [] := T.Fwrite_plant.binds fun _ _ _ _ _ _ us hl => match us, hl with | [_], _ => rfl
theorem Txt.b_range_lines {K : PySem.W.Frag} {mg : Str → Option Value} (T : Txt K mg) : Binds K T.d_range_lines P_range_lines [] := T.F_range_lines.binds fun _ _ _ _ _ _ us hl => match us, hl with | [_, _], _ => rfl
theorem Txt.bread_plant {K : PySem.W.Frag} {mg : Str → Option Value} (T : Txt K mg) : Binds K T.dread_plant Pread_plant [] := T.Fread_plant.binds fun _ _ _ _ _ _ us hl => match us, hl with | [_], _ => rfl
theorem Txt.b_read_ranges {K : PySem.W.Frag} {mg : Str → Option Value} (T : Txt K mg) : Binds K T.d_read_ranges P_read_ranges [] := T.F_read_ranges.binds fun _ _ _ _ _ _ us hl => match us, hl with | [_, _, _, _], _ => rfl
theorem Txt.b_is_range {K : PySem.W.Frag} {mg : Str → Option Value} (T : Txt K mg) : Binds K T.d_is_range P_is_range [] := T.F_is_range.binds fun _ _ _ _ _ _ us hl => match us, hl with | [_, _], _ => rfl
theorem Txt.b_read_behind {K : PySem.W.Frag} {mg : Str → Option Value} (T : Txt K mg) : Binds K T.d_read_behind P_read_behind [] := T.F_read_behind.binds fun _ _ _ _ _ _ us hl => match us, hl with | [_, _, _, _, _], _ => rfl
theorem Txt.b_law_draws {K : PySem.W.Frag} {mg : Str → Option Value} (T : Txt K mg) : Binds K T.d_law_draws P_law_draws [] := T.F_law_draws.binds fun _ _ _ _ _ _ us hl => match us, hl with | [_, _], _ => rfl
theorem Txt.b_law_take {K : PySem.W.Frag} {mg : Str → Option Value} (T : Txt K mg) : Binds K T.d_law_take P_law_take [] := T.F_law_take.binds fun _ _ _ _ _ _ us hl => match us, hl with | [_, _], _ => rfl
theorem Txt.b_law_cell {K : PySem.W.Frag} {mg : Str → Option Value} (T : Txt K mg) : Binds K T.d_law_cell P_law_cell [] := T.F_law_cell.binds fun _ _ _ _ _ _ us hl => match us, hl with | [_, _], _ => rfl
theorem Txt.b_law_word {K : PySem.W.Frag} {mg : Str → Option Value} (T : Txt K mg) : Binds K T.d_law_word P_law_word [] := T.F_law_word.binds fun _ _ _ _ _ _ us hl => match us, hl with | [_], _ => rfl
theorem Txt.b_law_some_word {K : PySem.W.Frag} {mg : Str → Option Value} (T : Txt K mg) : Binds K T.d_law_some_word P_law_some_word [] := T.F_law_some_word.binds fun _ _ _ _ _ _ us hl => match us, hl with | [_], _ => rfl
theorem Txt.b_law_reserved {K : PySem.W.Frag} {mg : Str → Option Value} (T : Txt K mg) : Binds K T.d_law_reserved P_law_reserved [] := T.F_law_reserved.binds fun _ _ _ _ _ _ us hl => match us, hl with | [], _ => rfl
theorem Txt.b_law_name {K : PySem.W.Frag} {mg : Str → Option Value} (T : Txt K mg) : Binds K T.d_law_name P_law_name [] := T.F_law_name.binds fun _ _ _ _ _ _ us hl => match us, hl with | [_], _ => rfl
theorem Txt.b_law_names {K : PySem.W.Frag} {mg : Str → Option Value} (T : Txt K mg) : Binds K T.d_law_names P_law_names [] := T.F_law_names.binds fun _ _ _ _ _ _ us hl => match us, hl with | [_, _], _ => rfl
theorem Txt.b_law_number {K : PySem.W.Frag} {mg : Str → Option Value} (T : Txt K mg) : Binds K T.d_law_number P_law_number [] := T.F_law_number.binds fun _ _ _ _ _ _ us hl => match us, hl with | [_, _], _ => rfl
theorem Txt.b_law_leaf {K : PySem.W.Frag} {mg : Str → Option Value} (T : Txt K mg) : Binds K T.d_law_leaf P_law_leaf [] := T.F_law_leaf.binds fun _ _ _ _ _ _ us hl => match us, hl with | [_, _, _], _ => rfl
theorem Txt.b_law_expression {K : PySem.W.Frag} {mg : Str → Option Value} (T : Txt K mg) : Binds K T.d_law_expression P_law_expression [] := T.F_law_expression.binds fun _ _ _ _ _ _ us hl => match us, hl with | [_, _, _, _], _ => rfl
theorem Txt.b_law_test {K : PySem.W.Frag} {mg : Str → Option Value} (T : Txt K mg) : Binds K T.d_law_test P_law_test [] := T.F_law_test.binds fun _ _ _ _ _ _ us hl => match us, hl with | [_, _, _, _], _ => rfl
theorem Txt.b_law_inner {K : PySem.W.Frag} {mg : Str → Option Value} (T : Txt K mg) : Binds K T.d_law_inner P_law_inner [] := T.F_law_inner.binds fun _ _ _ _ _ _ us hl => match us, hl with | [_], _ => rfl
theorem Txt.b_law_depth {K : PySem.W.Frag} {mg : Str → Option Value} (T : Txt K mg) : Binds K T.d_law_depth P_law_depth [] := T.F_law_depth.binds fun _ _ _ _ _ _ us hl => match us, hl with | [_], _ => rfl
theorem Txt.b_law_is_test {K : PySem.W.Frag} {mg : Str → Option Value} (T : Txt K mg) : Binds K T.d_law_is_test P_law_is_test [] := T.F_law_is_test.binds fun _ _ _ _ _ _ us hl => match us, hl with | [_], _ => rfl
theorem Txt.b_law_around {K : PySem.W.Frag} {mg : Str → Option Value} (T : Txt K mg) : Binds K T.d_law_around P_law_around [] := T.F_law_around.binds fun _ _ _ _ _ _ us hl => match us, hl with | [_, _, _, _], _ => rfl
theorem Txt.b_law_ranges {K : PySem.W.Frag} {mg : Str → Option Value} (T : Txt K mg) : Binds K T.d_law_ranges P_law_ranges [] := T.F_law_ranges.binds fun _ _ _ _ _ _ us hl => match us, hl with | [_, _, _, _], _ => rfl
theorem Txt.b_law_step {K : PySem.W.Frag} {mg : Str → Option Value} (T : Txt K mg) : Binds K T.d_law_step P_law_step [] := T.F_law_step.binds fun _ _ _ _ _ _ us hl => match us, hl with | [_, _, _, _, _], _ => rfl
theorem Txt.b_law_plant {K : PySem.W.Frag} {mg : Str → Option Value} (T : Txt K mg) : Binds K T.d_law_plant P_law_plant [] := T.F_law_plant.binds fun _ _ _ _ _ _ us hl => match us, hl with | [_, _, _], _ => rfl
theorem Txt.b_law_wide {K : PySem.W.Frag} {mg : Str → Option Value} (T : Txt K mg) : Binds K T.d_law_wide P_law_wide [] := T.F_law_wide.binds fun _ _ _ _ _ _ us hl => match us, hl with | [_, _, _], _ => rfl
theorem Txt.b_law_far {K : PySem.W.Frag} {mg : Str → Option Value} (T : Txt K mg) : Binds K T.d_law_far P_law_far [] := T.F_law_far.binds fun _ _ _ _ _ _ us hl => match us, hl with | [_, _], _ => rfl
theorem Txt.b_law_tokens {K : PySem.W.Frag} {mg : Str → Option Value} (T : Txt K mg) : Binds K T.d_law_tokens P_law_tokens [] := T.F_law_tokens.binds fun _ _ _ _ _ _ us hl => match us, hl with | [_], _ => rfl
theorem Txt.b_law_written {K : PySem.W.Frag} {mg : Str → Option Value} (T : Txt K mg) : Binds K T.d_law_written P_law_written [] := T.F_law_written.binds fun _ _ _ _ _ _ us hl => match us, hl with | [_], _ => rfl
theorem Txt.b_law_item_text {K : PySem.W.Frag} {mg : Str → Option Value} (T : Txt K mg) : Binds K T.d_law_item_text P_law_item_text [] := T.F_law_item_text.binds fun _ _ _ _ _ _ us hl => match us, hl with | [_], _ => rfl
theorem Txt.b_law_rows_of_text {K : PySem.W.Frag} {mg : Str → Option Value} (T : Txt K mg) : Binds K T.d_law_rows_of_text P_law_rows_of_text [] := T.F_law_rows_of_text.binds fun _ _ _ _ _ _ us hl => match us, hl with | [_], _ => rfl
theorem Txt.b_law_same {K : PySem.W.Frag} {mg : Str → Option Value} (T : Txt K mg) : Binds K T.d_law_same P_law_same [] := T.F_law_same.binds fun _ _ _ _ _ _ us hl => match us, hl with | [_, _], _ => rfl
theorem Txt.b_law_called {K : PySem.W.Frag} {mg : Str → Option Value} (T : Txt K mg) : Binds K T.d_law_called P_law_called [] := T.F_law_called.binds fun _ _ _ _ _ _ us hl => match us, hl with | [_, _], _ => rfl
theorem Txt.b_law_deep {K : PySem.W.Frag} {mg : Str → Option Value} (T : Txt K mg) : Binds K T.d_law_deep P_law_deep [] := T.F_law_deep.binds fun _ _ _ _ _ _ us hl => match us, hl with | [_, _], _ => rfl
theorem Txt.blaw {K : PySem.W.Frag} {mg : Str → Option Value} (T : Txt K mg) : Binds K T.dlaw Plaw [] := T.Flaw.binds fun _ _ _ _ _ _ us hl => match us, hl with | [_], _ => rfl
end NL

set_option maxHeartbeats 4000000
namespace NL
open PySem PySem.Spec PyProof.Rows L2 L2H HotX
/-! ### where an exception is handled: a range walked in a comprehension -/
structure TurnG (P : Program) (w : World) (K : PySem.W.Frag) (tg : Expr) (J : L2.It) (fp : List Addr) (it : Addr) (tn : Nat → Heap → Prop) : Prop where
  mem : it ∈ fp
  obj : ∀ i h, tn i h → ∀ b ∈ fp, ∃ o, h.get? b = some o ∧ ∀ v, o.data ≠ .cell v
  keep : ∀ i h h', tn i h → (∀ b ∈ fp, ∀ o, h.get? b = some o → h'.get? b = some o) → tn i h'
  item : ∀ (X : Cx), X.prog = P → X.w = w → X.K = K → ∀ (i : Nat) (pins : List (Addr × Obj)) (s : Shared) (σ : L2.St) (H : Hp) (E : Value → Shared → Prop), Inv X pins σ H s → (∀ b ∈ fp, FpOk X pins H b) → tn i s.heap → J.go i H →
    wpAny (model P w) X.A (pyNext (.ref it)) (fun r s1 => ∃ u, r = some u ∧
      wpAny (model P w) X.A (letOwnedTupleGo tg (.ref it) u) (fun _ s2 => ∃ x H', Inv X pins σ H' s2 ∧ RelV x u ∧ J.yld i H x H' ∧ tn (i + 1) s2.heap ∧ ∀ b ∈ fp, H' b = none) E s1) E s
  done : ∀ (X : Cx), X.prog = P → X.w = w → X.K = K → ∀ (i : Nat) (pins : List (Addr × Obj)) (s : Shared) (σ : L2.St) (H : Hp) (E : Value → Shared → Prop), (∃ x1, HotAt X.A x1 s.heap) → Inv X pins σ H s → (∀ b ∈ fp, FpOk X pins H b) → tn i s.heap → J.stop i H →
    wpAny (model P w) X.A (pyNext (.ref it)) (fun r s1 => r = none ∧ Inv X pins σ H s1) E s
  self : ∀ (A : Around) (i : Nat) (s : Shared) (Q : Value → Shared → Prop) (E : Value → Shared → Prop), tn i s.heap → Q (.ref it) s → wpAny (model P w) A (pyIter (.ref it)) Q E s
theorem turn_rangeG {P : Program} {w : World} {K : PySem.W.Frag} {tg : Expr} (it : Addr) (lo : Int) (n : Nat) : TurnG P w K tg (Itr lo n) [it] it (fun i h => IsRangeIter h it (lo + (i : Nat) * 1) ((n : Int) - (i : Nat)) 1) where
  mem := by simp
  obj := fun i h st b hb => by
    have e : b = it := by simpa using hb
    subst e
    exact ⟨_, st, fun v z => by
      have z' : Data.fields _ = Data.cell v := z
      cases z'⟩
  keep := fun i h h' st k => k it (by simp) _ st
  item := by
    intro X hP hw hK i pins s σ H E I hf st hg
    subst hP hw hK
    obtain ⟨f0, f1, f2, f3, f4, f5⟩ := hf it (by simp)
    have hlt : i < n := hg
    refine wpAny_pyNext_range_item st (by omega) fun h' st' sb => ?_
    have st2 : IsRangeIter h' it (lo + ((i + 1 : Nat) : Int) * 1) ((n : Int) - ((i + 1 : Nat) : Int)) 1 := by
      have e1 : lo + ((i : Nat) : Int) * 1 + 1 = lo + ((i + 1 : Nat) : Int) * 1 := by omega
      have e2 : (n : Int) - ((i : Nat) : Int) - 1 = (n : Int) - ((i + 1 : Nat) : Int) := by omega
      rw [← e1, ← e2]
      exact st'
    have I1 : Inv X pins σ H { s with heap := h', toks := s.toks + 1 } := I.turned (fun b o hb e => (sb.2 b hb).trans e) f0 f1 f3 f4 f5
    refine ⟨_, rfl, go_of (s := { s with heap := h', toks := s.toks + 1 }) (n := "range_iterator") st2 rfl rfl (by decide) ⟨.int (lo + i), H, I1, ⟨s.toks, ?_⟩, ⟨rfl, rfl⟩, st2, fun b hb => (hf b hb).1⟩⟩
    rw [Int.mul_one]
  done := by
    intro X hP hw hK i pins s σ H E hc I hf st hg
    subst hP hw hK
    obtain ⟨f0, f1, f2, f3, f4, f5⟩ := hf it (by simp)
    obtain ⟨x1, hot⟩ := hc
    exact pyNext_range_end_hot hot st (by have : n ≤ i := hg; omega) fun h' eb => ⟨rfl, I.turned (t' := s.toks) (fun b o _ e => eb b o e) f0 f1 f3 f4 f5⟩
  self := fun _ _ _ _ _ st h => wpAny_pyIter_rangeiter st h
def PIEG (X : Cx) (pins : List (Addr × Obj)) (σ : L2.St) (tg : Expr) (R : L2.It → Hp → Prop) (itv : Value) (s2 : Shared) : Prop :=
  ∃ (it : Addr) (fp : List Addr) (tn : Nat → Heap → Prop) (J : L2.It) (H' : Hp), itv = .ref it ∧ Inv X pins σ H' s2 ∧ TurnG X.prog X.w X.K tg J fp it tn ∧ tn 0 s2.heap ∧ (∀ b ∈ fp, FpOk X pins H' b) ∧ R J H'
structure PIG (X : Cx) (tg iter : Expr) (wi : TI) : Prop where
  run : ∀ (pins : List (Addr × Obj)) (s : Shared) (σ : L2.St) (H : Hp) (R : L2.It → Hp → Prop), Inv X pins σ H s → wi σ H R →
    wpAny (model X.prog X.w) X.A (eval iter X.env) (fun v s1 => wpAny (model X.prog X.w) X.A (pyIter v) (PIEG X pins σ tg R) X.xe s1) X.xe s
section
variable {X : Cx} {tg : Expr}
theorem range_itG {pins : List (Addr × Obj)} {σ : L2.St} {H : Hp} {s : Shared} {R : L2.It → Hp → Prop} {E : Value → Shared → Prop} {lo hi : Int} {t u v : Tok} {tk : Nat} (I : Inv X pins σ H s) (h1 : -(2 ^ 62) ≤ lo) (h2 : lo < 2 ^ 62) (h3 : -(2 ^ 62) ≤ hi) (h4 : hi < 2 ^ 62)
    (q : R (Itr lo (hi - lo).toNat) H) : wpAny (model X.prog X.w) X.A (pyIter (.ref s.heap.objs.size)) (PIEG X pins σ tg R) E { s with heap := s.heap.push { cls := .type "range", data := .fields #[.int lo t, .int hi u, .int 1 v] }, toks := tk } := by
  refine wpAny_pyIter_range (IsRange.new ..) (small_one h1 h2 h3 h4) ?_
  have I1 : Inv X pins σ H { s with heap := s.heap.push { cls := .type "range", data := .fields #[.int lo t, .int hi u, .int 1 v] }, toks := tk } := I.kept fun b o e => Heap.get?_push_of_some _ e
  refine ⟨(s.heap.push { cls := .type "range", data := .fields #[.int lo t, .int hi u, .int 1 v] }).objs.size, [(s.heap.push { cls := .type "range", data := .fields #[.int lo t, .int hi u, .int 1 v] }).objs.size], _, _, H, rfl,
    I1.kept (t' := tk) fun b o e => Heap.get?_push_of_some _ e, turn_rangeG _ lo (hi - lo).toNat, ?_, fun b hb => ?_, q⟩
  · have e1 : lo + ((0 : Nat) : Int) * 1 = lo := by simp
    have e2 : (((hi - lo).toNat : Nat) : Int) - ((0 : Nat) : Int) = Builtin.Range.rangeSize lo hi 1 := by rw [rangeSize_one]; split <;> omega
    show IsRangeIter _ _ (lo + ((0 : Nat) : Int) * 1) ((((hi - lo).toNat : Nat) : Int) - ((0 : Nat) : Int)) 1
    rw [e1, e2]
    exact Heap.get?_push_size _ rfl
  · have e : b = (s.heap.push { cls := .type "range", data := .fields #[.int lo t, .int hi u, .int 1 v] }).objs.size := by simpa using hb
    subst e
    exact I1.fpOk (Nat.le_refl _) (I1.hok.fresh (Nat.le_refl _))
theorem pi_range1G {a : Expr} {ta : TA} {p pos : Pos} (hg : Gl X "range") (hm : X.mg "range" = none) (ha : PA X [a] ta) (hs : starEach [a] X.env = [(false, eval a X.env)] := by rfl) : PIG X tg (.Call (.Name "range" p) [a] [] pos) (iRng1 ta) := by
  refine ⟨fun pins s σ H R I h => ?_⟩
  refine Call_ (ld_blt I hg hm boot_range (PyProof.Rows.callWith_type1 (thn (ha.run pos pins s σ H _ I h) fun us s1 ⟨vs, H1, I1, r1, q1⟩ => ?_) hs rfl))
  obtain ⟨j, e, q1, q2, q⟩ := q1
  subst e
  cases r1 with
  | cons r rr =>
    cases rr
    obtain ⟨t, rfl⟩ := r
    exact call_range_1 (range_itG I1 (by omega) (by omega) q1 q2 (by simpa using q))
end
section
variable {X : Cx}
theorem lc_coreG {pins : List (Addr × Obj)} {s : Shared} {σ : L2.St} {H : Hp} {Q : VK} {elt tg iter : Expr} {ifs : List Expr} {scope : Scope} {own : List (Str × Nat)} {pos pos' : Pos} {wi : TI} {g : TG} {tt : TT} {te : TE} {use : Option (Value → Sem Unit)} {Qf : Value → Shared → Prop}
    (hc : HotC X) (hN : X.N.Nodup) (I : Inv X pins σ H s) (hi : PIG X tg iter wi) (ok : BlkOk X.N X.env.scope scope own)
    (hg : ∀ (s : Shared) (H : Hp) (C : Addr) (cl : List (Str × Addr)) (fp : List Addr), PG (X.blk s H scope (compEnvC scope cl C X.env) fp) tg g) (ht : ∀ (s : Shared) (H : Hp) (C : Addr) (cl : List (Str × Addr)) (fp : List Addr), PTs (X.blk s H scope (compEnvC scope cl C X.env) fp) ifs tt)
    (he : ∀ (s : Shared) (H : Hp) (C : Addr) (cl : List (Str × Addr)) (fp : List Addr), PE (X.blk s H scope (compEnvC scope cl C X.env) fp) elt te) (hs : ∀ x, foldedSetIterable iter X.env x = pure x)
    (h : tLc wi g tt te (own.map (·.2)) σ H Q)
    (hRR : ∀ D C s' m H', Inv X pins σ H' s' → Q (.ref D) H' → s'.heap.Ns C m → FpOk X pins H' C → compPost (model X.prog X.w) X.A X.xe use Qf (.ref D) C (.ok .next) s') :
    wpAny (model X.prog X.w) X.A (comprehension (.ListComp elt [⟨tg, iter, ifs, 0⟩] scope pos) scope X.env pos' (newList []) false (eval iter X.env) use) Qf X.xe s := by
  have hfree : ∀ y ∈ scope.names, y.2 = .free → ∃ c, X.env.cells.lookup y.1 = some c := fun y hy e => by
    rcases ok.free y hy e with k | k
    · exact I.ok.has _ (.inl k)
    · exact I.ok.has _ (.inr k)
  refine wpAny_comprehension_free (use := use) rfl hs (closure_ok hfree) ok.kind (fun y hy e => by rw [ok.uniq y hy, e])
    (thn (hi.run pins s σ H _ I h) fun xv s1 hx => thn hx fun itv s2 h2 => ?_)
  obtain ⟨it, fp, tn, J, H2, e, I2, T, st2, f2, q⟩ := h2
  subst e
  refine wpAny_newObj_type (newEnv_comp ?_) (by show 0 ≤ sizeLine; decide)
  generalize hD : s2.heap.objs.size = D
  have hDn : H2 D = none := I2.hok.fresh (Nat.le_of_eq hD)
  obtain ⟨W, ⟨m0, w0⟩, turn⟩ := q D hDn
  -- the new list
  generalize hs3 : ({ s2 with heap := s2.heap.push { cls := .type "list", data := .seq ([] : List Value).toArray } } : Shared) = s3
  have I3 : Inv X pins σ (upd H2 D (.lst [])) s3 := by
    rw [← hs3]
    refine I2.laid (t' := s2.toks) (fun b o e => Heap.get?_push_of_some _ e) (Nat.le_of_eq hD) ⟨Nat.zero_le _, [], 0, .nil, ?_⟩
    rw [← hD]
    exact Heap.get?_push_size _ rfl
  have h3 : s3.heap = s2.heap.push { cls := .type "list", data := .seq ([] : List Value).toArray } := by rw [← hs3]
  have sz : ∀ b ∈ fp, b < s2.heap.objs.size := fun b hb => by
    obtain ⟨o, e, _⟩ := T.obj _ _ st2 b hb
    exact Heap.lt_size e
  have f3 : ∀ b ∈ fp, FpOk X pins (upd H2 D (.lst [])) b ∧ b < s3.heap.objs.size := fun b hb => by
    have hlt := sz b hb
    refine ⟨⟨?_, (f2 b hb).2⟩, by rw [h3, Heap.size_push]; exact Nat.lt_succ_of_lt hlt⟩
    rw [upd_ne (by rw [← hD]; exact Nat.ne_of_lt hlt)]
    exact (f2 b hb).1
  have st3 : tn 0 s3.heap := T.keep _ _ _ st2 fun b _ o e => by rw [h3]; exact Heap.get?_push_of_some _ e
  have I4 := block_start I3 ok hN f3
  have pg := hg s3 (upd H2 D (.lst [])) s3.heap.objs.size (cellsFrom (s3.heap.objs.size + 1) scope.names (cloFrom X.env.cells scope.names [])) fp
  have pt := ht s3 (upd H2 D (.lst [])) s3.heap.objs.size (cellsFrom (s3.heap.objs.size + 1) scope.names (cloFrom X.env.cells scope.names [])) fp
  have pe := he s3 (upd H2 D (.lst [])) s3.heap.objs.size (cellsFrom (s3.heap.objs.size + 1) scope.names (cloFrom X.env.cells scope.names [])) fp
  show codeAny _ _ (.compStart (.ListComp elt [⟨tg, iter, ifs, 0⟩] scope pos) 0 (.ref it) (.ref D) (compEnvC scope (cellsFrom (s3.heap.objs.size + 1) scope.names (cloFrom X.env.cells scope.names [])) s3.heap.objs.size X.env)) (compPost (model X.prog X.w) X.A X.xe use Qf (.ref D) s3.heap.objs.size) { s3 with heap := pushCells (s3.heap.push { cls := .type "dict", data := .dict #[] }) scope.names }
  have nfp : ∀ b ∈ fp, (upd H2 D (.lst [])) b = none := fun b hb => (f3 b hb).1.1
  generalize hce : compEnvC scope (cellsFrom (s3.heap.objs.size + 1) scope.names (cloFrom X.env.cells scope.names [])) s3.heap.objs.size X.env = ce at I4 pg pt pe ⊢
  have cL : ce.locals = s3.heap.objs.size := by subst hce; rfl
  generalize hH3 : upd H2 D (.lst []) = H3 at I3 I4 pg pt pe w0 nfp f3
  generalize hs4 : ({ s3 with heap := pushCells (s3.heap.push { cls := .type "dict", data := .dict #[] }) scope.names } : Shared) = s4 at I4 ⊢
  have st4 : tn 0 s4.heap := T.keep _ _ _ st3 fun b _ o e => by rw [← hs4]; exact pushCells_keeps _ _ _ _ (Heap.get?_push_of_some _ e)
  have stat : ∀ {σ' : L2.St} {H' : Hp} {s' : Shared}, Inv (X.blk s3 H3 scope ce fp) [] σ' H' s' → (∀ b ∈ fp, H' b = none) → ∀ b ∈ fp, FpOk (X.blk s3 H3 scope ce fp) [] H' b := fun {σ' H' s'} I' hn b hb =>
    ⟨hn b hb, (I'.ok.exf b hb).1, I'.ok.exfs b hb, .inl hb, fun x c e => (I'.ok.exf b hb).2 x c e, fun p hp => absurd (show p ∈ ([] : List (Addr × Obj)) ++ [] from hp) (by simp)⟩
  have loop : codeAny (model X.prog X.w) X.A (.compLoop (.ListComp elt [⟨tg, iter, ifs, 0⟩] scope pos) 0 (.ref it) (.ref D) ce) (compPost (model X.prog X.w) X.A X.xe use Qf (.ref D) s3.heap.objs.size) s4 := by
    refine compLoop_any (fun n s' => ∃ i H', Inv (X.blk s3 H3 scope ce fp) [] (wipe σ (own.map (·.2))) H' s' ∧ tn i s'.heap ∧ (∀ b ∈ fp, H' b = none) ∧ W i n H') ?_ m0 ⟨0, H3, I4, st4, nfp, w0⟩
    rintro n s5 ⟨i, H5, I5, st5, n5, w5⟩
    rcases turn i n H5 w5 with ⟨stop, qq⟩ | ⟨go, Nx, hNx, step⟩
    · have hot5 : ∃ x1, HotAt (X.blk s3 H3 scope ce fp).A x1 s5.heap := by
        obtain ⟨p, ⟨hh, v1, e1, c1⟩, hp⟩ := hc
        obtain ⟨g1, g2, g3, g4, g5⟩ := I3.pin p (List.mem_append_left _ hp)
        have nfpp : p.1 ∉ fp := fun z => ((f3 p.1 z).1.2.2.2.2.2 p (List.mem_append_left _ hp)) rfl
        obtain ⟨sl, e2⟩ := I5.base.any g1 g2 nfpp
        exact ⟨p.1, hh, _, v1, e2, e1, c1⟩
      have td := T.done (X.blk s3 H3 scope ce fp) rfl rfl rfl i [] s5 _ H5 (fun _ _ => False) hot5 I5 (stat I5 n5) st5 stop
      refine thnF td fun r s6 ⟨hr, I6⟩ => ?_
      subst hr
      -- back in the def's context
      have I7 : Inv X pins σ H5 s6 := I3.call' (ch := fp) I6.os I6.base I6.hok I6.bare fun b hb => ⟨(f3 b hb).1.2.2.2.1, (f3 b hb).1.2.1, (f3 b hb).1.2.2.2.2.1, (f3 b hb).1.2.2.2.2.2⟩
      have nC : H5 s3.heap.objs.size = none := by
        have z : H5 ce.locals = none := I6.free
        rw [cL] at z
        exact z
      obtain ⟨m, hn, _⟩ := I6.loc
      have hn : s6.heap.Ns ce.locals m := hn
      rw [cL] at hn
      exact hRR D s3.heap.objs.size s6 m H5 I7 qq hn (I3.fpOk (Nat.le_refl _) nC)
    · have ti := T.item (X.blk s3 H3 scope ce fp) rfl rfl rfl i [] s5 _ H5 (fun _ _ => False) I5 (stat I5 n5) st5 go
      refine thnF ti fun r s6 ⟨u, hr, h6⟩ => ?_
      subst hr
      refine thnF h6 fun _ s7 ⟨x, H7, I7, r7, y7, st7, n7⟩ => ?_
      have I7' := I7.pinned (stat I7 n7) (T.obj _ _ st7)
      refine thnF (pg.run _ s7 _ H7 x u _ I7' r7 (step x H7 y7)) fun _ s8 ⟨σ8, H8, I8, hw8, q8⟩ => ?_
      refine thnF (pt.run _ s8 σ8 H8 _ I8 q8) fun b s9 ⟨H9, I9, q9⟩ => ?_
      -- the turn's end
      have fin : ∀ {s' : Shared} {H' : Hp}, Inv (X.blk s3 H3 scope ce fp) ([] ++ pinsAt fp s7.heap) σ8 H' s' → Nx H' → ∃ m, m < n ∧ ∃ i H', Inv (X.blk s3 H3 scope ce fp) [] (wipe σ (own.map (·.2))) H' s' ∧ tn i s'.heap ∧ (∀ b ∈ fp, H' b = none) ∧ W i m H' := fun {s' H'} I' nx => by
        obtain ⟨m', hm, w'⟩ := hNx H' nx
        have pin' : ∀ b ∈ fp, ∀ o, s7.heap.get? b = some o → s'.heap.get? b = some o ∧ H' b = none := fun b hb o e =>
          let z := I'.pin (b, o) (List.mem_append_right _ (List.mem_append_right _ (mem_pinsAt hb e)))
          ⟨z.1, z.2.1⟩
        have hl : (wipe σ (own.map (·.2))).length = σ8.length := by rw [← hw8, wipe_length]
        refine ⟨m', hm, i + 1, H', (I'.unpinned (pins := [])).weak hl (fun j v e => ?_), T.keep _ _ _ st7 fun b hb o e => (pin' b hb o e).1, fun b hb => ?_, w'⟩
        · rw [← hw8] at e
          exact (wipe_some e).1
        · obtain ⟨o, e, _⟩ := T.obj _ _ st7 b hb
          exact (pin' b hb o e).2
      cases b with
      | false =>
        simp only [Bool.false_eq_true, if_false] at q9 ⊢
        exact fin I9 q9
      | true =>
        simp only [if_true] at q9 ⊢
        refine thnF (pe.run _ s9 σ8 H9 _ I9 q9) fun z s10 ⟨yv, H10, I10, r10, acc, hD10, hz10, nx⟩ => ?_
        exact app_ok (X := X.blk s3 H3 scope ce fp) I10 hD10 hz10 r10 fun s11 I11 => fin I11 nx
  exact codeAny_compStart_list loop (T.self X.A 0 _ _ _ st4 loop)
/-- name = [..] on one line, the name a local -/
theorem ps_setLcG {i : Nat} {y : Str} {py : Pos} {elt tg iter : Expr} {ifs : List Expr} {scope : Scope} {own : List (Str × Nat)} {pos spos : Pos} {wi : TI} {g : TG} {tt : TT} {te : TE} (hc : HotC X) (hN : X.N.Nodup) (hy : X.N[i]? = some y) (hyl : X.env.scope.names.lookup y = some .local)
    (hsw : swapsWith (.ListComp elt [⟨tg, iter, ifs, 0⟩] scope pos) (some (.Name y py)) spos.line X.env = pure true) (hi : PIG X tg iter wi) (ok : BlkOk X.N X.env.scope scope own)
    (hg : ∀ (s : Shared) (H : Hp) (C : Addr) (cl : List (Str × Addr)) (fp : List Addr), PG (X.blk s H scope (compEnvC scope cl C X.env) fp) tg g) (ht : ∀ (s : Shared) (H : Hp) (C : Addr) (cl : List (Str × Addr)) (fp : List Addr), PTs (X.blk s H scope (compEnvC scope cl C X.env) fp) ifs tt)
    (he : ∀ (s : Shared) (H : Hp) (C : Addr) (cl : List (Str × Addr)) (fp : List Addr), PE (X.blk s H scope (compEnvC scope cl C X.env) fp) elt te) (hs : ∀ x, foldedSetIterable iter X.env x = pure x := by intro _; rfl) :
    PS X (.Assign [.Name y py] (.ListComp elt [⟨tg, iter, ifs, 0⟩] scope pos) spos) (tAsg (tLc wi g tt te (own.map (·.2))) (gName i)) := by
  refine ⟨fun pins s σ H D I h => ?_⟩
  rw [exec_Assign_Name_used _ _ _ _ hsw]
  refine wpAny_bind (wpAny_standAt (wpAny_bind ?_))
  show wpAny _ X.A (do let _ ← comprehension (.ListComp elt [⟨tg, iter, ifs, 0⟩] scope pos) scope X.env (firstIterPos [⟨tg, iter, ifs, 0⟩] pos) (newList []) false (eval iter X.env) (some (assign (.Name y py) X.env))) _ _ s
  have h : tLc wi g tt te (own.map (·.2)) σ H (fun x H1 => gName i x σ H1 D.nx) := h
  refine wpAny_bind (thn (lc_coreG (Qf := fun _ s' => SP X pins D .next s') hc hN I hi ok hg ht he hs h fun L C s' m H' I' q hn f => ?_) fun _ s' hq => wpAny_pure (wpAny_pure hq))
  show wpAny _ _ (assign (.Name y py) X.env (.ref L)) _ _ _
  refine wpAny_assign_Name (store_ok2 (v := V.ref L) I' hN hy (.inl hyl) rfl (fun s2 I2 ⟨a, sb, ha⟩ => ?_) (.inr hyl))
  obtain ⟨f0, f1, f2, f3, f4, f5⟩ := f
  have haC : C ≠ a := by
    rcases ha with z | z
    · rw [z]; exact f1
    · exact fun e => f4 y a z e.symm
  refine ⟨m, hn.sameBut sb haC, fun h3 sb3 => ?_⟩
  exact ⟨_, H', I2.turned (t' := s2.toks) (fun b o hb e => (sb3.2 b hb).trans e) f0 f1 f3 f4 f5, q⟩
end
end NL

namespace NL
open PySem PySem.Spec PyProof.Rows L2 L2H HotX
/-! ### a def that is given the error that is handled -/
abbrev SpE := Addr → Value → Option Addr → Sp
structure FnE (P : Program) (w : World) (K : PySem.W.Frag) (mg : Str → Option Value) (base : Heap) (CX : CXT) (k : Nat) (f : Addr) (fd : FuncData) (ps : List Str) (sp : SpE) : Prop where
  len : ∀ a cls d vs H Q E, sp a cls d vs H Q E → vs.length = ps.length
  run : ∀ (A : Around) (outer : List Env) (s : Shared) (H : Hp) (args : Args) (us : List Value) (vs : List V) (Q : VK) (E : XK) (p : Addr × Obj) (cls : Value) (d : Option Addr), RoomH k A → Hot1 A p → Zc cls d p.2 → PinOk outer H s p → Env0 P w K mg base A outer s H → BindsTo s fd args (ps.zip us) → Vals vs us → sp p.1 cls d vs H Q E →
    codeAny (model P w) A (.call (.ref f) args) (CR CX outer P w H s Q E) s
theorem fn_ofE {CX : CXT} {P : Program} {w : World} {K : PySem.W.Frag} {mg : Str → Option Value} {base : Heap} {k : Nat} {f : Addr} {name qual : Str} {params : Arguments} {body : List Stmt} {scope : Scope} {dV kV doc pm cdv ct oc : Value} {an od : Option Addr}
    {osl : Array (Option Value)} {N ps : List Str} {sp : SpE} (lk : K.lookup f = some ⟨oc, od, .func (PySem.W.fnOf name qual params body scope dV kV doc pm an cdv ct), osl⟩) (hcd : PySem.W.codeIn K cdv qual = true) (S : FnScope N ps scope)
    (len : ∀ a cls d vs H Q E, sp a cls d vs H Q E → vs.length = ps.length)
    (hbody : ∀ (A : Around) (outer : List Env) (s : Shared) (H : Hp) (vs : List V) (Q : VK) (E : XK) (p : Addr × Obj) (cls : Value) (d : Option Addr), Hot1 A p → Zc cls d p.2 → RoomH k (A.deeper (envOfC qual scope s.heap.objs.size f cdv)) → sp p.1 cls d vs H Q E →
      ∃ t, PSs (cxH CX P w K mg base N qual scope f cdv A outer s H E p) body t ∧ t { nx := fun _ H' => Q .non H', rt := Q } (L2.start N vs) H) :
    FnE P w K mg base CX (k + 1) f (PySem.W.fnOf name qual params body scope dV kV doc pm an cdv ct) ps sp := by
  refine ⟨len, fun A outer s H args us vs Q E p cls d hr hot hz hpin e0 hb r hsp => ?_⟩
  have hl := len _ _ _ _ _ _ _ hsp
  have KX : K.In s.heap := e0.mod.kin.keeps fun b o e => (e0.bs b o e).1
  have lim : s.heap.NoLimit := e0.mod.nolimit.keeps fun b o e => (e0.bs b o e).1
  have hkind : ∀ y ∈ ps.zip us, scope.names.lookup y.1 = some .local ∨ (scope.names.lookup y.1 = some .cell ∧ ((cellsFrom (s.heap.objs.size + 1) scope.names []).lookup y.1).isSome = true) := fun ⟨n, v⟩ hy => by
    rcases S.par n (List.of_mem_zip hy).1 with q | q
    · exact .inl q
    · exact .inr ⟨q, PySem.W.cellsFrom_some _ _ _ (.inl q)⟩
  refine codeAny_call_function hr.depth (KX _ _ lk) rfl S.co S.gen rfl (PySem.W.codeRec_of KX hcd) (hb _ _ _ _ ?_)
  refine wpAny_newFunctionEnv_cells S.kind hkind fun env he s1 x => ?_
  subst he
  refine ⟨lim.keeps x.toInCall.keep, codeAny_func ?_⟩
  obtain ⟨t, ht, hq⟩ := hbody A outer s H vs Q E p cls d hot hz (hr.deeper _) hsp
  have I : Inv (cxH CX P w K mg base N qual scope f cdv A outer s H E p) [] (L2.start N vs) H s1 := inv_startH S hpin e0 hl r x
  refine wpAny_mono (ht.run [] s1 (L2.start N vs) H _ I hq) (fun fl s' hs => ?_) fun e s' hs => hs
  have fin : ∀ {σ' : L2.St} {H' : Hp} {v : V} {u : Value}, Inv (cxH CX P w K mg base N qual scope f cdv A outer s H E p) [] σ' H' s' → RelV v u → Q v H' → CE outer P w H s Q u s' :=
    fun {σ' H' v u} J rv q => ⟨v, H', J.os, J.bare, J.base, J.hok, rv, q⟩
  cases fl with
  | ret u =>
    obtain ⟨v, σ', H', J, rv, q⟩ := hs
    exact fin J rv q
  | next =>
    obtain ⟨σ', H', J, q⟩ := hs
    exact fin (v := V.non) (u := Value.none) J rfl q
  | brk =>
    obtain ⟨_, _, _, q⟩ := hs
    exact False.elim q
  | cont =>
    obtain ⟨_, _, _, q⟩ := hs
    exact False.elim q
section
variable {P : Program} {w : World} {K : PySem.W.Frag} {mg : Str → Option Value} {base : Heap}
theorem okE {x qual : Str} {st : Stmt} {f : Addr} {fd : FuncData} {N ps : List Str} {k : Nat} {sp : SpE} (F : L2.Fun K x qual st f fd) (S : FnScope N ps (defScope st)) (len : ∀ a cls d vs H Q E, sp a cls d vs H Q E → vs.length = ps.length)
    (hbody : ∀ (cdv : Value) (A : Around) (outer : List Env) (s : Shared) (H : Hp) (vs : List V) (Q : VK) (E : XK) (p : Addr × Obj) (cls : Value) (d : Option Addr), Hot1 A p → Zc cls d p.2 → RoomH k (A.deeper (envOfC qual (defScope st) s.heap.objs.size f cdv)) → sp p.1 cls d vs H Q E →
      ∃ t, PSs (cxH CX0 P w K mg base N qual (defScope st) f cdv A outer s H E p) (defBody st) t ∧ t { nx := fun _ H' => Q .non H', rt := Q } (L2.start N vs) H) : FnE P w K mg base CX0 (k + 1) f fd ps sp := by
  obtain ⟨oc, od, kV, doc, pm, an, cdv, ct, osl, rfl, lk, hcd⟩ := F.ex
  exact fn_ofE lk hcd S len fun A outer s H vs Q E p cls d hot hz hr hsp => hbody cdv A outer s H vs Q E p cls d hot hz hr hsp
/-- a def that may raise: the errors bear that nothing was handled where they were made -/
theorem okN {x qual : Str} {st : Stmt} {f : Addr} {fd : FuncData} {N ps : List Str} {k : Nat} {sp : Sp} (F : L2.Fun K x qual st f fd) (S : FnScope N ps (defScope st)) (len : ∀ vs H Q E, sp vs H Q E → vs.length = ps.length)
    (hbody : ∀ (cdv : Value) (A : Around) (outer : List Env) (s : Shared) (H : Hp) (vs : List V) (Q : VK) (E : XK), Room k (A.deeper (envOfC qual (defScope st) s.heap.objs.size f cdv)) → sp vs H Q E →
      ∃ t, PSs (cxOf (L2N.CX P w) P w K mg base N qual (defScope st) f cdv A outer s H E) (defBody st) t ∧ t { nx := fun _ H' => Q .non H', rt := Q } (start N vs) H) : FnOk P w K mg base (L2N.CX P w) (k + 1) f fd ps sp := by
  obtain ⟨oc, od, kV, doc, pm, an, cdv, ct, osl, rfl, lk, hcd⟩ := F.ex
  exact fn_of lk hcd S len fun A outer s H vs Q E hr hsp => hbody cdv A outer s H vs Q E hr hsp
end
theorem zn_hot {X : Cx} {a : Addr} {oe : Obj} {cls : Value} {d : Option Addr} {pn : List (Addr × Obj)} (hz : L2N.Zn cls d oe) (hf : ∃ vs, oe.data = .fields vs) : Hot1 (X.suite a ((a, oe) :: pn)).A (a, oe) := by
  obtain ⟨vs, hv⟩ := hf
  exact ⟨rfl, vs, hv, hz.2.2 vs hv⟩
section
variable {X : Cx} {CX : CXT} {k : Nat} {f : Addr} {fd : FuncData} {ps : List Str} {sp : SpE} {E : L2.St → XK} {x : Str} {q pos : Pos} {e : Expr} {es : List Expr} {t : TA}
theorem pe_callE {p : Addr × Obj} {cls : Value} {d : Option Addr} (F : FnE X.prog X.w X.K X.mg X.base CX k f fd ps sp) (hr : RoomH k X.A) (hot : Hot1 X.A p) (hp : p ∈ X.pn) (hz : Zc cls d p.2) (hg : Gl X x) (hm : X.mg x = some (.ref f)) (hk : PySem.W.keepIn X.K (.ref f) = true) (hb : Binds X.K fd ps []) (hx : ∀ σ, PassesAt CX X σ (E σ))
    (ha : PA X (e :: es) t) (hdb : (x == ("__debug__" : Str)) = false := by decide) (he : starEach (e :: es) X.env = (false, eval e X.env) :: starEach es X.env := by rfl) (hpl : (backTo pos (starEach es X.env)).any (·.1) = false := by rfl) :
    PE X (.Call (.Name x q) (e :: es) [] pos) (tCallS (sp p.1 cls d) E t) := by
  refine ⟨fun pins s σ H Q I h => ?_⟩
  refine wpAny_Call_Name_kw (ld_glob I hg hm ?_ hdb)
  refine PySem.W.callWith_K (h₀ := X.base) I.ok.mod.kin hk (thn (ha.run pos pins s σ H _ I h) fun us s1 ⟨vs, H1, I1, r, q⟩ => ⟨I1.kIn, ?_⟩) he hpl
  have hl : us.length = ps.length := by rw [← r.length]; exact F.len _ _ _ _ _ _ _ q
  have b := hb s1 us I1.kIn (by rw [List.append_nil]; exact hl)
  rw [List.append_nil] at b
  have P1 := I1.pin p (List.mem_append_left _ hp)
  have hpin : PinOk X.stack H1 s1 p := ⟨P1.1, P1.2.1, fun hm => (List.mem_cons.mp (I1.stkSub p.1 hm)).elim P1.2.2.1 P1.2.2.2.1, P1.2.2.2.2⟩
  refine wpAny_call (codeAny_mono (F.run X.A X.stack s1 H1 ⟨us, []⟩ us vs Q (E σ) p cls d hr hot hz hpin I1.env0 b r q) fun r s' hq => ?_)
  cases r with
  | error e => exact hx σ pins H1 s1 e s' I1 hq
  | ok fl =>
    cases fl with
    | ret u => exact I1.after hq
    | next => exact False.elim hq
    | brk => exact False.elim hq
    | cont => exact False.elim hq
end
/-- isinstance of the error that is handled -/
theorem call_isP {X : Cx} {D : Addr} {p : Addr × Obj} (C : ExcC X.K D) (hp : p ∈ X.pn) (hz : Zc (.ref D) none p.2) (hf : ∃ vs, p.2.data = .fields vs) : CallR X (.builtin "isinstance") (rIsE X.K D p.1) := by
  intro pins s σ H xs us Q I r h
  obtain ⟨c, cv, b, rfl, hcv, e, q⟩ := h
  cases r with
  | cons rx rr =>
    cases rr with
    | cons rt rr =>
      cases rr
      cases rx
      have ec := hcv _ rt
      subst ec
      obtain ⟨hget, _⟩ := I.pin p (List.mem_append_left _ hp)
      obtain ⟨vs, hv⟩ := hf
      have J : PySem.W.InstAt s.heap p.1 p.2 D none := by
        obtain ⟨a, oc, od, oda, osl⟩ := p
        obtain ⟨h1, h2⟩ := hz
        dsimp only at h1 h2 hv
        subst h1 h2 hv
        exact ⟨hget, rfl, rfl, trivial⟩
      exact PySem.W.kia_one (PySem.W.handS_kitx_exc C.hg C.hk C.hs C.hd C.ha C.hn C.ht C.hm) I.kIn J e (fun z => nomatch z) fun tk => ⟨.bl b, H, I.kept (t' := tk) fun _ _ z => z, rfl, q⟩
end NL

set_option maxHeartbeats 2000000
namespace NL
open PySem PySem.Spec PyProof.Rows L2 L2H HotX
/-! ### an error with fields, made where nothing is handled: its context is None -/
theorem mk_oexN {X : Cx} {CX : CXT} {x : Str} {C fI : Addr} {k : Nat} {fd : FuncData} {ps : List Str} {sp : Sp} {a0 : Expr} {as : List Expr} {ta : TA} {p pos : Pos}
    (T : OexC X.K C) (iC : PySem.W.findIn X.K (.ref C) "__init__" = some (some (.ref fI))) (tI : PySem.W.typeIn X.K (.ref fI) = some (.type "function"))
    (F1 : FnOk X.prog X.w X.K X.mg X.base CX k fI fd ps sp) (hr : Room (k + 1) X.A) (hb : Binds X.K fd ps []) (hx : Passes CX X (fun _ _ _ => False)) (hg : Gl X x) (hm : X.mg x = some (.ref C)) (ha : PA X (a0 :: as) ta)
    (hdb : (x == ("__debug__" : Str)) = false := by decide) (hst : starEach (a0 :: as) X.env = (false, eval a0 X.env) :: starEach as X.env := by rfl) (hpl : (backTo pos (starEach as X.env)).any (·.1) = false := by rfl) :
    L2N.PMk X (.Call (.Name x p) (a0 :: as) [] pos) (tMkO C sp [] ta) := fun pins s σ H Q I h => by
  obtain ⟨cn, cq, cN, cb, cm, c1, c2, c3, c4, c5, j0, j1, j2, j3, j5, hC, hcm⟩ := T.cls
  refine wpAny_Call_Name_kw (ld_glob I hg hm (PySem.W.callWith_K (h₀ := X.base) I.ok.mod.kin T.kC (thn (ha.run pos pins s σ H _ I h) fun us sA ⟨vs, HA, IA, rA, hz, qA⟩ => ⟨IA.kIn, ?_⟩) hst hpl) hdb)
  show wpAny _ _ (call (.ref C) us) _ _ _
  obtain ⟨hp, gs, dr, tk, os⟩ := sA
  generalize hn0 : hp.objs.size = n0
  have big1 : hp.objs.size ≤ n0 + 1 := by omega
  generalize hh2 : (hp.push (PySem.W.kdv_tup us)).push (PySem.HandSPX.excO C n0) = h2
  have kk : ∀ b o, hp.get? b = some o → h2.get? b = some o := fun b o e => by
    rw [← hh2]
    exact Heap.get?_push_of_some _ (Heap.get?_push_of_some _ e)
  have hget : h2.get? (n0 + 1) = some (PySem.HandSPX.excO C n0) := by
    rw [← hh2, ← hn0]
    heap_get
  have IB : Inv X pins σ (upd HA (n0 + 1) (exo (n0 + 1) C none)) ⟨h2, gs, dr, tk, os⟩ := IA.laid (t' := tk) (a := n0 + 1) (o := exo (n0 + 1) C none) (h' := h2) kk big1 (exo_ok hget)
  have qB := qA (n0 + 1) (IA.hok.fresh big1)
  rw [List.append_nil] at qB
  have rB : Vals (V.ref (n0 + 1) :: vs) (Value.ref (n0 + 1) :: us) := .cons rfl rA
  have lB : (Value.ref (n0 + 1) :: us ++ []).length = ps.length := by
    rw [List.append_nil, ← rB.length]
    exact F1.len _ _ _ _ qB
  have bB := hb _ (Value.ref (n0 + 1) :: us) IB.kIn lB
  rw [List.append_nil] at bB
  have lus : us.length ≤ sizeLine := by
    rw [← Paired.length rA, sizeLine_eq]
    omega
  have main := F1.run _ X.stack _ _ ⟨Value.ref (n0 + 1) :: us, []⟩ (Value.ref (n0 + 1) :: us) _ _ (fun _ _ _ => False) (hr.make C us []) (IB.env0.make C us []) bB rB qB
  have ext : ∀ Y, PySem.HandSPX.refsVE cm = true → cm.contains (.type Y) = ([Value.type "ValueError", .type "Exception", .type "BaseException", .type "object"] : List Value).contains (.type Y) := fun Y h => PySem.HandSPX.refsVE_contains Y cm h
  subst hh2
  subst hn0
  refine wpAny_call (PySem.HandSPX.call_own F.excBase_ValueError (fun Y => ext Y hcm) (IA.kIn _ _ hC) (PySem.W.looks_findIn IA.kIn iC) (fun self => PySem.W.bind_fn IA.kIn self tI) lus (codeAny_mono main fun r sE hE => ?_))
  match r, hE with
  | .error er, hE => exact hx pins σ _ _ er sE IB hE
  | .ok .next, hE => exact False.elim hE
  | .ok .brk, hE => exact False.elim hE
  | .ok .cont, hE => exact False.elim hE
  | .ok (.ret u), ⟨v, HE, osE, bareE, unE, hokE, rv, ev, d, fs, ea, ed, hd1, qE⟩ =>
    subst ev
    obtain ⟨hE, gE, dE, tE, os'⟩ := sE
    obtain ⟨t0, G, J, kG, ge, hoe, na⟩ := mk_end0 (d2 := dE) (t2 := tE) IA big1 kk unE hokE osE bareE ea ed hd1
    exact ⟨rv, _, _, _, ⟨G, gE, dE, tE, os'⟩, _, .ref C, some d, rfl, J, kG, ge, hoe, ⟨rfl, rfl, fun vs hv => by cases hv; rfl⟩, rfl, rfl, na, rfl, bareE, raises_own T.exC T.tyC, qE⟩
/-- the class's __init__, that stores two fields -/
def spInit2 (K : PySem.W.Frag) (C : Addr) (f1 f2 : Str) : Sp := fun vs H Q _ => ∃ (a : Addr) (u v : V), vs = [.ref a, u, v] ∧ H a = some (exo a C none) ∧
  ∀ d H', H d = none → H' a = some (exo a C (some d)) → H' d = some (exd d [(f2, v), (f1, u)]) → (∀ b o, b ≠ a → H b = some o → H' b = some o) → Q .non H'
/-- an error of the class C is let out, with these two fields -/
abbrev Bad (C : Addr) (f1 f2 : Str) (H : Hp) (E : XK) (u v : V) : Prop := ∀ d H', Same H H' → H' d = some (.xd [(f2, v), (f1, u)]) → E (.ref C) (some d) H'
theorem Bad.same {C : Addr} {f1 f2 : Str} {H H' : Hp} {E : XK} {u v : V} (b : Bad C f1 f2 H E u v) (s : Same H H') : Bad C f1 f2 H' E u v := fun d H2 t e => b d H2 (s.trans t) e
theorem bad_go {K : PySem.W.Frag} {C : Addr} {f1 f2 : Str} {H : Hp} {E : XK} {u v : V} (b : Bad C f1 f2 H E u v) : ∀ a, H a = none → spInit2 K C f1 f2 (.ref a :: ([u, v] ++ [])) (upd H a (exo a C none))
    (fun r H2 => r = .non ∧ ∃ (d : Addr) (fs : List (Str × V)), H2 a = some (exo a C (some d)) ∧ H2 d = some (exd d fs) ∧ H d = none ∧ E (.ref C) (some d) (upd (del H2 a) d (.xd fs))) (fun _ _ _ => False) := fun a ha => by
  refine ⟨a, u, v, rfl, upd_same, fun d H' hd e1 e2 fr => ?_⟩
  have hda : d ≠ a := fun e => by
    rw [e, upd_same] at hd
    cases hd
  have hd0 : H d = none := by
    rw [upd_ne hda] at hd
    exact hd
  refine ⟨rfl, d, _, e1, e2, hd0, b d _ (fun c o ec => ?_) upd_same⟩
  have n1 : c ≠ a := ne_of_none ec ha
  rw [upd_ne (ne_of_none ec hd0), del_ne n1]
  exact fr c o n1 (by rw [upd_ne n1]; exact ec)
/-- isinstance of the error that is handled, an error with a dict -/
theorem call_isD {X : Cx} {D dd : Addr} {p : Addr × Obj} (C : ExcC X.K D) (hi : PySem.W.isClsIn X.K D = true) (hp : p ∈ X.pn) (hz : Zc (.ref D) (some dd) p.2) (hf : ∃ vs, p.2.data = .fields vs) :
    CallR X (.builtin "isinstance") (fun xs H Q => (∃ fs, H dd = some (.xd fs)) ∧ rIsE X.K D p.1 xs H Q) := by
  intro pins s σ H xs us Q I r h
  obtain ⟨⟨fs, hfs⟩, c, cv, b, rfl, hcv, e, q⟩ := h
  match r with
  | .cons rx (.cons rt .nil) =>
    cases rx
    have ec := hcv _ rt
    subst ec
    have hget := (I.pin p (List.mem_append_left _ hp)).1
    obtain ⟨vs, hv⟩ := hf
    have hx : ObjOk X.prog X.w H s.heap dd (.xd fs) := I.hok dd _ hfs
    obtain ⟨mA, hns, -⟩ := hx
    obtain ⟨od, ho, -⟩ := lookIn_ns hns
    have J : PySem.W.InstAt s.heap p.1 p.2 D (some od) := by
      obtain ⟨a, oc, od', oda, osl⟩ := p
      obtain ⟨z1, z2⟩ := hz
      dsimp only at z1 z2 hv
      subst z1 z2 hv
      exact ⟨hget, rfl, rfl, ho⟩
    exact PySem.W.kia_one (PySem.W.kitx_exc (show (PySem.W.clsIn X.K D).isSome = true from hi) C.hg C.hk C.hs C.ha C.hn C.ht C.hm) I.kIn J e (fun z => nomatch z) fun tk => ⟨.bl b, H, I.kept (t' := tk) fun _ _ z => z, rfl, q⟩
/-- a def that is called where an error is handled -/
theorem okH {P : Program} {w : World} {K : PySem.W.Frag} {mg : Str → Option Value} {base : Heap} {x qual : Str} {st : Stmt} {f : Addr} {fd : FuncData} {N ps : List Str} {k : Nat} {sp : Sp} (Fd : L2.Fun K x qual st f fd) (S : FnScope N ps (defScope st)) (len : ∀ vs H Q E, sp vs H Q E → vs.length = ps.length)
    (hbody : ∀ (cdv : Value) (A : Around) (outer : List Env) (s : Shared) (H : Hp) (vs : List V) (Q : VK) (E : XK) (p : Addr × Obj), Hot1 A p → RoomH k (A.deeper (envOfC qual (defScope st) s.heap.objs.size f cdv)) → sp vs H Q E →
      ∃ t, PSs (cxH CX0 P w K mg base N qual (defScope st) f cdv A outer s H E p) (defBody st) t ∧ t { nx := fun _ H' => Q .non H', rt := Q } (L2.start N vs) H) : FnH P w K mg base CX0 (k + 1) f fd ps sp := by
  obtain ⟨oc, od, kV, doc, pm, an, cdv, ct, osl, rfl, lk, hcd⟩ := Fd.ex
  exact fn_ofH lk hcd S len fun A outer s H vs Q E p hot hr hsp => hbody cdv A outer s H vs Q E p hot hr hsp
end NL

namespace NL
open PySem PySem.Spec PyProof.Rows L2

/-! ### frames: what stays while the list of draws at d is used up -/
structure Go (d : Addr) (H H' : Hp) : Prop where
  fr : ∀ b o, b ≠ d → H b = some o → H' b = some o
  dr : ∃ ns : List Int, H' d = some (.lst (ns.map V.int))
abbrev Dr (H : Hp) (d : Addr) : Prop := ∃ ns : List Int, H d = some (.lst (ns.map V.int))
theorem Go.refl {d : Addr} {H : Hp} (h : Dr H d) : Go d H H := ⟨fun _ _ _ e => e, h⟩
theorem Go.trans {d : Addr} {H H1 H2 : Hp} (a : Go d H H1) (b : Go d H1 H2) : Go d H H2 := ⟨fun c o n e => b.fr c o n (a.fr c o n e), b.dr⟩
theorem Go.new {d p : Addr} {H : Hp} {o : HO} (h : Dr H d) (hp : H p = none) : Go d H (upd H p o) := by
  obtain ⟨ns, e⟩ := h
  have n : d ≠ p := ne_of_none e hp
  exact ⟨fun b u _ q => by rw [upd_ne (ne_of_none q hp)]; exact q, ⟨ns, by rw [upd_ne n]; exact e⟩⟩
theorem Go.put {d : Addr} {H : Hp} (ns : List Int) : Go d H (upd H d (.lst (ns.map V.int))) := ⟨fun b u n q => by rw [upd_ne n]; exact q, ⟨ns, upd_same⟩⟩
theorem Go.same {d : Addr} {H H' : Hp} (h : Dr H d) (s : Same H H') : Go d H H' := ⟨fun b o _ e => s b o e, by obtain ⟨ns, e⟩ := h; exact ⟨ns, s _ _ e⟩⟩
theorem Go.tup {d a : Addr} {H H' : Hp} {xs : List V} (g : Go d H H') (h : Dr H d) (e : H a = some (.tup xs)) : H' a = some (.tup xs) := by
  refine g.fr a _ ?_ e
  rintro rfl
  obtain ⟨ns, q⟩ := h
  rw [e] at q; cases q
theorem same_new {H : Hp} {p : Addr} (h : H p = none) (o : HO) : Same H (upd H p o) := fun b u q => by rw [upd_ne (ne_of_none q h)]; exact q
/-- all tuples stay -/
def Tp (H H' : Hp) : Prop := ∀ a xs, H a = some (.tup xs) → H' a = some (.tup xs)
theorem Go.tp {d : Addr} {H H' : Hp} (g : Go d H H') (h : Dr H d) : Tp H H' := fun _ _ e => g.tup h e
theorem Tp.same {H H' : Hp} (s : Same H H') : Tp H H' := fun _ _ e => s _ _ e
theorem Tp.trans {H H1 H2 : Hp} (a : Tp H H1) (b : Tp H1 H2) : Tp H H2 := fun x y e => b x y (a x y e)
theorem Tp.refl {H : Hp} : Tp H H := fun _ _ e => e
/-- a list that stays readable whatever is drawn at d -/
def Keep (K : PySem.W.Frag) (d : Addr) (H : Hp) (a : Addr) (xs : List V) : Prop := ∀ H', (∀ b o, b ≠ d → H b = some o → H' b = some o) → SqL K H' a xs
theorem Keep.now {K : PySem.W.Frag} {d a : Addr} {H : Hp} {xs : List V} (k : Keep K d H a xs) : SqL K H a xs := k H fun _ _ _ e => e
theorem Keep.go {K : PySem.W.Frag} {d a : Addr} {H H' : Hp} {xs : List V} (k : Keep K d H a xs) (g : Go d H H') : Keep K d H' a xs := fun H2 f => k H2 fun b o n e => f b o n (g.fr b o n e)
theorem Keep.of {K : PySem.W.Frag} {d a : Addr} {H : Hp} {xs : List V} (n : a ≠ d) (h : H a = some (.lst xs)) : Keep K d H a xs := fun H' f => .inl (.inl (f a _ n h))
/-- what was read ahead of the draws' list stays -/
theorem Keep.old {K : PySem.W.Frag} {d a : Addr} {H0 H : Hp} {xs : List V} (h : SqL K H0 a xs) (hd : H0 d = none) (f : ∀ b o, H0 b = some o → H b = some o) : Keep K d H a xs := fun H' g => by
  rcases h with (h | ⟨o, h⟩) | h
  · exact .inl (.inl (g a _ (ne_of_none h hd) (f _ _ h)))
  · exact .inl (.inr ⟨o, g a _ (ne_of_none h hd) (f _ _ h)⟩)
  · exact .inr h

/-! ### rules whose written part is named (in a comprehension) -/
theorem ix_tupK {X : Cx} {K : PySem.W.Frag} (h : X.K = K) : IxR X (rIxT K) := by subst h; exact ix_tup
theorem ix_listK {X : Cx} {K : PySem.W.Frag} (h : X.K = K) : IxR X (rIxL K) := by subst h; exact ix_list
def rTupOf (K : PySem.W.Frag) : List V → Hp → VK → Prop := fun xs H Q => ∃ p ys, xs = [.ref p] ∧ ((SqL K H p ys ∧ ∀ l, H l = none → Q (.ref l) (upd H l (.tup ys))) ∨ (SqT K H p ys ∧ Q (.ref p) H))
theorem call_tuple_ofK {X : Cx} {K : PySem.W.Frag} (h : X.K = K) : CallR X (.type "tuple") (rTupOf K) := by subst h; exact call_tuple_of
/-! ### texts and words -/
/-- signs a to z alone -/
def Wd (z : Str) : Prop := ∀ c ∈ z.cps.toList, 97 ≤ c ∧ c ≤ 122
instance (z : Str) : Decidable (Wd z) := by unfold Wd; infer_instance
def res : List Str := ["true", "false", "add", "sub", "mul", "div", "mod", "min", "max", "abs", "if", "less", "equal", "not", "all", "any"]
theorem app_list (a b : Str) : (a ++ b).cps.toList = a.cps.toList ++ b.cps.toList := by
  show (a.cps ++ b.cps).toList = _
  simp
theorem len_list (a : Str) : a.length = a.cps.toList.length := by
  show a.cps.size = _
  simp
theorem len_app (a b : Str) : (a ++ b).length = a.length + b.length := by
  rw [len_list, app_list, List.length_append, ← len_list, ← len_list]
theorem str_ext {a b : Str} (h : a.cps.toList = b.cps.toList) : a = b := by
  cases a with | mk x => cases b with | mk y =>
  have : x = y := Array.toList_inj.mp h
  rw [this]
theorem Wd.app {a b : Str} (ha : Wd a) (hb : Wd b) : Wd (a ++ b) := fun c hc => by
  rw [app_list] at hc
  rcases List.mem_append.mp hc with h | h
  · exact ha c h
  · exact hb c h
structure Nam (z : Str) : Prop where
  wd : Wd z
  len : 0 < z.length ∧ z.length ≤ 200
  nr : z ∉ res
structure Nm (z : Str) : Prop where
  wd : Wd z
  len : 0 < z.length ∧ z.length ≤ 150

/-! ### lists at an index -/
theorem atI_mem {α : Type} {xs : List α} {i : Int} (h0 : 0 ≤ i) (h1 : i < xs.length) : ∃ v, atI xs i = some v ∧ v ∈ xs := by
  have hk : i.toNat < xs.length := by omega
  have ek : i = ((i.toNat : Nat) : Int) := by omega
  have q : atI xs ((i.toNat : Nat) : Int) = some xs[i.toNat] := atI_nat (List.getElem?_eq_getElem hk)
  rw [← ek] at q
  exact ⟨_, q, List.getElem_mem hk⟩
theorem atI_map {α β : Type} {f : α → β} {xs : List α} {i : Int} (h0 : 0 ≤ i) (h1 : i < xs.length) : ∃ v, atI (xs.map f) i = some (f v) ∧ v ∈ xs := by
  obtain ⟨v, h, m⟩ := atI_mem (xs := xs.map f) h0 (by rw [List.length_map]; exact h1)
  obtain ⟨u, hu, rfl⟩ := List.mem_map.mp m
  exact ⟨u, h, hu⟩
theorem sqd {K : PySem.W.Frag} {H : Hp} {a : Addr} {xs : List V} (h : H a = some (.lst xs)) : SqL K H a xs := .inl (.inl h)
theorem sqt {K : PySem.W.Frag} {H : Hp} {a : Addr} {xs : List V} (h : H a = some (.tup xs)) : SqT K H a xs := .inl (.inl h)
theorem int_eq {i j : Int} (h : decide (V.int i = V.int j) = true) : i = j := V.int.inj (of_decide_eq_true h)
theorem int_ne {i j : Int} (h : ¬ decide (V.int i = V.int j) = true) : i ≠ j := fun e => h (decide_eq_true (by rw [e]))
section
variable {P : Program} {w : World} {K : PySem.W.Frag} {mg : Str → Option Value} {base : Heap}
/-! ### _law_take -/
def spTake : Sp := fun vs H Q _ => ∃ (d : Addr) (m : Int), vs = [.ref d, .int m] ∧ Dr H d ∧ 0 < m ∧ ∀ r H', Go d H H' → 0 ≤ r → r < m → Q (.int r) H'
theorem ok_law_take (T : Txt K mg) : FnOk P w K mg base CX0 1 T.a_law_take T.d_law_take P_law_take spTake := by
  refine T.F_law_take.ok sc_law_take (fun vs H Q E h => ?_) (fun cdv A outer s H vs Q E hr h => ?_)
  · obtain ⟨d, m, rfl, _⟩ := h
    rfl
  obtain ⟨d, m, rfl, hD, hm, q⟩ := h
  refine ⟨_, (pss_cons (ps_if (pt_cmpR op_eq (pe_callB call_len_seq (by rfl) T.z_len PySem.boot_len (pa_cons (pv 0) pa_nil)) pe_int (nomark _))
    (pss_one (ps_ret pe_int))
    pss_nil)
    (pss_one (ps_ret (pe_op op_mod (pe_callTy call_int1 (by rfl) T.z_int (by decide +kernel) (pa_cons (pe_bm0 PySem.F.plainAttrs_list PySem.F.slot_list_pop PySem.F.type_list_pop mt_pop (pv 0)) pa_nil)) (pv 1))))), ?_⟩
  obtain ⟨ns, hd⟩ := hD
  refine ⟨_, rfl, _, _, rfl, .inl (sqd hd), rfl, _, rfl, ?_⟩
  refine ite2 (fun c => ?_) (fun c => ?_)
  · exact q 0 H (Go.refl ⟨ns, hd⟩) (Int.le_refl 0) hm
  · have hn := int_ne c
    rw [List.length_map] at hn
    have hz : ns ≠ [] := by
      rintro rfl
      exact hn rfl
    have hl : 0 < ns.length := List.length_pos_iff.mpr hz
    have he : (ns.map V.int)[(ns.map V.int).length - 1]? = some (.int ns[ns.length - 1]) := by
      rw [List.length_map, List.getElem?_map, List.getElem?_eq_getElem (by omega)]
      rfl
    refine ⟨_, rfl, .inl ⟨rfl, _, sqd hd⟩, _, _, _, rfl, rfl, hd, he, .inl ⟨_, rfl, ?_⟩⟩
    refine ⟨_, rfl, _, _, rfl, rfl, hm, ?_⟩
    refine q _ _ ?_ (Int.emod_nonneg _ (by omega)) (Int.emod_lt_of_pos _ hm)
    rw [← List.map_dropLast]
    exact Go.put _
end
end NL

namespace NL
open PySem PySem.Spec PyProof.Rows L2
/-! ### a text times a number -/
theorem op_mulS {X : Cx} : OpR X (binaryOp .Mult) (fun x y H Q => ∃ (z : Str) (k : Int), x = .str z ∧ y = .int k ∧ z.length ≤ 16 ∧ 0 ≤ k ∧ k ≤ 1000 ∧ ((Txt.mul z k).length = z.length * k.toNat → Q (.str (Txt.mul z k)) H)) := by
  intro pins s σ H x y v u Q I rx ry h
  obtain ⟨z, k, rfl, rfl, hz, h0, h1, q⟩ := h
  obtain ⟨t, rfl⟩ := rx
  obtain ⟨t', rfl⟩ := ry
  refine PySem.W.KXi.mul rfl hz (by omega) (by omega) fun t' tk _ hl => ⟨.str (Txt.mul z k), H, I.tok _, ⟨_, rfl⟩, q ?_⟩
  have e := hl h0
  have e2 : k = ((k.toNat : Nat) : Int) := by omega
  rw [e2] at e
  have : ((z.length : Int) * ((k.toNat : Nat) : Int)) = ((z.length * k.toNat : Nat) : Int) := by push_cast; rfl
  rw [this] at e
  have e3 := Int.ofNat.inj e
  rw [← e2] at e3
  exact e3
def abc : Str := "abcdefghijklmnopqrstuvwxyz"
theorem abc_at {i : Int} (h0 : 0 ≤ i) (h1 : i < 26) : ∃ c, atI abc.cps.toList i = some c ∧ 97 ≤ c ∧ c ≤ 122 := by
  have hl : abc.cps.toList.length = 26 := by decide +kernel
  obtain ⟨c, h, m⟩ := atI_mem (xs := abc.cps.toList) h0 (by rw [hl]; exact h1)
  have hall : ∀ c ∈ abc.cps.toList, 97 ≤ c ∧ c ≤ 122 := by decide +kernel
  exact ⟨c, h, hall c m⟩
section
variable {P : Program} {w : World} {K : PySem.W.Frag} {mg : Str → Option Value} {base : Heap}
/-! ### _law_cell -/
def spCell (K : PySem.W.Frag) : Sp := fun vs H Q _ => ∃ (a d : Addr) (ns : List Int), vs = [.ref a, .ref d] ∧ Keep K d H a (ns.map V.int) ∧ Dr H d ∧ ∀ r H', Go d H H' → (r = 0 ∨ r ∈ ns) → Q (.int r) H'
theorem ok_law_cell (T : Txt K mg) : FnOk P w K mg base CX0 2 T.a_law_cell T.d_law_cell P_law_cell (spCell K) := by
  have G_law_take := ok_law_take (P := P) (w := w) (base := base) T
  refine T.F_law_cell.ok sc_law_cell (fun vs H Q E h => ?_) (fun cdv A outer s H vs Q E hr h => ?_)
  · obtain ⟨a, d, ns, rfl, _⟩ := h
    rfl
  obtain ⟨a, d, ns, rfl, hk, hD, q⟩ := h
  refine ⟨_, (pss_cons (ps_if (pt_cmpR op_eq (pe_callB call_len_seq (by rfl) T.z_len PySem.boot_len (pa_cons (pv 0) pa_nil)) pe_int (nomark _))
    (pss_one (ps_ret pe_int))
    pss_nil)
    (pss_one (ps_ret (pe_callTy call_int1 (by rfl) T.z_int (by decide +kernel) (pa_cons (pe_ix ix_list (pv 0) (pe_call G_law_take (hr.mono (by omega)) (by rfl) T.m_law_take T.F_law_take.kp T.b_law_take .nil pass0 (pa_cons (pv 1) (pa_cons (pe_callB call_len_seq (by rfl) T.z_len PySem.boot_len (pa_cons (pv 0) pa_nil)) pa_nil))) (fun _ _ => rfl)) pa_nil))))), ?_⟩
  refine ⟨_, rfl, _, _, rfl, .inl hk.now, rfl, _, rfl, ?_⟩
  refine ite2 (fun c => ?_) (fun c => ?_)
  · exact q 0 H (Go.refl hD) (.inl rfl)
  · have hn := int_ne c
    rw [List.length_map] at hn
    refine ⟨_, rfl, _, rfl, _, rfl, _, _, rfl, .inl hk.now, d, _, rfl, hD, by rw [List.length_map]; omega, fun r H1 g h0 h1 => ?_⟩
    rw [List.length_map] at h1
    obtain ⟨v, hv, hm⟩ := atI_map (f := V.int) h0 h1
    exact ⟨_, _, _, _, rfl, rfl, (hk.go g).now, hv, .inl ⟨_, rfl, q v H1 g (.inr hm)⟩⟩
/-! ### _law_word -/
def spWord : Sp := fun vs H Q _ => ∃ i : Int, vs = [.int i] ∧ ∀ z : Str, Wd z → z.length ≤ 60 → (1 ≤ i → 0 < z.length) → Q (.str z) H
theorem ok_law_word (T : Txt K mg) : FnOk P w K mg base CX0 1 T.a_law_word T.d_law_word P_law_word spWord := by
  refine T.F_law_word.ok sc_law_word (fun vs H Q E h => ?_) (fun cdv A outer s H vs Q E hr h => ?_)
  · obtain ⟨i, rfl, _⟩ := h
    rfl
  obtain ⟨i0, rfl, q⟩ := h
  refine ⟨_, (pss_cons (ps_set (i := 1) sc_law_word.nd rfl (Or.inl rfl) pe_str)
    (pss_cons (ps_for  PassesOwn.never rfl (pi_range1 (by rfl) T.z_range (pa_cons pe_int pa_nil)) (pg_name (i := 2) sc_law_word.nd rfl (Or.inl rfl))
    (pss_cons (ps_if (pt_cmpR op_lt (pv 0) pe_int (nomark _))
    (pss_one ps_break)
    pss_nil)
    (pss_cons (ps_set (i := 1) sc_law_word.nd rfl (Or.inl rfl) (pe_op op_add_str (pe_ix ix_str pe_str (pe_op op_mod (pe_callTy call_int1 (by rfl) T.z_int (by decide +kernel) (pa_cons (pe_op op_sub (pv 0) pe_int) pa_nil)) pe_int) (fun _ _ => rfl)) (pv 1)))
    (pss_one (ps_set (i := 0) sc_law_word.nd rfl (Or.inl rfl) (pe_op op_fdiv (pe_op op_sub (pv 0) pe_int) pe_int))))))
    (pss_one (ps_ret (pv 1))))), ?_⟩
  refine ⟨60, rfl, by decide, by decide, for_range (lo := 0) (n := 60) (fun j σ H' => ∃ (i : Int) (z : Str) (y : Option V), σ = [some (.int i), some (.str z), y] ∧ H' = H ∧ Wd z ∧ z.length ≤ j ∧ (j = 0 → i = i0) ∧ (0 < j → 0 < z.length)) ?_ ?_ ?_⟩
  · exact ⟨i0, _, none, rfl, rfl, (by decide +kernel), (by decide +kernel), fun _ => rfl, fun h => absurd h (by decide)⟩
  · rintro j σ H' hj ⟨i, z, y, rfl, rfl, hw, hz, e0, e1⟩
    refine ⟨_, rfl, _, _, rfl, rfl, _, rfl, ?_⟩
    refine ite2 (fun c => ?_) (fun c => ?_)
    · have hi : i < 1 := of_decide_eq_true c
      exact ⟨_, rfl, q z hw (by omega) fun h1 => e1 (by
        rcases Nat.eq_zero_or_pos j with e | e
        · have := e0 e
          omega
        · exact e)⟩
    · obtain ⟨ch, hc, hc1⟩ := abc_at (Int.emod_nonneg (i - 1) (by decide : (26 : Int) ≠ 0)) (Int.emod_lt_of_pos (i - 1) (by decide))
      have hw1 : Wd (⟨#[ch]⟩ : Str) := fun c h => by
        have : c = ch := by simpa using h
        rw [this]
        exact hc1
      have hl : ((⟨#[ch]⟩ : Str) ++ z).length = 1 + z.length := by rw [len_app] <;> rfl
      refine ⟨_, rfl, _, _, rfl, rfl, .inl ⟨_, rfl, _, _, rfl, rfl, (by show (0 : Int) < 26; decide), _, _, ch, rfl, rfl, (by decide +kernel), hc, _, rfl, _, _, rfl, rfl, ?_, ?_⟩⟩
      · have : (⟨#[ch]⟩ : Str).length = 1 := rfl
        rw [this]
        exact Nat.le_of_lt (small1000 (by omega))
      · refine ⟨_, rfl, _, _, rfl, rfl, _, _, rfl, rfl, ⟨by decide, by decide⟩, ?_⟩
        exact ⟨_, _, _, rfl, rfl, hw1.app hw, by rw [hl]; omega, fun h => absurd h (by omega), fun _ => by rw [hl]; omega⟩
  · rintro σ H' ⟨i, z, y, rfl, rfl, hw, hz, e0, e1⟩
    exact ⟨_, rfl, q z hw hz fun _ => e1 (by decide)⟩
end
end NL

namespace NL
open PySem PySem.Spec PyProof.Rows L2
section
variable {P : Program} {w : World} {K : PySem.W.Frag} {mg : Str → Option Value} {base : Heap}
/-! ### _law_some_word -/
theorem fold_wd {p : Nat → Prop} : ∀ (l : List (Array Nat)) (acc : Array Nat), (∀ c ∈ acc.toList, p c) → (∀ a ∈ l, ∀ c ∈ a.toList, p c) → ∀ c ∈ (l.foldl (· ++ ·) acc).toList, p c
  | [], acc, h, _, c, hc => h c hc
  | a :: r, acc, h, g, c, hc => by
    refine fold_wd r (acc ++ a) (fun c hc => ?_) (fun a ha => g a (List.mem_cons_of_mem _ ha)) c hc
    rw [Array.toList_append] at hc
    rcases List.mem_append.mp hc with h1 | h1
    · exact h c h1
    · exact g a List.mem_cons_self c h1
theorem mul_wd {z : Str} (h : Wd z) (k : Int) : Wd (Txt.mul z k) := by
  unfold Txt.mul
  split
  · decide
  · split
    · exact h
    · refine fold_wd _ _ (fun c hc => by simp at hc) fun a ha => ?_
      rw [(List.mem_replicate.mp ha).2]
      exact h
def spSomeWord : Sp := fun vs H Q _ => ∃ d : Addr, vs = [.ref d] ∧ Dr H d ∧ ∀ z H', Go d H H' → Nm z → Q (.str z) H'
theorem ok_law_some_word (T : Txt K mg) : FnOk P w K mg base CX0 2 T.a_law_some_word T.d_law_some_word P_law_some_word spSomeWord := by
  have G_law_take := ok_law_take (P := P) (w := w) (base := base) T
  have G_law_word := ok_law_word (P := P) (w := w) (base := base) T
  refine T.F_law_some_word.ok sc_law_some_word (fun vs H Q E h => ?_) (fun cdv A outer s H vs Q E hr h => ?_)
  · obtain ⟨d, rfl, _⟩ := h
    rfl
  obtain ⟨d, rfl, hD, q⟩ := h
  refine ⟨_, (pss_cons (ps_set (i := 1) sc_law_some_word.nd rfl (Or.inl rfl) (pe_call G_law_take (hr.mono (by omega)) (by rfl) T.m_law_take T.F_law_take.kp T.b_law_take .nil pass0 (pa_cons (pv 0) (pa_cons pe_int pa_nil))))
    (pss_cons (ps_if (pt_cmpR op_lt (pv 1) pe_int (nomark _))
    (pss_one (ps_ret (pe_call G_law_word (hr.mono (by omega)) (by rfl) T.m_law_word T.F_law_word.kp T.b_law_word .nil pass0 (pa_cons (pe_op op_add (pe_op op_add pe_int (pe_op op_mod (pv 1) pe_int)) (pe_op op_mul pe_int (pe_op op_mod (pe_op op_fdiv (pv 1) pe_int) pe_int))) pa_nil))))
    pss_nil)
    (pss_cons (ps_if (pt_cmpR op_lt (pv 1) pe_int (nomark _))
    (pss_one (ps_ret (pe_call G_law_word (hr.mono (by omega)) (by rfl) T.m_law_word T.F_law_word.kp T.b_law_word .nil pass0 (pa_cons (pe_op op_add pe_int (pe_call G_law_take (hr.mono (by omega)) (by rfl) T.m_law_take T.F_law_take.kp T.b_law_take .nil pass0 (pa_cons (pv 0) (pa_cons pe_int pa_nil)))) pa_nil))))
    pss_nil)
    (pss_cons (ps_if (pt_cmpR op_lt (pv 1) pe_int (nomark _))
    (pss_one (ps_ret (pe_op op_add_str (pe_op op_mulS pe_str (pe_op op_add pe_int (pe_op op_mod (pe_callTy call_int1 (by rfl) T.z_int (by decide +kernel) (pa_cons (pv 1) pa_nil)) pe_int))) (pe_call G_law_word (hr.mono (by omega)) (by rfl) T.m_law_word T.F_law_word.kp T.b_law_word .nil pass0 (pa_cons (pe_op op_add pe_int (pe_call G_law_take (hr.mono (by omega)) (by rfl) T.m_law_take T.F_law_take.kp T.b_law_take .nil pass0 (pa_cons (pv 0) (pa_cons pe_int pa_nil)))) pa_nil)))))
    pss_nil)
    (pss_cons (ps_set (i := 2) sc_law_some_word.nd rfl (Or.inl rfl) (pe_op op_add (pe_op op_mul pe_int (pe_call G_law_take (hr.mono (by omega)) (by rfl) T.m_law_take T.F_law_take.kp T.b_law_take .nil pass0 (pa_cons (pv 0) (pa_cons pe_int pa_nil)))) (pe_op op_mul pe_int (pe_call G_law_take (hr.mono (by omega)) (by rfl) T.m_law_take T.F_law_take.kp T.b_law_take .nil pass0 (pa_cons (pv 0) (pa_cons pe_int pa_nil))))))
    (C8.pss_cut (ps_if (pt_cmpR op_ge (pv 1) pe_int (nomark _))
    (pss_one (ps_set (i := 2) sc_law_some_word.nd rfl (Or.inl rfl) (pe_op op_mul (pv 2) (pe_op op_pow pe_int pe_int))))
    pss_nil)
    (pss_one (ps_ret (pe_call G_law_word (hr.mono (by omega)) (by rfl) T.m_law_word T.F_law_word.kp T.b_law_word .nil pass0 (pa_cons (pe_op op_add (pe_op op_add pe_int (pv 2)) (pe_call G_law_take (hr.mono (by omega)) (by rfl) T.m_law_take T.F_law_take.kp T.b_law_take .nil pass0 (pa_cons (pv 0) (pa_cons pe_int pa_nil)))) pa_nil)))))))))), ?_⟩
  -- number = take(draws, 1000)
  refine ⟨_, rfl, d, _, rfl, hD, (by decide), fun n H1 g1 n0 n1 => ?_⟩
  -- if number < 600
  refine ⟨_, rfl, _, _, rfl, rfl, _, rfl, ?_⟩
  refine ite2 (fun c => ?_) (fun c => ?_)
  · refine ⟨_, rfl, _, _, rfl, rfl, (by show (0 : Int) < 6; decide), _, _, rfl, rfl, _, rfl, _, _, rfl, rfl, ⟨by decide, by decide⟩, _, _, rfl, rfl, (by show (0 : Int) < 2; decide), _, _, rfl, rfl, .inl ⟨by decide, by decide⟩, _, _, rfl, rfl, _, rfl, fun z hw hl hp => ?_⟩
    have b1 := Int.emod_nonneg n (by decide : (6 : Int) ≠ 0)
    have b2 := Int.emod_nonneg (n / 100) (by decide : (2 : Int) ≠ 0)
    exact q z H1 g1 ⟨hw, hp (by omega), by omega⟩
  -- if number < 850
  refine ⟨_, rfl, _, _, rfl, rfl, _, rfl, ?_⟩
  refine ite2 (fun c => ?_) (fun c => ?_)
  · refine ⟨_, rfl, d, _, rfl, g1.dr, (by decide), fun r H2 g2 r0 r1 => ?_⟩
    refine ⟨_, _, rfl, rfl, _, rfl, fun z hw hl hp => ?_⟩
    exact q z H2 (g1.trans g2) ⟨hw, hp (by omega), by omega⟩
  -- if number < 875
  refine ⟨_, rfl, _, _, rfl, rfl, _, rfl, ?_⟩
  refine ite2 (fun c => ?_) (fun c => ?_)
  · have b1 := Int.emod_nonneg n (by decide : (3 : Int) ≠ 0)
    have b2 := Int.emod_lt_of_pos n (by decide : (0 : Int) < 3)
    refine ⟨_, rfl, .inl ⟨_, rfl, _, _, rfl, rfl, (by show (0 : Int) < 3; decide), _, _, rfl, rfl, _, _, rfl, rfl, (by decide +kernel), (by omega), (by omega), fun hm => ?_⟩⟩
    refine ⟨_, rfl, d, _, rfl, g1.dr, (by decide), fun r H2 g2 r0 r1 => ?_⟩
    refine ⟨_, _, rfl, rfl, _, rfl, fun z hw hl hp => ?_⟩
    have l12 : ("abcdefghijkl" : Str).length = 12 := by decide +kernel
    have w12 : Wd ("abcdefghijkl" : Str) := by decide +kernel
    rw [l12] at hm
    have hb : (1 + n % 3).toNat ≤ 6 := by omega
    have hp' := hp (by omega)
    refine ⟨_, _, rfl, rfl, ?_, q _ H2 (g1.trans g2) ⟨(mul_wd w12 _).app hw, ?_, ?_⟩⟩
    · rw [hm]
      exact Nat.le_of_lt (small1000 (by omega))
    · rw [len_app]; omega
    · rw [len_app, hm]; omega
  -- great = ..
  refine ⟨_, rfl, d, _, rfl, g1.dr, (by decide), fun r H2 g2 r0 r1 => ?_⟩
  refine ⟨_, _, rfl, rfl, .inl ⟨by decide, by decide⟩, ?_⟩
  refine ⟨_, rfl, d, _, rfl, g2.dr, (by decide), fun t H3 g3 t0 t1 => ?_⟩
  refine ⟨_, _, rfl, rfl, .inl ⟨by decide, by decide⟩, _, _, rfl, rfl, ?_⟩
  refine ⟨fun σ H4 => ∃ gr : Int, 0 ≤ gr ∧ σ = [some (.ref d), some (.int n), some (.int gr)] ∧ Go d H H4, ?_, ?_⟩
  · refine ⟨_, rfl, _, _, rfl, rfl, _, rfl, ?_⟩
    refine ite2 (fun c => ?_) (fun c => ?_)
    · refine ⟨_, rfl, _, _, rfl, rfl, ⟨by decide, by decide, by decide⟩, _, _, rfl, rfl, ?_, ?_⟩
      · left
        constructor <;> omega
      · refine ⟨_, ?_, rfl, (g1.trans g2).trans g3⟩
        have : (0 : Int) ≤ 10 ^ (Int.toNat 15) := by decide
        exact Int.mul_nonneg (by omega) this
    · exact ⟨_, by omega, rfl, (g1.trans g2).trans g3⟩
  · rintro σ H4 ⟨gr, hg, rfl, g4⟩
    refine ⟨_, rfl, _, _, rfl, rfl, _, rfl, d, _, rfl, g4.dr, (by decide), fun u H5 g5 u0 u1 => ?_⟩
    refine ⟨_, _, rfl, rfl, _, rfl, fun z hw hl hp => ?_⟩
    exact q z H5 (g4.trans g5) ⟨hw, hp (by omega), by omega⟩
/-! ### _law_reserved -/
def spReserved : Sp := fun vs H Q _ => vs = [] ∧ ∀ p H', Same H H' → H p = none → H' p = some (.lst (res.map V.str)) → Q (.ref p) H'
theorem ok_law_reserved (T : Txt K mg) : FnOk P w K mg base CX0 1 T.a_law_reserved T.d_law_reserved P_law_reserved spReserved := by
  refine T.F_law_reserved.ok sc_law_reserved (fun vs H Q E h => ?_) (fun cdv A outer s H vs Q E hr h => ?_)
  · obtain ⟨rfl, _⟩ := h
    rfl
  obtain ⟨rfl, q⟩ := h
  refine ⟨_, (pss_cons (ps_set (i := 0) sc_law_reserved.nd rfl (Or.inl rfl) (pe_lst (pa_cons pe_str (pa_cons pe_str (pa_cons pe_str (pa_cons pe_str (pa_cons pe_str (pa_cons pe_str (pa_cons pe_str (pa_cons pe_str (pa_cons pe_str (pa_cons pe_str pa_nil))))))))))))
    (pss_one (ps_ret (pe_op op_cat (pv 0) (pe_lst (pa_cons pe_str (pa_cons pe_str (pa_cons pe_str (pa_cons pe_str (pa_cons pe_str (pa_cons pe_str pa_nil))))))))))), ?_⟩
  refine ⟨(by decide), fun p hp => ?_⟩
  refine ⟨_, rfl, (by decide), fun p2 hp2 => ?_⟩
  have n12 : p ≠ p2 := ne_of_none upd_same hp2
  refine ⟨_, _, _, _, rfl, rfl, (by rw [upd_ne n12]; exact upd_same), upd_same, (by decide), fun p3 hp3 => ?_⟩
  refine q p3 _ ?_ ?_ ?_
  · exact (same_new hp _).trans ((same_new hp2 _).trans (same_new hp3 _))
  · exact ((same_new hp _).trans (same_new hp2 _)).free hp3
  · rw [upd_same]
    rfl
end
end NL

namespace NL
open PySem PySem.Spec PyProof.Rows L2
/-! ### the tree of an expression or a condition -/
inductive It where
  | num (n : Int)
  | name (x : Str)
  | lit (b : Bool)
  | un (w : Str) (a : It)
  | dm (w : Str) (a : It) (n : Int)
  | bin (w : Str) (a b : It)
  | tri (a b c : It)
  | grp (w : Str) (l : List It)
def bstr (b : Bool) : Str := if b then "true" else "false"
/-- the tree stands at v -/
inductive ItemIn (H : Hp) : It → V → Prop where
  | num {n a} : H a = some (.tup [.str "number", .int n]) → ItemIn H (.num n) (.ref a)
  | name {x a} : H a = some (.tup [.str "name", .str x]) → ItemIn H (.name x) (.ref a)
  | lit {b a} : H a = some (.tup [.str (bstr b)]) → ItemIn H (.lit b) (.ref a)
  | un {w i a x} : H a = some (.tup [.str w, x]) → ItemIn H i x → ItemIn H (.un w i) (.ref a)
  | dm {w i n a x} : H a = some (.tup [.str w, x, .int n]) → ItemIn H i x → ItemIn H (.dm w i n) (.ref a)
  | bin {w i j a x y} : H a = some (.tup [.str w, x, y]) → ItemIn H i x → ItemIn H j y → ItemIn H (.bin w i j) (.ref a)
  | tri {i j k a x y z} : H a = some (.tup [.str "if", x, y, z]) → ItemIn H i x → ItemIn H j y → ItemIn H k z → ItemIn H (.tri i j k) (.ref a)
  | grp {w l a b xs} : H a = some (.tup [.str w, .ref b]) → H b = some (.tup xs) → xs.length = l.length → (∀ (k : Nat) i x, l[k]? = some i → xs[k]? = some x → ItemIn H i x) → ItemIn H (.grp w l) (.ref a)
theorem ItemIn.mono {H H' : Hp} (t : Tp H H') {i : It} {v : V} (h : ItemIn H i v) : ItemIn H' i v := by
  induction h with
  | num e => exact .num (t _ _ e)
  | name e => exact .name (t _ _ e)
  | lit e => exact .lit (t _ _ e)
  | un e _ ih => exact .un (t _ _ e) ih
  | dm e _ ih => exact .dm (t _ _ e) ih
  | bin e _ _ ih jh => exact .bin (t _ _ e) ih jh
  | tri e _ _ _ ih jh kh => exact .tri (t _ _ e) ih jh kh
  | grp e f g _ ih => exact .grp (t _ _ e) (t _ _ f) g ih
theorem ItemIn.go {d : Addr} {H H' : Hp} {i : It} {v : V} (h : ItemIn H i v) (g : Go d H H') (hD : Dr H d) : ItemIn H' i v := h.mono (g.tp hD)
theorem ItemIn.ref {H : Hp} {i : It} {v : V} (h : ItemIn H i v) : ∃ a, v = .ref a := by cases h <;> exact ⟨_, rfl⟩
mutual
def It.dep : It → Nat
  | .num _ => 1
  | .name _ => 1
  | .lit _ => 1
  | .un _ a => 1 + a.dep
  | .dm _ a _ => 1 + a.dep
  | .bin _ a b => 1 + max a.dep b.dep
  | .tri a b c => 1 + max a.dep (max b.dep c.dep)
  | .grp _ l => 1 + depL l
def depL : List It → Nat
  | [] => 0
  | a :: r => max a.dep (depL r)
end
mutual
def It.sz : It → Nat
  | .num _ => 1
  | .name _ => 1
  | .lit _ => 1
  | .un _ a => 1 + a.sz
  | .dm _ a _ => 1 + a.sz
  | .bin _ a b => 1 + a.sz + b.sz
  | .tri a b c => 1 + a.sz + b.sz + c.sz
  | .grp _ l => 1 + szL l
def szL : List It → Nat
  | [] => 0
  | a :: r => a.sz + szL r
end
/-- of the right kinds: conditions (true) and expressions (false), over names, ints within B -/
inductive Okx (xs : List Str) (B : Nat) : Bool → It → Prop where
  | num {n} : n.natAbs ≤ B → Okx xs B false (.num n)
  | name {x} : x ∈ xs → Okx xs B false (.name x)
  | lit {b} : Okx xs B true (.lit b)
  | abs {a} : Okx xs B false a → Okx xs B false (.un "abs" a)
  | not {a} : Okx xs B true a → Okx xs B true (.un "not" a)
  | dm {w a n} : w ∈ (["div", "mod"] : List Str) → Okx xs B false a → 1 ≤ n → n.natAbs ≤ B + 1 → Okx xs B false (.dm w a n)
  | bin {w a b} : w ∈ (["add", "sub", "mul", "min", "max"] : List Str) → Okx xs B false a → Okx xs B false b → Okx xs B false (.bin w a b)
  | cmp {w a b} : w ∈ (["less", "equal"] : List Str) → Okx xs B false a → Okx xs B false b → Okx xs B true (.bin w a b)
  | tri {a b c} : Okx xs B true a → Okx xs B false b → Okx xs B false c → Okx xs B false (.tri a b c)
  | grp {w l} : w ∈ (["all", "any"] : List Str) → l.length ≤ 100 → (∀ i ∈ l, Okx xs B true i) → Okx xs B true (.grp w l)
theorem dep_pos : ∀ i : It, 1 ≤ i.dep
  | .num _ => by rw [It.dep]; omega
  | .name _ => by rw [It.dep]; omega
  | .lit _ => by rw [It.dep]; omega
  | .un _ a => by rw [It.dep]; omega
  | .dm _ a _ => by rw [It.dep]; omega
  | .bin _ a b => by rw [It.dep]; omega
  | .tri a b c => by rw [It.dep]; omega
  | .grp _ l => by rw [It.dep]; omega
section
variable {P : Program} {w : World} {K : PySem.W.Frag} {mg : Str → Option Value} {base : Heap}
/-! ### _law_name -/
theorem flat_res : (res.map V.str).all flatV = true := by decide +kernel
theorem flat_strs' (ys : List Str) : (ys.map V.str).all flatV = true := by
  rw [List.all_map]
  exact List.all_eq_true.mpr fun _ _ => rfl
theorem inV_str {x : Str} {ys : List Str} : inV (.str x) (ys.map V.str) = decide (x ∈ ys) := by
  unfold inV
  rw [List.any_map]
  induction ys with
  | nil => rfl
  | cons y r ih =>
    rw [List.any_cons, ih]
    show (eqV (.str y) (.str x) || _) = _
    have e : eqV (.str y) (.str x) = decide (x = y) := by
      show (y == x) = _
      rw [Bool.beq_eq_decide_eq]
      exact decide_eq_decide.mpr ⟨fun h => h.symm, fun h => h.symm⟩
    rw [e]
    by_cases h : x = y
    · rw [decide_eq_true h, decide_eq_true (List.mem_cons.mpr (.inl h)), Bool.true_or]
    · rw [decide_eq_false h, Bool.false_or]
      exact decide_eq_decide.mpr ⟨fun m => List.mem_cons_of_mem _ m, fun m => (List.mem_cons.mp m).resolve_left h⟩
theorem res_wd : ∀ z ∈ res, Wd z ∧ 2 ≤ z.length ∧ z.length ≤ 5 := by decide +kernel
theorem not_x : ∀ z ∈ res, ∀ y ∈ res, y ++ ("x" : Str) ≠ z := by decide +kernel
def spName : Sp := fun vs H Q _ => ∃ d : Addr, vs = [.ref d] ∧ Dr H d ∧ ∀ z H', Go d H H' → Nam z → Q (.str z) H'
theorem wd_cut {z : Str} (h : Wd z) (lo hi : Option Int) : Wd (cutS z lo hi) := fun c hc => by
  refine h c ?_
  unfold cutS at hc
  exact List.mem_of_mem_drop (List.mem_of_mem_take (by simpa using hc))
theorem len_cut1 {z : Str} (h : 2 ≤ z.length) : (cutS z none (some (-1))).length = z.length - 1 := by
  rw [len_list]
  unfold cutS
  rw [HT.sIx_none, show HT.sIx z.length z.length (some (-1)) = z.length - 1 by
    show (if (-1 : Int) < 0 then ((-1 : Int) + (z.length : Int)).toNat else min (-1 : Int).toNat z.length) = z.length - 1
    rw [if_pos (by decide)]
    omega]
  rw [List.toList_toArray, List.length_take, List.length_drop, ← len_list]
  omega
theorem ok_law_name (T : Txt K mg) : FnOk P w K mg base CX0 3 T.a_law_name T.d_law_name P_law_name spName := by
  have G_law_take := ok_law_take (P := P) (w := w) (base := base) T
  have G_law_some_word := ok_law_some_word (P := P) (w := w) (base := base) T
  have G_law_reserved := ok_law_reserved (P := P) (w := w) (base := base) T
  refine T.F_law_name.ok sc_law_name (fun vs H Q E h => ?_) (fun cdv A outer s H vs Q E hr h => ?_)
  · obtain ⟨d, rfl, _⟩ := h
    rfl
  obtain ⟨d, rfl, hD, q⟩ := h
  refine ⟨_, (pss_cons (ps_set (i := 1) sc_law_name.nd rfl (Or.inl rfl) (pe_call0 G_law_reserved (hr.mono (by omega)) (by rfl) T.m_law_reserved T.F_law_reserved.kp T.b_law_reserved .nil pass0))
    (pss_cons (ps_set (i := 2) sc_law_name.nd rfl (Or.inl rfl) (pe_call G_law_some_word (hr.mono (by omega)) (by rfl) T.m_law_some_word T.F_law_some_word.kp T.b_law_some_word .nil pass0 (pa_cons (pv 0) pa_nil)))
    (C8.pss_cut (ps_if (pt_cmpR op_eq (pe_call G_law_take (hr.mono (by omega)) (by rfl) T.m_law_take T.F_law_take.kp T.b_law_take .nil pass0 (pa_cons (pv 0) (pa_cons pe_int pa_nil))) pe_int (nomark _))
    (pss_cons (ps_set (i := 3) sc_law_name.nd rfl (Or.inl rfl) (pe_ix ix_list (pv 1) (pe_call G_law_take (hr.mono (by omega)) (by rfl) T.m_law_take T.F_law_take.kp T.b_law_take .nil pass0 (pa_cons (pv 0) (pa_cons pe_int pa_nil))) (fun _ _ => rfl)))
    (pss_one (ps_set (i := 2) sc_law_name.nd rfl (Or.inl rfl) (pe_ix ix_list (pe_lst (pa_cons (pe_op op_add_str (pv 3) pe_str) (pa_cons (pe_slice sl_str (pv 3) po_none (po_some (pe_un un_neg pe_int))) (pa_cons (pe_op op_add_str pe_str (pv 3)) pa_nil)))) (pe_call G_law_take (hr.mono (by omega)) (by rfl) T.m_law_take T.F_law_take.kp T.b_law_take .nil pass0 (pa_cons (pv 0) (pa_cons pe_int pa_nil))) (fun _ _ => rfl)))))
    pss_nil)
    (pss_cons (ps_if (pt_cmpR op_in_seq (pv 2) (pv 1) (by rfl))
    (pss_one (ps_ret (pe_op op_add_str (pv 2) pe_str)))
    pss_nil)
    (pss_one (ps_ret (pv 2))))))), ?_⟩
  refine ⟨rfl, fun kn H1 s1 n1 e1 => ?_⟩
  have hn : kn ≠ d := by
    rintro rfl
    obtain ⟨ns, hd⟩ := hD
    rw [n1] at hd; cases hd
  have g1 : Go d H H1 := .same hD s1
  have k1 : Keep K d H1 kn (res.map V.str) := .of hn e1
  refine ⟨_, rfl, d, rfl, g1.dr, fun z H2 g2 hz => ?_⟩
  refine ⟨fun σ H4 => ∃ (z : Str) (y : Option V), Nm z ∧ σ = [some (.ref d), some (.ref kn), some (.str z), y] ∧ Go d H1 H4, ?_, ?_⟩
  · refine ⟨_, rfl, d, _, rfl, g2.dr, (by decide), fun r H3 g3 r0 r1 => ?_⟩
    refine ⟨rfl, _, rfl, ?_⟩
    refine ite2 (fun c => ?_) (fun c => ?_)
    · refine ⟨_, rfl, _, rfl, d, _, rfl, g3.dr, (by decide), fun t H4 g4 t0 t1 => ?_⟩
      obtain ⟨nr, h1, h2⟩ := atI_map (f := V.str) (xs := res) t0 t1
      refine ⟨_, _, _, _, rfl, rfl, ((k1.go g2).go (g3.trans g4)).now, h1, ?_⟩
      obtain ⟨w1, w2, w3⟩ := res_wd nr h2
      have ws : Wd ("s" : Str) ∧ ("s" : Str).length = 1 ∧ Wd ("a" : Str) ∧ ("a" : Str).length = 1 := by decide +kernel
      have sz : ∀ n, n ≤ 1000 → n ≤ sizeLine := fun n h => Nat.le_of_lt (small1000 h)
      refine ⟨_, rfl, _, _, rfl, rfl, sz _ (by rw [ws.2.1]; omega), _, rfl, _, rfl, _, rfl, _, rfl, sz _ (by omega), _, rfl, _, _, rfl, rfl, sz _ (by rw [ws.2.2.2]; omega), (Nat.le_of_ble_eq_true rfl), fun p hp => ?_⟩
      have dp := g4.dr
      have g5 := fun o => Go.new (o := o) dp hp
      refine ⟨_, rfl, d, _, rfl, (g5 _).dr, (by decide), fun u H6 g6 u0 u1 => ?_⟩
      have np : p ≠ d := by
        rintro rfl
        obtain ⟨ns, hd⟩ := dp
        rw [hp] at hd; cases hd
      have e6 := g6.fr p _ np upd_same
      have l1 : Nm (nr ++ ("s" : Str)) := ⟨w1.app ws.1, by rw [len_app]; omega, by rw [len_app, ws.2.1]; omega⟩
      have l2 : Nm (cutS nr none (some (-1))) := ⟨wd_cut w1 _ _, by rw [len_cut1 w2]; omega, by rw [len_cut1 w2]; omega⟩
      have l3 : Nm (("a" : Str) ++ nr) := ⟨ws.2.2.1.app w1, by rw [len_app]; omega, by rw [len_app, ws.2.2.2]; omega⟩
      obtain ⟨v, hv, hm⟩ := atI_map (f := V.str) (xs := [nr ++ ("s" : Str), cutS nr none (some (-1)), ("a" : Str) ++ nr]) u0 u1
      refine ⟨_, _, _, _, rfl, rfl, sqd e6, hv, ?_⟩
      refine ⟨v, _, ?_, rfl, g2.trans (g3.trans (g4.trans ((g5 _).trans g6)))⟩
      simp only [List.mem_cons, List.not_mem_nil, or_false] at hm
      rcases hm with rfl | rfl | rfl
      · exact l1
      · exact l2
      · exact l3
    · exact ⟨z, none, hz, rfl, g2.trans g3⟩
  · rintro σ H4 ⟨z, y, hz, rfl, g4⟩
    refine ⟨_, rfl, _, rfl, _, _, rfl, .inl (k1.go g4).now, rfl, flat_res, _, rfl, ?_⟩
    rw [inV_str]
    refine ite2 (fun c => ?_) (fun c => ?_)
    · have hm : z ∈ res := of_decide_eq_true c
      have wx : Wd ("x" : Str) ∧ ("x" : Str).length = 1 := by decide +kernel
      refine ⟨_, rfl, _, _, rfl, rfl, ?_, q _ H4 (g1.trans g4) ⟨hz.wd.app wx.1, ?_, fun h => not_x _ h _ hm rfl⟩⟩
      · rw [wx.2]
        exact Nat.le_of_lt (small1000 (by have := hz.len; omega))
      · rw [len_app, wx.2]
        have := hz.len
        omega
    · have hm : z ∉ res := fun h => c (decide_eq_true h)
      exact ⟨_, rfl, q _ H4 (g1.trans g4) ⟨hz.wd, by have := hz.len; omega, hm⟩⟩
/-! ### _law_names -/
def spNames : Sp := fun vs H Q _ => ∃ (d : Addr) (m : Int), vs = [.ref d, .int m] ∧ Dr H d ∧ 0 ≤ m ∧ m ≤ 100 ∧
  ∀ (n : Addr) (xs : List Str) H', Go d H H' → H n = none → n ≠ d → H' n = some (.lst (xs.map V.str)) → (∀ x ∈ xs, Nam x) → xs.length ≤ m → xs.Nodup → (1 ≤ m → xs ≠ []) → Q (.ref n) H'
theorem ok_law_names (T : Txt K mg) : FnOk P w K mg base CX0 4 T.a_law_names T.d_law_names P_law_names spNames := by
  have G_law_name := ok_law_name (P := P) (w := w) (base := base) T
  refine T.F_law_names.ok sc_law_names (fun vs H Q E h => ?_) (fun cdv A outer s H vs Q E hr h => ?_)
  · obtain ⟨d, m, rfl, _⟩ := h
    rfl
  obtain ⟨d, m, rfl, hD, m0, m1, q⟩ := h
  refine ⟨_, (pss_cons (ps_set (i := 2) sc_law_names.nd rfl (Or.inl rfl) (pe_lst pa_nil))
    (pss_cons (ps_for  PassesOwn.never rfl (pi_range1 (by rfl) T.z_range (pa_cons (pv 1) pa_nil)) (pg_name (i := 3) sc_law_names.nd rfl (Or.inl rfl))
    (pss_cons (ps_set (i := 4) sc_law_names.nd rfl (Or.inl rfl) (pe_call G_law_name (hr.mono (by omega)) (by rfl) T.m_law_name T.F_law_name.kp T.b_law_name .nil pass0 (pa_cons (pv 0) pa_nil)))
    (pss_one (ps_if (pt_cmpR op_notIn_seq (pv 4) (pv 2) (by rfl))
    (pss_one (ps_expr (pe_bm PySem.F.plainAttrs_list PySem.F.slot_list_append PySem.F.type_list_append mt_append (pv 2) (pa_cons (pv 4) pa_nil))))
    pss_nil))))
    (pss_one (ps_ret (pv 2))))), ?_⟩
  refine ⟨(by decide), fun n hn => ?_⟩
  have nd : n ≠ d := by
    rintro rfl
    obtain ⟨ns, hd⟩ := hD
    rw [hn] at hd; cases hd
  refine ⟨_, rfl, m, rfl, by omega, by omega, for_range (lo := 0) (n := m.toNat) (fun j σ H' => ∃ (xs : List Str) (y z : Option V), σ = [some (.ref d), some (.int m), some (.ref n), y, z] ∧ Go d H H' ∧ H' n = some (.lst (xs.map V.str)) ∧ (∀ x ∈ xs, Nam x) ∧ xs.length ≤ j ∧ xs.Nodup ∧ (0 < j → xs ≠ [])) ?_ ?_ ?_⟩
  · exact ⟨[], none, none, rfl, .new hD hn, upd_same, (fun x h => by cases h), Nat.le_refl _, List.nodup_nil, fun h => absurd h (by decide)⟩
  · rintro j σ H' hj ⟨xs, y, z, rfl, g, e, hx, hl, hnd, hne⟩
    refine ⟨_, rfl, d, rfl, g.dr, fun nm H2 g2 hnm => ?_⟩
    have e2 := g2.fr n _ nd e
    refine ⟨_, rfl, _, rfl, _, _, rfl, .inl (sqd e2), rfl, flat_strs' xs, _, rfl, ?_⟩
    rw [inV_str]
    refine ite2 (fun c => ?_) (fun c => ?_)
    · have hm : nm ∉ xs := fun h => by
        have c' : (!decide (nm ∈ xs)) = true := c
        rw [decide_eq_true h] at c'
        cases c'
      refine ⟨_, rfl, .inl ⟨rfl, _, sqd e2⟩, _, rfl, n, _, _, rfl, rfl, e2, ?_, ?_⟩
      · rw [List.length_map]
        exact small1000 (by omega)
      · refine ⟨xs ++ [nm], _, _, rfl, ?_, ?_, ?_, ?_, ?_, fun _ => by simp⟩
        · have g3 := g.trans g2
          refine ⟨fun b o hb eb => ?_, ?_⟩
          · rw [upd_ne (ne_of_none eb hn)]
            exact g3.fr b o hb eb
          · obtain ⟨ns, hd⟩ := g3.dr
            exact ⟨ns, by rw [upd_ne nd.symm]; exact hd⟩
        · rw [upd_same, List.map_append]
          rfl
        · intro x h
          rcases List.mem_append.mp h with h | h
          · exact hx x h
          · rw [List.mem_singleton.mp h]
            exact hnm
        · rw [List.length_append, List.length_singleton]
          omega
        · exact List.nodup_append.mpr ⟨hnd, List.nodup_cons.mpr ⟨List.not_mem_nil, List.nodup_nil⟩, fun a ha b hb => by
            rw [List.mem_singleton.mp hb]
            rintro rfl
            exact hm ha⟩
    · refine ⟨xs, _, _, rfl, g.trans g2, e2, hx, by omega, hnd, fun _ h => ?_⟩
      rw [h] at c
      exact c rfl
  · rintro σ H' ⟨xs, y, z, rfl, g, e, hx, hl, hnd, hne⟩
    exact ⟨_, rfl, q n xs H' g hn nd e hx (by omega) hnd fun h => hne (by omega)⟩
/-! ### _law_number -/
def spNumber (B : Nat) : Sp := fun vs H Q _ => ∃ (d : Addr) (c : Int), vs = [.ref d, .int c] ∧ Dr H d ∧ c.natAbs ≤ B ∧ ∀ n H', Go d H H' → n.natAbs ≤ B → Q (.int n) H'
theorem ok_law_number {B : Nat} (hB : 100 ≤ B) (T : Txt K mg) : FnOk P w K mg base CX0 2 T.a_law_number T.d_law_number P_law_number (spNumber B) := by
  have G_law_take := ok_law_take (P := P) (w := w) (base := base) T
  refine T.F_law_number.ok sc_law_number (fun vs H Q E h => ?_) (fun cdv A outer s H vs Q E hr h => ?_)
  · obtain ⟨d, c, rfl, _⟩ := h
    rfl
  obtain ⟨d, c, rfl, hD, hc, q⟩ := h
  refine ⟨_, (pss_one (ps_ret (pe_ix ix_list (pe_lst (pa_cons pe_int (pa_cons pe_int (pa_cons (pe_un un_neg pe_int) (pa_cons (pe_op op_sub (pe_call G_law_take (hr.mono (by omega)) (by rfl) T.m_law_take T.F_law_take.kp T.b_law_take .nil pass0 (pa_cons (pv 0) (pa_cons pe_int pa_nil))) pe_int) (pa_cons (pe_op op_sub (pe_call G_law_take (hr.mono (by omega)) (by rfl) T.m_law_take T.F_law_take.kp T.b_law_take .nil pass0 (pa_cons (pv 0) (pa_cons pe_int pa_nil))) pe_int) (pa_cons (pv 1) pa_nil))))))) (pe_call G_law_take (hr.mono (by omega)) (by rfl) T.m_law_take T.F_law_take.kp T.b_law_take .nil pass0 (pa_cons (pv 0) (pa_cons pe_int pa_nil))) (fun _ _ => rfl)))), ?_⟩
  refine ⟨_, rfl, _, rfl, d, _, rfl, hD, (by decide), fun r1 H1 g1 a0 a1 => ?_⟩
  refine ⟨_, _, rfl, rfl, _, rfl, d, _, rfl, g1.dr, (by decide), fun r2 H2 g2 b0 b1 => ?_⟩
  refine ⟨_, _, rfl, rfl, _, rfl, (Nat.le_of_ble_eq_true rfl), fun p hp => ?_⟩
  have g3 := fun o => Go.new (o := o) g2.dr hp
  refine ⟨_, rfl, d, _, rfl, (g3 _).dr, (by decide), fun u H4 g4 u0 u1 => ?_⟩
  have np : p ≠ d := by
    rintro rfl
    obtain ⟨ns, hd⟩ := g2.dr
    rw [hp] at hd; cases hd
  have e4 := g4.fr p _ np upd_same
  obtain ⟨v, hv, hm⟩ := atI_map (f := V.int) (xs := [0, 1, -1, r1 - 5, r2 - 100, c]) u0 u1
  refine ⟨_, _, _, _, rfl, rfl, sqd e4, hv, q v H4 (g1.trans (g2.trans ((g3 _).trans g4))) ?_⟩
  simp only [List.mem_cons, List.not_mem_nil, or_false] at hm
  omega
/-! ### _law_leaf -/
def spLeaf (K : PySem.W.Frag) (B : Nat) : Sp := fun vs H Q _ => ∃ (d n : Addr) (xs : List Str) (c : Int), vs = [.ref d, .ref n, .int c] ∧ Dr H d ∧ Keep K d H n (xs.map V.str) ∧ c.natAbs ≤ B ∧
  ∀ v i H', Go d H H' → ItemIn H' i v → Okx xs B false i → i.dep = 1 → i.sz = 1 → Q v H'
theorem ok_law_leaf {B : Nat} (hB : 100 ≤ B) (T : Txt K mg) : FnOk P w K mg base CX0 3 T.a_law_leaf T.d_law_leaf P_law_leaf (spLeaf K B) := by
  have G_law_take := ok_law_take (P := P) (w := w) (base := base) T
  have G_law_number := ok_law_number (P := P) (w := w) (base := base) hB T
  refine T.F_law_leaf.ok sc_law_leaf (fun vs H Q E h => ?_) (fun cdv A outer s H vs Q E hr h => ?_)
  · obtain ⟨d, n, xs, c, rfl, _⟩ := h
    rfl
  obtain ⟨d, n, xs, c, rfl, hD, hk, hc, q⟩ := h
  refine ⟨_, (pss_cons (ps_if (PW.pt (pw_or (pt_cmpR op_eq (pe_callB call_len_seq (by rfl) T.z_len PySem.boot_len (pa_cons (pv 1) pa_nil)) pe_int (nomark _)) (pw_or1 (pt_cmpR op_lt (pe_call G_law_take (hr.mono (by omega)) (by rfl) T.m_law_take T.F_law_take.kp T.b_law_take .nil pass0 (pa_cons (pv 0) (pa_cons pe_int pa_nil))) pe_int (nomark _)))))
    (pss_one (ps_ret (pe_tup (pa_cons pe_str (pa_cons (pe_call G_law_number (hr.mono (by omega)) (by rfl) T.m_law_number T.F_law_number.kp T.b_law_number .nil pass0 (pa_cons (pv 0) (pa_cons (pv 2) pa_nil))) pa_nil)))))
    pss_nil)
    (pss_one (ps_ret (pe_tup (pa_cons pe_str (pa_cons (pe_ix ix_list (pv 1) (pe_call G_law_take (hr.mono (by omega)) (by rfl) T.m_law_take T.F_law_take.kp T.b_law_take .nil pass0 (pa_cons (pv 0) (pa_cons (pe_callB call_len_seq (by rfl) T.z_len PySem.boot_len (pa_cons (pv 1) pa_nil)) pa_nil))) (fun _ _ => rfl)) pa_nil)))))), ?_⟩
  have one : ∀ H1, Go d H H1 → tRet (tTup (tCons (tC (.str "number")) (tCons (tCall (spNumber B) [] E0 (tCons (tVar 0) (tCons (tVar 2) tNil))) tNil))) { nx := fun _ H' => Q .non H', rt := Q } [some (.ref d), some (.ref n), some (.int c)] H1 := fun H1 g1 => by
    refine ⟨_, rfl, _, rfl, d, c, rfl, g1.dr, hc, fun m H2 g2 hm => ⟨(Nat.le_of_ble_eq_true rfl), fun p hp => ?_⟩⟩
    exact q _ _ _ (g1.trans (g2.trans (.new g2.dr hp))) (.num upd_same) (.num hm) (by rw [It.dep]) (by rw [It.sz])
  refine ⟨_, rfl, _, _, rfl, .inl hk.now, rfl, _, rfl, ?_⟩
  refine ite2 (fun c0 => ?_) (fun c0 => ?_)
  · exact one H (Go.refl hD)
  · have hl := int_ne c0
    rw [List.length_map] at hl
    refine ⟨_, rfl, d, _, rfl, hD, (by decide), fun r H1 g1 r0 r1 => ?_⟩
    refine ⟨_, _, rfl, rfl, _, rfl, ?_⟩
    refine ite2 (fun c1 => ?_) (fun c1 => ?_)
    · exact one H1 g1
    · refine ⟨_, rfl, _, rfl, _, rfl, _, _, rfl, .inl (hk.go g1).now, d, _, rfl, g1.dr, by rw [List.length_map]; omega, fun u H2 g2 u0 u1 => ?_⟩
      rw [List.length_map] at u1
      obtain ⟨v, hv, hm⟩ := atI_map (f := V.str) u0 u1
      refine ⟨_, _, _, _, rfl, rfl, ((hk.go g1).go g2).now, hv, (Nat.le_of_ble_eq_true rfl), fun p hp => ?_⟩
      exact q _ _ _ (g1.trans (g2.trans (.new g2.dr hp))) (.name upd_same) (.name hm) (by rw [It.dep]) (by rw [It.sz])
end
end NL

namespace NL
open PySem PySem.Spec PyProof.Rows L2
theorem yes_if {σ : L2.St} {H : Hp} {a n : Hp → Prop} (h : a H) : tYes σ H (fun b H3 => if b = true then a H3 else n H3) := by
  show (if true = true then a H else n H)
  rw [if_pos rfl]
  exact h
/-- one reading for two ways -/
theorem cutP {B C : Prop} (f : B → C) (b : B) : C := f b
/-! ### _law_expression, _law_test: both by one induction over the depth -/
def eT : Nat → Nat × Nat
  | 0 => (1, 3)
  | n + 1 => (1 + 2 * (eT n).1 + (eT n).2, 1 + 2 * (1 + 2 * (eT n).1 + (eT n).2) + 5 * (eT n).2)
theorem eT_pos (n : Nat) : 1 ≤ (eT n).1 := by
  cases n with
  | zero => decide
  | succ n => show 1 ≤ 1 + 2 * (eT n).1 + (eT n).2; omega
theorem eT_bin (n : Nat) : 1 + 2 * (eT n).1 ≤ (eT n).2 := by
  cases n with
  | zero => decide
  | succ n => show 1 + 2 * (1 + 2 * (eT n).1 + (eT n).2) ≤ 1 + 2 * (1 + 2 * (eT n).1 + (eT n).2) + 5 * (eT n).2; omega
theorem new_ne {d p : Addr} {H : Hp} (h : Dr H d) (hp : H p = none) : p ≠ d := by
  rintro rfl
  obtain ⟨ns, e⟩ := h
  rw [hp] at e; cases e
/-- a new list that was made while d is drawn, read behind more draws -/
theorem Go.at {d p : Addr} {H H' : Hp} {o : HO} (h : Dr H d) (hp : H p = none) (g : Go d (upd H p o) H') : H' p = some o := g.fr p o (new_ne h hp) upd_same
def spE (K : PySem.W.Frag) (B : Nat) : Nat → Sp
  | 0 => fun _ _ _ _ => False
  | n + 1 => fun vs H Q _ => ∃ (d nm : Addr) (xs : List Str) (c δ : Int), vs = [.ref d, .ref nm, .int c, .int δ] ∧ Dr H d ∧ Keep K d H nm (xs.map V.str) ∧ c.natAbs ≤ B ∧ δ ≤ n ∧
    ∀ v i H', Go d H H' → ItemIn H' i v → Okx xs B false i → i.dep ≤ 2 * n + 1 → i.sz ≤ (eT n).1 → Q v H'
def spT (K : PySem.W.Frag) (B : Nat) : Nat → Sp
  | 0 => fun _ _ _ _ => False
  | n + 1 => fun vs H Q _ => ∃ (d nm : Addr) (xs : List Str) (c δ : Int), vs = [.ref d, .ref nm, .int c, .int δ] ∧ Dr H d ∧ Keep K d H nm (xs.map V.str) ∧ c.natAbs ≤ B ∧ δ ≤ n ∧
    ∀ v i H', Go d H H' → ItemIn H' i v → Okx xs B true i → i.dep ≤ 2 * n + 2 → i.sz ≤ (eT n).2 → Q v H'
theorem szL_le {m : Nat} : ∀ (l : List It), (∀ i ∈ l, i.sz ≤ m) → szL l ≤ l.length * m
  | [], _ => by rw [szL]; omega
  | a :: r, h => by
    rw [szL, List.length_cons, Nat.succ_mul]
    have h1 := h a List.mem_cons_self
    have h2 := szL_le r fun i hi => h i (List.mem_cons_of_mem _ hi)
    omega
theorem depL_le {m : Nat} : ∀ (l : List It), (∀ i ∈ l, i.dep ≤ m) → depL l ≤ m
  | [], _ => by rw [depL]; omega
  | a :: r, h => by
    rw [depL]
    have h1 := h a List.mem_cons_self
    have h2 := depL_le r fun i hi => h i (List.mem_cons_of_mem _ hi)
    omega
section
variable {P : Program} {w : World} {K : PySem.W.Frag} {mg : Str → Option Value} {base : Heap}
theorem ok_E {B n : Nat} (hB : 100 ≤ B) (T : Txt K mg) (G_law_expression : FnOk P w K mg base CX0 (3 + 2 * n) T.a_law_expression T.d_law_expression P_law_expression (spE K B n))
    (G_law_test : FnOk P w K mg base CX0 (4 + 2 * n) T.a_law_test T.d_law_test P_law_test (spT K B n)) :
    FnOk P w K mg base CX0 (4 + 2 * n + 1) T.a_law_expression T.d_law_expression P_law_expression (spE K B (n + 1)) := by
  have G_law_take := ok_law_take (P := P) (w := w) (base := base) T
  have G_law_leaf := ok_law_leaf (P := P) (w := w) (base := base) hB T
  refine T.F_law_expression.ok sc_law_expression (fun vs H Q E h => ?_) (fun cdv A outer s H vs Q E hr h => ?_)
  · obtain ⟨d, nm, xs, c, δ, rfl, _⟩ := h
    rfl
  obtain ⟨d, nm, xs, c, δ, rfl, hD, hk, hc, hδ, q⟩ := h
  refine ⟨_, (pss_cons (ps_set (i := 4) sc_law_expression.nd rfl (Or.inl rfl) (pe_call G_law_take (hr.mono (by omega)) (by rfl) T.m_law_take T.F_law_take.kp T.b_law_take .nil pass0 (pa_cons (pv 0) (pa_cons pe_int pa_nil))))
    (pss_cons (ps_if (PW.pt (pw_or (pt_cmpR op_lt (pv 3) pe_int (nomark _)) (pw_or1 (pt_cmpR op_lt (pv 4) pe_int (nomark _)))))
    (pss_one (ps_ret (pe_call G_law_leaf (hr.mono (by omega)) (by rfl) T.m_law_leaf T.F_law_leaf.kp T.b_law_leaf .nil pass0 (pa_cons (pv 0) (pa_cons (pv 1) (pa_cons (pv 2) pa_nil))))))
    pss_nil)
    (pss_cons (ps_set (i := 5) sc_law_expression.nd rfl (Or.inl rfl) (pe_call G_law_expression (hr.mono (by omega)) (by rfl) T.m_law_expression T.F_law_expression.kp T.b_law_expression .nil pass0 (pa_cons (pv 0) (pa_cons (pv 1) (pa_cons (pv 2) (pa_cons (pe_op op_sub (pv 3) pe_int) pa_nil))))))
    (pss_cons (ps_if (pt_cmpR op_eq (pv 4) pe_int (nomark _))
    (pss_one (ps_ret (pe_tup (pa_cons pe_str (pa_cons (pv 5) pa_nil)))))
    pss_nil)
    (pss_cons (ps_if (pt_cmpR op_lt (pv 4) pe_int (nomark _))
    (pss_one (ps_ret (pe_tup (pa_cons (pe_ix ix_list (pe_lst (pa_cons pe_str (pa_cons pe_str pa_nil))) (pe_op op_sub (pv 4) pe_int) (fun _ _ => rfl)) (pa_cons (pv 5) (pa_cons (pe_op op_add pe_int (pe_ix ix_list (pe_lst (pa_cons pe_int (pa_cons (pe_call G_law_take (hr.mono (by omega)) (by rfl) T.m_law_take T.F_law_take.kp T.b_law_take .nil pass0 (pa_cons (pv 0) (pa_cons pe_int pa_nil))) (pa_cons (pe_callB (call_abs) (by rfl) T.z_abs (by decide +kernel) (pa_cons (pv 2) pa_nil)) pa_nil)))) (pe_call G_law_take (hr.mono (by omega)) (by rfl) T.m_law_take T.F_law_take.kp T.b_law_take .nil pass0 (pa_cons (pv 0) (pa_cons pe_int pa_nil))) (fun _ _ => rfl))) pa_nil))))))
    pss_nil)
    (pss_cons (ps_set (i := 6) sc_law_expression.nd rfl (Or.inl rfl) (pe_call G_law_expression (hr.mono (by omega)) (by rfl) T.m_law_expression T.F_law_expression.kp T.b_law_expression .nil pass0 (pa_cons (pv 0) (pa_cons (pv 1) (pa_cons (pv 2) (pa_cons (pe_op op_sub (pv 3) pe_int) pa_nil))))))
    (pss_cons (ps_if (pt_cmpR op_eq (pv 4) pe_int (nomark _))
    (pss_one (ps_ret (pe_tup (pa_cons pe_str (pa_cons (pe_call G_law_test (hr.mono (by omega)) (by rfl) T.m_law_test T.F_law_test.kp T.b_law_test .nil pass0 (pa_cons (pv 0) (pa_cons (pv 1) (pa_cons (pv 2) (pa_cons (pe_op op_sub (pv 3) pe_int) pa_nil))))) (pa_cons (pv 5) (pa_cons (pv 6) pa_nil)))))))
    pss_nil)
    (pss_one (ps_ret (pe_tup (pa_cons (pe_ix ix_list (pe_lst (pa_cons pe_str (pa_cons pe_str (pa_cons pe_str (pa_cons pe_str (pa_cons pe_str pa_nil)))))) (pe_op op_sub (pv 4) pe_int) (fun _ _ => rfl)) (pa_cons (pv 5) (pa_cons (pv 6) pa_nil))))))))))))), ?_⟩
  refine ⟨_, rfl, d, _, rfl, hD, (by decide), fun kd H1 g1 k0 k1 => ?_⟩
  have leaf : tRet (tCall (spLeaf K B) [] E0 (tCons (tVar 0) (tCons (tVar 1) (tCons (tVar 2) tNil)))) { nx := fun _ H' => Q .non H', rt := Q } [some (.ref d), some (.ref nm), some (.int c), some (.int δ), some (.int kd), none, none] H1 := by
    refine ⟨_, rfl, _, rfl, _, rfl, d, nm, xs, c, rfl, g1.dr, hk.go g1, hc, fun v i H2 g2 hi ho hd hs => ?_⟩
    exact q v i H2 (g1.trans g2) hi ho (by omega) (by have := eT_pos n; omega)
  refine ⟨_, rfl, _, _, rfl, rfl, _, rfl, ?_⟩
  refine ite2 (fun c1 => iteT leaf) (fun c1 => ?_)
  refine ⟨_, rfl, _, _, rfl, rfl, _, rfl, ?_⟩
  refine ite2 (fun c2 => leaf) (fun c2 => ?_)
  have d1 : ¬ δ < 1 := fun h => c1 (decide_eq_true h)
  have k3 : ¬ kd < 3 := fun h => c2 (decide_eq_true h)
  cases n with
  | zero => exact absurd hδ (by omega)
  | succ n =>
  have eE : (eT (n + 1)).1 = 1 + 2 * (eT n).1 + (eT n).2 := rfl
  -- one
  refine ⟨_, rfl, _, rfl, _, rfl, _, rfl, _, _, rfl, rfl, d, nm, xs, c, δ - 1, rfl, g1.dr, hk.go g1, hc, by omega, fun v1 i1 H2 g2 hi1 ho1 hd1 hs1 => ?_⟩
  refine ⟨_, rfl, rfl, _, rfl, ?_⟩
  refine ite2 (fun c3 => ?_) (fun c3 => ?_)
  · refine ⟨_, rfl, (Nat.le_of_ble_eq_true rfl), fun p hp => ?_⟩
    have gn := fun o => Go.new (o := o) g2.dr hp
    exact q _ _ _ (g1.trans (g2.trans (gn _))) (.un upd_same (hi1.go (gn _) g2.dr)) (.abs ho1) (by rw [It.dep]; omega) (by rw [It.sz]; omega)
  have k4 : kd ≠ 3 := int_ne c3
  refine ⟨_, rfl, _, _, rfl, rfl, _, rfl, ?_⟩
  refine ite2 (fun c4 => ?_) (fun c4 => ?_)
  · have k5 : kd < 6 := of_decide_eq_true c4
    refine ⟨(Nat.le_of_ble_eq_true rfl), fun p hp => ?_⟩
    have gp := fun o => Go.new (o := o) g2.dr hp
    obtain ⟨wd, hw, hm⟩ := atI_map (f := V.str) (xs := ["div", "mod"]) (i := kd - 4) (by omega) (by show kd - 4 < 2; omega)
    refine ⟨_, rfl, _, _, rfl, rfl, _, _, _, _, rfl, rfl, sqd upd_same, hw, ?_⟩
    refine ⟨_, rfl, _, rfl, d, _, rfl, (gp _).dr, (by decide), fun r H3 g3 r0 r1 => ?_⟩
    refine ⟨_, rfl, _, rfl, (Nat.le_of_ble_eq_true rfl), fun p2 hp2 => ?_⟩
    have gp2 := fun o => Go.new (o := o) g3.dr hp2
    refine ⟨_, rfl, d, _, rfl, (gp2 _).dr, (by decide), fun u H4 g4 u0 u1 => ?_⟩
    obtain ⟨n1, hn1, hm1⟩ := atI_map (f := V.int) (xs := [0, r, if c < 0 then -c else c]) u0 u1
    refine ⟨_, _, _, _, rfl, rfl, sqd (g4.at g3.dr hp2), hn1, _, _, rfl, rfl, (Nat.le_of_ble_eq_true rfl), fun p3 hp3 => ?_⟩
    have gp3 := fun o => Go.new (o := o) g4.dr hp3
    have gg := fun o => (gp _).trans (g3.trans ((gp2 _).trans (g4.trans (gp3 o))))
    have hb : 0 ≤ n1 ∧ n1.natAbs ≤ B := by
      simp only [List.mem_cons, List.not_mem_nil, or_false] at hm1
      rcases hm1 with h | h | h
      · omega
      · omega
      · split at h <;> omega
    exact q _ _ _ (g1.trans (g2.trans (gg _))) (.dm upd_same (hi1.go (gg _) g2.dr)) (.dm hm ho1 (by omega) (by omega)) (by rw [It.dep]; omega) (by rw [It.sz]; omega)
  have k6 : ¬ kd < 6 := fun h => c4 (decide_eq_true h)
  -- two
  refine ⟨_, rfl, _, rfl, _, rfl, _, rfl, _, _, rfl, rfl, d, nm, xs, c, δ - 1, rfl, g2.dr, (hk.go g1).go g2, hc, by omega, fun v2 i2 H3 g3 hi2 ho2 hd2 hs2 => ?_⟩
  refine ⟨_, rfl, rfl, _, rfl, ?_⟩
  refine ite2 (fun c5 => ?_) (fun c5 => ?_)
  · refine ⟨_, rfl, _, rfl, _, rfl, _, rfl, _, _, rfl, rfl, d, nm, xs, c, δ - 1, rfl, g3.dr, ((hk.go g1).go g2).go g3, hc, by omega, fun v3 i3 H4 g4 hi3 ho3 hd3 hs3 => ?_⟩
    refine ⟨_, rfl, _, rfl, (Nat.le_of_ble_eq_true rfl), fun p hp => ?_⟩
    have gp := fun o => Go.new (o := o) g4.dr hp
    exact q _ _ _ (g1.trans (g2.trans (g3.trans (g4.trans (gp _))))) (.tri upd_same (hi3.go (gp _) g4.dr) (hi1.go (g3.trans (g4.trans (gp _))) g2.dr) (hi2.go (g4.trans (gp _)) g3.dr)) (.tri ho3 ho1 ho2) (by rw [It.dep]; omega) (by rw [It.sz]; omega)
  have k7 : kd ≠ 6 := int_ne c5
  refine ⟨(Nat.le_of_ble_eq_true rfl), fun p hp => ?_⟩
  have gp := fun o => Go.new (o := o) g3.dr hp
  obtain ⟨wd, hw, hm⟩ := atI_map (f := V.str) (xs := ["add", "sub", "mul", "min", "max"]) (i := kd - 7) (by omega) (by show kd - 7 < 5; omega)
  refine ⟨_, rfl, _, _, rfl, rfl, _, _, _, _, rfl, rfl, sqd upd_same, hw, _, rfl, _, rfl, (Nat.le_of_ble_eq_true rfl), fun p2 hp2 => ?_⟩
  have gp2 := fun o => Go.new (o := o) (gp _).dr hp2
  have gg := fun o => (gp _).trans (gp2 o)
  exact q _ _ _ (g1.trans (g2.trans (g3.trans (gg _)))) (.bin upd_same (hi1.go (g3.trans (gg _)) g2.dr) (hi2.go (gg _) g3.dr)) (.bin hm ho1 ho2) (by rw [It.dep]; omega) (by rw [It.sz]; omega)
theorem ok_T {B n : Nat} (hB : 100 ≤ B) (T : Txt K mg) (G_law_expression : FnOk P w K mg base CX0 (4 + 2 * n + 1) T.a_law_expression T.d_law_expression P_law_expression (spE K B (n + 1)))
    (G_law_test : FnOk P w K mg base CX0 (4 + 2 * n) T.a_law_test T.d_law_test P_law_test (spT K B n)) :
    FnOk P w K mg base CX0 (5 + 2 * n + 1) T.a_law_test T.d_law_test P_law_test (spT K B (n + 1)) := by
  have G_law_take := ok_law_take (P := P) (w := w) (base := base) T
  refine T.F_law_test.ok sc_law_test (fun vs H Q E h => ?_) (fun cdv A outer s H vs Q E hr h => ?_)
  · obtain ⟨d, nm, xs, c, δ, rfl, _⟩ := h
    rfl
  obtain ⟨d, nm, xs, c, δ, rfl, hD, hk, hc, hδ, q⟩ := h
  have eB := eT_bin n
  refine ⟨_, (pss_cons (ps_set (i := 4) sc_law_test.nd rfl (Or.inl rfl) (pe_call G_law_take (hr.mono (by omega)) (by rfl) T.m_law_take T.F_law_take.kp T.b_law_take .nil pass0 (pa_cons (pv 0) (pa_cons pe_int pa_nil))))
    (pss_cons (ps_if (pt_cmpR op_lt (pv 4) pe_int (nomark _))
    (pss_one (ps_ret (pe_ix ix_list (pe_lst (pa_cons (pe_tup (pa_cons pe_str pa_nil)) (pa_cons (pe_tup (pa_cons pe_str pa_nil)) pa_nil))) (pv 4) (fun _ _ => rfl))))
    pss_nil)
    (pss_cons (ps_if (PW.pt (pw_or (pt_cmpR op_lt (pv 3) pe_int (nomark _)) (pw_or1 (pt_cmpR op_lt (pv 4) pe_int (nomark _)))))
    (pss_cons (ps_set (i := 5) sc_law_test.nd rfl (Or.inl rfl) (pe_call G_law_expression (hr.mono (by omega)) (by rfl) T.m_law_expression T.F_law_expression.kp T.b_law_expression .nil pass0 (pa_cons (pv 0) (pa_cons (pv 1) (pa_cons (pv 2) (pa_cons (pe_op op_sub (pv 3) pe_int) pa_nil))))))
    (pss_one (ps_ret (pe_tup (pa_cons (pe_ix ix_list (pe_lst (pa_cons pe_str (pa_cons pe_str pa_nil))) (pe_op op_mod (pv 4) pe_int) (fun _ _ => rfl)) (pa_cons (pv 5) (pa_cons (pe_call G_law_expression (hr.mono (by omega)) (by rfl) T.m_law_expression T.F_law_expression.kp T.b_law_expression .nil pass0 (pa_cons (pv 0) (pa_cons (pv 1) (pa_cons (pv 2) (pa_cons (pe_op op_sub (pv 3) pe_int) pa_nil))))) pa_nil)))))))
    pss_nil)
    (pss_cons (ps_if (pt_cmpR op_eq (pv 4) pe_int (nomark _))
    (pss_one (ps_ret (pe_tup (pa_cons pe_str (pa_cons (pe_call G_law_test (hr.mono (by omega)) (by rfl) T.m_law_test T.F_law_test.kp T.b_law_test .nil pass0 (pa_cons (pv 0) (pa_cons (pv 1) (pa_cons (pv 2) (pa_cons (pe_op op_sub (pv 3) pe_int) pa_nil))))) pa_nil)))))
    pss_nil)
    (pss_cons (ps_set (i := 6) sc_law_test.nd rfl (Or.inl rfl) (pe_ix ix_list (pe_lst (pa_cons pe_int (pa_cons pe_int (pa_cons pe_int (pa_cons pe_int (pa_cons pe_int (pa_cons pe_int pa_nil))))))) (pe_call G_law_take (hr.mono (by omega)) (by rfl) T.m_law_take T.F_law_take.kp T.b_law_take .nil pass0 (pa_cons (pv 0) (pa_cons pe_int pa_nil))) (fun _ _ => rfl)))
    (pss_one (ps_ret (pe_tup (pa_cons (pe_ix ix_list (pe_lst (pa_cons pe_str (pa_cons pe_str (pa_cons pe_str pa_nil)))) (pe_op op_sub (pv 4) pe_int) (fun _ _ => rfl)) (pa_cons (pe_callTy call_tuple_of (by rfl) T.z_tuple (by decide +kernel) (pa_cons (pe_lc (own := [("k", 7)]) (g := (gName 7)) (tt := tYes) rfl sc_law_test.nd (pi_range1 (by rfl) T.z_range (pa_cons (pv 6) pa_nil)) (blkOk_by (N := N_law_test) (sc := defScope s_law_test) (by decide +kernel)) (fun _ _ _ _ _ => (pg_name (i := 7) sc_law_test.nd rfl (Or.inl rfl))) (fun _ _ _ _ _ => pts_nil) (fun _ _ _ _ _ => (pe_call G_law_test (hr.mono (by omega)) (by rfl) T.m_law_test T.F_law_test.kp T.b_law_test .nil pass0 (pa_cons (pv 0) (pa_cons (pv 1) (pa_cons (pv 2) (pa_cons (pe_op op_sub (pv 3) pe_int) pa_nil))))))) pa_nil)) pa_nil)))))))))), ?_⟩
  refine ⟨_, rfl, d, _, rfl, hD, (by decide), fun kd H1 g1 k0 k1 => ?_⟩
  refine ⟨_, rfl, _, _, rfl, rfl, _, rfl, ?_⟩
  refine ite2 (fun c1 => ?_) (fun c1 => ?_)
  · have k2 : kd < 2 := of_decide_eq_true c1
    refine ⟨(Nat.le_of_ble_eq_true rfl), fun p hp => ⟨(Nat.le_of_ble_eq_true rfl), fun p2 hp2 => ⟨(Nat.le_of_ble_eq_true rfl), fun p3 hp3 => ?_⟩⟩⟩
    have n12 : p ≠ p2 := ne_of_none upd_same hp2
    have n13 : p ≠ p3 := ne_of_none (by rw [upd_ne n12]; exact upd_same) hp3
    have n23 : p2 ≠ p3 := ne_of_none upd_same hp3
    obtain ⟨v, hv, hm⟩ := atI_mem (xs := [V.ref p, V.ref p2]) (i := kd) k0 (by show kd < 2; exact k2)
    have g2 := fun o => Go.new (o := o) g1.dr hp
    have g3 := fun o => Go.new (o := o) (g2 _).dr hp2
    have g4 := fun o => Go.new (o := o) (g3 _).dr hp3
    refine ⟨_, rfl, _, _, _, _, rfl, rfl, sqd upd_same, hv, ?_⟩
    simp only [List.mem_cons, List.not_mem_nil, or_false] at hm
    have gg := fun o => g1.trans ((g2 _).trans ((g3 _).trans (g4 o)))
    rcases hm with rfl | rfl
    · exact q _ (.lit true) _ (gg _) (.lit (by rw [upd_ne n13, upd_ne n12]; exact upd_same)) .lit (by rw [It.dep]; omega) (by rw [It.sz]; omega)
    · exact q _ (.lit false) _ (gg _) (.lit (by rw [upd_ne n23]; exact upd_same)) .lit (by rw [It.dep]; omega) (by rw [It.sz]; omega)
  have k2 : ¬ kd < 2 := fun h => c1 (decide_eq_true h)
  -- less, equal
  refine ⟨_, rfl, _, _, rfl, rfl, _, rfl, ?_⟩
  refine' cutP ?f ?b
  case f =>
    intro body
    refine ite2 (fun c2 => iteT body) (fun c2 => ?_)
    refine ⟨_, rfl, _, _, rfl, rfl, _, rfl, ?_⟩
    refine ite2 (fun c3 => body) (fun c3 => ?_)
    have d1 : ¬ δ < 1 := fun h => c2 (decide_eq_true h)
    have k6 : ¬ kd < 6 := fun h => c3 (decide_eq_true h)
    cases n with
    | zero => exact absurd hδ (by omega)
    | succ n =>
    have eE : (eT (n + 1)).2 = 1 + 2 * (1 + 2 * (eT n).1 + (eT n).2) + 5 * (eT n).2 := rfl
    -- not
    refine ⟨_, rfl, rfl, _, rfl, ?_⟩
    refine ite2 (fun c4 => ?_) (fun c4 => ?_)
    · refine ⟨_, rfl, _, rfl, _, rfl, _, rfl, _, _, rfl, rfl, d, nm, xs, c, δ - 1, rfl, g1.dr, hk.go g1, hc, by omega, fun v1 i1 H2 g2 hi1 ho1 hd1 hs1 => ?_⟩
      refine ⟨(Nat.le_of_ble_eq_true rfl), fun p hp => ?_⟩
      have gp := fun o => Go.new (o := o) g2.dr hp
      exact q _ _ _ (g1.trans (g2.trans (gp _))) (.un upd_same (hi1.go (gp _) g2.dr)) (.not ho1) (by rw [It.dep]; omega) (by rw [It.sz]; omega)
    have k7 : kd ≠ 6 := int_ne c4
    -- many
    refine ⟨(Nat.le_of_ble_eq_true rfl), fun p hp => ?_⟩
    have gp := fun o => Go.new (o := o) g1.dr hp
    refine ⟨_, rfl, d, _, rfl, (gp _).dr, (by decide), fun u H2 g2 u0 u1 => ?_⟩
    obtain ⟨m, hmv, hmm⟩ := atI_map (f := V.int) (xs := [0, 1, 2, 3, 2, 5]) u0 u1
    have hm5 : 0 ≤ m ∧ m ≤ 5 := by
      simp only [List.mem_cons, List.not_mem_nil, or_false] at hmm
      omega
    have g12 := g1.trans ((gp _).trans g2)
    refine ⟨_, _, _, _, rfl, rfl, sqd (g2.at g1.dr hp), hmv, (Nat.le_of_ble_eq_true rfl), fun p2 hp2 => ?_⟩
    have gp2 := fun o => Go.new (o := o) g2.dr hp2
    obtain ⟨wd, hw, hmw⟩ := atI_map (f := V.str) (xs := ["all", "any", "all"]) (i := kd - 7) (by omega) (by show kd - 7 < 3; omega)
    refine ⟨_, rfl, _, _, rfl, rfl, _, _, _, _, rfl, rfl, sqd upd_same, hw, _, rfl, m, rfl, by omega, by omega, fun D hD => ?_⟩
    have gD := fun o => Go.new (o := o) (gp2 _).dr hD
    refine lc_range (lo := 0) (n := m.toNat) (fun (j : Nat) (H' : Hp) => ∃ (l : List It) (vs : List V), vs.length = j ∧ l.length = j ∧ Go d (upd H2 p2 (.lst [.str "all", .str "any", .str "all"])) H' ∧ H' D = some (.lst vs) ∧ (∀ (k : Nat) i x, l[k]? = some i → vs[k]? = some x → ItemIn H' i x) ∧ (∀ i ∈ l, Okx xs B true i ∧ i.dep ≤ 2 * n + 2 ∧ i.sz ≤ (eT n).2)) ?_ ?_ ?_
    · exact ⟨[], [], rfl, rfl, gD _, upd_same, fun k i x h => by simp at h, fun i h => by cases h⟩
    · rintro j H' hj ⟨l, vs, hl1, hl2, g, e, hin, hok⟩
      refine ⟨rfl, ?_⟩
      refine yes_if ?_
      refine ⟨_, rfl, _, rfl, _, rfl, _, rfl, _, _, rfl, rfl, d, nm, xs, c, δ - 2, rfl, g.dr, (hk.go g12).go ((gp2 _).trans g), hc, by omega, fun v1 i1 H4 g4 hi1 ho1 hd1 hs1 => ?_⟩
      have nD : D ≠ d := new_ne (gp2 _).dr hD
      have e4 := g4.fr D _ nD e
      have t4 : Tp H4 (upd H4 D (.lst (vs ++ [v1]))) := fun a ys ea => by
        rw [upd_ne]
        · exact ea
        · rintro rfl
          rw [e4] at ea; cases ea
      refine ⟨vs, e4, small1000 (by omega), l ++ [i1], vs ++ [v1], ?_, ?_, ?_, upd_same, ?_, ?_⟩
      · rw [List.length_append, hl1] <;> rfl
      · rw [List.length_append, hl2] <;> rfl
      · have g5 := g.trans g4
        refine ⟨fun b o hb eb => ?_, ?_⟩
        · rw [upd_ne (ne_of_none eb hD)]
          exact g5.fr b o hb eb
        · obtain ⟨ns, h⟩ := g5.dr
          exact ⟨ns, by rw [upd_ne nD.symm]; exact h⟩
      · intro k i x h1 h2
        by_cases hk2 : k < j
        · rw [List.getElem?_append_left (by omega)] at h1 h2
          exact ((hin k i x h1 h2).go g4 g.dr).mono t4
        · have hk3 : k = j := by
            have := (List.getElem?_eq_some_iff.mp h1).1
            rw [List.length_append, hl2] at this
            have : [i1].length = 1 := rfl
            omega
          subst hk3
          rw [List.getElem?_append_right (by omega), hl2, Nat.sub_self] at h1
          rw [List.getElem?_append_right (by omega), hl1, Nat.sub_self] at h2
          obtain rfl : i1 = i := Option.some.inj h1
          obtain rfl : v1 = x := Option.some.inj h2
          exact hi1.mono t4
      · intro i hi
        rcases List.mem_append.mp hi with h | h
        · exact hok i h
        · rw [List.mem_singleton.mp h]
          exact ⟨ho1, hd1, hs1⟩
    · rintro H' ⟨l, vs, hl1, hl2, g, e, hin, hok⟩
      refine ⟨D, vs, rfl, .inl ⟨sqd e, fun tp htp => ?_⟩⟩
      have gt := fun o => Go.new (o := o) g.dr htp
      refine ⟨(Nat.le_of_ble_eq_true rfl), fun rp hrp => ?_⟩
      have gr := fun o => Go.new (o := o) (gt _).dr hrp
      have nt : tp ≠ rp := ne_of_none upd_same hrp
      have hz : szL l ≤ 5 * (eT n).2 := by
        have := szL_le l (fun i hi => (hok i hi).2.2)
        have h5 : l.length ≤ 5 := by omega
        exact Nat.le_trans this (Nat.mul_le_mul_right _ h5)
      have hd : depL l ≤ 2 * n + 2 := depL_le l (fun i hi => (hok i hi).2.1)
      refine q _ (.grp wd l) _ (g12.trans ((gp2 _).trans (g.trans ((gt _).trans (gr _))))) (.grp upd_same (by rw [upd_ne nt]; exact upd_same) (by omega) ?_) (.grp ?_ (by omega) fun i hi => (hok i hi).1) (by rw [It.dep]; omega) (by rw [It.sz]; omega)
      · intro k i x h1 h2
        exact (hin k i x h1 h2).go ((gt _).trans (gr _)) g.dr
      · simp only [List.mem_cons, List.not_mem_nil, or_false] at hmw ⊢
        rcases hmw with h | h | h
        · exact .inl h
        · exact .inr h
        · exact .inl h
  case b =>
    refine ⟨_, rfl, _, rfl, _, rfl, _, rfl, _, _, rfl, rfl, d, nm, xs, c, δ - 1, rfl, g1.dr, hk.go g1, hc, by omega, fun v1 i1 H2 g2 hi1 ho1 hd1 hs1 => ?_⟩
    refine ⟨(Nat.le_of_ble_eq_true rfl), fun p hp => ?_⟩
    have gp := fun o => Go.new (o := o) g2.dr hp
    have b1 := Int.emod_nonneg kd (by decide : (2 : Int) ≠ 0)
    have b2 := Int.emod_lt_of_pos kd (by decide : (0 : Int) < 2)
    obtain ⟨wd, hw, hm⟩ := atI_map (f := V.str) (xs := ["less", "equal"]) (i := kd % 2) b1 (by show kd % 2 < 2; exact b2)
    refine ⟨_, rfl, _, _, rfl, rfl, (by show (0 : Int) < 2; decide), _, _, _, _, rfl, rfl, sqd upd_same, hw, _, rfl, _, rfl, _, rfl, _, rfl, _, rfl, _, _, rfl, rfl, d, nm, xs, c, δ - 1, rfl, (gp _).dr, ((hk.go g1).go g2).go (gp _), hc, by omega, fun v2 i2 H3 g3 hi2 ho2 hd2 hs2 => ?_⟩
    refine ⟨(Nat.le_of_ble_eq_true rfl), fun p2 hp2 => ?_⟩
    have gp2 := fun o => Go.new (o := o) g3.dr hp2
    exact q _ _ _ (g1.trans (g2.trans ((gp _).trans (g3.trans (gp2 _))))) (.bin upd_same (hi1.go ((gp _).trans (g3.trans (gp2 _))) g2.dr) (hi2.go (gp2 _) g3.dr)) (.cmp hm ho1 ho2) (by rw [It.dep]; omega) (by rw [It.sz]; omega)
theorem ok_ET {B : Nat} (hB : 100 ≤ B) (T : Txt K mg) : ∀ n : Nat,
    FnOk P w K mg base CX0 (3 + 2 * n) T.a_law_expression T.d_law_expression P_law_expression (spE K B n) ∧ FnOk P w K mg base CX0 (4 + 2 * n) T.a_law_test T.d_law_test P_law_test (spT K B n)
  | 0 => ⟨⟨fun _ _ _ _ h => h.elim, fun _ _ _ _ _ _ _ _ _ _ _ _ _ h => h.elim⟩, ⟨fun _ _ _ _ h => h.elim, fun _ _ _ _ _ _ _ _ _ _ _ _ _ h => h.elim⟩⟩
  | n + 1 => by
    obtain ⟨ge, gt⟩ := ok_ET hB T n
    have h1 := ok_E hB T ge gt
    have h2 := ok_T hB T h1 gt
    exact ⟨h1.mono (by omega), h2.mono (by omega)⟩
end
end NL

namespace NL
open PySem PySem.Spec PyProof.Rows L2
theorem ixN_in {n : Nat} {k : Int} (h0 : 0 ≤ k) (h1 : k < n) : ixN n k = some k.toNat := by
  unfold ixN
  rw [if_pos h0, if_pos h1]
/-- a change at what was not there before -/
theorem same_put {H H' : Hp} {p : Addr} {o : HO} (s : Same H H') (hp : H p = none) : Same H (upd H' p o) := fun b u e => by
  rw [upd_ne (ne_of_none e hp)]
  exact s b u e
section
variable {P : Program} {w : World} {K : PySem.W.Frag} {mg : Str → Option Value} {base : Heap}
def spDraws (K : PySem.W.Frag) : Sp := fun vs H Q _ => ∃ (a : Addr) (ns : List Int) (m : Int), vs = [.ref a, .int m] ∧ SqL K H a (ns.map V.int) ∧ ns.length ≤ 63 ∧ 0 ≤ m ∧ m ≤ 1000 ∧
  ∀ d H', Same H H' → H d = none → Dr H' d → Q (.ref d) H'
theorem ok_law_draws (T : Txt K mg) : FnOk P w K mg base CX0 1 T.a_law_draws T.d_law_draws P_law_draws (spDraws K) := by
  refine T.F_law_draws.ok sc_law_draws (fun vs H Q E h => ?_) (fun cdv A outer s H vs Q E hr h => ?_)
  · obtain ⟨a, ns, m, rfl, _⟩ := h
    rfl
  obtain ⟨a, ns, m, rfl, hS, hl, m0, m1, q⟩ := h
  refine ⟨_, (pss_cons (ps_setLc (i := 2) (own := [("cell", 3)]) (g := (gName 3)) (tt := tYes) rfl sc_law_draws.nd rfl rfl (sw_true rfl rfl rfl (by decide +kernel)) (pi_list (pv 0)) (blkOk_by (N := N_law_draws) (sc := defScope s_law_draws) (by decide +kernel)) (fun _ _ _ _ _ => (pg_name (i := 3) sc_law_draws.nd rfl (Or.inl rfl))) (fun _ _ _ _ _ => pts_nil) (fun _ _ _ _ _ => (pe_callTy call_int1 (by rfl) T.z_int (by decide +kernel) (pa_cons (pv 3) pa_nil))))
    (C8.pss_cut (ps_if (pt_cmpR op_eq (pe_callB call_len_seq (by rfl) T.z_len PySem.boot_len (pa_cons (pv 2) pa_nil)) pe_int (nomark _))
    (pss_one (ps_expr (pe_bm PySem.F.plainAttrs_list PySem.F.slot_list_append PySem.F.type_list_append mt_append (pv 2) (pa_cons pe_int pa_nil))))
    pss_nil)
    (pss_cons (ps_set (i := 4) sc_law_draws.nd rfl (Or.inl rfl) (pe_callTy call_list_of (by rfl) T.z_list (by decide +kernel) (pa_cons (pv 2) pa_nil)))
    (pss_cons (ps_set (i := 5) sc_law_draws.nd rfl (Or.inl rfl) (pe_lst pa_nil))
    (pss_cons (ps_for  PassesOwn.never rfl (pi_range1 (by rfl) T.z_range (pa_cons (pv 1) pa_nil)) (pg_name (i := 6) sc_law_draws.nd rfl (Or.inl rfl))
    (pss_cons (ps_set (i := 7) sc_law_draws.nd rfl (Or.inl rfl) (pe_op op_mod (pv 6) (pe_callB call_len_seq (by rfl) T.z_len PySem.boot_len (pa_cons (pv 2) pa_nil))))
    (pss_one (ps_if (pt_cmpR op_ge (pe_ix ix_list (pv 2) (pv 7) (fun _ _ => rfl)) (pe_op op_pow pe_int pe_int) (nomark _))
    (pss_cons (ps_expr (pe_bm PySem.F.plainAttrs_list PySem.F.slot_list_append PySem.F.type_list_append mt_append (pv 5) (pa_cons (pe_op op_mod (pe_callTy call_int1 (by rfl) T.z_int (by decide +kernel) (pa_cons (pe_ix ix_list (pv 4) (pv 7) (fun _ _ => rfl)) pa_nil)) pe_int) pa_nil)))
    (pss_one (ps_asg (pe_op op_fdiv (pe_ix ix_list (pv 4) (pv 7) (fun _ _ => rfl)) pe_int) (pg_sub (pv 4) (pv 7) set_list))))
    (pss_cons (ps_set (i := 8) sc_law_draws.nd rfl (Or.inl rfl) (pe_op op_mod (pe_callTy call_int1 (by rfl) T.z_int (by decide +kernel) (pa_cons (pe_op op_add (pe_op op_add (pe_op op_mul (pe_ix ix_list (pv 2) (pv 7) (fun _ _ => rfl)) pe_int) (pe_op op_mul (pv 6) pe_int)) pe_int) pa_nil)) pe_int))
    (pss_one (ps_expr (pe_bm PySem.F.plainAttrs_list PySem.F.slot_list_append PySem.F.type_list_append mt_append (pv 5) (pa_cons (pe_op op_mod (pe_callTy call_int1 (by rfl) T.z_int (by decide +kernel) (pa_cons (pe_op op_add (pe_op op_add (pe_op op_mul (pv 8) (pv 8)) (pe_op op_mul pe_int (pv 8))) (pv 6)) pa_nil)) pe_int) pa_nil)))))))))
    (pss_cons (ps_expr (pe_bm0 PySem.F.plainAttrs_list PySem.F.slot_list_reverse PySem.F.type_list_reverse mt_reverse (pv 5)))
    (pss_one (ps_ret (pv 5))))))))), ?_⟩
  -- cells
  refine ⟨_, rfl, a, rfl, ⟨_, hS⟩, fun c hc => ?_⟩
  refine lc_list (K := K) (a := a) (xs := ns.map V.int) (fun (j : Nat) (H' : Hp) => Same H H' ∧ H' c = some (.lst ((ns.take j).map V.int))) ?_ ?_ ?_ ?_
  · exact ⟨same_new hc _, by rw [upd_same, List.take_zero]; rfl⟩
  · rintro i H' _ ⟨s1, _⟩
    exact s1.seq hS
  · rintro i x H' hx ⟨s1, e1⟩
    rw [List.getElem?_map] at hx
    cases hn : ns[i]? with
    | none => rw [hn] at hx; cases hx
    | some n =>
      rw [hn] at hx
      obtain rfl : V.int n = x := Option.some.inj hx
      refine ⟨rfl, yes_if ?_⟩
      refine ⟨_, rfl, .inl ⟨n, rfl, _, e1, ?_, same_put s1 hc, ?_⟩⟩
      · rw [List.length_map, List.length_take]
        exact small1000 (by omega)
      · rw [upd_same, List.take_add_one, hn, List.map_append]
        rfl
  · rintro H1 ⟨s1, e1⟩
    rw [List.length_map, List.take_length] at e1
    -- at least one cell
    refine ⟨fun σ H2 => ∃ cs : List Int, cs ≠ [] ∧ cs.length ≤ 63 ∧ σ = [some (.ref a), some (.int m), some (.ref c), none, none, none, none, none, none] ∧ Same H H2 ∧ H2 c = some (.lst (cs.map V.int)), ?_, ?_⟩
    · refine ⟨_, rfl, _, _, rfl, .inl (sqd e1), rfl, _, rfl, ?_⟩
      refine ite2 (fun z => ?_) (fun z => ?_)
      · refine ⟨_, rfl, .inl ⟨rfl, _, sqd e1⟩, c, _, _, rfl, rfl, e1, ?_, ?_⟩
        · rw [List.length_map]
          exact small1000 (by omega)
        · have hz := int_eq z
          rw [List.length_map] at hz
          have : ns = [] := List.length_eq_zero_iff.mp (by omega)
          subst this
          exact ⟨[0], by simp, by decide, rfl, same_put s1 hc, upd_same⟩
      · have hz := int_ne z
        rw [List.length_map] at hz
        refine ⟨ns, ?_, hl, rfl, s1, e1⟩
        rintro rfl
        exact hz rfl
    · rintro σ H2 ⟨cs, hcs, hcl, rfl, s2, e2⟩
      have hpos : 0 < cs.length := List.length_pos_iff.mpr hcs
      -- rest, draws
      refine ⟨_, rfl, _, _, rfl, .inl (sqd e2), fun r hr2 => ?_⟩
      have ncr : c ≠ r := ne_of_none e2 hr2
      refine ⟨(Nat.le_of_ble_eq_true rfl), fun d hd => ?_⟩
      have ncd : c ≠ d := ne_of_none (by rw [upd_ne ncr]; exact e2) hd
      have nrd : r ≠ d := ne_of_none upd_same hd
      have hHr : H r = none := s2.free hr2
      have hHd : H d = none := (s2.trans (same_new hr2 _)).free hd
      refine ⟨_, rfl, m, rfl, by omega, by omega, for_range (lo := 0) (n := m.toNat) (fun (j : Nat) (σ : L2.St) (H' : Hp) => ∃ (rs ds : List Int) (y1 y2 y3 : Option V), σ = [some (.ref a), some (.int m), some (.ref c), none, some (.ref r), some (.ref d), y1, y2, y3] ∧ Same H H' ∧ H' c = some (.lst (cs.map V.int)) ∧ H' r = some (.lst (rs.map V.int)) ∧ rs.length = cs.length ∧ H' d = some (.lst (ds.map V.int)) ∧ ds.length ≤ j) ?_ ?_ ?_⟩
      · refine ⟨cs, [], none, none, none, rfl, (s2.trans (same_new hr2 _)).trans (same_new hd _), ?_, ?_, rfl, upd_same, Nat.le_refl _⟩
        · rw [upd_ne ncd, upd_ne ncr]; exact e2
        · rw [upd_ne nrd]; exact upd_same
      · rintro j σ H' hj ⟨rs, ds, y1, y2, y3, rfl, s3, ec, er, hrl, ed, hdl⟩
        have b0 := Int.emod_nonneg ((0 : Int) + (j : Int)) (show (((cs.map V.int).length : Nat) : Int) ≠ 0 by rw [List.length_map]; omega)
        have b1 : (((0 : Int) + (j : Int)) % (((cs.map V.int).length : Nat) : Int)) < (cs.length : Int) := by
          have h := Int.emod_lt_of_pos ((0 : Int) + (j : Int)) (show 0 < (((cs.map V.int).length : Nat) : Int) by rw [List.length_map]; omega)
          rw [List.length_map] at h ⊢
          exact h
        refine ⟨_, rfl, _, rfl, _, _, rfl, .inl (sqd ec), _, _, rfl, rfl, (by show 0 < (((cs.map V.int).length : Nat) : Int); rw [List.length_map]; omega), ?_⟩
        obtain ⟨cv, hcv, _⟩ := atI_map (f := V.int) (xs := cs) b0 b1
        obtain ⟨rv, hrv, _⟩ := atI_map (f := V.int) (xs := rs) b0 (by omega)
        refine ⟨_, rfl, _, rfl, _, _, _, _, rfl, rfl, sqd ec, hcv, _, _, rfl, rfl, ⟨by decide, by decide, by decide⟩, _, _, rfl, rfl, _, rfl, ?_⟩
        refine ite2 (fun z => ?_) (fun z => ?_)
        · refine ⟨_, rfl, .inl ⟨rfl, _, sqd ed⟩, _, rfl, _, rfl, _, _, _, _, rfl, rfl, sqd er, hrv, .inl ⟨_, rfl, _, _, rfl, rfl, (by show (0 : Int) < 1000; decide), d, _, _, rfl, rfl, ed, ?_, ?_⟩⟩
          · rw [List.length_map]
            exact small1000 (by omega)
          · have er2 : ∀ o, (upd H' d o) r = some (.lst (rs.map V.int)) := fun o => by rw [upd_ne nrd]; exact er
            refine ⟨_, rfl, _, rfl, _, _, _, _, rfl, rfl, sqd (er2 _), hrv, _, _, rfl, rfl, ⟨by decide, by decide⟩, _, rfl, _, rfl, r, _, _, _, rfl, rfl, er2 _, ixN_in b0 (by have h : (rs.map V.int).length = rs.length := List.length_map _; omega), ?_⟩
            refine ⟨rs.set (((0 : Int) + (j : Int)) % (((cs.map V.int).length : Nat) : Int)).toNat (rv / 1000), ds ++ [rv % 1000], _, _, _, rfl, same_put (same_put s3 hHd) hHr, ?_, ?_, ?_, ?_, ?_⟩
            · rw [upd_ne ncr, upd_ne ncd]; exact ec
            · rw [upd_same, List.map_set]
            · rw [List.length_set]; exact hrl
            · rw [upd_ne nrd.symm, upd_same, List.map_append]; rfl
            · rw [List.length_append, List.length_singleton]; omega
        · have o0 := fun z : Int => Int.emod_nonneg z (by decide : (2147483647 : Int) ≠ 0)
          have o1 := fun z : Int => Int.emod_lt_of_pos z (by decide : (0 : Int) < 2147483647)
          refine ⟨_, rfl, _, rfl, _, _, _, _, rfl, rfl, sqd ec, hcv, _, _, rfl, rfl, .inr ⟨by decide, by decide⟩, _, rfl, _, _, rfl, rfl, .inr ⟨by decide, by decide⟩, _, _, rfl, rfl, _, _, rfl, rfl, .inl ⟨_, rfl, _, _, rfl, rfl, (by show (0 : Int) < 2147483647; decide), ?_⟩⟩
          refine ⟨_, rfl, .inl ⟨rfl, _, sqd ed⟩, _, rfl, _, rfl, _, _, rfl, rfl, ?_, ?_⟩
          · left
            have h1 := o0 (cv * 48271 + (0 + (j : Int)) * 69621 + 11)
            have h2 := o1 (cv * 48271 + (0 + (j : Int)) * 69621 + 11)
            constructor
            · show -(2 ^ 64) < _
              omega
            · show _ < 2 ^ 64
              omega
          · refine ⟨_, rfl, _, _, rfl, rfl, .inl ⟨by decide, by decide⟩, _, _, rfl, rfl, _, rfl, _, _, rfl, rfl, .inl ⟨_, rfl, _, _, rfl, rfl, (by show (0 : Int) < 1000003; decide), d, _, _, rfl, rfl, ed, ?_, ?_⟩⟩
            · rw [List.length_map]
              exact small1000 (by omega)
            · refine ⟨rs, ds ++ [(((cv * 48271 + (0 + (j : Int)) * 69621 + 11) % 2147483647) * ((cv * 48271 + (0 + (j : Int)) * 69621 + 11) % 2147483647) + 3 * ((cv * 48271 + (0 + (j : Int)) * 69621 + 11) % 2147483647) + (0 + (j : Int))) % 1000003], _, _, _, rfl, same_put s3 hHd, ?_, ?_, hrl, ?_, ?_⟩
              · rw [upd_ne ncd]; exact ec
              · rw [upd_ne nrd]; exact er
              · rw [upd_same, List.map_append]; rfl
              · rw [List.length_append, List.length_singleton]; omega
      · rintro σ H' ⟨rs, ds, y1, y2, y3, rfl, s3, ec, er, hrl, ed, hdl⟩
        refine ⟨_, rfl, .inl ⟨rfl, _, sqd ed⟩, d, _, rfl, rfl, ed, ?_⟩
        refine ⟨_, rfl, q d _ (same_put s3 hHd) hHd ⟨ds.reverse, ?_⟩⟩
        rw [upd_same, List.map_reverse]
end
end NL

namespace NL
open PySem PySem.Spec PyProof.Rows L2
/-! ### what stands in an item: its tuple -/
def It.kids : It → List It
  | .num _ => []
  | .name _ => []
  | .lit _ => []
  | .un _ a => [a]
  | .dm _ a _ => [a]
  | .bin _ a b => [a, b]
  | .tri a b c => [a, b, c]
  | .grp _ l => l
def It.word : It → Str
  | .num _ => "number"
  | .name _ => "name"
  | .lit b => bstr b
  | .un w _ => w
  | .dm w _ _ => w
  | .bin w _ _ => w
  | .tri _ _ _ => "if"
  | .grp w _ => w
/-- the items stand at the values, one by one -/
def Kids (H : Hp) (l : List It) (xs : List V) : Prop := xs.length = l.length ∧ ∀ (k : Nat) i x, l[k]? = some i → xs[k]? = some x → ItemIn H i x
theorem Kids.mono {H H' : Hp} (t : Tp H H') {l : List It} {xs : List V} (h : Kids H l xs) : Kids H' l xs := ⟨h.1, fun k i x a b => (h.2 k i x a b).mono t⟩
theorem kids1 {H : Hp} {i : It} {x : V} (h : ItemIn H i x) : Kids H [i] [x] := ⟨rfl, fun k j y a b => by
  cases k with
  | zero => cases Option.some.inj a; cases Option.some.inj b; exact h
  | succ k => simp at a⟩
theorem Kids.cons {H : Hp} {i : It} {x : V} {l : List It} {xs : List V} (h : ItemIn H i x) (g : Kids H l xs) : Kids H (i :: l) (x :: xs) := ⟨by rw [List.length_cons, List.length_cons, g.1], fun k j y a b => by
  cases k with
  | zero => cases Option.some.inj a; cases Option.some.inj b; exact h
  | succ k => exact g.2 k j y (by simpa using a) (by simpa using b)⟩
theorem kids0 {H : Hp} : Kids H [] [] := ⟨rfl, fun k j y a b => by simp at a⟩
theorem Kids.get {H : Hp} {l : List It} {xs : List V} (h : Kids H l xs) {k : Nat} {x : V} (e : xs[k]? = some x) : ∃ i, l[k]? = some i ∧ ItemIn H i x ∧ i ∈ l := by
  have hk : k < xs.length := (List.getElem?_eq_some_iff.mp e).1
  rw [h.1] at hk
  exact ⟨l[k], List.getElem?_eq_getElem hk, h.2 k _ x (List.getElem?_eq_getElem hk) e, List.getElem_mem hk⟩
/-- an item's first part is its word -/
theorem ItemIn.head {H : Hp} {i : It} {a : Addr} (h : ItemIn H i (.ref a)) : ∃ r, H a = some (.tup (.str i.word :: r)) := by
  cases h <;> exact ⟨_, by assumption⟩
/-- the conditions' words are not the expressions' -/
def tests : List Str := ["true", "false", "less", "equal", "not", "all", "any"]
def wl (x : Str) (ys : List Str) : Bool := decide (x ∈ ys)
theorem word_test {xs : List Str} {B : Nat} {b : Bool} {i : It} (h : Okx xs B b i) : wl i.word tests = b := by
  cases h with
  | num _ => simp only [It.word]; decide +kernel
  | name _ => simp only [It.word]; decide +kernel
  | lit => rename_i b; cases b <;> (simp only [It.word]; decide +kernel)
  | abs _ => simp only [It.word]; decide +kernel
  | not _ => simp only [It.word]; decide +kernel
  | dm hw _ _ _ =>
    simp only [List.mem_cons, List.not_mem_nil, or_false] at hw
    rcases hw with rfl | rfl <;> (simp only [It.word]; decide +kernel)
  | bin hw _ _ =>
    simp only [List.mem_cons, List.not_mem_nil, or_false] at hw
    rcases hw with rfl | rfl | rfl | rfl | rfl <;> (simp only [It.word]; decide +kernel)
  | cmp hw _ _ =>
    simp only [List.mem_cons, List.not_mem_nil, or_false] at hw
    rcases hw with rfl | rfl <;> (simp only [It.word]; decide +kernel)
  | tri _ _ _ => simp only [It.word]; decide +kernel
  | grp hw _ _ =>
    simp only [List.mem_cons, List.not_mem_nil, or_false] at hw
    rcases hw with rfl | rfl <;> (simp only [It.word]; decide +kernel)
/-- 0: a leaf, 1: all and any, 2: div and mod, 3: the others -/
def It.cls : It → Nat
  | .num _ => 0
  | .name _ => 0
  | .lit _ => 0
  | .grp _ _ => 1
  | .dm _ _ _ => 2
  | _ => 3
theorem word_cls {xs : List Str} {B : Nat} {b : Bool} {i : It} (h : Okx xs B b i) :
    wl i.word ["number", "name", "true", "false"] = (i.cls == 0) ∧ wl i.word ["number", "name"] = (i.cls == 0 && !b) ∧ wl i.word ["true", "false"] = (i.cls == 0 && b) ∧
    wl i.word ["all", "any"] = (i.cls == 1) ∧ wl i.word ["div", "mod"] = (i.cls == 2) := by
  cases h with
  | num _ => simp only [It.word, It.cls]; decide +kernel
  | name _ => simp only [It.word, It.cls]; decide +kernel
  | lit => rename_i b; cases b <;> (simp only [It.word, It.cls]; decide +kernel)
  | abs _ => simp only [It.word, It.cls]; decide +kernel
  | not _ => simp only [It.word, It.cls]; decide +kernel
  | dm hw _ _ _ =>
    simp only [List.mem_cons, List.not_mem_nil, or_false] at hw
    rcases hw with rfl | rfl <;> (simp only [It.word, It.cls]; decide +kernel)
  | bin hw _ _ =>
    simp only [List.mem_cons, List.not_mem_nil, or_false] at hw
    rcases hw with rfl | rfl | rfl | rfl | rfl <;> (simp only [It.word, It.cls]; decide +kernel)
  | cmp hw _ _ =>
    simp only [List.mem_cons, List.not_mem_nil, or_false] at hw
    rcases hw with rfl | rfl <;> (simp only [It.word, It.cls]; decide +kernel)
  | tri _ _ _ => simp only [It.word, It.cls]; decide +kernel
  | grp hw _ _ =>
    simp only [List.mem_cons, List.not_mem_nil, or_false] at hw
    rcases hw with rfl | rfl <;> (simp only [It.word, It.cls]; decide +kernel)
/-- x in [a, b, ..], (a, b, ..): texts, the answer known -/
theorem inT {x : Str} {ys : List Str} {zs : List V} {b : Bool} (hz : zs = ys.map V.str) (h : wl x ys = b) : (if false = true then !inV (V.str x) zs else inV (V.str x) zs) = b := by
  rw [if_neg Bool.false_ne_true, hz, inV_str]; exact h
theorem ifT {c : Bool} {A B : Prop} (h : c = true) (a : A) : if c = true then A else B := by
  rw [if_pos h]; exact a
theorem ifF {c : Bool} {A B : Prop} (h : c = false) (b : B) : if c = true then A else B := by
  rw [if_neg (by rw [h]; exact Bool.false_ne_true)]; exact b
theorem blE {Q : VK} {b b' : Bool} {H : Hp} (h : b = b') (q : Q (.bl b') H) : Q (.bl b) H := by rw [h]; exact q
theorem flatW (ys : List Str) (zs : List V) (hz : zs = ys.map V.str) : zs.all flatV = true := by rw [hz]; exact flat_strs' ys
theorem atI0 {α : Type} {x : α} {r : List α} : atI (x :: r) 0 = some x := atI_nat (j := 0) rfl
theorem atI1 {α : Type} {x y : α} {r : List α} : atI (x :: y :: r) 1 = some y := atI_nat (j := 1) rfl
theorem atI2 {α : Type} {x y z : α} {r : List α} : atI (x :: y :: z :: r) 2 = some z := atI_nat (j := 2) rfl
/-- behind the first -/
theorem cut_tail (x : V) (r : List V) : cutV (x :: r) (some 1) none = r := by
  unfold cutV
  rw [show HT.sIx (x :: r).length 0 (some 1) = min 1 (x :: r).length from HT.sIx_nat (x :: r).length 0 1, HT.sIx_none]
  rw [show min 1 (x :: r).length = 1 by rw [List.length_cons]; omega]
  show List.take ((x :: r).length - 1) r = r
  rw [List.length_cons, Nat.add_sub_cancel]
  exact List.take_length
theorem not_whole (x : V) (r : List V) (hi : Option Int) : ¬ (HT.sIx (x :: r).length 0 (some 1) = 0 ∧ HT.sIx (x :: r).length (x :: r).length hi = (x :: r).length) := by
  rintro ⟨h, _⟩
  rw [show HT.sIx (x :: r).length 0 (some 1) = min 1 (x :: r).length from HT.sIx_nat (x :: r).length 0 1, List.length_cons] at h
  omega
/-- the parts of an item that is no leaf, no group and no div: behind its word -/
theorem ItemIn.rest {H : Hp} {i : It} {a : Addr} (h : ItemIn H i (.ref a)) (h3 : i.cls = 3) : ∃ r, H a = some (.tup (.str i.word :: r)) ∧ Kids H i.kids r := by
  cases h with
  | num _ => cases h3
  | name _ => cases h3
  | lit _ => cases h3
  | un e g => exact ⟨_, e, kids1 g⟩
  | dm _ _ => cases h3
  | bin e g k => exact ⟨_, e, .cons g (kids1 k)⟩
  | tri e g k l => exact ⟨_, e, .cons g (.cons k (kids1 l))⟩
  | grp _ _ _ _ => cases h3
theorem ItemIn.group {H : Hp} {i : It} {a : Addr} (h : ItemIn H i (.ref a)) (h3 : i.cls = 1) : ∃ b xs, H a = some (.tup [.str i.word, .ref b]) ∧ H b = some (.tup xs) ∧ Kids H i.kids xs := by
  cases h with
  | grp e f g k => exact ⟨_, _, e, f, g, k⟩
  | num _ => cases h3
  | name _ => cases h3
  | lit _ => cases h3
  | un e g => cases h3
  | dm _ _ => cases h3
  | bin e g k => cases h3
  | tri e g k l => cases h3
theorem ItemIn.divs {H : Hp} {i : It} {a : Addr} (h : ItemIn H i (.ref a)) (h3 : i.cls = 2) : ∃ x j n, H a = some (.tup [.str i.word, x, .int n]) ∧ ItemIn H j x ∧ i = .dm i.word j n := by
  cases h with
  | dm e g => exact ⟨_, _, _, e, g, rfl⟩
  | grp e f g k => cases h3
  | num _ => cases h3
  | name _ => cases h3
  | lit _ => cases h3
  | un e g => cases h3
  | bin e g k => cases h3
  | tri e g k l => cases h3
theorem cls_le (i : It) : i.cls = 0 ∨ i.cls = 1 ∨ i.cls = 2 ∨ i.cls = 3 := by cases i <;> simp [It.cls]
theorem kids_leaf {i : It} (h : i.cls = 0) : i.kids = [] := by cases i <;> first | rfl | cases h
theorem Kids.snoc {H : Hp} {l : List It} {vs : List V} {i : It} {v : V} (h : Kids H l vs) (hi : ItemIn H i v) : Kids H (l ++ [i]) (vs ++ [v]) := by
  obtain ⟨hl, hin⟩ := h
  refine ⟨by rw [List.length_append, List.length_append, hl] <;> rfl, fun k j x h1 h2 => ?_⟩
  by_cases hk : k < l.length
  · rw [List.getElem?_append_left (by omega)] at h1 h2
    exact hin k j x h1 h2
  · have hk3 : k = l.length := by
      have := (List.getElem?_eq_some_iff.mp h1).1
      rw [List.length_append, List.length_singleton] at this
      omega
    subst hk3
    rw [List.getElem?_append_right (by omega), Nat.sub_self] at h1
    rw [List.getElem?_append_right (by omega), hl, Nat.sub_self] at h2
    obtain rfl : i = j := Option.some.inj h1
    obtain rfl : v = x := Option.some.inj h2
    exact hi
theorem tp_put {H : Hp} {p : Addr} {xs : List V} {o : HO} (e : H p = some (.lst xs)) : Tp H (upd H p o) := fun a ys ea => by
  rw [upd_ne]
  · exact ea
  · rintro rfl
    rw [e] at ea; cases ea
theorem Kids.ok {H : Hp} {l : List It} {vs : List V} (h : Kids H l vs) {w : Str} {a b : Addr} (ha : H a = some (.tup [.str w, .ref b])) (hb : H b = some (.tup vs)) : ItemIn H (.grp w l) (.ref a) := .grp ha hb h.1 h.2
/-- a change at what was not there before keeps what is drawn -/
theorem Go.put2 {d p : Addr} {H H' : Hp} {o : HO} (g : Go d H H') (hp : H p = none) (n : p ≠ d) : Go d H (upd H' p o) := ⟨fun b u hb e => by
  rw [upd_ne (ne_of_none e hp)]
  exact g.fr b u hb e, by
  obtain ⟨ns, e⟩ := g.dr
  exact ⟨ns, by rw [upd_ne n.symm]; exact e⟩⟩
section
variable {P : Program} {w : World} {K : PySem.W.Frag} {mg : Str → Option Value} {base : Heap}
/-! ### _law_is_test -/
def spIsTest : Sp := fun vs H Q _ => ∃ (v : V) (i : It) (xs : List Str) (B : Nat) (b : Bool), vs = [v] ∧ ItemIn H i v ∧ Okx xs B b i ∧ ∀ H', Same H H' → Q (.bl b) H'
theorem ok_law_is_test (T : Txt K mg) : FnOk P w K mg base CX0 1 T.a_law_is_test T.d_law_is_test P_law_is_test spIsTest := by
  refine T.F_law_is_test.ok sc_law_is_test (fun vs H Q E h => ?_) (fun cdv A outer s H vs Q E hr h => ?_)
  · obtain ⟨v, i, xs, B, b, rfl, _⟩ := h
    rfl
  obtain ⟨v, i, xs, B, b, rfl, hi, ho, q⟩ := h
  obtain ⟨a, rfl⟩ := hi.ref
  obtain ⟨r, ha⟩ := hi.head
  refine ⟨_, (pss_one (ps_ret (pe_cmpR op_in_seq (pe_ix ix_tup (pv 0) pe_int (fun _ _ => rfl)) (pe_lst (pa_cons pe_str (pa_cons pe_str (pa_cons pe_str (pa_cons pe_str (pa_cons pe_str (pa_cons pe_str (pa_cons pe_str pa_nil)))))))) (by rfl)))), ?_⟩
  refine ⟨_, rfl, a, _, 0, _, rfl, rfl, sqt ha, atI0, (Nat.le_of_ble_eq_true rfl), fun p hp => ?_⟩
  refine ⟨p, _, rfl, .inl (sqd upd_same), rfl, by decide +kernel, ?_⟩
  exact blE (inT (ys := tests) rfl (word_test ho)) (q _ (same_new hp _))
/-! ### _law_inner: the parts as a new list -/
def spInner : Sp := fun vs H Q _ => ∃ (v : V) (i : It) (xs : List Str) (B : Nat) (b : Bool), vs = [v] ∧ ItemIn H i v ∧ Okx xs B b i ∧ ∀ p ys H', Same H H' → H p = none → H' p = some (.lst ys) → Kids H' i.kids ys → Q (.ref p) H'
theorem ok_law_inner (T : Txt K mg) : FnOk P w K mg base CX0 1 T.a_law_inner T.d_law_inner P_law_inner spInner := by
  refine T.F_law_inner.ok sc_law_inner (fun vs H Q E h => ?_) (fun cdv A outer s H vs Q E hr h => ?_)
  · obtain ⟨v, i, xs, B, b, rfl, _⟩ := h
    rfl
  obtain ⟨v, i, xs, B, b, rfl, hi, ho, q⟩ := h
  obtain ⟨a, rfl⟩ := hi.ref
  obtain ⟨r, ha⟩ := hi.head
  obtain ⟨c0, _, _, c1, c2⟩ := word_cls ho
  refine ⟨_, (pss_cons (ps_if (pt_cmpR op_in_seq (pe_ix ix_tup (pv 0) pe_int (fun _ _ => rfl)) (pe_lst (pa_cons pe_str (pa_cons pe_str (pa_cons pe_str (pa_cons pe_str pa_nil))))) (by rfl))
    (pss_one (ps_ret (pe_lst pa_nil)))
    pss_nil)
    (pss_cons (ps_if (pt_cmpR op_in_seq (pe_ix ix_tup (pv 0) pe_int (fun _ _ => rfl)) (pe_lst (pa_cons pe_str (pa_cons pe_str pa_nil))) (by rfl))
    (pss_one (ps_ret (pe_callTy call_list_of (by rfl) T.z_list (by decide +kernel) (pa_cons (pe_ix ix_tup (pv 0) pe_int (fun _ _ => rfl)) pa_nil))))
    pss_nil)
    (pss_cons (ps_if (pt_cmpR op_in_seq (pe_ix ix_tup (pv 0) pe_int (fun _ _ => rfl)) (pe_lst (pa_cons pe_str (pa_cons pe_str pa_nil))) (by rfl))
    (pss_one (ps_ret (pe_lst (pa_cons (pe_ix ix_tup (pv 0) pe_int (fun _ _ => rfl)) pa_nil))))
    pss_nil)
    (pss_one (ps_ret (pe_callTy call_list_of (by rfl) T.z_list (by decide +kernel) (pa_cons (pe_slice sl_tup (pv 0) (po_some pe_int) po_none) pa_nil))))))), ?_⟩
  refine ⟨_, rfl, a, _, 0, _, rfl, rfl, sqt ha, atI0, (Nat.le_of_ble_eq_true rfl), fun p1 hp1 => ?_⟩
  have s1 := fun o => same_new hp1 o
  refine ⟨p1, _, rfl, .inl (sqd upd_same), rfl, (by decide +kernel), _, rfl, ?_⟩
  rcases cls_le i with h0 | h1 | h2 | h3
  · refine ifT (inT (ys := ["number", "name", "true", "false"]) rfl (by rw [c0, h0] <;> rfl)) ?_
    refine ⟨(Nat.le_of_ble_eq_true rfl), fun p hp => ?_⟩
    refine q p [] _ ((s1 _).trans (same_new hp _)) ((s1 _).free hp) upd_same ?_
    rw [kids_leaf h0]
    exact kids0
  · refine ifF (inT (ys := ["number", "name", "true", "false"]) rfl (by rw [c0, h1] <;> rfl)) ?_
    obtain ⟨b2, ys, e1, e2, hk⟩ := hi.group h1
    refine ⟨_, rfl, a, _, 0, _, rfl, rfl, sqt (s1 _ _ _ e1), atI0, (Nat.le_of_ble_eq_true rfl), fun p2 hp2 => ?_⟩
    have s2 := fun o => (s1 _).trans (same_new hp2 o)
    refine ⟨p2, _, rfl, .inl (sqd upd_same), rfl, (by decide +kernel), _, rfl, ?_⟩
    refine ifT (inT (ys := ["all", "any"]) rfl (by rw [c1, h1] <;> rfl)) ?_
    refine ⟨_, rfl, a, _, 1, _, rfl, rfl, sqt (s2 _ _ _ e1), atI1, _, _, rfl, .inr (sqt (s2 _ _ _ e2)), fun p hp => ?_⟩
    exact q p ys _ ((s2 _).trans (same_new hp _)) ((s2 _).free hp) upd_same (hk.mono (Tp.same ((s2 _).trans (same_new hp _))))
  · refine ifF (inT (ys := ["number", "name", "true", "false"]) rfl (by rw [c0, h2] <;> rfl)) ?_
    obtain ⟨x, j, n, e1, hj, ej⟩ := hi.divs h2
    refine ⟨_, rfl, a, _, 0, _, rfl, rfl, sqt (s1 _ _ _ e1), atI0, (Nat.le_of_ble_eq_true rfl), fun p2 hp2 => ?_⟩
    have s2 := fun o => (s1 _).trans (same_new hp2 o)
    refine ⟨p2, _, rfl, .inl (sqd upd_same), rfl, (by decide +kernel), _, rfl, ?_⟩
    refine ifF (inT (ys := ["all", "any"]) rfl (by rw [c1, h2] <;> rfl)) ?_
    refine ⟨_, rfl, a, _, 0, _, rfl, rfl, sqt (s2 _ _ _ e1), atI0, (Nat.le_of_ble_eq_true rfl), fun p3 hp3 => ?_⟩
    have s3 := fun o => (s2 _).trans (same_new hp3 o)
    refine ⟨p3, _, rfl, .inl (sqd upd_same), rfl, (by decide +kernel), _, rfl, ?_⟩
    refine ifT (inT (ys := ["div", "mod"]) rfl (by rw [c2, h2] <;> rfl)) ?_
    refine ⟨_, rfl, a, _, 1, _, rfl, rfl, sqt (s3 _ _ _ e1), atI1, (Nat.le_of_ble_eq_true rfl), fun p hp => ?_⟩
    refine q p [x] _ ((s3 _).trans (same_new hp _)) ((s3 _).free hp) upd_same ?_
    rw [ej]
    exact kids1 (hj.mono (Tp.same ((s3 _).trans (same_new hp _))))
  · refine ifF (inT (ys := ["number", "name", "true", "false"]) rfl (by rw [c0, h3] <;> rfl)) ?_
    obtain ⟨ys, e1, hk⟩ := hi.rest h3
    refine ⟨_, rfl, a, _, 0, _, rfl, rfl, sqt (s1 _ _ _ e1), atI0, (Nat.le_of_ble_eq_true rfl), fun p2 hp2 => ?_⟩
    have s2 := fun o => (s1 _).trans (same_new hp2 o)
    refine ⟨p2, _, rfl, .inl (sqd upd_same), rfl, (by decide +kernel), _, rfl, ?_⟩
    refine ifF (inT (ys := ["all", "any"]) rfl (by rw [c1, h3] <;> rfl)) ?_
    refine ⟨_, rfl, a, _, 0, _, rfl, rfl, sqt (s2 _ _ _ e1), atI0, (Nat.le_of_ble_eq_true rfl), fun p3 hp3 => ?_⟩
    have s3 := fun o => (s2 _).trans (same_new hp3 o)
    refine ⟨p3, _, rfl, .inl (sqd upd_same), rfl, (by decide +kernel), _, rfl, ?_⟩
    refine ifF (inT (ys := ["div", "mod"]) rfl (by rw [c2, h3] <;> rfl)) ?_
    refine ⟨_, rfl, 1, rfl, a, _, rfl, sqt (s3 _ _ _ e1), not_whole _ _ _, fun p4 hp4 => ?_⟩
    have s4 := fun o => (s3 _).trans (same_new hp4 o)
    rw [cut_tail]
    refine ⟨_, _, rfl, .inr (sqt upd_same), fun p hp => ?_⟩
    exact q p ys _ ((s4 _).trans (same_new hp _)) ((s4 _).free hp) upd_same (hk.mono (Tp.same ((s4 _).trans (same_new hp _))))
end
end NL

namespace NL
open PySem PySem.Spec PyProof.Rows L2
/-! ### what an expression is worth, by a fact that stays -/
def EvP (te : TE) (σ : L2.St) (H : Hp) (P : V → Hp → Prop) : Prop := ∀ H1, Same H H1 → ∀ Q : VK, (∀ v H2, Same H1 H2 → P v H2 → Q v H2) → te σ H1 Q
def EvA (ta : TA) (σ : L2.St) (H : Hp) (P : List V → Hp → Prop) : Prop := ∀ H1, Same H H1 → ∀ Q : List V → Hp → Prop, (∀ vs H2, Same H1 H2 → P vs H2 → Q vs H2) → ta σ H1 Q
def Mo (P : V → Hp → Prop) : Prop := ∀ v H H', Same H H' → P v H → P v H'
def MoA (P : List V → Hp → Prop) : Prop := ∀ vs H H', Same H H' → P vs H → P vs H'
section
variable {σ : L2.St} {H : Hp} {P P' P1 : V → Hp → Prop} {Pr Pa : List V → Hp → Prop} {te : TE} {ta tr : TA} {v : V} {K : PySem.W.Frag}
theorem evp_imp (h : EvP te σ H P) (g : ∀ v H', Same H H' → P v H' → P' v H') : EvP te σ H P' := fun H1 s Q q => h H1 s Q fun v H2 s2 p => q v H2 s2 (g v H2 (s.trans s2) p)
theorem eva_imp {Pa' : List V → Hp → Prop} (h : EvA ta σ H Pa) (g : ∀ v H', Same H H' → Pa v H' → Pa' v H') : EvA ta σ H Pa' := fun H1 s Q q => h H1 s Q fun v H2 s2 p => q v H2 s2 (g v H2 (s.trans s2) p)
theorem evp_c : EvP (tC v) σ H (fun x _ => x = v) := fun H1 _ Q q => q v H1 (Same.refl H1) rfl
theorem evp_v {i : Nat} (h : σ[i]? = some (some v)) : EvP (tVar i) σ H (fun x _ => x = v) := fun H1 _ Q q => ⟨v, h, q v H1 (Same.refl H1) rfl⟩
theorem eva_nil : EvA tNil σ H (fun vs _ => vs = []) := fun H1 _ Q q => q [] H1 (Same.refl H1) rfl
theorem eva_cons (h : EvP te σ H P) (m : Mo P) (hr : EvA tr σ H Pr) : EvA (tCons te tr) σ H (fun vs H' => ∃ v r, vs = v :: r ∧ P v H' ∧ Pr r H') := fun H1 s Q q =>
  h H1 s _ fun v H2 s2 p => hr H2 (s.trans s2) _ fun r H3 s3 pr => q _ H3 (s2.trans s3) ⟨v, r, rfl, m _ _ _ s3 p, pr⟩
theorem evp_tup (h : EvA ta σ H Pa) (m : MoA Pa) (hl : ∀ vs H', Pa vs H' → vs.length ≤ 1000) : EvP (tTup ta) σ H (fun v H' => ∃ p xs, v = .ref p ∧ H' p = some (.tup xs) ∧ Pa xs H') := fun H1 s Q q =>
  h H1 s _ fun xs H2 s2 pa => ⟨Nat.le_of_lt (small1000 (hl _ _ pa)), fun p hp => q _ _ (s2.trans (same_new hp _)) ⟨p, xs, rfl, upd_same, m _ _ _ (same_new hp _) pa⟩⟩
/-- a tuple of constants and slots: its items -/
theorem evp_fix {xs : List V} (h : EvA ta σ H (fun vs _ => vs = xs)) (hl : xs.length ≤ 1000) : EvP (tTup ta) σ H (fun v H' => ∃ p, v = .ref p ∧ H' p = some (.tup xs)) :=
  evp_imp (evp_tup h (fun _ _ _ _ e => e) (fun vs _ e => by rw [e]; exact hl)) fun v H' _ ⟨p, ys, e, e2, e3⟩ => ⟨p, e, by rw [e2, e3]⟩
theorem eva_c {xs : List V} (hr : EvA tr σ H (fun vs _ => vs = xs)) : EvA (tCons (tC v) tr) σ H (fun vs _ => vs = v :: xs) := fun H1 s Q q => hr H1 s _ fun r H2 s2 e => q _ H2 s2 (by rw [e])
theorem eva_v {i : Nat} {xs : List V} (h : σ[i]? = some (some v)) (hr : EvA tr σ H (fun vs _ => vs = xs)) : EvA (tCons (tVar i) tr) σ H (fun vs _ => vs = v :: xs) := fun H1 s Q q => ⟨v, h, hr H1 s _ fun r H2 s2 e => q _ H2 s2 (by rw [e])⟩
/-- a list of items that are all of one kind -/
def All (n : Nat) (P : V → Hp → Prop) : List V → Hp → Prop := fun vs H => vs.length = n ∧ ∀ v ∈ vs, P v H
theorem all_mo {n : Nat} (m : Mo P) : MoA (All n P) := fun vs H H' s h => ⟨h.1, fun v hv => m v H H' s (h.2 v hv)⟩
theorem eva_all0 : EvA tNil σ H (All 0 P) := eva_imp eva_nil fun vs _ _ e => ⟨by rw [e] <;> rfl, fun v hv => by rw [e] at hv; cases hv⟩
theorem eva_all {n : Nat} (m : Mo P) (h : EvP te σ H P) (hr : EvA tr σ H (All n P)) : EvA (tCons te tr) σ H (All (n + 1) P) := eva_imp (eva_cons h m hr) fun vs H' _ ⟨v, r, e, p, pr⟩ => ⟨by rw [e, List.length_cons, pr.1], fun x hx => by
  rw [e] at hx
  rcases List.mem_cons.mp hx with h | h
  · rw [h]; exact p
  · exact pr.2 x h⟩
theorem evp_lst (h : EvA ta σ H Pa) (m : MoA Pa) (hl : ∀ vs H', Pa vs H' → vs.length ≤ 1000) : EvP (tLst ta) σ H (fun v H' => ∃ p xs, v = .ref p ∧ H' p = some (.lst xs) ∧ Pa xs H' ∧ H p = none) := fun H1 s Q q =>
  h H1 s _ fun xs H2 s2 pa => ⟨Nat.le_of_lt (small1000 (hl _ _ pa)), fun p hp => q _ _ (s2.trans (same_new hp _)) ⟨p, xs, rfl, upd_same, m _ _ _ (same_new hp _) pa, (s.trans s2).free hp⟩⟩
/-- (w,) + both -/
theorem evp_wcat {w : V} {i : Nat} {b : Addr} {xs : List V} (hb : H b = some (.tup xs)) (hx : xs ≠ []) (hl : xs.length ≤ 900) (hi : σ[i]? = some (some (.ref b))) :
    EvP (tOp (rCatA K) (tTup (tCons (tC w) tNil)) (tVar i)) σ H (fun v H' => ∃ p, v = .ref p ∧ H' p = some (.tup (w :: xs))) := fun H1 s Q q => by
  refine ⟨(Nat.le_of_ble_eq_true rfl), fun p hp => ⟨_, hi, p, b, _, _, rfl, rfl, sqt upd_same, sqt (same_new hp _ _ _ (s _ _ hb)), ?_, (fun h => by cases h), fun _ h => absurd h hx, fun _ _ p2 hp2 => ?_⟩⟩
  · rw [List.length_singleton]
    exact Nat.le_of_lt (small1000 (by omega))
  · exact q _ _ ((same_new hp _).trans (same_new hp2 _)) ⟨p2, rfl, upd_same⟩
end
theorem valE {Q : VK} {a b : Int} {H : Hp} (h : a = b) (q : Q (.int b) H) : Q (.int a) H := by rw [h]; exact q
/-! ### items one level deeper -/
def ItP (xs : List Str) (B D S : Nat) : V → Hp → Prop := fun v H => ∃ (i : It) (b : Bool), ItemIn H i v ∧ Okx xs B b i ∧ i.dep = D ∧ i.sz ≤ S
theorem itp_mo {xs : List Str} {B D S : Nat} : Mo (ItP xs B D S) := fun v H H' s ⟨i, b, h, r⟩ => ⟨i, b, h.mono (Tp.same s), r⟩
section
variable {P : Program} {w : World} {K : PySem.W.Frag} {mg : Str → Option Value} {base : Heap}
/-! ### _law_depth -/
def spDepth (n : Nat) : Sp := fun vs H Q _ => ∃ (v : V) (i : It) (xs : List Str) (B : Nat) (b : Bool), vs = [v] ∧ ItemIn H i v ∧ Okx xs B b i ∧ i.dep ≤ n ∧ ∀ H', Same H H' → Q (.int i.dep) H'
theorem kids_dep {i : It} : i.dep = 1 + depL i.kids := by
  cases i <;> simp only [It.dep, It.kids, depL] <;> omega
theorem kids_ok {xs : List Str} {B : Nat} {b : Bool} {i : It} (h : Okx xs B b i) : ∀ j ∈ i.kids, ∃ b', Okx xs B b' j := by
  intro j hj
  cases h <;> simp only [It.kids, List.mem_cons, List.not_mem_nil, or_false] at hj
  case abs h => rw [hj]; exact ⟨_, h⟩
  case not h => rw [hj]; exact ⟨_, h⟩
  case dm h _ _ => rw [hj]; exact ⟨_, h⟩
  case bin h g =>
    rcases hj with e | e <;> rw [e]
    · exact ⟨_, h⟩
    · exact ⟨_, g⟩
  case cmp h g =>
    rcases hj with e | e <;> rw [e]
    · exact ⟨_, h⟩
    · exact ⟨_, g⟩
  case tri h g k =>
    rcases hj with e | e | e <;> rw [e]
    · exact ⟨_, h⟩
    · exact ⟨_, g⟩
    · exact ⟨_, k⟩
  case grp h => exact ⟨_, h j hj⟩
theorem kids_len {xs : List Str} {B : Nat} {b : Bool} {i : It} (h : Okx xs B b i) : i.kids.length ≤ 100 := by
  cases h <;> simp only [It.kids, List.length_cons, List.length_nil] <;> omega
theorem depL_in {l : List It} {i : It} (h : i ∈ l) : i.dep ≤ depL l := by
  induction l with
  | nil => cases h
  | cons a r ih =>
    rw [depL]
    rcases List.mem_cons.mp h with e | e
    · rw [e]; omega
    · have := ih e
      omega
theorem depL_max : ∀ l : List It, (∀ y ∈ (0 :: l.map fun i => (i.dep : Int)), y ≤ (depL l : Int)) ∧ (depL l : Int) ∈ (0 :: l.map fun i => (i.dep : Int))
  | [] => by
    rw [depL]
    refine ⟨fun y hy => ?_, List.mem_cons_self⟩
    rcases List.mem_cons.mp hy with h | h
    · rw [h]; exact Int.le_refl 0
    · cases h
  | a :: r => by
    obtain ⟨h1, h2⟩ := depL_max r
    rw [depL]
    refine ⟨fun y hy => ?_, ?_⟩
    · rw [List.map_cons] at hy
      rcases List.mem_cons.mp hy with h | h
      · omega
      · rcases List.mem_cons.mp h with h | h
        · omega
        · have := h1 y (List.mem_cons_of_mem _ h)
          omega
    · rw [List.map_cons]
      rcases Nat.le_total a.dep (depL r) with h | h
      · rw [Nat.max_eq_right h]
        rcases List.mem_cons.mp h2 with g | g
        · rw [g]; exact List.mem_cons_self
        · exact List.mem_cons_of_mem _ (List.mem_cons_of_mem _ g)
      · rw [Nat.max_eq_left h]
        exact List.mem_cons_of_mem _ List.mem_cons_self
theorem ok_law_depth (T : Txt K mg) : ∀ n : Nat, FnOk P w K mg base CX0 (n + 2) T.a_law_depth T.d_law_depth P_law_depth (spDepth n)
  | 0 => by
    have no : ∀ vs H Q E, ¬ spDepth 0 vs H Q E := fun vs H Q E ⟨v, i, xs, B, b, _, _, _, h, _⟩ => by
      have := dep_pos i
      omega
    exact ⟨fun vs H Q E h => absurd h (no vs H Q E), fun A outer s H args us vs Q E _ _ _ _ h => absurd h (no vs H Q E)⟩
  | n + 1 => by
    have G_law_depth := ok_law_depth T n
    have G_law_inner := ok_law_inner (P := P) (w := w) (base := base) T
    refine T.F_law_depth.ok sc_law_depth (fun vs H Q E h => ?_) (fun cdv A outer s H vs Q E hr h => ?_)
    · obtain ⟨v, i, xs, B, b, rfl, _⟩ := h
      rfl
    obtain ⟨v, i, xs, B, b, rfl, hi, ho, hd, q⟩ := h
    refine ⟨_, (pss_one (ps_ret (pe_op op_add pe_int (pe_callB (cr_max rfl) (by rfl) T.z_max (by decide +kernel) (pa_cons (pe_op op_cat (pe_lst (pa_cons pe_int pa_nil)) (pe_lc (own := [("part", 1)]) (g := (gName 1)) (tt := tYes) rfl sc_law_depth.nd (pi_list (pe_call G_law_inner (hr.mono (by omega)) (by rfl) T.m_law_inner T.F_law_inner.kp T.b_law_inner .nil pass0 (pa_cons (pv 0) pa_nil))) (blkOk_by (N := N_law_depth) (sc := defScope s_law_depth) (by decide +kernel)) (fun _ _ _ _ _ => (pg_name (i := 1) sc_law_depth.nd rfl (Or.inl rfl))) (fun _ _ _ _ _ => pts_nil) (fun _ _ _ _ _ => (pe_call G_law_depth (hr.mono (by omega)) (by rfl) T.m_law_depth T.F_law_depth.kp T.b_law_depth .nil pass0 (pa_cons (pv 1) pa_nil))))) pa_nil))))), ?_⟩
    refine ⟨(Nat.le_of_ble_eq_true rfl), fun p1 hp1 => ?_⟩
    have s1 := fun o => same_new hp1 o
    refine ⟨_, rfl, v, i, xs, B, b, rfl, hi.mono (Tp.same (s1 _)), ho, fun lp ys H2 s2 hlp e2 hk => ?_⟩
    refine ⟨lp, rfl, ⟨_, sqd e2⟩, fun D hD => ?_⟩
    have e1 := s2 p1 _ upd_same
    have n1D : p1 ≠ D := ne_of_none e1 hD
    have hkd := @kids_dep i
    refine lc_list (K := K) (a := lp) (xs := ys) (fun (j : Nat) (H' : Hp) => Same H2 H' ∧ H' D = some (.lst ((i.kids.take j).map fun k => V.int k.dep))) ?_ ?_ ?_ ?_
    · exact ⟨same_new hD _, by rw [upd_same, List.take_zero]; rfl⟩
    · rintro j H' _ ⟨s3, _⟩
      exact sqd (s3 _ _ e2)
    · rintro j x H' hx ⟨s3, e3⟩
      obtain ⟨kj, hkj, hin, hmem⟩ := hk.get hx
      obtain ⟨b', ho'⟩ := kids_ok ho kj hmem
      have hdj := depL_in hmem
      refine ⟨rfl, yes_if ?_⟩
      refine ⟨_, rfl, _, kj, xs, B, b', rfl, hin.mono (Tp.same s3), ho', by omega, fun H4 s4 => ?_⟩
      refine ⟨_, s4 _ _ e3, ?_, same_put (s3.trans s4) hD, ?_⟩
      · rw [List.length_map, List.length_take]
        have := kids_len ho
        exact small1000 (by omega)
      · rw [upd_same, List.take_add_one, hkj, List.map_append]
        rfl
    · rintro H3 ⟨s3, e3⟩
      rw [hk.1, List.take_length] at e3
      have hkl := kids_len ho
      refine ⟨p1, D, _, _, rfl, rfl, s3 _ _ e1, e3, ?_, fun p4 hp4 => ?_⟩
      · rw [List.length_map, List.length_singleton]
        exact Nat.le_of_lt (small1000 (by omega))
      · refine ⟨p4, 0 :: i.kids.map (fun k => (k.dep : Int)), rfl, sqd ?_, Nat.succ_pos _, fun m hm hmx => ?_⟩
        · rw [upd_same, List.map_cons, List.map_map]
          rfl
        · obtain ⟨g1, g2⟩ := depL_max i.kids
          have h1 := g1 m hm
          have h2 := hmx _ g2
          have e : 1 + m = (i.dep : Int) := by omega
          refine ⟨_, _, rfl, rfl, ?_⟩
          exact valE e (q _ ((s1 _).trans (s2.trans (s3.trans (same_new hp4 _)))))
end
end NL

namespace NL
open PySem PySem.Spec PyProof.Rows L2
theorem gn {i : Nat} {v : V} {σ : L2.St} {H : Hp} {Q : L2.St → Hp → Prop} (h : Q (σ.set i (some v)) H) : gName i v σ H Q := h
theorem r_seq {t u : TS} {D : Ends} {σ : L2.St} {H : Hp} (h : t { D with nx := u D } σ H) : tSeq t u D σ H := h
theorem r_asg {te : TE} {g : TG} {D : Ends} {σ : L2.St} {H : Hp} (h : te σ H fun x H1 => g x σ H1 D.nx) : tAsg te g D σ H := h
theorem r_op {r : R2} {ta tb : TE} {σ : L2.St} {H : Hp} {Q : VK} (h : ta σ H fun x H1 => tb σ H1 fun y H2 => r x y H2 Q) : tOp r ta tb σ H Q := h
theorem mo_eq {v : V} : Mo (fun x _ => x = v) := fun _ _ _ _ e => e
theorem moa_eq {xs : List V} : MoA (fun vs _ => vs = xs) := fun _ _ _ _ e => e
theorem moa_cons {P : V → Hp → Prop} {Pr : List V → Hp → Prop} (m : Mo P) (g : MoA Pr) : MoA (fun vs H' => ∃ v r, vs = v :: r ∧ P v H' ∧ Pr r H') := fun _ _ _ s ⟨v, r, e, p, q⟩ => ⟨v, r, e, m _ _ _ s p, g _ _ _ s q⟩
/-- a tuple of these items is at v -/
abbrev TupP (xs : List V) : V → Hp → Prop := fun v H => ∃ p, v = .ref p ∧ H p = some (.tup xs)
theorem mo_tup {xs : List V} : Mo (TupP xs) := fun _ _ _ s ⟨p, e, h⟩ => ⟨p, e, s _ _ h⟩
section
variable {σ : L2.St} {H : Hp} {v sv : V} {i si : It} {xs : List Str} {B : Nat} {K : PySem.W.Frag}
theorem p_abs (hv : σ[0]? = some (some v)) (hi : ItemIn H i v) (ho : Okx xs B false i) : EvP (tTup (tCons (tC (.str "abs")) (tCons (tVar 0) tNil))) σ H (ItP xs B (i.dep + 1) (i.sz + 3)) :=
  evp_imp (evp_fix (eva_c (eva_v hv eva_nil)) (Nat.le_of_ble_eq_true rfl)) fun x H' s ⟨p, e, h⟩ => ⟨.un "abs" i, false, by rw [e]; exact .un h (hi.mono (Tp.same s)), .abs ho, by rw [It.dep]; omega, by rw [It.sz]; omega⟩
theorem p_not (hv : σ[0]? = some (some v)) (hi : ItemIn H i v) (ho : Okx xs B true i) : EvP (tTup (tCons (tC (.str "not")) (tCons (tVar 0) tNil))) σ H (ItP xs B (i.dep + 1) (i.sz + 3)) :=
  evp_imp (evp_fix (eva_c (eva_v hv eva_nil)) (Nat.le_of_ble_eq_true rfl)) fun x H' s ⟨p, e, h⟩ => ⟨.un "not" i, true, by rw [e]; exact .un h (hi.mono (Tp.same s)), .not ho, by rw [It.dep]; omega, by rw [It.sz]; omega⟩
theorem p_dm {w : Str} {n : Int} (hw : w ∈ (["div", "mod"] : List Str)) (hn : 1 ≤ n ∧ n.natAbs ≤ B + 1) (hv : σ[0]? = some (some v)) (hi : ItemIn H i v) (ho : Okx xs B false i) : EvP (tTup (tCons (tC (.str w)) (tCons (tVar 0) (tCons (tC (.int n)) tNil)))) σ H (ItP xs B (i.dep + 1) (i.sz + 3)) :=
  evp_imp (evp_fix (eva_c (eva_v hv (eva_c eva_nil))) (Nat.le_of_ble_eq_true rfl)) fun x H' s ⟨p, e, h⟩ => ⟨.dm w i n, false, by rw [e]; exact .dm h (hi.mono (Tp.same s)), .dm hw ho hn.1 hn.2, by rw [It.dep]; omega, by rw [It.sz]; omega⟩
theorem p_bin {w : Str} {k : Nat} {b : Addr} {ys : List V} (hb : H b = some (.tup ys)) (hys : ys = [v, sv] ∨ ys = [sv, v]) (hσ : σ[k]? = some (some (.ref b))) (hi : ItemIn H i v) (hsi : ItemIn H si sv) (ho : Okx xs B false i) (hso : Okx xs B false si) (hd : si.dep = 1) (hz : si.sz = 1)
    (hw : w ∈ (["add", "sub", "mul", "min", "max", "less", "equal"] : List Str)) : EvP (tOp (rCatA K) (tTup (tCons (tC (.str w)) tNil)) (tVar k)) σ H (ItP xs B (i.dep + 1) (i.sz + 3)) := by
  have hp := dep_pos i
  have hl : ys.length = 2 := by rcases hys with e | e <;> rw [e] <;> rfl
  refine evp_imp (evp_wcat hb (by intro h; rw [h] at hl; cases hl) (by omega) hσ) fun x H' s ⟨p, e, h⟩ => ?_
  have hok : ∀ a b, Okx xs B false a → Okx xs B false b → ∃ t, Okx xs B t (.bin w a b) := fun a b ha hb => by
    by_cases h7 : w ∈ (["less", "equal"] : List Str)
    · exact ⟨_, .cmp h7 ha hb⟩
    · refine ⟨_, .bin ?_ ha hb⟩
      simp only [List.mem_cons, List.not_mem_nil, or_false] at hw h7 ⊢
      rcases hw with h | h | h | h | h | h | h
      · exact .inl h
      · exact .inr (.inl h)
      · exact .inr (.inr (.inl h))
      · exact .inr (.inr (.inr (.inl h)))
      · exact .inr (.inr (.inr (.inr h)))
      · exact absurd (.inl h) h7
      · exact absurd (.inr h) h7
  have hi' := hi.mono (Tp.same s)
  have hsi' := hsi.mono (Tp.same s)
  rw [e]
  rcases hys with ey | ey
  · rw [ey] at h
    obtain ⟨t, ht⟩ := hok i si ho hso
    exact ⟨.bin w i si, t, .bin h hi' hsi', ht, by rw [It.dep]; omega, by rw [It.sz]; omega⟩
  · rw [ey] at h
    obtain ⟨t, ht⟩ := hok si i hso ho
    exact ⟨.bin w si i, t, .bin h hsi' hi', ht, by rw [It.dep]; omega, by rw [It.sz]; omega⟩
theorem p_if1 (hv : σ[0]? = some (some v)) (hs : σ[1]? = some (some sv)) (hi : ItemIn H i v) (hsi : ItemIn H si sv) (ho : Okx xs B false i) (hso : Okx xs B false si) (hd : si.dep = 1) (hz : si.sz = 1) :
    EvP (tTup (tCons (tC (.str "if")) (tCons (tTup (tCons (tC (.str "true")) tNil)) (tCons (tVar 0) (tCons (tVar 1) tNil))))) σ H (ItP xs B (i.dep + 1) (i.sz + 3)) := by
  have hp := dep_pos i
  refine evp_imp (evp_tup (eva_cons evp_c mo_eq (eva_cons (evp_fix (eva_c eva_nil) (Nat.le_of_ble_eq_true rfl)) mo_tup (eva_v hv (eva_v hs eva_nil)))) (moa_cons mo_eq (moa_cons mo_tup moa_eq)) ?_) ?_
  · rintro vs H' ⟨_, _, rfl, _, _, _, rfl, _, rfl⟩
    exact Nat.le_of_ble_eq_true rfl
  · rintro x H' s ⟨p, _, rfl, h, _, _, rfl, rfl, _, _, rfl, ⟨p2, rfl, h2⟩, rfl⟩
    refine ⟨.tri (.lit true) i si, false, .tri h (.lit h2) (hi.mono (Tp.same s)) (hsi.mono (Tp.same s)), .tri .lit ho hso, ?_, ?_⟩
    · simp only [It.dep]; omega
    · simp only [It.sz]; omega
theorem p_if2 (hv : σ[0]? = some (some v)) (hs : σ[1]? = some (some sv)) (hi : ItemIn H i v) (hsi : ItemIn H si sv) (ho : Okx xs B false i) (hso : Okx xs B false si) (hd : si.dep = 1) (hz : si.sz = 1) :
    EvP (tTup (tCons (tC (.str "if")) (tCons (tTup (tCons (tC (.str "false")) tNil)) (tCons (tVar 1) (tCons (tVar 0) tNil))))) σ H (ItP xs B (i.dep + 1) (i.sz + 3)) := by
  have hp := dep_pos i
  refine evp_imp (evp_tup (eva_cons evp_c mo_eq (eva_cons (evp_fix (eva_c eva_nil) (Nat.le_of_ble_eq_true rfl)) mo_tup (eva_v hs (eva_v hv eva_nil)))) (moa_cons mo_eq (moa_cons mo_tup moa_eq)) ?_) ?_
  · rintro vs H' ⟨_, _, rfl, _, _, _, rfl, _, rfl⟩
    exact Nat.le_of_ble_eq_true rfl
  · rintro x H' s ⟨p, _, rfl, h, _, _, rfl, rfl, _, _, rfl, ⟨p2, rfl, h2⟩, rfl⟩
    refine ⟨.tri (.lit false) si i, false, .tri h (.lit h2) (hsi.mono (Tp.same s)) (hi.mono (Tp.same s)), .tri .lit hso ho, ?_, ?_⟩
    · simp only [It.dep]; omega
    · simp only [It.sz]; omega
theorem p_if3 (hv : σ[0]? = some (some v)) (hs : σ[1]? = some (some sv)) (hi : ItemIn H i v) (hsi : ItemIn H si sv) (ho : Okx xs B true i) (hso : Okx xs B false si) (hd : si.dep = 1) (hz : si.sz = 1) :
    EvP (tTup (tCons (tC (.str "if")) (tCons (tVar 0) (tCons (tVar 1) (tCons (tVar 1) tNil))))) σ H (ItP xs B (i.dep + 1) (i.sz + 3)) :=
  have hp := dep_pos i
  evp_imp (evp_fix (eva_c (eva_v hv (eva_v hs (eva_v hs eva_nil)))) (Nat.le_of_ble_eq_true rfl)) fun x H' s ⟨p, e, h⟩ => ⟨.tri i si si, false, by rw [e]; exact .tri h (hi.mono (Tp.same s)) (hsi.mono (Tp.same s)) (hsi.mono (Tp.same s)), .tri ho hso hso, by rw [It.dep]; omega, by rw [It.sz]; omega⟩
/-- the parts of a group -/
def GrP (xs : List Str) (B N D S : Nat) : V → Hp → Prop := fun x H => ∃ p ys l, x = .ref p ∧ H p = some (.tup ys) ∧ Kids H l ys ∧ (∀ j ∈ l, Okx xs B true j) ∧ depL l = D ∧ szL l ≤ S ∧ l.length ≤ N
theorem grp_mo {N D S : Nat} : Mo (GrP xs B N D S) := fun _ _ _ s ⟨p, ys, l, e, h, k, r⟩ => ⟨p, ys, l, e, s _ _ h, k.mono (Tp.same s), r⟩
theorem p_parts1 (hv : σ[0]? = some (some v)) (hi : ItemIn H i v) (ho : Okx xs B true i) : EvP (tTup (tCons (tVar 0) (tCons (tTup (tCons (tC (.str "true")) tNil)) tNil))) σ H (GrP xs B 2 i.dep (i.sz + 1)) := by
  have hp := dep_pos i
  refine evp_imp (evp_tup (eva_cons (evp_v hv) mo_eq (eva_cons (evp_fix (eva_c eva_nil) (Nat.le_of_ble_eq_true rfl)) mo_tup eva_nil)) (moa_cons mo_eq (moa_cons mo_tup moa_eq)) ?_) ?_
  · rintro vs H' ⟨_, _, rfl, _, _, _, rfl, _, rfl⟩
    exact Nat.le_of_ble_eq_true rfl
  · rintro x H' s ⟨p, _, rfl, h, _, _, rfl, rfl, _, _, rfl, ⟨p2, rfl, h2⟩, rfl⟩
    refine ⟨p, _, [i, .lit true], rfl, h, .cons (hi.mono (Tp.same s)) (kids1 (.lit h2)), ?_, ?_, ?_, Nat.le_refl 2⟩
    · intro j hj
      simp only [List.mem_cons, List.not_mem_nil, or_false] at hj
      rcases hj with e | e <;> rw [e]
      · exact ho
      · exact .lit
    · simp only [depL, It.dep]; omega
    · simp only [szL, It.sz]; omega
theorem p_parts2 (hv : σ[0]? = some (some v)) (hi : ItemIn H i v) (ho : Okx xs B true i) : EvP (tTup (tCons (tTup (tCons (tC (.str "false")) tNil)) (tCons (tVar 0) tNil))) σ H (GrP xs B 2 i.dep (i.sz + 1)) := by
  have hp := dep_pos i
  refine evp_imp (evp_tup (eva_cons (evp_fix (eva_c eva_nil) (Nat.le_of_ble_eq_true rfl)) mo_tup (eva_v hv eva_nil)) (moa_cons mo_tup moa_eq) ?_) ?_
  · rintro vs H' ⟨_, _, rfl, _, rfl⟩
    exact Nat.le_of_ble_eq_true rfl
  · rintro x H' s ⟨p, _, rfl, h, _, _, rfl, ⟨p2, rfl, h2⟩, rfl⟩
    refine ⟨p, _, [.lit false, i], rfl, h, .cons (.lit h2) (kids1 (hi.mono (Tp.same s))), ?_, ?_, ?_, Nat.le_refl 2⟩
    · intro j hj
      simp only [List.mem_cons, List.not_mem_nil, or_false] at hj
      rcases hj with e | e <;> rw [e]
      · exact .lit
      · exact ho
    · simp only [depL, It.dep]; omega
    · simp only [szL, It.sz]; omega
theorem p_grp {w : Str} {k : Nat} {gv : V} {D S : Nat} (hw : w ∈ (["all", "any"] : List Str)) (hg : GrP xs B 3 D S gv H) (hσ : σ[k]? = some (some gv)) : EvP (tTup (tCons (tC (.str w)) (tCons (tVar k) tNil))) σ H (ItP xs B (D + 1) (S + 1)) := by
  obtain ⟨b, ys, l, rfl, hb, hk, hok, hd, hs, h3⟩ := hg
  refine evp_imp (evp_fix (eva_c (eva_v hσ eva_nil)) (Nat.le_of_ble_eq_true rfl)) fun x H' s ⟨p, e, h⟩ => ⟨.grp w l, true, ?_, .grp hw (by omega) hok, by rw [It.dep]; omega, by rw [It.sz]; omega⟩
  have hk' := hk.mono (Tp.same s)
  rw [e]
  exact .grp h (s _ _ hb) hk'.1 hk'.2
theorem itp_le {D S S' : Nat} {x : V} (h : ItP xs B D S x H) (hs : S ≤ S') : ItP xs B D S' x H := by
  obtain ⟨i, b, a, c, d, e⟩ := h
  exact ⟨i, b, a, c, d, Nat.le_trans e hs⟩
/-- the two orders of an item and its side -/
def BothP (v sv : V) : V → Hp → Prop := fun x H => ∃ p ys, x = .ref p ∧ H p = some (.tup ys) ∧ (ys = [v, sv] ∨ ys = [sv, v])
theorem both_mo : Mo (BothP v sv) := fun _ _ _ s ⟨p, ys, e, h, r⟩ => ⟨p, ys, e, s _ _ h, r⟩
theorem p_both (hv : σ[0]? = some (some v)) (hs : σ[1]? = some (some sv)) : EvP (tLst (tCons (tTup (tCons (tVar 0) (tCons (tVar 1) tNil))) (tCons (tTup (tCons (tVar 1) (tCons (tVar 0) tNil))) tNil))) σ H (fun v' H' => ∃ p ys, v' = .ref p ∧ H' p = some (.lst ys) ∧ All 2 (BothP v sv) ys H' ∧ H p = none) :=
  evp_lst (eva_all both_mo (evp_imp (evp_fix (eva_v hv (eva_v hs eva_nil)) (Nat.le_of_ble_eq_true rfl)) fun x H' _ ⟨p, e, h⟩ => ⟨p, _, e, h, .inl rfl⟩)
    (eva_all both_mo (evp_imp (evp_fix (eva_v hs (eva_v hv eva_nil)) (Nat.le_of_ble_eq_true rfl)) fun x H' _ ⟨p, e, h⟩ => ⟨p, _, e, h, .inr rfl⟩) eva_all0)) (all_mo both_mo) fun vs H' h => by rw [h.1]; exact (Nat.le_of_ble_eq_true rfl)
end
section
variable {P : Program} {w : World} {K : PySem.W.Frag} {mg : Str → Option Value} {base : Heap}
/-! ### _law_around -/
def spAround : Sp := fun vs H Q _ => ∃ (v sv : V) (i si : It) (xs : List Str) (B : Nat) (b : Bool) (m t : Int), vs = [v, sv, .int m, .int t] ∧ ItemIn H i v ∧ Okx xs B b i ∧ ItemIn H si sv ∧ Okx xs B false si ∧ si.dep = 1 ∧ si.sz = 1 ∧ 100 ≤ B ∧ -1000 ≤ m ∧ m ≤ 1000 ∧
  ∀ v' i' b' H', Same H H' → ItemIn H' i' v' → Okx xs B b' i' → i'.dep = i.dep + m.toNat → i'.sz ≤ i.sz + 5 * m.toNat → Q v' H'
theorem ok_law_around (T : Txt K mg) : FnOk P w K mg base CX0 2 T.a_law_around T.d_law_around P_law_around spAround := by
  have G_law_is_test := ok_law_is_test (P := P) (w := w) (base := base) T
  refine T.F_law_around.ok sc_law_around (fun vs H Q E h => ?_) (fun cdv A outer s H vs Q E hr h => ?_)
  · obtain ⟨v, sv, i, si, xs, B, b, m, t, rfl, _⟩ := h
    rfl
  obtain ⟨v, sv, i, si, xs, B, b, m, t, rfl, hi, ho, hsi, hso, hsd, hsz, hB, m0, m1, q⟩ := h
  refine ⟨_, (pss_cons (ps_for  PassesOwn.never rfl (pi_range1 (by rfl) T.z_range (pa_cons (pv 2) pa_nil)) (pg_name (i := 4) sc_law_around.nd rfl (Or.inl rfl))
    (pss_cons (ps_set (i := 5) sc_law_around.nd rfl (Or.inl rfl) (pe_ix ix_list (pe_lst (pa_cons (pe_tup (pa_cons (pv 0) (pa_cons (pv 1) pa_nil))) (pa_cons (pe_tup (pa_cons (pv 1) (pa_cons (pv 0) pa_nil))) pa_nil))) (pe_op op_mod (pe_callTy call_int1 (by rfl) T.z_int (by decide +kernel) (pa_cons (pe_op op_add (pe_op op_fdiv (pv 3) pe_int) (pv 4)) pa_nil)) pe_int) (fun _ _ => rfl)))
    (pss_one (ps_if (pt_val (pe_call G_law_is_test (hr.mono (by omega)) (by rfl) T.m_law_is_test T.F_law_is_test.kp T.b_law_is_test .nil pass0 (pa_cons (pv 0) pa_nil)))
    (pss_cons (ps_set (i := 6) sc_law_around.nd rfl (Or.inl rfl) (pe_ix ix_list (pe_lst (pa_cons (pe_tup (pa_cons (pv 0) (pa_cons (pe_tup (pa_cons pe_str pa_nil)) pa_nil))) (pa_cons (pe_tup (pa_cons (pe_tup (pa_cons pe_str pa_nil)) (pa_cons (pv 0) pa_nil))) pa_nil))) (pe_op op_mod (pe_callTy call_int1 (by rfl) T.z_int (by decide +kernel) (pa_cons (pe_op op_add (pe_op op_fdiv (pv 3) pe_int) (pv 4)) pa_nil)) pe_int) (fun _ _ => rfl)))
    (C8.pss_cut (ps_if (pt_cmpR op_lt (pv 2) pe_int (nomark _))
    (pss_one (ps_set (i := 6) sc_law_around.nd rfl (Or.inl rfl) (pe_op op_catA (pe_tup (pa_cons (pe_tup (pa_cons pe_str pa_nil)) pa_nil)) (pv 6))))
    pss_nil)
    (pss_one (ps_set (i := 0) sc_law_around.nd rfl (Or.inl rfl) (pe_ix ix_list (pe_lst (pa_cons (pe_tup (pa_cons pe_str (pa_cons (pv 0) pa_nil))) (pa_cons (pe_tup (pa_cons pe_str (pa_cons (pv 6) pa_nil))) (pa_cons (pe_tup (pa_cons pe_str (pa_cons (pv 6) pa_nil))) (pa_cons (pe_tup (pa_cons pe_str (pa_cons (pv 0) (pa_cons (pv 1) (pa_cons (pv 1) pa_nil))))) pa_nil))))) (pe_op op_mod (pe_callTy call_int1 (by rfl) T.z_int (by decide +kernel) (pa_cons (pe_op op_add (pv 3) (pv 4)) pa_nil)) pe_int) (fun _ _ => rfl))))))
    (pss_cons (ps_set (i := 7) sc_law_around.nd rfl (Or.inl rfl) (pe_lst (pa_cons (pe_tup (pa_cons pe_str (pa_cons (pv 0) pa_nil))) (pa_cons (pe_op op_catA (pe_tup (pa_cons pe_str pa_nil)) (pv 5)) (pa_cons (pe_op op_catA (pe_tup (pa_cons pe_str pa_nil)) (pv 5)) (pa_cons (pe_op op_catA (pe_tup (pa_cons pe_str pa_nil)) (pv 5)) (pa_cons (pe_op op_catA (pe_tup (pa_cons pe_str pa_nil)) (pv 5)) (pa_cons (pe_op op_catA (pe_tup (pa_cons pe_str pa_nil)) (pv 5)) pa_nil))))))))
    (pss_cons (ps_set (i := 7) sc_law_around.nd rfl (Or.inl rfl) (pe_op op_cat (pv 7) (pe_lst (pa_cons (pe_tup (pa_cons pe_str (pa_cons (pv 0) (pa_cons pe_int pa_nil)))) (pa_cons (pe_tup (pa_cons pe_str (pa_cons (pv 0) (pa_cons pe_int pa_nil)))) (pa_cons (pe_tup (pa_cons pe_str (pa_cons (pe_tup (pa_cons pe_str pa_nil)) (pa_cons (pv 0) (pa_cons (pv 1) pa_nil))))) pa_nil))))))
    (pss_cons (ps_set (i := 7) sc_law_around.nd rfl (Or.inl rfl) (pe_op op_cat (pv 7) (pe_lst (pa_cons (pe_tup (pa_cons pe_str (pa_cons (pe_tup (pa_cons pe_str pa_nil)) (pa_cons (pv 1) (pa_cons (pv 0) pa_nil))))) (pa_cons (pe_op op_catA (pe_tup (pa_cons pe_str pa_nil)) (pv 5)) (pa_cons (pe_op op_catA (pe_tup (pa_cons pe_str pa_nil)) (pv 5)) pa_nil))))))
    (pss_one (ps_set (i := 0) sc_law_around.nd rfl (Or.inl rfl) (pe_ix ix_list (pv 7) (pe_op op_mod (pe_callTy call_int1 (by rfl) T.z_int (by decide +kernel) (pa_cons (pe_op op_add (pv 3) (pe_op op_mul (pv 4) pe_int)) pa_nil)) pe_int) (fun _ _ => rfl)))))))))))
    (pss_one (ps_ret (pv 0)))), ?_⟩
  refine ⟨_, rfl, m, rfl, by omega, by omega, for_range (lo := 0) (n := m.toNat) (fun (j : Nat) (σ : L2.St) (H' : Hp) => ∃ (v : V) (i' : It) (b' : Bool) (y1 y2 y3 y4 : Option V), σ = [some v, some sv, some (.int m), some (.int t), y1, y2, y3, y4] ∧ Same H H' ∧ ItemIn H' i' v ∧ Okx xs B b' i' ∧ i'.dep = i.dep + j ∧ i'.sz ≤ i.sz + 5 * j) ?_ ?_ ?_⟩
  · exact ⟨v, i, b, none, none, none, none, rfl, Same.refl H, hi, ho, rfl, Nat.le_refl _⟩
  · rintro j σ H1 hj ⟨v, i', b', y1, y2, y3, y4, rfl, s1, hi', ho', hd', hz'⟩
    -- both
    refine gn (r_seq (r_asg (r_op ?_)))
    refine p_both (v := v) (sv := sv) (σ := [some v, some sv, some (.int m), some (.int t), some (.int (0 + (j : Int))), y2, y3, y4]) rfl rfl H1 (Same.refl H1) _ fun u H2 s2 hu => ?_
    obtain ⟨p, ys, rfl, e2, ⟨yl, yall⟩, _⟩ := hu
    have two := fun z : Int => (⟨Int.emod_nonneg z (by decide : (2 : Int) ≠ 0), Int.emod_lt_of_pos z (by decide)⟩ : 0 ≤ z % 2 ∧ z % 2 < 2)
    obtain ⟨bv, hbv, hbm⟩ := atI_mem (xs := ys) (two (t / 12 + (0 + (j : Int)))).1 (by rw [yl]; exact (two _).2)
    refine ⟨_, rfl, _, _, rfl, rfl, ⟨by decide, by decide⟩, _, rfl, _, _, rfl, rfl, .inl ⟨_, rfl, _, _, rfl, rfl, (by show (0 : Int) < 2; decide), _, _, _, _, rfl, rfl, sqd e2, hbv, ?_⟩⟩
    obtain ⟨bp, bys, rfl, ebp, hbys⟩ := yall bv hbm
    have hsi2 := hsi.mono (Tp.same (s1.trans s2))
    have hi2 := hi'.mono (Tp.same s2)
    refine ⟨_, rfl, v, i', xs, B, b', rfl, hi2, ho', fun H3 s3 => ⟨b', rfl, ?_⟩⟩
    have hi3 := hi2.mono (Tp.same s3)
    have hsi3 := hsi2.mono (Tp.same s3)
    cases b' with
    | true =>
      refine iteT ?_
      -- parts
      refine r_seq (r_asg (r_op ?_))
      refine (evp_lst (σ := [some v, some sv, some (.int m), some (.int t), some (.int (0 + (j : Int))), some (.ref bp), y3, y4]) (eva_all grp_mo (p_parts1 rfl hi3 ho') (eva_all grp_mo (p_parts2 rfl hi3 ho') eva_all0)) (all_mo grp_mo) fun vs H' h => by rw [h.1]; exact (Nat.le_of_ble_eq_true rfl)) H3 (Same.refl H3) _ fun u H4 s4 hu => ?_
      obtain ⟨p4, ys4, rfl, e4, ⟨yl4, yall4⟩, _⟩ := hu
      obtain ⟨gv, hgv, hgm⟩ := atI_mem (xs := ys4) (two (t / 12 + (0 + (j : Int)))).1 (by rw [yl4]; exact (two _).2)
      refine ⟨_, rfl, _, _, rfl, rfl, ⟨by decide, by decide⟩, _, rfl, _, _, rfl, rfl, .inl ⟨_, rfl, _, _, rfl, rfl, (by show (0 : Int) < 2; decide), _, _, _, _, rfl, rfl, sqd e4, hgv, ?_⟩⟩
      obtain ⟨gb, gys, gl, rfl, eg, hk, hok, hgd, hgs, hgl⟩ := yall4 gv hgm
      have hp := dep_pos i'
      refine ⟨fun σ H5 => ∃ gv, σ = [some v, some sv, some (.int m), some (.int t), some (.int (0 + (j : Int))), some (.ref bp), some gv, y4] ∧ Same H4 H5 ∧ GrP xs B 3 i'.dep (i'.sz + 2) gv H5, ?_, ?_⟩
      · refine ⟨_, rfl, _, _, rfl, rfl, _, rfl, ?_⟩
        refine ite2 (fun c => ?_) (fun c => ?_)
        · refine ⟨(Nat.le_of_ble_eq_true rfl), fun p5 hp5 => ⟨(Nat.le_of_ble_eq_true rfl), fun p6 hp6 => ⟨_, rfl, p6, gb, _, _, rfl, rfl, sqt upd_same, sqt (((same_new hp5 _).trans (same_new hp6 _)) _ _ eg), ?_, (fun h => by cases h), (fun _ h => ?_), fun _ _ p7 hp7 => ?_⟩⟩⟩
          · rw [List.length_singleton, hk.1]
            exact Nat.le_of_lt (small1000 (by omega))
          · have h0 := hk.1
            rw [h] at h0
            have : gl = [] := List.length_eq_zero_iff.mp h0.symm
            rw [this] at hgd
            simp only [depL] at hgd
            omega
          · have s56 := fun o => ((same_new hp5 _).trans (same_new hp6 _)).trans (same_new hp7 o)
            have n56 : p5 ≠ p6 := ne_of_none upd_same hp6
            have n57 : p5 ≠ p7 := ne_of_none (by rw [upd_ne n56]; exact upd_same) hp7
            refine ⟨_, rfl, s56 _, p7, _, .lit true :: gl, rfl, upd_same, .cons (.lit (by rw [upd_ne n57, upd_ne n56]; exact upd_same)) (hk.mono (Tp.same (s56 _))), ?_, ?_, ?_, ?_⟩
            · intro z hz
              rcases List.mem_cons.mp hz with e | e
              · rw [e]; exact .lit
              · exact hok z e
            · simp only [depL, It.dep]; omega
            · simp only [szL, It.sz]; omega
            · rw [List.length_cons]; omega
        · exact ⟨_, rfl, Same.refl H4, gb, gys, gl, rfl, eg, hk, hok, hgd, by omega, by omega⟩
      · rintro σ5 H5 ⟨gv, rfl, s5, hg⟩
        have s35 := s4.trans s5
        have hi5 := hi3.mono (Tp.same s35)
        have hsi5 := hsi3.mono (Tp.same s35)
        refine r_asg (r_op ?_)
        refine (evp_lst (σ := [some v, some sv, some (.int m), some (.int t), some (.int (0 + (j : Int))), some (.ref bp), some gv, y4]) (eva_all itp_mo (p_not rfl hi5 ho') (eva_all itp_mo (p_grp (w := "all") (by decide +kernel) hg rfl) (eva_all itp_mo (p_grp (w := "any") (by decide +kernel) hg rfl) (eva_all itp_mo (p_if3 rfl rfl hi5 hsi5 ho' hso hsd hsz) eva_all0)))) (all_mo itp_mo) fun vs H' h => by rw [h.1]; exact (Nat.le_of_ble_eq_true rfl)) H5 (Same.refl H5) _ fun u H6 s6 hu => ?_
        obtain ⟨p6, ys6, rfl, e6, ⟨yl6, yall6⟩, _⟩ := hu
        obtain ⟨nv, hnv, hnm⟩ := atI_mem (xs := ys6) (Int.emod_nonneg (t + (0 + (j : Int))) (by decide : (4 : Int) ≠ 0)) (by rw [yl6]; exact Int.emod_lt_of_pos _ (by decide))
        refine ⟨_, rfl, _, rfl, _, _, rfl, rfl, .inl ⟨_, rfl, _, _, rfl, rfl, (by show (0 : Int) < 4; decide), _, _, _, _, rfl, rfl, sqd e6, hnv, ?_⟩⟩
        obtain ⟨i2, b2, h1, h2, h3, h4⟩ := yall6 nv hnm
        exact ⟨nv, i2, b2, _, _, _, _, rfl, s1.trans (s2.trans (s3.trans (s35.trans s6))), h1, h2, by omega, by omega⟩
    | false =>
      refine iteF ?_
      have bn := fun (w : Str) (H' : Hp) (s' : Same H3 H') (y3 y4 : Option V) (hw : w ∈ (["add", "sub", "mul", "min", "max", "less", "equal"] : List Str)) => p_bin (K := K) (σ := [some v, some sv, some (.int m), some (.int t), some (.int (0 + (j : Int))), some (.ref bp), y3, y4]) (k := 5) (H := H') (s' _ _ (s3 _ _ ebp)) hbys rfl (hi3.mono (Tp.same s')) (hsi3.mono (Tp.same s')) ho' hso hsd hsz hw
      have r3 := Same.refl H3
      refine r_seq (r_asg ?_)
      refine (evp_lst (σ := [some v, some sv, some (.int m), some (.int t), some (.int (0 + (j : Int))), some (.ref bp), y3, y4]) (eva_all itp_mo (p_abs rfl hi3 ho') (eva_all itp_mo (bn "add" H3 r3 y3 y4 (by decide +kernel)) (eva_all itp_mo (bn "sub" H3 r3 y3 y4 (by decide +kernel)) (eva_all itp_mo (bn "mul" H3 r3 y3 y4 (by decide +kernel)) (eva_all itp_mo (bn "min" H3 r3 y3 y4 (by decide +kernel)) (eva_all itp_mo (bn "max" H3 r3 y3 y4 (by decide +kernel)) eva_all0)))))) (all_mo itp_mo) fun vs H' h => by rw [h.1]; exact (Nat.le_of_ble_eq_true rfl)) H3 r3 _ fun u H4 s4 hu => ?_
      obtain ⟨p4, ys4, rfl, e4, ⟨yl4, yall4⟩, _⟩ := hu
      have hi4 := hi3.mono (Tp.same s4)
      have hsi4 := hsi3.mono (Tp.same s4)
      refine ⟨_, rfl, ?_⟩
      refine (evp_lst (σ := [some v, some sv, some (.int m), some (.int t), some (.int (0 + (j : Int))), some (.ref bp), y3, some (.ref p4)]) (eva_all itp_mo (p_dm (w := "div") (by decide +kernel) (by omega) rfl hi4 ho') (eva_all itp_mo (p_dm (w := "mod") (by decide +kernel) (by omega) rfl hi4 ho') (eva_all itp_mo (p_if1 rfl rfl hi4 hsi4 ho' hso hsd hsz) eva_all0))) (all_mo itp_mo) fun vs H' h => by rw [h.1]; exact (Nat.le_of_ble_eq_true rfl)) H4 (Same.refl H4) _ fun u H5 s5 hu => ?_
      obtain ⟨p5, ys5, rfl, e5, ⟨yl5, yall5⟩, _⟩ := hu
      refine ⟨p4, p5, ys4, ys5, rfl, rfl, s5 _ _ e4, e5, by rw [yl4, yl5]; exact (Nat.le_of_ble_eq_true rfl), fun p6 hp6 => ?_⟩
      have s36 := fun o => (s4.trans s5).trans (same_new hp6 o)
      refine ⟨_, rfl, ?_⟩
      refine (evp_lst (σ := [some v, some sv, some (.int m), some (.int t), some (.int (0 + (j : Int))), some (.ref bp), y3, some (.ref p6)]) (eva_all itp_mo (p_if2 rfl rfl (hi3.mono (Tp.same (s36 _))) (hsi3.mono (Tp.same (s36 _))) ho' hso hsd hsz) (eva_all itp_mo (bn "less" _ (s36 _) _ _ (by decide +kernel)) (eva_all itp_mo (bn "equal" _ (s36 _) _ _ (by decide +kernel)) eva_all0))) (all_mo itp_mo) fun vs H' h => by rw [h.1]; exact (Nat.le_of_ble_eq_true rfl)) _ (Same.refl _) _ fun u H7 s7 hu => ?_
      obtain ⟨p7, ys7, rfl, e7, ⟨yl7, yall7⟩, _⟩ := hu
      refine ⟨p6, p7, ys4 ++ ys5, ys7, rfl, rfl, s7 _ _ upd_same, e7, by rw [List.length_append, yl4, yl5, yl7]; exact (Nat.le_of_ble_eq_true rfl), fun p8 hp8 => ?_⟩
      have s8 := fun o => s7.trans (same_new hp8 o)
      have hl12 : ((ys4 ++ ys5) ++ ys7).length = 12 := by rw [List.length_append, List.length_append, yl4, yl5, yl7]
      obtain ⟨nv, hnv, hnm⟩ := atI_mem (xs := (ys4 ++ ys5) ++ ys7) (Int.emod_nonneg (t + (0 + (j : Int)) * 5) (by decide : (12 : Int) ≠ 0)) (by rw [hl12]; exact Int.emod_lt_of_pos _ (by decide))
      refine ⟨_, rfl, _, rfl, _, rfl, _, _, rfl, rfl, .inr ⟨by decide, by decide⟩, _, _, rfl, rfl, .inl ⟨_, rfl, _, _, rfl, rfl, (by show (0 : Int) < 12; decide), _, _, _, _, rfl, rfl, sqd upd_same, hnv, ?_⟩⟩
      have hnp : ∀ o, ItP xs B (i'.dep + 1) (i'.sz + 3) nv (upd H7 p8 o) := fun o => by
        rcases List.mem_append.mp hnm with h | h
        · rcases List.mem_append.mp h with h | h
          · exact itp_mo _ _ _ ((s5.trans (same_new hp6 _)).trans (s8 _)) (yall4 nv h)
          · exact itp_mo _ _ _ ((same_new hp6 _).trans (s8 _)) (yall5 nv h)
        · exact itp_mo _ _ _ (same_new hp8 _) (yall7 nv h)
      obtain ⟨i2, b2, h1, h2, h3, h4⟩ := hnp _
      exact ⟨nv, i2, b2, _, _, _, _, rfl, s1.trans (s2.trans (s3.trans ((s36 _).trans (s8 _)))), h1, h2, by omega, by omega⟩
  · rintro σ H1 ⟨v, i', b', y1, y2, y3, y4, rfl, s1, hi', ho', hd', hz'⟩
    exact ⟨_, rfl, q v i' b' H1 s1 hi' ho' hd' hz'⟩
end
end NL

namespace NL
open PySem PySem.Spec PyProof.Rows L2
section
variable {P : Program} {w : World} {K : PySem.W.Frag} {mg : Str → Option Value} {base : Heap}
/-! ### _law_many -/
def spMany (K : PySem.W.Frag) (B : Nat) : Sp := fun vs H Q _ => ∃ (d n : Addr) (xs : List Str) (c : Int), vs = [.ref d, .ref n, .int c] ∧ Dr H d ∧ Keep K d H n (xs.map V.str) ∧ c.natAbs ≤ B ∧
  ∀ v i H', Go d H H' → ItemIn H' i v → Okx xs B true i → i.dep ≤ 3 → i.sz ≤ 100 → Q v H'
end
end NL

namespace NL
open PySem PySem.Spec PyProof.Rows L2
/-! ### the written form, and its tokens -/
/-- what a name in a text is at least -/
structure Nw (z : Str) : Prop where
  wd : Wd z
  len : z.length ≤ 250
theorem Nam.nw {z : Str} (h : Nam z) : Nw z := ⟨h.wd, by have := h.len; omega⟩
def itxt (n : Int) : Str := Str.ofString (toString n)
mutual
def It.wr : It → Str
  | .num n => itxt n
  | .name x => x
  | .lit b => bstr b
  | .un w a => w ++ "(" ++ Str.join ", " [a.wr] ++ ")"
  | .dm w a n => w ++ "(" ++ Str.join ", " [a.wr, itxt n] ++ ")"
  | .bin w a b => w ++ "(" ++ Str.join ", " [a.wr, b.wr] ++ ")"
  | .tri a b c => "if" ++ "(" ++ Str.join ", " [a.wr, b.wr, c.wr] ++ ")"
  | .grp w l => w ++ "(" ++ Str.join ", " (wrL l) ++ ")"
def wrL : List It → List Str
  | [] => []
  | a :: r => a.wr :: wrL r
end
theorem wrL_map : ∀ l : List It, wrL l = l.map It.wr
  | [] => by rw [wrL]; rfl
  | a :: r => by rw [wrL, wrL_map r]; rfl
/-- rows of tokens with a comma between two of them -/
def sepF : List (List Str) → List Str
  | [] => []
  | a :: r => a ++ r.flatMap fun t => ("," : Str) :: t
theorem sepF_snoc (l : List (List Str)) (t : List Str) : sepF (l ++ [t]) = sepF l ++ (if l = [] then ([] : List Str) else [","]) ++ t := by
  cases l with
  | nil => simp [sepF]
  | cons a r => simp [sepF, List.flatMap_append]
mutual
def It.tk : It → List Str
  | .num n => [itxt n]
  | .name x => [x]
  | .lit b => [bstr b]
  | .un w a => ([w, "("] : List Str) ++ sepF [a.tk] ++ ([")"] : List Str)
  | .dm w a n => ([w, "("] : List Str) ++ sepF [a.tk] ++ ([",", itxt n] : List Str) ++ ([")"] : List Str)
  | .bin w a b => ([w, "("] : List Str) ++ sepF [a.tk, b.tk] ++ ([")"] : List Str)
  | .tri a b c => (["if", "("] : List Str) ++ sepF [a.tk, b.tk, c.tk] ++ ([")"] : List Str)
  | .grp w l => ([w, "("] : List Str) ++ sepF (tkL l) ++ ([")"] : List Str)
def tkL : List It → List (List Str)
  | [] => []
  | a :: r => a.tk :: tkL r
end
theorem tkL_map : ∀ l : List It, tkL l = l.map It.tk
  | [] => by rw [tkL]; rfl
  | a :: r => by rw [tkL, tkL_map r]; rfl
/-- behind the parts: the divisor -/
def It.tailT : It → List Str
  | .dm _ _ n => [",", itxt n]
  | _ => []
def It.tailW : It → List Str
  | .dm _ _ n => [itxt n]
  | _ => []
theorem tk_eq {i : It} (h : i.cls ≠ 0) : i.tk = ([i.word, "("] : List Str) ++ sepF (i.kids.map It.tk) ++ i.tailT ++ ([")"] : List Str) := by
  cases i with
  | num _ => exact absurd rfl h
  | name _ => exact absurd rfl h
  | lit _ => exact absurd rfl h
  | un w a => rw [It.tk]; simp [It.word, It.kids, It.tailT]
  | dm w a n => rw [It.tk]; simp [It.word, It.kids, It.tailT]
  | bin w a b => rw [It.tk]; simp [It.word, It.kids, It.tailT]
  | tri a b c => rw [It.tk]; simp [It.word, It.kids, It.tailT]
  | grp w l => rw [It.tk, tkL_map]; simp [It.word, It.kids, It.tailT]
theorem wr_eq {i : It} (h : i.cls ≠ 0) : i.wr = i.word ++ "(" ++ Str.join ", " (i.kids.map It.wr ++ i.tailW) ++ ")" := by
  cases i with
  | num _ => exact absurd rfl h
  | name _ => exact absurd rfl h
  | lit _ => exact absurd rfl h
  | un w a => rw [It.wr]; simp [It.word, It.kids, It.tailW]
  | dm w a n => rw [It.wr]; simp [It.word, It.kids, It.tailW]
  | bin w a b => rw [It.wr]; simp [It.word, It.kids, It.tailW]
  | tri a b c => rw [It.wr]; simp [It.word, It.kids, It.tailW]
  | grp w l => rw [It.wr, wrL_map]; simp [It.word, It.kids, It.tailW]
/-! ### what the tokens are worth together -/
def sub (t : Str) : Str := if t = "," then ", " else t
/-- the signs of the tokens, each comma with a space -/
def ct (ts : List Str) : List Nat := ts.flatMap fun t => (sub t).cps.toList
theorem ct_app (a b : List Str) : ct (a ++ b) = ct a ++ ct b := List.flatMap_append
theorem ct_cons (a : Str) (b : List Str) : ct (a :: b) = (sub a).cps.toList ++ ct b := rfl
theorem ct_nil : ct [] = [] := rfl
theorem join_codes : ∀ l : List Str, (Str.join "" l).cps.toList = l.flatMap fun t => t.cps.toList
  | [] => rfl
  | [x] => by
    show x.cps.toList = _
    simp
  | x :: y :: r => by
    have e : Str.join "" (x :: y :: r) = x ++ "" ++ Str.join "" (y :: r) := rfl
    rw [e, app_list, app_list, join_codes (y :: r), show ("" : Str).cps.toList = [] by decide +kernel, List.append_nil]
    rfl
theorem ct_join (ts : List Str) : (Str.join "" (ts.map sub)).cps.toList = ct ts := by
  rw [join_codes, List.flatMap_map]
  rfl
theorem sub_ne {t : Str} (h : t ≠ ",") : sub t = t := if_neg h
theorem ct_sep {f : It → List Str} {g : It → Str} : ∀ (l : List It), (∀ i ∈ l, ct (f i) = (g i).cps.toList) → ct (sepF (l.map f)) = (Str.join ", " (l.map g)).cps.toList
  | [], _ => rfl
  | [a], h => by
    show ct (f a ++ []) = (g a).cps.toList
    rw [List.append_nil]
    exact h a List.mem_cons_self
  | a :: b :: r, h => by
    have e : Str.join ", " ((a :: b :: r).map g) = g a ++ ", " ++ Str.join ", " ((b :: r).map g) := rfl
    have ih := ct_sep (b :: r) fun i hi => h i (List.mem_cons_of_mem _ hi)
    have e2 : sepF ((a :: b :: r).map f) = f a ++ ("," : Str) :: sepF ((b :: r).map f) := by
      show f a ++ ((("," : Str) :: f b) ++ _) = _
      rw [List.cons_append]
      rfl
    rw [e, app_list, app_list, e2, ct_app, h a List.mem_cons_self, ct_cons, ih]
    rw [show sub "," = ", " by decide +kernel, List.append_assoc]
theorem itxt_ne (n : Int) : itxt n ≠ "," := fun h => by
  have h44 := int_text_free' 44 ⟨by decide, by decide⟩ n
  have h2 : (44 : Nat) ∈ (itxt n).cps.toList := by rw [h]; decide +kernel
  exact h44 h2
theorem wd_ne {z : Str} (h : Wd z) : z ≠ "," := fun e => by
  rw [e] at h
  exact absurd h (by decide +kernel)
theorem word_wd {xs : List Str} {B : Nat} {b : Bool} {i : It} (h : Okx xs B b i) : Wd i.word ∧ i.word.length ≤ 6 := by
  have g : ∀ z ∈ (["number", "name", "true", "false", "abs", "not", "div", "mod", "add", "sub", "mul", "min", "max", "less", "equal", "if", "all", "any"] : List Str), Wd z ∧ z.length ≤ 6 := by decide +kernel
  refine g _ ?_
  simp only [List.mem_cons, List.not_mem_nil, or_false]
  cases h with
  | num _ => simp [It.word]
  | name _ => simp [It.word]
  | lit => rename_i b; cases b <;> simp [It.word, bstr]
  | abs _ => simp [It.word]
  | not _ => simp [It.word]
  | dm hw _ _ _ =>
    simp only [List.mem_cons, List.not_mem_nil, or_false] at hw
    rcases hw with rfl | rfl <;> simp [It.word]
  | bin hw _ _ =>
    simp only [List.mem_cons, List.not_mem_nil, or_false] at hw
    rcases hw with rfl | rfl | rfl | rfl | rfl <;> simp [It.word]
  | cmp hw _ _ =>
    simp only [List.mem_cons, List.not_mem_nil, or_false] at hw
    rcases hw with rfl | rfl <;> simp [It.word]
  | tri _ _ _ => simp [It.word]
  | grp hw _ _ =>
    simp only [List.mem_cons, List.not_mem_nil, or_false] at hw
    rcases hw with rfl | rfl <;> simp [It.word]
theorem kids_rec {xs : List Str} {B : Nat} {p : It → Prop} (leaf : ∀ b i, Okx xs B b i → i.cls = 0 → p i) (node : ∀ b i, Okx xs B b i → i.cls ≠ 0 → (∀ j ∈ i.kids, p j) → p i) {b : Bool} {i : It} (h : Okx xs B b i) : p i := by
  induction h with
  | num h => exact leaf _ _ (.num h) rfl
  | name h => exact leaf _ _ (.name h) rfl
  | lit => exact leaf _ _ .lit rfl
  | abs h ih =>
    refine node _ _ (.abs h) (by simp [It.cls]) fun j hj => ?_
    simp only [It.kids, List.mem_cons, List.not_mem_nil, or_false] at hj
    rw [hj]; exact ih
  | not h ih =>
    refine node _ _ (.not h) (by simp [It.cls]) fun j hj => ?_
    simp only [It.kids, List.mem_cons, List.not_mem_nil, or_false] at hj
    rw [hj]; exact ih
  | dm hw h h1 h2 ih =>
    refine node _ _ (.dm hw h h1 h2) (by simp [It.cls]) fun j hj => ?_
    simp only [It.kids, List.mem_cons, List.not_mem_nil, or_false] at hj
    rw [hj]; exact ih
  | bin hw h g ih jh =>
    refine node _ _ (.bin hw h g) (by simp [It.cls]) fun j hj => ?_
    simp only [It.kids, List.mem_cons, List.not_mem_nil, or_false] at hj
    rcases hj with e | e <;> rw [e] <;> assumption
  | cmp hw h g ih jh =>
    refine node _ _ (.cmp hw h g) (by simp [It.cls]) fun j hj => ?_
    simp only [It.kids, List.mem_cons, List.not_mem_nil, or_false] at hj
    rcases hj with e | e <;> rw [e] <;> assumption
  | tri h g k ih jh kh =>
    refine node _ _ (.tri h g k) (by simp [It.cls]) fun j hj => ?_
    simp only [It.kids, List.mem_cons, List.not_mem_nil, or_false] at hj
    rcases hj with e | e | e <;> rw [e] <;> assumption
  | grp hw hl h ih => exact node _ _ (.grp hw hl h) (by simp [It.cls]) (fun j hj => ih j hj)
/-- THE EQUATION: the tokens, glued, are the written form -/
theorem ct_tk {xs : List Str} {B : Nat} (hx : ∀ x ∈ xs, Nw x) {b : Bool} {i : It} (h : Okx xs B b i) : ct i.tk = i.wr.cps.toList := by
  refine kids_rec (p := fun i => ct i.tk = i.wr.cps.toList) (fun b i h h0 => ?_) (fun b i h h0 ih => ?_) h
  · cases h with
    | num _ => rw [It.tk, It.wr, ct_cons, ct_nil, List.append_nil, sub_ne (itxt_ne _)]
    | name hm => rw [It.tk, It.wr, ct_cons, ct_nil, List.append_nil, sub_ne (wd_ne (hx _ hm).wd)]
    | lit => rename_i b; cases b <;> (rw [It.tk, It.wr]; decide +kernel)
    | abs _ => cases h0
    | not _ => cases h0
    | dm _ _ _ _ => cases h0
    | bin _ _ _ => cases h0
    | cmp _ _ _ => cases h0
    | tri _ _ _ => cases h0
    | grp _ _ _ => cases h0
  · rw [tk_eq h0, wr_eq h0]
    have hs := ct_sep i.kids ih
    have hw := sub_ne (wd_ne (word_wd h).1)
    have e1 : ct ([i.word, "("] : List Str) = i.word.cps.toList ++ ("(" : Str).cps.toList := by
      rw [ct_cons, ct_cons, ct_nil, List.append_nil, hw, show sub "(" = "(" by decide +kernel]
    have e2 : ct ([")"] : List Str) = (")" : Str).cps.toList := by decide +kernel
    rw [ct_app, ct_app, ct_app, e1, e2, hs, app_list, app_list, app_list]
    congr 1
    rw [List.append_assoc]
    congr 1
    cases i with
    | dm w a n =>
      show (Str.join ", " [a.wr]).cps.toList ++ ct ([",", itxt n] : List Str) = (Str.join ", " [a.wr, itxt n]).cps.toList
      have e3 : Str.join ", " [a.wr, itxt n] = a.wr ++ ", " ++ itxt n := rfl
      have e4 : Str.join ", " [a.wr] = a.wr := rfl
      rw [e3, e4, ct_cons, ct_cons, ct_nil, sub_ne (itxt_ne n), app_list, app_list, show sub "," = ", " by decide +kernel, List.append_nil, List.append_assoc]
    | _ => simp [It.tailT, It.tailW, ct_nil]
/-! ### sizes -/
theorem itxt_len {n : Int} (h : n.natAbs < 10 ^ 61) : (itxt n).length ≤ 62 := by
  have h1 := int_text_length_le10 (by decide : 0 < 61) h
  have h2 : (itxt n).length = (toString n).length := PySem.ofString_length _
  omega
end NL

namespace NL
open PySem PySem.Spec PyProof.Rows L2
theorem sz_eq (i : It) : i.sz = 1 + szL i.kids := by
  cases i <;> simp only [It.sz, It.kids, szL] <;> omega
theorem szL_map (l : List It) : szL l = (l.map It.sz).sum := by
  induction l with
  | nil => rw [szL]; rfl
  | cons a r ih => rw [szL, ih, List.map_cons, List.sum_cons]
theorem join_len (sep : Str) : ∀ l : List Str, (Str.join sep l).length ≤ (l.map fun t => t.length + sep.length).sum
  | [] => Nat.zero_le _
  | [x] => by
    show x.length ≤ x.length + sep.length + 0
    omega
  | x :: y :: r => by
    have e : Str.join sep (x :: y :: r) = x ++ sep ++ Str.join sep (y :: r) := rfl
    have ih := join_len sep (y :: r)
    rw [e, len_app, len_app, List.map_cons, List.sum_cons]
    omega
theorem sum_le {f g : It → Nat} : ∀ l : List It, (∀ i ∈ l, f i ≤ g i) → (l.map f).sum ≤ (l.map g).sum
  | [], _ => Nat.le_refl _
  | a :: r, h => by
    rw [List.map_cons, List.map_cons, List.sum_cons, List.sum_cons]
    have h1 := h a List.mem_cons_self
    have h2 := sum_le r fun i hi => h i (List.mem_cons_of_mem _ hi)
    omega
theorem sum_mul (k : Nat) : ∀ l : List It, (l.map fun i => k * i.sz).sum = k * szL l
  | [] => by rw [szL]; rfl
  | a :: r => by rw [List.map_cons, List.sum_cons, sum_mul k r, szL, Nat.mul_add]
/-- ints of these items have short texts -/
theorem tail_len {xs : List Str} {B : Nat} (hB : B < 10 ^ 60 + 1) {b : Bool} {i : It} (h : Okx xs B b i) : (i.tailW.map fun t => t.length + 2).sum ≤ 64 ∧ i.tailT.length ≤ 2 := by
  cases h with
  | dm hw h h1 h2 =>
    rename_i n
    have hn := itxt_len (n := n) (by have e : (10 : Nat) ^ 61 = 10 * 10 ^ 60 := by decide
                                     omega)
    show (itxt n).length + 2 + 0 ≤ 64 ∧ 2 ≤ 2
    omega
  | _ => exact ⟨Nat.zero_le _, Nat.zero_le _⟩
theorem wr_len {xs : List Str} {B : Nat} (hx : ∀ x ∈ xs, Nw x) (hB : B < 10 ^ 60 + 1) {b : Bool} {i : It} (h : Okx xs B b i) : i.wr.length + 10 ≤ 300 * i.sz ∧ i.tk.length + 2 ≤ 10 * i.sz := by
  refine kids_rec (p := fun i => i.wr.length + 10 ≤ 300 * i.sz ∧ i.tk.length + 2 ≤ 10 * i.sz) (fun b i h h0 => ?_) (fun b i h h0 ih => ?_) h
  · cases h with
    | num hn =>
      rename_i n
      have hn := itxt_len (n := n) (by have e : (10 : Nat) ^ 61 = 10 * 10 ^ 60 := by decide
                                       omega)
      rw [It.wr, It.sz, It.tk, List.length_singleton]
      omega
    | name hm =>
      have := (hx _ hm).len
      rw [It.wr, It.sz, It.tk, List.length_singleton]
      omega
    | lit =>
      rename_i b
      rw [It.wr, It.sz, It.tk, List.length_singleton]
      have : (bstr b).length ≤ 10 := by cases b <;> decide +kernel
      omega
    | abs _ => cases h0
    | not _ => cases h0
    | dm _ _ _ _ => cases h0
    | bin _ _ _ => cases h0
    | cmp _ _ _ => cases h0
    | tri _ _ _ => cases h0
    | grp _ _ _ => cases h0
  · have hw := (word_wd h).2
    obtain ⟨t1, t2⟩ := tail_len hB h
    have hz := sz_eq i
    have l1 : ("(" : Str).length = 1 ∧ (")" : Str).length = 1 ∧ (", " : Str).length = 2 := by decide +kernel
    constructor
    · rw [wr_eq h0, len_app, len_app, len_app]
      have j := join_len ", " (i.kids.map It.wr ++ i.tailW)
      rw [l1.2.2, List.map_append, List.sum_append, List.map_map] at j
      have k := sum_le (f := (fun t : Str => t.length + 2) ∘ It.wr) (g := fun i => 300 * i.sz) i.kids fun i hi => by
        have := (ih i hi).1
        show i.wr.length + 2 ≤ 300 * i.sz
        omega
      rw [sum_mul] at k
      omega
    · rw [tk_eq h0, List.length_append, List.length_append, List.length_append]
      have hs : (sepF (i.kids.map It.tk)).length ≤ (i.kids.map fun i => i.tk.length + 1).sum := by
        cases i.kids with
        | nil => exact Nat.zero_le _
        | cons a r =>
          show (a.tk ++ (r.map It.tk).flatMap _).length ≤ _
          rw [List.length_append, List.length_flatMap, List.map_cons, List.sum_cons, List.map_map]
          have : ((fun a => (("," : Str) :: a).length) ∘ It.tk) = fun i : It => i.tk.length + 1 := rfl
          rw [this]
          omega
      have k := sum_le (f := fun i : It => i.tk.length + 1) (g := fun i => 10 * i.sz) i.kids fun i hi => by
        have := (ih i hi).2
        omega
      rw [sum_mul] at k
      have e1 : ([i.word, "("] : List Str).length = 2 ∧ ([")"] : List Str).length = 1 := ⟨rfl, rfl⟩
      omega
theorem log_ok {n : Int} (h : n.natAbs < 10 ^ 61) : n.natAbs.log2 < 1920 := by
  by_cases h0 : n.natAbs = 0
  · rw [h0]; decide
  · exact (Nat.log2_lt h0).mpr (Nat.lt_of_lt_of_le h (by decide))
end NL

namespace NL
open PySem PySem.Spec PyProof.Rows L2
theorem ItemIn.leaf {H : Hp} {i : It} {a : Addr} (h : ItemIn H i (.ref a)) (h3 : i.cls = 0) :
    (∃ n, i = .num n ∧ H a = some (.tup [.str "number", .int n])) ∨ (∃ x, i = .name x ∧ H a = some (.tup [.str "name", .str x])) ∨ ∃ b, i = .lit b ∧ H a = some (.tup [.str (bstr b)]) := by
  cases h with
  | num e => exact .inl ⟨_, rfl, e⟩
  | name e => exact .inr (.inl ⟨_, rfl, e⟩)
  | lit e => exact .inr (.inr ⟨_, rfl, e⟩)
  | un _ _ => cases h3
  | dm _ _ => cases h3
  | bin _ _ _ => cases h3
  | tri _ _ _ _ => cases h3
  | grp _ _ _ _ => cases h3
theorem strE {a b : Str} : decide (V.str a = V.str b) = decide (a = b) := decide_eq_decide.mpr ⟨V.str.inj, fun h => by rw [h]⟩
/-- an item that is no leaf has another word -/
theorem word_ne {xs : List Str} {B : Nat} {b : Bool} {i : It} (h : Okx xs B b i) (h0 : i.cls ≠ 0) {z : Str} (hz : z ∈ (["number", "name", "true", "false"] : List Str)) : decide (V.str i.word = V.str z) = false := by
  rw [strE]
  have c := (word_cls h).1
  have e : (i.cls == 0) = false := by simpa using h0
  rw [e] at c
  refine decide_eq_false fun q => ?_
  rw [← q] at hz
  exact absurd (show wl i.word _ = true from decide_eq_true hz) (by rw [c]; exact Bool.false_ne_true)
theorem in_divs {i : It} : (i.cls == 2) = true ↔ i.cls = 2 := by simp
section
variable {P : Program} {w : World} {K : PySem.W.Frag} {mg : Str → Option Value} {base : Heap}
/-! ### parts_in -/
def spParts : Sp := fun vs H Q _ => ∃ (v : V) (i : It) (xs : List Str) (B : Nat) (b : Bool), vs = [v] ∧ ItemIn H i v ∧ Okx xs B b i ∧ ∀ p ys H', Same H H' → H' p = some (.tup ys) → Kids H' i.kids ys → Q (.ref p) H'
theorem ok_parts_in (T : Txt K mg) : FnOk P w K mg base CX0 1 T.aparts_in T.dparts_in Pparts_in spParts := by
  refine T.Fparts_in.ok scparts_in (fun vs H Q E h => ?_) (fun cdv A outer s H vs Q E hr h => ?_)
  · obtain ⟨v, i, xs, B, b, rfl, _⟩ := h
    rfl
  obtain ⟨v, i, xs, B, b, rfl, hi, ho, q⟩ := h
  obtain ⟨a, rfl⟩ := hi.ref
  obtain ⟨r, ha⟩ := hi.head
  obtain ⟨c0, cn, ct_, c1, c2⟩ := word_cls ho
  refine ⟨_, (pss_cons (ps_set (i := 1) scparts_in.nd rfl (Or.inl rfl) (pe_ix ix_tup (pv 0) pe_int (fun _ _ => rfl)))
    (pss_cons (ps_if (pt_cmpR op_in_seq (pv 1) (pe_tup (pa_cons pe_str (pa_cons pe_str pa_nil))) (by rfl))
    (pss_one (ps_ret (pe_tup pa_nil)))
    pss_nil)
    (pss_cons (ps_if (pt_cmpR op_in_seq (pv 1) (pe_tup (pa_cons pe_str (pa_cons pe_str pa_nil))) (by rfl))
    (pss_one (ps_ret (pe_slice sl_tup (pv 0) (po_some pe_int) (po_some pe_int))))
    pss_nil)
    (pss_cons (ps_if (pt_cmpR op_in_seq (pv 1) (pe_tup (pa_cons pe_str (pa_cons pe_str pa_nil))) (by rfl))
    (pss_one (ps_ret (pe_ix ix_tup (pv 0) pe_int (fun _ _ => rfl))))
    pss_nil)
    (pss_one (ps_ret (pe_slice sl_tup (pv 0) (po_some pe_int) po_none))))))), ?_⟩
  refine ⟨_, rfl, a, _, 0, _, rfl, rfl, sqt ha, atI0, ?_⟩
  refine ⟨_, rfl, (Nat.le_of_ble_eq_true rfl), fun p1 hp1 => ?_⟩
  have s1 := fun o => same_new hp1 o
  refine ⟨p1, _, rfl, .inr (sqt upd_same), rfl, (by decide +kernel), _, rfl, ?_⟩
  by_cases hnn : (i.cls == 0 && !b) = true
  · refine ifT (inT (ys := ["number", "name"]) rfl (by rw [cn]; exact hnn)) ?_
    have h0 : i.cls = 0 := by simp at hnn; exact hnn.1
    refine ⟨(Nat.le_of_ble_eq_true rfl), fun p hp => ?_⟩
    exact q p [] _ ((s1 _).trans (same_new hp _)) upd_same (by rw [kids_leaf h0]; exact kids0)
  refine ifF (inT (ys := ["number", "name"]) rfl (by rw [cn]; simpa using hnn)) ?_
  refine ⟨_, rfl, (Nat.le_of_ble_eq_true rfl), fun p2 hp2 => ?_⟩
  have s2 := fun o => (s1 _).trans (same_new hp2 o)
  refine ⟨p2, _, rfl, .inr (sqt upd_same), rfl, (by decide +kernel), _, rfl, ?_⟩
  by_cases h2 : i.cls = 2
  · refine ifT (inT (ys := ["div", "mod"]) rfl (by rw [c2, h2] <;> rfl)) ?_
    obtain ⟨x, j, n, e1, hj, ej⟩ := hi.divs h2
    refine ⟨_, rfl, 1, rfl, 2, rfl, a, _, rfl, sqt (s2 _ _ _ e1), not_whole _ _ _, fun p hp => ?_⟩
    refine q p [x] _ ((s2 _).trans (same_new hp _)) upd_same ?_
    rw [ej]
    exact kids1 (hj.mono (Tp.same ((s2 _).trans (same_new hp _))))
  refine ifF (inT (ys := ["div", "mod"]) rfl (by rw [c2]; simpa using h2)) ?_
  refine ⟨_, rfl, (Nat.le_of_ble_eq_true rfl), fun p3 hp3 => ?_⟩
  have s3 := fun o => (s2 _).trans (same_new hp3 o)
  refine ⟨p3, _, rfl, .inr (sqt upd_same), rfl, (by decide +kernel), _, rfl, ?_⟩
  by_cases h1 : i.cls = 1
  · refine ifT (inT (ys := ["all", "any"]) rfl (by rw [c1, h1] <;> rfl)) ?_
    obtain ⟨b2, ys, e1, e2, hk⟩ := hi.group h1
    refine ⟨_, rfl, a, _, 1, _, rfl, rfl, sqt (s3 _ _ _ e1), atI1, ?_⟩
    exact q b2 ys _ (s3 _) (s3 _ _ _ e2) (hk.mono (Tp.same (s3 _)))
  refine ifF (inT (ys := ["all", "any"]) rfl (by rw [c1]; simpa using h1)) ?_
  by_cases h0 : i.cls = 0
  · -- true, false: nothing stands behind the word
    rcases hi.leaf h0 with ⟨n, e, e1⟩ | ⟨n, e, e1⟩ | ⟨n, e, e1⟩
    · subst e; cases ho; exact absurd rfl hnn
    · subst e; cases ho; exact absurd rfl hnn
    · refine ⟨_, rfl, 1, rfl, a, _, rfl, sqt (s3 _ _ _ e1), not_whole _ _ _, fun p hp => ?_⟩
      rw [cut_tail]
      exact q p [] _ ((s3 _).trans (same_new hp _)) upd_same (by rw [kids_leaf h0]; exact kids0)
  · obtain ⟨ys, e1, hk⟩ := hi.rest (by rcases cls_le i with h | h | h | h <;> first | exact absurd h h0 | exact absurd h h1 | exact absurd h h2 | exact h)
    refine ⟨_, rfl, 1, rfl, a, _, rfl, sqt (s3 _ _ _ e1), not_whole _ _ _, fun p hp => ?_⟩
    rw [cut_tail]
    exact q p ys _ ((s3 _).trans (same_new hp _)) upd_same (hk.mono (Tp.same ((s3 _).trans (same_new hp _))))
/-! ### _written -/
structure Fit (xs : List Str) (B n : Nat) (b : Bool) (i : It) : Prop where
  ok : Okx xs B b i
  nm : ∀ x ∈ xs, Nw x
  bd : B < 10 ^ 60 + 1
  dp : i.dep ≤ n
  sz : i.sz ≤ 1000
theorem Fit.kid {xs : List Str} {B n : Nat} {b : Bool} {i j : It} (f : Fit xs B (n + 1) b i) (h : j ∈ i.kids) : ∃ b', Fit xs B n b' j := by
  obtain ⟨b', ho⟩ := kids_ok f.ok j h
  have h1 := depL_in h
  have h2 := @kids_dep i
  have h3 := sz_eq i
  have h4 : j.sz ≤ szL i.kids := by
    have : ∀ l : List It, j ∈ l → j.sz ≤ szL l := fun l => by
      induction l with
      | nil => intro h; cases h
      | cons a r ih =>
        intro h
        rw [szL]
        rcases List.mem_cons.mp h with e | e
        · rw [e]; omega
        · have := ih e
          omega
    exact this _ h
  have h5 := f.dp
  have h6 := f.sz
  exact ⟨b', ho, f.nm, f.bd, by omega, by omega⟩
theorem big {n : Nat} (h : n ≤ 1000000) : n ≤ sizeLine := Nat.le_trans h (by decide)
theorem big' {n : Nat} (h : n ≤ 1000000) : n < sizeLine := Nat.lt_of_le_of_lt h (by decide)
theorem strV {Q : VK} {a b : Str} {H : Hp} (h : a = b) (q : Q (.str b) H) : Q (.str a) H := by rw [h]; exact q
def spWr (n : Nat) : Sp := fun vs H Q _ => ∃ (v : V) (i : It) (xs : List Str) (B : Nat) (b : Bool), vs = [v] ∧ ItemIn H i v ∧ Fit xs B n b i ∧ ∀ H', Same H H' → Q (.str i.wr) H'
theorem ok_written (T : Txt K mg) : ∀ n : Nat, FnOk P w K mg base CX0 (n + 2) T.a_written T.d_written P_written (spWr n)
  | 0 => by
    have no : ∀ vs H Q E, ¬ spWr 0 vs H Q E := fun vs H Q E ⟨v, i, xs, B, b, _, _, f, _⟩ => by
      have := dep_pos i
      have := f.dp
      omega
    exact ⟨fun vs H Q E h => absurd h (no vs H Q E), fun A outer s H args us vs Q E _ _ _ _ h => absurd h (no vs H Q E)⟩
  | n + 1 => by
    have G_written := ok_written T n
    have Gparts_in := ok_parts_in (P := P) (w := w) (base := base) T
    refine T.F_written.ok sc_written (fun vs H Q E h => ?_) (fun cdv A outer s H vs Q E hr h => ?_)
    · obtain ⟨v, i, xs, B, b, rfl, _⟩ := h
      rfl
    obtain ⟨v, i, xs, B, b, rfl, hi, hf, q⟩ := h
    obtain ⟨a, rfl⟩ := hi.ref
    obtain ⟨r, ha⟩ := hi.head
    have ho := hf.ok
    obtain ⟨c0, cn, ct_, c1, c2⟩ := word_cls ho
    refine ⟨_, (pss_cons (ps_set (i := 1) sc_written.nd rfl (Or.inl rfl) (pe_ix ix_tup (pv 0) pe_int (fun _ _ => rfl)))
    (pss_cons (ps_if (pt_cmpR op_eq (pv 1) pe_str (nomark _))
    (pss_one (ps_ret (pe_callTy call_str_int (by rfl) T.z_str (by decide +kernel) (pa_cons (pe_ix ix_tup (pv 0) pe_int (fun _ _ => rfl)) pa_nil))))
    pss_nil)
    (pss_cons (ps_if (pt_cmpR op_eq (pv 1) pe_str (nomark _))
    (pss_one (ps_ret (pe_ix ix_tup (pv 0) pe_int (fun _ _ => rfl))))
    pss_nil)
    (pss_cons (ps_if (pt_cmpR op_in_seq (pv 1) (pe_tup (pa_cons pe_str (pa_cons pe_str pa_nil))) (by rfl))
    (pss_one (ps_ret (pv 1)))
    pss_nil)
    (pss_cons (ps_setLc (i := 2) (own := [("part", 3)]) (g := (gName 3)) (tt := tYes) rfl sc_written.nd rfl rfl (sw_true rfl rfl rfl (by decide +kernel)) (pi_tup (pe_call Gparts_in (hr.mono (by omega)) (by rfl) T.mparts_in T.Fparts_in.kp T.bparts_in .nil pass0 (pa_cons (pv 0) pa_nil))) (blkOk_by (N := N_written) (sc := defScope s_written) (by decide +kernel)) (fun _ _ _ _ _ => (pg_name (i := 3) sc_written.nd rfl (Or.inl rfl))) (fun _ _ _ _ _ => pts_nil) (fun _ _ _ _ _ => (pe_call G_written (hr.mono (by omega)) (by rfl) T.m_written T.F_written.kp T.b_written .nil pass0 (pa_cons (pv 3) pa_nil))))
    (C8.pss_cut (ps_if (pt_cmpR op_in_seq (pv 1) (pe_tup (pa_cons pe_str (pa_cons pe_str pa_nil))) (by rfl))
    (pss_one (ps_expr (pe_bm PySem.F.plainAttrs_list PySem.F.slot_list_append PySem.F.type_list_append mt_append (pv 2) (pa_cons (pe_callTy call_str_int (by rfl) T.z_str (by decide +kernel) (pa_cons (pe_ix ix_tup (pv 0) pe_int (fun _ _ => rfl)) pa_nil)) pa_nil))))
    pss_nil)
    (pss_one (ps_ret (pe_op op_add_str (pe_op op_add_str (pe_op op_add_str (pv 1) pe_str) (pe_join pe_str (pv 2))) pe_str))))))))), ?_⟩
    refine ⟨_, rfl, a, _, 0, _, rfl, rfl, sqt ha, atI0, ?_⟩
    refine ⟨_, rfl, rfl, _, rfl, ?_⟩
    have e60 : (10 : Nat) ^ 61 = 10 * 10 ^ 60 := by decide
    by_cases h0 : i.cls = 0
    · rcases hi.leaf h0 with ⟨n, e, e1⟩ | ⟨n, e, e1⟩ | ⟨n, e, e1⟩
      · subst e
        refine ifT (by show decide (V.str ("number" : Str) = V.str ("number" : Str)) = true; decide +kernel) ?_
        have hn : n.natAbs ≤ B := by cases ho; assumption
        have hb := hf.bd
        exact ⟨_, rfl, a, _, 1, _, rfl, rfl, sqt e1, atI1, n, rfl, log_ok (by omega), strV (by rw [It.wr]; rfl) (q _ (Same.refl H))⟩
      · subst e
        refine ifF (by show decide (V.str ("name" : Str) = V.str ("number" : Str)) = false; decide +kernel) ?_
        refine ⟨_, rfl, rfl, _, rfl, ?_⟩
        refine ifT (by show decide (V.str ("name" : Str) = V.str ("name" : Str)) = true; decide +kernel) ?_
        exact ⟨_, rfl, a, _, 1, _, rfl, rfl, sqt e1, atI1, strV (by rw [It.wr]) (q _ (Same.refl H))⟩
      · subst e
        refine ifF (by cases n <;> decide +kernel) ?_
        refine ⟨_, rfl, rfl, _, rfl, ?_⟩
        refine ifF (by cases n <;> decide +kernel) ?_
        refine ⟨_, rfl, (Nat.le_of_ble_eq_true rfl), fun p1 hp1 => ?_⟩
        refine ⟨p1, _, rfl, .inr (sqt upd_same), rfl, (by decide +kernel), _, rfl, ?_⟩
        refine ifT (inT (ys := ["true", "false"]) rfl (by cases n <;> decide +kernel)) ?_
        exact ⟨_, rfl, strV (by rw [It.wr]; rfl) (q _ (same_new hp1 _))⟩
    · refine ifF (word_ne ho h0 (by decide +kernel)) ?_
      refine ⟨_, rfl, rfl, _, rfl, ?_⟩
      refine ifF (word_ne ho h0 (by decide +kernel)) ?_
      refine ⟨_, rfl, (Nat.le_of_ble_eq_true rfl), fun p1 hp1 => ?_⟩
      have s1 := fun o => same_new hp1 o
      refine ⟨p1, _, rfl, .inr (sqt upd_same), rfl, (by decide +kernel), _, rfl, ?_⟩
      refine ifF (inT (ys := ["true", "false"]) rfl (by rw [ct_]; simp [h0])) ?_
      -- parts
      refine ⟨_, rfl, _, i, xs, B, b, rfl, hi.mono (Tp.same (s1 _)), ho, fun tp ys H2 s2 e2 hk => ?_⟩
      refine ⟨tp, rfl, ⟨_, sqt e2⟩, fun D hD => ?_⟩
      refine lc_tup (K := K) (a := tp) (xs := ys) (fun (j : Nat) (H' : Hp) => Same H2 H' ∧ H' D = some (.lst ((i.kids.take j).map fun k => V.str k.wr))) ?_ ?_ ?_ ?_
      · exact ⟨same_new hD _, by rw [upd_same, List.take_zero]; rfl⟩
      · rintro j H' _ ⟨s3, _⟩
        exact sqt (s3 _ _ e2)
      · rintro j x H' hx ⟨s3, e3⟩
        obtain ⟨kj, hkj, hin, hmem⟩ := hk.get hx
        obtain ⟨b', hf'⟩ := hf.kid hmem
        refine ⟨rfl, yes_if ?_⟩
        refine ⟨_, rfl, _, kj, xs, B, b', rfl, hin.mono (Tp.same s3), hf', fun H4 s4 => ?_⟩
        refine ⟨_, s4 _ _ e3, ?_, same_put (s3.trans s4) hD, ?_⟩
        · rw [List.length_map, List.length_take]
          have := kids_len ho
          exact small1000 (by omega)
        · rw [upd_same, List.take_add_one, hkj, List.map_append]
          rfl
      · rintro H3 ⟨s3, e3⟩
        rw [hk.1, List.take_length] at e3
        have hkl := kids_len ho
        have s13 := (s1 _).trans (s2.trans s3)
        have hHD : H D = none := ((s1 _).trans s2).free hD
        -- div, mod
        refine ⟨fun σ H4 => ∃ y3 : Option V, σ = [some (.ref a), some (.str i.word), some (.ref D), y3] ∧ Same H H4 ∧ H4 D = some (.lst ((i.kids.map It.wr ++ i.tailW).map V.str)), ?_, ?_⟩
        · refine ⟨_, rfl, (Nat.le_of_ble_eq_true rfl), fun p4 hp4 => ?_⟩
          have s4 := fun o => s13.trans (same_new hp4 o)
          have e4 := fun o => same_new hp4 o D _ e3
          refine ⟨p4, _, rfl, .inr (sqt upd_same), rfl, (by decide +kernel), _, rfl, ?_⟩
          by_cases h2 : i.cls = 2
          · refine ifT (inT (ys := ["div", "mod"]) rfl (by rw [c2, h2] <;> rfl)) ?_
            obtain ⟨x, j, m, e1, hj, ej⟩ := hi.divs h2
            have hm : m.natAbs ≤ B + 1 := by
              rw [ej] at ho
              cases ho; assumption
            have hb := hf.bd
            refine ⟨_, rfl, .inl ⟨rfl, _, sqd (e4 _)⟩, _, rfl, a, _, 2, _, rfl, rfl, sqt (s4 _ _ _ e1), atI2, m, rfl, log_ok (by omega), D, _, _, rfl, rfl, e4 _, ?_, ?_⟩
            · rw [List.length_map]
              exact small1000 (by omega)
            · refine ⟨_, rfl, same_put (s4 _) hHD, ?_⟩
              rw [upd_same, List.map_append, List.map_map]
              have et : i.tailW = [itxt m] := by rw [ej] <;> rfl
              rw [et]
              rfl
          · refine ifF (inT (ys := ["div", "mod"]) rfl (by rw [c2]; simpa using h2)) ?_
            refine ⟨_, rfl, s4 _, ?_⟩
            rw [e4]
            have et : i.tailW = [] := by
              cases i <;> first | rfl | exact absurd rfl h2
            rw [et, List.append_nil, List.map_map]
            rfl
        · rintro σ4 H4 ⟨y3, rfl, s4, e4⟩
          have hw := (word_wd ho).2
          obtain ⟨t1, _⟩ := tail_len hf.bd ho
          have l1 : ("(" : Str).length = 1 ∧ (")" : Str).length = 1 ∧ (", " : Str).length = 2 := by decide +kernel
          have hl := (wr_len hf.nm hf.bd ho).1
          have hz := hf.sz
          rw [wr_eq h0, len_app, len_app, len_app] at hl
          have hsum : (((i.kids.map It.wr ++ i.tailW).map (·.length)).sum) + (i.kids.map It.wr ++ i.tailW).length * (", " : Str).length ≤ 16777216 := by
            rw [l1.2.2]
            have k := sum_le (f := (fun t : Str => t.length) ∘ It.wr) (g := fun i => 300 * i.sz) i.kids fun j hj => by
              obtain ⟨b', f'⟩ := hf.kid hj
              have := (wr_len f'.nm f'.bd f'.ok).1
              show j.wr.length ≤ 300 * j.sz
              omega
            rw [sum_mul] at k
            have hz2 := sz_eq i
            have t3 : (i.tailW.map (·.length)).sum ≤ (i.tailW.map fun t => t.length + 2).sum := by
              generalize i.tailW = l
              induction l with
              | nil => exact Nat.le_refl _
              | cons a r ih => rw [List.map_cons, List.map_cons, List.sum_cons, List.sum_cons]; omega
            have t4 : i.tailW.length ≤ 1 := by cases i <;> exact (Nat.le_of_ble_eq_true rfl)
            rw [List.map_append, List.sum_append, List.map_map, List.length_append, List.length_map]
            omega
          refine ⟨_, rfl, _, _, rfl, rfl, big (by omega), ⟨_, rfl⟩, _, rfl, _, D, _, rfl, rfl, .inl (sqd e4), hsum, _, _, rfl, rfl, ?_, _, _, rfl, rfl, ?_, ?_⟩
          · rw [TL.join_eq, len_app]
            exact big (by omega)
          · rw [TL.join_eq, len_app, len_app]
            exact big (by omega)
          · rw [TL.join_eq]
            exact strV (wr_eq h0).symm (q _ s4)
end
end NL

namespace NL
open PySem PySem.Spec PyProof.Rows L2
theorem take_sepF {l : List (List Str)} {j : Nat} {t : List Str} (h : l[j]? = some t) : sepF (l.take (j + 1)) = sepF (l.take j) ++ (List.replicate (if (0 : Int) < (0 + (j : Int)) then (1 : Int) else 0).toNat ([","] : List Str)).flatten ++ t := by
  rw [List.take_add_one, h]
  show sepF (l.take j ++ [t]) = _
  rw [sepF_snoc]
  have hj : j < l.length := (List.getElem?_eq_some_iff.mp h).1
  cases j with
  | zero => rfl
  | succ j =>
    have hne : l.take (j + 1) ≠ [] := fun e => by
      have := congrArg List.length e
      rw [List.length_take, List.length_nil] at this
      omega
    rw [if_neg hne, if_pos (by omega)]
    rfl
section
variable {P : Program} {w : World} {K : PySem.W.Frag} {mg : Str → Option Value} {base : Heap}
/-! ### _law_tokens -/
def spTokens (n : Nat) : Sp := fun vs H Q _ => ∃ (v : V) (i : It) (xs : List Str) (B : Nat) (b : Bool), vs = [v] ∧ ItemIn H i v ∧ Fit xs B n b i ∧ ∀ p H', Same H H' → H p = none → H' p = some (.lst (i.tk.map V.str)) → Q (.ref p) H'
theorem ok_law_tokens (T : Txt K mg) : ∀ n : Nat, FnOk P w K mg base CX0 (n + 2) T.a_law_tokens T.d_law_tokens P_law_tokens (spTokens n)
  | 0 => by
    have no : ∀ vs H Q E, ¬ spTokens 0 vs H Q E := fun vs H Q E ⟨v, i, xs, B, b, _, _, f, _⟩ => by
      have := dep_pos i
      have := f.dp
      omega
    exact ⟨fun vs H Q E h => absurd h (no vs H Q E), fun A outer s H args us vs Q E _ _ _ _ h => absurd h (no vs H Q E)⟩
  | n + 1 => by
    have G_law_tokens := ok_law_tokens T n
    have G_law_inner := ok_law_inner (P := P) (w := w) (base := base) T
    refine T.F_law_tokens.ok sc_law_tokens (fun vs H Q E h => ?_) (fun cdv A outer s H vs Q E hr h => ?_)
    · obtain ⟨v, i, xs, B, b, rfl, _⟩ := h
      rfl
    obtain ⟨v, i, xs, B, b, rfl, hi, hf, q⟩ := h
    obtain ⟨a, rfl⟩ := hi.ref
    obtain ⟨r, ha⟩ := hi.head
    have ho := hf.ok
    obtain ⟨c0, cn, ct_, c1, c2⟩ := word_cls ho
    have e60 : (10 : Nat) ^ 61 = 10 * 10 ^ 60 := by decide
    refine ⟨_, (pss_cons (ps_if (pt_cmpR op_eq (pe_ix ix_tup (pv 0) pe_int (fun _ _ => rfl)) pe_str (nomark _))
    (pss_one (ps_ret (pe_lst (pa_cons (pe_callTy call_str_int (by rfl) T.z_str (by decide +kernel) (pa_cons (pe_ix ix_tup (pv 0) pe_int (fun _ _ => rfl)) pa_nil)) pa_nil))))
    pss_nil)
    (pss_cons (ps_if (pt_cmpR op_eq (pe_ix ix_tup (pv 0) pe_int (fun _ _ => rfl)) pe_str (nomark _))
    (pss_one (ps_ret (pe_lst (pa_cons (pe_ix ix_tup (pv 0) pe_int (fun _ _ => rfl)) pa_nil))))
    pss_nil)
    (pss_cons (ps_if (PW.pt (pw_or (pt_cmpR op_eq (pe_ix ix_tup (pv 0) pe_int (fun _ _ => rfl)) pe_str (nomark _)) (pw_or1 (pt_cmpR op_eq (pe_ix ix_tup (pv 0) pe_int (fun _ _ => rfl)) pe_str (nomark _)))))
    (pss_one (ps_ret (pe_lst (pa_cons (pe_ix ix_tup (pv 0) pe_int (fun _ _ => rfl)) pa_nil))))
    pss_nil)
    (pss_cons (ps_set (i := 1) sc_law_tokens.nd rfl (Or.inl rfl) (pe_lst (pa_cons (pe_ix ix_tup (pv 0) pe_int (fun _ _ => rfl)) (pa_cons pe_str pa_nil))))
    (pss_cons (ps_set (i := 2) sc_law_tokens.nd rfl (Or.inl rfl) (pe_call G_law_inner (hr.mono (by omega)) (by rfl) T.m_law_inner T.F_law_inner.kp T.b_law_inner .nil pass0 (pa_cons (pv 0) pa_nil)))
    (pss_cons (ps_for  PassesOwn.never rfl (pi_range1 (by rfl) T.z_range (pa_cons (pe_callB call_len_seq (by rfl) T.z_len PySem.boot_len (pa_cons (pv 2) pa_nil)) pa_nil)) (pg_name (i := 3) sc_law_tokens.nd rfl (Or.inl rfl))
    (pss_one (ps_set (i := 1) sc_law_tokens.nd rfl (Or.inl rfl) (pe_op op_cat (pe_op op_cat (pv 1) (pe_op op_rep (pe_lst (pa_cons pe_str pa_nil)) (pe_callTy call_int1 (by rfl) T.z_int (by decide +kernel) (pa_cons (pe_cmpR op_gt (pv 3) pe_int (nomark _)) pa_nil)))) (pe_call G_law_tokens (hr.mono (by omega)) (by rfl) T.m_law_tokens T.F_law_tokens.kp T.b_law_tokens .nil pass0 (pa_cons (pe_ix ix_list (pv 2) (pv 3) (fun _ _ => rfl)) pa_nil))))))
    (C8.pss_cut (ps_if (PW.pt (pw_or (pt_cmpR op_eq (pe_ix ix_tup (pv 0) pe_int (fun _ _ => rfl)) pe_str (nomark _)) (pw_or1 (pt_cmpR op_eq (pe_ix ix_tup (pv 0) pe_int (fun _ _ => rfl)) pe_str (nomark _)))))
    (pss_one (ps_set (i := 1) sc_law_tokens.nd rfl (Or.inl rfl) (pe_op op_cat (pv 1) (pe_lst (pa_cons pe_str (pa_cons (pe_callTy call_str_int (by rfl) T.z_str (by decide +kernel) (pa_cons (pe_ix ix_tup (pv 0) pe_int (fun _ _ => rfl)) pa_nil)) pa_nil))))))
    pss_nil)
    (pss_one (ps_ret (pe_op op_cat (pv 1) (pe_lst (pa_cons pe_str pa_nil)))))))))))), ?_⟩
    refine ⟨_, rfl, a, _, 0, _, rfl, rfl, sqt ha, atI0, rfl, _, rfl, ?_⟩
    by_cases h0 : i.cls = 0
    · rcases hi.leaf h0 with ⟨n, e, e1⟩ | ⟨n, e, e1⟩ | ⟨n, e, e1⟩
      · subst e
        refine ifT (by show decide (V.str ("number" : Str) = V.str ("number" : Str)) = true; decide +kernel) ?_
        have hn : n.natAbs ≤ B := by cases ho; assumption
        have hb := hf.bd
        refine ⟨_, rfl, a, _, 1, _, rfl, rfl, sqt e1, atI1, n, rfl, log_ok (by omega), (Nat.le_of_ble_eq_true rfl), fun p hp => ?_⟩
        exact q p _ (same_new hp _) hp (by rw [upd_same, It.tk]; rfl)
      · subst e
        refine ifF (by show decide (V.str ("name" : Str) = V.str ("number" : Str)) = false; decide +kernel) ?_
        refine ⟨_, rfl, a, _, 0, _, rfl, rfl, sqt ha, atI0, rfl, _, rfl, ?_⟩
        refine ifT (by show decide (V.str ("name" : Str) = V.str ("name" : Str)) = true; decide +kernel) ?_
        refine ⟨_, rfl, a, _, 1, _, rfl, rfl, sqt e1, atI1, (Nat.le_of_ble_eq_true rfl), fun p hp => ?_⟩
        exact q p _ (same_new hp _) hp (by rw [upd_same, It.tk]; rfl)
      · subst e
        refine ifF (by cases n <;> decide +kernel) ?_
        refine ⟨_, rfl, a, _, 0, _, rfl, rfl, sqt ha, atI0, rfl, _, rfl, ?_⟩
        refine ifF (by cases n <;> decide +kernel) ?_
        refine ⟨_, rfl, a, _, 0, _, rfl, rfl, sqt ha, atI0, rfl, _, rfl, ?_⟩
        refine' cutP ?f ?b
        case f =>
          intro body
          refine ite2 (fun c => iteT body) (fun c => ?_)
          refine ⟨_, rfl, a, _, 0, _, rfl, rfl, sqt ha, atI0, rfl, _, rfl, ?_⟩
          refine ite2 (fun c => body) (fun c2 => ?_)
          exfalso
          cases n
          · exact c2 (by decide +kernel)
          · exact c (by decide +kernel)
        case b =>
          refine ⟨_, rfl, a, _, 0, _, rfl, rfl, sqt ha, atI0, (Nat.le_of_ble_eq_true rfl), fun p hp => ?_⟩
          exact q p _ (same_new hp _) hp (by rw [upd_same, It.tk]; rfl)
    refine ifF (word_ne ho h0 (by decide +kernel)) ?_
    refine ⟨_, rfl, a, _, 0, _, rfl, rfl, sqt ha, atI0, rfl, _, rfl, ?_⟩
    refine ifF (word_ne ho h0 (by decide +kernel)) ?_
    refine ⟨_, rfl, a, _, 0, _, rfl, rfl, sqt ha, atI0, rfl, _, rfl, ?_⟩
    refine ifF (word_ne ho h0 (by decide +kernel)) ?_
    refine ⟨_, rfl, a, _, 0, _, rfl, rfl, sqt ha, atI0, rfl, _, rfl, ?_⟩
    refine ifF (word_ne ho h0 (by decide +kernel)) ?_
    -- found, parts
    refine ⟨_, rfl, a, _, 0, _, rfl, rfl, sqt ha, atI0, (Nat.le_of_ble_eq_true rfl), fun p1 hp1 => ?_⟩
    have s1 := fun o => same_new hp1 o
    refine ⟨_, rfl, _, i, xs, B, b, rfl, hi.mono (Tp.same (s1 _)), ho, fun lp ys H2 s2 hlp e2 hk => ?_⟩
    have hkl := kids_len ho
    have hwl := (wr_len hf.nm hf.bd ho).2
    have hz := hf.sz
    have htk := tk_eq h0
    have hlen : ∀ j ≤ i.kids.length, (sepF ((i.kids.map It.tk).take j)).length ≤ 10 * i.sz := by
      intro j hj
      have e : sepF (i.kids.map It.tk) = sepF ((i.kids.map It.tk).take j) ++ (sepF (i.kids.map It.tk)).drop (sepF ((i.kids.map It.tk).take j)).length := by
        have hpre : ∀ (l : List (List Str)) (j : Nat), sepF (l.take j) <+: sepF l := by
          intro l j
          cases l with
          | nil => rw [List.take_nil]; exact List.prefix_refl _
          | cons a r =>
            cases j with
            | zero => exact List.nil_prefix
            | succ j =>
              show a ++ (r.take j).flatMap _ <+: a ++ r.flatMap _
              refine (List.prefix_append_right_inj a).mpr ?_
              have : r.flatMap (fun t => ("," : Str) :: t) = (r.take j).flatMap (fun t => ("," : Str) :: t) ++ (r.drop j).flatMap (fun t => ("," : Str) :: t) := by
                rw [← List.flatMap_append, List.take_append_drop]
              rw [this]
              exact List.prefix_append _ _
        exact (List.prefix_iff_eq_append.mp (hpre _ j)).symm
      have l1 := congrArg List.length e
      rw [List.length_append] at l1
      have l2 := congrArg List.length htk
      rw [List.length_append, List.length_append, List.length_append] at l2
      omega
    refine ⟨_, rfl, _, _, rfl, .inl (sqd e2), ((ys.length : Nat) : Int), rfl, by omega, by rw [hk.1]; omega, for_range (lo := 0) (n := ((ys.length : Nat) : Int).toNat) (fun (j : Nat) (σ : L2.St) (H' : Hp) => ∃ (fp : Addr) (y3 : Option V), σ = [some (.ref a), some (.ref fp), some (.ref lp), y3] ∧ Same H2 H' ∧ H' fp = some (.lst ((([i.word, "("] : List Str) ++ sepF ((i.kids.map It.tk).take j)).map V.str))) ?_ ?_ ?_⟩
    · refine ⟨p1, none, rfl, Same.refl H2, ?_⟩
      rw [s2 p1 _ upd_same, List.take_zero]
      rfl
    · rintro j σ H3 hj ⟨fp, y3, rfl, s3, e3⟩
      have hj2 : j < i.kids.length := by rw [← hk.1]; omega
      have hl3 := hlen j (by omega)
      have hcl : ((List.replicate (if decide ((0 : Int) < 0 + (j : Int)) = true then (1 : Int) else 0).toNat ([V.str ","] : List V)).flatten).length ≤ 1 := by split <;> decide
      have hcm : (List.replicate (if decide ((0 : Int) < 0 + (j : Int)) = true then (1 : Int) else 0).toNat ([V.str ","] : List V)).flatten = ((List.replicate (if (0 : Int) < (0 + (j : Int)) then (1 : Int) else 0).toNat ([","] : List Str)).flatten).map V.str := by
        by_cases h : (0 : Int) < 0 + (j : Int)
        · rw [if_pos (decide_eq_true h), if_pos h]; rfl
        · rw [if_neg (by simpa using h), if_neg h]; rfl
      have hx : ys[j]? = some ys[j] := List.getElem?_eq_getElem (by rw [hk.1]; exact hj2)
      obtain ⟨kj, hkj, hin, hmem⟩ := hk.get hx
      obtain ⟨b', hf'⟩ := hf.kid hmem
      refine ⟨_, rfl, ?_⟩
      refine ⟨(Nat.le_of_ble_eq_true rfl), fun p4 hp4 => ?_⟩
      have s4 := fun o => s3.trans (same_new hp4 o)
      refine ⟨_, rfl, _, _, rfl, rfl, .inr ⟨_, rfl, p4, _, _, rfl, rfl, upd_same, ?_, ?_, ?_, fun p5 hp5 => ?_⟩⟩
      · split <;> decide
      · split <;> decide
      · have : ((if decide ((0 : Int) < 0 + (j : Int)) = true then (1 : Int) else 0).toNat) ≤ 1 := by split <;> decide
        show 1 * _ ≤ sizeLine
        exact big (by omega)
      have s5 := fun o => (s4 _).trans (same_new hp5 o)
      have e5 := fun o => ((same_new hp4 _).trans (same_new hp5 o)) fp _ e3
      refine ⟨fp, p5, _, _, rfl, rfl, e5 _, upd_same, ?_, fun p6 hp6 => ?_⟩
      · rw [List.length_map, List.length_append]
        have h1 := hcl
        have h2 : ([i.word, "("] : List Str).length = 2 := rfl
        exact big (by omega)
      have s6 := fun o => (s5 _).trans (same_new hp6 o)
      refine ⟨_, rfl, _, rfl, lp, ys, _, _, rfl, rfl, sqd ((s6 _) _ _ e2), (by rw [Int.zero_add]; exact atI_nat hx), _, kj, xs, B, b', rfl, hin.mono (Tp.same (s6 _)), hf', fun p7 H7 s7 hp7 e7 => ?_⟩
      have hl7 := (wr_len hf'.nm hf'.bd hf'.ok).2
      have hz7 := hf'.sz
      refine ⟨p6, p7, _, _, rfl, rfl, s7 _ _ upd_same, e7, ?_, fun p8 hp8 => ?_⟩
      · rw [List.length_append, List.length_map, List.length_map, List.length_append]
        have h1 := hcl
        have h2 : ([i.word, "("] : List Str).length = 2 := rfl
        exact big (by omega)
      · refine ⟨p8, _, rfl, (s6 _).trans (s7.trans (same_new hp8 _)), ?_⟩
        have ht : (i.kids.map It.tk)[j]? = some kj.tk := by rw [List.getElem?_map, hkj]; rfl
        rw [upd_same, take_sepF ht, hcm, ← List.map_append, ← List.map_append, List.append_assoc, List.append_assoc, List.append_assoc]
    · rintro σ H3 ⟨fp, y3, rfl, s3, e3⟩
      rw [show ((ys.length : Nat) : Int).toNat = (i.kids.map It.tk).length by rw [List.length_map, ← hk.1]; exact Int.toNat_natCast _, List.take_length] at e3
      have hall := hlen i.kids.length (Nat.le_refl _)
      rw [show i.kids.length = (i.kids.map It.tk).length by rw [List.length_map], List.take_length] at hall
      have h2l : ([i.word, "("] : List Str).length = 2 := rfl
      have s13 := (s1 _).trans (s2.trans s3)
      refine ⟨fun σ H4 => ∃ fp : Addr, σ = [some (.ref a), some (.ref fp), some (.ref lp), y3] ∧ Same H3 H4 ∧ H4 fp = some (.lst ((([i.word, "("] : List Str) ++ sepF (i.kids.map It.tk) ++ i.tailT).map V.str)), ?_, ?_⟩
      · by_cases h2 : i.cls = 2
        · obtain ⟨x, jt, m, e1, hj, ej⟩ := hi.divs h2
          have hm : m.natAbs ≤ B + 1 := by
            rw [ej] at ho
            cases ho; assumption
          have hb := hf.bd
          have et : i.tailT = ([",", itxt m] : List Str) := by rw [ej] <;> rfl
          have hw : i.word = "div" ∨ i.word = "mod" := by
            have c := c2
            rw [h2] at c
            have := of_decide_eq_true (show decide (i.word ∈ (["div", "mod"] : List Str)) = true from c)
            simpa using this
          refine' cutP ?f ?b
          case f =>
            intro body
            refine ⟨_, rfl, a, _, 0, _, rfl, rfl, sqt (s13 _ _ ha), atI0, rfl, _, rfl, ?_⟩
            refine ite2 (fun c => iteT body) (fun c => ?_)
            refine ⟨_, rfl, a, _, 0, _, rfl, rfl, sqt (s13 _ _ ha), atI0, rfl, _, rfl, ?_⟩
            refine ite2 (fun c => body) (fun c3 => ?_)
            exfalso
            rcases hw with h | h
            · exact c (decide_eq_true (by rw [h]))
            · exact c3 (decide_eq_true (by rw [h]))
          case b =>
            refine ⟨_, rfl, _, rfl, a, _, 2, _, rfl, rfl, sqt (s13 _ _ e1), atI2, m, rfl, log_ok (by omega), (Nat.le_of_ble_eq_true rfl), fun p4 hp4 => ?_⟩
            refine ⟨fp, p4, _, _, rfl, rfl, same_new hp4 _ _ _ e3, upd_same, ?_, fun p5 hp5 => ?_⟩
            · rw [List.length_map, List.length_append]
              show _ + 2 ≤ sizeLine
              exact big (by omega)
            · refine ⟨p5, rfl, (same_new hp4 _).trans (same_new hp5 _), ?_⟩
              rw [upd_same, et, List.map_append (l₂ := ([",", itxt m] : List Str))]
              rfl
        · have et : i.tailT = [] := by
            cases i <;> first | rfl | exact absurd rfl h2
          have hw : i.word ∉ (["div", "mod"] : List Str) := fun h => by
            have c : decide (i.word ∈ (["div", "mod"] : List Str)) = (i.cls == 2) := c2
            rw [decide_eq_true h] at c
            exact h2 (by simpa using c.symm)
          refine ⟨_, rfl, a, _, 0, _, rfl, rfl, sqt (s13 _ _ ha), atI0, rfl, _, rfl, ?_⟩
          refine ifF (by rw [strE]; exact decide_eq_false fun h => hw (by rw [h]; exact List.mem_cons_self)) ?_
          refine ⟨_, rfl, a, _, 0, _, rfl, rfl, sqt (s13 _ _ ha), atI0, rfl, _, rfl, ?_⟩
          refine ifF (by rw [strE]; exact decide_eq_false fun h => hw (by rw [h]; exact List.mem_cons_of_mem _ List.mem_cons_self)) ?_
          exact ⟨fp, rfl, Same.refl H3, by rw [et, List.append_nil]; exact e3⟩
      · rintro σ4 H4 ⟨fp, rfl, s4, e4⟩
        refine ⟨_, rfl, (Nat.le_of_ble_eq_true rfl), fun p5 hp5 => ?_⟩
        have ht := (tail_len hf.bd ho).2
        refine ⟨fp, p5, _, _, rfl, rfl, same_new hp5 _ _ _ e4, upd_same, ?_, fun p6 hp6 => ?_⟩
        · rw [List.length_map, List.length_append, List.length_append]
          show _ + 1 ≤ sizeLine
          exact big (by omega)
        · refine q p6 _ (s13.trans (s4.trans ((same_new hp5 _).trans (same_new hp6 _)))) ((s13.trans (s4.trans (same_new hp5 _))).free hp6) ?_
          rw [upd_same, htk, List.map_append (l₂ := ([")"] : List Str))]
          rfl
/-! ### _law_written: the tokens, glued -/
def spGlue : Sp := fun vs H Q _ => ∃ (p : Addr) (ts : List Str), vs = [.ref p] ∧ H p = some (.lst (ts.map V.str)) ∧ ts.length ≤ 100000 ∧ (ct ts).length ≤ 1000000 ∧ ∀ H', Same H H' → Q (.str (Str.join "" (ts.map sub))) H'
theorem ok_law_written (T : Txt K mg) : FnOk P w K mg base CX0 1 T.a_law_written T.d_law_written P_law_written spGlue := by
  refine T.F_law_written.ok sc_law_written (fun vs H Q E h => ?_) (fun cdv A outer s H vs Q E hr h => ?_)
  · obtain ⟨p, ts, rfl, _⟩ := h
    rfl
  obtain ⟨p, ts, rfl, hp, hl, hc, q⟩ := h
  refine ⟨_, (pss_one (ps_ret (pe_join pe_str (pe_lc (own := [("token", 1)]) (g := (gName 1)) (tt := tYes) rfl sc_law_written.nd (pi_list (pv 0)) (blkOk_by (N := N_law_written) (sc := defScope s_law_written) (by decide +kernel)) (fun _ _ _ _ _ => (pg_name (i := 1) sc_law_written.nd rfl (Or.inl rfl))) (fun _ _ _ _ _ => pts_nil) (fun _ _ _ _ _ => (pe_dget2 (hu_of hr) (pe_disp (pps_cons pe_str pe_str pps_nil) (by rfl) (by rfl) (fun z => by cases z) (by decide)) (pv 1) (pv 1) ⟨rfl, rfl, rfl, rfl⟩)))))), ?_⟩
  refine ⟨⟨_, rfl⟩, _, rfl, p, rfl, ⟨_, sqd hp⟩, fun D hD => ?_⟩
  refine lc_list (K := K) (a := p) (xs := ts.map V.str) (fun (j : Nat) (H' : Hp) => Same H H' ∧ H' D = some (.lst (((ts.take j).map sub).map V.str))) ?_ ?_ ?_ ?_
  · exact ⟨same_new hD _, by rw [upd_same, List.take_zero]; rfl⟩
  · rintro j H' _ ⟨s3, _⟩
    exact sqd (s3 _ _ hp)
  · rintro j x H' hx ⟨s3, e3⟩
    rw [List.getElem?_map] at hx
    cases hn : ts[j]? with
    | none => rw [hn] at hx; cases hx
    | some t =>
      rw [hn] at hx
      obtain rfl : V.str t = x := Option.some.inj hx
      refine ⟨rfl, yes_if ?_⟩
      refine fun dp hdp => ?_
      refine ⟨upd_same, [(Sum.inr ",", V.str ", ")], rfl, by decide, dp, rfl, .inl ⟨_, .inl upd_same⟩, _, rfl, _, rfl, _, DGet.k (k := Sum.inr t) upd_same, ?_⟩
      have n1 : D ≠ dp := ne_of_none e3 hdp
      have ev : (Option.getD (valV (mergeK [] [((Sum.inr "," : Key), V.str ", ")]) (Sum.inr t)) (V.str t)) = V.str (sub t) := by
        by_cases h : t = ","
        · rw [h]; decide +kernel
        · rw [sub_ne h]
          have : valV (mergeK [] [((Sum.inr "," : Key), V.str ", ")]) (Sum.inr t) = none := by
            have hne : ¬ ((Sum.inr "," : Key) = Sum.inr t) := fun e => h (Sum.inr.inj e).symm
            show valV [((Sum.inr "," : Key), V.str ", ")] (Sum.inr t) = none
            unfold valV
            simp [hne]
          rw [this]; rfl
      have hHd : H dp = none := s3.free hdp
      refine ⟨_, by rw [upd_ne n1, upd_ne n1]; exact e3, ?_, same_put (same_put (same_put s3 hHd) hHd) hD, ?_⟩
      · rw [List.length_map, List.length_map, List.length_take]
        exact big' (by omega)
      · rw [upd_same, List.take_add_one, hn, List.map_append, List.map_append]
        exact congrArg (fun z => some (HO.lst (_ ++ [z]))) ev
  · rintro H3 ⟨s3, e3⟩
    rw [List.length_map, List.take_length] at e3
    refine ⟨_, D, _, rfl, rfl, .inl (sqd e3), ?_, ?_⟩
    · have h := congrArg List.length (ct_join ts)
      rw [join_codes, List.length_flatMap] at h
      have e : ((ts.map sub).map fun t : Str => t.length) = (ts.map sub).map fun t => t.cps.toList.length := List.map_congr_left fun t _ => len_list t
      have l0 : ("" : Str).length = 0 := by decide +kernel
      rw [e, h, l0]
      omega
    · rw [TL.join_eq]
      exact q _ s3
end
end NL

namespace NL
open PySem PySem.Spec PyProof.Rows L2
/-- an f-string, its parts glued -/
def tJoin (ts : List TE) : TE := fun σ H Q => tJs ts Str.empty σ H fun out H1 => Q (.str out) H1
theorem pe_joinedN {X : Cx} {v1 v2 : Expr} {rest : List Expr} {ts : List TE} {pos : Pos} (h : PJ X (v1 :: v2 :: rest) ts) : PE X (.JoinedStr (v1 :: v2 :: rest) pos) (tJoin ts) := pe_joined h
/-! ### plants: rows of names with ranges, steps, a condition -/
abbrev Row := Str × Int × Int
def RowIn (H : Hp) (r : Row) (x : V) : Prop := ∃ q, x = .ref q ∧ H q = some (.tup [.str r.1, .int r.2.1, .int r.2.2])
def RowsAt (H : Hp) (rows : List Row) (xs : List V) : Prop := xs.length = rows.length ∧ ∀ (k : Nat) r x, rows[k]? = some r → xs[k]? = some x → RowIn H r x
def RowsIn (H : Hp) (rows : List Row) (v : V) : Prop := ∃ p xs, v = .ref p ∧ H p = some (.tup xs) ∧ RowsAt H rows xs
theorem RowIn.mono {H H' : Hp} (t : Tp H H') {r : Row} {x : V} (h : RowIn H r x) : RowIn H' r x := by
  obtain ⟨q, e, h⟩ := h
  exact ⟨q, e, t _ _ h⟩
theorem RowsAt.mono {H H' : Hp} (t : Tp H H') {rows : List Row} {xs : List V} (h : RowsAt H rows xs) : RowsAt H' rows xs := ⟨h.1, fun k r x a b => (h.2 k r x a b).mono t⟩
theorem RowsIn.mono {H H' : Hp} (t : Tp H H') {rows : List Row} {v : V} (h : RowsIn H rows v) : RowsIn H' rows v := by
  obtain ⟨p, xs, e, h, k⟩ := h
  exact ⟨p, xs, e, t _ _ h, k.mono t⟩
theorem RowsAt.get {H : Hp} {rows : List Row} {xs : List V} (h : RowsAt H rows xs) {k : Nat} {x : V} (e : xs[k]? = some x) : ∃ r, rows[k]? = some r ∧ RowIn H r x ∧ r ∈ rows := by
  have hk : k < xs.length := (List.getElem?_eq_some_iff.mp e).1
  rw [h.1] at hk
  exact ⟨rows[k], List.getElem?_eq_getElem hk, h.2 k _ x (List.getElem?_eq_getElem hk) e, List.getElem_mem hk⟩
theorem rows0 {H : Hp} : RowsAt H [] [] := ⟨rfl, fun k j y a b => by simp at a⟩
theorem RowsAt.snoc {H : Hp} {l : List Row} {vs : List V} {i : Row} {v : V} (h : RowsAt H l vs) (hi : RowIn H i v) : RowsAt H (l ++ [i]) (vs ++ [v]) := by
  obtain ⟨hl, hin⟩ := h
  refine ⟨by rw [List.length_append, List.length_append, hl] <;> rfl, fun k j x h1 h2 => ?_⟩
  by_cases hk : k < l.length
  · rw [List.getElem?_append_left (by omega)] at h1 h2
    exact hin k j x h1 h2
  · have hk3 : k = l.length := by
      have := (List.getElem?_eq_some_iff.mp h1).1
      rw [List.length_append, List.length_singleton] at this
      omega
    subst hk3
    rw [List.getElem?_append_right (by omega), Nat.sub_self] at h1
    rw [List.getElem?_append_right (by omega), hl, Nat.sub_self] at h2
    obtain rfl : i = j := Option.some.inj h1
    obtain rfl : v = x := Option.some.inj h2
    exact hi
structure Rw (r : Row) : Prop where
  nm : Nw r.1
  lo : r.2.1.natAbs < 10 ^ 61
  hi : r.2.2.natAbs < 10 ^ 61
structure Pl where
  vs : List Row
  ins : List Row
  ns : List Row
  st : List It
  al : It
def PlIn (H : Hp) (p : Pl) (v : V) : Prop := ∃ (a : Addr) (v1 v2 v3 vl : V) (s : Addr) (sx : List V), v = .ref a ∧ H a = some (.tup [v1, v2, v3, .ref s, vl]) ∧ RowsIn H p.vs v1 ∧ RowsIn H p.ins v2 ∧ RowsIn H p.ns v3 ∧ H s = some (.tup sx) ∧ Kids H p.st sx ∧ ItemIn H p.al vl
theorem PlIn.mono {H H' : Hp} (t : Tp H H') {p : Pl} {v : V} (h : PlIn H p v) : PlIn H' p v := by
  obtain ⟨a, v1, v2, v3, vl, s, sx, e, h0, h1, h2, h3, h4, h5, h6⟩ := h
  exact ⟨a, v1, v2, v3, vl, s, sx, e, t _ _ h0, h1.mono t, h2.mono t, h3.mono t, t _ _ h4, h5.mono t, h6.mono t⟩
/-- an item of a plant whose text may be written -/
def Ok1 (i : It) : Prop := ∃ (xs : List Str) (B : Nat) (b : Bool), Fit xs B 12 b i ∧ i.sz ≤ 300
structure PlOk (p : Pl) : Prop where
  v : ∀ r ∈ p.vs, Rw r
  i : ∀ r ∈ p.ins, Rw r
  n : ∀ r ∈ p.ns, Rw r
  s : ∀ i ∈ p.st, Ok1 i
  a : Ok1 p.al
  lv : p.vs.length ≤ 30 ∧ p.ins.length ≤ 30 ∧ p.ns.length ≤ 30
  ls : p.st.length = p.vs.length
  ne : p.vs ≠ []
/-! ### the lines -/
def rowLine (kind : Str) (r : Row) : Str := kind ++ " " ++ r.1 ++ " " ++ itxt r.2.1 ++ " " ++ itxt r.2.2
def nextLine (r : Row) (i : It) : Str := "next " ++ r.1 ++ " " ++ i.wr
def Pl.head (p : Pl) : List Str := p.vs.map (rowLine "state") ++ p.ins.map (rowLine "input") ++ p.ns.map (rowLine "noise")
def Pl.lines (p : Pl) : List Str := p.head ++ List.zipWith nextLine p.vs p.st ++ ["allow " ++ p.al.wr]
def eol (t : Str) : Str := t ++ "\n"
theorem wr_small {i : It} (h : Ok1 i) : i.wr.length ≤ 90000 := by
  obtain ⟨xs, B, b, f, hz⟩ := h
  have := (wr_len f.nm f.bd f.ok).1
  omega
theorem line_len {kind : Str} (hk : kind.length ≤ 10) {r : Row} (h : Rw r) : (rowLine kind r).length ≤ 400 := by
  have h1 := itxt_len h.lo
  have h2 := itxt_len h.hi
  have h3 := h.nm.len
  have l1 : (" " : Str).length = 1 := by decide +kernel
  unfold rowLine
  rw [len_app, len_app, len_app, len_app, len_app, len_app, l1]
  omega
theorem lines_len {p : Pl} (h : PlOk p) : p.lines.length ≤ 121 ∧ ∀ t ∈ p.lines, t.length ≤ 90300 := by
  have hv := h.lv
  constructor
  · unfold Pl.lines Pl.head
    rw [List.length_append, List.length_append, List.length_append, List.length_append, List.length_map, List.length_map, List.length_map, List.length_zipWith, List.length_singleton]
    omega
  · intro t ht
    have k5 : ("state" : Str).length ≤ 10 ∧ ("input" : Str).length ≤ 10 ∧ ("noise" : Str).length ≤ 10 ∧ ("next " : Str).length = 5 ∧ (" " : Str).length = 1 ∧ ("allow " : Str).length = 6 := by decide +kernel
    unfold Pl.lines Pl.head at ht
    simp only [List.mem_append, List.mem_map, List.mem_singleton] at ht
    rcases ht with (((⟨r, hr, rfl⟩ | ⟨r, hr, rfl⟩) | ⟨r, hr, rfl⟩) | ht) | rfl
    · exact Nat.le_trans (line_len k5.1 (h.v r hr)) (by decide)
    · exact Nat.le_trans (line_len k5.2.1 (h.i r hr)) (by decide)
    · exact Nat.le_trans (line_len k5.2.2.1 (h.n r hr)) (by decide)
    · obtain ⟨k, hk⟩ := List.getElem?_of_mem ht
      rw [List.getElem?_zipWith] at hk
      cases e1 : p.vs[k]? with
      | none => rw [e1] at hk; cases hk
      | some r =>
        cases e2 : p.st[k]? with
        | none => rw [e1, e2] at hk; cases hk
        | some i =>
          rw [e1, e2] at hk
          obtain rfl : nextLine r i = t := Option.some.inj hk
          have h1 := wr_small (h.s i (List.mem_of_getElem? e2))
          have h2 := (h.v r (List.mem_of_getElem? e1)).nm.len
          unfold nextLine
          rw [len_app, len_app, len_app, k5.2.2.2.1, k5.2.2.2.2.1]
          omega
    · have h1 := wr_small h.a
      rw [len_app, k5.2.2.2.2.2]
      omega
section
variable {P : Program} {w : World} {K : PySem.W.Frag} {mg : Str → Option Value} {base : Heap}
/-! ### _range_lines, _names_of -/
def spRangeLines : Sp := fun vs H Q _ => ∃ (kind : Str) (v : V) (rows : List Row), vs = [.str kind, v] ∧ RowsIn H rows v ∧ (∀ r ∈ rows, Rw r) ∧ rows.length ≤ 100 ∧ kind.length ≤ 10 ∧ ∀ p H', Same H H' → H p = none → H' p = some (.lst ((rows.map (rowLine kind)).map V.str)) → Q (.ref p) H'
theorem ok_range_lines (T : Txt K mg) : FnOk P w K mg base CX0 1 T.a_range_lines T.d_range_lines P_range_lines spRangeLines := by
  refine T.F_range_lines.ok sc_range_lines (fun vs H Q E h => ?_) (fun cdv A outer s H vs Q E hr h => ?_)
  · obtain ⟨kind, v, rows, rfl, _⟩ := h
    rfl
  obtain ⟨kind, v, rows, rfl, ⟨tp, xs, rfl, ht, hrs⟩, hrw, hl, hk, q⟩ := h
  refine ⟨_, (pss_one (ps_ret (pe_lc (own := [("name", 2), ("low", 3), ("high", 4)]) (g := (gTup K 3 (gCons (gName 2) (gCons (gName 3) (gCons (gName 4) gNil))))) (tt := tYes) rfl sc_range_lines.nd (pi_tup (pv 1)) (blkOk_by (N := N_range_lines) (sc := defScope s_range_lines) (by decide +kernel)) (fun _ _ _ _ _ => (pg_tup rfl (pgs_cons (pg_name (i := 2) sc_range_lines.nd rfl (Or.inl rfl)) (pgs_cons (pg_name (i := 3) sc_range_lines.nd rfl (Or.inl rfl)) (pgs_cons (pg_name (i := 4) sc_range_lines.nd rfl (Or.inl rfl)) pgs_nil))))) (fun _ _ _ _ _ => pts_nil) (fun _ _ _ _ _ => (pe_joinedN (.cons (pe_fmt (pv 0)) (.cons pe_str (.cons (pe_fmt (pv 2)) (.cons pe_str (.cons (pe_fmt (pv 3)) (.cons pe_str (.cons (pe_fmt (pv 4)) .nil)))))))))))), ?_⟩
  refine ⟨_, rfl, tp, rfl, ⟨_, sqt ht⟩, fun D hD => ?_⟩
  refine lc_tup (K := K) (a := tp) (xs := xs) (fun (j : Nat) (H' : Hp) => Same H H' ∧ H' D = some (.lst (((rows.take j).map (rowLine kind)).map V.str))) ?_ ?_ ?_ ?_
  · exact ⟨same_new hD _, by rw [upd_same, List.take_zero]; rfl⟩
  · rintro j H' _ ⟨s3, _⟩
    exact sqt (s3 _ _ ht)
  · rintro j x H' hx ⟨s3, e3⟩
    obtain ⟨r, hr1, ⟨q1, rfl, hq⟩, hm⟩ := hrs.get hx
    have hrr := hrw r hm
    have h1 := itxt_len hrr.lo
    have h2 := itxt_len hrr.hi
    have h3 := hrr.nm.len
    have l1 : (" " : Str).length = 1 := by decide +kernel
    have l0 : Str.empty.length = 0 := rfl
    refine ⟨q1, _, rfl, sqt (s3 _ _ hq), rfl, _, _, rfl, _, _, rfl, _, _, rfl, rfl, rfl, yes_if ?_⟩
    refine ⟨_, rfl, .inl ⟨kind, rfl, big (by omega), kind, rfl, ?_, " ", rfl, ?_, _, rfl, .inl ⟨r.1, rfl, big (by omega), r.1, rfl, ?_, " ", rfl, ?_, _, rfl, .inr ⟨r.2.1, rfl, log_ok hrr.lo, itxt r.2.1, rfl, ?_, " ", rfl, ?_, _, rfl, .inr ⟨r.2.2, rfl, log_ok hrr.hi, itxt r.2.2, rfl, ?_, ?_⟩⟩⟩⟩⟩
    all_goals first | (simp only [len_app, l0, l1]; exact big (by omega)) | skip
    refine ⟨_, e3, ?_, same_put s3 hD, ?_⟩
    · rw [List.length_map, List.length_map, List.length_take]
      exact small1000 (by omega)
    · rw [upd_same, List.take_add_one, hr1, List.map_append, List.map_append]
      have e0 : ∀ z : Str, Str.empty ++ z = z := fun z => str_ext (by rw [app_list]; rfl)
      rw [e0]
      rfl
  · rintro H3 ⟨s3, e3⟩
    rw [hrs.1, List.take_length] at e3
    exact q D H3 s3 hD e3
def spNamesOf : Sp := fun vs H Q _ => ∃ (v : V) (rows : List Row), vs = [v] ∧ RowsIn H rows v ∧ rows.length ≤ 100 ∧ ∀ p H', Same H H' → H' p = some (.tup (rows.map fun r => V.str r.1)) → Q (.ref p) H'
theorem ok_names_of (T : Txt K mg) : FnOk P w K mg base CX0 1 T.anames_of T.dnames_of Pnames_of spNamesOf := by
  refine T.Fnames_of.ok scnames_of (fun vs H Q E h => ?_) (fun cdv A outer s H vs Q E hr h => ?_)
  · obtain ⟨v, rows, rfl, _⟩ := h
    rfl
  obtain ⟨v, rows, rfl, ⟨tp, xs, rfl, ht, hrs⟩, hl, q⟩ := h
  refine ⟨_, (pss_one (ps_ret (pe_callTy call_tuple_of (by rfl) T.z_tuple (by decide +kernel) (pa_cons (pe_lc (own := [("name", 1), ("low", 2), ("high", 3)]) (g := (gTup K 3 (gCons (gName 1) (gCons (gName 2) (gCons (gName 3) gNil))))) (tt := tYes) rfl scnames_of.nd (pi_tup (pv 0)) (blkOk_by (N := Nnames_of) (sc := defScope snames_of) (by decide +kernel)) (fun _ _ _ _ _ => (pg_tup rfl (pgs_cons (pg_name (i := 1) scnames_of.nd rfl (Or.inl rfl)) (pgs_cons (pg_name (i := 2) scnames_of.nd rfl (Or.inl rfl)) (pgs_cons (pg_name (i := 3) scnames_of.nd rfl (Or.inl rfl)) pgs_nil))))) (fun _ _ _ _ _ => pts_nil) (fun _ _ _ _ _ => (pv 1))) pa_nil)))), ?_⟩
  refine ⟨_, rfl, tp, rfl, ⟨_, sqt ht⟩, fun D hD => ?_⟩
  refine lc_tup (K := K) (a := tp) (xs := xs) (fun (j : Nat) (H' : Hp) => Same H H' ∧ H' D = some (.lst ((rows.take j).map fun r => V.str r.1))) ?_ ?_ ?_ ?_
  · exact ⟨same_new hD _, by rw [upd_same, List.take_zero]; rfl⟩
  · rintro j H' _ ⟨s3, _⟩
    exact sqt (s3 _ _ ht)
  · rintro j x H' hx ⟨s3, e3⟩
    obtain ⟨r, hr1, ⟨q1, rfl, hq⟩, hm⟩ := hrs.get hx
    refine ⟨q1, _, rfl, sqt (s3 _ _ hq), rfl, _, _, rfl, _, _, rfl, _, _, rfl, rfl, rfl, yes_if ?_⟩
    refine ⟨_, rfl, _, e3, ?_, same_put s3 hD, ?_⟩
    · rw [List.length_map, List.length_take]
      exact small1000 (by omega)
    · rw [upd_same, List.take_add_one, hr1, List.map_append]
      rfl
  · rintro H3 ⟨s3, e3⟩
    rw [hrs.1, List.take_length] at e3
    exact ⟨D, _, rfl, .inl ⟨sqd e3, fun p hp => q p _ (s3.trans (same_new hp _)) upd_same⟩⟩
/-! ### write_plant -/
theorem lines_sum : ∀ l : List Str, (∀ t ∈ l, t.length ≤ 90300) → ((l.map eol).map (·.length)).sum ≤ l.length * 90301
  | [], _ => Nat.le_refl _
  | a :: r, h => by
    have h1 := h a List.mem_cons_self
    have h2 := lines_sum r fun t ht => h t (List.mem_cons_of_mem _ ht)
    rw [List.map_cons, List.map_cons, List.sum_cons, List.length_cons]
    have : (eol a).length = a.length + 1 := by unfold eol; rw [len_app]; rfl
    omega
def spWritePlant : Sp := fun vs H Q _ => ∃ (v : V) (p : Pl), vs = [v] ∧ PlIn H p v ∧ PlOk p ∧ ∀ H', Same H H' → Q (.str (Str.join "" (p.lines.map eol))) H'
theorem ok_write_plant (T : Txt K mg) : FnOk P w K mg base CX0 15 T.awrite_plant T.dwrite_plant Pwrite_plant spWritePlant := by
  have G_range_lines := ok_range_lines (P := P) (w := w) (base := base) T
  have Gnames_of := ok_names_of (P := P) (w := w) (base := base) T
  have G_written := ok_written (P := P) (w := w) (base := base) T 12
  refine T.Fwrite_plant.ok scwrite_plant (fun vs H Q E h => ?_) (fun cdv A outer s H vs Q E hr h => ?_)
  · obtain ⟨v, p, rfl, _⟩ := h
    rfl
  obtain ⟨v, p, rfl, ⟨a, v1, v2, v3, vl, st, sx, rfl, e0, r1, r2, r3, e4, hk, hal⟩, hp, q⟩ := h
  have hlv := hp.lv
  obtain ⟨hlen, hline⟩ := lines_len hp
  refine ⟨_, (pss_cons (ps_asg (pv 0) (pg_tup rfl (pgs_cons (pg_name (i := 1) scwrite_plant.nd rfl (Or.inl rfl)) (pgs_cons (pg_name (i := 2) scwrite_plant.nd rfl (Or.inl rfl)) (pgs_cons (pg_name (i := 3) scwrite_plant.nd rfl (Or.inl rfl)) (pgs_cons (pg_name (i := 4) scwrite_plant.nd rfl (Or.inl rfl)) (pgs_cons (pg_name (i := 5) scwrite_plant.nd rfl (Or.inl rfl)) pgs_nil)))))))
    (pss_cons (ps_set (i := 6) scwrite_plant.nd rfl (Or.inl rfl) (pe_call G_range_lines (hr.mono (by omega)) (by rfl) T.m_range_lines T.F_range_lines.kp T.b_range_lines .nil pass0 (pa_cons pe_str (pa_cons (pv 1) pa_nil))))
    (pss_cons (ps_expr (pe_bm PySem.F.plainAttrs_list PySem.F.slot_list_extend PySem.F.type_list_extend mt_extend (pv 6) (pa_cons (pe_call G_range_lines (hr.mono (by omega)) (by rfl) T.m_range_lines T.F_range_lines.kp T.b_range_lines .nil pass0 (pa_cons pe_str (pa_cons (pv 2) pa_nil))) pa_nil)))
    (pss_cons (ps_expr (pe_bm PySem.F.plainAttrs_list PySem.F.slot_list_extend PySem.F.type_list_extend mt_extend (pv 6) (pa_cons (pe_call G_range_lines (hr.mono (by omega)) (by rfl) T.m_range_lines T.F_range_lines.kp T.b_range_lines .nil pass0 (pa_cons pe_str (pa_cons (pv 3) pa_nil))) pa_nil)))
    (pss_cons (ps_for  PassesOwn.never rfl (RZ.pi_zipA (by rfl) T.z_zip (pa_cons (pe_call Gnames_of (hr.mono (by omega)) (by rfl) T.mnames_of T.Fnames_of.kp T.bnames_of .nil pass0 (pa_cons (pv 1) pa_nil)) (pa_cons (pv 4) pa_nil))) (pg_tup rfl (pgs_cons (pg_name (i := 7) scwrite_plant.nd rfl (Or.inl rfl)) (pgs_cons (pg_name (i := 8) scwrite_plant.nd rfl (Or.inl rfl)) pgs_nil)))
    (pss_one (ps_expr (pe_bm PySem.F.plainAttrs_list PySem.F.slot_list_append PySem.F.type_list_append mt_append (pv 6) (pa_cons (pe_op op_add_str (pe_op op_add_str (pe_op op_add_str pe_str (pv 7)) pe_str) (pe_call G_written (hr.mono (by omega)) (by rfl) T.m_written T.F_written.kp T.b_written .nil pass0 (pa_cons (pv 8) pa_nil))) pa_nil)))))
    (pss_cons (ps_expr (pe_bm PySem.F.plainAttrs_list PySem.F.slot_list_append PySem.F.type_list_append mt_append (pv 6) (pa_cons (pe_op op_add_str pe_str (pe_call G_written (hr.mono (by omega)) (by rfl) T.m_written T.F_written.kp T.b_written .nil pass0 (pa_cons (pv 5) pa_nil))) pa_nil)))
    (pss_one (ps_ret (pe_join pe_str (pe_lc (own := [("line", 9)]) (g := (gName 9)) (tt := tYes) rfl scwrite_plant.nd (pi_list (pv 6)) (blkOk_by (N := Nwrite_plant) (sc := defScope swrite_plant) (by decide +kernel)) (fun _ _ _ _ _ => (pg_name (i := 9) scwrite_plant.nd rfl (Or.inl rfl))) (fun _ _ _ _ _ => pts_nil) (fun _ _ _ _ _ => (pe_op op_add_str (pv 9) pe_str)))))))))))), ?_⟩
  refine ⟨_, rfl, a, _, rfl, sqt e0, rfl, _, _, rfl, _, _, rfl, _, _, rfl, _, _, rfl, _, _, rfl, rfl, ?_⟩
  have k5 : ("state" : Str).length ≤ 10 ∧ ("input" : Str).length ≤ 10 ∧ ("noise" : Str).length ≤ 10 := by decide +kernel
  refine ⟨_, rfl, "state", v1, p.vs, rfl, r1, hp.v, by omega, k5.1, fun lp H1 s1 hlp e1 => ?_⟩
  refine ⟨_, rfl, .inl ⟨rfl, _, sqd e1⟩, _, rfl, "input", v2, p.ins, rfl, r2.mono (Tp.same s1), hp.i, by omega, k5.2.1, fun lp2 H2 s2 hlp2 e2 => ?_⟩
  refine ⟨lp, lp2, _, _, rfl, rfl, s2 _ _ e1, e2, by rw [List.length_map, List.length_map, List.length_map, List.length_map]; exact big (by omega), ?_⟩
  have s12 := fun o => same_put (o := o) (s1.trans s2) hlp
  refine ⟨_, rfl, .inl ⟨rfl, _, sqd upd_same⟩, _, rfl, "noise", v3, p.ns, rfl, r3.mono (Tp.same (s12 _)), hp.n, by omega, k5.2.2, fun lp3 H3 s3 hlp3 e3 => ?_⟩
  refine ⟨lp, lp3, _, _, rfl, rfl, s3 _ _ upd_same, e3, by rw [List.length_append, List.length_map, List.length_map, List.length_map, List.length_map, List.length_map, List.length_map]; exact big (by omega), ?_⟩
  have s13 := fun o => same_put (o := o) ((s12 _).trans s3) hlp
  -- the steps
  refine ⟨_, rfl, v1, p.vs, rfl, r1.mono (Tp.same (s13 _)), by omega, fun np H4 s4 e5 => ?_⟩
  have s14 := (s13 _).trans s4
  refine ⟨_, rfl, np, st, _, _, rfl, .inr ⟨sqt e5, sqt (s14 _ _ e4), ?_⟩⟩
  have hzl : (p.vs.map fun r => V.str r.1).length = sx.length := by rw [List.length_map, hk.1, hp.ls]
  refine RZ.for_zipT hzl (fun (j : Nat) (σ : L2.St) (H' : Hp) => ∃ (y7 y8 : Option V), σ = [some (.ref a), some v1, some v2, some v3, some (.ref st), some vl, some (.ref lp), y7, y8, none] ∧ Same H H' ∧ H' np = some (.tup (p.vs.map fun r => V.str r.1)) ∧ H' lp = some (.lst ((p.head ++ (List.zipWith nextLine p.vs p.st).take j).map V.str))) ?_ ?_ ?_ ?_
  · refine ⟨none, none, rfl, s14, e5, ?_⟩
    rw [s4 _ _ upd_same, List.take_zero, List.append_nil]
    unfold Pl.head
    rw [List.map_append, List.map_append]
  · rintro j σ H' ⟨y7, y8, rfl, s5, e6, e7⟩
    exact ⟨sqt e6, sqt (s5 _ _ e4)⟩
  · rintro j x y tp σ H' hx hy ⟨y7, y8, rfl, s5, e6, e7⟩ htp
    rw [List.getElem?_map] at hx
    cases hr1 : p.vs[j]? with
    | none => rw [hr1] at hx; cases hx
    | some r =>
      rw [hr1] at hx
      obtain rfl : V.str r.1 = x := Option.some.inj hx
      obtain ⟨ij, hij, hin, hmem⟩ := (hk.mono (Tp.same s5)).get hy
      have s6 := fun o => same_new htp o
      obtain ⟨xs, B, b, hf, hz⟩ := hp.s ij hmem
      have hw := wr_small (hp.s ij hmem)
      have hnm := (hp.v r (List.mem_of_getElem? hr1)).nm.len
      have k6 : ("next " : Str).length = 5 ∧ (" " : Str).length = 1 := by decide +kernel
      refine ⟨tp, _, rfl, sqt upd_same, rfl, _, _, rfl, _, _, rfl, rfl, ?_⟩
      refine ⟨_, rfl, .inl ⟨rfl, _, sqd (s6 _ _ _ e7)⟩, _, rfl, _, _, rfl, rfl, ?_, _, _, rfl, rfl, ?_, _, rfl, y, ij, xs, B, b, rfl, hin.mono (Tp.same (s6 _)), hf, fun H7 s7 => ?_⟩
      · rw [k6.1]; exact big (by omega)
      · rw [len_app, k6.1, k6.2]; exact big (by omega)
      · have e8 := s7 _ _ (s6 _ _ _ e7)
        refine ⟨_, _, rfl, rfl, ?_, lp, _, _, rfl, rfl, e8, ?_, ?_⟩
        · rw [len_app, len_app, k6.1, k6.2]; exact big (by omega)
        · rw [List.length_map, List.length_append, List.length_take]
          have h1 : p.head.length ≤ 90 := by
            unfold Pl.head
            rw [List.length_append, List.length_append, List.length_map, List.length_map, List.length_map]
            omega
          have h2 : (List.zipWith nextLine p.vs p.st).length ≤ 30 := by rw [List.length_zipWith]; omega
          exact small1000 (by omega)
        · refine ⟨_, _, rfl, same_put (s5.trans ((s6 _).trans s7)) hlp, tp_put e8 _ _ (s7 _ _ (s6 _ _ _ e6)), ?_⟩
          have hz2 : (List.zipWith nextLine p.vs p.st)[j]? = some (nextLine r ij) := by rw [List.getElem?_zipWith, hr1, hij]
          rw [upd_same, List.take_add_one, hz2, ← List.append_assoc, List.map_append (l₂ := (some (nextLine r ij)).toList)]
          rfl
  · rintro σ H5 ⟨y7, y8, rfl, s5, e6, e7⟩
    have hall : (List.zipWith nextLine p.vs p.st).take (p.vs.map fun r => V.str r.1).length = List.zipWith nextLine p.vs p.st := List.take_of_length_le (by rw [List.length_zipWith, List.length_map]; omega)
    rw [hall] at e7
    obtain ⟨xs, B, b, hf, hz⟩ := hp.a
    have hw := wr_small hp.a
    have k6 : ("allow " : Str).length = 6 := by decide +kernel
    refine ⟨_, rfl, .inl ⟨rfl, _, sqd e7⟩, _, rfl, vl, p.al, xs, B, b, rfl, hal.mono (Tp.same s5), hf, fun H6 s6 => ?_⟩
    have e8 := s6 _ _ e7
    refine ⟨_, _, rfl, rfl, ?_, lp, _, _, rfl, rfl, e8, ?_, ?_⟩
    · rw [k6]; exact big (by omega)
    · rw [List.length_map]
      have h1 : (p.head ++ List.zipWith nextLine p.vs p.st).length ≤ 121 := by
        refine Nat.le_trans ?_ hlen
        unfold Pl.lines
        rw [List.length_append (as := p.head ++ _)]
        omega
      exact small1000 (by omega)
    · have e9 : ∀ o : Hp, (upd H6 lp (.lst ((p.head ++ List.zipWith nextLine p.vs p.st).map V.str ++ [V.str ("allow " ++ p.al.wr)]))) lp = some (.lst (p.lines.map V.str)) := fun _ => by
        rw [upd_same]
        unfold Pl.lines
        rw [List.map_append (l₂ := ["allow " ++ p.al.wr])]
        rfl
      have s7 := fun o => same_put (o := o) (s5.trans s6) hlp
      refine ⟨⟨_, rfl⟩, _, rfl, lp, rfl, ⟨_, sqd (e9 H6)⟩, fun D hD => ?_⟩
      have nlD : lp ≠ D := ne_of_none (e9 H6) hD
      refine lc_list (K := K) (a := lp) (xs := p.lines.map V.str) (fun (j : Nat) (H' : Hp) => Same H H' ∧ H' lp = some (.lst (p.lines.map V.str)) ∧ H' D = some (.lst (((p.lines.take j).map eol).map V.str))) ?_ ?_ ?_ ?_
      · exact ⟨(s7 _).trans (same_new hD _), by rw [upd_ne nlD]; exact e9 H6, by rw [upd_same, List.take_zero]; rfl⟩
      · rintro j H' _ ⟨_, s8, _⟩
        exact sqd s8
      · rintro j x H' hx ⟨s8, e10, e11⟩
        rw [List.getElem?_map] at hx
        cases hn : p.lines[j]? with
        | none => rw [hn] at hx; cases hx
        | some t =>
          rw [hn] at hx
          obtain rfl : V.str t = x := Option.some.inj hx
          have ht := hline t (List.mem_of_getElem? hn)
          have k1 : ("\n" : Str).length = 1 := by decide +kernel
          refine ⟨rfl, yes_if ?_⟩
          refine ⟨_, rfl, _, _, rfl, rfl, by rw [k1]; exact big (by omega), _, e11, ?_, same_put s8 ((s7 _).free hD), ?_, ?_⟩
          · rw [List.length_map, List.length_map, List.length_take]
            exact small1000 (by omega)
          · rw [upd_ne nlD]; exact e10
          · rw [upd_same, List.take_add_one, hn, List.map_append, List.map_append]
            rfl
      · rintro H7 ⟨s8, e10, e11⟩
        rw [List.length_map, List.take_length] at e11
        have hsum := lines_sum p.lines hline
        have k0 : ("" : Str).length = 0 := by decide +kernel
        refine ⟨_, D, _, rfl, rfl, .inl (sqd e11), ?_, ?_⟩
        · rw [k0]
          have : p.lines.length * 90301 ≤ 121 * 90301 := Nat.mul_le_mul_right _ hlen
          omega
        · rw [TL.join_eq]
          exact q _ s8
/-! ### the law's own text of a plant -/
def spItemText : Sp := fun vs H Q _ => ∃ (v : V) (i : It), vs = [v] ∧ ItemIn H i v ∧ Ok1 i ∧ ∀ H', Same H H' → Q (.str i.wr) H'
theorem ok_law_item_text (T : Txt K mg) : FnOk P w K mg base CX0 15 T.a_law_item_text T.d_law_item_text P_law_item_text spItemText := by
  have G_law_tokens := ok_law_tokens (P := P) (w := w) (base := base) T 12
  have G_law_written := ok_law_written (P := P) (w := w) (base := base) T
  refine T.F_law_item_text.ok sc_law_item_text (fun vs H Q E h => ?_) (fun cdv A outer s H vs Q E hr h => ?_)
  · obtain ⟨v, i, rfl, _⟩ := h
    rfl
  obtain ⟨v, i, rfl, hi, ⟨xs, B, b, hf, hz⟩, q⟩ := h
  refine ⟨_, (pss_one (ps_ret (pe_call G_law_written (hr.mono (by omega)) (by rfl) T.m_law_written T.F_law_written.kp T.b_law_written .nil pass0 (pa_cons (pe_call G_law_tokens (hr.mono (by omega)) (by rfl) T.m_law_tokens T.F_law_tokens.kp T.b_law_tokens .nil pass0 (pa_cons (pv 0) pa_nil)) pa_nil)))), ?_⟩
  refine ⟨_, rfl, v, i, xs, B, b, rfl, hi, hf, fun p H1 s1 hp e1 => ?_⟩
  have hw := wr_len hf.nm hf.bd hf.ok
  have hct := ct_tk hf.nm hf.ok
  refine ⟨p, i.tk, rfl, e1, by omega, ?_, fun H2 s2 => ?_⟩
  · rw [hct, ← len_list]
    omega
  · exact strV (str_ext (by rw [ct_join]; exact hct)) (q _ (s1.trans s2))
/-- the rows of the three kinds -/
def Pl.kind (p : Pl) : Nat → List Row
  | 0 => p.vs
  | 1 => p.ins
  | _ => p.ns
def kindS : Nat → Str
  | 0 => "state"
  | 1 => "input"
  | _ => "noise"
def Pl.headTo (p : Pl) : Nat → List Str
  | 0 => []
  | k + 1 => p.headTo k ++ (p.kind k).map (rowLine (kindS k))
theorem head3 (p : Pl) : p.headTo 3 = p.head := by
  show ([] ++ _ ++ _) ++ _ = _
  rfl
def spRows : Sp := fun vs H Q _ => ∃ (v : V) (p : Pl), vs = [v] ∧ PlIn H p v ∧ PlOk p ∧ ∀ r H', Same H H' → H r = none → H' r = some (.lst (p.lines.map V.str)) → Q (.ref r) H'
theorem ok_law_rows_of_text (T : Txt K mg) : FnOk P w K mg base CX0 16 T.a_law_rows_of_text T.d_law_rows_of_text P_law_rows_of_text spRows := by
  have G_law_item_text := ok_law_item_text (P := P) (w := w) (base := base) T
  refine T.F_law_rows_of_text.ok sc_law_rows_of_text (fun vs H Q E h => ?_) (fun cdv A outer s H vs Q E hr h => ?_)
  · obtain ⟨v, p, rfl, _⟩ := h
    rfl
  obtain ⟨v, p, rfl, ⟨a, v1, v2, v3, vl, st, sx, rfl, e0, r1, r2, r3, e4, hk, hal⟩, hp, q⟩ := h
  have hlv := hp.lv
  obtain ⟨hlen, hline⟩ := lines_len hp
  have hkl : ∀ k, (p.kind k).length ≤ 30 := fun k => match k with
    | 0 => hlv.1
    | 1 => hlv.2.1
    | _ + 2 => hlv.2.2
  have hhead : ∀ k, (p.headTo k).length ≤ 30 * k := by
    intro k
    induction k with
    | zero => exact Nat.zero_le _
    | succ k ih =>
      show (p.headTo k ++ (p.kind k).map _).length ≤ _
      rw [List.length_append, List.length_map]
      have := hkl k
      omega
  have hkr : ∀ k < 3, RowsIn H (p.kind k) ([v1, v2, v3].getD k .non) ∧ (∀ r ∈ p.kind k, Rw r) ∧ (p.kind k).length ≤ 30 := by
    intro k hk3
    match k, hk3 with
    | 0, _ => exact ⟨r1, hp.v, hlv.1⟩
    | 1, _ => exact ⟨r2, hp.i, hlv.2.1⟩
    | 2, _ => exact ⟨r3, hp.n, hlv.2.2⟩
  refine ⟨_, (pss_cons (ps_set (i := 1) sc_law_rows_of_text.nd rfl (Or.inl rfl) (pe_lst pa_nil))
    (pss_cons (ps_for  PassesOwn.never rfl (pi_range1 (by rfl) T.z_range (pa_cons pe_int pa_nil)) (pg_name (i := 2) sc_law_rows_of_text.nd rfl (Or.inl rfl))
    (pss_one (ps_for  PassesOwn.never rfl (pi_tup (pe_ix ix_tup (pv 0) (pv 2) (fun _ _ => rfl))) (pg_name (i := 3) sc_law_rows_of_text.nd rfl (Or.inl rfl))
    (pss_one (ps_expr (pe_bm PySem.F.plainAttrs_list PySem.F.slot_list_append PySem.F.type_list_append mt_append (pv 1) (pa_cons (pe_op op_add_str (pe_op op_add_str (pe_op op_add_str (pe_op op_add_str (pe_op op_add_str (pe_op op_add_str (pe_ix ix_list (pe_lst (pa_cons pe_str (pa_cons pe_str (pa_cons pe_str pa_nil)))) (pv 2) (fun _ _ => rfl)) pe_str) (pe_ix ix_tup (pv 3) pe_int (fun _ _ => rfl))) pe_str) (pe_callTy call_str_int (by rfl) T.z_str (by decide +kernel) (pa_cons (pe_ix ix_tup (pv 3) pe_int (fun _ _ => rfl)) pa_nil))) pe_str) (pe_callTy call_str_int (by rfl) T.z_str (by decide +kernel) (pa_cons (pe_ix ix_tup (pv 3) pe_int (fun _ _ => rfl)) pa_nil))) pa_nil)))))))
    (pss_cons (ps_for  PassesOwn.never rfl (pi_range1 (by rfl) T.z_range (pa_cons (pe_callB call_len_seq (by rfl) T.z_len PySem.boot_len (pa_cons (pe_ix ix_tup (pv 0) pe_int (fun _ _ => rfl)) pa_nil)) pa_nil)) (pg_name (i := 2) sc_law_rows_of_text.nd rfl (Or.inl rfl))
    (pss_one (ps_expr (pe_bm PySem.F.plainAttrs_list PySem.F.slot_list_append PySem.F.type_list_append mt_append (pv 1) (pa_cons (pe_op op_add_str (pe_op op_add_str (pe_op op_add_str pe_str (pe_ix ix_tup (pe_ix ix_tup (pe_ix ix_tup (pv 0) pe_int (fun _ _ => rfl)) (pv 2) (fun _ _ => rfl)) pe_int (fun _ _ => rfl))) pe_str) (pe_call G_law_item_text (hr.mono (by omega)) (by rfl) T.m_law_item_text T.F_law_item_text.kp T.b_law_item_text .nil pass0 (pa_cons (pe_ix ix_tup (pe_ix ix_tup (pv 0) pe_int (fun _ _ => rfl)) (pv 2) (fun _ _ => rfl)) pa_nil))) pa_nil)))))
    (pss_one (ps_ret (pe_op op_cat (pv 1) (pe_lst (pa_cons (pe_op op_add_str pe_str (pe_call G_law_item_text (hr.mono (by omega)) (by rfl) T.m_law_item_text T.F_law_item_text.kp T.b_law_item_text .nil pass0 (pa_cons (pe_ix ix_tup (pv 0) pe_int (fun _ _ => rfl)) pa_nil))) pa_nil)))))))), ?_⟩
  refine ⟨(Nat.le_of_ble_eq_true rfl), fun rp hrp => ?_⟩
  refine ⟨3, rfl, by decide, by decide, for_range (lo := 0) (n := 3) (fun (j : Nat) (σ : L2.St) (H' : Hp) => ∃ (y2 y3 : Option V), σ = [some (.ref a), some (.ref rp), y2, y3] ∧ Same H H' ∧ H' rp = some (.lst ((p.headTo j).map V.str))) ?_ ?_ ?_⟩
  · exact ⟨none, none, rfl, same_new hrp _, upd_same⟩
  · rintro k σ H1 hk3 ⟨y2, y3, rfl, s1, e1⟩
    obtain ⟨⟨tp, xs, etp, et, hrs⟩, hrw, hrl⟩ := hkr k hk3
    have hat : atI [v1, v2, v3, .ref st, vl] (0 + (k : Int)) = some (.ref tp) := by
      rw [Int.zero_add]
      refine atI_nat ?_
      match k, hk3, etp with
      | 0, _, e => exact congrArg some e
      | 1, _, e => exact congrArg some e
      | 2, _, e => exact congrArg some e
    refine ⟨_, rfl, _, rfl, a, _, _, _, rfl, rfl, sqt (s1 _ _ e0), hat, tp, rfl, ⟨_, sqt (s1 _ _ et)⟩, ?_⟩
    refine for_tup (K := K) (a := tp) (xs := xs) (fun (j : Nat) (σ : L2.St) (H' : Hp) => ∃ (y3 : Option V), σ = [some (.ref a), some (.ref rp), some (.int (0 + (k : Int))), y3] ∧ Same H H' ∧ H' rp = some (.lst ((p.headTo k ++ ((p.kind k).take j).map (rowLine (kindS k))).map V.str))) ?_ ?_ ?_ ?_
    · exact ⟨y3, rfl, s1, by rw [e1, List.take_zero]; simp⟩
    · rintro j σ H' _ ⟨y3, rfl, s2, _⟩
      exact sqt (s2 _ _ et)
    · rintro j x σ H2 hx ⟨y3, rfl, s2, e2⟩
      obtain ⟨r, hr1, ⟨q1, rfl, hq⟩, hm⟩ := hrs.get hx
      have hrr := hrw r hm
      have h1 := itxt_len hrr.lo
      have h2 := itxt_len hrr.hi
      have h3 := hrr.nm.len
      have l1 : (" " : Str).length = 1 := by decide +kernel
      have hks : (kindS k).length ≤ 10 := by
        match k, hk3 with
        | 0, _ => decide +kernel
        | 1, _ => decide +kernel
        | 2, _ => decide +kernel
      have hkat : atI [V.str "state", V.str "input", V.str "noise"] (0 + (k : Int)) = some (V.str (kindS k)) := by
        rw [Int.zero_add]
        refine atI_nat ?_
        match k, hk3 with
        | 0, _ => rfl
        | 1, _ => rfl
        | 2, _ => rfl
      refine ⟨_, rfl, .inl ⟨rfl, _, sqd e2⟩, ?_⟩
      refine ⟨(Nat.le_of_ble_eq_true rfl), fun p5 hp5 => ?_⟩
      have s5 := fun o => same_new hp5 o
      have hq5 := fun o => s5 o _ _ (s2 _ _ hq)
      refine ⟨_, rfl, _, _, _, _, rfl, rfl, sqd upd_same, hkat, _, _, rfl, rfl, ?_, _, rfl, _, _, _, _, rfl, rfl, sqt (hq5 _), atI0, _, _, rfl, rfl, ?_, _, _, rfl, rfl, ?_, _, rfl, _, _, _, _, rfl, rfl, sqt (hq5 _), atI1, _, rfl, log_ok hrr.lo, _, _, rfl, rfl, ?_, _, _, rfl, rfl, ?_, _, rfl, _, _, _, _, rfl, rfl, sqt (hq5 _), atI2, _, rfl, log_ok hrr.hi, _, _, rfl, rfl, ?_, ?_⟩
      all_goals first | (simp only [len_app, l1]; exact big (by first | omega | (have h4 : (itxt r.2.1).length = (Str.ofString (toString r.2.1)).length := rfl; have h5 : (itxt r.2.2).length = (Str.ofString (toString r.2.2)).length := rfl; omega))) | skip
      have e6 := s5 (.lst [V.str "state", V.str "input", V.str "noise"]) _ _ e2
      refine ⟨rp, _, _, rfl, rfl, e6, ?_, _, rfl, same_put (s2.trans (s5 _)) hrp, ?_⟩
      · rw [List.length_map, List.length_append, List.length_map, List.length_take]
        have := hhead k
        exact small1000 (by omega)
      · rw [upd_same, List.take_add_one, hr1]
        simp only [List.map_append, List.append_assoc]
        rfl
    · rintro σ H2 ⟨y3, rfl, s2, e2⟩
      rw [hrs.1, List.take_length] at e2
      exact ⟨_, _, rfl, s2, e2⟩
  · rintro σ H1 ⟨y2, y3, rfl, s1, e1⟩
    rw [head3] at e1
    have hh : p.head.length ≤ 90 := by rw [← head3]; exact hhead 3
    refine ⟨_, rfl, a, _, 3, _, rfl, rfl, sqt (s1 _ _ e0), atI_nat (j := 3) rfl, _, _, rfl, .inr (sqt (s1 _ _ e4)), ((sx.length : Nat) : Int), rfl, by omega, by rw [hk.1, hp.ls]; omega, for_range (lo := 0) (n := ((sx.length : Nat) : Int).toNat) (fun (j : Nat) (σ : L2.St) (H' : Hp) => ∃ (y2 : Option V), σ = [some (.ref a), some (.ref rp), y2, y3] ∧ Same H H' ∧ H' rp = some (.lst ((p.head ++ (List.zipWith nextLine p.vs p.st).take j).map V.str))) ?_ ?_ ?_⟩
    · exact ⟨y2, rfl, s1, by rw [List.take_zero, List.append_nil]; exact e1⟩
    · rintro j σ H2 hj ⟨y2, rfl, s2, e2⟩
      have hj2 : j < p.st.length := by rw [← hk.1]; omega
      have hx : sx[j]? = some sx[j] := List.getElem?_eq_getElem (by rw [hk.1]; exact hj2)
      obtain ⟨ij, hij, hin, hmem⟩ := (hk.mono (Tp.same s2)).get hx
      obtain ⟨tp, vx, etv, etp, hvs⟩ := r1
      have hvl : j < vx.length := by rw [hvs.1, ← hp.ls]; exact hj2
      obtain ⟨r, hr1, ⟨q1, eq1, hq⟩, hm⟩ := hvs.get (List.getElem?_eq_getElem hvl)
      have hw := wr_small (hp.s ij hmem)
      have hnm := (hp.v r hm).nm.len
      have k6 : ("next " : Str).length = 5 ∧ (" " : Str).length = 1 := by decide +kernel
      subst etv
      refine ⟨_, rfl, .inl ⟨rfl, _, sqd e2⟩, ?_⟩
      refine ⟨_, rfl, a, _, 0, _, rfl, rfl, sqt (s2 _ _ e0), atI0, _, rfl, tp, vx, _, _, rfl, rfl, sqt (s2 _ _ etp), (by rw [Int.zero_add]; exact atI_nat (List.getElem?_eq_getElem hvl)), q1, _, 0, _, eq1, rfl, sqt (s2 _ _ hq), atI0, _, _, rfl, rfl, ?_, _, _, rfl, rfl, ?_, ?_⟩
      · rw [k6.1]; exact big (by omega)
      · rw [len_app, k6.1, k6.2]; exact big (by omega)
      · refine ⟨_, rfl, a, _, 3, _, rfl, rfl, sqt (s2 _ _ e0), atI_nat (j := 3) rfl, _, rfl, st, sx, _, _, rfl, rfl, sqt (s2 _ _ e4), (by rw [Int.zero_add]; exact atI_nat hx), _, ij, rfl, hin, hp.s ij hmem, fun H3 s3 => ?_⟩
        have e3 := s3 _ _ e2
        refine ⟨_, _, rfl, rfl, ?_, rp, _, _, rfl, rfl, e3, ?_, _, rfl, same_put (s2.trans s3) hrp, ?_⟩
        · rw [len_app, len_app, k6.1, k6.2]; exact big (by omega)
        · rw [List.length_map, List.length_append, List.length_take]
          have h2 : (List.zipWith nextLine p.vs p.st).length ≤ 30 := by rw [List.length_zipWith]; omega
          exact small1000 (by omega)
        · have hz2 : (List.zipWith nextLine p.vs p.st)[j]? = some (nextLine r ij) := by rw [List.getElem?_zipWith, hr1, hij]
          rw [upd_same, List.take_add_one, hz2, ← List.append_assoc, List.map_append (l₂ := (some (nextLine r ij)).toList)]
          rfl
    · rintro σ H2 ⟨y2, rfl, s2, e2⟩
      have hall : (List.zipWith nextLine p.vs p.st).take ((sx.length : Nat) : Int).toNat = List.zipWith nextLine p.vs p.st := List.take_of_length_le (by rw [List.length_zipWith, Int.toNat_natCast, hk.1]; omega)
      rw [hall] at e2
      have hw := wr_small hp.a
      have k6 : ("allow " : Str).length = 6 := by decide +kernel
      refine ⟨_, rfl, _, rfl, a, _, 4, _, rfl, rfl, sqt (s2 _ _ e0), atI_nat (j := 4) rfl, vl, p.al, rfl, hal.mono (Tp.same s2), hp.a, fun H3 s3 => ?_⟩
      refine ⟨_, _, rfl, rfl, by rw [k6]; exact big (by omega), (Nat.le_of_ble_eq_true rfl), fun p5 hp5 => ?_⟩
      have e3 := same_new hp5 (.lst [V.str ("allow " ++ p.al.wr)]) _ _ (s3 _ _ e2)
      refine ⟨rp, p5, _, _, rfl, rfl, e3, upd_same, ?_, fun p6 hp6 => ?_⟩
      · rw [List.length_map, List.length_append, List.length_zipWith]
        show _ + 1 ≤ sizeLine
        exact big (by omega)
      · refine q p6 _ (s2.trans (s3.trans ((same_new hp5 _).trans (same_new hp6 _)))) ((s2.trans (s3.trans (same_new hp5 _))).free hp6) ?_
        rw [upd_same]
        unfold Pl.lines
        rw [List.map_append (l₂ := ["allow " ++ p.al.wr])]
        rfl
end
end NL

namespace NL
open PySem PySem.Spec PyProof.Rows L2
/-! ### runs of signs -/
def tl (z : Str) : List Nat := z.cps.toList
theorem tl_len (z : Str) : (tl z).length = z.length := (len_list z).symm
theorem tl_app (a b : Str) : tl (a ++ b) = tl a ++ tl b := app_list a b
theorem tl_mk (l : List Nat) : tl ⟨l.toArray⟩ = l := rfl
theorem mk_tl (z : Str) : (⟨(tl z).toArray⟩ : Str) = z := str_ext rfl
def rn (cs l : List Nat) : Nat := (l.takeWhile fun c => decide (c ∈ cs)).length
theorem rn_nil {cs : List Nat} : rn cs [] = 0 := rfl
theorem rn_in {cs l : List Nat} {c : Nat} (h : c ∈ cs) : rn cs (c :: l) = 1 + rn cs l := by
  unfold rn
  rw [List.takeWhile_cons, if_pos (decide_eq_true h), List.length_cons, Nat.add_comm]
theorem rn_out {cs l : List Nat} {c : Nat} (h : c ∉ cs) : rn cs (c :: l) = 0 := by
  unfold rn
  rw [List.takeWhile_cons, if_neg (by rw [decide_eq_false h]; exact Bool.false_ne_true)]
  rfl
theorem rn_le (cs : List Nat) : ∀ l, rn cs l ≤ l.length
  | [] => Nat.le_refl _
  | c :: r => by
    by_cases h : c ∈ cs
    · rw [rn_in h, List.length_cons]
      have := rn_le cs r
      omega
    · rw [rn_out h]; exact Nat.zero_le _
theorem rn_app {cs : List Nat} : ∀ (l r : List Nat), (∀ c ∈ l, c ∈ cs) → rn cs (l ++ r) = l.length + rn cs r
  | [], r, _ => by rw [List.nil_append, List.length_nil, Nat.zero_add]
  | c :: l, r, h => by
    rw [List.cons_append, rn_in (h c List.mem_cons_self), rn_app l r fun x hx => h x (List.mem_cons_of_mem _ hx), List.length_cons]
    omega
theorem rn_all {cs l : List Nat} (h : ∀ c ∈ l, c ∈ cs) : rn cs l = l.length := by
  have := rn_app l [] h
  rw [List.append_nil, rn_nil] at this
  exact this
theorem rn_stop {cs : List Nat} {l : List Nat} (h : ∀ c r, l = c :: r → c ∉ cs) : rn cs l = 0 := by
  cases l with
  | nil => rfl
  | cons c r => exact rn_out (h c r rfl)
abbrev lets : List Nat := tl "abcdefghijklmnopqrstuvwxyz"
abbrev digs : List Nat := tl "0123456789"
theorem in_lets {c : Nat} : c ∈ lets ↔ 97 ≤ c ∧ c ≤ 122 := by
  have e : lets = List.range' 97 26 := by decide +kernel
  rw [e, List.mem_range'_1]
  omega
theorem in_digs {c : Nat} : c ∈ digs ↔ 48 ≤ c ∧ c ≤ 57 := by
  have e : digs = List.range' 48 10 := by decide +kernel
  rw [e, List.mem_range'_1]
  omega
theorem in_blank {c : Nat} : c ∈ tl (" " : Str) ↔ c = 32 := by
  have e : tl (" " : Str) = [32] := by decide +kernel
  rw [e, List.mem_singleton]
/-- how long the piece is that begins here -/
def pc : List Nat → Nat
  | [] => 0
  | c :: r => if c ∈ lets then rn lets (c :: r) else if c ∈ digs ∨ c = 45 then 1 + rn digs r else 1
theorem pc_pos {l : List Nat} (h : l ≠ []) : 1 ≤ pc l ∧ pc l ≤ l.length := by
  cases l with
  | nil => exact absurd rfl h
  | cons c r =>
    show 1 ≤ (if c ∈ lets then rn lets (c :: r) else if c ∈ digs ∨ c = 45 then 1 + rn digs r else 1) ∧ (if c ∈ lets then rn lets (c :: r) else if c ∈ digs ∨ c = 45 then 1 + rn digs r else 1) ≤ (c :: r).length
    have := rn_le digs r
    rw [List.length_cons]
    split
    · rename_i hc
      rw [rn_in hc]
      have := rn_le lets r
      omega
    · split <;> omega
abbrev sp : List Nat := tl (" " : Str)
/-- the tokens of what stands from `at` on (it begins with no blank), each with its column -/
inductive Toks : List Nat → Nat → List (Str × Nat) → Prop where
  | nil (n : Nat) : Toks [] n []
  | cons {l : List Nat} {n : Nat} {ts : List (Str × Nat)} : l ≠ [] → Toks ((l.drop (pc l)).drop (rn sp (l.drop (pc l)))) (n + pc l + rn sp (l.drop (pc l))) ts → Toks l n ((⟨(l.take (pc l)).toArray⟩, n + 1) :: ts)
/-- a list of tokens in the heap -/
def TokL (H : Hp) (xs : List V) (ts : List (Str × Nat)) : Prop := xs.length = ts.length ∧ ∀ (k : Nat) t, ts[k]? = some t → ∃ a, xs[k]? = some (.ref a) ∧ H a = some (.tup [.str t.1, .int (t.2 : Nat)])
def TokIn (H : Hp) (q : Addr) (ts : List (Str × Nat)) : Prop := ∃ xs, H q = some (.lst xs) ∧ TokL H xs ts
theorem TokL.mono {H H' : Hp} {xs : List V} {ts : List (Str × Nat)} (h : TokL H xs ts) (t : Tp H H') : TokL H' xs ts := ⟨h.1, fun k u e => by
  obtain ⟨a, h1, h2⟩ := h.2 k u e
  exact ⟨a, h1, t _ _ h2⟩⟩
theorem TokIn.same {H H' : Hp} {q : Addr} {ts : List (Str × Nat)} (h : TokIn H q ts) (s : Same H H') : TokIn H' q ts := by
  obtain ⟨xs, e, t⟩ := h
  exact ⟨xs, s _ _ e, t.mono (Tp.same s)⟩
theorem TokL.snoc {H : Hp} {xs : List V} {ts : List (Str × Nat)} {z : Str} {n : Nat} {a : Addr} (h : TokL H xs ts) (e : H a = some (.tup [.str z, .int (n : Nat)])) : TokL H (xs ++ [.ref a]) (ts ++ [(z, n)]) := by
  refine ⟨by rw [List.length_append, List.length_append, h.1] <;> rfl, fun k t ht => ?_⟩
  by_cases hk : k < ts.length
  · rw [List.getElem?_append_left hk] at ht
    rw [List.getElem?_append_left (by rw [h.1]; exact hk)]
    exact h.2 k t ht
  · have hk2 : k = ts.length := by
      have := (List.getElem?_eq_some_iff.mp ht).1
      rw [List.length_append, List.length_singleton] at this
      omega
    subst hk2
    rw [List.getElem?_append_right (Nat.le_refl _), Nat.sub_self] at ht
    obtain rfl : (z, n) = t := Option.some.inj ht
    exact ⟨a, by rw [List.getElem?_append_right (by rw [h.1]; exact Nat.le_refl _), h.1, Nat.sub_self] <;> rfl, e⟩
theorem TokIn.get {H : Hp} {q : Addr} {ts : List (Str × Nat)} (h : TokIn H q ts) {n : Nat} {w : Str} {r : List Str} (e : (ts.map Prod.fst).drop n = w :: r) : ∃ xs a c, H q = some (.lst xs) ∧ atI xs (n : Int) = some (.ref a) ∧ H a = some (.tup [.str w, .int c]) := by
  obtain ⟨xs, eq, t⟩ := h
  have h1 : (ts.map Prod.fst)[n]? = some w := by
    have := congrArg (fun l : List Str => l[0]?) e
    simpa using this
  rw [List.getElem?_map] at h1
  cases hn : ts[n]? with
  | none => rw [hn] at h1; cases h1
  | some u =>
    rw [hn] at h1
    obtain rfl : u.1 = w := Option.some.inj h1
    obtain ⟨a, h2, h3⟩ := t.2 n u hn
    exact ⟨xs, a, _, eq, atI_nat h2, h3⟩
theorem drop_cons {α : Type} {l : List α} {n : Nat} {c : α} {r : List α} (h : l.drop n = c :: r) : l[n]? = some c ∧ l.drop (n + 1) = r ∧ n < l.length := by
  have h1 := congrArg (fun l : List α => l[0]?) h
  have h2 := congrArg (List.drop 1) h
  refine ⟨by simpa using h1, by simpa [List.drop_drop] using h2, ?_⟩
  refine Nat.lt_of_not_le fun hle => ?_
  rw [List.drop_eq_nil_of_le hle] at h
  cases h
theorem cut_mid {z : Str} {i j : Nat} (h : i ≤ j) (h2 : j ≤ z.length) : cutS z (some (i : Int)) (some (j : Int)) = ⟨(((tl z).drop i).take (j - i)).toArray⟩ := by
  unfold cutS
  rw [show HT.sIx z.length z.length (some (j : Int)) = min j z.length from HT.sIx_nat _ _ _, show HT.sIx z.length 0 (some (i : Int)) = min i z.length from HT.sIx_nat _ _ _, Nat.min_eq_left h2, Nat.min_eq_left (Nat.le_trans h h2)]
  rfl
theorem one_str {a b : Nat} : (V.str ⟨#[a]⟩ = V.str ⟨#[b]⟩) ↔ a = b := by
  constructor
  · intro h
    have := congrArg (fun z : Str => z.cps.toList) (V.str.inj h)
    simpa using this
  · rintro rfl; rfl
section
variable {P : Program} {w : World} {K : PySem.W.Frag} {mg : Str → Option Value} {base : Heap}
/-! ### run_end -/
def spRun : Sp := fun vs H Q _ => ∃ (z cs : Str) (n : Nat), vs = [.str z, .int (n : Int), .str cs] ∧ n ≤ z.length ∧ z.length ≤ 10000000 ∧ Q (.int ((n + rn (tl cs) ((tl z).drop n) : Nat) : Int)) H
theorem szl {n : Nat} (h : n ≤ 10000000) : n ≤ sizeLine := Nat.le_trans h (by decide)
theorem ok_run_end (T : Txt K mg) : FnOk P w K mg base CX0 1 T.arun_end T.drun_end Prun_end spRun := by
  refine T.Frun_end.ok scrun_end (fun vs H Q E h => ?_) (fun cdv A outer s H vs Q E hr h => ?_)
  · obtain ⟨z, cs, n, rfl, _⟩ := h
    rfl
  obtain ⟨z, cs, n, rfl, hn, hz, q⟩ := h
  refine ⟨_, (pss_cons (ps_while PassesOwn.never (PW.pt (pw_and (pt_cmpR op_lt (pv 1) (pe_callB call_len_str (by rfl) T.z_len PySem.boot_len (pa_cons (pv 0) pa_nil)) (nomark _)) (pw_and1 (pt_cmpR op_in_sign (pe_ix ix_str (pv 0) (pv 1) (fun _ _ => rfl)) (pv 2) (by rfl)))))
    (pss_one (ps_aug (i := 1) scrun_end.nd rfl (Or.inl rfl) pe_int ip_add)))
    (pss_one (ps_ret (pv 1)))), ?_⟩
  refine ⟨fun m σ H' => ∃ k : Nat, σ = [some (.str z), some (.int (k : Int)), some (.str cs)] ∧ H' = H ∧ m = z.length - k ∧ k ≤ z.length ∧ k + rn (tl cs) ((tl z).drop k) = n + rn (tl cs) ((tl z).drop n), ⟨_, n, rfl, rfl, rfl, hn, rfl⟩, ?_⟩
  rintro m σ H' ⟨k, rfl, rfl, rfl, hk, e⟩
  refine ⟨_, rfl, _, rfl, z, rfl, szl hz, _, _, rfl, rfl, _, rfl, ?_⟩
  refine ite2 (fun c => ?_) (fun c => ?_)
  · have hk2 : k < (tl z).length := by
      have := of_decide_eq_true c
      rw [tl_len]
      omega
    obtain ⟨ch, hc⟩ : ∃ ch, (tl z).drop k = ch :: (tl z).drop (k + 1) := ⟨_, List.drop_eq_getElem_cons hk2⟩
    refine ⟨_, rfl, _, rfl, _, _, ch, rfl, rfl, szl hz, atI_nat (drop_cons hc).1, ?_⟩
    refine ⟨_, rfl, ch, cs, rfl, rfl, _, rfl, ?_⟩
    by_cases hin : ch ∈ tl cs
    · refine ifT (decide_eq_true hin) ?_
      refine ⟨fun σ' H'' => ∃ m', m' < z.length - k ∧ ∃ k : Nat, σ' = [some (.str z), some (.int (k : Int)), some (.str cs)] ∧ H'' = H' ∧ m' = z.length - k ∧ k ≤ z.length ∧ k + rn (tl cs) ((tl z).drop k) = n + rn (tl cs) ((tl z).drop n), fun _ _ h => h, ?_⟩
      refine ⟨_, rfl, _, _, rfl, rfl, ?_⟩
      rw [tl_len] at hk2
      rw [hc, rn_in hin] at e
      exact ⟨z.length - (k + 1), by omega, k + 1, by rw [Int.natCast_add] <;> rfl, rfl, rfl, by omega, by omega⟩
    · refine ifF (decide_eq_false hin) ?_
      rw [hc, rn_out hin, Nat.add_zero] at e
      refine ⟨_, rfl, ?_⟩
      rw [e]
      exact q
  · have hk2 : (tl z).drop k = [] := by
      refine List.drop_eq_nil_of_le ?_
      rw [tl_len]
      refine Nat.le_of_not_lt fun h => c (decide_eq_true ?_)
      omega
    rw [hk2, rn_nil, Nat.add_zero] at e
    refine iteF ⟨_, rfl, ?_⟩
    rw [e]
    exact q
end
end NL

namespace NL
open PySem PySem.Spec PyProof.Rows L2
/-! ### what an integer is -/
theorem szl' {n : Nat} (h : n ≤ 10000000) : n < sizeLine := Nat.lt_of_le_of_lt h (by decide)
def rmv : List Nat → List Nat
  | [] => []
  | c :: r => if c = 45 then r else c :: r
theorem rmv_eq (z : Str) : tl (Txt.removeprefix z "-") = rmv (tl z) := by
  have m : ("-" : Str).cps = #[45] := by decide +kernel
  have ml : ("-" : Str).length = 1 := by decide +kernel
  have hs : Builtin.Str.subAt z "-" 0 = decide ((tl z).take 1 = [45]) := by
    unfold Builtin.Str.subAt
    rw [m, ml, Bool.beq_eq_decide_eq]
    refine decide_eq_decide.mpr ⟨fun h => ?_, fun h => ?_⟩
    · have := congrArg Array.toList h
      rw [Array.toList_extract] at this
      exact this
    · refine Array.toList_inj.mp ?_
      rw [Array.toList_extract]
      exact h
  unfold Txt.removeprefix
  rw [hs, ml]
  cases e : tl z with
  | nil =>
    rw [if_neg (by simp)]
    exact e
  | cons c r =>
    by_cases hc : c = 45
    · subst hc
      rw [if_pos (by simp)]
      have hl : z.length = r.length + 1 := by rw [← tl_len, e, List.length_cons]
      show tl (if (z.length - 1 == z.length) = true then z else Builtin.Str.strSub z 1 z.length) = r
      rw [if_neg (by simp; omega)]
      show (z.cps.extract 1 z.length).toList = r
      rw [Array.toList_extract]
      show ((tl z).drop 1).take (z.length - 1) = r
      rw [e, hl]
      simp
    · rw [if_neg (by simp [hc])]
      show tl z = if c = 45 then r else c :: r
      rw [if_neg hc, e]
def isI (z : Str) : Bool := decide (z = "0") || (decide (¬ (rmv (tl z) = [] ∨ (rmv (tl z)).head? = some 48 ∨ 60 < (rmv (tl z)).length)) && decide (rn digs (rmv (tl z)) = (rmv (tl z)).length))
def isN (z : Str) : Bool := decide (z ≠ "") && (decide (z ∉ res) && decide (rn lets (tl z) = (tl z).length))
theorem tl_nil {z : Str} : tl z = [] ↔ z = "" := ⟨fun h => str_ext h, fun h => by rw [h]; decide +kernel⟩
theorem boolE {Q : VK} {b b' : Bool} {H : Hp} (h : b = b') (q : Q (.bl b') H) : Q (.bl b) H := by rw [h]; exact q
theorem intN {a b : Nat} : decide (V.int (a : Int) = V.int (b : Int)) = decide (a = b) := decide_eq_decide.mpr ⟨fun h => Int.ofNat.inj (V.int.inj h), fun h => by rw [h]⟩
section
variable {P : Program} {w : World} {K : PySem.W.Frag} {mg : Str → Option Value} {base : Heap}
/-! ### is_name -/
def spIsN : Sp := fun vs H Q _ => ∃ z : Str, vs = [.str z] ∧ z.length ≤ 10000000 ∧ Q (.bl (isN z)) H
theorem ok_is_name (T : Txt K mg) : FnOk P w K mg base CX0 2 T.ais_name T.dis_name Pis_name spIsN := by
  have Grun_end := ok_run_end (P := P) (w := w) (base := base) T
  refine T.Fis_name.ok scis_name (fun vs H Q E h => ?_) (fun cdv A outer s H vs Q E hr h => ?_)
  · obtain ⟨z, rfl, _⟩ := h
    rfl
  obtain ⟨z, rfl, hz, q⟩ := h
  refine ⟨_, (pss_one (ps_ret (pe_and (pe_cmpR op_ne (pv 0) pe_str (nomark _)) (pe_and (pe_cmpR op_notIn_seq (pv 0) (pe_glob (v := .ref T.c_WORDS) rfl T.g_WORDS rfl) (by rfl)) (pe_one (pe_cmpR op_eq (pe_call Grun_end (hr.mono (by omega)) (by rfl) T.mrun_end T.Frun_end.kp T.brun_end .nil pass0 (pa_cons (pv 0) (pa_cons pe_int (pa_cons (pe_glob rfl T.g_LETTERS T.r_LETTERS) pa_nil)))) (pe_callB call_len_str (by rfl) T.z_len PySem.boot_len (pa_cons (pv 0) pa_nil)) (nomark _))))))), ?_⟩
  refine ⟨_, rfl, rfl, _, rfl, ?_⟩
  refine ite2 (fun c => ?_) (fun c => ?_)
  · have h1 : z ≠ "" := fun e => by
      rw [e] at c
      revert c
      decide +kernel
    refine ⟨_, rfl, T.c_WORDS, _, rfl, .inr (.inr T.k_WORDS), rfl, by decide +kernel, _, rfl, ?_⟩
    rw [if_pos rfl, show [V.str "true", V.str "false", V.str "add", V.str "sub", V.str "mul", V.str "div", V.str "mod", V.str "min", V.str "max", V.str "abs", V.str "if", V.str "less", V.str "equal", V.str "not", V.str "all", V.str "any"] = res.map V.str from rfl, inV_str]
    refine ite2 (fun c2 => ?_) (fun c2 => ?_)
    · have h2 : z ∉ res := fun h => by
        rw [decide_eq_true h] at c2
        cases c2
      refine ⟨_, rfl, z, _, 0, rfl, Nat.zero_le _, hz, _, rfl, z, rfl, szl hz, rfl, ?_⟩
      refine boolE ?_ q
      rw [intN]
      unfold isN
      rw [decide_eq_true h1, decide_eq_true h2, Bool.true_and, Bool.true_and, Nat.zero_add, List.drop_zero, tl_len]
    · have h2 : z ∈ res := Decidable.byContradiction fun h => c2 (by rw [decide_eq_false h] <;> rfl)
      refine boolE ?_ q
      unfold isN
      rw [decide_eq_true h1, decide_eq_false (fun h => h h2), Bool.false_and, Bool.and_false]
  · refine boolE ?_ q
    have h1 : z = "" := Decidable.byContradiction fun h => c (by
      show (!decide (V.str z = V.str "")) = true
      rw [strE, decide_eq_false h]
      rfl)
    unfold isN
    rw [decide_eq_false (fun h => h h1), Bool.false_and]
/-! ### is_integer -/
def spIsI : Sp := fun vs H Q _ => ∃ z : Str, vs = [.str z] ∧ z.length ≤ 10000000 ∧ Q (.bl (isI z)) H
theorem isI_bad {z : Str} (h0 : z ≠ "0") (h : rmv (tl z) = [] ∨ (rmv (tl z)).head? = some 48 ∨ 60 < (rmv (tl z)).length) : false = isI z := by
  unfold isI
  rw [decide_eq_false h0, decide_eq_false (fun g => g h), Bool.false_or, Bool.false_and]
theorem ok_is_integer (T : Txt K mg) : FnOk P w K mg base CX0 2 T.ais_integer T.dis_integer Pis_integer spIsI := by
  have Grun_end := ok_run_end (P := P) (w := w) (base := base) T
  refine T.Fis_integer.ok scis_integer (fun vs H Q E h => ?_) (fun cdv A outer s H vs Q E hr h => ?_)
  · obtain ⟨z, rfl, _⟩ := h
    rfl
  obtain ⟨z, rfl, hz, q⟩ := h
  refine ⟨_, (pss_cons (ps_if (pt_cmpR op_eq (pv 0) pe_str (nomark _))
    (pss_one (ps_ret pe_bl))
    pss_nil)
    (pss_cons (ps_set (i := 1) scis_integer.nd rfl (Or.inl rfl) (pe_bm PySem.F.plainAttrs_str PySem.F.slot_str_removeprefix PySem.F.type_str_removeprefix mt_removeprefix (pv 0) (pa_cons pe_str pa_nil)))
    (pss_cons (ps_if (PW.pt (pw_or (pt_cmpR op_eq (pv 1) pe_str (nomark _)) (pw_or (pt_cmpR op_eq (pe_ix ix_str (pv 1) pe_int (fun _ _ => rfl)) pe_str (nomark _)) (pw_or1 (pt_cmpR op_gt (pe_callB call_len_str (by rfl) T.z_len PySem.boot_len (pa_cons (pv 1) pa_nil)) (pe_glob rfl T.g_MOST_DIGITS T.r_MOST_DIGITS) (nomark _))))))
    (pss_one (ps_ret pe_bl))
    pss_nil)
    (pss_one (ps_ret (pe_cmpR op_eq (pe_call Grun_end (hr.mono (by omega)) (by rfl) T.mrun_end T.Frun_end.kp T.brun_end .nil pass0 (pa_cons (pv 1) (pa_cons pe_int (pa_cons (pe_glob rfl T.g_DIGITS T.r_DIGITS) pa_nil)))) (pe_callB call_len_str (by rfl) T.z_len PySem.boot_len (pa_cons (pv 1) pa_nil)) (nomark _))))))), ?_⟩
  refine ⟨_, rfl, rfl, _, rfl, ?_⟩
  rw [strE]
  refine ite2 (fun c => ?_) (fun c => ?_)
  · refine boolE ?_ q
    unfold isI
    rw [c, Bool.true_or]
  have h0 : z ≠ "0" := fun h => c (decide_eq_true h)
  refine ⟨_, rfl, rfl, _, _, rfl, rfl, szl hz, ?_⟩
  have hd : tl (Txt.removeprefix z "-") = rmv (tl z) := rmv_eq z
  generalize Txt.removeprefix z "-" = d at hd
  have hdl : d.length ≤ 10000000 := by
    rw [← tl_len, hd]
    refine Nat.le_trans ?_ hz
    rw [← tl_len]
    cases tl z with
    | nil => exact Nat.le_refl _
    | cons c r =>
      show (if c = 45 then r else c :: r).length ≤ _
      split
      · rw [List.length_cons]; omega
      · exact Nat.le_refl _
  refine ⟨_, rfl, rfl, _, rfl, ?_⟩
  rw [strE]
  refine ite2 (fun c1 => iteT ?_) (fun c1 => ?_)
  · refine boolE (isI_bad h0 (.inl ?_)) q
    rw [← hd, of_decide_eq_true c1]
    decide +kernel
  have hne : tl d ≠ [] := fun h => c1 (decide_eq_true (tl_nil.mp h))
  obtain ⟨ch, r, hcr⟩ : ∃ ch r, tl d = ch :: r := by
    cases e : tl d with
    | nil => exact absurd e hne
    | cons a b => exact ⟨a, b, rfl⟩
  refine ⟨_, rfl, _, _, ch, rfl, rfl, szl hdl, ?_, rfl, _, rfl, ?_⟩
  · show atI (tl d) 0 = some ch
    rw [hcr]
    exact atI0
  have e48 : ("0" : Str) = ⟨#[48]⟩ := by decide +kernel
  rw [e48, show decide (V.str ⟨#[ch]⟩ = V.str ⟨#[48]⟩) = decide (ch = 48) from decide_eq_decide.mpr one_str]
  refine ite2 (fun c2 => iteT ?_) (fun c2 => ?_)
  · refine boolE (isI_bad h0 (.inr (.inl ?_))) q
    rw [← hd, hcr, of_decide_eq_true c2]
    rfl
  refine ⟨_, rfl, d, rfl, szl hdl, _, _, rfl, rfl, _, rfl, ?_⟩
  refine ite2 (fun c3 => ?_) (fun c3 => ?_)
  · refine boolE (isI_bad h0 (.inr (.inr ?_))) q
    have := of_decide_eq_true c3
    rw [← hd, tl_len]
    omega
  refine ⟨_, rfl, d, _, 0, rfl, Nat.zero_le _, hdl, _, rfl, d, rfl, szl hdl, rfl, ?_⟩
  refine boolE ?_ q
  have good : ¬ (tl d = [] ∨ (tl d).head? = some 48 ∨ 60 < (tl d).length) := by
    rintro (h | h | h)
    · exact hne h
    · rw [hcr] at h
      exact c2 (decide_eq_true (Option.some.inj h))
    · rw [tl_len] at h
      refine c3 (decide_eq_true ?_)
      show (60 : Int) < (d.length : Int)
      omega
  rw [intN]
  unfold isI
  rw [decide_eq_false h0, Bool.false_or, ← hd, decide_eq_true good, Bool.true_and, Nat.zero_add, List.drop_zero, tl_len]
/-! ### _piece_end -/
def spPiece : Sp := fun vs H Q _ => ∃ (z : Str) (n : Nat), vs = [.str z, .int (n : Int)] ∧ n < z.length ∧ z.length ≤ 10000000 ∧ Q (.int ((n + pc ((tl z).drop n) : Nat) : Int)) H
theorem ok_piece_end (T : Txt K mg) : FnOk P w K mg base CX0 2 T.a_piece_end T.d_piece_end P_piece_end spPiece := by
  have Grun_end := ok_run_end (P := P) (w := w) (base := base) T
  refine T.F_piece_end.ok sc_piece_end (fun vs H Q E h => ?_) (fun cdv A outer s H vs Q E hr h => ?_)
  · obtain ⟨z, n, rfl, _⟩ := h
    rfl
  obtain ⟨z, n, rfl, hn, hz, q⟩ := h
  refine ⟨_, (pss_cons (ps_if (pt_cmpR op_in_sign (pe_ix ix_str (pv 0) (pv 1) (fun _ _ => rfl)) (pe_glob rfl T.g_LETTERS T.r_LETTERS) (by rfl))
    (pss_one (ps_ret (pe_call Grun_end (hr.mono (by omega)) (by rfl) T.mrun_end T.Frun_end.kp T.brun_end .nil pass0 (pa_cons (pv 0) (pa_cons (pv 1) (pa_cons (pe_glob rfl T.g_LETTERS T.r_LETTERS) pa_nil))))))
    pss_nil)
    (pss_cons (ps_if (PW.pt (pw_or (pt_cmpR op_in_sign (pe_ix ix_str (pv 0) (pv 1) (fun _ _ => rfl)) (pe_glob rfl T.g_DIGITS T.r_DIGITS) (by rfl)) (pw_or1 (pt_cmpR op_eq (pe_ix ix_str (pv 0) (pv 1) (fun _ _ => rfl)) pe_str (nomark _)))))
    (pss_one (ps_ret (pe_call Grun_end (hr.mono (by omega)) (by rfl) T.mrun_end T.Frun_end.kp T.brun_end .nil pass0 (pa_cons (pv 0) (pa_cons (pe_op op_add (pv 1) pe_int) (pa_cons (pe_glob rfl T.g_DIGITS T.r_DIGITS) pa_nil))))))
    pss_nil)
    (pss_one (ps_ret (pe_op op_add (pv 1) pe_int))))), ?_⟩
  obtain ⟨ch, hc⟩ : ∃ ch, (tl z).drop n = ch :: (tl z).drop (n + 1) := ⟨_, List.drop_eq_getElem_cons (by rw [tl_len]; exact hn)⟩
  have hat : atI z.cps.toList (n : Int) = some ch := atI_nat (drop_cons hc).1
  have hpc : pc ((tl z).drop n) = if ch ∈ lets then rn lets ((tl z).drop n) else if ch ∈ digs ∨ ch = 45 then 1 + rn digs ((tl z).drop (n + 1)) else 1 := by
    rw [hc] <;> rfl
  refine ⟨_, rfl, _, rfl, _, _, ch, rfl, rfl, szl hz, hat, ch, _, rfl, rfl, _, rfl, ?_⟩
  refine ite2 (fun c => ?_) (fun c => ?_)
  · have h1 : ch ∈ lets := of_decide_eq_true c
    rw [if_pos h1] at hpc
    refine ⟨_, rfl, _, rfl, z, _, n, rfl, Nat.le_of_lt hn, hz, ?_⟩
    rw [hpc] at q
    exact q
  have h1 : ch ∉ lets := fun h => c (decide_eq_true h)
  rw [if_neg h1] at hpc
  have e45 : ("-" : Str) = ⟨#[45]⟩ := by decide +kernel
  by_cases hd : ch ∈ digs ∨ ch = 45
  · rw [if_pos hd] at hpc
    rw [hpc, ← Nat.add_assoc] at q
    refine' cutP ?f ?b
    case f =>
      intro body
      refine ⟨_, rfl, _, rfl, _, _, ch, rfl, rfl, szl hz, hat, ch, _, rfl, rfl, _, rfl, ?_⟩
      refine ite2 (fun c2 => iteT body) (fun c2 => ?_)
      refine ⟨_, rfl, _, rfl, _, _, ch, rfl, rfl, szl hz, hat, rfl, _, rfl, ?_⟩
      rw [e45, show decide (V.str ⟨#[ch]⟩ = V.str ⟨#[45]⟩) = decide (ch = 45) from decide_eq_decide.mpr one_str]
      exact ifT (decide_eq_true (hd.resolve_left fun h => c2 (decide_eq_true h))) body
    case b =>
      exact ⟨_, rfl, _, rfl, _, _, rfl, rfl, z, _, n + 1, rfl, hn, hz, q⟩
  · rw [if_neg hd] at hpc
    rw [hpc] at q
    refine ⟨_, rfl, _, rfl, _, _, ch, rfl, rfl, szl hz, hat, ch, _, rfl, rfl, _, rfl, ?_⟩
    refine ifF (decide_eq_false fun h => hd (.inl h)) ?_
    refine ⟨_, rfl, _, rfl, _, _, ch, rfl, rfl, szl hz, hat, rfl, _, rfl, ?_⟩
    rw [e45, show decide (V.str ⟨#[ch]⟩ = V.str ⟨#[45]⟩) = decide (ch = 45) from decide_eq_decide.mpr one_str]
    exact ifF (decide_eq_false fun h => hd (.inr h)) ⟨_, rfl, _, _, rfl, rfl, q⟩
/-! ### tokens_of -/
def spToksOf : Sp := fun vs H Q _ => ∃ (z : Str) (ts : List (Str × Nat)), vs = [.str z] ∧ z.length ≤ 10000000 ∧ Toks ((tl z).drop (rn sp (tl z))) (rn sp (tl z)) ts ∧
  ∀ q H', Same H H' → H q = none → TokIn H' q (ts ++ [(("" : Str), z.length + 1)]) → Q (.ref q) H'
theorem ok_tokens_of (T : Txt K mg) : FnOk P w K mg base CX0 3 T.atokens_of T.dtokens_of Ptokens_of spToksOf := by
  have Grun_end := ok_run_end (P := P) (w := w) (base := base) T
  have G_piece_end := ok_piece_end (P := P) (w := w) (base := base) T
  refine T.Ftokens_of.ok sctokens_of (fun vs H Q E h => ?_) (fun cdv A outer s H vs Q E hr h => ?_)
  · obtain ⟨z, ts, rfl, _⟩ := h
    rfl
  obtain ⟨z, ts, rfl, hz, ht, q⟩ := h
  refine ⟨_, (pss_cons (ps_set (i := 1) sctokens_of.nd rfl (Or.inl rfl) (pe_lst pa_nil))
    (pss_cons (ps_set (i := 2) sctokens_of.nd rfl (Or.inl rfl) (pe_call Grun_end (hr.mono (by omega)) (by rfl) T.mrun_end T.Frun_end.kp T.brun_end .nil pass0 (pa_cons (pv 0) (pa_cons pe_int (pa_cons pe_str pa_nil)))))
    (pss_cons (ps_while PassesOwn.never (pt_cmpR op_lt (pv 2) (pe_callB call_len_str (by rfl) T.z_len PySem.boot_len (pa_cons (pv 0) pa_nil)) (nomark _))
    (pss_cons (ps_set (i := 3) sctokens_of.nd rfl (Or.inl rfl) (pe_call G_piece_end (hr.mono (by omega)) (by rfl) T.m_piece_end T.F_piece_end.kp T.b_piece_end .nil pass0 (pa_cons (pv 0) (pa_cons (pv 2) pa_nil))))
    (pss_cons (ps_expr (pe_bm PySem.F.plainAttrs_list PySem.F.slot_list_append PySem.F.type_list_append mt_append (pv 1) (pa_cons (pe_tup (pa_cons (pe_slice sl_str (pv 0) (po_some (pv 2)) (po_some (pv 3))) (pa_cons (pe_op op_add (pv 2) pe_int) pa_nil))) pa_nil)))
    (pss_one (ps_set (i := 2) sctokens_of.nd rfl (Or.inl rfl) (pe_call Grun_end (hr.mono (by omega)) (by rfl) T.mrun_end T.Frun_end.kp T.brun_end .nil pass0 (pa_cons (pv 0) (pa_cons (pv 3) (pa_cons pe_str pa_nil)))))))))
    (pss_cons (ps_expr (pe_bm PySem.F.plainAttrs_list PySem.F.slot_list_append PySem.F.type_list_append mt_append (pv 1) (pa_cons (pe_tup (pa_cons pe_str (pa_cons (pe_op op_add (pe_callB call_len_str (by rfl) T.z_len PySem.boot_len (pa_cons (pv 0) pa_nil)) pe_int) pa_nil))) pa_nil)))
    (pss_one (ps_ret (pv 1))))))), ?_⟩
  refine ⟨(by decide), fun D hD => ?_⟩
  refine ⟨_, rfl, z, _, 0, rfl, Nat.zero_le _, hz, ?_⟩
  rw [Nat.zero_add, List.drop_zero]
  refine ⟨fun m σ H' => ∃ (k : Nat) (y : Option V) (acc rest : List (Str × Nat)) (xs : List V), σ = [some (.str z), some (.ref D), some (.int (k : Int)), y] ∧ Same H H' ∧ H' D = some (.lst xs) ∧ TokL H' xs acc ∧
    acc ++ rest = ts ∧ Toks ((tl z).drop k) k rest ∧ k ≤ z.length ∧ acc.length ≤ k ∧ m = z.length - k, ⟨_, rn sp (tl z), none, [], ts, [], rfl, same_new hD _, upd_same, ⟨rfl, fun k t h => by simp at h⟩, rfl, ht, ?_, Nat.zero_le _, rfl⟩, ?_⟩
  · rw [← tl_len]; exact rn_le _ _
  rintro m σ H' ⟨k, y, acc, rest, xs, rfl, s1, e1, t1, ea, hT, hk, ha, rfl⟩
  refine ⟨_, rfl, _, rfl, z, rfl, szl hz, _, _, rfl, rfl, _, rfl, ?_⟩
  refine ite2 (fun c => ?_) (fun c => ?_)
  · have hk2 : k < z.length := by
      have := of_decide_eq_true c
      omega
    refine ⟨fun σ' H'' => ∃ m', m' < z.length - k ∧ ∃ (k : Nat) (y : Option V) (acc rest : List (Str × Nat)) (xs : List V), σ' = [some (.str z), some (.ref D), some (.int (k : Int)), y] ∧ Same H H'' ∧ H'' D = some (.lst xs) ∧ TokL H'' xs acc ∧
      acc ++ rest = ts ∧ Toks ((tl z).drop k) k rest ∧ k ≤ z.length ∧ acc.length ≤ k ∧ m' = z.length - k, fun _ _ h => h, ?_⟩
    have hne : (tl z).drop k ≠ [] := fun h => by
      have := congrArg List.length h
      rw [List.length_drop, tl_len, List.length_nil] at this
      omega
    obtain ⟨p1, p2⟩ := pc_pos hne
    rw [List.length_drop, tl_len] at p2
    refine ⟨_, rfl, _, rfl, z, k, rfl, hk2, hz, ?_⟩
    generalize hl : (tl z).drop k = l at *
    cases hT with
    | nil => exact absurd rfl hne
    | cons h0 hT =>
      rename_i rest
      have hdr : ∀ j, l.drop j = (tl z).drop (k + j) := fun j => by rw [← hl, List.drop_drop]
      refine ⟨_, rfl, .inl ⟨rfl, _, sqd e1⟩, _, rfl, _, rfl, k, rfl, _, rfl, ((k + pc l : Nat) : Int), rfl, z, rfl, szl hz, _, rfl, _, _, rfl, rfl, (Nat.le_of_ble_eq_true rfl), fun p hp => ?_⟩
      have np : D ≠ p := ne_of_none e1 hp
      refine ⟨D, _, _, rfl, rfl, by rw [upd_ne np]; exact e1, ?_, ?_⟩
      · rw [t1.1]
        exact szl' (by omega)
      have t2 : TokL (upd H' p (.tup [.str (cutS z (some (k : Int)) (some ((k + pc l : Nat) : Int))), .int ((k : Int) + 1)])) (xs ++ [.ref p]) (acc ++ [(⟨(l.take (pc l)).toArray⟩, k + 1)]) := by
        refine (t1.mono (Tp.same (same_new hp _))).snoc ?_
        rw [upd_same, cut_mid (by omega) (by omega), hl, Nat.add_sub_cancel_left]
        rfl
      refine ⟨_, rfl, _, rfl, z, _, k + pc l, rfl, by omega, hz, ?_⟩
      have hrn := rn_le sp ((tl z).drop (k + pc l))
      rw [List.length_drop, tl_len] at hrn
      refine ⟨z.length - (k + pc l + rn sp ((tl z).drop (k + pc l))), by omega, k + pc l + rn sp ((tl z).drop (k + pc l)), _, acc ++ [(⟨(l.take (pc l)).toArray⟩, k + 1)], rest, xs ++ [.ref p], rfl, ?_, upd_same, t2.mono (tp_put (by rw [upd_ne np]; exact e1)), ?_, ?_, by omega, ?_, rfl⟩
      · refine same_put (s1.trans (same_new hp _)) hD
      · rw [List.append_assoc]
        exact ea
      · rw [hdr, List.drop_drop] at hT
        exact hT
      · rw [List.length_append, List.length_singleton]
        omega
  · have hk2 : (tl z).drop k = [] := by
      refine List.drop_eq_nil_of_le ?_
      rw [tl_len]
      refine Nat.le_of_not_lt fun h => c (decide_eq_true ?_)
      omega
    rw [hk2] at hT
    have hr0 : rest = [] := by
      cases hT with
      | nil => rfl
      | cons h _ => exact absurd rfl h
    subst hr0
    rw [List.append_nil] at ea
    subst ea
    refine ⟨_, rfl, .inl ⟨rfl, _, sqd e1⟩, _, rfl, z, rfl, szl hz, _, _, rfl, rfl, (Nat.le_of_ble_eq_true rfl), fun p hp => ?_⟩
    have np : D ≠ p := ne_of_none e1 hp
    refine ⟨D, _, _, rfl, rfl, by rw [upd_ne np]; exact e1, ?_, ?_⟩
    · rw [t1.1]
      exact szl' (by omega)
    refine ⟨_, rfl, ?_⟩
    refine q D _ (same_put (s1.trans (same_new hp _)) hD) hD ⟨_, upd_same, ?_⟩
    refine TokL.mono ?_ (tp_put (by rw [upd_ne np]; exact e1))
    refine (t1.mono (Tp.same (same_new hp _))).snoc ?_
    rw [upd_same]
    rfl
end
end NL

namespace NL
open PySem PySem.Spec PyProof.Rows L2
/-! ### the codes of an int's text -/
theorem itxt_nat (m : Nat) : tl (itxt (m : Int)) = TL.numL m := by
  show (Str.ofString (toString (m : Int))).cps.toList = _
  rw [show (Str.ofString (toString (m : Int))).cps.toList = (toString (m : Int)).toList.map Char.toNat from TL.tl_ofString _]
  show List.map Char.toNat (Nat.repr m).toList = _
  unfold Nat.repr TL.numL
  simp
theorem itxt_neg (m : Nat) : tl (itxt (-((m : Int) + 1))) = 45 :: TL.numL (m + 1) := by
  have e : (-((m : Int) + 1)) = Int.negSucc m := by omega
  rw [e]
  show (Str.ofString (toString (Int.negSucc m))).cps.toList = _
  rw [show (Str.ofString (toString (Int.negSucc m))).cps.toList = (toString (Int.negSucc m)).toList.map Char.toNat from TL.tl_ofString _]
  show List.map Char.toNat ("-" ++ Nat.repr (m + 1)).toList = _
  unfold Nat.repr TL.numL
  simp
theorem numL_digs {m : Nat} : ∀ c ∈ TL.numL m, c ∈ digs := fun c h => in_digs.mpr (TL.numL_digits m c h)
theorem numL_head : ∀ (m : Nat), 0 < m → ∃ c r, TL.numL m = c :: r ∧ c ≠ 48 := by
  intro m
  induction m using Nat.strongRecOn with
  | ind m ih =>
    intro h
    by_cases hm : 10 ≤ m
    · obtain ⟨c, r, e, hc⟩ := ih (m / 10) (by omega) (by omega)
      rw [TL.numL_step hm, e]
      exact ⟨c, r ++ [48 + m % 10], rfl, hc⟩
    · refine ⟨48 + m, [], ?_, by omega⟩
      have : m = 1 ∨ m = 2 ∨ m = 3 ∨ m = 4 ∨ m = 5 ∨ m = 6 ∨ m = 7 ∨ m = 8 ∨ m = 9 := by omega
      rcases this with rfl | rfl | rfl | rfl | rfl | rfl | rfl | rfl | rfl <;> decide +kernel
theorem int_two (n : Int) : (∃ m : Nat, n = m) ∨ ∃ m : Nat, n = -((m : Int) + 1) := by
  rcases Int.lt_or_le n 0 with h | h
  · exact .inr ⟨(-n - 1).toNat, by omega⟩
  · exact .inl ⟨n.toNat, by omega⟩
theorem isI_itxt {n : Int} (h : n.natAbs < 10 ^ 60) : isI (itxt n) = true := by
  unfold isI
  rcases int_two n with ⟨m, rfl⟩ | ⟨m, rfl⟩
  · by_cases h0 : m = 0
    · subst h0
      rw [decide_eq_true (show itxt ((0 : Nat) : Int) = "0" by decide +kernel), Bool.true_or]
    · obtain ⟨c, r, e, hc⟩ := numL_head m (by omega)
      have hd := numL_digs (m := m)
      have hl := TL.numL_len (n := m) (k := 60) (by decide) (by omega)
      rw [itxt_nat]
      have hr : rmv (TL.numL m) = TL.numL m := by
        rw [e] at hd ⊢
        have := in_digs.mp (hd c List.mem_cons_self)
        show (if c = 45 then r else c :: r) = _
        rw [if_neg (by omega)]
      have good : ¬ (TL.numL m = [] ∨ (TL.numL m).head? = some 48 ∨ 60 < (TL.numL m).length) := by
        rintro (h | h | h)
        · rw [e] at h; cases h
        · rw [e] at h; exact hc (Option.some.inj h)
        · omega
      rw [hr, rn_all hd, decide_eq_true good, decide_eq_true (rfl : (TL.numL m).length = _), Bool.and_self, Bool.or_true]
  · obtain ⟨c, r, e, hc⟩ := numL_head (m + 1) (by omega)
    have hd := numL_digs (m := m + 1)
    have hl := TL.numL_len (n := m + 1) (k := 60) (by decide) (by omega)
    rw [itxt_neg]
    have hr : rmv (45 :: TL.numL (m + 1)) = TL.numL (m + 1) := by
      show (if 45 = 45 then TL.numL (m + 1) else 45 :: TL.numL (m + 1)) = _
      rw [if_pos rfl]
    have good : ¬ (TL.numL (m + 1) = [] ∨ (TL.numL (m + 1)).head? = some 48 ∨ 60 < (TL.numL (m + 1)).length) := by
      rintro (h | h | h)
      · rw [e] at h; cases h
      · rw [e] at h; exact hc (Option.some.inj h)
      · omega
    rw [hr, rn_all hd, decide_eq_true good, decide_eq_true (rfl : (TL.numL (m + 1)).length = _), Bool.and_self, Bool.or_true]
theorem int_read {n : Int} (h : n.natAbs < 10 ^ 60) : intText? (itxt n) = some n ∧ (itxt n).length ≤ 61 := by
  rcases int_two n with ⟨m, rfl⟩ | ⟨m, rfl⟩
  · have hl := TL.numL_len (n := m) (k := 60) (by decide) (by omega)
    have hlen : (itxt (m : Int)).length ≤ 61 := by
      rw [← tl_len, itxt_nat]
      omega
    refine ⟨?_, hlen⟩
    have := intText_digits (x := itxt (m : Int)) (by show NumText.AllDigits (tl (itxt (m : Int))); rw [itxt_nat]; exact TL.numL_digits m) (by show tl (itxt (m : Int)) ≠ []; rw [itxt_nat]; exact TL.numL_ne m) (by omega)
    rw [this]
    show some ((NumText.digitsVal (tl (itxt (m : Int))) : Nat) : Int) = _
    rw [itxt_nat, TL.numL_val]
  · have hl := TL.numL_len (n := m + 1) (k := 60) (by decide) (by omega)
    have hlen : (itxt (-((m : Int) + 1))).length ≤ 61 := by
      rw [← tl_len, itxt_neg, List.length_cons]
      omega
    refine ⟨?_, hlen⟩
    have := intText_neg (x := itxt (-((m : Int) + 1))) (cs := TL.numL (m + 1)) (itxt_neg m) (TL.numL_digits _) (TL.numL_ne _) (by omega)
    rw [this, TL.numL_val]
    rfl
/-- words are no integers -/
theorem isI_wd {z : Str} (h : Wd z) (h0 : tl z ≠ []) : isI z = false := by
  obtain ⟨c, r, e⟩ : ∃ c r, tl z = c :: r := by
    cases e : tl z with
    | nil => exact absurd e h0
    | cons a b => exact ⟨a, b, rfl⟩
  have hc := h c (by show c ∈ tl z; rw [e]; exact List.mem_cons_self)
  have hr : rmv (tl z) = c :: r := by
    rw [e]
    show (if c = 45 then r else c :: r) = _
    rw [if_neg (by omega)]
  unfold isI
  have hz : z ≠ "0" := fun hz => by
    have e2 : tl z = [48] := by rw [hz]; decide +kernel
    rw [e] at e2
    cases e2
    omega
  have hcd : c ∉ digs := fun hd => by
    have := in_digs.mp hd
    omega
  rw [hr, rn_out hcd, decide_eq_false hz, decide_eq_false (show ¬ (0 = (c :: r).length) by rw [List.length_cons]; omega), Bool.and_false, Bool.false_or]
theorem isN_nam {z : Str} (h : Nam z) : isN z = true := by
  unfold isN
  have h0 : z ≠ "" := fun e => by
    have := h.len.1
    rw [e] at this
    exact absurd this (by decide +kernel)
  rw [decide_eq_true h0, decide_eq_true h.nr, rn_all (l := tl z) (fun c hc => in_lets.mpr (h.wd c hc)), decide_eq_true (rfl : (tl z).length = _)]
  rfl
theorem isN_res {z : Str} (h : z ∈ res) : isN z = false := by
  unfold isN
  rw [decide_eq_false (fun g : z ∉ res => g h), Bool.false_and, Bool.and_false]
/-! ### shapes of tokens -/
def Pn (t : Str) : Prop := t = "(" ∨ t = ")" ∨ t = ","
def NumT (t : Str) : Prop := ∃ c r, tl t = c :: r ∧ (c = 45 ∨ c ∈ digs) ∧ ∀ x ∈ r, x ∈ digs
def Tk (t : Str) : Prop := (tl t ≠ [] ∧ Wd t) ∨ NumT t ∨ Pn t
theorem pn_code {t : Str} (h : Pn t) : ∃ c, tl t = [c] ∧ (c = 40 ∨ c = 41 ∨ c = 44) := by
  have e : tl ("(" : Str) = [40] ∧ tl (")" : Str) = [41] ∧ tl ("," : Str) = [44] := by decide +kernel
  rcases h with rfl | rfl | rfl
  · exact ⟨40, e.1, .inl rfl⟩
  · exact ⟨41, e.2.1, .inr (.inl rfl)⟩
  · exact ⟨44, e.2.2, .inr (.inr rfl)⟩
theorem itxt_num (n : Int) : NumT (itxt n) := by
  rcases int_two n with ⟨m, rfl⟩ | ⟨m, rfl⟩
  · cases e : TL.numL m with
    | nil => exact absurd e (TL.numL_ne m)
    | cons c r =>
      have hd := numL_digs (m := m)
      rw [e] at hd
      exact ⟨c, r, by rw [itxt_nat, e], .inr (hd c List.mem_cons_self), fun x hx => hd x (List.mem_cons_of_mem _ hx)⟩
  · exact ⟨45, _, itxt_neg m, .inl rfl, numL_digs⟩
/-- a sign that goes on no token -/
def Cut (l : List Nat) : Prop := ∀ c r, l = c :: r → c ∉ lets ∧ c ∉ digs
theorem pc_tk {t : Str} {l : List Nat} (h : Tk t) (g : Pn t ∨ Cut l) : pc (tl t ++ l) = t.length ∧ ∃ c r, tl t = c :: r ∧ c ≠ 32 := by
  by_cases hp : Pn t
  · obtain ⟨c, e, hc⟩ := pn_code hp
    rw [← tl_len, e]
    have n1 : c ∉ lets := fun h => by have := in_lets.mp h; omega
    have n2 : ¬ (c ∈ digs ∨ c = 45) := by
      rintro (h | h)
      · have := in_digs.mp h; omega
      · omega
    refine ⟨?_, c, [], rfl, by omega⟩
    show (if c ∈ lets then _ else if c ∈ digs ∨ c = 45 then _ else 1) = 1
    rw [if_neg n1, if_neg n2]
  · have g := g.resolve_left hp
    rcases h with ⟨h0, hw⟩ | ⟨c, r, e, hc, hr⟩ | h
    · have hall : ∀ c ∈ tl t, c ∈ lets := fun c hc => in_lets.mpr (hw c hc)
      cases e : tl t with
      | nil => exact absurd e h0
      | cons c r =>
        rw [← tl_len]
        rw [e] at hall ⊢
        have hc := hall c List.mem_cons_self
        refine ⟨?_, c, r, rfl, by have := in_lets.mp hc; omega⟩
        show (if c ∈ lets then rn lets (c :: (r ++ l)) else _) = _
        rw [if_pos hc]
        have := rn_app (c :: r) l hall
        rw [rn_stop fun x y h => (g x y h).1] at this
        exact this
    · rw [← tl_len, e]
      have n1 : c ∉ lets := fun h => by
        have := in_lets.mp h
        rcases hc with hc | hc
        · omega
        · have := in_digs.mp hc; omega
      refine ⟨?_, c, r, rfl, ?_⟩
      · show (if c ∈ lets then _ else if c ∈ digs ∨ c = 45 then 1 + rn digs (r ++ l) else 1) = _
        rw [if_neg n1, if_pos (hc.symm), rn_app r l hr, rn_stop fun x y h => (g x y h).2, List.length_cons]
        omega
      · rcases hc with hc | hc
        · omega
        · have := in_digs.mp hc; omega
    · exact absurd h hp
/-! ### tokens with blanks before each and behind the last -/
inductive Lay : List Str → List Nat → Prop where
  | nil (k : Nat) : Lay [] (List.replicate k 32)
  | cons (k : Nat) {t : Str} {r : List Str} {c : List Nat} : Lay r c → Lay (t :: r) (List.replicate k 32 ++ (tl t ++ c))
def Alt : List Str → Prop
  | [] => True
  | [_] => True
  | a :: b :: r => (Pn a ∨ Pn b) ∧ Alt (b :: r)
theorem cut_blank {k : Nat} {l : List Nat} (h : Cut l) : Cut (List.replicate k 32 ++ l) := fun c r e => by
  cases k with
  | zero => exact h c r e
  | succ k =>
    rw [List.replicate_succ, List.cons_append] at e
    cases e
    exact ⟨fun h => by have := in_lets.mp h; omega, fun h => by have := in_digs.mp h; omega⟩
theorem lay_cut {r : List Str} {c : List Nat} (h : Lay r c) (g : r = [] ∨ ∃ b r', r = b :: r' ∧ Pn b) : Cut c := by
  cases h with
  | nil k =>
    have := cut_blank (k := k) (l := []) fun c r e => by cases e
    rw [List.append_nil] at this
    exact this
  | cons k hL =>
    rcases g with g | ⟨b, r', e, hp⟩
    · cases g
    · cases e
      refine cut_blank fun c r e => ?_
      obtain ⟨x, ex, hx⟩ := pn_code hp
      rw [ex] at e
      cases e
      exact ⟨fun h => by have := in_lets.mp h; omega, fun h => by have := in_digs.mp h; omega⟩
theorem rep_blank {k : Nat} : ∀ c ∈ List.replicate k 32, c ∈ sp := fun c h => in_blank.mpr (List.mem_replicate.mp h).2
theorem lay_toks {ts : List Str} {c : List Nat} (h : Lay ts c) : (∀ t ∈ ts, Tk t) → Alt ts → ∀ n, ∃ tc, Toks (c.drop (rn sp c)) (n + rn sp c) tc ∧ tc.map Prod.fst = ts := by
  induction h with
  | nil k =>
    intro _ _ n
    refine ⟨[], ?_, rfl⟩
    rw [rn_all rep_blank, List.drop_eq_nil_of_le (Nat.le_refl _)]
    exact .nil _
  | cons k hL ih =>
    rename_i t r c
    intro hk ha n
    have hT := hk t List.mem_cons_self
    have hcut : Pn t ∨ Cut c := by
      cases r with
      | nil => exact .inr (lay_cut hL (.inl rfl))
      | cons b r' => exact ha.1.imp id fun hb => lay_cut hL (.inr ⟨b, r', rfl, hb⟩)
    obtain ⟨hp, x, y, ex, hx⟩ := pc_tk (l := c) hT hcut
    have h0 : rn sp (tl t ++ c) = 0 := by
      rw [ex]
      exact rn_out fun h => hx (in_blank.mp h)
    rw [rn_app _ _ rep_blank, h0, Nat.add_zero, List.drop_left]
    have ha' : Alt r := by
      cases r with
      | nil => trivial
      | cons b r' => exact ha.2
    obtain ⟨tc, h1, h2⟩ := ih (fun u hu => hk u (List.mem_cons_of_mem _ hu)) ha' (n + k + t.length)
    have hd : (tl t ++ c).drop (pc (tl t ++ c)) = c := by
      rw [hp, ← tl_len, List.drop_left]
    have ht : (⟨((tl t ++ c).take (pc (tl t ++ c))).toArray⟩ : Str) = t := by
      rw [hp, ← tl_len, List.take_left]
      exact mk_tl t
    rw [List.length_replicate]
    refine ⟨(t, n + k + 1) :: tc, ?_, by rw [List.map_cons, h2]⟩
    have := Toks.cons (l := tl t ++ c) (n := n + k) (ts := tc) (by rw [ex]; exact List.cons_ne_nil _ _) (by rw [hd, hp]; exact h1)
    rw [ht] at this
    exact this
/-- the written form: a blank behind each comma -/
theorem lay_ct : ∀ (ts : List Str) (k : Nat), Lay ts (List.replicate k 32 ++ ct ts)
  | [], k => by
    rw [ct_nil, List.append_nil]
    exact .nil k
  | t :: r, k => by
    rw [ct_cons]
    by_cases h : t = ","
    · subst h
      have e : (sub ",").cps.toList = tl "," ++ List.replicate 1 32 := by decide +kernel
      rw [e, List.append_assoc]
      exact .cons k (lay_ct r 1)
    · rw [sub_ne h]
      exact .cons k (lay_ct r 0)
/-! ### the tokens of an item -/
inductive Pt where
  | ex (i : It)
  | dv (n : Int)
def Pt.tk : Pt → List Str
  | .ex i => i.tk
  | .dv n => [itxt n]
def It.pts : It → List Pt
  | .un _ a => [.ex a]
  | .dm _ a n => [.ex a, .dv n]
  | .bin _ a b => [.ex a, .ex b]
  | .tri a b c => [.ex a, .ex b, .ex c]
  | .grp _ l => l.map .ex
  | _ => []
def tlP : List Pt → List Str
  | [] => [")"]
  | p :: r => "," :: (p.tk ++ tlP r)
def opP : List Pt → List Str
  | [] => ["(", ")"]
  | p :: r => "(" :: (p.tk ++ tlP r)
theorem tlP_map : ∀ l : List It, tlP (l.map .ex) = (l.map It.tk).flatMap (fun t => ("," : Str) :: t) ++ ([")"] : List Str)
  | [] => rfl
  | a :: r => by
    show ("," : Str) :: (a.tk ++ tlP (r.map .ex)) = _
    rw [tlP_map r, List.map_cons, List.flatMap_cons, List.append_assoc, List.cons_append]
theorem tk_pts {i : It} (h : i.cls ≠ 0) : i.tk = i.word :: opP i.pts := by
  rw [tk_eq h]
  cases i with
  | num _ => exact absurd rfl h
  | name _ => exact absurd rfl h
  | lit _ => exact absurd rfl h
  | un w a => simp [It.word, It.kids, It.tailT, It.pts, opP, tlP, Pt.tk, sepF]
  | dm w a n => simp [It.word, It.kids, It.tailT, It.pts, opP, tlP, Pt.tk, sepF]
  | bin w a b => simp [It.word, It.kids, It.tailT, It.pts, opP, tlP, Pt.tk, sepF]
  | tri a b c => simp [It.word, It.kids, It.tailT, It.pts, opP, tlP, Pt.tk, sepF]
  | grp w l =>
    cases l with
    | nil => rfl
    | cons a r =>
      show ([w, "("] : List Str) ++ (a.tk ++ (r.map It.tk).flatMap (fun t => ("," : Str) :: t)) ++ [] ++ ([")"] : List Str) = w :: "(" :: (a.tk ++ tlP (r.map .ex))
      rw [tlP_map]
      simp
theorem pts_mem {i : It} {p : Pt} (h : p ∈ i.pts) : (∃ j ∈ i.kids, p = .ex j) ∨ ∃ n, p = .dv n := by
  cases i with
  | num _ => cases h
  | name _ => cases h
  | lit _ => cases h
  | un w a =>
    rw [List.mem_singleton.mp h]
    exact .inl ⟨a, List.mem_cons_self, rfl⟩
  | dm w a n =>
    simp only [It.pts, List.mem_cons, List.not_mem_nil, or_false] at h
    rcases h with rfl | rfl
    · exact .inl ⟨a, List.mem_cons_self, rfl⟩
    · exact .inr ⟨n, rfl⟩
  | bin w a b =>
    simp only [It.pts, List.mem_cons, List.not_mem_nil, or_false] at h
    rcases h with rfl | rfl
    · exact .inl ⟨a, by simp [It.kids], rfl⟩
    · exact .inl ⟨b, by simp [It.kids], rfl⟩
  | tri a b c =>
    simp only [It.pts, List.mem_cons, List.not_mem_nil, or_false] at h
    rcases h with rfl | rfl | rfl
    · exact .inl ⟨a, by simp [It.kids], rfl⟩
    · exact .inl ⟨b, by simp [It.kids], rfl⟩
    · exact .inl ⟨c, by simp [It.kids], rfl⟩
  | grp w l =>
    obtain ⟨j, hj, rfl⟩ := List.mem_map.mp h
    exact .inl ⟨j, hj, rfl⟩
theorem alt_cons {p : Str} {l : List Str} (hp : Pn p) (h : Alt l) : Alt (p :: l) := by
  cases l with
  | nil => trivial
  | cons b r => exact ⟨.inl hp, h⟩
theorem alt_two {w p : Str} {l : List Str} (hp : Pn p) (h : Alt (p :: l)) : Alt (w :: p :: l) := ⟨.inr hp, h⟩
theorem alt_app {p : Str} {l2 : List Str} (hp : Pn p) (h2 : Alt (p :: l2)) : ∀ l1, Alt l1 → Alt (l1 ++ p :: l2)
  | [], _ => h2
  | [a], _ => ⟨.inr hp, h2⟩
  | a :: b :: r, h => ⟨h.1, alt_app hp h2 (b :: r) h.2⟩
theorem pn_o : Pn "(" := .inl rfl
theorem pn_c : Pn ")" := .inr (.inl rfl)
theorem pn_k : Pn "," := .inr (.inr rfl)
def Good (ts : List Str) : Prop := (∀ t ∈ ts, Tk t) ∧ Alt ts
theorem good_tl : ∀ l : List Pt, (∀ p ∈ l, Good p.tk) → Good (tlP l) ∧ ∃ p r, tlP l = p :: r ∧ Pn p
  | [], _ => ⟨⟨fun t h => by rw [List.mem_singleton.mp h]; exact .inr (.inr pn_c), trivial⟩, _, _, rfl, pn_c⟩
  | p :: r, h => by
    obtain ⟨⟨g1, g2⟩, q, s, e, hq⟩ := good_tl r fun x hx => h x (List.mem_cons_of_mem _ hx)
    obtain ⟨k1, k2⟩ := h p List.mem_cons_self
    refine ⟨⟨fun t ht => ?_, ?_⟩, _, _, rfl, pn_k⟩
    · rcases List.mem_cons.mp ht with rfl | ht
      · exact .inr (.inr pn_k)
      · rcases List.mem_append.mp ht with ht | ht
        · exact k1 t ht
        · exact g1 t ht
    · show Alt (("," : Str) :: (p.tk ++ tlP r))
      refine alt_cons pn_k ?_
      rw [e] at g2 ⊢
      exact alt_app hq g2 _ k2
theorem good_op {w : Str} (hw : Tk w) : ∀ l : List Pt, (∀ p ∈ l, Good p.tk) → Good (w :: opP l)
  | [], _ => ⟨fun t ht => by
      rcases List.mem_cons.mp ht with rfl | ht
      · exact hw
      · rcases List.mem_cons.mp ht with rfl | ht
        · exact .inr (.inr pn_o)
        · rw [List.mem_singleton.mp ht]; exact .inr (.inr pn_c), alt_two pn_o (alt_cons pn_o trivial)⟩
  | p :: r, h => by
    obtain ⟨⟨g1, g2⟩, q, s, e, hq⟩ := good_tl r fun x hx => h x (List.mem_cons_of_mem _ hx)
    obtain ⟨k1, k2⟩ := h p List.mem_cons_self
    refine ⟨fun t ht => ?_, ?_⟩
    · rcases List.mem_cons.mp ht with rfl | ht
      · exact hw
      · rcases List.mem_cons.mp ht with rfl | ht
        · exact .inr (.inr pn_o)
        · rcases List.mem_append.mp ht with ht | ht
          · exact k1 t ht
          · exact g1 t ht
    · show Alt (w :: ("(" : Str) :: (p.tk ++ tlP r))
      refine alt_two pn_o (alt_cons pn_o ?_)
      rw [e] at g2 ⊢
      exact alt_app hq g2 _ k2
theorem good_int (n : Int) : Good [itxt n] := ⟨fun t h => by rw [List.mem_singleton.mp h]; exact .inr (.inl (itxt_num n)), trivial⟩
theorem nam_tk {z : Str} (h : Nam z) : Tk z := .inl ⟨fun e => by
  have h1 := h.len.1
  rw [← tl_len, e] at h1
  exact absurd h1 (by decide), h.wd⟩
theorem word_tk {xs : List Str} {B : Nat} {b : Bool} {i : It} (h : Okx xs B b i) : tl i.word ≠ [] ∧ Wd i.word := by
  refine ⟨?_, (word_wd h).1⟩
  have g : ∀ z ∈ (["number", "name", "true", "false", "abs", "not", "div", "mod", "add", "sub", "mul", "min", "max", "less", "equal", "if", "all", "any"] : List Str), tl z ≠ [] := by decide +kernel
  refine g _ ?_
  simp only [List.mem_cons, List.not_mem_nil, or_false]
  cases h with
  | num _ => simp [It.word]
  | name _ => simp [It.word]
  | lit => rename_i b; cases b <;> simp [It.word, bstr]
  | abs _ => simp [It.word]
  | not _ => simp [It.word]
  | dm hw _ _ _ =>
    simp only [List.mem_cons, List.not_mem_nil, or_false] at hw
    rcases hw with rfl | rfl <;> simp [It.word]
  | bin hw _ _ =>
    simp only [List.mem_cons, List.not_mem_nil, or_false] at hw
    rcases hw with rfl | rfl | rfl | rfl | rfl <;> simp [It.word]
  | cmp hw _ _ =>
    simp only [List.mem_cons, List.not_mem_nil, or_false] at hw
    rcases hw with rfl | rfl <;> simp [It.word]
  | tri _ _ _ => simp [It.word]
  | grp hw _ _ =>
    simp only [List.mem_cons, List.not_mem_nil, or_false] at hw
    rcases hw with rfl | rfl <;> simp [It.word]
theorem tk_good {xs : List Str} {B : Nat} (hx : ∀ x ∈ xs, Nam x) {b : Bool} {i : It} (h : Okx xs B b i) : Good i.tk := by
  refine kids_rec (p := fun i => Good i.tk) (fun b i h h0 => ?_) (fun b i h h0 ih => ?_) h
  · cases h with
    | num _ => rw [It.tk]; exact good_int _
    | name hm => rw [It.tk]; exact ⟨fun t ht => by rw [List.mem_singleton.mp ht]; exact nam_tk (hx _ hm), trivial⟩
    | lit =>
      rename_i b
      rw [It.tk]
      refine ⟨fun t ht => ?_, trivial⟩
      rw [List.mem_singleton.mp ht]
      exact .inl (word_tk (xs := xs) (B := B) (Okx.lit (b := b)))
    | abs _ => cases h0
    | not _ => cases h0
    | dm _ _ _ _ => cases h0
    | bin _ _ _ => cases h0
    | cmp _ _ _ => cases h0
    | tri _ _ _ => cases h0
    | grp _ _ _ => cases h0
  · rw [tk_pts h0]
    refine good_op (.inl (word_tk h)) _ fun p hp => ?_
    rcases pts_mem hp with ⟨j, hj, rfl⟩ | ⟨n, rfl⟩
    · exact ih j hj
    · exact good_int n
end NL

namespace NL
open PySem PySem.Spec PyProof.Rows L2
/-! ### parts, their kinds, what is read of them -/
inductive PtOk (xs : List Str) (B : Nat) : Str → Pt → Prop where
  | ex {i} : Okx xs B false i → PtOk xs B "expression" (.ex i)
  | te {i} : Okx xs B true i → PtOk xs B "condition" (.ex i)
  | dv {n : Int} : 1 ≤ n → n.natAbs ≤ B + 1 → PtOk xs B "divisor" (.dv n)
def PtIn (H : Hp) : Pt → V → Prop
  | .ex i, v => ItemIn H i v
  | .dv n, v => v = .int n
def Pt.dep : Pt → Nat
  | .ex i => i.dep
  | .dv _ => 0
inductive Mt (xs : List Str) (B : Nat) : List Str → List Pt → Prop where
  | nil : Mt xs B [] []
  | cons {k p ks ps} : PtOk xs B k p → Mt xs B ks ps → Mt xs B (k :: ks) (p :: ps)
theorem Mt.get {xs : List Str} {B : Nat} {ks : List Str} {ps : List Pt} (h : Mt xs B ks ps) : ∀ {j : Nat} {kd : Str}, ks[j]? = some kd → ∃ p, ps[j]? = some p ∧ PtOk xs B kd p := by
  induction h with
  | nil => intro j kd e; simp at e
  | cons h g ih =>
    intro j kd e
    cases j with
    | zero =>
      cases Option.some.inj e
      exact ⟨_, rfl, h⟩
    | succ j => exact ih (by simpa using e)
theorem Mt.len {xs : List Str} {B : Nat} {ks : List Str} {ps : List Pt} (h : Mt xs B ks ps) : ks.length = ps.length := by
  induction h with
  | nil => rfl
  | cons h g ih => rw [List.length_cons, List.length_cons, ih]
def PtsIn (H : Hp) (ps : List Pt) (vs : List V) : Prop := vs.length = ps.length ∧ ∀ (k : Nat) p v, ps[k]? = some p → vs[k]? = some v → PtIn H p v
theorem PtIn.mono {H H' : Hp} (t : Tp H H') : ∀ {p : Pt} {v : V}, PtIn H p v → PtIn H' p v
  | .ex _, _, h => ItemIn.mono t h
  | .dv _, _, h => h
theorem PtsIn.mono {H H' : Hp} (t : Tp H H') {ps : List Pt} {vs : List V} (h : PtsIn H ps vs) : PtsIn H' ps vs := ⟨h.1, fun k p v a b => (h.2 k p v a b).mono t⟩
theorem PtsIn.snoc {H : Hp} {ps : List Pt} {vs : List V} {p : Pt} {v : V} (h : PtsIn H ps vs) (hp : PtIn H p v) : PtsIn H (ps ++ [p]) (vs ++ [v]) := by
  obtain ⟨hl, hin⟩ := h
  refine ⟨by rw [List.length_append, List.length_append, hl] <;> rfl, fun k j x h1 h2 => ?_⟩
  by_cases hk : k < ps.length
  · rw [List.getElem?_append_left (by omega)] at h1 h2
    exact hin k j x h1 h2
  · have hk3 : k = ps.length := by
      have := (List.getElem?_eq_some_iff.mp h1).1
      rw [List.length_append, List.length_singleton] at this
      omega
    subst hk3
    rw [List.getElem?_append_right (by omega), Nat.sub_self] at h1
    rw [List.getElem?_append_right (by omega), hl, Nat.sub_self] at h2
    obtain rfl : p = j := Option.some.inj h1
    obtain rfl : v = x := Option.some.inj h2
    exact hp
theorem pts0 {H : Hp} : PtsIn H [] [] := ⟨rfl, fun k p v h _ => by simp at h⟩
theorem len1 {α : Type} {l : List α} (h : l.length = 1) : ∃ a, l = [a] := by
  match l, h with
  | [a], _ => exact ⟨a, rfl⟩
theorem len2 {α : Type} {l : List α} (h : l.length = 2) : ∃ a b, l = [a, b] := by
  match l, h with
  | [a, b], _ => exact ⟨a, b, rfl⟩
theorem len3 {α : Type} {l : List α} (h : l.length = 3) : ∃ a b c, l = [a, b, c] := by
  match l, h with
  | [a, b, c], _ => exact ⟨a, b, c, rfl⟩
theorem item_pts {H : Hp} {i : It} {vs : List V} {a : Addr} (h0 : i.cls ≠ 0) (h1 : i.cls ≠ 1) (e : H a = some (.tup (.str i.word :: vs))) (h : PtsIn H i.pts vs) : ItemIn H i (.ref a) := by
  cases i with
  | num _ => exact absurd rfl h0
  | name _ => exact absurd rfl h0
  | lit _ => exact absurd rfl h0
  | grp _ _ => exact absurd rfl h1
  | un w x =>
    obtain ⟨v, rfl⟩ := len1 h.1
    exact .un e (h.2 0 _ _ rfl rfl)
  | dm w x n =>
    obtain ⟨v, u, rfl⟩ := len2 h.1
    have hu : u = .int n := h.2 1 _ _ rfl rfl
    subst hu
    exact .dm e (h.2 0 _ _ rfl rfl)
  | bin w x y =>
    obtain ⟨v, u, rfl⟩ := len2 h.1
    exact .bin e (h.2 0 _ _ rfl rfl) (h.2 1 _ _ rfl rfl)
  | tri x y z =>
    obtain ⟨v, u, t, rfl⟩ := len3 h.1
    exact .tri e (h.2 0 _ _ rfl rfl) (h.2 1 _ _ rfl rfl) (h.2 2 _ _ rfl rfl)
theorem row_ex {xs : List Str} {B : Nat} {i : It} (h : Okx xs B false i) (h0 : i.cls ≠ 0) : ∃ ks, (i.word, ks) ∈ rows_EXPRESSION_PARTS ∧ Mt xs B ks i.pts ∧ i.cls ≠ 1 ∧ i.pts ≠ [] := by
  cases h with
  | num _ => exact absurd rfl h0
  | name _ => exact absurd rfl h0
  | abs h => exact ⟨["expression"], by simp [rows_EXPRESSION_PARTS, It.word], .cons (.ex h) .nil, by simp [It.cls], by simp [It.pts]⟩
  | dm hw h h1 h2 =>
    refine ⟨["expression", "divisor"], ?_, .cons (.ex h) (.cons (.dv h1 h2) .nil), by simp [It.cls], by simp [It.pts]⟩
    simp only [List.mem_cons, List.not_mem_nil, or_false] at hw
    rcases hw with rfl | rfl <;> simp [rows_EXPRESSION_PARTS, It.word]
  | bin hw h g =>
    refine ⟨["expression", "expression"], ?_, .cons (.ex h) (.cons (.ex g) .nil), by simp [It.cls], by simp [It.pts]⟩
    simp only [List.mem_cons, List.not_mem_nil, or_false] at hw
    rcases hw with rfl | rfl | rfl | rfl | rfl <;> simp [rows_EXPRESSION_PARTS, It.word]
  | tri h g k => exact ⟨["condition", "expression", "expression"], by simp [rows_EXPRESSION_PARTS, It.word], .cons (.te h) (.cons (.ex g) (.cons (.ex k) .nil)), by simp [It.cls], by simp [It.pts]⟩
theorem row_te {xs : List Str} {B : Nat} {i : It} (h : Okx xs B true i) (h0 : i.cls ≠ 0) (h1 : i.cls ≠ 1) : ∃ ks, (i.word, ks) ∈ rows_CONDITION_PARTS ∧ Mt xs B ks i.pts ∧ i.pts ≠ [] := by
  cases h with
  | lit => exact absurd rfl h0
  | not h => exact ⟨["condition"], by simp [rows_CONDITION_PARTS, It.word], .cons (.te h) .nil, by simp [It.pts]⟩
  | cmp hw h g =>
    refine ⟨["expression", "expression"], ?_, .cons (.ex h) (.cons (.ex g) .nil), by simp [It.pts]⟩
    simp only [List.mem_cons, List.not_mem_nil, or_false] at hw
    rcases hw with rfl | rfl <;> simp [rows_CONDITION_PARTS, It.word]
  | grp _ _ _ => exact absurd rfl h1
theorem pts_dep {i : It} {p : Pt} (h : p ∈ i.pts) : p.dep + 1 ≤ i.dep := by
  have hd := @kids_dep i
  have hp := dep_pos i
  rcases pts_mem h with ⟨j, hj, rfl⟩ | ⟨n, rfl⟩
  · have h1 := depL_in hj
    show j.dep + 1 ≤ _
    omega
  · exact hp
theorem tlen (xs : List Str) (h : ∀ x ∈ xs, Nam x) {x : Str} (hx : x ∈ xs) : x.length ≤ 10000000 := by
  have := (h x hx).len
  omega
abbrev wds (ts : List (Str × Nat)) : List Str := ts.map Prod.fst
end NL

namespace NL
open PySem PySem.Spec PyProof.Rows L2
/-! ### what an integer's text is worth -/
theorem dig_val : ∀ (n : Nat) {l : List Nat}, l.length = n → l ≠ [] → l.head? ≠ some 48 → (∀ c ∈ l, c ∈ digs) → TL.numL (NumText.digitsVal l) = l ∧ 0 < NumText.digitsVal l
  | 0, l, hn, h0, _, _ => absurd (List.length_eq_zero_iff.mp hn) h0
  | n + 1, l, hn, h0, h1, hd => by
    have e := (List.dropLast_concat_getLast h0).symm
    have hc := in_digs.mp (hd _ (List.getLast_mem h0))
    generalize l.getLast h0 = c at e hc
    have hlen : l.dropLast.length = n := by rw [List.length_dropLast]; omega
    have hsub : ∀ c ∈ l.dropLast, c ∈ digs := fun c hc => hd c (List.dropLast_subset _ hc)
    generalize l.dropLast = r at e hlen hsub
    subst e
    rw [NumText.digitsVal_snoc]
    by_cases hr : r = []
    · subst hr
      have hc2 : c ≠ 48 := fun z => h1 (by rw [z]; rfl)
      have e0 : NumText.digitsVal [] = 0 := rfl
      rw [e0, Nat.zero_mul, Nat.zero_add, TL.numL_lt (by omega), List.nil_append]
      exact ⟨by rw [show 48 + (c - 48) = c by omega], by omega⟩
    · have hh : r.head? ≠ some 48 := fun z => h1 (by
        cases r with
        | nil => exact absurd rfl hr
        | cons a b => exact z)
      obtain ⟨g1, g2⟩ := dig_val n hlen hr hh hsub
      rw [TL.numL_step (by omega), show (NumText.digitsVal r * 10 + (c - 48)) / 10 = NumText.digitsVal r by omega, show (NumText.digitsVal r * 10 + (c - 48)) % 10 = c - 48 by omega, g1, show 48 + (c - 48) = c by omega]
      exact ⟨rfl, by omega⟩
theorem numL_big : ∀ (k : Nat) {m : Nat}, (TL.numL m).length ≤ k → m < 10 ^ k
  | 0, m, h => by
    have := List.length_pos_iff.mpr (TL.numL_ne m)
    omega
  | k + 1, m, h => by
    by_cases hm : 10 ≤ m
    · rw [TL.numL_step hm, List.length_append, List.length_singleton] at h
      have := numL_big k (m := m / 10) (by omega)
      rw [Nat.pow_succ]
      omega
    · have : 1 ≤ 10 ^ k := Nat.one_le_pow _ _ (by decide)
      rw [Nat.pow_succ]
      omega
theorem isI_ex {z : Str} (h : isI z = true) : ∃ n : Int, z = itxt n ∧ n.natAbs < 10 ^ 60 := by
  unfold isI at h
  rcases Bool.or_eq_true_iff.mp h with h0 | h0
  · exact ⟨0, by rw [of_decide_eq_true h0]; decide +kernel, by decide⟩
  obtain ⟨h1, h2⟩ := Bool.and_eq_true_iff.mp h0
  have g := of_decide_eq_true h1
  have e := of_decide_eq_true h2
  have g0 : rmv (tl z) ≠ [] := fun x => g (.inl x)
  have g1 : (rmv (tl z)).head? ≠ some 48 := fun x => g (.inr (.inl x))
  have g2 : (rmv (tl z)).length ≤ 60 := Nat.le_of_not_lt fun x => g (.inr (.inr x))
  have hd : ∀ c ∈ rmv (tl z), c ∈ digs := by
    generalize rmv (tl z) = l at e
    have key : ∀ l : List Nat, rn digs l = l.length → ∀ c ∈ l, c ∈ digs := by
      intro l
      induction l with
      | nil => intro _ c hc; cases hc
      | cons a r ih =>
        intro hl c hc
        by_cases ha : a ∈ digs
        · rw [rn_in ha, List.length_cons] at hl
          rcases List.mem_cons.mp hc with x | x
          · rw [x]; exact ha
          · exact ih (by omega) c x
        · rw [rn_out ha, List.length_cons] at hl
          omega
    exact key l e
  obtain ⟨m, em, hm, hp⟩ : ∃ m, rmv (tl z) = TL.numL m ∧ m < 10 ^ 60 ∧ 0 < m := by
    obtain ⟨q1, q2⟩ := dig_val _ rfl g0 g1 hd
    exact ⟨_, q1.symm, numL_big 60 (by rw [q1]; exact g2), q2⟩
  cases ez : tl z with
  | nil => rw [ez] at g0; exact absurd rfl g0
  | cons c r =>
    by_cases hc : c = 45
    · subst hc
      have er : rmv (tl z) = r := by rw [ez]; rfl
      rw [er] at em
      refine ⟨-((m - 1 : Nat) : Int) - 1, str_ext ?_, by omega⟩
      show tl z = tl (itxt _)
      rw [show (-((m - 1 : Nat) : Int) - 1) = -(((m - 1 : Nat) : Int) + 1) by omega, itxt_neg, ez, em, show m - 1 + 1 = m by omega]
    · have er : rmv (tl z) = c :: r := by
        rw [ez]
        show (if c = 45 then r else c :: r) = _
        rw [if_neg hc]
      rw [er] at em
      refine ⟨(m : Int), str_ext ?_, by omega⟩
      show tl z = tl (itxt _)
      rw [itxt_nat, ez, em]
open Classical in
noncomputable def ival (z : Str) : Int := if h : ∃ n : Int, z = itxt n ∧ n.natAbs < 10 ^ 60 then h.choose else 0
theorem ival_ok {z : Str} (h : isI z = true) : z = itxt (ival z) ∧ (ival z).natAbs < 10 ^ 60 := by
  have e := isI_ex h
  unfold ival
  rw [dif_pos e]
  exact e.choose_spec
theorem itxt_inj {a b : Int} (ha : a.natAbs < 10 ^ 60) (hb : b.natAbs < 10 ^ 60) (h : itxt a = itxt b) : a = b := by
  have h1 := (int_read ha).1
  rw [h, (int_read hb).1] at h1
  exact (Option.some.inj h1).symm
theorem ival_itxt {n : Int} (h : n.natAbs < 10 ^ 60) : ival (itxt n) = n := by
  obtain ⟨h1, h2⟩ := ival_ok (isI_itxt h)
  exact (itxt_inj h h2 h1).symm
theorem ival_read {z : Str} (h : isI z = true) : intText? z = some (ival z) ∧ z.length ≤ 61 := by
  obtain ⟨h1, h2⟩ := ival_ok h
  have := int_read h2
  rw [← h1] at this
  exact this
/-! ### the readers as functions -/
abbrev Tok := Str × Nat
abbrev Rs (α : Type) := Except Nat (α × List Tok)
def passT (w : Str) : List Tok → Except Nat (List Tok)
  | t :: r => if t.1 = w then .ok r else .error t.2
  | [] => .error 0
noncomputable def rdDv : List Tok → Rs Pt
  | t :: r => if isI t.1 = true ∧ 1 ≤ ival t.1 then .ok (.dv (ival t.1), r) else .error t.2
  | [] => .error 0
abbrev RP := Str → List Tok → Rs Pt
def rdPs (rp : RP) : List Str → Str → List Tok → Rs (List Pt)
  | [], _, l => match passT ")" l with
    | .error c => .error c
    | .ok r => .ok ([], r)
  | k :: ks, b, l => match passT b l with
    | .error c => .error c
    | .ok l1 => match rp k l1 with
      | .error c => .error c
      | .ok (p, l2) => match rdPs rp ks "," l2 with
        | .error c => .error c
        | .ok (ps, l3) => .ok (p :: ps, l3)
/-- behind a condition of "all" or "any" -/
def rdCs (rp : RP) : Nat → List Tok → Rs (List Pt)
  | n + 1, t :: r => if t.1 = "," then (match rp "condition" r with
      | .error c => .error c
      | .ok (p, l2) => match rdCs rp n l2 with
        | .error c => .error c
        | .ok (ps, l3) => .ok (p :: ps, l3)) else if t.1 = ")" then .ok ([], r) else .error t.2
  | _, _ => .error 0
def rdG (rp : RP) (l : List Tok) : Rs (List Pt) := match passT "(" l with
  | .error c => .error c
  | .ok l1 => match l1 with
    | [] => .error 0
    | t :: r => if t.1 = ")" then .ok ([], r) else match rp "condition" (t :: r) with
      | .error c => .error c
      | .ok (p, l2) => match rdCs rp l2.length l2 with
        | .error c => .error c
        | .ok (ps, l3) => .ok (p :: ps, l3)
def Pt.it : Pt → It
  | .ex i => i
  | .dv _ => .lit false
def mkI (w : Str) : List Pt → It
  | [.ex a] => .un w a
  | [.ex a, .dv n] => .dm w a n
  | [.ex a, .ex b] => .bin w a b
  | [.ex a, .ex b, .ex c] => .tri a b c
  | _ => .lit false
noncomputable def rdE (rp : RP) : List Tok → Rs Pt
  | t :: r => if isI t.1 = true then .ok (.ex (.num (ival t.1)), r) else if isN t.1 = true then .ok (.ex (.name t.1), r) else match rows_EXPRESSION_PARTS.lookup t.1 with
    | none => .error t.2
    | some ks => match rdPs rp ks "(" r with
      | .error c => .error c
      | .ok (ps, r2) => .ok (.ex (mkI t.1 ps), r2)
  | [] => .error 0
def rdC (rp : RP) : List Tok → Rs Pt
  | t :: r => if t.1 ∈ (["true", "false"] : List Str) then .ok (.ex (.lit (decide (t.1 = "true"))), r) else if t.1 ∈ (["all", "any"] : List Str) then (match rdG rp r with
      | .error c => .error c
      | .ok (ps, r2) => .ok (.ex (.grp t.1 (ps.map Pt.it)), r2)) else match rows_CONDITION_PARTS.lookup t.1 with
    | none => .error t.2
    | some ks => match rdPs rp ks "(" r with
      | .error c => .error c
      | .ok (ps, r2) => .ok (.ex (mkI t.1 ps), r2)
  | [] => .error 0
def colE (l : List Tok) : Nat := match l with
  | t :: _ => t.2
  | [] => 0
noncomputable def rdPt : Nat → RP
  | 0, kd, l => if kd = "divisor" then rdDv l else .error (colE l)
  | m + 1, kd, l => if kd = "divisor" then rdDv l else if kd = "expression" then rdE (rdPt m) l else rdC (rdPt m) l
noncomputable def rdW (kd : Str) (l : List Tok) : Except Nat Pt := match rdPt 12 kd l with
  | .error c => .error c
  | .ok (p, r) => match passT "" r with
    | .error c => .error c
    | .ok _ => .ok p
/-! ### what is read is passed -/
/-- the kind of a part -/
def KdP (kd : Str) : Pt → Prop
  | .ex _ => kd ≠ "divisor"
  | .dv _ => kd = "divisor"
inductive KdPs : List Str → List Pt → Prop where
  | nil : KdPs [] []
  | cons {k p ks ps} : KdP k p → KdPs ks ps → KdPs (k :: ks) (p :: ps)
/-- the end stands last -/
def Fin (l : List Tok) : Prop := ∃ pre c, l = pre ++ [(("" : Str), c)]
theorem fin_ne {l : List Tok} (h : Fin l) : l ≠ [] := by
  obtain ⟨pre, c, rfl⟩ := h
  simp
theorem fin_tail {t : Tok} {r : List Tok} (h : Fin (t :: r)) (n : t.1 ≠ "") : Fin r := by
  obtain ⟨pre, c, e⟩ := h
  cases pre with
  | nil => cases e; exact absurd rfl n
  | cons a b => cases e; exact ⟨b, c, rfl⟩
theorem isI_nil : isI "" = false := by decide +kernel
theorem isN_nil : isN "" = false := by decide +kernel
/-- a step of the reader: tokens are passed, none of them the end, and at least one -/
def Pas (l r : List Tok) : Prop := ∃ l0, l = l0 ++ r ∧ l0 ≠ [] ∧ ∀ t ∈ l0, t.1 ≠ ""
theorem Pas.one {t : Tok} {r : List Tok} (h : t.1 ≠ "") : Pas (t :: r) r := ⟨[t], rfl, List.cons_ne_nil _ _, fun x hx => by rw [List.mem_singleton.mp hx]; exact h⟩
theorem Pas.trans {a b c : List Tok} (h : Pas a b) (g : Pas b c) : Pas a c := by
  obtain ⟨x, rfl, hx, hx2⟩ := h
  obtain ⟨y, rfl, hy, hy2⟩ := g
  refine ⟨x ++ y, by rw [List.append_assoc], fun e => hx (List.append_eq_nil_iff.mp e).1, fun t ht => ?_⟩
  rcases List.mem_append.mp ht with z | z
  · exact hx2 t z
  · exact hy2 t z
theorem Pas.fin {a b : List Tok} (h : Pas a b) (f : Fin a) : Fin b := by
  obtain ⟨x, rfl, _, hx2⟩ := h
  induction x with
  | nil => exact f
  | cons t r ih =>
    have f2 := fin_tail (show Fin (t :: (r ++ b)) from f) (hx2 t List.mem_cons_self)
    cases r with
    | nil => exact f2
    | cons a c => exact ih f2 (List.cons_ne_nil _ _) (fun u hu => hx2 u (List.mem_cons_of_mem _ hu))
theorem Pas.lt {a b : List Tok} (h : Pas a b) : b.length < a.length := by
  obtain ⟨x, rfl, hx, _⟩ := h
  have := List.length_pos_iff.mpr hx
  rw [List.length_append]
  omega
theorem passT_ok {w : Str} {l r : List Tok} (h : passT w l = .ok r) : ∃ t, l = t :: r ∧ t.1 = w := by
  cases l with
  | nil => cases h
  | cons t l =>
    rw [passT] at h
    split at h
    · rename_i e
      cases h
      exact ⟨t, rfl, e⟩
    · cases h
theorem passT_pas {w : Str} {l r : List Tok} (hw : w ≠ "") (h : passT w l = .ok r) : Pas l r := by
  obtain ⟨t, rfl, e⟩ := passT_ok h
  exact .one (by rw [e]; exact hw)
theorem mem_rows {α : Type} {rows : List (Str × α)} {x : Str} {ks : α} (h : rows.lookup x = some ks) : (x, ks) ∈ rows := by
  induction rows with
  | nil => cases h
  | cons a r ih =>
    rw [List.lookup_cons] at h
    split at h
    · rename_i e
      have e2 : x = a.1 := by simpa using e
      cases h
      rw [e2]
      exact List.mem_cons_self
    · exact List.mem_cons_of_mem _ (ih h)
theorem no_rows {α : Type} {rows : List (Str × α)} {x : Str} (h : rows.lookup x = none) : x ∉ rows.map (·.1) := by
  induction rows with
  | nil => simp
  | cons a r ih =>
    rw [List.lookup_cons] at h
    split at h
    · cases h
    · rename_i e
      have e2 : x ≠ a.1 := by simpa using e
      rw [List.map_cons]
      intro hm
      rcases List.mem_cons.mp hm with z | z
      · exact e2 z
      · exact ih h z
/-- the rows of the words -/
theorem row_cases {w : Str} {ks : List Str} (h : rows_EXPRESSION_PARTS.lookup w = some ks) : w ≠ "" ∧ (ks = (["expression"] : List Str) ∨ ks = (["expression", "divisor"] : List Str) ∨ ks = (["expression", "expression"] : List Str) ∨ (w = "if" ∧ ks = (["condition", "expression", "expression"] : List Str))) := by
  have h := mem_rows h
  unfold rows_EXPRESSION_PARTS at h
  simp only [List.mem_cons, List.not_mem_nil, or_false, Prod.mk.injEq] at h
  rcases h with ⟨rfl, rfl⟩ | ⟨rfl, rfl⟩ | ⟨rfl, rfl⟩ | ⟨rfl, rfl⟩ | ⟨rfl, rfl⟩ | ⟨rfl, rfl⟩ | ⟨rfl, rfl⟩ | ⟨rfl, rfl⟩ | ⟨rfl, rfl⟩ <;> exact ⟨by decide +kernel, by simp⟩
theorem row_casesC {w : Str} {ks : List Str} (h : rows_CONDITION_PARTS.lookup w = some ks) : w ≠ "" ∧ (ks = (["condition"] : List Str) ∨ ks = (["expression", "expression"] : List Str)) := by
  have h := mem_rows h
  unfold rows_CONDITION_PARTS at h
  simp only [List.mem_cons, List.not_mem_nil, or_false, Prod.mk.injEq] at h
  rcases h with ⟨rfl, rfl⟩ | ⟨rfl, rfl⟩ | ⟨rfl, rfl⟩ <;> exact ⟨by decide +kernel, by simp⟩
/-- what a reader of parts must do -/
def RpOk (rp : RP) : Prop := ∀ k l p r, rp k l = .ok (p, r) → Pas l r ∧ KdP k p
theorem rdDv_ok {l : List Tok} {p : Pt} {r : List Tok} (h : rdDv l = .ok (p, r)) : Pas l r ∧ KdP "divisor" p := by
  cases l with
  | nil => cases h
  | cons t l =>
    rw [rdDv] at h
    split at h
    · rename_i c
      cases h
      exact ⟨.one (fun e => by have := c.1; rw [e, isI_nil] at this; cases this), rfl⟩
    · cases h
theorem rdPs_ok {rp : RP} (hrp : RpOk rp) : ∀ {ks : List Str} {b : Str} {l : List Tok} {ps : List Pt} {r : List Tok}, b ≠ "" → rdPs rp ks b l = .ok (ps, r) → Pas l r ∧ KdPs ks ps
  | [], b, l, ps, r, hb, h => by
    unfold rdPs at h
    cases e : passT ")" l with
    | error c => rw [e] at h; cases h
    | ok l1 =>
      rw [e] at h
      cases h
      exact ⟨passT_pas (by decide +kernel) e, .nil⟩
  | k :: ks, b, l, ps, r, hb, h => by
    unfold rdPs at h
    cases e : passT b l with
    | error c => rw [e] at h; cases h
    | ok l1 =>
      rw [e] at h
      dsimp only at h
      cases e1 : rp k l1 with
      | error c => rw [e1] at h; cases h
      | ok x =>
        obtain ⟨p, l2⟩ := x
        rw [e1] at h
        dsimp only at h
        cases e2 : rdPs rp ks "," l2 with
        | error c => rw [e2] at h; cases h
        | ok y =>
          obtain ⟨qs, l3⟩ := y
          rw [e2] at h
          cases h
          obtain ⟨g1, g2⟩ := hrp _ _ _ _ e1
          obtain ⟨g3, g4⟩ := rdPs_ok hrp (by decide +kernel) e2
          exact ⟨(passT_pas hb e).trans (g1.trans g3), .cons g2 g4⟩
theorem rdCs_ok {rp : RP} (hrp : RpOk rp) : ∀ {n : Nat} {l : List Tok} {ps : List Pt} {r : List Tok}, rdCs rp n l = .ok (ps, r) → Pas l r ∧ ∀ p ∈ ps, KdP "condition" p
  | 0, l, ps, r, h => by cases l <;> cases h
  | n + 1, [], ps, r, h => by cases h
  | n + 1, t :: l, ps, r, h => by
    unfold rdCs at h
    split at h
    · rename_i ec
      cases e1 : rp "condition" l with
      | error c => rw [e1] at h; cases h
      | ok x =>
        obtain ⟨p, l2⟩ := x
        rw [e1] at h
        dsimp only at h
        cases e2 : rdCs rp n l2 with
        | error c => rw [e2] at h; cases h
        | ok y =>
          obtain ⟨qs, l3⟩ := y
          rw [e2] at h
          cases h
          obtain ⟨g1, g2⟩ := hrp _ _ _ _ e1
          obtain ⟨g3, g4⟩ := rdCs_ok hrp e2
          refine ⟨(Pas.one (by rw [ec]; decide +kernel)).trans (g1.trans g3), fun q hq => ?_⟩
          rcases List.mem_cons.mp hq with z | z
          · rw [z]; exact g2
          · exact g4 q z
    · split at h
      · rename_i ec
        cases h
        exact ⟨.one (by rw [ec]; decide +kernel), fun p hp => nomatch hp⟩
      · cases h
theorem rdG_ok {rp : RP} (hrp : RpOk rp) {l : List Tok} {ps : List Pt} {r : List Tok} (h : rdG rp l = .ok (ps, r)) : Pas l r ∧ ∀ p ∈ ps, KdP "condition" p := by
  unfold rdG at h
  cases e : passT "(" l with
  | error c => rw [e] at h; cases h
  | ok l1 =>
    rw [e] at h
    have h1 := passT_pas (by decide +kernel) e
    dsimp only at h
    cases l1 with
    | nil => cases h
    | cons t l1 =>
      dsimp only at h
      split at h
      · rename_i ec
        cases h
        exact ⟨h1.trans (.one (by rw [ec]; decide +kernel)), fun p hp => nomatch hp⟩
      · cases e1 : rp "condition" (t :: l1) with
        | error c => rw [e1] at h; cases h
        | ok x =>
          obtain ⟨p, l2⟩ := x
          rw [e1] at h
          dsimp only at h
          cases e2 : rdCs rp l2.length l2 with
          | error c => rw [e2] at h; cases h
          | ok y =>
            obtain ⟨qs, l3⟩ := y
            rw [e2] at h
            cases h
            obtain ⟨g1, g2⟩ := hrp _ _ _ _ e1
            obtain ⟨g3, g4⟩ := rdCs_ok hrp e2
            refine ⟨h1.trans (g1.trans g3), fun q hq => ?_⟩
            rcases List.mem_cons.mp hq with z | z
            · rw [z]; exact g2
            · exact g4 q z
theorem rdE_ok {rp : RP} (hrp : RpOk rp) {l : List Tok} {p : Pt} {r : List Tok} (h : rdE rp l = .ok (p, r)) : Pas l r ∧ ∃ i, p = .ex i := by
  cases l with
  | nil => cases h
  | cons t l =>
    rw [rdE] at h
    split at h
    · rename_i c
      cases h
      exact ⟨.one (fun e => by rw [e, isI_nil] at c; cases c), _, rfl⟩
    · split at h
      · rename_i c
        cases h
        exact ⟨.one (fun e => by rw [e, isN_nil] at c; cases c), _, rfl⟩
      · cases el : rows_EXPRESSION_PARTS.lookup t.1 with
        | none => rw [el] at h; cases h
        | some ks =>
          rw [el] at h
          dsimp only at h
          cases e2 : rdPs rp ks "(" l with
          | error c => rw [e2] at h; cases h
          | ok y =>
            obtain ⟨qs, l3⟩ := y
            rw [e2] at h
            cases h
            exact ⟨(Pas.one (row_cases el).1).trans (rdPs_ok hrp (by decide +kernel) e2).1, _, rfl⟩
theorem rdC_ok {rp : RP} (hrp : RpOk rp) {l : List Tok} {p : Pt} {r : List Tok} (h : rdC rp l = .ok (p, r)) : Pas l r ∧ ∃ i, p = .ex i := by
  cases l with
  | nil => cases h
  | cons t l =>
    rw [rdC] at h
    split at h
    · rename_i c
      cases h
      exact ⟨.one (fun e => by rw [e] at c; exact absurd c (by decide +kernel)), _, rfl⟩
    · split at h
      · rename_i c
        cases e2 : rdG rp l with
        | error c => rw [e2] at h; cases h
        | ok y =>
          obtain ⟨qs, l3⟩ := y
          rw [e2] at h
          cases h
          exact ⟨(Pas.one fun e => by rw [e] at c; exact absurd c (by decide +kernel)).trans (rdG_ok hrp e2).1, _, rfl⟩
      · cases el : rows_CONDITION_PARTS.lookup t.1 with
        | none => rw [el] at h; cases h
        | some ks =>
          rw [el] at h
          dsimp only at h
          cases e2 : rdPs rp ks "(" l with
          | error c => rw [e2] at h; cases h
          | ok y =>
            obtain ⟨qs, l3⟩ := y
            rw [e2] at h
            cases h
            exact ⟨(Pas.one (row_casesC el).1).trans (rdPs_ok hrp (by decide +kernel) e2).1, _, rfl⟩
theorem rdPt_ok : ∀ m : Nat, RpOk (rdPt m)
  | 0, k, l, p, r, h => by
    unfold rdPt at h
    split at h
    · rename_i c
      subst c
      exact rdDv_ok h
    · cases h
  | m + 1, k, l, p, r, h => by
    unfold rdPt at h
    split at h
    · rename_i c
      subst c
      exact rdDv_ok h
    · rename_i c
      split at h
      · obtain ⟨g, i, rfl⟩ := rdE_ok (rdPt_ok m) h
        exact ⟨g, c⟩
      · obtain ⟨g, i, rfl⟩ := rdC_ok (rdPt_ok m) h
        exact ⟨g, c⟩
end NL

namespace NL
open PySem PySem.Spec PyProof.Rows L2 HotX
/-! ### what the readers promise of ANY tokens -/
structure Tz (ts : List Tok) : Prop where
  len : ts.length ≤ 10000000
  tok : ∀ t ∈ ts, t.1.length ≤ 10000000
theorem drop_mem {α : Type} {l r : List α} {n : Nat} {c : α} (h : l.drop n = c :: r) : c ∈ l := List.mem_of_mem_drop (i := n) (by rw [h]; exact List.mem_cons_self)
theorem TokIn.tok {H : Hp} {q : Addr} {ts : List Tok} (h : TokIn H q ts) {n : Nat} {t : Tok} {r : List Tok} (e : ts.drop n = t :: r) : ∃ xs a, H q = some (.lst xs) ∧ atI xs (n : Int) = some (.ref a) ∧ H a = some (.tup [.str t.1, .int (t.2 : Nat)]) := by
  obtain ⟨xs, eq, tl⟩ := h
  obtain ⟨a, h2, h3⟩ := tl.2 n t (drop_cons e).1
  exact ⟨xs, a, eq, atI_nat h2, h3⟩
/-- an error with the line 1 and a column -/
abbrev BT (C : Addr) (H : Hp) (E : XK) (c : Nat) : Prop := Bad C "line" "column" H E (.int 1) (.int (c : Nat))
def Res (C : Addr) (ts : List Tok) (H : Hp) (Q : VK) (E : XK) : Rs Pt → Prop
  | .error c => BT C H E c
  | .ok (p, r) => ∀ a v (n' : Nat) H', Same H H' → H' a = some (.tup [v, .int (n' : Int)]) → PtIn H' p v → ts.drop n' = r → Q (.ref a) H'
def ResPs (C : Addr) (ts : List Tok) (H : Hp) (Q : VK) (E : XK) : Rs (List Pt) → Prop
  | .error c => BT C H E c
  | .ok (ps, r) => ∀ a t vs (n' : Nat) H', Same H H' → H' a = some (.tup [.ref t, .int (n' : Int)]) → H' t = some (.tup vs) → PtsIn H' ps vs → ts.drop n' = r → Q (.ref a) H'
def addP (acc : List Pt) : Rs (List Pt) → Rs (List Pt)
  | .error c => .error c
  | .ok (ps, r) => .ok (acc ++ ps, r)
theorem addP_nil (x : Rs (List Pt)) : addP [] x = x := by
  rcases x with c | ⟨ps, r⟩ <;> rfl
def Kd3 (kd : Str) : Prop := kd = "divisor" ∨ kd = "expression" ∨ kd = "condition"
def spPassX (C : Addr) : Sp := fun vs H Q E => ∃ (q : Addr) (n : Nat) (w : Str) (ts : List Tok) (t : Tok) (r : List Tok), vs = [.ref q, .int (n : Int), .str w] ∧ TokIn H q ts ∧ ts.drop n = t :: r ∧ (t.1 = w → Q (.int ((n + 1 : Nat) : Int)) H) ∧ (t.1 ≠ w → BT C H E t.2)
def spDivX (C : Addr) : Sp := fun vs H Q E => ∃ (q : Addr) (n : Nat) (ts : List Tok), vs = [.ref q, .int (n : Int)] ∧ TokIn H q ts ∧ Tz ts ∧ Fin (ts.drop n) ∧ Res C ts H Q E (rdDv (ts.drop n))
def spPartX (C : Addr) (m : Nat) : Sp := fun vs H Q E => ∃ (q : Addr) (n dp : Nat) (kd : Str) (ts : List Tok), vs = [.ref q, .int (n : Int), .str kd, .int (dp : Int)] ∧ TokIn H q ts ∧ Tz ts ∧ Fin (ts.drop n) ∧ Kd3 kd ∧ dp + m = 13 ∧ Res C ts H Q E (rdPt m kd (ts.drop n))
def spEX (C : Addr) (m : Nat) : Sp := fun vs H Q E => ∃ (q : Addr) (n dp : Nat) (ts : List Tok), vs = [.ref q, .int (n : Int), .int (dp : Int)] ∧ TokIn H q ts ∧ Tz ts ∧ Fin (ts.drop n) ∧ dp + m = 12 ∧ Res C ts H Q E (rdE (rdPt m) (ts.drop n))
def spCX (C : Addr) (m : Nat) : Sp := fun vs H Q E => ∃ (q : Addr) (n dp : Nat) (ts : List Tok), vs = [.ref q, .int (n : Int), .int (dp : Int)] ∧ TokIn H q ts ∧ Tz ts ∧ Fin (ts.drop n) ∧ dp + m = 12 ∧ Res C ts H Q E (rdC (rdPt m) (ts.drop n))
def spPsX (K : PySem.W.Frag) (C : Addr) (m : Nat) : Sp := fun vs H Q E => ∃ (q kt : Addr) (n dp : Nat) (ts : List Tok) (ks : List Str), vs = [.ref q, .int (n : Int), .ref kt, .int (dp : Int)] ∧ TokIn H q ts ∧ Tz ts ∧ Fin (ts.drop n) ∧ dp + m = 13 ∧
  KT K kt (ks.map V.str) ∧ ks ≠ [] ∧ ks.length ≤ 1000 ∧ (∀ k ∈ ks, Kd3 k) ∧ ResPs C ts H Q E (rdPs (rdPt m) ks "(" (ts.drop n))
def spGX (C : Addr) (m : Nat) : Sp := fun vs H Q E => ∃ (q : Addr) (n dp : Nat) (ts : List Tok), vs = [.ref q, .int (n : Int), .int (dp : Int)] ∧ TokIn H q ts ∧ Tz ts ∧ Fin (ts.drop n) ∧ dp + m = 13 ∧ ResPs C ts H Q E (rdG (rdPt m) (ts.drop n))
def bef (j : Nat) : Str := if j = 0 then "(" else ","
theorem bef_ne (j : Nat) : bef j ≠ "" := by
  unfold bef
  split <;> decide +kernel
theorem fin_cons {l : List Tok} (h : Fin l) : ∃ t r, l = t :: r := by
  cases l with
  | nil => exact absurd rfl (fin_ne h)
  | cons t r => exact ⟨t, r, rfl⟩
section
variable {P : Program} {w : World} {K : PySem.W.Frag} {mg : Str → Option Value} {base : Heap}
theorem init_ok (EX : Exs K mg) : FnOk P w K mg base CX0 1 EX.aI EX.dI PI_BadText (spInit2 K EX.c_BadText "line" "column") := by
  refine EX.FI.ok scI_BadText (fun vs H Q E h => ?_) (fun cdv A outer s H vs Q E hr h => ?_)
  · obtain ⟨a, u, v, rfl, _⟩ := h
    rfl
  obtain ⟨a, u, v, rfl, ea, q⟩ := h
  refine ⟨_, pss_cons (ps_ost (pv 0) (pv 1)) (pss_one (ps_ost (pv 0) (pv 2))), ?_⟩
  refine ⟨_, rfl, _, rfl, a, EX.c_BadText, rfl, EX.oe, EX.n_line, .inl ⟨ea, fun d hd ne => ?_⟩⟩
  refine ⟨_, rfl, _, rfl, a, EX.c_BadText, rfl, EX.oe, EX.n_column, .inr ⟨d, _, upd_same, by rw [upd_ne ne]; exact upd_same, (Nat.le_of_ble_eq_true rfl), ?_⟩⟩
  refine q d _ hd (by rw [upd_ne (Ne.symm ne)]; exact upd_same) upd_same fun b o hb e => ?_
  have nb := ne_of_none e hd
  rw [upd_ne nb, upd_ne hb, upd_ne nb]
  exact e
/-! ### _pass_token -/
theorem rx_pass_token (T : Txt K mg) (EX : Exs K mg) : FnOk P w K mg base (L2N.CX P w) 3 T.a_pass_token T.d_pass_token P_pass_token (spPassX EX.c_BadText) := by
  have GI_BadText := init_ok (P := P) (w := w) (base := base) EX
  refine okN T.F_pass_token sc_pass_token (fun vs H Q E h => ?_) (fun cdv A outer s H vs Q E hr h => ?_)
  · obtain ⟨q, n, w, ts, t, r, rfl, _⟩ := h
    rfl
  obtain ⟨q, n, w, ts, t, r, rfl, ht, hw, k1, k2⟩ := h
  refine ⟨_, (pss_cons (ps_asg (pe_ix ix_list (pv 0) (pv 1) (fun _ _ => rfl)) (pg_tup rfl (pgs_cons (pg_name (i := 3) sc_pass_token.nd rfl (Or.inl rfl)) (pgs_cons (pg_name (i := 4) sc_pass_token.nd rfl (Or.inl rfl)) pgs_nil))))
    (pss_cons (ps_if (pt_cmpR op_ne (pv 3) (pv 2) (nomark _))
    (pss_one (L2N.ps_raise rfl (L2N.takes_of rfl rfl rfl rfl) (mk_oexN EX.oe EX.iI EX.tI GI_BadText (hr.mono (by omega)) EX.bI pass0 (by rfl) EX.g_BadText (pa_cons pe_int (pa_cons (pv 4) pa_nil)))))
    pss_nil)
    (pss_one (ps_ret (pe_op op_add (pv 1) pe_int))))), ?_⟩
  obtain ⟨xs, a, eq, hat, ha⟩ := ht.tok hw
  refine ⟨_, rfl, _, rfl, q, xs, _, _, rfl, rfl, sqd eq, hat, a, _, rfl, sqt ha, rfl, _, _, rfl, _, _, rfl, rfl, ?_⟩
  refine ⟨_, rfl, _, rfl, rfl, _, rfl, ?_⟩
  by_cases e : t.1 = w
  · refine ifF (by rw [e, decide_eq_true rfl] <;> rfl) ?_
    exact ⟨_, rfl, _, _, rfl, rfl, k1 e⟩
  · refine ifT (by rw [strE, decide_eq_false e] <;> rfl) ?_
    exact ⟨_, rfl, (Nat.le_of_ble_eq_true rfl), bad_go (k2 e)⟩
/-! ### _read_divisor -/
theorem rx_read_divisor (T : Txt K mg) (EX : Exs K mg) : FnOk P w K mg base (L2N.CX P w) 3 T.a_read_divisor T.d_read_divisor P_read_divisor (spDivX EX.c_BadText) := by
  have GI_BadText := init_ok (P := P) (w := w) (base := base) EX
  have Gis_integer := ok_is_integer (P := P) (w := w) (base := base) T
  refine okN T.F_read_divisor sc_read_divisor (fun vs H Q E h => ?_) (fun cdv A outer s H vs Q E hr h => ?_)
  · obtain ⟨q, n, ts, rfl, _⟩ := h
    rfl
  obtain ⟨q, n, ts, rfl, ht, hz, hf, g⟩ := h
  refine ⟨_, (pss_cons (ps_asg (pe_ix ix_list (pv 0) (pv 1) (fun _ _ => rfl)) (pg_tup rfl (pgs_cons (pg_name (i := 2) sc_read_divisor.nd rfl (Or.inl rfl)) (pgs_cons (pg_name (i := 3) sc_read_divisor.nd rfl (Or.inl rfl)) pgs_nil))))
    (pss_cons (ps_if (PW.pt (pw_or (pt_not (pt_val (pe_call Gis_integer (hr.mono (by omega)) (by rfl) T.mis_integer T.Fis_integer.kp T.bis_integer .nil pass0 (pa_cons (pv 2) pa_nil)))) (pw_or1 (pt_cmpR op_lt (pe_callTy call_int_str (by rfl) T.z_int (by decide +kernel) (pa_cons (pv 2) pa_nil)) pe_int (nomark _)))))
    (pss_one (L2N.ps_raise rfl (L2N.takes_of rfl rfl rfl rfl) (mk_oexN EX.oe EX.iI EX.tI GI_BadText (hr.mono (by omega)) EX.bI pass0 (by rfl) EX.g_BadText (pa_cons pe_int (pa_cons (pv 3) pa_nil)))))
    pss_nil)
    (pss_one (ps_ret (pe_tup (pa_cons (pe_callTy call_int_str (by rfl) T.z_int (by decide +kernel) (pa_cons (pv 2) pa_nil)) (pa_cons (pe_op op_add (pv 1) pe_int) pa_nil))))))), ?_⟩
  obtain ⟨t, r, hw⟩ := fin_cons hf
  obtain ⟨xs, a, eq, hat, ha⟩ := ht.tok hw
  have hl := hz.tok _ (drop_mem hw)
  rw [hw, rdDv] at g
  refine ⟨_, rfl, _, rfl, q, xs, _, _, rfl, rfl, sqd eq, hat, a, _, rfl, sqt ha, rfl, _, _, rfl, _, _, rfl, rfl, ?_⟩
  refine ⟨_, rfl, _, rfl, hl, _, rfl, ?_⟩
  by_cases hi : isI t.1 = true
  · refine ifF (by rw [hi] <;> rfl) ?_
    obtain ⟨e1, e2⟩ := ival_read hi
    refine ⟨_, rfl, _, _, rfl, e1, Nat.le_trans e2 (by decide), _, _, rfl, rfl, _, rfl, ?_⟩
    by_cases h1 : 1 ≤ ival t.1
    · rw [if_pos ⟨hi, h1⟩] at g
      refine ifF (decide_eq_false (by omega)) ?_
      refine ⟨_, rfl, _, _, rfl, e1, Nat.le_trans e2 (by decide), _, rfl, _, _, rfl, rfl, (Nat.le_of_ble_eq_true rfl), fun p hp => ?_⟩
      exact g p _ (n + 1) _ (same_new hp _) (by rw [upd_same] <;> rfl) rfl (drop_cons hw).2.1
    · rw [if_neg (fun z => h1 z.2)] at g
      refine ifT (decide_eq_true (by omega)) ?_
      exact ⟨_, rfl, (Nat.le_of_ble_eq_true rfl), bad_go g⟩
  · have hb : isI t.1 = false := by simpa using hi
    rw [if_neg (fun z => hi z.1)] at g
    refine ifT (by rw [hb] <;> rfl) ?_
    exact ⟨_, rfl, (Nat.le_of_ble_eq_true rfl), bad_go g⟩
/-! ### _read_parts -/
theorem rx_read_parts (T : Txt K mg) (EX : Exs K mg) {m k : Nat} (hk : 3 ≤ k) (G_read_part : FnOk P w K mg base (L2N.CX P w) k T.a_read_part T.d_read_part P_read_part (spPartX EX.c_BadText m)) :
    FnOk P w K mg base (L2N.CX P w) (k + 1) T.a_read_parts T.d_read_parts P_read_parts (spPsX K EX.c_BadText m) := by
  have G_pass_token := rx_pass_token (P := P) (w := w) (base := base) T EX
  refine okN T.F_read_parts sc_read_parts (fun vs H Q E h => ?_) (fun cdv A outer s H vs Q E hr h => ?_)
  · obtain ⟨q, kt, n, dp, ts, ks, rfl, _⟩ := h
    rfl
  obtain ⟨q, kt, n, dp, ts, ks, rfl, ht, hz, hf, hdp, hkt, hne, hkl, hkd, g⟩ := h
  refine ⟨_, (pss_cons (ps_set (i := 4) sc_read_parts.nd rfl (Or.inl rfl) (pe_lst pa_nil))
    (pss_cons (ps_set (i := 5) sc_read_parts.nd rfl (Or.inl rfl) pe_str)
    (pss_cons (ps_for  (passes_of rfl) rfl (pi_tup (pv 2)) (pg_name (i := 6) sc_read_parts.nd rfl (Or.inl rfl))
    (pss_cons (ps_asg (pe_callS G_read_part (hr.mono (by omega)) (by rfl) T.m_read_part T.F_read_part.kp T.b_read_part (fun σ => L2N.passAt (L2N.takes_of rfl rfl rfl rfl) σ) (pa_cons (pv 0) (pa_cons (pe_callS G_pass_token (hr.mono (by omega)) (by rfl) T.m_pass_token T.F_pass_token.kp T.b_pass_token (fun σ => L2N.passAt (L2N.takes_of rfl rfl rfl rfl) σ) (pa_cons (pv 0) (pa_cons (pv 1) (pa_cons (pv 5) pa_nil)))) (pa_cons (pv 6) (pa_cons (pv 3) pa_nil))))) (pg_tup rfl (pgs_cons (pg_name (i := 7) sc_read_parts.nd rfl (Or.inl rfl)) (pgs_cons (pg_name (i := 1) sc_read_parts.nd rfl (Or.inl rfl)) pgs_nil))))
    (pss_cons (ps_expr (pe_bm PySem.F.plainAttrs_list PySem.F.slot_list_append PySem.F.type_list_append mt_append (pv 4) (pa_cons (pv 7) pa_nil)))
    (pss_one (ps_set (i := 5) sc_read_parts.nd rfl (Or.inl rfl) pe_str)))))
    (pss_one (ps_ret (pe_tup (pa_cons (pe_callTy call_tuple_of (by rfl) T.z_tuple (by decide +kernel) (pa_cons (pv 4) pa_nil)) (pa_cons (pe_callS G_pass_token (hr.mono (by omega)) (by rfl) T.m_pass_token T.F_pass_token.kp T.b_pass_token (fun σ => L2N.passAt (L2N.takes_of rfl rfl rfl rfl) σ) (pa_cons (pv 0) (pa_cons (pv 1) (pa_cons pe_str pa_nil)))) pa_nil)))))))), ?_⟩
  refine ⟨(by decide), fun D hD => ?_⟩
  refine ⟨_, rfl, kt, rfl, ⟨_, .inr hkt⟩, for_tup (K := K) (a := kt) (xs := ks.map V.str) (fun j σ H' => ∃ (nj : Nat) (vs : List V) (acc : List Pt) (y6 y7 : Option V), σ = [some (.ref q), some (.int (nj : Int)), some (.ref kt), some (.int (dp : Int)), some (.ref D), some (.str (bef j)), y6, y7] ∧
    Same H H' ∧ H' D = some (.lst vs) ∧ PtsIn H' acc vs ∧ acc.length = j ∧ Fin (ts.drop nj) ∧ ResPs EX.c_BadText ts H Q E (addP acc (rdPs (rdPt m) (ks.drop j) (bef j) (ts.drop nj)))) ?_ ?_ ?_ ?_⟩
  · exact ⟨n, [], [], none, none, rfl, same_new hD _, upd_same, pts0, rfl, hf, by rw [addP_nil]; exact g⟩
  · rintro j σ H' _ _
    exact .inr hkt
  · rintro j x σ H' hx ⟨nj, vs, acc, y6, y7, rfl, s1, e1, hin, hacc, hfj, hR⟩
    rw [List.getElem?_map] at hx
    cases hkj : ks[j]? with
    | none => rw [hkj] at hx; cases hx
    | some kd =>
      rw [hkj] at hx
      obtain rfl : V.str kd = x := Option.some.inj hx
      have hj := (List.getElem?_eq_some_iff.mp hkj).1
      have ekd : ks.drop j = kd :: ks.drop (j + 1) := by
        rw [List.drop_eq_getElem_cons hj, (List.getElem?_eq_some_iff.mp hkj).2]
      have h3 := hkd kd (List.mem_of_getElem? hkj)
      obtain ⟨t, r, etr⟩ := fin_cons hfj
      have htj := ht.same s1
      rw [ekd, etr, rdPs, passT] at hR
      refine ⟨_, rfl, _, rfl, _, rfl, _, rfl, q, nj, bef j, ts, t, r, rfl, htj, etr, fun ew => ?_, fun ew => ?_⟩
      · rw [if_pos ew] at hR
        dsimp only at hR
        have hn1 : ts.drop (nj + 1) = r := (drop_cons etr).2.1
        have hf1 : Fin r := fin_tail (by rw [← etr]; exact hfj) (by rw [ew]; exact bef_ne j)
        refine ⟨_, rfl, _, rfl, q, nj + 1, dp, kd, ts, rfl, htj, hz, by rw [hn1]; exact hf1, h3, hdp, ?_⟩
        rw [hn1]
        cases e2 : rdPt m kd r with
        | error c =>
          rw [e2] at hR
          exact Bad.same hR s1
        | ok x =>
          obtain ⟨p, l2⟩ := x
          rw [e2] at hR
          dsimp only at hR
          have hp2 := rdPt_ok m _ _ _ _ e2
          intro a v n2 H2 s2 ea hv hn2
          refine ⟨a, _, rfl, sqt ea, rfl, _, _, rfl, _, _, rfl, rfl, ?_⟩
          have e3 := s2 _ _ e1
          refine ⟨_, rfl, .inl ⟨rfl, _, sqd e3⟩, _, rfl, D, _, _, rfl, rfl, e3, ?_, ?_⟩
          · rw [hin.1, hacc]
            exact big' (by omega)
          refine ⟨n2, vs ++ [v], acc ++ [p], some (.str kd), some v, ?_, same_put (s1.trans s2) hD, upd_same, ?_, by rw [List.length_append, hacc] <;> rfl, by rw [hn2]; exact hp2.1.fin hf1, ?_⟩
          · unfold bef
            rw [if_neg (Nat.succ_ne_zero j)]
            rfl
          · exact ((hin.mono (Tp.same s2)).snoc hv).mono (tp_put e3)
          · rw [hn2, show bef (j + 1) = "," from if_neg (Nat.succ_ne_zero j)]
            cases e4 : rdPs (rdPt m) (ks.drop (j + 1)) "," l2 with
            | error c =>
              rw [e4] at hR
              exact hR
            | ok y =>
              obtain ⟨qs, l3⟩ := y
              rw [e4] at hR
              show ResPs _ _ _ _ _ (.ok ((acc ++ [p]) ++ qs, l3))
              rw [List.append_assoc]
              exact hR
      · rw [if_neg ew] at hR
        exact Bad.same hR s1
  · rintro σ H' ⟨nj, vs, acc, y6, y7, rfl, s1, e1, hin, hacc, hfj, hR⟩
    rw [List.length_map] at hacc hR
    rw [List.drop_length, rdPs] at hR
    obtain ⟨t, r, etr⟩ := fin_cons hfj
    rw [etr, passT] at hR
    refine ⟨_, rfl, D, _, rfl, .inl ⟨sqd e1, fun tp htp => ?_⟩⟩
    have s2 := s1.trans (same_new htp (.tup vs))
    refine ⟨_, rfl, _, rfl, q, nj, ")", ts, t, r, rfl, ht.same s2, etr, fun ew => ?_, fun ew => ?_⟩
    · rw [if_pos ew] at hR
      refine ⟨(Nat.le_of_ble_eq_true rfl), fun a ha => ?_⟩
      have s3 := fun o => same_new ha o
      have hR : ResPs _ _ _ _ _ (.ok (acc ++ [], r)) := hR
      rw [List.append_nil] at hR
      exact hR a tp vs (nj + 1) _ (s2.trans (s3 _)) (by rw [upd_same] <;> rfl) (s3 _ _ _ upd_same) (hin.mono (Tp.same ((same_new htp _).trans (s3 _)))) (drop_cons etr).2.1
    · rw [if_neg ew] at hR
      exact Bad.same hR s2
end
end NL

namespace NL
open PySem PySem.Spec PyProof.Rows L2 HotX
theorem kd_none {w : World} {K : PySem.W.Frag} {d : Addr} {es : Array DictEntry} {n : Nat} {ks : List Str} {z : Str} (D : KDict K w d es n) (hk : es.toList.map (fun e => kstr e.key) = ks) (hz : z ∉ ks) : PySem.W.nsIn K d z = some none := by
  have key : ∀ l : List DictEntry, PySem.W.KeysLit w.params l → (∀ x ∈ l.map (fun e => kstr e.key), x ≠ z) → l.find? (fun e => e.key.isStr z) = none ∧ l.any (fun e => e.refKey) = false := by
    intro l
    induction l with
    | nil => exact fun _ _ => ⟨rfl, rfl⟩
    | cons e r ih =>
      rintro ⟨⟨x, t, e1, e2⟩, hr⟩ hx
      obtain ⟨g1, g2⟩ := ih hr fun y hy => hx y (List.mem_cons_of_mem _ hy)
      have hxz : x ≠ z := by
        have := hx (kstr e.key) List.mem_cons_self
        rw [e1] at this
        exact this
      have b1 : e.key.isStr z = false := by
        rw [e1]
        show (x == z) = false
        simpa using hxz
      have b2 : e.refKey = false := by
        unfold DictEntry.refKey
        rw [e1]
      rw [List.find?_cons, b1, List.any_cons, b2]
      exact ⟨g1, g2⟩
  obtain ⟨g1, g2⟩ := key es.toList D.lit fun x hx e => hz (by rw [← hk, ← e]; exact hx)
  unfold PySem.W.nsIn
  rw [D.at_]
  dsimp only
  rw [g1, g2]
  rfl
theorem kids_of {H : Hp} : ∀ {ps : List Pt} {vs : List V}, PtsIn H ps vs → (∀ p ∈ ps, KdP "condition" p) → Kids H (ps.map Pt.it) vs := fun {ps vs} h hk => ⟨by rw [List.length_map]; exact h.1, fun k i x h1 h2 => by
  rw [List.getElem?_map] at h1
  cases e : ps[k]? with
  | none => rw [e] at h1; cases h1
  | some p =>
    rw [e] at h1
    obtain rfl := Option.some.inj h1
    have hp := hk p (List.mem_of_getElem? e)
    cases p with
    | ex i => exact h.2 k _ _ e h2
    | dv n => exact absurd hp (by show ¬ ("condition" : Str) = "divisor"; decide +kernel)⟩
/-- the parts of a row make an item -/
def Shp (w : Str) (ps : List Pt) : Prop := (∃ a, ps = [.ex a]) ∨ (∃ a n, ps = [.ex a, .dv n]) ∨ (∃ a b, ps = [.ex a, .ex b]) ∨ (w = "if" ∧ ∃ a b c, ps = [.ex a, .ex b, .ex c])
theorem mk_in {H : Hp} {w : Str} {ps : List Pt} {vs : List V} {a : Addr} (h : Shp w ps) (e : H a = some (.tup (.str w :: vs))) (hp : PtsIn H ps vs) : ItemIn H (mkI w ps) (.ref a) := by
  rcases h with ⟨x, rfl⟩ | ⟨x, n, rfl⟩ | ⟨x, y, rfl⟩ | ⟨rfl, x, y, z, rfl⟩
  · obtain ⟨v, rfl⟩ := len1 hp.1
    exact .un e (hp.2 0 _ _ rfl rfl)
  · obtain ⟨v, u, rfl⟩ := len2 hp.1
    have hu : u = .int n := hp.2 1 _ _ rfl rfl
    subst hu
    exact .dm e (hp.2 0 _ _ rfl rfl)
  · obtain ⟨v, u, rfl⟩ := len2 hp.1
    exact .bin e (hp.2 0 _ _ rfl rfl) (hp.2 1 _ _ rfl rfl)
  · obtain ⟨v, u, t, rfl⟩ := len3 hp.1
    exact .tri e (hp.2 0 _ _ rfl rfl) (hp.2 1 _ _ rfl rfl) (hp.2 2 _ _ rfl rfl)
theorem kdE {p : Pt} {k : Str} (h : KdP k p) (hk : k ≠ "divisor") : ∃ a, p = .ex a := by
  cases p with
  | ex a => exact ⟨a, rfl⟩
  | dv n => exact absurd h hk
theorem kdD {p : Pt} (h : KdP "divisor" p) : ∃ n, p = .dv n := by
  cases p with
  | ex a => exact absurd rfl h
  | dv n => exact ⟨n, rfl⟩
theorem ne_e : ("expression" : Str) ≠ "divisor" := by decide +kernel
theorem ne_c : ("condition" : Str) ≠ "divisor" := by decide +kernel
theorem shp_of {w : Str} {ks : List Str} {ps : List Pt} (hk : ks = (["expression"] : List Str) ∨ ks = (["expression", "divisor"] : List Str) ∨ ks = (["expression", "expression"] : List Str) ∨ (w = "if" ∧ ks = (["condition", "expression", "expression"] : List Str)) ∨ ks = (["condition"] : List Str)) (h : KdPs ks ps) : Shp w ps := by
  rcases hk with rfl | rfl | rfl | ⟨rfl, rfl⟩ | rfl
  · cases h with
    | cons h1 h2 =>
      cases h2
      obtain ⟨a, rfl⟩ := kdE h1 ne_e
      exact .inl ⟨a, rfl⟩
  · cases h with
    | cons h1 h2 =>
      cases h2 with
      | cons h2 h3 =>
        cases h3
        obtain ⟨a, rfl⟩ := kdE h1 ne_e
        obtain ⟨n, rfl⟩ := kdD h2
        exact .inr (.inl ⟨a, n, rfl⟩)
  · cases h with
    | cons h1 h2 =>
      cases h2 with
      | cons h2 h3 =>
        cases h3
        obtain ⟨a, rfl⟩ := kdE h1 ne_e
        obtain ⟨b, rfl⟩ := kdE h2 ne_e
        exact .inr (.inr (.inl ⟨a, b, rfl⟩))
  · cases h with
    | cons h1 h2 =>
      cases h2 with
      | cons h2 h3 =>
        cases h3 with
        | cons h3 h4 =>
          cases h4
          obtain ⟨a, rfl⟩ := kdE h1 ne_c
          obtain ⟨b, rfl⟩ := kdE h2 ne_e
          obtain ⟨c, rfl⟩ := kdE h3 ne_e
          exact .inr (.inr (.inr ⟨rfl, a, b, c, rfl⟩))
  · cases h with
    | cons h1 h2 =>
      cases h2
      obtain ⟨a, rfl⟩ := kdE h1 ne_c
      exact .inl ⟨a, rfl⟩
theorem k3_all : (∀ k ∈ (["expression"] : List Str), Kd3 k) ∧ (∀ k ∈ (["expression", "divisor"] : List Str), Kd3 k) ∧ (∀ k ∈ (["expression", "expression"] : List Str), Kd3 k) ∧ (∀ k ∈ (["condition", "expression", "expression"] : List Str), Kd3 k) ∧ ∀ k ∈ (["condition"] : List Str), Kd3 k := by
  refine ⟨?_, ?_, ?_, ?_, ?_⟩ <;> intro k hk <;> simp only [List.mem_cons, List.not_mem_nil, or_false] at hk <;> unfold Kd3
  · exact .inr (.inl hk)
  · exact hk.elim (fun h => .inr (.inl h)) .inl
  · exact .inr (.inl (hk.elim id id))
  · exact hk.elim (fun h => .inr (.inr h)) fun h => .inr (.inl (h.elim id id))
  · exact .inr (.inr hk)
theorem row_e {w : Str} {ks : List Str} (h : rows_EXPRESSION_PARTS.lookup w = some ks) : ks ≠ [] ∧ ks.length ≤ 1000 ∧ (∀ k ∈ ks, Kd3 k) ∧ ∀ ps, KdPs ks ps → Shp w ps := by
  obtain ⟨q1, q2, q3, q4, q5⟩ := k3_all
  rcases (row_cases h).2 with e | e | e | ⟨ew, e⟩
  · exact ⟨by rw [e]; exact List.cons_ne_nil _ _, by rw [e]; exact Nat.le_of_ble_eq_true rfl, by rw [e]; exact q1, fun ps hp => shp_of (.inl e) hp⟩
  · exact ⟨by rw [e]; exact List.cons_ne_nil _ _, by rw [e]; exact Nat.le_of_ble_eq_true rfl, by rw [e]; exact q2, fun ps hp => shp_of (.inr (.inl e)) hp⟩
  · exact ⟨by rw [e]; exact List.cons_ne_nil _ _, by rw [e]; exact Nat.le_of_ble_eq_true rfl, by rw [e]; exact q3, fun ps hp => shp_of (.inr (.inr (.inl e))) hp⟩
  · exact ⟨by rw [e]; exact List.cons_ne_nil _ _, by rw [e]; exact Nat.le_of_ble_eq_true rfl, by rw [e]; exact q4, fun ps hp => shp_of (.inr (.inr (.inr (.inl ⟨ew, e⟩)))) hp⟩
theorem row_c {w : Str} {ks : List Str} (h : rows_CONDITION_PARTS.lookup w = some ks) : ks ≠ [] ∧ ks.length ≤ 1000 ∧ (∀ k ∈ ks, Kd3 k) ∧ ∀ ps, KdPs ks ps → Shp w ps := by
  obtain ⟨q1, q2, q3, q4, q5⟩ := k3_all
  rcases (row_casesC h).2 with e | e
  · exact ⟨by rw [e]; exact List.cons_ne_nil _ _, by rw [e]; exact Nat.le_of_ble_eq_true rfl, by rw [e]; exact q5, fun ps hp => shp_of (.inr (.inr (.inr (.inr e)))) hp⟩
  · exact ⟨by rw [e]; exact List.cons_ne_nil _ _, by rw [e]; exact Nat.le_of_ble_eq_true rfl, by rw [e]; exact q3, fun ps hp => shp_of (.inr (.inr (.inl e))) hp⟩
theorem kdct' {w : World} {K : PySem.W.Frag} {d : Addr} {es : Array DictEntry} {n : Nat} {z : Str} {t : Addr} (D : KDict K w d es n) (h : PySem.W.nsIn K d z = some (some (.ref t))) : KDct K w d z (.ref t) := ⟨es, n, .ref t, D.at_, D.lit, h, rfl⟩
theorem inB {x : Str} {ys : List Str} {zs : List V} (hz : zs = ys.map V.str) : (if false = true then !inV (V.str x) zs else inV (V.str x) zs) = decide (x ∈ ys) := by
  rw [if_neg Bool.false_ne_true, hz, inV_str]
section
variable {P : Program} {w : World} {K : PySem.W.Frag} {mg : Str → Option Value} {base : Heap}
/-! ### _read_conditions -/
theorem rx_read_conditions (T : Txt K mg) (EX : Exs K mg) {m k : Nat} (hk : 3 ≤ k) (G_read_part : FnOk P w K mg base (L2N.CX P w) k T.a_read_part T.d_read_part P_read_part (spPartX EX.c_BadText m)) :
    FnOk P w K mg base (L2N.CX P w) (k + 1) T.a_read_conditions T.d_read_conditions P_read_conditions (spGX EX.c_BadText m) := by
  have G_pass_token := rx_pass_token (P := P) (w := w) (base := base) T EX
  refine okN T.F_read_conditions sc_read_conditions (fun vs H Q E h => ?_) (fun cdv A outer s H vs Q E hr h => ?_)
  · obtain ⟨q, n, dp, ts, rfl, _⟩ := h
    rfl
  obtain ⟨q, n, dp, ts, rfl, ht, hz, hf, hdp, g⟩ := h
  refine ⟨_, (pss_cons (ps_set (i := 1) sc_read_conditions.nd rfl (Or.inl rfl) (pe_callS G_pass_token (hr.mono (by omega)) (by rfl) T.m_pass_token T.F_pass_token.kp T.b_pass_token (fun σ => L2N.passAt (L2N.takes_of rfl rfl rfl rfl) σ) (pa_cons (pv 0) (pa_cons (pv 1) (pa_cons pe_str pa_nil)))))
    (pss_cons (ps_if (pt_cmpR op_eq (pe_ix ix_tup (pe_ix ix_list (pv 0) (pv 1) (fun _ _ => rfl)) pe_int (fun _ _ => rfl)) pe_str (nomark _))
    (pss_one (ps_ret (pe_tup (pa_cons (pe_tup pa_nil) (pa_cons (pe_op op_add (pv 1) pe_int) pa_nil)))))
    pss_nil)
    (pss_cons (ps_asg (pe_callS G_read_part (hr.mono (by omega)) (by rfl) T.m_read_part T.F_read_part.kp T.b_read_part (fun σ => L2N.passAt (L2N.takes_of rfl rfl rfl rfl) σ) (pa_cons (pv 0) (pa_cons (pv 1) (pa_cons pe_str (pa_cons (pv 2) pa_nil))))) (pg_tup rfl (pgs_cons (pg_name (i := 3) sc_read_conditions.nd rfl (Or.inl rfl)) (pgs_cons (pg_name (i := 1) sc_read_conditions.nd rfl (Or.inl rfl)) pgs_nil))))
    (pss_cons (ps_set (i := 4) sc_read_conditions.nd rfl (Or.inl rfl) (pe_lst (pa_cons (pv 3) pa_nil)))
    (pss_cons (ps_while (passes_of rfl) (pt_cmpR op_eq (pe_ix ix_tup (pe_ix ix_list (pv 0) (pv 1) (fun _ _ => rfl)) pe_int (fun _ _ => rfl)) pe_str (nomark _))
    (pss_cons (ps_asg (pe_callS G_read_part (hr.mono (by omega)) (by rfl) T.m_read_part T.F_read_part.kp T.b_read_part (fun σ => L2N.passAt (L2N.takes_of rfl rfl rfl rfl) σ) (pa_cons (pv 0) (pa_cons (pe_op op_add (pv 1) pe_int) (pa_cons pe_str (pa_cons (pv 2) pa_nil))))) (pg_tup rfl (pgs_cons (pg_name (i := 5) sc_read_conditions.nd rfl (Or.inl rfl)) (pgs_cons (pg_name (i := 1) sc_read_conditions.nd rfl (Or.inl rfl)) pgs_nil))))
    (pss_one (ps_expr (pe_bm PySem.F.plainAttrs_list PySem.F.slot_list_append PySem.F.type_list_append mt_append (pv 4) (pa_cons (pv 5) pa_nil))))))
    (pss_one (ps_ret (pe_tup (pa_cons (pe_callTy call_tuple_of (by rfl) T.z_tuple (by decide +kernel) (pa_cons (pv 4) pa_nil)) (pa_cons (pe_callS G_pass_token (hr.mono (by omega)) (by rfl) T.m_pass_token T.F_pass_token.kp T.b_pass_token (fun σ => L2N.passAt (L2N.takes_of rfl rfl rfl rfl) σ) (pa_cons (pv 0) (pa_cons (pv 1) (pa_cons pe_str pa_nil)))) pa_nil)))))))))), ?_⟩
  obtain ⟨t, r, etr⟩ := fin_cons hf
  rw [rdG, etr, passT] at g
  refine ⟨_, rfl, _, rfl, q, n, "(", ts, t, r, rfl, ht, etr, fun ew => ?_, fun ew => ?_⟩
  rotate_left
  · rw [if_neg ew] at g
    exact g
  rw [if_pos ew] at g
  dsimp only at g
  have hn1 : ts.drop (n + 1) = r := (drop_cons etr).2.1
  have hf1 : Fin r := fin_tail (by rw [← etr]; exact hf) (by rw [ew]; decide +kernel)
  obtain ⟨t1, r1, e1⟩ := fin_cons hf1
  rw [e1] at g hn1
  dsimp only at g
  obtain ⟨xs1, a1, eq1, hat1, ha1⟩ := ht.tok hn1
  refine ⟨_, rfl, _, rfl, q, _, _, _, rfl, rfl, sqd eq1, hat1, a1, _, 0, _, rfl, rfl, sqt ha1, atI0, rfl, _, rfl, ?_⟩
  by_cases ec : t1.1 = ")"
  · rw [if_pos ec] at g
    refine ifT (by rw [strE, decide_eq_true ec]) ?_
    refine ⟨(Nat.le_of_ble_eq_true rfl), fun t' ht' => ⟨_, rfl, _, _, rfl, rfl, (Nat.le_of_ble_eq_true rfl), fun p hp => ?_⟩⟩
    have s1 := same_new ht' (.tup [])
    exact g p t' [] (n + 1 + 1) _ (s1.trans (same_new hp _)) (by rw [upd_same] <;> rfl) (same_new hp _ _ _ upd_same) pts0 (drop_cons hn1).2.1
  rw [if_neg ec] at g
  refine ifF (by rw [strE, decide_eq_false ec]) ?_
  refine ⟨_, rfl, _, rfl, _, rfl, q, n + 1, dp, "condition", ts, rfl, ht, hz, by rw [hn1, ← e1]; exact hf1, .inr (.inr rfl), hdp, ?_⟩
  rw [hn1]
  cases e2 : rdPt m "condition" (t1 :: r1) with
  | error c =>
    rw [e2] at g
    exact g
  | ok x =>
    obtain ⟨p0, l2⟩ := x
    rw [e2] at g
    dsimp only at g
    have hp2 := rdPt_ok m _ _ _ _ e2
    intro b v n2 H1 s1 eb hv hn2
    refine ⟨b, _, rfl, sqt eb, rfl, _, _, rfl, _, _, rfl, rfl, ?_⟩
    refine ⟨_, rfl, (Nat.le_of_ble_eq_true rfl), fun D hD => ?_⟩
    have hHD : H D = none := s1.free hD
    have hf2 : Fin l2 := hp2.1.fin (by rw [← e1]; exact hf1)
    have hlen2 : l2.length + 1 ≤ ts.length := by
      have := hp2.1.lt
      have h3 := congrArg List.length hn1
      rw [List.length_drop] at h3
      omega
    refine ⟨fun mm σ H' => ∃ (nj fu : Nat) (vs : List V) (acc : List Pt) (y : Option V), σ = [some (.ref q), some (.int (nj : Int)), some (.int (dp : Int)), some v, some (.ref D), y] ∧ Same H H' ∧ H' D = some (.lst vs) ∧ PtsIn H' acc vs ∧ Fin (ts.drop nj) ∧ (ts.drop nj).length ≤ fu ∧ mm = (ts.drop nj).length ∧ acc.length + (ts.drop nj).length ≤ ts.length ∧
      ResPs EX.c_BadText ts H Q E (addP acc (rdCs (rdPt m) fu (ts.drop nj))), ⟨_, n2, l2.length, [v], [p0], none, rfl, s1.trans (same_new hD _), upd_same, ?_, by rw [hn2]; exact hf2, by rw [hn2]; exact Nat.le_refl _, rfl, ?_, ?_⟩, ?_⟩
    · have := pts0.snoc (H := upd H1 D (.lst [v])) (p := p0) (v := v) (hv.mono (Tp.same (same_new hD _)))
      exact this
    · rw [hn2, List.length_singleton]; omega
    · rw [hn2]
      cases e3 : rdCs (rdPt m) l2.length l2 with
      | error c => rw [e3] at g; exact g
      | ok y => obtain ⟨qs, l3⟩ := y; rw [e3] at g; exact g
    rintro mm σ H' ⟨nj, fu, vs, acc, y, rfl, s2, e4, hin, hfj, hfu, rfl, hacc, hR⟩
    have htj := ht.same s2
    obtain ⟨tj, rj, ej⟩ := fin_cons hfj
    obtain ⟨xs2, a2, eq2, hat2, ha2⟩ := htj.tok ej
    refine ⟨_, rfl, _, rfl, q, _, _, _, rfl, rfl, sqd eq2, hat2, a2, _, 0, _, rfl, rfl, sqt ha2, atI0, rfl, _, rfl, ?_⟩
    rw [ej, List.length_cons] at hfu hacc
    obtain ⟨fu, rfl⟩ : ∃ f, fu = f + 1 := ⟨fu - 1, by omega⟩
    rw [ej, rdCs] at hR
    have hnj : ts.drop (nj + 1) = rj := (drop_cons ej).2.1
    by_cases ek : tj.1 = ","
    · rw [if_pos ek] at hR
      refine ifT (by rw [strE, decide_eq_true ek]) ?_
      refine ⟨fun σ' H'' => ∃ m', m' < (ts.drop nj).length ∧ ∃ (nj fu : Nat) (vs : List V) (acc : List Pt) (y : Option V), σ' = [some (.ref q), some (.int (nj : Int)), some (.int (dp : Int)), some v, some (.ref D), y] ∧ Same H H'' ∧ H'' D = some (.lst vs) ∧ PtsIn H'' acc vs ∧ Fin (ts.drop nj) ∧ (ts.drop nj).length ≤ fu ∧ m' = (ts.drop nj).length ∧ acc.length + (ts.drop nj).length ≤ ts.length ∧
        ResPs EX.c_BadText ts H Q E (addP acc (rdCs (rdPt m) fu (ts.drop nj))), fun _ _ h => h, ?_⟩
      have hfr : Fin rj := fin_tail (by rw [← ej]; exact hfj) (by rw [ek]; decide +kernel)
      refine ⟨_, rfl, _, rfl, _, _, rfl, rfl, _, rfl, q, nj + 1, dp, "condition", ts, rfl, htj, hz, by rw [hnj]; exact hfr, .inr (.inr rfl), hdp, ?_⟩
      rw [hnj]
      cases e5 : rdPt m "condition" rj with
      | error c =>
        rw [e5] at hR
        exact Bad.same hR s2
      | ok x =>
        obtain ⟨p5, l5⟩ := x
        rw [e5] at hR
        dsimp only at hR
        have hp5 := rdPt_ok m _ _ _ _ e5
        have hl5 := hp5.1.lt
        intro b2 v2 n5 H2 s3 eb2 hv2 hn5
        refine ⟨b2, _, rfl, sqt eb2, rfl, _, _, rfl, _, _, rfl, rfl, ?_⟩
        have e6 := s3 _ _ e4
        have htl := hz.len
        refine ⟨_, rfl, .inl ⟨rfl, _, sqd e6⟩, _, rfl, D, _, _, rfl, rfl, e6, ?_, ?_⟩
        · rw [hin.1]
          exact szl' (by omega)
        refine ⟨l5.length, by rw [ej, List.length_cons]; omega, n5, fu, vs ++ [v2], acc ++ [p5], _, rfl, same_put (s2.trans s3) hHD, upd_same, ((hin.mono (Tp.same s3)).snoc hv2).mono (tp_put e6), by rw [hn5]; exact hp5.1.fin hfr, by rw [hn5]; omega, by rw [hn5], by rw [hn5, List.length_append, List.length_singleton]; omega, ?_⟩
        rw [hn5]
        cases e7 : rdCs (rdPt m) fu l5 with
        | error c => rw [e7] at hR; exact hR
        | ok y =>
          obtain ⟨qs, l7⟩ := y
          rw [e7] at hR
          show ResPs _ _ _ _ _ (.ok ((acc ++ [p5]) ++ qs, l7))
          rw [List.append_assoc]
          exact hR
    · rw [if_neg ek] at hR
      refine ifF (by rw [strE, decide_eq_false ek]) ?_
      refine ⟨_, rfl, D, _, rfl, .inl ⟨sqd e4, fun tp htp => ?_⟩⟩
      have s3 := s2.trans (same_new htp (.tup vs))
      refine ⟨_, rfl, _, rfl, q, nj, ")", ts, tj, rj, rfl, ht.same s3, ej, fun ew2 => ?_, fun ew2 => ?_⟩
      · rw [if_pos ew2] at hR
        refine ⟨(Nat.le_of_ble_eq_true rfl), fun p hp => ?_⟩
        have s4 := fun o => same_new hp o
        have hR : ResPs _ _ _ _ _ (.ok (acc ++ [], rj)) := hR
        rw [List.append_nil] at hR
        exact hR p tp vs (nj + 1) _ (s3.trans (s4 _)) (by rw [upd_same] <;> rfl) (s4 _ _ _ upd_same) (hin.mono (Tp.same ((same_new htp _).trans (s4 _)))) hnj
      · rw [if_neg ew2] at hR
        exact Bad.same hR s3
/-! ### _read_expression -/
theorem rx_read_expression (T : Txt K mg) (D : Dic K w mg) (EX : Exs K mg) {m k : Nat} (hk : 3 ≤ k) (G_read_parts : FnOk P w K mg base (L2N.CX P w) k T.a_read_parts T.d_read_parts P_read_parts (spPsX K EX.c_BadText m)) :
    FnOk P w K mg base (L2N.CX P w) (k + 1) T.a_read_expression T.d_read_expression P_read_expression (spEX EX.c_BadText m) := by
  have GI_BadText := init_ok (P := P) (w := w) (base := base) EX
  have Gis_integer := ok_is_integer (P := P) (w := w) (base := base) T
  have Gis_name := ok_is_name (P := P) (w := w) (base := base) T
  refine okN T.F_read_expression sc_read_expression (fun vs H Q E h => ?_) (fun cdv A outer s H vs Q E hr h => ?_)
  · obtain ⟨q, n, dp, ts, rfl, _⟩ := h
    rfl
  obtain ⟨q, n, dp, ts, rfl, ht, hz, hf, hdp, g⟩ := h
  refine ⟨_, (pss_cons (ps_asg (pe_ix ix_list (pv 0) (pv 1) (fun _ _ => rfl)) (pg_tup rfl (pgs_cons (pg_name (i := 3) sc_read_expression.nd rfl (Or.inl rfl)) (pgs_cons (pg_name (i := 4) sc_read_expression.nd rfl (Or.inl rfl)) pgs_nil))))
    (pss_cons (ps_if (pt_val (pe_call Gis_integer (hr.mono (by omega)) (by rfl) T.mis_integer T.Fis_integer.kp T.bis_integer .nil pass0 (pa_cons (pv 3) pa_nil)))
    (pss_one (ps_ret (pe_tup (pa_cons (pe_tup (pa_cons pe_str (pa_cons (pe_callTy call_int_str (by rfl) T.z_int (by decide +kernel) (pa_cons (pv 3) pa_nil)) pa_nil))) (pa_cons (pe_op op_add (pv 1) pe_int) pa_nil)))))
    pss_nil)
    (pss_cons (ps_if (pt_val (pe_call Gis_name (hr.mono (by omega)) (by rfl) T.mis_name T.Fis_name.kp T.bis_name .nil pass0 (pa_cons (pv 3) pa_nil)))
    (pss_one (ps_ret (pe_tup (pa_cons (pe_tup (pa_cons pe_str (pa_cons (pv 3) pa_nil))) (pa_cons (pe_op op_add (pv 1) pe_int) pa_nil)))))
    pss_nil)
    (pss_cons (ps_if (pt_cmpR (op_notIn_kd D.D_EXPRESSION_PARTS) (pv 3) (pe_glob (v := .ref D.c_EXPRESSION_PARTS) rfl D.g_EXPRESSION_PARTS rfl) (by rfl))
    (pss_one (L2N.ps_raise rfl (L2N.takes_of rfl rfl rfl rfl) (mk_oexN EX.oe EX.iI EX.tI GI_BadText (hr.mono (by omega)) EX.bI pass0 (by rfl) EX.g_BadText (pa_cons pe_int (pa_cons (pv 4) pa_nil)))))
    pss_nil)
    (pss_cons (ps_asg (pe_callS G_read_parts (hr.mono (by omega)) (by rfl) T.m_read_parts T.F_read_parts.kp T.b_read_parts (fun σ => L2N.passAt (L2N.takes_of rfl rfl rfl rfl) σ) (pa_cons (pv 0) (pa_cons (pe_op op_add (pv 1) pe_int) (pa_cons (pe_ix ix_kdict (pe_glob (v := .ref D.c_EXPRESSION_PARTS) rfl D.g_EXPRESSION_PARTS rfl) (pv 3) (fun _ _ => rfl)) (pa_cons (pe_op op_add (pv 2) pe_int) pa_nil))))) (pg_tup rfl (pgs_cons (pg_name (i := 5) sc_read_expression.nd rfl (Or.inl rfl)) (pgs_cons (pg_name (i := 6) sc_read_expression.nd rfl (Or.inl rfl)) pgs_nil))))
    (pss_one (ps_ret (pe_tup (pa_cons (pe_op op_catA (pe_tup (pa_cons (pv 3) pa_nil)) (pv 5)) (pa_cons (pv 6) pa_nil)))))))))), ?_⟩
  obtain ⟨t, r, etr⟩ := fin_cons hf
  obtain ⟨xs1, a, eq, hat, ha⟩ := ht.tok etr
  have hl := hz.tok _ (drop_mem etr)
  have hn1 : ts.drop (n + 1) = r := (drop_cons etr).2.1
  rw [etr, rdE] at g
  refine ⟨_, rfl, _, rfl, q, _, _, _, rfl, rfl, sqd eq, hat, a, _, rfl, sqt ha, rfl, _, _, rfl, _, _, rfl, rfl, ?_⟩
  refine ⟨_, rfl, _, rfl, hl, _, rfl, ?_⟩
  by_cases hi : isI t.1 = true
  · rw [if_pos hi] at g
    refine ifT hi ?_
    obtain ⟨e1, e2⟩ := ival_read hi
    refine ⟨_, rfl, _, _, rfl, e1, Nat.le_trans e2 (by decide), (Nat.le_of_ble_eq_true rfl), fun p hp => ⟨_, rfl, _, _, rfl, rfl, (Nat.le_of_ble_eq_true rfl), fun p2 hp2 => ?_⟩⟩
    exact g p2 _ (n + 1) _ ((same_new hp _).trans (same_new hp2 _)) (by rw [upd_same] <;> rfl) (.num (same_new hp2 _ _ _ upd_same)) hn1
  rw [if_neg hi] at g
  have hi' : isI t.1 = false := by simpa using hi
  refine ifF hi' ?_
  refine ⟨_, rfl, _, rfl, hl, _, rfl, ?_⟩
  by_cases hn : isN t.1 = true
  · rw [if_pos hn] at g
    refine ifT hn ?_
    refine ⟨_, rfl, (Nat.le_of_ble_eq_true rfl), fun p hp => ⟨_, rfl, _, _, rfl, rfl, (Nat.le_of_ble_eq_true rfl), fun p2 hp2 => ?_⟩⟩
    exact g p2 _ (n + 1) _ ((same_new hp _).trans (same_new hp2 _)) (by rw [upd_same] <;> rfl) (.name (same_new hp2 _ _ _ upd_same)) hn1
  rw [if_neg hn] at g
  have hn' : isN t.1 = false := by simpa using hn
  refine ifF hn' ?_
  cases el : rows_EXPRESSION_PARTS.lookup t.1 with
  | none =>
    rw [el] at g
    have hns := kd_none D.D_EXPRESSION_PARTS D.y_EXPRESSION_PARTS (no_rows el)
    refine ⟨_, rfl, _, _, rfl, rfl, hns, _, rfl, ?_⟩
    refine ifT rfl ?_
    exact ⟨_, rfl, (Nat.le_of_ble_eq_true rfl), bad_go g⟩
  | some ks =>
    rw [el] at g
    dsimp only at g
    obtain ⟨tk, hns, hkt⟩ := D.q_EXPRESSION_PARTS _ _ (mem_rows el)
    obtain ⟨k1, k2, k3, k4⟩ := row_e el
    refine ⟨_, rfl, _, _, rfl, rfl, hns, _, rfl, ?_⟩
    refine ifF rfl ?_
    have hfr : Fin r := fin_tail (by rw [← etr]; exact hf) (row_cases el).1
    refine ⟨_, rfl, _, rfl, _, _, rfl, rfl, _, rfl, _, _, _, rfl, rfl, kdct' D.D_EXPRESSION_PARTS hns, _, rfl, _, _, rfl, rfl, ?_⟩
    refine ⟨q, tk, n + 1, dp + 1, ts, ks, rfl, ht, hz, by rw [hn1]; exact hfr, by omega, hkt, k1, k2, k3, ?_⟩
    rw [hn1]
    cases e2 : rdPs (rdPt m) ks "(" r with
    | error c => rw [e2] at g; exact g
    | ok x =>
      obtain ⟨ps, l2⟩ := x
      rw [e2] at g
      have hps := rdPs_ok (rdPt_ok m) (by decide +kernel) e2
      intro b tt vs n2 H1 s1 eb et hin hn2
      refine ⟨b, _, rfl, sqt eb, rfl, _, _, rfl, _, _, rfl, rfl, ?_⟩
      have hsh := k4 ps hps.2
      have hvl : vs ≠ [] ∧ vs.length ≤ 1000 := by
        have h1 := hin.1
        rcases hsh with ⟨x, rfl⟩ | ⟨x, n, rfl⟩ | ⟨x, y, rfl⟩ | ⟨_, x, y, z, rfl⟩ <;> exact ⟨(fun e => by rw [e] at h1; cases h1), by rw [h1]; exact Nat.le_of_ble_eq_true rfl⟩
      refine ⟨_, rfl, (Nat.le_of_ble_eq_true rfl), fun p1 hp1 => ⟨_, rfl, p1, tt, _, _, rfl, rfl, sqt upd_same, sqt (same_new hp1 _ _ _ et), ?_, (fun e => by cases e), (fun _ e => absurd e hvl.1), fun _ _ p2 hp2 => ⟨_, rfl, (Nat.le_of_ble_eq_true rfl), fun p3 hp3 => ?_⟩⟩⟩
      · rw [List.length_singleton]
        exact big (by omega)
      have s2 := (same_new hp1 (.tup [.str t.1])).trans ((same_new hp2 (.tup ([.str t.1] ++ vs))).trans (same_new hp3 (.tup [.ref p2, .int ((n2 : Nat) : Int)])))
      exact g p3 (.ref p2) n2 _ (s1.trans s2) (by rw [upd_same]) (mk_in hsh (same_new hp3 _ _ _ upd_same) (hin.mono (Tp.same s2))) hn2
/-! ### _read_condition -/
theorem rx_read_condition (T : Txt K mg) (D : Dic K w mg) (EX : Exs K mg) {m k : Nat} (hk : 3 ≤ k) (G_read_parts : FnOk P w K mg base (L2N.CX P w) k T.a_read_parts T.d_read_parts P_read_parts (spPsX K EX.c_BadText m))
    (G_read_conditions : FnOk P w K mg base (L2N.CX P w) k T.a_read_conditions T.d_read_conditions P_read_conditions (spGX EX.c_BadText m)) :
    FnOk P w K mg base (L2N.CX P w) (k + 1) T.a_read_condition T.d_read_condition P_read_condition (spCX EX.c_BadText m) := by
  have GI_BadText := init_ok (P := P) (w := w) (base := base) EX
  refine okN T.F_read_condition sc_read_condition (fun vs H Q E h => ?_) (fun cdv A outer s H vs Q E hr h => ?_)
  · obtain ⟨q, n, dp, ts, rfl, _⟩ := h
    rfl
  obtain ⟨q, n, dp, ts, rfl, ht, hz, hf, hdp, g⟩ := h
  refine ⟨_, (pss_cons (ps_asg (pe_ix ix_list (pv 0) (pv 1) (fun _ _ => rfl)) (pg_tup rfl (pgs_cons (pg_name (i := 3) sc_read_condition.nd rfl (Or.inl rfl)) (pgs_cons (pg_name (i := 4) sc_read_condition.nd rfl (Or.inl rfl)) pgs_nil))))
    (pss_cons (ps_if (pt_cmpR op_in_seq (pv 3) (pe_tup (pa_cons pe_str (pa_cons pe_str pa_nil))) (by rfl))
    (pss_one (ps_ret (pe_tup (pa_cons (pe_tup (pa_cons (pv 3) pa_nil)) (pa_cons (pe_op op_add (pv 1) pe_int) pa_nil)))))
    pss_nil)
    (pss_cons (ps_if (pt_cmpR op_in_seq (pv 3) (pe_tup (pa_cons pe_str (pa_cons pe_str pa_nil))) (by rfl))
    (pss_cons (ps_asg (pe_callS G_read_conditions (hr.mono (by omega)) (by rfl) T.m_read_conditions T.F_read_conditions.kp T.b_read_conditions (fun σ => L2N.passAt (L2N.takes_of rfl rfl rfl rfl) σ) (pa_cons (pv 0) (pa_cons (pe_op op_add (pv 1) pe_int) (pa_cons (pe_op op_add (pv 2) pe_int) pa_nil)))) (pg_tup rfl (pgs_cons (pg_name (i := 5) sc_read_condition.nd rfl (Or.inl rfl)) (pgs_cons (pg_name (i := 6) sc_read_condition.nd rfl (Or.inl rfl)) pgs_nil))))
    (pss_one (ps_ret (pe_tup (pa_cons (pe_tup (pa_cons (pv 3) (pa_cons (pv 5) pa_nil))) (pa_cons (pv 6) pa_nil))))))
    pss_nil)
    (pss_cons (ps_if (pt_cmpR (op_notIn_kd D.D_CONDITION_PARTS) (pv 3) (pe_glob (v := .ref D.c_CONDITION_PARTS) rfl D.g_CONDITION_PARTS rfl) (by rfl))
    (pss_one (L2N.ps_raise rfl (L2N.takes_of rfl rfl rfl rfl) (mk_oexN EX.oe EX.iI EX.tI GI_BadText (hr.mono (by omega)) EX.bI pass0 (by rfl) EX.g_BadText (pa_cons pe_int (pa_cons (pv 4) pa_nil)))))
    pss_nil)
    (pss_cons (ps_asg (pe_callS G_read_parts (hr.mono (by omega)) (by rfl) T.m_read_parts T.F_read_parts.kp T.b_read_parts (fun σ => L2N.passAt (L2N.takes_of rfl rfl rfl rfl) σ) (pa_cons (pv 0) (pa_cons (pe_op op_add (pv 1) pe_int) (pa_cons (pe_ix ix_kdict (pe_glob (v := .ref D.c_CONDITION_PARTS) rfl D.g_CONDITION_PARTS rfl) (pv 3) (fun _ _ => rfl)) (pa_cons (pe_op op_add (pv 2) pe_int) pa_nil))))) (pg_tup rfl (pgs_cons (pg_name (i := 7) sc_read_condition.nd rfl (Or.inl rfl)) (pgs_cons (pg_name (i := 6) sc_read_condition.nd rfl (Or.inl rfl)) pgs_nil))))
    (pss_one (ps_ret (pe_tup (pa_cons (pe_op op_catA (pe_tup (pa_cons (pv 3) pa_nil)) (pv 7)) (pa_cons (pv 6) pa_nil)))))))))), ?_⟩
  obtain ⟨t, r, etr⟩ := fin_cons hf
  obtain ⟨xs1, a, eq, hat, ha⟩ := ht.tok etr
  have hn1 : ts.drop (n + 1) = r := (drop_cons etr).2.1
  rw [etr, rdC] at g
  refine ⟨_, rfl, _, rfl, q, _, _, _, rfl, rfl, sqd eq, hat, a, _, rfl, sqt ha, rfl, _, _, rfl, _, _, rfl, rfl, ?_⟩
  refine ⟨_, rfl, (Nat.le_of_ble_eq_true rfl), fun p1 hp1 => ?_⟩
  have s1 := fun o => same_new hp1 o
  refine ⟨p1, _, rfl, .inr (sqt upd_same), rfl, by decide +kernel, _, rfl, ?_⟩
  by_cases h0 : t.1 ∈ (["true", "false"] : List Str)
  · rw [if_pos h0] at g
    refine ifT (inT (ys := ["true", "false"]) rfl (decide_eq_true h0)) ?_
    refine ⟨_, rfl, (Nat.le_of_ble_eq_true rfl), fun p hp => ⟨_, rfl, _, _, rfl, rfl, (Nat.le_of_ble_eq_true rfl), fun p2 hp2 => ?_⟩⟩
    refine g p2 _ (n + 1) _ ((s1 _).trans ((same_new hp _).trans (same_new hp2 _))) (by rw [upd_same] <;> rfl) (.lit ?_) hn1
    rw [same_new hp2 _ _ _ upd_same]
    have : t.1 = bstr (decide (t.1 = "true")) := by
      simp only [List.mem_cons, List.not_mem_nil, or_false] at h0
      rcases h0 with h0 | h0 <;> rw [h0] <;> decide +kernel
    rw [← this]
  rw [if_neg h0] at g
  refine ifF (inT (ys := ["true", "false"]) rfl (decide_eq_false h0)) ?_
  refine ⟨_, rfl, (Nat.le_of_ble_eq_true rfl), fun p2 hp2 => ?_⟩
  have s2 := fun o => (s1 (.tup [.str "true", .str "false"])).trans (same_new hp2 o)
  refine ⟨p2, _, rfl, .inr (sqt upd_same), rfl, by decide +kernel, _, rfl, ?_⟩
  by_cases h1 : t.1 ∈ (["all", "any"] : List Str)
  · rw [if_pos h1] at g
    refine ifT (inT (ys := ["all", "any"]) rfl (decide_eq_true h1)) ?_
    have hfr : Fin r := fin_tail (by rw [← etr]; exact hf) (fun e => by rw [e] at h1; exact absurd h1 (by decide +kernel))
    refine ⟨_, rfl, _, rfl, _, _, rfl, rfl, _, rfl, _, _, rfl, rfl, ?_⟩
    refine ⟨q, n + 1, dp + 1, ts, rfl, ht.same (s2 _), hz, by rw [hn1]; exact hfr, by omega, ?_⟩
    rw [hn1]
    cases e2 : rdG (rdPt m) r with
    | error c =>
      rw [e2] at g
      exact Bad.same g (s2 _)
    | ok x =>
      obtain ⟨ps, l2⟩ := x
      rw [e2] at g
      have hps := rdG_ok (rdPt_ok m) e2
      intro b tt vs n2 H1 s3 eb et hin hn2
      refine ⟨b, _, rfl, sqt eb, rfl, _, _, rfl, _, _, rfl, rfl, ?_⟩
      refine ⟨_, rfl, _, rfl, (Nat.le_of_ble_eq_true rfl), fun p3 hp3 => ⟨_, rfl, (Nat.le_of_ble_eq_true rfl), fun p4 hp4 => ?_⟩⟩
      have s5 := fun o' => (same_new hp3 (.tup [.str t.1, .ref tt])).trans (same_new hp4 o')
      exact g p4 (.ref p3) n2 _ ((s2 _).trans (s3.trans (s5 _))) (by rw [upd_same]) ((kids_of (hin.mono (Tp.same (s5 _))) hps.2).ok (same_new hp4 _ _ _ upd_same) (s5 _ _ _ et)) hn2
  rw [if_neg h1] at g
  refine ifF (inT (ys := ["all", "any"]) rfl (decide_eq_false h1)) ?_
  cases el : rows_CONDITION_PARTS.lookup t.1 with
  | none =>
    rw [el] at g
    have hns := kd_none D.D_CONDITION_PARTS D.y_CONDITION_PARTS (no_rows el)
    refine ⟨_, rfl, _, _, rfl, rfl, hns, _, rfl, ?_⟩
    refine ifT rfl ?_
    exact ⟨_, rfl, (Nat.le_of_ble_eq_true rfl), bad_go (Bad.same g (s2 _))⟩
  | some ks =>
    rw [el] at g
    dsimp only at g
    obtain ⟨tk, hns, hkt⟩ := D.q_CONDITION_PARTS _ _ (mem_rows el)
    obtain ⟨k1, k2, k3, k4⟩ := row_c el
    refine ⟨_, rfl, _, _, rfl, rfl, hns, _, rfl, ?_⟩
    refine ifF rfl ?_
    have hfr : Fin r := fin_tail (by rw [← etr]; exact hf) (row_casesC el).1
    refine ⟨_, rfl, _, rfl, _, _, rfl, rfl, _, rfl, _, _, _, rfl, rfl, kdct' D.D_CONDITION_PARTS hns, _, rfl, _, _, rfl, rfl, ?_⟩
    refine ⟨q, tk, n + 1, dp + 1, ts, ks, rfl, ht.same (s2 _), hz, by rw [hn1]; exact hfr, by omega, hkt, k1, k2, k3, ?_⟩
    rw [hn1]
    cases e2 : rdPs (rdPt m) ks "(" r with
    | error c => rw [e2] at g; exact Bad.same g (s2 _)
    | ok x =>
      obtain ⟨ps, l2⟩ := x
      rw [e2] at g
      have hps := rdPs_ok (rdPt_ok m) (by decide +kernel) e2
      intro b tt vs n2 H1 s3 eb et hin hn2
      refine ⟨b, _, rfl, sqt eb, rfl, _, _, rfl, _, _, rfl, rfl, ?_⟩
      have hsh := k4 ps hps.2
      have hvl : vs ≠ [] ∧ vs.length ≤ 1000 := by
        have h1 := hin.1
        rcases hsh with ⟨x, rfl⟩ | ⟨x, n, rfl⟩ | ⟨x, y, rfl⟩ | ⟨_, x, y, z, rfl⟩ <;> exact ⟨(fun e => by rw [e] at h1; cases h1), by rw [h1]; exact Nat.le_of_ble_eq_true rfl⟩
      refine ⟨_, rfl, (Nat.le_of_ble_eq_true rfl), fun p3 hp3 => ⟨_, rfl, p3, tt, _, _, rfl, rfl, sqt upd_same, sqt (same_new hp3 _ _ _ et), ?_, (fun e => by cases e), (fun _ e => absurd e hvl.1), fun _ _ p4 hp4 => ⟨_, rfl, (Nat.le_of_ble_eq_true rfl), fun p5 hp5 => ?_⟩⟩⟩
      · rw [List.length_singleton]
        exact big (by omega)
      have s4 := (same_new hp3 (.tup [.str t.1])).trans ((same_new hp4 (.tup ([.str t.1] ++ vs))).trans (same_new hp5 (.tup [.ref p4, .int ((n2 : Nat) : Int)])))
      exact g p5 (.ref p4) n2 _ ((s2 _).trans (s3.trans s4)) (by rw [upd_same]) (mk_in hsh (same_new hp5 _ _ _ upd_same) (hin.mono (Tp.same s4))) hn2
/-! ### _read_part -/
theorem rx_part_of (T : Txt K mg) (EX : Exs K mg) {k m : Nat} (hk : 3 ≤ k)
    (G_read_expression : FnOk P w K mg base (L2N.CX P w) k T.a_read_expression T.d_read_expression P_read_expression (fun vs H Q E => ∃ m', m = m' + 1 ∧ spEX EX.c_BadText m' vs H Q E))
    (G_read_condition : FnOk P w K mg base (L2N.CX P w) k T.a_read_condition T.d_read_condition P_read_condition (fun vs H Q E => ∃ m', m = m' + 1 ∧ spCX EX.c_BadText m' vs H Q E)) :
    FnOk P w K mg base (L2N.CX P w) (k + 1) T.a_read_part T.d_read_part P_read_part (spPartX EX.c_BadText m) := by
  have GI_BadText := init_ok (P := P) (w := w) (base := base) EX
  have G_read_divisor := rx_read_divisor (P := P) (w := w) (base := base) T EX
  refine okN T.F_read_part sc_read_part (fun vs H Q E h => ?_) (fun cdv A outer s H vs Q E hr h => ?_)
  · obtain ⟨q, n, dp, kd, ts, rfl, _⟩ := h
    rfl
  obtain ⟨q, n, dp, kd, ts, rfl, ht, hz, hf, hkd, hdp, g⟩ := h
  refine ⟨_, (pss_cons (ps_if (pt_cmpR op_eq (pv 2) pe_str (nomark _))
    (pss_one (ps_ret (pe_callS G_read_divisor (hr.mono (by omega)) (by rfl) T.m_read_divisor T.F_read_divisor.kp T.b_read_divisor (fun σ => L2N.passAt (L2N.takes_of rfl rfl rfl rfl) σ) (pa_cons (pv 0) (pa_cons (pv 1) pa_nil)))))
    pss_nil)
    (pss_cons (ps_if (pt_cmpR op_gt (pv 3) (pe_glob rfl T.g_MOST_DEPTH T.r_MOST_DEPTH) (nomark _))
    (pss_one (L2N.ps_raise rfl (L2N.takes_of rfl rfl rfl rfl) (mk_oexN EX.oe EX.iI EX.tI GI_BadText (hr.mono (by omega)) EX.bI pass0 (by rfl) EX.g_BadText (pa_cons pe_int (pa_cons (pe_ix ix_tup (pe_ix ix_list (pv 0) (pv 1) (fun _ _ => rfl)) pe_int (fun _ _ => rfl)) pa_nil)))))
    pss_nil)
    (pss_cons (ps_if (pt_cmpR op_eq (pv 2) pe_str (nomark _))
    (pss_one (ps_ret (pe_callS G_read_expression (hr.mono (by omega)) (by rfl) T.m_read_expression T.F_read_expression.kp T.b_read_expression (fun σ => L2N.passAt (L2N.takes_of rfl rfl rfl rfl) σ) (pa_cons (pv 0) (pa_cons (pv 1) (pa_cons (pv 3) pa_nil))))))
    pss_nil)
    (pss_one (ps_ret (pe_callS G_read_condition (hr.mono (by omega)) (by rfl) T.m_read_condition T.F_read_condition.kp T.b_read_condition (fun σ => L2N.passAt (L2N.takes_of rfl rfl rfl rfl) σ) (pa_cons (pv 0) (pa_cons (pv 1) (pa_cons (pv 3) pa_nil))))))))), ?_⟩
  obtain ⟨um, gm, rm⟩ : ∃ u, mg "MOST_DEPTH" = some u ∧ L2.RelV (.int 12) u := ⟨_, T.g_MOST_DEPTH, T.r_MOST_DEPTH⟩
  refine ⟨_, rfl, rfl, _, rfl, ?_⟩
  rw [strE]
  by_cases h0 : kd = "divisor"
  · refine ifT (decide_eq_true h0) ?_
    refine ⟨_, rfl, _, rfl, q, n, ts, rfl, ht, hz, hf, ?_⟩
    have e : rdPt m kd (ts.drop n) = rdDv (ts.drop n) := by
      cases m <;> unfold rdPt <;> rw [if_pos h0]
    rw [e] at g
    exact g
  refine ifF (decide_eq_false h0) ?_
  refine ⟨_, rfl, _, _, rfl, rfl, _, rfl, ?_⟩
  cases m with
  | zero =>
    refine ifT (decide_eq_true (by omega)) ?_
    obtain ⟨t, r, etr⟩ := fin_cons hf
    obtain ⟨xs1, a, eq, hat, ha⟩ := ht.tok etr
    rw [rdPt, if_neg h0, etr] at g
    refine ⟨_, rfl, _, rfl, q, _, _, _, rfl, rfl, sqd eq, hat, a, _, 1, _, rfl, rfl, sqt ha, atI1, (Nat.le_of_ble_eq_true rfl), bad_go g⟩
  | succ m =>
    refine ifF (decide_eq_false (by omega)) ?_
    rw [rdPt, if_neg h0] at g
    refine ⟨_, rfl, rfl, _, rfl, ?_⟩
    rw [strE]
    by_cases h1 : kd = "expression"
    · rw [if_pos h1] at g
      refine ifT (decide_eq_true h1) ?_
      exact ⟨_, rfl, _, rfl, _, rfl, m, rfl, q, n, dp, ts, rfl, ht, hz, hf, by omega, g⟩
    · rw [if_neg h1] at g
      refine ifF (decide_eq_false h1) ?_
      exact ⟨_, rfl, _, rfl, _, rfl, m, rfl, q, n, dp, ts, rfl, ht, hz, hf, by omega, g⟩
theorem never_ok {k : Nat} {fa : Addr} {fd : FuncData} {ps : List Str} {sp : Sp} {CX : CXT} (no : ∀ vs H Q E, ¬ sp vs H Q E) : FnOk P w K mg base CX k fa fd ps sp :=
  ⟨fun vs H Q E h => absurd h (no vs H Q E), fun A outer s H args us vs Q E _ _ _ _ h => absurd h (no vs H Q E)⟩
theorem fn_imp {k : Nat} {fa : Addr} {fd : FuncData} {ps : List Str} {sp sp' : Sp} {CX : CXT} (F : FnOk P w K mg base CX k fa fd ps sp) (h : ∀ vs H Q E, sp' vs H Q E → sp vs H Q E) : FnOk P w K mg base CX k fa fd ps sp' :=
  ⟨fun vs H Q E g => F.len vs H Q E (h vs H Q E g), fun A outer s H args us vs Q E hr h0 hb hv g => F.run A outer s H args us vs Q E hr h0 hb hv (h vs H Q E g)⟩
theorem rx_read_part (T : Txt K mg) (D : Dic K w mg) (EX : Exs K mg) : ∀ m : Nat, FnOk P w K mg base (L2N.CX P w) (3 * m + 4) T.a_read_part T.d_read_part P_read_part (spPartX EX.c_BadText m)
  | 0 => rx_part_of T EX (Nat.le_refl 3) (never_ok fun _ _ _ _ ⟨m, e, _⟩ => by omega) (never_ok fun _ _ _ _ ⟨m, e, _⟩ => by omega)
  | m + 1 => by
    have g := rx_read_part T D EX m
    have g1 := rx_read_parts T EX (by omega) g
    have g2 := rx_read_conditions T EX (by omega) g
    have g3 := rx_read_expression T D EX (by omega) g1
    have g4 := rx_read_condition T D EX (by omega) g1 g2
    exact rx_part_of T EX (k := 3 * m + 6) (by omega) (fn_imp g3 fun vs H Q E h => by
      obtain ⟨m', e, h⟩ := h
      obtain rfl : m = m' := by omega
      exact h) (fn_imp g4 fun vs H Q E h => by
      obtain ⟨m', e, h⟩ := h
      obtain rfl : m = m' := by omega
      exact h)
/-! ### read_whole, read_expression, read_condition -/
def ResW (C : Addr) (H : Hp) (Q : VK) (E : XK) : Except Nat Pt → Prop
  | .error c => BT C H E c
  | .ok p => ∀ v H', Same H H' → PtIn H' p v → Q v H'
def endT (z : Str) (ts : List Tok) : List Tok := ts ++ [(("" : Str), z.length + 1)]
def spWholeX (C : Addr) : Sp := fun vs H Q E => ∃ (z kd : Str) (ts : List Tok), vs = [.str z, .str kd] ∧ z.length ≤ 9000000 ∧ Kd3 kd ∧ Toks ((tl z).drop (rn sp (tl z))) (rn sp (tl z)) ts ∧ ResW C H Q E (rdW kd (endT z ts))
theorem toks_bound {l : List Nat} {n : Nat} {ts : List Tok} (h : Toks l n ts) : ts.length ≤ l.length ∧ ∀ t ∈ ts, t.1.length ≤ l.length := by
  induction h with
  | nil n => exact ⟨Nat.le_refl _, fun t h => nomatch h⟩
  | cons h0 h ih =>
    rename_i l n ts
    obtain ⟨p1, p2⟩ := pc_pos h0
    have e : ((l.drop (pc l)).drop (rn sp (l.drop (pc l)))).length + 1 ≤ l.length := by
      rw [List.length_drop, List.length_drop]
      omega
    refine ⟨by rw [List.length_cons]; omega, fun t ht => ?_⟩
    rcases List.mem_cons.mp ht with z | z
    · rw [z]
      show (⟨(l.take (pc l)).toArray⟩ : Str).length ≤ _
      rw [← tl_len, tl_mk, List.length_take]
      omega
    · have := ih.2 t z
      omega
theorem rx_read_whole (T : Txt K mg) (D : Dic K w mg) (EX : Exs K mg) : FnOk P w K mg base (L2N.CX P w) 41 T.aread_whole T.dread_whole Pread_whole (spWholeX EX.c_BadText) := by
  have Gtokens_of := ok_tokens_of (P := P) (w := w) (base := base) T
  have G_pass_token := rx_pass_token (P := P) (w := w) (base := base) T EX
  have G_read_part := rx_read_part (P := P) (base := base) T D EX 12
  refine okN T.Fread_whole scread_whole (fun vs H Q E h => ?_) (fun cdv A outer s H vs Q E hr h => ?_)
  · obtain ⟨z, kd, ts, rfl, _⟩ := h
    rfl
  obtain ⟨z, kd, ts, rfl, hz, hkd, hT, g⟩ := h
  refine ⟨_, (pss_cons (ps_set (i := 2) scread_whole.nd rfl (Or.inl rfl) (pe_call Gtokens_of (hr.mono (by omega)) (by rfl) T.mtokens_of T.Ftokens_of.kp T.btokens_of .nil pass0 (pa_cons (pv 0) pa_nil)))
    (pss_cons (ps_asg (pe_callS G_read_part (hr.mono (by omega)) (by rfl) T.m_read_part T.F_read_part.kp T.b_read_part (fun σ => L2N.passAt (L2N.takes_of rfl rfl rfl rfl) σ) (pa_cons (pv 2) (pa_cons pe_int (pa_cons (pv 1) (pa_cons pe_int pa_nil))))) (pg_tup rfl (pgs_cons (pg_name (i := 3) scread_whole.nd rfl (Or.inl rfl)) (pgs_cons (pg_name (i := 4) scread_whole.nd rfl (Or.inl rfl)) pgs_nil))))
    (pss_cons (ps_expr (pe_callS G_pass_token (hr.mono (by omega)) (by rfl) T.m_pass_token T.F_pass_token.kp T.b_pass_token (fun σ => L2N.passAt (L2N.takes_of rfl rfl rfl rfl) σ) (pa_cons (pv 2) (pa_cons (pv 4) (pa_cons pe_str pa_nil)))))
    (pss_one (ps_ret (pv 3)))))), ?_⟩
  have hb := toks_bound hT
  have hdl : ((tl z).drop (rn sp (tl z))).length ≤ 9000000 := by
    rw [List.length_drop, tl_len]; omega
  have hTz : Tz (endT z ts) := by
    refine ⟨by unfold endT; rw [List.length_append, List.length_singleton]; omega, fun t ht => ?_⟩
    rcases List.mem_append.mp ht with h | h
    · have := hb.2 t h
      omega
    · rw [List.mem_singleton.mp h]
      show ("" : Str).length ≤ _
      decide +kernel
  refine ⟨_, rfl, z, ts, rfl, by omega, hT, fun q H1 s1 hq ht => ?_⟩
  have ht : TokIn H1 q (endT z ts) := ht
  have hfin : Fin (endT z ts) := ⟨ts, _, rfl⟩
  refine ⟨_, rfl, _, rfl, q, 0, 1, kd, endT z ts, rfl, ht, hTz, hfin, hkd, rfl, ?_⟩
  rw [List.drop_zero]
  unfold rdW at g
  cases e : rdPt 12 kd (endT z ts) with
  | error c =>
    rw [e] at g
    exact Bad.same g s1
  | ok x =>
    obtain ⟨p, r⟩ := x
    rw [e] at g
    dsimp only at g
    intro a v n2 H2 s2 ea hv hn2
    refine ⟨a, _, rfl, sqt ea, rfl, _, _, rfl, _, _, rfl, rfl, ?_⟩
    have hfr : Fin r := (rdPt_ok 12 _ _ _ _ e).1.fin hfin
    obtain ⟨t, r2, er⟩ := fin_cons hfr
    rw [er, passT] at g
    refine ⟨_, rfl, _, rfl, q, n2, "", endT z ts, t, r2, rfl, ht.same s2, by rw [hn2, er], fun ew => ?_, fun ew => ?_⟩
    · rw [if_pos ew] at g
      exact ⟨_, rfl, g v H2 (s1.trans s2) hv⟩
    · rw [if_neg ew] at g
      exact Bad.same g (s1.trans s2)
def spReadX (C : Addr) (kd : Str) : Sp := fun vs H Q E => ∃ (z : Str) (ts : List Tok), vs = [.str z] ∧ z.length ≤ 9000000 ∧ Toks ((tl z).drop (rn sp (tl z))) (rn sp (tl z)) ts ∧ ResW C H Q E (rdW kd (endT z ts))
end
end NL

namespace NL
open PySem PySem.Spec PyProof.Rows L2
/-! ### the reader takes an item's own tokens and gives the item -/
/-- l0 bears these words -/
def Bears (l0 : List Tok) (ws : List Str) : Prop := l0.map Prod.fst = ws
theorem bears_cons {l0 : List Tok} {w : Str} {ws : List Str} (h : Bears l0 (w :: ws)) : ∃ t l, l0 = t :: l ∧ t.1 = w ∧ Bears l ws := by
  cases l0 with
  | nil => cases h
  | cons t l =>
    have h : t.1 :: l.map Prod.fst = w :: ws := h
    cases h
    exact ⟨t, l, rfl, rfl, rfl⟩
theorem bears_app {l0 : List Tok} {a b : List Str} (h : Bears l0 (a ++ b)) : ∃ x y, l0 = x ++ y ∧ Bears x a ∧ Bears y b := by
  refine ⟨l0.take a.length, l0.drop a.length, (List.take_append_drop _ _).symm, ?_, ?_⟩
  · show (l0.take a.length).map Prod.fst = a
    rw [List.map_take, h, List.take_left]
  · show (l0.drop a.length).map Prod.fst = b
    rw [List.map_drop, h, List.drop_left]
theorem bears_nil {l0 : List Tok} (h : Bears l0 []) : l0 = [] := List.map_eq_nil_iff.mp h
theorem passT_hit {w : Str} {t : Tok} {l : List Tok} (h : t.1 = w) : passT w (t :: l) = .ok l := by rw [passT, if_pos h]
/-- what a reader of parts must give -/
def Gives (rp : RP) (k : Str) (p : Pt) : Prop := ∀ l0 r, Bears l0 p.tk → rp k (l0 ++ r) = .ok (p, r)
theorem rdPs_full {rp : RP} : ∀ {ks : List Str} {ps : List Pt}, ks.length = ps.length → (∀ (j : Nat) k p, ks[j]? = some k → ps[j]? = some p → Gives rp k p) → ∀ (l0 r : List Tok), Bears l0 (tlP ps) → rdPs rp ks "," (l0 ++ r) = .ok (ps, r)
  | [], [], _, _, l0, r, h => by
    obtain ⟨t, l, rfl, ht, hl⟩ := bears_cons (show Bears l0 (")" :: []) from h)
    rw [bears_nil hl, List.cons_append, List.nil_append, rdPs, passT_hit ht]
  | k :: ks, p :: ps, hl, hg, l0, r, h => by
    obtain ⟨t, l, rfl, ht, h2⟩ := bears_cons (show Bears l0 ("," :: (p.tk ++ tlP ps)) from h)
    obtain ⟨x, y, rfl, hx, hy⟩ := bears_app h2
    have e1 := hg 0 k p rfl rfl x (y ++ r) hx
    have e2 := rdPs_full (ks := ks) (ps := ps) (by simpa using hl) (fun j k p a b => hg (j + 1) k p (by simpa using a) (by simpa using b)) y r hy
    rw [List.cons_append, List.append_assoc, rdPs, passT_hit ht]
    dsimp only
    rw [e1]
    dsimp only
    rw [e2]
  | [], _ :: _, hl, _, _, _, _ => by cases hl
  | _ :: _, [], hl, _, _, _, _ => by cases hl
theorem rdPs_open {rp : RP} {ks : List Str} {ps : List Pt} (hl : ks.length = ps.length) (hne : ps ≠ []) (hg : ∀ (j : Nat) k p, ks[j]? = some k → ps[j]? = some p → Gives rp k p) (l0 r : List Tok) (h : Bears l0 (opP ps)) : rdPs rp ks "(" (l0 ++ r) = .ok (ps, r) := by
  cases ps with
  | nil => exact absurd rfl hne
  | cons p ps =>
    cases ks with
    | nil => cases hl
    | cons k ks =>
      obtain ⟨t, l, rfl, ht, h2⟩ := bears_cons (show Bears l0 ("(" :: (p.tk ++ tlP ps)) from h)
      obtain ⟨x, y, rfl, hx, hy⟩ := bears_app h2
      have e1 := hg 0 k p rfl rfl x (y ++ r) hx
      have e2 := rdPs_full (ks := ks) (ps := ps) (by simpa using hl) (fun j k p a b => hg (j + 1) k p (by simpa using a) (by simpa using b)) y r hy
      rw [List.cons_append, List.append_assoc, rdPs, passT_hit ht]
      dsimp only
      rw [e1]
      dsimp only
      rw [e2]
theorem rdCs_full {rp : RP} : ∀ {ps : List Pt}, (∀ p ∈ ps, Gives rp "condition" p) → ∀ (l0 r : List Tok) (fu : Nat), (l0 ++ r).length ≤ fu → Bears l0 (tlP ps) → rdCs rp fu (l0 ++ r) = .ok (ps, r)
  | [], _, l0, r, fu, hf, h => by
    obtain ⟨t, l, rfl, ht, hl⟩ := bears_cons (show Bears l0 (")" :: []) from h)
    rw [List.cons_append, List.length_cons] at hf
    obtain ⟨fu, rfl⟩ : ∃ f, fu = f + 1 := ⟨fu - 1, by omega⟩
    rw [bears_nil hl, List.cons_append, List.nil_append, rdCs, if_neg (by rw [ht]; decide +kernel), if_pos ht]
  | p :: ps, hg, l0, r, fu, hf, h => by
    obtain ⟨t, l, rfl, ht, h2⟩ := bears_cons (show Bears l0 ("," :: (p.tk ++ tlP ps)) from h)
    obtain ⟨x, y, rfl, hx, hy⟩ := bears_app h2
    rw [List.cons_append, List.length_cons, List.append_assoc, List.length_append] at hf
    obtain ⟨fu, rfl⟩ : ∃ f, fu = f + 1 := ⟨fu - 1, by omega⟩
    have e1 := hg p List.mem_cons_self x (y ++ r) hx
    have e2 := rdCs_full (ps := ps) (fun p hp => hg p (List.mem_cons_of_mem _ hp)) y r fu (by omega) hy
    rw [List.cons_append, List.append_assoc, rdCs, if_pos ht, e1]
    dsimp only
    rw [e2]
/-- the parts of an item and their kinds -/
def It.kds : It → List Str
  | .un w _ => if w = "not" then ["condition"] else ["expression"]
  | .dm _ _ _ => ["expression", "divisor"]
  | .bin _ _ _ => ["expression", "expression"]
  | .tri _ _ _ => ["condition", "expression", "expression"]
  | _ => []
theorem mkI_pts {i : It} (h0 : i.cls ≠ 0) (h1 : i.cls ≠ 1) (hw : ∀ a b c, i = .tri a b c → i.word = "if") : mkI i.word i.pts = i := by
  cases i with
  | num _ => exact absurd rfl h0
  | name _ => exact absurd rfl h0
  | lit _ => exact absurd rfl h0
  | grp _ _ => exact absurd rfl h1
  | _ => rfl
theorem rdW_kd {m : Nat} : rdPt m "divisor" = fun l => rdDv l := by
  funext l
  cases m <;> unfold rdPt <;> rw [if_pos rfl]
theorem rd_full {xs : List Str} {B : Nat} (hx : ∀ x ∈ xs, isN x = true ∧ isI x = false) (hB : B < 10 ^ 60 - 1) : ∀ (m : Nat) {b : Bool} {i : It}, Okx xs B b i → i.dep ≤ m → Gives (rdPt m) (if b then "condition" else "expression") (.ex i)
  | 0, b, i, _, hd => by
    have := dep_pos i
    omega
  | m + 1, b, i, ho, hd => by
    intro l0 r hl
    have ih := fun {b' : Bool} {j : It} (hj : Okx xs B b' j) (hdj : j.dep ≤ m) => rd_full hx hB m hj hdj
    change Bears l0 i.tk at hl
    have eE : ∀ l, rdPt (m + 1) "expression" l = rdE (rdPt m) l := fun l => by rw [rdPt, if_neg (by decide +kernel), if_pos rfl]
    have eC : ∀ l, rdPt (m + 1) "condition" l = rdC (rdPt m) l := fun l => by rw [rdPt, if_neg (by decide +kernel), if_neg (by decide +kernel)]
    have ihE := fun {j : It} (hj : Okx xs B false j) (hdj : j.dep ≤ m) => (ih hj hdj : Gives (rdPt m) "expression" (.ex j))
    have ihC := fun {j : It} (hj : Okx xs B true j) (hdj : j.dep ≤ m) => (ih hj hdj : Gives (rdPt m) "condition" (.ex j))
    have ihD : ∀ {n : Int}, 1 ≤ n → n.natAbs ≤ B + 1 → Gives (rdPt m) "divisor" (.dv n) := fun {n} h1 h2 l0 r hl => by
      obtain ⟨t, l, rfl, ht, hl⟩ := bears_cons (show Bears l0 (itxt n :: []) from hl)
      have hb : n.natAbs < 10 ^ 60 := by omega
      rw [bears_nil hl, rdW_kd, List.cons_append, List.nil_append]
      show rdDv (t :: r) = _
      rw [rdDv, ht, if_pos ⟨isI_itxt hb, by rw [ival_itxt hb]; exact h1⟩, ival_itxt hb]
    -- a word with parts
    have nodeE : ∀ {w : Str} {ks : List Str} {ps : List Pt} {j : It}, rows_EXPRESSION_PARTS.lookup w = some ks → isI w = false → isN w = false → ks.length = ps.length → ps ≠ [] → (∀ (j : Nat) k p, ks[j]? = some k → ps[j]? = some p → Gives (rdPt m) k p) → mkI w ps = j → Bears l0 (w :: opP ps) → rdPt (m + 1) "expression" (l0 ++ r) = .ok (.ex j, r) := fun {w ks ps j} h1 h2 h3 h4 h5 h6 h7 h8 => by
      obtain ⟨t, l, rfl, ht, h9⟩ := bears_cons h8
      have e := rdPs_open h4 h5 h6 l r h9
      rw [eE, List.cons_append, rdE, ht, if_neg (by rw [h2]; exact Bool.false_ne_true), if_neg (by rw [h3]; exact Bool.false_ne_true), h1]
      dsimp only
      rw [e]
      dsimp only
      rw [h7]
    have nodeC : ∀ {w : Str} {ks : List Str} {ps : List Pt} {j : It}, rows_CONDITION_PARTS.lookup w = some ks → w ∉ (["true", "false"] : List Str) → w ∉ (["all", "any"] : List Str) → ks.length = ps.length → ps ≠ [] → (∀ (j : Nat) k p, ks[j]? = some k → ps[j]? = some p → Gives (rdPt m) k p) → mkI w ps = j → Bears l0 (w :: opP ps) → rdPt (m + 1) "condition" (l0 ++ r) = .ok (.ex j, r) := fun {w ks ps j} h1 h2 h3 h4 h5 h6 h7 h8 => by
      obtain ⟨t, l, rfl, ht, h9⟩ := bears_cons h8
      have e := rdPs_open h4 h5 h6 l r h9
      rw [eC, List.cons_append, rdC, ht, if_neg h2, if_neg h3, h1]
      dsimp only
      rw [e]
      dsimp only
      rw [h7]
    have two : ∀ {k1 k2 : Str} {p1 p2 : Pt}, Gives (rdPt m) k1 p1 → Gives (rdPt m) k2 p2 → ∀ (j : Nat) k p, [k1, k2][j]? = some k → [p1, p2][j]? = some p → Gives (rdPt m) k p := fun {k1 k2 p1 p2} g1 g2 j k p a b => by
      match j, a, b with
      | 0, a, b => cases a; cases b; exact g1
      | 1, a, b => cases a; cases b; exact g2
      | j + 2, a, b => simp at a
    have one : ∀ {k1 : Str} {p1 : Pt}, Gives (rdPt m) k1 p1 → ∀ (j : Nat) k p, [k1][j]? = some k → [p1][j]? = some p → Gives (rdPt m) k p := fun {k1 p1} g1 j k p a b => by
      match j, a, b with
      | 0, a, b => cases a; cases b; exact g1
      | j + 1, a, b => simp at a
    have hdk : ∀ j ∈ i.kids, j.dep ≤ m := fun j hj => by
      have h1 := depL_in hj
      have h2 := @kids_dep i
      omega
    cases ho with
    | num hn =>
      rw [It.tk] at hl
      obtain ⟨t, l, rfl, ht, hl⟩ := bears_cons hl
      have hb := (show _ < 10 ^ 60 from Nat.lt_of_le_of_lt hn (by omega))
      rw [bears_nil hl, List.cons_append, List.nil_append]
      show rdPt (m + 1) "expression" (t :: r) = _
      rw [eE, rdE, ht, if_pos (isI_itxt hb), ival_itxt hb]
    | name hm =>
      rw [It.tk] at hl
      obtain ⟨t, l, rfl, ht, hl⟩ := bears_cons hl
      obtain ⟨q1, q2⟩ := hx _ hm
      rw [bears_nil hl, List.cons_append, List.nil_append]
      show rdPt (m + 1) "expression" (t :: r) = _
      rw [eE, rdE, ht, if_neg (by rw [q2]; exact Bool.false_ne_true), if_pos q1]
    | lit =>
      rename_i bb
      rw [It.tk] at hl
      obtain ⟨t, l, rfl, ht, hl⟩ := bears_cons hl
      rw [bears_nil hl, List.cons_append, List.nil_append]
      show rdPt (m + 1) "condition" (t :: r) = _
      rw [eC, rdC, ht, if_pos (by cases bb <;> decide +kernel)]
      cases bb <;> rfl
    | abs ha =>
      rw [tk_pts (by simp [It.cls])] at hl
      exact nodeE (ks := ["expression"]) (ps := [.ex _]) (by decide +kernel) (by decide +kernel) (by decide +kernel) rfl (List.cons_ne_nil _ _) (one (ihE ha (hdk _ (by simp [It.kids])))) rfl hl
    | not ha =>
      rw [tk_pts (by simp [It.cls])] at hl
      exact nodeC (ks := ["condition"]) (ps := [.ex _]) (by decide +kernel) (by decide +kernel) (by decide +kernel) rfl (List.cons_ne_nil _ _) (one (ihC ha (hdk _ (by simp [It.kids])))) rfl hl
    | dm hw ha h1 h2 =>
      rw [tk_pts (by simp [It.cls])] at hl
      have hrow : ∀ w ∈ (["div", "mod"] : List Str), rows_EXPRESSION_PARTS.lookup w = some (["expression", "divisor"] : List Str) ∧ isI w = false ∧ isN w = false := by decide +kernel
      obtain ⟨q1, q2, q3⟩ := hrow _ hw
      exact nodeE (ps := [.ex _, .dv _]) q1 q2 q3 rfl (List.cons_ne_nil _ _) (two (ihE ha (hdk _ (by simp [It.kids]))) (ihD h1 h2)) rfl hl
    | bin hw ha hb =>
      rw [tk_pts (by simp [It.cls])] at hl
      have hrow : ∀ w ∈ (["add", "sub", "mul", "min", "max"] : List Str), rows_EXPRESSION_PARTS.lookup w = some (["expression", "expression"] : List Str) ∧ isI w = false ∧ isN w = false := by decide +kernel
      obtain ⟨q1, q2, q3⟩ := hrow _ hw
      exact nodeE (ps := [.ex _, .ex _]) q1 q2 q3 rfl (List.cons_ne_nil _ _) (two (ihE ha (hdk _ (by simp [It.kids]))) (ihE hb (hdk _ (by simp [It.kids])))) rfl hl
    | cmp hw ha hb =>
      rw [tk_pts (by simp [It.cls])] at hl
      have hrow : ∀ w ∈ (["less", "equal"] : List Str), rows_CONDITION_PARTS.lookup w = some (["expression", "expression"] : List Str) ∧ w ∉ (["true", "false"] : List Str) ∧ w ∉ (["all", "any"] : List Str) := by decide +kernel
      obtain ⟨q1, q2, q3⟩ := hrow _ hw
      exact nodeC (ps := [.ex _, .ex _]) q1 q2 q3 rfl (List.cons_ne_nil _ _) (two (ihE ha (hdk _ (by simp [It.kids]))) (ihE hb (hdk _ (by simp [It.kids])))) rfl hl
    | tri ha hb hc =>
      rw [tk_pts (by simp [It.cls])] at hl
      refine nodeE (w := "if") (ks := ["condition", "expression", "expression"]) (ps := [.ex _, .ex _, .ex _]) (by decide +kernel) (by decide +kernel) (by decide +kernel) rfl (List.cons_ne_nil _ _) (fun j k p a b => ?_) rfl hl
      match j, a, b with
      | 0, a, b => cases a; cases b; exact ihC ha (hdk _ (by simp [It.kids]))
      | 1, a, b => cases a; cases b; exact ihE hb (hdk _ (by simp [It.kids]))
      | 2, a, b => cases a; cases b; exact ihE hc (hdk _ (by simp [It.kids]))
      | j + 3, a, b => simp at a
    | grp hw hlen hall =>
      rename_i wg lg
      rw [tk_pts (by simp [It.cls])] at hl
      have hrow : ∀ w ∈ (["all", "any"] : List Str), w ∉ (["true", "false"] : List Str) := by decide +kernel
      have q1 := hrow _ hw
      obtain ⟨t, l, rfl, ht, h9⟩ := bears_cons (show Bears l0 (wg :: opP (lg.map .ex)) from hl)
      show rdPt (m + 1) "condition" (t :: l ++ r) = _
      have hG : rdG (rdPt m) (l ++ r) = .ok (lg.map .ex, r) := by
        cases lg with
        | nil =>
          obtain ⟨t1, l1, rfl, ht1, h10⟩ := bears_cons (show Bears l ("(" :: ")" :: []) from h9)
          obtain ⟨t2, l2, rfl, ht2, h11⟩ := bears_cons h10
          rw [bears_nil h11, List.cons_append, rdG, passT_hit ht1]
          dsimp only [List.cons_append, List.nil_append]
          rw [if_pos ht2]
          rfl
        | cons a rr =>
          obtain ⟨t1, l1, rfl, ht1, h10⟩ := bears_cons (show Bears l ("(" :: ((Pt.ex a).tk ++ tlP (rr.map .ex))) from h9)
          obtain ⟨x, y, rfl, hx1, hy⟩ := bears_app h10
          have ga := ihC (hall a List.mem_cons_self) (hdk a List.mem_cons_self)
          have e1 : rdPt m "condition" (x ++ (y ++ r)) = .ok (.ex a, y ++ r) := ga x (y ++ r) hx1
          have e2 := rdCs_full (rp := rdPt m) (ps := rr.map .ex) (fun p hp => by
            obtain ⟨j, hj, rfl⟩ := List.mem_map.mp hp
            exact ihC (hall j (List.mem_cons_of_mem _ hj)) (hdk j (List.mem_cons_of_mem _ hj))) y r _ (Nat.le_refl _) hy
          obtain ⟨t2, l2, ex2, hn2⟩ : ∃ t2 l2, x ++ (y ++ r) = t2 :: l2 ∧ t2.1 ≠ ")" := by
            cases hxx : x ++ (y ++ r) with
            | nil =>
              rw [hxx] at e1
              cases m with
              | zero => rw [rdPt, if_neg (by decide +kernel)] at e1; cases e1
              | succ m => rw [rdPt, if_neg (by decide +kernel), if_neg (by decide +kernel)] at e1; cases e1
            | cons t2 l2 =>
              refine ⟨t2, l2, rfl, fun e => ?_⟩
              rw [hxx] at e1
              have hc : ∀ m, rdPt m "condition" (t2 :: l2) ≠ .ok (.ex a, y ++ r) := fun m h => by
                cases m with
                | zero => rw [rdPt, if_neg (by decide +kernel)] at h; cases h
                | succ m =>
                  rw [rdPt, if_neg (by decide +kernel), if_neg (by decide +kernel), rdC, e, if_neg (by decide +kernel), if_neg (by decide +kernel), show rows_CONDITION_PARTS.lookup (")" : Str) = none by decide +kernel] at h
                  cases h
              exact hc m e1
          rw [List.cons_append, List.append_assoc, rdG, passT_hit ht1]
          dsimp only
          rw [ex2]
          dsimp only
          rw [if_neg hn2, ← ex2, e1]
          dsimp only
          rw [e2]
          rfl
      rw [eC, List.cons_append, rdC, ht, if_neg q1, if_pos hw, hG]
      dsimp only
      rw [List.map_map]
      congr 3
      exact congrArg (It.grp wg) (List.map_id lg)
/-- a text whose tokens are an item's is read as the item -/
theorem rdW_full {xs : List Str} {B : Nat} (hx : ∀ x ∈ xs, isN x = true ∧ isI x = false) (hB : B < 10 ^ 60 - 1) {b : Bool} {i : It} (ho : Okx xs B b i) (hd : i.dep ≤ 12) {z : Str} {ts : List Tok} (h : Bears ts i.tk) : rdW (if b then "condition" else "expression") (endT z ts) = .ok (.ex i) := by
  unfold rdW endT
  rw [rd_full hx hB 12 ho hd ts _ h]
  dsimp only
  rw [show passT "" [(("" : Str), z.length + 1)] = .ok [] from passT_hit (t := (("" : Str), z.length + 1)) rfl]
end NL

namespace NL
open PySem PySem.Spec PyProof.Rows L2
/-! ### the lines of a plant's text, taken apart -/
theorem nin_app {c : Nat} {a b : Str} (ha : c ∉ TL.tl a) (hb : c ∉ TL.tl b) : c ∉ TL.tl (a ++ b) := by
  rw [TL.tl_append]
  exact fun h => (List.mem_append.mp h).elim ha hb
theorem app_assoc (a b c : Str) : a ++ b ++ c = a ++ (b ++ c) := TL.ext_tl (by rw [TL.tl_append, TL.tl_append, TL.tl_append, TL.tl_append, List.append_assoc])
theorem eol_join : ∀ ls : List Str, TL.joinL (TL.tl "") ((ls.map eol).map TL.tl) = TL.joinL (TL.tl "\n") ((ls ++ [("" : Str)]).map TL.tl)
  | [] => rfl
  | [a] => by
    show TL.tl (a ++ "\n") = TL.tl a ++ (TL.tl "\n" ++ TL.tl "")
    rw [TL.tl_append]
    rfl
  | a :: b :: r => by
    show TL.tl (a ++ "\n") ++ (TL.tl "" ++ TL.joinL (TL.tl "") (((b :: r).map eol).map TL.tl)) = TL.tl a ++ (TL.tl "\n" ++ TL.joinL (TL.tl "\n") (((b :: r) ++ [("" : Str)]).map TL.tl))
    rw [eol_join (b :: r), TL.tl_append, List.append_assoc]
    rfl
theorem eol_text (ls : List Str) : Str.join "" (ls.map eol) = Txt.join "\n" (ls ++ [("" : Str)]) := by
  rw [TL.join_eq]
  refine TL.ext_tl ?_
  rw [TL.tl_join, TL.tl_join]
  exact eol_join ls
theorem split_eol {ls : List Str} (h : ∀ t ∈ ls, 10 ∉ TL.tl t) : Txt.split (Str.join "" (ls.map eol)) "\n" = ls ++ [("" : Str)] := by
  rw [eol_text]
  refine TL.split_join (s := 10) (S := []) (by decide +kernel) (by decide +kernel) (by simp) (fun p hp => ?_)
  rcases List.mem_append.mp hp with hp | hp
  · exact h p hp
  · rw [List.mem_singleton.mp hp]
    exact fun z => nomatch z
theorem ends_eol {ls : List Str} (h : ls ≠ []) : Txt.endswith (Str.join "" (ls.map eol)) "\n" = true := by
  have : ∃ z : Str, Str.join "" (ls.map eol) = z ++ "\n" := by
    rw [eol_text, TL.join_eq]
    suffices H : ∀ ls : List Str, ls ≠ [] → ∃ z : Str, Str.join "\n" (ls ++ [("" : Str)]) = z ++ "\n" from H ls h
    intro ls
    induction ls with
    | nil => exact fun h => absurd rfl h
    | cons a r ih =>
      intro _
      cases r with
      | nil => exact ⟨a, TL.ext_tl (by
          show TL.tl (a ++ "\n" ++ "") = TL.tl (a ++ "\n")
          rw [TL.tl_append (a ++ "\n") ""]
          exact List.append_nil _)⟩
      | cons b r =>
        obtain ⟨z, hz⟩ := ih (by simp)
        refine ⟨a ++ "\n" ++ z, ?_⟩
        show a ++ "\n" ++ Str.join "\n" ((b :: r) ++ [("" : Str)]) = _
        rw [hz, app_assoc, app_assoc, app_assoc]
  obtain ⟨z, hz⟩ := this
  rw [hz]
  exact PySem.W.KT.ends_app z "\n"
/-! #### signs -/
theorem starts_no {x y : Str} (k : Nat) (hk : k < (TL.tl y).length) (h : (TL.tl x)[k]? ≠ (TL.tl y)[k]?) : Txt.startswith x y = false := by
  cases e : Txt.startswith x y with
  | false => rfl
  | true =>
    unfold Txt.startswith at e
    rw [Bool.and_eq_true, StrLaws.subAt_eq, List.drop_zero] at e
    have e2 : (TL.tl x).take y.length = TL.tl y := eq_of_beq e.2
    refine absurd ?_ h
    rw [← e2, List.getElem?_take, if_pos (by rw [← show (TL.tl y).length = y.length from Array.length_toList]; exact hk)]
theorem at_left {a b : Str} {k : Nat} (hk : k < (TL.tl a).length) : (TL.tl (a ++ b))[k]? = (TL.tl a)[k]? := by
  rw [TL.tl_append, List.getElem?_append_left hk]
theorem starts_no2 {a b y : Str} (k : Nat) (ha : k < (TL.tl a).length) (hk : k < (TL.tl y).length) (h : (TL.tl a)[k]? ≠ (TL.tl y)[k]?) : Txt.startswith (a ++ b) y = false := starts_no k hk (by rw [at_left ha]; exact h)
theorem row_form (kind : Str) (r : Row) : rowLine kind r = (kind ++ " ") ++ (r.1 ++ " " ++ itxt r.2.1 ++ " " ++ itxt r.2.2) := by
  unfold rowLine
  simp only [app_assoc]
theorem next_form (r : Row) (i : It) : nextLine r i = "next " ++ (r.1 ++ " " ++ i.wr) := by
  unfold nextLine
  simp only [app_assoc]
theorem row_starts (kind : Str) (r : Row) : Txt.startswith (rowLine kind r) (kind ++ " ") = true := by
  rw [row_form]
  exact PySem.W.KT.starts_app _ _
theorem cut_behind (a b : Str) : cutS (a ++ b) (some (a.length : Int)) none = b := by
  refine TL.ext_tl ?_
  show ((TL.tl (a ++ b)).drop (HT.sIx (a ++ b).length 0 (some (a.length : Int)))).take (HT.sIx (a ++ b).length (a ++ b).length none - HT.sIx (a ++ b).length 0 (some (a.length : Int))) = TL.tl b
  rw [HT.sIx_nat, HT.sIx_none, TL.tl_append]
  have la : (TL.tl a).length = a.length := Array.length_toList
  have lb : (TL.tl b).length = b.length := Array.length_toList
  rw [Str.length_append, Nat.min_eq_left (by omega), ← la, List.drop_left, Nat.add_sub_cancel_left, ← lb, List.take_length]
/-! #### words of a row -/
theorem rn_full {cs : List Nat} : ∀ {l : List Nat}, rn cs l = l.length → ∀ c ∈ l, c ∈ cs
  | [], _, c, hc => nomatch hc
  | a :: r, h, c, hc => by
    by_cases ha : a ∈ cs
    · rw [rn_in ha, List.length_cons] at h
      rcases List.mem_cons.mp hc with rfl | hc
      · exact ha
      · exact rn_full (by omega) c hc
    · rw [rn_out ha, List.length_cons] at h
      omega
theorem isN_signs {z : Str} (h : isN z = true) : ∀ c ∈ TL.tl z, c ∈ lets := by
  unfold isN at h
  rw [Bool.and_eq_true, Bool.and_eq_true] at h
  exact rn_full (of_decide_eq_true h.2.2)
theorem lets_plain : ∀ c ∈ lets, c ≠ 32 ∧ c ≠ 10 := by decide +kernel
theorem isN_sp {z : Str} (h : isN z = true) : 32 ∉ TL.tl z := fun m => (lets_plain _ (isN_signs h _ m)).1 rfl
theorem isN_nl {z : Str} (h : isN z = true) : 10 ∉ TL.tl z := fun m => (lets_plain _ (isN_signs h _ m)).2 rfl
theorem itxt_nin {c : Nat} (h1 : c < 48 ∨ 57 < c) (h2 : c ≠ 45) (n : Int) : c ∉ TL.tl (itxt n) := by
  intro m
  rcases (show n < 0 ∨ 0 ≤ n by omega) with hn | hn
  · have e : n = -(((n.natAbs - 1 : Nat) : Int) + 1) := by omega
    rw [e] at m
    have m' : c ∈ tl (itxt (-(((n.natAbs - 1 : Nat) : Int) + 1))) := m
    rw [itxt_neg] at m'
    rcases List.mem_cons.mp m' with rfl | m'
    · exact h2 rfl
    · exact TL.numL_free h1 m'
  · have e : n = ((n.natAbs : Nat) : Int) := by omega
    rw [e] at m
    have m' : c ∈ tl (itxt ((n.natAbs : Nat) : Int)) := m
    rw [itxt_nat] at m'
    exact TL.numL_free h1 m'
/-- a row that the reader takes -/
structure RwR (r : Row) : Prop where
  nm : isN r.1 = true
  len : r.1.length ≤ 200
  lo : r.2.1.natAbs < 10 ^ 60
  hi : r.2.2.natAbs < 10 ^ 60
  le : r.2.1 ≤ r.2.2
theorem row_split {kind : Str} (hk : 32 ∉ TL.tl kind) {r : Row} (h : RwR r) : Txt.split (rowLine kind r) " " = [kind, r.1, itxt r.2.1, itxt r.2.2] := by
  have e : rowLine kind r = Txt.join " " [kind, r.1, itxt r.2.1, itxt r.2.2] := by
    rw [TL.join_eq]
    unfold rowLine
    show kind ++ " " ++ r.1 ++ " " ++ itxt r.2.1 ++ " " ++ itxt r.2.2 = kind ++ " " ++ (r.1 ++ " " ++ (itxt r.2.1 ++ " " ++ itxt r.2.2))
    simp only [app_assoc]
  rw [e]
  refine TL.split_join (s := 32) (S := []) (by decide +kernel) (by decide +kernel) (by simp) (fun p hp => ?_)
  simp only [List.mem_cons, List.not_mem_nil, or_false] at hp
  rcases hp with rfl | rfl | rfl | rfl
  · exact hk
  · exact isN_sp h.nm
  · exact itxt_nin (by omega) (by omega) _
  · exact itxt_nin (by omega) (by omega) _
end NL

namespace NL
open PySem PySem.Spec PyProof.Rows L2
section
variable {P : Program} {w : World} {K : PySem.W.Frag} {mg : Str → Option Value} {base : Heap}
/-! ### _is_range -/
def spIsRange : Sp := fun vs H Q _ => ∃ (a b : Addr) (kind : Str) (r : Row) (xs : List Str), vs = [.ref a, .ref b] ∧ H a = some (.lst ([kind, r.1, itxt r.2.1, itxt r.2.2].map V.str)) ∧ H b = some (.tup (xs.map V.str)) ∧ RwR r ∧ r.1 ∉ xs ∧ xs.length ≤ 1000 ∧ ∀ H', Same H H' → Q (.bl true) H'
theorem ok_is_range (T : Txt K mg) : FnOk P w K mg base CX0 3 T.a_is_range T.d_is_range P_is_range spIsRange := by
  have Gis_integer := ok_is_integer (P := P) (w := w) (base := base) T
  have Gis_name := ok_is_name (P := P) (w := w) (base := base) T
  refine T.F_is_range.ok sc_is_range (fun vs H Q E h => ?_) (fun cdv A outer s H vs Q E hr h => ?_)
  · obtain ⟨a, b, kind, r, xs, rfl, _⟩ := h
    rfl
  obtain ⟨a, b, kind, r, xs, rfl, ha, hb, hr2, hx, hxl, q⟩ := h
  have il := int_read hr2.lo
  have ih := int_read hr2.hi
  refine ⟨_, (pss_cons (ps_if (pt_cmpR op_ne (pe_callB call_len_seq (by rfl) T.z_len PySem.boot_len (pa_cons (pv 0) pa_nil)) pe_int (nomark _))
    (pss_one (ps_ret pe_bl))
    pss_nil)
    (pss_cons (ps_asg (pe_slice sl_list (pv 0) (po_some pe_int) po_none) (pg_lst rfl (pgs_cons (pg_name (i := 2) sc_is_range.nd rfl (Or.inl rfl)) (pgs_cons (pg_name (i := 3) sc_is_range.nd rfl (Or.inl rfl)) (pgs_cons (pg_name (i := 4) sc_is_range.nd rfl (Or.inl rfl)) pgs_nil)))))
    (pss_cons (ps_if (PW.pt (pw_or (pt_not (pt_val (pe_call Gis_name (hr.mono (by omega)) (by rfl) T.mis_name T.Fis_name.kp T.bis_name .nil pass0 (pa_cons (pv 2) pa_nil)))) (pw_or1 (pt_cmpR op_in_seq (pv 2) (pv 1) (by rfl)))))
    (pss_one (ps_ret pe_bl))
    pss_nil)
    (pss_one (ps_ret (pe_and (pe_call Gis_integer (hr.mono (by omega)) (by rfl) T.mis_integer T.Fis_integer.kp T.bis_integer .nil pass0 (pa_cons (pv 3) pa_nil)) (pe_and (pe_call Gis_integer (hr.mono (by omega)) (by rfl) T.mis_integer T.Fis_integer.kp T.bis_integer .nil pass0 (pa_cons (pv 4) pa_nil)) (pe_one (pe_cmpR op_le (pe_callTy call_int_str (by rfl) T.z_int (by decide +kernel) (pa_cons (pv 3) pa_nil)) (pe_callTy call_int_str (by rfl) T.z_int (by decide +kernel) (pa_cons (pv 4) pa_nil)) (nomark _)))))))))), ?_⟩
  refine ⟨_, rfl, _, _, rfl, .inl (sqd ha), rfl, _, rfl, ?_⟩
  refine ifF rfl ?_
  refine ⟨_, rfl, 1, rfl, a, _, rfl, sqd ha, fun p hp => ⟨p, _, rfl, sqd upd_same, rfl, ?_⟩⟩
  have s1 := same_new hp (.lst (cutV ([kind, r.1, itxt r.2.1, itxt r.2.2].map V.str) (some 1) none))
  refine ⟨V.str r.1, [V.str (itxt r.2.1), V.str (itxt r.2.2)], rfl, _, _, rfl, _, _, rfl, rfl, ?_⟩
  refine ⟨_, rfl, _, rfl, Nat.le_trans hr2.len (by decide), _, rfl, ?_⟩
  refine ifF (by rw [hr2.nm] <;> rfl) ?_
  refine ⟨_, rfl, _, rfl, b, _, rfl, .inr (sqt (s1 _ _ hb)), rfl, flat_strs' xs, _, congrArg V.bl (inB rfl), ?_⟩
  refine ifF (decide_eq_false hx) ?_
  refine ⟨_, rfl, _, rfl, Nat.le_trans il.2 (by decide), _, congrArg V.bl (isI_itxt hr2.lo), ?_⟩
  refine ifT rfl ?_
  refine ⟨_, rfl, _, rfl, Nat.le_trans ih.2 (by decide), _, congrArg V.bl (isI_itxt hr2.hi), ?_⟩
  refine ifT rfl ?_
  refine ⟨_, rfl, _, _, rfl, il.1, Nat.le_trans il.2 (by decide), _, rfl, _, _, rfl, ih.1, Nat.le_trans ih.2 (by decide), _, _, rfl, rfl, ?_⟩
  show Q (V.bl (decide (r.2.1 ≤ r.2.2))) _
  rw [decide_eq_true hr2.le]
  exact q _ s1
end
end NL

namespace NL
open PySem PySem.Spec PyProof.Rows L2
theorem catA_one {K : PySem.W.Frag} {H : Hp} {a b : Addr} {xs ys : List V} {Q : VK} (ha : H a = some (.tup xs)) (hb : H b = some (.tup ys)) (hz : xs.length + ys.length ≤ sizeLine) (h : ∀ q H2, Same H H2 → H2 q = some (.tup (xs ++ ys)) → Q (.ref q) H2) : rCatA K (.ref a) (.ref b) H Q := by
  refine ⟨a, b, xs, ys, rfl, rfl, sqt ha, sqt hb, hz, fun e => ?_, fun _ e => ?_, fun _ _ p hp => ?_⟩
  · subst e
    exact h b H (fun _ _ q => q) hb
  · subst e
    exact h a H (fun _ _ q => q) (by rw [List.append_nil]; exact ha)
  · exact h p _ (same_new hp _) upd_same
theorem row_len {kind : Str} (hk : kind.length ≤ 10) {r : Row} (h : RwR r) : (rowLine kind r).length ≤ 1000 := by
  unfold rowLine
  simp only [Str.length_append]
  have h1 := h.len
  have h2 := (int_read h.lo).2
  have h3 := (int_read h.hi).2
  have h4 : (" " : Str).length = 1 := by decide +kernel
  omega
theorem fresh_name {xs : List Str} {rows : List Row} (h : (xs ++ rows.map (·.1)).Nodup) {k : Nat} (hk : k < rows.length) : rows[k].1 ∉ xs ++ (rows.take k).map (·.1) := by
  have e : rows.map (·.1) = (rows.take k).map (·.1) ++ rows[k].1 :: (rows.drop (k + 1)).map (·.1) := by
    have e1 : rows = rows.take k ++ rows[k] :: rows.drop (k + 1) := by rw [← List.drop_eq_getElem_cons hk, List.take_append_drop]
    have e2 := congrArg (List.map (fun r : Row => r.1)) e1
    rw [e2, List.map_append]
    rfl
  rw [e, ← List.append_assoc] at h
  exact fun m => (List.nodup_append.mp h).2.2 _ m _ List.mem_cons_self rfl
section
variable {P : Program} {w : World} {K : PySem.W.Frag} {mg : Str → Option Value} {base : Heap}
/-! ### _read_ranges -/
def spReadRanges : Sp := fun vs H Q _ => ∃ (a b : Addr) (at_ : Nat) (kind : Str) (lines rest : List Str) (nx : Str) (rows : List Row) (xs : List Str), vs = [.ref a, .int (at_ : Int), .str kind, .ref b] ∧ H a = some (.lst (lines.map V.str)) ∧ H b = some (.tup (xs.map V.str)) ∧
  lines.drop at_ = rows.map (rowLine kind) ++ nx :: rest ∧ Txt.startswith nx (kind ++ " ") = false ∧ kind.length ≤ 10 ∧ 32 ∉ TL.tl kind ∧ (∀ r ∈ rows, RwR r) ∧ (xs ++ rows.map (·.1)).Nodup ∧ rows.length ≤ 60 ∧ xs.length ≤ 200 ∧
  ∀ p v H', Same H H' → RowsIn H' rows v → H' p = some (.tup [v, .int ((at_ + rows.length : Nat) : Int)]) → Q (.ref p) H'
theorem ok_read_ranges (T : Txt K mg) : FnOk P w K mg base CX0 4 T.a_read_ranges T.d_read_ranges P_read_ranges spReadRanges := by
  have G_is_range := ok_is_range (P := P) (w := w) (base := base) T
  have Gnames_of := ok_names_of (P := P) (w := w) (base := base) T
  refine T.F_read_ranges.ok sc_read_ranges (fun vs H Q E h => ?_) (fun cdv A outer s H vs Q E hr h => ?_)
  · obtain ⟨a, b, at_, kind, lines, rest, nx, rows, xs, rfl, _⟩ := h
    rfl
  obtain ⟨a, b, at_, kind, lines, rest, nx, rows, xs, rfl, ha, hb, hL, hnx, hkl, hks, hrw, hnd, hrl, hxl, q⟩ := h
  refine ⟨_, (pss_cons (ps_set (i := 4) sc_read_ranges.nd rfl (Or.inl rfl) (pe_tup pa_nil))
    (pss_cons (ps_while PassesOwn.never (pt_val (pe_bm PySem.F.plainAttrs_str PySem.F.slot_str_startswith PySem.F.type_str_startswith mt_startswith (pe_ix ix_list (pv 0) (pv 1) (fun _ _ => rfl)) (pa_cons (pe_op op_add_str (pv 2) pe_str) pa_nil)))
    (pss_cons (ps_set (i := 5) sc_read_ranges.nd rfl (Or.inl rfl) (pe_bm PySem.F.plainAttrs_str PySem.F.slot_str_split PySem.F.type_str_split mt_split (pe_ix ix_list (pv 0) (pv 1) (fun _ _ => rfl)) (pa_cons pe_str pa_nil)))
    (pss_cons (ps_if (pt_not (pt_val (pe_call G_is_range (hr.mono (by omega)) (by rfl) T.m_is_range T.F_is_range.kp T.b_is_range .nil pass0 (pa_cons (pv 5) (pa_cons (pe_op op_catA (pv 3) (pe_call Gnames_of (hr.mono (by omega)) (by rfl) T.mnames_of T.Fnames_of.kp T.bnames_of .nil pass0 (pa_cons (pv 4) pa_nil))) pa_nil)))))
    (pss_one ps_never)
    pss_nil)
    (pss_cons (ps_set (i := 4) sc_read_ranges.nd rfl (Or.inl rfl) (pe_op op_catA (pv 4) (pe_tup (pa_cons (pe_tup (pa_cons (pe_ix ix_list (pv 5) pe_int (fun _ _ => rfl)) (pa_cons (pe_callTy call_int_str (by rfl) T.z_int (by decide +kernel) (pa_cons (pe_ix ix_list (pv 5) pe_int (fun _ _ => rfl)) pa_nil)) (pa_cons (pe_callTy call_int_str (by rfl) T.z_int (by decide +kernel) (pa_cons (pe_ix ix_list (pv 5) pe_int (fun _ _ => rfl)) pa_nil)) pa_nil)))) pa_nil))))
    (pss_one (ps_aug (i := 1) sc_read_ranges.nd rfl (Or.inl rfl) pe_int ip_add))))))
    (pss_one (ps_ret (pe_tup (pa_cons (pv 4) (pa_cons (pv 1) pa_nil))))))), ?_⟩
  have sp1 : (" " : Str).length = 1 := by decide +kernel
  have hat : ∀ k z, (rows.map (rowLine kind) ++ nx :: rest)[k]? = some z → atI (lines.map V.str) ((at_ + k : Nat) : Int) = some (V.str z) := fun k z h => atI_nat (by
    rw [← hL, List.getElem?_drop] at h
    rw [List.getElem?_map, h]
    rfl)
  refine ⟨Nat.zero_le _, fun p0 hp0 => ?_⟩
  refine ⟨fun m σ H' => ∃ (k : Nat) (rp : Addr) (rx : List V) (y : Option V), σ = [some (.ref a), some (.int ((at_ + k : Nat) : Int)), some (.str kind), some (.ref b), some (.ref rp), y] ∧ Same H H' ∧ H' rp = some (.tup rx) ∧ RowsAt H' (rows.take k) rx ∧ m = rows.length - k ∧ k ≤ rows.length, ⟨_, 0, p0, [], none, rfl, same_new hp0 _, upd_same, rows0, rfl, Nat.zero_le _⟩, ?_⟩
  rintro m σ H1 ⟨k, rp, rx, y, rfl, s1, er, hrx, rfl, hk⟩
  by_cases hlt : k < rows.length
  · have hr1 : rows[k]? = some rows[k] := List.getElem?_eq_getElem hlt
    have hR := hrw _ (List.getElem_mem hlt)
    have hz := hat k (rowLine kind rows[k]) (by rw [List.getElem?_append_left (by rw [List.length_map]; exact hlt), List.getElem?_map, hr1]; rfl)
    refine ⟨_, rfl, _, rfl, a, _, _, _, rfl, rfl, sqd (s1 _ _ ha), hz, rfl, _, rfl, _, _, rfl, rfl, (by rw [sp1]; exact Nat.le_trans (Nat.succ_le_succ hkl) (by decide)), _, _, rfl, rfl, _, congrArg V.bl (row_starts kind _), ?_⟩
    refine ifT rfl ?_
    refine ⟨fun σ' H'' => ∃ m', m' < rows.length - k ∧ ∃ (k : Nat) (rp : Addr) (rx : List V) (y : Option V), σ' = [some (.ref a), some (.int ((at_ + k : Nat) : Int)), some (.str kind), some (.ref b), some (.ref rp), y] ∧ Same H H'' ∧ H'' rp = some (.tup rx) ∧ RowsAt H'' (rows.take k) rx ∧ m' = rows.length - k ∧ k ≤ rows.length, fun _ _ h => h, ?_⟩
    refine ⟨_, rfl, _, rfl, a, _, _, _, rfl, rfl, sqd (s1 _ _ ha), hz, rfl, _, _, rfl, rfl, rfl, Nat.le_trans (Nat.add_le_add_right (row_len hkl hR) 2) (by decide), fun wp hwp => ?_⟩
    rw [row_split hks hR]
    have s2 := same_new hwp (HO.lst ([kind, rows[k].1, itxt rows[k].2.1, itxt rows[k].2.2].map V.str))
    have e5 : upd H1 wp (HO.lst ([kind, rows[k].1, itxt rows[k].2.1, itxt rows[k].2.2].map V.str)) wp = some (.lst ([kind, rows[k].1, itxt rows[k].2.1, itxt rows[k].2.2].map V.str)) := upd_same
    generalize upd H1 wp (HO.lst ([kind, rows[k].1, itxt rows[k].2.1, itxt rows[k].2.2].map V.str)) = H2 at s2 e5 ⊢
    have il := int_read hR.lo
    have ih := int_read hR.hi
    refine ⟨_, rfl, _, rfl, _, rfl, .ref rp, rows.take k, rfl, ⟨rp, rx, rfl, s2 _ _ er, hrx.mono (.same s2)⟩, by rw [List.length_take]; omega, fun np H3 s3 enp => ?_⟩
    refine catA_one (s3 _ _ (s2 _ _ (s1 _ _ hb))) enp (Nat.le_trans (m := 1000) (by rw [List.length_map, List.length_map, List.length_take]; omega) (by decide)) fun tp H4 s4 etp => ?_
    have etp' : H4 tp = some (.tup ((xs ++ (rows.take k).map (·.1)).map V.str)) := by
      rw [etp, List.map_append, List.map_map]
      rfl
    have s24 := s3.trans s4
    refine ⟨wp, tp, kind, rows[k], _, rfl, s24 _ _ e5, etp', hR, ?_, by rw [List.length_append, List.length_map, List.length_take]; omega, fun H5 s5 => ⟨_, rfl, ifF rfl ?_⟩⟩
    · exact fresh_name hnd hlt
    have s25 := s24.trans s5
    have a1 : ∀ (H' : Hp), Same H2 H' → SqL K H' wp ([kind, rows[k].1, itxt rows[k].2.1, itxt rows[k].2.2].map V.str) := fun H' h => sqd (h _ _ e5)
    refine ⟨_, rfl, _, rfl, wp, _, _, _, rfl, rfl, a1 _ s25, rfl, _, rfl, wp, _, _, _, rfl, rfl, a1 _ s25, rfl, _, _, rfl, il.1, Nat.le_trans il.2 (by decide), _, rfl, wp, _, _, _, rfl, rfl, a1 _ s25, rfl, _, _, rfl, ih.1, Nat.le_trans ih.2 (by decide), Nat.le_of_ble_eq_true rfl, fun q1 hq1 => ⟨Nat.le_of_ble_eq_true rfl, fun q2 hq2 => ?_⟩⟩
    have e6 : upd H5 q1 (HO.tup [V.str rows[k].1, V.int rows[k].2.1, V.int rows[k].2.2]) q1 = some (HO.tup [V.str rows[k].1, V.int rows[k].2.1, V.int rows[k].2.2]) := upd_same
    have s6 := same_new hq1 (HO.tup [V.str rows[k].1, V.int rows[k].2.1, V.int rows[k].2.2])
    generalize upd H5 q1 (HO.tup [V.str rows[k].1, V.int rows[k].2.1, V.int rows[k].2.2]) = H6 at e6 s6 hq2 ⊢
    have s7 := same_new hq2 (HO.tup [V.ref q1])
    have s17 : Same H1 (upd H6 q2 (HO.tup [V.ref q1])) := ((s2.trans s25).trans s6).trans s7
    refine catA_one (s17 _ _ er) upd_same (Nat.le_trans (m := 1000) (by rw [hrx.1, List.length_take]; show _ + 1 ≤ 1000; omega) (by decide)) fun q3 H8 s8 e8 => ?_
    refine ⟨_, rfl, _, _, rfl, rfl, rows.length - (k + 1), (by omega), k + 1, q3, _, some (.ref wp), ?_, s1.trans (s17.trans s8), e8, ?_, rfl, hlt⟩
    · rw [show ((at_ + (k + 1) : Nat) : Int) = ((at_ + k : Nat) : Int) + 1 by omega]
      rfl
    · rw [List.take_add_one, hr1]
      exact (hrx.mono (.same (s17.trans s8))).snoc ⟨q1, rfl, s8 _ _ (s7 _ _ e6)⟩
  · have hk2 : k = rows.length := by omega
    subst hk2
    have hz := hat rows.length nx (by rw [List.getElem?_append_right (by rw [List.length_map]; exact Nat.le_refl _), List.length_map, Nat.sub_self]; rfl)
    refine ⟨_, rfl, _, rfl, a, _, _, _, rfl, rfl, sqd (s1 _ _ ha), hz, rfl, _, rfl, _, _, rfl, rfl, (by rw [sp1]; exact Nat.le_trans (Nat.succ_le_succ hkl) (by decide)), _, _, rfl, rfl, _, congrArg V.bl hnx, ?_⟩
    refine ifF rfl ?_
    rw [List.take_length] at hrx
    exact ⟨_, rfl, _, rfl, Nat.le_of_ble_eq_true rfl, fun p hp => q p _ _ (s1.trans (same_new hp _)) ⟨rp, rx, rfl, same_new hp _ _ _ er, hrx.mono (.same (same_new hp _))⟩ upd_same⟩
end
end NL

namespace NL
open PySem PySem.Spec PyProof.Rows L2
/-! ### the names that stand in an item -/
mutual
def It.nms : It → List Str
  | .num _ => []
  | .name x => [x]
  | .lit _ => []
  | .un _ a => a.nms
  | .dm _ a _ => a.nms
  | .bin _ a b => a.nms ++ b.nms
  | .tri a b c => a.nms ++ (b.nms ++ c.nms)
  | .grp _ l => nmsL l
def nmsL : List It → List Str
  | [] => []
  | a :: r => a.nms ++ nmsL r
end
theorem nms_eq {i : It} (h : ∀ x, i ≠ .name x) : i.nms = nmsL i.kids := by
  cases i with
  | num n => simp only [It.nms, It.kids, nmsL]
  | name x => exact absurd rfl (h x)
  | lit b => simp only [It.nms, It.kids, nmsL]
  | un w a => simp only [It.nms, It.kids, nmsL, List.append_nil]
  | dm w a n => simp only [It.nms, It.kids, nmsL, List.append_nil]
  | bin w a b => simp only [It.nms, It.kids, nmsL, List.append_nil]
  | tri a b c => simp only [It.nms, It.kids, nmsL, List.append_nil]
  | grp w l => simp only [It.nms, It.kids]
theorem nmsL_snoc : ∀ (l : List It) (i : It), nmsL (l ++ [i]) = nmsL l ++ i.nms
  | [], i => by simp only [List.nil_append, nmsL, List.append_nil]
  | a :: r, i => by rw [List.cons_append, nmsL, nmsL, nmsL_snoc r i, List.append_assoc]
theorem nmsL_take {l : List It} {j : Nat} {i : It} (h : l[j]? = some i) : nmsL (l.take (j + 1)) = nmsL (l.take j) ++ i.nms := by
  rw [List.take_add_one, h]
  exact nmsL_snoc _ _
mutual
theorem nms_sz : ∀ i : It, i.nms.length ≤ i.sz
  | .num _ => by simp [It.nms]
  | .name x => by simp [It.nms, It.sz]
  | .lit _ => by simp [It.nms]
  | .un _ a => by have := nms_sz a; simp only [It.nms, It.sz]; omega
  | .dm _ a _ => by have := nms_sz a; simp only [It.nms, It.sz]; omega
  | .bin _ a b => by have := nms_sz a; have := nms_sz b; simp only [It.nms, It.sz, List.length_append]; omega
  | .tri a b c => by have := nms_sz a; have := nms_sz b; have := nms_sz c; simp only [It.nms, It.sz, List.length_append]; omega
  | .grp _ l => by have := nmsL_sz l; simp only [It.nms, It.sz]; omega
theorem nmsL_sz : ∀ l : List It, (nmsL l).length ≤ szL l
  | [] => by simp [nmsL]
  | a :: r => by have := nms_sz a; have := nmsL_sz r; simp only [nmsL, szL, List.length_append]; omega
end
theorem nmsL_in : ∀ {l : List It} {x : Str}, x ∈ nmsL l → ∃ i ∈ l, x ∈ i.nms
  | [], x, h => by rw [nmsL] at h; cases h
  | a :: r, x, h => by
    rw [nmsL, List.mem_append] at h
    rcases h with h | h
    · exact ⟨a, List.mem_cons_self, h⟩
    · obtain ⟨i, hi, hx⟩ := nmsL_in h
      exact ⟨i, List.mem_cons_of_mem _ hi, hx⟩
theorem nms_in {xs : List Str} {B : Nat} {b : Bool} {i : It} (h : Okx xs B b i) : ∀ x ∈ i.nms, x ∈ xs := by
  induction h with
  | num _ => intro x h; simp [It.nms] at h
  | name hx => intro x h; simp only [It.nms, List.mem_singleton] at h; rw [h]; exact hx
  | lit => intro x h; simp [It.nms] at h
  | abs _ ih => intro x h; simp only [It.nms] at h; exact ih x h
  | not _ ih => intro x h; simp only [It.nms] at h; exact ih x h
  | dm _ _ _ _ ih => intro x h; simp only [It.nms] at h; exact ih x h
  | bin _ _ _ ih1 ih2 => intro x h; simp only [It.nms, List.mem_append] at h; exact h.elim (ih1 x) (ih2 x)
  | cmp _ _ _ ih1 ih2 => intro x h; simp only [It.nms, List.mem_append] at h; exact h.elim (ih1 x) (ih2 x)
  | tri _ _ _ ih1 ih2 ih3 => intro x h; simp only [It.nms, List.mem_append] at h; exact h.elim (ih1 x) fun h => h.elim (ih2 x) (ih3 x)
  | grp _ _ _ ih =>
    intro x h
    simp only [It.nms] at h
    obtain ⟨i, hi, hx⟩ := nmsL_in h
    exact ih i hi x hx
theorem sz_take (l : List It) (j : Nat) : szL (l.take j) ≤ szL l := by
  induction l generalizing j with
  | nil => simp
  | cons a r ih =>
    cases j with
    | zero => simp [szL]
    | succ j => rw [List.take_succ_cons, szL, szL]; have := ih j; omega
theorem sz_in : ∀ {l : List It} {j : It}, j ∈ l → j.sz ≤ szL l
  | a :: r, j, h => by
    rw [szL]
    rcases List.mem_cons.mp h with e | e
    · rw [e]; omega
    · have := sz_in e
      omega
/-- the only item with the word "name" is a name -/
theorem word_name {H : Hp} {i : It} {a : Addr} (h : ItemIn H i (.ref a)) {xs : List Str} {B : Nat} {b : Bool} (ho : Okx xs B b i) :
    (∃ x, i = .name x ∧ H a = some (.tup [.str "name", .str x])) ∨ (decide (V.str i.word = V.str ("name" : Str)) = false ∧ ∀ x, i ≠ .name x) := by
  by_cases h0 : i.cls = 0
  · rcases h.leaf h0 with ⟨n, e, e1⟩ | ⟨n, e, e1⟩ | ⟨n, e, e1⟩
    · subst e; exact .inr ⟨by show decide (V.str ("number" : Str) = V.str ("name" : Str)) = false; decide +kernel, fun x h => by cases h⟩
    · exact .inl ⟨n, e, e1⟩
    · subst e; exact .inr ⟨by cases n <;> decide +kernel, fun x h => by cases h⟩
  · exact .inr ⟨word_ne ho h0 (by decide +kernel), fun x e => by rw [e] at h0; exact h0 rfl⟩
structure Nit (xs : List Str) (B n : Nat) (b : Bool) (i : It) : Prop where
  ok : Okx xs B b i
  dp : i.dep ≤ n
  sz : i.sz ≤ 1000
theorem Nit.kid {xs : List Str} {B n : Nat} {b : Bool} {i j : It} (f : Nit xs B (n + 1) b i) (h : j ∈ i.kids) : ∃ b', Nit xs B n b' j := by
  obtain ⟨b', ho⟩ := kids_ok f.ok j h
  have h1 := depL_in h
  have h2 := @kids_dep i
  have h3 := sz_eq i
  have h4 := sz_in h
  have h5 := f.dp
  have h6 := f.sz
  exact ⟨b', ho, by omega, by omega⟩
section
variable {P : Program} {w : World} {K : PySem.W.Frag} {mg : Str → Option Value} {base : Heap}
/-! ### _all_names, _law_all_names -/
def spAllNames (n : Nat) : Sp := fun vs H Q _ => ∃ (v : V) (i : It) (xs : List Str) (B : Nat) (b : Bool), vs = [v] ∧ ItemIn H i v ∧ Nit xs B n b i ∧ ∀ p H', Same H H' → H p = none → H' p = some (.lst (i.nms.map V.str)) → Q (.ref p) H'
theorem no_nms {fa : Addr} {fd : FuncData} {ps : List Str} {c : Nat} : FnOk P w K mg base CX0 c fa fd ps (spAllNames 0) := by
  have no : ∀ vs H Q E, ¬ spAllNames 0 vs H Q E := fun vs H Q E ⟨v, i, xs, B, b, _, _, h, _⟩ => by
    have := dep_pos i
    have := h.dp
    omega
  exact ⟨fun vs H Q E h => absurd h (no vs H Q E), fun A outer s H args us vs Q E _ _ _ _ h => absurd h (no vs H Q E)⟩
theorem ok_all_names (T : Txt K mg) : ∀ n : Nat, FnOk P w K mg base CX0 (n + 2) T.a_all_names T.d_all_names P_all_names (spAllNames n)
  | 0 => no_nms
  | n + 1 => by
    have G_all_names := ok_all_names T n
    have Gparts_in := ok_parts_in (P := P) (w := w) (base := base) T
    refine T.F_all_names.ok sc_all_names (fun vs H Q E h => ?_) (fun cdv A outer s H vs Q E hr h => ?_)
    · obtain ⟨v, i, xs, B, b, rfl, _⟩ := h
      rfl
    obtain ⟨v, i, xs, B, b, rfl, hi, hf, q⟩ := h
    obtain ⟨a, rfl⟩ := hi.ref
    obtain ⟨r, ha⟩ := hi.head
    have ho := hf.ok
    have hz := hf.sz
    have hkz := sz_eq i
    refine ⟨_, (pss_cons (ps_if (pt_cmpR op_eq (pe_ix ix_tup (pv 0) pe_int (fun _ _ => rfl)) pe_str (nomark _))
    (pss_one (ps_ret (pe_lst (pa_cons (pe_ix ix_tup (pv 0) pe_int (fun _ _ => rfl)) pa_nil))))
    pss_nil)
    (pss_cons (ps_set (i := 1) sc_all_names.nd rfl (Or.inl rfl) (pe_lst pa_nil))
    (pss_cons (ps_for  PassesOwn.never rfl (pi_tup (pe_call Gparts_in (hr.mono (by omega)) (by rfl) T.mparts_in T.Fparts_in.kp T.bparts_in .nil pass0 (pa_cons (pv 0) pa_nil))) (pg_name (i := 2) sc_all_names.nd rfl (Or.inl rfl))
    (pss_one (ps_expr (pe_bm PySem.F.plainAttrs_list PySem.F.slot_list_extend PySem.F.type_list_extend mt_extend (pv 1) (pa_cons (pe_call G_all_names (hr.mono (by omega)) (by rfl) T.m_all_names T.F_all_names.kp T.b_all_names .nil pass0 (pa_cons (pv 2) pa_nil)) pa_nil)))))
    (pss_one (ps_ret (pv 1)))))), ?_⟩
    refine ⟨_, rfl, a, _, 0, _, rfl, rfl, sqt ha, atI0, rfl, _, rfl, ?_⟩
    rcases word_name hi ho with ⟨x, rfl, e1⟩ | ⟨hw, hne⟩
    · refine ifT (by show decide (V.str ("name" : Str) = V.str ("name" : Str)) = true; decide +kernel) ?_
      refine ⟨_, rfl, a, _, 1, _, rfl, rfl, sqt e1, atI1, (Nat.le_of_ble_eq_true rfl), fun p hp => ?_⟩
      exact q p _ (same_new hp _) hp (by rw [upd_same, It.nms]; rfl)
    · refine ifF hw ?_
      refine ⟨(Nat.le_of_ble_eq_true rfl), fun p1 hp1 => ?_⟩
      have s1 := fun o => same_new hp1 o
      refine ⟨_, rfl, _, i, xs, B, b, rfl, hi.mono (Tp.same (s1 _)), ho, fun tp ys H2 s2 e2 hk => ?_⟩
      have e0 := s2 p1 _ upd_same
      refine ⟨tp, rfl, ⟨_, sqt e2⟩, for_tup (K := K) (a := tp) (xs := ys) (fun (j : Nat) (σ : L2.St) (H' : Hp) => ∃ y2 : Option V, σ = [some (.ref a), some (.ref p1), y2] ∧ Same H H' ∧ H' tp = some (.tup ys) ∧ Kids H' i.kids ys ∧ H' p1 = some (.lst ((nmsL (i.kids.take j)).map V.str))) ?_ ?_ ?_ ?_⟩
      · exact ⟨none, rfl, (s1 _).trans s2, e2, hk, by rw [e0, List.take_zero]; rfl⟩
      · rintro j σ H' _ ⟨y2, rfl, s3, e3, _⟩
        exact sqt e3
      · rintro j x σ H3 hx ⟨y2, rfl, s3, e3, hk3, e4⟩
        obtain ⟨kj, hkj, hin, hmem⟩ := hk3.get hx
        obtain ⟨b', hf'⟩ := hf.kid hmem
        refine ⟨_, rfl, .inl ⟨rfl, _, sqd e4⟩, _, rfl, _, kj, xs, B, b', rfl, hin, hf', fun p5 H5 s5 hp5 e5 => ?_⟩
        have hl1 := nmsL_sz (i.kids.take j)
        have hl2 := sz_take i.kids j
        have hl3 := nms_sz kj
        have hl4 := sz_in hmem
        refine ⟨p1, p5, _, _, rfl, rfl, s5 _ _ e4, e5, ?_, ?_⟩
        · rw [List.length_map, List.length_map]
          exact big (by omega)
        · have n1 : tp ≠ p1 := fun h => by rw [h, e4] at e3; cases e3
          have sp := fun o => same_put (o := o) (s3.trans s5) hp1
          have tp' : Tp H3 (upd H5 p1 (.lst ((nmsL (i.kids.take j)).map V.str ++ kj.nms.map V.str))) := fun b us hb => by
            have hb5 := s5 b _ hb
            by_cases c : b = p1
            · subst c; rw [e4] at hb; cases hb
            · rw [upd_ne c]; exact hb5
          refine ⟨_, rfl, sp _, tp' _ _ e3, hk3.mono tp', ?_⟩
          rw [upd_same, nmsL_take hkj, List.map_append]
      · rintro σ H3 ⟨y2, rfl, s3, e3, hk3, e4⟩
        rw [hk3.1, List.take_length, ← nms_eq hne] at e4
        exact ⟨_, rfl, q p1 _ s3 hp1 e4⟩
end
end NL

set_option maxHeartbeats 4000000
namespace NL
open PySem PySem.Spec PyProof.Rows L2
/-! sets of texts: the objects, one more text -/
def keyS (e : Int × Value) : Str := match e.2 with | .str x _ => x | _ => Str.empty
def GoodS (P : Program) (w : World) (e : Int × Value) : Prop := ∃ x tk, e.2 = Value.str x tk ∧ e.1 = (PySem.strKind P w).hash x
def SetS (P : Program) (w : World) (h : Heap) (a : Addr) (S : Str → Bool) (n : Nat) : Prop :=
  ∃ o es ep t, h.get? a = some o ∧ o.ExactSet ∧ o.data = .set es ep t ∧ (∀ e ∈ es.toList, GoodS P w e) ∧ (es.toList.map keyS).Nodup ∧ (∀ k, S k = true ↔ k ∈ es.toList.map keyS) ∧
    es.size < scanBound ∧ t.fits es.size = true ∧ es.size = n ∧ Ris t.place.toList ∧ (w.params.followText "set-order" = true ∨ t.led = true)
section
variable {P : Program} {w : World} {h h' : Heap} {a : Addr} {S : Str → Bool} {n : Nat}
theorem SetS.at (R : SetS P w h a S n) (k : ∀ o, h.get? a = some o → h'.get? a = some o) : SetS P w h' a S n := by
  obtain ⟨o, es, ep, t, ho, r⟩ := R
  exact ⟨o, es, ep, t, k o ho, r⟩
theorem SetS.congr {S' : Str → Bool} (R : SetS P w h a S n) (e : ∀ k, S' k = S k) : SetS P w h a S' n := by
  have q : S' = S := funext e
  rw [q]; exact R
theorem goodS_elems {l : List (Int × Value)} (g : ∀ e ∈ l, GoodS P w e) : ElemsOf (PySem.strKind P w) l := fun e he => by
  obtain ⟨k, tk, h1, h2⟩ := g e he
  exact ⟨⟨k, by rw [h1]; exact PySem.strKind_is P w k tk, h2⟩, by rw [h1] <;> rfl⟩
theorem goodS_is {e : Int × Value} (g : GoodS P w e) (k : Str) : (PySem.strKind P w).is k e.2 = true ↔ keyS e = k := by
  obtain ⟨k0, tk, h1, _⟩ := g
  have e1 : (PySem.strKind P w).is k e.2 = decide (k = k0) := PySem.KeyKind.is_eq_decide (by rw [h1]; exact PySem.strKind_is P w k0 tk) k
  rw [e1, decide_eq_true_eq]
  unfold keyS
  rw [h1]
  exact eq_comm
theorem goodS_mem {l : List (Int × Value)} (g : ∀ e ∈ l, GoodS P w e) (k : Str) : k ∈ l.map keyS ↔ ∃ e ∈ l, (PySem.strKind P w).is k e.2 = true := by
  rw [List.mem_map]
  constructor
  · rintro ⟨e, he, q⟩
    exact ⟨e, he, (goodS_is (g e he) k).2 q⟩
  · rintro ⟨e, he, q⟩
    exact ⟨e, he, (goodS_is (g e he) k).1 q⟩
end
section
variable {P : Program} {w : World} {A : Around} {E : Value → Shared → Prop} {s : Shared} {a : Addr} {S : Str → Bool} {n : Nat}
theorem setS_tail {g : Bool → Sem Unit} (hg : ∀ (b : Bool) (s₁ : Shared) (Q' : Unit → Shared → Prop), Q' () s₁ → wpAny (model P w) A (g b) Q' E s₁)
    {o : Obj} {es : Array (Int × Value)} {ep : Nat} {t : SetTable} (ho : s.heap.get? a = some o) (hex : o.ExactSet) (hd : o.data = .set es ep t)
    {es1 : Array (Int × Value)} {t2 : SetTable} {S' : Str → Bool} (g1 : ∀ e ∈ es1.toList, GoodS P w e) (nd1 : (es1.toList.map keyS).Nodup) (m1 : ∀ k, S' k = true ↔ k ∈ es1.toList.map keyS)
    (hb1 : es1.size < scanBound) (hf2 : t2.fits es1.size = true) (hr : Ris t2.place.toList) (hl : w.params.followText "set-order" = true ∨ t2.led = true) {wasDummy : Bool} {R : Option Bool → Shared → Prop}
    (hR : ∀ h', Heap.SameBut a s.heap h' → SetS P w h' a S' es1.size → R (some true) { s with heap := h' }) :
    wpAny (model P w) A (do
        storeSet a es1 t2
        if (!wasDummy && t2.tooFull) = true then do
            g (relayAll t2 es1 (SetTable.grown es1.size)).2.2
            storeSet a (relayAll t2 es1 (SetTable.grown es1.size)).1 (relayAll t2 es1 (SetTable.grown es1.size)).2.1
            pure (some true)
          else pure (some true)) R E s := by
  refine wpAny_bind (wpAny_storeSet_of ho hd ?_ (fits_of_scanBound hb1))
  have ho1 := store_at (es' := es1) (t' := t2) ho hd
  have sb1 := Heap.SameBut.update s.heap a (Obj.putSet es1 t2)
  split
  · have pm := relayAll_perm t2 es1 (SetTable.grown es1.size)
    have hf3 := relayAll_fits t2 es1 (SetTable.grown es1.size)
    have hr3 := relayAll_ris t2 es1 (SetTable.grown es1.size)
    have hl3 := relayAll_led t2 es1 (SetTable.grown es1.size)
    generalize relayAll t2 es1 (SetTable.grown es1.size) = Z at pm hf3 hr3 hl3 ⊢
    obtain ⟨es2, t3, gave⟩ := Z
    dsimp only at pm hf3 hr3 hl3 ⊢
    have hsz : es2.size = es1.size := by rw [← Array.length_toList, pm.length_eq, Array.length_toList]
    have hb2 : es2.size < scanBound := by rw [hsz]; exact hb1
    refine wpAny_bind (hg _ _ _ ?_)
    refine wpAny_bind (wpAny_storeSet_of ho1 rfl ?_ (fits_of_scanBound hb2))
    have ho2 := store_at (es' := es2) (t' := t3) ho1 rfl
    refine wpAny_pure (hR _ (sb1.trans (Heap.SameBut.update _ a _)) ?_)
    exact ⟨_, es2, _, t3, ho2, hex, rfl, fun e he => g1 e (pm.mem_iff.mp he), (pm.map keyS).nodup_iff.mpr nd1, fun k => (m1 k).trans (pm.map keyS).mem_iff.symm, hb2, hf3, hsz, hr3,
      hl.imp id fun z => by rw [hl3]; exact z⟩
  · exact wpAny_pure (hR _ sb1 ⟨_, es1, _, t2, ho1, hex, rfl, g1, nd1, m1, hb1, hf2, rfl, hr, hl⟩)
theorem setS_add_hashed {k : Str} {tk : PySem.Tok} {Q : Bool → Shared → Prop} (R : SetS P w s.heap a S n) (room : n + 1 < scanBound)
    (hQ : ∀ h', Heap.SameBut a s.heap h' → SetS P w h' a (fun j => S j || decide (j = k)) (if S k = true then n else n + 1) → Q (!S k) { s with heap := h' }) :
    wpAny (model P w) A (setAddHashed a (.str k tk) ((PySem.strKind P w).hash k)) Q E s := by
  obtain ⟨o, es, ep, t, ho, hex, hd, g, nd, hm, hb, hf, hn, hr, hl⟩ := R
  have hkey : (PySem.strKind P w).is k (.str k tk) = true := PySem.strKind_is P w k tk
  have hsc : (Value.str k tk).scannable = true := rfl
  have hel : ElemsOf (PySem.strKind P w) es.toList := goodS_elems g
  unfold setAddHashed setAddHashedIn
  refine wpAny_holding (wpAny_bind (wpAny_setState_of ho hd hf ?_))
  dsimp only
  rw [byScan_of hsc hb hel]
  simp only [↓reduceIte]
  unfold setAddByScan
  refine wpAny_bind ?_
  refine wpAny_bind (wpAny_rule ?_)
  refine wpAny_bind (wpAny_setScan_of hkey ho hd hf hel ?_)
  cases hfi : List.findIdx? (fun e => (PySem.strKind P w).is k e.2) es.toList with
  | some j =>
    dsimp only
    obtain ⟨hj, pj, _⟩ := List.findIdx?_eq_some_iff_getElem.mp hfi
    have hSk : S k = true := (hm k).2 ((goodS_mem (P := P) (w := w) g k).2 ⟨es.toList[j], List.getElem_mem hj, pj⟩)
    refine wpAny_pure (wpAny_pure ?_)
    have q := hQ s.heap (Heap.SameBut.refl a s.heap) ⟨o, es, ep, t, ho, hex, hd, g, nd, fun i => by
      rw [Bool.or_eq_true, decide_eq_true_eq, ← hm i]
      exact ⟨fun z => z.elim id (fun e => e ▸ hSk), .inl⟩, hb, hf, by rw [if_pos hSk]; exact hn, hr, hl⟩
    rw [hSk] at q
    exact q
  | none =>
    dsimp only
    have hnk : k ∉ es.toList.map keyS := fun z => by
      obtain ⟨e, he, q⟩ := (goodS_mem (P := P) (w := w) g k).1 z
      have c := List.findIdx?_eq_none_iff.mp hfi e he
      rw [q] at c
      cases c
    have hSk : S k = false := by
      cases q : S k with
      | false => rfl
      | true => exact absurd ((hm k).1 q) hnk
    have hgw : ∀ (b : Bool) {s₁ : Shared} {Q' : Unit → Shared → Prop}, Q' () s₁ → wpAny (model P w) A (match b with | true => rule "set.scan.the-table-gave-way" | false => pure ()) Q' E s₁ :=
      fun b s₁ Q' q => by cases b <;> first | exact wpAny_pure q | exact wpAny_rule q
    have pm := layNew_perm t es ((PySem.strKind P w).hash k) (.str k tk)
    have hf1 := layNew_fits t es ((PySem.strKind P w).hash k) (.str k tk)
    have hr1 := layNew_ris t es ((PySem.strKind P w).hash k) (.str k tk) hr
    have hl1 := layNew_led t es ((PySem.strKind P w).hash k) (.str k tk)
    generalize layNew t es ((PySem.strKind P w).hash k) (.str k tk) = Z at pm hf1 hr1 hl1 ⊢
    obtain ⟨es1, t1, wasDummy, gave⟩ := Z
    dsimp only at pm hf1 hr1 hl1 ⊢
    rw [Array.toList_push] at pm
    have pc : es1.toList.Perm (((PySem.strKind P w).hash k, Value.str k tk) :: es.toList) := pm.trans (List.perm_append_singleton _ _)
    have pk : (es1.toList.map keyS).Perm (k :: es.toList.map keyS) := pc.map keyS
    have g1 : ∀ e ∈ es1.toList, GoodS P w e := fun e he => by
      rcases List.mem_cons.mp (pc.mem_iff.mp he) with z | z
      · rw [z]; exact ⟨k, tk, rfl, rfl⟩
      · exact g e z
    have nd1 : (es1.toList.map keyS).Nodup := pk.nodup_iff.mpr (List.nodup_cons.mpr ⟨hnk, nd⟩)
    have m1 : ∀ i, (S i || decide (i = k)) = true ↔ i ∈ es1.toList.map keyS := fun i => by
      rw [Bool.or_eq_true, decide_eq_true_eq, hm i, pk.mem_iff, List.mem_cons]
      exact Or.comm
    have hsz : es1.size = n + 1 := by rw [← Array.length_toList, pc.length_eq, List.length_cons, Array.length_toList, hn]
    have hb1 : es1.size < scanBound := by rw [hsz]; exact room
    have hled : w.params.followText "set-order" = true ∨ t1.led = true := hl.imp id fun z => by rw [hl1]; exact z
    have fin : ∀ h', Heap.SameBut a s.heap h' → SetS P w h' a (fun j => S j || decide (j = k)) es1.size → Q true { s with heap := h' } := fun h' sb r => by
      have q := hQ h' sb
      rw [hSk] at q
      rw [hsz] at r
      exact q r
    refine wpAny_bind (hgw _ ?_)
    split
    · refine wpAny_bind ?_
      rw [hashByValue_scannable 8 hsc]
      refine wpAny_pure ?_
      refine setS_tail ?_ ho hex hd g1 nd1 m1 hb1 ?_ ?_ ?_ ?_
      · intro b s₁ Q' q; cases b <;> first | exact wpAny_pure q | exact wpAny_rule q
      · first | (split <;> first | exact hf1 | exact SetTable.fits_plain_off hf1) | exact hf1
      · first | (split <;> exact hr1) | exact hr1
      · first | (split <;> exact hled) | exact hled
      · intro h' sb r; dsimp only; exact wpAny_pure (fin h' sb r)
    · refine wpAny_bind (wpAny_pure ?_)
      simp only [↓reduceIte]
      refine setS_tail ?_ ho hex hd g1 nd1 m1 hb1 hf1 hr1 hled ?_
      · intro b s₁ Q' q; cases b <;> first | exact wpAny_pure q | exact wpAny_rule q
      · intro h' sb r; dsimp only; exact wpAny_pure (fin h' sb r)
theorem setS_new_at {h : Heap} {a : Addr} {xs : List Str} (ho : h.get? a = some { cls := .type "set", dict := none, data := .set #[] 0 (.fresh 0 0 (!w.params.followText "set-order")) }) : SetS P w h a (fun j => decide (j ∈ xs.take 0)) 0 :=
  ⟨_, #[], 0, _, ho, ⟨rfl, rfl, rfl⟩, rfl, (fun e he => by simp at he), (by simp), (fun k => by simp), (by decide), (by rfl), rfl, List.Pairwise.nil, by
    show _ ∨ (!w.params.followText "set-order") = true
    cases w.params.followText "set-order"
    · exact .inr rfl
    · exact .inl rfl⟩
theorem set_update_strs {I : Addr} {fp wr : List Addr} {G : Array GenState → Array GenState → Prop} {n : Nat} {Pv : Nat → Value → Prop} {St : Nat → Shared → Prop} {R : Result → Shared → Prop}
    (W : WalksS P w A.in1 I fp wr G n Pv St) (S : Addr) (hSf : S ∉ fp) (ns : List Str) (hn : n = ns.length) (hb : ns.length + 1 < scanBound) (hval : ∀ i v, Pv i v → ∃ k t, ns[i]? = some k ∧ v = .str k t) :
    ∀ (k i : Nat) (s : Shared), n - i = k → i ≤ n → St i s → (∃ c, c ≤ i ∧ SetS P w s.heap S (fun j => decide (j ∈ ns.take i)) c) →
      (∀ s' c, Moved (S :: wr) G s s' → c ≤ n → SetS P w s'.heap S (fun j => decide (j ∈ ns)) c → R (.ok (.ret .none)) s') →
      codeAny (model P w) A (.builtin "set.update.loop" ⟨[.ref S, .ref I], []⟩) R s := by
  have hSw : S ∉ wr := fun h => hSf (W.sub _ h)
  have hsub : ∀ b ∈ wr, b ∈ S :: wr := fun b hb => List.mem_cons_of_mem _ hb
  intro k
  induction k with
  | zero =>
    intro i s hk' hi hst ⟨c, hc, hS⟩ hR
    have hin : i = n := by omega
    subst hin
    refine codeAny_builtin F.entry_set_update_loop ?_
    rw [Around.under_plainId F.plain_set_update_loop _]
    show wpAny _ A.in1 (pyNext (.ref I) >>= _) _ _ s
    refine wpAny_bind (W.done s _ _ hst fun s' hm => ?_)
    show wpAny _ A.in1 (ret Value.none) _ _ s'
    have e : ns.take i = ns := List.take_of_length_le (by omega)
    rw [e] at hS
    exact wpAny_pure (hR s' c (hm.mono hsub) hc (hS.at fun o e => hm.heap S o hSw e))
  | succ k ih =>
    intro i s hk' hi hst ⟨c, hc, hS⟩ hR
    have hlt : i < n := by omega
    refine codeAny_builtin F.entry_set_update_loop ?_
    rw [Around.under_plainId F.plain_set_update_loop _]
    show wpAny _ A.in1 (pyNext (.ref I) >>= _) _ _ s
    refine wpAny_bind (W.item i s _ _ hlt hst fun v s' hP hst' hm => ?_)
    obtain ⟨z, t, hz, rfl⟩ := hval i v hP
    have hS' : SetS P w s'.heap S (fun j => decide (j ∈ ns.take i)) c := hS.at fun o e => hm.heap S o hSw e
    show wpAny _ A.in1 (holding [Value.str z t] (setAdd S (.str z t)) >>= _) _ _ s'
    refine wpAny_bind (wpAny_holding ?_)
    unfold setAdd
    refine wpAny_holding ?_
    refine wpAny_bind ((PySem.strKind P w).pyHash (k := z) (PySem.strKind_is _ _ _ _) ?_)
    refine setS_add_hashed (s := { s' with toks := s'.toks + 1 }) hS' (by omega) fun h' hsb hS2 => ?_
    have hS3 : SetS P w h' S (fun j => decide (j ∈ ns.take (i + 1))) (if decide (z ∈ ns.take i) = true then c else c + 1) := hS2.congr fun j => by
      rw [List.take_add_one, hz]
      simp [List.mem_append]
    have hc3 : (if decide (z ∈ ns.take i) = true then c else c + 1) ≤ i + 1 := by
      split <;> omega
    refine wpAny_pure ⟨plainId_quiet F.plain_set_update_loop _, ih (i + 1) _ (by omega) hlt (W.frame _ s' _ _ hst' (Nat.le_succ _) fun b hb o e => ?_) ⟨_, hc3, hS3⟩ fun s'' c2 hm'' hc'' hS'' => ?_⟩
    · rw [hsb.2 b (fun h : b = S => hSf (by rw [← h]; exact hb))]; exact e
    · refine hR s'' c2 (Moved.trans W.gtrans ((hm.mono hsub).then_heap (Nat.le_succ _) fun b o hb e => ?_) hm'') hc'' hS''
      rw [hsb.2 b (fun h : b = S => hb (by rw [h]; exact List.mem_cons_self))]; exact e
end
end NL

set_option maxHeartbeats 4000000
namespace NL
open PySem PySem.Spec PyProof.Rows L2
section
variable {P : Program} {w : World} {A : Around} {E : Value → Shared → Prop} {s : Shared}
set_option maxHeartbeats 3200000 in
theorem call_set_strs {l : Addr} {items : Array Value} (ns : List Str) {Q : Value → Shared → Prop} (hh : A.handled = none) (hl : s.heap.IsList l items) (hit : StrsAre items.toList ns) (hb : ns.length + 1 < scanBound)
    (h : ∀ (h' : Heap) (tk c : Nat), SetS P w h' s.heap.objs.size (fun j => decide (j ∈ ns)) c → c ≤ ns.length → (∀ b o, s.heap.get? b = some o → h'.get? b = some o) → Q (.ref s.heap.objs.size) { s with heap := h', toks := tk }) :
    wpAny (model P w) A (call (.type "set") [.ref l]) Q E s := by
  have hisz : items.size = ns.length := by
    have q := StrsAre.len_eq hit
    rw [Array.length_toList] at q
    exact q
  obtain ⟨c, tl, hmro⟩ := F.called_set.mro
  have hmade := F.called_set.made
  have hsub := F.called_set.sub
  refine wpAny_call (codeAny_of_tree ?_)
  show wpAny _ _ (callAny (.type "set") _) _ _ _
  refine wpAny_pure ⟨Code.quiet_builtin _ (by decide +kernel), codeAny_builtin F.entry_type_call ?_⟩
  rw [Around.under_plain (weight_type_call_type "set" [.ref l] []) rfl]
  have h1 := F.called_set.notType
  have h2 := F.called_set.canCreate
  have hct := F.typeCall_set_1 (.ref l)
  repeat (any_goals (first | assumption | wp_step))
  refine codeAny_mono (code_set_led1 (.ref l) (E := E) (Q₁ := fun obj s₁ => obj = .ref s.heap.objs.size ∧ s₁ = { s with heap := s.heap.push { cls := .type "set", dict := none, data := .set #[] 0 (.fresh 0 0 (!w.params.followText "set-order")) } }) ⟨rfl, rfl⟩) fun r s₁ hr => ?_
  cases r with
  | error e => exact hr
  | ok fl =>
    cases fl with
    | ret obj =>
      obtain ⟨rfl, rfl⟩ := hr
      have hS : (s.heap.push { cls := .type "set", dict := none, data := .set #[] 0 (.fresh 0 0 (!w.params.followText "set-order")) }).get? s.heap.objs.size = some { cls := .type "set", dict := none, data := .set #[] 0 (.fresh 0 0 (!w.params.followText "set-order")) } := Heap.get?_push_size _ rfl
      have hT : Shared.TypeIs { s with heap := s.heap.push { cls := .type "set", dict := none, data := .set #[] 0 (.fresh 0 0 (!w.params.followText "set-order")) } } (.ref s.heap.objs.size) "set" := ⟨_, hS, rfl⟩
      have hli := F.called_set.init.lookup
      have hbi := F.called_set.init.bind (.ref s.heap.objs.size)
      repeat (any_goals (first | assumption | wp_step))
      refine codeAny_mono (codeAny_call_builtin (R := wants (fun r s₂ => r = .none ∧ ∃ h' tk c, s₂ = { s with heap := h', toks := tk } ∧ SetS P w h' s.heap.objs.size (fun j => decide (j ∈ ns)) c ∧ c ≤ ns.length ∧
          (∀ b o, s.heap.get? b = some o → h'.get? b = some o)) E) F.called_set.init.plain F.entry_set_init (check_set_init_1 hT ?_)) fun r₂ s₂ hr₂ => ?_
      · obtain ⟨ol, hol, hcl, nl, hdl⟩ := hl
        obtain ⟨ocls, odict, odata, oslots⟩ := ol
        simp only at hcl hdl
        subst hcl; subst hdl
        have hol' : (s.heap.push { cls := .type "set", dict := none, data := .set #[] 0 (.fresh 0 0 (!w.params.followText "set-order")) }).get? l = some { cls := .type "list", dict := odict, data := .seq items nl, slots := oslots } := Heap.get?_push_of_some _ hol
        have hsls := F.sub_list_set
        have hslf := F.sub_list_frozenset
        have hne : (Value.type "list" == Value.type "dict") = false := by decide
        have hl1 : (s.heap.push { cls := .type "set", dict := none, data := .set #[] 0 (.fresh 0 0 (!w.params.followText "set-order")) }).IsList l items := ⟨_, hol', rfl, nl, rfl⟩
        unfold Builtin.«set.__init__» noKeywords Builtin.Frozenset.updateFrom
        generalize hPI : pyIter = PI
        wp_walk
        subst hPI
        refine wpAny_pyIter_list hl1 ?_
        refine wpAny_bind (wpAny_runValue ?_)
        have hlS : l < s.heap.objs.size := Heap.lt_size hol
        have hh3 : A.in1.in1.in1.handled = none := by simp [hh]
        have hneI : l ≠ (s.heap.push { cls := .type "set", dict := none, data := .set #[] 0 (.fresh 0 0 (!w.params.followText "set-order")) }).objs.size := by
          rw [Heap.size_push]; exact Nat.ne_of_lt (Nat.lt_succ_of_lt hlS)
        have hSf : s.heap.objs.size ∉ [(s.heap.push { cls := .type "set", dict := none, data := .set #[] 0 (.fresh 0 0 (!w.params.followText "set-order")) }).objs.size, l] := by
          rw [Heap.size_push]; simp only [List.mem_cons, List.mem_singleton, List.not_mem_nil, or_false, not_or]
          exact ⟨Nat.ne_of_lt (Nat.lt_succ_self _), Nat.ne_of_gt hlS⟩
        have hval : ∀ (i : Nat) (v : Value), items[i]? = some v → ∃ k t, ns[i]? = some k ∧ v = .str k t := fun i v hv => by
          have hi : i < ns.length := by rw [← hisz]; exact (Array.getElem?_eq_some_iff.mp hv).1
          obtain ⟨t, e⟩ := StrsAre.at hit (j := i) (y := ns[i]) (List.getElem?_eq_getElem hi)
          rw [Array.getElem?_toList, hv] at e
          exact ⟨ns[i], t, List.getElem?_eq_getElem hi, Option.some.inj e⟩
        refine set_update_strs ((Walks.list hh3 _ l hneI items).toS) s.heap.objs.size
          hSf ns hisz hb hval (items.size - 0) 0 _ (by omega) (Nat.zero_le _)
          ⟨⟨_, Heap.get?_push_size _ rfl, rfl, rfl⟩, (hl1.push _)⟩ ?hS0 ?hR
        case hS0 =>
          have hget : ((s.heap.push { cls := .type "set", dict := none, data := .set #[] 0 (.fresh 0 0 (!w.params.followText "set-order")) }).push { cls := .type "list_iterator", data := .fields #[.ref l, .int 0 0] }).get? s.heap.objs.size
              = some { cls := .type "set", dict := none, data := .set #[] 0 (.fresh 0 0 (!w.params.followText "set-order")) } := Heap.get?_push_of_some _ hS
          exact ⟨0, Nat.le_refl 0, setS_new_at hget⟩
        case hR =>
          intro s' c' hm hc' hS'
          obtain ⟨h', g2, d', tk', os'⟩ := s'
          have eg : g2 = s.gens := hm.gens
          have ed : d' = s.drawn := hm.drawn
          have eo : os' = s.os := hm.os
          subst eg; subst ed; subst eo
          show wpAny _ _ _ _ _ _
          refine wpAny_pure ?_
          show wpAny _ _ (ret Value.none) _ _ _
          rw [hisz] at hc'
          refine wpAny_pure ⟨rfl, h', tk', c', rfl, hS', hc', fun b o e => ?_⟩
          have hb0 : b < s.heap.objs.size := Heap.lt_size e
          have hb1 : b ≠ s.heap.objs.size := Nat.ne_of_lt hb0
          have hb2 : b ≠ (s.heap.push { cls := .type "set", dict := none, data := .set #[] 0 (.fresh 0 0 (!w.params.followText "set-order")) }).objs.size := by
            rw [Heap.size_push]; exact Nat.ne_of_lt (Nat.lt_succ_of_lt hb0)
          exact hm.heap b o (by simp only [List.mem_cons, List.mem_singleton, List.not_mem_nil, or_false, not_or]; exact ⟨hb1, hb2⟩) (Heap.get?_push_of_some _ (Heap.get?_push_of_some _ e))
      · cases r₂ with
        | error e => exact hr₂
        | ok fl₂ =>
          cases fl₂ with
          | ret r =>
            obtain ⟨rfl, h', tk, c', rfl, hS', hc', hk'⟩ := hr₂
            repeat (any_goals (first | assumption | wp_step))
            exact h _ _ _ hS' hc' hk'
          | _ => exact hr₂.elim
    | _ => exact hr.elim
end
end NL

set_option maxHeartbeats 4000000
namespace NL
open PySem PySem.Spec PyProof.Rows L2
theorem nodup_len {α : Type} [DecidableEq α] : ∀ (l D : List α), l.Nodup → (∀ x ∈ l, x ∈ D) → l.length ≤ D.length
  | [], D, _, _ => Nat.zero_le _
  | x :: l, D, h, s => by
    obtain ⟨h1, h2⟩ := List.nodup_cons.mp h
    have hx : x ∈ D := s x List.mem_cons_self
    have ih := nodup_len l (D.erase x) h2 fun y hy => (List.mem_erase_of_ne (fun e => h1 (by rw [← e]; exact hy))).mpr (s y (List.mem_cons_of_mem _ hy))
    have e := List.length_erase_of_mem hx
    have p := List.length_pos_of_mem hx
    rw [List.length_cons]
    omega
/-- not above -/
def Le (a b : Str) : Prop := ¬ (b.cps.toList < a.cps.toList)
theorem le_anti {a b : Str} (h1 : Le a b) (h2 : Le b a) : a = b := by
  have e : a.cps.toList = b.cps.toList := List.le_antisymm h1 h2
  cases a; cases b
  simp only [Str.mk.injEq]
  exact Array.toList_inj.mp e
theorem sorted_one : ∀ {xs ys : List Str}, xs.Pairwise Le → ys.Pairwise Le → xs.Nodup → ys.Nodup → (∀ k, k ∈ xs ↔ k ∈ ys) → xs = ys
  | [], [], _, _, _, _, _ => rfl
  | [], y :: ys, _, _, _, _, h => by have := (h y).mpr List.mem_cons_self; cases this
  | x :: xs, [], _, _, _, _, h => by have := (h x).mp List.mem_cons_self; cases this
  | x :: xs, y :: ys, h1, h2, n1, n2, h => by
    obtain ⟨a1, b1⟩ := List.pairwise_cons.mp h1
    obtain ⟨a2, b2⟩ := List.pairwise_cons.mp h2
    obtain ⟨c1, d1⟩ := List.nodup_cons.mp n1
    obtain ⟨c2, d2⟩ := List.nodup_cons.mp n2
    have e : x = y := by
      rcases List.mem_cons.mp ((h x).mp List.mem_cons_self) with e | e
      · exact e
      · rcases List.mem_cons.mp ((h y).mpr List.mem_cons_self) with e2 | e2
        · exact e2.symm
        · exact le_anti (a1 y e2) (a2 x e)
    subst e
    rw [sorted_one b1 b2 d1 d2 fun k => ?_]
    constructor
    · intro hk
      rcases List.mem_cons.mp ((h k).mp (List.mem_cons_of_mem _ hk)) with e | e
      · exact absurd (e ▸ hk) c1
      · exact e
    · intro hk
      rcases List.mem_cons.mp ((h k).mpr (List.mem_cons_of_mem _ hk)) with e | e
      · exact absurd (e ▸ hk) c2
      · exact e
theorem sorted_out_strP {vs : List Value} {ss : List Str} (hS : StrsAre vs ss) {xs : Array Keyed} (hp : xs.Perm (pairsOf vs)) (hs : SortedToK PyProof.Rows.strKind xs (pairsOf vs).size) :
    ∃ ss', StrsAre (xs.map (·.2)).toList ss' ∧ ss'.Perm ss ∧ ss'.Pairwise Le := by
  have hl : xs.toList.Perm (vs.zip vs) := by rw [← pairsOf_toList]; exact Array.perm_iff_toList_perm.mp hp
  have hmem : ∀ p, p ∈ xs.toList → p.1 = p.2 ∧ p.1 ∈ vs := fun p hp' => mem_zip_self (hl.mem_iff.mp hp')
  refine ⟨xs.toList.map (fun p => strOf p.1), ?_, ?_, ?_⟩
  · have e : (xs.map (·.2)).toList = xs.toList.map (·.1) := by
      rw [Array.toList_map]; exact List.map_congr_left fun p hp' => (hmem p hp').1.symm
    rw [e]
    have h1 := strsAre_map (xs.toList.map (·.1)) (by
      intro v hv
      obtain ⟨p, hp', rfl⟩ := List.mem_map.mp hv
      exact hS.all _ (hmem p hp').2)
    rwa [List.map_map] at h1
  · have h1 := hl.map (fun p => strOf p.1)
    have e2 : (vs.zip vs).map (fun p => strOf p.1) = ss := by
      have : (vs.zip vs).map (fun p => strOf p.1) = ((vs.zip vs).map Prod.fst).map strOf := by rw [List.map_map]; rfl
      rw [this, List.map_fst_zip (Nat.le_refl _), hS.strs]
    rwa [e2] at h1
  · rw [List.pairwise_iff_getElem]
    intro i j hi hj hij
    have hi' : i < xs.size := by simpa using hi
    have hj' : j < xs.size := by simpa using hj
    have h1 := hs i j (Nat.le_of_lt hij) (by rw [← hp.size_eq]; exact hj')
    obtain ⟨x, t, ex⟩ := hS.all _ (hmem xs[i] (by simp)).2
    obtain ⟨y, u, ey⟩ := hS.all _ (hmem xs[j] (by simp)).2
    rw [KK_str hi' (x := x) (t := t) (q := xs[i].2) (Prod.ext ex rfl), KK_str hj' (x := y) (t := u) (q := xs[j].2) (Prod.ext ey rfl)] at h1
    change decide (y.cps.toList < x.cps.toList) = false at h1
    simp only [List.getElem_map, Array.getElem_toList]
    rw [show strOf xs[i].1 = x by rw [ex]; rfl, show strOf xs[j].1 = y by rw [ey]; rfl]
    exact of_decide_eq_false h1
theorem strs_of : ∀ (l : List Value), (∀ v ∈ l, ∃ k tk, v = Value.str k tk) → StrsAre l (l.map fun v => keyS (0, v))
  | [], _ => .nil
  | v :: l, h => by
    obtain ⟨k, tk, rfl⟩ := h v List.mem_cons_self
    exact .cons k tk (strs_of l fun u hu => h u (List.mem_cons_of_mem _ hu))
section
variable {P : Program} {w : World} {A : Around} {E : Value → Shared → Prop} {s : Shared} {a : Addr}
theorem sorted_setS {S : Str → Bool} {n : Nat} {Q : Value → Shared → Prop} (R : SetS P w s.heap a S n) (hh : A.handled = none) (h64 : n < 64)
    (hQ : ∀ s' p (out : Array Value) (c : Nat) (ns : List Str), (∀ b o, s.heap.get? b = some o → s'.heap.get? b = some o) → s'.gens = s.gens → s'.os = s.os → s.heap.objs.size ≤ p →
      s'.heap.get? p = some (seqObj "list" out c) → StrsAre out.toList ns → ns.Pairwise Le → ns.Nodup → (∀ k, k ∈ ns ↔ S k = true) → ns.length = n → Q (.ref p) s') :
    wpAny (model P w) A (call (.builtin "sorted") [.ref a]) Q E s := by
  obtain ⟨o, es, ep, t, ho, hex, hd, g, nd, hm, hb, hf, hn, hr, hl⟩ := R
  refine Calls.call_function_entry kind_sorted plain_sorted entry_sorted (args_sorted1 _) ?_
  unfold Builtin.«sorted»
  refine wpAny_bind (m := checkCount "sorted" 1 1 _) (wpAny_pure ?_)
  refine wpAny_bind (collect_set (A := A.in1) hh ⟨o, ho, hex.1, hd⟩ hf hb hr hl fun s1 vs k1 hz g1 o1 pm => ?_)
  have hvl : vs.length = n := by rw [pm.length_eq, List.length_map, Array.length_toList]; exact hn
  have hI : StrsAre vs (vs.map fun v => keyS (0, v)) := strs_of vs fun v hv => by
    obtain ⟨e, he, q⟩ := List.mem_map.mp (pm.mem_iff.mp hv)
    obtain ⟨k, tk, h1, _⟩ := g e he
    exact ⟨k, tk, by rw [← q]; exact h1⟩
  have pk : (vs.map fun v => keyS (0, v)).Perm (es.toList.map keyS) := by
    have q := pm.map fun v => keyS (0, v)
    rw [List.map_map] at q
    exact q
  refine wpAny_bind (wpAny_newList ?_ (by rw [hvl, sizeLine_eq]; omega))
  have hoL : (s1.heap.push (seqObj "list" vs.toArray 0)).get? s1.heap.objs.size = some (seqObj "list" vs.toArray 0) := Heap.get?_push_size _ rfl
  refine wpAny_bind (wpAny_holding (wpAny_call_entry slot_list_sort ⟨_, hoL, rfl⟩ entry_list_sort (list_sort_treeK strKind_oneLt hoL hI.keysOf (fun v₁ v₂ rest e => keyKind_strs (by rw [← e]; exact hI)) (by rw [hvl]; exact h64) fun st' a1 a2 => ⟨_, rfl, ?_⟩) (args_list_sort _)))
  obtain ⟨ns', b1, b2, b3⟩ := sorted_out_strP hI a1 a2
  obtain ⟨c, hc⟩ := sortedHeap_at (vs := vs) (out := (arrOf st').map (·.2)) hoL
  have pn : ns'.Perm (es.toList.map keyS) := b2.trans pk
  refine wpAny_pure ⟨_, rfl, hQ _ s1.heap.objs.size _ c ns' (fun b u e => ?_) g1 o1 hz hc b1 b3 (pn.nodup_iff.mpr nd) (fun k => by rw [pn.mem_iff, ← hm k]) ?_⟩
  · have q := k1 b u e
    have hlt := Heap.lt_size q
    show (sortedHeap (s1.heap.push (seqObj "list" vs.toArray 0)) s1.heap.objs.size vs _).get? b = some u
    rw [sortedHeap_old (Nat.ne_of_lt hlt) (by rw [size_push']; exact Nat.lt_succ_of_lt hlt)]
    exact Heap.get?_push_of_some _ q
  · rw [pn.length_eq, List.length_map, Array.length_toList]; exact hn
end
/-! the rules -/
def SetSO (P : Program) (w : World) (a : Addr) (S : Str → Bool) (n : Nat) : HO := .ext fun h => SetS P w h a S n
theorem setSO_new {P : Program} {w : World} {H : Hp} {h : Heap} {a : Addr} {S : Str → Bool} {n : Nat} (R : SetS P w h a S n) : ObjOk P w H h a (SetSO P w a S n) := by
  have ⟨o, _, _, _, ho, _⟩ := R
  exact ⟨R, ⟨o, ho⟩, fun h1 h2 p k => SetS.at p k⟩
theorem SetS.few {P : Program} {w : World} {h : Heap} {a : Addr} {S : Str → Bool} {n : Nat} (R : SetS P w h a S n) {D : List Str} (hD : ∀ k, S k = true → k ∈ D) : n ≤ D.length := by
  obtain ⟨o, es, ep, t, ho, hex, hd, g, nd, hm, hb, hf, hn, hr, hl⟩ := R
  have q := nodup_len _ D nd fun x hx => hD x ((hm x).mpr hx)
  rw [List.length_map, Array.length_toList, hn] at q
  exact q
theorem strs_of_vals : ∀ {ks : List Str} {us : List Value}, Vals (ks.map V.str) us → StrsAre us ks
  | [], _, .nil => .nil
  | n :: k, _, .cons r t => by
    obtain ⟨tk, rfl⟩ := r
    exact .cons n tk (strs_of_vals t)
theorem vals_of_strs : ∀ {us : List Value} {ks : List Str}, StrsAre us ks → Vals (ks.map V.str) us
  | _, _, .nil => .nil
  | _, _, .cons n t h => .cons ⟨t, rfl⟩ (vals_of_strs h)
section
variable {X : Cx}
/-- set(xs), xs a list of texts -/
def rSetOfS (K : PySem.W.Frag) (P : Program) (w : World) : List V → Hp → VK → Prop := fun xs H Q => ∃ (l : Addr) (ks : List Str), xs = [V.ref l] ∧ SqL K H l (ks.map V.str) ∧ ks.length < 4000 ∧
  ∀ a c, H a = none → Q (.ref a) (upd H a (SetSO P w a (fun j => decide (j ∈ ks)) c))
theorem cr_setOfS (hc : X.calm = true) : CallR X (.type "set") (rSetOfS X.K X.prog X.w) := by
  intro pins s σ H xs us Q I r h
  obtain ⟨l, ks, rfl, hl, hf, q⟩ := h
  rw [Vals.ref1 r]
  obtain ⟨its, rv, pl, hz⟩ := I.list hl
  have hn : H s.heap.objs.size = none := I.hok.fresh (Nat.le_refl _)
  refine call_set_strs (P := X.prog) (w := X.w) ks (I.ok.hd hc) pl.isList (by simpa using strs_of_vals rv) (by unfold scanBound; omega) fun h' tk c R _ k => ?_
  exact ⟨.ref s.heap.objs.size, upd H s.heap.objs.size (SetSO X.prog X.w s.heap.objs.size _ c), I.laid (t' := tk) k (Nat.le_refl _) (setSO_new R), rfl, q _ c hn⟩
/-- sorted(set) of texts -/
def rSortedS (P : Program) (w : World) : List V → Hp → VK → Prop := fun vs H Q => ∃ (a : Addr) (S : Str → Bool) (n : Nat) (D : List Str), vs = [V.ref a] ∧ H a = some (SetSO P w a S n) ∧ (∀ k, S k = true → k ∈ D) ∧ D.length < 64 ∧
  ∀ (ns : List Str) (p : Addr), ns.Pairwise Le → ns.Nodup → (∀ k, k ∈ ns ↔ S k = true) → H p = none → Q (.ref p) (upd H p (.lst (ns.map V.str)))
theorem cr_sortedS (hc : X.calm = true) : CallR X (.builtin "sorted") (rSortedS X.prog X.w) := by
  intro pins s σ H vs us Q I r h
  obtain ⟨a, S, n, D, rfl, ha, hD, hl, q⟩ := h
  have R : SetS X.prog X.w s.heap a S n := (I.hok a _ ha).1
  have hn64 : n < 64 := Nat.lt_of_le_of_lt (R.few hD) hl
  rw [Vals.ref1 r]
  refine sorted_setS R (I.ok.hd hc) hn64 fun s' p out c ns k g o hp hg hout pw nd hm hlen => ?_
  have hlen2 : (ns.map V.str).length ≤ sizeLine := by rw [List.length_map, sizeLine_eq]; omega
  have hn : H p = none := I.hok.fresh hp
  have J : Inv X pins σ (upd H p (.lst (ns.map V.str))) { s with heap := s'.heap, gens := s'.gens, drawn := s'.drawn, toks := s'.toks } :=
    I.call (ch := []) (Un.laid k hp hn) (I.hok.laid k hp ⟨hlen2, out.toList, c, vals_of_strs hout, hg⟩) (by rw [g]; exact I.bare) (fun _ z => nomatch z)
  have e : s' = { s with heap := s'.heap, gens := s'.gens, drawn := s'.drawn, toks := s'.toks } := by
    cases s'
    cases s
    cases o
    rfl
  rw [e]
  exact ⟨.ref p, _, J, rfl, q ns p pw nd hm hn⟩
end
end NL

namespace NL
open PySem PySem.Spec PyProof.Rows L2
/-- the names of an item: without the same twice, in their order -/
def Alph (ns : List Str) (i : It) : Prop := ns.Pairwise Le ∧ ns.Nodup ∧ ∀ k, k ∈ ns ↔ k ∈ i.nms
theorem Alph.one {ns ms : List Str} {i : It} (h : Alph ns i) (g : Alph ms i) : ns = ms := sorted_one h.1 g.1 h.2.1 g.2.1 fun k => (h.2.2 k).trans (g.2.2 k).symm
theorem Alph.few {ns : List Str} {i : It} (h : Alph ns i) {xs : List Str} {B : Nat} {b : Bool} (ho : Okx xs B b i) : ns.length ≤ xs.length := nodup_len ns xs h.2.1 fun x hx => nms_in ho x ((h.2.2 x).mp hx)
theorem Alph.none {ns : List Str} {i : It} (h : Alph ns i) (e : i.nms = []) : ns = [] := by
  cases ns with
  | nil => rfl
  | cons a r =>
    have := (h.2.2 a).mp List.mem_cons_self
    rw [e] at this
    cases this
section
variable {P : Program} {w : World} {K : PySem.W.Frag} {mg : Str → Option Value} {base : Heap}
/-! ### names_in -/
def spNamesIn : Sp := fun vs H Q _ => ∃ (v : V) (i : It) (xs : List Str) (B : Nat) (b : Bool), vs = [v] ∧ ItemIn H i v ∧ Nit xs B 12 b i ∧ xs.length < 64 ∧ ∀ p ns H', Same H H' → H p = none → H' p = some (.tup (ns.map V.str)) → Alph ns i → Q (.ref p) H'
theorem ok_names_in (T : Txt K mg) : FnOk P w K mg base CX0 15 T.anames_in T.dnames_in Pnames_in spNamesIn := by
  have G_all_names := ok_all_names (P := P) (w := w) (base := base) T 12
  refine T.Fnames_in.ok scnames_in (fun vs H Q E h => ?_) (fun cdv A outer s H vs Q E hr h => ?_)
  · obtain ⟨v, i, xs, B, b, rfl, _⟩ := h
    rfl
  obtain ⟨v, i, xs, B, b, rfl, hi, hf, hx, q⟩ := h
  have ho := hf.ok
  refine ⟨_, (pss_one (ps_ret (pe_callTy call_tuple_of (by rfl) T.z_tuple (by decide +kernel) (pa_cons (pe_callB (cr_sortedS rfl) (by rfl) T.z_sorted (by decide +kernel) (pa_cons (pe_callTy (cr_setOfS rfl) (by rfl) T.z_set (by decide +kernel) (pa_cons (pe_call G_all_names (hr.mono (by omega)) (by rfl) T.m_all_names T.F_all_names.kp T.b_all_names .nil pass0 (pa_cons (pv 0) pa_nil)) pa_nil)) pa_nil)) pa_nil)))), ?_⟩
  refine ⟨_, rfl, v, i, xs, B, b, rfl, hi, hf, fun p1 H1 s1 hp1 e1 => ?_⟩
  have hl := nms_sz i
  have hz := hf.sz
  refine ⟨p1, i.nms, rfl, sqd e1, by omega, fun p2 c hp2 => ?_⟩
  refine ⟨p2, _, c, xs, rfl, upd_same, fun k hk => nms_in ho k (of_decide_eq_true hk), hx, fun ns p3 a1 a2 a3 hp3 => ?_⟩
  refine ⟨p3, _, rfl, .inl ⟨sqd upd_same, fun p4 hp4 => ?_⟩⟩
  have s4 := fun o => ((s1.trans (same_new hp2 (SetSO P w p2 (fun j => decide (j ∈ i.nms)) c))).trans (same_new hp3 o))
  exact q p4 ns _ ((s4 _).trans (same_new hp4 _)) ((s4 _).free hp4) upd_same ⟨a1, a2, fun k => by rw [a3 k, decide_eq_true_iff]⟩
end
end NL

namespace NL
open PySem PySem.Spec PyProof.Rows L2 HotX
theorem toks_wr {xs : List Str} {B : Nat} (hx : ∀ x ∈ xs, Nam x) {b : Bool} {i : It} (ho : Okx xs B b i) : ∃ ts, Toks ((tl i.wr).drop (rn sp (tl i.wr))) (rn sp (tl i.wr)) ts ∧ Bears ts i.tk := by
  have h1 := lay_ct i.tk 0
  rw [List.replicate_zero, List.nil_append, ct_tk (fun x h => (hx x h).nw) ho] at h1
  obtain ⟨g1, g2⟩ := tk_good hx ho
  obtain ⟨tc, h2, h3⟩ := lay_toks h1 g1 g2 0
  rw [Nat.zero_add] at h2
  exact ⟨tc, h2, h3⟩
theorem nam_read {xs : List Str} (hx : ∀ x ∈ xs, Nam x) : ∀ x ∈ xs, isN x = true ∧ isI x = false := fun x h => ⟨isN_nam (hx x h), isI_wd (hx x h).wd (fun e => by
  have := (hx x h).len.1
  rw [← show (tl x).length = x.length from Array.length_toList, e] at this
  exact absurd this (by decide))⟩
theorem op_in_seqK {X : Cx} {K : PySem.W.Frag} (h : X.K = K) : OpR X (compareOp .In) (rIn K false) := by
  subst h
  exact op_in_seq
theorem takesN0 {X : Cx} : L2N.Takes X (fun _ _ _ _ => False) := fun _ _ x => by
  obtain ⟨_, _, _, _, _, _, _, _, _, _, _, _, _, _, _, _, z⟩ := x
  exact z.elim
theorem all_true : ∀ n : Nat, (List.replicate n true).all id = true
  | 0 => rfl
  | n + 1 => by rw [List.replicate_succ, List.all_cons, all_true n]; rfl
section
variable {P : Program} {w : World} {K : PySem.W.Frag} {mg : Str → Option Value} {base : Heap}
/-! ### _read_behind -/
def spReadBehind : Sp := fun vs H Q _ => ∃ (a b : Addr) (at_ : Nat) (start : Str) (lines xs ys : List Str) (B : Nat) (c : Bool) (i : It), vs = [.str start, .ref a, .int (at_ : Int), .str (if c then "condition" else "expression"), .ref b] ∧ H a = some (.lst (lines.map V.str)) ∧ H b = some (.tup (ys.map V.str)) ∧
  lines[at_]? = some (start ++ i.wr) ∧ start.length ≤ 1000 ∧ Okx xs B c i ∧ B < 10 ^ 60 - 1 ∧ i.dep ≤ 12 ∧ i.sz ≤ 300 ∧ (∀ x ∈ xs, Nam x) ∧ xs.length < 64 ∧ (∀ x ∈ xs, x ∈ ys) ∧
  ∀ v H', Same H H' → ItemIn H' i v → Q v H'
theorem ok_read_behind (T : Txt K mg) (D : Dic K w mg) (EX : Exs K mg) : FnOk P w K mg base CX0 43 T.a_read_behind T.d_read_behind P_read_behind spReadBehind := by
  have Gread_whole := rx_read_whole (P := P) (base := base) T D EX
  have G_written := ok_written (P := P) (w := w) (base := base) T 12
  have Gnames_in := ok_names_in (P := P) (w := w) (base := base) T
  refine T.F_read_behind.ok sc_read_behind (fun vs H Q E h => ?_) (fun cdv A outer s H vs Q E hr h => ?_)
  · obtain ⟨a, b, at_, start, lines, xs, ys, B, c, i, rfl, _⟩ := h
    rfl
  obtain ⟨a, b, at_, start, lines, xs, ys, B, c, i, rfl, ha, hb, hl, hst, ho, hB, hd, hz, hx, hxl, hxy, q⟩ := h
  refine ⟨_, (pss_cons (ps_set (i := 5) sc_read_behind.nd rfl (Or.inl rfl) (pe_slice sl_str (pe_ix ix_list (pv 1) (pv 2) (fun _ _ => rfl)) (po_some (pe_callB call_len_str (by rfl) T.z_len PySem.boot_len (pa_cons (pv 0) pa_nil))) po_none))
    (pss_cons (L2N.ps_try_many (X := (cxOf CX0 P w K mg base N_read_behind "_read_behind" (defScope s_read_behind) T.a_read_behind cdv A outer s H E).nox) rfl rfl takesN0 (fun W pn xe tk po => by exact (pss_one (ps_set (i := 6) sc_read_behind.nd rfl (Or.inl rfl) (pe_callS Gread_whole (hr.mono (by omega)) (by rfl) T.mread_whole T.Fread_whole.kp T.bread_whole (fun σ => L2N.passAt tk σ) (pa_cons (pv 5) (pa_cons (pv 3) pa_nil)))))) (.cons ⟨rfl, by decide, .inl EX.g_BadText⟩ (fun a oe cls d pn hz hf => pss_never) .nil))
    (pss_cons (ps_if (PW.pt (pw_or (pt_cmpR op_ne (pe_ix ix_list (pv 1) (pv 2) (fun _ _ => rfl)) (pe_op op_add_str (pv 0) (pe_call G_written (hr.mono (by omega)) (by rfl) T.m_written T.F_written.kp T.b_written .nil pass0 (pa_cons (pv 6) pa_nil))) (nomark _)) (pw_or1 (pt_not (pt_val (pe_callB (cr_all rfl) (by rfl) T.z_all (by decide +kernel) (pa_cons (pe_lc (own := [("name", 7)]) (g := (gName 7)) (tt := tYes) rfl sc_read_behind.nd (pi_tup (pe_call Gnames_in (hr.mono (by omega)) (by rfl) T.mnames_in T.Fnames_in.kp T.bnames_in .nil pass0 (pa_cons (pv 6) pa_nil))) (blkOk_by (N := N_read_behind) (sc := defScope s_read_behind) (by decide +kernel)) (fun _ _ _ _ _ => (pg_name (i := 7) sc_read_behind.nd rfl (Or.inl rfl))) (fun _ _ _ _ _ => pts_nil) (fun _ _ _ _ _ => (pe_cmpR (op_in_seqK (K := K) rfl) (pv 7) (pv 4) (by rfl)))) pa_nil)))))))
    (pss_one ps_never)
    pss_nil)
    (pss_one (ps_ret (pv 6)))))), ?_⟩
  have hfit : Fit xs B 12 c i := ⟨ho, fun x h => (hx x h).nw, by omega, hd, by omega⟩
  have hwr := wr_small ⟨xs, B, c, hfit, hz⟩
  have hat : atI (lines.map V.str) (at_ : Int) = some (V.str (start ++ i.wr)) := atI_nat (by rw [List.getElem?_map, hl]; rfl)
  have hll : (start ++ i.wr).length ≤ sizeLine := by
    rw [Str.length_append]
    exact Nat.le_trans (m := 100000) (by omega) (by decide)
  obtain ⟨ts, hT, hBr⟩ := toks_wr hx ho
  refine ⟨_, rfl, _, rfl, a, _, _, _, rfl, rfl, sqd ha, hat, _, rfl, _, rfl, Nat.le_trans hst (by decide), _, rfl, _, rfl, hll, ?_⟩
  rw [cut_behind]
  refine ⟨_, rfl, _, rfl, i.wr, _, ts, rfl, Nat.le_trans hwr (by decide), (by cases c; exact .inr (.inl rfl); exact .inr (.inr rfl)), hT, ?_⟩
  rw [rdW_full (nam_read hx) hB ho hd hBr]
  refine fun v H1 s1 hv => ?_
  refine ⟨_, rfl, _, rfl, a, _, _, _, rfl, rfl, sqd (s1 _ _ ha), hat, _, rfl, _, rfl, v, i, xs, B, c, rfl, hv, hfit, fun H2 s2 => ⟨start, i.wr, rfl, rfl, by rw [← Str.length_append]; exact hll, rfl, _, rfl, ?_⟩⟩
  refine ifF (by rw [decide_eq_true rfl] <;> rfl) ?_
  refine ⟨_, rfl, v, i, xs, B, c, rfl, ItemIn.mono (.same s2) hv, ⟨ho, hd, by omega⟩, hxl, fun np ns H3 s3 hnp enp hal => ⟨np, rfl, ⟨_, sqt enp⟩, fun D2 hD2 => ?_⟩⟩
  have hnl := hal.few ho
  have s13 := (s1.trans s2).trans s3
  refine lc_tup (K := K) (a := np) (xs := ns.map V.str) (fun (j : Nat) (H' : Hp) => Same H3 H' ∧ H' D2 = some (.lst ((List.replicate j true).map V.bl))) ?_ ?_ ?_ ?_
  · exact ⟨same_new hD2 _, upd_same⟩
  · rintro j H' _ ⟨s4, _⟩
    exact sqt (s4 _ _ enp)
  · rintro j x H' hxj ⟨s4, e4⟩
    rw [List.getElem?_map] at hxj
    obtain ⟨k, hk, rfl⟩ := Option.map_eq_some_iff.mp hxj
    have hm : k ∈ ys := hxy _ (nms_in ho k ((hal.2.2 k).mp (List.mem_of_getElem? hk)))
    refine ⟨rfl, yes_if ?_⟩
    refine ⟨_, rfl, _, rfl, b, _, rfl, .inr (sqt (s4 _ _ (s13 _ _ hb))), rfl, flat_strs' ys, ?_⟩
    rw [inB rfl, decide_eq_true hm]
    refine ⟨_, e4, ?_, same_put s4 hD2, ?_⟩
    · rw [List.length_map, List.length_replicate]
      have := (List.getElem?_eq_some_iff.mp hk).1
      exact Nat.lt_of_lt_of_le (m := 1000) (by omega) (by decide)
    · rw [upd_same, List.replicate_succ', List.map_append]
      rfl
  · rintro H4 ⟨s4, e4⟩
    refine ⟨D2, _, rfl, sqd e4, _, rfl, ?_⟩
    refine ifF (by rw [all_true] <;> rfl) ?_
    exact ⟨_, rfl, q v _ (s13.trans s4) (ItemIn.mono (.same ((s2.trans s3).trans s4)) hv)⟩
end
end NL

namespace NL
open PySem PySem.Spec PyProof.Rows L2 HotX
/-! ### the names and rows of a plant, as data -/
def rowD (r : Row) : PyData := .tuple [.str r.1, .int r.2.1, .int r.2.2]
theorem rows_dp {K : PySem.W.Frag} {H : Hp} : ∀ {rows : List Row} {xs : List V}, RowsAt H rows xs → DpAll K H xs (rows.map rowD)
  | [], [], _ => .nil
  | [], _ :: _, h => by cases h.1
  | _ :: _, [], h => by cases h.1
  | r :: rows, x :: xs, h => by
    obtain ⟨q, rfl, e⟩ := h.2 0 r x rfl rfl
    exact .cons (.tup (sqt e) (.cons (.str _) (.cons (.int _) (.cons (.int _) .nil)))) (rows_dp ⟨Nat.succ.inj h.1, fun k a b h1 h2 => h.2 (k + 1) a b h1 h2⟩)
theorem isN_ok {z : Str} (h : isN z = true) : PyData.strOk z = true := by
  have hs := isN_signs h
  have hl : ∀ c ∈ lets, c < 128 := by decide +kernel
  unfold PyData.strOk
  rw [← Array.all_toList]
  refine List.all_eq_true.mpr fun c hc => decide_eq_true ?_
  have := hl c (hs c hc)
  omega
theorem rows_shape : ∀ {rows : List Row}, (∀ r ∈ rows, isN r.1 = true) → PyData.canLayAll0 (rows.map rowD) = true ∧ PyData.depthAll (rows.map rowD) ≤ 1
  | [], _ => ⟨rfl, Nat.zero_le _⟩
  | r :: rows, h => by
    obtain ⟨h1, h2⟩ := rows_shape fun x hx => h x (List.mem_cons_of_mem _ hx)
    refine ⟨?_, ?_⟩
    · show (PyData.strOk r.1 && (true && (true && true)) && PyData.canLayAll0 (rows.map rowD)) = true
      rw [isN_ok (h r List.mem_cons_self), h1]
      rfl
    · show max (max 0 (max 0 (max 0 0)) + 1) (PyData.depthAll (rows.map rowD)) ≤ 1
      omega
/-! ### no line's end within a line -/
theorem tk_nl {t : Str} (h : Tk t) : 10 ∉ TL.tl (sub t) := by
  by_cases e : t = ","
  · subst e
    decide +kernel
  · rw [sub_ne e]
    rcases h with ⟨_, h⟩ | ⟨c, r, h1, h2, h3⟩ | h
    · intro m
      have := h 10 m
      omega
    · show 10 ∉ tl t
      rw [h1]
      intro m
      rcases List.mem_cons.mp m with rfl | m
      · rcases h2 with h2 | h2
        · exact absurd h2 (by decide)
        · exact absurd h2 (by decide +kernel)
      · exact absurd (h3 _ m) (by decide +kernel)
    · obtain ⟨c, h1, h2⟩ := pn_code h
      show 10 ∉ tl t
      rw [h1]
      intro m
      rw [List.mem_singleton] at m
      omega
theorem wr_nl {xs : List Str} {B : Nat} (hx : ∀ x ∈ xs, Nam x) {b : Bool} {i : It} (ho : Okx xs B b i) : 10 ∉ TL.tl i.wr := by
  have h1 := ct_tk (fun x h => (hx x h).nw) ho
  show 10 ∉ i.wr.cps.toList
  rw [← h1]
  intro m
  obtain ⟨t, ht, hm⟩ := List.mem_flatMap.mp m
  exact tk_nl ((tk_good hx ho).1 t ht) hm
theorem row_nl {kind : Str} (hk : 10 ∉ TL.tl kind) {r : Row} (h : RwR r) : 10 ∉ TL.tl (rowLine kind r) := by
  have hb : 10 ∉ TL.tl (" " : Str) := by decide +kernel
  exact nin_app (nin_app (nin_app (nin_app (nin_app (nin_app hk hb) (isN_nl h.nm)) hb) (itxt_nin (by omega) (by omega) _)) hb) (itxt_nin (by omega) (by omega) _)
/-! ### a plant that the reader takes -/
structure PlR (p : Pl) (B : Nat) : Prop where
  nd : ((p.vs ++ p.ins ++ p.ns).map (·.1)).Nodup
  r : ∀ r ∈ p.vs ++ p.ins ++ p.ns, RwR r ∧ Nam r.1
  lv : p.vs.length ≤ 30 ∧ p.ins.length ≤ 30 ∧ p.ns.length ≤ 30
  few : p.vs.length + p.ins.length + p.ns.length ≤ 60
  ne : p.vs ≠ []
  ls : p.st.length = p.vs.length
  s : ∀ i ∈ p.st, Okx ((p.vs ++ p.ins ++ p.ns).map (·.1)) B false i ∧ i.dep ≤ 12 ∧ i.sz ≤ 300
  a : Okx ((p.vs ++ p.ins).map (·.1)) B true p.al ∧ p.al.dep ≤ 12 ∧ p.al.sz ≤ 300
  bd : B < 10 ^ 60 - 1
def nexts (p : Pl) : List Str := List.zipWith nextLine p.vs p.st
/-- the head of what follows does not start so -/
def Hd (R : List Str) (y : Str) : Prop := ∃ nx rest, R = nx :: rest ∧ Txt.startswith nx y = false
theorem hd_app {A R : List Str} {y : Str} (h : ∀ t ∈ A, Txt.startswith t y = false) (g : Hd R y) : Hd (A ++ R) y := by
  cases A with
  | nil => exact g
  | cons a r => exact ⟨a, r ++ R, rfl, h a List.mem_cons_self⟩
theorem next_no {y : Str} (k : Nat) (hk : k < (TL.tl y).length) (h1 : k < (TL.tl ("next " : Str)).length) (h : (TL.tl ("next " : Str))[k]? ≠ (TL.tl y)[k]?) : ∀ (vs : List Row) (st : List It), ∀ t ∈ List.zipWith nextLine vs st, Txt.startswith t y = false
  | [], _, t, m => nomatch m
  | _ :: _, [], t, m => nomatch m
  | r :: vs, i :: st, t, m => by
    rcases List.mem_cons.mp m with rfl | m
    · rw [next_form]
      exact starts_no2 k h1 hk h
    · exact next_no k hk h1 h vs st t m
theorem rows_no {kind y : Str} (k : Nat) (hk : k < (TL.tl y).length) (h1 : k < (TL.tl (kind ++ " ")).length) (h : (TL.tl (kind ++ " "))[k]? ≠ (TL.tl y)[k]?) (rows : List Row) : ∀ t ∈ rows.map (rowLine kind), Txt.startswith t y = false := fun t m => by
  obtain ⟨r, _, rfl⟩ := List.mem_map.mp m
  rw [row_form]
  exact starts_no2 k h1 hk h
def tail3 (p : Pl) : List Str := nexts p ++ (("allow " ++ p.al.wr) :: [""])
theorem hd_noise (p : Pl) : Hd (tail3 p) ("noise" ++ " ") := hd_app (next_no 1 (by decide +kernel) (by decide +kernel) (by decide +kernel) _ _) ⟨_, _, rfl, starts_no2 0 (by decide +kernel) (by decide +kernel) (by decide +kernel)⟩
theorem hd_input (p : Pl) : Hd (p.ns.map (rowLine "noise") ++ tail3 p) ("input" ++ " ") := hd_app (rows_no 0 (by decide +kernel) (by decide +kernel) (by decide +kernel) _) (hd_app (next_no 0 (by decide +kernel) (by decide +kernel) (by decide +kernel) _ _) ⟨_, _, rfl, starts_no2 0 (by decide +kernel) (by decide +kernel) (by decide +kernel)⟩)
theorem hd_state (p : Pl) : Hd (p.ins.map (rowLine "input") ++ (p.ns.map (rowLine "noise") ++ tail3 p)) ("state" ++ " ") := hd_app (rows_no 0 (by decide +kernel) (by decide +kernel) (by decide +kernel) _) (hd_app (rows_no 0 (by decide +kernel) (by decide +kernel) (by decide +kernel) _) (hd_app (next_no 0 (by decide +kernel) (by decide +kernel) (by decide +kernel) _ _) ⟨_, _, rfl, starts_no2 0 (by decide +kernel) (by decide +kernel) (by decide +kernel)⟩))
theorem lines_form (p : Pl) : p.lines ++ [("" : Str)] = p.vs.map (rowLine "state") ++ (p.ins.map (rowLine "input") ++ (p.ns.map (rowLine "noise") ++ tail3 p)) := by
  unfold Pl.lines Pl.head tail3 nexts
  simp only [List.append_assoc, List.cons_append, List.nil_append]
end NL

namespace NL
open PySem PySem.Spec PyProof.Rows L2 HotX
theorem join_lenE (l : List Str) : (Str.join "" l).length = (l.map (·.length)).sum := by
  have h : (Str.join "" l).length = (Str.join "" l).cps.toList.length := Array.length_toList.symm
  rw [h, join_codes, List.length_flatMap]
  rfl
theorem ixN_last (m : Nat) : ixN (m + 1) (-1) = some m := by
  unfold ixN
  rw [if_neg (by decide), if_pos (by omega)]
  congr 1
  omega
theorem set_last {α : Type} (v : α) : ∀ l : List α, (l ++ [v]).set l.length v = l ++ [v]
  | [] => rfl
  | a :: l => congrArg (a :: ·) (set_last v l)
theorem rows_app {H : Hp} {l l' : List Row} {vs vs' : List V} (h : RowsAt H l vs) (g : RowsAt H l' vs') : RowsAt H (l ++ l') (vs ++ vs') := by
  refine ⟨by rw [List.length_append, List.length_append, h.1, g.1], fun k r x e f => ?_⟩
  by_cases hk : k < l.length
  · rw [List.getElem?_append_left hk] at e
    rw [List.getElem?_append_left (by rw [h.1]; exact hk)] at f
    exact h.2 k r x e f
  · rw [List.getElem?_append_right (by omega)] at e
    rw [List.getElem?_append_right (by rw [h.1]; omega), h.1] at f
    exact g.2 _ r x e f
theorem PlR.ok {p : Pl} {B : Nat} (h : PlR p B) : PlOk p := by
  have rw' : ∀ r ∈ p.vs ++ p.ins ++ p.ns, Rw r := fun r hr => ⟨(h.r r hr).2.nw, Nat.lt_of_lt_of_le (h.r r hr).1.lo (by decide), Nat.lt_of_lt_of_le (h.r r hr).1.hi (by decide)⟩
  have hn : ∀ x ∈ (p.vs ++ p.ins ++ p.ns).map (·.1), Nw x := fun x hx => by
    obtain ⟨r, hr, rfl⟩ := List.mem_map.mp hx
    exact (h.r r hr).2.nw
  have hb := h.bd
  refine ⟨fun r hr => rw' r (by simp [hr]), fun r hr => rw' r (by simp [hr]), fun r hr => rw' r (by simp [hr]), fun i hi => ?_, ?_, by have := h.lv; omega, h.ls, h.ne⟩
  · obtain ⟨o, d, z⟩ := h.s i hi
    exact ⟨_, B, false, ⟨o, hn, by omega, d, by omega⟩, z⟩
  · obtain ⟨o, d, z⟩ := h.a
    exact ⟨_, B, true, ⟨o, fun x hx => hn x (by rw [List.map_append]; exact List.mem_append_left _ hx), by omega, d, by omega⟩, z⟩
theorem nexts_nl : ∀ (vs : List Row) (st : List It), (∀ r ∈ vs, 10 ∉ TL.tl r.1) → (∀ i ∈ st, 10 ∉ TL.tl i.wr) → ∀ t ∈ List.zipWith nextLine vs st, 10 ∉ TL.tl t
  | [], _, _, _, t, m => nomatch m
  | _ :: _, [], _, _, t, m => nomatch m
  | r :: vs, i :: st, h, g, t, m => by
    rcases List.mem_cons.mp m with rfl | m
    · exact nin_app (nin_app (nin_app (by decide +kernel) (h r List.mem_cons_self)) (by decide +kernel)) (g i List.mem_cons_self)
    · exact nexts_nl vs st (fun r hr => h r (List.mem_cons_of_mem _ hr)) (fun i hi => g i (List.mem_cons_of_mem _ hi)) t m
theorem PlR.nam {p : Pl} {B : Nat} (h : PlR p B) : ∀ x ∈ (p.vs ++ p.ins ++ p.ns).map (·.1), Nam x := fun x hx => by
  obtain ⟨r, hr, rfl⟩ := List.mem_map.mp hx
  exact (h.r r hr).2
theorem PlR.nl {p : Pl} {B : Nat} (h : PlR p B) : ∀ t ∈ p.lines, 10 ∉ TL.tl t := by
  intro t ht
  unfold Pl.lines Pl.head at ht
  simp only [List.mem_append, List.mem_map, List.mem_singleton] at ht
  rcases ht with (((⟨r, hr, rfl⟩ | ⟨r, hr, rfl⟩) | ⟨r, hr, rfl⟩) | ht) | rfl
  · exact row_nl (by decide +kernel) (h.r r (by simp [hr])).1
  · exact row_nl (by decide +kernel) (h.r r (by simp [hr])).1
  · exact row_nl (by decide +kernel) (h.r r (by simp [hr])).1
  · exact nexts_nl _ _ (fun r hr => isN_nl (h.r r (by simp [hr])).1.nm) (fun i hi => wr_nl h.nam (h.s i hi).1) t ht
  · exact nin_app (by decide +kernel) (wr_nl (fun x hx => h.nam x (by rw [List.map_append]; exact List.mem_append_left _ hx)) h.a.1)
section
variable {P : Program} {w : World} {K : PySem.W.Frag} {mg : Str → Option Value} {base : Heap}
/-! ### read_plant -/
def spReadPlant : Sp := fun vs H Q _ => ∃ (p : Pl) (B : Nat), vs = [.str (Str.join "" (p.lines.map eol))] ∧ PlR p B ∧ ∀ v H', Same H H' → PlIn H' p v → Q v H'
theorem ok_read_plant (T : Txt K mg) (D : Dic K w mg) (EX : Exs K mg) : FnOk P w K mg base CX0 44 T.aread_plant T.dread_plant Pread_plant spReadPlant := by
  have G_read_ranges := ok_read_ranges (P := P) (w := w) (base := base) T
  have G_read_behind := ok_read_behind (P := P) (base := base) T D EX
  have Gnames_of := ok_names_of (P := P) (w := w) (base := base) T
  refine T.Fread_plant.ok scread_plant (fun vs H Q E h => ?_) (fun cdv A outer s H vs Q E hr h => ?_)
  · obtain ⟨p, B, rfl, _⟩ := h
    rfl
  obtain ⟨p, B, rfl, hp, q⟩ := h
  refine ⟨_, (pss_cons (ps_set (i := 1) scread_plant.nd rfl (Or.inl rfl) (pe_bm PySem.F.plainAttrs_str PySem.F.slot_str_split PySem.F.type_str_split mt_split (pv 0) (pa_cons pe_str pa_nil)))
    (pss_cons (ps_asg pe_str (pg_sub (pv 1) (pe_un un_neg pe_int) set_list))
    (pss_cons (ps_asg (pe_call G_read_ranges (hr.mono (by omega)) (by rfl) T.m_read_ranges T.F_read_ranges.kp T.b_read_ranges .nil pass0 (pa_cons (pv 1) (pa_cons pe_int (pa_cons pe_str (pa_cons (pe_tup pa_nil) pa_nil))))) (pg_tup rfl (pgs_cons (pg_name (i := 2) scread_plant.nd rfl (Or.inl rfl)) (pgs_cons (pg_name (i := 3) scread_plant.nd rfl (Or.inl rfl)) pgs_nil))))
    (pss_cons (ps_if (pt_cmpR (op_eqD hr.units) (pv 2) (pe_tup pa_nil) (nomark _))
    (pss_one ps_never)
    pss_nil)
    (pss_cons (ps_asg (pe_call G_read_ranges (hr.mono (by omega)) (by rfl) T.m_read_ranges T.F_read_ranges.kp T.b_read_ranges .nil pass0 (pa_cons (pv 1) (pa_cons (pv 3) (pa_cons pe_str (pa_cons (pe_call Gnames_of (hr.mono (by omega)) (by rfl) T.mnames_of T.Fnames_of.kp T.bnames_of .nil pass0 (pa_cons (pv 2) pa_nil)) pa_nil))))) (pg_tup rfl (pgs_cons (pg_name (i := 4) scread_plant.nd rfl (Or.inl rfl)) (pgs_cons (pg_name (i := 3) scread_plant.nd rfl (Or.inl rfl)) pgs_nil))))
    (pss_cons (ps_set (i := 5) scread_plant.nd rfl (Or.inl rfl) (pe_call Gnames_of (hr.mono (by omega)) (by rfl) T.mnames_of T.Fnames_of.kp T.bnames_of .nil pass0 (pa_cons (pe_op op_catA (pv 2) (pv 4)) pa_nil)))
    (pss_cons (ps_asg (pe_call G_read_ranges (hr.mono (by omega)) (by rfl) T.m_read_ranges T.F_read_ranges.kp T.b_read_ranges .nil pass0 (pa_cons (pv 1) (pa_cons (pv 3) (pa_cons pe_str (pa_cons (pv 5) pa_nil))))) (pg_tup rfl (pgs_cons (pg_name (i := 6) scread_plant.nd rfl (Or.inl rfl)) (pgs_cons (pg_name (i := 3) scread_plant.nd rfl (Or.inl rfl)) pgs_nil))))
    (pss_cons (ps_set (i := 7) scread_plant.nd rfl (Or.inl rfl) (pe_op op_catA (pv 5) (pe_call Gnames_of (hr.mono (by omega)) (by rfl) T.mnames_of T.Fnames_of.kp T.bnames_of .nil pass0 (pa_cons (pv 6) pa_nil))))
    (pss_cons (ps_set (i := 8) scread_plant.nd rfl (Or.inl rfl) (pe_lst pa_nil))
    (pss_cons (ps_for  PassesOwn.never rfl (pi_tup (pe_call Gnames_of (hr.mono (by omega)) (by rfl) T.mnames_of T.Fnames_of.kp T.bnames_of .nil pass0 (pa_cons (pv 2) pa_nil))) (pg_name (i := 9) scread_plant.nd rfl (Or.inl rfl))
    (pss_cons (ps_expr (pe_bm PySem.F.plainAttrs_list PySem.F.slot_list_append PySem.F.type_list_append mt_append (pv 8) (pa_cons (pe_call G_read_behind (hr.mono (by omega)) (by rfl) T.m_read_behind T.F_read_behind.kp T.b_read_behind .nil pass0 (pa_cons (pe_op op_add_str (pe_op op_add_str pe_str (pv 9)) pe_str) (pa_cons (pv 1) (pa_cons (pv 3) (pa_cons pe_str (pa_cons (pv 7) pa_nil)))))) pa_nil)))
    (pss_one (ps_aug (i := 3) scread_plant.nd rfl (Or.inl rfl) pe_int ip_add))))
    (pss_cons (ps_set (i := 10) scread_plant.nd rfl (Or.inl rfl) (pe_call G_read_behind (hr.mono (by omega)) (by rfl) T.m_read_behind T.F_read_behind.kp T.b_read_behind .nil pass0 (pa_cons pe_str (pa_cons (pv 1) (pa_cons (pv 3) (pa_cons pe_str (pa_cons (pv 5) pa_nil)))))))
    (pss_cons (ps_if (PW.pt (pw_or (pt_cmpR op_ne (pe_op op_add (pv 3) pe_int) (pe_callB call_len_seq (by rfl) T.z_len PySem.boot_len (pa_cons (pv 1) pa_nil)) (nomark _)) (pw_or1 (pt_not (pt_val (pe_bm PySem.F.plainAttrs_str PySem.F.slot_str_endswith PySem.F.type_str_endswith mt_endswith (pv 0) (pa_cons pe_str pa_nil)))))))
    (pss_one ps_never)
    pss_nil)
    (pss_one (ps_ret (pe_tup (pa_cons (pv 2) (pa_cons (pv 4) (pa_cons (pv 6) (pa_cons (pe_callTy call_tuple_of (by rfl) T.z_tuple (by decide +kernel) (pa_cons (pv 8) pa_nil)) (pa_cons (pv 10) pa_nil)))))))))))))))))))), ?_⟩
  have hok := hp.ok
  obtain ⟨hlen, hline⟩ := lines_len hok
  have hlv := hp.lv
  have hfew := hp.few
  have hls := hp.ls
  have htl : (Str.join "" (p.lines.map eol)).length + 2 ≤ sizeLine := by
    rw [join_lenE]
    have h1 := lines_sum p.lines hline
    have h2 : p.lines.length * 90301 ≤ 121 * 90301 := Nat.mul_le_mul_right _ hlen
    exact Nat.le_trans (m := 121 * 90301 + 2) (by omega) (by decide)
  refine ⟨_, rfl, rfl, _, _, rfl, rfl, rfl, htl, fun L hL => ?_⟩
  rw [split_eol hp.nl]
  refine ⟨_, rfl, 1, rfl, L, _, -1, p.lines.length, rfl, rfl, upd_same, by rw [List.length_map, List.length_append]; exact ixN_last _, ?_⟩
  have e0 : (((p.lines ++ [("" : Str)]).map V.str).set p.lines.length (V.str "")) = (p.lines ++ [("" : Str)]).map V.str := by
    have := set_last (V.str "") (p.lines.map V.str)
    rw [List.length_map] at this
    rw [List.map_append]
    exact this
  rw [e0]
  have s1 : Same H (upd (upd H L (HO.lst ((p.lines ++ [("" : Str)]).map V.str))) L (HO.lst ((p.lines ++ [("" : Str)]).map V.str))) := same_put (same_new hL _) hL
  have e1 : upd (upd H L (HO.lst ((p.lines ++ [("" : Str)]).map V.str))) L (HO.lst ((p.lines ++ [("" : Str)]).map V.str)) L = some (HO.lst ((p.lines ++ [("" : Str)]).map V.str)) := upd_same
  generalize upd (upd H L (HO.lst ((p.lines ++ [("" : Str)]).map V.str))) L (HO.lst ((p.lines ++ [("" : Str)]).map V.str)) = H1 at s1 e1 ⊢
  have hnd := hp.nd
  rw [List.map_append, List.map_append] at hnd
  have hform := lines_form p
  have hrv : ∀ r ∈ p.vs, RwR r := fun r hr => (hp.r r (by simp [hr])).1
  have hri : ∀ r ∈ p.ins, RwR r := fun r hr => (hp.r r (by simp [hr])).1
  have hrn : ∀ r ∈ p.ns, RwR r := fun r hr => (hp.r r (by simp [hr])).1
  -- the variables
  obtain ⟨nx1, rest1, el1, hn1⟩ := hd_state p
  refine ⟨_, rfl, Nat.zero_le _, fun b0 hb0 => ⟨L, b0, 0, "state", _, rest1, nx1, p.vs, [], rfl, same_new hb0 _ _ _ e1, upd_same, by rw [List.drop_zero, hform, el1], hn1, by decide +kernel, by decide +kernel, hrv, (List.nodup_append.mp (List.nodup_append.mp hnd).1).1, by omega, by decide, fun t2 v1 H2 s2 hv1 e2 => ?_⟩⟩
  have s12 : Same H1 H2 := (same_new hb0 _).trans s2
  refine ⟨t2, _, rfl, sqt e2, rfl, _, _, rfl, _, _, rfl, rfl, ?_⟩
  obtain ⟨t1, x1, rfl, h1, r1⟩ := hv1
  refine ⟨_, rfl, Nat.zero_le _, fun b1 hb1 => ⟨.tuple (p.vs.map rowD), .tuple [], .tup (sqt (same_new hb1 _ _ _ h1)) (rows_dp (r1.mono (.same (same_new hb1 _)))), .tup (sqt upd_same) .nil, ?_, rfl, _, rfl, ?_⟩⟩
  · obtain ⟨a1, a2⟩ := rows_shape fun r hr => (hrv r hr).nm
    show (PyData.canLayAll0 (p.vs.map rowD) && decide (PyData.depthAll (p.vs.map rowD) + 1 ≤ 64)) = true
    rw [a1, decide_eq_true (by omega)]
    rfl
  refine ifF (by
    cases hv : p.vs with
    | nil => exact absurd hv hp.ne
    | cons a r => rfl) ?_
  have s2b := same_new hb1 (HO.tup [])
  generalize upd H2 b1 (HO.tup []) = H3 at s2b ⊢
  have nodE : ∀ l : List Row, (l.map fun r => V.str r.1) = (l.map (·.1)).map V.str := fun l => by rw [List.map_map]; rfl
  -- the inputs
  obtain ⟨nx2, rest2, el2, hn2⟩ := hd_input p
  refine ⟨_, rfl, _, rfl, _, rfl, .ref t1, p.vs, rfl, ⟨t1, x1, rfl, s2b _ _ h1, r1.mono (.same s2b)⟩, by omega, fun np1 H4 s4 en1 => ?_⟩
  rw [nodE] at en1
  refine ⟨L, np1, 0 + p.vs.length, "input", _, rest2, nx2, p.ins, p.vs.map (·.1), rfl, s4 _ _ (s2b _ _ (s12 _ _ e1)), en1, by rw [hform, Nat.zero_add, List.drop_left' (by rw [List.length_map]), el2], hn2, by decide +kernel, by decide +kernel, hri, (List.nodup_append.mp hnd).1, by omega, by rw [List.length_map]; omega, fun t3 v2 H5 s5 hv2 e5 => ?_⟩
  refine ⟨t3, _, rfl, sqt e5, rfl, _, _, rfl, _, _, rfl, rfl, ?_⟩
  obtain ⟨t4, x2, rfl, h2, r2⟩ := hv2
  have s25 : Same H2 H5 := (s2b.trans s4).trans s5
  -- the names known
  refine ⟨_, rfl, _, rfl, ?_⟩
  refine catA_one (s25 _ _ h1) h2 (by rw [r1.1, r2.1]; exact Nat.le_trans (m := 1000) (by omega) (by decide)) fun q4 H6 s6 e6 => ?_
  refine ⟨.ref q4, p.vs ++ p.ins, rfl, ⟨q4, _, rfl, e6, rows_app (r1.mono (.same (s25.trans s6))) (r2.mono (.same s6))⟩, by rw [List.length_append]; omega, fun np2 H7 s7 en2 => ?_⟩
  rw [nodE] at en2
  have s27 : Same H2 H7 := (s25.trans s6).trans s7
  -- the disturbances
  obtain ⟨nx3, rest3, el3, hn3⟩ := hd_noise p
  refine ⟨_, rfl, _, rfl, _, rfl, L, np2, 0 + p.vs.length + p.ins.length, "noise", _, rest3, nx3, p.ns, (p.vs ++ p.ins).map (·.1), rfl, s27 _ _ (s12 _ _ e1), en2, by rw [hform, Nat.zero_add, ← List.append_assoc, List.drop_left' (by rw [List.length_append, List.length_map, List.length_map]), el3], hn3, by decide +kernel, by decide +kernel, hrn, by rw [List.map_append]; exact hnd, by omega, by rw [List.length_map, List.length_append]; omega, fun t5 v3 H8 s8 hv3 e8 => ?_⟩
  refine ⟨t5, _, rfl, sqt e8, rfl, _, _, rfl, _, _, rfl, rfl, ?_⟩
  obtain ⟨t6, x3, rfl, h3, r3⟩ := hv3
  refine ⟨_, rfl, _, rfl, .ref t6, p.ns, rfl, ⟨t6, x3, rfl, h3, r3⟩, by omega, fun np3 H9 s9 en3 => ?_⟩
  rw [nodE] at en3
  refine catA_one (s9 _ _ (s8 _ _ en2)) en3 (by rw [List.length_map, List.length_map, List.length_map, List.length_map, List.length_append]; exact Nat.le_trans (m := 1000) (by omega) (by decide)) fun nq H10 s10 en4 => ?_
  have en4' : H10 nq = some (.tup (((p.vs ++ p.ins ++ p.ns).map (·.1)).map V.str)) := by
    rw [en4, ← List.map_append, ← List.map_append]
  have s2A : Same H2 H10 := ((s27.trans s8).trans s9).trans s10
  have hAll : Same H H10 := (s1.trans s12).trans s2A
  -- the steps
  refine ⟨Nat.zero_le _, fun S hS => ?_⟩
  have sS := same_new hS (HO.lst [])
  refine ⟨_, rfl, .ref t1, p.vs, rfl, ⟨t1, x1, rfl, sS _ _ (s2A _ _ h1), r1.mono (.same (s2A.trans sS))⟩, by omega, fun np4 H11 s11 en5 => ?_⟩
  have hdrop : (p.lines ++ [("" : Str)]).drop (0 + p.vs.length + p.ins.length + p.ns.length) = tail3 p := by
    rw [hform, Nat.zero_add, ← List.append_assoc, ← List.append_assoc, List.drop_left' (by rw [List.length_append, List.length_append, List.length_map, List.length_map, List.length_map])]
  generalize hb3 : 0 + p.vs.length + p.ins.length + p.ns.length = b3 at hdrop ⊢
  refine ⟨np4, rfl, ⟨_, sqt en5⟩, for_tup (K := K) (a := np4) (xs := p.vs.map fun r => V.str r.1) (fun (j : Nat) (σ : L2.St) (H' : Hp) => ∃ (sx : List V) (y9 y10 : Option V), σ = [some (.str (Str.join "" (p.lines.map eol))), some (.ref L), some (.ref t1), some (.int ((b3 + j : Nat) : Int)), some (.ref t4), some (.ref np2), some (.ref t6), some (.ref nq), some (.ref S), y9, y10] ∧ Same H10 H' ∧ H' S = some (.lst sx) ∧ Kids H' (p.st.take j) sx ∧ H' np4 = some (.tup (p.vs.map fun r => V.str r.1))) ?_ ?_ ?_ ?_⟩
  · exact ⟨[], none, none, rfl, sS.trans s11, s11 _ _ upd_same, ⟨rfl, fun k i x a b => by simp at a⟩, en5⟩
  · rintro j σ H' _ ⟨sx, y9, y10, rfl, s3, _, _, e⟩
    exact sqt e
  · rintro j x σ H12 hx ⟨sx, y9, y10, rfl, s3, eS, hk, en⟩
    rw [List.getElem?_map] at hx
    obtain ⟨r, hr1, rfl⟩ := Option.map_eq_some_iff.mp hx
    have hj : j < p.st.length := by
      have := (List.getElem?_eq_some_iff.mp hr1).1
      rw [hp.ls]
      exact this
    have hi1 : p.st[j]? = some p.st[j] := List.getElem?_eq_getElem hj
    have hR := hp.r r (by simp [List.mem_of_getElem? hr1])
    obtain ⟨ho, hd, hz⟩ := hp.s p.st[j] (List.getElem_mem hj)
    have hlj : (p.lines ++ [("" : Str)])[b3 + j]? = some (("next " ++ r.1 ++ " ") ++ p.st[j].wr) := by
      rw [← List.getElem?_drop, hdrop]
      unfold tail3 nexts
      have hz : (List.zipWith nextLine p.vs p.st)[j]? = some (nextLine r p.st[j]) := by rw [List.getElem?_zipWith, hr1, hi1]
      rw [List.getElem?_append_left (List.getElem?_eq_some_iff.mp hz).1, hz]
      rfl
    have k1 : (" " : Str).length = 1 := by decide +kernel
    have k5 : ("next " : Str).length = 5 := by decide +kernel
    have hl := hR.1.len
    have s2C := s2A.trans s3
    refine ⟨_, rfl, .inl ⟨rfl, _, sqd eS⟩, _, rfl, _, _, rfl, rfl, by rw [k5]; exact big (by omega), _, _, rfl, rfl, by rw [Str.length_append, k5, k1]; exact big (by omega), _, rfl, _, rfl, _, rfl, ?_⟩
    refine ⟨L, nq, b3 + j, "next " ++ r.1 ++ " ", _, _, _, B, false, p.st[j], rfl, s2C _ _ (s12 _ _ e1), s3 _ _ en4', hlj, by rw [Str.length_append, Str.length_append, k5, k1]; omega, ho, hp.bd, hd, hz, hp.nam, by rw [List.length_map, List.length_append, List.length_append]; omega, fun x hx => hx, fun v H13 s13 hv => ?_⟩
    have eS' := s13 _ _ eS
    refine ⟨S, _, _, rfl, rfl, eS', by rw [hk.1, List.length_take]; exact small1000 (by omega), _, rfl, _, _, rfl, rfl, sx ++ [v], some (.str r.1), y10, ?_, same_put (s3.trans s13) hS, upd_same, ?_, tp_put eS' _ _ (s13 _ _ en)⟩
    · rw [show ((b3 + (j + 1) : Nat) : Int) = ((b3 + j : Nat) : Int) + 1 by omega]
      rfl
    · rw [List.take_add_one, hi1]
      exact ((hk.mono (.same s13)).snoc hv).mono (tp_put eS')
  · rintro σ H12 ⟨sx, y9, y10, rfl, s3, eS, hk, en⟩
    have hn : (p.vs.map fun r => V.str r.1).length = p.st.length := by rw [List.length_map, hp.ls]
    rw [hn] at hk ⊢
    rw [List.take_length] at hk
    obtain ⟨ho, hd, hz⟩ := hp.a
    have hzl : (nexts p).length = p.st.length := by
      unfold nexts
      rw [List.length_zipWith, hp.ls, Nat.min_self]
    have hla : (p.lines ++ [("" : Str)])[b3 + p.st.length]? = some (("allow " : Str) ++ p.al.wr) := by
      rw [← List.getElem?_drop, hdrop]
      unfold tail3
      rw [List.getElem?_append_right (by omega), hzl, Nat.sub_self]
      rfl
    have s2C := s2A.trans s3
    have k6 : ("allow " : Str).length = 6 := by decide +kernel
    refine ⟨_, rfl, _, rfl, _, rfl, L, np2, b3 + p.st.length, "allow ", _, _, _, B, true, p.al, rfl, s2C _ _ (s12 _ _ e1), s3 _ _ (s10 _ _ (s9 _ _ (s8 _ _ en2))), hla, by rw [k6]; decide, ho, hp.bd, hd, hz, fun x hx => hp.nam x (by rw [List.map_append]; exact List.mem_append_left _ hx), by rw [List.length_map, List.length_append]; omega, fun x hx => hx, fun v H13 s13 hv => ?_⟩
    have eL := s13 _ _ (s2C _ _ (s12 _ _ e1))
    have hcount : (p.lines ++ [("" : Str)]).length = b3 + p.st.length + 2 := by
      rw [hform]
      unfold tail3
      simp only [List.length_append, List.length_map, List.length_cons, List.length_nil]
      omega
    refine ⟨_, rfl, _, _, rfl, rfl, _, rfl, _, _, rfl, .inl (sqd eL), rfl, _, rfl, ?_⟩
    refine ifF (by rw [List.length_map, hcount, decide_eq_true (by push_cast; rfl)] <;> rfl) ?_
    have hne : p.lines ≠ [] := by
      unfold Pl.lines
      simp
    refine ⟨_, rfl, rfl, _, _, rfl, rfl, _, congrArg V.bl (ends_eol hne), ?_⟩
    refine ifF rfl ?_
    refine ⟨_, rfl, _, rfl, _, rfl, _, rfl, S, sx, rfl, .inl ⟨sqd (s13 _ _ eS), fun sp hsp => ⟨_, rfl, Nat.le_of_ble_eq_true rfl, fun rp hrp => ?_⟩⟩⟩
    have s14 := same_new hsp (HO.tup sx)
    have s15 := same_new hrp (HO.tup [V.ref t1, V.ref t4, V.ref t6, V.ref sp, v])
    have sE := (s3.trans s13).trans (s14.trans s15)
    have s5E := (((s6.trans s7).trans s8).trans s9).trans (s10.trans sE)
    have s8E := (s9.trans s10).trans sE
    have s13E := s14.trans s15
    exact q _ _ (hAll.trans sE) ⟨rp, .ref t1, .ref t4, .ref t6, v, sp, sx, rfl, upd_same, ⟨t1, x1, rfl, s2A.trans sE _ _ h1, r1.mono (.same (s2A.trans sE))⟩, ⟨t4, x2, rfl, s5E _ _ h2, r2.mono (.same s5E)⟩, ⟨t6, x3, rfl, s8E _ _ h3, r3.mono (.same s8E)⟩, s15 _ _ upd_same, hk.mono (.same (s13.trans s13E)), ItemIn.mono (.same s13E) hv⟩
end
end NL

namespace NL
open PySem PySem.Spec PyProof.Rows L2
def big60 : Nat := 1000000000000000000000000000000000000000000000000000000000000
theorem big60_eq : (10 : Nat) ^ 60 = big60 := by decide
theorem cut_map (xs : List Str) (lo hi : Option Int) : ∃ ys : List Str, cutV (xs.map V.str) lo hi = ys.map V.str ∧ (∀ y ∈ ys, y ∈ xs) ∧ ys.length ≤ xs.length ∧ (∀ k : Int, lo = none → hi = some k → 1 ≤ k → xs ≠ [] → ys ≠ []) := by
  unfold cutV
  refine ⟨(xs.drop (HT.sIx (xs.map V.str).length 0 lo)).take (HT.sIx (xs.map V.str).length (xs.map V.str).length hi - HT.sIx (xs.map V.str).length 0 lo), ?_, ?_, ?_, ?_⟩
  · rw [List.map_take, List.map_drop]
  · intro y hy
    exact List.mem_of_mem_drop (List.mem_of_mem_take hy)
  · rw [List.length_take, List.length_drop]
    omega
  · rintro k rfl rfl hk hx h
    have hl := congrArg List.length h
    rw [List.length_take, List.length_drop, HT.sIx_none, List.length_nil, List.length_map] at hl
    have hpos : 0 < xs.length := List.length_pos_iff.mpr hx
    have e : HT.sIx xs.length xs.length (some k) = min k.toNat xs.length := by
      show (if k < 0 then (k + (xs.length : Int)).toNat else min k.toNat xs.length) = _
      rw [if_neg (by omega)]
    rw [e] at hl
    omega
/-- a row as it is drawn -/
structure Rb (r : Row) : Prop where
  le : r.2.1 ≤ r.2.2
  wd : r.2.2 ≤ r.2.1 + 4
  bd : r.2.1.natAbs + 6 ≤ big60
section
variable {P : Program} {w : World} {K : PySem.W.Frag} {mg : Str → Option Value} {base : Heap}
/-! ### _law_far -/
def spFar (K : PySem.W.Frag) : Sp := fun vs H Q _ => ∃ (a d : Addr) (ns : List Int), vs = [.ref a, .ref d] ∧ Keep K d H a (ns.map V.int) ∧ Dr H d ∧ ∀ n H', Go d H H' → n.natAbs + 6 ≤ big60 → Q (.int n) H'
theorem ok_law_far (T : Txt K mg) : FnOk P w K mg base CX0 3 T.a_law_far T.d_law_far P_law_far (spFar K) := by
  have G_law_take := ok_law_take (P := P) (w := w) (base := base) T
  have G_law_cell := ok_law_cell (P := P) (w := w) (base := base) T
  refine T.F_law_far.ok sc_law_far (fun vs H Q E h => ?_) (fun cdv A outer s H vs Q E hr h => ?_)
  · obtain ⟨a, d, ns, rfl, _⟩ := h
    rfl
  obtain ⟨a, d, ns, rfl, hk, hD, q⟩ := h
  refine ⟨_, (pss_cons (ps_set (i := 2) sc_law_far.nd rfl (Or.inl rfl) (pe_op op_mod (pe_callTy call_int1 (by rfl) T.z_int (by decide +kernel) (pa_cons (pe_call G_law_cell (hr.mono (by omega)) (by rfl) T.m_law_cell T.F_law_cell.kp T.b_law_cell .nil pass0 (pa_cons (pv 0) (pa_cons (pv 1) pa_nil))) pa_nil)) (pe_op op_pow pe_int pe_int)))
    (pss_one (ps_ret (pe_ix ix_list (pe_lst (pa_cons (pv 2) (pa_cons (pv 2) (pa_cons (pv 2) (pa_cons (pe_un un_neg (pv 2)) (pa_cons (pe_un un_neg (pv 2)) (pa_cons (pe_un un_neg (pv 2)) (pa_cons (pe_op op_sub (pe_op op_pow pe_int pe_int) pe_int) (pa_cons (pe_op op_sub pe_int (pe_op op_pow pe_int pe_int)) pa_nil))))))))) (pe_call G_law_take (hr.mono (by omega)) (by rfl) T.m_law_take T.F_law_take.kp T.b_law_take .nil pass0 (pa_cons (pv 1) (pa_cons pe_int pa_nil))) (fun _ _ => rfl))))), ?_⟩
  have p58 : (10 : Int) ^ (Int.toNat 58) = 10000000000000000000000000000000000000000000000000000000000 := by decide
  have p60 : (10 : Int) ^ (Int.toNat 60) = 1000000000000000000000000000000000000000000000000000000000000 := by decide
  have q60 : big60 = 1000000000000000000000000000000000000000000000000000000000000 := rfl
  refine ⟨_, rfl, _, rfl, a, d, ns, rfl, hk, hD, fun c0 H1 g1 _ => .inl ⟨_, rfl, _, _, rfl, rfl, ⟨by decide, by decide, by decide⟩, _, _, rfl, rfl, (by show (0 : Int) < 10 ^ (Int.toNat 58); decide), ?_⟩⟩
  have m0 := Int.emod_nonneg c0 (show (10 : Int) ^ (Int.toNat 58) ≠ 0 by decide)
  have m1 := Int.emod_lt_of_pos c0 (show (0 : Int) < 10 ^ (Int.toNat 58) by decide)
  refine ⟨_, rfl, _, rfl, _, rfl, _, rfl, _, rfl, _, rfl, _, rfl, _, rfl, _, rfl, _, _, rfl, rfl, ⟨by decide, by decide, by decide⟩, _, _, rfl, rfl, _, _, rfl, rfl, ⟨by decide, by decide, by decide⟩, _, _, rfl, rfl, (Nat.le_of_ble_eq_true rfl), fun p hp => ?_⟩
  have gp := fun o => Go.new (o := o) g1.dr hp
  refine ⟨_, rfl, d, _, rfl, (gp _).dr, (by decide), fun u H2 g2 u0 u1 => ?_⟩
  obtain ⟨z, hz, hzm⟩ := atI_map (f := V.int) (xs := [c0 % 10 ^ (Int.toNat 58), c0 % 10 ^ (Int.toNat 58), c0 % 10 ^ (Int.toNat 58), -(c0 % 10 ^ (Int.toNat 58)), -(c0 % 10 ^ (Int.toNat 58)), -(c0 % 10 ^ (Int.toNat 58)), 10 ^ (Int.toNat 60) - 6, 6 - 10 ^ (Int.toNat 60)]) u0 u1
  refine ⟨_, _, _, _, rfl, rfl, sqd (g2.at g1.dr hp), hz, q z H2 (g1.trans ((gp _).trans g2)) ?_⟩
  rw [p58] at m0 m1 hzm
  rw [p60] at hzm
  rw [q60]
  simp only [List.mem_cons, List.not_mem_nil, or_false] at hzm
  omega
/-! ### _law_ranges -/
def spRanges (K : PySem.W.Frag) : Sp := fun vs H Q _ => ∃ (d nm : Addr) (xs : List Str) (room c : Int), vs = [.ref d, .ref nm, .int room, .int c] ∧ Dr H d ∧ Keep K d H nm (xs.map V.str) ∧ 1 ≤ room ∧ room ≤ 1000 ∧ c.natAbs + 6 ≤ big60 ∧ xs.length ≤ 30 ∧
  ∀ v rows H', Go d H H' → RowsIn H' rows v → rows.map (·.1) = xs → (∀ r ∈ rows, Rb r) → Q v H'
theorem ok_law_ranges (T : Txt K mg) : FnOk P w K mg base CX0 2 T.a_law_ranges T.d_law_ranges P_law_ranges (spRanges K) := by
  have G_law_take := ok_law_take (P := P) (w := w) (base := base) T
  refine T.F_law_ranges.ok sc_law_ranges (fun vs H Q E h => ?_) (fun cdv A outer s H vs Q E hr h => ?_)
  · obtain ⟨d, nm, xs, room, c, rfl, _⟩ := h
    rfl
  obtain ⟨d, nm, xs, room, c, rfl, hD, hk, r0, r1, hc, hl, q⟩ := h
  refine ⟨_, (pss_cons (ps_set (i := 4) sc_law_ranges.nd rfl (Or.inl rfl) (pe_lst pa_nil))
    (pss_cons (ps_for  PassesOwn.never rfl (pi_list (pv 1)) (pg_name (i := 5) sc_law_ranges.nd rfl (Or.inl rfl))
    (pss_cons (ps_set (i := 6) sc_law_ranges.nd rfl (Or.inl rfl) (pe_op op_add pe_int (pe_call G_law_take (hr.mono (by omega)) (by rfl) T.m_law_take T.F_law_take.kp T.b_law_take .nil pass0 (pa_cons (pv 0) (pa_cons (pe_callB (call_min2 rfl) (by rfl) T.z_min (by decide +kernel) (pa_cons pe_int (pa_cons (pv 2) pa_nil))) pa_nil)))))
    (pss_cons (ps_set (i := 2) sc_law_ranges.nd rfl (Or.inl rfl) (pe_op op_fdiv (pv 2) (pv 6)))
    (pss_cons (ps_set (i := 7) sc_law_ranges.nd rfl (Or.inl rfl) (pe_ix ix_list (pe_lst (pa_cons pe_int (pa_cons (pe_op op_sub (pe_call G_law_take (hr.mono (by omega)) (by rfl) T.m_law_take T.F_law_take.kp T.b_law_take .nil pass0 (pa_cons (pv 0) (pa_cons pe_int pa_nil))) pe_int) (pa_cons (pv 3) pa_nil)))) (pe_op op_fdiv (pe_call G_law_take (hr.mono (by omega)) (by rfl) T.m_law_take T.F_law_take.kp T.b_law_take .nil pass0 (pa_cons (pv 0) (pa_cons pe_int pa_nil))) pe_int) (fun _ _ => rfl)))
    (pss_one (ps_expr (pe_bm PySem.F.plainAttrs_list PySem.F.slot_list_append PySem.F.type_list_append mt_append (pv 4) (pa_cons (pe_tup (pa_cons (pv 5) (pa_cons (pv 7) (pa_cons (pe_op op_sub (pe_op op_add (pv 7) (pv 6)) pe_int) pa_nil)))) pa_nil))))))))
    (pss_one (ps_ret (pe_callTy call_tuple_of (by rfl) T.z_tuple (by decide +kernel) (pa_cons (pv 4) pa_nil)))))), ?_⟩
  refine ⟨(Nat.le_of_ble_eq_true rfl), fun fp hfp => ?_⟩
  have nfd := new_ne hD hfp
  have g0 := fun o => Go.new (o := o) hD hfp
  refine ⟨_, rfl, nm, rfl, ⟨_, (hk.go (g0 _)).now⟩, ?_⟩
  refine for_list (K := K) (a := nm) (xs := xs.map V.str) (fun (j : Nat) (σ : L2.St) (H' : Hp) => ∃ (rm : Int) (rows : List Row) (rx : List V) (y5 y6 y7 : Option V), σ = [some (.ref d), some (.ref nm), some (.int rm), some (.int c), some (.ref fp), y5, y6, y7] ∧ 1 ≤ rm ∧ rm ≤ 1000 ∧ Go d H H' ∧ H' fp = some (.lst rx) ∧ RowsAt H' rows rx ∧ rows.map (·.1) = xs.take j ∧ ∀ r ∈ rows, Rb r) ?_ ?_ ?_ ?_
  · exact ⟨room, [], [], none, none, none, rfl, r0, r1, g0 _, upd_same, rows0, rfl, fun r h => by cases h⟩
  · rintro j σ H' _ ⟨rm, rows, rx, y5, y6, y7, rfl, _, _, g, _⟩
    exact (hk.go g).now
  · rintro j x σ H1 hx ⟨rm, rows, rx, y5, y6, y7, rfl, m0, m1, g1, e1, hrs, hrx, hrb⟩
    rw [List.getElem?_map] at hx
    cases hn : xs[j]? with
    | none => rw [hn] at hx; cases hx
    | some z =>
      rw [hn] at hx
      obtain rfl : V.str z = x := Option.some.inj hx
      have hmin : 0 < (if rm < 5 then rm else 5) := by split <;> omega
      refine ⟨_, rfl, _, rfl, _, _, rfl, d, _, rfl, g1.dr, hmin, fun u H2 g2 u0 u1 => ?_⟩
      have hu5 : u < 5 ∧ u < rm := by split at u1 <;> omega
      refine ⟨_, _, rfl, rfl, ?_⟩
      refine ⟨_, rfl, _, rfl, _, _, rfl, rfl, ⟨by omega, by omega⟩, ?_⟩
      have hq0 : 1 ≤ rm / (1 + u) := (Int.le_ediv_iff_mul_le (by omega)).mpr (by omega)
      have hq1 : rm / (1 + u) ≤ rm := Int.ediv_le_self _ (by omega)
      -- low
      refine ⟨_, rfl, d, _, rfl, g2.dr, (by decide), fun t H3 g3 t0 t1 => ?_⟩
      refine ⟨_, _, rfl, rfl, _, rfl, (Nat.le_of_ble_eq_true rfl), fun p4 hp4 => ?_⟩
      have g4 := fun o => Go.new (o := o) g3.dr hp4
      refine ⟨_, rfl, d, _, rfl, (g4 _).dr, (by decide), fun k H5 g5 k0 k1 => ?_⟩
      obtain ⟨lo, hlo, hlm⟩ := atI_map (f := V.int) (xs := [0, t - 3, c]) (i := k / 2) (by omega) (by show k / 2 < 3; omega)
      refine ⟨_, _, rfl, rfl, ⟨by decide, by decide⟩, _, _, _, _, rfl, rfl, sqd (g5.at g3.dr hp4), hlo, ?_⟩
      have hlb : lo.natAbs + 6 ≤ big60 := by
        simp only [List.mem_cons, List.not_mem_nil, or_false] at hlm
        have q60 : big60 = 1000000000000000000000000000000000000000000000000000000000000 := rfl
        omega
      have g15 := g2.trans (g3.trans ((g4 _).trans g5))
      have e5 := g15.fr fp _ nfd e1
      refine ⟨_, rfl, .inl ⟨rfl, _, sqd e5⟩, _, rfl, _, rfl, _, rfl, _, rfl, _, _, rfl, rfl, _, _, rfl, rfl, (Nat.le_of_ble_eq_true rfl), fun p6 hp6 => ?_⟩
      have g6 := fun o => Go.new (o := o) g5.dr hp6
      have e6 := fun o => (g6 o).fr fp _ nfd e5
      refine ⟨fp, _, _, rfl, rfl, e6 _, ?_, ?_⟩
      · rw [hrs.1]
        have := congrArg List.length hrx
        rw [List.length_map, List.length_take] at this
        exact small1000 (by omega)
      · have t6 := fun o => tp_put (o := o) (e6 (.tup [.str z, .int lo, .int (lo + (1 + u) - 1)]))
        refine ⟨rm / (1 + u), rows ++ [(z, lo, lo + (1 + u) - 1)], _, _, _, _, rfl, hq0, by omega, (g1.trans (g15.trans (g6 _))).put2 hfp nfd, upd_same, ?_, ?_, ?_⟩
        · exact ((hrs.mono ((g15.trans (g6 _)).tp g1.dr)).mono (t6 _)).snoc ⟨p6, rfl, t6 _ _ _ upd_same⟩
        · rw [List.map_append, hrx, List.take_add_one, hn]; rfl
        · intro r hr
          rcases List.mem_append.mp hr with h | h
          · exact hrb r h
          · rw [List.mem_singleton.mp h]
            exact ⟨by show lo ≤ lo + (1 + u) - 1; omega, by show lo + (1 + u) - 1 ≤ lo + 4; omega, hlb⟩
  · rintro σ H1 ⟨rm, rows, rx, y5, y6, y7, rfl, m0, m1, g1, e1, hrs, hrx, hrb⟩
    rw [List.length_map, List.take_length] at hrx
    refine ⟨_, rfl, fp, rx, rfl, .inl ⟨sqd e1, fun p hp => ?_⟩⟩
    have gp := fun o => Go.new (o := o) g1.dr hp
    exact q _ rows _ (g1.trans (gp _)) ⟨p, rx, rfl, upd_same, hrs.mono ((gp _).tp g1.dr)⟩ hrx hrb
/-! ### _law_step -/
def spStep (K : PySem.W.Frag) (B : Nat) : Sp := fun vs H Q _ => ∃ (d nm : Addr) (rv : V) (r : Row) (xs : List Str) (c δ : Int), vs = [.ref d, rv, .ref nm, .int c, .int δ] ∧ Dr H d ∧ RowIn H r rv ∧ Rb r ∧ r.1 ∈ xs ∧ Keep K d H nm (xs.map V.str) ∧ c.natAbs ≤ B ∧ δ ≤ 2 ∧
  ∀ v i H', Go d H H' → ItemIn H' i v → Okx xs B false i → i.dep ≤ 8 → i.sz ≤ 50 → Q v H'
theorem ok_law_step {B : Nat} (hB : big60 ≤ B + 2) (T : Txt K mg) : FnOk P w K mg base CX0 15 T.a_law_step T.d_law_step P_law_step (spStep K B) := by
  have q60 : big60 = 1000000000000000000000000000000000000000000000000000000000000 := rfl
  have hB1 : 100 ≤ B := by omega
  have G_law_take := ok_law_take (P := P) (w := w) (base := base) T
  have G_law_leaf := ok_law_leaf (P := P) (w := w) (base := base) hB1 T
  obtain ⟨G_law_expression, G_law_test⟩ := ok_ET (P := P) (w := w) (base := base) hB1 T 3
  refine T.F_law_step.ok sc_law_step (fun vs H Q E h => ?_) (fun cdv A outer s H vs Q E hr h => ?_)
  · obtain ⟨d, nm, rv, r, xs, c, δ, rfl, _⟩ := h
    rfl
  obtain ⟨d, nm, rv, r, xs, c, δ, rfl, hD, ⟨rq, rfl, hrq⟩, hrb, hrx, hk, hc, hδ, q⟩ := h
  refine ⟨_, (pss_cons (ps_set (i := 5) sc_law_step.nd rfl (Or.inl rfl) (pe_call G_law_take (hr.mono (by omega)) (by rfl) T.m_law_take T.F_law_take.kp T.b_law_take .nil pass0 (pa_cons (pv 0) (pa_cons pe_int pa_nil))))
    (pss_cons (ps_set (i := 6) sc_law_step.nd rfl (Or.inl rfl) (pe_tup (pa_cons pe_str (pa_cons (pe_ix ix_tup (pv 1) pe_int (fun _ _ => rfl)) pa_nil))))
    (pss_cons (ps_if (pt_cmpR op_eq (pv 5) pe_int (nomark _))
    (pss_one (ps_ret (pv 6)))
    pss_nil)
    (pss_cons (ps_if (pt_cmpR op_eq (pv 5) pe_int (nomark _))
    (pss_one (ps_ret (pe_tup (pa_cons pe_str (pa_cons (pv 6) (pa_cons (pe_call G_law_leaf (hr.mono (by omega)) (by rfl) T.m_law_leaf T.F_law_leaf.kp T.b_law_leaf .nil pass0 (pa_cons (pv 0) (pa_cons (pv 2) (pa_cons (pe_op op_sub (pe_call G_law_take (hr.mono (by omega)) (by rfl) T.m_law_take T.F_law_take.kp T.b_law_take .nil pass0 (pa_cons (pv 0) (pa_cons pe_int pa_nil))) pe_int) pa_nil)))) pa_nil))))))
    pss_nil)
    (pss_cons (ps_set (i := 7) sc_law_step.nd rfl (Or.inl rfl) (pe_call G_law_expression (hr.mono (by omega)) (by rfl) T.m_law_expression T.F_law_expression.kp T.b_law_expression .nil pass0 (pa_cons (pv 0) (pa_cons (pv 2) (pa_cons (pv 3) (pa_cons (pv 4) pa_nil))))))
    (pss_cons (ps_if (pt_cmpR op_eq (pv 5) pe_int (nomark _))
    (pss_one (ps_ret (pv 7)))
    pss_nil)
    (pss_cons (ps_if (pt_cmpR op_eq (pv 5) pe_int (nomark _))
    (pss_one (ps_ret (pe_tup (pa_cons pe_str (pa_cons (pe_tup (pa_cons pe_str (pa_cons (pv 7) (pa_cons (pe_op op_add (pe_op op_sub (pe_ix ix_tup (pv 1) pe_int (fun _ _ => rfl)) (pe_ix ix_tup (pv 1) pe_int (fun _ _ => rfl))) pe_int) pa_nil)))) (pa_cons (pe_tup (pa_cons pe_str (pa_cons (pe_ix ix_tup (pv 1) pe_int (fun _ _ => rfl)) pa_nil))) pa_nil))))))
    pss_nil)
    (pss_one (ps_ret (pe_tup (pa_cons pe_str (pa_cons (pe_tup (pa_cons pe_str (pa_cons (pe_tup (pa_cons pe_str (pa_cons (pv 6) (pa_cons (pv 7) pa_nil)))) (pa_cons (pe_tup (pa_cons pe_str (pa_cons (pe_ix ix_tup (pv 1) pe_int (fun _ _ => rfl)) pa_nil))) pa_nil)))) (pa_cons (pe_tup (pa_cons pe_str (pa_cons (pe_ix ix_tup (pv 1) pe_int (fun _ _ => rfl)) pa_nil))) pa_nil))))))))))))), ?_⟩
  have b1 := hrb.le
  have b2 := hrb.wd
  have b3 := hrb.bd
  refine ⟨_, rfl, d, _, rfl, hD, (by decide), fun kd H1 g1 k0 k1 => ?_⟩
  have hq1 := g1.tup hD hrq
  refine ⟨_, rfl, _, _, _, _, rfl, rfl, sqt hq1, atI0, (Nat.le_of_ble_eq_true rfl), fun op hop => ?_⟩
  have go := fun o => Go.new (o := o) g1.dr hop
  have own : ItemIn (upd H1 op (.tup [.str "name", .str r.1])) (.name r.1) (.ref op) := .name upd_same
  have owo : Okx xs B false (.name r.1) := .name hrx
  refine ⟨_, rfl, rfl, _, rfl, ?_⟩
  refine ite2 (fun c1 => ?_) (fun c1 => ?_)
  · exact ⟨_, rfl, q _ _ _ (g1.trans (go _)) own owo (by rw [It.dep]; decide) (by rw [It.sz]; decide)⟩
  refine ⟨_, rfl, rfl, _, rfl, ?_⟩
  refine ite2 (fun c2 => ?_) (fun c2 => ?_)
  · refine ⟨_, rfl, _, rfl, _, rfl, _, rfl, d, _, rfl, (go _).dr, (by decide), fun t H2 g2 t0 t1 => ?_⟩
    refine ⟨_, _, rfl, rfl, d, nm, xs, t - 2, rfl, g2.dr, ((hk.go g1).go (go _)).go g2, by omega, fun lv li H3 g3 hli hlo hld hls => ?_⟩
    refine ⟨(Nat.le_of_ble_eq_true rfl), fun p hp => ?_⟩
    have gp := fun o => Go.new (o := o) g3.dr hp
    exact q _ (.bin "add" (.name r.1) li) _ (g1.trans ((go _).trans (g2.trans (g3.trans (gp _))))) (.bin upd_same (own.go (g2.trans (g3.trans (gp _))) (go _).dr) (hli.go (gp _) g3.dr)) (.bin (by decide +kernel) owo hlo) (by simp only [It.dep]; omega) (by simp only [It.sz]; omega)
  have k2 : kd ≠ 0 ∧ kd ≠ 1 := ⟨int_ne c1, int_ne c2⟩
  refine ⟨_, rfl, _, rfl, _, rfl, _, rfl, d, nm, xs, c, δ, rfl, (go _).dr, (hk.go g1).go (go _), hc, hδ, fun fv fi H2 g2 hfi hfo hfd0 hfs0 => ?_⟩
  have hfd : fi.dep ≤ 5 := hfd0
  have hfs : fi.sz ≤ 41 := hfs0
  have hq2 := (((go _).trans g2).tup g1.dr hq1)
  have own2 := own.go g2 (go _).dr
  refine ⟨_, rfl, rfl, _, rfl, ?_⟩
  refine ite2 (fun c3 => ?_) (fun c3 => ?_)
  · exact ⟨_, rfl, q _ _ _ (g1.trans ((go _).trans g2)) hfi hfo (by omega) (by omega)⟩
  refine ⟨_, rfl, rfl, _, rfl, ?_⟩
  refine ite2 (fun c4 => ?_) (fun c4 => ?_)
  · refine ⟨_, rfl, _, rfl, _, _, _, _, rfl, rfl, sqt hq2, atI2, _, rfl, _, _, _, _, rfl, rfl, sqt hq2, atI1, _, _, rfl, rfl, _, _, rfl, rfl, (Nat.le_of_ble_eq_true rfl), fun p1 hp1 => ?_⟩
    have gp1 := fun o => Go.new (o := o) g2.dr hp1
    refine ⟨_, rfl, _, _, _, _, rfl, rfl, sqt ((gp1 _).tup g2.dr hq2), atI1, (Nat.le_of_ble_eq_true rfl), fun p2 hp2 => ?_⟩
    have gp2 := fun o => Go.new (o := o) (gp1 _).dr hp2
    refine ⟨(Nat.le_of_ble_eq_true rfl), fun p3 hp3 => ?_⟩
    have gp3 := fun o => Go.new (o := o) (gp2 _).dr hp3
    have g13 := fun o => (gp1 _).trans ((gp2 _).trans (gp3 o))
    exact q _ (.bin "add" (.dm "mod" fi (r.2.2 - r.2.1 + 1)) (.num r.2.1)) _ (g1.trans ((go _).trans (g2.trans (g13 _))))
      (.bin upd_same (.dm (((gp2 _).trans (gp3 _)).tup (gp1 _).dr upd_same) (hfi.go (g13 _) g2.dr)) (.num ((gp3 _).tup (gp2 _).dr upd_same)))
      (.bin (by decide +kernel) (.dm (by decide +kernel) hfo (by omega) (by omega)) (.num (by omega))) (by simp only [It.dep]; omega) (by simp only [It.sz]; omega)
  · refine ⟨_, rfl, _, rfl, (Nat.le_of_ble_eq_true rfl), fun p1 hp1 => ?_⟩
    have gp1 := fun o => Go.new (o := o) g2.dr hp1
    refine ⟨_, rfl, _, _, _, _, rfl, rfl, sqt ((gp1 _).tup g2.dr hq2), atI1, (Nat.le_of_ble_eq_true rfl), fun p2 hp2 => ?_⟩
    have gp2 := fun o => Go.new (o := o) (gp1 _).dr hp2
    refine ⟨(Nat.le_of_ble_eq_true rfl), fun p3 hp3 => ?_⟩
    have gp3 := fun o => Go.new (o := o) (gp2 _).dr hp3
    have g13 := fun o => (gp1 _).trans ((gp2 _).trans (gp3 o))
    refine ⟨_, rfl, _, _, _, _, rfl, rfl, sqt ((g13 _).tup g2.dr hq2), atI2, (Nat.le_of_ble_eq_true rfl), fun p4 hp4 => ?_⟩
    have gp4 := fun o => Go.new (o := o) (gp3 _).dr hp4
    refine ⟨(Nat.le_of_ble_eq_true rfl), fun p5 hp5 => ?_⟩
    have gp5 := fun o => Go.new (o := o) (gp4 _).dr hp5
    have g15 := fun o => (g13 _).trans ((gp4 _).trans (gp5 o))
    have g25 := fun o => (gp2 _).trans ((gp3 _).trans ((gp4 _).trans (gp5 o)))
    have g35 := fun o => (gp3 _).trans ((gp4 _).trans (gp5 o))
    have g45 := fun o => (gp4 _).trans (gp5 o)
    exact q _ (.bin "min" (.bin "max" (.bin "add" (.name r.1) fi) (.num r.2.1)) (.num r.2.2)) _ (g1.trans ((go _).trans (g2.trans (g15 _))))
      (.bin upd_same (.bin ((g45 _).tup (gp3 _).dr upd_same) (.bin ((g25 _).tup (gp1 _).dr upd_same) (own2.go (g15 _) g2.dr) (hfi.go (g15 _) g2.dr)) (.num ((g35 _).tup (gp2 _).dr upd_same))) (.num ((gp5 _).tup (gp4 _).dr upd_same)))
      (.bin (by decide +kernel) (.bin (by decide +kernel) (.bin (by decide +kernel) owo hfo) (.num (by omega))) (.num (by omega))) (by simp only [It.dep]; omega) (by simp only [It.sz]; omega)
end
end NL

namespace NL
open PySem PySem.Spec PyProof.Rows L2
/-- a plant as it is drawn -/
structure PlG (p : Pl) (xs : List Str) (B : Nat) : Prop where
  nm : ∀ x ∈ xs, Nam x
  v : ∀ r ∈ p.vs, Rb r ∧ r.1 ∈ xs
  i : ∀ r ∈ p.ins, Rb r ∧ r.1 ∈ xs
  n : ∀ r ∈ p.ns, Rb r ∧ r.1 ∈ xs
  s : ∀ i ∈ p.st, Okx xs B false i ∧ i.dep ≤ 8 ∧ i.sz ≤ 50
  a : Okx xs B true p.al ∧ p.al.dep ≤ 6 ∧ p.al.sz ≤ 223
  lv : p.vs.length ≤ 16 ∧ p.ins.length ≤ 16 ∧ p.ns.length ≤ 16
  ls : p.st.length = p.vs.length
  ne : p.vs ≠ []
theorem rows_sub {rows : List Row} {ys xs : List Str} (h : rows.map (·.1) = ys) (hs : ∀ y ∈ ys, y ∈ xs) (hb : ∀ r ∈ rows, Rb r) : ∀ r ∈ rows, Rb r ∧ r.1 ∈ xs := fun r hr => ⟨hb r hr, hs _ (by rw [← h]; exact List.mem_map_of_mem hr)⟩
theorem okx_mono {xs ys : List Str} {B : Nat} (hs : ∀ y ∈ ys, y ∈ xs) {b : Bool} {i : It} (h : Okx ys B b i) : Okx xs B b i := by
  induction h with
  | num h => exact .num h
  | name h => exact .name (hs _ h)
  | lit => exact .lit
  | abs _ ih => exact .abs ih
  | not _ ih => exact .not ih
  | dm a _ c d ih => exact .dm a ih c d
  | bin a _ _ ih jh => exact .bin a ih jh
  | cmp a _ _ ih jh => exact .cmp a ih jh
  | tri _ _ _ ih jh kh => exact .tri ih jh kh
  | grp a b _ ih => exact .grp a b ih
theorem Kids.app {H : Hp} {l l' : List It} {vs vs' : List V} (h : Kids H l vs) (g : Kids H l' vs') : Kids H (l ++ l') (vs ++ vs') := by
  induction l generalizing vs with
  | nil =>
    have : vs = [] := List.length_eq_zero_iff.mp h.1
    rw [this]; exact g
  | cons a r ih =>
    cases vs with
    | nil => exact absurd h.1 (by simp)
    | cons x xs =>
      have h0 : ItemIn H a x := h.2 0 a x rfl rfl
      have h1 : Kids H r xs := ⟨by have := h.1; simpa using this, fun k i y e f => h.2 (k + 1) i y (by simpa using e) (by simpa using f)⟩
      exact .cons h0 (ih h1)
theorem RowsAt.app {H : Hp} {l l' : List Row} {vs vs' : List V} (h : RowsAt H l vs) (g : RowsAt H l' vs') : RowsAt H (l ++ l') (vs ++ vs') := by
  refine ⟨by rw [List.length_append, List.length_append, h.1, g.1], fun k r x e f => ?_⟩
  by_cases hk : k < l.length
  · rw [List.getElem?_append_left hk] at e
    rw [List.getElem?_append_left (by rw [h.1]; exact hk)] at f
    exact h.2 k r x e f
  · rw [List.getElem?_append_right (by omega)] at e
    rw [List.getElem?_append_right (by rw [h.1]; omega), h.1] at f
    exact g.2 _ r x e f
section
variable {P : Program} {w : World} {K : PySem.W.Frag} {mg : Str → Option Value} {base : Heap}
/-! ### _law_plant -/
def spPlant (K : PySem.W.Frag) (B : Nat) : Sp := fun vs H Q _ => ∃ (d rp : Addr) (c : Int) (ra rb rc : Int), vs = [.ref d, .int c, .ref rp] ∧ Dr H d ∧ Keep K d H rp ([ra, rb, rc].map V.int) ∧ (1 ≤ ra ∧ ra ≤ 1000) ∧ (1 ≤ rb ∧ rb ≤ 1000) ∧ (1 ≤ rc ∧ rc ≤ 1000) ∧ c.natAbs + 6 ≤ big60 ∧
  ∀ v p xs H', Go d H H' → PlIn H' p v → PlG p xs B → Q v H'
theorem ok_law_plant {B : Nat} (hB : big60 ≤ B + 2) (T : Txt K mg) : FnOk P w K mg base CX0 16 T.a_law_plant T.d_law_plant P_law_plant (spPlant K B) := by
  have q60 : big60 = 1000000000000000000000000000000000000000000000000000000000000 := rfl
  have hB1 : 100 ≤ B := by omega
  have G_law_take := ok_law_take (P := P) (w := w) (base := base) T
  have G_law_names := ok_law_names (P := P) (w := w) (base := base) T
  have G_law_ranges := ok_law_ranges (P := P) (w := w) (base := base) T
  have G_law_step := ok_law_step (P := P) (w := w) (base := base) hB T
  obtain ⟨_, G_law_test⟩ := ok_ET (P := P) (w := w) (base := base) hB1 T 3
  refine T.F_law_plant.ok sc_law_plant (fun vs H Q E h => ?_) (fun cdv A outer s H vs Q E hr h => ?_)
  · obtain ⟨d, rp, c, ra, rb, rc, rfl, _⟩ := h
    rfl
  obtain ⟨d, rp, c, ra, rb, rc, rfl, hD, hkr, hra, hrb, hrc, hc, q⟩ := h
  refine ⟨_, (pss_cons (ps_set (i := 3) sc_law_plant.nd rfl (Or.inl rfl) (pe_lst (pa_cons (pe_op op_add pe_int (pe_call G_law_take (hr.mono (by omega)) (by rfl) T.m_law_take T.F_law_take.kp T.b_law_take .nil pass0 (pa_cons (pv 0) (pa_cons pe_int pa_nil)))) (pa_cons (pe_call G_law_take (hr.mono (by omega)) (by rfl) T.m_law_take T.F_law_take.kp T.b_law_take .nil pass0 (pa_cons (pv 0) (pa_cons pe_int pa_nil))) (pa_cons (pe_call G_law_take (hr.mono (by omega)) (by rfl) T.m_law_take T.F_law_take.kp T.b_law_take .nil pass0 (pa_cons (pv 0) (pa_cons pe_int pa_nil))) pa_nil)))))
    (C8.pss_cut (ps_if (pt_cmpR op_eq (pe_call G_law_take (hr.mono (by omega)) (by rfl) T.m_law_take T.F_law_take.kp T.b_law_take .nil pass0 (pa_cons (pv 0) (pa_cons pe_int pa_nil))) pe_int (nomark _))
    (pss_one (ps_set (i := 3) sc_law_plant.nd rfl (Or.inl rfl) (pe_lst (pa_cons pe_int (pa_cons pe_int (pa_cons pe_int pa_nil))))))
    pss_nil)
    (pss_cons (ps_set (i := 4) sc_law_plant.nd rfl (Or.inr rfl) (pe_call G_law_names (hr.mono (by omega)) (by rfl) T.m_law_names T.F_law_names.kp T.b_law_names .nil pass0 (pa_cons (pv 0) (pa_cons (pe_op op_add (pe_op op_add (pe_ix ix_list (pv 3) pe_int (fun _ _ => rfl)) (pe_ix ix_list (pv 3) pe_int (fun _ _ => rfl))) (pe_ix ix_list (pv 3) pe_int (fun _ _ => rfl))) pa_nil))))
    (pss_cons (ps_set (i := 5) sc_law_plant.nd rfl (Or.inl rfl) (pe_call G_law_ranges (hr.mono (by omega)) (by rfl) T.m_law_ranges T.F_law_ranges.kp T.b_law_ranges .nil pass0 (pa_cons (pv 0) (pa_cons (pe_slice sl_list (pv 4) po_none (po_some (pe_ix ix_list (pv 3) pe_int (fun _ _ => rfl)))) (pa_cons (pe_ix ix_list (pv 2) pe_int (fun _ _ => rfl)) (pa_cons (pv 1) pa_nil))))))
    (pss_cons (ps_set (i := 6) sc_law_plant.nd rfl (Or.inl rfl) (pe_call G_law_ranges (hr.mono (by omega)) (by rfl) T.m_law_ranges T.F_law_ranges.kp T.b_law_ranges .nil pass0 (pa_cons (pv 0) (pa_cons (pe_slice sl_list (pv 4) (po_some (pe_ix ix_list (pv 3) pe_int (fun _ _ => rfl))) (po_some (pe_op op_add (pe_ix ix_list (pv 3) pe_int (fun _ _ => rfl)) (pe_ix ix_list (pv 3) pe_int (fun _ _ => rfl))))) (pa_cons (pe_ix ix_list (pv 2) pe_int (fun _ _ => rfl)) (pa_cons (pv 1) pa_nil))))))
    (pss_cons (ps_set (i := 7) sc_law_plant.nd rfl (Or.inl rfl) (pe_call G_law_ranges (hr.mono (by omega)) (by rfl) T.m_law_ranges T.F_law_ranges.kp T.b_law_ranges .nil pass0 (pa_cons (pv 0) (pa_cons (pe_slice sl_list (pv 4) (po_some (pe_op op_add (pe_ix ix_list (pv 3) pe_int (fun _ _ => rfl)) (pe_ix ix_list (pv 3) pe_int (fun _ _ => rfl)))) po_none) (pa_cons (pe_ix ix_list (pv 2) pe_int (fun _ _ => rfl)) (pa_cons (pv 1) pa_nil))))))
    (pss_cons (ps_set (i := 8) sc_law_plant.nd rfl (Or.inl rfl) (pe_op op_add pe_int (pe_callTy call_int1 (by rfl) T.z_int (by decide +kernel) (pa_cons (pe_cmpR op_eq (pe_call G_law_take (hr.mono (by omega)) (by rfl) T.m_law_take T.F_law_take.kp T.b_law_take .nil pass0 (pa_cons (pv 0) (pa_cons pe_int pa_nil))) pe_int (nomark _)) pa_nil))))
    (pss_cons (ps_set (i := 9) sc_law_plant.nd rfl (Or.inl rfl) (pe_lst (pa_cons (pe_call G_law_step (hr.mono (by omega)) (by rfl) T.m_law_step T.F_law_step.kp T.b_law_step .nil pass0 (pa_cons (pv 0) (pa_cons (pe_ix ix_tup (pv 5) pe_int (fun _ _ => rfl)) (pa_cons (pv 4) (pa_cons (pv 1) (pa_cons (pv 8) pa_nil)))))) pa_nil)))
    (pss_cons (ps_set (i := 9) sc_law_plant.nd rfl (Or.inl rfl) (pe_callTy call_tuple_of (by rfl) T.z_tuple (by decide +kernel) (pa_cons (pe_op op_cat (pv 9) (pe_lc (own := [("row", 10)]) (g := (gName 10)) (tt := tYes) rfl sc_law_plant.nd (pi_tup (pe_slice sl_tup (pv 5) (po_some pe_int) po_none)) (blkOk_by (N := N_law_plant) (sc := defScope s_law_plant) (by decide +kernel)) (fun _ _ _ _ _ => (pg_name (i := 10) sc_law_plant.nd rfl (Or.inl rfl))) (fun _ _ _ _ _ => pts_nil) (fun _ _ _ _ _ => (pe_call G_law_step (hr.mono (by omega)) (by rfl) T.m_law_step T.F_law_step.kp T.b_law_step .nil pass0 (pa_cons (pv 0) (pa_cons (pv 10) (pa_cons (pv 4) (pa_cons (pv 1) (pa_cons pe_int pa_nil))))))))) pa_nil)))
    (pss_cons (ps_set (i := 11) sc_law_plant.nd rfl (Or.inl rfl) (pe_tup (pa_cons pe_str pa_nil)))
    (C8.pss_cut (ps_if (pt_cmpR op_eq (pe_call G_law_take (hr.mono (by omega)) (by rfl) T.m_law_take T.F_law_take.kp T.b_law_take .nil pass0 (pa_cons (pv 0) (pa_cons pe_int pa_nil))) pe_int (nomark _))
    (pss_one (ps_set (i := 11) sc_law_plant.nd rfl (Or.inl rfl) (pe_call G_law_test (hr.mono (by omega)) (by rfl) T.m_law_test T.F_law_test.kp T.b_law_test .nil pass0 (pa_cons (pv 0) (pa_cons (pe_slice sl_list (pv 4) po_none (po_some (pe_op op_add (pe_ix ix_list (pv 3) pe_int (fun _ _ => rfl)) (pe_ix ix_list (pv 3) pe_int (fun _ _ => rfl))))) (pa_cons (pv 1) (pa_cons (pv 8) pa_nil)))))))
    pss_nil)
    (pss_one (ps_ret (pe_tup (pa_cons (pv 5) (pa_cons (pv 6) (pa_cons (pv 7) (pa_cons (pv 9) (pa_cons (pv 11) pa_nil))))))))))))))))))), ?_⟩
  -- counts
  refine ⟨_, rfl, d, _, rfl, hD, (by decide), fun c0 H1 g1 c00 c01 => ?_⟩
  refine ⟨_, _, rfl, rfl, _, rfl, d, _, rfl, g1.dr, (by decide), fun c1 H2 g2 c10 c11 => ?_⟩
  refine ⟨_, rfl, d, _, rfl, g2.dr, (by decide), fun c2 H3 g3 c20 c21 => ?_⟩
  refine ⟨(Nat.le_of_ble_eq_true rfl), fun cp hcp => ?_⟩
  have gc := fun o => Go.new (o := o) g3.dr hcp
  have ncd := new_ne g3.dr hcp
  refine ⟨fun σ H4 => ∃ (cp : Addr) (a b e : Int), σ = [some (.ref d), some (.int c), some (.ref rp), some (.ref cp), none, none, none, none, none, none, none, none] ∧ Go d H H4 ∧ cp ≠ d ∧ H4 cp = some (.lst [.int a, .int b, .int e]) ∧ (1 ≤ a ∧ a ≤ 8) ∧ (0 ≤ b ∧ b ≤ 4) ∧ (0 ≤ e ∧ e ≤ 4), ?_, ?_⟩
  · refine ⟨_, rfl, d, _, rfl, (gc _).dr, (by decide), fun u H5 g5 u0 u1 => ?_⟩
    refine ⟨rfl, _, rfl, ?_⟩
    have g15 := g1.trans (g2.trans (g3.trans ((gc _).trans g5)))
    refine ite2 (fun z => ?_) (fun z => ?_)
    · refine ⟨(Nat.le_of_ble_eq_true rfl), fun cp2 hcp2 => ?_⟩
      exact ⟨cp2, 8, 4, 4, rfl, g15.trans (.new g5.dr hcp2), new_ne g5.dr hcp2, upd_same, by decide, by decide, by decide⟩
    · exact ⟨cp, 1 + c0, c1, c2, rfl, g15, ncd, g5.at g3.dr hcp, by omega, by omega, by omega⟩
  rintro σ4 H4 ⟨cp, ca, cb, ce, rfl, g4, ncp, ecp, hca, hcb, hce⟩
  have kc : Keep K d H4 cp [.int ca, .int cb, .int ce] := .of ncp ecp
  -- names
  refine ⟨_, rfl, _, rfl, _, _, _, _, rfl, rfl, kc.now, atI0, _, rfl, _, _, _, _, rfl, rfl, kc.now, atI1, _, _, rfl, rfl, _, rfl, _, _, _, _, rfl, rfl, kc.now, atI2, _, _, rfl, rfl, d, _, rfl, g4.dr, (by omega), (by omega), fun n xs H5 g5 hn nnd en hx hxl _ hxne => ?_⟩
  have hxne' := hxne (by omega)
  have kn : Keep K d H5 n (xs.map V.str) := .of nnd en
  have kc5 := kc.go g5
  -- variables
  refine ⟨_, rfl, _, rfl, _, rfl, _, _, _, _, rfl, rfl, kc5.now, atI0, _, rfl, _, _, rfl, kn.now, fun p1 hp1 => ?_⟩
  have g6 := fun o => Go.new (o := o) g5.dr hp1
  obtain ⟨ys1, ec1, hs1, hl1, hne1⟩ := cut_map xs none (some ca)
  have hne1' := hne1 ca rfl rfl hca.1 hxne'
  have kr6 := fun o => (hkr.go g4).go (g5.trans (g6 o))
  refine ⟨_, rfl, _, _, _, _, rfl, rfl, (kr6 _).now, atI0, _, rfl, d, p1, ys1, ra, c, rfl, (g6 _).dr, .of (new_ne g5.dr hp1) (by rw [upd_same]; exact congrArg (fun z => some (HO.lst z)) ec1), hra.1, hra.2, hc, by omega, fun v1 rows1 H7 g7 hr1 hrn1 hrb1 => ?_⟩
  have g57 := (g6 _).trans g7
  -- inputs
  have kc7 := kc5.go g57
  refine ⟨_, rfl, _, rfl, _, rfl, _, _, _, _, rfl, rfl, kc7.now, atI0, _, rfl, _, rfl, _, _, _, _, rfl, rfl, kc7.now, atI0, _, rfl, _, _, _, _, rfl, rfl, kc7.now, atI1, _, _, rfl, rfl, _, rfl, _, _, rfl, (kn.go g57).now, fun p2 hp2 => ?_⟩
  have g8 := fun o => Go.new (o := o) g7.dr hp2
  obtain ⟨ys2, ec2, hs2, hl2, _⟩ := cut_map xs (some ca) (some (ca + cb))
  have kr8 := fun o => (kr6 _).go (g7.trans (g8 o))
  refine ⟨_, rfl, _, _, _, _, rfl, rfl, (kr8 _).now, atI1, _, rfl, d, p2, ys2, rb, c, rfl, (g8 _).dr, .of (new_ne g7.dr hp2) (by rw [upd_same]; exact congrArg (fun z => some (HO.lst z)) ec2), hrb.1, hrb.2, hc, by omega, fun v2 rows2 H9 g9 hr2 hrn2 hrb2 => ?_⟩
  have g79 := (g8 _).trans g9
  -- noises
  have kc9 := kc7.go g79
  have kn9 := (kn.go g57).go g79
  refine ⟨_, rfl, _, rfl, _, rfl, _, _, _, _, rfl, rfl, kc9.now, atI0, _, rfl, _, _, _, _, rfl, rfl, kc9.now, atI1, _, _, rfl, rfl, _, rfl, _, _, rfl, kn9.now, fun p3 hp3 => ?_⟩
  have gA := fun o => Go.new (o := o) g9.dr hp3
  obtain ⟨ys3, ec3, hs3, hl3, _⟩ := cut_map xs (some (ca + cb)) none
  have krA := fun o => (kr8 _).go (g9.trans (gA o))
  refine ⟨_, rfl, _, _, _, _, rfl, rfl, (krA _).now, atI2, _, rfl, d, p3, ys3, rc, c, rfl, (gA _).dr, .of (new_ne g9.dr hp3) (by rw [upd_same]; exact congrArg (fun z => some (HO.lst z)) ec3), hrc.1, hrc.2, hc, by omega, fun v3 rows3 HB gB hr3 hrn3 hrb3 => ?_⟩
  have g9B := (gA _).trans gB
  have vs1 := rows_sub hrn1 hs1 hrb1
  have vs2 := rows_sub hrn2 hs2 hrb2
  have vs3 := rows_sub hrn3 hs3 hrb3
  have hln1 := congrArg List.length hrn1
  have hln2 := congrArg List.length hrn2
  have hln3 := congrArg List.length hrn3
  rw [List.length_map] at hln1 hln2 hln3
  -- deep
  refine ⟨_, rfl, d, _, rfl, gB.dr, (by decide), fun dp HC gC dp0 dp1 => ?_⟩
  refine ⟨rfl, .inr ⟨_, rfl, _, _, rfl, rfl, ?_⟩⟩
  have hdeep2 : ((1 : Int) + (if decide (V.int dp = V.int 0) = true then (1 : Int) else 0)) ≤ 2 := by split <;> decide
  -- steps
  obtain ⟨tp, rx, rfl, etp, hrs⟩ := hr1
  have g7C := g79.trans (g9B.trans gC)
  have etC := g7C.tup g7.dr etp
  have hrC := hrs.mono (g7C.tp g7.dr)
  cases hrow : rows1 with
  | nil => exact absurd (by rw [← hrn1, hrow]; rfl) hne1'
  | cons r0 rr =>
  cases hrxx : rx with
  | nil => rw [hrxx, hrow] at hrs; exact absurd hrs.1 (by simp)
  | cons x0 xr =>
  have hx0 : RowIn HC r0 x0 := hrC.2 0 r0 x0 (by rw [hrow]; rfl) (by rw [hrxx]; rfl)
  have hrest : RowsAt HC rr xr := by
    refine ⟨?_, fun k r x e f => hrC.2 (k + 1) r x (by rw [hrow]; simpa using e) (by rw [hrxx]; simpa using f)⟩
    have := hrC.1
    rw [hrow, hrxx] at this
    simpa using this
  have hv0 := vs1 r0 (by rw [hrow]; exact List.mem_cons_self)
  have hvr : ∀ r ∈ rr, Rb r ∧ r.1 ∈ xs := fun r hr => vs1 r (by rw [hrow]; exact List.mem_cons_of_mem _ hr)
  have knC := kn9.go (g9B.trans gC)
  rw [hrxx] at etC
  refine ⟨_, rfl, _, rfl, tp, _, _, _, rfl, rfl, sqt etC, atI0, _, rfl, _, rfl, _, rfl, d, n, x0, r0, xs, c, ((1 : Int) + (if decide (V.int dp = V.int 0) = true then (1 : Int) else 0)), rfl, gC.dr, hx0, hv0.1, hv0.2, knC, by omega, hdeep2, fun sv0 i0 HD gD hi0 ho0 hd0 hs0 => ?_⟩
  refine ⟨(Nat.le_of_ble_eq_true rfl), fun sp hsp => ?_⟩
  have gE := fun o => Go.new (o := o) gD.dr hsp
  have gCE := fun o => gD.trans (gE o)
  refine ⟨_, rfl, _, rfl, 1, rfl, tp, _, rfl, sqt ((gCE _).tup gC.dr etC), not_whole _ _ _, fun tp2 htp2 => ?_⟩
  have gF := fun o => Go.new (o := o) (gE _).dr htp2
  have gCF := fun o => (gCE _).trans (gF o)
  refine ⟨tp2, rfl, ⟨_, sqt upd_same⟩, fun D hDn => ?_⟩
  have nDd := new_ne (gF _).dr hDn
  have gG := fun o => Go.new (o := o) (gF _).dr hDn
  refine lc_tup (K := K) (a := tp2) (xs := cutV (x0 :: xr) (some 1) none) (fun (j : Nat) (H' : Hp) => ∃ (l : List It) (lv : List V), Go d (upd (upd HD sp (.lst [sv0])) tp2 (.tup (cutV (x0 :: xr) (some 1) none))) H' ∧ H' D = some (.lst lv) ∧ Kids H' l lv ∧ l.length = j ∧ ∀ i ∈ l, Okx xs B false i ∧ i.dep ≤ 8 ∧ i.sz ≤ 50) ?_ ?_ ?_ ?_
  · exact ⟨[], [], gG _, upd_same, kids0, rfl, fun i h => by cases h⟩
  · rintro j H' _ ⟨l, lv, g, _⟩
    exact sqt (g.tup (gF _).dr upd_same)
  · rintro j x H' hx ⟨l, lv, g, eD, hks, hll, hok⟩
    rw [cut_tail] at hx
    obtain ⟨r, hr1', hri, hrm⟩ := hrest.get hx
    have gCg := (gCF _).trans g
    refine ⟨rfl, yes_if ?_⟩
    refine ⟨_, rfl, _, rfl, _, rfl, _, rfl, d, n, x, r, xs, c, 1, rfl, g.dr, hri.mono (gCg.tp gC.dr), (hvr r hrm).1, (hvr r hrm).2, knC.go gCg, by omega, by decide, fun v i H4 g4' hi hio hid his => ?_⟩
    have e4 := g4'.fr D _ nDd eD
    have t4 := fun o => tp_put (o := o) e4
    refine ⟨lv, e4, ?_, l ++ [i], lv ++ [v], (g.trans g4').put2 hDn nDd, upd_same, ?_, ?_, ?_⟩
    · rw [hks.1, hll]
      have := (List.getElem?_eq_some_iff.mp hr1').1
      have h1 := congrArg List.length hrow
      rw [List.length_cons] at h1
      exact small1000 (by omega)
    · exact ((hks.mono (g4'.tp g.dr)).mono (t4 _)).snoc (hi.mono (t4 _))
    · rw [List.length_append, hll] <;> rfl
    · intro z hz
      rcases List.mem_append.mp hz with h | h
      · exact hok z h
      · rw [List.mem_singleton.mp h]; exact ⟨hio, hid, his⟩
  · rintro HI ⟨l, lv, g, eD, hks, hll, hok⟩
    rw [cut_tail, hrest.1] at hll
    have gEg := (gF _).trans g
    have nsd := new_ne gD.dr hsp
    have esp := gEg.fr sp _ nsd upd_same
    have hxl16 : xs.length ≤ 16 := by omega
    have h1 := congrArg List.length hrow
    rw [List.length_cons] at h1
    refine ⟨sp, D, _, _, rfl, rfl, esp, eD, ?_, fun sp2 hsp2 => ?_⟩
    · rw [hks.1, hll, List.length_singleton]
      exact big (by omega)
    have gJ := fun o => Go.new (o := o) g.dr hsp2
    refine ⟨sp2, _, rfl, .inl ⟨sqd upd_same, fun stp hstp => ?_⟩⟩
    have gK := fun o => Go.new (o := o) (gJ _).dr hstp
    have gIK := fun o => (gJ _).trans (gK o)
    have hkall : Kids HI (i0 :: l) (sv0 :: lv) := .cons (hi0.go ((gE _).trans gEg) gD.dr) hks
    -- allowed
    refine ⟨(Nat.le_of_ble_eq_true rfl), fun ap hap => ?_⟩
    have gL := fun o => Go.new (o := o) (gK _).dr hap
    have gIL := fun o => (gIK _).trans (gL o)
    have gCI := (gCF _).trans g
    have hpg : ∀ al, Okx xs B true al → al.dep ≤ 6 → al.sz ≤ 223 → PlG ⟨rows1, rows2, rows3, i0 :: l, al⟩ xs B := fun al ho hd hs =>
      ⟨hx, vs1, vs2, vs3, fun i hi => by
        rcases List.mem_cons.mp hi with h | h
        · rw [h]; exact ⟨ho0, hd0, hs0⟩
        · exact hok i h, ⟨ho, hd, hs⟩, ⟨by show rows1.length ≤ 16; omega, by show rows2.length ≤ 16; omega, by show rows3.length ≤ 16; omega⟩, by show (i0 :: l).length = rows1.length; rw [hrow, List.length_cons, List.length_cons, hll], by show rows1 ≠ []; rw [hrow]; simp⟩
    refine ⟨fun σ HM => ∃ (y : Option V) (av : V) (al : It), σ = [some (.ref d), some (.int c), some (.ref rp), some (.ref cp), some (.ref n), some (.ref tp), some v2, some v3, some (.int ((1 : Int) + (if decide (V.int dp = V.int 0) = true then (1 : Int) else 0))), some (.ref stp), y, some av] ∧ Go d (upd (upd HI sp2 (.lst ([sv0] ++ lv))) stp (.tup ([sv0] ++ lv))) HM ∧ ItemIn HM al av ∧ Okx xs B true al ∧ al.dep ≤ 6 ∧ al.sz ≤ 223, ?_, ?_⟩
    · refine ⟨_, rfl, d, _, rfl, (gL _).dr, (by decide), fun u HM gM u0 u1 => ?_⟩
      refine ⟨rfl, _, rfl, ?_⟩
      have hlit : ItemIn HM (.lit true) (.ref ap) := (ItemIn.lit (b := true) upd_same).go gM (gL _).dr
      refine ite2 (fun z => ?_) (fun z => ?_)
      · have kcM := ((kc9.go (g9B.trans gC)).go gCI).go ((gIL _).trans gM)
        have knM := (knC.go gCI).go ((gIL _).trans gM)
        refine ⟨_, rfl, _, rfl, _, rfl, _, _, _, _, rfl, rfl, kcM.now, atI0, _, rfl, _, _, _, _, rfl, rfl, kcM.now, atI1, _, _, rfl, rfl, _, rfl, _, _, rfl, knM.now, fun p5 hp5 => ?_⟩
        have gN := fun o => Go.new (o := o) gM.dr hp5
        obtain ⟨ys5, ec5, hs5, hl5, _⟩ := cut_map xs none (some (ca + cb))
        refine ⟨_, rfl, _, rfl, d, p5, ys5, c, ((1 : Int) + (if decide (V.int dp = V.int 0) = true then (1 : Int) else 0)), rfl, (gN _).dr, .of (new_ne gM.dr hp5) (by rw [upd_same]; exact congrArg (fun z => some (HO.lst z)) ec5), by omega, hdeep2, fun av al HO gO hal hao had has => ?_⟩
        exact ⟨none, av, al, rfl, (gL _).trans (gM.trans ((gN _).trans gO)), hal, okx_mono hs5 hao, had, has⟩
      · exact ⟨none, _, .lit true, rfl, (gL _).trans gM, hlit, .lit, by rw [It.dep]; decide, by rw [It.sz]; decide⟩
    · rintro σM HM ⟨y, av, al, rfl, gM, hal, hao, had, has⟩
      refine ⟨_, rfl, _, rfl, _, rfl, _, rfl, _, rfl, (Nat.le_of_ble_eq_true rfl), fun pp hpp => ?_⟩
      have gP := fun o => Go.new (o := o) gM.dr hpp
      have gIP := fun o => (gIK _).trans (gM.trans (gP o))
      have gCP := fun o => gCI.trans (gIP o)
      have gBP := fun o => gC.trans (gCP o)
      refine q _ ⟨rows1, rows2, rows3, i0 :: l, al⟩ xs _ (g4.trans (g5.trans (g57.trans (g79.trans (g9B.trans (gBP _)))))) ⟨pp, _, _, _, _, stp, _, rfl, upd_same, ?_, ?_, ?_, ((gP _).tup gM.dr (gM.tup (gK _).dr upd_same)), hkall.mono ((gIP _).tp g.dr), hal.go (gP _) gM.dr⟩ (hpg al hao had has)
      · exact (show RowsIn H7 rows1 (.ref tp) from ⟨tp, _, rfl, etp, hrs⟩).mono ((g79.trans (g9B.trans (gBP _))).tp g7.dr)
      · exact hr2.mono ((g9B.trans (gBP _)).tp g9.dr)
      · exact hr3.mono ((gBP _).tp gB.dr)
end
end NL

namespace NL
open PySem PySem.Spec PyProof.Rows L2
/-! ### the names drawn, with a bound that leaves room for longer ones -/
structure Nas (z : Str) : Prop where
  n : Nam z
  sh : z.length ≤ 151
section
variable {P : Program} {w : World} {K : PySem.W.Frag} {mg : Str → Option Value} {base : Heap}
def spNameS : Sp := fun vs H Q _ => ∃ d : Addr, vs = [.ref d] ∧ Dr H d ∧ ∀ z H', Go d H H' → Nas z → Q (.str z) H'
theorem gx_law_nameS (T : Txt K mg) : FnOk P w K mg base CX0 3 T.a_law_name T.d_law_name P_law_name spNameS := by
  have G_law_take := ok_law_take (P := P) (w := w) (base := base) T
  have G_law_some_word := ok_law_some_word (P := P) (w := w) (base := base) T
  have G_law_reserved := ok_law_reserved (P := P) (w := w) (base := base) T
  refine T.F_law_name.ok sc_law_name (fun vs H Q E h => ?_) (fun cdv A outer s H vs Q E hr h => ?_)
  · obtain ⟨d, rfl, _⟩ := h
    rfl
  obtain ⟨d, rfl, hD, q⟩ := h
  refine ⟨_, (pss_cons (ps_set (i := 1) sc_law_name.nd rfl (Or.inl rfl) (pe_call0 G_law_reserved (hr.mono (by omega)) (by rfl) T.m_law_reserved T.F_law_reserved.kp T.b_law_reserved .nil pass0))
    (pss_cons (ps_set (i := 2) sc_law_name.nd rfl (Or.inl rfl) (pe_call G_law_some_word (hr.mono (by omega)) (by rfl) T.m_law_some_word T.F_law_some_word.kp T.b_law_some_word .nil pass0 (pa_cons (pv 0) pa_nil)))
    (C8.pss_cut (ps_if (pt_cmpR op_eq (pe_call G_law_take (hr.mono (by omega)) (by rfl) T.m_law_take T.F_law_take.kp T.b_law_take .nil pass0 (pa_cons (pv 0) (pa_cons pe_int pa_nil))) pe_int (nomark _))
    (pss_cons (ps_set (i := 3) sc_law_name.nd rfl (Or.inl rfl) (pe_ix ix_list (pv 1) (pe_call G_law_take (hr.mono (by omega)) (by rfl) T.m_law_take T.F_law_take.kp T.b_law_take .nil pass0 (pa_cons (pv 0) (pa_cons pe_int pa_nil))) (fun _ _ => rfl)))
    (pss_one (ps_set (i := 2) sc_law_name.nd rfl (Or.inl rfl) (pe_ix ix_list (pe_lst (pa_cons (pe_op op_add_str (pv 3) pe_str) (pa_cons (pe_slice sl_str (pv 3) po_none (po_some (pe_un un_neg pe_int))) (pa_cons (pe_op op_add_str pe_str (pv 3)) pa_nil)))) (pe_call G_law_take (hr.mono (by omega)) (by rfl) T.m_law_take T.F_law_take.kp T.b_law_take .nil pass0 (pa_cons (pv 0) (pa_cons pe_int pa_nil))) (fun _ _ => rfl)))))
    pss_nil)
    (pss_cons (ps_if (pt_cmpR op_in_seq (pv 2) (pv 1) (by rfl))
    (pss_one (ps_ret (pe_op op_add_str (pv 2) pe_str)))
    pss_nil)
    (pss_one (ps_ret (pv 2))))))), ?_⟩
  refine ⟨rfl, fun kn H1 s1 n1 e1 => ?_⟩
  have hn : kn ≠ d := by
    rintro rfl
    obtain ⟨ns, hd⟩ := hD
    rw [n1] at hd; cases hd
  have g1 : Go d H H1 := .same hD s1
  have k1 : Keep K d H1 kn (res.map V.str) := .of hn e1
  refine ⟨_, rfl, d, rfl, g1.dr, fun z H2 g2 hz => ?_⟩
  refine ⟨fun σ H4 => ∃ (z : Str) (y : Option V), Nm z ∧ σ = [some (.ref d), some (.ref kn), some (.str z), y] ∧ Go d H1 H4, ?_, ?_⟩
  · refine ⟨_, rfl, d, _, rfl, g2.dr, (by decide), fun r H3 g3 r0 r1 => ?_⟩
    refine ⟨rfl, _, rfl, ?_⟩
    refine ite2 (fun c => ?_) (fun c => ?_)
    · refine ⟨_, rfl, _, rfl, d, _, rfl, g3.dr, (by decide), fun t H4 g4 t0 t1 => ?_⟩
      obtain ⟨nr, h1, h2⟩ := atI_map (f := V.str) (xs := res) t0 t1
      refine ⟨_, _, _, _, rfl, rfl, ((k1.go g2).go (g3.trans g4)).now, h1, ?_⟩
      obtain ⟨w1, w2, w3⟩ := res_wd nr h2
      have ws : Wd ("s" : Str) ∧ ("s" : Str).length = 1 ∧ Wd ("a" : Str) ∧ ("a" : Str).length = 1 := by decide +kernel
      have sz : ∀ n, n ≤ 1000 → n ≤ sizeLine := fun n h => Nat.le_of_lt (small1000 h)
      refine ⟨_, rfl, _, _, rfl, rfl, sz _ (by rw [ws.2.1]; omega), _, rfl, _, rfl, _, rfl, _, rfl, sz _ (by omega), _, rfl, _, _, rfl, rfl, sz _ (by rw [ws.2.2.2]; omega), (Nat.le_of_ble_eq_true rfl), fun p hp => ?_⟩
      have dp := g4.dr
      have g5 := fun o => Go.new (o := o) dp hp
      refine ⟨_, rfl, d, _, rfl, (g5 _).dr, (by decide), fun u H6 g6 u0 u1 => ?_⟩
      have np : p ≠ d := by
        rintro rfl
        obtain ⟨ns, hd⟩ := dp
        rw [hp] at hd; cases hd
      have e6 := g6.fr p _ np upd_same
      have l1 : Nm (nr ++ ("s" : Str)) := ⟨w1.app ws.1, by rw [len_app]; omega, by rw [len_app, ws.2.1]; omega⟩
      have l2 : Nm (cutS nr none (some (-1))) := ⟨wd_cut w1 _ _, by rw [len_cut1 w2]; omega, by rw [len_cut1 w2]; omega⟩
      have l3 : Nm (("a" : Str) ++ nr) := ⟨ws.2.2.1.app w1, by rw [len_app]; omega, by rw [len_app, ws.2.2.2]; omega⟩
      obtain ⟨v, hv, hm⟩ := atI_map (f := V.str) (xs := [nr ++ ("s" : Str), cutS nr none (some (-1)), ("a" : Str) ++ nr]) u0 u1
      refine ⟨_, _, _, _, rfl, rfl, sqd e6, hv, ?_⟩
      refine ⟨v, _, ?_, rfl, g2.trans (g3.trans (g4.trans ((g5 _).trans g6)))⟩
      simp only [List.mem_cons, List.not_mem_nil, or_false] at hm
      rcases hm with rfl | rfl | rfl
      · exact l1
      · exact l2
      · exact l3
    · exact ⟨z, none, hz, rfl, g2.trans g3⟩
  · rintro σ H4 ⟨z, y, hz, rfl, g4⟩
    refine ⟨_, rfl, _, rfl, _, _, rfl, .inl (k1.go g4).now, rfl, flat_res, _, rfl, ?_⟩
    rw [inV_str]
    refine ite2 (fun c => ?_) (fun c => ?_)
    · have hm : z ∈ res := of_decide_eq_true c
      have wx : Wd ("x" : Str) ∧ ("x" : Str).length = 1 := by decide +kernel
      refine ⟨_, rfl, _, _, rfl, rfl, ?_, q _ H4 (g1.trans g4) ⟨⟨hz.wd.app wx.1, ?_, fun h => not_x _ h _ hm rfl⟩, (by rw [len_app, wx.2]; have := hz.len; omega)⟩⟩
      · rw [wx.2]
        exact Nat.le_of_lt (small1000 (by have := hz.len; omega))
      · rw [len_app, wx.2]
        have := hz.len
        omega
    · have hm : z ∉ res := fun h => c (decide_eq_true h)
      exact ⟨_, rfl, q _ H4 (g1.trans g4) ⟨⟨hz.wd, by have := hz.len; omega, hm⟩, by have := hz.len; omega⟩⟩
/-! ### _law_names -/
def spNamesS : Sp := fun vs H Q _ => ∃ (d : Addr) (m : Int), vs = [.ref d, .int m] ∧ Dr H d ∧ 0 ≤ m ∧ m ≤ 100 ∧
  ∀ (n : Addr) (xs : List Str) H', Go d H H' → H n = none → n ≠ d → H' n = some (.lst (xs.map V.str)) → (∀ x ∈ xs, Nas x) → xs.length ≤ m → xs.Nodup → (1 ≤ m → xs ≠ []) → Q (.ref n) H'
theorem gx_law_namesS (T : Txt K mg) : FnOk P w K mg base CX0 4 T.a_law_names T.d_law_names P_law_names spNamesS := by
  have G_law_name := gx_law_nameS (P := P) (w := w) (base := base) T
  refine T.F_law_names.ok sc_law_names (fun vs H Q E h => ?_) (fun cdv A outer s H vs Q E hr h => ?_)
  · obtain ⟨d, m, rfl, _⟩ := h
    rfl
  obtain ⟨d, m, rfl, hD, m0, m1, q⟩ := h
  refine ⟨_, (pss_cons (ps_set (i := 2) sc_law_names.nd rfl (Or.inl rfl) (pe_lst pa_nil))
    (pss_cons (ps_for  PassesOwn.never rfl (pi_range1 (by rfl) T.z_range (pa_cons (pv 1) pa_nil)) (pg_name (i := 3) sc_law_names.nd rfl (Or.inl rfl))
    (pss_cons (ps_set (i := 4) sc_law_names.nd rfl (Or.inl rfl) (pe_call G_law_name (hr.mono (by omega)) (by rfl) T.m_law_name T.F_law_name.kp T.b_law_name .nil pass0 (pa_cons (pv 0) pa_nil)))
    (pss_one (ps_if (pt_cmpR op_notIn_seq (pv 4) (pv 2) (by rfl))
    (pss_one (ps_expr (pe_bm PySem.F.plainAttrs_list PySem.F.slot_list_append PySem.F.type_list_append mt_append (pv 2) (pa_cons (pv 4) pa_nil))))
    pss_nil))))
    (pss_one (ps_ret (pv 2))))), ?_⟩
  refine ⟨(by decide), fun n hn => ?_⟩
  have nd : n ≠ d := by
    rintro rfl
    obtain ⟨ns, hd⟩ := hD
    rw [hn] at hd; cases hd
  refine ⟨_, rfl, m, rfl, by omega, by omega, for_range (lo := 0) (n := m.toNat) (fun j σ H' => ∃ (xs : List Str) (y z : Option V), σ = [some (.ref d), some (.int m), some (.ref n), y, z] ∧ Go d H H' ∧ H' n = some (.lst (xs.map V.str)) ∧ (∀ x ∈ xs, Nas x) ∧ xs.length ≤ j ∧ xs.Nodup ∧ (0 < j → xs ≠ [])) ?_ ?_ ?_⟩
  · exact ⟨[], none, none, rfl, .new hD hn, upd_same, (fun x h => by cases h), Nat.le_refl _, List.nodup_nil, fun h => absurd h (by decide)⟩
  · rintro j σ H' hj ⟨xs, y, z, rfl, g, e, hx, hl, hnd, hne⟩
    refine ⟨_, rfl, d, rfl, g.dr, fun nm H2 g2 hnm => ?_⟩
    have e2 := g2.fr n _ nd e
    refine ⟨_, rfl, _, rfl, _, _, rfl, .inl (sqd e2), rfl, flat_strs' xs, _, rfl, ?_⟩
    rw [inV_str]
    refine ite2 (fun c => ?_) (fun c => ?_)
    · have hm : nm ∉ xs := fun h => by
        have c' : (!decide (nm ∈ xs)) = true := c
        rw [decide_eq_true h] at c'
        cases c'
      refine ⟨_, rfl, .inl ⟨rfl, _, sqd e2⟩, _, rfl, n, _, _, rfl, rfl, e2, ?_, ?_⟩
      · rw [List.length_map]
        exact small1000 (by omega)
      · refine ⟨xs ++ [nm], _, _, rfl, ?_, ?_, ?_, ?_, ?_, fun _ => by simp⟩
        · have g3 := g.trans g2
          refine ⟨fun b o hb eb => ?_, ?_⟩
          · rw [upd_ne (ne_of_none eb hn)]
            exact g3.fr b o hb eb
          · obtain ⟨ns, hd⟩ := g3.dr
            exact ⟨ns, by rw [upd_ne nd.symm]; exact hd⟩
        · rw [upd_same, List.map_append]
          rfl
        · intro x h
          rcases List.mem_append.mp h with h | h
          · exact hx x h
          · rw [List.mem_singleton.mp h]
            exact hnm
        · rw [List.length_append, List.length_singleton]
          omega
        · exact List.nodup_append.mpr ⟨hnd, List.nodup_cons.mpr ⟨List.not_mem_nil, List.nodup_nil⟩, fun a ha b hb => by
            rw [List.mem_singleton.mp hb]
            rintro rfl
            exact hm ha⟩
    · refine ⟨xs, _, _, rfl, g.trans g2, e2, hx, by omega, hnd, fun _ h => ?_⟩
      rw [h] at c
      exact c rfl
  · rintro σ H' ⟨xs, y, z, rfl, g, e, hx, hl, hnd, hne⟩
    exact ⟨_, rfl, q n xs H' g hn nd e hx (by omega) hnd fun h => hne (by omega)⟩
end
end NL

namespace NL
open PySem PySem.Spec PyProof.Rows L2
/-! ### the plant that is drawn, with what is wanted to read it back -/
theorem strs_inj : ∀ {l m : List Str}, l.map V.str = m.map V.str → l = m
  | [], [], _ => rfl
  | [], _ :: _, h => by cases h
  | _ :: _, [], h => by cases h
  | a :: l, b :: m, h => by
    rw [List.map_cons, List.map_cons] at h
    injection h with h1 h2
    injection h1 with h1
    rw [h1, strs_inj h2]
theorem sIx_up {n : Nat} {k : Int} (h : 0 ≤ k) (d : Nat) : HT.sIx n d (some k) = min k.toNat n := by
  show (if k < 0 then (k + (n : Int)).toNat else min k.toNat n) = _
  rw [if_neg (by omega)]
theorem take_min {α : Type} (l : List α) (k : Nat) : l.take (min k l.length) = l.take k := by
  rcases Nat.le_total k l.length with h | h
  · rw [Nat.min_eq_left h]
  · rw [Nat.min_eq_right h, List.take_length, List.take_of_length_le h]
theorem drop_min {α : Type} (l : List α) (k : Nat) : l.drop (min k l.length) = l.drop k := by
  rcases Nat.le_total k l.length with h | h
  · rw [Nat.min_eq_left h]
  · rw [Nat.min_eq_right h, List.drop_length, List.drop_of_length_le h]
theorem pl_lo {xs ys : List Str} {k : Int} (h : 0 ≤ k) (e : cutV (xs.map V.str) none (some k) = ys.map V.str) : ys = xs.take k.toNat := by
  refine strs_inj ?_
  rw [← e]
  unfold cutV
  rw [sIx_up h, HT.sIx_none, List.drop_zero, Nat.sub_zero, take_min, List.map_take]
theorem pl_hi {xs ys : List Str} {k : Int} (h : 0 ≤ k) (e : cutV (xs.map V.str) (some k) none = ys.map V.str) : ys = xs.drop k.toNat := by
  refine strs_inj ?_
  rw [← e]
  unfold cutV
  rw [sIx_up h, HT.sIx_none, drop_min, List.take_of_length_le (by rw [List.length_drop]; omega), List.map_drop]
theorem pl_mid {xs ys : List Str} {k m : Int} (h : 0 ≤ k) (hm : 0 ≤ m) (e : cutV (xs.map V.str) (some k) (some m) = ys.map V.str) : ys = (xs.take m.toNat).drop k.toNat := by
  refine strs_inj ?_
  rw [← e]
  unfold cutV
  rw [sIx_up h, sIx_up hm, ← List.drop_take, take_min, List.drop_take, List.map_drop, List.map_take, List.drop_take]
  rcases Nat.le_total k.toNat (xs.map V.str).length with g | g
  · rw [Nat.min_eq_left g]
  · rw [Nat.min_eq_right g, List.drop_length, List.take_nil, List.drop_of_length_le g, List.take_nil]
theorem cuts {α : Type} (xs : List α) {a b : Nat} (h : a ≤ b) : xs.take a ++ (xs.take b).drop a = xs.take b := by
  rw [List.drop_take, ← List.take_add, Nat.add_sub_cancel' h]
structure PlD (p : Pl) (xs : List Str) (B : Nat) : Prop where
  nm : xs = (p.vs ++ p.ins ++ p.ns).map (·.1)
  nd : xs.Nodup
  sh : ∀ x ∈ xs, x.length ≤ 151
  few : xs.length ≤ 16
  al : Okx ((p.vs ++ p.ins).map (·.1)) B true p.al
section
variable {P : Program} {w : World} {K : PySem.W.Frag} {mg : Str → Option Value} {base : Heap}
/-! ### _law_plant -/
def spPlant2 (K : PySem.W.Frag) (B : Nat) : Sp := fun vs H Q _ => ∃ (d rp : Addr) (c : Int) (ra rb rc : Int), vs = [.ref d, .int c, .ref rp] ∧ Dr H d ∧ Keep K d H rp ([ra, rb, rc].map V.int) ∧ (1 ≤ ra ∧ ra ≤ 1000) ∧ (1 ≤ rb ∧ rb ≤ 1000) ∧ (1 ≤ rc ∧ rc ≤ 1000) ∧ c.natAbs + 6 ≤ big60 ∧
  ∀ v p xs H', Go d H H' → PlIn H' p v → PlG p xs B → PlD p xs B → Q v H'
theorem gx_law_plantD {B : Nat} (hB : big60 ≤ B + 2) (T : Txt K mg) : FnOk P w K mg base CX0 16 T.a_law_plant T.d_law_plant P_law_plant (spPlant2 K B) := by
  have q60 : big60 = 1000000000000000000000000000000000000000000000000000000000000 := rfl
  have hB1 : 100 ≤ B := by omega
  have G_law_take := ok_law_take (P := P) (w := w) (base := base) T
  have G_law_names := gx_law_namesS (P := P) (w := w) (base := base) T
  have G_law_ranges := ok_law_ranges (P := P) (w := w) (base := base) T
  have G_law_step := ok_law_step (P := P) (w := w) (base := base) hB T
  obtain ⟨_, G_law_test⟩ := ok_ET (P := P) (w := w) (base := base) hB1 T 3
  refine T.F_law_plant.ok sc_law_plant (fun vs H Q E h => ?_) (fun cdv A outer s H vs Q E hr h => ?_)
  · obtain ⟨d, rp, c, ra, rb, rc, rfl, _⟩ := h
    rfl
  obtain ⟨d, rp, c, ra, rb, rc, rfl, hD, hkr, hra, hrb, hrc, hc, q⟩ := h
  refine ⟨_, (pss_cons (ps_set (i := 3) sc_law_plant.nd rfl (Or.inl rfl) (pe_lst (pa_cons (pe_op op_add pe_int (pe_call G_law_take (hr.mono (by omega)) (by rfl) T.m_law_take T.F_law_take.kp T.b_law_take .nil pass0 (pa_cons (pv 0) (pa_cons pe_int pa_nil)))) (pa_cons (pe_call G_law_take (hr.mono (by omega)) (by rfl) T.m_law_take T.F_law_take.kp T.b_law_take .nil pass0 (pa_cons (pv 0) (pa_cons pe_int pa_nil))) (pa_cons (pe_call G_law_take (hr.mono (by omega)) (by rfl) T.m_law_take T.F_law_take.kp T.b_law_take .nil pass0 (pa_cons (pv 0) (pa_cons pe_int pa_nil))) pa_nil)))))
    (C8.pss_cut (ps_if (pt_cmpR op_eq (pe_call G_law_take (hr.mono (by omega)) (by rfl) T.m_law_take T.F_law_take.kp T.b_law_take .nil pass0 (pa_cons (pv 0) (pa_cons pe_int pa_nil))) pe_int (nomark _))
    (pss_one (ps_set (i := 3) sc_law_plant.nd rfl (Or.inl rfl) (pe_lst (pa_cons pe_int (pa_cons pe_int (pa_cons pe_int pa_nil))))))
    pss_nil)
    (pss_cons (ps_set (i := 4) sc_law_plant.nd rfl (Or.inr rfl) (pe_call G_law_names (hr.mono (by omega)) (by rfl) T.m_law_names T.F_law_names.kp T.b_law_names .nil pass0 (pa_cons (pv 0) (pa_cons (pe_op op_add (pe_op op_add (pe_ix ix_list (pv 3) pe_int (fun _ _ => rfl)) (pe_ix ix_list (pv 3) pe_int (fun _ _ => rfl))) (pe_ix ix_list (pv 3) pe_int (fun _ _ => rfl))) pa_nil))))
    (pss_cons (ps_set (i := 5) sc_law_plant.nd rfl (Or.inl rfl) (pe_call G_law_ranges (hr.mono (by omega)) (by rfl) T.m_law_ranges T.F_law_ranges.kp T.b_law_ranges .nil pass0 (pa_cons (pv 0) (pa_cons (pe_slice sl_list (pv 4) po_none (po_some (pe_ix ix_list (pv 3) pe_int (fun _ _ => rfl)))) (pa_cons (pe_ix ix_list (pv 2) pe_int (fun _ _ => rfl)) (pa_cons (pv 1) pa_nil))))))
    (pss_cons (ps_set (i := 6) sc_law_plant.nd rfl (Or.inl rfl) (pe_call G_law_ranges (hr.mono (by omega)) (by rfl) T.m_law_ranges T.F_law_ranges.kp T.b_law_ranges .nil pass0 (pa_cons (pv 0) (pa_cons (pe_slice sl_list (pv 4) (po_some (pe_ix ix_list (pv 3) pe_int (fun _ _ => rfl))) (po_some (pe_op op_add (pe_ix ix_list (pv 3) pe_int (fun _ _ => rfl)) (pe_ix ix_list (pv 3) pe_int (fun _ _ => rfl))))) (pa_cons (pe_ix ix_list (pv 2) pe_int (fun _ _ => rfl)) (pa_cons (pv 1) pa_nil))))))
    (pss_cons (ps_set (i := 7) sc_law_plant.nd rfl (Or.inl rfl) (pe_call G_law_ranges (hr.mono (by omega)) (by rfl) T.m_law_ranges T.F_law_ranges.kp T.b_law_ranges .nil pass0 (pa_cons (pv 0) (pa_cons (pe_slice sl_list (pv 4) (po_some (pe_op op_add (pe_ix ix_list (pv 3) pe_int (fun _ _ => rfl)) (pe_ix ix_list (pv 3) pe_int (fun _ _ => rfl)))) po_none) (pa_cons (pe_ix ix_list (pv 2) pe_int (fun _ _ => rfl)) (pa_cons (pv 1) pa_nil))))))
    (pss_cons (ps_set (i := 8) sc_law_plant.nd rfl (Or.inl rfl) (pe_op op_add pe_int (pe_callTy call_int1 (by rfl) T.z_int (by decide +kernel) (pa_cons (pe_cmpR op_eq (pe_call G_law_take (hr.mono (by omega)) (by rfl) T.m_law_take T.F_law_take.kp T.b_law_take .nil pass0 (pa_cons (pv 0) (pa_cons pe_int pa_nil))) pe_int (nomark _)) pa_nil))))
    (pss_cons (ps_set (i := 9) sc_law_plant.nd rfl (Or.inl rfl) (pe_lst (pa_cons (pe_call G_law_step (hr.mono (by omega)) (by rfl) T.m_law_step T.F_law_step.kp T.b_law_step .nil pass0 (pa_cons (pv 0) (pa_cons (pe_ix ix_tup (pv 5) pe_int (fun _ _ => rfl)) (pa_cons (pv 4) (pa_cons (pv 1) (pa_cons (pv 8) pa_nil)))))) pa_nil)))
    (pss_cons (ps_set (i := 9) sc_law_plant.nd rfl (Or.inl rfl) (pe_callTy call_tuple_of (by rfl) T.z_tuple (by decide +kernel) (pa_cons (pe_op op_cat (pv 9) (pe_lc (own := [("row", 10)]) (g := (gName 10)) (tt := tYes) rfl sc_law_plant.nd (pi_tup (pe_slice sl_tup (pv 5) (po_some pe_int) po_none)) (blkOk_by (N := N_law_plant) (sc := defScope s_law_plant) (by decide +kernel)) (fun _ _ _ _ _ => (pg_name (i := 10) sc_law_plant.nd rfl (Or.inl rfl))) (fun _ _ _ _ _ => pts_nil) (fun _ _ _ _ _ => (pe_call G_law_step (hr.mono (by omega)) (by rfl) T.m_law_step T.F_law_step.kp T.b_law_step .nil pass0 (pa_cons (pv 0) (pa_cons (pv 10) (pa_cons (pv 4) (pa_cons (pv 1) (pa_cons pe_int pa_nil))))))))) pa_nil)))
    (pss_cons (ps_set (i := 11) sc_law_plant.nd rfl (Or.inl rfl) (pe_tup (pa_cons pe_str pa_nil)))
    (C8.pss_cut (ps_if (pt_cmpR op_eq (pe_call G_law_take (hr.mono (by omega)) (by rfl) T.m_law_take T.F_law_take.kp T.b_law_take .nil pass0 (pa_cons (pv 0) (pa_cons pe_int pa_nil))) pe_int (nomark _))
    (pss_one (ps_set (i := 11) sc_law_plant.nd rfl (Or.inl rfl) (pe_call G_law_test (hr.mono (by omega)) (by rfl) T.m_law_test T.F_law_test.kp T.b_law_test .nil pass0 (pa_cons (pv 0) (pa_cons (pe_slice sl_list (pv 4) po_none (po_some (pe_op op_add (pe_ix ix_list (pv 3) pe_int (fun _ _ => rfl)) (pe_ix ix_list (pv 3) pe_int (fun _ _ => rfl))))) (pa_cons (pv 1) (pa_cons (pv 8) pa_nil)))))))
    pss_nil)
    (pss_one (ps_ret (pe_tup (pa_cons (pv 5) (pa_cons (pv 6) (pa_cons (pv 7) (pa_cons (pv 9) (pa_cons (pv 11) pa_nil))))))))))))))))))), ?_⟩
  -- counts
  refine ⟨_, rfl, d, _, rfl, hD, (by decide), fun c0 H1 g1 c00 c01 => ?_⟩
  refine ⟨_, _, rfl, rfl, _, rfl, d, _, rfl, g1.dr, (by decide), fun c1 H2 g2 c10 c11 => ?_⟩
  refine ⟨_, rfl, d, _, rfl, g2.dr, (by decide), fun c2 H3 g3 c20 c21 => ?_⟩
  refine ⟨(Nat.le_of_ble_eq_true rfl), fun cp hcp => ?_⟩
  have gc := fun o => Go.new (o := o) g3.dr hcp
  have ncd := new_ne g3.dr hcp
  refine ⟨fun σ H4 => ∃ (cp : Addr) (a b e : Int), σ = [some (.ref d), some (.int c), some (.ref rp), some (.ref cp), none, none, none, none, none, none, none, none] ∧ Go d H H4 ∧ cp ≠ d ∧ H4 cp = some (.lst [.int a, .int b, .int e]) ∧ (1 ≤ a ∧ a ≤ 8) ∧ (0 ≤ b ∧ b ≤ 4) ∧ (0 ≤ e ∧ e ≤ 4), ?_, ?_⟩
  · refine ⟨_, rfl, d, _, rfl, (gc _).dr, (by decide), fun u H5 g5 u0 u1 => ?_⟩
    refine ⟨rfl, _, rfl, ?_⟩
    have g15 := g1.trans (g2.trans (g3.trans ((gc _).trans g5)))
    refine ite2 (fun z => ?_) (fun z => ?_)
    · refine ⟨(Nat.le_of_ble_eq_true rfl), fun cp2 hcp2 => ?_⟩
      exact ⟨cp2, 8, 4, 4, rfl, g15.trans (.new g5.dr hcp2), new_ne g5.dr hcp2, upd_same, by decide, by decide, by decide⟩
    · exact ⟨cp, 1 + c0, c1, c2, rfl, g15, ncd, g5.at g3.dr hcp, by omega, by omega, by omega⟩
  rintro σ4 H4 ⟨cp, ca, cb, ce, rfl, g4, ncp, ecp, hca, hcb, hce⟩
  have kc : Keep K d H4 cp [.int ca, .int cb, .int ce] := .of ncp ecp
  -- names
  refine ⟨_, rfl, _, rfl, _, _, _, _, rfl, rfl, kc.now, atI0, _, rfl, _, _, _, _, rfl, rfl, kc.now, atI1, _, _, rfl, rfl, _, rfl, _, _, _, _, rfl, rfl, kc.now, atI2, _, _, rfl, rfl, d, _, rfl, g4.dr, (by omega), (by omega), fun n xs H5 g5 hn nnd en hxS hxl hnod hxne => ?_⟩
  have hx : ∀ x ∈ xs, Nam x := fun x h => (hxS x h).n
  have hxne' := hxne (by omega)
  have kn : Keep K d H5 n (xs.map V.str) := .of nnd en
  have kc5 := kc.go g5
  -- variables
  refine ⟨_, rfl, _, rfl, _, rfl, _, _, _, _, rfl, rfl, kc5.now, atI0, _, rfl, _, _, rfl, kn.now, fun p1 hp1 => ?_⟩
  have g6 := fun o => Go.new (o := o) g5.dr hp1
  obtain ⟨ys1, ec1, hs1, hl1, hne1⟩ := cut_map xs none (some ca)
  have hne1' := hne1 ca rfl rfl hca.1 hxne'
  have kr6 := fun o => (hkr.go g4).go (g5.trans (g6 o))
  refine ⟨_, rfl, _, _, _, _, rfl, rfl, (kr6 _).now, atI0, _, rfl, d, p1, ys1, ra, c, rfl, (g6 _).dr, .of (new_ne g5.dr hp1) (by rw [upd_same]; exact congrArg (fun z => some (HO.lst z)) ec1), hra.1, hra.2, hc, by omega, fun v1 rows1 H7 g7 hr1 hrn1 hrb1 => ?_⟩
  have g57 := (g6 _).trans g7
  -- inputs
  have kc7 := kc5.go g57
  refine ⟨_, rfl, _, rfl, _, rfl, _, _, _, _, rfl, rfl, kc7.now, atI0, _, rfl, _, rfl, _, _, _, _, rfl, rfl, kc7.now, atI0, _, rfl, _, _, _, _, rfl, rfl, kc7.now, atI1, _, _, rfl, rfl, _, rfl, _, _, rfl, (kn.go g57).now, fun p2 hp2 => ?_⟩
  have g8 := fun o => Go.new (o := o) g7.dr hp2
  obtain ⟨ys2, ec2, hs2, hl2, _⟩ := cut_map xs (some ca) (some (ca + cb))
  have kr8 := fun o => (kr6 _).go (g7.trans (g8 o))
  refine ⟨_, rfl, _, _, _, _, rfl, rfl, (kr8 _).now, atI1, _, rfl, d, p2, ys2, rb, c, rfl, (g8 _).dr, .of (new_ne g7.dr hp2) (by rw [upd_same]; exact congrArg (fun z => some (HO.lst z)) ec2), hrb.1, hrb.2, hc, by omega, fun v2 rows2 H9 g9 hr2 hrn2 hrb2 => ?_⟩
  have g79 := (g8 _).trans g9
  -- noises
  have kc9 := kc7.go g79
  have kn9 := (kn.go g57).go g79
  refine ⟨_, rfl, _, rfl, _, rfl, _, _, _, _, rfl, rfl, kc9.now, atI0, _, rfl, _, _, _, _, rfl, rfl, kc9.now, atI1, _, _, rfl, rfl, _, rfl, _, _, rfl, kn9.now, fun p3 hp3 => ?_⟩
  have gA := fun o => Go.new (o := o) g9.dr hp3
  obtain ⟨ys3, ec3, hs3, hl3, _⟩ := cut_map xs (some (ca + cb)) none
  have krA := fun o => (kr8 _).go (g9.trans (gA o))
  refine ⟨_, rfl, _, _, _, _, rfl, rfl, (krA _).now, atI2, _, rfl, d, p3, ys3, rc, c, rfl, (gA _).dr, .of (new_ne g9.dr hp3) (by rw [upd_same]; exact congrArg (fun z => some (HO.lst z)) ec3), hrc.1, hrc.2, hc, by omega, fun v3 rows3 HB gB hr3 hrn3 hrb3 => ?_⟩
  have g9B := (gA _).trans gB
  have vs1 := rows_sub hrn1 hs1 hrb1
  have vs2 := rows_sub hrn2 hs2 hrb2
  have vs3 := rows_sub hrn3 hs3 hrb3
  have hln1 := congrArg List.length hrn1
  have hln2 := congrArg List.length hrn2
  have hln3 := congrArg List.length hrn3
  rw [List.length_map] at hln1 hln2 hln3
  have q1 := pl_lo (by omega) ec1
  have q2 := pl_mid (by omega) (by omega) ec2
  have q3 := pl_hi (by omega) ec3
  have q12 : (rows1 ++ rows2).map (·.1) = xs.take (ca + cb).toNat := by
    rw [List.map_append, hrn1, hrn2, q1, q2, cuts xs (by omega)]
  have q123 : xs = (rows1 ++ rows2 ++ rows3).map (·.1) := by
    rw [List.map_append, q12, hrn3, q3, List.take_append_drop]
  -- deep
  refine ⟨_, rfl, d, _, rfl, gB.dr, (by decide), fun dp HC gC dp0 dp1 => ?_⟩
  refine ⟨rfl, .inr ⟨_, rfl, _, _, rfl, rfl, ?_⟩⟩
  have hdeep2 : ((1 : Int) + (if decide (V.int dp = V.int 0) = true then (1 : Int) else 0)) ≤ 2 := by split <;> decide
  -- steps
  obtain ⟨tp, rx, rfl, etp, hrs⟩ := hr1
  have g7C := g79.trans (g9B.trans gC)
  have etC := g7C.tup g7.dr etp
  have hrC := hrs.mono (g7C.tp g7.dr)
  cases hrow : rows1 with
  | nil => exact absurd (by rw [← hrn1, hrow]; rfl) hne1'
  | cons r0 rr =>
  cases hrxx : rx with
  | nil => rw [hrxx, hrow] at hrs; exact absurd hrs.1 (by simp)
  | cons x0 xr =>
  have hx0 : RowIn HC r0 x0 := hrC.2 0 r0 x0 (by rw [hrow]; rfl) (by rw [hrxx]; rfl)
  have hrest : RowsAt HC rr xr := by
    refine ⟨?_, fun k r x e f => hrC.2 (k + 1) r x (by rw [hrow]; simpa using e) (by rw [hrxx]; simpa using f)⟩
    have := hrC.1
    rw [hrow, hrxx] at this
    simpa using this
  have hv0 := vs1 r0 (by rw [hrow]; exact List.mem_cons_self)
  have hvr : ∀ r ∈ rr, Rb r ∧ r.1 ∈ xs := fun r hr => vs1 r (by rw [hrow]; exact List.mem_cons_of_mem _ hr)
  have knC := kn9.go (g9B.trans gC)
  rw [hrxx] at etC
  refine ⟨_, rfl, _, rfl, tp, _, _, _, rfl, rfl, sqt etC, atI0, _, rfl, _, rfl, _, rfl, d, n, x0, r0, xs, c, ((1 : Int) + (if decide (V.int dp = V.int 0) = true then (1 : Int) else 0)), rfl, gC.dr, hx0, hv0.1, hv0.2, knC, by omega, hdeep2, fun sv0 i0 HD gD hi0 ho0 hd0 hs0 => ?_⟩
  refine ⟨(Nat.le_of_ble_eq_true rfl), fun sp hsp => ?_⟩
  have gE := fun o => Go.new (o := o) gD.dr hsp
  have gCE := fun o => gD.trans (gE o)
  refine ⟨_, rfl, _, rfl, 1, rfl, tp, _, rfl, sqt ((gCE _).tup gC.dr etC), not_whole _ _ _, fun tp2 htp2 => ?_⟩
  have gF := fun o => Go.new (o := o) (gE _).dr htp2
  have gCF := fun o => (gCE _).trans (gF o)
  refine ⟨tp2, rfl, ⟨_, sqt upd_same⟩, fun D hDn => ?_⟩
  have nDd := new_ne (gF _).dr hDn
  have gG := fun o => Go.new (o := o) (gF _).dr hDn
  refine lc_tup (K := K) (a := tp2) (xs := cutV (x0 :: xr) (some 1) none) (fun (j : Nat) (H' : Hp) => ∃ (l : List It) (lv : List V), Go d (upd (upd HD sp (.lst [sv0])) tp2 (.tup (cutV (x0 :: xr) (some 1) none))) H' ∧ H' D = some (.lst lv) ∧ Kids H' l lv ∧ l.length = j ∧ ∀ i ∈ l, Okx xs B false i ∧ i.dep ≤ 8 ∧ i.sz ≤ 50) ?_ ?_ ?_ ?_
  · exact ⟨[], [], gG _, upd_same, kids0, rfl, fun i h => by cases h⟩
  · rintro j H' _ ⟨l, lv, g, _⟩
    exact sqt (g.tup (gF _).dr upd_same)
  · rintro j x H' hx ⟨l, lv, g, eD, hks, hll, hok⟩
    rw [cut_tail] at hx
    obtain ⟨r, hr1', hri, hrm⟩ := hrest.get hx
    have gCg := (gCF _).trans g
    refine ⟨rfl, yes_if ?_⟩
    refine ⟨_, rfl, _, rfl, _, rfl, _, rfl, d, n, x, r, xs, c, 1, rfl, g.dr, hri.mono (gCg.tp gC.dr), (hvr r hrm).1, (hvr r hrm).2, knC.go gCg, by omega, by decide, fun v i H4 g4' hi hio hid his => ?_⟩
    have e4 := g4'.fr D _ nDd eD
    have t4 := fun o => tp_put (o := o) e4
    refine ⟨lv, e4, ?_, l ++ [i], lv ++ [v], (g.trans g4').put2 hDn nDd, upd_same, ?_, ?_, ?_⟩
    · rw [hks.1, hll]
      have := (List.getElem?_eq_some_iff.mp hr1').1
      have h1 := congrArg List.length hrow
      rw [List.length_cons] at h1
      exact small1000 (by omega)
    · exact ((hks.mono (g4'.tp g.dr)).mono (t4 _)).snoc (hi.mono (t4 _))
    · rw [List.length_append, hll] <;> rfl
    · intro z hz
      rcases List.mem_append.mp hz with h | h
      · exact hok z h
      · rw [List.mem_singleton.mp h]; exact ⟨hio, hid, his⟩
  · rintro HI ⟨l, lv, g, eD, hks, hll, hok⟩
    rw [cut_tail, hrest.1] at hll
    have gEg := (gF _).trans g
    have nsd := new_ne gD.dr hsp
    have esp := gEg.fr sp _ nsd upd_same
    have hxl16 : xs.length ≤ 16 := by omega
    have h1 := congrArg List.length hrow
    rw [List.length_cons] at h1
    refine ⟨sp, D, _, _, rfl, rfl, esp, eD, ?_, fun sp2 hsp2 => ?_⟩
    · rw [hks.1, hll, List.length_singleton]
      exact big (by omega)
    have gJ := fun o => Go.new (o := o) g.dr hsp2
    refine ⟨sp2, _, rfl, .inl ⟨sqd upd_same, fun stp hstp => ?_⟩⟩
    have gK := fun o => Go.new (o := o) (gJ _).dr hstp
    have gIK := fun o => (gJ _).trans (gK o)
    have hkall : Kids HI (i0 :: l) (sv0 :: lv) := .cons (hi0.go ((gE _).trans gEg) gD.dr) hks
    -- allowed
    refine ⟨(Nat.le_of_ble_eq_true rfl), fun ap hap => ?_⟩
    have gL := fun o => Go.new (o := o) (gK _).dr hap
    have gIL := fun o => (gIK _).trans (gL o)
    have gCI := (gCF _).trans g
    have hpg : ∀ al, Okx xs B true al → al.dep ≤ 6 → al.sz ≤ 223 → PlG ⟨rows1, rows2, rows3, i0 :: l, al⟩ xs B := fun al ho hd hs =>
      ⟨hx, vs1, vs2, vs3, fun i hi => by
        rcases List.mem_cons.mp hi with h | h
        · rw [h]; exact ⟨ho0, hd0, hs0⟩
        · exact hok i h, ⟨ho, hd, hs⟩, ⟨by show rows1.length ≤ 16; omega, by show rows2.length ≤ 16; omega, by show rows3.length ≤ 16; omega⟩, by show (i0 :: l).length = rows1.length; rw [hrow, List.length_cons, List.length_cons, hll], by show rows1 ≠ []; rw [hrow]; simp⟩
    refine ⟨fun σ HM => ∃ (y : Option V) (av : V) (al : It), σ = [some (.ref d), some (.int c), some (.ref rp), some (.ref cp), some (.ref n), some (.ref tp), some v2, some v3, some (.int ((1 : Int) + (if decide (V.int dp = V.int 0) = true then (1 : Int) else 0))), some (.ref stp), y, some av] ∧ Go d (upd (upd HI sp2 (.lst ([sv0] ++ lv))) stp (.tup ([sv0] ++ lv))) HM ∧ ItemIn HM al av ∧ Okx xs B true al ∧ Okx ((rows1 ++ rows2).map (·.1)) B true al ∧ al.dep ≤ 6 ∧ al.sz ≤ 223, ?_, ?_⟩
    · refine ⟨_, rfl, d, _, rfl, (gL _).dr, (by decide), fun u HM gM u0 u1 => ?_⟩
      refine ⟨rfl, _, rfl, ?_⟩
      have hlit : ItemIn HM (.lit true) (.ref ap) := (ItemIn.lit (b := true) upd_same).go gM (gL _).dr
      refine ite2 (fun z => ?_) (fun z => ?_)
      · have kcM := ((kc9.go (g9B.trans gC)).go gCI).go ((gIL _).trans gM)
        have knM := (knC.go gCI).go ((gIL _).trans gM)
        refine ⟨_, rfl, _, rfl, _, rfl, _, _, _, _, rfl, rfl, kcM.now, atI0, _, rfl, _, _, _, _, rfl, rfl, kcM.now, atI1, _, _, rfl, rfl, _, rfl, _, _, rfl, knM.now, fun p5 hp5 => ?_⟩
        have gN := fun o => Go.new (o := o) gM.dr hp5
        obtain ⟨ys5, ec5, hs5, hl5, _⟩ := cut_map xs none (some (ca + cb))
        refine ⟨_, rfl, _, rfl, d, p5, ys5, c, ((1 : Int) + (if decide (V.int dp = V.int 0) = true then (1 : Int) else 0)), rfl, (gN _).dr, .of (new_ne gM.dr hp5) (by rw [upd_same]; exact congrArg (fun z => some (HO.lst z)) ec5), by omega, hdeep2, fun av al HO gO hal hao had has => ?_⟩
        exact ⟨none, av, al, rfl, (gL _).trans (gM.trans ((gN _).trans gO)), hal, okx_mono hs5 hao, okx_mono (fun y hy => by rw [q12, ← pl_lo (by omega) ec5]; exact hy) hao, had, has⟩
      · exact ⟨none, _, .lit true, rfl, (gL _).trans gM, hlit, .lit, .lit, by rw [It.dep]; decide, by rw [It.sz]; decide⟩
    · rintro σM HM ⟨y, av, al, rfl, gM, hal, hao, hao2, had, has⟩
      refine ⟨_, rfl, _, rfl, _, rfl, _, rfl, _, rfl, (Nat.le_of_ble_eq_true rfl), fun pp hpp => ?_⟩
      have gP := fun o => Go.new (o := o) gM.dr hpp
      have gIP := fun o => (gIK _).trans (gM.trans (gP o))
      have gCP := fun o => gCI.trans (gIP o)
      have gBP := fun o => gC.trans (gCP o)
      refine q _ ⟨rows1, rows2, rows3, i0 :: l, al⟩ xs _ (g4.trans (g5.trans (g57.trans (g79.trans (g9B.trans (gBP _)))))) ⟨pp, _, _, _, _, stp, _, rfl, upd_same, ?_, ?_, ?_, ((gP _).tup gM.dr (gM.tup (gK _).dr upd_same)), hkall.mono ((gIP _).tp g.dr), hal.go (gP _) gM.dr⟩ (hpg al hao had has) ⟨q123, hnod, fun x h => (hxS x h).sh, hxl16, hao2⟩
      · exact (show RowsIn H7 rows1 (.ref tp) from ⟨tp, _, rfl, etp, hrs⟩).mono ((g79.trans (g9B.trans (gBP _))).tp g7.dr)
      · exact hr2.mono ((g9B.trans (gBP _)).tp g9.dr)
      · exact hr3.mono ((gBP _).tp gB.dr)
end
end NL

namespace NL
open PySem PySem.Spec PyProof.Rows L2
theorem rb_rw {r : Row} {xs : List Str} (hx : ∀ x ∈ xs, Nam x) (h : Rb r ∧ r.1 ∈ xs) : Rw r := by
  have q60 : big60 = 1000000000000000000000000000000000000000000000000000000000000 := rfl
  have e : (10 : Nat) ^ 61 = 10000000000000000000000000000000000000000000000000000000000000 := by decide
  have h1 := h.1.le
  have h2 := h.1.wd
  have h3 := h.1.bd
  exact ⟨(hx _ h.2).nw, by rw [e]; omega, by rw [e]; omega⟩
theorem ok1_of {xs : List Str} {b : Bool} {i : It} (hx : ∀ x ∈ xs, Nam x) (ho : Okx xs big60 b i) (hd : i.dep ≤ 12) (hs : i.sz ≤ 300) : Ok1 i :=
  ⟨xs, big60, b, ⟨ho, fun x h => (hx x h).nw, by rw [big60_eq]; exact Nat.lt_succ_self _, hd, by omega⟩, hs⟩
theorem PlG.ok {p : Pl} {xs : List Str} (h : PlG p xs big60) : PlOk p where
  v := fun r hr => rb_rw h.nm (h.v r hr)
  i := fun r hr => rb_rw h.nm (h.i r hr)
  n := fun r hr => rb_rw h.nm (h.n r hr)
  s := fun i hi => ok1_of h.nm (h.s i hi).1 (by have := (h.s i hi).2.1; omega) (by have := (h.s i hi).2.2; omega)
  a := ok1_of h.nm h.a.1 (by have := h.a.2.1; omega) (by have := h.a.2.2; omega)
  lv := by have := h.lv; omega
  ls := h.ls
  ne := h.ne
/-- tuple + tuple, whichever may be empty -/
theorem catA_of {K : PySem.W.Frag} {a b : Addr} {xs ys : List V} {H : Hp} {Q : VK} (ha : H a = some (.tup xs)) (hb : H b = some (.tup ys)) (hl : xs.length + ys.length ≤ 1000) (q : ∀ p H', Same H H' → H' p = some (.tup (xs ++ ys)) → Q (.ref p) H') : rCatA K (.ref a) (.ref b) H Q := by
  refine ⟨a, b, xs, ys, rfl, rfl, sqt ha, sqt hb, Nat.le_of_lt (small1000 hl), fun h => ?_, fun _ h => ?_, fun _ _ p hp => ?_⟩
  · exact q b H (Same.refl H) (by rw [h, List.nil_append]; exact hb)
  · exact q a H (Same.refl H) (by rw [h, List.append_nil]; exact ha)
  · exact q p _ (same_new hp _) upd_same
theorem RowsAt.take {H : Hp} {l : List Row} {vs : List V} (h : RowsAt H l vs) (n : Nat) : RowsAt H (l.take n) (vs.take n) := by
  refine ⟨by rw [List.length_take, List.length_take, h.1], fun k r x e f => ?_⟩
  rw [List.getElem?_take] at e f
  by_cases hk : k < n
  · rw [if_pos hk] at e f
    exact h.2 k r x e f
  · rw [if_neg hk] at e
    cases e
theorem RowsAt.drop {H : Hp} {l : List Row} {vs : List V} (h : RowsAt H l vs) (n : Nat) : RowsAt H (l.drop n) (vs.drop n) := by
  refine ⟨by rw [List.length_drop, List.length_drop, h.1], fun k r x e f => ?_⟩
  rw [List.getElem?_drop] at e f
  exact h.2 _ r x e f
theorem rows1 {H : Hp} {r : Row} {x : V} (h : RowIn H r x) : RowsAt H [r] [x] := RowsAt.snoc rows0 h
theorem cut_to {xs : List V} {k : Int} (h0 : 0 ≤ k) (h1 : k < xs.length) : cutV xs none (some k) = xs.take k.toNat ∧ ¬ (HT.sIx xs.length 0 none = 0 ∧ HT.sIx xs.length xs.length (some k) = xs.length) := by
  have e : HT.sIx xs.length xs.length (some k) = min k.toNat xs.length := by
    show (if k < 0 then (k + (xs.length : Int)).toNat else min k.toNat xs.length) = _
    rw [if_neg (by omega)]
  constructor
  · unfold cutV
    rw [HT.sIx_none, e, List.drop_zero, Nat.sub_zero]
    congr 1
    omega
  · rw [e]
    omega
theorem cut_from {xs : List V} {k : Int} (h0 : 0 ≤ k) (h1 : k < xs.length) : cutV xs (some (k + 1)) none = xs.drop (k.toNat + 1) ∧ ¬ (HT.sIx xs.length 0 (some (k + 1)) = 0 ∧ HT.sIx xs.length xs.length none = xs.length) := by
  have e : HT.sIx xs.length 0 (some (k + 1)) = k.toNat + 1 := by
    show (if k + 1 < 0 then (k + 1 + (xs.length : Int)).toNat else min (k + 1).toNat xs.length) = _
    rw [if_neg (by omega)]
    omega
  constructor
  · unfold cutV
    rw [HT.sIx_none, e]
    refine List.take_of_length_le ?_
    rw [List.length_drop]
    omega
  · rw [e]
    omega
section
variable {P : Program} {w : World} {K : PySem.W.Frag} {mg : Str → Option Value} {base : Heap}
def spWide : Sp := fun vs H Q _ => ∃ (d : Addr) (v : V) (p : Pl) (xs : List Str) (c : Int), vs = [.ref d, v, .int c] ∧ Dr H d ∧ PlIn H p v ∧ PlG p xs big60 ∧ c.natAbs + 6 ≤ big60 ∧
  ∀ v' p' H', Go d H H' → PlIn H' p' v' → PlOk p' → Q v' H'
theorem ok_law_wide (T : Txt K mg) : FnOk P w K mg base CX0 2 T.a_law_wide T.d_law_wide P_law_wide spWide := by
  have q60 : big60 = 1000000000000000000000000000000000000000000000000000000000000 := rfl
  have G_law_take := ok_law_take (P := P) (w := w) (base := base) T
  refine T.F_law_wide.ok sc_law_wide (fun vs H Q E h => ?_) (fun cdv A outer s H vs Q E hr h => ?_)
  · obtain ⟨d, v, p, xs, c, rfl, _⟩ := h
    rfl
  obtain ⟨d, v, p, xs, c, rfl, hD, hpl, hg, hc, q⟩ := h
  obtain ⟨a, v1, v2, v3, vl, st, sx, rfl, e0, ⟨t1, x1, rfl, et1, hr1⟩, ⟨t2, x2, rfl, et2, hr2⟩, ⟨t3, x3, rfl, et3, hr3⟩, e4, hk, hal⟩ := id hpl
  have hlv := hg.lv
  have hpos : 0 < x1.length := by
    rw [hr1.1]
    exact List.length_pos_iff.mpr hg.ne
  refine ⟨_, (pss_cons (ps_set (i := 3) sc_law_wide.nd rfl (Or.inl rfl) (pe_call G_law_take (hr.mono (by omega)) (by rfl) T.m_law_take T.F_law_take.kp T.b_law_take .nil pass0 (pa_cons (pv 0) (pa_cons (pe_callB call_len_seq (by rfl) T.z_len PySem.boot_len (pa_cons (pe_ix ix_tup (pv 1) pe_int (fun _ _ => rfl)) pa_nil)) pa_nil))))
    (pss_cons (ps_if (pt_cmpR op_gt (pe_call G_law_take (hr.mono (by omega)) (by rfl) T.m_law_take T.F_law_take.kp T.b_law_take .nil pass0 (pa_cons (pv 0) (pa_cons pe_int pa_nil))) pe_int (nomark _))
    (pss_one (ps_ret (pv 1)))
    pss_nil)
    (pss_cons (ps_set (i := 4) sc_law_wide.nd rfl (Or.inl rfl) (pe_ix ix_tup (pe_ix ix_tup (pv 1) pe_int (fun _ _ => rfl)) (pv 3) (fun _ _ => rfl)))
    (pss_cons (ps_set (i := 5) sc_law_wide.nd rfl (Or.inl rfl) (pe_op op_add pe_int (pe_op op_mod (pe_callB (call_abs) (by rfl) T.z_abs (by decide +kernel) (pa_cons (pv 2) pa_nil)) (pe_op op_pow pe_int pe_int))))
    (pss_cons (ps_set (i := 6) sc_law_wide.nd rfl (Or.inl rfl) (pe_tup (pa_cons (pe_ix ix_tup (pv 4) pe_int (fun _ _ => rfl)) (pa_cons (pe_ix ix_tup (pv 4) pe_int (fun _ _ => rfl)) (pa_cons (pe_op op_add (pe_ix ix_tup (pv 4) pe_int (fun _ _ => rfl)) (pv 5)) pa_nil)))))
    (C8.pss_cut (ps_if (pt_cmpR op_gt (pe_ix ix_tup (pv 4) pe_int (fun _ _ => rfl)) pe_int (nomark _))
    (pss_one (ps_set (i := 6) sc_law_wide.nd rfl (Or.inl rfl) (pe_tup (pa_cons (pe_ix ix_tup (pv 4) pe_int (fun _ _ => rfl)) (pa_cons (pe_op op_sub (pe_ix ix_tup (pv 4) pe_int (fun _ _ => rfl)) (pv 5)) (pa_cons (pe_ix ix_tup (pv 4) pe_int (fun _ _ => rfl)) pa_nil))))))
    pss_nil)
    (pss_cons (ps_set (i := 7) sc_law_wide.nd rfl (Or.inr rfl) pe_str)
    (pss_cons (ps_for  PassesOwn.never rfl (pi_tup (pe_op op_catA (pe_op op_catA (pe_ix ix_tup (pv 1) pe_int (fun _ _ => rfl)) (pe_ix ix_tup (pv 1) pe_int (fun _ _ => rfl))) (pe_ix ix_tup (pv 1) pe_int (fun _ _ => rfl)))) (pg_name (i := 8) sc_law_wide.nd rfl (Or.inl rfl))
    (pss_one (ps_if (pt_cmpR op_ge (pe_callB call_len_str (by rfl) T.z_len PySem.boot_len (pa_cons (pe_ix ix_tup (pv 8) pe_int (fun _ _ => rfl)) pa_nil)) (pe_callB call_len_str (by rfl) T.z_len PySem.boot_len (pa_cons (pv 7) pa_nil)) (nomark _))
    (pss_one (ps_set (i := 7) sc_law_wide.nd rfl (Or.inr rfl) (pe_op op_add_str (pe_ix ix_tup (pv 8) pe_int (fun _ _ => rfl)) pe_str)))
    pss_nil)))
    (pss_cons (ps_setLc (i := 9) (own := [("k", 11)]) (g := (gName 11)) (tt := tYes) rfl sc_law_wide.nd rfl rfl (sw_true rfl rfl rfl (by decide +kernel)) (pi_range1 (by rfl) T.z_range (pa_cons pe_int pa_nil)) (blkOk_by (N := N_law_wide) (sc := defScope s_law_wide) (by decide +kernel)) (fun _ _ _ _ _ => (pg_name (i := 11) sc_law_wide.nd rfl (Or.inr rfl))) (fun _ _ _ _ _ => pts_nil) (fun _ _ _ _ _ => (pe_callTy (call_tuple_ofK (K := K) rfl) (by rfl) T.z_tuple (by decide +kernel) (pa_cons (pe_lc (own := [("j", 10)]) (g := (gName 10)) (tt := tYes) rfl sc_law_wide.nd (pi_range2 (by rfl) T.z_range (pa_cons pe_int (pa_cons pe_int pa_nil))) (blkOk_by (by rfl)) (fun _ _ _ _ _ => (pg_name (i := 10) sc_law_wide.nd rfl (Or.inl rfl))) (fun _ _ _ _ _ => pts_nil) (fun _ _ _ _ _ => (pe_tup (pa_cons (pe_op op_add_str (pv 7) (pe_op op_mulS (pe_ix ix_str pe_str (pv 11) (fun _ _ => rfl)) (pv 10))) (pa_cons (pe_un un_neg (pv 10)) (pa_cons (pv 11) pa_nil)))))) pa_nil))))
    (pss_cons (ps_set (i := 12) sc_law_wide.nd rfl (Or.inl rfl) (pe_op op_catA (pe_ix ix_tup (pv 1) pe_int (fun _ _ => rfl)) (pe_callTy call_tuple_of (by rfl) T.z_tuple (by decide +kernel) (pa_cons (pe_lc (own := [("row", 4)]) (g := (gName 4)) (tt := tYes) rfl sc_law_wide.nd (pi_tup (pe_ix ix_list (pv 9) pe_int (fun _ _ => rfl))) (blkOk_by (N := N_law_wide) (sc := defScope s_law_wide) (by decide +kernel)) (fun _ _ _ _ _ => (pg_name (i := 4) sc_law_wide.nd rfl (Or.inl rfl))) (fun _ _ _ _ _ => pts_nil) (fun _ _ _ _ _ => (pe_tup (pa_cons pe_str (pa_cons (pe_ix (ix_tupK (K := K) rfl) (pv 4) pe_int (fun _ _ => rfl)) pa_nil))))) pa_nil))))
    (pss_one (ps_ret (pe_tup (pa_cons (pe_op op_catA (pe_op op_catA (pe_op op_catA (pe_slice sl_tup (pe_ix ix_tup (pv 1) pe_int (fun _ _ => rfl)) po_none (po_some (pv 3))) (pe_tup (pa_cons (pv 6) pa_nil))) (pe_slice sl_tup (pe_ix ix_tup (pv 1) pe_int (fun _ _ => rfl)) (po_some (pe_op op_add (pv 3) pe_int)) po_none)) (pe_ix ix_list (pv 9) pe_int (fun _ _ => rfl))) (pa_cons (pe_op op_catA (pe_ix ix_tup (pv 1) pe_int (fun _ _ => rfl)) (pe_ix ix_list (pv 9) pe_int (fun _ _ => rfl))) (pa_cons (pe_op op_catA (pe_ix ix_tup (pv 1) pe_int (fun _ _ => rfl)) (pe_ix ix_list (pv 9) pe_int (fun _ _ => rfl))) (pa_cons (pv 12) (pa_cons (pe_ix ix_tup (pv 1) pe_int (fun _ _ => rfl)) pa_nil)))))))))))))))))), ?_⟩
  refine ⟨_, rfl, _, rfl, a, _, 0, _, rfl, rfl, sqt e0, atI0, t1, _, rfl, .inr (sqt et1), d, _, rfl, hD, by omega, fun at_ H1 g1 a0 a1 => ?_⟩
  refine ⟨_, rfl, d, _, rfl, g1.dr, (by decide), fun u H2 g2 u0 u1 => ?_⟩
  have g12 := g1.trans g2
  refine ⟨_, _, rfl, rfl, _, rfl, ?_⟩
  refine ite2 (fun z => ?_) (fun z => ?_)
  · exact ⟨_, rfl, q _ p H2 g12 (hpl.mono (g12.tp hD)) hg.ok⟩
  have f0 := g12.tup hD e0
  have f1 := g12.tup hD et1
  -- row
  have ha : at_.toNat < x1.length := by omega
  obtain ⟨r, hr, ⟨rq, erq, hrq⟩, hrm⟩ := hr1.get (List.getElem?_eq_getElem ha)
  have hat : atI x1 at_ = some (.ref rq) := by
    have ek : at_ = ((at_.toNat : Nat) : Int) := by omega
    rw [ek]
    exact atI_nat (by rw [← erq]; exact List.getElem?_eq_getElem ha)
  refine ⟨_, rfl, a, _, 0, _, rfl, rfl, sqt f0, atI0, _, rfl, t1, _, _, _, rfl, rfl, sqt f1, hat, ?_⟩
  -- far
  have p50 : (10 : Int) ^ (Int.toNat 50) = 100000000000000000000000000000000000000000000000000 := by decide
  refine ⟨_, rfl, _, rfl, _, _, rfl, rfl, ⟨by decide, by decide, by decide⟩, _, _, rfl, rfl, (by show (0 : Int) < 10 ^ (Int.toNat 50); decide), _, _, rfl, rfl, ?_⟩
  have m0 := Int.emod_nonneg (if c < 0 then -c else c) (show (10 : Int) ^ (Int.toNat 50) ≠ 0 by decide)
  have m1 := Int.emod_lt_of_pos (if c < 0 then -c else c) (show (0 : Int) < 10 ^ (Int.toNat 50) by decide)
  have fq := g12.tup hD hrq
  have hrb := (hg.v r hrm).1
  have b1 := hrb.le
  have b2 := hrb.wd
  have b3 := hrb.bd
  have hnr := hg.nm _ (hg.v r hrm).2
  refine ⟨_, rfl, rq, _, _, _, rfl, rfl, sqt fq, atI0, _, rfl, rq, _, _, _, rfl, rfl, sqt fq, atI1, _, rfl, rq, _, _, _, rfl, rfl, sqt fq, atI2, _, rfl, _, _, rfl, rfl, (Nat.le_of_ble_eq_true rfl), fun wq hwq => ?_⟩
  have gw := fun o => Go.new (o := o) g2.dr hwq
  have e61 : (10 : Nat) ^ 61 = 10000000000000000000000000000000000000000000000000000000000000 := by decide
  refine ⟨fun σ H4 => ∃ (wr : Row) (wq : Addr) (fr : Int), σ = [some (.ref d), some (.ref a), some (.int c), some (.int at_), some (.ref rq), some (.int fr), some (.ref wq), none, none, none, none, none, none] ∧ Go d H2 H4 ∧ H4 wq = some (.tup [.str wr.1, .int wr.2.1, .int wr.2.2]) ∧ Rw wr, ?_, ?_⟩
  · refine ⟨_, rfl, rq, _, _, _, rfl, rfl, sqt ((gw _).tup g2.dr fq), atI1, _, _, rfl, rfl, _, rfl, ?_⟩
    refine ite2 (fun z => ?_) (fun z => ?_)
    · have hz : 0 < r.2.1 := of_decide_eq_true z
      have fq2 := fun o => (gw o).tup g2.dr fq
      refine ⟨_, rfl, rq, _, _, _, rfl, rfl, sqt (fq2 _), atI0, _, rfl, rq, _, _, _, rfl, rfl, sqt (fq2 _), atI1, _, rfl, _, _, rfl, rfl, _, rfl, rq, _, _, _, rfl, rfl, sqt (fq2 _), atI2, (Nat.le_of_ble_eq_true rfl), fun wq2 hwq2 => ?_⟩
      exact ⟨(r.1, r.2.1 - (300 + (if c < 0 then -c else c) % 10 ^ (Int.toNat 50)), r.2.2), wq2, _, rfl, (gw _).trans (.new (gw _).dr hwq2), upd_same, ⟨hnr.nw, by show Int.natAbs (r.2.1 - _) < _; rw [e61]; omega, by show Int.natAbs r.2.2 < _; rw [e61]; omega⟩⟩
    · have hz : ¬ 0 < r.2.1 := fun h => z (decide_eq_true h)
      exact ⟨(r.1, r.2.1, r.2.2 + (300 + (if c < 0 then -c else c) % 10 ^ (Int.toNat 50))), wq, _, rfl, gw _, upd_same, ⟨hnr.nw, by show Int.natAbs r.2.1 < _; rw [e61]; omega, by show Int.natAbs (r.2.2 + _) < _; rw [e61]; omega⟩⟩
  rintro σ4 H4 ⟨wr, wq, fr, rfl, g4, ewq, hwr⟩
  have g14 := g12.trans g4
  have h0 := g14.tup hD e0
  have h1 := g14.tup hD et1
  have h2 := g14.tup hD et2
  have h3 := g14.tup hD et3
  have h4 := g14.tup hD e4
  have t14 := g14.tp hD
  have hl1 := hr1.1
  have hl2 := hr2.1
  have hl3 := hr3.1
  -- strange
  refine ⟨_, rfl, a, _, 0, _, rfl, rfl, sqt h0, atI0, _, rfl, a, _, 1, _, rfl, rfl, sqt h0, atI1, ?_⟩
  refine catA_of h1 h2 (by omega) fun q1 H5 s5 e5 => ?_
  refine ⟨_, rfl, a, _, 2, _, rfl, rfl, sqt (s5 _ _ h0), atI2, ?_⟩
  refine catA_of e5 (s5 _ _ h3) (by rw [List.length_append]; omega) fun q2 H6 s6 e6 => ?_
  have s46 := s5.trans s6
  have hall : RowsAt H6 ((p.vs ++ p.ins) ++ p.ns) ((x1 ++ x2) ++ x3) := (((hr1.mono t14).app (hr2.mono t14)).app (hr3.mono t14)).mono (Tp.same s46)
  refine ⟨q2, rfl, ⟨_, sqt e6⟩, ?_⟩
  refine for_tup (K := K) (a := q2) (xs := (x1 ++ x2) ++ x3) (fun (j : Nat) (σ : L2.St) (H' : Hp) => ∃ (S : Str) (y8 : Option V), σ = [some (.ref d), some (.ref a), some (.int c), some (.int at_), some (.ref rq), some (.int fr), some (.ref wq), some (.str S), y8, none, none, none, none] ∧ H' = H6 ∧ Wd S ∧ S.length ≤ 201) ?_ ?_ ?_ ?_
  · exact ⟨_, none, rfl, rfl, by decide +kernel, by decide +kernel⟩
  · rintro j σ H' _ ⟨S, y8, rfl, rfl, _, _⟩
    exact sqt e6
  · rintro j x σ H' hx ⟨S, y8, rfl, rfl, hw, hl⟩
    obtain ⟨nr, hnr1, ⟨nq, rfl, hnq⟩, hnm⟩ := hall.get hx
    have hnn : Nam nr.1 := by
      simp only [List.mem_append] at hnm
      rcases hnm with (h | h) | h
      · exact hg.nm _ (hg.v nr h).2
      · exact hg.nm _ (hg.i nr h).2
      · exact hg.nm _ (hg.n nr h).2
    have hq1 : Wd ("q" : Str) ∧ ("q" : Str).length = 1 := by decide +kernel
    refine ⟨_, rfl, nq, _, 0, _, rfl, rfl, sqt hnq, atI0, _, rfl, big (by have := hnn.len; omega), _, rfl, _, rfl, big (by omega), _, _, rfl, rfl, _, rfl, ?_⟩
    refine ite2 (fun z => ?_) (fun z => ?_)
    · refine ⟨_, rfl, nq, _, 0, _, rfl, rfl, sqt hnq, atI0, _, _, rfl, rfl, ?_, _, _, rfl, rfl, hnn.wd.app hq1.1, ?_⟩
      · rw [hq1.2]; exact big (by have := hnn.len; omega)
      · rw [len_app, hq1.2]; have := hnn.len; omega
    · exact ⟨S, _, rfl, rfl, hw, hl⟩
  rintro σ6 H' ⟨S, y8, rfl, eH, hw, hl⟩
  obtain rfl := eH.symm
  -- more
  refine ⟨3, rfl, by decide, by decide, fun D hDn => ?_⟩
  refine lc_range (lo := 0) (n := 3) (fun (k : Nat) (H' : Hp) => ∃ vs : List V, Same H6 H' ∧ H' D = some (.lst vs) ∧ vs.length = k ∧ ∀ v ∈ vs, ∃ rows, RowsIn H' rows v ∧ rows.length = 6 ∧ ∀ r ∈ rows, Rw r) ?_ ?_ ?_
  · exact ⟨[], same_new hDn _, upd_same, rfl, fun v h => by cases h⟩
  · rintro k H7 hk3 ⟨vs, s7, e7, hvl, hvs⟩
    refine ⟨rfl, yes_if ?_⟩
    refine ⟨1, 7, rfl, ⟨by decide, by decide, by decide, by decide⟩, fun D2 hD2 => ?_⟩
    have nDD : D ≠ D2 := ne_of_none e7 hD2
    refine lc_range (lo := 1) (n := 6) (fun (j : Nat) (H' : Hp) => ∃ (rows : List Row) (rx : List V), Same H7 H' ∧ H' D2 = some (.lst rx) ∧ RowsAt H' rows rx ∧ rows.length = j ∧ ∀ r ∈ rows, Rw r) ?_ ?_ ?_
    · exact ⟨[], [], same_new hD2 _, upd_same, rows0, rfl, fun r h => by cases h⟩
    · rintro j H8 hj6 ⟨rows, rx, s8, e8, hrs, hrl, hrw⟩
      refine ⟨rfl, yes_if ?_⟩
      have habc : ∀ i : Nat, i < 3 → ∃ ch, atI ("abc" : Str).cps.toList (0 + (i : Int)) = some ch ∧ 97 ≤ ch ∧ ch ≤ 122 := by
        intro i hi
        rw [Int.zero_add]
        match i, hi with
        | 0, _ => exact ⟨97, by decide +kernel, by decide⟩
        | 1, _ => exact ⟨98, by decide +kernel, by decide⟩
        | 2, _ => exact ⟨99, by decide +kernel, by decide⟩
      obtain ⟨ch, hch, hcb⟩ := habc k hk3
      have hw1 : Wd (⟨#[ch]⟩ : Str) := fun c h => by
        have : c = ch := by simpa using h
        rw [this]
        exact hcb
      have hj7 : (0 : Int) ≤ 1 + (j : Int) ∧ 1 + (j : Int) ≤ 6 := by omega
      refine ⟨_, rfl, _, rfl, _, _, ch, rfl, rfl, (by decide +kernel), hch, _, rfl, _, _, rfl, rfl, (by show 1 ≤ 16; decide), hj7.1, by omega, fun hm => ?_⟩
      have hm2 : (Txt.mul (⟨#[ch]⟩ : Str) (1 + (j : Int))).length ≤ 6 := by
        rw [hm]
        show 1 * _ ≤ 6
        omega
      refine ⟨_, _, rfl, rfl, big (by omega), _, rfl, _, rfl, _, rfl, (Nat.le_of_ble_eq_true rfl), fun p9 hp9 => ?_⟩
      have s9 := fun o => same_new hp9 o
      have e9 := fun o => s9 o _ _ e8
      have t9 := fun o o2 => tp_put (o := o) (e9 o2)
      refine ⟨rx, e9 _, ?_, rows ++ [(S ++ Txt.mul (⟨#[ch]⟩ : Str) (1 + (j : Int)), -(1 + (j : Int)), 0 + (k : Int))], rx ++ [.ref p9], same_put (s8.trans (s9 _)) hD2, upd_same, ?_, ?_, ?_⟩
      · rw [hrs.1, hrl]; exact small1000 (by omega)
      · exact ((hrs.mono (Tp.same (s9 _))).mono (t9 _ _)).snoc ⟨p9, rfl, t9 _ _ _ _ upd_same⟩
      · rw [List.length_append, hrl] <;> rfl
      · intro r hr
        rcases List.mem_append.mp hr with h | h
        · exact hrw r h
        · rw [List.mem_singleton.mp h]
          exact ⟨⟨hw.app (mul_wd hw1 _), by show (S ++ _).length ≤ 250; rw [len_app]; omega⟩, by show Int.natAbs (-(1 + (j : Int))) < _; rw [e61]; omega, by show Int.natAbs (0 + (k : Int)) < _; rw [e61]; omega⟩
    · rintro H8 ⟨rows, rx, s8, e8, hrs, hrl, hrw⟩
      refine ⟨D2, rx, rfl, .inl ⟨sqd e8, fun tp htp => ?_⟩⟩
      have s9 := fun o => s8.trans (same_new htp o)
      have e9 := fun o => s9 o _ _ e7
      have t9 := fun o o2 => tp_put (o := o) (e9 o2)
      refine ⟨vs, e9 _, ?_, vs ++ [.ref tp], same_put (s7.trans (s9 _)) hDn, upd_same, ?_, ?_⟩
      · rw [hvl]; exact small1000 (by omega)
      · rw [List.length_append, hvl] <;> rfl
      · intro v hv
        rcases List.mem_append.mp hv with h | h
        · obtain ⟨rows', h1', h2', h3'⟩ := hvs v h
          exact ⟨rows', (h1'.mono (Tp.same (s9 _))).mono (t9 _ _), h2', h3'⟩
        · rw [List.mem_singleton.mp h]
          exact ⟨rows, ⟨tp, rx, rfl, t9 _ _ _ _ upd_same, (hrs.mono (Tp.same (same_new htp _))).mono (t9 _ _)⟩, hrl, hrw⟩
  rintro H7 ⟨vs, s7, e7, hvl, hvs⟩
  obtain ⟨w0, w1, w2, rfl⟩ : ∃ w0 w1 w2, vs = [w0, w1, w2] := by
    match vs, hvl with
    | [x, y, z], _ => exact ⟨x, y, z, rfl⟩
  obtain ⟨m0r, ⟨mp0, mx0, rfl, em0, hm0⟩, hm0l, hm0w⟩ := hvs w0 (by simp)
  obtain ⟨m1r, ⟨mp1, mx1, rfl, em1, hm1⟩, hm1l, hm1w⟩ := hvs w1 (by simp)
  obtain ⟨m2r, ⟨mp2, mx2, rfl, em2, hm2⟩, hm2l, hm2w⟩ := hvs w2 (by simp)
  have s47 := s46.trans s7
  -- steps
  refine ⟨_, rfl, a, _, 3, _, rfl, rfl, sqt (s47 _ _ h0), atI_nat (j := 3) rfl, ?_⟩
  refine ⟨_, rfl, D, _, 0, _, rfl, rfl, sqd e7, atI0, mp0, rfl, ⟨_, sqt em0⟩, fun D3 hD3 => ?_⟩
  have nDD3 : D ≠ D3 := ne_of_none e7 hD3
  refine lc_tup (K := K) (a := mp0) (xs := mx0) (fun (j : Nat) (H' : Hp) => ∃ lv : List V, Same H7 H' ∧ H' D3 = some (.lst lv) ∧ Kids H' ((m0r.take j).map fun r => .name r.1) lv) ?_ ?_ ?_ ?_
  · exact ⟨[], same_new hD3 _, upd_same, kids0⟩
  · rintro j H' _ ⟨lv, s8, _⟩
    exact sqt (s8 _ _ em0)
  · rintro j x H8 hx ⟨lv, s8, e8, hks⟩
    obtain ⟨nr, hnr1, ⟨nq, rfl, hnq⟩, hnm⟩ := hm0.get hx
    refine ⟨rfl, yes_if ?_⟩
    refine ⟨_, rfl, nq, _, 0, _, rfl, rfl, sqt (s8 _ _ hnq), atI0, (Nat.le_of_ble_eq_true rfl), fun p9 hp9 => ?_⟩
    have s9 := fun o => same_new hp9 o
    have e9 := fun o => s9 o _ _ e8
    have t9 := fun o o2 => tp_put (o := o) (e9 o2)
    refine ⟨lv, e9 _, ?_, lv ++ [.ref p9], same_put (s8.trans (s9 _)) hD3, upd_same, ?_⟩
    · rw [hks.1, List.length_map, List.length_take]; exact small1000 (by omega)
    · rw [List.take_add_one, hnr1, List.map_append]
      exact ((hks.mono (Tp.same (s9 _))).mono (t9 _ _)).snoc (.name (t9 _ _ _ _ upd_same))
  rintro H8 ⟨lv, s8, e8, hks⟩
  rw [hm0.1, List.take_length] at hks
  refine ⟨D3, lv, rfl, .inl ⟨sqd e8, fun stp hstp => ?_⟩⟩
  have s9 := fun o => s8.trans (same_new hstp o)
  have s49 := fun o => s47.trans (s9 o)
  have hlst := hg.ls
  have hkl := hk.1
  have hksl := hks.1
  rw [List.length_map] at hksl
  refine catA_of (s49 _ _ _ h4) upd_same (by omega) fun sq HA sA eA => ?_
  have s4A := (s49 _).trans sA
  have s7A := (s9 _).trans sA
  -- the parts
  obtain ⟨ct1, ct2⟩ := cut_to (xs := x1) a0 a1
  obtain ⟨cf1, cf2⟩ := cut_from (xs := x1) a0 a1
  refine ⟨_, rfl, a, _, 0, _, rfl, rfl, sqt (s4A _ _ h0), atI0, _, rfl, at_, rfl, t1, x1, rfl, sqt (s4A _ _ h1), ct2, fun pB hpB => ?_⟩
  refine ⟨_, rfl, (Nat.le_of_ble_eq_true rfl), fun pC hpC => ?_⟩
  have sB := fun o => same_new hpB o
  have sC := fun o => (sB _).trans (same_new hpC o)
  refine catA_of (same_new hpC _ _ _ upd_same) upd_same (by rw [ct1, List.length_take, List.length_singleton]; omega) fun pD HD sD eD => ?_
  have s4D := s4A.trans ((sC _).trans sD)
  refine ⟨_, rfl, a, _, 0, _, rfl, rfl, sqt (s4D _ _ h0), atI0, _, rfl, _, _, rfl, rfl, _, rfl, t1, x1, rfl, sqt (s4D _ _ h1), cf2, fun pE hpE => ?_⟩
  have sE := fun o => same_new hpE o
  refine catA_of (sE _ _ _ eD) upd_same (by rw [ct1, List.length_append, List.length_take, List.length_singleton, show cutV x1 (some ((fun i j => i + j) at_ 1)) none = x1.drop (at_.toNat + 1) from cf1, List.length_drop]; omega) fun pF HF sF eF => ?_
  have s7F := s7A.trans ((sC _).trans (sD.trans ((sE _).trans sF)))
  have s4F := s4D.trans ((sE _).trans sF)
  have hx1l : (cutV x1 none (some at_) ++ [V.ref wq] ++ cutV x1 (some (at_ + 1)) none).length ≤ 20 := by
    rw [ct1, cf1, List.length_append, List.length_append, List.length_take, List.length_drop, List.length_singleton]
    omega
  refine ⟨_, rfl, D, _, 0, _, rfl, rfl, sqd (s7F _ _ e7), atI0, ?_⟩
  refine catA_of eF (s7F _ _ em0) (by have h := hx1l; have h6 := hm0.1; exact Nat.le_trans (Nat.add_le_add h (Nat.le_of_eq (h6.trans hm0l))) (by decide)) fun pG HG sG eG => ?_
  have s7G := s7F.trans sG
  have s4G := s4F.trans sG
  refine ⟨_, rfl, a, _, 1, _, rfl, rfl, sqt (s4G _ _ h0), atI1, _, rfl, D, _, 1, _, rfl, rfl, sqd (s7G _ _ e7), atI1, ?_⟩
  refine catA_of (s4G _ _ h2) (s7G _ _ em1) (by have := hm1.1; omega) fun pH HH sH eH => ?_
  have s7H := s7G.trans sH
  have s4H := s4G.trans sH
  refine ⟨_, rfl, a, _, 2, _, rfl, rfl, sqt (s4H _ _ h0), atI2, _, rfl, D, _, 2, _, rfl, rfl, sqd (s7H _ _ e7), atI2, ?_⟩
  refine catA_of (s4H _ _ h3) (s7H _ _ em2) (by have := hm2.1; omega) fun pI HI sI eI => ?_
  have s7I := s7H.trans sI
  have s4I := s4H.trans sI
  refine ⟨_, rfl, _, rfl, a, _, 4, _, rfl, rfl, sqt (s4I _ _ h0), atI_nat (j := 4) rfl, (Nat.le_of_ble_eq_true rfl), fun pJ hpJ => ?_⟩
  have sJ := fun o => same_new hpJ o
  have s7J := fun o => s7I.trans (sJ o)
  have s4J := fun o => s4I.trans (sJ o)
  have sAJ := fun o => (sC _).trans (sD.trans ((sE _).trans (sF.trans (sG.trans (sH.trans (sI.trans (sJ o)))))))
  have hvrows : RowsAt (upd HI pJ (.tup [.ref pG, .ref pH, .ref pI, .ref sq, vl])) (((p.vs.take at_.toNat ++ [wr]) ++ p.vs.drop (at_.toNat + 1)) ++ m0r) ((cutV x1 none (some at_) ++ [V.ref wq] ++ cutV x1 (some (at_ + 1)) none) ++ mx0) := by
    rw [ct1, cf1]
    have hb := fun o => hr1.mono ((t14.trans (Tp.same (s4J o))))
    exact ((((hb _).take _).app (rows1 ⟨wq, rfl, (s4J _) _ _ ewq⟩)).app ((hb _).drop _)).app (hm0.mono (Tp.same (s7J _)))
  refine q _ ⟨((p.vs.take at_.toNat ++ [wr]) ++ p.vs.drop (at_.toNat + 1)) ++ m0r, p.ins ++ m1r, p.ns ++ m2r, p.st ++ m0r.map fun r => .name r.1, p.al⟩ _ (g14.trans (Go.same g14.dr (s4J _))) ⟨pJ, _, _, _, _, sq, _, rfl, upd_same, ⟨pG, _, rfl, ((sH.trans (sI.trans (sJ _))) _ _ eG), hvrows⟩, ⟨pH, _, rfl, ((sI.trans (sJ _)) _ _ eH), (hr2.mono (t14.trans (Tp.same (s4J _)))).app (hm1.mono (Tp.same (s7J _)))⟩, ⟨pI, _, rfl, (sJ _ _ _ eI), (hr3.mono (t14.trans (Tp.same (s4J _)))).app (hm2.mono (Tp.same (s7J _)))⟩, (sAJ _ _ _ eA), ?_, hal.mono (t14.trans (Tp.same (s4J _)))⟩ ?_
  · exact (hk.mono (t14.trans (Tp.same (s4J _)))).app (hks.mono (Tp.same ((same_new hstp _).trans (sA.trans (sAJ _)))))
  · have hok := hg.ok
    have hat2 : at_.toNat < p.vs.length := by omega
    refine ⟨?_, ?_, ?_, ?_, hok.a, ?_, ?_, ?_⟩
    · intro z hz
      simp only [List.mem_append, List.mem_singleton] at hz
      rcases hz with ((h | h) | h) | h
      · exact hok.v z (List.mem_of_mem_take h)
      · rw [h]; exact hwr
      · exact hok.v z (List.mem_of_mem_drop h)
      · exact hm0w z h
    · intro z hz
      rcases List.mem_append.mp hz with h | h
      · exact hok.i z h
      · exact hm1w z h
    · intro z hz
      rcases List.mem_append.mp hz with h | h
      · exact hok.n z h
      · exact hm2w z h
    · intro z hz
      rcases List.mem_append.mp hz with h | h
      · exact hok.s z h
      · obtain ⟨r', hr', rfl⟩ := List.mem_map.mp h
        have hw := (hm0w r' hr').nm
        exact ⟨[r'.1], big60, false, ⟨.name List.mem_cons_self, fun x hx => by rw [List.mem_singleton.mp hx]; exact hw, by rw [big60_eq]; exact Nat.lt_succ_self _, by rw [It.dep]; decide, by rw [It.sz]; decide⟩, by rw [It.sz]; decide⟩
    · show (((p.vs.take at_.toNat ++ [wr]) ++ p.vs.drop (at_.toNat + 1)) ++ m0r).length ≤ 30 ∧ (p.ins ++ m1r).length ≤ 30 ∧ (p.ns ++ m2r).length ≤ 30
      rw [List.length_append, List.length_append, List.length_append, List.length_append, List.length_append, List.length_take, List.length_drop, List.length_singleton]
      omega
    · show (p.st ++ m0r.map _).length = (((p.vs.take at_.toNat ++ [wr]) ++ p.vs.drop (at_.toNat + 1)) ++ m0r).length
      rw [List.length_append, List.length_append, List.length_append, List.length_append, List.length_map, List.length_take, List.length_drop, List.length_singleton]
      omega
    · show ((p.vs.take at_.toNat ++ [wr]) ++ p.vs.drop (at_.toNat + 1)) ++ m0r ≠ []
      simp
end
end NL

namespace NL
open PySem PySem.Spec PyProof.Rows L2
/-! ### the wide plant, with what is wanted to read it back -/
def mch (k : Nat) : Str := ⟨#[97 + k]⟩
def msuf (k j : Nat) : Str := Txt.mul (mch k) (1 + (j : Int))
def mrow (S : Str) (k j : Nat) : Row := (S ++ msuf k j, -(1 + (j : Int)), 0 + (k : Int))
def mrows (S : Str) (k : Nat) : List Row := (List.range 6).map (mrow S k)
def sufs : List Str := ([0, 1, 2] : List Nat).flatMap fun k => (List.range 6).map (msuf k)
theorem sufs_nd : sufs.Nodup := by decide +kernel
theorem sufs_len : ∀ x ∈ sufs, 1 ≤ x.length ∧ x.length ≤ 6 ∧ Wd x := by decide +kernel
theorem sufs_hd : ∀ x ∈ sufs, (TL.tl x)[0]? ≠ some 117 := by decide +kernel
theorem msuf_in {k j : Nat} (hk : k < 3) (hj : j < 6) : msuf k j ∈ sufs := by
  refine List.mem_flatMap.mpr ⟨k, ?_, List.mem_map.mpr ⟨j, List.mem_range.mpr hj, rfl⟩⟩
  match k, hk with
  | 0, _ => simp
  | 1, _ => simp
  | 2, _ => simp
theorem mrows_names (S : Str) : (mrows S 0 ++ mrows S 1 ++ mrows S 2).map (·.1) = sufs.map (S ++ ·) := by
  unfold mrows sufs
  simp only [List.map_append, List.map_map, List.flatMap_cons, List.flatMap_nil, List.append_nil, List.append_assoc]
  rfl
theorem app_inj {S a b : Str} (h : S ++ a = S ++ b) : a = b := TL.ext_tl (by
  have := congrArg TL.tl h
  rw [TL.tl_append, TL.tl_append] at this
  exact List.append_cancel_left this)
theorem mnames_nd (S : Str) : ((mrows S 0 ++ mrows S 1 ++ mrows S 2).map (·.1)).Nodup := by
  rw [mrows_names]
  exact List.Pairwise.map (S ++ ·) (fun a b h e => h (app_inj e)) sufs_nd
/-- a name that is longer than all others -/
structure Strange (S : Str) (rows : List Row) : Prop where
  wd : Wd S
  len : 1 ≤ S.length ∧ S.length ≤ 152
  q : ∃ l, TL.tl S = l ++ [113]
  lt : ∀ r ∈ rows, r.1.length < S.length
theorem res_q : ∀ z ∈ res, (TL.tl z).length ≤ 5 ∧ ∀ i < 5, (TL.tl z)[i]? = some 113 → (TL.tl z)[i + 1]? = some 117 := by decide +kernel
theorem Strange.nam {S : Str} {rows : List Row} (h : Strange S rows) {x : Str} (hx : x ∈ sufs) : Nam (S ++ x) ∧ S.length < (S ++ x).length := by
  obtain ⟨h1, h2, h3⟩ := sufs_len x hx
  have hl := h.len
  refine ⟨⟨h.wd.app h3, by rw [len_app]; omega, fun m => ?_⟩, by rw [len_app]; omega⟩
  obtain ⟨l, hq⟩ := h.q
  obtain ⟨g1, g2⟩ := res_q _ m
  rw [TL.tl_append, hq, List.append_assoc] at g1 g2
  have hi : l.length < 5 := by
    rw [List.length_append, List.length_append, List.length_singleton] at g1
    omega
  have := g2 l.length hi (by rw [List.getElem?_append_right (Nat.le_refl _), Nat.sub_self]; rfl)
  rw [List.getElem?_append_right (by omega), Nat.add_sub_cancel_left, List.getElem?_append_right (by rw [List.length_singleton]; exact Nat.le_refl _)] at this
  exact sufs_hd x hx this
theorem Strange.row {S : Str} {rows : List Row} (h : Strange S rows) {k j : Nat} (hk : k < 3) (hj : j < 6) : RwR (mrow S k j) ∧ Nam (mrow S k j).1 := by
  obtain ⟨h1, _⟩ := h.nam (msuf_in hk hj)
  have e60 : (10 : Nat) ^ 60 = 1000000000000000000000000000000000000000000000000000000000000 := by decide
  exact ⟨⟨isN_nam h1, h1.len.2, by show Int.natAbs (-(1 + (j : Int))) < _; rw [e60]; omega, by show Int.natAbs (0 + (k : Int)) < _; rw [e60]; omega, by show -(1 + (j : Int)) ≤ 0 + (k : Int); omega⟩, h1⟩
theorem Strange.nd {S : Str} {A B C : List Row} (h : Strange S (A ++ B ++ C)) (hn : ((A ++ B ++ C).map (·.1)).Nodup) : (((A ++ mrows S 0) ++ (B ++ mrows S 1) ++ (C ++ mrows S 2)).map (·.1)).Nodup := by
  have hp : (((A ++ mrows S 0) ++ (B ++ mrows S 1) ++ (C ++ mrows S 2)).map (·.1)).Perm ((A ++ B ++ C).map (·.1) ++ (mrows S 0 ++ mrows S 1 ++ mrows S 2).map (·.1)) := by
    rw [List.perm_iff_count]
    intro a
    simp only [List.map_append, List.count_append]
    omega
  rw [hp.nodup_iff]
  refine List.nodup_append.mpr ⟨hn, mnames_nd S, fun a ha b hb e => ?_⟩
  subst e
  obtain ⟨r, hr, rfl⟩ := List.mem_map.mp ha
  rw [mrows_names] at hb
  obtain ⟨x, hx, e⟩ := List.mem_map.mp hb
  have h1 := h.lt r hr
  have h2 := (h.nam hx).2
  rw [e] at h2
  omega
end NL

namespace NL
open PySem PySem.Spec PyProof.Rows L2
/-- no item is so deep or so large that it may not grow -/
def Shal (p : Pl) : Prop := (∀ i ∈ p.st, i.dep ≤ 8 ∧ i.sz ≤ 50) ∧ p.al.dep ≤ 6 ∧ p.al.sz ≤ 223
theorem plr_of {p : Pl} {xs : List Str} {B : Nat} (hB : B + 2 = big60) (h : PlG p xs B) (g : PlD p xs B) : PlR p B := by
  have q60 : big60 = 1000000000000000000000000000000000000000000000000000000000000 := rfl
  have e60 : (10 : Nat) ^ 60 = 1000000000000000000000000000000000000000000000000000000000000 := by decide
  have hrow : ∀ r : Row, Rb r ∧ r.1 ∈ xs → RwR r ∧ Nam r.1 := fun r hr => by
    have hn := h.nm _ hr.2
    have h1 := hr.1.le
    have h2 := hr.1.wd
    have h3 := hr.1.bd
    exact ⟨⟨isN_nam hn, hn.len.2, by rw [e60]; omega, by rw [e60]; omega, h1⟩, hn⟩
  have hlv := h.lv
  refine ⟨by rw [← g.nm]; exact g.nd, fun r hr => ?_, by omega, by omega, h.ne, h.ls, fun i hi => ?_, ⟨g.al, by have := h.a.2.1; omega, by have := h.a.2.2; omega⟩, by rw [e60]; omega⟩
  · simp only [List.mem_append] at hr
    rcases hr with (hr | hr) | hr
    · exact hrow r (h.v r hr)
    · exact hrow r (h.i r hr)
    · exact hrow r (h.n r hr)
  · obtain ⟨a1, a2, a3⟩ := h.s i hi
    exact ⟨by rw [← g.nm]; exact a1, by omega, by omega⟩
section
variable {P : Program} {w : World} {K : PySem.W.Frag} {mg : Str → Option Value} {base : Heap}
def spWide2 (B : Nat) : Sp := fun vs H Q _ => ∃ (d : Addr) (v : V) (p : Pl) (xs : List Str) (c : Int), vs = [.ref d, v, .int c] ∧ Dr H d ∧ PlIn H p v ∧ PlG p xs B ∧ PlD p xs B ∧ c.natAbs + 6 ≤ big60 ∧
  ∀ v' p' H', Go d H H' → PlIn H' p' v' → PlR p' B → p'.vs.length ≤ 22 ∧ p'.vs.length + p'.ins.length + p'.ns.length ≤ 34 → Shal p' → Q v' H'
theorem gx_law_wideR {B : Nat} (hB : B + 2 = big60) (T : Txt K mg) : FnOk P w K mg base CX0 2 T.a_law_wide T.d_law_wide P_law_wide (spWide2 B) := by
  have q60 : big60 = 1000000000000000000000000000000000000000000000000000000000000 := rfl
  have G_law_take := ok_law_take (P := P) (w := w) (base := base) T
  refine T.F_law_wide.ok sc_law_wide (fun vs H Q E h => ?_) (fun cdv A outer s H vs Q E hr h => ?_)
  · obtain ⟨d, v, p, xs, c, rfl, _⟩ := h
    rfl
  obtain ⟨d, v, p, xs, c, rfl, hD, hpl, hg, hpd, hc, q⟩ := h
  obtain ⟨a, v1, v2, v3, vl, st, sx, rfl, e0, ⟨t1, x1, rfl, et1, hr1⟩, ⟨t2, x2, rfl, et2, hr2⟩, ⟨t3, x3, rfl, et3, hr3⟩, e4, hk, hal⟩ := id hpl
  have hlv := hg.lv
  have hpos : 0 < x1.length := by
    rw [hr1.1]
    exact List.length_pos_iff.mpr hg.ne
  refine ⟨_, (pss_cons (ps_set (i := 3) sc_law_wide.nd rfl (Or.inl rfl) (pe_call G_law_take (hr.mono (by omega)) (by rfl) T.m_law_take T.F_law_take.kp T.b_law_take .nil pass0 (pa_cons (pv 0) (pa_cons (pe_callB call_len_seq (by rfl) T.z_len PySem.boot_len (pa_cons (pe_ix ix_tup (pv 1) pe_int (fun _ _ => rfl)) pa_nil)) pa_nil))))
    (pss_cons (ps_if (pt_cmpR op_gt (pe_call G_law_take (hr.mono (by omega)) (by rfl) T.m_law_take T.F_law_take.kp T.b_law_take .nil pass0 (pa_cons (pv 0) (pa_cons pe_int pa_nil))) pe_int (nomark _))
    (pss_one (ps_ret (pv 1)))
    pss_nil)
    (pss_cons (ps_set (i := 4) sc_law_wide.nd rfl (Or.inl rfl) (pe_ix ix_tup (pe_ix ix_tup (pv 1) pe_int (fun _ _ => rfl)) (pv 3) (fun _ _ => rfl)))
    (pss_cons (ps_set (i := 5) sc_law_wide.nd rfl (Or.inl rfl) (pe_op op_add pe_int (pe_op op_mod (pe_callB (call_abs) (by rfl) T.z_abs (by decide +kernel) (pa_cons (pv 2) pa_nil)) (pe_op op_pow pe_int pe_int))))
    (pss_cons (ps_set (i := 6) sc_law_wide.nd rfl (Or.inl rfl) (pe_tup (pa_cons (pe_ix ix_tup (pv 4) pe_int (fun _ _ => rfl)) (pa_cons (pe_ix ix_tup (pv 4) pe_int (fun _ _ => rfl)) (pa_cons (pe_op op_add (pe_ix ix_tup (pv 4) pe_int (fun _ _ => rfl)) (pv 5)) pa_nil)))))
    (C8.pss_cut (ps_if (pt_cmpR op_gt (pe_ix ix_tup (pv 4) pe_int (fun _ _ => rfl)) pe_int (nomark _))
    (pss_one (ps_set (i := 6) sc_law_wide.nd rfl (Or.inl rfl) (pe_tup (pa_cons (pe_ix ix_tup (pv 4) pe_int (fun _ _ => rfl)) (pa_cons (pe_op op_sub (pe_ix ix_tup (pv 4) pe_int (fun _ _ => rfl)) (pv 5)) (pa_cons (pe_ix ix_tup (pv 4) pe_int (fun _ _ => rfl)) pa_nil))))))
    pss_nil)
    (pss_cons (ps_set (i := 7) sc_law_wide.nd rfl (Or.inr rfl) pe_str)
    (pss_cons (ps_for  PassesOwn.never rfl (pi_tup (pe_op op_catA (pe_op op_catA (pe_ix ix_tup (pv 1) pe_int (fun _ _ => rfl)) (pe_ix ix_tup (pv 1) pe_int (fun _ _ => rfl))) (pe_ix ix_tup (pv 1) pe_int (fun _ _ => rfl)))) (pg_name (i := 8) sc_law_wide.nd rfl (Or.inl rfl))
    (pss_one (ps_if (pt_cmpR op_ge (pe_callB call_len_str (by rfl) T.z_len PySem.boot_len (pa_cons (pe_ix ix_tup (pv 8) pe_int (fun _ _ => rfl)) pa_nil)) (pe_callB call_len_str (by rfl) T.z_len PySem.boot_len (pa_cons (pv 7) pa_nil)) (nomark _))
    (pss_one (ps_set (i := 7) sc_law_wide.nd rfl (Or.inr rfl) (pe_op op_add_str (pe_ix ix_tup (pv 8) pe_int (fun _ _ => rfl)) pe_str)))
    pss_nil)))
    (pss_cons (ps_setLc (i := 9) (own := [("k", 11)]) (g := (gName 11)) (tt := tYes) rfl sc_law_wide.nd rfl rfl (sw_true rfl rfl rfl (by decide +kernel)) (pi_range1 (by rfl) T.z_range (pa_cons pe_int pa_nil)) (blkOk_by (N := N_law_wide) (sc := defScope s_law_wide) (by decide +kernel)) (fun _ _ _ _ _ => (pg_name (i := 11) sc_law_wide.nd rfl (Or.inr rfl))) (fun _ _ _ _ _ => pts_nil) (fun _ _ _ _ _ => (pe_callTy (call_tuple_ofK (K := K) rfl) (by rfl) T.z_tuple (by decide +kernel) (pa_cons (pe_lc (own := [("j", 10)]) (g := (gName 10)) (tt := tYes) rfl sc_law_wide.nd (pi_range2 (by rfl) T.z_range (pa_cons pe_int (pa_cons pe_int pa_nil))) (blkOk_by (by rfl)) (fun _ _ _ _ _ => (pg_name (i := 10) sc_law_wide.nd rfl (Or.inl rfl))) (fun _ _ _ _ _ => pts_nil) (fun _ _ _ _ _ => (pe_tup (pa_cons (pe_op op_add_str (pv 7) (pe_op op_mulS (pe_ix ix_str pe_str (pv 11) (fun _ _ => rfl)) (pv 10))) (pa_cons (pe_un un_neg (pv 10)) (pa_cons (pv 11) pa_nil)))))) pa_nil))))
    (pss_cons (ps_set (i := 12) sc_law_wide.nd rfl (Or.inl rfl) (pe_op op_catA (pe_ix ix_tup (pv 1) pe_int (fun _ _ => rfl)) (pe_callTy call_tuple_of (by rfl) T.z_tuple (by decide +kernel) (pa_cons (pe_lc (own := [("row", 4)]) (g := (gName 4)) (tt := tYes) rfl sc_law_wide.nd (pi_tup (pe_ix ix_list (pv 9) pe_int (fun _ _ => rfl))) (blkOk_by (N := N_law_wide) (sc := defScope s_law_wide) (by decide +kernel)) (fun _ _ _ _ _ => (pg_name (i := 4) sc_law_wide.nd rfl (Or.inl rfl))) (fun _ _ _ _ _ => pts_nil) (fun _ _ _ _ _ => (pe_tup (pa_cons pe_str (pa_cons (pe_ix (ix_tupK (K := K) rfl) (pv 4) pe_int (fun _ _ => rfl)) pa_nil))))) pa_nil))))
    (pss_one (ps_ret (pe_tup (pa_cons (pe_op op_catA (pe_op op_catA (pe_op op_catA (pe_slice sl_tup (pe_ix ix_tup (pv 1) pe_int (fun _ _ => rfl)) po_none (po_some (pv 3))) (pe_tup (pa_cons (pv 6) pa_nil))) (pe_slice sl_tup (pe_ix ix_tup (pv 1) pe_int (fun _ _ => rfl)) (po_some (pe_op op_add (pv 3) pe_int)) po_none)) (pe_ix ix_list (pv 9) pe_int (fun _ _ => rfl))) (pa_cons (pe_op op_catA (pe_ix ix_tup (pv 1) pe_int (fun _ _ => rfl)) (pe_ix ix_list (pv 9) pe_int (fun _ _ => rfl))) (pa_cons (pe_op op_catA (pe_ix ix_tup (pv 1) pe_int (fun _ _ => rfl)) (pe_ix ix_list (pv 9) pe_int (fun _ _ => rfl))) (pa_cons (pv 12) (pa_cons (pe_ix ix_tup (pv 1) pe_int (fun _ _ => rfl)) pa_nil)))))))))))))))))), ?_⟩
  refine ⟨_, rfl, _, rfl, a, _, 0, _, rfl, rfl, sqt e0, atI0, t1, _, rfl, .inr (sqt et1), d, _, rfl, hD, by omega, fun at_ H1 g1 a0 a1 => ?_⟩
  refine ⟨_, rfl, d, _, rfl, g1.dr, (by decide), fun u H2 g2 u0 u1 => ?_⟩
  have g12 := g1.trans g2
  refine ⟨_, _, rfl, rfl, _, rfl, ?_⟩
  refine ite2 (fun z => ?_) (fun z => ?_)
  · exact ⟨_, rfl, q _ p H2 g12 (hpl.mono (g12.tp hD)) (plr_of hB hg hpd) (by
    have := hpd.few
    rw [hpd.nm, List.length_map, List.length_append, List.length_append] at this
    omega) ⟨fun i hi => (hg.s i hi).2, hg.a.2⟩⟩
  have f0 := g12.tup hD e0
  have f1 := g12.tup hD et1
  -- row
  have ha : at_.toNat < x1.length := by omega
  obtain ⟨r, hr, ⟨rq, erq, hrq⟩, hrm⟩ := hr1.get (List.getElem?_eq_getElem ha)
  have hat : atI x1 at_ = some (.ref rq) := by
    have ek : at_ = ((at_.toNat : Nat) : Int) := by omega
    rw [ek]
    exact atI_nat (by rw [← erq]; exact List.getElem?_eq_getElem ha)
  refine ⟨_, rfl, a, _, 0, _, rfl, rfl, sqt f0, atI0, _, rfl, t1, _, _, _, rfl, rfl, sqt f1, hat, ?_⟩
  -- far
  have p50 : (10 : Int) ^ (Int.toNat 50) = 100000000000000000000000000000000000000000000000000 := by decide
  refine ⟨_, rfl, _, rfl, _, _, rfl, rfl, ⟨by decide, by decide, by decide⟩, _, _, rfl, rfl, (by show (0 : Int) < 10 ^ (Int.toNat 50); decide), _, _, rfl, rfl, ?_⟩
  have m0 := Int.emod_nonneg (if c < 0 then -c else c) (show (10 : Int) ^ (Int.toNat 50) ≠ 0 by decide)
  have m1 := Int.emod_lt_of_pos (if c < 0 then -c else c) (show (0 : Int) < 10 ^ (Int.toNat 50) by decide)
  have fq := g12.tup hD hrq
  have hrb := (hg.v r hrm).1
  have b1 := hrb.le
  have b2 := hrb.wd
  have b3 := hrb.bd
  have hnr := hg.nm _ (hg.v r hrm).2
  refine ⟨_, rfl, rq, _, _, _, rfl, rfl, sqt fq, atI0, _, rfl, rq, _, _, _, rfl, rfl, sqt fq, atI1, _, rfl, rq, _, _, _, rfl, rfl, sqt fq, atI2, _, rfl, _, _, rfl, rfl, (Nat.le_of_ble_eq_true rfl), fun wq hwq => ?_⟩
  have gw := fun o => Go.new (o := o) g2.dr hwq
  have e60 : (10 : Nat) ^ 60 = 1000000000000000000000000000000000000000000000000000000000000 := by decide
  refine ⟨fun σ H4 => ∃ (wr : Row) (wq : Addr) (fr : Int), σ = [some (.ref d), some (.ref a), some (.int c), some (.int at_), some (.ref rq), some (.int fr), some (.ref wq), none, none, none, none, none, none] ∧ Go d H2 H4 ∧ H4 wq = some (.tup [.str wr.1, .int wr.2.1, .int wr.2.2]) ∧ RwR wr ∧ wr.1 = r.1, ?_, ?_⟩
  · refine ⟨_, rfl, rq, _, _, _, rfl, rfl, sqt ((gw _).tup g2.dr fq), atI1, _, _, rfl, rfl, _, rfl, ?_⟩
    refine ite2 (fun z => ?_) (fun z => ?_)
    · have hz : 0 < r.2.1 := of_decide_eq_true z
      have fq2 := fun o => (gw o).tup g2.dr fq
      refine ⟨_, rfl, rq, _, _, _, rfl, rfl, sqt (fq2 _), atI0, _, rfl, rq, _, _, _, rfl, rfl, sqt (fq2 _), atI1, _, rfl, _, _, rfl, rfl, _, rfl, rq, _, _, _, rfl, rfl, sqt (fq2 _), atI2, (Nat.le_of_ble_eq_true rfl), fun wq2 hwq2 => ?_⟩
      exact ⟨(r.1, r.2.1 - (300 + (if c < 0 then -c else c) % 10 ^ (Int.toNat 50)), r.2.2), wq2, _, rfl, (gw _).trans (.new (gw _).dr hwq2), upd_same, ⟨isN_nam hnr, hnr.len.2, by show Int.natAbs (r.2.1 - _) < _; rw [e60]; omega, by show Int.natAbs r.2.2 < _; rw [e60]; omega, by show r.2.1 - _ ≤ r.2.2; omega⟩, rfl⟩
    · have hz : ¬ 0 < r.2.1 := fun h => z (decide_eq_true h)
      exact ⟨(r.1, r.2.1, r.2.2 + (300 + (if c < 0 then -c else c) % 10 ^ (Int.toNat 50))), wq, _, rfl, gw _, upd_same, ⟨isN_nam hnr, hnr.len.2, by show Int.natAbs r.2.1 < _; rw [e60]; omega, by show Int.natAbs (r.2.2 + _) < _; rw [e60]; omega, by show r.2.1 ≤ r.2.2 + _; omega⟩, rfl⟩
  rintro σ4 H4 ⟨wr, wq, fr, rfl, g4, ewq, hwr, hwn⟩
  have g14 := g12.trans g4
  have h0 := g14.tup hD e0
  have h1 := g14.tup hD et1
  have h2 := g14.tup hD et2
  have h3 := g14.tup hD et3
  have h4 := g14.tup hD e4
  have t14 := g14.tp hD
  have hl1 := hr1.1
  have hl2 := hr2.1
  have hl3 := hr3.1
  -- strange
  refine ⟨_, rfl, a, _, 0, _, rfl, rfl, sqt h0, atI0, _, rfl, a, _, 1, _, rfl, rfl, sqt h0, atI1, ?_⟩
  refine catA_of h1 h2 (by omega) fun q1 H5 s5 e5 => ?_
  refine ⟨_, rfl, a, _, 2, _, rfl, rfl, sqt (s5 _ _ h0), atI2, ?_⟩
  refine catA_of e5 (s5 _ _ h3) (by rw [List.length_append]; omega) fun q2 H6 s6 e6 => ?_
  have s46 := s5.trans s6
  have hall : RowsAt H6 ((p.vs ++ p.ins) ++ p.ns) ((x1 ++ x2) ++ x3) := (((hr1.mono t14).app (hr2.mono t14)).app (hr3.mono t14)).mono (Tp.same s46)
  refine ⟨q2, rfl, ⟨_, sqt e6⟩, ?_⟩
  refine for_tup (K := K) (a := q2) (xs := (x1 ++ x2) ++ x3) (fun (j : Nat) (σ : L2.St) (H' : Hp) => ∃ (S : Str) (y8 : Option V), σ = [some (.ref d), some (.ref a), some (.int c), some (.int at_), some (.ref rq), some (.int fr), some (.ref wq), some (.str S), y8, none, none, none, none] ∧ H' = H6 ∧ Strange S (((p.vs ++ p.ins) ++ p.ns).take j)) ?_ ?_ ?_ ?_
  · exact ⟨_, none, rfl, rfl, by decide +kernel, by decide +kernel, ⟨[], by decide +kernel⟩, fun r h => by rw [List.take_zero] at h; cases h⟩
  · rintro j σ H' _ ⟨S, y8, rfl, rfl, _⟩
    exact sqt e6
  · rintro j x σ H' hx ⟨S, y8, rfl, rfl, hst⟩
    obtain ⟨nr, hnr1, ⟨nq, rfl, hnq⟩, hnm⟩ := hall.get hx
    have hw := hst.wd
    have hl := hst.len
    have hnx : nr.1.length ≤ 151 := hpd.sh _ (by rw [hpd.nm]; exact List.mem_map.mpr ⟨nr, hnm, rfl⟩)
    have hnn : Nam nr.1 := by
      simp only [List.mem_append] at hnm
      rcases hnm with (h | h) | h
      · exact hg.nm _ (hg.v nr h).2
      · exact hg.nm _ (hg.i nr h).2
      · exact hg.nm _ (hg.n nr h).2
    have hq1 : Wd ("q" : Str) ∧ ("q" : Str).length = 1 := by decide +kernel
    refine ⟨_, rfl, nq, _, 0, _, rfl, rfl, sqt hnq, atI0, _, rfl, big (by have := hnn.len; omega), _, rfl, _, rfl, big (by omega), _, _, rfl, rfl, _, rfl, ?_⟩
    refine ite2 (fun z => ?_) (fun z => ?_)
    · have hz : S.length ≤ nr.1.length := by
        have := of_decide_eq_true z
        omega
      refine ⟨_, rfl, nq, _, 0, _, rfl, rfl, sqt hnq, atI0, _, _, rfl, rfl, ?_, _, _, rfl, rfl, hnn.wd.app hq1.1, ?_, ⟨TL.tl nr.1, TL.tl_append _ _⟩, fun r hr => ?_⟩
      · rw [hq1.2]; exact big (by have := hnn.len; omega)
      · rw [len_app, hq1.2]; have := hnn.len; omega
      · rw [List.take_add_one, hnr1] at hr
        rw [len_app, hq1.2]
        rcases List.mem_append.mp hr with h | h
        · have := hst.lt r h
          omega
        · rw [List.mem_singleton.mp h]
          exact Nat.lt_succ_self _
    · have hz : nr.1.length < S.length := by
        refine Nat.lt_of_not_le fun h => z (decide_eq_true ?_)
        omega
      refine ⟨S, _, rfl, rfl, hw, hl, hst.q, fun r hr => ?_⟩
      rw [List.take_add_one, hnr1] at hr
      rcases List.mem_append.mp hr with h | h
      · exact hst.lt r h
      · rw [List.mem_singleton.mp h]
        exact hz
  rintro σ6 H' ⟨S, y8, rfl, eH, hst⟩
  obtain rfl := eH.symm
  rw [List.take_of_length_le (Nat.le_of_eq hall.1.symm)] at hst
  have hw := hst.wd
  have hl := hst.len
  -- more
  refine ⟨3, rfl, by decide, by decide, fun D hDn => ?_⟩
  refine lc_range (lo := 0) (n := 3) (fun (k : Nat) (H' : Hp) => ∃ vs : List V, Same H6 H' ∧ H' D = some (.lst vs) ∧ vs.length = k ∧ ∀ i v, vs[i]? = some v → RowsIn H' (mrows S i) v) ?_ ?_ ?_
  · exact ⟨[], same_new hDn _, upd_same, rfl, fun i v h => by simp at h⟩
  · rintro k H7 hk3 ⟨vs, s7, e7, hvl, hvs⟩
    refine ⟨rfl, yes_if ?_⟩
    refine ⟨1, 7, rfl, ⟨by decide, by decide, by decide, by decide⟩, fun D2 hD2 => ?_⟩
    have nDD : D ≠ D2 := ne_of_none e7 hD2
    refine lc_range (lo := 1) (n := 6) (fun (j : Nat) (H' : Hp) => ∃ rx : List V, Same H7 H' ∧ H' D2 = some (.lst rx) ∧ RowsAt H' ((List.range j).map (mrow S k)) rx) ?_ ?_ ?_
    · exact ⟨[], same_new hD2 _, upd_same, rows0⟩
    · rintro j H8 hj6 ⟨rx, s8, e8, hrs⟩
      have hrl : ((List.range j).map (mrow S k)).length = j := by rw [List.length_map, List.length_range]
      refine ⟨rfl, yes_if ?_⟩
      have hch : atI ("abc" : Str).cps.toList (0 + (k : Int)) = some (97 + k) := by
        rw [Int.zero_add]
        match k, hk3 with
        | 0, _ => decide +kernel
        | 1, _ => decide +kernel
        | 2, _ => decide +kernel
      have hj7 : (0 : Int) ≤ 1 + (j : Int) ∧ 1 + (j : Int) ≤ 6 := by omega
      refine ⟨_, rfl, _, rfl, _, _, 97 + k, rfl, rfl, (by decide +kernel), hch, _, rfl, _, _, rfl, rfl, (by show 1 ≤ 16; decide), hj7.1, by omega, fun hm => ?_⟩
      have hm2 : (Txt.mul (⟨#[97 + k]⟩ : Str) (1 + (j : Int))).length ≤ 6 := by
        rw [hm]
        show 1 * _ ≤ 6
        omega
      refine ⟨_, _, rfl, rfl, big (by omega), _, rfl, _, rfl, _, rfl, (Nat.le_of_ble_eq_true rfl), fun p9 hp9 => ?_⟩
      have s9 := fun o => same_new hp9 o
      have e9 := fun o => s9 o _ _ e8
      have t9 := fun o o2 => tp_put (o := o) (e9 o2)
      refine ⟨rx, e9 _, ?_, rx ++ [.ref p9], same_put (s8.trans (s9 _)) hD2, upd_same, ?_⟩
      · rw [hrs.1, hrl]; exact small1000 (by omega)
      · rw [List.range_succ, List.map_append]
        exact ((hrs.mono (Tp.same (s9 _))).mono (t9 _ _)).snoc ⟨p9, rfl, t9 _ _ _ _ upd_same⟩
    · rintro H8 ⟨rx, s8, e8, hrs⟩
      refine ⟨D2, rx, rfl, .inl ⟨sqd e8, fun tp htp => ?_⟩⟩
      have s9 := fun o => s8.trans (same_new htp o)
      have e9 := fun o => s9 o _ _ e7
      have t9 := fun o o2 => tp_put (o := o) (e9 o2)
      refine ⟨vs, e9 _, ?_, vs ++ [.ref tp], same_put (s7.trans (s9 _)) hDn, upd_same, ?_, ?_⟩
      · rw [hvl]; exact small1000 (by omega)
      · rw [List.length_append, hvl] <;> rfl
      · intro i v hv
        by_cases hi : i < vs.length
        · rw [List.getElem?_append_left hi] at hv
          exact ((hvs i v hv).mono (Tp.same (s9 _))).mono (t9 _ _)
        · have hi2 : i = k := by
            have := (List.getElem?_eq_some_iff.mp hv).1
            rw [List.length_append, List.length_singleton] at this
            omega
          rw [List.getElem?_append_right (by omega), hvl, hi2, Nat.sub_self] at hv
          rw [hi2]
          obtain rfl : V.ref tp = v := Option.some.inj hv
          exact ⟨tp, rx, rfl, t9 _ _ _ _ upd_same, (hrs.mono (Tp.same (same_new htp _))).mono (t9 _ _)⟩
  rintro H7 ⟨vs, s7, e7, hvl, hvs⟩
  obtain ⟨w0, w1, w2, rfl⟩ : ∃ w0 w1 w2, vs = [w0, w1, w2] := by
    match vs, hvl with
    | [x, y, z], _ => exact ⟨x, y, z, rfl⟩
  obtain ⟨mp0, mx0, rfl, em0, hm0⟩ := hvs 0 w0 rfl
  have hm0l : (mrows S 0).length = 6 := rfl
  obtain ⟨mp1, mx1, rfl, em1, hm1⟩ := hvs 1 w1 rfl
  have hm1l : (mrows S 1).length = 6 := rfl
  obtain ⟨mp2, mx2, rfl, em2, hm2⟩ := hvs 2 w2 rfl
  have hm2l : (mrows S 2).length = 6 := rfl
  have s47 := s46.trans s7
  -- steps
  refine ⟨_, rfl, a, _, 3, _, rfl, rfl, sqt (s47 _ _ h0), atI_nat (j := 3) rfl, ?_⟩
  refine ⟨_, rfl, D, _, 0, _, rfl, rfl, sqd e7, atI0, mp0, rfl, ⟨_, sqt em0⟩, fun D3 hD3 => ?_⟩
  have nDD3 : D ≠ D3 := ne_of_none e7 hD3
  refine lc_tup (K := K) (a := mp0) (xs := mx0) (fun (j : Nat) (H' : Hp) => ∃ lv : List V, Same H7 H' ∧ H' D3 = some (.lst lv) ∧ Kids H' (((mrows S 0).take j).map fun r => .name r.1) lv) ?_ ?_ ?_ ?_
  · exact ⟨[], same_new hD3 _, upd_same, kids0⟩
  · rintro j H' _ ⟨lv, s8, _⟩
    exact sqt (s8 _ _ em0)
  · rintro j x H8 hx ⟨lv, s8, e8, hks⟩
    obtain ⟨nr, hnr1, ⟨nq, rfl, hnq⟩, hnm⟩ := hm0.get hx
    refine ⟨rfl, yes_if ?_⟩
    refine ⟨_, rfl, nq, _, 0, _, rfl, rfl, sqt (s8 _ _ hnq), atI0, (Nat.le_of_ble_eq_true rfl), fun p9 hp9 => ?_⟩
    have s9 := fun o => same_new hp9 o
    have e9 := fun o => s9 o _ _ e8
    have t9 := fun o o2 => tp_put (o := o) (e9 o2)
    refine ⟨lv, e9 _, ?_, lv ++ [.ref p9], same_put (s8.trans (s9 _)) hD3, upd_same, ?_⟩
    · rw [hks.1, List.length_map, List.length_take]; exact small1000 (by omega)
    · rw [List.take_add_one, hnr1, List.map_append]
      exact ((hks.mono (Tp.same (s9 _))).mono (t9 _ _)).snoc (.name (t9 _ _ _ _ upd_same))
  rintro H8 ⟨lv, s8, e8, hks⟩
  rw [hm0.1, List.take_length] at hks
  refine ⟨D3, lv, rfl, .inl ⟨sqd e8, fun stp hstp => ?_⟩⟩
  have s9 := fun o => s8.trans (same_new hstp o)
  have s49 := fun o => s47.trans (s9 o)
  have hlst := hg.ls
  have hkl := hk.1
  have hksl := hks.1
  rw [List.length_map] at hksl
  refine catA_of (s49 _ _ _ h4) upd_same (by omega) fun sq HA sA eA => ?_
  have s4A := (s49 _).trans sA
  have s7A := (s9 _).trans sA
  -- the parts
  obtain ⟨ct1, ct2⟩ := cut_to (xs := x1) a0 a1
  obtain ⟨cf1, cf2⟩ := cut_from (xs := x1) a0 a1
  refine ⟨_, rfl, a, _, 0, _, rfl, rfl, sqt (s4A _ _ h0), atI0, _, rfl, at_, rfl, t1, x1, rfl, sqt (s4A _ _ h1), ct2, fun pB hpB => ?_⟩
  refine ⟨_, rfl, (Nat.le_of_ble_eq_true rfl), fun pC hpC => ?_⟩
  have sB := fun o => same_new hpB o
  have sC := fun o => (sB _).trans (same_new hpC o)
  refine catA_of (same_new hpC _ _ _ upd_same) upd_same (by rw [ct1, List.length_take, List.length_singleton]; omega) fun pD HD sD eD => ?_
  have s4D := s4A.trans ((sC _).trans sD)
  refine ⟨_, rfl, a, _, 0, _, rfl, rfl, sqt (s4D _ _ h0), atI0, _, rfl, _, _, rfl, rfl, _, rfl, t1, x1, rfl, sqt (s4D _ _ h1), cf2, fun pE hpE => ?_⟩
  have sE := fun o => same_new hpE o
  refine catA_of (sE _ _ _ eD) upd_same (by rw [ct1, List.length_append, List.length_take, List.length_singleton, show cutV x1 (some ((fun i j => i + j) at_ 1)) none = x1.drop (at_.toNat + 1) from cf1, List.length_drop]; omega) fun pF HF sF eF => ?_
  have s7F := s7A.trans ((sC _).trans (sD.trans ((sE _).trans sF)))
  have s4F := s4D.trans ((sE _).trans sF)
  have hx1l : (cutV x1 none (some at_) ++ [V.ref wq] ++ cutV x1 (some (at_ + 1)) none).length ≤ 20 := by
    rw [ct1, cf1, List.length_append, List.length_append, List.length_take, List.length_drop, List.length_singleton]
    omega
  refine ⟨_, rfl, D, _, 0, _, rfl, rfl, sqd (s7F _ _ e7), atI0, ?_⟩
  refine catA_of eF (s7F _ _ em0) (by have h := hx1l; have h6 := hm0.1; exact Nat.le_trans (Nat.add_le_add h (Nat.le_of_eq (h6.trans hm0l))) (by decide)) fun pG HG sG eG => ?_
  have s7G := s7F.trans sG
  have s4G := s4F.trans sG
  refine ⟨_, rfl, a, _, 1, _, rfl, rfl, sqt (s4G _ _ h0), atI1, _, rfl, D, _, 1, _, rfl, rfl, sqd (s7G _ _ e7), atI1, ?_⟩
  refine catA_of (s4G _ _ h2) (s7G _ _ em1) (by have := hm1.1; omega) fun pH HH sH eH => ?_
  have s7H := s7G.trans sH
  have s4H := s4G.trans sH
  refine ⟨_, rfl, a, _, 2, _, rfl, rfl, sqt (s4H _ _ h0), atI2, _, rfl, D, _, 2, _, rfl, rfl, sqd (s7H _ _ e7), atI2, ?_⟩
  refine catA_of (s4H _ _ h3) (s7H _ _ em2) (by have := hm2.1; omega) fun pI HI sI eI => ?_
  have s7I := s7H.trans sI
  have s4I := s4H.trans sI
  refine ⟨_, rfl, _, rfl, a, _, 4, _, rfl, rfl, sqt (s4I _ _ h0), atI_nat (j := 4) rfl, (Nat.le_of_ble_eq_true rfl), fun pJ hpJ => ?_⟩
  have sJ := fun o => same_new hpJ o
  have s7J := fun o => s7I.trans (sJ o)
  have s4J := fun o => s4I.trans (sJ o)
  have sAJ := fun o => (sC _).trans (sD.trans ((sE _).trans (sF.trans (sG.trans (sH.trans (sI.trans (sJ o)))))))
  have hvrows : RowsAt (upd HI pJ (.tup [.ref pG, .ref pH, .ref pI, .ref sq, vl])) (((p.vs.take at_.toNat ++ [wr]) ++ p.vs.drop (at_.toNat + 1)) ++ (mrows S 0)) ((cutV x1 none (some at_) ++ [V.ref wq] ++ cutV x1 (some (at_ + 1)) none) ++ mx0) := by
    rw [ct1, cf1]
    have hb := fun o => hr1.mono ((t14.trans (Tp.same (s4J o))))
    exact ((((hb _).take _).app (rows1 ⟨wq, rfl, (s4J _) _ _ ewq⟩)).app ((hb _).drop _)).app (hm0.mono (Tp.same (s7J _)))
  refine q _ ⟨((p.vs.take at_.toNat ++ [wr]) ++ p.vs.drop (at_.toNat + 1)) ++ (mrows S 0), p.ins ++ (mrows S 1), p.ns ++ (mrows S 2), p.st ++ (mrows S 0).map fun r => .name r.1, p.al⟩ _ (g14.trans (Go.same g14.dr (s4J _))) ⟨pJ, _, _, _, _, sq, _, rfl, upd_same, ⟨pG, _, rfl, ((sH.trans (sI.trans (sJ _))) _ _ eG), hvrows⟩, ⟨pH, _, rfl, ((sI.trans (sJ _)) _ _ eH), (hr2.mono (t14.trans (Tp.same (s4J _)))).app (hm1.mono (Tp.same (s7J _)))⟩, ⟨pI, _, rfl, (sJ _ _ _ eI), (hr3.mono (t14.trans (Tp.same (s4J _)))).app (hm2.mono (Tp.same (s7J _)))⟩, (sAJ _ _ _ eA), ?_, hal.mono (t14.trans (Tp.same (s4J _)))⟩ ?_ ?_ ⟨fun i hi => ?_, hg.a.2⟩
  · exact (hk.mono (t14.trans (Tp.same (s4J _)))).app (hks.mono (Tp.same ((same_new hstp _).trans (sA.trans (sAJ _)))))
  · have hat2 : at_.toNat < p.vs.length := by omega
    have hr0 := plr_of hB hg hpd
    have hsplit : p.vs = p.vs.take at_.toNat ++ r :: p.vs.drop (at_.toNat + 1) := by
      have e1 : p.vs[at_.toNat]? = some r := hr
      have e2 := List.getElem?_eq_some_iff.mp e1
      rw [← e2.2, ← List.drop_eq_getElem_cons hat2, List.take_append_drop]
    have hnames : (((p.vs.take at_.toNat ++ [wr]) ++ p.vs.drop (at_.toNat + 1))).map (·.1) = p.vs.map (·.1) := by
      have e3 := congrArg (List.map fun r : Row => r.1) hsplit
      rw [e3, List.map_append, List.map_append, List.map_append, List.append_assoc]
      show _ ++ ([wr.1] ++ _) = _ ++ (r.1 :: _)
      rw [hwn]
      rfl
    generalize hV : (p.vs.take at_.toNat ++ [wr]) ++ p.vs.drop (at_.toNat + 1) = V at hnames ⊢
    have hVl : V.length = p.vs.length := by
      have := congrArg List.length hnames
      rw [List.length_map, List.length_map] at this
      exact this
    have hVr : ∀ z ∈ V, RwR z ∧ Nam z.1 := fun z hz => by
      rw [← hV] at hz
      simp only [List.mem_append, List.mem_singleton] at hz
      rcases hz with (h | h) | h
      · exact hr0.r z (by simp [List.mem_of_mem_take h])
      · rw [h]
        exact ⟨hwr, by rw [hwn]; exact hnr⟩
      · exact hr0.r z (by simp [List.mem_of_mem_drop h])
    have hOld : (V ++ p.ins ++ p.ns).map (·.1) = (p.vs ++ p.ins ++ p.ns).map (·.1) := by
      rw [List.map_append, List.map_append, hnames, ← List.map_append, ← List.map_append]
    have hOld2 : (V ++ p.ins).map (·.1) = (p.vs ++ p.ins).map (·.1) := by rw [List.map_append, hnames, ← List.map_append]
    have hstV : Strange S (V ++ p.ins ++ p.ns) := ⟨hst.wd, hst.len, hst.q, fun z hz => by
      have hm : z.1 ∈ (V ++ p.ins ++ p.ns).map (·.1) := List.mem_map.mpr ⟨z, hz, rfl⟩
      rw [hOld] at hm
      obtain ⟨z', hz', e⟩ := List.mem_map.mp hm
      rw [← e]
      exact hst.lt z' hz'⟩
    have hmr : ∀ k : Nat, k < 3 → ∀ z ∈ mrows S k, RwR z ∧ Nam z.1 := fun k hk z hz => by
      obtain ⟨j, hj, rfl⟩ := List.mem_map.mp hz
      exact hst.row hk (List.mem_range.mp hj)
    have hml : ∀ k : Nat, (mrows S k).length = 6 := fun k => rfl
    have hlv2 := hr0.lv
    have hsub : ∀ y ∈ (p.vs ++ p.ins ++ p.ns).map (·.1), y ∈ ((V ++ mrows S 0) ++ (p.ins ++ mrows S 1) ++ (p.ns ++ mrows S 2)).map (·.1) := fun y hy => by
      rw [← hOld] at hy
      obtain ⟨z, hz, rfl⟩ := List.mem_map.mp hy
      refine List.mem_map.mpr ⟨z, ?_, rfl⟩
      simp only [List.mem_append] at hz ⊢
      rcases hz with (h | h) | h <;> simp [h]
    have hb := hr0.bd
    refine ⟨hstV.nd (by rw [hOld]; exact hr0.nd), fun z hz => ?_, ?_, ?_, ?_, ?_, fun i hi => ?_, ⟨okx_mono (fun y hy => ?_) hr0.a.1, hr0.a.2⟩, hb⟩
    · simp only [List.mem_append] at hz
      rcases hz with ((h | h) | (h | h)) | (h | h)
      · exact hVr z h
      · exact hmr 0 (by decide) z h
      · exact hr0.r z (by simp [h])
      · exact hmr 1 (by decide) z h
      · exact hr0.r z (by simp [h])
      · exact hmr 2 (by decide) z h
    · show (V ++ mrows S 0).length ≤ 30 ∧ (p.ins ++ mrows S 1).length ≤ 30 ∧ (p.ns ++ mrows S 2).length ≤ 30
      rw [List.length_append, List.length_append, List.length_append, hml, hml, hml]
      omega
    · show (V ++ mrows S 0).length + (p.ins ++ mrows S 1).length + (p.ns ++ mrows S 2).length ≤ 60
      rw [List.length_append, List.length_append, List.length_append, hml, hml, hml]
      have := hpd.few
      rw [hpd.nm, List.length_map, List.length_append, List.length_append] at this
      omega
    · show V ++ mrows S 0 ≠ []
      intro e
      have := congrArg List.length e
      rw [List.length_append, hml] at this
      cases this
    · show (p.st ++ (mrows S 0).map _).length = (V ++ mrows S 0).length
      rw [List.length_append, List.length_append, List.length_map, hVl, hlst]
    · rcases List.mem_append.mp hi with h | h
      · obtain ⟨a1, a2⟩ := hr0.s i h
        exact ⟨okx_mono hsub a1, a2⟩
      · obtain ⟨z, hz, rfl⟩ := List.mem_map.mp h
        refine ⟨.name (List.mem_map.mpr ⟨z, by simp [hz], rfl⟩), by rw [It.dep]; decide, by rw [It.sz]; decide⟩
    · obtain ⟨z, hz, rfl⟩ := List.mem_map.mp (by rw [hOld2]; exact hy : y ∈ (V ++ p.ins).map (·.1))
      refine List.mem_map.mpr ⟨z, ?_, rfl⟩
      simp only [List.mem_append] at hz ⊢
      rcases hz with h | h <;> simp [h]
  · show (((p.vs.take at_.toNat ++ [wr]) ++ p.vs.drop (at_.toNat + 1)) ++ mrows S 0).length ≤ 22 ∧ (((p.vs.take at_.toNat ++ [wr]) ++ p.vs.drop (at_.toNat + 1)) ++ mrows S 0).length + (p.ins ++ mrows S 1).length + (p.ns ++ mrows S 2).length ≤ 34
    have hml : ∀ k : Nat, (mrows S k).length = 6 := fun k => rfl
    have := hpd.few
    rw [hpd.nm, List.length_map, List.length_append, List.length_append] at this
    rw [List.length_append, List.length_append, List.length_append, List.length_append, List.length_append, hml, hml, hml, List.length_take, List.length_drop, List.length_singleton]
    omega
  · rcases List.mem_append.mp hi with h | h
    · exact (hg.s i h).2
    · obtain ⟨z, _, rfl⟩ := List.mem_map.mp h
      exact ⟨by rw [It.dep]; decide, by rw [It.sz]; decide⟩
end
end NL

namespace NL
open PySem PySem.Spec PyProof.Rows L2
def heads : List Str := ["state", "input", "noise", "next", "allow"]
theorem heads_nam : ∀ z ∈ heads, Wd z ∧ 0 < z.length ∧ z.length ≤ 200 ∧ z ∉ res := by decide +kernel
theorem head_nam {z : Str} (h : z ∈ heads) : Nam z := by
  obtain ⟨a, b, c, e⟩ := heads_nam z h
  exact ⟨a, ⟨b, c⟩, e⟩
theorem plr_called {p : Pl} {B : Nat} (h : PlR p B) (hl : p.vs.length ≤ 22 ∧ p.vs.length + p.ins.length + p.ns.length ≤ 34) {z : Str} (hz : z ∈ heads) (hn : z ∉ (p.vs ++ p.ins ++ p.ns).map (·.1)) : PlR ⟨(z, -1, -1) :: p.vs, p.ins, p.ns, .bin "sub" (.name z) (.num 0) :: p.st, p.al⟩ B := by
  have hnam := head_nam hz
  have hlv := h.lv
  refine ⟨List.nodup_cons.mpr ⟨hn, h.nd⟩, fun r hr => ?_, ?_, ?_, List.cons_ne_nil _ _, congrArg Nat.succ h.ls, fun i hi => ?_, ⟨okx_mono (fun y hy => List.mem_cons_of_mem _ hy) h.a.1, h.a.2⟩, h.bd⟩
  · rcases List.mem_cons.mp hr with rfl | hr
    · exact ⟨⟨isN_nam hnam, hnam.len.2, by show Int.natAbs (-1) < 10 ^ 60; decide, by show Int.natAbs (-1) < 10 ^ 60; decide, Int.le_refl _⟩, hnam⟩
    · exact h.r r hr
  · show p.vs.length + 1 ≤ 30 ∧ p.ins.length ≤ 30 ∧ p.ns.length ≤ 30
    omega
  · show p.vs.length + 1 + p.ins.length + p.ns.length ≤ 60
    omega
  · rcases List.mem_cons.mp hi with rfl | hi
    · exact ⟨.bin (by decide +kernel) (.name List.mem_cons_self) (.num (Nat.zero_le _)), by simp [It.dep], by simp [It.sz]⟩
    · obtain ⟨a, b⟩ := h.s i hi
      exact ⟨okx_mono (fun y hy => List.mem_cons_of_mem _ hy) a, b⟩
section
variable {P : Program} {w : World} {K : PySem.W.Frag} {mg : Str → Option Value} {base : Heap}
/-! ### _law_called -/
def spCalled (B : Nat) : Sp := fun vs H Q _ => ∃ (d : Addr) (v : V) (p : Pl), vs = [.ref d, v] ∧ Dr H d ∧ PlIn H p v ∧ PlR p B ∧ p.vs.length ≤ 22 ∧ p.vs.length + p.ins.length + p.ns.length ≤ 34 ∧ Shal p ∧
  ∀ v' p' H', Go d H H' → PlIn H' p' v' → PlR p' B → Shal p' → Q v' H'
theorem ok_law_called {B : Nat} (T : Txt K mg) : FnOk P w K mg base CX0 2 T.a_law_called T.d_law_called P_law_called (spCalled B) := by
  have G_law_take := ok_law_take (P := P) (w := w) (base := base) T
  refine T.F_law_called.ok sc_law_called (fun vs H Q E h => ?_) (fun cdv A outer s H vs Q E hr h => ?_)
  · obtain ⟨d, v, p, rfl, _⟩ := h
    rfl
  obtain ⟨d, v, p, rfl, hD, hpl, hp, hl1, hl2, hsh, q⟩ := h
  obtain ⟨a, v1, v2, v3, vl, st, sx, rfl, e0, ⟨t1, x1, rfl, et1, hr1⟩, ⟨t2, x2, rfl, et2, hr2⟩, ⟨t3, x3, rfl, et3, hr3⟩, e4, hk, hal⟩ := id hpl
  refine ⟨_, (pss_cons (ps_set (i := 2) sc_law_called.nd rfl (Or.inl rfl) (pe_ix ix_list (pe_lst (pa_cons pe_str (pa_cons pe_str (pa_cons pe_str (pa_cons pe_str (pa_cons pe_str pa_nil)))))) (pe_call G_law_take (hr.mono (by omega)) (by rfl) T.m_law_take T.F_law_take.kp T.b_law_take .nil pass0 (pa_cons (pv 0) (pa_cons pe_int pa_nil))) (fun _ _ => rfl)))
    (pss_cons (ps_setLc (i := 3) (own := [("row", 4)]) (g := (gName 4)) (tt := tYes) rfl sc_law_called.nd rfl rfl (sw_true rfl rfl rfl (by decide +kernel)) (pi_tup (pe_op op_catA (pe_op op_catA (pe_ix ix_tup (pv 1) pe_int (fun _ _ => rfl)) (pe_ix ix_tup (pv 1) pe_int (fun _ _ => rfl))) (pe_ix ix_tup (pv 1) pe_int (fun _ _ => rfl)))) (blkOk_by (N := N_law_called) (sc := defScope s_law_called) (by decide +kernel)) (fun _ _ _ _ _ => (pg_name (i := 4) sc_law_called.nd rfl (Or.inl rfl))) (fun _ _ _ _ _ => pts_nil) (fun _ _ _ _ _ => (pe_ix (ix_tupK (K := K) rfl) (pv 4) pe_int (fun _ _ => rfl))))
    (pss_cons (ps_if (pt_cmpR op_in_seq (pv 2) (pv 3) (by rfl))
    (pss_one (ps_ret (pv 1)))
    pss_nil)
    (pss_cons (ps_set (i := 5) sc_law_called.nd rfl (Or.inl rfl) (pe_op op_catA (pe_tup (pa_cons (pe_tup (pa_cons (pv 2) (pa_cons (pe_un un_neg pe_int) (pa_cons (pe_un un_neg pe_int) pa_nil)))) pa_nil)) (pe_ix ix_tup (pv 1) pe_int (fun _ _ => rfl))))
    (pss_one (ps_ret (pe_tup (pa_cons (pv 5) (pa_cons (pe_ix ix_tup (pv 1) pe_int (fun _ _ => rfl)) (pa_cons (pe_ix ix_tup (pv 1) pe_int (fun _ _ => rfl)) (pa_cons (pe_op op_catA (pe_tup (pa_cons (pe_tup (pa_cons pe_str (pa_cons (pe_tup (pa_cons pe_str (pa_cons (pv 2) pa_nil))) (pa_cons (pe_tup (pa_cons pe_str (pa_cons pe_int pa_nil))) pa_nil)))) pa_nil)) (pe_ix ix_tup (pv 1) pe_int (fun _ _ => rfl))) (pa_cons (pe_ix ix_tup (pv 1) pe_int (fun _ _ => rfl)) pa_nil)))))))))))), ?_⟩
  refine ⟨(Nat.le_of_ble_eq_true rfl), fun p1 hp1 => ?_⟩
  have g1 := fun o => Go.new (o := o) hD hp1
  have n1 := new_ne hD hp1
  refine ⟨_, rfl, d, _, rfl, (g1 _).dr, (by decide), fun u H2 g2 u0 u1 => ?_⟩
  have e6 := g2.fr p1 _ n1 upd_same
  obtain ⟨nm, hv, hm⟩ := atI_map (f := V.str) (xs := heads) u0 u1
  refine ⟨_, _, _, _, rfl, rfl, sqd e6, hv, ?_⟩
  have g12 := (g1 (.lst (heads.map V.str))).trans g2
  have h0 := g12.tup hD e0
  have h1 := g12.tup hD et1
  have h2 := g12.tup hD et2
  have h3 := g12.tup hD et3
  have t12 := g12.tp hD
  have hlx1 := hr1.1
  have hlx2 := hr2.1
  have hlx3 := hr3.1
  refine ⟨_, rfl, a, _, 0, _, rfl, rfl, sqt h0, atI0, _, rfl, a, _, 1, _, rfl, rfl, sqt h0, atI1, ?_⟩
  refine catA_of h1 h2 (by omega) fun q1 H5 s5 e5 => ?_
  refine ⟨_, rfl, a, _, 2, _, rfl, rfl, sqt (s5 _ _ h0), atI2, ?_⟩
  refine catA_of e5 (s5 _ _ h3) (by rw [List.length_append]; omega) fun q2 H6 s6 e7 => ?_
  have s46 := s5.trans s6
  have hall : RowsAt H6 ((p.vs ++ p.ins) ++ p.ns) ((x1 ++ x2) ++ x3) := (((hr1.mono t12).app (hr2.mono t12)).app (hr3.mono t12)).mono (Tp.same s46)
  refine ⟨q2, rfl, ⟨_, sqt e7⟩, fun D hDn => ?_⟩
  have g6 : Go d H H6 := g12.trans (.same g12.dr s46)
  refine lc_tup (K := K) (a := q2) (xs := (x1 ++ x2) ++ x3) (fun (j : Nat) (H' : Hp) => Same H6 H' ∧ H' D = some (.lst (((((p.vs ++ p.ins) ++ p.ns).take j).map (·.1)).map V.str))) ?_ ?_ ?_ ?_
  · exact ⟨same_new hDn _, by rw [upd_same, List.take_zero]; rfl⟩
  · rintro j H' _ ⟨s7, _⟩
    exact sqt (s7 _ _ e7)
  · rintro j x H' hx ⟨s7, eD⟩
    obtain ⟨r, hr, ⟨rq, rfl, hrq⟩, hm⟩ := hall.get hx
    refine ⟨rfl, yes_if ?_⟩
    refine ⟨_, rfl, rq, _, 0, _, rfl, rfl, sqt (s7 _ _ hrq), atI0, _, eD, ?_, same_put s7 hDn, ?_⟩
    · rw [List.length_map, List.length_map, List.length_take, List.length_append, List.length_append]
      exact small1000 (by omega)
    · rw [upd_same, List.take_add_one, hr, List.map_append, List.map_append]
      rfl
  rintro H7 ⟨s7, eD⟩
  rw [hall.1, List.take_length] at eD
  have s27 := s46.trans s7
  have g7 : Go d H H7 := g12.trans (.same g12.dr s27)
  refine ⟨_, rfl, _, rfl, D, _, rfl, .inl (sqd eD), rfl, flat_strs' _, _, congrArg V.bl (inB rfl), ?_⟩
  refine ite2 (fun z => ?_) (fun z => ?_)
  · exact ⟨_, rfl, q _ p H7 g7 (hpl.mono (g7.tp hD)) hp hsh⟩
  have hnn : nm ∉ ((p.vs ++ p.ins) ++ p.ns).map (·.1) := fun h => z (decide_eq_true h)
  refine ⟨_, rfl, _, rfl, _, rfl, Nat.le_of_ble_eq_true rfl, fun b1 hb1 => ⟨Nat.le_of_ble_eq_true rfl, fun b2 hb2 => ?_⟩⟩
  have s29 := s27.trans ((same_new hb1 _).trans (same_new hb2 (HO.tup [V.ref b1])))
  refine ⟨_, rfl, a, _, 0, _, rfl, rfl, sqt (s29 _ _ h0), atI0, ?_⟩
  refine catA_of upd_same (s29 _ _ h1) (by rw [List.length_singleton]; omega) fun q3 H8 sA eA => ?_
  have s28 := s29.trans sA
  have hrow0 : RowIn H8 (nm, -1, -1) (.ref b1) := ⟨b1, rfl, sA _ _ (same_new hb2 _ _ _ upd_same)⟩
  refine ⟨_, rfl, _, rfl, a, _, 1, _, rfl, rfl, sqt (s28 _ _ h0), atI1, _, rfl, a, _, 2, _, rfl, rfl, sqt (s28 _ _ h0), atI2, _, rfl, Nat.le_of_ble_eq_true rfl, fun a1 ha1 => ⟨Nat.le_of_ble_eq_true rfl, fun a2 ha2 => ⟨Nat.le_of_ble_eq_true rfl, fun a3 ha3 => ⟨Nat.le_of_ble_eq_true rfl, fun a4 ha4 => ?_⟩⟩⟩⟩
  have u2 := (same_new ha1 _).trans (same_new ha2 (HO.tup [V.str "number", V.int 0]))
  have u3 := u2.trans (same_new ha3 (HO.tup [V.str "sub", V.ref a1, V.ref a2]))
  have u4 := u3.trans (same_new ha4 (HO.tup [V.ref a3]))
  have s2U := s28.trans u4
  have w3 := same_new ha4 (HO.tup [V.ref a3])
  have w2 := (same_new ha3 (HO.tup [V.str "sub", V.ref a1, V.ref a2])).trans w3
  have w1 := (same_new ha2 (HO.tup [V.str "number", V.int 0])).trans w2
  have hitem := ItemIn.bin (w := "sub") (i := .name nm) (j := .num 0) (w3 _ _ upd_same) (.name (w1 _ _ upd_same)) (.num (w2 _ _ upd_same))
  refine ⟨_, rfl, a, _, 3, _, rfl, rfl, sqt (s2U _ _ h0), atI_nat (j := 3) rfl, ?_⟩
  have h4 := s2U _ _ (g12.tup hD e4)
  have hkl := hk.1
  have hls := hp.ls
  refine catA_of upd_same h4 (by rw [List.length_singleton]; omega) fun q5 H9 sB eB => ?_
  have s2V := s2U.trans sB
  refine ⟨_, rfl, a, _, 4, _, rfl, rfl, sqt (s2V _ _ h0), atI_nat (j := 4) rfl, Nat.le_of_ble_eq_true rfl, fun pJ hpJ => ?_⟩
  have sJ := same_new hpJ (HO.tup [V.ref q3, V.ref t2, V.ref t3, V.ref q5, vl])
  have gE : Go d H (upd H9 pJ (HO.tup [V.ref q3, V.ref t2, V.ref t3, V.ref q5, vl])) := g12.trans (.same g12.dr (s2V.trans sJ))
  have tE := gE.tp hD
  have s8E := (u4.trans sB).trans sJ
  refine q _ ⟨(nm, -1, -1) :: p.vs, p.ins, p.ns, .bin "sub" (.name nm) (.num 0) :: p.st, p.al⟩ _ gE ⟨pJ, _, _, _, _, q5, _, rfl, upd_same, ⟨q3, _, rfl, s8E _ _ eA, ?_⟩, ⟨t2, x2, rfl, tE _ _ et2, hr2.mono tE⟩, ⟨t3, x3, rfl, tE _ _ et3, hr3.mono tE⟩, sJ _ _ eB, ?_, hal.mono tE⟩ (plr_called hp ⟨hl1, hl2⟩ hm hnn) ⟨fun i hi => ?_, hsh.2⟩
  · exact (rows1 (hrow0.mono (.same s8E))).app (hr1.mono tE)
  · exact Kids.cons (hitem.mono (.same (sB.trans sJ))) (hk.mono tE)
  · rcases List.mem_cons.mp hi with rfl | hi
    · exact ⟨by simp [It.dep], by simp [It.sz]⟩
    · exact hsh.1 i hi
end
end NL

namespace NL
open PySem PySem.Spec PyProof.Rows L2
/-! ### two values that are the same, part by part -/
def Alike : Nat → Hp → V → V → Prop
  | 0, _, _, _ => False
  | n + 1, H, u, v => (∃ s, u = .str s ∧ v = .str s) ∨ (∃ i, u = .int i ∧ v = .int i) ∨ ∃ a b xs ys, u = .ref a ∧ v = .ref b ∧ H a = some (.tup xs) ∧ H b = some (.tup ys) ∧ xs.length = ys.length ∧ ys.length ≤ 1000 ∧
      ∀ (k : Nat) x y, xs[k]? = some x → ys[k]? = some y → Alike n H x y
theorem Alike.up {H : Hp} : ∀ {n : Nat} {u v : V}, Alike n H u v → Alike (n + 1) H u v
  | 0, _, _, h => h.elim
  | n + 1, u, v, h => by
    rcases h with h | h | ⟨a, b, xs, ys, h1, h2, h3, h4, h5, h6, h7⟩
    · exact .inl h
    · exact .inr (.inl h)
    · exact .inr (.inr ⟨a, b, xs, ys, h1, h2, h3, h4, h5, h6, fun k x y hx hy => (h7 k x y hx hy).up⟩)
theorem Alike.s {n : Nat} {H : Hp} {s : Str} : Alike (n + 1) H (.str s) (.str s) := .inl ⟨s, rfl, rfl⟩
theorem Alike.i {n : Nat} {H : Hp} {i : Int} : Alike (n + 1) H (.int i) (.int i) := .inr (.inl ⟨i, rfl, rfl⟩)
def AllA (n : Nat) (H : Hp) (xs ys : List V) : Prop := xs.length = ys.length ∧ ∀ (k : Nat) x y, xs[k]? = some x → ys[k]? = some y → Alike n H x y
theorem AllA.nil {n : Nat} {H : Hp} : AllA n H [] [] := ⟨rfl, fun k x y h _ => by simp at h⟩
theorem AllA.cons {n : Nat} {H : Hp} {x y : V} {xs ys : List V} (h : Alike n H x y) (g : AllA n H xs ys) : AllA n H (x :: xs) (y :: ys) := ⟨by rw [List.length_cons, List.length_cons, g.1], fun k a b ha hb => by
  cases k with
  | zero => cases Option.some.inj ha; cases Option.some.inj hb; exact h
  | succ k => exact g.2 k a b (by simpa using ha) (by simpa using hb)⟩
theorem Alike.t {n : Nat} {H : Hp} {a b : Addr} {xs ys : List V} (e : H a = some (.tup xs)) (f : H b = some (.tup ys)) (h : AllA n H xs ys) (hl : ys.length ≤ 1000) : Alike (n + 1) H (.ref a) (.ref b) := .inr (.inr ⟨a, b, xs, ys, rfl, rfl, e, f, h.1, hl, h.2⟩)
theorem item_alike {H : Hp} {xs : List Str} {B : Nat} : ∀ (n : Nat) {b : Bool} {i : It} {u v : V}, i.dep ≤ n → Okx xs B b i → ItemIn H i u → ItemIn H i v → Alike (2 * n + 1) H u v
  | 0, b, i, u, v, hd, _, _, _ => by
    have := dep_pos i
    omega
  | n + 1, b, i, u, v, hd, ho, h, g => by
    have ih := fun {b : Bool} {j : It} {u v : V} (hj : j.dep ≤ n) (o : Okx xs B b j) (h : ItemIn H j u) (g : ItemIn H j v) => item_alike n hj o h g
    show Alike (2 * n + 1 + 1 + 1) H u v
    cases h with
    | num e => cases g with | num f => exact .t e f (.cons .s (.cons .i .nil)) (Nat.le_of_ble_eq_true rfl)
    | name e => cases g with | name f => exact .t e f (.cons .s (.cons .s .nil)) (Nat.le_of_ble_eq_true rfl)
    | lit e => cases g with | lit f => exact .t e f (.cons .s .nil) (Nat.le_of_ble_eq_true rfl)
    | un e h1 =>
      cases g with
      | un f g1 =>
        rw [It.dep] at hd
        refine .t e f (.cons .s (.cons ?_ .nil)) (Nat.le_of_ble_eq_true rfl)
        cases ho with
        | abs o => exact (ih (by omega) o h1 g1).up
        | not o => exact (ih (by omega) o h1 g1).up
    | dm e h1 =>
      cases g with
      | dm f g1 =>
        rw [It.dep] at hd
        cases ho with
        | dm _ o _ _ => exact .t e f (.cons .s (.cons (ih (by omega) o h1 g1).up (.cons .i .nil))) (Nat.le_of_ble_eq_true rfl)
    | bin e h1 h2 =>
      cases g with
      | bin f g1 g2 =>
        rw [It.dep] at hd
        cases ho with
        | bin _ o p => exact .t e f (.cons .s (.cons (ih (by omega) o h1 g1).up (.cons (ih (by omega) p h2 g2).up .nil))) (Nat.le_of_ble_eq_true rfl)
        | cmp _ o p => exact .t e f (.cons .s (.cons (ih (by omega) o h1 g1).up (.cons (ih (by omega) p h2 g2).up .nil))) (Nat.le_of_ble_eq_true rfl)
    | tri e h1 h2 h3 =>
      cases g with
      | tri f g1 g2 g3 =>
        rw [It.dep] at hd
        cases ho with
        | tri o p q => exact .t e f (.cons .s (.cons (ih (by omega) o h1 g1).up (.cons (ih (by omega) p h2 g2).up (.cons (ih (by omega) q h3 g3).up .nil)))) (Nat.le_of_ble_eq_true rfl)
    | grp e e2 hl hk =>
      cases g with
      | grp f f2 gl gk =>
        rw [It.dep] at hd
        cases ho with
        | grp _ hll hall =>
          refine .t e f (.cons .s (.cons (.t e2 f2 ⟨by rw [hl, gl], fun k x y hx hy => ?_⟩ (by rw [gl]; omega)) .nil)) (Nat.le_of_ble_eq_true rfl)
          have hkl := (List.getElem?_eq_some_iff.mp hx).1
          rw [hl] at hkl
          have ej := List.getElem?_eq_getElem hkl
          have hmem := List.getElem_mem hkl
          have h1 := depL_in hmem
          exact ih (by omega) (hall _ hmem) (hk k _ x ej hx) (gk k _ y ej hy)
section
variable {P : Program} {w : World} {K : PySem.W.Frag} {mg : Str → Option Value} {base : Heap}
/-! ### _law_same -/
def spSame (n : Nat) : Sp := fun vs H Q _ => ∃ u v : V, vs = [u, v] ∧ Alike n H u v ∧ Q (.bl true) H
theorem ok_law_same (T : Txt K mg) : ∀ n : Nat, FnOk P w K mg base CX0 (n + 1) T.a_law_same T.d_law_same P_law_same (spSame n)
  | 0 => by
    have no : ∀ vs H Q E, ¬ spSame 0 vs H Q E := fun vs H Q E ⟨u, v, _, h, _⟩ => h
    exact ⟨fun vs H Q E h => absurd h (no vs H Q E), fun A outer s H args us vs Q E _ _ _ _ h => absurd h (no vs H Q E)⟩
  | n + 1 => by
    have G_law_same := ok_law_same T n
    refine T.F_law_same.ok sc_law_same (fun vs H Q E h => ?_) (fun cdv A outer s H vs Q E hr h => ?_)
    · obtain ⟨u, v, rfl, _⟩ := h
      rfl
    obtain ⟨u, v, rfl, h, q⟩ := h
    refine ⟨_, (pss_cons (ps_if (PW.pt (pw_or (pt_val (pe_callB (call_isi) (by rfl) T.z_isinstance (by decide +kernel) (pa_cons (pv 1) (pa_cons (pe_bltn (v := .ty "tuple") (u := .type "tuple") (by rfl) T.z_tuple (by decide +kernel) rfl) pa_nil)))) (pw_or1 (pt_val (pe_callB (call_isi) (by rfl) T.z_isinstance (by decide +kernel) (pa_cons (pv 1) (pa_cons (pe_bltn (v := .ty "list") (u := .type "list") (by rfl) T.z_list (by decide +kernel) rfl) pa_nil)))))))
    (pss_cons (ps_if (PW.pt (pw_and (pt_val (pe_callB (call_isi) (by rfl) T.z_isinstance (by decide +kernel) (pa_cons (pv 1) (pa_cons (pe_bltn (v := .ty "tuple") (u := .type "tuple") (by rfl) T.z_tuple (by decide +kernel) rfl) pa_nil)))) (pw_and1 (pt_not (pt_val (pe_callB (call_isi) (by rfl) T.z_isinstance (by decide +kernel) (pa_cons (pv 0) (pa_cons (pe_bltn (v := .ty "tuple") (u := .type "tuple") (by rfl) T.z_tuple (by decide +kernel) rfl) pa_nil))))))))
    (pss_one (ps_ret pe_bl))
    pss_nil)
    (pss_cons (ps_if (PW.pt (pw_and (pt_val (pe_callB (call_isi) (by rfl) T.z_isinstance (by decide +kernel) (pa_cons (pv 1) (pa_cons (pe_bltn (v := .ty "list") (u := .type "list") (by rfl) T.z_list (by decide +kernel) rfl) pa_nil)))) (pw_and1 (pt_not (pt_val (pe_callB (call_isi) (by rfl) T.z_isinstance (by decide +kernel) (pa_cons (pv 0) (pa_cons (pe_bltn (v := .ty "list") (u := .type "list") (by rfl) T.z_list (by decide +kernel) rfl) pa_nil))))))))
    (pss_one (ps_ret pe_bl))
    pss_nil)
    (pss_cons (ps_if (pt_cmpR op_ne (pe_callB call_len_seq (by rfl) T.z_len PySem.boot_len (pa_cons (pv 0) pa_nil)) (pe_callB call_len_seq (by rfl) T.z_len PySem.boot_len (pa_cons (pv 1) pa_nil)) (nomark _))
    (pss_one (ps_ret pe_bl))
    pss_nil)
    (pss_cons (ps_for  PassesOwn.never rfl (pi_range1 (by rfl) T.z_range (pa_cons (pe_callB call_len_seq (by rfl) T.z_len PySem.boot_len (pa_cons (pv 1) pa_nil)) pa_nil)) (pg_name (i := 2) sc_law_same.nd rfl (Or.inl rfl))
    (pss_one (ps_if (pt_not (pt_val (pe_call G_law_same (hr.mono (by omega)) (by rfl) T.m_law_same T.F_law_same.kp T.b_law_same .nil pass0 (pa_cons (pe_ix ix_tup (pv 0) (pv 2) (fun _ _ => rfl)) (pa_cons (pe_ix ix_tup (pv 1) (pv 2) (fun _ _ => rfl)) pa_nil)))))
    (pss_one (ps_ret pe_bl))
    pss_nil)))
    (pss_one (ps_ret pe_bl))))))
    pss_nil)
    (pss_cons (ps_if (pt_val (pe_callB (call_isi) (by rfl) T.z_isinstance (by decide +kernel) (pa_cons (pv 1) (pa_cons (pe_bltn (v := .ty "str") (u := .type "str") (by rfl) T.z_str (by decide +kernel) rfl) pa_nil))))
    (pss_one (ps_ret (pe_and (pe_callB (call_isi) (by rfl) T.z_isinstance (by decide +kernel) (pa_cons (pv 0) (pa_cons (pe_bltn (v := .ty "str") (u := .type "str") (by rfl) T.z_str (by decide +kernel) rfl) pa_nil))) (pe_one (pe_cmpR op_eq (pv 0) (pv 1) (nomark _))))))
    pss_nil)
    (pss_cons (ps_if (pt_val (pe_callB (call_isi) (by rfl) T.z_isinstance (by decide +kernel) (pa_cons (pv 1) (pa_cons (pe_bltn (v := .ty "bool") (u := .type "bool") (by rfl) T.z_bool (by decide +kernel) rfl) pa_nil))))
    (pss_one (ps_ret (pe_and (pe_callB (call_isi) (by rfl) T.z_isinstance (by decide +kernel) (pa_cons (pv 0) (pa_cons (pe_bltn (v := .ty "bool") (u := .type "bool") (by rfl) T.z_bool (by decide +kernel) rfl) pa_nil))) (pe_one (pe_cmpR op_eq (pv 0) (pv 1) (nomark _))))))
    pss_nil)
    (pss_one (ps_ret (pe_and (pe_callB (call_isi) (by rfl) T.z_isinstance (by decide +kernel) (pa_cons (pv 0) (pa_cons (pe_bltn (v := .ty "int") (u := .type "int") (by rfl) T.z_int (by decide +kernel) rfl) pa_nil))) (pe_and (pe_not (pe_callB (call_isi) (by rfl) T.z_isinstance (by decide +kernel) (pa_cons (pv 0) (pa_cons (pe_bltn (v := .ty "bool") (u := .type "bool") (by rfl) T.z_bool (by decide +kernel) rfl) pa_nil)))) (pe_one (pe_cmpR op_eq (pv 0) (pv 1) (nomark _)))))))))), ?_⟩
    rcases h with ⟨s, rfl, rfl⟩ | ⟨i, rfl, rfl⟩ | ⟨a, b, xs, ys, rfl, rfl, ea, eb, hl, hz, hall⟩
    · refine ⟨_, rfl, _, _, .type "str", .type "tuple", false, rfl, .ty "tuple", .base (.str _), kit_ty (by decide +kernel), false, rfl, ?_⟩
      refine iteF ⟨_, rfl, _, _, .type "str", .type "list", false, rfl, .ty "list", .base (.str _), kit_ty (by decide +kernel), false, rfl, ?_⟩
      refine iteF ⟨_, rfl, _, _, .type "str", .type "str", true, rfl, .ty "str", .base (.str _), kit_ty (by decide +kernel), true, rfl, ?_⟩
      refine iteT ⟨_, rfl, _, _, .type "str", .type "str", true, rfl, .ty "str", .base (.str _), kit_ty (by decide +kernel), true, rfl, ?_⟩
      exact iteT ⟨_, rfl, _, rfl, rfl, boolE (decide_eq_true rfl) q⟩
    · refine ⟨_, rfl, _, _, .type "int", .type "tuple", false, rfl, .ty "tuple", .base (.int _), kit_ty (by decide +kernel), false, rfl, ?_⟩
      refine iteF ⟨_, rfl, _, _, .type "int", .type "list", false, rfl, .ty "list", .base (.int _), kit_ty (by decide +kernel), false, rfl, ?_⟩
      refine iteF ⟨_, rfl, _, _, .type "int", .type "str", false, rfl, .ty "str", .base (.int _), kit_ty (by decide +kernel), false, rfl, ?_⟩
      refine iteF ⟨_, rfl, _, _, .type "int", .type "bool", false, rfl, .ty "bool", .base (.int _), kit_ty (by decide +kernel), false, rfl, ?_⟩
      refine iteF ⟨_, rfl, _, _, .type "int", .type "int", true, rfl, .ty "int", .base (.int _), kit_ty (by decide +kernel), true, rfl, ?_⟩
      refine iteT ⟨_, rfl, _, _, .type "int", .type "bool", false, rfl, .ty "bool", .base (.int _), kit_ty (by decide +kernel), false, rfl, true, rfl, ?_⟩
      exact iteT ⟨_, rfl, _, rfl, rfl, boolE (decide_eq_true rfl) q⟩
    · refine ⟨_, rfl, _, _, .type "tuple", .type "tuple", true, rfl, .ty "tuple", .base (.tup eb), kit_ty (by decide +kernel), true, rfl, ?_⟩
      refine iteT (iteT ?_)
      refine ⟨_, rfl, _, _, .type "tuple", .type "tuple", true, rfl, .ty "tuple", .base (.tup eb), kit_ty (by decide +kernel), true, rfl, ?_⟩
      refine iteT ⟨_, rfl, _, _, .type "tuple", .type "tuple", true, rfl, .ty "tuple", .base (.tup ea), kit_ty (by decide +kernel), true, rfl, ?_⟩
      refine iteF ?_
      refine ⟨_, rfl, _, _, .type "tuple", .type "list", false, rfl, .ty "list", .base (.tup eb), kit_ty (by decide +kernel), false, rfl, ?_⟩
      refine iteF (iteF ?_)
      refine ⟨_, rfl, a, _, rfl, .inr (sqt ea), _, rfl, b, _, rfl, .inr (sqt eb), rfl, _, rfl, ?_⟩
      refine ifF (by rw [hl, decide_eq_true rfl] <;> rfl) ?_
      refine ⟨_, rfl, b, _, rfl, .inr (sqt eb), _, rfl, by omega, by omega, for_range (lo := 0) (n := ys.length) (fun j σ H' => ∃ y : Option V, σ = [some (.ref a), some (.ref b), y] ∧ H' = H) ?_ ?_ ?_⟩
      · exact ⟨none, rfl, rfl⟩
      · rintro j σ H' hj ⟨y, rfl, rfl⟩
        have hjx : xs[j]? = some xs[j] := List.getElem?_eq_getElem (by omega)
        have hjy : ys[j]? = some ys[j] := List.getElem?_eq_getElem hj
        have e0 : (0 : Int) + (j : Int) = (j : Int) := Int.zero_add _
        refine ⟨_, rfl, _, rfl, a, _, _, _, rfl, rfl, sqt ea, by rw [e0]; exact atI_nat hjx, _, rfl, _, rfl, b, _, _, _, rfl, rfl, sqt eb, by rw [e0]; exact atI_nat hjy, ?_⟩
        refine ⟨_, _, rfl, hall j _ _ hjx hjy, true, rfl, ?_⟩
        exact iteF ⟨_, rfl, rfl⟩
      · rintro σ H' ⟨y, rfl, rfl⟩
        exact q
end
end NL

namespace NL
open PySem PySem.Spec PyProof.Rows L2
/-! ### the same plant, read twice -/
theorem Alike.upto {H : Hp} {n : Nat} {u v : V} (h : Alike n H u v) : ∀ {m : Nat}, n ≤ m → Alike m H u v
  | 0, hm => by
    rw [Nat.le_zero.mp hm] at h
    exact h
  | m + 1, hm => by
    rcases Nat.lt_or_ge n (m + 1) with g | g
    · exact (Alike.upto h (by omega)).up
    · rw [show m + 1 = n by omega]
      exact h
theorem rows_alike {H : Hp} {rows : List Row} {u v : V} (hu : RowsIn H rows u) (hv : RowsIn H rows v) (hl : rows.length ≤ 1000) : Alike 3 H u v := by
  obtain ⟨a, xs, rfl, ea, ra⟩ := hu
  obtain ⟨b, ys, rfl, eb, rb⟩ := hv
  refine .t ea eb ⟨by rw [ra.1, rb.1], fun k x y hx hy => ?_⟩ (by rw [rb.1]; exact hl)
  obtain ⟨r, hr, ⟨q, rfl, hq⟩, _⟩ := ra.get hx
  obtain ⟨q2, rfl, hq2⟩ := rb.2 k r y hr hy
  exact .t hq hq2 (.cons .s (.cons .i (.cons .i .nil))) (Nat.le_of_ble_eq_true rfl)
theorem plant_alike {H : Hp} {p : Pl} {B : Nat} {u v : V} (hp : PlR p B) (hu : PlIn H p u) (hv : PlIn H p v) : Alike 27 H u v := by
  obtain ⟨a, v1, v2, v3, vl, s, sx, rfl, e0, h1, h2, h3, h4, h5, h6⟩ := hu
  obtain ⟨a', w1, w2, w3, wl, s', sx', rfl, e0', g1, g2, g3, g4, g5, g6⟩ := hv
  have hlv := hp.lv
  have hls := hp.ls
  refine .t e0 e0' (.cons ((rows_alike h1 g1 (by omega)).upto (by omega)) (.cons ((rows_alike h2 g2 (by omega)).upto (by omega)) (.cons ((rows_alike h3 g3 (by omega)).upto (by omega)) (.cons (.t h4 g4 ⟨by rw [h5.1, g5.1], fun k x y hx hy => ?_⟩ (by rw [g5.1]; omega)) (.cons ((item_alike 12 hp.a.2.1 hp.a.1 h6 g6).upto (by omega)) .nil))))) (Nat.le_of_ble_eq_true rfl)
  obtain ⟨i, hi, hin, hm⟩ := h5.get hx
  obtain ⟨o, dp, _⟩ := hp.s i hm
  exact item_alike 12 dp o hin (g5.2 k i y hi hy)
end NL

namespace NL
open PySem PySem.Spec PyProof.Rows L2
section
variable {P : Program} {w : World} {K : PySem.W.Frag} {mg : Str → Option Value} {base : Heap}
/-! ### _law_deep -/
def spDeep (B : Nat) : Sp := fun vs H Q _ => ∃ (d : Addr) (v : V) (p : Pl), vs = [.ref d, v] ∧ Dr H d ∧ PlIn H p v ∧ PlR p B ∧ 100 ≤ B ∧ (∀ i ∈ p.st, i.dep ≤ 8 ∧ i.sz ≤ 50) ∧ p.al.dep ≤ 6 ∧ p.al.sz ≤ 223 ∧
  ∀ v' p' H', Go d H H' → PlIn H' p' v' → PlR p' B → Q v' H'
theorem ok_law_deep {B : Nat} (T : Txt K mg) : FnOk P w K mg base CX0 20 T.a_law_deep T.d_law_deep P_law_deep (spDeep B) := by
  have G_law_take := ok_law_take (P := P) (w := w) (base := base) T
  have G_law_around := ok_law_around (P := P) (w := w) (base := base) T
  have G_law_depth := ok_law_depth (P := P) (w := w) (base := base) T 12
  have G_law_is_test := ok_law_is_test (P := P) (w := w) (base := base) T
  refine T.F_law_deep.ok sc_law_deep (fun vs H Q E h => ?_) (fun cdv A outer s H vs Q E hr h => ?_)
  · obtain ⟨d, v, p, rfl, _⟩ := h
    rfl
  obtain ⟨d, v, p, rfl, hD, hpl, hp, hB, hst, had, has, q⟩ := h
  obtain ⟨a, v1, v2, v3, vl, st, sx, rfl, e0, ⟨t1, x1, rfl, et1, hr1⟩, ⟨t2, x2, rfl, et2, hr2⟩, ⟨t3, x3, rfl, et3, hr3⟩, e4, hk, hal⟩ := id hpl
  refine ⟨_, (pss_cons (ps_set (i := 2) sc_law_deep.nd rfl (Or.inl rfl) (pe_ix ix_tup (pe_ix ix_tup (pv 1) pe_int (fun _ _ => rfl)) pe_int (fun _ _ => rfl)))
    (pss_cons (ps_set (i := 2) sc_law_deep.nd rfl (Or.inl rfl) (pe_call G_law_around (hr.mono (by omega)) (by rfl) T.m_law_around T.F_law_around.kp T.b_law_around .nil pass0 (pa_cons (pv 2) (pa_cons (pe_tup (pa_cons pe_str (pa_cons (pe_ix ix_tup (pe_ix ix_tup (pe_ix ix_tup (pv 1) pe_int (fun _ _ => rfl)) pe_int (fun _ _ => rfl)) pe_int (fun _ _ => rfl)) pa_nil))) (pa_cons (pe_op op_sub pe_int (pe_call G_law_depth (hr.mono (by omega)) (by rfl) T.m_law_depth T.F_law_depth.kp T.b_law_depth .nil pass0 (pa_cons (pv 2) pa_nil))) (pa_cons (pe_call G_law_take (hr.mono (by omega)) (by rfl) T.m_law_take T.F_law_take.kp T.b_law_take .nil pass0 (pa_cons (pv 0) (pa_cons pe_int pa_nil))) pa_nil))))))
    (C8.pss_cut (ps_if (pt_val (pe_call G_law_is_test (hr.mono (by omega)) (by rfl) T.m_law_is_test T.F_law_is_test.kp T.b_law_is_test .nil pass0 (pa_cons (pv 2) pa_nil)))
    (pss_one (ps_set (i := 2) sc_law_deep.nd rfl (Or.inl rfl) (pe_tup (pa_cons pe_str (pa_cons (pv 2) (pa_cons (pe_tup (pa_cons pe_str (pa_cons pe_int pa_nil))) (pa_cons (pe_tup (pa_cons pe_str (pa_cons pe_int pa_nil))) pa_nil)))))))
    pss_nil)
    (pss_cons (ps_set (i := 3) sc_law_deep.nd rfl (Or.inl rfl) (pe_call G_law_around (hr.mono (by omega)) (by rfl) T.m_law_around T.F_law_around.kp T.b_law_around .nil pass0 (pa_cons (pe_ix ix_tup (pv 1) pe_int (fun _ _ => rfl)) (pa_cons (pe_tup (pa_cons pe_str (pa_cons pe_int pa_nil))) (pa_cons (pe_op op_sub pe_int (pe_call G_law_depth (hr.mono (by omega)) (by rfl) T.m_law_depth T.F_law_depth.kp T.b_law_depth .nil pass0 (pa_cons (pe_ix ix_tup (pv 1) pe_int (fun _ _ => rfl)) pa_nil))) (pa_cons (pe_call G_law_take (hr.mono (by omega)) (by rfl) T.m_law_take T.F_law_take.kp T.b_law_take .nil pass0 (pa_cons (pv 0) (pa_cons pe_int pa_nil))) pa_nil))))))
    (C8.pss_cut (ps_if (pt_not (pt_val (pe_call G_law_is_test (hr.mono (by omega)) (by rfl) T.m_law_is_test T.F_law_is_test.kp T.b_law_is_test .nil pass0 (pa_cons (pv 3) pa_nil))))
    (pss_one (ps_set (i := 3) sc_law_deep.nd rfl (Or.inl rfl) (pe_tup (pa_cons pe_str (pa_cons (pv 3) (pa_cons (pe_tup (pa_cons pe_str (pa_cons pe_int pa_nil))) pa_nil))))))
    pss_nil)
    (pss_one (ps_ret (pe_op op_catA (pe_slice sl_tup (pv 1) po_none (po_some pe_int)) (pe_tup (pa_cons (pe_op op_catA (pe_tup (pa_cons (pv 2) pa_nil)) (pe_slice sl_tup (pe_ix ix_tup (pv 1) pe_int (fun _ _ => rfl)) (po_some pe_int) po_none)) (pa_cons (pv 3) pa_nil))))))))))), ?_⟩
  have hls := hp.ls
  cases hpst : p.st with
  | nil =>
    rw [hpst] at hls
    exact absurd (List.eq_nil_of_length_eq_zero hls.symm) hp.ne
  | cons i0 ir =>
  cases hpv : p.vs with
  | nil => exact absurd hpv hp.ne
  | cons r0 rr =>
  rw [hpst] at hk
  cases sx with
  | nil => exact absurd hk.1 (by simp)
  | cons s0 sr =>
  have hr1' := hr1
  rw [hpv] at hr1'
  cases x1 with
  | nil => exact absurd hr1'.1 (by simp)
  | cons y0 yr =>
  obtain ⟨q0, rfl, hq0⟩ := hr1'.2 0 r0 y0 rfl rfl
  have hi0 : ItemIn H i0 s0 := hk.2 0 i0 s0 rfl rfl
  obtain ⟨ho0, hd0, hz0⟩ := hp.s i0 (by rw [hpst]; exact List.mem_cons_self)
  obtain ⟨hd0', hz0'⟩ := hst i0 (by rw [hpst]; exact List.mem_cons_self)
  have hr0m : r0.1 ∈ (p.vs ++ p.ins ++ p.ns).map (·.1) := List.mem_map.mpr ⟨r0, by simp [hpv], rfl⟩
  refine ⟨_, rfl, a, _, 3, _, rfl, rfl, sqt e0, atI_nat (j := 3) rfl, st, _, 0, _, rfl, rfl, sqt e4, atI0, ?_⟩
  refine ⟨_, rfl, _, rfl, a, _, 0, _, rfl, rfl, sqt e0, atI0, t1, _, 0, _, rfl, rfl, sqt et1, atI0, q0, _, 0, _, rfl, rfl, sqt hq0, atI0, Nat.le_of_ble_eq_true rfl, fun b1 hb1 => ?_⟩
  have g1 := Go.new (o := HO.tup [V.str "name", V.str r0.1]) hD hb1
  have hi1 := hi0.go g1 hD
  refine ⟨_, rfl, s0, i0, _, B, false, rfl, hi1, ho0, hd0, fun H2 s2 => ⟨_, _, rfl, rfl, ?_⟩⟩
  have g2 := g1.trans (.same g1.dr s2)
  refine ⟨_, rfl, d, _, rfl, g2.dr, (by decide), fun u H3 g3 u0 u1 => ?_⟩
  have g13 := g2.trans g3
  have hn3 : ItemIn H3 (.name r0.1) (.ref b1) := (ItemIn.name (s2 _ _ upd_same)).go g3 g2.dr
  refine ⟨s0, .ref b1, i0, .name r0.1, _, B, false, _, u, rfl, hi0.go g13 hD, ho0, hn3, .name hr0m, by rw [It.dep], by rw [It.sz], hB, by omega, by omega, fun v' i' b' H4 s4 hi' ho' hd' hz' => ?_⟩
  have g4 := g13.trans (.same g13.dr s4)
  have hdd : i'.dep ≤ 11 := by omega
  have hzz : i'.sz ≤ 105 := by omega
  refine ⟨fun σ H5 => ∃ (v2 : V) (i2 : It), σ = [some (.ref d), some (.ref a), some v2, none] ∧ Go d H H5 ∧ ItemIn H5 i2 v2 ∧ Okx ((p.vs ++ p.ins ++ p.ns).map (·.1)) B false i2 ∧ i2.dep ≤ 12 ∧ i2.sz ≤ 300, ?_, ?_⟩
  · refine ⟨_, rfl, v', i', _, B, b', rfl, hi', ho', fun H5 s5 => ⟨_, rfl, ?_⟩⟩
    have g5 := g4.trans (.same g4.dr s5)
    cases b' with
    | true =>
      refine ifT rfl ?_
      refine ⟨_, rfl, Nat.le_of_ble_eq_true rfl, fun n1 hn1 => ⟨Nat.le_of_ble_eq_true rfl, fun n2 hn2 => ⟨Nat.le_of_ble_eq_true rfl, fun n3 hn3 => ?_⟩⟩⟩
      have w1 := same_new hn1 (HO.tup [V.str "number", V.int 1])
      have w2 := same_new hn2 (HO.tup [V.str "number", V.int 0])
      have w3 := same_new hn3 (HO.tup [V.str "if", v', V.ref n1, V.ref n2])
      have wA := (w1.trans w2).trans w3
      exact ⟨_, .tri i' (.num 1) (.num 0), rfl, g5.trans (.same g5.dr wA), .tri upd_same (hi'.mono (.same (s5.trans wA))) (.num ((w2.trans w3) _ _ upd_same)) (.num (w3 _ _ upd_same)), .tri ho' (.num (by show 1 ≤ B; omega)) (.num (Nat.zero_le _)), by simp [It.dep]; omega, by simp [It.sz]; omega⟩
    | false =>
      refine ifF rfl ?_
      exact ⟨_, i', rfl, g5, hi'.mono (.same s5), ho', by omega, by omega⟩
  rintro σ5 H5 ⟨v2, i2, rfl, g5, hi2, ho2, hd2, hz2⟩
  have h0 := g5.tup hD e0
  have hal5 := hal.go g5 hD
  obtain ⟨hoa, hda, hza⟩ := hp.a
  refine ⟨_, rfl, a, _, 4, _, rfl, rfl, sqt h0, atI_nat (j := 4) rfl, Nat.le_of_ble_eq_true rfl, fun b2 hb2 => ?_⟩
  have g6 := g5.trans (Go.new (o := HO.tup [V.str "number", V.int 2]) g5.dr hb2)
  refine ⟨_, rfl, a, _, 4, _, rfl, rfl, sqt (g6.tup hD e0), atI_nat (j := 4) rfl, vl, p.al, _, B, true, rfl, hal.go g6 hD, hoa, hda, fun H6 s6 => ⟨_, _, rfl, rfl, ?_⟩⟩
  have g7 := g6.trans (.same g6.dr s6)
  refine ⟨_, rfl, d, _, rfl, g7.dr, (by decide), fun u' H7 g8 u0' u1' => ?_⟩
  have g58 := g7.trans g8
  have hn7 : ItemIn H7 (.num 2) (.ref b2) := (ItemIn.num (s6 _ _ upd_same)).go g8 g7.dr
  refine ⟨vl, .ref b2, p.al, .num 2, _, B, true, _, u', rfl, hal.go g58 hD, hoa, hn7, .num (by show 2 ≤ B; omega), by rw [It.dep], by rw [It.sz], hB, by omega, by omega, fun w' j' c' H8 s8 hj' hoj' hdj' hzj' => ?_⟩
  have g9 := g58.trans (.same g58.dr s8)
  have g59 : Tp H5 H8 := fun x xs e => s8 _ _ (g8.tup g7.dr (s6 _ _ (same_new hb2 _ _ _ e)))
  have hi9 := hi2.mono g59
  refine ⟨fun σ HA => ∃ (v3 : V) (i3 : It), σ = [some (.ref d), some (.ref a), some v2, some v3] ∧ Go d H HA ∧ ItemIn HA i2 v2 ∧ ItemIn HA i3 v3 ∧ Okx ((p.vs ++ p.ins).map (·.1)) B true i3 ∧ i3.dep ≤ 12 ∧ i3.sz ≤ 300, ?_, ?_⟩
  · refine ⟨_, rfl, w', j', _, B, c', rfl, hj', hoj', fun H9 s9 => ⟨_, rfl, ?_⟩⟩
    have gA := g9.trans (.same g9.dr s9)
    cases c' with
    | true =>
      refine ifF rfl ?_
      exact ⟨_, j', rfl, gA, hi9.mono (.same s9), hj'.mono (.same s9), hoj', by omega, by omega⟩
    | false =>
      refine ifT rfl ?_
      refine ⟨_, rfl, Nat.le_of_ble_eq_true rfl, fun n1 hn1 => ⟨Nat.le_of_ble_eq_true rfl, fun n2 hn2 => ?_⟩⟩
      have w1 := same_new hn1 (HO.tup [V.str "number", V.int 0])
      have w2 := same_new hn2 (HO.tup [V.str "less", w', V.ref n1])
      have wA := w1.trans w2
      exact ⟨_, .bin "less" j' (.num 0), rfl, gA.trans (.same gA.dr wA), hi9.mono (.same (s9.trans wA)), .bin upd_same (hj'.mono (.same (s9.trans wA))) (.num (w2 _ _ upd_same)), .cmp (by decide +kernel) hoj' (.num (Nat.zero_le _)), by simp [It.dep]; omega, by simp [It.sz]; omega⟩
  rintro σA HA ⟨v3, i3, rfl, gA, hiA, hjA, hoA, hdA, hzA⟩
  have k0 := gA.tup hD e0
  have k4 := gA.tup hD e4
  refine ⟨_, rfl, 3, rfl, a, _, rfl, sqt k0, (fun h => by
    have h2 := h.2
    rw [sIx_up (by decide)] at h2
    exact absurd h2 (by show ¬ (min 3 5 = 5); decide)), fun pB hpB => ?_⟩
  have sB := same_new hpB (HO.tup (cutV [V.ref t1, V.ref t2, V.ref t3, V.ref st, vl] none (some 3)))
  refine ⟨_, rfl, Nat.le_of_ble_eq_true rfl, fun pC hpC => ?_⟩
  have sC := sB.trans (same_new hpC (HO.tup [v2]))
  refine ⟨_, rfl, a, _, 3, _, rfl, rfl, sqt (sC _ _ k0), atI_nat (j := 3) rfl, 1, rfl, st, _, rfl, sqt (sC _ _ k4), not_whole _ _ _, fun pD hpD => ?_⟩
  have sD := sC.trans (same_new hpD (HO.tup (cutV (s0 :: sr) (some 1) none)))
  have hkl := hk.1
  rw [List.length_cons, List.length_cons] at hkl
  have hlv := hp.lv
  rw [hpst, List.length_cons] at hls
  refine catA_of (same_new hpD _ _ _ upd_same) upd_same (by rw [cut_tail, List.length_singleton]; omega) fun pE HE sE eE => ?_
  have sAE := sD.trans sE
  refine ⟨_, rfl, Nat.le_of_ble_eq_true rfl, fun pF hpF => ?_⟩
  have sF := sAE.trans (same_new hpF (HO.tup [V.ref pE, v3]))
  have kB : upd HE pF (HO.tup [V.ref pE, v3]) pB = some (HO.tup [V.ref t1, V.ref t2, V.ref t3]) := (((same_new hpC _).trans (same_new hpD _)).trans (sE.trans (same_new hpF _))) _ _ upd_same
  refine catA_of kB upd_same (Nat.le_of_ble_eq_true rfl) fun pJ HJ sJ eJ => ?_
  have sAJ := sF.trans sJ
  have gE := gA.trans (.same gA.dr sAJ)
  have tE := gE.tp hD
  have hk2 : Kids H ir sr := ⟨hkl |> Nat.succ.inj, fun k i x e f => hk.2 (k + 1) i x e f⟩
  refine q _ ⟨p.vs, p.ins, p.ns, i2 :: ir, i3⟩ HJ gE ⟨pJ, .ref t1, .ref t2, .ref t3, v3, pE, _, rfl, eJ, ⟨t1, _, rfl, tE _ _ et1, hr1.mono tE⟩, ⟨t2, _, rfl, tE _ _ et2, hr2.mono tE⟩, ⟨t3, _, rfl, tE _ _ et3, hr3.mono tE⟩, sJ _ _ (same_new hpF _ _ _ eE), ?_, hjA.mono (.same sAJ)⟩ ⟨hp.nd, hp.r, hp.lv, hp.few, hp.ne, ?_, fun i hi => ?_, ⟨hoA, hdA, hzA⟩, hp.bd⟩
  · rw [cut_tail]
    exact Kids.cons (hiA.mono (.same sAJ)) (hk2.mono tE)
  · exact hls
  · rcases List.mem_cons.mp hi with rfl | hi
    · exact ⟨ho2, hd2, hz2⟩
    · exact hp.s i (by rw [hpst]; exact List.mem_cons_of_mem _ hi)
end
end NL

namespace NL
open PySem PySem.Spec PyProof.Rows L2 HotX
theorem pi_tupK {X : Cx} {K : PySem.W.Frag} {tg l : Expr} {tl : TE} (h : X.K = K) (e : PE X l tl) : PI X tg l (iTup K tl) := by
  subst h
  exact pi_tup e
theorem notInB {x : Str} {ys : List Str} {zs : List V} (hz : zs = ys.map V.str) : (if true = true then !inV (V.str x) zs else inV (V.str x) zs) = !decide (x ∈ ys) := by
  rw [if_pos rfl, hz, inV_str]
section
variable {P : Program} {w : World} {K : PySem.W.Frag} {mg : Str → Option Value} {base : Heap}
/-! ### _check, of a valid item -/
def spCheckV (n : Nat) : Sp := fun vs H Q _ => ∃ (v : V) (i : It) (xs : List Str) (B : Nat) (b : Bool) (t : Nat), vs = [v, .int (t : Int)] ∧ ItemIn H i v ∧ Okx xs B b i ∧ (∀ x ∈ xs, Nam x) ∧ i.dep ≤ n ∧ t + i.dep ≤ 13 ∧ ∀ H', Same H H' → Q .non H'
theorem no_checkV {fa : Addr} {fd : FuncData} {ps : List Str} {c : Nat} : FnOk P w K mg base CX0 c fa fd ps (spCheckV 0) := by
  have no : ∀ vs H Q E, ¬ spCheckV 0 vs H Q E := fun vs H Q E ⟨v, i, xs, B, b, t, _, _, _, _, h, _⟩ => by
    have := dep_pos i
    omega
  exact ⟨fun vs H Q E h => absurd h (no vs H Q E), fun A outer s H args us vs Q E _ _ _ _ h => absurd h (no vs H Q E)⟩
theorem ok_check (T : Txt K mg) : ∀ n : Nat, FnOk P w K mg base CX0 (n + 3) T.a_check T.d_check P_check (spCheckV n)
  | 0 => no_checkV
  | n + 1 => by
    have G_check := ok_check T n
    have Gparts_in := ok_parts_in (P := P) (w := w) (base := base) T
    have Gis_name := ok_is_name (P := P) (w := w) (base := base) T
    refine T.F_check.ok sc_check (fun vs H Q E h => ?_) (fun cdv A outer s H vs Q E hr h => ?_)
    · obtain ⟨v, i, xs, B, b, t, rfl, _⟩ := h
      rfl
    obtain ⟨v, i, xs, B, b, t, rfl, hi, ho, hx, hd, ht, q⟩ := h
    obtain ⟨a, rfl⟩ := hi.ref
    obtain ⟨r, ha⟩ := hi.head
    have hp1 := dep_pos i
    refine ⟨_, (pss_cons (ps_if (pt_cmpR op_gt (pv 1) (pe_glob rfl T.g_MOST_DEPTH T.r_MOST_DEPTH) (nomark _))
    (pss_one ps_never)
    pss_nil)
    (pss_cons (ps_set (i := 2) sc_check.nd rfl (Or.inl rfl) (pe_ix ix_tup (pv 0) pe_int (fun _ _ => rfl)))
    (pss_cons (ps_if (PW.pt (pw_and (pt_cmpR op_eq (pv 2) pe_str (nomark _)) (pw_and1 (pt_not (pt_val (pe_call Gis_name (hr.mono (by omega)) (by rfl) T.mis_name T.Fis_name.kp T.bis_name .nil pass0 (pa_cons (pe_ix ix_tup (pv 0) pe_int (fun _ _ => rfl)) pa_nil)))))))
    (pss_one ps_never)
    pss_nil)
    (pss_cons (ps_if (PW.pt (pw_and (pt_cmpR op_in_seq (pv 2) (pe_tup (pa_cons pe_str (pa_cons pe_str pa_nil))) (by rfl)) (pw_and1 (pt_cmpR op_lt (pe_ix ix_tup (pv 0) pe_int (fun _ _ => rfl)) pe_int (nomark _)))))
    (pss_one ps_never)
    pss_nil)
    (pss_one (ps_for  PassesOwn.never rfl (pi_tup (pe_call Gparts_in (hr.mono (by omega)) (by rfl) T.mparts_in T.Fparts_in.kp T.bparts_in .nil pass0 (pa_cons (pv 0) pa_nil))) (pg_name (i := 3) sc_check.nd rfl (Or.inl rfl))
    (pss_one (ps_expr (pe_call G_check (hr.mono (by omega)) (by rfl) T.m_check T.F_check.kp T.b_check .nil pass0 (pa_cons (pv 3) (pa_cons (pe_op op_add (pv 1) pe_int) pa_nil))))))))))), ?_⟩
    refine ⟨_, rfl, _, _, rfl, rfl, _, rfl, ?_⟩
    refine ifF (decide_eq_false (by omega)) ?_
    refine ⟨_, rfl, a, _, 0, _, rfl, rfl, sqt ha, atI0, ?_⟩
    refine ⟨_, rfl, rfl, _, rfl, ?_⟩
    refine' cutP ?f ?b
    case f =>
      intro body
      rcases word_name hi ho with ⟨x, ex, e1⟩ | ⟨hw, hne⟩
      · have hxm : x ∈ xs := by
          rw [ex] at ho
          cases ho with
          | name h => exact h
        have e1 : H a = some (.tup [.str "name", .str x]) := by
          rw [ex] at hi
          cases hi with
          | name e => exact e
        refine ifT (by rw [ex]; show decide (V.str ("name" : Str) = V.str ("name" : Str)) = true; decide +kernel) ?_
        refine ⟨_, rfl, a, _, 1, _, rfl, rfl, sqt e1, atI1, x, rfl, Nat.le_trans (hx x hxm).len.2 (by decide), _, rfl, ?_⟩
        rw [isN_nam (hx x hxm)]
        exact iteF body
      · exact ifF hw (iteF body)
    case b =>
      refine ⟨_, rfl, (Nat.le_of_ble_eq_true rfl), fun p1 hp1 => ?_⟩
      have s1 := fun o => same_new hp1 o
      refine ⟨p1, _, rfl, .inr (sqt upd_same), rfl, (by decide +kernel), _, rfl, ?_⟩
      obtain ⟨_, _, _, _, c2⟩ := word_cls ho
      refine' cutP ?f2 ?b2
      case f2 =>
        intro body
        by_cases h2 : i.cls = 2
        · refine ifT (inT (ys := ["div", "mod"]) rfl (by rw [c2, h2] <;> rfl)) ?_
          obtain ⟨x, j, m, e1, hj, ej⟩ := hi.divs h2
          have hm : 1 ≤ m := by
            rw [ej] at ho
            cases ho; assumption
          refine ⟨_, rfl, a, _, 2, _, rfl, rfl, sqt (s1 _ _ _ e1), atI2, _, _, rfl, rfl, _, rfl, ?_⟩
          exact ifF (decide_eq_false (by omega)) body
        · exact ifF (inT (ys := ["div", "mod"]) rfl (by rw [c2]; simpa using h2)) (iteF body)
      case b2 =>
        refine ⟨_, rfl, _, i, xs, B, b, rfl, hi.mono (Tp.same (s1 _)), ho, fun tp ys H2 s2 e2 hk => ?_⟩
        refine ⟨tp, rfl, ⟨_, sqt e2⟩, for_tup (K := K) (a := tp) (xs := ys) (fun (j : Nat) (σ : L2.St) (H' : Hp) => ∃ y3 : Option V, σ = [some (.ref a), some (.int (t : Int)), some (.str i.word), y3] ∧ Same H2 H') ?_ ?_ ?_ ?_⟩
        · exact ⟨none, rfl, Same.refl H2⟩
        · rintro j σ H' _ ⟨y3, rfl, s3⟩
          exact sqt (s3 _ _ e2)
        · rintro j x σ H3 hx' ⟨y3, rfl, s3⟩
          obtain ⟨kj, hkj, hin, hmem⟩ := hk.get hx'
          obtain ⟨b', hj⟩ := kids_ok ho kj hmem
          have h1 := depL_in hmem
          have h2 := @kids_dep i
          refine ⟨_, rfl, _, rfl, _, _, rfl, rfl, _, kj, xs, B, b', t + 1, rfl, hin.mono (Tp.same s3), hj, hx, by omega, by omega, fun H4 s4 => ?_⟩
          exact ⟨_, rfl, s3.trans s4⟩
        · rintro σ H3 ⟨y3, rfl, s3⟩
          exact q _ ((s1 _).trans (s2.trans s3))
def spCheckW : Sp := fun vs H Q _ => ∃ (v : V) (i : It) (xs : List Str) (B : Nat) (b : Bool), vs = [v] ∧ ItemIn H i v ∧ Okx xs B b i ∧ (∀ x ∈ xs, Nam x) ∧ i.dep ≤ 12 ∧ ∀ H', Same H H' → Q .non H'
theorem ok_check_expression (T : Txt K mg) : FnOk P w K mg base CX0 16 T.acheck_expression T.dcheck_expression Pcheck_expression spCheckW := by
  have G_check := ok_check (P := P) (w := w) (base := base) T 12
  refine T.Fcheck_expression.ok sccheck_expression (fun vs H Q E h => ?_) (fun cdv A outer s H vs Q E hr h => ?_)
  · obtain ⟨v, i, xs, B, b, rfl, _⟩ := h
    rfl
  obtain ⟨v, i, xs, B, b, rfl, hi, ho, hx, hd, q⟩ := h
  refine ⟨_, (pss_one (ps_expr (pe_call G_check (hr.mono (by omega)) (by rfl) T.m_check T.F_check.kp T.b_check .nil pass0 (pa_cons (pv 0) (pa_cons pe_int pa_nil))))), ?_⟩
  exact ⟨_, rfl, v, i, xs, B, b, 1, rfl, hi, ho, hx, hd, by omega, fun H' s' => q H' s'⟩
theorem ok_check_condition (T : Txt K mg) : FnOk P w K mg base CX0 16 T.acheck_condition T.dcheck_condition Pcheck_condition spCheckW := by
  have G_check := ok_check (P := P) (w := w) (base := base) T 12
  refine T.Fcheck_condition.ok sccheck_condition (fun vs H Q E h => ?_) (fun cdv A outer s H vs Q E hr h => ?_)
  · obtain ⟨v, i, xs, B, b, rfl, _⟩ := h
    rfl
  obtain ⟨v, i, xs, B, b, rfl, hi, ho, hx, hd, q⟩ := h
  refine ⟨_, (pss_one (ps_expr (pe_call G_check (hr.mono (by omega)) (by rfl) T.m_check T.F_check.kp T.b_check .nil pass0 (pa_cons (pv 0) (pa_cons pe_int pa_nil))))), ?_⟩
  exact ⟨_, rfl, v, i, xs, B, b, 1, rfl, hi, ho, hx, hd, by omega, fun H' s' => q H' s'⟩
/-! ### the parts of check_plant -/
def spCheckRanges : Sp := fun vs H Q _ => ∃ (v : V) (rows : List Row), vs = [v] ∧ RowsIn H rows v ∧ (∀ r ∈ rows, RwR r ∧ Nam r.1) ∧ (rows.map (·.1)).Nodup ∧ rows.length ≤ 100 ∧ ∀ H', Same H H' → Q .non H'
theorem ok_check_ranges (T : Txt K mg) : FnOk P w K mg base CX0 3 T.a_check_ranges T.d_check_ranges P_check_ranges spCheckRanges := by
  have Gis_name := ok_is_name (P := P) (w := w) (base := base) T
  refine T.F_check_ranges.ok sc_check_ranges (fun vs H Q E h => ?_) (fun cdv A outer s H vs Q E hr h => ?_)
  · obtain ⟨v, rows, rfl, _⟩ := h
    rfl
  obtain ⟨v, rows, rfl, ⟨tp, xs, rfl, ht, hrs⟩, hrw, hnd, hl, q⟩ := h
  refine ⟨_, (pss_cons (ps_set (i := 1) sc_check_ranges.nd rfl (Or.inl rfl) pe_dnewK)
    (pss_one (ps_for  PassesOwn.never rfl (pi_tup (pv 0)) (pg_tup rfl (pgs_cons (pg_name (i := 2) sc_check_ranges.nd rfl (Or.inl rfl)) (pgs_cons (pg_name (i := 3) sc_check_ranges.nd rfl (Or.inl rfl)) (pgs_cons (pg_name (i := 4) sc_check_ranges.nd rfl (Or.inl rfl)) pgs_nil))))
    (pss_cons (ps_if (pt_not (pt_val (pe_call Gis_name (hr.mono (by omega)) (by rfl) T.mis_name T.Fis_name.kp T.bis_name .nil pass0 (pa_cons (pv 2) pa_nil))))
    (pss_one ps_never)
    pss_nil)
    (pss_cons (ps_if (pt_cmp (pc_din (hu_of hr) (pv 2) (pv 1)))
    (pss_one ps_never)
    pss_nil)
    (pss_cons (ps_if (pt_cmpR op_gt (pv 3) (pv 4) (nomark _))
    (pss_one ps_never)
    pss_nil)
    (pss_one (ps_dput (hu_of hr) (pv 1) (pv 2) pe_bl rfl)))))))), ?_⟩
  refine fun p hp => ?_
  have np : tp ≠ p := fun e => by
    rw [e, hp] at ht
    cases ht

  refine ⟨_, rfl, tp, rfl, ⟨_, sqt (same_new hp _ _ _ ht)⟩, for_tup (K := K) (a := tp) (xs := xs) (fun j σ H' => ∃ (kvs : List (Key × V)) (y2 y3 y4 : Option V), σ = [some (.ref tp), some (.ref p), y2, y3, y4] ∧ Same H H' ∧ H' p = some (.dK kvs) ∧ kvs.length ≤ j ∧ ∀ z : Str, (valV kvs (Sum.inr z)).isSome = true → z ∈ (rows.take j).map (·.1)) ?_ ?_ ?_ ?_⟩
  · exact ⟨[], none, none, none, rfl, same_new hp _, upd_same, Nat.le_refl 0, fun z hz => by cases hz⟩
  · rintro j σ H' _ ⟨kvs, y2, y3, y4, rfl, s3, _⟩
    exact sqt (s3 _ _ ht)
  · rintro j x σ H' hx ⟨kvs, y2, y3, y4, rfl, s3, e3, hlen, hall⟩
    obtain ⟨r, hr1, ⟨q1, rfl, hq⟩, hm⟩ := hrs.get hx
    obtain ⟨hw, hn⟩ := hrw r hm
    have hj : j < rows.length := (List.getElem?_eq_some_iff.mp hr1).1
    refine ⟨q1, _, rfl, sqt (s3 _ _ hq), rfl, _, _, rfl, _, _, rfl, _, _, rfl, rfl, ?_⟩
    refine ⟨_, rfl, r.1, rfl, Nat.le_trans hw.len (by decide), _, rfl, ?_⟩
    rw [hw.nm]
    refine iteF ?_
    refine ⟨_, rfl, _, rfl, p, _, rfl, DGet.k (k := Sum.inr r.1) e3, ?_⟩
    have hno : valV kvs (Sum.inr r.1) = none := by
      cases e : valV kvs (Sum.inr r.1) with
      | none => rfl
      | some m =>
        have h1 := hall r.1 (by rw [e]; rfl)
        have hnd' := hnd
        rw [← List.take_append_drop j rows, List.map_append] at hnd'
        have h2 : r.1 ∈ (rows.drop j).map (·.1) := List.mem_map.mpr ⟨r, List.mem_of_getElem? (i := 0) (by rw [List.getElem?_drop]; exact hr1), rfl⟩
        exact absurd rfl ((List.nodup_append.mp hnd').2.2 r.1 h1 r.1 h2)
    rw [hno]
    refine ⟨_, rfl, ?_⟩
    refine iteF ?_
    refine ⟨_, rfl, _, rfl, _, _, rfl, rfl, _, rfl, ?_⟩
    refine ifF (decide_eq_false (by have := hw.le; omega)) ?_
    refine ⟨_, rfl, _, rfl, p, _, rfl, DPut.k (k := Sum.inr r.1) e3 (Nat.lt_of_le_of_lt (m := 1000) (by omega) (by decide)), ?_⟩
    refine ⟨putK kvs (Sum.inr r.1) (.bl true), _, _, _, rfl, same_put s3 hp, upd_same, ?_, fun z hz => ?_⟩
    · have := length_putK kvs (Sum.inr r.1 : Key) (V.bl true)
      omega
    · rw [valV_put] at hz
      rw [List.take_add_one, hr1, List.map_append]
      by_cases h : (Sum.inr z : Key) = Sum.inr r.1
      · cases h
        exact List.mem_append_right _ List.mem_cons_self
      · rw [if_neg h] at hz
        exact List.mem_append_left _ (hall z hz)
  · rintro σ H' ⟨kvs, y2, y3, y4, rfl, s3, _⟩
    exact q _ s3
def spCheckParts : Sp := fun vs H Q _ => ∃ (s : Addr) (sx : List V) (vl : V) (st : List It) (al : It) (xs ys : List Str) (B : Nat), vs = [.ref s, vl] ∧ H s = some (.tup sx) ∧ Kids H st sx ∧ ItemIn H al vl ∧ (∀ i ∈ st, Okx xs B false i ∧ i.dep ≤ 12) ∧ Okx ys B true al ∧ al.dep ≤ 12 ∧ (∀ x ∈ xs, Nam x) ∧ (∀ x ∈ ys, Nam x) ∧ ∀ H', Same H H' → Q .non H'
theorem ok_check_parts (T : Txt K mg) (EX : Exs K mg) : FnOk P w K mg base CX0 17 T.a_check_parts T.d_check_parts P_check_parts spCheckParts := by
  have Gcheck_expression := ok_check_expression (P := P) (w := w) (base := base) T
  have Gcheck_condition := ok_check_condition (P := P) (w := w) (base := base) T
  refine T.F_check_parts.ok sc_check_parts (fun vs H Q E h => ?_) (fun cdv A outer s H vs Q E hr h => ?_)
  · obtain ⟨z0, sx, vl, st, al, xs, ys, B, rfl, _⟩ := h
    rfl
  obtain ⟨z0, sx, vl, st, al, xs, ys, B, rfl, hs, hk, hal, hst, hao, had, hx, hy, q⟩ := h
  refine ⟨_, (pss_one (L2N.ps_try_many (X := (cxOf CX0 P w K mg base N_check_parts "_check_parts" (defScope s_check_parts) T.a_check_parts cdv A outer s H E).nox) rfl rfl takesN0 (fun W pn xe tk po => by exact (pss_cons (ps_for (X := (cxOf CX0 P w K mg base N_check_parts "_check_parts" (defScope s_check_parts) T.a_check_parts cdv A outer s H E).nox.tr pn xe) po rfl (pi_tupK (K := K) rfl (pv 0)) (pg_name (i := 2) sc_check_parts.nd rfl (Or.inl rfl))
    (pss_one (ps_expr (pe_call Gcheck_expression (hr.mono (by omega)) (by rfl) T.mcheck_expression T.Fcheck_expression.kp T.bcheck_expression .nil pass0 (pa_cons (pv 2) pa_nil)))))
    (pss_one (ps_expr (pe_call Gcheck_condition (hr.mono (by omega)) (by rfl) T.mcheck_condition T.Fcheck_condition.kp T.bcheck_condition .nil pass0 (pa_cons (pv 1) pa_nil)))))) (.cons ⟨rfl, by decide, .inl EX.g_InvalidExpression⟩ (fun a oe cls d pn hz hf => pss_never) .nil))), ?_⟩
  refine ⟨_, rfl, z0, rfl, ⟨_, sqt hs⟩, for_tup (K := K) (a := z0) (xs := sx) (fun (j : Nat) (σ : L2.St) (H' : Hp) => ∃ y : Option V, σ = [some (.ref z0), some vl, y] ∧ Same H H') ?_ ?_ ?_ ?_⟩
  · exact ⟨none, rfl, Same.refl H⟩
  · rintro j σ H' _ ⟨y, rfl, s3⟩
    exact sqt (s3 _ _ hs)
  · rintro j x σ H3 hxj ⟨y, rfl, s3⟩
    obtain ⟨i, hi1, hin, hmem⟩ := hk.get hxj
    obtain ⟨ho, hd⟩ := hst i hmem
    exact ⟨_, rfl, _, i, xs, B, false, rfl, hin.mono (Tp.same s3), ho, hx, hd, fun H4 s4 => ⟨_, rfl, s3.trans s4⟩⟩
  · rintro σ H3 ⟨y, rfl, s3⟩
    exact ⟨_, rfl, _, al, ys, B, true, rfl, hal.mono (Tp.same s3), hao, hy, had, fun H4 s4 => q _ (s3.trans s4)⟩
def spCheckNames : Sp := fun vs H Q _ => ∃ (s b : Addr) (sx : List V) (st : List It) (xs ys : List Str) (B : Nat) (c : Bool), vs = [.ref s, .ref b] ∧ H s = some (.tup sx) ∧ Kids H st sx ∧ H b = some (.tup (ys.map V.str)) ∧ (∀ i ∈ st, Okx xs B c i ∧ i.dep ≤ 12 ∧ i.sz ≤ 300) ∧ (∀ x ∈ xs, Nam x) ∧ xs.length < 64 ∧ (∀ x ∈ xs, x ∈ ys) ∧ B < 10 ^ 60 - 1 ∧ ∀ H', Same H H' → Q .non H'
theorem ok_check_names_in (T : Txt K mg) : FnOk P w K mg base CX0 16 T.a_check_names_in T.d_check_names_in P_check_names_in spCheckNames := by
  have Gnames_in := ok_names_in (P := P) (w := w) (base := base) T
  refine T.F_check_names_in.ok sc_check_names_in (fun vs H Q E h => ?_) (fun cdv A outer s H vs Q E hr h => ?_)
  · obtain ⟨z0, b, sx, st, xs, ys, B, c, rfl, _⟩ := h
    rfl
  obtain ⟨z0, b, sx, st, xs, ys, B, c, rfl, hs, hk, hb, hst, hx, hxl, hxy, hB, q⟩ := h
  refine ⟨_, (pss_one (ps_for  PassesOwn.never rfl (pi_tup (pv 0)) (pg_name (i := 2) sc_check_names_in.nd rfl (Or.inl rfl))
    (pss_one (ps_for  PassesOwn.never rfl (pi_tup (pe_call Gnames_in (hr.mono (by omega)) (by rfl) T.mnames_in T.Fnames_in.kp T.bnames_in .nil pass0 (pa_cons (pv 2) pa_nil))) (pg_name (i := 3) sc_check_names_in.nd rfl (Or.inl rfl))
    (pss_one (ps_if (pt_cmpR op_notIn_seq (pv 3) (pv 1) (by rfl))
    (pss_one ps_never)
    pss_nil)))))), ?_⟩
  refine ⟨_, rfl, z0, rfl, ⟨_, sqt hs⟩, for_tup (K := K) (a := z0) (xs := sx) (fun (j : Nat) (σ : L2.St) (H' : Hp) => ∃ y z : Option V, σ = [some (.ref z0), some (.ref b), y, z] ∧ Same H H') ?_ ?_ ?_ ?_⟩
  · exact ⟨none, none, rfl, Same.refl H⟩
  · rintro j σ H' _ ⟨y, z, rfl, s3⟩
    exact sqt (s3 _ _ hs)
  · rintro j x σ H3 hxj ⟨y, z, rfl, s3⟩
    obtain ⟨i, hi1, hin, hmem⟩ := hk.get hxj
    obtain ⟨ho, hd, hz⟩ := hst i hmem
    refine ⟨_, rfl, _, i, xs, B, c, rfl, hin.mono (Tp.same s3), ⟨ho, hd, by omega⟩, hxl, fun np ns H4 s4 hnp enp hal => ?_⟩
    refine ⟨np, rfl, ⟨_, sqt enp⟩, for_tup (K := K) (a := np) (xs := ns.map V.str) (fun (k : Nat) (σ : L2.St) (H' : Hp) => ∃ z : Option V, σ = [some (.ref z0), some (.ref b), some x, z] ∧ Same H4 H') ?_ ?_ ?_ ?_⟩
    · exact ⟨z, rfl, Same.refl H4⟩
    · rintro k σ H' _ ⟨z, rfl, s5⟩
      exact sqt (s5 _ _ enp)
    · rintro k y' σ H5 hyk ⟨z, rfl, s5⟩
      rw [List.getElem?_map] at hyk
      obtain ⟨n, hn, rfl⟩ := Option.map_eq_some_iff.mp hyk
      have hm : n ∈ ys := hxy _ (nms_in ho n ((hal.2.2 n).mp (List.mem_of_getElem? hn)))
      refine ⟨_, rfl, _, rfl, b, _, rfl, .inr (sqt (s5 _ _ (s4 _ _ (s3 _ _ hb)))), rfl, flat_strs' ys, _, rfl, ?_⟩
      exact ifF (by rw [notInB rfl, decide_eq_true hm] <;> rfl) ⟨_, rfl, s5⟩
    · rintro σ H5 ⟨z, rfl, s5⟩
      exact ⟨_, _, rfl, (s3.trans s4).trans s5⟩
  · rintro σ H3 ⟨y, z, rfl, s3⟩
    exact q _ s3
/-! ### check_plant -/
def spCheckPlant : Sp := fun vs H Q _ => ∃ (v : V) (p : Pl) (B : Nat), vs = [v] ∧ PlIn H p v ∧ PlR p B ∧ ∀ H', Same H H' → Q .non H'
theorem ok_check_plant (T : Txt K mg) (EX : Exs K mg) : FnOk P w K mg base CX0 18 T.acheck_plant T.dcheck_plant Pcheck_plant spCheckPlant := by
  have G_check_ranges := ok_check_ranges (P := P) (w := w) (base := base) T
  have G_check_parts := ok_check_parts (P := P) (w := w) (base := base) T EX
  have G_check_names_in := ok_check_names_in (P := P) (w := w) (base := base) T
  have Gnames_of := ok_names_of (P := P) (w := w) (base := base) T
  refine T.Fcheck_plant.ok sccheck_plant (fun vs H Q E h => ?_) (fun cdv A outer s H vs Q E hr h => ?_)
  · obtain ⟨v, p, B, rfl, _⟩ := h
    rfl
  obtain ⟨v, p, B, rfl, ⟨a, v1, v2, v3, vl, st, sx, rfl, e0, ⟨t1, x1, rfl, et1, r1⟩, ⟨t2, x2, rfl, et2, r2⟩, ⟨t3, x3, rfl, et3, r3⟩, e4, hk, hal⟩, hp, q⟩ := h
  refine ⟨_, (pss_cons (ps_asg (pv 0) (pg_tup rfl (pgs_cons (pg_name (i := 1) sccheck_plant.nd rfl (Or.inl rfl)) (pgs_cons (pg_name (i := 2) sccheck_plant.nd rfl (Or.inl rfl)) (pgs_cons (pg_name (i := 3) sccheck_plant.nd rfl (Or.inl rfl)) (pgs_cons (pg_name (i := 4) sccheck_plant.nd rfl (Or.inl rfl)) (pgs_cons (pg_name (i := 5) sccheck_plant.nd rfl (Or.inl rfl)) pgs_nil)))))))
    (pss_cons (ps_if (pt_cmpR (op_eqD hr.units) (pv 1) (pe_tup pa_nil) (nomark _))
    (pss_one ps_never)
    pss_nil)
    (pss_cons (ps_expr (pe_call G_check_ranges (hr.mono (by omega)) (by rfl) T.m_check_ranges T.F_check_ranges.kp T.b_check_ranges .nil pass0 (pa_cons (pe_op op_catA (pe_op op_catA (pv 1) (pv 2)) (pv 3)) pa_nil)))
    (pss_cons (ps_if (pt_cmpR op_ne (pe_callB call_len_seq (by rfl) T.z_len PySem.boot_len (pa_cons (pv 4) pa_nil)) (pe_callB call_len_seq (by rfl) T.z_len PySem.boot_len (pa_cons (pv 1) pa_nil)) (nomark _))
    (pss_one ps_never)
    pss_nil)
    (pss_cons (ps_expr (pe_call G_check_parts (hr.mono (by omega)) (by rfl) T.m_check_parts T.F_check_parts.kp T.b_check_parts .nil pass0 (pa_cons (pv 4) (pa_cons (pv 5) pa_nil))))
    (pss_cons (ps_expr (pe_call G_check_names_in (hr.mono (by omega)) (by rfl) T.m_check_names_in T.F_check_names_in.kp T.b_check_names_in .nil pass0 (pa_cons (pe_tup (pa_cons (pv 5) pa_nil)) (pa_cons (pe_call Gnames_of (hr.mono (by omega)) (by rfl) T.mnames_of T.Fnames_of.kp T.bnames_of .nil pass0 (pa_cons (pe_op op_catA (pv 1) (pv 2)) pa_nil)) pa_nil))))
    (pss_one (ps_expr (pe_call G_check_names_in (hr.mono (by omega)) (by rfl) T.m_check_names_in T.F_check_names_in.kp T.b_check_names_in .nil pass0 (pa_cons (pv 4) (pa_cons (pe_call Gnames_of (hr.mono (by omega)) (by rfl) T.mnames_of T.Fnames_of.kp T.bnames_of .nil pass0 (pa_cons (pe_op op_catA (pe_op op_catA (pv 1) (pv 2)) (pv 3)) pa_nil)) pa_nil))))))))))), ?_⟩
  have hlv := hp.lv
  have hfew := hp.few
  have hls := hp.ls
  have nodE : ∀ l : List Row, (l.map fun r => V.str r.1) = (l.map (·.1)).map V.str := fun l => by rw [List.map_map]; rfl
  have hrv : ∀ r ∈ p.vs, RwR r := fun r hr => (hp.r r (by simp [hr])).1
  refine ⟨_, rfl, a, _, rfl, sqt e0, rfl, _, _, rfl, _, _, rfl, _, _, rfl, _, _, rfl, _, _, rfl, rfl, ?_⟩
  refine ⟨_, rfl, Nat.zero_le _, fun b1 hb1 => ⟨.tuple (p.vs.map rowD), .tuple [], .tup (sqt (same_new hb1 _ _ _ et1)) (rows_dp (r1.mono (.same (same_new hb1 _)))), .tup (sqt upd_same) .nil, ?_, rfl, _, rfl, ?_⟩⟩
  · obtain ⟨a1, a2⟩ := rows_shape fun r hr => (hrv r hr).nm
    show (PyData.canLayAll0 (p.vs.map rowD) && decide (PyData.depthAll (p.vs.map rowD) + 1 ≤ 64)) = true
    rw [a1, decide_eq_true (by omega)]
    rfl
  refine ifF (by
    cases hv : p.vs with
    | nil => exact absurd hv hp.ne
    | cons a r => rfl) ?_
  have s1 := same_new hb1 (HO.tup [])
  generalize upd H b1 (HO.tup []) = H1 at s1 ⊢
  -- the ranges
  refine ⟨_, rfl, _, rfl, ?_⟩
  refine catA_one (s1 _ _ et1) (s1 _ _ et2) (by rw [r1.1, r2.1]; exact Nat.le_trans (m := 1000) (by omega) (by decide)) fun q4 H2 s2 e2 => ⟨_, rfl, ?_⟩
  refine catA_one e2 (s2 _ _ (s1 _ _ et3)) (by rw [List.length_append, r1.1, r2.1, r3.1]; exact Nat.le_trans (m := 1000) (by omega) (by decide)) fun q5 H3 s3 e3 => ?_
  have s13 := (s1.trans s2).trans s3
  refine ⟨.ref q5, p.vs ++ p.ins ++ p.ns, rfl, ⟨q5, _, rfl, e3, rows_app (rows_app (r1.mono (.same s13)) (r2.mono (.same s13))) (r3.mono (.same s13))⟩, hp.r, hp.nd, by rw [List.length_append, List.length_append]; omega, fun H4 s4 => ?_⟩
  have s14 := s13.trans s4
  refine ⟨_, rfl, _, _, rfl, .inr (sqt (s14 _ _ e4)), _, rfl, _, _, rfl, .inr (sqt (s14 _ _ et1)), rfl, _, rfl, ?_⟩
  refine ifF (by rw [hk.1, r1.1, hls, decide_eq_true rfl] <;> rfl) ?_
  -- the parts
  refine ⟨_, rfl, _, rfl, st, sx, vl, p.st, p.al, _, _, B, rfl, s14 _ _ e4, hk.mono (.same s14), ItemIn.mono (.same s14) hal, fun i hi => ⟨(hp.s i hi).1, (hp.s i hi).2.1⟩, hp.a.1, hp.a.2.1, hp.nam, fun x hx => hp.nam x (by rw [List.map_append]; exact List.mem_append_left _ hx), fun H5 s5 => ?_⟩
  have s15 := s14.trans s5
  -- the condition's names
  refine ⟨_, rfl, Nat.le_of_ble_eq_true rfl, fun b2 hb2 => ?_⟩
  have sb := same_new hb2 (HO.tup [vl])
  have eb : upd H5 b2 (HO.tup [vl]) b2 = some (HO.tup [vl]) := upd_same
  generalize upd H5 b2 (HO.tup [vl]) = H6 at sb eb ⊢
  have s16 := s15.trans sb
  refine ⟨_, rfl, _, rfl, ?_⟩
  refine catA_one (s16 _ _ et1) (s16 _ _ et2) (by rw [r1.1, r2.1]; exact Nat.le_trans (m := 1000) (by omega) (by decide)) fun q6 H7 s7 e7 => ?_
  have s17 := s16.trans s7
  refine ⟨.ref q6, p.vs ++ p.ins, rfl, ⟨q6, _, rfl, e7, rows_app (r1.mono (.same s17)) (r2.mono (.same s17))⟩, by rw [List.length_append]; omega, fun np H8 s8 en => ?_⟩
  rw [nodE] at en
  have s18 := s17.trans s8
  refine ⟨b2, np, [vl], [p.al], _, _, B, true, rfl, s8 _ _ (s7 _ _ eb), ⟨rfl, fun k i x hi hx => ?_⟩, en, fun i hi => by rw [List.mem_singleton.mp hi]; exact hp.a, fun x hx => hp.nam x (by rw [List.map_append]; exact List.mem_append_left _ hx), by rw [List.length_map, List.length_append]; omega, fun x hx => hx, hp.bd, fun H9 s9 => ?_⟩
  · cases k with
    | zero =>
      cases hi
      cases hx
      exact ItemIn.mono (.same s18) hal
    | succ k => cases hi
  have s19 := s18.trans s9
  -- the steps' names
  refine ⟨_, rfl, _, rfl, _, rfl, ?_⟩
  refine catA_one (s19 _ _ et1) (s19 _ _ et2) (by rw [r1.1, r2.1]; exact Nat.le_trans (m := 1000) (by omega) (by decide)) fun q7 HA sA eA => ⟨_, rfl, ?_⟩
  refine catA_one eA (sA _ _ (s19 _ _ et3)) (by rw [List.length_append, r1.1, r2.1, r3.1]; exact Nat.le_trans (m := 1000) (by omega) (by decide)) fun q8 HB sB eB => ?_
  have s1B := (s19.trans sA).trans sB
  refine ⟨.ref q8, p.vs ++ p.ins ++ p.ns, rfl, ⟨q8, _, rfl, eB, rows_app (rows_app (r1.mono (.same s1B)) (r2.mono (.same s1B))) (r3.mono (.same s1B))⟩, by rw [List.length_append, List.length_append]; omega, fun np2 HC sC en2 => ?_⟩
  rw [nodE] at en2
  have s1C := s1B.trans sC
  exact ⟨st, np2, sx, p.st, _, _, B, false, rfl, s1C _ _ e4, hk.mono (.same s1C), en2, hp.s, hp.nam, by rw [List.length_map, List.length_append, List.length_append]; omega, fun x hx => hx, hp.bd, fun HD sD => q _ (s1C.trans sD)⟩
end
end NL

namespace NL
open PySem PySem.Spec PyProof.Rows L2
def spLaw (K : PySem.W.Frag) : Sp := fun vs H Q _ => ∃ (a : Addr) (ns : List Int), vs = [.ref a] ∧ SqL K H a (ns.map V.int) ∧ ns.length ≤ 63 ∧ ∀ H', Q (.bl true) H'
/-- the reading of ''.join([row + '\n' for row in rows(plant)]) -/
theorem rows_text {K : PySem.W.Frag} {i j : Nat} {σ : L2.St} {H : Hp} {p : Pl} {v : V} {Q : VK} (hσ : σ[i]? = some (some v)) (hj : j < σ.length) (hij : i ≠ j) (hp : PlIn H p v) (hok : PlOk p) (q : ∀ H', Same H H' → Q (.str (Str.join "" (p.lines.map eol))) H') :
    tM1 (fun x xs H Q => ∃ a p, ∃ ys : List Str, x = .str a ∧ xs = [.ref p] ∧ (SqL K H p (ys.map V.str) ∨ SqT K H p (ys.map V.str)) ∧ (ys.map (·.length)).sum + ys.length * a.length ≤ 16777216 ∧ Q (.str (Txt.join a ys)) H) (tC (.str ""))
      (tLc (iList K (tCall spRows [] E0 (tCons (tVar i) tNil))) (gName j) tYes (tOp (fun x y H Q => ∃ i j, x = .str i ∧ y = .str j ∧ i.length + j.length ≤ sizeLine ∧ Q (.str (i ++ j)) H) (tVar j) (tC (.str "\n"))) [j]) σ H Q := by
  obtain ⟨hlen, hline⟩ := lines_len hok
  refine ⟨⟨_, rfl⟩, v, hσ, v, p, rfl, hp, hok, fun r H1 s1 hr e1 => ?_⟩
  refine ⟨r, rfl, ⟨_, sqd e1⟩, fun D hD => ?_⟩
  refine lc_list (K := K) (a := r) (xs := p.lines.map V.str) (fun (k : Nat) (H' : Hp) => Same H1 H' ∧ H' D = some (.lst (((p.lines.take k).map eol).map V.str))) ?_ ?_ ?_ ?_
  · exact ⟨same_new hD _, by rw [upd_same, List.take_zero]; rfl⟩
  · rintro k H' _ ⟨s8, _⟩
    exact sqd (s8 _ _ e1)
  · rintro k x H' hx ⟨s8, e11⟩
    rw [List.getElem?_map] at hx
    cases hn : p.lines[k]? with
    | none => rw [hn] at hx; cases hx
    | some t =>
      rw [hn] at hx
      obtain rfl : V.str t = x := Option.some.inj hx
      have ht := hline t (List.mem_of_getElem? hn)
      have k1 : ("\n" : Str).length = 1 := by decide +kernel
      have hwl : (wipe σ [j]).length = σ.length := wipe_length σ [j]
      refine ⟨?_, yes_if ?_⟩
      · show wipe ((wipe σ [j]).set j (some (V.str t))) [j] = wipe σ [j]
        show ((σ.set j none).set j (some (V.str t))).set j none = σ.set j none
        rw [List.set_set, List.set_set]
      · refine ⟨V.str t, ?_, _, _, rfl, rfl, by rw [k1]; exact big (by omega), _, e11, ?_, same_put s8 hD, ?_⟩
        · rw [List.getElem?_set_self (by rw [hwl]; exact hj)]
        · rw [List.length_map, List.length_map, List.length_take]
          exact small1000 (by omega)
        · rw [upd_same, List.take_add_one, hn, List.map_append, List.map_append]
          rfl
  · rintro H7 ⟨s8, e11⟩
    rw [List.length_map, List.take_length] at e11
    have hsum := lines_sum p.lines hline
    have k0 : ("" : Str).length = 0 := by decide +kernel
    refine ⟨_, D, _, rfl, rfl, .inl (sqd e11), ?_, ?_⟩
    · rw [k0]
      have : p.lines.length * 90301 ≤ 121 * 90301 := Nat.mul_le_mul_right _ hlen
      omega
    · rw [TL.join_eq]
      exact q _ (s1.trans s8)
end NL

namespace NL
open PySem PySem.Spec PyProof.Rows L2 HotX
section
variable {P : Program} {w : World} {K : PySem.W.Frag} {mg : Str → Option Value} {base : Heap}
theorem ok_law (T : Txt K mg) (D : Dic K w mg) (EX : Exs K mg) : FnOk P w K mg base CX0 46 T.alaw T.dlaw Plaw (spLaw K) := by
  have q60 : big60 = 1000000000000000000000000000000000000000000000000000000000000 := rfl
  have hB : big60 - 2 + 2 = big60 := by omega
  have G_law_draws := ok_law_draws (P := P) (w := w) (base := base) T
  have G_law_far := ok_law_far (P := P) (w := w) (base := base) T
  have G_law_take := ok_law_take (P := P) (w := w) (base := base) T
  have G_law_plant := gx_law_plantD (P := P) (w := w) (base := base) (B := big60 - 2) (by omega) T
  have G_law_wide := gx_law_wideR (P := P) (w := w) (base := base) hB T
  have G_law_called := ok_law_called (P := P) (w := w) (base := base) (B := big60 - 2) T
  have G_law_deep := ok_law_deep (P := P) (w := w) (base := base) (B := big60 - 2) T
  have G_law_rows_of_text := ok_law_rows_of_text (P := P) (w := w) (base := base) T
  have Gread_plant := ok_read_plant (P := P) (base := base) T D EX
  have Gwrite_plant := ok_write_plant (P := P) (w := w) (base := base) T
  have G_law_same := ok_law_same (P := P) (w := w) (base := base) T 27
  have Gcheck_plant := ok_check_plant (P := P) (w := w) (base := base) T EX
  refine T.Flaw.ok sclaw (fun vs H Q E h => ?_) (fun cdv A outer s H vs Q E hr h => ?_)
  · obtain ⟨a, ns, rfl, _⟩ := h
    rfl
  obtain ⟨a, ns, rfl, hS, hl, q⟩ := h
  refine ⟨_, (pss_cons (ps_set (i := 1) sclaw.nd rfl (Or.inl rfl) (pe_call G_law_draws (hr.mono (by omega)) (by rfl) T.m_law_draws T.F_law_draws.kp T.b_law_draws .nil pass0 (pa_cons (pv 0) (pa_cons pe_int pa_nil))))
    (pss_cons (ps_set (i := 2) sclaw.nd rfl (Or.inl rfl) (pe_call G_law_far (hr.mono (by omega)) (by rfl) T.m_law_far T.F_law_far.kp T.b_law_far .nil pass0 (pa_cons (pv 0) (pa_cons (pv 1) pa_nil))))
    (pss_cons (ps_set (i := 3) sclaw.nd rfl (Or.inl rfl) (pe_call G_law_plant (hr.mono (by omega)) (by rfl) T.m_law_plant T.F_law_plant.kp T.b_law_plant .nil pass0 (pa_cons (pv 1) (pa_cons (pv 2) (pa_cons (pe_lst (pa_cons pe_int (pa_cons pe_int (pa_cons pe_int pa_nil)))) pa_nil)))))
    (pss_cons (ps_set (i := 3) sclaw.nd rfl (Or.inl rfl) (pe_call G_law_wide (hr.mono (by omega)) (by rfl) T.m_law_wide T.F_law_wide.kp T.b_law_wide .nil pass0 (pa_cons (pv 1) (pa_cons (pv 3) (pa_cons (pv 2) pa_nil)))))
    (C8.pss_cut (ps_if (pt_cmpR op_eq (pe_call G_law_take (hr.mono (by omega)) (by rfl) T.m_law_take T.F_law_take.kp T.b_law_take .nil pass0 (pa_cons (pv 1) (pa_cons pe_int pa_nil))) pe_int (nomark _))
    (pss_one (ps_set (i := 3) sclaw.nd rfl (Or.inl rfl) (pe_call G_law_called (hr.mono (by omega)) (by rfl) T.m_law_called T.F_law_called.kp T.b_law_called .nil pass0 (pa_cons (pv 1) (pa_cons (pv 3) pa_nil)))))
    pss_nil)
    (C8.pss_cut (ps_if (pt_cmpR op_eq (pe_call G_law_take (hr.mono (by omega)) (by rfl) T.m_law_take T.F_law_take.kp T.b_law_take .nil pass0 (pa_cons (pv 1) (pa_cons pe_int pa_nil))) pe_int (nomark _))
    (pss_one (ps_set (i := 3) sclaw.nd rfl (Or.inl rfl) (pe_call G_law_deep (hr.mono (by omega)) (by rfl) T.m_law_deep T.F_law_deep.kp T.b_law_deep .nil pass0 (pa_cons (pv 1) (pa_cons (pv 3) pa_nil)))))
    pss_nil)
    (pss_cons (ps_set (i := 4) sclaw.nd rfl (Or.inl rfl) (pe_join pe_str (pe_lc (own := [("row", 5)]) (g := (gName 5)) (tt := tYes) rfl sclaw.nd (pi_list (pe_call G_law_rows_of_text (hr.mono (by omega)) (by rfl) T.m_law_rows_of_text T.F_law_rows_of_text.kp T.b_law_rows_of_text .nil pass0 (pa_cons (pv 3) pa_nil))) (blkOk_by (N := Nlaw) (sc := defScope slaw) (by decide +kernel)) (fun _ _ _ _ _ => (pg_name (i := 5) sclaw.nd rfl (Or.inl rfl))) (fun _ _ _ _ _ => pts_nil) (fun _ _ _ _ _ => (pe_op op_add_str (pv 5) pe_str)))))
    (pss_cons (ps_set (i := 6) sclaw.nd rfl (Or.inl rfl) (pe_call Gread_plant (hr.mono (by omega)) (by rfl) T.mread_plant T.Fread_plant.kp T.bread_plant .nil pass0 (pa_cons (pv 4) pa_nil)))
    (pss_cons (ps_if (PW.pt (pw_or (pt_not (pt_val (pe_call G_law_same (hr.mono (by omega)) (by rfl) T.m_law_same T.F_law_same.kp T.b_law_same .nil pass0 (pa_cons (pv 6) (pa_cons (pv 3) pa_nil))))) (pw_or1 (pt_cmpR op_ne (pe_call Gwrite_plant (hr.mono (by omega)) (by rfl) T.mwrite_plant T.Fwrite_plant.kp T.bwrite_plant .nil pass0 (pa_cons (pv 6) pa_nil)) (pv 4) (nomark _)))))
    (pss_one (ps_ret pe_bl))
    pss_nil)
    (pss_one (ps_ret (pe_cmpR op_isN (pe_call Gcheck_plant (hr.mono (by omega)) (by rfl) T.mcheck_plant T.Fcheck_plant.kp T.bcheck_plant .nil pass0 (pa_cons (pv 6) pa_nil)) pe_non (nomark _))))))))))))), ?_⟩
  refine ⟨_, rfl, a, ns, 620, rfl, hS, hl, by decide, by decide, fun d H1 s1 hd D1 => ?_⟩
  have hk := Keep.old hS hd s1
  refine ⟨_, rfl, _, rfl, a, d, ns, rfl, hk, D1, fun c H2 g2 hc => ?_⟩
  refine ⟨_, rfl, _, rfl, (Nat.le_of_ble_eq_true rfl), fun rp hrp => ?_⟩
  have g3 := fun o => Go.new (o := o) g2.dr hrp
  refine ⟨d, rp, c, 200, 60, 60, rfl, (g3 _).dr, .of (new_ne g2.dr hrp) upd_same, by decide, by decide, by decide, hc, fun v p xs H4 g4 hpl hpg hpd => ?_⟩
  refine ⟨_, rfl, _, rfl, _, rfl, d, v, p, xs, c, rfl, g4.dr, hpl, hpg, hpd, hc, fun v1 p1 H5 g5 hpl1 hR1 hfew hSh => ?_⟩
  -- a variable more
  refine ⟨fun σ H6 => ∃ (v : V) (p : Pl), σ = [some (.ref a), some (.ref d), some (.int c), some v, none, none, none] ∧ Dr H6 d ∧ PlIn H6 p v ∧ PlR p (big60 - 2) ∧ Shal p, ?_, ?_⟩
  · refine ⟨_, rfl, d, _, rfl, g5.dr, by decide, fun u H6 g6 u0 u1 => ⟨rfl, _, rfl, ?_⟩⟩
    have hpl6 := hpl1.mono (g6.tp g5.dr)
    cases hb : decide (V.int u = V.int 0) with
    | true =>
      refine iteT ⟨_, rfl, _, rfl, d, v1, p1, rfl, g6.dr, hpl6, hR1, hfew.1, hfew.2, hSh, fun v2 p2 H7 g7 hpl2 hR2 hSh2 => ?_⟩
      exact ⟨v2, p2, rfl, g7.dr, hpl2, hR2, hSh2⟩
    | false => exact iteF ⟨v1, p1, rfl, g6.dr, hpl6, hR1, hSh⟩
  rintro σ H6 ⟨v2, p2, rfl, hD6, hpl2, hR2, hSh2⟩
  -- deeper
  refine ⟨fun σ H6 => ∃ (v : V) (p : Pl), σ = [some (.ref a), some (.ref d), some (.int c), some v, none, none, none] ∧ PlIn H6 p v ∧ PlR p (big60 - 2), ?_, ?_⟩
  · refine ⟨_, rfl, d, _, rfl, hD6, by decide, fun u H7 g7 u0 u1 => ⟨rfl, _, rfl, ?_⟩⟩
    have hpl7 := hpl2.mono (g7.tp hD6)
    cases hb : decide (V.int u = V.int 0) with
    | true =>
      refine iteT ⟨_, rfl, _, rfl, d, v2, p2, rfl, g7.dr, hpl7, hR2, by omega, hSh2.1, hSh2.2.1, hSh2.2.2, fun v3 p3 H8 g8 hpl3 hR3 => ?_⟩
      exact ⟨v3, p3, rfl, hpl3, hR3⟩
    | false => exact iteF ⟨v2, p2, rfl, hpl7, hR2⟩
  rintro σ H7 ⟨v3, p3, rfl, hpl3, hR3⟩
  -- the text, read and written
  unfold tSeq tAsg
  refine rows_text (K := K) (i := 3) (j := 5) (σ := [some (.ref a), some (.ref d), some (.int c), some v3, none, none, none]) rfl (Nat.le_of_ble_eq_true rfl) (by decide) hpl3 hR3.ok fun H8 s8 => ?_
  have hpl8 := hpl3.mono (Tp.same s8)
  refine ⟨_, rfl, p3, _, rfl, hR3, fun v4 H9 s9 hpl4 => ?_⟩
  refine ⟨_, rfl, _, rfl, _, _, rfl, plant_alike hR3 hpl4 (hpl8.mono (Tp.same s9)), true, rfl, ?_⟩
  refine iteF ?_
  refine ⟨_, rfl, v4, p3, rfl, hpl4, hR3.ok, fun HA sA => ⟨_, rfl, rfl, _, rfl, ?_⟩⟩
  refine ifF (by simp) ?_
  refine ⟨_, rfl, v4, p3, _, rfl, hpl4.mono (Tp.same sA), hR3, fun HB sB => ⟨rfl, ?_⟩⟩
  rw [decide_eq_true rfl]
  exact q HB
end
end NL

namespace NL
open PySem PySem.Spec PyProof.Rows L2
theorem all_mk {l : PySem.W.OpenLaw} {w : World} {K : PySem.W.Frag} {h : Heap} {mg : Str → Option Value} {fa frun_end fis_name fis_integer fparts_in fcheck_expression fcheck_condition f_check fnames_in f_all_names ftokens_of f_piece_end fread_whole f_pass_token f_read_part f_read_divisor f_read_expression f_read_condition f_read_parts f_read_conditions fnames_of fcheck_plant f_check_ranges f_check_parts f_check_names_in f_written fwrite_plant f_range_lines fread_plant f_read_ranges f_is_range f_read_behind f_law_draws f_law_take f_law_cell f_law_word f_law_some_word f_law_reserved f_law_name f_law_names f_law_number f_law_leaf f_law_expression f_law_test f_law_inner f_law_depth f_law_is_test f_law_around f_law_ranges f_law_step f_law_plant f_law_wide f_law_far f_law_tokens f_law_written f_law_item_text f_law_rows_of_text f_law_same f_law_called f_law_deep flaw : Addr} (X : K.In h) (G : h.Ns mainGlobals mg) (hfa : mg "law" = some (.ref fa))
    {odrun_end anrun_end : Option Addr} {slrun_end : Array (Option Value)} {ocrun_end kVrun_end dcrun_end pmrun_end cdrun_end ctrun_end : Value}
    {odis_name anis_name : Option Addr} {slis_name : Array (Option Value)} {ocis_name kVis_name dcis_name pmis_name cdis_name ctis_name : Value}
    {odis_integer anis_integer : Option Addr} {slis_integer : Array (Option Value)} {ocis_integer kVis_integer dcis_integer pmis_integer cdis_integer ctis_integer : Value}
    {odparts_in anparts_in : Option Addr} {slparts_in : Array (Option Value)} {ocparts_in kVparts_in dcparts_in pmparts_in cdparts_in ctparts_in : Value}
    {odcheck_expression ancheck_expression : Option Addr} {slcheck_expression : Array (Option Value)} {occheck_expression kVcheck_expression dccheck_expression pmcheck_expression cdcheck_expression ctcheck_expression : Value}
    {odcheck_condition ancheck_condition : Option Addr} {slcheck_condition : Array (Option Value)} {occheck_condition kVcheck_condition dccheck_condition pmcheck_condition cdcheck_condition ctcheck_condition : Value}
    {od_check an_check : Option Addr} {sl_check : Array (Option Value)} {oc_check kV_check dc_check pm_check cd_check ct_check : Value}
    {odnames_in annames_in : Option Addr} {slnames_in : Array (Option Value)} {ocnames_in kVnames_in dcnames_in pmnames_in cdnames_in ctnames_in : Value}
    {od_all_names an_all_names : Option Addr} {sl_all_names : Array (Option Value)} {oc_all_names kV_all_names dc_all_names pm_all_names cd_all_names ct_all_names : Value}
    {odtokens_of antokens_of : Option Addr} {sltokens_of : Array (Option Value)} {octokens_of kVtokens_of dctokens_of pmtokens_of cdtokens_of cttokens_of : Value}
    {od_piece_end an_piece_end : Option Addr} {sl_piece_end : Array (Option Value)} {oc_piece_end kV_piece_end dc_piece_end pm_piece_end cd_piece_end ct_piece_end : Value}
    {odread_whole anread_whole : Option Addr} {slread_whole : Array (Option Value)} {ocread_whole kVread_whole dcread_whole pmread_whole cdread_whole ctread_whole : Value}
    {od_pass_token an_pass_token : Option Addr} {sl_pass_token : Array (Option Value)} {oc_pass_token kV_pass_token dc_pass_token pm_pass_token cd_pass_token ct_pass_token : Value}
    {od_read_part an_read_part : Option Addr} {sl_read_part : Array (Option Value)} {oc_read_part kV_read_part dc_read_part pm_read_part cd_read_part ct_read_part : Value}
    {od_read_divisor an_read_divisor : Option Addr} {sl_read_divisor : Array (Option Value)} {oc_read_divisor kV_read_divisor dc_read_divisor pm_read_divisor cd_read_divisor ct_read_divisor : Value}
    {od_read_expression an_read_expression : Option Addr} {sl_read_expression : Array (Option Value)} {oc_read_expression kV_read_expression dc_read_expression pm_read_expression cd_read_expression ct_read_expression : Value}
    {od_read_condition an_read_condition : Option Addr} {sl_read_condition : Array (Option Value)} {oc_read_condition kV_read_condition dc_read_condition pm_read_condition cd_read_condition ct_read_condition : Value}
    {od_read_parts an_read_parts : Option Addr} {sl_read_parts : Array (Option Value)} {oc_read_parts kV_read_parts dc_read_parts pm_read_parts cd_read_parts ct_read_parts : Value}
    {od_read_conditions an_read_conditions : Option Addr} {sl_read_conditions : Array (Option Value)} {oc_read_conditions kV_read_conditions dc_read_conditions pm_read_conditions cd_read_conditions ct_read_conditions : Value}
    {odnames_of annames_of : Option Addr} {slnames_of : Array (Option Value)} {ocnames_of kVnames_of dcnames_of pmnames_of cdnames_of ctnames_of : Value}
    {odcheck_plant ancheck_plant : Option Addr} {slcheck_plant : Array (Option Value)} {occheck_plant kVcheck_plant dccheck_plant pmcheck_plant cdcheck_plant ctcheck_plant : Value}
    {od_check_ranges an_check_ranges : Option Addr} {sl_check_ranges : Array (Option Value)} {oc_check_ranges kV_check_ranges dc_check_ranges pm_check_ranges cd_check_ranges ct_check_ranges : Value}
    {od_check_parts an_check_parts : Option Addr} {sl_check_parts : Array (Option Value)} {oc_check_parts kV_check_parts dc_check_parts pm_check_parts cd_check_parts ct_check_parts : Value}
    {od_check_names_in an_check_names_in : Option Addr} {sl_check_names_in : Array (Option Value)} {oc_check_names_in kV_check_names_in dc_check_names_in pm_check_names_in cd_check_names_in ct_check_names_in : Value}
    {od_written an_written : Option Addr} {sl_written : Array (Option Value)} {oc_written kV_written dc_written pm_written cd_written ct_written : Value}
    {odwrite_plant anwrite_plant : Option Addr} {slwrite_plant : Array (Option Value)} {ocwrite_plant kVwrite_plant dcwrite_plant pmwrite_plant cdwrite_plant ctwrite_plant : Value}
    {od_range_lines an_range_lines : Option Addr} {sl_range_lines : Array (Option Value)} {oc_range_lines kV_range_lines dc_range_lines pm_range_lines cd_range_lines ct_range_lines : Value}
    {odread_plant anread_plant : Option Addr} {slread_plant : Array (Option Value)} {ocread_plant kVread_plant dcread_plant pmread_plant cdread_plant ctread_plant : Value}
    {od_read_ranges an_read_ranges : Option Addr} {sl_read_ranges : Array (Option Value)} {oc_read_ranges kV_read_ranges dc_read_ranges pm_read_ranges cd_read_ranges ct_read_ranges : Value}
    {od_is_range an_is_range : Option Addr} {sl_is_range : Array (Option Value)} {oc_is_range kV_is_range dc_is_range pm_is_range cd_is_range ct_is_range : Value}
    {od_read_behind an_read_behind : Option Addr} {sl_read_behind : Array (Option Value)} {oc_read_behind kV_read_behind dc_read_behind pm_read_behind cd_read_behind ct_read_behind : Value}
    {od_law_draws an_law_draws : Option Addr} {sl_law_draws : Array (Option Value)} {oc_law_draws kV_law_draws dc_law_draws pm_law_draws cd_law_draws ct_law_draws : Value}
    {od_law_take an_law_take : Option Addr} {sl_law_take : Array (Option Value)} {oc_law_take kV_law_take dc_law_take pm_law_take cd_law_take ct_law_take : Value}
    {od_law_cell an_law_cell : Option Addr} {sl_law_cell : Array (Option Value)} {oc_law_cell kV_law_cell dc_law_cell pm_law_cell cd_law_cell ct_law_cell : Value}
    {od_law_word an_law_word : Option Addr} {sl_law_word : Array (Option Value)} {oc_law_word kV_law_word dc_law_word pm_law_word cd_law_word ct_law_word : Value}
    {od_law_some_word an_law_some_word : Option Addr} {sl_law_some_word : Array (Option Value)} {oc_law_some_word kV_law_some_word dc_law_some_word pm_law_some_word cd_law_some_word ct_law_some_word : Value}
    {od_law_reserved an_law_reserved : Option Addr} {sl_law_reserved : Array (Option Value)} {oc_law_reserved kV_law_reserved dc_law_reserved pm_law_reserved cd_law_reserved ct_law_reserved : Value}
    {od_law_name an_law_name : Option Addr} {sl_law_name : Array (Option Value)} {oc_law_name kV_law_name dc_law_name pm_law_name cd_law_name ct_law_name : Value}
    {od_law_names an_law_names : Option Addr} {sl_law_names : Array (Option Value)} {oc_law_names kV_law_names dc_law_names pm_law_names cd_law_names ct_law_names : Value}
    {od_law_number an_law_number : Option Addr} {sl_law_number : Array (Option Value)} {oc_law_number kV_law_number dc_law_number pm_law_number cd_law_number ct_law_number : Value}
    {od_law_leaf an_law_leaf : Option Addr} {sl_law_leaf : Array (Option Value)} {oc_law_leaf kV_law_leaf dc_law_leaf pm_law_leaf cd_law_leaf ct_law_leaf : Value}
    {od_law_expression an_law_expression : Option Addr} {sl_law_expression : Array (Option Value)} {oc_law_expression kV_law_expression dc_law_expression pm_law_expression cd_law_expression ct_law_expression : Value}
    {od_law_test an_law_test : Option Addr} {sl_law_test : Array (Option Value)} {oc_law_test kV_law_test dc_law_test pm_law_test cd_law_test ct_law_test : Value}
    {od_law_inner an_law_inner : Option Addr} {sl_law_inner : Array (Option Value)} {oc_law_inner kV_law_inner dc_law_inner pm_law_inner cd_law_inner ct_law_inner : Value}
    {od_law_depth an_law_depth : Option Addr} {sl_law_depth : Array (Option Value)} {oc_law_depth kV_law_depth dc_law_depth pm_law_depth cd_law_depth ct_law_depth : Value}
    {od_law_is_test an_law_is_test : Option Addr} {sl_law_is_test : Array (Option Value)} {oc_law_is_test kV_law_is_test dc_law_is_test pm_law_is_test cd_law_is_test ct_law_is_test : Value}
    {od_law_around an_law_around : Option Addr} {sl_law_around : Array (Option Value)} {oc_law_around kV_law_around dc_law_around pm_law_around cd_law_around ct_law_around : Value}
    {od_law_ranges an_law_ranges : Option Addr} {sl_law_ranges : Array (Option Value)} {oc_law_ranges kV_law_ranges dc_law_ranges pm_law_ranges cd_law_ranges ct_law_ranges : Value}
    {od_law_step an_law_step : Option Addr} {sl_law_step : Array (Option Value)} {oc_law_step kV_law_step dc_law_step pm_law_step cd_law_step ct_law_step : Value}
    {od_law_plant an_law_plant : Option Addr} {sl_law_plant : Array (Option Value)} {oc_law_plant kV_law_plant dc_law_plant pm_law_plant cd_law_plant ct_law_plant : Value}
    {od_law_wide an_law_wide : Option Addr} {sl_law_wide : Array (Option Value)} {oc_law_wide kV_law_wide dc_law_wide pm_law_wide cd_law_wide ct_law_wide : Value}
    {od_law_far an_law_far : Option Addr} {sl_law_far : Array (Option Value)} {oc_law_far kV_law_far dc_law_far pm_law_far cd_law_far ct_law_far : Value}
    {od_law_tokens an_law_tokens : Option Addr} {sl_law_tokens : Array (Option Value)} {oc_law_tokens kV_law_tokens dc_law_tokens pm_law_tokens cd_law_tokens ct_law_tokens : Value}
    {od_law_written an_law_written : Option Addr} {sl_law_written : Array (Option Value)} {oc_law_written kV_law_written dc_law_written pm_law_written cd_law_written ct_law_written : Value}
    {od_law_item_text an_law_item_text : Option Addr} {sl_law_item_text : Array (Option Value)} {oc_law_item_text kV_law_item_text dc_law_item_text pm_law_item_text cd_law_item_text ct_law_item_text : Value}
    {od_law_rows_of_text an_law_rows_of_text : Option Addr} {sl_law_rows_of_text : Array (Option Value)} {oc_law_rows_of_text kV_law_rows_of_text dc_law_rows_of_text pm_law_rows_of_text cd_law_rows_of_text ct_law_rows_of_text : Value}
    {od_law_same an_law_same : Option Addr} {sl_law_same : Array (Option Value)} {oc_law_same kV_law_same dc_law_same pm_law_same cd_law_same ct_law_same : Value}
    {od_law_called an_law_called : Option Addr} {sl_law_called : Array (Option Value)} {oc_law_called kV_law_called dc_law_called pm_law_called cd_law_called ct_law_called : Value}
    {od_law_deep an_law_deep : Option Addr} {sl_law_deep : Array (Option Value)} {oc_law_deep kV_law_deep dc_law_deep pm_law_deep cd_law_deep ct_law_deep : Value}
    {odlaw anlaw : Option Addr} {sllaw : Array (Option Value)} {oclaw kVlaw dclaw pmlaw cdlaw ctlaw : Value}
    {u_LETTERS : Value}
    {u_DIGITS : Value}
    {u_MOST_DIGITS : Value}
    {c_WORDS : Addr}
    {u_MOST_DEPTH : Value}
    {c_EXPRESSION_PARTS : Addr} {e_EXPRESSION_PARTS : Array DictEntry} {n_EXPRESSION_PARTS : Nat} {t0_EXPRESSION_PARTS t1_EXPRESSION_PARTS t2_EXPRESSION_PARTS t3_EXPRESSION_PARTS t4_EXPRESSION_PARTS t5_EXPRESSION_PARTS t6_EXPRESSION_PARTS t7_EXPRESSION_PARTS t8_EXPRESSION_PARTS : Addr}
    {c_CONDITION_PARTS : Addr} {e_CONDITION_PARTS : Array DictEntry} {n_CONDITION_PARTS : Nat} {t0_CONDITION_PARTS t1_CONDITION_PARTS t2_CONDITION_PARTS : Addr}
    {c_ControlError c_InvalidExpression c_InvalidPlant c_BadText : Addr}
    {fI : Addr} {odI anI : Option Addr} {slI : Array (Option Value)} {ocI kVI dcI pmI cdI ctI : Value}
    {xnm xq : Str} {xN : Addr} {xbs xbm : List Value} {xsn : List Str} {xsub : List Value} {xab : Bool} {xcol : Option Bool} {xdd : Option Addr} {xm0 xm1 xm2 xm3 xm5 : Option Value}
    (arun_end : PySem.W.nsIn K mainGlobals "run_end" = some (some (.ref frun_end))) (lrun_end : K.lookup frun_end = some ⟨ocrun_end, odrun_end, .func (PySem.W.fnOf "run_end" "run_end" (defArgs srun_end) (defBody srun_end) (defScope srun_end) .none kVrun_end dcrun_end pmrun_end anrun_end cdrun_end ctrun_end), slrun_end⟩) (crun_end : PySem.W.codeIn K cdrun_end "run_end" = true) (krun_end : PySem.W.keepIn K (.ref frun_end) = true)
    (ais_name : PySem.W.nsIn K mainGlobals "is_name" = some (some (.ref fis_name))) (lis_name : K.lookup fis_name = some ⟨ocis_name, odis_name, .func (PySem.W.fnOf "is_name" "is_name" (defArgs sis_name) (defBody sis_name) (defScope sis_name) .none kVis_name dcis_name pmis_name anis_name cdis_name ctis_name), slis_name⟩) (cis_name : PySem.W.codeIn K cdis_name "is_name" = true) (kis_name : PySem.W.keepIn K (.ref fis_name) = true)
    (ais_integer : PySem.W.nsIn K mainGlobals "is_integer" = some (some (.ref fis_integer))) (lis_integer : K.lookup fis_integer = some ⟨ocis_integer, odis_integer, .func (PySem.W.fnOf "is_integer" "is_integer" (defArgs sis_integer) (defBody sis_integer) (defScope sis_integer) .none kVis_integer dcis_integer pmis_integer anis_integer cdis_integer ctis_integer), slis_integer⟩) (cis_integer : PySem.W.codeIn K cdis_integer "is_integer" = true) (kis_integer : PySem.W.keepIn K (.ref fis_integer) = true)
    (aparts_in : PySem.W.nsIn K mainGlobals "parts_in" = some (some (.ref fparts_in))) (lparts_in : K.lookup fparts_in = some ⟨ocparts_in, odparts_in, .func (PySem.W.fnOf "parts_in" "parts_in" (defArgs sparts_in) (defBody sparts_in) (defScope sparts_in) .none kVparts_in dcparts_in pmparts_in anparts_in cdparts_in ctparts_in), slparts_in⟩) (cparts_in : PySem.W.codeIn K cdparts_in "parts_in" = true) (kparts_in : PySem.W.keepIn K (.ref fparts_in) = true)
    (acheck_expression : PySem.W.nsIn K mainGlobals "check_expression" = some (some (.ref fcheck_expression))) (lcheck_expression : K.lookup fcheck_expression = some ⟨occheck_expression, odcheck_expression, .func (PySem.W.fnOf "check_expression" "check_expression" (defArgs scheck_expression) (defBody scheck_expression) (defScope scheck_expression) .none kVcheck_expression dccheck_expression pmcheck_expression ancheck_expression cdcheck_expression ctcheck_expression), slcheck_expression⟩) (ccheck_expression : PySem.W.codeIn K cdcheck_expression "check_expression" = true) (kcheck_expression : PySem.W.keepIn K (.ref fcheck_expression) = true)
    (acheck_condition : PySem.W.nsIn K mainGlobals "check_condition" = some (some (.ref fcheck_condition))) (lcheck_condition : K.lookup fcheck_condition = some ⟨occheck_condition, odcheck_condition, .func (PySem.W.fnOf "check_condition" "check_condition" (defArgs scheck_condition) (defBody scheck_condition) (defScope scheck_condition) .none kVcheck_condition dccheck_condition pmcheck_condition ancheck_condition cdcheck_condition ctcheck_condition), slcheck_condition⟩) (ccheck_condition : PySem.W.codeIn K cdcheck_condition "check_condition" = true) (kcheck_condition : PySem.W.keepIn K (.ref fcheck_condition) = true)
    (a_check : PySem.W.nsIn K mainGlobals "_check" = some (some (.ref f_check))) (l_check : K.lookup f_check = some ⟨oc_check, od_check, .func (PySem.W.fnOf "_check" "_check" (defArgs s_check) (defBody s_check) (defScope s_check) .none kV_check dc_check pm_check an_check cd_check ct_check), sl_check⟩) (c_check : PySem.W.codeIn K cd_check "_check" = true) (k_check : PySem.W.keepIn K (.ref f_check) = true)
    (anames_in : PySem.W.nsIn K mainGlobals "names_in" = some (some (.ref fnames_in))) (lnames_in : K.lookup fnames_in = some ⟨ocnames_in, odnames_in, .func (PySem.W.fnOf "names_in" "names_in" (defArgs snames_in) (defBody snames_in) (defScope snames_in) .none kVnames_in dcnames_in pmnames_in annames_in cdnames_in ctnames_in), slnames_in⟩) (cnames_in : PySem.W.codeIn K cdnames_in "names_in" = true) (knames_in : PySem.W.keepIn K (.ref fnames_in) = true)
    (a_all_names : PySem.W.nsIn K mainGlobals "_all_names" = some (some (.ref f_all_names))) (l_all_names : K.lookup f_all_names = some ⟨oc_all_names, od_all_names, .func (PySem.W.fnOf "_all_names" "_all_names" (defArgs s_all_names) (defBody s_all_names) (defScope s_all_names) .none kV_all_names dc_all_names pm_all_names an_all_names cd_all_names ct_all_names), sl_all_names⟩) (c_all_names : PySem.W.codeIn K cd_all_names "_all_names" = true) (k_all_names : PySem.W.keepIn K (.ref f_all_names) = true)
    (atokens_of : PySem.W.nsIn K mainGlobals "tokens_of" = some (some (.ref ftokens_of))) (ltokens_of : K.lookup ftokens_of = some ⟨octokens_of, odtokens_of, .func (PySem.W.fnOf "tokens_of" "tokens_of" (defArgs stokens_of) (defBody stokens_of) (defScope stokens_of) .none kVtokens_of dctokens_of pmtokens_of antokens_of cdtokens_of cttokens_of), sltokens_of⟩) (ctokens_of : PySem.W.codeIn K cdtokens_of "tokens_of" = true) (ktokens_of : PySem.W.keepIn K (.ref ftokens_of) = true)
    (a_piece_end : PySem.W.nsIn K mainGlobals "_piece_end" = some (some (.ref f_piece_end))) (l_piece_end : K.lookup f_piece_end = some ⟨oc_piece_end, od_piece_end, .func (PySem.W.fnOf "_piece_end" "_piece_end" (defArgs s_piece_end) (defBody s_piece_end) (defScope s_piece_end) .none kV_piece_end dc_piece_end pm_piece_end an_piece_end cd_piece_end ct_piece_end), sl_piece_end⟩) (c_piece_end : PySem.W.codeIn K cd_piece_end "_piece_end" = true) (k_piece_end : PySem.W.keepIn K (.ref f_piece_end) = true)
    (aread_whole : PySem.W.nsIn K mainGlobals "read_whole" = some (some (.ref fread_whole))) (lread_whole : K.lookup fread_whole = some ⟨ocread_whole, odread_whole, .func (PySem.W.fnOf "read_whole" "read_whole" (defArgs sread_whole) (defBody sread_whole) (defScope sread_whole) .none kVread_whole dcread_whole pmread_whole anread_whole cdread_whole ctread_whole), slread_whole⟩) (cread_whole : PySem.W.codeIn K cdread_whole "read_whole" = true) (kread_whole : PySem.W.keepIn K (.ref fread_whole) = true)
    (a_pass_token : PySem.W.nsIn K mainGlobals "_pass_token" = some (some (.ref f_pass_token))) (l_pass_token : K.lookup f_pass_token = some ⟨oc_pass_token, od_pass_token, .func (PySem.W.fnOf "_pass_token" "_pass_token" (defArgs s_pass_token) (defBody s_pass_token) (defScope s_pass_token) .none kV_pass_token dc_pass_token pm_pass_token an_pass_token cd_pass_token ct_pass_token), sl_pass_token⟩) (c_pass_token : PySem.W.codeIn K cd_pass_token "_pass_token" = true) (k_pass_token : PySem.W.keepIn K (.ref f_pass_token) = true)
    (a_read_part : PySem.W.nsIn K mainGlobals "_read_part" = some (some (.ref f_read_part))) (l_read_part : K.lookup f_read_part = some ⟨oc_read_part, od_read_part, .func (PySem.W.fnOf "_read_part" "_read_part" (defArgs s_read_part) (defBody s_read_part) (defScope s_read_part) .none kV_read_part dc_read_part pm_read_part an_read_part cd_read_part ct_read_part), sl_read_part⟩) (c_read_part : PySem.W.codeIn K cd_read_part "_read_part" = true) (k_read_part : PySem.W.keepIn K (.ref f_read_part) = true)
    (a_read_divisor : PySem.W.nsIn K mainGlobals "_read_divisor" = some (some (.ref f_read_divisor))) (l_read_divisor : K.lookup f_read_divisor = some ⟨oc_read_divisor, od_read_divisor, .func (PySem.W.fnOf "_read_divisor" "_read_divisor" (defArgs s_read_divisor) (defBody s_read_divisor) (defScope s_read_divisor) .none kV_read_divisor dc_read_divisor pm_read_divisor an_read_divisor cd_read_divisor ct_read_divisor), sl_read_divisor⟩) (c_read_divisor : PySem.W.codeIn K cd_read_divisor "_read_divisor" = true) (k_read_divisor : PySem.W.keepIn K (.ref f_read_divisor) = true)
    (a_read_expression : PySem.W.nsIn K mainGlobals "_read_expression" = some (some (.ref f_read_expression))) (l_read_expression : K.lookup f_read_expression = some ⟨oc_read_expression, od_read_expression, .func (PySem.W.fnOf "_read_expression" "_read_expression" (defArgs s_read_expression) (defBody s_read_expression) (defScope s_read_expression) .none kV_read_expression dc_read_expression pm_read_expression an_read_expression cd_read_expression ct_read_expression), sl_read_expression⟩) (c_read_expression : PySem.W.codeIn K cd_read_expression "_read_expression" = true) (k_read_expression : PySem.W.keepIn K (.ref f_read_expression) = true)
    (a_read_condition : PySem.W.nsIn K mainGlobals "_read_condition" = some (some (.ref f_read_condition))) (l_read_condition : K.lookup f_read_condition = some ⟨oc_read_condition, od_read_condition, .func (PySem.W.fnOf "_read_condition" "_read_condition" (defArgs s_read_condition) (defBody s_read_condition) (defScope s_read_condition) .none kV_read_condition dc_read_condition pm_read_condition an_read_condition cd_read_condition ct_read_condition), sl_read_condition⟩) (c_read_condition : PySem.W.codeIn K cd_read_condition "_read_condition" = true) (k_read_condition : PySem.W.keepIn K (.ref f_read_condition) = true)
    (a_read_parts : PySem.W.nsIn K mainGlobals "_read_parts" = some (some (.ref f_read_parts))) (l_read_parts : K.lookup f_read_parts = some ⟨oc_read_parts, od_read_parts, .func (PySem.W.fnOf "_read_parts" "_read_parts" (defArgs s_read_parts) (defBody s_read_parts) (defScope s_read_parts) .none kV_read_parts dc_read_parts pm_read_parts an_read_parts cd_read_parts ct_read_parts), sl_read_parts⟩) (c_read_parts : PySem.W.codeIn K cd_read_parts "_read_parts" = true) (k_read_parts : PySem.W.keepIn K (.ref f_read_parts) = true)
    (a_read_conditions : PySem.W.nsIn K mainGlobals "_read_conditions" = some (some (.ref f_read_conditions))) (l_read_conditions : K.lookup f_read_conditions = some ⟨oc_read_conditions, od_read_conditions, .func (PySem.W.fnOf "_read_conditions" "_read_conditions" (defArgs s_read_conditions) (defBody s_read_conditions) (defScope s_read_conditions) .none kV_read_conditions dc_read_conditions pm_read_conditions an_read_conditions cd_read_conditions ct_read_conditions), sl_read_conditions⟩) (c_read_conditions : PySem.W.codeIn K cd_read_conditions "_read_conditions" = true) (k_read_conditions : PySem.W.keepIn K (.ref f_read_conditions) = true)
    (anames_of : PySem.W.nsIn K mainGlobals "names_of" = some (some (.ref fnames_of))) (lnames_of : K.lookup fnames_of = some ⟨ocnames_of, odnames_of, .func (PySem.W.fnOf "names_of" "names_of" (defArgs snames_of) (defBody snames_of) (defScope snames_of) .none kVnames_of dcnames_of pmnames_of annames_of cdnames_of ctnames_of), slnames_of⟩) (cnames_of : PySem.W.codeIn K cdnames_of "names_of" = true) (knames_of : PySem.W.keepIn K (.ref fnames_of) = true)
    (acheck_plant : PySem.W.nsIn K mainGlobals "check_plant" = some (some (.ref fcheck_plant))) (lcheck_plant : K.lookup fcheck_plant = some ⟨occheck_plant, odcheck_plant, .func (PySem.W.fnOf "check_plant" "check_plant" (defArgs scheck_plant) (defBody scheck_plant) (defScope scheck_plant) .none kVcheck_plant dccheck_plant pmcheck_plant ancheck_plant cdcheck_plant ctcheck_plant), slcheck_plant⟩) (ccheck_plant : PySem.W.codeIn K cdcheck_plant "check_plant" = true) (kcheck_plant : PySem.W.keepIn K (.ref fcheck_plant) = true)
    (a_check_ranges : PySem.W.nsIn K mainGlobals "_check_ranges" = some (some (.ref f_check_ranges))) (l_check_ranges : K.lookup f_check_ranges = some ⟨oc_check_ranges, od_check_ranges, .func (PySem.W.fnOf "_check_ranges" "_check_ranges" (defArgs s_check_ranges) (defBody s_check_ranges) (defScope s_check_ranges) .none kV_check_ranges dc_check_ranges pm_check_ranges an_check_ranges cd_check_ranges ct_check_ranges), sl_check_ranges⟩) (c_check_ranges : PySem.W.codeIn K cd_check_ranges "_check_ranges" = true) (k_check_ranges : PySem.W.keepIn K (.ref f_check_ranges) = true)
    (a_check_parts : PySem.W.nsIn K mainGlobals "_check_parts" = some (some (.ref f_check_parts))) (l_check_parts : K.lookup f_check_parts = some ⟨oc_check_parts, od_check_parts, .func (PySem.W.fnOf "_check_parts" "_check_parts" (defArgs s_check_parts) (defBody s_check_parts) (defScope s_check_parts) .none kV_check_parts dc_check_parts pm_check_parts an_check_parts cd_check_parts ct_check_parts), sl_check_parts⟩) (c_check_parts : PySem.W.codeIn K cd_check_parts "_check_parts" = true) (k_check_parts : PySem.W.keepIn K (.ref f_check_parts) = true)
    (a_check_names_in : PySem.W.nsIn K mainGlobals "_check_names_in" = some (some (.ref f_check_names_in))) (l_check_names_in : K.lookup f_check_names_in = some ⟨oc_check_names_in, od_check_names_in, .func (PySem.W.fnOf "_check_names_in" "_check_names_in" (defArgs s_check_names_in) (defBody s_check_names_in) (defScope s_check_names_in) .none kV_check_names_in dc_check_names_in pm_check_names_in an_check_names_in cd_check_names_in ct_check_names_in), sl_check_names_in⟩) (c_check_names_in : PySem.W.codeIn K cd_check_names_in "_check_names_in" = true) (k_check_names_in : PySem.W.keepIn K (.ref f_check_names_in) = true)
    (a_written : PySem.W.nsIn K mainGlobals "_written" = some (some (.ref f_written))) (l_written : K.lookup f_written = some ⟨oc_written, od_written, .func (PySem.W.fnOf "_written" "_written" (defArgs s_written) (defBody s_written) (defScope s_written) .none kV_written dc_written pm_written an_written cd_written ct_written), sl_written⟩) (c_written : PySem.W.codeIn K cd_written "_written" = true) (k_written : PySem.W.keepIn K (.ref f_written) = true)
    (awrite_plant : PySem.W.nsIn K mainGlobals "write_plant" = some (some (.ref fwrite_plant))) (lwrite_plant : K.lookup fwrite_plant = some ⟨ocwrite_plant, odwrite_plant, .func (PySem.W.fnOf "write_plant" "write_plant" (defArgs swrite_plant) (defBody swrite_plant) (defScope swrite_plant) .none kVwrite_plant dcwrite_plant pmwrite_plant anwrite_plant cdwrite_plant ctwrite_plant), slwrite_plant⟩) (cwrite_plant : PySem.W.codeIn K cdwrite_plant "write_plant" = true) (kwrite_plant : PySem.W.keepIn K (.ref fwrite_plant) = true)
    (a_range_lines : PySem.W.nsIn K mainGlobals "_range_lines" = some (some (.ref f_range_lines))) (l_range_lines : K.lookup f_range_lines = some ⟨oc_range_lines, od_range_lines, .func (PySem.W.fnOf "_range_lines" "_range_lines" (defArgs s_range_lines) (defBody s_range_lines) (defScope s_range_lines) .none kV_range_lines dc_range_lines pm_range_lines an_range_lines cd_range_lines ct_range_lines), sl_range_lines⟩) (c_range_lines : PySem.W.codeIn K cd_range_lines "_range_lines" = true) (k_range_lines : PySem.W.keepIn K (.ref f_range_lines) = true)
    (aread_plant : PySem.W.nsIn K mainGlobals "read_plant" = some (some (.ref fread_plant))) (lread_plant : K.lookup fread_plant = some ⟨ocread_plant, odread_plant, .func (PySem.W.fnOf "read_plant" "read_plant" (defArgs sread_plant) (defBody sread_plant) (defScope sread_plant) .none kVread_plant dcread_plant pmread_plant anread_plant cdread_plant ctread_plant), slread_plant⟩) (cread_plant : PySem.W.codeIn K cdread_plant "read_plant" = true) (kread_plant : PySem.W.keepIn K (.ref fread_plant) = true)
    (a_read_ranges : PySem.W.nsIn K mainGlobals "_read_ranges" = some (some (.ref f_read_ranges))) (l_read_ranges : K.lookup f_read_ranges = some ⟨oc_read_ranges, od_read_ranges, .func (PySem.W.fnOf "_read_ranges" "_read_ranges" (defArgs s_read_ranges) (defBody s_read_ranges) (defScope s_read_ranges) .none kV_read_ranges dc_read_ranges pm_read_ranges an_read_ranges cd_read_ranges ct_read_ranges), sl_read_ranges⟩) (c_read_ranges : PySem.W.codeIn K cd_read_ranges "_read_ranges" = true) (k_read_ranges : PySem.W.keepIn K (.ref f_read_ranges) = true)
    (a_is_range : PySem.W.nsIn K mainGlobals "_is_range" = some (some (.ref f_is_range))) (l_is_range : K.lookup f_is_range = some ⟨oc_is_range, od_is_range, .func (PySem.W.fnOf "_is_range" "_is_range" (defArgs s_is_range) (defBody s_is_range) (defScope s_is_range) .none kV_is_range dc_is_range pm_is_range an_is_range cd_is_range ct_is_range), sl_is_range⟩) (c_is_range : PySem.W.codeIn K cd_is_range "_is_range" = true) (k_is_range : PySem.W.keepIn K (.ref f_is_range) = true)
    (a_read_behind : PySem.W.nsIn K mainGlobals "_read_behind" = some (some (.ref f_read_behind))) (l_read_behind : K.lookup f_read_behind = some ⟨oc_read_behind, od_read_behind, .func (PySem.W.fnOf "_read_behind" "_read_behind" (defArgs s_read_behind) (defBody s_read_behind) (defScope s_read_behind) .none kV_read_behind dc_read_behind pm_read_behind an_read_behind cd_read_behind ct_read_behind), sl_read_behind⟩) (c_read_behind : PySem.W.codeIn K cd_read_behind "_read_behind" = true) (k_read_behind : PySem.W.keepIn K (.ref f_read_behind) = true)
    (a_law_draws : PySem.W.nsIn K mainGlobals "_law_draws" = some (some (.ref f_law_draws))) (l_law_draws : K.lookup f_law_draws = some ⟨oc_law_draws, od_law_draws, .func (PySem.W.fnOf "_law_draws" "_law_draws" (defArgs s_law_draws) (defBody s_law_draws) (defScope s_law_draws) .none kV_law_draws dc_law_draws pm_law_draws an_law_draws cd_law_draws ct_law_draws), sl_law_draws⟩) (c_law_draws : PySem.W.codeIn K cd_law_draws "_law_draws" = true) (k_law_draws : PySem.W.keepIn K (.ref f_law_draws) = true)
    (a_law_take : PySem.W.nsIn K mainGlobals "_law_take" = some (some (.ref f_law_take))) (l_law_take : K.lookup f_law_take = some ⟨oc_law_take, od_law_take, .func (PySem.W.fnOf "_law_take" "_law_take" (defArgs s_law_take) (defBody s_law_take) (defScope s_law_take) .none kV_law_take dc_law_take pm_law_take an_law_take cd_law_take ct_law_take), sl_law_take⟩) (c_law_take : PySem.W.codeIn K cd_law_take "_law_take" = true) (k_law_take : PySem.W.keepIn K (.ref f_law_take) = true)
    (a_law_cell : PySem.W.nsIn K mainGlobals "_law_cell" = some (some (.ref f_law_cell))) (l_law_cell : K.lookup f_law_cell = some ⟨oc_law_cell, od_law_cell, .func (PySem.W.fnOf "_law_cell" "_law_cell" (defArgs s_law_cell) (defBody s_law_cell) (defScope s_law_cell) .none kV_law_cell dc_law_cell pm_law_cell an_law_cell cd_law_cell ct_law_cell), sl_law_cell⟩) (c_law_cell : PySem.W.codeIn K cd_law_cell "_law_cell" = true) (k_law_cell : PySem.W.keepIn K (.ref f_law_cell) = true)
    (a_law_word : PySem.W.nsIn K mainGlobals "_law_word" = some (some (.ref f_law_word))) (l_law_word : K.lookup f_law_word = some ⟨oc_law_word, od_law_word, .func (PySem.W.fnOf "_law_word" "_law_word" (defArgs s_law_word) (defBody s_law_word) (defScope s_law_word) .none kV_law_word dc_law_word pm_law_word an_law_word cd_law_word ct_law_word), sl_law_word⟩) (c_law_word : PySem.W.codeIn K cd_law_word "_law_word" = true) (k_law_word : PySem.W.keepIn K (.ref f_law_word) = true)
    (a_law_some_word : PySem.W.nsIn K mainGlobals "_law_some_word" = some (some (.ref f_law_some_word))) (l_law_some_word : K.lookup f_law_some_word = some ⟨oc_law_some_word, od_law_some_word, .func (PySem.W.fnOf "_law_some_word" "_law_some_word" (defArgs s_law_some_word) (defBody s_law_some_word) (defScope s_law_some_word) .none kV_law_some_word dc_law_some_word pm_law_some_word an_law_some_word cd_law_some_word ct_law_some_word), sl_law_some_word⟩) (c_law_some_word : PySem.W.codeIn K cd_law_some_word "_law_some_word" = true) (k_law_some_word : PySem.W.keepIn K (.ref f_law_some_word) = true)
    (a_law_reserved : PySem.W.nsIn K mainGlobals "_law_reserved" = some (some (.ref f_law_reserved))) (l_law_reserved : K.lookup f_law_reserved = some ⟨oc_law_reserved, od_law_reserved, .func (PySem.W.fnOf "_law_reserved" "_law_reserved" (defArgs s_law_reserved) (defBody s_law_reserved) (defScope s_law_reserved) .none kV_law_reserved dc_law_reserved pm_law_reserved an_law_reserved cd_law_reserved ct_law_reserved), sl_law_reserved⟩) (c_law_reserved : PySem.W.codeIn K cd_law_reserved "_law_reserved" = true) (k_law_reserved : PySem.W.keepIn K (.ref f_law_reserved) = true)
    (a_law_name : PySem.W.nsIn K mainGlobals "_law_name" = some (some (.ref f_law_name))) (l_law_name : K.lookup f_law_name = some ⟨oc_law_name, od_law_name, .func (PySem.W.fnOf "_law_name" "_law_name" (defArgs s_law_name) (defBody s_law_name) (defScope s_law_name) .none kV_law_name dc_law_name pm_law_name an_law_name cd_law_name ct_law_name), sl_law_name⟩) (c_law_name : PySem.W.codeIn K cd_law_name "_law_name" = true) (k_law_name : PySem.W.keepIn K (.ref f_law_name) = true)
    (a_law_names : PySem.W.nsIn K mainGlobals "_law_names" = some (some (.ref f_law_names))) (l_law_names : K.lookup f_law_names = some ⟨oc_law_names, od_law_names, .func (PySem.W.fnOf "_law_names" "_law_names" (defArgs s_law_names) (defBody s_law_names) (defScope s_law_names) .none kV_law_names dc_law_names pm_law_names an_law_names cd_law_names ct_law_names), sl_law_names⟩) (c_law_names : PySem.W.codeIn K cd_law_names "_law_names" = true) (k_law_names : PySem.W.keepIn K (.ref f_law_names) = true)
    (a_law_number : PySem.W.nsIn K mainGlobals "_law_number" = some (some (.ref f_law_number))) (l_law_number : K.lookup f_law_number = some ⟨oc_law_number, od_law_number, .func (PySem.W.fnOf "_law_number" "_law_number" (defArgs s_law_number) (defBody s_law_number) (defScope s_law_number) .none kV_law_number dc_law_number pm_law_number an_law_number cd_law_number ct_law_number), sl_law_number⟩) (c_law_number : PySem.W.codeIn K cd_law_number "_law_number" = true) (k_law_number : PySem.W.keepIn K (.ref f_law_number) = true)
    (a_law_leaf : PySem.W.nsIn K mainGlobals "_law_leaf" = some (some (.ref f_law_leaf))) (l_law_leaf : K.lookup f_law_leaf = some ⟨oc_law_leaf, od_law_leaf, .func (PySem.W.fnOf "_law_leaf" "_law_leaf" (defArgs s_law_leaf) (defBody s_law_leaf) (defScope s_law_leaf) .none kV_law_leaf dc_law_leaf pm_law_leaf an_law_leaf cd_law_leaf ct_law_leaf), sl_law_leaf⟩) (c_law_leaf : PySem.W.codeIn K cd_law_leaf "_law_leaf" = true) (k_law_leaf : PySem.W.keepIn K (.ref f_law_leaf) = true)
    (a_law_expression : PySem.W.nsIn K mainGlobals "_law_expression" = some (some (.ref f_law_expression))) (l_law_expression : K.lookup f_law_expression = some ⟨oc_law_expression, od_law_expression, .func (PySem.W.fnOf "_law_expression" "_law_expression" (defArgs s_law_expression) (defBody s_law_expression) (defScope s_law_expression) .none kV_law_expression dc_law_expression pm_law_expression an_law_expression cd_law_expression ct_law_expression), sl_law_expression⟩) (c_law_expression : PySem.W.codeIn K cd_law_expression "_law_expression" = true) (k_law_expression : PySem.W.keepIn K (.ref f_law_expression) = true)
    (a_law_test : PySem.W.nsIn K mainGlobals "_law_test" = some (some (.ref f_law_test))) (l_law_test : K.lookup f_law_test = some ⟨oc_law_test, od_law_test, .func (PySem.W.fnOf "_law_test" "_law_test" (defArgs s_law_test) (defBody s_law_test) (defScope s_law_test) .none kV_law_test dc_law_test pm_law_test an_law_test cd_law_test ct_law_test), sl_law_test⟩) (c_law_test : PySem.W.codeIn K cd_law_test "_law_test" = true) (k_law_test : PySem.W.keepIn K (.ref f_law_test) = true)
    (a_law_inner : PySem.W.nsIn K mainGlobals "_law_inner" = some (some (.ref f_law_inner))) (l_law_inner : K.lookup f_law_inner = some ⟨oc_law_inner, od_law_inner, .func (PySem.W.fnOf "_law_inner" "_law_inner" (defArgs s_law_inner) (defBody s_law_inner) (defScope s_law_inner) .none kV_law_inner dc_law_inner pm_law_inner an_law_inner cd_law_inner ct_law_inner), sl_law_inner⟩) (c_law_inner : PySem.W.codeIn K cd_law_inner "_law_inner" = true) (k_law_inner : PySem.W.keepIn K (.ref f_law_inner) = true)
    (a_law_depth : PySem.W.nsIn K mainGlobals "_law_depth" = some (some (.ref f_law_depth))) (l_law_depth : K.lookup f_law_depth = some ⟨oc_law_depth, od_law_depth, .func (PySem.W.fnOf "_law_depth" "_law_depth" (defArgs s_law_depth) (defBody s_law_depth) (defScope s_law_depth) .none kV_law_depth dc_law_depth pm_law_depth an_law_depth cd_law_depth ct_law_depth), sl_law_depth⟩) (c_law_depth : PySem.W.codeIn K cd_law_depth "_law_depth" = true) (k_law_depth : PySem.W.keepIn K (.ref f_law_depth) = true)
    (a_law_is_test : PySem.W.nsIn K mainGlobals "_law_is_test" = some (some (.ref f_law_is_test))) (l_law_is_test : K.lookup f_law_is_test = some ⟨oc_law_is_test, od_law_is_test, .func (PySem.W.fnOf "_law_is_test" "_law_is_test" (defArgs s_law_is_test) (defBody s_law_is_test) (defScope s_law_is_test) .none kV_law_is_test dc_law_is_test pm_law_is_test an_law_is_test cd_law_is_test ct_law_is_test), sl_law_is_test⟩) (c_law_is_test : PySem.W.codeIn K cd_law_is_test "_law_is_test" = true) (k_law_is_test : PySem.W.keepIn K (.ref f_law_is_test) = true)
    (a_law_around : PySem.W.nsIn K mainGlobals "_law_around" = some (some (.ref f_law_around))) (l_law_around : K.lookup f_law_around = some ⟨oc_law_around, od_law_around, .func (PySem.W.fnOf "_law_around" "_law_around" (defArgs s_law_around) (defBody s_law_around) (defScope s_law_around) .none kV_law_around dc_law_around pm_law_around an_law_around cd_law_around ct_law_around), sl_law_around⟩) (c_law_around : PySem.W.codeIn K cd_law_around "_law_around" = true) (k_law_around : PySem.W.keepIn K (.ref f_law_around) = true)
    (a_law_ranges : PySem.W.nsIn K mainGlobals "_law_ranges" = some (some (.ref f_law_ranges))) (l_law_ranges : K.lookup f_law_ranges = some ⟨oc_law_ranges, od_law_ranges, .func (PySem.W.fnOf "_law_ranges" "_law_ranges" (defArgs s_law_ranges) (defBody s_law_ranges) (defScope s_law_ranges) .none kV_law_ranges dc_law_ranges pm_law_ranges an_law_ranges cd_law_ranges ct_law_ranges), sl_law_ranges⟩) (c_law_ranges : PySem.W.codeIn K cd_law_ranges "_law_ranges" = true) (k_law_ranges : PySem.W.keepIn K (.ref f_law_ranges) = true)
    (a_law_step : PySem.W.nsIn K mainGlobals "_law_step" = some (some (.ref f_law_step))) (l_law_step : K.lookup f_law_step = some ⟨oc_law_step, od_law_step, .func (PySem.W.fnOf "_law_step" "_law_step" (defArgs s_law_step) (defBody s_law_step) (defScope s_law_step) .none kV_law_step dc_law_step pm_law_step an_law_step cd_law_step ct_law_step), sl_law_step⟩) (c_law_step : PySem.W.codeIn K cd_law_step "_law_step" = true) (k_law_step : PySem.W.keepIn K (.ref f_law_step) = true)
    (a_law_plant : PySem.W.nsIn K mainGlobals "_law_plant" = some (some (.ref f_law_plant))) (l_law_plant : K.lookup f_law_plant = some ⟨oc_law_plant, od_law_plant, .func (PySem.W.fnOf "_law_plant" "_law_plant" (defArgs s_law_plant) (defBody s_law_plant) (defScope s_law_plant) .none kV_law_plant dc_law_plant pm_law_plant an_law_plant cd_law_plant ct_law_plant), sl_law_plant⟩) (c_law_plant : PySem.W.codeIn K cd_law_plant "_law_plant" = true) (k_law_plant : PySem.W.keepIn K (.ref f_law_plant) = true)
    (a_law_wide : PySem.W.nsIn K mainGlobals "_law_wide" = some (some (.ref f_law_wide))) (l_law_wide : K.lookup f_law_wide = some ⟨oc_law_wide, od_law_wide, .func (PySem.W.fnOf "_law_wide" "_law_wide" (defArgs s_law_wide) (defBody s_law_wide) (defScope s_law_wide) .none kV_law_wide dc_law_wide pm_law_wide an_law_wide cd_law_wide ct_law_wide), sl_law_wide⟩) (c_law_wide : PySem.W.codeIn K cd_law_wide "_law_wide" = true) (k_law_wide : PySem.W.keepIn K (.ref f_law_wide) = true)
    (a_law_far : PySem.W.nsIn K mainGlobals "_law_far" = some (some (.ref f_law_far))) (l_law_far : K.lookup f_law_far = some ⟨oc_law_far, od_law_far, .func (PySem.W.fnOf "_law_far" "_law_far" (defArgs s_law_far) (defBody s_law_far) (defScope s_law_far) .none kV_law_far dc_law_far pm_law_far an_law_far cd_law_far ct_law_far), sl_law_far⟩) (c_law_far : PySem.W.codeIn K cd_law_far "_law_far" = true) (k_law_far : PySem.W.keepIn K (.ref f_law_far) = true)
    (a_law_tokens : PySem.W.nsIn K mainGlobals "_law_tokens" = some (some (.ref f_law_tokens))) (l_law_tokens : K.lookup f_law_tokens = some ⟨oc_law_tokens, od_law_tokens, .func (PySem.W.fnOf "_law_tokens" "_law_tokens" (defArgs s_law_tokens) (defBody s_law_tokens) (defScope s_law_tokens) .none kV_law_tokens dc_law_tokens pm_law_tokens an_law_tokens cd_law_tokens ct_law_tokens), sl_law_tokens⟩) (c_law_tokens : PySem.W.codeIn K cd_law_tokens "_law_tokens" = true) (k_law_tokens : PySem.W.keepIn K (.ref f_law_tokens) = true)
    (a_law_written : PySem.W.nsIn K mainGlobals "_law_written" = some (some (.ref f_law_written))) (l_law_written : K.lookup f_law_written = some ⟨oc_law_written, od_law_written, .func (PySem.W.fnOf "_law_written" "_law_written" (defArgs s_law_written) (defBody s_law_written) (defScope s_law_written) .none kV_law_written dc_law_written pm_law_written an_law_written cd_law_written ct_law_written), sl_law_written⟩) (c_law_written : PySem.W.codeIn K cd_law_written "_law_written" = true) (k_law_written : PySem.W.keepIn K (.ref f_law_written) = true)
    (a_law_item_text : PySem.W.nsIn K mainGlobals "_law_item_text" = some (some (.ref f_law_item_text))) (l_law_item_text : K.lookup f_law_item_text = some ⟨oc_law_item_text, od_law_item_text, .func (PySem.W.fnOf "_law_item_text" "_law_item_text" (defArgs s_law_item_text) (defBody s_law_item_text) (defScope s_law_item_text) .none kV_law_item_text dc_law_item_text pm_law_item_text an_law_item_text cd_law_item_text ct_law_item_text), sl_law_item_text⟩) (c_law_item_text : PySem.W.codeIn K cd_law_item_text "_law_item_text" = true) (k_law_item_text : PySem.W.keepIn K (.ref f_law_item_text) = true)
    (a_law_rows_of_text : PySem.W.nsIn K mainGlobals "_law_rows_of_text" = some (some (.ref f_law_rows_of_text))) (l_law_rows_of_text : K.lookup f_law_rows_of_text = some ⟨oc_law_rows_of_text, od_law_rows_of_text, .func (PySem.W.fnOf "_law_rows_of_text" "_law_rows_of_text" (defArgs s_law_rows_of_text) (defBody s_law_rows_of_text) (defScope s_law_rows_of_text) .none kV_law_rows_of_text dc_law_rows_of_text pm_law_rows_of_text an_law_rows_of_text cd_law_rows_of_text ct_law_rows_of_text), sl_law_rows_of_text⟩) (c_law_rows_of_text : PySem.W.codeIn K cd_law_rows_of_text "_law_rows_of_text" = true) (k_law_rows_of_text : PySem.W.keepIn K (.ref f_law_rows_of_text) = true)
    (a_law_same : PySem.W.nsIn K mainGlobals "_law_same" = some (some (.ref f_law_same))) (l_law_same : K.lookup f_law_same = some ⟨oc_law_same, od_law_same, .func (PySem.W.fnOf "_law_same" "_law_same" (defArgs s_law_same) (defBody s_law_same) (defScope s_law_same) .none kV_law_same dc_law_same pm_law_same an_law_same cd_law_same ct_law_same), sl_law_same⟩) (c_law_same : PySem.W.codeIn K cd_law_same "_law_same" = true) (k_law_same : PySem.W.keepIn K (.ref f_law_same) = true)
    (a_law_called : PySem.W.nsIn K mainGlobals "_law_called" = some (some (.ref f_law_called))) (l_law_called : K.lookup f_law_called = some ⟨oc_law_called, od_law_called, .func (PySem.W.fnOf "_law_called" "_law_called" (defArgs s_law_called) (defBody s_law_called) (defScope s_law_called) .none kV_law_called dc_law_called pm_law_called an_law_called cd_law_called ct_law_called), sl_law_called⟩) (c_law_called : PySem.W.codeIn K cd_law_called "_law_called" = true) (k_law_called : PySem.W.keepIn K (.ref f_law_called) = true)
    (a_law_deep : PySem.W.nsIn K mainGlobals "_law_deep" = some (some (.ref f_law_deep))) (l_law_deep : K.lookup f_law_deep = some ⟨oc_law_deep, od_law_deep, .func (PySem.W.fnOf "_law_deep" "_law_deep" (defArgs s_law_deep) (defBody s_law_deep) (defScope s_law_deep) .none kV_law_deep dc_law_deep pm_law_deep an_law_deep cd_law_deep ct_law_deep), sl_law_deep⟩) (c_law_deep : PySem.W.codeIn K cd_law_deep "_law_deep" = true) (k_law_deep : PySem.W.keepIn K (.ref f_law_deep) = true)
    (alaw : PySem.W.nsIn K mainGlobals "law" = some (some (.ref flaw))) (llaw : K.lookup flaw = some ⟨oclaw, odlaw, .func (PySem.W.fnOf "law" "law" (defArgs slaw) (defBody slaw) (defScope slaw) .none kVlaw dclaw pmlaw anlaw cdlaw ctlaw), sllaw⟩) (claw : PySem.W.codeIn K cdlaw "law" = true) (klaw : PySem.W.keepIn K (.ref flaw) = true)
    (g_LETTERS : PySem.W.nsIn K mainGlobals "LETTERS" = some (some u_LETTERS)) (r_LETTERS : L2.RelV (.str "abcdefghijklmnopqrstuvwxyz") u_LETTERS)
    (g_DIGITS : PySem.W.nsIn K mainGlobals "DIGITS" = some (some u_DIGITS)) (r_DIGITS : L2.RelV (.str "0123456789") u_DIGITS)
    (g_MOST_DIGITS : PySem.W.nsIn K mainGlobals "MOST_DIGITS" = some (some u_MOST_DIGITS)) (r_MOST_DIGITS : L2.RelV (.int 60) u_MOST_DIGITS)
    (g_WORDS : PySem.W.nsIn K mainGlobals "WORDS" = some (some (.ref c_WORDS))) (k_WORDS : KT K c_WORDS [(.str "true"), (.str "false"), (.str "add"), (.str "sub"), (.str "mul"), (.str "div"), (.str "mod"), (.str "min"), (.str "max"), (.str "abs"), (.str "if"), (.str "less"), (.str "equal"), (.str "not"), (.str "all"), (.str "any")])
    (g_MOST_DEPTH : PySem.W.nsIn K mainGlobals "MOST_DEPTH" = some (some u_MOST_DEPTH)) (r_MOST_DEPTH : L2.RelV (.int 12) u_MOST_DEPTH)
    (g_EXPRESSION_PARTS : PySem.W.nsIn K mainGlobals "EXPRESSION_PARTS" = some (some (.ref c_EXPRESSION_PARTS))) (d_EXPRESSION_PARTS : List.lookup c_EXPRESSION_PARTS K = some { cls := .type "dict", data := .dict e_EXPRESSION_PARTS n_EXPRESSION_PARTS }) (l_EXPRESSION_PARTS : PySem.W.KeysLit w.params e_EXPRESSION_PARTS.toList) (s_EXPRESSION_PARTS : (c_EXPRESSION_PARTS == sysModules) = false) (y_EXPRESSION_PARTS : e_EXPRESSION_PARTS.toList.map (fun e => kstr e.key) = rows_EXPRESSION_PARTS.map (·.1))
    (q0_EXPRESSION_PARTS : PySem.W.nsIn K c_EXPRESSION_PARTS "add" = some (some (.ref t0_EXPRESSION_PARTS))) (k0_EXPRESSION_PARTS : KT K t0_EXPRESSION_PARTS [(.str "expression"), (.str "expression")])
    (q1_EXPRESSION_PARTS : PySem.W.nsIn K c_EXPRESSION_PARTS "sub" = some (some (.ref t1_EXPRESSION_PARTS))) (k1_EXPRESSION_PARTS : KT K t1_EXPRESSION_PARTS [(.str "expression"), (.str "expression")])
    (q2_EXPRESSION_PARTS : PySem.W.nsIn K c_EXPRESSION_PARTS "mul" = some (some (.ref t2_EXPRESSION_PARTS))) (k2_EXPRESSION_PARTS : KT K t2_EXPRESSION_PARTS [(.str "expression"), (.str "expression")])
    (q3_EXPRESSION_PARTS : PySem.W.nsIn K c_EXPRESSION_PARTS "div" = some (some (.ref t3_EXPRESSION_PARTS))) (k3_EXPRESSION_PARTS : KT K t3_EXPRESSION_PARTS [(.str "expression"), (.str "divisor")])
    (q4_EXPRESSION_PARTS : PySem.W.nsIn K c_EXPRESSION_PARTS "mod" = some (some (.ref t4_EXPRESSION_PARTS))) (k4_EXPRESSION_PARTS : KT K t4_EXPRESSION_PARTS [(.str "expression"), (.str "divisor")])
    (q5_EXPRESSION_PARTS : PySem.W.nsIn K c_EXPRESSION_PARTS "min" = some (some (.ref t5_EXPRESSION_PARTS))) (k5_EXPRESSION_PARTS : KT K t5_EXPRESSION_PARTS [(.str "expression"), (.str "expression")])
    (q6_EXPRESSION_PARTS : PySem.W.nsIn K c_EXPRESSION_PARTS "max" = some (some (.ref t6_EXPRESSION_PARTS))) (k6_EXPRESSION_PARTS : KT K t6_EXPRESSION_PARTS [(.str "expression"), (.str "expression")])
    (q7_EXPRESSION_PARTS : PySem.W.nsIn K c_EXPRESSION_PARTS "abs" = some (some (.ref t7_EXPRESSION_PARTS))) (k7_EXPRESSION_PARTS : KT K t7_EXPRESSION_PARTS [(.str "expression")])
    (q8_EXPRESSION_PARTS : PySem.W.nsIn K c_EXPRESSION_PARTS "if" = some (some (.ref t8_EXPRESSION_PARTS))) (k8_EXPRESSION_PARTS : KT K t8_EXPRESSION_PARTS [(.str "condition"), (.str "expression"), (.str "expression")])
    (g_CONDITION_PARTS : PySem.W.nsIn K mainGlobals "CONDITION_PARTS" = some (some (.ref c_CONDITION_PARTS))) (d_CONDITION_PARTS : List.lookup c_CONDITION_PARTS K = some { cls := .type "dict", data := .dict e_CONDITION_PARTS n_CONDITION_PARTS }) (l_CONDITION_PARTS : PySem.W.KeysLit w.params e_CONDITION_PARTS.toList) (s_CONDITION_PARTS : (c_CONDITION_PARTS == sysModules) = false) (y_CONDITION_PARTS : e_CONDITION_PARTS.toList.map (fun e => kstr e.key) = rows_CONDITION_PARTS.map (·.1))
    (q0_CONDITION_PARTS : PySem.W.nsIn K c_CONDITION_PARTS "less" = some (some (.ref t0_CONDITION_PARTS))) (k0_CONDITION_PARTS : KT K t0_CONDITION_PARTS [(.str "expression"), (.str "expression")])
    (q1_CONDITION_PARTS : PySem.W.nsIn K c_CONDITION_PARTS "equal" = some (some (.ref t1_CONDITION_PARTS))) (k1_CONDITION_PARTS : KT K t1_CONDITION_PARTS [(.str "expression"), (.str "expression")])
    (q2_CONDITION_PARTS : PySem.W.nsIn K c_CONDITION_PARTS "not" = some (some (.ref t2_CONDITION_PARTS))) (k2_CONDITION_PARTS : KT K t2_CONDITION_PARTS [(.str "condition")])
    (g_ControlError : PySem.W.nsIn K mainGlobals "ControlError" = some (some (.ref c_ControlError)))
    (g_InvalidExpression : PySem.W.nsIn K mainGlobals "InvalidExpression" = some (some (.ref c_InvalidExpression)))
    (g_InvalidPlant : PySem.W.nsIn K mainGlobals "InvalidPlant" = some (some (.ref c_InvalidPlant)))
    (g_BadText : PySem.W.nsIn K mainGlobals "BadText" = some (some (.ref c_BadText)))
    (ex_cls : K.lookup c_BadText = some (excClassObj xnm xq c_BadText xN xbs xbm true xsn xsub xab xcol xdd xm0 xm1 xm2 xm3 xm5 "ValueError.__new__")) (ex_rv : PySem.HandSPX.refsVE xbm = true)
    (ex_sa : PySem.W.findIn K (.ref c_BadText) "__setattr__" = some (some (.builtin "object.__setattr__"))) (ex_ty : PySem.W.typeIn K (.ref c_BadText) = some (.type "type"))
    (ex_n_line : PySem.W.findIn K (.ref c_BadText) "line" = some none)
    (ex_n_column : PySem.W.findIn K (.ref c_BadText) "column" = some none)
    (ex_iI : PySem.W.findIn K (.ref c_BadText) "__init__" = some (some (.ref fI))) (ex_tI : PySem.W.typeIn K (.ref fI) = some (.type "function"))
    (ex_lI : K.lookup fI = some ⟨ocI, odI, .func (PySem.W.fnOf "__init__" "BadText.__init__" (defArgs sI_BadText) (defBody sI_BadText) (defScope sI_BadText) .none kVI dcI pmI anI cdI ctI), slI⟩) (ex_cI : PySem.W.codeIn K cdI "BadText.__init__" = true) (ex_kI : PySem.W.keepIn K (.ref fI) = true)
    (ex_k : PySem.W.keepIn K (.ref c_BadText) = true) (ex_b : PySem.W.subIn K (.ref c_BadText) (.type "BaseException") = some true) (ex_sV : PySem.W.subIn K (.ref c_BadText) (.type "ValueError") = some true) (ex_bC : PySem.W.subIn K (.ref c_ControlError) (.type "BaseException") = some true)
    (ex_hg : PySem.W.findIn K (.ref c_BadText) "__getattribute__" = some (some (.builtin "BaseException.__getattribute__"))) (ex_hk : PySem.W.findIn K (.ref c_BadText) "__getattr__" = some none) (ex_hd : PySem.W.hasDictIn K c_BadText = true) (ex_ha : PySem.W.findIn K (.ref c_BadText) "__class__" = some (some (.builtin "object.__class__"))) (ex_hn : PySem.W.specialIn K (.builtin "object.__class__") "__get__" = some (some (.builtin "getset_descriptor.__get__"))) (ex_ht : PySem.W.takesIn K (.builtin "object.__class__") = some true) (ex_hm : PySem.W.mroIn K c_BadText (.type "object") = some true)
    (i_ControlError : PySem.W.isClsIn K c_ControlError = true) (t_ControlError : PySem.W.typeIn K (.ref c_ControlError) = some (.type "type")) (s_ControlError : PySem.W.subIn K (.ref c_BadText) (.ref c_ControlError) = some true)
    (i_InvalidExpression : PySem.W.isClsIn K c_InvalidExpression = true) (t_InvalidExpression : PySem.W.typeIn K (.ref c_InvalidExpression) = some (.type "type")) (s_InvalidExpression : PySem.W.subIn K (.ref c_BadText) (.ref c_InvalidExpression) = some false)
    (i_InvalidPlant : PySem.W.isClsIn K c_InvalidPlant = true) (t_InvalidPlant : PySem.W.typeIn K (.ref c_InvalidPlant) = some (.type "type")) (s_InvalidPlant : PySem.W.subIn K (.ref c_BadText) (.ref c_InvalidPlant) = some false)
    (i_BadText : PySem.W.isClsIn K c_BadText = true) (t_BadText : PySem.W.typeIn K (.ref c_BadText) = some (.type "type")) (s_BadText : PySem.W.subIn K (.ref c_BadText) (.ref c_BadText) = some true)
    (z_abs : PySem.W.nsIn K mainGlobals "abs" = some none)
    (z_all : PySem.W.nsIn K mainGlobals "all" = some none)
    (z_bool : PySem.W.nsIn K mainGlobals "bool" = some none)
    (z_int : PySem.W.nsIn K mainGlobals "int" = some none)
    (z_isinstance : PySem.W.nsIn K mainGlobals "isinstance" = some none)
    (z_len : PySem.W.nsIn K mainGlobals "len" = some none)
    (z_list : PySem.W.nsIn K mainGlobals "list" = some none)
    (z_max : PySem.W.nsIn K mainGlobals "max" = some none)
    (z_min : PySem.W.nsIn K mainGlobals "min" = some none)
    (z_range : PySem.W.nsIn K mainGlobals "range" = some none)
    (z_set : PySem.W.nsIn K mainGlobals "set" = some none)
    (z_sorted : PySem.W.nsIn K mainGlobals "sorted" = some none)
    (z_str : PySem.W.nsIn K mainGlobals "str" = some none)
    (z_tuple : PySem.W.nsIn K mainGlobals "tuple" = some none)
    (z_zip : PySem.W.nsIn K mainGlobals "zip" = some none)
    : ∃ fd : FuncData, (∀ (s : Shared) (v : Value), BindsTo s fd ⟨[v], []⟩ [("script", v)]) ∧ ∀ base : Heap, K.In base → base.Ns mainGlobals mg → FnOk l.prog w K mg base CX0 46 fa fd ["script"] (spLaw K) := by
  have e := hfa.symm.trans (PySem.W.mg_of X G alaw)
  cases e
  let T : Txt K mg := {
    z_abs := PySem.W.mg_none_of X G z_abs
    z_all := PySem.W.mg_none_of X G z_all
    z_bool := PySem.W.mg_none_of X G z_bool
    z_int := PySem.W.mg_none_of X G z_int
    z_isinstance := PySem.W.mg_none_of X G z_isinstance
    z_len := PySem.W.mg_none_of X G z_len
    z_list := PySem.W.mg_none_of X G z_list
    z_max := PySem.W.mg_none_of X G z_max
    z_min := PySem.W.mg_none_of X G z_min
    z_range := PySem.W.mg_none_of X G z_range
    z_set := PySem.W.mg_none_of X G z_set
    z_sorted := PySem.W.mg_none_of X G z_sorted
    z_str := PySem.W.mg_none_of X G z_str
    z_tuple := PySem.W.mg_none_of X G z_tuple
    z_zip := PySem.W.mg_none_of X G z_zip
    u_LETTERS := u_LETTERS
    g_LETTERS := PySem.W.mg_of X G g_LETTERS
    r_LETTERS := r_LETTERS
    u_DIGITS := u_DIGITS
    g_DIGITS := PySem.W.mg_of X G g_DIGITS
    r_DIGITS := r_DIGITS
    u_MOST_DIGITS := u_MOST_DIGITS
    g_MOST_DIGITS := PySem.W.mg_of X G g_MOST_DIGITS
    r_MOST_DIGITS := r_MOST_DIGITS
    c_WORDS := c_WORDS
    g_WORDS := PySem.W.mg_of X G g_WORDS
    k_WORDS := k_WORDS
    u_MOST_DEPTH := u_MOST_DEPTH
    g_MOST_DEPTH := PySem.W.mg_of X G g_MOST_DEPTH
    r_MOST_DEPTH := r_MOST_DEPTH
    arun_end := frun_end
    drun_end := _
    Frun_end := fun_mk (st := srun_end) lrun_end crun_end krun_end
    mrun_end := PySem.W.mg_of X G arun_end
    ais_name := fis_name
    dis_name := _
    Fis_name := fun_mk (st := sis_name) lis_name cis_name kis_name
    mis_name := PySem.W.mg_of X G ais_name
    ais_integer := fis_integer
    dis_integer := _
    Fis_integer := fun_mk (st := sis_integer) lis_integer cis_integer kis_integer
    mis_integer := PySem.W.mg_of X G ais_integer
    aparts_in := fparts_in
    dparts_in := _
    Fparts_in := fun_mk (st := sparts_in) lparts_in cparts_in kparts_in
    mparts_in := PySem.W.mg_of X G aparts_in
    acheck_expression := fcheck_expression
    dcheck_expression := _
    Fcheck_expression := fun_mk (st := scheck_expression) lcheck_expression ccheck_expression kcheck_expression
    mcheck_expression := PySem.W.mg_of X G acheck_expression
    acheck_condition := fcheck_condition
    dcheck_condition := _
    Fcheck_condition := fun_mk (st := scheck_condition) lcheck_condition ccheck_condition kcheck_condition
    mcheck_condition := PySem.W.mg_of X G acheck_condition
    a_check := f_check
    d_check := _
    F_check := fun_mk (st := s_check) l_check c_check k_check
    m_check := PySem.W.mg_of X G a_check
    anames_in := fnames_in
    dnames_in := _
    Fnames_in := fun_mk (st := snames_in) lnames_in cnames_in knames_in
    mnames_in := PySem.W.mg_of X G anames_in
    a_all_names := f_all_names
    d_all_names := _
    F_all_names := fun_mk (st := s_all_names) l_all_names c_all_names k_all_names
    m_all_names := PySem.W.mg_of X G a_all_names
    atokens_of := ftokens_of
    dtokens_of := _
    Ftokens_of := fun_mk (st := stokens_of) ltokens_of ctokens_of ktokens_of
    mtokens_of := PySem.W.mg_of X G atokens_of
    a_piece_end := f_piece_end
    d_piece_end := _
    F_piece_end := fun_mk (st := s_piece_end) l_piece_end c_piece_end k_piece_end
    m_piece_end := PySem.W.mg_of X G a_piece_end
    aread_whole := fread_whole
    dread_whole := _
    Fread_whole := fun_mk (st := sread_whole) lread_whole cread_whole kread_whole
    mread_whole := PySem.W.mg_of X G aread_whole
    a_pass_token := f_pass_token
    d_pass_token := _
    F_pass_token := fun_mk (st := s_pass_token) l_pass_token c_pass_token k_pass_token
    m_pass_token := PySem.W.mg_of X G a_pass_token
    a_read_part := f_read_part
    d_read_part := _
    F_read_part := fun_mk (st := s_read_part) l_read_part c_read_part k_read_part
    m_read_part := PySem.W.mg_of X G a_read_part
    a_read_divisor := f_read_divisor
    d_read_divisor := _
    F_read_divisor := fun_mk (st := s_read_divisor) l_read_divisor c_read_divisor k_read_divisor
    m_read_divisor := PySem.W.mg_of X G a_read_divisor
    a_read_expression := f_read_expression
    d_read_expression := _
    F_read_expression := fun_mk (st := s_read_expression) l_read_expression c_read_expression k_read_expression
    m_read_expression := PySem.W.mg_of X G a_read_expression
    a_read_condition := f_read_condition
    d_read_condition := _
    F_read_condition := fun_mk (st := s_read_condition) l_read_condition c_read_condition k_read_condition
    m_read_condition := PySem.W.mg_of X G a_read_condition
    a_read_parts := f_read_parts
    d_read_parts := _
    F_read_parts := fun_mk (st := s_read_parts) l_read_parts c_read_parts k_read_parts
    m_read_parts := PySem.W.mg_of X G a_read_parts
    a_read_conditions := f_read_conditions
    d_read_conditions := _
    F_read_conditions := fun_mk (st := s_read_conditions) l_read_conditions c_read_conditions k_read_conditions
    m_read_conditions := PySem.W.mg_of X G a_read_conditions
    anames_of := fnames_of
    dnames_of := _
    Fnames_of := fun_mk (st := snames_of) lnames_of cnames_of knames_of
    mnames_of := PySem.W.mg_of X G anames_of
    acheck_plant := fcheck_plant
    dcheck_plant := _
    Fcheck_plant := fun_mk (st := scheck_plant) lcheck_plant ccheck_plant kcheck_plant
    mcheck_plant := PySem.W.mg_of X G acheck_plant
    a_check_ranges := f_check_ranges
    d_check_ranges := _
    F_check_ranges := fun_mk (st := s_check_ranges) l_check_ranges c_check_ranges k_check_ranges
    m_check_ranges := PySem.W.mg_of X G a_check_ranges
    a_check_parts := f_check_parts
    d_check_parts := _
    F_check_parts := fun_mk (st := s_check_parts) l_check_parts c_check_parts k_check_parts
    m_check_parts := PySem.W.mg_of X G a_check_parts
    a_check_names_in := f_check_names_in
    d_check_names_in := _
    F_check_names_in := fun_mk (st := s_check_names_in) l_check_names_in c_check_names_in k_check_names_in
    m_check_names_in := PySem.W.mg_of X G a_check_names_in
    a_written := f_written
    d_written := _
    F_written := fun_mk (st := s_written) l_written c_written k_written
    m_written := PySem.W.mg_of X G a_written
    awrite_plant := fwrite_plant
    dwrite_plant := _
    Fwrite_plant := fun_mk (st := swrite_plant) lwrite_plant cwrite_plant kwrite_plant
    mwrite_plant := PySem.W.mg_of X G awrite_plant
    a_range_lines := f_range_lines
    d_range_lines := _
    F_range_lines := fun_mk (st := s_range_lines) l_range_lines c_range_lines k_range_lines
    m_range_lines := PySem.W.mg_of X G a_range_lines
    aread_plant := fread_plant
    dread_plant := _
    Fread_plant := fun_mk (st := sread_plant) lread_plant cread_plant kread_plant
    mread_plant := PySem.W.mg_of X G aread_plant
    a_read_ranges := f_read_ranges
    d_read_ranges := _
    F_read_ranges := fun_mk (st := s_read_ranges) l_read_ranges c_read_ranges k_read_ranges
    m_read_ranges := PySem.W.mg_of X G a_read_ranges
    a_is_range := f_is_range
    d_is_range := _
    F_is_range := fun_mk (st := s_is_range) l_is_range c_is_range k_is_range
    m_is_range := PySem.W.mg_of X G a_is_range
    a_read_behind := f_read_behind
    d_read_behind := _
    F_read_behind := fun_mk (st := s_read_behind) l_read_behind c_read_behind k_read_behind
    m_read_behind := PySem.W.mg_of X G a_read_behind
    a_law_draws := f_law_draws
    d_law_draws := _
    F_law_draws := fun_mk (st := s_law_draws) l_law_draws c_law_draws k_law_draws
    m_law_draws := PySem.W.mg_of X G a_law_draws
    a_law_take := f_law_take
    d_law_take := _
    F_law_take := fun_mk (st := s_law_take) l_law_take c_law_take k_law_take
    m_law_take := PySem.W.mg_of X G a_law_take
    a_law_cell := f_law_cell
    d_law_cell := _
    F_law_cell := fun_mk (st := s_law_cell) l_law_cell c_law_cell k_law_cell
    m_law_cell := PySem.W.mg_of X G a_law_cell
    a_law_word := f_law_word
    d_law_word := _
    F_law_word := fun_mk (st := s_law_word) l_law_word c_law_word k_law_word
    m_law_word := PySem.W.mg_of X G a_law_word
    a_law_some_word := f_law_some_word
    d_law_some_word := _
    F_law_some_word := fun_mk (st := s_law_some_word) l_law_some_word c_law_some_word k_law_some_word
    m_law_some_word := PySem.W.mg_of X G a_law_some_word
    a_law_reserved := f_law_reserved
    d_law_reserved := _
    F_law_reserved := fun_mk (st := s_law_reserved) l_law_reserved c_law_reserved k_law_reserved
    m_law_reserved := PySem.W.mg_of X G a_law_reserved
    a_law_name := f_law_name
    d_law_name := _
    F_law_name := fun_mk (st := s_law_name) l_law_name c_law_name k_law_name
    m_law_name := PySem.W.mg_of X G a_law_name
    a_law_names := f_law_names
    d_law_names := _
    F_law_names := fun_mk (st := s_law_names) l_law_names c_law_names k_law_names
    m_law_names := PySem.W.mg_of X G a_law_names
    a_law_number := f_law_number
    d_law_number := _
    F_law_number := fun_mk (st := s_law_number) l_law_number c_law_number k_law_number
    m_law_number := PySem.W.mg_of X G a_law_number
    a_law_leaf := f_law_leaf
    d_law_leaf := _
    F_law_leaf := fun_mk (st := s_law_leaf) l_law_leaf c_law_leaf k_law_leaf
    m_law_leaf := PySem.W.mg_of X G a_law_leaf
    a_law_expression := f_law_expression
    d_law_expression := _
    F_law_expression := fun_mk (st := s_law_expression) l_law_expression c_law_expression k_law_expression
    m_law_expression := PySem.W.mg_of X G a_law_expression
    a_law_test := f_law_test
    d_law_test := _
    F_law_test := fun_mk (st := s_law_test) l_law_test c_law_test k_law_test
    m_law_test := PySem.W.mg_of X G a_law_test
    a_law_inner := f_law_inner
    d_law_inner := _
    F_law_inner := fun_mk (st := s_law_inner) l_law_inner c_law_inner k_law_inner
    m_law_inner := PySem.W.mg_of X G a_law_inner
    a_law_depth := f_law_depth
    d_law_depth := _
    F_law_depth := fun_mk (st := s_law_depth) l_law_depth c_law_depth k_law_depth
    m_law_depth := PySem.W.mg_of X G a_law_depth
    a_law_is_test := f_law_is_test
    d_law_is_test := _
    F_law_is_test := fun_mk (st := s_law_is_test) l_law_is_test c_law_is_test k_law_is_test
    m_law_is_test := PySem.W.mg_of X G a_law_is_test
    a_law_around := f_law_around
    d_law_around := _
    F_law_around := fun_mk (st := s_law_around) l_law_around c_law_around k_law_around
    m_law_around := PySem.W.mg_of X G a_law_around
    a_law_ranges := f_law_ranges
    d_law_ranges := _
    F_law_ranges := fun_mk (st := s_law_ranges) l_law_ranges c_law_ranges k_law_ranges
    m_law_ranges := PySem.W.mg_of X G a_law_ranges
    a_law_step := f_law_step
    d_law_step := _
    F_law_step := fun_mk (st := s_law_step) l_law_step c_law_step k_law_step
    m_law_step := PySem.W.mg_of X G a_law_step
    a_law_plant := f_law_plant
    d_law_plant := _
    F_law_plant := fun_mk (st := s_law_plant) l_law_plant c_law_plant k_law_plant
    m_law_plant := PySem.W.mg_of X G a_law_plant
    a_law_wide := f_law_wide
    d_law_wide := _
    F_law_wide := fun_mk (st := s_law_wide) l_law_wide c_law_wide k_law_wide
    m_law_wide := PySem.W.mg_of X G a_law_wide
    a_law_far := f_law_far
    d_law_far := _
    F_law_far := fun_mk (st := s_law_far) l_law_far c_law_far k_law_far
    m_law_far := PySem.W.mg_of X G a_law_far
    a_law_tokens := f_law_tokens
    d_law_tokens := _
    F_law_tokens := fun_mk (st := s_law_tokens) l_law_tokens c_law_tokens k_law_tokens
    m_law_tokens := PySem.W.mg_of X G a_law_tokens
    a_law_written := f_law_written
    d_law_written := _
    F_law_written := fun_mk (st := s_law_written) l_law_written c_law_written k_law_written
    m_law_written := PySem.W.mg_of X G a_law_written
    a_law_item_text := f_law_item_text
    d_law_item_text := _
    F_law_item_text := fun_mk (st := s_law_item_text) l_law_item_text c_law_item_text k_law_item_text
    m_law_item_text := PySem.W.mg_of X G a_law_item_text
    a_law_rows_of_text := f_law_rows_of_text
    d_law_rows_of_text := _
    F_law_rows_of_text := fun_mk (st := s_law_rows_of_text) l_law_rows_of_text c_law_rows_of_text k_law_rows_of_text
    m_law_rows_of_text := PySem.W.mg_of X G a_law_rows_of_text
    a_law_same := f_law_same
    d_law_same := _
    F_law_same := fun_mk (st := s_law_same) l_law_same c_law_same k_law_same
    m_law_same := PySem.W.mg_of X G a_law_same
    a_law_called := f_law_called
    d_law_called := _
    F_law_called := fun_mk (st := s_law_called) l_law_called c_law_called k_law_called
    m_law_called := PySem.W.mg_of X G a_law_called
    a_law_deep := f_law_deep
    d_law_deep := _
    F_law_deep := fun_mk (st := s_law_deep) l_law_deep c_law_deep k_law_deep
    m_law_deep := PySem.W.mg_of X G a_law_deep
    alaw := fa
    dlaw := _
    Flaw := fun_mk (st := slaw) llaw claw klaw
    mlaw := PySem.W.mg_of X G alaw }
  refine ⟨T.dlaw, fun s v => .of_eq rfl, fun base _ _ => ?_⟩
  let D : Dic K w mg := {
    c_EXPRESSION_PARTS := c_EXPRESSION_PARTS
    g_EXPRESSION_PARTS := PySem.W.mg_of X G g_EXPRESSION_PARTS
    e_EXPRESSION_PARTS := e_EXPRESSION_PARTS
    n_EXPRESSION_PARTS := n_EXPRESSION_PARTS
    D_EXPRESSION_PARTS := ⟨d_EXPRESSION_PARTS, l_EXPRESSION_PARTS, s_EXPRESSION_PARTS⟩
    y_EXPRESSION_PARTS := y_EXPRESSION_PARTS
    q_EXPRESSION_PARTS := by
      intro x ks h
      simp only [rows_EXPRESSION_PARTS, List.mem_cons, List.not_mem_nil, or_false, Prod.mk.injEq] at h
      rcases h with ⟨rfl, rfl⟩ | ⟨rfl, rfl⟩ | ⟨rfl, rfl⟩ | ⟨rfl, rfl⟩ | ⟨rfl, rfl⟩ | ⟨rfl, rfl⟩ | ⟨rfl, rfl⟩ | ⟨rfl, rfl⟩ | ⟨rfl, rfl⟩
      · exact ⟨_, q0_EXPRESSION_PARTS, k0_EXPRESSION_PARTS⟩
      · exact ⟨_, q1_EXPRESSION_PARTS, k1_EXPRESSION_PARTS⟩
      · exact ⟨_, q2_EXPRESSION_PARTS, k2_EXPRESSION_PARTS⟩
      · exact ⟨_, q3_EXPRESSION_PARTS, k3_EXPRESSION_PARTS⟩
      · exact ⟨_, q4_EXPRESSION_PARTS, k4_EXPRESSION_PARTS⟩
      · exact ⟨_, q5_EXPRESSION_PARTS, k5_EXPRESSION_PARTS⟩
      · exact ⟨_, q6_EXPRESSION_PARTS, k6_EXPRESSION_PARTS⟩
      · exact ⟨_, q7_EXPRESSION_PARTS, k7_EXPRESSION_PARTS⟩
      · exact ⟨_, q8_EXPRESSION_PARTS, k8_EXPRESSION_PARTS⟩
    c_CONDITION_PARTS := c_CONDITION_PARTS
    g_CONDITION_PARTS := PySem.W.mg_of X G g_CONDITION_PARTS
    e_CONDITION_PARTS := e_CONDITION_PARTS
    n_CONDITION_PARTS := n_CONDITION_PARTS
    D_CONDITION_PARTS := ⟨d_CONDITION_PARTS, l_CONDITION_PARTS, s_CONDITION_PARTS⟩
    y_CONDITION_PARTS := y_CONDITION_PARTS
    q_CONDITION_PARTS := by
      intro x ks h
      simp only [rows_CONDITION_PARTS, List.mem_cons, List.not_mem_nil, or_false, Prod.mk.injEq] at h
      rcases h with ⟨rfl, rfl⟩ | ⟨rfl, rfl⟩ | ⟨rfl, rfl⟩
      · exact ⟨_, q0_CONDITION_PARTS, k0_CONDITION_PARTS⟩
      · exact ⟨_, q1_CONDITION_PARTS, k1_CONDITION_PARTS⟩
      · exact ⟨_, q2_CONDITION_PARTS, k2_CONDITION_PARTS⟩ }
  let EX : Exs K mg := {
    c_ControlError := c_ControlError
    g_ControlError := PySem.W.mg_of X G g_ControlError
    c_InvalidExpression := c_InvalidExpression
    g_InvalidExpression := PySem.W.mg_of X G g_InvalidExpression
    c_InvalidPlant := c_InvalidPlant
    g_InvalidPlant := PySem.W.mg_of X G g_InvalidPlant
    c_BadText := c_BadText
    g_BadText := PySem.W.mg_of X G g_BadText
    oe := ⟨⟨_, _, _, _, _, _, _, _, _, _, _, _, _, _, _, ex_cls, ex_rv⟩, ex_sa, ex_b, ex_ty, ex_k⟩
    xf := ⟨ex_hg, ex_hk, ex_b, ex_hd⟩
    n_line := ex_n_line
    n_column := ex_n_column
    aI := fI
    dI := _
    FI := fun_mk (st := sI_BadText) ex_lI ex_cI ex_kI
    bI := (fun_mk (st := sI_BadText) ex_lI ex_cI ex_kI).binds fun _ _ _ _ _ _ us hl => match us, hl with | [_, _, _], _ => rfl
    iI := ex_iI
    tI := ex_tI
    k := ex_k
    b := ex_b
    sV := ex_sV
    bC := ex_bC
    ec := ⟨ex_hg, ex_hk, ex_b, ex_hd, ex_ha, ex_hn, ex_ht, ex_hm⟩
    i_ControlError := i_ControlError
    t_ControlError := t_ControlError
    s_ControlError := s_ControlError
    i_InvalidExpression := i_InvalidExpression
    t_InvalidExpression := t_InvalidExpression
    s_InvalidExpression := s_InvalidExpression
    i_InvalidPlant := i_InvalidPlant
    t_InvalidPlant := t_InvalidPlant
    s_InvalidPlant := s_InvalidPlant
    i_BadText := i_BadText
    t_BadText := t_BadText
    s_BadText := s_BadText }
  exact ok_law T D EX
end NL
open PySem PySem.W PyProof.Rows
set_option maxRecDepth 100000 in
set_option maxHeartbeats 0 in
theorem PySem.Challenge.cw_neverleaves_k15_plants_read_back_holds : PySem.Challenge.rw_neverleaves_k15_plants_read_back.Holds := by
  w_on; o_law; k_head; (case hw => w_witness2)
  k_fill
  refine L2.walk_of (l := PySem.Challenge.rw_neverleaves_k15_plants_read_back) (n := 63) (k := 46) (x := "script") (CX := fun _ => L2.CX0) (sp := fun w => NL.spLaw _) rfl (by decide) rfl ⟨rfl, by decide, by decide⟩ (fun w h Y => PySem.W.kIn_of Y) ?F (fun _ _ a ns hl _ hS => ⟨a, ns, rfl, hS, hl, fun _ => rfl⟩) (fun _ _ _ _ _ h => h)
  case F =>
    intro w mg fa h KX G hmg
    refine' NL.all_mk KX G hmg ?arun_end ?lrun_end ?crun_end ?krun_end ?ais_name ?lis_name ?cis_name ?kis_name ?ais_integer ?lis_integer ?cis_integer ?kis_integer ?aparts_in ?lparts_in ?cparts_in ?kparts_in ?acheck_expression ?lcheck_expression ?ccheck_expression ?kcheck_expression ?acheck_condition ?lcheck_condition ?ccheck_condition ?kcheck_condition ?a_check ?l_check ?c_check ?k_check ?anames_in ?lnames_in ?cnames_in ?knames_in ?a_all_names ?l_all_names ?c_all_names ?k_all_names ?atokens_of ?ltokens_of ?ctokens_of ?ktokens_of ?a_piece_end ?l_piece_end ?c_piece_end ?k_piece_end ?aread_whole ?lread_whole ?cread_whole ?kread_whole ?a_pass_token ?l_pass_token ?c_pass_token ?k_pass_token ?a_read_part ?l_read_part ?c_read_part ?k_read_part ?a_read_divisor ?l_read_divisor ?c_read_divisor ?k_read_divisor ?a_read_expression ?l_read_expression ?c_read_expression ?k_read_expression ?a_read_condition ?l_read_condition ?c_read_condition ?k_read_condition ?a_read_parts ?l_read_parts ?c_read_parts ?k_read_parts ?a_read_conditions ?l_read_conditions ?c_read_conditions ?k_read_conditions ?anames_of ?lnames_of ?cnames_of ?knames_of ?acheck_plant ?lcheck_plant ?ccheck_plant ?kcheck_plant ?a_check_ranges ?l_check_ranges ?c_check_ranges ?k_check_ranges ?a_check_parts ?l_check_parts ?c_check_parts ?k_check_parts ?a_check_names_in ?l_check_names_in ?c_check_names_in ?k_check_names_in ?a_written ?l_written ?c_written ?k_written ?awrite_plant ?lwrite_plant ?cwrite_plant ?kwrite_plant ?a_range_lines ?l_range_lines ?c_range_lines ?k_range_lines ?aread_plant ?lread_plant ?cread_plant ?kread_plant ?a_read_ranges ?l_read_ranges ?c_read_ranges ?k_read_ranges ?a_is_range ?l_is_range ?c_is_range ?k_is_range ?a_read_behind ?l_read_behind ?c_read_behind ?k_read_behind ?a_law_draws ?l_law_draws ?c_law_draws ?k_law_draws ?a_law_take ?l_law_take ?c_law_take ?k_law_take ?a_law_cell ?l_law_cell ?c_law_cell ?k_law_cell ?a_law_word ?l_law_word ?c_law_word ?k_law_word ?a_law_some_word ?l_law_some_word ?c_law_some_word ?k_law_some_word ?a_law_reserved ?l_law_reserved ?c_law_reserved ?k_law_reserved ?a_law_name ?l_law_name ?c_law_name ?k_law_name ?a_law_names ?l_law_names ?c_law_names ?k_law_names ?a_law_number ?l_law_number ?c_law_number ?k_law_number ?a_law_leaf ?l_law_leaf ?c_law_leaf ?k_law_leaf ?a_law_expression ?l_law_expression ?c_law_expression ?k_law_expression ?a_law_test ?l_law_test ?c_law_test ?k_law_test ?a_law_inner ?l_law_inner ?c_law_inner ?k_law_inner ?a_law_depth ?l_law_depth ?c_law_depth ?k_law_depth ?a_law_is_test ?l_law_is_test ?c_law_is_test ?k_law_is_test ?a_law_around ?l_law_around ?c_law_around ?k_law_around ?a_law_ranges ?l_law_ranges ?c_law_ranges ?k_law_ranges ?a_law_step ?l_law_step ?c_law_step ?k_law_step ?a_law_plant ?l_law_plant ?c_law_plant ?k_law_plant ?a_law_wide ?l_law_wide ?c_law_wide ?k_law_wide ?a_law_far ?l_law_far ?c_law_far ?k_law_far ?a_law_tokens ?l_law_tokens ?c_law_tokens ?k_law_tokens ?a_law_written ?l_law_written ?c_law_written ?k_law_written ?a_law_item_text ?l_law_item_text ?c_law_item_text ?k_law_item_text ?a_law_rows_of_text ?l_law_rows_of_text ?c_law_rows_of_text ?k_law_rows_of_text ?a_law_same ?l_law_same ?c_law_same ?k_law_same ?a_law_called ?l_law_called ?c_law_called ?k_law_called ?a_law_deep ?l_law_deep ?c_law_deep ?k_law_deep ?alaw ?llaw ?claw ?klaw ?g_LETTERS ?r_LETTERS ?g_DIGITS ?r_DIGITS ?g_MOST_DIGITS ?r_MOST_DIGITS ?g_WORDS ?k_WORDS ?g_MOST_DEPTH ?r_MOST_DEPTH ?g_EXPRESSION_PARTS ?d_EXPRESSION_PARTS ?l_EXPRESSION_PARTS ?s_EXPRESSION_PARTS ?y_EXPRESSION_PARTS ?q0_EXPRESSION_PARTS ?k0_EXPRESSION_PARTS ?q1_EXPRESSION_PARTS ?k1_EXPRESSION_PARTS ?q2_EXPRESSION_PARTS ?k2_EXPRESSION_PARTS ?q3_EXPRESSION_PARTS ?k3_EXPRESSION_PARTS ?q4_EXPRESSION_PARTS ?k4_EXPRESSION_PARTS ?q5_EXPRESSION_PARTS ?k5_EXPRESSION_PARTS ?q6_EXPRESSION_PARTS ?k6_EXPRESSION_PARTS ?q7_EXPRESSION_PARTS ?k7_EXPRESSION_PARTS ?q8_EXPRESSION_PARTS ?k8_EXPRESSION_PARTS ?g_CONDITION_PARTS ?d_CONDITION_PARTS ?l_CONDITION_PARTS ?s_CONDITION_PARTS ?y_CONDITION_PARTS ?q0_CONDITION_PARTS ?k0_CONDITION_PARTS ?q1_CONDITION_PARTS ?k1_CONDITION_PARTS ?q2_CONDITION_PARTS ?k2_CONDITION_PARTS ?g_ControlError ?g_InvalidExpression ?g_InvalidPlant ?g_BadText ?ex_cls ?ex_rv ?ex_sa ?ex_ty ?ex_n_line ?ex_n_column ?ex_iI ?ex_tI ?ex_lI ?ex_cI ?ex_kI ?ex_k ?ex_b ?ex_sV ?ex_bC ?ex_hg ?ex_hk ?ex_hd ?ex_ha ?ex_hn ?ex_ht ?ex_hm ?i_ControlError ?t_ControlError ?s_ControlError ?i_InvalidExpression ?t_InvalidExpression ?s_InvalidExpression ?i_InvalidPlant ?t_InvalidPlant ?s_InvalidPlant ?i_BadText ?t_BadText ?s_BadText ?z_abs ?z_all ?z_bool ?z_int ?z_isinstance ?z_len ?z_list ?z_max ?z_min ?z_range ?z_set ?z_sorted ?z_str ?z_tuple ?z_zip
    (case arun_end => k_is); (case lrun_end => k_is); (case crun_end => k_is); (case krun_end => k_is)
    (case ais_name => k_is); (case lis_name => k_is); (case cis_name => k_is); (case kis_name => k_is)
    (case ais_integer => k_is); (case lis_integer => k_is); (case cis_integer => k_is); (case kis_integer => k_is)
    (case aparts_in => k_is); (case lparts_in => k_is); (case cparts_in => k_is); (case kparts_in => k_is)
    (case acheck_expression => k_is); (case lcheck_expression => k_is); (case ccheck_expression => k_is); (case kcheck_expression => k_is)
    (case acheck_condition => k_is); (case lcheck_condition => k_is); (case ccheck_condition => k_is); (case kcheck_condition => k_is)
    (case a_check => k_is); (case l_check => k_is); (case c_check => k_is); (case k_check => k_is)
    (case anames_in => k_is); (case lnames_in => k_is); (case cnames_in => k_is); (case knames_in => k_is)
    (case a_all_names => k_is); (case l_all_names => k_is); (case c_all_names => k_is); (case k_all_names => k_is)
    (case atokens_of => k_is); (case ltokens_of => k_is); (case ctokens_of => k_is); (case ktokens_of => k_is)
    (case a_piece_end => k_is); (case l_piece_end => k_is); (case c_piece_end => k_is); (case k_piece_end => k_is)
    (case aread_whole => k_is); (case lread_whole => k_is); (case cread_whole => k_is); (case kread_whole => k_is)
    (case a_pass_token => k_is); (case l_pass_token => k_is); (case c_pass_token => k_is); (case k_pass_token => k_is)
    (case a_read_part => k_is); (case l_read_part => k_is); (case c_read_part => k_is); (case k_read_part => k_is)
    (case a_read_divisor => k_is); (case l_read_divisor => k_is); (case c_read_divisor => k_is); (case k_read_divisor => k_is)
    (case a_read_expression => k_is); (case l_read_expression => k_is); (case c_read_expression => k_is); (case k_read_expression => k_is)
    (case a_read_condition => k_is); (case l_read_condition => k_is); (case c_read_condition => k_is); (case k_read_condition => k_is)
    (case a_read_parts => k_is); (case l_read_parts => k_is); (case c_read_parts => k_is); (case k_read_parts => k_is)
    (case a_read_conditions => k_is); (case l_read_conditions => k_is); (case c_read_conditions => k_is); (case k_read_conditions => k_is)
    (case anames_of => k_is); (case lnames_of => k_is); (case cnames_of => k_is); (case knames_of => k_is)
    (case acheck_plant => k_is); (case lcheck_plant => k_is); (case ccheck_plant => k_is); (case kcheck_plant => k_is)
    (case a_check_ranges => k_is); (case l_check_ranges => k_is); (case c_check_ranges => k_is); (case k_check_ranges => k_is)
    (case a_check_parts => k_is); (case l_check_parts => k_is); (case c_check_parts => k_is); (case k_check_parts => k_is)
    (case a_check_names_in => k_is); (case l_check_names_in => k_is); (case c_check_names_in => k_is); (case k_check_names_in => k_is)
    (case a_written => k_is); (case l_written => k_is); (case c_written => k_is); (case k_written => k_is)
    (case awrite_plant => k_is); (case lwrite_plant => k_is); (case cwrite_plant => k_is); (case kwrite_plant => k_is)
    (case a_range_lines => k_is); (case l_range_lines => k_is); (case c_range_lines => k_is); (case k_range_lines => k_is)
    (case aread_plant => k_is); (case lread_plant => k_is); (case cread_plant => k_is); (case kread_plant => k_is)
    (case a_read_ranges => k_is); (case l_read_ranges => k_is); (case c_read_ranges => k_is); (case k_read_ranges => k_is)
    (case a_is_range => k_is); (case l_is_range => k_is); (case c_is_range => k_is); (case k_is_range => k_is)
    (case a_read_behind => k_is); (case l_read_behind => k_is); (case c_read_behind => k_is); (case k_read_behind => k_is)
    (case a_law_draws => k_is); (case l_law_draws => k_is); (case c_law_draws => k_is); (case k_law_draws => k_is)
    (case a_law_take => k_is); (case l_law_take => k_is); (case c_law_take => k_is); (case k_law_take => k_is)
    (case a_law_cell => k_is); (case l_law_cell => k_is); (case c_law_cell => k_is); (case k_law_cell => k_is)
    (case a_law_word => k_is); (case l_law_word => k_is); (case c_law_word => k_is); (case k_law_word => k_is)
    (case a_law_some_word => k_is); (case l_law_some_word => k_is); (case c_law_some_word => k_is); (case k_law_some_word => k_is)
    (case a_law_reserved => k_is); (case l_law_reserved => k_is); (case c_law_reserved => k_is); (case k_law_reserved => k_is)
    (case a_law_name => k_is); (case l_law_name => k_is); (case c_law_name => k_is); (case k_law_name => k_is)
    (case a_law_names => k_is); (case l_law_names => k_is); (case c_law_names => k_is); (case k_law_names => k_is)
    (case a_law_number => k_is); (case l_law_number => k_is); (case c_law_number => k_is); (case k_law_number => k_is)
    (case a_law_leaf => k_is); (case l_law_leaf => k_is); (case c_law_leaf => k_is); (case k_law_leaf => k_is)
    (case a_law_expression => k_is); (case l_law_expression => k_is); (case c_law_expression => k_is); (case k_law_expression => k_is)
    (case a_law_test => k_is); (case l_law_test => k_is); (case c_law_test => k_is); (case k_law_test => k_is)
    (case a_law_inner => k_is); (case l_law_inner => k_is); (case c_law_inner => k_is); (case k_law_inner => k_is)
    (case a_law_depth => k_is); (case l_law_depth => k_is); (case c_law_depth => k_is); (case k_law_depth => k_is)
    (case a_law_is_test => k_is); (case l_law_is_test => k_is); (case c_law_is_test => k_is); (case k_law_is_test => k_is)
    (case a_law_around => k_is); (case l_law_around => k_is); (case c_law_around => k_is); (case k_law_around => k_is)
    (case a_law_ranges => k_is); (case l_law_ranges => k_is); (case c_law_ranges => k_is); (case k_law_ranges => k_is)
    (case a_law_step => k_is); (case l_law_step => k_is); (case c_law_step => k_is); (case k_law_step => k_is)
    (case a_law_plant => k_is); (case l_law_plant => k_is); (case c_law_plant => k_is); (case k_law_plant => k_is)
    (case a_law_wide => k_is); (case l_law_wide => k_is); (case c_law_wide => k_is); (case k_law_wide => k_is)
    (case a_law_far => k_is); (case l_law_far => k_is); (case c_law_far => k_is); (case k_law_far => k_is)
    (case a_law_tokens => k_is); (case l_law_tokens => k_is); (case c_law_tokens => k_is); (case k_law_tokens => k_is)
    (case a_law_written => k_is); (case l_law_written => k_is); (case c_law_written => k_is); (case k_law_written => k_is)
    (case a_law_item_text => k_is); (case l_law_item_text => k_is); (case c_law_item_text => k_is); (case k_law_item_text => k_is)
    (case a_law_rows_of_text => k_is); (case l_law_rows_of_text => k_is); (case c_law_rows_of_text => k_is); (case k_law_rows_of_text => k_is)
    (case a_law_same => k_is); (case l_law_same => k_is); (case c_law_same => k_is); (case k_law_same => k_is)
    (case a_law_called => k_is); (case l_law_called => k_is); (case c_law_called => k_is); (case k_law_called => k_is)
    (case a_law_deep => k_is); (case l_law_deep => k_is); (case c_law_deep => k_is); (case k_law_deep => k_is)
    (case alaw => k_is); (case llaw => k_is); (case claw => k_is); (case klaw => k_is)
    (case g_LETTERS => k_is); (case r_LETTERS => exact ⟨_, rfl⟩)
    (case g_DIGITS => k_is); (case r_DIGITS => exact ⟨_, rfl⟩)
    (case g_MOST_DIGITS => k_is); (case r_MOST_DIGITS => exact ⟨_, rfl⟩)
    (case g_WORDS => k_is); (case k_WORDS => (refine' NL.kt_mk ?h1 ?h2 ?h3 ?h4 ?h5; (case h1 => k_is); (case h2 => rfl); (case h3 => rfl); (case h4 => decide); (case h5 => repeat (first | exact .nil | refine .cons ⟨_, rfl⟩ ?_))))
    (case g_MOST_DEPTH => k_is); (case r_MOST_DEPTH => exact ⟨_, rfl⟩)
    (case g_EXPRESSION_PARTS => k_is); (case d_EXPRESSION_PARTS => k_is); (case l_EXPRESSION_PARTS => repeat (first | exact trivial | refine ⟨⟨_, _, rfl, rfl⟩, ?_⟩)); (case s_EXPRESSION_PARTS => decide); (case y_EXPRESSION_PARTS => rfl)
    (case q0_EXPRESSION_PARTS => k_is); (case k0_EXPRESSION_PARTS => (refine' NL.kt_mk ?h1 ?h2 ?h3 ?h4 ?h5; (case h1 => k_is); (case h2 => rfl); (case h3 => rfl); (case h4 => decide); (case h5 => repeat (first | exact .nil | refine .cons ⟨_, rfl⟩ ?_))))
    (case q1_EXPRESSION_PARTS => k_is); (case k1_EXPRESSION_PARTS => (refine' NL.kt_mk ?h1 ?h2 ?h3 ?h4 ?h5; (case h1 => k_is); (case h2 => rfl); (case h3 => rfl); (case h4 => decide); (case h5 => repeat (first | exact .nil | refine .cons ⟨_, rfl⟩ ?_))))
    (case q2_EXPRESSION_PARTS => k_is); (case k2_EXPRESSION_PARTS => (refine' NL.kt_mk ?h1 ?h2 ?h3 ?h4 ?h5; (case h1 => k_is); (case h2 => rfl); (case h3 => rfl); (case h4 => decide); (case h5 => repeat (first | exact .nil | refine .cons ⟨_, rfl⟩ ?_))))
    (case q3_EXPRESSION_PARTS => k_is); (case k3_EXPRESSION_PARTS => (refine' NL.kt_mk ?h1 ?h2 ?h3 ?h4 ?h5; (case h1 => k_is); (case h2 => rfl); (case h3 => rfl); (case h4 => decide); (case h5 => repeat (first | exact .nil | refine .cons ⟨_, rfl⟩ ?_))))
    (case q4_EXPRESSION_PARTS => k_is); (case k4_EXPRESSION_PARTS => (refine' NL.kt_mk ?h1 ?h2 ?h3 ?h4 ?h5; (case h1 => k_is); (case h2 => rfl); (case h3 => rfl); (case h4 => decide); (case h5 => repeat (first | exact .nil | refine .cons ⟨_, rfl⟩ ?_))))
    (case q5_EXPRESSION_PARTS => k_is); (case k5_EXPRESSION_PARTS => (refine' NL.kt_mk ?h1 ?h2 ?h3 ?h4 ?h5; (case h1 => k_is); (case h2 => rfl); (case h3 => rfl); (case h4 => decide); (case h5 => repeat (first | exact .nil | refine .cons ⟨_, rfl⟩ ?_))))
    (case q6_EXPRESSION_PARTS => k_is); (case k6_EXPRESSION_PARTS => (refine' NL.kt_mk ?h1 ?h2 ?h3 ?h4 ?h5; (case h1 => k_is); (case h2 => rfl); (case h3 => rfl); (case h4 => decide); (case h5 => repeat (first | exact .nil | refine .cons ⟨_, rfl⟩ ?_))))
    (case q7_EXPRESSION_PARTS => k_is); (case k7_EXPRESSION_PARTS => (refine' NL.kt_mk ?h1 ?h2 ?h3 ?h4 ?h5; (case h1 => k_is); (case h2 => rfl); (case h3 => rfl); (case h4 => decide); (case h5 => repeat (first | exact .nil | refine .cons ⟨_, rfl⟩ ?_))))
    (case q8_EXPRESSION_PARTS => k_is); (case k8_EXPRESSION_PARTS => (refine' NL.kt_mk ?h1 ?h2 ?h3 ?h4 ?h5; (case h1 => k_is); (case h2 => rfl); (case h3 => rfl); (case h4 => decide); (case h5 => repeat (first | exact .nil | refine .cons ⟨_, rfl⟩ ?_))))
    (case g_CONDITION_PARTS => k_is); (case d_CONDITION_PARTS => k_is); (case l_CONDITION_PARTS => repeat (first | exact trivial | refine ⟨⟨_, _, rfl, rfl⟩, ?_⟩)); (case s_CONDITION_PARTS => decide); (case y_CONDITION_PARTS => rfl)
    (case q0_CONDITION_PARTS => k_is); (case k0_CONDITION_PARTS => (refine' NL.kt_mk ?h1 ?h2 ?h3 ?h4 ?h5; (case h1 => k_is); (case h2 => rfl); (case h3 => rfl); (case h4 => decide); (case h5 => repeat (first | exact .nil | refine .cons ⟨_, rfl⟩ ?_))))
    (case q1_CONDITION_PARTS => k_is); (case k1_CONDITION_PARTS => (refine' NL.kt_mk ?h1 ?h2 ?h3 ?h4 ?h5; (case h1 => k_is); (case h2 => rfl); (case h3 => rfl); (case h4 => decide); (case h5 => repeat (first | exact .nil | refine .cons ⟨_, rfl⟩ ?_))))
    (case q2_CONDITION_PARTS => k_is); (case k2_CONDITION_PARTS => (refine' NL.kt_mk ?h1 ?h2 ?h3 ?h4 ?h5; (case h1 => k_is); (case h2 => rfl); (case h3 => rfl); (case h4 => decide); (case h5 => repeat (first | exact .nil | refine .cons ⟨_, rfl⟩ ?_))))
    (case g_ControlError => k_is)
    (case g_InvalidExpression => k_is)
    (case g_InvalidPlant => k_is)
    (case g_BadText => k_is)
    (case i_ControlError => k_is); (case t_ControlError => k_is); (case s_ControlError => first | rfl | k_is)
    (case i_InvalidExpression => k_is); (case t_InvalidExpression => k_is); (case s_InvalidExpression => first | rfl | k_is)
    (case i_InvalidPlant => k_is); (case t_InvalidPlant => k_is); (case s_InvalidPlant => first | rfl | k_is)
    (case i_BadText => k_is); (case t_BadText => k_is); (case s_BadText => first | rfl | k_is)
    (case ex_cls => k_is); (case ex_rv => decide +kernel); (case ex_sa => k_is); (case ex_ty => k_is); (case ex_iI => k_is); (case ex_tI => k_is); (case ex_lI => k_is); (case ex_cI => k_is); (case ex_kI => k_is); (case ex_n_line => k_is); (case ex_n_column => k_is)
    (case ex_k => k_is); (case ex_b => k_is); (case ex_sV => k_is); (case ex_bC => k_is); (case ex_hg => k_is); (case ex_hk => k_is); (case ex_hd => k_is); (case ex_ha => k_is); (case ex_hn => first | rfl | decide +kernel | k_is); (case ex_ht => first | rfl | decide +kernel | k_is); (case ex_hm => k_is)
    (case z_abs => k_is)
    (case z_all => k_is)
    (case z_bool => k_is)
    (case z_int => k_is)
    (case z_isinstance => k_is)
    (case z_len => k_is)
    (case z_list => k_is)
    (case z_max => k_is)
    (case z_min => k_is)
    (case z_range => k_is)
    (case z_set => k_is)
    (case z_sorted => k_is)
    (case z_str => k_is)
    (case z_tuple => k_is)
    (case z_zip => k_is)
